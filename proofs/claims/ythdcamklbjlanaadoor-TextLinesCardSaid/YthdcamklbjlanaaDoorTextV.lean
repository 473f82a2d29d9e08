import Derived.Test.YthdcamklbjlanaaDoorTextP
import Derived.Test.YthdcamklbjlanaaDoorTextF1
import Derived.Test.YthdcamklbjlanaaDoorTextF2
import Derived.Test.YthdcamklbjlanaaDoorTextF3
/-! the walks of the reference's Form (whole), Next, Bad, Runes -/
namespace Go.Proofs.YthdcamklbjlanaaDoor
set_option linter.unusedVariables false
open Go.RowKit

set_option maxRecDepth 100000 in
set_option maxHeartbeats 400000 in
theorem form_out (s : ByteArray) (i : Int) (w : World) (h : i < 0 ∨ (s.size : Int) ≤ i) :
    Calls Tryd.prog 21 #[.string s, .int .i64 i] w fun e w' => e = .returned (.tuple #[.int .i64 (formI s i).1, .int .i64 (formI s i).2]) ∧ ∃ n, w' = w.drewN n := by
  have hv := Lib.hid (formI_out s i (by omega))
  rcases h with h | h
  · go_enter Tryd.func21, Tryd.ntmps21
    go_wp2
    go_ret2
    exact ⟨ret_form hv.out, 0, rfl⟩
  · have h0 : 0 ≤ i := by omega
    go_enter Tryd.func21, Tryd.ntmps21
    go_wp2
    go_ret2
    exact ⟨ret_form hv.out, 0, rfl⟩

theorem form_any (s : ByteArray) (i : Int) (w : World) (hs : s.size ≤ 140737488351232) :
    Calls Tryd.prog 21 #[.string s, .int .i64 i] w fun e w' => e = .returned (.tuple #[.int .i64 (formI s i).1, .int .i64 (formI s i).2]) ∧ ∃ n, w' = w.drewN n := by
  by_cases h : 0 ≤ i ∧ i < s.size
  · obtain ⟨k, rfl⟩ := Int.eq_ofNat_of_zero_le h.1
    have h1 : k < s.size := by omega
    have hb := byteAt_bd s k
    rcases (show byteAt s k ≤ 127 ∨ (128 ≤ byteAt s k ∧ byteAt s k ≤ 193) ∨ (194 ≤ byteAt s k ∧ byteAt s k ≤ 223) ∨ (224 ≤ byteAt s k ∧ byteAt s k ≤ 224) ∨ (225 ≤ byteAt s k ∧ byteAt s k ≤ 236) ∨ (237 ≤ byteAt s k ∧ byteAt s k ≤ 237) ∨
        (238 ≤ byteAt s k ∧ byteAt s k ≤ 239) ∨ (240 ≤ byteAt s k ∧ byteAt s k ≤ 240) ∨ (241 ≤ byteAt s k ∧ byteAt s k ≤ 243) ∨ (244 ≤ byteAt s k ∧ byteAt s k ≤ 244) ∨ 245 ≤ byteAt s k by omega)
      with c | ⟨c, d⟩ | ⟨c, d⟩ | ⟨c, d⟩ | ⟨c, d⟩ | ⟨c, d⟩ | ⟨c, d⟩ | ⟨c, d⟩ | ⟨c, d⟩ | ⟨c, d⟩ | c
    · exact form_a s k w hs h1 hb.1 c
    · exact form_b s k w hs h1 c d
    · cases m : moreB s ((k : Int) + 1) 128 191
      · exact form_cn s k w hs h1 c d m
      · exact form_c s k w hs h1 c d m
    · cases m : moreB s ((k : Int) + 1) 160 191
      · exact form_dn1 s k w hs h1 c d m
      · cases m2 : moreB s ((k : Int) + 2) 128 191
        · exact form_dn2 s k w hs h1 c d m m2
        · exact form_d s k w hs h1 c d m m2
    · cases m : moreB s ((k : Int) + 1) 128 191
      · exact form_en1 s k w hs h1 c d m
      · cases m2 : moreB s ((k : Int) + 2) 128 191
        · exact form_en2 s k w hs h1 c d m m2
        · exact form_e s k w hs h1 c d m m2
    · cases m : moreB s ((k : Int) + 1) 128 159
      · exact form_fn1 s k w hs h1 c d m
      · cases m2 : moreB s ((k : Int) + 2) 128 191
        · exact form_fn2 s k w hs h1 c d m m2
        · exact form_f s k w hs h1 c d m m2
    · cases m : moreB s ((k : Int) + 1) 128 191
      · exact form_gn1 s k w hs h1 c d m
      · cases m2 : moreB s ((k : Int) + 2) 128 191
        · exact form_gn2 s k w hs h1 c d m m2
        · exact form_g s k w hs h1 c d m m2
    · cases m : moreB s ((k : Int) + 1) 144 191
      · exact form_hn1 s k w hs h1 c d m
      · cases m2 : moreB s ((k : Int) + 2) 128 191
        · exact form_hn2 s k w hs h1 c d m m2
        · cases m3 : moreB s ((k : Int) + 3) 128 191
          · exact form_hn3 s k w hs h1 c d m m2 m3
          · exact form_h s k w hs h1 c d m m2 m3
    · cases m : moreB s ((k : Int) + 1) 128 191
      · exact form_in1 s k w hs h1 c d m
      · cases m2 : moreB s ((k : Int) + 2) 128 191
        · exact form_in2 s k w hs h1 c d m m2
        · cases m3 : moreB s ((k : Int) + 3) 128 191
          · exact form_in3 s k w hs h1 c d m m2 m3
          · exact form_i s k w hs h1 c d m m2 m3
    · cases m : moreB s ((k : Int) + 1) 128 143
      · exact form_jn1 s k w hs h1 c d m
      · cases m2 : moreB s ((k : Int) + 2) 128 191
        · exact form_jn2 s k w hs h1 c d m m2
        · cases m3 : moreB s ((k : Int) + 3) 128 191
          · exact form_jn3 s k w hs h1 c d m m2 m3
          · exact form_j s k w hs h1 c d m m2 m3
    · exact form_z s k w hs h1 c hb.2
  · exact form_out s i w (by omega)

set_option maxHeartbeats 400000 in
theorem next_any (s : ByteArray) (k : Nat) (w : World) (hs : s.size ≤ 140737488351232) (h : k < s.size) :
    Calls Tryd.prog 22 #[.string s, .int .i64 k] w fun e w' => e = .returned (.int .i64 ((k + wd s k : Nat) : Int)) ∧ ∃ n, w' = w.drewN n := by
  have h4 := wd_le4 s k
  have h1 := wd_pos s k
  cases hb : badB s k
  · have hf := formI_good s k h hb
    have hz : ((wd s k : Int) == 0) = false := by rw [beq_eq_false_iff_ne]; omega
    go_enter Tryd.func22, Tryd.ntmps22
    go_wp2_with fail
    refine (form_any s k w hs).mono ?_
    rintro e w1 ⟨rfl, n, rfl⟩
    rw [hf]
    go_wp2_with fail
    go_ret
    exact ⟨ret_int (by omega), _, rfl⟩
  · have hf := formI_bad s k h hb
    have hw := Lib.hid (show wd s k = 1 by unfold badB at hb; simp at hb; exact hb.2)
    go_enter Tryd.func22, Tryd.ntmps22
    go_wp2_with fail
    refine (form_any s k w hs).mono ?_
    rintro e w1 ⟨rfl, n, rfl⟩
    rw [hf]
    go_wp2_with fail
    go_ret
    exact ⟨ret_int (by rw [hw.out]; omega), _, rfl⟩
end Go.Proofs.YthdcamklbjlanaaDoor
