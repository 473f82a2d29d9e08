import Derived.Test.YtbdmpilaeoclgaaPostB
set_option linter.unusedSimpArgs false
set_option linter.unusedVariables false
/-! post: what lies between a fork and a meeting (the project) -/
namespace Go.Proofs.Ytbdmpilaeoclgaa
open Go.RowKit
theorem bst_new (W : World) (vb vo vc : Nat) (m : Int) (n : Nat) : BSt W.heap.size W (.slice (some ⟨vb, vo, none⟩) n vc) m n (fun _ => false) (((((W.alloc (.cells #[.slice (some ⟨vb, vo, none⟩) n vc] 22)).alloc (.cells #[.int .i64 m] 3)).alloc (.cells (madeCells #[.bool false] n) 4)).alloc (.cells #[.slice (some ⟨W.heap.size + 1 + 1, 0, none⟩) n n] 45)).alloc (.cells #[.func (.func 68) #[] #[.pointer (some ⟨W.heap.size + 1, 0, none⟩), .pointer (some ⟨W.heap.size + 1 + 1 + 1, 0, none⟩), .pointer (some ⟨W.heap.size, 0, none⟩), .pointer (some ⟨W.heap.size + 1 + 1 + 1 + 1, 0, none⟩)]] 65)) := by
  refine ⟨?_, ?_, ?_, ?_, ?_, ?_, by simp⟩
  · rw [heap_alloc_old _ _ (by simp; omega), heap_alloc_old _ _ (by simp; omega), heap_alloc_old _ _ (by simp; omega), heap_alloc_old _ _ (by simp), heap_alloc_new]
  · rw [heap_alloc_old _ _ (by simp), heap_alloc_old _ _ (by simp), heap_alloc_old _ _ (by simp)]
    have := heap_alloc_new (W.alloc (.cells #[.slice (some ⟨vb, vo, none⟩) n vc] 22)) (.cells #[.int .i64 m] 3)
    simpa using this
  · rw [heap_alloc_old _ _ (by simp)]
    have := heap_alloc_new (((W.alloc (.cells #[.slice (some ⟨vb, vo, none⟩) n vc] 22)).alloc (.cells #[.int .i64 m] 3)).alloc (.cells (madeCells #[.bool false] n) 4)) (.cells #[.slice (some ⟨W.heap.size + 1 + 1, 0, none⟩) n n] 45)
    simpa using this
  · have h : FlagsN (((W.alloc (.cells #[.slice (some ⟨vb, vo, none⟩) n vc] 22)).alloc (.cells #[.int .i64 m] 3)).alloc (.cells (madeCells #[.bool false] n) 4)) ((W.alloc (.cells #[.slice (some ⟨vb, vo, none⟩) n vc] 22)).alloc (.cells #[.int .i64 m] 3)).heap.size n (fun _ => false) := World.rowIs_made _ (.bool false) n 4
    rw [show ((W.alloc (.cells #[.slice (some ⟨vb, vo, none⟩) n vc] 22)).alloc (.cells #[.int .i64 m] 3)).heap.size = W.heap.size + 2 by simp] at h
    refine h.of_block ?_
    rw [heap_alloc_old _ _ (by simp), heap_alloc_old _ _ (by simp)]
  · have := heap_alloc_new ((((W.alloc (.cells #[.slice (some ⟨vb, vo, none⟩) n vc] 22)).alloc (.cells #[.int .i64 m] 3)).alloc (.cells (madeCells #[.bool false] n) 4)).alloc (.cells #[.slice (some ⟨W.heap.size + 1 + 1, 0, none⟩) n n] 45)) (.cells #[.func (.func 68) #[] #[.pointer (some ⟨W.heap.size + 1, 0, none⟩), .pointer (some ⟨W.heap.size + 1 + 1 + 1, 0, none⟩), .pointer (some ⟨W.heap.size, 0, none⟩), .pointer (some ⟨W.heap.size + 1 + 1 + 1 + 1, 0, none⟩)]] 65)
    simpa using this
  · exact (((((Below.refl _ _).alloc (Nat.le_refl _) _).alloc (by simp) _).alloc (by simp; omega) _).alloc (by simp; omega) _).alloc (by simp; omega) _
set_option maxRecDepth 100000 in
set_option maxHeartbeats 1600000 in
theorem between_any {v : Value} {to : List (List Int)} (W : World) (hv : GraphM W.heap.size W v to) (hr : GG.rightG to = true) (f : Nat) (hf : f < to.length) (m : Int) :
    Calls Try.prog 59 #[v, .int .i64 f, .int .i64 m] W fun e W' => e = .returned (.slice (some ⟨W.heap.size + 2, 0, none⟩) to.length to.length) ∧ FlagsN W' (W.heap.size + 2) to.length (DD.markB to m f) ∧ Below W.heap.size W W' := by
  have hlen := GG.right_len hr
  obtain ⟨vb, vo, vc, rfl⟩ := hv.addr (by omega)
  have hmf : ∀ (fn : Fn) (first cap : Array Value) (w : World), (Instr.makeFunc fn first cap).run Try.prog w = .ok (.func fn first cap) w := fun _ _ _ _ => rfl
  have hmk := run_make_row' (P := Try.prog) 45 4 (.bool false) 1 (by kernel_rfl) Try.infoGBool rfl .i64 .i64 to.length (by omega) (by omega)
  have HV := Lib.hid hv
  have HR := Lib.hid hr
  have hi : (0 : Int) ≤ f ∧ (f : Int) < to.length := by omega
  have HN := Lib.hid (bst_new W vb vo vc m to.length)
  obtain ⟨ra, rac, hx1, hrx⟩ := (hv.below HN.out.below).at hf
  have HRX := Lib.hid hrx
  have b1 : (to[f]?.getD []).length ≤ 17592186044416 := by have := GG.row_len (GG.right_at hr hf); omega
  have HG := Lib.hid (fun (k : Nat) (hk : k < (to[f]?.getD []).length) => GG.adj_get hk)
  have HRW := Lib.hid (GG.right_at hr hf)
  have HAL := Lib.hid (GG.adj_len to f)
  have HZ := Lib.hid (DD.walkM_zero to m f)
  have HMK := Lib.hid (fun q hq x => DD.walkM_mark hr (m := m) (fork := f) (q := q) hf hq x)
  have HST0 := Lib.hid (fun q j h => DD.walkM_succ (to := to) (m := m) (fork := f) (q := q) (j := j) h)
  obtain ⟨r, er⟩ : ∃ r, r = to[f]?.getD [] := ⟨_, rfl⟩
  rw [← er] at hx1 HRX b1 HG HRW HAL
  clear hv hrx er hr
  go_enter Try.func59, Try.ntmps59
  go_wp2_with fail
  clear hmk
  go_loopw [20] (fun k wr => ∃ q : Nat, q ≤ r.length ∧ k = .int .i64 (q : Int) ∧ BSt W.heap.size W (.slice (some ⟨vb, vo, none⟩) to.length vc) m to.length (DD.walkM to m f q) wr) (fun k _ => r.length - (intOf k).toNat)
  case atStart => exact ⟨0, Nat.zero_le _, rfl, by rw [HZ.out]; exact HN.out⟩
  case round =>
    obtain ⟨q, hq, rfl, hP⟩ := hrel
    have HP := Lib.hid hP
    clear hP hx1
    by_cases hqt : q < r.length
    · have hcv : wr.cell? ⟨W.heap.size + 1 + 1 + 1 + 1, 0, none⟩ = _ := cell_of_one HP.out.vis
      obtain ⟨xb2, xo2, rfl, hx2⟩ := (HRX.out.of_both HN.out.below HP.out.below).cellAt hqt
      have i3 : (0 : Int) ≤ q ∧ (q : Int) < r.length := by omega
      have HX := Lib.hid (GG.row_in HRW.out _ (GG.getD_mem (d := 0) hqt))
      have HST := Lib.hid (HST0.out q _ (HG.out q hqt))
      obtain ⟨x, ex⟩ : ∃ x, x = r[q]?.getD 0 := ⟨_, rfl⟩
      rw [← ex] at hx2 HX HST
      clear ex
      obtain ⟨y, rfl⟩ : ∃ y : Nat, x = (y : Int) := ⟨x.toNat, by have := HX.out; omega⟩
      have HY := Lib.hid (show y < to.length by have := HX.out; omega)
      go_wp2_with (go_at_call 68; refine (bvisit_any rfl HR.out HV.out 257 y _ _ HY.out (by have := GG.unv_le to.length (DD.walkM to m f q); omega) HP.out).mono ?_; rintro e w' ⟨rfl, hP'⟩; have HP' := Lib.hid hP'; clear hP')
      go_roundw
      case rel => exact ⟨q + 1, by omega, by go_num, by rw [HST.out, Int.toNat_natCast]; exact HP'.out⟩
      case measure => simp [intOf]; omega
    · have HE := Lib.hid (HMK.out q (by have := HAL.out; omega))
      have hcb : wr.cell? ⟨W.heap.size + 1 + 1 + 1, 0, none⟩ = _ := cell_of_one HP.out.bV
      clear hmf
      go_wp2_with fail
      go_ret
      exact ⟨rfl, HP.out.been.congr (fun x _ => by rw [HE.out x]), HP.out.below⟩
end Go.Proofs.Ytbdmpilaeoclgaa
