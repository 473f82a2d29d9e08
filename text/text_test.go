package text_test

import (
	"math"
	"strconv"
	"strings"
	"testing"

	"interdict/text"
)

// form tells how many bytes the form has that begins at s[0], worked out from its bits: 0, if none begins there.
func form(s string) int {
	least := []rune{0, 0x80, 0x800, 0x10000}
	heads := []struct{ mask, want byte }{{0x80, 0}, {0xE0, 0xC0}, {0xF0, 0xE0}, {0xF8, 0xF0}}
	for more, h := range heads {
		if len(s) <= more || s[0]&h.mask != h.want {
			continue
		}
		v := rune(s[0] &^ h.mask)
		for _, c := range []byte(s[1 : more+1]) {
			if c&0xC0 != 0x80 {
				return 0
			}
			v = v<<6 | rune(c&0x3F)
		}
		if v < least[more] || v > 0x10FFFF || 0xD800 <= v && v <= 0xDFFF {
			return 0
		}
		return more + 1
	}
	return 0
}

// begins tells where the runes of s begin, and where the first byte stands that begins no form.
func begins(s string) (at []int, bad int) {
	bad = -1
	for i := 0; i < len(s); {
		at = append(at, i)
		n := form(s[i:])
		if n == 0 {
			n = 1
			if bad < 0 {
				bad = i
			}
		}
		i += n
	}
	return at, bad
}

// texts hands all strings of at most n bytes of the alphabet to f.
func texts(alphabet string, n int, f func(string)) {
	var add func(string)
	add = func(s string) {
		f(s)
		if len(s) == n {
			return
		}
		for i := range len(alphabet) {
			add(s + alphabet[i:i+1])
		}
	}
	add("")
}

// Bytes on both sides of each bound between forms.
const edges = "\n A\x7f\x80\x8f\x90\x9f\xa0\xbd\xbf\xc0\xc1\xc2\xdf\xe0\xe1\xed\xef\xf0\xf4\xf5\xff"

func TestBadAndRunesAreAsTheFormsSay(t *testing.T) {
	texts(edges, 4, func(s string) {
		at, bad := begins(s)
		if got := text.Bad(s); got != bad {
			t.Fatalf("P1.1: Bad(%q) = %d, want %d", s, got, bad)
		}
		if got := text.Runes(s); got != len(at) {
			t.Fatalf("P1.1: Runes(%q) = %d, want %d", s, got, len(at))
		}
	})
}

func TestBadAndRunes(t *testing.T) {
	for _, c := range []struct {
		s          string
		bad, runes int
	}{
		{"", -1, 0},
		{"a\u00e9", -1, 2},
		{"a\xff", 1, 2},
		{"\xe2\x82", 0, 2},
		{"\ufffd", -1, 1},
		{"\ufffd\xff", 3, 2},
		{"\xef\xbf", 0, 2},
		{"\u00e9\xa9", 2, 2},
		{"\xc0\x80", 0, 2},
		{"\xe0\x9f\xbf", 0, 3},
		{"\xf0\x8f\xbf\xbf", 0, 4},
		{"\xed\x9f\xbf", -1, 1},
		{"\xed\xa0\x80", 0, 3},
		{"\xed\xbf\xbf", 0, 3},
		{"\xee\x80\x80", -1, 1},
		{"\xf4\x8f\xbf\xbf", -1, 1},
		{"\xf4\x90\x80\x80", 0, 4},
		{"a\x00b\n", -1, 4},
		{"\xe2\x82a\xff", 0, 4},
		{strings.Repeat("\u03b1", 70000) + "\x80", 140000, 70001},
	} {
		if bad, runes := text.Bad(c.s), text.Runes(c.s); bad != c.bad || runes != c.runes {
			t.Errorf("P1.1: of %.40q: %d, %d, want %d, %d", c.s, bad, runes, c.bad, c.runes)
		}
	}
}

const (
	latin  = "abcdefghijklmnopqrstuvwxyzABCDEFGHIJKLMNOPQRSTUVWXYZ_"
	greek  = "αβγδεζηθικλμνξοπρςστυφχψωΑΒΓΔΕΖΗΘΙΚΛΜΝΞΟΠΡΣΤΥΦΧΨΩ"
	digits = "0123456789"
)

func TestLettersAndDigits(t *testing.T) {
	want := map[rune]bool{}
	for _, r := range latin + greek {
		want[r] = true
	}
	if len(want) != 53+25+24 {
		t.Fatalf("the test's own letters are %d", len(want))
	}
	check := func(r rune) {
		if text.Letter(r) != want[r] {
			t.Errorf("P1.2: Letter(%#x) = %v", r, text.Letter(r))
		}
		if digit := '0' <= r && r <= '9'; text.Digit(r) != digit {
			t.Errorf("P1.2: Digit(%#x) = %v", r, text.Digit(r))
		}
	}
	for r := rune(-300); r <= 0x110010; r++ {
		check(r)
	}
	check(math.MinInt32)
	check(math.MaxInt32)
}

func TestNames(t *testing.T) {
	for _, s := range []string{
		"a", "Z", "_", "x9", "_0_", "main", "α1", "Ωmega", "ς", "add",
		strings.Repeat("a", 24), strings.Repeat("ω", 24), "z" + strings.Repeat("9", 23),
	} {
		if !text.Name(s) {
			t.Errorf("P1.2: %q is a name", s)
		}
	}
	for _, s := range []string{
		"", "1", "1α", "é", "aé", "a b", " a", "a ", "a-b", "-a", "a.b", "a\n", "a\x00", "\x00", "a\xff", "\xce", "α\xb1", "a\ufffd", "\u03a2", "a\u03a2", "a\u0660", "ά", "ß",
		strings.Repeat("a", 25), strings.Repeat("ω", 25), "z" + strings.Repeat("9", 24), strings.Repeat("a", 1<<20),
	} {
		if text.Name(s) {
			t.Errorf("P1.2: %.40q is no name", s)
		}
	}
}

func TestNamesAreLettersAndDigits(t *testing.T) {
	for _, r := range latin + greek + digits + "-+. \n\t\x00\ufffdé\u0660\u03b0\u03ca\u0390\u03aa\u03a2@[`{/:^" {
		first, later := text.Letter(r), text.Letter(r) || text.Digit(r)
		if text.Name(string(r)) != first || text.Name("a"+string(r)) != later {
			t.Errorf("P1.2: names of %#x", r)
		}
	}
}

func TestNumbersAndTheirTexts(t *testing.T) {
	for _, c := range []struct {
		s string
		n int64
	}{
		{"0", 0}, {"1", 1}, {"-1", -1}, {"9", 9}, {"10", 10}, {"-10", -10}, {"100", 100}, {"907", 907},
		{"9223372036854775807", math.MaxInt64}, {"-9223372036854775807", -math.MaxInt64},
		{"-9223372036854775808", math.MinInt64}, {"9223372036854775806", math.MaxInt64 - 1},
		{"999999999999999999", 999999999999999999},
	} {
		if n, ok := text.Number(c.s); !ok || n != c.n {
			t.Errorf("P1.3: Number(%q) = %d, %v", c.s, n, ok)
		}
		if s := text.Show(c.n); s != c.s {
			t.Errorf("P1.3: Show(%d) = %q", c.n, s)
		}
	}
}

func TestWhatIsNoNumbersText(t *testing.T) {
	for _, s := range []string{
		"", "-", "+", "-0", "+0", "00", "01", "-01", "007", "+1", "--1", "-+1", "1-", " 1", "1 ", "1\n", "\t1", "1_000", "0x10", "0b1", "0o7", "1e3", "1.0", "1.", ".1", "1\x00", "\xff", "1\xff", "a", "٣", "１", "−1", "inf", "NaN",
		"9223372036854775808", "-9223372036854775809", "9999999999999999999", "10000000000000000000", "-18446744073709551616", "18446744073709551616", "18446744073709551617",
		strings.Repeat("9", 100000), strings.Repeat("0", 100000), "-" + strings.Repeat("1", 100000),
	} {
		if n, ok := text.Number(s); ok || n != 0 {
			t.Errorf("P1.3: Number(%.40q) = %d, %v", s, n, ok)
		}
	}
}

func TestNumberTakesBackWhatShowSays(t *testing.T) {
	n := int64(1)
	for range 20000 {
		n = n*6364136223846793005 + 1442695040888963407
		for shift := 0; shift < 64; shift += 9 {
			m := n >> shift
			s := text.Show(m)
			if s != strconv.FormatInt(m, 10) {
				t.Fatalf("P1.3: Show(%d) = %q", m, s)
			}
			if back, ok := text.Number(s); !ok || back != m {
				t.Fatalf("P1.3: Number(%q) = %d, %v", s, back, ok)
			}
		}
	}
}

func TestNumbersOfAllShortTexts(t *testing.T) {
	right := map[string]int64{}
	for n := int64(-999); n <= 9999; n++ {
		right[strconv.FormatInt(n, 10)] = n
	}
	texts("-+0123456789 _", 4, func(s string) {
		want, is := right[s]
		if n, ok := text.Number(s); ok != is || n != want {
			t.Fatalf("P1.3: Number(%q) = %d, %v", s, n, ok)
		}
	})
}

func TestPlaces(t *testing.T) {
	for _, c := range []struct {
		s                string
		at, line, column int
	}{
		{"", 0, 1, 1},
		{"", 1, 0, 0},
		{"", -1, 0, 0},
		{"a", 1, 1, 2},
		{"a", 2, 0, 0},
		{"a", math.MaxInt, 0, 0},
		{"a", math.MinInt, 0, 0},
		{"aα\nb", 4, 2, 1},
		{"aα\nb", 5, 2, 2},
		{"aα\nb", 3, 1, 3},
		{"aα", 3, 1, 3},
		{"aα", 2, 1, 3},
		{"aα", 1, 1, 2},
		{"\n\n", 0, 1, 1},
		{"\n\n", 1, 2, 1},
		{"\n\n", 2, 3, 1},
		{"a\r\nb", 2, 1, 3},
		{"a\r\nb", 3, 2, 1},
		{"\u2028\u0085x", 5, 1, 3},
		{"\xe2\x82\xac!", 1, 1, 2},
		{"\xe2\x82\xac!", 2, 1, 2},
		{"\xe2\x82\xac!", 3, 1, 2},
		{"\xe2\x82!", 2, 1, 3},
		{"\xff\xff\nb\xff", 1, 1, 2},
		{"\xff\xff\nb\xff", 5, 2, 3},
		{strings.Repeat("\n", 70000), 69999, 70000, 1},
		{strings.Repeat("ω", 70000), 139999, 1, 70001},
	} {
		if line, column := text.Place(c.s, c.at); line != c.line || column != c.column {
			t.Errorf("P1.4: Place(%.40q, %d) = %d, %d, want %d, %d", c.s, c.at, line, column, c.line, c.column)
		}
	}
}

func TestPlacesAreAsTheRunesBegin(t *testing.T) {
	texts("\na\xce\xb1\xe2\x82\xac\xff", 5, func(s string) {
		starts, _ := begins(s)
		for at := -1; at <= len(s)+1; at++ {
			line, column := 0, 0
			if 0 <= at && at <= len(s) {
				from := strings.LastIndexByte(s[:at], '\n') + 1
				line, column = 1+strings.Count(s[:at], "\n"), 1
				for _, i := range starts {
					if from <= i && i < at {
						column++
					}
				}
			}
			if l, c := text.Place(s, at); l != line || c != column {
				t.Fatalf("P1.4: Place(%q, %d) = %d, %d, want %d, %d", s, at, l, c, line, column)
			}
		}
	})
}
