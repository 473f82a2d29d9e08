package token_test

import (
	"math"
	"math/big"
	"regexp"
	"slices"
	"strings"
	"testing"
	"unicode/utf8"

	"interdict/api"
	"interdict/token"
)

// What the chapter says, as expressions of another kind than the package's own.
const (
	letter = `A-Za-z_α-ωΑ-ΡΣ-Ω`
	body   = `[0-9` + letter + `]`
)

var (
	blanks = regexp.MustCompile(`^(?:[ \t\n]|#[^\n]*)*`)
	signs  = regexp.MustCompile(`^[(){}\[\],:=]`)
	pieces = regexp.MustCompile(`^(?:-[0-9]|` + body + `)` + body + `*`)
	name   = regexp.MustCompile(`^[` + letter + `]` + body + `{0,23}$`)
	number = regexp.MustCompile(`^(?:0|-?[1-9][0-9]*)$`)
	words  = strings.Fields("array fn const phi load wrap store call input output release jump branch return " +
		"add sub mul div mod and or xor shl shr eq less")
)

// kind tells of which kind a piece is: 0, if it is none.
func kind(s string) uint8 {
	if slices.Contains(words, s) {
		return api.TWord
	}
	if name.MatchString(s) {
		return api.TName
	}
	if n, ok := new(big.Int).SetString(s, 10); ok && number.MatchString(s) && n.IsInt64() {
		return api.TNum
	}
	return 0
}

// one is what One(s, at) is to answer.
func one(s string, at int) (api.Token, int, api.Errno) {
	if at < 0 || at > len(s) {
		return api.Token{}, 0, api.ErrArg
	}
	from := at + len(blanks.FindString(s[at:]))
	if from == len(s) {
		return api.Token{}, from, api.ErrNone
	}
	if signs.MatchString(s[from:]) {
		return api.Token{Kind: api.TSign, From: from, To: from + 1}, 0, api.OK
	}
	p := pieces.FindString(s[from:])
	if k := kind(p); k != 0 {
		return api.Token{Kind: k, From: from, To: from + len(p)}, 0, api.OK
	}
	return api.Token{}, from, api.ErrToken
}

// bad tells where the first byte stands that begins no form: -1, if s is a text.
func bad(s string) int {
	for i := 0; i < len(s); {
		r, n := utf8.DecodeRuneInString(s[i:])
		if r == utf8.RuneError && n == 1 {
			return i
		}
		i += n
	}
	return -1
}

// all is what All(s) is to answer.
func all(s string) ([]api.Token, int, api.Errno) {
	if len(s) > 65536 {
		return nil, 0, api.ErrLong
	}
	if at := bad(s); at >= 0 {
		return nil, at, api.ErrText
	}
	var l []api.Token
	for to := 0; ; {
		t, at, e := one(s, to)
		switch e {
		case api.OK:
			l = append(l, t)
			to = t.To
		case api.ErrNone:
			return l, 0, api.OK
		default:
			return nil, at, e
		}
	}
}

func checkOne(t *testing.T, s string, at int) {
	t.Helper()
	tok, place, e := token.One(s, at)
	wantTok, wantPlace, wantE := one(s, at)
	if tok != wantTok || place != wantPlace || e != wantE {
		t.Fatalf("P3.1: One(%.60q, %d) = %v, %d, %d, want %v, %d, %d", s, at, tok, place, e, wantTok, wantPlace, wantE)
	}
}

func checkAll(t *testing.T, s string) {
	t.Helper()
	l, place, e := token.All(s)
	wantL, wantPlace, wantE := all(s)
	if !slices.Equal(l, wantL) || place != wantPlace || e != wantE {
		t.Fatalf("P3.2: All(%.60q) = %v, %d, %d, want %v, %d, %d", s, l, place, e, wantL, wantPlace, wantE)
	}
}

// strung hands all rows of at most n of the parts to f, each as one string.
func strung(parts []string, n int, f func(string)) {
	var add func(string, int)
	add = func(s string, left int) {
		f(s)
		if left == 0 {
			return
		}
		for _, p := range parts {
			add(s+p, left-1)
		}
	}
	add("", n)
}

func TestTokensAreAsTheChapterSays(t *testing.T) {
	check := func(s string) {
		for at := -1; at <= len(s)+1; at++ {
			checkOne(t, s, at)
		}
		checkAll(t, s)
	}
	strung([]string{"a", "0", "7", "-", "#", " ", "\n", "=", "α"}, 5, check)
	strung([]string{"add", "fn", "_", "x", "1", "-", "é", "\xff", "\t", "#", "\r", ";"}, 4, check)
	strung([]string{"(", ")", "{", "}", "[", "]", ",", ":", "=", "b", "-8", "\n", "# é\n"}, 3, check)
}

func TestEachRuneByItself(t *testing.T) {
	for r := rune(0); r <= 0x3000; r++ {
		for _, s := range []string{string(r), "a" + string(r), "-" + string(r), "#" + string(r), "5" + string(r) + "5"} {
			checkOne(t, s, 0)
			checkAll(t, s)
		}
	}
	for b := range 256 {
		s := string([]byte{byte(b)})
		for _, s := range []string{s, "a" + s, "7" + s, "-" + s, " " + s + "a", "#" + s + "\na"} {
			checkOne(t, s, 0)
			checkAll(t, s)
		}
	}
}

func TestWords(t *testing.T) {
	if len(words) != 26 {
		t.Fatalf("the test's own words are %d", len(words))
	}
	for _, w := range words {
		if !token.Word(w) {
			t.Errorf("P3.1: %q is a word", w)
		}
		near := []string{w + "s", w + " ", " " + w, w + w, w[1:], strings.ToUpper(w), strings.ToUpper(w[:1]) + w[1:], w + "\x00", w + "1", "_" + w}
		for _, s := range append(near, w[:len(w)-1]) {
			if token.Word(s) != slices.Contains(words, s) {
				t.Errorf("P3.1: Word(%q) = %v", s, token.Word(s))
			}
		}
	}
	for _, s := range []string{"", "level", "flow", "depth", "main", "not", "neg", "rem", "=", "7", "a", "\xff", "if"} {
		if token.Word(s) {
			t.Errorf("P3.1: %q is no word", s)
		}
	}
	strung(strings.Split("abcdefghijklmnopqrstuvwxyz", ""), 3, func(s string) {
		if token.Word(s) != slices.Contains(words, s) {
			t.Errorf("P3.1: Word(%q) = %v", s, token.Word(s))
		}
	})
}

func TestOne(t *testing.T) {
	long := strings.Repeat(" ", 70000)
	for _, c := range []struct {
		s     string
		at    int
		tok   api.Token
		place int
		e     api.Errno
	}{
		{"a", -1, api.Token{}, 0, api.ErrArg},
		{"a", 2, api.Token{}, 0, api.ErrArg},
		{"", 1, api.Token{}, 0, api.ErrArg},
		{";", math.MinInt, api.Token{}, 0, api.ErrArg},
		{"a", math.MaxInt, api.Token{}, 0, api.ErrArg},
		{"", 0, api.Token{}, 0, api.ErrNone},
		{"a", 1, api.Token{}, 1, api.ErrNone},
		{"a # b", 1, api.Token{}, 5, api.ErrNone},
		{" \t\n", 0, api.Token{}, 3, api.ErrNone},
		{"#", 0, api.Token{}, 1, api.ErrNone},
		{"# \xff\xc3", 0, api.Token{}, 4, api.ErrNone},
		{"# x\n", 0, api.Token{}, 4, api.ErrNone},
		{"  ;", 0, api.Token{}, 2, api.ErrToken},
		{"#;\n-", 0, api.Token{}, 3, api.ErrToken},
		{"a\r", 1, api.Token{}, 1, api.ErrToken},
		{"\v", 0, api.Token{}, 0, api.ErrToken},
		{"\u00a0", 0, api.Token{}, 0, api.ErrToken},
		{"é", 0, api.Token{}, 0, api.ErrToken},
		{"α", 1, api.Token{}, 1, api.ErrToken},
		{"\xff", 0, api.Token{}, 0, api.ErrToken},
		{"- 7", 0, api.Token{}, 0, api.ErrToken},
		{"--7", 0, api.Token{}, 0, api.ErrToken},
		{"-α", 0, api.Token{}, 0, api.ErrToken},
		{"-0", 0, api.Token{}, 0, api.ErrToken},
		{"00", 0, api.Token{}, 0, api.ErrToken},
		{"07", 0, api.Token{}, 0, api.ErrToken},
		{"7a", 0, api.Token{}, 0, api.ErrToken},
		{"-7a", 0, api.Token{}, 0, api.ErrToken},
		{"+7", 0, api.Token{}, 0, api.ErrToken},
		{"9223372036854775808", 0, api.Token{}, 0, api.ErrToken},
		{"-9223372036854775809", 0, api.Token{}, 0, api.ErrToken},
		{strings.Repeat("ω", 25), 0, api.Token{}, 0, api.ErrToken},
		{strings.Repeat("1", 5000), 0, api.Token{}, 0, api.ErrToken},
		{"07", 1, api.Token{Kind: api.TNum, From: 1, To: 2}, 0, api.OK},
		{"--7", 1, api.Token{Kind: api.TNum, From: 1, To: 3}, 0, api.OK},
		{"9223372036854775807", 0, api.Token{Kind: api.TNum, From: 0, To: 19}, 0, api.OK},
		{"-9223372036854775808", 0, api.Token{Kind: api.TNum, From: 0, To: 20}, 0, api.OK},
		{"0", 0, api.Token{Kind: api.TNum, From: 0, To: 1}, 0, api.OK},
		{"7-8", 0, api.Token{Kind: api.TNum, From: 0, To: 1}, 0, api.OK},
		{"a-7", 1, api.Token{Kind: api.TNum, From: 1, To: 3}, 0, api.OK},
		{"a # b", 3, api.Token{Kind: api.TName, From: 4, To: 5}, 0, api.OK},
		{"#\n\t#x\n add#", 0, api.Token{Kind: api.TWord, From: 7, To: 10}, 0, api.OK},
		{"xadd", 1, api.Token{Kind: api.TWord, From: 1, To: 4}, 0, api.OK},
		{"adds", 0, api.Token{Kind: api.TName, From: 0, To: 4}, 0, api.OK},
		{"Add", 0, api.Token{Kind: api.TName, From: 0, To: 3}, 0, api.OK},
		{"level", 0, api.Token{Kind: api.TName, From: 0, To: 5}, 0, api.OK},
		{strings.Repeat("ω", 24) + ":", 0, api.Token{Kind: api.TName, From: 0, To: 48}, 0, api.OK},
		{"α1é", 0, api.Token{Kind: api.TName, From: 0, To: 3}, 0, api.OK},
		{"a\xff", 0, api.Token{Kind: api.TName, From: 0, To: 1}, 0, api.OK},
		{"\xff[", 1, api.Token{Kind: api.TSign, From: 1, To: 2}, 0, api.OK},
		{"==", 0, api.Token{Kind: api.TSign, From: 0, To: 1}, 0, api.OK},
		{long + "ab", 0, api.Token{Kind: api.TName, From: 70000, To: 70002}, 0, api.OK},
	} {
		tok, place, e := token.One(c.s, c.at)
		if tok != c.tok || place != c.place || e != c.e {
			t.Errorf("P3.1: One(%.30q, %d) = %v, %d, %d, want %v, %d, %d", c.s, c.at, tok, place, e, c.tok, c.place, c.e)
		}
	}
}

func TestAll(t *testing.T) {
	tok := func(kind uint8, from, to int) api.Token { return api.Token{Kind: kind, From: from, To: to} }
	for _, c := range []struct {
		s    string
		want []api.Token
	}{
		{"", nil},
		{" # none\n\t", nil},
		{"x = add a -7 # sum", []api.Token{tok(api.TName, 0, 1), tok(api.TSign, 2, 3), tok(api.TWord, 4, 7), tok(api.TName, 8, 9), tok(api.TNum, 10, 12)}},
		{"a-7", []api.Token{tok(api.TName, 0, 1), tok(api.TNum, 1, 3)}},
		{"7-8", []api.Token{tok(api.TNum, 0, 1), tok(api.TNum, 1, 3)}},
		{"f(αβ,x){}", []api.Token{tok(api.TName, 0, 1), tok(api.TSign, 1, 2), tok(api.TName, 2, 6), tok(api.TSign, 6, 7), tok(api.TName, 7, 8), tok(api.TSign, 8, 9), tok(api.TSign, 9, 10), tok(api.TSign, 10, 11)}},
		{"a#b\nc", []api.Token{tok(api.TName, 0, 1), tok(api.TName, 4, 5)}},
		{"[:]=", []api.Token{tok(api.TSign, 0, 1), tok(api.TSign, 1, 2), tok(api.TSign, 2, 3), tok(api.TSign, 3, 4)}},
	} {
		l, at, e := token.All(c.s)
		if !slices.Equal(l, c.want) || at != 0 || e != api.OK {
			t.Errorf("P3.2: All(%q) = %v, %d, %d, want %v", c.s, l, at, e, c.want)
		}
	}
}

func TestAllOfWhatIsNone(t *testing.T) {
	full := strings.Repeat("ab ;\n", 13107) + " "
	for _, c := range []struct {
		s  string
		at int
		e  api.Errno
	}{
		{"a-b", 1, api.ErrToken},
		{"07", 0, api.ErrToken},
		{"é", 0, api.ErrToken},
		{"a b-", 3, api.ErrToken},
		{"a 5x", 2, api.ErrToken},
		{"a ; ;", 2, api.ErrToken},
		{"x " + strings.Repeat("y", 25), 2, api.ErrToken},
		{"a \xff", 2, api.ErrText},
		{"; \xe2\x82", 2, api.ErrText},
		{"# \xff", 2, api.ErrText},
		{full, 3, api.ErrToken},
		{full[1:] + "\xff", 65535, api.ErrText},
		{full + " ", 0, api.ErrLong},
		{full + "\xff", 0, api.ErrLong},
		{strings.Repeat("\xff", 65537), 0, api.ErrLong},
		{strings.Repeat(" ", 65537), 0, api.ErrLong},
	} {
		l, at, e := token.All(c.s)
		if len(l) != 0 || at != c.at || e != c.e {
			t.Errorf("P3.2: All(%.30q) = %d tokens, %d, %d, want %d, %d", c.s, len(l), at, e, c.at, c.e)
		}
	}
}

func TestAllOfTheLongestText(t *testing.T) {
	for _, s := range []string{strings.Repeat(" ", 65536), strings.Repeat("=", 65536), strings.Repeat("a ", 32768), "#" + strings.Repeat("x", 65535), strings.Repeat("#\n", 32768)} {
		checkAll(t, s)
		if _, _, e := token.All(s); e != api.OK {
			t.Errorf("P3.2: %d bytes of %.10q: %d", len(s), s, e)
		}
	}
}

func TestAnswersShareNothing(t *testing.T) {
	first, _, _ := token.All("a = b")
	first[1].Kind = 99
	second, _, _ := token.All("a = b")
	if second[1].Kind != api.TSign || first[1].Kind != 99 {
		t.Error("P3.2: two answers share their tokens")
	}
}
