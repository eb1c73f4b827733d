package words

import (
	"slices"
	"strconv"
	"strings"
	"testing"

	"townreader/api"
)

// wrong: texts that are no page's usual ones; no call may panic on them.
var wrong = []string{"", " ", "\t", " \t\n\r ", "\x00", "\v", "\f", "\x7f", "\x80", "\xff\xfe", "\xc3", "\u00a0", "\u2003", "\u0085", "\u212a", "é", "É", "日本"}

func TestBlankOfEachByte(t *testing.T) {
	for i := range 256 {
		want := i == 32 || i == 9 || i == 10 || i == 13
		if got := Blank(byte(i)); got != want {
			t.Errorf("Blank(%d) = %v", i, got)
		}
	}
}

func TestLower(t *testing.T) {
	for _, c := range []struct{ in, want string }{
		{"", ""},
		{" ", " "},
		{"save", "save"},
		{"SaVe It", "save it"},
		{"ABCDEFGHIJKLMNOPQRSTUVWXYZ", "abcdefghijklmnopqrstuvwxyz"},
		{"abcdefghijklmnopqrstuvwxyz", "abcdefghijklmnopqrstuvwxyz"},
		{"@A[`z{", "@a[`z{"},
		{" \tA\r\nB ", " \ta\r\nb "},
		{"H1-2", "h1-2"},
		{"ÉÄ", "ÉÄ"},
		{"\u212a", "\u212a"},
		{"A\xffB\x80C\xc3", "a\xffb\x80c\xc3"},
		{"A\x00B", "a\x00b"},
	} {
		if got := Lower(c.in); got != c.want {
			t.Errorf("Lower(%q) = %q, not %q", c.in, got, c.want)
		}
	}
}

func TestLowerOfEachByte(t *testing.T) {
	const upper, lower = "ABCDEFGHIJKLMNOPQRSTUVWXYZ", "abcdefghijklmnopqrstuvwxyz"
	for i := range 256 {
		in := string([]byte{byte(i)})
		want := in
		if at := strings.IndexByte(upper, byte(i)); at >= 0 {
			want = lower[at : at+1]
		}
		if got := Lower(in); got != want {
			t.Errorf("Lower(%q) = %q, not %q", in, got, want)
		}
	}
}

func TestTokensAndSqueeze(t *testing.T) {
	for _, c := range []struct {
		in   string
		want []string
	}{
		{"", nil},
		{" ", nil},
		{"\t", nil},
		{"\n", nil},
		{"\r", nil},
		{" \t\n\r \r\n\t ", nil},
		{"a", []string{"a"}},
		{" a", []string{"a"}},
		{"a ", []string{"a"}},
		{"\r\n a \t", []string{"a"}},
		{"a b", []string{"a", "b"}},
		{"a\tb", []string{"a", "b"}},
		{"a\nb", []string{"a", "b"}},
		{"a\rb", []string{"a", "b"}},
		{" a  b ", []string{"a", "b"}},
		{"save \t it\r\n\r\nnow", []string{"save", "it", "now"}},
		{"b a b", []string{"b", "a", "b"}},
		{"Ab-1 C_d", []string{"Ab-1", "C_d"}},
		{"a\vb\fc", []string{"a\vb\fc"}},
		{"\v", []string{"\v"}},
		{"a\x00b", []string{"a\x00b"}},
		{"a\u00a0b\u2003c\u0085d", []string{"a\u00a0b\u2003c\u0085d"}},
		{"\xff \x80\xc3\t\xa0\x85", []string{"\xff", "\x80\xc3", "\xa0\x85"}},
		{"é 日本", []string{"é", "日本"}},
	} {
		if got := Tokens(c.in); !slices.Equal(got, c.want) {
			t.Errorf("Tokens(%q) = %q, not %q", c.in, got, c.want)
		}
		want := strings.Join(c.want, " ")
		if got := Squeeze(c.in); got != want {
			t.Errorf("Squeeze(%q) = %q, not %q", c.in, got, want)
		}
	}
}

func TestTokensOfEachByteBetween(t *testing.T) {
	for i := range 256 {
		in := "a" + string([]byte{byte(i)}) + "b"
		want := []string{in}
		if strings.IndexByte(" \t\n\r", byte(i)) >= 0 {
			want = []string{"a", "b"}
		}
		if got := Tokens(in); !slices.Equal(got, want) {
			t.Errorf("Tokens(%q) = %q, not %q", in, got, want)
		}
	}
}

func TestTokensAreTheCallers(t *testing.T) {
	const s = "a b c"
	first, second := Tokens(s), Tokens(s)
	for i := range first[:cap(first)] {
		first[:cap(first)][i] = "x"
	}
	if want := []string{"a", "b", "c"}; !slices.Equal(second, want) || !slices.Equal(Tokens(s), want) {
		t.Errorf("one answer's change is seen in another one: %q, %q", second, Tokens(s))
	}
}

func TestLongTexts(t *testing.T) {
	const n = 100000
	long := strings.Repeat(" \tAb\r\n", n)
	if got := len(Tokens(long)); got != n {
		t.Errorf("%d tokens, not %d", got, n)
	}
	if got := Squeeze(long); got != strings.TrimSuffix(strings.Repeat("Ab ", n), " ") {
		t.Errorf("Squeeze of a long text has %d bytes", len(got))
	}
	if got := Lower(long); got != strings.Repeat(" \tab\r\n", n) {
		t.Errorf("Lower of a long text has %d bytes", len(got))
	}
	if digits := strings.Repeat("1", n); Num(digits) != 0 {
		t.Errorf("Num of %d digits = %d", n, Num(digits))
	}
	if Name(strings.Repeat("a", n)) {
		t.Errorf("%d letters are a name", n)
	}
}

func TestNum(t *testing.T) {
	for _, c := range []struct {
		in   string
		want int
	}{
		{"0", 0}, {"1", 1}, {"9", 9}, {"00", 0}, {"07", 7}, {"10", 10}, {"42", 42}, {"99", 99},
		{" 7", 7}, {"7 ", 7}, {" \t12\r\n", 12},
		{"", 0}, {" ", 0}, {"\t\n\r", 0},
		{"000", 0}, {"007", 0}, {"100", 0}, {"123", 0}, {"1234567890123456789012345", 0},
		{"1 2", 0}, {"1\t2", 0}, {"7 x", 0}, {"x 7", 0},
		{"-1", 0}, {"+1", 0}, {"-", 0}, {"1-", 0}, {"1.", 0}, {".5", 0},
		{"x", 0}, {"1x", 0}, {"x1", 0}, {"/1", 0}, {":1", 0}, {"1/", 0}, {"1:", 0},
		{"\v7", 0}, {"7\f", 0}, {"\u00a07", 0}, {"\xb2", 0}, {"²", 0}, {"1\x00", 0}, {"\xff1", 0},
	} {
		if got := Num(c.in); got != c.want {
			t.Errorf("Num(%q) = %d, not %d", c.in, got, c.want)
		}
	}
}

func TestNumOfEachNumber(t *testing.T) {
	for n := range 1200 {
		want := n
		if n > 99 {
			want = 0
		}
		if got := Num(strconv.Itoa(n)); got != want {
			t.Errorf("Num(%d) = %d, not %d", n, got, want)
		}
	}
}

func TestNumOfEachByte(t *testing.T) {
	const digits = "0123456789"
	for i := range 256 {
		c := string([]byte{byte(i)})
		at := strings.IndexByte(digits, byte(i))
		alone, behind, ahead := 0, 0, 0
		switch {
		case at >= 0:
			alone, behind, ahead = at, 10+at, 10*at+1
		case strings.IndexByte(" \t\n\r", byte(i)) >= 0:
			behind, ahead = 1, 1
		}
		if a, b, d := Num(c), Num("1"+c), Num(c+"1"); a != alone || b != behind || d != ahead {
			t.Errorf("byte %d: %d, %d, %d come, not %d, %d, %d", i, a, b, d, alone, behind, ahead)
		}
	}
}

func TestName(t *testing.T) {
	full := strings.Repeat("a", api.MaxName)
	for _, c := range []struct {
		in   string
		want bool
	}{
		{"a", true}, {"z", true}, {"main", true}, {"h1", true}, {"aria-owns", true}, {"a-", true}, {"a--", true}, {"a-b-1", true}, {"z0123456789-", true},
		{full[1:], true}, {full, true}, {"a" + strings.Repeat("-", api.MaxName-1), true}, {"a" + strings.Repeat("9", api.MaxName-1), true},
		{full + "a", false}, {full + "-", false}, {full + " ", false},
		{"", false}, {" ", false}, {"-", false}, {"0", false}, {"1h", false}, {"-a", false},
		{"A", false}, {"aB", false}, {"a_b", false}, {"a b", false}, {" a", false}, {"a ", false}, {"a\n", false},
		{"é", false}, {"aé", false}, {"a\x00", false}, {"\xff", false}, {"a\x80", false},
	} {
		if got := Name(c.in); got != c.want {
			t.Errorf("Name(%q) = %v", c.in, got)
		}
	}
}

func TestNameOfEachByte(t *testing.T) {
	const letters, others = "abcdefghijklmnopqrstuvwxyz", "0123456789-"
	for i := range 256 {
		c := string([]byte{byte(i)})
		first := strings.Contains(letters, c)
		later := first || strings.Contains(others, c)
		if got := Name(c); got != first {
			t.Errorf("Name(%q) = %v", c, got)
		}
		if got := Name(c + "a"); got != first {
			t.Errorf("Name(%q) = %v", c+"a", got)
		}
		for _, s := range []string{"a" + c, "a" + c + "a"} {
			if got := Name(s); got != later {
				t.Errorf("Name(%q) = %v", s, got)
			}
		}
	}
}

func TestWrongTexts(t *testing.T) {
	for _, s := range wrong {
		if got := Lower(s); got != s {
			t.Errorf("Lower(%q) = %q", s, got)
		}
		if got := Num(s); got != 0 {
			t.Errorf("Num(%q) = %d", s, got)
		}
		if Name(s) {
			t.Errorf("Name(%q) = true", s)
		}
		if got, want := Squeeze(s), strings.Trim(s, " \t\n\r"); got != want {
			t.Errorf("Squeeze(%q) = %q, not %q", s, got, want)
		}
	}
}

// TestTwiceAsOnce goes through all texts of up to six bytes of a small alphabet.
func TestTwiceAsOnce(t *testing.T) {
	const alphabet = " \tAb1\xff"
	layer := []string{""}
	for range 6 {
		var next []string
		for _, s := range layer {
			for i := range len(alphabet) {
				next = append(next, s+alphabet[i:i+1])
			}
		}
		for _, s := range next {
			checkTwiceAsOnce(t, s)
		}
		layer = next
	}
}

func checkTwiceAsOnce(t *testing.T, s string) {
	t.Helper()
	squeezed, lowered := Squeeze(s), Lower(s)
	if got := Squeeze(squeezed); got != squeezed {
		t.Errorf("Squeeze(%q) = %q, and squeezed again %q", s, squeezed, got)
	}
	if got := Lower(lowered); got != lowered {
		t.Errorf("Lower(%q) = %q, and lowered again %q", s, lowered, got)
	}
	if got, want := Tokens(squeezed), Tokens(s); !slices.Equal(got, want) {
		t.Errorf("tokens of %q are %q, and squeezed %q", s, want, got)
	}
	if got, want := Squeeze(lowered), Lower(squeezed); got != want {
		t.Errorf("%q: squeezed behind lowered %q, ahead of it %q", s, got, want)
	}
	if got, want := Num(squeezed), Num(s); got != want {
		t.Errorf("Num(%q) = %d, and squeezed %d", s, want, got)
	}
}
