package token

import (
	"math/big"
	"math/rand"
	"regexp"
	"slices"
	"strings"
	"sync"
	"testing"

	"foreman/api"
)

func word(w string) api.Token  { return api.Token{Kind: api.TokWord, Word: w} }
func label(w string) api.Token { return api.Token{Kind: api.TokLabel, Word: w} }
func number(n int) api.Token   { return api.Token{Kind: api.TokNumber, N: n} }

// part is the longest part that a text may begin with, in the chapter's words.
var part = regexp.MustCompile(`^(?:([ \n\t]|#[^\n]*)|([a-z]+)(:?)|(-?[0-9]+))`)

// byRule is Split in the chapter's words, part by part, and by reckoning
// without ends.
func byRule(s string) ([]api.Token, api.Errno) {
	if len(s) > 4000 {
		return nil, api.ErrLimit
	}
	var l []api.Token
	for s != "" {
		m := part.FindStringSubmatch(s)
		switch {
		case m == nil:
			return nil, api.ErrToken
		case m[2] != "" && m[3] != "":
			l = append(l, label(m[2]))
		case m[2] != "":
			l = append(l, word(m[2]))
		case m[4] != "":
			n, _ := new(big.Int).SetString(m[4], 10)
			if n.CmpAbs(big.NewInt(1<<40)) > 0 {
				return nil, api.ErrToken
			}
			l = append(l, number(int(n.Int64())))
		}
		s = s[len(m[0]):]
	}
	return l, api.OK
}

// short is a text as a failure tells it.
func short(s string) string {
	if len(s) > 200 {
		return s[:100] + " .. " + s[len(s)-90:]
	}
	return s
}

func wantTokens(t *testing.T, s string, want ...api.Token) {
	t.Helper()
	got, e := Split(s)
	if e != api.OK || !slices.Equal(got, want) {
		t.Errorf("%q: %v, error %d, want %v", short(s), got, e, want)
	}
}

// wantError asks for nothing beside the error, too.
func wantError(t *testing.T, s string, want api.Errno) {
	t.Helper()
	got, e := Split(s)
	if e != want || len(got) != 0 {
		t.Errorf("%q: %v, error %d, want error %d", short(s), got, e, want)
	}
}

func wantByRule(t *testing.T, s string) {
	t.Helper()
	l, e := byRule(s)
	if e != api.OK {
		wantError(t, s, e)
		return
	}
	wantTokens(t, s, l...)
}

// P4.1: words and labels.

func TestNothing(t *testing.T) {
	for _, s := range []string{"", " ", "\n", "\t", " \n\t\t\n ", "#", "#\n", "# a: -1 é \xff", "##", " #a\n#b\n\n\t#"} {
		wantTokens(t, s)
	}
}

func TestWords(t *testing.T) {
	const all = "abcdefghijklmnopqrstuvwxyz"
	wantTokens(t, all, word(all))
	wantTokens(t, "push", word("push"))
	wantTokens(t, "x y", word("x"), word("y"))
	for _, r := range all {
		wantTokens(t, string(r), word(string(r)))
		wantTokens(t, string(r)+":", label(string(r)))
		wantTokens(t, "m"+string(r)+"m", word("m"+string(r)+"m"))
	}
}

func TestLabels(t *testing.T) {
	wantTokens(t, "over:", label("over"))
	wantTokens(t, "over: end", label("over"), word("end"))
	wantTokens(t, "a:b", label("a"), word("b"))
	wantTokens(t, "a:b:", label("a"), label("b"))
	wantTokens(t, "a:-1", label("a"), number(-1))
	wantTokens(t, "a:#:", label("a"))
	wantTokens(t, "a a: a", word("a"), label("a"), word("a"))
	wantTokens(t, "1a:", number(1), label("a"))
}

// A colon is a label's alone, and just behind its word.
func TestColonsElsewhere(t *testing.T) {
	for _, s := range []string{":", "a :", "a\n:", "a\t:", "a::", ": a", ":a", "1:", "-1:", "a1:", "a: :", "a#\n:", "-:"} {
		wantError(t, s, api.ErrToken)
	}
}

// P4.1: numbers.

func TestNumbers(t *testing.T) {
	wantTokens(t, "1234567890", number(1234567890))
	wantTokens(t, "-9876543210", number(-9876543210))
	wantTokens(t, "0", number(0))
	wantTokens(t, "-0", number(0))
	wantTokens(t, "007", number(7))
	wantTokens(t, "-007", number(-7))
	wantTokens(t, "-3 3 -3", number(-3), number(3), number(-3))
	for n := -1100; n <= 1100; n++ {
		wantTokens(t, big.NewInt(int64(n)).String(), number(n))
	}
}

func TestMinus(t *testing.T) {
	for _, s := range []string{"-", "--", "--1", "- 1", "-\n1", "-\t1", "-a", "a-b", "a-", "1-", "1-a", "1- 1", "-#\n1", "-1-", "+1", "1+1", "-+1", "−1"} {
		wantError(t, s, api.ErrToken)
	}
}

func TestFarNumbers(t *testing.T) {
	wantTokens(t, "1099511627776", number(1<<40))
	wantTokens(t, "-1099511627776", number(-1<<40))
	wantTokens(t, "1099511627775", number(1<<40-1))
	wantTokens(t, "-1099511627775", number(-1<<40+1))
	wantTokens(t, "1099511627776a", number(1<<40), word("a"))
	for _, s := range []string{
		"1099511627777", "1099511627780", "1099511627786", "1099511628000", "9999999999999", "10995116277760",
		"9223372036854775807", "9223372036854775808", "18446744073709551615", "18446744073709551616", "18446744073709551617",
		"36893488147419103232", "340282366920938463463374607431768211456",
	} {
		for _, sign := range []string{"", "-"} {
			for _, noughts := range []string{"", "0", "0000000000000000000000000"} {
				wantError(t, sign+noughts+s, api.ErrToken)
				wantError(t, sign+noughts+s+" ", api.ErrToken)
				wantError(t, sign+noughts+s+"a", api.ErrToken)
				wantError(t, "a:1 "+sign+noughts+s+" b", api.ErrToken)
			}
		}
	}
}

func TestNumbersOfManyDigits(t *testing.T) {
	noughts := strings.Repeat("0", 3980)
	wantTokens(t, noughts, number(0))
	wantTokens(t, noughts+"12", number(12))
	wantTokens(t, "-"+noughts+"1099511627776", number(-1<<40))
	wantError(t, "-"+noughts+"1099511627777", api.ErrToken)
	for _, digit := range []string{"1", "2", "8", "9"} {
		for n := 1; n <= 4000; n += 1 + n/8 {
			wantByRule(t, strings.Repeat(digit, n))
			wantByRule(t, "-"+strings.Repeat(digit, n-1))
		}
	}
}

// What one number was isn't left in the next one.
func TestNumbersSideBySide(t *testing.T) {
	wantTokens(t, "5-3", number(5), number(-3))
	wantTokens(t, "-5-3", number(-5), number(-3))
	wantTokens(t, "1-2-3", number(1), number(-2), number(-3))
	wantTokens(t, "1099511627776-1099511627776", number(1<<40), number(-1<<40))
	wantTokens(t, "1099511627776 1", number(1<<40), number(1))
}

// P4.1: tokens needn't have a blank between.

func TestSideBySide(t *testing.T) {
	wantTokens(t, "-12ab", number(-12), word("ab"))
	wantTokens(t, "ab12", word("ab"), number(12))
	wantTokens(t, "ab-12", word("ab"), number(-12))
	wantTokens(t, "a1b2c", word("a"), number(1), word("b"), number(2), word("c"))
	wantTokens(t, "x:push1emit", label("x"), word("push"), number(1), word("emit"))
	wantTokens(t, "a#b\nc", word("a"), word("c"))
	wantTokens(t, "1#2\n3", number(1), number(3))
}

// P4.1: notes.

func TestNotes(t *testing.T) {
	wantTokens(t, "go x # to x\nx: push -12ab", word("go"), word("x"), label("x"), word("push"), number(-12), word("ab"))
	wantTokens(t, "#a\nb", word("b"))
	wantTokens(t, "#a#\nb", word("b"))
	wantTokens(t, "# \ta\rb\x00\x0b\x0c\u0085\u2028\u2029 c\nd", word("d"))
	wantTokens(t, "#- : A . 99999999999999999999\n1", number(1))
	wantTokens(t, "#é世\U0010ffff\xff\xc3\xed\xa0\x80\n1", number(1))
	wantTokens(t, "1#\xc3\n2", number(1), number(2))
	wantError(t, "#a\nA", api.ErrToken)
	wantError(t, "#a\n\n-", api.ErrToken)
}

// P4.1: anything else.

func TestEachRune(t *testing.T) {
	for r := range rune(0x3000) {
		wantByRule(t, string(r))
		wantByRule(t, "a"+string(r)+"1")
		wantByRule(t, "-1"+string(r)+"a")
		wantTokens(t, "a#"+string(r)+"\n1", word("a"), number(1))
	}
}

// Letters, digits and blanks of other scripts are none; nor is a rune whose
// last bits are a letter's.
func TestOtherRunes(t *testing.T) {
	for _, r := range "A@[`{/;.,_\r\v\f\x00\x7fé٣３ａ\u00a0\u0085\u2003\u2028\u3000\ufeff\ufffd\u0161\u0130\U00010061\U0010ffff\u003b：＃－" {
		for _, s := range []string{string(r), "a" + string(r), string(r) + "a", "1" + string(r), string(r) + "1", "-" + string(r), "a:" + string(r), " " + string(r) + " "} {
			wantError(t, s, api.ErrToken)
		}
	}
}

func TestEachByte(t *testing.T) {
	for b := range 256 {
		s := string([]byte{byte(b)})
		wantByRule(t, s)
		wantByRule(t, "a"+s)
		wantByRule(t, s+"1")
		wantByRule(t, "1"+s+"a:")
		wantTokens(t, "#"+s+"\na", word("a"))
	}
	for b := 0x80; b < 256; b++ {
		wantError(t, string([]byte{byte(b)}), api.ErrToken)
		wantError(t, string([]byte{'a', byte(b)}), api.ErrToken)
	}
}

// P4.1: how long a text may be, in bytes; that is asked ahead of all else.

func TestLongTexts(t *testing.T) {
	a := strings.Repeat("a", 4000)
	wantTokens(t, a, word(a))
	wantTokens(t, a[1:]+":", label(a[1:]))
	wantTokens(t, strings.Repeat(" ", 4000))
	wantTokens(t, "#"+strings.Repeat("é", 1999)+"x")
	wantTokens(t, strings.Repeat(" ", 3999)+"1", number(1))
	wantTokens(t, strings.Repeat("1a", 2000), slices.Repeat([]api.Token{number(1), word("a")}, 2000)...)
	wantError(t, strings.Repeat("?", 4000), api.ErrToken)
	for _, s := range []string{
		a + "a", strings.Repeat(" ", 4001), strings.Repeat("?", 4001), "#" + strings.Repeat("é", 2000),
		strings.Repeat("1", 4001), strings.Repeat("a\n", 2001), "- " + a, strings.Repeat("\xff", 1<<20),
	} {
		wantError(t, s, api.ErrLimit)
	}
}

// P4.1: all short texts of runes that matter.
func TestAllShortTexts(t *testing.T) {
	runes := []string{"a", "z", ":", "-", "#", "\n", " ", "0", "9", "A", "é", "\xff"}
	texts := []string{""}
	for range 5 {
		var next []string
		for _, s := range texts {
			for _, r := range runes {
				next = append(next, s+r)
			}
		}
		for _, s := range next {
			wantByRule(t, s)
		}
		texts = next
		if t.Failed() {
			return
		}
	}
}

func TestAnyTexts(t *testing.T) {
	r := rand.New(rand.NewSource(1))
	parts := []string{"push", "x", "x:", "-", "1", "-7", "1099511627776", "1099511627777", "0", " ", "\n", "\t", "#", "# n\n", ":", "q", "\xff", "é"}
	for range 20000 {
		var s strings.Builder
		for range r.Intn(12) {
			s.WriteString(parts[r.Intn(len(parts)-r.Intn(5))])
		}
		wantByRule(t, s.String())
	}
	for range 5000 {
		b := make([]byte, r.Intn(30))
		r.Read(b)
		wantByRule(t, string(b))
		wantByRule(t, "#"+string(b))
	}
}

// P4.2: notes and blanks change nothing.

// gap is blanks and notes that may stand between any two tokens: a note ends
// with its line.
func gap(r *rand.Rand) string {
	parts := []string{" ", "\n", "\t", "#\n", "# a: -1 - : # é\xff\n", "#99999999999999999999\t\n"}
	s := parts[r.Intn(len(parts))]
	for range r.Intn(4) {
		s += parts[r.Intn(len(parts))]
	}
	return s
}

// tokenText is any token, and a text of it.
func tokenText(r *rand.Rand) (api.Token, string) {
	w := string(rune('a'+r.Intn(26))) + strings.Repeat("b", r.Intn(4))
	switch r.Intn(3) {
	case 0:
		return word(w), w
	case 1:
		return label(w), w + ":"
	}
	n := r.Intn(2<<40+1) - 1<<40
	if r.Intn(2) == 0 {
		n = r.Intn(21) - 10
	}
	return number(n), big.NewInt(int64(n)).String()
}

func TestGapsChangeNothing(t *testing.T) {
	r := rand.New(rand.NewSource(2))
	for range 3000 {
		plain, spread := "", gap(r)
		var want []api.Token
		for range r.Intn(12) {
			k, s := tokenText(r)
			want = append(want, k)
			plain += s + " "
			spread += s + gap(r)
		}
		wantTokens(t, plain, want...)
		wantTokens(t, spread, want...)
		wantTokens(t, strings.TrimSuffix(plain, " "), want...)
		wantTokens(t, plain+"# and no new line", want...)
	}
}

// A gap may be put in, also where two tokens stand side by side without one.
func TestGapsPutInChangeNothing(t *testing.T) {
	r := rand.New(rand.NewSource(3))
	sideBySide := []string{"-12", "ab", "-3", "x:", "y:", "7", "go", "0", "a:", "-0"}
	plain := strings.Join(sideBySide, "")
	want := []api.Token{number(-12), word("ab"), number(-3), label("x"), label("y"), number(7), word("go"), number(0), label("a"), number(0)}
	wantTokens(t, plain, want...)
	for range 2000 {
		s := ""
		for _, part := range sideBySide {
			if r.Intn(2) == 0 {
				s += gap(r)
			}
			s += part
		}
		wantTokens(t, s, want...)
	}
}

// Nor do they make a wrong text right.
func TestGapsMendNothing(t *testing.T) {
	r := rand.New(rand.NewSource(4))
	for _, s := range []string{":", "-", "A", "é", "\xff", "1099511627777", "a.b"} {
		for range 200 {
			wantError(t, gap(r)+s+gap(r), api.ErrToken)
			wantError(t, "ok"+gap(r)+s+gap(r)+"1", api.ErrToken)
		}
	}
}

// Rules 3 and 7: answers are new memory.
func TestAnswersAreTheirOwn(t *testing.T) {
	s := "a b: 3"
	one, _ := Split(s)
	two, _ := Split(s)
	one[0], one[1], one[2] = number(9), number(9), number(9)
	if !slices.Equal(two, []api.Token{word("a"), label("b"), number(3)}) {
		t.Errorf("another answer: %v", two)
	}
	wantTokens(t, s, word("a"), label("b"), number(3))
}

// Rules 4 and 6: a call hangs on its arguments alone, whoever calls beside it.
func TestManyCallAtOnce(t *testing.T) {
	var wg sync.WaitGroup
	for i := range 8 {
		wg.Go(func() {
			r := rand.New(rand.NewSource(int64(i)))
			for range 300 {
				s := ""
				var want []api.Token
				for range r.Intn(6) {
					k, part := tokenText(r)
					want, s = append(want, k), s+part+gap(r)
				}
				wantTokens(t, s, want...)
				wantError(t, s+"-", api.ErrToken)
			}
		})
	}
	wg.Wait()
}
