package token_test

import (
	"fmt"
	"math"
	"slices"
	"strings"
	"testing"

	"undertone/api"
	"undertone/token"
)

// Short names, for the tables of this package's tests.
const (
	e   = token.E
	s   = token.S
	ee  = token.EE
	es  = token.ES
	se  = token.SE
	ss  = token.SS
	psk = token.PSK
)

// texts are the texts of all tokens, as the chapter says them.
var texts = map[int]string{e: "e", s: "s", ee: "ee", es: "es", se: "se", ss: "ss", psk: "psk"}

// notTokens are numbers that are no token.
var notTokens = []int{0, 8, -1, 9, -7, 100, 257, 1<<32 + 1, math.MinInt, math.MinInt + 1, math.MaxInt}

// from0 and from1 are messages of each role.
func from0(tokens ...int) token.Msg { return token.Msg{From: 0, T: tokens} }
func from1(tokens ...int) token.Msg { return token.Msg{From: 1, T: tokens} }

// pattern puts a pattern together.
func pattern(name string, pre0, pre1 []int, msgs ...token.Msg) token.Pattern {
	return token.Pattern{Name: name, Pre: [2][]int{pre0, pre1}, Msgs: msgs}
}

// copyOf returns a pattern that shares no memory with p.
func copyOf(p token.Pattern) token.Pattern {
	q := pattern(p.Name, slices.Clone(p.Pre[0]), slices.Clone(p.Pre[1]), slices.Clone(p.Msgs)...)
	for i := range q.Msgs {
		q.Msgs[i].T = slices.Clone(q.Msgs[i].T)
	}
	return q
}

// isZero reports whether p is what stands beside an error.
func isZero(p token.Pattern) bool {
	return p.Name == "" && len(p.Pre[0])+len(p.Pre[1])+len(p.Msgs) == 0
}

// brief tells of a pattern that may be huge.
func brief(p token.Pattern) string {
	text := fmt.Sprintf("%+q %v %v", p.Name, p.Pre, p.Msgs)
	return text[:min(len(text), 200)]
}

// samples are patterns, each with its text.
var samples = []struct {
	p    token.Pattern
	text string
}{
	{pattern("NK", nil, []int{s}, from0(e, es), from1(e, ee)), "NK:\n<- s\n...\n-> e, es\n<- e, ee\n"},
	{pattern("NN", nil, nil, from0(e), from1(e, ee)), "NN:\n-> e\n<- e, ee\n"},
	{pattern("XX", nil, nil, from0(e), from1(e, ee, s, es), from0(s, se)), "XX:\n-> e\n<- e, ee, s, es\n-> s, se\n"},
	{pattern("KK", []int{s}, []int{s}, from0(e, es, ss), from1(e, ee, se)), "KK:\n-> s\n<- s\n...\n-> e, es, ss\n<- e, ee, se\n"},
	{pattern("KN", []int{s}, nil, from0(e), from1(e, ee, se)), "KN:\n-> s\n...\n-> e\n<- e, ee, se\n"},
	{pattern("IKpsk2", nil, []int{s}, from0(e, es, s, ss), from1(e, ee, se, psk)), "IKpsk2:\n<- s\n...\n-> e, es, s, ss\n<- e, ee, se, psk\n"},
	{pattern("XXfallback+psk0", []int{e}, nil, from1(psk, e, ee, s, es), from0(s, se)), "XXfallback+psk0:\n-> e\n...\n<- psk, e, ee, s, es\n-> s, se\n"},
	{pattern("a", []int{e, s}, []int{e, s}, from1(e)), "a:\n-> e, s\n<- e, s\n...\n<- e\n"},
	{pattern("+", []int{e}, []int{s}, from0(s), from0(s)), "+:\n-> e\n<- s\n...\n-> s\n-> s\n"},
	{pattern("0", nil, []int{e, s}, from0(e, e)), "0:\n<- e, s\n...\n-> e, e\n"},
	{
		pattern("ABCDEFGHIJKLMNOPQRS9", nil, []int{e}, from0(e, s, ee, es, se, ss, psk, e, s, ee, es, se), from1(e), from0(s), from1(ee), from0(es), from1(psk)),
		"ABCDEFGHIJKLMNOPQRS9:\n<- e\n...\n-> e, s, ee, es, se, ss, psk, e, s, ee, es, se\n<- e\n-> s\n<- ee\n-> es\n<- psk\n",
	},
}

// wantValid looks for a pattern that is valid, and has a text.
func wantValid(t *testing.T, p token.Pattern) {
	t.Helper()
	if !token.Right(p) {
		t.Errorf("Right(%v): false", p)
	}
	if text, err := token.Print(p); err != api.OK || text != textOf(p) {
		t.Errorf("Print(%v): %q, error %d", p, text, err)
	}
}

// wantInvalid looks for a pattern that is not valid.
func wantInvalid(t *testing.T, p token.Pattern) {
	t.Helper()
	if token.Right(p) {
		t.Errorf("Right(%s): true", brief(p))
	}
	if text, err := token.Print(p); err != api.ErrArg || text != "" {
		t.Errorf("Print(%s): %.80q, error %d", brief(p), text, err)
	}
}

// textOf puts the text of a valid pattern together as the chapter says it, line by line.
func textOf(p token.Pattern) string {
	line := func(from int, tokens []int) string {
		text := []string{"->", "<-"}[from]
		for i, t := range tokens {
			if i > 0 {
				text += ","
			}
			text += " " + texts[t]
		}
		return text
	}
	lines := []string{p.Name + ":"}
	for from := range 2 {
		if len(p.Pre[from]) > 0 {
			lines = append(lines, line(from, p.Pre[from]))
		}
	}
	if len(lines) > 1 {
		lines = append(lines, "...")
	}
	for _, m := range p.Msgs {
		lines = append(lines, line(m.From, m.T))
	}
	return strings.Join(lines, "\n") + "\n"
}

// P5.1: Name, of all tokens and of other numbers.
func TestName(t *testing.T) {
	for i, want := range []string{"e", "s", "ee", "es", "se", "ss", "psk"} {
		if name := token.Name(i + 1); name != want {
			t.Errorf("Name(%d): %q, not %q", i+1, name, want)
		}
	}
	for _, n := range notTokens {
		if name := token.Name(n); name != "?" {
			t.Errorf("Name(%d): %q", n, name)
		}
	}
}

// P5.1: the example, and other patterns.
func TestSamples(t *testing.T) {
	for _, c := range samples {
		wantValid(t, c.p)
		if text, err := token.Print(c.p); text != c.text || err != api.OK {
			t.Errorf("Print(%v): %q, error %d, not %q", c.p, text, err, c.text)
		}
		if p, err := token.Parse(c.text); err != api.OK || !token.Same(p, c.p) {
			t.Errorf("Parse(%q): %v, error %d, not %v", c.text, p, err, c.p)
		}
	}
}

// P5.1: Parse, looked at part by part, not only by Same.
func TestParsedParts(t *testing.T) {
	p, err := token.Parse("X2:\n-> e\n<- e, s\n...\n<- psk, ss\n-> se\n")
	if err != api.OK || p.Name != "X2" || len(p.Msgs) != 2 {
		t.Fatalf("%v, error %d", p, err)
	}
	if !slices.Equal(p.Pre[0], []int{1}) || !slices.Equal(p.Pre[1], []int{1, 2}) {
		t.Errorf("pre-messages %v", p.Pre)
	}
	if p.Msgs[0].From != 1 || !slices.Equal(p.Msgs[0].T, []int{7, 6}) {
		t.Errorf("message 0: %v", p.Msgs[0])
	}
	if p.Msgs[1].From != 0 || !slices.Equal(p.Msgs[1].T, []int{5}) {
		t.Errorf("message 1: %v", p.Msgs[1])
	}
}

// P5.1: Names of each length and with each byte.
func TestNamesOfPatterns(t *testing.T) {
	named := func(name string) token.Pattern { return pattern(name, nil, []int{s}, from0(e, es)) }
	for n := range 40 {
		p := named(strings.Repeat("aZ9+", 10)[:n])
		if n >= 1 && n <= 20 {
			wantValid(t, p)
		} else {
			wantInvalid(t, p)
		}
	}
	const allowed = "abcdefghijklmnopqrstuvwxyzABCDEFGHIJKLMNOPQRSTUVWXYZ0123456789+"
	for c := range 256 {
		one := string([]byte{byte(c)})
		for _, name := range []string{one, one + "X", "X" + one, "N" + one + "K", "aaaaaaaaaaaaaaaaaaa" + one} {
			if strings.Contains(allowed, one) {
				wantValid(t, named(name))
			} else {
				wantInvalid(t, named(name))
			}
		}
	}
	// Letters and digits that are none of ASCII, and bytes that are no text.
	for _, name := range []string{"\u00e9", "\uff41", "\uff17", "\u2167", "\u03c0", "\u017f", "\u212a", "\u0663", "K\u0301", "N\u200bK", "\ufffd", "\xc3", "\xff\xfe", "N\xc3", "NK\n", "NK:", "N K", "NK\x00", "N-K", "N_K", "N.K"} {
		wantInvalid(t, named(name))
	}
	wantInvalid(t, named(strings.Repeat("X", 1<<20)))
	wantInvalid(t, named(strings.Repeat("é", 10)))
}

// sequences returns all sequences of at most n of these numbers.
func sequences(n int, of []int) [][]int {
	all := [][]int{nil}
	last := all
	for range n {
		var next [][]int
		for _, l := range last {
			for _, x := range of {
				next = append(next, append(slices.Clone(l), x))
			}
		}
		all = append(all, next...)
		last = next
	}
	return all
}

// P5.1: pre-messages: nothing, E, S, or E and S, and no others.
func TestPreMessages(t *testing.T) {
	may := [][]int{nil, {1}, {2}, {1, 2}}
	isRight := func(l []int) bool {
		return slices.ContainsFunc(may, func(m []int) bool { return slices.Equal(m, l) })
	}
	right := 0
	for _, l := range sequences(3, append([]int{1, 2, 3, 4, 5, 6, 7}, notTokens...)) {
		if isRight(l) {
			right++
		}
		for _, other := range may {
			for _, p := range []token.Pattern{pattern("X", l, other, from0(e)), pattern("X", other, l, from0(e))} {
				if isRight(l) {
					wantValid(t, p)
				} else {
					wantInvalid(t, p)
				}
			}
		}
	}
	if right != 4 {
		t.Errorf("%d pre-messages", right)
	}
	wantInvalid(t, pattern("X", make([]int, 1<<20), nil, from0(e)))
	wantInvalid(t, pattern("X", []int{s, e}, []int{s, e}, from0(e)))
}

// P5.1: 1 to 6 messages.
func TestNumberOfMessages(t *testing.T) {
	for n := range 20 {
		p := pattern("X", nil, nil, slices.Repeat([]token.Msg{from0(e)}, n)...)
		if n >= 1 && n <= 6 {
			wantValid(t, p)
		} else {
			wantInvalid(t, p)
		}
	}
	wantInvalid(t, pattern("X", nil, nil, make([]token.Msg, 1<<16)...))
	wantInvalid(t, pattern("X", []int{e}, []int{s}))
	wantInvalid(t, token.Pattern{})
}

// at returns a pattern of that many messages, with m as the one at i.
func at(i, many int, m token.Msg) token.Pattern {
	p := pattern("X", nil, nil, slices.Repeat([]token.Msg{from1(s)}, many)...)
	p.Msgs[i] = m
	return p
}

// P5.1: From is 0 or 1, wherever the message stands.
func TestFrom(t *testing.T) {
	for i := range 6 {
		wantValid(t, at(i, 6, from0(e)))
		wantValid(t, at(i, 6, from1(e)))
		for _, from := range []int{-1, 2, 3, -2, 256, 257, 1 << 32, math.MinInt, math.MaxInt} {
			wantInvalid(t, at(i, 6, token.Msg{From: from, T: []int{e}}))
		}
	}
}

// P5.1: 1 to 12 tokens, wherever the message stands.
func TestNumberOfTokens(t *testing.T) {
	for i := range 6 {
		for n := range 30 {
			p := at(i, 6, from0(slices.Repeat([]int{psk}, n)...))
			if n >= 1 && n <= 12 {
				wantValid(t, p)
			} else {
				wantInvalid(t, p)
			}
		}
		wantInvalid(t, at(i, 6, from0(slices.Repeat([]int{e}, 1<<16)...)))
	}
}

// P5.1: only tokens, at each place of each message.
func TestTokensOfMessages(t *testing.T) {
	for i := range 6 {
		for j := range 12 {
			for n := 1; n <= 7; n++ {
				m := from0(slices.Repeat([]int{e}, 12)...)
				m.T[j] = n
				wantValid(t, at(i, 6, m))
			}
			for _, n := range notTokens {
				m := from0(slices.Repeat([]int{e}, 12)...)
				m.T[j] = n
				wantInvalid(t, at(i, 6, m))
			}
		}
	}
}

// P5.1: tokens and senders need not satisfy any rule of layer 7.
func TestRulesAreNotAsked(t *testing.T) {
	for _, p := range []token.Pattern{
		pattern("X", nil, nil, from1(ee)),
		pattern("X", nil, nil, from0(e), from0(e)),
		pattern("X", []int{e, s}, []int{e, s}, from1(e, e, s, s), from1(ss, ss)),
		pattern("fallback", nil, nil, from0(psk, psk)),
		pattern("psk9", nil, nil, from1(s)),
	} {
		wantValid(t, p)
	}
}

// notTexts are not the text of any pattern.
var notTexts = []string{
	"", "\n", ":", ":\n", "X", "X:", "X\n", "X:\n", "...\n", "X:\n...\n", "-> e\n", "e\n", "?", "\x00", "\xff\xfe",
	// the Name
	":\n-> e\n", "X\n-> e\n", "X:-> e\n", "X: \n-> e\n", "X :\n-> e\n", " X:\n-> e\n", "X::\n-> e\n", "X;\n-> e\n", "X:\r\n-> e\n", "X\n:\n-> e\n", "\nX:\n-> e\n", "N-K:\n-> e\n", "N K:\n-> e\n", "é:\n-> e\n", "X\xff:\n-> e\n", "X\x00:\n-> e\n", "Y:X:\n-> e\n", "Y:\nX:\n-> e\n", "\ufeffX:\n-> e\n",
	"ABCDEFGHIJKLMNOPQRSTU:\n-> e\n",
	// a line's end missing, or one too many
	"X:\n-> e", "X:\n-> e\n\n", "X:\n\n-> e\n", "X:\n-> e\n\n<- e\n", "X:\n-> e<- e\n", "X:\n-> e\n<- e", "X:\n<- s...\n-> e\n", "X:\n<- s\n...-> e\n", "X:\n<- s\n\n...\n-> e\n", "X:\n<- s\n...\n\n-> e\n", "X:\n-> e\r\n", "X:\n-> e\n\x00", "X:\n-> e\n ", "X:\n-> e,\nes\n",
	// a blank too many, or missing
	"X:\n->e\n", "X:\n->  e\n", "X:\n -> e\n", "X:\n-> e \n", "X:\n- > e\n", "X:\n-> e,es\n", "X:\n-> e,  es\n", "X:\n-> e , es\n", "X:\n-> e es\n", "X:\n-> e, es \n", "X:\n-> e,\tes\n", "X:\n->\te\n", "X:\n<-s\n...\n-> e\n", "X:\n<- s \n...\n-> e\n", "X:\n<- s\n... \n-> e\n", "X:\n<- s\n ...\n-> e\n", "X:\n<- e,s\n...\n-> e\n", "X:\n<- e  s\n...\n-> e\n",
	// commas and arrows
	"X:\n-> e,\n", "X:\n-> e, \n", "X:\n-> , e\n", "X:\n-> ,e\n", "X:\n-> e,, es\n", "X:\n-> e, , es\n", "X:\n-> \n", "X:\n->\n", "X:\n-> ,\n", "X:\n-> , \n", "X:\ne\n", "X:\n e\n", "X:\n> e\n", "X:\n- e\n", "X:\n=> e\n", "X:\n<-> e\n", "X:\n-> -> e\n", "X:\n-> <- e\n", "X:\n<- -> e\n", "X:\n<- <- e\n", "X:\n-> e -> e\n", "X:\n-> e, -> e\n", "X:\n→ e\n",
	// names of tokens that there are not
	"X:\n-> f\n", "X:\n-> E\n", "X:\n-> ES\n", "X:\n-> Psk\n", "X:\n-> psk0\n", "X:\n-> p\n", "X:\n-> ps\n", "X:\n-> eee\n", "X:\n-> sse\n", "X:\n-> ?\n", "X:\n-> e, ?\n", "X:\n-> 1\n", "X:\n-> e, f\n", "X:\n-> f, e\n", "X:\n-> e\x00\n", "X:\n-> é\n", "X:\n<- ?\n...\n-> e\n",
	// the line ...
	"X:\n...\n-> e\n", "X:\n-> e\n...\n", "X:\n<- s\n...\n", "X:\n<- s\n...\n...\n-> e\n", "X:\n<- s\n..\n-> e\n", "X:\n<- s\n....\n-> e\n", "X:\n<- s\n…\n-> e\n", "X:\n<- s\n...\n-> e\n...\n", "X:\n<- s\n...\n-> e\n...\n<- e\n", "X:\n...\n<- s\n...\n-> e\n", "...\nX:\n<- s\n-> e\n", "X:\n-> ...\n-> e\n", "X:\n-> \n...\n-> e\n", "X:\n<- \n...\n-> e\n", "X:\n->\n...\n-> e\n", "X:\n\n...\n-> e\n",
	// pre-messages: the order of both, and which there may be
	"X:\n<- s\n-> s\n...\n-> e\n", "X:\n-> s\n-> s\n...\n-> e\n", "X:\n-> e\n-> s\n...\n-> e\n", "X:\n<- s\n<- s\n...\n-> e\n", "X:\n-> s\n<- s\n<- s\n...\n-> e\n", "X:\n-> s\n<- s\n-> s\n...\n-> e\n", "X:\n-> s, e\n...\n-> e\n", "X:\n<- s, e\n...\n-> e\n", "X:\n-> e, e\n...\n-> e\n", "X:\n<- s, s\n...\n-> e\n", "X:\n<- e, s, s\n...\n-> e\n", "X:\n<- e, s, e\n...\n-> e\n", "X:\n<- ee\n...\n-> e\n", "X:\n<- psk\n...\n-> e\n", "X:\n-> e, es\n...\n-> e\n", "X:\n-> psk, s\n...\n-> e\n", "X:\n-> e\n<- e, ee\n...\n-> e\n",
	// too much
	"X:\n-> e\n<- e\n-> e\n<- e\n-> e\n<- e\n-> e\n", "X:\n-> e, e, e, e, e, e, e, e, e, e, e, e, e\n",
	"X:\n-> e\nY:\n-> e\n",
}

// wantNoPattern looks for a text that is no pattern's.
func wantNoPattern(t *testing.T, text string) {
	t.Helper()
	if p, err := token.Parse(text); err != api.ErrForm || !isZero(p) {
		t.Errorf("Parse(%.80q): %s, error %d", text, brief(p), err)
	}
}

// P5.1: texts that are no pattern's.
func TestTextsOfNoPattern(t *testing.T) {
	for _, text := range notTexts {
		wantNoPattern(t, text)
	}
}

// P5.1: texts of any length are refused without much work.
func TestLongTexts(t *testing.T) {
	for _, part := range []string{"X", "\n", "-> e\n", ":\n", "...\n", "-> s\n...\n", ", ", "e, ", "X:\n-> e\n", "\x00", "\xff", "->"} {
		for _, start := range []string{"", "X:\n", "X:\n-> e\n", "X:\n<- s\n...\n", "X:\n-> e, "} {
			for _, length := range []int{api.MaxText, api.MaxText + 1, 1 << 22} {
				wantNoPattern(t, start+strings.Repeat(part, length/len(part)+1)[:length])
			}
		}
	}
}

// P5.1: the longest text that a pattern has.
func TestLongestText(t *testing.T) {
	full := slices.Repeat([]int{psk}, 12)
	p := pattern(strings.Repeat("x", 20), []int{e, s}, []int{e, s}, from0(full...), from1(full...), from0(full...), from1(full...), from0(full...), from1(full...))
	text, err := token.Print(p)
	if err != api.OK || len(text) != 414 {
		t.Fatalf("%d bytes, error %d", len(text), err)
	}
	if q, err := token.Parse(text); err != api.OK || !token.Same(p, q) {
		t.Errorf("Parse: %v, error %d", q, err)
	}
	for _, longer := range []string{"x" + text, text + "-> e\n", strings.Replace(text, "psk\n", "psk, e\n", 1), text + text} {
		wantNoPattern(t, longer)
	}
}
