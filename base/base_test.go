package base_test

import (
	"math"
	"reflect"
	"slices"
	"strings"
	"testing"

	"undertone/api"
	"undertone/base"
	"undertone/token"
)

// Short names, for the tables of this package's tests.
const (
	e   = token.E
	s   = token.S
	ee  = token.EE
	es  = token.ES
	se  = token.SE
	ss  = token.SS
	psk = token.PSK
)

// rows is the document's table of the base patterns, token by token.
var rows = []struct {
	name       string
	pre0, pre1 []int
	msgs       [][]int
}{
	{"N", nil, []int{s}, [][]int{{e, es}}},
	{"K", []int{s}, []int{s}, [][]int{{e, es, ss}}},
	{"X", nil, []int{s}, [][]int{{e, es, s, ss}}},
	{"NN", nil, nil, [][]int{{e}, {e, ee}}},
	{"NK", nil, []int{s}, [][]int{{e, es}, {e, ee}}},
	{"NX", nil, nil, [][]int{{e}, {e, ee, s, es}}},
	{"XN", nil, nil, [][]int{{e}, {e, ee}, {s, se}}},
	{"XK", nil, []int{s}, [][]int{{e, es}, {e, ee}, {s, se}}},
	{"XX", nil, nil, [][]int{{e}, {e, ee, s, es}, {s, se}}},
	{"KN", []int{s}, nil, [][]int{{e}, {e, ee, se}}},
	{"KK", []int{s}, []int{s}, [][]int{{e, es, ss}, {e, ee, se}}},
	{"KX", []int{s}, nil, [][]int{{e}, {e, ee, se, s, es}}},
	{"IN", nil, nil, [][]int{{e, s}, {e, ee, se}}},
	{"IK", nil, []int{s}, [][]int{{e, es, s, ss}, {e, ee, se}}},
	{"IX", nil, nil, [][]int{{e, s}, {e, ee, se, s, es}}},
}

// from0 and from1 are messages of each role.
func from0(tokens ...int) token.Msg { return token.Msg{From: 0, T: tokens} }
func from1(tokens ...int) token.Msg { return token.Msg{From: 1, T: tokens} }

// pattern puts a pattern together.
func pattern(name string, pre0, pre1 []int, msgs ...token.Msg) token.Pattern {
	return token.Pattern{Name: name, Pre: [2][]int{pre0, pre1}, Msgs: msgs}
}

// copyOf returns a pattern that shares no memory with p.
func copyOf(p token.Pattern) token.Pattern {
	q := pattern(p.Name, slices.Clone(p.Pre[0]), slices.Clone(p.Pre[1]), slices.Clone(p.Msgs)...)
	for i := range q.Msgs {
		q.Msgs[i].T = slices.Clone(q.Msgs[i].T)
	}
	return q
}

// tokens returns a list of n tokens.
func tokens(n int) []int { return slices.Repeat([]int{ee}, n) }

// basePatterns returns the patterns of rows.
func basePatterns() []token.Pattern {
	var l []token.Pattern
	for _, r := range rows {
		p := pattern(r.name, r.pre0, r.pre1)
		for i, tokens := range r.msgs {
			p.Msgs = append(p.Msgs, token.Msg{From: i % 2, T: tokens})
		}
		l = append(l, copyOf(p))
	}
	return l
}

// samples are patterns that are no base patterns: other names, orders and sizes.
func samples() []token.Pattern {
	return []token.Pattern{
		pattern("a", nil, nil, from1(e), from0(s)),
		pattern("+", nil, []int{e, s}, from0(e, s), from0(psk), from1(ee)),
		pattern("XXpsk0+psk0", nil, []int{e}, from0(s), from0(s), from0(s)),
		pattern("NK", []int{e}, []int{s}, from1(psk), from1(psk, psk)),
		pattern("ABCDEFGHIJKLMNOPQRS9", nil, nil, from0(e), from1(tokens(11)...), from0(tokens(12)...), from1(e), from0(s), from1(se)),
		pattern("9", nil, nil, from0(tokens(11)...), from1(tokens(12)...), from1(tokens(1)...)),
		pattern("z", nil, []int{s}, from0(tokens(12)...), from1(tokens(11)...)),
		pattern("one", nil, nil, from0(e)),
		pattern("both", []int{e, s}, []int{e, s}, from0(e), from1(e)),
	}
}

// invalid returns patterns that are not valid, each for one reason.
func invalid() []token.Pattern {
	return []token.Pattern{
		{},
		pattern("", nil, nil, from0(e), from1(e)),
		pattern("a-b", nil, nil, from0(e), from1(e)),
		pattern(strings.Repeat("a", 21), nil, nil, from0(e), from1(e)),
		pattern("a", nil, nil),
		pattern("a", nil, nil, from0(e), from1(e), from0(e), from1(e), from0(e), from1(e), from0(e)),
		pattern("a", []int{s, e}, nil, from0(e), from1(e)),
		pattern("a", []int{ee}, nil, from0(e), from1(e)),
		pattern("a", nil, []int{e, e}, from0(e), from1(e)),
		pattern("a", nil, nil, from0(), from1(e)),
		pattern("a", nil, nil, from0(e), from1()),
		pattern("a", nil, nil, from0(tokens(13)...), from1(e)),
		pattern("a", nil, nil, from0(e), from1(tokens(13)...)),
		pattern("a", nil, nil, from0(0), from1(e)),
		pattern("a", nil, nil, from0(e), from1(8)),
		pattern("a", nil, nil, token.Msg{From: 2, T: []int{e}}, from1(e)),
		pattern("a", nil, nil, token.Msg{From: -1, T: []int{e}}, from1(e)),
		pattern("a", nil, nil, from0(e), token.Msg{From: math.MaxInt, T: []int{e}}),
	}
}

// wantPattern looks for a result without an error.
func wantPattern(t *testing.T, what string, p token.Pattern, err api.Errno, want token.Pattern) {
	t.Helper()
	if err != api.OK || !token.Same(p, want) {
		t.Errorf("%q: %v, error %d, not %v", what, p, err, want)
	}
	if !token.Right(p) {
		t.Errorf("%q: %v is not valid", what, p)
	}
}

// wantError looks for an error, and nothing beside it.
func wantError(t *testing.T, what string, p token.Pattern, err, want api.Errno) {
	t.Helper()
	if err != want || p.Name != "" || len(p.Pre[0])+len(p.Pre[1])+len(p.Msgs) != 0 {
		t.Errorf("%.80q: %v, error %d, not error %d", what, p, err, want)
	}
}

// P6.1: the names, in the order of the table, each time in new memory.
func TestNames(t *testing.T) {
	var want []string
	for _, r := range rows {
		want = append(want, r.name)
	}
	for range 2 {
		names := base.Names()
		if !slices.Equal(names, want) {
			t.Fatalf("Names: %q, not %q", names, want)
		}
		names = names[:cap(names)]
		for i := range names {
			names[i] = "?"
		}
	}
	if p, err := base.Base("NN"); err != api.OK || p.Name != "NN" {
		t.Errorf("Base: %v, error %d, after the names were overwritten", p, err)
	}
}

// P6.1: every row of the table.
func TestBase(t *testing.T) {
	for _, want := range basePatterns() {
		p, err := base.Base(want.Name)
		wantPattern(t, "Base "+want.Name, p, err, want)
	}
}

// P6.1: names that are no base pattern's.
func TestBaseOfOtherNames(t *testing.T) {
	for _, name := range []string{"", " ", "nn", "Nn", "nN", "n", "NN ", " NN", "NN\n", "NN:", "NN:\n", "N\x00", "NN\x00", "XXX", "NNN", "NKN",
		"XXfallback", "NNpsk0", "NN+", "+", "psk0", "fallback", "1", "\xff", "X\xff", "Ν", "ΝΝ", "XÄ", strings.Repeat("N", 1<<16)} {
		p, err := base.Base(name)
		wantError(t, "Base "+name, p, err, api.ErrName)
	}
}

// P6.1: all names of one and two bytes, and of three of the table's letters.
func TestBaseOfShortNames(t *testing.T) {
	right := 0
	look := func(name string) {
		p, err := base.Base(name)
		if slices.Contains(base.Names(), name) && err == api.OK && p.Name == name {
			right++
			return
		}
		wantError(t, "Base "+name, p, err, api.ErrName)
	}
	for i := range 256 {
		look(string([]byte{byte(i)}))
		for j := range 256 {
			look(string([]byte{byte(i), byte(j)}))
		}
	}
	for _, a := range "NKXI" {
		for _, b := range "NKXI" {
			for _, c := range "NKXI" {
				look(string([]rune{a, b, c}))
			}
		}
	}
	if right != 15 {
		t.Errorf("%d of 15 base patterns were found", right)
	}
}

// withPsk adds a PSK to the lines of p's text.
func withPsk(t *testing.T, p token.Pattern, n int) token.Pattern {
	t.Helper()
	text, _ := token.Print(p)
	lines := strings.Split(strings.TrimSuffix(text, "\n"), "\n")
	first := len(lines) - len(p.Msgs)
	if n == 0 {
		lines[first] = lines[first][:3] + "psk, " + lines[first][3:]
	} else {
		lines[first+n-1] += ", psk"
	}
	q, err := token.Parse(strings.Join(lines, "\n") + "\n")
	if err != api.OK {
		t.Fatalf("%v has no further PSK at %d", p, n)
	}
	return q
}

// P6.2: Psk of ordinary patterns, for every n that there is and others.
func TestPsk(t *testing.T) {
	full := 0
	for _, p := range append(basePatterns(), samples()...) {
		for n := range len(p.Msgs) + 1 {
			q, err := base.Psk(p, n)
			if len(p.Msgs[max(n, 1)-1].T) == 12 {
				full++
				wantError(t, "Psk of a full message of "+p.Name, q, err, api.ErrRule)
				continue
			}
			wantPattern(t, "Psk "+p.Name, q, err, withPsk(t, p, n))
			if q.Name != p.Name {
				t.Errorf("Psk(%v, %d): the Name is %q", p, n, q.Name)
			}
		}
		for _, n := range []int{-1, -2, len(p.Msgs) + 1, len(p.Msgs) + 2, 7, 1 << 32, -1 << 32, math.MinInt, math.MinInt + 1, math.MaxInt} {
			q, err := base.Psk(p, n)
			wantError(t, "Psk "+p.Name, q, err, api.ErrRule)
		}
	}
	if full != 4 {
		t.Errorf("%d of 4 full messages", full)
	}
}

// P6.2: where the PSK is, written out.
func TestPlaceOfPsk(t *testing.T) {
	p := pattern("a", []int{e}, []int{s}, from0(e, es), from1(psk, e), from0(s))
	for n, want := range []token.Pattern{
		pattern("a", []int{e}, []int{s}, from0(psk, e, es), from1(psk, e), from0(s)),
		pattern("a", []int{e}, []int{s}, from0(e, es, psk), from1(psk, e), from0(s)),
		pattern("a", []int{e}, []int{s}, from0(e, es), from1(psk, e, psk), from0(s)),
		pattern("a", []int{e}, []int{s}, from0(e, es), from1(psk, e), from0(s, psk)),
	} {
		q, err := base.Psk(p, n)
		wantPattern(t, "Psk", q, err, want)
	}
}

// P6.2: a message can have 12 tokens afterwards, but no more; the other ones do not matter.
func TestPskOfFullMessages(t *testing.T) {
	for count := 1; count <= 6; count++ {
		for n := range count + 1 {
			p := pattern("a", nil, nil)
			for range count {
				p.Msgs = append(p.Msgs, from0(tokens(12)...))
			}
			q, err := base.Psk(p, n)
			wantError(t, "Psk with 12 tokens", q, err, api.ErrRule)
			m := &p.Msgs[max(n, 1)-1]
			m.T = tokens(11)
			q, err = base.Psk(p, n)
			wantPattern(t, "Psk with 11 tokens", q, err, withPsk(t, p, n))
			q, err = base.Psk(q, n)
			wantError(t, "Psk with a twelfth token", q, err, api.ErrRule)
		}
	}
}

// P6.2: Psk of patterns that are not valid, whatever n is.
func TestPskOfInvalid(t *testing.T) {
	for _, p := range invalid() {
		for _, n := range []int{0, 1, 2, -1, 7, 8, math.MinInt, math.MaxInt} {
			q, err := base.Psk(p, n)
			wantError(t, "Psk", q, err, api.ErrArg)
		}
	}
}

// P6.2: Fallback of the base patterns: of these, as the chapter says, and of no others.
func TestFallbackOfBase(t *testing.T) {
	wants := map[string]token.Pattern{
		"NN": pattern("NN", []int{e}, nil, from1(e, ee)),
		"NX": pattern("NX", []int{e}, nil, from1(e, ee, s, es)),
		"XN": pattern("XN", []int{e}, nil, from1(e, ee), from0(s, se)),
		"XX": pattern("XX", []int{e}, nil, from1(e, ee, s, es), from0(s, se)),
		"IN": pattern("IN", []int{e, s}, nil, from1(e, ee, se)),
		"IX": pattern("IX", []int{e, s}, nil, from1(e, ee, se, s, es)),
	}
	for _, p := range basePatterns() {
		q, err := base.Fallback(p)
		if want, is := wants[p.Name]; is {
			wantPattern(t, "Fallback "+p.Name, q, err, want)
		} else {
			wantError(t, "Fallback "+p.Name, q, err, api.ErrRule)
		}
	}
}

// P6.2: each thing that Fallback asks for, missing alone.
func TestFallbackRules(t *testing.T) {
	right := pattern("a+1", nil, []int{e, s}, from0(e, s), from0(psk, s), from1(e))
	q, err := base.Fallback(right)
	wantPattern(t, "Fallback", q, err, pattern("a+1", []int{e, s}, []int{e, s}, from0(psk, s), from1(e)))
	for what, p := range map[string]token.Pattern{
		"from the responder":    pattern("a", nil, nil, from1(e, s), from0(psk)),
		"EE":                    pattern("a", nil, nil, from0(ee), from1(e)),
		"PSK":                   pattern("a", nil, nil, from0(psk), from1(e)),
		"E and PSK":             pattern("a", nil, nil, from0(e, psk), from1(e)),
		"PSK and E":             pattern("a", nil, nil, from0(psk, e), from1(e)),
		"E, S and PSK":          pattern("a", nil, nil, from0(e, s, psk), from1(e)),
		"E, S and E":            pattern("a", nil, nil, from0(e, s, e), from1(e)),
		"E twice":               pattern("a", nil, nil, from0(e, e), from1(e)),
		"S twice":               pattern("a", nil, nil, from0(s, s), from1(e)),
		"S and E":               pattern("a", nil, nil, from0(s, e), from1(e)),
		"12 tokens":             pattern("a", nil, nil, from0(slices.Repeat([]int{e, s}, 6)...), from1(e)),
		"a pre-message E":       pattern("a", []int{e}, nil, from0(s), from1(e)),
		"a pre-message S":       pattern("a", []int{s}, nil, from0(e), from1(e)),
		"a pre-message E and S": pattern("a", []int{e, s}, nil, from0(e), from1(e)),
		"one message":           pattern("a", nil, nil, from0(e)),
		"one message E and S":   pattern("a", nil, []int{s}, from0(e, s)),
	} {
		q, err := base.Fallback(p)
		wantError(t, "Fallback: "+what, q, err, api.ErrRule)
	}
}

// sequences returns all lists of 1 to n tokens.
func sequences(n int) [][]int {
	l := [][]int{{}}
	for i := 0; i < len(l); i++ {
		if len(l[i]) < n {
			for next := e; next <= psk; next++ {
				l = append(l, append(slices.Clone(l[i]), next))
			}
		}
	}
	return l[1:]
}

// P6.2: Fallback of all first messages up to 3 tokens, from both, with all pre-messages, and 1 to 6 messages.
func TestFallbackOfAll(t *testing.T) {
	others := []token.Msg{from1(e, ee), from0(e), from0(s, psk), from1(tokens(12)...), from1(psk)}
	pres := [][]int{nil, {e}, {s}, {e, s}}
	fits := func(l []int) bool {
		return len(l) == 1 && l[0] <= s || len(l) == 2 && l[0] == e && l[1] == s
	}
	right := 0
	for _, first := range sequences(3) {
		for i := range 2 * 4 * 4 * 6 {
			from, pre0, pre1, count := i%2, pres[i/2%4], pres[i/8%4], i/32
			p := copyOf(pattern("p", pre0, pre1, append([]token.Msg{{From: from, T: first}}, others[:count]...)...))
			q, err := base.Fallback(p)
			if from == 0 && fits(first) && len(pre0) == 0 && count > 0 {
				right++
				wantPattern(t, "Fallback", q, err, pattern("p", first, pre1, others[:count]...))
			} else {
				wantError(t, "Fallback", q, err, api.ErrRule)
			}
		}
	}
	if right != 3*4*5 {
		t.Errorf("%d patterns have a fallback", right)
	}
}

// P6.2: Fallback of patterns that are not valid, though some break its rules as well.
func TestFallbackOfInvalid(t *testing.T) {
	for _, p := range invalid() {
		q, err := base.Fallback(p)
		wantError(t, "Fallback", q, err, api.ErrArg)
	}
	for _, p := range []token.Pattern{pattern("", nil, nil, from1(e)), pattern("a", []int{s, s}, nil, from0(e), from1(e)), pattern("a", nil, nil, from0(e, 9), from1(e))} {
		q, err := base.Fallback(p)
		wantError(t, "Fallback", q, err, api.ErrArg)
	}
}

// roomy returns a copy of p whose lists have spare capacity, filled with tokens.
func roomy(p token.Pattern) token.Pattern {
	grow := func(l []int) []int {
		return append(slices.Clone(l), 91, 92, 93)[:len(l)]
	}
	q := copyOf(p)
	q.Pre = [2][]int{grow(q.Pre[0]), grow(q.Pre[1])}
	for i := range q.Msgs {
		q.Msgs[i].T = grow(q.Msgs[i].T)
	}
	q.Msgs = append(q.Msgs, token.Msg{From: 94, T: []int{95}})[:len(q.Msgs)]
	return q
}

// whole returns p with the spare capacity of its lists, in new memory.
func whole(p token.Pattern) token.Pattern {
	msgs := p.Msgs[:cap(p.Msgs)]
	q := copyOf(pattern(p.Name, p.Pre[0][:cap(p.Pre[0])], p.Pre[1][:cap(p.Pre[1])], msgs...))
	for i := range msgs {
		q.Msgs[i].T = slices.Clone(msgs[i].T[:cap(msgs[i].T)])
	}
	return q
}

// lists returns all lists of tokens of a pattern.
func lists(p token.Pattern) [][]int {
	l := [][]int{p.Pre[0], p.Pre[1]}
	for _, m := range p.Msgs {
		l = append(l, m.T)
	}
	return l
}

// overwrite fills all of a pattern's lists but one, with their spare capacity.
func overwrite(p token.Pattern, but int) {
	for i, l := range lists(p) {
		if i != but {
			l = l[:cap(l)]
			for j := range l {
				l[j] = 99
			}
		}
	}
}

// overwriteMsgs fills the list of a pattern's messages, with its spare capacity.
func overwriteMsgs(p token.Pattern) {
	msgs := p.Msgs[:cap(p.Msgs)]
	for i := range msgs {
		msgs[i] = token.Msg{From: 98}
	}
}

// P6.2: a pattern that is handed in is not changed, not even its spare capacity, and shares nothing with the result.
func TestArgumentsStay(t *testing.T) {
	calls := map[string]func(p token.Pattern) (token.Pattern, api.Errno){"Fallback": base.Fallback}
	for n, name := range []string{"Psk 0", "Psk 1", "Psk 2", "Psk 3"} {
		calls[name] = func(p token.Pattern) (token.Pattern, api.Errno) { return base.Psk(p, n) }
	}
	for _, sample := range slices.Concat(basePatterns(), samples(), invalid()) {
		for what, call := range calls {
			p := roomy(sample)
			before := whole(p)
			q, err := call(p)
			if !reflect.DeepEqual(whole(p), before) {
				t.Errorf("%s: %v has become %v", what, before, whole(p))
			}
			want := copyOf(q)
			overwrite(p, -1)
			overwriteMsgs(p)
			if !token.Same(q, want) {
				t.Errorf("%s: the result shares memory with the argument", what)
			}
			p = roomy(sample)
			before = whole(p)
			q, err2 := call(p)
			overwrite(q, -1)
			overwriteMsgs(q)
			if err2 != err || !reflect.DeepEqual(whole(p), before) {
				t.Errorf("%s: the argument shares memory with the result", what)
			}
		}
	}
}

// P6.1, P6.2, P6.3: no two results, and no two lists of a result, share memory.
func TestResultsShareNothing(t *testing.T) {
	p := pattern("a", nil, []int{e, s}, from0(e, s), from1(psk), from0(e))
	for what, call := range map[string]func() (token.Pattern, api.Errno){
		"Base":     func() (token.Pattern, api.Errno) { return base.Base("XX") },
		"Psk":      func() (token.Pattern, api.Errno) { return base.Psk(p, 2) },
		"Fallback": func() (token.Pattern, api.Errno) { return base.Fallback(p) },
		"Named":    func() (token.Pattern, api.Errno) { return base.Named("XXfallback+psk0") },
	} {
		first, _ := call()
		want := copyOf(first)
		for i, l := range lists(want) {
			q, _ := call()
			overwrite(q, i)
			if !slices.Equal(lists(q)[i], l) {
				t.Errorf("%s: list %d shares memory with another one", what, i)
			}
			overwrite(q, -1)
			overwriteMsgs(q)
		}
		last, err := call()
		if err != api.OK || !token.Same(first, want) || !token.Same(last, want) {
			t.Errorf("%s: results share memory", what)
		}
	}
}

// P6.2: nil and empty lists are equivalent.
func TestNilAndEmpty(t *testing.T) {
	for _, p := range append(basePatterns(), samples()...) {
		q := copyOf(p)
		for role := range q.Pre {
			if len(q.Pre[role]) == 0 {
				q.Pre[role] = make([]int, 0, 4)
			}
		}
		for n := range 3 {
			a, err1 := base.Psk(p, n)
			b, err2 := base.Psk(q, n)
			if err1 != err2 || !token.Same(a, b) {
				t.Errorf("Psk(%v, %d): %v, error %d, and %v, error %d", p, n, a, err1, b, err2)
			}
		}
		a, err1 := base.Fallback(p)
		b, err2 := base.Fallback(q)
		if err1 != err2 || !token.Same(a, b) {
			t.Errorf("Fallback(%v): %v, error %d, and %v, error %d", p, a, err1, b, err2)
		}
	}
}
