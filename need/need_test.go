package need_test

import (
	"math"
	"reflect"
	"slices"
	"strings"
	"testing"

	"undertone/api"
	"undertone/base"
	"undertone/need"
	"undertone/token"
	"undertone/valid"
)

// Short names, for the tables of this package's tests.
const (
	e   = token.E
	s   = token.S
	ee  = token.EE
	es  = token.ES
	se  = token.SE
	ss  = token.SS
	psk = token.PSK
)

// noRoles are numbers that are no roles.
var noRoles = []int{-1, 2, 3, -2, math.MinInt, math.MaxInt, math.MaxInt32 + 1, math.MinInt32 - 1, 1 << 32, 1<<32 + 1}

// lines returns the pattern of a text without its first line; the lines are
// separated by semicolons.
func lines(t *testing.T, text string) token.Pattern {
	t.Helper()
	p, err := token.Parse("A:\n" + strings.ReplaceAll(text, "; ", "\n") + "\n")
	if err != api.OK {
		t.Fatalf("%q is no pattern", text)
	}
	return p
}

// of returns keys by the names of those that there are, and the number of psks.
func of(names string, psks int) need.Keys {
	l := strings.Fields(names)
	has := func(name string) bool { return slices.Contains(l, name) }
	return need.Keys{S: has("S"), E: has("E"), RS: has("RS"), RE: has("RE"), Psks: psks}
}

// wantKeys asks for what a participant needs.
func wantKeys(t *testing.T, p token.Pattern, role int, want need.Keys) {
	t.Helper()
	if k, err := need.Of(p, role); k != want || err != api.OK {
		t.Errorf("Of(%v, %d): %v, error %d; want %v", p, role, k, err, want)
	}
}

// wantError asks for an error, beside which there are no keys.
func wantError(t *testing.T, p token.Pattern, role int, want api.Errno) {
	t.Helper()
	if k, err := need.Of(p, role); k != (need.Keys{}) || err != want {
		t.Errorf("Of(%v, %d): %v, error %d; want error %d", p, role, k, err, want)
	}
}

// needs is a pattern, and what both need for it.
type needs struct {
	text                 string
	initiator, responder string
	psks                 int
}

// wantNeeds asks for all of a table.
func wantNeeds(t *testing.T, table []needs) {
	t.Helper()
	for _, c := range table {
		p := lines(t, c.text)
		wantKeys(t, p, api.Initiator, of(c.initiator, c.psks))
		wantKeys(t, p, api.Responder, of(c.responder, c.psks))
	}
}

// P8.1: the document's example.
func TestExample(t *testing.T) {
	p, _ := base.Base("IK")
	wantKeys(t, p, api.Initiator, need.Keys{S: true, RS: true})
	wantKeys(t, p, api.Responder, need.Keys{S: true})
}

// P8.1: the own static key is needed wherever it is announced; the other one's
// only if it is announced beforehand.
func TestStaticKeys(t *testing.T) {
	wantNeeds(t, []needs{
		// By nobody.
		{"-> e; <- e, ee", "", "", 0},
		{"<- e; -> e, ee", "", "", 0},
		{"-> e; <- e, ee; -> psk; <- psk", "", "", 2},
		// In a pre-message.
		{"-> s; ...; -> e; <- e, ee, se", "S", "RS", 0},
		{"<- s; ...; -> e, es; <- e, ee", "RS", "S", 0},
		{"<- s; ...; -> e, es", "RS", "S", 0},
		{"-> s; ...; <- e, se", "S", "RS", 0},
		{"-> s; <- s; ...; -> e, es, ss", "S RS", "S RS", 0},
		{"-> s; <- s; ...; <- e, se; -> e, ee", "S RS", "S RS", 0},
		// In a message: the first one, the last one, at any place.
		{"-> e, s; <- e, ee, se", "S", "", 0},
		{"-> s, e; <- e, ee, se", "S", "", 0},
		{"-> e; <- e, ee, s, es", "", "S", 0},
		{"<- e, s; -> e, ee, es", "", "S", 0},
		{"<- e; -> e, ee, s, se", "S", "", 0},
		{"-> e; <- e, ee; -> s, se", "S", "", 0},
		{"-> e; <- e, ee, s, es; -> s, se", "S", "S", 0},
		{"-> e; <- e, ee; -> psk; <- psk; -> s, se", "S", "", 2},
		{"-> e; <- e, ee; -> psk; <- psk; -> psk; <- s, es", "", "S", 3},
		{"-> e; <- e, ee; -> psk; <- psk; -> s; <- s", "S", "S", 2},
		// Announced, and never used by a DH token.
		{"-> s; ...; -> e; <- e, ee", "S", "RS", 0},
		{"<- s; ...; -> e; <- e, ee", "RS", "S", 0},
		{"-> e; <- e, ee; -> s", "S", "", 0},
		// One of both beforehand, the other one in a message.
		{"<- s; ...; -> e, es, s, ss", "S RS", "S", 0},
		{"-> s; ...; -> e; <- e, ee, se, s, es", "S", "S RS", 0},
	})
}

// P8.1: an ephemeral key is needed beforehand only if it is in a pre-message.
func TestEphemeralKeys(t *testing.T) {
	wantNeeds(t, []needs{
		{"-> e; ...; <- e, ee", "E", "RE", 0},
		{"-> e; ...; -> s; <- e, ee, se", "S E", "RE", 0},
		{"<- e; ...; -> e, ee", "RE", "E", 0},
		{"<- e; ...; -> e, ee; <- s, es", "RE", "S E", 0},
		{"-> e; <- e; ...; -> ee", "E RE", "E RE", 0},
		{"-> e; <- e; ...; <- ee; -> s, se", "S E RE", "E RE", 0},
		{"-> e; <- s; ...; -> es; <- e, ee", "E RS", "S RE", 0},
		{"-> s; <- e; ...; -> e, ee, se", "S RE", "E RS", 0},
		{"-> e, s; ...; <- e, ee, se", "S E", "RS RE", 0},
		{"<- e, s; ...; -> e, ee, es", "RS RE", "S E", 0},
		{"-> e, s; <- e, s; ...; -> ee, es, se, ss", "S E RS RE", "S E RS RE", 0},
		{"-> e, s; <- e, s; ...; <- ee, es, se, ss", "S E RS RE", "S E RS RE", 0},
		// In a message only.
		{"-> e; <- e, ee; -> s; <- s", "S", "S", 0},
		{"<- e; -> e, ee", "", "", 0},
		{"<- s; ...; -> e, es", "RS", "S", 0},
		{"-> e; ...; -> psk", "E", "RE", 1},
		{"<- e; ...; <- psk", "RE", "E", 1},
	})
}

// P8.1: both need as many psks as there are PSK tokens, whoever sends them.
func TestPsks(t *testing.T) {
	wantNeeds(t, []needs{
		{"-> e; <- e, ee", "", "", 0},
		{"-> psk, e", "", "", 1},
		{"<- e, psk", "", "", 1},
		{"-> e, psk; <- e, ee", "", "", 1},
		{"-> e; <- e, ee, psk", "", "", 1},
		{"-> psk, e, psk; <- e, ee", "", "", 2},
		{"-> e; <- psk, psk, psk, e", "", "", 3},
		{"-> e, psk; <- psk, e, ee, psk; -> psk, s, se", "S", "", 4},
		{"-> e, psk; <- e, psk; -> psk; <- psk; -> psk; <- psk", "", "", 6},
		{"<- s; ...; -> psk, e, psk, es, psk", "RS", "S", 3},
	})
	p := token.Pattern{Name: "A", Pre: [2][]int{{e}, {e}}}
	for i := range api.MaxMsgs {
		p.Msgs = append(p.Msgs, token.Msg{From: i % 2, T: slices.Repeat([]int{psk}, api.MaxTokens)})
		for role := range 2 {
			wantKeys(t, p, role, of("E RE", len(p.Msgs)*api.MaxTokens))
		}
	}
}

// P8.1: every base pattern.
func TestBasePatterns(t *testing.T) {
	want := map[string][2]string{
		"N": {"RS", "S"}, "K": {"S RS", "S RS"}, "X": {"S RS", "S"},
		"NN": {"", ""}, "NK": {"RS", "S"}, "NX": {"", "S"},
		"XN": {"S", ""}, "XK": {"S RS", "S"}, "XX": {"S", "S"},
		"KN": {"S", "RS"}, "KK": {"S RS", "S RS"}, "KX": {"S", "S RS"},
		"IN": {"S", ""}, "IK": {"S RS", "S"}, "IX": {"S", "S"},
	}
	names := base.Names()
	if len(names) != len(want) {
		t.Errorf("%d names", len(names))
	}
	for _, name := range names {
		p, err := base.Base(name)
		if err != api.OK {
			t.Fatalf("Base(%q): error %d", name, err)
		}
		for role := range 2 {
			wantKeys(t, p, role, of(want[name][role], 0))
		}
	}
}

// P8.1: base patterns with modifiers; fallback moves keys into a pre-message.
func TestNamedPatterns(t *testing.T) {
	for _, c := range []struct {
		name                 string
		initiator, responder string
		psks                 int
	}{
		{"Npsk0", "RS", "S", 1},
		{"Kpsk0+psk1", "S RS", "S RS", 2},
		{"NNpsk2", "", "", 1},
		{"XXpsk3", "S", "S", 1},
		{"IKpsk1+psk1+psk2", "S RS", "S", 3},
		{"Npsk0+psk0+psk0+psk0", "RS", "S", 4},
		{"NNfallback", "E", "RE", 0},
		{"NXfallback", "E", "S RE", 0},
		{"XNfallback", "S E", "RE", 0},
		{"XXfallback", "S E", "S RE", 0},
		{"INfallback", "S E", "RS RE", 0},
		{"IXfallback", "S E", "S RS RE", 0},
		{"XXfallback+psk0+psk2", "S E", "S RE", 2},
		{"IXpsk2+fallback+psk0", "S E", "S RS RE", 2},
	} {
		p, err := base.Named(c.name)
		if err != api.OK {
			t.Fatalf("Named(%q): error %d", c.name, err)
		}
		wantKeys(t, p, api.Initiator, of(c.initiator, c.psks))
		wantKeys(t, p, api.Responder, of(c.responder, c.psks))
	}
}

// broken returns patterns that are valid, at least one for each rule that it
// breaks; most need keys and psks, which must not be told.
func broken(t *testing.T) []token.Pattern {
	t.Helper()
	var l []token.Pattern
	for _, c := range []struct {
		text string
		rule int
	}{
		{"-> e, s; <- e, s; ...; -> ee; -> psk", 1},
		{"-> e, s; <- e, s; ...; -> psk, e", 2},
		{"-> e, s; <- e, s; ...; -> s", 2},
		{"<- e, s; ...; -> psk, e, se", 3},
		{"-> e; <- e, es", 3},
		{"-> e, s; <- e, s; ...; -> psk, ee, ee", 4},
		{"-> e, s; <- e, s; ...; -> psk, se", 5},
		{"-> s; <- e, s; ...; -> psk", 6},
		{"-> e, s; <- e; ...; <- s", 7},
		{"-> e", 7},
	} {
		p := lines(t, c.text)
		if rule, _, err := valid.Check(p); rule != c.rule || err != api.ErrRule {
			t.Fatalf("%q breaks rule %d, error %d; not rule %d", c.text, rule, err, c.rule)
		}
		l = append(l, p)
	}
	return l
}

// wrong are patterns that are not valid; most break rules, too.
func wrong() []token.Pattern {
	pre := [2][]int{{e, s}, {e, s}}
	right := []token.Msg{{T: []int{psk}}}
	return []token.Pattern{
		{},
		{Name: "A", Pre: pre},
		{Name: "", Pre: pre, Msgs: right},
		{Name: "A-B", Pre: pre, Msgs: right},
		{Name: strings.Repeat("A", 21), Pre: pre, Msgs: right},
		{Name: "A", Pre: pre, Msgs: slices.Repeat(right, api.MaxMsgs+1)},
		{Name: "A", Pre: pre, Msgs: []token.Msg{{}}},
		{Name: "A", Pre: pre, Msgs: []token.Msg{{T: []int{psk}}, {From: 1}}},
		{Name: "A", Pre: pre, Msgs: []token.Msg{{From: 2, T: []int{psk}}}},
		{Name: "A", Pre: pre, Msgs: []token.Msg{{From: -1, T: []int{psk}}}},
		{Name: "A", Pre: pre, Msgs: []token.Msg{{T: []int{psk}}, {From: math.MaxInt, T: []int{s, psk}}}},
		{Name: "A", Pre: pre, Msgs: []token.Msg{{T: []int{psk, 0}}}},
		{Name: "A", Pre: pre, Msgs: []token.Msg{{T: []int{e, e, 8}}}},
		{Name: "A", Pre: pre, Msgs: []token.Msg{{T: []int{math.MinInt, math.MaxInt}}}},
		{Name: "A", Pre: pre, Msgs: []token.Msg{{T: slices.Repeat([]int{psk}, api.MaxTokens+1)}}},
		{Name: "A", Pre: [2][]int{{s, e}, {e, s}}, Msgs: right},
		{Name: "A", Pre: [2][]int{{e, s}, {e, e}}, Msgs: right},
		{Name: "A", Pre: [2][]int{{e, s}, {psk}}, Msgs: right},
		{Name: "A", Pre: [2][]int{{ee}, {e, s}}, Msgs: right},
		{Name: "A", Pre: [2][]int{{e, s}, {-5, 99}}, Msgs: right},
		{Name: "A", Pre: [2][]int{{e, s, 0}, {e, s}}, Msgs: right},
	}
}

// P8.1: a pattern that is valid and breaks a rule is ErrRule for both.
func TestOfBrokenPatterns(t *testing.T) {
	for _, p := range broken(t) {
		for role := range 2 {
			wantError(t, p, role, api.ErrRule)
		}
	}
}

// P8.1: a pattern that is not valid is ErrArg, whatever rules it breaks.
func TestOfWrongPatterns(t *testing.T) {
	for _, p := range wrong() {
		for role := range 2 {
			wantError(t, p, role, api.ErrArg)
		}
	}
}

// P8.1: a number that is no role is ErrArg, whatever the pattern is.
func TestOfWrongRoles(t *testing.T) {
	all := append(wrong(), broken(t)...)
	for _, name := range append(base.Names(), "XXfallback", "IKpsk2") {
		p, _ := base.Named(name)
		all = append(all, p)
	}
	for _, p := range all {
		for _, role := range noRoles {
			wantError(t, p, role, api.ErrArg)
		}
	}
}

// keysOf returns keys by a bit for each of the four.
func keysOf(bits, psks int) need.Keys {
	return need.Keys{S: bits&1 != 0, E: bits&2 != 0, RS: bits&4 != 0, RE: bits&8 != 0, Psks: psks}
}

// wantEnough asks for one result of Enough.
func wantEnough(t *testing.T, required, have need.Keys, want bool) {
	t.Helper()
	if need.Enough(required, have) != want {
		t.Errorf("Enough(%v, %v): not %v", required, have, want)
	}
}

// P8.1: Enough for one key that is needed, and for one that is not.
func TestEnoughByOneKey(t *testing.T) {
	names := []string{"S", "E", "RS", "RE"}
	all := strings.Join(names, " ")
	wantEnough(t, of("", 0), of("", 0), true)
	wantEnough(t, of(all, 3), of(all, 3), true)
	wantEnough(t, of("", 0), of(all, 0), true)
	wantEnough(t, of(all, 0), of("", 0), false)
	for i, name := range names {
		others := strings.Join(slices.Delete(slices.Clone(names), i, i+1), " ")
		wantEnough(t, of(name, 0), of(name, 0), true)
		wantEnough(t, of(name, 0), of("", 0), false)
		wantEnough(t, of(name, 0), of(others, 0), false)
		wantEnough(t, of(name, 0), of(all, 0), true)
		wantEnough(t, of(all, 0), of(others, 0), false)
		wantEnough(t, of(others, 0), of(others, 0), true)
		wantEnough(t, of(others, 0), of(all, 0), true)
	}
	for _, c := range []struct{ needed, have int }{{0, 1}, {1, 0}, {1, 2}, {2, 1}, {5, 6}, {0, -1}, {-1, 0}, {1, -1}, {math.MaxInt, math.MinInt}, {math.MinInt, 0}, {1, 1<<32 + 1}, {0, 256}} {
		wantEnough(t, of("", c.needed), of("", c.have), false)
		wantEnough(t, of("", c.needed), of(all, c.have), false)
		wantEnough(t, of(all, c.needed), of(all, c.have), false)
	}
}

// P8.1: Enough for every set of keys and every other one, with numbers of psks
// that are equal and different.
func TestEnough(t *testing.T) {
	psks := []int{0, 1, 2, 3, api.MaxMsgs * api.MaxTokens, -1, math.MaxInt, math.MinInt}
	for needed := range 16 {
		for have := range 16 {
			for _, n := range psks {
				for _, m := range psks {
					wantEnough(t, keysOf(needed, n), keysOf(have, m), needed&^have == 0 && n == m)
				}
			}
		}
	}
}

// wantSends asks for every message of a pattern, and for indices that it has not;
// senders are the roles of its messages, in order.
func wantSends(t *testing.T, p token.Pattern, senders []int) {
	t.Helper()
	n := len(senders)
	for role := range 2 {
		for msg, from := range senders {
			if need.Sends(p, role, msg) != (from == role) {
				t.Errorf("Sends(%v, %d, %d): not %v", p, role, msg, from == role)
			}
		}
	}
	for _, role := range append([]int{0, 1}, noRoles...) {
		for _, msg := range []int{-1, -2, -n, math.MinInt, n, n + 1, 2*n + 1, math.MaxInt, math.MaxInt32 + 1, 1 << 32} {
			if (msg < 0 || msg >= n) && need.Sends(p, role, msg) {
				t.Errorf("Sends(%v, %d, %d)", p, role, msg)
			}
		}
	}
}

// wantNoSender asks for numbers that are no roles.
func wantNoSender(t *testing.T, p token.Pattern) {
	t.Helper()
	for _, role := range noRoles {
		for msg := range p.Msgs {
			if need.Sends(p, role, msg) {
				t.Errorf("Sends(%v, %d, %d)", p, role, msg)
			}
		}
	}
}

// P8.1: Sends of patterns that satisfy the rules, and of some that break one.
func TestSends(t *testing.T) {
	for text, senders := range map[string][]int{
		"-> e":                         {0},
		"<- e, psk":                    {1},
		"<- s; ...; -> e, es":          {0},
		"-> s; ...; <- e, se":          {1},
		"-> e; <- e, ee":               {0, 1},
		"<- e; -> e, ee":               {1, 0},
		"-> e; <- e, ee; -> s, se":     {0, 1, 0},
		"-> e; ...; <- e, ee; -> s":    {1, 0},
		"-> e; -> e; <- e; <- e; -> e": {0, 0, 1, 1, 0},
		"<- s; <- s; <- s":             {1, 1, 1},
		"-> e; <- e, ee; -> psk; <- psk; -> psk; <- psk": {0, 1, 0, 1, 0, 1},
	} {
		p := lines(t, text)
		wantSends(t, p, senders)
		wantNoSender(t, p)
	}
	for _, name := range base.Names() {
		p, _ := base.Base(name)
		wantSends(t, p, []int{0, 1, 0}[:len(p.Msgs)])
		wantNoSender(t, p)
	}
}

// P8.1: Sends says the same of patterns that are not valid.
func TestSendsOfWrongPatterns(t *testing.T) {
	for _, p := range wrong() {
		var senders []int
		for _, m := range p.Msgs {
			senders = append(senders, m.From)
		}
		wantSends(t, p, senders)
	}
	from := []int{1, 1, 0, 1, 0, 0, 1, 0}
	p := token.Pattern{Name: "-"}
	for _, role := range from {
		p.Msgs = append(p.Msgs, token.Msg{From: role})
	}
	wantSends(t, p, from)
	wantNoSender(t, p)
}

// copyOf returns a pattern that shares no memory with p, with spare capacity that is filled.
func copyOf(p token.Pattern) token.Pattern {
	spare := func(l []int) []int { return append(slices.Clone(l), 77, 78)[:len(l)] }
	q := token.Pattern{Name: p.Name, Pre: [2][]int{spare(p.Pre[0]), spare(p.Pre[1])}}
	for _, m := range p.Msgs {
		q.Msgs = append(q.Msgs, token.Msg{From: m.From, T: spare(m.T)})
	}
	n := len(q.Msgs)
	q.Msgs = append(q.Msgs, token.Msg{From: 79})[:n]
	return q
}

// whole returns p with the spare capacity of its lists.
func whole(p token.Pattern) token.Pattern {
	q := token.Pattern{Name: p.Name}
	for role, l := range p.Pre {
		q.Pre[role] = slices.Clone(l[:len(l)+2])
	}
	for _, m := range p.Msgs {
		q.Msgs = append(q.Msgs, token.Msg{From: m.From, T: slices.Clone(m.T[:len(m.T)+2])})
	}
	q.Msgs = append(q.Msgs, p.Msgs[:len(p.Msgs)+1][len(p.Msgs)])
	return q
}

// P8.1: a pattern that is handed in is not changed, and nil and empty lists are equivalent.
func TestArguments(t *testing.T) {
	all := append(wrong(), broken(t)...)
	for _, name := range append(base.Names(), "XXfallback", "INfallback", "NKpsk0+psk2", "IXpsk2+fallback+psk0") {
		p, _ := base.Named(name)
		all = append(all, p)
	}
	for _, p := range all {
		q := copyOf(p)
		before := whole(q)
		for _, role := range []int{0, 1, 2, -1} {
			keys1, err1 := need.Of(p, role)
			keys2, err2 := need.Of(q, role)
			if keys1 != keys2 || err1 != err2 {
				t.Errorf("Of(%v, %d): %v, %d; with empty lists %v, %d", p, role, keys1, err1, keys2, err2)
			}
			for msg := range len(p.Msgs) + 1 {
				if need.Sends(p, role, msg) != need.Sends(q, role, msg) {
					t.Errorf("Sends(%v, %d, %d) differs with empty lists", p, role, msg)
				}
			}
		}
		if !reflect.DeepEqual(whole(q), before) {
			t.Errorf("%v has become %v", before, whole(q))
		}
	}
}
