package valid_test

import (
	"math"
	"reflect"
	"slices"
	"strconv"
	"strings"
	"testing"

	"undertone/api"
	"undertone/base"
	"undertone/token"
	"undertone/valid"
)

// Short names, for the tables of this package's tests.
const (
	e   = token.E
	s   = token.S
	ee  = token.EE
	es  = token.ES
	se  = token.SE
	ss  = token.SS
	psk = token.PSK
)

// lines returns the pattern of a text without its first line; the lines are
// separated by semicolons.
func lines(t *testing.T, text string) token.Pattern {
	t.Helper()
	p, err := token.Parse("A:\n" + strings.ReplaceAll(text, "; ", "\n") + "\n")
	if err != api.OK {
		t.Fatalf("%q is no pattern", text)
	}
	return p
}

// wantCheck asks for a rule and a message; rule 0 is that none is broken.
func wantCheck(t *testing.T, p token.Pattern, rule, msg int) {
	t.Helper()
	want := api.ErrRule
	if rule == 0 {
		want = api.OK
	}
	if r, m, err := valid.Check(p); r != rule || m != msg || err != want {
		t.Errorf("Check(%v): %d, %d, error %d; want %d, %d, error %d", p, r, m, err, rule, msg, want)
	}
}

// check is a pattern, and what Check returns for it.
type check struct {
	text      string
	rule, msg int
}

// wantChecks asks for all of a table.
func wantChecks(t *testing.T, table []check) {
	t.Helper()
	for _, c := range table {
		wantCheck(t, lines(t, c.text), c.rule, c.msg)
	}
}

// P7.1: the document's example.
func TestExample(t *testing.T) {
	wantCheck(t, lines(t, "-> e; <- e, es"), 3, 1)
}

// P7.1: rule 1 comes first in its message, but not before the messages before it.
func TestInTurn(t *testing.T) {
	wantChecks(t, []check{
		{"-> e; -> s", 1, 1},
		{"<- e; <- s", 1, 1},
		{"-> e; -> e", 1, 1},
		{"-> e; -> ee", 1, 1},
		{"-> e; <- e, ee; <- s", 1, 2},
		{"-> e; <- e, ee; -> psk; -> psk", 1, 3},
		{"-> e; <- e, ee; -> psk; <- psk; -> psk; -> psk", 1, 5},
		{"-> e; <- e, ee; -> psk; <- psk; -> psk; <- psk", 0, 0},
		{"<- e; -> e, ee; <- psk; -> psk; <- psk; -> psk", 0, 0},
		{"-> e, e; -> e", 2, 0},
		{"-> ee; -> e", 3, 0},
		{"-> psk; -> e", 6, 0},
		{"-> e; ...; -> psk; -> psk", 1, 1},
	})
}

// P7.1: rule 2 is about the keys of one role, in its pre-message and in all of its messages.
func TestOnceSaid(t *testing.T) {
	wantChecks(t, []check{
		{"-> e, e", 2, 0},
		{"-> s, s", 2, 0},
		{"<- e, e", 2, 0},
		{"<- s, s", 2, 0},
		{"-> e, s, e", 2, 0},
		{"-> s, e, s", 2, 0},
		{"-> e; ...; -> e", 2, 0},
		{"-> s; ...; -> s", 2, 0},
		{"-> e, s; ...; -> s", 2, 0},
		{"-> e, s; ...; -> e", 2, 0},
		{"<- e; ...; <- e", 2, 0},
		{"<- s; ...; <- s", 2, 0},
		{"<- e; ...; -> e; <- e", 2, 1},
		{"<- s; ...; -> e; <- s", 2, 1},
		{"-> e; <- e, ee; -> e", 2, 2},
		{"-> e, s; <- e, ee; -> s", 2, 2},
		{"-> s; ...; -> e; <- e, ee, se; -> s", 2, 2},
		{"-> e; <- e, ee, s; -> s; <- s", 2, 3},
		{"-> e; <- e, ee; -> s; <- s; -> psk; <- e", 2, 5},
		{"-> e, s; <- e, s, ee", 0, 0},
		{"-> e; ...; -> s; <- e, s, ee", 0, 0},
		{"-> e, s; <- e, s; ...; -> ee", 0, 0},
	})
}

// P7.1: rule 3 asks for each of both keys of each DH token.
func TestKeysSaid(t *testing.T) {
	for _, c := range []struct {
		text                 string
		initiator, responder string
	}{
		{"ee", "e", "e"},
		{"es", "e", "s"},
		{"se", "s", "e"},
		{"ss", "s", "s"},
	} {
		other := map[string]string{"e": "s", "s": "e"}
		wantChecks(t, []check{
			{"-> " + c.text, 3, 0},
			{"<- " + c.text, 3, 0},
			{"-> " + c.initiator + ", " + c.text, 3, 0},
			{"<- " + c.responder + ", " + c.text, 3, 0},
			{"-> " + c.initiator + "; ...; -> " + c.text, 3, 0},
			{"<- " + c.responder + "; ...; -> " + c.text, 3, 0},
			{"<- " + c.responder + "; ...; <- " + c.text, 3, 0},
			{"-> " + c.initiator + "; <- " + c.text, 3, 1},
			{"<- " + c.responder + "; -> " + c.text, 3, 1},
			{"-> " + c.initiator + "; <- " + c.text + ", " + c.responder, 3, 1},
			{"-> " + c.initiator + "; <- " + other[c.responder] + ", " + c.text, 3, 1},
			{"-> " + other[c.initiator] + "; <- " + c.responder + ", " + c.text, 3, 1},
			{"<- e, s; ...; -> " + other[c.initiator] + ", " + c.text, 3, 0},
			{"-> e, s; ...; <- " + other[c.responder] + ", " + c.text, 3, 0},
			{"-> e, s; <- e, s; ...; -> ee, es, se, ss; <- " + c.text, 4, 1},
		})
		// With both keys it is not rule 3, whatever else is broken.
		for _, text := range []string{
			"-> " + c.initiator + "; <- " + c.responder + "; ...; -> " + c.text,
			"-> " + c.initiator + "; <- " + c.responder + "; ...; <- " + c.text,
			"-> " + c.initiator + "; <- " + c.responder + ", " + c.text,
			"<- " + c.responder + "; -> " + c.initiator + ", " + c.text,
			"-> " + c.initiator + "; <- " + c.responder + "; -> " + c.text,
		} {
			if rule, _, _ := valid.Check(lines(t, text)); rule == 3 {
				t.Errorf("%q breaks rule 3", text)
			}
		}
	}
}

// P7.1: rule 4, in one message and in two; a PSK may occur again.
func TestOnceShared(t *testing.T) {
	for _, text := range []string{"ee", "es", "se", "ss"} {
		wantChecks(t, []check{
			{"-> e, s; <- e, s; ...; -> " + text + ", " + text, 4, 0},
			{"-> e, s; <- e, s; ...; <- " + text + ", " + text, 4, 0},
			{"-> e, s; <- e, s; ...; -> " + text + ", psk, " + text, 4, 0},
			{"-> e, s; <- e, s, ee, es, se, ss, " + text, 4, 1},
			{"-> e, s; <- e, s, ee, es, se, ss; -> " + text, 4, 2},
			{"-> e, s; <- e, s, ee, es, se, ss; -> psk; <- " + text, 4, 3},
		})
	}
	wantChecks(t, []check{
		{"-> e, psk, psk; <- psk, e, ee, psk", 0, 0},
		{"-> e, s; <- e, s; ...; -> ee, es, se, ss", 0, 0},
	})
}

// P7.1: rule 5 at the end of a message, for its sender only. It is never broken
// at an S: DH tokens with the sender's static key come after it.
func TestSafeKeysInMessages(t *testing.T) {
	wantChecks(t, []check{
		// The initiator: SE, and EE or not.
		{"-> s; <- e; ...; -> se", 5, 0},
		{"<- e; ...; -> s, se", 5, 0},
		{"-> e, s; <- e; ...; -> se", 5, 0},
		{"-> e, s; <- e; ...; -> se, ee", 0, 0},
		{"<- e; ...; -> e, s, se, ee", 0, 0},
		{"<- e; ...; -> e, ee, s, se", 0, 0},
		{"-> s; <- e, se; -> e", 5, 2},
		{"-> s; <- e, se; -> e, ee", 0, 0},
		{"-> s; <- e, se; -> psk, e", 5, 2},
		// The initiator: SS, and ES or not.
		{"-> s; <- s; ...; -> ss", 5, 0},
		{"-> s; <- s; ...; -> e, ss", 5, 0},
		{"-> s; <- s; ...; -> e, ss, es", 0, 0},
		{"-> s; <- s; ...; -> e, es, ss", 0, 0},
		{"-> s; <- e, s; ...; -> e, ss, se, ee", 5, 0},
		{"-> e, s; <- e, s, ee, se, ss; -> psk", 5, 2},
		{"-> e, s; <- e, s, ee, se, ss; -> es", 0, 0},
		// The responder: ES, and EE or not.
		{"-> e; ...; <- s, es", 5, 0},
		{"-> e; <- s; ...; <- es", 5, 0},
		{"-> e; <- s, es", 5, 1},
		{"-> e; <- e, s, es", 5, 1},
		{"-> e; <- s, es, e, ee", 0, 0},
		{"<- s; ...; -> e, es; <- e", 5, 1},
		{"<- s; ...; -> e, es; <- e, ee", 0, 0},
		// The responder: SS, and SE or not.
		{"-> s; <- s; ...; <- ss", 5, 0},
		{"-> s; <- s; ...; <- e, ss", 5, 0},
		{"-> s; <- s; ...; <- e, ss, se", 0, 0},
		{"-> e, s; <- s; ...; <- e, ss, es, ee", 5, 0},
		{"-> e, s; <- e, s, ee, es, ss", 5, 1},
		// What only the other one may not do concerns neither an S nor the end.
		{"<- s; ...; -> e, es, s", 0, 0},
		{"-> s; ...; <- e, se, s", 0, 0},
	})
}

// P7.1: rule 6 at an S before which there is a key, and at the end of a message.
func TestFreshPskInMessages(t *testing.T) {
	wantChecks(t, []check{
		// At an S: the E after it makes good the end of the message only.
		{"-> psk, s, e", 6, 0},
		{"<- psk, s, e", 6, 0},
		{"-> psk, e, s", 0, 0},
		{"-> e; ...; -> psk, s", 0, 0},
		{"<- e; ...; -> psk, s, e", 6, 0},
		{"-> e; ...; <- psk, s, e", 6, 0},
		{"<- e; ...; <- psk, s", 0, 0},
		{"-> e; <- psk, s, e", 6, 1},
		{"-> e, psk; <- s, e", 6, 1},
		{"-> e, psk; <- e, s", 0, 0},
		{"<- e; ...; -> e, ee; <- psk, s", 0, 0},
		{"-> s; <- e, psk; -> e", 0, 0},
		{"<- e, psk; -> s, e", 6, 1},
		// An S before which there is no key, or no PSK yet.
		{"-> s, psk, e", 0, 0},
		{"<- e; ...; -> s, psk, e", 0, 0},
		{"-> e; <- s, psk, e", 0, 0},
		{"-> e; <- e; ...; -> ee, s", 0, 0},
		// At the end of a message: a PSK at its beginning, and at its end.
		{"-> psk", 6, 0},
		{"<- psk", 6, 0},
		{"-> psk, e", 0, 0},
		{"-> e, psk", 0, 0},
		{"<- psk, e", 0, 0},
		{"<- e, psk", 0, 0},
		{"-> s, psk", 6, 0},
		{"<- s, psk", 6, 0},
		{"-> e; <- psk", 6, 1},
		{"-> e, psk; <- psk", 6, 1},
		{"-> s; <- e, psk; -> psk", 6, 2},
		{"-> e; <- s; -> psk; <- psk", 6, 3},
		{"-> psk, e; <- psk, e", 0, 0},
		{"-> e; ...; -> psk", 0, 0},
		{"<- e; ...; -> psk", 6, 0},
		{"-> e; ...; <- psk", 6, 0},
		{"<- e; ...; <- psk", 0, 0},
		{"-> e, s; ...; -> psk", 0, 0},
		{"<- e, s; ...; <- psk", 0, 0},
		{"-> s; ...; -> psk", 6, 0},
		{"<- s; ...; <- psk", 6, 0},
	})
}

// P7.1: rule 7; there can be no key in a pattern of up to four messages.
func TestKeyAtEnd(t *testing.T) {
	wantChecks(t, []check{
		{"-> e", 7, 1},
		{"<- e", 7, 1},
		{"-> e, s", 7, 1},
		{"-> e, s; ...; <- e, s", 7, 1},
		{"-> e; <- e", 7, 2},
		{"-> e, s; <- e, s", 7, 2},
		{"-> e; <- e; -> s; <- s", 7, 4},
		{"-> e; <- e; -> s; <- s, ee", 0, 0},
		{"-> e; <- e; -> s; <- s, psk", 0, 0},
	})
}

// P7.1: rules 5 and 6 at the end of the pattern, for both roles. Only the one
// who didn't send the last message can break them there.
func TestSealingAtEnd(t *testing.T) {
	wantChecks(t, []check{
		{"-> s; <- e, se", 5, 2},
		{"-> s; ...; -> e; <- e, se", 5, 2},
		{"<- s; -> e, es", 5, 2},
		{"-> e, s; <- e, s, ee, ss, se", 5, 2},
		{"-> e, s; <- e, s, ee, ss, se, es", 0, 0},
		{"-> e; <- e, s; -> s, ee, ss, es", 5, 3},
		{"-> e; <- e, s; -> s, ee, ss, es, se", 0, 0},
		{"-> e, psk; <- e; -> s; <- psk; -> psk; <- se", 5, 6},
		{"-> e, psk; <- e; -> s; <- psk; -> psk; <- ee, se", 0, 0},
		{"-> s; <- e, psk", 6, 2},
		{"<- s; -> e, psk", 6, 2},
		{"-> s; <- psk, e", 6, 2},
		{"-> e; ...; -> s; <- e, psk", 0, 0},
		{"<- e; ...; <- s; -> e, psk", 0, 0},
		{"-> e; ...; <- s; -> psk", 6, 2},
		{"<- e; ...; -> s; <- psk", 6, 2},
	})
}

// P7.1: rule 5 comes before rule 6 where one role breaks both.
func TestSafeKeysBeforeFreshPsk(t *testing.T) {
	wantChecks(t, []check{
		{"-> s; <- e; ...; -> se, psk", 5, 0},
		{"-> s; <- e; ...; -> psk, se", 5, 0},
		{"-> s; <- s; ...; -> ss, psk", 5, 0},
		{"-> e; ...; <- s, es, psk", 5, 0},
		{"-> s; <- s; ...; <- psk, ss", 5, 0},
		{"-> s; <- e, se, psk; -> psk", 5, 2},
		{"-> s; <- e, se, psk", 5, 2},
		{"<- s; -> e, es, psk", 5, 2},
	})
}

// P7.1: of several rules that are broken, the first one in the order of the tokens counts.
func TestFirstRule(t *testing.T) {
	wantChecks(t, []check{
		{"-> e, e, ee", 2, 0},
		{"-> e, ee, e", 3, 0},
		{"-> psk, e, e", 2, 0},
		{"-> s; ...; -> psk, s", 2, 0}, // rule 2 before rule 6, for one S
		{"-> psk, s, s", 6, 0},
		{"-> psk, ee", 3, 0},
		{"-> ee, ee", 3, 0}, // the first EE breaks rule 3 before the second one can break rule 4
		{"-> e; <- e; ...; -> ee, ee, se", 4, 0},
		{"-> e; <- e; ...; -> ee, se, ee", 3, 0},
		{"<- e; ...; -> s, se, se", 4, 0},
		{"-> psk; <- e, e", 6, 0},
		{"-> e; <- e; -> e", 2, 2},
		{"-> e; ...; <- e; <- ee", 1, 1},
	})
}

// P7.1: for a pattern of one message, only its sender counts at the end.
func TestOneMessage(t *testing.T) {
	wantChecks(t, []check{
		{"<- s; ...; -> e, es", 0, 0},           // the responder would break rule 5
		{"-> s; ...; <- e, se", 0, 0},           // so would the initiator
		{"-> e, psk", 0, 0},                     // the responder would break rule 6
		{"<- e, psk", 0, 0},                     // so would the initiator
		{"-> s; <- s; ...; -> e, es, ss", 0, 0}, // both tokens of rule 5
		{"-> s; <- s; ...; <- e, se, ss", 0, 0},
	})
}

// wrong are patterns that are not valid.
func wrong() []token.Pattern {
	long := slices.Repeat([]int{psk}, api.MaxTokens+1)
	return []token.Pattern{
		{},
		{Name: "A"},
		{Name: "", Msgs: []token.Msg{{T: []int{psk, e}}}},
		{Name: "A-B", Msgs: []token.Msg{{T: []int{psk, e}}}},
		{Name: strings.Repeat("A", 21), Msgs: []token.Msg{{T: []int{psk, e}}}},
		{Name: "A", Msgs: slices.Repeat([]token.Msg{{T: []int{e}}}, api.MaxMsgs+1)},
		{Name: "A", Msgs: []token.Msg{{}}},
		{Name: "A", Msgs: []token.Msg{{T: []int{e, psk}}, {From: 1}}},
		{Name: "A", Msgs: []token.Msg{{From: 2, T: []int{e, psk}}}},
		{Name: "A", Msgs: []token.Msg{{From: -1, T: []int{e, psk}}}},
		{Name: "A", Msgs: []token.Msg{{From: math.MaxInt, T: []int{s, psk}}}},
		{Name: "A", Msgs: []token.Msg{{T: []int{e, 0}}}},
		{Name: "A", Msgs: []token.Msg{{T: []int{e, e, 8}}}},
		{Name: "A", Msgs: []token.Msg{{T: []int{math.MinInt, math.MaxInt}}}},
		{Name: "A", Msgs: []token.Msg{{T: long}}},
		{Name: "A", Pre: [2][]int{{s, e}, nil}, Msgs: []token.Msg{{T: []int{psk}}}},
		{Name: "A", Pre: [2][]int{nil, {e, e}}, Msgs: []token.Msg{{T: []int{e, ee}}}},
		{Name: "A", Pre: [2][]int{{psk}, nil}, Msgs: []token.Msg{{T: []int{e}}}},
		{Name: "A", Pre: [2][]int{{ee}, {-5, 99}}, Msgs: []token.Msg{{T: []int{e}}}},
	}
}

// P7.1: a pattern that is not valid is ErrArg, whatever rules it breaks.
func TestCheckOfWrongPatterns(t *testing.T) {
	for _, p := range wrong() {
		if rule, msg, err := valid.Check(p); rule != 0 || msg != 0 || err != api.ErrArg {
			t.Errorf("Check(%v): %d, %d, error %d", p, rule, msg, err)
		}
	}
}

// P7.2: from which message on there is a key.
func TestKeyed(t *testing.T) {
	for _, c := range []struct {
		text  string
		first int
	}{
		{"-> e; <- e, ee; -> s, se", 1},
		{"<- s; ...; -> e, es; <- e, ee", 0},
		{"-> s; ...; -> e; <- e, se; -> ee", 1},
		{"-> s; <- s; ...; -> ss; <- e", 0},
		{"-> e, s; <- e, s; -> psk", 0},
		{"-> s; <- s; -> psk", 2},
		{"-> s; <- e; -> psk", 1},
		{"-> e; <- e; -> s; <- psk, s", 0},
		{"-> e; ...; -> s; <- psk", 0},
		{"<- e; ...; -> s; <- psk", 0},
		{"-> s; <- s; ...; -> e; <- e, psk", 0},
		{"-> e; ...; -> s; <- e, ee", 1},
		{"-> psk; <- e", 0},
		{"-> e; <- e; -> s; <- s", 4},
		{"-> e; <- e; -> s; <- s, ee", 3},
		// It does not matter whether the pattern satisfies the rules.
		{"-> e; -> e; -> e", 3},
		{"-> s; -> s; -> ss; -> ss", 2},
	} {
		p := lines(t, c.text)
		for msg := range p.Msgs {
			if valid.Keyed(p, msg) != (msg >= c.first) {
				t.Errorf("Keyed(%q, %d): not %v", c.text, msg, msg >= c.first)
			}
		}
		wantNoMessages(t, p)
	}
}

// wantNoMessages asks for the indices of messages that p has not.
func wantNoMessages(t *testing.T, p token.Pattern) {
	t.Helper()
	n := len(p.Msgs)
	for _, msg := range []int{-1, -2, math.MinInt, n, n + 1, math.MaxInt, math.MaxInt32 + 1} {
		if valid.Keyed(p, msg) {
			t.Errorf("Keyed(%v, %d)", p, msg)
		}
	}
}

// P7.2: Keyed and OneWay say the same of a pattern that is not valid.
func TestKeyedOfWrongPatterns(t *testing.T) {
	for _, p := range wrong() {
		wantNoMessages(t, p)
		for msg := range p.Msgs {
			if valid.Keyed(p, msg) != wantKeyed(p, msg) {
				t.Errorf("Keyed(%v, %d): not %v", p, msg, wantKeyed(p, msg))
			}
		}
		if valid.OneWay(p) != (len(p.Msgs) == 1) {
			t.Errorf("OneWay(%v)", p)
		}
	}
}

// P7.2: patterns of zero, one and more messages.
func TestOneWay(t *testing.T) {
	for n := range api.MaxMsgs + 2 {
		p := token.Pattern{Name: "A", Pre: [2][]int{{e}, {s}}}
		for i := range n {
			p.Msgs = append(p.Msgs, token.Msg{From: i % 2, T: []int{e, psk}})
		}
		if valid.OneWay(p) != (n == 1) {
			t.Errorf("OneWay of %d messages: not %v", n, n == 1)
		}
	}
	for _, name := range base.Names() {
		p, _ := base.Base(name)
		if valid.OneWay(p) != (len(name) == 1) {
			t.Errorf("OneWay of %s: not %v", name, len(name) == 1)
		}
	}
}

// P7.3: the base patterns, with the first message at whose end there is a key.
func TestBasePatterns(t *testing.T) {
	first := map[string]int{
		"N": 0, "K": 0, "X": 0,
		"NN": 1, "NK": 0, "NX": 1, "XN": 1, "XK": 0, "XX": 1,
		"KN": 1, "KK": 0, "KX": 1, "IN": 1, "IK": 0, "IX": 1,
	}
	names := base.Names()
	if len(names) != len(first) {
		t.Errorf("%d names", len(names))
	}
	for _, name := range names {
		p, err := base.Base(name)
		if err != api.OK {
			t.Fatalf("Base(%q): error %d", name, err)
		}
		wantCheck(t, p, 0, 0)
		for msg := range p.Msgs {
			if valid.Keyed(p, msg) != (msg >= first[name]) {
				t.Errorf("Keyed of %s, message %d: not %v", name, msg, msg >= first[name])
			}
		}
		wantNoMessages(t, p)
	}
}

// P7.3: base patterns with modifiers satisfy the rules too; those with a psk
// have a key from the first message on, as an E is announced there or before.
func TestBasePatternsWithModifiers(t *testing.T) {
	modifiers := []string{"fallback"}
	for n := range 10 {
		modifiers = append(modifiers, "psk"+strconv.Itoa(n))
	}
	many := 0
	var try func(name string, first bool)
	try = func(name string, first bool) {
		p, err := base.Named(name)
		if err != api.OK {
			return
		}
		many++
		wantCheck(t, p, 0, 0)
		if strings.Contains(name, "psk") && !valid.Keyed(p, 0) {
			t.Errorf("%s has no key", name)
		}
		for _, m := range modifiers {
			if first {
				try(name+m, false)
			} else {
				try(name+"+"+m, false)
			}
		}
	}
	for _, name := range base.Names() {
		try(name, true)
	}
	if many < 500 {
		t.Errorf("only %d names", many)
	}
}

// copyOf returns a pattern that shares no memory with p, with spare capacity that is filled.
func copyOf(p token.Pattern) token.Pattern {
	spare := func(l []int) []int { return append(slices.Clone(l), 77, 78)[:len(l)] }
	q := token.Pattern{Name: p.Name, Pre: [2][]int{spare(p.Pre[0]), spare(p.Pre[1])}}
	for _, m := range p.Msgs {
		q.Msgs = append(q.Msgs, token.Msg{From: m.From, T: spare(m.T)})
	}
	n := len(q.Msgs)
	q.Msgs = append(q.Msgs, token.Msg{From: 79})[:n]
	return q
}

// whole returns p with the spare capacity of its lists.
func whole(p token.Pattern) token.Pattern {
	q := token.Pattern{Name: p.Name}
	for role, l := range p.Pre {
		q.Pre[role] = slices.Clone(l[:len(l)+2])
	}
	for _, m := range p.Msgs {
		q.Msgs = append(q.Msgs, token.Msg{From: m.From, T: slices.Clone(m.T[:len(m.T)+2])})
	}
	q.Msgs = append(q.Msgs, p.Msgs[:len(p.Msgs)+1][len(p.Msgs)])
	return q
}

// P7.1, P7.2: a pattern that is handed in is not changed, and nil and empty lists are equivalent.
func TestArguments(t *testing.T) {
	all := wrong()
	for _, name := range base.Names() {
		p, _ := base.Base(name)
		q, _ := base.Psk(p, 1)
		all = append(all, p, q)
	}
	for _, text := range []string{"-> e; -> e", "-> e, e", "-> ee", "-> e; <- e; ...; -> ee, ee", "-> s; <- e; ...; -> se", "-> psk, s", "-> e"} {
		all = append(all, lines(t, text))
	}
	for _, p := range all {
		q := copyOf(p)
		before := whole(q)
		rule1, msg1, err1 := valid.Check(p)
		rule2, msg2, err2 := valid.Check(q)
		if rule1 != rule2 || msg1 != msg2 || err1 != err2 {
			t.Errorf("Check(%v): %d, %d, %d; with empty lists %d, %d, %d", p, rule1, msg1, err1, rule2, msg2, err2)
		}
		for msg := range len(p.Msgs) + 1 {
			if valid.Keyed(p, msg) != valid.Keyed(q, msg) {
				t.Errorf("Keyed(%v, %d) differs with empty lists", p, msg)
			}
		}
		valid.OneWay(q)
		if !reflect.DeepEqual(whole(q), before) {
			t.Errorf("%v has become %v", before, whole(q))
		}
	}
}
