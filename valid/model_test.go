package valid_test

import (
	"math/rand"
	"slices"
	"testing"

	"undertone/api"
	"undertone/token"
	"undertone/valid"
)

// said is a token with its sender. History is all that was said up to a place:
// the chapter's words are asked of it anew each time, so nothing is carried on.
type said struct{ from, t int }
type history []said

func (h history) has(from, t int) bool { return slices.Contains(h, said{from, t}) }

func (h history) any(tokens ...int) bool {
	return slices.ContainsFunc(h, func(x said) bool { return slices.Contains(tokens, x.t) })
}

// beforehand is the history before the first message.
func beforehand(p token.Pattern) history {
	var h history
	for role, l := range p.Pre {
		for _, t := range l {
			if t == e || t == s {
				h = append(h, said{role, t})
			}
		}
	}
	return h
}

// key is the chapter's 'there is a key'.
func (h history) key(p token.Pattern) bool {
	psks := slices.Contains(p.Pre[0], psk) || slices.Contains(p.Pre[1], psk)
	for _, m := range p.Msgs {
		psks = psks || slices.Contains(m.T, psk)
	}
	return h.any(ee, es, se, ss, psk) || psks && h.any(e)
}

// wantKeyed is what Keyed must return for the index of a message.
func wantKeyed(p token.Pattern, msg int) bool {
	h := beforehand(p)
	for _, m := range p.Msgs[:msg+1] {
		for _, t := range m.T {
			h = append(h, said{m.From, t})
		}
	}
	return h.key(p)
}

// rule5 and rule6 are the parts of 'the sender may seal'.
func (h history) rule5(role int) bool {
	if role == api.Initiator {
		return (!h.any(se) || h.any(ee)) && (!h.any(ss) || h.any(es))
	}
	return (!h.any(es) || h.any(ee)) && (!h.any(ss) || h.any(se))
}

func (h history) rule6(role int) bool { return !h.any(psk) || h.has(role, e) }

func (h history) rule3(t int) bool {
	switch t {
	case ee:
		return h.has(0, e) && h.has(1, e)
	case es:
		return h.has(0, e) && h.has(1, s)
	case se:
		return h.has(0, s) && h.has(1, e)
	}
	return h.has(0, s) && h.has(1, s)
}

// verdict is what is asked at a place: a rule, the message's index, and whether it is kept.
type verdict struct {
	rule, msg int
	kept      bool
}

// verdicts are all that the chapter asks of a valid pattern, in its order.
func verdicts(p token.Pattern) []verdict {
	var l []verdict
	h := beforehand(p)
	seal := func(msg, role int) {
		l = append(l, verdict{5, msg, !h.key(p) || h.rule5(role)}, verdict{6, msg, !h.key(p) || h.rule6(role)})
	}
	for i, m := range p.Msgs {
		l = append(l, verdict{1, i, i == 0 || p.Msgs[i-1].From != m.From})
		for _, t := range m.T {
			switch t {
			case e:
				l = append(l, verdict{2, i, !h.has(m.From, e)})
			case s:
				l = append(l, verdict{2, i, !h.has(m.From, s)})
				seal(i, m.From)
			case ee, es, se, ss:
				l = append(l, verdict{3, i, h.rule3(t)}, verdict{4, i, !h.any(t)})
			}
			h = append(h, said{m.From, t})
		}
		seal(i, m.From)
	}
	n := len(p.Msgs)
	l = append(l, verdict{7, n, h.key(p)})
	if n == 1 {
		seal(n, p.Msgs[0].From)
	} else {
		seal(n, 0)
		seal(n, 1)
	}
	return l
}

// counts is how often each rule was the first one that is broken, by the
// message's index; rule 0 is that none is broken.
type counts [8][api.MaxMsgs + 1]int

// compare asks for all results for a valid pattern, and returns the rule.
func (c *counts) compare(t *testing.T, p token.Pattern) int {
	t.Helper()
	var want verdict
	for _, v := range verdicts(p) {
		if !v.kept {
			want = v
			break
		}
	}
	wantCheck(t, p, want.rule, want.msg)
	c[want.rule][want.msg]++
	for msg := range p.Msgs {
		if valid.Keyed(p, msg) != wantKeyed(p, msg) {
			t.Errorf("Keyed(%v, %d): not %v", p, msg, wantKeyed(p, msg))
		}
	}
	return want.rule
}

var pres = [][]int{nil, {e}, {s}, {e, s}}

// P7.1, P7.2: all patterns of up to three tokens, with all pre-messages; and of
// four, if the rules 1 to 4 are kept by the first three.
func TestAllSmallPatterns(t *testing.T) {
	var c counts
	p := token.Pattern{Name: "A"}
	var extend func(many int)
	extend = func(many int) {
		rule := c.compare(t, p)
		if many == 4 || many >= 3 && rule >= 1 && rule <= 4 || t.Failed() {
			return
		}
		n := len(p.Msgs) - 1
		for next := e; next <= psk; next++ {
			p.Msgs[n].T = append(p.Msgs[n].T, next)
			extend(many + 1)
			p.Msgs[n].T = p.Msgs[n].T[:len(p.Msgs[n].T)-1]
			for from := range 2 {
				p.Msgs = append(p.Msgs, token.Msg{From: from, T: []int{next}})
				extend(many + 1)
				p.Msgs = p.Msgs[:n+1]
			}
		}
	}
	for _, p.Pre[0] = range pres {
		for _, p.Pre[1] = range pres {
			for from := range 2 {
				for first := e; first <= psk; first++ {
					p.Msgs = []token.Msg{{From: from, T: []int{first}}}
					extend(1)
				}
			}
		}
	}
	for rule := range c {
		if c[rule] == [api.MaxMsgs + 1]int{} {
			t.Errorf("rule %d was not the first one in any pattern", rule)
		}
	}
}

// random returns a valid pattern, most of which keeps the rules: a token or a
// sender that breaks one at once is drawn again, but for some.
func random(r *rand.Rand) token.Pattern {
	p := token.Pattern{Name: "A", Pre: [2][]int{pres[r.Intn(4)], pres[r.Intn(4)]}}
	from := r.Intn(2)
	for range 1 + r.Intn(6) {
		p.Msgs = append(p.Msgs, token.Msg{From: from})
		m := &p.Msgs[len(p.Msgs)-1]
		for range 1 + r.Intn(5) {
			m.T = append(m.T, 1+r.Intn(7))
			for range r.Intn(40) {
				if !breaks(p) {
					break
				}
				m.T[len(m.T)-1] = 1 + r.Intn(7)
			}
		}
		if r.Intn(20) > 0 {
			from = 1 - from
		}
	}
	return p
}

// breaks reports whether one of the rules 1 to 4 is broken in p.
func breaks(p token.Pattern) bool {
	return slices.ContainsFunc(verdicts(p), func(v verdict) bool { return !v.kept && v.rule < 5 })
}

// P7.1, P7.2: random patterns of up to six messages.
func TestRandomPatterns(t *testing.T) {
	r := rand.New(rand.NewSource(7))
	var c counts
	for range 8000 {
		c.compare(t, random(r))
	}
	// Rule 6 is not broken later: without an E, a role has only one message to send before a PSK.
	for rule, last := range map[int]int{1: 5, 2: 5, 3: 5, 4: 5, 5: 5, 6: 2} {
		for msg := range last + 1 {
			if c[rule][msg] == 0 && (rule > 1 || msg > 0) {
				t.Errorf("rule %d was not broken in message %d", rule, msg)
			}
		}
	}
	if c[0][0] < 1000 {
		t.Errorf("only %d patterns satisfy the rules", c[0][0])
	}
}
