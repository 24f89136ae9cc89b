package need_test

import (
	"math/rand"
	"slices"
	"strconv"
	"strings"
	"testing"

	"undertone/api"
	"undertone/base"
	"undertone/need"
	"undertone/token"
	"undertone/valid"
)

// announced returns the texts of the tokens in a role's lines, with a comma on each side of each.
func announced(text string, role int) string {
	arrow := []string{"-> ", "<- "}[role]
	var b strings.Builder
	for line := range strings.Lines(text) {
		if tokens, ok := strings.CutPrefix(line, arrow); ok {
			b.WriteString("," + strings.ReplaceAll(strings.TrimSuffix(tokens, "\n"), ", ", ",,") + ",")
		}
	}
	return b.String()
}

// wanted is what the chapter says a participant needs, looked up in the pattern's text.
func wanted(t *testing.T, p token.Pattern, role int) need.Keys {
	t.Helper()
	text, err := token.Print(p)
	if err != api.OK {
		t.Fatalf("Print(%v): error %d", p, err)
	}
	_, text, _ = strings.Cut(text, ":\n")
	before, msgs, ok := strings.Cut(text, "...\n")
	if !ok {
		before, msgs = "", text
	}
	own, other := announced(before, role), announced(before, 1-role)
	return need.Keys{
		S:    strings.Contains(own+announced(msgs, role), ",s,"),
		E:    strings.Contains(own, ",e,"),
		RS:   strings.Contains(other, ",s,"),
		RE:   strings.Contains(other, ",e,"),
		Psks: strings.Count(text, "psk"),
	}
}

// wantCounterpart asks for P8.2: what one has announced beforehand, the other one needs beforehand.
func wantCounterpart(t *testing.T, p token.Pattern) {
	t.Helper()
	for role := range 2 {
		own, _ := need.Of(p, role)
		other, _ := need.Of(p, 1-role)
		static, ephemeral := slices.Contains(p.Pre[role], s), slices.Contains(p.Pre[role], e)
		if other.RS != static || other.RE != ephemeral || own.E != ephemeral || static && !own.S || own.Psks != other.Psks {
			t.Errorf("%v: role %d needs %v, and the other one %v", p, role, own, other)
		}
	}
}

// wantUsed asks that what is needed is enough, and nothing less is.
func wantUsed(t *testing.T, k need.Keys) {
	t.Helper()
	wantEnough(t, k, k, true)
	for bits := range 16 {
		have := keysOf(bits, k.Psks)
		enough := (!k.S || have.S) && (!k.E || have.E) && (!k.RS || have.RS) && (!k.RE || have.RE)
		wantEnough(t, k, have, enough)
	}
}

// compare asks for what both need for a valid pattern, and reports whether it satisfies the rules.
func compare(t *testing.T, p token.Pattern) bool {
	t.Helper()
	if _, _, err := valid.Check(p); err != api.OK {
		wantError(t, p, api.Initiator, api.ErrRule)
		wantError(t, p, api.Responder, api.ErrRule)
		return false
	}
	for role := range 2 {
		k := wanted(t, p, role)
		wantKeys(t, p, role, k)
		wantUsed(t, k)
	}
	wantCounterpart(t, p)
	return true
}

var pres = [][]int{nil, {e}, {s}, {e, s}}

// P8.2: with each pre-message of both; who has no E yet announces it in a message.
func TestCounterpart(t *testing.T) {
	for _, initiator := range pres {
		for _, responder := range pres {
			for first := range 2 {
				p := token.Pattern{Name: "A", Pre: [2][]int{initiator, responder}}
				for _, from := range []int{first, 1 - first} {
					m := token.Msg{From: from, T: []int{psk}}
					if !slices.Contains(p.Pre[from], e) {
						m.T = []int{e, psk}
					}
					p.Msgs = append(p.Msgs, m)
				}
				if !compare(t, p) {
					t.Errorf("%v breaks a rule", p)
				}
			}
		}
	}
}

// P8.1, P8.2: all patterns of up to three tokens, with all pre-messages.
func TestAllSmallPatterns(t *testing.T) {
	right, broke := 0, 0
	p := token.Pattern{Name: "A"}
	var extend func(many int)
	extend = func(many int) {
		if compare(t, p) {
			right++
		} else {
			broke++
		}
		if many == 3 || t.Failed() {
			return
		}
		n := len(p.Msgs) - 1
		for next := e; next <= psk; next++ {
			p.Msgs[n].T = append(p.Msgs[n].T, next)
			extend(many + 1)
			p.Msgs[n].T = p.Msgs[n].T[:len(p.Msgs[n].T)-1]
			for from := range 2 {
				p.Msgs = append(p.Msgs, token.Msg{From: from, T: []int{next}})
				extend(many + 1)
				p.Msgs = p.Msgs[:n+1]
			}
		}
	}
	for _, p.Pre[0] = range pres {
		for _, p.Pre[1] = range pres {
			for from := range 2 {
				for first := e; first <= psk; first++ {
					p.Msgs = []token.Msg{{From: from, T: []int{first}}}
					extend(1)
				}
			}
		}
	}
	if right < 1000 || broke < 10000 {
		t.Errorf("%d patterns satisfy the rules, %d don't", right, broke)
	}
}

// random returns a valid pattern of up to six messages in turn, most of which
// keeps the rules in its messages: a token that breaks one is drawn again.
func random(r *rand.Rand) token.Pattern {
	p := token.Pattern{Name: "psk", Pre: [2][]int{pres[r.Intn(4)], pres[r.Intn(4)]}}
	first := r.Intn(2)
	for i := range 1 + r.Intn(6) {
		p.Msgs = append(p.Msgs, token.Msg{From: (first + i) % 2})
		m := &p.Msgs[i]
		for range 1 + r.Intn(6) {
			m.T = append(m.T, 1+r.Intn(7))
			for range 20 {
				if _, msg, err := valid.Check(p); err == api.OK || msg == len(p.Msgs) {
					break
				}
				m.T[len(m.T)-1] = 1 + r.Intn(7)
			}
		}
	}
	return p
}

// P8.1, P8.2: random patterns.
func TestRandomPatterns(t *testing.T) {
	r := rand.New(rand.NewSource(8))
	right := make(map[int]int)
	for range 10000 {
		p := random(r)
		if compare(t, p) {
			right[len(p.Msgs)]++
		}
	}
	for n := 1; n <= api.MaxMsgs; n++ {
		if right[n] < 100 {
			t.Errorf("only %d patterns of %d messages satisfy the rules", right[n], n)
		}
	}
}

// P8.1, P8.2: every base pattern with every list of modifiers that fits.
func TestBasePatternsWithModifiers(t *testing.T) {
	modifiers := []string{"fallback"}
	for n := range 10 {
		modifiers = append(modifiers, "psk"+strconv.Itoa(n))
	}
	many := 0
	var extend func(name, next string)
	extend = func(name, next string) {
		p, err := base.Named(name)
		if err != api.OK {
			return
		}
		many++
		if !compare(t, p) {
			t.Errorf("%s breaks a rule", name)
		}
		for _, m := range modifiers {
			extend(name+next+m, "+")
		}
	}
	for _, name := range base.Names() {
		extend(name, "")
	}
	if many < 500 {
		t.Errorf("only %d names", many)
	}
}
