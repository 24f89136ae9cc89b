package level_test

import (
	"math/rand"
	"strconv"
	"strings"
	"testing"

	"undertone/api"
	"undertone/base"
	"undertone/level"
	"undertone/token"
	"undertone/valid"
)

// model says of a pattern what was said and done up to the end of each message; it keeps no track.
type model struct {
	roles []int    // by message: its sender
	texts []string // by message: the tokens of it and of all before it, with a comma on each side of each
}

// modelOf looks a pattern's messages up in its text, and adds messages without tokens.
func modelOf(t *testing.T, p token.Pattern, many int) model {
	t.Helper()
	text, err := token.Print(p)
	if err != api.OK {
		t.Fatalf("Print(%v): error %d", p, err)
	}
	_, text, _ = strings.Cut(text, ":\n")
	if _, msgs, ok := strings.Cut(text, "...\n"); ok {
		text = msgs
	}
	var m model
	all := ","
	for line := range strings.Lines(text) {
		all += strings.ReplaceAll(strings.TrimSpace(line[3:]), " ", "") + ","
		m.roles = append(m.roles, strings.Index("-<", line[:1]))
		m.texts = append(m.texts, all)
	}
	alone := len(m.roles) == 1
	for len(m.roles) < many {
		last := m.roles[len(m.roles)-1]
		if !alone {
			last = 1 - last
		}
		m.roles = append(m.roles, last)
		m.texts = append(m.texts, all)
	}
	return m
}

// done reports whether a token was processed up to the end of a message.
func (m model) done(msg int, text string) bool { return strings.Contains(m.texts[msg], ","+text+",") }

// auth is the Auth of a message.
func (m model) auth(msg int) int {
	proof := []string{"se", "es"}[m.roles[msg]]
	if m.done(msg, proof) {
		return 2
	}
	if m.done(msg, "ss") {
		return 1
	}
	return 0
}

// conf is the Conf of a message.
func (m model) conf(msg int) int {
	static := []string{"es", "se"}[m.roles[msg]]
	keyed := false
	for _, text := range []string{"ee", "es", "se", "ss", "psk"} {
		keyed = keyed || m.done(msg, text)
	}
	if !keyed || !m.done(msg, "ee") && !m.done(msg, static) {
		return 0
	}
	if !m.done(msg, "ee") {
		return 2
	}
	if !m.done(msg, static) {
		return 1
	}
	for before := msg - 1; before >= 0; before-- {
		if m.roles[before] != m.roles[msg] {
			return 3 + m.auth(before)
		}
	}
	return 3
}

// compare asks for what both say of a valid pattern, and reports whether it satisfies the rules.
func compare(t *testing.T, p token.Pattern, many int) bool {
	t.Helper()
	if _, _, err := valid.Check(p); err != api.OK {
		wantError(t, p, many, api.ErrRule)
		wantError(t, p, 101, api.ErrArg)
		return false
	}
	m := modelOf(t, p, many)
	got, err := level.Table(p, many)
	if len(got) != many || err != api.OK {
		t.Errorf("Table(%v, %d): %d levels, error %d", p, many, len(got), err)
		return true
	}
	for i, l := range got {
		if want := (level.Level{Auth: m.auth(i), Conf: m.conf(i)}); l != want {
			t.Errorf("Table(%v, %d): %v at %d; want %v", p, many, l, i, want)
		}
		// A message at whose end there is no key is not confidential.
		if i < len(p.Msgs) && l.Conf > 0 && !valid.Keyed(p, i) {
			t.Errorf("%v: message %d has level %v and no key", p, i, l)
		}
	}
	return true
}

// P9.1: Of for all that can be met, with each Last, for both.
func TestOfEverything(t *testing.T) {
	for bits := range 256 {
		text := ","
		for next := e; next <= psk; next++ {
			if bits>>next&1 != 0 {
				text += token.Name(next) + ","
			}
		}
		for from := range 2 {
			for auth, before := range []string{",", ",ss,", "," + []string{"es", "se"}[from] + ","} {
				m := model{roles: []int{1 - from, from}, texts: []string{before, text}}
				x := metBits(bits)
				x.Last[1-from] = auth
				wantOf(t, x, from, m.auth(1), m.conf(1))
				x.Last[from] = 2 - auth
				wantOf(t, x, from, m.auth(1), m.conf(1))
				sent := x
				sent.Last[from] = m.auth(1)
				wantSent(t, x, from, sent.Last[0], sent.Last[1])
			}
		}
	}
}

var pres = [][]int{nil, {e}, {s}, {e, s}}

// P9.2: all patterns of up to three tokens, with all pre-messages.
func TestAllSmallPatterns(t *testing.T) {
	right, broke := 0, 0
	p := token.Pattern{Name: "A"}
	var extend func(many int)
	extend = func(many int) {
		if compare(t, p, 7) {
			right++
		} else {
			broke++
		}
		if many == 3 || t.Failed() {
			return
		}
		n := len(p.Msgs) - 1
		for next := e; next <= psk; next++ {
			p.Msgs[n].T = append(p.Msgs[n].T, next)
			extend(many + 1)
			p.Msgs[n].T = p.Msgs[n].T[:len(p.Msgs[n].T)-1]
			for from := range 2 {
				p.Msgs = append(p.Msgs, token.Msg{From: from, T: []int{next}})
				extend(many + 1)
				p.Msgs = p.Msgs[:n+1]
			}
		}
	}
	for _, p.Pre[0] = range pres {
		for _, p.Pre[1] = range pres {
			for from := range 2 {
				for first := e; first <= psk; first++ {
					p.Msgs = []token.Msg{{From: from, T: []int{first}}}
					extend(1)
				}
			}
		}
	}
	if right < 1000 || broke < 10000 {
		t.Errorf("%d patterns satisfy the rules, %d don't", right, broke)
	}
}

// random returns a valid pattern of up to six messages in turn, most of which
// keeps the rules in its messages: a token that breaks one is drawn again.
func random(r *rand.Rand) token.Pattern {
	p := token.Pattern{Name: "ee", Pre: [2][]int{pres[r.Intn(4)], pres[r.Intn(4)]}}
	first := r.Intn(2)
	for i := range 1 + r.Intn(6) {
		p.Msgs = append(p.Msgs, token.Msg{From: (first + i) % 2})
		m := &p.Msgs[i]
		for range 1 + r.Intn(6) {
			m.T = append(m.T, 1+r.Intn(7))
			for range 20 {
				if _, msg, err := valid.Check(p); err == api.OK || msg == len(p.Msgs) {
					break
				}
				m.T[len(m.T)-1] = 1 + r.Intn(7)
			}
		}
	}
	return p
}

// P9.2: random patterns, with levels of each kind among those of the messages in and after them.
func TestRandomPatterns(t *testing.T) {
	r := rand.New(rand.NewSource(9))
	right := make(map[int]int)
	seen := make(map[level.Level]int)
	for range 10000 {
		p := random(r)
		many := r.Intn(12)
		if !compare(t, p, many) {
			continue
		}
		right[len(p.Msgs)]++
		levels, _ := level.Table(p, many)
		for _, l := range levels {
			seen[l]++
		}
	}
	for n := 1; n <= api.MaxMsgs; n++ {
		if right[n] < 100 {
			t.Errorf("only %d patterns of %d messages satisfy the rules", right[n], n)
		}
	}
	for _, l := range levelsOf("0 0, 0 1, 0 2, 0 3, 0 5, 1 2, 1 3, 2 1, 2 3, 2 4, 2 5") {
		if seen[l] < 10 {
			t.Errorf("only %d messages have level %v", seen[l], l)
		}
	}
}

// P9.2, P9.3: every base pattern with every list of modifiers that fits.
func TestBasePatternsWithModifiers(t *testing.T) {
	modifiers := []string{"fallback"}
	for n := range 10 {
		modifiers = append(modifiers, "psk"+strconv.Itoa(n))
	}
	many := 0
	var extend func(name, next string)
	extend = func(name, next string) {
		p, err := base.Named(name)
		if err != api.OK {
			return
		}
		many++
		if !compare(t, p, 9) {
			t.Errorf("%s breaks a rule", name)
		}
		for _, m := range modifiers {
			extend(name+next+m, "+")
		}
	}
	for _, name := range base.Names() {
		extend(name, "")
	}
	if many < 500 {
		t.Errorf("only %d names", many)
	}
}
