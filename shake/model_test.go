package shake_test

import (
	"cmp"
	"math/rand"
	"slices"
	"strconv"
	"strings"
	"testing"

	"undertone/api"
	"undertone/base"
	"undertone/cipher"
	"undertone/need"
	"undertone/shake"
	"undertone/sym"
	"undertone/term"
	"undertone/token"
	"undertone/valid"
)

// model is what the chapter and those of layers 1, 10 and 11 say, on a list of nodes that has a limit.
type model struct {
	nodes []term.Node
	limit int
	e     api.Errno // the first error of a call, after which nothing more is made
}

// modelOf returns a model with the terms of an arena.
func modelOf(a *term.Arena, limit int) *model { return &model{nodes: nodes(a), limit: limit} }

func (m *model) has(l ...int) bool {
	for _, ref := range l {
		if ref < 0 || ref >= len(m.nodes) {
			return false
		}
	}
	return true
}

// fail sets the error, unless there is one.
func (m *model) fail(e api.Errno) int {
	if m.e == api.OK {
		m.e = e
	}
	return 0
}

// ended returns the result, or the error that was met on the way to it.
func (m *model) ended(r result) result {
	e := m.e
	if m.e = api.OK; e != api.OK {
		return failed(e)
	}
	return r
}

// mk makes a term, which must be one that is allowed.
func (m *model) mk(n term.Node) int {
	if m.e != api.OK || !m.has(n.A, n.B, n.C) {
		return m.fail(api.ErrArg)
	}
	if ref := slices.Index(m.nodes, n); ref >= 0 {
		return ref
	}
	if len(m.nodes) == m.limit {
		return m.fail(api.ErrFull)
	}
	m.nodes = append(m.nodes, n)
	return len(m.nodes) - 1
}

// order compares terms: of different ones, the first thing that differs decides.
func (m *model) order(x, y int) int {
	p, q := m.nodes[x], m.nodes[y]
	switch {
	case x == y:
		return 0
	case p.Kind != q.Kind:
		return cmp.Compare(p.Kind, q.Kind)
	case p.N != q.N:
		return cmp.Compare(p.N, q.N)
	case p.A != q.A:
		return m.order(p.A, q.A)
	case p.B != q.B:
		return m.order(p.B, q.B)
	}
	return m.order(p.C, q.C)
}

func (m *model) pub(x int) int { return m.mk(term.Node{Kind: 2, A: x}) }

func (m *model) share(x, y int) int {
	if m.nodes[y].Kind != 2 {
		return m.mk(term.Node{Kind: 4, A: x, B: y})
	}
	l := []int{x, m.nodes[y].A}
	slices.SortFunc(l, m.order)
	return m.mk(term.Node{Kind: 3, A: l[0], B: l[1]})
}

func (m *model) mixHash(y *sym.Sym, x int) { y.H = m.mk(term.Node{Kind: 5, A: y.H, B: x}) }

// mixKeys makes that many Keys: the first one is the chaining key, and the last one the cipher's.
func (m *model) mixKeys(y *sym.Sym, x, many int) (l []int) {
	for n := range many {
		l = append(l, m.mk(term.Node{Kind: 6, N: uint64(n + 1), A: y.Ck, B: x}))
	}
	y.Ck, y.C = l[0], cipher.Cipher{Key: l[many-1], Has: true}
	return l
}

func (m *model) seal(y *sym.Sym, p int) int {
	x := p
	if y.C.Has {
		x = m.mk(term.Node{Kind: 7, N: y.C.N, A: y.C.Key, B: y.H, C: p})
		y.C.N++
	}
	m.mixHash(y, x)
	return x
}

func (m *model) open(y *sym.Sym, x int) int {
	p := x
	if y.C.Has {
		n := m.nodes[x]
		if n.Kind != 7 || n.N != y.C.N || n.A != y.C.Key || n.B != y.H {
			return m.fail(api.ErrOpen)
		}
		p = n.C
		y.C.N++
	}
	m.mixHash(y, x)
	return p
}

// says reports whether a role announces a key, in its pre-message or, if asked for, in its messages.
func says(p token.Pattern, role, key int, messages bool) bool {
	l := slices.Clone(p.Pre[role])
	for _, m := range p.Msgs {
		if messages && m.From == role {
			l = append(l, m.T...)
		}
	}
	return slices.Contains(l, key)
}

// pskTokens counts the PSKs in the text of a pattern.
func pskTokens(p token.Pattern) int {
	text, _ := token.Print(p)
	_, text, _ = strings.Cut(text, "\n")
	return strings.Count(text, "psk")
}

// mixPublic mixes a public key in, as E and S tokens do.
func (m *model) mixPublic(h *shake.Shake, t, public int) {
	m.mixHash(&h.Y, public)
	if t == token.E && pskTokens(h.P) > 0 {
		m.mixKeys(&h.Y, public, 2)
	}
}

func (m *model) start(p token.Pattern, role, prologue int, k shake.Keys) result {
	if role != 0 && role != 1 || !token.Right(p) {
		return failed(api.ErrArg)
	}
	if rule, _, _ := valid.Check(p); rule != 0 {
		return failed(api.ErrRule)
	}
	if !m.has(append([]int{prologue, k.S, k.E, k.RS, k.RE}, k.Psks...)...) {
		return failed(api.ErrArg)
	}
	if len(k.Psks) != pskTokens(p) {
		return failed(api.ErrKey)
	}
	h := shake.Shake{Role: role, P: p, K: shake.Keys{Psks: k.Psks}}
	for _, c := range []struct {
		is          bool
		given, kept *int
	}{
		{says(p, role, token.S, true), &k.S, &h.K.S},
		{says(p, role, token.E, false), &k.E, &h.K.E},
		{says(p, 1-role, token.S, false), &k.RS, &h.K.RS},
		{says(p, 1-role, token.E, false), &k.RE, &h.K.RE},
	} {
		if c.is && *c.given == 0 {
			return failed(api.ErrKey)
		}
		if c.is {
			*c.kept = *c.given
		}
	}
	for _, b := range []byte(p.Name) {
		w := m.mk(term.Node{Kind: 9, N: uint64(b)})
		h.Y.Ck = m.mk(term.Node{Kind: 8, A: h.Y.Ck, B: w})
	}
	h.Y.H = h.Y.Ck
	m.mixHash(&h.Y, prologue)
	m.pre(&h, 0)
	m.pre(&h, 1)
	return m.ended(result{h: h})
}

// pre is the pre-message of a role.
func (m *model) pre(h *shake.Shake, role int) {
	own := map[int]int{token.E: h.K.E, token.S: h.K.S}
	other := map[int]int{token.E: h.K.RE, token.S: h.K.RS}
	for _, t := range h.P.Pre[role] {
		if role == h.Role {
			m.mixPublic(h, t, m.pub(own[t]))
		} else {
			m.mixPublic(h, t, other[t])
		}
	}
}

// mix is a DH token or a PSK. The letters of a DH token are the keys of the initiator and the responder.
func (m *model) mix(h *shake.Shake, t int) {
	if t == token.PSK {
		l := m.mixKeys(&h.Y, h.K.Psks[h.Next], 3)
		m.mixHash(&h.Y, l[1])
		h.Next++
		return
	}
	letters := token.Name(t)
	secret := map[byte]int{'e': h.K.E, 's': h.K.S}[letters[h.Role]]
	public := map[byte]int{'e': h.K.RE, 's': h.K.RS}[letters[1-h.Role]]
	if !m.has(secret, public) {
		m.fail(api.ErrArg)
		return
	}
	m.mixKeys(&h.Y, m.share(secret, public), 2)
}

// sender returns who is to send the next message, -1 if there is none.
func sender(h shake.Shake) int {
	if h.At == len(h.P.Msgs) {
		return -1
	}
	return h.P.Msgs[h.At].From
}

func (m *model) write(h shake.Shake, e, payload int) result {
	if sender(h) != h.Role {
		return failed(api.ErrTurn)
	}
	if !m.has(e, payload) {
		return failed(api.ErrArg)
	}
	var msg []int
	for _, t := range h.P.Msgs[h.At].T {
		switch {
		case t == token.E && e == 0:
			m.fail(api.ErrKey)
		case t == token.E:
			h.K.E = e
			msg = append(msg, m.pub(e))
			m.mixPublic(&h, t, msg[len(msg)-1])
		case t == token.S:
			msg = append(msg, m.seal(&h.Y, m.pub(h.K.S)))
		default:
			m.mix(&h, t)
		}
	}
	msg = append(msg, m.seal(&h.Y, payload))
	h.At++
	return m.ended(result{h: h, msg: msg})
}

func (m *model) read(h shake.Shake, msg []int) result {
	if sender(h) != 1-h.Role {
		return failed(api.ErrTurn)
	}
	if !m.has(msg...) {
		return failed(api.ErrArg)
	}
	tokens := h.P.Msgs[h.At].T
	many := 1
	for _, t := range tokens {
		if len(token.Name(t)) == 1 {
			many++
		}
	}
	if len(msg) != many {
		return failed(api.ErrOpen)
	}
	for _, t := range tokens {
		switch t {
		case token.E:
			h.K.RE, msg = msg[0], msg[1:]
			m.mixPublic(&h, t, h.K.RE)
		case token.S:
			h.K.RS = m.open(&h.Y, msg[0])
			msg = msg[1:]
		default:
			m.mix(&h, t)
		}
	}
	p := m.open(&h.Y, msg[0])
	h.At++
	return m.ended(result{h: h, ref: p})
}

func (m *model) ciphers(h shake.Shake) result {
	if sender(h) != -1 {
		return failed(api.ErrTurn)
	}
	var l [2]cipher.Cipher
	for n := range l {
		l[n] = cipher.Cipher{Key: m.mk(term.Node{Kind: 6, N: uint64(n + 1), A: h.Y.Ck}), Has: true}
	}
	return m.ended(result{send: l[h.Role], recv: l[1-h.Role]})
}

// names returns all names of patterns, with every list of modifiers that fits.
func names() []string {
	modifiers := []string{"fallback"}
	for n := range 10 {
		modifiers = append(modifiers, "psk"+strconv.Itoa(n))
	}
	var l []string
	var extend func(name, next string)
	extend = func(name, next string) {
		if _, e := base.Named(name); e != api.OK {
			return
		}
		l = append(l, name)
		for _, m := range modifiers {
			extend(name+next+m, "+")
		}
	}
	for _, name := range base.Names() {
		extend(name, "")
	}
	return l
}

// turned returns the pattern with both roles exchanged.
func turned(p token.Pattern) token.Pattern {
	p = copyPattern(p)
	p.Pre[0], p.Pre[1] = p.Pre[1], p.Pre[0]
	for i, m := range p.Msgs {
		p.Msgs[i].From = 1 - m.From
		for j, t := range m.T {
			switch t {
			case token.ES:
				m.T[j] = token.SE
			case token.SE:
				m.T[j] = token.ES
			}
		}
	}
	return p
}

// patterns returns all that have names, those of the rows, and each with both roles exchanged.
func patterns(t *testing.T) []token.Pattern {
	t.Helper()
	var l []token.Pattern
	for _, name := range names() {
		l = append(l, named(t, name))
	}
	for _, c := range rows {
		l = append(l, lines(t, c.text))
	}
	for _, p := range l {
		l = append(l, turned(p))
	}
	for _, p := range l {
		if _, _, e := valid.Check(p); e != api.OK {
			t.Fatalf("%v breaks a rule", p)
		}
	}
	if len(l) < 1000 {
		t.Fatalf("only %d patterns", len(l))
	}
	return l
}

// anyPattern returns a pattern of up to six messages in turn; a token that breaks a rule is drawn again, so that most
// of them satisfy the rules.
func anyPattern(r *rand.Rand) token.Pattern {
	pres := [][]int{nil, {token.E}, {token.S}, {token.E, token.S}}
	p := token.Pattern{Name: "any", Pre: [2][]int{pres[r.Intn(4)], pres[r.Intn(4)]}}
	first := r.Intn(2)
	for i := range 1 + r.Intn(6) {
		p.Msgs = append(p.Msgs, token.Msg{From: (first + i) % 2})
		m := &p.Msgs[i]
		for range 1 + r.Intn(6) {
			m.T = append(m.T, 1+r.Intn(7))
			for range 20 {
				if _, msg, e := valid.Check(p); e == api.OK || msg == len(p.Msgs) {
					break
				}
				m.T[len(m.T)-1] = 1 + r.Intn(7)
			}
		}
	}
	return p
}

// anyRef returns a number that mostly is a ref.
func anyRef(r *rand.Rand, a *term.Arena) int {
	switch r.Intn(60) {
	case 0:
		l := noRefs(a)
		return l[r.Intn(len(l))]
	case 1:
		return 0
	}
	return r.Intn(a.Len())
}

// anyKeys returns those of one of both, perhaps with some replaced, or with another number of psks.
func anyKeys(r *rand.Rand, a *term.Arena, k shake.Keys) shake.Keys {
	k.Psks = slices.Clone(k.Psks)
	switch r.Intn(8) {
	case 0:
		k = with(k, r.Intn(4+len(k.Psks)), anyRef(r, a))
	case 1:
		k = with(k, r.Intn(4), 0)
	case 2:
		k.Psks = append(k.Psks, anyRef(r, a))
	case 3:
		k.Psks = k.Psks[:len(k.Psks)/2]
	}
	return k
}

// anyMsg returns one of the messages that were sent, perhaps changed.
func anyMsg(r *rand.Rand, a *term.Arena, sent [][]int) []int {
	if len(sent) == 0 {
		return []int{anyRef(r, a), anyRef(r, a)}
	}
	msg := slices.Clone(sent[len(sent)-1])
	switch r.Intn(12) {
	case 0:
		msg = slices.Clone(sent[r.Intn(len(sent))])
	case 1:
		msg[r.Intn(len(msg))] = anyRef(r, a)
	case 2:
		msg = append(msg, anyRef(r, a))
	case 3:
		msg = msg[:r.Intn(len(msg))]
	case 4:
		i, j := r.Intn(len(msg)), r.Intn(len(msg))
		msg[i], msg[j] = msg[j], msg[i]
	}
	return msg
}

// run is a random run of the states of one arena.
type run struct {
	t     *testing.T
	r     *rand.Rand
	a     *term.Arena
	m     *model
	count map[string]map[api.Errno]int
}

// compare asks for the model's result, and for its terms.
func (x *run) compare(c call, want result) result {
	x.t.Helper()
	got := c.do(x.t, x.a)
	if !sameResult(got, want) || !slices.Equal(nodes(x.a), x.m.nodes) {
		x.t.Fatalf("%s:\n%v, not\n%v, or other terms:\n%v, not\n%v", c.name, got, want, nodes(x.a), x.m.nodes)
	}
	if x.count[c.name] == nil {
		x.count[c.name] = map[api.Errno]int{}
	}
	x.count[c.name][want.e]++
	return got
}

// start starts a side, with its role as mostly is right.
func (x *run) start(p token.Pattern, role, prologue int, k shake.Keys) (shake.Shake, bool) {
	x.t.Helper()
	if x.r.Intn(20) == 0 {
		role = x.r.Intn(5) - 2
	}
	r := x.compare(start(p, role, prologue, k), x.m.start(p, role, prologue, k))
	return r.h, r.e == api.OK
}

// steps processes messages: each side has the states that it has had.
func (x *run) steps(had [2][]shake.Shake) {
	x.t.Helper()
	var sent [][]int
	for range 40 {
		side := x.r.Intn(2)
		h := had[side][len(had[side])-1]
		if x.r.Intn(10) == 0 {
			h = had[side][x.r.Intn(len(had[side]))]
		}
		var r result
		switch x.r.Intn(8) {
		case 0:
			x.compare(ciphers(h), x.m.ciphers(h))
			continue
		case 1, 2, 3, 4:
			e, p := anyRef(x.r, x.a), anyRef(x.r, x.a)
			r = x.compare(write(h, e, p), x.m.write(h, e, p))
			if r.e == api.OK {
				sent = append(sent, r.msg)
			}
		default:
			msg := anyMsg(x.r, x.a, sent)
			r = x.compare(read(h, msg), x.m.read(h, msg))
		}
		if r.e == api.OK {
			had[side] = append(had[side], r.h)
		}
	}
}

// P12.1 to P12.4: long random runs are as the chapter says, and so are the terms that they make.
func TestModel(t *testing.T) {
	r := rand.New(rand.NewSource(12))
	count := map[string]map[api.Errno]int{}
	known := patterns(t)
	for range 6000 {
		a := term.New(size + 2 + r.Intn(200))
		for _, n := range nodes(scene(t, 0)) {
			make1(t, a, n)
		}
		p := known[r.Intn(len(known))]
		if r.Intn(3) == 0 {
			p = anyPattern(r)
		}
		keys := sides(t, a, psks1(pskTokens(p)))
		x := &run{t: t, r: r, a: a, m: modelOf(a, limitOf(a)), count: count}
		var had [2][]shake.Shake
		begun := true
		for role := range 2 {
			at := prologue
			if r.Intn(10) == 0 {
				at = anyRef(r, a)
			}
			h, is := x.start(p, role, at, anyKeys(r, a, keys[role]))
			had[role], begun = []shake.Shake{h}, begun && is
		}
		if begun {
			x.steps(had)
		}
	}
	wantCounts(t, count, "Start", api.OK, api.ErrArg, api.ErrRule, api.ErrKey, api.ErrFull)
	wantCounts(t, count, "Write", api.OK, api.ErrTurn, api.ErrArg, api.ErrKey, api.ErrFull)
	wantCounts(t, count, "Read", api.OK, api.ErrTurn, api.ErrArg, api.ErrOpen, api.ErrFull)
	wantCounts(t, count, "Ciphers", api.OK, api.ErrTurn, api.ErrFull)
}

// limitOf returns how many terms an arena can hold.
func limitOf(a *term.Arena) int {
	b := a.Copy()
	for n := uint64(1000); ; n++ {
		if _, e := b.Mk(term.Node{Kind: term.Name, N: n}); e != api.OK {
			return b.Len()
		}
	}
}

// wantCounts asks that a random test has met each of these often, and nothing else.
func wantCounts(t *testing.T, count map[string]map[api.Errno]int, name string, l ...api.Errno) {
	t.Helper()
	for _, e := range l {
		if count[name][e] < 50 {
			t.Errorf("%s: error %d only %d times", name, e, count[name][e])
		}
	}
	if len(count[name]) != len(l) {
		t.Errorf("%s: %v", name, count[name])
	}
}

// The model's count of what is needed is that of layer 8.
func TestModelNeed(t *testing.T) {
	for _, p := range patterns(t) {
		for role := range 2 {
			n, e := need.Of(p, role)
			own := need.Keys{S: says(p, role, token.S, true), E: says(p, role, token.E, false), RS: says(p, 1-role, token.S, false), RE: says(p, 1-role, token.E, false), Psks: pskTokens(p)}
			if e != api.OK || n != own {
				t.Errorf("%v, role %d: %v, not %v", p, role, n, own)
			}
		}
	}
}
