package sym_test

import (
	"math/rand"
	"slices"
	"testing"

	"undertone/api"
	"undertone/cipher"
	"undertone/sym"
	"undertone/term"
)

// model is what the chapter says, on a list of nodes that has a limit.
type model struct {
	nodes []term.Node
	limit int
	e     api.Errno // the first error of a call, after which nothing more is made
}

func (m *model) has(ref int) bool { return ref >= 0 && ref < len(m.nodes) }

// fail sets the error, unless there is one.
func (m *model) fail(e api.Errno) int {
	if m.e == api.OK {
		m.e = e
	}
	return 0
}

// mk is for nodes of the kinds that have at least two parts, or none.
func (m *model) mk(n term.Node) int {
	if m.e != api.OK || !m.has(n.A) || !m.has(n.B) || !m.has(n.C) {
		return m.fail(api.ErrArg)
	}
	if ref := slices.Index(m.nodes, n); ref >= 0 {
		return ref
	}
	if len(m.nodes) == m.limit {
		return m.fail(api.ErrFull)
	}
	m.nodes = append(m.nodes, n)
	return len(m.nodes) - 1
}

// ended returns the result, or the error that was met on the way to it.
func (m *model) ended(r result) result {
	e := m.e
	if m.e = api.OK; e != api.OK {
		return failed(e)
	}
	return r
}

func (m *model) begin(name string, prologue int) result {
	if len(name) > 100 || !m.has(prologue) {
		return failed(api.ErrArg)
	}
	ck := 0
	for _, b := range []byte(name) {
		w := m.mk(term.Node{Kind: 9, N: uint64(b)})
		ck = m.mk(term.Node{Kind: 8, A: ck, B: w})
	}
	h := m.mk(term.Node{Kind: 5, A: ck, B: prologue})
	return m.ended(result{s: sym.Sym{Ck: ck, H: h}})
}

func (m *model) mixHash(s sym.Sym, x int) result {
	s.H = m.mk(term.Node{Kind: 5, A: s.H, B: x})
	return m.ended(result{s: s})
}

func (m *model) mixKey(s sym.Sym, x int) result {
	one := m.mk(term.Node{Kind: 6, N: 1, A: s.Ck, B: x})
	two := m.mk(term.Node{Kind: 6, N: 2, A: s.Ck, B: x})
	return m.ended(result{s: sym.Sym{Ck: one, H: s.H, C: cipher.Cipher{Key: two, Has: true}}})
}

func (m *model) mixBoth(s sym.Sym, x int) result {
	one := m.mk(term.Node{Kind: 6, N: 1, A: s.Ck, B: x})
	two := m.mk(term.Node{Kind: 6, N: 2, A: s.Ck, B: x})
	three := m.mk(term.Node{Kind: 6, N: 3, A: s.Ck, B: x})
	h := m.mk(term.Node{Kind: 5, A: s.H, B: two})
	return m.ended(result{s: sym.Sym{Ck: one, H: h, C: cipher.Cipher{Key: three, Has: true}}})
}

// barred is why the cipher can neither seal nor open x.
func (m *model) barred(s sym.Sym, x int) api.Errno {
	if !m.has(s.H) || !m.has(x) || s.C.Has && !m.has(s.C.Key) {
		return api.ErrArg
	}
	if s.C.Has && s.C.N == 1<<64-1 {
		return api.ErrNonce
	}
	return api.OK
}

func (m *model) seal(s sym.Sym, p int) result {
	if e := m.barred(s, p); e != api.OK {
		return failed(e)
	}
	x := p
	if s.C.Has {
		x = m.mk(term.Node{Kind: 7, N: s.C.N, A: s.C.Key, B: s.H, C: p})
		s.C.N++
	}
	s.H = m.mk(term.Node{Kind: 5, A: s.H, B: x})
	return m.ended(result{s: s, ref: x})
}

func (m *model) open(s sym.Sym, x int) result {
	if e := m.barred(s, x); e != api.OK {
		return failed(e)
	}
	p := x
	if s.C.Has {
		n := m.nodes[x]
		if n.Kind != 7 || n.N != s.C.N || n.A != s.C.Key || n.B != s.H {
			return failed(api.ErrOpen)
		}
		p = n.C
		s.C.N++
	}
	s.H = m.mk(term.Node{Kind: 5, A: s.H, B: x})
	return m.ended(result{s: s, ref: p})
}

func (m *model) split(s sym.Sym, _ int) result {
	one := m.mk(term.Node{Kind: 6, N: 1, A: s.Ck})
	two := m.mk(term.Node{Kind: 6, N: 2, A: s.Ck})
	return m.ended(result{one: cipher.Cipher{Key: one, Has: true}, two: cipher.Cipher{Key: two, Has: true}})
}

// anyRef returns a number that mostly is a ref; refs of the newest terms are as likely as all the others.
func anyRef(r *rand.Rand, a *term.Arena) int {
	if r.Intn(40) == 0 {
		return noRef(r, a)
	}
	if r.Intn(2) == 0 {
		return max(a.Len()-1-r.Intn(4), 0)
	}
	return r.Intn(a.Len())
}

func noRef(r *rand.Rand, a *term.Arena) int {
	l := noRefs(a)
	return l[r.Intn(len(l))]
}

// anyState returns one of those that were returned before, perhaps with one field changed.
func anyState(r *rand.Rand, a *term.Arena, made []sym.Sym) sym.Sym {
	s := made[r.Intn(len(made))]
	switch r.Intn(30) {
	case 0:
		s.Ck = anyRef(r, a)
	case 1:
		s.H = anyRef(r, a)
	case 2:
		s.C.Key = anyRef(r, a)
	case 3:
		s.Ck = noRef(r, a)
	case 4:
		s.H = noRef(r, a)
	case 5:
		s.C.Key = noRef(r, a)
	case 6:
		s.C.Has = !s.C.Has
	case 7:
		s.C.N = uint64(r.Intn(4))
	case 8, 9:
		s.C.N = last - uint64(r.Intn(3))
	}
	return s
}

// anyName returns a name of few bytes, or of some 100.
func anyName(r *rand.Rand) string {
	b := make([]byte, r.Intn(8))
	if r.Intn(8) == 0 {
		b = make([]byte, 97+r.Intn(8))
	}
	for i := range b {
		b[i] = []byte{'a', 'b', 0, 255}[r.Intn(4)]
	}
	return string(b)
}

// anyCall returns one of the calls, and the model's answer.
func anyCall(r *rand.Rand, m *model, s sym.Sym, x int) (call, result) {
	switch r.Intn(7) {
	case 0:
		return mixHash, m.mixHash(s, x)
	case 1:
		return mixKey, m.mixKey(s, x)
	case 2:
		return mixBoth, m.mixBoth(s, x)
	case 3:
		return seal, m.seal(s, x)
	case 4:
		return split, m.split(s, x)
	case 5:
		name := anyName(r)
		f := begin(name)
		f.name = "Begin"
		return f, m.begin(name, x)
	}
	return open, m.open(s, x)
}

// P11.1 to P11.3: long random runs are as the chapter says, and so are the terms that they make.
func TestModel(t *testing.T) {
	r := rand.New(rand.NewSource(1))
	count := map[string]map[api.Errno]int{}
	for range 1000 {
		limit := 6 + r.Intn(250)
		a := scene(t, limit-6)
		m := &model{nodes: nodes(a), limit: limit}
		made := []sym.Sym{{}, {Ck: 1, H: 2}, {Ck: 1, H: 2, C: at(3, 0)}}
		for range 100 {
			s, x := anyState(r, a, made), anyRef(r, a)
			if n, is := a.Get(x); is && n.Kind == term.Seal && r.Intn(2) == 0 {
				s.C, s.H = at(n.A, n.N), n.B // So that what was sealed is often opened.
			}
			f, want := anyCall(r, m, s, x)
			if got := f.do(a, s, x); got != want || !slices.Equal(nodes(a), m.nodes) {
				t.Fatalf("%s of %v and %d: %v, not %v, or other terms: %v, not %v", f.name, s, x, got, want, nodes(a), m.nodes)
			}
			if count[f.name] == nil {
				count[f.name] = map[api.Errno]int{}
			}
			count[f.name][want.e]++
			if want.e == api.OK && f.name != split.name {
				made = append(made, want.s)
			}
		}
	}
	for _, name := range []string{"Begin", "MixHash", "MixKey", "MixBoth", "Split"} {
		wantCounts(t, count, name, api.OK, api.ErrArg, api.ErrFull)
	}
	wantCounts(t, count, "Seal", api.OK, api.ErrArg, api.ErrNonce, api.ErrFull)
	wantCounts(t, count, "Open", api.OK, api.ErrArg, api.ErrNonce, api.ErrOpen, api.ErrFull)
}

// wantCounts asks that a random test has met each of these often, and nothing else.
func wantCounts(t *testing.T, count map[string]map[api.Errno]int, name string, l ...api.Errno) {
	t.Helper()
	for _, e := range l {
		if count[name][e] < 50 {
			t.Errorf("%s: error %d only %d times", name, e, count[name][e])
		}
	}
	if len(count[name]) != len(l) {
		t.Errorf("%s: %v", name, count[name])
	}
}

// mixAny mixes the same into each of some states, by one of the Mixes.
func mixAny(r *rand.Rand, a *term.Arena, l ...*sym.Sym) {
	f, x := []call{mixHash, mixKey, mixBoth}[r.Intn(3)], r.Intn(a.Len())
	for _, s := range l {
		*s = f.do(a, *s, x).s
	}
}

// pass lets from seal p, and to open the result.
func pass(a *term.Arena, from, to sym.Sym, p int) (one, two result) {
	one = seal.do(a, from, p)
	return one, open.do(a, to, one.ref)
}

// P11.4: equal states stay equal, whichever of them seals, from the beginning to the ciphers of Split.
func TestStayEqual(t *testing.T) {
	r := rand.New(rand.NewSource(2))
	for range 200 {
		a := scene(t, 1000)
		prologue := r.Intn(6)
		one, _ := sym.Begin(a, "equal", prologue)
		two, _ := sym.Begin(a, "equal", prologue)
		for range 40 {
			if r.Intn(3) == 0 {
				mixAny(r, a, &one, &two)
			}
			p := r.Intn(a.Len())
			from, to := &one, &two
			if r.Intn(2) == 0 {
				from, to = to, from
			}
			x, y := pass(a, *from, *to, p)
			if x.e != api.OK || y.e != api.OK || x.s != y.s || y.ref != p || x.s.H == from.H {
				t.Fatalf("Seal of %d by %v: %v; Open by %v: %v", p, *from, x, *to, y)
			}
			*from, *to = x.s, y.s
		}
		if x, y := split.do(a, one, 0), split.do(a, two, 0); x != y || x.e != api.OK || x.one == x.two {
			t.Fatalf("Split of %v: %v and %v", one, x, y)
		}
	}
}

// P11.4: equal states stay equal at any state that there may be, not only at those that Begin and the Mixes return.
func TestStayEqualFromAny(t *testing.T) {
	for _, c := range ciphers() {
		if c.Has && c.N == last {
			continue
		}
		for bits := range 6 * 6 * 6 {
			a := scene(t, 2)
			s := sym.Sym{Ck: bits % 6, H: bits / 6 % 6, C: c}
			if x, y := pass(a, s, s, bits/36); x.e != api.OK || y.e != api.OK || x.s != y.s || y.ref != bits/36 {
				t.Errorf("Seal of %d by %v: %v; Open: %v", bits/36, s, x, y)
			}
		}
	}
}

// P11.4: states that differ in H do not become equal: with a key nothing is opened, and without one they go on to differ.
func TestOtherHash(t *testing.T) {
	for _, c := range []cipher.Cipher{{}, at(3, 0), at(3, 9)} {
		for h := range 6 {
			for other := range 6 {
				a := scene(t, 10)
				x, y := pass(a, sym.Sym{Ck: 1, H: h, C: c}, sym.Sym{Ck: 1, H: other, C: c}, 4)
				switch {
				case other == h:
					if x.s != y.s || y.e != api.OK {
						t.Errorf("the same hash: %v and %v", x, y)
					}
				case c.Has && y != failed(api.ErrOpen):
					t.Errorf("hashes %d and %d: opened: %v", h, other, y)
				case !c.Has && (y.e != api.OK || y.ref != 4 || x.s.H == y.s.H):
					t.Errorf("hashes %d and %d without a key: %v and %v", h, other, x, y)
				}
			}
		}
	}
}

// P11.4: states that differ in Ck differ after each Mix, Seal and Open; from the next MixKey on nothing is opened.
func TestOtherChain(t *testing.T) {
	for _, c := range []cipher.Cipher{{}, at(3, 0)} {
		for _, f := range []call{mixKey, mixBoth} {
			a := scene(t, 100)
			x, y := pass(a, sym.Sym{Ck: 1, H: 2, C: c}, sym.Sym{Ck: 5, H: 2, C: c}, 4)
			if y.e != api.OK || x.s.Ck == y.s.Ck || x.s.H != y.s.H || x.s.C != y.s.C {
				t.Errorf("before %s: %v and %v", f.name, x, y)
			}
			one, two := f.do(a, x.s, 3).s, f.do(a, y.s, 3).s
			if one.Ck == two.Ck || one.C == two.C {
				t.Errorf("%s: %v and %v", f.name, one, two)
			}
			if _, y := pass(a, one, two, 4); y != failed(api.ErrOpen) {
				t.Errorf("after %s: opened: %v", f.name, y)
			}
			// The ciphers of Split differ, too.
			m, n := split.do(a, one, 0), split.do(a, two, 0)
			if m.one == n.one || m.one == n.two || m.two == n.one || m.two == n.two {
				t.Errorf("Split after %s: %v and %v", f.name, m, n)
			}
		}
	}
}

// P11.4: states into which something else was mixed do not open what the other one seals.
func TestOtherMixed(t *testing.T) {
	a := scene(t, 1000)
	begun, _ := sym.Begin(a, "mixed", 1)
	keyed, _ := begun.MixKey(a, 2)
	var l []sym.Sym
	for _, s := range []sym.Sym{begun, keyed} {
		for _, f := range []call{mixHash, mixKey, mixBoth} {
			for x := range 6 {
				if r := f.do(a, s, x); r.e == api.OK && r.s.C.Has {
					l = append(l, r.s)
				}
			}
		}
	}
	for _, one := range l {
		for _, two := range l {
			x, y := pass(a, one, two, 3)
			if one == two && (y.e != api.OK || x.s != y.s) || one != two && y != failed(api.ErrOpen) {
				t.Errorf("Seal by %v: %v; Open by %v: %v", one, x, two, y)
			}
		}
	}
}

// P11.4: what was passed once is not opened again, nor by the one that sealed it.
func TestPassedOnce(t *testing.T) {
	a := scene(t, 100)
	s, _ := sym.Begin(a, "once", 1)
	s, _ = s.MixBoth(a, 2)
	x, y := pass(a, s, s, 3)
	want(t, open, a, y.s, x.ref, failed(api.ErrOpen))
	want(t, open, a, x.s, x.ref, failed(api.ErrOpen))
}
