package cipher_test

import (
	"math/rand"
	"slices"
	"testing"

	"undertone/api"
	"undertone/cipher"
	"undertone/term"
)

// model is what the chapter says, on a list of nodes that has a limit.
type model struct {
	nodes []term.Node
	limit int
}

func (m *model) has(refs ...int) bool {
	for _, ref := range refs {
		if ref < 0 || ref >= len(m.nodes) {
			return false
		}
	}
	return true
}

// mk is for nodes that are valid.
func (m *model) mk(n term.Node) (int, api.Errno) {
	if ref := slices.Index(m.nodes, n); ref >= 0 {
		return ref, api.OK
	}
	if len(m.nodes) == m.limit {
		return 0, api.ErrFull
	}
	m.nodes = append(m.nodes, n)
	return len(m.nodes) - 1, api.OK
}

// either is what Seal and Open have in common: it reports whether that is all.
func (m *model) either(c cipher.Cipher, ad, x int) (result, bool) {
	if !m.has(ad) || !m.has(x) || c.Has && !m.has(c.Key) {
		return failed(api.ErrArg), true
	}
	if !c.Has {
		return result{c, x, api.OK}, true
	}
	if c.N == 1<<64-1 {
		return failed(api.ErrNonce), true
	}
	return result{}, false
}

func (m *model) seal(c cipher.Cipher, ad, p int) result {
	if r, all := m.either(c, ad, p); all {
		return r
	}
	ref, e := m.mk(term.Node{Kind: 7, N: c.N, A: c.Key, B: ad, C: p})
	if e != api.OK {
		return failed(e)
	}
	return result{cipher.Cipher{Key: c.Key, Has: true, N: c.N + 1}, ref, api.OK}
}

func (m *model) open(c cipher.Cipher, ad, x int) result {
	if r, all := m.either(c, ad, x); all {
		return r
	}
	n := m.nodes[x]
	if n.Kind != 7 || n.A != c.Key || n.N != c.N || n.B != ad {
		return failed(api.ErrOpen)
	}
	return result{cipher.Cipher{Key: c.Key, Has: true, N: c.N + 1}, n.C, api.OK}
}

func (m *model) rekey(c cipher.Cipher) result {
	if !c.Has {
		return failed(api.ErrKey)
	}
	if !m.has(c.Key) {
		return failed(api.ErrArg)
	}
	ref, e := m.mk(term.Node{Kind: 6, N: 4, A: c.Key})
	if e != api.OK {
		return failed(e)
	}
	return result{cipher.Cipher{Key: ref, Has: true, N: c.N}, 0, api.OK}
}

// anyRef returns a number that mostly is a ref; refs of the newest terms are as likely as all the others.
func anyRef(r *rand.Rand, a *term.Arena) int {
	if r.Intn(40) == 0 {
		return noRef(r, a)
	}
	if r.Intn(2) == 0 {
		return max(a.Len()-1-r.Intn(4), 0)
	}
	return r.Intn(a.Len())
}

func noRef(r *rand.Rand, a *term.Arena) int {
	l := noRefs(a)
	return l[r.Intn(len(l))]
}

// anyCipher returns one of those that were returned before, perhaps with one field changed.
func anyCipher(r *rand.Rand, a *term.Arena, made []cipher.Cipher) cipher.Cipher {
	c := made[r.Intn(len(made))]
	switch r.Intn(12) {
	case 0:
		c.Key = anyRef(r, a)
	case 1:
		c.Has = !c.Has
	case 2:
		c.N = uint64(r.Intn(4))
	case 3:
		c.N = last - uint64(r.Intn(3))
	case 4:
		c.Key = noRef(r, a)
	}
	return c
}

// P10.1 and P10.2: long random runs are as the chapter says, and so are the terms that they make.
func TestModel(t *testing.T) {
	r := rand.New(rand.NewSource(1))
	count := map[string]map[api.Errno]int{"Seal": {}, "Open": {}, "Rekey": {}}
	for range 300 {
		limit := 5 + r.Intn(40)
		a, s := scene(t, limit-5)
		m := &model{nodes(a), limit}
		made := []cipher.Cipher{{}, cipher.New(s.key), cipher.New(s.other)}
		for range 200 {
			c, ad, x := anyCipher(r, a, made), anyRef(r, a), anyRef(r, a)
			if n, is := a.Get(x); is && n.Kind == term.Seal && r.Intn(2) == 0 {
				c, ad = at(n.A, n.N), n.B // So that what was sealed is often opened.
			}
			f, want := sealing, result{}
			switch r.Intn(6) {
			case 0, 1:
				want = m.seal(c, ad, x)
			case 2:
				f, want = rekeying, m.rekey(c)
			default:
				f, want = opening, m.open(c, ad, x)
			}
			got := f.do(a, c, ad, x)
			if got != want || !slices.Equal(nodes(a), m.nodes) {
				t.Fatalf("%s by %v of %d with %d: %v, not %v, or other terms: %v, not %v", f.name, c, x, ad, got, want, nodes(a), m.nodes)
			}
			count[f.name][got.e]++
			if got.e == api.OK && f.name != "Open" {
				made = append(made, got.c)
			}
		}
	}
	wantCounts(t, count, "Seal", api.OK, api.ErrArg, api.ErrNonce, api.ErrFull)
	wantCounts(t, count, "Open", api.OK, api.ErrArg, api.ErrNonce, api.ErrOpen)
	wantCounts(t, count, "Rekey", api.OK, api.ErrKey, api.ErrArg, api.ErrFull)
}

// wantCounts asks that a random test has met each of these often, and nothing else.
func wantCounts(t *testing.T, count map[string]map[api.Errno]int, name string, l ...api.Errno) {
	t.Helper()
	for _, e := range l {
		if count[name][e] < 50 {
			t.Errorf("%s: error %d only %d times", name, e, count[name][e])
		}
	}
	if len(count[name]) != len(l) {
		t.Errorf("%s: %v", name, count[name])
	}
}

// someCiphers are ciphers that differ from each other, with and without a key.
func someCiphers() []cipher.Cipher {
	var l []cipher.Cipher
	for key := range 5 {
		for _, n := range []uint64{0, 1, 2, 1 << 32, last - 1, last} {
			l = append(l, cipher.Cipher{Key: key, Has: true, N: n}, cipher.Cipher{Key: key, N: n})
		}
	}
	return l
}

// P10.3: of all these ciphers, an equal one opens what was sealed, and no other one with a key.
func TestOpenedByEqualAlone(t *testing.T) {
	a, _ := scene(t, 5000)
	for _, c := range someCiphers() {
		for ad := range 5 {
			p := (c.Key + ad) % 5
			d, x, e := c.Seal(a, ad, p)
			if !c.Has || e == api.ErrNonce {
				continue
			}
			for _, other := range someCiphers() {
				want := failed(api.ErrOpen)
				switch {
				case other == c:
					want = result{d, p, api.OK}
				case !other.Has:
					want = result{other, x, api.OK}
				case other.N == last:
					want = failed(api.ErrNonce)
				}
				if got := open(a, other, ad, x); got != want {
					t.Errorf("Seal by %v, Open by %v: %v, not %v", c, other, got, want)
				}
			}
		}
	}
}

// P10.3: equal ciphers go on alike, over many terms and Rekeys; what comes again, or too early, is not opened.
func TestGoOnAlike(t *testing.T) {
	r := rand.New(rand.NewSource(2))
	for range 50 {
		a, s := scene(t, 1000)
		one := at(s.key, []uint64{0, 1, 1 << 31, 1<<32 - 2, last - 200}[r.Intn(5)])
		two := one
		for range 100 {
			if r.Intn(5) == 0 {
				one, two = rekey(a, one, 0, 0).c, rekey(a, two, 0, 0).c
			}
			ad, p := r.Intn(a.Len()), r.Intn(a.Len())
			sealed := seal(a, one, ad, p)
			wantSame(t, opening, a, sealed.c, ad, sealed.ref, failed(api.ErrOpen))
			opened := open(a, two, ad, sealed.ref)
			if sealed.e != api.OK || opened != (result{sealed.c, p, api.OK}) {
				t.Fatalf("Seal by %v: %v; Open by %v: %v, not %d", one, sealed, two, opened, p)
			}
			later := seal(a, sealed.c, ad, p)
			wantSame(t, opening, a, two, ad, later.ref, failed(api.ErrOpen))
			one, two = sealed.c, opened.c
		}
	}
}

// P10.3: what was sealed is opened in a copy of the arena, too.
func TestOpenInCopy(t *testing.T) {
	a, s := scene(t, 10)
	c := cipher.New(s.key)
	d, x, _ := c.Seal(a, s.ad, s.p)
	b := a.Copy()
	wantSame(t, opening, b, c, s.ad, x, result{d, s.p, api.OK})
	// What is sealed in one is not in the other one.
	_, y, _ := d.Seal(a, s.ad, s.p)
	wantSame(t, opening, b, d, s.ad, y, failed(api.ErrArg))
	wantSame(t, opening, a, d, s.ad, y, result{at(s.key, 2), s.p, api.OK})
}
