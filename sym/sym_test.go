package sym_test

import (
	"math"
	"slices"
	"strconv"
	"strings"
	"testing"

	"undertone/api"
	"undertone/cipher"
	"undertone/sym"
	"undertone/term"
)

// last is the number with which nothing is sealed.
const last = math.MaxUint64

// make1 makes a term that must be possible to make.
func make1(t *testing.T, a *term.Arena, n term.Node) int {
	t.Helper()
	ref, e := a.Mk(n)
	if e != api.OK {
		t.Fatalf("Mk(%v): error %d", n, e)
	}
	return ref
}

// fill makes Names until the arena has no space.
func fill(t *testing.T, a *term.Arena) {
	t.Helper()
	for n := uint64(1000); ; n++ {
		switch _, e := a.Mk(term.Node{Kind: term.Name, N: n}); e {
		case api.OK:
		case api.ErrFull:
			return
		default:
			t.Fatalf("Mk of Name %d: error %d", n, e)
		}
	}
}

// nodes returns all that an arena holds.
func nodes(a *term.Arena) []term.Node {
	var l []term.Node
	for ref := range a.Len() {
		n, _ := a.Get(ref)
		l = append(l, n)
	}
	return l
}

// noRefs returns numbers that are no refs of an arena.
func noRefs(a *term.Arena) []int {
	return []int{-1, a.Len(), -2, a.Len() + 1, math.MinInt, math.MaxInt, math.MinInt32, math.MaxInt32, 1 << 16, 1 << 32, 1<<32 + 1}
}

// The nodes of which the chapter speaks.
func word(b byte) term.Node      { return term.Node{Kind: term.Word, N: uint64(b)} }
func pair(a, b int) term.Node    { return term.Node{Kind: term.Pair, A: a, B: b} }
func hash(a, b int) term.Node    { return term.Node{Kind: term.Hash, A: a, B: b} }
func key(n, ck, x int) term.Node { return term.Node{Kind: term.Key, N: uint64(n), A: ck, B: x} }
func sealed(c cipher.Cipher, h, p int) term.Node {
	return term.Node{Kind: term.Seal, N: c.N, A: c.Key, B: h, C: p}
}

// at returns a cipher with a key, at that number.
func at(key int, n uint64) cipher.Cipher { return cipher.Cipher{Key: key, Has: true, N: n} }

// result is what a call returns: each call has some of these.
type result struct {
	s        sym.Sym
	ref      int
	one, two cipher.Cipher
	e        api.Errno
}

// failed is what is returned with an error.
func failed(e api.Errno) result { return result{e: e} }

// state is a result that is a state alone.
func state(ck, h int, c cipher.Cipher) result { return result{s: sym.Sym{Ck: ck, H: h, C: c}} }

// yields is that result with a ref.
func (r result) yields(ref int) result {
	r.ref = ref
	return r
}

// call is one of the methods, for tables.
type call struct {
	name string
	do   func(a *term.Arena, s sym.Sym, x int) result
}

var (
	mixHash = call{"MixHash", func(a *term.Arena, s sym.Sym, x int) (r result) { r.s, r.e = s.MixHash(a, x); return }}
	mixKey  = call{"MixKey", func(a *term.Arena, s sym.Sym, x int) (r result) { r.s, r.e = s.MixKey(a, x); return }}
	mixBoth = call{"MixBoth", func(a *term.Arena, s sym.Sym, x int) (r result) { r.s, r.e = s.MixBoth(a, x); return }}
	seal    = call{"Seal", func(a *term.Arena, s sym.Sym, x int) (r result) { r.s, r.ref, r.e = s.Seal(a, x); return }}
	open    = call{"Open", func(a *term.Arena, s sym.Sym, x int) (r result) { r.s, r.ref, r.e = s.Open(a, x); return }}
	split   = call{"Split", func(a *term.Arena, s sym.Sym, _ int) (r result) { r.one, r.two, r.e = s.Split(a); return }}
)

// begin is Begin of a name, as a call that has no state.
func begin(name string) call {
	return call{"Begin(" + strconv.Quote(name) + ")", func(a *term.Arena, _ sym.Sym, x int) (r result) { r.s, r.e = sym.Begin(a, name, x); return }}
}

// want asks for the result of a call that makes just these terms, in this order, and leaves the state as it is.
func want(t *testing.T, f call, a *term.Arena, s sym.Sym, x int, r result, made ...term.Node) {
	t.Helper()
	before, given := nodes(a), s
	if got := f.do(a, s, x); got != r {
		t.Errorf("%s of %v and %d: %v, not %v", f.name, given, x, got, r)
	}
	if after := nodes(a); !slices.Equal(after, append(before, made...)) {
		t.Errorf("%s of %v and %d made %v, not %v", f.name, given, x, after[min(len(after), len(before)):], made)
	}
	if s != given {
		t.Errorf("%s changed %v to %v", f.name, given, s)
	}
}

// wantFull asks for the same as want in an arena that has just enough space, and for ErrFull where there is less.
// Of the terms that are made, those before the one that has no space stay.
func wantFull(t *testing.T, f call, a *term.Arena, s sym.Sym, x int, r result, made ...term.Node) {
	t.Helper()
	for space := range made {
		want(t, f, withSpace(t, a, space), s, x, failed(api.ErrFull), made[:space]...)
	}
	b := withSpace(t, a, len(made))
	want(t, f, b, s, x, r, made...)
	// All is there now, so that the full arena is no hindrance.
	want(t, f, b, s, x, r)
}

// withSpace returns an arena with the same terms, and space for that many more.
func withSpace(t *testing.T, a *term.Arena, space int) *term.Arena {
	t.Helper()
	b := term.New(a.Len() + space)
	for _, n := range nodes(a) {
		make1(t, b, n)
	}
	return b
}

// scene returns an arena with the terms 0 to 5, and space for that many more.
func scene(t *testing.T, space int) *term.Arena {
	t.Helper()
	a := term.New(6 + space)
	for n := range uint64(3) {
		make1(t, a, term.Node{Kind: term.Name, N: n + 1})
	}
	make1(t, a, term.Node{Kind: term.Pub, A: 1})
	make1(t, a, term.Node{Kind: term.Dh, A: 1, B: 2})
	return a
}

// ciphers are some of any kind for a scene: without and with a key that is a ref.
func ciphers() []cipher.Cipher {
	return []cipher.Cipher{{}, {Key: 2, N: 7}, {N: last}, at(0, 0), at(1, 0), at(1, 1), at(5, 1<<32), at(3, last-1), at(2, last)}
}

// The chapter's example: after MixKey the numbers start from 0 again; after MixBoth, too.
func TestExample(t *testing.T) {
	for _, f := range []call{mixKey, mixBoth} {
		a := scene(t, 100)
		s, e := sym.Begin(a, "example", 1)
		for range 3 {
			if s = f.do(a, s, 2).s; e != api.OK || !s.C.Has || s.C.N != 0 {
				t.Fatalf("%s: %v, error %d", f.name, s, e)
			}
			for n := range uint64(4) {
				x := 0
				s, x, e = s.Seal(a, 3)
				if m, _ := a.Get(x); e != api.OK || m.N != n || s.C.N != n+1 {
					t.Errorf("Seal %d after %s: %v, error %d, and %v", n, f.name, m, e, s)
				}
			}
		}
	}
}

// spelt returns the nodes that Begin makes in an arena where nothing of them is, with the refs of the name's term and the Hash.
func spelt(a *term.Arena, name string, prologue int) (made []term.Node, ck, h int) {
	all, at := nodes(a), 0
	first := len(all)
	put := func(n term.Node) int {
		if ref := slices.Index(all, n); ref >= 0 {
			return ref
		}
		all = append(all, n)
		return len(all) - 1
	}
	for i := 0; i < len(name); i++ {
		at = put(pair(at, put(word(name[i]))))
	}
	h = put(hash(at, prologue))
	return all[first:], at, h
}

// everyByte returns names that have bytes of every value, also such as are no UTF-8.
func everyByte() []string {
	var l []string
	var b []byte
	for n := range 256 {
		l = append(l, string([]byte{byte(n)}))
		if b = append(b, byte(n)); len(b) == 100 || n == 255 {
			l, b = append(l, string(b)), nil
		}
	}
	return l
}

// names are names that may be, of all lengths.
func names() []string {
	l := append(everyByte(), "", "ab", "ba", "aa", "aaa", "aba", "abab", "Noise_XX_25519_AESGCM_SHA256", "IKpsk2", "é", "日本", "\U0010ffff", "\xff\xfe", "a\x00", "\x00a", "\x00\x00")
	for n := range 101 {
		l = append(l, strings.Repeat("x", n), strings.Repeat("Noise+\x00\xff", 20)[:n])
	}
	return l
}

// P11.1: what Begin makes for names of all lengths and bytes, and in which order.
func TestBegin(t *testing.T) {
	for _, name := range names() {
		for prologue := range 6 {
			a := scene(t, 300)
			made, ck, h := spelt(a, name, prologue)
			want(t, begin(name), a, sym.Sym{}, prologue, state(ck, h, cipher.Cipher{}), made...)
			// All is there now.
			want(t, begin(name), a, sym.Sym{}, prologue, state(ck, h, cipher.Cipher{}))
		}
	}
}

// P11.1: the nodes of a short name, one by one.
func TestBeginNodes(t *testing.T) {
	a := term.New(100)
	x := make1(t, a, term.Node{Kind: term.Name, N: 1})
	want(t, begin("aba"), a, sym.Sym{}, x, state(6, 7, cipher.Cipher{}),
		word('a'),
		pair(0, 2),
		word('b'),
		pair(3, 4),
		pair(5, 2),
		hash(6, x),
	)
	// The empty name's term is Empty.
	want(t, begin(""), a, sym.Sym{}, x, state(0, 8, cipher.Cipher{}), hash(0, x))
	want(t, begin(""), a, sym.Sym{}, 0, state(0, 9, cipher.Cipher{}), hash(0, 0))
	// A beginning of a name that is there needs its Hash alone; another one, what it differs in.
	want(t, begin("ab"), a, sym.Sym{}, 9, state(5, 10, cipher.Cipher{}), hash(5, 9))
	want(t, begin("abb"), a, sym.Sym{}, x, state(11, 12, cipher.Cipher{}), pair(5, 4), hash(11, x))
}

// P11.1: a name that is too long, or a prologue that is no ref, is ErrArg before anything is made.
func TestBeginArg(t *testing.T) {
	long := []string{strings.Repeat("x", 101), strings.Repeat("\x00", 102), strings.Repeat("é", 51), strings.Repeat("ab", 128), strings.Repeat("x", 1<<16)}
	for _, space := range []int{0, 1, 1000} {
		a := scene(t, space)
		for _, name := range long {
			for prologue := range 6 {
				want(t, begin(name), a, sym.Sym{}, prologue, failed(api.ErrArg))
			}
		}
		for _, name := range append(long, "", "a", "ab", strings.Repeat("x", 99), strings.Repeat("x", 100)) {
			for _, bad := range noRefs(a) {
				want(t, begin(name), a, sym.Sym{}, bad, failed(api.ErrArg))
			}
		}
	}
}

// P11.1: a prologue that would be a ref only once the name is made is none.
func TestBeginArgOfLaterRef(t *testing.T) {
	a := scene(t, 100)
	for ref := a.Len(); ref < a.Len()+9; ref++ {
		want(t, begin("abcd"), a, sym.Sym{}, ref, failed(api.ErrArg))
	}
}

// P11.1: a full arena at each of the terms that Begin makes.
func TestBeginFull(t *testing.T) {
	for _, name := range []string{"", "a", "aa", "ab", "abcab", "Noise_XX", strings.Repeat("x", 100)} {
		a := scene(t, 0)
		made, ck, h := spelt(a, name, 4)
		wantFull(t, begin(name), a, sym.Sym{}, 4, state(ck, h, cipher.Cipher{}), made...)
	}
}

// P11.1: names and prologues that differ have different Hashes, and names that differ different chaining keys.
func TestBeginDiffers(t *testing.T) {
	a := scene(t, 40000)
	type start struct {
		name     string
		prologue int
	}
	chains, hashes := map[int]string{}, map[int]start{}
	for _, name := range names() {
		for prologue := range 3 {
			s, e := sym.Begin(a, name, prologue)
			if e != api.OK {
				t.Fatalf("Begin(%q, %d): error %d", name, prologue, e)
			}
			if other, is := chains[s.Ck]; is && other != name {
				t.Errorf("%q and %q: the same chaining key", name, other)
			}
			if other, is := hashes[s.H]; is && other != (start{name, prologue}) {
				t.Errorf("%q, %d and %v: the same hash", name, prologue, other)
			}
			chains[s.Ck], hashes[s.H] = name, start{name, prologue}
		}
	}
}

// P11.2: MixHash makes one Hash, and changes nothing but H.
func TestMixHash(t *testing.T) {
	for _, c := range ciphers() {
		for bits := range 6 * 6 * 6 {
			ck, h, x := bits%6, bits/6%6, bits/36
			wantFull(t, mixHash, scene(t, 0), sym.Sym{Ck: ck, H: h, C: c}, x, state(ck, 6, c), hash(h, x))
		}
	}
}

// P11.2: MixKey makes the Keys 1 and 2, in this order; H stays, whatever the cipher was.
func TestMixKey(t *testing.T) {
	for _, c := range ciphers() {
		for bits := range 6 * 6 * 6 {
			ck, h, x := bits%6, bits/6%6, bits/36
			wantFull(t, mixKey, scene(t, 0), sym.Sym{Ck: ck, H: h, C: c}, x, state(6, h, at(7, 0)), key(1, ck, x), key(2, ck, x))
		}
	}
}

// P11.2: MixBoth makes the Keys 1 to 3 and then the Hash, of the former Ck and H.
func TestMixBoth(t *testing.T) {
	for _, c := range ciphers() {
		for bits := range 6 * 6 * 6 {
			ck, h, x := bits%6, bits/6%6, bits/36
			wantFull(t, mixBoth, scene(t, 0), sym.Sym{Ck: ck, H: h, C: c}, x, state(6, 9, at(8, 0)),
				key(1, ck, x), key(2, ck, x), key(3, ck, x), hash(h, 7))
		}
	}
}

// P11.2: Keys and Hashes that are there are used, whichever they are, and the others are made in their order.
func TestMixWithSomeThere(t *testing.T) {
	for bits := range 16 {
		a := scene(t, 0)
		a = withSpace(t, a, 4)
		var made []term.Node
		refs := map[int]int{}
		for n := 1; n <= 3; n++ {
			if bits>>n&1 == 1 {
				refs[n] = make1(t, a, key(n, 1, 2))
			}
		}
		if h, is := refs[2]; is && bits&1 == 1 {
			refs[4] = make1(t, a, hash(3, h))
		}
		next := a.Len()
		for n := 1; n <= 4; n++ {
			if _, is := refs[n]; is {
				continue
			}
			refs[n] = next + len(made)
			if n < 4 {
				made = append(made, key(n, 1, 2))
			} else {
				made = append(made, hash(3, refs[2]))
			}
		}
		wantFull(t, mixBoth, a, sym.Sym{Ck: 1, H: 3}, 2, state(refs[1], refs[4], at(refs[3], 0)), made...)
	}
}

// P11.2: each Mix goes on from the state that the one before returned.
func TestMixesInTurn(t *testing.T) {
	a := scene(t, 100)
	s := sym.Sym{Ck: 1, H: 2}
	want(t, mixKey, a, s, 3, state(6, 2, at(7, 0)), key(1, 1, 3), key(2, 1, 3))
	s = sym.Sym{Ck: 6, H: 2, C: at(7, 0)}
	want(t, mixHash, a, s, 4, state(6, 8, at(7, 0)), hash(2, 4))
	s.H = 8
	want(t, mixBoth, a, s, 3, state(9, 12, at(11, 0)), key(1, 6, 3), key(2, 6, 3), key(3, 6, 3), hash(8, 10))
	s = sym.Sym{Ck: 9, H: 12, C: at(11, 0)}
	want(t, mixKey, a, s, 9, state(13, 12, at(14, 0)), key(1, 9, 9), key(2, 9, 9))
}

// P11.2 and P11.3: an argument that is no ref is ErrArg, with or without space, and whatever else is wrong.
func TestArgNoRef(t *testing.T) {
	for _, space := range []int{0, 1, 100} {
		a := scene(t, space)
		for _, bad := range noRefs(a) {
			for _, c := range append(ciphers(), at(bad, 0), cipher.Cipher{Key: bad}) {
				for _, s := range []sym.Sym{{Ck: 1, H: 2, C: c}, {Ck: bad, H: 2, C: c}, {Ck: 1, H: bad, C: c}, {Ck: bad, H: bad, C: c}} {
					for _, f := range []call{mixHash, mixKey, mixBoth, seal, open} {
						want(t, f, a, s, bad, failed(api.ErrArg))
					}
				}
			}
		}
	}
}

// P11.2 and P11.3: a Ck or H that is no ref is ErrArg where a term is made of it, in a full arena, too.
func TestStateNoRef(t *testing.T) {
	for _, space := range []int{0, 1, 100} {
		a := scene(t, space)
		for _, bad := range noRefs(a) {
			for _, c := range ciphers() {
				for x := range 6 {
					for _, f := range []call{mixKey, mixBoth, split} {
						want(t, f, a, sym.Sym{Ck: bad, H: 2, C: c}, x, failed(api.ErrArg))
					}
					for _, f := range []call{mixHash, seal, open} {
						want(t, f, a, sym.Sym{Ck: 1, H: bad, C: c}, x, failed(api.ErrArg))
					}
				}
			}
		}
	}
}

// P11.2: an H that is no ref is ErrArg in MixBoth; the Keys, which come before the Hash, stay.
func TestMixBothHashNoRef(t *testing.T) {
	for _, space := range []int{3, 4, 100} {
		// -1 is never a ref; the others must not become one by the Keys.
		for _, bad := range []int{-1, 10, 11, math.MinInt, math.MaxInt, 1 << 16, 1 << 32} {
			a := scene(t, space)
			made := []term.Node{key(1, 1, 2), key(2, 1, 2), key(3, 1, 2)}
			want(t, mixBoth, a, sym.Sym{Ck: 1, H: bad}, 2, failed(api.ErrArg), made...)
			want(t, mixBoth, a, sym.Sym{Ck: 1, H: bad}, 2, failed(api.ErrArg))
		}
	}
}

// P11.2 and P11.3: what a call does not use may be anything, and stays.
func TestUnusedNoRef(t *testing.T) {
	for _, bad := range noRefs(scene(t, 0)) {
		odd := cipher.Cipher{Key: bad, Has: true, N: 5}
		wantFull(t, mixHash, scene(t, 0), sym.Sym{Ck: bad, H: 2, C: odd}, 3, state(bad, 6, odd), hash(2, 3))
		wantFull(t, mixKey, scene(t, 0), sym.Sym{Ck: 1, H: bad, C: odd}, 3, state(6, bad, at(7, 0)), key(1, 1, 3), key(2, 1, 3))
		wantFull(t, mixBoth, scene(t, 0), sym.Sym{Ck: 1, H: 2, C: odd}, 3, state(6, 9, at(8, 0)), key(1, 1, 3), key(2, 1, 3), key(3, 1, 3), hash(2, 7))
		wantFull(t, split, scene(t, 0), sym.Sym{Ck: 1, H: bad, C: odd}, bad, result{one: at(6, 0), two: at(7, 0)}, key(1, 1, 0), key(2, 1, 0))
		none := cipher.Cipher{Key: bad, N: 5}
		for _, f := range []call{seal, open} {
			wantFull(t, f, scene(t, 0), sym.Sym{Ck: bad, H: 2, C: none}, 3, state(bad, 6, none).yields(3), hash(2, 3))
			wantFull(t, f, scene(t, 1), sym.Sym{Ck: bad, H: 2}, 3, state(bad, 6, cipher.Cipher{}).yields(3), hash(2, 3))
		}
	}
}

// P11.3: with a key, Seal makes the Seal and then the Hash; Open makes the same Hash.
func TestSealAndOpen(t *testing.T) {
	for _, c := range ciphers() {
		if !c.Has || c.N == last {
			continue
		}
		for bits := range 6 * 6 * 6 {
			ck, h, p := bits%6, bits/6%6, bits/36
			s := sym.Sym{Ck: ck, H: h, C: c}
			after := state(ck, 7, at(c.Key, c.N+1))
			wantFull(t, seal, scene(t, 0), s, p, after.yields(6), sealed(c, h, p), hash(h, 6))
			a := scene(t, 1)
			x := make1(t, a, sealed(c, h, p))
			wantFull(t, open, a, s, x, after.yields(p), hash(h, x))
		}
	}
}

// P11.3: without a key, Seal and Open return the term itself, but mix it into the hash all the same.
func TestSealAndOpenWithoutKey(t *testing.T) {
	for _, c := range ciphers() {
		if c.Has {
			continue
		}
		for bits := range 6 * 6 * 6 {
			ck, h, x := bits%6, bits/6%6, bits/36
			for _, f := range []call{seal, open} {
				wantFull(t, f, scene(t, 0), sym.Sym{Ck: ck, H: h, C: c}, x, state(ck, 6, c).yields(x), hash(h, x))
			}
		}
	}
}

// P11.3: without a key, a Seal is passed through as well.
func TestOpenSealWithoutKey(t *testing.T) {
	a := scene(t, 1)
	x := make1(t, a, sealed(at(1, 0), 2, 3))
	for _, f := range []call{seal, open} {
		wantFull(t, f, a, sym.Sym{Ck: 1, H: 2}, x, state(1, 7, cipher.Cipher{}).yields(x), hash(2, x))
	}
}

// P11.3: the Seal may be there already, and the Hash, too.
func TestSealAgain(t *testing.T) {
	a := scene(t, 2)
	s := sym.Sym{Ck: 1, H: 2, C: at(3, 0)}
	x := make1(t, a, sealed(s.C, 2, 4))
	wantFull(t, seal, a, s, 4, state(1, 7, at(3, 1)).yields(x), hash(2, x))
	make1(t, a, hash(2, x))
	want(t, seal, a, s, 4, state(1, 7, at(3, 1)).yields(x))
	want(t, open, a, s, x, state(1, 7, at(3, 1)).yields(4))
}

// P11.3: the errors of the cipher: a key that is no ref, before the last number, before what can't be made or opened.
func TestCipherErrors(t *testing.T) {
	for _, space := range []int{0, 100} {
		a := scene(t, 1+space)
		x := make1(t, a, sealed(at(3, last), 2, 4))
		for _, f := range []call{seal, open} {
			for _, bad := range noRefs(a) {
				for _, n := range []uint64{0, 1, last} {
					want(t, f, a, sym.Sym{Ck: 1, H: 2, C: at(bad, n)}, x, failed(api.ErrArg))
				}
				want(t, f, a, sym.Sym{Ck: 1, H: bad, C: at(3, last)}, x, failed(api.ErrArg))
				want(t, f, a, sym.Sym{Ck: 1, H: 2, C: at(3, last)}, bad, failed(api.ErrArg))
			}
			for y := range a.Len() {
				want(t, f, a, sym.Sym{Ck: 1, H: 2, C: at(3, last)}, y, failed(api.ErrNonce))
			}
		}
	}
}

// P11.3: what is no Seal with the key, the number and the hash is ErrOpen, with or without space; nothing is made.
func TestOpenErrors(t *testing.T) {
	for _, space := range []int{0, 100} {
		a := scene(t, 6+space)
		s := sym.Sym{Ck: 1, H: 2, C: at(3, 1)}
		for _, n := range []term.Node{
			sealed(at(3, 0), 2, 4),
			sealed(at(3, 2), 2, 4),
			sealed(at(1, 1), 2, 4),
			sealed(at(3, 1), 1, 4),
			sealed(at(3, 1), 0, 4),
			key(1, 3, 2),
		} {
			make1(t, a, n)
		}
		for x := range a.Len() {
			want(t, open, a, s, x, failed(api.ErrOpen))
		}
	}
}

// P11.3: the associated data is the hash from before, so that nothing is opened out of its turn.
func TestOpenInTurn(t *testing.T) {
	a := scene(t, 100)
	s := sym.Sym{Ck: 1, H: 2, C: at(3, 0)}
	one, x, _ := s.Seal(a, 4)
	two, y, _ := one.Seal(a, 4)
	if x == y {
		t.Fatal("two Seals are the same term")
	}
	want(t, open, a, s, y, failed(api.ErrOpen))
	want(t, open, a, one, x, failed(api.ErrOpen))
	want(t, open, a, s, x, result{s: one}.yields(4))
	want(t, open, a, one, y, result{s: two}.yields(4))
	// The same number with another hash, and the same hash with another number.
	want(t, open, a, sym.Sym{Ck: 1, H: s.H, C: one.C}, y, failed(api.ErrOpen))
	want(t, open, a, sym.Sym{Ck: 1, H: one.H, C: s.C}, y, failed(api.ErrOpen))
}

// P11.3: Split makes the Keys 1 and 2 of Ck and Empty, whatever the hash and the cipher are.
func TestSplit(t *testing.T) {
	for _, c := range ciphers() {
		for ck := range 6 {
			for h := range 6 {
				wantFull(t, split, scene(t, 0), sym.Sym{Ck: ck, H: h, C: c}, 3, result{one: at(6, 0), two: at(7, 0)}, key(1, ck, 0), key(2, ck, 0))
			}
		}
	}
}

// P11.3: Keys that are there already are used, whichever they are.
func TestSplitWithSomeThere(t *testing.T) {
	a := scene(t, 1)
	x := make1(t, a, key(2, 1, 0))
	wantFull(t, split, a, sym.Sym{Ck: 1}, 0, result{one: at(7, 0), two: at(x, 0)}, key(1, 1, 0))
	a = scene(t, 1)
	x = make1(t, a, key(1, 1, 0))
	wantFull(t, split, a, sym.Sym{Ck: 1}, 0, result{one: at(x, 0), two: at(7, 0)}, key(2, 1, 0))
}

// P11.1 to P11.3: a ref belongs to the arena that is passed in, not to another one.
func TestRefsOfOtherArena(t *testing.T) {
	a := scene(t, 100)
	s, _ := sym.Begin(a, "a", 1)
	s, _ = s.MixKey(a, 2)
	_, x, _ := s.Seal(a, 3)
	small := term.New(100)
	want(t, begin("a"), small, sym.Sym{}, 1, failed(api.ErrArg))
	for _, f := range []call{mixHash, mixKey, mixBoth, seal, open} {
		want(t, f, small, sym.Sym{}, x, failed(api.ErrArg))
		want(t, f, small, sym.Sym{Ck: s.Ck, H: s.H}, 0, failed(api.ErrArg))
		want(t, f, small, s, x, failed(api.ErrArg))
	}
	want(t, split, small, s, 0, failed(api.ErrArg))
}

// P11.1 to P11.3: a state belongs to no arena: a copy of the arena goes on alike.
func TestCopy(t *testing.T) {
	a := scene(t, 100)
	s, _ := sym.Begin(a, "copy", 1)
	s, _ = s.MixKey(a, 2)
	_, x, _ := s.Seal(a, 3)
	b := a.Copy()
	for _, f := range []call{mixHash, mixKey, mixBoth, seal, open, split} {
		if one, two := f.do(a, s, x), f.do(b, s, x); one != two || one.e != api.OK || !slices.Equal(nodes(a), nodes(b)) {
			t.Errorf("%s: %v, and in a copy %v", f.name, one, two)
		}
	}
}
