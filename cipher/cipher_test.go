package cipher_test

import (
	"math"
	"slices"
	"testing"

	"undertone/api"
	"undertone/cipher"
	"undertone/term"
)

// last is the number that is not used.
const last = math.MaxUint64

// none is the zero cipher, beside errors.
var none cipher.Cipher

// numbers are numbers that may be used, among them some that look like others in fewer bits or with a sign.
var numbers = []uint64{0, 1, 2, 3, 4, 255, 256, 1<<31 - 1, 1 << 31, 1<<32 - 1, 1 << 32, 1<<32 + 1, 1<<53 + 1, 1<<63 - 1, 1 << 63, last - 2, last - 1}

// make1 makes a term that must be possible to make.
func make1(t *testing.T, a *term.Arena, n term.Node) int {
	t.Helper()
	ref, e := a.Mk(n)
	if e != api.OK {
		t.Fatalf("Mk(%v): error %d", n, e)
	}
	return ref
}

// name makes a secret.
func name(t *testing.T, a *term.Arena, n uint64) int {
	t.Helper()
	return make1(t, a, term.Node{Kind: term.Name, N: n})
}

// fill makes Words until the arena has no space.
func fill(t *testing.T, a *term.Arena) {
	t.Helper()
	for n := uint64(0); ; n++ {
		switch _, e := a.Mk(term.Node{Kind: term.Word, N: n}); e {
		case api.OK:
		case api.ErrFull:
			return
		default:
			t.Fatalf("Mk of Word %d: error %d", n, e)
		}
	}
}

// nodes returns all that an arena holds.
func nodes(a *term.Arena) []term.Node {
	var l []term.Node
	for ref := range a.Len() {
		n, _ := a.Get(ref)
		l = append(l, n)
	}
	return l
}

// noRefs returns numbers that are no refs of an arena.
func noRefs(a *term.Arena) []int {
	return []int{-1, a.Len(), -2, a.Len() + 1, math.MinInt, math.MaxInt, math.MinInt32, math.MaxInt32, 1 << 16, 1 << 32, 1<<32 + 1}
}

// at returns a cipher with a key, at that number.
func at(key int, n uint64) cipher.Cipher { return cipher.Cipher{Key: key, Has: true, N: n} }

// result is what Seal and Open return; Rekey returns no ref.
type result struct {
	c   cipher.Cipher
	ref int
	e   api.Errno
}

// failed is what is returned with an error.
func failed(e api.Errno) result { return result{e: e} }

// The three calls, for tables.
func seal(a *term.Arena, c cipher.Cipher, ad, x int) result {
	d, ref, e := c.Seal(a, ad, x)
	return result{d, ref, e}
}

func open(a *term.Arena, c cipher.Cipher, ad, x int) result {
	d, ref, e := c.Open(a, ad, x)
	return result{d, ref, e}
}

func rekey(a *term.Arena, c cipher.Cipher, _, _ int) result {
	d, e := c.Rekey(a)
	return result{d, 0, e}
}

// call is one of the three.
type call struct {
	name string
	do   func(a *term.Arena, c cipher.Cipher, ad, x int) result
}

var (
	sealing  = call{"Seal", seal}
	opening  = call{"Open", open}
	rekeying = call{"Rekey", rekey}
)

// wantSame asks for a result of a call that makes nothing and leaves the cipher as it is.
func wantSame(t *testing.T, f call, a *term.Arena, c cipher.Cipher, ad, x int, want result) {
	t.Helper()
	before, given := nodes(a), c
	if got := f.do(a, c, ad, x); got != want {
		t.Errorf("%s by %v of %d with %d: %v, not %v", f.name, given, x, ad, got, want)
	}
	if !slices.Equal(nodes(a), before) {
		t.Errorf("%s by %v of %d with %d changed the arena", f.name, given, x, ad)
	}
	if c != given {
		t.Errorf("%s changed %v to %v", f.name, given, c)
	}
}

// wantNew asks for a result of a call that makes just the term with that node.
func wantNew(t *testing.T, f call, a *term.Arena, c cipher.Cipher, ad, x int, want result, n term.Node) {
	t.Helper()
	before, given := nodes(a), c
	if got := f.do(a, c, ad, x); got != want {
		t.Errorf("%s by %v of %d with %d: %v, not %v", f.name, given, x, ad, got, want)
	}
	if !slices.Equal(nodes(a), append(before, n)) {
		t.Errorf("%s by %v of %d with %d: not just %v is new in %v", f.name, given, x, ad, n, nodes(a))
	}
	if c != given {
		t.Errorf("%s changed %v to %v", f.name, given, c)
	}
}

// things are terms of an arena that differ from each other.
type things struct {
	key, other, ad, p int
}

// scene returns an arena with things, and space for that many more terms.
func scene(t *testing.T, space int) (*term.Arena, things) {
	t.Helper()
	a := term.New(5 + space)
	return a, things{name(t, a, 1), name(t, a, 2), name(t, a, 3), name(t, a, 4)}
}

// P10.1: the chapter's example: the numbers are 0 and 1.
func TestExample(t *testing.T) {
	a, s := scene(t, 2)
	c, x, e := cipher.New(s.key).Seal(a, s.ad, s.p)
	d, y, f := c.Seal(a, s.ad, s.p)
	if e != api.OK || f != api.OK || d != at(s.key, 2) || x == y {
		t.Fatalf("Seals: %d, error %d, and %d, error %d, by %v and %v", x, e, y, f, c, d)
	}
	for i, ref := range []int{x, y} {
		n, _ := a.Get(ref)
		if n != (term.Node{Kind: term.Seal, N: uint64(i), A: s.key, B: s.ad, C: s.p}) {
			t.Errorf("Seal %d: %v", i, n)
		}
	}
}

// P10.1: New takes any key, and asks no arena for it.
func TestNew(t *testing.T) {
	for _, key := range []int{0, 1, 2, 3, 17, -1, -2, 1<<16 - 1, 1 << 16, math.MaxInt32, math.MinInt32, 1 << 32, math.MaxInt, math.MinInt} {
		if c := cipher.New(key); c.Key != key || !c.Has || c.N != 0 {
			t.Errorf("New(%d): %v", key, c)
		}
	}
}

// P10.1: each part of a Seal is where it belongs, whichever terms are used, and whatever the number is.
func TestSealNode(t *testing.T) {
	for _, n := range numbers {
		for bits := range 5 * 5 * 5 {
			a, _ := scene(t, 1)
			key, ad, p := bits%5, bits/5%5, bits/25
			x := a.Len()
			wantNew(t, sealing, a, at(key, n), ad, p, result{at(key, n+1), x, api.OK}, term.Node{Kind: term.Seal, N: n, A: key, B: ad, C: p})
			// And opened again.
			wantSame(t, opening, a, at(key, n), ad, x, result{at(key, n+1), p, api.OK})
		}
	}
}

// P10.1: what is sealed twice by equal ciphers is one term, which an arena needs no more space for.
func TestSealAgain(t *testing.T) {
	a, s := scene(t, 1)
	c := at(s.key, 7)
	x := a.Len()
	want := result{at(s.key, 8), x, api.OK}
	wantNew(t, sealing, a, c, s.ad, s.p, want, term.Node{Kind: term.Seal, N: 7, A: s.key, B: s.ad, C: s.p})
	wantSame(t, sealing, a, c, s.ad, s.p, want)
	// The arena is full now, so nothing that differs in anything can be made.
	wantSame(t, sealing, a, at(s.key, 8), s.ad, s.p, failed(api.ErrFull))
	wantSame(t, sealing, a, at(s.other, 7), s.ad, s.p, failed(api.ErrFull))
	wantSame(t, sealing, a, c, s.p, s.p, failed(api.ErrFull))
	wantSame(t, sealing, a, c, s.ad, s.ad, failed(api.ErrFull))
	wantSame(t, sealing, a, c, s.ad, s.p, want)
}

// P10.1: what was made by other means is opened like what was sealed.
func TestOpenMadeByMk(t *testing.T) {
	for _, n := range numbers {
		a, s := scene(t, 1)
		x := make1(t, a, term.Node{Kind: term.Seal, N: n, A: s.key, B: s.ad, C: s.p})
		want := result{at(s.key, n+1), s.p, api.OK}
		wantSame(t, opening, a, at(s.key, n), s.ad, x, want)
		wantSame(t, opening, a, at(s.key, n), s.ad, x, want)
		wantSame(t, sealing, a, at(s.key, n), s.ad, s.p, result{at(s.key, n+1), x, api.OK})
	}
}

// P10.1: any term is sealed and opened, a Seal and what it was sealed with too.
func TestContents(t *testing.T) {
	a, s := scene(t, 100)
	inner := make1(t, a, term.Node{Kind: term.Seal, A: s.key, B: s.ad, C: s.p})
	pub := make1(t, a, term.Node{Kind: term.Pub, A: s.key})
	pair := make1(t, a, term.Node{Kind: term.Pair, A: inner, B: pub})
	c := at(s.key, 0)
	for _, p := range []int{0, s.key, s.ad, inner, pub, pair} {
		for _, ad := range []int{0, s.key, s.ad, inner, pub, pair} {
			d, x, e := c.Seal(a, ad, p)
			if d != at(s.key, 1) || e != api.OK {
				t.Errorf("Seal of %d with %d: %v, error %d", p, ad, d, e)
			}
			wantSame(t, opening, a, c, ad, x, result{at(s.key, 1), p, api.OK})
		}
	}
	// One Seal within another one: each Open takes off just one.
	d, x, _ := c.Seal(a, s.ad, inner)
	wantSame(t, opening, a, c, s.ad, x, result{d, inner, api.OK})
	wantSame(t, opening, a, c, s.ad, inner, result{d, s.p, api.OK})
	wantSame(t, opening, a, d, s.ad, inner, failed(api.ErrOpen))
}

// keyless are ciphers without a key, whatever their other fields say.
func keyless(a *term.Arena) []cipher.Cipher {
	l := []cipher.Cipher{{}, {Key: 1}, {N: 1}, {N: last - 1}, {N: last}, {Key: 2, N: 7}, {Key: 2, N: last}}
	for _, key := range noRefs(a) {
		l = append(l, cipher.Cipher{Key: key}, cipher.Cipher{Key: key, N: last})
	}
	return l
}

// P10.1: without a key, Seal and Open return the cipher itself and the term: nothing is counted or made.
func TestWithoutKey(t *testing.T) {
	for _, space := range []int{1, 10} {
		a, s := scene(t, space)
		x := make1(t, a, term.Node{Kind: term.Seal, A: s.key, B: s.ad, C: s.p}) // With a space of 1, the arena is full.
		for _, c := range keyless(a) {
			for _, ad := range []int{0, s.ad, s.p, x} {
				for _, p := range []int{0, s.ad, s.p, s.key, x} {
					wantSame(t, sealing, a, c, ad, p, result{c, p, api.OK})
					wantSame(t, opening, a, c, ad, p, result{c, p, api.OK})
				}
			}
		}
	}
}

// P10.1: without a key, what is no ref is ErrArg all the same; the Key that is not used may be anything.
func TestWithoutKeyNoRefs(t *testing.T) {
	for _, space := range []int{0, 10} {
		a, s := scene(t, space)
		for _, c := range keyless(a) {
			for _, bad := range noRefs(a) {
				for _, f := range []call{sealing, opening} {
					wantSame(t, f, a, c, bad, s.p, failed(api.ErrArg))
					wantSame(t, f, a, c, s.ad, bad, failed(api.ErrArg))
					wantSame(t, f, a, c, bad, bad, failed(api.ErrArg))
				}
			}
		}
	}
}

// P10.1: what is no ref is ErrArg, also where there are no more numbers, no space is left, or nothing can be opened.
func TestNoRefs(t *testing.T) {
	for _, space := range []int{1, 10} {
		a, s := scene(t, space)
		x := make1(t, a, term.Node{Kind: term.Seal, A: s.key, B: s.ad, C: s.p})
		for _, bad := range noRefs(a) {
			for _, n := range []uint64{0, 1, last - 1, last} {
				for _, f := range []call{sealing, opening} {
					for bits := 1; bits < 8; bits++ {
						key, ad, y := s.key, s.ad, x
						for i, ref := range []*int{&key, &ad, &y} {
							if bits>>i&1 == 1 {
								*ref = bad
							}
						}
						wantSame(t, f, a, at(key, n), ad, y, failed(api.ErrArg))
					}
				}
			}
		}
	}
}

// P10.1: a ref belongs to the arena that is passed in, not to another one.
func TestRefsOfOtherArena(t *testing.T) {
	a, s := scene(t, 10)
	c, x, _ := cipher.New(s.key).Seal(a, s.ad, s.p)
	small := term.New(10)
	for _, f := range []call{sealing, opening} {
		wantSame(t, f, small, c, 0, 0, failed(api.ErrArg))
		wantSame(t, f, small, at(0, 0), s.ad, 0, failed(api.ErrArg))
		wantSame(t, f, small, at(0, 0), 0, x, failed(api.ErrArg))
	}
	wantSame(t, rekeying, small, c, 0, 0, failed(api.ErrArg))
}

// P10.1: the last number is not used; the one below it is, and then there are no more.
func TestLastNumber(t *testing.T) {
	a, s := scene(t, 2)
	x := a.Len()
	below, end := at(s.key, last-1), at(s.key, last)
	wantNew(t, sealing, a, below, s.ad, s.p, result{end, x, api.OK}, term.Node{Kind: term.Seal, N: last - 1, A: s.key, B: s.ad, C: s.p})
	wantSame(t, opening, a, below, s.ad, x, result{end, s.p, api.OK})
	y := make1(t, a, term.Node{Kind: term.Seal, N: last, A: s.key, B: s.ad, C: s.p})
	// That comes before ErrOpen, before ErrFull (the arena is full now), and before a Seal that is held.
	for _, z := range []int{0, s.p, x, y} {
		wantSame(t, sealing, a, end, s.ad, z, failed(api.ErrNonce))
		wantSame(t, opening, a, end, s.ad, z, failed(api.ErrNonce))
		wantSame(t, opening, a, end, s.p, z, failed(api.ErrNonce))
		wantSame(t, opening, a, at(s.other, last), s.ad, z, failed(api.ErrNonce))
	}
}

// P10.1: in a full arena, Seal returns Mk's error, and Open needs no space.
func TestFull(t *testing.T) {
	a, s := scene(t, 3)
	c := cipher.New(s.key)
	_, x, _ := c.Seal(a, s.ad, s.p)
	fill(t, a)
	for _, n := range []uint64{1, 2, last - 1} {
		wantSame(t, sealing, a, at(s.key, n), s.ad, s.p, failed(api.ErrFull))
	}
	wantSame(t, sealing, a, at(0, 0), 0, 0, failed(api.ErrFull))
	wantSame(t, opening, a, c, s.ad, x, result{at(s.key, 1), s.p, api.OK})
	wantSame(t, opening, a, at(s.key, 1), s.ad, x, failed(api.ErrOpen))
	wantSame(t, opening, a, c, s.ad, s.p, failed(api.ErrOpen))
}

// P10.1: a Seal with another key, another number or another ad is not opened.
func TestOpenOfOtherSeal(t *testing.T) {
	a, s := scene(t, 10)
	for _, n := range []term.Node{
		{A: s.other, B: s.ad, C: s.p, N: 3},
		{A: 0, B: s.ad, C: s.p, N: 3},
		{A: s.key, B: s.p, C: s.p, N: 3},
		{A: s.key, B: 0, C: s.p, N: 3},
		{A: s.key, B: s.ad, C: s.p, N: 2},
		{A: s.key, B: s.ad, C: s.p, N: 4},
		{A: s.key, B: s.ad, C: s.p, N: 1<<32 + 3},
		{A: s.key, B: s.ad, C: s.p, N: last},
		{A: s.ad, B: s.key, C: s.p, N: 3},
		{A: s.p, B: s.ad, C: s.key, N: 3},
	} {
		n.Kind = term.Seal
		wantSame(t, opening, a, at(s.key, 3), s.ad, make1(t, a, n), failed(api.ErrOpen))
	}
}

// P10.1: what is no Seal is not opened, even if it is like one in everything but its kind.
func TestOpenOfNoSeal(t *testing.T) {
	a, s := scene(t, 20)
	for _, c := range []struct {
		kind int
		n    uint64
		has  cipher.Cipher
		ad   int
	}{
		{term.Empty, 0, at(0, 0), 0},
		{term.Name, 9, at(0, 9), 0},
		{term.Pub, 0, at(s.key, 0), 0},
		{term.Dh, 0, at(s.key, 0), s.ad},
		{term.Odd, 0, at(s.key, 0), s.ad},
		{term.Hash, 0, at(s.key, 0), s.ad},
		{term.Key, 1, at(s.key, 1), s.ad},
		{term.Key, 4, at(s.key, 4), s.ad},
		{term.Key, 4, at(s.key, 4), 0},
		{term.Pair, 0, at(s.key, 0), s.ad},
		{term.Word, 9, at(0, 9), 0},
	} {
		x := make1(t, a, term.Node{Kind: c.kind, N: c.n, A: c.has.Key, B: c.ad})
		wantSame(t, opening, a, c.has, c.ad, x, failed(api.ErrOpen))
	}
	// Nor what a Seal consists of.
	c := cipher.New(s.key)
	c.Seal(a, s.ad, s.p)
	for _, x := range []int{s.key, s.ad, s.p} {
		wantSame(t, opening, a, c, s.ad, x, failed(api.ErrOpen))
	}
}

// P10.2: the new key is the Key 4 of the key and Empty; the number stays, and even the last one may.
func TestRekey(t *testing.T) {
	for _, n := range append([]uint64{last}, numbers...) {
		for key := range 5 {
			a, s := scene(t, 1)
			x := a.Len()
			want := result{at(x, n), 0, api.OK}
			wantNew(t, rekeying, a, at(key, n), s.ad, s.p, want, term.Node{Kind: term.Key, N: 4, A: key})
			// The arena is full now; the same Key is there.
			wantSame(t, rekeying, a, at(key, n), s.ad, s.p, want)
			wantSame(t, rekeying, a, at(x, n), s.ad, s.p, failed(api.ErrFull))
		}
	}
}

// P10.2: other Keys of the key are not taken for its Key 4 with Empty.
func TestRekeyBesideOtherKeys(t *testing.T) {
	a, s := scene(t, 10)
	for n := range uint64(3) {
		make1(t, a, term.Node{Kind: term.Key, N: n + 1, A: s.key})
	}
	make1(t, a, term.Node{Kind: term.Key, N: 4, A: s.key, B: s.key})
	make1(t, a, term.Node{Kind: term.Key, N: 4, B: s.key})
	x := a.Len()
	wantNew(t, rekeying, a, at(s.key, 5), 0, 0, result{at(x, 5), 0, api.OK}, term.Node{Kind: term.Key, N: 4, A: s.key})
	wantNew(t, rekeying, a, at(x, 5), 0, 0, result{at(x+1, 5), 0, api.OK}, term.Node{Kind: term.Key, N: 4, A: x})
}

// P10.2: the errors of Rekey, in their order.
func TestRekeyErrors(t *testing.T) {
	for _, space := range []int{0, 10} {
		a, s := scene(t, space)
		for _, c := range keyless(a) {
			wantSame(t, rekeying, a, c, 0, 0, failed(api.ErrKey))
		}
		for _, bad := range noRefs(a) {
			for _, n := range []uint64{0, 1, last} {
				wantSame(t, rekeying, a, at(bad, n), 0, 0, failed(api.ErrArg))
			}
		}
		if space == 0 {
			wantSame(t, rekeying, a, at(s.key, 0), 0, 0, failed(api.ErrFull))
			wantSame(t, rekeying, a, at(0, last), 0, 0, failed(api.ErrFull))
		}
	}
}

// P10.2: what was sealed before a Rekey is opened by the former cipher alone, and what was sealed after it by the new one.
func TestRekeySeparates(t *testing.T) {
	a, s := scene(t, 10)
	c := at(s.key, 3)
	d, _ := c.Rekey(a)
	_, x, _ := c.Seal(a, s.ad, s.p)
	_, y, _ := d.Seal(a, s.ad, s.p)
	wantSame(t, opening, a, c, s.ad, x, result{at(s.key, 4), s.p, api.OK})
	wantSame(t, opening, a, d, s.ad, y, result{at(d.Key, 4), s.p, api.OK})
	wantSame(t, opening, a, c, s.ad, y, failed(api.ErrOpen))
	wantSame(t, opening, a, d, s.ad, x, failed(api.ErrOpen))
}
