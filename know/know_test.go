package know_test

import (
	"math"
	"math/rand"
	"slices"
	"testing"

	"undertone/api"
	"undertone/know"
	"undertone/term"
)

// missing returns refs that no arena of that many terms has.
func missing(many int) []int {
	return []int{math.MinInt, -1, many, many + 1, api.MaxTerms, 1 << 32, math.MaxInt}
}

// make1 makes a term that must be possible to make.
func make1(t *testing.T, a *term.Arena, n term.Node) int {
	t.Helper()
	ref, e := a.Mk(n)
	if e != api.OK {
		t.Fatalf("Mk(%v): error %d", n, e)
	}
	return ref
}

func name(t *testing.T, a *term.Arena, n uint64) int {
	t.Helper()
	return make1(t, a, term.Node{Kind: term.Name, N: n})
}

func pub(t *testing.T, a *term.Arena, secret int) int {
	t.Helper()
	return make1(t, a, term.Node{Kind: term.Pub, A: secret})
}

func dh(t *testing.T, a *term.Arena, x, y int) int {
	t.Helper()
	if a.Compare(x, y) > 0 {
		x, y = y, x
	}
	return make1(t, a, term.Node{Kind: term.Dh, A: x, B: y})
}

func seal(t *testing.T, a *term.Arena, key, content int) int {
	t.Helper()
	return make1(t, a, term.Node{Kind: term.Seal, A: key, C: content})
}

func pair(t *testing.T, a *term.Arena, x, y int) int {
	t.Helper()
	return make1(t, a, term.Node{Kind: term.Pair, A: x, B: y})
}

func hash(t *testing.T, a *term.Arena, x, y int) int {
	t.Helper()
	return make1(t, a, term.Node{Kind: term.Hash, A: x, B: y})
}

// learn learns terms that must be possible to learn.
func learn(t *testing.T, k *know.Know, refs ...int) {
	t.Helper()
	for _, ref := range refs {
		if e := k.Learn(ref); e != api.OK {
			t.Fatalf("Learn(%d): error %d", ref, e)
		}
	}
}

// knowing returns what is known by someone who learned these terms.
func knowing(t *testing.T, a *term.Arena, refs ...int) *know.Know {
	t.Helper()
	k := know.New(a)
	learn(t, k, refs...)
	return k
}

// sorted returns refs in increasing order, each only once.
func sorted(refs ...int) []int {
	l := slices.Clone(refs)
	slices.Sort(l)
	return slices.Compact(l)
}

// wantKnown looks for exactly these terms in what is known.
func wantKnown(t *testing.T, k *know.Know, refs ...int) {
	t.Helper()
	want := sorted(refs...)
	if got := k.Known(); !slices.Equal(got, want) {
		t.Errorf("Known: %v, not %v", got, want)
	}
	for _, ref := range want {
		if !k.Knows(ref) || !k.Can(ref) {
			t.Errorf("%d is known: Knows says %v, Can says %v", ref, k.Knows(ref), k.Can(ref))
		}
	}
}

// wantCan looks for terms that are derivable.
func wantCan(t *testing.T, k *know.Know, refs ...int) {
	t.Helper()
	for _, ref := range refs {
		if !k.Can(ref) {
			t.Errorf("Can(%d): false", ref)
		}
	}
}

// wantCannot looks for terms that are neither derivable nor known.
func wantCannot(t *testing.T, k *know.Know, refs ...int) {
	t.Helper()
	for _, ref := range refs {
		if k.Can(ref) || k.Knows(ref) {
			t.Errorf("%d: Can says %v, Knows says %v", ref, k.Can(ref), k.Knows(ref))
		}
	}
}

// P3.1: New knows nothing, not even what everybody can make.
func TestNew(t *testing.T) {
	a := term.New(10)
	w := make1(t, a, term.Node{Kind: term.Word, N: 7})
	k := know.New(a)
	if len(k.Known()) != 0 || len(k.Heard()) != 0 || k.Knows(0) || k.Knows(w) {
		t.Errorf("a new one: Known %v, Heard %v", k.Known(), k.Heard())
	}
	wantCan(t, k, 0, w)
}

// P3.1: a ref that does not exist can't be learned, is not known and not derivable.
func TestMissing(t *testing.T) {
	a := term.New(10)
	x := name(t, a, 1)
	k := knowing(t, a, x)
	for _, ref := range missing(a.Len()) {
		if e := k.Learn(ref); e != api.ErrArg {
			t.Errorf("Learn(%d): error %d", ref, e)
		}
		wantCannot(t, k, ref)
		wantKnown(t, k, x)
		if got := k.Heard(); !slices.Equal(got, []int{x}) {
			t.Errorf("Heard after Learn(%d): %v", ref, got)
		}
	}
}

// P3.1: the arena is consulted at each call, so terms count as soon as they are made.
func TestArenaGrows(t *testing.T) {
	a := term.New(10)
	x := name(t, a, 1)
	k := knowing(t, a, x)
	next := a.Len()
	wantCannot(t, k, next)
	if e := k.Learn(next); e != api.ErrArg {
		t.Errorf("Learn(%d): error %d", next, e)
	}
	h := hash(t, a, x, x)
	wantCan(t, k, h)
	learn(t, k, h)
	wantKnown(t, k, x, h)
}

// P3.1: Heard has all that was learned, in order, with repetitions, and nothing else.
func TestHeard(t *testing.T) {
	a := term.New(20)
	x, y := name(t, a, 1), name(t, a, 2)
	p := pair(t, a, x, y)
	s := seal(t, a, y, hash(t, a, x, y))
	k := know.New(a)
	want := []int{s, p, x, 0, x, p, s, s}
	for i, ref := range want {
		learn(t, k, ref)
		if got := k.Heard(); !slices.Equal(got, want[:i+1]) {
			t.Fatalf("Heard: %v, not %v", got, want[:i+1])
		}
	}
	wantKnown(t, k, 0, x, y, p, s, hash(t, a, x, y))
}

// P3.1: what was learned more than once is known as if it was learned once.
func TestLearnTwice(t *testing.T) {
	a := term.New(20)
	key, m, n := name(t, a, 1), name(t, a, 2), name(t, a, 3)
	s := seal(t, a, key, pair(t, a, m, n))
	k := knowing(t, a, s, s)
	wantKnown(t, k, s)
	learn(t, k, s)
	wantKnown(t, k, s)
	learn(t, k, key, key, s)
	wantKnown(t, k, s, key, pair(t, a, m, n), m, n)
}

// P3.1: Known is in increasing order, whatever the order of learning is.
func TestKnownOrder(t *testing.T) {
	a := term.New(200)
	var refs []int
	for i := range 150 {
		refs = append(refs, name(t, a, uint64(i)))
	}
	r := rand.New(rand.NewSource(1))
	r.Shuffle(len(refs), func(i, j int) { refs[i], refs[j] = refs[j], refs[i] })
	k := know.New(a)
	for i, ref := range refs {
		learn(t, k, ref)
		if got, want := k.Known(), sorted(refs[:i+1]...); !slices.Equal(got, want) {
			t.Fatalf("Known: %v, not %v", got, want)
		}
	}
}

// P3.1 (memory): the results are new memory, with their spare capacity.
func TestResultsAreNew(t *testing.T) {
	a := term.New(20)
	var refs []int
	k := know.New(a)
	for i := range 5 {
		refs = append(refs, name(t, a, uint64(i)))
		learn(t, k, refs[i])
	}
	for _, list := range []func() []int{k.Heard, k.Known} {
		one, two := list(), list()
		for _, l := range [][]int{one, two[:len(two):len(two)], one[:cap(one)]} {
			for i := range l {
				l[i] = -7
			}
			l = append(l, -8)
			if got := list(); !slices.Equal(got, refs) {
				t.Fatalf("a result has changed to %v", got)
			}
		}
	}
	more := name(t, a, 99)
	heard, known := append(k.Heard(), -9), append(k.Known(), -9)
	learn(t, k, more)
	if heard[5] != -9 || known[5] != -9 {
		t.Errorf("a result was changed by Learn: %v, %v", heard, known)
	}
}

// P3.1: what is known of a Pair: both parts, of each Pair within as well.
func TestPairs(t *testing.T) {
	a := term.New(20)
	x, y, z := name(t, a, 1), name(t, a, 2), name(t, a, 3)
	left, right := pair(t, a, x, y), pair(t, a, z, 0)
	both := pair(t, a, left, right)
	wantKnown(t, knowing(t, a, left), left, x, y)
	wantKnown(t, knowing(t, a, both), both, left, right, x, y, z, 0)
	// A Pair that can only be made is not known.
	k := knowing(t, a, y, x)
	wantKnown(t, k, x, y)
	wantCan(t, k, left)
	wantCannot(t, k, right, both)
}

// P3.1: nothing is taken out of the other kinds.
func TestNothingElseIsTakenOut(t *testing.T) {
	for kind := term.Pub; kind <= term.Key; kind++ {
		a := term.New(20)
		x, y := name(t, a, 1), name(t, a, 2)
		n := term.Node{Kind: kind, A: x, B: y}
		switch kind {
		case term.Pub:
			n.B = 0
		case term.Key:
			n.N = 1
		}
		ref := make1(t, a, n)
		k := knowing(t, a, ref)
		wantKnown(t, k, ref)
		wantCannot(t, k, x, y)
	}
}

// P3.1: Empty and Words are derivable, and of the Names those of the attacker.
func TestOwnNames(t *testing.T) {
	a := term.New(40)
	k := know.New(a)
	if know.Own != 1<<32 {
		t.Errorf("Own: %d", uint64(know.Own))
	}
	for _, n := range []uint64{1 << 32, 1<<32 + 1, 1<<32 + 1<<20, math.MaxUint64} {
		own := name(t, a, n)
		wantCan(t, k, own, pub(t, a, own), hash(t, a, own, 0), dh(t, a, own, own), dh(t, a, own, name(t, a, know.Own)))
		if k.Knows(own) {
			t.Errorf("the name %d is known", n)
		}
	}
	for _, n := range []uint64{0, 1, math.MaxInt32, 1<<32 - 1} {
		other := name(t, a, n)
		wantCannot(t, k, other, pub(t, a, other), hash(t, a, other, 0))
	}
	for _, n := range []uint64{0, 1, know.Own, math.MaxUint64} {
		wantCan(t, k, make1(t, a, term.Node{Kind: term.Word, N: n}))
	}
	wantKnown(t, k)
}

// P3.1: an Odd, a Hash, a Key, a Seal and a Pair need all of their parts, a Pub its only one.
func TestParts(t *testing.T) {
	kinds := []struct{ kind, parts int }{{term.Pub, 1}, {term.Odd, 2}, {term.Hash, 2}, {term.Key, 2}, {term.Seal, 3}, {term.Pair, 2}}
	for _, c := range kinds {
		a := term.New(20)
		l := []int{name(t, a, 1), name(t, a, 2), name(t, a, 3)}
		n := term.Node{Kind: c.kind}
		for i, part := range []*int{&n.A, &n.B, &n.C}[:c.parts] {
			*part = l[i]
		}
		if c.kind == term.Key {
			n.N = 4
		}
		ref := make1(t, a, n)
		for set := range 1 << c.parts {
			k := know.New(a)
			for i := range c.parts {
				if set>>i&1 == 1 {
					learn(t, k, l[i])
				}
			}
			if all := set == 1<<c.parts-1; k.Can(ref) != all || k.Knows(ref) {
				t.Errorf("kind %d, parts %b: Can %v, Knows %v", c.kind, set, k.Can(ref), k.Knows(ref))
			}
		}
		// A term that is known is derivable without its parts, and is a part itself.
		k := knowing(t, a, ref)
		wantCan(t, k, ref, hash(t, a, ref, 0))
		if c.kind != term.Pair {
			wantCannot(t, k, l[0])
		}
	}
}

// P3.1, P3.2: a Dh needs one secret, and the Pub of the other one: each set of both secrets and both Pubs.
func TestDh(t *testing.T) {
	for set := range 16 {
		a := term.New(20)
		x, y := name(t, a, 1), name(t, a, 2)
		p, q := pub(t, a, x), pub(t, a, y)
		s := dh(t, a, x, y)
		k := know.New(a)
		for i, ref := range []int{x, y, p, q} {
			if set>>i&1 == 1 {
				learn(t, k, ref)
			}
		}
		hasX, hasY, hasP, hasQ := set&1 != 0, set&2 != 0, set&4 != 0, set&8 != 0
		want := hasX && (hasY || hasQ) || hasY && (hasX || hasP)
		if k.Can(s) != want || k.Knows(s) {
			t.Errorf("x %v, y %v, Pub x %v, Pub y %v: Can %v, Knows %v", hasX, hasY, hasP, hasQ, k.Can(s), k.Knows(s))
		}
		learn(t, k, s)
		wantCan(t, k, s)
		if k.Can(x) != hasX || k.Can(y) != hasY {
			t.Error("a Dh tells a secret")
		}
	}
}

// P3.1: a Dh of one secret with itself, of an attacker's name, and of terms that are not names.
func TestDhOfOthers(t *testing.T) {
	a := term.New(40)
	x, own := name(t, a, 1), name(t, a, know.Own)
	p := pub(t, a, x)
	twice, mine := dh(t, a, x, x), dh(t, a, x, own)
	wantCannot(t, know.New(a), twice, mine)
	k := knowing(t, a, p)
	wantCan(t, k, mine)
	wantCannot(t, k, twice)
	k = knowing(t, a, x)
	wantCan(t, k, twice, mine)

	w := make1(t, a, term.Node{Kind: term.Word, N: 1})
	h := hash(t, a, x, w)
	s, u := dh(t, a, w, h), dh(t, a, h, h)
	wantCannot(t, know.New(a), s, u)
	k = knowing(t, a, pub(t, a, h))
	wantCan(t, k, s)
	wantCannot(t, k, u)
	wantCan(t, knowing(t, a, x), s, u)
}

// P3.1: the Pub of a Dh may be made after the Dh, or not at all.
func TestDhBeforePub(t *testing.T) {
	a := term.New(20)
	x, y, m := name(t, a, 1), name(t, a, 2), name(t, a, 3)
	s := dh(t, a, x, y)
	sealed := seal(t, a, hash(t, a, s, 0), m)
	k := knowing(t, a, sealed, x)
	wantCannot(t, k, s, y, m)
	q := pub(t, a, y)
	wantCannot(t, k, s, q, m)
	learn(t, k, q)
	wantCan(t, k, s)
	wantCannot(t, k, y)
	wantKnown(t, k, sealed, x, q, m)

	b := term.New(20)
	x, y = name(t, b, 1), name(t, b, 2)
	wantCan(t, knowing(t, b, x, y), dh(t, b, x, y))
}

// P3.1, P3.2, example 1: a Seal that is learned before its key, and after it.
func TestSeal(t *testing.T) {
	a := term.New(20)
	key, data, m := name(t, a, 1), name(t, a, 2), name(t, a, 3)
	s := make1(t, a, term.Node{Kind: term.Seal, N: 5, A: key, B: data, C: m})
	k := knowing(t, a, s)
	wantKnown(t, k, s)
	wantCannot(t, k, key, data, m)
	learn(t, k, key)
	wantKnown(t, k, s, key, m)
	wantCannot(t, k, data)

	wantKnown(t, knowing(t, a, key, s), s, key, m)
	k = knowing(t, a, key)
	wantCannot(t, k, s, m)
	// The content does not open what it is sealed with.
	k = knowing(t, a, m, data, s)
	wantKnown(t, k, m, data, s)
	wantCannot(t, k, key)
}

// P3.1: a key need not be known; it is enough that it is derivable.
func TestSealWithDerivableKey(t *testing.T) {
	a := term.New(40)
	x, y, own, m := name(t, a, 1), name(t, a, 2), name(t, a, know.Own), name(t, a, 3)
	q := pub(t, a, y)
	composed := make1(t, a, term.Node{Kind: term.Key, N: 2, A: hash(t, a, x, 0), B: dh(t, a, x, y)})
	s := seal(t, a, composed, m)
	k := knowing(t, a, s, x)
	wantCannot(t, k, composed, m)
	learn(t, k, q)
	wantKnown(t, k, s, x, q, m)
	wantCan(t, k, composed)
	wantKnown(t, knowing(t, a, q, x, s), s, x, q, m)
	for _, key := range []int{0, own, pub(t, a, own), make1(t, a, term.Node{Kind: term.Word, N: 1})} {
		s := seal(t, a, key, m)
		wantKnown(t, knowing(t, a, s), s, m)
	}
}

// P3.1: a Seal that can only be made is not known, and nothing is added for it.
func TestSealThatCanBeMade(t *testing.T) {
	a := term.New(20)
	key, x, y := name(t, a, 1), name(t, a, 2), name(t, a, 3)
	p := pair(t, a, x, y)
	s := seal(t, a, key, p)
	k := knowing(t, a, key, x, y)
	wantCan(t, k, s, p)
	wantKnown(t, k, key, x, y)
	learn(t, k, s)
	wantKnown(t, k, key, x, y, s, p)
}

// P3.1: what is taken out is taken apart too, until nothing changes.
func TestUntilNothingChanges(t *testing.T) {
	a := term.New(40)
	k1, k2, k3, m, n := name(t, a, 1), name(t, a, 2), name(t, a, 3), name(t, a, 4), name(t, a, 5)
	inner := seal(t, a, hash(t, a, k2, k3), pair(t, a, m, n))
	middle := seal(t, a, k2, k3)
	outer := seal(t, a, k1, pair(t, a, inner, pair(t, a, k2, middle)))
	all := []int{outer, k1, pair(t, a, inner, pair(t, a, k2, middle)), inner, pair(t, a, k2, middle), k2, middle, k3, pair(t, a, m, n), m, n}
	wantKnown(t, knowing(t, a, outer, k1), all...)
	wantKnown(t, knowing(t, a, k1, outer), all...)
	wantKnown(t, knowing(t, a, outer, k2, k3), outer, k2, k3)
}

// P3.1: Seals that contain each other's keys open only from outside.
func TestRing(t *testing.T) {
	a := term.New(20)
	x, y := name(t, a, 1), name(t, a, 2)
	s, u, v := seal(t, a, x, y), seal(t, a, y, x), seal(t, a, x, x)
	k := knowing(t, a, s, u, v)
	wantKnown(t, k, s, u, v)
	wantCannot(t, k, x, y)
	wantKnown(t, knowing(t, a, s, u, v, x), s, u, v, x, y)
	wantKnown(t, knowing(t, a, s, u, v, y), s, u, v, x, y)
}

// P3.1: Seals that open each other in a row, in whatever order they were learned.
func TestRowOfSeals(t *testing.T) {
	const many = 10000
	a := term.New(api.MaxTerms)
	keys := []int{name(t, a, 0)}
	var seals []int
	for i := range many {
		keys = append(keys, name(t, a, uint64(i+1)))
		seals = append(seals, seal(t, a, hash(t, a, keys[i], 0), keys[i+1]))
	}
	r := rand.New(rand.NewSource(2))
	r.Shuffle(many, func(i, j int) { seals[i], seals[j] = seals[j], seals[i] })
	together := 0
	for _, s := range seals {
		together = pair(t, a, s, together)
	}
	k := knowing(t, a, together)
	wantCannot(t, k, keys[0], keys[1], keys[many])
	learn(t, k, keys[0])
	for _, key := range keys {
		if !k.Knows(key) {
			t.Fatalf("the key %d is not known", key)
		}
	}
}

// P3.1: terms that are too large to be walked unfolded, or very deep.
func TestLargeTerms(t *testing.T) {
	kinds := []term.Node{{Kind: term.Hash}, {Kind: term.Key, N: 1}, {Kind: term.Dh}, {Kind: term.Odd}, {Kind: term.Pair}}
	for _, n := range kinds {
		a := term.New(api.MaxTerms)
		x, m := name(t, a, 1), name(t, a, 2)
		top := x
		for range 20000 {
			n.A, n.B = top, top
			top = make1(t, a, n)
		}
		s := seal(t, a, top, m)
		k := knowing(t, a, s)
		wantCannot(t, k, top, m)
		learn(t, k, x)
		wantCan(t, k, top)
		wantKnown(t, k, s, x, m)
		k = knowing(t, a, top)
		if n.Kind == term.Pair && len(k.Known()) != 20001 || n.Kind != term.Pair && len(k.Known()) != 1 {
			t.Errorf("kind %d: %d terms are known", n.Kind, len(k.Known()))
		}
	}
}

// P3.1: Can, Knows, Heard and Known change nothing.
func TestQueriesChangeNothing(t *testing.T) {
	a := mixed(rand.New(rand.NewSource(3)), 60)
	k := knowing(t, a, 5, 9, 14)
	known, heard, many := k.Known(), k.Heard(), a.Len()
	for ref := -2; ref < many+2; ref++ {
		first := k.Can(ref)
		if k.Can(ref) != first {
			t.Errorf("Can(%d): another result", ref)
		}
	}
	if !slices.Equal(k.Known(), known) || !slices.Equal(k.Heard(), heard) || a.Len() != many {
		t.Error("a query has changed something")
	}
}

// P3.1: a copy knows the same, and neither changes the other one.
func TestCopy(t *testing.T) {
	a := term.New(40)
	key, x, y, m := name(t, a, 1), name(t, a, 2), name(t, a, 3), name(t, a, 4)
	s := seal(t, a, key, m)
	k := knowing(t, a, s, x, s)
	c := k.Copy(a.Copy())
	wantKnown(t, c, s, x)
	if got := c.Heard(); !slices.Equal(got, []int{s, x, s}) {
		t.Errorf("Heard of a copy: %v", got)
	}
	learn(t, c, key)
	wantKnown(t, c, s, x, key, m)
	wantKnown(t, k, s, x)
	learn(t, k, y)
	wantKnown(t, c, s, x, key, m)
	wantKnown(t, k, s, x, y)
	if !slices.Equal(k.Heard(), []int{s, x, s, y}) || !slices.Equal(c.Heard(), []int{s, x, s, key}) {
		t.Errorf("Heard: %v, and of the copy %v", k.Heard(), c.Heard())
	}
	empty := know.New(a).Copy(a)
	learn(t, empty, y)
	wantKnown(t, empty, y)
}

// P3.1: a copy refers to the other arena, the original one to its own.
func TestCopyArena(t *testing.T) {
	a := term.New(40)
	x := name(t, a, 1)
	k := knowing(t, a, x)
	b := a.Copy()
	c := k.Copy(b)
	next := a.Len()
	hidden := name(t, a, 2)
	made := hash(t, b, x, x)
	if hidden != next || made != next {
		t.Fatal("the next ref is not the same in both arenas")
	}
	wantCan(t, c, next)
	wantCannot(t, k, next)
	learn(t, c, next)
	wantKnown(t, c, x, next)
	wantKnown(t, k, x)
	hash(t, b, made, x)
	if e := c.Learn(next + 1); e != api.OK {
		t.Errorf("Learn in the copy: error %d", e)
	}
	if e := k.Learn(next + 1); e != api.ErrArg {
		t.Errorf("Learn of what only the copy has: error %d", e)
	}
}

// P3.1 (termination): nothing panics with an arena that is no copy of the original one.
func TestForeignArena(t *testing.T) {
	r := rand.New(rand.NewSource(4))
	a := mixed(r, 60)
	for _, b := range []*term.Arena{term.New(1), mixed(r, 30), mixed(r, 90)} {
		k := knowing(t, a, 3, 8, 21, 34, 59).Copy(b)
		for ref := -1; ref < 91; ref++ {
			k.Can(ref)
			if e := k.Learn(ref); (e == api.OK) != b.Has(ref) {
				t.Errorf("Learn(%d) in an arena of %d: error %d", ref, b.Len(), e)
			}
		}
	}
}

// mixed returns an arena of terms of all kinds.
func mixed(r *rand.Rand, many int) *term.Arena {
	a := term.New(many)
	for tries := 0; a.Len() < many && tries < 50*many; tries++ {
		pick := func() int { return r.Intn(a.Len()) }
		switch n := (term.Node{Kind: r.Intn(term.Word + 1)}); n.Kind {
		case term.Name:
			n.N = uint64(r.Intn(many/4 + 1))
			if r.Intn(8) == 0 {
				n.N += know.Own
			}
			a.Mk(n)
		case term.Word:
			n.N = uint64(r.Intn(2))
			a.Mk(n)
		case term.Pub:
			n.A = pick()
			a.Mk(n)
		case term.Dh:
			n.A, n.B = pick(), pick()
			a.Mk(n)
		case term.Seal:
			n.N, n.A, n.B, n.C = uint64(r.Intn(2)), pick(), pick(), pick()
			a.Mk(n)
			n.B = 0
			a.Mk(n)
		case term.Key:
			n.N, n.A, n.B = uint64(1+r.Intn(4)), pick(), pick()
			a.Mk(n)
		default:
			n.A, n.B = pick(), pick()
			a.Mk(n)
		}
	}
	return a
}

// derivable is what the chapter's definition says, term by term.
func derivable(a *term.Arena, known []bool) []bool {
	can := make([]bool, a.Len())
	for ref := range can {
		n, _ := a.Get(ref)
		public := func(secret int) bool {
			p, is := a.Find(term.Node{Kind: term.Pub, A: secret})
			return is && known[p] || can[secret]
		}
		can[ref] = known[ref]
		switch n.Kind {
		case term.Empty, term.Word:
			can[ref] = true
		case term.Name:
			can[ref] = can[ref] || n.N >= 1<<32
		case term.Pub:
			can[ref] = can[ref] || can[n.A]
		case term.Dh:
			can[ref] = can[ref] || can[n.A] && public(n.B) || can[n.B] && public(n.A)
		case term.Odd, term.Hash, term.Key, term.Pair:
			can[ref] = can[ref] || can[n.A] && can[n.B]
		case term.Seal:
			can[ref] = can[ref] || can[n.A] && can[n.B] && can[n.C]
		}
	}
	return can
}

// saturate adds what the chapter's definition says until nothing changes.
func saturate(a *term.Arena, known []bool) {
	for changed := true; changed; {
		changed = false
		can := derivable(a, known)
		add := func(ref int) {
			changed = changed || !known[ref]
			known[ref] = true
		}
		for ref := range known {
			n, _ := a.Get(ref)
			if known[ref] && n.Kind == term.Pair {
				add(n.A)
				add(n.B)
			}
			if known[ref] && n.Kind == term.Seal && can[n.A] {
				add(n.C)
			}
		}
	}
}

// P3.1, P3.2: random terms, against the definition; learning more never makes less derivable.
func TestAgainstDefinition(t *testing.T) {
	for seed := range int64(400) {
		r := rand.New(rand.NewSource(seed))
		a := mixed(r, 10+r.Intn(80))
		k := know.New(a)
		known := make([]bool, a.Len())
		before := derivable(a, known)
		for range 1 + r.Intn(12) {
			ref := r.Intn(a.Len())
			learn(t, k, ref)
			known[ref] = true
			saturate(a, known)
			can := derivable(a, known)
			for x := range known {
				if k.Knows(x) != known[x] || k.Can(x) != can[x] {
					t.Fatalf("seed %d, heard %v: %d: Knows %v, Can %v, not %v, %v", seed, k.Heard(), x, k.Knows(x), k.Can(x), known[x], can[x])
				}
				if before[x] && !k.Can(x) {
					t.Fatalf("seed %d, heard %v: %d was derivable", seed, k.Heard(), x)
				}
			}
			before = can
		}
	}
}

// P3.2: what is known does not depend on the order of learning, nor on repetitions, nor on copies between.
func TestOrderOfLearning(t *testing.T) {
	for seed := range int64(200) {
		r := rand.New(rand.NewSource(seed))
		a := mixed(r, 60)
		var refs []int
		for range 12 {
			refs = append(refs, r.Intn(a.Len()))
		}
		one := knowing(t, a, refs...)
		r.Shuffle(len(refs), func(i, j int) { refs[i], refs[j] = refs[j], refs[i] })
		two := know.New(a)
		for _, ref := range refs {
			two = two.Copy(a.Copy())
			learn(t, two, ref, ref)
		}
		if !slices.Equal(one.Known(), two.Known()) {
			t.Fatalf("seed %d: %v and %v", seed, one.Known(), two.Known())
		}
	}
}

// P3.2: what a Seal contains is derivable if the Seal is known and its key is derivable; a Dh of two
// names that are not the attacker's exactly if it is known, or one name is derivable and the other's Pub public.
func TestConsequences(t *testing.T) {
	for seed := range int64(200) {
		r := rand.New(rand.NewSource(seed))
		a := mixed(r, 80)
		k := know.New(a)
		for range 10 {
			learn(t, k, r.Intn(a.Len()))
		}
		public := func(secret int) bool {
			p, is := a.Find(term.Node{Kind: term.Pub, A: secret})
			return is && k.Knows(p) || k.Can(secret)
		}
		foreign := func(ref int) bool {
			n, _ := a.Get(ref)
			return n.Kind == term.Name && n.N < know.Own
		}
		for ref := range a.Len() {
			n, _ := a.Get(ref)
			if n.Kind == term.Seal && k.Knows(ref) && k.Can(n.A) && !(k.Knows(n.C) && k.Can(n.C)) {
				t.Fatalf("seed %d: the content of %d is not derivable", seed, ref)
			}
			if n.Kind == term.Dh && foreign(n.A) && foreign(n.B) {
				want := k.Knows(ref) || k.Can(n.A) && public(n.B) || k.Can(n.B) && public(n.A)
				if k.Can(ref) != want {
					t.Fatalf("seed %d: the Dh %d: Can %v", seed, ref, k.Can(ref))
				}
			}
		}
	}
}
