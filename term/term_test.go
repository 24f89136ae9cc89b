package term_test

import (
	"cmp"
	"math"
	"math/rand"
	"slices"
	"testing"

	"undertone/api"
	"undertone/term"
)

const (
	smallest = math.MinInt
	largest  = math.MaxInt
)

// make1 makes a term that must be possible to make.
func make1(t *testing.T, a *term.Arena, n term.Node) int {
	t.Helper()
	ref, e := a.Mk(n)
	if e != api.OK {
		t.Fatalf("Mk(%v): error %d", n, e)
	}
	return ref
}

func name(t *testing.T, a *term.Arena, n uint64) int {
	t.Helper()
	return make1(t, a, term.Node{Kind: term.Name, N: n})
}

func pub(t *testing.T, a *term.Arena, secret int) int {
	t.Helper()
	return make1(t, a, term.Node{Kind: term.Pub, A: secret})
}

func word(t *testing.T, a *term.Arena, n uint64) int {
	t.Helper()
	return make1(t, a, term.Node{Kind: term.Word, N: n})
}

func share(t *testing.T, a *term.Arena, x, y int) int {
	t.Helper()
	ref, e := a.Share(x, y)
	if e != api.OK {
		t.Fatalf("Share(%d, %d): error %d", x, y, e)
	}
	return ref
}

// nodes returns all that an arena holds.
func nodes(t *testing.T, a *term.Arena) []term.Node {
	t.Helper()
	var l []term.Node
	for ref := range a.Len() {
		n, is := a.Get(ref)
		if !is {
			t.Fatalf("Get(%d): none of %d terms", ref, a.Len())
		}
		l = append(l, n)
	}
	return l
}

// fill makes Words until the arena has no space.
func fill(t *testing.T, a *term.Arena) {
	t.Helper()
	for n := range uint64(2 * api.MaxTerms) {
		switch _, e := a.Mk(term.Node{Kind: term.Word, N: n}); e {
		case api.OK:
		case api.ErrFull:
			return
		default:
			t.Fatalf("Mk of Word %d: error %d", n, e)
		}
	}
	t.Fatal("the arena never fills")
}

// mixed returns an arena with terms of all kinds, made in a random order.
func mixed(r *rand.Rand, size int) *term.Arena {
	a := term.New(size)
	for a.Len() < size {
		n := term.Node{Kind: r.Intn(10), N: uint64(r.Intn(5))}
		if r.Intn(10) == 0 {
			n.N = math.MaxUint64 - n.N
		}
		for _, part := range []*int{&n.A, &n.B, &n.C} {
			if r.Intn(3) > 0 {
				*part = r.Intn(a.Len())
			}
		}
		if r.Intn(3) == 0 {
			a.Share(n.A, n.B)
		} else {
			a.Mk(n)
		}
	}
	return a
}

// P1.1: the limits of New, and what a new arena contains.
func TestNewLimits(t *testing.T) {
	for _, c := range []struct{ limit, room int }{
		{smallest, 1}, {-1, 1}, {0, 1}, {1, 1}, {2, 2}, {17, 17},
		{1<<16 - 1, 1<<16 - 1}, {1 << 16, 1 << 16}, {1<<16 + 1, 1 << 16}, {largest, 1 << 16},
	} {
		a := term.New(c.limit)
		if n, is := a.Get(0); a.Len() != 1 || !is || n != (term.Node{}) {
			t.Errorf("New(%d): %d terms, the first one %v %v", c.limit, a.Len(), n, is)
		}
		fill(t, a)
		if a.Len() != c.room {
			t.Errorf("New(%d): room for %d terms, not for %d", c.limit, a.Len(), c.room)
		}
	}
}

// P1.1: Len, Get and Has.
func TestGetAndHas(t *testing.T) {
	a := term.New(10)
	x := name(t, a, 5)
	p := pub(t, a, x)
	if x != 1 || p != 2 || a.Len() != 3 {
		t.Fatalf("refs %d %d of %d terms", x, p, a.Len())
	}
	if n, is := a.Get(p); !is || n != (term.Node{Kind: term.Pub, A: x}) {
		t.Errorf("Get(%d): %v %v", p, n, is)
	}
	for _, ref := range []int{smallest, -1, 3, 10, 1 << 16, 1 << 32, largest} {
		if n, is := a.Get(ref); is || n != (term.Node{}) {
			t.Errorf("Get(%d): %v %v", ref, n, is)
		}
		if a.Has(ref) || a.Has(ref, x) || a.Has(0, x, ref, p) || a.Has(x, p, ref) {
			t.Errorf("Has %d", ref)
		}
	}
	if !a.Has() || !a.Has(nil...) || !a.Has([]int{}...) || !a.Has(0) || !a.Has(p, x, 0, p) {
		t.Error("Has: not what belongs to the arena")
	}
}

// P1.1: Find takes exactly a node's term, and makes nothing.
func TestFind(t *testing.T) {
	a := term.New(20)
	x, y := name(t, a, 1), name(t, a, 2)
	s := share(t, a, y, pub(t, a, x))
	z := make1(t, a, term.Node{Kind: term.Seal, N: 3, A: x, B: y, C: s})
	for ref, n := range nodes(t, a) {
		if found, is := a.Find(n); !is || found != ref {
			t.Errorf("Find(%v): %d %v, not %d", n, found, is, ref)
		}
	}
	before := a.Len()
	for _, n := range []term.Node{
		{Kind: term.Name, N: 3},
		{Kind: term.Name, N: 1, A: x},
		{Kind: term.Word, N: 1},
		{Kind: term.Pub, A: y},
		{Kind: term.Pub, A: z + 1},
		{Kind: term.Dh, A: y, B: x},
		{Kind: term.Seal, N: 4, A: x, B: y, C: s},
		{Kind: term.Seal, N: 3, A: x, B: y, C: x},
		{Kind: -1}, {Kind: 10}, {N: 1}, {A: -1}, {C: 1},
	} {
		if ref, is := a.Find(n); is || ref != 0 {
			t.Errorf("Find(%v): %d %v", n, ref, is)
		}
	}
	if a.Len() != before {
		t.Error("Find made a term")
	}
}

// P1.1: a copy is independent, and has the same limit.
func TestCopy(t *testing.T) {
	a := term.New(5)
	x := name(t, a, 1)
	b := a.Copy()
	if !slices.Equal(nodes(t, a), nodes(t, b)) {
		t.Fatal("the copy holds other terms")
	}
	inA, inB := name(t, a, 2), word(t, b, 2)
	if inA != 2 || inB != 2 {
		t.Errorf("refs %d and %d of the next terms", inA, inB)
	}
	if _, is := a.Find(term.Node{Kind: term.Word, N: 2}); is {
		t.Error("what the copy made is in the arena")
	}
	if _, is := b.Find(term.Node{Kind: term.Name, N: 2}); is {
		t.Error("what the arena made is in the copy")
	}
	if n, _ := a.Get(2); n.Kind != term.Name {
		t.Error("the copy changed the arena's term")
	}
	if n, _ := b.Get(2); n.Kind != term.Word {
		t.Error("the arena changed the copy's term")
	}
	fill(t, b)
	if a.Len() != 3 || b.Len() != 5 {
		t.Errorf("%d terms, and %d in the full copy", a.Len(), b.Len())
	}
	if pub(t, a, x) != 3 {
		t.Error("the arena has no space when its copy is full")
	}
}

// P1.1: at no size do an arena and its copy share the space behind their terms.
func TestCopySharesNothing(t *testing.T) {
	a := term.New(api.MaxTerms)
	for range 100 {
		b := a.Copy()
		before := nodes(t, a)
		x, y := name(t, a, uint64(a.Len())), word(t, b, uint64(b.Len()))
		inA, _ := a.Get(x)
		inB, _ := b.Get(y)
		if inA.Kind != term.Name || inB.Kind != term.Word {
			t.Fatalf("at %d terms: %v and %v", len(before), inA, inB)
		}
		if !slices.Equal(nodes(t, a)[:x], before) || !slices.Equal(nodes(t, b)[:y], before) {
			t.Fatalf("at %d terms: earlier terms changed", len(before))
		}
	}
}

// reference compares as the chapter says it, part by part.
func reference(a *term.Arena, x, y int) int {
	if x == y {
		return 0
	}
	m, hasX := a.Get(x)
	n, hasY := a.Get(y)
	switch {
	case !hasX && !hasY:
		return cmp.Compare(x, y)
	case !hasX:
		return 1
	case !hasY:
		return -1
	}
	if c := cmp.Compare(m.Kind, n.Kind); c != 0 {
		return c
	}
	if c := cmp.Compare(m.N, n.N); c != 0 {
		return c
	}
	if c := reference(a, m.A, n.A); c != 0 {
		return c
	}
	if c := reference(a, m.B, n.B); c != 0 {
		return c
	}
	return reference(a, m.C, n.C)
}

// P1.2: kinds come first, then numbers, then parts in turn.
func TestCompareOrder(t *testing.T) {
	a := term.New(40)
	w := word(t, a, 0)
	x9, x4 := name(t, a, 9), name(t, a, 4)
	huge := name(t, a, math.MaxUint64)
	p9, p4 := pub(t, a, x9), pub(t, a, x4)
	seal := func(n uint64, x, y, z int) int {
		return make1(t, a, term.Node{Kind: term.Seal, N: n, A: x, B: y, C: z})
	}
	rising := []int{
		0, x4, x9, huge, p4, p9,
		share(t, a, x9, p4), share(t, a, x4, x9),
		make1(t, a, term.Node{Kind: term.Hash, A: x4, B: w}),
		make1(t, a, term.Node{Kind: term.Hash, A: x9}),
		make1(t, a, term.Node{Kind: term.Key, N: 1, A: x9, B: x9}),
		make1(t, a, term.Node{Kind: term.Key, N: 2, A: x4, B: x4}),
		seal(0, w, w, w), seal(1, x4, x4, x4), seal(1, x4, x4, x9), seal(1, x4, x9, x4), seal(1, x9, x4, x4),
		seal(math.MaxUint64, 0, 0, 0),
		make1(t, a, term.Node{Kind: term.Pair}), w, word(t, a, 1), word(t, a, 1<<63),
		smallest, -2, -1, a.Len(), a.Len() + 1, largest,
	}
	for i, x := range rising {
		for j, y := range rising {
			if c := a.Compare(x, y); c != cmp.Compare(i, j) {
				t.Errorf("Compare(%d, %d): %d, not %d", x, y, c, cmp.Compare(i, j))
			}
		}
	}
}

// P1.2: all pairs of many terms, whatever order they were made in.
func TestCompareAllPairs(t *testing.T) {
	r := rand.New(rand.NewSource(1))
	for range 20 {
		a := mixed(r, 120)
		for x := -2; x < a.Len()+2; x++ {
			for y := -2; y < a.Len()+2; y++ {
				if c := a.Compare(x, y); c != reference(a, x, y) {
					t.Fatalf("Compare(%d, %d): %d", x, y, c)
				}
			}
		}
	}
}

// P1.2: the order does not hang on refs, only on terms.
func TestCompareHangsOnTermsAlone(t *testing.T) {
	a, b := term.New(10), term.New(10)
	x, y := name(t, a, 1), name(t, a, 2)
	p, q := pub(t, a, x), pub(t, a, y)
	y2, x2 := name(t, b, 2), name(t, b, 1)
	q2, p2 := pub(t, b, y2), pub(t, b, x2)
	if a.Compare(p, q) != -1 || b.Compare(p2, q2) != -1 || a.Compare(q, p) != 1 || b.Compare(q2, p2) != 1 {
		t.Error("Compare of the same terms in two arenas")
	}
}

// tower doubles a term often: unfolded, it is too large to be walked.
func tower(t *testing.T, a *term.Arena, ref, high int) int {
	t.Helper()
	for range high {
		ref = make1(t, a, term.Node{Kind: term.Pair, A: ref, B: ref})
	}
	return ref
}

// P1.2, and termination: terms as deep as an arena allows.
func TestCompareDeepTerms(t *testing.T) {
	a := term.New(api.MaxTerms)
	x, y := word(t, a, 1), word(t, a, 2)
	p, q := tower(t, a, x, 30000), tower(t, a, y, 30000)
	if a.Compare(p, q) != -1 || a.Compare(q, p) != 1 || a.Compare(p, p) != 0 {
		t.Error("Compare of deep terms")
	}
	// One ends in a Word where the other one still has a Pair, which is below it.
	if a.Compare(tower(t, a, x, 29999), q) != 1 || a.Compare(p, tower(t, a, y, 29999)) != -1 {
		t.Error("Compare of deep terms of unequal depths")
	}
}

// parts returns how many parts the chapter's table gives a kind.
func parts(kind int) int {
	return [...]int{0, 0, 1, 2, 2, 2, 2, 3, 2, 0}[kind]
}

// P1.2: every kind has exactly the numbers and the parts of the table.
func TestMkKeepsTheTable(t *testing.T) {
	free := []int{term.Name, term.Seal, term.Word}
	for kind := range 10 {
		for _, n := range []uint64{0, 1, 2, 3, 4, 5, 1 << 32, math.MaxUint64} {
			right := n == 0
			if kind == term.Key {
				right = n >= 1 && n <= 4
			}
			checkParts(t, kind, n, right || slices.Contains(free, kind))
		}
	}
}

// checkParts tries all choices of parts for a kind and a number.
func checkParts(t *testing.T, kind int, n uint64, right bool) {
	t.Helper()
	for bits := range 8 {
		a := term.New(10)
		x := name(t, a, 7)
		part := func(i int) int { return (bits >> i & 1) * x }
		node := term.Node{Kind: kind, N: n, A: part(0), B: part(1), C: part(2)}
		want := api.ErrArg
		if right && bits < 1<<parts(kind) {
			want = api.OK
		}
		if kind == term.Dh && node.A > node.B {
			want = api.ErrArg // Empty is below a Name
		}
		before := a.Len()
		ref, e := a.Mk(node)
		if e != want {
			t.Errorf("Mk(%v): error %d, not %d", node, e, want)
		}
		if e != api.OK && (ref != 0 || a.Len() != before) {
			t.Errorf("Mk(%v): error %d, but ref %d of %d terms", node, e, ref, a.Len())
		}
		if got, is := a.Get(ref); e == api.OK && (!is || got != node) {
			t.Errorf("Mk(%v) made %v", node, got)
		}
	}
}

// P1.2: a kind that does not exist, and parts that do not.
func TestMkInvalid(t *testing.T) {
	a := term.New(10)
	x := name(t, a, 7)
	for _, kind := range []int{smallest, -1, 10, 11, 1 << 32, largest} {
		if ref, e := a.Mk(term.Node{Kind: kind}); e != api.ErrArg || ref != 0 {
			t.Errorf("Mk of kind %d: %d, error %d", kind, ref, e)
		}
	}
	for _, ref := range []int{smallest, -1, 2, 3, 1 << 16, 1 << 32, largest} {
		for kind := range 10 {
			for _, n := range []term.Node{{A: ref, B: x, C: x}, {A: x, B: ref, C: x}, {A: x, B: x, C: ref}, {A: ref}, {B: ref}, {C: ref}} {
				n.Kind = kind
				if kind == term.Key {
					n.N = 1
				}
				if got, e := a.Mk(n); e != api.ErrArg || got != 0 {
					t.Errorf("Mk(%v): %d, error %d", n, got, e)
				}
			}
		}
	}
	if a.Len() != 2 {
		t.Errorf("%d terms after errors", a.Len())
	}
}

// P1.2: the parts of a Dh are in the order of Compare, not of refs.
func TestMkDhOrder(t *testing.T) {
	a := term.New(20)
	x9, x4 := name(t, a, 9), name(t, a, 4)
	h := make1(t, a, term.Node{Kind: term.Hash, A: x9, B: x4})
	w := word(t, a, 0)
	p := pub(t, a, x4)
	for _, c := range []struct {
		a, b int
		want api.Errno
	}{
		{x9, x4, api.ErrArg}, {x4, x9, api.OK}, {x4, x4, api.OK}, {x9, x9, api.OK}, {0, 0, api.OK},
		{h, x4, api.ErrArg}, {x4, h, api.OK}, {w, h, api.ErrArg}, {h, w, api.OK},
		{h, p, api.ErrArg}, {p, h, api.OK}, {x4, 0, api.ErrArg}, {0, x4, api.OK},
	} {
		if _, e := a.Mk(term.Node{Kind: term.Dh, A: c.a, B: c.b}); e != c.want {
			t.Errorf("Mk of the Dh of %d and %d: error %d, not %d", c.a, c.b, e, c.want)
		}
	}
}

// P1.2: the B of an Odd is no public key; everything else may be.
func TestMkOddOfPub(t *testing.T) {
	a := term.New(20)
	x := name(t, a, 1)
	p := pub(t, a, x)
	pair := make1(t, a, term.Node{Kind: term.Pair, A: p, B: p})
	for _, b := range []int{0, x, pair} {
		make1(t, a, term.Node{Kind: term.Odd, A: p, B: b})
	}
	if ref, e := a.Mk(term.Node{Kind: term.Odd, A: x, B: p}); e != api.ErrArg || ref != 0 {
		t.Errorf("Mk of an Odd of a Pub: %d, error %d", ref, e)
	}
}

// P1.2: a full arena. What is invalid comes first, then what is held.
func TestMkFull(t *testing.T) {
	a := term.New(4)
	x := name(t, a, 1)
	p := pub(t, a, x)
	w := word(t, a, 1)
	before := nodes(t, a)
	for _, c := range []struct {
		node term.Node
		ref  int
		want api.Errno
	}{
		{term.Node{}, 0, api.OK},
		{term.Node{Kind: term.Name, N: 1}, x, api.OK},
		{term.Node{Kind: term.Pub, A: x}, p, api.OK},
		{term.Node{Kind: term.Word, N: 1}, w, api.OK},
		{term.Node{Kind: term.Word, N: 2}, 0, api.ErrFull},
		{term.Node{Kind: term.Pub, A: p}, 0, api.ErrFull},
		{term.Node{Kind: term.Pub, A: 4}, 0, api.ErrArg},
		{term.Node{Kind: term.Dh, A: p, B: x}, 0, api.ErrArg},
		{term.Node{Kind: term.Key, A: x, B: x}, 0, api.ErrArg},
		{term.Node{Kind: 10}, 0, api.ErrArg},
	} {
		if ref, e := a.Mk(c.node); ref != c.ref || e != c.want {
			t.Errorf("Mk(%v): %d, error %d, not %d, error %d", c.node, ref, e, c.ref, c.want)
		}
	}
	if !slices.Equal(nodes(t, a), before) {
		t.Error("a full arena changed")
	}
	if _, is := a.Find(term.Node{Kind: term.Word, N: 2}); is {
		t.Error("what had no space is found")
	}
}

// P1.2: a new term gets the next number; one that is held keeps its own.
func TestMkNumbers(t *testing.T) {
	a := term.New(100)
	r := rand.New(rand.NewSource(2))
	for range 2000 {
		n := term.Node{Kind: r.Intn(12) - 1, N: uint64(r.Intn(6)), A: r.Intn(12) - 1, B: r.Intn(12) - 1, C: r.Intn(12) - 1}
		held, is := a.Find(n)
		next := a.Len()
		ref, e := a.Mk(n)
		switch {
		case e != api.OK && (ref != 0 || a.Len() != next):
			t.Fatalf("Mk(%v): error %d, but ref %d of %d terms", n, e, ref, a.Len())
		case e == api.OK && is && (ref != held || a.Len() != next):
			t.Fatalf("Mk(%v) again: %d, not %d", n, ref, held)
		case e == api.OK && !is && (ref != next || a.Len() != next+1):
			t.Fatalf("Mk(%v): %d, not %d", n, ref, next)
		}
	}
}

// P1.3: a Share with a Pub is a Dh, in the order that the table requires.
func TestShareDh(t *testing.T) {
	a := term.New(30)
	x9, x4 := name(t, a, 9), name(t, a, 4)
	h := make1(t, a, term.Node{Kind: term.Hash, A: x9, B: x4})
	for _, c := range []struct{ x, z, first, second int }{
		{x9, x4, x4, x9}, {x4, x9, x4, x9}, {x4, x4, x4, x4}, {h, x9, x9, h}, {x9, h, x9, h}, {x9, 0, 0, x9},
	} {
		ref := share(t, a, c.x, pub(t, a, c.z))
		want := term.Node{Kind: term.Dh, A: c.first, B: c.second}
		if n, _ := a.Get(ref); n != want {
			t.Errorf("Share of %d and the Pub of %d: %v, not %v", c.x, c.z, n, want)
		}
	}
}

// P1.3: a Share with anything but a Pub is an Odd, in the given order.
func TestShareOdd(t *testing.T) {
	a := term.New(30)
	x9, x4 := name(t, a, 9), name(t, a, 4)
	p := pub(t, a, x4)
	pair := make1(t, a, term.Node{Kind: term.Pair, A: p, B: p})
	dh := share(t, a, x9, p)
	for _, x := range []int{x9, x4, p, 0} {
		for _, y := range []int{0, x9, x4, pair, dh} {
			ref := share(t, a, x, y)
			if n, _ := a.Get(ref); n != (term.Node{Kind: term.Odd, A: x, B: y}) {
				t.Errorf("Share(%d, %d): %v", x, y, n)
			}
		}
	}
}

// P1.3: the errors of Share, in their order.
func TestShareErrors(t *testing.T) {
	a := term.New(5)
	x, y := name(t, a, 1), name(t, a, 2)
	p := pub(t, a, x)
	checkBadShares(t, a, x, p)
	dh := share(t, a, y, p)
	checkBadShares(t, a, x, p) // The arena is full now.
	if ref, e := a.Share(y, p); ref != dh || e != api.OK {
		t.Errorf("Share of what is held: %d, error %d", ref, e)
	}
	if ref, e := a.Share(x, p); ref != 0 || e != api.ErrFull {
		t.Errorf("Share without space for a Dh: %d, error %d", ref, e)
	}
	if ref, e := a.Share(x, y); ref != 0 || e != api.ErrFull {
		t.Errorf("Share without space for an Odd: %d, error %d", ref, e)
	}
	if a.Len() != 5 {
		t.Errorf("%d terms after errors", a.Len())
	}
}

// checkBadShares tries refs that do not exist on both sides.
func checkBadShares(t *testing.T, a *term.Arena, x, p int) {
	t.Helper()
	before := a.Len()
	for _, bad := range []int{smallest, -1, before, 1 << 16, largest} {
		for _, c := range [][2]int{{bad, p}, {bad, x}, {x, bad}, {bad, bad}} {
			if ref, e := a.Share(c[0], c[1]); ref != 0 || e != api.ErrArg || a.Len() != before {
				t.Errorf("Share(%d, %d): %d, error %d, %d terms", c[0], c[1], ref, e, a.Len())
			}
		}
	}
}

// P1.4: two refs are the same exactly if their terms are.
func TestRefsAreTerms(t *testing.T) {
	r := rand.New(rand.NewSource(3))
	for range 20 {
		a := mixed(r, 200)
		refs := map[term.Node]int{}
		for ref, n := range nodes(t, a) {
			if ref > 0 && max(n.A, n.B, n.C) >= ref {
				t.Fatalf("ref %d is not after its parts: %v", ref, n)
			}
			if other, is := refs[n]; is {
				t.Fatalf("refs %d and %d are the same term", other, ref)
			}
			refs[n] = ref
			if again := make1(t, a, n); again != ref {
				t.Fatalf("Mk of the term of %d: %d", ref, again)
			}
		}
		for x := range a.Len() {
			for y := range a.Len() {
				if (a.Compare(x, y) == 0) != (x == y) {
					t.Fatalf("Compare(%d, %d): %d", x, y, a.Compare(x, y))
				}
			}
		}
	}
}

// P1.4: Share of x and the Pub of z is Share of z and the Pub of x.
func TestShareIsMutual(t *testing.T) {
	r := rand.New(rand.NewSource(4))
	for range 10 {
		size := 40
		small := mixed(r, size)
		a := term.New(api.MaxTerms)
		for _, n := range nodes(t, small) {
			make1(t, a, n)
		}
		for x := range size {
			for z := range size {
				one := share(t, a, x, pub(t, a, z))
				two := share(t, a, z, pub(t, a, x))
				if n, _ := a.Get(one); one != two || n.Kind != term.Dh {
					t.Fatalf("Share of %d and %d: %d and %d", x, z, one, two)
				}
			}
		}
	}
}

// The chapter's example: both Shares are the same Dh.
func TestExample(t *testing.T) {
	a := term.New(10)
	one, two := name(t, a, 1), name(t, a, 2)
	p, q := pub(t, a, one), pub(t, a, two)
	s, u := share(t, a, one, q), share(t, a, two, p)
	if n, _ := a.Get(s); s != u || n != (term.Node{Kind: term.Dh, A: one, B: two}) {
		t.Errorf("Shares %d and %d: %v", s, u, n)
	}
}
