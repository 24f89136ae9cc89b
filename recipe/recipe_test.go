package recipe_test

import (
	"math"
	"slices"
	"testing"

	"undertone/api"
	"undertone/know"
	"undertone/recipe"
	"undertone/term"
)

// make1 makes a term that must be possible to make.
func make1(t *testing.T, a *term.Arena, n term.Node) int {
	t.Helper()
	ref, e := a.Mk(n)
	if e != api.OK {
		t.Fatalf("Mk(%v): error %d", n, e)
	}
	return ref
}

// knowing returns what is known by someone who learned these terms.
func knowing(t *testing.T, a *term.Arena, refs ...int) *know.Know {
	t.Helper()
	k := know.New(a)
	for _, ref := range refs {
		if e := k.Learn(ref); e != api.OK {
			t.Fatalf("Learn(%d): error %d", ref, e)
		}
	}
	return k
}

// yields runs a recipe that must be valid.
func yields(t *testing.T, a *term.Arena, k *know.Know, l ...recipe.Step) []int {
	t.Helper()
	refs, at, e := recipe.Run(a, k, l)
	if e != api.OK || at != 0 || len(refs) != len(l) {
		t.Fatalf("Run(%v): %v, %d, error %d", l, refs, at, e)
	}
	return refs
}

// wantError runs a recipe that must fail at that step, with that error.
func wantError(t *testing.T, a *term.Arena, k *know.Know, at int, e api.Errno, l ...recipe.Step) {
	t.Helper()
	refs, gotAt, gotE := recipe.Run(a, k, l)
	if len(refs) != 0 || gotAt != at || gotE != e {
		t.Errorf("Run(%v): %v, %d, error %d, not at %d with error %d", l, refs, gotAt, gotE, at, e)
	}
}

// wantNode looks for a term with exactly that node.
func wantNode(t *testing.T, a *term.Arena, ref int, want term.Node) {
	t.Helper()
	if got, is := a.Get(ref); !is || got != want {
		t.Errorf("%d is %v, not %v", ref, got, want)
	}
}

// betrayed is what an attacker heard: a Name, a Pub, a Pair and a Seal whose key is the Name.
type betrayed struct {
	arena                    *term.Arena
	know                     *know.Know
	name, pub, pair, sealed  int
	secret, content, another int
}

func scene(t *testing.T, limit int) betrayed {
	t.Helper()
	a := term.New(limit)
	s := betrayed{arena: a}
	s.name = make1(t, a, term.Node{Kind: term.Name, N: 1})
	s.secret = make1(t, a, term.Node{Kind: term.Name, N: 2})
	s.content = make1(t, a, term.Node{Kind: term.Name, N: 3})
	s.another = make1(t, a, term.Node{Kind: term.Word, N: 4})
	s.pub = make1(t, a, term.Node{Kind: term.Pub, A: s.secret})
	s.pair = make1(t, a, term.Node{Kind: term.Pair, A: s.pub, B: s.another})
	s.sealed = make1(t, a, term.Node{Kind: term.Seal, N: 9, A: s.name, B: s.another, C: s.content})
	s.know = knowing(t, a, s.name, s.pub, s.pair, s.sealed)
	return s
}

// heard has a step for each thing that was heard in the scene: Name, Pub, Pair, Seal.
func heard() []recipe.Step {
	return []recipe.Step{{Op: recipe.Heard}, {Op: recipe.Heard, A: 1}, {Op: recipe.Heard, A: 2}, {Op: recipe.Heard, A: 3}}
}

// valids has a valid step of each op, to be run after the steps of heard.
func valids() []recipe.Step {
	return []recipe.Step{
		{Op: recipe.Heard, A: 1},
		{Op: recipe.Mine, N: 5},
		{Op: term.Pub, A: 3},
		{Op: term.Dh, A: 2, B: 1},
		{Op: term.Hash, A: 1, B: 3},
		{Op: term.Key, N: 3, A: 2, B: 1},
		{Op: term.Seal, N: 7, A: 1, B: 2, C: 3},
		{Op: term.Pair, A: 3, B: 2},
		{Op: term.Word, N: 6},
		{Op: recipe.First, A: 2},
		{Op: recipe.Second, A: 2},
		{Op: recipe.Open, A: 3, B: 0},
		{Op: recipe.Nothing},
	}
}

// usage says which numbers an op uses: N, and how many of A, B, C.
func usage(op int) (n bool, indices int) {
	switch op {
	case recipe.Mine, term.Word:
		return true, 0
	case recipe.Heard, term.Pub, recipe.First, recipe.Second:
		return false, 1
	case term.Dh, term.Hash, term.Pair, recipe.Open:
		return false, 2
	case term.Key:
		return true, 2
	case term.Seal:
		return true, 3
	}
	return false, 0
}

// withIndex returns s with another A (0), B (1) or C (2).
func withIndex(s recipe.Step, which, value int) recipe.Step {
	*[]*int{&s.A, &s.B, &s.C}[which] = value
	return s
}

// P4.1: the ops have the chapter's numbers.
func TestOpNumbers(t *testing.T) {
	got := []int{recipe.Heard, recipe.Mine, recipe.First, recipe.Second, recipe.Open, recipe.Nothing}
	if !slices.Equal(got, []int{0, 1, 10, 11, 12, 13}) {
		t.Errorf("the ops are %v", got)
	}
}

// P4.1: what each op yields.
func TestEachOp(t *testing.T) {
	s := scene(t, 40)
	refs := yields(t, s.arena, s.know, append(heard(), valids()...)...)
	if want := []int{s.name, s.pub, s.pair, s.sealed}; !slices.Equal(refs[:4], want) {
		t.Errorf("Heard: %v, not %v", refs[:4], want)
	}
	made := refs[4:]
	wantNode(t, s.arena, made[1], term.Node{Kind: term.Name, N: 1<<32 + 5})
	wantNode(t, s.arena, made[2], term.Node{Kind: term.Pub, A: s.sealed})
	wantNode(t, s.arena, made[3], term.Node{Kind: term.Dh, A: s.secret, B: s.pair})
	wantNode(t, s.arena, made[4], term.Node{Kind: term.Hash, A: s.pub, B: s.sealed})
	wantNode(t, s.arena, made[5], term.Node{Kind: term.Key, N: 3, A: s.pair, B: s.pub})
	wantNode(t, s.arena, made[6], term.Node{Kind: term.Seal, N: 7, A: s.pub, B: s.pair, C: s.sealed})
	wantNode(t, s.arena, made[7], term.Node{Kind: term.Pair, A: s.sealed, B: s.pair})
	wantNode(t, s.arena, made[8], term.Node{Kind: term.Word, N: 6})
	wantNode(t, s.arena, made[12], term.Node{})
	taken := []int{made[0], made[9], made[10], made[11], made[12]}
	if want := []int{s.pub, s.pub, s.another, s.content, 0}; !slices.Equal(taken, want) {
		t.Errorf("Heard, First, Second, Open, Nothing: %v, not %v", taken, want)
	}
}

// P4.1, example 1: Mine 0; its Pub; Share of it and what was heard first.
func TestExample(t *testing.T) {
	a := term.New(10)
	x := make1(t, a, term.Node{Kind: term.Name, N: 1})
	p := make1(t, a, term.Node{Kind: term.Pub, A: x})
	refs := yields(t, a, knowing(t, a, p), recipe.Step{Op: 1}, recipe.Step{Op: 2}, recipe.Step{Op: 0}, recipe.Step{Op: 3, A: 0, B: 2})
	wantNode(t, a, refs[0], term.Node{Kind: term.Name, N: 1 << 32})
	wantNode(t, a, refs[1], term.Node{Kind: term.Pub, A: refs[0]})
	wantNode(t, a, refs[3], term.Node{Kind: term.Dh, A: x, B: refs[0]})
	if share, _ := a.Share(x, refs[1]); refs[2] != p || share != refs[3] {
		t.Errorf("%v: the other side has %d", refs, share)
	}
}

// P4.1: an empty recipe yields nothing.
func TestEmptyRecipe(t *testing.T) {
	s := scene(t, 40)
	many := s.arena.Len()
	yields(t, s.arena, s.know)
	if refs, at, e := recipe.Run(s.arena, s.know, []recipe.Step{}); len(refs) != 0 || at != 0 || e != api.OK {
		t.Errorf("Run of no steps: %v, %d, error %d", refs, at, e)
	}
	if s.arena.Len() != many {
		t.Error("an empty recipe has made something")
	}
}

// P4.1: an Op that does not exist, Op 4 (an Odd) among them.
func TestNoSuchOp(t *testing.T) {
	s := scene(t, 40)
	for _, op := range []int{math.MinInt, -1, 4, 14, 15, 1 << 32, math.MaxInt} {
		wantError(t, s.arena, s.know, 0, api.ErrRecipe, recipe.Step{Op: op})
		wantError(t, s.arena, s.know, 4, api.ErrRecipe, append(heard(), recipe.Step{Op: op, A: 1, B: 3})...)
		wantError(t, s.arena, s.know, 4, api.ErrRecipe, append(heard(), recipe.Step{Op: op})...)
	}
}

// P4.1: a step that refers to itself, to a later one, to none, or to a negative index.
func TestNotBefore(t *testing.T) {
	s := scene(t, 40)
	for _, step := range valids() {
		if step.Op == recipe.Heard {
			continue
		}
		_, indices := usage(step.Op)
		for which := range indices {
			for _, to := range []int{4, 5, 6, 100, math.MaxInt, -1, -4, math.MinInt} {
				l := append(heard(), withIndex(step, which, to), recipe.Step{Op: recipe.Heard, A: 2}, recipe.Step{Op: recipe.Nothing})
				wantError(t, s.arena, s.know, 4, api.ErrRecipe, l...)
			}
		}
	}
	wantError(t, s.arena, s.know, 0, api.ErrRecipe, recipe.Step{Op: term.Pub})
	wantError(t, s.arena, s.know, 0, api.ErrRecipe, recipe.Step{Op: term.Pair})
	yields(t, s.arena, s.know, recipe.Step{Op: recipe.Mine}, recipe.Step{Op: term.Pub}, recipe.Step{Op: term.Pair, A: 1, B: 1})
}

// P4.1: a number that is not used and not 0.
func TestUnusedNumbers(t *testing.T) {
	s := scene(t, 40)
	for _, step := range valids() {
		usesN, indices := usage(step.Op)
		for which := indices; which < 3; which++ {
			for _, value := range []int{1, 3, 4, -1, math.MaxInt, math.MinInt} {
				wantError(t, s.arena, s.know, 4, api.ErrRecipe, append(heard(), withIndex(step, which, value))...)
			}
		}
		for _, n := range []uint64{1, 4, 1 << 32, math.MaxUint64} {
			with := step
			with.N = n
			if !usesN {
				wantError(t, s.arena, s.know, 4, api.ErrRecipe, append(heard(), with)...)
			}
		}
	}
}

// P4.1: N of Mine is less than 2^20, also where the sum with 2^32 would wrap round.
func TestMine(t *testing.T) {
	a := term.New(20)
	k := know.New(a)
	for _, n := range []uint64{0, 1, 7, 1<<20 - 1} {
		refs := yields(t, a, k, recipe.Step{Op: recipe.Mine, N: n})
		wantNode(t, a, refs[0], term.Node{Kind: term.Name, N: 1<<32 + n})
	}
	many := a.Len()
	for _, n := range []uint64{1 << 20, 1<<20 + 1, 1 << 32, math.MaxUint64 - 1<<32 + 1, math.MaxUint64 - 1<<32 + 2, math.MaxUint64} {
		wantError(t, a, k, 0, api.ErrRecipe, recipe.Step{Op: recipe.Mine, N: n})
	}
	if a.Len() != many {
		t.Error("a name out of range has been made")
	}
}

// P4.1: N of a Key is 1 to 4, that of a Seal and of a Word any.
func TestNumbers(t *testing.T) {
	s := scene(t, 40)
	key := func(n uint64) []recipe.Step { return append(heard(), recipe.Step{Op: term.Key, N: n, A: 0, B: 2}) }
	for n := range uint64(4) {
		refs := yields(t, s.arena, s.know, key(n+1)...)
		wantNode(t, s.arena, refs[4], term.Node{Kind: term.Key, N: n + 1, A: s.name, B: s.pair})
	}
	for _, n := range []uint64{0, 5, 6, 1 << 32, math.MaxUint64} {
		wantError(t, s.arena, s.know, 4, api.ErrRecipe, key(n)...)
	}
	for _, n := range []uint64{0, 1, 5, 1 << 20, 1 << 32, math.MaxUint64} {
		refs := yields(t, s.arena, s.know, append(heard(), recipe.Step{Op: term.Seal, N: n, A: 0, B: 2, C: 1}, recipe.Step{Op: term.Word, N: n})...)
		wantNode(t, s.arena, refs[4], term.Node{Kind: term.Seal, N: n, A: s.name, B: s.pair, C: s.pub})
		wantNode(t, s.arena, refs[5], term.Node{Kind: term.Word, N: n})
	}
}

// P4.1: Heard refers to what was heard, in order, with repetitions, and to nothing else.
func TestHeard(t *testing.T) {
	s := scene(t, 40)
	k := knowing(t, s.arena, s.sealed, s.pair, s.sealed, s.name)
	all := []recipe.Step{{Op: recipe.Heard, A: 3}, {Op: recipe.Heard}, {Op: recipe.Heard, A: 2}, {Op: recipe.Heard, A: 1}, {Op: recipe.Heard, A: 3}}
	if got, want := yields(t, s.arena, k, all...), []int{s.name, s.sealed, s.sealed, s.pair, s.name}; !slices.Equal(got, want) {
		t.Errorf("Heard: %v, not %v", got, want)
	}
	// More is known than was heard.
	if len(k.Known()) < 6 {
		t.Fatalf("known: %v", k.Known())
	}
	for _, index := range []int{4, 5, 100, math.MaxInt, -1, math.MinInt} {
		wantError(t, s.arena, k, 0, api.ErrRecipe, recipe.Step{Op: recipe.Heard, A: index})
		wantError(t, s.arena, k, 5, api.ErrRecipe, append(all, recipe.Step{Op: recipe.Heard, A: index})...)
	}
	wantError(t, s.arena, know.New(s.arena), 0, api.ErrRecipe, recipe.Step{Op: recipe.Heard})
	// What is heard later can be referred to later.
	k.Learn(s.pub)
	if got := yields(t, s.arena, k, recipe.Step{Op: recipe.Heard, A: 4}); got[0] != s.pub {
		t.Errorf("Heard: %v, not %d", got, s.pub)
	}
}

// kindsOfTerms has a term of each kind.
func kindsOfTerms(t *testing.T, a *term.Arena) []int {
	t.Helper()
	x := make1(t, a, term.Node{Kind: term.Name, N: 1})
	y := make1(t, a, term.Node{Kind: term.Word, N: 1})
	var refs []int
	for kind := range term.Word + 1 {
		n := term.Node{Kind: kind, A: x, B: y}
		switch kind {
		case term.Empty:
			n = term.Node{}
		case term.Name, term.Word:
			n = term.Node{Kind: kind, N: 1}
		case term.Pub:
			n.B = 0
		case term.Key:
			n.N = 1
		case term.Seal:
			n.C = y
		}
		refs = append(refs, make1(t, a, n))
	}
	return refs
}

// P4.1: First and Second of what is not a Pair, Open of what is not a Seal.
func TestNotSuch(t *testing.T) {
	a := term.New(40)
	refs := kindsOfTerms(t, a)
	k := knowing(t, a, refs...)
	x := make1(t, a, term.Node{Kind: term.Name, N: 1})
	y := make1(t, a, term.Node{Kind: term.Word, N: 1})
	for kind := range refs {
		l := []recipe.Step{{Op: recipe.Heard, A: kind}, {Op: recipe.Heard, A: term.Name}}
		first, second, open := recipe.Step{Op: recipe.First}, recipe.Step{Op: recipe.Second}, recipe.Step{Op: recipe.Open, B: 1}
		if kind == term.Pair {
			got := yields(t, a, k, append(l, first, second)...)
			if got[2] != x || got[3] != y {
				t.Errorf("First and Second: %v", got)
			}
		} else {
			wantError(t, a, k, 2, api.ErrRecipe, append(l, first)...)
			wantError(t, a, k, 2, api.ErrRecipe, append(l, second)...)
		}
		if kind == term.Seal {
			if got := yields(t, a, k, append(l, open)...); got[2] != y {
				t.Errorf("Open: %v", got)
			}
		} else {
			wantError(t, a, k, 2, api.ErrRecipe, append(l, open)...)
		}
	}
}

// P4.1: Open takes the key, and nothing else; it may come from whatever step.
func TestOpenKey(t *testing.T) {
	a := term.New(40)
	k := know.New(a)
	l := []recipe.Step{
		{Op: recipe.Mine},
		{Op: recipe.Mine, N: 1},
		{Op: term.Word, N: 8},
		{Op: term.Hash, A: 0, B: 1},
		{Op: term.Seal, N: 5, A: 3, B: 1, C: 2},
		{Op: term.Hash, A: 1, B: 0},
		{Op: term.Hash, A: 0, B: 1},
	}
	for key := range l {
		open := recipe.Step{Op: recipe.Open, A: 4, B: key}
		if key != 3 && key != 6 {
			wantError(t, a, k, len(l), api.ErrRecipe, append(l, open)...)
			continue
		}
		if got := yields(t, a, k, append(l, open)...); got[len(l)] != got[2] {
			t.Errorf("Open: %v", got)
		}
	}
	// Neither the N nor the associated data of a Seal is asked for, and its content is not taken apart.
	got := yields(t, a, k, recipe.Step{Op: recipe.Mine}, recipe.Step{Op: term.Pair}, recipe.Step{Op: term.Seal, N: math.MaxUint64, B: 1, C: 1}, recipe.Step{Op: recipe.Open, A: 2})
	if got[3] != got[1] {
		t.Errorf("Open: %v", got)
	}
}

// P4.1: what is sealed with a key that was not heard stays shut, even if the content or the data was.
func TestShut(t *testing.T) {
	a := term.New(40)
	key := make1(t, a, term.Node{Kind: term.Name, N: 1})
	m := make1(t, a, term.Node{Kind: term.Name, N: 2})
	c := make1(t, a, term.Node{Kind: term.Seal, A: key, B: m, C: m})
	k := knowing(t, a, c, m)
	for b := range 3 {
		wantError(t, a, k, 3, api.ErrRecipe, recipe.Step{Op: recipe.Heard}, recipe.Step{Op: recipe.Heard, A: 1}, recipe.Step{Op: recipe.Nothing}, recipe.Step{Op: recipe.Open, B: b})
	}
}

// P4.1: Share with what is no public key yields an Odd; with public keys both sides have the same Dh.
func TestShare(t *testing.T) {
	a := term.New(60)
	refs := kindsOfTerms(t, a)
	k := knowing(t, a, refs...)
	for kind, ref := range refs {
		got := yields(t, a, k, recipe.Step{Op: recipe.Heard, A: kind}, recipe.Step{Op: recipe.Mine}, recipe.Step{Op: term.Dh, A: 1, B: 0})
		want := term.Node{Kind: term.Odd, A: got[1], B: ref}
		if kind == term.Pub {
			want = term.Node{Kind: term.Dh, A: refs[term.Name], B: got[1]}
		}
		wantNode(t, a, got[2], want)
	}
	got := yields(t, a, k, recipe.Step{Op: recipe.Mine, N: 9}, recipe.Step{Op: term.Pub}, recipe.Step{Op: recipe.Mine, N: 2}, recipe.Step{Op: term.Pub, A: 2},
		recipe.Step{Op: term.Dh, A: 0, B: 3}, recipe.Step{Op: term.Dh, A: 2, B: 1}, recipe.Step{Op: term.Dh, A: 1, B: 0})
	wantNode(t, a, got[4], term.Node{Kind: term.Dh, A: got[2], B: got[0]})
	wantNode(t, a, got[6], term.Node{Kind: term.Odd, A: got[1], B: got[0]})
	if got[4] != got[5] {
		t.Errorf("two shares: %d and %d", got[4], got[5])
	}
}

// P4.1: a term that the arena holds is not made again.
func TestEachOnlyOnce(t *testing.T) {
	s := scene(t, 40)
	l := append(heard(), valids()...)
	first := yields(t, s.arena, s.know, l...)
	many := s.arena.Len()
	if second := yields(t, s.arena, s.know, append(l, l[4:]...)...); !slices.Equal(second[:len(l)], first) || s.arena.Len() != many {
		t.Errorf("again: %v, not %v; %d terms, not %d", second, first, s.arena.Len(), many)
	}
}

// P4.1: the terms of the steps before an invalid one stay; the others are not made.
func TestTermsStay(t *testing.T) {
	bad := []recipe.Step{
		{Op: 4, A: 0, B: 1},
		{Op: 14},
		{Op: recipe.Mine, N: 1 << 20},
		{Op: recipe.Heard, A: 0},
		{Op: term.Pub, A: 2},
		{Op: term.Hash, A: 0, B: 2},
		{Op: term.Hash, A: 0, B: 1, C: 1},
		{Op: term.Pub, N: 1, A: 1},
		{Op: term.Key, A: 0, B: 1},
		{Op: term.Seal, A: 0, B: 1, C: -1},
		{Op: recipe.Second, A: 1},
		{Op: recipe.Open, A: 1, B: 0},
	}
	for _, step := range bad {
		a := term.New(40)
		k := know.New(a)
		wantError(t, a, k, 2, api.ErrRecipe, recipe.Step{Op: recipe.Mine, N: 3}, recipe.Step{Op: term.Pub}, step, recipe.Step{Op: term.Word, N: 8})
		if a.Len() != 3 {
			t.Errorf("%v: the arena has %d terms, not 3", step, a.Len())
		}
		wantNode(t, a, 1, term.Node{Kind: term.Name, N: 1<<32 + 3})
		wantNode(t, a, 2, term.Node{Kind: term.Pub, A: 1})
		if len(k.Heard()) != 0 || len(k.Known()) != 0 {
			t.Errorf("%v: something was learned", step)
		}
	}
}

// P4.1: the first invalid step counts, whatever comes after it.
func TestFirstInvalid(t *testing.T) {
	a := term.New(3)
	k := know.New(a)
	good, none, more := recipe.Step{Op: recipe.Nothing}, recipe.Step{Op: 4}, recipe.Step{Op: recipe.Mine, N: 2}
	wantError(t, a, k, 1, api.ErrRecipe, good, none, good, recipe.Step{Op: 14}, more)
	if a.Len() != 1 {
		t.Errorf("the arena has %d terms", a.Len())
	}
	yields(t, a, k, recipe.Step{Op: recipe.Mine}, recipe.Step{Op: recipe.Mine, N: 1})
	wantError(t, a, k, 0, api.ErrFull, more, none)
	wantError(t, a, k, 0, api.ErrRecipe, none, more)
	wantError(t, a, k, 2, api.ErrFull, good, good, more, none)
}

// P4.1: ErrFull of each step that makes a term, if the arena has no space for it.
func TestFull(t *testing.T) {
	full := scene(t, 1000).arena.Len()
	for _, step := range valids() {
		s := scene(t, full)
		makes := step.Op == recipe.Mine || step.Op >= term.Pub && step.Op <= term.Word
		if !makes {
			yields(t, s.arena, s.know, append(heard(), step)...)
		} else {
			wantError(t, s.arena, s.know, 4, api.ErrFull, append(heard(), step)...)
		}
		if s.arena.Len() != full {
			t.Errorf("%v: the arena has %d terms", step, s.arena.Len())
		}
		// With space for one more it is made; then it is there, in the full arena.
		s = scene(t, full+1)
		yields(t, s.arena, s.know, append(heard(), step, step)...)
		if makes != (s.arena.Len() == full+1) {
			t.Errorf("%v: the arena has %d terms", step, s.arena.Len())
		}
		yields(t, s.arena, s.know, append(heard(), step)...)
	}
	s := scene(t, full)
	wantError(t, s.arena, s.know, 4, api.ErrFull, append(heard(), recipe.Step{Op: term.Dh, A: 0, B: 0})...) // an Odd
	wantError(t, s.arena, s.know, 5, api.ErrFull, append(heard(), recipe.Step{Op: term.Word, N: 4}, recipe.Step{Op: term.Word, N: 5})...)
}

// P4.1: a step that is invalid by itself is so in a full arena too.
func TestInvalidInFullArena(t *testing.T) {
	s := scene(t, scene(t, 1000).arena.Len())
	for _, step := range valids() {
		usesN, indices := usage(step.Op)
		for which := range 3 {
			if which >= indices || step.Op == recipe.Heard {
				wantError(t, s.arena, s.know, 4, api.ErrRecipe, append(heard(), withIndex(step, which, 4))...)
			} else {
				wantError(t, s.arena, s.know, 4, api.ErrRecipe, append(heard(), withIndex(step, which, -1))...)
			}
		}
		if with := step; !usesN || step.Op == recipe.Mine || step.Op == term.Key {
			with.N = 1 << 20
			wantError(t, s.arena, s.know, 4, api.ErrRecipe, append(heard(), with)...)
		}
	}
}

// P4.1: the terms that were made before there was no space left stay.
func TestTermsStayWhenFull(t *testing.T) {
	a := term.New(3)
	wantError(t, a, know.New(a), 3, api.ErrFull, recipe.Step{Op: term.Word, N: 5}, recipe.Step{Op: term.Pub}, recipe.Step{Op: recipe.Nothing}, recipe.Step{Op: term.Pub, A: 1})
	wantNode(t, a, 1, term.Node{Kind: term.Word, N: 5})
	wantNode(t, a, 2, term.Node{Kind: term.Pub, A: 1})
	b := term.New(1)
	wantError(t, b, know.New(b), 0, api.ErrFull, recipe.Step{Op: recipe.Mine})
	yields(t, b, know.New(b), recipe.Step{Op: recipe.Nothing}, recipe.Step{Op: recipe.Nothing})
}
