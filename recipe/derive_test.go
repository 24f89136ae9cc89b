package recipe_test

import (
	"math/rand"
	"slices"
	"testing"

	"undertone/api"
	"undertone/know"
	"undertone/recipe"
	"undertone/term"
)

// mixed returns an arena of terms of all kinds, with space for more.
func mixed(r *rand.Rand, many int) *term.Arena {
	a := term.New(api.MaxTerms)
	for tries := 0; a.Len() < many && tries < 50*many; tries++ {
		pick := func() int { return r.Intn(a.Len()) }
		n := term.Node{Kind: r.Intn(term.Word + 1), A: pick(), B: pick()}
		if r.Intn(4) == 0 {
			n.Kind = term.Seal // of which few can be opened
		}
		switch n.Kind {
		case term.Name:
			n = term.Node{Kind: n.Kind, N: uint64(r.Intn(many/4 + 1))}
			if r.Intn(8) == 0 {
				n.N += know.Own
			}
		case term.Word:
			n = term.Node{Kind: n.Kind, N: uint64(r.Intn(2))}
		case term.Pub:
			n.B = 0
		case term.Key:
			n.N = uint64(1 + r.Intn(4))
		case term.Seal:
			n.N, n.C = uint64(r.Intn(2)), pick()
		}
		a.Mk(n)
	}
	return a
}

// anyStep returns a step that may be valid as the step with that index.
func anyStep(r *rand.Rand, index, many int) recipe.Step {
	s := recipe.Step{Op: r.Intn(15)}
	usesN, indices := usage(s.Op)
	if usesN {
		s.N = uint64(r.Intn(5))
	}
	for which := range indices {
		s = withIndex(s, which, r.Intn(index+1))
	}
	if s.Op == recipe.Heard {
		s.A = r.Intn(many + 1)
	}
	return s
}

// cook writes the recipe of everything that the chapter of layer 3 lets an attacker derive.
type cook struct {
	arena *term.Arena
	steps []recipe.Step
	index map[int]int // the step that yields a term
}

// add writes a step that yields ref, if there is none.
func (c *cook) add(ref int, s recipe.Step) {
	if _, is := c.index[ref]; !is {
		c.index[ref] = len(c.steps)
		c.steps = append(c.steps, s)
	}
}

// has reports whether there are steps for all refs.
func (c *cook) has(refs ...int) bool {
	for _, ref := range refs {
		if _, is := c.index[ref]; !is {
			return false
		}
	}
	return true
}

// share writes the step for a Dh of a secret and of another one whose Pub there is, or can be.
func (c *cook) share(ref, secret, other int) {
	if c.has(other) {
		p, _ := c.arena.Mk(term.Node{Kind: term.Pub, A: other})
		c.add(p, recipe.Step{Op: term.Pub, A: c.index[other]})
	}
	if p, is := c.arena.Find(term.Node{Kind: term.Pub, A: other}); is && c.has(p, secret) {
		c.add(ref, recipe.Step{Op: term.Dh, A: c.index[secret], B: c.index[p]})
	}
}

// compose writes the step for ref, if there are steps for what it takes.
func (c *cook) compose(ref int, n term.Node) {
	a, b, content := c.index[n.A], c.index[n.B], c.index[n.C]
	switch n.Kind {
	case term.Empty:
		c.add(ref, recipe.Step{Op: recipe.Nothing})
	case term.Word:
		c.add(ref, recipe.Step{Op: term.Word, N: n.N})
	case term.Name:
		if n.N >= know.Own {
			c.add(ref, recipe.Step{Op: recipe.Mine, N: n.N - know.Own})
		}
	case term.Pub:
		if c.has(n.A) {
			c.add(ref, recipe.Step{Op: term.Pub, A: a})
		}
	case term.Dh:
		c.share(ref, n.A, n.B)
		c.share(ref, n.B, n.A)
	case term.Odd:
		if c.has(n.A, n.B) {
			c.add(ref, recipe.Step{Op: term.Dh, A: a, B: b})
		}
	case term.Seal:
		if c.has(n.A, n.B, n.C) {
			c.add(ref, recipe.Step{Op: term.Seal, N: n.N, A: a, B: b, C: content})
		}
	default:
		if c.has(n.A, n.B) {
			c.add(ref, recipe.Step{Op: n.Kind, N: n.N, A: a, B: b})
		}
	}
}

// takeApart writes the steps for what can be taken out of ref.
func (c *cook) takeApart(ref int, n term.Node) {
	if !c.has(ref) {
		return
	}
	switch n.Kind {
	case term.Pair:
		c.add(n.A, recipe.Step{Op: recipe.First, A: c.index[ref]})
		c.add(n.B, recipe.Step{Op: recipe.Second, A: c.index[ref]})
	case term.Seal:
		if c.has(n.A) {
			c.add(n.C, recipe.Step{Op: recipe.Open, A: c.index[ref], B: c.index[n.A]})
		}
	}
}

// write goes on until no step can be added.
func (c *cook) write(heard []int) {
	for i, ref := range heard {
		c.add(ref, recipe.Step{Op: recipe.Heard, A: i})
	}
	for before := -1; before < len(c.steps); {
		before = len(c.steps)
		for ref, many := 0, c.arena.Len(); ref < many; ref++ {
			n, _ := c.arena.Get(ref)
			c.compose(ref, n)
			c.takeApart(ref, n)
		}
	}
}

// P4.2: everything that a recipe yields is derivable: all that a cook can write, and random steps after it.
func TestYieldsAreDerivable(t *testing.T) {
	var valid [recipe.Nothing + 1]int
	for seed := range int64(300) {
		r := rand.New(rand.NewSource(seed))
		a := mixed(r, 60)
		k := know.New(a)
		many := 1 + r.Intn(25)
		for range many {
			k.Learn(r.Intn(a.Len()))
		}
		c := cook{arena: a.Copy(), index: map[int]int{}}
		c.write(k.Heard())
		l := c.steps
		for range 100 {
			step := anyStep(r, len(l), many)
			refs, at, e := recipe.Run(a, k, append(l, step))
			if e == api.OK {
				l = append(l, step)
			} else if len(refs) != 0 || at != len(l) || e != api.ErrRecipe {
				t.Fatalf("seed %d: %v, then %v: %v, %d, error %d", seed, l, step, refs, at, e)
			}
		}
		for i, ref := range yields(t, a, k, l...) {
			valid[l[i].Op]++
			if !k.Can(ref) {
				t.Fatalf("seed %d: step %d of %v yields %d, which is not derivable", seed, i, l, ref)
			}
		}
	}
	for op, times := range valid {
		if times < 100 && op != term.Odd {
			t.Errorf("the op %d was executed only %d times", op, times)
		}
	}
}

// P4.2: every derivable term is yielded by some recipe, and nothing else is.
func TestDerivableIsYielded(t *testing.T) {
	for seed := range int64(300) {
		r := rand.New(rand.NewSource(seed))
		a := mixed(r, 10+r.Intn(70))
		k := know.New(a)
		for range r.Intn(12) {
			k.Learn(r.Intn(a.Len()))
		}
		c := cook{arena: a.Copy(), index: map[int]int{}}
		c.write(k.Heard())
		many := a.Len()
		refs := yields(t, a, k, c.steps...)
		for ref := range many {
			if k.Can(ref) != slices.Contains(refs, ref) {
				t.Fatalf("seed %d: %d: Can %v, but the recipe %v yields %v", seed, ref, k.Can(ref), c.steps, refs)
			}
		}
	}
}

// P4.1: the result depends on nothing but the arguments, and Run changes nothing but the arena.
func TestNothingElseChanges(t *testing.T) {
	for seed := range int64(50) {
		r := rand.New(rand.NewSource(seed))
		a := mixed(r, 60)
		k := know.New(a)
		for range 8 {
			k.Learn(r.Intn(a.Len()))
		}
		c := cook{arena: a.Copy(), index: map[int]int{}}
		c.write(k.Heard())
		l, known, learned := slices.Clone(c.steps), k.Known(), k.Heard()
		b := a.Copy()
		other := k.Copy(b)
		first := yields(t, a, k, l...)
		second := yields(t, b, other, slices.Clone(l)...)
		if !slices.Equal(first, second) || a.Len() != b.Len() {
			t.Fatalf("seed %d: %v and %v", seed, first, second)
		}
		if !slices.Equal(l, c.steps) || !slices.Equal(k.Known(), known) || !slices.Equal(k.Heard(), learned) {
			t.Fatalf("seed %d: the recipe or what is known has changed", seed)
		}
	}
}

// P4.1 (memory): the refs are new memory, with their spare capacity.
func TestNewMemory(t *testing.T) {
	s := scene(t, 40)
	l := append(heard(), recipe.Step{Op: recipe.Nothing})
	first := yields(t, s.arena, s.know, l...)
	want := slices.Clone(first)
	second := yields(t, s.arena, s.know, l...)
	for i := range second[:cap(second)] {
		second[:cap(second)][i] = -1
	}
	third := yields(t, s.arena, s.know, l...)
	if !slices.Equal(first, want) || !slices.Equal(third, want) || !slices.Equal(s.know.Heard(), want[:4]) {
		t.Errorf("%v, %v, heard %v", first, third, s.know.Heard())
	}
}

// P4.1: long recipes, up to a full arena and beyond.
func TestLongRecipes(t *testing.T) {
	a := term.New(api.MaxTerms)
	k := know.New(a)
	l := []recipe.Step{{Op: recipe.Mine}}
	for i := range api.MaxTerms - 2 {
		l = append(l, recipe.Step{Op: term.Pair, A: i, B: i})
	}
	refs := yields(t, a, k, l...)
	if a.Len() != api.MaxTerms || refs[len(refs)-1] != api.MaxTerms-1 {
		t.Errorf("%d terms, and the last one is %d", a.Len(), refs[len(refs)-1])
	}
	last := len(l) - 1
	wantError(t, a, k, len(l), api.ErrFull, append(l, recipe.Step{Op: term.Pub, A: last})...)
	for i := range last {
		l = append(l, recipe.Step{Op: recipe.First + i%2, A: last + i})
	}
	refs = yields(t, a, k, l...)
	if refs[len(refs)-1] != refs[0] {
		t.Errorf("taken apart: %d, not %d", refs[len(refs)-1], refs[0])
	}
}
