package know

import "undertone/term"

// search finds out which terms are derivable, and goes on while terms are learned.
//
// What needs a term that is not derivable yet waits for it as a closure. So
// each term is decided only once, even where terms are too large to be walked
// unfolded, or where Seals open each other in a long row.
type search struct {
	know  *Know
	asked map[int]*answer
}

// answer is what a search found out about a term.
type answer struct {
	derivable bool
	waiting   []func()
}

func newSearch(k *Know) *search {
	return &search{know: k, asked: map[int]*answer{}}
}

// ask finds out whether ref is derivable.
func (s *search) ask(ref int) *answer {
	if x := s.asked[ref]; x != nil {
		return x
	}
	x := &answer{derivable: s.know.Knows(ref)}
	s.asked[ref] = x
	if n, is := s.know.arena.Get(ref); is && !x.derivable {
		s.compose(n, x.reach)
	}
	return x
}

// compose calls then once the term of n can be made of derivable terms, now or later.
func (s *search) compose(n term.Node, then func()) {
	switch n.Kind {
	case term.Empty, term.Word:
		then()
	case term.Name:
		if n.N >= Own {
			then()
		}
	case term.Dh:
		s.when(then, n.A, s.public(n.B))
		s.when(then, n.B, s.public(n.A))
	default:
		s.when(then, n.A, n.B, n.C) // A part that a kind does not have is Empty.
	}
}

// public returns a term that is derivable exactly if the Pub of a secret is public.
func (s *search) public(secret int) int {
	if ref, is := s.know.arena.Find(term.Node{Kind: term.Pub, A: secret}); is {
		return ref
	}
	return secret // A Pub that the arena does not hold is not known.
}

// when calls then once all refs are derivable, now or later.
func (s *search) when(then func(), refs ...int) {
	for i, ref := range refs {
		x := s.ask(ref)
		if !x.derivable {
			x.waiting = append(x.waiting, func() { s.when(then, refs[i+1:]...) })
			return
		}
	}
	then()
}

// reach has a term derivable, and goes on with what waited for it.
func (x *answer) reach() {
	if x.derivable {
		return
	}
	x.derivable = true
	for _, then := range x.waiting {
		then()
	}
}

// learn adds ref to what is known, and all that can be taken out of what is known then.
func (s *search) learn(ref int) {
	if s.know.Knows(ref) {
		return
	}
	s.know.known[ref] = struct{}{}
	s.ask(ref).reach()
	switch n, _ := s.know.arena.Get(ref); n.Kind {
	case term.Pair:
		s.learn(n.A)
		s.learn(n.B)
	case term.Seal:
		s.open(n)
	}
}

// open learns what a known Seal contains once its key is derivable, now or later.
func (s *search) open(seal term.Node) {
	s.when(func() { s.learn(seal.C) }, seal.A)
}
