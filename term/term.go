// Package term is layer 1: symbolic terms: see shared/doc/01-term.md.
package term

import (
	"cmp"
	"maps"
	"math"
	"slices"

	"undertone/api"
)

// The kinds of terms.
const (
	Empty = iota
	Name
	Pub
	Dh
	Odd
	Hash
	Key
	Seal
	Pair
	Word
)

// Node describes a term: its kind, a number, and the refs of its parts.
type Node struct {
	Kind    int
	N       uint64
	A, B, C int
}

// Arena holds terms, each only once.
type Arena struct {
	nodes []Node
	refs  map[Node]int
	limit int
}

// shape says which numbers a kind allows, and how many parts it has.
type shape struct {
	least, most uint64
	parts       int
}

// shapes is indexed by kind.
var shapes = [...]shape{
	Empty: {0, 0, 0},
	Name:  {0, math.MaxUint64, 0},
	Pub:   {0, 0, 1},
	Dh:    {0, 0, 2},
	Odd:   {0, 0, 2},
	Hash:  {0, 0, 2},
	Key:   {1, 4, 2},
	Seal:  {0, math.MaxUint64, 3},
	Pair:  {0, 0, 2},
	Word:  {0, math.MaxUint64, 0},
}

// New returns an arena that contains only Empty and holds at most limit terms.
func New(limit int) *Arena {
	return &Arena{
		nodes: []Node{{}},
		refs:  map[Node]int{{}: 0},
		limit: min(max(limit, 1), api.MaxTerms),
	}
}

// Len returns the number of terms.
func (a *Arena) Len() int { return len(a.nodes) }

// Copy returns an independent copy.
func (a *Arena) Copy() *Arena {
	return &Arena{nodes: slices.Clone(a.nodes), refs: maps.Clone(a.refs), limit: a.limit}
}

// Get returns the node of ref, if there is one.
func (a *Arena) Get(ref int) (Node, bool) {
	if !a.has(ref) {
		return Node{}, false
	}
	return a.nodes[ref], true
}

// Has reports whether all refs belong to the arena.
func (a *Arena) Has(l ...int) bool {
	for _, ref := range l {
		if !a.has(ref) {
			return false
		}
	}
	return true
}

func (a *Arena) has(ref int) bool { return ref >= 0 && ref < len(a.nodes) }

// Compare orders terms by their structure, whatever their refs are.
//
// Different refs are different terms, so the first parts that differ as refs
// decide, and no other parts need be looked at. A part is older than its term,
// so the descent ends.
func (a *Arena) Compare(x, y int) int {
	for x != y {
		if !a.Has(x, y) {
			return a.compareMissing(x, y)
		}
		m, n := a.nodes[x], a.nodes[y]
		if c := cmp.Or(cmp.Compare(m.Kind, n.Kind), cmp.Compare(m.N, n.N)); c != 0 {
			return c
		}
		x, y = firstDifference(m, n)
	}
	return 0
}

// compareMissing orders two refs of which at least one does not exist.
func (a *Arena) compareMissing(x, y int) int {
	if a.has(x) {
		return -1
	}
	if a.has(y) {
		return 1
	}
	return cmp.Compare(x, y)
}

// firstDifference returns the first parts in which two nodes differ.
func firstDifference(m, n Node) (int, int) {
	if m.A != n.A {
		return m.A, n.A
	}
	if m.B != n.B {
		return m.B, n.B
	}
	return m.C, n.C
}

// Find returns the ref of the term with exactly the node n, if it is held.
func (a *Arena) Find(n Node) (int, bool) {
	ref, is := a.refs[n]
	return ref, is
}

// Mk returns the ref of the term with the node n, which is made if it is new.
func (a *Arena) Mk(n Node) (int, api.Errno) {
	if !a.valid(n) {
		return 0, api.ErrArg
	}
	if ref, is := a.Find(n); is {
		return ref, api.OK
	}
	if len(a.nodes) >= a.limit {
		return 0, api.ErrFull
	}
	ref := len(a.nodes)
	a.nodes = append(a.nodes, n)
	a.refs[n] = ref
	return ref, api.OK
}

// valid reports whether n's parts exist and n satisfies the table of kinds.
func (a *Arena) valid(n Node) bool {
	if n.Kind < 0 || n.Kind >= len(shapes) || !a.Has(n.A, n.B, n.C) {
		return false
	}
	s := shapes[n.Kind]
	if n.N < s.least || n.N > s.most || !onlyParts(n, s.parts) {
		return false
	}
	switch n.Kind {
	case Dh:
		return a.Compare(n.A, n.B) <= 0
	case Odd:
		return a.nodes[n.B].Kind != Pub
	}
	return true
}

// onlyParts reports whether n's parts beyond the first many are 0.
func onlyParts(n Node, many int) bool {
	return (many > 0 || n.A == 0) && (many > 1 || n.B == 0) && (many > 2 || n.C == 0)
}

// Share returns what the secret x and y, taken for a public key, come to.
func (a *Arena) Share(x, y int) (int, api.Errno) {
	if !a.Has(x, y) {
		return 0, api.ErrArg
	}
	pub := a.nodes[y]
	if pub.Kind != Pub {
		return a.Mk(Node{Kind: Odd, A: x, B: y})
	}
	z := pub.A
	if a.Compare(x, z) > 0 {
		x, z = z, x
	}
	return a.Mk(Node{Kind: Dh, A: x, B: z})
}
