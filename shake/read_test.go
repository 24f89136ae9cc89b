package shake_test

import (
	"math"
	"slices"
	"testing"

	"undertone/api"
	"undertone/shake"
	"undertone/term"
)

// eachRead calls f for each message of each row that one of both reads, with the state before it.
func eachRead(t *testing.T, f func(b *book, h shake.Shake)) {
	t.Helper()
	for _, c := range rows {
		for role, v := range c.views {
			b := c.begun(t, role)
			for _, words := range v.msgs {
				h, mine := b.h, b.mine()
				b.passed(words)
				if !mine {
					f(b, h)
				}
			}
		}
	}
}

// P12.3: a part that is no ref is ErrArg, at each place, and if the number of parts is another one.
func TestReadArg(t *testing.T) {
	eachRead(t, func(b *book, h shake.Shake) {
		for _, space := range []int{0, 100} {
			a := holding(t, nodes(b.a), space)
			for _, bad := range noRefs(a) {
				for many := 1; many < 7; many++ {
					for place := range many {
						msg := append(slices.Clone(b.msg), 1, 2, 3, 4, 5, 6)[:many]
						msg[place] = bad
						want(t, read(h, msg), a, failed(api.ErrArg))
					}
				}
			}
		}
	})
}

// P12.3: a part too many or too few is ErrOpen, and nothing is made.
func TestReadParts(t *testing.T) {
	eachRead(t, func(b *book, h shake.Shake) {
		for _, space := range []int{0, 100} {
			a := holding(t, nodes(b.a), space)
			for many := range 40 {
				if many == len(b.msg) {
					continue
				}
				// The rest is the end once more, so that each part could be opened as the last one.
				end := b.msg[len(b.msg)-1]
				msg := append(slices.Clone(b.msg), slices.Repeat([]int{end}, 40)...)[:many]
				want(t, read(h, msg), a, failed(api.ErrOpen))
				if many > 0 {
					msg[many-1] = end
					want(t, read(h, msg), a, failed(api.ErrOpen))
				}
			}
			want(t, read(h, nil), a, failed(api.ErrOpen))
			want(t, read(h, []int{}), a, failed(api.ErrOpen))
			want(t, read(h, slices.Repeat(b.msg, 1000)), a, failed(api.ErrOpen))
		}
	})
}

// sealed tells whether a part is read with a key: it has to be opened then.
func sealed(a *term.Arena, part int) bool {
	n, _ := a.Get(part)
	return n.Kind == term.Seal
}

// P12.3: with a key at the end, a message of which a part was changed to any other term is ErrOpen, and without one it
// is read, but the hash is another one.
func TestReadChanged(t *testing.T) {
	opened, not := 0, 0
	eachRead(t, func(b *book, h shake.Shake) {
		keyed := sealed(b.a, b.msg[len(b.msg)-1])
		for place, part := range b.msg {
			for other := range b.a.Len() {
				if other == part {
					continue
				}
				msg := slices.Clone(b.msg)
				msg[place] = other
				r := read(h, msg).do(t, holding(t, nodes(b.a), 100))
				if keyed {
					not++
					if !sameResult(r, failed(api.ErrOpen)) {
						t.Errorf("%v with %d at %d of %v: %v", h.P, other, place, b.msg, r)
					}
					continue
				}
				opened++
				if r.e != api.OK || r.ref != msg[len(msg)-1] || r.h.Y.H == b.h.Y.H {
					t.Errorf("%v with %d at %d of %v: %v", h.P, other, place, b.msg, r)
				}
			}
		}
	})
	if opened < 100 || not < 1000 {
		t.Errorf("%d were opened, %d were not", opened, not)
	}
}

// P12.3: parts in another order are ErrOpen, if there is a key at the end.
func TestReadSwapped(t *testing.T) {
	eachRead(t, func(b *book, h shake.Shake) {
		if !sealed(b.a, b.msg[len(b.msg)-1]) {
			return
		}
		for i := range b.msg {
			for j := range i {
				msg := slices.Clone(b.msg)
				msg[i], msg[j] = msg[j], msg[i]
				want(t, read(h, msg), b.a.Copy(), failed(api.ErrOpen), madeOf(t, b, h, msg)...)
			}
		}
	})
}

// madeOf is what Read makes of a message: some terms that only Mk may have made.
func madeOf(t *testing.T, b *book, h shake.Shake, msg []int) []term.Node {
	t.Helper()
	m := modelOf(b.a, api.MaxTerms)
	m.read(h, msg)
	return m.nodes[b.a.Len():]
}

// P12.3: what an ErrOpen late in a message has made stays: here, what comes of the E before.
func TestReadStays(t *testing.T) {
	a := scene(t, 1000)
	h, e := shake.Start(a, named(t, "NN"), 0, prologue, shake.Keys{})
	first := write(h, ownE, payload).do(t, a)
	if e != api.OK || first.e != api.OK {
		t.Fatalf("errors %d and %d", e, first.e)
	}
	h = first.h
	n := a.Len()
	made := []term.Node{
		{Kind: term.Hash, A: h.Y.H, B: re},
		{Kind: term.Dh, A: ownE, B: otherE},
		{Kind: term.Key, N: 1, A: h.Y.Ck, B: n + 1},
		{Kind: term.Key, N: 2, A: h.Y.Ck, B: n + 1},
	}
	there := nodes(a)
	for space := range made {
		want(t, read(h, []int{re, payload}), holding(t, there, space), failed(api.ErrFull), made[:space]...)
	}
	for _, space := range []int{0, 1, 100} {
		want(t, read(h, []int{re, payload}), holding(t, there, len(made)+space), failed(api.ErrOpen), made...)
	}
	// With a psk, the E makes a key as well, and the psk another one with a hash.
	p := lines(t, "-> psk, e; <- e, ee")
	a = scene(t, 1000)
	h, e = shake.Start(a, p, 1, prologue, keysOf("", 1))
	if e != api.OK {
		t.Fatalf("error %d", e)
	}
	n = a.Len()
	made = []term.Node{
		{Kind: term.Key, N: 1, A: h.Y.Ck, B: psk1},
		{Kind: term.Key, N: 2, A: h.Y.Ck, B: psk1},
		{Kind: term.Key, N: 3, A: h.Y.Ck, B: psk1},
		{Kind: term.Hash, A: h.Y.H, B: n + 1},
		{Kind: term.Hash, A: n + 3, B: re},
		{Kind: term.Key, N: 1, A: n, B: re},
		{Kind: term.Key, N: 2, A: n, B: re},
	}
	there = nodes(a)
	for space := range made {
		want(t, read(h, []int{re, payload}), holding(t, there, space), failed(api.ErrFull), made[:space]...)
	}
	want(t, read(h, []int{re, payload}), holding(t, there, len(made)), failed(api.ErrOpen), made...)
}

// P12.3: a message is read by none but the state that it is for: not again, not by the writer, not out of its turn.
func TestReadOnce(t *testing.T) {
	for _, p := range patterns(t) {
		b := pair(t, scene(t, 10000), p)
		var sent [][]int
		for i, m := range p.Msgs {
			sent = append(sent, b.pass(t, i, payload))
			for role := range 2 {
				for _, msg := range sent {
					r := read(b.h[role], msg).do(t, b.a)
					turn := i+1 == len(p.Msgs) || m.From != role
					if turn && !sameResult(r, failed(api.ErrTurn)) {
						t.Fatalf("%v: Read by %d after %d messages: %v", p, role, i+1, r)
					}
					if !turn && r.e == api.OK && sealed(b.a, msg[len(msg)-1]) {
						t.Fatalf("%v: Read by %d after %d messages of one before: %v", p, role, i+1, r)
					}
				}
			}
		}
	}
}

// P12.3: without a key, the other one's keys and the payload may be any terms; an Empty one, too.
func TestReadAny(t *testing.T) {
	p := lines(t, "-> e, s; <- e, ee, se")
	for x := range size {
		for y := range size {
			a := scene(t, 100)
			h, _ := shake.Start(a, p, 1, prologue, shake.Keys{})
			r := read(h, []int{x, y, payload}).do(t, a)
			if r.e != api.OK || r.ref != payload || r.h.K.RE != x || r.h.K.RS != y {
				t.Fatalf("%d and %d: %v", x, y, r)
			}
			w := write(r.h, otherE, payload).do(t, a)
			ee, _ := a.Share(otherE, x)
			se, _ := a.Share(otherE, y)
			own := make1(t, a, pub(otherE))
			s, _ := r.h.Y.MixHash(a, own)
			s, _ = s.MixKey(a, ee)
			s, _ = s.MixKey(a, se)
			s, part, _ := s.Seal(a, payload)
			if w.e != api.OK || w.h.Y != s || !slices.Equal(w.msg, []int{own, part}) {
				t.Fatalf("%d and %d: %v", x, y, w)
			}
		}
	}
}

// P12.3: a static key that was sealed is what was sealed, whatever it is.
func TestReadStatic(t *testing.T) {
	p := lines(t, "-> e; <- e, ee, s, es")
	for x := range size {
		a := scene(t, 1000)
		h, _ := shake.Start(a, p, 0, prologue, shake.Keys{})
		w := write(h, ownE, payload).do(t, a)
		y, _ := w.h.Y.MixHash(a, re)
		ee, _ := a.Share(ownE, re)
		y, _ = y.MixKey(a, ee)
		y, part, _ := y.Seal(a, x)
		es, _ := a.Share(ownE, x)
		y, _ = y.MixKey(a, es)
		y, last, _ := y.Seal(a, prologue)
		r := read(w.h, []int{re, part, last}).do(t, a)
		if r.e != api.OK || r.ref != prologue || r.h.K.RS != x || r.h.Y != y || !r.h.Done() {
			t.Errorf("%d: %v", x, r)
		}
	}
}

// P12.2, P12.3 and P12.4: the errors of the layers below: no number is left, and refs that are not the arena's.
func TestErrorsBelow(t *testing.T) {
	a := scene(t, 1000)
	b := pair(t, a, named(t, "XX"))
	b.pass(t, 0, payload)
	b.pass(t, 1, payload)
	h, g := b.h[0], b.h[1]
	h.Y.C.N, g.Y.C.N = math.MaxUint64, math.MaxUint64
	msg := b.pass(t, 2, payload)
	want(t, write(h, 0, payload), a, failed(api.ErrNonce))
	want(t, read(g, msg), a, failed(api.ErrNonce))
	small := scene(t, 1000)
	want(t, ciphers(b.h[0]), small, failed(api.ErrArg))
	h, _ = shake.Start(a, named(t, "NN"), 0, prologue, shake.Keys{})
	small = scene(t, 1000)
	want(t, write(h, ownE, payload), small, failed(api.ErrArg), pub(ownE))
	h, _ = shake.Start(a, named(t, "NN"), 1, prologue, shake.Keys{})
	want(t, read(h, []int{re, payload}), scene(t, 1000), failed(api.ErrArg))
}

// P12.4: the zero state, which has no messages, is done, and nobody's turn.
func TestZeroState(t *testing.T) {
	var h shake.Shake
	a := scene(t, 100)
	if !h.Done() || h.Mine() {
		t.Errorf("Done %v, Mine %v", h.Done(), h.Mine())
	}
	want(t, write(h, ownE, payload), a, failed(api.ErrTurn))
	want(t, read(h, nil), a, failed(api.ErrTurn))
}
