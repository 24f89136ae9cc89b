package shake_test

import (
	"math/rand"
	"slices"
	"testing"

	"undertone/api"
	"undertone/need"
	"undertone/shake"
	"undertone/sym"
	"undertone/token"
)

// wantDone asks for what both sides have to be at the end: done, with the same hash and mirrored ciphers.
func (b *both) wantDone(t *testing.T) {
	t.Helper()
	i, r := ciphers(b.h[0]).do(t, b.a), ciphers(b.h[1]).do(t, b.a)
	if !b.h[0].Done() || !b.h[1].Done() || b.h[0].Mine() || b.h[1].Mine() || b.h[0].Y != b.h[1].Y {
		t.Errorf("%v:\n%v\n%v", b.h[0].P, b.h[0], b.h[1])
	}
	if i.e != api.OK || r.e != api.OK || i.send != r.recv || i.recv != r.send || i.send == i.recv {
		t.Errorf("%v: ciphers %v and %v", b.h[0].P, i, r)
	}
	one, _ := b.a.Get(i.send.Key)
	two, _ := b.a.Get(i.recv.Key)
	if !i.send.Has || !i.recv.Has || i.send.N != 0 || i.recv.N != 0 || one.N != 1 || two.N != 2 {
		t.Errorf("%v: the initiator's ciphers are %v and %v", b.h[0].P, one, two)
	}
}

// P12.5 and P12.2: each pattern, with what is kept of the keys and of the psks.
func TestSides(t *testing.T) {
	for _, p := range patterns(t) {
		a := scene(t, 10000)
		b := pair(t, a, p)
		used := 0
		for i, m := range p.Msgs {
			b.wantTurns(t, i)
			msg := b.pass(t, i, []int{payload, 0, prologue, re}[i%4])
			used += count(m.T, token.PSK)
			for role, h := range b.h {
				if h.At != i+1 || h.Next != used || h.Role != role || !token.Same(h.P, p) || h.Y != b.h[0].Y {
					t.Fatalf("%v: after message %d: %v", p, i, h)
				}
			}
			if len(msg) != 1+count(m.T, token.E)+count(m.T, token.S) {
				t.Fatalf("%v: message %d has %d parts", p, i, len(msg))
			}
		}
		b.wantTurns(t, len(p.Msgs))
		b.wantDone(t)
		b.wantKeys(t)
	}
}

// count returns how often a token is among some.
func count(tokens []int, t int) int {
	n := 0
	for _, other := range tokens {
		if other == t {
			n++
		}
	}
	return n
}

// wantTurns asks for Mine and Done before the message with that index.
func (b *both) wantTurns(t *testing.T, i int) {
	t.Helper()
	for role, h := range b.h {
		mine := i < len(h.P.Msgs) && h.P.Msgs[i].From == role
		if h.Mine() != mine || h.Done() != (i == len(h.P.Msgs)) {
			t.Fatalf("%v: before message %d: Mine %v, Done %v", h.P, i, h.Mine(), h.Done())
		}
	}
}

// wantKeys asks that each side has the keys that were announced, and no others.
func (b *both) wantKeys(t *testing.T) {
	t.Helper()
	s, e := [2]int{ownS, otherS}, [2]int{ownE, otherE}
	p := b.h[0].P
	for role, h := range b.h {
		k := shake.Keys{Psks: psks1(pskTokens(p))}
		for _, c := range []struct {
			is  bool
			to  *int
			ref int
		}{
			{says(p, role, token.S, true), &k.S, s[role]},
			{says(p, role, token.E, true), &k.E, e[role]},
			{says(p, 1-role, token.S, true), &k.RS, make1(t, b.a, pub(s[1-role]))},
			{says(p, 1-role, token.E, true), &k.RE, make1(t, b.a, pub(e[1-role]))},
		} {
			if c.is {
				*c.to = c.ref
			}
		}
		if !sameKeys(h.K, k) {
			t.Errorf("%v, role %d: %v, not %v", p, role, h.K, k)
		}
	}
}

// P12.5: each side may have just what it needs, any terms as secrets, and the same ones as the other side.
func TestSidesAnySecrets(t *testing.T) {
	r := rand.New(rand.NewSource(5))
	known := patterns(t)
	for range 3000 {
		a := scene(t, 1000)
		p := known[r.Intn(len(known))]
		var secret [2][2]int // by role: the static one, and that of the pre-message
		psks := make([]int, pskTokens(p))
		for i := range psks {
			psks[i] = r.Intn(a.Len())
		}
		for role := range secret {
			secret[role] = [2]int{1 + r.Intn(size-1), 1 + r.Intn(size-1)}
		}
		b := &both{a: a}
		at := r.Intn(size)
		for role := range 2 {
			n, _ := need.Of(p, role)
			k := shake.Keys{Psks: slices.Clone(psks)}
			for i, is := range []bool{n.S, n.E} {
				if is {
					k = with(k, i, secret[role][i])
				}
			}
			for i, is := range []bool{n.RS, n.RE} {
				if is {
					k = with(k, 2+i, make1(t, a, pub(secret[1-role][i])))
				}
			}
			var e api.Errno
			if b.h[role], e = shake.Start(a, p, role, at, k); e != api.OK {
				t.Fatalf("Start of %v for %d: error %d", p, role, e)
			}
		}
		b.random(t, r)
		b.wantDone(t)
	}
}

// random passes all messages with random ephemeral secrets and payloads; each call is made twice, and a message that
// was changed is tried in between: states stay as they are.
func (b *both) random(t *testing.T, r *rand.Rand) {
	t.Helper()
	for _, m := range b.h[0].P.Msgs {
		e, p := 1+r.Intn(size-1), r.Intn(b.a.Len())
		w := write(b.h[m.From], e, p).do(t, b.a)
		want(t, write(b.h[m.From], e, p), b.a, w)
		changed := slices.Clone(w.msg)
		changed[r.Intn(len(changed))] = r.Intn(b.a.Len())
		read(b.h[1-m.From], changed).do(t, b.a)
		back := read(b.h[1-m.From], w.msg).do(t, b.a)
		if w.e != api.OK || back.e != api.OK || back.ref != p || back.h.Y != w.h.Y {
			t.Fatalf("%v: Write: %v; Read: %v", b.h[0].P, w, back)
		}
		b.h[m.From], b.h[1-m.From] = w.h, back.h
	}
}

// wantApart asks that two sides never have the same hash, and that a message cannot be opened, the last one at the
// latest; it returns the index of that one.
func (b *both) wantApart(t *testing.T) int {
	t.Helper()
	p := b.h[0].P
	for i, m := range p.Msgs {
		w := write(b.h[m.From], ephemeral(m.From), payload).do(t, b.a)
		back := read(b.h[1-m.From], w.msg).do(t, b.a)
		if w.e != api.OK {
			t.Fatalf("%v: Write: error %d", p, w.e)
		}
		if sealed(b.a, w.msg[len(w.msg)-1]) {
			if !sameResult(back, failed(api.ErrOpen)) {
				t.Errorf("%v: message %d was read: %v", p, i, back)
			}
			return i
		}
		if back.e != api.OK || back.h.Y.H == w.h.Y.H {
			t.Errorf("%v: message %d without a key: %v and %v", p, i, w, back)
		}
		b.h[m.From], b.h[1-m.From] = w.h, back.h
	}
	t.Errorf("%v: all messages were read", p)
	return -1
}

// P12.5: with another prologue, or a Name that differs, the sides do not come together.
func TestOtherPrologue(t *testing.T) {
	for _, p := range patterns(t) {
		b := pair(t, scene(t, 10000), p)
		k := sides(t, b.a, psks1(pskTokens(p)))
		one, _ := shake.Start(b.a, p, 1, payload, k[1])
		p.Name = "Another"
		two, _ := shake.Start(b.a, p, 1, prologue, k[1])
		h := b.h
		for _, other := range []shake.Shake{one, two} {
			b.h = [2]shake.Shake{h[0], other}
			b.wantApart(t)
		}
	}
}

// P12.5: with another psk, the first message with it in it is not opened; those before it are.
func TestOtherPsk(t *testing.T) {
	for _, p := range patterns(t) {
		many := pskTokens(p)
		for place := range many {
			for role := range 2 {
				b := pair(t, scene(t, 10000), p)
				k := sides(t, b.a, psks1(many))[role]
				k.Psks[place] = psk3
				var e api.Errno
				if b.h[role], e = shake.Start(b.a, p, role, prologue, k); e != api.OK {
					t.Fatalf("Start of %v: error %d", p, e)
				}
				b.wantPskMissed(t, place)
			}
		}
	}
}

// wantPskMissed asks that messages are read up to that with the psk of this number, and not that one.
func (b *both) wantPskMissed(t *testing.T, place int) {
	t.Helper()
	for i, m := range b.h[0].P.Msgs {
		if place -= count(m.T, token.PSK); place >= 0 {
			b.pass(t, i, payload)
			continue
		}
		w := write(b.h[m.From], ephemeral(m.From), payload).do(t, b.a)
		if back := read(b.h[1-m.From], w.msg).do(t, b.a); w.e != api.OK || !sameResult(back, failed(api.ErrOpen)) {
			t.Errorf("%v with another psk: message %d: error %d; Read: %v", b.h[0].P, i, w.e, back)
		}
		return
	}
}

// P12.5: the same psks in another order are other ones.
func TestPsksInOtherOrder(t *testing.T) {
	p := named(t, "NNpsk0+psk2")
	a := scene(t, 1000)
	b := &both{a: a}
	for role, psks := range [][]int{{psk1, psk2}, {psk2, psk1}} {
		b.h[role], _ = shake.Start(a, p, role, prologue, shake.Keys{Psks: psks})
	}
	b.wantPskMissed(t, 0)
}

// P12.5: a side that has another key beforehand than the other side has announced does not come together with it.
func TestOtherKeysBeforehand(t *testing.T) {
	tried := 0
	for _, p := range patterns(t) {
		for role := range 2 {
			n, _ := need.Of(p, role)
			for i, is := range []bool{n.RS, n.RE} {
				if !is {
					continue
				}
				b := pair(t, scene(t, 10000), p)
				h := b.h
				for _, other := range []int{make1(t, b.a, pub(psk3)), payload} {
					b.h = h
					k := with(sides(t, b.a, psks1(n.Psks))[role], 2+i, other)
					b.h[role], _ = shake.Start(b.a, p, role, prologue, k)
					b.wantApart(t)
					tried++
				}
			}
		}
	}
	if tried < 1000 {
		t.Errorf("only %d keys", tried)
	}
}

// P12.4: the ciphers are those of Split, of which the initiator sends with the first one.
func TestCiphersOfSplit(t *testing.T) {
	for _, p := range patterns(t) {
		b := pair(t, scene(t, 10000), p)
		for i := range p.Msgs {
			want(t, ciphers(b.h[0]), b.a, failed(api.ErrTurn))
			want(t, ciphers(b.h[1]), b.a, failed(api.ErrTurn))
			b.pass(t, i, payload)
		}
		n := b.a.Len()
		for role, h := range b.h {
			one, two, e := h.Y.Split(b.a)
			if role == 1 {
				one, two = two, one
			}
			r := ciphers(h).do(t, b.a)
			if e != api.OK || r.e != api.OK || r.send != one || r.recv != two {
				t.Errorf("%v, role %d: %v", p, role, r)
			}
		}
		if b.a.Len() != n+2 {
			t.Errorf("%v: %d terms were made", p, b.a.Len()-n)
		}
	}
}

// roomy returns the numbers in a list with spare capacity.
func roomy(l []int) []int { return append(make([]int, 0, len(l)+3), l...) }

// roomyPattern returns a pattern whose lists all have spare capacity, also those that are empty.
func roomyPattern(p token.Pattern) token.Pattern {
	p = copyPattern(p)
	for role := range p.Pre {
		p.Pre[role] = roomy(p.Pre[role])
	}
	p.Msgs = append(make([]token.Msg, 0, len(p.Msgs)+3), p.Msgs...)
	for i := range p.Msgs {
		p.Msgs[i].T = roomy(p.Msgs[i].T)
	}
	return p
}

// overwrite replaces all of a list, with its spare capacity.
func overwrite(l []int) {
	l = l[:cap(l)]
	for i := range l {
		l[i] = -7
	}
}

// overwritePattern replaces all in a pattern's lists.
func overwritePattern(p token.Pattern) {
	for _, l := range p.Pre {
		overwrite(l)
	}
	for _, m := range p.Msgs {
		overwrite(m.T)
	}
	msgs := p.Msgs[:cap(p.Msgs)]
	for i := range msgs {
		msgs[i] = token.Msg{From: -7}
	}
}

// P12.1: nothing of the pattern and the keys is kept.
func TestStartKeepsNoMemory(t *testing.T) {
	for _, p := range patterns(t) {
		a := scene(t, 1000)
		for role := range 2 {
			q, k := roomyPattern(p), all(0)
			k.Psks = roomy(psks1(pskTokens(p)))
			r := start(q, role, prologue, k).do(t, a)
			h := copyState(r.h)
			overwritePattern(q)
			overwrite(k.Psks)
			if r.e != api.OK || !sameState(r.h, h) || !token.Same(h.P, p) {
				t.Fatalf("%v: %v, then %v, error %d", p, h, r.h, r.e)
			}
		}
	}
}

// P12.2 and P12.3: a message is new memory, and none of one that is read is kept.
func TestMessagesAreNew(t *testing.T) {
	for _, p := range patterns(t) {
		a := scene(t, 10000)
		b := pair(t, a, p)
		for i, m := range p.Msgs {
			from, to := b.h[m.From], b.h[1-m.From]
			one := write(from, ephemeral(m.From), payload).do(t, a)
			two := write(from, ephemeral(m.From), payload).do(t, a)
			msg := slices.Clone(one.msg)
			overwrite(one.msg)
			if !slices.Equal(two.msg, msg) || !sameState(one.h, two.h) {
				t.Fatalf("%v: message %d: %v, not %v", p, i, two.msg, msg)
			}
			given := roomy(msg)
			back := read(to, given).do(t, a)
			h := copyState(back.h)
			overwrite(given)
			overwrite(two.msg)
			if back.e != api.OK || !sameState(back.h, h) {
				t.Fatalf("%v: message %d: %v, then %v", p, i, h, back.h)
			}
			b.h[m.From], b.h[1-m.From] = two.h, back.h
		}
		b.wantDone(t)
	}
}

// P12.1 to P12.4: states of one handshake go on in any order, and each goes on as if it were the only one.
func TestStatesAreValues(t *testing.T) {
	a := scene(t, 1000)
	p := named(t, "XXpsk0+psk3")
	b := pair(t, a, p)
	first := b.h
	var ends [][2]sym.Sym
	for _, x := range []int{payload, prologue, payload} {
		b.h = first
		for i := range p.Msgs {
			b.pass(t, i, x)
		}
		b.wantDone(t)
		ends = append(ends, [2]sym.Sym{b.h[0].Y, b.h[1].Y})
	}
	if ends[0] != ends[2] || ends[0] == ends[1] {
		t.Errorf("states at the end: %v", ends)
	}
}
