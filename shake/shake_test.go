package shake_test

import (
	"math"
	"reflect"
	"slices"
	"strconv"
	"strings"
	"testing"

	"undertone/api"
	"undertone/base"
	"undertone/cipher"
	"undertone/need"
	"undertone/shake"
	"undertone/sym"
	"undertone/term"
	"undertone/token"
)

// The terms of a scene, as one participant sees them: its own secrets, the
// other one's, psks, a payload, a prologue, and the other one's public keys.
const (
	ownS = 1 + iota
	ownE
	otherS
	otherE
	psk1
	psk2
	psk3
	payload
	prologue
	rs
	re
	size
)

// psks are those of a scene.
var psks = []int{psk1, psk2, psk3}

// make1 makes a term that must be possible to make.
func make1(t *testing.T, a *term.Arena, n term.Node) int {
	t.Helper()
	ref, e := a.Mk(n)
	if e != api.OK {
		t.Fatalf("Mk(%v): error %d", n, e)
	}
	return ref
}

func pub(x int) term.Node { return term.Node{Kind: term.Pub, A: x} }

// scene returns an arena with the terms of a scene, and space for that many more.
func scene(t *testing.T, space int) *term.Arena {
	t.Helper()
	a := term.New(size + space)
	for n := range uint64(prologue) {
		make1(t, a, term.Node{Kind: term.Name, N: n + 1})
	}
	make1(t, a, pub(otherS))
	make1(t, a, pub(otherE))
	return a
}

// nodes returns all that an arena holds.
func nodes(a *term.Arena) []term.Node {
	var l []term.Node
	for ref := range a.Len() {
		n, _ := a.Get(ref)
		l = append(l, n)
	}
	return l
}

// holding returns an arena with these terms, and space for that many more.
func holding(t *testing.T, l []term.Node, space int) *term.Arena {
	t.Helper()
	a := term.New(len(l) + space)
	for _, n := range l {
		make1(t, a, n)
	}
	return a
}

// noRefs returns numbers that are no refs of an arena.
func noRefs(a *term.Arena) []int {
	return []int{-1, a.Len(), -2, a.Len() + 1, math.MinInt, math.MaxInt, math.MinInt32, math.MaxInt32, 1 << 16, 1 << 32, 1<<32 + 1}
}

// lines returns the pattern of a text without its first line; the lines are separated by semicolons.
func lines(t *testing.T, text string) token.Pattern {
	t.Helper()
	p, e := token.Parse("Lines:\n" + strings.ReplaceAll(text, "; ", "\n") + "\n")
	if e != api.OK {
		t.Fatalf("%q is no pattern", text)
	}
	return p
}

// named returns the pattern of a name.
func named(t *testing.T, name string) token.Pattern {
	t.Helper()
	p, e := base.Named(name)
	if e != api.OK {
		t.Fatalf("Named(%q): error %d", name, e)
	}
	return p
}

// keysOf returns keys of a scene, by the names of those that there are, with as many psks.
func keysOf(names string, many int) shake.Keys {
	refs := map[string]int{"S": ownS, "E": ownE, "RS": rs, "RE": re}
	k := map[string]int{}
	for _, name := range strings.Fields(names) {
		k[name] = refs[name]
	}
	return shake.Keys{S: k["S"], E: k["E"], RS: k["RS"], RE: k["RE"], Psks: slices.Clone(psks[:many])}
}

// all returns all the keys of a scene, with as many psks.
func all(many int) shake.Keys { return keysOf("S E RS RE", many) }

// result is what a call returns: each call has some of these.
type result struct {
	h          shake.Shake
	msg        []int
	ref        int
	send, recv cipher.Cipher
	e          api.Errno
}

// failed is what is returned with an error.
func failed(e api.Errno) result { return result{e: e} }

// sameState compares states, in which nil and empty lists are equal.
func sameState(g, h shake.Shake) bool {
	return g.Role == h.Role && g.At == h.At && g.Next == h.Next && token.Same(g.P, h.P) && sameKeys(g.K, h.K) && g.Y == h.Y
}

func sameKeys(k, l shake.Keys) bool {
	return k.S == l.S && k.E == l.E && k.RS == l.RS && k.RE == l.RE && slices.Equal(k.Psks, l.Psks)
}

func sameResult(q, r result) bool {
	return sameState(q.h, r.h) && slices.Equal(q.msg, r.msg) && q.ref == r.ref && q.send == r.send && q.recv == r.recv && q.e == r.e
}

// copyPattern returns a copy that shares no memory.
func copyPattern(p token.Pattern) token.Pattern {
	for role := range p.Pre {
		p.Pre[role] = slices.Clone(p.Pre[role])
	}
	p.Msgs = slices.Clone(p.Msgs)
	for i := range p.Msgs {
		p.Msgs[i].T = slices.Clone(p.Msgs[i].T)
	}
	return p
}

// copyState returns a copy that shares no memory.
func copyState(h shake.Shake) shake.Shake {
	h.P, h.K.Psks = copyPattern(h.P), slices.Clone(h.K.Psks)
	return h
}

// call is one of the calls with all its arguments but the arena.
type call struct {
	name string
	do   func(t *testing.T, a *term.Arena) result
}

// stays asks that what was given to a call is as it was.
func stays(t *testing.T, name string, before, after any) {
	t.Helper()
	if !reflect.DeepEqual(before, after) {
		t.Errorf("%s changed %v to %v", name, before, after)
	}
}

func start(p token.Pattern, role, prologue int, k shake.Keys) call {
	return call{"Start", func(t *testing.T, a *term.Arena) (r result) {
		q, psks := copyPattern(p), slices.Clone(k.Psks)
		r.h, r.e = shake.Start(a, p, role, prologue, k)
		stays(t, "Start", q, p)
		stays(t, "Start", psks, k.Psks)
		return r
	}}
}

func write(h shake.Shake, e, payload int) call {
	return call{"Write", func(t *testing.T, a *term.Arena) (r result) {
		g := copyState(h)
		r.h, r.msg, r.e = h.Write(a, e, payload)
		stays(t, "Write", g, h)
		return r
	}}
}

func read(h shake.Shake, msg []int) call {
	return call{"Read", func(t *testing.T, a *term.Arena) (r result) {
		g, m := copyState(h), slices.Clone(msg)
		r.h, r.ref, r.e = h.Read(a, msg)
		stays(t, "Read", g, h)
		stays(t, "Read", m, msg)
		return r
	}}
}

func ciphers(h shake.Shake) call {
	return call{"Ciphers", func(t *testing.T, a *term.Arena) (r result) {
		g := copyState(h)
		r.send, r.recv, r.e = h.Ciphers(a)
		stays(t, "Ciphers", g, h)
		return r
	}}
}

// want asks for the result of a call that makes just these terms, in this order.
func want(t *testing.T, c call, a *term.Arena, r result, made ...term.Node) {
	t.Helper()
	before := nodes(a)
	if got := c.do(t, a); !sameResult(got, r) {
		t.Errorf("%s:\n%v, not\n%v", c.name, got, r)
	}
	if after := nodes(a); !slices.Equal(after, append(before, made...)) {
		t.Errorf("%s made %v, not %v", c.name, after[min(len(after), len(before)):], made)
	}
}

// wantFull asks for the same as want in an arena with these terms that has just enough space, and for ErrFull where
// there is less: then, what has space is made and stays.
func wantFull(t *testing.T, c call, l []term.Node, r result, made ...term.Node) {
	t.Helper()
	for space := range made {
		want(t, c, holding(t, l, space), failed(api.ErrFull), made[:space]...)
	}
	a := holding(t, l, len(made))
	want(t, c, a, r, made...)
	// All is there now, so that the full arena is no hindrance.
	want(t, c, a, r)
}

// book keeps what the chapter's steps lead to, one by one.
type book struct {
	t   *testing.T
	a   *term.Arena
	h   shake.Shake
	msg []int
}

func (b *book) did(y sym.Sym, e api.Errno) {
	b.t.Helper()
	if e != api.OK {
		b.t.Fatalf("error %d", e)
	}
	b.h.Y = y
}

func (b *book) begin(prologue int) { b.did(sym.Begin(b.a, b.h.P.Name, prologue)) }

func (b *book) seal(p int) {
	y, x, e := b.h.Y.Seal(b.a, p)
	b.did(y, e)
	b.msg = append(b.msg, x)
}

// mix mixes a public key into the hash, and into the chaining key if the word has a star.
func (b *book) mix(word string, x int) {
	b.did(b.h.Y.MixHash(b.a, x))
	if strings.HasSuffix(word, "*") {
		b.did(b.h.Y.MixKey(b.a, x))
	}
}

func (b *book) share(x, y int) {
	z, e := b.a.Share(x, y)
	b.did(b.h.Y, e)
	b.did(b.h.Y.MixKey(b.a, z))
}

// pre is a token of a pre-message: an own key, or the other one's, which has an R.
func (b *book) pre(word string) {
	switch word {
	case "S":
		b.mix(word, make1(b.t, b.a, pub(ownS)))
	case "E", "E*":
		b.mix(word, make1(b.t, b.a, pub(ownE)))
	case "RS":
		b.mix(word, rs)
	case "RE", "RE*":
		b.mix(word, re)
	default:
		b.t.Fatalf("%q", word)
	}
}

// step is a token of a message, or the payload: a key with an R is read, other keys are written.
func (b *book) step(word string) {
	switch word {
	case "S":
		b.seal(make1(b.t, b.a, pub(ownS)))
	case "E", "E*":
		b.h.K.E = ownE
		b.msg = append(b.msg, make1(b.t, b.a, pub(ownE)))
		b.mix(word, b.msg[len(b.msg)-1])
	case "RS":
		b.h.K.RS = rs
		b.seal(rs)
	case "RE", "RE*":
		b.h.K.RE = re
		b.msg = append(b.msg, re)
		b.mix(word, re)
	case "E.RE":
		b.share(ownE, re)
	case "E.RS":
		b.share(ownE, rs)
	case "S.RE":
		b.share(ownS, re)
	case "S.RS":
		b.share(ownS, rs)
	case "psk":
		b.did(b.h.Y.MixBoth(b.a, psks[b.h.Next]))
		b.h.Next++
	case "payload":
		b.seal(payload)
	default:
		b.t.Fatalf("%q", word)
	}
}

// started goes through the words of the pre-messages.
func (b *book) started(words string) {
	b.begin(prologue)
	for _, w := range strings.Fields(words) {
		b.pre(w)
	}
}

// passed goes through the words of the next message, and the payload.
func (b *book) passed(words string) {
	b.msg = nil
	for _, w := range append(strings.Fields(words), "payload") {
		b.step(w)
	}
	b.h.At++
}

// view is what one participant does: the keys that it needs, and the words of what it processes.
type view struct {
	keys, pre string
	msgs      []string
}

// row is a pattern, and what both do.
type row struct {
	text  string
	psks  int
	views [2]view
}

// rows have each token, written and read by both roles, with and without a psk.
var rows = []row{
	{"<- s; ...; -> e, es", 0, [2]view{ // N
		{"RS", "RS", []string{"E E.RS"}},
		{"S", "S", []string{"RE S.RE"}},
	}},
	{"-> s; <- s; ...; -> e, es, ss", 0, [2]view{ // K
		{"S RS", "S RS", []string{"E E.RS S.RS"}},
		{"S RS", "RS S", []string{"RE S.RE S.RS"}},
	}},
	{"-> e; <- e, ee", 0, [2]view{ // NN
		{"", "", []string{"E", "RE E.RE"}},
		{"", "", []string{"RE", "E E.RE"}},
	}},
	{"-> e; <- e, ee, s, es; -> s, se", 0, [2]view{ // XX
		{"S", "", []string{"E", "RE E.RE RS E.RS", "S S.RE"}},
		{"S", "", []string{"RE", "E E.RE S S.RE", "RS E.RS"}},
	}},
	{"-> s; ...; -> e; <- e, ee, se, s, es", 0, [2]view{ // KX
		{"S", "S", []string{"E", "RE E.RE S.RE RS E.RS"}},
		{"S RS", "RS", []string{"RE", "E E.RE E.RS S S.RE"}},
	}},
	{"<- s; ...; -> e, es, s, ss; <- e, ee, se", 0, [2]view{ // IK
		{"S RS", "RS", []string{"E E.RS S S.RS", "RE E.RE S.RE"}},
		{"S", "S", []string{"RE S.RE RS S.RS", "E E.RE E.RS"}},
	}},
	{"-> psk, e; <- e, ee, psk", 2, [2]view{ // NNpsk0+psk2
		{"", "", []string{"psk E*", "RE* E.RE psk"}},
		{"", "", []string{"psk RE*", "E* E.RE psk"}},
	}},
	{"-> e; <- e, ee, s, es; -> s, se, psk", 1, [2]view{ // XXpsk3
		{"S", "", []string{"E*", "RE* E.RE RS E.RS", "S S.RE psk"}},
		{"S", "", []string{"RE*", "E* E.RE S S.RE", "RS E.RS psk"}},
	}},
	{"-> e; ...; <- e, ee, s, es; -> s, se", 0, [2]view{ // XXfallback
		{"S E", "E", []string{"RE E.RE RS E.RS", "S S.RE"}},
		{"S RE", "RE", []string{"E E.RE S S.RE", "RS E.RS"}},
	}},
	{"-> e; ...; <- psk, e, ee, s, es; -> s, se", 1, [2]view{ // XXfallback+psk0
		{"S E", "E*", []string{"psk RE* E.RE RS E.RS", "S S.RE"}},
		{"S RE", "RE*", []string{"psk E* E.RE S S.RE", "RS E.RS"}},
	}},
	{"-> e, s; <- e, s; ...; <- ee, es, se, ss, psk; -> psk, psk", 3, [2]view{
		{"S E RS RE", "E* S RE* RS", []string{"E.RE E.RS S.RE S.RS psk", "psk psk"}},
		{"S E RS RE", "RE* RS E* S", []string{"E.RE S.RE E.RS S.RS psk", "psk psk"}},
	}},
	{"-> e, s; <- e, s; ...; -> ss, se, es, ee; <- psk", 1, [2]view{
		{"S E RS RE", "E* S RE* RS", []string{"S.RS S.RE E.RS E.RE", "psk"}},
		{"S E RS RE", "RE* RS E* S", []string{"S.RS E.RS S.RE E.RE", "psk"}},
	}},
	{"<- e, s; -> e, ee, es, s, se", 0, [2]view{
		{"S", "", []string{"RE RS", "E E.RE E.RS S S.RE"}},
		{"S", "", []string{"E S", "RE E.RE S.RE RS E.RS"}},
	}},
	{"<- e; ...; -> s; <- s; -> e, ee, se, es, ss, psk", 1, [2]view{
		{"S RE", "RE*", []string{"S", "RS", "E* E.RE S.RE E.RS S.RS psk"}},
		{"S E", "E*", []string{"RS", "S", "RE* E.RE E.RS S.RE S.RS psk"}},
	}},
	{"-> e; ...; -> s; <- e, ee, se", 0, [2]view{
		{"S E", "E", []string{"S", "RE E.RE S.RE"}},
		{"RE", "RE", []string{"RS", "E E.RE E.RS"}},
	}},
}

// begun returns the book of a row for a role after the pre-messages.
func (c row) begun(t *testing.T, role int) *book {
	t.Helper()
	b := &book{t: t, a: scene(t, 1000)}
	b.h = shake.Shake{Role: role, P: lines(t, c.text), K: keysOf(c.views[role].keys, c.psks)}
	b.started(c.views[role].pre)
	return b
}

// mine tells whether there is a next message, and it is one's own.
func (b *book) mine() bool { return b.h.At < len(b.h.P.Msgs) && b.h.P.Msgs[b.h.At].From == b.h.Role }

// done tells whether all messages were processed.
func (b *book) done() bool { return b.h.At == len(b.h.P.Msgs) }

// next is the call that processes the next message, the terms that have to be there, and those that it makes.
func (b *book) next(words string) (c call, there, made []term.Node, r result) {
	b.t.Helper()
	h, from, mine := b.h, b.a.Len(), b.mine()
	b.passed(words)
	l := nodes(b.a)
	if mine {
		// The secret is for an E; where there is none, any ref will do, and 0.
		e := []int{0, prologue}[h.At%2]
		if l := strings.Fields(words); slices.Contains(l, "E") || slices.Contains(l, "E*") {
			e = ownE
		}
		return write(h, e, payload), l[:from], l[from:], result{h: b.h, msg: b.msg}
	}
	// The other one's message is there as it was sent.
	from = max(from, slices.Max(b.msg)+1)
	return read(h, b.msg), l[:from], l[from:], result{h: b.h, ref: payload}
}

// P12.1 to P12.4: each step of each row, for both roles, in an arena that is full at each term.
func TestRows(t *testing.T) {
	for _, c := range rows {
		for role, v := range c.views {
			b := c.begun(t, role)
			l := nodes(b.a)
			for _, k := range []shake.Keys{keysOf(v.keys, c.psks), all(c.psks)} {
				wantFull(t, start(b.h.P, role, prologue, k), l[:size], result{h: b.h}, l[size:]...)
			}
			for _, words := range v.msgs {
				wantTurn(t, b)
				c, there, made, r := b.next(words)
				wantFull(t, c, there, r, made...)
			}
			wantTurn(t, b)
			one, two, _ := b.h.Y.Split(b.a.Copy())
			if role == api.Responder {
				one, two = two, one
			}
			wantFull(t, ciphers(b.h), nodes(b.a), result{send: one, recv: two}, splitNodes(b.h.Y)...)
		}
		if t.Failed() {
			t.Fatalf("in %q", c.text)
		}
	}
}

// splitNodes are the terms that Split makes.
func splitNodes(y sym.Sym) []term.Node {
	return []term.Node{{Kind: term.Key, N: 1, A: y.Ck}, {Kind: term.Key, N: 2, A: y.Ck}}
}

// wantTurn asks for Mine and Done, and for ErrTurn of all calls that are not due, whatever is given to them.
func wantTurn(t *testing.T, b *book) {
	t.Helper()
	if b.h.Mine() != b.mine() || b.h.Done() != b.done() {
		t.Errorf("message %d of %v: Mine %v, Done %v", b.h.At, b.h.P, b.h.Mine(), b.h.Done())
	}
	for _, space := range []int{0, 100} {
		a := holding(t, nodes(b.a), space)
		for _, ref := range []int{0, 1, -1, a.Len(), math.MaxInt} {
			for _, other := range []int{0, 1, -1, a.Len(), math.MinInt} {
				if !b.mine() {
					want(t, write(b.h, ref, other), a, failed(api.ErrTurn))
				}
				if b.mine() || b.done() {
					for _, msg := range [][]int{nil, {}, {ref}, {ref, other}, {ref, other, 1, 2, 3}} {
						want(t, read(b.h, msg), a, failed(api.ErrTurn))
					}
				}
			}
		}
		if !b.done() {
			want(t, ciphers(b.h), a, failed(api.ErrTurn))
		}
	}
}

// The rows are what the document says of need, and each key is needed, and not, by both roles.
func TestRowsNeed(t *testing.T) {
	for _, c := range rows {
		for role, v := range c.views {
			n, e := need.Of(lines(t, c.text), role)
			k := keysOf(v.keys, c.psks)
			if e != api.OK || n != (need.Keys{S: k.S != 0, E: k.E != 0, RS: k.RS != 0, RE: k.RE != 0, Psks: c.psks}) {
				t.Errorf("%q, role %d: %v, error %d", c.text, role, n, e)
			}
		}
	}
}

// The chapter's example, and the number of parts in others.
func TestExample(t *testing.T) {
	for name, want := range map[string]string{"XX": "2 3 2", "NN": "2 2", "N": "2", "X": "3", "IK": "3 2", "IX": "3 3", "KK": "2 2", "XXfallback": "3 2", "XXpsk0+psk3": "2 3 2"} {
		p := named(t, name)
		h := pair(t, scene(t, 1000), p)
		got := ""
		for i := range p.Msgs {
			got += " " + strconv.Itoa(len(h.pass(t, i, payload)))
		}
		if got[1:] != want {
			t.Errorf("%s: messages of%s parts, not %s", name, got, want)
		}
	}
}

// both is the two sides of a handshake.
type both struct {
	a *term.Arena
	h [2]shake.Shake
}

// pair returns both sides at the start: they have each other's public keys, and more than they need.
func pair(t *testing.T, a *term.Arena, p token.Pattern) *both {
	t.Helper()
	b := &both{a: a}
	n, _ := need.Of(p, api.Initiator)
	for role, k := range sides(t, a, psks1(n.Psks)) {
		var e api.Errno
		if b.h[role], e = shake.Start(a, p, role, prologue, k); e != api.OK {
			t.Fatalf("Start of %v for %d: error %d", p, role, e)
		}
	}
	return b
}

// psks1 returns as many psks, of which some are equal, and some are 0.
func psks1(many int) []int {
	var l []int
	for n := range many {
		l = append(l, []int{psk1, psk2, psk2, 0}[n%4])
	}
	return l
}

// sides returns the keys of both: of each, the static secret, an ephemeral one, and the other one's public keys.
func sides(t *testing.T, a *term.Arena, psks []int) [2]shake.Keys {
	t.Helper()
	s, e := make1(t, a, pub(ownS)), make1(t, a, pub(ownE))
	return [2]shake.Keys{
		{S: ownS, E: ownE, RS: rs, RE: re, Psks: slices.Clone(psks)},
		{S: otherS, E: otherE, RS: s, RE: e, Psks: slices.Clone(psks)},
	}
}

// ephemeral is the secret for an E of a role.
func ephemeral(role int) int { return []int{ownE, otherE}[role] }

// pass lets one side write the message with that index, and the other one read it; it returns the message.
func (b *both) pass(t *testing.T, i, p int) []int {
	t.Helper()
	from := b.h[0].P.Msgs[i].From
	w := write(b.h[from], ephemeral(from), p).do(t, b.a)
	r := read(b.h[1-from], w.msg).do(t, b.a)
	if w.e != api.OK || r.e != api.OK || r.ref != p {
		t.Fatalf("%v: Write: error %d; Read: %d, error %d", b.h[0].P, w.e, r.ref, r.e)
	}
	b.h[from], b.h[1-from] = w.h, r.h
	return w.msg
}

// wrong are patterns that are not valid.
func wrong() []token.Pattern {
	msgs := []token.Msg{{From: 0, T: []int{token.E}}, {From: 1, T: []int{token.E, token.EE}}}
	return []token.Pattern{
		{},
		{Name: "A"},
		{Msgs: msgs},
		{Name: "A B", Msgs: msgs},
		{Name: strings.Repeat("A", 21), Msgs: msgs},
		{Name: "A", Msgs: msgs[1:], Pre: [2][]int{{token.S, token.E}, nil}},
		{Name: "A", Msgs: msgs[1:], Pre: [2][]int{{token.E}, {token.PSK}}},
		{Name: "A", Msgs: []token.Msg{{From: 2, T: []int{token.E}}}},
		{Name: "A", Msgs: []token.Msg{{From: 0, T: []int{token.E, 8}}}},
		{Name: "A", Msgs: []token.Msg{{From: 0}}},
		{Name: "A", Msgs: slices.Repeat(msgs, 4)},
	}
}

// P12.1: the error of need.Of comes first, whatever else is wrong.
func TestStartNeed(t *testing.T) {
	for _, space := range []int{0, 1000} {
		a := scene(t, space)
		keys := []shake.Keys{{}, all(0), all(3), {S: -1}, {S: -1, E: a.Len(), RS: -1, RE: -1, Psks: []int{-1}}}
		for _, k := range keys {
			for _, ref := range []int{0, prologue, -1, a.Len(), math.MaxInt} {
				for _, role := range []int{-1, 2, 3, -2, math.MinInt, math.MaxInt, 1 << 32, 1<<32 + 1} {
					want(t, start(named(t, "NN"), role, ref, k), a, failed(api.ErrArg))
					want(t, start(lines(t, "-> e"), role, ref, k), a, failed(api.ErrArg))
				}
				for role := range 2 {
					for _, p := range wrong() {
						want(t, start(p, role, ref, k), a, failed(api.ErrArg))
					}
					for _, text := range []string{"-> e", "-> e; <- e", "-> e; <- e, es", "-> s; <- s", "-> e; -> ee", "-> s; ...; -> s, e; <- e, ee"} {
						want(t, start(lines(t, text), role, ref, k), a, failed(api.ErrRule))
					}
				}
			}
		}
	}
}

// with returns the keys with one of them, by its number, replaced; the psks are the last ones.
func with(k shake.Keys, i, ref int) shake.Keys {
	k.Psks = slices.Clone(k.Psks)
	switch i {
	case 0:
		k.S = ref
	case 1:
		k.E = ref
	case 2:
		k.RS = ref
	case 3:
		k.RE = ref
	default:
		k.Psks[i-4] = ref
	}
	return k
}

// P12.1: a prologue, a key or a psk that is no ref is ErrArg, if it is needed or not, and if the keys are enough or not.
func TestStartArg(t *testing.T) {
	for _, space := range []int{0, 1000} {
		a := scene(t, space)
		for _, c := range rows {
			p := lines(t, c.text)
			for role, v := range c.views {
				for _, bad := range noRefs(a) {
					for many := range 4 {
						for _, k := range []shake.Keys{all(many), keysOf(v.keys, many), keysOf("", many)} {
							want(t, start(p, role, bad, k), a, failed(api.ErrArg))
							for i := range 4 + many {
								want(t, start(p, role, 0, with(k, i, bad)), a, failed(api.ErrArg))
								want(t, start(p, role, bad, with(k, i, bad)), a, failed(api.ErrArg))
							}
						}
					}
				}
			}
		}
	}
}

// P12.1: ErrKey if a key that is needed is 0, or the number of psks is another one; nothing is made.
func TestStartKey(t *testing.T) {
	for _, space := range []int{0, 1000} {
		a := scene(t, space)
		for _, c := range rows {
			p := lines(t, c.text)
			for role, v := range c.views {
				k := keysOf(v.keys, c.psks)
				for i, name := range []string{"S", "E", "RS", "RE"} {
					if slices.Contains(strings.Fields(v.keys), name) {
						want(t, start(p, role, prologue, with(all(c.psks), i, 0)), a, failed(api.ErrKey))
						want(t, start(p, role, prologue, with(k, i, 0)), a, failed(api.ErrKey))
					}
				}
				for many := range 20 {
					if many == c.psks {
						continue
					}
					for _, psk := range []int{0, psk1} {
						k.Psks = slices.Repeat([]int{psk}, many)
						want(t, start(p, role, prologue, k), a, failed(api.ErrKey))
					}
				}
			}
		}
	}
}

// P12.1: psks may be 0, which counts as one, and is mixed in as Empty.
func TestStartPsksEmpty(t *testing.T) {
	a := scene(t, 1000)
	p := lines(t, "-> psk, e; <- e, ee, psk")
	for bits := range 4 {
		k := keysOf("", 2)
		for i := range 2 {
			if bits>>i&1 == 0 {
				k.Psks[i] = 0
			}
		}
		h, e := shake.Start(a, p, 0, 0, k)
		if e != api.OK || !slices.Equal(h.K.Psks, k.Psks) || h.Next != 0 {
			t.Fatalf("psks %v: %v, error %d", k.Psks, h, e)
		}
		r := write(h, ownE, payload).do(t, a)
		y, _ := h.Y.MixBoth(a, k.Psks[0])
		y, _ = y.MixHash(a, r.msg[0])
		y, _ = y.MixKey(a, r.msg[0])
		y, x, _ := y.Seal(a, payload)
		if r.e != api.OK || r.h.Y != y || r.msg[1] != x || r.h.Next != 1 {
			t.Errorf("psks %v: %v", k.Psks, r)
		}
	}
}

// P12.1: nil and empty lists of psks are the same.
func TestStartNilAndEmpty(t *testing.T) {
	a := scene(t, 1000)
	p := named(t, "NN")
	one := start(p, 0, 0, shake.Keys{}).do(t, a)
	for i := range p.Pre {
		p.Pre[i] = []int{}
	}
	want(t, start(p, 0, 0, shake.Keys{Psks: []int{}}), a, one)
}

// P12.1: of the keys, just those are kept that are needed.
func TestStartKeeps(t *testing.T) {
	a := scene(t, 10000)
	for _, p := range patterns(t) {
		for role := range 2 {
			n, _ := need.Of(p, role)
			k := shake.Keys{Psks: psks1(n.Psks)}
			for i, is := range []bool{n.S, n.E, n.RS, n.RE} {
				if is {
					k = with(k, i, []int{ownS, ownE, rs, re}[i])
				}
			}
			given := all(0)
			given.Psks = k.Psks
			h, e := shake.Start(a, p, role, prologue, given)
			if e != api.OK || !sameKeys(h.K, k) || h.Role != role || h.At != 0 || h.Next != 0 || !token.Same(h.P, p) {
				t.Fatalf("%v, role %d: %v, error %d", p, role, h, e)
			}
		}
	}
}

// P12.1: keys may be any terms: a secret that is none, a public key that is none, and the same term for all.
func TestStartAnyKeys(t *testing.T) {
	p := lines(t, "-> e, s; <- e, s; ...; -> ee, es, se, ss, psk")
	for x := 1; x < size; x++ {
		a := scene(t, 100)
		h, e := shake.Start(a, p, 0, x, shake.Keys{S: x, E: x, RS: x, RE: x, Psks: []int{x}})
		y, _ := sym.Begin(a, p.Name, x)
		for i, z := range []int{make1(t, a, pub(x)), make1(t, a, pub(x)), x, x} {
			y, _ = y.MixHash(a, z)
			if i%2 == 0 {
				y, _ = y.MixKey(a, z)
			}
		}
		if e != api.OK || h.Y != y {
			t.Errorf("%d: %v, error %d", x, h, e)
		}
	}
}

// P12.1: the Name of the pattern and the prologue are in the state from the beginning.
func TestStartDiffers(t *testing.T) {
	a := scene(t, 1000)
	met := map[int]string{}
	for _, name := range []string{"NN", "NX", "Lines", "nn"} {
		p := named(t, "NN")
		p.Name = name
		for x := range size {
			for role := range 2 {
				h, e := shake.Start(a, p, role, x, shake.Keys{})
				y, _ := sym.Begin(a, name, x)
				at := name + strconv.Itoa(x)
				if other, is := met[h.Y.H]; e != api.OK || h.Y != y || is && other != at {
					t.Errorf("%q, %d: %v, error %d", name, x, h, e)
				}
				met[h.Y.H] = at
			}
		}
	}
}

// P12.2: an e or a payload that is no ref is ErrArg, also where no e is needed, and before the e that is 0.
func TestWriteArg(t *testing.T) {
	for _, c := range rows {
		for role, v := range c.views {
			b := c.begun(t, role)
			for _, words := range v.msgs {
				for _, space := range []int{0, 100} {
					a := holding(t, nodes(b.a), space)
					for _, bad := range noRefs(a) {
						if b.mine() {
							want(t, write(b.h, bad, payload), a, failed(api.ErrArg))
							want(t, write(b.h, ownE, bad), a, failed(api.ErrArg))
							want(t, write(b.h, 0, bad), a, failed(api.ErrArg))
							want(t, write(b.h, bad, bad), a, failed(api.ErrArg))
						}
					}
				}
				b.passed(words)
			}
		}
	}
}

// P12.2: an e that is 0 is ErrKey at an E, wherever it is: what the tokens before it make stays.
func TestWriteKey(t *testing.T) {
	for _, c := range []struct {
		text, pre string
		role      int
		before    []string // the words of the messages before
		words     string   // the words before the E
	}{
		{"-> e; <- e, ee", "", 0, nil, ""},
		{"-> e; <- e, ee", "", 1, []string{"RE"}, ""},
		{"-> psk, e; <- e, ee", "", 0, nil, "psk"},
		{"-> psk, psk, e; <- e, ee", "", 0, nil, "psk psk"},
		{"-> e; <- psk, e, ee", "", 1, []string{"RE*"}, "psk"},
		{"-> s, e; <- e, ee, se", "", 0, nil, "S"},
		{"-> s; <- s; ...; -> ss, e, es", "S RS", 0, nil, "S.RS"},
		{"-> s; <- s; ...; <- ss, e, se", "RS S", 1, nil, "S.RS"},
		{"<- e; ...; -> s, se, e, ee; <- psk", "RE*", 0, nil, "S S.RE"},
	} {
		p := lines(t, c.text)
		n, e := need.Of(p, c.role)
		if e != api.OK {
			t.Fatalf("%q: error %d", c.text, e)
		}
		b := &book{t: t, a: scene(t, 1000)}
		b.h = shake.Shake{Role: c.role, P: p, K: all(n.Psks)}
		b.started(c.pre)
		for _, words := range c.before {
			b.passed(words)
		}
		h, there := b.h, nodes(b.a)
		for _, w := range strings.Fields(c.words) {
			b.step(w)
		}
		made := nodes(b.a)[len(there):]
		for space := range made {
			want(t, write(h, 0, payload), holding(t, there, space), failed(api.ErrFull), made[:space]...)
		}
		for _, space := range []int{0, 1, 100} {
			a := holding(t, there, len(made)+space)
			want(t, write(h, 0, payload), a, failed(api.ErrKey), made...)
			want(t, write(h, 0, payload), a, failed(api.ErrKey))
		}
	}
}

// P12.2: the secret of an E and the payload may be any terms.
func TestWriteAny(t *testing.T) {
	for _, text := range []string{"-> e; <- e, ee", "-> e; <- e, ee, psk", "-> psk, e; <- e, ee"} {
		p := lines(t, text)
		n, _ := need.Of(p, 0)
		for e := 1; e < size; e++ {
			for x := range size {
				a := scene(t, 100)
				h, _ := shake.Start(a, p, 0, prologue, keysOf("", n.Psks))
				r := write(h, e, x).do(t, a)
				g, _ := shake.Start(a, p, 1, prologue, keysOf("", n.Psks))
				back := read(g, r.msg).do(t, a)
				if r.e != api.OK || len(r.msg) != 2 || r.msg[0] != make1(t, a, pub(e)) || r.h.K.E != e {
					t.Fatalf("%q, %d, %d: %v", text, e, x, r)
				}
				if back.e != api.OK || back.ref != x || back.h.Y != r.h.Y || back.h.K.RE != r.msg[0] {
					t.Fatalf("%q, %d, %d: %v", text, e, x, back)
				}
			}
		}
	}
}

// P12.2: a message that was not sent can be written anew, and differs only in what it was given.
func TestWriteAgain(t *testing.T) {
	a := scene(t, 1000)
	b := pair(t, a, named(t, "XX"))
	b.pass(t, 0, payload)
	one := write(b.h[1], otherE, payload).do(t, a)
	two := write(b.h[1], ownE, payload).do(t, a)
	three := write(b.h[1], otherE, prologue).do(t, a)
	want(t, write(b.h[1], otherE, payload), a, one)
	if one.msg[0] == two.msg[0] || one.msg[1] == two.msg[1] || one.msg[2] == two.msg[2] {
		t.Errorf("other ephemeral secrets: %v and %v", one.msg, two.msg)
	}
	if one.msg[0] != three.msg[0] || one.msg[1] != three.msg[1] || one.msg[2] == three.msg[2] {
		t.Errorf("other payloads: %v and %v", one.msg, three.msg)
	}
	for _, r := range []result{one, two, three} {
		if back := read(b.h[0], r.msg).do(t, a); back.e != api.OK || back.h.Y != r.h.Y {
			t.Errorf("Read: %v", back)
		}
	}
}

// P12.1 and P12.2: where there is no space for a term, the call ends, even if all is there that Empty in its place
// would lead to.
func TestFullEndsTheCall(t *testing.T) {
	ended := func(a *term.Arena, c call) {
		t.Helper()
		want(t, c, holding(t, nodes(a), 0), failed(api.ErrFull))
	}
	// The public key of a pre-message.
	p := lines(t, "-> s; ...; -> e; <- e, ee, se")
	a := scene(t, 1000)
	y, _ := sym.Begin(a, p.Name, prologue)
	y.MixHash(a, 0)
	ended(a, start(p, 0, prologue, keysOf("S", 0)))
	// That of an E, and of an S.
	for _, text := range []string{"-> e; <- e, ee", "-> e; ...; -> s; <- e, ee, se"} {
		a = scene(t, 1000)
		h, e := shake.Start(a, lines(t, text), 0, prologue, all(0))
		if e != api.OK {
			t.Fatalf("Start of %q: error %d", text, e)
		}
		there := holding(t, nodes(a), 2)
		y, _ = h.Y.MixHash(there, 0)
		y.MixHash(there, payload)
		ended(there, write(h, ownE, payload))
	}
	// What both share.
	a = scene(t, 1000)
	h, _ := shake.Start(a, named(t, "NN"), 1, prologue, shake.Keys{})
	h = read(h, []int{re, payload}).do(t, a).h
	y, _ = h.Y.MixHash(a, make1(t, a, pub(ownE)))
	y, _ = y.MixKey(a, 0)
	y.Seal(a, payload)
	ended(a, write(h, ownE, payload))
}
