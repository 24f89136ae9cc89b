package level_test

import (
	"math"
	"reflect"
	"slices"
	"strings"
	"testing"

	"undertone/api"
	"undertone/base"
	"undertone/level"
	"undertone/token"
	"undertone/valid"
)

// Short names, for the tables of this package's tests.
const (
	e   = token.E
	s   = token.S
	ee  = token.EE
	es  = token.ES
	se  = token.SE
	ss  = token.SS
	psk = token.PSK
)

// noRoles are numbers that are no roles.
var noRoles = []int{-1, 2, 3, -2, 7, math.MinInt, math.MaxInt, math.MaxInt32 + 1, math.MinInt32 - 1, 1 << 32, 1<<32 + 1}

// noTokens are numbers that are no tokens.
var noTokens = []int{0, -1, 8, 9, -7, -8, 15, 64, 256 + ee, 1<<32 + es, -1<<32 + se, math.MinInt, math.MinInt + ee, math.MaxInt, math.MaxInt32 + 1}

// lasts are values of Last, possible ones and others.
var lasts = []int{0, 1, 2, -1, -2, 3, 4, 5, 256, 1 << 32, 1<<32 + 1, math.MinInt, math.MinInt + 1, math.MaxInt}

// lines returns the pattern of a text without its first line; the lines are
// separated by semicolons.
func lines(t *testing.T, text string) token.Pattern {
	t.Helper()
	p, err := token.Parse("A:\n" + strings.ReplaceAll(text, "; ", "\n") + "\n")
	if err != api.OK {
		t.Fatalf("%q is no pattern", text)
	}
	return p
}

// named returns the pattern with that name.
func named(t *testing.T, name string) token.Pattern {
	t.Helper()
	p, err := base.Named(name)
	if err != api.OK {
		t.Fatalf("Named(%q): error %d", name, err)
	}
	return p
}

// met returns the track in which exactly these numbers are met.
func met(numbers ...int) level.Track {
	var x level.Track
	for _, n := range numbers {
		x.Met[n] = true
	}
	return x
}

// metBits returns the track in which the numbers are met whose bits are set.
func metBits(bits int) level.Track {
	var x level.Track
	for n := range x.Met {
		x.Met[n] = bits>>n&1 != 0
	}
	return x
}

// with returns a track with the Auth of the last messages of both.
func with(x level.Track, initiator, responder int) level.Track {
	x.Last = [2]int{initiator, responder}
	return x
}

// wantMix asks for a track after some tokens.
func wantMix(t *testing.T, x level.Track, tokens []int, want level.Track) {
	t.Helper()
	before := x
	if got := x.Mix(tokens); got != want {
		t.Errorf("%v.Mix(%v): %v; want %v", x, tokens, got, want)
	}
	if x != before {
		t.Errorf("Mix(%v) has changed %v to %v", tokens, before, x)
	}
}

// P9.1: Mix with no tokens, nil and empty.
func TestMixOfNothing(t *testing.T) {
	for bits := range 256 {
		for _, last := range lasts {
			x := with(metBits(bits), last, -last)
			wantMix(t, x, nil, x)
			wantMix(t, x, []int{}, x)
		}
	}
}

// P9.1: Mix with each token, once and twice, added to all that was met before;
// Last stays as it is, also if it is not a possible Auth.
func TestMixOfOneToken(t *testing.T) {
	wantMix(t, level.Track{}, []int{e}, level.Track{Met: [8]bool{1: true}})
	wantMix(t, level.Track{}, []int{s}, level.Track{Met: [8]bool{2: true}})
	wantMix(t, level.Track{}, []int{ee}, level.Track{Met: [8]bool{3: true}})
	wantMix(t, level.Track{}, []int{es}, level.Track{Met: [8]bool{4: true}})
	wantMix(t, level.Track{}, []int{se}, level.Track{Met: [8]bool{5: true}})
	wantMix(t, level.Track{}, []int{ss}, level.Track{Met: [8]bool{6: true}})
	wantMix(t, level.Track{}, []int{psk}, level.Track{Met: [8]bool{7: true}})
	for bits := range 256 {
		for next := e; next <= psk; next++ {
			for _, last := range lasts {
				x := with(metBits(bits), last, 2-last)
				want := with(metBits(bits|1<<next), last, 2-last)
				wantMix(t, x, []int{next}, want)
				wantMix(t, x, []int{next, next}, want)
				wantMix(t, x.Mix([]int{next}), []int{next}, want)
			}
		}
	}
}

// P9.1: Mix with several tokens: all at once, or one after the other, in any order.
func TestMixOfSeveralTokens(t *testing.T) {
	for bits := 0; bits < 256; bits += 2 {
		var tokens []int
		step := with(level.Track{}, 2, 1)
		for next := e; next <= psk; next++ {
			if bits>>next&1 != 0 {
				tokens = append(tokens, next)
				step = step.Mix([]int{next})
			}
		}
		want := with(metBits(bits), 2, 1)
		if step != want {
			t.Errorf("Mix of %v one by one: %v; want %v", tokens, step, want)
		}
		wantMix(t, with(level.Track{}, 2, 1), tokens, want)
		slices.Reverse(tokens)
		wantMix(t, with(level.Track{}, 2, 1), tokens, want)
		wantMix(t, with(level.Track{}, 2, 1), append(tokens, tokens...), want)
	}
	long := slices.Repeat([]int{ss, 0, e, -1, psk, 8}, 100000)
	wantMix(t, met(es), long, met(es, ss, e, psk))
}

// P9.1: Mix ignores numbers that are not tokens, alone and among tokens.
func TestMixOfNoTokens(t *testing.T) {
	for bits := range 256 {
		x := with(metBits(bits), 1, 2)
		wantMix(t, x, noTokens, x)
		for _, n := range noTokens {
			wantMix(t, x, []int{n}, x)
			wantMix(t, x, []int{n, ee, n}, x.Mix([]int{ee}))
			wantMix(t, x, []int{psk, n, e}, x.Mix([]int{e, psk}))
		}
	}
}

// P9.1: the tokens that are handed in are not changed, nor what lies behind them.
func TestMixArguments(t *testing.T) {
	all := []int{psk, 0, ee, ee, -1, es, math.MaxInt, e, s, 77, 78}
	tokens := slices.Clone(all)
	met(ss).Mix(tokens[:9])
	met(ss).Mix(tokens[:0])
	if !slices.Equal(tokens, all) {
		t.Errorf("%v have become %v", all, tokens)
	}
	x := level.Track{}.Mix(tokens[:9])
	tokens[0] = ss
	if x != met(e, s, ee, es, psk) {
		t.Errorf("%v with tokens that changed after Mix", x)
	}
}

// wantOf asks for the level of a message.
func wantOf(t *testing.T, x level.Track, from, auth, conf int) {
	t.Helper()
	before := x
	if got := x.Of(from); got.Auth != auth || got.Conf != conf {
		t.Errorf("%v.Of(%d): %v; want %d %d", x, from, got, auth, conf)
	}
	if x != before {
		t.Errorf("Of(%d) has changed %v to %v", from, before, x)
	}
}

// P9.1: Of with each token alone, and with those together that the level is about,
// when the other one sent nothing before. Nothing else is needed, nor is a PSK enough.
func TestOf(t *testing.T) {
	for _, c := range []struct {
		tokens               []int
		initiator, responder level.Level
	}{
		{nil, level.Level{}, level.Level{}},
		{[]int{e}, level.Level{}, level.Level{}},
		{[]int{s}, level.Level{}, level.Level{}},
		{[]int{psk}, level.Level{}, level.Level{}},
		{[]int{e, s, psk}, level.Level{}, level.Level{}},
		{[]int{ee}, level.Level{Conf: 1}, level.Level{Conf: 1}},
		{[]int{es}, level.Level{Conf: 2}, level.Level{Auth: 2}},
		{[]int{se}, level.Level{Auth: 2}, level.Level{Conf: 2}},
		{[]int{ss}, level.Level{Auth: 1}, level.Level{Auth: 1}},
		{[]int{ss, psk}, level.Level{Auth: 1}, level.Level{Auth: 1}},
		{[]int{ee, es}, level.Level{Conf: 3}, level.Level{Auth: 2, Conf: 1}},
		{[]int{ee, se}, level.Level{Auth: 2, Conf: 1}, level.Level{Conf: 3}},
		{[]int{ee, ss}, level.Level{Auth: 1, Conf: 1}, level.Level{Auth: 1, Conf: 1}},
		{[]int{es, se}, level.Level{Auth: 2, Conf: 2}, level.Level{Auth: 2, Conf: 2}},
		{[]int{es, ss}, level.Level{Auth: 1, Conf: 2}, level.Level{Auth: 2}},
		{[]int{se, ss}, level.Level{Auth: 2}, level.Level{Auth: 1, Conf: 2}},
		{[]int{ee, es, ss}, level.Level{Auth: 1, Conf: 3}, level.Level{Auth: 2, Conf: 1}},
		{[]int{ee, se, ss}, level.Level{Auth: 2, Conf: 1}, level.Level{Auth: 1, Conf: 3}},
		{[]int{es, se, ss}, level.Level{Auth: 2, Conf: 2}, level.Level{Auth: 2, Conf: 2}},
		{[]int{ee, es, se}, level.Level{Auth: 2, Conf: 3}, level.Level{Auth: 2, Conf: 3}},
		{[]int{ee, es, se, ss}, level.Level{Auth: 2, Conf: 3}, level.Level{Auth: 2, Conf: 3}},
	} {
		for _, others := range [][]int{nil, {e}, {s}, {psk}, {e, s, psk}, {0}} {
			x := met(append(others, c.tokens...)...)
			wantOf(t, x, api.Initiator, c.initiator.Auth, c.initiator.Conf)
			wantOf(t, x, api.Responder, c.responder.Auth, c.responder.Conf)
		}
	}
}

// P9.1: Conf 3, 4 and 5 by the recipient's last message; the sender's own one does not matter.
func TestOfByLast(t *testing.T) {
	for _, c := range []struct{ last, conf int }{
		{0, 3}, {1, 4}, {2, 5},
		{-1, 3}, {-2, 3}, {-5, 3}, {math.MinInt, 3}, {-1 << 32, 3}, {-1<<32 + 2, 3},
		{3, 5}, {4, 5}, {256, 5}, {1 << 32, 5}, {1<<32 + 1, 5}, {math.MaxInt, 5},
	} {
		for _, own := range lasts {
			wantOf(t, with(met(ee, es), own, c.last), api.Initiator, 0, c.conf)
			wantOf(t, with(met(ee, se), c.last, own), api.Responder, 0, c.conf)
			wantOf(t, with(met(e, ee, es, s, ss), own, c.last), api.Initiator, 1, c.conf)
			wantOf(t, with(met(e, ee, se, s, ss), c.last, own), api.Responder, 1, c.conf)
			wantOf(t, with(met(ee, es, se), own, c.last), api.Initiator, 2, c.conf)
			wantOf(t, with(met(ee, es, se), c.last, own), api.Responder, 2, c.conf)
		}
	}
}

// P9.1: Last does not matter without both tokens that Conf asks for.
func TestOfWithoutLast(t *testing.T) {
	for _, mine := range lasts {
		for _, other := range lasts {
			wantOf(t, with(met(), mine, other), 0, 0, 0)
			wantOf(t, with(met(psk, ss), mine, other), 0, 1, 0)
			wantOf(t, with(met(psk, ss), mine, other), 1, 1, 0)
			wantOf(t, with(met(ee, se), mine, other), 0, 2, 1)
			wantOf(t, with(met(ee, es), mine, other), 1, 2, 1)
			wantOf(t, with(met(es), mine, other), 0, 0, 2)
			wantOf(t, with(met(se), mine, other), 1, 0, 2)
			wantOf(t, with(met(se), mine, other), 0, 2, 0)
			wantOf(t, with(met(es), mine, other), 1, 2, 0)
		}
	}
}

// P9.1: Of and Sent for a from that is no role, whatever was met.
func TestNoRoles(t *testing.T) {
	for bits := range 256 {
		for _, last := range lasts {
			x := with(metBits(bits), last, 1-last)
			for _, from := range noRoles {
				wantOf(t, x, from, 0, 0)
				if got := x.Sent(from); got != x {
					t.Errorf("%v.Sent(%d): %v", x, from, got)
				}
			}
		}
	}
}

// wantSent asks for what Last is after a message.
func wantSent(t *testing.T, x level.Track, from int, initiator, responder int) {
	t.Helper()
	before := x
	if got := x.Sent(from); got != with(x, initiator, responder) {
		t.Errorf("%v.Sent(%d): %v; want Last %d %d", x, from, got, initiator, responder)
	}
	if x != before {
		t.Errorf("Sent(%d) has changed %v to %v", from, before, x)
	}
}

// P9.1: Sent changes the sender's own Last, up and down; the other one's stays,
// also if it is not a possible Auth.
func TestSent(t *testing.T) {
	for _, c := range []struct {
		x                    level.Track
		initiator, responder int
	}{
		{met(), 0, 0},
		{met(e, s, ee, psk), 0, 0},
		{met(ss), 1, 1},
		{met(ee, ss, psk), 1, 1},
		{met(es), 0, 2},
		{met(se), 2, 0},
		{met(es, ss), 1, 2},
		{met(se, ss), 2, 1},
		{met(es, se), 2, 2},
		{met(ee, es, se, ss), 2, 2},
	} {
		for _, own := range lasts {
			for _, other := range lasts {
				wantSent(t, with(c.x, own, other), api.Initiator, c.initiator, other)
				wantSent(t, with(c.x, other, own), api.Responder, other, c.responder)
			}
		}
	}
}

// P9.1: what is sent counts for the answer, and what is mixed later does not count for it.
func TestSentThenOf(t *testing.T) {
	x := level.Track{}.Mix([]int{e}).Sent(0)
	wantOf(t, x.Mix([]int{e, ee, se}), 1, 0, 3)
	x = level.Track{}.Mix([]int{e, es, s, ss}).Sent(0)
	wantOf(t, x.Mix([]int{e, ee, se}), 1, 2, 4)
	x = x.Mix([]int{e, ee, se}).Sent(1)
	wantOf(t, x, 0, 2, 5)
	wantOf(t, x, 1, 2, 4)
	wantOf(t, x.Sent(0), 1, 2, 5)
}

// P9.1: Reach with each of Auth and Conf less, equal and greater.
func TestReach(t *testing.T) {
	values := []int{-2, -1, 0, 1, 2, 3, 5, 6, 1 << 32, -1 << 32, math.MinInt, math.MaxInt}
	for _, auth := range values {
		for _, conf := range values {
			for _, least := range values {
				for _, closest := range values {
					a, b := level.Level{Auth: auth, Conf: conf}, level.Level{Auth: least, Conf: closest}
					want := true
					if auth < least {
						want = false
					}
					if conf < closest {
						want = false
					}
					if level.Reach(a, b) != want {
						t.Errorf("Reach(%v, %v): not %v", a, b, want)
					}
				}
			}
		}
	}
}

// levelsOf returns levels by a text: Auth and Conf of each, with a comma between each two.
func levelsOf(text string) []level.Level {
	var l []level.Level
	for part := range strings.SplitSeq(text, ", ") {
		l = append(l, level.Level{Auth: int(part[0] - '0'), Conf: int(part[2] - '0')})
	}
	return l
}

// wantTable asks for the first levels of a pattern, for each number of them.
func wantTable(t *testing.T, p token.Pattern, want []level.Level) {
	t.Helper()
	for many := range len(want) + 1 {
		if l, err := level.Table(p, many); !slices.Equal(l, want[:many]) || err != api.OK {
			t.Errorf("Table(%v, %d): %v, error %d; want %v", p, many, l, err, want[:many])
		}
	}
}

// wantError asks for an error, beside which there are no levels.
func wantError(t *testing.T, p token.Pattern, many int, want api.Errno) {
	t.Helper()
	if l, err := level.Table(p, many); len(l) != 0 || err != want {
		t.Errorf("Table(%v, %d): %v, error %d; want error %d", p, many, l, err, want)
	}
}

// specified are the levels of the base patterns in the specification, in the order of base.Names.
var specified = []struct{ name, levels string }{
	{"N", "0 2"},
	{"K", "1 2"},
	{"X", "1 2"},
	{"NN", "0 0, 0 1, 0 1"},
	{"NK", "0 2, 2 1, 0 5"},
	{"NX", "0 0, 2 1, 0 5"},
	{"XN", "0 0, 0 1, 2 1, 0 5"},
	{"XK", "0 2, 2 1, 2 5, 2 5"},
	{"XX", "0 0, 2 1, 2 5, 2 5"},
	{"KN", "0 0, 0 3, 2 1, 0 5"},
	{"KK", "1 2, 2 4, 2 5, 2 5"},
	{"KX", "0 0, 2 3, 2 5, 2 5"},
	{"IN", "0 0, 0 3, 2 1, 0 5"},
	{"IK", "1 2, 2 4, 2 5, 2 5"},
	{"IX", "0 0, 2 3, 2 5, 2 5"},
}

// P9.3: the base patterns' levels in the specification.
func TestBasePatterns(t *testing.T) {
	names := base.Names()
	for i, c := range specified {
		if i >= len(names) || c.name != names[i] {
			t.Fatalf("%s is not base pattern %d", c.name, i)
		}
		wantTable(t, named(t, c.name), levelsOf(c.levels))
	}
	if len(names) != len(specified) {
		t.Errorf("%d base patterns", len(names))
	}
}

// P9.2: the document's example.
func TestExample(t *testing.T) {
	wantTable(t, named(t, "XX"), levelsOf("0 0, 2 1, 2 5"))
}

// P9.2: messages after the base patterns' handshakes: in turn, or, for a pattern of
// one message, all from its sender.
func TestAfterHandshake(t *testing.T) {
	for _, c := range []struct{ name, levels string }{
		{"N", "0 2, 0 2, 0 2, 0 2"},
		{"K", "1 2, 1 2, 1 2, 1 2"},
		{"X", "1 2, 1 2, 1 2, 1 2"},
		{"NN", "0 0, 0 1, 0 1, 0 1, 0 1"},
		{"NK", "0 2, 2 1, 0 5, 2 1, 0 5, 2 1"},
		{"NX", "0 0, 2 1, 0 5, 2 1, 0 5, 2 1"},
		{"XN", "0 0, 0 1, 2 1, 0 5, 2 1, 0 5, 2 1"},
		{"KN", "0 0, 0 3, 2 1, 0 5, 2 1, 0 5, 2 1"},
		{"KK", "1 2, 2 4, 2 5, 2 5, 2 5, 2 5"},
		{"IX", "0 0, 2 3, 2 5, 2 5, 2 5, 2 5"},
	} {
		wantTable(t, named(t, c.name), levelsOf(c.levels))
	}
}

// P9.2: modifiers: a PSK changes no level; after fallback it is the responder who begins.
func TestModifiers(t *testing.T) {
	for name, want := range map[string]string{
		"Npsk0":                "0 2, 0 2",
		"Kpsk0":                "1 2, 1 2",
		"Xpsk1":                "1 2, 1 2",
		"NNpsk0":               "0 0, 0 1, 0 1, 0 1",
		"NNpsk2":               "0 0, 0 1, 0 1",
		"NNpsk0+psk2":          "0 0, 0 1, 0 1",
		"NKpsk0":               "0 2, 2 1, 0 5, 2 1",
		"XXpsk3":               "0 0, 2 1, 2 5, 2 5",
		"XXpsk0+psk1":          "0 0, 2 1, 2 5, 2 5",
		"KNpsk0":               "0 0, 0 3, 2 1, 0 5",
		"KKpsk0+psk2":          "1 2, 2 4, 2 5, 2 5",
		"IKpsk2":               "1 2, 2 4, 2 5, 2 5",
		"IXpsk2":               "0 0, 2 3, 2 5, 2 5",
		"XNfallback":           "0 1, 2 1, 0 5, 2 1",
		"XXfallback":           "2 1, 2 5, 2 5, 2 5",
		"XXfallback+psk0":      "2 1, 2 5, 2 5",
		"XXfallback+psk0+psk2": "2 1, 2 5, 2 5",
	} {
		wantTable(t, named(t, name), levelsOf(want))
	}
}

// P9.2: patterns of one message, from either participant, and named ones: all messages are its sender's.
func TestOneMessage(t *testing.T) {
	for text, want := range map[string]string{
		"<- s; ...; -> e, es":                       "0 2, 0 2, 0 2",
		"-> s; ...; <- e, se":                       "0 2, 0 2, 0 2",
		"-> s; <- s; ...; -> e, es, ss":             "1 2, 1 2, 1 2",
		"-> s; <- s; ...; <- e, se, ss":             "1 2, 1 2, 1 2",
		"<- e; ...; -> e, ee":                       "0 1, 0 1, 0 1",
		"-> e; ...; <- e, ee":                       "0 1, 0 1, 0 1",
		"-> s; <- e; ...; -> e, ee, se":             "2 1, 2 1, 2 1",
		"-> e; ...; <- e, ee, s, es":                "2 1, 2 1, 2 1",
		"<- e, s; ...; -> e, ee, es":                "0 3, 0 3, 0 3",
		"-> e, s; ...; <- e, ee, se":                "0 3, 0 3, 0 3",
		"-> s; <- e, s; ...; -> e, ee, es, se, ss":  "2 3, 2 3, 2 3",
		"-> e, s; <- s; ...; <- e, ee, se, ss":      "1 3, 1 3, 1 3",
		"-> psk, e":                                 "0 0, 0 0, 0 0",
		"<- e, psk":                                 "0 0, 0 0, 0 0",
		"<- s; ...; -> psk, e, es":                  "0 2, 0 2, 0 2",
		"-> e, s; <- e, s; ...; -> psk":             "0 0, 0 0, 0 0",
		"-> e, s; <- e, s; ...; -> ee, es, ss, psk": "1 3, 1 3, 1 3",
	} {
		wantTable(t, lines(t, text), levelsOf(want))
	}
	for name, want := range map[string]string{
		"NNfallback":      "0 1, 0 1, 0 1, 0 1",
		"NXfallback":      "2 1, 2 1, 2 1, 2 1",
		"INfallback":      "0 3, 0 3, 0 3, 0 3",
		"IXfallback":      "2 3, 2 3, 2 3, 2 3",
		"IXfallback+psk0": "2 3, 2 3, 2 3, 2 3",
	} {
		wantTable(t, named(t, name), levelsOf(want))
	}
}

// P9.2: patterns of two and more messages, from either participant first; a PSK ahead of every key.
func TestTable(t *testing.T) {
	for text, want := range map[string]string{
		"-> e; <- e, ee":                              "0 0, 0 1, 0 1, 0 1",
		"<- e; -> e, ee":                              "0 0, 0 1, 0 1, 0 1",
		"-> s; ...; <- e, se; -> e, ee":               "0 2, 2 1, 0 5, 2 1, 0 5",
		"<- e; -> e, ee, s, se":                       "0 0, 2 1, 0 5, 2 1, 0 5",
		"<- e; -> e, ee, s, se; <- s, es":             "0 0, 2 1, 2 5, 2 5, 2 5",
		"-> psk, e; <- e, ee":                         "0 0, 0 1, 0 1, 0 1",
		"-> psk, e; <- psk, e":                        "0 0, 0 0, 0 0, 0 0",
		"-> e, psk; <- e; -> s; <- s, psk":            "0 0, 0 0, 0 0, 0 0, 0 0",
		"-> psk, e; <- e; -> s; <- ee, se":            "0 0, 0 0, 0 0, 0 3, 2 1, 0 5",
		"-> e, s; <- e, s; ...; -> psk; <- ee":        "0 0, 0 1, 0 1, 0 1",
		"-> e; <- e; -> s; <- s; -> ee; <- es":        "0 0, 0 0, 0 0, 0 0, 0 1, 2 1, 0 5, 2 1, 0 5",
		"-> e; <- e; -> s; <- s; -> ee; <- se":        "0 0, 0 0, 0 0, 0 0, 0 1, 0 3, 2 1, 0 5, 2 1",
		"<- e; -> e, ee; <- s, es; -> s, se":          "0 0, 0 1, 2 1, 2 5, 2 5, 2 5",
		"-> e, s; <- e, s; ...; -> ss, es; <- ee, se": "1 2, 2 4, 2 5, 2 5",
		"-> e, s; <- e, s; ...; <- ss, se; -> ee, es": "1 2, 2 4, 2 5, 2 5",
	} {
		wantTable(t, lines(t, text), levelsOf(want))
	}
}

// P9.2: many from 0 to 100.
func TestMany(t *testing.T) {
	for _, name := range []string{"N", "NN", "XX", "IKpsk2", "XXfallback", "IXfallback"} {
		p := named(t, name)
		all, err := level.Table(p, 100)
		if len(all) != 100 || err != api.OK {
			t.Fatalf("Table(%s, 100): %d levels, error %d", name, len(all), err)
		}
		for i := len(p.Msgs) + 3; i < 100; i++ {
			if all[i] != all[i-2] {
				t.Errorf("Table(%s, 100): %v differs from the level two messages before", name, i)
			}
		}
		wantTable(t, p, all)
	}
}

// noMany are numbers of messages that are not 0 to 100.
var noMany = []int{-1, -2, -100, 101, 102, 200, math.MinInt, math.MaxInt, math.MaxInt32 + 1, math.MinInt32 - 1, 1 << 32, 1<<32 + 5, -1 << 32}

// broken returns patterns that are valid, at least one for each rule that it breaks.
func broken(t *testing.T) []token.Pattern {
	t.Helper()
	var l []token.Pattern
	for _, c := range []struct {
		text string
		rule int
	}{
		{"-> e; -> e", 1},
		{"-> e; <- e, ee; <- s, es", 1},
		{"-> e; <- e, ee; -> e", 2},
		{"-> e; <- e, es", 3},
		{"-> e; <- e, ee; -> ee", 4},
		{"<- e; ...; -> s, se", 5},
		{"-> s; <- e, se", 5},
		{"-> psk", 6},
		{"-> e", 7},
		{"<- s; ...; -> e; <- e", 7},
	} {
		p := lines(t, c.text)
		if rule, _, err := valid.Check(p); rule != c.rule || err != api.ErrRule {
			t.Fatalf("%q breaks rule %d, error %d; not rule %d", c.text, rule, err, c.rule)
		}
		l = append(l, p)
	}
	return l
}

// wrong are patterns that are not valid; most break rules, too.
func wrong() []token.Pattern {
	right := []token.Msg{{T: []int{e}}, {From: 1, T: []int{e, ee}}}
	return []token.Pattern{
		{},
		{Name: "A"},
		{Name: "", Msgs: right},
		{Name: "A-B", Msgs: right},
		{Name: strings.Repeat("A", 21), Msgs: right},
		{Name: "A", Msgs: slices.Repeat(right, api.MaxMsgs)},
		{Name: "A", Msgs: []token.Msg{{}}},
		{Name: "A", Msgs: []token.Msg{{T: []int{e}}, {From: 1, T: []int{e, ee}}, {}}},
		{Name: "A", Msgs: []token.Msg{{From: 2, T: []int{e, psk}}}},
		{Name: "A", Msgs: []token.Msg{{From: -1, T: []int{e, psk}}}},
		{Name: "A", Msgs: []token.Msg{{T: []int{e}}, {From: math.MaxInt, T: []int{e, ee}}}},
		{Name: "A", Msgs: []token.Msg{{T: []int{e, 0}}, {From: 1, T: []int{e, ee}}}},
		{Name: "A", Msgs: []token.Msg{{T: []int{e, e, 8}}}},
		{Name: "A", Msgs: []token.Msg{{T: []int{math.MinInt, math.MaxInt}}}},
		{Name: "A", Msgs: []token.Msg{{T: append([]int{e}, slices.Repeat([]int{psk}, api.MaxTokens)...)}}},
		{Name: "A", Pre: [2][]int{{s, e}, nil}, Msgs: right[1:]},
		{Name: "A", Pre: [2][]int{nil, {psk}}, Msgs: right},
		{Name: "A", Pre: [2][]int{{ee}, {-5, 99}}, Msgs: right},
	}
}

// P9.2: a pattern that is not valid is ErrArg, whatever rules it breaks, and however many levels are asked for.
func TestTableOfWrongPatterns(t *testing.T) {
	for _, p := range wrong() {
		for _, many := range append([]int{0, 1, 2, 3, 99, 100}, noMany...) {
			wantError(t, p, many, api.ErrArg)
		}
	}
}

// P9.2: a pattern that is valid and breaks a rule is ErrRule, also if no level is asked for.
func TestTableOfBrokenPatterns(t *testing.T) {
	for _, p := range broken(t) {
		for many := range 101 {
			wantError(t, p, many, api.ErrRule)
		}
	}
}

// P9.2: a number that is not 0 to 100 is ErrArg, also for a pattern that breaks a rule.
func TestTableOfWrongMany(t *testing.T) {
	all := broken(t)
	for _, name := range append(base.Names(), "XXfallback", "IKpsk2") {
		all = append(all, named(t, name))
	}
	for _, p := range all {
		for _, many := range noMany {
			wantError(t, p, many, api.ErrArg)
		}
	}
}

// P9.2: results share no memory with each other.
func TestResultsAreNew(t *testing.T) {
	p := named(t, "XX")
	for _, many := range []int{0, 1, 2, 3, 5, 99} {
		first, _ := level.Table(p, many)
		second, _ := level.Table(p, many)
		want := slices.Clone(second)
		first = first[:cap(first)]
		for i := range first {
			first[i] = level.Level{Auth: -7, Conf: -7}
		}
		third, _ := level.Table(p, many)
		if !slices.Equal(second, want) || !slices.Equal(third, want) {
			t.Errorf("Table(XX, %d): %v and %v after a result was changed; want %v", many, second, third, want)
		}
	}
}

// copyOf returns a pattern that shares no memory with p, with spare capacity that is filled.
func copyOf(p token.Pattern) token.Pattern {
	spare := func(l []int) []int { return append(slices.Clone(l), 77, 78)[:len(l)] }
	q := token.Pattern{Name: p.Name, Pre: [2][]int{spare(p.Pre[0]), spare(p.Pre[1])}}
	for _, m := range p.Msgs {
		q.Msgs = append(q.Msgs, token.Msg{From: m.From, T: spare(m.T)})
	}
	n := len(q.Msgs)
	q.Msgs = append(q.Msgs, token.Msg{From: 79})[:n]
	return q
}

// whole returns p with the spare capacity of its lists.
func whole(p token.Pattern) token.Pattern {
	q := token.Pattern{Name: p.Name}
	for role, l := range p.Pre {
		q.Pre[role] = slices.Clone(l[:len(l)+2])
	}
	for _, m := range p.Msgs {
		q.Msgs = append(q.Msgs, token.Msg{From: m.From, T: slices.Clone(m.T[:len(m.T)+2])})
	}
	q.Msgs = append(q.Msgs, p.Msgs[:len(p.Msgs)+1][len(p.Msgs)])
	return q
}

// P9.2: a pattern that is handed in is not changed, and nil and empty lists are equivalent.
func TestTableArguments(t *testing.T) {
	all := append(wrong(), broken(t)...)
	for _, name := range append(base.Names(), "XXfallback", "INfallback", "NKpsk0+psk2", "IXpsk2+fallback+psk0") {
		all = append(all, named(t, name))
	}
	for _, p := range all {
		q := copyOf(p)
		before := whole(q)
		for _, many := range []int{-1, 0, 1, 2, 7, 100, 101} {
			levels1, err1 := level.Table(p, many)
			levels2, err2 := level.Table(q, many)
			if !slices.Equal(levels1, levels2) || err1 != err2 {
				t.Errorf("Table(%v, %d): %v, %d; with empty lists %v, %d", p, many, levels1, err1, levels2, err2)
			}
		}
		if !reflect.DeepEqual(whole(q), before) {
			t.Errorf("%v has become %v", before, whole(q))
		}
	}
}
