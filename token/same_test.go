package token_test

import (
	"math"
	"math/rand"
	"reflect"
	"regexp"
	"slices"
	"strings"
	"testing"

	"undertone/api"
	"undertone/token"
)

// neighbours are patterns that differ from p in one thing only.
func neighbours(p token.Pattern) []token.Pattern {
	var l []token.Pattern
	change := func(f func(q *token.Pattern)) {
		q := copyOf(p)
		f(&q)
		l = append(l, q)
	}
	for _, name := range []string{"", p.Name + "X", p.Name + "\x00", strings.ToLower(p.Name) + "x", "Y" + p.Name[1:], p.Name[:len(p.Name)-1] + "-"} {
		change(func(q *token.Pattern) { q.Name = name })
	}
	for from := range p.Pre {
		for _, pre := range changedTokens(p.Pre[from]) {
			change(func(q *token.Pattern) { q.Pre[from] = pre })
		}
	}
	for i := range p.Msgs {
		for _, other := range []int{1 - p.Msgs[i].From, 2, -1, math.MaxInt} {
			change(func(q *token.Pattern) { q.Msgs[i].From = other })
		}
		for _, tokens := range changedTokens(p.Msgs[i].T) {
			change(func(q *token.Pattern) { q.Msgs[i].T = tokens })
		}
		change(func(q *token.Pattern) { q.Msgs = slices.Delete(q.Msgs, i, i+1) })
	}
	for i := range len(p.Msgs) + 1 {
		change(func(q *token.Pattern) { q.Msgs = slices.Insert(q.Msgs, i, from0(psk, psk)) })
		change(func(q *token.Pattern) { q.Msgs = slices.Insert(q.Msgs, i, token.Msg{}) })
	}
	return l
}

// changedTokens returns lists that have one token less, more or different.
func changedTokens(l []int) [][]int {
	var all [][]int
	for i := range len(l) + 1 {
		for _, n := range []int{0, e, psk, -1} {
			all = append(all, slices.Insert(slices.Clone(l), i, n))
			if i < len(l) && l[i] != n {
				changed := slices.Clone(l)
				changed[i] = n
				all = append(all, changed)
			}
		}
		if i < len(l) {
			all = append(all, slices.Delete(slices.Clone(l), i, i+1))
		}
	}
	return all
}

// wantSame asks both ways round.
func wantSame(t *testing.T, p, q token.Pattern, want bool) {
	t.Helper()
	if token.Same(p, q) != want || token.Same(q, p) != want {
		t.Errorf("Same(%v, %v): not %v", p, q, want)
	}
}

// P5.1: Same tells apart patterns that differ in one thing only.
func TestSameTellsApart(t *testing.T) {
	for _, c := range samples {
		wantSame(t, c.p, c.p, true)
		wantSame(t, c.p, copyOf(c.p), true)
		for _, q := range neighbours(c.p) {
			wantSame(t, c.p, q, false)
			wantSame(t, q, copyOf(q), true)
		}
	}
	for i, c := range samples {
		for j, d := range samples {
			wantSame(t, c.p, d.p, i == j)
		}
	}
}

// P5.1: Same tells apart patterns that have the same tokens elsewhere.
func TestSameOfMovedTokens(t *testing.T) {
	l := []token.Pattern{
		pattern("X", []int{e}, nil, from0(s, ee)),
		pattern("X", nil, []int{e}, from0(s, ee)),
		pattern("X", nil, nil, from0(e, s, ee)),
		pattern("X", nil, nil, from0(e), from0(s, ee)),
		pattern("X", nil, nil, from0(e, s), from0(ee)),
		pattern("X", nil, nil, from0(s, e, ee)),
		pattern("X", nil, nil, from1(e, s, ee)),
		pattern("X", []int{e, s}, nil, from0(ee)),
		pattern("X", []int{s, e}, nil, from0(ee)),
		pattern("X", []int{e}, []int{s}, from0(ee)),
		pattern("X", []int{s}, []int{e}, from0(ee)),
	}
	for i, p := range l {
		for j, q := range l {
			wantSame(t, p, q, i == j)
		}
	}
}

// P5.1: nil and empty lists are equivalent, for all functions.
func TestNilAndEmpty(t *testing.T) {
	for _, p := range []token.Pattern{{}, pattern("X", nil, nil, from0(e)), pattern("X", []int{s}, nil, from0()), pattern("X", nil, []int{s})} {
		q := copyOf(p)
		for from := range q.Pre {
			if len(q.Pre[from]) == 0 {
				q.Pre[from] = []int{}
			}
		}
		if len(q.Msgs) == 0 {
			q.Msgs = []token.Msg{}
		}
		for i := range q.Msgs {
			if len(q.Msgs[i].T) == 0 {
				q.Msgs[i].T = make([]int, 0, 5)
			}
		}
		wantSame(t, p, q, true)
		if token.Right(p) != token.Right(q) {
			t.Errorf("Right(%v) and Right(%v) differ", p, q)
		}
		text1, err1 := token.Print(p)
		text2, err2 := token.Print(q)
		if text1 != text2 || err1 != err2 {
			t.Errorf("Print(%v): %q, error %d, and %q, error %d", p, text1, err1, text2, err2)
		}
	}
}

// P5.1: arguments stay as they are, and what was parsed is new memory.
func TestMemory(t *testing.T) {
	for _, c := range samples {
		p := copyOf(c.p)
		token.Right(p)
		token.Print(p)
		token.Same(p, copyOf(p))
		if !reflect.DeepEqual(p, copyOf(c.p)) {
			t.Errorf("%v has become %v", c.p, p)
		}
		first, _ := token.Parse(c.text)
		second, _ := token.Parse(c.text)
		for _, l := range lists(first) {
			overwrite(l)
			if !token.Same(second, c.p) {
				t.Fatalf("%q: patterns share memory", c.text)
			}
		}
		msgs := first.Msgs[:cap(first.Msgs)]
		for i := range msgs {
			msgs[i] = token.Msg{From: 99}
		}
		if third, err := token.Parse(c.text); err != api.OK || !token.Same(second, c.p) || !token.Same(third, c.p) {
			t.Errorf("%q: patterns share memory", c.text)
		}
	}
}

// P5.1: no two lists of a parsed pattern share memory.
func TestListsOfOnePattern(t *testing.T) {
	for _, c := range samples {
		p, _ := token.Parse(c.text)
		for i := range lists(p) {
			q, _ := token.Parse(c.text)
			want := copyOf(q)
			overwrite(lists(q)[i])
			for j, l := range lists(q) {
				if j != i && !slices.Equal(l, lists(want)[j]) {
					t.Errorf("%q: lists %d and %d share memory", c.text, i, j)
				}
			}
		}
	}
}

// lists returns all lists of tokens of a pattern.
func lists(p token.Pattern) [][]int {
	l := [][]int{p.Pre[0], p.Pre[1]}
	for _, m := range p.Msgs {
		l = append(l, m.T)
	}
	return l
}

// overwrite fills a list, and its spare capacity.
func overwrite(l []int) {
	l = l[:cap(l)]
	for i := range l {
		l[i] = 99
	}
}

// random returns a valid pattern.
func random(r *rand.Rand) token.Pattern {
	const letters = "abcdefghijklmnopqrstuvwxyzABCDEFGHIJKLMNOPQRSTUVWXYZ0123456789+"
	name := make([]byte, 1+r.Intn(20))
	for i := range name {
		name[i] = letters[r.Intn(len(letters))]
	}
	pres := [][]int{nil, {e}, {s}, {e, s}}
	p := pattern(string(name), pres[r.Intn(4)], pres[r.Intn(4)])
	for range 1 + r.Intn(6) {
		m := token.Msg{From: r.Intn(2)}
		for range 1 + r.Intn(12) {
			m.T = append(m.T, 1+r.Intn(7))
		}
		p.Msgs = append(p.Msgs, m)
	}
	return copyOf(p)
}

// P5.2: parsing what was printed yields the same pattern.
func TestParseWhatWasPrinted(t *testing.T) {
	r := rand.New(rand.NewSource(1))
	for range 3000 {
		p := random(r)
		text, err := token.Print(p)
		if err != api.OK || text != textOf(p) || !token.Right(p) {
			t.Fatalf("Print(%v): %q, error %d", p, text, err)
		}
		if q, err := token.Parse(text); err != api.OK || !token.Same(p, q) || textOf(q) != text {
			t.Fatalf("Parse(%q): %v, error %d", text, q, err)
		}
	}
}

// P5.2: patterns have the same text exactly if they are the same.
func TestSameTextsAreSamePatterns(t *testing.T) {
	for _, c := range samples {
		for _, q := range neighbours(c.p) {
			if text, err := token.Print(q); err == api.OK && text == c.text {
				t.Errorf("%v and %v have the text %q", c.p, q, text)
			}
		}
	}
}

// grammar says which texts are those of patterns, otherwise than the program does.
var grammar = regexp.MustCompile(strings.NewReplacer(
	"NAME", `[A-Za-z0-9+]{1,20}`, "PRE", `(?:e|s|e, s)`, "TOKEN", `(?:e|s|ee|es|se|ss|psk)`,
).Replace(`\ANAME:\n(?:(?:-> PRE\n(?:<- PRE\n)?|<- PRE\n)\.\.\.\n)?(?:(?:->|<-) TOKEN(?:, TOKEN){0,11}\n){1,6}\z`))

// looksRight compares Parse with the grammar, and with what is printed then.
func looksRight(t *testing.T, text string) bool {
	t.Helper()
	if !grammar.MatchString(text) {
		wantNoPattern(t, text)
		return false
	}
	p, err := token.Parse(text)
	if err != api.OK || !token.Right(p) || textOf(p) != text {
		t.Errorf("Parse(%q): %v, error %d", text, p, err)
	}
	if again, err := token.Print(p); err != api.OK || again != text {
		t.Errorf("Print(%v): %q, error %d, not %q", p, again, err, text)
	}
	return true
}

// changes returns texts with one byte less, more or different at each place.
func changes(text string) []string {
	var l []string
	for i := range len(text) + 1 {
		for _, c := range []byte("eskpX1+:., ->\n\r\t?E\x00\xff") {
			l = append(l, text[:i]+string([]byte{c})+text[i:])
			if i < len(text) {
				l = append(l, text[:i]+string([]byte{c})+text[i+1:])
			}
		}
		if i < len(text) {
			l = append(l, text[:i]+text[i+1:], text[:i], text[i:])
		}
	}
	return l
}

// P5.2: no other text yields a pattern: samples and other texts, changed byte by byte.
func TestNoOtherText(t *testing.T) {
	right, wrong := 0, 0
	for _, c := range samples {
		for _, text := range changes(c.text) {
			if !looksRight(t, text) {
				wrong++
				continue
			}
			right++
			if p, _ := token.Parse(text); token.Same(p, c.p) != (text == c.text) {
				t.Errorf("%q and %q: the same pattern %v", text, c.text, token.Same(p, c.p))
			}
		}
	}
	for _, text := range notTexts {
		for _, changed := range changes(text) {
			looksRight(t, changed)
		}
	}
	if right < 200 || wrong < 10000 {
		t.Errorf("%d texts of patterns, %d other ones", right, wrong)
	}
}

// P5.2: no other text yields a pattern: lines in every order, some of them twice.
func TestLinesInEveryOrder(t *testing.T) {
	lines := []string{"X:\n", "-> e\n", "<- s\n", "...\n", "-> e, s\n", "<- ee, psk\n", "\n"}
	var numbers []int
	for i := range lines {
		numbers = append(numbers, i)
	}
	right := 0
	for _, order := range sequences(5, numbers) {
		var text strings.Builder
		for _, i := range order {
			text.WriteString(lines[i])
		}
		if looksRight(t, text.String()) {
			right++
		}
	}
	if right < 300 {
		t.Errorf("only %d texts of patterns", right)
	}
}

// P5.2: no other text yields a pattern: small parts in random orders.
func TestPartsInRandomOrders(t *testing.T) {
	r := rand.New(rand.NewSource(2))
	parts := []string{"X", ":", "\n", "-> ", "<- ", "->", "e", "s", "es", "psk", ", ", ",", " ", "...", "...\n", ":\n", "e\n", "-> e\n", "<- s\n", "?"}
	for range 100000 {
		text := "X:\n"
		for range r.Intn(8) {
			text += parts[r.Intn(len(parts))]
		}
		looksRight(t, text)
	}
}
