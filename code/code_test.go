package code_test

import (
	"math"
	"math/rand"
	"slices"
	"strconv"
	"strings"
	"testing"

	"undertone/api"
	"undertone/code"
	"undertone/term"
)

// missing returns refs that no arena of that many terms has.
func missing(many int) []int {
	return []int{math.MinInt, -1, many, many + 1, api.MaxTerms, 1 << 32, math.MaxInt}
}

// make1 makes a term that must be possible to make.
func make1(t *testing.T, a *term.Arena, n term.Node) int {
	t.Helper()
	ref, e := a.Mk(n)
	if e != api.OK {
		t.Fatalf("Mk(%v): error %d", n, e)
	}
	return ref
}

// read reads a text that must be possible to read.
func read(t *testing.T, a *term.Arena, s string) int {
	t.Helper()
	ref, e := code.Read(a, s)
	if e != api.OK {
		t.Fatalf("Read(%.80q): error %d", s, e)
	}
	return ref
}

// nodes returns all that an arena holds.
func nodes(a *term.Arena) []term.Node {
	var l []term.Node
	for ref := range a.Len() {
		n, _ := a.Get(ref)
		l = append(l, n)
	}
	return l
}

// refuse reads a text that must give an error, and looks for changes.
func refuse(t *testing.T, a *term.Arena, s string, want api.Errno) {
	t.Helper()
	before := nodes(a)
	if ref, e := code.Read(a, s); ref != 0 || e != want {
		t.Errorf("Read(%.80q): %d, error %d, not error %d", s, ref, e, want)
	}
	if !slices.Equal(nodes(a), before) {
		t.Errorf("Read(%.80q): an error, but the arena has changed", s)
	}
}

// mixed returns an arena with terms of all kinds, made in a random order.
func mixed(r *rand.Rand, size int) *term.Arena {
	a := term.New(size)
	for a.Len() < size {
		n := term.Node{Kind: r.Intn(10), N: uint64(r.Intn(5))}
		if r.Intn(10) == 0 {
			n.N = math.MaxUint64 - n.N
		}
		for _, part := range []*int{&n.A, &n.B, &n.C} {
			if r.Intn(3) > 0 {
				*part = r.Intn(a.Len())
			}
		}
		if r.Intn(3) == 0 {
			a.Share(n.A, n.B)
		} else {
			a.Mk(n)
		}
	}
	return a
}

// partsOf returns the parts that the table of layer 1 gives a node.
func partsOf(n term.Node) []int {
	switch n.Kind {
	case term.Empty, term.Name, term.Word:
		return nil
	case term.Pub:
		return []int{n.A}
	case term.Seal:
		return []int{n.A, n.B, n.C}
	}
	return []int{n.A, n.B}
}

// rowsBySteps puts rows together as the chapter says it, part by part.
func rowsBySteps(a *term.Arena, ref int) []int {
	n, _ := a.Get(ref)
	var rows []int
	for _, part := range partsOf(n) {
		for _, row := range rowsBySteps(a, part) {
			if !slices.Contains(rows, row) {
				rows = append(rows, row)
			}
		}
	}
	return append(rows, ref)
}

// textByRows puts a text together as the chapter says it, row by row.
func textByRows(a *term.Arena, rows []int) string {
	var text strings.Builder
	for _, row := range rows {
		n, _ := a.Get(row)
		fields := []string{strconv.Itoa(n.Kind), strconv.FormatUint(n.N, 10)}
		for _, part := range partsOf(n) {
			fields = append(fields, strconv.Itoa(slices.Index(rows, part)))
		}
		text.WriteString(strings.Join(fields, " ") + ";")
	}
	return text.String()
}

// samples are terms of every kind, each with its text.
var samples = []struct {
	text string
	size int
}{
	{"0 0;", 1},
	{"1 0;", 1},
	{"1 7;", 1},
	{"1 18446744073709551615;", 1},
	{"9 0;", 1},
	{"9 18446744073709551615;", 1},
	{"1 7;2 0 0;", 2},
	{"0 0;2 0 0;", 2},
	{"1 1;1 2;3 0 0 1;", 3},
	{"1 1;3 0 0 0;", 2},
	{"1 1;9 3;4 0 0 1;", 3},
	{"1 1;4 0 0 0;", 2},
	{"1 2;1 1;5 0 0 1;", 3},
	{"9 1;5 0 0 0;", 2},
	{"1 1;9 0;6 1 0 1;", 3},
	{"1 1;9 0;6 4 0 1;", 3},
	{"0 0;6 2 0 0;", 2},
	{"1 3;1 2;1 1;7 0 0 1 2;", 4},
	{"1 1;0 0;7 5 0 1 1;", 3},
	{"1 1;0 0;7 5 0 1 0;", 3},
	{"1 1;0 0;7 5 0 0 1;", 3},
	{"1 1;7 18446744073709551615 0 0 0;", 2},
	{"0 0;8 0 0 0;", 2},
	{"1 1;1 2;5 0 0 1;8 0 2 0;", 4},
	{"1 1;1 2;5 0 0 1;8 0 0 2;", 4},
	{"9 1;8 0 0 0;8 0 1 1;8 0 2 2;", 4},
	{"1 1;2 0 0;1 2;2 0 2;8 0 1 3;3 0 0 2;8 0 4 5;", 7},
	{"9 0;9 1;9 2;9 3;9 4;9 5;9 6;9 7;9 8;9 9;8 0 8 9;8 0 7 10;8 0 6 11;8 0 5 12;8 0 4 13;8 0 3 14;8 0 2 15;8 0 1 16;8 0 0 17;", 19},
}

// P2.1: the example, and a term of every kind.
func TestTextsOfAllKinds(t *testing.T) {
	a := term.New(200)
	secret := make1(t, a, term.Node{Kind: term.Name, N: 7})
	key := make1(t, a, term.Node{Kind: term.Pub, A: secret})
	if s := code.Write(a, key); s != "1 7;2 0 0;" {
		t.Errorf("the public key of Name 7: %q", s)
	}
	for _, c := range samples {
		ref := read(t, a, c.text)
		if s := code.Write(a, ref); s != c.text {
			t.Errorf("Write: %q, not %q", s, c.text)
		}
		if n := code.Size(a, ref); n != c.size || len(code.Rows(a, ref)) != c.size {
			t.Errorf("%q: size %d and %d rows, not %d", c.text, n, len(code.Rows(a, ref)), c.size)
		}
	}
}

// P2.1: rows are in the order of the parts, whatever the order of the refs.
func TestRowsOrder(t *testing.T) {
	a := term.New(20)
	z := make1(t, a, term.Node{Kind: term.Word, N: 3})
	y := make1(t, a, term.Node{Kind: term.Word, N: 2})
	x := make1(t, a, term.Node{Kind: term.Word, N: 1})
	yz := make1(t, a, term.Node{Kind: term.Pair, A: y, B: z})
	seal := make1(t, a, term.Node{Kind: term.Seal, N: 9, A: x, B: yz, C: y})
	back := make1(t, a, term.Node{Kind: term.Seal, N: 9, A: z, B: yz, C: x})
	for _, c := range []struct {
		ref  int
		rows []int
		text string
	}{
		{0, []int{0}, "0 0;"},
		{x, []int{x}, "9 1;"},
		{yz, []int{y, z, yz}, "9 2;9 3;8 0 0 1;"},
		{seal, []int{x, y, z, yz, seal}, "9 1;9 2;9 3;8 0 1 2;7 9 0 3 1;"},
		{back, []int{z, y, yz, x, back}, "9 3;9 2;8 0 1 0;9 1;7 9 0 2 3;"},
	} {
		if rows := code.Rows(a, c.ref); !slices.Equal(rows, c.rows) {
			t.Errorf("Rows(%d): %v, not %v", c.ref, rows, c.rows)
		}
		if n := code.Size(a, c.ref); n != len(c.rows) {
			t.Errorf("Size(%d): %d, not %d", c.ref, n, len(c.rows))
		}
		if s := code.Write(a, c.ref); s != c.text {
			t.Errorf("Write(%d): %q, not %q", c.ref, s, c.text)
		}
	}
}

// P2.1: refs that do not exist have no rows and no text.
func TestMissingRefs(t *testing.T) {
	for _, a := range []*term.Arena{term.New(1), mixed(rand.New(rand.NewSource(1)), 50)} {
		for _, ref := range missing(a.Len()) {
			if rows := code.Rows(a, ref); len(rows) != 0 {
				t.Errorf("Rows(%d): %v", ref, rows)
			}
			if n := code.Size(a, ref); n != 0 {
				t.Errorf("Size(%d): %d", ref, n)
			}
			if s := code.Write(a, ref); s != "" {
				t.Errorf("Write(%d): %q", ref, s)
			}
		}
	}
}

// P2.1: many terms, against the chapter's own words.
func TestRowsOfManyTerms(t *testing.T) {
	r := rand.New(rand.NewSource(2))
	for range 20 {
		a := mixed(r, 60)
		before := nodes(a)
		for ref := range a.Len() {
			want := rowsBySteps(a, ref)
			if rows := code.Rows(a, ref); !slices.Equal(rows, want) {
				t.Fatalf("Rows(%d): %v, not %v", ref, rows, want)
			}
			if n := code.Size(a, ref); n != len(want) {
				t.Fatalf("Size(%d): %d, not %d", ref, n, len(want))
			}
			if s := code.Write(a, ref); s != textByRows(a, want) {
				t.Fatalf("Write(%d): %q, not %q", ref, s, textByRows(a, want))
			}
		}
		if !slices.Equal(nodes(a), before) {
			t.Fatal("the arena has changed")
		}
	}
}

// P2.1: terms as deep as an arena allows, each in another one twice.
func TestRowsOfDeepTerms(t *testing.T) {
	a := term.New(api.MaxTerms)
	ref := make1(t, a, term.Node{Kind: term.Word, N: 5})
	for a.Len() < api.MaxTerms {
		ref = make1(t, a, term.Node{Kind: term.Pair, A: ref, B: ref})
	}
	rows := code.Rows(a, ref)
	if n := code.Size(a, ref); n != api.MaxTerms-1 || len(rows) != n {
		t.Fatalf("size %d and %d rows", n, len(rows))
	}
	for i, row := range rows {
		if row != i+1 {
			t.Fatalf("row %d: %d", i, row)
		}
	}
	s := code.Write(a, ref)
	if !strings.HasPrefix(s, "9 5;8 0 0 0;8 0 1 1;") || !strings.HasSuffix(s, ";8 0 65532 65532;8 0 65533 65533;") {
		t.Errorf("a text that begins with %.30q", s)
	}
	refuse(t, a, s, api.ErrForm)
}

// P2.1: rows are new memory.
func TestRowsAreNew(t *testing.T) {
	a := term.New(10)
	ref := read(t, a, "1 1;1 2;5 0 0 1;")
	first := code.Rows(a, ref)
	second := code.Rows(a, ref)
	whole := first[:cap(first)]
	for i := range whole {
		whole[i] = 99
	}
	if !slices.Equal(second, []int{1, 2, 3}) || !slices.Equal(code.Rows(a, ref), second) {
		t.Error("rows share memory")
	}
	if s := code.Write(a, ref); s != "1 1;1 2;5 0 0 1;" {
		t.Errorf("the term has become %q", s)
	}
}

// P2.2: parts are made row by row, and what is held is taken.
func TestReadMakesRowByRow(t *testing.T) {
	a := term.New(20)
	two := make1(t, a, term.Node{Kind: term.Name, N: 2})
	ref := read(t, a, "1 1;1 2;5 0 0 1;9 4;7 6 2 3 0;")
	want := []term.Node{
		{},
		{Kind: term.Name, N: 2},
		{Kind: term.Name, N: 1},
		{Kind: term.Hash, A: 2, B: two},
		{Kind: term.Word, N: 4},
		{Kind: term.Seal, N: 6, A: 3, B: 4, C: 2},
	}
	if ref != 5 || !slices.Equal(nodes(a), want) {
		t.Errorf("ref %d of %v", ref, nodes(a))
	}
	if again := read(t, a, "1 1;1 2;5 0 0 1;9 4;7 6 2 3 0;"); again != ref || a.Len() != 6 {
		t.Errorf("read again: %d of %d terms", again, a.Len())
	}
	if part := read(t, a, "1 1;1 2;5 0 0 1;"); part != 3 || a.Len() != 6 {
		t.Errorf("a part of it: %d of %d terms", part, a.Len())
	}
	if empty := read(t, a, "0 0;"); empty != 0 || a.Len() != 6 {
		t.Errorf("Empty: %d of %d terms", empty, a.Len())
	}
}

// notTexts are not the text of any term.
func notTexts() []string {
	return []string{
		"", ";", ";;", " ", " ;", "x", "x;", "1", "1;", "1 ;", " 1;", "1 7", "1 7;;", ";1 7;", "1 7; ", " 1 7;", "1 7 ;", "1  7;", "1\t7;", "1 7;\n",
		"1,7;", "1 7:", "1 7;2 0 0", "1 7;2 0 0;;", "1 7;;2 0 0;", "1 7 2 0 0;", "1 7;2 0 0;\x00", "\xff\xfe;", "1 ７;",
		// numbers that are written otherwise, or too large
		"01 7;", "1 07;", "1 00;", "00 0;", "+1 7;", "1 +7;", "-1 7;", "1 -7;", "-0 0;", "0 -0;", "1 0x7;", "1 7e0;", "1 7.0;", "1 1_0;", "1 7;2 0 00;", "1 7;2 00 0;", "1 7;2 0 +0;", "1 7;2 0 -0;",
		"1 18446744073709551616;", "1 99999999999999999999999;", "9 18446744073709551616;", "18446744073709551617 7;", "4294967297 7;", "1 7;2 0 18446744073709551616;",
		// kinds that do not exist
		"10 0;", "11 0;", "-1 0;", "1 1;10 0 0;", "1 1;1 2;12 0 0 1;", "9223372036854775807 0;", "18446744073709551615 0;",
		// numbers that a kind does not allow
		"0 1;", "1 7;2 1 0;", "1 1;1 2;3 1 0 1;", "1 1;9 3;4 1 0 1;", "1 1;5 1 0 0;", "6 0 0 0;", "1 1;6 0 0 0;", "1 1;6 5 0 0;", "1 1;6 18446744073709551615 0 0;", "1 1;8 1 0 0;",
		// too many or too few parts
		"0 0 0;", "0 0;0 0 0;", "1 7;1 7 0;", "0 0;1 7 0;", "0 0;9 7 0;", "1 7;2 0;", "1 7;2 0 0 0;", "1 7;3 0 0;", "1 7;3 0 0 0 0;", "1 7;4 0 0;", "1 7;5 0 0;", "1 7;5 0 0 0 0;", "1 7;6 1 0;", "1 7;6 1 0 0 0;", "1 7;7 1 0 0;", "1 7;7 1 0 0 0 0;", "1 7;8 0 0;", "1 7;8 0 0 0 0;", "1 7;8 0;", "1 7;8;", "2 0;", "7 0;",
		// parts whose rows do not come before
		"2 0 0;", "1 7;2 0 1;", "1 7;2 0 2;", "2 0 1;1 7;", "8 0 0 0;", "1 7;8 0 0 1;", "1 7;8 0 1 0;", "1 7;7 0 0 0 1;", "1 7;2 0 4294967296;", "1 7;2 0 9223372036854775808;", "1 7;2 0 18446744073709551615;",
		// rows that are there twice, or are not of the term
		"0 0;0 0;", "1 1;1 1;", "1 1;1 1;2 0 0;", "1 1;1 1;2 0 1;", "1 1;1 1;8 0 0 1;", "1 1;2 0 0;2 0 0;", "9 0;9 1;", "1 1;9 1;2 0 0;", "0 0;1 7;2 0 1;", "1 7;2 0 0;9 1;", "1 7;2 0 0;1 7;",
		// rows that are in a different order
		"1 2;1 1;5 0 1 0;", "1 1;9 1;8 0 1 0;", "1 1;9 1;2 0 0;7 0 2 1 0;", "1 1;1 2;1 3;7 0 0 2 1;", "1 1;1 2;2 0 0;2 0 1;8 0 2 3;",
		// a Dh with its secrets in the wrong order, an Odd of a public key
		"1 2;1 1;3 0 0 1;", "9 0;1 1;3 0 0 1;", "1 1;2 0 0;3 0 1 0;", "1 1;0 0;3 0 0 1;", "1 1;2 0 0;4 0 0 1;", "1 2;1 1;2 0 1;4 0 0 2;", "1 1;2 0 0;4 0 1 1;",
	}
}

// P2.2: what is not the text of a term is ErrForm, in an empty and in a full arena.
func TestReadRefusesOtherTexts(t *testing.T) {
	empty, used, full := term.New(1), mixed(rand.New(rand.NewSource(3)), 100), term.New(4)
	for n := range uint64(3) {
		make1(t, full, term.Node{Kind: term.Name, N: n})
	}
	roomy := term.New(1000)
	for _, s := range notTexts() {
		for _, a := range []*term.Arena{empty, used, full, roomy} {
			refuse(t, a, s, api.ErrForm)
		}
	}
}

// allTexts calls with each string over an alphabet that is not longer.
func allTexts(alphabet string, longest int, with func(string)) {
	text := make([]byte, 0, longest)
	var extend func()
	extend = func() {
		with(string(text))
		if len(text) == longest {
			return
		}
		for _, c := range []byte(alphabet) {
			text = append(text, c)
			extend()
			text = text[:len(text)-1]
		}
	}
	extend()
}

// P2.2 and P2.3: of all short strings exactly these are texts of terms.
func TestReadAllShortTexts(t *testing.T) {
	for _, c := range []struct {
		alphabet string
		longest  int
		texts    []string
	}{
		{"02 ;", 10, []string{"0 0;", "0 0;2 0 0;"}},
		{"10 ;", 6, []string{"0 0;", "1 0;", "1 1;", "1 10;", "1 11;", "1 100;", "1 101;", "1 110;", "1 111;"}},
		{"9+-1 ;", 6, []string{
			"1 1;", "1 9;", "9 1;", "9 9;", "1 11;", "1 19;", "1 91;", "1 99;", "9 11;", "9 19;", "9 91;", "9 99;",
			"1 111;", "1 119;", "1 191;", "1 199;", "1 911;", "1 919;", "1 991;", "1 999;",
			"9 111;", "9 119;", "9 191;", "9 199;", "9 911;", "9 919;", "9 991;", "9 999;",
		}},
	} {
		a := term.New(100)
		var got []string
		allTexts(c.alphabet, c.longest, func(s string) {
			ref, e := code.Read(a, s)
			if e != api.OK && (e != api.ErrForm || ref != 0) {
				t.Errorf("Read(%q): %d, error %d", s, ref, e)
			}
			if e == api.OK {
				got = append(got, s)
			}
		})
		slices.Sort(got)
		slices.Sort(c.texts)
		if !slices.Equal(got, c.texts) {
			t.Errorf("texts over %q: %q, not %q", c.alphabet, got, c.texts)
		}
	}
}

// longText returns the text of a term, with exactly that many bytes.
func longText(t *testing.T, size int) string {
	t.Helper()
	var rows strings.Builder
	for i := 0; rows.Len()+20 < size; i++ {
		rows.WriteString("2 0 " + strconv.Itoa(i) + ";")
	}
	digits := size - rows.Len() - len("1 ;")
	if digits < 1 || digits > 19 {
		t.Fatalf("no text of %d bytes", size)
	}
	return "1 " + strings.Repeat("7", digits) + ";" + rows.String()
}

// P2.2: a text has at most 2^14 bytes.
func TestReadLongTexts(t *testing.T) {
	for _, size := range []int{api.MaxText - 1, api.MaxText} {
		a := term.New(api.MaxTerms)
		s := longText(t, size)
		if ref := read(t, a, s); len(s) != size || code.Write(a, ref) != s {
			t.Errorf("a text of %d bytes: another text is written", size)
		}
	}
	for _, size := range []int{api.MaxText + 1, api.MaxText + 2, 2 * api.MaxText} {
		s := longText(t, size)
		a := term.New(api.MaxTerms)
		refuse(t, a, s, api.ErrForm)
		refuse(t, term.New(1), s, api.ErrForm)
		// The term is one all the same; only its text is too long.
		ref := 0
		for i := range strings.Count(s, ";") {
			if i == 0 {
				ref = read(t, a, s[:strings.Index(s, ";")+1])
			} else {
				ref = make1(t, a, term.Node{Kind: term.Pub, A: ref})
			}
		}
		if code.Write(a, ref) != s {
			t.Errorf("a text of %d bytes is not written", size)
		}
		refuse(t, a, s, api.ErrForm)
	}
	refuse(t, term.New(10), strings.Repeat("1 7;", 5000), api.ErrForm)
	refuse(t, term.New(10), strings.Repeat(";", api.MaxText), api.ErrForm)
	refuse(t, term.New(10), strings.Repeat(" ", api.MaxText), api.ErrForm)
	refuse(t, term.New(10), strings.Repeat("1", api.MaxText), api.ErrForm)
	refuse(t, term.New(10), strings.Repeat("\x00", 1<<20), api.ErrForm)
}

// P2.2: without space for all of a term nothing of it is made.
func TestReadWithoutSpace(t *testing.T) {
	const s = "1 1;1 2;5 0 0 1;8 0 2 0;" // four terms beside Empty
	for limit := 1; limit <= 4; limit++ {
		refuse(t, term.New(limit), s, api.ErrFull)
	}
	a := term.New(5)
	if ref := read(t, a, s); ref != 4 || a.Len() != 5 {
		t.Errorf("ref %d of %d terms", ref, a.Len())
	}
	// Everything of it is held, so a full arena needs no space.
	for _, held := range []string{s, "1 1;1 2;5 0 0 1;", "1 2;", "0 0;"} {
		if ref := read(t, a, held); code.Write(a, ref) != held || a.Len() != 5 {
			t.Errorf("%q from a full arena: %d of %d terms", held, ref, a.Len())
		}
	}
	for _, more := range []string{"1 3;", "1 1;2 0 0;", "0 0;8 0 0 0;", "1 1;1 2;5 0 0 1;8 0 2 0;2 0 3;"} {
		refuse(t, a, more, api.ErrFull)
	}
}

// P2.2: what is held of a term needs no space.
func TestReadWithPartsHeld(t *testing.T) {
	const s = "1 1;1 2;5 0 0 1;8 0 2 0;"
	for _, c := range []struct {
		held  string
		limit int
	}{
		{"1 2;", 5}, {"1 1;1 2;5 0 0 1;", 5}, {"9 9;", 6}, {"1 1;2 0 0;", 6}, {"1 2;1 1;5 0 0 1;", 6},
	} {
		for limit := c.limit - 2; limit <= c.limit+1; limit++ {
			a := term.New(limit)
			if ref, e := code.Read(a, c.held); e != api.OK || ref == 0 {
				continue // not even this has space
			}
			if limit < c.limit {
				refuse(t, a, s, api.ErrFull)
				continue
			}
			if ref := read(t, a, s); code.Write(a, ref) != s || a.Len() != c.limit {
				t.Errorf("with %q held: %d of %d terms", c.held, ref, a.Len())
			}
		}
	}
}

// same compares two terms of two arenas part by part.
func same(a *term.Arena, x int, b *term.Arena, y int) bool {
	m, _ := a.Get(x)
	n, _ := b.Get(y)
	if m.Kind != n.Kind || m.N != n.N {
		return false
	}
	others := partsOf(n)
	for i, part := range partsOf(m) {
		if !same(a, part, b, others[i]) {
			return false
		}
	}
	return true
}

// P2.3: reading what was written is the same term, in whatever arena.
func TestReadWhatWasWritten(t *testing.T) {
	r := rand.New(rand.NewSource(4))
	for range 20 {
		a := mixed(r, 60)
		b := mixed(r, 20)
		other := term.New(api.MaxTerms)
		for ref := range b.Len() {
			read(t, other, code.Write(b, ref))
		}
		before := a.Len()
		for ref := range before {
			s := code.Write(a, ref)
			if again := read(t, a, s); again != ref {
				t.Fatalf("Read(%q): %d, not %d", s, again, ref)
			}
			there := read(t, other, s)
			if !same(a, ref, other, there) || code.Write(other, there) != s {
				t.Fatalf("Read(%q) in another arena: %q", s, code.Write(other, there))
			}
		}
		if a.Len() != before {
			t.Fatalf("%d terms, not %d", a.Len(), before)
		}
	}
}

// P2.3: two terms have the same text exactly if they are the same.
func TestSameTextsAreSameTerms(t *testing.T) {
	r := rand.New(rand.NewSource(5))
	a, b := mixed(r, 60), mixed(r, 60)
	both := 0
	for x := range a.Len() {
		for y := range b.Len() {
			equal := same(a, x, b, y)
			if (code.Write(a, x) == code.Write(b, y)) != equal {
				t.Fatalf("%q and %q: the same term %v", code.Write(a, x), code.Write(b, y), equal)
			}
			if equal {
				both++
			}
		}
		for y := range a.Len() {
			if (code.Write(a, x) == code.Write(a, y)) != (x == y) {
				t.Fatalf("%d and %d: %q", x, y, code.Write(a, x))
			}
		}
	}
	if both < 5 {
		t.Fatalf("only %d terms in both arenas", both)
	}
}

// changes returns a text with one byte less, more or different at each place.
func changes(s string) []string {
	var l []string
	for i := range len(s) + 1 {
		for _, c := range "0123456789 ;+-" {
			l = append(l, s[:i]+string(c)+s[i:])
			if i < len(s) {
				l = append(l, s[:i]+string(c)+s[i+1:])
			}
		}
		if i < len(s) {
			l = append(l, s[:i]+s[i+1:])
		}
	}
	return l
}

// P2.3: no other text yields a term: what is read is written just so.
func TestNoOtherText(t *testing.T) {
	good, bad := 0, 0
	for _, c := range samples {
		for _, s := range changes(c.text) {
			a := term.New(100)
			ref, e := code.Read(a, s)
			switch {
			case e == api.OK:
				good++
				if code.Write(a, ref) != s {
					t.Errorf("Read(%q) is the term %q", s, code.Write(a, ref))
				}
				if s != c.text && ref == read(t, a, c.text) {
					t.Errorf("%q and %q are both read as %d", s, c.text, ref)
				}
			case e != api.ErrForm || ref != 0 || a.Len() != 1:
				t.Errorf("Read(%q): %d, error %d, %d terms", s, ref, e, a.Len())
			default:
				bad++
			}
		}
	}
	if good < 100 || bad < 1000 {
		t.Errorf("%d texts of terms, %d other ones", good, bad)
	}
}
