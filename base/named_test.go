package base_test

import (
	"math/rand"
	"regexp"
	"strconv"
	"strings"
	"testing"

	"undertone/api"
	"undertone/base"
	"undertone/token"
)

// P6.3: names with all kinds of modifiers, written out.
func TestNamed(t *testing.T) {
	for _, want := range []token.Pattern{
		pattern("NNpsk0", nil, nil, from0(psk, e), from1(e, ee)),
		pattern("NNpsk1", nil, nil, from0(e, psk), from1(e, ee)),
		pattern("NNpsk2", nil, nil, from0(e), from1(e, ee, psk)),
		pattern("Npsk0", nil, []int{s}, from0(psk, e, es)),
		pattern("Kpsk1", []int{s}, []int{s}, from0(e, es, ss, psk)),
		pattern("IKpsk2", nil, []int{s}, from0(e, es, s, ss), from1(e, ee, se, psk)),
		pattern("XXpsk3", nil, nil, from0(e), from1(e, ee, s, es), from0(s, se, psk)),
		pattern("XXpsk0+psk3", nil, nil, from0(psk, e), from1(e, ee, s, es), from0(s, se, psk)),
		pattern("XXpsk3+psk0", nil, nil, from0(psk, e), from1(e, ee, s, es), from0(s, se, psk)),
		pattern("NNpsk0+psk1+psk2", nil, nil, from0(psk, e, psk), from1(e, ee, psk)),
		pattern("NNpsk2+psk2", nil, nil, from0(e), from1(e, ee, psk, psk)),
		pattern("XXfallback", []int{e}, nil, from1(e, ee, s, es), from0(s, se)),
		pattern("INfallback", []int{e, s}, nil, from1(e, ee, se)),
		pattern("XXfallback+psk0", []int{e}, nil, from1(psk, e, ee, s, es), from0(s, se)),
		pattern("XXfallback+psk1", []int{e}, nil, from1(e, ee, s, es, psk), from0(s, se)),
		pattern("XXfallback+psk2", []int{e}, nil, from1(e, ee, s, es), from0(s, se, psk)),
		pattern("XXpsk2+fallback", []int{e}, nil, from1(e, ee, s, es, psk), from0(s, se)),
		pattern("IXpsk2+fallback+psk0", []int{e, s}, nil, from1(psk, e, ee, se, s, es, psk)),
		pattern("XXfallback+psk2+psk0", []int{e}, nil, from1(psk, e, ee, s, es), from0(s, se, psk)),
		pattern("Npsk0+psk1+psk0+psk1", nil, []int{s}, from0(psk, psk, e, es, psk, psk)),
	} {
		p, err := base.Named(want.Name)
		wantPattern(t, "Named "+want.Name, p, err, want)
	}
}

// P6.3: a base pattern's name alone.
func TestNamedBase(t *testing.T) {
	for _, want := range basePatterns() {
		p, err := base.Named(want.Name)
		wantPattern(t, "Named "+want.Name, p, err, want)
	}
}

// P6.3: names that are none.
func TestNamedErrName(t *testing.T) {
	for _, name := range []string{
		"", " ", "+", "psk0", "fallback", "+psk0", "1", "x", "xx", "nn", "Xx", // no base pattern
		"A", "I", "XXX", "NNN", "XY", "ZZpsk0", "XYfallback", "XXXpsk0", "XXKpsk0", "Ν", "ΝΝ", "ÄXX",
		"Xn", "XXÄ", "XX ", " XX", "XX\n", "XX\x00", "XX\xff", "XX1", "XX:", // no modifier
		"XX+", "XX++", "XX+psk1", "XX+fallback", "XX++psk1", // a + at the end or ahead of the first modifier
		"XXpsk1+", "XXfallback+", "XXpsk1++", "XXpsk1++psk2", "NXfallback++psk0", "XXpsk1+psk2+", // at the end or twice
		"XXpsk", "XXpsk+psk1", "XXpsk1+psk", "XXpsk12", "XXpsk01", "XXpsk00", "XXpsk1+psk11", "XXpsk-1", "XXpsk+1", // no digit or two
		"XXpskA", "XXpsk/", "XXpsk:", "XXpsk ", "XXpsk٣", "XXpsk\x00", "XXpsk\x01",
		"XXp", "XXps", "XXPSK1", "XXPsk1", "XXsk1", "XXpks1", "XX1psk", "XXp1", "XXpsk 1", // almost a modifier
		"XXf", "XXfallbac", "XXfallbackk", "XXFallback", "XXFALLBACK", "XXallback", "XXfallback1", "XX fallback", "XXfallback ",
		"XXpsk1psk2", "XXpsk1fallback", "XXfallbackpsk0", "XXpsk2-psk1", "XXpsk2 psk1", "XXpsk2,psk1", "XXpsk2 + psk1", // no + between
		"XXpsk1+XX", "XXpsk1+x", "XXpsk1+ psk1", "XXpsk1+\xff", "XXpsk1 ", "XXpsk1\n",
	} {
		p, err := base.Named(name)
		wantError(t, "Named "+name, p, err, api.ErrName)
	}
}

// P6.3: modifiers that can't be applied.
func TestNamedErrRule(t *testing.T) {
	for _, name := range []string{
		"Npsk2", "Xpsk9", "NNpsk3", "NNpsk9", "XXpsk4", "XXpsk5", "XXpsk8",
		"XXpsk1+psk4", "XXfallback+psk3", "NNfallback+psk2", "NXpsk0+psk3+psk0",
		"Nfallback", "Kfallback", "Xfallback", "NKfallback", "XKfallback", "KNfallback", "KKfallback", "KXfallback", "IKfallback",
		"NNpsk0+fallback", "NNpsk1+fallback", "XXpsk1+psk2+fallback",
		"NNfallback+fallback", "XXfallback+fallback", "INfallback+fallback",
	} {
		p, err := base.Named(name)
		wantError(t, "Named "+name, p, err, api.ErrRule)
	}
}

// P6.3: the first error counts, modifier by modifier.
func TestNamedFirstError(t *testing.T) {
	for name, want := range map[string]api.Errno{
		"XXpsk4+":           api.ErrRule,
		"XXpsk4+x":          api.ErrRule,
		"XXpsk4+psk":        api.ErrRule,
		"XXpsk4++psk1":      api.ErrRule,
		"XXpsk4+fallback":   api.ErrRule,
		"IKfallback+":       api.ErrRule,
		"IKfallback+psk":    api.ErrRule,
		"XXpsk1+psk4+?":     api.ErrRule,
		"XXpsk4psk1":        api.ErrRule, // There is a modifier at the first place: psk4.
		"XXpsk44":           api.ErrRule,
		"IKfallbackpsk1":    api.ErrRule,
		"XXx+psk4":          api.ErrName,
		"XX+psk4":           api.ErrName,
		"XXpsk+psk4":        api.ErrName,
		"XXpsk1++psk4":      api.ErrName,
		"XXpsk1psk4":        api.ErrName,
		"XXpsk11+fallback":  api.ErrName,
		"ZZpsk4":            api.ErrName,
		"XXXfallback+psk9":  api.ErrName,
		"XXpsk2+psk+psk4+x": api.ErrName,
	} {
		p, err := base.Named(name)
		wantError(t, "Named "+name, p, err, want)
	}
}

// P6.3: 20 bytes are allowed, and 21 are not, whatever else is wrong.
func TestNamedLength(t *testing.T) {
	for _, name := range []string{"Npsk0+psk0+psk0+psk0", "Npsk1+psk1+psk1+psk1", "XXfallback+psk0+psk1", "NXpsk2+fallback+psk1"} {
		p, err := base.Named(name)
		if len(name) != 20 || err != api.OK || p.Name != name || !token.Right(p) {
			t.Errorf("Named(%q): %v, error %d", name, p, err)
		}
	}
	for _, name := range []string{"Npsk9+psk0+psk0+psk0", "Npsk0+psk0+psk0+psk2", "XXfallback+psk0+psk3", "NXpsk1+fallback+psk1"} {
		p, err := base.Named(name)
		wantError(t, "Named "+name, p, err, api.ErrRule)
	}
	for _, name := range []string{"NNpsk0+psk0+psk0+psk0", "XXpsk0+psk1+psk2+psk3", "XXpsk9+psk0+psk0+psk0", "IKfallback+psk0+psk0+", "Npsk0+psk0+psk0+psk0+",
		"Npsk9+psk0+psk0+psk0 ", "XXfallback+psk0+psk1+psk2", "Npsk0+psk0+psk0+psk0+psk0", "IKfallback+fallback+fallback",
		strings.Repeat("N", 20), strings.Repeat("N", 21), "XX" + strings.Repeat("+psk0", 1<<16), strings.Repeat("\x00", 1<<16)} {
		p, err := base.Named(name)
		wantError(t, "Named "+name, p, err, api.ErrName)
	}
}

// apply applies one modifier.
func apply(p token.Pattern, modifier string) (token.Pattern, api.Errno) {
	if modifier == "fallback" {
		return base.Fallback(p)
	}
	n, _ := strconv.Atoi(strings.TrimPrefix(modifier, "psk"))
	return base.Psk(p, n)
}

// P6.3: every base pattern with every list of modifiers that fits: they are applied one after the other.
func TestNamedAppliesModifiers(t *testing.T) {
	modifiers := []string{"fallback"}
	for _, digit := range "0123456789" {
		modifiers = append(modifiers, "psk"+string(digit))
	}
	right, wrong := 0, 0
	var look func(name, next string, p token.Pattern)
	look = func(name, next string, p token.Pattern) {
		for _, modifier := range modifiers {
			longer := name + next + modifier
			if len(longer) > 20 {
				continue
			}
			got, err := base.Named(longer)
			want, wantErr := apply(p, modifier)
			if wantErr != api.OK {
				wrong++
				wantError(t, "Named "+longer, got, err, wantErr)
				continue
			}
			right++
			named := copyOf(want)
			named.Name = longer
			wantPattern(t, "Named "+longer, got, err, named)
			look(longer, "+", want)
		}
	}
	for _, p := range basePatterns() {
		look(p.Name, "", p)
	}
	if right < 500 || wrong < 1500 {
		t.Errorf("%d names of patterns, %d other ones", right, wrong)
	}
}

// What a name begins with, and what its next modifier is, otherwise than the program finds it.
var (
	letters  = regexp.MustCompile(`\A[A-Z]*`)
	modifier = regexp.MustCompile(`\A(?:fallback|psk[0-9])`)
	grammar  = regexp.MustCompile(`\A(?:[NKX]|[NKXI][NKX])(?:(?:fallback|psk[0-9])(?:\+(?:fallback|psk[0-9]))*)?\z`)
)

// named is what the chapter says of a name.
func named(name string) (token.Pattern, api.Errno) {
	begin := letters.FindString(name)
	p, err := base.Base(begin)
	if len(name) > 20 || err != api.OK {
		return token.Pattern{}, api.ErrName
	}
	for rest, first := name[len(begin):], true; rest != ""; first = false {
		if !first && rest[0] != '+' {
			return token.Pattern{}, api.ErrName
		}
		if !first {
			rest = rest[1:]
		}
		next := modifier.FindString(rest)
		if next == "" {
			return token.Pattern{}, api.ErrName
		}
		if p, err = apply(p, next); err != api.OK {
			return token.Pattern{}, err
		}
		rest = rest[len(next):]
	}
	p.Name = name
	return p, api.OK
}

// looksRight compares Named with what the chapter says.
func looksRight(t *testing.T, name string) bool {
	t.Helper()
	p, err := base.Named(name)
	want, wantErr := named(name)
	if wantErr != api.OK {
		wantError(t, "Named "+name, p, err, wantErr)
		return false
	}
	wantPattern(t, "Named "+name, p, err, want)
	if !grammar.MatchString(name) {
		t.Errorf("Named(%q): %v, though it is no name", name, p)
	}
	return true
}

// P6.3: names, changed byte by byte.
func TestNamedChanged(t *testing.T) {
	right := 0
	for _, name := range []string{"", "N", "XX", "XXpsk3", "NNpsk0+psk2", "XXfallback", "XXfallback+psk2", "INpsk2+fallback+psk1", "IKfallback", "XXpsk4+psk0", "Npsk0+psk0+psk0+psk0"} {
		for i := range len(name) + 1 {
			for b := range 256 {
				c := string([]byte{byte(b)})
				if looksRight(t, name[:i]+c+name[i:]) {
					right++
				}
				if i < len(name) && looksRight(t, name[:i]+c+name[i+1:]) {
					right++
				}
			}
			looksRight(t, name[:i])
			looksRight(t, name[i:])
		}
	}
	if right < 100 {
		t.Errorf("only %d names of patterns", right)
	}
}

// P6.3: parts of names in random orders.
func TestNamedOfParts(t *testing.T) {
	r := rand.New(rand.NewSource(1))
	parts := []string{"N", "K", "X", "I", "NN", "XX", "IN", "psk0", "psk1", "psk2", "psk3", "psk4", "psk", "fallback", "+", "+", "+", "+psk0", "+psk1", "+fallback", "0", "1", "a", " ", "\xff"}
	right := 0
	for range 200000 {
		name := parts[r.Intn(7)]
		for range r.Intn(6) {
			name += parts[r.Intn(len(parts))]
		}
		if looksRight(t, name) {
			right++
		}
	}
	if right < 2000 {
		t.Errorf("only %d names of patterns", right)
	}
}
