package lexer_test

import (
	"math/rand"
	"regexp"
	"slices"
	"strings"
	"testing"

	"assessor/api"
	"assessor/lexer"
)

const keywords = "record proc var if else while for to return assert and or not true false int bool len"

// P2.1

// show writes the tokens of a text as letters of kinds and words.
func show(t *testing.T, s string) string {
	t.Helper()
	l, e := lexer.Scan(s)
	if e != api.OK {
		t.Fatalf("%q: %v", s, e)
	}
	var words []string
	for _, x := range l {
		words = append(words, "nkdswE"[x.Kind:x.Kind+1]+s[x.At:x.End])
	}
	return strings.Join(words, "|")
}

func TestScanKinds(t *testing.T) {
	for _, x := range [][2]string{
		{"", "E"},
		{" \t\r\n", "E"},
		{"x=-1 # a", "nx|s=|s-|d1|E"},
		{"a$$b", "na|w$$|nb|E"},
		{"!!=", "w!|s!=|E"},
		{"!", "w!|E"},
		{"! =", "w!|s=|E"},
		{"!==", "s!=|s=|E"},
		{"$!", "w$!|E"},
		{"$!=", "w$|s!=|E"},
		{"$=", "w$|s=|E"},
		{"$1", "w$|d1|E"},
		{"$a", "w$|na|E"},
		{"$$ $", "w$$|w$|E"},
		{"$\t$\r$\n$", "w$|w$|w$|w$|E"},
		{"$#$\n$", "w$|w$|E"},
		{"\"a\"", "w\"|na|w\"|E"},
		{"ABc_dE", "wAB|nc_d|wE|E"},
		{"_", "w_|E"},
		{"_a", "w_|na|E"},
		{"1_", "d1|w_|E"},
		{"a1_2b", "na1_2b|E"},
		{"12ab", "d12|nab|E"},
		{"007", "d007|E"},
		{"12345678901", "d12345678901|E"},
		{"a_name_that_is_too_long", "na_name_that_is_too_long|E"},
		{"===", "s==|s=|E"},
		{"= =", "s=|s=|E"},
		{"==!=<=>=", "s==|s!=|s<=|s>=|E"},
		{"=<", "s=|s<|E"},
		{"<>=+-*/%(){}[],;:.", "s<|s>=|s+|s-|s*|s/|s%|s(|s)|s{|s}|s[|s]|s,|s;|s:|s.|E"},
		{">", "s>|E"},
		{"a:int", "na|s:|kint|E"},
		{"lens ifx if1 to_", "nlens|nifx|nif1|nto_|E"},
		{"If", "wI|nf|E"},
		{"#", "E"},
		{"# x\n", "E"},
		{"a#b\nc", "na|nc|E"},
		{"a#b#c\r\nd#", "na|nd|E"},
		{"a\rb", "na|nb|E"},
		{"a\x0bb", "na|w\x0b|nb|E"},
		{"\x00\x7f\x80\xff", "w\x00\x7f\x80\xff|E"},
		{"`{@[~", "w`|s{|w@|s[|w~|E"},
		{"?&|^\\'", "w?&|^\\'|E"},
	} {
		if got := show(t, x[0]); got != x[1] {
			t.Errorf("%q: %q", x[0], got)
		}
	}
	for _, word := range strings.Fields(keywords) {
		if got := show(t, word); got != "k"+word+"|E" {
			t.Error(got)
		}
	}
}

func token(kind, from, at, end int) api.Token {
	return api.Token{Kind: kind, From: from, At: at, End: end}
}

func TestScanPlaces(t *testing.T) {
	for _, x := range []struct {
		s    string
		want []api.Token
	}{
		{"", []api.Token{token(api.TokenEnd, 0, 0, 0)}},
		{"#a", []api.Token{token(api.TokenEnd, 0, 2, 2)}},
		{"x=-1 # a", []api.Token{token(api.TokenName, 0, 0, 1), token(api.TokenSymbol, 1, 1, 2), token(api.TokenSymbol, 2, 2, 3), token(api.TokenNumber, 3, 3, 4), token(api.TokenEnd, 4, 8, 8)}},
		{" #\n$ if", []api.Token{token(api.TokenWrong, 0, 3, 4), token(api.TokenKeyword, 4, 5, 7), token(api.TokenEnd, 7, 7, 7)}},
	} {
		if l, e := lexer.Scan(x.s); !slices.Equal(l, x.want) || e != api.OK {
			t.Errorf("%q: %v %v", x.s, l, e)
		}
	}
}

func TestScanLimit(t *testing.T) {
	for _, s := range []string{strings.Repeat(";", api.MaxSource), strings.Repeat(" ", api.MaxSource)} {
		if l, e := lexer.Scan(s); e != api.OK || lexer.Join(s, l) != s {
			t.Error(len(l), e)
		}
		if l, e := lexer.Scan(s + " "); e != api.ErrTooLarge || len(l) != 0 {
			t.Error(len(l), e)
		}
	}
}

// TestScanLikeExpression compares the tokens of random texts with those that a regular expression finds.
func TestScanLikeExpression(t *testing.T) {
	token := regexp.MustCompile(`^(?:([a-z][a-z0-9_]*)|([0-9]+)|([=!<>]=|[-<>=+*/%(){}\[\],;:.]))`)
	blank := regexp.MustCompile("^(?:[\t\n\r ]|#[^\n]*)*")
	r := rand.New(rand.NewSource(1))
	for range 5000 {
		s := randomText(r)
		var want []api.Token
		for from := 0; ; {
			at := from + len(blank.FindString(s[from:]))
			x := api.Token{Kind: api.TokenEnd, From: from, At: at, End: at}
			if m := token.FindStringSubmatch(s[at:]); m != nil {
				x.End = at + len(m[0])
				switch {
				case m[1] != "":
					x.Kind = api.TokenName
					if slices.Contains(strings.Fields(keywords), m[1]) {
						x.Kind = api.TokenKeyword
					}
				case m[2] != "":
					x.Kind = api.TokenNumber
				default:
					x.Kind = api.TokenSymbol
				}
			} else if at < len(s) {
				x.Kind = api.TokenWrong
				for x.End++; x.End < len(s) && token.FindString(s[x.End:])+blank.FindString(s[x.End:]) == ""; x.End++ {
				}
			}
			want = append(want, x)
			if from = x.End; x.Kind == api.TokenEnd {
				break
			}
		}
		if l, e := lexer.Scan(s); !slices.Equal(l, want) || e != api.OK {
			t.Fatalf("%q: %v %v", s, l, e)
		}
	}
}

// randomText returns a few parts that are near the borders of tokens.
func randomText(r *rand.Rand) string {
	parts := strings.Split("a|z|ab|a1|_|0|9|10|A|$|!|=|==|!=|<|<=|>|>=|+|(|}|.|;|:|if|to|# x|#", "|")
	parts = append(parts, " ", "\n", "\t", "\r", "\x0b", "\x00", "\x80", "{", "|", "@", "`")
	s := ""
	for range r.Intn(10) {
		s += parts[r.Intn(len(parts))]
	}
	return s
}

// P2.2

func TestJoinAndWords(t *testing.T) {
	s := "x=-1 # a"
	l, _ := lexer.Scan(s)
	if lexer.Join(s, l) != s || !slices.Equal(lexer.Words(s, l), []string{"x", "=", "-", "1", ""}) {
		t.Error(lexer.Words(s, l))
	}
	l = []api.Token{{From: 3, At: 3, End: 4}, {From: 1, At: 2, End: 3}, {From: 8, At: 8, End: 8}, {From: 0, At: 0, End: 8}, {Kind: -1, From: 4, At: 5, End: 6}}
	if lexer.Join(s, l) != "1=-"+s+" #" || !slices.Equal(lexer.Words(s, l), []string{"1", "-", "", s, "#"}) {
		t.Error(lexer.Join(s, l), lexer.Words(s, l))
	}
	if lexer.Join(s, nil) != "" || len(lexer.Words(s, nil)) != 0 {
		t.Error("something of nothing")
	}
}

func TestJoinAndWordsOfWrongTokens(t *testing.T) {
	for i, x := range []api.Token{{From: -1, At: 0, End: 1}, {From: 1, At: 0, End: 2}, {From: 0, At: 2, End: 1}, {From: 0, At: 0, End: 4}, {From: 4, At: 4, End: 4}, {From: 0, At: -1, End: 0}} {
		for _, l := range [][]api.Token{{x}, {{End: 1}, x}, {x, {End: 1}}} {
			if lexer.Join("abc", l) != "" || len(lexer.Words("abc", l)) != 0 {
				t.Error(i)
			}
		}
	}
	l := make([]api.Token, api.MaxSource+2)
	for i := range l {
		l[i].End = 1
	}
	if s, w := lexer.Join("a", l), lexer.Words("a", l); s != "" || len(w) != 0 {
		t.Error(len(s), len(w))
	}
	if s, w := lexer.Join("a", l[1:]), lexer.Words("a", l[1:]); len(s) != len(l)-1 || len(w) != len(l)-1 {
		t.Error(len(s), len(w))
	}
}

// P2.3

func TestKeywordAndName(t *testing.T) {
	for _, s := range strings.Fields(keywords) {
		if !lexer.Keyword(s) || lexer.Name(s) {
			t.Error(s)
		}
		if lexer.Keyword(s+"s") || !lexer.Name(s+"s") {
			t.Error(s + "s")
		}
	}
	for _, s := range []string{"a", "z", "a_", "z9", "in", "sixteen_letters_", "string", "nil"} {
		if lexer.Keyword(s) || !lexer.Name(s) {
			t.Error(s)
		}
	}
	for _, s := range []string{"", " ", "_", "9", "1a", "A", "aB", "a b", "a ", " a", "a#", "#a", "a-", "a\n", "a\x80", "If", "if ", " if", "seventeen_letter_", "=", "{", "`"} {
		if lexer.Keyword(s) || lexer.Name(s) {
			t.Error(s)
		}
	}
}

func TestNumber(t *testing.T) {
	for s, want := range map[string]int{"0": 0, "9": 9, "00": 0, "012": 12, "000000001": 1, "999999999": api.MaxNumber} {
		if n, ok := lexer.Number(s); n != want || !ok {
			t.Error(s, n, ok)
		}
	}
	for _, s := range []string{"", "-1", "+1", "1 ", " 1", "1a", "a1", "0000000000", "1000000000", "99999999999999999999", "1_0", "/", ":", "1.0", "0x1", "\xd9\xa1"} {
		if n, ok := lexer.Number(s); n != 0 || ok {
			t.Error(s, n, ok)
		}
	}
}

// P2.4

func TestSpace(t *testing.T) {
	for _, x := range [][2]string{{"x", "="}, {"=", "x"}, {"1", "x"}, {"=", "<"}, {"==", "="}, {"!=", "="}, {"-", "-"}, {")", ";"}, {"$", "x"}, {"x", "$"}, {"$", "1"}, {"$", "="}, {"!", "!="}, {"!", "<"}, {"if", "("}, {"1", "if"}, {"p", "."}} {
		if s := lexer.Space(x[0], x[1]); s != "" {
			t.Errorf("%q %q: %q", x[0], x[1], s)
		}
	}
	for _, x := range [][2]string{{"=", "="}, {"x", "1"}, {"x", "y"}, {"if", "x"}, {"1", "2"}, {"!", "="}, {"<", "="}, {">", "=="}, {"$", "$"}, {"$", "_"}, {"x", "_"}, {"", ""}, {"", "x"}, {"x", ""}, {"x ", "="}, {" x", "="}, {"x", " ="}, {"x", "= "}, {"x", "=y"}, {"x=", "y"}, {"x", "#"}, {"#", "x"}, {"# ", "\n"}, {" ", " "}, {"x", " "}, {" ", "x"}, {"x", "\n"}} {
		if s := lexer.Space(x[0], x[1]); s != " " {
			t.Errorf("%q %q: %q", x[0], x[1], s)
		}
	}
}

func TestSpaceOfLongWords(t *testing.T) {
	long := strings.Repeat("x", api.MaxSource)
	if s := lexer.Space(long, "="); s != "" {
		t.Errorf("%q", s)
	}
	if s := lexer.Space(long, "x"); s != " " {
		t.Errorf("%q", s)
	}
}

func TestSpaceLikeScan(t *testing.T) {
	r := rand.New(rand.NewSource(2))
	for range 5000 {
		a, b := randomText(r), randomText(r)
		l, _ := lexer.Scan(a + b)
		want := " "
		if len(l) == 3 && slices.Equal(lexer.Words(a+b, l), []string{a, b, ""}) {
			want = ""
		}
		if s := lexer.Space(a, b); s != want {
			t.Fatalf("%q %q: %q", a, b, s)
		}
	}
}

// P2.5

// TestTokensAreTheText also holds that each token begins where the white space behind the one before it ends.
func TestTokensAreTheText(t *testing.T) {
	r := rand.New(rand.NewSource(3))
	for range 5000 {
		s := randomText(r)
		l, e := lexer.Scan(s)
		if e != api.OK || lexer.Join(s, l) != s {
			t.Fatalf("%q: %v %v", s, l, e)
		}
		from := 0
		for i, x := range l {
			if x.From != from || (x.Kind == api.TokenEnd) != (i == len(l)-1) {
				t.Fatalf("%q: %v", s, l)
			}
			from = x.End
		}
	}
}

func TestWordsDoNotDependOnBlanks(t *testing.T) {
	r := rand.New(rand.NewSource(4))
	blanks := []string{" ", "\n", "\t \r\n", "#\n", " # if x\n#\n  "}
	for range 5000 {
		s := randomText(r)
		l, _ := lexer.Scan(s)
		words := lexer.Words(s, l)
		other := ""
		for i, w := range words {
			if i == 0 || lexer.Space(words[i-1], w) != "" || r.Intn(2) == 0 {
				other += blanks[r.Intn(len(blanks))]
			}
			other += w
		}
		m, e := lexer.Scan(other)
		if e != api.OK || !slices.Equal(lexer.Words(other, m), words) {
			t.Fatalf("%q %q", s, other)
		}
		for i := range l {
			if l[i].Kind != m[i].Kind {
				t.Fatalf("%q %q: %v %v", s, other, l, m)
			}
		}
	}
}

func TestTokensOfTwoTexts(t *testing.T) {
	r := rand.New(rand.NewSource(5))
	for range 5000 {
		a, b := randomText(r), randomText(r)
		one, two := show(t, a), show(t, b)
		if both := show(t, a+"\n"+b); both != strings.TrimSuffix(one, "E")+two {
			t.Fatalf("%q %q: %q", a, b, both)
		}
	}
}

func TestResultsAreNew(t *testing.T) {
	s := "x = 1"
	l, _ := lexer.Scan(s)
	old := slices.Clone(l)
	words := lexer.Words(s, l)
	words[0] = "y"
	lexer.Join(s, l)
	if !slices.Equal(l, old) || lexer.Words(s, l)[0] != "x" {
		t.Error(l)
	}
	l[0].End = 5
	if m, _ := lexer.Scan(s); !slices.Equal(m, old) {
		t.Error(m)
	}
}

func FuzzLexer(f *testing.F) {
	f.Add("x=-1 # a", "b")
	f.Add("!", "!=")
	f.Fuzz(func(t *testing.T, a, b string) {
		if l, e := lexer.Scan(a); e == api.OK && lexer.Join(a, l) != a {
			t.Errorf("%q: %v", a, l)
		}
		if l, e := lexer.Scan(a + b); e == api.OK && lexer.Space(a, b) == "" && !slices.Equal(lexer.Words(a+b, l), []string{a, b, ""}) {
			t.Errorf("%q %q: %v", a, b, l)
		}
		if lexer.Name(a) && (lexer.Keyword(a) || lexer.Space(a, b) == "" && lexer.Name(b)) {
			t.Errorf("%q %q", a, b)
		}
	})
}
