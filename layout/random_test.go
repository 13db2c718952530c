package layout_test

import (
	"math/rand"
	"regexp"
	"slices"
	"strings"
	"testing"

	"assessor/api"
	"assessor/layout"
	"assessor/lexer"
	"assessor/parser"
	"assessor/printer"
	"assessor/tree"
)

func randomWord(r *rand.Rand, words string) string {
	l := strings.Fields(words)
	return l[r.Intn(len(l))]
}

func randomName(r *rand.Rand) string { return randomWord(r, "a b x1 to_ sixteen_letters_") }

func randomProgram(r *rand.Rand) api.Node {
	n := node(api.NodeProgram, "")
	for range 1 + r.Intn(2) {
		if r.Intn(4) == 0 {
			n.Kids = append(n.Kids, node(api.NodeRecord, randomName(r), node(api.NodeField, randomName(r), node(api.NodeType, randomWord(r, "int bool")))))
		}
		parameters := node(api.NodeParameters, "")
		for range r.Intn(3) {
			parameters.Kids = append(parameters.Kids, node(api.NodeParameter+r.Intn(2), randomName(r), randomType(r)))
		}
		n.Kids = append(n.Kids, node(api.NodeProcedure, randomName(r), parameters, randomType(r), randomBlock(r, 3)))
	}
	return n
}

func randomType(r *rand.Rand) api.Node {
	switch r.Intn(4) {
	case 0:
		return node(api.NodeType, randomWord(r, "int bool point"))
	case 1:
		return node(api.NodeArrayType, randomWord(r, "0 1 8 999999999"))
	}
	return node(api.NodeNone, "")
}

func randomBlock(r *rand.Rand, levels int) api.Node {
	n := node(api.NodeBlock, "")
	for range r.Intn(4) {
		n.Kids = append(n.Kids, randomStatement(r, levels-1))
	}
	return n
}

func randomStatement(r *rand.Rand, levels int) api.Node {
	e := func() api.Node { return randomExpression(r, 3) }
	kind := api.NodeVar + r.Intn(8)
	if levels <= 0 && kind >= api.NodeIf && kind <= api.NodeFor {
		kind = api.NodeDo
	}
	switch kind {
	case api.NodeVar:
		return node(kind, randomName(r), randomType(r), e())
	case api.NodeAssign:
		place := node(api.NodeName, randomName(r))
		switch r.Intn(3) {
		case 0:
			place = node(api.NodeIndex, "", place, e())
		case 1:
			place = node(api.NodeMember, randomName(r), place)
		}
		return node(kind, "", place, e())
	case api.NodeIf:
		other := node(api.NodeNone, "")
		switch r.Intn(3) {
		case 0:
			other = randomBlock(r, levels)
		case 1:
			other = node(kind, "", e(), randomBlock(r, levels-1), node(api.NodeNone, ""))
		}
		return node(kind, "", e(), randomBlock(r, levels), other)
	case api.NodeWhile:
		return node(kind, "", e(), randomBlock(r, levels))
	case api.NodeFor:
		return node(kind, randomName(r), e(), e(), randomBlock(r, levels))
	case api.NodeReturn:
		if r.Intn(2) == 0 {
			return node(kind, "", node(api.NodeNone, ""))
		}
		return node(kind, "", e())
	case api.NodeAssert:
		return node(kind, "", e())
	}
	return node(api.NodeDo, randomName(r), randomList(r, 0, 3)...)
}

func randomList(r *rand.Rand, least, levels int) []api.Node {
	var l []api.Node
	for range least + r.Intn(3) {
		l = append(l, randomExpression(r, levels-1))
	}
	return l
}

func randomExpression(r *rand.Rand, levels int) api.Node {
	name := node(api.NodeName, randomName(r))
	if levels <= 0 {
		return name
	}
	switch kind := api.NodeName + r.Intn(15); kind {
	case api.NodeName:
		return name
	case api.NodeIndex:
		return node(kind, "", name, randomExpression(r, levels-1))
	case api.NodeMember:
		return node(kind, randomName(r), name)
	case api.NodeLen:
		return node(kind, "", name)
	case api.NodeNumber:
		return node(kind, randomWord(r, "0 1 10 999999999"))
	case api.NodeBool:
		return node(kind, randomWord(r, "true false"))
	case api.NodeList:
		return node(kind, "", randomList(r, 1, levels)...)
	case api.NodeCall:
		return node(kind, randomName(r), randomList(r, 0, levels)...)
	case api.NodeUnary:
		return node(kind, randomWord(r, "- not"), randomExpression(r, levels-1))
	}
	return node(api.NodeBinary, randomWord(r, "or and == != < <= > >= + - * / %"), randomExpression(r, levels-1), randomExpression(r, levels-1))
}

// words returns the words of a text without the end.
func words(s string) []string {
	l, _ := lexer.Scan(s)
	w := lexer.Words(s, l)
	return w[:len(w)-1]
}

// numbered returns the node with a number, and its path.
func numbered(n api.Node, number int) (api.Node, []int) {
	p, _ := tree.Path(n, number)
	k, _ := tree.Get(n, p...)
	return k, p
}

// randomText returns a program with white space, comments, leading zeros and superfluous parentheses that are found by chance; empty if it is too long.
func randomText(t *testing.T, r *rand.Rand) string {
	t.Helper()
	s, e := printer.Format(randomProgram(r))
	if e != api.OK {
		return ""
	}
	for range r.Intn(6) {
		n := parse(t, s)
		k, _ := numbered(n, r.Intn(tree.Count(n)))
		more := s[:k.At] + "(" + s[k.At:k.End] + ")" + s[k.End:]
		if m, l, e := parser.Parse(more); e == api.OK && len(l) == 0 && tree.Same(n, m) {
			s = more
		}
	}
	lines := r.Intn(3) > 0
	text, last := "", ""
	for _, w := range words(s) {
		blanks := []string{"", "", "", "", " ", "\n", "\n  ", "\t\r ", "# c # if\n"}
		if lines {
			blanks = []string{""}
		}
		if lines && (w == "}" || last == ";" || last == "{" || last == "}") {
			blanks = []string{"\n", "\n  ", "\n\t", " # c\n ", "\r\n", "\n \r ", " ", ""}
		}
		blank := blanks[r.Intn(len(blanks))]
		if blank == "" && last != "" {
			blank = lexer.Space(last, w)
		}
		if w[0] >= '0' && w[0] <= '9' && r.Intn(4) == 0 {
			w = strings.Repeat("0", r.Intn(10-len(w))) + w
		}
		text += blank + w
		last = w
	}
	text += []string{"", "\n", "# end", " \n"}[r.Intn(4)]
	if len(text) > api.MaxSource {
		return ""
	}
	return text
}

// brokenText returns a program in which some words are missing or too many.
func brokenText(t *testing.T, r *rand.Rand) string {
	s := randomText(t, r)
	for range r.Intn(5) {
		l, _ := lexer.Scan(s)
		x := l[r.Intn(len(l))]
		s = s[:x.At] + randomWord(r, "$ $$ ; } { ( ) x 1 if = else $;$ , : ") + s[[]int{x.At, x.End}[r.Intn(2)]:]
	}
	return s
}

// P6.6

// TestEachTokenHasOneOwner compares the own tokens with their definition, for all nodes of broken texts.
func TestEachTokenHasOneOwner(t *testing.T) {
	r := rand.New(rand.NewSource(9))
	for range 300 {
		s := brokenText(t, r)
		n, _, e := parser.Parse(s)
		if e != api.OK {
			continue
		}
		tokens, _ := lexer.Scan(s)
		inside := func(x api.Token, k api.Node) bool {
			return x.Kind != api.TokenEnd && k.At <= x.At && x.End <= k.End
		}
		var all []api.Token
		for number := range tree.Count(n) {
			k, _ := numbered(n, number)
			var want []api.Token
			for _, x := range tokens {
				in := inside(x, k)
				for _, kid := range k.Kids {
					in = in && !inside(x, kid)
				}
				if in || x.Kind == api.TokenEnd && number == 0 {
					want = append(want, x)
				}
			}
			l, e := layout.Own(s, n, number)
			if !slices.Equal(l, want) || e != api.OK {
				t.Fatalf("%q %d: %v %v", s, number, l, want)
			}
			all = append(all, l...)
		}
		slices.SortFunc(all, func(a, b api.Token) int { return a.From - b.From })
		if !slices.Equal(all, tokens) {
			t.Fatalf("%q: %v", s, all)
		}
		if got, e := layout.Print(s, n); got != s || e != api.OK {
			t.Fatalf("%q %q %v", s, got, e)
		}
	}
}

// read reports whether a text is read as a tree, and has some words.
func read(s string, n api.Node, l []string) bool {
	m, wrong, e := parser.Parse(s)
	return e == api.OK && len(wrong) == 0 && tree.Same(m, n) && slices.Equal(words(s), l)
}

// least returns the text with as few parentheses and blanks as possible in which a text in the place of some bytes is read as wanted.
func least(s string, at, end int, written string, n api.Node) string {
	for _, short := range []string{written, "(" + written + ")"} {
		l := slices.Concat(words(s[:at]), words(short), words(s[end:]))
		for _, spaced := range []string{short, " " + short, short + " ", " " + short + " "} {
			if read(s[:at]+spaced+s[end:], n, l) {
				return spaced
			}
		}
	}
	return "nothing"
}

// TestRandomReplacements holds that the new text of an expression has just the parentheses and the blanks without which it would be read otherwise.
func TestRandomReplacements(t *testing.T) {
	r := rand.New(rand.NewSource(10))
	counts := map[api.Errno]int{}
	for range 4000 {
		s := randomText(t, r)
		n, _, _ := parser.Parse(s)
		old, p := numbered(n, r.Intn(tree.Count(n)))
		by := randomExpression(r, 2)
		if !tree.Expression(old) && r.Intn(2) == 0 || r.Intn(10) == 0 {
			by = randomStatement(r, 2)
		}
		got, e := layout.Replace(s, n, p, by)
		counts[e]++
		valid := false
		if len(p) > 0 && (tree.Expression(old) || tree.Statement(old)) {
			valid = tree.Valid(with(t, n, p, by))
		}
		if e == api.ErrTooLarge && valid && len(s) > api.MaxSource/2 {
			continue
		}
		if valid != (e == api.OK) || !valid && e != api.ErrType {
			t.Fatalf("%q %v: %v %v", s, p, by, e)
		}
		if !valid {
			continue
		}
		written, _ := printer.Expression(by)
		if tree.Statement(by) {
			written, _ = printer.Statement(by, 0)
			written = strings.ReplaceAll(written, "\n", "\n"+indentation(s, old.At))
		}
		want := api.Replacement{At: old.At, End: old.End, Text: least(s, old.At, old.End, written, with(t, n, p, by))}
		if got != want {
			t.Fatalf("%q %v by %v: %v, not %v", s, p, by, got, want)
		}
	}
	if counts[api.OK] < 200 || counts[api.ErrType] < 200 {
		t.Error(counts)
	}
}

// indentation returns the blanks and tabs at the beginning of the line of an offset.
func indentation(s string, at int) string {
	return regexp.MustCompile("^[\t ]*").FindString(s[strings.LastIndex(s[:at], "\n")+1:])
}

func TestRandomIndentation(t *testing.T) {
	r := rand.New(rand.NewSource(11))
	for range 1000 {
		s := randomText(t, r)
		at := r.Intn(len(s) + 1)
		if got := layout.Indent(s, at); got != indentation(s, at) {
			t.Fatalf("%q %d: %q", s, at, got)
		}
	}
}

// TestRandomWords holds that a word is replaced if the text is then read as the tree with this Text.
func TestRandomWords(t *testing.T) {
	r := rand.New(rand.NewSource(12))
	counts := map[api.Errno]int{}
	for range 4000 {
		s := randomText(t, r)
		n, _, _ := parser.Parse(s)
		number := r.Intn(tree.Count(n))
		old, p := numbered(n, number)
		by := old
		by.Text = randomWord(r, "a if 1 01 true int bool or and not == <= < + - * x.y $")
		if old.Kind == api.NodeBinary && r.Intn(2) == 0 {
			by.Text = randomWord(r, "or and not == != < <= > >= + - * / %")
		}
		got, e := layout.Word(s, n, p, by.Text)
		counts[e]++
		if old.Text == "" || !tree.Valid(with(t, n, p, by)) {
			if e != api.ErrType {
				t.Fatalf("%q %v: %v", s, p, e)
			}
			continue
		}
		l, _ := layout.Own(s, n, number)
		i := slices.IndexFunc(l, func(x api.Token) bool {
			w := s[x.At:x.End]
			if x.Kind == api.TokenNumber {
				w = strings.TrimLeft(w[:len(w)-1], "0") + w[len(w)-1:]
			}
			return w == old.Text
		})
		want := api.Replacement{At: l[i].At, End: l[i].End, Text: least(s, l[i].At, l[i].End, by.Text, with(t, n, p, by))}
		if want.Text == "nothing" {
			if e != api.ErrState || got != (api.Replacement{}) {
				t.Fatalf("%q %v: %v %v", s, p, got, e)
			}
		} else if got != want || e != api.OK {
			t.Fatalf("%q %v by %v: %v, not %v", s, p, by, got, want)
		}
	}
	if counts[api.OK] < 200 || counts[api.ErrType] < 200 || counts[api.ErrState] < 20 {
		t.Error(counts)
	}
}

// block returns a random block of a tree, and its path.
func block(r *rand.Rand, n api.Node) (api.Node, []int) {
	for {
		if k, p := numbered(n, r.Intn(tree.Count(n))); k.Kind == api.NodeBlock {
			return k, p
		}
	}
}

// comments returns the comments of a text.
func comments(s string) []string { return regexp.MustCompile("#[^\n]*").FindAllString(s, -1) }

var (
	lineBegins = regexp.MustCompile("(^|\n)[\t\r ]*$")
	lineEnds   = regexp.MustCompile("^[\t\r ]*(\n|$)")
)

func TestRandomInsertions(t *testing.T) {
	r := rand.New(rand.NewSource(13))
	for range 1500 {
		s := randomText(t, r)
		if s == "" {
			continue
		}
		n, _, _ := parser.Parse(s)
		k, p := block(r, n)
		index := r.Intn(len(k.Kids) + 1)
		by := randomStatement(r, 2)
		like, at := k.At, k.At+1
		if index < len(k.Kids) {
			like, at = k.Kids[index].At, k.Kids[index].At
		} else if index > 0 {
			like, at = k.Kids[index-1].At, k.Kids[index-1].End
		}
		between := " "
		if len(k.Kids) > 0 && lineBegins.MatchString(s[:like]) {
			between = "\n" + indentation(s, like)
		}
		want, _ := printer.Statement(by, 0)
		want = strings.ReplaceAll(want, "\n", "\n"+indentation(s, like))
		if index < len(k.Kids) {
			want += between
		} else {
			want = between + want
		}
		got, e := layout.Insert(s, n, p, index, by)
		if len(s)+len(want) > api.MaxSource {
			if e != api.ErrTooLarge {
				t.Fatalf("%q %v", s, e)
			}
			continue
		}
		if got != (api.Replacement{At: at, End: at, Text: want}) || e != api.OK {
			t.Fatalf("%q %v %d: %v %v, not %d %q", s, p, index, got, e, at, want)
		}
		m, _ := tree.Replace(n, p, index, index, by)
		after := apply(t, s, got)
		holds(t, s, got, e, after, m)
		if !slices.Equal(comments(s), comments(after)) {
			t.Fatalf("%q %q", s, after)
		}
	}
}

func TestRandomDeletions(t *testing.T) {
	r := rand.New(rand.NewSource(14))
	lines := 0
	for range 1500 {
		s := randomText(t, r)
		if s == "" {
			continue
		}
		n, _, _ := parser.Parse(s)
		k, p := block(r, n)
		if len(k.Kids) == 0 {
			continue
		}
		index := r.Intn(len(k.Kids))
		x := k.Kids[index]
		want := api.Replacement{At: x.At, End: x.End}
		if before, behind := lineBegins.FindString(s[:x.At]), lineEnds.FindString(s[x.End:]); lineBegins.MatchString(s[:x.At]) && lineEnds.MatchString(s[x.End:]) {
			want = api.Replacement{At: x.At - len(strings.TrimPrefix(before, "\n")), End: x.End + len(behind)}
			lines++
		}
		got, e := layout.Delete(s, n, p, index)
		if got != want || e != api.OK {
			t.Fatalf("%q %v %d: %v %v", s, p, index, got, e)
		}
		m, _ := tree.Replace(n, p, index, index+1)
		after := apply(t, s, got)
		holds(t, s, got, e, after, m)
		if !slices.Equal(slices.Concat(comments(s[:x.At]), comments(s[x.End:])), comments(after)) {
			t.Fatalf("%q %q", s, after)
		}
	}
	if lines < 50 {
		t.Error(lines)
	}
}

func FuzzLayout(f *testing.F) {
	f.Add("proc f(x){x=(x+1)*2;#c\n}", 9, 1, "-")
	f.Add("proc f() {\n  if a { return; } else if b { f(); }\n}", 7, 0, "g")
	f.Add("$proc f(){x=", 2, 0, "")
	f.Fuzz(func(t *testing.T, s string, number, index int, word string) {
		n, l, e := parser.Parse(s)
		printed, e2 := layout.Print(s, n)
		if e != api.OK && e2 != api.ErrArg || e == api.OK && (printed != s || e2 != api.OK) {
			t.Fatal(printed, e, e2)
		}
		k, p := numbered(n, number)
		by := node(api.NodeDo, "f")
		check := func(r api.Replacement, e2 api.Errno, m api.Node) {
			switch {
			case e2 != api.OK && r != (api.Replacement{}):
				t.Error(r, e2)
			case e2 == api.OK && (e != api.OK || len(l) > 0):
				t.Error(r)
			case e2 == api.OK:
				holds(t, s, r, e2, apply(t, s, r), m)
			}
		}
		if len(p) > 0 {
			r, e := layout.Replace(s, n, p, by)
			check(r, e, with(t, n, p, by))
			r, e = layout.Word(s, n, p, word)
			k.Text = word
			check(r, e, with(t, n, p, k))
		}
		r, e2 := layout.Insert(s, n, p, index, by)
		m, _ := tree.Replace(n, p, index, index, by)
		check(r, e2, m)
		r, e2 = layout.Delete(s, n, p, index)
		m, _ = tree.Replace(n, p, index, index+1)
		check(r, e2, m)
	})
}
