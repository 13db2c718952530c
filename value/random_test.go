package value_test

import (
	"math/rand"
	"slices"
	"strings"
	"testing"

	"assessor/api"
	"assessor/lexer"
	"assessor/value"
)

// reduced returns a number modulo a width, by its definition.
func reduced(width, n int) int {
	for n < -(1 << (width - 1)) {
		n += 1 << width
	}
	for n >= 1<<(width-1) {
		n -= 1 << width
	}
	return n
}

// quotient returns the quotient of two numbers, rounded towards zero, by counting.
func quotient(a, b int) int {
	q := 0
	for q*q < a*a && (q+1)*(q+1)*b*b <= a*a {
		q++
	}
	if (a < 0) != (b < 0) {
		q = -q
	}
	return q
}

// defined returns the exact result of an operator, and a fault.
func defined(operator string, a, b int) (int, int) {
	holds := false
	switch operator {
	case "+":
		return a + b, api.FaultNone
	case "-":
		return a - b, api.FaultNone
	case "*":
		return a * b, api.FaultNone
	case "/", "%":
		if b == 0 {
			return 0, api.FaultDivide
		}
		if operator == "/" {
			return quotient(a, b), api.FaultNone
		}
		return a - b*quotient(a, b), api.FaultNone
	case "==":
		holds = a == b
	case "!=":
		holds = a != b
	case "<":
		holds = a < b
	case "<=":
		holds = a < b || a == b
	case ">":
		holds = b < a
	case ">=":
		holds = !(a < b)
	case "and":
		holds = a == 1 && b == 1
	case "or":
		holds = a == 1 || b == 1
	}
	if holds {
		return 1, api.FaultNone
	}
	return 0, api.FaultNone
}

func TestAllOperationsLikeTheirDefinition(t *testing.T) {
	for width := api.MinWidth; width <= 6; width++ {
		least, most := -(1 << (width - 1)), 1<<(width-1)-1
		for _, operator := range strings.Fields("+ - * / % == != < <= > >= and or") {
			for a := least - 1; a <= most+1; a++ {
				for b := least - 1; b <= most+1; b++ {
					low, high := least, most
					if operator == "and" || operator == "or" {
						low, high = 0, 1
					}
					n, fault, e := value.Binary(width, operator, a, b)
					if a < low || a > high || b < low || b > high {
						if n != 0 || fault != 0 || e != api.ErrRange {
							t.Fatal(width, operator, a, b, n, fault, e)
						}
						continue
					}
					want, by := defined(operator, a, b)
					if n != reduced(width, want) || fault != by || e != api.OK {
						t.Fatal(width, operator, a, b, n, fault, e)
					}
				}
			}
		}
	}
}

// P11.6

func TestQuotientsAndRemainders(t *testing.T) {
	for width := api.MinWidth; width <= api.MaxWidth; width++ {
		for a := value.Least(width); a <= value.Greatest(width); a++ {
			for b := value.Least(width); b <= value.Greatest(width); b++ {
				q, fault, _ := value.Binary(width, "/", a, b)
				r, other, _ := value.Binary(width, "%", a, b)
				if fault != other || (fault == api.FaultDivide) != (b == 0) {
					t.Fatal(width, a, b, fault, other)
				}
				if b != 0 && value.Wrap(width, q*b+r) != a {
					t.Fatal(width, a, b, q, r)
				}
			}
		}
	}
}

// anyValue returns a type, and a value of it.
func anyValue(r *rand.Rand, width int) (api.Type, []int) {
	number := func() int { return value.Least(width) + r.Intn(1<<width) }
	switch r.Intn(5) {
	case 0:
		return integer, []int{number()}
	case 1:
		return truth, []int{r.Intn(2)}
	case 2:
		l := []int{}
		for range 1 + r.Intn(api.MaxArray) {
			l = append(l, number())
		}
		return array(len(l)), l
	case 3:
		return record("one"), []int{r.Intn(2)}
	}
	return record("point"), []int{number(), r.Intn(2)}
}

// spread returns a text with white space and comments in front of its tokens.
func spread(r *rand.Rand, s string) string {
	l, _ := lexer.Scan(s)
	var b strings.Builder
	for _, token := range l {
		b.WriteString([]string{" ", "\n", "\t ", " #,1\n", "\r\n"}[r.Intn(5)])
		b.WriteString(s[token.At:token.End])
	}
	return b.String() + "# end"
}

func TestReadingTextsOfValues(t *testing.T) {
	r := rand.New(rand.NewSource(1))
	wide := 0
	for range 5000 {
		width := api.MinWidth + r.Intn(api.MaxWidth-api.MinWidth+1)
		of, l := anyValue(r, width)
		if !value.Valid(width, of, records, l) {
			t.Fatal(width, of, l)
		}
		s := value.Format(of, records, l)
		for _, text := range []string{s, spread(r, s)} {
			if read, e := value.Parse(width, of, records, text); !slices.Equal(read, l) || e != api.OK {
				t.Fatal(width, of, l, text, read, e)
			}
		}
		read, e := value.Parse(2, of, records, s)
		if value.Valid(2, of, records, l) != (e == api.OK) || e != api.OK && (e != api.ErrRange || len(read) > 0) {
			t.Fatal(of, l, read, e)
		}
		if e != api.OK {
			wide++
		}
		// Another type has other texts.
		other, _ := anyValue(r, width)
		if _, e := value.Parse(width, other, records, s); (e == api.OK) != (of == other) {
			t.Fatal(of, other, s, e)
		}
	}
	if wide < 1000 {
		t.Error(wide)
	}
}

func TestNextGoesThroughAllLists(t *testing.T) {
	r := rand.New(rand.NewSource(2))
	for range 200 {
		var low, high []int
		count := 1
		for range r.Intn(5) {
			size := 1 + r.Intn(4)
			low = append(low, r.Intn(9)-4)
			high = append(high, low[len(low)-1]+size-1)
			count *= size
		}
		l, found := slices.Clone(low), 1
		for {
			next, ok := value.Next(low, high, l)
			if !ok {
				break
			}
			if slices.Compare(l, next) >= 0 {
				t.Fatal(low, high, l, next)
			}
			l = next
			found++
		}
		if found != count || !slices.Equal(l, high) {
			t.Fatal(low, high, l, found, count)
		}
	}
}

func FuzzParse(f *testing.F) {
	for _, s := range []string{"5", "-8", "[1, -2]", "point(1, false)", "true", "one(false)", "[1,", "two words=(3)", "- # a\n1"} {
		f.Add(4, 2, s)
	}
	f.Fuzz(func(t *testing.T, width, length int, s string) {
		for _, of := range []api.Type{integer, truth, array(length), record("point"), record("one"), record("two words="), record("")} {
			l, e := value.Parse(width, of, records, s)
			if e != api.OK {
				if len(l) > 0 {
					t.Fatal(l, e)
				}
				continue
			}
			if !value.Valid(width, of, records, l) {
				t.Fatal(of, s, l)
			}
			if again, e := value.Parse(width, of, records, value.Format(of, records, l)); e != api.OK || !slices.Equal(l, again) {
				t.Fatal(of, s, l, again, e)
			}
		}
	})
}
