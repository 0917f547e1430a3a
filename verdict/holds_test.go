package verdict_test

import (
	"slices"
	"testing"

	"verdict/api"
	"verdict/verdict"
)

// meaning tells by the words of the document alone, place by place, where a formula holds. Places from far on repeat earlier ones, so it looks no further than one round of the word from where it stands.
type meaning struct {
	stem, loop []int
	known      map[string][]int
}

func (m *meaning) letter(i int) int {
	if i < len(m.stem) {
		return m.stem[i]
	}
	return m.loop[(i-len(m.stem))%len(m.loop)]
}

// same is the first place from which the word goes on as it does from i.
func (m *meaning) same(i int) int {
	if i < len(m.stem) {
		return i
	}
	return len(m.stem) + (i-len(m.stem))%len(m.loop)
}

// split cuts a text that begins with a formula behind that formula.
func split(f string) int {
	depth := 0
	for i := range f {
		switch f[i] {
		case '(':
			depth++
			continue
		case ')':
			depth--
		case '0', '1', 'p', 'q', 'r':
		default:
			continue
		}
		if depth == 0 {
			return i + 1
		}
	}
	return len(f)
}

func (m *meaning) holds(f string, i int) bool {
	i = m.same(i)
	round := len(m.stem) + len(m.loop)
	if m.known[f] == nil {
		m.known[f] = make([]int, round)
	}
	if m.known[f][i] == 0 {
		m.known[f][i] = 1
		if m.tell(f, i, i+round) {
			m.known[f][i] = 2
		}
	}
	return m.known[f][i] == 2
}

func (m *meaning) some(f string, from, to int) bool {
	for i := from; i < to; i++ {
		if m.holds(f, i) {
			return true
		}
	}
	return false
}

func (m *meaning) all(f string, from, to int) bool {
	for i := from; i < to; i++ {
		if !m.holds(f, i) {
			return false
		}
	}
	return true
}

func (m *meaning) tell(f string, i, far int) bool {
	switch f[0] {
	case '0', '1':
		return f == "1"
	case 'p', 'q', 'r':
		return m.letter(i)&(1<<(f[0]-'p')) != 0
	case '!':
		return !m.holds(f[1:], i)
	case 'X':
		return m.holds(f[1:], i+1)
	case 'F':
		return m.some(f[1:], i, far)
	case 'G':
		return m.all(f[1:], i, far)
	}
	cut := 1 + split(f[1:])
	left, op, right := f[1:cut], f[cut], f[cut+1:len(f)-1]
	switch op {
	case '&':
		return m.holds(left, i) && m.holds(right, i)
	case '|':
		return m.holds(left, i) || m.holds(right, i)
	case 'U':
		for j := i; j < far; j++ {
			if m.holds(right, j) && m.all(left, i, j) {
				return true
			}
		}
		return false
	}
	for j := i; j < far; j++ {
		if !m.holds(right, j) && !m.some(left, i, j) {
			return false
		}
	}
	return true
}

func compare(t *testing.T, f string, stem, loop []int) {
	t.Helper()
	m := meaning{stem, loop, map[string][]int{}}
	want := m.holds(f, 0)
	y, e := verdict.Holds(f, stem, loop)
	if y != want || e != api.OK {
		t.Fatalf("P4: Holds(%q, %v, %v) = %v, %d, want %v", f, stem, loop, y, e, want)
	}
}

// words lists the words of a length over the letters 0 to 3.
func words(length int) [][]int {
	l := [][]int{{}}
	for ; length > 0; length-- {
		var longer [][]int
		for _, u := range l {
			for n := 0; n < 4; n++ {
				longer = append(longer, append(append([]int{}, u...), n))
			}
		}
		l = longer
	}
	return l
}

// small lists the formulas up to size 4 with p and q.
func small() []string {
	bySize := [][]string{nil, {"p", "q"}}
	for size := 2; size <= 4; size++ {
		var l []string
		for _, f := range bySize[size-1] {
			l = append(l, "!"+f, "X"+f, "F"+f, "G"+f)
		}
		for left := 1; left < size-1; left++ {
			for _, f := range bySize[left] {
				for _, g := range bySize[size-1-left] {
					l = append(l, "("+f+"&"+g+")", "("+f+"|"+g+")", "("+f+"U"+g+")", "("+f+"R"+g+")")
				}
			}
		}
		bySize = append(bySize, l)
	}
	return slices.Concat(bySize...)
}

func TestP4SmallFormulasOnShortWords(t *testing.T) {
	fs := small()
	for s := 0; s <= 2; s++ {
		for _, stem := range words(s) {
			for l := 1; l <= 2; l++ {
				for _, loop := range words(l) {
					for _, f := range fs {
						compare(t, f, stem, loop)
					}
				}
			}
		}
	}
}

// dice is a fixed row of numbers that look thrown.
type dice uint64

func (d *dice) throw(n int) int {
	*d = *d*6364136223846793005 + 1442695040888963407
	return int(uint64(*d)>>33) % n
}

func (d *dice) formula(size int) string {
	if size == 1 {
		return string("01pqrpqr"[d.throw(8)])
	}
	if size == 2 || d.throw(2) == 0 {
		return string("!XFG"[d.throw(4)]) + d.formula(size-1)
	}
	left := 1 + d.throw(size-2)
	f := d.formula(left)
	op := string("&|UR"[d.throw(4)])
	return "(" + f + op + d.formula(size-1-left) + ")"
}

func (d *dice) word(length int) []int {
	u := make([]int, length)
	few := 1 + d.throw(8)
	for i := range u {
		u[i] = d.throw(few)
		if d.throw(4) == 0 {
			u[i] = d.throw(8)
		}
	}
	return u
}

func TestP4ThrownFormulasAndWords(t *testing.T) {
	d := dice(1)
	for n := 0; n < 30000; n++ {
		f := d.formula(1 + d.throw(8))
		longest := 1 + d.throw(40)
		compare(t, f, d.word(d.throw(longest+1)), d.word(1+d.throw(longest)))
	}
	for n := 0; n < 300; n++ {
		compare(t, d.formula(8), d.word(40), d.word(40))
	}
}
