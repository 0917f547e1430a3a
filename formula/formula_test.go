package formula

import (
	"strings"
	"testing"

	"verdict/api"
)

// show writes the nodes back as a text, to tell that they stand where they belong.
func show(nodes []Node, k int) string {
	n := nodes[k]
	switch n.Op {
	case '0', '1', 'p', 'q', 'r':
		return string(n.Op)
	case '!', 'X', 'F', 'G':
		return string(n.Op) + show(nodes, n.Left)
	}
	return "(" + show(nodes, n.Left) + string(n.Op) + show(nodes, n.Right) + ")"
}

// formulas lists the formulas of a number of bytes, as the document builds them.
func formulas(bytes int, known map[int][]string) []string {
	if l, ok := known[bytes]; ok {
		return l
	}
	var l []string
	if bytes == 1 {
		l = []string{"0", "1", "p", "q", "r"}
	}
	if bytes > 1 {
		for _, f := range formulas(bytes-1, known) {
			for _, op := range []string{"!", "X", "F", "G"} {
				l = append(l, op+f)
			}
		}
	}
	for left := 1; left <= bytes-4; left++ {
		for _, f := range formulas(left, known) {
			for _, g := range formulas(bytes-3-left, known) {
				for _, op := range []string{"&", "|", "U", "R"} {
					l = append(l, "("+f+op+g+")")
				}
			}
		}
	}
	known[bytes] = l
	return l
}

func TestParseTellsFormulasFromOtherTexts(t *testing.T) {
	known := map[int][]string{}
	const signs = "01pqr!XFG(&|UR) s"
	texts := []string{""}
	for bytes := 0; bytes <= 5; bytes++ {
		right := map[string]bool{}
		if bytes > 0 {
			for _, f := range formulas(bytes, known) {
				right[f] = true
			}
		}
		for _, text := range texts {
			_, e := Parse(text)
			if (e == api.OK) != right[text] || (e == api.ErrFormula) == right[text] {
				t.Fatalf("P3: Parse(%q): error %d, a formula: %v", text, e, right[text])
			}
		}
		if bytes == 5 {
			break
		}
		var longer []string
		for _, text := range texts {
			for _, sign := range signs {
				longer = append(longer, text+string(sign))
			}
		}
		texts = longer
	}
}

func TestParseKeepsTheShape(t *testing.T) {
	known := map[int][]string{}
	var all []string
	for bytes := 1; bytes <= 7; bytes++ {
		all = append(all, formulas(bytes, known)...)
	}
	all = append(all, "((p&q)R(q|r))", "G(!p|X(qUr))", "(((pUq)Rr)&0)", "(1|(pU(qRr)))", "X((p&q)U(r|0))")
	for _, f := range all {
		nodes, e := Parse(f)
		if e != api.OK {
			t.Fatalf("P3: Parse(%q): error %d", f, e)
		}
		for k, n := range nodes {
			if k > 0 && (n.Left >= k || n.Right >= k) {
				t.Fatalf("P3: Parse(%q): node %d stands ahead of one below it", f, k)
			}
		}
		if got := show(nodes, len(nodes)-1); got != f {
			t.Fatalf("P3: Parse(%q) reads %q", f, got)
		}
	}
}

func TestParseErrors(t *testing.T) {
	for _, c := range []struct {
		text string
		e    api.Errno
	}{
		{strings.Repeat("!", 7) + "p", api.OK},
		{strings.Repeat("!", 8) + "p", api.ErrSize},
		{strings.Repeat("!", 23) + "p", api.ErrSize},
		{strings.Repeat("!", 24), api.ErrFormula},
		{strings.Repeat("!", 24) + "p", api.ErrLong},
		{strings.Repeat("!", 25), api.ErrLong},
		{"(((p&q)U(q|r))&!!!)", api.ErrFormula},
	} {
		nodes, e := Parse(c.text)
		if e != c.e || e != api.OK && len(nodes) != 0 {
			t.Errorf("P3: Parse(%q) = %v, %d, want error %d", c.text, nodes, e, c.e)
		}
	}
}

func TestSets(t *testing.T) {
	set := 0
	for k := 0; k < api.MaxSize; k++ {
		if Has(set, k) {
			t.Errorf("Has(%b, %d)", set, k)
		}
		set = With(set, k, true)
		set = With(set, k, true)
		if !Has(set, k) {
			t.Errorf("not Has(%b, %d)", set, k)
		}
	}
	set = With(set, 3, false)
	set = With(set, 3, false)
	if set != 255-8 {
		t.Errorf("without 3: %b", set)
	}
	if Has(255, -1) || Has(255, 1<<62) {
		t.Errorf("a set has a node of no number")
	}
}

func TestLaw(t *testing.T) {
	// Node 0 is below as the left one, node 1 as the right one, node 2 is the one that is asked for.
	laws := []struct {
		op   byte
		want func(left, right, nextLeft, later bool) bool
	}{
		{'0', func(l, r, n, s bool) bool { return false }},
		{'1', func(l, r, n, s bool) bool { return true }},
		{'!', func(l, r, n, s bool) bool { return !l }},
		{'X', func(l, r, n, s bool) bool { return n }},
		{'F', func(l, r, n, s bool) bool { return l || s }},
		{'G', func(l, r, n, s bool) bool { return l && s }},
		{'&', func(l, r, n, s bool) bool { return l && r }},
		{'|', func(l, r, n, s bool) bool { return l || r }},
		{'U', func(l, r, n, s bool) bool { return r || l && s }},
		{'R', func(l, r, n, s bool) bool { return r && (l || s) }},
	}
	for _, law := range laws {
		node := Node{Op: law.op, Left: 0, Right: 1}
		for here := 0; here < 8; here++ {
			for next := 0; next < 8; next++ {
				want := law.want(here&1 != 0, here&2 != 0, next&1 != 0, next&4 != 0)
				if got := Law(node, 2, 0, here, next); got != want {
					t.Errorf("P4: Law of %c here %03b next %03b = %v", law.op, here, next, got)
				}
			}
		}
	}
	for letter := 0; letter < api.Letters; letter++ {
		for i, op := range []byte{'p', 'q', 'r'} {
			want := letter>>i&1 == 1
			if got := Law(Node{Op: op}, 0, letter, 0, 0); got != want {
				t.Errorf("P4: Law of %c at letter %d = %v", op, letter, got)
			}
		}
	}
}

func TestNodesThatWait(t *testing.T) {
	for _, c := range []struct {
		op           byte
		waits, lasts bool
		end          int
	}{
		{'0', false, false, 0}, {'1', false, false, 0}, {'p', false, false, 0}, {'!', false, false, 0}, {'X', false, false, 0}, {'&', false, false, 0}, {'|', false, false, 0},
		{'F', true, false, 1}, {'G', true, true, 1}, {'U', true, false, 2}, {'R', true, true, 2},
	} {
		node := Node{Op: c.op, Left: 1, Right: 2}
		if node.Waits() != c.waits || node.Lasts() != c.lasts {
			t.Errorf("P5: %c waits: %v, lasts: %v", c.op, node.Waits(), node.Lasts())
		}
		if c.waits && node.End() != c.end {
			t.Errorf("P5: the end of %c is %d", c.op, node.End())
		}
	}
}
