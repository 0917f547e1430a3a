package verdict_test

import (
	"math"
	"slices"
	"strings"
	"testing"

	"verdict/api"
	"verdict/verdict"
)

// edge tells whether an edge goes from a node to another, by the words of the document.
func edge(g api.Graph, from, to int) bool {
	if len(g.Next[from]) == 0 {
		return from == to
	}
	return slices.Contains(g.Next[from], to)
}

func letters(g api.Graph, nodes []int) []int {
	u := make([]int, len(nodes))
	for i, n := range nodes {
		u[i] = g.Letters[n]
	}
	return u
}

// isPath tells whether a stem and a loop are a path of a graph.
func isPath(g api.Graph, stem, loop []int) bool {
	l := slices.Concat(stem, loop)
	if len(loop) == 0 || len(l) > api.MaxPath || !slices.Contains(g.Start, l[0]) {
		return false
	}
	l = append(l, loop[0])
	for i, n := range l {
		if n < 0 || n >= len(g.Letters) || i > 0 && !edge(g, l[i-1], n) {
			return false
		}
	}
	return true
}

// check asks whether a formula holds in a graph, and looks closely at the path that is shown, if it does not.
func check(t *testing.T, g api.Graph, f string) bool {
	t.Helper()
	y, stem, loop, e := verdict.Check(g, f)
	if e != api.OK {
		t.Fatalf("P9: Check(%v, %q): error %d", g, f, e)
	}
	if y {
		if len(stem) != 0 || len(loop) != 0 {
			t.Fatalf("P9: Check(%v, %q) = true, %v, %v", g, f, stem, loop)
		}
		return true
	}
	if !isPath(g, stem, loop) {
		t.Fatalf("P9: Check(%v, %q) = false, %v, %v, which is no path", g, f, stem, loop)
	}
	m := meaning{letters(g, stem), letters(g, loop), map[string][]int{}}
	if m.holds(f, 0) {
		t.Fatalf("P9: Check(%v, %q) = false, %v, %v, of which it holds", g, f, stem, loop)
	}
	if len(stem) <= api.MaxWord && len(loop) <= api.MaxWord {
		holds, e := verdict.Holds(f, m.stem, m.loop)
		if holds || e != api.OK {
			t.Fatalf("P9: Check(%v, %q) = false, %v, %v, of which Holds says %v, %d", g, f, stem, loop, holds, e)
		}
	}
	return false
}

func wantIn(t *testing.T, g api.Graph, want bool, fs ...string) {
	t.Helper()
	for _, f := range fs {
		if check(t, g, f) != want {
			t.Errorf("P9: Check(%v, %q) = %v", g, f, !want)
		}
	}
}

func TestP9Check(t *testing.T) {
	for _, last := range [][]int{{1}, {}, nil, {1, 1, 1}} {
		g := api.Graph{Letters: []int{1, 0}, Next: [][]int{{0, 1}, last}, Start: []int{0}}
		wantIn(t, g, true, "(Gp|FG!p)", "p", "1", "(GFp|FG!p)", "G(p|G!p)", "(!pR(p|G!p))", "G(p|X!p)")
		wantIn(t, g, false, "Gp", "FG!p", "0", "!p", "Fq", "Xp", "X!p", "GFp", "(pU!p)", "F!p", "G(!p|Xp)")
		_, stem, loop, _ := verdict.Check(g, "FG!p")
		if len(loop) == 0 || slices.Contains(slices.Concat(stem, loop), 1) {
			t.Errorf("P9: FG!p: stem %v, loop %v, but only node 0 again and again will do", stem, loop)
		}
	}
	// One may stay in the first half for ever, or cross over once.
	halves := api.Graph{Letters: []int{1, 0, 2, 4}, Next: [][]int{{1}, {0, 2}, {3}, {2}}, Start: []int{0}}
	wantIn(t, halves, true, "(GFp|GFq)", "(GFp|GFr)", "G(!q|XG!p)", "G(!q|Xr)", "F!p", "(G!q|GFr)", "((p|!q)U!p)", "!XXXXXXr", "(G!q|Fr)")
	wantIn(t, halves, false, "GFp", "GFq", "(GFp&GFq)", "(FGp|FGq)", "(FGXp|Fq)", "!(GFq&GFr)", "Fr", "(pUr)", "G(!p|XXp)", "XXXXXp", "XXXXXXXr", "!XXXXXr", "!(Fq&GFr)")
}

// A loop must come to each place that a formula asks for again and again.
func TestP9LoopsThroughManyPlaces(t *testing.T) {
	ring := api.Graph{Letters: []int{1, 2, 4, 0, 6, 5}, Next: [][]int{{1}, {2, 2}, {3}, {4, 3}, {5}, {0}}, Start: []int{4}}
	wantIn(t, ring, true, "(FG!p|GFp)", "XXp", "X(p&r)", "((q|r)Up)", "G(!p|F!r)", "(rU(p&!r))", "G(!(p&r)|Xp)", "XXXXr", "(FG!p|F!r)")
	wantIn(t, ring, false, "!(GFp&GFq)", "(FGp|FGq)", "(FG!p|FGq)", "(GFp&GFq)", "(GFp|FGXp)", "G(p|(q|r))", "!GFp", "!(pR(q|Fr))", "FG(!p|Xq)", "GFr", "G(p|XXXXp)")
	star := api.Graph{Letters: []int{0, 1, 2, 4, 0, 0}, Next: [][]int{{1, 2, 3}, {4}, {5}, {0}, {0}, {0}}, Start: []int{0}}
	wantIn(t, star, true, "G(!p|X!p)", "GF(p|(q|r))", "(XpR!p)", "X(p|(q|r))", "G(!p|XX!r)")
	wantIn(t, star, false, "!(GFp&GFq)", "(GFp|GFq)", "(FG!p|FGq)", "!(GFp&GFr)", "!(GFr&GFq)", "!(FGXr|Fq)", "(FGp|GFr)")
}

// In these graphs a place that the formula asks for lies nearer outside the loop than in it, and from there no edge leads back.
func TestP9LoopsThatAreEasilyLeft(t *testing.T) {
	for _, c := range []struct {
		g api.Graph
		f string
	}{
		{api.Graph{Letters: []int{4, 3, 1, 2}, Next: [][]int{{3}, nil, {1, 0}, {2}}, Start: []int{2, 3}}, "F!(F!1|Fq)"},
		{api.Graph{Letters: []int{2, 6, 4, 3, 1}, Next: [][]int{{4, 2}, {0, 4}, nil, {3, 0, 1}, {1}}, Start: []int{4, 1}}, "((FqUXr)&G0)"},
		{api.Graph{Letters: []int{7, 6, 0, 0, 0}, Next: [][]int{{3, 1, 1}, {4, 1}, {4, 0, 4}, nil, {2, 3}}, Start: []int{0}}, "GGX(XG0Rq)"},
		{api.Graph{Letters: []int{0, 2, 0, 5, 2, 7}, Next: [][]int{{0}, {1}, {3, 4, 4}, {5}, nil, {2, 4, 5}}, Start: []int{5, 2}}, "!FXF(q&G1)"},
		{api.Graph{Letters: []int{4, 3, 2, 0, 2, 1}, Next: [][]int{{0, 3}, {4, 4}, {2, 3, 5}, {1}, {2, 5}, {5}}, Start: []int{1, 4}}, "G((G!qUr)Rq)"},
		{api.Graph{Letters: []int{5, 5, 2, 2, 4, 1}, Next: [][]int{{4, 1}, {1, 2, 0}, {1}, {3, 5, 3}, {5}, {4}}, Start: []int{2}}, "(F0R(qRXGp))"},
	} {
		wantIn(t, c.g, false, c.f)
	}
}

// There are no shorter paths than these, and the README shows the first.
func TestP9ShortPaths(t *testing.T) {
	g := api.Graph{Letters: []int{1, 0}, Next: [][]int{{0, 1}, nil}, Start: []int{0}}
	for _, c := range []struct {
		f          string
		stem, loop []int
	}{
		{"Gp", []int{0}, []int{1}}, {"FG!p", nil, []int{0}}, {"X!p", nil, []int{0}}, {"Xp", []int{0}, []int{1}}, {"F!p", nil, []int{0}},
	} {
		_, stem, loop, _ := verdict.Check(g, c.f)
		if !slices.Equal(stem, c.stem) || !slices.Equal(loop, c.loop) {
			t.Errorf("P9: Check(%v, %q) shows %v, %v, want %v, %v", g, c.f, stem, loop, c.stem, c.loop)
		}
	}
}

func TestP9NodesToWhichNoPathComes(t *testing.T) {
	g := api.Graph{Letters: []int{0, 7, 1, 7, 7, 3}, Next: [][]int{{0, 1, 2, 3, 4, 5}, {0}, {5, 5}, nil, {2, 5}, {2, 5}}, Start: []int{2, 2}}
	wantIn(t, g, true, "Gp", "G!r", "p", "(!qRp)", "(qR!r)", "G(q|Xq)", "!XXXXX!p", "GFq")
	wantIn(t, g, false, "FGq", "!FGq", "Gq", "Fr", "F!p", "q", "FG!q", "(XqU!p)")
}

func TestP9ManyStarts(t *testing.T) {
	g := api.Graph{Letters: []int{1, 2, 3}, Next: [][]int{nil, nil, nil}}
	for _, c := range []struct {
		start []int
		p, q  bool
	}{
		{[]int{0}, true, false}, {[]int{1}, false, true}, {[]int{2}, true, true}, {[]int{0, 1}, false, false}, {[]int{2, 0}, true, false}, {[]int{2, 2, 1}, false, true}, {[]int{2, 0, 1}, false, false},
	} {
		g.Start = c.start
		wantIn(t, g, c.p, "p", "Gp", "GFp", "FGp", "XXp")
		wantIn(t, g, c.q, "q", "Gq", "GFq", "FGq", "XXq")
		wantIn(t, g, c.p && c.q, "(p&q)", "G(p&q)", "(Gp&FGq)")
		wantIn(t, g, true, "(p|q)", "(Gp|Gq)", "G!r")
	}
}

// noGraphs has what is no graph, each for one reason.
func noGraphs() []api.Graph {
	seven := api.Graph{Letters: make([]int, 7), Next: slices.Repeat([][]int{{0}}, 7), Start: []int{0}}
	var l []api.Graph
	for _, n := range []int{-1, 2, 6, 7, 8, math.MaxInt, math.MinInt, 1 << 32, 1<<32 + 1} {
		l = append(l,
			api.Graph{Letters: []int{1, 0}, Next: [][]int{{0, 1}, {1}}, Start: []int{n}},
			api.Graph{Letters: []int{1, 0}, Next: [][]int{{0, 1}, {1}}, Start: []int{0, 0, 1, n}},
			api.Graph{Letters: []int{1, 0}, Next: [][]int{{0, 1}, {1}}, Start: []int{n, 0}},
			api.Graph{Letters: []int{1, 0}, Next: [][]int{{n}, {1}}, Start: []int{0}},
			api.Graph{Letters: []int{1, 0}, Next: [][]int{{0, 1}, {1, 1, n}}, Start: []int{0}},
			// Node 1 is one to which no path comes.
			api.Graph{Letters: []int{1, 0}, Next: [][]int{{0}, {n, 1}}, Start: []int{0}})
	}
	for _, n := range []int{-1, 8, 9, 256, math.MaxInt, math.MinInt, 1 << 32} {
		l = append(l,
			api.Graph{Letters: []int{n, 0}, Next: [][]int{{0, 1}, {1}}, Start: []int{0}},
			api.Graph{Letters: []int{1, n}, Next: [][]int{{0, 1}, {1}}, Start: []int{0}},
			api.Graph{Letters: []int{1, n}, Next: [][]int{{0}, {1}}, Start: []int{0}})
	}
	return append(l, api.Graph{}, seven,
		api.Graph{Letters: []int{}, Next: [][]int{}, Start: []int{0}},
		api.Graph{Letters: []int{}, Next: [][]int{}, Start: []int{}},
		api.Graph{Next: [][]int{{0}}, Start: []int{0}},
		api.Graph{Letters: []int{0}, Start: []int{0}},
		api.Graph{Letters: []int{0, 0}, Next: [][]int{{0}}, Start: []int{0}},
		api.Graph{Letters: []int{0}, Next: [][]int{{0}, {0}}, Start: []int{0}},
		api.Graph{Letters: seven.Letters[:6], Next: seven.Next, Start: []int{0}},
		api.Graph{Letters: seven.Letters, Next: seven.Next[:6], Start: []int{0}},
		api.Graph{Letters: []int{0}, Next: [][]int{{0}}},
		api.Graph{Letters: []int{0}, Next: [][]int{{0}}, Start: []int{}},
		api.Graph{Letters: make([]int, 7), Next: make([][]int, 7), Start: []int{0}},
		api.Graph{Letters: make([]int, 100000), Next: make([][]int, 100000), Start: []int{0}})
}

func TestP9Errors(t *testing.T) {
	for _, g := range noGraphs() {
		for _, f := range []string{"1", "0", "Gp", "pq", "", "XXXXXXXXp", strings.Repeat("p", 25)} {
			y, stem, loop, e := verdict.Check(g, f)
			if y || len(stem) != 0 || len(loop) != 0 || e != api.ErrGraph {
				t.Errorf("P9: Check(%.200v, %q) = %v, %v, %v, %d, want ErrGraph", g, f, y, stem, loop, e)
			}
		}
	}
	g := api.Graph{Letters: []int{7}, Next: [][]int{nil}, Start: []int{0}}
	for _, c := range wrongFormulas {
		y, stem, loop, e := verdict.Check(g, c.f)
		if y || len(stem) != 0 || len(loop) != 0 || e != c.e {
			t.Errorf("P9: Check(%v, %.30q) = %v, %v, %v, %d, want error %d", g, c.f, y, stem, loop, e, c.e)
		}
	}
}

func TestP9OneNode(t *testing.T) {
	d := dice(20)
	for n := 0; n < 3000; n++ {
		f := d.formula(1 + d.throw(8))
		next := [][]int{nil, {}, {0}, {0, 0, 0}}[d.throw(4)]
		g := api.Graph{Letters: []int{d.throw(8)}, Next: [][]int{next}, Start: []int{0, 0}[:1+d.throw(2)]}
		want, _ := verdict.Holds(f, nil, g.Letters)
		if check(t, g, f) != want {
			t.Fatalf("P9: Check(%v, %q) is not what Holds says of the one path", g, f)
		}
	}
}

// TestP9OnePath: nodes in a row, the last of which leads back to one of them, have a single path.
func TestP9OnePath(t *testing.T) {
	d := dice(21)
	seen := [2]int{}
	for n := 0; n < 10000; n++ {
		f := d.formula(1 + d.throw(8))
		count := 1 + d.throw(6)
		back := d.throw(count)
		g := api.Graph{Letters: d.word(count), Start: []int{0}}
		for i := 1; i < count; i++ {
			g.Next = append(g.Next, []int{i})
		}
		g.Next = append(g.Next, []int{back})
		want, _ := verdict.Holds(f, g.Letters[:back], g.Letters[back:])
		if check(t, g, f) != want {
			t.Fatalf("P9: Check(%v, %q) is not what Holds says of the one path", g, f)
		}
		if want {
			seen[0]++
		} else {
			seen[1]++
		}
	}
	if seen[0] < 1000 || seen[1] < 1000 {
		t.Errorf("the thrown formulas are too much alike: %v", seen)
	}
}

// TestP9EveryWord: in a graph through which every word with p and q can go, a formula holds if its verdict is TRUE.
func TestP9EveryWord(t *testing.T) {
	g := api.Graph{Letters: []int{0, 1, 2, 3}}
	for range g.Letters {
		g.Next = append(g.Next, []int{0, 1, 2, 3})
	}
	d := dice(22)
	fs := small()
	for n := 0; n < 600; n++ {
		fs = append(fs, strings.ReplaceAll(d.formula(5+d.throw(4)), "r", "p"))
	}
	seen := 0
	for _, f := range fs {
		g.Start = []int{0, 1, 2, 3}
		v, _ := verdict.Judge(f, nil)
		wantIn(t, g, v == api.True, f)
		for n := range g.Letters {
			g.Start = []int{n}
			v, _ := verdict.Judge(f, []int{n})
			wantIn(t, g, v == api.True, f)
			if v == api.True {
				seen++
			}
		}
	}
	if seen < 300 {
		t.Errorf("the thrown formulas are too much alike: %d hold", seen)
	}
}

// paths lists the stems and loops of nodes that are paths of a graph, up to so many nodes.
func paths(g api.Graph, longest int) [][2][]int {
	var found [][2][]int
	var rows [][]int
	for n := range g.Letters {
		if slices.Contains(g.Start, n) {
			rows = append(rows, []int{n})
		}
	}
	for i := 0; i < len(rows); i++ {
		row := rows[i]
		for to := range g.Letters {
			if !edge(g, row[len(row)-1], to) {
				continue
			}
			for cut, n := range row {
				if n == to {
					found = append(found, [2][]int{row[:cut], row[cut:]})
				}
			}
			if len(row) < longest {
				rows = append(rows, join(row, []int{to}))
			}
		}
	}
	return found
}

// TestP9SmallGraphs goes through all graphs of two nodes: a formula holds where it holds of each short path.
func TestP9SmallGraphs(t *testing.T) {
	lists := [][]int{nil, {0}, {1}, {1, 0}}
	formulas := small()
	d := dice(23)
	for _, two := range [][]int{{0, 1}, {1, 2}, {3, 0}, {1, 1}} {
		for i := 0; i < 48; i++ {
			g := api.Graph{Letters: two, Next: [][]int{lists[i%4], lists[i/4%4]}, Start: lists[1+i/16]}
			all := paths(g, 5)
			for n := 0; n < 60; n++ {
				f := formulas[d.throw(len(formulas))]
				want := true
				for _, p := range all {
					m := meaning{letters(g, p[0]), letters(g, p[1]), map[string][]int{}}
					want = want && m.holds(f, 0)
				}
				wantIn(t, g, want, f)
			}
		}
	}
}

func (d *dice) graph(count int) api.Graph {
	g := api.Graph{Letters: d.word(count)}
	for n := 1 + d.throw(2); n > 0; n-- {
		g.Start = append(g.Start, d.throw(count))
	}
	for range g.Letters {
		var next []int
		for n := d.throw(4); n > 0; n-- {
			next = append(next, d.throw(count))
		}
		g.Next = append(g.Next, next)
	}
	return g
}

// path goes through a graph as the dice say, and then back to one of the nodes where it was.
func (d *dice) path(g api.Graph, longest int) ([]int, []int) {
	row := []int{g.Start[d.throw(len(g.Start))]}
	for {
		last := row[len(row)-1]
		to := last
		if n := len(g.Next[last]); n > 0 {
			to = g.Next[last][d.throw(n)]
		}
		cut := slices.Index(row, to)
		if cut >= 0 && (len(row) >= longest || d.throw(3) == 0) {
			return row[:cut], row[cut:]
		}
		row = append(row, to)
	}
}

func TestP9ThrownGraphs(t *testing.T) {
	d := dice(24)
	seen := [2]int{}
	for n := 0; n < 4000; n++ {
		g := d.graph(1 + d.throw(6))
		f := d.formula(1 + d.throw(8))
		if !check(t, g, f) {
			seen[0]++
			continue
		}
		seen[1]++
		for tries := 0; tries < 40; tries++ {
			stem, loop := d.path(g, 1+d.throw(30))
			if !isPath(g, stem, loop) {
				t.Fatalf("the path %v, %v is none of %v", stem, loop, g)
			}
			y, e := verdict.Holds(f, letters(g, stem), letters(g, loop))
			if !y || e != api.OK {
				t.Fatalf("P9: Check(%v, %q) = true, but of %v, %v Holds says %v, %d", g, f, stem, loop, y, e)
			}
		}
	}
	if seen[0] < 500 || seen[1] < 500 {
		t.Errorf("the thrown formulas are too much alike: %v", seen)
	}
}

// TestP9GraphsThatAreTheSame: how often a number stands in a list, in which order, the edge that an empty list stands for, and nodes to which no path comes make no difference.
func TestP9GraphsThatAreTheSame(t *testing.T) {
	d := dice(25)
	for n := 0; n < 1500; n++ {
		count := 1 + d.throw(5)
		g := d.graph(count)
		f := d.formula(1 + d.throw(8))
		want := check(t, g, f)
		other := api.Graph{Letters: join(g.Letters, []int{d.throw(8)}), Start: join(g.Start, g.Start)}
		for i, next := range g.Next {
			if len(next) == 0 {
				next = []int{i}
			}
			next = join(next, next)
			slices.Reverse(next)
			other.Next = append(other.Next, next)
		}
		slices.Reverse(other.Start)
		other.Next = append(other.Next, []int{d.throw(count + 1), count})
		if check(t, other, f) != want {
			t.Fatalf("P9: Check(%v, %q) is %v, and for %v it is not", g, f, want, other)
		}
	}
}

// TestP9OneFormulaInAnother: what a formula in the graph says follows from what its parts say.
func TestP9OneFormulaInAnother(t *testing.T) {
	d := dice(26)
	for n := 0; n < 1500; n++ {
		g := d.graph(1 + d.throw(6))
		left, right := d.formula(1+d.throw(4)), d.formula(1+d.throw(3))
		one, two := check(t, g, left), check(t, g, right)
		wantIn(t, g, one && two, "("+left+"&"+right+")")
		if one || two {
			wantIn(t, g, true, "("+left+"|"+right+")")
		}
		if one {
			wantIn(t, g, false, "!"+left)
		}
		later := g
		later.Start = nil
		for to := range g.Letters {
			for _, from := range g.Start {
				if edge(g, from, to) {
					later.Start = append(later.Start, to)
				}
			}
		}
		wantIn(t, g, check(t, later, left), "X"+left)
	}
}

func TestP1CheckWithLongLists(t *testing.T) {
	long := slices.Repeat([]int{1, 0, 1}, 300000)
	g := api.Graph{Letters: []int{1, 3}, Next: [][]int{long, long}, Start: long}
	wantIn(t, g, true, "Gp", "(FGq|GFp)")
	wantIn(t, g, false, "GFq", "Gq", "XXXXXXXq")
	for _, n := range []int{-1, 2} {
		wrong := join(long, []int{n})
		for _, g := range []api.Graph{{Letters: []int{1, 3}, Next: [][]int{long, long}, Start: wrong}, {Letters: []int{1, 3}, Next: [][]int{long, wrong}, Start: long}} {
			if y, stem, loop, e := verdict.Check(g, "0"); y || len(stem)+len(loop) != 0 || e != api.ErrGraph {
				t.Errorf("P9: a long list with %d: %v, %v, %v, %d", n, y, stem, loop, e)
			}
		}
	}
}

func TestP2CheckWritesNothing(t *testing.T) {
	room := make([]int, 60)
	for i := range room {
		room[i] = i * 2 % 3
	}
	before := slices.Clone(room)
	rows := [][]int{room[20:22], room[30:30], room[40:43], room[50:52], nil}
	g := api.Graph{Letters: room[0:3], Next: rows[:3], Start: room[10:12]}
	wrong := g
	wrong.Letters = room[0:4]
	for _, f := range []string{"Gp", "GFp", "(pUq)", "1", "FG!p", "!(GFp&GFq)", "pq"} {
		y, stem, loop, e := verdict.Check(g, f)
		verdict.Check(wrong, f)
		again, stem2, loop2, e2 := verdict.Check(g, f)
		if y != again || e != e2 || !slices.Equal(stem, stem2) || !slices.Equal(loop, loop2) {
			t.Errorf("P2: Check(%v, %q) = %v, %v, %v, %d and then %v, %v, %v, %d", g, f, y, stem, loop, e, again, stem2, loop2, e2)
		}
		scribble(stem, loop)
		if !slices.Equal(room, before) || len(rows[3]) != 2 || rows[4] != nil || len(rows[1]) != 0 {
			t.Fatalf("P2: Check(%v, %q) wrote into what it was handed, or gave it back", g, f)
		}
	}
}

// scribble writes into lists and into their spare room.
func scribble(lists ...[]int) {
	for _, l := range lists {
		l = l[:cap(l)]
		for i := range l {
			l[i] = -7
		}
	}
}

func TestP2CheckAnswersListsOfTheirOwn(t *testing.T) {
	d := dice(27)
	for n := 0; n < 500; n++ {
		g := d.graph(2 + d.throw(5))
		f := d.formula(1 + d.throw(8))
		y, stem, loop, e := verdict.Check(g, f)
		_, stem2, loop2, _ := verdict.Check(g, f)
		lists := [][]int{stem, loop, stem2, loop2}
		for i := range lists {
			scribble(lists[i])
			for j, other := range lists[i+1:] {
				if slices.Contains(other, -7) {
					t.Fatalf("P2: Check(%v, %q): writing into list %d changes list %d", g, f, i, i+1+j)
				}
			}
		}
		again, stem, loop, e2 := verdict.Check(g, f)
		if again != y || e2 != e || !y && !isPath(g, stem, loop) {
			t.Fatalf("P2: Check(%v, %q) = %v, %v, %v, %d behind writing into its lists", g, f, again, stem, loop, e2)
		}
	}
}
