package outlook

import (
	"slices"
	"testing"

	"verdict/api"
	"verdict/formula"
	"verdict/graph"
	"verdict/word"
)

// plan makes the nodes of a graph from their letters and a list of edges. One may begin with node 0.
func plan(letters []int, edges ...[2]int) []graph.Node {
	nodes := make([]graph.Node, len(letters))
	for i, letter := range letters {
		nodes[i].Letter = letter
	}
	for _, e := range edges {
		nodes[e[0]].Edge[e[1]] = true
	}
	nodes[0].Start = true
	return nodes
}

func TestPath(t *testing.T) {
	nodes := plan([]int{1, 0, 2, 3}, [2]int{0, 1}, [2]int{1, 0}, [2]int{1, 2}, [2]int{2, 3}, [2]int{3, 3}, [2]int{3, 2})
	for _, c := range []struct {
		f    string
		want bool
	}{
		{"p", false}, {"!p", true}, {"XXp", true}, {"Fq", true}, {"G!q", true}, {"GFp", false}, {"(G!q|FGq)", false}, {"(GFp|GFq)", false}, {"(FGq|GF!q)", false}, {"FG(p&q)", true}, {"1", false}, {"0", true}, {"(Gp|F!p)", false}, {"(Fq&GFp)", true},
	} {
		list := parse(t, c.f)
		o := Look(list)
		stem, loop, found := o.Path(nodes)
		if found != c.want || found != (len(loop) > 0) || !found && len(stem) > 0 {
			t.Errorf("P9: Path for %q: %v, %v, %v", c.f, stem, loop, found)
		}
		if found {
			shown(t, c.f, list, nodes, stem, loop)
		}
	}
}

func shown(t *testing.T, f string, list []formula.Node, nodes []graph.Node, stem, loop []int) {
	t.Helper()
	row := slices.Concat(stem, loop)
	if !nodes[row[0]].Start {
		t.Errorf("P9: Path for %q: %v, %v begins elsewhere", f, stem, loop)
	}
	var letters []int
	for i, n := range row {
		next := append(row, loop[0])[i+1]
		if !nodes[n].Edge[next] {
			t.Errorf("P9: Path for %q: %v, %v: no edge from %d to %d", f, stem, loop, n, next)
		}
		letters = append(letters, nodes[n].Letter)
	}
	w, e := word.Join(letters[:len(stem)], letters[len(stem):])
	if e != 0 || w.Holds(list) {
		t.Errorf("P9: Path for %q: it holds of %v, %v, error %d", f, stem, loop, e)
	}
}

func TestPathWithoutAWayOn(t *testing.T) {
	for _, f := range formulas {
		o := Look(parse(t, f))
		for _, nodes := range [][]graph.Node{nil, {}, plan([]int{0}), plan([]int{0, 1}, [2]int{0, 1}), plan([]int{0, 1}, [2]int{1, 1}), plan([]int{9}, [2]int{0, 0}), plan([]int{-1}, [2]int{0, 0}), plan([]int{1}, [2]int{0, 3})} {
			if stem, loop, found := o.Path(nodes); found || len(stem)+len(loop) > 0 {
				t.Errorf("P1: Path for %q through %v: %v, %v", f, nodes, stem, loop)
			}
		}
	}
}

// TestTheRoundPutsNothingOff: each node that can be put off is settled somewhere in the loop.
func TestTheRoundPutsNothingOff(t *testing.T) {
	nodes := plan([]int{0, 1, 2, 3, 4, 7})
	for i := range nodes {
		nodes[i].Edge[(i+1)%6], nodes[i].Edge[i*i%6], nodes[i].Start = true, true, i%2 == 0
	}
	for _, f := range append(formulas, "!(GFp&GFq)", "(GFp&GFr)", "((FqUXr)&G0)", "G((G!qUr)Rq)") {
		o := Look(parse(t, f))
		w := along(nodes)
		lasting := o.lasting(w)
		for _, from := range list(lasting) {
			turn := o.turn(w, lasting, from)
			home := o.seek(w, only(lasting, turn))
			if from != turn && home.number(from) < 0 {
				t.Fatalf("P9: %q: %v does not lead to its turn %v", f, from, turn)
			}
			round := o.round(w, home, turn)
			if len(round) == 0 || round[0] != turn {
				t.Fatalf("P9: %q: the round %v does not begin at %v", f, round, turn)
			}
			for i, at := range round {
				next := append(round, turn)[i+1]
				if !nodes[at.spot].Edge[next.spot] || o.before[nodes[at.spot].Letter][next.view] != at.view {
					t.Fatalf("P9: %q: the round %v does not go from %v to %v", f, round, at, next)
				}
			}
			for _, calm := range o.calm {
				if !meets(round, calm) {
					t.Fatalf("P9: %q: the round %v puts a node off for ever", f, round)
				}
			}
		}
	}
}

func TestWalk(t *testing.T) {
	w := ways{into: make([][]step, 3)}
	w.add(0, 0, 1)
	w.add(1, 0, 2)
	w.add(2, 0, 2)
	o := Look(parse(t, "1"))
	goal := make([]Group, 3)
	goal[2][1] = true
	s := o.seek(w, goal)
	near, far, end := stand{1, 1}, stand{0, 1}, stand{2, 1}
	if trip := s.walk(s.number(far)); !slices.Equal(trip.passed, []stand{far, near}) || trip.end != end {
		t.Errorf("P9: from %v: %v", far, trip)
	}
	if trip := s.walk(s.number(end)); !slices.Equal(trip.passed, []stand{end}) || trip.end != end {
		t.Errorf("P9: from the goal back to it: %v", trip)
	}
	if trip := s.walk(s.nearest(goal)); len(trip.passed) != 0 || trip.end != end {
		t.Errorf("P9: at the goal: %v", trip)
	}
	if n := s.nearest(only(s.found, far)); n != s.number(far) || n < 0 {
		t.Errorf("P9: %v has the number %d", far, n)
	}
	for _, none := range []stand{{1, 0}, {3, 1}, {-1, 1}} {
		if n := s.number(none); n != -1 {
			t.Errorf("P1: %v has the number %d", none, n)
		}
		if l := list(only(s.found, none)); len(l) != 0 {
			t.Errorf("P1: %v is among %v", none, l)
		}
	}
	if n := s.nearest(nil); n != -1 {
		t.Errorf("P1: nothing has the number %d", n)
	}
	for _, n := range []int{-1, 99, -1 << 63, 1<<63 - 1} {
		if trip := s.walk(n); len(trip.passed) != 0 {
			t.Errorf("P1: from link %d: %v", n, trip)
		}
	}
}

// TestHowLongAPathCanBe: with the stem and the way home, a formula of MaxSize asks for nine ways at most, and none passes a stand twice.
func TestHowLongAPathCanBe(t *testing.T) {
	o := Look(parse(t, "GFGFGFGp"))
	if n := len(o.calm) + 2; n != 9 || n*api.MaxNodes*Views >= api.MaxPath {
		t.Errorf("P9: %d ways may be too long", n)
	}
}
