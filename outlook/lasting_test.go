package outlook

import (
	"slices"
	"testing"

	"verdict/api"
)

func TestWaysAreKeptWhereTheyLead(t *testing.T) {
	w := ways{into: make([][]step, 2)}
	w.add(0, 3, 1)
	w.add(1, 7, 1)
	w.add(1, 0, 0)
	if !slices.Equal(w.into[0], []step{{1, 0}}) || !slices.Equal(w.into[1], []step{{0, 3}, {1, 7}}) {
		t.Errorf("P8: ways %v", w.into)
	}
}

func TestWrongWaysAreLeftOut(t *testing.T) {
	w := ways{into: make([][]step, 2)}
	for _, n := range []int{-1, 2, 1 << 62, -1 << 63} {
		w.add(n, 0, 0)
		w.add(0, 0, n)
	}
	for _, n := range []int{-1, 8, 1 << 62, -1 << 63} {
		w.add(0, n, 0)
	}
	none := ways{}
	none.add(0, 0, 0)
	if len(w.into[0])+len(w.into[1])+len(none.into) != 0 {
		t.Errorf("P1: ways %v, %v", w.into, none.into)
	}
	o := Look(parse(t, "Fp"))
	if l := o.lasting(none); len(l) != 0 {
		t.Errorf("P1: views without a spot: %d", len(l))
	}
}

// TestLastingViewsAreThoseOfWords lays ways through three spots: 0 and 1 take turns, and from 1 one may go to 2 and stay. From spot 3 no way leads on.
func TestLastingViewsAreThoseOfWords(t *testing.T) {
	w := ways{into: make([][]step, 4)}
	w.add(0, 1, 1)
	w.add(1, 2, 0)
	w.add(1, 0, 2)
	w.add(2, 3, 2)
	w.add(1, 5, 3)
	turns := [][]int{nil, {1, 2}, {1, 2, 1, 2}, {1, 2, 1, 2, 1, 2}}
	for _, f := range formulas {
		nodes := parse(t, f)
		o := Look(nodes)
		want := [4]Group{}
		want[0][viewOf(t, nodes, nil, []int{1, 2})] = true
		want[1][viewOf(t, nodes, nil, []int{2, 1})] = true
		want[2][viewOf(t, nodes, nil, []int{3})] = true
		for _, turn := range turns {
			want[0][viewOf(t, nodes, append(slices.Clone(turn), 1, 0), []int{3})] = true
			want[1][viewOf(t, nodes, append([]int{2}, append(slices.Clone(turn), 1, 0)...), []int{3})] = true
		}
		want[1][viewOf(t, nodes, []int{0}, []int{3})] = true
		got := o.lasting(w)
		if !slices.Equal(got, want[:]) {
			t.Errorf("P8: %q: views at the spots %v, want %v", f, list(got), list(want[:]))
		}
	}
}

func TestEvades(t *testing.T) {
	for _, c := range []struct {
		f       string
		verdict int
		holds   bool
		want    bool
	}{
		{"Gp", api.False, false, false}, {"Gp", api.True, true, true}, {"Fp", api.False, false, true}, {"Fp", api.True, true, false},
		// A word of which the formula holds never comes to FALSE, and one of which it does not hold never comes to TRUE.
		{"Gp", api.False, true, true}, {"Fp", api.True, false, true}, {"p", api.False, true, true}, {"p", api.True, false, true},
		// Here the verdict is told before anything is read.
		{"1", api.True, true, false}, {"0", api.False, false, false}, {"1", api.False, false, false}, {"0", api.True, true, false},
	} {
		o := Look(parse(t, c.f))
		if got := o.evades(o.States(), c.verdict, c.holds); got != c.want {
			t.Errorf("P8: %q holds: %v, and evades %d: %v, want %v", c.f, c.holds, c.verdict, got, c.want)
		}
	}
	o := Look(parse(t, "p"))
	if o.evades(nil, api.False, false) {
		t.Error("P1: a word goes on for ever where there is no state")
	}
}
