package outlook

import (
	"testing"

	"verdict/api"
	"verdict/formula"
	"verdict/word"
)

func parse(t *testing.T, f string) []formula.Node {
	t.Helper()
	nodes, e := formula.Parse(f)
	if e != api.OK {
		t.Fatalf("%q: error %d", f, e)
	}
	return nodes
}

// viewOf asks of an endless word for each node by itself: the nodes up to one are a list of which that one is the whole formula.
func viewOf(t *testing.T, nodes []formula.Node, stem, loop []int) View {
	t.Helper()
	w, e := word.Join(stem, loop)
	if e != api.OK {
		t.Fatalf("%v, %v: error %d", stem, loop, e)
	}
	view := 0
	for k := range nodes {
		if w.Holds(nodes[:k+1]) {
			view |= 1 << k
		}
	}
	return View(view)
}

func wordsUpTo(longest int, letters []int) [][]int {
	l := [][]int{{}}
	for from, n := 0, 0; n < longest; n++ {
		to := len(l)
		for _, u := range l[from:to] {
			for _, letter := range letters {
				l = append(l, append(append([]int{}, u...), letter))
			}
		}
		from = to
	}
	return l
}

var formulas = []string{
	"p", "0", "1", "!p", "Xp", "Fp", "Gp", "(p&q)", "(p|q)", "(pUq)", "(pRq)", "GFp", "FGp", "XXp", "FXp", "GXp", "!Fp", "(GpUq)", "(FpRq)", "(pUGq)", "(Gp&F!p)", "(Gp|F!p)", "G(p|Fq)", "((pUq)Up)", "((pRq)Rp)", "(p&GFq)", "(GFp|FGq)", "G(!p|XFq)", "F(p&X!p)", "XFGp", "(XpUXq)", "(0Up)", "(1Rp)", "(pR1)", "(pU0)", "FGFGp",
}

func TestTheViewBefore(t *testing.T) {
	letters := []int{0, 1, 2, 7}
	for _, f := range formulas {
		nodes := parse(t, f)
		o := Look(nodes)
		for _, stem := range wordsUpTo(1, letters) {
			for _, loop := range wordsUpTo(2, letters)[1:] {
				next := viewOf(t, nodes, stem, loop)
				for letter := 0; letter < api.Letters; letter++ {
					want := viewOf(t, nodes, append([]int{letter}, stem...), loop)
					if got := o.before[letter][next]; got != want {
						t.Fatalf("P5: %q: before letter %d and view %b: %b, want %b", f, letter, next, got, want)
					}
				}
			}
		}
	}
}

func TestLivingViewsAreThoseOfWords(t *testing.T) {
	for _, f := range formulas {
		nodes := parse(t, f)
		o := Look(nodes)
		want := Group{}
		for _, stem := range wordsUpTo(2, []int{0, 1, 2, 3}) {
			for _, loop := range wordsUpTo(2, []int{0, 1, 2, 3})[1:] {
				want[viewOf(t, nodes, stem, loop)] = true
			}
		}
		for view := range want {
			if o.living[view] != want[view] {
				t.Errorf("P5: %q: view %b is living: %v, some word has it: %v", f, view, o.living[view], want[view])
			}
		}
	}
}

func TestVerdictsOfGroups(t *testing.T) {
	o := Look(parse(t, "(pUq)"))
	if v := o.Verdict(o.living); v != api.True {
		t.Errorf("P5: all living views: %d", v)
	}
	if v := o.Verdict(Group{}); v != api.False {
		t.Errorf("P5: no view: %d", v)
	}
	for view, living := range o.living {
		if !living {
			continue
		}
		one, others := Group{}, o.living
		one[view], others[view] = true, false
		if o.Verdict(one) != api.Unknown || o.Verdict(others) != api.Unknown {
			t.Errorf("P5: view %b alone: %d, without it: %d", view, o.Verdict(one), o.Verdict(others))
		}
	}
}

func TestStepsStayAmongLivingViews(t *testing.T) {
	for _, f := range formulas {
		o := Look(parse(t, f))
		for letter := 0; letter < api.Letters; letter++ {
			if o.Step(o.living, letter) != o.living || o.Step(Group{}, letter) != (Group{}) {
				t.Errorf("P6: %q: letter %d leads away from a verdict that is settled", f, letter)
			}
			to := o.Step(o.Begin(), letter)
			for view := range to {
				if to[view] && !o.living[view] {
					t.Errorf("P5: %q: letter %d leads to view %b, which is not living", f, letter, view)
				}
			}
		}
	}
}

func TestStepWithNoLetter(t *testing.T) {
	o := Look(parse(t, "1"))
	for _, letter := range []int{-1, 8, 1 << 62, -1 << 63} {
		if o.Step(o.Begin(), letter) != (Group{}) {
			t.Errorf("P1: Step with %d", letter)
		}
	}
}

// TestStates tells of each state by a shortest word that leads to it, and that those words stand in order.
func TestStates(t *testing.T) {
	for _, f := range append(formulas, "G(!p|XXXq)", "(pR(qUXXXp))", "XXXXXXXp") {
		o := Look(parse(t, f))
		states := o.States()
		words := [][]int{{}}
		for i, state := range states {
			if i >= len(words) {
				t.Fatalf("P6: %q: state %d is not met from those ahead of it", f, i)
			}
			if got := o.Judge(words[i]); got != state.Out {
				t.Errorf("P6: %q: state %d tells %d, the verdict on %v is %d", f, i, state.Out, words[i], got)
			}
			for letter, to := range state.Next {
				longer := append(append([]int{}, words[i]...), letter)
				if to < 0 || to > len(words) {
					t.Fatalf("P6: %q: state %d goes to %d when %d are met", f, i, to, len(words))
				}
				if to == len(words) {
					words = append(words, longer)
				}
				for _, end := range wordsUpTo(2, []int{0, 1, 2, 7}) {
					one, other := append(longer[:len(longer):len(longer)], end...), append(words[to][:len(words[to]):len(words[to])], end...)
					if o.Judge(one) != o.Judge(other) {
						t.Fatalf("P6: %q: %v and %v lead to state %d, and the verdict differs behind %v", f, longer, words[to], to, end)
					}
				}
			}
		}
	}
}

func TestHowManyStates(t *testing.T) {
	for _, c := range []struct {
		f string
		n int
	}{
		{"1", 1}, {"GFp", 1}, {"p", 3}, {"XXXXXXXp", 10}, {"(pRXXXXp)", 17}, {"(pR(qUXXXp))", 28},
	} {
		o := Look(parse(t, c.f))
		if n := len(o.States()); n != c.n {
			t.Errorf("P6: %q: %d states, want %d", c.f, n, c.n)
		}
	}
}
