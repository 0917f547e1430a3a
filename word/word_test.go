package word

import (
	"math"
	"testing"

	"verdict/api"
	"verdict/formula"
)

func TestLetters(t *testing.T) {
	for n := -20; n <= 20; n++ {
		if IsLetter(n) != (n == 0 || n == 1 || n == 2 || n == 3 || n == 4 || n == 5 || n == 6 || n == 7) {
			t.Errorf("P4: IsLetter(%d) = %v", n, IsLetter(n))
		}
	}
	if IsLetter(math.MinInt) || IsLetter(math.MaxInt) {
		t.Error("P4: the greatest or the smallest number is a letter")
	}
	for _, c := range []struct {
		u    []int
		want bool
	}{
		{nil, true}, {[]int{}, true}, {[]int{0, 7}, true}, {[]int{8, 0}, false}, {[]int{0, -1}, false}, {[]int{0, 8, 0}, false},
	} {
		if AllLetters(c.u) != c.want {
			t.Errorf("P4: AllLetters(%v) = %v", c.u, !c.want)
		}
	}
}

func TestJoinCopies(t *testing.T) {
	room := []int{1, 2, 3, 4, 5}
	w, e := Join(room[:2], room[1:3])
	if e != api.OK {
		t.Fatalf("P4: error %d", e)
	}
	for i, n := range []int{1, 2, 3, 4, 5} {
		if room[i] != n {
			t.Errorf("P2: room %d is now %d", i, room[i])
		}
		room[i] = 0
	}
	for i, n := range []int{1, 2, 2, 3} {
		if w.letters[i] != n {
			t.Errorf("P2: letter %d is now %d", i, w.letters[i])
		}
	}
}

func TestJoinErrors(t *testing.T) {
	for _, c := range []struct {
		stem, loop []int
		e          api.Errno
	}{
		{nil, nil, api.ErrLoop}, {[]int{9}, []int{}, api.ErrLoop}, {make([]int, 41), nil, api.ErrLoop},
		{make([]int, 41), []int{9}, api.ErrWord}, {[]int{9}, make([]int, 41), api.ErrWord},
		{make([]int, 40), make([]int, 40), api.OK}, {nil, []int{8}, api.ErrLetter}, {[]int{-1}, []int{0}, api.ErrLetter},
	} {
		w, e := Join(c.stem, c.loop)
		if e != c.e || e != api.OK && (len(w.letters) != 0 || w.back != 0) {
			t.Errorf("P4: Join(%v, %v) = %v, %d, want error %d", c.stem, c.loop, w, e, c.e)
		}
	}
}

func TestHoldsOfNothing(t *testing.T) {
	nodes, _ := formula.Parse("1")
	if (Endless{}).Holds(nodes) {
		t.Error("P1: a formula holds of no word")
	}
	w, _ := Join(nil, []int{7})
	if w.Holds(nil) {
		t.Error("P1: no formula holds")
	}
	if !w.Holds(nodes) {
		t.Error("P4: 1 does not hold")
	}
}
