package machine

import (
	"math/rand"
	"slices"
	"strings"
	"testing"

	"verdict/api"
)

func state(out int, next ...int) State {
	s := State{Out: out}
	copy(s.Next[:], next)
	return s
}

// all is a state that goes to one state with every letter.
func all(out int, to int) State {
	return state(out, to, to, to, to, to, to, to, to)
}

// until is the machine of (pUq).
var until = []State{state(0, 1, 0, 2, 2, 1, 0, 2, 2), all(2, 1), all(1, 2)}

const untilBytes = "\x03\x00\x01\x00\x02\x02\x01\x00\x02\x02\x02\x01\x01\x01\x01\x01\x01\x01\x01\x01\x02\x02\x02\x02\x02\x02\x02\x02"

func TestWellFormed(t *testing.T) {
	for _, c := range []struct {
		states []State
		want   bool
	}{
		{nil, false}, {until, true}, {[]State{all(0, 0)}, true}, {[]State{all(1, 0)}, true}, {[]State{all(2, 0)}, true},
		{[]State{all(3, 0)}, false}, {[]State{all(-1, 0)}, false}, {[]State{all(256, 0)}, false}, {[]State{all(0, 1)}, false}, {[]State{all(0, -1)}, false},
		{[]State{all(1, 1), all(0, 0)}, false}, {[]State{all(2, 1), all(0, 0)}, false}, {[]State{all(0, 1), all(0, 0)}, true},
		{[]State{all(0, 0), state(1, 1, 1, 1, 1, 1, 1, 1, 0)}, false}, {[]State{all(0, 0), state(2, 0, 1, 1, 1, 1, 1, 1, 1)}, false}, {[]State{all(0, 0), state(0, 0, 1, 1, 1, 1, 1, 1, 1)}, true},
		{[]State{all(0, 0), all(0, 0), all(0, 0), all(0, 0), all(0, 0), all(0, 0), all(0, 0), all(0, 7)}, true},
		{[]State{all(0, 0), all(0, 0), all(0, 0), all(0, 0), all(0, 0), all(0, 0), all(0, 0), all(0, 8)}, false},
		{slices.Repeat([]State{all(0, 0)}, 9), false},
	} {
		if got := wellFormed(c.states); got != c.want {
			t.Errorf("P7: %v is well formed: %v", c.states, got)
		}
		m := Plain(c.states)
		if got, ok := Take(m); ok != c.want || ok && !slices.Equal(got, c.states) || !ok && len(got) != 0 {
			t.Errorf("P7: Take(%v) = %v, %v", m, got, ok)
		}
	}
}

func TestTakeLooksAtTheLists(t *testing.T) {
	eight := []int{0, 0, 0, 0, 0, 0, 0, 0}
	for _, m := range []api.Machine{
		{}, {Out: []int{0}}, {Next: [][]int{eight}}, {Out: []int{0, 0}, Next: [][]int{eight}}, {Out: []int{0}, Next: [][]int{eight, eight}},
		{Out: []int{0}, Next: [][]int{nil}}, {Out: []int{0}, Next: [][]int{eight[:7]}}, {Out: []int{0}, Next: [][]int{make([]int, 9)}}, {Out: []int{0, 0}, Next: [][]int{eight, eight[:0]}},
		{Out: make([]int, 1000000), Next: make([][]int, 1000000)}, {Out: make([]int, 1000000)},
	} {
		if got, ok := Take(m); ok || len(got) != 0 {
			t.Errorf("P7: Take(%.60v) = %v, %v", m, got, ok)
		}
	}
}

func TestBytes(t *testing.T) {
	if got := Bytes(until); got != untilBytes {
		t.Errorf("P7: Bytes = %q", got)
	}
	if got, ok := FromBytes(untilBytes); !ok || !slices.Equal(got, until) {
		t.Errorf("P7: FromBytes = %v, %v", got, ok)
	}
	for n := range untilBytes {
		if got, ok := FromBytes(untilBytes[:n]); ok || len(got) != 0 {
			t.Errorf("P7: FromBytes of %d bytes = %v, %v", n, got, ok)
		}
	}
	for _, s := range []string{untilBytes + "\x00", untilBytes + untilBytes, "\x09" + strings.Repeat("\x00", 81), "\xff" + strings.Repeat("\x00", 255*9), "\x00", strings.Repeat("\x00", 10)} {
		if got, ok := FromBytes(s); ok || len(got) != 0 {
			t.Errorf("P7: FromBytes(%.30q) = %v, %v", s, got, ok)
		}
	}
}

// TestEachByteCounts puts every byte at every place: what is read must be what was written, and nothing that is not well formed is read.
func TestEachByteCounts(t *testing.T) {
	for at := range untilBytes {
		for b := 0; b < 256; b++ {
			bytes := []byte(untilBytes)
			bytes[at] = byte(b)
			got, ok := FromBytes(string(bytes))
			if ok && (Bytes(got) != string(bytes) || !wellFormed(got)) {
				t.Errorf("P7: byte %d at %d is read as %v", b, at, got)
			}
			// Only state 0 may go elsewhere, and the Outs may change places.
			want := byte(b) == untilBytes[at] || at >= 2 && at <= 9 && b <= 2 || (at == 10 || at == 19) && b <= 2
			if ok != want {
				t.Errorf("P7: byte %d at %d is read: %v", b, at, ok)
			}
		}
	}
}

func TestRun(t *testing.T) {
	for _, c := range []struct {
		u    []int
		want int
	}{
		{nil, 0}, {[]int{1}, 0}, {[]int{1, 5, 1}, 0}, {[]int{1, 2}, 1}, {[]int{0}, 2}, {[]int{2, 0}, 1}, {[]int{1, 4, 2}, 2}, {make([]int, 100000), 2}, {slices.Repeat([]int{5}, 100000), 0},
	} {
		if got := Run(until, c.u); got != c.want {
			t.Errorf("P7: Run(%.30v) = %d, want %d", c.u, got, c.want)
		}
	}
}

func TestRunOfWhatIsNoMachine(t *testing.T) {
	for _, states := range [][]State{nil, {all(2, 1)}, {all(2, -1)}} {
		for _, u := range [][]int{{0}, {0, 0}} {
			if got := Run(states, u); got != api.Unknown {
				t.Errorf("P1: Run(%v, %v) = %d", states, u, got)
			}
		}
	}
	for _, letter := range []int{-1, 8} {
		if got := Run([]State{all(2, 0)}, []int{letter}); got != api.Unknown {
			t.Errorf("P1: Run with letter %d: %d", letter, got)
		}
	}
}

func TestSmallest(t *testing.T) {
	for _, c := range []struct {
		states, want []State
	}{
		{until, until},
		{[]State{all(0, 1), all(0, 2), all(0, 0)}, []State{all(0, 0)}},
		{[]State{all(0, 1), all(0, 2), all(1, 2)}, []State{all(0, 1), all(0, 2), all(1, 2)}},
		{[]State{state(0, 1, 2), all(0, 3), all(0, 3), all(2, 3)}, []State{state(0, 1, 1), all(0, 2), all(2, 2)}},
	} {
		got, ok := Smallest(c.states)
		if !ok || !slices.Equal(got, c.want) {
			t.Errorf("P6: Smallest(%v) = %v, %v", c.states, got, ok)
		}
	}
	row := []State{}
	for i := 1; i < 12; i++ {
		row = append(row, all(0, i))
	}
	row = append(row, all(1, 11))
	for n := 0; n <= 11; n++ {
		cut := slices.Clone(row[:n])
		cut = append(cut, all(1, n))
		got, ok := Smallest(cut)
		if ok != (n+1 <= api.MaxStates) || ok && !slices.Equal(got, cut) || !ok && len(got) != 0 {
			t.Errorf("P6: Smallest of %d states in a row = %v, %v", n+1, got, ok)
		}
	}
}

// differ marks pairs of states until no more can be told apart, and counts the kinds that are left.
func differ(states []State) ([][]bool, int) {
	marks := make([][]bool, len(states))
	for i := range marks {
		marks[i] = make([]bool, len(states))
	}
	for more := true; more; {
		more = false
		for i, one := range states {
			for j, other := range states {
				mark := one.Out != other.Out
				for letter := range one.Next {
					mark = mark || marks[one.Next[letter]][other.Next[letter]]
				}
				if mark && !marks[i][j] {
					marks[i][j], more = true, true
				}
			}
		}
	}
	count := 0
	for i := range states {
		if !slices.Contains(marks[i][:i], false) {
			count++
		}
	}
	return marks, count
}

// inOrder lists the states that can be met, in the order in which they are.
func inOrder(states []State) []State {
	number := map[int]int{0: 0}
	old := []int{0}
	var l []State
	for i := 0; i < len(old); i++ {
		s := states[old[i]]
		for letter, to := range s.Next {
			if _, ok := number[to]; !ok {
				number[to] = len(old)
				old = append(old, to)
			}
			s.Next[letter] = number[to]
		}
		l = append(l, s)
	}
	return l
}

func TestSmallestOfThrownMachines(t *testing.T) {
	r := rand.New(rand.NewSource(1))
	small, large := 0, 0
	for range 20000 {
		n := 1 + r.Intn(14)
		few := 1 + r.Intn(n)
		states := make([]State, n)
		for i := range states {
			states[i].Out = r.Intn(1 + r.Intn(3))
			for letter := range states[i].Next {
				states[i].Next[letter] = r.Intn(few)
				if r.Intn(3) == 0 {
					states[i].Next[letter] = r.Intn(n)
				}
			}
		}
		states = inOrder(states)
		_, count := differ(states)
		got, ok := Smallest(states)
		if ok != (count <= api.MaxStates) {
			t.Fatalf("P6: Smallest(%v): %v, but there are %d kinds", states, ok, count)
		}
		if !ok {
			large++
			continue
		}
		small++
		both := slices.Clone(got)
		for _, s := range states {
			for letter := range s.Next {
				s.Next[letter] += len(got)
			}
			both = append(both, s)
		}
		marks, _ := differ(both)
		if len(got) != count || marks[0][len(got)] || !slices.Equal(got, inOrder(got)) {
			t.Fatalf("P6: Smallest(%v) = %v", states, got)
		}
	}
	if small < 1000 || large < 1000 {
		t.Errorf("the thrown machines are too much alike: %d small, %d large", small, large)
	}
}
