package trail

import (
	"slices"
	"testing"
)

// noted writes on the trail that this number is appended to the list when it is changed back.
func noted(t *Trail, list *[]int, number int) {
	t.Write(func() { *list = append(*list, number) })
}

func TestPopChangesBackLastFirst(t *testing.T) {
	var trail Trail
	var list []int
	trail.Push()
	for number := range 3 {
		noted(&trail, &list, number)
	}
	trail.Push()
	trail.Push()
	noted(&trail, &list, 3)
	noted(&trail, &list, 4)
	steps := [][]int{{4, 3}, {4, 3}, {4, 3, 2, 1, 0}, {4, 3, 2, 1, 0}}
	for k, want := range steps {
		if trail.Pop(); !slices.Equal(list, want) {
			t.Errorf("behind %d Pops: %v, want %v", k+1, list, want)
		}
		if got := trail.Level(); got != max(0, 2-k) {
			t.Errorf("behind %d Pops: level %d", k+1, got)
		}
	}
}

func TestLevelsAreUsedAgain(t *testing.T) {
	var trail Trail
	var list []int
	for round := range 3 {
		trail.Push()
		noted(&trail, &list, round)
		trail.Pop()
	}
	if !slices.Equal(list, []int{0, 1, 2}) {
		t.Errorf("each change is changed back once: %v", list)
	}
}

func TestNothingIsKeptOutsideLevels(t *testing.T) {
	var trail Trail
	var list []int
	noted(&trail, &list, 0)
	if len(trail.backs) != 0 {
		t.Error("a change outside all levels is kept")
	}
	trail.Push()
	trail.Pop()
	if len(list) != 0 {
		t.Errorf("a change outside all levels was changed back: %v", list)
	}
	trail.Push()
	noted(&trail, &list, 1)
	noted(&trail, &list, 2)
	trail.Pop()
	for _, back := range trail.backs[:cap(trail.backs)] {
		if back != nil {
			t.Error("a change is kept behind its Pop")
		}
	}
}
