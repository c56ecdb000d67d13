package fretwork_test

import (
	"slices"
	"testing"

	"fretwork/api"
)

// sparse is a list with spare room behind it that tells whether it was written into.
func sparse(entries ...int) []int {
	list := append(make([]int, 0, len(entries)+4), entries...)
	for i := range list[len(list):cap(list)] {
		list[len(list):cap(list)][i] = 77
	}
	return list
}

func same(t *testing.T, what string, list []int, want ...int) {
	t.Helper()
	if !slices.Equal(list, want) {
		t.Errorf("%s is %v, was %v", what, list, want)
	}
	for _, spare := range list[len(list):cap(list)] {
		if spare != 77 {
			t.Errorf("%s: what stands behind it was written into: %v", what, list[:cap(list)])
		}
	}
}

func TestP2SizesAreNotWrittenAndNotKept(t *testing.T) {
	sizes := sparse(3, 2)
	w := made(t, sizes...)
	same(t, "sizes", sizes, 3, 2)
	sizes[0], sizes[1] = 1, 6
	left(t, w, []int{0, 1, 2}, []int{0, 1})
	answers(t, w.Remove(1, 2), api.ErrArg)
	answers(t, w.Post(api.Table{Vars: []int{0}, Rows: [][]int{{2}, {1}}, Way: 1}), api.OK)
	answers(t, w.Remove(0, 2), api.OK)
	left(t, w, []int{1}, []int{0, 1})
}

func TestP2TablesAreNotWrittenAndNotKept(t *testing.T) {
	for _, not := range []bool{false, true} {
		eachWay(t, func(t *testing.T, way int) {
			vars := sparse(1, 0)
			spare := sparse(5, 5)
			rows := append(make([][]int, 0, 4), sparse(0, api.Any), sparse(1, 1), sparse(1, 1))
			rows[:4][3] = spare
			w := made(t, 2, 2, 2)
			answers(t, w.Post(api.Table{Vars: vars, Rows: rows, Not: not, Way: way}), api.OK)
			same(t, "Vars", vars, 1, 0)
			same(t, "row 0", rows[0], 0, api.Any)
			same(t, "row 1", rows[1], 1, 1)
			same(t, "row 2", rows[2], 1, 1)
			if &rows[:4][3][0] != &spare[0] {
				t.Error("what stands behind Rows was written into")
			}
			same(t, "the row behind Rows", spare, 5, 5)

			vars[0], vars[1] = 2, 1
			rows[0][0], rows[0][1], rows[1][0] = 1, 1, 9
			rows[2] = nil
			if not {
				left(t, w, []int{0}, []int{1}, []int{0, 1})
				answers(t, w.Remove(2, 0), api.OK)
				left(t, w, []int{0}, []int{1}, []int{1})
				return
			}
			answers(t, w.Remove(2, 0), api.OK)
			left(t, w, []int{0, 1}, []int{0, 1}, []int{1})
			answers(t, w.Fix(0, 0), api.OK)
			left(t, w, []int{0}, []int{0}, []int{1})
		})
	}
}

func TestP2DomainsAreNewMemory(t *testing.T) {
	w := made(t, 4, 4)
	answers(t, w.Remove(0, 0), api.OK)
	first, _ := w.Domain(0)
	second, _ := w.Domain(0)
	other, _ := w.Domain(1)
	for i := range first[:cap(first)] {
		first[:cap(first)][i] = 9
	}
	if !slices.Equal(second, []int{1, 2, 3}) || !slices.Equal(other, []int{0, 1, 2, 3}) {
		t.Errorf("one answer was written into by another: %v, %v", second, other)
	}
	left(t, w, []int{1, 2, 3}, []int{0, 1, 2, 3})
}

// Each list that is yielded is written over, to the end of its spare room, and grown, while the going goes on.
func TestP2YieldedListsAreNewMemory(t *testing.T) {
	eachWay(t, func(t *testing.T, way int) {
		w := made(t, 4, 4, 4)
		answers(t, w.Post(sums(way)), api.OK)
		want := solutions(w)
		var kept [][]int
		count := 0
		for list := range w.Solutions() {
			if !slices.Equal(list, want[count]) {
				t.Errorf("solution %d is %v, want %v", count, list, want[count])
			}
			count++
			for i := range list[:cap(list)] {
				list[:cap(list)][i] = 50 + count
			}
			kept = append(kept, append(list, 50+count))
		}
		if count != len(want) || count != 10 {
			t.Errorf("%d solutions, want %d", count, len(want))
		}
		for k, list := range kept {
			mark := 51 + k
			if !slices.Equal(list, []int{mark, mark, mark, mark}) {
				t.Errorf("solution %d was written into by another: %v", k, list)
			}
		}
		tells(t, w, want...)
		left(t, w, []int{0, 1, 2, 3}, []int{0, 1, 2, 3}, []int{0, 1, 2, 3})
	})
}
