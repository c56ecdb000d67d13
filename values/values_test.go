package values

import (
	"slices"
	"testing"

	"fretwork/api"
)

func TestBelow(t *testing.T) {
	for size := range api.MaxSize + 1 {
		s := Below(size)
		if s.Len() != size || len(s.List()) != size {
			t.Errorf("Below(%d) has %v", size, s.List())
		}
		for value, got := range s.List() {
			if got != value {
				t.Errorf("Below(%d) has %v", size, s.List())
			}
		}
	}
}

func TestListLeastFirst(t *testing.T) {
	s := One(5) | One(0) | One(3)
	if got := s.List(); !slices.Equal(got, []int{0, 3, 5}) || s.Len() != 3 {
		t.Errorf("List = %v, Len = %d", got, s.Len())
	}
	list := s.List()
	list[0] = 9
	if got := s.List(); !slices.Equal(got, []int{0, 3, 5}) {
		t.Errorf("List after a caller's write = %v", got)
	}
}

func TestEachStops(t *testing.T) {
	var got []int
	for value := range Below(api.MaxSize).Each {
		if value == 2 {
			break
		}
		got = append(got, value)
	}
	if !slices.Equal(got, []int{0, 1}) {
		t.Errorf("Each before a break: %v", got)
	}
}
