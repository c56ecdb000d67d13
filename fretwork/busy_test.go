package fretwork_test

import (
	"iter"
	"math"
	"testing"

	"fretwork/api"
	"fretwork/fretwork"
)

// refuses checks that w answers every call as one does that is gone through, also where another error would apply.
func refuses(t *testing.T, w *fretwork.Work) {
	t.Helper()
	posts := []api.Table{{}, {Vars: []int{9}, Way: 3}, {Vars: []int{0}, Not: true, Way: 1}, {Vars: []int{0}, Way: 2}}
	for _, table := range posts {
		answers(t, w.Post(table), api.ErrBusy)
	}
	for _, v := range []int{0, 1, -1, 9, math.MinInt} {
		for _, value := range []int{0, 1, -1, 9, math.MaxInt} {
			answers(t, w.Fix(v, value), api.ErrBusy)
			answers(t, w.Remove(v, value), api.ErrBusy)
		}
		if domain, e := w.Domain(v); len(domain) != 0 || e != api.ErrBusy {
			t.Fatalf("Domain(%d) = %v, %d", v, domain, e)
		}
	}
	answers(t, w.Push(), api.ErrBusy)
	answers(t, w.Pop(), api.ErrBusy)
	for _, most := range []int{0, 1, math.MaxInt, -1, math.MinInt} {
		counts(t, w, most, 0, api.ErrBusy)
	}
	if got := w.Look(); got != (api.Look{}) {
		t.Fatalf("Look = %+v", got)
	}
	tells(t, w)
}

// goesBusy goes through all of w: it refuses in each yield, and is behind it what it was.
func goesBusy(t *testing.T, w *fretwork.Work) {
	t.Helper()
	was, look, all := domains(t, w), w.Look(), solutions(w)
	if len(all) == 0 {
		t.Fatal("there is nothing to go through")
	}
	count := 0
	for range w.Solutions() {
		refuses(t, w)
		count++
	}
	if count != len(all) {
		t.Fatalf("%d were yielded, want %d", count, len(all))
	}
	if got := w.Look(); got != look {
		t.Fatalf("Look = %+v, want %+v", got, look)
	}
	left(t, w, was...)
	tells(t, w, all...)
}

func TestP3Busy(t *testing.T) {
	w := made(t, 2, 3)
	goesBusy(t, w)
	for k := range api.MaxTables {
		apart := api.Table{Vars: []int{0, 1}, Rows: [][]int{{1, 2}, {0, k % 2}}, Not: true, Way: 1 + k/2%2}
		answers(t, w.Post(apart), api.OK)
	}
	goesBusy(t, w)
	tells(t, w, []int{0, 2}, []int{1, 0}, []int{1, 1})
	for range api.MaxLevel {
		push(t, w)
	}
	goesBusy(t, w)
	answers(t, w.Remove(1, 0), api.OK)
	goesBusy(t, w)
	tells(t, w, []int{0, 2}, []int{1, 1})
	for range api.MaxLevel {
		pop(t, w)
	}
	left(t, w, []int{0, 1}, []int{0, 1, 2})
	answers(t, w.Pop(), api.ErrLevel)
}

// The same going, begun again in its own yield, has nothing.
func TestP3SameGoingInYield(t *testing.T) {
	w := made(t, 3)
	going := w.Solutions()
	count := 0
	for range going {
		for range going {
			t.Error("a going within itself")
		}
		refuses(t, w)
		count++
	}
	if count != 3 {
		t.Errorf("%d were yielded", count)
	}
}

func TestP3OtherFretworkInYield(t *testing.T) {
	w := made(t, 2)
	for range w.Solutions() {
		other := made(t, 3, 3)
		answers(t, other.Post(api.Table{Vars: []int{0, 1}, Rows: [][]int{{0, 1}, {1, 2}}, Way: 1}), api.OK)
		left(t, other, []int{0, 1}, []int{1, 2})
		push(t, other)
		answers(t, other.Remove(1, 2), api.OK)
		tells(t, other, []int{0, 1})
		counts(t, other, 5, 1, api.OK)
		pop(t, other)
		answers(t, other.Fix(0, 1), api.OK)
		left(t, other, []int{1}, []int{2})
		answers(t, other.Pop(), api.ErrLevel)
		counts(t, other, -1, 0, api.ErrArg)
		refuses(t, w)
	}
	tells(t, w, []int{0}, []int{1})
}

// Two goings, one in the other's yield: each fretwork is busy as long as its own is.
func TestP3GoingWithinAnother(t *testing.T) {
	outer, inner := made(t, 2), made(t, 3)
	count := 0
	for range outer.Solutions() {
		tells(t, inner, []int{0}, []int{1}, []int{2})
		for range inner.Solutions() {
			refuses(t, outer)
			refuses(t, inner)
			count++
		}
		left(t, inner, []int{0, 1, 2})
		refuses(t, outer)
	}
	if count != 6 {
		t.Errorf("%d were yielded", count)
	}
	func() {
		defer func() { recover() }()
		for range outer.Solutions() {
			for range inner.Solutions() {
				panic("enough")
			}
		}
	}()
	left(t, outer, []int{0, 1})
	left(t, inner, []int{0, 1, 2})
}

// A panic that is caught in yield does not end the going.
func TestP3PanicWithinYield(t *testing.T) {
	w := made(t, 2)
	count := 0
	for range w.Solutions() {
		func() {
			defer func() { recover() }()
			for range w.Solutions() {
				t.Error("a going within another")
			}
			panic("not yet")
		}()
		refuses(t, w)
		count++
	}
	if count != 2 {
		t.Errorf("%d were yielded", count)
	}
	left(t, w, []int{0, 1})
}

// A going that is asked step by step is under way from its first step on.
func TestP3StepByStep(t *testing.T) {
	w := made(t, 2, 2)
	next, stop := iter.Pull(iter.Seq[[]int](w.Solutions()))
	answers(t, w.Remove(0, 0), api.OK)
	if list, ok := next(); !ok || list[0] != 1 || list[1] != 0 {
		t.Errorf("the first is %v", list)
	}
	refuses(t, w)
	stop()
	left(t, w, []int{1}, []int{0, 1})
	next, stop = iter.Pull(iter.Seq[[]int](w.Solutions()))
	defer stop()
	for _, ok := next(); ok; _, ok = next() {
		refuses(t, w)
	}
	tells(t, w, []int{1, 0}, []int{1, 1})
}
