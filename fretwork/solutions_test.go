package fretwork_test

import (
	"math"
	"runtime"
	"slices"
	"testing"

	"fretwork/api"
	"fretwork/fretwork"
)

func solutions(w *fretwork.Work) [][]int {
	var all [][]int
	for list := range w.Solutions() {
		all = append(all, list)
	}
	return all
}

// tells checks the solutions, one by one and in order.
func tells(t *testing.T, w *fretwork.Work, want ...[]int) {
	t.Helper()
	if got := solutions(w); !slices.EqualFunc(got, want, slices.Equal) {
		t.Fatalf("solutions %v, want %v", got, want)
	}
}

func counts(t *testing.T, w *fretwork.Work, most, want int, wantErrno api.Errno) {
	t.Helper()
	if got, e := w.Count(most); got != want || e != wantErrno {
		t.Fatalf("Count(%d) = %d, %d, want %d, %d", most, got, e, want, wantErrno)
	}
}

func TestP8Examples(t *testing.T) {
	eachWay(t, func(t *testing.T, way int) {
		w := made(t, 3, 3)
		answers(t, w.Post(api.Table{Vars: []int{0, 1}, Rows: [][]int{{1, 2}, {0, 1}}, Way: way}), api.OK)
		tells(t, w, []int{0, 1}, []int{1, 2})
		answers(t, w.Remove(1, 2), api.OK)
		tells(t, w, []int{0, 1})

		w = made(t, 2, 2, 2)
		for _, vars := range [][]int{{0, 1}, {1, 2}, {0, 2}} {
			differ := api.Table{Vars: vars, Rows: [][]int{{0, 0}, {1, 1}}, Not: true, Way: way}
			answers(t, w.Post(differ), api.OK)
		}
		tells(t, w)
		left(t, w, []int{0, 1}, []int{0, 1}, []int{0, 1})
		answers(t, w.Fix(0, 0), api.OK)
		tells(t, w)

		either := api.Table{Vars: []int{0, 1}, Rows: [][]int{{0, api.Any}, {api.Any, 1}}, Way: way}
		w = made(t, 3, 2)
		answers(t, w.Post(either), api.OK)
		tells(t, w, []int{0, 0}, []int{0, 1}, []int{1, 1}, []int{2, 1})
		answers(t, w.Fix(0, 2), api.OK)
		tells(t, w, []int{2, 1})

		either.Not = true
		w = made(t, 3, 2)
		answers(t, w.Post(either), api.OK)
		tells(t, w, []int{1, 0}, []int{2, 0})
	})
}

func TestP8WithoutTables(t *testing.T) {
	tells(t, made(t, 1), []int{0})
	tells(t, made(t, 3), []int{0}, []int{1}, []int{2})
	w := made(t, 2, 1, 3)
	answers(t, w.Remove(2, 1), api.OK)
	tells(t, w, []int{0, 0, 0}, []int{0, 0, 2}, []int{1, 0, 0}, []int{1, 0, 2})
	answers(t, w.Remove(0, 0), api.OK)
	tells(t, w, []int{1, 0, 0}, []int{1, 0, 2})
}

// The order is that of the variables, not of the tables' variables.
func TestP8Order(t *testing.T) {
	eachWay(t, func(t *testing.T, way int) {
		w := made(t, 3, 2, 3)
		answers(t, w.Post(api.Table{Vars: []int{2, 0}, Rows: [][]int{{2, 0}, {0, 2}, {1, 0}}, Way: way}), api.OK)
		answers(t, w.Post(api.Table{Vars: []int{2, 1}, Rows: [][]int{{2, 1}}, Not: true, Way: 3 - way}), api.OK)
		tells(t, w, []int{0, 0, 1}, []int{0, 0, 2}, []int{0, 1, 1}, []int{2, 0, 0}, []int{2, 1, 0})
	})
}

// All lists that there can be: each is greater than the one ahead of it.
func TestP8Most(t *testing.T) {
	w := made(t, 6, 6, 6, 6, 6, 6, 6, 6)
	for v := range api.MaxTables {
		answers(t, w.Post(api.Table{Vars: []int{v % 5, v%5 + 3, v%5 + 1, v%5 + 2}, Not: true, Way: 1 + v%2}), api.OK)
	}
	count := 0
	last := []int{-1}
	for list := range w.Solutions() {
		if slices.Compare(last, list) >= 0 {
			t.Fatalf("%v behind %v", list, last)
		}
		last = list
		count++
	}
	if count != 6*6*6*6*6*6*6*6 || !slices.Equal(last, []int{5, 5, 5, 5, 5, 5, 5, 5}) {
		t.Errorf("%d solutions, the last one %v", count, last)
	}
	counts(t, w, math.MaxInt, count, api.OK)
}

// solve looks at the solutions of all works, and that they are as they were.
func (c *climb) solve() {
	c.Helper()
	want := fitting(c.ref.tables, c.ref.domains)
	for _, w := range c.works {
		tells(c.T, w, want...)
		most := len(want) / 2
		counts(c.T, w, most, most, api.OK)
		counts(c.T, w, len(want)+1, len(want), api.OK)
	}
	c.check()
}

func TestP8AgainstReference(t *testing.T) {
	d := dice(8)
	some := 0
	for range 150 {
		sizes := make([]int, 2+d.below(3))
		for v := range sizes {
			sizes[v] = 2 + d.below(4)
		}
		c := climb{trial: newTrial(t, sizes)}
		for range 1 + d.below(4) {
			c.post(d.table(sizes), 1+d.below(2))
		}
		for range 20 {
			c.step(&d, sizes)
			c.solve()
			if n, _ := c.works[0].Count(2); n == 2 {
				some++
			}
		}
		for len(c.was) > 0 {
			c.pop()
			c.solve()
		}
	}
	if some < 1000 {
		t.Errorf("%d looks at more solutions than one: they test too little", some)
	}
}

func TestP8Dead(t *testing.T) {
	eachWay(t, func(t *testing.T, way int) {
		w := made(t, 2, 2)
		push(t, w)
		answers(t, w.Fix(1, 0), api.OK)
		answers(t, w.Fix(1, 1), api.OK)
		tells(t, w)
		counts(t, w, 5, 0, api.OK)
		if got := w.Look(); got != (api.Look{Vars: 2, Level: 1, Dead: true}) {
			t.Errorf("Look = %+v", got)
		}
		pop(t, w)
		tells(t, w, []int{0, 0}, []int{0, 1}, []int{1, 0}, []int{1, 1})
		answers(t, w.Post(api.Table{Vars: []int{1}, Way: way}), api.OK)
		tells(t, w)
		counts(t, w, 5, 0, api.OK)
		counts(t, w, 0, 0, api.OK)
		counts(t, w, -1, 0, api.ErrArg)
		left(t, w, nil, nil)
		answers(t, w.Fix(0, 0), api.ErrDead)
	})
}

// leave goes through the solutions up to the one with this number, ends there, and tells how many were yielded.
func leave(w *fretwork.Work, at int, how string) int {
	seen := 0
	done := make(chan int)
	// Goexit ends a goroutine: it must not be the test's own.
	go func() {
		defer close(done)
		defer func() { recover() }()
		for range w.Solutions() {
			seen++
			if seen < at {
				continue
			}
			switch how {
			case "panic":
				panic("enough")
			case "exit":
				runtime.Goexit()
			}
			break
		}
	}()
	<-done
	return seen
}

// At each of some levels one value is gone, and the going is left at each of its solutions.
func TestP8LeftAtEachSolution(t *testing.T) {
	eachWay(t, func(t *testing.T, way int) {
		for _, top := range []int{0, 1, api.MaxLevel} {
			w := made(t, 4, 4, 4)
			answers(t, w.Post(sums(way)), api.OK)
			without := api.Table{Vars: []int{2, 0}, Rows: [][]int{{3, 2}, {api.Any, 3}}, Not: true, Way: 3 - way}
			answers(t, w.Post(without), api.OK)
			first := domains(t, w)
			for range top {
				push(t, w)
				answers(t, w.Remove(0, 1), api.OK)
			}
			was, look, all := domains(t, w), w.Look(), solutions(w)
			if want := map[int]int{0: 8, 1: 5, api.MaxLevel: 5}[top]; len(all) != want {
				t.Fatalf("%d solutions at level %d, want %d", len(all), top, want)
			}
			for at := 1; at <= len(all); at++ {
				for _, how := range []string{"break", "panic", "exit"} {
					if got := leave(w, at, how); got != at {
						t.Fatalf("left at %d by %s, %d were yielded", at, how, got)
					}
					if got := w.Look(); got != look {
						t.Fatalf("Look behind %s at %d = %+v, want %+v", how, at, got, look)
					}
					left(t, w, was...)
					tells(t, w, all...)
				}
			}
			for range top {
				pop(t, w)
			}
			left(t, w, first...)
			answers(t, w.Pop(), api.ErrLevel)
			push(t, w)
			answers(t, w.Fix(2, 2), api.OK)
			tells(t, w, []int{0, 2, 2}, []int{1, 1, 2}, []int{2, 0, 2})
			pop(t, w)
		}
	})
}

func TestP8FalseEndsIt(t *testing.T) {
	for at := 1; at <= 4; at++ {
		seen := 0
		made(t, 2, 2).Solutions()(func([]int) bool {
			seen++
			return seen != at
		})
		if seen != at {
			t.Errorf("%d were yielded, but the answer was false at %d", seen, at)
		}
	}
}

func TestP8PanicGoesOn(t *testing.T) {
	w := made(t, 2, 2)
	defer func() {
		if got := recover(); got != "enough" {
			t.Errorf("the panic in yield became %v", got)
		}
		tells(t, w, []int{0, 0}, []int{0, 1}, []int{1, 0}, []int{1, 1})
	}()
	for range w.Solutions() {
		panic("enough")
	}
}

// Without anything to yield to nothing is gone through.
func TestP8NilYield(t *testing.T) {
	w := made(t, 2)
	w.Solutions()(nil)
	tells(t, w, []int{0}, []int{1})
}

// One answer of Solutions is gone through again and again: each time as the fretwork is then.
func TestP8EachGoingIsItsOwn(t *testing.T) {
	eachWay(t, func(t *testing.T, way int) {
		w := made(t, 2, 2)
		going := w.Solutions()
		goes := func(want ...[]int) {
			t.Helper()
			for range 2 {
				var got [][]int
				for list := range going {
					got = append(got, list)
				}
				if !slices.EqualFunc(got, want, slices.Equal) {
					t.Fatalf("solutions %v, want %v", got, want)
				}
				for range going {
					break
				}
			}
		}
		goes([]int{0, 0}, []int{0, 1}, []int{1, 0}, []int{1, 1})
		answers(t, w.Post(api.Table{Vars: []int{1, 0}, Rows: [][]int{{1, 1}}, Not: true, Way: way}), api.OK)
		goes([]int{0, 0}, []int{0, 1}, []int{1, 0})
		push(t, w)
		answers(t, w.Fix(0, 1), api.OK)
		goes([]int{1, 0})
		push(t, w)
		answers(t, w.Remove(1, 0), api.OK)
		goes()
		pop(t, w)
		goes([]int{1, 0})
		pop(t, w)
		goes([]int{0, 0}, []int{0, 1}, []int{1, 0})
	})
}

func TestP8AskedForInYield(t *testing.T) {
	w := made(t, 2, 2)
	var later []func(func([]int) bool)
	for range w.Solutions() {
		later = append(later, w.Solutions())
	}
	func() {
		defer func() { recover() }()
		for range w.Solutions() {
			later = append(later, w.Solutions())
			panic("enough")
		}
	}()
	answers(t, w.Remove(0, 0), api.OK)
	if len(later) != 5 {
		t.Fatalf("%d were asked for", len(later))
	}
	for _, going := range later {
		if got := slices.Collect(going); !slices.EqualFunc(got, [][]int{{1, 0}, {1, 1}}, slices.Equal) {
			t.Errorf("solutions %v", got)
		}
	}
}

func TestP9Count(t *testing.T) {
	eachWay(t, func(t *testing.T, way int) {
		w := made(t, 4, 4, 4)
		answers(t, w.Post(sums(way)), api.OK)
		check := func(all int) {
			t.Helper()
			was, look := domains(t, w), w.Look()
			for most := range all + 3 {
				counts(t, w, most, min(most, all), api.OK)
			}
			counts(t, w, math.MaxInt, all, api.OK)
			counts(t, w, -1, 0, api.ErrArg)
			counts(t, w, math.MinInt, 0, api.ErrArg)
			if got := w.Look(); got != look {
				t.Fatalf("Look = %+v, want %+v", got, look)
			}
			left(t, w, was...)
		}
		check(10)
		push(t, w)
		answers(t, w.Remove(2, 3), api.OK)
		check(6)
		push(t, w)
		answers(t, w.Fix(0, 2), api.OK)
		check(1)
		answers(t, w.Remove(0, 2), api.OK)
		check(0)
		pop(t, w)
		check(6)
		pop(t, w)
		check(10)
	})
}

// throwSizes throws at most as many sizes as there may be, with few enough lists to try them all.
func throwSizes(d *dice) []int {
	sizes := []int{1 + d.below(api.MaxSize)}
	lists := sizes[0]
	for range d.below(api.MaxVars) {
		size := 1 + d.below(api.MaxSize)
		if lists*size <= 600 {
			sizes = append(sizes, size)
			lists *= size
		}
	}
	return sizes
}

func TestP10NoSolutionIsLost(t *testing.T) {
	d := dice(10)
	some, spare := 0, 0
	for range 600 {
		sizes := throwSizes(&d)
		full := newReference(sizes...).domains
		tables := throwTables(&d, sizes)
		want := fitting(tables, full)
		if len(want) > 0 {
			some++
		}
		for range 3 {
			w := made(t, sizes...)
			postAll(t, &d, w, tables)
			tells(t, w, want...)
			if hasSpare(t, w, want) {
				spare++
			}
		}
	}
	if some < 200 || spare < 20 {
		t.Errorf("%d of 600 have solutions, %d works a value without one: they test too little", some, spare)
	}
}

// hasSpare checks that what has a solution is left, and tells whether something is left that has none.
func hasSpare(t *testing.T, w *fretwork.Work, all [][]int) bool {
	t.Helper()
	spare := false
	for v, domain := range domains(t, w) {
		for _, list := range all {
			if !slices.Contains(domain, list[v]) {
				t.Fatalf("%v has value %d for %d, out of %v", list, list[v], v, domain)
			}
		}
		for _, value := range domain {
			spare = spare || !slices.ContainsFunc(all, func(list []int) bool { return list[v] == value })
		}
	}
	return spare
}
