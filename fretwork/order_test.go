package fretwork_test

import (
	"slices"
	"testing"

	"fretwork/api"
	"fretwork/fretwork"
)

// shuffled is the list in an order that is thrown.
func shuffled[E any](d *dice, list []E) []E {
	list = slices.Clone(list)
	for i := range list {
		j := d.below(i + 1)
		list[i], list[j] = list[j], list[i]
	}
	return list
}

// postAll posts the tables in an order and by ways that are thrown.
func postAll(t *testing.T, d *dice, w *fretwork.Work, tables []api.Table) {
	t.Helper()
	for _, table := range shuffled(d, tables) {
		table.Way = 1 + d.below(2)
		want := api.OK
		if w.Look().Dead {
			want = api.ErrDead
		}
		answers(t, w.Post(table), want)
	}
}

// removeAll removes the values, each of them a pair of its variable and itself, in an order that is thrown.
func removeAll(t *testing.T, d *dice, w *fretwork.Work, pairs [][2]int) {
	t.Helper()
	for _, pair := range shuffled(d, pairs) {
		want := api.OK
		if w.Look().Dead {
			want = api.ErrDead
		}
		answers(t, w.Remove(pair[0], pair[1]), want)
	}
}

func throwTables(d *dice, sizes []int) []api.Table {
	var list []api.Table
	for range 2 + d.below(3) {
		list = append(list, d.table(sizes))
	}
	return list
}

func throwPairs(d *dice, sizes []int) [][2]int {
	var pairs [][2]int
	for range 2 + d.below(4) {
		v := d.below(len(sizes))
		pairs = append(pairs, [2]int{v, d.below(sizes[v])})
	}
	return pairs
}

func TestP11OrdersAndWays(t *testing.T) {
	d := dice(11)
	alive, narrowed := 0, 0
	for range 600 {
		sizes := make([]int, 2+d.below(4))
		for v := range sizes {
			sizes[v] = 2 + d.below(api.MaxSize-1)
		}
		tables, pairs := throwTables(&d, sizes), throwPairs(&d, sizes)
		ref := newReference(sizes...)
		for _, table := range tables {
			ref.post(table)
		}
		posted := ref.copied()
		for _, pair := range pairs {
			ref.remove(pair[0], pair[1])
		}
		if !ref.dead() {
			alive++
			if !slices.EqualFunc(posted, ref.domains, slices.Equal) {
				narrowed++
			}
		}
		for range 6 {
			w := made(t, sizes...)
			postAll(t, &d, w, tables)
			left(t, w, posted...)
			push(t, w)
			removeAll(t, &d, w, pairs)
			left(t, w, ref.domains...)
			pop(t, w)
			left(t, w, posted...)
			removeAll(t, &d, w, pairs)
			left(t, w, ref.domains...)

			w = made(t, sizes...)
			removeAll(t, &d, w, pairs)
			postAll(t, &d, w, tables)
			left(t, w, ref.domains...)
		}
	}
	if alive < 200 || narrowed < 150 {
		t.Errorf("%d of 600 stay alive, and %d are narrowed by Remove: they test too little", alive, narrowed)
	}
}

// All orders of three tables by all ways, and of the values that are removed behind them.
func TestP11AllOrders(t *testing.T) {
	var next, other [][]int
	for value := range 4 {
		next = append(next, []int{value, (value + 1) % 4}, []int{value, value})
		other = append(other, []int{value, value})
	}
	tables := []api.Table{
		{Vars: []int{0, 1}, Rows: next},
		{Vars: []int{2, 1}, Rows: next},
		{Vars: []int{0, 2}, Rows: append(other, []int{api.Any, 3}), Not: true},
	}
	orders := [][]int{{0, 1, 2}, {0, 2, 1}, {1, 0, 2}, {1, 2, 0}, {2, 0, 1}, {2, 1, 0}}
	gone := [][2]int{{1, 3}, {0, 0}, {2, 1}}
	for _, posts := range orders {
		for ways := range 8 {
			for _, removes := range orders {
				w := made(t, 4, 4, 4)
				for _, k := range posts {
					table := tables[k]
					table.Way = 1 + ways>>k&1
					answers(t, w.Post(table), api.OK)
				}
				left(t, w, []int{0, 1, 2, 3}, []int{0, 1, 2, 3}, []int{0, 1, 2})
				for _, k := range removes {
					answers(t, w.Remove(gone[k][0], gone[k][1]), api.OK)
				}
				left(t, w, []int{1, 2, 3}, []int{0, 1, 2}, []int{0, 2})
			}
		}
	}
}
