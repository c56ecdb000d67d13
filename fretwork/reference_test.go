package fretwork_test

import (
	"slices"

	"fretwork/api"
)

// reference works out closures straight by the words of the document: all lists of values, one by one.
type reference struct {
	domains [][]int
	tables  []api.Table
}

func newReference(sizes ...int) *reference {
	r := &reference{}
	for _, size := range sizes {
		var domain []int
		for value := range size {
			domain = append(domain, value)
		}
		r.domains = append(r.domains, domain)
	}
	return r
}

func (r *reference) post(t api.Table) {
	r.tables = append(r.tables, t)
	r.close()
}

func (r *reference) fix(v, value int) {
	r.domains[v] = slices.DeleteFunc(r.domains[v], func(x int) bool { return x != value })
	r.close()
}

func (r *reference) remove(v, value int) {
	r.domains[v] = slices.DeleteFunc(r.domains[v], func(x int) bool { return x == value })
	r.close()
}

// copied is needed where the domains are held on to: fix and remove write into them.
func (r *reference) copied() [][]int {
	var all [][]int
	for _, domain := range r.domains {
		all = append(all, slices.Clone(domain))
	}
	return all
}

func (r *reference) dead() bool {
	return slices.ContainsFunc(r.domains, func(domain []int) bool { return len(domain) == 0 })
}

func (r *reference) close() {
	for again := true; again && !r.dead(); {
		again = false
		for _, t := range r.tables {
			for i, v := range t.Vars {
				before := len(r.domains[v])
				r.domains[v] = slices.DeleteFunc(slices.Clone(r.domains[v]), func(value int) bool {
					return !r.supported(t, i, value, nil)
				})
				again = again || len(r.domains[v]) != before
			}
		}
	}
	if r.dead() {
		r.domains = make([][]int, len(r.domains))
	}
}

// supported tries every list that begins with list and has value at place.
func (r *reference) supported(t api.Table, place, value int, list []int) bool {
	i := len(list)
	if i == len(t.Vars) {
		return allows(t, list)
	}
	for _, x := range r.domains[t.Vars[i]] {
		if (i != place || x == value) && r.supported(t, place, value, append(slices.Clone(list), x)) {
			return true
		}
	}
	return false
}

func allows(t api.Table, list []int) bool {
	covered := slices.ContainsFunc(t.Rows, func(row []int) bool {
		for i, entry := range row {
			if entry != api.Any && entry != list[i] {
				return false
			}
		}
		return true
	})
	return covered != t.Not
}

// fitting has the lists out of domains that begin with list and that all tables allow, in order.
func fitting(tables []api.Table, domains [][]int, list ...int) [][]int {
	if len(list) == len(domains) {
		if allAllow(tables, list) {
			return [][]int{list}
		}
		return nil
	}
	var all [][]int
	for _, value := range domains[len(list)] {
		all = append(all, fitting(tables, domains, append(slices.Clone(list), value)...)...)
	}
	return all
}

func allAllow(tables []api.Table, list []int) bool {
	for _, t := range tables {
		var part []int
		for _, v := range t.Vars {
			part = append(part, list[v])
		}
		if !allows(t, part) {
			return false
		}
	}
	return true
}

// dice are numbers that look thrown and are the same in every run.
type dice uint64

func (d *dice) below(n int) int {
	*d = *d*6364136223846793005 + 1442695040888963407
	return int(uint64(*d)>>33) % n
}

// table throws a table of variables of these sizes; Way is left for the caller.
func (d *dice) table(sizes []int) api.Table {
	t := api.Table{Not: d.below(2) == 0}
	order := make([]int, len(sizes))
	for i := range order {
		order[i] = i
		j := d.below(i + 1)
		order[i], order[j] = order[j], order[i]
	}
	t.Vars = order[:1+d.below(min(len(order), api.MaxArity))]
	count := []int{12, 20, 40, api.MaxRows}[d.below(4)]
	if t.Not {
		count = []int{0, 1, 3, 8, 20, 40, api.MaxRows}[d.below(7)]
	} else if d.below(20) == 0 {
		count = d.below(3)
	}
	for range count {
		var row []int
		for _, v := range t.Vars {
			entry := d.below(sizes[v])
			if d.below(8) == 0 {
				entry = api.Any
			}
			row = append(row, entry)
		}
		t.Rows = append(t.Rows, row)
	}
	return t
}
