package tables

import (
	"fretwork/api"
	"fretwork/values"
)

// Numbers of nodes that have no entry of their own.
const (
	nothing = iota // no allowed list goes on here
	end            // an allowed list ends here
	inner          // the first number of a node with an entry
)

// node tells for each value of its entry the number of the node that has the rest of the lists.
type node struct {
	next [api.MaxSize]int
}

// diagram is a table of Way 2. Its nodes are never written into: what is left after a narrowing is a new list of them.
type diagram struct {
	scope
	nodes []node
	root  int
}

func newDiagram(t api.Table, domains values.Domains) *diagram {
	b := newBuilder()
	root := b.build(t, t.Rows, 0, &domains)
	return &diagram{scope: newScope(t.Vars), nodes: b.nodes, root: root}
}

// builder gives like nodes one number.
type builder struct {
	nodes   []node
	numbers map[node]int
}

func newBuilder() *builder {
	return &builder{nodes: make([]node, inner), numbers: map[node]int{}}
}

func (b *builder) number(n node) int {
	if n == (node{}) {
		return nothing
	}
	if known, ok := b.numbers[n]; ok {
		return known
	}
	b.numbers[n] = len(b.nodes)
	b.nodes = append(b.nodes, n)
	return b.numbers[n]
}

// build numbers the node of what t allows from entry i on. The rows are those that bear all values chosen ahead of i.
func (b *builder) build(t api.Table, rows [][]int, i int, domains *values.Domains) int {
	if len(rows) == 0 && !t.Not {
		return nothing
	}
	if i == len(t.Vars) {
		if t.Not && len(rows) > 0 {
			return nothing
		}
		return end
	}
	var n node
	for value := range domains[t.Vars[i]].Each {
		n.next[value] = b.build(t, bearing(rows, i, value), i+1, domains)
	}
	return b.number(n)
}

func bearing(rows [][]int, i, value int) [][]int {
	var some [][]int
	for _, row := range rows {
		if bears(row[i], value) {
			some = append(some, row)
		}
	}
	return some
}

// Narrow is a method of Table.
func (d *diagram) Narrow(domains values.Domains) values.Domains {
	c := cutter{builder: newBuilder(), from: d, domains: domains, moved: map[int]int{}}
	root := c.cut(d.root, 0)
	d.nodes, d.root = c.nodes, root
	return d.replaced(domains, c.supported)
}

// Allows is a method of Table.
func (d *diagram) Allows(list []int) bool {
	at := d.root
	for _, v := range d.vars {
		// The node of nothing leads to nothing again.
		at = d.nodes[at].next[list[v]]
	}
	return at == end
}

// State is a method of Table.
func (d *diagram) State() State { return State{nodes: d.nodes, root: d.root} }

// cutter builds what the domains leave of a diagram.
type cutter struct {
	*builder
	from      *diagram
	domains   values.Domains
	supported values.Domains
	moved     map[int]int // from an old number to the new one
}

// cut numbers what is left of an old node at entry i, and marks the values that lead on from it.
func (c *cutter) cut(old, i int) int {
	if old < inner {
		return old
	}
	if known, ok := c.moved[old]; ok {
		return known
	}
	var n node
	v := c.from.vars[i]
	for value := range c.domains[v].Each {
		n.next[value] = c.cut(c.from.nodes[old].next[value], i+1)
		if n.next[value] != nothing {
			c.supported[v] |= values.One(value)
		}
	}
	c.moved[old] = c.number(n)
	return c.moved[old]
}
