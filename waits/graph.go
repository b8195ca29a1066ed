package waits

import (
	"cmp"
	"math"
	"slices"
)

// nowhere is how far it is to a place that no way leads to.
const nowhere = math.MaxInt

// graph is edges by places: a ticket's place is how many lesser ones stand in the edges, so the least place is the least ticket's.
type graph struct {
	tickets []uint64 // by their places
	next    [][]int  // of each place the places of those that it waits for: rising, each once
}

// graphOf tells edges as a graph: neither their order nor doubles, Why or Block are to be seen in it.
func graphOf(edges []Edge) graph {
	tickets := make([]uint64, 0, 2*len(edges))
	for _, e := range edges {
		tickets = append(tickets, e.From, e.To)
	}
	slices.Sort(tickets)
	g := graph{tickets: slices.Compact(tickets)}
	g.next = make([][]int, len(g.tickets))
	for _, e := range edges {
		from := g.place(e.From)
		g.next[from] = append(g.next[from], g.place(e.To))
	}
	for from, list := range g.next {
		slices.Sort(list)
		g.next[from] = slices.Compact(list)
	}
	return g
}

// place tells the place of a ticket that stands in an edge.
func (g graph) place(ticket uint64) int {
	place, _ := slices.BinarySearch(g.tickets, ticket)
	return place
}

// settled tells all places in the order in which a walk along edges is done with them, which goes as deep as it can: where there is no ring, each stands behind all that it waits for.
func (g graph) settled() []int {
	var order []int
	met := make([]bool, len(g.next))
	gone := make([]int, len(g.next)) // along how many of a place's edges the walk has gone
	for root := range g.next {
		if met[root] {
			continue
		}
		met[root] = true
		// The way stands in a list, not in calls: a chain may be longer than any stack.
		for way := []int{root}; len(way) > 0; {
			at := way[len(way)-1]
			if gone[at] == len(g.next[at]) {
				order = append(order, at)
				way = way[:len(way)-1]
				continue
			}
			to := g.next[at][gone[at]]
			gone[at]++
			if !met[to] {
				met[to] = true
				way = append(way, to)
			}
		}
	}
	return order
}

// leastOnRing tells the least place that stands on a ring, if there is one, by the order in which the places are settled.
func (g graph) leastOnRing(order []int) (int, bool) {
	least := nowhere
	back, far := g.turned(), g.unreached()
	for _, place := range slices.Backward(order) {
		if far[place] != nowhere {
			continue
		}
		// Of those that are left, whoever leads to the one that was settled last is also led to by it: else it would have been settled later.
		both := back.flood(place, far)
		if len(both) > 1 || slices.Contains(g.next[place], place) {
			least = min(least, slices.Min(both))
		}
	}
	if least == nowhere {
		return 0, false
	}
	return least, true
}

// turned tells the graph with each edge the other way round.
func (g graph) turned() graph {
	back := graph{tickets: g.tickets, next: make([][]int, len(g.next))}
	for from, list := range g.next {
		for _, to := range list {
			back.next[to] = append(back.next[to], from)
		}
	}
	return back
}

// unreached tells of each place that it has not been reached.
func (g graph) unreached() []int {
	return slices.Repeat([]int{nowhere}, len(g.next))
}

// flood goes from a place to all that have not been reached, the nearer ones first. It tells them, that place too, and notes how far they are.
func (g graph) flood(root int, far []int) []int {
	far[root] = 0
	reached := []int{root}
	for i := 0; i < len(reached); i++ {
		at := reached[i]
		for _, to := range g.next[at] {
			if far[to] == nowhere {
				far[to] = far[at] + 1
				reached = append(reached, to)
			}
		}
	}
	return reached
}

// nearest tells of those that a place waits for the one that is least far, of equally far ones the least. There must be one.
func (g graph) nearest(place int, far []int) int {
	return slices.MinFunc(g.next[place], func(a, b int) int { return cmp.Compare(far[a], far[b]) })
}
