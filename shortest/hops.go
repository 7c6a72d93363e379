package shortest

import (
	"container/heap"

	"viator/api"
)

// hop is the first hop of a way to a goal: it leads from a node to the next one, along a road. Its length is that of all of the way.
type hop struct{ node, next, road, length int }

// queue is a heap of hops: first those of shorter ways, then those to lesser nodes, then those along roads with lesser ids.
type queue []hop

func (q queue) Len() int { return len(q) }

func (q queue) Less(i, j int) bool {
	g, h := &q[i], &q[j]
	if g.length != h.length {
		return g.length < h.length
	}
	return g.next < h.next || g.next == h.next && g.road < h.road
}

func (q queue) Swap(i, j int) { q[i], q[j] = q[j], q[i] }

func (q *queue) Push(x any) { *q = append(*q, x.(hop)) }

func (q *queue) Pop() any {
	last := len(*q) - 1
	h := (*q)[last]
	*q = (*q)[:last]
	return h
}

// approaches returns, for each node, the ways to it along a single road, also along roads that are not those of hops.
func approaches(n api.Network) map[int][]hop {
	into := map[int][]hop{}
	for _, r := range n.Roads {
		into[r.To] = append(into[r.To], hop{r.From, r.To, r.Id, r.Length})
		if !r.OneWay {
			into[r.From] = append(into[r.From], hop{r.To, r.From, r.Id, r.Length})
		}
	}
	return into
}

// hopsTo returns the first hops of the least routes to a goal, by the nodes where they begin, in a network with these approaches. That of the goal leads nowhere.
func hopsTo(goal int, into map[int][]hop) map[int]hop {
	first := map[int]hop{}
	waiting := &queue{{node: goal}}
	for waiting.Len() > 0 {
		h := heap.Pop(waiting).(hop)
		if _, done := first[h.node]; done {
			continue
		}
		// Lengths are positive: all further nodes of the least routes from here were taken before, so that the first hops of all of these routes were waiting, and this is the best one.
		first[h.node] = h
		for _, before := range into[h.node] {
			if _, done := first[before.node]; !done {
				before.length += h.length
				heap.Push(waiting, before)
			}
		}
	}
	return first
}

// route returns the least route from a node to the goal of first hops, and whether there is one.
func route(first map[int]hop, node, goal int) (Route, bool) {
	h, found := first[node]
	if !found {
		return Route{}, false
	}
	r := Route{Nodes: []int{node}, Length: h.length}
	for ; h.node != goal; h = first[h.next] {
		r.Nodes = append(r.Nodes, h.next)
		r.Roads = append(r.Roads, h.road)
	}
	return r, true
}
