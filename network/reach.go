package network

import (
	"maps"
	"slices"

	"viator/api"
)

// Reach returns the nodes that can be reached from a node, and Groups the groups of nodes that can be reached from one another.
func Reach(n api.Network, node int) []int {
	if _, found := Node(n, node); !found {
		return nil
	}
	next := followers(n)
	reached := map[int]bool{}
	var visit func(node int)
	visit = func(node int) {
		if reached[node] {
			return
		}
		reached[node] = true
		for _, other := range next[node] {
			visit(other)
		}
	}
	visit(node)
	return slices.Sorted(maps.Keys(reached))
}

// followers returns, for each node, those to which a road leads from it.
func followers(n api.Network) map[int][]int {
	next := map[int][]int{}
	for _, r := range n.Roads {
		next[r.From] = append(next[r.From], r.To)
		if !r.OneWay {
			next[r.To] = append(next[r.To], r.From)
		}
	}
	return next
}

func Groups(n api.Network) [][]int {
	next := followers(n)
	number := map[int]int{} // of the nodes that were found, from 1 on
	var stack []int         // of those that are in no group yet
	var groups [][]int
	// It returns the least number on the stack that was seen from the node, or from nodes that were found behind it.
	var visit func(node int) int
	visit = func(node int) int {
		place := len(stack)
		stack = append(stack, node)
		number[node] = len(number) + 1
		least := number[node]
		for _, other := range next[node] {
			if number[other] == 0 {
				least = min(least, visit(other))
			} else if slices.Contains(stack, other) {
				least = min(least, number[other])
			}
		}
		if least == number[node] { // no node before it can be reached
			groups = append(groups, slices.Sorted(slices.Values(stack[place:])))
			stack = stack[:place]
		}
		return least
	}
	for _, node := range n.Nodes {
		if number[node.Id] == 0 {
			visit(node.Id)
		}
	}
	slices.SortFunc(groups, slices.Compare)
	return groups
}
