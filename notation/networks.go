package notation

import (
	"strconv"
	"strings"

	"viator/api"
	"viator/lists"
	"viator/rational"
)

// Network returns the network of a string like "1 0 0, 2 3 4 | 5 1-2 5, 6 2>1 7 3": the ids of nodes with their coordinates, and those of roads with both nodes (between which > stands if the road is OneWay), the Length, and the Limit, which can be left out if it is 1. ShowNetwork returns such a string.
func Network(s string) api.Network {
	left, right, _ := strings.Cut(s, "|")
	return api.Network{Nodes: records(left, node), Roads: records(right, road)}
}

func node(words []string) api.Node {
	return api.Node{Id: number(words[0]), X: number(words[1]), Y: number(words[2])}
}

func road(words []string) api.Road {
	words = append(words, "1")
	ends, oneWay := strings.ReplaceAll(words[1], ">", "-"), strings.Contains(words[1], ">")
	from, to, _ := strings.Cut(ends, "-")
	return api.Road{Id: number(words[0]), From: number(from), To: number(to), Length: number(words[2]), Limit: number(words[3]), OneWay: oneWay}
}

// records returns what is made of the words between the commas of a string.
func records[A any](s string, record func(words []string) A) []A {
	var l []A
	for _, part := range strings.Split(s, ",") {
		if words := strings.Fields(part); len(words) > 0 {
			l = append(l, record(words))
		}
	}
	return l
}

func number(word string) int {
	n, err := strconv.Atoi(word)
	if err != nil {
		panic(word)
	}
	return n
}

func ShowNetwork(n api.Network) string {
	nodes := lists.Convert(n.Nodes, func(v api.Node) string {
		return strconv.Itoa(v.Id) + " " + strconv.Itoa(v.X) + " " + strconv.Itoa(v.Y)
	})
	roads := lists.Convert(n.Roads, showRoad)
	return strings.TrimSpace(strings.Join(nodes, ", ") + " | " + strings.Join(roads, ", "))
}

func showRoad(r api.Road) string {
	between := "-"
	if r.OneWay {
		between = ">"
	}
	s := strconv.Itoa(r.Id) + " " + strconv.Itoa(r.From) + between + strconv.Itoa(r.To) + " " + strconv.Itoa(r.Length)
	if r.Limit != 1 {
		s += " " + strconv.Itoa(r.Limit)
	}
	return s
}

// Place returns the position of a string like "5@1/2", which is on the road 5 at the offset 1/2, and ShowPlace such a string.
func Place(s string) api.Place {
	id, offset, _ := strings.Cut(s, "@")
	return api.Place{Road: number(id), Offset: Rat(offset)}
}

func ShowPlace(p api.Place) string {
	return strconv.Itoa(p.Road) + "@" + rational.Print(p.Offset)
}
