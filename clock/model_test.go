package clock_test

import (
	"slices"

	"viator/api"
	"viator/draws"
	"viator/notation"
)

// The strings of the tests are those of package notation.
var (
	exchanges = notation.Exchanges
	show      = notation.ShowExchanges
)

// weight returns how much greater the offset of To can be than that of From.
func weight(x api.Exchange) int { return x.Received - x.Sent - x.Least }

// paths calls a function with each chain from a device that comes to no device twice, but perhaps to the first one at its end, and with its sum. The chain is valid only during the call.
func paths(l []api.Exchange, from int, f func(chain []int, to, sum int)) {
	var extend func(chain []int, passed []int, sum int)
	extend = func(chain []int, passed []int, sum int) {
		last := passed[len(passed)-1]
		f(chain, last, sum)
		if len(chain) > 0 && last == from {
			return
		}
		for k, x := range l {
			if x.From == last && (x.To == from || !slices.Contains(passed, x.To)) {
				extend(append(chain, k), append(passed, x.To), sum+weight(x))
			}
		}
	}
	extend(nil, []int{from}, 0)
}

// least returns the least sum of the chains from a device to another one, and whether there is one, if there are no contradictions.
func least(l []api.Exchange, from, to int) (sum int, found bool) {
	paths(l, from, func(_ []int, end, s int) {
		if end == to && (!found || s < sum) {
			sum, found = s, true
		}
	})
	return sum, found
}

// component returns the devices that are connected with one: those of each exchange of which one device is connected already.
func component(l []api.Exchange, device int) []int {
	list := []int{device}
	for range l {
		for _, x := range l {
			for _, ends := range [][2]int{{x.From, x.To}, {x.To, x.From}} {
				if slices.Contains(list, ends[0]) && !slices.Contains(list, ends[1]) {
					list = append(list, ends[1])
				}
			}
		}
	}
	slices.Sort(list)
	return list
}

// contradicted tells whether the component of a device has a contradiction: if there is one, then there is one that comes to no device twice.
func contradicted(l []api.Exchange, device int) bool {
	negative := false
	for _, d := range component(l, device) {
		paths(l, d, func(chain []int, to, sum int) {
			negative = negative || len(chain) > 0 && to == d && sum < 0
		})
	}
	return negative
}

// bounds returns the bounds of the offset of a device by the words of the chapter, or their error.
func bounds(l []api.Exchange, device int) (low, high int, e api.Errno) {
	occurs := slices.ContainsFunc(l, func(x api.Exchange) bool { return x.From == device || x.To == device })
	up, leads := least(l, 0, device)
	down, returns := least(l, device, 0)
	switch {
	case device < 0 || device > 1<<30:
		return 0, 0, api.ErrId
	case device == 0 || !occurs:
		return 0, 0, api.OK
	case contradicted(l, device):
		return 0, 0, api.ErrInfeasible
	case !leads || !returns:
		return 0, 0, api.ErrUnreachable
	}
	return -down, up, api.OK
}

// follow returns the device to which a chain leads from another one, and its sum; false if it is no chain.
func follow(l []api.Exchange, chain []int, from int) (to, sum int, valid bool) {
	for _, k := range chain {
		if l[k].From != from {
			return 0, 0, false
		}
		from, sum = l[k].To, sum+weight(l[k])
	}
	return from, sum, true
}

// devices are those of the lists that systems returns, and others.
var devices = []int{0, 1, 2, 3, 4, 5, 9, 1 << 30, -1, 1<<30 + 1}

// systems returns lists with up to 11 exchanges. Most of them come from clocks with some offsets; of the others, many contradict one another.
func systems() [][]api.Exchange {
	draw := draws.From(3)
	all := [][]api.Exchange{nil, {}}
	for k := range 1200 {
		var l []api.Exchange
		var offsets [6]int
		for d := range 5 {
			offsets[d+1] = draw(12) - 6
		}
		used := 2 + draw(5)
		for range draw(10 + k%3) {
			from := draw(used)
			to := (from + 1 + draw(used-1)) % used
			w := offsets[to] - offsets[from] + draw(4)
			if k%3 == 2 {
				w -= 1 + draw(2)
			}
			x := api.Exchange{From: from, To: to, Sent: 20 + draw(5), Least: draw(5)}
			x.Received = w + x.Sent + x.Least
			l = append(l, x)
		}
		all = append(all, l)
	}
	return all
}
