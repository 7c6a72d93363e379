package clock

import (
	"slices"

	"viator/api"
)

// search looks for the chains with the least sums within a component.
type search struct {
	exchanges []api.Exchange
	leaving   map[int][]int           // the exchanges from each device, by their indices
	places    map[int]int             // of the devices in the list of the component, which is not longer than the array
	sums      map[int]int             // the least sums found, by the devices to which the chains lead
	last      [api.MaxReports + 1]int // the last exchanges of these chains, by the places of the devices
}

func newSearch(l []api.Exchange, devices []int) *search {
	s := &search{exchanges: l, leaving: map[int][]int{}, places: map[int]int{}, sums: map[int]int{}}
	for k, x := range l {
		s.leaving[x.From] = append(s.leaving[x.From], k)
	}
	for place, d := range devices {
		s.places[d] = place
	}
	return s
}

// relax finds the least sums of the chains that begin at some devices, in as many rounds as the component has devices. It returns the devices whose sums became less in the last round; there are some exactly if a chain from there leads into a contradiction.
func (s *search) relax(starts []int) []int {
	for _, d := range starts {
		s.sums[d] = 0
	}
	late := starts
	for range s.places {
		late = s.round(late)
	}
	return late
}

// round goes one exchange further from some devices, and returns those whose sums became less.
func (s *search) round(devices []int) []int {
	var late []int
	for _, d := range devices {
		for _, k := range s.leaving[d] {
			x := s.exchanges[k]
			sum := s.sums[d] + Weight(x)
			if least, found := s.sums[x.To]; !found || sum < least {
				s.sums[x.To] = sum
				s.last[s.places[x.To]] = k
				late = append(late, x.To)
			}
		}
	}
	slices.Sort(late)
	return slices.Compact(late)
}

// before returns the device from which the last exchange of the chain to a device comes.
func (s *search) before(d int) int { return s.exchanges[s.last[s.places[d]]].From }

// back returns the exchanges on the way back from a device until the first time that it comes to another one, or again to the same; they are in the order of the chain.
func (s *search) back(d, goal int) []int {
	var chain []int
	for range s.places { // more are never needed; but where numbers overflow, which Check does not permit, the way back may have no end
		chain = append(chain, s.last[s.places[d]])
		d = s.before(d)
		if d == goal {
			break
		}
	}
	slices.Reverse(chain)
	return chain
}
