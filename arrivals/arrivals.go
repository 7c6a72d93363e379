// Package arrivals contains histories of reports and exchanges that arrive in batches. It is there for tests.
package arrivals

import "viator/api"

// Histories returns histories of up to 5 batches with up to 6 reports each, of the objects 1 to 3. Some reports are corrected, withdrawn or repeated by later ones, and many do not fit the others. Those of the devices 1 and 2 get other times, or lose them, by the exchanges, some of which contradict each other.
func Histories(draw func(below int) int, number int) [][]api.Batch {
	var all [][]api.Batch
	for range number {
		var history []api.Batch
		var known []api.Report
		for range draw(6) {
			b := batch(draw, known)
			known = append(known, b.Reports...)
			history = append(history, b)
		}
		all = append(all, history)
	}
	return all
}

// batch returns a batch that repeats some of the reports that are known.
func batch(draw func(below int) int, known []api.Report) api.Batch {
	var b api.Batch
	for range draw(7) {
		r := api.Report{Object: 1 + draw(3), Seq: draw(9), X: draw(9), Y: draw(2), Cancel: draw(9) == 0}
		r.Time = 10 + 3*r.Seq + draw(3)
		if draw(4) == 0 {
			r.Device, r.Version = 1+draw(2), 1
		}
		if len(known) > 0 && draw(5) == 0 {
			r = known[draw(len(known))]
		}
		b.Reports = append(b.Reports, r)
	}
	for range draw(3) {
		device := 1 + draw(20)/19
		there := api.Exchange{To: device, Received: 3 + draw(4)}
		back := api.Exchange{From: device, Sent: 4 - draw(4)}
		b.Exchanges = append(b.Exchanges, []api.Exchange{there, back}[draw(2)])
	}
	return b
}
