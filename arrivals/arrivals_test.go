package arrivals_test

import (
	"testing"

	"viator/api"
	"viator/arrivals"
	"viator/draws"
	"viator/intake"
)

// Histories have what their description promises.
func TestHistories(t *testing.T) {
	counts := map[string]int{}
	for _, history := range arrivals.Histories(draws.From(3), 400) {
		x := intake.New()
		for _, b := range history {
			added, e := x.Add(b)
			if e != api.OK || len(history) > 5 || len(b.Reports) > 6 {
				t.Fatalf("a history of %d batches has one with %d reports, and the error %d", len(history), len(b.Reports), e)
			}
			if added < len(b.Reports)+len(b.Exchanges) {
				counts["repetitions"]++
			}
			for _, r := range b.Reports {
				if r.Cancel {
					counts["withdrawals"]++
				}
			}
		}
		for id := 1; id <= 3; id++ {
			for _, r := range x.Untimed(id) {
				counts["reports without a time, of the device "+string(rune('0'+r.Device))]++
			}
			for _, r := range x.Of(id) {
				counts["reports with a time, of the device "+string(rune('0'+r.Report.Device))]++
			}
		}
	}
	for _, what := range []string{"repetitions", "withdrawals", "reports with a time, of the device 0", "reports with a time, of the device 1", "reports with a time, of the device 2", "reports without a time, of the device 1", "reports without a time, of the device 2"} {
		if counts[what] < 20 {
			t.Errorf("%d %s", counts[what], what)
		}
	}
}
