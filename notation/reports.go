package notation

import (
	"strconv"
	"strings"

	"viator/api"
	"viator/intake"
	"viator/lists"
	"viator/rational"
)

// Reports returns the reports of a string like "1.5, 1.6 v2 t7 x-3 y4 d8 c": the Object and the Seq, and then Version, Time, X, Y, Device and Cancel, which can be left out if they are zero. ShowReports returns such a string.
func Reports(s string) []api.Report { return records(s, reportOf) }

// Report returns the only report of such a string.
func Report(s string) api.Report { return reportOf(strings.Fields(s)) }

func reportOf(words []string) api.Report {
	object, seq, _ := strings.Cut(words[0], ".")
	r := api.Report{Object: number(object), Seq: number(seq)}
	for _, word := range words[1:] {
		switch name, value := word[0], word[1:]; name {
		case 'v':
			r.Version = number(value)
		case 't':
			r.Time = number(value)
		case 'x':
			r.X = number(value)
		case 'y':
			r.Y = number(value)
		case 'd':
			r.Device = number(value)
		case 'c':
			r.Cancel = true
		default:
			panic(word)
		}
	}
	return r
}

func ShowReports(l []api.Report) string { return strings.Join(lists.Convert(l, showReport), ", ") }

func showReport(r api.Report) string {
	s := strconv.Itoa(r.Object) + "." + strconv.Itoa(r.Seq)
	for k, value := range []int{r.Version, r.Time, r.X, r.Y, r.Device} {
		if value != 0 {
			s += " " + "vtxyd"[k:k+1] + strconv.Itoa(value)
		}
	}
	if r.Cancel {
		s += " c"
	}
	return s
}

// Timed returns the reports of such a string in which the time by the clock of the server, like "51/2", stands before each report, and ShowTimed such a string.
func Timed(s string) []intake.Timed {
	return records(s, func(words []string) intake.Timed {
		return intake.Timed{T: Rat(words[0]), Report: reportOf(words[1:])}
	})
}

func ShowTimed(l []intake.Timed) string {
	return strings.Join(lists.Convert(l, func(r intake.Timed) string {
		return rational.Print(r.T) + " " + showReport(r.Report)
	}), ", ")
}

// Exchanges returns the exchanges of a string like "0>1 10 17 2, 1>0 -5": the devices From and To, and then Sent, Received and Least, or only the weight. ShowExchanges returns such a string.
func Exchanges(s string) []api.Exchange { return records(s, exchangeOf) }

func exchangeOf(words []string) api.Exchange {
	from, to, _ := strings.Cut(words[0], ">")
	x := api.Exchange{From: number(from), To: number(to)}
	if len(words) == 2 {
		weight := number(words[1])
		x.Sent, x.Received = max(-weight, 0), max(weight, 0)
		return x
	}
	x.Sent, x.Received, x.Least = number(words[1]), number(words[2]), number(words[3])
	return x
}

func ShowExchanges(l []api.Exchange) string {
	return strings.Join(lists.Convert(l, showExchange), ", ")
}

func showExchange(x api.Exchange) string {
	s := strconv.Itoa(x.From) + ">" + strconv.Itoa(x.To) + " "
	if x.Least == 0 && min(x.Sent, x.Received) == 0 {
		return s + strconv.Itoa(x.Received-x.Sent)
	}
	return s + strconv.Itoa(x.Sent) + " " + strconv.Itoa(x.Received) + " " + strconv.Itoa(x.Least)
}

// Batch returns the reports and the exchanges of a string like "1.5, 1.6 v2 | 0>1 -5", and ShowBatch such a string.
func Batch(s string) api.Batch {
	left, right, _ := strings.Cut(s, "|")
	return api.Batch{Reports: Reports(left), Exchanges: Exchanges(right)}
}

func ShowBatch(b api.Batch) string {
	return strings.TrimSpace(ShowReports(b.Reports) + " | " + ShowExchanges(b.Exchanges))
}
