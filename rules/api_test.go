package rules

import (
	"math"
	"strconv"
	"testing"

	"lapwing/api"
)

// DOC.md, Words: the errors' numbers, and their texts. A number below 0 is told as 0.
func TestErrors(t *testing.T) {
	for name, x := range map[string]struct {
		e    api.Errno
		want int
	}{
		"OK": {api.OK, 0}, "ErrNil": {api.ErrNil, 1}, "ErrArg": {api.ErrArg, 2}, "ErrShort": {api.ErrShort, 3},
		"ErrForm": {api.ErrForm, 4}, "ErrLong": {api.ErrLong, 5}, "ErrSum": {api.ErrSum, 6},
		"ErrFull": {api.ErrFull, 10}, "ErrNone": {api.ErrNone, 11}, "ErrState": {api.ErrState, 12}, "ErrThere": {api.ErrThere, 13},
		"ErrCommand": {api.ErrCommand, 60}, "ErrFields": {api.ErrFields, 61}, "ErrNumber": {api.ErrNumber, 62},
	} {
		if int(x.e) != x.want {
			t.Errorf("%s is %d, want %d", name, int(x.e), x.want)
		}
		if got, want := x.e.Error(), "error "+strconv.Itoa(x.want); got != want {
			t.Errorf("%s: %q, want %q", name, got, want)
		}
	}
	for n, want := range map[api.Errno]string{
		7: "error 7", 9: "error 9", 100: "error 100", math.MaxInt: "error " + strconv.Itoa(math.MaxInt),
		-1: "error 0", -9: "error 0", -10: "error 0", -11: "error 0", -62: "error 0", -100: "error 0",
		math.MinInt32: "error 0", -math.MaxInt: "error 0", math.MinInt: "error 0",
	} {
		if got := n.Error(); got != want {
			t.Errorf("error of %d: %q, want %q", int(n), got, want)
		}
	}
}

// DOC.md, Words: the limits.
func TestLimits(t *testing.T) {
	for name, x := range map[string][2]int{
		"Modulus": {api.Modulus, 128}, "MaxInfo": {api.MaxInfo, 260}, "MaxWindow": {api.MaxWindow, 127},
		"MaxQueue": {api.MaxQueue, 256}, "MaxTries": {api.MaxTries, 32}, "MaxPeriod": {api.MaxPeriod, 1048576},
		"MaxTime": {api.MaxTime, 9007199254740992}, "FirstTEI": {api.FirstTEI, 64}, "LastTEI": {api.LastTEI, 126},
		"Broadcast": {api.Broadcast, 127}, "Signal": {api.Signal, 0}, "Manage": {api.Manage, 63},
		"MaxTerms": {api.MaxTerms, 16}, "MaxBits": {api.MaxBits, 65536}, "MaxScript": {api.MaxScript, 65536},
		"MaxAnswer": {api.MaxAnswer, 131072},
	} {
		if x[0] != x[1] {
			t.Errorf("%s is %d, want %d", name, x[0], x[1])
		}
	}
}
