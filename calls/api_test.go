package calls

import (
	"strconv"
	"testing"

	"mailcoach/api"
)

// named is a constant of api: what it is, and what DOC.md says that it is.
type named struct {
	name      string
	got, want int
}

func holdAgainstDoc(t *testing.T, l []named) {
	for _, c := range l {
		if c.got != c.want {
			t.Errorf("%s is %d, want %d", c.name, c.got, c.want)
		}
	}
}

func TestIntHas64Bits(t *testing.T) {
	if strconv.IntSize != 64 {
		t.Errorf("R1: int has %d bits", strconv.IntSize)
	}
}

func TestLimits(t *testing.T) {
	holdAgainstDoc(t, []named{
		{"MaxName", api.MaxName, 64},
		{"MaxData", api.MaxData, 256},
		{"MaxFrame", api.MaxFrame, 4096},
		{"MaxValue", api.MaxValue, 3840},
		{"MaxDisk", api.MaxDisk, 1 << 24},
		{"MaxKeys", api.MaxKeys, 256},
		{"MaxSessions", api.MaxSessions, 16},
		{"MaxTime", api.MaxTime, 1 << 40},
		{"MaxPlaces", api.MaxPlaces, 7},
		{"MaxWaiting", api.MaxWaiting, 64},
		{"MaxLedgers", api.MaxLedgers, 64},
		{"MaxEntries", api.MaxEntries, 1 << 20},
		{"MaxProducers", api.MaxProducers, 16},
		{"MaxConsumers", api.MaxConsumers, 8},
		{"MaxPermits", api.MaxPermits, 1000},
		{"MaxOut", api.MaxOut, 256},
		{"MaxBundles", api.MaxBundles, 16},
		{"MaxMessages", api.MaxMessages, 4096},
		{"MaxTopics", api.MaxTopics, 3},
		{"MaxBrokers", api.MaxBrokers, 3},
		{"MaxSubs", api.MaxSubs, 2},
		{"MaxRoll", api.MaxRoll, 8},
		{"MaxQuota", api.MaxQuota, 40},
		{"MaxLife", api.MaxLife, 100},
		{"MaxPayload", api.MaxPayload, 128},
		{"MaxRanges", api.MaxRanges, 65536},
		{"MaxActs", api.MaxActs, 400},
	})
}

func TestKinds(t *testing.T) {
	holdAgainstDoc(t, []named{
		{"KPut", int(api.KPut), 1},
		{"KDelete", int(api.KDelete), 2},
		{"KOpen", int(api.KOpen), 3},
		{"KRenew", int(api.KRenew), 4},
		{"KClose", int(api.KClose), 5},
		{"KTick", int(api.KTick), 6},
		{"KSnap", int(api.KSnap), 7},
		{"SOne", int(api.SOne), 1},
		{"SFirst", int(api.SFirst), 2},
		{"SAll", int(api.SAll), 3},
		{"SKeys", int(api.SKeys), 4},
	})
}

func TestErrors(t *testing.T) {
	holdAgainstDoc(t, []named{
		{"OK", int(api.OK), 0},
		{"ErrNil", int(api.ErrNil), 1},
		{"ErrRange", int(api.ErrRange), 2},
		{"ErrLong", int(api.ErrLong), 3},
		{"ErrShort", int(api.ErrShort), 4},
		{"ErrRest", int(api.ErrRest), 5},
		{"ErrText", int(api.ErrText), 6},
		{"ErrSum", int(api.ErrSum), 7},
		{"ErrFull", int(api.ErrFull), 8},
		{"ErrName", int(api.ErrName), 10},
		{"ErrNone", int(api.ErrNone), 11},
		{"ErrExists", int(api.ErrExists), 12},
		{"ErrVersion", int(api.ErrVersion), 13},
		{"ErrMany", int(api.ErrMany), 14},
		{"ErrExpired", int(api.ErrExpired), 15},
		{"ErrKind", int(api.ErrKind), 16},
		{"ErrFenced", int(api.ErrFenced), 20},
		{"ErrOther", int(api.ErrOther), 21},
		{"ErrQuorum", int(api.ErrQuorum), 22},
		{"ErrState", int(api.ErrState), 23},
		{"ErrClosed", int(api.ErrClosed), 24},
		{"ErrPos", int(api.ErrPos), 30},
		{"ErrAcked", int(api.ErrAcked), 31},
		{"ErrOld", int(api.ErrOld), 40},
		{"ErrPending", int(api.ErrPending), 41},
		{"ErrOwner", int(api.ErrOwner), 50},
		{"ErrPermits", int(api.ErrPermits), 60},
		{"ErrConsumer", int(api.ErrConsumer), 61},
		{"ErrOut", int(api.ErrOut), 62},
		{"ErrTime", int(api.ErrTime), 63},
		{"ErrConfig", int(api.ErrConfig), 70},
		{"ErrDown", int(api.ErrDown), 71},
		{"ErrQuota", int(api.ErrQuota), 72},
	})
}
