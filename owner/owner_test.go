package owner_test

import (
	"bytes"
	"encoding/binary"
	"math"
	"slices"
	"strconv"
	"strings"
	"testing"
	"unsafe"

	"mailcoach/api"
	"mailcoach/disk"
	"mailcoach/meta"
	"mailcoach/owner"
	"mailcoach/pack"
)

const top = math.MaxUint64

// fresh: a new disk with room for so many bytes.
func fresh(t *testing.T, room int) *disk.Disk {
	t.Helper()
	d, e := disk.New(room)
	if e != api.OK {
		t.Fatalf("disk.New(%d): error %d", room, e)
	}
	return d
}

// keeper: the one of a disk.
func keeper(t *testing.T, d *disk.Disk) *meta.Keeper {
	t.Helper()
	k, e := meta.Open(d)
	if e != api.OK {
		t.Fatalf("meta.Open: error %d", e)
	}
	return k
}

// began: a keeper of a new disk with so many sessions, that live for long.
func began(t *testing.T, sessions int) (*meta.Keeper, *disk.Disk) {
	t.Helper()
	d := fresh(t, 1<<20)
	k := keeper(t, d)
	for range sessions {
		does(t, k, api.Cmd{Kind: api.KOpen, Ticks: 100})
	}
	return k, d
}

// does: a command that isn't refused.
func does(t *testing.T, k *meta.Keeper, c api.Cmd) {
	t.Helper()
	if _, _, e := k.Do(c); e != api.OK {
		t.Fatalf("Do(%v): error %d", c, e)
	}
}

// lays: a key by the keeper itself, that wasn't there.
func lays(t *testing.T, k *meta.Keeper, key, value string, session uint64) {
	t.Helper()
	does(t, k, api.Cmd{Kind: api.KPut, Key: key, Value: []byte(value), Session: session})
}

// acquires: an Acquire that isn't refused.
func acquires(t *testing.T, k *meta.Keeper, session, broker uint64, bundle string, want uint64) {
	t.Helper()
	if n, e := owner.Acquire(k, session, broker, bundle); n != want || e != api.OK {
		t.Fatalf("P17.1: Acquire(%d, %d, %.70q): %d, error %d; want %d", session, broker, bundle, n, e, want)
	}
}

// fails: an Acquire that is refused.
func fails(t *testing.T, k *meta.Keeper, session, broker uint64, bundle string, code api.Errno) {
	t.Helper()
	if n, e := owner.Acquire(k, session, broker, bundle); n != 0 || e != code {
		t.Fatalf("P17.1, R3: Acquire(%d, %d, %.70q): %d, error %d; want error %d", session, broker, bundle, n, e, code)
	}
}

// releases: a Release, and its error.
func releases(t *testing.T, k *meta.Keeper, session uint64, bundle string, code api.Errno) {
	t.Helper()
	if e := owner.Release(k, session, bundle); e != code {
		t.Fatalf("P17.2: Release(%d, %.70q): error %d; want error %d", session, bundle, e, code)
	}
}

// held: a bundle that is owned.
func held(t *testing.T, k *meta.Keeper, bundle string, broker, epoch uint64) {
	t.Helper()
	if b, n, ok := owner.Holder(k, bundle); b != broker || n != epoch || !ok {
		t.Fatalf("P17.2: Holder(%.70q): %d, %d, %v; want %d, %d, true", bundle, b, n, ok, broker, epoch)
	}
}

// free: bundles that nobody owns.
func free(t *testing.T, k *meta.Keeper, bundles ...string) {
	t.Helper()
	for _, bundle := range bundles {
		if b, n, ok := owner.Holder(k, bundle); b != 0 || n != 0 || ok {
			t.Fatalf("P17.2, R3: Holder(%.70q): %d, %d, %v", bundle, b, n, ok)
		}
	}
}

// same: two nodes, in all their fields.
func same(a, b api.Node) bool {
	return a.Key == b.Key && bytes.Equal(a.Value, b.Value) && a.Version == b.Version && a.Owner == b.Owner
}

// has: a keeper's keys, all of them.
func has(t *testing.T, what string, k *meta.Keeper, want ...api.Node) {
	t.Helper()
	if l := k.List(""); !slices.EqualFunc(l, want, same) {
		t.Fatalf("P17.1: %s: the keys are %.400v; want %.400v", what, l, want)
	}
}

// unchanged: what changes nothing of a keeper, nor of its disk.
func unchanged(t *testing.T, k *meta.Keeper, d *disk.Disk, what func()) {
	t.Helper()
	l, b := k.List(""), d.Bytes()
	what()
	has(t, "R4: behind what was refused", k, l...)
	if !bytes.Equal(d.Bytes(), b) {
		t.Fatalf("R4: behind what was refused there are %d bytes on the disk, not %d", len(d.Bytes()), len(b))
	}
}

// snapped: a keeper whose time, sessions and keys are these, as a KSnap's record says.
func snapped(t *testing.T, now uint64, sessions []api.Session, nodes ...api.Node) (*meta.Keeper, *disk.Disk) {
	t.Helper()
	b := binary.BigEndian.AppendUint64([]byte{byte(api.KSnap)}, now)
	b = binary.BigEndian.AppendUint64(b, 99)
	b = binary.BigEndian.AppendUint16(b, uint16(len(sessions)))
	for _, s := range sessions {
		b = append(b, u64(s.Id)+u64(s.Ends)+u64(s.Life)...)
	}
	b = binary.BigEndian.AppendUint16(b, uint16(len(nodes)))
	for _, n := range nodes {
		for _, s := range []string{n.Key, string(n.Value)} {
			b = append(binary.BigEndian.AppendUint32(b, uint32(len(s))), s...)
		}
		b = append(b, u64(n.Version)+u64(n.Owner)...)
	}
	frame, e := pack.Frame(b)
	if e != api.OK {
		t.Fatalf("pack.Frame: error %d", e)
	}
	d := fresh(t, 1<<20)
	d.Append(frame)
	return keeper(t, d), d
}

func TestExamples(t *testing.T) {
	k, _ := began(t, 1)
	acquires(t, k, 1, 7, "b", 1)
	held(t, k, "b", 7, 1)
	fails(t, k, 1, 7, "b", api.ErrOwner)
	releases(t, k, 1, "b", api.OK)
	acquires(t, k, 1, 7, "b", 2)
}

func TestTheKeys(t *testing.T) {
	k, _ := began(t, 2)
	acquires(t, k, 2, 258, "0000-4000", 1)
	own, epoch := node("own/0000-4000", "\x00\x00\x00\x00\x00\x00\x01\x02", 1, 2), node("epoch/0000-4000", "\x00\x00\x00\x00\x00\x00\x00\x01", 1, 0)
	has(t, "acquired", k, epoch, own)
	releases(t, k, 2, "0000-4000", api.OK)
	has(t, "released", k, epoch)
	acquires(t, k, 1, top, "0000-4000", 2)
	own, epoch = node("own/0000-4000", "\xff\xff\xff\xff\xff\xff\xff\xff", 1, 1), node("epoch/0000-4000", "\x00\x00\x00\x00\x00\x00\x00\x02", 2, 0)
	has(t, "acquired by another one", k, epoch, own)
	acquires(t, k, 1, 0, "4000-10000", 1)
	more, once := node("own/4000-10000", strings.Repeat("\x00", 8), 1, 1), node("epoch/4000-10000", "\x00\x00\x00\x00\x00\x00\x00\x01", 1, 0)
	has(t, "two bundles", k, epoch, once, own, more)
}

// An Acquire is two commands, a Release is one, each as it is done by hand; what is refused is none.
func TestTheCommands(t *testing.T) {
	k, d := began(t, 2)
	hand, by := began(t, 2)
	commands := func(l ...api.Cmd) {
		t.Helper()
		for _, c := range l {
			does(t, hand, c)
		}
		if !bytes.Equal(d.Bytes(), by.Bytes()) || d.Sure() != len(d.Bytes()) {
			t.Fatalf("P17.1, P17.2: on the disk stands %q, and %d are sure; want %q", d.Bytes(), d.Sure(), by.Bytes())
		}
	}
	acquires(t, k, 1, 5, "a", 1)
	commands(api.Cmd{Kind: api.KPut, Key: "own/a", Value: []byte(u64(5)), Session: 1}, api.Cmd{Kind: api.KPut, Key: "epoch/a", Value: []byte(u64(1))})
	held(t, k, "a", 5, 1)
	free(t, k, "b")
	fails(t, k, 2, 6, "a", api.ErrOwner)
	releases(t, k, 2, "a", api.ErrOwner)
	releases(t, k, 2, "b", api.ErrNone)
	commands()
	releases(t, k, 1, "a", api.OK)
	commands(api.Cmd{Kind: api.KDelete, Key: "own/a", Want: 1})
	acquires(t, k, 2, 6, "a", 2)
	commands(api.Cmd{Kind: api.KPut, Key: "own/a", Value: []byte(u64(6)), Session: 2}, api.Cmd{Kind: api.KPut, Key: "epoch/a", Value: []byte(u64(2)), Want: 1})
}

func TestBrokers(t *testing.T) {
	k, _ := began(t, 1)
	for i, broker := range []uint64{0, 1, 7, 255, 256, 1 << 32, 1<<63 + 5, top - 1, top} {
		acquires(t, k, 1, broker, "b", uint64(i+1))
		held(t, k, "b", broker, uint64(i+1))
		fails(t, k, 1, broker, "b", api.ErrOwner)
		releases(t, k, 1, "b", api.OK)
	}
}

// Whoever acquires a bundle, by whatever way it came to be nobody's, gets a number that is one more.
func TestEpochsRise(t *testing.T) {
	k, d := began(t, 4)
	for i := range uint64(1000) {
		session := 1 + i%4
		acquires(t, k, session, i, "b", i+1)
		for other := range uint64(6) {
			if other != 0 {
				fails(t, k, other, 3, "b", api.ErrOwner)
			}
			if other != session {
				releases(t, k, other, "b", api.ErrOwner)
			}
		}
		held(t, k, "b", i, i+1)
		if i%10 == 9 {
			does(t, k, api.Cmd{Kind: api.KSnap})
			k = keeper(t, d)
			held(t, k, "b", i, i+1)
		}
		releases(t, k, session, "b", api.OK)
		releases(t, k, session, "b", api.ErrNone)
		free(t, k, "b")
	}
	has(t, "behind a thousand", k, node("epoch/b", u64(1000), 1000, 0))
}

func TestAcquireOfNoSession(t *testing.T) {
	k, d := began(t, 1)
	acquires(t, k, 1, 7, "owned", 1)
	for _, bundle := range []string{"owned", "free", "", strings.Repeat("b", 60), strings.Repeat("b", 61), strings.Repeat("b", 1000)} {
		unchanged(t, k, d, func() { fails(t, k, 0, 7, bundle, api.ErrExpired) }) // R2: it is ahead of ErrOwner, and of a key's errors
	}
}

func TestAcquireOfSessionsThatAreOver(t *testing.T) {
	k, d := began(t, 3)
	does(t, k, api.Cmd{Kind: api.KOpen, Ticks: 5})
	acquires(t, k, 1, 7, "owned", 1)
	does(t, k, api.Cmd{Kind: api.KClose, Session: 2})
	does(t, k, api.Cmd{Kind: api.KTick, Ticks: 5})
	for _, session := range []uint64{2, 4, 5, 1<<32 + 1, top} { // closed, gone, never there
		unchanged(t, k, d, func() {
			fails(t, k, session, 8, "free", api.ErrExpired)
			fails(t, k, session, 8, strings.Repeat("b", 61), api.ErrExpired) // as KPut has it
			fails(t, k, session, 8, "owned", api.ErrOwner)                   // R2: the key is asked for ahead of KPut
		})
	}
	free(t, k, "free")
	held(t, k, "owned", 7, 1)
	acquires(t, k, 3, 8, "free", 1)
}

// A session that is over goes at a tick; a state can say that one is still there. Its keys are, then, too.
func TestASessionThatIsOverAndStillThere(t *testing.T) {
	k, d := snapped(t, 9, []api.Session{{Id: 1, Ends: 5, Life: 5}, {Id: 2, Ends: 20, Life: 20}}, node("epoch/b", u64(4), 4, 0), node("epoch/d", u64(6), 2, 1), node("own/b", u64(7), 1, 1))
	held(t, k, "b", 7, 4)
	unchanged(t, k, d, func() {
		fails(t, k, 2, 8, "b", api.ErrOwner)
		fails(t, k, 1, 8, "c", api.ErrExpired)
		releases(t, k, 2, "b", api.ErrOwner)
	})
	releases(t, k, 1, "b", api.OK)
	acquires(t, k, 2, 8, "b", 5)
	acquires(t, k, 2, 8, "d", 7) // to count on asks for no session, whosever the key is
}

func TestTheEndOfASession(t *testing.T) {
	k, _ := began(t, 1)
	for range 2 {
		does(t, k, api.Cmd{Kind: api.KOpen, Ticks: 5}) // 2, 3
	}
	acquires(t, k, 2, 7, "a", 1)
	acquires(t, k, 2, 7, "b", 1)
	acquires(t, k, 3, 8, "c", 1)
	acquires(t, k, 1, 9, "d", 1)
	does(t, k, api.Cmd{Kind: api.KTick, Ticks: 4})
	does(t, k, api.Cmd{Kind: api.KRenew, Session: 3})
	held(t, k, "a", 7, 1)
	does(t, k, api.Cmd{Kind: api.KTick, Ticks: 1})
	free(t, k, "a", "b")
	held(t, k, "c", 8, 1)
	held(t, k, "d", 9, 1)
	releases(t, k, 2, "a", api.ErrNone)
	fails(t, k, 2, 7, "a", api.ErrExpired)
	acquires(t, k, 1, 9, "a", 2) // what it was acquired before outlives the session
	does(t, k, api.Cmd{Kind: api.KClose, Session: 3})
	free(t, k, "b", "c")
	acquires(t, k, 1, 9, "c", 2)
	held(t, k, "d", 9, 1)
	does(t, k, api.Cmd{Kind: api.KClose, Session: 1})
	free(t, k, "a", "b", "c", "d")
	has(t, "when all have gone", k, node("epoch/a", u64(2), 2, 0), node("epoch/b", u64(1), 1, 0), node("epoch/c", u64(2), 2, 0), node("epoch/d", u64(1), 1, 0))
}

func TestNamesOfBundles(t *testing.T) {
	k, _ := began(t, 2)
	names := []string{"", "b", "bb", "B", "b/", "/", "own/", "own/b", "epoch/b", "0000-10000", "é", "\x00", "\xff\xfe", strings.Repeat("b", 58)}
	for i, name := range names {
		free(t, k, name)
		acquires(t, k, 1+uint64(i%2), uint64(i), name, 1)
	}
	for i, name := range names {
		held(t, k, name, uint64(i), 1)
		fails(t, k, 1, 99, name, api.ErrOwner)
		releases(t, k, 2-uint64(i%2), name, api.ErrOwner)
		releases(t, k, 1+uint64(i%2), name, api.OK)
		free(t, k, name)
		acquires(t, k, 1, 50, name, 2)
	}
	if l := k.List(""); len(l) != 2*len(names) {
		t.Errorf("P17.1: of %d bundles there are %d keys", len(names), len(l))
	}
}

// A key has 64 bytes at most: own/ leaves 60 for a bundle's name, epoch/ 58.
func TestNamesThatAreTooLong(t *testing.T) {
	for _, length := range []int{59, 60} {
		k, d := began(t, 2)
		name := strings.Repeat("b", length)
		fails(t, k, 1, 7, name, api.ErrName)
		has(t, "own/ stays", k, node("own/"+name, u64(7), 1, 1))
		held(t, k, name, 7, 0)
		unchanged(t, k, d, func() {
			fails(t, k, 1, 7, name, api.ErrOwner)
			releases(t, k, 2, name, api.ErrOwner)
		})
		releases(t, k, 1, name, api.OK)
		has(t, "released", k)
	}
	for _, length := range []int{61, 62, 64, 65, 4097, 1 << 20} {
		k, d := began(t, 1)
		name := strings.Repeat("b", length)
		unchanged(t, k, d, func() {
			fails(t, k, 1, 7, name, api.ErrName)
			releases(t, k, 1, name, api.ErrNone)
		})
		free(t, k, name)
	}
}

func TestAsManyKeysAsThereMayBe(t *testing.T) {
	k, d := began(t, 1)
	acquires(t, k, 1, 7, "owned", 1)
	for i := range 252 {
		lays(t, k, "key"+strconv.Itoa(i), "x", 0)
	}
	acquires(t, k, 1, 7, "last", 1) // 256 now
	unchanged(t, k, d, func() { fails(t, k, 1, 7, "more", api.ErrMany) })
	free(t, k, "more")
	does(t, k, api.Cmd{Kind: api.KDelete, Key: "key0", Want: 1})
	fails(t, k, 1, 7, "more", api.ErrMany) // there is room for own/, which stays, and none for epoch/
	held(t, k, "more", 7, 0)
	fails(t, k, 1, 7, "more", api.ErrOwner)
	releases(t, k, 1, "more", api.OK)
	releases(t, k, 1, "owned", api.OK)
	acquires(t, k, 1, 8, "owned", 2) // its epoch/ is there
	held(t, k, "owned", 8, 2)
	releases(t, k, 1, "last", api.OK)
	acquires(t, k, 1, 8, "more", 1)
}

func TestAFullDisk(t *testing.T) {
	open := recordSize("", "")
	first := recordSize("own/b", u64(0))
	second := recordSize("epoch/b", u64(0))
	third := recordSize("own/b", "")
	for room := open; room <= open+first+second+third; room++ {
		d := fresh(t, room)
		k := keeper(t, d)
		does(t, k, api.Cmd{Kind: api.KOpen, Ticks: 9})
		left := room - open
		switch {
		case left < first:
			unchanged(t, k, d, func() { fails(t, k, 1, 7, "b", api.ErrFull) })
			free(t, k, "b")
			fails(t, k, 0, 7, "b", api.ErrExpired)
			fails(t, k, 2, 7, "b", api.ErrExpired)
			releases(t, k, 1, "b", api.ErrNone)
			continue
		case left < first+second:
			fails(t, k, 1, 7, "b", api.ErrFull)
			has(t, "own/ stays", k, node("own/b", u64(7), 1, 1))
			held(t, k, "b", 7, 0)
			fails(t, k, 1, 7, "b", api.ErrOwner)
			has(t, "opened anew", keeper(t, d), k.List("")...)
			left += second
		default:
			acquires(t, k, 1, 7, "b", 1)
			held(t, k, "b", 7, 1)
		}
		if left < first+second+third {
			unchanged(t, k, d, func() {
				releases(t, k, 2, "b", api.ErrOwner)
				releases(t, k, 1, "b", api.ErrFull)
			})
			if _, _, ok := owner.Holder(k, "b"); !ok {
				t.Errorf("R4: with room for %d: a Release that was refused has taken the bundle", room)
			}
			continue
		}
		releases(t, k, 1, "b", api.OK)
		free(t, k, "b")
	}
}

// Where the disk's room ends, a bundle that was acquired before has an epoch that stays.
func TestAFullDiskBehindAnAcquire(t *testing.T) {
	first := recordSize("", "") + 2*recordSize("own/b", u64(0)) + recordSize("epoch/b", u64(0)) + recordSize("own/b", "")
	for more := range recordSize("epoch/b", u64(0)) {
		d := fresh(t, first+more)
		k := keeper(t, d)
		does(t, k, api.Cmd{Kind: api.KOpen, Ticks: 9})
		acquires(t, k, 1, 7, "b", 1)
		releases(t, k, 1, "b", api.OK)
		fails(t, k, 1, 8, "b", api.ErrFull)
		has(t, "own/ stays", k, node("epoch/b", u64(1), 1, 0), node("own/b", u64(8), 1, 1))
		held(t, k, "b", 8, 1)
	}
}

// otherBytes: such as are no number.
func otherBytes() []string {
	return []string{"", "x", "\x05", "1234567", "\x00\x00\x00\x00\x00\x00\x05", "123456789", u64(5) + "\x00", u64(top) + u64(top), "\x00\x00\x00\x08" + u64(5), strings.Repeat("x", 3840)}
}

func TestOtherBytes(t *testing.T) {
	for i, value := range otherBytes() {
		k, d := began(t, 2)
		lays(t, k, "own/b", value, 1)
		held(t, k, "b", 0, 0)
		lays(t, k, "epoch/b", value, 0)
		held(t, k, "b", 0, 0)
		unchanged(t, k, d, func() {
			fails(t, k, 1, 7, "b", api.ErrOwner)
			releases(t, k, 2, "b", api.ErrOwner)
		})
		for version := range uint64(i) {
			does(t, k, api.Cmd{Kind: api.KPut, Key: "epoch/b", Value: []byte(value), Want: 1 + version})
		}
		releases(t, k, 1, "b", api.OK)
		acquires(t, k, 1, 7, "b", 1) // one more than 0, at whatever version
		has(t, "behind other bytes", k, node("epoch/b", u64(1), uint64(i)+2, 0), node("own/b", u64(7), 1, 1))
		held(t, k, "b", 7, 1)
	}
	k, _ := began(t, 1)
	lays(t, k, "own/b", u64(5), 1)
	lays(t, k, "epoch/b", "none", 0)
	held(t, k, "b", 5, 0)
	lays(t, k, "own/c", "none", 1)
	lays(t, k, "epoch/c", u64(5), 0)
	held(t, k, "c", 0, 5)
}

func TestEpochsGoRound(t *testing.T) {
	for _, from := range []uint64{0, 1, 254, 255, 256, 1<<32 - 1, 1 << 63, top - 2, top - 1, top} {
		k, _ := began(t, 1)
		lays(t, k, "epoch/b", u64(from), 0)
		for i := range uint64(4) {
			acquires(t, k, 1, 7, "b", from+i+1)
			held(t, k, "b", 7, from+i+1)
			releases(t, k, 1, "b", api.OK)
		}
	}
}

// Keys that were put by others: versions and owners are as the keeper has them.
func TestKeysOfOthers(t *testing.T) {
	k, d := began(t, 3)
	lays(t, k, "epoch/b", u64(8), 2) // it goes with the session 2
	acquires(t, k, 1, 7, "b", 9)
	has(t, "an epoch that belongs to a session", k, node("epoch/b", u64(9), 2, 2), node("own/b", u64(7), 1, 1))
	does(t, k, api.Cmd{Kind: api.KPut, Key: "own/b", Value: []byte(u64(11)), Want: 1, Session: 3})
	does(t, k, api.Cmd{Kind: api.KPut, Key: "own/b", Value: []byte(u64(12)), Want: 2, Session: 3})
	held(t, k, "b", 12, 9)
	unchanged(t, k, d, func() { releases(t, k, 3, "b", api.ErrOwner) })
	does(t, k, api.Cmd{Kind: api.KClose, Session: 2})
	held(t, k, "b", 12, 0)
	releases(t, k, 1, "b", api.OK) // of the version 3
	has(t, "released", k)
	acquires(t, k, 1, 7, "b", 1)
	releases(t, k, 1, "b", api.OK)

	lays(t, k, "own/b", u64(4), 0)
	unchanged(t, k, d, func() {
		fails(t, k, 1, 7, "b", api.ErrOwner)
		for session := uint64(1); session < 5; session++ {
			releases(t, k, session, "b", api.ErrOwner)
		}
	})
	held(t, k, "b", 4, 1)
	releases(t, k, 0, "b", api.OK) // it belongs to 0
	free(t, k, "b")
}

// Of a version of 2^64 - 1, which a state can say, the next one is 0; there is no wanting that of a key that is there.
func TestVersionsGoRound(t *testing.T) {
	k, d := snapped(t, 0, []api.Session{{Id: 1, Ends: 9, Life: 9}}, node("epoch/b", u64(4), top, 0), node("own/b", u64(3), top, 1))
	held(t, k, "b", 3, 4)
	releases(t, k, 1, "b", api.OK)
	acquires(t, k, 1, 7, "b", 5)
	has(t, "a version that went round", k, node("epoch/b", u64(5), 0, 0), node("own/b", u64(7), 1, 1))
	releases(t, k, 1, "b", api.OK)
	fails(t, k, 1, 8, "b", api.ErrExists)
	has(t, "own/ stays", k, node("epoch/b", u64(5), 0, 0), node("own/b", u64(8), 1, 1))
	held(t, k, "b", 8, 5)
	has(t, "opened anew", keeper(t, d), k.List("")...)
}

func TestReleaseOfWhatNobodyOwns(t *testing.T) {
	k, d := began(t, 1)
	acquires(t, k, 1, 7, "owned", 1)
	acquires(t, k, 1, 7, "b", 1)
	releases(t, k, 1, "b", api.OK)
	unchanged(t, k, d, func() {
		for _, session := range []uint64{0, 1, 2, 7, top} {
			for _, bundle := range []string{"", "b", "own", "owne", "ownedd", "own/owned", "epoch/owned", strings.Repeat("b", 61)} {
				releases(t, k, session, bundle, api.ErrNone)
			}
		}
	})
	held(t, k, "owned", 7, 1)
}

func TestReleaseByOthers(t *testing.T) {
	k, d := began(t, 3)
	does(t, k, api.Cmd{Kind: api.KClose, Session: 3})
	acquires(t, k, 1, 7, "b", 1)
	unchanged(t, k, d, func() {
		for _, session := range []uint64{0, 2, 3, 4, 7, 1<<32 + 1, top} { // none, another one, one that was closed, none of them, the broker
			releases(t, k, session, "b", api.ErrOwner)
		}
	})
	held(t, k, "b", 7, 1)
	releases(t, k, 1, "b", api.OK)
}

func TestSureBehindACrash(t *testing.T) {
	for _, keep := range []int{-1, 0, 1, 20, 1 << 30} {
		for bit := -1; bit <= 7; bit++ {
			k, d := began(t, 2)
			again := func() {
				t.Helper()
				before := k.List("")
				d.Crash(keep, bit)
				k = keeper(t, d)
				has(t, "behind a crash", k, before...)
			}
			acquires(t, k, 1, 7, "b", 1)
			again()
			held(t, k, "b", 7, 1)
			fails(t, k, 2, 8, "b", api.ErrOwner)
			again()
			releases(t, k, 1, "b", api.OK)
			again()
			free(t, k, "b")
			acquires(t, k, 2, 8, "b", 2)
			again()
			held(t, k, "b", 8, 2)
		}
	}
}

func TestNilKeeper(t *testing.T) {
	for _, session := range []uint64{0, 1, top} {
		for _, bundle := range []string{"", "b", strings.Repeat("b", 100)} {
			fails(t, nil, session, 7, bundle, api.ErrNil)
			releases(t, nil, session, bundle, api.ErrNil)
			free(t, nil, bundle)
		}
	}
}

// P1: a zero keeper has nothing, not even a disk.
func TestZeroKeeper(t *testing.T) {
	k := &meta.Keeper{}
	fails(t, k, 0, 7, "b", api.ErrExpired)
	fails(t, k, 1, 7, "b", api.ErrExpired)
	releases(t, k, 0, "b", api.ErrNone)
	free(t, k, "b")
}

func TestWhatIsHandedInIsNotKept(t *testing.T) {
	k, d := began(t, 1)
	b := []byte("bundle")
	name := unsafe.String(&b[0], len(b))
	acquires(t, k, 1, 7, name, 1)
	held(t, k, name, 7, 1)
	if string(b) != "bundle" {
		t.Errorf("R6: what was handed in was changed: %q", b)
	}
	stands := d.Bytes()
	copy(b, "others")
	held(t, k, "bundle", 7, 1)
	free(t, k, "others")
	has(t, "R6: behind scribbles in what was handed in", k, node("epoch/bundle", u64(1), 1, 0), node("own/bundle", u64(7), 1, 1))
	if !bytes.Equal(d.Bytes(), stands) {
		t.Errorf("R6: behind scribbles in what was handed in the disk has %q", d.Bytes())
	}
	releases(t, k, 1, "bundle", api.OK)
}

func TestKeepersAreNotInOneAnothersWay(t *testing.T) {
	one, _ := began(t, 1)
	other, _ := began(t, 1)
	acquires(t, one, 1, 7, "b", 1)
	free(t, other, "b")
	acquires(t, other, 1, 8, "b", 1)
	releases(t, one, 1, "b", api.OK)
	held(t, other, "b", 8, 1)
	acquires(t, one, 1, 9, "b", 2)
	held(t, other, "b", 8, 1)
	held(t, one, "b", 9, 2)
}
