// Package calls holds what is given against the document: it builds only as long as the packages have the calls that the chapters list.
package calls

import (
	"mailcoach/api"
	"mailcoach/bundle"
	"mailcoach/codec"
	"mailcoach/crc"
	"mailcoach/cursor"
	"mailcoach/dedup"
	"mailcoach/disk"
	"mailcoach/dispatch"
	"mailcoach/journal"
	"mailcoach/later"
	"mailcoach/lease"
	"mailcoach/ledgers"
	"mailcoach/mender"
	"mailcoach/meta"
	"mailcoach/net"
	"mailcoach/owner"
	"mailcoach/pack"
	"mailcoach/quorum"
	"mailcoach/ranges"
	"mailcoach/shelf"
	"mailcoach/tree"
	"mailcoach/writer"
	"mailcoach/yard"
)

// Layer 1: crc.
var (
	_ func(uint32, []byte) uint32 = crc.More
	_ func([]byte) uint32         = crc.Sum
)

// Layer 2: pack.
var (
	_ func(*pack.Writer, uint8)                  = (*pack.Writer).U8
	_ func(*pack.Writer, uint16)                 = (*pack.Writer).U16
	_ func(*pack.Writer, uint32)                 = (*pack.Writer).U32
	_ func(*pack.Writer, uint64)                 = (*pack.Writer).U64
	_ func(*pack.Writer, []byte)                 = (*pack.Writer).Bytes
	_ func(*pack.Writer, string)                 = (*pack.Writer).Text
	_ func(*pack.Writer) []byte                  = (*pack.Writer).Done
	_ func(*pack.Reader) uint8                   = (*pack.Reader).U8
	_ func(*pack.Reader) uint16                  = (*pack.Reader).U16
	_ func(*pack.Reader) uint32                  = (*pack.Reader).U32
	_ func(*pack.Reader) uint64                  = (*pack.Reader).U64
	_ func(*pack.Reader) []byte                  = (*pack.Reader).Bytes
	_ func(*pack.Reader) string                  = (*pack.Reader).Text
	_ func(*pack.Reader, api.Errno)              = (*pack.Reader).Fail
	_ func(*pack.Reader) int                     = (*pack.Reader).Left
	_ func([]byte, func(*pack.Reader)) api.Errno = pack.Read
	_ func([]byte) ([]byte, api.Errno)           = pack.Frame
	_ func([]byte) ([]byte, []byte, api.Errno)   = pack.Unframe
)

// Layer 3: ranges.
var (
	_ func([]api.Range) bool                     = ranges.Check
	_ func([]api.Range, api.Range) []api.Range   = ranges.Add
	_ func([]api.Range, api.Range) []api.Range   = ranges.Remove
	_ func([]api.Range, uint64) bool             = ranges.Has
	_ func([]api.Range) uint64                   = ranges.Count
	_ func([]api.Range, uint64) uint64           = ranges.Gap
	_ func([]api.Range, []api.Range) []api.Range = ranges.Join
)

// Layer 4: disk.
var (
	_ func(int) (*disk.Disk, api.Errno)  = disk.New
	_ func(*disk.Disk, []byte) api.Errno = (*disk.Disk).Append
	_ func(*disk.Disk)                   = (*disk.Disk).Sync
	_ func(*disk.Disk, int) api.Errno    = (*disk.Disk).Cut
	_ func(*disk.Disk, int, int)         = (*disk.Disk).Crash
	_ func(*disk.Disk) []byte            = (*disk.Disk).Bytes
	_ func(*disk.Disk) int               = (*disk.Disk).Sure
)

// Layer 5: journal.
var (
	_ func(*disk.Disk) (*journal.Journal, [][]byte, api.Errno) = journal.Open
	_ func(*journal.Journal, []byte) api.Errno                 = (*journal.Journal).Write
	_ func(*journal.Journal, []byte) api.Errno                 = (*journal.Journal).Lay
)

// Layer 6: tree.
var (
	_ func() *tree.Tree                                                    = tree.New
	_ func(*tree.Tree, string, []byte, uint64, uint64) (uint64, api.Errno) = (*tree.Tree).Put
	_ func(*tree.Tree, string) (api.Node, bool)                            = (*tree.Tree).Get
	_ func(*tree.Tree, string, uint64) api.Errno                           = (*tree.Tree).Delete
	_ func(*tree.Tree, uint64)                                             = (*tree.Tree).Drop
	_ func(*tree.Tree, string) []api.Node                                  = (*tree.Tree).List
	_ func([]api.Node) (*tree.Tree, bool)                                  = tree.Load
)

// Layer 7: lease.
var (
	_ func(uint64, []api.Session) (*lease.Book, bool)       = lease.New
	_ func(*lease.Book, uint64, uint64) (uint64, api.Errno) = (*lease.Book).Open
	_ func(*lease.Book, uint64, uint64) api.Errno           = (*lease.Book).Renew
	_ func(*lease.Book, uint64) api.Errno                   = (*lease.Book).Close
	_ func(*lease.Book, uint64) []uint64                    = (*lease.Book).Expire
	_ func(*lease.Book, uint64, uint64) bool                = (*lease.Book).Live
	_ func(*lease.Book) (uint64, []api.Session)             = (*lease.Book).All
)

// Layer 8: meta.
var (
	_ func(*disk.Disk) (*meta.Keeper, api.Errno)                = meta.Open
	_ func(*meta.Keeper, api.Cmd) (uint64, []uint64, api.Errno) = (*meta.Keeper).Do
	_ func(*meta.Keeper, string) (api.Node, bool)               = (*meta.Keeper).Get
	_ func(*meta.Keeper, string) []api.Node                     = (*meta.Keeper).List
	_ func(*meta.Keeper) uint64                                 = (*meta.Keeper).Now
	_ func(*meta.Keeper, uint64) bool                           = (*meta.Keeper).Live
)

// Layer 9: shelf.
var (
	_ func(*disk.Disk) (*shelf.Shelf, api.Errno)                   = shelf.Open
	_ func(*shelf.Shelf, uint64, api.Item, uint64, bool) api.Errno = (*shelf.Shelf).Add
	_ func(*shelf.Shelf, uint64) (uint64, api.Errno)               = (*shelf.Shelf).Fence
	_ func(*shelf.Shelf, uint64) api.Errno                         = (*shelf.Shelf).Drop
	_ func(*shelf.Shelf, uint64, uint64) ([]byte, bool)            = (*shelf.Shelf).Read
	_ func(*shelf.Shelf, uint64) []api.Item                        = (*shelf.Shelf).List
	_ func(*shelf.Shelf, uint64) (bool, bool, uint64)              = (*shelf.Shelf).About
)

// Layer 10: quorum.
var (
	_ func(api.Quorum) bool                 = quorum.Check
	_ func(api.Quorum, uint64) []int        = quorum.Set
	_ func(api.Quorum, uint64, []bool) bool = quorum.Enough
	_ func(api.Quorum, []bool) bool         = quorum.Covered
)

// Layer 11: writer.
var (
	_ func(api.Quorum) (*writer.Writer, api.Errno)     = writer.New
	_ func(*writer.Writer, []byte) (uint64, api.Errno) = (*writer.Writer).Add
	_ func(*writer.Writer, int, uint64) []api.Item     = (*writer.Writer).Ack
	_ func(*writer.Writer, int) []uint64               = (*writer.Writer).Replace
	_ func(*writer.Writer) uint64                      = (*writer.Writer).Count
	_ func(*writer.Writer) uint64                      = (*writer.Writer).Sure
	_ func(*writer.Writer) ([]api.Item, [][]int)       = (*writer.Writer).Waiting
	_ func(*writer.Writer) (uint64, api.Errno)         = (*writer.Writer).Close
)

// Layer 12: mender.
var (
	_ func(api.Quorum) (*mender.Mender, api.Errno)            = mender.New
	_ func(*mender.Mender, int, uint64, []api.Item) api.Errno = (*mender.Mender).Hear
	_ func(*mender.Mender) bool                               = (*mender.Mender).Ready
	_ func(*mender.Mender) ([]api.Item, api.Errno)            = (*mender.Mender).Result
)

// Layer 13: ledgers.
var (
	_ func([]api.Ledger) bool                              = ledgers.Check
	_ func([]api.Ledger, uint64) ([]api.Ledger, api.Errno) = ledgers.Open
	_ func([]api.Ledger, uint64) ([]api.Ledger, api.Errno) = ledgers.Close
	_ func(api.Pos, api.Pos) int                           = ledgers.Order
	_ func([]api.Ledger, uint64, api.Pos) (api.Pos, bool)  = ledgers.Next
	_ func(api.Pos) api.Pos                                = ledgers.Behind
	_ func([]api.Ledger, uint64, api.Pos) bool             = ledgers.Has
	_ func([]api.Ledger, uint64, api.Pos, api.Pos) uint64  = ledgers.Between
	_ func([]api.Ledger, api.Pos) []api.Ledger             = ledgers.Trim
)

// Layer 14: cursor.
var (
	_ func(api.Cursor) bool                                                   = cursor.Check
	_ func(api.Cursor, api.Pos) bool                                          = cursor.Acked
	_ func([]api.Ledger, uint64, api.Cursor, api.Pos) (api.Cursor, api.Errno) = cursor.Ack
	_ func([]api.Ledger, uint64, api.Cursor, api.Pos) (api.Cursor, api.Errno) = cursor.AckAll
	_ func([]api.Ledger, uint64, api.Cursor, api.Pos) (api.Pos, bool)         = cursor.Next
	_ func([]api.Ledger, uint64, api.Cursor) uint64                           = cursor.Backlog
	_ func(*pack.Writer, api.Cursor)                                          = cursor.Write
	_ func(*pack.Reader) api.Cursor                                           = cursor.Take
	_ func(api.Cursor) ([]byte, api.Errno)                                    = cursor.Encode
	_ func([]byte) (api.Cursor, api.Errno)                                    = cursor.Decode
)

// Layer 15: dedup.
var (
	_ func() *dedup.Table                                   = dedup.New
	_ func(*dedup.Table, string, uint64) api.Errno          = (*dedup.Table).Begin
	_ func(*dedup.Table, string, uint64, api.Pos) api.Errno = (*dedup.Table).Done
	_ func(*dedup.Table)                                    = (*dedup.Table).Forget
	_ func(*dedup.Table, string) (api.Line, bool)           = (*dedup.Table).Last
	_ func(*dedup.Table) []api.Line                         = (*dedup.Table).All
	_ func(*dedup.Table, *pack.Writer)                      = (*dedup.Table).Write
	_ func(*pack.Reader) *dedup.Table                       = dedup.Take
)

// Layer 16: bundle.
var (
	_ func() *bundle.Map                      = bundle.New
	_ func(string) int                        = bundle.Hash
	_ func(*bundle.Map, int) (int, int, bool) = (*bundle.Map).Of
	_ func(*bundle.Map, int) api.Errno        = (*bundle.Map).Split
	_ func(*bundle.Map, int) api.Errno        = (*bundle.Map).Join
	_ func(*bundle.Map) []int                 = (*bundle.Map).All
	_ func(int, int) string                   = bundle.Name
)

// Layer 17: owner.
var (
	_ func(*meta.Keeper, uint64, uint64, string) (uint64, api.Errno) = owner.Acquire
	_ func(*meta.Keeper, string) (uint64, uint64, bool)              = owner.Holder
	_ func(*meta.Keeper, uint64, string) api.Errno                   = owner.Release
)

// Layer 18: dispatch.
var (
	_ func(api.SubKind) (*dispatch.Desk, api.Errno)             = dispatch.New
	_ func(*dispatch.Desk, uint64) api.Errno                    = (*dispatch.Desk).Join
	_ func(*dispatch.Desk, uint64) ([]api.Out, api.Errno)       = (*dispatch.Desk).Leave
	_ func(*dispatch.Desk, uint64, int) api.Errno               = (*dispatch.Desk).Flow
	_ func(*dispatch.Desk, api.Pos, string) (uint64, api.Errno) = (*dispatch.Desk).Offer
	_ func(*dispatch.Desk, uint64, api.Pos) api.Errno           = (*dispatch.Desk).Done
	_ func(*dispatch.Desk) []api.Out                            = (*dispatch.Desk).All
	_ func(*dispatch.Desk) []api.Taker                          = (*dispatch.Desk).Consumers
)

// Layer 19: later.
var (
	_ func() *later.List                           = later.New
	_ func(*later.List, api.Pos, uint64) api.Errno = (*later.List).Put
	_ func(*later.List, api.Pos) bool              = (*later.List).Drop
	_ func(*later.List, uint64) []api.Pos          = (*later.List).Due
	_ func(*later.List) []api.Wait                 = (*later.List).All
)

// Layer 20: net.
var (
	_ func() *net.Net                              = net.New
	_ func(*net.Net, api.Message) api.Errno        = (*net.Net).Send
	_ func(*net.Net, int) (api.Message, api.Errno) = (*net.Net).Take
	_ func(*net.Net, int) api.Errno                = (*net.Net).Double
	_ func(*net.Net, int) int                      = (*net.Net).Cut
	_ func(*net.Net) int                           = (*net.Net).Len
	_ func(*net.Net) []api.Message                 = (*net.Net).All
)

// Layer 21: codec.
var (
	_ func(api.Topic) bool                 = codec.Check
	_ func(api.Topic) ([]byte, api.Errno)  = codec.Encode
	_ func([]byte) (api.Topic, api.Errno)  = codec.Decode
	_ func(api.Parcel) ([]byte, api.Errno) = codec.Lay
	_ func([]byte) (api.Parcel, api.Errno) = codec.Pick
	_ func(api.Note) ([]byte, api.Errno)   = codec.Tell
	_ func([]byte) (api.Note, api.Errno)   = codec.Hear
)

// Layer 22: yard.
var (
	_ func(api.Config) api.Errno                = yard.Check
	_ func(api.Config) (*yard.Yard, api.Errno)  = yard.New
	_ func(*yard.Yard, yard.Act) api.Errno      = (*yard.Yard).Do
	_ func(*yard.Yard, int)                     = (*yard.Yard).Settle
	_ func(*yard.Yard) []yard.Told              = (*yard.Yard).Told
	_ func(*yard.Yard, int) (uint64, bool)      = (*yard.Yard).Pending
	_ func(*yard.Yard, int) []api.Pos           = (*yard.Yard).Held
	_ func(*yard.Yard, uint8) (api.Topic, bool) = (*yard.Yard).Topic
	_ func(*yard.Yard, api.Pos) [][]byte        = (*yard.Yard).Stored
	_ func(*yard.Yard) int                      = (*yard.Yard).Under
)
