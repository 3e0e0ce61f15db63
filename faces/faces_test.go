// Package faces holds the calls of all layers against the document's: a call that is missing, or has other arguments or answers, doesn't build.
package faces

import (
	"slices"
	"testing"

	"ballast/api"
	"ballast/ars"
	"ballast/block"
	"ballast/cells"
	"ballast/conf"
	"ballast/desk"
	"ballast/exec"
	"ballast/image"
	"ballast/journal"
	"ballast/kernel"
	"ballast/link"
	"ballast/locks"
	"ballast/mover"
	"ballast/pack"
	"ballast/ring"
	"ballast/seal"
	"ballast/seq"
	"ballast/shell"
	"ballast/station"
	"ballast/tele"
	"ballast/topo"
	"ballast/watch"
	"ballast/wires"
	"ballast/yard"
)

// The layers that keep nothing.
var (
	_ func(...string) int                             = seal.Sum
	_ func(...string) (string, api.Errno)             = seal.Seal
	_ func(string) (string, api.Errno)                = seal.Open
	_ func(string, int) (string, int, api.Errno)      = seal.Next
	_ func(int) int                                   = seq.Of
	_ func(int) int                                   = seq.Next
	_ func(int, int) int                              = seq.Gap
	_ func(int, int) bool                             = seq.Newer
	_ func(...int) int                                = seq.Lost
	_ func([]api.Section, []api.Joint) api.Errno      = topo.Check
	_ func(int) int                                   = topo.Ends
	_ func(int, int, int) (int, bool)                 = topo.Way
	_ func(int, int, int) (int, bool)                 = topo.Pos
	_ func([]api.Joint, int, int) (int, int, bool)    = topo.Next
	_ func(api.Config, int) int                       = conf.Approach
	_ func(api.Config, int, ...api.Step) []api.Need   = conf.Flank
	_ func(api.Config, api.Route) []int               = conf.Overlap
	_ func(api.Config, int) []int                     = conf.Locks
	_ func(api.Config, int, int) bool                 = conf.Conflict
	_ func(api.Config) api.Errno                      = conf.Check
	_ func(api.Config) string                         = conf.Text
	_ func(string) (api.Config, api.Errno)            = conf.Read
	_ func(api.Config, int) api.Shape                 = tele.Shape
	_ func(api.Shape, api.Status) (string, api.Errno) = tele.Status
	_ func(api.Shape, api.Orders) (string, api.Errno) = tele.Orders
	_ func(api.Block) (string, api.Errno)             = tele.Block
	_ func(api.Shape, string) (api.Status, api.Errno) = tele.ReadStatus
	_ func(api.Shape, string) (api.Orders, api.Errno) = tele.ReadOrders
	_ func(string) (api.Block, api.Errno)             = tele.ReadBlock
	_ func(int) api.Mover                             = mover.Start
	_ func(api.Mover, int, int) api.Mover             = mover.Command
	_ func(api.Mover, api.Look, int) bool             = mover.Proven
	_ func(api.Config, int) []api.Need                = mover.Needs
	_ func(api.Config, int) []int                     = mover.Crossings
	_ func(api.Command) (string, api.Errno)           = desk.Command
	_ func(string) (api.Command, api.Errno)           = desk.ReadCommand
	_ func(api.Reply) (string, api.Errno)             = desk.Reply
	_ func(string) (api.Reply, api.Errno)             = desk.ReadReply
	_ func() []api.Session                            = desk.New
	_ func(string) string                             = shell.Run

	_ func([]api.Section, []api.Joint, int, int, ...int) []api.Step                = topo.Follow
	_ func([]api.Session, int, api.Command) ([]api.Session, bool, api.Errno)       = desk.Handle
	_ func(int, int, int, string) (string, api.Errno)                              = link.Make
	_ func(string) (int, int, int, string, api.Errno)                              = link.Read
	_ func(api.Config, ...api.Entry) api.Errno                                     = ars.Check
	_ func(api.Config, api.Core, api.View, int, []bool, ...api.Entry) []int        = ars.Due
	_ func(api.Config, api.Core, api.Core, ...int) []int                           = ars.Berths
	_ func(api.Config, api.Core) []api.Breach                                      = watch.Judge
	_ func(api.Config, api.Core, api.Core) []int                                   = watch.Worse
	_ func(api.Core, int) api.Block                                                = block.Tell
	_ func(api.Config, api.Core, int, api.Block) (api.Core, api.Errno)             = block.Hear
	_ func(api.Config, api.Core, api.View, int) (api.Core, api.Errno)              = block.Step
	_ func(api.Config, api.Core, api.View, int) bool                               = kernel.Ready
	_ func(api.Config, api.Core, api.View, int) (api.Core, []int, api.Errno)       = kernel.Step
	_ func(api.Config, int) api.Core                                               = locks.New
	_ func(api.Config, api.Core) bool                                              = locks.Fits
	_ func(api.Config, api.Core, int, int) (api.Core, api.Errno)                   = locks.Request
	_ func(api.Config, api.Core, int, int) (api.Core, api.Errno)                   = locks.Cancel
	_ func(api.Config, api.Core, int) (api.Core, api.Errno)                        = locks.Restore
	_ func(api.Config, api.Core, int, int) (api.Core, api.Errno)                   = locks.Release
	_ func(api.Config, api.Core, int, int) (api.Core, api.Errno)                   = locks.Reset
	_ func(api.Config, api.Core, int, int, int) (api.Core, api.Errno)              = locks.Throw
	_ func(api.Core) (string, api.Errno)                                           = locks.Save
	_ func(api.Config, int, string) (api.Core, api.Errno)                          = locks.Load
	_ func(*cells.Memory) (*journal.Journal, []api.Record, api.Errno)              = journal.Open
	_ func(api.Config, []api.Entry, *cells.Memory, int) (*exec.Machine, api.Errno) = exec.Boot
	_ func(api.Config, ...api.Train) (*yard.Yard, api.Errno)                       = yard.New
	_ func(api.Config, []api.Entry, ...api.Train) (*station.Station, api.Errno)    = station.New
	_ func(int) *pack.Writer                                                       = pack.New
	_ func(string) *pack.Reader                                                    = pack.Read
	_ func(int) *ring.Ring[string]                                                 = ring.New[string]
	_ func() *cells.Memory                                                         = cells.New
	_ func(int) *link.Sender                                                       = link.NewSender
	_ func(int, int) *link.Receiver                                                = link.NewReceiver
	_ func(api.Config) *image.Image                                                = image.New
	_ func() *wires.Wires                                                          = wires.New
)

// The layers' objects, by their methods.
var (
	_ writer   = (*pack.Writer)(nil)
	_ reader   = (*pack.Reader)(nil)
	_ queue    = (*ring.Ring[string])(nil)
	_ memory   = (*cells.Memory)(nil)
	_ recorder = (*journal.Journal)(nil)
	_ sender   = (*link.Sender)(nil)
	_ receiver = (*link.Receiver)(nil)
	_ picture  = (*image.Image)(nil)
	_ machine  = (*exec.Machine)(nil)
	_ field    = (*yard.Yard)(nil)
	_ cable    = (*wires.Wires)(nil)
	_ whole    = (*station.Station)(nil)
)

type (
	writer interface {
		Byte(...int)
		Word(...int)
		Long(...int)
		Text(...string)
		Len() int
		Done() (string, api.Errno)
	}
	reader interface {
		Byte() int
		Word() int
		Long() int
		Text() string
		Left() int
		End() api.Errno
	}
	queue interface {
		Put(...string) int
		Take() (string, bool)
		All() []string
		Len() int
		Cap() int
		Lost() int
	}
	memory interface {
		Burn(int, int, ...string) api.Errno
		Erase(int) api.Errno
		Read(int, int, int) (string, api.Errno)
		Bare(int) int
		Worn(int) int
		Arm(...api.Cut)
		Acts() int
		Down() bool
		Again() *cells.Memory
	}
	recorder interface {
		Append(int, string) api.Errno
		Safe() (string, bool)
		Next() int
		Down() bool
	}
	sender interface {
		Send(int, string) (string, api.Errno)
	}
	receiver interface {
		Take(int, string) (string, api.Errno)
		Last() int
		Alive(int) bool
		Lost() int
	}
	picture interface {
		Take(int, int, string) api.Errno
		View(int) api.View
		Alive(int, int) bool
		Lost() int
	}
	machine interface {
		Cycle(int, int, ...api.Telegram) ([]api.Telegram, api.Errno)
		Core() api.Core
		Latched() bool
		Down() bool
		Units() int
		Rejected() int
		Berths() []int
	}
	field interface {
		Tick(int)
		Take(int, string) api.Errno
		Look()
		Status(int) api.Status
		Fault(int, int, bool) api.Errno
		Move(int) api.Errno
		Tail(int) api.Errno
		Turn(int) api.Errno
		Leave(int) api.Errno
		Enter(int) api.Errno
		Trains() []api.Train
		Shows(int) int
		Now() int
		Hits() []api.Hit
	}
	cable interface {
		Set(int, int) api.Errno
		Pass(...api.Telegram) []api.Telegram
		Under() int
	}
	whole interface {
		Do(api.Do) api.Errno
		Now() int
		Core() api.Core
		Down() bool
		Latched() bool
		Units() int
		Berths() []int
		Trains() []api.Train
		Shows() []int
		Hits() []api.Hit
		Replies() []string
		Told(int) api.Block
	}
)

// TestFaces has nothing to do but to be built.
func TestFaces(t *testing.T) {}

// The document's section Limits.
func TestLimits(t *testing.T) {
	got := []int{api.MaxSections, api.MaxJoints, api.MaxSignals, api.MaxCrossings, api.MaxRoutes, api.MaxPath, api.MaxOC, api.MaxLines, api.MaxTrains, api.Travel, api.MaxAge, api.MaxBrake, api.MaxHold, api.MaxBudget, api.MaxTime, api.MaxText, api.MaxBody, api.MaxQueue, api.Pages, api.PageSize, api.MaxEntries, api.MaxSessions, api.MaxWait}
	want := []int{16, 24, 12, 4, 12, 8, 4, 3, 4, 2, 8, 8, 40, 1000000, 4294967295, 255, 1024, 64, 24, 4096, 16, 4, 16}
	if !slices.Equal(got, want) {
		t.Errorf("%v, want %v", got, want)
	}
	if api.OK != 0 {
		t.Error("OK is no error")
	}
}
