package rules

// These declarations don't build any more if a call that the chapters list is gone, or has another signature.

import (
	"lapwing/addr"
	"lapwing/api"
	"lapwing/bits"
	"lapwing/bus"
	"lapwing/clock"
	"lapwing/console"
	"lapwing/ctrl"
	"lapwing/draw"
	"lapwing/entity"
	"lapwing/fcs"
	"lapwing/flow"
	"lapwing/frame"
	"lapwing/hdlc"
	"lapwing/mux"
	"lapwing/network"
	"lapwing/pool"
	"lapwing/queue"
	"lapwing/seq"
	"lapwing/source"
	"lapwing/teimsg"
	"lapwing/terminal"
	"lapwing/user"
	"lapwing/world"
)

// Layer 1: bits.
var (
	_ func(string) string               = bits.Of
	_ func(string) (string, api.Errno)  = bits.Octets
	_ func(string) bool                 = bits.Good
	_ func(string, ...int) string       = bits.Flip
	_ func(byte, int, int) int          = bits.Field
	_ func(...[2]int) (byte, api.Errno) = bits.Pack
)

// Layer 2: fcs.
var (
	_ func(uint16, byte) uint16        = fcs.Step
	_ func(string) uint16              = fcs.Sum
	_ func(string) string              = fcs.Seal
	_ func(string) (string, api.Errno) = fcs.Check
)

// Layer 3: hdlc.
var (
	_ func(string) string                      = hdlc.Stuff
	_ func(string) (string, api.Errno)         = hdlc.Unstuff
	_ func(string) string                      = hdlc.Encode
	_ func() *hdlc.Decoder                     = hdlc.New
	_ func(*hdlc.Decoder, string) []hdlc.Event = (*hdlc.Decoder).Feed
	_ func(*hdlc.Decoder) bool                 = (*hdlc.Decoder).Idle
)

// Layer 4: addr.
var (
	_ func(int) addr.Kind                      = addr.KindOf
	_ func(addr.Address) (string, api.Errno)   = addr.Put
	_ func(string) (addr.Address, api.Errno)   = addr.Get
	_ func(addr.Link, bool, bool) addr.Address = addr.Make
	_ func(addr.Address, bool) bool            = addr.Address.Command
)

// Layer 5: ctrl.
var (
	_ func(ctrl.Kind) bool                        = ctrl.Kind.Numbered
	_ func(ctrl.Control) (string, api.Errno)      = ctrl.Put
	_ func(string) (ctrl.Control, int, api.Errno) = ctrl.Get
	_ func(ctrl.Kind) string                      = ctrl.Kind.Name
)

// Layer 6: frame.
var (
	_ func(ctrl.Kind, bool) bool                  = frame.May
	_ func(ctrl.Kind, int) bool                   = frame.Carries
	_ func(frame.Frame, bool) (string, api.Errno) = frame.Put
	_ func(string, bool) (frame.Frame, api.Errno) = frame.Get
)

// Layer 7: teimsg.
var (
	_ func(teimsg.Type) bool                         = teimsg.Type.FromNetwork
	_ func(teimsg.Message) (string, api.Errno)       = teimsg.Put
	_ func(string) (teimsg.Message, api.Errno)       = teimsg.Get
	_ func(teimsg.Message) (frame.Frame, api.Errno)  = teimsg.Frame
	_ func(frame.Frame, bool) (teimsg.Message, bool) = teimsg.Of
)

// Layer 8: seq.
var (
	_ func(int) int            = seq.Norm
	_ func(int, int) int       = seq.Add
	_ func(int, int) int       = seq.Sub
	_ func(int, int, int) bool = seq.Valid
	_ func(int, int, int) int  = seq.Room
)

// Layer 9: clock.
var (
	_ func() *clock.Clock                                 = clock.New
	_ func(*clock.Clock, clock.Key, int64, int) api.Errno = (*clock.Clock).Start
	_ func(*clock.Clock, clock.Key) bool                  = (*clock.Clock).Stop
	_ func(*clock.Clock, int) int                         = (*clock.Clock).Drop
	_ func(*clock.Clock, clock.Key) (int64, bool)         = (*clock.Clock).Runs
	_ func(*clock.Clock) (int64, bool)                    = (*clock.Clock).Next
	_ func(*clock.Clock, int64) []clock.Key               = (*clock.Clock).Due
)

// Layer 10: queue.
var (
	_ func(int) *queue.Queue               = queue.New
	_ func(*queue.Queue, string) api.Errno = (*queue.Queue).Push
	_ func(*queue.Queue) (string, bool)    = (*queue.Queue).Take
	_ func(*queue.Queue, int) bool         = (*queue.Queue).Done
	_ func(*queue.Queue, int) bool         = (*queue.Queue).Back
	_ func(*queue.Queue) int               = (*queue.Queue).Sent
	_ func(*queue.Queue) int               = (*queue.Queue).Left
	_ func(*queue.Queue) int               = (*queue.Queue).Clear
	_ func(*queue.Queue) []string          = (*queue.Queue).List
)

// Layer 11: draw.
var (
	_ func(uint64, ...int) *draw.Source = draw.New
	_ func(*draw.Source) int            = (*draw.Source).Next
	_ func(*draw.Source) int            = (*draw.Source).Left
)

// Layer 12: pool.
var (
	_ func() *pool.Pool                 = pool.New
	_ func(*pool.Pool) (int, api.Errno) = (*pool.Pool).Assign
	_ func(*pool.Pool, int) api.Errno   = (*pool.Pool).Claim
	_ func(*pool.Pool, int) bool        = (*pool.Pool).Free
	_ func(*pool.Pool, int) bool        = (*pool.Pool).Has
	_ func(*pool.Pool) []int            = (*pool.Pool).List
)

// Layer 13: flow.
var (
	_ func(int, int) *flow.Flow              = flow.New
	_ func(*flow.Flow) flow.View             = (*flow.Flow).View
	_ func(*flow.Flow, string) api.Errno     = (*flow.Flow).Push
	_ func(*flow.Flow) (int, string, bool)   = (*flow.Flow).Take
	_ func(*flow.Flow, int) (int, api.Errno) = (*flow.Flow).Ack
	_ func(*flow.Flow)                       = (*flow.Flow).Back
	_ func(*flow.Flow, int) flow.Got         = (*flow.Flow).Come
	_ func(*flow.Flow, bool)                 = (*flow.Flow).SetPeer
	_ func(*flow.Flow, bool) bool            = (*flow.Flow).SetOwn
	_ func(*flow.Flow)                       = (*flow.Flow).Reset
	_ func(*flow.Flow) int                   = (*flow.Flow).Clear
)

// Layer 14: entity.
var (
	_ func(entity.Config) *entity.Entity                                    = entity.New
	_ func(*entity.Entity) entity.View                                      = (*entity.Entity).View
	_ func(*entity.Entity, entity.Ask, string) ([]entity.Effect, api.Errno) = (*entity.Entity).Ask
	_ func(*entity.Entity, int) ([]entity.Effect, api.Errno)                = (*entity.Entity).Assign
	_ func(*entity.Entity) ([]entity.Effect, api.Errno)                     = (*entity.Entity).Remove
	_ func(*entity.Entity, frame.Frame) []entity.Effect                     = (*entity.Entity).Frame
	_ func(*entity.Entity, int) []entity.Effect                             = (*entity.Entity).Timeout
)

// Layer 15: source.
var (
	_ func() *source.Source                                  = source.New
	_ func(*source.Source, teimsg.Message) []source.Effect   = (*source.Source).Message
	_ func(*source.Source, int) ([]source.Effect, api.Errno) = (*source.Source).Check
	_ func(*source.Source) []source.Effect                   = (*source.Source).Audit
	_ func(*source.Source, int) ([]source.Effect, api.Errno) = (*source.Source).Remove
	_ func(*source.Source, int) []source.Effect              = (*source.Source).Timeout
	_ func(*source.Source) []int                             = (*source.Source).List
	_ func(*source.Source) []source.Check                    = (*source.Source).Checks
)

// Layer 16: user.
var (
	_ func(int, *draw.Source) *user.User             = user.New
	_ func(*user.User) user.View                     = (*user.User).View
	_ func(*user.User) ([]user.Effect, api.Errno)    = (*user.User).Want
	_ func(*user.User, teimsg.Message) []user.Effect = (*user.User).Message
	_ func(*user.User) ([]user.Effect, api.Errno)    = (*user.User).Verify
	_ func(*user.User) ([]user.Effect, api.Errno)    = (*user.User).Drop
	_ func(*user.User) []user.Effect                 = (*user.User).Timeout
)

// Layer 17: mux.
var (
	_ func(int) *mux.Mux                       = mux.New
	_ func(*mux.Mux, addr.Link, int) api.Errno = (*mux.Mux).Join
	_ func(*mux.Mux, addr.Link) bool           = (*mux.Mux).Leave
	_ func(*mux.Mux, int) int                  = (*mux.Mux).Drop
	_ func(*mux.Mux, addr.Link) []int          = (*mux.Mux).Route
	_ func(*mux.Mux, int) []addr.Link          = (*mux.Mux).Links
)

// Layer 18: network.
var (
	_ func(network.Config) (*network.Network, api.Errno)                                 = network.New
	_ func(*network.Network, int64, int, entity.Ask, string) (network.Result, api.Errno) = (*network.Network).Ask
	_ func(*network.Network, int64, string) (network.Result, api.Errno)                  = (*network.Network).Bits
	_ func(*network.Network, int64) (network.Result, api.Errno)                          = (*network.Network).Tick
	_ func(*network.Network, int64) (network.Result, api.Errno)                          = (*network.Network).Audit
	_ func(*network.Network, int64, int) (network.Result, api.Errno)                     = (*network.Network).Remove
	_ func(*network.Network) (int64, bool)                                               = (*network.Network).Next
	_ func(*network.Network) []int                                                       = (*network.Network).List
	_ func(*network.Network, int) (entity.View, bool)                                    = (*network.Network).Link
)

// Layer 19: terminal.
var (
	_ func(terminal.Config, *draw.Source) (*terminal.Terminal, api.Errno)              = terminal.New
	_ func(*terminal.Terminal, int64, entity.Ask, string) (terminal.Result, api.Errno) = (*terminal.Terminal).Ask
	_ func(*terminal.Terminal, int64, string) (terminal.Result, api.Errno)             = (*terminal.Terminal).Bits
	_ func(*terminal.Terminal, int64) (terminal.Result, api.Errno)                     = (*terminal.Terminal).Tick
	_ func(*terminal.Terminal, int64) (terminal.Result, api.Errno)                     = (*terminal.Terminal).Drop
	_ func(*terminal.Terminal) (int64, bool)                                           = (*terminal.Terminal).Next
	_ func(*terminal.Terminal) entity.View                                             = (*terminal.Terminal).Link
	_ func(*terminal.Terminal) user.View                                               = (*terminal.Terminal).User
)

// Layer 20: bus.
var (
	_ func(int) *bus.Bus                       = bus.New
	_ func(*bus.Bus) int                       = (*bus.Bus).Size
	_ func(*bus.Bus, string) int               = (*bus.Bus).Down
	_ func(*bus.Bus, int, string) api.Errno    = (*bus.Bus).Up
	_ func(*bus.Bus, bool, int) (string, bool) = (*bus.Bus).Take
	_ func(*bus.Bus, bool, int, ...int) bool   = (*bus.Bus).Spoil
	_ func(*bus.Bus, bool, int) int            = (*bus.Bus).Len
	_ func(*bus.Bus, int) int                  = (*bus.Bus).Clear
)

// Layer 21: world.
var (
	_ func(world.Config) (*world.World, api.Errno)                          = world.New
	_ func(*world.World, int, entity.Ask, string) ([]world.Told, api.Errno) = (*world.World).Ask
	_ func(*world.World, int, entity.Ask, string) ([]world.Told, api.Errno) = (*world.World).AskNetwork
	_ func(*world.World, bool, int, bool, ...int) ([]world.Told, bool)      = (*world.World).Move
	_ func(*world.World, int) ([]world.Told, api.Errno)                     = (*world.World).Pass
	_ func(*world.World, int) ([]world.Told, api.Errno)                     = (*world.World).Drop
	_ func(*world.World) []world.Told                                       = (*world.World).Audit
	_ func(*world.World, int) []world.Told                                  = (*world.World).Settle
	_ func(*world.World) int64                                              = (*world.World).Now
	_ func(*world.World, bool, int) int                                     = (*world.World).Len
	_ func(*world.World) *network.Network                                   = (*world.World).Network
	_ func(*world.World, int) *terminal.Terminal                            = (*world.World).Terminal
)

// Layer 22: console.
var (
	_ func() *console.Console               = console.New
	_ func(*console.Console, string) string = (*console.Console).Do
	_ func(string) (string, api.Errno)      = console.Run
)
