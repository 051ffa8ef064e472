package ground

import (
	"patina/api"
	"patina/array"
	"patina/claim"
	"patina/dev"
	"patina/field"
	"patina/frame"
	"patina/front"
	"patina/gc"
	"patina/geom"
	"patina/health"
	"patina/judge"
	"patina/media"
	"patina/mount"
	"patina/move"
	"patina/nand"
	"patina/patrol"
	"patina/pmap"
	"patina/point"
	"patina/pool"
	"patina/rs"
	"patina/script"
	"patina/tag"
	"patina/wire"
	"patina/world"
)

// The calls that the chapters list, with their signatures: the compiler refuses any other.
var (
	// field
	_ func() *field.Field                          = field.New
	_ func(*field.Field, byte, byte) byte          = (*field.Field).Mul
	_ func(*field.Field, byte) (byte, error)       = (*field.Field).Inv
	_ func(*field.Field, byte, byte) (byte, error) = (*field.Field).Div
	_ func(*field.Field, int) byte                 = (*field.Field).Exp
	_ func(*field.Field, byte) (int, error)        = (*field.Field).Log
	_ func(*field.Field, []byte, byte) byte        = (*field.Field).Eval
	_ func(*field.Field, []byte, []byte) []byte    = (*field.Field).Times
	// rs
	_ func() *rs.Codec                             = rs.New
	_ func(*rs.Codec, []byte) ([]byte, error)      = (*rs.Codec).Encode
	_ func(*rs.Codec, []byte) ([]byte, error)      = (*rs.Codec).Syndromes
	_ func(*rs.Codec, []byte) ([]byte, int, error) = (*rs.Codec).Decode
	// wire
	_ func(uint64, int) ([]byte, error) = wire.Put
	_ func([]byte) (uint64, error)      = wire.Get
	_ func() []byte                     = wire.Mark
	_ func([]byte) ([]byte, error)      = wire.Seal
	_ func([]byte) ([]byte, error)      = wire.Open
	_ func([]byte, []byte) (int, error) = wire.Apart
	// geom
	_ func(int, int) (int, error)      = geom.Place
	_ func(int) (int, int, error)      = geom.Parts
	_ func(int, int) (bool, error)     = geom.Holds
	_ func(int, int) (int, error)      = geom.On
	_ func(int) (int, int, int, error) = geom.Bit
	// nand
	_ func() *nand.Chip                                = nand.New
	_ func(*nand.Chip, int) ([]byte, error)            = (*nand.Chip).Read
	_ func(*nand.Chip, int, int, []byte) error         = (*nand.Chip).Write
	_ func(*nand.Chip, int) error                      = (*nand.Chip).Erase
	_ func(*nand.Chip, int, int) error                 = (*nand.Chip).Flip
	_ func(*nand.Chip, int, int) error                 = (*nand.Chip).FailProgram
	_ func(*nand.Chip, int) error                      = (*nand.Chip).FailErase
	_ func(*nand.Chip, int) error                      = (*nand.Chip).Cut
	_ func(*nand.Chip)                                 = (*nand.Chip).Power
	_ func(*nand.Chip) bool                            = (*nand.Chip).On
	_ func(*nand.Chip, int) (int, error)               = (*nand.Chip).Reads
	_ func(*nand.Chip, int, int) (int, int, error)     = (*nand.Chip).Damage
	_ func(*nand.Chip, int, int) ([]byte, bool, error) = (*nand.Chip).Truth
	_ func(*nand.Chip, int) (bool, error)              = (*nand.Chip).Failed
	_ func(*nand.Chip) int                             = (*nand.Chip).Steps
	_ func(*nand.Chip) *nand.Chip                      = (*nand.Chip).Clone
	// frame
	_ func() *frame.Frame                                  = frame.New
	_ func(*frame.Frame, []byte, []byte) ([][]byte, error) = (*frame.Frame).Lay
	_ func(*frame.Frame, []byte, int) ([]byte, int, error) = (*frame.Frame).Message
	_ func(*frame.Frame, []byte) ([]byte, int, error)      = (*frame.Frame).Data
	_ func(*frame.Frame, []byte) ([]byte, int, error)      = (*frame.Frame).Body
	// tag
	_ func(api.Tag) error           = tag.Check
	_ func(api.Tag) ([]byte, error) = tag.Encode
	_ func([]byte) (api.Tag, error) = tag.Decode
	// media
	_ func(*nand.Chip) *media.Media                  = media.New
	_ func(*media.Media, int) (api.Page, error)      = (*media.Media).Read
	_ func(*media.Media, int, api.Tag, []byte) error = (*media.Media).Program
	_ func(*media.Media, int) error                  = (*media.Media).Erase
	_ func(*media.Media) int                         = (*media.Media).Reads
	// point
	_ func(api.Checkpoint) ([]byte, error) = point.Write
	_ func([]byte) (api.Checkpoint, error) = point.Read
	// claim
	_ func(int, int) bool                                    = claim.Ahead
	_ func([]api.Found, int, int64) (api.Found, bool)        = claim.Newest
	_ func([]api.Found, api.Checkpoint) [api.Sectors + 1]int = claim.Live
	_ func([]api.Found, api.Checkpoint) int64                = claim.Next
	// pool
	_ func() *pool.Pool                  = pool.New
	_ func(*pool.Pool, int) (int, error) = (*pool.Pool).State
	_ func(*pool.Pool, int, int) error   = (*pool.Pool).Set
	_ func(*pool.Pool) (int, error)      = (*pool.Pool).Take
	_ func(*pool.Pool, int) int          = (*pool.Pool).Count
	_ func(*pool.Pool) int               = (*pool.Pool).Bound
	_ func(*pool.Pool) bool              = (*pool.Pool).Spare
	_ func(*pool.Pool) bool              = (*pool.Pool).Worn
	_ func(*pool.Pool) []int             = (*pool.Pool).States
	// pmap
	_ func() *pmap.Map                    = pmap.New
	_ func(*pmap.Map, int, int) error     = (*pmap.Map).Set
	_ func(*pmap.Map, int) error          = (*pmap.Map).Drop
	_ func(*pmap.Map, int) (int, error)   = (*pmap.Map).At
	_ func(*pmap.Map, int) (int, error)   = (*pmap.Map).Owner
	_ func(*pmap.Map, int) ([]int, error) = (*pmap.Map).Of
	_ func(*pmap.Map) []int               = (*pmap.Map).Live
	// front
	_ func(*front.Front, int, int) error   = (*front.Front).Open
	_ func(*front.Front)                   = (*front.Front).Close
	_ func(*front.Front) int               = (*front.Front).Block
	_ func(*front.Front, int) bool         = (*front.Front).Room
	_ func(*front.Front, int) (int, error) = (*front.Front).Take
	// gc
	_ func([]int, []int) (int, error) = gc.Choose
	_ func([]int, []int) (int, error) = gc.Gain
	// patrol
	_ func(int) (*patrol.Patrol, error) = patrol.New
	_ func(*patrol.Patrol) []int        = (*patrol.Patrol).Step
	_ func(*patrol.Patrol) int          = (*patrol.Patrol).Cursor
	_ func(*patrol.Patrol) bool         = (*patrol.Patrol).Due
	_ func(*patrol.Patrol) int          = (*patrol.Patrol).Calls
	_ func(*patrol.Patrol)              = (*patrol.Patrol).Noted
	_ func(*patrol.Queue, int) error    = (*patrol.Queue).Add
	_ func(*patrol.Queue) (int, bool)   = (*patrol.Queue).Next
	_ func(*patrol.Queue) int           = (*patrol.Queue).Len
	// health
	_ func([]int, []int) (*health.Health, error) = health.New
	_ func(*health.Health, int) error            = (*health.Health).Read
	_ func(*health.Health, int) error            = (*health.Health).Report
	_ func(*health.Health, int) error            = (*health.Health).Erased
	_ func(*health.Health, int) (bool, error)    = (*health.Health).Tired
	_ func(*health.Health, int) (bool, error)    = (*health.Health).Weak
	_ func(*health.Health) bool                  = (*health.Health).Due
	_ func(*health.Health)                       = (*health.Health).Noted
	_ func(*health.Health) []int                 = (*health.Health).Reads
	_ func(*health.Health) []int                 = (*health.Health).Scores
	// move
	_ func(*nand.Chip, api.Checkpoint, []api.Found) (*move.Core, error) = move.New
	_ func(*move.Core, []int) error                                     = (*move.Core).Seen
	_ func(*move.Core, int, []byte) error                               = (*move.Core).Put
	_ func(*move.Core, int) ([]byte, error)                             = (*move.Core).Get
	_ func(*move.Core, int) error                                       = (*move.Core).Trim
	_ func(*move.Core) error                                            = (*move.Core).Note
	_ func(*move.Core, int, bool) error                                 = (*move.Core).Vacate
	_ func(*move.Core) error                                            = (*move.Core).Tend
	_ func(*move.Core) error                                            = (*move.Core).Clean
	_ func(*move.Core) api.View                                         = (*move.Core).View
	// mount
	_ func(*nand.Chip) ([]api.Found, error) = mount.Scan
	_ func(*nand.Chip) (*move.Core, error)  = mount.Mount
	// dev
	_ func(*nand.Chip) (*dev.Device, error)  = dev.New
	_ func(*dev.Device) error                = (*dev.Device).Mount
	_ func(*dev.Device, int) ([]byte, error) = (*dev.Device).Read
	_ func(*dev.Device, int, []byte) error   = (*dev.Device).Write
	_ func(*dev.Device, int) error           = (*dev.Device).Trim
	_ func(*dev.Device) (api.View, error)    = (*dev.Device).Report
	// array
	_ func() *array.Array                     = array.New
	_ func(*array.Array, int) ([]byte, error) = (*array.Array).Read
	_ func(*array.Array, int, []byte) error   = (*array.Array).Write
	_ func(*array.Array, int) error           = (*array.Array).Trim
	_ func(*array.Array) *array.Array         = (*array.Array).Clone
	_ func(*array.Array, *array.Array) []int  = (*array.Array).Differ
	// script
	_ func(int) []byte                 = script.Fill
	_ func(string) ([]api.Step, error) = script.Parse
	_ func([]api.Step) (string, error) = script.Text
	// world
	_ func() *world.World                        = world.New
	_ func(*world.World, api.Step) api.Reply     = (*world.World).Do
	_ func(*world.World) api.Look                = (*world.World).Look
	_ func(*world.World, []api.Step) []api.Entry = (*world.World).Run
	_ func(*world.World) (api.View, error)       = (*world.World).View
	_ func(*world.World) *nand.Chip              = (*world.World).Chip
	// judge
	_ func([]api.Entry) int        = judge.Judge
	_ func(string) (string, error) = judge.Play
)
