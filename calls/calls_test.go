// Package calls holds the calls of all layers against the chapters: it doesn't build if a signature is another one.
package calls

import (
	"testing"

	"whilom/api"
	"whilom/arena"
	"whilom/box"
	"whilom/bridge"
	"whilom/chain"
	"whilom/crc"
	"whilom/desk"
	"whilom/edit"
	"whilom/exact"
	"whilom/frame"
	"whilom/fuse"
	"whilom/group"
	"whilom/grove"
	"whilom/item"
	"whilom/lanes"
	"whilom/legal"
	"whilom/line"
	"whilom/partial"
	"whilom/past"
	"whilom/pile"
	"whilom/save"
	"whilom/shelf"
	"whilom/tag"
	"whilom/tide"
	"whilom/undo"
	"whilom/verb"
	"whilom/wave"
	"whilom/words"
)

type (
	marks = grove.Tree[wave.Mark, wave.Swell]
	slots = grove.Tree[shelf.Slot, shelf.Size]
)

// Layers 1 and 2.
var (
	_ func(int, int) (int, bool)         = exact.Add
	_ func(int, int) (int, bool)         = exact.Sub
	_ func(int, int) (int, bool)         = exact.Mul
	_ func(int, int) int                 = exact.Mid
	_ func(int) (int, bool)              = exact.Next
	_ func(int) (int, bool)              = exact.Prior
	_ func(api.Item, api.Item) int       = item.Compare
	_ func(...api.Item) (api.Item, bool) = item.Least
	_ func(...api.Item) (api.Item, bool) = item.Most
	_ func([]api.Item) []api.Item        = item.Sorted
	_ func(api.Item) string              = item.Text
	_ func(string) (api.Item, bool)      = item.Read
)

// Layers 3 to 5.
var (
	_ func(int) *arena.Pool[string]                     = arena.New[string]
	_ func(*arena.Pool[string], string) (api.Ref, bool) = (*arena.Pool[string]).Put
	_ func(*arena.Pool[string], api.Ref) (string, bool) = (*arena.Pool[string]).Get
	_ func(*arena.Pool[string], api.Ref, string) bool   = (*arena.Pool[string]).Set
	_ func(*arena.Pool[string], api.Ref) (string, bool) = (*arena.Pool[string]).Drop
	_ func(*arena.Pool[string]) int                     = (*arena.Pool[string]).Len
	_ func(*arena.Pool[string]) int                     = (*arena.Pool[string]).Cap
	_ func(*arena.Pool[string]) int                     = (*arena.Pool[string]).Visits
	_ func(int) *pile.Pile[string]                      = pile.New[string]
	_ func(*pile.Pile[string], string) (string, bool)   = (*pile.Pile[string]).Push
	_ func(*pile.Pile[string]) (string, bool)           = (*pile.Pile[string]).Pop
	_ func(*pile.Pile[string]) (string, bool)           = (*pile.Pile[string]).Top
	_ func(*pile.Pile[string]) int                      = (*pile.Pile[string]).Len
	_ func(*pile.Pile[string]) []string                 = (*pile.Pile[string]).List
	_ func(*pile.Pile[string])                          = (*pile.Pile[string]).Clear
	_ func(int) *box.Box[string]                        = box.New[string]
	_ func(*box.Box[string], string) bool               = (*box.Box[string]).Offer
	_ func(*box.Box[string]) (string, bool)             = (*box.Box[string]).Take
	_ func(*box.Box[string]) int                        = (*box.Box[string]).Len
	_ func(*box.Box[string]) int                        = (*box.Box[string]).Cap
	_ func(*box.Box[string]) bool                       = (*box.Box[string]).Close
	_ func(*box.Box[string]) bool                       = (*box.Box[string]).Closed
	_ func(...*box.Box[string]) (string, int, bool)     = box.Pick[string]
	_ func(*box.Box[string], *box.Box[string]) int      = box.Pour[string]
)

// Layers 6 to 8.
var (
	_                                                   = tide.Tide{N: 0, Sum: 0, Low: 0}
	_ func(...int) tide.Tide                            = tide.Of
	_ func(tide.Tide, tide.Tide) tide.Tide              = tide.Tide.Plus
	_ func(tide.Tide, int) int                          = tide.Tide.Least
	_ grove.Sum[wave.Swell]                             = wave.Swell{}
	_ grove.Elem[wave.Mark, wave.Swell]                 = wave.Mark{}
	_ func(int) *marks                                  = grove.New[wave.Mark, wave.Swell]
	_ func(*marks) int                                  = (*marks).Len
	_ func(*marks, wave.Mark) bool                      = (*marks).Put
	_ func(*marks, wave.Mark) (wave.Mark, bool)         = (*marks).Drop
	_ func(*marks, wave.Mark) (wave.Mark, bool)         = (*marks).Find
	_ func(*marks, wave.Mark) int                       = (*marks).Rank
	_ func(*marks, int) (wave.Mark, bool)               = (*marks).At
	_ func(*marks, int, int) wave.Swell                 = (*marks).Between
	_ func(*marks, int, func(_, _ wave.Swell) bool) int = (*marks).First
	_ func(*marks, int, func(_, _ wave.Swell) bool) int = (*marks).Last
	_ func(*marks, wave.Mark) *marks                    = (*marks).Split
	_ func(*marks, *marks) bool                         = (*marks).Join
	_ func(*marks) []wave.Mark                          = (*marks).All
	_ func(*marks) int                                  = (*marks).Height
	_ func(*marks) int                                  = (*marks).Visits
	_                                                   = wave.Mark{Op: api.Op{}, Here: false, Took: api.Took{}}
	_                                                   = wave.Swell{Count: tide.Tide{}, Weight: tide.Tide{}, Deletes: 0, Free: 0, Most: api.Item{}, Gone: api.Took{}, Least: api.Took{}}
	_ func(int) wave.Mark                               = wave.Key
	_ func(wave.Mark, wave.Mark) int                    = wave.Mark.Compare
	_ func(wave.Mark) wave.Swell                        = wave.Mark.Sum
	_ func(wave.Swell, wave.Swell) wave.Swell           = wave.Swell.Plus
	_ func(wave.Swell, api.Item) bool                   = wave.Swell.Above
	_ func(int) *marks                                  = wave.New
)

// Layers 9 to 11.
var (
	_                                         = shelf.Slot{Item: api.Item{}, Eaten: false, Time: 0}
	_ int                                     = int(shelf.Size(0))
	_ func(api.Item) shelf.Slot               = shelf.Of
	_ func(shelf.Slot, shelf.Slot) int        = shelf.Slot.Compare
	_ func(shelf.Slot) shelf.Size             = shelf.Slot.Sum
	_ func(shelf.Size, shelf.Size) shelf.Size = shelf.Size.Plus
	_ func(int) *slots                        = shelf.New
	_ func(*slots) []api.Item                 = shelf.Items
	_ func(*slots, api.Item) int              = shelf.Above
	_ func(*marks, int, int) int              = bridge.Height
	_ func(*marks, int, int) int              = bridge.Next
	_ func(*marks, int, int) int              = bridge.Prior
	_ func(*marks, int) api.Took              = bridge.Best
	_ func(*marks, int) api.Took              = bridge.Least
	_ func(*marks, int, int) int              = legal.Low
	_ func(*marks) bool                       = legal.Right
	_ func(*marks, int) bool                  = legal.MayDelete
	_ func(*marks, int) bool                  = legal.MayRevoke
	_ func(*marks, int, int) bool             = legal.MayMove
)

// Layers 12 to 14.
var (
	_ func(int) *partial.Queue                                    = partial.New
	_ func(*partial.Queue, int, api.Item) (api.Change, api.Errno) = (*partial.Queue).Insert
	_ func(*partial.Queue, int) (api.Change, api.Errno)           = (*partial.Queue).Delete
	_ func(*partial.Queue, int) (api.Change, api.Errno)           = (*partial.Queue).Revoke
	_ func(*partial.Queue) int                                    = (*partial.Queue).Len
	_ func(*partial.Queue) int                                    = (*partial.Queue).Deletes
	_ func(*partial.Queue) int                                    = (*partial.Queue).Excess
	_ func(*partial.Queue) []api.Op                               = (*partial.Queue).Ops
	_ func(*partial.Queue) *slots                                 = (*partial.Queue).Present
	_ func(*partial.Queue) *slots                                 = (*partial.Queue).Gone
	_ func(*partial.Queue) *marks                                 = (*partial.Queue).Marks
	_ func(*partial.Queue) int                                    = (*partial.Queue).Visits
	_ func() fuse.Views                                           = fuse.None
	_ func(fuse.Views, *partial.Queue) fuse.Views                 = fuse.Views.Then
	_ func(fuse.Views) int                                        = fuse.Views.Len
	_ func(fuse.Views, int) (api.Item, bool)                      = fuse.Views.At
	_ func(fuse.Views) (api.Item, bool)                           = fuse.Views.Min
	_ func(fuse.Views, api.Item) bool                             = fuse.Views.Has
	_ func(fuse.Views) []api.Item                                 = fuse.Views.Items
	_ func(int) *past.Past                                        = past.New
	_ func(*past.Past, int, api.Item) api.Errno                   = (*past.Past).Insert
	_ func(*past.Past, int) api.Errno                             = (*past.Past).Delete
	_ func(*past.Past, int) api.Errno                             = (*past.Past).Revoke
	_ func(*past.Past) int                                        = (*past.Past).Len
	_ func(*past.Past) []api.Op                                   = (*past.Past).Ops
	_ func(*past.Past, int) fuse.Views                            = (*past.Past).At
	_ func(*past.Past, int) fuse.Views                            = (*past.Past).Ahead
	_ func(*past.Past) int                                        = (*past.Past).Height
)

// Layers 15 and 16.
var (
	_ func(int) *chain.Chain                                      = chain.New
	_ func(*chain.Chain, int, api.Item) (api.Report, api.Errno)   = (*chain.Chain).Insert
	_ func(*chain.Chain, int) (api.Report, api.Errno)             = (*chain.Chain).Delete
	_ func(*chain.Chain, int) (api.Report, api.Errno)             = (*chain.Chain).Revoke
	_ func(*chain.Chain, int, int) (api.Report, api.Errno)        = (*chain.Chain).Move
	_ func(*chain.Chain, int) (api.Took, bool)                    = (*chain.Chain).Took
	_ func(*chain.Chain, api.Item) (int, bool)                    = (*chain.Chain).Eater
	_ func(*chain.Chain, int) fuse.Views                          = (*chain.Chain).At
	_ func(*chain.Chain) *partial.Queue                           = (*chain.Chain).Queue
	_ func(int) *tag.Table                                        = tag.New
	_ func(*tag.Table, int, bool, int) (api.Listed, api.Errno)    = (*tag.Table).Issue
	_ func(*tag.Table, api.Listed) api.Errno                      = (*tag.Table).Revive
	_ func(*tag.Table, api.Ref) (api.Op, bool)                    = (*tag.Table).Find
	_ func(*tag.Table, int) (api.Ref, bool)                       = (*tag.Table).At
	_ func(*tag.Table, api.Ref) (api.Op, bool)                    = (*tag.Table).Drop
	_ func(*tag.Table, api.Ref, int) api.Errno                    = (*tag.Table).Move
	_ func(*tag.Table) int                                        = (*tag.Table).Len
	_ func(*tag.Table) int                                        = (*tag.Table).Cap
	_ func(*tag.Table) int                                        = (*tag.Table).Serial
	_ func(*tag.Table) []int                                      = (*tag.Table).Lasts
	_ func(*tag.Table) []api.Listed                               = (*tag.Table).List
	_ func(int, int, []int, []api.Listed) (*tag.Table, api.Errno) = tag.Make
)

// Layer 17.
var (
	_ func(int) (*line.Line, api.Errno)                           = line.New
	_ func(*tag.Table) (*line.Line, api.Errno)                    = line.Make
	_ func(*line.Line, int, int) (api.Ref, api.Report, api.Errno) = (*line.Line).Insert
	_ func(*line.Line, int) (api.Ref, api.Report, api.Errno)      = (*line.Line).Delete
	_ func(*line.Line, api.Ref) (api.Report, api.Errno)           = (*line.Line).Revoke
	_ func(*line.Line, api.Ref, int) (api.Report, api.Errno)      = (*line.Line).Move
	_ func(*line.Line, api.Listed) (api.Report, api.Errno)        = (*line.Line).Revive
	_ func(*line.Line, api.Ref) (api.Op, api.Errno)               = (*line.Line).Find
	_ func(*line.Line, int) (api.Item, api.Errno)                 = (*line.Line).Min
	_ func(*line.Line, int) int                                   = (*line.Line).Size
	_ func(*line.Line, int, int) (api.Item, api.Errno)            = (*line.Line).Kth
	_ func(*line.Line, int, api.Ref) (bool, api.Errno)            = (*line.Line).Has
	_ func(*line.Line) []api.Item                                 = (*line.Line).Now
	_ func(*line.Line, api.Ref) (api.Ref, api.Errno)              = (*line.Line).Eater
	_ func(*line.Line, api.Ref) (api.Item, api.Errno)             = (*line.Line).Took
	_ func(*line.Line) *tag.Table                                 = (*line.Line).Tags
)

// Layers 18 to 22.
var (
	_ func([]byte) uint32                                                   = crc.Sum
	_ func(uint32, []byte) uint32                                           = crc.More
	_ func(...[]byte) []byte                                                = frame.Put
	_ func([]byte) ([][]byte, api.Errno)                                    = frame.Get
	_ func(...int) []byte                                                   = frame.Numbers
	_ func([]byte) ([]int, bool)                                            = frame.Read
	_ func([]byte) []string                                                 = words.Lines
	_ func(string) ([]string, api.Errno)                                    = words.Split
	_ func(...string) (string, bool)                                        = words.Join
	_ func([]string) (api.Said, api.Errno)                                  = verb.Parse
	_ func(api.Said) (string, bool)                                         = verb.Show
	_ func(api.Ref) string                                                  = verb.Handle
	_ func(int) string                                                      = verb.Number
	_ func(*line.Line, api.Edit) (api.Edit, api.Done, api.Errno)            = edit.Apply
	_ func(*line.Line, []api.Edit) ([]api.Edit, []api.Done, int, api.Errno) = edit.All
)

// Layers 23 to 25.
var (
	_ func(*line.Line) *undo.Book                                          = undo.New
	_ func(*line.Line, [][]api.Edit, [][]api.Edit) (*undo.Book, api.Errno) = undo.Make
	_ func(*undo.Book) *line.Line                                          = (*undo.Book).Line
	_ func(*undo.Book, ...api.Edit) ([]api.Done, int, api.Errno)           = (*undo.Book).Do
	_ func(*undo.Book, []api.Edit)                                         = (*undo.Book).Note
	_ func(*undo.Book) ([]api.Done, api.Errno)                             = (*undo.Book).Undo
	_ func(*undo.Book) ([]api.Done, api.Errno)                             = (*undo.Book).Redo
	_ func(*undo.Book) ([][]api.Edit, [][]api.Edit)                        = (*undo.Book).Lists
	_ func(*undo.Book) *group.Group                                        = group.New
	_ func(*group.Group) *undo.Book                                        = (*group.Group).Book
	_ func(*group.Group) bool                                              = (*group.Group).Open
	_ func(*group.Group) api.Errno                                         = (*group.Group).Begin
	_ func(*group.Group) api.Errno                                         = (*group.Group).End
	_ func(*group.Group) api.Errno                                         = (*group.Group).Cancel
	_ func(*group.Group, api.Edit) (api.Done, api.Errno)                   = (*group.Group).Do
	_ func(*group.Group) ([]api.Done, api.Errno)                           = (*group.Group).Undo
	_ func(*group.Group) ([]api.Done, api.Errno)                           = (*group.Group).Redo
	_ func(*undo.Book) []byte                                              = save.Save
	_ func([]byte) (*undo.Book, api.Errno)                                 = save.Load
)

// Layers 26 and 27.
var (
	_ func(int) (*desk.Desk, api.Errno)                      = desk.New
	_ func(*undo.Book) *desk.Desk                            = desk.Open
	_ func([]byte) (*desk.Desk, api.Errno)                   = desk.Load
	_ func(*desk.Desk) *group.Group                          = (*desk.Desk).Group
	_ func(*desk.Desk, api.Said) api.Answer                  = (*desk.Desk).Do
	_ func(*desk.Desk, string) string                        = (*desk.Desk).Line
	_ func(*desk.Desk, []byte) string                        = (*desk.Desk).Run
	_ func(*desk.Desk) ([]byte, api.Errno)                   = (*desk.Desk).Save
	_ func(api.Said, api.Answer) string                      = desk.Tell
	_                                                        = lanes.Served{Answers: [][]string{}, Lines: 0, Quit: false}
	_ func([][]string) ([]string, []int)                     = lanes.Merge
	_ func(*desk.Desk, [][]string) (lanes.Served, api.Errno) = lanes.Serve
)

// TestErrors holds the errors that all layers answer against the document's numbers and texts.
func TestErrors(t *testing.T) {
	for _, x := range []struct {
		e    api.Errno
		text string
	}{
		{api.OK, "whilom: error 0"}, {api.ErrNil, "whilom: error 1"}, {api.ErrArg, "whilom: error 2"},
		{api.ErrFull, "whilom: error 10"}, {api.ErrTime, "whilom: error 11"}, {api.ErrEmpty, "whilom: error 12"},
		{api.ErrHandle, "whilom: error 13"}, {api.ErrNone, "whilom: error 14"}, {api.ErrUndo, "whilom: error 20"},
		{api.ErrRedo, "whilom: error 21"}, {api.ErrGroup, "whilom: error 22"}, {api.ErrLex, "whilom: error 30"},
		{api.ErrParse, "whilom: error 31"}, {api.ErrLong, "whilom: error 32"}, {api.ErrFrame, "whilom: error 40"},
		{api.ErrSum, "whilom: error 41"}, {api.ErrForm, "whilom: error 42"}, {-1, "whilom: error"},
	} {
		if got := x.e.Error(); got != x.text {
			t.Errorf("error %d: %q; want %q", int(x.e), got, x.text)
		}
	}
}
