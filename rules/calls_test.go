package rules

import (
	"porpoise/api"
	"porpoise/batch"
	"porpoise/bits"
	"porpoise/breaker"
	"porpoise/bulk"
	"porpoise/cache"
	"porpoise/call"
	"porpoise/codec"
	"porpoise/coll"
	"porpoise/conf"
	"porpoise/dep"
	"porpoise/exec"
	"porpoise/health"
	"porpoise/hist"
	"porpoise/latch"
	"porpoise/metrics"
	"porpoise/only"
	"porpoise/permit"
	"porpoise/replay"
	"porpoise/ring"
	"porpoise/sat"
	"porpoise/script"
	"porpoise/timers"
	"porpoise/wheel"
	"porpoise/window"
)

// The calls that the chapters list, with their exact signatures: this file does not compile, if one is missing or another one.
var (
	_ func(uint64, uint64) uint64    = sat.Add
	_ func(uint64, uint64) uint64    = sat.Sub
	_ func(uint64, uint64) uint64    = sat.Mul
	_ func(...uint64) uint64         = sat.Sum
	_ func(uint64, uint64, int) bool = sat.AtLeast

	_ func(uint64) int          = bits.Len
	_ func(uint64, int) uint64  = bits.Block
	_ func(uint64, int) int     = bits.Slot
	_ func(uint64, uint64) int  = bits.Level
	_ func(uint64) [8]byte      = bits.Bytes
	_ func([]byte) uint64       = bits.From
	_ func(int64) (int32, bool) = bits.Narrow

	_ func(uint64) *wheel.Wheel                       = wheel.New
	_ func(*wheel.Wheel, api.Timer, uint64) api.Errno = (*wheel.Wheel).Put
	_ func(*wheel.Wheel, api.Timer) bool              = (*wheel.Wheel).Cancel
	_ func(*wheel.Wheel, api.Timer) (uint64, bool)    = (*wheel.Wheel).Due
	_ func(*wheel.Wheel, uint64) (api.Timer, bool)    = (*wheel.Wheel).Step
	_ func(*wheel.Wheel) uint64                       = (*wheel.Wheel).Now
	_ func(*wheel.Wheel) (uint64, bool)               = (*wheel.Wheel).Next
	_ func(*wheel.Wheel) int                          = (*wheel.Wheel).Len

	_ func(int) *ring.Ring         = ring.New
	_ func(*ring.Ring, int) bool   = (*ring.Ring).Push
	_ func(*ring.Ring) (int, bool) = (*ring.Ring).Pop
	_ func(*ring.Ring, int) bool   = (*ring.Ring).Remove
	_ func(*ring.Ring) []int       = (*ring.Ring).List
	_ func(*ring.Ring) int         = (*ring.Ring).Len
	_ func(*ring.Ring) bool        = (*ring.Ring).Full

	_ func(int) *permit.Set                 = permit.New
	_ func(*permit.Set, permit.Holder) bool = (*permit.Set).Take
	_ func(*permit.Set, permit.Holder) bool = (*permit.Set).Free
	_ func(*permit.Set, permit.Holder) bool = (*permit.Set).Holds
	_ func(*permit.Set) int                 = (*permit.Set).Used
	_ func(*permit.Set) bool                = (*permit.Set).Room
	_ func(*permit.Set) []permit.Holder     = (*permit.Set).All

	_ func(int, uint64) *window.Window                  = window.New
	_ func(*window.Window, uint64, int, uint64) bool    = (*window.Window).Add
	_ func(*window.Window, uint64) [window.Kinds]uint64 = (*window.Window).Counts
	_ func(*window.Window)                              = (*window.Window).Reset

	_ func(int, uint64) *hist.Hist                 = hist.New
	_ func(*hist.Hist, uint64, uint64)             = (*hist.Hist).Add
	_ func(*hist.Hist, uint64) [hist.Bins]uint64   = (*hist.Hist).All
	_ func(*hist.Hist, uint64, int) (uint64, bool) = (*hist.Hist).Percentile
	_ func(uint64) int                             = hist.Bin
	_ func(int) uint64                             = hist.Top

	_ func(api.Conf) (int, api.Errno)                     = conf.Check
	_ func(api.Conf) uint64                               = conf.Bound
	_ func(api.Conf) [conf.Fields]int64                   = conf.Put
	_ func([conf.Fields]int64) (api.Conf, int, api.Errno) = conf.Take

	_ func(api.Conf) *breaker.Breaker           = breaker.New
	_ func(*breaker.Breaker, uint64) int        = (*breaker.Breaker).Ask
	_ func(*breaker.Breaker, uint64) bool       = (*breaker.Breaker).Trip
	_ func(*breaker.Breaker, uint64, bool) bool = (*breaker.Breaker).Done
	_ func(*breaker.Breaker) bool               = (*breaker.Breaker).Back
	_ func(*breaker.Breaker) int                = (*breaker.Breaker).State
	_ func(*breaker.Breaker) uint64             = (*breaker.Breaker).Since

	_ func(api.Conf) *bulk.Bulk          = bulk.New
	_ func(*bulk.Bulk, int) (int, []int) = (*bulk.Bulk).Admit
	_ func(*bulk.Bulk) (int, bool)       = (*bulk.Bulk).Pick
	_ func(*bulk.Bulk, int) bool         = (*bulk.Bulk).Drop
	_ func(*bulk.Bulk, int) bool         = (*bulk.Bulk).Free
	_ func(*bulk.Bulk, int) bool         = (*bulk.Bulk).Runs
	_ func(*bulk.Bulk) int               = (*bulk.Bulk).Busy
	_ func(*bulk.Bulk) []int             = (*bulk.Bulk).Waiting

	_ func() *latch.Log                     = latch.New
	_ func(*latch.Log, api.Out) bool        = (*latch.Log).Emit
	_ func(*latch.Log, int) (api.Out, bool) = (*latch.Log).Of
	_ func(*latch.Log) []api.Out            = (*latch.Log).All
	_ func(*latch.Log, int) []api.Out       = (*latch.Log).Since
	_ func(api.Out) bool                    = latch.May

	_ func() *cache.Cache                                  = cache.New
	_ func(*cache.Cache, cache.Key, int) (int, cache.Told) = (*cache.Cache).Ask
	_ func(*cache.Cache, int, cache.Told) []int            = (*cache.Cache).Settle
	_ func(*cache.Cache, int) int                          = (*cache.Cache).Close
	_ func(*cache.Cache) int                               = (*cache.Cache).Len

	_ func(int, int) batch.Batch                           = batch.One
	_ func(batch.Batch, int, int, int) (batch.Batch, bool) = batch.Add
	_ func(batch.Batch, int) bool                          = batch.Full
	_ func(batch.Batch, []int) ([]batch.Pair, bool)        = batch.Split
	_ func(batch.Batch) int                                = batch.Lead

	_ func(uint64, int) *coll.Coll                 = coll.New
	_ func(*coll.Coll, uint64, int, int) coll.Step = (*coll.Coll).Add
	_ func(*coll.Coll, uint64) (batch.Batch, bool) = (*coll.Coll).Expire
	_ func(*coll.Coll) bool                        = (*coll.Coll).Open

	_ func(batch.Batch, uint64) call.Call           = call.Begin
	_ func(call.Call) (call.Call, bool)             = call.Run
	_ func(call.Call, int, int) (call.Call, bool)   = call.Fail
	_ func(call.Call) (call.Call, bool)             = call.End
	_ func(call.Call, int, []int, uint64) []api.Out = call.Outs

	_ func([window.Kinds]uint64) uint64                              = health.Errors
	_ func([window.Kinds]uint64) uint64                              = health.Volume
	_ func([window.Kinds]uint64, api.Conf) bool                      = health.Opens
	_ func(int) (int, bool)                                          = health.Kind
	_ func([]health.Event, uint64, int, uint64) [window.Kinds]uint64 = health.Of

	_ func(api.Conf) *dep.Dep                                               = dep.New
	_ func(*dep.Dep, uint64, batch.Batch) (dep.Result, api.Errno)           = (*dep.Dep).Offer
	_ func(*dep.Dep, uint64) (dep.Result, api.Errno)                        = (*dep.Dep).Pick
	_ func(*dep.Dep, uint64, int, bool, []int) (dep.Result, api.Errno)      = (*dep.Dep).Answer
	_ func(*dep.Dep, uint64, int, int, bool, []int) (dep.Result, api.Errno) = (*dep.Dep).Fallback
	_ func(*dep.Dep, uint64, int) dep.Result                                = (*dep.Dep).Late
	_ func(*dep.Dep, int) bool                                              = (*dep.Dep).Knows
	_ func(*dep.Dep, uint64) dep.Snap                                       = (*dep.Dep).Snap

	_ func() *timers.Clock                   = timers.New
	_ func(*timers.Clock, api.Timer, uint64) = (*timers.Clock).Set
	_ func(*timers.Clock, api.Timer) bool    = (*timers.Clock).Stop
	_ func(*timers.Clock, uint64)            = (*timers.Clock).Go
	_ func(*timers.Clock) (api.Timer, bool)  = (*timers.Clock).Next
	_ func(*timers.Clock) uint64             = (*timers.Clock).Now
	_ func(*timers.Clock) uint64             = (*timers.Clock).Goal
	_ func(*timers.Clock) int                = (*timers.Clock).Len

	_ func([]api.Conf) (*exec.Exec, int, api.Errno)      = exec.New
	_ func(*exec.Exec, api.Event) ([]api.Out, api.Errno) = (*exec.Exec).Do
	_ func(*exec.Exec) uint64                            = (*exec.Exec).Now
	_ func(*exec.Exec) []api.Out                         = (*exec.Exec).Log
	_ func(*exec.Exec, int) dep.Snap                     = (*exec.Exec).Snap
	_ func(*exec.Exec) int                               = (*exec.Exec).Size

	_ func([]api.Out) metrics.Sum                = metrics.Of
	_ func(metrics.Sum, metrics.Sum) metrics.Sum = metrics.Join
	_ func(dep.Snap) string                      = metrics.Line
	_ func(uint64) string                        = metrics.Num

	_ func([]api.Event, int, int) int                  = only.Owner
	_ func([]api.Event, int, int) []api.Event          = only.Only
	_ func([]api.Out, []api.Event, int, int) []api.Out = only.Outs

	_ func(api.Event) bool                        = codec.May
	_ func(api.Event) string                      = codec.Put
	_ func(string) (api.Event, string, api.Errno) = codec.Take
	_ func(string) ([]api.Event, api.Errno)       = codec.All

	_ func([]byte) []api.Conf                                   = script.Confs
	_ func([]byte) []api.Event                                  = script.Events
	_ func([]api.Conf, []api.Event) (script.Outcome, api.Errno) = script.Play

	_ func([]byte) ([]byte, []byte) = replay.Split
	_ func(script.Outcome) string   = replay.Text
	_ func([]byte) string           = replay.Run
)
