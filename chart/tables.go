package chart

import "malthouse/api"

// What states are.
const (
	acting set = 1<<api.Running | 1<<api.Pausing | 1<<api.Holding | 1<<api.Restarting | 1<<api.Stopping | 1<<api.Aborting
	quiet  set = 1<<api.Idle | 1<<api.Stopped | 1<<api.Aborted | 1<<api.Complete
)

// The states in which the commands Hold and Stop are permitted. The wider ones contain the narrower ones, since a higher command overrides a lower one.
const (
	holdable  set = 1<<api.Running | 1<<api.Pausing | 1<<api.Paused | 1<<api.Restarting
	stoppable set = holdable | 1<<api.Holding | 1<<api.Held
)

// targets is, for each command, the state to which it leads, and those from which it does.
var targets = [api.Commands]struct {
	to   int
	from set
}{
	api.Start:   {api.Running, 1 << api.Idle},
	api.Pause:   {api.Pausing, 1 << api.Running},
	api.Resume:  {api.Running, 1 << api.Paused},
	api.Hold:    {api.Holding, holdable},
	api.Restart: {api.Restarting, 1 << api.Held},
	api.Stop:    {api.Stopping, stoppable},
	api.Abort:   {api.Aborting, stoppable | 1<<api.Stopping},
	api.Reset:   {api.Idle, 1<<api.Stopped | 1<<api.Aborted | 1<<api.Complete},
}

// ends is, for each acting state, the one that it reaches when its work is finished. What it has for the others is not asked for.
var ends = [api.States]int{
	api.Running:    api.Complete,
	api.Pausing:    api.Paused,
	api.Holding:    api.Held,
	api.Restarting: api.Running,
	api.Stopping:   api.Stopped,
	api.Aborting:   api.Aborted,
}

// priority is the commands, the strongest one first.
var priority = [api.Commands]int{api.Abort, api.Stop, api.Hold, api.Pause, api.Restart, api.Resume, api.Start, api.Reset}

var names = [api.States]string{
	api.Idle:       "idle",
	api.Running:    "running",
	api.Pausing:    "pausing",
	api.Paused:     "paused",
	api.Holding:    "holding",
	api.Held:       "held",
	api.Restarting: "restarting",
	api.Stopping:   "stopping",
	api.Stopped:    "stopped",
	api.Aborting:   "aborting",
	api.Aborted:    "aborted",
	api.Complete:   "complete",
}

var words = [api.Commands]string{
	api.Start:   "start",
	api.Pause:   "pause",
	api.Resume:  "resume",
	api.Hold:    "hold",
	api.Restart: "restart",
	api.Stop:    "stop",
	api.Abort:   "abort",
	api.Reset:   "reset",
}

func exists(state int) bool { return state >= 0 && state < api.States }

func command(cmd int) bool { return cmd >= 0 && cmd < api.Commands }
