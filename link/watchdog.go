package link

import "helm/api"

// A watchdog counts the quiet Ticks, those since the last of which nothing was
// acked.
type watchdog struct {
	quiet int
	turn  int // the Id of the road that is next
}

// tick counts a Tick, and tells whether it is time to send.
func (w *watchdog) tick() bool {
	w.quiet++
	if w.quiet < api.MaxQuiet {
		return false
	}
	w.quiet = 0
	return true
}

// calm says that something was acked: the next Tick is counted as the one ahead
// of the first quiet one.
func (w *watchdog) calm() { w.quiet = -1 }
