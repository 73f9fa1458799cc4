package proc

// started is what a process has from its start on.
type started struct {
	state  int // Dormant, Ready, Waiting or Resting, whether or not it is held
	held   bool
	base   int // its own priority
	raised int // the priority to which it is raised, or 0
	until  int // the tick until which it waits or rests; indefinitely if there is none
}

// indefinitely is a tick that never comes.
const indefinitely = -1

// release is what a process has to do each time.
type release struct {
	from   int // the tick at which it begins
	used   int // ticks
	missed bool
}

// process is what is asked of a process, and its state. What its state gives no meaning is zero, and the base
// priority of a dormant one is that of Attr, so that processes are compared as they are.
type process struct {
	Attr
	started
	release
}

// These are the states that methods of a Table require.

func (s *started) isDormant() bool { return s.state == Dormant }

func (s *started) isStarted() bool { return s.state != Dormant }

func (s *started) isHeld() bool { return s.held }

func (s *started) isFree() bool { return s.isStarted() && !s.held }

func (s *started) isReady() bool { return s.state == Ready && !s.held }

func (s *started) isWaiting() bool { return s.state == Waiting }

// hasRelease reports whether what the process has to do has begun, and is not done yet.
func (s *started) hasRelease() bool { return s.state == Ready || s.state == Waiting }

// isDue reports whether the next release of a resting process is to begin.
func (s *started) isDue(now int) bool { return s.state == Resting && s.until <= now }

// reported returns the state as it is seen from outside.
func (s *started) reported() int {
	if s.held {
		return Stopped
	}
	return s.state
}

// current returns the priority that counts.
func (s *started) current() int { return max(s.base, s.raised) }

// goOn makes a process ready, with the release that it has.
func (s *started) goOn() { s.state, s.until = Ready, 0 }

// stop makes a process dormant.
func (p *process) stop() {
	p.started = started{base: p.Priority}
	p.release = release{}
}

// start lets the first release of a dormant process begin, at once or later.
func (p *process) start(now int) {
	if p.Offset > 0 {
		p.rest(now + p.Offset)
	} else {
		p.begin(now)
	}
}

// begin makes a process ready, with a release that begins at a tick.
func (p *process) begin(from int) {
	p.goOn()
	p.release = release{from: from}
}

// rest lets a process rest until the tick of its next release.
func (p *process) rest(until int) {
	p.state, p.until = Resting, until
	p.release = release{}
}

// done ends a release, and returns the tick of the next one, or -1 if there is none.
func (p *process) done(now int) int {
	if p.Period == 0 {
		p.stop()
		return -1
	}
	next := p.from + p.Period
	if next <= now {
		p.begin(next)
	} else {
		p.rest(next)
	}
	return next
}

// charge adds ticks to those that the release has used.
func (p *process) charge(n int) { p.used = min(p.used+n, last) }

// isOver reports whether the release has used more than it may.
func (p *process) isOver() bool { return p.Capacity > 0 && p.used > p.Capacity }

// left returns how many ticks the release may still use, or -1 if there is no limit.
func (p *process) left() int {
	if p.Capacity == 0 {
		return -1
	}
	return max(p.Capacity-p.used, 0)
}

// isLate reports whether the deadline has come, and this is not known yet.
func (p *process) isLate(now int) bool {
	return p.Deadline > 0 && p.hasRelease() && !p.missed && p.from+p.Deadline <= now
}
