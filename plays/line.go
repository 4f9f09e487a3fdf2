package plays

import (
	"slices"

	"sluice/api"
)

// line is the tasks of one end and stream that wait for one another, in the order of their steps: the first has the turns. There is none without a task.
type line struct {
	lane
	tasks []*task
}

// lane says which tasks wait for one another: those that read, and those that write or close, each by themselves.
type lane struct {
	end, stream int
	reads       bool
}

func laneOf(s api.Step) lane {
	return lane{end: s.End, stream: s.Stream, reads: s.Kind == api.DoRead}
}

// begin begins a task. Its first turn is behind this step, if it need not wait.
func (p *play) begin(number int, s api.Step) {
	t := newTask(number, s, p.ends[s.End], &p.dones[number])
	l := p.lineOf(laneOf(s))
	l.tasks = append(l.tasks, t)
	p.workers.Add(1)
	go t.work(len(p.dones), &p.workers)
}

// lineOf looks through all lines, since they are few: no task goes on for a stream that is closed, and few are not.
func (p *play) lineOf(which lane) *line {
	for _, l := range p.lines {
		if l.lane == which {
			return l
		}
	}
	l := &line{lane: which}
	p.lines = append(p.lines, l)
	return l
}

// giveTurns gives their turns to all tasks that need not wait, in the order of their steps. When one is over, the next of its line waits no more, and has its turn in the same round: its step is a later one.
func (p *play) giveTurns(number int) {
	for l := p.lineBehind(-1); l != nil; {
		t := l.tasks[0]
		if t.turn(number) {
			p.drop(l)
		}
		l = p.lineBehind(t.number)
	}
}

// lineBehind answers the line whose first task began first, of those that began behind the step of this number; nil if there is none.
func (p *play) lineBehind(number int) *line {
	var next *line
	for _, l := range p.lines {
		n := l.tasks[0].number
		if n > number && (next == nil || n < next.tasks[0].number) {
			next = l
		}
	}
	return next
}

// drop takes the first task off a line.
func (p *play) drop(l *line) {
	l.tasks = l.tasks[1:]
	if len(l.tasks) == 0 {
		p.lines = slices.DeleteFunc(p.lines, func(o *line) bool { return o == l })
	}
}

// cutAll cuts the tasks that are not over, and waits till all workers have ended.
func (p *play) cutAll() {
	for _, l := range p.lines {
		for _, t := range l.tasks {
			close(t.turns)
		}
	}
	p.workers.Wait()
}
