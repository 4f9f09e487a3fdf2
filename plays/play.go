// Package plays: two ends that talk by a script, and tasks that have their turns behind each step of it.
package plays

import (
	"sync"

	"sluice/api"
)

// End is what a play asks of an end.
type End interface {
	Open(l []api.Header, last bool) (int, api.Errno)
	Write(s int, b []byte) (int, api.Errno)
	Close(s int) api.Errno
	Read(s int, n int) ([]byte, bool, api.Errno)
	Reset(s int) api.Errno
	Set(initial int) api.Errno
	Tick(n int) api.Errno
	Take(n int) []byte
	Feed(b []byte) api.Errno
	Heads(s int) ([]api.Header, api.Errno)
}

// play is what is kept from step to step.
type play struct {
	ends    [2]End
	pipes   [2]pipe // out of each end
	dones   []api.Done
	lines   []*line
	workers sync.WaitGroup
}

// Run plays a script, and answers what became of each of its steps.
func Run(first, second End, script []api.Step) []api.Done {
	p := &play{ends: [2]End{first, second}, dones: make([]api.Done, len(script))}
	for number, s := range script {
		p.do(number, s)
		p.giveTurns(number)
	}
	p.cutAll()
	return p.dones
}

func (p *play) do(number int, s api.Step) {
	if isEnd(s.End) && isTask(s.Kind) {
		p.begin(number, s)
		return
	}
	d := p.doAtOnce(s)
	d.Step = number
	p.dones[number] = d
}

func isEnd(n int) bool { return n == 0 || n == 1 }

func isTask(kind int) bool {
	return kind == api.DoWrite || kind == api.DoClose || kind == api.DoRead
}

// doAtOnce does a step that is no task.
func (p *play) doAtOnce(s api.Step) (d api.Done) {
	if !isEnd(s.End) {
		return api.Done{Err: api.ErrArg}
	}
	e := p.ends[s.End]
	switch s.Kind {
	case api.DoOpen:
		d.N, d.Err = e.Open(s.Heads, s.Last)
	case api.DoReset:
		d.Err = e.Reset(s.Stream)
	case api.DoSet:
		d.Err = e.Set(s.N)
	case api.DoTick:
		d.Err = e.Tick(s.N)
	case api.DoHeads:
		d.Heads, d.Err = e.Heads(s.Stream)
	case api.DoPut:
		d.N, d.Err = p.put(s.End, s.N)
	case api.DoRaw:
		d.N = p.pipes[s.End].lay(s.Bytes)
	case api.DoMove:
		d.N, d.Err = p.move(s.End, s.N)
	default:
		d.Err = api.ErrArg
	}
	return d
}

// put lets bytes of an end go into its pipe, at most n, and answers how many.
func (p *play) put(end, n int) (int, api.Errno) {
	if n < 0 {
		return 0, api.ErrArg
	}
	return p.pipes[end].lay(p.ends[end].Take(n)), api.OK
}

// move feeds bytes of an end's pipe to the other end, at most n, and answers how many, and what that end says to them.
func (p *play) move(end, n int) (int, api.Errno) {
	if n < 0 {
		return 0, api.ErrArg
	}
	b := p.pipes[end].cut(n)
	return len(b), p.ends[1-end].Feed(b)
}
