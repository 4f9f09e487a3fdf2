package sluice_test

import (
	"sluice/api"
	"sluice/plays"
)

// told is P19 once more, as plainly as can be: without goroutines, and of every task that ever began it is asked behind every step whether it must wait. It plays with bare ends or with watched ones.
type told struct {
	ends   [2]plays.End
	pipes  [2][]byte
	script []api.Step
	dones  []api.Done
	ended  []bool
}

// tell tells what becomes of each step; behind each one, look is called.
func tell(a, b plays.End, script []api.Step, look func()) []api.Done {
	m := &told{ends: [2]plays.End{a, b}, script: script, dones: make([]api.Done, len(script)), ended: make([]bool, len(script))}
	for i, s := range script {
		if done, ok := m.atOnce(s); ok {
			done.Step = i
			m.dones[i], m.ended[i] = done, true
		}
		for task := range i + 1 {
			if !m.ended[task] && !m.mustWait(task) && m.turn(task) {
				m.dones[task].Step, m.ended[task] = i, true
			}
		}
		look()
	}
	for i := range script {
		if !m.ended[i] {
			m.dones[i].Step, m.dones[i].Err = len(script), api.ErrCut
		}
	}
	return m.dones
}

// atOnce does a step, but if it is a task.
func (m *told) atOnce(s api.Step) (d api.Done, ok bool) {
	wrong := api.Done{Err: api.ErrArg}
	if s.End < 0 || s.End > 1 {
		return wrong, true
	}
	e := m.ends[s.End]
	switch s.Kind {
	case 1:
		n, err := e.Open(s.Heads, s.Last)
		return api.Done{N: n, Err: err}, true
	case 2, 3, 4:
		return api.Done{}, false
	case 5:
		return api.Done{Err: e.Reset(s.Stream)}, true
	case 6:
		return api.Done{Err: e.Set(s.N)}, true
	case 7:
		return api.Done{Err: e.Tick(s.N)}, true
	case 8, 9:
		if s.N < 0 {
			return wrong, true
		}
		return m.flow(s), true
	case 10:
		m.pipes[s.End] = join(m.pipes[s.End], s.Bytes)
		return api.Done{N: len(s.Bytes)}, true
	case 11:
		l, err := e.Heads(s.Stream)
		return api.Done{Heads: l, Err: err}, true
	}
	return wrong, true
}

func (m *told) flow(s api.Step) api.Done {
	pipe := m.pipes[s.End]
	if s.Kind == api.DoPut {
		b := m.ends[s.End].Take(s.N)
		m.pipes[s.End] = join(pipe, b)
		return api.Done{N: len(b)}
	}
	n := min(s.N, len(pipe))
	m.pipes[s.End] = pipe[n:]
	return api.Done{N: n, Err: m.ends[1-s.End].Feed(pipe[:n])}
}

func (m *told) mustWait(task int) bool {
	s := m.script[task]
	for i, o := range m.script[:task] {
		if !m.ended[i] && o.End == s.End && o.Stream == s.Stream && (o.Kind == api.DoRead) == (s.Kind == api.DoRead) {
			return true
		}
	}
	return false
}

// turn makes the call of a task, and tells whether it is over.
func (m *told) turn(task int) bool {
	s, d := m.script[task], &m.dones[task]
	e := m.ends[s.End]
	switch s.Kind {
	case api.DoClose:
		d.Err = e.Close(s.Stream)
		return true
	case api.DoWrite:
		n, err := e.Write(s.Stream, s.Bytes[d.N:])
		d.N, d.Err = d.N+n, err
		return err != api.OK || d.N == len(s.Bytes)
	}
	b, last, err := e.Read(s.Stream, s.N-len(d.Bytes))
	d.Bytes = append(d.Bytes, b...)
	d.Last, d.Err = last, err
	return err != api.OK || last || len(d.Bytes) == s.N
}
