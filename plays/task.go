package plays

import (
	"sync"

	"sluice/api"
)

// task is a worker on a channel of its own.
type task struct {
	number int // of the step that began it
	step   api.Step
	end    End
	done   *api.Done     // its place in the answer, which nobody else touches
	turns  chan int      // each is the number of the step behind which it comes
	goesOn chan struct{} // its word that it is not over with a turn
	over   chan struct{} // closed when it is over
}

func newTask(number int, s api.Step, e End, done *api.Done) *task {
	return &task{
		number: number,
		step:   s,
		end:    e,
		done:   done,
		turns:  make(chan int),
		goesOn: make(chan struct{}),
		over:   make(chan struct{}),
	}
}

// work takes turns till the task is over. If there are no more turns, it is cut: the script has so many steps.
func (t *task) work(steps int, workers *sync.WaitGroup) {
	defer workers.Done()
	defer close(t.over)
	for number := range t.turns {
		if t.call() {
			t.done.Step = number
			return
		}
		t.goesOn <- struct{}{}
	}
	t.done.Step = steps
	t.done.Err = api.ErrCut
}

// turn lets the worker work behind the step of this number, and tells whether the task is over then. Just one of the two is ever ready, so nothing hangs on how select chooses.
func (t *task) turn(number int) bool {
	t.turns <- number
	select {
	case <-t.goesOn:
		return false
	case <-t.over:
		return true
	}
}

// call makes the task's call, once, and tells whether the task is over with that.
func (t *task) call() bool {
	switch t.step.Kind {
	case api.DoWrite:
		return t.write()
	case api.DoClose:
		return t.shut()
	}
	return t.read()
}

func (t *task) write() bool {
	left := t.step.Bytes[t.done.N:]
	n, err := t.end.Write(t.step.Stream, left)
	t.done.N += n
	t.done.Err = err
	return err != api.OK || n == len(left)
}

func (t *task) shut() bool {
	t.done.Err = t.end.Close(t.step.Stream)
	return true
}

func (t *task) read() bool {
	b, last, err := t.end.Read(t.step.Stream, t.step.N-len(t.done.Bytes))
	t.done.Bytes = append(t.done.Bytes, b...)
	t.done.Last = last
	t.done.Err = err
	return err != api.OK || last || len(t.done.Bytes) == t.step.N
}
