package crew

import (
	"sync"

	"escapement/api"
)

// bench is where workers lay what they have made, each at its own number: so the order in which they are ready is not seen.
type bench struct {
	guard sync.Mutex
	made  [api.MaxWorkers][]byte
}

func (b *bench) lay(worker int, result []byte) {
	b.guard.Lock()
	defer b.guard.Unlock()
	b.made[worker] = result
}

// sideBySide lets all who have a task work at the same time, and tells what each has made when all are ready.
func sideBySide(held []holding) [api.MaxWorkers][]byte {
	var b bench
	var crew sync.WaitGroup
	for _, h := range held {
		tasks := make(chan api.Task)
		crew.Add(1)
		go func() {
			defer crew.Done()
			for task := range tasks {
				b.lay(h.worker, Work(task.Name, task.Inputs))
			}
		}()
		tasks <- h.task
		close(tasks)
	}
	crew.Wait()
	return b.made
}
