package pipeline

import (
	"slices"
	"strconv"
	"sync"
	"testing"
	"testing/synctest"
)

// panicOf answers what a call panics with.
func panicOf(call func()) (given any) {
	defer func() { given = recover() }()
	call()
	return nil
}

// texts are the numbers from 0 to count - 1, as they are written.
func texts(count int) []string {
	var list []string
	for number := range count {
		list = append(list, strconv.Itoa(number))
	}
	return list
}

// run runs a pipeline whose pieces are texts, and answers what was taken.
func run(t *testing.T, count int, workers int, build func(number int) string) []string {
	t.Helper()
	var taken []string
	if told := Run(count, workers, build, func(piece string) { taken = append(taken, piece) }); told != len(taken) {
		t.Fatalf("%d numbers, %d workers: %d taken, and %d told", count, workers, len(taken), told)
	}
	return taken
}

// permute calls see with every order of a list.
func permute(list []int, fixed int, see func(order []int)) {
	if fixed == len(list) {
		see(list)
	}
	for i := fixed; i < len(list); i++ {
		list[fixed], list[i] = list[i], list[fixed]
		permute(list, fixed+1, see)
		list[fixed], list[i] = list[i], list[fixed]
	}
}

// gatherOrder gathers results that come in that order; those of which the bit
// is set are given up.
func gatherOrder(order []int, givenUp int) ([]string, int) {
	results := make(chan result[string], len(order))
	for _, number := range order {
		results <- result[string]{number, strconv.Itoa(number), givenUp>>number&1 == 0}
	}
	close(results)
	var taken []string
	told := gather(results, func(piece string) { taken = append(taken, piece) })
	return taken, told
}

// All orders of six results, and all choices of those that are given up: what
// is taken hangs on the lowest of these alone.
func TestGatherTakesInTurn(t *testing.T) {
	permute([]int{0, 1, 2, 3, 4, 5}, 0, func(order []int) {
		for givenUp := range 1 << 6 {
			first := 0
			for first < 6 && givenUp>>first&1 == 0 {
				first++
			}
			taken, told := gatherOrder(order, givenUp)
			if !slices.Equal(taken, texts(first)) || told != first {
				t.Fatalf("%v, given up %b: %v taken, %d told, want %d", order, givenUp, taken, told, first)
			}
		}
	})
}

// What has its turn is taken at once, not when all is there.
func TestGatherTakesAsSoonAsItCan(t *testing.T) {
	results := make(chan result[string])
	taken := make(chan string, 3)
	var gathering sync.WaitGroup
	gathering.Go(func() { gather(results, func(piece string) { taken <- piece }) })
	results <- result[string]{1, "1", true}
	results <- result[string]{0, "0", true}
	if first, second := <-taken, <-taken; first != "0" || second != "1" {
		t.Errorf("%q and %q are taken first", first, second)
	}
	close(results)
	gathering.Wait()
}

func TestRunTakesAllInTurn(t *testing.T) {
	for _, count := range []int{0, 1, 2, 3, 15, 16, 17, 1000} {
		for workers := 1; workers <= 16; workers++ {
			built := make([]int, count)
			taken := run(t, count, workers, func(number int) string {
				built[number]++
				return strconv.Itoa(number)
			})
			if !slices.Equal(taken, texts(count)) {
				t.Fatalf("%d numbers, %d workers: %v", count, workers, taken)
			}
			for number, times := range built {
				if times != 1 {
					t.Fatalf("%d numbers, %d workers: %d was built %d times", count, workers, number, times)
				}
			}
		}
	}
}

func TestRunStopsTakingAtTheLowestThatIsGivenUp(t *testing.T) {
	for _, count := range []int{1, 2, 17, 300} {
		for workers := 1; workers <= 16; workers++ {
			for _, first := range []int{0, 1, 5, count - 1} {
				taken := run(t, count, workers, func(number int) string {
					if number == first || number > first && number%3 == 0 {
						panic(GiveUp{})
					}
					return strconv.Itoa(number)
				})
				if want := texts(min(first, count)); !slices.Equal(taken, want) {
					t.Fatalf("%d numbers, %d workers, given up at %d: %v", count, workers, first, taken)
				}
			}
		}
	}
}

// Each of a group of pieces waits for the one behind it, so that they come in
// the wrong order. With fewer goroutines than workers none would ever be made,
// which the bubble tells.
func TestRunBuildsBesideEachOther(t *testing.T) {
	for workers := 1; workers <= 16; workers++ {
		synctest.Test(t, func(t *testing.T) {
			count := 5 * workers
			done := make([]chan bool, count)
			for number := range done {
				done[number] = make(chan bool)
			}
			taken := run(t, count, workers, func(number int) string {
				if (number+1)%workers != 0 {
					<-done[number+1]
				}
				close(done[number])
				return strconv.Itoa(number)
			})
			if !slices.Equal(taken, texts(count)) {
				t.Errorf("%d workers: %v", workers, taken)
			}
		})
	}
}

// A bubble tells it where goroutines are left that wait and cannot end.
func TestRunLeavesNoGoroutine(t *testing.T) {
	for _, count := range []int{0, 1, 40} {
		for _, workers := range []int{1, 3, 16} {
			for _, first := range []int{0, 20, 50} {
				synctest.Test(t, func(t *testing.T) {
					run(t, count, workers, func(number int) string {
						if number >= first {
							panic(GiveUp{})
						}
						return strconv.Itoa(number)
					})
				})
			}
		}
	}
}

func TestAttemptCatchesWhatIsGivenUpAndNothingElse(t *testing.T) {
	if got := attempt(7, strconv.Itoa); got != (result[string]{7, "7", true}) {
		t.Errorf("a piece that is made: %v", got)
	}
	if got := attempt(7, func(int) string { panic(GiveUp{}) }); got != (result[string]{7, "", false}) {
		t.Errorf("a piece that is given up: %v", got)
	}
	if given := panicOf(func() { attempt(7, func(int) string { panic("another") }) }); given != "another" {
		t.Errorf("another panic comes out as %v", given)
	}
}
