// Package pipeline: numbered pieces are made by several workers, and taken by rising numbers.
package pipeline

import "sync"

// GiveUp is what build panics with, where its piece cannot be made.
type GiveUp struct{}

// result is what a worker has made of a number, if it was made.
type result[Piece any] struct {
	number int
	piece  Piece
	made   bool
}

// Run builds the pieces of the numbers 0 to count - 1, and has them taken by
// rising numbers, up to the first one that is given up; it answers how many
// were taken. Several workers build at the same time, but only the caller
// takes. All goroutines have ended when it answers.
func Run[Piece any](count int, workers int, build func(number int) Piece, take func(piece Piece)) int {
	numbers := make(chan int)
	results := make(chan result[Piece])
	var working, closing sync.WaitGroup
	working.Add(workers)
	closing.Add(2)
	go func() {
		defer closing.Done()
		send(numbers, count)
	}()
	for range workers {
		go func() {
			defer working.Done()
			work(numbers, results, build)
		}()
	}
	go func() {
		defer closing.Done()
		working.Wait()
		close(results)
	}()
	taken := gather(results, take)
	// The two that close a channel may not have ended yet.
	closing.Wait()
	return taken
}

func send(numbers chan<- int, count int) {
	for number := range count {
		numbers <- number
	}
	close(numbers)
}

func work[Piece any](numbers <-chan int, results chan<- result[Piece], build func(number int) Piece) {
	for number := range numbers {
		results <- attempt(number, build)
	}
}

// attempt builds a piece, if it is not given up. Any other panic would be a
// fault of the program, and is not hidden here.
func attempt[Piece any](number int, build func(number int) Piece) (tried result[Piece]) {
	defer func() {
		if given := recover(); given != nil {
			if _, up := given.(GiveUp); !up {
				panic(given)
			}
		}
	}()
	tried.number = number
	tried.piece = build(number)
	tried.made = true
	return tried
}

// gather has the pieces taken by rising numbers, in whatever order they come,
// and answers how many were taken.
func gather[Piece any](results <-chan result[Piece], take func(piece Piece)) int {
	var waiting heap[Piece]
	turn := 0
	// All results are received, also behind one that was given up: else the
	// workers could not end.
	for came := range results {
		waiting.push(came)
		for waiting.isNext(turn) {
			// Where it was given up the turn stays, and no other piece has it.
			if next := waiting.pop(); next.made {
				take(next.piece)
				turn++
			}
		}
	}
	return turn
}
