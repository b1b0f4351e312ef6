package content

import (
	"math/rand"
	"testing"

	"coldplug/api"
)

// The classes of contents are those of the merges, in whatever order they come; compared with a list of numbers of classes.
func TestClasses(t *testing.T) {
	random := rand.New(rand.NewSource(7))
	for range 500 {
		memory := make([]api.Content, 2+random.Intn(30))
		numbers := make([]int, len(memory))
		for i := range numbers {
			numbers[i] = i
		}
		k := classes{}
		for range 2 * len(memory) {
			i, j := random.Intn(len(memory)), random.Intn(len(memory))
			from, to := numbers[i], numbers[j]
			if got := k.merge(&memory[i], &memory[j]); got != (from != to) {
				t.Fatalf("merge: got %v for contents of the classes %d and %d", got, from, to)
			}
			for x := range numbers {
				if numbers[x] == from {
					numbers[x] = to
				}
			}
			i, j = random.Intn(len(memory)), random.Intn(len(memory))
			if got := k.head(&memory[i]) == k.head(&memory[j]); got != (numbers[i] == numbers[j]) {
				t.Fatalf("head: got the same one %v for contents of the classes %d and %d", got, numbers[i], numbers[j])
			}
		}
	}
}
