package explore

import (
	"reflect"
	"testing"

	"latchwork/api"
	"latchwork/samples"
)

// allWords goes through each list once, and no farther than it is asked to.
func TestAllWords(t *testing.T) {
	var all [][]int
	for words := range allWords(samples.Lever(), api.KindInput) {
		all = append(all, words)
	}
	if want := [][]int{{0, 0}, {1, 0}, {2, 0}, {3, 0}, {0, 1}, {1, 1}, {2, 1}, {3, 1}}; !reflect.DeepEqual(all, want) {
		t.Errorf("all: %v, want %v", all, want)
	}
	count := 0
	for range allWords(samples.Lever(), api.KindState) {
		if count++; count == 5 {
			break
		}
	}
	if count != 5 {
		t.Errorf("%d of them, when 5 were asked for", count)
	}
}

func TestAllWordsOfNothing(t *testing.T) {
	count := 0
	for words := range allWords(api.Model{}, api.KindState) {
		if count++; len(words) > 0 {
			t.Errorf("words: %v", words)
		}
	}
	if count != 1 {
		t.Errorf("%d lists", count)
	}
}
