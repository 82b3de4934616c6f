package digest_test

import (
	"hash/fnv"
	"strings"
	"testing"

	"retag/digest"
)

func TestOf(t *testing.T) {
	for text, want := range map[string]uint64{"": 14695981039346656037, "a": 12638187200555641996} {
		if got := digest.Of(text); got != want {
			t.Errorf("Of(%q) = %d, want %d", text, got, want)
		}
	}
}

// The hash is known by the name FNV-1a, so the library can tell it too.
func TestOfIsFNV(t *testing.T) {
	for _, text := range []string{"ab", "ba", "foobar", "\x00", "\x00\x00", "\xff\xfe", "é€", strings.Repeat("long ", 1000)} {
		hash := fnv.New64a()
		hash.Write([]byte(text))
		if got := digest.Of(text); got != hash.Sum64() {
			t.Errorf("Of(%.20q) = %d, want %d", text, got, hash.Sum64())
		}
	}
}
