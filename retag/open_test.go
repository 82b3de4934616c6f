package retag

import (
	"testing"

	"retag/api"
)

func TestOpenBoundsWhatIsRemembered(t *testing.T) {
	for cache, want := range map[int]int{
		-1 << 63: 1, -1: 1, 0: 1, 1: 1, 2: 2, api.MaxCache - 1: api.MaxCache - 1,
		api.MaxCache: api.MaxCache, api.MaxCache + 1: api.MaxCache, 1<<63 - 1: api.MaxCache,
	} {
		e := Open(cache)
		if e == nil || e.cache != want || len(e.rules) != 0 {
			t.Errorf("Open(%d) = %+v, want %d", cache, e, want)
		}
	}
}
