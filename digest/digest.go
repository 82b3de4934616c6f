// Package digest tells the hash of a text.
package digest

const (
	seed   uint64 = 14695981039346656037
	factor uint64 = 1099511628211
)

// Of tells the hash of all bytes of a text.
func Of(text string) uint64 {
	hash := seed
	for i := range len(text) {
		hash = (hash ^ uint64(text[i])) * factor
	}
	return hash
}
