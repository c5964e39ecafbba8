// Package bounds tells what is a key, a value, the number of a state.
package bounds

import "annals/api"

// IsKey tells whether a text is a key.
func IsKey(text string) bool {
	return len(text) >= 1 && len(text) <= api.MaxKey
}

// IsValue tells whether a text is a value.
func IsValue(text string) bool {
	return len(text) <= api.MaxValue
}

// IsState tells whether a number can be that of a state.
func IsState(number int) bool {
	return number >= 0 && number <= api.MaxState
}
