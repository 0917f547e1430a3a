// Package word has the words: lists of letters, and the endless ones of a stem and a loop.
package word

import "verdict/api"

// IsLetter tells whether a number is a letter.
func IsLetter(n int) bool {
	return n >= 0 && n < api.Letters
}

// AllLetters tells whether every number of a list is a letter.
func AllLetters(u []int) bool {
	for _, n := range u {
		if !IsLetter(n) {
			return false
		}
	}
	return true
}
