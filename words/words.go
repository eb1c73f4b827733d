// Package words has texts as pages have them: see doc/01-words.md.
package words

import (
	"strings"

	"townreader/api"
)

// Blank knows four bytes only: what else Unicode or ASCII takes for a space is part of a token here.
func Blank(c byte) bool {
	return c == ' ' || c == '\t' || c == '\n' || c == '\r'
}

// Lower goes by bytes, not by runes, so that a text that is no UTF-8 stays as it is beyond its letters.
func Lower(s string) string {
	b := []byte(s)
	for i, c := range b {
		if c >= 'A' && c <= 'Z' {
			b[i] = c - 'A' + 'a'
		}
	}
	return string(b)
}

func Tokens(s string) []string {
	var tokens []string
	start := 0
	for i := range len(s) {
		if !Blank(s[i]) {
			continue
		}
		if start < i {
			tokens = append(tokens, s[start:i])
		}
		start = i + 1
	}
	if start < len(s) {
		tokens = append(tokens, s[start:])
	}
	return tokens
}

func Squeeze(s string) string {
	return strings.Join(Tokens(s), " ")
}

func Num(s string) int {
	tokens := Tokens(s)
	if len(tokens) != 1 || len(tokens[0]) > 2 {
		return 0
	}
	n := 0
	for _, c := range []byte(tokens[0]) {
		if !digit(c) {
			return 0
		}
		n = n*10 + int(c-'0')
	}
	return n
}

func Name(s string) bool {
	if s == "" || len(s) > api.MaxName || !letter(s[0]) {
		return false
	}
	for _, c := range []byte(s) {
		if !letter(c) && !digit(c) && c != '-' {
			return false
		}
	}
	return true
}

func letter(c byte) bool { return c >= 'a' && c <= 'z' }

func digit(c byte) bool { return c >= '0' && c <= '9' }
