package warrant

import (
	"slices"
	"strconv"
	"strings"

	"treasury/api"
	"treasury/article"
)

const (
	head       = "warrant"
	codeAt     = 3  // the word of a text that is the code
	textWords  = 15 // of a text, with both signatures
	signDigits = 16 // of a signature
	signBase   = 16
)

// Bytes returns the bytes of a plain warrant, and nothing for any other one.
func Bytes(w api.Warrant) string {
	if !Plain(w) {
		return ""
	}
	words := []string{head}
	for _, n := range numbers(&w) {
		words = append(words, strconv.Itoa(*n))
	}
	return strings.Join(slices.Insert(words, codeAt, w.Code), " ")
}

// Text returns the text of a plain warrant, and nothing for any other one.
func Text(w api.Warrant) string {
	bytes := Bytes(w)
	if bytes == "" {
		return ""
	}
	return bytes + " " + hex(w.First) + " " + hex(w.Second)
}

// Parse returns the plain warrant with a text.
func Parse(text string) (api.Warrant, api.Errno) {
	words := strings.SplitN(text, " ", textWords+1)
	if len(words) != textWords {
		return api.Warrant{}, api.ErrSyntax
	}
	w := api.Warrant{Code: words[codeAt]}
	// What is no number is read as 0, which does not come back as the same text.
	w.First, _ = strconv.ParseUint(words[textWords-2], signBase, 64)
	w.Second, _ = strconv.ParseUint(words[textWords-1], signBase, 64)
	rest := slices.Delete(words, codeAt, codeAt+1)
	for i, n := range numbers(&w) {
		*n, _ = article.Number(rest[1+i])
	}
	if Text(w) != text {
		return api.Warrant{}, api.ErrSyntax
	}
	return w, api.OK
}

// numbers returns the numbers of a warrant in the order of its bytes, in which the code stands behind the office.
func numbers(w *api.Warrant) []*int {
	return []*int{&w.Number, &w.Office, &w.Year, &w.Reservation, &w.Commitment, &w.Verification, &w.Attempt, &w.Amount, &w.Payee, &w.Day, &w.Due}
}

// hex returns a signature as its digits.
func hex(n uint64) string {
	digits := strconv.FormatUint(n, signBase)
	return strings.Repeat("0", signDigits-len(digits)) + digits
}
