package journal

import (
	"strconv"
	"strings"

	"treasury/api"
	"treasury/article"
	"treasury/classification"
)

const maxYear = 99

// form says how operations of a kind are written.
type form struct {
	kind  int
	parts string
}

// forms returns all forms. A part in capitals stands for a field (see field), the first one for itself.
func forms() []form {
	return []form{
		{api.OpReserve, "reserve CODE YEAR DAY AMOUNT"},
		{api.OpCommit, "commit OF DAY AMOUNT PAYEE DUE"},
		{api.OpVerify, "verify OF DAY AMOUNT"},
		{api.OpOrder, "order OF DAY"},
		{api.OpRelease, "release OF AMOUNT"},
		{api.OpDrop, "drop OF AMOUNT"},
		{api.OpReturn, "return CODE YEAR AMOUNT"},
		{api.OpHear, "hear CODE YEAR GRANTED ASKEDBACK"},
		{api.OpReturned, "returned OF"},
	}
}

// Plain reports whether the kind of an operation is one, its fields are in their ranges, and all others are zero.
func Plain(op api.Op) bool {
	f, found := formOf(op.Kind)
	if !found {
		return false
	}
	left := op
	left.Kind = 0
	for _, part := range f.fields() {
		if !fits(left, part) {
			return false
		}
		wipe(&left, part)
	}
	return left == api.Op{}
}

// Text returns the text of a plain operation, and nothing for any other one.
func Text(op api.Op) string {
	if !Plain(op) {
		return ""
	}
	f, _ := formOf(op.Kind)
	words := []string{f.word()}
	for _, part := range f.fields() {
		words = append(words, write(op, part))
	}
	return strings.Join(words, " ")
}

// Parse returns the plain operation with a text.
func Parse(text string) (api.Op, api.Errno) {
	words := strings.Split(text, " ")
kinds:
	for _, f := range forms() {
		fields := f.fields()
		if words[0] != f.word() || len(words) != 1+len(fields) {
			continue
		}
		op := api.Op{Kind: f.kind}
		for i, part := range fields {
			if !read(&op, part, words[1+i]) || !fits(op, part) {
				continue kinds
			}
		}
		return op, api.OK
	}
	return api.Op{}, api.ErrSyntax
}

// formOf returns the form of the operations of a kind, and whether there is one.
func formOf(kind int) (form, bool) {
	for _, f := range forms() {
		if f.kind == kind {
			return f, true
		}
	}
	return form{}, false
}

// word returns the word with which a form begins.
func (f form) word() string { return strings.Fields(f.parts)[0] }

// fields returns the parts of a form that stand for fields.
func (f form) fields() []string { return strings.Fields(f.parts)[1:] }

// field returns the number that a part of a form stands for.
func field(op *api.Op, part string) *int {
	switch part {
	case "YEAR":
		return &op.Year
	case "DAY":
		return &op.Day
	case "OF":
		return &op.Of
	case "AMOUNT":
		return &op.Amount
	case "PAYEE":
		return &op.Payee
	case "DUE":
		return &op.Due
	case "GRANTED":
		return &op.Granted
	}
	return &op.AskedBack
}

// fits reports whether what a part of a form stands for is in its range.
func fits(op api.Op, part string) bool {
	if part == "CODE" {
		return len(classification.Parts(op.Code)) > 0
	}
	most := api.MaxTotal
	if part == "YEAR" {
		most = maxYear
	}
	n := *field(&op, part)
	return 0 <= n && n <= most
}

// wipe makes what a part of a form stands for zero.
func wipe(op *api.Op, part string) {
	if part == "CODE" {
		op.Code = ""
		return
	}
	*field(op, part) = 0
}

// write returns the word for a part of a form.
func write(op api.Op, part string) string {
	if part == "CODE" {
		return op.Code
	}
	return strconv.Itoa(*field(&op, part))
}

// read sets what a part of a form stands for to what a word says, and reports whether it says something.
func read(op *api.Op, part, word string) bool {
	if part == "CODE" {
		op.Code = word
		return true
	}
	n, ok := number(word)
	*field(op, part) = n
	return ok
}

// number returns the number that a word writes, up to the largest total, and whether it does.
func number(word string) (int, bool) {
	// The largest total has a digit more than the numbers of articles.
	if word == strconv.Itoa(api.MaxTotal) {
		return api.MaxTotal, true
	}
	return article.Number(word)
}
