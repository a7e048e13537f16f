package config

import (
	"strings"

	"mason/api"
	"mason/rules"
)

// The kinds of tokens.
const (
	none = iota
	word
	number
	quoted
	openBrace
	closeBrace
	openBracket
	closeBracket
	equals
	comma
	dot
	end // of the text
)

type token struct {
	kind  int
	place int
	text  string // of a word, or what a string stands for
	value int    // of a number
}

// cut cuts a text into tokens; the last of them is its end.
func cut(text string) ([]token, fault) {
	var l []token
	at := skip(text, 0)
	for at < len(text) {
		t, behind, errno := read(text, at)
		if errno != api.OK {
			return nil, fault{errno, at}
		}
		t.place = at
		l = append(l, t)
		at = skip(text, behind)
	}
	return append(l, token{kind: end, place: len(text)}), fault{}
}

// skip tells where, from a place on, the next thing stands that counts.
func skip(text string, at int) int {
	for at < len(text) {
		switch text[at] {
		case ' ', '\t', '\n':
			at++
		case '#':
			at = behindAll(text, at, func(b byte) bool { return b != '\n' })
		default:
			return at
		}
	}
	return at
}

// behindAll tells the first place, from a given one on, whose byte does not fit.
func behindAll(text string, at int, fits func(byte) bool) int {
	for at < len(text) && fits(text[at]) {
		at++
	}
	return at
}

// read reads the token that begins at a place, and tells the place behind it.
func read(text string, at int) (token, int, api.Errno) {
	b := text[at]
	switch {
	case rules.IsLetter(b):
		return readWord(text, at)
	case rules.IsDigit(b) || b == '-':
		return readNumber(text, at)
	case b == '"':
		return readString(text, at)
	}
	kind := signKind(b)
	if kind == none {
		return token{}, 0, api.ErrByte
	}
	return token{kind: kind}, at + 1, api.OK
}

func signKind(b byte) int {
	switch b {
	case '{':
		return openBrace
	case '}':
		return closeBrace
	case '[':
		return openBracket
	case ']':
		return closeBracket
	case '=':
		return equals
	case ',':
		return comma
	case '.':
		return dot
	}
	return none
}

func readWord(text string, at int) (token, int, api.Errno) {
	behind := behindAll(text, at, rules.IsWordByte)
	if behind-at > api.MaxWord {
		return token{}, 0, api.ErrWord
	}
	// A copy, so that an answer does not hold on to the text that was handed in.
	return token{kind: word, text: strings.Clone(text[at:behind])}, behind, api.OK
}

func readNumber(text string, at int) (token, int, api.Errno) {
	first, sign := at, 1
	if text[at] == '-' {
		first, sign = at+1, -1
	}
	behind := behindAll(text, first, rules.IsDigit)
	value, ok := valueOf(text[first:behind])
	if !ok {
		return token{}, 0, api.ErrNumber
	}
	return token{kind: number, value: sign * value}, behind, api.OK
}

// valueOf tells what digits are worth, if there are any and they are worth at most MaxNumber.
func valueOf(digits string) (int, bool) {
	value := 0
	for _, b := range []byte(digits) {
		digit := int(b - '0')
		// Asked ahead of the product: there may be any number of digits.
		if value > (api.MaxNumber-digit)/10 {
			return 0, false
		}
		value = value*10 + digit
	}
	return value, digits != ""
}

func readString(text string, at int) (token, int, api.Errno) {
	var meant []byte
	at++
	for at < len(text) && text[at] != '"' {
		b, used := readSign(text[at:])
		if used == 0 {
			return token{}, 0, api.ErrString
		}
		meant = append(meant, b)
		at += used
	}
	if at == len(text) || len(meant) > api.MaxString {
		return token{}, 0, api.ErrString
	}
	return token{kind: quoted, text: string(meant)}, at + 1, api.OK
}

// readSign tells the byte that the beginning of s, within a string, stands for, and how many bytes say it: 0, if it must not stand there.
func readSign(s string) (byte, int) {
	if s[0] != '\\' {
		if rules.IsPlain(s[0]) {
			return s[0], 1
		}
		return 0, 0
	}
	if len(s) == 1 {
		return 0, 0
	}
	switch s[1] {
	case '\\', '"':
		return s[1], 2
	case 'n':
		return '\n', 2
	}
	return 0, 0
}
