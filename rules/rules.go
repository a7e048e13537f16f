// Package rules: which words, strings and resources may be, and how they are ordered.
package rules

import (
	"cmp"
	"strings"

	"mason/api"
	"mason/list"
)

// AfterWord is the word of a text that tells an After, and so the name of no Attr.
const AfterWord = "after"

// IsLetter tells whether a word may begin with a byte.
func IsLetter(b byte) bool {
	return 'a' <= b && b <= 'z' || 'A' <= b && b <= 'Z'
}

// IsDigit tells whether a byte is a digit.
func IsDigit(b byte) bool { return '0' <= b && b <= '9' }

// IsWordByte tells whether a byte may stand in a word, behind its first one.
func IsWordByte(b byte) bool {
	return IsLetter(b) || IsDigit(b) || b == '_' || b == '-'
}

// IsPlain tells whether a byte may stand in a string as it is, also within quotes.
func IsPlain(b byte) bool { return 32 <= b && b <= 126 }

// IsWord tells whether a text is a word.
func IsWord(s string) bool {
	if s == "" || len(s) > api.MaxWord || !IsLetter(s[0]) {
		return false
	}
	return list.Every([]byte(s), IsWordByte)
}

// IsString tells whether a text is a string that may be.
func IsString(s string) bool {
	if len(s) > api.MaxString {
		return false
	}
	return list.Every([]byte(s), func(b byte) bool { return IsPlain(b) || b == '\n' })
}

// CompareIDs orders IDs by Kind, then Name.
func CompareIDs(a, b api.ID) int {
	return cmp.Or(strings.Compare(a.Kind, b.Kind), strings.Compare(a.Name, b.Name))
}

func isID(id api.ID) bool { return IsWord(id.Kind) && IsWord(id.Name) }

func isAttr(a api.Attr) bool {
	if !IsWord(a.Name) || a.Name == AfterWord {
		return false
	}
	if a.IsText {
		return IsString(a.Text) && a.Number == 0
	}
	return a.Text == "" && -api.MaxNumber <= a.Number && a.Number <= api.MaxNumber
}

func compareAttrs(a, b api.Attr) int { return strings.Compare(a.Name, b.Name) }

// MayBe tells whether a resource may be.
func MayBe(r api.Resource) bool {
	if len(r.Attrs) > api.MaxAttrs || len(r.After) > api.MaxAfter {
		return false
	}
	return isID(r.ID) &&
		list.Every(r.Attrs, isAttr) && list.Rises(r.Attrs, compareAttrs) &&
		list.Every(r.After, isID) && list.Rises(r.After, CompareIDs)
}

func compareResources(a, b api.Resource) int { return CompareIDs(a.ID, b.ID) }

// AllMayBe tells whether resources may be.
func AllMayBe(l []api.Resource) bool {
	return len(l) <= api.MaxResources && list.Every(l, MayBe) && list.Rises(l, compareResources)
}
