package config

import (
	"strconv"
	"strings"

	"mason/api"
	"mason/rules"
)

// Print writes resources (P6).
func Print(l []api.Resource) (string, api.Errno) {
	if !rules.AllMayBe(l) {
		return "", api.ErrArg
	}
	var b strings.Builder
	for _, r := range l {
		printResource(&b, r)
	}
	return b.String(), api.OK
}

func printResource(b *strings.Builder, r api.Resource) {
	b.WriteString(resourceWord + " " + r.ID.Kind + " " + r.ID.Name + " {\n")
	for _, a := range r.Attrs {
		b.WriteString("  " + a.Name + " = " + valueText(a) + "\n")
	}
	if len(r.After) > 0 {
		b.WriteString("  " + rules.AfterWord + " = [" + refsText(r.After) + "]\n")
	}
	b.WriteString("}\n")
}

func valueText(a api.Attr) string {
	if a.IsText {
		return quote(a.Text)
	}
	return strconv.Itoa(a.Number)
}

// quote writes a string as readString reads it.
func quote(s string) string {
	out := []byte{'"'}
	for _, b := range []byte(s) {
		switch b {
		case '\\', '"':
			out = append(out, '\\', b)
		case '\n':
			out = append(out, '\\', 'n')
		default:
			out = append(out, b)
		}
	}
	return string(append(out, '"'))
}

func refsText(l []api.ID) string {
	var refs []string
	for _, id := range l {
		refs = append(refs, id.Kind+"."+id.Name)
	}
	return strings.Join(refs, ", ")
}
