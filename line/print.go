package line

import (
	"strconv"
	"strings"

	"guideway/api"
)

// Print returns the text of a line.
func Print(l api.LineLine) (string, api.Errno) {
	if _, err := check(l); err != api.OK {
		return "", err
	}
	var out strings.Builder
	out.WriteString(row("line " + l.Name))
	for i, joint := range l.Joints {
		if i > 0 {
			out.WriteString(row("beam", l.Beams[i-1].Length, l.Beams[i-1].Cant))
		}
		out.WriteString(row("joint", joint.Across, joint.Up, joint.Off.Lo, joint.Off.Hi))
	}
	for _, s := range l.Switches {
		out.WriteString(row("switch "+s.Name+" "+strconv.Itoa(s.First), s.Across...))
	}
	return out.String(), api.OK
}

// row returns a line of text.
func row(words string, numbers ...int) string {
	for _, number := range numbers {
		words += " " + strconv.Itoa(number)
	}
	return words + "\n"
}
