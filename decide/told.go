package decide

import (
	"latchwork/api"
	"latchwork/lines"
	"latchwork/trace"
)

// wrong: the text that tells which line of a model's text is.
func wrong(line int) string {
	var w lines.Writer
	w.Numbers("error", line)
	return w.String()
}

// told: the text of a decision.
func told(d api.Decision) (string, api.Errno) {
	var w lines.Writer
	w.Numbers(endWord(d.End), d.Deep)
	if d.End != api.EndUnsafe {
		return w.String(), api.OK
	}
	how, e := trace.Print(d.Trace)
	if e != api.OK {
		return "", e
	}
	w.WriteString(how)
	return w.String(), api.OK
}

func endWord(end int) string {
	switch end {
	case api.EndSafe:
		return "safe"
	case api.EndUnsafe:
		return "unsafe"
	}
	return "unknown"
}
