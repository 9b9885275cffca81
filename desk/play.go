package desk

import (
	"errors"
	"strconv"
	"strings"

	"levy/api"
	"levy/graph"
	"levy/pack"
	"levy/rules"
)

// Compile makes a pack's bytes of a rule text.
func Compile(text string) ([]byte, error) {
	p, err := rules.Parse(text)
	if err != nil {
		return nil, err
	}
	var data []byte
	_, _, errno := graph.New(p) // it answers types.Check's error ahead of its own
	if errno == api.OK {
		data, errno = pack.Put(p)
	}
	if errno != api.OK {
		return nil, &api.Misread{Err: errno}
	}
	return data, nil
}

// Play does the lines of a script over a rule text and tells all replies.
func Play(text string, lines ...string) (string, error) {
	data, err := Compile(text)
	if err != nil {
		return "", err
	}
	p := &play{}
	p.form, _ = formOf(data)
	p.desk, _ = Open(data, nil)
	for _, line := range lines {
		p.line("> ", line)
		p.act(line)
	}
	return p.told.String(), nil
}

// play is a script that is being done.
type play struct {
	form *form
	desk *Desk
	told strings.Builder
}

// line tells a line, put together of parts.
func (p *play) line(parts ...string) {
	for _, s := range parts {
		p.told.WriteString(s)
	}
	p.told.WriteByte('\n')
}

// act does a line of the script, and tells what came of it.
func (p *play) act(line string) {
	c, err := Parse(p.form.pack, line)
	var m *api.Misread
	if errors.As(err, &m) {
		p.line("misread ", strconv.Itoa(m.At), " ", number(m))
		return
	}
	r := p.desk.Do(c)
	if r.Err != api.OK {
		p.line("error ", number(r.Err))
		for _, one := range r.Conflicts {
			p.conflict(one)
		}
		return
	}
	found, _ := commandOf(c.Kind)
	found.tell(p, c, r)
}

// number tells the number of an error, whatever is wrapped around it.
func number(err error) string {
	var errno api.Errno
	errors.As(err, &errno)
	return strconv.Itoa(int(errno))
}
