package drawer_test

import (
	"bytes"
	"encoding/binary"
	"fmt"
	"hash/fnv"
	"regexp"
	"slices"
	"sort"
	"strconv"

	"levy/api"
)

// model: a disk as the chapter has it: a list of files by name, in which each byte knows whether it is sure.
type model struct {
	files []modelFile
	up    bool
	arm   []int // the units left; none: no rig
	fail  []int // how many go on, how many fail; none: no rig
}

type modelFile struct {
	name  string
	bytes []modelByte
}

type modelByte struct {
	is   byte
	sure bool
}

var (
	anyName = regexp.MustCompile(`^[a-z0-9-]{1,12}$`)
	logFile = regexp.MustCompile(`^log-[0-9]{8}$`)
)

// newModel tells P19.1: nil, if the files may not be.
func newModel(files []api.File) *model {
	m := &model{up: true}
	for _, f := range files {
		if !anyName.MatchString(f.Name) || m.at(f.Name) >= 0 || len(f.Data) > 2097152 || f.Synced < 0 || f.Synced > len(f.Data) {
			return nil
		}
		x := modelFile{name: f.Name}
		for i, b := range f.Data {
			x.bytes = append(x.bytes, modelByte{b, i < f.Synced})
		}
		m.add(x)
	}
	if len(files) > 40 {
		return nil
	}
	return m
}

func (m *model) add(f modelFile) {
	m.files = append(m.files, f)
	sort.Slice(m.files, func(i, j int) bool { return m.files[i].name < m.files[j].name })
}

func (m *model) at(name string) int {
	return slices.IndexFunc(m.files, func(f modelFile) bool { return f.name == name })
}

func (m *model) told() []api.File {
	var l []api.File
	for _, f := range m.files {
		x := api.File{Name: f.name}
		for _, b := range f.bytes {
			x.Data = append(x.Data, b.is)
			if b.sure {
				x.Synced++
			}
		}
		l = append(l, x)
	}
	return l
}

// call: a call of P19.2: what, the file, Append's bytes, Trim's size.
type call struct {
	what string
	name string
	data []byte
	size int
}

func (c call) String() string {
	return fmt.Sprintf("%s(%q, %d, %d)", c.what, c.name, len(c.data), c.size)
}

// do tells P19.2 and P19.3, step by step.
func (m *model) do(c call) ([]byte, api.Errno) {
	if !anyName.MatchString(c.name) {
		return nil, 192
	}
	if !m.up {
		return nil, 190
	}
	changing := c.what != "Read"
	if changing && m.fail != nil {
		if m.fail[0] > 0 {
			m.fail[0]--
		} else {
			if m.fail[1]--; m.fail[1] == 0 {
				m.fail = nil
			}
			return nil, 191
		}
	}
	at := m.at(c.name)
	if at < 0 && c.what != "Append" {
		return nil, 193
	}
	if c.what == "Append" && (at < 0 && (len(m.files) == 40 || len(c.data) > 2097152) || at >= 0 && len(m.files[at].bytes)+len(c.data) > 2097152) {
		return nil, 194
	}
	if changing && m.arm != nil {
		cost := 1
		if c.what == "Append" {
			cost = 1 + len(c.data)
		}
		if cost > m.arm[0] {
			left := m.arm[0]
			m.crash()
			if c.what == "Append" {
				m.lay(c.name, c.data[:left])
			}
			return nil, 190
		}
		m.arm[0] -= cost
	}
	return m.done(at, c), 0
}

func (m *model) done(at int, c call) (told []byte) {
	switch c.what {
	case "Append":
		m.lay(c.name, c.data)
	case "Sync":
		m.sync(at)
	case "Trim":
		for c.size < len(m.files[at].bytes) && len(m.files[at].bytes) > 0 {
			m.files[at].bytes = m.files[at].bytes[:len(m.files[at].bytes)-1]
		}
	case "Remove":
		m.files = slices.Delete(m.files, at, at+1)
	case "Read":
		told = m.told()[at].Data
	}
	return told
}

func (m *model) lay(name string, data []byte) {
	if m.at(name) < 0 {
		m.add(modelFile{name: name})
	}
	for _, b := range data {
		m.files[m.at(name)].bytes = append(m.files[m.at(name)].bytes, modelByte{b, false})
	}
}

func (m *model) sync(at int) {
	for i := range m.files[at].bytes {
		m.files[at].bytes[i].sure = true
	}
}

// P19.4.
func (m *model) setArm(units int) {
	if m.up {
		if m.arm = nil; units >= 0 {
			m.arm = []int{units}
		}
	}
}

func (m *model) setFail(after, calls int) {
	if m.up {
		if m.fail = nil; after >= 0 && calls > 0 {
			m.fail = []int{after, calls}
		}
	}
}

func (m *model) crash() { m.up, m.arm, m.fail = false, nil, nil }

func (m *model) restart(keep []int) {
	m.crash()
	for i := range m.files {
		left := 0
		if len(keep) > 0 {
			left = keep[i%len(keep)]
		}
		var l []modelByte
		for _, b := range m.files[i].bytes {
			if !b.sure {
				if left <= 0 {
					break
				}
				left--
			}
			l = append(l, modelByte{b.is, true})
		}
		m.files[i].bytes = l
	}
	m.up = true
}

// pieceOf tells P19.5: a piece's bytes.
func pieceOf(number, sum uint32, kind byte, body []byte) []byte {
	var b bytes.Buffer
	b.WriteByte(0x52)
	for _, n := range []uint32{number, sum, uint32(len(body))} {
		binary.Write(&b, binary.LittleEndian, n)
	}
	b.WriteByte(kind)
	b.Write(body)
	return closed(b.Bytes())
}

// closed lays the sum of bytes behind them.
func closed(b []byte) []byte {
	h := fnv.New32a() // P7.5, by another hand
	h.Write(b)
	return binary.LittleEndian.AppendUint32(bytes.Clone(b), h.Sum32())
}

// stands tells P19.5: whether a piece is whole at the beginning of data; its record, its sum, and how many bytes it has.
func stands(data []byte, number uint32) (r api.Record, sum uint32, size int) {
	if len(data) < 18 {
		return r, 0, 0
	}
	many := binary.LittleEndian.Uint32(data[9:])
	if many > 1048576 || len(data) < 18+int(many) {
		return r, 0, 0
	}
	r = api.Record{Kind: data[13], Body: bytes.Clone(data[14 : 14+many])}
	sum = binary.LittleEndian.Uint32(data[5:])
	if !bytes.HasPrefix(data, pieceOf(number, sum, r.Kind, r.Body)) || number == 0 && r.Kind != 0 {
		return r, 0, 0
	}
	return r, sum, 18 + int(many)
}

// modelDrawer: a drawer as the chapter has it.
type modelDrawer struct {
	disk       *model
	sum        uint32
	generation int
	records    int
	stuck      bool
}

// found: what Open is to tell.
type found struct {
	summary []byte
	records []api.Record
	errno   api.Errno
}

// open tells P19.7, step by step.
func (m *model) open(sum uint32) (*modelDrawer, found) {
	if !m.up {
		return nil, found{errno: 190}
	}
	journal, of := "", uint32(0)
	for _, f := range m.told() {
		if logFile.MatchString(f.Name) && f.Name != "log-00000000" {
			if _, s, size := stands(f.Data, 0); size > 0 && f.Name > journal {
				journal, of = f.Name, s
			}
		}
	}
	if journal != "" && of != sum {
		return nil, found{errno: 198}
	}
	w := &modelDrawer{disk: m, sum: sum, generation: 1}
	var told found
	var calls []call
	if journal != "" {
		w.generation, _ = strconv.Atoi(journal[4:])
		f := m.told()[m.at(journal)]
		r, _, at := stands(f.Data, 0)
		told.summary = r.Body
		for {
			r, s, size := stands(f.Data[at:], uint32(len(told.records)+1))
			if size == 0 || s != sum {
				break
			}
			told.records = append(told.records, r)
			at += size
		}
		if at < len(f.Data) {
			calls = append(calls, call{what: "Trim", name: journal, size: at})
		}
		if f.Synced < at {
			calls = append(calls, call{what: "Sync", name: journal})
		}
	}
	for _, f := range m.told() {
		if logFile.MatchString(f.Name) && f.Name != "log-00000000" && f.Name != journal {
			calls = append(calls, call{what: "Remove", name: f.Name})
		}
	}
	if journal == "" {
		calls = append(calls, call{what: "Append", name: "log-00000001", data: pieceOf(0, sum, 0, nil)}, call{what: "Sync", name: "log-00000001"})
	}
	if e := m.all(calls...); e != 0 {
		return nil, found{errno: e}
	}
	w.records = len(told.records)
	return w, told
}

// all does calls up to the first that answers an error.
func (m *model) all(calls ...call) api.Errno {
	for _, c := range calls {
		if _, e := m.do(c); e != 0 {
			return e
		}
	}
	return 0
}

// P19.8.
func (w *modelDrawer) put(r api.Record) api.Errno {
	if w.stuck {
		return 196
	}
	if len(r.Body) > 1048576 {
		return 197
	}
	name := fmt.Sprintf("log-%08d", w.generation)
	e := w.disk.all(call{what: "Append", name: name, data: pieceOf(uint32(w.records+1), w.sum, r.Kind, r.Body)}, call{what: "Sync", name: name})
	if w.stuck = e != 0; !w.stuck {
		w.records++
	}
	return e
}

// P19.9.
func (w *modelDrawer) fold(summary []byte) api.Errno {
	if w.stuck {
		return 196
	}
	if len(summary) > 1048576 {
		return 197
	}
	if w.generation == 99999999 {
		return 194
	}
	old, name := fmt.Sprintf("log-%08d", w.generation), fmt.Sprintf("log-%08d", w.generation+1)
	e := w.disk.all(call{what: "Append", name: name, data: pieceOf(0, w.sum, 0, summary)}, call{what: "Sync", name: name}, call{what: "Remove", name: old})
	if w.stuck = e != 0; !w.stuck {
		w.generation++
		w.records = 0
	}
	return e
}
