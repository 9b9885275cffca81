package drawer

import (
	"bytes"

	"levy/api"
	"levy/pack"
)

// mark: the byte that each piece begins with.
const mark = 0x52

// Where the parts of a piece stand, by bytes from its beginning.
const (
	wordSize = 4
	numberAt = 1
	sumAt    = numberAt + wordSize
	sizeAt   = sumAt + wordSize
	kindAt   = sizeAt + wordSize
	bodyAt   = kindAt + 1
)

// piece: the summary or a record, but for its number: that is its place among the others.
type piece struct {
	sum  uint32
	kind byte
	body []byte
}

// size tells how many bytes a piece has in its file.
func (p piece) size() int { return bodyAt + len(p.body) + wordSize }

// bytes tells them.
func (p piece) bytes(number int) []byte {
	b := make([]byte, 0, p.size())
	b = append(b, mark)
	b = appendWord(b, uint32(number))
	b = appendWord(b, p.sum)
	b = appendWord(b, uint32(len(p.body)))
	b = append(b, p.kind)
	b = append(b, p.body...)
	return appendWord(b, pack.Sum(b))
}

// pieceAt tells the piece of a number that stands at the beginning of data, if it is whole. Its body is a part of data.
func pieceAt(data []byte, number int) (piece, bool) {
	if len(data) < bodyAt+wordSize || data[0] != mark || wordAt(data, numberAt) != uint32(number) {
		return piece{}, false
	}
	size := wordAt(data, sizeAt)
	if size > api.MaxBody || int(size) > len(data)-bodyAt-wordSize {
		return piece{}, false
	}
	end := bodyAt + int(size)
	p := piece{wordAt(data, sumAt), data[kindAt], data[bodyAt:end]}
	if number == 0 && p.kind != 0 || wordAt(data, end) != pack.Sum(data[:end]) {
		return piece{}, false
	}
	return p, true
}

// journal: what stands in a file that can be read.
type journal struct {
	sum     uint32
	summary []byte
	records []api.Record
	size    int // how many bytes the summary and the records have in the file
}

// journalIn tells the journal of a file's bytes, if they can be read.
func journalIn(data []byte) (journal, bool) {
	p, ok := pieceAt(data, 0)
	if !ok {
		return journal{}, false
	}
	j := journal{sum: p.sum, summary: bytes.Clone(p.body), size: p.size()}
	for {
		p, ok = pieceAt(data[j.size:], len(j.records)+1)
		if !ok || p.sum != j.sum {
			return j, true
		}
		j.records = append(j.records, api.Record{Kind: p.kind, Body: bytes.Clone(p.body)})
		j.size += p.size()
	}
}

// appendWord lays a number down in four bytes, lowest first.
func appendWord(b []byte, n uint32) []byte {
	return append(b, byte(n), byte(n>>8), byte(n>>16), byte(n>>24))
}

func wordAt(b []byte, at int) uint32 {
	return uint32(b[at]) | uint32(b[at+1])<<8 | uint32(b[at+2])<<16 | uint32(b[at+3])<<24
}
