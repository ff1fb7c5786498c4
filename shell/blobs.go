package shell

import (
	"strconv"

	"graft/api"
	"graft/pack"
)

// pack writes a document as a blob.
func (c call) pack() string {
	d := c.documents[0]
	b, err := pack.Doc(d.language, d.Doc)
	if err == api.OK {
		c.store.blobs[c.words[0]] = b
	}
	return answer(err, strconv.Itoa(len(b)))
}

// unpack reads a document again. Its language is a new one, which has no name.
func (c call) unpack() string {
	e, d, at, err := pack.ReadDoc(c.blob)
	if err != api.OK {
		return tell(err.Error(), strconv.Itoa(at))
	}
	c.store.documents[c.words[0]] = document{d, e}
	return answer(api.OK, strconv.Itoa(d.Versions()))
}

// bytes makes a blob of a text.
func (c call) bytes() string {
	c.store.blobs[c.words[0]] = []byte(c.words[1])
	return answer(api.OK, strconv.Itoa(len(c.words[1])))
}
