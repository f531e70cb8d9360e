"""The graph of chunks: what the chunks of a document need, the ways between them, what never stands in a file."""
