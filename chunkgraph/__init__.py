"""The graph of chunks: what the chunks of a document need, and which way leads from one to another."""
