"""A rewriter of machine code that leaves a paper."""
