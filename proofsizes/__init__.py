"""Programs of relations, run in every direction, their answers by the sizes of their proofs."""
