"""The refusals."""


class ProofError(ValueError):
    """Any refusal."""


class BadTerm(ProofError):
    """Something handed in is no term, filling or book."""


class NoStep(ProofError):
    """A step of a paper does not fit; `why` is the word for it."""

    def __init__(self, number, why):
        super().__init__(f"step {number} does not fit: {why}")
        self.number = number
        self.why = why


class NoMove(ProofError):
    """A move of a walk does not fit."""

    def __init__(self, number):
        super().__init__(f"move {number} does not fit")
        self.number = number


class TooLong(ProofError):
    """What would be told is longer than it may be."""


class BadText(ProofError):
    """A text is none of a paper."""
