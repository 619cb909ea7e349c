"""Parts of terms with their sides, and the three rules, without any check."""


class Part:
    """A part of a term: its text, and its left and right side, both None for a letter."""

    def __init__(self, text, left, right):
        self.text = text
        self.left = left
        self.right = right


def joined(left, right):
    """Return the product of two parts."""
    return Part("*" + left.text + right.text, left, right)


def parts_of(term):
    """Return the list of the parts that begin at the indexes of a term."""
    found = []
    # The parts behind each sign, the next one last; so even very deep terms need no recursion.
    open_parts = []
    for sign in term[::-1]:
        if sign == "*":
            left = open_parts.pop()
            right = open_parts.pop()
            part = joined(left, right)
        else:
            part = Part(sign, None, None)
        open_parts.append(part)
        found.append(part)
    return found[::-1]


def rules_at(part):
    """Return the list of the pairs of a rule that can be used for a whole part, and of the part to which it leads."""
    left, right = part.left, part.right
    if left is None:
        return []
    found = []
    if left.left is not None and right.left is not None and left.right.text == right.left.text:
        found.append((1, left.right))
    if right.left is not None and right.left.left is not None and right.left.left.text == left.text:
        found.append((2, right.left))
    if left.left is not None and left.right.right is not None and left.right.right.text == right.text:
        found.append((3, left.right))
    return found


def form_of_product(left, right):
    """Return the form of the product of two forms."""
    part = joined(left, right)
    # Each rule leads to a part of a side; all parts of forms are forms.
    for _, result in rules_at(part):
        return result
    return part


def form_part(term):
    """Return the form of a term, as a part with its sides."""
    open_parts = []
    for sign in term[::-1]:
        if sign == "*":
            left = open_parts.pop()
            right = open_parts.pop()
            open_parts.append(form_of_product(left, right))
        else:
            open_parts.append(Part(sign, None, None))
    return open_parts[0]
