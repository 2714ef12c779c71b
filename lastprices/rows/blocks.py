"""All codes of rows to which texts lead in a machine whose arcs cost nothing, found in blocks of many codes at once.

Such a code has one bit for each state. Its lowest bits are its tail, and the others its head. A block has a head and a
mask, which has a bit for each of the tails behind it. Where a letter leads from a block depends on the mask and on
where it leads from the head. Where thousands of codes come together, as in machines that remember letters, there are
few different masks, and each one is followed only once. In other machines this would take longer than code by code, so
it is given up there.
"""

from lastprices.base.masks import numbers_in, ones_in, unions_of
from lastprices.errors import TooMany
from lastprices.rows.spread import MAX_TABLE

# So many steps are always tried.
PATIENCE = 300


class Blocks:
    """The blocks of codes to which texts lead, by where the letters lead from each single bit, lowest bits first."""

    def __init__(self, letters):
        self._letters = letters
        many = max([len(images) for images in letters], default=0)
        # How many bits a tail has.
        self.tail_bits = many // 2
        # By heads: the masks.
        self.masks = {}
        # How many codes there are, and how many steps were made to find them.
        self._many = 0
        self._steps = 0
        # By letters: where they lead from heads and from tails, and what was found out about masks.
        self._from_heads = []
        self._from_tails = []
        self._found = [{} for _ in letters]
        # By masks: how many tails they have.
        self._sizes = {}

    def has(self, code):
        """Whether a code is there."""
        return self.masks.get(code >> self.tail_bits, 0) >> (code & (1 << self.tail_bits) - 1) & 1 == 1

    def fill(self, codes, layer):
        """Takes some codes, and all to which texts lead from a layer of them.

        False if this is given up; TooMany if there are more codes than a table can have.
        """
        blocks = self._blocks_of(layer)
        if not self._are_few(blocks, len(layer)):
            return False
        self.masks = self._blocks_of(codes)
        self._many = len(codes)
        self._from_heads = [unions_of(images[self.tail_bits:]) for images in self._letters]
        self._from_tails = [unions_of(images[:self.tail_bits]) for images in self._letters]
        while blocks:
            later = {}
            for at in range(len(self._letters)):
                self._follow(at, blocks, later)
                if self._many > MAX_TABLE:
                    raise TooMany(MAX_TABLE)
                if self._steps > PATIENCE + (self._many - len(codes)) // 2:
                    return False
            blocks = later
        return True

    def _blocks_of(self, codes):
        """A dict from the heads of some codes to their masks."""
        width, low = self.tail_bits, (1 << self.tail_bits) - 1
        blocks = {}
        for code in codes:
            head = code >> width
            blocks[head] = blocks.get(head, 0) | 1 << (code & low)
        return blocks

    def _are_few(self, blocks, many):
        """Whether some blocks, and the tails of their different masks, are few beside so many codes."""
        if 2 * len(blocks) > many:
            return False
        sizes = [self._size(mask) for mask in sorted(set(list(blocks.values())))]
        return 2 * sum(sizes) <= many

    def _size(self, mask):
        """How many tails a mask has."""
        if mask not in self._sizes:
            self._sizes[mask] = ones_in(mask)
        return self._sizes[mask]

    def _follow(self, at, blocks, later):
        """Takes the codes to which a letter leads from some blocks, and adds new ones to some for later, too."""
        heads, masks, found = self._from_heads[at], self.masks, self._found[at]
        width, low = self.tail_bits, (1 << self.tail_bits) - 1
        for head, mask in list(blocks.items()):
            image = heads[head]
            place = (image & low, mask)
            if place not in found:
                found[place] = self._behind(at, image & low, mask)
            for more, ends in list(found[place]):
                goal = image >> width | more
                known = masks.get(goal, 0)
                news = ends & ~known
                if news:
                    masks[goal] = known | news
                    later[goal] = later.get(goal, 0) | news
                    self._many += self._size(news)
        self._steps += len(blocks)

    def _behind(self, at, tail, mask):
        """Where a letter leads from the tails of a mask: pairs of what heads get from them, and of the mask behind it.

        The tails there get the bits of one more, to which the letter leads from the head.
        """
        width, low = self.tail_bits, (1 << self.tail_bits) - 1
        images = self._from_tails[at]
        numbers = numbers_in(mask)
        found = {}
        for image in [images[number] for number in numbers]:
            more = image >> width
            found[more] = found.get(more, 0) | 1 << (image & low | tail)
        self._steps += len(numbers) // 4
        return list(found.items())
