"""What codes cost."""

from allstreams.codes import need_code
from allstreams.ratios import Ratio


def cost(code):
    need_code(code)
    sums = [instruction[2] for instruction in code.instructions if instruction[0] == "sum"]
    products = len([ratio for terms in sums for ratio, _ in terms if ratio.size() != Ratio(1)])
    additions = sum([len(terms) - 1 for terms in sums if terms])
    return products, additions, code.cells, sum([len(ring) for ring in code.rings])
