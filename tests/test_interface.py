"""Everything that the document's interface names is there, with its arguments."""

import importlib
import inspect
import unittest

from risecount.desk import Desk

NAMES = {
    "orders": "is_order(rows) order_of(n,ties) ties_of(order) bare_ties(order) put_under(order,a,b) "
              "part_of(order,things)",
    "ordertext": "order_text(order) read_order(text)",
    "fillings": "rises(order,filling,k) count_plain(order,k)",
    "goings": "goings_many(order) goings_listed(order) going_at(order,number) going_number(order,going) "
              "descents_of(going) shares_by_descents(order)",
    "there": "going_of(filling) row_of(filling) filling_of(going,row)",
    "rows": "rows_many(going,k) row_at(going,k,number) row_number(going,k,row)",
    "numbered": "filling_at(order,k,number) filling_number(order,k,filling) fillings_listed(order,k)",
    "counts": "chosen(x,m) count_at(order,k) polynomial(order) shares_by_steps(order) pieces_many(order)",
    "bases": "steps_of(shares) descents_from(shares) value_of_descents(shares,k) value_of_steps(shares,k)",
    "downsets": "downsets(order) is_calm(order,things)",
    "chains": "chain_table(order)",
    "cutting": "loose_pairs(order) cut(order,a,b)",
    "cutpaper": "cut_paper(order) shows_cuts(order,rows) counted_by(rows,k)",
    "turned": "names_turned(order) upside_down(order)",
    "sums": "side_by_side(one,other) above_plain(one,other) above_strict(one,other)",
    "least": "least_k(order) lowest(order)",
    "forests": "is_forest(order) sizes_of(order) forest_goings(order)",
    "shapes": "shapes_of(m) shape_order(shape) hooks(shape) contents(shape) shape_goings(shape) shape_count(shape,k)",
    "alike": "laying(one,other) told_apart(one,other)",
}


class InterfaceTest(unittest.TestCase):
    def test_functions_with_their_arguments(self):
        for name, written in NAMES.items():
            module = importlib.import_module(f"risecount.{name}")
            for function in written.split():
                called, given = function.rstrip(")").split("(")
                parameters = inspect.signature(getattr(module, called)).parameters
                self.assertEqual(list(parameters), given.split(","), function)

    def test_desk(self):
        self.assertEqual(list(inspect.signature(Desk).parameters), [])
        self.assertEqual(list(inspect.signature(Desk().ask).parameters), ["line"])


if __name__ == "__main__":
    unittest.main()
