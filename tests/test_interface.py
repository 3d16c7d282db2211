"""The interface: names, arguments, and the files in which things are defined."""

import inspect
import unittest

from joinlags import chains, desk, early, judge, nests, nets, reach, runs, stops, tables, texts, tune, yard

FUNCTIONS = {
    nets: {"is_net": "(thing)", "is_counts": "(net, thing)", "is_drops": "(net, thing)",
           "incoming": "(net, worker)", "outgoing": "(net, worker)", "groups": "(net)", "idle": "(net)",
           "rings": "(net)", "slack": "(net)"},
    runs: {"held": "(net, drops, *, deaths=())", "closes": "(net, drops, ends)",
           "stands": "(net, drops, counts)", "order_to": "(net, drops, counts)"},
    reach: {"can_stand": "(net, counts)", "way_to": "(net, counts)", "leads_over": "(net, worker)",
            "most_messages": "(net)", "most_counts": "(net)", "most_flow": "(net)",
            "lead_price": "(net, worker, other, lead)", "lead_counts": "(net, worker, other, lead)",
            "lead_flow": "(net, worker, other, lead)"},
    judge: {"never_held": "(net)", "lags": "(net)", "shows_never": "(net, thing)", "lags_in": "(net, parts)",
            "least_parts": "(net)", "lag_room": "(net, worker, other)", "least_way": "(net, worker, other)",
            "bad_ring": "(net)", "cheapest_ring": "(net)", "is_bad_ring": "(net, thing)", "fewest_drops": "(net)",
            "holding": "(net)", "sprung": "(net, ring, first)"},
    early: {"can_be_left": "(net, many, counts)", "price": "(net, many, counts)",
            "drops_that_leave": "(net, many, counts)", "least_left": "(net, many)", "earliest": "(net)",
            "need": "(way)", "lasso": "(net, worker)", "behind": "(net, worker)"},
    tune: {"raised": "(net, queue, room, notice)", "limits": "(net, queue)", "greatest_notice": "(net, queue)",
           "greatest_common": "(net)", "full": "(net)", "filled": "(net, order)", "sure_sets": "(net)",
           "fewest_sure": "(net)"},
    stops: {"is_deaths": "(net, thing)", "can_stop": "(net, deaths, ends)", "stop_drops": "(net, deaths, ends)",
            "first_stops": "(net, deaths)", "last_stops": "(net, deaths)", "first_way": "(net, deaths, worker)"},
    tables: {"is_part": "(thing)", "is_table": "(thing)", "table_of": "(part)", "joined": "(part, other)",
             "alike": "(part, other)", "stands_for": "(part, other)", "foil": "(part, other)", "part_of": "(table)",
             "needs": "(part)", "extended": "(part, lags, scale)"},
    chains: {"is_link": "(thing)", "chain": "(link, many)", "circle": "(link, many)", "glued": "(link, other)",
             "chain_table": "(link, many)", "longest": "(link)", "settled": "(link)", "endless": "(link)",
             "even_lags": "(link)", "goes_round": "(link)"},
    texts: {"net_text": "(net)", "part_text": "(part)", "drops_text": "(drops)", "deaths_text": "(deaths)",
            "ends_text": "(net, ends)", "steps_text": "(steps)", "rows_text": "(rows)", "net_in": "(text)",
            "part_in": "(text)", "drops_in": "(net, text)", "deaths_in": "(net, text)", "ends_in": "(net, text)",
            "steps_in": "(net, text)", "rows_in": "(text)"},
    desk: {"answers": "(text)"},
}
CLASSES = {
    nets.Way: {"__init__": "(self, net, start, queues)", "steps": "(self)", "workers": "(self)",
               "cost": "(self)", "is_ring": "(self)", "is_bad": "(self)", "__len__": "(self)",
               "__contains__": "(self, queue)", "__add__": "(self, other)", "__neg__": "(self)",
               "__mul__": "(self, many)", "__eq__": "(self, other)"},
    runs.Run: {"__init__": "(self, net, drops, *, deaths=())", "counts": "(self)",
               "passed": "(self, worker)", "messages": "(self, queue)", "__len__": "(self)",
               "__iadd__": "(self, worker)", "__contains__": "(self, worker)", "ready": "(self)",
               "settle": "(self, many)", "back": "(self)", "twin": "(self)", "__eq__": "(self, other)"},
    tables.Table: {"__init__": "(self, rows)", "rows": "(self)", "__len__": "(self)", "__getitem__": "(self, at)",
                   "__iter__": "(self)", "is_within": "(self, other)", "__or__": "(self, other)",
                   "__and__": "(self, other)", "some": "(self, places)", "needed": "(self)",
                   "__eq__": "(self, other)"},
    nests.Nest: {"__init__": "(self, text)", "text": "(self)", "blocks": "(self)", "__len__": "(self)",
                 "__contains__": "(self, block)", "__eq__": "(self, other)", "unfolded": "(self, block)",
                 "size": "(self, block)", "table": "(self, block)", "row": "(self, block, many)",
                 "longest": "(self, block)", "first_held": "(self)", "held_ring": "(self)",
                 "way_in": "(self, block, i, j)", "ring_sums": "(self)", "ring_queue": "(self, place)",
                 "queue_at": "(self, block, path)", "lag": "(self, block, path)",
                 "changed": "(self, block, queue, room, notice)", "swapped": "(self, block, other)"},
    yard.Yard: {"__init__": "(self, net)", "__setitem__": "(self, queue, worth)", "__getitem__": "(self, queue)",
                "__iter__": "(self)", "__contains__": "(self, queue)", "__len__": "(self)", "net": "(self)",
                "drop": "(self, queue)", "hire": "(self, worker)", "never_held": "(self)", "lags": "(self)",
                "ring": "(self)", "table": "(self, doors)", "small": "(self, inner, name)", "back": "(self)",
                "twin": "(self)", "__eq__": "(self, other)"},
}


class InterfaceTest(unittest.TestCase):

    def test_functions(self):
        for module, functions in FUNCTIONS.items():
            for name, arguments in functions.items():
                found = getattr(module, name)
                self.assertTrue(inspect.isfunction(found), name)
                self.assertEqual(found.__module__, module.__name__, name)
                self.assertEqual(str(inspect.signature(found)), arguments, name)

    def test_classes(self):
        self.assertEqual(nets.Way.__module__, "joinlags.nets")
        self.assertEqual(runs.Run.__module__, "joinlags.runs")
        self.assertEqual(tables.Table.__module__, "joinlags.tables")
        self.assertEqual(nests.Nest.__module__, "joinlags.nests")
        self.assertEqual(yard.Yard.__module__, "joinlags.yard")
        for found, methods in CLASSES.items():
            for name, arguments in methods.items():
                self.assertIn(name, vars(found))
                self.assertEqual(str(inspect.signature(vars(found)[name])), arguments, name)

    def test_what_does_not_change_has_no_in_place_signs(self):
        for name in ("__iadd__", "__imul__", "__ior__", "__iand__"):
            self.assertFalse(hasattr(nets.Way, name))
            self.assertFalse(hasattr(tables.Table, name))


if __name__ == "__main__":
    unittest.main()
