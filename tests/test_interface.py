import importlib
import inspect
import unittest

JOURNAL = ['machine', 'watch', 'journal']

# File, class or None, what it has: parameters (those behind a * with one), or None of a property.
LISTED = (
    ('machines', 'Machine', {
        '__init__': ['self', 'steps', 'clock', 'pages', 'move', 'first'], 'steps': None, 'clock': None, 'pages': None,
        'move': None, 'first': None, 'names': None, 'sets': None, 'following': ['self', 'name'],
        'page': ['self', 'name'], 'is_run': ['self', 'value'], 'runs': ['self', 'length'], '__eq__': ['self', 'other']}),
    ('prices', None, {
        'price': ['machine', 'run', 'sets'], 'best': ['machine', 'run'],
        'shows_best': ['machine', 'run', 'value', 'heights']}),
    ('watches', None, {
        'is_watch': ['machine', 'value'], 'seen': ['machine', 'watch', 'run'], 'unseen': ['machine', 'watch', 'run'],
        'coarser': ['machine', 'one', 'other']}),
    ('fitting', None, {
        'fits': JOURNAL + ['run'], 'fitting': JOURNAL, 'how_many': JOURNAL, 'where': JOURNAL + ['tick'],
        'stuck': JOURNAL, 'shows_stuck': JOURNAL + ['value']}),
    ('warmth', None, {
        'touches': JOURNAL + ['page', '*since', '*until'], 'fewest': JOURNAL + ['page', '*since', '*until'],
        'most': JOURNAL + ['page', '*since', '*until'],
        'shows_fewest': JOURNAL + ['page', 'value', 'heights', '*since', '*until'],
        'shows_most': JOURNAL + ['page', 'value', 'heights', '*since', '*until'],
        'warmer': JOURNAL + ['one', 'other', '*since', '*until'],
        'shows_warmer': JOURNAL + ['one', 'other', 'value', '*since', '*until'], 'age': JOURNAL + ['page'],
        'warmest': JOURNAL + ['*since', '*until'], 'slow': JOURNAL + ['sets']}),
    ('rules', 'Rule', {
        '__init__': ['self', 'machine', 'watch', 'states'], 'machine': None, 'watch': None, 'states': None,
        'row': ['self', 'run'], 'numbers': ['self', 'run'], 'price': ['self', 'run'], '__eq__': ['self', 'other']}),
    ('rules', None, {'alike': ['one', 'other'], 'shows_alike': ['one', 'other', 'value']}),
    ('bounds', None, {
        'bound': ['rule', 'a', 'b'], 'shows_bound': ['rule', 'a', 'b', 'value'], 'rate': ['rule'],
        'shows_rate': ['rule', 'value']}),
    ('versus', None, {
        'versus': ['one', 'other', 'a', 'b'], 'shows_versus': ['one', 'other', 'a', 'b', 'value']}),
    ('holding', None, {
        'hold': ['machine', 'watch', 'a', 'b', 'most'], 'shows_posts': ['machine', 'watch', 'a', 'b', 'd', 'value'],
        'shows_book': ['machine', 'watch', 'a', 'b', 'd', 'value'], 'rule_of': ['machine', 'watch', 'posts']}),
    ('sparing', None, {
        'sparing': ['machine', 'watch', 'prices', 'a', 'b', 'd'],
        'shows_sparing': ['machine', 'watch', 'prices', 'a', 'b', 'd', 'value']}),
    ('keeper', 'Keeper', {
        '__init__': ['self', 'rule'], 'see': ['self', 'marks'], 'swap': ['self', 'rule', 'number'], 'undo': ['self'],
        'rule': None, 'number': None, 'turn': None, 'now': None, 'journal': None, 'sets': None, 'paid': None,
        'touches': ['self', 'page'], 'age': ['self', 'page'], 'warmest': ['self'], 'slow': ['self'], 'trial': ['self'],
        'tried': ['self', 'look'], '__eq__': ['self', 'other']}),
    ('texts', None, {
        'show_machine': ['machine'], 'show_watch': ['machine', 'watch'], 'show_journal': JOURNAL, 'show_rule': ['rule'],
        'read_machine': ['text'], 'read_watch': ['machine', 'text'], 'read_journal': ['machine', 'watch', 'text'],
        'read_rule': ['machine', 'watch', 'text']}),
    ('desk', 'Desk', {'__init__': ['self', 'keeper'], 'keeper': None, 'say': ['self', 'line']}),
)
DEFAULTS = {'since': 0, 'until': None}


class InterfaceTest(unittest.TestCase):

    def test_names_and_arguments(self):
        for file, kind, listed in LISTED:
            module = importlib.import_module(f'seldomseen.{file}')
            holder = module if kind is None else getattr(module, kind)
            if kind is not None:
                self.assertEqual(holder.__module__, module.__name__)
            for name, parameters in listed.items():
                with self.subTest(file=file, name=name):
                    # vars, so that what is inherited does not count.
                    thing = vars(holder)[name]
                    if parameters is None:
                        self.assertIsInstance(thing, property)
                        continue
                    self.assertEqual(thing.__module__, module.__name__)
                    told = inspect.signature(thing).parameters.values()
                    by_name = inspect.Parameter.KEYWORD_ONLY
                    self.assertEqual([('*' if part.kind == by_name else '') + part.name for part in told], parameters)
                    for part in told:
                        self.assertIn(part.kind, (by_name, inspect.Parameter.POSITIONAL_OR_KEYWORD))
                        self.assertEqual(part.default, DEFAULTS.get(part.name, inspect.Parameter.empty))


if __name__ == '__main__':
    unittest.main()
