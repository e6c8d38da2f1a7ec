import importlib
import inspect
import unittest

# File, class or None, what it has: parameters, or None of a property.
LISTED = (
    ('machines', 'Machine', {
        '__init__': ['self', 'steps', 'clock', 'pages', 'move', 'first'], 'steps': None, 'clock': None, 'pages': None,
        'move': None, 'first': None, 'names': None, 'sets': None, 'following': ['self', 'name'],
        'page': ['self', 'name'], 'is_run': ['self', 'value'], 'runs': ['self', 'length'], '__eq__': ['self', 'other']}),
    ('prices', None, {
        'price': ['machine', 'run', 'sets'], 'best': ['machine', 'run'],
        'shows_best': ['machine', 'run', 'value', 'heights']}),
)


class InterfaceTest(unittest.TestCase):

    def test_names_and_arguments(self):
        for file, kind, listed in LISTED:
            module = importlib.import_module(f'seldomseen.{file}')
            holder = module if kind is None else getattr(module, kind)
            if kind is not None:
                self.assertEqual(holder.__module__, module.__name__)
            for name, parameters in listed.items():
                with self.subTest(file=file, name=name):
                    # vars, so that what is inherited does not count.
                    thing = vars(holder)[name]
                    if parameters is None:
                        self.assertIsInstance(thing, property)
                        continue
                    self.assertEqual(thing.__module__, module.__name__)
                    told = inspect.signature(thing).parameters
                    self.assertEqual(list(told), parameters)
                    self.assertEqual({part.kind for part in told.values()}, {inspect.Parameter.POSITIONAL_OR_KEYWORD})


if __name__ == '__main__':
    unittest.main()
