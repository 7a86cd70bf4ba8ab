"""Three nets, and what sections 16 to 18 tell of them, written down once from what the program told.

Of each net's two stresses the first one is the sum of its stress_basis, the other one has pushes. Pulls are those of
the roof that creases tells, sites are theirs. Behind each spot stand its lands, and the height there of the first
stress's roof.
"""

from fractions import Fraction

from support import told

ONE = {
    'text': (
        'net 2; peg k 7 3; peg p 3 0; peg a 1 3; peg j -1 0; peg c 6 5; ring e 2 3/2 1 -2; ring b 7/2 3/2 0 0; '
        'ring q 4 3 1 -2; cord j e; cord k b; cord a q; cord e b; cord b q; cord e a; cord b p; cord q c; cord q e'
    ),
    'rim': 'k c a j p',
    'lands': 'k c q b; k b p; p b e j; a j e; a e q; a q c; e b q',
    'sides': '3 2; 1 0; 5 4; 6 2; 6 0; 3 4; 1 2; 5 0; 6 4',
    'stress_basis': '1 0 0 0 2/3 -1/3 2/3 3/2 4/3; 0 1 0 2 -1/2 1 1/2 -9/8 -1; 0 0 1 0 3 0 3 9/4 0',
    'stresses': [
        {
            'stress': '1 1 1 2 19/6 2/3 25/6 21/8 1/3',
            'roof': '0 0 0; -3/2 7/2 0; 19/4 17/12 -75/4; 25/4 -19/12 -69/4; 21/4 -9/4 -57/4; 21/4 -21/4 -21/4; 19/4 -19/12 -57/4',
            'second': '0 0; 3/2 -7/2; -19/4 -17/12; -25/4 19/12; -21/4 9/4; -21/4 21/4; -19/4 19/12',
            'bulges': ('bulges',),
        },
        {
            'stress': '2/3 -1 4/3 -2 89/18 -11/9 71/18 41/8 17/9',
            'roof': '0 0 0; 3/2 -7/2 0; 89/12 -197/36 -71/4; 101/12 -269/36 -67/4; 41/4 -25/4 -89/4; 41/4 -41/4 -41/4; 89/12 -89/36 -89/4',
            'second': '0 0; -3/2 7/2; -89/12 197/36; -101/12 269/36; -41/4 25/4; -41/4 41/4; -89/12 89/36',
            'bulges': ('dents', 1),
        },
    ],
    'creases': '0 0 0; -12 28 0; 18 18 -90; 81/2 -27 -135/2; 36 -30 -54; 36 -36 -36; 18 -6 -54',
    'pulls': '15 8 2 16 12 3 20 18 12',
    'sites': '0 0 0; 6 -14 232; -9 -9 252; -81/4 27/2 10557/16; -18 15 603; -18 18 684; -9 3 144',
    'spots': {
        '2 3/2': ('2 3 4 6', '-57/8'), '4 3': ('0 4 5 6', '0'), '3 0': ('1 2', '-9/2'), '1 3': ('3 4 5', '-63/4'),
        '11/4 3/2': ('2 6', '-57/16'), '5 7/2': ('0', '0'), '2 1/2': ('2', '-205/24'), '9/2 2': ('0', '0'),
        '0 1': ('3', '-113/6'), '5 3': ('0', '0'), '4 4': ('5', '-21/4'), '3 9/4': ('4 6', '-57/16'),
        '23/7 11/5': ('6', '-893/420'), '0 0': ('2', '-75/4'), '8 3': ('', 'BadSpot'), '9/2 3/2': ('1', '-3/2'),
    },
}
TWO = {
    'text': (
        'net 2; peg e -3 6; peg k 0 1; peg q 0 8; peg d -3 3; peg p 3 6; peg g 3 3; ring h 0 6 0 0; '
        'ring r 0 3 1 -2; cord h p; cord r h; cord q h; cord r e; cord k r; cord e h; cord g h; cord r g; cord r d'
    ),
    'rim': 'e d k g p q',
    'lands': 'e d r; e h q; e r h; k g r; k r d; q h p; p h g; g h r',
    'sides': '5 6; 2 7; 5 1; 0 2; 4 3; 1 2; 7 6; 7 3; 4 0',
    'stress_basis': '1 0 0 0 0 1 0 0 0; 0 1 0 0 3/2 -1 -1 0 0; 0 0 1 0 0 2/3 2/3 0 0; 0 0 0 1 3/2 0 0 0 -1; 0 0 0 0 0 0 0 1 1',
    'stresses': [
        {
            'stress': '1 1 1 1 3 2/3 -1/3 1 0',
            'roof': '0 0 0; -3 -5 21; -3 -3 9; -6 0 0; 0 0 0; -5 -5 21; -5 -2 3; -6 -3 9',
            'second': '0 0; 3 5; 3 3; 6 0; 0 0; 5 5; 5 2; 6 3',
            'bulges': ('dents', 6),
        },
        {
            'stress': '2/3 -1 4/3 -5/3 -4 23/9 17/9 2 11/3',
            'roof': '0 0 0; 5 -8/3 31; 5 5 -15; 8 11 -33; 0 11 -33; 7/3 -8/3 31; 7/3 -2/3 19; 8 5 -15',
            'second': '0 0; -5 8/3; -5 -5; -8 -11; 0 -11; -7/3 8/3; -7/3 2/3; -8 -5',
            'bulges': ('dents', 1),
        },
    ],
    'creases': '0 0 0; -6 -15 72; -6 -6 18; -12 3 -9; 0 3 -9; -18 -15 72; -18 -12 54; -12 -6 18',
    'pulls': '1 2 6 2 6 3 2 3 1',
    'sites': '0 0 0; 3 15/2 -27/4; 3 3 0; 6 -3/2 189/4; 0 -3/2 45/4; 9 15/2 261/4; 9 6 63; 6 3 27',
    'spots': {
        '0 6': ('1 2 5 6 7', '-9'), '0 3': ('0 2 3 4 7', '0'), '-3 6': ('0 1 2', '0'), '0 1': ('3 4', '0'),
        '0 9/2': ('2 7', '-9/2'), '-1 6': ('1 2', '-6'), '3/2 7': ('5', '-43/2'), '1 5': ('6 7', '-12'),
        '-2 7/2': ('0', '0'), '1 2': ('3', '-6'), '3 9/2': ('6', '-21'), '0 8': ('1 5', '-19'),
        '13/9 40/9': ('7', '-13'), '0 0': ('', 'BadSpot'), '4 6': ('', 'BadSpot'), '3/2 2': ('3', '-9'),
    },
}
THREE = {
    'text': (
        'net 2; peg m 2 6; peg g 0 3; peg n 5 0; peg c 7 3; peg b 5 6; peg a 2 0; ring h 5 3 1 -2; '
        'ring q 2 3 1 -2; cord a q; cord n h; cord a h; cord h q; cord q b; cord h c; cord h b; cord g q; cord m q'
    ),
    'rim': 'm g a n c b',
    'lands': 'm g q; m q b; g a q; n c h; n h a; c b h; b q h; a h q',
    'sides': '2 7; 4 3; 7 4; 7 6; 1 6; 5 3; 6 5; 0 2; 1 0',
    'stress_basis': '1 0 0 0 0 0 0 0 1; 0 1 0 0 0 0 1 0 0; 0 0 1 0 0 3/2 1 0 0; 0 0 0 1 0 3/2 0 3/2 0; 0 0 0 0 1 0 0 3/2 -1',
    'stresses': [
        {
            'stress': '1 1 1 1 1 3 2 3 0',
            'roof': '0 0 0; 0 0 0; 0 6 -18; -9 9 9; -6 9 -6; -9 3 27; -3 3 -3; -3 6 -12',
            'second': '0 0; 0 0; 0 -6; 9 -9; 6 -9; 9 -3; 3 -3; 3 -6',
            'bulges': ('bulges',),
        },
        {
            'stress': '2/3 -1 4/3 -5/3 2 -1/2 1/3 1/2 -4/3',
            'roof': '0 0 0; 4 0 -8; 0 1 -3; -3 5 -6; -6 5 9; -3 6 -9; -2 6 -14; -2 1 1',
            'second': '0 0; -4 0; 0 -1; 3 -5; 6 -5; 3 -6; 2 -6; 2 -1',
            'bulges': ('dents', 1),
        },
    ],
    'creases': '0 0 0; -3 0 6; 0 12 -36; -18 18 9; -15 18 -6; -18 6 45; -9 6 0; -9 12 -18',
    'pulls': '3 1 2 2 2 6 3 6 1',
    'sites': '0 0 0; 3/2 0 -15/4; 0 -6 72; 9 -9 153; 15/2 -9 573/4; 9 -3 45; 9/2 -3 117/4; 9/2 -6 297/4',
    'spots': {
        '5 3': ('3 4 5 6 7', '-9'), '2 3': ('0 1 2 6 7', '0'), '2 6': ('0 1', '0'), '7 3': ('3 5', '-27'),
        '7/2 3': ('6 7', '-9/2'), '6 3': ('3 5', '-18'), '2 9/2': ('0 1', '0'), '1 4': ('0', '0'),
        '4 5': ('1 6', '0'), '4 1': ('4', '-21'), '13/2 9/2': ('', 'BadSpot'), '5 1': ('3 4', '-27'),
        '29/9 31/10': ('6', '-101/30'), '0 0': ('', 'BadSpot'), '5 7': ('', 'BadSpot'), '7/2 0': ('4', '-27'),
    },
}


def numbers(text):
    """The tuple of integers that a text writes."""
    return tuple(map(int, text.split()))


def row(text):
    """The row of fractions that a text writes."""
    return tuple(told(Fraction(word)) for word in text.split())


def rows(text):
    """The rows of fractions that a text writes, parted by semicolons."""
    return tuple(map(row, text.split(';')))
