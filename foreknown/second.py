"""The second language's interpreter in the first one, and scores compiled by making it with them."""

from foreknown.errors import NoScore
from foreknown.reading import read
from foreknown.scores import is_score
from foreknown.work import left_over

# All that it knows of the score falls from the score, and the jars alone are
# handed on later: so making ends, and each function that is made takes the jars
# and nothing else. A loop that goes on goes to its own score once more.
INTERPRETER = """fun play score jars
some = many score
if some
one = head score
more = rest score
do = field one 'do
at = field one 'at
isset = same do 'set
if isset
n = field one 'n
jset = put jars at n
go play more jset
else
here = item jars at
iswhen = same do 'when
if iswhen
if here
bwhen = field one 'body
jwhen = call play bwhen jars
go play more jwhen
else
go play more jars
end
else
isloop = same do 'loop
if isloop
if here
bloop = field one 'body
jloop = call play bloop jars
go play score jloop
else
go play more jars
end
else
from = field one 'from
there = item jars from
isadd = same do 'add
if isadd
sum = add here there
jadd = put jars at sum
go play more jadd
else
issub = same do 'sub
if issub
left = sub here there
jsub = put jars at left
go play more jsub
else
product = mul here there
jmul = put jars at product
go play more jmul
end
end
end
end
end
else
give jars
end"""


def interpreter():
    return read(INTERPRETER)


def compiled(score):
    if not is_score(score):
        raise NoScore()
    return left_over(interpreter(), (score, None))
