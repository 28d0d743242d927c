"""Programs written by hand, for what programs by lot seldom have: parts that call themselves, lists, functions
handed to functions, things that nobody looks at, or many do. All of them end by need."""

from samples import WORDS, sample, sample_ways
from uselots.texts import Program

TEXTS = [
    "run 5",
    "run let x plus 1 2 plus x x",
    "run let f fun y plus y 1 plus call f 2 call f 3",
    "part dup fun x plus x x\nrun let a plus 1 2 let b 5 call dup a",
    "part twice fun f fun x call f call f x\nrun call call twice fun y plus y 1 5",
    "part twice fun f fun x call f call f x\nrun call call call twice twice fun y plus y 1 0",
    "part one fun x 5\npart on fun x call on x\nrun call one call on 0",
    "part sum fun n pick n 0 plus n call sum plus n -1\nrun call sum 4",
    "part fib fun n pick less n 2 plus call fib plus n -1 call fib plus n -2 n\nrun call fib 4",
    "part even fun n pick n 1 call odd plus n -1\npart odd fun n pick n 0 call even plus n -1\nrun call even 5",
    "part make fun n pick n 0 pair n call make plus n -1\n"
    "part add fun k fun l pick k 0 plus first l call call add plus k -1 second l\nrun call call add 3 call make 4",
    "part map fun f fun k fun l pick k 0 pair call f first l call call call map f plus k -1 second l\n"
    "run let l call call call map fun x plus x x 3 pair 1 pair 2 pair 3 0 plus first l first second second l",
    "part loop fun f fun n pick n 0 plus call f n call call loop f plus n -1\nrun call call loop fun y plus y y 3",
    "part k fun a fun b a\npart s fun a fun b fun c call call a c call b c\nrun call call call s k k fun x x",
    "part swap fun p pair second p first p\nrun let p pair plus 1 2 fun x plus x x call first call swap p second call swap p",
    "part swap fun p pair second p first p\nrun call swap call swap pair 1 2",
    "run let p pair let q pair 1 2 q plus 3 4 let r p plus first first r plus first first p second r",
    "run let f fun g call g fun x call x 1 let g fun h call h fun y plus y 1 plus call f g call f g",
    "run let f fun x fun y plus x y let g call f 1 plus call g 2 plus call g 3 call call f 4 5",
    "part f fun c let g fun y y pick c 0 plus call g 1 call g 2\nrun plus call f 0 call f 1",
    "part fix fun f call f call fix f\nrun call call fix fun r fun n pick n 7 call r plus n -1 3",
    "run let x let y plus 1 1 plus y y let x plus x x let x plus x x x",
    "run let unused call 1 2 let p pair call 3 4 5 second p",
    "run less plus 99 99 let x pair 1 fun z z call second x first x",
    "part id fun x x\nrun let i call id id call i call call i id call id i",
    "run pick let f fun x plus x 1 call f call f -2 fun a pair a a 0",
]
PROGRAMS = [Program(text) for text in TEXTS]


def programs_and_ways(many):
    """All programs written by hand, and so many by lot, each with ways for it."""
    for number, program in enumerate(PROGRAMS + [sample(seed) for seed in range(many)]):
        for way in sample_ways(program, number):
            yield program, way


def words_and_mixtures(program, seed):
    return [way for way in sample_ways(program, seed) if way not in WORDS]
