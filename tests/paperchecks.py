"""Refusals with NoWay, whose papers are gone through."""

from foldlog.papers import is_paper
from framesets import is_paper_told_of
from logsets import told_by
from refusals import no_way


def check_no_way(case, log, of, call, *arguments):
    # The paper is one of the second log, and of the kind that is to be told; the
    # first log stays.
    before = told_by(log)
    paper = no_way(case, call, *arguments)
    case.assertEqual(told_by(log), before)
    case.assertIs(is_paper(of, paper), True)
    case.assertTrue(is_paper_told_of(of, paper), paper)
    return paper
