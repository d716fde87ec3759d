"""What several tests share."""

LONG = 10 ** 5000


def raised(call, *arguments):
    """Return the error that a call raises, or None."""
    try:
        call(*arguments)
    except Exception as error:
        return error
    return None
