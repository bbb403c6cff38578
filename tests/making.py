"""Short ways to write the events of a history, and scripts, in the tests."""


def call(client, name, operation, *arguments):
    return ("call", client, name, operation, arguments)


def back(client, result):
    return ("return", client, result)


def script(text):
    """The script of words such as r(x), w(x)3 and w(x)-3."""
    return [
        ("read", word[2]) if word[0] == "r" else ("write", word[2], int(word[4:])) for word in text.split()
    ]


def scripts_of(*texts):
    return [script(text) for text in texts]
