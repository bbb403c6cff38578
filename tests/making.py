"""Short ways to write the events of a history in the tests."""


def call(client, name, operation, *arguments):
    return ("call", client, name, operation, arguments)


def back(client, result):
    return ("return", client, result)
