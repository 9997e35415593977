"""Shelfroutes: join engines that change their plan while rows still arrive and leave."""
