import PyProof.Rows.All
import KE.KIntText
import KE.KTryMore
import KE.KDictLaws
import KE.KItem
import Open.Pieces
import KE.RegKTryMore
import OpenK.KOwn
import KE.KItemsList
import Lean
import PyProof.EqAt
import PyProof.EqKinds
import PyProof.TupleCall
import PySem.Challenge.RW_inkroot_k55_shares
set_option compiler.extract_closed false
set_option Elab.async false
set_option linter.all false
set_option maxRecDepth 100000
set_option maxHeartbeats 4000000
abbrev gY:=List (List (List Int))
abbrev cZ:=List (List Int)
abbrev iK:=List (List Nat)
abbrev gD:=List (Int × Nat)
abbrev KG:List PySem.Str:=["self"]
abbrev X4:List PySem.Str:=["self","sheet"]
abbrev zl2:List PySem.Str:=["row","start","stop"]
abbrev zl3:List PySem.Str:=["rows","sheet"]
abbrev zl4:List PySem.Str:=["_law_rows","_law_sheet"]
abbrev zl5:List PySem.Str:=["_law_src_here","_law_world_here"]
abbrev zl6:List PySem.Str:=["_law_src_here","_law_world_here","_law_house"]
abbrev cC:=@List.length_map.{0,0}
abbrev cR:=@List.length_append.{0}
abbrev d7:=@Nat.le_refl
abbrev gI:=@List.map_append.{0,0}
abbrev jT:=@List.mem_cons_of_mem.{0}
abbrev nh:=@List.getElem?_eq_getElem.{0}
abbrev jH:=@List.length_cons.{0}
abbrev mL:=@List.mem_of_getElem?.{0}
abbrev lG:=@Bool.false_ne_true
abbrev o7:=@PySem.F.plainAttrs_list
abbrev gW:=@List.length_singleton.{0}
abbrev gj:=@List.getElem?_map.{0,0}
abbrev eO:=@Nat.le_of_lt
abbrev gO:=@List.length_take.{0}
abbrev gP:=@List.take_length.{0}
abbrev gG:=@List.append_nil.{0}
abbrev jW:=@PySem.F.slot_list_append
abbrev jX:=@PySem.F.type_list_append
abbrev gZ:=@List.size_toArray.{0}
abbrev fX:=@Nat.le_trans
abbrev jI:=@List.concat_eq_append.{0}
abbrev jb:=@List.flatMap_cons.{0,0}
abbrev kJ:=@List.mem_append_right.{0}
abbrev kZ:=@List.eq_nil_or_concat.{0}
abbrev jq:=@List.append_assoc.{0}
abbrev lQ:=@List.mem_append_left.{0}
abbrev lS:=@List.getLast?_concat.{0}
abbrev ic:=@Nat.zero_le
abbrev jo:=@List.map_cons.{0,0}
abbrev jY:=@List.foldl_cons.{0,0}
abbrev pC:=@List.take_of_length_le.{0}
abbrev jc:=@Nat.ne_of_lt
abbrev nP:=@List.mem_cons_self.{0}
abbrev uT:=@List.getElem?_append_right.{0}
abbrev wW:=@PyProof.Rows.boot_isinstance
abbrev oU:=@Nat.lt_of_lt_of_le
abbrev tK:=@PyProof.Rows.boot_list
abbrev nQ:=@Option.some.inj.{0}
abbrev uU:=@List.length_replicate.{0}
abbrev pD:=@List.length_drop.{0}
abbrev oV:=@List.length_nil.{0}
abbrev wX:=@List.drop_of_length_le.{0}
abbrev wY:=@List.mem_of_mem_take.{0}
abbrev uV:=@PySem.W.mg_none_of
abbrev Cn:=@List.getElem?_append_left.{0}
noncomputable section
namespace PySem.W.Fast
local macro_rules |`(universe $i*)=>do return Lean.mkNullNode (←i.mapM fun x=>`(theorem $(Lean.mkIdent (.mkSimple s!"tw{((x.getId.toString.drop 1).foldl (fun n c=>n*62+(c.toNat-(if c≤'9' then 48 else if c≤'Z' then 55 else 61))) 0)}")):ident :True:=⟨⟩))
universe a6i4MIlv9Vcp a2QEumjbG68R aKfFLdlgWPXM a8M7JuvGERbD a9FeTMwWaReu aJdV5AdUTa2u a4fjIXRvQ9T4 a52dh9dJXU7z a6Pr9HSnJnBY a4EWgBVcuTNR a1KSKIZvmhxQ azSnPktRcF9 aDtO8D8PsoYk a1XjBbqvyrtZ aJyoCsQqKGeJ aH8GS5wwJLo6 aBnY9ptH3Hnk a2tvRnGiwrBL aBM3FP4pAuRS aKts06nGlyU aBpP6EmEHkQ6 a2NKV4NByXFu aJzoM30sz7gc aKR7ARAazYw3 aDKeMAS12yxV aBE4wKf0Lcs1 aDjgouzbfqxo a3GIqfkWZs5g aKlSKmN5cwId aGYjqTOeCh92 aGVFjZJAd7k1 a7nSeiIBd0Lc aAikVBCoeoix aIOsF3RUzHGY aB08Q59S1FYn aEWGjusOEAIn a14ZSHDiUraN aICiZUqll0FV a7nZBS0i3EUv a3lJmSXcKrSt aIh9uDMH7XvV aKjvsR9kRayx a1bNWvBhr7wy aIpdkCAHGOVL aEE1S4jo4k22 a2IwU1i9TcdZ aDPWCP4FETNf aFay3qAXHuvE aqKvIfcAkCq aBd2rZy7gCHp a3abjfCVF69s aH275Ii4ynH1 aH0jzFQ17Olq aAK7QBkiuwo7 ahsV5cf2Wzd aCTsPOO7IHx4 a63w5WGmjG3O a5jfyQ6SWw0J aLy3sZOQHINh aFjBu6yzAw9T aIoM0QTSXe4V aGJlEix0WYsk aAvBB0HPOkod a7xmVWKQdMvW aKdixNuamlXk a4cr49YX2wQq a3t2V9p0hacz a2An3zJ5SpsV a1S8BkmXE8c6 a7UkEeoQo2il aI7kcwfDPSRv aCdRy9STATMt a7faRVlTWJc9 aBfA4V01OPIc aI4Cwg73OqeK a2Z0JPfXQ0CV a2GZFZw6CxY7 aGCl5j1A5vZI a5S6IIDNQqrJ a4lTCqkpv90P aGJrQDjuyNuf aJANuJ2ZbLT3 a6cCrcW2wM4w a5FBuAKTSAgM aBLYTgwP5CrR aKJ7gcdOupEp aBva4RIkqhBO adJFMklBr6p aCiyWTgQtwyz aJhyJVPwrMh6 aKJxU3XJvKM9 aJ45KQL1Hhcs a2dfH5QyP4fB aJuQoPhDo4My a4OO5pRAQOXg aLdKyg9mnwud aGP9bYuwycs9 aGWM7mkK0Zaw a7F7btCyHPBP aEzjZAhPJDfj a7dzY9vqzNde aJUCAJnmPRIY aIlw4jVgQDdy aJpwQBpW0FW8 aB73AuaNvS2x aCeBttMLdDIc a6cXAk35FFiK aL3Udpv6WC0v aEnnnScU0tEV aB56QRQtuEs4 a4bDL4lFAHhl a9nh2wZcS0Xv a2ciJ53iYLLg a50o66OcfQf7 aJrb3LBrNyGh a3C6NuniFV5O a5XGVtGTvCka a3YdAmzZJwfm a2I13JAOqPn5 a2dSNlAfmueX aFqTRi0sGDpO a7YdWqwgp80x a2nLHhKK0oSP aIoB3gKJqkxM a6sknmVTnxTF aGKdzpwFWVF1 a5N17tu5DhXs a7xraekAm2Ew aB3SDdTPmTXE a6eUlq6yAfw6 aIfZdEufXQPu a3rp67g57B8r aGdGV64SgZLL aHVDn6Rq8Qad a8HHSrcwUoIL aIv4HHgw2pGP aJhIVJaPzMFc a6K7e2m7fDEb aDbXXGbvYirM a2nuyJAKP9BN aDaIVtH4Mwvc aBAM7YVSdvKG aLEUApbXoziU a9ncy2akmfdu asYeNXT0jgY aHAEmiiZTt2f a1S3ngIt5jRj aJHKyksJsyrR aACYjFgvqns2 a7qajd619XwU aBJhYakrqwkV a9Oi2452dMoV aDXjRwrs0Qsc aDustxWnWfAV aHsIeIPxOBJx a4aG2WmIUIO1 a8JH6ruzVTc7 aKd5iE7hx5QZ aBbdM6eylf2E aJAXEmakpNV8 a6tYJTLHIVbd aC4PtB5CGQq0 aIet8S5qpru1 aApUyJe4pd6p aAJZZ6YFQH39 aEwvBOQrtZay aDZkKJ9OERW9 aC2QHh8KpNyd aKZud2CngQLg aDnV3nYETJ63 a2lZHVAWaqjV a36n4pvXUQki aBXdZbFZvc8E a2zML48HM4ip aJCjgHgZqo6q aJWX3Pa1A1lp aF55Q5gmDFyV a5b7kAPeDUAo aIXP6bNLJKX aBDEEg6yAmGl aEKH1onCAcuN aoR9LTyJoz9 aAK9b1RTUdzG a7VE0uBIEM7c a17wqwz1rcyV aHqLLJ5UKbnt a8Rui08wL0wi aGD2v7qopJZ9 aJQM5KG20Nux aEfeRaZxfJSz aDvP0InznwyI a7GaVVwG0pln a67UtlGshCll aLnIagRCb6lk a9tMKq5IRhLl aEeBTXBd5135 a6VCGErgfIGA a9qz5Ra1N5WO aErkhKganCw3 aJIBosywfSSu aDoaVU8UATVc a3PfqX7Uhq7l aECJndVbe9TR a2PnFZsUJY2 a4INgifAPY0 aGXXjb7uQqVS a4dWNnM113vd a6wREVRoCmJL aKfu2GC5jeFH aJlQsDLiYxDd a5d7jFokJjuq aAKJZJfLvbS0 aGByh2pNkpMU aFHVToTc0hLl aJK8P5c1nZPt aClCaEaYtiYw aJHpk6GfgZhD aDPAZ9oVcZqV a3jvJTAmo76j aH4Wn1KX8pF7 a7VxNp7v7fMr aLZg9V4BjIHe aI6Wf5kMLZQf aLHMVk2eLvPO aASLFsgd6iuB aEgfTqRPgqwv aLVcah0L3zKw aHw1KA8QSTtG aBXSTvHNwtoS a5wPlJsWese3 a4E6ejdEb9Iv a6ggOTpGFO6q aFceGcHUjMZl aDKj8Gav6Uzz aflGrrvgSrV a4zxFEEtVznb aJCQFzdM9PiW aAGEIihMM3Wy a19ma3vylByH aHgEEXVjmiPA a2dqpCcZD34n aFN4IpCOnW2Q a5WqYZcNTcrj a9YJYriWIkSP a6GT73MqVCTQ a7Di4ctxUHzS a7BWpqaSUApS a7nhRWPuqdbP a3HlotJ7XFLx aA9IJyM7ybG a7ayUjZR2RCB a4AHlhvMS2eO aG5AsMZ0g4K5 aCUFNyBZe3Z3 a7Iux2lRyItA a6qXFTuVjQMW aFkaAeQzpqDg aKoIddVufgsr a5RLBhsje9cS aBOBGNEOvhQu aKRO4Oz1S02o a5WMFSHfNWnJ aEIVcjybDwbF aGiQzFK8Y4Yf aDaIMRLqGrmi a8a9OMqn60Ky aIYOFWrPjcvy aIl37GpuRPyR a1LSX4rMWzve a7YNM0NWX0I6 aKm8GqrbXISN aJfSvlNGjJFF aH7PBe5sHC1J any1xqp28W0 aAOsn6eL8Ti2 aDqBx1gQramJ aLAHmqgk0PaF a59inJSYWdhX aH8dFOpTh4xY aJNdJ7U8Qogc a96wdcSHI88r aEnZbcR1UnhI a3QyLJ58cxxK aEXWuqAi7ntQ a5VCCiTNMLkX a3M5a1VmFoby a7CFXTMcWhQx aFCEqh2Z1fy0 a2BYPqymePff aKZaljAEFlS a3fI8lvWB0VU aBd5p0FCqXGT aB5XefsdWxX4 aFecf7nQDEaI aCJj77ZD38CC aIqVJNHa45bX a7ZUS4XRHGFG a6TpnFWYnkCk aL0PaY9mPn91 aEMWk1HB7nC9 a7GATTDzC4wk aI0IMCHqt7ho a1oyWkiLA2Rh a3mje7z8jElK a5CZV0vZbcbN a3ApY62duQtp aJT00hbysMm2 aLhMRcd14aKs aH6z32wh2HrX aLueI9QtNr5W a9ybscHJeB98 aKwuk69UMirX aEmNCrkrqU7v aK7Z4uz0SbFf aKNV2lKXwqsK a6rENKIJomZT a7eQzlbDAVDs aJrIcI0n9V8G aBabQkM6tZba aAk6cvHH87WP a2zrOzRFV5Jw a1jb8YquAaL9 ao1iK5mgsOu a1l0S7NNfu9x a6G9PS24WWNk aAEZO2kKF3gZ aG9xDKJCHw0V aHEl7oiCTNHU a2Cd3mFoKhkS aankU9l05ri aL7EvfPwFpW3 aETQObwnD5bf aKPXOPl9ojKd a1NPDOeFFJeN a1yYwvD6rkgX aKSZR95bZJxQ aK17rNnp8gsH a5RSpVS8HcdY aHgWGXv7KyO aJVb98vvLCxf aGtiIJiu12tu a9B1FgD3xwI3 a4NXb2BWSkLz a737nyqCYOQl a9ocuG9b37ii aIRYXt9wEJKD a3sAobADvpjn aJPLFeAGwNnG aCq3TRDSV4ML a9AEDADOfqMc a3UmW7i2Cs1g aAyIEACQvkO6 a5iYQPIlNRUc a7h6kD7sZ4YN a1XF6gYdhbW aLmRhbszE6lT aJjLU5RALJWY a5Jks6gYCwZf a9b4qhGRQalY a9TdiBJO56di aFv2k4a8vhk8 aJEpv83I0tEN aLaU9YmLBUiL a3A8vY23hgvR aEdyJHk130mO aw5TDzpjlHH a910wOmzSL22 a8y6NyZVAHWV a2oGvfXlbAWs aGowgKUmNVE5 aIBdPHpMvJfg aKLrQ7rP5oid a3gRLbKroEKa aHHRJptGj35Q a4gmFHTJrDz6 aGQRKOEKHa9C aFA0VCdNpyye a44A9StkQyTm a3IHmMW08zBa aHoVuVANtSVy aDPISkvkcx48 aAA459U18DPm a1zZG8MNcHia a5hGmDegDPL7 aLL7BV7z595I aEo6s0uWlV6G aDW6GaH4hcsW aJGDo5jmqf9V a9UEFuGGZHvV a3GIc7y8yuSA aGrVb8s0zak2 a288gbbs4XKp a6McO7QYtQWF aDEjLQuGwRtO aGC7IncdXXS9 a9P62IwmFxe2 a2w8lRvjmDN4 aHV8AYlfSCOy a8sz4RQFDtTP aKzrhXzZ573b a21eOt9fMVVS aA3PlQlBxDja a2Mv6sDU9rjS aCScC4pXb4jP a1YZckjzPGd6 a1xa7ecAz6FE aHj3lim619gg a4oVEbm2lXlx a3DOI3WGqkMk a4zpVFwJ788j aCJOCmR9hMzK aDf7y7vQTamw aEYYi6LXEkdi a5ekpPXC9E1R aBo4XafVSl8P a2usH9n9uzzF a3pC60y1S4Xg a9RSa8Hg7fNJ aDup3Or7fD5J a1wqAEm8wFc8 ahP7WzTIwif a80HMJ2qhqiR a8aoPTcUaNO4 a7IVL3nIIaDl a15BCRcdY2Aa a8AhB3EaxG5O aIyCXmwGC2zt aGfTqXeb7HIm a9DtcNrUCO0H a19q8YGrmQXH aFnkSUYQTYWm a7ijuYBcJe56 aFTiVoyuRWkT aAKmW4kB8x1k a8PjxuorZyNl aD1inRJzDMuT a1MoBCbL6zRo aBK4bhx9WwkZ a2mTiviiRmrW aHmpCqsMWNBL aBcydtLAjdVn a1X48AI7Ne8i a3eXSZ4aelAA aIJg4FKjScKy aGcRbQrv6NLC a4eslfzsdkLL aCgOxyDAsnk8 a7qrAB6mN5dp a5M0IqaBY9nr a57MgnoFKhOE aKm5t9b8qh76 a9u8hIcK7Ewn a6kiCNjOmrdo a4JcOakWDESW a4m03AgWnEoz a27gdyRSRg0H asSzScyOxSe a9Nq9xWf4N79 aHbca6uKDW7r a6c94fss7B24 aG9ynKYyBcDB aKH206RRFf5z aBMcgm1SCWYO a5JZbklUpznC aDTKvJi0Jwkr aJ7j0XoDC2HO a6zfMBLh5nsR aCtJCFQBhonM aKGi5NNQqzoX aFK3QgUEdxA aXzASSRa7Rf a4aAw19ZJwQx a2Vr3CBB2ClI aJXo3DpC1UU7 aF1vN2dXnMCX aER4AoHEOrQ0 aL1Te0uzzd70 aKeaw1cUTKij a2zMgOGW9qvf aFbDEGZaEMGe aoeDnkode5O aDKrafgrfs73 a2SQzpEWJ4zf aIfxjrxYBl2l aBWLbfSqum9Q aJArmCvglrQj a2pcQATP0gWh aAvoRMJlZQBI aA2n3kwNSG7U a5yufoV1vbY9 aBVQXhbL1Txu aHvaJDYnYkKS aE0ECQkiYIMW aFax21wDtsHz a8PhkF0N0mlZ aJ5M9WmOdmPI aAwXog39GgsX a3FrNgxPBwVZ a9JN5wpJslji aLXNJTTvB4Wv aUIge0J1HJr aKW666CKAtVH aCdXaDxC3gUz a6gk2Ad6inyK aJvu1Bsy5KZ3 a7SJ5DIGYuH9 a5nHjH6VkcQh aJQDxcehM5LI aLSVfMyNPfZn a4uDnPN5o0Jy aBdh64j32qjd a9yQJQCaGJnS a8rj2H8TPXad aJUOTkaoZ5wy a8jHc4E20CoC aGwZyxeUhZBU a1gPaIjKW5y1 aCmKhDH56Mt6 aG8CkHoZw2iK a9CaPxTZH4sT aDjsgWSfwfgG aDX1xalFWSVl a6zoL4eXliKt aJ7YCTh8C7Cf a5qAT6yLXl8w aKKKMveFXp2H a7wimqL7OA9s a33D8H1fWCRH a9Y86LNhYsC5 aGDMqWCPKceE aFjedl6opge9 a955TFJwHZ5T aLXGEyhFqVUf aJ6MvyQ7Gd3g a9AV2zeLPo8V aHfQbORgbvGO a1ugPfWDyItb a2qcdGveYrdy a6qqztnRmhSj aDoT86raPNbc aDhXqQiFFVMa a7Kb2AKlE7Yr aE4Fy8R7Pl6k aICbN3SAWJAA a9VxUPppZF6N a3Em5Ug6e1pm a9tnlXUuCMrd aDbgpUEQ5vjJ a3T7zSp5qN0A aK9mSPOBfqj9 aJVf8aTfLyIe aBKQ1TVzwdF1 aEGKEjFTmw9z a8cYrE7nQ1Iw aE6lZRJERr2b aGRbK91rvUZz aH4xc5gRWVnU aK1wBhoeT13t a5x2JhmVJwl7 aERkXKubEj9B a4vG7hjpwLTS aGu0MPkfMGAI a9n5iSG0GDiK a5AyDolINP8S a55RMlYgo1Rd aAfcTYQh9nTD aKs34H8mufpo aJeMMd2debcR a6qgU4hsuf8y aAKdNktDhARe a5l7k3lYZozA aCiwvsoBsgXY a1Z9iqJ8rxBg a72iQ7r3WtNw a3a3UjWEl9CO aLrA916dah0W a8iqK8grckK2 a9RCunBZ58Tn a1YVSbTONume aKhV6qHZcVBe aLNLa2WYpVSA a4TtBJFxdAYg a1sbYEr1jwtR aA149WvxK8JK a6oMGYaeCAle aCzJDtb4JG4 aYqai2AkFUO aDV3nrKKihAt aD0tvDxShw7f aGOnyxWGxo6t aDAOkLM0jQwY a5FoY6S44gcN aGm1PM1r4bUK aFjaJpaFqYPy aF4UEEuS2f6U aKIeNTbY61my aBgJPiHpZv2E aEXlMgMdXude aEAdpxjb8ZQX aGDsl4aFe9dB aGlXKVGYqbez aBlbD6lKWj6b a7sE3uKpM5Dq aEzYNTZ7uRTq aIF1cLPHd2GS aGG9x3ORb94w ahW8deRM31O aGpdoWmuZRLz aKbwEx85jgXd aHLnwHTv5iNL aEJiR6x40qRX a2OgR4xA9F0e aCRCWYG8EJS9 aKzDrX5XNOVd aF7Rc571LL6R aD1qvNGizMuW aH34mjd5nSQA aJcyfNrJlsv8 aHm75nJSAd5r aJmCWIfgsiUM aK4QP169Xn6l aIrNifyUi9NK aRz5a17Au5R aIYUY4rEYbiu aEL6ouJXgtbg a2QHEkqwSEjf a2dDtuH9nlo3 aLyIurtaHbB0 aLWCnGFRoQux aL3w9359IDjn a3V4xtouowvH a21l88TLgHBW a8tuvqnmpXVW aBAtph2bYuzF a6ysYtYk5VSx aBpSl2mCisFM aGqx3M57TWBG aLij1BYOp1io aHaowvNP5u8L aD6wJqI8DKQk a8cAQXoqiMPD aA0hyxMrLGmP aBwUqr0dyVBV a5KZDFRMhni aAX3UJYao4Y8 a16zw3ksSVqI a5dMQ16ozGt9 aHnlcJHiuor8 aIBUpUBI03WZ a88GnEmg7lp3 aBTYgAKljiFU a9Jt6H58yt2N aAypC8y8UkFC aIFKBGAzSaLC aBNPO6LKdOjp aKN4R0XQKrZ0 aINIAiOJYlCE aJcAD6VjmuPV aBiaywyBL26H aDeSdVHMf5wj a7UqYDaQH3PG aDJvI85Vpxc a7JPAesI4otg aAs7CsgyPOh4 aIG4uKRDEyQZ aI8ylTAF7MdX aBKDjXOZ7v5O a3PbecIcK5DO aG1N8ubJhhfi a3Ym0GbjZiaC a52t5nHZ3vy2 aHvdJATDg0R1 aEfmZvS7H8p6 aGApzN021K0C a2Ly68Poryy3 aHYnUmG6PQU3 a8o9VlCmh0YD aAD3eJX4CDwv aBk48tIlG3Ny aAHc0Vj9OCwB a2DLLvC6KGON aHm230Skh82B a6Z6sq7KMfjN aIGhOThNqMMI aBqaUfxsQPfp a8C0W2Znjo5C aExtam2WS5MB a9Pzd1DU0avZ aH5Bc1syl8gN aBa2s6DBX0CR aBLeO8fBX8S3 aGybNGZPVye aHbmDEUXTK96 aAAqX7kpgfct a5xaGwLhCfRR a6qFoPp8ZLtt aFYOUsGpEPl2 a8MgiK8CYppe a4tEwhI8mK3D a47SM6CAzryG aKV7yjQfO5k5 aJ8zPX1tuzG7 aFHA982CudhN aACLmx5bTvw6 aEruh7YqLvQY aK7czFOWN7C8 aFRnY1jg5Qrp a7xIZWPMCHiv aFBWgijjDodH aITRKJ0vCSGg a4ErInE37hPk aDXDvqeaxQFA aDwygxi9kYlS aHjmUCadN6jr aAWPOmg3utRW aDS3x07FwYeE aEipQim63sbn aJPO1UHCgICZ aExZT7CDZyOV aEyxdwZOSI6M aLvwpt8AhdBy aBEQnOm448U1 aG5FfkIKNyJI aEf1o4K1jyES a8rfFSnVIdpU a32rwUggtNhY a7d74WYHAjE0 aAjNRdjYAmBq aLw4QOhi8WCi a78K3n3BO4u2 aEGD12MiDXUL aDY2eglgrlrW a99DkqOioWnq a5Nc6PUrEoK1 a5HoXPdvr2vr a3zgBCyPcWI aCdViVKvKqXC a1ISuZcAm7ia a2K33oZsSLdD aKgp6f5yrzia aDLuaF83fbxn aFw7o3hJ7ABQ aHgreqLqEigX aK5xyJODy48n aLYTpiJASpT a6r92NUatukq aHd1UBpbnAdi a1K8wFyojckS a4tKPqiCKPHr aHH3d2kcxfpi aGxYG39qeUH aEzXZDySXh1z aIReJc10hQk6 a7TY8AcnED7v aF6V2reP2dYy aGrBVEpBvIRg aD4pJpxGJWbt aKEXYwr6K4Ui a6YnpJrwkK4s aDBNI6Yf6ZbL aCJIieJUGXhP aIgDlEErUuba aJQDMkXudZJS aEIjDdUNE1jA aAAEvtxZDF03 a2dUMlLXDAOg a9bf2eXxx8SY aIJrAatjM0qf aI5aVqsAo1z a7PXzuxocPDC aD2ISj56VfH2 aALVtFYNpBDO a5oVaZzVkLrq a1RtUKGQjwoQ a7rSdeDOSwz9 avl2o4MVcI4 a2qXi3ekMxLz aKuEZOp3v0FQ aJKsjPy6e2od aELQ4jVzm3VM a8kNUYBbmzLB a9NbJQUGk0zO aJlkeh3O8kbc a4OhVwmmrbbP a2eEewFm4h3E aKKF4G3flatL aHkC8REmAWXQ aBdFZLDjMzCw a1PRBrcwvtRt aCMlnPmSvYbs aJ1rKEz65Py5 aJpODg7cGbpg aEU0r6UFYZpU aHek9F6z9TfI aJbNjPfFjstw a3n8kL1IHb60 aEd1ClGHjzkf aGGwaniZ2MMK a9DYmwCIbHHI aKxFY1vSEdcL aByY9d5ScHye a8Z7SMqHjQMc aGPUJcrBovd2 a2kTtCDUhKNi aF5NhUfjCWEM a2K7wFF8BcFF a9enLujFu4j2 a7s3n0QW4aX1 aH9LINw6yA2H a58NWNvrs78c aBT6fihS36G8 aE4ceht3XzHp aGADkkZB6Pmu a5Bu9SZLWvCv a7OP1UfMRlqp aDsR782KqnCa aDj8DxhCqDrB aG73FK9igyEb aLtV88JVXeet aHHJG21vvVw9 a6jMHdwJAMVE a9qOBDCPR6Lv aMa2naDKMEf aACIT0JfDVhG aDvKKT7GU4Na aK4OcCEmlLhr aDFHWNFiGp2N a3aZanEKOKX9 aE6Z2dZP3HQB aD8Zg0M6KkHN aDBKJpUfKfuR aIHeBYkdtKIK aG4wMN0blJMi a1KVxcEKcLBR aJSo203bvI2s aGRWFrniOCsL aJ0K3UHm1s3r aHIrRPHEOHUE a174gxShKxCa a7h5hMTPha1o aK8ZXjxnlxLq aAuKbjZJontU aAcGpsscmI46 aBdMAHvSrMtj aBwXte5eLfEQ aFfcYmzDi723 a1r1hvyu1l4g aK1ps55EJlsg aJ8Hb8mjBq5r aFba62azklVm aGehMk8kJhLh a2Hv7r8gxyT9 aCrSq015MmcF aAVJercXnysv a2yHx5uvxmyg aJwsqM7QLjKW aEJJJlJFnxa9 aLhTaIcDmkHA aIRBaUwLZM3g aLBxl7ktt52V aFqCjfr8tTaG aJu2FV8LZchZ aCNSLURuw18m a7Q91EBLRCZd aD2W0zLr3ClZ aDotn848FEVE aKOGcWtsMLlU a1NdqQqkbKtp aLEya8jIlsVm aELUvK7uF4e9 a8Z5ngkCqo0G a7FKsO0qUPHF aLT1prwwpT22 a3kBwJP0nqBZ a4MV2Usy3q20 aE0LKHTOniI9 aJDBFzubdHNe a7So82YSawR3 aN67Bp6HOX3 a7FhT0TgGe6f a69WVpShd0jI a1H1aqqETiSv aK5cnH7zeUnz a6foBaG7ZyNW aBhMAOYsm8C5 aHUEmkKyaYqw a25unkWeuqeW a3MluJdnpUAv a4DMcfJlpH3c a4xFio5ETer0 a4qK86Wt6nJD a9SCqnGm8d9o a7YJFBGiznpd a5P0ZDtqCk9g a8YSIJAxpjsd aCghHh05wPHy a8jR9eifoW3Y
end PySem.W.Fast
end
namespace InkHd
open PySem PySem.W PyProof.Rows
def fr(o:Obj):=match o.data with|.freed=>none|_=>some o
noncomputable def pk(s:List Obj):Nat→List Nat→List (Option Obj):=s.rec (fun _ _=>[]) fun o _ h i l=>l.rec [] fun a r _=>(i.beq a).rec (h (i+1) l) (fr o::h (i+1) r)
theorem ps:∀(s:List Obj)(i:Nat)(K:Frag),pk s i (K.map (·.1))=K.map (some ·.2)→∀ a b,K.lookup a=some b→∃ n u,a=i+n∧s[n]?=some u∧fr u=some b
|_,_,[],_,_,_=>nofun
|[],_,_::_,e,_,_=>nomatch (id e:[]=_::_)
|o::s,i,(c,d)::K,e,a,b=>by
 have f:((i.beq c).rec (pk s (i+1) (((c,d)::K).map (·.1))) (fr o::pk s (i+1) (K.map (·.1))):List _)=((c,d)::K).map (some ·.2):=e
 have g:(∃ n u,a=i+1+n∧s[n]?=some u∧fr u=some b)→∃ n u,a=i+n∧(o::s)[n]?=some u∧fr u=some b:=fun⟨n,u,h,k⟩=>⟨n+1,u,by rw[h,Nat.add_assoc,Nat.add_comm 1],k⟩
 cases z:i.beq c with
 |false=>rw[z] at f;exact g∘ps s _ _ f a b
 |true=>
  rw[z] at f;injection (id f:fr o::_=some d::_) with p q;intro h;rw[List.lookup_cons] at h;split at h
  next t=>cases h;exact⟨0,o,(eq_of_beq t).trans (Nat.eq_of_beq_eq_true z).symm,rfl,p⟩
  next=>exact g (ps s _ K q a b h)
noncomputable def kF(K:Params→Frag)(l:List Addr)(e:∀P,l=(K P).map (·.1)):Hook where
 α:=List (Option Obj)
 obs s:=pk s.heap.objs.toList 0 l
 val w:=(K w.params).map (some ·.2)
 says:=InK K
 of w s h a o k:=by
  obtain⟨n,⟨_,_,d,_⟩,p,q,r⟩:=ps _ 0 _ (e w.params▸h) a o k
  rw[p,Nat.zero_add];unfold Heap.get?;rw[←Array.getElem?_toList,q];cases d<;>first|exact r|cases r
 keeps:=(kHook K l e).keeps
theorem kIn_of{K:Params→Frag}{e:∀P,l=(K P).map (·.1)}(Y:(kF K l e).says w h):(K w.params).In h:=Y
local macro_rules |`(tactic|o_head ($_:ident $K $l $e))=>`(tactic|o_head (kF $K $l $e : Hook))
set_option maxRecDepth 100000 in
set_option maxHeartbeats 0 in
open_top hd_k55 for PySem.Challenge.rw_inkroot_k55_shares
end InkHd
noncomputable section
local macro_rules |`(def $d:declId $s:optDeclSig $v:declVal)=>Lean.MonadRef.withRef .missing do if v.raw[1].isOfKind ``Lean.Parser.Term.byTactic then`(theorem $d:declId $(⟨Lean.mkNode ``Lean.Parser.Command.declSig #[s.raw[0],s.raw[1][0]]⟩):declSig $v:declVal)else`(noncomputable def $d:declId $s:optDeclSig $v:declVal)
local macro_rules |`(abbrev $d:declId $s:optDeclSig $v:declVal)=>Lean.MonadRef.withRef .missing do`(noncomputable abbrev $d:declId $s:optDeclSig $v:declVal)
local macro_rules(kind:=Lean.Parser.Command.declaration)|s=>match s.getHeadInfo with|.original ..=>return s.setHeadInfo .none|_=>Lean.Macro.throwUnsupported
local macro_rules|`($s:str)=>match("a_law_world_here,b_law_src_here,cself,d_law_sheet,e_law_rows,fsheet,glist,hstart,i_law_house,jitems,krow,l_law_script,mrows,nstop,o_law_deed_here,p_law_found,qtuple,r__debug__,s__init__,t_law_entry,u_law_start,vrange,wopenings,xviews,yshelf,zplace,Astates,Bwell,Chand,D_law_hand,E_law_due,Fsheets,Gblots,H_law_base,Isigns,J_law_many,Kowners,Lmoment,Maddress,Ntype.__call__,Oknots,PStopIteration,Q_law_stop,Rdict_reverseitemiterator,Ssorted,Tdeed,U_law_place,V__name__,Wpourings,Xitem,Yweights,Zchanges,0_law_few,1_law_row,2itertools.zip_longest,3holes,4dict,5fresh,6other,7target,8source,9number".splitOn ",").find? fun x=>x.toList.take 1==s.getString.toList with|some x=>return Lean.Syntax.mkStrLit (String.ofList (x.toList.drop 1))|_=>Lean.Macro.throwUnsupported
set_option hygiene false in
local macro_rules|`(tactic|rfl')=>`(tactic|all_goals try dsimp only[aR,aI])
local macro_rules|`($x⁻¹)=>`(($x).heap.objs.size)
set_option hygiene false in
local macro_rules|`(tactic|bv_omega)=>`(tactic|(first|assumption|(show List.Nodup [_];decide +kernel)|(show List.Nodup [_,_];decide +kernel)|(show List.Nodup [_,_,_];decide +kernel)|(show List.Nodup [_,_,_,_];decide +kernel)|(show List.Nodup [_,_,_,_,_];decide +kernel)|(show List.Nodup [_,_,_,_,_,_];decide +kernel)|(show List.Nodup [_,_,_,_,_,_,_];decide +kernel)|(show List.Nodup [_,_,_,_,_,_,_,_];decide +kernel)|(show List.Nodup [_,_,_,_,_,_,_,_,_];decide +kernel)))
set_option hygiene false in
local macro_rules|`(tactic|bv_decide)=>`(tactic|(intro _ _ _ _ _ _;first|exact fe λ_=>rfl|exact fg λ_ _=>rfl|exact ft λ_ _ _=>rfl|exact fu λ_ _ _ _=>rfl|exact fv λ_ _ _ _ _=>rfl|exact gq λ_ _ _ _ _ _=>rfl|exact fb rfl))
set_option hygiene false in
local macro_rules|`(tactic|bv_normalize)=>`(tactic|(first|exact .inl rfl|exact .inr rfl|assumption))
set_option hygiene false in
local macro_rules|`(tactic|ac_nf)=>`(tactic|(first|exact D8 _ (by decide) (by decide)|rfl))
set_option hygiene false in
local macro_rules|`(tactic|ac_rfl)=>`(tactic|(first|exact Or.inl rfl|exact Or.inr rfl))
set_option hygiene false in
local macro_rules|`(tactic|and_intros)=>`(tactic|(first|exact Or.inl rfl|exact Or.inr (Or.inl rfl)|exact Or.inr (Or.inr rfl)))
set_option hygiene false in
local macro_rules|`(tactic|clean_wf)=>`(tactic|(intro _ _ _ _ h;cases h;subst_vars;rfl))
open PySem
open PyProof
open PySem.W (Frag InstAt callWith_K callWith_K0 cellsFrom_some codeIn emptyDict findIn fnOf handedIn hasDictIn instObj isFn kIn_of keepIn kia_one kitOne kitx_dict kitx_list lookIn makesIn methodCall_KW methodObj mg_of mroIn nsIn plainGet plainGet_of plainOver takerIn typeIn)
local macro_rules
|`(⟨$a,*⟩)=>do
 let mut z:=#[]
 let mut c:=false
 for x in a.getElems do
  if x.raw.isNatLit?==some 1 then
   c:=true;z:=z.push (<-`(rfl))
   continue
  match x.raw.getId with
  |`Z=>c:=true;z:=z++#[<-`(_),<-`(_),<-`(rfl),<-`(rfl)]
  |`Y=>c:=true;z:=z++#[<-`(_),<-`(rfl)]
  |`V=>c:=true;z:=z++#[<-`(rfl),<-`(rfl)]
  |`Q=>c:=true;z:=z++#[<-`(_),<-`(_),<-`(_)]
  |`E=>c:=true;z:=z++#[<-`(_),<-`(_)]
  |_=>z:=z.push x
 if c then`(⟨$z,*⟩)else Lean.Macro.throwUnsupported
local macro_rules|`(tactic|exists $a,*)=>`(tactic|refine ⟨$a,*, ?_⟩)
set_option hygiene false in
local macro_rules|`(‹($a,$i,$p,$s)›)=>`(∀D:bW,bq c9 bw bZ cW cU cS $a (eK $i) (eL $i) $p $s)
set_option hygiene false in
local macro_rules|`(class inductive $n:declId $b:bracketedBinder* $c:ctor*)=>Lean.MonadRef.withRef .missing do`(inductive $n $b* (vs:List V)(H:Hp)(Q:VK)(E:XK):Prop $c:ctor*)
set_option hygiene false in
local macro_rules|`(tactic|specialize $e)=>`(tactic|refine $e λdD A zn s0 H vs Q E hr _ h=>?_)
local macro_rules|`(nofun)=>`(by decide +kernel)
local macro_rules|`(∅)=>`(by lia)
local macro_rules|`(↑$x)=>`(($x).length)
local macro_rules|`(⇑$x)=>`(some $x)
local macro_rules|`(↥$x)=>`(.ref $x)
local macro_rules|`(tactic|let $p:term:=$e)=>do
 let rec go:Nat->Lean.Term->Lean.MacroM (Lean.TSyntax `rcasesPat)
  |0,_=>Lean.Macro.throwUnsupported
  |n+1,t=>do match t with
   |`(⟨$a,*⟩)=>
    let b←a.getElems.mapM fun x=>do`(Lean.Parser.Tactic.rcasesPatLo|$(←go n x):rcasesPat)
    `(rcasesPat|⟨$b,*⟩)
   |`(_)=>`(rcasesPat|_)
   |_=>`(rcasesPat|$(⟨t.raw⟩):ident)
 `(tactic|obtain $(←go 9 p):rcasesPat:=$e)
set_option hygiene false in
local macro_rules|`(#[$a,*])=>do
 if a.getElems.isEmpty then Lean.Macro.throwUnsupported
 let mut z<-`(ah)
 for x in a.getElems.reverse do z<-if x.raw.isOfKind `num then`(aa (pv $x) $z)else`(aa $x $z)
 return z
set_option hygiene false in
local macro_rules|`(#v[$a,*])=>do
 let e:=a.getElems
 let mut z<-`(au $(e.back!))
 for x in e.pop.reverse do z<-`(aj $x $z)
 return z
local macro_rules|`(tactic|let $d:letDecl)=>if d.raw[0].isOfKind ``Lean.Parser.Term.letIdDecl then`(tactic|have $d:letDecl)else Lean.Macro.throwUnsupported
abbrev ZB:=Value->Shared->Prop
abbrev Y1:=Int->List Int
abbrev Yf:=Addr->Prop
abbrev X1:=Str->Option Value
abbrev XV:=Result->Shared->Prop
abbrev XB:=Array Rows.Keyed
abbrev WP:=Option Value
abbrev WF:=Array Value
abbrev Wp:=List Value
abbrev UV:=List Addr
abbrev UF:=List Int
abbrev Uf:=List Str
abbrev T1:=Bool->Rows.SortSt->Prop
namespace _L2
open Spec Rows
abbrev d9:=Sum Int Str
def vY:d9->Value->Bool
 | .inl k,v=>Value.isInt k v
 | .inr x,v=>Value.isStrOf x v
def lj(w:World):d9->Int
 | .inl k=>hashInt k
 | .inr x=>hashStr w x
theorem fm:∀ {k:d9} {v:Value},vY k v=true->(∃ i t,k=Sum.inl i/\v=Value.int i t)\/(∃ x t,k=Sum.inr x/\v=Value.str x t)
 | .inl i,v,h=>by
  let⟨t,e⟩:=Value.isInt_shape (k:=i) (v:=v) h;exact .inl ⟨i,t,1,e⟩
 | .inr x,v,h=>by
  let⟨t,e⟩:=Value.isStrOf_shape (x:=x) (v:=v) h;exact .inr ⟨x,t,1,e⟩
def KH(i:Int)(t:Tok):vY (.inl i) (.int i t)=true:=by simp[vY,Value.isInt]
def KI(x:Str)(t:Tok):vY (.inr x) (.str x t)=true:=by simp[vY,Value.isStrOf]
def Vg(a b:Int):decide ((Sum.inl a:d9)=Sum.inl b)=(a == b):=by
 by_cases e:a=b
 ·subst e;simp
 ·let h:¬ (Sum.inl a:d9)=Sum.inl b:=λq=>e (Sum.inl.inj q);rw[decide_eq_false h];exact (beq_eq_false_iff_ne.mpr e).symm
def Vh(a b:Str):decide ((Sum.inr a:d9)=Sum.inr b)=decide (a=b):=by
 by_cases e:a=b
 ·subst e;simp
 ·let h:¬ (Sum.inr a:d9)=Sum.inr b:=λq=>e (Sum.inr.inj q);rw[decide_eq_false h,decide_eq_false e]
theorem Vi(a:Int)(b:Str):decide ((Sum.inl a:d9)=Sum.inr b)=false:=decide_eq_false (λq=>nomatch q)
theorem Vj(a:Str)(b:Int):decide ((Sum.inr a:d9)=Sum.inl b)=false:=decide_eq_false (λq=>nomatch q)
def ff(d:Program)(w:World):PySem.KeyKind d w d9 where
 is:=vY
 hash:=lj w
 inj:=λv l m f c=>by
  rcases fm f with ⟨i,t,rfl,rfl⟩|⟨x,t,rfl,rfl⟩
  ·rcases fm c with ⟨j,u,rfl,e⟩|⟨y,u,rfl,e⟩
   ·injection e with a _;rw[a]
   ·exact nomatch e
  ·rcases fm c with ⟨j,u,rfl,e⟩|⟨y,u,rfl,e⟩
   ·exact nomatch e
   ·injection e with a _;rw[a]
 byValue:=λk v h=>by
  rcases fm h with ⟨i,t,rfl,rfl⟩|⟨x,t,rfl,rfl⟩ <;> rfl
 pyHash:=λb h=>by
  rcases fm b with ⟨i,t,rfl,rfl⟩|⟨x,t,rfl,rfl⟩
  ·exact wpAny_pyHash_int h
  ·exact wpAny_pyHash_str h
 eqBool:=λg b h=>by
  rcases fm g with ⟨i,t,rfl,rfl⟩|⟨x,t,rfl,rfl⟩
  ·rcases fm b with ⟨j,u,rfl,rfl⟩|⟨y,u,rfl,rfl⟩
   ·rw[Vg]at h;exact wpAny_eqBool_int h
   ·rw[Vi]at h;exact SeqAt.EqAt.int_str i t y u _ _ _ _ h
  ·rcases fm b with ⟨j,u,rfl,rfl⟩|⟨y,u,rfl,rfl⟩
   ·rw[Vj]at h;exact SeqAt.EqAt.str_int x t j u _ _ _ _ h
   ·rw[Vh]at h;exact wpAny_eqBool_str h
 «strs»:=λk x t v h=>by
  rcases fm h with ⟨i,u,rfl,e⟩|⟨y,u,rfl,e⟩
  ·exact nomatch e
  ·injection e with a _;subst a
   cases v <;> rfl
theorem D3(a:Program)(w:World)(i:Int)(t:Tok):(ff a w).is (.inl i) (.int i t)=true:=KH i t
theorem D4(a:Program)(w:World)(x:Str)(t:Tok):(ff a w).is (.inr x) (.str x t)=true:=KI x t
end _L2
namespace _L2
open Spec Rows
inductive V where
 | gi | bl (b:Bool) | int (i:Int) | str (x:Str) | GR (b:Array UInt8) | T3 (b:UInt64) | ref (a:Addr) | ty (n:String)
 deriving DecidableEq
def RelV:V->Value->Prop
 | .gi,u=>u=Value.none
 | .bl b,u=>u=Value.bool b
 | .int i,u=>∃ t,u=Value.int i t
 | .str x,u=>∃ t,u=Value.str x t
 | .GR b,u=>∃ t,u=Value.bytes b t
 | .T3 b,u=>∃ t,u=Value.float b t
 | .ref a,u=>u=Value.ref a
 | .ty n,u=>u=Value.type n
abbrev cD:List V->List Value->Prop:=Paired RelV
theorem cD.length{a:List V}{b:Wp}(r:cD a b):↑a=↑b:=Paired.length r
theorem cD.get:∀ {a:List V} {b:Wp} {i:Nat} {x:V},cD a b->a[i]?=⇑x->∃ u,b[i]?=⇑u/\RelV x u
 | _,_,_,_,.nil,e=>by simp at e
 | _,_,0,_,.cons r _,e=>by simp at e;subst e;exact⟨Y,r⟩
 | _,_,i+1,x,.cons _ t,e=>by
  let⟨u,c,d⟩:=cD.get (i:=i) (x:=x) t (by simpa using e);exact⟨u,by simpa using c,d⟩
theorem cD.set{x:V}{u:Value}(r:RelV x u):∀ {a:List V} {b:Wp} (i:Nat),cD a b->cD (a.set i x) (b.set i u)
 | _,_,_,.nil=>.nil
 | _,_,0,.cons _ t=>.cons r t
 | _,_,i+1,.cons q t=>.cons q (cD.set r i t)
def cD.append{a b:List V}{c d:Wp}(h:cD a c)(s:cD b d):cD (a++b) (c++d):=by
 induction h with
 | nil=>exact s
 | cons r _ e=>exact .cons r e
theorem cD.take:∀ {a:List V} {b:Wp} (n:Nat),cD a b->cD (a.take n) (b.take n)
 | _,_,0,_=>.nil
 | _,_,_+1,.nil=>.nil
 | _,_,n+1,.cons r t=>.cons r (cD.take n t)
theorem cD.drop:∀ {a:List V} {b:Wp} (n:Nat),cD a b->cD (a.drop n) (b.drop n)
 | _,_,0,r=>r
 | _,_,_+1,.nil=>.nil
 | _,_,n+1,.cons _ t=>cD.drop n t
def oW:Option V->Option Value->Prop
 | some v,some u=>RelV v u
 | none,none=>True
 | _,_=>False
def KV{a:Type}:List (a × V)->List (a × Value)->Prop:=Paired λ(p:a × V) (q:a × Value)=>p.1=q.1/\RelV p.2 q.2
def kV:d9->V
 | .inl i=>.int i
 | .inr x=>.str x
inductive HO where
 | lst (a:List V)
 | tup (a:List V)
 | dK (b:List (d9 × V)) | dT (b:List (List d9 × V))
 | set (d:Int->Bool) (n:Nat)
 | ins (C e:Addr) (c:List (Str × V))
 | own (x:Addr)
 | xd (c:List (Str × V))
 | met (f x:Addr)
 | D5 (lo g:Int)
 | Jl (o:Obj) (u:HO)
 | T4 (h:WF)
 | ext (i:Heap->Prop)
abbrev Hp:=Addr->Option HO
def aL(H:Hp)(a:Addr)(o:HO):Hp:=λb=>if b=a then some o else H b
def af{H:Hp}{a:Addr}{o:HO}:aL H a o a=⇑o:=by unfold aL;rw[if_pos rfl]
def aJ{H:Hp}{a b:Addr}{o:HO}(h:b≠a):aL H a o b=H b:=by unfold aL;rw[if_neg h]
def cP{H:Hp}{a b:Addr}{o u:HO}(h:H a=⇑o)(c:H b=⇑u)(d:o≠u:=by intro z;cases z):a≠b:=by
 intro e;subst e;rw[h]at c;exact d (nQ c)
def az{H:Hp}{a b:Addr}{o:HO}(h:H a=⇑o)(c:H b=none):a≠b:=by
 intro e;subst e;rw[h]at c;cases c
section
variable (P:Program) (w:World)
def fR(H:Hp)(h:Heap)(a:Addr):HO->Prop
 | .lst b=>↑b<=sizeLine/\∃ (c:Wp) (n:Nat),cD b c/\h.get? a=some { cls:=.type "g",data:=.seq c.toArray n }
 | .tup b=>↑b<=sizeLine/\∃ c:List Value,cD b c/\IsTup h a c.toArray
 | .dK c=>↑c<=sizeLine/\(a == sysModules)=false/\∃ b,KV c b/\h.DictOf (ff P w) a b
 | .dT c=>↑c<=sizeLine/\(a == sysModules)=false/\∃ b:List (List d9 × Addr × Value),
   Paired (λ(p:List d9 × V) (q:List d9 × Addr × Value)=>p.1=q.1/\H q.2.1=⇑(.tup (p.1.map kV))/\RelV p.2 q.2.2) c b/\
   ∃ o c d,h.get? a=⇑o/\o.ExactDict/\o.data=.dict c d/\c.toList=b.map (entryOfKey (tupleKind (ff P w)))/\(b.map (·.1)).Nodup
 | .set S n=>h.SetOf (intKind P w) a S n
 | .ins C d c=>H d=⇑(.own a)/\↑c<=1000/\d≠a/\h.get? a=⇑(instObj C d)/\
   ∃ b,h.Ns1 d b/\(∀ f,oW (c.lookup f) (b f))/\PySem.Within b (c.map (·.1))
 | .own _=>∃ o,h.get? a=⇑o
 | .xd c=>∃ b,h.Ns1 a b/\∀ f,oW (c.lookup f) (b f)
 | .D5 lo hi=>∃ t u v,h.get? a=some { cls:=.type "v",data:=.fields (List.toArray [.int lo t,.int hi u,.int 1 v]) }
 | .Jl o u=>h.get? a=⇑o/\fR H h a u
 | .T4 b=>h.get? a=some { cls:=.none,data:=.fields b }
 | .met f x=>h.get? a=⇑(methodObj ↥f ↥x)
 | .ext b=>b h/\(∃ o,h.get? a=⇑o)/\∀ c d:Heap,b c->(∀ o,c.get? a=⇑o->d.get? a=⇑o)->b d
def tG(H:Hp)(h:Heap):Prop:=∀ a o,H a=⇑o->fR P w H h a o
end
section
variable {P:Program} {w:World} {H H':Hp} {h h':Heap} {a:Addr} {o:HO}
def fR.lt(x:fR P w H h a o):a<h.objs.size:=by
 cases o with
 | lst b=>let⟨_,_,_,_,e⟩:=x;exact Heap.lt_size e
 | tup b=>let⟨_,_,_,p⟩:=x;exact p.lt
 | dK b=>let⟨_,_,_,_,o,_,_,e,_⟩:=x;exact Heap.lt_size e
 | dT b=>let⟨_,_,_,_,o,_,_,e,_⟩:=x;exact Heap.lt_size e
 | set S n=>let⟨o,_,_,_,e,_⟩:=x;exact Heap.lt_size e
 | ins C c b=>let⟨_,_,_,e,_⟩:=x;exact Heap.lt_size e
 | own y=>let⟨_,e⟩:=x;exact Heap.lt_size e
 | xd b=>let⟨_,⟨_,_,_,e,_⟩,_⟩:=x;exact Heap.lt_size e
 | D5 lo hi=>let⟨_,_,_,e⟩:=x;exact Heap.lt_size e
 | Jl b u=>let⟨e,_⟩:=x;exact Heap.lt_size e
 | T4 b=>exact Heap.lt_size (show h.get? a=⇑_ from x)
 | met f y=>exact Heap.lt_size (show h.get? a=⇑_ from x)
 | ext b=>let⟨_,⟨_,e⟩,_⟩:=x;exact Heap.lt_size e
def Paired.Co{b c:Type}{d G:b->c->Prop}{e:List b}{f:List c}(h:Paired d e f)(i:∀ a g,d a g->G a g):Paired G e f:=by
 induction h with
 | nil=>exact .nil
 | cons r _ j=>exact .cons (i _ _ r) j
theorem fR.stay(x:fR P w H h a o)(k:∀ b u,(b=a\/H b=⇑(.own a))->h.get? b=⇑u->h'.get? b=⇑u)
  (m:∀ b,H b=⇑(.own a)->H' b=⇑(.own a)) (v:∀ b i,H b=⇑(.tup i)->H' b=⇑(.tup i)):fR P w H' h' a o:=by
 induction o with
 | lst i=>let⟨z,f,n,r,e⟩:=x;exact⟨z,f,n,r,k _ _ (.inl rfl) e⟩
 | tup i=>let⟨z,f,r,d,e,c⟩:=x;exact⟨z,f,r,d,k _ _ (.inl rfl) e,c⟩
 | dK j=>let⟨z,y,l,r,d,f,g,e,c⟩:=x;exact⟨z,y,l,r,d,f,g,k _ _ (.inl rfl) e,c⟩
 | dT j =>
  let⟨z,y,i,r,d,f,g,e,c⟩:=x;exact⟨z,y,i,Paired.Co r λp q z=>⟨z.1,v _ _ z.2.1,z.2.2⟩,d,f,g,k _ _ (.inl rfl) e,c⟩
 | set S n=>let⟨d,f,g,t,e,c⟩:=x;exact⟨d,f,g,t,k _ _ (.inl rfl) e,c⟩
 | ins C q n =>
  let⟨l,z,ne,e,d,⟨j,f,g,p,c⟩,r⟩:=x;exact⟨m _ l,z,ne,k _ _ (.inl rfl) e,d,⟨j,f,g,k _ _ (.inr l) p,c⟩,r⟩
 | own y=>let⟨d,e⟩:=x;exact⟨d,k _ _ (.inl rfl) e⟩
 | xd n=>let⟨d,⟨j,f,g,e,c⟩,r⟩:=x;exact⟨d,⟨j,f,g,k _ _ (.inl rfl) e,c⟩,r⟩
 | D5 lo hi=>let⟨t,u,c,e⟩:=x;exact⟨t,u,c,k _ _ (.inl rfl) e⟩
 | Jl d u c=>let⟨e,q⟩:=x;exact⟨k _ _ (.inl rfl) e,c q⟩
 | T4 c =>
  let e:h.get? a=some { cls:=.none,data:=.fields c }:=x;show h'.get? a=some { cls:=.none,data:=.fields c };exact k a _ (.inl rfl) e
 | met f y =>
  let e:h.get? a=⇑(methodObj ↥f ↥y):=x;show h'.get? a=⇑(methodObj ↥f ↥y);exact k a _ (.inl rfl) e
 | ext c=>let⟨p,⟨o,e⟩,st⟩:=x;exact⟨st _ _ p λo q=>k _ _ (.inl rfl) q,⟨o,k _ _ (.inl rfl) e⟩,st⟩
theorem tG.lt(x:tG P w H h)(e:H a=⇑o):a<h.objs.size:=(x a o e).lt
def tG.fresh(x:tG P w H h)(e:h.objs.size<=a):H a=none:=by
 cases q:H a with
 | none=>rfl
 | some u=>exact absurd (oU (x.lt q) e) (Nat.lt_irrefl _)
theorem tG.kept(x:tG P w H h)(k:∀ b u,h.get? b=⇑u->h'.get? b=⇑u):tG P w H h':=λa o e =>
 (x a o e).stay (λb u _ q=>k b u q) (λ_ q=>q) λ_ _ q=>q
theorem tG.laid(x:tG P w H h)(k:∀ b u,h.get? b=⇑u->h'.get? b=⇑u)(f:h.objs.size<=a)(g:fR P w (aL H a o) h' a o):tG P w (aL H a o) h':=λb u e=>by
 let d:=x.fresh f;by_cases c:b=a
 ·subst c;rw[af]at e;cases e;exact g
 ·rw[aJ c]at e;exact (x b u e).stay (λc v _ q=>k c v q) (λc q=>by rw[aJ (az q d)];exact q) λc c q=>by rw[aJ (az q d)];exact q
end
def Rd(H:Hp)(a:Addr)(u:HO):Prop:=H a=⇑u\/∃ o,H a=⇑(.Jl o u)
def Rd.ok{P:Program}{w:World}{H:Hp}{h:Heap}{a:Addr}{u:HO}(r:Rd H a u)(x:tG P w H h):fR P w H h a u:=by
 rcases r with r|⟨o,r⟩
 ·exact x a u r
 ·let⟨_,q⟩:=x a _ r;exact q
def Yu:Option HO->Prop
 | some (.lst _)=>True
 | some (.dK _)=>True
 | some (.dT _)=>True
 | some (.set _ _)=>True
 | some (.ins _ _ _)=>True
 | some (.ext _)=>True
 | _=>False
section
variable {P:Program} {w:World} {H:Hp} {h h':Heap} {x e:Addr} {o':HO}
theorem tG.write(l:tG P w H h)(a:Yu (H x))(j:e=x\/H e=⇑(.own x))(m:∀ b u,b≠e->h.get? b=⇑u->h'.get? b=⇑u)(n:∃ u,h'.get? e=⇑u)
  (o:fR P w (aL H x o') h' x o'):tG P w (aL H x o') h':=λb u q=>by
 let k:∀ c y,H c=⇑(.own y)->c≠x:=λc y r z=>by subst z;rw[r]at a;exact a
 let p:∀ c d,H c=⇑(.tup d)->c≠x:=λc d r z=>by subst z;rw[r]at a;exact a
 by_cases f:b=x
 ·subst f;rw[af]at q;cases q;exact o
 ·rw[aJ f]at q;by_cases g:b=e
  ·let i:H b=⇑(.own x):=by
    rcases j with z|z
    ·exact absurd (g.trans z) f
    ·rw[g];exact z
   rw[q]at i;cases i;let⟨v,i⟩:=n;exact⟨v,by rw[g];exact i⟩
  ·refine (l b u q).stay (λc v i r=>m c v ?_ r) (λc r=>by rw[aJ (k c b r)];exact r) λc d r=>by rw[aJ (p c d r)];exact r
   rcases i with rfl|i
   ·exact g
   ·rintro rfl;rcases j with z|z
    ·exact k c b i z
    ·rw[i]at z;cases z;exact f rfl
end
structure Un(fs ex:UV)(H H':Hp)(h h':Heap):Prop where
 keep:∀ b o,h.get? b=⇑o->H b=none->b∉fs->b∉ex->h'.get? b=⇑o
 slot:∀ b o,h.get? b=⇑o->H b=none->b∈fs->b∉ex->∃ sl,h'.get? b=some { o with slots:=sl }
 free:∀ b o,h.get? b=⇑o->H b=none->b∉ex->H' b=none
 there:∀ b o,h.get? b=⇑o->b∉ex->∃ o',h'.get? b=⇑o'
 tups:∀ b xs,H b=⇑(.tup xs)->H' b=⇑(.tup xs)
 Cp:∀ b o u,H b=⇑(.Jl o u)->H' b=⇑(.Jl o u)
 D6:∀ b ps,H b=⇑(.T4 ps)->∃ more,H' b=⇑(.T4 (ps++more))
section
variable {fs X6 ex ex':UV} {H H1 H2:Hp} {h h1 h2 h':Heap} {a x e:Addr} {o:HO}
def Un.any(u:Un fs ex H H1 h h1){b:Addr}{c:Obj}(q:h.get? b=⇑c)(n:H b=none)(d:b∉ex):∃ f,h1.get? b=some { c with slots:=f }:=by
 by_cases a:b∈fs
 ·exact u.slot b c q n a d
 ·exact⟨c.slots,u.keep b c q n a d⟩
theorem Un.kept(k:∀ b u,h.get? b=⇑u->h'.get? b=⇑u):Un fs ex H H h h' :=
 ⟨λb a q _ _ _=>k b a q,λb a q _ _ _=>⟨a.slots,k b a q⟩,λ_ _ _ n _=>n,λb a q _=>⟨a,k b a q⟩,λ_ _ q=>q,λ_ _ _ q=>q,λ_ a q=>⟨#[],by rw[q];simp⟩⟩
theorem Un.refl:Un fs ex H H h h:=Un.kept λ_ _ q=>q
theorem Un.laid(k:∀ b u,h.get? b=⇑u->h'.get? b=⇑u)(d:h.objs.size<=a)(c:H a=none):Un fs ex H (aL H a o) h h' where
 keep:=λb u q _ _ _=>k b u q
 slot:=λb u q _ _ _=>⟨u.slots,k b u q⟩
 free:=λb u q n _=>by rw[aJ (jc (oU (Heap.lt_size q) d))];exact n
 there:=λb u q _=>⟨u,k b u q⟩
 tups:=λb e q=>by rw[aJ (az q c)];exact q
 Cp:=λb u e q=>by rw[aJ (az q c)];exact q
 D6:=λb e q=>⟨#[],by rw[aJ (az q c),q];simp⟩
def Un.write(c:Yu (H x))(i:e=x\/H e=⇑(.own x))(k:∀ b u,b≠e->h.get? b=⇑u->h'.get? b=⇑u)(j:∃ u,h'.get? e=⇑u):Un fs ex H (aL H x o) h h':=by
 let d:∀ b,H b=none->b≠x:=λb n z=>by subst z;rw[n]at c;exact c
 let f:∀ b,H b=none->b≠e:=λb n z=>by
  subst z;rcases i with r|r
  ·exact d b n r
  ·rw[n]at r;cases r
 let a:∀ b u,H b=⇑u->¬ Yu (⇑u)->b≠x:=λb u q l z=>by subst z;rw[q]at c;exact l c
 refine⟨λb u q n _ _=>k b u (f b n) q,λb u q n _ _=>⟨u.slots,k b u (f b n) q⟩,λb u q n _=>by rw[aJ (d b n)];exact n,λb u q _=>?_, λb d q=>by rw[aJ (a b _ q λz=>z)];exact q,λb u d q=>by rw[aJ (a b _ q λz=>z)];exact q,λb d q=>⟨#[],by rw[aJ (a b _ q λz=>z),q];simp⟩⟩;by_cases g:b=e
 ·subst g;exact j
 ·exact⟨u,k b u g q⟩
end
def c'(h:Heap)(H:Hp):UV:=(List.range h.objs.size).filter λa=>(H a).isSome
def Cq(h:Heap)(H:Hp):Heap:=PySem.W.hideAll h (c' h H)
theorem KJ(h:Heap)(H:Hp):(Cq h H).objs.size=h.objs.size:=PySem.W.hideAll_size _ _
theorem M6{h:Heap}{H:Hp}{b:Addr}{o:Obj}(e:h.get? b=⇑o)(n:H b=none):(Cq h H).get? b=⇑o :=
 PySem.W.hideAll_get _ e λa=>by
  let q:(H b).isSome=true:=(List.mem_filter.mp a).2;rw[n]at q;simp at q
def QM{h:Heap}{H:Hp}{b:Addr}{o:Obj}(e:(Cq h H).get? b=⇑o):h.get? b=⇑o/\H b=none:=by
 let a:h.get? b=⇑o:=PySem.W.of_hideAll (c' h H) e;exists a
 cases q:H b with
 | none=>rfl
 | some x =>
  let c:b∈c' h H:=List.mem_filter.mpr ⟨List.mem_range.mpr (Heap.lt_size a),by simp[q]⟩;let z:(Cq h H).get? b=none:=PySem.W.hideAll_none (c' h H) c;rw[z]at e;cases e
end _L2
namespace _L2
open Spec Rows
structure Mod(K:Frag)(mg:X1)(zt:Heap):Prop where
 dU:K.In zt
 glob:zt.Ns mainGlobals mg
 blt:∃ mb,zt.Ns builtinsNs mb/\∀ x:Str,x≠"V"->mb x=bootBuiltins x
 nolimit:zt.NoLimit
structure Cx where
 prog:Program
 w:World
 K:Frag
 mg:Str->Option Value
 zt:Heap
 A:Around
 N:List Str
 s₀:Shared
 H₀:Hp
 env:Env
 zn:List Env
 stack:List Env
 ex:List Addr
 fn:Str->Bool
 calm:Bool
 pn:List (Addr × Obj)
 xe:Value->Shared->Prop
def M7(l:List Env):UV:=l.filterMap (·.frame)
abbrev Cx.fs(a:Cx):UV:=M7 a.zn
def dV(a:Scope)(x:Str):Prop:=a.names.lookup x=⇑.local\/a.names.lookup x=⇑.cell\/a.names.lookup x=⇑.free
def Loc(a:Scope)(x:Str):Prop:=a.names.lookup x=⇑.local\/a.names.lookup x=⇑.cell
def Look(a:Env)(h:Heap)(m:X1)(x:Str)(u:Value):Prop :=
 (a.kindOf x=⇑.local/\m x=⇑u)\/((a.kindOf x=⇑.cell\/a.kindOf x=⇑.free)/\∃ c,a.cells.lookup x=⇑c/\h.IsCell c (⇑u))
structure Cx.Ok(X:Cx):Prop where
 mod:Mod X.K X.mg X.zt
 kind:X.env.scope.kind=.function
 glob:X.env.globals=mainGlobals
 blt:X.env.builtins=builtinsNs
 above:X.s₀.heap.objs.size<=X.env.locals
 inj:∀ x y c,X.env.cells.lookup x=⇑c->X.env.cells.lookup y=⇑c->x=y
 has:∀ x,(X.env.kindOf x=⇑.cell\/X.env.kindOf x=⇑.free)->∃ c,X.env.cells.lookup x=⇑c
 Yw:∀ x c,X.fn x=true->X.env.cells.lookup x=⇑c->X.s₀.heap.objs.size<=c
 hd:X.calm=true->X.A.handled=none
 frames:X.A.frames=⇑X.stack
 stk:X.stack=X.zn\/(X.stack=X.env::X.zn/\X.env.frame=⇑X.env.locals)
 gb:∀ b∈X.ex,b≠X.env.locals/\∀ x c,X.env.cells.lookup x=⇑c->c≠b
 bs:∀ b o,X.zt.get? b=⇑o->X.s₀.heap.get? b=⇑o/\X.H₀ b=none
 T5:X.zt.objs.size<=X.s₀.heap.objs.size
 M8:∀ b o,X.zt.get? b=⇑o->b∉X.ex
 QN:∀ b∈X.ex,b∉X.fs
 wZ:X.s₀.heap.FunFrames X.zt X.zn
 Vl:∀ b∈X.fs,X.H₀ b=none
structure Inv(X:Cx)(ao:List (Addr × Obj))(σ:List (Option V))(H:Hp)(s:Shared):Prop where
 ok:X.Ok
 os:s.os=X.s₀.os
 bare:AllBare s.gens
 zt:Un X.fs X.ex X.H₀ H X.s₀.heap s.heap
 loc:∃ m,s.heap.Ns X.env.locals m/\∀ (i:Nat) (x:Str) (v:V),X.N[i]?=⇑x->σ[i]?=⇑(⇑v)->dV X.env.scope x->∃ u,RelV v u/\Look X.env s.heap m x u
 cell:∀ x c,X.env.cells.lookup x=⇑c->∃ v,s.heap.IsCell c v
 free:H X.env.locals=none
 qZ:∀ x c,X.env.cells.lookup x=⇑c->H c=none
 pin:∀ p∈X.pn++ao,s.heap.get? p.1=⇑p.2/\H p.1=none/\p.1≠X.env.locals/\p.1∉X.fs/\∀ v,p.2.data≠.cell v
 hok:tG X.prog X.w H s.heap
 len:↑σ=↑X.N
section
variable {X:Cx} {c:List (Addr × Obj)} {d:List (Option V)} {H H':Hp} {s:Shared} {h':Heap}
theorem Cx.Ok.lm(a:X.Ok){b:Addr}{o:Obj}(e:X.zt.get? b=⇑o):b∉X.fs:=λc=>by
 have:=(a.wZ.mem c).1;rw[e]at this;cases this
theorem Inv.bs(I:Inv X c d H s):∀ b o,X.zt.get? b=⇑o->s.heap.get? b=⇑o/\H b=none:=λb o e =>
 ⟨I.zt.keep b o (I.ok.bs b o e).1 (I.ok.bs b o e).2 (I.ok.lm e) (I.ok.M8 b o e),I.zt.free b o (I.ok.bs b o e).1 (I.ok.bs b o e).2 (I.ok.M8 b o e)⟩
theorem Inv.bk(I:Inv X c d H s):∀ b o,X.zt.get? b=⇑o->s.heap.get? b=⇑o:=λb o e=>(I.bs b o e).1
theorem Inv.mod(I:Inv X c d H s):Mod X.K X.mg X.zt:=I.ok.mod
theorem Inv.vZ(I:Inv X c d H s):X.K.In s.heap:=I.ok.mod.dU.keeps I.bk
theorem Inv.lt(I:Inv X c d H s):X.env.locals<s⁻¹:=let ⟨_,a,_⟩:=I.loc;a.lt
theorem Inv.sz(I:Inv X c d H s):X.s₀.heap.objs.size<=s⁻¹:=fX I.ok.above (eO I.lt)
theorem Inv.lq(I:Inv X c d H s){a:Addr}(h:s⁻¹<=a):a∉X.fs:=λb=>by
 let⟨_,o,e,_⟩:=I.ok.wZ.mem b;exact absurd (oU (Heap.lt_size e) (fX I.sz h)) (Nat.lt_irrefl _)
theorem Inv.Vm(I:Inv X c d H s):∀ x a,X.env.cells.lookup x=⇑a->a≠X.env.locals:=λx a f z=>by
 let⟨v,o,b,e⟩:=I.cell x a f;let⟨m,⟨h,i,j,f,g,_⟩,_⟩:=I.loc;rw[z,f]at b;cases b;rw[g]at e;cases e
def Inv.wZ(I:Inv X c d H s):s.heap.FunFrames X.zt X.zn:=by
 let g:∀ (l:List Env),(∀ b∈M7 l,b∈X.fs)->X.s₀.heap.FunFrames X.zt l->s.heap.FunFrames X.zt l:=by
  intro l
  induction l with
  | nil=>intro _ _;trivial
  | cons env r h =>
   intro f e;let⟨i,⟨L,o,a,j,k,l⟩,hr⟩:=e;let e:L∈X.fs:=f L (by unfold M7;rw[List.filterMap_cons,a];exact nP);let⟨n,m⟩:=I.zt.slot L o k (I.ok.Vl L e) e λz=>I.ok.QN L z e;exact⟨i,⟨L,_,a,j,m,l⟩,h (λb e=>f b (by unfold M7;rw[List.filterMap_cons,a];exact jT _ e)) hr⟩
 exact g X.zn (λ_ e=>e) I.ok.wZ
def Inv.stack(I:Inv X c d H s):s.heap.FunFrames X.zt X.stack:=by
 rcases I.ok.stk with e|⟨e,a⟩
 ·rw[e];exact I.wZ
 ·rw[e];let⟨m,b,_⟩:=I.loc;refine .cons (by rw[I.ok.kind];decide) a b ?_ I.wZ;exact Heap.get?_none_of_le (fX I.ok.T5 I.ok.above)
theorem Inv.uW(I:Inv X c d H s):∀ b∈M7 X.stack,b∈X.env.locals::X.fs:=λb a=>by
 rcases I.ok.stk with e|⟨e,f⟩
 ·rw[e]at a;exact jT _ a
 ·rw[e]at a;unfold M7 at a;rw[List.filterMap_cons,f]at a;exact a
theorem Inv.Jm(I:Inv X c d H s):∀ b∈M7 X.stack,H b=none:=λb a=>by
 rcases List.mem_cons.mp (I.uW b a) with e|a
 ·rw[e];exact I.free
 ·let⟨_,o,e,_⟩:=I.ok.wZ.mem a;exact I.zt.free b o e (I.ok.Vl b a) λz=>I.ok.QN b z a
theorem Inv.step{g':Array GenState}{J:Nat}{d':Drawn}{ch:UV}(I:Inv X c d H s)
  (k:∀ b∈ch,(b∈X.ex\/X.s₀.heap.objs.size<=b)/\b≠X.env.locals/\(∀ x a,X.env.cells.lookup x=⇑a->a≠b)/\∀ p∈X.pn++c,p.1≠b)
  (w:∀ b o,b≠X.env.locals->b∉X.fs->b∉ch->s.heap.get? b=⇑o->H b=none->h'.get? b=⇑o)
  (C:∀ b o,b≠X.env.locals->b∈X.fs->b∉ch->s.heap.get? b=⇑o->H b=none->∃ y,h'.get? b=some { o with slots:=y }) (free:∀ b o,b∉ch->s.heap.get? b=⇑o->H b=none->H' b=none)
  (L:∀ b o,b∉ch->s.heap.get? b=⇑o->∃ l,h'.get? b=⇑l)
  (M:∀ b h,H b=⇑(.tup h)->H' b=⇑(.tup h)) (N:∀ b o u,H b=⇑(.Jl o u)->H' b=⇑(.Jl o u)) (O:∀ b r,H b=⇑(.T4 r)->∃ T,H' b=⇑(.T4 (r++T)))
  (U:∀ m,s.heap.Ns X.env.locals m->h'.Ns X.env.locals m) (hok:tG X.prog X.w H' h') (hg:AllBare g') :
  Inv X c d H' { s with heap:=h',gens:=g',drawn:=d',toks:=J }:=by
 let D:∀ b o,X.s₀.heap.get? b=⇑o->b≠X.env.locals:=λb o e=>jc (oU (Heap.lt_size e) I.ok.above)
 let t:∀ b o,X.s₀.heap.get? b=⇑o->b∉X.ex->b∉ch:=λb o e f i=>by
  rcases (k b i).1 with z|z
  ·exact f z
  ·exact absurd (oU (Heap.lt_size e) z) (Nat.lt_irrefl _)
 let F:∀ x a,X.env.cells.lookup x=⇑a->∀ v,s.heap.IsCell a v->h'.IsCell a v:=λx a e v ⟨o,j,A⟩=>by
  let g:a∉ch:=λz=>(k a z).2.2.1 x a e rfl;by_cases n:a∈X.fs
  ·let⟨y,q⟩:=C a o (I.Vm x a e) n g j (I.qZ x a e);exact⟨_,q,A⟩
  ·exact⟨o,w a o (I.Vm x a e) n g j (I.qZ x a e),A⟩
 refine⟨I.ok,I.os,hg,⟨λb o e n i f=>?_,λb o e n i f=>?_,λb o e n f=>?_,λb o e f=>?_,λb h e=>M b h (I.zt.tups b h e),λb o h e=>N b o h (I.zt.Cp b o h e),λb r e=>?_⟩,?_,λx a e=>?_,?_,λx a e=>?_,λp G=>?_,hok,I.len⟩
 ·exact w b o (D b o e) i (t b o e f) (I.zt.keep b o e n i f) (I.zt.free b o e n f)
 ·let⟨y,g⟩:=I.zt.slot b o e n i f;let⟨z,q⟩:=C b _ (D b o e) i (t b o e f) g (I.zt.free b o e n f);exact⟨z,q⟩
 ·let⟨l,g⟩:=I.zt.there b o e f;exact free b l (t b o e f) g (I.zt.free b o e n f)
 ·let⟨l,g⟩:=I.zt.there b o e f;exact L b l (t b o e f) g
 ·let⟨f,g⟩:=I.zt.D6 b r e;let⟨i,q⟩:=O b _ g;exact⟨f++i,by rw[q,Array.append_assoc]⟩
 ·let⟨m,f,i⟩:=I.loc;refine⟨m,U m f,λf x v g q t=>?_⟩;let⟨u,D,B⟩:=i f x v g q t;exists u,D;rcases B with B|⟨f,a,e,z⟩
  ·exact .inl B
  ·exact .inr ⟨f,a,e,F x a e _ z⟩
 ·let⟨v,z⟩:=I.cell x a e;exact⟨v,F x a e v z⟩
 ·let⟨m,⟨o,_,_,j,_⟩,_⟩:=I.loc;exact free _ o (λz=>(k _ z).2.1 rfl) j I.free
 ·let⟨v,o,j,A⟩:=I.cell x a e;exact free a o (λz=>(k a z).2.2.1 x a e rfl) j (I.qZ x a e)
 ·let⟨e,n,q,B,R⟩:=I.pin p G;let g:p.1∉ch:=λz=>(k p.1 z).2.2.2 p G rfl;exact⟨w p.1 p.2 q B g e n,free p.1 p.2 g e n,q,B,R⟩
def Inv.un{g:Nat}(I:Inv X c d H s)(u:Un X.fs [] H H' s.heap h')(hok:tG X.prog X.w H' h'):Inv X c d H' { s with heap:=h',toks:=g }:=by
 let⟨m,⟨o,b,k,f,r⟩,_⟩:=id I.loc;let⟨b,h⟩:=u.any f I.free (by simp)
 exact I.step (g':=s.gens) (d':=s.drawn) (ch:=[]) (λ_ z=>nomatch z) (λb o _ a _ e n=>u.keep b o e n a (by simp)) (λb o _ a _ e n=>u.slot b o e n a (by simp)) (λb o _ e n=>u.free b o e n (by simp)) (λb o _ e=>u.there b o e (by simp)) u.tups u.Cp u.D6 (λk b=>by
  let⟨k,e,i,a,j⟩:=b;rw[f]at a;cases a
  exact⟨_,e,i,h,j⟩) hok I.bare
theorem Inv.call{h:Array GenState}{l:Nat}{p:Drawn}{f:UV}(I:Inv X c d H s)(u:Un (M7 X.stack) f H H' s.heap h')(hok:tG X.prog X.w H' h')(q:AllBare h)
  (i:∀ b∈f,(b∈X.ex\/X.s₀.heap.objs.size<=b)/\b≠X.env.locals/\(∀ x j,X.env.cells.lookup x=⇑j->j≠b)/\∀ r∈X.pn++c,r.1≠b) :
  Inv X c d H' { s with heap:=h',gens:=h,drawn:=p,toks:=l }:=by
 let⟨m,⟨o,e,w,k,y⟩,_⟩:=id I.loc;let⟨e,g⟩:=u.any k I.free λz=>(i _ z).2.1 rfl
 exact I.step (ch:=f) i (λb o g t a e n=>u.keep b o e n (λz=>(List.mem_cons.mp (I.uW b z)).elim g t) a) (λb o _ _ a e n=>u.any e n a) (λb o a e n=>u.free b o e n a) (λb o a e=>u.there b o e a) u.tups u.Cp u.D6 (λo e=>by
  let⟨o,n,t,a,v⟩:=e;rw[k]at a;cases a
  exact⟨_,n,t,g,v⟩) hok q
theorem Inv.turned{t':Nat}{it:Addr}(I:Inv X c d H s)(k:∀ b o,b≠it->s.heap.get? b=⇑o->h'.get? b=⇑o)(i:H it=none)(g:it≠X.env.locals)
  (j:it∈X.ex\/X.s₀.heap.objs.size<=it) (l:∀ x f,X.env.cells.lookup x=⇑f->f≠it) (m:∀ p∈X.pn++c,p.1≠it):Inv X c d H { s with heap:=h',toks:=t' }:=by
 let h:∀ b u,H b=⇑u->b≠it:=λb u e z=>by rw[z,i]at e;cases e
 refine I.step (g':=s.gens) (d':=s.drawn) (ch:=[it]) (λb n=>?_) (λb o _ _ a e _=>k b o (λz=>a (by simp[z])) e) (λb o _ _ a e _=>⟨o.slots,k b o (λz=>a (by simp[z])) e⟩) (λ_ _ _ _ a=>a) (λb o a e=>⟨o,k b o (λz=>a (by simp[z])) e⟩) (λ_ _ e=>e) (λ_ _ _ e=>e) (λb a e=>⟨#[],by rw[e];simp⟩) (λr q=>?_) (λb u e=>?_) I.bare
 ·let e:b=it:=by simpa using n
  subst e;exact⟨j,g,l,m⟩
 ·let⟨o,a,n,r,t⟩:=q;exact⟨o,a,n,k _ o (Ne.symm g) r,t⟩
 ·refine (I.hok b u e).stay (λf v a q=>k f v ?_ q) (λ_ q=>q) λ_ _ q=>q;rcases a with z|z
  ·rw[z];exact h b u e
  ·exact h f _ z
theorem Inv.tok(I:Inv X c d H s)(t:Nat):Inv X c d H { s with toks:=t }:=I.un (h':=s.heap) (g:=t) Un.refl I.hok
theorem Inv.kept{t':Nat}(I:Inv X c d H s)(k:∀ b u,s.heap.get? b=⇑u->h'.get? b=⇑u):Inv X c d H { s with heap:=h',toks:=t' }:=I.un (Un.kept k) (I.hok.kept k)
theorem Inv.laid{a:Addr}{o:HO}{t':Nat}(I:Inv X c d H s)(k:∀ e u,s.heap.get? e=⇑u->h'.get? e=⇑u)(b:s⁻¹<=a)(f:fR X.prog X.w (aL H a o) h' a o) :
  Inv X c d (aL H a o) { s with heap:=h',toks:=t' }:=I.un (Un.laid k b (I.hok.fresh b)) (I.hok.laid k b f)
theorem Inv.write{x e:Addr}{o:HO}{h:Nat}(I:Inv X c d H s)(a:Yu (H x))(f:e=x\/H e=⇑(.own x))(k:∀ b u,b≠e->s.heap.get? b=⇑u->h'.get? b=⇑u)(g:∃ u,h'.get? e=⇑u)
  (i:fR X.prog X.w (aL H x o) h' x o):Inv X c d (aL H x o) { s with heap:=h',toks:=h }:=I.un (Un.write a f k g) (I.hok.write a f k g i)
theorem Inv.Jo(I:Inv X c d H s)(h:∀ p∈a,s.heap.get? p.1=⇑p.2/\H p.1=none/\p.1≠X.env.locals/\p.1∉X.fs/\∀ v,p.2.data≠.cell v):Inv X a d H s :=
 ⟨I.ok,I.os,I.bare,I.zt,I.loc,I.cell,I.free,I.qZ,λp b=>(List.mem_append.mp b).elim (λz=>I.pin p (lQ _ z)) (h p),I.hok,I.len⟩
def D7{N:Uf}(a:N.Nodup){i j:Nat}{x:Str}(b:N[i]?=⇑x)(e:N[j]?=⇑x):i=j:=by
 let⟨d,c⟩:=List.getElem?_eq_some_iff.mp b;let⟨f,d⟩:=List.getElem?_eq_some_iff.mp e;exact (List.getElem_inj a).mp (c.trans d.symm)
theorem A6{am:Model}{an:Around}{E:ZB}{t:Nat}{x:Str}{T:V}{A:Value}{Q:Unit->Shared->Prop}(I:Inv X c d H s)(U:X.N.Nodup)(u:X.N[t]?=⇑x)(i:Loc X.env.scope x)(ab:RelV T A)
  (ae:∀ D,Inv X c (d.set t (⇑T)) H D->(∃ k,Heap.SameBut k s.heap D.heap/\(k=X.env.locals\/X.env.cells.lookup x=⇑k))->Q () D) (hf:X.fn x=true\/X.env.scope.names.lookup x=⇑.local:=by bv_normalize):wpAny am an (storeName X.env x A) Q E s:=by
 let⟨ap,F,S⟩:=id I.loc;let aq:(X.env.scope.kind == .class || (X.env.scope.kind == .module&&X.env.locals != X.env.globals))=false:=by rw[I.ok.kind];rfl
 let W:t<↑d:=by rw[I.len];exact (List.getElem?_eq_some_iff.mp u).1
 let G:=I.Vm
 let ag:∀ {k:Addr} {h':Heap},(∃ o,s.heap.get? k=⇑o/\H k=none)->Heap.SameBut k s.heap h'->tG X.prog X.w H h':=λ{k h'} ha a b ob e=>by
  let⟨_,_,g⟩:=ha;refine (I.hok b ob e).stay (λf B h q=>(a.2 f ?_).trans q) (λ_ q=>q) λ_ _ q=>q;rintro rfl;rcases h with rfl|h
  ·rw[g]at e;cases e
  ·rw[g]at h;cases h
 rcases i with l|l
 ·refine wpAny_storeName_local l F (λh' h a=>?_) aq;let⟨C,_,_,R,_⟩:=id F;refine ae _ ⟨I.ok,I.os,I.bare,⟨λb o e n m i=>?_,λb o e n m i=>?_,I.zt.free,λb o e i=>?_,I.zt.tups,I.zt.Cp,I.zt.D6⟩,⟨_,h,λv y J g j L=>?_⟩,λy f e=>?_,I.free,I.qZ,λr M=>?_,ag ⟨C,R,I.free⟩ a,by simpa using I.len⟩ ⟨_,a,.inl rfl⟩
  ·exact (a.2 b (jc (oU (Heap.lt_size e) I.ok.above))).trans (I.zt.keep b o e n m i)
  ·let⟨p,g⟩:=I.zt.slot b o e n m i;exact⟨p,(a.2 b (jc (oU (Heap.lt_size e) I.ok.above))).trans g⟩
  ·let⟨p,g⟩:=I.zt.there b o e i;exact⟨p,(a.2 b (jc (oU (Heap.lt_size e) I.ok.above))).trans g⟩
  ·by_cases p:v=t
   ·subst p;rw[u]at g;cases g;rw[List.getElem?_set_self W]at j;cases j;exact⟨A,ab,.inl ⟨l,by simp⟩⟩
   ·rw[List.getElem?_set_ne (Ne.symm p)]at j;let⟨N,O,q⟩:=S v y J g j L;exists N,O;rcases q with ⟨w,e⟩|⟨w,f,e,z⟩
    ·refine .inl ⟨w,?_⟩;have:y≠x:=λe=>p (D7 U g (e ▸ u));simp[this,e]
    ·exact .inr ⟨w,f,e,z.sameBut a (G y f e)⟩
  ·let⟨B,z⟩:=I.cell y f e;exact⟨B,z.sameBut a (G y f e)⟩
  ·let⟨e,n,p,N,w⟩:=I.pin r M;exact⟨(a.2 r.1 p).trans e,n,p,N,w⟩
 ·let R:X.fn x=true:=by
   rcases hf with z|z
   ·exact z
   ·rw[z]at l;cases l
  let⟨f,h⟩:=I.ok.has x (.inl l);let⟨B,z⟩:=I.cell x f h;refine wpAny_storeName_cell I.ok.kind l h z (λh' Yz a=>?_);let⟨oc,ai,ar⟩:=id z;refine ae { s with heap:=h' } ⟨I.ok,I.os,I.bare,⟨λb o e n m i=>?_,λb o e n m i=>?_,I.zt.free,λb o e i=>?_,I.zt.tups,I.zt.Cp,I.zt.D6⟩,⟨ap,F.sameBut a (Ne.symm (G x f h)),λv y J g j L=>?_⟩,λy C e=>?_,I.free,I.qZ,λr M=>?_,ag ⟨oc,ai,I.qZ x f h⟩ a,by simpa using I.len⟩ ⟨f,a,.inr h⟩
  ·exact (a.2 b (jc (oU (Heap.lt_size e) (I.ok.Yw x f R h)))).trans (I.zt.keep b o e n m i)
  ·let⟨p,g⟩:=I.zt.slot b o e n m i;exact⟨p,(a.2 b (jc (oU (Heap.lt_size e) (I.ok.Yw x f R h)))).trans g⟩
  ·let⟨p,g⟩:=I.zt.there b o e i;exact⟨p,(a.2 b (jc (oU (Heap.lt_size e) (I.ok.Yw x f R h)))).trans g⟩
  ·by_cases p:v=t
   ·subst p;rw[u]at g;cases g;rw[List.getElem?_set_self W]at j;cases j;exact⟨A,ab,.inr ⟨.inl l,f,h,Yz⟩⟩
   ·rw[List.getElem?_set_ne (Ne.symm p)]at j;let⟨N,O,q⟩:=S v y J g j L;exists N,O;rcases q with q|⟨w,C,e,b⟩
    ·exact .inl q
    ·refine .inr ⟨w,C,e,b.sameBut a ?_⟩;rintro rfl;exact p (D7 U g (I.ok.inj _ _ _ e h ▸ u))
  ·by_cases p:C=f
   ·subst p;exact⟨_,Yz⟩
   ·let⟨b,f⟩:=I.cell y C e;exact⟨b,f.sameBut a p⟩
  ·let⟨e,n,p,N,w⟩:=I.pin r M;refine⟨(a.2 r.1 ?_).trans e,n,p,N,w⟩;intro q;rw[q,ai]at e;let a:oc=r.2:=nQ e;exact w B (by rw[← a];exact ar)
theorem xU{M:Model}{A:Around}{E:ZB}{i:Nat}{x:Str}{v:V}{u:Value}{Q:Unit->Shared->Prop}(I:Inv X c d H s)(b:X.N.Nodup)(e:X.N[i]?=⇑x)(f:Loc X.env.scope x)(r:RelV v u)
  (h:∀ a,Inv X c (d.set i (⇑v)) H a->Q () a) (g:X.fn x=true\/X.env.scope.names.lookup x=⇑.local:=by bv_normalize):wpAny M A (storeName X.env x u) Q E s :=
 A6 I b e f r (λa j _=>h a j) g
theorem Inv.YA{a:Shared}{e:UV}(I:Inv X c d H s)(g:a.os=s.os)(u:Un (M7 X.stack) e H H' s.heap a.heap)(hok:tG X.prog X.w H' a.heap)(h:AllBare a.gens)
  (i:∀ b∈e,(b∈X.ex\/X.s₀.heap.objs.size<=b)/\b≠X.env.locals/\(∀ x f,X.env.cells.lookup x=⇑f->f≠b)/\∀ p∈X.pn++c,p.1≠b):Inv X c d H' a:=by
 let⟨h',j,k,l,m⟩:=a;let n:m=s.os:=g;subst n;exact I.call (h:=j) (l:=l) (p:=k) u hok h i
end
abbrev XK:=Value->Option Addr->Hp->Prop
abbrev St:=List (Option V)
abbrev VK:=V->Hp->Prop
abbrev TE:=St->Hp->VK->Prop
abbrev TT:=St->Hp->(Bool->Hp->Prop)->Prop
abbrev TA:=St->Hp->(List V->Hp->Prop)->Prop
structure Ends where
 nx:St->Hp->Prop
 rt:VK
 bk:St->Hp->Prop:=λ_ _=>False
 ct:St->Hp->Prop:=λ_ _=>False
abbrev TS:=Ends->St->Hp->Prop
def Ends.sq(D:Ends)(u:TS):Ends:={ D with nx:=u D }
def Ends.lp(D:Ends)(N:St->Hp->Prop):Ends:={ D with nx:=N,ct:=N,bk:=D.nx }
inductive EP(X:Cx)(ao:List (Addr × Obj))(σ:St)(Q:VK)(u:Value)(s':Shared):Prop
 | mk (v:V) (a:Hp) (_:Inv X ao σ a s') (_:RelV v u) (_:Q v a)
def TP(b:Cx)(c:List (Addr × Obj))(d:St)(Q:Bool->Hp->Prop)(e:Bool)(f:Shared):Prop:=∃ a,Inv b c d a f/\Q e a
inductive AP(X:Cx)(ao:List (Addr × Obj))(σ:St)(Q:List V->Hp->Prop)(us:Wp)(s':Shared):Prop
 | mk (a:List V) (b:Hp) (_:Inv X ao σ b s') (_:cD a us) (_:Q a b)
def SP(c:Cx)(d:List (Addr × Obj))(D:Ends)(f:Flow)(e:Shared):Prop :=
 match f with
 | .next=>∃ b a,Inv c d b a e/\D.nx b a
 | .brk=>∃ b a,Inv c d b a e/\D.bk b a
 | .cont=>∃ b a,Inv c d b a e/\D.ct b a
 | .ret u=>∃ v b a,Inv c d b a e/\RelV v u/\D.rt v a
def PE(a:Cx)(e:Expr)(t:TE):Prop :=
 ∀ (c:List (Addr × Obj)) (s:Shared) (b:St) (H:Hp) (Q:VK),Inv a c b H s->t b H Q->wpAny (model a.prog a.w) a.A (eval e a.env) (EP a c b Q) a.xe s
def PT(a:Cx)(e:Expr)(t:TT):Prop :=
 ∀ (c:List (Addr × Obj)) (s:Shared) (b:St) (H:Hp) (Q:Bool->Hp->Prop),Inv a c b H s->t b H Q->wpAny (model a.prog a.w) a.A (isTrue e a.env (eval e a.env)) (TP a c b Q) a.xe s
def PW(a:Cx)(e:Expr)(t:TT):Prop :=
 ∀ (d:Sem Value) (c:List (Addr × Obj)) (s:Shared) (b:St) (H:Hp) (Q:Bool->Hp->Prop),Inv a c b H s->t b H Q->wpAny (model a.prog a.w) a.A (isTrue e a.env d) (TP a c b Q) a.xe s
theorem PW.pt{a:Cx}{e:Expr}{t:TT}(h:PW a e t):PT a e t:=h _
def PA(a:Cx)(d:List Expr)(t:TA):Prop :=
 ∀ (e:Pos) (c:List (Addr × Obj)) (s:Shared) (b:St) (H:Hp) (Q:List V->Hp->Prop),Inv a c b H s->t b H Q->wpAny (model a.prog a.w) a.A (spliced (backTo e (starEach d a.env))) (AP a c b Q) a.xe s
def PS(a:Cx)(d:Stmt)(t:TS):Prop :=
 ∀ (b:List (Addr × Obj)) (s:Shared) (c:St) (H:Hp) (D:Ends),Inv a b c H s->t D c H->wpAny (model a.prog a.w) a.A (exec d a.env) (SP a b D) a.xe s
def Jq(a:Cx)(d:List Stmt)(t:TS):Prop :=
 ∀ (b:List (Addr × Obj)) (s:Shared) (c:St) (H:Hp) (D:Ends),Inv a b c H s->t D c H->wpAny (model a.prog a.w) a.A (execs d a.env) (SP a b D) a.xe s
theorem dB{a:Type}{t:Sem a}{Q b:a->Shared->Prop}{M:Model}{A:Around}{E:ZB}{s:Shared}(h:wpAny M A t Q E s)(d:∀ c s,Q c s->b c s):wpAny M A t b E s:=wpAny_mono h d λ_ _ x=>x
end _L2
namespace _L2
open Spec Rows
section
variable {X:Cx}
inductive QO(i:Nat)(σ:St)(H:Hp)(Q:VK):Prop
 | mk (v:V) (_:σ[i]?=⇑(⇑v)) (_:Q v H)
inductive dW(x:V)(H:Hp)(Q:Bool->Hp->Prop):Prop
 | mk (f:Bool) (_:x=.bl f) (_:Q f H)
inductive lw(x:V)(H:Hp)(Q:Option Int->Hp->Prop):Prop
 | mk (i:Int) (_:x=.int i) (_:Q (⇑i) H)
def tC(v:V):TE:=λ_ H Q=>Q v H
def Vn{i:Nat}{x:Str}(g:X.N[i]?=⇑x)(j:dV X.env.scope x)(f:(x == ("r":Str))=false:=by decide)(k:(x == ("__classdict__":Str))=false:=by decide):PE X (.Name x c) (QO i):=by
 intro l s m H Q I h;let⟨v,n,h⟩:=h;let⟨r,o,p⟩:=I.loc;let⟨u,r,q⟩:=p i x v g n j;let b:EP X l m Q u s:=⟨v,H,I,r,h⟩;rcases q with ⟨a,h⟩|⟨a,l,d,e⟩
 ·exact wpAny_Name (wpAny_loadName_local I.ok.kind a o h b) f
 ·rcases a with a|a
  ·exact wpAny_Name (wpAny_loadName_cell I.ok.kind a d e b) f
  ·exact wpAny_Name (wpAny_loadName_free I.ok.kind a d e b k) f
theorem ay{i j c}:PE X (.Constant (.int i) j c) (tC (.int i)):=λ_ _ _ H _ I h=>wpAny_Constant_int ⟨.int i,H,I.tok _,⟨Y⟩,h⟩
theorem nj{b j c}:PE X (.Constant (.bool b) j c) (tC (.bl b)):=λ_ _ _ H _ I h=>Constant_bool ⟨.bl b,H,I,1,h⟩
theorem Vo{j c}:PE X (.Constant .none j c) (tC .gi):=λ_ _ _ H _ I h=>Constant_none ⟨.gi,H,I,1,h⟩
theorem bC{x j c}:PE X (.Constant (.str x) j c) (tC (.str x)):=λ_ _ _ H _ I h=>Calls.Constant_str ⟨.str x,H,I.tok _,⟨Y⟩,h⟩
def Gl(X:Cx)(x:Str):Prop:=X.env.kindOf x=some .globalImplicit
theorem xJ{E:ZB}{s:Shared}{f:St}{H:Hp}{x:Str}{u:Value}{Q:ZB}(I:Inv X k f H s)(g:Gl X x)(h:X.mg x=⇑u)(i:Q u s)
  (j:(x == ("r":Str))=false:=by decide):wpAny (model X.prog X.w) X.A (eval (.Name x c) X.env) Q E s :=
 Calls.Name_function_global I.ok.kind g (Calls.loadGlobal_global (by rw[I.ok.glob];exact I.mod.glob.keeps I.bk) h i) j
theorem uX{E:ZB}{s:Shared}{f:St}{H:Hp}{x:Str}{u:Value}{Q:ZB}(I:Inv X m f H s)(g:Gl X x)(h:X.mg x=none)(i:bootBuiltins x=⇑u)(j:Q u s)
  (k:x≠"V":=by decide) (l:(x == ("r":Str))=false:=by decide):wpAny (model X.prog X.w) X.A (eval (.Name x c) X.env) Q E s:=by
 let⟨d,a,b⟩:=I.mod.blt;exact Calls.Name_function_global I.ok.kind g (Calls.loadGlobal_builtin (by rw[I.ok.glob];exact I.mod.glob.keeps I.bk) h (by rw[I.ok.blt];exact a.keeps I.bk) ((b x k).trans i) j) l
def Jr{x:Str}{v:V}{u:Value}(f:Gl X x)(g:X.mg x=⇑u)(r:RelV v u)(h:(x == ("r":Str))=false:=by decide):PE X (.Name x c) (tC v) :=
 λ_ _ _ H _ I a=>xJ I f g ⟨v,H,I,r,a⟩ h
theorem QS{x:Str}{v:V}{u:Value}(f:Gl X x)(g:X.mg x=none)(h:bootBuiltins x=⇑u)(r:RelV v u)(i:x≠"V":=by decide)(j:(x == ("r":Str))=false:=by decide):PE X (.Name x c) (tC v) :=
 λ_ _ _ H _ I a=>uX I f g h ⟨v,H,I,r,a⟩ i j
variable {a b:Expr} {d tb:TE} {c:Pos}
def PC(X:Cx)(f:CmpOp)(a b:Expr)(t:TE):Prop :=
 ∀ (d:List (Addr × Obj)) (s:Shared) (c:St) (H:Hp) (Q:VK),Inv X d c H s->t c H Q->
  wpAny (model X.prog X.w) X.A (eval a X.env) (λv e=>wpAny (model X.prog X.w) X.A (eval b X.env) (λu g=>wpAny (model X.prog X.w) X.A (compareOp f v u) (EP X d c Q) X.xe g) X.xe e) X.xe s
def D8(b:Expr){f:CmpOp}(h:f≠.In)(g:f≠.NotIn):behindInMarks f b=false:=by
 let a:(f == CmpOp.In)=false:=by cases f <;> first|rfl|exact absurd rfl h
 let c:(f == CmpOp.NotIn)=false:=by cases f <;> first|rfl|exact absurd rfl g
 cases b <;> simp[behindInMarks,a,c]
def lx(d:TE):TE:=fun a H Q=>d a H λx a=>Q (.bl (decide (x=.gi))) a
def YB(d:TE):TE:=fun a H Q=>d a H λx a=>Q (.bl (!decide (x=.gi))) a
def RelV.D9{x:V}{v:Value}(r:RelV x v):(v == Value.none)=decide (x=.gi):=by
 cases x with
 | gi=>cases r;rfl
 | bl _=>cases r;rfl
 | int _=>let⟨t,rfl⟩:=r;rfl
 | str _=>let⟨t,rfl⟩:=r;rfl
 | GR _=>let⟨t,rfl⟩:=r;rfl
 | T3 _=>let⟨t,rfl⟩:=r;rfl
 | ref _=>cases r;rfl
 | ty _=>cases r;rfl
def GS{j f}(g:PE X a d):PC X .Is a (.Constant .none j f) (lx d):=by
 intro b s c H Q I h;refine dB (g b s c H _ I h) λv c b=>?_;let⟨x,c,e,h,i⟩:=b;exact Constant_none (is_none_gen ⟨.bl _,c,e,by rw[h.D9];rfl,i⟩)
def QT{j f}(g:PE X a d):PC X .IsNot a (.Constant .none j f) (YB d):=by
 intro b s c H Q I h;refine dB (g b s c H _ I h) λv c b=>?_;let⟨x,c,e,h,i⟩:=b;exact Constant_none (isnot_none_gen ⟨.bl _,c,e,by rw[h.D9];rfl,i⟩)
def tB(t:TE):TT:=fun a H Q=>t a H λx a=>dW x a Q
def Na{f:CmpOp}{t:TE}(h:PC X f a b t)(g:behindInMarks f b=false:=by ac_nf):PE X (.Compare a [f] [b] c) t:=λd s e H Q I i=>wpAny_Compare1 (h d s e H Q I i) g
def Cr{f:CmpOp}{t:TE}(h:PC X f a b t)(g:behindInMarks f b=false:=by ac_nf):PT X (.Compare a [f] [b] c) (tB t):=by
 intro d s e H Q I i;refine wpAny_isTrue_Compare1 (dB (h d s e H _ I i) λv d g=>dB g λu e d=>dB d λd e ⟨x,j,k,l,m⟩=>?_) g;let⟨n,rfl,q⟩:=m;cases l;exact wpAny_truthy_bool ⟨j,k,q⟩
def lT{f:Expr}{t:TE}(h:PE X f t)(i:∀ g,isTrue f X.env g=(do let v ← g;standAt f.pos;holding [v] (truthy v)):=by intro _;rfl):PT X f (tB t):=by
 intro a s b H Q I c;refine isTrue_plain (dB (h a s b H _ I c) λv a ⟨x,d,e,j,k⟩=>?_) (i _);let⟨l,rfl,q⟩:=k;cases j;exact wpAny_truthy_bool ⟨d,e,q⟩
variable {e d0:TT} {tL:List Expr}
def lz(t u:TT):TT:=fun a H Q=>t a H λc b=>if c=true then u a b Q else Q false b
def lM(t u:TT):TT:=fun a H Q=>t a H λc b=>if c=true then Q true b else u a b Q
def l'(t:TT):TT:=fun a H Q=>t a H λc a=>Q (!c) a
def mO(f:PT X a e):PW X (.BoolOp .And [a] c) e:=by
 intro j d s g H Q I h;refine isTrue_and (dB (f d s g H Q I h) λi d b=>?_)
 cases i with
 | true=>exact isTrue_and_nil b
 | false=>exact b
def Cs(f:PT X a e):PW X (.BoolOp .Or [a] c) e:=by
 intro j d s g H Q I h;refine isTrue_or (dB (f d s g H Q I h) λi d b=>?_)
 cases i with
 | false=>exact isTrue_or_nil b
 | true=>exact b
def pF(j:PT X a e)(k:PW X (.BoolOp .And (b::tL) c) d0):PW X (.BoolOp .And (a::b::tL) c) (lz e d0):=by
 intro l d s f H Q I m;refine isTrue_and (dB (j d s f H _ I m) λn o m=>?_);let⟨g,h,i⟩:=m
 cases n with
 | true=>exact k l d o f g Q h i
 | false=>exact⟨g,h,i⟩
def Ec(j:PT X a e)(k:PW X (.BoolOp .Or (b::tL) c) d0):PW X (.BoolOp .Or (a::b::tL) c) (lM e d0):=by
 intro l d s f H Q I m;refine isTrue_or (dB (j d s f H _ I m) λn o m=>?_);let⟨g,h,i⟩:=m
 cases n with
 | true=>exact⟨g,h,i⟩
 | false=>exact k l d o f g Q h i
def jJ(f:PT X a e):PT X (.UnaryOp .Not a c) (l' e):=by
 intro b s d H Q I h;exact isTrue_not (f b s d H (λb d=>Q (!b) d) I h)
def YC(d tb:TE):TE:=fun b H Q=>d b H λx a=>dW x a λc a=>if c=true then tb b a Q else Q (.bl false) a
def YD(d:TE):TE:=fun a H Q=>d a H λx a=>dW x a λc a=>Q (.bl (!c)) a
theorem rW{f}{t:TE}(h:PE X a t):PE X (.BoolOp f [a] c) t:=λb s d H Q I e=>BoolOp_one (h b s d H Q I e)
def pG(j:PE X a d)(k:PE X (.BoolOp .And (b::tL) c) tb):PE X (.BoolOp .And (a::b::tL) c) (YC d tb):=by
 intro f s g H Q I l;refine BoolOp_and (dB (j f s g H _ I l) λv m l=>?_);let⟨x,h,i,n,e⟩:=l;let⟨o,rfl,e⟩:=e;cases n;refine wpAny_truthy_bool ?_
 cases o with
 | true=>exact k f m g h Q i e
 | false=>exact⟨.bl false,h,i,1,e⟩
def Vp(f:PE X a d):PE X (.UnaryOp .Not a c) (YD d):=by
 intro e s g H Q I h;refine UnaryOp_ (dB (f e s g H _ I h) λv g e=>?_);let⟨x,i,j,k,b⟩:=e;let⟨l,rfl,b⟩:=b;cases k;exact not_of (wpAny_truthy_bool ⟨.bl (!l),i,j,1,b⟩)
def ma(t:TT)(d tb:TE):TE:=fun a H Q=>t a H λc b=>if c=true then d a b Q else tb a b Q
def Nb{h:Expr}(m:PT X h e)(n:PE X a d)(o:PE X b tb):PE X (.IfExp h a b c) (ma e d tb):=by
 intro f s g H Q I p;refine wpAny_IfExp (dB (m f s g H _ I p) λq i p=>?_);let⟨j,k,l⟩:=p
 cases q with
 | true=>exact n f i g j Q k l
 | false=>exact o f i g j Q k l
end
end _L2
namespace _L2
open Spec Rows
def bI(K:Frag)(H:Hp)(b:Addr)(c:List V):Prop :=
 Rd H b (.lst c)\/
  ∃ (o:Obj) (a:WF) (n:Nat),K.lookup b=⇑o/\o.cls=.type "g"/\o.dict=none/\o.data=.seq a n/\a.size<=sizeLine/\cD c a.toList
def dI(K:Frag)(H:Hp)(b:Addr)(c:List V):Prop :=
 Rd H b (.tup c)\/
  ∃ (o:Obj) (a:WF) (n:Nat),K.lookup b=⇑o/\o.cls=.type "q"/\o.data=.seq a n/\a.size<=sizeLine/\cD c a.toList
def mc:Value->Option V
 | .none=>⇑.gi
 | .bool b=>⇑(.bl b)
 | .int i _=>⇑(.int i)
 | .str x _=>⇑(.str x)
 | .bytes b _=>⇑(.GR b)
 | .float b _=>⇑(.T3 b)
 | .ref a=>⇑↥a
 | .type n=>⇑(.ty n)
 | _=>none
def RelV.abs{x:V}{u:Value}(r:RelV x u):mc u=⇑x:=by
 cases x with
 | gi=>cases r;rfl
 | bl _=>cases r;rfl
 | int _=>let⟨t,rfl⟩:=r;rfl
 | str _=>let⟨t,rfl⟩:=r;rfl
 | GR _=>let⟨t,rfl⟩:=r;rfl
 | T3 _=>let⟨t,rfl⟩:=r;rfl
 | ref _=>cases r;rfl
 | ty _=>cases r;rfl
theorem RelV.inj{x y:V}{u:Value}(r:RelV x u)(q:RelV y u):x=y:=nQ (r.abs.symm.trans q.abs)
theorem cD.inj:∀ {a b:List V} {c:Wp},cD a c->cD b c->a=b
 | _,_,_,.nil,.nil=>rfl
 | _,_,_,.cons r t,.cons d e=>by rw[r.inj d,cD.inj t e]
section
variable {X:Cx} {ao:List (Addr × Obj)} {σ:St} {H:Hp} {s:Shared} {a:Addr} {xs ys:List V}
theorem bI.of{K:Frag}(h:H a=⇑(.lst xs)):bI K H a xs:=.inl (.inl h)
theorem dI.of{K:Frag}(h:H a=⇑(.tup xs)):dI K H a xs:=.inl (.inl h)
def Inv.list(I:Inv X ao σ H s)(h:bI X.K H a xs):∃ b:List Value,cD xs b/\PlainL s.heap a b.toArray/\↑xs<=sizeLine:=by
 rcases h with h|⟨o,b,n,c,d,f,g,e,r⟩
 ·let⟨z,b,n,r,e⟩:=h.ok I.hok;exact⟨b,r,⟨_,n,e,V,1⟩,z⟩
 ·refine⟨b.toList,r,⟨o,n,I.vZ a o c,d,f,by simpa using g⟩,?_⟩;let e:=↑r;simp only[Array.length_toList]at e;lia
def Inv.tuple(I:Inv X ao σ H s)(h:dI X.K H a xs):∃ b:List Value,cD xs b/\IsTup s.heap a b.toArray/\↑xs<=sizeLine:=by
 rcases h with h|⟨o,b,n,c,d,e,f,r⟩
 ·let⟨z,b,r,p⟩:=h.ok I.hok;exact⟨b,r,p,z⟩
 ·refine⟨b.toList,r,⟨o,I.vZ a o c,d,n,by simpa using e⟩,?_⟩;let e:=↑r;simp only[Array.length_toList]at e;lia
def Inv.Ef(I:Inv X ao σ H s)(h:bI X.K H a xs)(d:bI X.K H a ys):xs=ys:=by
 let⟨e,r,⟨o,n,f,_,_,g⟩,_⟩:=I.list h;let⟨i,j,⟨k,l,b,_,_,c⟩,_⟩:=I.list d;rw[f]at b;cases b;rw[g]at c;injection c with b _;have:e=i:=by simpa using congrArg Array.toList b
 subst this;exact r.inj j
def Inv.A7(I:Inv X ao σ H s)(h:dI X.K H a xs)(d:dI X.K H a ys):xs=ys:=by
 let⟨e,r,⟨o,f,_,n,g⟩,_⟩:=I.tuple h;let⟨i,j,⟨k,b,_,l,c⟩,_⟩:=I.tuple d;rw[f]at b;cases b;rw[g]at c;injection c with b _;have:e=i:=by simpa using congrArg Array.toList b
 subst this;exact r.inj j
end
abbrev Cx.An(a:Cx)(E:ZB):Cx:={ a with xe:=E }
abbrev Cx.Js(a:Cx):Cx:=a.An λ_ _=>False
theorem Cx.Ok.An{b:Cx}(a:b.Ok)(E:ZB):(b.An E).Ok :=
 ⟨a.mod,a.kind,a.glob,a.blt,a.above,a.inj,a.has,a.Yw,a.hd,a.frames,a.stk,a.gb,a.bs,a.T5,a.M8,a.QN,a.wZ,a.Vl⟩
theorem Cx.Ok.pH{b:Cx}{E:ZB}(a:(b.An E).Ok):b.Ok :=
 ⟨a.mod,a.kind,a.glob,a.blt,a.above,a.inj,a.has,a.Yw,a.hd,a.frames,a.stk,a.gb,a.bs,a.T5,a.M8,a.QN,a.wZ,a.Vl⟩
section
variable {X:Cx} {ao:List (Addr × Obj)} {σ:St} {H:Hp} {s:Shared} {E:ZB}
theorem Inv.An(I:Inv X ao σ H s)(E:ZB):Inv (X.An E) ao σ H s:=⟨I.ok.An E,I.os,I.bare,I.zt,I.loc,I.cell,I.free,I.qZ,I.pin,I.hok,I.len⟩
theorem Inv.pH(I:Inv (X.An E) ao σ H s):Inv X ao σ H s:=⟨I.ok.pH,I.os,I.bare,I.zt,I.loc,I.cell,I.free,I.qZ,I.pin,I.hok,I.len⟩
def SP.pH{D:Ends}{f:Flow}{c:Shared}(h:SP (X.An E) ao D f c):SP X ao D f c:=by
 cases f with
 | next=>let⟨a,b,I,q⟩:=h;exact⟨a,b,I.pH,q⟩
 | brk=>let⟨a,b,I,q⟩:=h;exact⟨a,b,I.pH,q⟩
 | cont=>let⟨a,b,I,q⟩:=h;exact⟨a,b,I.pH,q⟩
 | ret u=>let⟨v,a,b,I,r,q⟩:=h;exact⟨v,a,b,I.pH,r,q⟩
theorem Jq.Js{a:List Stmt}{t:TS}(h:Jq X.Js a t):Jq X a t:=λao s σ H D I b =>
 wpAny_mono (h ao s σ H D (I.An _) b) (λ_ _ q=>q.pH) λ_ _ z=>False.elim z
end
section
variable {X:Cx} {st:Stmt} {tL:List Stmt} {t u:TS} {e:Expr} {te:TE} {pos:Pos}
def YE:TS:=λD a H=>D.nx a H
def md(t u:TS):TS:=λD a H=>t (D.sq u) a H
theorem bg:Jq X [] YE:=λ_ _ a H _ I h=>wpAny_execs_nil ⟨a,H,I,h⟩
def aj(b:PS X st t)(c:Jq X tL u):Jq X (st::tL) (md t u):=by
 intro a s d H D I h;refine wpAny_execs_cons (dB (b a s d H (D.sq u) I h) λf e q=>?_)
 cases f with
 | next =>
  let⟨d,f,g,q⟩:=q;exact c a e d f D g q
 | ret v=>exact q
 | brk=>exact q
 | cont=>exact q
def au(a:PS X st t):Jq X [st] t:=by
 intro b s c H D I h;refine wpAny_execs_cons (dB (a b s c H D I h) λf b q=>?_)
 cases f with
 | next=>exact wpAny_execs_nil q
 | ret v=>exact q
 | brk=>exact q
 | cont=>exact q
def YF:TS:=λD a H=>D.ct a H
theorem Eg:PS X (.Continue pos) YF:=λ_ _ a H _ I h=>wpAny_Continue ⟨a,H,I,h⟩
def Inv.quiet{a:St}{H:Hp}{s:Shared}(I:Inv X b a H s):interactive X.env=false:=by simp[interactive,I.ok.kind]
def YG(te:TE):TS:=λD a H=>te a H λ_ b=>D.nx a b
def aW(b:PE X e te)(c:swapsWith e none pos.line X.env=pure false:=by rfl):PS X (.Expr e pos) (YG te):=by
 intro d s a H D I h;exact wpAny_Expr_any (dB (b d s a H _ I h) λv h ⟨x,d,f,i,g⟩=>⟨a,d,f,g⟩) I.quiet c
def me(te:TE):TS:=λD a H=>te a H D.rt
def aK(b:PE X e te):PS X (.Return (⇑e) pos) (me te):=by
 intro c s a H D I h;exact wpAny_Return_some (dB (b c s a H _ I h) λv h ⟨x,c,d,f,g⟩=>⟨x,a,c,d,f,g⟩)
def mf(c:TT)(t u:TS):TS:=λD a H=>c a H λd b=>if d=true then t D a b else u D a b
def bM{c:Expr}{d f:List Stmt}{g:TT}(k:PT X c g)(l:Jq X d t)(m:Jq X f u):PS X (.If c d f pos) (mf g t u):=by
 intro a s b H D I n;refine wpAny_If (dB (k a s b H _ I n) λo e n=>?_);let⟨h,i,j⟩:=n
 cases o with
 | true=>exact l a e b h D i j
 | false=>exact m a e b h D i j
def Vq:TS:=λ_ _ _=>False
theorem ie:PS X st Vq:=λ_ _ _ _ _ _ h=>h.elim
end
abbrev TG:=V->St->Hp->(St->Hp->Prop)->Prop
abbrev Vr:=List V->St->Hp->(St->Hp->Prop)->Prop
def PG(a:Cx)(e:Expr)(t:TG):Prop :=
 ∀ (b:List (Addr × Obj)) (s:Shared) (c:St) (H:Hp) (v:V) (u:Value) (Q:St->Hp->Prop),Inv a b c H s->RelV v u->t v c H Q->
  wpAny (model a.prog a.w) a.A (assign e a.env u) (λ_ f=>∃ c d,Inv a b c d f/\Q c d) a.xe s
def YH(a:Cx)(f:List Expr)(t:Vr):Prop :=
 ∀ (b:List (Addr × Obj)) (s:Shared) (c:St) (H:Hp) (d:List V) (e:Wp) (Q:St->Hp->Prop),Inv a b c H s->cD d e->t d c H Q->
  wpAny (model a.prog a.w) a.A (assignInOrder ((assignEach f a.env).map (·.2)) e) (λ_ e=>∃ c d,Inv a b c d e/\Q c d) a.xe s
abbrev Vs:=V->V->V->Hp->(Hp->Prop)->Prop
def YI(a:Cx)(t:Vs):Prop :=
 ∀ (b:List (Addr × Obj)) (s:Shared) (c:St) (H:Hp) (o i v:V) (d e u:Value) (Q:Hp->Prop),Inv a b c H s->RelV o d->RelV i e->RelV v u->t o i v H Q->
  wpAny (model a.prog a.w) a.A (setItem d e u) (λ_ e=>∃ d,Inv a b c d e/\Q d) a.xe s
abbrev d3:=V->V->Hp->VK->Prop
def eJ(a:Cx)(d:Operator)(t:d3):Prop :=
 ∀ (b:List (Addr × Obj)) (s:Shared) (c:St) (H:Hp) (x y:V) (v u:Value) (Q:VK),Inv a b c H s->RelV x v->RelV y u->t x y H Q->
  wpAny (model a.prog a.w) a.A (inplaceOp d v u) (EP a b c Q) a.xe s
section
variable {X:Cx} {pos:Pos}
def pI(i:Nat):TG:=λv a H Q=>Q (a.set i (⇑v)) H
def QU{i:Nat}{x:Str}(a:X.N.Nodup)(b:X.N[i]?=⇑x)(c:Loc X.env.scope x)(d:X.fn x=true\/X.env.scope.names.lookup x=⇑.local:=by bv_normalize):PG X (.Name x pos) (pI i):=by
 intro e s f H v u Q I r h;exact wpAny_assign_Name (xU I a b c r (λf e=>⟨_,H,e,h⟩) d)
def mi:Vr:=λa b H Q=>a=[]/\Q b H
inductive YJ(t:TG)(u:Vr)(vs:List V)(σ:St)(H:Hp)(Q:St->Hp->Prop):Prop
 | mk (v:V) (r:List V) (_:vs=v::r) (_:t v σ H fun σ' H'=>u r σ' H' Q)
def gJ:YH X [] mi:=by
 intro b s a H c d Q I r h;let⟨e,h⟩:=h;subst e;cases r;exact assignInOrder_nil ⟨a,H,I,h⟩
theorem bR{e:Expr}{a:List Expr}{t:TG}{u:Vr}(c:PG X e t)(d:YH X a u)
  (f:(assignEach (e::a) X.env).map (·.2)=assign e X.env::(assignEach a X.env).map (·.2):=by rfl):YH X (e::a) (YJ t u):=by
 intro b s g H j k Q I r h;let⟨v,j,i,h⟩:=h;subst i
 cases r with
 | cons r i =>
  rw[f];refine assignInOrder_cons (dB (c b s g H _ _ _ I r h) λ_ g h=>?_);let⟨j,k,l,m⟩:=h;exact d b g j k _ _ Q l i m
inductive Vt(K:Frag)(n:Nat)(t:Vr)(v:V)(σ:St)(H:Hp)(Q:St->Hp->Prop):Prop
 | mk (a:Addr) (b:List V) (_:v=↥a) (_:dI K H a b) (_:↑b=n) (_:t b σ H Q):Vt K n t v σ H Q
theorem lU{a:List Expr}{k:Nat}{t:Vr}{n:Nat}(g:X.calm=true)(h:YH X a t)
  (i:↑(assignEach a X.env)=n:=by rfl) (j:(assignEach a X.env).findIdx? (·.1)=none:=by rfl):PG X (.Tuple a k pos) (Vt X.K n t):=by
 intro c s d H v u Q I r b;let⟨o,l,e,f,m,b⟩:=b;subst e;cases r;let⟨p,e,o,q⟩:=I.tuple f;refine assign_Tuple_tuple (I.ok.hd g) o (by simp[i,← m,e.length]) j λf m=>?_;have o:Inv X c d H { s with heap:=f }:=I.kept (t':=s.toks) λp q f=>m p q (jc (Heap.lt_size f)) f;exact h c _ d H l _ Q o (by simpa using e) b
def mm(b c:TE)(t:Vs):TG:=λv a H Q=>b a H λo d=>c a d λi d=>t o i v d λd=>Q a d
theorem pJ{o i:Expr}{e f:TE}{t:Vs}(g:PE X o e)(h:PE X i f)(j:YI X t)
  (k:∀ v,assign (.Subscript o i pos) X.env v=(do
   let a ← holding [v] (eval o X.env)
   let b ← holding [v,a] (eval i X.env)
   standAt pos
   holding [v,a,b] (setItem a b v)
   release [v,a,b] []):=by intro _;rfl):PG X (.Subscript o i pos) (mm e f t):=by
 intro d s c H v u Q I r l;rw[k];refine wpAny_bind (wpAny_holding (dB (g d s c H _ I l) λa l m=>?_));let⟨x,n,p,q,w⟩:=m;refine wpAny_bind (wpAny_holding (dB (h d l c n _ p w) λb l m=>?_));let⟨y,n,p,w,z⟩:=m;refine wpAny_bind (wpAny_standAt (wpAny_bind (wpAny_holding (dB (j d l c n x y v a b u _ p q w r z) λ_ l d=>?_))));let⟨l,m,n⟩:=d;exact wpAny_release ⟨c,l,m,n⟩
def Nc(b:TE)(g:TG):TS:=λD a H=>b a H λx c=>g x a c D.nx
theorem mZ{e:Expr}{b:TE}{g:TG}(f:PE X e b)(h:PG X a g)(i:swapsWithSole [a] e pos.line X.env=pure false:=by rfl)(j:swappedStores [a] e X.env=pure none:=by rfl)
  (k:(assignEach [a] X.env).map (·.2)=[assign a X.env]:=by rfl):PS X (.Assign [a] e pos) (Nc b g):=by
 intro c s d H D I l;refine wpAny_Assign_stores (dB (f c s d H _ I l) λv l ⟨x,m,n,o,p⟩=>?_) i j;rw[k];exact dB (h c l d m x v _ n o p) λ_ c q=>q
theorem Vu{i:Nat}{x:Str}{e:Expr}{a:TE}(b:X.N.Nodup)(c:X.N[i]?=⇑x)(d:Loc X.env.scope x)(f:PE X e a)(g:swapsWith e (⇑(.Name x h)) pos.line X.env=pure false:=by rfl)(j:X.fn x=true\/X.env.scope.names.lookup x=⇑.local:=by bv_normalize) :
  PS X (.Assign [.Name x h] e pos) (Nc a (pI i)):=by
 intro k s l H D I m;refine wpAny_Assign_Name (dB (f k s l H _ I m) λv o ⟨y,k,l,m,n⟩=>?_) g;exact xU l b c d m (λm l=>⟨_,k,l,n⟩) j
def mn(i:Nat)(b:TE)(c:d3):TS:=λD a H=>∃ x,a[i]?=⇑(⇑x)/\b a H λy d=>c x y d λz d=>D.nx (a.set i (⇑z)) d
def rX{i:Nat}{x:Str}{e:Expr}{f:TE}{b:Operator}{g:d3}{n:Pos}(o:X.N.Nodup)(j:X.N[i]?=⇑x)(c:Loc X.env.scope x)(p:PE X e f)(q:eJ X b g)(t:X.fn x=true\/X.env.scope.names.lookup x=⇑.local:=by bv_normalize) :
  PS X (.AugAssign (.Name x n) b e pos) (mn i f g):=by
 intro d s l H D I h;let⟨v,w,h⟩:=h;let⟨r,y,z⟩:=I.loc;let A:dV X.env.scope x:=by rcases c with k|k;exact .inl k;exact .inr (.inl k)
 let⟨u,r,B⟩:=z i x v j w A;refine wpAny_AugAssign_Name ?_
 let m:wpAny (model X.prog X.w) X.A (eval e X.env) (λw a=>wpAny (model X.prog X.w) X.A (inplaceOp b u w) (λr z=>wpAny (model X.prog X.w) X.A (storeName X.env x r) (λ_=>SP X d D .next) X.xe z) X.xe a) X.xe s:=by
  refine dB (p d s l H _ I h) λw a h=>?_;let⟨z,A,C,D,F⟩:=h;refine dB (q d a l A v z u w _ C r D F) λz d a=>?_;let⟨u,d,h,l,r⟩:=a;exact xU h o j c l (λh a=>⟨_,d,a,r⟩) t
 rcases B with ⟨a,d⟩|⟨a,h,C,F⟩
 ·exact wpAny_loadName_local I.ok.kind a y d m
 ·rcases a with a|a
  ·exact wpAny_loadName_cell I.ok.kind a C F m
  ·rcases c with k|k
   ·have:X.env.scope.names.lookup x=⇑.free:=a;rw[k]at this;cases this
   ·have:X.env.scope.names.lookup x=⇑.free:=a;rw[k]at this;cases this
def mo(f:Int->Int->Int):d3:=λx y H Q=>∃ i j,x=.int i/\y=.int j/\Q (.int (f i j)) H
def Nd:eJ X .Add (mo λi j=>i+j):=by
 intro e s f H x y v u Q I a b h;let⟨i,j,c,d,q⟩:=h;subst c;subst d;let⟨t,rfl⟩:=a;let⟨g,rfl⟩:=b;exact iadd_int ⟨.int _,H,I.tok _,⟨Y⟩,q⟩
end
section
variable {X:Cx} {pos:Pos}
def Vv(f:TT)(g:TS):TS:=λD a H=>∃ W:Nat->St->Hp->Prop,(∃ m,W m a H)/\∀ m a H,W m a H->
 f a H λc b=>if c=true then ∃ N:St->Hp->Prop,(∀ c d,N c d->∃ e,e<m/\W e c d)/\g (D.lp N) a b else D.nx a b
def pK{k:Expr}{l:TT}{m:TS}(o:PassesOwn (model X.prog X.w) X.A X.env X.xe)(t:PT X k l)(u:Jq X v m):PS X (.While k v [] pos) (Vv l m):=by
 intro a s f H D I h;let⟨W,⟨g,i⟩,j⟩:=h;refine wpAny_While (codeAny_whileLoop (λn d=>∃ b c,Inv X a b c d/\W n b c) ?_ g ⟨f,H,I,i⟩);rintro n f ⟨c,b,g,h⟩;refine wpAny_passesOwn o (dB (t a f c b _ g (j n c b h)) λw x b=>?_);let⟨p,q,d⟩:=b
 cases w with
 | true =>
  let⟨N,r,d⟩:=d;rw[if_pos rfl];refine wpAny_passesOwn o (dB (u a x c p _ q d) λy a e=>?_)
  cases y with
  | next =>
   let⟨a,b,f,g⟩:=e;let⟨h,i,j⟩:=r a b g;exact⟨h,i,a,b,f,j⟩
  | cont =>
   let⟨a,b,f,g⟩:=e;let⟨h,i,j⟩:=r a b g;exact⟨h,i,a,b,f,j⟩
  | brk=>exact e
  | ret a=>exact e
 | false =>
  rw[if_neg lG];exact wpAny_execs_nil ⟨c,p,q,d⟩
end
structure It where
 go:Nat->Hp->Prop
 Nf:Nat->Hp->V->Hp->Prop
 stop:Nat->Hp->Prop
def nR(a:Cx)(d:List (Addr × Obj))(H:Hp)(b:Addr):Prop :=
 H b=none/\b≠a.env.locals/\b∉a.fs/\(b∈a.ex\/a.s₀.heap.objs.size<=b)/\(∀ x c,a.env.cells.lookup x=⇑c->c≠b)/\∀ p∈a.pn++d,p.1≠b
def Inv.KO{c:Cx}{e:St}{H d:Hp}{s:Shared}{b:Addr}(I:Inv c f e H s)(a:s⁻¹<=b)(g:d b=none):nR c f d b:=by
 refine⟨g,Nat.ne_of_gt (oU I.lt a),I.lq a,.inr (fX I.sz a),λx h i z=>?_,λp j z=>?_⟩
 ·let⟨v,q⟩:=I.cell x h i;exact absurd (oU q.lt (by rw[z];exact a)) (Nat.lt_irrefl _)
 ·exact absurd (oU (Heap.lt_size (I.pin p j).1) (by rw[z];exact a)) (Nat.lt_irrefl _)
structure GX(P:Program)(w:World)(K:Frag)(tg:Expr)(J:It)(fp:UV)(it:Addr)(tn:Nat->Heap->Prop):Prop where
 mem:it∈fp
 obj:∀ i h,tn i h->∀ b∈fp,∃ o,h.get? b=⇑o/\∀ v,o.data≠.cell v
 keep:∀ i h h',tn i h->(∀ b∈fp,∀ o,h.get? b=⇑o->h'.get? b=⇑o)->tn i h'
 item:∀ (X:Cx),X.prog=P->X.w=w->X.K=K->X.calm=true->∀ (i:Nat) (ao:List (Addr × Obj)) (s:Shared) (σ:St) (H:Hp) (E:ZB),Inv X ao σ H s->(∀ b∈fp,nR X ao H b)->tn i s.heap->J.go i H->
  wpAny (model P w) X.A (pyNext ↥it) (λr s1=>∃ u,r=⇑u/\
   wpAny (model P w) X.A (letOwnedTupleGo tg ↥it u) (λ_ s2=>∃ x H',Inv X ao σ H' s2/\RelV x u/\J.Nf i H x H'/\tn (i+1) s2.heap/\∀ b∈fp,H' b=none) E s1) E s
 done:∀ (X:Cx),X.prog=P->X.w=w->X.K=K->X.calm=true->∀ (i:Nat) (ao:List (Addr × Obj)) (s:Shared) (σ:St) (H:Hp) (E:ZB),Inv X ao σ H s->(∀ b∈fp,nR X ao H b)->tn i s.heap->J.stop i H->
  wpAny (model P w) X.A (pyNext ↥it) (λr s1=>r=none/\Inv X ao σ H s1) E s
 self:∀ (A:Around) (i:Nat) (s:Shared) (Q:ZB) (E:ZB),tn i s.heap->Q ↥it s->wpAny (model P w) A (pyIter ↥it) Q E s
abbrev TI:=St->Hp->(It->Hp->Prop)->Prop
def eM(a:Cx)(c:List (Addr × Obj))(h:St)(i:Expr)(j:It->Hp->Prop)(k:Value)(d:Shared):Prop :=
 ∃ (e:Addr) (f:UV) (g:Nat->Heap->Prop) (J:It) (b:Hp),k=↥e/\Inv a c h b d/\GX a.prog a.w a.K i J f e g/\g 0 d.heap/\(∀ l∈f,nR a c b l)/\j J b
def PI(a:Cx)(d e:Expr)(f:TI):Prop :=
 ∀ (c:List (Addr × Obj)) (s:Shared) (b:St) (H:Hp) (R:It->Hp->Prop),Inv a c b H s->f b H R->
  wpAny (model a.prog a.w) a.A (eval e a.env) (λv g=>wpAny (model a.prog a.w) a.A (pyIter v) (eM a c b d R) a.xe g) a.xe s
theorem Eh{M:Model}{A:Around}{E:ZB}{s:Shared}{b:Addr}{u:Value}{o:Obj}{n:String}{c:WF}{Q:Unit->Shared->Prop}(d:s.heap.get? b=⇑o)(e:o.cls=.type n)(f:o.data=.fields c)
  (g:["enumerate","zip","dict_itemiterator","R","odict_iterator","2","itertools.pairwise"].contains n=false) (a:Q () s):wpAny M A (letOwnedTupleGo i ↥b u) Q E s:=by
 unfold letOwnedTupleGo
 cases i <;> first
  | exact wpAny_pure a
  | (cases u <;> first
    | exact wpAny_pure a
    | (refine wpAny_bind (wpAny_load d ?_);rw[e,f];show wpAny M A (if (["enumerate","zip","dict_itemiterator","R","odict_iterator","2","itertools.pairwise"].contains n&&c[0]? == some (rawInt _))=true then _ else _) Q E s;rw[if_neg (by intro h;rw[g,Bool.false_and]at h;cases h)];exact wpAny_pure a))
def Ng(K:Frag)(b:Addr):It :=
 ⟨λi H=>∃ a x,bI K H b a/\a[i]?=⇑x,λi H x c=>c=H/\∀ a,bI K H b a->a[i]?=⇑x,λi H=>∃ a,bI K H b a/\↑a<=i⟩
def YL(K:Frag)(b:Addr):It :=
 ⟨λi H=>∃ a x,dI K H b a/\a[i]?=⇑x,λi H x c=>c=H/\∀ a,dI K H b a->a[i]?=⇑x,λi H=>∃ a,dI K H b a/\↑a<=i⟩
def KP(lo:Int)(n:Nat):It:=⟨λi _=>i<n,λi H x a=>a=H/\x=.int (lo+i),λi _=>n<=i⟩
theorem KQ{P:Program}{J:World}{K:Frag}(z b:Addr):GX P J K tg (Ng K z) [b] b (λi h=>h.IsListIter b z i) where
 mem:=by simp
 obj:=λi h a c d=>by
  let e:c=b:=by simpa using d
  subst e;let⟨o,e,A,k⟩:=a;exact⟨o,e,λv f=>by rw[k]at f;cases f⟩
 keep:=λi h f a F=>a.at λo e=>F b (by simp) o e
 item:=by
  intro X l m n B i C s D H E I g a p;subst l m n;let⟨L,M,j,q⟩:=p;let⟨N,r,t,O⟩:=I.list j;let⟨F,G,R⟩:=r.get q;let⟨u,v,S,w,x,y⟩:=g b (by simp);refine wpAny_pyNext_list_item a t.isList (x:=F) (by simpa using G) λf G T=>?_;have U:Inv X C D H { s with heap:=f }:=I.turned (t':=s.toks) (λc o d e=>(T.2 c d).trans e) u v w x y;let⟨o,e,A,k⟩:=id G;exact⟨F,1,Eh (s:={ s with heap:=f }) e A k (by decide) ⟨M,H,U,R,⟨1,λA k=>by rw[I.Ef k j];exact q⟩,G,λc d=>(g c d).1⟩⟩
 done:=by
  intro X l m n B i C s D H E I g a p;subst l m n;let⟨L,j,q⟩:=p;let⟨N,r,t,O⟩:=I.list j;let⟨u,v,S,w,x,y⟩:=g b (by simp);let g:=↑r;exact wpAny_pyNext_list_end (I.ok.hd B) a t.isList (by simp;lia) λf f=>⟨1,I.turned (t':=s.toks) (λc o d e=>f c o d e) u v w x y⟩
 self:=λ_ _ _ _ _ a h=>wpAny_pyIter_listiter a h
theorem GY{P:Program}{L:World}{K:Frag}(f b:Addr):GX P L K tg (YL K f) [b] b (λi h=>h.IsTupleIter b f i) where
 mem:=by simp
 obj:=λi h a c d=>by
  let e:c=b:=by simpa using d
  subst e;let⟨o,e,B,l⟩:=a;exact⟨o,e,λv z=>by rw[l]at z;cases z⟩
 keep:=λi h g a G=>a.at λo e=>G b (by simp) o e
 item:=by
  intro X m n p C i D s F H E I j a q;subst m n p;let⟨M,N,k,r⟩:=q;let⟨t,u,v,O⟩:=I.tuple k;let⟨G,J,R⟩:=u.get r;let⟨w,x,S,y,z,A⟩:=j b (by simp);refine wpAny_pyNext_tuple_item a (show s.heap.IsTuple f t.toArray from v) (x:=G) (by simpa using J) λg J T=>?_;have U:Inv X D F H { s with heap:=g }:=I.turned (t':=s.toks) (λc o d e=>(T.2 c d).trans e) w x y z A;let⟨o,e,B,l⟩:=id J;exact⟨G,1,Eh (s:={ s with heap:=g }) e B l (by decide) ⟨N,H,U,R,⟨1,λB l=>by rw[I.A7 l k];exact r⟩,J,λc d=>(j c d).1⟩⟩
 done:=by
  intro X m n p C i D s F H E I j a q;subst m n p;let⟨M,k,r⟩:=q;let⟨t,u,v,O⟩:=I.tuple k;let⟨w,x,S,y,z,A⟩:=j b (by simp);let j:=↑u;exact wpAny_pyNext_tuple_end (I.ok.hd C) a (show s.heap.IsTuple f t.toArray from v) (by simp;lia) λg g=>⟨1,I.turned (t':=s.toks) (λc o d e=>g c o d e) w x y z A⟩
 self:=λ_ _ _ _ _ a h=>wpAny_pyIter_tupleiter a h
theorem xX{P:Program}{B:World}{K:Frag}(b:Addr)(lo:Int)(n:Nat):GX P B K M (KP lo n) [b] b (λi h=>IsRangeIter h b (lo+(i:Nat)*1) ((n:Int)-(i:Nat)) 1) where
 mem:=by simp
 obj:=λi h a c d=>by
  let e:c=b:=by simpa using d
  subst e
  exact⟨_,a,λw z=>by
   let f:Data.fields _=Data.cell w:=z
   cases f⟩
 keep:=λi h f a C=>C b (by simp) _ a
 item:=by
  intro X j k l m i x s y H E I g a o;subst j k l;let⟨p,q,D,r,t,u⟩:=g b (by simp);let W:=Walks.range (prog:=X.prog) (w:=X.w) (I.ok.hd m) b lo 1 n;refine W.item i s _ _ o a λw f z F A G=>?_;let⟨J,rfl⟩:=F;have L:Inv X x y H { s with heap:=f,toks:=z }:=I.turned (λc v d e=>G c v (by simpa using d) e) p q r t u;refine⟨Y,Eh (s:={ s with heap:=f,toks:=z }) (n:="range_iterator") A rfl rfl (by decide) ⟨.int (lo+i),H,L,⟨J,?_⟩,⟨V⟩,A,λc d=>(g c d).1⟩⟩;rw[Int.mul_one]
 done:=by
  intro X j k l m i x s y H E I g a o;subst j k l;let⟨p,q,D,r,t,u⟩:=g b (by simp);exact wpAny_pyNext_range_end (I.ok.hd m) a (by have:n<=i:=o;lia) λf f=>⟨1,I.turned (t':=s.toks) (λc v d e=>f c v d e) p q r t u⟩
 self:=λ_ _ _ _ _ a h=>wpAny_pyIter_rangeiter a h
end _L2
namespace _L2
open Spec Rows
section
variable {X:Cx} {tg:Expr}
inductive mr(K:Frag)(x:V)(H:Hp)(R:It->Hp->Prop):Prop
 | mk (a:Addr) (_:x=↥a) (_:∃ b,bI K H a b) (_:R (Ng K a) H)
def T9(K:Frag)(a:TE):TI:=fun b H R=>a b H λx b=>mr K x b R
def mu(K:Frag)(c:TE):TI:=fun a H R=>c a H λx b=>∃ a,x=↥a/\(∃ d,dI K b a d)/\R (YL K a) b
def cK{l:Expr}{d:TE}(g:PE X l d):PI X tg l (T9 X.K d):=by
 intro h s i H R I j;refine dB (g h s i H _ I j) λv b h=>?_;let⟨x,k,c,m,i⟩:=h;let⟨a,e,⟨h,n⟩,q⟩:=i;subst e;cases m;let⟨h,i,p,j⟩:=c.list n;refine wpAny_pyIter_list p.isList ?_;refine⟨b⁻¹,[b⁻¹],E,k,1,c.kept (t':=b.toks) λf o e=>Heap.get?_push_of_some _ e,KQ a _,⟨_,Heap.get?_push_size _ rfl,V⟩,λf h=>?_,q⟩;have e:f=b⁻¹:=by simpa using h
 subst e;exact c.KO (d7 _) (c.hok.fresh (d7 _))
def Vw{l:Expr}{d:TE}(g:PE X l d):PI X tg l (mu X.K d):=by
 intro h s i H R I j;refine dB (g h s i H _ I j) λv b h=>?_;let⟨x,k,c,m,i⟩:=h;let⟨a,e,⟨h,n⟩,q⟩:=i;subst e;cases m;let⟨h,i,p,j⟩:=c.tuple n;refine wpAny_pyIter_tuple (show b.heap.IsTuple a h.toArray from p) ?_;refine⟨b⁻¹,[b⁻¹],E,k,1,c.kept (t':=b.toks) λf o e=>Heap.get?_push_of_some _ e,GY a _,⟨_,Heap.get?_push_size _ rfl,V⟩,λf h=>?_,q⟩;have e:f=b⁻¹:=by simpa using h
 subst e;exact c.KO (d7 _) (c.hok.fresh (d7 _))
theorem Nh{b:St}{H:Hp}{s:Shared}{g:It->Hp->Prop}{E:ZB}{lo a:Int}{t u v:Tok}{c:Nat}(I:Inv X h b H s)(i:-(2^62)<=lo)(j:lo<2^62)(k:-(2^62)<=a)(l:a<2^62)
  (q:g (KP lo (a-lo).toNat) H):wpAny (model X.prog X.w) X.A (pyIter ↥s⁻¹) (eM X h b tg g) E { s with heap:=s.heap.push { cls:=.type "v",data:=.fields (List.toArray [.int lo t,.int a u,.int 1 v]) },toks:=c }:=by
 refine wpAny_pyIter_range (IsRange.new ..) (small_one i j k l) ?_;let d:Inv X h b H { s with heap:=s.heap.push { cls:=.type "v",data:=.fields (List.toArray [.int lo t,.int a u,.int 1 v]) },toks:=c }:=I.kept λf o e=>Heap.get?_push_of_some _ e;refine⟨(s.heap.push { cls:=.type "v",data:=.fields (List.toArray [.int lo t,.int a u,.int 1 v]) }).objs.size,[(s.heap.push { cls:=.type "v",data:=.fields (List.toArray [.int lo t,.int a u,.int 1 v]) }).objs.size],E,H,1, d.kept (t':=c) λf o e=>Heap.get?_push_of_some _ e,xX _ lo (a-lo).toNat,?_,λf m=>?_,q⟩
 ·let n:lo+((0:Nat):Int)*1=lo:=by simp
  let p:(((a-lo).toNat:Nat):Int)-((0:Nat):Int)=Builtin.Range.rangeSize lo a 1:=by rw[rangeSize_one];split <;> lia
  show IsRangeIter _ _ (lo+((0:Nat):Int)*1) ((((a-lo).toNat:Nat):Int)-((0:Nat):Int)) 1;rw[n,p];exact Heap.get?_push_size _ rfl
 ·let e:f=(s.heap.push { cls:=.type "v",data:=.fields (List.toArray [.int lo t,.int a u,.int 1 v]) }).objs.size:=by simpa using m
  subst e;exact d.KO (d7 _) (d.hok.fresh (d7 _))
inductive mx(vs:List V)(H:Hp)(R:It->Hp->Prop):Prop
 | mk (j:Int) (_:vs=[.int j]) (_:-(2^62)<=j) (_:j<2^62) (_:R (KP 0 j.toNat) H)
def YM(a:TA):TI:=fun b H R=>a b H λb c=>mx b c R
def iL{a:Expr}{c:TA}{p:Pos}(d:Gl X "v")(e:X.mg "v"=none)(f:PA X [a] c)(g:starEach [a] X.env=[(false,eval a X.env)]:=by rfl):PI X tg (.Call (.Name "v" p) [a] [] h) (YM c):=by
 intro i s j H R I k;refine Call_ (uX I d e boot_range (PyProof.Rows.callWith_type1 (dB (f h i s j H _ I k) λi j ⟨k,u,l,m,b⟩=>?_) g rfl));let⟨j,n,b,o,q⟩:=b;subst n
 cases m with
 | cons r t =>
  cases t;let⟨v,rfl⟩:=r;exact call_range_1 (Nh l ∅ ∅ b o (by simpa using q))
def my(e:TI)(g:TG)(f:TS):TS:=λD a H=>e a H λJ b=>∃ W:Nat->Nat->St->Hp->Prop,(∃ m,W 0 m a b)/\∀ i m a H,W i m a H->
 (J.stop i H/\D.nx a H)\/(J.go i H/\∃ N:St->Hp->Prop,(∀ c b,N c b->∃ d,d<m/\W (i+1) d c b)/\∀ x b,J.Nf i H x b->g x a b fun a c=>f (D.lp N) a c)
def rY(a:UV)(h:Heap):List (Addr × Obj):=a.filterMap λb=>(h.get? b).map λo=>(b,o)
theorem ig{a:UV}{h:Heap}{b:Addr}{o:Obj}(c:b∈a)(e:h.get? b=⇑o):(b,o)∈rY a h:=List.mem_filterMap.mpr ⟨b,c,by rw[e];rfl⟩
def KR{a:UV}{h:Heap}{p:Addr × Obj}(c:p∈rY a h):p.1∈a/\h.get? p.1=⇑p.2:=by
 let⟨b,d,e⟩:=List.mem_filterMap.mp c
 cases q:h.get? b with
 | none=>rw[q]at e;cases e
 | some o =>
  rw[q]at e;let f:(b,o)=p:=nQ e;subst f;exact⟨d,q⟩
theorem Inv.pinned{c:St}{H:Hp}{s:Shared}{a:UV}(I:Inv X d c H s)(h:∀ b∈a,nR X d H b)(i:∀ b∈a,∃ o,s.heap.get? b=⇑o/\∀ v,o.data≠.cell v):Inv X (d++rY a s.heap) c H s :=
 I.Jo λp e=>(List.mem_append.mp e).elim (λz=>I.pin p (kJ _ z)) λz=>by
  let⟨e,f⟩:=KR z;let⟨j,k,l,_⟩:=h p.1 e;let⟨o,g,m⟩:=i p.1 e;rw[f]at g;cases g;exact⟨f,j,k,l,m⟩
theorem Inv.nk{b:List (Addr × Obj)}{a:St}{H:Hp}{s:Shared}(I:Inv X (c++b) a H s):Inv X c a H s:=I.Jo λp d=>I.pin p (kJ _ (lQ _ d))
theorem eZ{r:Expr}{v:TI}{w:TG}{y:TS}(j:PassesOwn (model X.prog X.w) X.A X.env X.xe)(z:X.calm=true)(J:PI X tg r v)(L:PG X tg w)(a:Jq X M y)
  (N:∀ x,foldedSetIterable r X.env x=pure x:=by intro _;rfl):PS X (.For tg r M [] an) (my v w y):=by
 intro h s A O ap R S;refine wpAny_For (dB (J h s A O _ R S) λU R O=>dB O λR S O=>?_) N;let⟨it,k,B,R,H2,l,I2,T,ab,C,W,⟨m0,w0⟩,jr⟩:=O;subst l;let t:∀ {f:Hp},(∀ b∈k,f b=none)->∀ b∈k,nR X h f b:=λO b a=>⟨O b a,(C b a).2⟩;refine codeAny_forLoop_any (λp c=>∃ i m f,Inv X h m f c/\B i c.heap/\(∀ b∈k,f b=none)/\W i p m f) ?_ m0 ⟨0,A,H2,I2,ab,λb a=>(C b a).1,w0⟩;rintro p D ⟨i,n,q,F,G,H,w3⟩;rcases jr i p n q w3 with ⟨stop,qn⟩|⟨go,ae,hN,step⟩
 ·refine wpAny_passesOwn j (dB (T.done X rfl rfl rfl z i h D n q X.xe F (t H) G stop) λag s4 c=>?_);let⟨u,d⟩:=c;subst u;exact wpAny_execs_nil ⟨n,q,d,qn⟩
 ·refine wpAny_passesOwn j (dB (T.item X rfl rfl rfl z i h D n q X.xe F (t H) G go) λag s4 q=>?_);let⟨ai,u,h4⟩:=q;subst u;refine wpAny_passesOwn j (dB h4 λ_ u C=>?_);let⟨x,A,D,F,G,q,H⟩:=C;let C:=D.pinned (t H) (T.obj _ _ q);refine wpAny_passesOwn j (dB (L _ u n A x ai _ C F (step x A G)) λ_ n t=>?_);let⟨A,C,D,F⟩:=t;refine wpAny_passesOwn j (dB (a _ n A C _ D F) λam n g=>?_)
  let I:∀ {c:St} {d:Hp},Inv X (h++rY k u.heap) c d n->ae c d->∃ t,t<p/\∃ i m f,Inv X h m f n/\B i n.heap/\(∀ b∈k,f b=none)/\W i t m f:=λ{c d} e o=>by
   let⟨f,h,k⟩:=hN c d o;refine⟨f,h,i+1,c,d,e.nk,T.keep _ _ _ q λb a f l=>(e.pin (b,f) (kJ _ (kJ _ (ig a l)))).1,λb a=>?_,k⟩;let⟨f,l,h⟩:=T.obj _ _ q b a;exact (e.pin (b,f) (kJ _ (kJ _ (ig a l)))).2.1
  cases am with
  | next=>let⟨c,d,e,o⟩:=g;exact I e o
  | cont=>let⟨c,d,e,o⟩:=g;exact I e o
  | brk=>let⟨c,d,e,g⟩:=g;exact⟨c,d,e.nk,g⟩
  | ret U=>let⟨b,c,d,e,f,g⟩:=g;exact⟨b,c,d,e.nk,f,g⟩
end
theorem ef{K:Frag}{e:Addr}{b:List V}{k:TG}{l:TS}{D:Ends}{a:St}{H:Hp}(c:Nat->St->Hp->Prop)(r:c 0 a H)(t:∀ i a H,i<=↑b->c i a H->bI K H e b)
  (u:∀ i x a H,b[i]?=⇑x->c i a H->k x a H fun f g=>l (D.lp (c (i+1))) f g) (v:∀ a H,c ↑b a H->D.nx a H) :
  ∃ W:Nat->Nat->St->Hp->Prop,(∃ m,W 0 m a H)/\∀ i m a H,W i m a H->
   ((Ng K e).stop i H/\D.nx a H)\/((Ng K e).go i H/\∃ N:St->Hp->Prop,(∀ h d,N h d->∃ n,n<m/\W (i+1) n h d)/\∀ x d,(Ng K e).Nf i H x d->k x a d fun f g=>l (D.lp N) f g):=by
 refine⟨λi m a H=>m=↑b-i/\i<=↑b/\c i a H,⟨↑b,by simp,ic _,r⟩,?_⟩;rintro i m a H ⟨rfl,o,p⟩;let q:=t i a H o p;by_cases o:i<↑b
 ·refine .inr ⟨⟨b,b[i],q,by simp[o]⟩,c (i+1),fun h d s=>⟨↑b-(i+1),by lia,1,o,s⟩,λx d y=>?_⟩;let⟨j,y⟩:=y;subst j;exact u i x a _ (y b q) p
 ·let j:i=↑b:=by lia
  subst j;exact .inl ⟨⟨b,q,d7 _⟩,v a H p⟩
theorem QW{K:Frag}{e:Addr}{b:List V}{k:TG}{l:TS}{D:Ends}{a:St}{H:Hp}(c:Nat->St->Hp->Prop)(r:c 0 a H)(t:∀ i a H,i<=↑b->c i a H->dI K H e b)
  (u:∀ i x a H,b[i]?=⇑x->c i a H->k x a H fun f g=>l (D.lp (c (i+1))) f g) (v:∀ a H,c ↑b a H->D.nx a H) :
  ∃ W:Nat->Nat->St->Hp->Prop,(∃ m,W 0 m a H)/\∀ i m a H,W i m a H->
   ((YL K e).stop i H/\D.nx a H)\/((YL K e).go i H/\∃ N:St->Hp->Prop,(∀ h d,N h d->∃ n,n<m/\W (i+1) n h d)/\∀ x d,(YL K e).Nf i H x d->k x a d fun f g=>l (D.lp N) f g):=by
 refine⟨λi m a H=>m=↑b-i/\i<=↑b/\c i a H,⟨↑b,by simp,ic _,r⟩,?_⟩;rintro i m a H ⟨rfl,o,p⟩;let q:=t i a H o p;by_cases o:i<↑b
 ·refine .inr ⟨⟨b,b[i],q,by simp[o]⟩,c (i+1),fun h d s=>⟨↑b-(i+1),by lia,1,o,s⟩,λx d y=>?_⟩;let⟨j,y⟩:=y;subst j;exact u i x a _ (y b q) p
 ·let j:i=↑b:=by lia
  subst j;exact .inl ⟨⟨b,q,d7 _⟩,v a H p⟩
theorem lH{lo:Int}{n:Nat}{j:TG}{k:TS}{D:Ends}{a:St}{H:Hp}(c:Nat->St->Hp->Prop)(o:c 0 a H)
  (q:∀ i a H,i<n->c i a H->j (.int (lo+i)) a H fun d e=>k (D.lp (c (i+1))) d e) (r:∀ a H,c n a H->D.nx a H) :
  ∃ W:Nat->Nat->St->Hp->Prop,(∃ m,W 0 m a H)/\∀ i m a H,W i m a H->
   ((KP lo n).stop i H/\D.nx a H)\/((KP lo n).go i H/\∃ N:St->Hp->Prop,(∀ f b,N f b->∃ l,l<m/\W (i+1) l f b)/\∀ x b,(KP lo n).Nf i H x b->j x a b fun d e=>k (D.lp N) d e):=by
 refine⟨λi m a H=>m=n-i/\i<=n/\c i a H,⟨n,by simp,ic _,o⟩,?_⟩;rintro i m a H ⟨rfl,s,p⟩;by_cases g:i<n
 ·refine .inr ⟨g,c (i+1),fun f b s=>⟨n-(i+1),by lia,1,g,s⟩,λx b y=>?_⟩;let⟨h,y⟩:=y;subst h y;exact q i a _ g p
 ·let h:i=n:=by lia
  subst h;exact .inl ⟨Nat.le_refl _,r a H p⟩
end _L2
namespace _L2
open Spec Rows
abbrev R2:=V->V->Hp->VK->Prop
def tH(a:Cx)(f:Value->Value->Sem Value)(r:R2):Prop :=
 ∀ (b:List (Addr × Obj)) (s:Shared) (c:St) (H:Hp) (x y:V) (v u:Value) (Q:VK),Inv a b c H s->RelV x v->RelV y u->r x y H Q->
  wpAny (model a.prog a.w) a.A (f v u) (EP a b c Q) a.xe s
def eP(a:Cx)(f:Value->Sem Value)(r:V->Hp->VK->Prop):Prop :=
 ∀ (b:List (Addr × Obj)) (s:Shared) (c:St) (H:Hp) (x:V) (v:Value) (Q:VK),Inv a b c H s->RelV x v->r x H Q->
  wpAny (model a.prog a.w) a.A (f v) (EP a b c Q) a.xe s
def jm(a:Cx)(f:Value)(r:List V->Hp->VK->Prop):Prop :=
 ∀ (b:List (Addr × Obj)) (s:Shared) (c:St) (H:Hp) (d:List V) (e:Wp) (Q:VK),Inv a b c H s->cD d e->r d H Q->
  wpAny (model a.prog a.w) a.A (call f e) (EP a b c Q) a.xe s
def mB(a:Cx)(r:V->Hp->(Bool->Hp->Prop)->Prop):Prop :=
 ∀ (b:List (Addr × Obj)) (s:Shared) (c:St) (H:Hp) (x:V) (v:Value) (Q:Bool->Hp->Prop),Inv a b c H s->RelV x v->r x H Q->
  wpAny (model a.prog a.w) a.A (truthy v) (TP a b c Q) a.xe s
def YN(r:R2)(b c:TE):TE:=fun a H Q=>b a H λx d=>c a d λy a=>r x y a Q
def mI(r:V->Hp->VK->Prop)(a:TE):TE:=fun b H Q=>a b H λx b=>r x b Q
inductive rI(C:Int->Int->Prop)(g:Int->Int->V)(x y:V)(H:Hp)(Q:VK):Prop
 | mk (i j:Int) (_:x=.int i) (_:y=.int j) (_:C i j) (_:Q (g i j) H):rI C g x y H Q
inductive Ua(g:Int->Int->V)(x y:V)(H:Hp)(Q:VK):Prop
 | mk (i j:Int) (_:x=.int i) (_:y=.int j) (_:Q (g i j) H)
def rU(g:Int->V):V->Hp->VK->Prop:=λx H Q=>∃ i,x=.int i/\Q (g i) H
section
variable {X:Cx} {a b c:Expr} {ta tb tc:TE} {pos:Pos}
theorem Vx(k:PE X a ta)(l:PE X b tb){f:List (Addr × Obj)}{s:Shared}{d:St}{H:Hp}{i:V->V->Hp->Prop}(I:Inv X f d H s)
  (m:ta d H λx h=>tb d h λy e=>i x y e) {Q:ZB} {j:Value->Value->Sem Value}
  (n:∀ v u g x y e,Inv X f d e g->RelV x v->RelV y u->i x y e->wpAny (model X.prog X.w) X.A (j v u) Q X.xe g) :
  wpAny (model X.prog X.w) X.A (eval a X.env) (λv o=>wpAny (model X.prog X.w) X.A (eval b X.env) (λu p=>wpAny (model X.prog X.w) X.A (j v u) Q X.xe p) X.xe o) X.xe s:=by
 refine dB (k f s d H _ I m) λv c q=>?_;let⟨x,h,r,t,w⟩:=q;refine dB (l f c d h _ r w) λu g c=>?_;let⟨y,e,q,r,w⟩:=c;exact n v u g x y e q t r w
def bz{d:Operator}{r:R2}(e:tH X (binaryOp d) r)(f:PE X a ta)(g:PE X b tb):PE X (.BinOp a d b pos) (YN r ta tb):=by
 intro c s h H Q I i;exact wpAny_BinOp (Vx f g I i λv u i x y j k l m q=>e c i h j x y v u Q k l m q)
def iS{d:UnaryOp}{r:V->Hp->VK->Prop}(e:eP X (unaryOp d) r)(f:PE X a ta):PE X (.UnaryOp d a pos) (mI r ta):=by
 intro b s c H Q I h;exact UnaryOp_ (dB (f b s c H _ I h) λv g ⟨x,h,i,j,k⟩=>e b g c h x v Q i j k)
theorem d5{f:Value->Value->Sem Value}{C:Int->Int->Prop}{g:Int->Int->Int}
  (d:∀ (i j:Int) (t u:Tok) (s:Shared) (Q:ZB) (E:ZB),C i j->Q (.int (g i j) s.toks) { s with toks:=s.toks+1 }->wpAny (model X.prog X.w) X.A (f (.int i t) (.int j u)) Q E s) :
  tH X f (rI C λi j=>.int (g i j)):=by
 intro k s l H x y v u Q I a b h;let⟨i,j,rfl,rfl,c,q⟩:=h;let⟨t,rfl⟩:=a;let⟨e,rfl⟩:=b;exact d i j t e s _ _ c ⟨.int (g i j),H,I.tok _,⟨Y⟩,q⟩
theorem YO{f:Value->Value->Sem Value}{g:Int->Int->Int}
  (d:∀ (i j:Int) (t u:Tok) (s:Shared) (Q:ZB) (E:ZB),Q (.int (g i j) s.toks) { s with toks:=s.toks+1 }->wpAny (model X.prog X.w) X.A (f (.int i t) (.int j u)) Q E s) :
  tH X f (Ua λi j=>.int (g i j)):=by
 intro e s k H x y v u Q I a b h;let⟨i,j,rfl,rfl,q⟩:=h;let⟨t,rfl⟩:=a;let⟨c,rfl⟩:=b;exact d i j t c s _ _ ⟨.int (g i j),H,I.tok _,⟨Y⟩,q⟩
theorem QX{f:Value->Value->Sem Value}{g:Int->Int->Bool}
  (d:∀ (i j:Int) (t u:Tok) (s:Shared) (Q:ZB) (E:ZB),Q (.bool (g i j)) s->wpAny (model X.prog X.w) X.A (f (.int i t) (.int j u)) Q E s) :
  tH X f (Ua λi j=>.bl (g i j)):=by
 intro e s k H x y v u Q I a b h;let⟨i,j,rfl,rfl,q⟩:=h;let⟨t,rfl⟩:=a;let⟨c,rfl⟩:=b;exact d i j t c s _ _ ⟨.bl (g i j),H,I,1,q⟩
def mM(i j:Int):Prop:=0<=j/\j<=1000000/\i.natAbs<2^64
def Vy(i j:Int):Prop:=(-(2^64)<i/\i<2^64)\/(-(2^64)<j/\j<2^64)
def Vy.ok{i j:Int}(h:Vy i j):IntMulOk i j:=by
 rcases h with ⟨a,b⟩|⟨a,b⟩
 ·exact .of_left (intBits_le_64 a b)
 ·exact .of_right (intBits_le_64 a b)
theorem dY:tH X (binaryOp .Add) (Ua λi j=>.int (i+j)):=YO λ_ _ _ _ _ _ _ q=>add_int q
theorem dc:tH X (binaryOp .Sub) (Ua λi j=>.int (i-j)):=YO λ_ _ _ _ _ _ _ q=>sub_int q
theorem GZ:tH X (binaryOp .Mult) (rI Vy λi j=>.int (i*j)):=d5 λ_ _ _ _ _ _ _ a q=>mul_int q a.ok
theorem xY:tH X (binaryOp .Mod) (rI (λ_ j=>0<j) λi j=>.int (i % j)):=d5 λi j _ _ _ _ _ a q=>by
 let b:(0:Int)<j:=a;exact mod_int' ∅ (by rw[Int.fmod_eq_emod_of_nonneg i ∅];exact q)
theorem Ni:tH X (binaryOp .Pow) (rI mM λi j=>.int (i^j.toNat)):=d5 λ_ _ _ _ _ _ _ a q=>pow_int_small a.1 a.2.1 a.2.2 q
theorem mN{f:Value->Sem Value}{g:Int->Int}
  (d:∀ (i:Int) (t:Tok) (s:Shared) (Q:ZB) (E:ZB),Q (.int (g i) s.toks) { s with toks:=s.toks+1 }->wpAny (model X.prog X.w) X.A (f (.int i t)) Q E s) :
  eP X f (rU λi=>.int (g i)):=by
 intro b s c H x v Q I a h;let⟨i,rfl,q⟩:=h;let⟨t,rfl⟩:=a;exact d i t s _ _ ⟨.int (g i),H,I.tok _,⟨Y⟩,q⟩
theorem gm:eP X (unaryOp .USub) (rU λi=>.int (-i)):=mN λ_ _ _ _ _ q=>neg_int q
end
def YQ:V->V->Bool
 | .gi,.gi=>true | .gi,.int _=>true | .int _,.gi=>true | .gi,.bl _=>true | .bl _,.gi=>true | .gi,.str _=>true | .str _,.gi=>true
 | .int _,.int _=>true | .bl _,.bl _=>true | .str _,.str _=>true | .GR _,.GR _=>true
 | .int _,.str _=>true | .str _,.int _=>true | .bl _,.str _=>true | .str _,.bl _=>true
 | _,_=>false
def mT:R2:=λx y H Q=>YQ x y=true/\Q (.bl (decide (x=y))) H
def mV:R2:=λx y H Q=>YQ x y=true/\Q (.bl (!decide (x=y))) H
def Jt{i j:Int}:decide (V.int i=V.int j)=(i == j):=by
 rw[Bool.eq_iff_iff];simp
def Nj{i j:Bool}:decide (V.bl i=V.bl j)=(i == j):=by
 rw[Bool.eq_iff_iff];simp
def Ju{i j:Str}:decide (V.str i=V.str j)=(i == j):=by
 rw[Bool.eq_iff_iff];simp
def Jv{i j:Array UInt8}:decide (V.GR i=V.GR j)=(i.toList == j.toList):=by
 rw[Bool.eq_iff_iff];cases i;cases j;simp
section
variable {X:Cx} {a b c:Expr} {ta tb tc:TE} {pos:Pos}
def dZ{d:St}{H:Hp}{s:Shared}{Q:VK}{k e:Bool}(I:Inv X f d H s)(q:Q (.bl k) H)(g:k=e):EP X f d Q (.bool e) s:=by
 subst g;exact⟨.bl k,H,I,1,q⟩
def eE:tH X (compareOp .Eq) mT:=by
 intro e s f H x y v u Q I d a h;let⟨c,q⟩:=h
 cases x with
 | gi =>
  cases d
  cases y with
  | gi=>cases a;exact PySem.EqNone.eq_none_none (dZ I q (by simp))
  | bl j=>cases a;exact PySem.EqNone.eq_none_bool (dZ I q (by simp))
  | int j=>let⟨b,rfl⟩:=a;exact PySem.EqNone.eq_none_int (dZ I q (by simp))
  | str j=>let⟨b,rfl⟩:=a;exact PySem.EqNone.eq_none_str (dZ I q (by simp))
  | _=>exact absurd (show false=true from c) lG
 | bl i =>
  cases d
  cases y with
  | gi=>cases a;exact PySem.EqNone.eq_bool_none (dZ I q (by simp))
  | bl j=>cases a;exact eq_bool (dZ I q Nj)
  | str j=>let⟨b,rfl⟩:=a;exact PySem.EqMixed.eq_bool_str (dZ I q (by simp))
  | _=>exact absurd (show false=true from c) lG
 | int i =>
  let⟨t,rfl⟩:=d
  cases y with
  | gi=>cases a;exact PySem.EqNone.eq_int_none (dZ I q (by simp))
  | int j=>let⟨b,rfl⟩:=a;exact eq_int (dZ I q Jt)
  | str j=>let⟨b,rfl⟩:=a;exact PySem.EqMixed.eq_int_str (dZ I q (by simp))
  | _=>exact absurd (show false=true from c) lG
 | str i =>
  let⟨t,rfl⟩:=d
  cases y with
  | gi=>cases a;exact PySem.EqNone.eq_str_none (dZ I q (by simp))
  | bl j=>cases a;exact PySem.EqMixed.eq_str_bool (dZ I q (by simp))
  | int j=>let⟨b,rfl⟩:=a;exact PySem.EqMixed.eq_str_int (dZ I q (by simp))
  | str j=>let⟨b,rfl⟩:=a;exact eq_str (dZ I q Ju)
  | _=>exact absurd (show false=true from c) lG
 | GR i =>
  let⟨t,rfl⟩:=d
  cases y with
  | GR j=>let⟨b,rfl⟩:=a;exact PySem.W.eq_bytes (dZ I q Jv)
  | _=>exact absurd (show false=true from c) lG
 | _=>cases y <;> exact absurd (show false=true from c) lG
def Jw:tH X (compareOp .NotEq) mV:=by
 intro e s f H x y v u Q I d a h;let⟨c,q⟩:=h
 cases x with
 | gi =>
  cases d
  cases y with
  | gi=>cases a;exact PySem.EqNone.ne_none_none (dZ I q (by simp))
  | bl j=>cases a;exact PySem.EqNone.ne_none_bool (dZ I q (by simp))
  | int j=>let⟨b,rfl⟩:=a;exact PySem.EqNone.ne_none_int (dZ I q (by simp))
  | str j=>let⟨b,rfl⟩:=a;exact PySem.EqNone.ne_none_str (dZ I q (by simp))
  | _=>exact absurd (show false=true from c) lG
 | bl i =>
  cases d
  cases y with
  | gi=>cases a;exact PySem.EqNone.ne_bool_none (dZ I q (by simp))
  | bl j=>cases a;exact ne_bool (dZ I q (congrArg not Nj))
  | str j=>let⟨b,rfl⟩:=a;exact PySem.EqMixed.ne_bool_str (dZ I q (by simp))
  | _=>exact absurd (show false=true from c) lG
 | int i =>
  let⟨t,rfl⟩:=d
  cases y with
  | gi=>cases a;exact PySem.EqNone.ne_int_none (dZ I q (by simp))
  | int j=>let⟨b,rfl⟩:=a;exact ne_int (dZ I q (congrArg not Jt))
  | str j=>let⟨b,rfl⟩:=a;exact PySem.EqMixed.ne_int_str (dZ I q (by simp))
  | _=>exact absurd (show false=true from c) lG
 | str i =>
  let⟨t,rfl⟩:=d
  cases y with
  | gi=>cases a;exact PySem.EqNone.ne_str_none (dZ I q (by simp))
  | bl j=>cases a;exact PySem.EqMixed.ne_str_bool (dZ I q (by simp))
  | int j=>let⟨b,rfl⟩:=a;exact PySem.EqMixed.ne_str_int (dZ I q (by simp))
  | str j=>let⟨b,rfl⟩:=a;exact ne_str (dZ I q (congrArg not Ju))
  | _=>exact absurd (show false=true from c) lG
 | GR i =>
  let⟨t,rfl⟩:=d
  cases y with
  | GR j=>let⟨b,rfl⟩:=a;exact PySem.W.ne_bytes (dZ I q (congrArg not Jv))
  | _=>exact absurd (show false=true from c) lG
 | _=>cases y <;> exact absurd (show false=true from c) lG
theorem kM:tH X (compareOp .Lt) (Ua λi j=>.bl (decide (i<j))):=QX λ_ _ _ _ _ _ _ q=>lt_int q
theorem gE:tH X (compareOp .LtE) (Ua λi j=>.bl (decide (i<=j))):=QX λ_ _ _ _ _ _ _ q=>le_int q
theorem Ei:tH X (compareOp .Gt) (Ua λi j=>.bl (decide (j<i))):=QX λ_ _ _ _ _ _ _ q=>gt_int q
theorem Ub:tH X (compareOp .GtE) (Ua λi j=>.bl (decide (j<=i))):=QX λ_ _ _ _ _ _ _ q=>ge_int q
def bh(b:Expr){d:CmpOp}(h:d≠.In:=by decide)(e:d≠.NotIn:=by decide):behindInMarks d b=false:=by
 let a:(d == CmpOp.In)=false:=by cases d <;> first|rfl|exact absurd rfl h
 let c:(d == CmpOp.NotIn)=false:=by cases d <;> first|rfl|exact absurd rfl e
 cases b <;> simp[behindInMarks,a,c]
def mP{d:CmpOp}{r:R2}(e:tH X (compareOp d) r)(f:PE X a ta)(g:PE X b tb)(h:behindInMarks d b=false):PE X (.Compare a [d] [b] pos) (YN r ta tb):=by
 intro c s i H Q I j;exact wpAny_Compare1 (Vx f g I j λv u j x y k l m n q=>e c j i k x y v u Q l m n q) h
def Uc(t:TE):TT:=fun a H Q=>t a H λx a=>dW x a Q
def aV{d:CmpOp}{r:R2}(g:tH X (compareOp d) r)(h:PE X a ta)(i:PE X b tb)(j:behindInMarks d b=false):PT X (.Compare a [d] [b] pos) (Uc (YN r ta tb)):=by
 intro e s f H Q I k
 refine wpAny_isTrue_Compare1 (dB (h e s f H _ I k) λv k ⟨x,l,m,n,o⟩=>dB (i e k f l _ m o) λu k ⟨y,l,m,o,p⟩ =>
  dB (g e k f l x y v u _ m n o p) λc e ⟨f,q,t,w,k,z,A⟩=>?_) j
 subst z;cases w;exact wpAny_truthy_bool ⟨q,t,A⟩
def Vz(r d:R2)(ta tb tc:TE):TE:=fun a H Q=>ta a H λx b=>tb a b λy b=>r x y b λz b=>∃ k,z=.bl k/\
 (if k=true then tc a b λa c=>d y a c Q else Q (.bl false) b)
theorem pM{f g:CmpOp}{r h:R2}(m:tH X (compareOp f) r)(n:tH X (compareOp g) h)(o:PE X a ta)(p:PE X b tb)(q:PE X c tc)
  (t:lastMarks [f,g] [b,c]=false:=by with_unfolding_all rfl):PT X (.Compare a [f,g] [b,c] pos) (Uc (Vz r h ta tb tc)):=by
 intro d s e H Q I v
 refine isTrue_chain (dB (o d s e H _ I v) λv w ⟨x,z,A,B,C⟩=>test_link (dB (p d w e z _ A C) λu w ⟨y,z,A,i,C⟩ =>
  dB (m d w e z x y v u _ A B i C) λv D ⟨z,j,k,F,G,J,l⟩=>?_)) t
 subst J;cases F;refine wpAny_truthy_bool ?_
 cases G with
 | false =>
  let⟨v,D,L⟩:=l;cases D;exact ite_ff ⟨j,k,L⟩
 | true =>
  refine ite_tt (test_last (dB (q d D e j _ k l) λj k ⟨l,v,w,x,z⟩=>dB (n d k e v y l u j _ w i x z) λe i d=>?_));let⟨e,D,L,M,i,N,O⟩:=d;subst N;cases M;exact wpAny_truthy_bool ⟨D,L,O⟩
def YR(K:Frag)(x:V)(H:Hp)(k:Bool):Prop :=
 match x with
 | .gi=>k=false
 | .bl b=>k=b
 | .int i=>k=(i != 0)
 | .str y=>↑y<=sizeLine/\k=((↑y:Int) != 0)
 | .GR y=>y.size<=sizeLine/\k=((y.size:Int) != 0)
 | .ref p=>(∃ a,bI K H p a/\k=!a.isEmpty)\/(∃ a,dI K H p a/\k=!a.isEmpty)\/∃ a,H p=⇑(.dK a)/\k=!a.isEmpty
 | _=>False
def G0{d:Type}{e:List (d × V)}{f:List (d × Value)}(r:KV e f):(!f.isEmpty)=!e.isEmpty:=by
 cases r <;> rfl
def xZ{d:List V}{e:Wp}(r:cD d e):(!e.toArray.isEmpty)=!d.isEmpty:=by
 cases r <;> simp
def r9:(sizeLine:Nat)<2^63:=by rw[sizeLine_eq];decide
def VA:mB X (λx H Q=>∃ k,YR X.K x H k/\Q k H):=by
 intro n s o H x v Q I d l;let⟨k,e,q⟩:=l;let l:=r9;let l:sizeLine=16777216:=sizeLine_eq
 cases x with
 | gi =>
  cases d;let a:k=false:=e;subst a;exact truthy_none ⟨H,I,q⟩
 | bl b =>
  cases d;let a:k=b:=e;subst a;exact wpAny_truthy_bool ⟨H,I,q⟩
 | int i =>
  let⟨t,rfl⟩:=d;let a:k=(i != 0):=e;subst a;exact PySem.P.truthy_int ⟨H,I,q⟩
 | str y =>
  let⟨t,rfl⟩:=d;obtain⟨c,a⟩:↑y<=sizeLine/\k=((↑y:Int) != 0):=e;subst a;exact PySem.P.truthy_str ∅ ⟨H,I.tok _,q⟩
 | GR y =>
  let⟨t,rfl⟩:=d;obtain⟨c,a⟩:y.size<=sizeLine/\k=((y.size:Int) != 0):=e;subst a;exact PySem.W.truthy_bytes ∅ ⟨H,I.tok _,q⟩
 | ref p =>
  cases d;let a:(∃ c,bI X.K H p c/\k=!c.isEmpty)\/(∃ c,dI X.K H p c/\k=!c.isEmpty)\/∃ f,H p=⇑(.dK f)/\k=!f.isEmpty:=e;rcases a with ⟨c,g,a⟩|⟨c,g,a⟩|⟨f,g,a⟩
  ·subst a;let⟨m,r,h,i⟩:=I.list g;let j:=↑r;exact wpAny_truthy_list h.isList (by simp only[gZ];lia) ⟨H,I.tok _,by rw[xZ r];exact q⟩
  ·subst a;let⟨m,r,h,i⟩:=I.tuple g;let j:=↑r;exact truthy_tuple h (by simp only[gZ];lia) ⟨H,I.tok _,by rw[xZ r];exact q⟩
  ·subst a;obtain⟨i,c,a,r,m⟩:↑f<=sizeLine/\(p == sysModules)=false/\∃ a,KV f a/\s.heap.DictOf (ff X.prog X.w) p a:=I.hok p _ g;let j:↑f=↑a:=Paired.length r;exact wpAny_truthy_dict c m ∅ ⟨H,I.tok _,by rw[G0 r];exact q⟩
 | _=>exact (show False from e).elim
theorem jt(g:PE X a ta)(h:∀ e,isTrue a X.env e=(do let v ← e;standAt a.pos;holding [v] (truthy v))) :
  PT X a (fun d H Q=>ta d H λx f=>∃ k,YR X.K x f k/\Q k f):=by
 intro b s d H Q I c;exact isTrue_plain (dB (g b s d H _ I c) λv c ⟨x,i,j,l,m⟩=>VA b c d i x v Q j l m) (h _)
def vals1{x:V}{d:Wp}(r:cD [x] d):∃ u,d=[u]/\RelV x u:=by
 cases r with
 | cons a b=>cases b;exact⟨Y,a⟩
def vals2{x y:V}{d:Wp}(r:cD [x,y] d):∃ u e,d=[u,e]/\RelV x u/\RelV y e:=by
 cases r with
 | cons a b =>
  cases b with
  | cons c f=>cases f;exact⟨E,1,a,c⟩
def lI(e:X.calm=true):jm X (.builtin "max") (λd H Q=>∃ i j,d=[.int i,.int j]/\Q (.int (if j > i then j else i)) H):=by
 intro a s b H d c Q I r h;let⟨i,j,rfl,q⟩:=h;let⟨u,f,rfl,⟨t,rfl⟩,⟨g,rfl⟩⟩:=vals2 r;refine max_two_ints (I.ok.hd e) λa b k=>⟨_,H,I.kept k,?_,q⟩;by_cases a:j > i
 ·rw[if_pos a,if_pos a];exact⟨Y⟩
 ·rw[if_neg a,if_neg a];exact⟨Y⟩
def nu(e:X.calm=true):jm X (.builtin "min") (λd H Q=>∃ i j,d=[.int i,.int j]/\Q (.int (if j<i then j else i)) H):=by
 intro a s b H d c Q I r h;let⟨i,j,rfl,q⟩:=h;let⟨u,f,rfl,⟨t,rfl⟩,⟨g,rfl⟩⟩:=vals2 r;refine min_two_ints (I.ok.hd e) λa b k=>⟨_,H,I.kept k,?_,q⟩;by_cases a:j<i
 ·rw[if_pos a,if_pos a];exact⟨Y⟩
 ·rw[if_neg a,if_neg a];exact⟨Y⟩
end
end _L2
namespace _L2
open Spec Rows
structure G1(h:Heap)(x dx C:Addr)(mA:X1):Prop where
 obj:h.get? x=⇑(instObj C dx)
 ns:h.Ns1 dx mA
 ne:dx≠x
def KS{h:Heap}{a:X1}(n:h.Ns1 d a):∃ b,h.get? d=⇑b/\∀ name,lookIn name b=⇑(a name):=by
 let⟨o,c,k,f,g,i,_,j⟩:=n;refine⟨o,f,λname=>?_⟩;let e:=j name;unfold nsFind findBy at e;rw[← Array.find?_toList]at e;unfold lookIn;rw[g];dsimp only;split
 ·rename_i y q;rw[q]at e;exact congrArg some e
 ·rename_i q;rw[q]at e
  let f:c.toList.any (·.refKey)=false:=by
   rw[List.any_eq_false];intro y g;let⟨z,t,j⟩:=i y (Array.mem_toList_iff.mp g);simp[DictEntry.refKey,j]
  let g:¬ c.toList.any (·.refKey)=true:=by rw[f];exact lG
  rw[if_neg g];exact congrArg some e
theorem G1.look{h:Heap}{x:Addr}{b:X1}(I:G1 h x c C b):∃ a,InstAt h x (instObj C c) C (⇑a)/\∀ name,lookIn name a=⇑(b name) :=
 let ⟨a,d,e⟩:=KS I.ns
 ⟨a,⟨I.obj,V,d⟩,e⟩
section
variable {prog:Program} {w:World} {A:Around} {E:ZB} {s:Shared} {K:Frag} {x dx C f:Addr} {mA:X1} {name:Str} {v:Value}
theorem QY{a:Bool}{Q:ZB}(b:K.In s.heap)(I:G1 s.heap x dx C mA)(c:plainGet K C name=true)(d:hasDictIn K C=true)
  (e:findIn K ↥C name=⇑none) (g:mA name=⇑v) (h:handedIn v=true) (i:Q v { s with toks:=s.toks+1 }) :
  wpAny (model prog w) A (getAttr ↥x name a) Q E s:=by
 let⟨j,J,f⟩:=I.look;exact PySem.W.get_value b J (plainGet_of c).1 (PySem.W.findObj_own d e rfl (by rw[f,g])) h i
theorem Nk{b:Sem Bool}{Q:Value × List Value->Shared->Prop}(c:K.In s.heap)(I:G1 s.heap x dx C mA)(a:plainGet K C name=true)
  (d:findIn K ↥C name=⇑(⇑↥f)) (e:isFn K ↥f=true) (g:mA name=none) (h:Q (.ref f,[↥x]) s) :
  wpAny (model prog w) A (getMethod ↥x name b) Q E s:=by
 let⟨i,J,j⟩:=I.look;exact PySem.W.method_fn c J (plainGet_of a).1 (plainGet_of a).2 d (beq_iff_eq.mp e) (by show (lookIn name i).map (·.isSome)=⇑false;rw[j,g];rfl) h
theorem QZ{c:Uf}{Q:Unit->Shared->Prop}(b:K.In s.heap)(I:G1 s.heap x dx C mA)
  (g:findIn K ↥C "__setattr__"=⇑(⇑(.builtin "object.__setattr__"))) (h:plainOver K C=true) (i:takerIn K C name=⇑none) (j:hasDictIn K C=true)
  (k:PySem.Within mA c) (o:↑c<=sizeLine)
  (l:∀ a,G1 a x dx C (λy=>if y=name then some v else mA y)->Heap.SameBut dx s.heap a->Q () { s with heap:=a,toks:=s.toks+2 }) :
  wpAny (model prog w) A (setAttr ↥x name v) Q E s:=by
 let⟨d,J,e⟩:=I.look;refine PySem.W.set_plain b J g (PySem.W.osa_open (s:={ s with toks:=s.toks+1 }) (r:=none) b J h i λd=>?_);let⟨f,d,e⟩:=PySem.W.any_some j;let f:s.heap.get? x=some ⟨↥C,⇑dx,.plain,#[]⟩:=I.obj;refine wpAny_bind (wpAny_pure (wpAny_bind (wpAny_bind (wpAny_loadPart f (wpAny_bind (PySem.W.Looks.here (s:={ s with toks:=s.toks+1 }) (PySem.W.looks_clsIn b d) ?_))))));rw[e];refine wpAny_pure (a:=⇑dx) (wpAny_bind (wpAny_pure (wpAny_bind ?_)));refine wpAny_nsSet1 (s:={ s with toks:=s.toks+1 }) I.ns λa d e=>?_;let⟨p,q,r,f,m,n⟩:=d.count (PySem.Within.cons name v k);refine wpAny_bind (wpAny_lookBehind f (by rw[m];exact pastItsLine_dict (fX n (by rw[jH];lia))) ?_);exact wpAny_pure (l _ ⟨(e.2 _ (Ne.symm I.ne)).trans I.obj,d,I.ne⟩ e)
theorem Nl{d:XV}{a:Wp}{b:List (Str × Value)}(c:K.In s.heap)(e:makesIn K C=true)
  (g:findIn K ↥C "s"=⇑(⇑↥f)) (h:typeIn K ↥f=⇑(.type "function"))
  (i:codeAny (model prog w) (A.under (.builtin "N" ⟨↥C::a,b⟩)) (.call ↥f ⟨.ref (s⁻¹+1)::a,b⟩) (PySem.W.InitBack (s⁻¹+1) d)
   { s with heap:=(s.heap.push emptyDict).push (instObj C s⁻¹) }) :
  codeAny (model prog w) A (.call ↥C ⟨a,b⟩) d s:=by
 let⟨j,k,l,t,m⟩:=s;exact PySem.W.make_core (PySem.W.makes_of c e) (PySem.W.looks_findIn c g) (λself=>PySem.W.bind_fn c self h) (.inl rfl) i
end
def eV(f:Str)(v:V):List (Str × V)->List (Str × V)
 | []=>[(f,v)]
 | (g,x)::r=>if g=f then (g,v)::r else (g,x)::eV f v r
theorem wc(f g:Str)(v:V):∀ c:List (Str × V),(eV f v c).lookup g=if g=f then some v else c.lookup g
 | []=>by
  show List.lookup g [(f,v)]=_;by_cases h:g=f
  ·let a:(g == f)=true:=beq_iff_eq.mpr h;simp only[List.lookup,a,if_pos h]
  ·let a:(g == f)=false:=beq_eq_false_iff_ne.mpr h;simp only[List.lookup,a,if_neg h]
 | (k,x)::r=>by
  let d:=wc f g v r;rw[show eV f v ((k,x)::r)=(if k=f then (k,v)::r else (k,x)::eV f v r) from rfl];by_cases b:k=f
  ·rw[if_pos b];by_cases h:g=k
   ·let a:(g == k)=true:=beq_iff_eq.mpr h;simp only[List.lookup,a,if_pos (h.trans b)]
   ·let a:(g == k)=false:=beq_eq_false_iff_ne.mpr h;simp only[List.lookup,a,if_neg (λe:g=f=>h (e.trans b.symm))]
  ·rw[if_neg b];by_cases h:g=k
   ·let a:(g == k)=true:=beq_iff_eq.mpr h;simp only[List.lookup,a,if_neg (λe:g=f=>b (h.symm.trans e))]
   ·let a:(g == k)=false:=beq_eq_false_iff_ne.mpr h;simp only[List.lookup,a];exact d
theorem uZ(f:Str)(v:V):∀ a:List (Str × V),f∈(eV f v a).map (·.1)/\∀ g,g∈a.map (·.1)->g∈(eV f v a).map (·.1)
 | []=>⟨by simp[eV],λg h=>by simp at h⟩
 | (k,x)::r=>by
  let⟨c,d⟩:=uZ f v r;rw[show eV f v ((k,x)::r)=(if k=f then (k,v)::r else (k,x)::eV f v r) from rfl];by_cases b:k=f
  ·rw[if_pos b];subst b;exact⟨by simp,λg h=>by simpa using h⟩
  ·rw[if_neg b];refine⟨?_,λg h=>?_⟩
   ·rw[jo];exact jT _ c
   ·rw[jo]at h ⊢;rcases List.mem_cons.mp h with e|e
    ·exact List.mem_cons.mpr (.inl e)
    ·exact jT _ (d g e)
theorem we(f:Str)(v:V):∀ a:List (Str × V),↑(eV f v a)<=↑a+1
 | []=>by simp[eV]
 | (k,x)::r=>by
  let b:=we f v r;rw[show eV f v ((k,x)::r)=(if k=f then (k,v)::r else (k,x)::eV f v r) from rfl];by_cases b:k=f
  ·rw[if_pos b,jH,jH];lia
  ·rw[if_neg b,jH,jH];lia
def oW.some_of{v:V}{o:WP}(r:oW (⇑v) o):∃ u,o=⇑u/\RelV v u:=by
 cases o with
 | none=>exact (show False from r).elim
 | some u=>exact⟨u,1,r⟩
def oW.none_of{o:WP}(r:oW none o):o=none:=by
 cases o with
 | none=>rfl
 | some u=>exact (show False from r).elim
def KU{v:V}{u:Value}(r:RelV v u):handedIn u=true:=by
 cases v with
 | gi=>cases (show u=Value.none from r);rfl
 | bl b=>cases (show u=Value.bool b from r);rfl
 | int i=>let⟨t,e⟩:=(show ∃ t,u=Value.int i t from r);cases e;rfl
 | str x=>let⟨t,e⟩:=(show ∃ t,u=Value.str x t from r);cases e;rfl
 | GR b=>let⟨t,e⟩:=(show ∃ t,u=Value.bytes b t from r);cases e;rfl
 | T3 b=>let⟨t,e⟩:=(show ∃ t,u=Value.float b t from r);cases e;rfl
 | ref a=>cases (show u=Value.ref a from r);rfl
 | ty n=>cases (show u=Value.type n from r);rfl
section
variable {P:Program} {w:World} {H H':Hp} {h h':Heap} {a C dx:Addr} {fs X6:List (Str × V)}
def xK(c:tG P w H h)(e:H a=⇑(.ins C dx fs)):∃ b,G1 h a dx C b/\(∀ f,oW (fs.lookup f) (b f))/\PySem.Within b (fs.map (·.1))/\↑fs<=1000/\H dx=⇑(.own a):=by
 let⟨d,z,g,i,b,n,r,q⟩:=(show fR P w H h a (.ins C dx fs) from c a _ e);exact⟨b,⟨i,n,g⟩,r,q,z,d⟩
end
structure MN(K:Frag)(C:Addr):Prop where
 pg:plainGet K C Str.empty=true
 hd:hasDictIn K C=true
 po:plainOver K C=true
 sa:findIn K ↥C "__setattr__"=⇑(⇑(.builtin "object.__setattr__"))
theorem MN.get{K:Frag}(c:MN K C)(f:Str):plainGet K C f=true:=c.pg
def gn(K:Frag)(C:Addr)(f:Str):Prop:=findIn K ↥C f=⇑none
def gn.YS{K:Frag}{f:Str}(n:gn K C f):takerIn K C f=⇑none:=by
 unfold takerIn;rw[show findIn K ↥C f=⇑none from n];rfl
structure Nm(K:Frag)(C:Addr)(m:Str)(f:Addr):Prop where
 at_:findIn K ↥C m=⇑(⇑↥f)
 fn:isFn K ↥f=true
 kp:keepIn K ↥f=true
section
variable {X:Cx} {ao:List (Addr × Obj)} {σ:St} {H:Hp} {s:Shared} {a C dx:Addr} {c:List (Str × V)} {f:Str} {v:V} {A:Around} {E:ZB}
theorem ya{g:Bool}{Q:ZB}(I:Inv X ao σ H s)(h:H a=⇑(.ins C dx c))(b:MN X.K C)(n:gn X.K C f)(l:c.lookup f=⇑v)
  (i:∀ u d,Inv X ao σ H d->RelV v u->Q u d):wpAny (model X.prog X.w) A (getAttr ↥a f g) Q E s:=by
 let⟨j,O,r,_,_,_⟩:=xK I.hok h;let⟨u,k,e⟩:=oW.some_of (v:=v) (o:=j f) (by rw[← l];exact r f);exact QY I.vZ O (b.get f) b.hd n k (KU e) (i u _ (I.tok _) e)
theorem yb{m:Str}{g:Addr}{b:Sem Bool}{Q:Value × List Value->Shared->Prop}(I:Inv X ao σ H s)(e:H a=⇑(.ins C dx c))(d:MN X.K C)(k:Nm X.K C m g)(l:c.lookup m=none)
  (h:Q (.ref g,[↥a]) s):wpAny (model X.prog X.w) A (getMethod ↥a m b) Q E s:=by
 let⟨f,O,r,_,_,_⟩:=xK I.hok e;let i:f m=none:=oW.none_of (by rw[← l];exact r m);exact Nk I.vZ O (d.get m) k.at_ k.fn i h
theorem yc{y:V}{u:Value}{Q:Unit->Shared->Prop}(I:Inv X ao σ H s)(e:H a=⇑(.ins C dx c))(b:MN X.K C)(n:gn X.K C f)(w:↑c<1000)(k:RelV y u)
  (l:∀ h,Inv X ao σ (aL H a (.ins C dx (eV f y c))) h->Q () h):wpAny (model X.prog X.w) A (setAttr ↥a f u) Q E s:=by
 let⟨i,O,r,j,_,g⟩:=xK I.hok e;let d:↑(c.map (·.1))<=sizeLine:=by rw[cC,sizeLine_eq];lia
 refine QZ I.vZ O b.sa b.po n.YS b.hd j d λm d p=>l _ ?_;have t:∃ o,m.get? dx=⇑o:=let ⟨o,E,m,_⟩:=d.ns;⟨o,m⟩;refine I.write (x:=a) (e:=dx) (by rw[e];exact True.intro) (.inr g) (λm q o z=>(p.2 m o).trans z) t ?_;refine⟨by rw[aJ O.ne];exact g,?_,O.ne,d.obj,_,d.ns,λg=>?_,λg d=>?_⟩
 ·have:=we f y c;lia
 ·show oW ((eV f y c).lookup g) (if g=f then some u else i g);rw[wc];by_cases q:g=f
  ·rw[if_pos q,if_pos q];exact k
  ·rw[if_neg q,if_neg q];exact r g
 ·by_cases q:g=f
  ·rw[q];exact (uZ f y c).1
  ·refine (uZ f y c).2 g (j g λz=>d ?_);show (if g=f then some u else i g)=none;rw[if_neg q];exact z
theorem Inv.made(I:Inv X ao σ H s):Inv X ao σ (aL (aL H s⁻¹ (.own (s⁻¹+1))) (s⁻¹+1) (.ins C s⁻¹ []))
  { s with heap:=(s.heap.push emptyDict).push (instObj C s⁻¹) }:=by
 let a:(s.heap.push emptyDict).get? s⁻¹=⇑emptyDict:=Heap.get?_push_size s.heap rfl
 let b:((s.heap.push emptyDict).push (instObj C s⁻¹)).get? (s⁻¹+1)=⇑(instObj C s⁻¹):=by
  have:=Heap.get?_push_size (s.heap.push emptyDict) (o:=instObj C s⁻¹) rfl;rwa [Heap.size_push]at this
 let c:(s.heap.push emptyDict).Ns s⁻¹ (λ_=>none):=⟨emptyDict,#[],_,a,1,(λe d=>absurd d (by simp)),λ_=>rfl⟩;let d:=I.laid (a:=s⁻¹) (o:=.own (s⁻¹+1)) (h':=s.heap.push emptyDict) (t':=s.toks) (λe u q=>Heap.get?_push_of_some _ q) (d7 _) ⟨_,a⟩;refine d.laid (a:=s⁻¹+1) (o:=.ins C s⁻¹ []) (t':=s.toks) (λe u q=>Heap.get?_push_of_some _ q) (Nat.le_of_eq (Heap.size_push _ _)) ?_;let a:s⁻¹≠s⁻¹+1:=jc (Nat.lt_succ_self _);refine⟨by rw[aJ a,af],ic _,a,b,λ_=>none,(Heap.Ns1.of_empty c).at λo q=>Heap.get?_push_of_some _ q,λ_=>True.intro,λy f=>absurd rfl f⟩
theorem Q0{d:Program}{w:World}{b:Env}{e:Expr}{f:Str}{s:Shared}{Q:ZB}(g:attributeBase e f b (eval e b)=eval e b)
  (h:wpAny (model d w) A (eval e b) (λo i=>wpAny (model d w) A (getAttr o f true) Q E i) E s):wpAny (model d w) A (eval (.Attribute e f j) b) Q E s :=
 Attribute_any_ h (by rw[arm_eval_Attribute,g])
end
inductive YT(K:Frag)(f:Str)(x:V)(H:Hp)(Q:VK):Prop
 | mk (a C c:Addr) (b:List (Str × V)) (v:V) (_:x=↥a) (_:H a=⇑(.ins C c b)) (_:MN K C) (_:gn K C f) (_:b.lookup f=⇑v) (_:Q v H):YT K f x H Q
def mY(K:Frag)(a:TE)(f:Str):TE:=fun b H Q=>a b H λx b=>YT K f x b Q
def m3(K:Frag)(g h:TE)(f:Str):TS:=λD a H=>h a H λy b=>g a b λx d=>∃ b C e c,x=↥b/\d b=⇑(.ins C e c)/\MN K C/\gn K C f/\↑c<1000/\
 D.nx a (aL d b (.ins C e (eV f y c)))
def YU(a:Cx)(d:Operator)(e:V->V->Hp->VK->Prop):Prop :=
 ∀ (b:List (Addr × Obj)) (s:Shared) (c:St) (H:Hp) (x y:V) (u v:Value) (Q:VK),Inv a b c H s->RelV x u->RelV y v->e x y H Q->wpAny (model a.prog a.w) a.A (inplaceOp d u v) (EP a b c Q) a.xe s
def Q3(K:Frag)(g h:TE)(i:V->V->Hp->VK->Prop)(f:Str):TS:=λD b H=>g b H λx c=>∃ a C e d v,x=↥a/\c a=⇑(.ins C e d)/\MN K C/\gn K C f/\d.lookup f=⇑v/\
 h b c λy c=>i v y c λz d=>∃ e c,d a=⇑(.ins C e c)/\c.length<1000/\D.nx b (aL d a (.ins C e (eV f z c)))
section
variable {X:Cx} {o e value:Expr} {f:Str} {pos iV KW:Pos} {ta tv:TE}
def dh(a:PE X e ta)(b:attributeBase e f X.env (eval e X.env)=eval e X.env):PE X (.Attribute e f pos) (mY X.K ta f):=by
 intro c s d H Q I h;refine Q0 b (dB (a c s d H _ I h) λu d c=>?_);let⟨x,g,i,j,k,C,d,h,v,l,m,n,o,p,q⟩:=c;subst l;obtain rfl:u=Value.ref k:=j;exact ya i m n o p λh i c d=>⟨v,g,c,d,q⟩
def iT(c:PE X o ta)(d:PE X value tv)(g:swapsWith value (⇑(.Attribute o f iV)) pos.line X.env=pure false):PS X (.Assign [.Attribute o f iV] value pos) (m3 X.K ta tv f):=by
 intro b s a H D I h;refine plainObj_wpAny_Assign_Attribute (dB (d b s a H _ I h) λi e h=>?_) g;let⟨y,i,j,k,q⟩:=h;refine dB (c b e a i _ j q) λl e b=>?_;let⟨e,h,m,n,p,C,i,j,r,t,u,v,w,x⟩:=b;subst r;obtain rfl:l=Value.ref p:=n;exact yc m t u v w k λe b=>⟨a,_,b,x⟩
def u9{c:Operator}{d:V->V->Hp->VK->Prop}(g:PE X o ta)(h:PE X value tv)(i:YU X c d):PS X (.AugAssign (.Attribute o f KW) c value pos) (Q3 X.K ta tv d f):=by
 intro b s a H D I j;refine wpAny_AugAssign_AttributeAny (dB (g b s a H _ I j) λk x j=>?_);let⟨x,l,m,p,q,C,y,z,v,r,t,e,n,u,w⟩:=j;subst r;obtain rfl:k=Value.ref q:=p;refine ya m t e n u λu j k m=>dB (h b j a l _ k w) λj k ⟨y,l,p,q,r⟩=>dB (i b k a l v y u j _ p m q r) λj k b=>?_;let⟨z,q,j,k,r,t,l,m,p⟩:=b;exact yc j l e n m k λe b=>⟨a,_,b,p⟩
end
section
variable {X:Cx} {ao:List (Addr × Obj)} {σ:St} {H:Hp} {s:Shared} {A:Around} {E:ZB} {Q:ZB} {c:Value} {b:Bool}
inductive jZ(K:Frag)(H:Hp):V->Value->Prop where
 | gi:jZ K H .gi (.type "NoneType")
 | bl (x:Bool):jZ K H (.bl x) (.type "bool")
 | int (i:Int):jZ K H (.int i) (.type "int")
 | str (x:Str):jZ K H (.str x) (.type "str")
 | T3 (x:UInt64):jZ K H (.T3 x) (.type "float")
 | lst {a:Addr} {d:List V} (e:H a=⇑(.lst d)):jZ K H ↥a (.type "g")
 | Jl {a:Addr} {o:Obj} {d:List V} (e:H a=⇑(.Jl o (.lst d))):jZ K H ↥a (.type "g")
 | tup {a:Addr} {d:List V} (e:H a=⇑(.tup d)):jZ K H ↥a (.type "q")
 | dK {a:Addr} {f:List (d9 × V)} (e:H a=⇑(.dK f)):jZ K H ↥a (.type "4")
 | dT {a:Addr} {f:List (List d9 × V)} (e:H a=⇑(.dT f)):jZ K H ↥a (.type "4")
 | ins {a C g:Addr} {h:List (Str × V)} (e:H a=⇑(.ins C g h)) (j:MN K C) (k:findIn K ↥C "__class__"=⇑(⇑(.builtin "object.__class__")))
   (l:PySem.W.specialIn K (.builtin "object.__class__") "__get__"=⇑(⇑(.builtin "getset_descriptor.__get__"))) (m:PySem.W.takesIn K (.builtin "object.__class__")=⇑true)
   (n:mroIn K C (.type "object")=⇑true):jZ K H ↥a ↥C
theorem KY{x:V}{u t:Value}(I:Inv X ao σ H s)(d:RelV x u)(l:jZ X.K H x t)(e:kitOne X.K t c=⇑b)(h:∀ m,Q (.bool b) { s with toks:=m }) :
  wpAny (model X.prog X.w) A (call (.builtin "isinstance") [u,c]) Q E s:=by
 cases l with
 | gi=>cases (show u=Value.none from d);exact kia_one PySem.W.kitx_none I.vZ True.intro e (λz=>nomatch z) h
 | bl y=>cases (show u=Value.bool y from d);exact kia_one PySem.W.kitx_bool I.vZ True.intro e (λz=>nomatch z) h
 | int i=>let⟨t,q⟩:=(show ∃ t,u=Value.int i t from d);cases q;exact kia_one PySem.W.kitx_int I.vZ True.intro e (λz=>nomatch z) h
 | str y=>let⟨t,q⟩:=(show ∃ t,u=Value.str y t from d);cases q;exact kia_one PySem.W.kitx_str I.vZ True.intro e (λz=>nomatch z) h
 | T3 y=>let⟨t,q⟩:=(show ∃ t,u=Value.float y t from d);cases q;exact kia_one PySem.W.kitx_float I.vZ True.intro e (λz=>nomatch z) h
 | @lst a i f =>
  cases (show u=Value.ref a from d);let⟨_,_,n,_,g⟩:=(show fR X.prog X.w H s.heap a (.lst i) from I.hok a _ f);exact kia_one kitx_list I.vZ ⟨_,g,1⟩ e (λz=>nomatch z) h
 | @Jl a j i f =>
  cases (show u=Value.ref a from d);let⟨_,_,_,n,_,g⟩:=(show fR X.prog X.w H s.heap a (.Jl j (.lst i)) from I.hok a _ f);exact kia_one kitx_list I.vZ ⟨_,g,1⟩ e (λz=>nomatch z) h
 | @tup a i f =>
  cases (show u=Value.ref a from d);let⟨_,_,_,p⟩:=(show fR X.prog X.w H s.heap a (.tup i) from I.hok a _ f);let⟨o,g,j,_⟩:=p;exact kia_one PySem.W.kitx_tuple I.vZ ⟨o,g,j⟩ e (λz=>nomatch z) h
 | @dK a k f =>
  cases (show u=Value.ref a from d);let⟨_,_,i,_,p⟩:=(show fR X.prog X.w H s.heap a (.dK k) from I.hok a _ f);let⟨o,n,q,g,j,_⟩:=p;exact kia_one kitx_dict I.vZ ⟨o,g,j.1⟩ e (λz=>nomatch z) h
 | @dT a k f =>
  cases (show u=Value.ref a from d);let⟨_,_,i,_,o,n,q,g,j,_⟩:=(show fR X.prog X.w H s.heap a (.dT k) from I.hok a _ f);exact kia_one kitx_dict I.vZ ⟨o,g,j.1⟩ e (λz=>nomatch z) h
 | @ins a C n o f cl g i j k =>
  cases (show u=Value.ref a from d);let⟨n,O,_⟩:=xK I.hok f;let⟨f,J,_⟩:=O.look;exact kia_one (PySem.W.kitx_own (cl.get _) cl.hd g i j k) I.vZ J e (λz=>nomatch z) h
end
end _L2
namespace _L2
open Spec Rows
structure jd(k:Nat)(A:Around):Prop where
 hd:A.handled=none
 dp:A.depth+3*k+5<recursionLimit
 un:A.units+16*k+200<cLine
theorem jd.mono{j k:Nat}{A:Around}(r:jd k A)(h:j<=k):jd j A:=⟨r.hd,by have:=r.dp;lia,by have:=r.un;lia⟩
theorem jd.deeper{k:Nat}{A:Around}(r:jd (k+1) A)(a:Env):jd k (A.deeper a) :=
 ⟨r.hd,by have:=r.dp;show A.depth+1+3*k+5<_;lia,by have:=r.un;show A.units+3+16*k+200<_;lia⟩
def G2{A:Around}{a:Wp}{b:List (Str × Value)}:(A.under (.builtin "N" ⟨↥C::a,b⟩)).depth=A.depth+1:=by
 first|rfl|simp[Around.under,Code.weight,Code.isCreation,Code.isGuard,Code.isCaller,Code.frames,Code.isFrame,guardIds]
def G3{A:Around}{a:Wp}{b:List (Str × Value)}:(A.under (.builtin "N" ⟨↥C::a,b⟩)).units=A.units+1:=by
 first|rfl|simp[Around.under,Code.cUnits,Code.frames,Code.isFrame]
theorem jd.make{k:Nat}{A:Around}(r:jd (k+1) A)(C:Addr)(a:Wp)(b:List (Str × Value)):jd k (A.under (.builtin "N" ⟨↥C::a,b⟩)) :=
 ⟨r.hd,by have:=r.dp;rw[G2];lia,by have:=r.un;rw[G3];lia⟩
def jd.depth{k:Nat}{A:Around}(r:jd k A):A.depth<recursionLimit:=by have:=r.dp;lia
def jd.units{k:Nat}{A:Around}(r:jd k A):A.units+64<cLine:=by have:=r.un;lia
def yd:TA:=λ_ H Q=>Q [] H
def Nn(b:TE)(c:TA):TA:=fun a H Q=>b a H λx d=>c a d λa d=>Q (x::a) d
section
variable {X:Cx} {e:Expr} {es:List Expr} {te:TE} {t:TA} {pos:Pos}
theorem ah:PA X [] yd:=λ_ _ _ _ H Q I h=>Calls.spliced_nil ⟨[],H,I,.nil,h⟩
def aa(c:PE X e te)(d:PA X es t)(f:starEach (e::es) X.env=(false,eval e X.env)::starEach es X.env:=by rfl):PA X (e::es) (Nn te t):=by
 intro pos a s b H Q I h;rw[f];show wpAny _ _ (spliced ((false,eval e X.env)::backTo pos (starEach es X.env))) _ _ s;refine Calls.spliced_cons (dB (c a s b H _ I h) λu g h=>?_);let⟨x,i,j,k,l⟩:=h;exact dB (d pos a g b i _ j l) λj l ⟨a,b,g,h,i⟩=>⟨x::a,b,g,.cons k h,i⟩
def m4(t:TA):TE:=fun a H Q=>t a H λa b=>↑a<=sizeLine/\∀ p,b p=none->Q ↥p (aL b p (.tup a))
def KZ(t:TA):TE:=fun a H Q=>t a H λa b=>↑a<=sizeLine/\∀ p,b p=none->Q ↥p (aL b p (.lst a))
def cT{d}(h:PA X es t):PE X (.Tuple es d pos) (m4 t):=by
 intro a s b H Q I c;refine wpAny_Tuple_spliced (dB (h pos a s b H _ I c) λf a ⟨g,b,c,r,z,q⟩=>⟨by rw[← ↑r];exact z,?_⟩);let i:b a⁻¹=none:=c.hok.fresh (d7 _);refine⟨↥a⁻¹,aL b a⁻¹ (.tup g),c.laid (t':=a.toks) (λb u e=>Heap.get?_push_of_some _ e) (d7 _) ?_,1,q _ i⟩;exact⟨z,f,r,⟨_,Heap.get?_push_size _ rfl,1,Y⟩⟩
def bK(h:PA X es t):PE X (.List es pos) (KZ t):=by
 intro a s b H Q I c;refine wpAny_List_spliced (dB (h pos a s b H _ I c) λd a ⟨f,b,c,r,z,q⟩=>⟨by rw[← ↑r];exact z,?_⟩);let g:b a⁻¹=none:=c.hok.fresh (d7 _);refine⟨↥a⁻¹,aL b a⁻¹ (.lst f),c.laid (t':=a.toks) (λb u e=>Heap.get?_push_of_some _ e) (d7 _) ?_,1,q _ g⟩;exact⟨z,d,0,r,Heap.get?_push_size _ rfl⟩
end
abbrev Sp:=List V->Hp->VK->XK->Prop
abbrev K0:=List Env->Hp->Shared->XK->Value->Shared->Prop
structure G4(P:Program)(w:World)(K:Frag)(mg:X1)(zt:Heap)(A:Around)(zn:List Env)(s:Shared)(H:Hp):Prop where
 frames:A.frames=⇑zn
 mod:Mod K mg zt
 bs:∀ b o,zt.get? b=⇑o->s.heap.get? b=⇑o/\H b=none
 T5:zt.objs.size<=s⁻¹
 wZ:s.heap.FunFrames zt zn
 Vl:∀ b∈M7 zn,H b=none
 hok:tG P w H s.heap
 bare:AllBare s.gens
def CE(c:List Env)(P:Program)(w:World)(H:Hp)(s:Shared)(Q:VK)(u:Value)(a:Shared):Prop :=
 ∃ v b,a.os=s.os/\AllBare a.gens/\Un (M7 c) [] H b s.heap a.heap/\tG P w b a.heap/\RelV v u/\Q v b
def CR(c:K0)(a:List Env)(P:Program)(w:World)(H:Hp)(s:Shared)(Q:VK)(E:XK)(r:Result)(b:Shared):Prop :=
 match r with
 | .ok (.ret u)=>CE a P w H s Q u b
 | .ok _=>False
 | .error e=>c a H s E e b
structure bq(P:Program)(w:World)(K:Frag)(mg:X1)(zt:Heap)(CX:K0)(k:Nat)(f:Addr)(fd:FuncData)(ps:Uf)(sp:Sp):Prop where
 len:∀ vs H Q E,sp vs H Q E->↑vs=↑ps
 run:∀ (A:Around) (zn:List Env) (s:Shared) (H:Hp) (args:Args) (us:Wp) (vs:List V) (Q:VK) (E:XK),jd k A->G4 P w K mg zt A zn s H->BindsTo s fd args (ps.zip us)->cD vs us->sp vs H Q E->
  codeAny (model P w) A (.call ↥f args) (CR CX zn P w H s Q E) s
theorem G4.make{P:Program}{w:World}{K:Frag}{a:X1}{b:Heap}{A:Around}{c:List Env}{s:Shared}{H:Hp}(e:G4 P w K a b A c s H)(C:Addr)(d:Wp)(f:List (Str × Value)) :
  G4 P w K a b (A.under (.builtin "N" ⟨↥C::d,f⟩)) c s H:=⟨by first|exact e.frames|(simpa [Around.under,Code.envs,Code.isFrame,pushEnvs] using e.frames),e.mod,e.bs,e.T5,e.wZ,e.Vl,e.hok,e.bare⟩
section
variable {X:Cx} {ao:List (Addr × Obj)} {σ:St} {H:Hp} {s s':Shared}
theorem Inv.YV(I:Inv X ao σ H s):G4 X.prog X.w X.K X.mg X.zt X.A X.stack s H :=
 ⟨I.ok.frames,I.ok.mod,I.bs,fX I.ok.T5 I.sz,I.stack,I.Jm,I.hok,I.bare⟩
def Inv.after{Q:VK}{u:Value}(I:Inv X ao σ H s)(h:CE X.stack X.prog X.w H s Q u s'):EP X ao σ Q u s':=by
 let⟨v,a,os,bare,un,hok,r,q⟩:=h;let⟨b,g,d,t,c⟩:=s';obtain rfl:c=s.os:=os;exact⟨v,a,I.call (h':=b) (h:=g) (p:=d) (l:=t) (f:=[]) un hok bare (λb z=>absurd z (by simp)),r,q⟩
end
def Jx(a:Sp)(b:List V)(E:XK)(t:TA):TE:=fun c H Q=>t c H λc d=>a (c++b) d Q E
inductive VB(C:Addr)(m:Str)(x:V)(H:Hp)(N:Prop):Prop
 | mk (a c:Addr) (b:List (Str × V)) (_:x=↥a) (_:H a=⇑(.ins C c b)) (_:b.lookup m=none) (_:N):VB C m x H N
def Jy(C:Addr)(m:Str)(c:Sp)(d:List V)(E:XK)(e:TE)(t:TA):TE:=fun a H Q=>e a H λx b=>VB C m x b (t a b λa b=>c (x::(a++d)) b Q E)
def YW(C:Addr)(c:Sp)(d:List V)(E:XK)(t:TA):TE:=fun a H Q=>t a H λe b=>∀ x a,b x=none->b a=none->a≠x->
 c (.ref x::(e++d)) (aL (aL b a (.own x)) x (.ins C a [])) (λv a=>v=.gi/\Q ↥x a) E
def Binds(K:Frag)(d:FuncData)(b:Uf)(c:Wp):Prop :=
 ∀ (s:Shared) (a:Wp),K.In s.heap->↑(a++c)=↑b->BindsTo s d ⟨a,[]⟩ (b.zip (a++c))
theorem Binds.all{K:Frag}{b:Uf}(h:∀ a:List Value,↑a=↑b->bindArgs d ⟨a,[]⟩=pure (b.zip a)):Binds K d b []:=λs a _ c=>by
 rw[gG]at c ⊢;exact .of_eq (h a c)
def m6(c:K0)(a:Cx)(E:XK):Prop:=∀ (d:List (Addr × Obj)) (f:St) (H:Hp) (s:Shared) (e:Value) (b:Shared),Inv a d f H s->c a.stack H s E e b->a.xe e b
section
variable {X:Cx} {CX:K0} {k:Nat} {f C:Addr} {i:FuncData} {ps:Uf} {sp:Sp} {g:List V} {d:Wp} {E:XK} {x m:Str} {p c jK:Pos} {e o:Expr} {es:List Expr} {ta:TE} {t:TA}
theorem Cu{j:St}{H:Hp}{s:Shared}{Q:VK}{a:Wp}{h:List V}(l:bq X.prog X.w X.K X.mg X.zt CX k f i ps sp)(v:jd k X.A)(w:Binds X.K i ps d)(y:cD g d)(z:m6 CX X E)
  (I:Inv X n j H s) (r:cD h a) (q:sp (h++g) H Q E):wpAny (model X.prog X.w) X.A (call ↥f a) (EP X n j Q) X.xe s:=by
 let c:cD (h++g) (a++d):=r.append y;let m:↑(a++d)=↑ps:=by rw[← ↑c];exact l.len _ _ _ _ q
 refine wpAny_call (codeAny_mono (l.run X.A X.stack s H ⟨a,[]⟩ (a++d) (h++g) Q E v I.YV (w s a I.vZ m) c q) λr o b=>?_)
 cases r with
 | error e=>exact z n j H s e o I b
 | ok p =>
  cases p with
  | ret u=>exact I.after b
  | next=>exact False.elim b
  | brk=>exact False.elim b
  | cont=>exact False.elim b
theorem Jz(b:bq X.prog X.w X.K X.mg X.zt CX k f i ps sp)(h:jd k X.A)(j:Gl X x)(l:X.mg x=⇑↥f)(n:keepIn X.K ↥f=true)(q:Binds X.K i ps d)(r:cD g d)(u:m6 CX X E)
  (v:PA X (e::es) t) (w:(x == ("r":Str))=false:=by decide) (y:starEach (e::es) X.env=(false,eval e X.env)::starEach es X.env:=by rfl) (z:(backTo c (starEach es X.env)).any (·.1)=false:=by rfl) :
  PE X (.Call (.Name x p) (e::es) [] c) (Jx sp g E t):=by
 intro a s m H Q I o;refine wpAny_Call_Name_kw (xJ I j l ?_ w);refine callWith_K (h₀:=X.zt) I.ok.mod.dU n (dB (v c a s m H _ I o) λA B ⟨C,D,a,m,o⟩=>⟨a.vZ,?_⟩) y z;exact Cu b h q r u a m o
theorem Np(a:bq X.prog X.w X.K X.mg X.zt CX k f i ps sp)(b:jd k X.A)(h:Gl X x)(j:X.mg x=⇑↥f)(l:keepIn X.K ↥f=true)(n:Binds X.K i ps d)(q:cD g d)(r:m6 CX X E)
  (u:(x == ("r":Str))=false:=by decide):PE X (.Call (.Name x p) [] [] c) (Jx sp g E yd):=by
 intro m s o H Q I e;refine wpAny_Call_Name_kw (xJ I h j ?_ u);exact callWith_K0 I.vZ l (Cu (a:=[]) a b n q r I .nil e)
theorem Q4{b:Sem Bool}(q:PE X o ta)(r:MN X.K C)(h:Nm X.K C m f)(u:bq X.prog X.w X.K X.mg X.zt CX k f i ps sp)(v:jd k X.A)(w:Binds X.K i ps d)(y:cD g d)(z:m6 CX X E)(A:PA X (e::es) t)
  (B:starEach (e::es) X.env=(false,eval e X.env)::starEach es X.env:=by rfl) (D:(backTo c (starEach es X.env)).any (·.1)=false:=by rfl)
  (G:eval (.Call (.Attribute o m jK) (e::es) [] c) X.env=(do
   let j ← eval o X.env
   standAt jK.atName
   let (f,first) ← holding [j] (getMethod j m b)
   callWith c f first (backTo c (starEach (e::es) X.env)) (backToKw c (keywordEach [] X.env))):=by rfl) :
  PE X (.Call (.Attribute o m jK) (e::es) [] c) (Jy C m sp g E ta t):=by
 intro l s n H Q I F;refine methodCall_KW (pl:=b) (dB (q l s n H _ I F) λJ L ⟨x,M,p,N,a,F,H,O,R,S,T⟩=>?_) G;subst O;obtain rfl:J=Value.ref a:=N;refine yb p R r h S ?_
 refine callWith_K (first:=[↥a]) (h₀:=X.zt) I.ok.mod.dU h.kp (dB (A c l L n M _ p T) λn F ⟨p,H,l,U,W⟩=>⟨l.vZ,?_⟩) B D
 exact Cu (a:=↥a::n) (h:=↥a::p) u v w y z l (.cons rfl U) W
theorem Nq{h:Sem Bool}(n:PE X o ta)(q:MN X.K C)(j:Nm X.K C m f)(r:bq X.prog X.w X.K X.mg X.zt CX k f i ps sp)(u:jd k X.A)(v:Binds X.K i ps d)(w:cD g d)(y:m6 CX X E)
  (z:eval (.Call (.Attribute o m jK) [] [] c) X.env=(do
   let l ← eval o X.env
   standAt jK.atName
   let (f,first) ← holding [l] (getMethod l m h)
   callWith c f first (backTo c (starEach [] X.env)) (backToKw c (keywordEach [] X.env))):=by rfl) :
  PE X (.Call (.Attribute o m jK) [] [] c) (Jy C m sp g E ta yd):=by
 intro e s p H Q I t;refine methodCall_KW (pl:=h) (dB (n e s p H _ I t) λA e ⟨x,p,b,B,a,t,H,D,F,G,J⟩=>?_) z;subst D;obtain rfl:A=Value.ref a:=B;refine yb b F q j G ?_
 exact callWith_K0 (first:=[↥a]) b.vZ j.kp (Cu (a:=[↥a]) (h:=[↥a]) r u v w y b (.cons rfl .nil) J)
structure Mk(K:Frag)(C f:Addr):Prop where
 makes:makesIn K C=true
 init:findIn K ↥C "s"=⇑(⇑↥f)
 fn:isFn K ↥f=true
 kp:keepIn K ↥C=true
theorem Nr{j:St}{H:Hp}{s:Shared}{Q:VK}{a:Wp}{l:List V}(M:Mk X.K C f)(n:bq X.prog X.w X.K X.mg X.zt CX k f i ps sp)(w:jd (k+1) X.A)(y:Binds X.K i ps d)(z:cD g d)
  (A:m6 CX X E) (I:Inv X q j H s) (r:cD l a)
  (B:∀ x h,H x=none->H h=none->h≠x->sp (.ref x::(l++g)) (aL (aL H h (.own x)) x (.ins C h [])) (λv D=>v=.gi/\Q ↥x D) E) :
  wpAny (model X.prog X.w) X.A (call ↥C a) (EP X q j Q) X.xe s:=by
 let m:=B (s⁻¹+1) s⁻¹ (I.hok.fresh (Nat.le_succ _)) (I.hok.fresh (d7 _)) (jc (Nat.lt_succ_self _));let c:=Inv.made (C:=C) I;let o:cD (V.ref (s⁻¹+1)::(l++g)) (Value.ref (s⁻¹+1)::(a++d)):=.cons rfl (r.append z)
 let p:↑(Value.ref (s⁻¹+1)::a++d)=↑ps:=by
  let e:=↑o;rw[n.len _ _ _ _ m]at e;exact e.symm
 refine wpAny_call (Nl (f:=f) I.vZ M.makes M.init (beq_iff_eq.mp M.fn) (codeAny_mono (n.run _ X.stack _ _ ⟨Value.ref (s⁻¹+1)::a,[]⟩ (Value.ref (s⁻¹+1)::(a++d)) _ _ E (w.make C a []) (c.YV.make C a []) (y _ (Value.ref (s⁻¹+1)::a) c.vZ p) o m) λr t b=>?_))
 cases r with
 | error e=>exact A q j _ _ e t c b
 | ok F =>
  cases F with
  | ret u =>
   let⟨v,G,J,L,N,O⟩:=c.after b;subst N;exact⟨L,⟨V.ref (s⁻¹+1),G,J,1,O⟩⟩
  | next=>exact False.elim b
  | brk=>exact False.elim b
  | cont=>exact False.elim b
theorem ny(M:Mk X.K C f)(a:bq X.prog X.w X.K X.mg X.zt CX k f i ps sp)(b:jd (k+1) X.A)(h:Gl X x)(j:X.mg x=⇑↥C)(l:Binds X.K i ps d)(n:cD g d)(q:m6 CX X E)
  (r:(x == ("r":Str))=false:=by decide):PE X (.Call (.Name x p) [] [] c) (YW C sp g E yd):=by
 intro m s o H Q I e;refine wpAny_Call_Name_kw (xJ I h j ?_ r);exact callWith_K0 I.vZ M.kp (Nr (a:=[]) M a b l n q I .nil e)
end
structure qB(N P:Uf)(sc:Scope):Prop where
 kind:sc.kind=.function
 co:sc.isCoroutine=false
 gen:sc.isGenerator=false
 nd:N.Nodup
 pre:N.take ↑P=P
 par:∀ x∈P,sc.names.lookup x=⇑.local\/sc.names.lookup x=⇑.cell
 VD:∀ y∈sc.names,y.2≠.free
theorem A9{b:Str->Option NameKind}{x:Str}:∀ {a:List (Str × Value)} {m:X1},(∀ v,(x,v)∉a)->bindL b a m x=m x
 | [],_,_=>rfl
 | (n,v)::r,m,h=>by
  unfold bindL;rw[A9 λw c=>h w (jT _ c)];split
  ·have:x≠n:=by rintro rfl;exact h v nP
   simp[this]
  ·rfl
theorem Ba{b:Str->Option NameKind}{x:Str}:∀ {a:List (Str × Value)} {m:X1},(∀ v,(x,v)∉a)->bindC b a m x=m x
 | [],_,_=>rfl
 | (n,v)::r,m,h=>by
  unfold bindC;rw[Ba λw c=>h w (jT _ c)];split
  ·rfl
  ·have:x≠n:=by rintro rfl;exact h v nP
   simp[this]
theorem Bb{b:Str->Option NameKind}{x:Str}{v:Value}:∀ {P:Uf} {a:Wp} {i:Nat} {m:X1},P.Nodup->P[i]?=⇑x->a[i]?=⇑v->b x=⇑.local->
  bindL b (P.zip a) m x=⇑v
 | [],_,_,_,_,h,_,_=>by simp at h
 | _::_,[],_,_,_,_,h,_=>by simp at h
 | p::P,w::a,0,m,nd,c,d,e=>by
  simp at c d;subst c;subst d;show bindL b ((p,w)::P.zip a) m p=_;unfold bindL;rw[A9 λv f=>(List.nodup_cons.mp nd).1 (List.of_mem_zip f).1,if_pos e];simp
 | p::P,w::a,i+1,m,nd,c,d,e=>by
  show bindL b ((p,w)::P.zip a) m x=_;unfold bindL;exact Bb (i:=i) (List.nodup_cons.mp nd).2 (by simpa using c) (by simpa using d) e
theorem Bc{b:Str->Option NameKind}{x:Str}{v:Value}:∀ {P:Uf} {a:Wp} {i:Nat} {m:X1},P.Nodup->P[i]?=⇑x->a[i]?=⇑v->b x≠some .local->
  bindC b (P.zip a) m x=⇑v
 | [],_,_,_,_,h,_,_=>by simp at h
 | _::_,[],_,_,_,_,h,_=>by simp at h
 | p::P,w::a,0,m,nd,c,d,e=>by
  simp at c d;subst c;subst d;show bindC b ((p,w)::P.zip a) m p=_;unfold bindC;rw[Ba λv f=>(List.nodup_cons.mp nd).1 (List.of_mem_zip f).1,if_neg e];simp
 | p::P,w::a,i+1,m,nd,c,d,e=>by
  show bindC b ((p,w)::P.zip a) m x=_;unfold bindC;exact Bc (i:=i) (List.nodup_cons.mp nd).2 (by simpa using c) (by simpa using d) e
def start(N:Uf)(a:List V):St:=a.map some++List.replicate (↑N-↑a) none
def Cv(e:K0)(P:Program)(w:World)(K:Frag)(mg:X1)(zt:Heap)(N:Uf)(a:Str)(b:Scope)(f:Addr)(c:Value)(A:Around)(zn:List Env)(s:Shared)(H:Hp)(E:XK):Cx where
 prog:=P
 w:=w
 K:=K
 mg:=mg
 zt:=zt
 A:=A.deeper (envOfC a b s⁻¹ f c)
 N:=N
 s₀:=s
 H₀:=H
 env:=envOfC a b s⁻¹ f c
 zn:=zn
 stack:=envOfC a b s⁻¹ f c::zn
 ex:=[]
 calm:=true
 fn:=λ_=>true
 pn:=[]
 xe:=λg h=>wpAny (model P w) (A.deeper (envOfC a b s⁻¹ f c)) (leaving (envOfC a b s⁻¹ f c) g) (λ_ d=>e zn H s E g d) (λg d=>e zn H s E g d) h
theorem aR{a:K0}{P:Program}{w:World}{K:Frag}{b:X1}{c:Heap}{N:Uf}{d:Str}{e:Scope}{f:Addr}{g:Value}{A:Around}{h:List Env}{s:Shared}{H:Hp}{E:XK}:(Cv a P w K b c N d e f g A h s H E).K=K:=rfl
theorem aI{a:K0}{P:Program}{w:World}{K:Frag}{b:X1}{c:Heap}{N:Uf}{d:Str}{e:Scope}{f:Addr}{g:Value}{A:Around}{h:List Env}{s:Shared}{H:Hp}{E:XK}:(Cv a P w K b c N d e f g A h s H E).Js.K=K:=rfl
def Ek{a:Scope}{n:Nat}{x:Str}(h:a.names.lookup x=⇑.cell):∃ c,(cellsFrom n a.names []).lookup x=⇑c:=by
 let q:=cellsFrom_some a.names n [] (.inl h);exact Option.isSome_iff_exists.mp q
theorem La{G:K0}{P:Program}{w:World}{K:Frag}{u:X1}{v:Heap}{N f:Uf}{o:Str}{c:Scope}{p:Addr}{q:Value}{A:Around}{B:List Env}{s I:Shared}{H:Hp}{E:XK}{C:Wp}{g:List V}
  (h:qB N f c) (M:A.handled=none) (e0:G4 P w K u v A B s H) (T:↑g=↑f) (O:cD g C)
  (x:InCallC s s⁻¹ (bindL (envOfC o c s⁻¹ p q).kindOf (f.zip C) λ_=>none) (cellsFrom (s⁻¹+1) c.names []) (bindC (envOfC o c s⁻¹ p q).kindOf (f.zip C) λ_=>none) I) :
  Inv (Cv G P w K u v N o c p q A B s H E) [] (start N g) H I:=by
 let d:↑f<=↑N:=by have:=congrArg List.length h.pre;rw[gO]at this;lia
 let⟨r,z,rfl,F⟩:=x.done;let D:∀ d:Addr,d∉(Cv G P w K u v N o c p q A B s H E).ex:=λd z=>absurd (show d∈([]:UV) from z) (by simp)
 exists ⟨e0.mod,h.kind,V,d7 _,λy z e r b=>?_,λy i=>?_,λy e _ j=>?_,λ_=>M,Around.frames_deeper e0.frames,.inr ⟨V⟩,λd z=>absurd z (D d),e0.bs,e0.T5,λd _ _=>D d,λd z=>absurd z (D d),e0.wZ,e0.Vl⟩,
  rfl,e0.bare,Un.kept F,⟨_,x.toInCall.ns,λl y R r b d=>?_⟩,λy e j=>⟨_,x.cell y e j⟩,e0.hok.fresh (d7 _),λy e j=>?_,λd m=>absurd (show d∈([]:List (Addr × Obj)) from m) (by simp),e0.hok.kept F
 ·exact name_of_addr x.apart (PySem.mem_of_lookup r) (PySem.mem_of_lookup b)
 ·let i:c.names.lookup y=⇑.cell\/c.names.lookup y=⇑.free:=i;rcases i with i|i
  ·exact Ek i
  ·exact absurd rfl (h.VD _ (PySem.mem_of_lookup i))
 ·exact eO (x.above y e (PySem.mem_of_lookup j))
 ·let t:l<↑g:=by
   unfold start at b;by_cases t:l<↑g
   ·exact t
   ·rw[uT (by simpa using t)]at b;rw[List.getElem?_replicate]at b
    split at b <;> cases b
  let S:g[l]?=⇑R:=by
   unfold start at b;rw[Cn (by simpa using t),gj]at b
   cases n:g[l]? with
   | none=>rw[n]at b;cases b
   | some a=>rw[n]at b;cases b;rfl
  let⟨b,J,d⟩:=O.get S
  let m:f[l]?=⇑y:=by
   rw[← h.pre,List.getElem?_take_of_lt ∅];exact r
  let L:f.Nodup:=by rw[← h.pre];exact h.nd.sublist (List.take_sublist _ _)
  exists b,d;rcases h.par y (mL m) with k|k
  ·exact .inl ⟨k,Bb L m J k⟩
  ·let⟨e,n⟩:=Ek (n:=s⁻¹+1) k;refine .inr ⟨.inl k,e,n,?_⟩;let b:=x.cell y e n;rw[Bc L m J (by show c.names.lookup y≠_;rw[k];decide)]at b;exact b
 ·exact e0.hok.fresh (eO (x.above y e (PySem.mem_of_lookup j)))
 ·unfold start;show _=↑N;rw[cR,cC,uU];lia
theorem YY{j:K0}{P:Program}{w:World}{K:Frag}{k:X1}{l:Heap}{B:Nat}{f:Addr}{name d:Str}{C:Arguments}{a:Scope}{D kV G I e L oc:Value}{M od:Option Addr}
  {MO:Array (WP)} {N m:Uf} {p:Sp} (lk:K.lookup f=some ⟨oc,od,.func (fnOf name d C O a D kV G I M e L),MO⟩) (M9:codeIn K e d=true) (i:qB N m a)
  (T:∀ b H Q E,p b H Q E->↑b=↑m)
  (El:∀ (A:Around) (g:List Env) (s:Shared) (H:Hp) (b:List V) (Q:VK) (E:XK),jd B (A.deeper (envOfC d a s⁻¹ f e))->p b H Q E->
   ∃ t,Jq (Cv j P w K k l N d a f e A g s H E) O t/\t { nx:=λ_ c=>Q .gi c,rt:=Q } (start N b) H) :
  bq P w K k l j (B+1) f (fnOf name d C O a D kV G I M e L) m p:=by
 refine⟨T,λA g s H args X b Q E r e0 hb ab F=>?_⟩;let hl:=T _ _ _ _ F;let R:K.In s.heap:=e0.mod.dU.keeps λx y n=>(e0.bs x y n).1;have ae:s.heap.NoLimit:=e0.mod.nolimit.keeps λx y n=>(e0.bs x y n).1
 let Em:∀ y∈m.zip X,a.names.lookup y.1=⇑.local\/(a.names.lookup y.1=⇑.cell/\((cellsFrom (s⁻¹+1) a.names []).lookup y.1).isSome=true):=λ⟨ag,v⟩ hy=>by
  rcases i.par ag (List.of_mem_zip hy).1 with q|q
  ·exact .inl q
  ·exact .inr ⟨q,cellsFrom_some _ _ _ (.inl q)⟩
 refine codeAny_call_function r.depth (R _ _ lk) rfl i.co i.gen rfl (PySem.W.codeRec_of R M9) (hb _ _ _ _ ?_);refine wpAny_newFunctionEnv_cells i.kind Em λx he S U=>?_;subst he;refine⟨ae.keeps U.toInCall.keep,codeAny_func ?_⟩;let⟨t,x,y⟩:=El A g s H b Q E (r.deeper _) F;have F:Inv (Cv j P w K k l N d a f e A g s H E) [] (start N b) H S:=La i r.hd e0 hl ab U;refine wpAny_mono (x [] S (start N b) H _ F y) (λfl r h=>?_) λn r h=>h;have W:∀ {o:St} {c:Hp} {v:V} {u:Value},Inv (Cv j P w K k l N d a f e A g s H E) [] o c r->RelV v u->Q v c->CE g P w H s Q u r := λ{o c v u} J z q=>⟨v,c,J.os,J.bare,J.zt,J.hok,z,q⟩
 cases fl with
 | ret u =>
  let⟨v,o,c,J,z,q⟩:=h;exact W J z q
 | next =>
  let⟨o,c,J,q⟩:=h;exact W (v:=V.gi) (u:=Value.none) J rfl q
 | brk =>
  let⟨_,_,_,q⟩:=h;exact False.elim q
 | cont =>
  let⟨_,_,_,q⟩:=h;exact False.elim q
end _L2
namespace _L2
open Spec Rows
section
variable {X:Cx} {x:Str} {p pos:Pos} {e:Expr} {es:List Expr} {t:TA} {id T:String} {r:List V->Hp->VK->Prop}
def eQ(r:List V->Hp->VK->Prop)(t:TA):TE:=fun a H Q=>t a H λa b=>r a b Q
theorem b8(c:jm X (.builtin id) r)(d:Gl X x)(f:X.mg x=none)(g:bootBuiltins x=⇑(.builtin id))(h:PA X (e::es) t)(i:x≠"V":=by decide)(j:(x == ("r":Str))=false:=by decide)
  (k:starEach (e::es) X.env=(false,eval e X.env)::starEach es X.env:=by rfl) (l:(backTo pos (starEach es X.env)).any (·.1)=false:=by rfl):PE X (.Call (.Name x p) (e::es) [] pos) (eQ r t):=by
 intro a s b H Q I m;refine wpAny_Call_Name_kw (uX I d f g ?_ i j);exact PyProof.Rows.callWith_builtin1 (dB (h pos a s b H _ I m) λm n ⟨o,q,u,v,w⟩=>c a n b q o m Q u v w) k l
theorem fY(c:jm X (.type T) r)(d:Gl X x)(f:X.mg x=none)(g:bootBuiltins x=⇑(.type T))(h:PA X (e::es) t)(i:x≠"V":=by decide)(j:(x == ("r":Str))=false:=by decide)
  (k:starEach (e::es) X.env=(false,eval e X.env)::starEach es X.env:=by rfl) (l:(backTo pos (starEach es X.env)).any (·.1)=false:=by rfl):PE X (.Call (.Name x p) (e::es) [] pos) (eQ r t):=by
 intro a s b H Q I m;refine wpAny_Call_Name_kw (uX I d f g ?_ i j);exact PyProof.Rows.callWith_type1 (dB (h pos a s b H _ I m) λm n ⟨o,q,u,v,w⟩=>c a n b q o m Q u v w) k l
end
end _L2
namespace _HT
open Rows
section
variable {prog:Program} {w:World} {A:Around} {E:ZB} {s:Shared}
def iZ(n d:Nat):Option Int->Nat
 | none=>d
 | some v=>if v<0 then (v+(n:Int)).toNat else min v.toNat n
def JA(n d k:Nat):iZ n d (⇑(k:Int))=min k n:=by
 show (if (k:Int)<0 then ((k:Int)+(n:Int)).toNat else min (k:Int).toNat n)=min k n;rw[if_neg ∅,Int.toNat_natCast]
def VE(n d:Nat)(b:d<=n)(o:Option Int):iZ n d o<=n:=by
 cases o with
 | none=>exact b
 | some v =>
  show (if v<0 then (v+(n:Int)).toNat else min v.toNat n)<=n;by_cases a:v<0
  ·rw[if_pos a];lia
  ·rw[if_neg a];exact Nat.min_le_right _ _
def JB(v:Int)(n d:Nat):(if v<0 then max (v+(n:Int)) 0 else min v (n:Int))=((iZ n d (⇑v):Nat):Int):=by
 show (if v<0 then max (v+(n:Int)) 0 else min v (n:Int))=(((if v<0 then (v+(n:Int)).toNat else min v.toNat n):Nat):Int);by_cases a:v<0
 ·simp only[if_pos a];lia
 ·simp only[if_neg a];lia
def G5(lo a:Option Int)(n:Nat):Builtin.Slice.sliceAdjust lo a 1 (n:Int)=(((iZ n 0 lo:Nat):Int),((iZ n n a:Nat):Int)):=by
 let b:¬ ((1:Int)<0):=by lia
 unfold Builtin.Slice.sliceAdjust;simp only[b,if_false];refine Prod.ext ?_ ?_
 ·cases lo with
  | none=>rfl
  | some v=>exact JB v n 0
 ·cases a with
  | none=>rfl
  | some v=>exact JB v n n
def G6(i j:Nat):Builtin.Slice.slicePlaces (i:Int) (j:Int) 1=j-i:=by
 unfold Builtin.Slice.slicePlaces;let a:(1:Int) > 0:=by lia
 simp only[a,if_true,Int.ediv_one]
 split <;> lia
def yf{v:Value}{o:Option Int}{Q:Option Int->Shared->Prop}(p:IsPart v o)(h:Q o s):wpAny (model prog w) A (Builtin.Slice.slicePartIndex v) Q E s:=by
 cases p with
 | none=>exact slicePart_none h
 | int i t=>exact slicePart_int h
theorem vc{e:Addr}{b c:Value}{lo a:Option Int}{n:Nat}{Q:Int × Int × Nat->Shared->Prop}(f:s.heap.IsSliceOf e b c .none)(g:IsPart b lo)(h:IsPart c a)
  (i:Q (((iZ n 0 lo:Nat):Int),1,iZ n n a-iZ n 0 lo) s):wpAny (model prog w) A (Builtin.Slice.sliceApplied ↥e (pure (n:Int))) Q E s:=by
 let⟨j,d,k,G7⟩:=id f;unfold Builtin.Slice.sliceApplied Builtin.Slice.sliceFields;refine wpAny_bind (wpAny_bind (wpAny_field d G7 (x:=b) rfl (wpAny_bind (wpAny_field d G7 (x:=c) rfl (wpAny_bind (wpAny_field d G7 (x:=.none) rfl (wpAny_pure ?_)))))));refine wpAny_bind (slicePart_none ?_);show wpAny _ _ (if ((1:Int) == 0)=true then _ else _) _ _ s;rw[if_neg (by decide)];refine wpAny_bind (yf g (wpAny_bind (yf h (wpAny_bind (wpAny_pure ?_)))));show wpAny _ _ (match Builtin.Slice.sliceAdjust lo a 1 (n:Int) with|(lo,a)=>pure (lo,(1:Int),Builtin.Slice.slicePlaces lo a 1)) _ _ s;rw[G5 lo a n];show wpAny _ _ (pure (((iZ n 0 lo:Nat):Int),(1:Int),Builtin.Slice.slicePlaces ((iZ n 0 lo:Nat):Int) ((iZ n n a:Nat):Int) 1)) _ _ s;rw[G6];exact wpAny_pure i
def Nt(a:WF)(i k:Nat):((List.range k).filterMap λ(m:Nat)=>a[((i:Int)+(m:Int)*1).toNat]?).toArray=((a.toList.drop i).take k).toArray:=by
 let e:(λ(m:Nat)=>a[((i:Int)+(m:Int)*1).toNat]?)=λm=>a[i+m]?:=by
  funext m;have:((i:Int)+(m:Int)*1).toNat=i+m:=by lia
  rw[this]
 rw[e];have:=pick_run a i k;rw[List.filterMap_map]at this;let b:((λx=>a[x]?) ∘ λx=>i+x)=λm=>a[i+m]?:=rfl;rw[b]at this;rw[this]
theorem tM{t e:Addr}{a:WF}{f g:Value}{lo b:Option Int}{Q:ZB}(c:IsTup s.heap t a)(i:s.heap.IsSliceOf e f g .none)(j:IsPart f lo)(k:IsPart g b)
  (l:¬ (iZ a.size 0 lo=0/\iZ a.size a.size b=a.size))
  (h:Q ↥s⁻¹ { s with heap:=s.heap.push { cls:=.type "q",data:=.seq ((a.toList.drop (iZ a.size 0 lo)).take (iZ a.size a.size b-iZ a.size 0 lo)).toArray } })
  (r:a.size<=sizeLine):wpAny (model prog w) A (getItem ↥t ↥e) Q E s:=by
 let d:sizeOk (.seq ((a.toList.drop (iZ a.size 0 lo)).take (iZ a.size a.size b-iZ a.size 0 lo)).toArray):=by
  show ((a.toList.drop (iZ a.size 0 lo)).take (iZ a.size a.size b-iZ a.size 0 lo)).toArray.size<=sizeLine;rw[gZ,gO,pD,Array.length_toList];omega
 let m:iZ a.size a.size b<=a.size:=VE _ _ (d7 _) b;let⟨m,n,o,G7⟩:=id i;let p:s.TypeIs ↥e "slice":=⟨m,n,o⟩;unfold getItem
 try with_reducible refine wpAny_holding ?_
 first|refine wpAny_bind (wpAny_pure ?_)|skip
 refine wpAny_bind (wpAny_sequenceKey c.typeIs (by decide) ?_);refine wpAny_bind (wpAny_callSpecial?_slot (name:=Str.ofString "__getitem__") c.typeIs PyProof.Rows.slot_tuple_getitem (wpAny_call_entry PyProof.Rows.slot_tuple_getitem c.typeIs entry_tuple_getitem ?_ (args_tuple_getitem _ _)));show wpAny _ _ (Builtin.Tuple.tupleItemsOf ↥t >>= _) _ _ s;refine wpAny_bind (tupleItemsOf_ c ?_);refine wpAny_bind (wpAny_typeOf p ?_);rw[if_pos (by decide)];refine wpAny_bind (vc i j k ?_)
 let m:¬ ((((iZ a.size 0 lo:Nat):Int) == 0&&(1:Int) == 1&&(iZ a.size a.size b-iZ a.size 0 lo) == a.size)=true):=by
  intro q;rw[Bool.and_eq_true,Bool.and_eq_true]at q;let n:((iZ a.size 0 lo:Nat):Int)=0:=eq_of_beq q.1.1;let n:iZ a.size a.size b-iZ a.size 0 lo=a.size:=eq_of_beq q.2;exact l ⟨by omega,by omega⟩
 show wpAny _ _ (if (((iZ a.size 0 lo:Nat):Int) == 0&&(1:Int) == 1&&(iZ a.size a.size b-iZ a.size 0 lo) == a.size)=true then _ else _) _ _ s;rw[if_neg m,Nt]
 first
  | exact wpAny_bind (m:=Builtin.Tuple.tupleExact _) (wpAny_newObj_type (wpAny_pure ⟨Y,wpAny_pure h⟩) d)
  | exact wpAny_bind (m:=Builtin.Tuple.tupleExact _) (wpAny_newObj_type (wpAny_bind (wpAny_pure (wpAny_pure ⟨Y,wpAny_pure h⟩))) d)
  | exact wpAny_bind (wpAny_bind (m:=Builtin.Tuple.tupleExact _) (wpAny_newObj_type (wpAny_pure (wpAny_pure ⟨Y,wpAny_pure h⟩)) d))
  | exact wpAny_bind (wpAny_bind (m:=Builtin.Tuple.tupleExact _) (wpAny_newObj_type (wpAny_pure ⟨Y,wpAny_pure h⟩) d))
end
end _HT
namespace _L2
open Spec Rows
abbrev TO:=St->Hp->(Option Int->Hp->Prop)->Prop
def PO(a:Cx)(e:Option Expr)(t:TO):Prop :=
 ∀ (c:List (Addr × Obj)) (s:Shared) (b:St) (H:Hp) (Q:Option Int->Hp->Prop),Inv a c b H s->t b H Q->
  wpAny (model a.prog a.w) a.A (evalPart e a.env) (λu f=>∃ o d,Inv a c b d f/\IsPart u o/\Q o d) a.xe s
def Q5:TO:=λ_ H Q=>Q none H
def Y0(t:TE):TO:=fun a H Q=>t a H λx a=>lw x a Q
def intsAre_of{a:UF}:∀ {b:Wp},cD (a.map V.int) b->IntsAre b a:=by
 induction a with
 | nil=>intro b r;rw[List.map_nil]at r;cases r;exact .nil
 | cons n a c =>
  intro b r;rw[jo]at r
  cases r with
  | cons d e =>
   let⟨t,f⟩:=d;subst f;exact .cons n t (c e)
section
variable {X:Cx} {e:Expr} {te:TE} {lo c:Option Expr} {tl th:TO} {pos p2:Pos}
def mQ:PO X none Q5:=by
 intro a s b H Q I h;rw[evalPart_none];exact wpAny_pure ⟨none,H,I,.none,h⟩
def i6(h:PE X e te):PO X (⇑e) (Y0 te):=by
 intro a s b H Q I c;rw[evalPart_some];refine dB (h a s b H _ I c) λu b a=>?_;let⟨x,d,f,g,j⟩:=a;let⟨i,rfl,q⟩:=j;let⟨t,rfl⟩:=g;exact⟨⇑i,d,f,.int i t,q⟩
def eR(X:Cx)(r:V->Option Int->Option Int->Hp->VK->Prop):Prop :=
 ∀ (a:List (Addr × Obj)) (s:Shared) (b:St) (H:Hp) (x:V) (v d e:Value) (lo c:Option Int) (f:Addr) (Q:VK),Inv X a b H s->RelV x v->s.heap.IsSliceOf f d e .none->IsPart d lo->IsPart e c->r x lo c H Q->
  ∃ T d,typeLookup (.type T) "__getitem__"=pure (⇑(.builtin d))/\s.TypeIs v T/\wpAny (model X.prog X.w) X.A (getItem v ↥f) (EP X a b Q) X.xe s
def nf(r:V->Option Int->Option Int->Hp->VK->Prop)(te:TE)(tl th:TO):TE:=fun a H Q=>te a H λx b=>tl a b λl b=>th a b λu a=>r x l u a Q
def iW{r:V->Option Int->Option Int->Hp->VK->Prop}(i:eR X r)(j:PE X e te)(k:PO X lo tl)(l:PO X c th):PE X (.Subscript e (.Slice lo c none p2) pos) (nf r te tl th):=by
 intro b s d H Q I h;refine Subscript_ (dB (j b s d H _ I h) λv a f=>?_);let⟨x,g,h,m,n⟩:=f;refine wpAny_Slice (dB (k b a d g _ h n) λf a ⟨n,g,h,o,p⟩=>dB (l b a d g _ h p) λg a p=>?_);let⟨u,h,q,t,w⟩:=p;rw[evalPart_none];refine wpAny_pure ?_;let p:Inv X b d h { a with heap:=a.heap.push { cls:=.type "slice",data:=.fields (List.toArray [f,g,.none]) } }:=q.kept (t':=a.toks) λy z q=>Heap.get?_push_of_some _ q;let⟨T,A,q,y,z⟩:=i b { a with heap:=a.heap.push { cls:=.type "slice",data:=.fields (List.toArray [f,g,.none]) } } d h x v f g n u a⁻¹ Q p m (Heap.IsSliceOf.new ..) o t w;show wpAny (model X.prog X.w) X.A (subscriptTail e (.Slice lo c none p2) v ↥a⁻¹) (EP X b d Q) X.xe { a with heap:=a.heap.push { cls:=.type "slice",data:=.fields (List.toArray [f,g,.none]) } };exact tail_any (ops:=[↥a⁻¹,v]) y q z (by with_unfolding_all rfl)
def j0(a:List V)(lo c:Option Int):List V:=(a.drop (_HT.iZ ↑a 0 lo)).take (_HT.iZ ↑a ↑a c-_HT.iZ ↑a 0 lo)
def wj(a:List V)(lo c:Option Int):↑(j0 a lo c)<=↑a:=by
 unfold j0;rw[gO,pD];lia
def no(K:Frag):V->Option Int->Option Int->Hp->VK->Prop:=λx lo c H Q=>∃ b a,x=↥b/\dI K H b a/\
 ¬ (_HT.iZ ↑a 0 lo=0/\_HT.iZ ↑a ↑a c=↑a)/\∀ p,H p=none->Q ↥p (aL H p (.tup (j0 a lo c)))
def VF:eR X (no X.K):=by
 intro e s k H x v l m lo c n Q I b f g h d;let⟨o,a,rfl,i,j,q⟩:=d;cases b;let⟨k,r,d,e⟩:=I.tuple i;let b:k.toArray.size=↑a:=by rw[gZ];exact r.length.symm
 exists "q",_,PyProof.Rows.slot_tuple_getitem.lookup,d.typeIs;refine _HT.tM d f g h (by rw[b];exact j) ?_ (by rw[b];exact e);rw[b];refine⟨↥s⁻¹,_,I.laid (t':=s.toks) (o:=.tup (j0 a lo c)) (λb d q=>Heap.get?_push_of_some _ q) (d7 _) ?_,1,q _ (I.hok.fresh (d7 _))⟩;exact⟨Nat.le_trans (wj a lo c) e,_,(r.drop (_HT.iZ ↑a 0 lo)).take (_HT.iZ ↑a ↑a c-_HT.iZ ↑a 0 lo),IsTup.new _ _⟩
end
end _L2
namespace _L2
open Spec Rows
def JD(n:Nat)(i:Int):Option Nat:=if 0<=i then (if i<n then some i.toNat else none) else if -(n:Int)<=i then some (i+n).toNat else none
def nM{a:Type}(b:List a)(i:Int):Option a:=(JD ↑b i).bind λj=>b[j]?
def JE{n:Nat}{i:Int}{j:Nat}(h:JD n i=⇑j):seqIndex? i n=⇑j/\j<n/\-(n:Int)<=i/\i<n:=by
 unfold JD at h;by_cases b:0<=i
 ·rw[if_pos b]at h;by_cases a:i<n
  ·rw[if_pos a]at h;let e:i.toNat=j:=nQ h;exact⟨by rw[seqIndex_of b a,e],by lia,by lia,a⟩
  ·rw[if_neg a]at h;cases h
 ·rw[if_neg b]at h;by_cases a:-(n:Int)<=i
  ·rw[if_pos a]at h;let e:(i+n).toNat=j:=nQ h;exact⟨by rw[seqIndex_neg ∅ a,e],by lia,a,by lia⟩
  ·rw[if_neg a]at h;cases h
def Cw{b:Type}{a:List b}{i:Int}{v:b}(h:nM a i=⇑v):∃ j,seqIndex? i ↑a=⇑j/\a[j]?=⇑v/\j<↑a/\-(↑a:Int)<=i/\i<↑a:=by
 unfold nM at h
 cases e:JD ↑a i with
 | none=>rw[e]at h;cases h
 | some j =>
  rw[e]at h;let⟨c,d,f,g⟩:=JE e;exact⟨j,c,h,d,f,g⟩
def dm{b:Type}{a:List b}{j:Nat}{v:b}(h:a[j]?=⇑v):nM a (j:Int)=⇑v:=by
 let c:j<↑a:=(List.getElem?_eq_some_iff.mp h).1
 let e:JD ↑a (j:Int)=⇑j:=by
  unfold JD;rw[if_pos ∅,if_pos ∅];simp
 unfold nM;rw[e];exact h
def Nu{b:Type}(a:List b)(v:b):nM (a++[v]) (-1)=⇑v:=by
 let c:↑(a++[v])=↑a+1:=by simp
 let e:JD ↑(a++[v]) (-1)=some ↑a:=by
  unfold JD;rw[c,if_neg (by decide),if_pos ∅];congr 1;lia
 unfold nM;rw[e];show (a++[v])[↑a]?=⇑v;simp
def JF(b:Expr):Prop:=∀ o i,subscripted b false o i=operate [o,i] (getItem o i)
def VG(a:Cx)(r:R2):Prop :=
 ∀ (e b:Expr) (c:List (Addr × Obj)) (s:Shared) (d:St) (H:Hp) (x y:V) (v u:Value) (Q:VK),Inv a c d H s->RelV x v->RelV y u->r x y H Q->
  subscripted b false v u=operate [v,u] (getItem v u)->wpAny (model a.prog a.w) a.A (subscriptTail e b v u) (EP a c d Q) a.xe s
def ge(a:Cx)(f:String)(r:V->List V->Hp->VK->Prop):Prop :=
 ∀ (b:List (Addr × Obj)) (s:Shared) (c:St) (H:Hp) (x:V) (d:List V) (v:Value) (e:Wp) (Q:VK),Inv a b c H s->RelV x v->cD d e->r x d H Q->
  wpAny (model a.prog a.w) a.A (call (.builtin f) (v::e)) (EP a b c Q) a.xe s
section
variable {X:Cx} {a b:Expr} {ta tb:TE} {pos:Pos}
def Y3{r:R2}(c:VG X r)(d:PE X a ta)(f:PE X b tb)(g:JF b):PE X (.Subscript a b pos) (YN r ta tb):=by
 intro e s h H Q I i;exact Subscript_ (Vx d f I i λv u i x y j k l m q=>c a b e i h j x y v u Q k l m q (g _ _))
inductive Y4(K:Frag)(x y:V)(H:Hp)(Q:VK):Prop
 | mk (p:Addr) (c:List V) (i:Int) (v:V) (_:x=↥p) (_:y=.int i) (_:bI K H p c) (_:nM c i=⇑v) (_:Q v H)
inductive Y5(K:Frag)(x y:V)(H:Hp)(Q:VK):Prop
 | mk (p:Addr) (c:List V) (i:Int) (v:V) (_:x=↥p) (_:y=.int i) (_:dI K H p c) (_:nM c i=⇑v) (_:Q v H)
def np:R2:=λx y H Q=>∃ z i c,x=.str z/\y=.int i/\↑z<=sizeLine/\nM z.cps.toList i=⇑c/\Q (.str ⟨(List.toArray [c])⟩) H
def bH:VG X (Y4 X.K):=by
 intro j k d s e H x y v u Q I a b h f;let⟨p,l,i,z,rfl,rfl,c,g,q⟩:=h;cases a;let⟨t,rfl⟩:=b;let⟨l,r,b,a⟩:=I.list c;let⟨j,a,c,h,m,n⟩:=Cw g;let⟨w,g,k⟩:=r.get c;let o:=↑r;let c:=r9;let h:EP X d e Q w s:=⟨z,H,I,k,q⟩;by_cases k:0<=i
 ·let c:i.toNat=j:=by
   rw[seqIndex_of k n]at a;exact nQ a
  exact item_listR b.isList k ∅ (by rw[c];simpa using g) h f
 ·let c:(i+(l.toArray.size:Int)).toNat=j:=by
   rw[seqIndex_neg ∅ m]at a;rw[gZ,← o];exact nQ a
  exact subscriptTail_builtinR (x:=w) b.isList.typeIs slot_list_getitem.lookup
   (wpAny_getItem_list_neg (Q:=λr a=>r=w/\EP X d e Q r a) b.isList ∅ (by rw[gZ] <;> lia) ∅ (by rw[c];simpa using g) ⟨1,h⟩) f
def bf:VG X (Y5 X.K):=by
 intro i j a s b H x y v u Q I c d h e;let⟨p,k,l,z,rfl,rfl,f,g,q⟩:=h;cases c;let⟨t,rfl⟩:=d;let⟨d,r,c,h⟩:=I.tuple f;let⟨j,d,f,h,i,k⟩:=Cw g;let⟨w,g,h⟩:=r.get f;let f:=↑r;let i:=r9;let i:EP X a b Q w s:=⟨z,H,I,h,q⟩;exact subscriptTail_builtinR (x:=w) c.typeIs slot_tuple_getitem.lookup (getItem_tuple (j:=j) (Q:=λr h=>r=w/\EP X a b Q r h) c ∅ ∅ (by rw[gZ,← f];exact d) (by simpa using g) ⟨1,i⟩) e
def Nv:VG X np:=by
 intro f g j s k H x y v u Q I a b h d;let⟨z,i,c,rfl,rfl,f,e,q⟩:=h;let⟨t,rfl⟩:=a;let⟨l,rfl⟩:=b;let⟨j,a,b,h,f,g⟩:=Cw e;let e:↑z.cps.toList=↑z:=by simp[Str.length]
 rw[e]at a f g;let e:=r9
 exact tail_any (typeIs_str s z t) slot_str_getitem.lookup (getItem_str (c:=c) (by
  let e:decide (i < -(2^63:Int))=false:=decide_eq_false ∅;let f:decide (i>=2^63)=false:=decide_eq_false ∅
  rw[e,f,Bool.or_false]) (by rw[a];simpa using b) ⟨.str ⟨(List.toArray [c])⟩,H,I.tok _,⟨Y⟩,q⟩) d
def G8(c:Wp)(n j:Nat)(u:Value):Obj.mapSeq (·.setIfInBounds j u) { cls:=.type "g",data:=.seq c.toArray n }={ cls:=.type "g",data:=.seq (c.set j u).toArray n }:=by
 simp[Obj.mapSeq]
theorem Inv.lst{f:List (Addr × Obj)}{g:St}{H:Hp}{s:Shared}{p:Addr}{d:List V}(I:Inv X f g H s)(h:H p=⇑(.lst d)) :
  ∃ (c:Wp) (n:Nat),cD d c/\s.heap.get? p=some { cls:=.type "g",data:=.seq c.toArray n }/\↑d<=sizeLine:=by
 let⟨z,c,n,r,e⟩:=I.hok p _ h;exact⟨c,n,r,e,z⟩
theorem Inv.VH{h:St}{H:Hp}{s:Shared}{p:Addr}{k d:List V}{i c:Wp}{n g:Nat}{f:Obj->Obj}(I:Inv X l h H s)(m:H p=⇑(.lst k))
  (q:s.heap.get? p=some { cls:=.type "g",data:=.seq i.toArray n }) (j:f { cls:=.type "g",data:=.seq i.toArray n }={ cls:=.type "g",data:=.seq c.toArray g }) (r:cD d c) (u:↑d<=sizeLine) (t:Nat) :
  Inv X l h (aL H p (.lst d)) { s with heap:=s.heap.update p f,toks:=t }:=by
 let e:(s.heap.update p f).get? p=some { cls:=.type "g",data:=.seq c.toArray g }:=by
  rw[Heap.get?_update_self f q (by rw[j] <;> rfl),j]
 refine I.write (x:=p) (e:=p) (by rw[m];trivial) (.inl rfl) (λb v a o=>(Heap.get?_update_other _ _ (Ne.symm a)).trans o) ⟨_,e⟩ ?_;exact⟨u,c,g,r,e⟩
inductive Y6(o i v:V)(H:Hp)(Q:Hp->Prop):Prop
 | mk (p:Addr) (c:List V) (k:Int) (j:Nat) (_:o=↥p) (_:i=.int k) (_:H p=⇑(.lst c)) (_:JD ↑c k=⇑j) (_:Q (aL H p (.lst (c.set j v))))
def j4:YI X Y6:=by
 intro i s l H o e v f g u Q I a b m h;let⟨p,n,k,j,rfl,rfl,d,c,q⟩:=h;cases a;let⟨t,rfl⟩:=b;let⟨e,w,r,b,x⟩:=I.lst d;let⟨a,h,f,g⟩:=JE c;let c:=↑r;let h:=r9;let h:Inv X i l (aL H p (.lst (n.set j v))) { s with heap:=s.heap.update p (Obj.mapSeq (·.setIfInBounds j u)) } := I.VH d b (G8 e w j u) (r.set m j) (by rw[List.length_set];exact x) s.toks;by_cases i:0<=k
 ·let d:k.toNat=j:=by
   rw[seqIndex_of i g]at a;exact nQ a
  exact PySem.W.ki_setAt b i ∅ (by rw[gZ,← c];exact g) (by rw[d];exact⟨_,h,q⟩)
 ·let d:(k+(e.toArray.size:Int)).toNat=j:=by
   rw[seqIndex_neg ∅ f]at a;rw[gZ,← c];exact nQ a
  exact PySem.W.ki_setBack b ∅ (by rw[gZ,← c];exact f) ∅ (by rw[d];exact⟨_,h,q⟩)
def Cy(lo c:Option Int)(n:Nat):(sliceBounds lo c none n).1=((_HT.iZ n 0 lo:Nat):Int)/\(sliceBounds lo c none n).2.1=((_HT.iZ n n c:Nat):Int)/\(sliceBounds lo c none n).2.2=1:=by
 refine⟨?_,?_,1⟩
 ·cases lo with
  | none=>simp[sliceBounds,_HT.iZ]
  | some i =>
   simp only[sliceBounds,_HT.iZ,Option.getD_none,show (1:Int) > 0 by decide,if_true];by_cases h:i<0
   ·simp only[h,if_true] <;> lia
   ·simp only[h,if_false] <;> lia
 ·cases c with
  | none=>simp[sliceBounds,_HT.iZ]
  | some i =>
   simp only[sliceBounds,_HT.iZ,Option.getD_none,show (1:Int) > 0 by decide,if_true];by_cases h:i<0
   ·simp only[h,if_true] <;> lia
   ·simp only[h,if_false] <;> lia
def Ao(c:Wp)(lo d:Option Int):slicePick c.toArray lo d none=((c.drop (_HT.iZ ↑c 0 lo)).take (_HT.iZ ↑c ↑c d-_HT.iZ ↑c 0 lo)).toArray:=by
 let⟨a,b,e⟩:=Cy lo d c.toArray.size;unfold slicePick;rw[a,b,e]
 simp only[sliceRange_one,pick_run,gZ] <;> rfl
inductive Y7(K:Frag)(x:V)(lo hi:Option Int)(H:Hp)(Q:VK):Prop
 | mk (a:Addr) (c:List V) (_:x=↥a) (_:bI K H a c) (_:∀ p,H p=none->Q ↥p (aL H p (.lst (j0 c lo hi)))):Y7 K x lo hi H Q
def lg:eR X (Y7 X.K):=by
 intro k s l H x v m n lo d o Q I e f g h i;let⟨a,c,rfl,j,q⟩:=i;cases e;let⟨k,r,e,i⟩:=I.list j;let j:=↑r;exists "g",_,slot_list_getitem.lookup,e.isList.typeIs
 refine wpAny_getItem_list_slice e.isList f g h .none (by simp) ?_ (by rw[gZ] <;> lia)
 rw[Ao,← j];refine⟨↥s⁻¹,_,I.laid (t':=s.toks) (o:=.lst (j0 c lo d)) (λb e q=>Heap.get?_push_of_some _ q) (d7 _) ?_,1,q _ (I.hok.fresh (d7 _))⟩;exact⟨Nat.le_trans (wj c lo d) i,_,0,(r.drop (_HT.iZ ↑c 0 lo)).take (_HT.iZ ↑c ↑c d-_HT.iZ ↑c 0 lo),Heap.get?_push_size _ rfl⟩
def tN:V->Bool
 | .gi=>true
 | .bl _=>true
 | .int _=>true
 | .str _=>true
 | _=>false
def Ud:V->V->Bool
 | .gi,.gi=>true
 | .bl a,.bl b=>a == b
 | .bl a,.int b=>(if a then 1 else 0) == b
 | .int a,.bl b=>a == (if b then 1 else 0)
 | .int a,.int b=>a == b
 | .str a,.str b=>a == b
 | _,_=>false
def VI{A:Around}{s:Shared}{y x:V}{u v:Value}(f:RelV y u)(c:RelV x v)(h:tN y=true)(g:tN x=true):SeqAt.EqAt A s u v (Ud y x):=by
 cases y with
 | gi =>
  cases f
  cases x with
  | gi=>cases c;exact SeqAt.EqAt.same _
  | bl b=>cases c;exact SeqAt.EqAt.none_bool b
  | int b=>let⟨t,rfl⟩:=c;exact SeqAt.EqAt.none_int b t
  | str b=>let⟨t,rfl⟩:=c;exact SeqAt.EqAt.none_str b t
  | _=>exact absurd (show false=true from g) lG
 | bl a =>
  cases f
  cases x with
  | gi=>cases c;exact SeqAt.EqAt.bool_none a
  | bl b=>cases c;exact SeqAt.EqAt.bool_bool a b
  | int b=>let⟨t,rfl⟩:=c;exact SeqAt.EqAt.bool_int a b t
  | str b=>let⟨t,rfl⟩:=c;exact SeqAt.EqAt.bool_str a b t
  | _=>exact absurd (show false=true from g) lG
 | int a =>
  let⟨d,rfl⟩:=f
  cases x with
  | gi=>cases c;exact SeqAt.EqAt.int_none a d
  | bl b=>cases c;exact SeqAt.EqAt.int_bool a d b
  | int b=>let⟨t,rfl⟩:=c;exact SeqAt.EqAt.int_int a d b t
  | str b=>let⟨t,rfl⟩:=c;exact SeqAt.EqAt.int_str a d b t
  | _=>exact absurd (show false=true from g) lG
 | str a =>
  let⟨d,rfl⟩:=f
  cases x with
  | gi=>cases c;exact SeqAt.EqAt.str_none a d
  | bl b=>cases c;exact SeqAt.EqAt.str_bool a d b
  | int b=>let⟨t,rfl⟩:=c;exact SeqAt.EqAt.str_int a d b t
  | str b=>let⟨t,rfl⟩:=c;exact SeqAt.EqAt.str_str a d b t
  | _=>exact absurd (show false=true from g) lG
 | _=>exact absurd (show false=true from h) lG
def G9(x:V)(u:Value):Bool:=match u with
 | .none=>Ud .gi x
 | .bool b=>Ud (.bl b) x
 | .int i _=>Ud (.int i) x
 | .str z _=>Ud (.str z) x
 | _=>false
def Ny{x y:V}{u:Value}(r:RelV y u)(f:tN y=true):G9 x u=Ud y x:=by
 cases y with
 | gi=>cases r;rfl
 | bl b=>cases r;rfl
 | int i=>let⟨t,rfl⟩:=r;rfl
 | str z=>let⟨t,rfl⟩:=r;rfl
 | _=>exact absurd (show false=true from f) lG
theorem tO{x:V}:∀ {c:List V} {d:Wp},cD c d->c.all tN=true->d.any (G9 x)=c.any λy=>Ud y x
 | _,_,.nil,_=>rfl
 | y::c,u::d,.cons r t,f=>by
  rw[List.all_cons,Bool.and_eq_true]at f;rw[List.any_cons,List.any_cons,Ny r f.1,tO t f.2]
theorem pN{A:Around}{s:Shared}{x:V}{v:Value}(g:RelV x v)(h:tN x=true):∀ {c:List V} {d:Wp},cD c d->c.all tN=true->∀ u∈d,SeqAt.EqAt A s u v (G9 x u)
 | _,_,.nil,_=>λu a=>by cases a
 | y::c,u::d,.cons r t,f=>λb a=>by
  rw[List.all_cons,Bool.and_eq_true]at f;rcases List.mem_cons.mp a with rfl|a
  ·rw[Ny r f.1];exact VI r g f.1 h
  ·exact pN g h t f.2 b a
def d6(x:V)(c:List V):Bool:=c.any λy=>Ud y x
inductive VJ(K:Frag)(xs:List V)(H:Hp)(Q:VK):Prop
 | mk (p:Addr) (c:List V) (_:xs=[↥p]) (_:bI K H p c\/dI K H p c) (_:Q (.int ↑c) H):VJ K xs H Q
inductive Y8(K:Frag)(xs:List V)(H:Hp)(Q:VK):Prop
 | mk (p:Addr) (c:List V) (_:xs=[↥p]) (_:bI K H p c\/dI K H p c) (_:∀ l,H l=none->Q ↥l (aL H l (.lst c)))
def gk(K:Frag)(c:Bool):R2:=λx y H Q=>∃ p a,y=↥p/\(bI K H p a\/dI K H p a)/\tN x=true/\a.all tN=true/\Q (.bl (if c then !d6 x a else d6 x a)) H
def Lc:tH X (compareOp .In) (gk X.K false):=by
 intro d s e H x y v u Q I f b h;let⟨p,i,rfl,a,g,c,q⟩:=h;cases b;rcases a with a|a
 ·let⟨b,r,d,h⟩:=I.list a;refine SeqAt.in_listAt (G9 x) d.isList (λw e=>pN f g r c w (by simpa using e)) ⟨.bl _,H,I,1,?_⟩;rw[show b.toArray.any (G9 x)=b.any (G9 x) by simp,tO r c];exact q
 ·let⟨b,r,d,h⟩:=I.tuple a;refine SeqAt.in_tupleAt (G9 x) d (λw e=>pN f g r c w (by simpa using e)) ⟨.bl _,H,I,1,?_⟩;rw[show b.toArray.any (G9 x)=b.any (G9 x) by simp,tO r c];exact q
def Cz:tH X (compareOp .NotIn) (gk X.K true):=by
 intro d s e H x y v u Q I f b h;let⟨p,i,rfl,a,g,c,q⟩:=h;cases b;rcases a with a|a
 ·let⟨b,r,d,h⟩:=I.list a;refine SeqAt.notIn_listAt (G9 x) d.isList (λw e=>pN f g r c w (by simpa using e)) ⟨.bl _,H,I,1,?_⟩;rw[show b.toArray.any (G9 x)=b.any (G9 x) by simp,tO r c];exact q
 ·let⟨b,r,d,h⟩:=I.tuple a;refine SeqAt.notIn_tupleAt (G9 x) d (λw e=>pN f g r c w (by simpa using e)) ⟨.bl _,H,I,1,?_⟩;rw[show b.toArray.any (G9 x)=b.any (G9 x) by simp,tO r c];exact q
def CA:jm X (.builtin "len") (VJ X.K):=by
 intro c s d H f g Q I r h;let⟨p,e,rfl,a,q⟩:=h;let⟨u,rfl,b⟩:=vals1 r;cases b;let b:=r9;rcases a with a|a
 ·let⟨f,b,c,g⟩:=I.list a;let d:=↑b
  exact Calls.call_len_list c.isList (by simp only[gZ] <;> lia) ⟨.int ↑e,H,I.tok _,⟨s.toks+1,by rw[gZ,d]⟩,q⟩
 ·let⟨f,b,c,g⟩:=I.tuple a;let d:=↑b
  exact len_tuple c (by simp only[gZ] <;> lia) ⟨.int ↑e,H,I.tok _,⟨s.toks+1,by rw[gZ,d]⟩,q⟩
def tP:jm X (.builtin "len") (λc H Q=>∃ z,c=[.str z]/\↑z<=sizeLine/\Q (.int ↑z) H):=by
 intro a s b H c d Q I r h;let⟨z,rfl,a,q⟩:=h;let⟨u,rfl,t,rfl⟩:=vals1 r;let a:=r9;exact len_str ∅ ⟨.int ↑z,H,I.tok _,⟨Y⟩,q⟩
def gR:jm X (.type "g") (Y8 X.K):=by
 intro q s t H z A Q I r u;let⟨p,i,rfl,g,v⟩:=u;let⟨B,rfl,w⟩:=vals1 r;cases w
 let n:∀ (c:Wp),cD i c->↑i<=sizeLine->∀ (a:Heap) (d:Nat),(∀ b f,s.heap.get? b=⇑f->a.get? b=⇑f)->
   a.get? s⁻¹=some { cls:=.type "g",dict:=none,data:=.seq c.toArray d,slots:=#[] }->EP X q t Q ↥s⁻¹ { s with heap:=a }:=λc f h a d kp e =>
  ⟨↥s⁻¹,_,I.laid (t':=s.toks) kp (d7 _) (show fR X.prog X.w _ a _ (.lst i) from ⟨h,c,d,f,e⟩),1,v _ (I.hok.fresh (d7 _))⟩
 rcases g with g|g
 ·let⟨c,f,j,h⟩:=I.list g;let x:=↑f;let⟨o,k,l,y,m⟩:=j.isList
  exact call_list_seq p (.inl rfl) k l m (λa d kp e=>n c f h a d kp e) (by simp only[gZ] <;> lia)
 ·let⟨c,f,j,h⟩:=I.tuple g;let x:=↑f;let⟨o,k,l,y,m⟩:=j
  exact call_list_seq p (.inr rfl) k l m (λa d kp e=>n c f h a d kp e) (by simp only[gZ] <;> lia)
def eW(K:Frag)(T:String)(x:V)(H:Hp):Prop:=match x with
 | .str _=>T="str"
 | .int _=>T="int"
 | .ref p=>(T="g"/\∃ a,bI K H p a)\/(T="q"/\∃ o,K.lookup p=⇑o/\o.cls=.type "q"/\o.dict=none)\/
   (T="4"/\((∃ a,H p=⇑(.dK a))\/∃ a,H p=⇑(.dT a)))\/(T="set"/\∃ S n,H p=⇑(.set S n))
 | _=>False
theorem Nz{i:St}{H:Hp}{s:Shared}{T:String}{x:V}{v:Value}(I:Inv X l i H s)(r:RelV x v)(d:eW X.K T x H) :
  s.TypeIs v T/\∀ a,v=↥a->∃ h,s.heap.get? a=⇑h/\h.dict=none:=by
 cases x with
 | str z =>
  let⟨t,rfl⟩:=r;cases (show T="str" from d);exact⟨typeIs_str s z t,λ_ e=>nomatch e⟩
 | int b =>
  let⟨t,rfl⟩:=r;cases (show T="int" from d);exact⟨typeIs_int s b t,λ_ e=>nomatch e⟩
 | ref p =>
  cases r;rcases d with ⟨rfl,m,j⟩|⟨rfl,o,b,k,f⟩|⟨rfl,b⟩|⟨rfl,S,n,b⟩
  ·let⟨g,_,c,_⟩:=I.list j;refine⟨c.isList.typeIs,λa e=>?_⟩;cases e;let⟨o,n,e,g,f,_⟩:=c;exact⟨o,e,f⟩
  ·refine⟨⟨o,I.vZ p o b,k⟩,λa e=>?_⟩;cases e;exact⟨o,I.vZ _ o b,f⟩
  ·let z:∃ o,s.heap.get? p=⇑o/\o.ExactDict:=by
    rcases b with ⟨f,b⟩|⟨f,b⟩
    ·let⟨_,_,_,_,o,_,_,e,c,_⟩:=I.hok p _ b;exact⟨o,e,c⟩
    ·let⟨_,_,_,_,o,_,_,e,c,_⟩:=I.hok p _ b;exact⟨o,e,c⟩
   let⟨o,e,c⟩:=z;refine⟨⟨o,e,c.1⟩,λa g=>?_⟩;cases g;exact⟨o,e,c.2.1⟩
  ·let⟨o,_,_,_,e,c,_⟩:=I.hok p _ b;refine⟨⟨o,e,c.1⟩,λa g=>?_⟩;cases g;exact⟨o,e,c.2.1⟩
 | _=>exact False.elim d
def nq(K:Frag)(T:String)(r:V->List V->Hp->VK->Prop)(to:TE):TE:=fun a H Q=>to a H λx a=>eW K T x a/\r x [] a Q
def nD(K:Frag)(T:String)(r:V->List V->Hp->VK->Prop)(to:TE)(t:TA):TE:=fun a H Q=>to a H λx b=>eW K T x b/\t a b λa b=>r x a b Q
variable {o e:Expr} {es:List Expr} {to:TE} {t:TA} {name:Str} {jK nA:Pos} {T id:String} {r:V->List V->Hp->VK->Prop}
theorem Hf(f:PlainAttrs T)(g:Slot T name id)(h:typeOf (.builtin id)=pure (.type "method_descriptor"))(i:ge X id r)(j:PE X o to)
  (k:attributeBase o name X.env (eval o X.env)=eval o X.env:=by rfl) (l:(jK.endLine == nA.line)=true:=by rfl):PE X (.Call (.Attribute o name jK) [] [] nA) (nq X.K T r to):=by
 intro a s b H Q I e;refine wpAny_Call_method0_late k l (dB (j a s b H _ I e) λv m e=>?_);let⟨x,n,c,d,p,q⟩:=e;let⟨e,t⟩:=Nz c d p;exact⟨T,id,f,g,h,e,t,Calls.callWith_builtin rfl (PySem.evalArgs_none (i a m b n x [] v [] Q c d .nil q))⟩
theorem eX(g:PlainAttrs T)(h:Slot T name id)(i:typeOf (.builtin id)=pure (.type "method_descriptor"))(j:ge X id r)(k:PE X o to)(l:PA X (e::es) t)
  (m:attributeBase o name X.env (eval o X.env)=eval o X.env:=by rfl)
  (n:((backTo nA (starEach (e::es) X.env)).all (λx=>!x.1)&&(backToKw nA (keywordEach [] X.env)).all (λx=>x.1.isSome)
   && decide (↑(e::es)+↑([]:List Keyword)+(if ([]:List Keyword).isEmpty then 0 else 1)<30))=true:=by rfl)
  (p:(jK.endLine == nA.line)=true:=by rfl) (q:starEach (e::es) X.env=(false,eval e X.env)::starEach es X.env:=by rfl) (u:(backTo nA (starEach es X.env)).any (·.1)=false:=by rfl) :
  PE X (.Call (.Attribute o name jK) (e::es) [] nA) (nD X.K T r to t):=by
 intro a s b H Q I c;refine wpAny_Call_method_late m n p rfl (dB (k a s b H _ I c) λv w y=>?_);let⟨x,z,c,d,A,B⟩:=y;let⟨y,C⟩:=Nz c d A;exists T,id,g,h,i,y,C;let f:=l nA a w b z _ c B;rw[q]at f ⊢
 refine Calls.callWith_builtin (by show (false || (backTo nA (starEach es X.env)).any (·.1))=false;rw[u] <;> rfl) (Calls.evalArgs_plain ?_)
 exact dB f λc f ⟨w,y,z,A,B⟩=>j a f b y x w v c Q z d A B
end
end _L2
namespace _L2
open Spec Rows
def VM(a:Cx)(f:String)(r:V->List V->Hp->VK->Prop):Prop :=
 ∀ (b:List (Addr × Obj)) (s:Shared) (c:St) (H:Hp) (x:V) (d:List V) (v:Value) (e:Wp) (Q:VK),Inv a b c H s->RelV x v->cD d e->r x d H Q->
  wpAny (model a.prog a.w) a.A (call (.builtin f) (v::e)) (EP a b c Q) a.xe s
def cD.one{x:V}{a:Wp}(h:cD [x] a):∃ u,a=[u]/\RelV x u:=by
 cases h with
 | cons r t=>cases t;exact⟨Y,r⟩
def cD.two{x y:V}{a:Wp}(h:cD [x,y] a):∃ u v,a=[u,v]/\RelV x u/\RelV y v:=by
 cases h with
 | cons r t =>
  let⟨_,rfl,q⟩:=cD.one t;exact⟨E,1,r,q⟩
theorem cD.zero:∀ {a:Wp},cD [] a->a=[]
 | _,.nil=>rfl
def cD.dropLast{a:List V}{b:Wp}(h:cD a b):cD a.dropLast b.dropLast:=by
 induction h with
 | nil=>exact .nil
 | cons r t c =>
  cases t with
  | nil=>exact .nil
  | cons q d=>exact .cons r c
theorem cD.eraseIdx:∀ {a:List V} {b:Wp} (i:Nat),cD a b->cD (a.eraseIdx i) (b.eraseIdx i)
 | _,_,_,.nil=>.nil
 | _,_,0,.cons _ t=>t
 | _,_,i+1,.cons r t=>.cons r (cD.eraseIdx i t)
theorem cD.rep{a:List V}{b:Wp}(h:cD a b):∀ k:Nat,cD (List.replicate k a).flatten (List.replicate k b).flatten
 | 0=>.nil
 | k+1=>by
  rw[List.replicate_succ,List.replicate_succ,List.flatten_cons,List.flatten_cons];exact cD.append h (cD.rep h k)
def Hg{c:Type}(l:List c):l.eraseIdx (↑l-1)=l.dropLast:=by
 induction l with
 | nil=>rfl
 | cons a r d =>
  cases r with
  | nil=>rfl
  | cons b r =>
   let e:↑(a::b::r)-1=(↑(b::r)-1)+1:=by
    let f:↑(a::b::r)=↑r+2:=rfl;let f:↑(b::r)=↑r+1:=rfl;lia
   rw[e,List.eraseIdx_cons_succ,d]
   all_goals rfl
theorem Bd{a:Type}:∀ (l:List a) (i:Nat),↑(l.eraseIdx i)<=↑l
 | [],_=>d7 _
 | _::_,0=>Nat.le_succ _
 | _::r,i+1=>Nat.succ_le_succ (Bd r i)
theorem foldl_rep(a:Wp):∀ (k:Nat) (b:Wp),
  List.foldl (λc d=>c++d) b.toArray (List.replicate k a.toArray)=(b++(List.replicate k a).flatten).toArray
 | 0,b=>by simp
 | k+1,b=>by
  let e:b.toArray++a.toArray=(b++a).toArray:=by simp
  let f:(b++a)++(List.replicate k a).flatten=b++(List.replicate (k+1) a).flatten:=by
   rw[List.replicate_succ,List.flatten_cons,jq]
  rw[← f,← foldl_rep a k (b++a),← e,List.replicate_succ,jY]
section
variable {X:Cx} {ao:List (Addr × Obj)} {σ:St} {H:Hp} {s:Shared} {l b:Addr} {xs ys zs:List V}
theorem Inv.ND{c a:Wp}{n:Nat}{f:Array Value->WF}{d:Nat}(I:Inv X ao σ H s)(e:H l=⇑(.lst xs))
  (g:s.heap.get? l=some { cls:=.type "g",data:=.seq c.toArray n }) (h:f c.toArray=a.toArray) (i:cD ys a) (j:↑ys<=sizeLine) :
  Inv X ao σ (aL H l (.lst ys)) { s with heap:=s.heap.update l (Obj.mapSeq f),toks:=d }:=by
 let q:=PySem.IsL.update g f;rw[h]at q;refine I.write (x:=l) (e:=l) (by rw[e];exact trivial) (.inl rfl) (λm u b k=>(Heap.get?_update_other s.heap (Obj.mapSeq f) (Ne.symm b)).trans k) ⟨_,q⟩ ?_;exact⟨j,a,_,i,q⟩
theorem Inv.Q6{a:Wp}{c:Nat}(I:Inv X ao σ H s)(d:cD ys a)(e:↑ys<=sizeLine) :
  Inv X ao σ (aL H s⁻¹ (.lst ys)) { s with heap:=s.heap.push { cls:=.type "g",data:=.seq a.toArray },toks:=c } :=
 I.laid (λ_ _ q=>Heap.get?_push_of_some _ q) (d7 _) ⟨e,a,0,d,Heap.get?_push_size _ rfl⟩
theorem Inv.fresh(I:Inv X ao σ H s):H s⁻¹=none:=I.hok.fresh (d7 _)
def Inv.w9(I:Inv X ao σ H s)(c:H l=⇑(.lst xs)):↑xs<=sizeLine/\∃ (a:Wp) (n:Nat),cD xs a/\↑xs=↑a/\s.heap.get? l=some { cls:=.type "g",data:=.seq a.toArray n }:=by
 let⟨z,a,n,r,e⟩:=I.hok l _ c;exact⟨z,a,n,r,↑r,e⟩
def yg{n:Nat}(h:n<=sizeLine):Builtin.List.listTooLong n=false:=by
 unfold Builtin.List.listTooLong;exact decide_eq_false ∅
end
section
variable {X:Cx}
inductive Q7(x:V)(vs:List V)(H:Hp)(Q:VK):Prop
 | mk (l:Addr) (a:List V) (y:V) (_:x=↥l) (_:vs=[y]) (_:H l=⇑(.lst a)) (_:↑a<sizeLine) (_:Q .gi (aL H l (.lst (a++[y]))))
def b9:VM X "list.append" Q7:=by
 intro d s e H x f v g Q I b c h;let⟨l,i,y,rfl,rfl,a,d,q⟩:=h;cases b;let⟨u,rfl,d⟩:=c.one;let⟨z,b,n,r,c,e⟩:=I.w9 a;refine call_meets F.slot_list_append ⟨_,e,1⟩ F.entry_list_append (F.args_list_append_2 _ _) (PySem.list_append l b.toArray n u (by rw[gZ];lia)) ⟨e,?_⟩;refine⟨.gi,_,I.ND (a:=b++[u]) a e (by simp) (r.append (.cons d .nil)) ?_,1,q⟩;rw[cR,gW];lia
inductive Q8(x:V)(vs:List V)(H:Hp)(Q:VK):Prop
 | mk (l b:Addr) (a c:List V) (_:x=↥l) (_:vs=[↥b]) (_:H l=⇑(.lst a)) (_:H b=⇑(.lst c)) (_:↑a+↑c<=sizeLine) (_:Q .gi (aL H l (.lst (a++c))))
def jL:VM X "list.extend" Q8:=by
 intro g s i H x j v k Q I a b h;let⟨l,d,m,n,rfl,rfl,c,f,g,q⟩:=h;cases a;let⟨u,rfl,e⟩:=b.one;cases e;let⟨z,a,n,r,b,e⟩:=I.w9 c;let⟨j,b,g,h,k,i⟩:=I.w9 f;let f:a.toArray.size+b.toArray.size<=sizeLine:=by rw[gZ,gZ];lia
 let j:¬ (!a.toArray.isEmpty&&Builtin.List.listTooLong (a.toArray.size+b.toArray.size))=true:=by
  rw[yg f,Bool.and_false];exact lG
 refine call_meets F.slot_list_extend ⟨_,e,1⟩ F.entry_list_extend (F.args_list_extend_2 _ _) (AutoSeq1.list_extend_list_list_0 l a.toArray n d b.toArray g j (by rw[gZ];lia) ∅) ⟨e,i,?_⟩;refine⟨.gi,_,I.ND (a:=a++b) c e (by simp) (r.append h) ?_,1,q⟩;rw[cR];omega
def nN:V->List V->Hp->VK->Prop:=λx b H Q=>∃ l a y,x=↥l/\b=[]/\H l=⇑(.lst a)/\a[↑a-1]?=⇑y/\Q y (aL H l (.lst a.dropLast))
def NF:VM X "list.pop" nN:=by
 intro f s g H x i v j Q I a c h;let⟨l,k,y,rfl,rfl,b,d,q⟩:=h;cases a;let e:=c.zero;subst e;let⟨z,a,n,r,c,e⟩:=I.w9 b;let⟨u,f,g⟩:=r.get d
 let d:a.toArray[a.toArray.size-1]?=⇑u:=by
  show a.toArray[↑a-1]?=⇑u;rw[← Array.getElem?_toList,← c];exact f
 refine call_meets F.slot_list_pop ⟨_,e,1⟩ F.entry_list_pop (F.args_list_pop_1 _) (MeetsSeq.list_pop_last l a.toArray n u d (by rw[gZ];lia)) ⟨e,?_⟩;refine⟨y,_,I.ND (a:=a.dropLast) b e ?_ r.dropLast ?_,g,q⟩
 ·show a.toArray.eraseIdxIfInBounds (a.toArray.size-1)=a.dropLast.toArray;rw[gZ,List.eraseIdxIfInBounds_toArray,Hg]
 ·rw[List.length_dropLast];lia
def VN:V->List V->Hp->VK->Prop:=λx b H Q=>∃ l a i k y,x=↥l/\b=[.int i]/\H l=⇑(.lst a)/\-(2^63)<=i/\i<2^63/\seqIndex? i ↑a=⇑k/\a[k]?=⇑y/\Q y (aL H l (.lst (a.eraseIdx k)))
def NG:VM X "list.pop" VN:=by
 intro n s o H x p v r Q I a c h;let⟨l,d,i,k,y,rfl,rfl,b,f,g,j,m,q⟩:=h;cases a;let⟨u,rfl,e⟩:=c.one;let⟨t,rfl⟩:=e;let⟨z,a,n,r,c,e⟩:=I.w9 b;let⟨w,h,o⟩:=r.get m;refine call_meets F.slot_list_pop ⟨_,e,1⟩ F.entry_list_pop (F.args_list_pop_2 _ _) (MeetsSeq.list_pop_at l a.toArray n i t k w (fitsIndex_both f g) (by rw[gZ,← c];exact j) (by rw[← Array.getElem?_toList];exact h) (by rw[gZ];lia)) ⟨e,?_⟩;refine⟨y,_,I.ND (a:=a.eraseIdx k) b e ?_ (r.eraseIdx k) ?_,o,q⟩
 ·show a.toArray.eraseIdxIfInBounds k=(a.eraseIdx k).toArray;rw[List.eraseIdxIfInBounds_toArray]
 ·have:=Bd d k;lia
inductive Y9(x y:V)(H:Hp)(Q:VK):Prop
 | mk (l b:Addr) (a c:List V) (_:x=↥l) (_:y=↥b) (_:H l=⇑(.lst a)) (_:H b=⇑(.lst c)) (_:↑a+↑c<=sizeLine) (_:∀ p,H p=none->Q ↥p (aL H p (.lst (a++c))))
def jf:tH X (binaryOp .Add) Y9:=by
 intro e s f H x y v u Q I a b h;let⟨l,g,i,j,rfl,rfl,c,d,e,q⟩:=h;cases a;cases b;let⟨z,a,n,r,b,e⟩:=I.w9 c;let⟨g,b,h,c,i,f⟩:=I.w9 d;refine PySem.P.add_list e f ?_ (by rw[gZ,gZ];lia);let d:a.toArray++b.toArray=(a++b).toArray:=by simp
 rw[d];exact⟨↥_,_,I.Q6 (c:=s.toks) (r.append c) (by rw[cR];lia),1,q _ I.fresh⟩
def Za:R2:=λx y H Q=>∃ l k a,x=↥l/\y=.int k/\H l=⇑(.lst a)/\-(2^63)<=k/\k<2^63/\↑a*k.toNat<=sizeLine/\
 ∀ p,H p=none->Q ↥p (aL H p (.lst (List.replicate k.toNat a).flatten))
def Q9{b:Type}(a:List b)(k:Nat):(List.replicate k a).flatten.length=k*↑a:=by
 induction k with
 | zero=>simp
 | succ k c=>rw[List.replicate_succ,List.flatten_cons,cR,c,Nat.succ_mul,Nat.add_comm]
def NH:tH X (binaryOp .Mult) Za:=by
 intro m s w H x y z A Q I c d h;let⟨l,k,B,rfl,rfl,g,i,j,f,q⟩:=h;cases c;let⟨t,rfl⟩:=d;let⟨z,b,n,r,c,e⟩:=I.w9 g;let d:b.toArray.size*k.toNat<=sizeLine:=by rw[gZ,← c];exact f
 let o:¬ b.toArray.size*k.toNat > (2^63-1) / 8:=by
  have:(sizeLine:Nat)<=(2^63-1) / 8:=by decide
  lia
 let p:¬ (!Builtin.List.listFitsIndex k)=true:=by
  rw[fitsIndex_both i j];exact lG
 let u:¬ Builtin.List.listTooLong (b.toArray.size*k.toNat)=true:=by
  rw[yg d];exact lG
 let v:List.foldl (λc d=>c++d) #[] (List.replicate (if b.toArray.isEmpty=true then 0 else k.toNat) b.toArray)=(List.replicate k.toNat b).flatten.toArray:=by
  let g:∀ m:Nat,List.foldl (λc d=>c++d) #[] (List.replicate m b.toArray)=(List.replicate m b).flatten.toArray:=λm=>by
   have:=foldl_rep b m [];rw[List.nil_append]at this;exact this
  rw[g]
  cases b with
  | nil=>simp
  | cons a c=>rw[if_neg (by simp)]
 refine wpAny_binaryOp_repeat_ref (T:="g") (U:="int") (by decide) ⟨_,e,1⟩ (λc=>typeIs_int c k t) noFill_list_mul F.fills_int_mul F.slot_int_rmul repeat_list F.slot_int_index.lookup (call_meets F.slot_int_rmul (typeIs_int s k t) F.entry_int_rmul (F.args_int_rmul_2 _ _) (int___rmul___int_list k t l b.toArray n) ⟨e,1,⟨_,e,1⟩,call_meets F.slot_list_mul ⟨_,e,1⟩ F.entry_list_mul (F.args_list_mul_2 _ _) (AutoListH.list___mul___list_int_3 l b.toArray n k t p o u) ⟨e,?_⟩⟩);rw[v];exact⟨↥_,_,I.Q6 (c:=s.toks) (r.rep k.toNat) (by rw[Q9,Nat.mul_comm];exact f),1,q _ I.fresh⟩
end
end _L2
namespace _gl
open PySem.W Calls Rows
def xh{P:Params}{h:Heap}:∀ (c:UF) (d:Wp),WellAll P h d (c.map WData.int)->IntsAre d c:=by
 intro c
 induction c with
 | nil =>
  intro d w;rw[List.map_nil]at w;cases w;exact .nil
 | cons n c e =>
  intro d w;rw[jo]at w
  cases w with
  | cons a b =>
   cases a;exact .cons _ _ (e _ b)
theorem Ld{l:OpenLaw}{n:Nat}(j:l.most=⇑n){P:Params}{h:Heap}{args:List WData}{d:Wp}
  (e:l.row.toRowW.claim.pre args=true) (k:WellAll P h d args) :
  ∃ f g a,d=[Value.ref f]/\args=[WData.list (a.map WData.int)]/\h.get? f=some { cls:=.type "g",data:=.seq g.toArray }/\IntsAre g a/\↑a<=n:=by
 let b:WShape.hasAll [] args [.list .int]=true:=(pre_splitW e).1;let i:l.pre.holds [] { args:=args }=true:=(pre_splitW e).2;let⟨s,t,rfl,m,o⟩:=hasAllW_cons b;obtain rfl:=hasAllW_nil o;let⟨u,rfl,p⟩:=hasW_list m;let⟨a,rfl⟩:=items_int p
 let q:↑a<=n:=by
  unfold OpenLaw.pre at i
  let b:(WTm.not (.lt (.lit (.int (n:Int))) (.len (.arg 0)))).holds [] { args:=[.list (a.map .int)] }=true:=by
   let b:=(holds_andW i).1;rw[j]at b;exact b
  let c:=condW_of b (w_not (w_lt w_lit (w_len_list (w_arg rfl))));rw[cC]at c;refine Nat.le_of_not_lt λb=>?_;have b:(n:Int)<((↑a:Nat):Int):=by omega
  first
   | (rw[decide_eq_true b]at c;exact absurd c (by decide))
   | (simp at c;lia)
 cases k with
 | cons c r =>
  cases r
  cases c with
  | list ho b=>exact⟨E,a,V,ho,xh a _ b,q⟩
theorem Lf(l:OpenLaw)(args:List WData):l.row.toRowW.claim.post args (.bool true) args=true :=
 postW_of (r:=l.row.toRowW) (X:=(true == true))
  (show WShape.has [] (.bool true) .bool=true by first|rfl|decide|simp[WShape.has,WShape.arms,WShape.armsAll])
  (show (WTm.eq .res (.lit (.bool true))).value [] { args:=args,res:=⇑(.bool true),after:=args }=⇑(.bool (true == true)) from w_eq_bool (w_res rfl) w_lit) rfl
theorem Eo{l:OpenLaw}{p:Nat}{q:Program}{r:Uf}{t:(X1)->Heap->Prop}{u:World->Heap->Prop}{d:DefRec}
  (x:l.most=⇑p) (y:d.params.defaults=[])
  (z:∀ (w:World) (j a:Shared) (e k:X1) (c:Addr) (o:Obj) (m f n:Value) (g:Addr) (b:Wp) (h:UF),
   Ground q r [] t w j e k a.heap->u w a.heap->
   a.heap.get? c=⇑o->o.data=.func (docDef d.name d.params d.body d.scope m f n)->a.heap.CodeRec f d.name->e d.name=⇑↥c->
   a.heap.get? g=some { cls:=.type "g",data:=.seq b.toArray }->IntsAre b h->↑h<=p->a.gens=#[]->
   codeAny (model l.prog w) callerA (.call ↥c ⟨[↥g],[]⟩) (λv i=>v=.ok (.ret (.bool true))/\OldK a.heap i.heap/\i.os=a.os/\AllBare i.gens) a) :
  WalkO q r t u l.row.toRowW d [] (λA b=>PySem.call A b):=by
 intro w j a e k G Y c o m f n B kV C D F s H I args M T J U W L X;obtain rfl:B=.none:=Dflts.none s y;obtain rfl:kV=.none:=Dflts.noKw s;let⟨g,b,h,rfl,rfl,s,B,M⟩:=Ld x J L;refine enter_call (codeAny_mono (z w j a e k c o m f n g b h G Y C (fd_plain D) F H s B M I) λv i N=>?_);let⟨rfl,O,R,S⟩:=N;exact⟨.inl ⟨.bool true,.bool true,[],1,λ_=>rfl,.bool true,Lf l _,λ_=>⟨List.Pairwise.nil,λ_ s=>(nomatch s)⟩⟩,O,R,S⟩
end _gl
namespace _L2
open Spec Rows
theorem Bf:∀ {a:Wp} {ns:UF},IntsAre a ns->cD (ns.map V.int) a
 | _,_,.nil=>.nil
 | _,_,.cons n t h=>.cons ⟨t,1⟩ (Bf h)
def VR(H:Hp):Prop:=∀ b,H b=none\/∃ o a,H b=⇑(.Jl o (.lst a))
theorem NK{P:Program}{w:World}{K:Frag}{h v:X1}{C:K0}{D:Nat}{y c:Addr}{G:FuncData}{x:Str}{I:Sp}{a:Shared}{g:Wp}{i:UF}
  (J:K.In a.heap) (L:a.heap.Ns mainGlobals h) (d:a.heap.Ns builtinsNs v) (ab:∀ x:Str,x≠"V"->v x=bootBuiltins x) (ae:a.heap.NoLimit) (hg:a.gens=#[])
  (n:a.heap.get? c=some { cls:=.type "g",data:=.seq g.toArray }) (M:IntsAre g i) (N:↑i<=sizeLine) (hr:jd D callerA)
  (ag:∀ A:Heap,K.In A->A.Ns mainGlobals h->bq P w K h A C D y G [x] I) (Zd:∀ (s:Shared) (u:Value),BindsTo s G ⟨[u],[]⟩ [(x,u)])
  (Lb:∀ H:Hp,VR H->bI K H c (i.map V.int)->I [↥c] H (λB _=>B=.bl true) λ_ _ _=>False)
  (ai:∀ H e f,C [] H a (λ_ _ _=>False) e f->False) :
  codeAny (model P w) callerA (.call ↥y ⟨[↥c],[]⟩) (λr f=>r=.ok (.ret (.bool true))/\OldK a.heap f.heap/\f.os=a.os/\AllBare f.gens) a:=by
 let F:=Bf M;let am:=↑M
 let O:∀ H:Hp,VR H->bI K H c (i.map V.int)->tG P w H a.heap->(∀ b,H b≠none->b=c)->(H c≠none->K.lookup c=none)->
   codeAny (model P w) callerA (.call ↥y ⟨[↥c],[]⟩) (λr f=>r=.ok (.ret (.bool true))/\OldK a.heap f.heap/\f.os=a.os/\AllBare f.gens) a:=by
  intro H R hS S T hK;let U:∀ {b:Addr} {o:Obj},a.heap.get? b=⇑o->H b=none->(Cq a.heap H).get? b=⇑o:=λe an=>M6 e an
  let YX:∀ {b:Addr} {o:Obj} {j:Array DictEntry} {k:Nat},a.heap.get? b=⇑o->o.data=.dict j k->H b=none:=λ{b o j k} e p=>by
   cases q:H b with
   | none=>rfl
   | some u =>
    let l:b=c:=T b (by rw[q];simp);subst l;rw[n]at e;cases e;let t:Data.seq g.toArray _=Data.dict j k:=p;cases t
  let t:∀ {b:Addr} {m:X1},a.heap.Ns b m->(Cq a.heap H).Ns b m:=λ{b m} ⟨o,j,k,e,p,r⟩=>⟨o,j,k,U e (YX e p),p,r⟩
  let W:K.In (Cq a.heap H):=λb o e=>U (J b o e) (by
   cases q:H b with
   | none=>rfl
   | some u =>
    let l:b=c:=T b (by rw[q];simp);subst l
    rw[hK (by rw[q];simp)]at e;cases e)
  let j:Mod K h (Cq a.heap H):=⟨W,t L,⟨v,t d,ab⟩,let ⟨k,p,T⟩:=ae;⟨k,t p,T⟩⟩;let e0:G4 P w K h (Cq a.heap H) callerA [] a H:=⟨1,j,λb o e=>QM e,Nat.le_of_eq (KJ _ _),trivial,λb d=>absurd (show b∈([]:UV) from d) (by simp),S,.of_eq hg⟩;refine codeAny_mono ((ag _ W (t L)).run callerA [] a H ⟨[↥c],[]⟩ [↥c] [↥c] _ _ hr e0 (Zd a ↥c) (.cons rfl .nil) (Lb H R hS)) λr f l=>?_
  cases r with
  | error e=>exact (ai H e f l).elim
  | ok fl =>
   cases fl with
   | next=>exact False.elim l
   | brk=>exact False.elim l
   | cont=>exact False.elim l
   | ret u =>
    let⟨B,j,os,ao,X,ap,r',q⟩:=l;let q':B=.bl true:=q;subst q';obtain rfl:u=Value.bool true:=r';refine⟨1,OldK.of_keep λb o e=>?_,os,ao⟩
    cases q:H b with
    | none=>exact X.keep b o e q (by intro z;exact absurd (show b∈([]:UV) from z) (by simp)) (by simp)
    | some u =>
     rcases R b with z|⟨ob,j,z⟩
     ·rw[q]at z;cases z
     ·let j:=X.Cp b ob _ z;let⟨e1,_⟩:=S b _ z;let⟨e2,_⟩:=ap b _ j;rw[e]at e1;cases e1;exact e2
 cases k:K.lookup c with
 | some o =>
  let e:=J c o k;rw[n]at e;cases e;refine O (λ_=>none) (λ_=>.inl rfl) (.inr ⟨_,g.toArray,_,k,V,1,by rw[gZ,am];exact N,by simpa using F⟩) (λb u z=>by let j:(none:Option HO)=⇑u:=z;cases j) (λb z=>absurd rfl z) λz=>absurd rfl z
 | none =>
  refine O (λb=>if b=c then some (.Jl { cls:=.type "g",data:=.seq g.toArray } (.lst (i.map V.int))) else none) (λb=>?_) (.inl (.inr ⟨{ cls:=.type "g",data:=.seq g.toArray },if_pos rfl⟩)) (λb u z=>?_) (λb z=>?_) λ_=>k
  ·by_cases d:b=c
   ·exact .inr ⟨E,if_pos d⟩
   ·exact .inl (if_neg d)
  ·by_cases d:b=c
   ·let j:=(if_pos d).symm.trans z;cases j;subst d;exact⟨n,by rw[cC];exact N,g,_,F,n⟩
   ·let j:=(if_neg d).symm.trans z;cases j
  ·by_cases d:b=c
   ·exact d
   ·exact absurd (if_neg d) z
end _L2
namespace _L2
open Spec Rows
theorem Rf{l:PySem.W.OpenLaw}{n k:Nat}{v:Program}{y:Uf}{z:(X1)->Heap->Prop}{m:World->Heap->Prop}{e:DefRec}{K:Params->Frag}{o:World->K0}{p:World->Sp}{x:Str}
  (A:l.most=⇑n) (B:n<=sizeLine) (C:e.params.defaults=[]) (D:jd k callerA)
  (I:∀ (w:World) (h:Heap),m w h->(K w.params).In h)
  (J:∀ (w:World) (a:X1) (b:Addr) (h:Heap),(K w.params).In h->h.Ns mainGlobals a->a e.name=⇑↥b->
   ∃ f:FuncData,(∀ (s:Shared) (u:Value),BindsTo s f ⟨[u],[]⟩ [(x,u)])/\
    ∀ g:Heap,(K w.params).In g->g.Ns mainGlobals a->bq l.prog w (K w.params) a g (o w) k b f [x] (p w))
  (L:∀ (w:World) (H:Hp) (c:Addr) (d:UF),↑d<=n->VR H->bI (K w.params) H c (d.map V.int)->p w [↥c] H (λM _=>M=.bl true) λ_ _ _=>False)
  (N:∀ (w:World) (H:Hp) (s:Shared) (i:Value) (j:Shared),o w [] H s (λ_ _ _=>False) i j->False) :
  PySem.W.WalkO v y z m l.row.toRowW e [] (λO q=>PySem.call O q):=by
 refine _gl.Eo A C λw t F a W b X pm cd wg c q d G Y ho hd M9 R S T r U=>?_;have t:=I w _ Y;let⟨f,W,X⟩:=J w a b _ t G.T.g R;exact NK t G.T.g G.T.b G.T.builtins G.T.nolimit U S T (fX r B) D X W (λH t G=>L w H c d r t G) λH i j=>N w H F i j
end _L2
namespace _L2
open Spec Rows
def mR(s:Stmt):Arguments:=match s with
 | .FunctionDef _ a _ _ _ _ _ _ _ _=>a
 | _=>{ posonlyargs:=[],args:=[],vararg:=none,kwonlyargs:=[],kw_defaults:=[],kwarg:=none,defaults:=[] }
def ju(s:Stmt):List Stmt:=match s with
 | .FunctionDef _ _ b _ _ _ _ _ _ _=>b
 | _=>[]
def cy(s:Stmt):Scope:=match s with
 | .FunctionDef _ _ _ _ _ _ a _ _ _=>a
 | _=>{ kind:=.function,names:=[],isGenerator:=false,isCoroutine:=false }
abbrev cS:K0:=λ_ _ _ _ _ _=>False
abbrev E0:XK:=λ_ _ _=>False
theorem bO{a:Cx}:m6 cS a E0:=λ_ _ _ _ _ _ _ h=>h.elim
structure NL(K:Frag)(x fH:Str)(st:Stmt)(f:Addr)(fd:FuncData):Prop where
 ex:∃ (oc:Value) (od:Option Addr) (kV wg pm:Value) (an:Option Addr) (dD ct:Value) (MO:Array (WP)),
  fd=fnOf x fH (mR st) (ju st) (cy st) .none kV wg pm an dD ct/\K.lookup f=some ⟨oc,od,.func fd,MO⟩/\codeIn K dD fH=true
 kp:keepIn K ↥f=true
section
variable {P:Program} {w:World} {K:Frag} {mg:X1} {zt:Heap}
theorem NL.ok{x d:Str}{b:Stmt}{f:Addr}{N e:Uf}{k:Nat}{g:Sp}(i:NL K x d b f j)(l:qB N e (cy b))(m:∀ a H Q E,g a H Q E->↑a=↑e)
  (n:∀ (c:Value) (A:Around) (h:List Env) (s:Shared) (H:Hp) (a:List V) (Q:VK) (E:XK),jd k (A.deeper (envOfC d (cy b) s⁻¹ f c))->g a H Q E->
   ∃ t,Jq (Cv cS P w K mg zt N d (cy b) f c A h s H E).Js (ju b) t/\t { nx:=λ_ o=>Q .gi o,rt:=Q } (start N a) H):bq P w K mg zt cS (k+1) f j e g:=by
 let⟨q,r,kV,u,v,y,c,z,B,rfl,lk,p⟩:=i.ex;refine YY lk p l m λA h s H a Q E p q=>?_;let⟨t,r,u⟩:=n c A h s H a Q E p q;exact⟨t,r.Js,u⟩
theorem NL.binds{x i:Str}{a:Stmt}{j:Addr}{b:Uf}(k:NL K x i a j l)
  (m:∀ (kV c d:Value) (e:Option Addr) (f g:Value) (h:Wp),↑h=↑b->bindArgs (fnOf x i (mR a) (ju a) (cy a) .none kV c d e f g) ⟨h,[]⟩=pure (b.zip h)):Binds K l b []:=by
 let⟨n,o,kV,c,d,e,f,g,p,rfl,lk,q⟩:=k.ex;exact .all (m kV c d e f g)
theorem Hj{x b:Str}{a:Stmt}{f:Addr}{i:Value}{j d:Option Addr}{k:Array (WP)}{kV e g c h:Value}(l:K.lookup f=some ⟨i,j,.func (fnOf x b (mR a) (ju a) (cy a) .none kV e g d c h),k⟩)
  (m:codeIn K c b=true) (n:keepIn K ↥f=true):NL K x b a f (fnOf x b (mR a) (ju a) (cy a) .none kV e g d c h):=⟨⟨i,j,kV,e,g,d,c,h,k,1,l,m⟩,n⟩
end
theorem gS{A:Around}{k:Nat}(a:jd k A):A.units+1<cLine:=Nat.lt_of_le_of_lt (Nat.add_le_add_left (by decide:1<=64) _) a.units
section
variable {X:Cx}
theorem pv(i:Nat){x:Str}{a:Pos}(b:X.N[i]?=⇑x:=by rfl)(c:dV X.env.scope x:=by and_intros)(d:(x == ("r":Str))=false:=by decide)
  (e:(x == ("__classdict__":Str))=false:=by decide):PE X (.Name x a) (QO i):=Vn b c d e
end
def gx{A B:Prop}(h:B):if false=true then A else B:=by
 rw[if_neg lG];exact h
def iX{A B:Prop}(h:A):if true=true then A else B:=by
 rw[if_pos rfl];exact h
def dN{c A B:Prop} [Decidable c] (a:c->A) (b:¬ c->B):if c then A else B:=by
 by_cases h:c
 ·rw[if_pos h];exact a h
 ·rw[if_neg h];exact b h
def NN{c A B:Prop} [Decidable c] (a:c) (h:B):if (!decide c)=true then A else B:=by
 rw[decide_eq_true a];exact gx h
def aH(H a:Hp):Prop:=∀ b o,H b=⇑o->a b=⇑o
theorem aH.refl(H:Hp):aH H H:=λ_ _ h=>h
theorem aH.trans{H a c:Hp}(e:aH H a)(b:aH a c):aH H c:=λd o h=>b d o (e d o h)
def aH.free{H a:Hp}(e:aH H a){l:Addr}(h:a l=Option.none):H l=Option.none:=by
 cases q:H l with
 | none=>rfl
 | some o =>
  rw[e l o q]at h;cases h
end _L2
namespace _gu
open _L2
def top(i:Nat):Stmt:=PySem.Challenge.pw_inkroot_k55_shares.main.body.getD i (.Pass ⟨0,0,0,0⟩)
def Rg:Stmt->List Stmt
 | .ClassDef (body:=b) ..=>b
 | _=>[]
def gH(i j:Nat):Stmt:=(Rg (top i)).getD j (.Pass ⟨0,0,0,0⟩)
inductive DI(K:Frag)(x:Str)(st:Stmt)(f:Addr):Prop
 | mk {b:Value} {c d:Option Addr} {e:Array (WP)} {kV g h a i:Value} (_:nsIn K mainGlobals x=⇑(⇑↥f)) (_:K.lookup f=some ⟨b,c,.func (fnOf x x (mR st) (ju st) (cy st) .none kV g h d a i),e⟩) (_:codeIn K a x=true) (_:keepIn K ↥f=true)
inductive MI(K:Frag)(C:Addr)(x fH:Str)(st:Stmt)(f:Addr):Prop
 | mk {b:Value} {c d:Option Addr} {e:Array (WP)} {kV g h a i:Value} (_:findIn K ↥C x=⇑(⇑↥f)) (_:isFn K ↥f=true) (_:K.lookup f=some ⟨b,c,.func (fnOf x fH (mR st) (ju st) (cy st) .none kV g h d a i),e⟩) (_:codeIn K a fH=true) (_:keepIn K ↥f=true)
inductive CI(K:Frag)(x:Str)(C:Addr):Prop
 | mk (_:nsIn K mainGlobals x=⇑(⇑↥C)) (_:plainGet K C Str.empty=true) (_:hasDictIn K C=true) (_:plainOver K C=true) (_:findIn K ↥C "__setattr__"=⇑(⇑(.builtin "object.__setattr__"))) (_:makesIn K C=true) (_:keepIn K ↥C=true)
class inductive Ep(K:Frag)
 | mk (a:Addr) (b:UF) (_:vs=[↥a]) (_:bI K H a (b.map V.int)) (_:↑b<=63) (_: ∀ c,Q (.bl true) c)
abbrev Bg:Stmt:=top 70
abbrev yh:Stmt:=top 71
abbrev wz:Stmt:=top 72
abbrev sf:Stmt:=top 73
abbrev NO:Stmt:=top 12
abbrev NP:Stmt:=top 13
abbrev rj:Stmt:=top 15
abbrev JH:Stmt:=top 16
abbrev Ue:Stmt:=top 17
abbrev sj:Stmt:=top 18
abbrev JI:Stmt:=top 21
abbrev oA:Stmt:=top 23
abbrev yi:Stmt:=top 25
abbrev yj:Stmt:=top 26
abbrev oB:Stmt:=gH 28 0
abbrev wA:Stmt:=gH 28 1
abbrev yk:Stmt:=top 32
abbrev Hl:Stmt:=top 33
abbrev tQ:Stmt:=top 40
abbrev Ug:Stmt:=top 41
abbrev tR:Stmt:=top 38
abbrev lV:Stmt:=top 39
abbrev Bh:Stmt:=top 34
abbrev nT:Stmt:=top 35
abbrev NQ:Stmt:=top 36
abbrev Er:Stmt:=top 43
abbrev tS:Stmt:=top 44
abbrev Ho:Stmt:=top 45
abbrev NR:Stmt:=top 46
abbrev yl:Stmt:=top 47
abbrev yo:Stmt:=top 49
abbrev JJ:Stmt:=top 48
abbrev yp:Stmt:=top 50
abbrev tT:Stmt:=top 51
abbrev tU:Stmt:=top 52
abbrev su:Stmt:=top 54
abbrev wB:Stmt:=top 55
abbrev Es:Stmt:=top 57
abbrev oE:Stmt:=gH 58 0
abbrev yq:Stmt:=gH 58 3
abbrev wC:Stmt:=gH 58 2
abbrev wD:Stmt:=gH 58 1
abbrev lW:Stmt:=gH 58 4
abbrev kO:Stmt:=gH 58 5
abbrev yr:Stmt:=gH 58 7
abbrev jM:Stmt:=gH 58 10
abbrev wG:Stmt:=gH 58 9
abbrev pO:Stmt:=gH 60 0
abbrev pP:Stmt:=gH 30 0
abbrev pQ:Stmt:=gH 62 0
abbrev yt:Stmt:=gH 62 2
abbrev yu:Stmt:=gH 62 1
abbrev pR:Stmt:=gH 62 6
abbrev tV:Stmt:=top 67
abbrev pS:Stmt:=gH 68 1
abbrev rm:Stmt:=gH 68 26
abbrev oF:Stmt:=gH 68 2
abbrev pT:Stmt:=gH 68 3
abbrev pU:Stmt:=gH 68 7
abbrev pV:Stmt:=gH 68 30
abbrev rA:Stmt:=gH 68 6
abbrev tW:Stmt:=gH 68 27
abbrev kQ:Stmt:=gH 68 4
abbrev tX:Stmt:=gH 68 8
abbrev mS:Stmt:=gH 68 0
abbrev tY:Stmt:=gH 68 9
abbrev pW:Stmt:=gH 68 11
abbrev tZ:Stmt:=gH 68 28
abbrev oG:Stmt:=gH 68 12
abbrev t6:Stmt:=gH 68 13
abbrev rB:Stmt:=gH 68 10
abbrev kT:Stmt:=gH 62 5
abbrev yv:Stmt:=gH 62 4
abbrev lX:Stmt:=gH 68 24
abbrev t7:Stmt:=gH 62 8
abbrev lY:Stmt:=gH 68 5
abbrev rC:Stmt:=gH 68 17
abbrev oH:Stmt:=gH 68 44
abbrev yx:Stmt:=top 92
abbrev sD:Stmt:=top 93
abbrev pX:Stmt:=top 81
abbrev yz:Stmt:=top 82
abbrev yC:Stmt:=top 83
abbrev wH:Stmt:=top 74
abbrev yD:Stmt:=top 76
abbrev rD:Stmt:=top 77
abbrev t9:Stmt:=top 78
abbrev Bj:Stmt:=top 79
abbrev Bk:Stmt:=top 80
abbrev rE:Stmt:=top 84
abbrev sE:Stmt:=top 85
abbrev wI:Stmt:=top 86
abbrev rF:Stmt:=gH 68 14
abbrev yE:Stmt:=top 87
abbrev rG:Stmt:=top 88
abbrev rH:Stmt:=top 89
abbrev yF:Stmt:=top 90
abbrev yG:Stmt:=top 91
abbrev sF:Stmt:=top 94
abbrev wJ:Stmt:=top 95
abbrev wK:Stmt:=top 96
abbrev lu:Stmt:=top 97
abbrev Lg:Stmt:=top 98
end _gu
namespace _gu
open _L2
inductive Pm(K:Frag)(mg:X1)(fa:Addr):Prop
 | mk {h:Heap} {g i j:Tok} (b c d e f a:Addr) (k:K.In h) (G:h.Ns mainGlobals mg) (l:mg "law"=⇑↥fa)
  (m:CI K "Shelf" b)
  (n:findIn K ↥b "A"=⇑none)
  (o:findIn K ↥b "w"=⇑none)
  (p:CI K "Well" c)
  (q:findIn K ↥c "I"=⇑none)
  (r:findIn K ↥c "K"=⇑none)
  (t:findIn K ↥c "W"=⇑none)
  (u:CI K "Blots" d)
  (v:findIn K ↥d "stains"=⇑none)
  (w:CI K "Ties" e)
  (x:findIn K ↥e "given"=⇑none)
  (y:findIn K ↥e "pairs"=⇑none)
  (z:CI K "Dues" f)
  (A:findIn K ↥f "sums"=⇑none)
  (B:CI K "Library" a)
  (C:findIn K ↥a "B"=⇑none)
  (D:findIn K ↥a "y"=⇑none)
  (H:findIn K ↥a "G"=⇑none)
  (I:findIn K ↥a "O"=⇑none)
  (J:findIn K ↥a "dues"=⇑none)
  (L:findIn K ↥a "book"=⇑none)
  (M:DI K "_law_src" Bg f0)
  (N:DI K "_law_next" yh f1)
  (O:DI K "_law_whole" wz f2)
  (T:DI K "_law_same" sf f3)
  (U:DI K "plain" NO f4)
  (q5:DI K "size" NP f5)
  (q6:DI K "check_places" rj f6)
  (q7:DI K "pieces" JH f7)
  (q8:DI K "part" Ue f8)
  (q9:DI K "addresses" sj f9)
  (Bp:DI K "spread" JI rn)
  (ab:DI K "first_reaching" oA ro)
  (ae:DI K "left_over" yi rp)
  (ag:DI K "without" yj rr)
  (ai:MI K d "s" "Blots.__init__" oB ry)
  (am:MI K d "blot" "Blots.blot" wA rz)
  (an:DI K "windows" yk rZ)
  (ao:DI K "below" Hl r3)
  (ap:DI K "way_between" tQ r4)
  (aq:DI K "ring" Ug r6)
  (ar:DI K "item_weight" tR si)
  (as:DI K "weights_below" lV sr)
  (av:DI K "item_row" Bh sv)
  (aw:DI K "views_below" nT sw)
  (ax:DI K "shown" NQ n6)
  (aA:DI K "goes_on" Er sC)
  (aM:DI K "plain_items" tS sG)
  (aU:DI K "inked" Ho sK)
  (a0:DI K "dealt" NR sT)
  (a1:DI K "put_among" yl sV)
  (a2:DI K "put_items" yo tf)
  (a3:DI K "parted" JJ tj)
  (a4:DI K "cut_items" yp f32)
  (a5:DI K "moved_items" tT tk)
  (a6:DI K "fixed_items" tU tm)
  (a7:DI K "ink_words" su tq)
  (a8:DI K "shown_deed" wB ts)
  (a9:DI K "changed" Es tu)
  (ba:MI K b "s" "Shelf.__init__" oE tz)
  (bb:MI K b "now" "Shelf.now" yq tA)
  (bc:MI K b "many" "Shelf.many" wC tI)
  (be:MI K b "step" "Shelf.step" wD tJ)
  (bi:MI K b "check_sheet" "Shelf.check_sheet" lW t5)
  (bj:MI K b "check_moment" "Shelf.check_moment" kO ub)
  (bm:MI K b "rows_then" "Shelf.rows_then" jM ui)
  (bn:MI K b "m" "Shelf.rows" wG uj)
  (bo:MI K b "k" "Shelf.row" yr uk)
  (bp:MI K e "s" "Ties.__init__" pO ur)
  (br:MI K f "s" "Dues.__init__" pP ut)
  (bt:MI K c "s" "Well.__init__" pQ uv)
  (bv:MI K c "size" "Well.size" yt uA)
  (bA:MI K c "pour" "Well.pour" yu uC)
  (bB:MI K c "holds" "Well.holds" pR uQ)
  (bF:DI K "check_weave" tV uY)
  (bJ:MI K a "s" "Library.__init__" mS u7)
  (bL:MI K a "enter" "Library.enter" pS u8)
  (bQ:MI K a "change" "Library.change" oF u')
  (b0:MI K a "many" "Library.many" rm va)
  (b1:MI K a "begin" "Library.begin" pT vb)
  (b2:MI K a "5" "Library.fresh" pU vk)
  (b3:MI K a "ink" "Library.ink" tW vr)
  (b4:MI K a "check_held" "Library.check_held" kQ vu)
  (b5:MI K a "pour" "Library.pour" rA vw)
  (b6:MI K a "put" "Library.put" tX vx)
  (b7:MI K a "shown" "Library.shown" pV f64)
  (ca:MI K a "cut" "Library.cut" tY vy)
  (cb:MI K a "quote" "Library.quote" pW vz)
  (cc:MI K a "k" "Library.row" tZ vT)
  (cd:MI K a "window" "Library.window" oG v')
  (ce:MI K a "fix" "Library.fix" t6 wa)
  (cf:MI K a "move" "Library.move" rB wb)
  (cg:MI K c "check_address" "Well.check_address" kT wd)
  (ch:MI K c "C" "Well.hand" yv wf)
  (ci:MI K c "poured" "Well.poured" t7 wh)
  (cj:MI K a "check_own" "Library.check_own" lY wn)
  (ck:MI K a "blot" "Library.blot" rC wq)
  (cm:MI K a "poured_by" "Library.poured_by" lX wu)
  (cn:MI K a "shares" "Library.shares" oH wx)
  (cp:DI K "_law_sign" yx wy)
  (cq:DI K "_law_text" sD wE)
  (cr:DI K "_law_world" pX wP)
  (cs:DI K "_law_keep" yz wS)
  (cv:DI K "_law_swap" yC wT)
  (cw:DI K "_law_spell" wH w1)
  (cx:DI K "_law_show" yD w2)
  (cN:DI K "_law_reached" rD w4)
  (c0:DI K "_law_pieces" t9 w7)
  (c1:DI K "_law_put" Bj w8)
  (c2:DI K "_law_cut" Bk w')
  (c3:DI K "_law_weighed" rE xa)
  (c4:DI K "_law_fits" sE xb)
  (c5:DI K "_law_after" wI xc)
  (c6:MI K a "back" "Library.back" rF xf)
  (c7:DI K "_law_done" yE xl)
  (c8:DI K "_law_ink_row" rG xp)
  (da:DI K "_law_move_by" rH xt)
  (dd:DI K "_law_draw" yF xv)
  (de:DI K "_law_deed" yG xw)
  (df:DI K "_law_pour" sF xz)
  (di:DI K "_law_fresh" wJ xI)
  (Ze:DI K "_law_begin" wK xL)
  (Zf:DI K "_law_shares" lu xV)
  (Zg:DI K "law" Lg xW)
  (z0:nsIn K mainGlobals "len"=⇑none)
  (z1:nsIn K mainGlobals "g"=⇑none)
  (z2:nsIn K mainGlobals "q"=⇑none)
  (z3:nsIn K mainGlobals "int"=⇑none)
  (z4:nsIn K mainGlobals "bool"=⇑none)
  (z5:nsIn K mainGlobals "str"=⇑none)
  (z6:nsIn K mainGlobals "v"=⇑none)
  (z7:nsIn K mainGlobals "zip"=⇑none)
  (z8:nsIn K mainGlobals "isinstance"=⇑none)
  (z9:nsIn K mainGlobals "sum"=⇑none)
  (dq:nsIn K mainGlobals "min"=⇑none)
  (dr:nsIn K mainGlobals "max"=⇑none)
  (ds:nsIn K mainGlobals "all"=⇑none)
  (dv:nsIn K mainGlobals "S"=⇑none)
  (rJ:nsIn K mainGlobals "MOST_SHEETS"=⇑(⇑(.int 40 g)))
  (rK:nsIn K mainGlobals "MOST_WEIGHT"=⇑(⇑(.int 200 i)))
  (Eu:nsIn K mainGlobals "HIDDEN"=⇑(⇑(.str "#" j)))
  (uc:nsIn K mainGlobals "size_spans"=⇑(⇑↥f5))
  (rL:nsIn K mainGlobals "shown_weave"=⇑(⇑↥n6))
def Uh:Prop:=∀ {P:Program} {w:World} {K:Frag} {mg:X1} {b:Addr},Pm K mg b->∃ c:FuncData,(∀ (s:Shared) (v:Value),BindsTo s c ⟨[v],[]⟩ [("l",v)])/\∀ a:Heap,K.In a->a.Ns mainGlobals mg->bq P w K mg a cS 48 b c ["l"] (Ep K)
theorem walk{l:PySem.W.OpenLaw}{q:Program}{g:Uf}{i:(X1)->Heap->Prop}{c:World->Heap->Prop}{d:DefRec}{K:Params->Frag}(j:l.most=some 63)(k:d.params.defaults=[])
  (m:∀ (w:World) (h:Heap),c w h->(K w.params).In h)
  (n:∀ (w:World) (a:X1) (e:Addr) (h:Heap),(K w.params).In h->h.Ns mainGlobals a->a d.name=⇑↥e->
   ∃ f:FuncData,(∀ (s:Shared) (u:Value),BindsTo s f ⟨[u],[]⟩ [("l",u)])/\∀ b:Heap,(K w.params).In b->b.Ns mainGlobals a->bq l.prog w (K w.params) a b cS 48 e f ["l"] (Ep (K w.params))) :
  PySem.W.WalkO q g i c l.row.toRowW d [] (λo p=>PySem.call o p) :=
 _L2.Rf (n:=63) (k:=48) (x:="l") (o:=λ_=>cS) (p:=λw=>Ep (K w.params)) j (by decide) k ⟨1,by decide,by decide⟩ m n (λ_ _ r t v _ x=>⟨r,t,1,x,v,λ_=>rfl⟩) λ_ _ _ _ _ z=>z
end _gu
namespace InkHd
open PySem.W Rows
set_option maxRecDepth 100000 in
set_option maxHeartbeats 0 in
def hd2(A:_gu.Uh):PySem.Challenge.rw_inkroot_k55_shares.Holds:=by
 refine hd_k55 ?_
 k_fill
 refine _gu.walk (l:=PySem.Challenge.rw_inkroot_k55_shares) rfl rfl (λw h Y=>kIn_of Y) ?F'
 case F' =>
  intro w mg fa h KX G Zc
  refine' A (.mk _ _ _ _ _ _ KX G Zc (.mk ..) _ _ (.mk ..) _ _ _ (.mk ..) _ (.mk ..) _ _ (.mk ..) _ (.mk ..) _ _ _ _ _ _ (.mk ..) (.mk ..) (.mk ..) (.mk ..) (.mk ..) (.mk ..) (.mk ..) (.mk ..) (.mk ..) (.mk ..) (.mk ..) (.mk ..) (.mk ..) (.mk ..) (.mk ..) (.mk ..) (.mk ..) (.mk ..) (.mk ..) (.mk ..) (.mk ..) (.mk ..) (.mk ..) (.mk ..) (.mk ..) (.mk ..) (.mk ..) (.mk ..) (.mk ..) (.mk ..) (.mk ..) (.mk ..) (.mk ..) (.mk ..) (.mk ..) (.mk ..) (.mk ..) (.mk ..) (.mk ..) (.mk ..) (.mk ..) (.mk ..) (.mk ..) (.mk ..) (.mk ..) (.mk ..) (.mk ..) (.mk ..) (.mk ..) (.mk ..) (.mk ..) (.mk ..) (.mk ..) (.mk ..) (.mk ..) (.mk ..) (.mk ..) (.mk ..) (.mk ..) (.mk ..) (.mk ..) (.mk ..) (.mk ..) (.mk ..) (.mk ..) (.mk ..) (.mk ..) (.mk ..) (.mk ..) (.mk ..) (.mk ..) (.mk ..) (.mk ..) (.mk ..) (.mk ..) (.mk ..) (.mk ..) (.mk ..) (.mk ..) (.mk ..) (.mk ..) (.mk ..) (.mk ..) (.mk ..) (.mk ..) (.mk ..) (.mk ..) (.mk ..) (.mk ..) (.mk ..) (.mk ..) (.mk ..) (.mk ..) (.mk ..) (.mk ..) (.mk ..) (.mk ..) (.mk ..) (.mk ..) (.mk ..) (.mk ..) (.mk ..) (.mk ..) _ _ _ _ _ _ _ _ _ _ _ _ _ _ _ _ _ _ _)
  all_goals try first|k_is|k_exc|kts_exm
end InkHd
namespace _cF
open Spec Rows _L2
section
variable {X:Cx}
def eS:jm X (.builtin "isinstance") (λa H Q=>∃ x T t b,a=[x,.ty T]/\jZ X.K H x t/\kitOne X.K t (.type T)=⇑b/\Q (.bl b) H):=by
 intro g s i H a j Q I r h;let⟨x,T,t,b,rfl,c,e,q⟩:=h;let⟨u,v,rfl,d,f⟩:=r.two;cases (show v=Value.type T from f);exact KY I d c e λc=>⟨.bl b,H,I.tok c,1,q⟩
theorem oJ{x:Str}{T:String}(a:Gl X x)(b:X.mg x=none)(c:bootBuiltins x=⇑(.type T))(d:x≠"V":=by decide)(e:(x == ("r":Str))=false:=by decide):PE X (.Name x f) (tC (.ty T)) :=
 QS a b c rfl d e
end
theorem Rh{d:Cx}{g:_L2.St}{H:Hp}{s:Shared}{h:Heap}{m:Nat}{c:UV}(I:Inv d i g H s)(k:∀ b o,b∉c->s.heap.get? b=⇑o->h.get? b=⇑o)
  (f:∀ b∈c,nR d i H b):Inv d i g H { s with heap:=h,toks:=m }:=by
 let j:∀ b u,H b=⇑u->b∉c:=λb u e z=>by rw[(f b z).1]at e;cases e
 refine I.step (g':=s.gens) (d':=s.drawn) (ch:=c) (λb n=>?_) (λb o _ _ a e _=>k b o a e) (λb o _ _ a e _=>⟨o.slots,k b o a e⟩) (λ_ _ _ _ a=>a) (λb o a e=>⟨o,k b o a e⟩) (λ_ _ e=>e) (λ_ _ _ e=>e) (λb a e=>⟨#[],by rw[e];simp⟩) (λt p=>?_) (λb u e=>?_) I.bare
 ·let⟨_,a,_,l,q,r⟩:=f b n;exact⟨l,a,q,r⟩
 ·let⟨o,a,l,q,r⟩:=p;exact⟨o,a,l,k _ o (λz=>(f _ z).2.1 rfl) q,r⟩
 ·refine (I.hok b u e).stay (λl v a q=>k l v ?_ q) (λ_ q=>q) λ_ _ q=>q;rcases a with z|z
  ·rw[z];exact j b u e
  ·exact j l _ z
theorem Zh{h:Cx}{n:_L2.St}{H:Hp}{s:Shared}{i:Heap}{w:Nat}{d:UV}{p:Addr}{j:List V}{l:Wp}(I:Inv h r n H s)(k:∀ b o,b∉d->s.heap.get? b=⇑o->i.get? b=⇑o)
  (m:∀ b∈d,nR h r H b) (t:s⁻¹<=p) (x:↑j<=sizeLine) (y:cD j l) (A:IsTup i p l.toArray):Inv h r n (aL H p (.tup j)) { s with heap:=i,toks:=w }:=by
 let c:H p=none:=I.hok.fresh t;let v:∀ b u,H b=⇑u->b∉d:=λb u e z=>by rw[(m b z).1]at e;cases e
 let q:∀ b o,s.heap.get? b=⇑o->b≠p:=λb o e z=>by subst z;exact absurd (oU (Heap.lt_size e) t) (Nat.lt_irrefl _)
 refine I.step (g':=s.gens) (d':=s.drawn) (ch:=d) (λb f=>?_) (λb o _ _ a e _=>k b o a e) (λb o _ _ a e _=>⟨o.slots,k b o a e⟩) (λb o _ e a=>by rw[aJ (q b o e)];exact a) (λb o a e=>⟨o,k b o a e⟩) (λb B e=>by rw[aJ (az e c)];exact e) (λb _ _ e=>by rw[aJ (az e c)];exact e) (λb a e=>⟨#[],by rw[aJ (az e c),e];simp⟩) (λD q=>?_) (λb u e=>?_) I.bare
 ·let⟨_,a,_,g,B,C⟩:=m b f;exact⟨g,a,B,C⟩
 ·let⟨o,a,g,B,C⟩:=q;exact⟨o,a,g,k _ o (λz=>(m _ z).2.1 rfl) B,C⟩
 ·by_cases f:b=p
  ·subst f;rw[af]at e;cases e;exact⟨x,l,y,A⟩
  ·rw[aJ f]at e;refine (I.hok b u e).stay (λg f a q=>k g f ?_ q) (λg q=>by rw[aJ (az q c)];exact q) λg B q=>by rw[aJ (az q c)];exact q
   rcases a with z|z
   ·rw[z];exact v b u e
   ·exact v g _ z
def GF(k:Bool)(h:Heap)(i a:Addr)(n:Nat):Prop:=match k with
 | true=>h.IsListIter i a n
 | false=>h.IsTupleIter i a n
def Aj(k:Bool)(h:Heap)(a:Addr)(b:WF):Prop:=match k with
 | true=>h.IsList a b
 | false=>h.IsTuple a b
def GF.at{k:Bool}{h b:Heap}{i c:Addr}{n:Nat}(x:GF k h i c n)(e:∀ o,h.get? i=⇑o->b.get? i=⇑o):GF k b i c n:=by
 cases k
 ·let⟨o,a,r⟩:=x;exact⟨o,e o a,r⟩
 ·let⟨o,a,r⟩:=x;exact⟨o,e o a,r⟩
def Aj.at{k:Bool}{h c:Heap}{a:Addr}{d:WF}(x:Aj k h a d)(e:∀ o,h.get? a=⇑o->c.get? a=⇑o):Aj k c a d:=by
 cases k
 ·let⟨o,b,r⟩:=x;exact⟨o,e o b,r⟩
 ·let⟨o,b,r⟩:=x;exact⟨o,e o b,r⟩
def GF.obj{k:Bool}{h:Heap}{i b:Addr}{n:Nat}(x:GF k h i b n):∃ o,h.get? i=⇑o/\∀ v,o.data≠.cell v:=by
 cases k
 ·let⟨o,a,_,d⟩:=x;exact⟨o,a,λv z=>by rw[d]at z;cases z⟩
 ·let⟨o,a,_,d⟩:=x;exact⟨o,a,λv z=>by rw[d]at z;cases z⟩
section
variable {prog:Program} {w:World} {A:Around} {E:ZB} {s:Shared}
theorem Hq{a t:Addr}{i:Nat}{f:WF}{x:Value}{Q:ZB}(d:s.heap.IsTupleIter a t i)(g:s.heap.IsTuple t f)(h:f[i]?=⇑x)
  (j:∀ e,e.IsTupleIter a t (i+1)->Heap.SameBut a s.heap e->Q x { s with heap:=e }):wpAny (model prog w) A (Builtin.SmallTypes.nextOf ↥a) Q E s:=by
 let⟨o,c,k,b⟩:=id d;let⟨n,l,_,o,m⟩:=g;unfold Builtin.SmallTypes.nextOf;refine wpAny_bind (wpAny_callSpecial?_slot (name:=Str.ofString "__next__") d.typeIs F.slot_tuple_iterator_next (wpAny_call_entry F.slot_tuple_iterator_next d.typeIs F.entry_tuple_iterator_next ?_ (F.args_tuple_iterator_next_1 _)));show wpAny _ _ (field ↥a 0 >>= _) _ _ s;refine wpAny_bind (wpAny_field c b (x:=↥t) rfl ?_);show wpAny _ _ (if (Value.ref t == Value.none)=true then _ else _) _ _ s;rw[if_neg (show ¬ ((Value.ref t == Value.none)=true) from lG)];show wpAny _ _ (field ↥a 1 >>= _) _ _ s;refine wpAny_bind (wpAny_field c b (x:=.int i 0) rfl ?_);show wpAny _ _ (seqItems? ↥t >>= _) _ _ s;refine wpAny_bind (wpAny_seqItems l m ?_);simp only[Int.toNat_natCast,h];refine wpAny_bind (wpAny_setField c b (by simp) (wpAny_pure ⟨x,1,wpAny_pure (j _ ?_ (Heap.SameBut.update ..))⟩));exists _,Heap.get?_update_self _ c (Obj.isFreed_of_fields (Obj.data_mapFields b _)),(Obj.cls_mapFields ..).trans k;rw[Obj.data_mapFields b];simp[rawInt]
theorem Lh{a t:Addr}{i:Nat}{f:WF}{Q:ZB}(g:A.handled=none)(b:s.heap.IsTupleIter a t i)(j:s.heap.IsTuple t f)(k:f[i]?=none)
  (l:∀ c h,Heap.ExtBut a s.heap c->(∃ o,c.get? h=⇑o/\o.cls=.type "P")->E ↥h { s with heap:=c }):wpAny (model prog w) A (Builtin.SmallTypes.nextOf ↥a) Q E s:=by
 let⟨o,d,p,e⟩:=id b;let⟨p,m,_,q,n⟩:=j;unfold Builtin.SmallTypes.nextOf;refine wpAny_bind (wpAny_callSpecial?_slot (name:=Str.ofString "__next__") b.typeIs F.slot_tuple_iterator_next (wpAny_call_entry F.slot_tuple_iterator_next b.typeIs F.entry_tuple_iterator_next ?_ (F.args_tuple_iterator_next_1 _)));show wpAny _ _ (field ↥a 0 >>= _) _ _ s;refine wpAny_bind (wpAny_field d e (x:=↥t) rfl ?_);show wpAny _ _ (if (Value.ref t == Value.none)=true then _ else _) _ _ s;rw[if_neg (show ¬ ((Value.ref t == Value.none)=true) from lG)];show wpAny _ _ (field ↥a 1 >>= _) _ _ s;refine wpAny_bind (wpAny_field d e (x:=.int i 0) rfl ?_);show wpAny _ _ (seqItems? ↥t >>= _) _ _ s;refine wpAny_bind (wpAny_seqItems m n ?_);simp only[Int.toNat_natCast,k];refine wpAny_bind (wpAny_rule (wpAny_bind (wpAny_setField d e (by simp) ?_)));show wpAny _ _ (newExc (.type "P") [] >>= _) _ _ _;refine wpAny_bind ?_;simp only[newExc,newTuple];refine wpAny_bind (wpAny_newObj_type ?_ (by size_fits))
 refine wpAny_bind (m:=firstArgMember _ _) (wpAny_of_eq (a:=Value.none) (by first|rfl|(simp only[firstArgMember];rfl)) ?_)
 refine wpAny_newObj_type ?_ (by size_fits);simp only[raiseNew];refine wpAny_bind (wpAny_handled ?_)
 first|rw[show A.in1.handled=none from g]|rw[g]
 refine wpAny_bind (wpAny_pure (wpAny_throw ?_));exact l _ _ (((Heap.SameBut.update ..).extBut.push _).push _) ⟨_,Heap.get?_push_size _ rfl,1⟩
theorem sI{k:Bool}{a t:Addr}{i:Nat}{c:WF}{x:Value}{Q:ZB}(d:GF k s.heap a t i)(e:Aj k s.heap t c)(f:c[i]?=⇑x)
  (g:∀ b,GF k b a t (i+1)->Heap.SameBut a s.heap b->Q x { s with heap:=b }):wpAny (model prog w) A (Builtin.SmallTypes.nextOf ↥a) Q E s:=by
 cases k
 ·exact Hq d e f g
 ·exact wpAny_nextOf_list_item d e f g
theorem Bq{k:Bool}{a t:Addr}{i:Nat}{c:WF}{Q:ZB}(d:A.handled=none)(e:GF k s.heap a t i)(f:Aj k s.heap t c)(g:c[i]?=none)
  (h:∀ b j,Heap.ExtBut a s.heap b->(∃ o,b.get? j=⇑o/\o.cls=.type "P")->E ↥j { s with heap:=b }):wpAny (model prog w) A (Builtin.SmallTypes.nextOf ↥a) Q E s:=by
 cases k
 ·exact Lh d e f g h
 ·exact wpAny_nextOf_list_end d e f g h
abbrev Br(k:Bool)(l:Addr):Obj:={ cls:=.type (if k then "list_iterator" else "tuple_iterator"),data:=.fields (List.toArray [↥l,.int 0 0]) }
def Ui{k:Bool}{l:Addr}{b:WF}{Q:ZB}(h:Aj k s.heap l b)(a:Q ↥s⁻¹ { s with heap:=s.heap.push (Br k l) }):wpAny (model prog w) A (pyIter ↥l) Q E s:=by
 cases k
 ·exact wpAny_pyIter_tuple h a
 ·exact wpAny_pyIter_list h a
structure Bs(k:Bool)(h:Heap)(z TI TO i1 i2 l1 l2:Addr)(n:Nat):Prop where
 z:IsZip h z TI TO .none
 ti:IsPair h TI ↥i1 ↥i2
 to:∃ a b,IsPair h TO a b
 i1:GF k h i1 l1 n
 i2:GF k h i2 l2 n
theorem Li{k:Bool}{z TI TO b d l m:Addr}{n:Nat}{M N:WF}{x y:Value}{Q:ZB}(D:ZipApart z TI TO b d l m)(ab:Bs k s.heap z TI TO b d l m n)
  (GG:Aj k s.heap l M) (xg:Aj k s.heap m N) (hx:M[n]?=⇑x) (hy:N[n]?=⇑y)
  (hQ:∀ f,IsZip f z TI TO (rawInt s⁻¹)->IsPair f TO x y->GF k f b l (n+1)->GF k f d m (n+1)->IsPair f s⁻¹ x y->
   (∀ c o,c≠z->c≠TO->c≠b->c≠d->s.heap.get? c=⇑o->f.get? c=⇑o)->Q ↥s⁻¹ { s with heap:=f }) :
  wpAny (model prog w) A (Builtin.«zip.__next__» ⟨[↥z],[]⟩) (λae s'=>∃ O,ae=.done (.ret O)/\Q O s') E s:=by
 let⟨p,ag,⟨ai,F,am⟩,h1,h2⟩:=ab;show wpAny _ _ (field ↥z 2 >>= _) _ _ _;refine wpAny_bind (wpAny_field p rfl (x:=.bool false) rfl ?_);show wpAny _ _ (field ↥z 3 >>= _) _ _ _;refine wpAny_bind (wpAny_field p rfl (x:=↥TI) rfl (wpAny_bind (wpAny_seqItems ag rfl ?_)));show wpAny _ _ (Builtin.SmallTypes.ownedTupleIsFree ↥z >>= _) _ _ _;refine wpAny_bind ?_;unfold Builtin.SmallTypes.ownedTupleIsFree;refine wpAny_bind (wpAny_field p rfl (x:=.none) rfl (wpAny_pure ?_));simp only[if_true];refine wpAny_bind (wpAny_rule (wpAny_bind (wpAny_field p rfl (x:=↥TO) rfl (wpAny_bind (wpAny_setField_rec p (by simp) λg1 G g=>?_)))))
 replace G:IsZip g1 z TI TO .ellipsis:=G
 refine wpAny_bind ?_;simp only[List.zipIdx_cons,List.zipIdx_nil,List.forIn_cons,List.forIn_nil];refine wpAny_bind (wpAny_bind (wpAny_onRaise ?_));show wpAny _ _ (Builtin.SmallTypes.nextOf ↥b >>= _) _ _ _;refine wpAny_bind (sI (h1.at λo e=>g.extBut _ _ D.i1z e) (GG.at λo e=>g.extBut _ _ D.l1z e) hx λp QA i=>wpAny_pure ?_);let R:IsPair p TO ai F:=i.extBut _ _ D.TOi1 (g.extBut _ _ D.TOz am);refine wpAny_bind (wpAny_seqItems R rfl (wpAny_bind (wpAny_updateSeq_pair R λg3 H j=>?_)))
 replace H:IsPair g3 TO x F:=H
 refine wpAny_bind (wpAny_letGo (wpAny_pure (wpAny_bind (wpAny_bind (wpAny_onRaise ?_)))));show wpAny _ _ (Builtin.SmallTypes.nextOf ↥d >>= _) _ _ _;refine wpAny_bind (sI (((h2.at λo e=>g.extBut _ _ D.i2z e).at λo e=>i.extBut _ _ D.i12.symm e).at λo e=>j.extBut _ _ D.TOi2.symm e) (((xg.at λo e=>g.extBut _ _ D.l2z e).at λo e=>i.extBut _ _ D.l2i1 e).at λo e=>j.extBut _ _ D.l2TO e) hy λp an q=>wpAny_pure ?_);let S:IsPair p TO x F:=q.extBut _ _ D.TOi2 H;refine wpAny_bind (wpAny_seqItems S rfl (wpAny_bind (wpAny_updateSeq_pair S λa t r=>?_)))
 replace t:IsPair a TO x y:=t
 refine wpAny_bind (wpAny_letGo (wpAny_pure (wpAny_pure (wpAny_bind (wpAny_seqItems t rfl (wpAny_bind (wpAny_newTuple ?_)))))));let T:a.objs.size=s⁻¹:=by rw[r.1,q.1,j.1,i.1,g.1]
 let p:IsZip a z TI TO .ellipsis:=r.extBut _ _ D.TOz.symm (q.extBut _ _ D.i2z.symm (j.extBut _ _ D.TOz.symm (i.extBut _ _ D.i1z.symm G)));let k5:∀ c o,c≠z->c≠TO->c≠b->c≠d->s.heap.get? c=⇑o->a.get? c=⇑o:=λc o h u I J e=>r.extBut _ _ u (q.extBut _ _ J (j.extBut _ _ u (i.extBut _ _ I (g.extBut _ _ h e))));have ao:GF k a b l (n+1):=((QA.at λo e=>j.extBut _ _ D.TOi1.symm e).at λo e=>q.extBut _ _ D.i12 e).at λo e=>r.extBut _ _ D.TOi1.symm e;have ap:GF k a d m (n+1):=an.at λo e=>r.extBut _ _ D.TOi2.symm e;have U:z<a.objs.size:=Heap.lt_size p;show wpAny _ _ (Builtin.SmallTypes.ownedTupleHandOut ↥z ↥a.objs.size >>= _) _ _ _;refine wpAny_bind ?_;unfold Builtin.SmallTypes.ownedTupleHandOut;have g:IsZip (a.push { cls:=.type "q",data:=.seq (List.toArray [x,y]) }) z TI TO .ellipsis:=Heap.get?_push_of_some _ p;refine wpAny_bind (wpAny_setField_rec g (by simp) λg7 L W=>?_)
 replace L:IsZip g7 z TI TO (rawInt a.objs.size):=L
 refine wpAny_setField_rec L (by simp) λv B X=>?_
 replace B:IsZip v z TI TO (rawInt a.objs.size):=B
 let C:∀ c o,c≠z->a.get? c=⇑o->v.get? c=⇑o:=λc o h e=>X.extBut _ _ h (W.extBut _ _ h (Heap.get?_push_of_some _ e));have t8:IsPair v a.objs.size x y:=X.extBut _ _ (Nat.ne_of_gt U) (W.extBut _ _ (Nat.ne_of_gt U) (Heap.get?_push_size _ rfl));rw[T]at B t8;refine wpAny_pure ⟨Y,?_⟩;show Q ↥a.objs.size _;rw[T];exact hQ v B (C _ _ D.TOz t) (ao.at λo e=>C _ o D.i1z e) (ap.at λo e=>C _ o D.i2z e) t8 λc o h u I J e=>C c o h (k5 c o h u I J e)
theorem NW{p:Bool}{z TI TO k l q r:Addr}{n:Nat}{t u:WF}{Q:Fin->Shared->Prop}(I:A.handled=none)(D:ZipApart z TI TO k l q r)(T:Bs p s.heap z TI TO k l q r n)
  (J:Aj p s.heap q t) (U:Aj p s.heap r u) (VS:t[n]?=none\/u[n]?=none)
  (L:∀ v e,(∀ c o,c≠z->c≠TO->c≠k->c≠l->s.heap.get? c=⇑o->v.get? c=⇑o)->(∃ o,v.get? e=⇑o/\o.cls=.type "P")->E ↥e { s with heap:=v }) :
  wpAny (model prog w) A (Builtin.«zip.__next__» ⟨[↥z],[]⟩) Q E s:=by
 let⟨g,W,⟨X,ab,ae⟩,M,h2⟩:=T;show wpAny _ _ (field ↥z 2 >>= _) _ _ _;refine wpAny_bind (wpAny_field g rfl (x:=.bool false) rfl ?_);show wpAny _ _ (field ↥z 3 >>= _) _ _ _;refine wpAny_bind (wpAny_field g rfl (x:=↥TI) rfl (wpAny_bind (wpAny_seqItems W rfl ?_)));show wpAny _ _ (Builtin.SmallTypes.ownedTupleIsFree ↥z >>= _) _ _ _;refine wpAny_bind ?_;unfold Builtin.SmallTypes.ownedTupleIsFree;refine wpAny_bind (wpAny_field g rfl (x:=.none) rfl (wpAny_pure ?_));simp only[if_true];refine wpAny_bind (wpAny_rule (wpAny_bind (wpAny_field g rfl (x:=↥TO) rfl (wpAny_bind (wpAny_setField_rec g (by simp) λg1 m a=>?_)))))
 replace m:IsZip g1 z TI TO .ellipsis:=m
 refine wpAny_bind ?_;simp only[List.zipIdx_cons,List.zipIdx_nil,List.forIn_cons,List.forIn_nil];refine wpAny_bind (wpAny_bind (wpAny_onRaise ?_));show wpAny _ _ (Builtin.SmallTypes.nextOf ↥k >>= _) _ _ _
 cases y:t[n]? with
 | none =>
  refine wpAny_bind (Bq I (M.at λo e=>a.extBut _ _ D.i1z e) (J.at λo e=>a.extBut _ _ D.l1z e) y λB e b C=>?_);let⟨F,d,i⟩:=C;let N:IsZip B z TI TO .ellipsis:=b _ _ D.i1z.symm m;let G:e≠z:=λx=>by subst x;rw[N]at d;cases d;simp at i
  exact wpAny_setField_rec N (by simp) λO _ f=>L O e (λc o j _ H _ x=>f.extBut _ _ j (b _ _ H (a.extBut _ _ j x))) ⟨F,f.extBut _ _ G d,i⟩
 | some x =>
  let hy:u[n]?=none:=by rcases VS with h|h;(rw[y]at h;cases h);exact h
  refine wpAny_bind (sI (M.at λo e=>a.extBut _ _ D.i1z e) (J.at λo e=>a.extBut _ _ D.l1z e) y λB g b=>wpAny_pure ?_);let N:IsPair B TO X ab:=b.extBut _ _ D.TOi1 (a.extBut _ _ D.TOz ae);refine wpAny_bind (wpAny_seqItems N rfl (wpAny_bind (wpAny_updateSeq_pair N λO g f=>?_)));refine wpAny_bind (wpAny_letGo (wpAny_pure (wpAny_bind (wpAny_bind (wpAny_onRaise ?_)))));show wpAny _ _ (Builtin.SmallTypes.nextOf ↥l >>= _) _ _ _;refine wpAny_bind (Bq I (((h2.at λo e=>a.extBut _ _ D.i2z e).at λo e=>b.extBut _ _ D.i12.symm e).at λo e=>f.extBut _ _ D.TOi2.symm e) (((U.at λo e=>a.extBut _ _ D.l2z e).at λo e=>b.extBut _ _ D.l2i1 e).at λo e=>f.extBut _ _ D.l2TO e) hy λg e R C=>?_);let⟨F,d,i⟩:=C;let S:IsZip g z TI TO .ellipsis:=R _ _ D.i2z.symm (f.extBut _ _ D.TOz.symm (b.extBut _ _ D.i1z.symm m));let G:e≠z:=λx=>by subst x;rw[S]at d;cases d;simp at i
  exact wpAny_setField_rec S (by simp) λm _ g=>L m e (λc o j m H y x=>g.extBut _ _ j (R _ _ y (f.extBut _ _ m (b.extBut _ _ H (a.extBut _ _ j x))))) ⟨F,g.extBut _ _ G d,i⟩
theorem Hr{k:Bool}{z TI TO b d e f:Addr}{n:Nat}{g h:WF}{x y:Value}{Q:Option Value->Shared->Prop}(D:ZipApart z TI TO b d e f)(i:Bs k s.heap z TI TO b d e f n)
  (l:Aj k s.heap e g) (m:Aj k s.heap f h) (p:g[n]?=⇑x) (q:h[n]?=⇑y)
  (r:∀ a,IsZip a z TI TO (rawInt s⁻¹)->IsPair a TO x y->GF k a b e (n+1)->GF k a d f (n+1)->IsPair a s⁻¹ x y->
   (∀ c o,c≠z->c≠TO->c≠b->c≠d->s.heap.get? c=⇑o->a.get? c=⇑o)->Q (⇑↥s⁻¹) { s with heap:=a }):wpAny (model prog w) A (pyNext ↥z) Q E s:=by
 let j:s.TypeIs ↥z "zip":=⟨_,i.z,1⟩;unfold pyNext;exact wpAny_bind (wpAny_attempt (wpAny_callSpecial?_slot (name:=Str.ofString "__next__") j F.slot_zip_next (wpAny_call_entry F.slot_zip_next j F.entry_zip_next (Li D i l m p q λa j t u v B C=>wpAny_pure (r a j t u v B C)) (F.args_zip_next_1 _))))
theorem Lj{k:Bool}{z TI TO a b d e:Addr}{n:Nat}{g h:WF}{Q:Option Value->Shared->Prop}(l:A.handled=none)(D:ZipApart z TI TO a b d e)(i:Bs k s.heap z TI TO a b d e n)
  (m:Aj k s.heap d g) (p:Aj k s.heap e h) (q:g[n]?=none\/h[n]?=none)
  (r:∀ f,(∀ c o,c≠z->c≠TO->c≠a->c≠b->s.heap.get? c=⇑o->f.get? c=⇑o)->Q none { s with heap:=f }):wpAny (model prog w) A (pyNext ↥z) Q E s:=by
 let j:s.TypeIs ↥z "zip":=⟨_,i.z,1⟩;unfold pyNext;refine wpAny_bind (wpAny_attempt (wpAny_callSpecial?_slot (name:=Str.ofString "__next__") j F.slot_zip_next (wpAny_call_entry F.slot_zip_next j F.entry_zip_next (NW l D i m p q λf u j t=>?_) (F.args_zip_next_1 _))));let⟨o,u,v⟩:=t;exact wpAny_bind (wpAny_isInstance (T:="P") (b:=true) ⟨o,u,v⟩ isSubtype_stop (wpAny_pure (r _ j)))
end
abbrev eg(k:Bool)(h:Heap)(a:Addr):Heap:=h.push (Br k a)
abbrev ej(k:Bool)(h:Heap)(a b:Addr):Heap:=(eg k h a).push (Br k b)
abbrev ek(k:Bool)(h:Heap)(a b:Addr):Heap:=(ej k h a b).push { cls:=.type "q",data:=.seq (List.toArray [↥h.objs.size,.ref (eg k h a).objs.size]) }
abbrev el(k:Bool)(h:Heap)(a b:Addr):Heap:=(ek k h a b).push { cls:=.type "q",data:=.seq (List.toArray [.none,.none]) }
abbrev X9(k:Bool)(h:Heap)(a b:Addr):Heap:=(el k h a b).push { cls:=.type "zip",data:=.fields (List.toArray [.none,.bool false,.bool false,.ref (ej k h a b).objs.size,.ref (ek k h a b).objs.size]) }
theorem Hs(k:Bool)(a b:Addr)(c d:WF) :
  Meets (Builtin.«zip.__new__» ⟨[.type "zip",↥a,↥b],[]⟩) (λ_ e s=>Aj k s.heap a c/\Aj k s.heap b d/\e (.ok (.ret (.ref (el k s.heap a b).objs.size))) { s with heap:=X9 k s.heap a b }) :=
 .of_wp λf w A e s h=>by
  let⟨f,g,i,j,l⟩:=s;let⟨m,n,h⟩:=h;let o:=sub_zip;let o:Aj k (Shared.heap ⟨f,g,i,j,l⟩) a c:=m;let m:Aj k (Shared.heap ⟨f.push (Br k a),g,i,j,l⟩) b d:=n.at λg f=>Heap.get?_push_of_some _ f
  wp_walk using Ui o,Ui m
  exact⟨Y,h⟩
section
variable {prog:Program} {w:World} {A:Around} {E:ZB} {s:Shared}
theorem Lk{k:Bool}{a b:Addr}{j l:WF}{Q:ZB}(r:Aj k s.heap a j)(t:Aj k s.heap b l)
  (u:∀ c,Bs k c (s⁻¹+4) (s⁻¹+2) (s⁻¹+3) s⁻¹ (s⁻¹+1) a b 0->(∀ d o,s.heap.get? d=⇑o->c.get? d=⇑o)->Q (.ref (s⁻¹+4)) { s with heap:=c }) :
  wpAny (model prog w) A (call (.type "zip") [↥a,↥b]) Q E s:=by
 refine callType_new F.called_zip (by decide) (F.typeCall_zip_2 _ _) (F.newCall_zip_2 _ _) (λe=>F.args_object_init_3 e _ _) F.entry_zip_new (Hs k a b j l) ⟨r,t,?_⟩;let e:(eg k s.heap a).objs.size=s⁻¹+1:=Heap.size_push ..;let f:(ej k s.heap a b).objs.size=s⁻¹+2:=by rw[Heap.size_push,e]
 let g:(ek k s.heap a b).objs.size=s⁻¹+3:=by rw[Heap.size_push,f]
 let m:(el k s.heap a b).objs.size=s⁻¹+4:=by rw[Heap.size_push,g]
 let h:(X9 k s.heap a b).get? (el k s.heap a b).objs.size=⇑_:=Heap.get?_push_size _ rfl;let n:(X9 k s.heap a b).get? (ek k s.heap a b).objs.size=⇑_:=Heap.get?_push_of_some _ (Heap.get?_push_size _ rfl);let p:(X9 k s.heap a b).get? (ej k s.heap a b).objs.size=⇑_:=Heap.get?_push_of_some _ (Heap.get?_push_of_some _ (Heap.get?_push_size _ rfl));let i:(X9 k s.heap a b).get? (eg k s.heap a).objs.size=⇑(Br k b):=Heap.get?_push_of_some _ (Heap.get?_push_of_some _ (Heap.get?_push_of_some _ (Heap.get?_push_size _ rfl)));let q:(X9 k s.heap a b).get? s⁻¹=⇑(Br k a):=Heap.get?_push_of_some _ (Heap.get?_push_of_some _ (Heap.get?_push_of_some _ (Heap.get?_push_of_some _ (Heap.get?_push_size _ rfl))));show _/\_;rw[f,g,m]at h;rw[e,f]at p;rw[g]at n;rw[e]at i;rw[m];refine⟨⟨_,h,1⟩,u _ ⟨h,p,⟨E,n⟩,?_,?_⟩ λd o x=>Heap.get?_push_of_some _ (Heap.get?_push_of_some _ (Heap.get?_push_of_some _ (Heap.get?_push_of_some _ (Heap.get?_push_of_some _ x))))⟩
 ·cases k
  ·exact⟨_,q,V⟩
  ·exact⟨_,q,V⟩
 ·cases k
  ·exact⟨_,i,V⟩
  ·exact⟨_,i,V⟩
end
def JO(K:Frag)(k:Bool)(H:Hp)(a:Addr)(b:List V):Prop:=match k with
 | true=>bI K H a b
 | false=>dI K H a b
def ve{c:Cx}{e:_L2.St}{H:Hp}{s:Shared}{k:Bool}{d:Addr}{b:List V}(I:Inv c f e H s)(h:JO c.K k H d b):∃ a:List Value,cD b a/\Aj k s.heap d a.toArray/\↑b<=sizeLine:=by
 cases k
 ·let⟨a,r,p,z⟩:=I.tuple h;exact⟨a,r,p,z⟩
 ·let⟨a,r,p,z⟩:=I.list h;exact⟨a,r,p.isList,z⟩
def JP{a:Cx}{f:_L2.St}{H:Hp}{s:Shared}{k:Bool}{b:Addr}{c d:List V}(I:Inv a g f H s)(h:JO a.K k H b c)(e:JO a.K k H b d):c=d:=by
 cases k
 ·exact I.A7 h e
 ·exact I.Ef h e
def NY{k:Bool}{h:Heap}{b:Addr}{c:WF}(x:Aj k h b c):b<h.objs.size:=by
 cases k
 ·let⟨o,a,_⟩:=x;exact Heap.lt_size a
 ·let⟨o,a,_⟩:=x;exact Heap.lt_size a
def Zi(K:Frag)(k:Bool)(c d:Addr):It :=
 ⟨λi H=>∃ a b x y,JO K k H c a/\JO K k H d b/\a[i]?=⇑x/\b[i]?=⇑y,λi H v e=>∃ p x y,H p=none/\v=↥p/\e=aL H p (.tup [x,y])/\(∀ a,JO K k H c a->a[i]?=⇑x)/\∀ b,JO K k H d b->b[i]?=⇑y,λi H=>∃ a b,JO K k H c a/\JO K k H d b/\(↑a<=i\/↑b<=i)⟩
theorem NZ{P:Program}{ae:World}{K:Frag}{x1:Nat}{N:Bool}{z TI TO g h q r:Addr}(D:ZipApart z TI TO g h q r) :
  GX P ae K (.Tuple VU x1 KW) (Zi K N q r) [z,TI,TO,g,h] z (λj k=>Bs N k z TI TO g h q r j) where
 mem:=by simp
 obj:=λj k c b a=>by
  let⟨l,m,⟨x,y,n⟩,p,d⟩:=c;simp only[List.mem_cons,List.not_mem_nil,or_false]at a;rcases a with rfl|rfl|rfl|rfl|rfl
  ·exact⟨_,l,λv e=>by cases e⟩
  ·exact⟨_,m,λv e=>by cases e⟩
  ·exact⟨_,n,λv e=>by cases e⟩
  ·exact p.obj
  ·exact d.obj
 keep:=λj k O c f=>by
  let⟨l,m,⟨x,y,n⟩,p,d⟩:=c;exact⟨f z (by simp) _ l,f TI (by simp) _ m,⟨x,y,f TO (by simp) _ n⟩,p.at λo e=>f g (by simp) o e,d.at λo e=>f h (by simp) o e⟩
 item:=by
  intro X A B C R j S s T U E I t c F;subst A B C;let⟨xs,ys,M,W,u,w,e1,e2⟩:=F;let⟨us,G,H,_⟩:=ve I u;let⟨vs,J,L,_⟩:=ve I w;let⟨ab,i,ru⟩:=G.get e1;let⟨v,ev,rv⟩:=J.get e2;refine Hr (x:=ab) (y:=v) D c H L (by simpa using i) (by simpa using ev) λO i g2 g3 g4 g5 g7=>?_;refine⟨Y,wpAny_letOwnedTupleGo_zip i λd ag i=>?_⟩;have ne:∀ {b o},s.heap.get? b=⇑o->s⁻¹≠b:=λe=>Nat.ne_of_gt (Heap.lt_size e)
  let k2:∀ b o,b∉[z,TI,TO,g,h]->s.heap.get? b=⇑o->d.get? b=⇑o:=λb o a e=>by
   simp only[List.mem_cons,List.not_mem_nil,or_false,not_or]at a;exact i.extBut _ _ a.1 (g7 b o a.1 a.2.2.1 a.2.2.2.1 a.2.2.2.2 e)
  let I2:Inv X S T (aL U s⁻¹ (.tup [M,W])) { s with heap:=d,toks:=s.toks } := Zh I k2 t (d7 _) (by show 2<=sizeLine;decide) (.cons ru (.cons rv .nil)) ⟨_,i.extBut _ _ (ne c.z) g5,1,Y⟩;refine⟨↥s⁻¹,_,I2,1,⟨_,M,W,I.hok.fresh (d7 _),V,λW M=>?_,λW M=>?_⟩,?_,λb a=>?_⟩
  ·rw[JP I M u];exact e1
  ·rw[JP I M w];exact e2
  ·exact⟨ag,i.extBut _ _ D.TIz (g7 _ _ D.TIz D.TITO D.TIi1 D.TIi2 c.ti),⟨ab,v,i.extBut _ _ D.TOz g2⟩,g3.at λo e=>i.extBut _ _ D.i1z e,g4.at λo e=>i.extBut _ _ D.i2z e⟩
  ·let pA:∃ o,s.heap.get? b=⇑o:=by
    let⟨l,m,⟨x,y,n⟩,p,d⟩:=c;simp only[List.mem_cons,List.not_mem_nil,or_false]at a;rcases a with rfl|rfl|rfl|rfl|rfl
    ·exact⟨_,l⟩
    ·exact⟨_,m⟩
    ·exact⟨_,n⟩
    ·exact p.obj.imp λ_ e=>e.1
    ·exact d.obj.imp λ_ e=>e.1
   let⟨o,e⟩:=pA;rw[aJ (ne e).symm];exact (t b a).1
 done:=by
  intro X A B C R j S s T U E I t c F;subst A B C;let⟨xs,ys,u,w,e⟩:=F;let⟨us,G,H,_⟩:=ve I u;let⟨vs,J,L,_⟩:=ve I w;let q:=↑G;let r:=↑J;refine Lj (I.ok.hd R) D c H L (e.imp (λe=>by simp;lia) (λe=>by simp;lia)) λO f=>⟨1,Rh (m:=s.toks) (c:=[z,TI,TO,g,h]) I (λb o a e=>?_) t⟩;simp only[List.mem_cons,List.not_mem_nil,or_false,not_or]at a;exact f b o a.1 a.2.2.1 a.2.2.2.1 a.2.2.2.2 e
 self:=λ_ _ _ _ _ c k=>wpAny_pyIter_zip c.z k
def n7(K:Frag)(d:TA):TI:=fun a H R=>d a H λe a=>∃ k b c f g,e=[↥b,↥c]/\JO K k a b f/\JO K k a c g/\R (Zi K k b c) a
theorem VW{a:Cx}{o:Nat}{d b:Expr}{g:TA}{p:Pos}(q:Gl a "zip")(r:a.mg "zip"=none)(t:PA a [d,b] g)
  (u:starEach [d,b] a.env=[(false,eval d a.env),(false,eval b a.env)]:=by rfl) (h:starEach [b] a.env=[(false,eval b a.env)]:=by rfl):PI a (.Tuple L o M) (.Call (.Name "zip" p) [d,b] [] v) (n7 a.K g):=by
 intro i s j H R I l;refine Call_ (uX I q r boot_zip (PyProof.Rows.callWith_type1 (dB (t v i s j H _ I l) λw e ⟨l,k,c,x,f⟩=>?_) (by rw[u,h]) (by rw[h];rfl)));let⟨l,y,z,H,I,A,f,B,C⟩:=f;subst A;let⟨D,F,rfl,G,J⟩:=x.two;cases (show D=Value.ref y from G);cases (show F=Value.ref z from J);let⟨w,w,l,_⟩:=ve c f;let⟨w,x,f,_⟩:=ve c B;let w:=NY l;let x:=NY f;refine Lk l f λl f y=>wpAny_pyIter_zip f.z ?_;have z:Inv a i j k { e with heap:=l,toks:=e.toks }:=c.kept y;refine⟨Q,_,k,1,z,NZ (zipApart_new w x),f,λb m=>?_,C⟩
 let n:e⁻¹<=b:=by
  simp only[List.mem_cons,List.not_mem_nil,or_false]at m;rcases m with rfl|rfl|rfl|rfl|rfl
  ·exact Nat.le_add_right _ _
  ·exact Nat.le_add_right _ _
  ·exact Nat.le_add_right _ _
  ·exact d7 _
  ·exact Nat.le_add_right _ _
 exact c.KO n (c.hok.fresh n)
theorem Rj{K:Frag}{k:Bool}{f:Addr}{b c:List V}{q:TG}{r:TS}{D:Ends}{a:_L2.St}{H:Hp}(d:Nat->_L2.St->Hp->Prop)(I:↑b=↑c)(u:d 0 a H)
  (v:∀ i a H,i<=↑b->d i a H->JO K k H f b/\JO K k H g c)
  (w:∀ i x y p a H,b[i]?=⇑x->c[i]?=⇑y->H p=none->d i a H->q ↥p a (aL H p (.tup [x,y])) fun h j=>r (D.lp (d (i+1))) h j) (z:∀ a H,d ↑b a H->D.nx a H) :
  ∃ W:Nat->Nat->_L2.St->Hp->Prop,(∃ m,W 0 m a H)/\∀ i m a H,W i m a H->
   ((Zi K k f g).stop i H/\D.nx a H)\/((Zi K k f g).go i H/\∃ N:_L2.St->Hp->Prop,(∀ l e,N l e->∃ t,t<m/\W (i+1) t l e)/\∀ x e,(Zi K k f g).Nf i H x e->q x a e fun h j=>r (D.lp N) h j):=by
 refine⟨λi m a H=>m=↑b-i/\i<=↑b/\d i a H,⟨↑b,by simp,ic _,u⟩,?_⟩;rintro i m a H ⟨rfl,s,p⟩;let⟨n,o⟩:=v i a H s p;by_cases s:i<↑b
 ·let A:i<↑c:=by lia
  refine .inr ⟨⟨b,c,b[i],c[i],n,o,by simp[s],by simp[A]⟩,d (i+1),fun l e A=>⟨↑b-(i+1),by lia,1,s,A⟩,λx e y=>?_⟩;let⟨B,C,F,G,rfl,rfl,s,A⟩:=y;exact w i C F B a _ (s b n) (A c o) G p
 ·let A:i=↑b:=by lia
  subst A;exact .inl ⟨⟨b,c,n,o,.inl (d7 _)⟩,z a H p⟩
def Bt(lo:Int)(n:Nat):List V:=(List.range n).map λi:Nat=>V.int (lo+i)
section
variable {X:Cx}
def Ew:jm X (.type "v") (λa H Q=>∃ i j:Int,a=[.int i,.int j]/\∀ p,H p=none->Q ↥p (aL H p (.D5 i j))):=by
 intro c s d H a e Q I r h;let⟨i,j,rfl,q⟩:=h;let⟨f,g,rfl,⟨t,rfl⟩,⟨b,rfl⟩⟩:=r.two;refine call_range_2 ⟨↥s⁻¹,_,I.laid (o:=.D5 i j) (λc o e=>Heap.get?_push_of_some _ e) (d7 _) ⟨t,b,s.toks,Heap.get?_push_size _ rfl⟩,1,q _ (I.hok.fresh (d7 _))⟩
theorem rM(h:X.calm=true):jm X (.type "g") (λc H Q=>∃ p i j,c=[↥p]/\H p=⇑(.D5 i j)/\(-(2^62)<=i/\i<2^62/\-(2^62)<=j/\j<2^62)/\(j-i).toNat<=sizeLine/\
  ∀ l,H l=none->Q ↥l (aL H l (.lst (Bt i (j-i).toNat)))):=by
 intro D s F H c a Q I r d;let⟨p,i,j,rfl,hp,⟨m,o,w,x⟩,y,q⟩:=d;let⟨u,rfl,z⟩:=r.one;cases (show u=Value.ref p from z);let⟨t,u,v,e⟩:=(show fR X.prog X.w H s.heap p (.D5 i j) from I.hok p _ hp)
 let A:Builtin.Range.rangeSize i j 1=(((j-i).toNat:Nat):Int):=by rw[rangeSize_one];split <;> lia
 let d:(j-i).toNat<=2^24:=by have:=sizeLine_eq;lia
 refine call_list_range (I.ok.hd h) e (small_one m o w x) A d λx m d o r w f=>?_;refine⟨↥s⁻¹,_,I.laid (o:=.lst (Bt i (j-i).toNat)) (t':=m) r (d7 _) ⟨?_,d.toList,o,?_,by simpa using w⟩,1,q _ (I.hok.fresh (d7 _))⟩
 ·unfold Bt;simpa using y
 ·let b:↑d.toList=(j-i).toNat:=by simpa using f.1
  let B:∀ (n:Nat) (a:Wp) (lo:Int),↑a=n->(∀ k v,a[k]?=⇑v->∃ t,v=Value.int (lo+(k:Nat)*1) t)->cD ((List.range n).map λi:Nat=>V.int (lo+i)) a:=by
   intro n
   induction n with
   | zero=>intro a lo b _;cases a with
    | nil=>exact .nil
    | cons=>simp at b
   | succ n C =>
    intro a lo b g
    cases a with
    | nil=>simp at b
    | cons u a =>
     rw[List.range_succ_eq_map,jo,List.map_map];refine .cons ?_ ?_
     ·let⟨t,e⟩:=g 0 u rfl;exact⟨t,by rw[e];simp⟩
     ·have:=C a (lo+1) (by simpa using b) λk v e=>by
       let⟨t,a⟩:=g (k+1) v (by simpa using e);exists t;rw[a];have:lo+((k+1:Nat):Int)*1=lo+1+(k:Int)*1:=by lia
       rw[this]
      let a:((λi:Nat=>V.int (lo+i)) ∘ Nat.succ)=λi:Nat=>V.int (lo+1+i):=by
       funext i;simp only[Function.comp,Nat.succ_eq_add_one];have:lo+((i+1:Nat):Int)=lo+1+(i:Int):=by lia
       rw[this]
      rw[a];exact this
  exact B _ _ i b λk v e=>f.2 k v (by simpa using e)
end
section
variable {X:Cx}
def N1{j:Int}(a:0<j)(b:j<10^70):j.natAbs.log2<9000:=by
 let h:j.natAbs<2^9000:=Nat.lt_trans (show j.natAbs<10^70 by omega) nofun;exact (Nat.log2_lt ∅).mpr h
theorem yJ:tH X (binaryOp .FloorDiv) (rI (λ_ j=>0<j/\j<10^70) λi j=>.int (i / j)):=d5 λi j _ _ _ _ _ a q=>by
 let b:(0:Int)<j:=a.1;exact floordiv_int ∅ (by rw[Int.fdiv_eq_ediv_of_nonneg i ∅];exact q) (.inl (PyProof.noPylong_of_log2 (N1 a.1 a.2)))
def Ex(g:X.calm=true):jm X (.builtin "sum") (λd H Q=>∃ (p:Addr) (a:UF),d=[↥p]/\bI X.K H p (a.map V.int)/\Q (.int a.sum) H):=by
 intro j s l H d m Q I r h;let⟨p,a,rfl,i,q⟩:=h;let⟨u,rfl,b⟩:=r.one;cases (show u=Value.ref p from b);let⟨b,h,j,l⟩:=I.list i;let e:IntsAre b a:=intsAre_of h;let h:AllInts b.toArray:=e.allInts;let⟨i,k⟩:=h.items;let f:=j.isList;let c:(numsOf b.toArray.toList).sum=a.sum:=by rw[show b.toArray.toList=b from rfl,e.numsOf]
 rw[k]at f c;rw[nums_intItems]at c;refine PySem.sum_intListG (I.ok.hd g) f λf h b e=>⟨.int a.sum,H,I.kept e,⟨b,?_⟩,q⟩;rw[preSum_eq,pC (by simp),c]
end
end _cF
namespace _gu
abbrev Row:=List (Int × Int)
def iM(t:Row)(s e:Int):Row :=
 match t.getLast? with
 | some p=>if p.2=s then t.dropLast++[(p.1,e)] else t++[(s,e)]
 | none=>t++[(s,e)]
def dR(t:Row)(p:Int × Int):Row:=if p.1=p.2 then t else iM t p.1 p.2
def cE(r:Row):Row:=r.foldl dR []
def run(s:Int):Nat->List Int
 | 0=>[]
 | n+1=>s::run (s+1) n
def gv(p:Int × Int):UF:=run p.1 (p.2-p.1).toNat
def bu(r:Row):UF:=r.flatMap gv
def cL(a:UF):Row:=a.foldl (λt n=>iM t n (n+1)) []
def fc(s:Int)(n:Nat):↑(run s n)=n:=by
 induction n generalizing s with
 | zero=>rfl
 | succ n a=>simp[run,a]
theorem lZ(s e:Int):iM [] s e=[(s,e)]:=rfl
def l5(t:Row){q:Int × Int}{s:Int}{e:Int}(h:q.2=s):iM (t++[q]) s e=t++[(q.1,e)]:=by
 simp[iM,h]
def l6(t:Row){q:Int × Int}{s:Int}{e:Int}(h:¬ q.2=s):iM (t++[q]) s e=t++[q]++[(s,e)]:=by
 simp[iM,h]
def Ll(t:Row)(a s e:Int):iM (t++[(a,s)]) s e=t++[(a,e)]:=by
 simp[iM]
def yK(t:Row)(a s:Int)(n:Nat):(run s n).foldl (λt n=>iM t n (n+1)) (t++[(a,s)])=t++[(a,s+n)]:=by
 induction n generalizing s with
 | zero=>simp[run]
 | succ n b =>
  rw[run,jY,Ll,b];have:s+1+(n:Int)=s+((n+1:Nat):Int):=by lia
  rw[this]
def N3(t:Row)(p:Int × Int)(h:p.1<=p.2):dR t p=(gv p).foldl (λt n=>iM t n (n+1)) t:=by
 let⟨s,e⟩:=p;simp only at h;unfold dR gv;by_cases a:s=e
 ·subst a;simp[run]
 ·obtain⟨n,b⟩:∃ n:Nat,e=s+1+n:=⟨(e-s-1).toNat,by lia⟩;subst b;rw[if_neg a];let a:((s,s+1+(n:Int)).2-(s,s+1+(n:Int)).1).toNat=n+1:=by simp only;lia
  rw[a,run,jY];simp only;rcases kZ t with rfl|⟨u,q,rfl⟩
  ·rw[lZ,lZ];exact (yK [] s (s+1) n).symm
  ·by_cases a:q.2=s
   ·rw[jI,l5 u a,l5 u a,yK]
   ·rw[jI,l6 u a,l6 u a,yK]
theorem l9{d e b:Type}(f:b->e->b)(g:d->List e):∀ (l:List d) (c:b),(l.flatMap g).foldl f c=l.foldl (λc a=>(g a).foldl f c) c
 | [],_=>rfl
 | a::l,c=>by rw[jb,List.foldl_append,jY,l9 f g l]
def nC(r:Row)(h:∀ p∈r,p.1<=p.2):cE r=cL (bu r):=by
 unfold cE cL bu;rw[l9]
 let a:∀ (r:Row),(∀ p∈r,p.1<=p.2)->∀ t:Row,r.foldl dR t=r.foldl (λc b=>(gv b).foldl (λt n=>iM t n (n+1)) c) t:=by
  intro r
  induction r with
  | nil=>intro _ t;rfl
  | cons p r b =>
   intro h t;rw[jY,jY,N3 t p (h p (nP ..))];exact b (λq b=>h q (jT _ b)) _
 exact a r h []
def wL(t:Row)(s e:Int):↑(iM t s e)<=↑t+1:=by
 rcases kZ t with rfl|⟨u,q,rfl⟩
 ·rw[lZ];simp
 ·by_cases a:q.2=s
  ·rw[jI,l5 u a];simp
  ·rw[jI,l6 u a];simp
def foldl_take_succ{a b:Type}(f:b->a->b)(l:List a)(c:b)(i:Nat)(x:a)(h:l[i]?=⇑x):(l.take (i+1)).foldl f c=f ((l.take i).foldl f c) x:=by
 rw[List.take_add_one,h,List.foldl_append];rfl
end _gu
namespace _gu
def i7(r:Row):Int:=(r.map λp=>p.2-p.1).sum
theorem Rk:i7 []=0:=rfl
def Ey(p:Int × Int)(r:Row):i7 (p::r)=(p.2-p.1)+i7 r:=by simp[i7]
def N4(r:Row)(p:Int × Int):i7 (r++[p])=i7 r+(p.2-p.1):=by simp[i7]
def yL(r q:Row):i7 (r++q)=i7 r+i7 q:=by simp[i7]
def take_snoc{a:Type}{l:List a}{i:Nat}{x:a}(h:l[i]?=⇑x):l.take (i+1)=l.take i++[x]:=by rw[List.take_add_one,h];rfl
end _gu
namespace _gu
def pY(s:Int)(n:Nat):run s (n+1)=run s n++[s+n]:=by
 induction n generalizing s with
 | zero=>simp[run]
 | succ n a =>
  rw[run,a,run];have:s+1+(n:Int)=s+((n+1:Nat):Int):=by lia
  rw[this];rfl
def Bu{a n:Int}(h:a<=n):gv (a,n+1)=gv (a,n)++[n]:=by
 unfold gv;let e:((a,n+1).2-(a,n+1).1).toNat=((a,n).2-(a,n).1).toNat+1:=by simp only;lia
 rw[e,pY];have:a+((((a,n).2-(a,n).1).toNat:Nat):Int)=n:=by simp only;lia
 simp only at this ⊢;rw[this]
def Ez(n:Int):gv (n,n+1)=[n]:=by
 have:=Bu (a:=n) (n:=n) (Int.le_refl _);rw[this];let e:gv (n,n)=[]:=by unfold gv;simp[run]
 rw[e];rfl
def cM(r q:Row):bu (r++q)=bu r++bu q:=by unfold bu;rw[List.flatMap_append]
def fF(p:Int × Int):bu [p]=gv p:=by simp[bu]
def Ht(t:Row)(n:Int)(h:∀ p∈t,p.1<=p.2):bu (iM t n (n+1))=bu t++[n]:=by
 rcases kZ t with rfl|⟨u,q,rfl⟩
 ·rw[lZ,fF,Ez];rfl
 ·rw[jI]at h ⊢;by_cases a:q.2=n
  ·let⟨b,c⟩:=q;simp only at a;subst a;let d:b<=c:=h (b,c) (by simp);rw[l5 u rfl,cM,cM,fF,fF,Bu d,jq]
  ·rw[l6 u a,cM,fF,Ez]
def JQ(t:Row)(n:Int)(h:∀ p∈t,p.1<=p.2):∀ p∈iM t n (n+1),p.1<=p.2:=by
 rcases kZ t with rfl|⟨u,q,rfl⟩
 ·rw[lZ];intro p a;simp at a;subst a;show n<=n+1;lia
 ·rw[jI]at h ⊢;by_cases b:q.2=n
  ·rw[l5 u b];intro p a;rcases List.mem_append.mp a with z|z
   ·exact h p (lQ _ z)
   ·simp at z;subst z;have:=h q (by simp);show q.1<=n+1;lia
  ·rw[l6 u b];intro p a;rcases List.mem_append.mp a with z|z
   ·exact h p z
   ·simp at z;subst z;show n<=n+1;lia
def eT(a:UF):bu (cL a)=a:=by
 let b:∀ (a:UF) (t:Row),(∀ p∈t,p.1<=p.2)->bu (a.foldl (λt n=>iM t n (n+1)) t)=bu t++a:=by
  intro a
  induction a with
  | nil=>intro t _;simp
  | cons n a c =>
   intro t h;rw[jY,c _ (JQ t n h),Ht t n h,jq];rfl
 have:=b a [] (λp c=>by cases c);simpa [cL,bu] using this
def j5(a:UF):∀ p∈cL a,p.1<=p.2:=by
 let b:∀ (a:UF) (t:Row),(∀ p∈t,p.1<=p.2)->∀ p∈a.foldl (λt n=>iM t n (n+1)) t,p.1<=p.2:=by
  intro a
  induction a with
  | nil=>intro t h;exact h
  | cons n a c=>intro t h;exact c _ (JQ t n h)
 exact b a [] (λp c=>by cases c)
end _gu
namespace _gu
def wM(p:Int × Int)(h:p.1<=p.2):(↑(gv p):Int)=p.2-p.1:=by
 unfold gv;rw[fc];lia
theorem qE:∀ (r:Row),(∀ p∈r,p.1<=p.2)->(↑(bu r):Int)=i7 r
 | [],_=>rfl
 | p::r,h=>by
  let a:=qE r λq a=>h q (jT _ a);have a:=wM p (h p (nP ..));have e:bu (p::r)=gv p++bu r:=rfl;rw[e,cR,Ey];lia
end _gu
namespace _gu
open _L2 _cF
structure cA(K:Frag)(mg:X1)(x:Str)(st:Stmt)(ps:Uf)(a:Addr)(d:FuncData):Prop where
 F:NL K x x st a d
 b:Binds K d ps []
 m:mg x=⇑↥a
section
variable {X:Cx}
theorem aB{x:Str}{h:Stmt}{b:Uf}{f:Addr}{j k:Nat}{c:Sp}{e:Expr}{a:List Expr}{t:TA}{p g:Pos}(d:cA X.K X.mg x h b f i)(G:bq X.prog X.w X.K X.mg X.zt cS k f i b c)(l:jd j X.A)
  (m:PA X (e::a) t) (n:k<=j:=by first|decide|lia) (o:Gl X x:=by rfl) (q:(x == ("r":Str))=false:=by decide) (r:starEach (e::a) X.env=(false,eval e X.env)::starEach a X.env:=by rfl)
  (u:(backTo g (starEach a X.env)).any (·.1)=false:=by rfl):PE X (.Call (.Name x p) (e::a) [] g) (Jx c [] E0 t) :=
 Jz G (l.mono n) o d.m d.F.kp d.b .nil bO m q r u
theorem yM{b:Stmt}{t c:TS}(h:PS X b t)(d:∀ D a H,c D a H->t D a H):PS X b c:=λe s a H D I q=>h e s a H D I (d D a H q)
end
def cB(l:Addr)(H b:Hp):Prop:=∀ a o,H a=⇑o->a≠l->b a=⇑o
theorem aH.keep{l:Addr}{H a:Hp}(s:aH H a):cB l H a:=λb o e _=>s b o e
theorem cB.refl(l:Addr)(H:Hp):cB l H H:=λ_ _ e _=>e
theorem cB.trans{l:Addr}{H a c:Hp}(e:cB l H a)(b:cB l a c):cB l H c:=λd o f n=>b d o (e d o f n) n
theorem aG(l:Addr)(H:Hp)(o:HO):cB l H (aL H l o):=λa u e n=>by rw[aJ n];exact e
theorem bN{l:Addr}{H a b:Hp}(h:H l=none)(d:aH H a)(f:cB l a b):aH H b:=λc o e=>f c o (d c o e) (az e h)
theorem ak{H:Hp}{p:Addr}(h:H p=none)(o:HO):aH H (aL H p o):=λb u q=>by rw[aJ (az q h)];exact q
def iN{l a:Addr}{H b:Hp}(k:cB l H b)(n:a≠l)(h:b a=none):H a=none:=by
 cases q:H a with
 | none=>rfl
 | some o=>rw[k a o q n]at h;cases h
def dX(H:Hp)(l c:Addr):Prop:=c≠l/\∃ (a:UF) (i d r:Int),H l=⇑(.lst [↥c,.int i,.int d,.int r])/\H c=⇑(.lst (a.map V.int))/\0<=i/\0<=r/\r<2147483647
def dX.same{H a:Hp}{l c:Addr}(s:dX H l c)(k:aH H a):dX a l c:=by
 let⟨n,b,i,d,r,e,f,g⟩:=s;exact⟨n,b,i,d,r,k _ _ e,k _ _ f,g⟩
def dX.keep{H a:Hp}{l c m:Addr}(s:dX H l c)(k:cB m H a)(b:l≠m)(d:c≠m):dX a l c:=by
 let⟨n,e,i,f,r,g,h,j⟩:=s;exact⟨n,e,i,f,r,k _ _ g b,k _ _ h d,j⟩
def dX.ne{H:Hp}{l c a:Addr}(s:dX H l c)(h:H a=none):l≠a/\c≠a:=by
 let⟨n,e,i,f,r,b,d,g⟩:=s;exact⟨az b h,az d h⟩
theorem Zj{a b c d:V}:nM [a,b,c,d] 0=⇑a:=rfl
theorem VY{a b c d:V}:nM [a,b,c,d] 1=⇑b:=rfl
theorem Rl{a b c d:V}:nM [a,b,c,d] 2=⇑c:=rfl
theorem Zk{a b c d:V}:nM [a,b,c,d] 3=⇑d:=rfl
theorem EA{a b:V}:nM [a,b] 0=⇑a:=rfl
theorem N5{a b:V}:nM [a,b] 1=⇑b:=rfl
class inductive sJ
 | mk (l d:Addr) (b:Int) (_:vs=[↥l,.int b]) (_:dX H l d) (_:0<b) (_:b<10^70) (_ :
 ∀ (v:Int) (c:Hp),0<=v->v<b->dX c l d->(∀ a,a≠l->c a=H a)->Q (.int v) c):sJ vs H Q E
class inductive Uj(K:Frag)
 | mk (a:Addr) (d:UF) (_:vs=[↥a]) (_:bI K H a (d.map V.int)) (_ :
 ∀ (l c:Addr) (b:Hp),dX b l c->aH H b->H l=none->H c=none->Q ↥l b)
def oa:V->Bool
 | .int _ | .bl _ | .str _ | .gi=>true
 | _=>false
def N6(k:Bool)(H:Hp)(a:Addr)(b:List V):Prop:=match k with
 | true=>H a=⇑(.lst b)
 | false=>H a=⇑(.tup b)
def N6.same{k:Bool}{H a:Hp}{b:Addr}{c:List V}(h:N6 k H b c)(s:aH H a):N6 k a b c:=by
 cases k
 ·exact s _ _ h
 ·exact s _ _ h
def N6.sq{K:Frag}{k:Bool}{H:Hp}{a:Addr}{b:List V}(h:N6 k H a b):JO K k H a b:=by
 cases k
 ·exact dI.of h
 ·exact bI.of h
def Eqv(H:Hp):Nat->V->V->Prop
 | 0,_,_=>False
 | n+1,x,y=>(oa x=true/\x=y)\/∃ (k:Bool) (c d:Addr) (a b:List V),x=↥c/\y=↥d/\N6 k H c a/\N6 k H d b/\↑a=↑b/\
   ∀ (i:Nat) (u v:V),a[i]?=⇑u->b[i]?=⇑v->Eqv H n u v
theorem Eqv.same{H a:Hp}(s:aH H a):∀ {n:Nat} {x y:V},Eqv H n x y->Eqv a n x y
 | 0,_,_,h=>h
 | n+1,x,y,h=>by
  rcases h with h|⟨k,b,c,d,e,f,g,i,j,l,m⟩
  ·exact .inl h
  ·exact .inr ⟨k,b,c,d,e,f,g,i.same s,j.same s,l,λi u v b c=>Eqv.same s (m i u v b c)⟩
theorem Eqv.int{H:Hp}{n:Nat}(i:Int):Eqv H (n+1) (.int i) (.int i):=.inl ⟨V⟩
def yN(n:Nat):Sp:=λa H Q _=>∃ x y,a=[x,y]/\Eqv H n x y/\∀ a,aH H a->Q (.bl true) a
class inductive JR
 | mk (i:Int) (_:vs=[.int i]) (_:Q (.bl true) H)
section
variable (K:Frag)
def Zl:kitOne K (.type "bool") (.type "bool")=⇑true:=by rfl
def Zm:kitOne K (.type "int") (.type "bool")=⇑false:=by kernel_rfl
def Zn:kitOne K (.type "int") (.type "int")=⇑true:=by rfl
def oe:kitOne K (.type "str") (.type "bool")=⇑false:=by kernel_rfl
def og:kitOne K (.type "str") (.type "int")=⇑false:=by kernel_rfl
def Zo:kitOne K (.type "str") (.type "str")=⇑true:=by rfl
def on:kitOne K (.type "g") (.type "bool")=⇑false:=by kernel_rfl
def oo:kitOne K (.type "g") (.type "int")=⇑false:=by kernel_rfl
def ot:kitOne K (.type "g") (.type "str")=⇑false:=by kernel_rfl
def Zp:kitOne K (.type "g") (.type "g")=⇑true:=by rfl
def k_lt:kitOne K (.type "g") (.type "q")=⇑false:=by kernel_rfl
def ov:kitOne K (.type "q") (.type "bool")=⇑false:=by kernel_rfl
def ox:kitOne K (.type "q") (.type "int")=⇑false:=by kernel_rfl
def oy:kitOne K (.type "q") (.type "str")=⇑false:=by kernel_rfl
def oC:kitOne K (.type "q") (.type "g")=⇑false:=by kernel_rfl
def oD:kitOne K (.type "q") (.type "q")=⇑true:=by rfl
end
def Yb(k:Bool):Value:=.type (if k then "g" else "q")
def N6.ty{K:Frag}{k:Bool}{H:Hp}{a:Addr}{b:List V}(h:N6 k H a b):jZ K H ↥a (Yb k):=by
 cases k
 ·exact jZ.tup h
 ·exact jZ.lst h
def oI(K:Frag)(k:Bool):kitOne K (Yb k) (.type "bool")=⇑false:=by cases k;exact ov K;exact on K
def oL(K:Frag)(k:Bool):kitOne K (Yb k) (.type "int")=⇑false:=by cases k;exact ox K;exact oo K
def oO(K:Frag)(k:Bool):kitOne K (Yb k) (.type "str")=⇑false:=by cases k;exact oy K;exact ot K
def Zq(K:Frag)(k:Bool):kitOne K (Yb k) (.type "g")=⇑k:=by cases k;exact oC K;exact Zp K
def Zr(K:Frag)(k:Bool):kitOne K (Yb k) (.type "q")=⇑(!k):=by cases k;exact oD K;exact k_lt K
def jN(H:Hp)(a:Addr)(p:Int × Int):Prop:=H a=⇑(.tup [.int p.1,.int p.2])
abbrev aY(H:Hp):List Addr->Row->Prop:=Paired (jN H)
inductive bP(H:Hp)(r:Addr)(row:Row):Prop
 | mk (a:UV) (_:H r=⇑(.lst (a.map V.ref))) (_:aY H a row)
theorem aY.tups{H b:Hp}{c:UV}{d:Row}(h:aY H c d)(t:∀ a e,H a=⇑(.tup e)->b a=⇑(.tup e)):aY b c d:=Paired.Co h λa p f=>t a _ f
theorem aY.same{H a:Hp}{b:UV}{c:Row}(h:aY H b c)(s:aH H a):aY a b c:=h.tups λd f e=>s d _ e
def bP.same{H a:Hp}{r:Addr}{b:Row}(h:bP H r b)(s:aH H a):bP a r b:=by
 let⟨c,d,e⟩:=h;exact⟨c,s _ _ d,e.same s⟩
theorem aY.keep{H a:Hp}{b:UV}{c:Row}{l:Addr}{d:List V}(h:aY H b c)(f:H l=⇑(.lst d))(s:cB l H a):aY a b c :=
 h.tups λg i e=>s g _ e (cP e f)
def bP.keep{H a:Hp}{r:Addr}{b:Row}{l:Addr}{c:List V}(h:bP H r b)(d:H l=⇑(.lst c))(n:r≠l)(s:cB l H a):bP a r b:=by
 let⟨e,f,g⟩:=h;exact⟨e,s _ _ f n,g.keep d s⟩
theorem aY.get{H:Hp}:∀ {b:UV} {row:Row} {i:Nat} {a:Addr},aY H b row->b[i]?=⇑a->∃ p,row[i]?=⇑p/\jN H a p
 | _,_,_,_,.nil,e=>by simp at e
 | _,_,0,_,.cons r _,e=>by simp at e;subst e;exact⟨Y,r⟩
 | _,_,i+1,a,.cons _ t,e=>by
  let⟨p,c,d⟩:=aY.get (i:=i) (a:=a) t (by simpa using e);exact⟨p,by simpa using c,d⟩
def aY.snoc{H:Hp}{a:UV}{b:Row}{c:Addr}{p:Int × Int}(h:aY H a b)(e:jN H c p):aY H (a++[c]) (b++[p]):=by
 induction h with
 | nil=>exact .cons e .nil
 | cons r _ d=>exact .cons r d
theorem aY.split{H:Hp}:∀ {as:UV} {row:Row} {p:Int × Int},aY H as (row++[p])->∃ a b,as=a++[b]/\aY H a row/\jN H b p
 | as,[],p,h=>by
  cases h with
  | cons r t=>cases t;exact⟨[],Y,.nil,r⟩
 | as,q::row,p,h=>by
  cases h with
  | cons r t =>
   let⟨a,b,rfl,c,d⟩:=aY.split (row:=row) (p:=p) t;exact⟨_::a,b,1,.cons r c,d⟩
theorem aY.len{H:Hp}{a:UV}{b:Row}(h:aY H a b):↑a=↑b:=Paired.length h
def bP.eqv{H:Hp}{r q:Addr}{c:Row}(h:bP H r c)(g:bP H q c)(n:Nat):Eqv H (n+3) ↥r ↥q:=by
 let⟨j,i,d⟩:=h;let⟨w,j,e⟩:=g;refine .inr ⟨true,r,q,Z,i,j,by rw[cC,cC,d.len,e.len],λi u v a b=>?_⟩;rw[gj]at a b;let⟨k,l,rfl⟩:=Option.map_eq_some_iff.mp a;let⟨m,o,rfl⟩:=Option.map_eq_some_iff.mp b;let⟨j,i,p⟩:=d.get l;let⟨d,f,s⟩:=e.get o;rw[i]at f;cases f;refine .inr ⟨false,k,m,Z,p,s,1,λt u v a b=>?_⟩;rw[a]at b;cases b
 match t,a with
 | 0,a=>cases a;exact Eqv.int _
 | 1,a=>cases a;exact Eqv.int _
theorem gT{a:Type}(b:List a)(v:a):nM (b++[v]) (-1)=⇑v:=Nu b v
def EB(n:Nat):JD (n+1) (-1)=⇑n:=by
 unfold JD;rw[if_neg (by decide),if_pos ∅];congr 1;lia
def yO{b:Type}(a:List b)(d c:b):(a++[d]).set ↑a c=a++[c]:=by
 simp
def yP(lo:Int)(n:Nat):Bt lo n=(run lo n).map V.int:=by
 unfold Bt
 induction n generalizing lo with
 | zero=>rfl
 | succ n a =>
  rw[List.range_succ_eq_map,jo,List.map_map,run,jo,← a (lo+1)];congr 1
  ·simp
  ·apply List.map_congr_left;intro i _;simp only[Function.comp,Nat.succ_eq_add_one];congr 1;lia
class inductive Rm(lim:Nat)
 | mk (r:Addr) (a:Row) (_:vs=[↥r]) (_:bP H r a) (_:(∀ p∈a,0<=p.1/\p.1<=p.2/\p.2<2^62)) (_:↑(bu a)<=1000000) (_:↑a<=lim) (_ :
 ∀ (n:Addr) (b:Hp),b n=⇑(.lst ((bu a).map V.int))->aH H b->H n=none->Q ↥n b)
class inductive Rn
 | mk (r:Addr) (a:Row) (_:vs=[↥r]) (_:bP H r a) (_:↑a<=1000000) (_ :
 ∀ (q:Addr) (b:Hp),bP b q (cE a)->aH H b->H q=none->Q ↥q b)
theorem aN{n:Nat}(h:n<=1000001):n<sizeLine:=Nat.lt_of_le_of_lt h (by decide)
end _gu
namespace _gu
open _L2 _cF
def VZ:TS:=λD a H=>∃ (l c:Addr) (d:Int),a=[⇑↥l,⇑(.int d),none,none]/\dX H l c/\
 ∀ (e:Option V) (a:Hp),dX a l c->(∀ b,b≠l->a b=H b)->D.nx [⇑↥l,⇑(.int d),e,none] a
def V0:TS:=λD a H=>∃ (l c:Addr) (d:Int),a=[⇑↥l,⇑(.int d),⇑(.int 7),none]/\dX H l c/\
 ∀ (e:Int) (a:Hp),dX a l c->(∀ b,b≠l->a b=H b)->D.nx [⇑↥l,⇑(.int d),⇑(.int e),none] a
def Rp{a:UF}{i:Int}(c:0<=i)(d:i<(↑a:Int)):∃ v:Int,nM (a.map V.int) i=⇑(.int v):=by
 let b:i.toNat<↑a:=by lia
 exists a[i.toNat]
 let q:nM (a.map V.int) ((i.toNat:Nat):Int)=⇑(.int a[i.toNat]):=dm (by rw[gj,nh b] <;> rfl)
 let b:((i.toNat:Nat):Int)=i:=by lia
 rw[b]at q;exact q
def N7(a:UF)(lo b:Option Int):∃ c:List Int,j0 (a.map V.int) lo b=c.map V.int:=by
 unfold j0;exists (a.drop (_HT.iZ ↑(a.map V.int) 0 lo)).take (_HT.iZ ↑(a.map V.int) ↑(a.map V.int) b-_HT.iZ ↑(a.map V.int) 0 lo);rw[List.map_take,List.map_drop]
def tt{p:Prop} [Decidable p] {Q:V->Hp->Prop} {H:Hp} (a:p) (h:Q (.bl true) H):Q (.bl (decide p)) H:=by
 rw[decide_eq_true a];exact h
def N6.or{K:Frag}{k:Bool}{H:Hp}{a:Addr}{b:List V}(h:N6 k H a b):bI K H a b\/dI K H a b:=by
 cases k
 ·exact .inr (dI.of h)
 ·exact .inl (bI.of h)
theorem bS{l:Addr}{H b:Hp}(k:∀ a,a≠l->b a=H a):cB l H b:=λa o e n=>by rw[k a n];exact e
end _gu
namespace _gu
open _L2 _cF
def dX.lst{H:Hp}{l c:Addr}(s:dX H l c):∃ a,H l=⇑(.lst a):=by
 let⟨n,d,i,e,r,b,_⟩:=s;exact⟨_,b⟩
end _gu
namespace _cF
open Spec Rows _L2
section
variable {prog:Program} {w:World} {A:Around} {R:XV} {s:Shared}
def qF(b:List Expr)(a:Env):Sem Bool:=forIn b true λc r=>if r=true then do let ok ← isTrue c a (eval c a);pure (ForInStep.yield ok) else pure (ForInStep.yield r)
theorem Lm{i:Expr}{j:Scope}{c d:Value}{b:Env}(I:Nat->Shared->Prop)
  (z:∀ n s,I n s->wpAny (model prog w) A (pyNext c) (λr e=>match r with
   | none=>R (.ok .next) e
   | some v=>wpAny (model prog w) A (letOwnedTupleGo f c v) (λ_ k=>wpAny (model prog w) A (assign f b v) (λ_ l =>
     wpAny (model prog w) A (qF o b) (λg h =>
      if g=true then wpAny (model prog w) A (eval p b) (λx q=>wpAny (model prog w) A (call (.builtin "list.append") [d,x]) (λ_ t=>∃ m,m<n/\I m t) (λ_ _=>False) q) (λ_ _=>False) h
      else ∃ m,m<n/\I m h) (λ_ _=>False) l) (λ_ _=>False) k) (λ_ _=>False) e) (λ_ _=>False) s)
  (n:Nat) (B:I n s):codeAny (model prog w) A (.compLoop (.ListComp p [⟨f,i,o,0⟩] j C) 0 c d b) R s:=by
 refine codeAny_loop rfl I (λn s D=>?_) n B;show wpAny _ A ((compTurn (.ListComp p [⟨f,i,o,0⟩] j C) 0 c d b).onRaise (λx=>do noteFrame x b;theTreesLotGoes x)) _ _ s;refine wpAny_noted ?_;rw[compTurn_list];refine wpAny_bind (wpAny_standAt (wpAny_bind (wpAny_mono (z n s D) (λr e u=>?_) λ_ _ a=>a.elim)))
 cases r with
 | none=>exact wpAny_pure u
 | some v =>
  refine wpAny_bind (wpAny_mono u (λ_ k u=>wpAny_bind (wpAny_mono u (λ_ l u=>wpAny_bind (wpAny_mono u (λg h y=>?_) λ_ _ a=>a.elim)) λ_ _ a=>a.elim)) λ_ _ a=>a.elim)
  cases g with
  | false=>exact wpAny_pure ⟨1,y⟩
  | true=>exact wpAny_bind (wpAny_bind (wpAny_mono y (λx q u=>wpAny_bind (wpAny_mono u (λ_ t u=>wpAny_pure (wpAny_pure ⟨1,u⟩)) λ_ _ a=>a.elim)) λ_ _ a=>a.elim))
end
section
variable {X:Cx} {N:Uf} {scope:Scope}
def Ln(X:Cx)(c:List Expr)(t:TT):Prop :=
 ∀ (b:List (Addr × Obj)) (s:Shared) (a:_L2.St) (H:Hp) (Q:Bool->Hp->Prop),Inv X b a H s->t a H Q->wpAny (model X.prog X.w) X.A (qF c X.env) (TP X b a Q) X.xe s
def Lp:TT:=λ_ H Q=>Q true H
theorem gK:Ln X [] Lp:=λa s b H Q I h=>wpAny_tests_nil ⟨H,I,h⟩
theorem xM{c:Expr}{t:TT}(h:PT X c t):Ln X [c] t:=λa s b H Q I q=>wpAny_tests_one (h a s b H Q I q)
end
end _cF
namespace _cF
open Spec Rows _L2
theorem Lq{P:Program}{B:World}{K:Frag}(b:Addr)(lo:Int)(n:Nat):GX P B K M (KP lo n) [b] b (λi h=>IsLongIter h b (lo+(i:Nat)*1) ((n:Int)-(i:Nat)) 1) where
 mem:=by simp
 obj:=λi h a c d=>by
  let e:c=b:=by simpa using d
  subst e
  exact⟨_,a,λw z=>by
   let f:Data.fields _=Data.cell w:=z
   cases f⟩
 keep:=λi h f a C=>C b (by simp) _ a
 item:=by
  intro X j k l m i x s y H E I g a o;subst j k l;let⟨p,q,D,r,t,u⟩:=g b (by simp);let W:=Walks.longrange (prog:=X.prog) (w:=X.w) (I.ok.hd m) b lo 1 n;refine W.item i s _ _ o a λw f z F A G=>?_;let⟨J,rfl⟩:=F;have L:Inv X x y H { s with heap:=f,toks:=z }:=I.turned (λc v d e=>G c v (by simpa using d) e) p q r t u;refine⟨Y,Eh (s:={ s with heap:=f,toks:=z }) (n:="longrange_iterator") A rfl rfl (by decide) ⟨.int (lo+i),H,L,⟨J,?_⟩,⟨V⟩,A,λc d=>(g c d).1⟩⟩;rw[Int.mul_one]
 done:=by
  intro X j k l m i x s y H E I g a o;subst j k l;let⟨p,q,D,r,t,u⟩:=g b (by simp);exact wpAny_pyNext_long_end (I.ok.hd m) a (by have:n<=i:=o;lia) λf f=>⟨1,I.turned (t':=s.toks) (λc v d e=>f c v d e) p q r t u⟩
 self:=λ_ _ _ _ _ a h=>wpAny_pyIter_longiter a h
section
variable {X:Cx} {tg:Expr}
theorem Lr{g:_L2.St}{H:Hp}{s:Shared}{i:It->Hp->Prop}{E:ZB}{lo a:Int}{t u v:Tok}{c:Nat}(I:Inv X h g H s)
  (q:i (KP lo (a-lo).toNat) H):wpAny (model X.prog X.w) X.A (pyIter ↥s⁻¹) (eM X h g tg i) E { s with heap:=s.heap.push { cls:=.type "v",data:=.fields (List.toArray [.int lo t,.int a u,.int 1 v]) },toks:=c }:=by
 let d:Inv X h g H { s with heap:=s.heap.push { cls:=.type "v",data:=.fields (List.toArray [.int lo t,.int a u,.int 1 v]) },toks:=c }:=I.kept λb o e=>Heap.get?_push_of_some _ e;have j:lo+((0:Nat):Int)*1=lo:=by simp
 let k:(((a-lo).toNat:Nat):Int)-((0:Nat):Int)=Builtin.Range.rangeSize lo a 1:=by rw[rangeSize_one];split <;> lia
 let l:∀ b∈[(s.heap.push { cls:=.type "v",data:=.fields (List.toArray [.int lo t,.int a u,.int 1 v]) }).objs.size],nR X h H b:=λb f=>by
  let e:b=(s.heap.push { cls:=.type "v",data:=.fields (List.toArray [.int lo t,.int a u,.int 1 v]) }).objs.size:=by simpa using f
  subst e;exact d.KO (d7 _) (d.hok.fresh (d7 _))
 cases f:Builtin.Range.small lo a 1 with
 | true =>
  refine wpAny_pyIter_range (IsRange.new ..) f ?_;refine⟨_,[(s.heap.push { cls:=.type "v",data:=.fields (List.toArray [.int lo t,.int a u,.int 1 v]) }).objs.size],E,H,1,d.kept (t':=c) λb o e=>Heap.get?_push_of_some _ e,xX _ lo (a-lo).toNat,?_,l,q⟩;show IsRangeIter _ _ (lo+((0:Nat):Int)*1) ((((a-lo).toNat:Nat):Int)-((0:Nat):Int)) 1;rw[j,k];exact Heap.get?_push_size _ rfl
 | false =>
  refine wpAny_pyIter_longrange (IsRange.new ..) f ?_;refine⟨_,[(s.heap.push { cls:=.type "v",data:=.fields (List.toArray [.int lo t,.int a u,.int 1 v]) }).objs.size],E,H,1,d.kept (t':=c) λb o e=>Heap.get?_push_of_some _ e,Lq _ lo (a-lo).toNat,?_,l,q⟩;show IsLongIter _ _ (lo+((0:Nat):Int)*1) ((((a-lo).toNat:Nat):Int)-((0:Nat):Int)) 1;rw[j,k];exact Heap.get?_push_size _ rfl
def Zs(a:TA):TI:=fun b H R=>a b H λb c=>∃ i j:Int,b=[.int i,.int j]/\R (KP i (j-i).toNat) c
theorem Ls{a b:Expr}{c:TA}{p d:Pos}(f:Gl X "v")(g:X.mg "v"=none)(h:PA X [a,b] c)(i:starEach [a,b] X.env=[(false,eval a X.env),(false,eval b X.env)]:=by rfl)(e:starEach [b] X.env=[(false,eval b X.env)]:=by rfl) :
  PI X tg (.Call (.Name "v" p) [a,b] [] d) (Zs c):=by
 intro j s k H R I l;refine Call_ (uX I f g boot_range (PyProof.Rows.callWith_type1 (dB (h d j s k H _ I l) λj k ⟨l,t,m,n,o⟩=>?_) (by rw[i,e]) (by rw[e];rfl)));let⟨j,k,q,r⟩:=o;subst q;let⟨u,v,rfl,⟨w,rfl⟩,⟨x,rfl⟩⟩:=n.two;exact call_range_2 (Lr m r)
end
end _cF
namespace _cF
open Spec Rows _L2
section
variable {prog:Program} {w:World} {A:Around} {R:XV} {s:Shared}
theorem Rt(d h i b e:Expr)(j f:List Expr)(k:Scope)(l:Pos)(c g:Value)(a:Env) :
  compTurn (.ListComp d [⟨h,i,j,0⟩,⟨b,e,f,0⟩] k l) 1 c g a=(do
   standAt e.pos
   match ← pyNext c with
   | none=>pure (.done .next)
   | some v =>
    letOwnedTupleGo b c v
    assign b a v
    let ok ← qF f a
    if ok then (do let _ ← call (.builtin "list.append") [g,← eval d a])
    again (.compLoop (.ListComp d [⟨h,i,j,0⟩,⟨b,e,f,0⟩] k l) 1 c g a)):=by rfl
theorem N8(g c d h b:Expr)(e i:List Expr)(j:Scope)(k:Pos)(f l:Value)(a:Env) :
  compTurn (.ListComp g [⟨c,d,e,0⟩,⟨h,b,i,0⟩] j k) 0 f l a=(do
   standAt d.pos
   match ← pyNext f with
   | none=>pure (.done .next)
   | some v =>
    letOwnedTupleGo c f v
    assign c a v
    let ok ← qF e a
    if ok then
     let x ← eval b a
     standAt b.pos
     let x ← foldedSetIterable b a x
     let _ ← runOwn (.compStart (.ListComp g [⟨c,d,e,0⟩,⟨h,b,i,0⟩] j k) 1 (← holding [x] (pyIter x)) l a) a
    again (.compLoop (.ListComp g [⟨c,d,e,0⟩,⟨h,b,i,0⟩] j k) 0 f l a)):=by rfl
theorem Wa{i:Expr}{j:Scope}{c d:Value}{b:Env}(I:Nat->Shared->Prop)
  (z:∀ n s,I n s->wpAny (model prog w) A (pyNext c) (λr e=>match r with
   | none=>R (.ok .next) e
   | some v=>wpAny (model prog w) A (letOwnedTupleGo f c v) (λ_ k=>wpAny (model prog w) A (assign f b v) (λ_ l =>
     wpAny (model prog w) A (qF o b) (λg h =>
      if g=true then wpAny (model prog w) A (eval p b) (λx q=>wpAny (model prog w) A (call (.builtin "list.append") [d,x]) (λ_ t=>∃ m,m<n/\I m t) (λ_ _=>False) q) (λ_ _=>False) h
      else ∃ m,m<n/\I m h) (λ_ _=>False) l) (λ_ _=>False) k) (λ_ _=>False) e) (λ_ _=>False) s)
  (n:Nat) (B:I n s):codeAny (model prog w) A (.compLoop (.ListComp p [⟨C,i,D,0⟩,⟨f,G,o,0⟩] j H) 1 c d b) R s:=by
 refine codeAny_loop rfl I (λn s F=>?_) n B;show wpAny _ A ((compTurn (.ListComp p [⟨C,i,D,0⟩,⟨f,G,o,0⟩] j H) 1 c d b).onRaise (λx=>do noteFrame x b;theTreesLotGoes x)) _ _ s;refine wpAny_noted ?_;rw[Rt];refine wpAny_bind (wpAny_standAt (wpAny_bind (wpAny_mono (z n s F) (λr e u=>?_) λ_ _ a=>a.elim)))
 cases r with
 | none=>exact wpAny_pure u
 | some v =>
  refine wpAny_bind (wpAny_mono u (λ_ k u=>wpAny_bind (wpAny_mono u (λ_ l u=>wpAny_bind (wpAny_mono u (λg h y=>?_) λ_ _ a=>a.elim)) λ_ _ a=>a.elim)) λ_ _ a=>a.elim)
  cases g with
  | false=>exact wpAny_pure ⟨1,y⟩
  | true=>exact wpAny_bind (wpAny_bind (wpAny_mono y (λx q u=>wpAny_bind (wpAny_mono u (λ_ t u=>wpAny_pure (wpAny_pure ⟨1,u⟩)) λ_ _ a=>a.elim)) λ_ _ a=>a.elim))
theorem Ru{b:Expr}{c:Scope}{d e:Value}{a:Env}
  (p:codeAny (model prog w) A (.compLoop (.ListComp g [⟨h,b,i,0⟩,⟨j,f,k,0⟩] c l) 1 d e a) R s)
  (q:wpAny (model prog w) A (pyIter d) (λm n=>codeAny (model prog w) A (.compLoop (.ListComp g [⟨h,b,i,0⟩,⟨j,f,k,0⟩] c l) 1 m e a) R n) (λ_ _=>False) s) :
  codeAny (model prog w) A (.compStart (.ListComp g [⟨h,b,i,0⟩,⟨j,f,k,0⟩] c l) 1 d e a) R s:=by
 refine codeAny_of_tree ?_;show wpAny _ _ ((compStart (.ListComp g [⟨h,b,i,0⟩,⟨j,f,k,0⟩] c l) 1 d e a).onRaise (λx=>do noteFrame x a;standAt theWindowsPlace)) _ _ s;refine wpAny_notedAt ?_;unfold compStart;show wpAny _ _ (ask >>= _) _ _ s;refine wpAny_bind (wpAny_askSetting (wpAny_ite ?_));split
 ·first
   | exact wpAny_bind (wpAny_pure (wpAny_pure (And.intro rfl p)))
   | exact wpAny_pure (And.intro rfl p)
 ·first
   | exact wpAny_bind (wpAny_rule (wpAny_bind (wpAny_standAt (wpAny_bind (wpAny_mono q (λm n o=>wpAny_pure (And.intro rfl o)) λ_ _ x=>x.elim)))))
   | (refine wpAny_bind (wpAny_rule ?_);show wpAny _ _ (standAt f.pos >>= _) _ _ s;exact wpAny_bind (wpAny_standAt (wpAny_bind (wpAny_mono q (λm n o=>wpAny_pure (And.intro rfl o)) λ_ _ x=>x.elim))))
theorem Rw{f:Expr}{g:Scope}{c h:Value}{b:Env}(I:Nat->Shared->Prop)
  (J:∀ x,foldedSetIterable d b x=pure x)
  (L:∀ n s,I n s->wpAny (model prog w) A (pyNext c) (λr i=>match r with
   | none=>R (.ok .next) i
   | some v=>wpAny (model prog w) A (letOwnedTupleGo e c v) (λ_ o=>wpAny (model prog w) A (assign e b v) (λ_ p =>
     wpAny (model prog w) A (qF j b) (λk l =>
      if k=true then wpAny (model prog w) A (eval d b) (λx q=>wpAny (model prog w) A (pyIter x) (λt u =>
       codeAny (model prog w) A (.compStart (.ListComp y [⟨e,f,j,0⟩,⟨z,d,B,0⟩] g C) 1 t h b) (λr D=>(∃ G,r=.ok G)/\∃ m,m<n/\I m D) u) (λ_ _=>False) q) (λ_ _=>False) l
      else ∃ m,m<n/\I m l) (λ_ _=>False) p) (λ_ _=>False) o) (λ_ _=>False) i) (λ_ _=>False) s)
  (n:Nat) (M:I n s):codeAny (model prog w) A (.compLoop (.ListComp y [⟨e,f,j,0⟩,⟨z,d,B,0⟩] g C) 0 c h b) R s:=by
 refine codeAny_loop rfl I (λn s N=>?_) n M;show wpAny _ A ((compTurn (.ListComp y [⟨e,f,j,0⟩,⟨z,d,B,0⟩] g C) 0 c h b).onRaise (λx=>do noteFrame x b;theTreesLotGoes x)) _ _ s;refine wpAny_noted ?_;rw[N8];refine wpAny_bind (wpAny_standAt (wpAny_bind (wpAny_mono (L n s N) (λr i F=>?_) λ_ _ a=>a.elim)))
 cases r with
 | none=>exact wpAny_pure F
 | some v =>
  refine wpAny_bind (wpAny_mono F (λ_ o F=>wpAny_bind (wpAny_mono F (λ_ p F=>wpAny_bind (wpAny_mono F (λk l H=>?_) λ_ _ a=>a.elim)) λ_ _ a=>a.elim)) λ_ _ a=>a.elim)
  cases k with
  | false=>exact wpAny_pure ⟨1,H⟩
  | true =>
   refine wpAny_bind (wpAny_mono H (λx q F=>wpAny_bind (wpAny_standAt (wpAny_bind (wpAny_of_eq (J x) (wpAny_bind (wpAny_holding (wpAny_mono F (λt u F=>?_) λ_ _ a=>a.elim))))))) λ_ _ a=>a.elim);refine wpAny_bind (wpAny_runOwn (codeAny_mono F λr D a=>?_));let⟨⟨G,O⟩,S⟩:=a;subst O;exact wpAny_pure ⟨1,S⟩
end
section
variable {X:Cx} {N:Uf} {scope:Scope}
def Hu(g:TI)(d:Addr)(h:TG)(tt:TT)(j:TE):_L2.St->Hp->(_L2.St->Hp->Prop)->Prop:=fun a H b=>g a H λJ c =>
 ∃ W:Nat->Nat->_L2.St->Hp->Prop,(∃ m,W 0 m a c)/\∀ i m a H,W i m a H->
  (J.stop i H/\b a H)\/(J.go i H/\∃ c:_L2.St->Hp->Prop,(∀ e b,c e b->∃ f,f<m/\W (i+1) f e b)/\∀ x b,J.Nf i H x b->h x a b fun a e=>tt a e λb e =>
   if b=true then j a e λv f=>∃ b,f d=⇑(.lst b)/\↑b<sizeLine/\c a (aL f d (.lst (b++[v]))) else c a e)
theorem Lu{Y:Cx}{G:Expr}{I:TI}{J:TG}{L:TT}{M:TE}(O:Y.calm=true)(U:Y.xe=λ_ _=>False)(hi:PI Y t u I)(hg:PG Y t J)(ht:Ln Y jh L)(he:PE Y jU M)
  {d:List (Addr × Obj)} {s:Shared} {m:_L2.St} {H:Hp} {v:_L2.St->Hp->Prop} (ai:Inv Y d m H s) (am:Hu I n J L M m H v) :
  wpAny (model Y.prog Y.w) Y.A (eval u Y.env) (λx an=>wpAny (model Y.prog Y.w) Y.A (pyIter x) (λZt aq =>
   codeAny (model Y.prog Y.w) Y.A (.compStart (.ListComp jU [⟨tg,G,jE,0⟩,⟨t,u,jh,0⟩] scope ar) 1 Zt ↥n Y.env) (λr w=>(∃ y,r=.ok y)/\∃ c a,Inv Y d c a w/\v c a) aq) (λ_ _=>False) an) (λ_ _=>False) s:=by
 let F:=hi d s m H _ ai am;let z:=hg;let A:=ht;let B:=he;unfold PG at z;unfold Ln at A;unfold PE at B;rw[U]at F z A B;refine dB F λN s1 F=>dB F λYK s2 F=>?_;let⟨it,g,R,aA,H2,h,I2,T,S,X,W,⟨m0,w0⟩,jr⟩:=F;subst h;have C:∀ {a:Hp},(∀ b∈g,a b=none)->∀ b∈g,nR Y d a b:=λF b e=>⟨F b e,(X b e).2⟩
 let ab:codeAny (model Y.prog Y.w) Y.A (.compLoop (.ListComp jU [⟨tg,G,jE,0⟩,⟨t,u,jh,0⟩] scope ar) 1 ↥it ↥n Y.env) (λr w=>(∃ y,r=.ok y)/\∃ c a,Inv Y d c a w/\v c a) s2:=by
  refine Wa (λo f=>∃ i c a,Inv Y d c a f/\R i f.heap/\(∀ b∈g,a b=none)/\W i o c a) ?_ m0 ⟨0,m,H2,I2,S,λb e=>(X b e).1,w0⟩;rintro o s6 ⟨i,j,l,I6,Uk,JT,w6⟩;rcases jr i o j l w6 with ⟨stop,qn⟩|⟨go,N2,hN,step⟩
  ·refine dB (T.done Y rfl rfl rfl O i d s6 j l _ I6 (C JT) Uk stop) λr s7 f=>?_;let⟨D,k⟩:=f;subst D;exact⟨⟨Y⟩,j,l,k,qn⟩
  ·refine dB (T.item Y rfl rfl rfl O i d s6 j l _ I6 (C JT) Uk go) λr s7 l=>?_;let⟨as,D,h7⟩:=l;subst D;refine dB h7 λ_ F X=>?_;let⟨x,l,I8,r8,y8,D,Rx⟩:=X;have X:=I8.pinned (C Rx) (T.obj _ _ D);refine dB (z _ F j l x as _ X r8 (step x l y8)) λ_ j l=>?_;let⟨p,z,C,X⟩:=l;refine dB (A _ j p z _ C X) λok av j=>?_;let⟨MR,Ul,q⟩:=j
   let ae:∀ {j:_L2.St} {l:Hp} {f:Shared},Inv Y (d++rY g F.heap) j l f->N2 j l->∃ z,z<o/\∃ i c a,Inv Y d c a f/\R i f.heap/\(∀ b∈g,a b=none)/\W i z c a:=λ{j l f} k g=>by
    let⟨o,z,A⟩:=hN j l g;refine⟨o,z,i+1,j,l,k.nk,T.keep _ _ _ D λb e o h=>(k.pin (b,o) (kJ _ (kJ _ (ig e h)))).1,λb e=>?_,A⟩;let⟨o,h,g⟩:=T.obj _ _ D b e;exact (k.pin (b,o) (kJ _ (kJ _ (ig e h)))).2.1
   cases ok with
   | false =>
    rw[if_neg lG]at q;exact ae Ul q
   | true =>
    rw[if_pos rfl]at q;refine dB (B _ av p MR _ Ul q) λN f b=>?_;let⟨ag,e,g,aw,xs,hx,hz,ax⟩:=b;have ap:=b9 _ f p e ↥n [ag] ↥n [N] (λ_ a=>N2 p a) g rfl (.cons aw .nil) ⟨_,xs,ag,V,hx,hz,ax⟩;rw[U]at ap;exact dB ap λ_ f ⟨_,g,b,_,e⟩=>ae b e
 exact Ru ab (T.self _ _ _ _ _ S ab)
theorem EC{lo:Int}{k:Nat}{t:TG}{tt:TT}{u:TE}{a:_L2.St}{H:Hp}{w:_L2.St->Hp->Prop}(c:Nat->_L2.St->Hp->Prop)(A:c 0 a H)
  (B:∀ i a H,i<k->c i a H->t (.int (lo+i)) a H fun b g=>tt b g λh e=>if h=true then u b e λv f=>∃ j,f l=⇑(.lst j)/\↑j<sizeLine/\c (i+1) b (aL f l (.lst (j++[v]))) else c (i+1) b e)
  (C:∀ a H,c k a H->w a H):∃ W:Nat->Nat->_L2.St->Hp->Prop,(∃ m,W 0 m a H)/\∀ i m a H,W i m a H->
  ((KP lo k).stop i H/\w a H)\/((KP lo k).go i H/\∃ n:_L2.St->Hp->Prop,(∀ o d,n o d->∃ z,z<m/\W (i+1) z o d)/\∀ x d,(KP lo k).Nf i H x d->t x a d fun b g=>tt b g λh e =>
   if h=true then u b e λv f=>∃ p,f l=⇑(.lst p)/\↑p<sizeLine/\n b (aL f l (.lst (p++[v]))) else n b e):=by
 refine⟨λi m a H=>m=k-i/\i<=k/\c i a H,⟨k,by simp,ic _,A⟩,?_⟩;rintro i m a H ⟨rfl,D,s⟩;by_cases q:i<k
 ·refine .inr ⟨q,c (i+1),fun o d D=>⟨k-(i+1),by lia,1,q,D⟩,λx d y=>?_⟩;let⟨r,y⟩:=y;subst r y;exact B i a _ q s
 ·let r:i=k:=by lia
  subst r;exact .inl ⟨Nat.le_refl _,C a H s⟩
end
theorem Ry{i:Nat}{v:V}{a:_L2.St}{H:Hp}{Q:_L2.St->Bool->Hp->Prop}(h:Q (a.set i (⇑v)) true H):pI i v a H (fun b c=>Lp b c (Q b)):=h
theorem yes{a:_L2.St}{H:Hp}{Q:Bool->Hp->Prop}(h:Q true H):Lp a H Q:=h
end _cF
namespace _gu
open _L2 _cF
class inductive Rz
 | mk (r:Addr) (a:Row) (_:vs=[↥r]) (_:bP H r a) (_:(∀ p∈a,p.1<=p.2)) (_:↑(bu a)<=1000000) (_ :
 ∀ (n:Addr) (b:Hp),b n=⇑(.lst ((bu a).map V.int))->aH H b->H n=none->Q ↥n b)
def yQ{a:Row}{i:Nat}{p:Int × Int}(h:a[i]?=⇑p):bu (a.take (i+1))=bu (a.take i)++gv p:=by
 rw[take_snoc h,cM,fF]
def rN(a:Row)(i:Nat):↑(bu (a.take i))<=↑(bu a):=by
 conv=>rhs;rw[← List.take_append_drop i a,cM,cR]
 lia
theorem ED{e a:Hp}{q t:Addr}{b:UV}{g:Row}{c d:Int}(j:e q=none)(s:aH e a)(h:a q=⇑(.lst (b.map V.ref)))(k:aY a b g)(i:a t=none) :
  (aL (aL a t (.tup [.int c,.int d])) q (.lst (b.map V.ref++[↥t]))) q=⇑(.lst ((b++[t]).map V.ref))/\
  aY (aL (aL a t (.tup [.int c,.int d])) q (.lst (b.map V.ref++[↥t]))) (b++[t]) (g++[(c,d)])/\aH e (aL (aL a t (.tup [.int c,.int d])) q (.lst (b.map V.ref++[↥t]))):=by
 let l:q≠t:=az h i;let f:aH a (aL a t (.tup [.int c,.int d])):=ak i _;refine⟨by rw[af,gI];rfl,?_,bN j (s.trans f) (aG q _ _)⟩;refine aY.snoc ((k.same f).keep (f _ _ h) (aG q _ _)) ?_;show aL _ q _ t=_;rw[aJ l.symm,af]
theorem turned{d b:Hp}{q t c:Addr}{a:UV}{f:Row}{st en:Int}(i:d q=none)(s:aH d b)(g:b q=⇑(.lst (a.map V.ref++[↥c])))(j:aY b a f)(h:b t=none) :
  (aL (aL b t (.tup [.int st,.int en])) q (.lst ((a.map V.ref++[V.ref c]).set ↑a (V.ref t)))) q=⇑(.lst ((a++[t]).map V.ref))/\
  aY (aL (aL b t (.tup [.int st,.int en])) q (.lst ((a.map V.ref++[V.ref c]).set ↑a (V.ref t)))) (a++[t]) (f++[(st,en)])/\aH d (aL (aL b t (.tup [.int st,.int en])) q (.lst ((a.map V.ref++[V.ref c]).set ↑a (V.ref t)))):=by
 let k:q≠t:=az g h;let e:aH b (aL b t (.tup [.int st,.int en])):=ak h _
 let l:(a.map V.ref++[V.ref c]).set ↑a (V.ref t)=(a++[t]).map V.ref:=by
  let z:=yO (a.map V.ref) (V.ref c) (V.ref t);rw[cC]at z;rw[z,gI];rfl
 rw[l];refine⟨af,?_,bN i (s.trans e) (aG q _ _)⟩;refine aY.snoc ((j.same e).keep (e _ _ g) (aG q _ _)) ?_;show aL _ q _ t=_;rw[aJ k.symm,af]
def Ob(a:UV)(b:Addr):JD ↑(a.map V.ref++[V.ref b]) (-1)=some ↑a:=by
 rw[cR,cC,gW];exact EB _
theorem Bv{f:Row->Int × Int->Row}{a:Row}{i:Nat}{p:Int × Int}(h:a[i]?=⇑p):(a.take (i+1)).foldl f []=f ((a.take i).foldl f []) p:=foldl_take_succ f a [] i p h
def EE(a:Row):∀ t:Row,↑(a.foldl dR t)<=↑t+↑a:=by
 induction a with
 | nil=>intro t;simp
 | cons p a b =>
  intro t;let c:=b (dR t p)
  let b:↑(dR t p)<=↑t+1:=by
   unfold dR;split
   ·lia
   ·exact wL _ _ _
  rw[jY,jH];lia
def EF(a:UF):∀ t:Row,↑(a.foldl (λt n=>iM t n (n+1)) t)<=↑t+↑a:=by
 induction a with
 | nil=>intro t;simp
 | cons n a b =>
  intro t;let c:=b (iM t n (n+1));let b:=wL t n (n+1);rw[jY,jH];lia
end _gu
namespace _gu
open Spec Rows _L2 _cF
class inductive Wc
 | mk (r:Addr) (a:Row) (_:vs=[↥r]) (_:bP H r a) (_:↑a<=1000000) (_: ∀ b,aH H b->Q (.int (i7 a)) b)
end _gu
namespace _fC
open Spec Rows PySem.W _L2
end _fC
namespace _fC
open Spec Rows PySem.W _L2
end _fC
namespace _fC
open Spec Rows _L2
section
variable {X:Cx}
def JU{a y:Str}{m n:Nat}(h:↑a+(n+m)<=1000000)(b:↑y<=n):↑(a++y)<=sizeLine/\↑(a++y)+m<=1000000:=by
 rw[PySem.strLen_append];refine⟨Nat.le_of_lt (Nat.lt_of_le_of_lt (show ↑a+↑y<=1000000 by lia) (by decide)),by lia⟩
def RA(r e f:R2)(g h i j:TE):TT:=fun a H Q=>g a H λx b=>h a b λy b=>r x y b λz b=>∃ k,z=.bl k/\
 (if k=true then i a b λu c=>e y u c λk c=>∃ d,k=.bl d/\(if d=true then j a c λv a=>f u v a λd k=>∃ a,d=.bl a/\Q a k else Q false c) else Q false b)
theorem Lv{c d e:CmpOp}{r i j:R2}{k f g h:Expr}{l m n o:TE}(A:tH X (compareOp c) r)(B:tH X (compareOp d) i)(C:tH X (compareOp e) j)(D:PE X k l)(G:PE X f m)(H:PE X g n)(I:PE X h o)
  (J:lastMarks [c,d,e] [f,g,h]=false:=by with_unfolding_all rfl):PT X (.Compare k [c,d,e] [f,g,h] ab) (RA r i j l m n o):=by
 intro a s b F Q L M
 refine isTrue_chain (dB (D a s b F _ L M) λF L ⟨M,N,O,R,S⟩=>test_link (dB (G a L b N _ O S) λu L ⟨y,N,O,p,S⟩ =>
  dB (A a L b N M y F u _ O R p S) λz w ⟨x,q,t,T,U,W,v⟩=>?_)) J
 subst W;cases T;refine wpAny_truthy_bool ?_
 cases U with
 | false=>exact ite_ff ⟨q,t,v⟩
 | true =>
  refine ite_tt (test_link (dB (H a w b q _ t v) λq F ⟨t,L,M,v,N⟩=>dB (B a F b L y t u q _ M p v N) λu s5 p=>?_));let⟨u,w,x,r5,k5,e5,z⟩:=p;subst e5;cases r5;refine wpAny_truthy_bool ?_
  cases k5 with
  | false=>exact ite_ff ⟨w,x,z⟩
  | true =>
   refine ite_tt (test_last (dB (I a s5 b w _ x z) λp u ⟨w,x,y,z,F⟩=>dB (C a u b x t w q p _ y v z F) λb p a=>?_));let⟨b,H7,I7,r7,p,e7,q7⟩:=a;subst e7;cases r7;exact wpAny_truthy_bool ⟨H7,I7,q7⟩
end
end _fC
namespace _gu
open _L2 _cF _fC
def aP{H b:Hp}{a:Addr}(s:aH H b)(h:b a=none):H a=none:=by
 cases q:H a with
 | none=>rfl
 | some o=>rw[s a o q]at h;cases h
def uR(i:Int):Prop:=-(10^60)<i/\i<10^60
def Oc(a b h:Int)(p:Int × Int):Row:=if max (a-h) 0<min (b-h) (p.2-p.1) then [(p.1+max (a-h) 0,p.1+min (b-h) (p.2-p.1))] else []
def kH(a b:Int):Int->Row->Row
 | _,[]=>[]
 | h,p::r=>Oc a b h p++kH a b (h+(p.2-p.1)) r
theorem EG(a b:Int)(p:Int × Int):∀ (r:Row) (c:Int),kH a b c (r++[p])=kH a b c r++Oc a b (c+i7 r) p
 | [],c=>by simp[kH,Rk]
 | q::r,c=>by
  let e:c+(q.2-q.1)+i7 r=c+i7 (q::r):=by rw[Ey];lia
  rw[List.cons_append,kH,EG a b p r,kH,e,jq]
def Wf(a b h:Int)(p:Int × Int):↑(Oc a b h p)<=1:=by
 unfold Oc
 split <;> simp
theorem jO(a b:Int):∀ (r:Row) (c:Int),↑(kH a b c r)<=↑r
 | [],_=>d7 _
 | q::r,c=>by
  let d:=jO a b r (c+(q.2-q.1));let z:=Wf a b c q;rw[kH,cR,jH];lia
def Od(b c h:Int)(p:Int × Int):∀ q∈Oc b c h p,q.1<=q.2:=by
 unfold Oc;split
 ·intro q a;simp only[List.mem_singleton]at a;subst a;simp only;lia
 ·intro q a;cases a
theorem CH(b c:Int):∀ (r:Row) (d:Int),∀ q∈kH b c d r,q.1<=q.2
 | [],_=>λq a=>by cases a
 | p::r,d=>λq a=>by
  rw[kH]at a;rcases List.mem_append.mp a with z|z
  ·exact Od b c d p q z
  ·exact CH b c r _ q z
theorem EH(s:Int):∀ (n k:Nat),(run s n).drop k=run (s+k) (n-k)
 | n,0=>by simp
 | 0,k+1=>by simp[run]
 | n+1,k+1=>by
  rw[run,List.drop_succ_cons,EH (s+1) n k];let a:s+1+(k:Int)=s+((k+1:Nat):Int):=by lia
  let b:n+1-(k+1)=n-k:=by lia
  rw[a,b]
theorem EI(s:Int):∀ (n k:Nat),(run s n).take k=run s (min k n)
 | n,0=>by simp[run]
 | 0,k+1=>by simp[run]
 | n+1,k+1=>by
  rw[run,List.take_succ_cons,EI (s+1) n k];let a:min (k+1) (n+1)=min k n+1:=by lia
  rw[a,run]
def Lw(a b h:Int)(p:Int × Int)(d:p.1<=p.2):bu (Oc a b h p)=((gv p).take (b-h).toNat).drop (a-h).toNat:=by
 let⟨s,e⟩:=p;simp only at d;unfold Oc gv;simp only;rw[EI,EH,← Int.ofNat_toNat (a-h)];generalize (a-h).toNat=n;generalize b-h=x;let f:0<=e-s:=by lia
 generalize e-s=y at f
 let g:min x.toNat y.toNat=(min x y).toNat:=by
  rcases Int.le_total x y with c|c
  ·rw[Int.min_eq_left c,Nat.min_eq_left (Int.toNat_le_toNat c)]
  ·rw[Int.min_eq_right c,Nat.min_eq_right (Int.toNat_le_toNat c)]
 rw[g];generalize min x y=m;clear g f d;by_cases c:(n:Int)<m
 ·rw[if_pos c,fF,gv];simp only;rw[Int.add_sub_add_left,Int.toNat_sub']
 ·rw[if_neg c,Nat.sub_eq_zero_of_le (Int.toNat_le.mpr (Int.not_lt.mp c))];rfl
def yR(b h:Int)(L:Nat):(b-(h+L)).toNat=(b-h).toNat-L:=by rw[← Int.sub_sub,Int.toNat_sub']
theorem qG(a b:Int):∀ (r:Row) (h:Int),(∀ p∈r,p.1<=p.2)->bu (kH a b h r)=((bu r).take (b-h).toNat).drop (a-h).toNat
 | [],h,_=>by simp[kH,bu]
 | p::r,h,ok=>by
  let c:=ok p (nP ..);let d:=qG a b r (h+(p.2-p.1)) λq e=>ok q (jT _ e);have f:bu (p::r)=gv p++bu r:=rfl;have e:=wM p c;rw[kH,cM,Lw a b h p c,d,f,List.take_append,List.drop_append,gO];congr 1;rw[← e,yR,yR];by_cases c:↑(gv p)<=(b-h).toNat
  ·rw[Nat.min_eq_right c]
  ·rw[Nat.sub_eq_zero_of_le (Nat.le_of_not_le c)];simp
def RB(a b t:Int):Prop:=0<=a/\a<=b/\b<=t
class inductive EJ
 | mk (r:Addr) (c:Row) (a b:Int) (_:vs=[↥r,.int a,.int b]) (_:bP H r c) (_:↑c<=1000000) (_ :
 ∀ (q:Addr) (d:Hp),bP d q (kH a b 0 c)->aH H d->H q=none->Q ↥q d)
end _gu
namespace _gu
open _L2 _cF _fC
end _gu
namespace _gu
open _L2 _cF _fC
def j6(r:Row)(a:∀ p∈r,p.1<=p.2):bu (cE r)=bu r:=by rw[nC r a,eT]
def nU(b c:Int)(a:Row)(d:∀ p∈a,p.1<=p.2):bu (cE (kH b c 0 a))=((bu a).take c.toNat).drop b.toNat:=by
 rw[j6 _ (CH b c a 0),qG b c a 0 d,Int.sub_zero,Int.sub_zero]
theorem JV(s:Int):∀ (n k:Nat),k<n->(run s n)[k]?=⇑(s+k)
 | 0,k,h=>by lia
 | n+1,0,_=>by simp[run]
 | n+1,k+1,h=>by
  rw[run,List.getElem?_cons_succ,JV (s+1) n k ∅];congr 1;lia
def iO(r:Row):↑(cE r)<=↑r:=by
 let z:=EE r [];simpa [cE] using z
end _gu
namespace _gu
open Spec Rows _L2 _cF _fC
def aY.append{H:Hp}{a b:UV}{r q:Row}(h:aY H a r)(t:aY H b q):aY H (a++b) (r++q):=by
 induction h with
 | nil=>exact t
 | cons e _ c=>exact .cons e c
theorem Wg{r q:Row}(h:∀ p∈r,p.1<=p.2)(g:∀ p∈q,p.1<=p.2):∀ p∈r++q,p.1<=p.2:=λp a=>(List.mem_append.mp a).elim (h p) (g p)
end _gu
namespace _L2
open Spec Rows
section
variable {c:Type} [DecidableEq c]
def cG(a:List (c × V))(k:c):Option V:=(a.find? λb=>decide (b.1=k)).map (·.2)
def dP(b:List (c × V))(k:c)(v:V):List (c × V) :=
 if (b.any λa=>decide (a.1=k))=true then b.map (λa=>if a.1=k then (a.1,v) else a) else b++[(k,v)]
def ir{p:c × V}{r:List (c × V)}{k:c}(e:p.1=k):cG (p::r) k=⇑p.2:=by simp[cG,List.find?_cons,e]
def iu{p:c × V}{r:List (c × V)}{k:c}(e:¬ p.1=k):cG (p::r) k=cG r k:=by simp[cG,List.find?_cons,e]
theorem mh(k:c):∀ a:List (c × V),(a.any λb=>decide (b.1=k))=(cG a k).isSome
 | []=>rfl
 | p::r=>by
  rw[List.any_cons];by_cases e:p.1=k
  ·simp only[ir e,decide_eq_true e,Bool.true_or,Option.isSome_some]
  ·rw[iu e,decide_eq_false e,Bool.false_or];exact mh k r
theorem EK(k j:c)(y:V):∀ b:List (c × V),cG (b.map λa=>if a.1=k then (a.1,y) else a) j=(cG b j).map λx=>if j=k then y else x
 | []=>rfl
 | p::r=>by
  let d:=EK k j y r;rw[jo];by_cases h:p.1=k
  ·rw[if_pos h];by_cases e:p.1=j
   ·rw[ir (p:=(p.1,y)) e,ir e,Option.map_some,if_pos (e.symm.trans h)]
   ·rw[iu (p:=(p.1,y)) e,iu e,d]
  ·rw[if_neg h];by_cases e:p.1=j
   ·rw[ir (p:=p) e,ir e,Option.map_some,if_neg (λz=>h (e.trans z))]
   ·rw[iu (p:=p) e,iu e,d]
theorem Bw(k j:c)(y:V):∀ b:List (c × V),cG b k=none->cG (b++[(k,y)]) j=if j=k then some y else cG b j
 | [],_=>by
  by_cases e:k=j
  ·rw[if_pos e.symm];exact ir (p:=(k,y)) e
  ·rw[if_neg (λz=>e z.symm)];exact iu (p:=(k,y)) e
 | p::r,a=>by
  rw[List.cons_append];let d:¬ p.1=k:=λz=>by rw[ir z]at a;cases a
  rw[iu d]at a;let f:=Bw k j y r a;by_cases e:p.1=j
  ·rw[ir e,ir e,if_neg (λz=>d (e.trans z))]
  ·rw[iu e,iu e,f]
def j7(b:List (c × V))(k j:c)(y:V):cG (dP b k y) j=if j=k then some y else cG b j:=by
 unfold dP;by_cases a:(b.any λd=>decide (d.1=k))=true
 ·rw[if_pos a,EK];rw[mh]at a;by_cases e:j=k
  ·let⟨x,d⟩:=Option.isSome_iff_exists.mp a;rw[if_pos e,e,d,Option.map_some,if_pos rfl]
  ·rw[if_neg e]
   cases cG b j with
   | none=>rfl
   | some x=>rw[Option.map_some,if_neg e]
 ·rw[if_neg a];refine Bw k j y b ?_;rw[mh]at a
  cases q:cG b k with
  | none=>rfl
  | some x=>rw[q]at a;exact (a rfl).elim
def iy(a:List (c × V))(k:c)(v:V):↑(dP a k v)<=↑a+1:=by
 unfold dP;split
 ·rw[cC];lia
 ·rw[cR,jH,oV];lia
def yS{a:List (c × V)}{k:c}(v:V)(h:cG a k=none):dP a k v=a++[(k,v)]:=by
 unfold dP;rw[mh,h];exact if_neg (by decide)
def oW.vf{o:Option V}{u:WP}(r:oW o u):o.isSome=u.isSome:=by
 cases o with
 | none=>cases u with
  | none=>rfl
  | some _=>exact (show False from r).elim
 | some _=>cases u with
  | none=>exact (show False from r).elim
  | some _=>rfl
def oW.getD{o:Option V}{u:WP}{d:V}{a:Value}(r:oW o u)(b:RelV d a):RelV (o.getD d) (u.getD a):=by
 cases o with
 | none=>cases u with
  | none=>exact b
  | some _=>exact (show False from r).elim
 | some _=>cases u with
  | none=>exact (show False from r).elim
  | some _=>exact r
def KV.val{f:List (c × V)}{g:List (c × Value)}(r:KV f g)(k:c):oW (cG f k) (valueAt g k):=by
 unfold KV at r
 induction r with
 | nil=>exact True.intro
 | @cons p q b a h t j =>
  let⟨i,l⟩:=h;by_cases e:p.1=k
  ·let b:q.1=k:=i.symm.trans e;let d:valueAt (q::a) k=⇑q.2:=by simp[valueAt,List.find?_cons,b]
   rw[ir e,d];exact l
  ·let b:¬ q.1=k:=λz=>e (i.trans z);have d:valueAt (q::a) k=valueAt a k:=by simp[valueAt,List.find?_cons,b]
   rw[iu e,d];exact j
def KV.any{b:List (c × V)}{d:List (c × Value)}(r:KV b d)(k:c):(b.any λa=>decide (a.1=k))=d.any λa=>decide (a.1=k):=by
 unfold KV at r
 induction r with
 | nil=>rfl
 | cons h t e=>rw[List.any_cons,List.any_cons,e,h.1]
theorem KV.repl{d:List (c × V)}{f:List (c × Value)}(r:KV d f)(k:c){y:V}{u:Value}(g:RelV y u) :
  KV (d.map λa=>if a.1=k then (a.1,y) else a) (f.map λa=>if a.1=k then (a.1,u) else a):=by
 unfold KV at r ⊢
 induction r with
 | nil=>exact .nil
 | @cons p q e i h t b =>
  rw[jo,jo];refine .cons ?_ b;let⟨b,i⟩:=h;by_cases e:p.1=k
  ·rw[if_pos e,if_pos (b.symm.trans e)];exact⟨b,g⟩
  ·rw[if_neg e,if_neg (λz=>e (b.trans z))];exact⟨b,i⟩
def KV.put{b:List (c × V)}{a:List (c × Value)}(r:KV b a)(k:c){y:V}{u:Value}(d:RelV y u):KV (dP b k y) (stored a k u):=by
 unfold dP stored;rw[r.any k];by_cases e:(a.any λf=>decide (f.1=k))=true
 ·rw[if_pos e,if_pos e];exact r.repl k d
 ·rw[if_neg e,if_neg e];exact Paired.snoc r ⟨1,d⟩
theorem KV.length{a:List (c × V)}{b:List (c × Value)}(r:KV a b):↑a=↑b:=Paired.length r
end
def yT{P:Program}{w:World}{k:d9}{u:Value}(r:RelV (kV k) u):(ff P w).is k u=true:=by
 cases k with
 | inl i=>let⟨t,e⟩:=(show ∃ t,u=Value.int i t from r);subst e;exact D3 P w i t
 | inr x=>let⟨t,e⟩:=(show ∃ t,u=Value.str x t from r);subst e;exact D4 P w x t
theorem Bx{P:Program}{w:World}:∀ {a:List d9} {b:Wp},cD (a.map kV) b->ItemsAre (ff P w) a b
 | [],_,r=>by rw[List.map_nil]at r;cases r;exact .nil
 | k::a,_,r=>by
  rw[jo]at r
  cases r with
  | cons h t=>exact .cons (yT h) (Bx t)
abbrev KT(H:Hp):List (List d9 × V)->List (List d9 × Addr × Value)->Prop:=Paired λp q=>p.1=q.1/\H q.2.1=⇑(.tup (p.1.map kV))/\RelV p.2 q.2.2
def KT.val{H:Hp}{d:List (List d9 × V)}{f:List (List d9 × Addr × Value)}(r:KT H d f)(k:List d9):oW (cG d k) ((atKey f k).map (·.2)):=by
 induction r with
 | nil=>exact True.intro
 | @cons p q b a h t i =>
  let⟨g,_,j⟩:=h;by_cases e:p.1=k
  ·let b:q.1=k:=g.symm.trans e;let c:atKey (q::a) k=⇑q.2:=by simp[atKey,List.find?_cons,b]
   rw[ir e,c];exact j
  ·let b:¬ q.1=k:=λz=>e (g.trans z);have c:atKey (q::a) k=atKey a k:=by simp[atKey,List.find?_cons,b]
   rw[iu e,c];exact i
theorem KT.repl{H:Hp}{c:List (List d9 × V)}{d:List (List d9 × Addr × Value)}(r:KT H c d)(k:List d9){y:V}{u:Value}(g:RelV y u) :
  KT H (c.map λb=>if b.1=k then (b.1,y) else b) (d.map (putAt k u)):=by
 induction r with
 | nil=>exact .nil
 | @cons p q e f h t a =>
  rw[jo,jo];refine .cons ?_ a;let⟨a,f,i⟩:=h;unfold putAt;by_cases e:p.1=k
  ·rw[if_pos e,if_pos (a.symm.trans e)];exact⟨a,f,g⟩
  ·rw[if_neg e,if_neg (λz=>e (a.trans z))];exact⟨a,f,i⟩
theorem KT.put{H:Hp}{b:List (List d9 × V)}{a:List (List d9 × Addr × Value)}(r:KT H b a)(k:List d9){c:Addr}{y:V}{u:Value}(e:H c=⇑(.tup (k.map kV)))(d:RelV y u) :
  KT H (dP b k y) (storedH a k c u):=by
 let f:(b.any λg=>decide (g.1=k))=(atKey a k).isSome:=by
  rw[mh,(r.val k).vf,Option.isSome_map]
 unfold dP storedH;rw[f];by_cases q:(atKey a k).isSome=true
 ·rw[if_pos q,if_pos q];exact r.repl k d
 ·rw[if_neg q,if_neg q];exact Paired.snoc r ⟨1,e,d⟩
theorem KT.keeps{H a:Hp}{b:List (List d9 × V)}{c:List (List d9 × Addr × Value)}(r:KT H b c)(f:∀ d e,H d=⇑(.tup e)->a d=⇑(.tup e)):KT a b c :=
 Paired.Co r λ_ _ z=>⟨z.1,f _ _ z.2.1,z.2.2⟩
section
variable {P:Program} {w:World} {H:Hp} {h:Heap} {a:Addr}
theorem Um{u:HO}(b:tG P w H h)(e:Rd H a u):fR P w H h a u:=e.ok b
theorem By{b:List (d9 × V)}(d:tG P w H h)(e:Rd H a (.dK b)):↑b<=sizeLine/\(a == sysModules)=false/\∃ c,KV b c/\h.DictOf (ff P w) a c :=
 show fR P w H h a (.dK b) from Um d e
theorem EL{b:List (d9 × V)}(d:tG P w H h)(e:H a=⇑(.dK b)):↑b<=sizeLine/\(a == sysModules)=false/\∃ c,KV b c/\h.DictOf (ff P w) a c:=By d (.inl e)
def yU{b:List d9}(c:tG P w H h)(e:H a=⇑(.tup (b.map kV))):(tupleKind (ff P w)).is h b a:=by
 let⟨_,d,r,o,f,g,n,i⟩:=(show fR P w H h a (.tup (b.map kV)) from c a _ e);exact⟨o,d.toArray,n,f,g,i,by simpa using Bx r⟩
theorem BA{c:List (List d9 × V)}(f:tG P w H h)(e:Rd H a (.dT c)):↑c<=sizeLine/\(a == sysModules)=false/\
  ∃ d,KT H c d/\h.DictOfH (tupleKind (ff P w)) a d:=by
 let⟨z,y,d,r,o,i,j,k,l,m,n,p⟩:=(show fR P w H h a (.dT c) from Um f e);refine⟨z,y,d,r,o,i,j,k,l,m,n,λx b=>?_,p⟩
 let s:∀ {l:List (List d9 × V)} {m:List (List d9 × Addr × Value)},KT H l m->∀ x∈m,(tupleKind (ff P w)).is h x.1 x.2.1:=by
  intro l m q
  induction q with
  | nil=>intro x b;exact nomatch b
  | @cons p q i j g k t =>
   intro x b;rcases List.mem_cons.mp b with e|b
   ·subst e;exact yU f (by rw[← g.1];exact g.2.1)
   ·exact t x b
 exact s r x b
theorem Zx{b:List (List d9 × V)}(d:tG P w H h)(e:H a=⇑(.dT b)):↑b<=sizeLine/\(a == sysModules)=false/\
  ∃ c,KT H b c/\h.DictOfH (tupleKind (ff P w)) a c:=BA d (.inl e)
end
def gX(H:Hp)(b:Addr)(y:V)(r:Option V):Prop :=
 (∃ a k,Rd H b (.dK a)/\y=kV k/\r=cG a k)\/∃ a k c,Rd H b (.dT a)/\y=↥c/\H c=⇑(.tup (k.map kV))/\r=cG a k
def yV(H:Hp)(b:Addr)(y v:V)(c:Hp):Prop :=
 (∃ a k,H b=⇑(.dK a)/\y=kV k/\↑a<sizeLine/\c=aL H b (.dK (dP a k v)))\/
 ∃ a k d,H b=⇑(.dT a)/\y=↥d/\H d=⇑(.tup (k.map kV))/\↑a<sizeLine/\c=aL H b (.dT (dP a k v))
theorem gX.k{H:Hp}{b:Addr}{a:List (d9 × V)}{k:d9}(e:H b=⇑(.dK a)):gX H b (kV k) (cG a k):=.inl ⟨a,k,.inl e,V⟩
theorem yV.k{H:Hp}{b:Addr}{a:List (d9 × V)}{k:d9}{v:V}(e:H b=⇑(.dK a))(c:↑a<sizeLine):yV H b (kV k) v (aL H b (.dK (dP a k v))):=.inl ⟨a,k,e,1,c,1⟩
section
variable {X:Cx} {ao:List (Addr × Obj)} {σ:St} {H:Hp} {s:Shared} {a:Addr} {y v:V} {u r:Value} {o:Option V} {A:Around} {E:ZB}
def Inv.big(I:Inv X ao σ H s):sysModules<s⁻¹:=by
 let h:mainGlobals<s⁻¹:=(I.mod.glob.keeps I.bk).lt;exact Nat.lt_trans (by decide) h
theorem Lx{Q:ZB}(n:A.units+1<cLine)(I:Inv X ao σ H s)(p:gX H a y (⇑v))(i:RelV y u)(j:∀ b m,Inv X ao σ H m->RelV v b->Q b m) :
  wpAny (model X.prog X.w) A (getItem ↥a u) Q E s:=by
 rcases p with ⟨o,k,e,c,l⟩|⟨o,k,q,e,c,r,l⟩
 ·subst c;let⟨z,t,o,d,f⟩:=By I.hok e;let⟨b,g,h⟩:=oW.some_of (v:=v) (o:=valueAt o k) (by rw[l];exact d.val k);exact wpAny_getItem_of (yT i) f.mapOf g (j b _ (I.tok _) h)
 ·subst c;cases (show u=Value.ref q from i);let⟨z,t,c,d,f⟩:=BA I.hok e;let⟨b,g,h⟩:=oW.some_of (v:=v) (o:=(atKey c k).map (·.2)) (by rw[l];exact d.val k);let⟨e,c,d⟩:=Option.map_eq_some_iff.mp g;refine wpAny_getItem_heap (tupleKind_room_in1 n) (yU I.hok r) f c ?_;rw[d];exact j b _ (I.tok _) h
theorem RC{Q:ZB}(j:A.units+1<cLine)(I:Inv X ao σ H s)(m:gX H a y o)(g:RelV y u)(h:∀ i,Inv X ao σ H i->Q (.bool (!o.isSome)) i) :
  wpAny (model X.prog X.w) A (compareOp .NotIn u ↥a) Q E s:=by
 rcases m with ⟨n,k,e,b,l⟩|⟨n,k,p,e,b,q,l⟩
 ·subst b;let⟨z,c,n,d,f⟩:=By I.hok e;refine wpAny_notIn_of (yT g) c f.mapOf ?_;rw[← (d.val k).vf,← l];exact h _ (I.tok _)
 ·subst b;cases (show u=Value.ref p from g);let⟨z,c,b,d,f⟩:=BA I.hok e;refine wpAny_notIn_heap (tupleKind_room_in1 j) (yU I.hok q) c f ?_;let q:=(d.val k).vf;rw[Option.isSome_map]at q;rw[← q,← l];exact h _ (I.tok _)
theorem xN{b:Heap}{d:Nat}{c:HO}(I:Inv X ao σ H s)(e:Yu (H a))(f:Heap.SameBut a s.heap b)(g:∃ q,b.get? a=⇑q)(h:fR X.prog X.w (aL H a c) b a c) :
  Inv X ao σ (aL H a c) { s with heap:=b,toks:=d } :=
 I.write (x:=a) (e:=a) e (.inl rfl) (λi q j z=>(f.2 i j).trans z) g h
theorem Hx{P:Program}{w:World}{e:Hp}{d:Heap}{b:List (d9 × V)}{c:List (d9 × Value)}(z:↑b<=sizeLine)(f:(a == sysModules)=false)(g:KV b c)(h:d.DictOf (ff P w) a c) :
  fR P w e d a (.dK b):=⟨z,f,c,g,h⟩
theorem Ly{p:Hp}{Q:Unit->Shared->Prop}(D:A.units+1<cLine)(I:Inv X ao σ H s)(G:yV H a y v p)(t:RelV y u)(w:RelV v r)(x:∀ B,Inv X ao σ p B->Q () B) :
  wpAny (model X.prog X.w) A (setItem ↥a u r) Q E s:=by
 rcases G with ⟨b,k,e,g,F,h⟩|⟨b,k,J,e,g,o,F,h⟩
 ·subst g h;let⟨z,i,F,c,j⟩:=EL I.hok e;let l:↑F<=sizeLine:=by rw[← ↑c];exact z
  let m:↑(dP b k v)<=sizeLine:=by have:=iy b k v;lia
  refine wpAny_setItem_pairs (hsz:=l) (yT t) j λC d n=>x _ ?_;have F:∃ q,C.get? a=⇑q:=let ⟨q,E,f,_⟩:=d;⟨q,f⟩;exact xN I (by rw[e];exact True.intro) n F (Hx m i (c.put k w) d)
 ·subst g h;cases (show u=Value.ref J from t);let⟨z,i,g,c,j⟩:=Zx I.hok e;let l:↑g<=sizeLine:=by rw[← Paired.length c];exact z
  let m:↑(dP b k v)<=sizeLine:=by have:=iy b k v;lia
  refine wpAny_setItem_heap (hsz:=l) (tupleKind_room_in1 D) (yU I.hok o) j λC d n=>x _ ?_;let⟨q,g,h,f,j,l,C,_,F⟩:=d;refine xN I (by rw[e];exact True.intro) n ⟨q,f⟩ ⟨m,i,_,(c.put k o w).keeps λc d b=>?_,q,g,h,f,j,l,C,F⟩;rw[aJ (cP b e (λz=>nomatch z))];exact b
end
def Wh(i:Expr):Prop:=∀ a b,subscripted i false a b=operate [a,b] (getItem a b)
theorem RD{a:Program}{w:World}{A:Around}{E:ZB}{s:Shared}{c:Env}{T k:String}{Q:ZB}
  (l:typeLookup (.type T) "__getitem__"=pure (⇑(.builtin k))) (m:Wh d)
  (n:wpAny (model a w) A (eval g c) (λo h=>wpAny (model a w) A (eval d c) (λi b=>b.TypeIs o T/\wpAny (model a w) A (getItem o i) Q E b) E h) E s) :
  wpAny (model a w) A (eval (.Subscript g d p) c) Q E s:=by
 refine Subscript_ (wpAny_mono n (λo h e=>wpAny_mono e (λi b e=>?_) λ_ _ x=>x) λ_ _ x=>x);let⟨f,e⟩:=e;unfold subscriptTail;refine wpAny_bind ?_;rw[getitemInPython_of_ne f.not_modules];refine wpAny_bind (wpAny_specialOf f l ?_)
 let f:wpAny (model a w) A (subscripted d false o i) (λr j=>wpAny (model a w) A (letTemporaryGo g o r >>= λ_=>pure r) Q E j) E b:=by
  rw[m o i];exact wpAny_operating (wpAny_mono e (λr j e=>wpAny_bind (wpAny_letTemporaryGo (wpAny_pure e))) λ_ _ x=>x)
 first
  | exact wpAny_pure (wpAny_bind f)
  | exact wpAny_bind (wpAny_pure (wpAny_bind f))
  | exact wpAny_bind f
def EM{c:Cx}{d:St}{H:Hp}{s:Shared}{b:Addr}{y:V}{o:Option V}(I:Inv c f d H s)(g:gX H b y o):s.TypeIs ↥b "4":=by
 rcases g with ⟨a,k,e,_,_⟩|⟨a,k,h,e,_,_,_⟩
 ·let⟨_,_,h,_,a⟩:=By I.hok e;exact a.typeIs
 ·let⟨_,_,h,_,a⟩:=BA I.hok e;exact a.typeIs
inductive Zy(x y:V)(H:Hp)(Q:VK):Prop
 | mk (a:Addr) (v:V) (_:x=↥a) (_:gX H a y (⇑v)) (_:Q v H):Zy x y H Q
def Uq(b c:TE):TE:=fun a H Q=>b a H λx d=>c a d λy a=>Zy x y a Q
def RE(c d:TE):TE:=fun a H Q=>c a H λy b=>d a b λx a=>∃ b o,x=↥b/\gX a b y o/\Q (.bl (!o.isSome)) a
def Zz(d e f:TE):TS:=λD a H=>f a H λv b=>d a b λx b=>e a b λy g=>∃ b c,x=↥b/\yV g b y v c/\D.nx a c
section
variable {X:Cx} {o i e value:Expr} {pos iV KW:Pos} {td ty tv:TE}
def RG(d:X.A.units+1<cLine)(f:PE X o td)(h:PE X i ty)(j:Wh i):PE X (.Subscript o i pos) (Uq td ty):=by
 intro a s b H Q I e;refine RD PySem.F.slot_dict_getitem.lookup j (dB (f a s b H _ I e) λu e ⟨x,k,l,m,n⟩=>dB (h a e b k _ l n) λb e a=>?_);let⟨y,p,c,q,r,v,t,g,w⟩:=a;subst t;obtain rfl:u=Value.ref r:=m;exact⟨EM c g,Lx d c g q λc e a b=>⟨v,p,a,b,w⟩⟩
def BB(c:X.A.units+1<cLine)(d:PE X i ty)(f:PE X o td):PC X .NotIn i o (RE ty td):=by
 intro a s b H Q I h;refine dB (d a s b H _ I h) λw e ⟨y,g,h,j,k⟩=>dB (f a e b g _ h k) λu b a=>?_;let⟨x,l,m,n,p,q,r,t,v⟩:=a;subst r;obtain rfl:u=Value.ref p:=n;exact RC c m t j λb a=>⟨.bl (!q.isSome),l,a,1,v⟩
theorem qI(c:X.A.units+1<cLine)(d:PE X o td)(f:PE X i ty)(g:PE X value tv)(h:swapsWith value (⇑(.Subscript o i iV)) pos.line X.env=pure false) :
  PS X (.Assign [.Subscript o i iV] value pos) (Zz td ty tv):=by
 intro b s a H D I e;refine wpAny_Assign_Subscript (dB (g b s a H _ I e) λy e ⟨z,j,k,l,m⟩=>dB (d b e a j _ k m) λu e ⟨y,j,k,n,m⟩=>dB (f b e a j _ k m) λb e ⟨y,j,p,q,r,t,v,w,x⟩=>?_) h;subst v;obtain rfl:u=Value.ref r:=n;exact Ly c p w q l λe b=>⟨a,t,b,x⟩
end
theorem EN{P:Program}{w:World}{H:Hp}(h:Heap)(a:sysModules<h.objs.size):fR P w H (h.push { cls:=.type "4",data:=.dict #[] }) h.objs.size (.dK []) :=
 ⟨Nat.zero_le _,beq_eq_false_iff_ne.mpr (Ne.symm (jc a)),[],.nil,Heap.DictOf.new h⟩
def Wj:TE:=λ_ H Q=>∀ p,H p=none->Q ↥p (aL H p (.dK []))
section
variable {X:Cx} {pos:Pos}
theorem j8:PE X (.Dict [] [] pos) Wj:=λa s b H Q I h =>
 wpAny_Dict_empty ⟨↥s⁻¹,_,I.laid (a:=s⁻¹) (o:=.dK []) (t':=s.toks) (λ_ _ q=>Heap.get?_push_of_some _ q) (d7 _) (EN s.heap I.big),1,h _ (I.hok.fresh (d7 _))⟩
end
def Hy:List (TE × TE)->St->Hp->(List (V × V)->Hp->Prop)->Prop
 | [],_,H,Q=>Q [] H
 | (b,c)::r,a,H,Q=>b a H λx b=>c a b λy b=>Hy r a b λa b=>Q ((x,y)::a) b
abbrev VV:List (V × V)->List (Value × Value)->Prop:=Paired λp q=>RelV p.1 q.1/\RelV p.2 q.2
def er(a:Cx)(f:Pos)(g:List (Option Expr))(h:List Expr)(i:List (TE × TE)):Prop :=
 ∀ (c:List (Addr × Obj)) (s:Shared) (b:St) (H:Hp) (Q:List (V × V)->Hp->Prop),Inv a c b H s->Hy i b H Q->
  wpAny (model a.prog a.w) a.A (evalPairs (pairTrees g h a.env f)) (λj k=>∃ d e,Inv a c b e k/\VV d j/\Q d e) a.xe s
theorem RJ{a:Cx}:er a b [] [] []:=λc s d H Q I h=>pairTrees_nil_walk ⟨[],H,I,.nil,h⟩
theorem ud{a:Cx}{k v:Expr}{d:List (Option Expr)}{e f:TE}{g:List (TE × TE)}(h:PE a k e)(i:PE a v f)(j:er a l d m g) :
  er a l (⇑k::d) (v::m) ((e,f)::g):=λb s c H Q I n =>
 pairTrees_cons_walk (dB (h b s c H _ I n) λu n ⟨x,o,p,q,r⟩=>dB (i b n c o _ p r) λu n ⟨y,o,p,r,t⟩ =>
  dB (j b n c o _ p t) λt u ⟨b,c,n,o,p⟩=>⟨(x,y)::b,c,n,.cons ⟨q,r⟩ o,p⟩)
def vg(b c:List (d9 × V)):List (d9 × V):=c.foldl (λd a=>dP d a.1 a.2) b
def KV.merge:∀ {c:List (d9 × V)} {d:List (d9 × Value)} {a:List (d9 × V)} {b:List (d9 × Value)},KV c d->KV a b->KV (vg a c) (merged b d):=by
 intro c d a b r;unfold KV at r
 induction r generalizing a b with
 | nil=>intro q;exact q
 | @cons p q f g h t e =>
  intro f
  let g:KV (dP a p.1 p.2) (stored b q.1 q.2):=by
   have:=f.put p.1 h.2;rw[← h.1];exact this
  exact e g
theorem rO:∀ (b a:List (d9 × V)),↑(vg a b)<=↑a+↑b
 | [],a=>by show ↑a<=↑a+0;lia
 | p::r,a=>by
  let c:=rO r (dP a p.1 p.2);let c:=iy a p.1 p.2;show ↑(vg (dP a p.1 p.2) r)<=_;rw[jH];lia
theorem yX{P:Program}{w:World}:∀ {d:List (d9 × V)} {e:List (Value × Value)},VV (d.map λf=>(kV f.1,f.2)) e->∃ c,Carries (ff P w) e c/\KV d c
 | [],_,r=>by rw[List.map_nil]at r;cases r;exact⟨[],True.intro,.nil⟩
 | p::d,_,r=>by
  rw[jo]at r
  cases r with
  | @cons a b g bs h t =>
   let⟨c,g,q⟩:=yX (P:=P) (w:=w) t;let⟨j,i⟩:=b;exact⟨(p.1,i)::c,⟨yT h.1,1,g⟩,.cons ⟨1,h.2⟩ q⟩
def Oe(d:List (TE × TE)):TE:=fun a H Q=>∀ p,H p=none->Hy d a (aL H p (.dK [])) λc b=>b p=⇑(.dK [])/\∃ a:List (d9 × V),c=a.map (λc=>(kV c.1,c.2))/\↑a<=15/\Q ↥p (aL b p (.dK (vg [] a)))
theorem RK{a:Cx}{b:List (Option Expr)}{c:List Expr}{d:List (TE × TE)}(i:er a j b c d)(k:b.all (·.isSome)=true)(l:↑b=↑c)(m:b≠[])
  (n:↑b<=15):PE a (.Dict b c j) (Oe d):=by
 intro h s o H Q I q;let p:=I.hok.fresh (d7 s⁻¹);let r:=I.laid (a:=s⁻¹) (o:=.dK []) (h':=s.heap.push { cls:=.type "4",data:=.dict #[] }) (t':=s.toks) (λ_ _ q=>Heap.get?_push_of_some _ q) (d7 _) (EN s.heap I.big);refine wpAny_Dict_walk (knd:=ff a.prog a.w) k l m n (dB (i h _ o _ _ r (q _ p)) λo p h=>?_);let⟨o,p,e,t,f,g,u,lk,v⟩:=h;subst u;let⟨w,x,rk⟩:=yX (P:=a.prog) (w:=a.w) t;let⟨h,y,o,z,A⟩:=EL e.hok f;cases z;refine⟨w,x,A,λo h p=>⟨↥s⁻¹,_,?_,1,v⟩⟩
 let r:↑(vg [] g)<=sizeLine:=by
  let t:=rO g [];rw[oV]at t;rw[sizeLine_eq];lia
 let g:∃ q,o.get? s⁻¹=⇑q:=let ⟨q,E,o,_⟩:=h;⟨q,o⟩;exact xN e (by rw[f];exact True.intro) p g (Hx r y (rk.merge .nil) h)
structure M2(X:Cx)(o:Expr)(m:Str)(jK:Pos)(e f:Expr)(nA:Pos):Prop where
 zt:attributeBase o m X.env (eval o X.env)=eval o X.env
 few:((backTo nA (starEach [e,f] X.env)).all (λx=>!x.1)&&(backToKw nA (keywordEach [] X.env)).all (λx=>x.1.isSome)
  && decide (↑([e,f]:List Expr)+↑([]:List Keyword)+(if ([]:List Keyword).isEmpty then 0 else 1)<30))=true
 line:(jK.endLine == nA.line)=true
 trees:backTo nA (starEach [e,f] X.env)=[(false,eval e X.env),(false,eval f X.env)]
def e9(H:Hp)(b:Addr):Prop:=(∃ a,Rd H b (.dK a))\/∃ a,Rd H b (.dT a)
theorem Of{i:Cx}{j:St}{H:Hp}{s:Shared}{c:Addr}(I:Inv i m j H s)(k:e9 H c) :
  s.TypeIs ↥c "4"/\(∀ d,Value.ref c=↥d->∃ a,s.heap.get? d=⇑a/\a.dict=none)/\(c == sysModules)=false:=by
 rcases k with ⟨l,e⟩|⟨l,e⟩
 ·let⟨_,f,l,_,b⟩:=By I.hok e;refine⟨b.typeIs,λd q=>?_,f⟩;cases q;let⟨a,_,_,g,h,_⟩:=b;exact⟨a,g,h.2.1⟩
 ·let⟨_,f,l,_,b⟩:=BA I.hok e;refine⟨b.typeIs,λd q=>?_,f⟩;cases q;let⟨a,_,_,g,h,_⟩:=b;exact⟨a,g,h.2.1⟩
section
variable {X:Cx} {ao:List (Addr × Obj)} {σ:St} {H:Hp} {s:Shared} {a:Addr} {y d:V} {u r:Value} {o:Option V} {A:Around} {E:ZB}
theorem Wk{Q:ZB}(q:A.units+1<cLine)(I:Inv X ao σ H s)(t:gX H a y o)(h:RelV y u)(i:RelV d r)(j:∀ m n,Inv X ao σ H n->RelV (o.getD d) m->Q m n) :
  wpAny (model X.prog X.w) A (call (.builtin "dict.get") [↥a,u,r]) Q E s:=by
 rcases t with ⟨v,k,e,c,l⟩|⟨v,k,p,e,c,w,l⟩
 ·subst c;let⟨z,f,v,g,b⟩:=By I.hok e;refine call_meetsIn PySem.F.slot_dict_get b.typeIs PySem.F.entry_dict_get (PySem.F.args_dict_get_3 _ _ _) (meets_dict_get_default (ff X.prog X.w) a (yT h) f r) ⟨_,b.mapOf,j _ _ (I.tok _) ?_⟩;rw[l];exact (g.val k).getD i
 ·subst c;cases (show u=Value.ref p from h);let⟨z,f,c,g,b⟩:=BA I.hok e;refine call_meetsIn PySem.F.slot_dict_get b.typeIs PySem.F.entry_dict_get (PySem.F.args_dict_get_3 _ _ _) (meetsH_dict_get_default (tupleKind (ff X.prog X.w)) a p f r) ⟨tupleKind_room_in1 q,k,c,yU I.hok w,b,j _ _ (I.tok _) ?_⟩;rw[l];exact (g.val k).getD i
end
def Wl(d e f:TE):TE:=fun a H Q=>d a H λx c=>∃ b,x=↥b/\e9 c b/\e a c λy c=>f a c λz a=>∃ o,gX a b y o/\Q (o.getD z) a
section
variable {X:Cx} {o e f:Expr} {jK nA:Pos} {td ty tx:TE}
def EO(d:X.A.units+1<cLine)(g:PE X o td)(h:PE X e ty)(i:PE X f tx)(m:M2 X o "get" jK e f nA):PE X (.Call (.Attribute o "get" jK) [e,f] [] nA) (Wl td ty tx):=by
 intro a s b H Q I j;refine wpAny_Call_method m.zt m.few m.line PySem.F.plainAttrs_dict PySem.F.slot_dict_get PySem.F.type_dict_get (dB (g a s b H _ I j) λu k j=>?_);let⟨x,l,c,n,p,q,r,t⟩:=j;subst q;obtain rfl:u=Value.ref p:=n;let⟨j,n,_⟩:=Of c r;exists j,n;rw[m.trees]
 refine Calls.callWith_builtin rfl (Calls.evalArgs_plain (Calls.spliced_cons (dB (h a k b l _ c t) λp c ⟨y,j,k,l,n⟩ =>
  Calls.spliced_cons (dB (i a c b j _ k n) λn p ⟨z,a,b,c,q,j,k⟩=>Calls.spliced_nil ?_))))
 exact Wk d b j l c λj l b c=>⟨_,a,b,c,k⟩
end
end _L2
namespace _cF
open Spec Rows _L2
def jv(a:Cx)(N:Uf)(b:Scope)(c:List (Str × Addr))(C:Addr)(s₀:Shared)(H₀:Hp)(ex:UV)(pn:List (Addr × Obj)):Cx where
 prog:=a.prog
 w:=a.w
 K:=a.K
 mg:=a.mg
 zt:=a.zt
 A:=a.A
 N:=N
 s₀:=s₀
 H₀:=H₀
 env:=compEnvC b c C a.env
 zn:=a.stack
 stack:=a.stack
 ex:=ex
 fn:=λ_=>false
 calm:=a.calm
 pn:=pn
 xe:=λ_ _=>False
structure BC(X:Cx)(N:Uf)(scope:Scope)(cl:List (Str × Addr))(jx:List (Option Nat)):Prop where
 kind:scope.kind=.function
 cell:∀ x∈scope.names,x.2≠.cell
 names:∀ x∈scope.names,x.2=.local->scope.names.lookup x.1=⇑.local
 clos:closureFor scope X.env=pure cl
 sub:∀ x c,cl.lookup x=⇑c->X.env.cells.lookup x=⇑c
 has:∀ x,((relabel scope X.env).names.lookup x=⇑.cell\/(relabel scope X.env).names.lookup x=⇑.free)->∃ c,cl.lookup x=⇑c
 len:↑jx=↑N
 free:∀ (i j:Nat) (x:Str),jx[i]?=⇑(⇑j)->N[i]?=⇑x->X.N[j]?=⇑x/\X.env.scope.names.lookup x=⇑.cell/\(relabel scope X.env).names.lookup x=⇑.cell
def sL(a:List (Option Nat))(b:_L2.St):_L2.St:=a.map λo=>o.bind λj=>(b[j]?).join
section
variable {X:Cx} {N:Uf} {scope:Scope} {c:List (Str × Addr)} {jx:List (Option Nat)}
theorem wN{h:_L2.St}{H:Hp}{s:Shared}{m:UV}{r:Heap}{D:Nat}(d:BC X N scope c jx)(I:Inv X i h H s)(n:∀ b∈m,nR X i H b)(G:∀ b∈m,b<s⁻¹)
  (J:r.Ns s⁻¹ λ_=>none) (j:∀ b o,s.heap.get? b=⇑o->r.get? b=⇑o) :
  Inv (jv X N scope c s⁻¹ s H m (X.pn++i)) [] (sL jx h) H { s with heap:=r,toks:=D }:=by
 let k:∀ {x a},(jv X N scope c s⁻¹ s H m (X.pn++i)).env.cells.lookup x=⇑a->X.env.cells.lookup x=⇑a:=λ{x a} e=>d.sub x a e
 refine⟨⟨I.ok.mod,d.kind,I.ok.glob,I.ok.blt,d7 _,λx F a e L=>I.ok.inj x F a (k e) (k L),λx F=>d.has x F,λx a z _=>(by cases z),I.ok.hd,I.ok.frames,.inl rfl,λb f=>⟨Nat.ne_of_lt (G b f),λx a e=>(n b f).2.2.2.2.1 x a (k e)⟩,I.bs,fX I.ok.T5 I.sz,λb o e f=>?_,λb f z=>?_,I.stack,I.Jm⟩,1,I.bare,Un.kept j,⟨_,J,λy x v M g _=>?_⟩,λx a e=>?_,I.hok.fresh (d7 _),λx a e=>I.qZ x a (k e),λp O=>?_,I.hok.kept j,by unfold sL;rw[cC];exact d.len⟩
 ·rcases (n b f).2.2.2.1 with z|z
  ·exact I.ok.M8 b o e z
  ·exact absurd (oU (Heap.lt_size (I.ok.bs b o e).1) z) (Nat.lt_irrefl _)
 ·rcases List.mem_cons.mp (I.uW b z) with e|e
  ·exact (n b f).2.1 e
  ·exact (n b f).2.2.1 e
 ·unfold sL at g;rw[gj]at g
  cases t:jx[y]? with
  | none=>rw[t]at g;cases g
  | some o =>
   rw[t]at g
   cases o with
   | none=>cases g
   | some l =>
    let R:h[l]?=⇑(⇑v):=by
     let z:((h[l]?).join)=⇑v:=nQ g
     cases u:h[l]? with
     | none=>rw[u]at z;cases z
     | some q=>rw[u]at z;exact congrArg some z
    let⟨f,A,B⟩:=d.free y l x t M;let⟨t,y,g⟩:=I.loc;let⟨t,y,S⟩:=g l x v f R (.inr (.inl A));exists t,y;rcases S with ⟨f,_⟩|⟨_,a,T,o,u,w⟩
    ·let C:X.env.scope.names.lookup x=⇑.local:=f;rw[A]at C;cases C
    ·let⟨f,C⟩:=d.has x (.inl B);let z:=d.sub x f C;rw[T]at z;cases z;exact .inr ⟨.inl B,a,C,o,j _ _ u,w⟩
 ·let⟨v,o,u,w⟩:=I.cell x a (k e);exact⟨v,o,j _ _ u,w⟩
 ·let a:p∈X.pn++i:=by
   let z:p∈(X.pn++i)++[]:=O;simpa using z
  let⟨e,f,l,t,g⟩:=I.pin p a;refine⟨j _ _ e,f,jc (Heap.lt_size e),λz=>?_,g⟩;rcases List.mem_cons.mp (I.uW p.1 z) with e|e
  ·exact l e
  ·exact t e
theorem vh{g j:_L2.St}{H h:Hp}{s i:Shared}{e:UV}(I:Inv X f g H s)(a:∀ b∈e,nR X f H b)(J:Inv (jv X N scope c s⁻¹ s H e (X.pn++f)) [] j h i):Inv X f g h i :=
 I.YA (e:=e) J.os J.zt J.hok J.bare λb d=>⟨(a b d).2.2.2.1,(a b d).2.1,(a b d).2.2.2.2.1,(a b d).2.2.2.2.2⟩
def vj{h d:_L2.St}{H b:Hp}{s a:Shared}{f:Heap}(I:Inv X g h H s)(i:Inv X g d b a)(j:b s⁻¹=none)(k:Heap.SameBut s⁻¹ a.heap f):Inv X g d b { a with heap:=f }:=by
 refine i.turned (t':=a.toks) (it:=s⁻¹) (λl o c e=>k.extBut _ _ c e) j (Nat.ne_of_gt I.lt) (.inr I.sz) (λx c e z=>?_) λp l z=>?_
 ·let⟨v,o,m,_⟩:=I.cell x c e;exact absurd (Heap.lt_size m) (by rw[z];exact Nat.lt_irrefl _)
 ·exact absurd (Heap.lt_size (I.pin p l).1) (by rw[z];exact Nat.lt_irrefl _)
def ue(J:It)(d:Addr)(g:TG)(tt:TT)(h:TE)(j:_L2.St)(H:Hp)(Q:VK):Prop :=
 ∃ W:Nat->Nat->_L2.St->Hp->Prop,(∃ m,W 0 m j H)/\∀ i m b H,W i m b H->
  (J.stop i H/\Q ↥d H)\/(J.go i H/\∃ c:_L2.St->Hp->Prop,(∀ e a,c e a->∃ f,f<m/\W (i+1) f e a)/\∀ x a,J.Nf i H x a->g x b a fun b e=>tt b e λa e =>
   if a=true then h b e λv f=>∃ a,f d=⇑(.lst a)/\↑a<sizeLine/\c b (aL f d (.lst (a++[v]))) else c b e)
def vm(jx:List (Option Nat))(d:TI)(g:TG)(tt:TT)(e:TE):TE:=fun b H Q=>d b H λJ c=>∀ a,c a=none->ue J a g tt e (sL jx b) (aL c a (.lst [])) Q
theorem BD{t:Expr}{wi:TI}{ab:TG}{tt:TT}{te:TE}(m:BC X N scope c jx)(hc:X.calm=true)(hi:PI X M t wi)
  (hg:∀ C u v w y,PG (jv X N scope c C u v w y) M ab) (ht:∀ C u v w y,Ln (jv X N scope c C u v w y) jE tt) (he:∀ C u v w y,PE (jv X N scope c C u v w y) jU te)
  (hs:∀ x,foldedSetIterable t X.env x=pure x) {use:Option (Value->Sem Unit)} {O:ZB} {Q:VK} {h:List (Addr × Obj)} {s:Shared} {q:_L2.St} {U:Hp} (ap:Inv X h q U s) (aq:vm jx wi ab tt te q U Q)
  (ar:∀ (a:Shared) (i:Hp) (e:UV) (ae:Addr) (n:_L2.St) (p:Hp) (z:Shared),Inv X h q i a->(∀ b∈e,nR X h i b)->Inv (jv X N scope c a⁻¹ a i e (X.pn++h)) [] n p z->Q ↥ae p->
   compPost (model X.prog X.w) X.A X.xe use O ↥ae a⁻¹ (.ok .next) z) :
  wpAny (model X.prog X.w) X.A (comprehension (.ListComp jU [⟨M,t,jE,0⟩] scope as) scope X.env iV (newList []) false (eval t X.env) use) O X.xe s:=by
 refine wpAny_comprehension_free (use:=use) rfl hs m.clos m.kind m.names (dB (hi h s q U _ ap aq) λag s1 h1=>dB h1 λYK g h2=>?_);let⟨it,e,F,a1,G,f,I2,T,ai,f2,av⟩:=h2;subst f;refine wpAny_newObj_type (hd:=by size_fits) ?_;let cN:G g⁻¹=none:=I2.hok.fresh (d7 _);let A:Inv X h q (aL G g⁻¹ (.lst [])) { g with heap:=g.heap.push { cls:=.type "g",data:=.seq ([]:Wp).toArray },toks:=g.toks }:=I2.Q6 (ys:=[]) .nil (ic _)
 let ZA:∀ b∈e,b<g⁻¹:=λb d=>by
  let⟨o,j,_⟩:=T.obj _ _ ai b d;exact Heap.lt_size j
 let l:∀ b∈e,nR X h (aL G g⁻¹ (.lst [])) b:=λb d=>⟨by rw[aJ (jc (ZA b d))];exact (f2 b d).1,(f2 b d).2⟩;have k3:∀ b o,g.heap.get? b=⇑o->(g.heap.push { cls:=.type "g",data:=.seq ([]:Wp).toArray }).get? b=⇑o:=λb o f=>Heap.get?_push_of_some _ f;have q3:=av _ cN;generalize aw:({ g with heap:=g.heap.push { cls:=.type "g",data:=.seq ([]:Wp).toArray },toks:=g.toks }:Shared)=a at A;generalize av:aL G g⁻¹ (.lst [])=i at A l q3;have G:a.heap=g.heap.push { cls:=.type "g",data:=.seq ([]:Wp).toArray }:=by rw[← aw]
 let JW:∀ b∈e,b<a⁻¹:=λb d=>by rw[G,Heap.size_push];exact Nat.lt_succ_of_lt (ZA b d)
 let av:F 0 a.heap:=T.keep _ _ _ ai λb _ o f=>by rw[G];exact k3 b o f
 show wpAny _ _ _ _ _ a;refine wpAny_newFunctionEnv m.cell (λR j=>by simp at j) (λH Hh RL=>?_) m.kind;let G:∀ b o,a.heap.get? b=⇑o->H.get? b=⇑o:=λb o f=>RL.extBut _ _ (jc (Heap.lt_size f)) (Heap.get?_push_of_some _ f);have J0:Inv (jv X N scope c a⁻¹ a i e (X.pn++h)) [] (sL jx q) i { a with heap:=H,toks:=a.toks+↑([]:List (Str × Value)) }:=wN m A l JW Hh G;have ZD:F 0 H:=T.keep _ _ _ av λb _ o f=>G b o f;let⟨W,⟨m0,w0⟩,jr⟩:=q3
 let S:∀ {j:Hp},(∀ b∈e,j b=none)->∀ b∈e,nR (jv X N scope c a⁻¹ a i e (X.pn++h)) [] j b:=λG b d=>by
  refine⟨G b d,jc (JW b d),λk=>?_,.inl d,λx B f=>(l b d).2.2.2.2.1 x B (m.sub x B f),λr D=>?_⟩
  ·rcases List.mem_cons.mp (A.uW b k) with f|f
   ·exact (l b d).2.1 f
   ·exact (l b d).2.2.1 f
  ·let B:r∈X.pn++h:=by
    let k:r∈(X.pn++h)++[]:=D;simpa using k
   exact (l b d).2.2.2.2.2 r B
 let am:∀ G:Shared,G={ a with heap:=H,toks:=a.toks+↑([]:List (Str × Value)) }->codeAny (model X.prog X.w) X.A (.compLoop (.ListComp jU [⟨M,t,jE,0⟩] scope as) 0 ↥it ↥g⁻¹ (jv X N scope c a⁻¹ a i e (X.pn++h)).env)
   (compPost (model X.prog X.w) X.A X.xe use O ↥g⁻¹ a⁻¹) G:=by
  rintro G rfl;refine Lm (λI r=>∃ k B j,Inv (jv X N scope c a⁻¹ a i e (X.pn++h)) [] B j r/\F k r.heap/\(∀ b∈e,j b=none)/\W k I B j) ?_ m0 ⟨0,_,i,J0,ZD,λb d=>(l b d).1,w0⟩;rintro I s6 ⟨k,n,p,I6,Uk,JT,w6⟩;rcases jr k I n p w6 with ⟨stop,qn⟩|⟨go,Nx,hN,step⟩
  ·refine dB (T.done (jv X N scope c a⁻¹ a i e (X.pn++h)) rfl rfl rfl hc k [] s6 n p _ I6 (S JT) Uk stop) λax z r=>?_;let⟨hr,D⟩:=r;subst hr;exact ar a i e _ n p z A l D qn
  ·refine dB (T.item (jv X N scope c a⁻¹ a i e (X.pn++h)) rfl rfl rfl hc k [] s6 n p _ I6 (S JT) Uk go) λax z l=>?_;let⟨aA,hr,h7⟩:=l;subst hr;refine dB h7 λ_ H A=>?_;let⟨x,l,I8,r8,y8,G,Rx⟩:=A;have A:=I8.pinned (S Rx) (T.obj _ _ G);refine dB (hg _ _ _ _ _ _ H n l x aA _ A r8 (step x l y8)) λ_ l A=>?_;let⟨J,S,I9,q9⟩:=A;refine dB (ht _ _ _ _ _ _ l J S _ I9 q9) λok aM l=>?_;let⟨MR,Ul,L⟩:=l
   let an:∀ {l:_L2.St} {A:Hp} {r:Shared},Inv (jv X N scope c a⁻¹ a i e (X.pn++h)) ([]++rY e H.heap) l A r->Nx l A->∃ H,H<I/\∃ k B j,Inv (jv X N scope c a⁻¹ a i e (X.pn++h)) [] B j r/\F k r.heap/\(∀ b∈e,j b=none)/\W k H B j:=λ{l A r} D B=>by
    let⟨F,H,I⟩:=hN l A B;refine⟨F,H,k+1,l,A,D.nk,T.keep _ _ _ G λb d o f=>(D.pin (b,o) (kJ _ (kJ _ (ig d f)))).1,λb d=>?_,I⟩;let⟨o,f,k⟩:=T.obj _ _ G b d;exact (D.pin (b,o) (kJ _ (kJ _ (ig d f)))).2.1
   cases ok with
   | false =>
    rw[if_neg lG]at L;exact an Ul L
   | true =>
    rw[if_pos rfl]at L;refine dB (he _ _ _ _ _ _ aM J MR _ Ul L) λag r d=>?_;let⟨R,f,k,aU,xs,hx,hz,a0⟩:=d;refine dB (b9 _ r J f ↥g⁻¹ [R] ↥g⁻¹ [ag] (λ_ j=>Nx J j) k rfl (.cons aU .nil) ⟨_,xs,R,V,hx,hz,a0⟩) λ_ f d=>?_;let⟨_,j,f,_,g⟩:=d;exact an f g
 exact codeAny_compStart_list (am _ rfl) (T.self _ _ _ _ _ ZD (am _ rfl))
theorem Og{f:Expr}{h:TI}{i:TG}{tt:TT}{j:TE}(m:BC X N scope c jx)(n:X.calm=true)(o:PI X k f h)
  (p:∀ C a b d e,PG (jv X N scope c C a b d e) k i) (q:∀ C a b d e,Ln (jv X N scope c C a b d e) r tt) (t:∀ C a b d e,PE (jv X N scope c C a b d e) u j)
  (v:∀ x,foldedSetIterable f X.env x=pure x:=by intro _;rfl):PE X (.ListComp u [⟨k,f,r,0⟩] scope G) (vm jx h i tt j):=by
 intro l s w H Q I g;rw[eval_ListComp];refine BD (use:=none) m n o p q t v I g λB D F w H y I l z g A=>?_;let⟨B,D,_⟩:=g.loc;exact⟨B,D,λD B=>⟨↥w,y,vj l (vh l z g) g.free B,1,A⟩⟩
theorem RN{a:Expr}{r:Pos}{i:TI}{j:TG}{tt:TT}{k:TE}{l:Nat}{x:Str}(A:BC X N scope c jx)(B:X.calm=true)(G:X.N.Nodup)(H:X.N[l]?=⇑x)(t:X.env.scope.names.lookup x=⇑.local)(I:PI X g a i)
  (J:∀ C b d e f,PG (jv X N scope c C b d e f) g j) (L:∀ C b d e f,Ln (jv X N scope c C b d e f) m tt) (M:∀ C b d e f,PE (jv X N scope c C b d e f) n k)
  (O:swapsWith (.ListComp n [⟨g,a,m,0⟩] scope u) (⇑(.Name x o)) r.line X.env=pure true:=by rfl)
  (T:∀ x,foldedSetIterable a X.env x=pure x:=by intro _;rfl):PS X (.Assign [.Name x o] (.ListComp n [⟨g,a,m,0⟩] scope u) r) (Nc (vm jx i j tt k) (pI l)):=by
 intro F s v R D S U;rw[exec_Assign_Name_used _ _ _ _ O];refine wpAny_bind (wpAny_standAt (wpAny_bind ?_));show wpAny _ X.A (do let _ ← comprehension (.ListComp n [⟨g,a,m,0⟩] scope u) scope X.env _ (newList []) false (eval a X.env) (⇑(assign (.Name x o) X.env))) _ _ s;let w:vm jx i j tt k v R (λy h=>pI l y v h D.nx):=U;refine wpAny_bind (dB (BD (use:=⇑(assign (.Name x o) X.env)) (O:=λ_ v=>∃ p h,Inv X F p h v/\D.nx p h) A B I J L M T S w λW R S D U H6 s7 h F p qn=>?_) λ_ v ab=>?_)
 ·let v:=vh h F p;let⟨ae,hm,_⟩:=p.loc;refine wpAny_assign_Name (A6 v G H (.inl t) (T:=↥D) rfl (λv I8 ⟨z,RL,q⟩=>?_) (.inr t))
  let na:W⁻¹≠z:=by
   rcases q with rfl|q
   ·exact Nat.ne_of_gt h.lt
   ·intro D;let⟨y,v,y,_⟩:=h.cell x z q;exact absurd (Heap.lt_size y) (by rw[D];exact Nat.lt_irrefl _)
  refine⟨ae,hm.at' λv q=>RL.extBut _ v na q,λw q=>⟨_,H6,vj h I8 p.free q,qn⟩⟩
 ·exact wpAny_pure (wpAny_pure ab)
theorem gA{K:Frag}{h:Addr}{a:List V}{j:TG}{tt:TT}{k:TE}{l:_L2.St}{H:Hp}{Q:VK}(d:Nat->_L2.St->Hp->Prop)(r:d 0 l H)(t:∀ i b H,i<=↑a->d i b H->bI K H h a)
  (u:∀ i x b H,a[i]?=⇑x->d i b H->j x b H fun e v=>tt e v λw m=>if w=true then k e m λz n=>∃ f,n g=⇑(.lst f)/\↑f<sizeLine/\d (i+1) e (aL n g (.lst (f++[z]))) else d (i+1) e m)
  (A:∀ b H,d ↑a b H->Q ↥g H):ue (Ng K h) g j tt k l H Q:=by
 refine⟨λi o b H=>o=↑a-i/\i<=↑a/\d i b H,⟨↑a,by simp,ic _,r⟩,?_⟩;rintro i o b H ⟨rfl,o,p⟩;let q:=t i b H o p;by_cases o:i<↑a
 ·refine .inr ⟨⟨a,a[i],q,by simp[o]⟩,d (i+1),fun C s B=>⟨↑a-(i+1),by lia,1,o,B⟩,λx s y=>?_⟩;let⟨c,y⟩:=y;subst c;exact u i x b _ (y a q) p
 ·let c:i=↑a:=by lia
  subst c;exact .inl ⟨⟨a,q,d7 _⟩,A b H p⟩
theorem pZ{lo:Int}{k:Nat}{h:TG}{tt:TT}{j:TE}{l:_L2.St}{H:Hp}{Q:VK}(b:Nat->_L2.St->Hp->Prop)(q:b 0 l H)
  (r:∀ i a H,i<k->b i a H->h (.int (lo+i)) a H fun d t=>tt d t λu m=>if u=true then j d m λv n=>∃ e,n f=⇑(.lst e)/\↑e<sizeLine/\b (i+1) d (aL n f (.lst (e++[v]))) else b (i+1) d m)
  (w:∀ a H,b k a H->Q ↥f H):ue (KP lo k) f h tt j l H Q:=by
 refine⟨λi o a H=>o=k-i/\i<=k/\b i a H,⟨k,by simp,ic _,q⟩,?_⟩;rintro i o a H ⟨rfl,o,p⟩;by_cases c:i<k
 ·refine .inr ⟨c,b (i+1),fun x o s=>⟨k-(i+1),by lia,1,c,s⟩,λx o y=>?_⟩;let⟨g,y⟩:=y;subst g y;exact r i a _ c p
 ·let g:i=k:=by lia
  subst g;exact .inl ⟨Nat.le_refl _,w a H p⟩
end
section
variable {X:Cx} {N:Uf} {scope:Scope} {cl:List (Str × Addr)} {C:Addr} {s₀:Shared} {H₀:Hp} {ex:UV} {pn:List (Addr × Obj)}
theorem qJ{a:List Expr}{k:Nat}{t:Vr}{n:Nat}(b:X.calm=true)(h:YH (jv X N scope cl C s₀ H₀ ex pn) a t)
  (c:↑(assignEach a (jv X N scope cl C s₀ H₀ ex pn).env)=n:=by rfl) (d:(assignEach a (jv X N scope cl C s₀ H₀ ex pn).env).findIdx? (·.1)=none:=by rfl):PG (jv X N scope cl C s₀ H₀ ex pn) (.Tuple a k e) (Vt X.K n t):=lU (X:=jv X N scope cl C s₀ H₀ ex pn) b h c d
theorem ER{l:Expr}{a:TE}(b:PE (jv X N scope cl C s₀ H₀ ex pn) l a):PI (jv X N scope cl C s₀ H₀ ex pn) c l (T9 X.K a):=cK b
theorem ES:VG (jv X N scope cl C s₀ H₀ ex pn) (Y4 X.K):=bH
theorem xO:VG (jv X N scope cl C s₀ H₀ ex pn) (Y5 X.K):=bf
end
def CJ{b:Cx}:jm b (.type "v") (λa H Q=>∃ j:Int,a=[.int j]/\∀ p,H p=none->Q ↥p (aL H p (.D5 0 j))):=by
 intro c s d H a e Q I r h;let⟨j,rfl,q⟩:=h;let⟨f,rfl,⟨t,rfl⟩⟩:=r.one;refine call_range_1 ⟨↥s⁻¹,_,I.laid (o:=.D5 0 j) (λc o e=>Heap.get?_push_of_some _ e) (d7 _) ⟨Q,Heap.get?_push_size _ rfl⟩,1,q _ (I.hok.fresh (d7 _))⟩
theorem vo{n:Scope}{d:Env}(y:∀ p∈n.names,p.2=.free->∃ c,d.cells.lookup p.1=⇑c) :
  ∃ a,closureFor n d=pure a/\(∀ x c,a.lookup x=⇑c->d.cells.lookup x=⇑c)/\(∀ p∈n.names,p.2=.free->∃ c,a.lookup p.1=⇑c):=by
 unfold closureFor
 let z:∀ (l:List (Str × NameKind)) (f:List (Str × Addr)),(∀ p∈l,p.2=.free->∃ c,d.cells.lookup p.1=⇑c)->(∀ x c,f.lookup x=⇑c->d.cells.lookup x=⇑c)->
   ∃ a,(forIn l f (λp r=>if (p.2 == NameKind.free)=true then do let c ← cellOf d p.1;pure (ForInStep.yield ((p.1,c)::r)) else pure (ForInStep.yield r)):Sem (List (Str × Addr)))=pure a/\(∀ x c,a.lookup x=⇑c->d.cells.lookup x=⇑c)/\(∀ p∈l,p.2=.free->∃ c,a.lookup p.1=⇑c)/\(∀ x c,f.lookup x=⇑c->∃ c,a.lookup x=⇑c):=by
  intro l
  induction l with
  | nil=>intro f _ o;exact⟨f,1,o,(λp g=>by cases g),λx c e=>⟨c,e⟩⟩
  | cons p l v =>
   intro f s o;rw[List.forIn_cons];by_cases g:p.2=.free
   ·let⟨c,w⟩:=s p nP g;let t:(p.2 == NameKind.free)=true:=by rw[g];rfl
    let l:cellOf d p.1=pure c:=by
     unfold cellOf;rw[w]
    rw[if_pos t,l];simp only[pure_bind]
    let⟨a,i,j,k,m⟩:=v ((p.1,c)::f) (λq b=>s q (jT _ b)) (λx u e=>by
     rw[List.lookup_cons]at e
     cases h:x == p.1 with
     | true =>
      rw[h]at e;cases e;rw[eq_of_beq h];exact w
     | false =>
      rw[h]at e
      exact o x u e)
    refine⟨a,i,j,λq b r=>?_,λx u e=>?_⟩
    ·rcases List.mem_cons.mp b with rfl|b
     ·exact m q.1 c (by rw[List.lookup_cons];simp)
     ·exact k q b r
    ·cases h:x == p.1 with
     | true=>exact m x c (by rw[List.lookup_cons,h])
     | false=>exact m x u (by rw[List.lookup_cons,h];exact e)
   ·let t:¬ (p.2 == NameKind.free)=true:=λe=>g (eq_of_beq e);rw[if_neg t];simp only[pure_bind];let⟨a,i,j,k,m⟩:=v f (λq b=>s q (jT _ b)) o;refine⟨a,i,j,λq b r=>?_,m⟩;rcases List.mem_cons.mp b with rfl|b
    ·exact absurd r g
    ·exact k q b r
 let⟨a,i,j,k,_⟩:=z n.names [] y (λx c e=>by cases e);refine⟨a,?_,j,k⟩;rw[← i];simp only[bind_pure]
theorem mj{a:Env}:∀ {f:List (Str × NameKind)} {x:Str} {k:NameKind},f.lookup x=⇑k->
  (f.map λ(n,k)=>if (k == NameKind.free&&a.scope.kind == .function&&a.kindOf n == some .cell) then (n,NameKind.cell) else (n,k)).lookup x=⇑(if (k == NameKind.free&&a.scope.kind == .function&&a.kindOf x == some .cell) then NameKind.cell else k)
 | [],_,_,h=>by cases h
 | (n,b)::r,x,k,h=>by
  rw[jo];by_cases d:(x == n)=true
  ·let e:x=n:=eq_of_beq d;subst e;rw[List.lookup_cons,d]at h;cases h;by_cases c:(b == NameKind.free&&a.scope.kind == .function&&a.kindOf x == some .cell)=true
   ·show List.lookup x ((if (b == NameKind.free&&a.scope.kind == .function&&a.kindOf x == some .cell)=true then (x,NameKind.cell) else (x,b))::_)=_;rw[if_pos c,if_pos c,List.lookup_cons,d]
   ·show List.lookup x ((if (b == NameKind.free&&a.scope.kind == .function&&a.kindOf x == some .cell)=true then (x,NameKind.cell) else (x,b))::_)=_;rw[if_neg c,if_neg c,List.lookup_cons,d]
  ·let e:(x == n)=false:=by simpa using d
   rw[List.lookup_cons,e]at h;let d:=mj (a:=a) h;show List.lookup x ((if (b == NameKind.free&&a.scope.kind == .function&&a.kindOf n == some .cell)=true then (n,NameKind.cell) else (n,b))::_)=_;by_cases c:(b == NameKind.free&&a.scope.kind == .function&&a.kindOf n == some .cell)=true
   ·rw[if_pos c,List.lookup_cons,e];exact d
   ·rw[if_neg c,List.lookup_cons,e];exact d
theorem kU{a:Env}:∀ {d:List (Str × NameKind)} {x:Str},d.lookup x=none->
  (d.map λ(n,k)=>if (k == NameKind.free&&a.scope.kind == .function&&a.kindOf n == some .cell) then (n,NameKind.cell) else (n,k)).lookup x=none
 | [],_,_=>rfl
 | (n,b)::r,x,h=>by
  rw[jo]
  let c:(x == n)=false:=by
   cases b:x == n with
   | false=>rfl
   | true=>rw[List.lookup_cons,b]at h;cases h
  rw[List.lookup_cons,c]at h;let e:=kU (a:=a) h;show List.lookup x ((if (b == NameKind.free&&a.scope.kind == .function&&a.kindOf n == some .cell)=true then (n,NameKind.cell) else (n,b))::_)=_;by_cases f:(b == NameKind.free&&a.scope.kind == .function&&a.kindOf n == some .cell)=true
  ·rw[if_pos f,List.lookup_cons,c];exact e
  ·rw[if_neg f,List.lookup_cons,c];exact e
structure BE(X:Cx)(N:Uf)(scope:Scope)(jx:List (Option Nat)):Prop where
 kind:scope.kind=.function
 cell:∀ x∈scope.names,x.2≠.cell
 names:∀ x∈scope.names,x.2=.local->scope.names.lookup x.1=⇑.local
 xk:X.env.scope.kind=.function
 fr:∀ x∈scope.names,x.2=.free->X.env.scope.names.lookup x.1=⇑.cell
 len:↑jx=↑N
 free:∀ (i j:Nat) (x:Str),jx[i]?=⇑(⇑j)->N[i]?=⇑x->X.N[j]?=⇑x/\scope.names.lookup x=⇑.free
def Oi(a N:Uf)(b:Scope)(c:List (Option Nat)):Bool:=(c.zip N).all λp=>match p.1 with
 | none=>true
 | some j=>decide (a[j]?=⇑p.2)&&decide (b.names.lookup p.2=⇑.free)
theorem kg{b:Cx}{N f:Uf}{a c:Scope}{d:List (Option Nat)}(g:b.env.scope=c)(h:b.N=f)(k:a.kind=.function)(i:∀ x∈a.names,x.2≠.cell)(j:∀ x∈a.names,x.2=.local->a.names.lookup x.1=⇑.local)
  (l:c.kind=.function) (m:∀ x∈a.names,x.2=.free->c.names.lookup x.1=⇑.cell) (n:↑d=↑N) (e:Oi f N a d=true):BE b N a d:=by
 refine⟨k,i,j,by rw[g];exact l,by rw[g];exact m,n,λo p x q r=>?_⟩;rw[h];unfold Oi at e;rw[List.all_eq_true]at e;let z:=e (⇑p,x) (mL (i:=o) (by rw[List.getElem?_zip_eq_some];exact⟨q,r⟩));simp only[Bool.and_eq_true,decide_eq_true_eq]at z;exact z
section
variable {X:Cx} {N:Uf} {scope:Scope} {jx:List (Option Nat)}
def BE.toF{g:_L2.St}{H:Hp}{s:Shared}(a:BE X N scope jx)(I:Inv X v g H s):∃ c,BC X N scope c jx:=by
 let⟨c,h,i,j⟩:=vo (n:=scope) (d:=X.env) λp l m=>I.ok.has p.1 (.inl (a.fr p l m))
 let n:∀ x,scope.names.lookup x=⇑.free->(relabel scope X.env).names.lookup x=⇑.cell:=λx b=>by
  let z:=mj (a:=X.env) b
  let d:(NameKind.free == NameKind.free&&X.env.scope.kind == .function&&X.env.kindOf x == some .cell)=true:=by
   let q:X.env.kindOf x=⇑.cell:=a.fr (x,.free) (PySem.mem_of_lookup b) rfl;rw[a.xk,q];rfl
  rw[if_pos d]at z;exact z
 refine⟨c,a.kind,a.cell,a.names,h,i,λx b=>?_,a.len,λo r x t u=>?_⟩
 ·cases e:scope.names.lookup x with
  | none =>
   let z:(relabel scope X.env).names.lookup x=none:=kU (a:=X.env) e;rw[z]at b
   rcases b with q|q <;> cases q
  | some k =>
   by_cases f:k=.free
   ·subst f;exact j (x,.free) (PySem.mem_of_lookup e) rfl
   ·let z:(relabel scope X.env).names.lookup x=⇑(if (k == NameKind.free&&X.env.scope.kind == .function&&X.env.kindOf x == some .cell) then NameKind.cell else k):=mj (a:=X.env) e
    let d:(k == NameKind.free)=false:=by
     cases q:k == NameKind.free with
     | false=>rfl
     | true=>exact absurd (eq_of_beq q) f
    rw[d]at z;simp only[Bool.false_and,Bool.false_eq_true,if_false]at z;rw[z]at b;rcases b with q|q
    ·cases q;exact absurd rfl (a.cell (x,.cell) (PySem.mem_of_lookup e))
    ·cases q;exact absurd rfl f
 ·let⟨b,d⟩:=a.free o r x t u;exact⟨b,a.fr (x,.free) (PySem.mem_of_lookup d) rfl,n x d⟩
theorem iz{f:Expr}{g:TI}{h:TG}{tt:TT}{i:TE}(k:BE X N scope jx)(l:X.calm=true)(m:PI X j f g)
  (n:∀ a C b c d e,PG (jv X N scope a C b c d e) j h) (o:∀ a C b c d e,Ln (jv X N scope a C b c d e) p tt) (q:∀ a C b c d e,PE (jv X N scope a C b c d e) r i)
  (t:∀ x,foldedSetIterable f X.env x=pure x:=by intro _;rfl):PE X (.ListComp r [⟨j,f,p,0⟩] scope z) (vm jx g h tt i):=by
 intro u s v H Q I w;let⟨a,y⟩:=k.toF I;exact Og y l m (n a) (o a) (q a) t u s v H Q I w
theorem CK{f:Expr}{h:Pos}{i:TI}{j:TG}{tt:TT}{k:TE}{l:Nat}{x:Str}(o:BE X N scope jx)(p:X.calm=true)(q:X.N.Nodup)(r:X.N[l]?=⇑x)(t:X.env.scope.names.lookup x=⇑.local)(u:PI X g f i)
  (v:∀ a C b c d e,PG (jv X N scope a C b c d e) g j) (w:∀ a C b c d e,Ln (jv X N scope a C b c d e) m tt) (y:∀ a C b c d e,PE (jv X N scope a C b c d e) n k)
  (z:swapsWith (.ListComp n [⟨g,f,m,0⟩] scope A) (⇑(.Name x B)) h.line X.env=pure true:=by rfl)
  (D:∀ x,foldedSetIterable f X.env x=pure x:=by intro _;rfl):PS X (.Assign [.Name x B] (.ListComp n [⟨g,f,m,0⟩] scope A) h) (Nc (vm jx i j tt k) (pI l)):=by
 intro F s G H J I L;let⟨a,M⟩:=o.toF I;exact RN M p q r t u (v a) (w a) (y a) z D F s G H J I L
end
end _cF
namespace _cF
open Spec Rows _L2
section
variable {X:Cx} {N:Uf} {scope:Scope} {c:List (Str × Addr)} {jx:List (Option Nat)}
def ET(J:It)(d:Addr)(g:TG)(tt:TT)(h:TI)(j:TG)(k:TT)(l:TE)(n:_L2.St)(H:Hp)(Q:VK):Prop :=
 ∃ W:Nat->Nat->_L2.St->Hp->Prop,(∃ m,W 0 m n H)/\∀ i m c H,W i m c H->
  (J.stop i H/\Q ↥d H)\/(J.go i H/\∃ b:_L2.St->Hp->Prop,(∀ e a,b e a->∃ f,f<m/\W (i+1) f e a)/\∀ x a,J.Nf i H x a->g x c a fun c e=>tt c e λe a =>
   if e=true then Hu h d j k l c a b else b c a)
def JX(jx:List (Option Nat))(d:TI)(g:TG)(tt:TT)(e:TI)(f:TG)(h:TT)(i:TE):TE:=fun b H Q=>d b H λJ c=>∀ a,c a=none->ET J a g tt e f h i (sL jx b) (aL c a (.lst [])) Q
theorem Hz{y:Expr}{wi Hv:TI}{ae g2:TG}{tt Hw:TT}{te:TE}(r:BC X N scope c jx)(M:X.calm=true)(hi:PI X O y wi)
  (hg:∀ C j k l m,PG (jv X N scope c C j k l m) O ae) (ht:∀ C j k l m,Ln (jv X N scope c C j k l m) jE tt) (aq:∀ C j k l m,PI (jv X N scope c C j k l m) U eG Hv) (ar:∀ C j k l m,PG (jv X N scope c C j k l m) U g2) (HD:∀ C j k l m,Ln (jv X N scope c C j k l m) jh Hw) (he:∀ C j k l m,PE (jv X N scope c C j k l m) jU te)
  (hs:∀ x,foldedSetIterable y X.env x=pure x) (GD:∀ (as:Env) x,foldedSetIterable eG as x=pure x) {use:Option (Value->Sem Unit)} {Q':ZB} {Q:VK} {g:List (Addr × Obj)} {s:Shared} {v:_L2.St} {ab:Hp} (av:Inv X g v ab s) (aw:JX jx wi ae tt Hv g2 Hw te v ab Q)
  (ax:∀ (a:Shared) (h:Hp) (e:UV) (ag:Addr) (t:_L2.St) (u:Hp) (z:Shared),Inv X g v h a->(∀ b∈e,nR X g h b)->Inv (jv X N scope c a⁻¹ a h e (X.pn++g)) [] t u z->Q ↥ag u->
   compPost (model X.prog X.w) X.A X.xe use Q' ↥ag a⁻¹ (.ok .next) z) :
  wpAny (model X.prog X.w) X.A (comprehension (.ListComp jU [⟨O,y,jE,0⟩,⟨U,eG,jh,0⟩] scope aA) scope X.env iV (newList []) false (eval y X.env) use) Q' X.xe s:=by
 refine wpAny_comprehension_free (use:=use) rfl hs r.clos r.kind r.names (dB (hi g s v ab _ av aw) λa1 s1 h1=>dB h1 λYK i h2=>?_);let⟨it,e,G,a1,H,f,S,T,ai,f2,aM⟩:=h2;subst f;refine wpAny_newObj_type (hd:=by size_fits) ?_;let cN:H i⁻¹=none:=S.hok.fresh (d7 _);let A:Inv X g v (aL H i⁻¹ (.lst [])) { i with heap:=i.heap.push { cls:=.type "g",data:=.seq ([]:Wp).toArray },toks:=i.toks }:=S.Q6 (ys:=[]) .nil (ic _)
 let ZA:∀ b∈e,b<i⁻¹:=λb d=>by
  let⟨o,n,_⟩:=T.obj _ _ ai b d;exact Heap.lt_size n
 let q:∀ b∈e,nR X g (aL H i⁻¹ (.lst [])) b:=λb d=>⟨by rw[aJ (jc (ZA b d))];exact (f2 b d).1,(f2 b d).2⟩;have k3:∀ b o,i.heap.get? b=⇑o->(i.heap.push { cls:=.type "g",data:=.seq ([]:Wp).toArray }).get? b=⇑o:=λb o f=>Heap.get?_push_of_some _ f;have q3:=aM _ cN;generalize aU:({ i with heap:=i.heap.push { cls:=.type "g",data:=.seq ([]:Wp).toArray },toks:=i.toks }:Shared)=a at A;generalize S:aL H i⁻¹ (.lst [])=h at A q q3;have H:a.heap=i.heap.push { cls:=.type "g",data:=.seq ([]:Wp).toArray }:=by rw[← aU]
 let S:∀ b∈e,b<a⁻¹:=λb d=>by rw[H,Heap.size_push];exact Nat.lt_succ_of_lt (ZA b d)
 let aM:G 0 a.heap:=T.keep _ _ _ ai λb _ o f=>by rw[H];exact k3 b o f
 show wpAny _ _ _ _ _ a;refine wpAny_newFunctionEnv r.cell (λp n=>by simp at n) (λI Hh RL=>?_) r.kind;let H:∀ b o,a.heap.get? b=⇑o->I.get? b=⇑o:=λb o f=>RL.extBut _ _ (jc (Heap.lt_size f)) (Heap.get?_push_of_some _ f);have J0:Inv (jv X N scope c a⁻¹ a h e (X.pn++g)) [] (sL jx v) h { a with heap:=I,toks:=a.toks+↑([]:List (Str × Value)) }:=wN r A q S Hh H;have ZD:G 0 I:=T.keep _ _ _ aM λb _ o f=>H b o f;let⟨W,⟨m0,w0⟩,jr⟩:=q3
 let R:∀ {n:Hp},(∀ b∈e,n b=none)->∀ b∈e,nR (jv X N scope c a⁻¹ a h e (X.pn++g)) [] n b:=λH b d=>by
  refine⟨H b d,jc (S b d),λp=>?_,.inl d,λx B f=>(q b d).2.2.2.2.1 x B (r.sub x B f),λw D=>?_⟩
  ·rcases List.mem_cons.mp (A.uW b p) with f|f
   ·exact (q b d).2.1 f
   ·exact (q b d).2.2.1 f
  ·let B:w∈X.pn++g:=by
    let p:w∈(X.pn++g)++[]:=D;simpa using p
   exact (q b d).2.2.2.2.2 w B
 let am:∀ H:Shared,H={ a with heap:=I,toks:=a.toks+↑([]:List (Str × Value)) }->codeAny (model X.prog X.w) X.A (.compLoop (.ListComp jU [⟨O,y,jE,0⟩,⟨U,eG,jh,0⟩] scope aA) 0 ↥it ↥i⁻¹ (jv X N scope c a⁻¹ a h e (X.pn++g)).env)
   (compPost (model X.prog X.w) X.A X.xe use Q' ↥i⁻¹ a⁻¹) H:=by
  rintro H rfl;refine Rw (λJ i=>∃ p w n,Inv (jv X N scope c a⁻¹ a h e (X.pn++g)) [] w n i/\G p i.heap/\(∀ b∈e,n b=none)/\W p J w n) (GD _) ?_ m0 ⟨0,_,h,J0,ZD,λb d=>(q b d).1,w0⟩;rintro J s6 ⟨p,t,u,I6,Uk,JT,w6⟩;rcases jr p J t u w6 with ⟨stop,qn⟩|⟨go,Nx,hN,step⟩
  ·refine dB (T.done (jv X N scope c a⁻¹ a h e (X.pn++g)) rfl rfl rfl M p [] s6 t u _ I6 (R JT) Uk stop) λan z i=>?_;let⟨B,D⟩:=i;subst B;exact ax a h e _ t u z A q D qn
  ·refine dB (T.item (jv X N scope c a⁻¹ a h e (X.pn++g)) rfl rfl rfl M p [] s6 t u _ I6 (R JT) Uk go) λan z i=>?_;let⟨a0,B,h7⟩:=i;subst B;refine dB h7 λ_ H q=>?_;let⟨x,i,I,S,y8,A,Rx⟩:=q;have q:=I.pinned (R Rx) (T.obj _ _ A);refine dB (hg _ _ _ _ _ _ H t i x a0 _ q S (step x i y8)) λ_ i q=>?_;let⟨I,R,S,q9⟩:=q;refine dB (ht _ _ _ _ _ _ i I R _ S q9) λok q i=>?_;let⟨q,Ul,L⟩:=i
   let ap:∀ {i:_L2.St} {q:Hp} {F:Shared},Inv (jv X N scope c a⁻¹ a h e (X.pn++g)) ([]++rY e H.heap) i q F->Nx i q->∃ H,H<J/\∃ p w n,Inv (jv X N scope c a⁻¹ a h e (X.pn++g)) [] w n F/\G p F.heap/\(∀ b∈e,n b=none)/\W p H w n:=λ{i q F} D G=>by
    let⟨H,I,J⟩:=hN i q G;refine⟨H,I,p+1,i,q,D.nk,T.keep _ _ _ A λb d o f=>(D.pin (b,o) (kJ _ (kJ _ (ig d f)))).1,λb d=>?_,J⟩;let⟨o,f,i⟩:=T.obj _ _ A b d;exact (D.pin (b,o) (kJ _ (kJ _ (ig d f)))).2.1
   cases ok with
   | false =>
    rw[if_neg lG]at L;exact ap Ul L
   | true =>
    rw[if_pos rfl]at L;refine dB (Lu (Y:=jv X N scope c a⁻¹ a h e (X.pn++g)) M rfl (aq _ _ _ _ _) (ar _ _ _ _ _) (HD _ _ _ _ _) (he _ _ _ _ _) Ul L) λx F d=>dB d λf i d=>codeAny_mono d λan i ⟨B,w,n,d,f⟩=>⟨B,ap d f⟩
 exact codeAny_compStart_list (am _ rfl) (T.self _ _ _ _ _ ZD (am _ rfl))
theorem vp{f:Expr}{r:Pos}{h i:TI}{j k:TG}{tt l:TT}{m:TE}(t:BE X N scope jx)(u:X.calm=true)(v:PI X n f h)
  (w:∀ c C a b d e,PG (jv X N scope c C a b d e) n j) (y:∀ c C a b d e,Ln (jv X N scope c C a b d e) z tt)
  (A:∀ c C a b d e,PI (jv X N scope c C a b d e) o p i) (B:∀ c C a b d e,PG (jv X N scope c C a b d e) o k) (D:∀ c C a b d e,Ln (jv X N scope c C a b d e) G l) (H:∀ c C a b d e,PE (jv X N scope c C a b d e) J m)
  (L:∀ x,foldedSetIterable f X.env x=pure x:=by intro _;rfl) (M:∀ (O:Env) x,foldedSetIterable p O x=pure x:=by intro _ _;rfl) :
  PE X (.ListComp J [⟨n,f,z,0⟩,⟨o,p,G,0⟩] scope r) (JX jx h j tt i k l m):=by
 intro q s F R Q I g;let⟨c,q⟩:=t.toF I;rw[eval_ListComp];refine Hz (use:=none) q u v (w c) (y c) (A c) (B c) (D c) (H c) L M I g λT U W F ab I s7 q R g S=>?_;let⟨T,U,_⟩:=g.loc;exact⟨T,U,λU T=>⟨↥F,I,vj q (vh q R g) g.free T,1,S⟩⟩
theorem qb{K:Frag}{f:Addr}{a:List V}{g:TG}{tt:TT}{h:TI}{j:TG}{k:TT}{l:TE}{m:_L2.St}{H:Hp}{Q:VK}(d:Nat->_L2.St->Hp->Prop)(t:d 0 m H)(u:∀ i b H,i<=↑a->d i b H->bI K H f a)
  (v:∀ i x b H,a[i]?=⇑x->d i b H->g x b H fun e w=>tt e w λz n=>if z=true then Hu h o j k l e n (d (i+1)) else d (i+1) e n)
  (A:∀ b H,d ↑a b H->Q ↥o H):ET (Ng K f) o g tt h j k l m H Q:=by
 refine⟨λi r b H=>r=↑a-i/\i<=↑a/\d i b H,⟨↑a,by simp,ic _,t⟩,?_⟩;rintro i r b H ⟨rfl,r,p⟩;let q:=u i b H r p;by_cases r:i<↑a
 ·refine .inr ⟨⟨a,a[i],q,by simp[r]⟩,d (i+1),fun C s B=>⟨↑a-(i+1),by lia,1,r,B⟩,λx s y=>?_⟩;let⟨c,y⟩:=y;subst c;exact v i x b _ (y a q) p
 ·let c:i=↑a:=by lia
  subst c;exact .inl ⟨⟨a,q,d7 _⟩,A b H p⟩
theorem yY{K:Frag}{j:Addr}{b:List V}{t:TG}{tt:TT}{u:TE}{a:_L2.St}{H:Hp}{w:_L2.St->Hp->Prop}(e:Nat->_L2.St->Hp->Prop)(B:e 0 a H)(C:∀ i a H,i<=↑b->e i a H->bI K H j b)
  (D:∀ i x a H,b[i]?=⇑x->e i a H->t x a H fun d k=>tt d k λl g=>if l=true then u d g λv h=>∃ n,h o=⇑(.lst n)/\↑n<sizeLine/\e (i+1) d (aL h o (.lst (n++[v]))) else e (i+1) d g)
  (G:∀ a H,e ↑b a H->w a H):∃ W:Nat->Nat->_L2.St->Hp->Prop,(∃ m,W 0 m a H)/\∀ i m a H,W i m a H->
  ((Ng K j).stop i H/\w a H)\/((Ng K j).go i H/\∃ p:_L2.St->Hp->Prop,(∀ q f,p q f->∃ z,z<m/\W (i+1) z q f)/\∀ x f,(Ng K j).Nf i H x f->t x a f fun d k=>tt d k λl g =>
   if l=true then u d g λv h=>∃ b,h o=⇑(.lst b)/\↑b<sizeLine/\p d (aL h o (.lst (b++[v]))) else p d g):=by
 refine⟨λi m a H=>m=↑b-i/\i<=↑b/\e i a H,⟨↑b,by simp,ic _,B⟩,?_⟩;rintro i m a H ⟨rfl,A,c⟩;let r:=C i a H A c;by_cases A:i<↑b
 ·refine .inr ⟨⟨b,b[i],r,by simp[A]⟩,e (i+1),fun q f F=>⟨↑b-(i+1),by lia,1,A,F⟩,λx f y=>?_⟩;let⟨s,y⟩:=y;subst s;exact D i x a _ (y b r) c
 ·let s:i=↑b:=by lia
  subst s;exact .inl ⟨⟨b,r,d7 _⟩,G a H c⟩
end
end _cF
namespace _cF
open Spec Rows _L2
open AutoSeq1 (wpAny_loadPart')
section
variable {prog:Program} {w:World} {A:Around} {E:ZB} {s:Shared} {κ:Type} [DecidableEq κ] {knd:KeyKind prog w κ}
def Lz{d:Addr}{Q:Bool->Shared->Prop}(a:s.TypeIs ↥d "4")(h:Q false s):wpAny (model prog w) A (Builtin.List.listLengthHint ↥d) Q E s:=by
 unfold Builtin.List.listLengthHint;refine wpAny_bind (wpAny_specialOf a F.slot_dict_len.lookup ?_);generalize b:("dict.__len__":String)=c
 wp_delta
 rw[show splitId c=⇑("4","__len__") by subst b;decide +kernel];subst b;refine wpAny_bind (wpAny_isInstance (T:="4") (b:=true) a (by rw[isSubtype_type];kernel_rfl) ?_);refine wpAny_ite_split (λq=>absurd q (by decide)) λ_=>?_;refine wpAny_ite_split (λ_=>?_) λq=>absurd nofun q;exact wpAny_bind (wpAny_typeOf a (wpAny_pure h))
theorem EV{k:XV}{d:Addr}{c:List (κ × Value)}{h:Nat}(H:A.handled=none)(I:(d == sysModules)=false)(j:s.heap.DictAt knd d c h)(J:↑c<=sizeLine)(a:Addr)(n:Value)(L:Nat)(p:s.heap.get? a=some { cls:=.type "g",data:=.seq #[] L })
  (M:∀ q N l i,(∀ b o,b≠a->s.heap.get? b=⇑o->q.get? b=⇑o)->q.get? a=some { cls:=.type "g",dict:=none,data:=.seq l i,slots:=#[] }->
   ItemsOf (λO T=>∃ x U,c[O]?=⇑(x,U)/\knd.is x T=true) l ↑c->k (.ok (.ret n)) { s with heap:=q,toks:=N }) :
  wpAny (model prog w) A.in1 (Builtin.List.listExtendWith ↥a ↥d n)
   (λab g=>match ab with|.done ae=>k (.ok ae) g|.again i=>i.quiet=true/\codeAny (model prog w) A i k g) (λe g=>k (.error e) g) s:=by
 let y:s.TypeIs ↥d "4":=by
  let⟨o,m,f,t,_⟩:=j;exact⟨o,f,t.1⟩
 let r:a≠d:=λe=>by
  let⟨o,m,f,t,u,_⟩:=j;rw[← e,p]at f;cases f;cases u
 let R:a<s⁻¹:=Heap.lt_size p
 let S:d<s⁻¹:=by
  let⟨o,m,f,_⟩:=j;exact Heap.lt_size f
 let B:a≠s⁻¹:=jc R;let R:d≠s⁻¹:=jc S;let W:=(Walks.dictKeys (prog:=prog) (w:=w) (A:=A.in1) (knd:=knd) H s⁻¹ d R c h).toS;unfold Builtin.List.listExtendWith;refine wpAny_bind (wpAny_typeOf y ?_);let R:Builtin.List.listSameRef ↥a ↥d=false:=by simp[Builtin.List.listSameRef,r]
 let S:(Value.type "4" == Value.type "g")=false:=by decide
 let X:(Value.type "4" == Value.type "q")=false:=by decide
 simp only[R,S,X,Bool.or_false,Bool.false_eq_true,if_false];refine wpAny_bind (wpAny_pyIter_dict I j ?_);let C:(s.heap.push { cls:=.type "dict_keyiterator",data:=.fields (List.toArray [↥d,.int 0 0,.int ↑c 0,.int h 0]) }).IsKeyIter s⁻¹ d 0 ↑c h:=⟨_,Heap.get?_push_size _ rfl,V⟩;let iM:∀ b o,s.heap.get? b=⇑o->(s.heap.push { cls:=.type "dict_keyiterator",data:=.fields (List.toArray [↥d,.int 0 0,.int ↑c 0,.int h 0]) }).get? b=⇑o:=λb o e=>Heap.get?_push_of_some _ e;generalize s.heap.push { cls:=.type "dict_keyiterator",data:=.fields (List.toArray [↥d,.int 0 0,.int ↑c 0,.int h 0]) }=t at C iM
 let R:({ s with heap:=t }:Shared).TypeIs ↥d "4":=by
  let⟨o,f,m⟩:=y;exact⟨o,iM _ _ f,m⟩
 refine wpAny_bind (wpAny_holding (Lz R ?_));refine wpAny_ite_split (λ_=>?_) λu=>absurd nofun u;refine wpAny_bind (wpAny_rule (wpAny_bind ?_));show wpAny _ A.in1 (updateSeq a (λz=>z.push .none) >>= λ_=>updateSeq a λz=>z.pop) _ _ _;have D:=iM _ _ p;refine wpAny_bind (wpAny_updateSeq D rfl ?_);have G:=Heap.get?_update_self (Obj.mapSeq λz=>z.push Value.none) D rfl;refine wpAny_updateSeq (hz:=by seq_fits) G rfl ?_;have ag:=Heap.get?_update_self (Obj.mapSeq λz=>z.pop) G rfl
 let v:∀ b o,b≠a->t.get? b=⇑o->((t.update a (Obj.mapSeq λz=>z.push Value.none)).update a (Obj.mapSeq λz=>z.pop)).get? b=⇑o:=λb o f e =>
  (Heap.get?_update_other _ _ f.symm).trans ((Heap.get?_update_other _ _ f.symm).trans e)
 refine wpAny_pure ⟨plainId_quiet F.plain_extend_loop _,codeAny_extend_loopS W J a (λm=>?_) n ↑c 0 _ #[] _ rfl (ic _) ⟨C.at λo e=>v _ o B.symm e,(j.at' λo e=>v _ o r.symm (iM _ o e))⟩ ag (ItemsOf.nil _) λg l i m ai cN=>?_⟩
 ·rcases List.mem_cons.mp m with e|e
  ·exact B e
  ·exact r (List.mem_singleton.mp e)
 ·rw[Moved.eq_with m];refine M g.heap g.toks l i (λb o f e=>m.heap b o (λu=>?_) (v b o f (iM b o e))) ai cN;rcases List.mem_cons.mp u with z|z
  ·exact f z
  ·exact absurd (Heap.lt_size e) (by rw[List.mem_singleton.mp z];exact Nat.lt_irrefl _)
theorem yZ{Q:ZB}{d:Addr}{a:List (κ × Value)}{j:Nat}(n:A.handled=none)(p:(d == sysModules)=false)(k:s.heap.DictAt knd d a j)(q:↑a<=sizeLine)
  (r:∀ c h f i,(∀ b o,s.heap.get? b=⇑o->c.get? b=⇑o)->c.get? s⁻¹=some { cls:=.type "g",dict:=none,data:=.seq f i,slots:=#[] }->
   ItemsOf (λt v=>∃ l x,a[t]?=⇑(l,x)/\knd.is l v=true) f ↑a->Q ↥s⁻¹ { s with heap:=c,toks:=h }) :
  wpAny (model prog w) A (call (.type "g") [↥d]) Q E s:=by
 refine callType_codes (Q₁:=λu m=>u=↥s⁻¹/\m={ s with heap:=s.heap.push { cls:=.type "g",data:=.seq #[] } }) F.called_list (F.typeCall_list_1 _) F.entry_list_init (code_list_new _ ⟨V⟩) λu m y=>?_;let⟨rfl,rfl⟩:=y;have g:(s.heap.push { cls:=.type "g",data:=.seq #[] }).get? s⁻¹=some { cls:=.type "g",data:=.seq #[] }:=Heap.get?_push_size _ rfl;have z:(s.heap.push { cls:=.type "g",data:=.seq #[] }).DictAt knd d a j:=k.at' λo e=>Heap.get?_push_of_some _ e
 let B:d≠s⁻¹:=by
  let⟨o,u,m,_⟩:=k;exact jc (Heap.lt_size m)
 exists ⟨_,g,1⟩,F.args_list_init_2 _ _;show wpAny _ _ (do let old ← Builtin.List.listItems ↥s⁻¹;Builtin.List.listUpdate ↥s⁻¹ (λ_=>#[]);letGo old.toList.reverse;Builtin.List.listExtendWith ↥s⁻¹ ↥d .none) _ _ _;refine wpAny_bind ?_;unfold Builtin.List.listItems;refine wpAny_bind (wpAny_seqItems g rfl (wpAny_pure ?_));show wpAny _ _ (updateSeq s⁻¹ (λ_=>#[]) >>= λ_=>letGo (#[]:WF).toList.reverse >>= λ_=>Builtin.List.listExtendWith ↥s⁻¹ ↥d .none) _ _ _;refine wpAny_bind (wpAny_updateSeq g rfl ?_);let C:=Heap.get?_update_self (Obj.mapSeq λ_=>(#[]:WF)) g rfl;let g:∀ b o,b≠s⁻¹->(s.heap.push { cls:=.type "g",data:=.seq #[] }).get? b=⇑o->((s.heap.push { cls:=.type "g",data:=.seq #[] }).update s⁻¹ (Obj.mapSeq λ_=>(#[]:WF))).get? b=⇑o:=λb o m e=>(Heap.get?_update_other _ _ m.symm).trans e;refine wpAny_bind (wpAny_letGo ?_);refine EV (A:=A.in1) (knd:=knd) n p (z.at' λo e=>g _ o B e) q s⁻¹ .none _ C λc h f i m u y=>?_;exact⟨1,r c h f i (λb o e=>m b o (jc (Heap.lt_size e)) (g b o (jc (Heap.lt_size e)) (Heap.get?_push_of_some _ e))) u y⟩
end
def HE{f:Cx}(w:f.calm=true):jm f (.type "g") (λi H Q=>∃ (d:Addr) (a:List (d9 × V)),i=[↥d]/\H d=⇑(.dK a)/\∀ l,H l=none->Q ↥l (aL H l (.lst (a.map λp=>kV p.1)))):=by
 intro B s C H i b Q I r y;let⟨d,a,rfl,z,q⟩:=y;let⟨u,rfl,A⟩:=r.one;cases (show u=Value.ref d from A);let⟨y,A,c,e,B,C,U,D,F⟩:=(show fR f.prog f.w H s.heap d (.dK a) from I.hok d _ z);let z:=↑e;refine yZ (I.ok.hd w) A ⟨B,C,D,F⟩ ∅ λD z m A B C n=>?_;refine⟨↥s⁻¹,_,I.laid (o:=.lst (a.map λp=>kV p.1)) (t':=z) B (d7 _) ⟨by rw[cC];exact y,m.toList,A,?_,by simpa using C⟩,1,q _ (I.hok.fresh (d7 _))⟩
 let G:∀ (a:List (d9 × V)) (c:List (d9 × Value)) (b:Wp),KV a c->↑b=↑c->(∀ (j:Nat) (v:Value),b[j]?=⇑v->∃ k x,c[j]?=⇑(k,x)/\vY k v=true)->cD (a.map λp=>kV p.1) b:=by
  intro a
  induction a with
  | nil =>
   intro c b e g _;cases e
   cases b with
   | nil=>exact .nil
   | cons=>simp at g
  | cons p r J =>
   intro c b e g o
   cases e with
   | @cons _ q _ L M N =>
   cases b with
   | nil=>simp at g
   | cons u b =>
    let⟨k,x,O,R⟩:=o 0 u rfl;let S:q=(k,x):=by simpa using O
    subst S;refine .cons ?_ (J L b N (by simpa using g) λj v h=>?_)
    ·show _L2.RelV (kV p.1) u;rw[show p.1=k from M.1];rcases fm R with ⟨T,t,rfl,rfl⟩|⟨T,t,rfl,rfl⟩
     ·exact⟨t,1⟩
     ·exact⟨t,1⟩
    ·let⟨b,g,k,q⟩:=o (j+1) v (by simpa using h);exact⟨b,g,by simpa using k,q⟩
 exact G a c m.toList e (by simpa using n.1) λj v h=>n.2 j v (by simpa using h)
end _cF
namespace _sM
open Spec Rows _L2 _cF _gu
end _sM
namespace _gu
open Spec Rows _L2 _cF _fC _sM
inductive cI{α β:Type}(R:α->β->Prop):List α->List β->Prop
 | nil:cI R [] []
 | cons {a:α} {b:β} {c:List α} {d:List β}:R a b->cI R c d->cI R (a::c) (b::d)
section
variable {α β:Type} {R R':α->β->Prop} {d:List α} {c:List β} {a:α} {b:β}
def cI.len{d:List α}{c:List β}(h:cI R d c):↑d=↑c:=by
 induction h with
 | nil=>rfl
 | cons _ _ a=>rw[jH,jH,a]
theorem cI.get:∀ {d:List α} {c:List β} {i:Nat},cI R d c->d[i]?=⇑a->∃ b,c[i]?=⇑b/\R a b
 | _,_,_,.nil,h=>by simp at h
 | _,_,0,.cons r _,h=>by simp at h;subst h;exact⟨Y,r⟩
 | _,_,i+1,.cons _ t,h=>by simp at h;simpa using t.get h
theorem cI.get':∀ {d:List α} {c:List β} {i:Nat},cI R d c->c[i]?=⇑b->∃ a,d[i]?=⇑a/\R a b
 | _,_,_,.nil,h=>by simp at h
 | _,_,0,.cons r _,h=>by simp at h;subst h;exact⟨Y,r⟩
 | _,_,i+1,.cons _ t,h=>by simp at h;simpa using t.get' h
def cI.snoc{d:List α}{c:List β}(t:cI R d c)(h:R a b):cI R (d++[a]) (c++[b]):=by
 induction t with
 | nil=>exact .cons h .nil
 | cons r _ e=>exact .cons r e
def cI.mono{d:List α}{c:List β}(h:∀ a b,R a b->R' a b)(t:cI R d c):cI R' d c:=by
 induction t with
 | nil=>exact .nil
 | cons r _ e=>exact .cons (h _ _ r) e
theorem cI.set:∀ {d:List α} {c:List β} (i:Nat),cI R d c->R a b->cI R (d.set i a) (c.set i b)
 | _,_,_,.nil,_=>.nil
 | _,_,0,.cons _ t,h=>.cons h t
 | _,_,i+1,.cons r t,h=>.cons r (t.set i h)
theorem cI.split:∀ {d:List α} {c:List β},cI R d (c++[b])->∃ e a,d=e++[a]/\cI R e c/\R a b
 | _,[],.cons r .nil=>⟨[],Y,.nil,r⟩
 | _,f::c,.cons r t=>by
  let⟨e,a,rfl,f,g⟩:=t.split;exact⟨_::e,a,1,.cons r f,g⟩
end
inductive aT where
 | win (n:Int)
 | aC (a b:Int)
def HF:aT->List V
 | .win n=>[.str "win",.int n]
 | .aC a b=>[.str "ink",.int a,.int b]
def dJ(H:Hp)(v:V)(b:aT):Prop:=∃ a,v=↥a/\H a=⇑(.tup (HF b))
theorem dJ.same{H a:Hp}{v:V}{b:aT}(s:aH H a):dJ H v b->dJ a v b:=λ⟨c,e,h⟩=>⟨c,e,s _ _ h⟩
theorem dJ.keep{H a:Hp}{v:V}{b:aT}{q:Addr}{d:List V}(e:H q=⇑(.lst d))(k:cB q H a):dJ H v b->dJ a v b:=λ⟨c,f,h⟩=>⟨c,f,k c _ h (by
 intro z;rw[z,e]at h
 cases h)⟩
def bU(H:Hp)(v:V)(c:List aT):Prop:=∃ a b,v=↥a/\H a=⇑(.lst b)/\cI (dJ H) b c
theorem bU.same{H a:Hp}{v:V}{b:List aT}(s:aH H a):bU H v b->bU a v b:=λ⟨c,d,e,h,t⟩=>⟨c,d,e,s _ _ h,t.mono λ_ _=>dJ.same s⟩
def gU(H:Hp)(r:Addr)(b:List (List aT)):Prop:=∃ a,H r=⇑(.lst a)/\cI (bU H) a b
theorem gU.same{H a:Hp}{r:Addr}{b:List (List aT)}(s:aH H a):gU H r b->gU a r b:=λ⟨c,h,t⟩=>⟨c,s _ _ h,t.mono λ_ _=>bU.same s⟩
def bG(t:List aT)(e:Int):List aT :=
 if e<0 then t++[.win (-1-e)] else
 match t.getLast? with
 | some (.aC a b)=>if b=e then t.dropLast++[.aC a (e+1)] else t++[.aC e (e+1)]
 | _=>t++[.aC e (e+1)]
def aF(a:UF):List aT:=a.foldl bG []
def fN(a:List aT):UF:=a.filterMap λb=>match b with|.win n=>⇑n|.aC _ _=>none
def eU(a:UF):UF:=a.filterMap λe=>if e<0 then some (-1-e) else none
def gB(a b:List aT):fN (a++b)=fN a++fN b:=by unfold fN;rw[List.filterMap_append]
def LC(t:List aT)(e:Int):fN (bG t e)=fN t++(if e<0 then [-1-e] else []):=by
 unfold bG;by_cases h:e<0
 ·rw[if_pos h,if_pos h,gB];rfl
 ·rw[if_neg h,if_neg h,gG];rcases kZ t with rfl|⟨c,l,rfl⟩
  ·rfl
  ·rw[jI,lS]
   cases l with
   | win n=>simp[gB,fN]
   | aC a b =>
    show fN (if b=e then (c++[aT.aC a b]).dropLast++[.aC a (e+1)] else (c++[aT.aC a b])++[.aC e (e+1)])=_;by_cases d:b=e
    ·rw[if_pos d,List.dropLast_concat,gB,gB];rfl
    ·rw[if_neg d,gB,gB];simp[fN]
def LF(a:UF):∀ t:List aT,fN (a.foldl bG t)=fN t++eU a:=by
 induction a with
 | nil=>intro t;simp[eU]
 | cons e a b =>
  intro t;rw[jY,b,LC,jq];unfold eU;rw[List.filterMap_cons];by_cases h:e<0
  ·simp[h]
  ·simp[h]
def iP(a:UF):fN (aF a)=eU a:=by
 unfold aF;rw[LF];rfl
def cH{b:UF}{y:Int}:y∈eU b↔0<=y/\-1-y∈b:=by
 unfold eU;rw[List.mem_filterMap];constructor
 ·rintro⟨e,c,h⟩;by_cases a:e<0
  ·rw[if_pos a]at h;cases h;exact⟨by lia,by rw[show -1-(-1-e)=e by lia];exact c⟩
  ·rw[if_neg a]at h;cases h
 ·rintro⟨a,a⟩;exists -1-y,a;rw[if_pos ∅];congr 1;lia
def qK(a:UF):∀ t:List aT,↑(a.foldl bG t)<=↑t+↑a:=by
 induction a with
 | nil=>intro t;simp
 | cons e a b =>
  intro t;rw[jY];let z:=b (bG t e)
  let b:↑(bG t e)<=↑t+1:=by
   unfold bG;split
   ·simp
   ·split
    ·split
     ·rw[cR,List.length_dropLast,gW];lia
     ·simp
    ·simp
  rw[jH];lia
def jF(b:cZ)(x y:Int):Prop:=0<=x/\∃ a,b[x.toNat]?=⇑a/\y∈eU a
inductive Reach(E:Int->Int->Prop)(s:Int):Int->Prop
 | one {y:Int}:E s y->Reach E s y
 | step {y z:Int}:Reach E s y->E y z->Reach E s z
theorem Reach.closed{E:Int->Int->Prop}{s:Int}{a:Int->Prop}(b:∀ y,E s y->a y)(c:∀ x y,a x->E x y->a y):∀ {g:Int},Reach E s g->a g
 | _,.one h=>b _ h
 | _,.step r h=>c _ _ (Reach.closed b c r) h
def gM(a:cZ):Prop:=∀ b∈a,∀ y∈eU b,y<↑a
def gM.DY{a:cZ}(h:gM a){x y:Int}(e:jF a x y):0<=y/\y<↑a:=by
 let⟨_,c,d,b⟩:=e;exact⟨(cH.mp b).1,h c (mL d) y b⟩
def cnt(n:Nat)(p:Nat->Bool):Nat:=↑((List.range n).filter p)
def Oj(n:Nat){p q:Nat->Bool}(h:∀ i,i<n->p i=q i):cnt n p=cnt n q:=by
 unfold cnt;rw[List.filter_congr λi a=>h i (List.mem_range.mp a)]
def uf(n:Nat)(p:Nat->Bool):cnt (n+1) p=cnt n p+(if p n=true then 1 else 0):=by
 unfold cnt;rw[List.range_succ,List.filter_append,cR];congr 1;by_cases h:p n=true
 ·rw[if_pos h];simp[h]
 ·rw[if_neg h];simp[h]
theorem ug(j:Nat):∀ (n:Nat) {p q:Nat->Bool},j<n->p j=true->(∀ i,q i=(p i&&decide (i≠j)))->cnt n q+1=cnt n p
 | 0,_,_,h,_,_=>by lia
 | n+1,p,q,h,b,a=>by
  rw[uf,uf];by_cases e:j=n
  ·subst e
   let z:cnt j q=cnt j p:=Oj j λi c=>by
    rw[a i];have:decide (i≠j)=true:=by simp;lia
    rw[this,Bool.and_true]
   let c:q j=false:=by rw[a j];simp
   rw[z,c,if_pos b];simp
  ·let c:=ug j n (p:=p) (q:=q) ∅ b a
   let z:q n=p n:=by
    rw[a n];have:decide (n≠j)=true:=by simp;lia
    rw[this,Bool.and_true]
   rw[z];lia
def y9(n:Nat)(p:Nat->Bool):cnt n p<=n:=by
 unfold cnt;have:=List.length_filter_le p (List.range n);rw[List.length_range]at this;exact this
def fZ(b:Yf)(H:Hp)(v:V)(c:UF):Prop:=∃ a,v=↥a/\¬ b a/\H a=⇑(.lst (c.map V.int))
def iA(b:Yf)(H:Hp)(r:Addr)(c:cZ):Prop:=∃ a,H r=⇑(.lst a)/\cI (fZ b H) a c
theorem fZ.keep{b:Yf}{H c:Hp}{v:V}{d:UF}(k:∀ a o,¬ b a->H a=⇑o->c a=⇑o):fZ b H v d->fZ b c v d:=λ⟨a,e,n,h⟩=>⟨a,e,n,k a _ n h⟩
theorem iA.same{a:Yf}{H b:Hp}{r:Addr}{c:cZ}(s:aH H b):iA a H r c->iA a b r c:=λ⟨d,h,t⟩=>⟨d,s _ _ h,t.mono λ_ _=>fZ.keep λd o _ e=>s d o e⟩
def iA.get{e:Yf}{H:Hp}{r:Addr}{c:cZ}{i:Nat}{d:UF}(h:iA e H r c)(f:c[i]?=⇑d):∃ b a,H r=⇑(.lst b)/\b[i]?=⇑↥a/\H a=⇑(.lst (d.map V.int))/\↑b=↑c:=by
 let⟨b,g,t⟩:=h;let⟨v,j,a,rfl,_,k⟩:=t.get' f;exact⟨b,a,g,j,k,t.len⟩
def JY(x:Int)(a:UF):d6 (.int x) (a.map V.int)=decide (x∈a):=by
 unfold d6
 induction a with
 | nil=>rfl
 | cons y b c =>
  rw[jo,List.any_cons,c];show ((y == x) || decide (x∈b))=_;by_cases h:y=x
  ·simp[h]
  ·let b:¬ x=y:=λz=>h z.symm;simp[h,b]
def BF(a:UF):(a.map V.int).all tN=true:=by
 rw[List.all_eq_true];intro v b;let⟨i,_,rfl⟩:=List.mem_map.mp b;rfl
def CM(a:cZ):Prop:=∃ rk:Int->Nat,(∀ x,rk x<=40)/\∀ x y,jF a x y->rk y<rk x
theorem fZ.at{a:Yf}{H:Hp}{v:V}{b:UF}{q:Addr}(o:HO)(c:a q):fZ a H v b->fZ a (aL H q o) v b:=fZ.keep λd u n e=>by
 rw[aJ (λz=>n (by rw[z];exact c))];exact e
theorem fZ.same{a:Yf}{H b:Hp}{v:V}{c:UF}(s:aH H b):fZ a H v c->fZ a b v c:=fZ.keep λd u _ e=>s d u e
def seen(a:List (d9 × V))(x:Int):Prop:=(cG a (Sum.inl x)).isSome=true
def m7(n:Nat)(a:List (d9 × V)):Nat:=cnt n λi=>(cG a (Sum.inl (i:Int))).isNone
def EW{a:List (d9 × V)}{y x:Int}(v:V):seen (dP a (Sum.inl y) v) x↔x=y\/seen a x:=by
 unfold seen;rw[j7];by_cases h:x=y
 ·rw[if_pos (by rw[h]),h];simp
 ·rw[if_neg (λz=>h (Sum.inl.inj z))];simp[h]
def EX{n:Nat}{a:List (d9 × V)}{y:Int}(v:V)(c:0<=y)(d:y<n)(b:cG a (Sum.inl y)=none):m7 n (dP a (Sum.inl y) v)+1=m7 n a:=by
 refine ug y.toNat n ∅ ?_ λi=>?_
 ·show (cG a (Sum.inl (y.toNat:Int))).isNone=true;rw[show ((y.toNat:Nat):Int)=y by lia,b];rfl
 ·show (cG (dP a (Sum.inl y) v) (Sum.inl (i:Int))).isNone=((cG a (Sum.inl (i:Int))).isNone&&decide (i≠y.toNat));rw[j7];by_cases h:(i:Int)=y
  ·rw[if_pos (by rw[h])];have:decide (i≠y.toNat)=false:=by simp;lia
   rw[this,Bool.and_false];rfl
  ·rw[if_neg (λz=>h (Sum.inl.inj z))];have:decide (i≠y.toNat)=true:=by simp;lia
   rw[this,Bool.and_true]
def JZ(lo:Int)(n:Nat):↑(run lo n)=n:=by
 induction n generalizing lo with
 | zero=>rfl
 | succ n a=>rw[run,jH,a]
theorem Ol:∀ {n:Nat} {lo y:Int},y∈run lo n->lo<=y/\y<lo+n
 | 0,_,_,h=>by cases h
 | n+1,lo,y,h=>by
  rcases List.mem_cons.mp h with rfl|z
  ·lia
  ·have:=Ol z;lia
theorem cI.new{a:Hp}{q t:Addr}{b:List V}{c:List aT}{it:aT}{g:List V}(d:a q=⇑(.lst g))(h:cI (dJ a) b c)(e:a t=none)(i:List V) :
  cI (dJ (aL (aL a t (.tup (HF it))) q (.lst i))) (b++[↥t]) (c++[it]):=by
 let j:q≠t:=az d e;let f:aH a (aL a t (.tup (HF it))):=ak e _;refine cI.snoc (h.mono λv l k=>(k.same f).keep (f _ _ d) (aG q _ _)) ⟨t,1,?_⟩;rw[aJ j.symm,af]
end _gu
namespace _Wn
open Spec Rows _L2 _cF
section
variable {M:Model} {A:Around} {E:ZB} {s:Shared}
def CN{a b:Value}{Q:ZB}(c:s.TypeIs a "g")(f:s.TypeIs b "g")(g:wpAny M A (call (.builtin "list.__iadd__") [a,b]) Q E s):wpAny M A (inplaceOp .Add a b) Q E s:=by
 unfold inplaceOp;refine wpAny_holding ?_;let d:isSeqSlot (⇑(.builtin "list.__iadd__"))=true:=by decide +kernel
 let h:fillsInplaceSlot (.type "g") "add" (Operator.Add == .Add)=pure false:=by
  unfold fillsInplaceSlot;show (typeLookup (.type "g") (dunderI "add") >>= λe=>pure (e.isSome&&!isSeqSlot e))=pure false;rw[PySem.F.slot_list_iadd.lookup,pure_bind,d];rfl
 let e:seqSlot? (.type "g") (dunderI "add")=pure (⇑(.builtin "list.__iadd__")):=PySem.seqSlot_of PySem.F.slot_list_iadd.lookup d;refine wpAny_bind (wpAny_typeOf c (wpAny_bind (wpAny_of_eq h ?_)));show wpAny M A (if false=true then _ else _) Q E s;rw[if_neg lG];refine wpAny_bind (binaryOp1_none (nm:="add") c f PySem.noFill_list_add ?_);refine wpAny_bind (wpAny_of_eq e ?_);exact wpAny_bind (wpAny_rule g)
end
section
variable {X:Cx}
def Ut:V->V->Hp->VK->Prop:=λx y H Q=>∃ l c a b,x=↥l/\y=↥c/\H l=⇑(.lst a)/\H c=⇑(.lst b)/\↑a+↑b<=sizeLine/\Q ↥l (aL H l (.lst (a++b)))
def vq:eJ X .Add Ut:=by
 intro d s e H x y v u Q I a b h;let⟨l,f,i,j,rfl,rfl,c,g,d,q⟩:=h;cases a;cases b;let⟨z,a,n,r,b,e⟩:=I.w9 c;let⟨j,b,h,i,k,d⟩:=I.w9 g;let g:a.toArray.size+b.toArray.size<=sizeLine:=by rw[gZ,gZ];lia
 let j:¬ (!a.toArray.isEmpty&&Builtin.List.listTooLong (a.toArray.size+b.toArray.size))=true:=by
  rw[yg g,Bool.and_false];exact lG
 refine CN ⟨_,e,1⟩ ⟨_,d,1⟩ ?_;refine call_meets PySem.F.slot_list_iadd ⟨_,e,1⟩ PySem.F.entry_list_iadd (PySem.F.args_list_iadd_2 _ _) (AutoSeq1.list___iadd___list_list_0 l a.toArray n f b.toArray h j (by rw[gZ];lia) ∅) ⟨e,d,?_⟩;refine⟨↥l,_,I.ND (a:=a++b) c e (by simp) (r.append i) ?_,1,q⟩;rw[cR];lia
section
variable {N:Uf} {scope:Scope} {cl:List (Str × Addr)} {C:Addr} {s₀:Shared} {H₀:Hp} {ex:UV} {pn:List (Addr × Obj)}
theorem HG:jm (jv X N scope cl C s₀ H₀ ex pn) (.type "g") (Y8 X.K):=gR
end
theorem HH:YU X .Add Ut:=λa s b H x y u v Q I c d h=>vq a s b H x y u v Q I c d h
end
def J1{p q A B T:Prop} [Decidable p] [Decidable q] (w:p->(if decide q=true then A else B)->T) (d:p/\q->A) (c:¬ (p/\q)->B):if decide p=true then T else (if false=true then A else B):=by
 by_cases a:p
 ·rw[if_pos (decide_eq_true a)];by_cases b:q
  ·exact w a (by rw[if_pos (decide_eq_true b)];exact d ⟨a,b⟩)
  ·exact w a (by rw[decide_eq_false b,if_neg lG];exact c λz=>b z.2)
 ·rw[decide_eq_false a,if_neg lG,if_neg lG];exact c λz=>a z.1
theorem HJ{p q A B T:Prop} [Decidable p] [Decidable q] (w:(if decide q=true then A else B)->T) (a:p/\q->A) (b:¬ (p/\q)->B):if decide p=true then T else (if false=true then A else B):=J1 (λ_=>w) a b
end _Wn
namespace _gu
open Spec Rows _L2 _cF _fC _sM
def kW(r:Row):Prop:=∀ p∈r,0<=p.1/\p.1<=p.2
def jw(r:Row):Prop:=∀ p∈r,0<=p.1/\p.1<p.2
def BG{t:Row}{s e:Int}(h:jw t)(f:0<=s)(g:s<e):jw (iM t s e):=by
 let a:jw (t++[(s,e)]):=λp b=>by
  rcases List.mem_append.mp b with z|z
  ·exact h p z
  ·rw[List.mem_singleton.mp z];exact⟨f,g⟩
 unfold iM;rcases kZ t with rfl|⟨c,l,rfl⟩
 ·exact a
 ·rw[jI]at h a ⊢;rw[lS];show jw (if l.2=s then (c++[l]).dropLast++[(l.1,e)] else c++[l]++[(s,e)]);by_cases d:l.2=s
  ·rw[if_pos d,List.dropLast_concat];intro p b;rcases List.mem_append.mp b with z|z
   ·exact h p (lQ _ z)
   ·have:=h l (by simp);rw[List.mem_singleton.mp z];exact⟨this.1,by show l.1<e;lia⟩
  ·rw[if_neg d];exact a
def nE{r:Row}(h:kW r):jw (cE r):=by
 let z:∀ (r t:Row),kW r->jw t->jw (r.foldl dR t):=by
  intro r
  induction r with
  | nil=>intro t _ g;exact g
  | cons p r b =>
   intro t h g;rw[jY];refine b _ (λq a=>h q (jT _ a)) ?_;unfold dR;let a:=h p (by simp);by_cases c:p.1=p.2
   ·rw[if_pos c];exact g
   ·rw[if_neg c];exact BG g a.1 ∅
 exact z r [] h λp a=>by cases a
def BH{a:UF}(h:∀ x∈a,0<=x):jw (cL a):=by
 let z:∀ (a:UF) (t:Row),(∀ x∈a,0<=x)->jw t->jw (a.foldl (λt n=>iM t n (n+1)) t):=by
  intro a
  induction a with
  | nil=>intro t _ g;exact g
  | cons n a b =>
   intro t h g;rw[jY];exact b _ (λx b=>h x (jT _ b)) (BG g (h n (by simp)) ∅)
 exact z a [] h λp b=>by cases b
theorem jw.nn{r:Row}(h:jw r):kW r:=λp a=>⟨(h p a).1,by have:=(h p a).2;lia⟩
theorem zc(a c:Int):∀ (r:Row) (h:Int),kW r->kW (kH a c h r)
 | [],_,_=>λp b=>by cases b
 | q::r,h,g=>by
  intro p b;rw[kH]at b;rcases List.mem_append.mp b with z|z
  ·let b:=g q (by simp);refine⟨?_,Od a c h q p z⟩;unfold Oc at z;split at z
   ·rw[List.mem_singleton.mp z];show 0<=q.1+max (a-h) 0;lia
   ·cases z
  ·exact zc a c r _ (λx b=>g x (jT _ b)) p z
end _gu
namespace _fE
open Spec Rows _L2 _cF
def Le(p q:Int × Int):Prop:=p.1<q.1\/(p.1=q.1/\p.2<=q.2)
instance (p q:Int × Int):Decidable (Le p q):=by unfold Le;infer_instance
def less(p q:Int × Int):Bool:=decide (¬ Le q p)
theorem LG(t:Bool)(x y:Value):keyLt' (tuples' t) x y=(do
  let a ← Builtin.List.listItems x
  let b ← Builtin.List.listItems y
  for ((p,q),i) in (a.toList.zip b.toList).zipIdx do
   if !(← eqBool p q) then return ← oneLt' (t&&i == 0) p q
  return decide (a.size<b.size)):=rfl
def BI{c:Program}{w:World}{A:Around}{E:ZB}{s:Shared}{a b:Int}{t u:Tok}{Q:Bool->Shared->Prop}(k:Bool)(h:Q (decide (a<b)) s):wpAny (model c w) A (oneLt' k (.int a t) (.int b u)) Q E s:=by
 cases k with
 | true=>exact oneLt_int h
 | false =>
  rw[oneLt'_eq];simp only[Bool.false_eq_true,if_false];refine wpAny_bind ((PyProof.Rows.lt_int ?_:wpAny (model c w) A (compareOp .Lt (.int a t) (.int b u)) _ E s));exact wpAny_truthy_bool h
def iB(h:Heap)(v:Value)(p:Int × Int):Prop:=∃ a t u,v=↥a/\IsTup h a (List.toArray [.int p.1 t,.int p.2 u])
def zd{b:Program}{w:World}{A:Around}{E:ZB}{s:Shared}{x y:Value}{p q:Int × Int}{Q:Bool->Shared->Prop}(i:iB s.heap x p)(j:iB s.heap y q)(h:Q (less p q) s):wpAny (model b w) A (keyLt' (tuples' true) x y) Q E s:=by
 let⟨l,c,d,rfl,k⟩:=i;let⟨m,e,f,rfl,l⟩:=j;let⟨o,m,t,u,n⟩:=id k;let⟨t,k,u,v,o⟩:=id l;rw[LG];refine wpAny_bind (listItems_at m n ?_);refine wpAny_bind (listItems_at k o ?_);let r:(((List.toArray [Value.int p.1 c,.int p.2 d]):WF).toList.zip ((List.toArray [Value.int q.1 e,.int q.2 f]):WF).toList).zipIdx=[((.int p.1 c,.int q.1 e),0),((.int p.2 d,.int q.2 f),1)]:=rfl;rw[r];simp only[List.forIn_cons,List.forIn_nil];refine wpAny_bind (wpAny_bind (wpAny_bind (SeqAt.EqAt.int_int p.1 c q.1 e b w _ _ ?_)));by_cases a:p.1=q.1
 ·let g:(!p.1 == q.1)=false:=by simp[a]
  rw[g,if_neg lG];refine wpAny_pure (wpAny_bind (wpAny_bind (SeqAt.EqAt.int_int p.2 d q.2 f b w _ _ ?_)));by_cases c:p.2=q.2
  ·let d:(!p.2 == q.2)=false:=by simp[c]
   rw[d,if_neg lG];refine wpAny_pure (wpAny_pure (wpAny_pure ?_));have:less p q=false:=by unfold less Le;simp[a,c]
   rw[this]at h;exact h
  ·let d:(!p.2 == q.2)=true:=by simp[c]
   rw[d,if_pos rfl];refine wpAny_bind (BI _ (wpAny_pure (wpAny_pure (wpAny_pure ?_))));have:less p q=decide (p.2<q.2):=by unfold less Le;simp[a]
   rw[← this];exact h
 ·let g:(!p.1 == q.1)=true:=by simp[a]
  rw[g,if_pos rfl];refine wpAny_bind (BI _ (wpAny_pure (wpAny_pure (wpAny_pure ?_))))
  have:less p q=decide (p.1<q.1):=by
   unfold less Le;congr 1;apply propext;lia
  rw[← this];exact h
section
variable {prog:Program} {w:World} {A:Around} {E:ZB} {s:Shared} {z:XB} {key:Value->Int × Int}
def kp(key:Value->Int × Int)(a:XB)(i:Nat):Int × Int:=(a[i]?.map λr=>key r.1).getD (0,0)
def Up(key:Value->Int × Int)(a:XB)(n:Nat):Prop:=∀ i j,i<=j->j<n->Le (kp key a i) (kp key a j)
theorem Le.rfl'(p:Int × Int):Le p p:=.inr ⟨1,Int.le_refl _⟩
def Le.tr{p q r:Int × Int}(h:Le p q)(g:Le q r):Le p r:=by unfold Le at *;lia
def Le.Wq{p q:Int × Int}(h:¬ Le p q):Le q p:=by unfold Le at *;lia
theorem HK{p q:Int × Int}(h:less p q=true):¬ Le q p:=of_decide_eq_true h
def Om{p q:Int × Int}(h:less p q=false):Le q p:=by
 unfold less at h;exact Classical.byContradiction λc=>by rw[decide_eq_true c]at h;cases h
theorem Oo(v:Value):firstOfTuple' v=(do
  if (← typeOf v) != .type "q" then return none
  return (← Builtin.List.listItems v)[0]?):=rfl
def HL{M:Model}{v:Value}{p:Int × Int}{Q:Option Value->Shared->Prop}(h:iB s.heap v p)(g:∀ t,Q (⇑(.int p.1 t)) s):wpAny M A (firstOfTuple' v) Q E s:=by
 let⟨d,b,i,rfl,c⟩:=h;let⟨o,a,d,n,e⟩:=id c;rw[Oo];refine wpAny_bind (wpAny_typeOf (T:="q") ⟨o,a,d⟩ ?_);let f:(Value.type "q" != Value.type "q")=false:=by rfl
 rw[f,if_neg lG];exact wpAny_bind (listItems_at a e (wpAny_pure (g b)))
abbrev LH(h:Heap):List Value->List (Int × Int)->Prop:=Paired (iB h)
theorem Oq{M:Model}:∀ {b:Wp} {c:List (Int × Int)} {Q:List (WP)->Shared->Prop},LH s.heap b c->(∀ a:List Value,IntsAre a (c.map (·.1))->Q (a.map some) s)->wpAny M A (b.mapM firstOfTuple') Q E s
 | _,_,_,.nil,g=>by
  rw[List.mapM_nil];exact wpAny_pure (g [] .nil)
 | _,_,_,.cons h r,g=>by
  rw[List.mapM_cons];refine wpAny_bind (HL h λt=>wpAny_bind (Oq r λa d=>wpAny_pure ?_));exact g _ (.cons _ t d)
def ze{M:Model}{a:Wp}{f:List (Int × Int)}{Q:SortKind->Shared->Prop}(h:LH s.heap a f)(n:a≠[])(g:Q (tuples' true) s):wpAny M A (keyKind' a.toArray) Q E s:=by
 rw[keyKind'_eq,List.mapM_toArray];refine wpAny_bind ?_;show wpAny M A (List.toArray <$> a.mapM firstOfTuple') _ E s;rw[map_eq_pure_bind];refine wpAny_bind (Oq h λb c=>wpAny_pure ?_);let i:(b.map some).toArray.all (·.isSome)=true:=by simp
 rw[if_pos i];refine wpAny_bind (wpAny_rule ?_);let i:(b.map some).toArray.filterMap id=b.toArray:=by simp
 rw[i,oneTypeOnly'_eq,List.mapM_toArray,mapM_typeOf_ints c];simp only[map_pure,pure_bind]
 let j:b≠[]:=by
  intro z;subst z
  cases h with
  | nil=>exact n rfl
  | cons _ _=>cases c
 let⟨d,e,rfl⟩:=List.exists_cons_of_ne_nil j;let b:(List.map (λ_=>Value.type "int") (d::e)).toArray[0]?=⇑(Value.type "int"):=by simp
 rw[b]
 let k:((List.map (λ_=>Value.type "int") (d::e)).toArray.all λx=>x == Value.type "int")=true:=by
  simp only[List.all_toArray,List.all_map,List.all_eq_true];intro _ _;rfl
 simp only[k,if_true];refine wpAny_bind (wpAny_pure (wpAny_pure ?_));exact g
def iB.inj{h:Heap}{v:Value}{p q:Int × Int}(c:iB h v p)(d:iB h v q):p=q:=by
 let⟨x,n,o,rfl,r,e,_,s,f⟩:=c;let⟨y,n,o,g,r,a,_,s,b⟩:=d;cases g;rw[e]at a;cases a;rw[f]at b;injection b with a _;let i:=congrArg Array.toList a;injection i with j k;injection k with l _;injection j with m _;injection l with a _;exact Prod.ext m a
open Classical in
noncomputable def jy (h:Heap) (v:Value):Int × Int:=if c:∃ p,iB h v p then c.choose else (0,0)
def ki{h:Heap}{v:Value}{p:Int × Int}(a:iB h v p):jy h v=p:=by
 let c:∃ p,iB h v p:=⟨p,a⟩;unfold jy;rw[dif_pos c];exact c.choose_spec.inj a
def iB.keep{h a:Heap}{v:Value}{p:Int × Int}(d:iB h v p)(k:∀ b o,o.cls=.type "q"->h.get? b=⇑o->a.get? b=⇑o):iB a v p:=by
 let⟨x,e,f,g,o,i,c,r⟩:=d;exact⟨x,e,f,g,o,k x o c i,c,r⟩
theorem LH.mem{h:Heap}:∀ {b:Wp} {c:List (Int × Int)} {v:Value},LH h b c->v∈b->∃ p,iB h v p
 | _,_,_,.nil,m=>by cases m
 | _,_,_,.cons a r,m=>by
  rcases List.mem_cons.mp m with e|e
  ·exact⟨_,by rw[e];exact a⟩
  ·exact LH.mem r e
def lC{a:Wp}{r:Value × Value}(h:r∈a.zip a):r.1∈a/\r.2=r.1:=by
 let⟨i,b,e⟩:=List.getElem_of_mem h;rw[List.getElem_zip]at e;rw[← e];exact⟨List.getElem_mem _,1⟩
end
end _fE
namespace _gu
open Spec Rows _L2 _cF _fC _sM _fE
theorem zf{d:Cx}{e:_L2.St}{H:Hp}{s:Shared}(I:_L2.Inv d q e H s):∀ {c:UV} {row:Row},aY H c row->LH s.heap (c.map Value.ref) row
 | _,_,.nil=>.nil
 | _,_,.cons (a:=a) (b:=p) h r=>by
  refine .cons ?_ (zf I r);let⟨r,b,f,_⟩:=I.tuple (dI.of h);let⟨o,g,i,n,j⟩:=f
  cases b with
  | cons k b =>
   cases b with
   | cons l b =>
    cases b;let⟨m,rfl⟩:=k;let⟨p,rfl⟩:=l;exact⟨a,m,p,1,o,g,i,n,j⟩
theorem BJ:∀ {a:UV} {b:Wp},cD (a.map V.ref) b->b=a.map Value.ref
 | [],_,.nil=>rfl
 | _::a,_,.cons e r=>by
  cases e;rw[BJ r];rfl
theorem vt:∀ a:List Addr,cD (a.map V.ref) (a.map Value.ref)
 | []=>.nil
 | _::a=>.cons rfl (vt a)
def J2:Value->Addr
 | .ref a=>a
 | _=>0
theorem aY.Ot{H:Hp}:∀ {b:UV} {row:Row} {a:Addr},aY H b row->a∈b->∃ p,jN H a p
 | _,_,_,.nil,m=>by cases m
 | _,_,_,.cons h r,m=>by
  rcases List.mem_cons.mp m with e|e
  ·exact⟨_,by rw[e];exact h⟩
  ·exact aY.Ot r e
end _gu
namespace _gu
open Spec Rows _L2 _cF _fC _sM _fE
def In(r:Row)(x:Int):Prop:=∃ p∈r,p.1<=x/\x<p.2
def Ok(r:Row):Prop:=∀ p∈r,p.1<=p.2
theorem xP:∀ {n:Nat} {s x:Int},x∈run s n↔s<=x/\x<s+n
 | 0,s,x=>by simp[run]
 | n+1,s,x=>by
  rw[run,List.mem_cons,xP];lia
def kj{p:Int × Int}{x:Int}:x∈gv p↔p.1<=x/\x<p.2:=by
 unfold gv;rw[xP];lia
def qL{r:Row}{x:Int}:x∈bu r↔In r x:=by
 unfold bu In;rw[List.mem_flatMap];exact⟨λ⟨p,a,b⟩=>⟨p,a,kj.mp b⟩,λ⟨p,a,b⟩=>⟨p,a,kj.mpr b⟩⟩
theorem CO{x:Int}:¬ In [] x:=λ⟨_,h,_⟩=>by cases h
def nF{r q:Row}{x:Int}:In (r++q) x↔In r x\/In q x:=by
 unfold In;constructor
 ·rintro⟨p,a,h⟩;exact (List.mem_append.mp a).elim (λz=>.inl ⟨p,z,h⟩) λz=>.inr ⟨p,z,h⟩
 ·rintro (⟨p,a,h⟩|⟨p,a,h⟩)
  ·exact⟨p,lQ _ a,h⟩
  ·exact⟨p,kJ _ a,h⟩
def HM{p:Int × Int}{x:Int}:In [p] x↔p.1<=x/\x<p.2:=by
 unfold In;constructor
 ·rintro⟨q,a,h⟩;rw[List.mem_singleton.mp a]at h;exact h
 ·intro h;exact⟨p,by simp,h⟩
def RO{r q:Row}(h:r.Perm q){x:Int}:In r x↔In q x:=by
 unfold In;constructor
 ·rintro⟨p,a,g⟩;exact⟨p,h.mem_iff.mp a,g⟩
 ·rintro⟨p,a,g⟩;exact⟨p,h.mem_iff.mpr a,g⟩
def Ou{r:Row}(a:Ok r){x:Int}:In (cE r) x↔In r x:=by rw[← qL,← qL,j6 r a]
def EY(r:Row):Prop:=r.Pairwise (λp q=>p.2<q.1)/\∀ p∈r,p.1<p.2
theorem EY.ok{r:Row}(h:EY r):Ok r:=λp a=>Int.le_of_lt (h.2 p a)
def Ov{a:UF}{x:Int}:In (cL a) x↔x∈a:=by rw[← qL,eT]
def fO(t:Row)(p:Int × Int):Row :=
 match t.getLast? with
 | some l=>if p.1<=l.2 then t.dropLast++[(l.1,if p.2 > l.2 then p.2 else l.2)] else t++[p]
 | none=>t++[p]
def sN(t:Row){l p:Int × Int}(h:p.1<=l.2):fO (t++[l]) p=t++[(l.1,if p.2 > l.2 then p.2 else l.2)]:=by
 unfold fO;rw[lS];show (if p.1<=l.2 then (t++[l]).dropLast++[(l.1,if p.2 > l.2 then p.2 else l.2)] else _)=_;rw[if_pos h,List.dropLast_concat]
def sO(t:Row){l p:Int × Int}(h:¬ p.1<=l.2):fO (t++[l]) p=t++[l]++[p]:=by
 unfold fO;rw[lS];show (if p.1<=l.2 then (t++[l]).dropLast++[(l.1,if p.2 > l.2 then p.2 else l.2)] else t++[l]++[p])=_;rw[if_neg h]
def Ow(L:Row):∀ t:Row,↑(L.foldl fO t)<=↑t+↑L:=by
 induction L with
 | nil=>intro t;simp
 | cons p L a =>
  intro t;rw[jY,jH];let b:=a (fO t p)
  let b:↑(fO t p)<=↑t+1:=by
   rcases kZ t with rfl|⟨c,q,rfl⟩
   ·exact d7 _
   ·rw[jI];by_cases c:p.1<=q.2
    ·rw[sN _ c,cR,cR,gW,gW];lia
    ·rw[sO _ c,cR,cR];exact d7 _
  lia
def RP:∀ (L t:Row),L.Pairwise Le->(∀ p∈L,p.1<p.2)->EY t->(∀ l∈t.getLast?,∀ p∈L,l.1<=p.1)->EY (L.foldl fO t)/\∀ x,In (L.foldl fO t) x↔In t x\/In L x:=by
 intro L
 induction L with
 | nil=>intro t _ _ h _;exact⟨h,λx=>⟨.inl,λz=>z.elim id λw=>absurd w CO⟩⟩
 | cons p L u =>
  intro t v i j k;let⟨y,A⟩:=List.pairwise_cons.mp v;let m:=i p (by simp);let lo:∀ q∈L,p.1<=q.1:=λq a=>by have:=y q a;unfold Le at this;lia
  let step:EY (fO t p)/\(∀ x,In (fO t p) x↔In t x\/In [p] x)/\∀ l∈(fO t p).getLast?,l.1<=p.1:=by
   rcases kZ t with rfl|⟨B,q,rfl⟩
   ·refine⟨⟨by simp[fO],λr b=>by rw[List.mem_singleton.mp b];exact m⟩,λx=>?_,λl h=>?_⟩
    ·show In [p] x↔_;exact⟨.inr,λz=>z.elim (λw=>absurd w CO) id⟩
    ·have:p=l:=by simpa [fO] using h
     rw[← this];exact Int.le_refl _
   ·rw[jI]at j k ⊢;let⟨n,c⟩:=j;let⟨w,j,o⟩:=List.pairwise_append.mp n;let j:=c q (by simp);let C:=k q (by rw[lS];rfl) p (by simp);by_cases s:p.1<=q.2
    ·rw[sN _ s];refine⟨⟨List.pairwise_append.mpr ⟨w,by simp,λd f D g=>?_⟩,λr b=>?_⟩,λx=>?_,λl h=>?_⟩
     ·rw[List.mem_singleton.mp g];exact o d f q (by simp)
     ·rcases List.mem_append.mp b with e|e
      ·exact c r (lQ _ e)
      ·rw[List.mem_singleton.mp e];show q.1<(if p.2 > q.2 then p.2 else q.2)
       split <;> omega
     ·rw[nF,nF,HM,HM,HM];show In B x\/(q.1<=x/\x<(if p.2 > q.2 then p.2 else q.2))↔_;constructor
      ·rintro (z|z)
       ·exact .inl (.inl z)
       ·by_cases e:x<q.2
        ·exact .inl (.inr ⟨z.1,e⟩)
        ·refine .inr ⟨by lia,?_⟩;have:=z.2
         split at this <;> omega
      ·rintro ((z|z)|z)
       ·exact .inl z
       ·refine .inr ⟨z.1,?_⟩
        split <;> lia
       ·refine .inr ⟨by lia,?_⟩
        split <;> lia
     ·rw[lS]at h;have:(q.1,if p.2 > q.2 then p.2 else q.2)=l:=by simpa using h
      rw[← this];exact C
    ·rw[sO _ s];refine⟨⟨List.pairwise_append.mpr ⟨n,by simp,λd f D g=>?_⟩,λr b=>?_⟩,λx=>nF,λl h=>?_⟩
     ·rw[List.mem_singleton.mp g];rcases List.mem_append.mp f with e|e
      ·have:=o d e q (by simp);lia
      ·rw[List.mem_singleton.mp e];lia
     ·rcases List.mem_append.mp b with e|e
      ·exact c r e
      ·rw[List.mem_singleton.mp e];exact m
     ·rw[lS]at h;have:p=l:=by simpa using h
      rw[← this];exact Int.le_refl _
  let⟨b,c⟩:=u (fO t p) A (λq a=>i q (jT _ a)) step.1 λl h q a=>Int.le_trans (step.2.2 l h) (lo q a);refine⟨b,λx=>?_⟩;rw[jY,c,step.2.1];have e:In (p::L) x↔In [p] x\/In L x:=nF (r:=[p]) (q:=L);rw[e];exact or_assoc
def LJ{L a:Row}(h:L.Perm a)(g:L.Pairwise Le)(c:∀ p∈a,p.1<p.2):EY (L.foldl fO [])/\∀ x,In (L.foldl fO []) x↔In a x:=by
 let⟨d,e⟩:=RP L [] g (λp b=>c p (h.mem_iff.mp b)) ⟨.nil,λp b=>by cases b⟩ (λl b=>by simp at b);refine⟨d,λx=>?_⟩;rw[e,RO h];exact⟨λz=>z.elim (λw=>absurd w CO) id,.inr⟩
end _gu
namespace _gu
open Spec Rows _L2 _cF _fC _sM _fE
def Wr(r:Row)(x:Int):Bool:=r.any λp=>decide (p.1<=x)&&decide (x<p.2)
def nV{r:Row}{x:Int}:Wr r x=true↔In r x:=by
 unfold Wr In;rw[List.any_eq_true];constructor
 ·rintro⟨p,a,h⟩;rw[Bool.and_eq_true]at h;exact⟨p,a,of_decide_eq_true h.1,of_decide_eq_true h.2⟩
 ·rintro⟨p,a,b,c⟩;exact⟨p,a,by rw[Bool.and_eq_true];exact⟨decide_eq_true b,decide_eq_true c⟩⟩
def iC(r:Row)(a:UF):UF:=a.filter λx=>!Wr r x
def vv{r:Row}{a:UF}(h:∀ x∈a,¬ In r x):iC r a=a:=by
 unfold iC;rw[List.filter_eq_self];intro x b
 cases e:Wr r x with
 | false=>rfl
 | true=>exact absurd (nV.mp e) (h x b)
def HN{r:Row}{a:UF}(h:∀ x∈a,In r x):iC r a=[]:=by
 unfold iC;rw[List.filter_eq_nil_iff];intro x b;rw[nV.mpr (h x b)];simp
def qc{r q:Row}{a:UF}(h:∀ x∈a,In r x↔In q x):iC r a=iC q a:=by
 unfold iC;refine List.filter_congr λx b=>?_
 cases e:Wr r x with
 | true=>rw[nV.mpr ((h x b).mp (nV.mp e))]
 | false =>
  cases c:Wr q x with
  | true=>rw[nV.mpr ((h x b).mpr (nV.mp c))]at e;cases e
  | false=>rfl
def nX(r:Row)(a b:UF):iC r (a++b)=iC r a++iC r b:=by unfold iC;rw[List.filter_append]
def lo(b:Int):Int->Row->Row
 | l,[]=>[(l,b)]
 | l,p::r=>if p.1<b then (l,if p.1 > l then p.1 else l)::lo b (if b<p.2 then b else p.2) r else [(l,b)]
def EZ{a b c:Int}(h:a<=b)(g:b<=c):gv (a,c)=gv (a,b)++gv (b,c):=by
 unfold gv;show run a (c-a).toNat=run a (b-a).toNat++run b (c-b).toNat;let e:(c-a).toNat=(b-a).toNat+(c-b).toNat:=by lia
 rw[e]
 let z:∀ (n m:Nat) (s:Int),run s (n+m)=run s n++run (s+n) m:=by
  intro n
  induction n with
  | zero=>intro m s;simp[run]
  | succ n d =>
   intro m s;rw[Nat.succ_add,run,run,d,List.cons_append];congr 3;lia
 rw[z];congr 2;lia
theorem Uv(b:Int):∀ (r:Row) (l:Int),l<=b->(∀ p∈r,l<p.2)->EY r->Ok (lo b l r)/\bu (lo b l r)=iC r (gv (l,b))/\(∀ p∈lo b l r,l<=p.1)
 | [],l,h,_,_=>by
  refine⟨λp a=>?_,?_,λp a=>?_⟩
  ·rw[List.mem_singleton.mp a];exact h
  ·rw[vv λx _=>CO];exact fF _
  ·rw[List.mem_singleton.mp a];exact Int.le_refl _
 | p::r,l,h,s,R=>by
  rw[lo];let t:=R.2 p (by simp);let t:=s p (by simp);let⟨n,u⟩:=List.pairwise_cons.mp R.1;by_cases o:p.1<b
  ·rw[if_pos o];obtain⟨m,s⟩:∃ m,m=(if p.1 > l then p.1 else l):=⟨Y⟩;obtain⟨k,t⟩:∃ k,k=(if b<p.2 then b else p.2):=⟨Y⟩;rw[← s,← t]
   let g:l<=m/\m<=k/\k<=b/\p.1<=m/\k<=p.2/\(m=l\/m=p.1)/\(k=b\/k=p.2):=by
    rw[s,t]
    split <;> split <;> lia
   let⟨v,w,y⟩:=Uv b r k g.2.2.1 (λq a=>by have:=n q a;have:=R.2 q (jT _ a);lia) ⟨u,λq a=>R.2 q (jT _ a)⟩;refine⟨λq a=>?_,?_,λq a=>?_⟩
   ·rcases List.mem_cons.mp a with e|e
    ·rw[e];exact g.1
    ·exact v q e
   ·let e:bu ((l,m)::lo b k r)=gv (l,m)++bu (lo b k r):=by unfold bu;rw[jb]
    rw[e,w,EZ (a:=l) (b:=m) (c:=b) g.1 ∅,EZ (a:=m) (b:=k) (c:=b) g.2.1 g.2.2.1,nX,nX]
    let z:iC (p::r) (gv (l,m))=gv (l,m):=vv λx d=>by
     let f:=kj.mp d;rintro⟨q,a,i,j⟩;rcases List.mem_cons.mp a with c|c
     ·rw[c]at i;simp only at f;lia
     ·have:=n q c;simp only at f;lia
    let A:iC (p::r) (gv (m,k))=[]:=HN λx d=>⟨p,by simp,by have:=(kj.mp d).1;simp only at this;lia,by have:=(kj.mp d).2;simp only at this;lia⟩
    let B:iC (p::r) (gv (k,b))=iC r (gv (k,b)):=qc λx d=>by
     let f:=kj.mp d;simp only at f;constructor
     ·rintro⟨q,a,i,j⟩;rcases List.mem_cons.mp a with c|c
      ·rw[c]at j;lia
      ·exact⟨q,c,i,j⟩
     ·rintro⟨q,a,c⟩;exact⟨q,jT _ a,c⟩
    rw[z,A,B,List.nil_append]
   ·rcases List.mem_cons.mp a with e|e
    ·rw[e];exact Int.le_refl _
    ·have:=y q e;lia
  ·rw[if_neg o];refine⟨λq a=>?_,?_,λq a=>?_⟩
   ·rw[List.mem_singleton.mp a];exact h
   ·rw[vv λx d=>?_]
    ·exact fF _
    ·let f:=kj.mp d;simp only at f;rintro⟨q,a,i,j⟩;rcases List.mem_cons.mp a with c|c
     ·rw[c]at i;lia
     ·have:=n q c;lia
   ·rw[List.mem_singleton.mp a];exact Int.le_refl _
theorem Ox(b:Int):∀ (r:Row) (l:Int),↑(lo b l r)<=↑r+1
 | [],_=>d7 _
 | p::r,l=>by
  rw[lo];split
  ·rw[jH,jH];have:=Ox b r (if b<p.2 then b else p.2);lia
  ·simp
def e'(a:Row)(x:Int)(n:Nat):Prop:=n<=↑a/\(∀ i p,a[i]?=⇑p->i<n->p.2<=x)/\∀ i p,a[i]?=⇑p->n<=i->x<p.2
def e'.drop{c:Row}{x:Int}{n:Nat}(h:e' c x n):(∀ p∈c.drop n,x<p.2)/\∀ y,x<=y->(In c y↔In (c.drop n) y):=by
 refine⟨λp a=>?_,λy b=>⟨λz=>?_,λz=>?_⟩⟩
 ·let⟨i,b⟩:=List.getElem?_of_mem a;rw[List.getElem?_drop]at b;exact h.2.2 _ p b ∅
 ·let⟨p,a,d,e⟩:=z;let⟨i,b⟩:=List.getElem?_of_mem a;by_cases f:i<n
  ·have:=h.2.1 i p b f;lia
  ·refine⟨p,mL (i:=i-n) ?_,d,e⟩;rw[List.getElem?_drop,show n+(i-n)=i by lia];exact b
 ·let⟨p,a,q⟩:=z;exact⟨p,List.mem_of_mem_drop a,q⟩
theorem EY.drop{r:Row}(h:EY r)(n:Nat):EY (r.drop n):=⟨h.1.drop,λp a=>h.2 p (List.mem_of_mem_drop a)⟩
class inductive RQ
 | mk (r:Addr) (a:Row) (x:Int) (_:vs=[↥r,.int x]) (_:bP H r a) (_:EY a) (_: ∀ n:Nat,e' a x n->Q (.int n) H)
class inductive Ws
 | mk (r:Addr) (c:Row) (a b:Int) (_:vs=[.int a,.int b,↥r]) (_:bP H r c) (_:EY c) (_:↑c<=100000) (_:a<=b) (_ :
 ∀ (q:Addr) (L:Row) (d:Hp),bP d q L->Ok L->bu L=iC c (gv (a,b))->(∀ p∈L,a<=p.1)->↑L<=↑c+1->aH H d->H q=none->Q ↥q d)
end _gu
namespace _gu
open Spec Rows _L2 _cF _fC _sM _Wn
structure dF(K:Frag)(C:Addr)(m fH:Str)(st:Stmt)(ps:Uf)(a:Addr)(d:FuncData):Prop where
 F:NL K m fH st a d
 b:Binds K d ps []
 mt:Nm K C m a
structure ClsAt(K:Frag)(mg:X1)(x:Str)(C fi:Addr):Prop where
 cl:MN K C
 m:mg x=⇑↥C
 Yc:Mk K C fi
def bP.obj{H a:Hp}{r x f:Addr}{b:Row}{g:List (Str × V)}(h:bP H r b)(c:H x=⇑(.ins C f g))(s:cB x H a):bP a r b:=by
 let⟨e,d,i⟩:=h;exact⟨e,s _ _ d (cP d c),i.tups λd i e=>s d _ e (cP e c)⟩
end _gu
namespace _gu
open _L2 _cF _fC
section
variable {p:List Value->Prop}
theorem fb(h:p []):∀ a:List Value,↑a=0->p a:=λa e=>by rw[List.length_eq_zero_iff.mp e];exact h
def Yd{n:Nat}(h:∀ b (a:Wp),↑a=n->p (b::a)):∀ a:List Value,↑a=n+1->p a:=by
 intro a e
 cases a with
 | nil=>cases e
 | cons b a=>exact h b a (Nat.succ.inj e)
theorem fe(h:∀ a,p [a]):∀ b:List Value,↑b=1->p b:=Yd λa=>fb (p:=λb=>p (a::b)) (h a)
theorem fg(h:∀ a c,p [a,c]):∀ b:List Value,↑b=2->p b:=Yd λa=>fe (p:=λb=>p (a::b)) (h a)
theorem ft(h:∀ a c d,p [a,c,d]):∀ b:List Value,↑b=3->p b:=Yd λa=>fg (p:=λb=>p (a::b)) (h a)
theorem fu(h:∀ a c d e,p [a,c,d,e]):∀ b:List Value,↑b=4->p b:=Yd λa=>ft (p:=λb=>p (a::b)) (h a)
theorem fv(h:∀ a c d e f,p [a,c,d,e,f]):∀ b:List Value,↑b=5->p b:=Yd λa=>fu (p:=λb=>p (a::b)) (h a)
theorem gq(h:∀ a c d e f g,p [a,c,d,e,f,g]):∀ b:List Value,↑b=6->p b:=Yd λa=>fv (p:=λb=>p (a::b)) (h a)
end
section
variable {K:Frag} {mg:X1} {h:Heap} {x fH:Str} {st:Stmt} {f C:Addr} {ps:Uf}
def DI.d(q:DI K x st f)(b:K.In h)(G:h.Ns mainGlobals mg)(c:∀ (kV e g:Value) (i:Option Addr) (j k:Value) (a:Wp),↑a=↑ps->bindArgs (fnOf x x (mR st) (ju st) (cy st) .none kV e g i j k) ⟨a,[]⟩=pure (ps.zip a):=by bv_decide):∃ l,cA K mg x st ps f l:=by
 let⟨d,m,n,o⟩:=q;let F:=Hj m n o;exact⟨_,F,F.binds c,mg_of b G d⟩
def MI.d(q:MI K C x fH st f)(b:∀ (kV c e:Value) (g:Option Addr) (i j:Value) (a:Wp),↑a=↑ps->bindArgs (fnOf x fH (mR st) (ju st) (cy st) .none kV c e g i j) ⟨a,[]⟩=pure (ps.zip a):=by bv_decide):∃ l,dF K C x fH st ps f l:=by
 let⟨d,h,m,n,k⟩:=q;let F:=Hj m n k;exact⟨_,F,F.binds b,⟨d,h,k⟩⟩
def CI.d(q:CI K x C)(a:K.In h)(G:h.Ns mainGlobals mg)(m:Nm K C "s" b):ClsAt K mg x C b:=by
 let⟨c,d,e,f,g,mk,i⟩:=q;let⟨j,k,l⟩:=m;exact⟨⟨d,e,f,g⟩,mg_of a G c,⟨mk,j,k,i⟩⟩
end
end _gu
namespace _cF
open Spec Rows _L2
theorem nY{a b:Type}{c:a->b->Prop}:∀ {d:List a} {f:List b} {i:Nat} {x:a},Paired c d f->d[i]?=⇑x->∃ y,f[i]?=⇑y/\c x y
 | _,_,_,_,.nil,e=>by simp at e
 | _,_,0,_,.cons r _,e=>by simp at e;subst e;exact⟨Y,r⟩
 | _,_,i+1,x,.cons _ t,e=>by
  let⟨y,g,h⟩:=nY (i:=i) (x:=x) t (by simpa using e);exact⟨y,by simpa using g,h⟩
theorem qe{b a:Type}{c:b->a->Prop}:∀ {d:List b} {f:List a} {i:Nat} {y:a},Paired c d f->f[i]?=⇑y->∃ x,d[i]?=⇑x/\c x y
 | _,_,_,_,.nil,e=>by simp at e
 | _,_,0,_,.cons r _,e=>by simp at e;subst e;exact⟨Y,r⟩
 | _,_,i+1,y,.cons _ t,e=>by
  let⟨x,g,h⟩:=qe (i:=i) (y:=y) t (by simpa using e);exact⟨x,by simpa using g,h⟩
end _cF
namespace _cF
open Spec Rows _L2 _gu _sM
def Wu(d e f:TE):TE:=fun a H Q=>d a H λx c=>∃ b,x=↥b/\e9 c b/\e a c λy c=>f a c λz c=>∃ a k,c b=⇑(.dK a)/\y=kV k/\↑a<sizeLine/\
 (∀ v,cG a k=⇑v->Q v c)/\(cG a k=none->Q z (aL c b (.dK (dP a k z))))
def Oz{a:Cx}{o e f:Expr}{l n p:TE}(y:PE a o l)(A:PE a e n)(B:PE a f p)(m:M2 a o "setdefault" C e f D):PE a (.Call (.Attribute o "setdefault" C) [e,f] [] D) (Wu l n p):=by
 intro g s h H Q I F;refine wpAny_Call_method m.zt m.few m.line PySem.F.plainAttrs_dict PySem.F.slot_dict_setdefault PySem.F.type_dict_setdefault (dB (y g s h H _ I F) λG J F=>?_);let⟨H,L,q,M,i,N,O,R⟩:=F;subst N;obtain rfl:G=Value.ref i:=M;let⟨F,G,_⟩:=Of q O;exists F,G;rw[m.trees]
 refine Calls.callWith_builtin rfl (Calls.evalArgs_plain (Calls.spliced_cons (dB (A g J h L _ q R) λI q ⟨J,F,G,S,H⟩ =>
  Calls.spliced_cons (dB (B g q h F _ G H) λb d ⟨z,T,j,t,c,k,u,U,g,W,X⟩=>Calls.spliced_nil ?_))))
 subst U;let⟨q,v,h,d,g⟩:=EL j.hok u;let q:=↑d;refine call_meetsIn PySem.F.slot_dict_setdefault g.typeIs PySem.F.entry_dict_setdefault (PySem.F.args_dict_setdefault_3 _ _ _) (kt_meets_setdefault (ff a.prog a.w) i (yT S) v b) ⟨h,g,by lia,λh g=>?_,λhn h' x hs=>?_⟩
 ·let r:=d.val k;rw[g]at r
  cases b:cG c k with
  | none=>rw[b]at r;exact (show False from r).elim
  | some w =>
   rw[b]at r;exact⟨w,T,j.tok _,r,W w b⟩
 ·let r:=d.val k;rw[hn]at r
  cases b:cG c k with
  | some w=>rw[b]at r;exact (show False from r).elim
  | none =>
   let g:↑(dP c k z)<=sizeLine:=by have:=iy c k z;lia
   let c:∃ q,h'.get? i=⇑q:=let ⟨q,E,h,_⟩:=x;⟨q,h⟩;exact⟨z,_,xN j (by rw[u];exact True.intro) hs c (Hx g v (d.put k t) x),t,X b⟩
end _cF
namespace _cF
open Spec Rows _L2
end _cF
namespace _cF
open Spec Rows _L2 _gu _sM
end _cF
namespace _fC
open Spec Rows PySem.W _L2
end _fC
namespace _cF
open Spec Rows _L2 _fC
def BK(c:Nat):V:=.str ⟨(List.toArray [c])⟩
def gc(a:List Nat):Str:=⟨a.toArray⟩
def qf(x:Str):gc x.cps.toList=x:=by cases x;rfl
def nZ(a:List Nat):↑(gc a)=↑a:=by show (a.toArray).size=_;simp
def RT{a b:List Nat}(h:gc a=gc b):a=b:=by
 let e:=congrArg (λx:Str=>x.cps.toList) h;simpa [gc] using e
theorem J3:∀ {a:List Nat} {b:Wp},cD (a.map BK) b->StrsAre b (a.map λc=>(⟨(List.toArray [c])⟩:Str))
 | [],_,.nil=>.nil
 | c::a,_,.cons ⟨t,e⟩ r=>by
  subst e;exact .cons _ t (J3 r)
def HP(a:List Nat):Txt.join (Str.ofString "") (a.map λc=>(⟨(List.toArray [c])⟩:Str))=gc a:=by
 let e:Txt.join (Str.ofString "") (a.map λc=>(⟨(List.toArray [c])⟩:Str))=Str.join (Str.ofString "") (a.map λc=>(⟨(List.toArray [c])⟩:Str)):=by
  let z:=join_plain_closes (Str.ofString "") (a.map λc=>(⟨(List.toArray [c])⟩:Str));exact beq_iff_eq.mp z
 rw[e];let b:(Str.ofString "")=(⟨#[]⟩:Str):=by decide +kernel
 rw[b];clear e b
 induction a with
 | nil=>rfl
 | cons c a f =>
  cases a with
  | nil=>rfl
  | cons d a =>
   rw[jo]at f;let s:Str.join ⟨#[]⟩ ((c::d::a).map λc=>(⟨(List.toArray [c])⟩:Str))=Str.append (Str.append ⟨(List.toArray [c])⟩ ⟨#[]⟩) (Str.join ⟨#[]⟩ ((⟨(List.toArray [d])⟩:Str)::a.map λc=>(⟨(List.toArray [c])⟩:Str))):=rfl;rw[s,f];show (⟨((List.toArray [c])++#[])++(d::a).toArray⟩:Str)=⟨(c::d::a).toArray⟩;simp
theorem BL:∀ a:List Nat,(a.map ((λx:Str=>↑x) ∘ λc=>(⟨(List.toArray [c])⟩:Str))).sum=↑a
 | []=>rfl
 | c::a=>by rw[jo,List.sum_cons,BL a,jH];show 1+_=_;lia
theorem all_range:∀ a:List Bool,(List.range ↑a).all (λi=>a.getD i false)=a.all id
 | []=>rfl
 | b::a=>by
  rw[jH,List.range_succ_eq_map,List.all_cons,List.all_map,List.all_cons,← all_range a];rfl
section
variable {X:Cx}
def As(p:X.calm=true):jm X (.type "g") (λi H Q=>∃ a:List Nat,i=[.str (gc a)]/\↑a<=sizeLine/\∀ l,H l=none->Q ↥l (aL H l (.lst (a.map BK)))):=by
 intro A s B H i b Q I r q;let⟨a,rfl,k,t⟩:=q;let⟨u,rfl,w,rfl⟩:=r.one;refine call_list_str (I.ok.hd p) (gc a) w (hn:=by show a.toArray.size<=_;simpa using k) λA q m e r w n=>?_;refine⟨↥s⁻¹,_,I.laid (o:=.lst (a.map BK)) (t':=q) r (d7 _) ⟨by rw[cC];exact k,m.toList,e,?_,by simpa using w⟩,1,t _ (I.hok.fresh (d7 _))⟩
 let x:∀ (a:List Nat) (b:Wp),↑b=↑a->(∀ (j:Nat) (v:Value),b[j]?=⇑v->∃ c u,a[j]?=⇑c/\v=Value.str ⟨(List.toArray [c])⟩ u)->cD (a.map BK) b:=by
  intro a
  induction a with
  | nil=>intro b d _;cases b with
   | nil=>exact .nil
   | cons=>simp at d
  | cons c a y=>intro b d o;cases b with
   | nil=>simp at d
   | cons u b =>
    let⟨e,z,f,g⟩:=o 0 u rfl;refine .cons ?_ (y b (by simpa using d) λj v h=>by simpa using o (j+1) v (by simpa using h));have:c=e:=by simpa using f
    subst this;exact⟨z,g⟩
 refine x a m.toList (by have:=n.1;simpa [gc] using this) λj v h=>?_;let⟨c,u,f,g⟩:=n.2 j v (by simpa using h);exact⟨c,u,by simpa [gc] using f,g⟩
def OA:VM X "str.join" (λx b H Q=>∃ (l:Addr) (a:List Nat),x=.str ""/\b=[↥l]/\H l=⇑(.lst (a.map BK))/\↑a<=1000000/\Q (.str (gc a)) H):=by
 intro g s i H x b v j Q I c d h;let⟨l,a,rfl,rfl,e,g,q⟩:=h;let⟨t,rfl⟩:=c;let⟨u,rfl,f⟩:=d.one;cases (show u=Value.ref l from f);let⟨f,c,d,_⟩:=I.list (bI.of (K:=X.K) e);refine join_list d.isList (J3 c) ?_ λc k=>?_
 ·rw[List.map_map];let d:↑(Str.ofString "")=0:=by decide +kernel
  let e:=BL a;rw[d,e];lia
 ·rw[HP];exact⟨.str (gc a),H,I.tok _,⟨c,1⟩,q⟩
def LK(k:X.calm=true):jm X (.builtin "all") (λf H Q=>∃ (p:Addr) (a:List Bool),f=[↥p]/\bI X.K H p (a.map V.bl)/\Q (.bl (a.all id)) H):=by
 intro B s C H f D Q I r l;let⟨p,a,rfl,m,q⟩:=l;let⟨u,rfl,n⟩:=r.one;cases (show u=Value.ref p from n);let⟨b,g,l,n⟩:=I.list m;let h:=↑g;rw[cC]at h;let d:=l.isList
 let l:p<s⁻¹:=by
  let⟨o,c,_⟩:=d;exact Heap.lt_size c
 refine call_all_walk (wpAny_pyIter_list d ?_);refine⟨s⁻¹,[s⁻¹,p],[s⁻¹],b.toArray.size,E,λi=>a.getD i false,1,Walks.list (A:=X.A.in1) (I.ok.hd k) s⁻¹ p (jc l) b.toArray,⟨⟨_,Heap.get?_push_size _ rfl,V⟩,d.at λo e=>Heap.get?_push_of_some _ e⟩,λi v t w l d x=>?_,λl m y=>?_⟩
 ·let l:b[i]?=⇑v:=by simpa using d
  let⟨d,j,z⟩:=qe g l;rw[gj]at j;let⟨c,A,rfl⟩:=Option.map_eq_some_iff.mp j;cases (show v=Value.bool c from z);refine wpAny_truthy_bool ?_;let e:a.getD i false=c:=by rw[List.getD_eq_getElem?_getD,A];rfl
  let d:w (a.getD i false) t:=x;rw[e]at d;exact d
 ·let e:(List.range b.toArray.size).all (λi=>a.getD i false)=a.all id:=by
   rw[gZ,← h];exact all_range a
  rw[e];exact⟨.bl (a.all id),H,I.kept λc o e=>y c o (λz=>by rw[List.mem_singleton.mp z]at e;exact absurd (Heap.lt_size e) (Nat.lt_irrefl _)) (Heap.get?_push_of_some _ e),1,q⟩
def OB(r e f:R2)(g h i j:TE):TE:=fun a H Q=>g a H λx b=>h a b λy b=>r x y b λz b=>∃ k,z=.bl k/\
 (if k=true then i a b λu c=>e y u c λk c=>∃ d,k=.bl d/\(if d=true then j a c λv a=>f u v a Q else Q (.bl false) c) else Q (.bl false) b)
theorem LL{c d e:CmpOp}{r i j:R2}{k f g h:Expr}{l m n o:TE}(A:tH X (compareOp c) r)(B:tH X (compareOp d) i)(C:tH X (compareOp e) j)(D:PE X k l)(G:PE X f m)(H:PE X g n)(I:PE X h o)
  (J:lastMarks [c,d,e] [f,g,h]=false:=by with_unfolding_all rfl):PE X (.Compare k [c,d,e] [f,g,h] ab) (OB r i j l m n o):=by
 intro a s b F Q L M
 refine Compare_chain (dB (D a s b F _ L M) λF L ⟨M,N,O,R,S⟩=>chain_link (dB (G a L b N _ O S) λu L ⟨y,N,O,p,S⟩ =>
  dB (A a L b N M y F u _ O R p S) λz w ⟨x,q,t,T,U,W,v⟩=>?_)) J
 subst W;cases T;refine wpAny_truthy_bool ?_
 cases U with
 | false=>exact ite_ff ⟨.bl false,q,t,1,v⟩
 | true =>
  refine ite_tt (chain_link (dB (H a w b q _ t v) λq F ⟨t,L,M,v,N⟩=>dB (B a F b L y t u q _ M p v N) λu s5 p=>?_));let⟨u,w,x,r5,k5,e5,z⟩:=p;subst e5;cases r5;refine wpAny_truthy_bool ?_
  cases k5 with
  | false=>exact ite_ff ⟨.bl false,w,x,1,z⟩
  | true=>exact ite_tt (chain_last (dB (I a s5 b w _ x z) λp u ⟨w,x,y,z,F⟩=>C a u b x t w q p Q y v z F))
end
def fw(a:List Nat):It:=⟨λi _=>i<↑a,λi H x b=>b=H/\∃ c,a[i]?=⇑c/\x=BK c,λi _=>i=↑a⟩
theorem E1{P:Program}{w:World}{K:Frag}{a:Addr}{b:List Nat}{t:Tok}{g:String}(W:∀ C:Around,C.handled=none->Walks P w C a [a] [a] (gc b).cps.size (SignAt (gc b)) (λi h=>h.IsStrIter a g (gc b) t i))
  (J:∀ (L:Around) (i:Nat) (s:Shared) (Q:ZB) (E:ZB),s.heap.IsStrIter a g (gc b) t i->Q ↥a s->wpAny (model P w) L (pyIter ↥a) Q E s)
  (M:["enumerate","zip","dict_itemiterator","R","odict_iterator","2","itertools.pairwise"].contains g=false):GX P w K tg (fw b) [a] a (λi h=>h.IsStrIter a g (gc b) t i) where
 mem:=by simp
 obj:=λi h c d f=>by
  let e:d=a:=by simpa using f
  subst e;let⟨o,e,l,j⟩:=c;exact⟨o,e,λN z=>by rw[j]at z;cases z⟩
 keep:=λi h j c O=>by
  let⟨o,e,r⟩:=c;exact⟨o,O a (by simp) o e,r⟩
 item:=by
  intro X m n p q i D s F H E I k c r;subst m n p;let⟨u,v,R,x,y,z⟩:=k a (by simp)
  let O:i<(gc b).cps.size:=by
   show i<b.toArray.size;rw[gZ];exact r
  refine (W X.A (I.ok.hd q)).item i s _ _ O c λN j A S G B=>?_;let⟨l,T,U,rfl⟩:=S;have N:Inv X D F H { s with heap:=j,toks:=A }:=I.turned (λd o f e=>B d o (by simpa using f) e) u v x y z;let⟨S,e,o,O⟩:=id G;exact⟨Y,Eh (s:={ s with heap:=j,toks:=A }) e o O M ⟨BK l,H,N,⟨T,1⟩,⟨1,l,by simpa [gc] using U,1⟩,G,λd f=>(k d f).1⟩⟩
 done:=by
  intro X m n p q i D s F H E I k c r;subst m n p;let⟨u,v,R,x,y,z⟩:=k a (by simp)
  let e:i=(gc b).cps.size:=by
   show i=b.toArray.size;rw[gZ];exact r
  rw[e]at c;exact (W X.A (I.ok.hd q)).done s _ _ c λj A B=>⟨1,I.turned (λd o f e=>B d o (by simpa using f) e) u v x y z⟩
 self:=J
def oP(b:TE):TI:=fun a H R=>b a H λx c=>∃ a,x=.str (gc a)/\R (fw a) c
def Wv{d:Cx}{l:Expr}{i:TE}(n:PE d l i):PI d x l (oP i):=by
 intro j s o H R I h;refine dB (n j s o H _ I h) λr a o=>?_;let⟨y,f,c,p,r⟩:=o;let⟨u,e,q⟩:=r;subst e;let⟨t,rfl⟩:=p
 let k:∀ b∈[a⁻¹],nR d j f b:=λb j=>by
  let e:b=a⁻¹:=by simpa using j
  subst e;exact c.KO (d7 _) (c.hok.fresh (d7 _))
 cases m:(gc u).cps.all (·<128) with
 | true=>exact wpAny_pyIter_ascii m ⟨a⁻¹,[a⁻¹],E,f,1,c.kept (t':=a.toks) λb v e=>Heap.get?_push_of_some _ e,E1 (t:=t) (λw g=>Walks.strAscii g _ _ t) (λ_ _ _ _ _ g h=>wpAny_pyIter_striter_ascii g h) (by decide),⟨_,Heap.get?_push_size _ rfl,V⟩,k,q⟩
 | false=>exact wpAny_pyIter_wide m ⟨a⁻¹,[a⁻¹],E,f,1,c.kept (t':=a.toks) λb v e=>Heap.get?_push_of_some _ e,E1 (t:=t) (λw g=>Walks.strWide g _ _ t) (λ_ _ _ _ _ g h=>wpAny_pyIter_striter_wide g h) (by decide),⟨_,Heap.get?_push_size _ rfl,V⟩,k,q⟩
theorem LM{a:List Nat}{j:TG}{tt:TT}{k:TE}{l:_L2.St}{H:Hp}{Q:VK}(c:Nat->_L2.St->Hp->Prop)(q:c 0 l H)
  (r:∀ (i:Nat) d b H,a[i]?=⇑d->c i b H->j (BK d) b H fun e t=>tt e t λu m=>if u=true then k e m λv n=>∃ f,n g=⇑(.lst f)/\↑f<sizeLine/\c (i+1) e (aL n g (.lst (f++[v]))) else c (i+1) e m)
  (w:∀ b H,c ↑a b H->Q ↥g H):ue (fw a) g j tt k l H Q:=by
 refine⟨λi o b H=>o=↑a-i/\i<=↑a/\c i b H,⟨↑a,by simp,ic _,q⟩,?_⟩;rintro i o b H ⟨rfl,o,p⟩;by_cases o:i<↑a
 ·refine .inr ⟨o,c (i+1),fun A s x=>⟨↑a-(i+1),by lia,1,o,x⟩,λx s y=>?_⟩;let⟨h,d,y,z⟩:=y;subst h z;exact r i d b _ y p
 ·let h:i=↑a:=by lia
  subst h;exact .inl ⟨1,w b H p⟩
end _cF
namespace _cF
open Spec Rows _L2 _fC _gu
section
variable {X:Cx}
def CP(a b:List Nat):gc a++gc b=gc (a++b):=by
 show (⟨a.toArray++b.toArray⟩:Str)=⟨(a++b).toArray⟩;simp
end
end _cF
namespace _sP
end _sP
namespace _sP
open Spec Rows
end _sP
namespace _sP
open Spec Rows
end _sP
namespace _sP
open Spec Rows
end _sP
namespace _sP
open Spec Rows
end _sP
namespace _sP
open Spec Rows
end _sP
namespace _sP
open Spec Rows
end _sP
namespace _sP
open Spec Rows _L2
end _sP
namespace _iU
open Spec Rows _L2 _cF Builtin Builtin.Str
def uh(a:List Nat):(gc a).cps.toList=a:=by simp[gc]
def jn(c:Nat):iK->List Nat
 | []=>[]
 | [x]=>x
 | x::y::r=>x++c::jn c (y::r)
theorem OC(c:Nat):∀ a:iK,Str.join ⟨(List.toArray [c])⟩ (a.map gc)=gc (jn c a)
 | []=>rfl
 | [x]=>rfl
 | x::y::r=>by
  show gc x++⟨(List.toArray [c])⟩++Str.join ⟨(List.toArray [c])⟩ ((y::r).map gc)=_;rw[OC c (y::r)];refine ext_toList ?_;rw[uh];show ((gc x).cps++(List.toArray [c])++(gc (jn c (y::r))).cps).toList=_;rw[Array.toList_append,Array.toList_append,uh,uh];simp[jn]
end _iU
namespace _iU
open Spec Rows _L2 _cF Builtin Builtin.Str
section
variable {X:Cx}
theorem BN:∀ {a:Uf} {b:Wp},cD (a.map V.str) b->StrsAre b a
 | [],_,.nil=>.nil
 | _::_,_,.cons r t=>by
  let⟨c,rfl⟩:=r;exact .cons _ c (BN t)
def E2:VM X "str.join" (λx b H Q=>∃ (l:Addr) (c:Nat) (a:iK),x=.str ⟨(List.toArray [c])⟩/\b=[↥l]/\H l=⇑(.lst (a.map λw=>V.str (gc w)))/\(a.map List.length).sum+↑a<=1000000/\Q (.str (gc (jn c a))) H):=by
 intro k s m H x b v n Q I d e h;let⟨l,c,a,rfl,rfl,f,k,q⟩:=h;let⟨t,rfl⟩:=d;let⟨u,rfl,g⟩:=e.one;cases (show u=Value.ref l from g);let⟨d,e,g,_⟩:=I.list (bI.of (K:=X.K) f);let f:cD ((a.map gc).map V.str) d:=by rw[List.map_map];exact e
 refine join_list g.isList (BN f) ?_ λi k=>?_
 ·rw[List.map_map,cC];let j:↑(⟨(List.toArray [c])⟩:Str)=1:=rfl;let d:a.map ((λx:Str=>↑x) ∘ gc)=a.map List.length:=List.map_congr_left λp _=>nZ p;rw[j,d];lia
 ·let e:Txt.join ⟨(List.toArray [c])⟩ (a.map gc)=gc (jn c a):=by
   show glued _ _=_;rw[StrLaws.glued_eq_join,OC]
  rw[e];exact⟨.str (gc (jn c a)),H,I.tok _,⟨i,1⟩,q⟩
abbrev eu:=_L2.St->Hp->Str->(Str->Hp->Prop)->Prop
def Ye(X:Cx)(d:List Expr)(m:Nat)(t:eu):Prop:=∀ (c:List (Addr × Obj)) (s:Shared) (a:_L2.St) (H:Hp) (b:Str) (Q:Str->Hp->Prop),_L2.Inv X c a H s->t a H b Q->↑b+m<=1000000->
 wpAny (model X.prog X.w) X.A (joinParts b (evalEach d X.env)) (λu e=>∃ x f b,u=.str x f/\_L2.Inv X c a b e/\Q x b) X.xe s
theorem RU:Ye X [] 0 (λ_ H a Q=>Q a H):=λc s d H a Q I h b =>
 joinParts_nil ⟨a,_,H,1,I.tok _,h⟩ (eO (Nat.lt_of_le_of_lt b (by decide)))
def RV{x:Str}{j:Nat}{b:List Expr}{m:Nat}{t:eu}(h:Ye X b m t):Ye X (.Constant (.str x) j f::b) (↑x+m) (fun a H c Q=>t a H (c++x) Q):=by
 intro d s a H c Q I q e;refine joinParts_consE (joinParts_cons (Calls.Constant_str ?_));let z:=_fC.JU (y:=x) e (d7 _);exact⟨z.1,h d _ a H _ Q (I.tok _) q z.2⟩
def J4{e:Expr}{c:TE}{d:List Expr}{m:Nat}{t:eu}(j:PE X e c)(k:Ye X d m t):Ye X (.FormattedValue e (-1) none w::d) (1921+m) (fun a H f Q=>c a H λv b=>∃ i:Int,v=.int i/\i.natAbs.log2<1920/\t a b (f++Str.ofString (toString i)) Q):=by
 intro g s a H f Q I q l;refine joinParts_consE (joinParts_cons (FormattedValue_plain (dB (j g s a H _ I q) λv q n=>?_)));let⟨x,b,o,p,i,r,h,u⟩:=n;subst r;let⟨y,rfl⟩:=p;refine formatField_int_small h ?_;let z:=_fC.JU (y:=Str.ofString (toString i)) l (int_text_len_1921 h);exact⟨z.1,k g _ a b _ Q (o.tok _) u z.2⟩
def OD{c:List Expr}{m:Nat}{t:eu}(h:Ye X (d::e::c) m t)(k:m<=1000000:=by decide +kernel):PE X (.JoinedStr (d::e::c) l) (fun a H Q=>t a H Str.empty λx b=>Q (.str x) b):=by
 intro f s a H Q I q;refine JoinedStr_many (dB (h f s a H Str.empty _ I q (by show 0+m<=_;lia)) λu n f=>?_);let⟨x,n,b,g,i,j⟩:=f;subst g;exact⟨.str x,b,i,⟨Y⟩,j⟩
end
end _iU
namespace _iU
open Spec Rows _L2 _cF Builtin Builtin.Str
end _iU
namespace _iU
open Spec Rows _L2 _cF Builtin Builtin.Str _gu
def dg(n:Int):List Nat:=(Nat.toDigits 10 n.toNat).map Char.toNat
def xQ{n:Int}(h:0<=n):Str.ofString (toString n)=gc (dg n):=by
 refine ext_toList ?_;rw[uh];obtain⟨m,rfl⟩:∃ m:Nat,n=(m:Int):=⟨n.toNat,by lia⟩;exact PySem.W.KIN.signs_num m
def HQ{n:Int}(a:0<=n)(b:n<10^60):↑(dg n)<=60:=by
 have:=toString_length_le a (k:=60) (by decide) b;rw[xQ a,nZ]at this;exact this
end _iU
namespace _iU
open Spec Rows _L2 _cF Builtin Builtin.Str _gu
end _iU
namespace _oR
open Spec Rows PySem.W _L2 _cF _fC
end _oR
namespace _Au
open Spec Rows _L2 _cF _fC _gu
end _Au
namespace _Au
open Spec Rows _L2 _cF _fC _gu PySem.W
section
variable {X:Cx}
def ZE{e:Expr}{f:TE}(j:PE X e f):PE X (.JoinedStr [.FormattedValue e (-1) none p] r) (fun c H Q=>f c H λv a=>(∃ i:Int,v=.int i/\i.natAbs.log2<1920/\Q (.str (Str.ofString (toString i))) a)\/∃ b:List Nat,v=.str (gc b)/\↑b<=100000/\Q (.str (gc b)) a):=by
 intro k s c H Q I q;refine JoinedStr_one (FormattedValue_plain (dB (j k s c H _ I q) λv q k=>?_));let⟨x,a,g,h,l⟩:=k;rcases l with ⟨i,rfl,m,d⟩|⟨b,rfl,n,d⟩
 ·let⟨o,rfl⟩:=h;exact formatField_int_small m ⟨.str _,a,g.tok _,⟨Y⟩,d⟩
 ·let⟨o,rfl⟩:=h;exact formatField_str (λh k=>⟨.str _,a,g.tok _,⟨Y⟩,d⟩) (by rw[nZ];exact fX n (by decide))
end
end _Au
namespace _Au
open Spec Rows _L2 _cF _fC _gu _iU Builtin Builtin.Str
end _Au
namespace _Au
open Spec Rows _L2 _cF Builtin Builtin.Str _gu
end _Au
namespace _fC
open Spec Rows PySem.W _L2
end _fC
namespace _fC
open Spec Rows PySem.W _L2
section
variable {X:Cx} {ao:List (Addr × Obj)} {σ:_L2.St} {H:Hp} {s:Shared} {a:Addr}
variable {x m:Str} {st:Stmt} {ps:Uf} {f C:Addr} {fd:FuncData} {j k:Nat} {sp:Sp} {e o:Expr} {es:List Expr} {ta:TE} {t:TA} {p jK pos:Pos} {pl:Sem Bool}
variable {te:x'} {i:Nat} {z:Str} {iV:Pos} {c:Expr} {tc:TT} {tx ty:ye} {a b:Stmt} {hs:List Hd}
theorem um{y:Str}(d:_gu.cA X.K X.mg x st ps f fd)(g:X.mg y=⇑↥f)(G:bq X.prog X.w X.K X.mg X.zt cS k f fd ps sp)(h:jd j X.A)
  (l:PA X (e::es) t) (n:k<=j:=by first|decide|lia) (q:Gl X y:=by rfl) (r:(y == ("r":Str))=false:=by decide) (u:starEach (e::es) X.env=(false,eval e X.env)::starEach es X.env:=by rfl)
  (v:(backTo pos (starEach es X.env)).any (·.1)=false:=by rfl):PE X (.Call (.Name y p) (e::es) [] pos) (Jx sp [] E0 t) :=
 Jz G (h.mono n) q g d.F.kp d.b .nil bO l r u v
end
end _fC
namespace _m8
open Spec Rows PySem.W _L2 _cF _fC
end _m8
namespace _m8
open Spec Rows PySem.W _L2 _cF _fC
open Builtin Builtin.ObjectAttr
end _m8
namespace _m8
open Spec Rows PySem.W _L2 _cF _fC
open Builtin Builtin.ObjectAttr
end _m8
namespace _m8
open Spec Rows PySem.W _L2 _cF _fC
end _m8
namespace _m8
open Spec Rows PySem.W _L2 _cF _fC
open Builtin Builtin.ObjectAttr
end _m8
namespace _m8
open Spec Rows PySem.W _L2 _cF _fC
end _m8
namespace _m8
open Spec Rows PySem.W _L2 _cF _fC
end _m8
namespace _m8
open Spec Rows PySem.W _L2 _cF _fC
end _m8
namespace _m8
open Spec Rows PySem.W _L2 _cF _fC
end _m8
namespace _m8
open Spec Rows PySem.W _L2 _cF _fC
end _m8
namespace _gu
open Spec Rows _L2 _cF _fC _sM
theorem gs{N P:Uf}{a:Scope}(b:a.kind=.function:=by rfl)(c:a.isCoroutine=false:=by rfl)(d:a.isGenerator=false:=by rfl)(e:N.Nodup:=by decide +kernel)(f:N.take ↑P=P:=by rfl)(g:∀ x∈P,a.names.lookup x=⇑.local\/a.names.lookup x=⇑.cell:=by decide +kernel)(h:∀ y∈a.names,y.2≠.free:=by decide +kernel):qB N P a:=⟨b,c,d,e,f,g,h⟩
section
variable {P:Program} {w:World} {K:Frag} {mg:X1} {zt:Heap}
theorem fP{x c:Str}{a:Stmt}{f:Addr}{d:Uf}{k:Nat}{e:Sp}(N:Uf)(j:NL K x c a f l)
  (m:∀ (g:Value) (A:Around) (n:List Env) (s:Shared) (H:Hp) (b:List V) (Q:VK) (E:XK),jd k (A.deeper (envOfC c (cy a) s⁻¹ f g))->N.Nodup->e b H Q E->
   ∃ t,Jq (Cv cS P w K mg zt N c (cy a) f g A n s H E).Js (ju a) t/\t { nx:=λ_ o=>Q .gi o,rt:=Q } (_L2.start N b) H) (i:qB N d (cy a):=by exact gs) (p:∀ b H Q E,e b H Q E->↑b=↑d:=by clean_wf):bq P w K mg zt cS (k+1) f l d e:=j.ok i p λq r u v y f z B h C=>m q r u v y f z B h i.nd C
end
section
variable {X:Cx}
theorem aX(i:Nat){x:Str}{e:Expr}{a:TE}{c b:Pos}(d:PE X e a)(g:X.N[i]?=⇑x:=by rfl)(h:Loc X.env.scope x:=by ac_rfl)(l:swapsWith e (some (.Name x b)) c.line X.env=pure false:=by rfl)(n:X.fn x=true\/X.env.scope.names.lookup x=⇑.local:=by bv_normalize)(p:X.N.Nodup:=by assumption) :
  PS X (.Assign [.Name x b] e c) (Nc a (pI i)):=Vu p g h d l n
theorem bV(i:Nat){x:Str}{c:Pos}(a:X.N[i]?=⇑x:=by rfl)(b:Loc X.env.scope x:=by ac_rfl)(d:X.fn x=true\/X.env.scope.names.lookup x=⇑.local:=by bv_normalize)(g:X.N.Nodup:=by bv_omega):PG X (.Name x c) (pI i):=QU g a b d
def aO{r:R2}{a b:Expr}{ta d:TE}(g:VG X r)(h:PE X a ta)(i:PE X b d)(l:JF b:=by exact λ_ _=>rfl):PE X (.Subscript a b c) (YN r ta d):=Y3 g h i l
def gF{o i:Expr}{a b:TE}(d:X.A.units+1<cLine)(g:PE X o a)(h:PE X i b)(l:Wh i:=by exact λ_ _=>rfl):PE X (.Subscript o i c) (Uq a b):=RG d g h l
theorem gf{e:Expr}{a:TE}{p:Pos}(d:X.mg "len"=none)(g:PE X e a)(h:Gl X "len":=by rfl)(b:starEach [e] X.env=(false,eval e X.env)::starEach [] X.env:=by rfl):PE X (.Call (.Name "len" p) [e] [] c) (eQ (VJ X.K) (Nn a yd)):=b8 CA h d PySem.boot_len (aa g ah (f:=b)) (by decide) (by decide) b rfl
variable {CX:K0} {j k:Nat} {f C fi:Addr} {fd:FuncData} {ps:Uf} {sp:Sp} {E:XK} {m cn q:Str} {st:Stmt} {c jK:Pos} {e o:Expr} {es:List Expr} {ta:TE} {t:TA} {pl:Sem Bool}
def dG(b:PE X o ta)(g:ClsAt X.K X.mg cn C fi)(d:dF X.K C m q st ps f fd)(h:bq X.prog X.w X.K X.mg X.zt CX k f fd ps sp)(i:jd j X.A)(l:m6 CX X E)(n:PA X (e::es) t)(p:k<=j:=by first|decide|lia)
  (r:starEach (e::es) X.env=(false,eval e X.env)::starEach es X.env:=by rfl) (u:(backTo c (starEach es X.env)).any (·.1)=false:=by rfl)
  (v:eval (.Call (.Attribute o m jK) (e::es) [] c) X.env=(do
   let a ← eval o X.env
   standAt jK.atName
   let (f,first) ← holding [a] (getMethod a m pl)
   callWith c f first (backTo c (starEach (e::es) X.env)) (backToKw c (keywordEach [] X.env))):=by rfl) :
  PE X (.Call (.Attribute o m jK) (e::es) [] c) (Jy C m sp [] E ta t):=Q4 b g.cl d.mt h (i.mono p) d.b .nil l n r u v
def gC(b:PE X o ta)(g:ClsAt X.K X.mg cn C fi)(d:dF X.K C m q st ps f fd)(h:bq X.prog X.w X.K X.mg X.zt CX k f fd ps sp)(i:jd j X.A)(l:m6 CX X E)(n:k<=j:=by first|decide|lia)
  (p:eval (.Call (.Attribute o m jK) [] [] c) X.env=(do
   let a ← eval o X.env
   standAt jK.atName
   let (f,first) ← holding [a] (getMethod a m pl)
   callWith c f first (backTo c (starEach [] X.env)) (backToKw c (keywordEach [] X.env))):=by rfl) :
  PE X (.Call (.Attribute o m jK) [] [] c) (Jy C m sp [] E ta yd):=Nq b g.cl d.mt h (i.mono n) d.b .nil l p
end
def iD:0<=sizeLine:=by decide
def mq:1<=sizeLine:=by decide
def mJ:2<=sizeLine:=by decide
def RW:3<=sizeLine:=by decide
def CQ:4<=sizeLine:=by decide
def Ww:5<=sizeLine:=by decide
def ZF:6<=sizeLine:=by decide
theorem sQ{x:V}{r:List V}:nM (x::r) 0=⇑x:=dm (j:=0) rfl
theorem uo{x y:V}{r:List V}:nM (x::y::r) 1=⇑y:=dm (j:=1) rfl
theorem Av{x y z:V}{r:List V}:nM (x::y::z::r) 2=⇑z:=dm (j:=2) rfl
theorem Aw{x y z u:V}{r:List V}:nM (x::y::z::u::r) 3=⇑u:=dm (j:=3) rfl
theorem RX{x y z u v:V}{r:List V}:nM (x::y::z::u::v::r) 4=⇑v:=dm (j:=4) rfl
theorem ZG{x y z u v w:V}{r:List V}:nM (x::y::z::u::v::w::r) 5=⇑w:=dm (j:=5) rfl
end _gu
namespace _RY
open Spec Rows _L2 _cF
end _RY
namespace _gu
open Spec Rows _L2 _cF _fC _sM _RY
def CU(v d:Addr):HO:=.ext λh=>h.IsItemsView v d
def LN{a:Cx}:VM a "dict.items" (λx b H Q=>∃ (d:Addr) (c:List (d9 × V)),x=↥d/\b=[]/\H d=⇑(.dK c)/\∀ v,H v=none->Q ↥v (aL H v (CU v d))):=by
 intro j s l H x b v m Q I f g h;let⟨d,c,rfl,rfl,i,q⟩:=h;cases (show v=Value.ref d from f);cases g;let⟨z,g,h,j,f⟩:=EL I.hok i;refine call_meetsIn PySem.F.slot_dict_items f.typeIs PySem.F.entry_dict_items (PySem.F.args_dict_items_1 _) (meets_dict_items (ff a.prog a.w) d g) ⟨⟨_,f⟩,?_⟩;refine⟨↥s⁻¹,_,I.laid (o:=CU s⁻¹ d) (t':=s.toks) (λf o e=>Heap.get?_push_of_some _ e) (d7 _) ⟨⟨_,Heap.get?_push_size _ rfl,V⟩,⟨_,Heap.get?_push_size _ rfl⟩,λf g ⟨o,e,r⟩ k=>⟨o,k o e,r⟩⟩,1,q _ (I.hok.fresh (d7 _))⟩
def ZH{d:Cx}{h:_L2.St}{H c:Hp}{s:Shared}{e:Heap}{j:Nat}(I:Inv d l h H s)(k:∀ b u,s.heap.get? b=⇑u->e.get? b=⇑u)(o:∀ b u,s.heap.get? b=⇑u->c b=H b)(a:∀ b u,H b=⇑u->c b=⇑u)(m:∀ b u,H b=none->c b=⇑u->fR d.prog d.w c e b u):Inv d l h c { s with heap:=e,toks:=j }:=by
 refine I.un ⟨λb u q _ _ _=>k b u q,λb u q _ _ _=>⟨u.slots,k b u q⟩,λb u q n _=>by rw[o b u q];exact n,λb u q _=>⟨u,k b u q⟩,λb i q=>a _ _ q,λb u i q=>a _ _ q,λb n q=>⟨#[],by rw[a _ _ q];simp⟩⟩ λb u f=>?_
 cases g:H b with
 | none=>exact m b u g f
 | some v =>
  rw[a b v g]at f;cases f;exact (I.hok b _ g).stay (λf v _ q=>k f v q) (λf q=>a _ _ q) λf i q=>a _ _ q
end _gu
namespace _Au
open Spec Rows _L2 _cF _fC _gu PySem.W
end _Au
namespace _m8
open Spec Rows PySem.W _L2 _cF _fC
end _m8
namespace _fE
open Spec Rows _L2 _cF
def CV:Bool->Keyed->Array Keyed->Nat->Nat->Nat->StateT SortSt Sem (Option Nat):=sortPriv% PySem.Builtin.gallop
section
variable {prog:Program} {w:World} {A:Around} {E:ZB} {s:Shared} {z:XB} {key:Keyed->Nat} {kd:SortKind} {st:SortSt}
def xm(prog:Program)(w:World)(A:Around)(s:Shared)(key:Keyed->Nat)(kd:SortKind)(z:XB):Prop :=
 ∀ r∈z.toList,∀ o∈z.toList,∀ (E:ZB) (Q:Bool->Shared->Prop),Q (decide (key r<key o)) s->wpAny (model prog w) A (keyLt' kd r.1 o.1) Q E s
theorem jp{b:Type}{x:StateT SortSt Sem b}{a:b->SortSt->Prop}(P:(StateT SortSt Sem b->SortSt->Prop)->Prop)(c:P (λx t=>wpS (model prog w) A E s x a t))(d:P (λx t=>wpS (model prog w) A E s x a t)->wpS (model prog w) A E s x a st):wpS (model prog w) A E s x a st:=d c
def nG{a:Type}{c:Prop} [Decidable c] {f g:StateT SortSt Sem a} {Q:a->SortSt->Prop} (b:c->wpS (model prog w) A E s f Q st) (d:¬ c->wpS (model prog w) A E s g Q st):wpS (model prog w) A E s (if c then f else g) Q st:=by
 split
 ·exact b ‹_›
 ·exact d ‹_›
def ew{x y:Keyed}{Q:Option Bool->SortSt->Prop}(C:xm prog w A s key kd z)(a:kindOf st=kd)(b:x∈z.toList)(c:y∈z.toList)(h:Q (⇑(decide (key x<key y))) st):wpS (model prog w) A E s (lt' x y) Q st:=by
 rw[lt'_eq];refine wpS_bind (wpS_get ?_);rw[a];refine wpS_bind (wpS_lift (wpAny_attempt (C x b y c _ _ ?_)));exact⟨1,wpS_pure h⟩
def zg{a:XB}{i:Nat}{x:Keyed}{Q:Keyed->SortSt->Prop}(e:a[i]?=⇑x)(h:Q x st):wpS (model prog w) A E s (elem' a i) Q st:=by
 rw[elem'_eq,e];exact wpS_pure h
def J5(left:Bool)(k x:Nat):Bool:=if left=true then decide (x<k) else !decide (k<x)
def ZI(P:Nat->Bool)(n k:Nat):Prop:=k<=n/\(∀ i,i<k->P i=true)/\∀ i,k<=i->i<n->P i=false
theorem oS{n:Nat}{P:Nat->Bool}{h:Nat->Option (Option Nat) × Nat × Nat->StateT SortSt Sem (ForInStep (Option (Option Nat) × Nat × Nat))}{Q:Option (Option Nat) × Nat × Nat->SortSt->Prop}(k:∀ i j,i<=j->j<n->P j=true->P i=true)
  (q:∀ (x lo a:Nat) (c:ForInStep (Option (Option Nat) × Nat × Nat)->SortSt->Prop),a<=n->(a<=lo->c (.done (none,lo,a)) st)->(lo<a->P (lo+(a-lo) / 2)=true->c (.yield (none,lo+(a-lo) / 2+1,a)) st)->(lo<a->P (lo+(a-lo) / 2)=false->c (.yield (none,lo,lo+(a-lo) / 2)) st)->wpS (model prog w) A E s (h x (none,lo,a)) c st)
  {lo a:Nat} (r:lo<=a) (u:a<=n) (v:∀ i,i<lo->P i=true) (y:∀ i,a<=i->i<n->P i=false) (l:∀ B m,ZI P n m->Q (none,B,m) st):wpS (model prog w) A E s (forIn [0:n] (none,lo,a) h) Q st:=by
 refine wpS_forRange (I:=λx g t=>t=st/\∃ lo a,g=(none,lo,a)/\lo<=a/\a<=n/\(∀ i,i<lo->P i=true)/\(∀ i,a<=i->i<n->P i=false)/\a-lo+x<=n) ?z' ?out ⟨1,lo,a,1,r,u,v,y,by lia⟩
 case out =>
  rintro g t ⟨rfl,lo,a,rfl,C,b,d,f,D⟩;let e:lo=a:=by lia
  subst e;exact l lo lo ⟨b,d,f⟩
 case z' =>
  rintro x g t _ H ⟨rfl,lo,a,rfl,C,b,d,f,D⟩;refine q x lo a _ b (λe=>?_) (λe p=>?_) λe p=>?_
  ·let e:lo=a:=by lia
   subst e;exact l lo lo ⟨b,d,f⟩
  ·exact⟨1,E,1,by lia,b,λi o=>k i _ ∅ ∅ p,f,by lia⟩
  ·refine⟨1,E,1,by lia,by lia,d,λi o F=>?_,by lia⟩
   cases G:P i with
   | false=>rfl
   | true=>rw[k _ i o F G]at p;cases p
theorem oT{left:Bool}{k:Keyed}{p:XB}{r n a:Nat}{Q:Option Nat->SortSt->Prop}{P:Nat->Bool}(C:xm prog w A s key kd z)(y:kindOf st=kd)(D:k∈z.toList)(L:∀ i,i<n->∃ x∈z.toList,p[r+i]?=⇑x/\J5 left (key k) (key x)=P i)(j:∀ i m,i<=m->m<n->P m=true->P i=true)(G:a<n)
  (M:∀ k,ZI P n k->Q (⇑k) st):wpS (model prog w) A E s (CV left k p r n a) Q st:=by
 let B:∀ (i:Nat) {R:Option Bool->SortSt->Prop},i<n->R (⇑(P i)) st->wpS (model prog w) A E s (do
   let x ← elem' p (r+i)
   if left=true then lt' x k else do
    let b ← lt' k x
    pure (Option.map (λx=>!x) b)) R st:=λi R d b=>by
  let⟨x,c,e,f⟩:=L i d;refine wpS_bind (zg e ?_);unfold J5 at f
  cases left with
  | true =>
   rw[if_pos rfl]at f ⊢;rw[← f]at b;exact ew C y c D b
  | false =>
   rw[if_neg lG]at f ⊢;rw[← f]at b;exact wpS_bind (ew C y D c (wpS_pure b))
 delta CV
 refine wpS_bind (B a G ?_);dsimp -zeta only
 extract_lets m
 refine jp (λW=>∀ F H lo d,lo<=d->d<=n->(∀ i,i<lo->P i=true)->(∀ i,d<=i->i<n->P i=false)->W (m () F H lo d) st) (λF H lo d N h e b=>?_) λI=>?_
 ·refine wpS_bind (oS j (λx lo d R h g o t=>?_) N h e b λl k f=>wpS_pure (M k f));dsimp only;refine nG (λc=>wpS_pure (g c)) λc=>wpS_bind (B (lo+(d-lo) / 2) ∅ ?_)
  cases q:P (lo+(d-lo) / 2) with
  | true=>exact wpS_pure (o ∅ q)
  | false=>exact wpS_pure (t ∅ q)
 cases J:P a with
 | true =>
  dsimp only;rw[if_pos rfl];refine wpS_bind (wpS_mono (wpS_forRange (I:=λx c t=>t=st/\∃ l o,c=(none,l,o)/\l<o/\x+1<=o/\a+l<n/\P (a+l)=true) (Q:=λc t=>t=st/\∃ l o,c=(none,l,o)/\l<o/\a+l<n/\P (a+l)=true/\(n-a<=o\/(a+o<n/\P (a+o)=false))) ?u' ?out ⟨1,0,(1),1,by lia,by lia,G,J⟩) ?v')
  case out =>
   rintro c t ⟨rfl,l,o,rfl,g,f,e,b⟩;exact⟨1,l,o,1,g,e,b,.inl ∅⟩
  case u' =>
   rintro x c t _ v ⟨rfl,l,o,rfl,g,f,e,b⟩;dsimp only;refine nG (λc=>?_) λc=>?_
   ·exact wpS_pure ⟨1,l,o,1,g,e,b,.inl c⟩
   ·refine wpS_bind (B (a+o) ∅ ?_)
    cases q:P (a+o) with
    | true=>exact wpS_pure ⟨1,o,2*o+1,1,by lia,by lia,by lia,q⟩
    | false=>exact wpS_pure ⟨1,l,o,1,g,e,b,.inr ⟨by lia,q⟩⟩
  case v' =>
   rintro c t ⟨rfl,l,o,rfl,g,e,b,f⟩;refine I l o (a+l+1) (a+min o (n-a)) ∅ ∅ (λi d=>j i _ ∅ e b) λi d h=>?_
   cases q:P i with
   | false=>rfl
   | true =>
    rcases f with f|f
    ·lia
    ·rw[j _ i ∅ h q]at f;exact f.2
 | false =>
  dsimp only;rw[if_neg lG];refine wpS_bind (wpS_mono (wpS_forRange (I:=λx c t=>t=st/\∃ l o,c=(none,l,o)/\l<o/\x+1<=o/\l<=a/\P (a-l)=false) (Q:=λc t=>t=st/\∃ l o,c=(none,l,o)/\l<o/\l<=a/\P (a-l)=false/\(a+1<=o\/(o<=a/\P (a-o)=true))) ?u' ?out ⟨1,0,(1),1,by lia,by lia,by lia,J⟩) ?v')
  case out =>
   rintro c t ⟨rfl,l,o,rfl,g,f,e,b⟩;exact⟨1,l,o,1,g,e,b,.inl ∅⟩
  case u' =>
   rintro x c t _ v ⟨rfl,l,o,rfl,g,f,e,b⟩;dsimp only;refine nG (λc=>?_) λc=>?_
   ·exact wpS_pure ⟨1,l,o,1,g,e,b,.inl c⟩
   ·refine wpS_bind (B (a-o) ∅ ?_)
    cases q:P (a-o) with
    | true=>exact wpS_pure ⟨1,l,o,1,g,e,b,.inr ⟨by lia,q⟩⟩
    | false=>exact wpS_pure ⟨1,o,2*o+1,1,by lia,by lia,by lia,q⟩
  case v' =>
   rintro c t ⟨rfl,l,o,rfl,g,e,b,f⟩;refine I l o (a+1-min o (a+1)) (a-l) ∅ ∅ (λi d=>?_) λi d h=>?_
   ·rcases f with f|f
    ·omega
    ·exact j i _ ∅ ∅ f.2
   ·cases q:P i with
    | false=>rfl
    | true=>rw[j _ i ∅ h q]at b;exact b
end
end _fE
namespace _fE
open Spec Rows _L2 _cF
structure Mg(k:Keyed->Int)(W out A B:List Keyed):Prop where
 perm:(out++(A++B)).Perm W
 J6:out.Pairwise λx y=>k x<=k y
 sa:A.Pairwise λx y=>k x<=k y
 sb:B.Pairwise λx y=>k x<=k y
 ra:∀ x∈out,∀ y∈A,k x<=k y
 rb:∀ x∈out,∀ y∈B,k x<=k y
theorem Mg.swap{k:Keyed->Int}{W a A B:List Keyed}(m:Mg k W a A B):Mg k W a B A:=⟨(List.Perm.append_left _ List.perm_append_comm).trans m.perm,m.J6,m.sb,m.sa,m.rb,m.ra⟩
def Mg.run{k:Keyed->Int}{W d A1 A2 B:List Keyed}(m:Mg k W d (A1++A2) B)(h:∀ x∈A1,∀ y∈B.head?,k x<=k y):Mg k W (d++A1) A2 B:=by
 let q:=List.pairwise_append.mp m.sa;refine⟨by simpa only[jq] using m.perm,List.pairwise_append.mpr ⟨m.J6,q.1,λx a y c=>m.ra x a y (lQ _ c)⟩,q.2.1,m.sb,λx a y c=>?_,λx a y c=>?_⟩
 ·exact (List.mem_append.mp a).elim (λa=>m.ra x a y (kJ _ c)) λa=>q.2.2 x a y c
 ·refine (List.mem_append.mp a).elim (λa=>m.rb x a y c) λa=>?_
  cases B with
  | nil=>cases c
  | cons b B =>
   let e:=h x a b rfl;rcases List.mem_cons.mp c with rfl|c
   ·exact e
   ·exact Int.le_trans e ((List.pairwise_cons.mp m.sb).1 y c)
def Fin(k:Keyed->Int)(W:List Keyed)(l:List Keyed):Prop:=l.Perm W/\l.Pairwise λx y=>k x<=k y
theorem Mg.fin{k:Keyed->Int}{W a A:List Keyed}(m:Mg k W a A []):Fin k W (a++A):=⟨by simpa only[gG] using m.perm,List.pairwise_append.mpr ⟨m.J6,m.sa,m.ra⟩⟩
def Uw{a:XB}{i:Nat}{x:Keyed}(e:a[i]?=⇑x):a.toList.drop i=x::a.toList.drop (i+1):=by
 let⟨h,rfl⟩:=Array.getElem?_eq_some_iff.mp e;exact List.drop_eq_getElem_cons h
def J7{a:XB}{i:Nat}:(a.extract i).toList=a.toList.drop i:=by
 rw[Array.toList_extract,List.extract_eq_take_drop,pC];simp
def OF{a:XB}{i n:Nat}:a.toList.drop i=(a.extract i (i+n)).toList++a.toList.drop (i+n):=by
 rw[Array.toList_extract,List.extract_eq_take_drop,Nat.add_sub_cancel_left,← List.drop_drop];exact (List.take_append_drop n (a.toList.drop i)).symm
def Lo(c:Keyed->Nat)(a b d:XB)(e f:Nat):Prop:=Mg (λx=>c x) (a.toList++b.toList) d.toList (a.toList.drop e) (b.toList.drop f)
section
variable {key:Keyed->Nat} {a b out:XB} {d c n:Nat} {x:Keyed}
def Lo.E3(m:Lo key a b out d c)(f:a[d]?=⇑x)(h:∀ y,b[c]?=⇑y->key x<=key y):Lo key a b (out.push x) (d+1) c:=by
 unfold Lo at m ⊢;rw[Uw f]at m;rw[Array.toList_push];refine Mg.run (A1:=[x]) m λi g y e=>?_;rw[List.mem_singleton.mp g];rw[List.head?_drop]at e;exact Int.ofNat_le.mpr (h y (by simpa using e))
def Lo.BO(m:Lo key a b out d c)(f:b[c]?=⇑x)(h:∀ y,a[d]?=⇑y->key x<=key y):Lo key a b (out.push x) d (c+1):=by
 unfold Lo at m ⊢;rw[Uw f]at m;rw[Array.toList_push];refine (Mg.run (A1:=[x]) m.swap λi g y e=>?_).swap;rw[List.mem_singleton.mp g];rw[List.head?_drop]at e;exact Int.ofNat_le.mpr (h y (by simpa using e))
def ZJ{i n:Nat}(h:x∈(a.extract i (i+n)).toList):∃ j,j<n/\a[i+j]?=⇑x:=by
 rw[Array.toList_extract,List.extract_eq_take_drop,Nat.add_sub_cancel_left]at h;let⟨j,b,e⟩:=List.getElem_of_mem h;rw[gO]at b;refine⟨j,by lia,?_⟩;rw[List.getElem_take,List.getElem_drop]at e;rw[pD,Array.length_toList]at b;rw[Array.getElem?_eq_getElem ∅,← e];rfl
def Lo.Wx(m:Lo key a b out d c)(h:∀ j x,j<n->a[d+j]?=⇑x->∀ y,b[c]?=⇑y->key x<=key y):Lo key a b (out++a.extract d (d+n)) (d+n) c:=by
 unfold Lo at m ⊢;rw[OF (n:=n)]at m;rw[Array.toList_append];refine m.run λx f y e=>?_;let⟨j,g,i⟩:=ZJ f;rw[List.head?_drop]at e;exact Int.ofNat_le.mpr (h j x g i y (by simpa using e))
def Lo.Wy(m:Lo key a b out d c)(h:∀ j x,j<n->b[c+j]?=⇑x->∀ y,a[d]?=⇑y->key x<=key y):Lo key a b (out++b.extract c (c+n)) d (c+n):=by
 unfold Lo at m ⊢;rw[OF (n:=n) (i:=c)]at m;rw[Array.toList_append];refine (m.swap.run λx f y e=>?_).swap;let⟨j,g,i⟩:=ZJ f;rw[List.head?_drop]at e;exact Int.ofNat_le.mpr (h j x g i y (by simpa using e))
abbrev xo(key:Keyed->Nat)(a b:XB)(l:XB):Prop:=Fin (λx=>key x) (a.toList++b.toList) l.toList
def Lo.done(m:Lo key a b out d c)(e:c=b.size):xo key a b (out++a.extract d++b.extract c):=by
 unfold Lo at m;let q:b.toList.drop c=[]:=by subst e;simp
 unfold xo;rw[q]at m;rw[Array.toList_append,Array.toList_append,J7,J7,q,gG];exact m.fin
def Lo.last(m:Lo key a b out d c)(g:d+1=a.size)(h:∀ x y,x∈b.toList->a[a.size-1]?=⇑y->key x<=key y):xo key a b (out++b.extract c++a.extract d):=by
 unfold Lo at m;unfold xo;rw[Array.toList_append,Array.toList_append,J7,J7];refine (Mg.run (A1:=b.toList.drop c) (A2:=[]) (by rw[gG];exact m.swap) λx f y e=>?_).swap.fin;rw[List.head?_drop]at e;refine Int.ofNat_le.mpr (h x y (List.mem_of_mem_drop f) ?_);rw[show a.size-1=d by lia];simpa using e
end
end _fE
namespace _fE
open Spec Rows _L2 _cF
def E4:Array Keyed->Array Keyed->StateT SortSt Sem (XB):=sortPriv% PySem.Builtin.mergeLo
def rP:Nat->StateT SortSt Sem Unit:=sortPriv% PySem.Builtin.setMinGallop
def HR(a t:SortSt):Prop:=kindOf t=kindOf a/\arrOf t=arrOf a/\pendingOf t=pendingOf a/\failedOf t=failedOf a
theorem HR.trans{a b c:SortSt}(h:HR a b)(g:HR b c):HR a c:=⟨g.1.trans h.1,g.2.1.trans h.2.1,g.2.2.1.trans h.2.2.1,g.2.2.2.trans h.2.2.2⟩
def KN(a:Keyed->Nat)(b:XB)(i:Nat):Nat:=match b[i]? with
 | some p=>a p
 | none=>0
section
variable {prog:Program} {w:World} {A:Around} {E:ZB} {s:Shared} {z:XB} {key:Keyed->Nat} {kd:SortKind} {st:SortSt} {a b:XB}
def dz{i:Nat}{x:Keyed}(e:a[i]?=⇑x):KN key a i=key x:=by unfold KN;rw[e]
def eA{g:Nat}{Q:Unit->SortSt->Prop}(h:∀ t,HR st t->Q () t):wpS (model prog w) A E s (rP g) Q st:=by
 delta rP
 exact wpS_modify (h _ ⟨V,V⟩)
theorem fj{i:Nat}(h:i<a.size):∃ x∈a.toList,a[i]?=⇑x:=⟨a[i],Array.mem_toList_iff.mpr (Array.getElem_mem h),Array.getElem?_eq_getElem h⟩
theorem LO{left:Bool}{k:Keyed}{c n d:Nat}{Q:Option Nat->SortSt->Prop}(C:xm prog w A s key kd z)(f:kindOf st=kd)(g:k∈z.toList)(h:∀ x∈a.toList,x∈z.toList)(t:c+n<=a.size)(l:∀ i j,c<=i->i<=j->j<c+n->KN key a i<=KN key a j)(o:d<n)
  (p:∀ m,m<=n->(∀ i,i<m->J5 left (key k) (KN key a (c+i))=true)->(∀ i,m<=i->i<n->J5 left (key k) (KN key a (c+i))=false)->Q (⇑m) st):wpS (model prog w) A E s (CV left k a c n d) Q st:=by
 refine oT (P:=λi=>J5 left (key k) (KN key a (c+i))) C f g (λi e=>?_) (λi j e r q=>?_) o λm b=>p m b.1 b.2.1 b.2.2
 ·let⟨x,r,e⟩:=fj (a:=a) (i:=c+i) ∅;exact⟨x,h x r,e,by rw[dz e]⟩
 ·let e:=l (c+i) (c+j) ∅ ∅ ∅;revert q;unfold J5;cases left
  ·simp;lia
  ·simp;lia
def CY{k x:Nat}(h:J5 false k x=true):x<=k:=by unfold J5 at h;simpa using h
def CZ{k x:Nat}(h:J5 false k x=false):k<x:=by unfold J5 at h;simpa using h
def C0{k x:Nat}(h:J5 true k x=true):x<k:=by unfold J5 at h;simpa using h
def uq{k x:Nat}(h:J5 true k x=false):k<=x:=by unfold J5 at h;simpa using h
theorem n8{d:Type}{x y:Nat}{f g:StateT SortSt Sem d}{Q:d->SortSt->Prop}(e:x=y->wpS (model prog w) A E s f Q st)(h:¬ x=y->wpS (model prog w) A E s g Q st):wpS (model prog w) A E s (if (x == y)=true then f else g) Q st:=nG (λc=>e (by simpa using c)) λc=>h (by simpa using c)
def ZK{d:Type}{x y:Keyed}{f:Option Bool->StateT SortSt Sem d}{Q:d->SortSt->Prop}(C:xm prog w A s key kd z)(e:kindOf st=kd)(g:x∈z.toList)(h:y∈z.toList)(i:key x<key y->wpS (model prog w) A E s (f (⇑true)) Q st)(j:key y<=key x->wpS (model prog w) A E s (f (⇑false)) Q st):wpS (model prog w) A E s (lt' x y >>= f) Q st:=by
 refine wpS_bind (ew C e g h ?_);by_cases c:key x<key y
 ·rw[decide_eq_true c];exact i c
 ·rw[decide_eq_false c];exact j (Nat.le_of_not_lt c)
def RZ{l:Nat}(h:(a.toList.drop l).Pairwise λx y=>(key x:Int)<=key y){i j:Nat}(d:l<=i)(f:i<=j)(c:j<a.size):KN key a i<=KN key a j:=by
 by_cases e:i=j
 ·rw[e];exact d7 _
 let q:=List.pairwise_iff_getElem.mp h (i-l) (j-l) (by rw[pD,Array.length_toList];lia) (by rw[pD,Array.length_toList];lia) ∅;rw[List.getElem_drop,List.getElem_drop]at q;rw[dz (Array.getElem?_eq_getElem (show i<a.size by lia)),dz (Array.getElem?_eq_getElem c)];have:=Int.ofNat_le.mp q;simpa only[show l+(i-l)=i by lia,show l+(j-l)=j by lia,Array.getElem_toList] using this
structure LI(key:Keyed->Nat)(st:SortSt)(a b:XB)(x:Nat)(t:SortSt)(out:XB)(ia ib:Nat):Prop where
 q:HR st t
 m:Lo key a b out ia ib
 la:ia+1<a.size
 lb:ib<b.size
 pr:x<ia+ib
def Yh(key:Keyed->Nat)(st:SortSt)(a b:XB){c:Type}(d:Option (XB) × c)(t:SortSt):Prop:=HR st t/\∃ r e,d=(⇑r,e)/\xo key a b r
theorem oX{Q:Array Keyed->SortSt->Prop}(M:xm prog w A s key kd z)(N:kindOf st=kd)(O:∀ x∈a.toList,x∈z.toList)(T:∀ x∈b.toList,x∈z.toList)(m:Lo key a b #[] 0 0)(h0:∀ x y,b[0]?=⇑x->a[0]?=⇑y->key x<key y)(ha:0<a.size)(hb:0<b.size)(hl:∀ x y,x∈b.toList->a[a.size-1]?=⇑y->key x<key y)
  (U:∀ c t,HR st t->xo key a b c->Q c t):wpS (model prog w) A E s (E4 a b) Q st:=by
 let J:∀ x y,x∈b.toList->a[a.size-1]?=⇑y->key x<=key y:=λx y p q=>eO (hl x y p q);have sA:∀ i j,i<=j->j<a.size->KN key a i<=KN key a j:=λi j=>RZ m.sa (ic _);have sB:∀ i j,i<=j->j<b.size->KN key b i<=KN key b j:=λi j=>RZ m.sb (ic _);have F:HR st st:=⟨V,V⟩
 delta E4
 let⟨b0,R,e0⟩:=fj hb;refine wpS_bind (wpS_lift (wpAny_rule ⟨1,wpS_bind (zg e0 ?_)⟩));let R:Lo key a b (List.toArray [b0]) 0 1:=m.BO e0 λy k=>eO (h0 b0 y e0 k);refine n8 (λl=>wpS_pure (U _ _ F (R.done l))) λl=>n8 (λH=>wpS_pure (U _ _ F (R.last H J))) λH=>wpS_bind (wpS_get ?_);refine wpS_bind (wpS_mono (wpS_forRange (I:=λx e t=>∃ c d f n,e=(none,c,d,f,n)/\LI key st a b x t c d f) (Q:=Yh key st a b) ?jr ?c' ⟨Q,Y,F,R,by lia,by lia,by lia⟩) ?R')
 case R' =>
  rintro e t ⟨q,F,v,rfl,g⟩;exact wpS_pure (U _ _ q g)
 case c' =>
  rintro e t ⟨_,_,_,_,_,_,_,u,h,I⟩;exfalso;lia
 case jr =>
  rintro X e t _ xn ⟨c,d,f,n,rfl,S⟩;refine wpS_bind (wpS_mono (wpS_forRange (I:=λx e t=>∃ c d f o r,e=(none,c,d,f,o,r)/\LI key st a b (X+x) t c d f) (Q:=λe t=>Yh key st a b e t\/∃ c d f o r,e=(none,c,d,f,o,r)/\LI key st a b (X+1) t c d f) ?R' ?Wz ⟨Q,E,1,S⟩) ?WA)
  case Wz =>
   rintro e t ⟨_,_,_,_,_,k,q,m,u,h,I⟩;exact .inr ⟨Q,E,k,q,m,u,h,by lia⟩
  case R' =>
   rintro x e t _ xn ⟨c,d,f,o,r,rfl,q,m,u,h,I⟩;let⟨y,L,C⟩:=fj h;let⟨x,hx,D⟩:=fj (a:=a) (i:=d) ∅;dsimp only;refine wpS_bind (zg C (wpS_bind (zg D (ZK M (q.1.trans N) (T y L) (O x hx) (λe=>wpS_bind (zg C ?_)) λe=>wpS_bind (zg D ?_)))))
   ·let m:=m.BO C λv k=>by cases D.symm.trans k;exact eO e
    refine n8 (λl=>wpS_pure (.inl ⟨q,E,1,m.done l⟩)) λl=>nG (λ_=>wpS_pure (.inr ⟨Q,E,1,q,m,u,?_,?_⟩)) λ_=>wpS_pure ⟨Q,E,1,q,m,u,?_,?_⟩ <;> lia
   ·let m:=m.E3 D λv k=>by cases C.symm.trans k;exact e
    refine n8 (λl=>wpS_pure (.inl ⟨q,E,1,m.last l J⟩)) λl=>nG (λ_=>wpS_pure (.inr ⟨Q,E,1,q,m,?_,h,?_⟩)) λ_=>wpS_pure ⟨Q,E,1,q,m,?_,h,?_⟩ <;> lia
  case WA =>
   rintro e t (⟨q,F,v,rfl,g⟩|⟨c,d,f,o,r,rfl,S⟩)
   ·exact wpS_pure ⟨q,F,Y,g⟩
   refine wpS_bind (wpS_lift (wpAny_rule ⟨1,wpS_bind (wpS_mono (wpS_forRange (I:=λx e t=>∃ c d f n o r,e=(none,c,d,f,n,o,r)/\LI key st a b (X+1) t c d f) (Q:=λe t=>Yh key st a b e t\/∃ c d f n o r,e=(none,c,d,f,n,o,r)/\LI key st a b (X+1) t c d f) ?OH (λ_ _=>.inr) ⟨Q,Q,1,S⟩) ?R')⟩))
   case R' =>
    rintro e t (⟨q,F,v,rfl,g⟩|⟨c,d,f,n,o,r,rfl,q,m,u,h,I⟩)
    ·exact wpS_pure ⟨q,F,Y,g⟩
    exact wpS_bind (eA λt q'=>wpS_pure ⟨Q,Y,q.trans q',m,u,h,I⟩)
   case OH =>
    rintro x e t _ xn ⟨c,d,f,n,o,r,rfl,q,m,u,h,I⟩;let⟨y,L,C⟩:=fj h
    extract_lets +onlyGivenNames s1 v1 s2 v2 s3 v3 s4 v4 s5 v5 v6
    subst s1 v1 s2 v2 s3 v3 s4 v4 s5 v5 v6;dsimp -zeta only
    extract_lets _ j
    refine jp (λW=>∀ n t,HR st t->W (j () n) t) (λn t q=>?_) λg=>nG (λ_=>g _ _ q) λ_=>g _ _ q;refine wpS_bind (eA λt q'=>?_);have q:=q.trans q';refine wpS_bind (zg C (wpS_bind (LO M (q.1.trans N) (T y L) O ∅ (λi j hi g hn=>sA i j g ∅) ∅ λG o b1 n=>?_)))
    let kl:d+G<a.size:=by
     by_cases o:d+G<a.size
     ·exact o
     let⟨v,o,B⟩:=fj (a:=a) (i:=a.size-1) ∅;let p:=b1 (a.size-1-d) ∅;rw[show d+(a.size-1-d)=a.size-1 by lia,dz B]at p;let p:=CY p;have:=hl y v L B;lia
    let ae:∀ v,a[d+G]?=⇑v->key y<=key v:=λv B=>by
     let p:=n G (d7 _) ∅;rw[dz B]at p;exact eO (CZ p)
    dsimp -zeta only
    extract_lets _ j
    refine (jp (λW=>∀ c i,Lo key a b c i f->i=d+G->i+1<a.size->W (j () c i) t) (λc i m k u=>?_) λg=>nG (λn=>?_) λn=>g _ _ m ∅ u)
    ·subst k;let m:=m.BO C ae;let⟨x,hx,D⟩:=fj kl;refine wpS_bind (zg C (n8 (λH=>wpS_pure (.inl ⟨q,E,1,m.done H⟩)) λH=>wpS_bind (zg D (wpS_bind (LO M (q.1.trans N) (O x hx) T ∅ (λi j hi g hn=>sB i j g ∅) ∅ λab n d1 d2=>?_)))));dsimp -zeta only
     extract_lets _ _ j
     refine (jp (λW=>∀ c i,Lo key a b c (d+G) i->i=f+1+ab->i<b.size->W (j () c i) t) (λc i m k h=>?_) λg=>nG (λd=>?_) λd=>g _ _ m ∅ ∅)
     ·subst k
      let m:=m.E3 D λv B=>by
       let p:=d2 ab (d7 _) ∅;rw[dz B]at p;exact uq p
      refine wpS_bind (zg D (n8 (λd=>wpS_pure (.inl ⟨q,E,1,m.last d J⟩)) λd=>nG (λ_=>wpS_pure (.inr ⟨Q,Q,1,q,m,?_,h,?_⟩)) λ_=>wpS_pure ⟨Q,Q,1,q,m,?_,h,?_⟩)) <;> lia
     ·let m:=m.Wy (n:=ab) λj v g B ag ev=>by
       cases D.symm.trans ev;let p:=d1 j g;rw[dz B]at p;exact eO (C0 p)
      exact n8 (λd=>wpS_pure (.inl ⟨q,E,1,m.done d⟩)) λd=>g _ _ m rfl ∅
    ·let m:=m.Wx (n:=G) λj v g B ag ev=>by
      cases C.symm.trans ev;let p:=b1 j g;rw[dz B]at p;exact CY p
     exact n8 (λl=>wpS_pure (.inl ⟨q,E,1,m.last l J⟩)) λl=>n8 (λe=>absurd e ∅) λ_=>g _ _ m rfl ∅
end
end _fE
namespace _fE
open Spec Rows _L2 _cF
def E5:Array Keyed->Array Keyed->StateT SortSt Sem (XB):=sortPriv% PySem.Builtin.mergeHi
def Hi(c:Keyed->Nat)(a b d:XB)(e f:Nat):Prop:=Mg (λx=>-(c x:Int)) (a.toList++b.toList) d.toList (a.toList.take e).reverse (b.toList.take f).reverse
section
variable {key:Keyed->Nat} {a b out:XB} {c d n:Nat} {x:Keyed}
def Ux{i:Nat}(e:a[i]?=⇑x):(a.toList.take (i+1)).reverse=x::(a.toList.take i).reverse:=by
 let⟨h,rfl⟩:=Array.getElem?_eq_some_iff.mp e;rw[List.take_succ_eq_append_getElem (by simpa using h),List.reverse_append];rfl
def J8{i:Nat}:(a.extract 0 i).toList=a.toList.take i:=by
 rw[Array.toList_extract,List.extract_eq_take_drop];rfl
def Uy{i n:Nat}(h:i<=n):(a.toList.take n).reverse=(a.extract i n).reverse.toList++(a.toList.take i).reverse:=by
 rw[Array.toList_reverse,← List.reverse_append,Array.toList_extract,List.extract_eq_take_drop,← List.drop_take];congr 1;have:=(List.take_append_drop i (a.toList.take n)).symm;rwa [List.take_take,Nat.min_eq_left h]at this
def J9{l:List Keyed}{n:Nat}{y:Keyed}(h:y∈(l.take (n+1)).reverse.head?)(e:n<↑l):l[n]?=⇑y:=by
 rw[List.take_succ_eq_append_getElem e,List.reverse_append]at h;rw[nh e];exact h
def Hi.E3(m:Hi key a b out (c+1) d)(e:a[c]?=⇑x)(i:0<d)(j:d<=b.size)(h:∀ y,b[d-1]?=⇑y->key y<=key x):Hi key a b (out.push x) c d:=by
 unfold Hi at m ⊢;rw[Ux e]at m;rw[Array.toList_push];obtain⟨d,rfl⟩:∃ f,d=f+1:=⟨d-1,by lia⟩;refine Mg.run (A1:=[x]) m λk f y g=>?_;rw[List.mem_singleton.mp f];have:=h y (by simpa using J9 g (by simp;lia));lia
def Hi.OI(m:Hi key a b out c d)(p:0<c)(e:a[c-1]?=⇑x)(f:0<d)(g:d<=b.size)(h:∀ y,b[d-1]?=⇑y->key y<=key x):Hi key a b (out.push x) (c-1) d:=by
 obtain⟨c,rfl⟩:∃ i,c=i+1:=⟨c-1,by lia⟩;exact m.E3 e f g h
def Hi.BO(m:Hi key a b out c (d+1))(f:b[d]?=⇑x)(i:c<=a.size)(h:∀ y,0<c->a[c-1]?=⇑y->key y<=key x):Hi key a b (out.push x) c d:=by
 unfold Hi at m ⊢;rw[Ux f]at m;rw[Array.toList_push];refine (Mg.run (A1:=[x]) m.swap λj g y e=>?_).swap;rw[List.mem_singleton.mp g]
 cases c with
 | zero=>cases e
 | succ c =>
  have:=h y ∅ (by simpa using J9 e (by simp;lia));lia
def ZL{i n:Nat}(h:x∈(a.extract i n).reverse.toList):∃ j,i<=j/\j<n/\a[j]?=⇑x:=by
 rw[Array.toList_reverse,List.mem_reverse,Array.toList_extract,List.extract_eq_take_drop]at h;let⟨j,b,e⟩:=List.getElem_of_mem h;rw[gO]at b;refine⟨i+j,by lia,by omega,?_⟩;rw[List.getElem_take,List.getElem_drop]at e;rw[pD,Array.length_toList]at b;rw[Array.getElem?_eq_getElem ∅,← e];rfl
def Hi.Wx(m:Hi key a b out c d)(l:n<=c)(o:0<d)(p:d<=b.size)(h:∀ j x,n<=j->j<c->a[j]?=⇑x->∀ y,b[d-1]?=⇑y->key y<=key x):Hi key a b (out++(a.extract n c).reverse) n d:=by
 unfold Hi at m ⊢;rw[Uy l]at m;rw[Array.toList_append];obtain⟨d,rfl⟩:∃ e,d=e+1:=⟨d-1,by lia⟩;refine m.run λx e y f=>?_;let⟨j,g,i,k⟩:=ZL e;have:=h j x g i k y (by simpa using J9 f (by simp;lia));lia
def Hi.Wy(m:Hi key a b out c d)(l:n<=d)(o:0<c)(p:c<=a.size)(h:∀ j x,n<=j->j<d->b[j]?=⇑x->∀ y,a[c-1]?=⇑y->key y<=key x):Hi key a b (out++(b.extract n d).reverse) c n:=by
 unfold Hi at m ⊢;rw[Uy (a:=b) l]at m;rw[Array.toList_append];obtain⟨c,rfl⟩:∃ e,c=e+1:=⟨c-1,by lia⟩;refine (m.swap.run λx e y f=>?_).swap;let⟨j,g,i,k⟩:=ZL e;have:=h j x g i k y (by simpa using J9 f (by simp;lia));lia
theorem ZM{W l:List Keyed}(h:Fin (λx=>-(key x:Int)) W l):Fin (λx=>key x) W l.reverse:=⟨(List.reverse_perm _).trans h.1,List.pairwise_reverse.mpr (h.2.imp λh=>by dsimp only at h ⊢;lia)⟩
def Hi.done(m:Hi key a b out c d)(e:c=0):xo key a b (a.extract 0 c++b.extract 0 d++out.reverse):=by
 subst e;unfold Hi at m;unfold xo;have:=ZM m.swap.fin;rw[List.reverse_append,List.reverse_reverse]at this;rw[Array.toList_append,Array.toList_append,J8,J8,Array.toList_reverse];exact this
def Hi.first(m:Hi key a b out c d)(e:d=1)(h:∀ x y,x∈a.toList->b[0]?=⇑y->key y<=key x):xo key a b (b.extract 0 d++a.extract 0 c++out.reverse):=by
 subst e;unfold Hi at m;unfold xo
 have:=ZM (Mg.run (A1:=(a.toList.take c).reverse) (A2:=[]) (by rw[gG];exact m) λx g y f=>by
  have:=h x y (wY (List.mem_reverse.mp g)) (by
   cases e:b.toList with
   | nil=>rw[e]at f;cases f
   | cons g l =>
    rw[e]at f;rw[← Array.getElem?_toList,e]
    exact f)
  lia).swap.fin
 rw[List.reverse_append,List.reverse_append,List.reverse_reverse,List.reverse_reverse]at this;rw[Array.toList_append,Array.toList_append,J8,J8,Array.toList_reverse,jq];exact this
end
section
variable {prog:Program} {w:World} {A:Around} {E:ZB} {s:Shared} {z:XB} {key:Keyed->Nat} {kd:SortKind} {st:SortSt} {a b:XB}
structure HI(key:Keyed->Nat)(st:SortSt)(a b:XB)(x:Nat)(t:SortSt)(out:XB)(na nb:Nat):Prop where
 q:HR st t
 m:Hi key a b out na nb
 la:0<na
 la':na<=a.size
 lb:1<nb
 lb':nb<=b.size
 pr:x+(na+nb)<a.size+b.size
theorem oY{Q:Array Keyed->SortSt->Prop}(T:xm prog w A s key kd z)(U:kindOf st=kd)(za:∀ x∈a.toList,x∈z.toList)(zb:∀ x∈b.toList,x∈z.toList)(O:Lo key a b #[] 0 0)(h0:∀ x y,x∈a.toList->b[0]?=⇑y->key y<key x)(ha:0<a.size)(hb:0<b.size)(hl:∀ x y,b[b.size-1]?=⇑x->a[a.size-1]?=⇑y->key x<key y)
  (h:∀ c t,HR st t->xo key a b c->Q c t):wpS (model prog w) A E s (E5 a b) Q st:=by
 let R:∀ x y,x∈a.toList->b[0]?=⇑y->key y<=key x:=λx y p q=>eO (h0 x y p q);have sA:∀ i j,i<=j->j<a.size->KN key a i<=KN key a j:=λi j=>RZ O.sa (ic _);have sB:∀ i j,i<=j->j<b.size->KN key b i<=KN key b j:=λi j=>RZ O.sb (ic _);have D:HR st st:=⟨V,V⟩
 let m:Hi key a b #[] a.size b.size:=by
  unfold Hi;rw[show a.toList.take a.size=a.toList from pC (by simp),show b.toList.take b.size=b.toList from pC (by simp)];exact⟨(List.Perm.append (List.reverse_perm _) (List.reverse_perm _):(a.toList.reverse++b.toList.reverse).Perm _),.nil,List.pairwise_reverse.mpr (O.sa.imp λh=>Int.neg_le_neg h),List.pairwise_reverse.mpr (O.sb.imp λh=>Int.neg_le_neg h),λ_ h=>(nomatch h),λ_ h=>(nomatch h)⟩
 delta E5
 let⟨a0,MT,e0⟩:=fj (a:=a) (i:=a.size-1) ∅;refine wpS_bind (wpS_lift (wpAny_rule ⟨1,wpS_bind (zg e0 ?_)⟩));let m1:Hi key a b (List.toArray [a0]) (a.size-1) b.size:=Hi.OI (out:=#[]) m ha e0 hb (d7 _) λy k=>eO (hl y a0 k e0)
 refine n8 (λl=>wpS_pure (h _ _ D (m1.done l))) λl=>n8 (λI=>wpS_pure (h _ _ D (m1.first I R))) λI=>wpS_bind (wpS_get ?_)
 refine wpS_bind (wpS_mono (wpS_forRange (I:=λx d t=>∃ c f e n,d=(none,f,e,c,n)/\HI key st a b x t c f e) (Q:=Yh key st a b) ?jr ?c' ⟨_,a.size-1,b.size,Y,D,m1,by lia,by lia,by lia,by lia,by lia⟩) ?OE)
 case OE =>
  rintro d t ⟨q,D,u,rfl,g⟩;exact wpS_pure (h _ _ q g)
 case c' =>
  rintro d t ⟨_,_,_,_,_,_,_,_,_,_,_,J⟩;exfalso;lia
 case jr =>
  rintro X d t _ xn ⟨c,f,e,n,rfl,ab⟩;refine wpS_bind (wpS_mono (wpS_forRange (I:=λx d t=>∃ c f e o r,d=(none,f,e,c,o,r)/\HI key st a b (X+x) t c f e) (Q:=λd t=>Yh key st a b d t\/∃ c f e o r,d=(none,f,e,c,o,r)/\HI key st a b (X+1) t c f e) ?OG ?Wz ⟨Q,E,1,ab⟩) ?WA)
  case Wz =>
   rintro d t ⟨_,_,_,_,_,k,q,m,G,L,F,M,J⟩;exact .inr ⟨Q,E,k,q,m,G,L,F,M,by lia⟩
  case OG =>
   rintro x d t _ xn ⟨c,f,e,o,r,rfl,q,m,G,L,F,M,J⟩;obtain⟨f,rfl⟩:∃ d,f=d+1:=⟨f-1,by lia⟩;obtain⟨e,rfl⟩:∃ d,e=d+1:=⟨e-1,by lia⟩;let⟨y,hy,B⟩:=fj (a:=b) (i:=e) ∅;let⟨x,S,C⟩:=fj (a:=a) (i:=f) ∅;dsimp only;rw[Nat.add_sub_cancel,Nat.add_sub_cancel];refine wpS_bind (zg B (wpS_bind (zg C (ZK T (q.1.trans U) (zb y hy) (za x S) (λd=>wpS_bind (zg C ?_)) λd=>wpS_bind (zg B ?_)))))
   ·let m:=Hi.E3 m C ∅ ∅ λu k=>by cases B.symm.trans k;exact eO d
    refine n8 (λl=>wpS_pure (.inl ⟨q,E,1,m.done l⟩)) λl=>nG (λ_=>wpS_pure (.inr ⟨Q,E,1,q,m,?_,?_,?_,?_,?_⟩)) λ_=>wpS_pure ⟨Q,E,1,q,m,?_,?_,?_,?_,?_⟩ <;> lia
   ·let m:=Hi.BO m B ∅ λu _ k=>by cases C.symm.trans k;exact d
    refine n8 (λl=>wpS_pure (.inl ⟨q,E,1,m.first l R⟩)) λl=>nG (λ_=>wpS_pure (.inr ⟨Q,E,1,q,m,?_,?_,?_,?_,?_⟩)) λ_=>wpS_pure ⟨Q,E,1,q,m,?_,?_,?_,?_,?_⟩ <;> lia
  case WA =>
   rintro d t (⟨q,D,u,rfl,g⟩|⟨c,f,e,o,r,rfl,ab⟩)
   ·exact wpS_pure ⟨q,D,Y,g⟩
   refine wpS_bind (wpS_lift (wpAny_rule ⟨1,wpS_bind (wpS_mono (wpS_forRange (I:=λx d t=>∃ c f e n o r,d=(none,f,e,c,n,o,r)/\HI key st a b (X+1) t c f e) (Q:=λd t=>Yh key st a b d t\/∃ c f e n o r,d=(none,f,e,c,n,o,r)/\HI key st a b (X+1) t c f e) ?OH (λ_ _=>.inr) ⟨Q,Q,1,ab⟩) ?X')⟩))
   case X' =>
    rintro d t (⟨q,D,u,rfl,g⟩|⟨c,f,e,n,o,r,rfl,q,m,G,L,F,M,J⟩)
    ·exact wpS_pure ⟨q,D,Y,g⟩
    exact wpS_bind (eA λt q'=>wpS_pure ⟨Q,Y,q.trans q',m,G,L,F,M,J⟩)
   case OH =>
    rintro x d t _ xn ⟨c,f,e,n,o,r,rfl,q,m,G,L,F,M,J⟩;obtain⟨e,rfl⟩:∃ d,e=d+1:=⟨e-1,by lia⟩;let⟨y,hy,B⟩:=fj (a:=b) (i:=e) ∅
    extract_lets +onlyGivenNames s1 v1 s2 v2 s3 v3 s4 v4 s5 v5 v6
    subst s1 v1 s2 v2 s3 v3 s4 v4 s5 v5 v6;dsimp -zeta only;rw[Nat.add_sub_cancel]
    extract_lets v7 j
    subst v7;refine jp (λW=>∀ n t,HR st t->W (j () n) t) (λn t q=>?_) λg=>nG (λ_=>g _ _ q) λ_=>g _ _ q;refine wpS_bind (eA λt q'=>?_);have q:=q.trans q';refine wpS_bind (zg B (wpS_bind (LO T (q.1.trans U) (zb y hy) za ∅ (λi j H g hn=>sA i j g ∅) ∅ λN n f b2=>?_)))
    let ae:∀ u,0<N->a[N-1]?=⇑u->key u<=key y:=λu n v=>by
     let p:=f (N-1) ∅;rw[Nat.zero_add,dz v]at p;exact CY p
    dsimp -zeta only
    extract_lets v8 v9 j
    subst v9 v8;refine jp (λW=>∀ i c,Hi key a b c i (e+1)->i=N->0<i->W (j () i c) t) (λi c m k G=>?_) λg=>nG (λe=>?_) λe=>g _ _ m ∅ G
    ·subst k;let⟨x,S,C⟩:=fj (a:=a) (i:=i-1) ∅;let m:=Hi.BO m B ∅ ae
     refine wpS_bind (zg B (n8 (λI=>wpS_pure (.inl ⟨q,E,1,m.first I R⟩)) λI=>wpS_bind (zg C (wpS_bind (LO T (q.1.trans U) (za x S) zb ∅ (λi j H g hn=>sB i j g ∅) ∅ λH f e d2=>?_)))))
     let f:0<H:=by
      by_cases o:0<H
      ·exact o
      let⟨u,f,v⟩:=fj hb;let p:=d2 0 ∅ ∅;rw[Nat.zero_add,dz v]at p;let p:=uq p;have:=h0 x u S v;lia
     let Uz:∀ u,b[H-1]?=⇑u->key u<=key x:=λu v=>by
      let p:=e (H-1) ∅;rw[Nat.zero_add,dz v]at p;exact eO (C0 p)
     dsimp -zeta only
     extract_lets v8 v9 v7 j
     subst v9 v8 v7;refine jp (λW=>∀ n c,Hi key a b c i n->n=H->1<n->W (j () n c) t) (λn c m k F=>?_) λg=>nG (λe=>?_) λe=>g _ _ m ∅ ∅
     ·subst k;let m:=Hi.OI m ∅ C ∅ ∅ Uz
      refine wpS_bind (zg C (n8 (λe=>wpS_pure (.inl ⟨q,E,1,m.done e⟩)) λe=>nG (λ_=>wpS_pure (.inr ⟨Q,Q,1,q,m,?_,?_,F,?_,?_⟩)) λ_=>wpS_pure ⟨Q,Q,1,q,m,?_,?_,F,?_,?_⟩)) <;> lia
     ·let m:=m.Wy (n:=H) ∅ ∅ ∅ λj u g WC v ag ev=>by
       cases C.symm.trans ev;let p:=d2 j g WC;rw[Nat.zero_add,dz v]at p;exact uq p
      exact n8 (λe=>wpS_pure (.inl ⟨q,E,1,m.first e R⟩)) λe=>n8 (λd=>absurd d ∅) λ_=>g _ _ m rfl ∅
    ·let m:=m.Wx (n:=N) ∅ ∅ ∅ λj u g WC v ag ev=>by
      cases B.symm.trans ev;let p:=b2 j g WC;rw[Nat.zero_add,dz v]at p;exact eO (CZ p)
     exact n8 (λl=>wpS_pure (.inl ⟨q,E,1,m.done l⟩)) λl=>g _ _ m rfl ∅
end
end _fE
namespace _fE
open Spec Rows _L2 _cF
def putAll(a:XB)(b:Nat)(l:List (Keyed × Nat)):XB:=l.foldl (λa p=>a.setIfInBounds (b+p.2) p.1) a
theorem rQ:∀ (l:List Keyed) (k:Nat) (b:XB) (a:Nat),a+k+↑l<=b.size->(putAll b a (l.zipIdx k)).toList=b.toList.take (a+k)++(l++b.toList.drop (a+k+↑l))
 | [],k,b,a,_=>by
  show b.toList=_;exact (List.take_append_drop _ _).symm
 | x::l,k,b,a,h=>by
  rw[jH]at h;let c:=rQ l (k+1) (b.setIfInBounds (a+k) x) a (by rw[Array.size_setIfInBounds];lia);refine Eq.trans (b:=_) ?_ (c.trans ?_)
  ·rfl
  ·let c:a+k<↑b.toList:=by rw[Array.length_toList];lia
   rw[Array.toList_setIfInBounds,jH,List.drop_set,if_pos ∅,← Nat.add_assoc,List.take_succ_eq_append_getElem (by rw[List.length_set];exact c),List.take_set_of_le (d7 _),List.getElem_set_self,jq,show a+k+1+↑l=a+k+(↑l+1) by lia];rfl
def iE(a:Keyed->Nat)(b:XB)(lo c:Nat):Prop:=∀ i j,lo<=i->i<=j->j<c->KN a b i<=KN a b j
section
variable {prog:Program} {w:World} {A:Around} {E:ZB} {s:Shared} {z:XB} {key:Keyed->Nat} {kd:SortKind} {st:SortSt} {a b:XB}
def OJ{lo c i:Nat}(h:lo+i<c):(a.extract lo c)[i]?=a[lo+i]?:=by
 rw[Array.getElem?_extract];by_cases b:c<=a.size
 ·rw[Nat.min_eq_left b,if_pos ∅]
 ·split
  ·rfl
  ·rw[Array.getElem?_eq_none ∅]
def UA{lo c:Nat}(h:iE key a lo c)(d:c<=a.size):(a.extract lo c).toList.Pairwise λx y=>(key x:Int)<=key y:=by
 refine List.pairwise_iff_getElem.mpr λi j b e f=>?_;rw[Array.length_toList,Array.size_extract,Nat.min_eq_left d]at b e;have q:=h (lo+i) (lo+j) ∅ ∅ ∅;rw[dz (Array.getElem?_eq_getElem (show lo+i<a.size by lia)),dz (Array.getElem?_eq_getElem (show lo+j<a.size by lia))]at q;simpa using q
def Ka{lo c:Nat}{x:Keyed}(h:x∈(a.extract lo c).toList):∃ i,lo<=i/\i<c/\a[i]?=⇑x:=by
 let⟨j,b,e⟩:=List.getElem_of_mem h;rw[Array.length_toList,Array.size_extract]at b;refine⟨lo+j,by lia,by omega,?_⟩;rw[← e,Array.getElem_toList,← Array.getElem?_eq_getElem,OJ ∅]
theorem OL{c e:Nat}{l:XB}(o:c<=e)(r:e<=a.size)(p:l.toList.Perm (a.extract c e).toList)(h:l.toList.Pairwise λx y=>(key x:Int)<=key y) :
  (putAll a c l.toList.zipIdx).Perm a/\iE key (putAll a c l.toList.zipIdx) c e/\(∀ i,(i<c\/e<=i)->(putAll a c l.toList.zipIdx)[i]?=a[i]?)/\∀ i,c<=i->i<e->∃ j,c<=j/\j<e/\KN key (putAll a c l.toList.zipIdx) i=KN key a j:=by
 let d:↑l.toList=e-c:=by rw[p.length_eq,Array.length_toList,Array.size_extract];lia
 let T:=rQ l.toList 0 a c ∅;rw[Nat.add_zero,d,show c+(e-c)=e by lia]at T;let L:↑(a.toList.take c)=c:=by rw[gO,Array.length_toList];lia
 let G:∀ i,c<=i->i<e->(putAll a c l.toList.zipIdx)[i]?=l.toList[i-c]?:=λi f g=>by
  rw[← Array.getElem?_toList,T,uT ∅,L,Cn ∅]
 refine⟨?_,λi j k n m=>?_,λi b=>?_,λi f g=>?_⟩
 ·refine Array.perm_iff_toList_perm.mpr ?_;rw[T]
  let D:a.toList=a.toList.take c++((a.extract c e).toList++a.toList.drop e):=by
   have:=OF (a:=a) (i:=c) (n:=e-c);rw[show c+(e-c)=e by lia]at this;rw[← this];exact (List.take_append_drop _ _).symm
  exact (List.Perm.append_left _ (p.append_right _)).trans (.of_eq D.symm)
 ·by_cases n:i=j
  ·rw[n];exact d7 _
  let q:=List.pairwise_iff_getElem.mp h (i-c) (j-c) ∅ ∅ ∅;rw[dz ((G i k ∅).trans (nh ∅)),dz ((G j ∅ m).trans (nh ∅))];exact Int.ofNat_le.mp q
 ·rw[← Array.getElem?_toList,T,← Array.getElem?_toList];rcases b with b|b
  ·rw[Cn ∅,List.getElem?_take_of_lt b]
  ·rw[uT ∅,L,uT ∅,d,List.getElem?_drop,show e+(i-c-(e-c))=i by lia]
 ·let m:l.toList[i-c]' ∅∈(a.extract c e).toList:=p.mem_iff.mp (List.getElem_mem _);let⟨j,b,d,k⟩:=Ka m;exists j,b,d;rw[dz ((G i f g).trans (nh ∅)),dz k]
end
end _fE
namespace _fE
open Spec Rows _L2 _cF
section
variable {prog:Program} {w:World} {A:Around} {E:ZB} {s:Shared} {z:XB} {key:Keyed->Nat} {kd:SortKind} {st:SortSt} {a b:XB}
def OM{t:SortSt}{Q:PUnit->SortSt->Prop}(h:Q ⟨⟩ t):wpS (model prog w) A E s (set t:StateT SortSt Sem PUnit) Q st:=by
 unfold wpS;rw[StateT.run_set];exact wpAny_pure ⟨1,h⟩
def zh{i:Nat}(e:b[i]?=a[i]?):KN key b i=KN key a i:=by unfold KN;rw[e]
theorem o0{i d f H c g pb:Nat}{Q:T1}(G:xm prog w A s key kd z)(n:kindOf st=kd)(y:∀ x∈(arrOf st).toList,x∈z.toList)(I:failedOf st=none)(p1:(pendingOf st)[i]?=⇑(d,f,H))(p2:(pendingOf st)[i+1]?=⇑(c,g,pb))(hs:c=d+f)(n1:0<f)(n2:0<g)(O:c+g<=(arrOf st).size)(B:iE key (arrOf st) d c)(C:iE key (arrOf st) c (c+g))
  (o:∀ t,kindOf t=kd->(arrOf t).Perm (arrOf st)->(∀ j,(j<d\/c+g<=j)->(arrOf t)[j]?=(arrOf st)[j]?)->iE key (arrOf t) d (c+g)->pendingOf t=((pendingOf st).setIfInBounds i (d,f+g,H)).eraseIdxIfInBounds (i+1)->failedOf t=none->Q true t):wpS (model prog w) A E s (mergeAt' i) Q st:=by
 delta mergeAt'
 refine wpS_bind (wpS_get ?_);dsimp only;rw[p1,p2];dsimp only;refine wpS_bind (OM ?_);let⟨r,X,J⟩:=fj (a:=arrOf st) (i:=c) ∅;refine wpS_bind (zg J (wpS_bind (LO (a:=arrOf st) G n (y r X) y ∅ (λi j b a O=>B i j b a ∅) n1 λk kn X b2=>?_)));dsimp only
 let R:∀ j,d<=j->j<d+k->KN key (arrOf st) j<=key r:=λj m q=>by
  let p:=X (j-d) ∅;rw[show d+(j-d)=j by lia]at p;exact CY p
 let L:∀ j,d+k<=j->j<c->key r<KN key (arrOf st) j:=λj m q=>by
  let p:=b2 (j-d) ∅ ∅;rw[show d+(j-d)=j by lia]at p;exact CZ p
 let Y:=dz (key:=key) J
 let M:∀ j,c<=j->j<c+g->key r<=KN key (arrOf st) j:=λj m q=>by
  rw[← Y];exact C c j (d7 _) m q
 by_cases S:f-k=0
 ·rw[if_pos (by simpa using S)];refine wpS_pure (o _ n (.refl _) (λ_ _=>rfl) (λi j b h a=>?_) rfl I);show KN key (arrOf st) i<=KN key (arrOf st) j;by_cases D:j<c
  ·exact B i j b h D
  by_cases e:c<=i
  ·exact C i j e h a
  ·exact fX (R i b ∅) (M j ∅ a)
 rw[if_neg (by simpa using S)];let⟨x,r,N⟩:=fj (a:=arrOf st) (i:=d+k+(f-k)-1) ∅;let X:=dz (key:=key) N;rw[show d+k+(f-k)-1=c-1 by lia]at X;refine wpS_bind (zg N (wpS_bind (LO (a:=arrOf st) G n (y x r) y O C ∅ λl ln S d2=>?_)));dsimp only
 let T:∀ j,c<=j->j<c+l->KN key (arrOf st) j<key x:=λj m q=>by
  let p:=S (j-c) ∅;rw[show c+(j-c)=j by lia]at p;exact C0 p
 let U:∀ j,c+l<=j->j<c+g->key x<=KN key (arrOf st) j:=λj m q=>by
  let p:=d2 (j-c) ∅ ∅;rw[show c+(j-c)=j by lia]at p;exact uq p
 let X2:∀ j,d<=j->j<c->KN key (arrOf st) j<=key x:=λj m q=>by
  rw[← X];exact B j (c-1) m ∅ ∅
 let m:0<l:=by
  by_cases a:0<l
  ·exact a
  let p:=U c ∅ ∅;have:=L (c-1) ∅ ∅;lia
 rw[if_neg (by simp;lia)];let p:((arrOf st).extract (d+k) c).size=f-k:=by rw[Array.size_extract];lia
 let q:((arrOf st).extract c (c+l)).size=l:=by rw[Array.size_extract];lia
 let W:0<((arrOf st).extract (d+k) c).size:=by rw[p];lia
 let py:0<((arrOf st).extract c (c+l)).size:=by rw[q];exact m
 let F:∀ {u v:Nat} (x:Keyed),x∈((arrOf st).extract u v).toList->x∈z.toList:=λx r=>by
  let⟨i,_,_,e⟩:=Ka r;exact y x (Array.mem_toList_iff.mpr (Array.mem_of_getElem? e))
 let ab:Lo key ((arrOf st).extract (d+k) c) ((arrOf st).extract c (c+l)) #[] 0 0:=⟨.refl _,.nil,UA (λi j b h a=>B i j ∅ h a) ∅,UA (λi j b h a=>C i j b h ∅) ∅,(λ_ o=>nomatch o),(λ_ o=>nomatch o)⟩
 let F1:∀ u v,u∈((arrOf st).extract (d+k) c).toList->((arrOf st).extract c (c+l))[0]?=⇑v->key v<key u:=λu v m e=>by
  let⟨i,a,b,h⟩:=Ka m;rw[OJ ∅,Nat.add_zero]at e;cases J.symm.trans e;rw[← dz (key:=key) h];exact L i a b
 let F2:∀ v u,v∈((arrOf st).extract c (c+l)).toList->((arrOf st).extract (d+k) c)[((arrOf st).extract (d+k) c).size-1]?=⇑u->key v<key u:=λv u m e=>by
  let⟨i,a,b,h⟩:=Ka m;rw[p,OJ ∅,show d+k+(f-k-1)=d+k+(f-k)-1 by lia]at e;cases N.symm.trans e;rw[← dz (key:=key) h];exact T i a b
 let N:∀ m t,HR (SortSt.mk' (kindOf st) (arrOf st) (((pendingOf st).setIfInBounds i (d,f+g,H)).eraseIdxIfInBounds (i+1)) (gallopOf st) (failedOf st)) t->xo key ((arrOf st).extract (d+k) c) ((arrOf st).extract c (c+l)) m->Q (failedOf t).isNone (setArr t (putAll (arrOf t) (d+k) m.toList.zipIdx)):=λm t q p=>by
  rw[show failedOf t=none from q.2.2.2.trans I];rw[show arrOf t=arrOf st from q.2.1]
  let J:m.toList.Perm ((arrOf st).extract (d+k) (c+l)).toList:=by
   refine p.1.trans (.of_eq ?_);rw[← Array.toList_append,Array.extract_append_extract];congr 2
   ·lia
   ·lia
  let⟨X,r2,r,S⟩:=OL (key:=key) ∅ ∅ J p.2;refine o _ (q.1.trans n) X (λj a=>r j ∅) (λi j b h a=>?_) q.2.2.1 (q.2.2.2.trans I);show KN key (putAll (arrOf st) (d+k) m.toList.zipIdx) i<=KN key (putAll (arrOf st) (d+k) m.toList.zipIdx) j;by_cases X:i<d+k
  ·rw[zh (r i (.inl X))];by_cases J:j<d+k
   ·rw[zh (r j (.inl J))];exact B i j b h ∅
   refine fX (R i b X) ?_;by_cases ae:j<c+l
   ·let⟨b,R,X,e⟩:=S j ∅ ae;rw[e];by_cases D:b<c
    ·exact eO (L b R D)
    ·exact M b ∅ ∅
   ·rw[zh (r j (.inr ∅))];exact M j ∅ a
  by_cases J:j<c+l
  ·exact r2 i j ∅ h J
  rw[zh (r j (.inr ∅))];by_cases J:i<c+l
  ·refine fX ?_ (U j ∅ a);let⟨b,R,X,e⟩:=S i ∅ J;rw[e];by_cases D:b<c
   ·exact X2 b ∅ D
   ·exact eO (T b ∅ X)
  ·rw[zh (r i (.inr ∅))];exact C i j ∅ h a
 by_cases b:f-k<=l
 ·rw[if_pos b];refine wpS_bind (oX G n F F ab (λu v e a=>F1 v u (Array.mem_toList_iff.mpr (Array.mem_of_getElem? a)) e) W py F2 λm t q p=>?_);exact wpS_bind (wpS_modify (wpS_bind (wpS_get (wpS_pure (N m t q p)))))
 ·rw[if_neg b];refine wpS_bind (oY G n F F ab F1 W py (λu v e a=>F2 u v (Array.mem_toList_iff.mpr (Array.mem_of_getElem? e)) a) λm t q p=>?_);exact wpS_bind (wpS_modify (wpS_bind (wpS_get (wpS_pure (N m t q p)))))
end
end _fE
namespace _fE
open Spec Rows _L2 _cF
structure Wi(st t:SortSt)(lo hi:Nat):Prop where
 kind:kindOf t=kindOf st
 perm:(arrOf t).Perm (arrOf st)
 out:∀ i,(i<lo\/hi<=i)->(arrOf t)[i]?=(arrOf st)[i]?
 pend:pendingOf t=pendingOf st
 fail:failedOf t=failedOf st
theorem Wi.rfl'{a:SortSt}{lo b:Nat}:Wi a a lo b:=⟨1,.refl _,λ_ _=>rfl,V⟩
theorem Wi.size{a t:SortSt}{lo b:Nat}(q:Wi a t lo b):(arrOf t).size=(arrOf a).size:=q.perm.size_eq
theorem Wi.mem{a t:SortSt}{lo b:Nat}{z:XB}(q:Wi a t lo b)(c:∀ x∈(arrOf a).toList,x∈z.toList):∀ x∈(arrOf t).toList,x∈z.toList:=λx d=>c x ((Array.perm_iff_toList_perm.mp q.perm).mem_iff.mp d)
section
variable {prog:Program} {w:World} {A:Around} {E:ZB} {s:Shared} {z:XB} {key:Keyed->Nat} {kd:SortKind} {st t:SortSt} {a b:XB} {lo c:Nat}
def Wi.o4(q:Wi st t lo c){k d:Nat}(f:k<c)(g:lo+d<=k)(h:c<=(arrOf st).size):Wi st (setArr t (bubble (arrOf t) k d)) lo c:=by
 refine⟨q.kind,(bubble_perm _ _ _).trans q.perm,λi a=>?_,q.pend,q.fail⟩;let e:=getElem?_bubble (xs:=arrOf t) (src:=k) (by rw[q.size];lia) d ∅ i;rw[if_neg ∅,if_neg ∅]at e;exact e.trans (q.out i a)
def Wi.eB(q:Wi st t lo c){i j:Nat}(d:lo<=i)(f:j<=c)(g:c<=(arrOf st).size):Wi st (setArr t (mirror (arrOf t) i j ((j-i) / 2))) lo c:=by
 refine⟨q.kind,(mirror_perm _ _ _ _).trans q.perm,λk a=>?_,q.pend,q.fail⟩;let e:=getElem?_mirror_all (xs:=arrOf t) (i:=i) (j:=j) (by rw[q.size];lia) k;rw[if_neg ∅]at e;exact e.trans (q.out k a)
def HU{i j:Nat}(d:j<=a.size)(k:Nat):KN key (mirror a i j ((j-i) / 2)) k=if i<=k/\k<j then KN key a (i+j-1-k) else KN key a k:=by
 let e:=getElem?_mirror_all (i:=i) d k;unfold KN;by_cases c:i<=k/\k<j
 ·rw[if_pos c]at e ⊢;rw[e]
 ·rw[if_neg c]at e ⊢;rw[e]
def nH{i j:Nat}(e:j<=a.size)(d:∀ k,i<=k->k<j->KN key a k=KN key a (j-1))(k:Nat):KN key (mirror a i j ((j-i) / 2)) k=KN key a k:=by
 rw[HU e];split
 ·rw[d _ ∅ ∅,d k ∅ ∅]
 ·rfl
def ON{k d:Nat}(f:k<a.size)(g:d<=k)(i:Nat):KN key (bubble a k d) i=if i=k-d then KN key a k else if k-d<i/\i<=k then KN key a (i-1) else KN key a i:=by
 let e:=getElem?_bubble f d g i;unfold KN;by_cases c:i=k-d
 ·rw[if_pos c]at e ⊢;rw[e]
 rw[if_neg c]at e ⊢;by_cases b:k-d<i/\i<=k
 ·rw[if_pos b]at e ⊢;rw[e]
 ·rw[if_neg b]at e ⊢;rw[e]
def ZN{i j:Nat}{Q:Option Bool->SortSt->Prop}(C:xm prog w A s key kd z)(e:kindOf t=kd)(d:∀ x∈(arrOf t).toList,x∈z.toList)(c:i<(arrOf t).size)(f:j<(arrOf t).size)(h:Q (⇑(decide (KN key (arrOf t) i<KN key (arrOf t) j))) t):wpS (model prog w) A E s (ltAt' i j) Q t:=by
 let⟨x,g,a⟩:=fj c;let⟨y,k,b⟩:=fj f;rw[dz a,dz b]at h
 delta ltAt'
 refine wpS_bind (wpS_get ?_);exact wpS_bind (zg a (wpS_bind (zg b (ew C e (d x g) (d y k) h))))
theorem ZO{n f:Nat}{Q:T1}(C:xm prog w A s key kd z)(v:kindOf st=kd)(y:∀ x∈(arrOf st).toList,x∈z.toList)(B:lo+n<=(arrOf st).size)(N:f<=n)(D:iE key (arrOf st) lo (lo+f))
  (G:∀ t,Wi st t lo (lo+n)->iE key (arrOf t) lo (lo+n)->Q true t):wpS (model prog w) A E s (binarySort' lo n f) Q st:=by
 delta binarySort'
 refine wpS_bind (wpS_mono (wpS_forRange (I:=λk a t=>a=(none,())/\Wi st t lo (lo+n)/\iE key (arrOf t) lo (lo+min k n)) (Q:=λa t=>a=(none,())/\Wi st t lo (lo+n)/\iE key (arrOf t) lo (lo+n)) ?step ?F' ?init) ?post)
 case post =>
  rintro a t ⟨rfl,q,b⟩;exact wpS_pure (G t q b)
 case init =>
  refine⟨1,.rfl',λi j o b H=>?_⟩;by_cases a:i=j
  ·rw[a];exact d7 _
  ·exact D i j o b ∅
 case F' =>
  rintro a t ⟨d,q,b⟩;exists d,q;rwa [Nat.min_eq_right (Nat.le_max_right _ _)]at b
 case step =>
  rintro k a t J O ⟨rfl,q,b⟩;rw[show min k n=k by lia]at b;let g:lo+k<(arrOf t).size:=by rw[q.size];lia
  refine wpS_bind (wpS_mono (wpS_forRange (I:=λx a u=>u=t/\∃ l r,a=(none,l,r)/\l<=r/\r<=k/\r+x<=k+l/\ (∀ i,lo<=i->i<lo+l->KN key (arrOf t) i<=KN key (arrOf t) (lo+k))/\(∀ i,lo+r<=i->i<lo+k->KN key (arrOf t) (lo+k)<KN key (arrOf t) i)) (Q:=λa u=>u=t/\∃ l r,a=(none,l,r)/\l<=k/\ (∀ i,lo<=i->i<lo+l->KN key (arrOf t) i<=KN key (arrOf t) (lo+k))/\(∀ i,lo+l<=i->i<lo+k->KN key (arrOf t) (lo+k)<KN key (arrOf t) i)) ?I' ?F' ?J') ?L')
  case J'=>exact⟨1,0,k,1,by lia,by lia,by lia,λi _ c=>by lia,λi h p=>by lia⟩
  case F' =>
   rintro a u ⟨rfl,l,r,rfl,H,j,L,d,e⟩;have:l=r:=by lia
   subst this;exact⟨1,l,l,1,j,d,e⟩
  case I' =>
   rintro x a u _ R ⟨rfl,l,r,rfl,H,j,L,d,e⟩;dsimp only;by_cases o:l>=r
   ·rw[if_pos o];have:l=r:=by lia
    subst this;exact wpS_pure ⟨1,l,l,1,j,d,e⟩
   ·rw[if_neg o];refine wpS_bind (ZN C (q.kind.trans v) (q.mem y) g ∅ ?_);let M:l<=(l+r) / 2/\(l+r) / 2<r:=by lia
    generalize (l+r) / 2=m at M ⊢;by_cases a:KN key (arrOf u) (lo+k)<KN key (arrOf u) (lo+m)
    ·rw[decide_eq_true a];refine wpS_pure ⟨1,l,m,1,by lia,by lia,by omega,d,λi h p=>?_⟩;exact oU a (b _ _ ∅ h p)
    ·rw[decide_eq_false a];refine wpS_pure ⟨1,m+1,r,1,by lia,by lia,by omega,λi j h=>?_,e⟩;exact fX (b i (lo+m) j ∅ ∅) (Nat.not_lt.mp a)
  case L' =>
   rintro a u ⟨rfl,l,r,rfl,a,d,e⟩;show wpS _ _ _ _ (do moveDown' (lo+k) (lo+l);pure (ForInStep.yield (none,()))) _ _;rw[moveDown'_eq];refine wpS_bind (wpS_modify (wpS_pure ⟨1,q.o4 ∅ ∅ B,?_⟩));rw[show min (k+1) n=k+1 by lia];intro i j o h H;show KN key (bubble (arrOf u) (lo+k) (lo+k-(lo+l))) i<=KN key (bubble (arrOf u) (lo+k) (lo+k-(lo+l))) j;rw[ON g ∅,ON g ∅,Nat.sub_sub_self (Nat.add_le_add_left a lo)]
   repeat' split
   all_goals first
    | (exfalso;lia)
    | exact d7 _
    | exact d _ ∅ ∅
    | exact eO (e _ ∅ ∅)
    | exact b _ _ ∅ ∅ ∅
end
end _fE
namespace _fE
open Spec Rows _L2 _cF
section
variable {prog:Program} {w:World} {A:Around} {E:ZB} {s:Shared} {z:XB} {key:Keyed->Nat} {kd:SortKind} {st t:SortSt} {a b:XB} {lo hi:Nat}
theorem asc{a c:Nat}{f:Nat->Option (Option Nat) × Nat->StateT SortSt Sem (ForInStep (Option (Option Nat) × Nat))}{Q:Option (Option Nat) × Nat->SortSt->Prop}
  (k:∀ (x n:Nat) (e:ForInStep (Option (Option Nat) × Nat)->SortSt->Prop),1<=n->n<c->(KN key (arrOf t) (lo+n)<KN key (arrOf t) (lo+n-1)->e (.done (none,n)) t)->(KN key (arrOf t) (lo+n-1)<=KN key (arrOf t) (lo+n)->e (.yield (none,n+1)) t)->wpS (model prog w) A E s (f x (none,n)) e t)
  (r:1<=a) (l:a<=c) (d:iE key (arrOf t) lo (lo+a)) (h:∀ n,a<=n->n<=c->iE key (arrOf t) lo (lo+n)->(n=c\/KN key (arrOf t) (lo+n)<KN key (arrOf t) (lo+n-1))->Q (none,n) t):wpS (model prog w) A E s (forIn [a:c] (none,a) f) Q t:=by
 refine wpS_forRange (I:=λx b u=>u=t/\b=(none,x)/\iE key (arrOf t) lo (lo+x)) ?step ?m' ⟨V,d⟩
 case m' =>
  rintro b u ⟨rfl,rfl,d⟩;rw[show max a c=c by lia]at d ⊢;exact h c l (d7 _) d (.inl rfl)
 case step =>
  rintro x b u o q ⟨rfl,rfl,d⟩;refine k x x _ ∅ q (λp=>h x o ∅ d (.inr p)) λp=>⟨V,λi j g m o=>?_⟩;by_cases b:j<lo+x
  ·exact d i j g m b
  obtain rfl:j=lo+x:=by lia
  by_cases b:i=lo+x
  ·rw[b];exact d7 _
  ·exact fX (d i (lo+x-1) g ∅ ∅) p
def HV(key:Keyed->Nat)(a:XB)(lo hi:Nat):Prop:=∀ i j,lo<=i->i<=j->j<hi->KN key a j<=KN key a i
theorem o8{n c:Nat}{o:Nat->Option (Option Nat) × Nat × Nat->StateT SortSt Sem (ForInStep (Option (Option Nat) × Nat × Nat))}{Q:Option (Option Nat) × Nat × Nat->SortSt->Prop}(y:lo+c<=(arrOf st).size)
  (B:∀ (x n q:Nat) (t:SortSt) (e:ForInStep (Option (Option Nat) × Nat × Nat)->SortSt->Prop),Wi st t lo (lo+c)->1<=n->n<c->(KN key (arrOf t) (lo+n)<KN key (arrOf t) (lo+n-1)->0<q->e (.yield (none,n+1,0)) (setArr t (mirror (arrOf t) (lo+n-(q+1)) (lo+n) ((lo+n-(lo+n-(q+1))) / 2))))->(KN key (arrOf t) (lo+n)<KN key (arrOf t) (lo+n-1)->q=0->e (.yield (none,n+1,0)) t)->(KN key (arrOf t) (lo+n-1)<KN key (arrOf t) (lo+n)->e (.done (none,n,q)) t)->(KN key (arrOf t) (lo+n)=KN key (arrOf t) (lo+n-1)->e (.yield (none,n+1,q+1)) t)->wpS (model prog w) A E s (o x (none,n,q)) e t)
  (G:1<=n) (C:n<=c) (W:Wi st t lo (lo+c)) (d:HV key (arrOf t) lo (lo+n))
  (r:∀ m q u,Wi st u lo (lo+c)->n<=m->m<=c->HV key (arrOf u) lo (lo+m)->q+1<=m->(∀ i,lo+m-(q+1)<=i->i<lo+m->KN key (arrOf u) i=KN key (arrOf u) (lo+m-1))->Q (none,m,q) u):wpS (model prog w) A E s (forIn [n:c] (none,n,0) o) Q t:=by
 refine wpS_forRange (I:=λx b u=>∃ q,b=(none,x,q)/\Wi st u lo (lo+c)/\HV key (arrOf u) lo (lo+x)/\q+1<=x/\(∀ i,lo+x-(q+1)<=i->i<lo+x->KN key (arrOf u) i=KN key (arrOf u) (lo+x-1))) ?step ?j' ⟨0,1,W,d,by omega,λi g h=>by congr 1;lia⟩
 case j' =>
  rintro b u ⟨q,rfl,W,d,f,a⟩;rw[show max n c=c by lia]at d f a ⊢;exact r c q u W C (d7 _) d f a
 case step =>
  rintro x b u z D ⟨q,rfl,W,d,f,a⟩
  let iM:∀ j:Array Keyed,(∀ k,KN key j k=KN key (arrOf u) k)->KN key (arrOf u) (lo+x)<=KN key (arrOf u) (lo+x-1)->HV key j lo (lo+(x+1)):=by
   intro j j p i k v F H;rw[j,j];by_cases b:k<lo+x
   ·exact d i k v F b
   obtain rfl:k=lo+x:=by lia
   by_cases l:i=lo+x
   ·rw[l];exact d7 _
   ·exact fX p (d i (lo+x-1) v ∅ ∅)
  refine B x x q u _ W ∅ D (λp b=>?_) (λp b=>?_) (λp=>r x q u W z ∅ d f a) λp=>?_
  ·exact⟨0,1,W.eB ∅ ∅ y,iM _ (nH (by rw[W.size];lia) a) (eO p),by lia,λi g h=>by congr 1;lia⟩
  ·exact⟨0,1,W,iM _ (λ_=>rfl) (eO p),by lia,λi g h=>by congr 1;lia⟩
  ·refine⟨q+1,1,W,iM _ (λ_=>rfl) (Nat.le_of_eq p),by lia,λi g h=>?_⟩;rw[show lo+(x+1)-1=lo+x by lia];by_cases l:i=lo+x
   ·rw[l]
   ·rw[p];exact a i ∅ ∅
def Sb{m:Nat}(d:HV key a lo (lo+m))(c:lo+m<=a.size):iE key (mirror a lo (lo+m) ((lo+m-lo) / 2)) lo (lo+m):=by
 intro i j b e f;rw[HU c,HU c,if_pos ∅,if_pos ∅];exact d _ _ ∅ ∅ ∅
theorem pc{d:Nat}{Q:Option Nat->SortSt->Prop}(C:xm prog w A s key kd z)(p:kindOf st=kd)(r:∀ x∈(arrOf st).toList,x∈z.toList)(u:1<=d)(v:lo+d<=(arrOf st).size)
  (D:∀ m t,Wi st t lo (lo+d)->1<=m->m<=d->iE key (arrOf t) lo (lo+m)->Q (⇑m) t):wpS (model prog w) A E s (countRun' lo d) Q st:=by
 let I:∀ (t:SortSt) (_:Wi st t lo (lo+d)) (n:Nat) (R:ForInStep (Option (Option Nat) × Nat)->SortSt->Prop),1<=n->n<d->(KN key (arrOf t) (lo+n)<KN key (arrOf t) (lo+n-1)->R (.done (none,n)) t)->(KN key (arrOf t) (lo+n-1)<=KN key (arrOf t) (lo+n)->R (.yield (none,n+1)) t)->∀ {y:Option Bool->StateT SortSt Sem (ForInStep (Option (Option Nat) × Nat))},y (⇑true)=pure (.done (none,n))->y (⇑false)=pure (.yield (none,n+1))->wpS (model prog w) A E s (ltAt' (lo+n) (lo+n-1) >>= y) R t:=λt W n R e a f g y y M=>by
  refine wpS_bind (ZN C (W.kind.trans p) (W.mem r) (by rw[W.size];lia) (by rw[W.size];lia) ?_);by_cases c:KN key (arrOf t) (lo+n)<KN key (arrOf t) (lo+n-1)
  ·rw[decide_eq_true c,y];exact wpS_pure (f c)
  ·rw[decide_eq_false c,M];exact wpS_pure (g (Nat.not_lt.mp c))
 delta countRun'
 refine wpS_bind (asc (λx n R e a f g=>I st .rfl' n R e a f g rfl rfl) (d7 1) u (λi j h B b=>by rw[show i=j by lia];exact d7 _) λn e a k y=>?_);dsimp -zeta only;refine n8 (λc=>wpS_pure (D n st .rfl' e a k)) λc=>?_;have J:=y.resolve_left c
 extract_lets G H N
 subst H G;refine jp (λW=>∀ t,Wi st t lo (lo+d)->HV key (arrOf t) lo (lo+(n+1))->W (N ()) t) (λt W F=>?_) λb=>nG (λy=>?_) λy=>b _ .rfl' ?_
 ·refine wpS_bind (wpS_lift (wpAny_rule ⟨1,?_⟩));refine wpS_bind (o8 v (λx n q t R W e a f g O S=>?_) ∅ ∅ W F λm q o W y T F M L=>?_)
  ·dsimp only;refine wpS_bind (ZN C (W.kind.trans p) (W.mem r) (by rw[W.size];lia) (by rw[W.size];lia) ?_);by_cases c:KN key (arrOf t) (lo+n)<KN key (arrOf t) (lo+n-1)
   ·rw[decide_eq_true c];dsimp only;rw[if_pos rfl];exact nG (λl=>wpS_bind (wpS_reverse (wpS_pure (f c l)))) λl=>wpS_pure (g c ∅)
   ·rw[decide_eq_false c];dsimp only;rw[if_neg lG];refine wpS_bind (ZN C (W.kind.trans p) (W.mem r) (by rw[W.size];lia) (by rw[W.size];lia) ?_);by_cases l:KN key (arrOf t) (lo+n-1)<KN key (arrOf t) (lo+n)
    ·rw[decide_eq_true l];exact wpS_pure (O l)
    ·rw[decide_eq_false l];exact wpS_pure (S ∅)
  ·extract_lets +onlyGivenNames G H U X
   subst G H U X;dsimp -zeta only
   extract_lets j
   refine jp (λZ=>∀ t,Wi st t lo (lo+d)->HV key (arrOf t) lo (lo+m)->Z (j ()) t) (λt W F=>?_) λb=>nG (λl=>wpS_bind (wpS_reverse (b _ (W.eB ∅ ∅ v) λi j h B b=>?_))) λ_=>b _ W F
   ·refine wpS_bind (wpS_reverse ?_);let V:=W.eB (i:=lo) (j:=lo+m) (d7 _) ∅ v;exact wpS_bind (asc (λx n R e a f g=>I _ V n R e a f g rfl rfl) ∅ T (Sb F (by rw[W.size];lia)) λn e a k _=>wpS_pure (D n _ V ∅ a k))
   ·show KN key (mirror (arrOf o) (lo+m-(q+1)) (lo+m) ((lo+m-(lo+m-(q+1))) / 2)) j<=KN key (mirror (arrOf o) (lo+m-(q+1)) (lo+m) ((lo+m-(lo+m-(q+1))) / 2)) i;rw[nH (by rw[W.size];lia) L,nH (by rw[W.size];lia) L];exact F i j h B b
 ·refine wpS_bind (ZN C p r ∅ ∅ ?_);by_cases l:KN key (arrOf st) lo<KN key (arrOf st) (lo+n-1)
  ·rw[decide_eq_true l];exact wpS_pure (D n st .rfl' e a k)
  ·rw[decide_eq_false l]
   let o:∀ a,lo<=a->a<lo+n->KN key (arrOf st) a=KN key (arrOf st) (lo+n-1):=λa u c=>by
    let e:=k lo a (d7 _) u c;let c:=k a (lo+n-1) u ∅ ∅;lia
   refine wpS_bind (wpS_reverse (b _ (Wi.rfl'.eB (d7 _) ∅ v) λi j h B b=>?_));show KN key (mirror (arrOf st) lo (lo+n) ((lo+n-lo) / 2)) j<=KN key (mirror (arrOf st) lo (lo+n) ((lo+n-lo) / 2)) i;rw[nH ∅ o,nH ∅ o];by_cases q:j<lo+n
   ·rw[o i h ∅,o j ∅ q];exact d7 _
   obtain rfl:j=lo+n:=by lia
   by_cases a:i=lo+n
   ·rw[a];exact d7 _
   ·rw[o i h ∅];exact eO J
 ·intro i j h B b;by_cases q:i=j
  ·rw[q];exact d7 _
  obtain rfl:i=lo:=by lia
  obtain rfl:n=1:=by lia
  obtain rfl:j=i+1:=by lia
  exact eO J
end
end _fE
namespace _fE
open Spec Rows _L2 _cF
def Ak(a:Keyed->Nat)(c:XB):List (Nat × Nat × Nat)->Nat->Nat->Prop
 | [],b,e=>b=e
 | x::l,b,e=>x.1=b/\0<x.2.1/\iE a c b (b+x.2.1)/\Ak a c l (b+x.2.1) e
section
variable {key:Keyed->Nat} {a a':XB}
theorem Ak.len:∀ {l:List (Nat × Nat × Nat)} {b e:Nat},Ak key a l b e->b+↑l<=e
 | [],_,_,h=>Nat.le_of_eq h
 | _::l,_,_,⟨_,n,_,h⟩=>by
  have:=h.len;rw[jH];lia
theorem iE.keep{lo b:Nat}(h:iE key a lo b)(k:∀ j,lo<=j->j<b->a'[j]?=a[j]?):iE key a' lo b:=λi j c e d=>by
 rw[zh (k i c ∅),zh (k j ∅ d)];exact h i j c e d
theorem Ak.keep:∀ {l:List (Nat × Nat × Nat)} {b e:Nat},Ak key a l b e->(∀ j,b<=j->j<e->a'[j]?=a[j]?)->Ak key a' l b e
 | [],_,_,h,_=>h
 | _::l,b,e,⟨c,n,s,h⟩,k=>⟨c,n,s.keep λj c d=>k j c (by have:=h.len;lia),h.keep λj c d=>k j ∅ d⟩
theorem Ak.app:∀ {l r:List (Nat × Nat × Nat)} {b e:Nat},Ak key a (l++r) b e↔∃ m,Ak key a l b m/\Ak key a r m e
 | [],r,b,e=>⟨λh=>⟨b,1,h⟩,λ⟨m,h,g⟩=>by cases (show b=m from h);exact g⟩
 | x::l,r,b,e=>by
  refine⟨λ⟨c,n,s,h⟩=>?_,λ⟨m,⟨c,n,s,h⟩,g⟩=>⟨c,n,s,Ak.app.mpr ⟨m,h,g⟩⟩⟩;let⟨m,h,g⟩:=Ak.app.mp h;exact⟨m,⟨c,n,s,h⟩,g⟩
theorem Ak.mod{f:Nat × Nat × Nat->Nat × Nat × Nat}(c:∀ x,(f x).1=x.1/\(f x).2.1=x.2.1):∀ {l:List (Nat × Nat × Nat)} {i b e:Nat},Ak key a l b e->Ak key a (l.modify i f) b e
 | [],i,_,_,h=>by rw[List.modify_nil];exact h
 | x::l,0,b,e,⟨d,n,s,h⟩=>by
  rw[List.modify_zero_cons]
  refine⟨(c x).1.trans d,?_,?_,?_⟩ <;> rw[(c x).2] <;> assumption
 | x::l,i+1,b,e,⟨d,n,s,h⟩=>by
  rw[List.modify_succ_cons];exact⟨d,n,s,h.mod c⟩
theorem Kc{b:Type}{v x y:b}{r:List b}:∀ l:List b,((l++x::y::r).set ↑l v).eraseIdx (↑l+1)=l++v::r
 | []=>rfl
 | c::l=>congrArg (c::·) (Kc l)
def WD{c:Type}{l:List c}{i:Nat}(h:i+1<↑l):∃ b x y d,l=b++x::y::d/\↑b=i:=by
 refine⟨l.take i,l[i],l[i+1],l.drop (i+2),?_,by rw[gO];lia⟩;rw[← List.drop_eq_getElem_cons,← List.drop_eq_getElem_cons,List.take_append_drop]
end
section
variable {prog:Program} {w:World} {A:Around} {E:ZB} {s:Shared} {z:XB} {key:Keyed->Nat} {kd:SortKind} {st t:SortSt}
structure RI(key:Keyed->Nat)(kd:SortKind)(z:XB)(t:SortSt)(lo:Nat):Prop where
 kind:kindOf t=kd
 perm:(arrOf t).Perm z
 fail:failedOf t=none
 Sd:Ak key (arrOf t) (pendingOf t).toList 0 lo
 le:lo<=z.size
theorem RI.size{lo:Nat}(r:RI key kd z t lo):(arrOf t).size=z.size:=r.perm.size_eq
theorem RI.mem{lo:Nat}(r:RI key kd z t lo):∀ x∈(arrOf t).toList,x∈z.toList:=λx a=>(Array.perm_iff_toList_perm.mp r.perm).mem_iff.mp a
def UB{lo i:Nat}{Q:T1}(C:xm prog w A s key kd z)(r:RI key kd z t lo)(n:i+1<(pendingOf t).size)(p:∀ u,RI key kd z u lo->(∀ j,lo<=j->(arrOf u)[j]?=(arrOf t)[j]?)->(pendingOf u).size+1=(pendingOf t).size->Q true u):wpS (model prog w) A E s (mergeAt' i) Q t:=by
 let⟨q,x,y,v,e,rfl⟩:=WD (l:=(pendingOf t).toList) n;let⟨c,B,D⟩:=x;let⟨a,F,o⟩:=y;let a:=r.Sd;rw[e]at a;let⟨o,d,f,g,h,k,l,m,b⟩:=Ak.app.mp a;dsimp only at f k g l h m b;subst f;subst k;let a:=d.len;let _L2:=b.len;have:=r.le;refine o0 C r.kind r.mem r.fail (by rw[← Array.getElem?_toList,e,uT (d7 _),Nat.sub_self];rfl) (by rw[← Array.getElem?_toList,e,uT (Nat.le_add_right _ 1),Nat.add_sub_cancel_left];rfl) rfl g l (by rw[r.size];lia) h m λu k a o g h l=>?_
 let f:(pendingOf u).toList=q++(c,B+F,D)::v:=by
  rw[h,Array.toList_eraseIdxIfInBounds,Array.toList_setIfInBounds,e,Kc]
 refine p u ⟨k,a.trans r.perm,l,?_,r.le⟩ (λj a=>o j (.inr ∅)) ?_
 ·rw[f];refine Ak.app.mpr ⟨c,d.keep λj _ a=>o j (.inl a),1,by dsimp only;lia,?_,?_⟩
  ·rw[← Nat.add_assoc];exact g
  ·rw[← Nat.add_assoc];exact b.keep λj a _=>o j (.inr a)
 ·rw[← Array.length_toList,f,← Array.length_toList,e];simp only[cR,jH];lia
theorem RI.wi{u:SortSt}{lo a:Nat}(r:RI key kd z t lo)(W:Wi t u lo a):RI key kd z u lo:=⟨W.kind.trans r.kind,W.perm.trans r.perm,W.fail.trans r.fail,by rw[W.pend];exact r.Sd.keep λj _ b=>W.out j (.inl b),r.le⟩
theorem RI.push{lo n:Nat}(r:RI key kd z t lo)(a:iE key (arrOf t) lo (lo+n))(b:0<n)(le:lo+n<=z.size):RI key kd z (setPending t ((pendingOf t).push (lo,n,0))) (lo+n):=⟨r.kind,r.perm,r.fail,by
 show Ak key (arrOf t) ((pendingOf t).push (lo,n,0)).toList 0 (lo+n);rw[Array.toList_push]
 exact Ak.app.mpr ⟨lo,r.Sd,1,b,a,1⟩,le⟩
theorem RI.pow{lo i a:Nat}(r:RI key kd z t lo):RI key kd z (setPending t ((pendingOf t).modify i λx=>(x.1,x.2.1,a))) lo:=⟨r.kind,r.perm,r.fail,by
 show Ak key (arrOf t) ((pendingOf t).modify i λx=>(x.1,x.2.1,a)).toList 0 lo;rw[Array.toList_modify]
 exact Ak.mod (f:=λx=>(x.1,x.2.1,a)) (λx=>⟨V⟩) r.Sd,r.le⟩
theorem two{b:Type}{c:Nat->Prop}{D:∀ m,Decidable (c m)}{G f:Nat->StateT SortSt Sem b}{a:b->SortSt->Prop}{P:Nat->SortSt->Prop}(T:∀ n v,P n v->wpS (model prog w) A E s (G n) a v)(h:∀ n v,P n v->c n->(∀ n v,P n v->wpS (model prog w) A E s (G n) a v)->wpS (model prog w) A E s (f n) a v)(n:Nat)(v:SortSt)(p:P n v):wpS (model prog w) A E s (if c n then f n else G n) a v:=nG (λc=>h n v p c T) λ_=>T n v p
def ZS{Q:Unit->SortSt->Prop}(C:xm prog w A s key kd z)(i:kindOf st=kd)(g:arrOf st=z)(j:failedOf st=none)(q:pendingOf st=#[])(J:2<=z.size)(h:∀ t,(arrOf t).Perm z->failedOf t=none->iE key (arrOf t) 0 z.size->Q () t):wpS (model prog w) A E s sortRuns' Q st:=by
 let r:RI key kd z st 0:=⟨i,by rw[g],j,by rw[q];rfl,ic _⟩;rw[sortRuns'_eq];refine wpS_bind (wpS_get ?_);dsimp only;rw[g];refine wpS_bind (wpS_mono (wpS_forRange (I:=λx c t=>∃ lo,c=(none,lo)/\RI key kd z t lo/\x<=lo) (Q:=λc t=>c=(none,z.size)/\RI key kd z t z.size) ?d' ?out ⟨0,1,r,d7 _⟩) ?f')
 case out =>
  rintro c t ⟨lo,rfl,r,l⟩;have:=r.le;obtain rfl:lo=z.size:=by lia
  exact⟨1,r⟩
 case d' =>
  rintro x c t _ B ⟨lo,rfl,r,l⟩;let l:=r.le;dsimp only;by_cases c:lo>=z.size
  ·rw[if_pos c];obtain rfl:lo=z.size:=by lia
   exact wpS_pure ⟨1,r⟩
  rw[if_neg c];refine wpS_bind (pc C r.kind r.mem ∅ (by rw[r.size];lia) λm u W D F a=>?_);dsimp only
  replace a:RI key kd z u lo/\iE key (arrOf u) lo (lo+m)/\0<m/\lo+m<=z.size:=⟨r.wi W,a,by lia,by lia⟩
  clear F D W;revert m u;refine two (λn v p=>?_) λn v p l G=>?_
  ·let⟨R,a,H,I⟩:=p;refine wpS_bind (wpS_get ?_)
   cases l:(pendingOf _).back? with
   | none=>exact wpS_bind (wpS_modify (wpS_pure ⟨lo+n,1,R.push a ∅ ∅,by lia⟩))
   | some b =>
    let⟨l,m,u⟩:=b;dsimp only;refine wpS_bind (wpS_mono (wpS_forRange (I:=λ_ c v=>c=(none,())/\RI key kd z v lo/\iE key (arrOf v) lo (lo+n)) (Q:=λc v=>c=(none,())/\RI key kd z v lo/\iE key (arrOf v) lo (lo+n)) ?_ (λ_ _ h=>h) ⟨1,R,a⟩) ?_)
    ·rintro x c v _ _ ⟨rfl,R,a⟩;refine wpS_bind (wpS_get ?_);by_cases f:(pendingOf v).size > 1
     ·rw[if_pos f,Array.getElem?_eq_getElem ∅];dsimp only;split
      ·exact wpS_pure ⟨1,R,a⟩
      ·exact wpS_bind (UB C R ∅ λy e o _=>wpS_pure ⟨1,e,a.keep λl m _=>o l m⟩)
     ·rw[if_neg f];exact wpS_pure ⟨1,R,a⟩
    ·rintro c v ⟨rfl,R,a⟩;dsimp only;exact wpS_bind (wpS_modify (wpS_bind (wpS_modify (wpS_pure ⟨lo+n,1,RI.push R.pow a ∅ ∅,by lia⟩))))
  ·let⟨R,a,H,I⟩:=p;refine wpS_bind (wpS_lift (wpAny_rule ⟨1,?_⟩));refine wpS_bind (ZO C R.kind R.mem (by rw[R.size];lia) ∅ a λv W a=>?_);rw[if_neg (by decide)];exact G _ _ ⟨R.wi W,a,by lia,by lia⟩
 case f' =>
  rintro c t ⟨rfl,r⟩;dsimp only;let L:=r.Sd.len;rw[Array.length_toList]at L;refine wpS_bind (wpS_mono (wpS_forRange (I:=λx c t=>c=(none,())/\RI key kd z t z.size/\(pendingOf t).size+x<=z.size) (Q:=λc t=>c=(none,())/\RI key kd z t z.size/\(pendingOf t).size<=1) ?d' ?out ⟨1,r,by lia⟩) ?f')
  case out =>
   rintro c t ⟨rfl,r,l⟩;exact⟨1,r,by lia⟩
  case d' =>
   rintro x c t _ B ⟨rfl,r,l⟩;refine wpS_bind (wpS_get ?_);by_cases c:(pendingOf t).size<=1
   ·rw[if_pos c];exact wpS_pure ⟨1,r,c⟩
   rw[if_neg c];refine wpS_bind (UB C r ?_ λy e o d=>wpS_pure ⟨1,e,by lia⟩)
   let a:∀ p:Bool,(if p=true then (pendingOf t).size-2-1 else (pendingOf t).size-2)+1<(pendingOf t).size:=λp=>by cases p <;> simp <;> lia
   exact a _
  case f' =>
   rintro c t ⟨rfl,r,l⟩;refine wpS_pure (h t r.perm r.fail ?_);let c:=r.Sd;rw[← Array.length_toList]at l
   cases e:(pendingOf t).toList with
   | nil=>rw[e]at c;exact absurd (show 0=z.size from c) ∅
   | cons x k =>
    rw[e]at c l
    cases k with
    | cons y k=>exact absurd l (by simp)
    | nil =>
     let⟨_,_,a,e⟩:=c;rw[show 0+x.2.1=z.size from e]at a;exact a
end
end _fE
namespace _fE
open Spec Rows _L2 _cF
theorem OO{a:Type}{p q:a->Bool}{x:a}:∀ {l:List a},(∀ y∈l,p y=true->q y=true)->x∈l->q x=true->p x=false->l.countP p<l.countP q
 | [],_,m,_,_=>by cases m
 | y::l,h,m,c,hp=>by
  let e:l.countP p<=l.countP q:=List.countP_mono_left λz b=>h z (jT _ b);rw[List.countP_cons,List.countP_cons];rcases List.mem_cons.mp m with rfl|m
  ·rw[c,hp,if_pos rfl,if_neg lG];lia
  ·have:=OO (λz b=>h z (jT _ b)) m c hp;let d:=h y (nP ..)
   cases e:p y with
   | true=>rw[d e,if_pos rfl];lia
   | false=>rw[if_neg lG];lia
def rk(a:Value->Int × Int)(z:XB)(r:Keyed):Nat:=z.toList.countP λo=>less (a o.1) (a r.1)
theorem Kd{p q r:Int × Int}(h:less p q=true)(g:Le q r):less p r=true:=decide_eq_true λc=>HK h (g.tr c)
def UC{a:Value->Int × Int}{z:XB}{r o:Keyed}(b:r∈z.toList):decide (rk a z r<rk a z o)=less (a r.1) (a o.1):=by
 cases e:less (a r.1) (a o.1) with
 | true =>
  refine decide_eq_true (OO (λy _ h=>Kd h (Le.Wq (HK e))) b e ?_)
  cases c:less (a r.1) (a r.1) with
  | false=>rfl
  | true=>exact absurd (Le.rfl' _) (HK c)
 | false=>exact decide_eq_false (Nat.not_lt.mpr (List.countP_mono_left λy _ h=>Kd h (Om e)))
def WE(b:Program)(w:World)(A:Around)(s:Shared)(a:Value->Int × Int)(c:SortKind)(z:XB):Prop :=
 ∀ r∈z.toList,∀ o∈z.toList,∀ (E:ZB) (Q:Bool->Shared->Prop),Q (less (a r.1) (a o.1)) s->wpAny (model b w) A (keyLt' c r.1 o.1) Q E s
section
variable {prog:Program} {w:World} {A:Around} {E:ZB} {s:Shared} {z:XB} {key:Value->Int × Int} {kd:SortKind} {st:SortSt}
def ZT{Q:Unit->SortSt->Prop}(C:WE prog w A s key kd z)(d:kindOf st=kd)(e:arrOf st=z)(f:failedOf st=none)(g:pendingOf st=#[])(h:2<=z.size)(k:∀ t,(arrOf t).Perm z->failedOf t=none->Up key (arrOf t) z.size->Q () t):wpS (model prog w) A E s sortRuns' Q st:=by
 refine ZS (key:=rk key z) (λr a o b E Q q=>C r a o b E Q (by rw[← UC a];exact q)) d e f g h λt a b c=>k t a b λi j b l=>?_;have q:=c i j (ic _) b l;let⟨x,c,b⟩:=fj (a:=arrOf t) (i:=i) (by rw[a.size_eq];lia);let⟨y,i,c⟩:=fj (a:=arrOf t) (i:=j) (by rw[a.size_eq];omega);rw[dz b,dz c]at q;unfold kp;rw[b,c];refine Om (show less (key y.1) (key x.1)=false from ?_);rw[← UC ((Array.perm_iff_toList_perm.mp a).mem_iff.mp i)];exact decide_eq_false (Nat.not_lt.mpr q)
def Ext(h g:Heap):Prop:=∀ b o,o.cls=.type "q"->h.get? b=⇑o->g.get? b=⇑o
theorem zj{b:Addr}{a:Wp}{p:Nat}{P:PySem.Fin->Shared->Prop}(c:s.heap.get? b=⇑(seqObj "g" a.toArray p))(k:↑a<=sizeLine)
  (q:2<=↑a->∀ g,Ext s.heap g->∀ (E:ZB) (Q:SortKind->Shared->Prop),Q kd { s with heap:=g }->wpAny (model prog w) A (keyKind' a.toArray) Q E { s with heap:=g })
  (r:∀ g,Ext s.heap g->WE prog w A { s with heap:=g } key kd (pairsOf a))
  (f:∀ st:SortSt,(arrOf st).Perm (pairsOf a)->Up key (arrOf st) (pairsOf a).size->P (.done (.ret .none)) { s with heap:=sortedHeap s.heap b a ((arrOf st).map (·.2)) }) :
  wpAny (model prog w) A (Builtin.«list.sort» ⟨[↥b],[]⟩) P E s:=by
 rw[list_sort_plain];let l:b<s⁻¹:=Heap.lt_size c;refine wpAny_bind (listItems_at c rfl ?_);refine wpAny_bind (listUpdate_at c rfl ?_);obtain⟨h,m⟩:∃ h,(s.heap.update b (Obj.mapSeq λ_=>#[])).get? b=⇑(seqObj "g" #[] h):=⟨_,get?_update_seq c (λ_=>#[])⟩;refine wpAny_bind (seqEpoch_at m rfl ?_);refine wpAny_bind (wpAny_newTuple (wpAny_bind (wpAny_newList (wpAny_holding ?_))));generalize i:((s.heap.update b (Obj.mapSeq λ_=>#[])).push (seqObj "q" a.toArray 0)).push (seqObj "g" #[] 0)=g
 let d:g.get? b=⇑(seqObj "g" #[] h):=by
  rw[← i,Heap.get?_push_ne _ _ _ (by rw[size_push',Heap.size_update];exact jc (Nat.lt_succ_of_lt l)),Heap.get?_push_ne _ _ _ (by rw[Heap.size_update];exact jc l)];exact m
 let n:Ext s.heap g:=λh l u j=>by
  let e:h≠b:=λz=>by
   rw[z,c]at j;cases j;let h:Value.type "g"=Value.type "q":=u;simp at h
  rw[← i];exact Heap.get?_push_of_some _ (Heap.get?_push_of_some _ (by rw[Heap.get?_update_ne _ _ _ _ e];exact j))
 let v:sortedHeap s.heap b a=λh=>g.update b (Obj.mapSeq λ_=>h):=by rw[← i];rfl
 rw[v]at f;dsimp only;let h:a.toArray.size=↑a:=by simp
 by_cases e:a.toArray.size<2
 ·rw[if_pos e,if_pos e];refine wpAny_bind (wpAny_pure ?_);rw[StateT.run_pure];refine wpAny_bind (wpAny_pure ?_);dsimp only;refine wpAny_bind (seqEpoch_at d rfl (wpAny_bind (listUpdate_at d rfl ?_ (hsz2:=by rw[Array.size_map];show (pairsOf a).size<=_;rw[pairsOf_size];exact Nat.le_succ_of_le k))));simp only[bne_self_eq_false,Bool.false_eq_true,if_false];refine wpAny_pure (f (SortSt.mk' general' (a.toArray.zip a.toArray) #[] 7 none) (Array.Perm.refl _) λi j l h=>?_);have:i=j:=by rw[pairsOf_size]at h;lia
  subst this;exact Le.rfl' _
 ·rw[if_neg e,if_neg e];refine wpAny_bind (q ∅ g n _ _ ?_);refine wpAny_bind (wpAny_mono (ZT (z:=pairsOf a) (st:=SortSt.mk' kd (a.toArray.zip a.toArray) #[] 7 none) (Q:=λ_ t=>(arrOf t).Perm (pairsOf a)/\failedOf t=none/\Up key (arrOf t) (pairsOf a).size) (r g n) rfl rfl rfl rfl (by rw[pairsOf_size];lia) λt e h i=>⟨e,h,i⟩) ?_ λ_ _ e=>e);rintro⟨⟨⟩,t⟩ B ⟨rfl,o,x,y⟩;dsimp only;refine wpAny_bind (seqEpoch_at d rfl (wpAny_bind (listUpdate_at d rfl ?_ (hsz2:=fX (Nat.le_of_eq ((Array.size_map ..).trans (o.size_eq.trans (pairsOf_size _)))) (Nat.le_succ_of_le k)))));rw[x];simp only[bne_self_eq_false,Bool.false_eq_true,if_false];exact wpAny_pure (f t o y)
theorem Ke{l:Addr}{a:Wp}{Q:ZB}(k:s.heap.IsList l a.toArray)(i:↑a<=sizeLine)
  (m:2<=↑a->∀ g,Ext s.heap g->∀ (A:Around) (E:ZB) (Q:SortKind->Shared->Prop),Q kd { s with heap:=g }->wpAny (model prog w) A (keyKind' a.toArray) Q E { s with heap:=g })
  (n:∀ g,Ext s.heap g->∀ A:Around,WE prog w A { s with heap:=g } key kd (pairsOf a))
  (p:∀ st:SortSt,(arrOf st).Perm (pairsOf a)->Up key (arrOf st) (pairsOf a).size->Q (.ref (s⁻¹+1)) { s with heap:=sortedAll s.heap a ((arrOf st).map (·.2)) }) :
  wpAny (model prog w) A (call (.builtin "S") [↥l]) Q E s:=by
 refine Calls.call_function_entry kind_sorted plain_sorted entry_sorted (args_sorted1 _) ?_;unfold Builtin.«sorted»;refine wpAny_bind (m:=checkCount "S" 1 1 _) (wpAny_pure ?_);refine wpAny_bind (collect_list k ?_ i);refine wpAny_bind (wpAny_newList ?_);generalize e:(s.heap.push (seqObj "g" #[] 0)).update s⁻¹ (Obj.mapSeq (·++a.toArray))=g;let d:g.objs.size=s⁻¹+1:=by rw[← e,Heap.size_update,size_push']
 let h:∀ b o,s.heap.get? b=⇑o->g.get? b=⇑o:=λb o c=>by
  let f:=Heap.lt_size c;rw[← e,Heap.get?_update_ne _ _ _ _ (jc f)];exact Heap.get?_push_of_some _ c
 let j:Ext s.heap (g.push (seqObj "g" a.toArray 0)):=λb o _ c=>Heap.get?_push_of_some _ (h b o c);have f:(g.push (seqObj "g" a.toArray 0)).get? (s⁻¹+1)=⇑(seqObj "g" a.toArray 0):=by rw[← d];exact Heap.get?_push_size _ rfl
 show wpAny _ _ _ _ _ { s with heap:=g.push (seqObj "g" a.toArray 0) };rw[d];refine wpAny_bind (wpAny_holding (wpAny_call_entry slot_list_sort ⟨_,f,1⟩ entry_list_sort (zj (s:={ s with heap:=g.push (seqObj "g" a.toArray 0) }) f i (λd f h=>m d f (λb o d c=>h b o d (j b o d c)) _) (λf h=>n f (λb o d c=>h b o d (j b o d c)) _) λst b c=>⟨Y,wpAny_pure ⟨Y,?_⟩⟩) (args_list_sort _)));let z:=p st b c;unfold sortedAll at z;rw[e]at z;exact z
end
end _fE
namespace _fE
open Spec Rows _L2 _cF
section
variable {prog:Program} {w:World} {A:Around} {E:ZB} {s:Shared}
theorem Ax{l:Addr}{a:Wp}{i:List (Int × Int)}{Q:ZB}(j:s.heap.IsList l a.toArray)(b:LH s.heap a i)(k:↑a<=sizeLine)
  (m:∀ c:SortSt,(arrOf c).Perm (pairsOf a)->Up (jy s.heap) (arrOf c) (pairsOf a).size->Q (.ref (s⁻¹+1)) { s with heap:=sortedAll s.heap a ((arrOf c).map (·.2)) }) :
  wpAny (model prog w) A (call (.builtin "S") [↥l]) Q E s:=by
 refine Ke (kd:=tuples' true) (key:=jy s.heap) j k (λd g e A E Q q=>ze (s:={ s with heap:=g }) (_L2.Paired.Co b λv p q=>q.keep e) (λz=>by rw[z]at d;simp at d) q) (λg e A r d o f h n g=>?_) m;rw[pairsOf_toList]at d f;let⟨p,h⟩:=b.mem (lC d).1;let⟨q,d⟩:=b.mem (lC f).1;rw[ki h,ki d]at g;exact zd (h.keep e) (d.keep e) g
theorem C1{l:Addr}{c:Wp}{i:UF}{Q:ZB}(j:s.heap.IsList l c.toArray)(d:IntsAre c i)(k:↑c<=sizeLine)
  (m:∀ (n:WF) (e:UF),IntsAre n.toList e->e.Perm i->e.Pairwise (·<=·)->Q (.ref (s⁻¹+1)) { s with heap:=sortedAll s.heap c n }) :
  wpAny (model prog w) A (call (.builtin "S") [↥l]) Q E s:=by
 refine Ke (kd:=oneType') (key:=λv=>(numOf v,0)) j k (λf v g A E Q q=>?_) (λv g A r o v p B C t=>?_) λu h x=>?_
 ·obtain⟨a,b,r,g⟩:∃ a b r,c=a::b::r:=by
   clear k j m q d g;rcases c with _|⟨a,_|⟨b,r⟩⟩
   ·cases f
   ·simp at f
   ·exact⟨a,b,r,1⟩
  rw[g]at d ⊢;rw[keyKind_ints d];exact wpAny_pure q
 ·rw[pairsOf_toList]at o p;let⟨a,g,r⟩:=d.all _ (lC o).1;let⟨b,o,v⟩:=d.all _ (lC p).1;rw[keyLt'_oneType];rw[r,v]at t ⊢;refine oneLt_int ?_
  have:less (numOf (.int a g),0) (numOf (.int b o),0)=decide (a<b):=by
   show decide (¬ Le (b,0) (a,0))=_;unfold Le;congr 1;apply propext;simp;lia
  rw[← this];exact t
 ·let⟨e,y,f,z⟩:=sorted_out d h (λa b g o=>by
   let q:=x a b g o;let⟨x,o,g⟩:=fj (a:=arrOf u) (i:=a) (by rw[h.size_eq];lia);let⟨o,p,a⟩:=fj (a:=arrOf u) (i:=b) (by rw[h.size_eq];lia);unfold kp at q;unfold K;rw[g,a]at q ⊢;rcases q with q|q
   ·exact Int.le_of_lt q
   ·exact Int.le_of_eq q.1)
  exact m _ e y f z
end
end _fE
namespace _gu
open Spec Rows _L2 _cF _fC _sM _fE
theorem Ay{f:Cx}:jm f (.builtin "S") (λo H Q=>∃ (p:Addr) (c:UV) (b:Row),o=[↥p]/\H p=⇑(.lst (c.map V.ref))/\aY H c b/\↑b<=sizeLine/\
  ∀ (l:Addr) (q:UV) (g:Row),H l=none->g.Perm b->g.Pairwise Le->aY H q g->Q ↥l (aL H l (.lst (q.map V.ref)))):=by
 intro M s N H o O Q I w h;let⟨p,c,b,rfl,y,i,z,A⟩:=h;let⟨R,rfl,B⟩:=vals1 w;cases B;let⟨B,M,C,w,N,D⟩:=I.w9 y;let F:=BJ w;subst F;let r:=zf I i;let w:=i.len;let y:↑(c.map Value.ref)<=sizeLine:=by rw[cC,w];exact z
 refine Ax (a:=c.map Value.ref) ⟨_,D,1,C,1⟩ r y λd j G=>?_;have k:=Array.perm_iff_toList_perm.mp j;rw[pairsOf_toList]at k
 let t:∀ x∈(arrOf d).toList,∃ a∈c,x.1=↥a/\x.2=↥a/\jN H a (jy s.heap x.1):=λx m=>by
  let⟨w,J⟩:=lC (k.mem_iff.mp m);let⟨a,u,e⟩:=List.mem_map.mp w;let⟨w,v⟩:=i.Ot u;let n:=zf I (.cons v .nil:aY H [a] [w])
  cases n with
  | cons n _ =>
   refine⟨a,u,e.symm,by rw[J,e],?_⟩;rw[← e,ki n];exact v
 let u:((arrOf d).map (·.2)).toList=((arrOf d).toList.map λx=>J2 x.1).map Value.ref:=by
  rw[Array.toList_map,List.map_map];refine List.map_congr_left λx m=>?_;let⟨a,_,e,i,_⟩:=t x m;show x.2=Value.ref (J2 x.1);rw[e,i];rfl
 let v:∀ L:List Keyed,(∀ x∈L,∃ a∈c,x.1=↥a/\x.2=↥a/\jN H a (jy s.heap x.1))->aY H (L.map λx=>J2 x.1) (L.map λx=>jy s.heap x.1):=by
  intro L
  induction L with
  | nil=>intro _;exact .nil
  | cons x L n =>
   intro i;let⟨a,_,e,_,a⟩:=i x (by simp);refine .cons ?_ (n λy m=>i y (jT _ m));rw[e]at a;show jN H (J2 x.1) (jy s.heap x.1);rw[e];exact a
 let J:∀ {e:Wp} {b:Row},LH s.heap e b->(e.zip e).map (λx=>jy s.heap x.1)=b:=by
  intro e
  induction e with
  | nil=>intro b h;cases h;rfl
  | cons a e n =>
   intro b h
   cases h with
   | cons a e =>
    rw[List.zip_cons_cons,jo,n e,ki a]
 let m:((arrOf d).toList.map λx=>jy s.heap x.1).Perm b:=by
  let a:=k.map λx=>jy s.heap x.1;rw[J r]at a;exact a
 let n:((arrOf d).toList.map λx=>jy s.heap x.1).Pairwise Le:=by
  rw[List.pairwise_iff_getElem];intro i h k a r;rw[cC,Array.length_toList]at k a;let e:=G i h (eO r) (by rw[← j.size_eq];exact a);unfold kp at e;rw[getElem?_pos _ i k,getElem?_pos _ h a]at e;simpa using e
 let⟨a,e⟩:=sortedAll_at s.heap (c.map Value.ref) ((arrOf d).map (·.2))
 let h:↑((arrOf d).toList.map λx=>J2 x.1)<=sizeLine:=by
  rw[cC,Array.length_toList,j.size_eq,pairsOf_size];omega
 refine⟨.ref (s⁻¹+1),_,I.laid (t':=s.toks) (λj k i=>sortedAll_old i) (Nat.le_succ _) (show fR f.prog f.w _ _ _ (.lst (((arrOf d).toList.map λx=>J2 x.1).map V.ref)) from ⟨by rw[cC];exact h,_,a,vt _,?_⟩),1,A _ _ _ (I.hok.fresh (Nat.le_succ _)) m n (v _ t)⟩;rw[e,← u]
end _gu
namespace _cF
open Spec Rows _L2
open _fE
theorem Az{d:Cx}:jm d (.builtin "S") (λf H Q=>∃ (p:Addr) (c:UF),f=[↥p]/\H p=⇑(.lst (c.map V.int))/\↑c<=sizeLine/\
  ∀ (l:Addr) (a:UF),H l=none->a.Perm c->a.Pairwise (·<=·)->Q ↥l (aL H l (.lst (a.map V.int)))):=by
 intro g s k H f b Q I r h;let⟨p,c,rfl,j,g,q⟩:=h;let⟨u,rfl,e⟩:=r.one;cases (show u=Value.ref p from e);let⟨o,e,n,g,r,k⟩:=I.w9 j;let j:IntsAre e c:=intsAre_of g;let o:=↑g;rw[cC]at o;refine C1 (c:=e) ⟨_,k,1,n,1⟩ j ∅ λg a t i v=>?_;let⟨w,x⟩:=sortedAll_at s.heap e g;have e:=i.length_eq
 let y:cD (a.map V.int) g.toList:=by
  let z:∀ (b:Wp) (a:UF),IntsAre b a->cD (a.map V.int) b:=by
   intro b
   induction b with
   | nil=>intro a h;cases a with
    | nil=>exact .nil
    | cons=>exact absurd ↑h (by simp)
   | cons u b A=>intro a h;cases a with
    | nil=>exact absurd ↑h (by simp)
    | cons m a =>
     cases h with
     | cons _ b h=>exact .cons ⟨b,1⟩ (A a h)
  exact z _ _ t
 refine⟨.ref (s⁻¹+1),_,I.laid (t':=s.toks) (λe o b=>sortedAll_old b) (Nat.le_succ _) (show fR d.prog d.w _ _ _ (.lst (a.map V.int)) from ⟨by rw[cC];lia,_,w,y,?_⟩),1,q _ _ (I.hok.fresh (Nat.le_succ _)) i v⟩;rw[x]
end _cF
namespace _gu
open Spec Rows _L2 _cF _fC _sM _RY
def UD(p:d9 × V):Int × Int:=match p with
 | (.inl i,.int j)=>(i,j)
 | _=>(0,0)
theorem BP{d e:Type}{f:d->e->Prop}:∀ {b:List d} {c:List e},↑b=↑c->(∀ (j:Nat) (a:d) (p:e),b[j]?=⇑a->c[j]?=⇑p->f a p)->Paired f b c
 | [],[],_,_=>.nil
 | a::b,p::c,g,h=>.cons (h 0 a p rfl rfl) (BP (Nat.succ.inj g) λj=>h (j+1))
end _gu
namespace _fE
open Spec Rows _L2 _cF
section
variable {prog:Program} {w:World} {A:Around} {E:ZB} {s:Shared}
theorem vB{b:Addr}{a:Wp}{j:List (Int × Int)}{n:Nat}{P:PySem.Fin->Shared->Prop}(k:s.heap.get? b=⇑(seqObj "g" a.toArray n))(c:LH s.heap a j)(l:↑a<=sizeLine)
  (m:∀ d:SortSt,(arrOf d).Perm (pairsOf a)->Up (jy s.heap) (arrOf d) (pairsOf a).size->P (.done (.ret .none)) { s with heap:=sortedHeap s.heap b a ((arrOf d).map (·.2)) }) :
  wpAny (model prog w) A (Builtin.«list.sort» ⟨[↥b],[]⟩) P E s:=by
 refine zj (kd:=tuples' true) (key:=jy s.heap) k l (λf g e E Q q=>ze (s:={ s with heap:=g }) (_L2.Paired.Co c λv p q=>q.keep e) (λz=>by rw[z]at f;simp at f) q) (λg e r f o g i t h=>?_) m;rw[pairsOf_toList]at f g;let⟨p,i⟩:=c.mem (lC f).1;let⟨q,f⟩:=c.mem (lC g).1;rw[ki i,ki f]at h;exact zd (i.keep e) (f.keep e) h
end
end _fE
namespace _gu
open Spec Rows _L2 _cF _fC _sM _RY
theorem zk{A:Cx}(hc:A.calm=true):jm A (.builtin "S") (λxs H Q=>∃ (v M:Addr) (k:List (d9 × V)),xs=[↥v]/\H v=⇑(CU v M)/\H M=⇑(.dK k)/\(∀ p∈k,∃ B r:Int,p=(.inl B,.int r))/\↑k<=1000/\
  ∀ (l:Addr) (h:UV) (t:Row) (f:Hp),H l=none->aH H f->f l=⇑(.lst (h.map V.ref))->aY f h t->t.Perm (k.map UD)->t.Pairwise _fE.Le->Q ↥l f):=by
 intro ao s σ H xs us Q I U F;let⟨v,M,k,rfl,hv,hd,hk,a2,aw⟩:=F;let⟨u,rfl,rx⟩:=U.one;cases (show u=Value.ref v from rx);let⟨ZU,_⟩:=(show fR A.prog A.w H s.heap v (CU v M) from I.hok v _ hv);let⟨z,hs,w,qH,dd⟩:=EL I.hok hd;let⟨ep,hm⟩:=dd.dictAt;let a2:=↑qH;let sl:(1000:Nat)<=sizeLine:=by decide
 refine Calls.call_function_entry kind_sorted plain_sorted entry_sorted (args_sorted1 _) ?_;unfold Builtin.«sorted»;refine wpAny_bind (m:=checkCount "S" 1 1 _) (wpAny_pure (wpAny_bind (PySem.W.kdx_collect (knd:=ff A.prog A.w) (kvs:=w) (ep:=ep) (I.ok.hd hc) ZU hm ∅ λn W c kp hl N=>wpAny_bind (wpAny_newList ?_ (by rw[cC];lia)))))
 let ag:∀ a∈c,∃ o,n.get? a=⇑o:=λa j=>by
  let⟨r,y⟩:=List.mem_iff_getElem?.mp j;let⟨g,b,x,D,G,e⟩:=N.pairs r a y;exact⟨_,e⟩
 let pj:Paired (λa (p:Int × Int)=>_fE.iB n ↥a p) c (k.map UD):=by
  refine BP (by rw[cC];lia) λr a p y q=>?_;let⟨g,b,x,D,G,e⟩:=N.pairs r a y;let⟨O,J,R⟩:=qe qH D;let⟨B,m,rfl⟩:=hk O (mL J);let⟨S,T⟩:=R;obtain⟨C,rfl⟩:∃ i,x=.int m i:=T;have L:vY b g=true:=G;rw[← (show Sum.inl B=b from S)]at L;rw[gj,J]at q;cases q;rcases fm L with ⟨X,i,d,rfl⟩|⟨X,i,d,rfl⟩
  ·cases d;exact⟨a,i,C,1,_,e,1,0,1⟩
  ·cases d
 generalize D:n.objs.size=l;let O:(n.push (seqObj "g" (c.map Value.ref).toArray 0)).get? l=⇑(seqObj "g" (c.map Value.ref).toArray 0):=by rw[← D];exact Heap.get?_push_size _ rfl
 let R:∀ b o,n.get? b=⇑o->(n.push (seqObj "g" (c.map Value.ref).toArray 0)).get? b=⇑o:=λb o e=>Heap.get?_push_of_some _ e;generalize ax:n.push (seqObj "g" (c.map Value.ref).toArray 0)=g at O R
 let X:_fE.LH g (c.map Value.ref) (k.map UD):=by
  let go:∀ {c:UV} {q:List (Int × Int)},Paired (λa (p:Int × Int)=>_fE.iB n ↥a p) c q->_fE.LH g (c.map Value.ref) q:=by
   intro c
   induction c with
   | nil=>intro q z;cases z;exact .nil
   | cons a c G =>
    intro q z
    cases z with
    | cons d y =>
     let⟨x,i,u,m,o,e,U⟩:=d;exact .cons ⟨x,i,u,m,o,R _ _ e,U⟩ (G y)
  exact go pj
 let aA:∀ a∈c,∃ p,_fE.iB g ↥a p:=λa j=>_fE.LH.mem X (List.mem_map.mpr ⟨a,j,1⟩);obtain⟨d,ai⟩:∃ d:Addr->Int × Int,∀ a,d a=_fE.jy g ↥a:=⟨_,λ_=>rfl⟩
 let aM:∀ a∈c,∃ S C:Tok,IsTup g a (List.toArray [.int (d a).1 S,.int (d a).2 C]):=λa j=>by
  let⟨p,q⟩:=aA a j;let⟨x,i,u,m,tt⟩:=id q;cases m;rw[ai,_fE.ki q];exact⟨i,u,tt⟩
 show wpAny _ _ _ _ _ { s with heap:=g,toks:=W };refine wpAny_bind (wpAny_holding (wpAny_call_entry slot_list_sort ⟨_,O,1⟩ entry_list_sort (_fE.vB (s:={ s with heap:=g,toks:=W }) O X (by rw[cC];lia) λi pm up=>⟨Y,wpAny_pure ⟨Y,?_⟩⟩) (args_list_sort _)));let⟨aU,a0⟩:=sortedHeap_at (out:=(arrOf i).map (·.2)) O;let J:=Array.perm_iff_toList_perm.mp pm;rw[pairsOf_toList]at J
 let am:∀ x∈(arrOf i).toList,∃ a∈c,x.2=↥a:=λx q=>by
  let⟨y,G⟩:=_fE.lC (J.mem_iff.mp q);let⟨a,j,m⟩:=List.mem_map.mp y;exact⟨a,j,by rw[G,m]⟩
 let Sf:((arrOf i).map (·.2)).toList=((arrOf i).toList.map λx=>J2 x.2).map Value.ref:=by
  rw[Array.toList_map,List.map_map];refine List.map_congr_left λx q=>?_;let⟨a,_,e⟩:=am x q;show x.2=Value.ref (J2 x.2);rw[e];rfl
 let kx:∀ x∈(arrOf i).toList,_fE.jy g x.1=d (J2 x.2):=λx q=>by
  let⟨y,G⟩:=_fE.lC (J.mem_iff.mp q);let⟨a,j,m⟩:=List.mem_map.mp y;rw[ai,G,← m];rfl
 let km:((arrOf i).toList.map λx=>J2 x.2).map d=(arrOf i).toList.map λx=>_fE.jy g x.1:=by
  rw[List.map_map];exact List.map_congr_left λx q=>(kx x q).symm
 let xj:∀ {w:Wp} {t:Row},_fE.LH g w t->(w.zip w).map (λx=>_fE.jy g x.1)=t:=by
  intro w
  induction w with
  | nil=>intro t F;cases F;rfl
  | cons v w G =>
   intro t F
   cases F with
   | cons m g=>rw[List.zip_cons_cons,jo,G g,_fE.ki m]
 let an:(((arrOf i).toList.map λx=>J2 x.2).map d).Perm (k.map UD):=by
  rw[km];let y:=J.map λx=>_fE.jy g x.1;rw[xj X]at y;exact y
 let J6:(((arrOf i).toList.map λx=>J2 x.2).map d).Pairwise _fE.Le:=by
  rw[km,List.pairwise_iff_getElem];intro B r w y F;rw[cC,Array.length_toList]at w y;let m:=up B r (eO F) (by rw[← pm.size_eq];exact y);unfold _fE.kp at m;rw[getElem?_pos _ B w,getElem?_pos _ r y]at m;simpa using m
 let bl:↑((arrOf i).toList.map λx=>J2 x.2)=↑k:=by rw[cC,J.length_eq,List.length_zip,cC,Nat.min_self];lia
 generalize w:(arrOf i).toList.map (λx=>J2 x.2)=h at Sf bl an J6
 let bm:∀ b∈h,b∈c:=λb T=>by
  rw[← w]at T;let⟨x,q,rfl⟩:=List.mem_map.mp T;let⟨a,j,e⟩:=am x q;rw[e];exact j
 let al:∀ {b:Addr},b∈c->b<l:=λT=>by
  let⟨o,m⟩:=ag _ T;rw[← D];exact Heap.lt_size m
 let a:=I.hok.kept kp
 let ap:∀ b o,n.get? b=⇑o->(sortedHeap (g) l (c.map Value.ref) ((arrOf i).map (·.2))).get? b=⇑o:=λb o e=>by
  let G:b<l:=by rw[← D];exact Heap.lt_size e
  rw[sortedHeap_old (jc G) (by rw[← ax,Heap.size_push,D];exact Nat.lt_succ_of_lt G)];exact R b o e
 let ab:∀ {b:Addr} {u:HO},H b=⇑u->b∉c/\b≠l:=λ{b u} e=>⟨λm=>absurd (I.hok.lt e) (Nat.not_lt.mpr (eO (N.above b m))),λy=>by have:=a.lt e;rw[D,y]at this;exact Nat.lt_irrefl _ this⟩
 let a1:H l=none:=by
  cases e:H l with
  | none=>rfl
  | some u=>exact absurd rfl (ab e).2
 obtain⟨f,eH⟩:∃ f:Hp,∀ b,f b=if b=l then some (.lst (h.map V.ref)) else if b∈c then some (.tup [.int (d b).1,.int (d b).2]) else H b:=⟨_,λ_=>rfl⟩;let ho:∀ b,b≠l->b∉c->f b=H b:=λb ae m=>by rw[eH,if_neg ae,if_neg m]
 let aq:f l=⇑(.lst (h.map V.ref)):=by rw[eH,if_pos rfl]
 let ar:∀ b∈c,f b=⇑(.tup [.int (d b).1,.int (d b).2]):=λb m=>by rw[eH,if_neg (jc (al m)),if_pos m]
 let av:aH H f:=λb u e=>by rw[ho b (ab e).2 (ab e).1];exact e
 let HW:aY f h (h.map d):=by
  let go:∀ L:List Addr,(∀ b∈L,b∈h)->aY f L (L.map d):=by
   intro L
   induction L with
   | nil=>intro _;exact .nil
   | cons b L G=>intro z;exact .cons (ar b (bm b (z b nP))) (G λy a=>z y (jT _ a))
  exact go h λ_ z=>z
 refine⟨↥l,f,ZH (s:=s) (j:=W) I (λb o e=>ap b o (kp b o e)) (λb o e=>?_) av (λb u ae e=>?_),1,aw l h _ f a1 av aq HW an J6⟩
 ·let G:b<l:=by rw[← D];exact Heap.lt_size (kp b o e)
  exact ho b (jc G) λm=>absurd (Heap.lt_size e) (Nat.not_lt.mpr (eO (N.above b m)))
 ·by_cases y:b=l
  ·subst y;rw[aq]at e;cases e;exists by rw[cC];lia,_,aU,vt h;rw[a0,← Sf]
  ·by_cases m:b∈c
   ·rw[ar b m]at e;cases e;let⟨S,C,o,a,g2,n',g3⟩:=aM b m;let⟨c,G⟩:=ag b m;let L:=R _ _ G;rw[a]at L;cases L;exact⟨(by show 2<=sizeLine;decide),[.int (d b).1 S,.int (d b).2 C],.cons ⟨S,1⟩ (.cons ⟨C,1⟩ .nil),o,ap _ _ G,g2,n',g3⟩
   ·rw[ho b y m,ae]at e;cases e
end _gu
set_option Elab.async false
set_option linter.all false
set_option maxRecDepth 100000
namespace _gu
open _L2 _cF _fC _sM _Wn
structure gt(mg:X1):Prop where
 fJ:mg "len"=none
 jz:mg "g"=none
 Kf:mg "q"=none
 UE:mg "int"=none
 HX:mg "bool"=none
 UG:mg "str"=none
 i9:mg "v"=none
 ZW:mg "zip"=none
 dO:mg "isinstance"=none
 UH:mg "sum"=none
 E6:mg "min"=none
 zl:mg "max"=none
 ZX:mg "all"=none
 zm:mg "S"=none
 m9:∀ f,mg "size"=⇑↥f->mg "size_spans"=⇑↥f
 qg:∀ f,mg "shown"=⇑↥f->mg "shown_weave"=⇑↥f
section
variable {P:Program} {w:World} {K:Frag} {mg:X1} {zt:Heap}
structure gz(mg:X1):Prop where
 s:∃ t,mg "MOST_SHEETS"=⇑(.int 40 t)
 w:∃ t,mg "MOST_WEIGHT"=⇑(.int 200 t)
 h:∃ t,mg "HIDDEN"=⇑(.str "#" t)
structure Ds(K:Frag)(mg:X1)(eY:Nat->Addr)(fD:Nat->FuncData)(C CS CW CB CT CD:Addr):Prop where
 T:gt mg
 G:gz mg
 aQ:ClsAt K mg "Library" C (eY 54)
 cV:ClsAt K mg "Shelf" CS (eY 38)
 iF:ClsAt K mg "Well" CW (eY 49)
 qh:ClsAt K mg "Blots" CB (eY 14)
 BQ:ClsAt K mg "Ties" CT (eY 47)
 E7:ClsAt K mg "Dues" CD (eY 48)
 ly:gn K CS "A"
 nB:gn K CS "w"
 vd:gn K CW "I"
 qC:gn K CW "K"
 lJ:gn K CW "W"
 qD:gn K CB "stains"
 CC:gn K CT "given"
 CF:gn K CT "pairs"
 JM:gn K CD "sums"
 ua:gn K C "B"
 gy:gn K C "y"
 yI:gn K C "G"
 CG:gn K C "O"
 JN:gn K C "dues"
 Et:gn K C "book"
 gL:cA K mg "_law_src" Bg ["l"] (eY 0) (fD 0)
 uS:cA K mg "_law_next" yh ["b","H"] (eY 1) (fD 1)
 gN:cA K mg "_law_whole" wz ["p"] (eY 2) (fD 2)
 ZY:cA K mg "_law_same" sf ["p","E"] (eY 3) (fD 3)
 WH:cA K mg "plain" NO ["k"] (eY 4) (fD 4)
 WI:cA K mg "size" NP ["k"] (eY 5) (fD 5)
 Yi:cA K mg "check_places" rj zl2 (eY 6) (fD 6)
 WJ:cA K mg "pieces" JH zl2 (eY 7) (fD 7)
 g0:cA K mg "part" Ue zl2 (eY 8) (fD 8)
 hC:cA K mg "addresses" sj ["k"] (eY 9) (fD 9)
 WK:cA K mg "spread" JI ["k"] (eY 10) (fD 10)
 ZZ:cA K mg "first_reaching" oA ["3","h"] (eY 11) (fD 11)
 Z0:cA K mg "left_over" yi ["h","n","3"] (eY 12) (fD 12)
 Z1:cA K mg "without" yj ["k","6"] (eY 13) (fD 13)
 Z2:dF K CB "s" "Blots.__init__" oB KG (eY 14) (fD 14)
 Z3:dF K CB "blot" "Blots.blot" wA ["c","k"] (eY 15) (fD 15)
 WL:cA K mg "windows" yk ["j"] (eY 16) (fD 16)
 WM:cA K mg "below" Hl ["m","F"] (eY 17) (fD 17)
 Z4:cA K mg "way_between" tQ ["m","h","goal"] (eY 18) (fD 18)
 Z5:cA K mg "ring" Ug zl3 (eY 19) (fD 19)
 Z6:cA K mg "item_weight" tR ["X","Y"] (eY 20) (fD 20)
 Z7:cA K mg "weights_below" lV ["m","F"] (eY 21) (fD 21)
 WN:cA K mg "item_row" Bh ["X","x"] (eY 22) (fD 22)
 OP:cA K mg "views_below" nT ["m","F"] (eY 23) (fD 23)
 OQ:cA K mg "shown" NQ zl3 (eY 24) (fD 24)
 Z8:cA K mg "goes_on" Er ["one","6"] (eY 25) (fD 25)
 LP:cA K mg "plain_items" tS ["j"] (eY 26) (fD 26)
 E8:cA K mg "inked" Ho ["k"] (eY 27) (fD 27)
 WO:cA K mg "dealt" NR ["j","x"] (eY 28) (fD 28)
 WQ:cA K mg "put_among" yl ["j","x","z","others"] (eY 29) (fD 29)
 Sg:cA K mg "put_items" yo ["m","f","z","j"] (eY 30) (fD 30)
 WR:cA K mg "parted" JJ ["j","x","h","n"] (eY 31) (fD 31)
 Z9:cA K mg "cut_items" yp ["m","f","h","n"] (eY 32) (fD 32)
 hE:cA K mg "moved_items" tT ["m","f","h","n","to"] (eY 33) (fD 33)
 hF:cA K mg "fixed_items" tU zl3 (eY 34) (fD 34)
 Si:cA K mg "ink_words" su ["k"] (eY 35) (fD 35)
 hG:cA K mg "shown_deed" wB ["T"] (eY 36) (fD 36)
 WS:cA K mg "changed" Es ["state","f","j"] (eY 37) (fD 37)
 hH:dF K CS "s" "Shelf.__init__" oE KG (eY 38) (fD 38)
 Sj:dF K CS "now" "Shelf.now" yq KG (eY 39) (fD 39)
 WT:dF K CS "many" "Shelf.many" wC KG (eY 40) (fD 40)
 hJ:dF K CS "step" "Shelf.step" wD ["c","Z"] (eY 41) (fD 41)
 E9:dF K CS "check_sheet" "Shelf.check_sheet" lW X4 (eY 42) (fD 42)
 hP:dF K CS "check_moment" "Shelf.check_moment" kO ["c","L"] (eY 43) (fD 43)
 hT:dF K CS "rows_then" "Shelf.rows_then" jM ["c","L"] (eY 44) (fD 44)
 C2:dF K CS "m" "Shelf.rows" wG KG (eY 45) (fD 45)
 ym:dF K CS "k" "Shelf.row" yr X4 (eY 46) (fD 46)
 hU:dF K CT "s" "Ties.__init__" pO KG (eY 47) (fD 47)
 hV:dF K CD "s" "Dues.__init__" pP KG (eY 48) (fD 48)
 hY:dF K CW "s" "Well.__init__" pQ KG (eY 49) (fD 49)
 LQ:dF K CW "size" "Well.size" yt KG (eY 50) (fD 50)
 hZ:dF K CW "pour" "Well.pour" yu ["c","C","text"] (eY 51) (fD 51)
 h8:dF K CW "holds" "Well.holds" pR ["c","k"] (eY 52) (fD 52)
 h9:cA K mg "check_weave" tV zl3 (eY 53) (fD 53)
 ih:dF K C "s" "Library.__init__" mS KG (eY 54) (fD 54)
 Sk:dF K C "enter" "Library.enter" pS ["c","T","Z"] (eY 55) (fD 55)
 Fb:dF K C "change" "Library.change" oF ["c","T","f","j"] (eY 56) (fD 56)
 ii:dF K C "many" "Library.many" rm KG (eY 57) (fD 57)
 ij:dF K C "begin" "Library.begin" pT ["c","T","j"] (eY 58) (fD 58)
 WU:dF K C "5" "Library.fresh" pU KG (eY 59) (fD 59)
 pd:dF K C "ink" "Library.ink" tW KG (eY 60) (fD 60)
 WV:dF K C "check_held" "Library.check_held" kQ ["c","k"] (eY 61) (fD 61)
 WW:dF K C "pour" "Library.pour" rA ["c","C","text"] (eY 62) (fD 62)
 im:dF K C "put" "Library.put" tX ["c","f","z","k"] (eY 63) (fD 63)
 Sm:dF K C "shown" "Library.shown" pV X4 (eY 64) (fD 64)
 io:dF K C "cut" "Library.cut" tY ["c","f","h","n"] (eY 65) (fD 65)
 ip:dF K C "quote" "Library.quote" pW ["c","7","z","8","h","n"] (eY 66) (fD 66)
 yn:dF K C "k" "Library.row" tZ X4 (eY 67) (fD 67)
 iq:dF K C "window" "Library.window" oG ["c","7","z","8"] (eY 68) (fD 68)
 iv:dF K C "fix" "Library.fix" t6 X4 (eY 69) (fD 69)
 iw:dF K C "move" "Library.move" rB ["c","f","h","n","to"] (eY 70) (fD 70)
 i3:dF K CW "check_address" "Well.check_address" kT ["c","M"] (eY 71) (fD 71)
 i4:dF K CW "C" "Well.hand" yv ["c","M"] (eY 72) (fD 72)
 i5:dF K CW "poured" "Well.poured" t7 ["c","C"] (eY 73) (fD 73)
 i':dF K C "check_own" "Library.check_own" lY ["c","C","k"] (eY 74) (fD 74)
 je:dF K C "blot" "Library.blot" rC ["c","C","k"] (eY 75) (fD 75)
 jg:dF K C "poured_by" "Library.poured_by" lX ["c","k"] (eY 76) (fD 76)
 ji:dF K C "shares" "Library.shares" oH X4 (eY 77) (fD 77)
 jl:cA K mg "_law_sign" yx ["b","0"] (eY 78) (fD 78)
 js:cA K mg "_law_text" sD ["b","J"] (eY 79) (fD 79)
 Sn:cA K mg "_law_world" pX [] (eY 80) (fD 80)
 OR:cA K mg "_law_keep" yz ["a","e"] (eY 81) (fD 81)
 WX:cA K mg "_law_swap" yC ["e","d","_law_entries"] (eY 82) (fD 82)
 jV:cA K mg "_law_spell" wH ["1"] (eY 83) (fD 83)
 Fc:cA K mg "_law_show" yD zl4 (eY 84) (fD 84)
 j1:cA K mg "_law_reached" rD zl4 (eY 85) (fD 85)
 WY:cA K mg "_law_pieces" t9 ["e","t"] (eY 86) (fD 86)
 OS:cA K mg "_law_put" Bj ["e","d","U","_law_new"] (eY 87) (fD 87)
 WZ:cA K mg "_law_cut" Bk ["e","d","u","Q"] (eY 88) (fD 88)
 W0:cA K mg "_law_weighed" rE zl4 (eY 89) (fD 89)
 j2:cA K mg "_law_fits" sE zl4 (eY 90) (fD 90)
 j3:cA K mg "_law_after" wI ["a","o"] (eY 91) (fD 91)
 pf:dF K C "back" "Library.back" rF ["c","f","L"] (eY 92) (fD 92)
 j9:cA K mg "_law_done" yE ["i","o"] (eY 93) (fD 93)
 j':cA K mg "_law_ink_row" rG zl5 (eY 94) (fD 94)
 ka:cA K mg "_law_move_by" rH ["b","d","_law_room"] (eY 95) (fD 95)
 kb:cA K mg "_law_draw" yF zl5 (eY 96) (fD 96)
 kc:cA K mg "_law_deed" yG zl6 (eY 97) (fD 97)
 Xa:cA K mg "_law_pour" sF zl6 (eY 98) (fD 98)
 kf:cA K mg "_law_fresh" wJ ["a","i"] (eY 99) (fD 99)
 UI:cA K mg "_law_begin" wK zl6 (eY 100) (fD 100)
 UJ:cA K mg "_law_shares" lu ["a","d"] (eY 101) (fD 101)
def fy{b:Type}:List b->b->Nat->b
 | [],d,_=>d
 | a::_,_,0=>a
 | _::l,d,n+1=>fy l d n
structure Xb where
 mk ::
 (c9:Program)
 (bw:World)
 (bZ:Frag)
 (cW:X1)
 (cU:Heap)
 (eK:Nat->Addr)
 (eL:Nat->FuncData)
 (fK:Addr)
 (cO:Addr)
 (dH:Addr)
 (fG:Addr)
 (xq:Addr)
 (HY:Addr)
 (Xc:Addr)
 (Xd:FuncData)
def Xb.Ok(e:Xb):Prop:=Ds e.bZ e.cW e.eK e.eL e.fK e.cO e.dH e.fG e.xq e.HY->NL e.bZ "law" "law" Lg e.Xc e.Xd->bq e.c9 e.bw e.bZ e.cW e.cU cS 48 e.Xc e.Xd ["l"] (Ep e.bZ)
theorem ph:Nonempty Xb:=⟨⟨Classical.choice inferInstance,⟨λ_ _=>0,{ strHash:=λ_=>0,shareClass:=λ_=>0,mergeTok:=id,idOf:=λ_=>0,idOfShared:=λ_ _=>0,followText:=λ_=>false,idOfImm:=λ_=>0 }⟩,[],λ_=>none,Classical.choice inferInstance,λ_=>0,λ_=>Classical.choice inferInstance,0,0,0,0,0,0,0,Classical.choice inferInstance⟩⟩
noncomputable def GI:Xb:=@Classical.epsilon Xb ph λe=>¬ e.Ok
theorem pu(h:GI.Ok)(e:Xb):e.Ok:=Classical.byContradiction λn=>Classical.epsilon_spec (p:=λe=>¬ Xb.Ok e) ⟨e,n⟩ h
noncomputable def c9:Program:=GI.c9
noncomputable def bw:World:=GI.bw
noncomputable def bZ:Frag:=GI.bZ
noncomputable def cW:X1:=GI.cW
noncomputable def cU:Heap:=GI.cU
noncomputable def eK:Nat->Addr:=GI.eK
noncomputable def eL:Nat->FuncData:=GI.eL
noncomputable def fK:Addr:=GI.fK
noncomputable def cO:Addr:=GI.cO
noncomputable def dH:Addr:=GI.dH
noncomputable def fG:Addr:=GI.fG
noncomputable def xq:Addr:=GI.xq
noncomputable def HY:Addr:=GI.HY
noncomputable def Xc:Addr:=GI.Xc
noncomputable def Xd:FuncData:=GI.Xd
abbrev bW:Prop:=Ds bZ cW eK eL fK cO dH fG xq HY
theorem HZ:‹(1,0,["l"],(Uj bZ))›:=λD=>by
 specialize fP ["l"] D.gL.F;let⟨b,a,rfl,c,k⟩:=h;exists _,#v[aK (bK #[fY gR rfl D.T.jz tK #[iW lg (pv 0) mQ (i6 ay)],ay,ay,ay])]
 rfl'
 refine⟨Y,Y,b,Y,c,λp g=>?_⟩;refine⟨p,Y,.inl (bI.of af),λc d=>?_⟩;refine⟨CQ,λl b=>?_⟩;let⟨i,j⟩:=N7 a none (some 63);let e:c≠l:=az (H:=aL (aL H p _) c _) af b;let f:aH H (aL H p (.lst (j0 (a.map V.int) none (some 63)))):=ak g _;let g:=f.trans (ak d (.lst (j0 (a.map V.int) none (some 63))));refine k l c _ ⟨e,i,0,0,(1),af,?_,by decide,by decide,by decide⟩ (g.trans (ak b _)) (g.free b) (f.free d);rw[aJ e,af,j]
theorem gw:‹(1,1,["b","H"],sJ)›:=λD=>by
 specialize fP ["b","H","_law_cell","_law_digit"] D.uS.F;let⟨l,j,m,rfl,S,q,I,k⟩:=h;exists _,#v[yM (c:=VZ) (bM (aV gE (aO bH (pv 0) ay) ay (bh _)) #v[aX 2 ay,yM (c:=V0) (bM (aV kM (aO bH (pv 0) ay) (gf D.T.fJ (aO bH (pv 0) ay)) (bh _)) #v[aX 2 (aO bH (aO bH (pv 0) ay) (aO bH (pv 0) ay)),mZ (bz dY (aO bH (pv 0) ay) ay) (pJ (pv 0) ay j4)] bg) ?y',mZ (bz xY (bz dY (bz dY (bz GZ (aO bH (pv 0) ay) ay) (bz xY (pv 2) ay)) ay) ay) (pJ (pv 0) ay j4),bM (aV Ub (pv 2) (bz Ni ay ay) (bh _)) #v[mZ (pv 2) (pJ (pv 0) ay j4)] bg] bg) ?t',bM (aV Ei (aO bH (pv 0) ay) ay (bh _)) #v[aX 3 (bz xY (aO bH (pv 0) ay) (pv 1)),mZ (bz yJ (aO bH (pv 0) ay) (pv 1)) (pJ (pv 0) ay j4),aK (pv 3)] bg,aK (bz xY (bz yJ (bz xY (bz GZ (aO bH (pv 0) ay) ay) ay) ay) (pv 1))]
 rfl'
 case y' =>
  rintro D z H ⟨l,j,m,rfl,⟨b,f,i,g,r,a,d,n,o,p⟩,k⟩;exists Y,l,Q,V,bI.of a,VY,Y,l,Q,V,bI.of a,Zj,j,Y,.inl (bI.of d),Z,Y;refine dN (λu=>?_) (λu=>?_)
  ·let s:i<(↑f:Int):=by
    let c:=of_decide_eq_true u;rwa [cC]at c
   let⟨v,w⟩:=Rp n s;exists Y,l,Q,V,bI.of a,Zj,Y,l,Q,V,bI.of a,VY,j,Q,V,bI.of d,w;exists Y,l,Q,V,bI.of a,VY,Z,Y,l,E,(1),V,a,1;exact k v _ ⟨b,f,i+1,g,r,af,by rw[aJ b];exact d,by lia,o,p⟩ λe c=>aJ c
  ·exact k 7 H ⟨b,f,i,g,r,a,d,n,o,p⟩ λe _=>rfl
 case t' =>
  rintro D z H ⟨l,j,m,rfl,S,k⟩;let⟨b,f,i,g,r,a,d,n,o,p⟩:=id S;exists Y,l,Q,V,bI.of a,Rl,Z,Y;refine dN (λw=>?_) (λw=>?_)
  ·refine⟨l,j,m,1,S,λv J x s=>?_⟩;let⟨_,y,z,L,B,C,F,G,M,N⟩:=id x;exists Y,l,Q,V,bI.of C,Zk,Z,.inl ⟨by lia,by lia⟩,Y,Z,(by show (0:Int)<998244353;decide),Z,Z,Z,(by show (0:Int)<2147483647;decide),Y,l,E,3,V,C,1;exists Y,Z,⟨by decide,by decide,by decide⟩,Z,Y;let C:0<=(B*48271+v % 998244353+1) % 2147483647:=Int.emod_nonneg _ (by decide);let t:(B*48271+v % 998244353+1) % 2147483647<2147483647:=Int.emod_lt_of_pos _ (by decide);refine dN (λu=>?_) (λu=>?_)
   ·exists Y,Y,l,E,2,V,af,1;refine k _ _ ⟨b,y,z,v,_,af,?_,G,C,t⟩ λe c=>?_
    ·rw[aJ b,aJ b];exact F
    ·rw[aJ c,aJ c];exact s e c
   ·refine k _ _ ⟨b,y,z,L,_,af,?_,G,C,t⟩ λe c=>?_
    ·rw[aJ b];exact F
    ·rw[aJ c];exact s e c
  ·exact k none H S λe _=>rfl
 refine⟨l,j,m,1,S,λv J x s=>?_⟩;let⟨b,f,i,g,r,a,d,n,o,p⟩:=x;exists Y,l,Q,V,bI.of a,Rl,Z,Y;refine dN (λw=>?_) (λw=>?_)
 ·exists Y,l,Q,V,bI.of a,Rl,Y,Z,q;exists Y,l,Q,V,bI.of a,Rl,Y,Z,⟨q,I⟩,Y,l,E,2,V,a,1;exists Y;refine k (g % m) _ (Int.emod_nonneg _ ∅) (Int.emod_lt_of_pos _ q) ⟨b,f,i,g / m,r,af,?_,n,o,p⟩ λe c=>?_
  ·rw[aJ b];exact d
  ·rw[aJ c];exact s e c
 ·exists Y,l,Q,V,bI.of a,Zk,Z,.inl ⟨by lia,by lia⟩,Z,(by show (0:Int)<2147483399;decide),Z,⟨by decide,by decide⟩,Y,Z,q;exact k _ _ (Int.emod_nonneg _ ∅) (Int.emod_lt_of_pos _ q) ⟨b,f,i,g,r,a,d,n,o,p⟩ s
theorem Fd:qB ["p","E","_law_one","_law_other"] ["p","E"] (cy sf):=gs
theorem C3:‹(1,2,["p"],JR)›:=λD=>by
 specialize fP ["p"] D.gN.F;let⟨i,rfl,k⟩:=h;exists _,#v[aK (pG (b8 eS rfl D.T.dO wW #[0,oJ rfl D.T.UE PyProof.Rows.boot_int]) (rW (Vp (b8 eS rfl D.T.dO wW #[0,oJ rfl D.T.HX PyProof.Rows.boot_bool]))))]
 rfl'
 exact⟨Y,Q,Y,jZ.int i,Zn bZ,Y,iX ⟨Y,Q,Y,jZ.int i,Zm bZ,Y,k⟩⟩
def AA(D:bW){n:Nat}(o:bq c9 bw bZ cW cU cS 1 (eK 2) (eL 2) ["p"] JR)(p:bq c9 bw bZ cW cU cS (n+1) (eK 3) (eL 3) ["p","E"] (yN n)):bq c9 bw bZ cW cU cS (n+2) (eK 3) (eL 3) ["p","E"] (yN (n+1)):=by
 refine D.ZY.F.ok Fd (λq H Q E h=>?_) (λG I J s H q Q E k h=>?_)
 ·let⟨x,y,rfl,_⟩:=h;rfl
 let⟨x,y,rfl,h,l⟩:=h;exists _,#v[bM (Cr (GS (pv 1))) #v[aK (Na (GS (pv 0)))] bg,bM (lT (b8 eS rfl D.T.dO wW #[1,oJ rfl D.T.HX PyProof.Rows.boot_bool])) #v[aK (pG (b8 eS rfl D.T.dO wW #[0,oJ rfl D.T.HX PyProof.Rows.boot_bool]) (rW (mP eE (pv 0) (pv 1) (bh _))))] bg,bM (lT (b8 eS rfl D.T.dO wW #[1,oJ rfl D.T.UE PyProof.Rows.boot_int])) #v[aK (pG (aB D.gN o k #[0]) (rW (mP eE (pv 0) (pv 1) (bh _))))] bg,bM (lT (b8 eS rfl D.T.dO wW #[1,oJ rfl D.T.UG PyProof.Rows.boot_str])) #v[aK (pG (b8 eS rfl D.T.dO wW #[0,oJ rfl D.T.UG PyProof.Rows.boot_str]) (rW (mP eE (pv 0) (pv 1) (bh _))))] bg,bM (PW.pt (Ec (aV Jw (b8 eS rfl D.T.dO wW #[1,oJ rfl D.T.jz tK]) (b8 eS rfl D.T.dO wW #[0,oJ rfl D.T.jz tK]) (bh _)) (Cs (aV Jw (b8 eS rfl D.T.dO wW #[1,oJ rfl D.T.Kf PyProof.Rows.boot_tuple]) (b8 eS rfl D.T.dO wW #[0,oJ rfl D.T.Kf PyProof.Rows.boot_tuple]) (bh _))))) #v[aK nj] bg,bM (aV Jw (gf D.T.fJ (pv 0)) (gf D.T.fJ (pv 1)) (bh _)) #v[aK nj] bg,eZ PassesOwn.never rfl (VW rfl D.T.ZW #[0,1]) (lU (n:=2) rfl (bR (bV 2) (bR (bV 3) gJ))) #v[bM (jJ (lT (aB D.ZY p k #[2,3]))) #v[aK nj] bg],aK nj]
 rfl'
 let e:=l H (aH.refl H);rcases h with ⟨r,rfl⟩|⟨a,g,j,t,w,rfl,rfl,d,b,m,A⟩
 ·cases x with
  | gi =>
   refine⟨Y,Y,dN (λ_=>?_) (λc=>absurd (decide_eq_true rfl) c)⟩;exact⟨Y,tt rfl e⟩
  | bl v =>
   refine⟨Y,Y,dN (λc=>absurd (of_decide_eq_true c) (λz=>nomatch z)) (λ_=>?_)⟩;refine⟨Y,Q,Y,jZ.bl v,Zl bZ,Y,iX ?_⟩;exact⟨Y,Q,Y,jZ.bl v,Zl bZ,Y,iX ⟨Y,Y,1,tt rfl e⟩⟩
  | int i =>
   refine⟨Y,Y,dN (λc=>absurd (of_decide_eq_true c) (λz=>nomatch z)) (λ_=>?_)⟩;refine⟨Y,Q,Y,jZ.int i,Zm bZ,Y,gx ?_⟩;refine⟨Y,Q,Y,jZ.int i,Zn bZ,Y,iX ?_⟩;exact⟨Y,i,1,Y,iX ⟨Y,Y,1,tt rfl e⟩⟩
  | str v =>
   refine⟨Y,Y,dN (λc=>absurd (of_decide_eq_true c) (λz=>nomatch z)) (λ_=>?_)⟩;refine⟨Y,Q,Y,jZ.str v,oe bZ,Y,gx ?_⟩;refine⟨Y,Q,Y,jZ.str v,og bZ,Y,gx ?_⟩;refine⟨Y,Q,Y,jZ.str v,Zo bZ,Y,iX ?_⟩;exact⟨Y,Q,Y,jZ.str v,Zo bZ,Y,iX ⟨Y,Y,1,tt rfl e⟩⟩
  | _=>cases r
 ·refine⟨Y,Y,dN (λc=>absurd (of_decide_eq_true c) (λz=>nomatch z)) (λ_=>?_)⟩;refine⟨Y,Q,Y,b.ty,oI bZ a,Y,gx ?_⟩;refine⟨Y,Q,Y,b.ty,oL bZ a,Y,gx ?_⟩;refine⟨Y,Q,Y,b.ty,oO bZ a,Y,gx ?_⟩;refine⟨Y,Q,Y,b.ty,Zq bZ a,Y,Q,Y,d.ty,Zq bZ a,1,Y,NN rfl ?_⟩;refine⟨Y,Q,Y,b.ty,Zr bZ a,Y,Q,Y,d.ty,Zr bZ a,1,Y,NN rfl ?_⟩;refine⟨Y,g,Y,d.or,Y,j,Y,b.or,1,Y,NN (by rw[m]) ?_⟩;refine⟨Y,Y,a,g,j,t,w,1,d.sq,b.sq,Rj (λi f c=>∃ u v,f=[⇑↥g,⇑↥j,u,v]/\aH H c) m ⟨none,none,1,aH.refl H⟩ (by rintro i f c _ ⟨_,_,_,s⟩;exact⟨(d.same s).sq,(b.same s).sq⟩) ?_ ?_⟩
  ·rintro i u v z f c B C F ⟨_,_,rfl,s⟩;exists z,Y,dI.of af,1,u,[v],1,v,[],V;let a:=s.trans (ak F (.tup [u,v]));refine⟨Y,Y,u,v,1,Eqv.same a (A i u v B C),λd b=>⟨Y,gx ?_⟩⟩;exact⟨E,1,a.trans b⟩
  ·rintro f c ⟨_,_,rfl,s⟩;exact l c s
theorem mU(D:bW):∀ n:Nat,bq c9 bw bZ cW cU cS (n+1) (eK 3) (eL 3) ["p","E"] (yN n)
 | 0=>by
  let b:∀ a H Q E,¬ yN 0 a H Q E:=λa H Q E h=>by
   let⟨x,y,_,h,_⟩:=h;exact h
  exact⟨λa H Q E h=>absurd h (b a H Q E),λA c s H args d a Q E _ _ _ _ h=>absurd h (b a H Q E)⟩
 | n+1=>AA D (C3 D) (mU D n)
theorem nI:‹(1,4,["k"],Rn)›:=λD=>by
 refine fP ["k","told","h","n"] D.WH.F λdD A zn s H vs Q E hr _ h=>?_;let⟨w,row,rfl,⟨J,B,F⟩,R,k⟩:=h;refine⟨_,#v[aX 1 (bK ah),eZ PassesOwn.never rfl (cK (pv 0)) (lU (n:=2) rfl (bR (bV 2) (bR (bV 3) gJ))) #v[bM (aV eE (pv 2) (pv 3) (bh _)) #v[Eg] bg,bM (PW.pt (pF (jt (pv 1) (λ_=>rfl)) (mO (aV eE (aO bf (aO bH (pv 1) (iS gm ay)) ay) (pv 2) (bh _))))) #v[mZ (cT #[aO bf (aO bH (pv 1) (iS gm ay)) ay,3]) (pJ (pv 1) (iS gm ay) j4)] #v[aW (eX o7 jW jX b9 (pv 1) #[cT #[2,3]])]],aK (pv 1)],?_⟩
 rfl'
 refine⟨iD,λq g=>?_⟩;let s0:aH H (aL H q (.lst [])):=ak g _;refine⟨Y,w,1,⟨_,bI.of (s0 _ _ B)⟩,ef (K:=bZ) (e:=w) (b:=J.map V.ref) (λi u c=>∃ (d:UV) (x y:Option V),u=[⇑↥w,⇑↥q,x,y]/\c q=⇑(.lst (d.map V.ref))/\aY c d ((row.take i).foldl dR [])/\aH H c) ⟨[],none,none,1,af,.nil,s0⟩ (by rintro i u c _ ⟨_,_,_,_,_,_,s⟩;exact bI.of (s _ _ B)) ?_ ?_⟩
 ·rintro i S u c G ⟨d,x,y,rfl,a,b,s⟩;rw[gj]at G;let⟨L,M,rfl⟩:=Option.map_eq_some_iff.mp G;let⟨⟨f,j⟩,w,B⟩:=F.get M;let step:=Bv (f:=dR) w
  let N:↑d<sizeLine:=by
   let z:=b.len;let e:=EE (row.take i) [];rw[gO]at e;exact aN (by simp only[oV]at e;lia)
  exists L,Y,dI.of (s _ _ B),1,E,1,Z;refine⟨Y,Y,1,Y,dN (λw=>?_) (λw=>?_)⟩
  ·let B:f=j:=V.int.inj (of_decide_eq_true w);refine⟨d,E,1,a,?_,s⟩;rw[step,dR,if_pos B];exact b
  ·let B:¬ f=j:=λz=>w (decide_eq_true (congrArg V.int z));rw[dR,if_neg B]at step;rcases kZ ((row.take i).foldl dR []) with v|⟨i,C,v⟩
   ·rw[v]at b step;let o:d=[]:=List.eq_nil_of_length_eq_zero b.len;subst o;refine⟨Y,false,.inl ⟨_,bI.of a,1⟩,gx (gx ?_)⟩;refine⟨Y,.inl ⟨1,_,bI.of a⟩,Y,Y,mJ,λt e=>⟨q,Z,ak e _ _ _ a,(by show 0<sizeLine;decide),?_⟩⟩;let⟨l,m,n⟩:=ED (c:=f) (d:=j) g s a b e;refine⟨[]++[t],E,1,l,?_,n⟩;rw[step,lZ];exact m
   ·rw[jI]at v;rw[v]at b step;let⟨o,p,rfl,O,I⟩:=b.split;let r:c q=⇑(.lst (o.map V.ref++[↥p])):=by rw[a,gI];rfl
    refine⟨Y,true,.inl ⟨_,bI.of r,by simp⟩,iX ?_⟩;refine⟨Y,Y,q,Q,V,bI.of r,gT _ _,p,Q,V,dI.of I,N5,Y,1,Y,dN (λi=>?_) (λi=>?_)⟩
    ·let v:C.2=f:=V.int.inj (of_decide_eq_true i);refine⟨Y,Y,q,Q,V,bI.of r,gT _ _,p,Q,V,dI.of I,EA,Y,mJ,λt e=>?_⟩;exists Y,Y,q,E,↑o,V,ak e _ _ _ r,Ob o p;let⟨l,m,n⟩:=turned (st:=C.1) (en:=j) g s r O e;refine⟨o++[t],E,1,l,?_,n⟩;rw[step,l5 _ v];exact m
    ·let v:¬ C.2=f:=λz=>i (decide_eq_true (congrArg V.int z));refine⟨Y,.inl ⟨1,_,bI.of a⟩,Y,Y,mJ,λt e=>⟨q,Z,ak e _ _ _ a,(by rw[cC];exact N),?_⟩⟩;let⟨l,m,n⟩:=ED (c:=f) (d:=j) g s a b e;refine⟨o++[p]++[t],E,1,l,?_,n⟩;rw[step,l6 _ v];exact m
 ·rintro u c ⟨d,x,y,rfl,a,b,s⟩;refine⟨Y,k q c ⟨d,a,?_⟩ s g⟩;rw[cC,F.len,gP]at b;exact b
theorem C4:‹(1,5,["k"],Wc)›:=λD=>by
 specialize fP ["k"] D.WI.F;let⟨r,row,rfl,⟨i,e,f⟩,n,k⟩:=h;refine⟨_,#v[aK (b8 (Ex rfl) rfl D.T.UH PyProof.Rows.boot_sum #[iz (N:=["h","n"]) (kg (c:=cy NP) (f:=["k"]) (d:=[none,none]) rfl rfl rfl nofun nofun rfl nofun rfl nofun) rfl (cK (pv 0)) (λ_ _ _ _ _ _=>(qJ (n:=2) rfl (bR (bV 0) (bR (bV 1) gJ)))) (λ_ _ _ _ _ _=>gK) (λ_ _ _ _ _ _=>(bz dc (pv 1) (pv 0)))])],?_⟩
 rfl'
 refine⟨Y,r,1,⟨_,bI.of e⟩,λd g=>gA (K:=bZ) (h:=r) (a:=i.map V.ref) (λi b a=>∃ u v:Option V,b=[u,v]/\a d=⇑(.lst (((row.take i).map λp=>p.2-p.1).map V.int))/\aH H a) ⟨none,none,1,af,ak g _⟩ (by rintro i b a _ ⟨_,_,_,_,s0⟩;exact bI.of (s0 _ _ e)) ?_ ?_⟩
 ·rintro i x b a j ⟨u,v,rfl,c,s0⟩;rw[gj]at j;let⟨l,m,rfl⟩:=Option.map_eq_some_iff.mp j;let⟨⟨j,n⟩,e,i⟩:=f.get m;refine⟨l,Y,dI.of (s0 _ _ i),1,E,1,Z,yes (iX ?_)⟩;refine⟨Y,Y,Z,_,c,?_,E,1,?_,bN g s0 (aG d _ _)⟩
  ·rw[cC,cC,gO];exact aN ∅
  ·rw[af,take_snoc e,gI,gI];rfl
 ·rintro b a ⟨u,v,rfl,c,s0⟩;rw[cC,f.len,gP]at c;exact⟨d,Y,bI.of c,k a s0⟩
class inductive OT
 | mk (r:Addr) (c:Row) (a b:Int) (_:vs=[↥r,.int a,.int b]) (_:bP H r c) (_:↑c<=1000000) (_:RB a b (i7 c)) (_:∀ d,aH H d->Q .gi d)
theorem gV:‹(2,6,["k","h","n"],OT)›:=λD=>by
 specialize fP ["k","h","n"] D.Yi.F;let⟨r,a,d,e,rfl,R,b,z,k⟩:=h;exists _,#v[bM (jJ (Lv gE gE gE ay (pv 1) (pv 2) (_fC.um D.WI (D.T.m9 _ D.WI.m) (C4 D) hr #[0]))) #v[ie] bg]
 rfl'
 exists Y,Z,Y;rw[decide_eq_true z.1];refine dN (λ_=>?_) (λc=>absurd rfl c);exists Y,Z,Y;rw[decide_eq_true z.2.1];refine dN (λ_=>?_) (λc=>absurd rfl c);refine⟨Y,r,a,1,R,b,λa b=>⟨Z,Y,?_⟩⟩;rw[decide_eq_true z.2.2];exact gx (k a b)
theorem qM:‹(1,7,["k","h","n"],EJ)›:=λD=>by
 refine fP ["k","h","n","told","ahead","first","last","low","high"] D.WJ.F λdD A zn s H vs Q E hr _ h=>?_
 let⟨r,row,a,b,rfl,⟨x,o,p⟩,N,k⟩:=h;refine⟨_,#v[aX 3 (bK ah),aX 4 ay,eZ PassesOwn.never rfl (cK (pv 0)) (lU (n:=2) rfl (bR (bV 5) (bR (bV 6) gJ))) #v[aX 7 (b8 (lI rfl) rfl D.T.zl PyProof.Rows.boot_max #[bz dc (pv 1) (pv 4),ay]),aX 8 (b8 (nu rfl) rfl D.T.E6 PyProof.Rows.boot_min #[bz dc (pv 2) (pv 4),bz dc (pv 6) (pv 5)]),bM (aV kM (pv 7) (pv 8) (bh _)) #v[aW (eX o7 jW jX b9 (pv 3) #[cT #[bz dY (pv 5) (pv 7),bz dY (pv 5) (pv 8)]])] bg,rX (i:=4) (by assumption) rfl (Or.inl rfl) (bz dc (pv 6) (pv 5)) Nd],aK (pv 3)],?_⟩
 rfl'
 refine⟨iD,λq m=>?_⟩;let s0:aH H (aL H q (.lst [])):=ak m _;refine⟨Y,r,1,⟨_,bI.of (s0 _ _ o)⟩,ef (K:=bZ) (e:=r) (b:=x.map V.ref) (λi l f=>∃ (d:UV) (t:Int) (u v x y:Option V),l=[⇑↥r,⇑(.int a),⇑(.int b),⇑↥q,⇑(.int t),u,v,x,y]/\t=i7 (row.take i)/\f q=⇑(.lst (d.map V.ref))/\aY f d (kH a b 0 (row.take i))/\aH H f) ⟨[],0,none,none,none,none,V,af,.nil,s0⟩ (by rintro i l f _ ⟨_,_,_,_,_,_,_,_,_,_,s⟩;exact bI.of (s _ _ o)) ?_ ?_⟩
 ·rintro i x l f w ⟨d,t,u,v,B,C,rfl,n,g,j,s⟩;rw[gj]at w;let⟨F,G,rfl⟩:=Option.map_eq_some_iff.mp w;let⟨⟨c,e⟩,o,I⟩:=p.get G;let step:=EG a b (c,e) (row.take i) 0;rw[← take_snoc o,Int.zero_add,← n]at step;let y:t+(e-c)=i7 (row.take (i+1)):=by rw[take_snoc o,N4,n]
  let J:↑d<sizeLine:=by
   let z:=j.len;let o:=jO a b (row.take i) 0;rw[gO]at o;exact aN ∅
  let L:(if (0:Int) > a-t then (0:Int) else a-t)=max (a-t) 0:=by split <;> lia
  let M:(if e-c<b-t then e-c else b-t)=min (b-t) (e-c):=by split <;> lia
  exists F,Y,dI.of (s _ _ I),1,E,1,Z;exists Y,Y,Z,E,1;exists Y,Y,Z,Y,Y,Z,E,1;rw[L,M];refine⟨Y,Y,Z,Y,dN (λi=>?_) (λi=>?_)⟩
  ·let o:max (a-t) 0<min (b-t) (e-c):=of_decide_eq_true i;unfold Oc at step;rw[if_pos o]at step;refine⟨Y,.inl ⟨1,_,bI.of g⟩,Y,Y,Z,Y,Y,Z,mJ,λw r=>⟨q,Z,ak r _ _ _ g,(by rw[cC];exact J),?_⟩⟩;let⟨x,z,F⟩:=ED (c:=c+max (a-t) 0) (d:=c+min (b-t) (e-c)) m s g j r;exists Y,Y,Y,Z,Z;refine⟨d++[w],Q,E,1,y,x,?_,F⟩;rw[step];exact z
  ·let o:¬ max (a-t) 0<min (b-t) (e-c):=λz=>i (decide_eq_true z);unfold Oc at step;rw[if_neg o,gG]at step;exists Y,Y,Y,Z,Z;refine⟨d,Q,E,1,y,g,?_,s⟩;rw[step];exact j
 ·rintro l f ⟨d,t,u,v,B,C,rfl,n,g,j,s⟩;rw[cC,p.len,gP]at j;exact⟨Y,k q f ⟨d,g,j⟩ s m⟩
class inductive So
 | mk (r:Addr) (c:Row) (a b:Int) (_:vs=[↥r,.int a,.int b]) (_:bP H r c) (_:↑c<=1000000) (_:RB a b (i7 c)) (_:∀ (q:Addr) (d:Hp),bP d q (cE (kH a b 0 c))->aH H d->H q=none->Q ↥q d)
theorem Sq:‹(3,8,["k","h","n"],So)›:=λD=>by
 specialize fP ["k","h","n"] D.g0.F;let⟨r,a,b,c,rfl,R,d,z,k⟩:=h;exists _,#v[aW (aB D.Yi (gV D) hr #[0,1,2]),aK (aB D.WH (nI D) hr #[aB D.WJ (qM D) hr #[0,1,2]])]
 rfl'
 refine⟨Y,Y,Y,r,a,b,c,1,R,d,z,λf e=>?_⟩;refine⟨Y,Y,Y,r,a,b,c,1,R.same e,d,λq g R2 f i=>?_⟩;refine⟨q,Y,R2,fX (jO b c a 0) d,λa b c d g=>?_⟩;exact k a b c (e.trans (f.trans d)) (aP (e.trans f) g)
theorem C5:‹(1,9,["k"],Rz)›:=λD=>by
 specialize fP ["k"] D.hC.F;let⟨r,row,rfl,⟨o,b,n⟩,hok,p,k⟩:=h;refine⟨_,#v[aK (vp (N:=["h","n","M"]) (kg (c:=cy sj) (f:=["k"]) (d:=[none,none,none]) rfl rfl rfl nofun nofun rfl nofun rfl nofun) rfl (cK (pv 0)) (λ_ _ _ _ _ _=>(qJ (n:=2) rfl (bR (bV 0) (bR (bV 1) gJ)))) (λ_ _ _ _ _ _=>gK) (λ_ _ _ _ _ _=>(Ls rfl D.T.i9 #[0,1])) (λ_ _ _ _ _ _=>(bV 2)) (λ_ _ _ _ _ _=>gK) (λ_ _ _ _ _ _=>(pv 2)))],?_⟩
 rfl'
 refine⟨Y,r,1,⟨_,bI.of b⟩,λe j=>qb (K:=bZ) (f:=r) (a:=o.map V.ref) (λi a c=>∃ u v z:Option V,a=[u,v,z]/\c e=⇑(.lst ((bu (row.take i)).map V.int))/\aH H c) ⟨none,none,none,1,af,ak j _⟩ (by rintro i a c _ ⟨_,_,_,_,_,s0⟩;exact bI.of (s0 _ _ b)) ?_ ?_⟩
 ·rintro i x a c d ⟨u,v,z,rfl,f,s0⟩;rw[gj]at d;let⟨q,s,rfl⟩:=Option.map_eq_some_iff.mp d;let⟨⟨b,d⟩,o,r⟩:=n.get s;let s:b<=d:=hok _ (mL o);let step:=yQ o
  let o:↑(bu (row.take i))+(d-b).toNat<=1000000:=by
   let z:=rN row (i+1);rw[step,cR,gv,fc]at z;exact fX z p
  refine⟨q,Y,dI.of (s0 _ _ r),1,E,1,Z,yes (iX ?_)⟩;refine⟨Y,Y,b,d,1,EC (lo:=b) (k:=(d-b).toNat) (λo a g=>∃ z:Option V,a=[⇑(.int b),⇑(.int d),z]/\g e=⇑(.lst ((bu (row.take i)++run b o).map V.int))/\aH H g) ⟨z,1,?_,s0⟩ ?_ ?_⟩
  ·rw[run,gG];exact f
  ·rintro o a g t ⟨z,rfl,l,m⟩;refine Ry ?_;refine iX ?_;refine⟨Y,_,l,?_,Y,?_,bN j m (aG e _ _)⟩
   ·rw[cC,cR,fc];exact aN ∅
   ·rw[af,pY,← jq];simp
  ·rintro a g ⟨z,rfl,l,m⟩;refine⟨Q,1,?_,m⟩;rw[step];exact l
 ·rintro a c ⟨u,v,z,rfl,f,s0⟩;rw[cC,n.len,gP]at f;exact k e c f s0 j
class inductive LS
 | mk (r:Addr) (a:Row) (_:vs=[↥r]) (_:bP H r a) (_:↑a<=200) (_:Ok a) (_ :
 ∀ (q:Addr) (b:Row) (c:Hp),bP c q b->EY b->(∀ x,In b x↔In a x)->↑b<=↑a->aH H c->H q=none->Q ↥q c)
theorem BR:‹(2,10,["k"],LS)›:=λD=>by
 refine fP ["k","told","h","n"] D.WK.F λdD A zn s H vs Q E hr _ h=>?_;let⟨r,F,rfl,R,d8,ok,ai⟩:=h;refine⟨_,#v[aX 1 (bK ah),eZ PassesOwn.never rfl (cK (b8 Ay rfl D.T.zm PyProof.Rows.boot_sorted #[aB D.WH (nI D) hr #[0]])) (lU (n:=2) rfl (bR (bV 2) (bR (bV 3) gJ))) #v[bM (PW.pt (pF (jt (pv 1) (λ_=>rfl)) (mO (aV gE (pv 2) (aO bf (aO bH (pv 1) (iS gm ay)) ay) (bh _))))) #v[mZ (cT #[aO bf (aO bH (pv 1) (iS gm ay)) ay,b8 (lI rfl) rfl D.T.zl PyProof.Rows.boot_max #[aO bf (aO bH (pv 1) (iS gm ay)) ay,3]]) (pJ (pv 1) (iS gm ay) j4)] #v[aW (eX o7 jW jX b9 (pv 1) #[cT #[2,3]])]],aK (pv 1)],?_⟩
 rfl'
 refine⟨iD,λq N=>?_⟩;let s0:aH H (aL H q (.lst [])):=ak N _;refine⟨Y,r,F,1,R.same s0,by lia,λR I R1 O DZ=>?_⟩;let⟨am,h1,p1⟩:=R1;let pl:=iO F;refine⟨R,am,cE F,1,h1,p1,eO (aN ∅),λB J L hl ab J6 pL=>?_⟩;let R:aH I (aL I B (.lst (J.map V.ref))):=ak hl _;let ae:=pL.same R;let an:=s0.trans (O.trans R);let gp:=(O.trans R) _ _ (af (H:=H) (a:=q) (o:=.lst []))
 let ao:∀ p∈cE F,p.1<p.2:=λp l=>by
  let z:∀ (r t:Row),Ok r->(∀ p∈t,p.1<p.2)->∀ p∈r.foldl dR t,p.1<p.2:=by
   intro r
   induction r with
   | nil=>intro t _ a;exact a
   | cons c r f =>
    intro t h a;rw[jY];refine f _ (λb g=>h b (jT _ g)) ?_;let ha:=h c (by simp);unfold dR;by_cases C:c.1=c.2
    ·rw[if_pos C];exact a
    ·rw[if_neg C];rcases kZ t with rfl|⟨g,b,rfl⟩
     ·rw[lZ];intro p l;rw[List.mem_singleton.mp l];show c.1<c.2;lia
     ·rw[jI]at a ⊢;let f:=a b (by simp);by_cases d:b.2=c.1
      ·rw[l5 _ d];intro p l;rcases List.mem_append.mp l with e|e
       ·exact a p (lQ _ e)
       ·rw[List.mem_singleton.mp e];show b.1<c.2;lia
      ·rw[l6 _ d];intro p l;rcases List.mem_append.mp l with e|e
       ·exact a p e
       ·rw[List.mem_singleton.mp e];show c.1<c.2;lia
  exact z F [] ok (λp l=>by cases l) p l
 let⟨Al,ap⟩:=LJ ab J6 ao;let l:B≠q:=(az (O _ _ af) hl).symm;let p:=ab.length_eq;refine⟨B,1,⟨_,bI.of af⟩,ef (K:=bZ) (e:=B) (b:=J.map V.ref) (λm M a=>∃ (f:UV) (S T:Option V),M=[⇑↥r,⇑↥q,S,T]/\a q=⇑(.lst (f.map V.ref))/\aY a f ((L.take m).foldl fO [])/\cB q (aL I B (.lst (J.map V.ref))) a) ⟨[],none,none,1,gp,.nil,cB.refl _ _⟩ (by rintro m M a _ ⟨_,_,_,_,_,_,o⟩;exact bI.of (o _ _ af l)) ?_ ?_⟩
 ·rintro m aq M a hi ⟨f,S,T,rfl,i,g,o⟩;rw[gj]at hi;let⟨c,ea,rfl⟩:=Option.map_eq_some_iff.mp hi;let⟨⟨j,k⟩,ep,l⟩:=ae.get ea
  let ha:jN a c (j,k):=o _ _ l (λz=>by
   let bw:=l;unfold jN at bw;rw[z,gp]at bw
   cases bw)
  let step:=Bv (f:=fO) ep
  let bl:↑f<sizeLine:=by
   let z:=g.len;let b:=Ow (L.take m) [];rw[gO,oV]at b;exact aN ∅
  exists c,Y,dI.of ha,1,E,1,Z
  let ag:fO ((L.take m).foldl fO []) (j,k)=(L.take m).foldl fO []++[(j,k)]->∀ t,a t=none->∃ (c:UV) (l p:Option V),[⇑(V.ref r),⇑↥q,⇑(.int j),⇑(.int k)]=[⇑↥r,⇑↥q,l,p]/\(aL (aL a t (.tup [.int j,.int k])) q (.lst (f.map V.ref++[↥t]))) q=⇑(.lst (c.map V.ref))/\aY (aL (aL a t (.tup [.int j,.int k])) q (.lst (f.map V.ref++[↥t]))) c ((L.take (m+1)).foldl fO [])/\cB q (aL I B (.lst (J.map V.ref))) (aL (aL a t (.tup [.int j,.int k])) q (.lst (f.map V.ref++[↥t]))):=λe t d=>by
   let u:aH a (aL a t (.tup [.int j,.int k])):=ak d _;let U:t≠q:=(az i d).symm;refine⟨f++[t],E,1,by rw[af,gI];rfl,?_,λb v W z=>aG q _ _ b v (u _ _ (o b v W z)) z⟩;rw[step,e];refine aY.snoc ((g.same u).keep (u _ _ i) (aG q _ _)) ?_;show aL _ _ _ t=_;rw[aJ U,af]
  rcases kZ ((L.take m).foldl fO []) with w|⟨c,G,w⟩
  ·let b:f=[]:=by rw[w]at g;exact List.eq_nil_of_length_eq_zero g.len
   subst b;refine⟨Y,false,.inl ⟨_,bI.of i,1⟩,gx (gx ?_)⟩;exact⟨Y,.inl ⟨1,_,bI.of i⟩,Y,Y,mJ,λt d=>⟨q,Z,ak d _ _ _ i,(by show 0<sizeLine;decide),ag (by rw[w];rfl) t d⟩⟩
  ·rw[jI]at w;let MP:=g;rw[w]at MP;let⟨n,x,rfl,hc,X⟩:=MP.split;let y:a q=⇑(.lst (n.map V.ref++[↥x])):=by rw[i,gI];rfl
   refine⟨Y,true,.inl ⟨_,bI.of y,by simp⟩,iX ?_⟩;refine⟨Y,Y,Y,q,Q,V,bI.of y,gT _ _,x,Q,V,dI.of X,N5,Z,Y,dN (λc2=>?_) (λc2=>?_)⟩
   ·let C:j<=G.2:=of_decide_eq_true c2;refine⟨Y,Y,q,Q,V,bI.of y,gT _ _,x,Q,V,dI.of X,EA,Y,Y,q,Q,V,bI.of y,gT _ _,x,Q,V,dI.of X,N5,Y,E,1,mJ,λt d=>?_⟩;exists Y,Y,q,E,↑n,V,ak d _ _ _ y,Ob n x;let u:aH a (aL a t (.tup [.int G.1,.int (if k > G.2 then k else G.2)])):=ak d _;let U:t≠q:=(az y d).symm
    let es:(n.map V.ref++[V.ref x]).set ↑n ↥t=(n++[t]).map V.ref:=by
     let z:=yO (n.map V.ref) (V.ref x) (V.ref t);rw[cC]at z;rw[z,gI];rfl
    rw[es];refine⟨n++[t],E,1,af,?_,λb v W z=>aG q _ _ b v (u _ _ (o b v W z)) z⟩;rw[step,w,sN _ C];refine aY.snoc ((hc.same u).keep (u _ _ y) (aG q _ _)) ?_;show aL _ _ _ t=_;rw[aJ U,af]
   ·let C:¬ j<=G.2:=λz=>c2 (decide_eq_true z);exact⟨Y,.inl ⟨1,_,bI.of i⟩,Y,Y,mJ,λt d=>⟨q,Z,ak d _ _ _ i,(by rw[cC];exact bl),ag (by rw[w,sO _ C]) t d⟩⟩
 ·rintro M a ⟨f,S,T,rfl,i,g,o⟩;rw[cC,ae.len,gP]at g;let c:=Ow L [];rw[oV]at c;refine⟨Y,ai q _ a ⟨f,i,g⟩ Al (λaq=>by rw[ap,Ou ok]) ∅ (λb v e=>o b v (an _ _ e) (az e N)) N⟩
def Fg{b:Row}(h:EY b){i j:Nat}{p q:Int × Int}(c:b[i]?=⇑p)(a:b[j]?=⇑q)(k:i<=j):p.2<=q.2:=by
 by_cases d:i=j
 ·subst d;rw[c]at a;cases a;exact Int.le_refl _
 ·let⟨d,e⟩:=List.getElem?_eq_some_iff.mp c;let⟨f,g⟩:=List.getElem?_eq_some_iff.mp a;have:=List.pairwise_iff_getElem.mp h.1 i j d f ∅;rw[e,g]at this;have:=h.2 q (mL a);lia
theorem ux:‹(1,11,["3","h"],RQ)›:=λD=>by
 specialize fP ["3","h","low","high","middle"] D.ZZ.F;let⟨r,b,x,rfl,⟨c,d,m⟩,Al,k⟩:=h;let v:=m.len;exists _,#v[aX 2 ay,aX 3 (gf D.T.fJ (pv 0)),pK PassesOwn.never (aV kM (pv 2) (pv 3) (bh _)) #v[aX 4 (bz yJ (bz dY (pv 2) (pv 3)) ay),bM (aV Ei (aO bf (aO bH (pv 0) (pv 4)) ay) (pv 1) (bh _)) #v[aX 3 (pv 4)] #v[aX 2 (bz dY (pv 4) ay)]],aK (pv 2)]
 rfl'
 exists Y,r,Y,.inl (bI.of d);rw[cC,v];refine⟨λn o e=>∃ (lo a:Nat) (u:Option V),o=[⇑↥r,⇑(.int x),⇑(.int lo),⇑(.int a),u]/\e=H/\n=a-lo/\lo<=a/\a<=↑b/\(∀ i p,b[i]?=⇑p->i<lo->p.2<=x)/\(∀ i p,b[i]?=⇑p->a<=i->x<p.2),⟨_,0,↑b,none,V,1,by lia,d7 _,λi p _ h=>by lia,λi p d v=>by rw[List.getElem?_eq_none v]at d;cases d⟩,?_⟩;rintro n o e ⟨lo,a,u,rfl,rfl,rfl,n,q,s,t⟩;refine⟨Y,Y,Z,Y,dN (λf=>?_) (λf=>?_)⟩
 ·let G:(lo:Int)<a:=of_decide_eq_true f;refine⟨fun n o=>∃ v,v<a-lo/\∃ (lo a:Nat) (u:Option V),n=[⇑↥r,⇑(.int x),⇑(.int lo),⇑(.int a),u]/\o=e/\v=a-lo/\lo<=a/\a<=↑b/\(∀ i p,b[i]?=⇑p->i<lo->p.2<=x)/\(∀ i p,b[i]?=⇑p->a<=i->x<p.2),fun n o z=>z,?_⟩;let w:((lo:Int)+a) / 2=((lo+a) / 2:Nat):=by lia
  refine⟨Y,Y,Z,Z,⟨by decide,by decide⟩,?_⟩;obtain⟨mid,y⟩:∃ mid,mid=(lo+a) / 2:=⟨Y⟩;let g:b[mid]?=⇑b[mid]:=nh ∅;let B:c[mid]?=⇑c[mid]:=nh ∅;let⟨e,C,I⟩:=m.get B;rw[g]at C;cases C
  let J:nM (c.map V.ref) (((lo:Int)+a) / 2)=⇑(.ref c[mid]):=by
   rw[w,← y];exact dm (by rw[gj,B];rfl)
  refine⟨Y,Y,r,Q,V,bI.of d,J,c[mid],Q,V,dI.of I,N5,Y,Z,Y,dN (λj=>?_) (λj=>?_)⟩
  ·let L:x<b[mid].2:=of_decide_eq_true j;refine⟨Y,mid-lo,by lia,lo,mid,⇑(.int (((lo:Int)+a) / 2)),?_,V,by lia,by lia,s,λi p l F=>?_⟩
   ·rw[y,← w];rfl
   ·have:=Fg Al g l F;lia
  ·let L:¬ x<b[mid].2:=λz=>j (decide_eq_true z);refine⟨Y,Z,a-(mid+1),by lia,mid+1,a,⇑(.int (((lo:Int)+a) / 2)),?_,V,by lia,q,λi p l F=>?_,t⟩
   ·have:((lo:Int)+a) / 2+1=((mid+1:Nat):Int):=by lia
    rw[← this];rfl
   ·have:=Fg Al l g ∅;lia
 ·let G:¬ (lo:Int)<a:=λz=>f (decide_eq_true z);have g:a=lo:=by lia
  subst g;exact⟨Y,k a ⟨q,s,t⟩⟩
theorem C6:‹(2,12,["h","n","3"],Ws)›:=λD=>by
 refine fP ["h","n","3","told","left","hole"] D.Z0.F λdD A zn s H vs Q E hr _ h=>?_;let⟨r,a,c,b,rfl,R,O,S,X,ae⟩:=h;refine⟨_,#v[aX 3 (bK ah),aX 4 (pv 0),aX 5 (aB D.ZZ (ux D) hr #[2,0]),pK PassesOwn.never (PW.pt (pF (aV kM (pv 5) (gf D.T.fJ (pv 2)) (bh _)) (mO (aV kM (aO bf (aO bH (pv 2) (pv 5)) ay) (pv 1) (bh _))))) #v[aW (eX o7 jW jX b9 (pv 3) #[cT #[4,b8 (lI rfl) rfl D.T.zl PyProof.Rows.boot_max #[4,aO bf (aO bH (pv 2) (pv 5)) ay]]]),aX 4 (b8 (nu rfl) rfl D.T.E6 PyProof.Rows.boot_min #[aO bf (aO bH (pv 2) (pv 5)) ay,1]),rX (i:=5) (by assumption) rfl (Or.inl rfl) ay Nd],aW (eX o7 jW jX b9 (pv 3) #[cT #[4,1]]),aK (pv 3)],?_⟩
 rfl'
 refine⟨iD,λq y=>?_⟩;let s0:aH H (aL H q (.lst [])):=ak y _;refine⟨Y,Y,Y,r,a,c,1,R.same s0,O,λn S=>?_⟩;let⟨d,T,I⟩:=id R;let n1:=I.len;let⟨R,d2⟩:=S.drop;let ag:=S.1;let⟨o1,S,o3⟩:=Uv b (a.drop n) c X R (O.drop n);let O:=Ox b (a.drop n) c;rw[pD]at O
 let ai:bu (lo b c (a.drop n))=iC a (gv (c,b)):=by
  rw[S];refine qc λx e=>(d2 x ?_).symm;have:=(kj.mp e).1;simpa using this
 exists λO R m=>∃ (i:Nat) (l:Int) (e:UV) (f:Row),R=[⇑(.int c),⇑(.int b),⇑↥r,⇑↥q,⇑(.int l),⇑(.int i)]/\m q=⇑(.lst (e.map V.ref))/\aY m e f/\f++lo b l (a.drop i)=lo b c (a.drop n)/\n<=i/\i<=↑a/\O=↑a-i/\aH H m,⟨_,n,c,[],[],1,af,.nil,1,d7 _,ag,1,s0⟩;rintro O R m ⟨i,l,e,f,rfl,j,J,B,ni,il,rfl,o⟩;have O:=J.len;have O:=congrArg List.length B;rw[cR]at O;have L:=o _ _ T;exists Y,Y,r,Y,.inl (bI.of L),Z,Y;rw[cC,n1];refine J1 (p:=(i:Int)<↑a) (q:=(a.getD i (0,0)).1<b) (λpi z=>?_) (λM=>?_) (λM=>?_)
 ·let g:i<↑a:=by lia
  let p:a[i]?=⇑a[i]:=nh g;let t:d[i]?=⇑d[i]:=nh ∅;let⟨pp,u,C⟩:=I.get t;rw[p]at u;cases u;let v:a.getD i (0,0)=a[i]:=by rw[List.getD_eq_getElem?_getD,p];rfl
  rw[v]at z;exact⟨Y,Y,r,Q,V,bI.of L,dm (by rw[gj,t];rfl),d[i],Q,V,dI.of (o _ _ C),EA,Y,Z,Y,z⟩
 ·let⟨pi,U⟩:=M;let g:i<↑a:=by lia
  let p:a[i]?=⇑a[i]:=nh g;let t:d[i]?=⇑d[i]:=nh ∅;let⟨pp,u,C⟩:=I.get t;rw[p]at u;cases u;let v:a.getD i (0,0)=a[i]:=by rw[List.getD_eq_getElem?_getD,p];rfl
  rw[v]at U;let N:a.drop i=a[i]::a.drop (i+1):=List.drop_eq_getElem_cons g;let W:nM (d.map V.ref) (i:Int)=⇑(.ref d[i]):=dm (by rw[gj,t];rfl)
  let am:f++[(l,if a[i].1 > l then a[i].1 else l)]++lo b (if b<a[i].2 then b else a[i].2) (a.drop (i+1))=lo b c (a.drop n):=by
   rw[← B,N,lo,if_pos U,jq];rfl
  refine⟨fun t p=>∃ u,u<↑a-i/\∃ (i:Nat) (l:Int) (e:UV) (f:Row),t=[⇑(.int c),⇑(.int b),⇑↥r,⇑↥q,⇑(.int l),⇑(.int i)]/\p q=⇑(.lst (e.map V.ref))/\aY p e f/\f++lo b l (a.drop i)=lo b c (a.drop n)/\n<=i/\i<=↑a/\u=↑a-i/\aH H p,fun t p z=>z,?_⟩;refine⟨Y,.inl ⟨1,_,bI.of j⟩,Y,Y,Y,Y,r,Q,V,bI.of L,W,d[i],Q,V,dI.of (o _ _ C),EA,E,1,mJ,λF w=>⟨q,Z,ak w _ _ _ j,(by rw[cC];exact aN ∅),?_⟩⟩;let⟨G,x,k⟩:=ED (c:=l) (d:=if a[i].1 > l then a[i].1 else l) y o j J w;generalize aL (aL m F (.tup [.int l,.int (if a[i].1 > l then a[i].1 else l)])) q (.lst (e.map V.ref++[↥F]))=c at G x k;exists Y,Y,r,Q,V,bI.of (k _ _ T),W,d[i],Q,V,dI.of (k _ _ C),N5,Y,E,1;refine⟨Y,Z,↑a-(i+1),by lia,i+1,_,e++[F],Y,G,x,am,by lia,by lia,1,k⟩
 ·let p:lo b l (a.drop i)=[(l,b)]:=by
   by_cases g:i<↑a
   ·let N:a.drop i=a[i]::a.drop (i+1):=List.drop_eq_getElem_cons g;let v:a.getD i (0,0)=a[i]:=by rw[List.getD_eq_getElem?_getD,nh g];rfl
    rw[N,lo,if_neg (λz=>M ⟨by lia,by rw[v];exact z⟩)]
   ·rw[wX ∅];rfl
  rw[p]at B;refine⟨Y,.inl ⟨1,_,bI.of j⟩,Y,Y,mJ,λF w=>⟨q,Z,ak w _ _ _ j,(by rw[cC];exact aN ∅),?_⟩⟩;let⟨G,x,k⟩:=ED (c:=l) (d:=b) y o j J w;rw[B]at x;exact⟨Y,ae q _ _ ⟨_,G,x⟩ o1 ai o3 ∅ k y⟩
class inductive Ib
 | mk (r o:Addr) (a b:Row) (_:vs=[↥r,↥o]) (_:bP H r a) (_:bP H o b) (_:↑a<=200) (_:↑b<=200) (_:Ok a) (_:Ok b) (_ :
 ∀ (q:Addr) (c:Hp),bP c q (cL (iC b (bu a)))->↑(cL (iC b (bu a)))<=↑a*(↑b+1)->aH H c->H q=none->Q ↥q c)
theorem Ic:‹(3,13,["k","6"],Ib)›:=λD=>by
 specialize fP ["k","6","3"] D.Z1.F;let⟨W,ai,C,F,rfl,am,an,GG,xg,UL,Yj,ao⟩:=h;refine⟨_,#v[aX 2 (aB D.WK (BR D) hr #[1]),aK (aB D.WH (nI D) hr #[vp (N:=["h","n","piece","3"]) (kg (c:=cy yj) (f:=["k","6","3"]) (d:=[none,none,none,some 2]) rfl rfl rfl nofun nofun rfl nofun rfl nofun) rfl (cK (pv 0)) (λ_ _ _ _ _ _=>(qJ (n:=2) rfl (bR (bV 0) (bR (bV 1) gJ)))) (λ_ _ _ _ _ _=>gK) (λ_ _ _ _ _ _=>(ER (aB D.Z0 (C6 D) hr #[0,1,3]))) (λ_ _ _ _ _ _=>(bV 2)) (λ_ _ _ _ _ _=>gK) (λ_ _ _ _ _ _=>(pv 2))])],?_⟩
 rfl'
 refine⟨Y,ai,F,1,an,xg,Yj,λS bJ X RS Al ap ai G hS=>?_⟩;let⟨as,h1,p1⟩:=am.same G;let n1:=p1.len;refine⟨Y,W,1,⟨_,bI.of h1⟩,λa cN=>qb (K:=bZ) (f:=W) (a:=as.map V.ref) (λi d g=>∃ (I J x:Option V) (c:UV) (L:Row),d=[I,J,x,⇑↥S]/\g a=⇑(.lst (c.map V.ref))/\aY g c L/\Ok L/\bu L=iC F (bu (C.take i))/\↑L<=201*i/\↑L<=i*(↑F+1)/\aH X g) ⟨none,none,none,[],[],1,af,.nil,(λp l=>by cases l),1,by simp,by simp,ak cN _⟩ (by rintro i d g _ ⟨_,_,_,_,_,_,_,_,_,_,_,_,e⟩;exact bI.of (e _ _ h1)) ?_ ?_⟩
 ·rintro i aq d g hi ⟨I,J,x,c,L,rfl,r,s,M,t,lL,N,e⟩;rw[gj]at hi;let⟨u,ea,rfl⟩:=Option.map_eq_some_iff.mp hi;let⟨⟨st,en⟩,v,ar⟩:=p1.get ea
  let F:i<↑C:=by
   rcases Nat.lt_or_ge i ↑C with z|z
   ·exact z
   ·rw[List.getElem?_eq_none z]at v;cases v
  refine⟨u,Y,dI.of (e _ _ ar),1,E,1,Z,yes (iX ?_)⟩;refine⟨Y,Y,Y,S,bJ,st,en,1,RS.same e,Al,by lia,UL _ (mL v),λq ab w C av aw _ i k O=>?_⟩;let⟨f,i,pm⟩:=id C;let ml:=pm.len;let C:=s.len;let h3:=k _ _ r;let C:q≠a:=(az r O).symm;refine⟨q,1,⟨_,bI.of i⟩,yY (K:=bZ) (j:=q) (o:=a) (t:=pI 2) (tt:=Lp) (u:=QO 2) (b:=f.map V.ref) (λl d b=>∃ R:Option V,d=[⇑(.int st),⇑(.int en),R,⇑↥S]/\b a=⇑(.lst ((c++f.take l).map V.ref))/\aY b (c++f.take l) (L++ab.take l)/\cB a w b/\aH X b) ?_ ?_ ?_ ?_⟩
  ·exact⟨x,1,(by simpa using h3),(by simpa using s.same k),(λ_ _ T _=>T),e.trans k⟩
  ·rintro l d b _ ⟨_,_,_,_,m,_⟩;exact bI.of (m q _ i C)
  ·rintro l aq d b hl ⟨R,rfl,j,n,m,U⟩;rw[gj]at hl;let⟨y,o,rfl⟩:=Option.map_eq_some_iff.mp hl;let⟨p,ax,ae⟩:=pm.get o
   let i:l<↑f:=by
    rcases Nat.lt_or_ge l ↑f with z|z
    ·exact z
    ·rw[List.getElem?_eq_none z]at o;cases o
   let ag:jN b y p:=m y _ ae (λz=>by
    let bw:w a=⇑(.tup [.int p.1,.int p.2]):=by rw[← z];exact ae
    rw[h3]at bw
    cases bw)
   let B:cB a b (aL b a (.lst ((c++f.take l).map V.ref++[↥y]))):=aG a _ _;refine Ry (iX ⟨Y,_,j,?_,Y,?_,?_,λu i T C=>B u i (m u i T C) C,bN cN U B⟩)
   ·rw[cC,cR,gO];exact aN ∅
   ·rw[af,take_snoc o,← jq,gI (l₁:=c++f.take l)];rfl
   ·rw[take_snoc o,take_snoc ax,← jq,← jq]
    exact aY.snoc (n.keep j B) (B y _ ag (λz=>by
     let bw:b a=⇑(.tup [.int p.1,.int p.2]):=by rw[← z];exact ag
     rw[j]at bw
     cases bw))
  ·rintro d b ⟨R,rfl,j,n,m,U⟩;rw[cC,gP]at j n;rw[ml,gP]at n;refine⟨Q,c++f,L++ab,1,j,n,λp l=>(List.mem_append.mp l).elim (M p) (av p),?_,by rw[cR];lia,(by rw[cR,Nat.succ_mul];lia),U⟩;rw[cM,t,aw,take_snoc v,cM,nX,fF];congr 1;exact qc λx _=>ap x
 ·rintro d g ⟨I,J,x,c,L,rfl,r,s,M,t,lL,N,e⟩;rw[cC,n1,gP]at t;rw[cC,n1]at lL N;refine⟨a,L,1,⟨c,r,s⟩,by lia,λq w a k O=>?_⟩;let b:=iO L;rw[nC L M,t]at a b;exact ao q w a (fX b N) (G.trans (e.trans k)) (aP (G.trans e) O)
def Bl(a:Addr)(H:Hp)(x d t:Addr):Prop:=H x=⇑(.ins a d [("stains",↥t)])
class inductive Ss(CB:Addr)
 | mk (x d:Addr) (_:vs=[↥x]) (_:H x=⇑(.ins CB d [])) (_: ∀ (t:Addr) (a:Hp),Bl CB a x d t->bP a t []->cB x H a->H t=none->Q .gi a)
class inductive Xe(CB:Addr)
 | mk (x r e t:Addr) (a b:Row) (_:vs=[↥x,↥r]) (_:Bl CB H x e t) (_:bP H t a) (_:bP H r b) (_:↑a+↑b<=200) (_:Ok a) (_:Ok b) (_ :
 ∀ (t':Addr) (c:Row) (d:Hp),Bl CB d x e t'->bP d t' c->EY c->(∀ y,In c y↔In a y\/In b y)->↑c<=↑a+↑b->cB x H d->H t'=none->Q .gi d)
theorem uy:‹(1,14,["c"],(Ss fG))›:=λD=>by
 specialize fP ["c"] D.Z2.F;let⟨x,d,rfl,b,k⟩:=h;exists _,#v[iT (pv 0) (bK ah) rfl]
 rfl'
 refine⟨iD,λt a=>?_⟩;let c:t≠x:=(az b a).symm;refine⟨Y,x,fG,d,Y,ak a _ _ _ b,D.qh.cl,D.qD,by decide,?_⟩;exact k t _ af ⟨[],by rw[aJ c,af];rfl,.nil⟩ (λb o e n=>by rw[aJ n];exact ak a _ b o e) a
theorem AB:‹(3,15,["c","k"],(Xe fG))›:=λD=>by
 specialize fP ["c","k"] D.Z3.F;let⟨x,r,d,t,i,j,rfl,c,R,O,k,l,m,n⟩:=h;let⟨b,a,e⟩:=id R;let⟨f,o,g⟩:=id O;let p:=e.len;let p:=g.len;exists _,#v[iT (pv 0) (aB D.WK (BR D) hr #[bz jf (dh (pv 0) rfl) (pv 1)]) rfl]
 rfl'
 refine⟨Y,x,fG,d,_,↥t,1,c,D.qh.cl,D.qD,1,Y,t,r,Z,a,o,(by rw[cC,cC];exact eO (aN ∅)),λp o=>?_⟩;let a:aH H (aL H p (.lst (b.map V.ref++f.map V.ref))):=ak o _;refine⟨p,i++j,1,⟨b++f,by rw[af,gI],(e.same a).append (g.same a)⟩,(by rw[cR];exact k),(λq b=>(List.mem_append.mp b).elim (l q) (m q)),λq M e g i j k f b=>?_⟩;let e:=a.trans f;let f:=e _ _ c;refine⟨Y,x,fG,d,Y,f,D.qh.cl,D.qD,(by show 1<1000;decide),?_⟩;exact n q M _ af (g.obj f (aG x _ _)) i (λy=>(j y).trans nF) (by rw[← cR];exact k) (λc o d n=>aG x _ _ c o (e c o d) n) (aP a b)
theorem LV(a:List aT):↑(fN a)<=↑a:=List.length_filterMap_le _ a
class inductive Xf
 | mk (r:Addr) (a:List aT) (_:vs=[↥r]) (_:bU H ↥r a) (_:↑a<=100000) (_ :
 ∀ (o:Addr) (b:Hp),b o=⇑(.lst ((fN a).map V.int))->aH H b->H o=none->Q ↥o b)
theorem zo:‹(1,16,["j"],Xf)›:=λD=>by
 specialize fP ["j"] D.WL.F;let⟨r,a,rfl,⟨t,vs,o,l,m⟩,v,k⟩:=h;cases o;refine⟨_,#v[aK (iz (N:=["X"]) (kg (c:=cy yk) (f:=["j"]) (d:=[none]) rfl rfl rfl nofun nofun rfl nofun rfl nofun) rfl (cK (pv 0)) (λ_ _ _ _ _ _=>(bV 0)) (λ_ _ _ _ _ _=>xM (aV eE (aO xO (pv 0) ay) bC (bh _))) (λ_ _ _ _ _ _=>(aO xO (pv 0) ay)))],?_⟩
 rfl'
 refine⟨Y,r,1,⟨_,bI.of l⟩,λe f=>gA (K:=bZ) (h:=r) (a:=vs) (λi d b=>∃ u:Option V,d=[u]/\b e=⇑(.lst ((fN (a.take i)).map V.int))/\aH H b) ⟨none,1,af,ak f _⟩ (by rintro i d b _ ⟨_,_,_,s0⟩;exact bI.of (s0 _ _ l)) ?_ ?_⟩
 ·rintro i x d b p ⟨u,rfl,c,s0⟩;let⟨n,s,g,rfl,j⟩:=m.get p;let step:fN (a.take (i+1))=fN (a.take i)++fN [n]:=by rw[take_snoc s,gB]
  let l:↑(fN (a.take i))<=100000:=by
   let z:=LV (a.take i);rw[gO]at z;lia
  cases n with
  | win n =>
   refine⟨Y,g,Q,V,dI.of (s0 _ _ j),V,Y,dN (λ_=>?_) (λz=>absurd (by decide) z)⟩;refine⟨Y,g,Q,V,dI.of (s0 _ _ j),1,_,c,(by rw[cC];exact aN ∅),Y,?_,bN f s0 (aG e _ _)⟩;rw[af,step,gI];rfl
  | aC p q =>
   refine⟨Y,g,Q,V,dI.of (s0 _ _ j),V,Y,dN (λz=>absurd z (by decide)) (λ_=>?_)⟩;refine⟨Y,?_,s0⟩;rw[c,step];show _=⇑(HO.lst ((fN (a.take i)++[]).map V.int));rw[gG]
 ·rintro d b ⟨u,rfl,c,s0⟩;rw[m.len,gP]at c;exact k e b c s0 f
structure LW(rows:cZ)(ks:UF):Prop where
 D5:∀ x∈ks,0<=x/\x<↑rows
 dn:∀ (i:Nat) (x:Int),ks[i]?=⇑x->∀ y,jF rows x y->y∈ks.take i
class inductive Su
 | mk (r L:Addr) (a:cZ) (b:UF) (_:vs=[↥r,↥L]) (_:gU H r (a.map aF)) (_:H L=⇑(.lst (b.map V.int))) (_:↑b<=1000) (_:↑a<=1000) (_:(∀ e∈a,↑e<=1000)) (_:gM a) (_:CM a) (_:(∀ s∈b,0<=s/\s<↑a)) (_ :
 ∀ (c:UF) (o:Addr) (d:Hp),d o=⇑(.lst (c.map V.int))->aH H d->LW a c->(∀ s∈b,s∈c)->↑c<=1000->H o=none->Q ↥o d)
def LW.snoc{c:cZ}{a:UF}{x:Int}(h:LW c a)(j:0<=x)(k:x<↑c)(e:∀ y,jF c x y->y∈a):LW c (a++[x]):=by
 refine⟨λy f=>?_,λi y b z d=>?_⟩
 ·rcases List.mem_append.mp f with q|q
  ·exact h.D5 y q
  ·have:y=x:=by simpa using q
   lia
 ·by_cases f:i<↑a
  ·rw[Cn f]at b;rw[List.take_append_of_le_length ∅];exact h.dn i y b z d
  ·let g:i=↑a:=by
    rcases Nat.lt_or_ge i ↑(a++[x]) with q|q
    ·rw[cR,gW]at q;lia
    ·rw[List.getElem?_eq_none q]at b;cases b
   subst g;rw[uT (d7 _),Nat.sub_self]at b;cases b;rw[List.take_append_of_le_length (d7 _),gP];exact e z d
def BS{a:List (d9 × V)}{b:UF}(h:a.map (·.1)=b.map Sum.inl)(x:Int):seen a x↔x∈b:=by
 unfold seen;rw[← mh,List.any_eq_true];constructor
 ·rintro⟨p,c,e⟩;let d:p.1=Sum.inl x:=of_decide_eq_true e;have:p.1∈b.map (Sum.inl:Int->d9):=by rw[← h];exact List.mem_map_of_mem c
  rw[d,List.mem_map]at this;let⟨y,d,f⟩:=this;rw[Sum.inl.inj f]at d;exact d
 ·intro d;have:(Sum.inl x:d9)∈a.map (·.1):=by rw[h];exact List.mem_map_of_mem d
  let⟨p,c,e⟩:=List.mem_map.mp this;exact⟨p,c,decide_eq_true e⟩
structure fA(rows:cZ)(rk:Int->Nat)(H:Hp)(W S:Addr)(ss:UF)(H2:Hp)(bs ps ks:UF)(kvs:List (d9 × V)):Prop where
 hW:H2 W=⇑(.lst ((bs++ps).map V.int))
 hS:H2 S=⇑(.dK kvs)
 sm:aH H H2
 ky:kvs.map (·.1)=ks.map Sum.inl
 tp:LW rows ks
 rg:∀ x∈bs++ps,0<=x/\x<↑rows
 ns:∀ x∈ps,¬ seen kvs x
 pw:ps.Pairwise λa b=>rk b<rk a
 rb:∀ (i:Nat) (x:Int),ps[i]?=⇑x->rk x+i<=40
 st:∀ s∈ss,s∈bs\/s∈ks
 kl:↑kvs+m7 ↑rows kvs<=↑rows
 bl:↑bs<=1000
def BU{a:List (d9 × V)}{k:d9}(v:V)(h:(cG a k).isSome=true):(dP a k v).map (·.1)=a.map (·.1):=by
 unfold dP;rw[if_pos (by rw[mh];exact h),List.map_map];refine List.map_congr_left λp _=>?_;show (if p.1=k then (p.1,v) else p).1=p.1
 split <;> rfl
def Ie{rk:Int->Nat}{a:UF}(b:∀ (i:Nat) (x:Int),a[i]?=⇑x->rk x+i<=40):↑a<=41:=by
 rcases kZ a with rfl|⟨c,n,rfl⟩
 ·simp
 ·rw[jI]at b ⊢;have:=b ↑c n (by rw[uT (d7 _),Nat.sub_self];rfl);rw[cR,gW];lia
structure Top(rk:Int->Nat)(ss bs ps ks:UF)(kvs:List (d9 × V))(AD uz:UF)(n:Int):Prop where
 eq:bs++ps=AD++uz++[n]
 ns:∀ x∈uz,¬ seen kvs x/\x≠n
 pw:uz.Pairwise λa b=>rk b<rk a
 rb:∀ (i:Nat) (x:Int),uz[i]?=⇑x->rk x+i<=40
 st:∀ s∈ss,s∈AD\/s=n\/s∈ks
 old:seen kvs n->AD.length+50-↑uz<↑bs+50-↑ps
 le:AD.length+50-↑uz<=↑bs+51-↑ps
 bl:AD.length<=↑bs
 up:∀ y:Int,rk y<=40->rk y<rk n->(ps++[y]).Pairwise (λa b=>rk b<rk a)/\∀ (i:Nat) (x:Int),(ps++[y])[i]?=⇑x->rk x+i<=40
def fA.top{t:cZ}{rk:Int->Nat}{H:Hp}{W u:Addr}{l:UF}{v:Hp}{c e m:UF}{o:List (d9 × V)}(B:fA t rk H W u l v c e m o):c++e=[]\/∃ h d n,Top rk l c e m o h d n:=by
 let p:∀ (b:UF) (y:Int),(∀ (i:Nat) (x:Int),b[i]?=⇑x->rk x+i<=40)->rk y+↑b<=40->∀ (i:Nat) (x:Int),(b++[y])[i]?=⇑x->rk x+i<=40:=by
  intro b y f g i x a;rcases Nat.lt_or_ge i ↑b with q|q
  ·rw[Cn q]at a;exact f i x a
  ·let j:i=↑b:=by
    rcases Nat.lt_or_ge i ↑(b++[y]) with w|w
    ·rw[cR,gW]at w;lia
    ·rw[List.getElem?_eq_none w]at a;cases a
   subst j;rw[uT (d7 _),Nat.sub_self]at a;cases a;exact g
 rcases kZ e with rfl|⟨d,n,rfl⟩
 ·rcases kZ c with rfl|⟨h,n,rfl⟩
  ·exact .inl rfl
  ·rw[jI]at B ⊢;refine .inr ⟨h,[],n,by simp,by simp,by simp,by simp,λs j=>?_,λ_=>?_,?_,?_,λy f g=>⟨by simp,p [] y (by simp) (by simpa using f)⟩⟩
   ·rcases B.st s j with z|z
    ·rcases List.mem_append.mp z with z|z
     ·exact .inl z
     ·exact .inr (.inl (by simpa using z))
    ·exact .inr (.inr z)
   ·rw[cR,gW];simp only[oV];lia
   ·rw[cR,gW];simp only[oV];lia
   ·rw[cR,gW];lia
 ·rw[jI]at B ⊢;let k:=List.pairwise_append.mp B.pw;let b:=B.rb ↑d n (by rw[uT (d7 _),Nat.sub_self];rfl);refine .inr ⟨c,d,n,by rw[jq],λx a=>⟨B.ns x (lQ _ a),λA=>?_⟩,k.1,λi x a=>?_,λs j=>(B.st s j).elim .inl λz=>.inr (.inr z),λz=>absurd z (B.ns n (by simp)),?_,d7 _,λy f g=>⟨?_,p _ y B.rb ?_⟩⟩
  ·subst A;exact Nat.lt_irrefl _ (k.2.2 x a x (by simp))
  ·refine B.rb i x ?_;rw[Cn]
   ·exact a
   ·rcases Nat.lt_or_ge i ↑d with q|q
    ·exact q
    ·rw[List.getElem?_eq_none q]at a;cases a
  ·rw[cR,gW];lia
  ·rw[List.pairwise_append];refine⟨B.pw,by simp,λr C a b=>?_⟩;have:a=y:=by simpa using b
   subst this;rcases List.mem_append.mp C with q|q
   ·have:=k.2.2 r q n (by simp);lia
   ·have:r=n:=by simpa using q
    subst this;exact g
  ·rw[cR,gW];lia
def UN(a:cZ)(rk:Int->Nat)(H:Hp)(r L W b:Addr)(f:UF)(m:Nat)(g:_L2.St)(h:Hp):Prop:=∃ (c d i:UF) (e:List (d9 × V)) (u v:Option V),g=[⇑↥r,⇑↥L,⇑↥b,⇑↥W,u,v]/\fA a rk H W b f h c d i e/\m=100*m7 ↑a e+(↑c+50-↑d)
theorem Fi:‹(2,17,["m","F"],Su)›:=λD=>by
 specialize fP ["m","F","told","waiting","9","missing"] D.WM.F;let⟨N,L,c,ss,rfl,hR,hL,aq,d8,ar,oK,⟨rk,as,uu⟩,av,k⟩:=h;let hu:=gS hr;refine⟨_,#v[aX 2 j8,aX 3 (fY gR rfl D.T.jz tK #[1]),pK PassesOwn.never (jt (pv 3) (λ_=>rfl)) #v[aX 4 (aO bH (pv 3) (iS gm ay)),CK (N:=["6","told"]) (l:=5) (kg (c:=cy Hl) (f:=["m","F","told","waiting","9","missing"]) (d:=[none,some 2]) rfl rfl rfl nofun nofun rfl nofun rfl nofun) rfl (by assumption) rfl rfl (cK (aB D.WL (zo D) hr #[aO bH (pv 0) (pv 4)])) (λ_ _ _ _ _ _=>(bV 0)) (λ_ _ _ _ _ _=>xM (Cr (BB hu (pv 0) (pv 1)))) (λ_ _ _ _ _ _=>(pv 0)),bM (jt (pv 5) (λ_=>rfl)) #v[aW (eX o7 jW jX b9 (pv 3) #[aO bH (pv 5) ay])] #v[qI hu (pv 2) (pv 4) nj rfl,aW (Hf o7 PySem.F.slot_list_pop PySem.F.type_list_pop NF (pv 3))]],aK (fY (HE rfl) rfl D.T.jz tK #[2])],?_⟩
 rfl'
 intro S O;let R:aH H (aL H S (.dK [])):=ak O _;refine⟨Y,L,Y,.inl (bI.of (R _ _ hL)),λW F=>?_⟩;let s2:=R.trans (ak F (.lst (ss.map V.int)))
 let T:H W=none:=by
  cases g:H W with
  | none=>rfl
  | some u=>exact absurd ((R _ _ g).symm.trans F) (by simp)
 let G:W≠S:=(az af F).symm;refine⟨UN c rk H N L W S ss,⟨_,ss,[],[],[],none,none,1,⟨(by rw[af,gG]),ak F _ _ _ af,s2,1,⟨(λx d=>by cases d),λi x I=>by simp at I⟩,(λx d=>av x (by simpa using d)),by simp,by simp,by simp,(λs o=>.inl o),?_,aq⟩,1⟩,?_⟩
 ·have:=y9 ↑c (λi=>(cG ([]:List (d9 × V)) (Sum.inl (i:Int))).isNone);show 0+cnt ↑c _<=_;lia
 rintro aM v H2 ⟨w,C,m,a,J,aU,rfl,B,rfl⟩;exists Y,!((w++C).map V.int).isEmpty,.inl ⟨_,bI.of B.hW,1⟩;rcases B.top with j|⟨e,f,n,t⟩
 ·let d:(!((w++C).map V.int).isEmpty)=false:=by rw[j];rfl
  rw[d];refine gx ?_
  let q:a.map (λp=>kV p.1)=m.map V.int:=by
   let z:a.map (λp=>kV p.1)=(a.map (·.1)).map kV:=by rw[List.map_map];rfl
   rw[z,B.ky,List.map_map];rfl
  let d:↑m=↑a:=by
   let z:=congrArg List.length B.ky;rw[cC,cC]at z;exact z.symm
  let U:=B.kl;refine⟨Y,S,a,1,B.hS,λl b=>?_⟩;refine k m l _ (by rw[af,q]) (B.sm.trans (ak b _)) B.tp (λs o=>(B.st s o).elim (λz=>?_) id) ∅ ?_
  ·rw[(List.append_eq_nil_iff.mp j).1]at z;cases z
  cases g:H l with
  | none=>rfl
  | some u=>exact absurd ((B.sm _ _ g).symm.trans b) (by simp)
 let X:=B.hW;rw[t.eq]at X;rw[t.eq];refine dN (λ_=>?_) (λz=>absurd (by simp) z);refine⟨fun F R=>∃ m',m'<100*m7 ↑c a+(↑w+50-↑C)/\UN c rk H N L W S ss m' F R,fun F R z=>z,?_⟩;let an:nM ((e++f++[n]).map V.int) (-1)=⇑(.int n):=by rw[gI];exact gT _ _
 let⟨n0,n1⟩:=B.rg n (by rw[t.eq];simp);let F:=t.le;let F:=t.bl;let F:=Ie B.rb;let F:=Ie t.rb;let aw:=B.bl;obtain⟨b,M⟩:∃ b,c[n.toNat]?=⇑b:=⟨_,nh ∅⟩;let F:=ar b (mL M);let⟨xr,Kg,F⟩:=hR.same B.sm;let⟨R,C7,hI⟩:=F.get' (i:=n.toNat) (b:=aF b) (by rw[gj,M];rfl);let⟨ai,QE,rfl,F,R⟩:=id hI;let R:=qK b []
 let F:nM xr n=⇑↥ai:=by
  let z:=dm C7;rw[show ((n.toNat:Nat):Int)=n by lia]at z;exact z
 exists Y,Y,W,Q,V,bI.of X,an;refine⟨Y,Y,N,Q,V,bI.of Kg,F,ai,aF b,1,hI,?_,λz N F s4 nz=>?_⟩
 ·show ↑(b.foldl bG [])<=_;simp only[oV]at R;lia
 rw[iP]at F;let R:↑(eU b)<=↑b:=List.length_filterMap_le _ b;let am:=s4 _ _ B.hS;let ax:=s4 _ _ X;refine⟨z,1,⟨_,bI.of F⟩,λab cN=>gA (K:=bZ) (h:=z) (a:=(eU b).map V.int) (λi v r=>∃ J:Option V,v=[J,⇑↥S]/\r ab=⇑(.lst ((((eU b).take i).filter (λy=>(cG a (Sum.inl y)).isNone)).map V.int))/\aH N r) ⟨none,1,af,ak cN _⟩ (by rintro i v r _ ⟨_,_,_,l⟩;exact bI.of (l _ _ F)) ?_ ?_⟩
 ·rintro i x v r I ⟨J,rfl,p,l⟩;rw[gj]at I;let⟨y,o,rfl⟩:=Option.map_eq_some_iff.mp I;let d:=take_snoc o
  let o:↑(((eU b).take i).filter (λy=>(cG a (Sum.inl y)).isNone))<=1000:=by
   let z:=List.length_filter_le (λy=>(cG a (Sum.inl y)).isNone) ((eU b).take i);rw[gO]at z;lia
  exists Y,Y,S,Y,gX.k (k:=Sum.inl y) (l _ _ am),Y
  cases g:cG a (Sum.inl y) with
  | none =>
   refine iX ⟨Y,_,p,(by rw[cC];exact aN ∅),Y,?_,bN cN l (aG ab _ _)⟩;rw[af,d,List.filter_append,List.filter_cons_of_pos (p:=λy=>(cG a (Sum.inl y)).isNone) (by rw[g];rfl),gI];rfl
  | some u =>
   refine gx ⟨Y,?_,l⟩;rw[d,List.filter_append,List.filter_cons_of_neg (p:=λy=>(cG a (Sum.inl y)).isNone) (by rw[g];exact lG),List.filter_nil,gG];exact p
 rintro v r ⟨J,rfl,p,l⟩;rw[cC,gP]at p;let ao:=l _ _ am;let ae:=l _ _ ax;let ag:=B.sm.trans (s4.trans l);let U:=B.kl;exists Y,_,.inl ⟨_,bI.of p,1⟩
 cases em:(eU b).filter (λy=>(cG a (Sum.inl y)).isNone) with
 | nil =>
  refine gx ?_
  let aA:∀ y,jF c n y->y∈m:=by
   rintro y ⟨_,l,d,g⟩;rw[M]at d;cases d;rw[← BS B.ky];let z:=List.filter_eq_nil_iff.mp em y g;unfold seen
   cases q:cG a (Sum.inl y) with
   | none=>rw[q]at z;exact absurd rfl z
   | some u=>rfl
  refine⟨Y,Y,S,Y,yV.k (k:=Sum.inl n) ao (aN ∅),?_⟩;let l:(aL r S (.dK (dP a (Sum.inl n) (.bl true)))) W=⇑(.lst ((e++f++[n]).map V.int)):=by rw[aJ G];exact ae
  refine⟨Y,.inl ⟨1,_,bI.of l⟩,W,_,.int n,V,l,(by simp),?_⟩;let l:((e++f++[n]).map V.int).dropLast=(e++f).map V.int:=by rw[gI (l₁:=e++f),List.map_singleton,List.dropLast_concat]
  rw[l];let ap:∀ x∈e++f,0<=x/\x<↑c:=λx d=>B.rg x (by rw[t.eq];exact lQ _ d)
  cases j:cG a (Sum.inl n) with
  | none =>
   let l:=EX (n:=↑c) (.bl true) n0 n1 j;refine⟨100*m7 ↑c (dP a (Sum.inl n) (.bl true))+(e.length+50-↑f),by lia,e,f,m++[n],dP a (Sum.inl n) (.bl true),E,1,⟨af,(by rw[aJ G.symm,af]),bN T (bN O ag (aG S _ _)) (aG W _ _),?_,B.tp.snoc n0 n1 aA,ap,λx d=>?_,t.pw,t.rb,λs o=>?_,?_,by lia⟩,1⟩
   ·rw[yS _ j,gI,B.ky,gI];rfl
   ·intro q;rcases (EW _).mp q with g|g
    ·exact (t.ns x d).2 g
    ·exact (t.ns x d).1 g
   ·rcases t.st s o with q|q|q
    ·exact .inl q
    ·exact .inr (by rw[q];simp)
    ·exact .inr (lQ _ q)
   ·rw[yS _ j,cR,gW]at *;lia
  | some u =>
   let sn:seen a n:=by unfold seen;rw[j];rfl
   let l:=t.old sn
   let sp:∀ x,seen (dP a (Sum.inl n) (.bl true)) x↔seen a x:=λx=>by
    rw[EW];exact⟨λz=>z.elim (λg=>by rw[g];exact sn) id,.inr⟩
   let ms:m7 ↑c (dP a (Sum.inl n) (.bl true))=m7 ↑c a:=by
    refine Oj _ λi _=>?_;have z:=sp (i:Int);unfold seen at z
    cases o:cG (dP a (Sum.inl n) (.bl true)) (Sum.inl (i:Int)) with
    | none =>
     cases g:cG a (Sum.inl (i:Int)) with
     | none=>rfl
     | some q=>rw[o,g]at z;exact absurd (z.mpr rfl) lG
    | some l =>
     cases g:cG a (Sum.inl (i:Int)) with
     | none=>rw[o,g]at z;exact absurd (z.mp rfl) lG
     | some q=>rfl
   let g:n∈m:=(BS B.ky n).mp sn;refine⟨100*m7 ↑c (dP a (Sum.inl n) (.bl true))+(e.length+50-↑f),by rw[ms];lia,e,f,m,dP a (Sum.inl n) (.bl true),E,1,⟨af,(by rw[aJ G.symm,af]),bN T (bN O ag (aG S _ _)) (aG W _ _),?_,B.tp,ap,λx d q=>(t.ns x d).1 ((sp x).mp q),t.pw,t.rb,λs o=>?_,?_,by lia⟩,1⟩
   ·rw[BU _ (by rw[j];rfl),B.ky]
   ·rcases t.st s o with q|q|q
    ·exact .inl q
    ·exact .inr (by rw[q];exact g)
    ·exact .inr q
   ·let z:=congrArg List.length (BU (a:=a) (k:=Sum.inl n) (.bl true) (by rw[j];rfl));rw[cC,cC]at z;rw[z,ms];exact U
 | cons y j =>
  refine iX ?_;rw[em]at p;let i:y∈(eU b).filter (λy=>(cG a (Sum.inl y)).isNone):=by rw[em];simp
  let⟨l,g⟩:=List.mem_filter.mp i;let i:jF c n y:=⟨n0,b,M,l⟩;let⟨y0,y1⟩:=oK.DY i;let⟨ap,o⟩:=t.up y (as y) (uu n y i);let wl:=congrArg List.length t.eq;rw[cR]at wl;refine⟨Y,.inl ⟨1,_,bI.of ae⟩,Y,ab,Q,V,bI.of p,dm (a:=V.int y::j.map V.int) (j:=0) rfl,W,Z,ae,(by rw[cC,← wl];exact aN ∅),?_⟩;let b:=Ie o;rw[cR,gW]at b;refine⟨100*m7 ↑c a+(↑w+50-↑(C++[y])),?_,w,C++[y],m,a,E,1,⟨(by rw[af,← jq,t.eq,gI (l₁:=e++f++[n])];rfl),(by rw[aJ G.symm];exact ao),bN T ag (aG W _ _),B.ky,B.tp,λx d=>?_,λx d=>?_,ap,o,B.st,U,aw⟩,1⟩
  ·rw[cR,gW];lia
  ·rw[← jq]at d;rcases List.mem_append.mp d with q|q
   ·exact B.rg x q
   ·have:x=y:=by simpa using q
    subst this;exact⟨y0,y1⟩
  ·rcases List.mem_append.mp d with q|q
   ·exact B.ns x q
   ·have:x=y:=by simpa using q
    subst this;intro q;unfold seen at q
    cases bw:cG a (Sum.inl x) with
    | none=>rw[bw]at q;cases q
    | some u=>rw[bw]at g;cases g
structure kh(rows:cZ)(H:Hp)(W S:Addr)(s:Int)(H2:Hp)(vs:List V)(wl:cZ)(kvs:List (d9 × V)):Prop where
 hW:H2 W=⇑(.lst vs)
 hl:cI (fZ (λa=>a=W\/a=S) H2) vs wl
 hS:H2 S=⇑(.dK kvs)
 sm:aH H H2
 wk:∀ w∈wl,↑w<=↑kvs+1/\∃ e,w.getLast?=⇑e/\0<=e/\e<↑rows/\(e=s\/Reach (jF rows) s e)
 kl:↑kvs+m7 ↑rows kvs<=↑rows
class inductive UP
 | mk (r:Addr) (a:cZ) (s g:Int) (_:vs=[↥r,.int s,.int g]) (_:gU H r (a.map aF)) (_:↑a<=1000) (_:(∀ c∈a,↑c<=1000)) (_:gM a) (_:0<=s) (_:s<↑a) (_:¬ Reach (jF a) s g) (_:∀ b,aH H b->Q .gi b)
def eC(n:Nat)(W a:Addr):_L2.St->Hp->Nat:=λ_ H=>match H W,H a with
 | some (.lst b),some (.dK c)=>2*m7 n c+↑b
 | _,_=>0
def OV{n:Nat}{W a:Addr}{d:_L2.St}{H:Hp}{b:List V}{c:List (d9 × V)}(e:H W=⇑(.lst b))(f:H a=⇑(.dK c)):eC n W a d H=2*m7 n c+↑b:=by
 unfold eC;rw[e,f]
def UQ(a:cZ)(H:Hp)(r W b:Addr)(s g:Int)(e:_L2.St)(f:Hp):Prop:=∃ (c:List V) (h:cZ) (d:List (d9 × V)) (u v:Option V),e=[⇑↥r,⇑(.int s),⇑(.int g),⇑↥W,⇑↥b,u,v]/\kh a H W b s f c h d/\↑c+2*m7 ↑a d<=2*↑a+1
theorem zp:‹(2,18,["m","h","goal"],UP)›:=λD=>by
 specialize fP ["m","h","goal","ways","seen","way","9"] D.Z4.F;let⟨x,c,s,C,rfl,hR,d8,ar,oK,h0,h1,nr,kN⟩:=h;let U:=gS hr;refine⟨_,#v[aX 3 (bK #[bK #[1]]),aX 4 j8,pK PassesOwn.never (jt (pv 3) (λ_=>rfl)) #v[aX 5 (eX o7 PySem.F.slot_list_pop PySem.F.type_list_pop NG (pv 3) #[ay]),eZ PassesOwn.never rfl (cK (aB D.WL (zo D) hr #[aO bH (pv 0) (aO bH (pv 5) (iS gm ay))])) (bV 6) #v[bM (aV eE (pv 6) (pv 2) (bh _)) #v[aK (bz jf (pv 5) (bK #[2]))] bg,bM (Cr (BB U (pv 6) (pv 4))) #v[qI U (pv 4) (pv 6) nj rfl,aW (eX o7 jW jX b9 (pv 3) #[bz jf (pv 5) (bK #[6])])] bg]],aK Vo],?_⟩
 rfl'
 refine⟨Y,mq,λp U=>⟨mq,λW u=>?_⟩⟩;intro S r;let X:aH H (aL H p (.lst [.int s])):=ak U _;let s2:=X.trans (ak u (.lst [↥p]));let s3:=s2.trans (ak r (.dK []))
 let Sv:H W=none:=by
  cases e:H W with
  | none=>rfl
  | some o=>exact absurd ((X _ _ e).symm.trans u) (by simp)
 let as:H S=none:=by
  cases e:H S with
  | none=>rfl
  | some o=>exact absurd ((s2 _ _ e).symm.trans r) (by simp)
 let J:W≠S:=az af r;let U:p≠W:=az af u;let X:p≠S:=az (ak u _ _ _ af) r;exists λab m k=>ab=eC ↑c W S m k/\UQ c H x W S s C m k,⟨Y,?_⟩
 ·let b:=y9 ↑c (λF=>(cG ([]:List (d9 × V)) (Sum.inl (F:Int))).isNone);refine⟨[↥p],[[s]],[],none,none,1,⟨ak r _ _ _ af,.cons ⟨p,1,(λz=>z.elim U X),ak r _ _ _ (ak u _ _ _ af)⟩ .nil,af,s3,?_,?_⟩,?_⟩
  ·intro bw a;have:bw=[s]:=by simpa using a
   subst this;exact⟨by simp,s,1,h0,h1,.inl rfl⟩
  ·show 0+m7 ↑c []<=↑c;unfold m7;lia
  ·show 1+2*m7 ↑c []<=_;unfold m7;lia
 ·rintro ab m k ⟨rfl,vs,wl,w,a8,v,rfl,B,ae⟩;rw[OV B.hW B.hS];exists Y,!vs.isEmpty,.inl ⟨vs,bI.of B.hW,1⟩
  cases vs with
  | nil =>
   exact gx (kN k B.sm)
  | cons u i =>
   refine iX ⟨fun p r=>UQ c H x W S s C p r/\eC ↑c W S p r<2*m7 ↑c w+↑(u::i),fun p r ⟨p,r⟩=>⟨_,r,1,p⟩,?_⟩;let⟨ag,xg,Wm,av,ai,aw⟩:=id B
   cases xg with
   | @cons _ w0 _ b am f =>
   let⟨n,rfl,ax,aA⟩:=id am;let⟨r,e,p,e0,u,aM⟩:=ai w0 (by simp)
   let aU:∃ j,w0=j++[e]:=by
    rw[List.getLast?_eq_some_iff]at p;exact p
   let⟨j,rfl⟩:=aU;obtain⟨d,L⟩:∃ d,c[e.toNat]?=⇑d:=⟨_,nh ∅⟩;let p:d∈c:=mL L;let r:=ar d p;exists Y,.inl ⟨1,_,bI.of ag⟩,W,_,0,0,↥n,V,ag,by decide,by decide,(by simp[seqIndex?]),1;let ee:(V.ref n::i).eraseIdx 0=i:=rfl;rw[ee];let an:∀ {v:V} {ns:UF},fZ (λa=>a=W\/a=S) k v ns->fZ (λa=>a=W\/a=S) (aL k W (.lst i)) v ns:=λh=>h.at _ (.inl rfl);have OW:aH H (aL k W (.lst i)):=bN Sv av (aG W _ _);let⟨r,LR,p⟩:=hR.same OW;let⟨r,C7,hI⟩:=p.get' (i:=e.toNat) (b:=aF d) (by rw[gj,L];rfl);let⟨a1,QE,rfl,p,r⟩:=id hI
   let a2:(aL k W (.lst i)) n=⇑(.lst (j.map V.int++[.int e])):=by
    rw[aJ (λz=>ax (.inl z)),aA,gI];rfl
   let B:=qK d [];refine⟨Y,Y,Y,n,Q,V,bI.of a2,gT _ _,x,Q,V,bI.of LR,?_,a1,aF d,1,hI,?_,λz U r p u=>?_⟩
   ·let z:=dm C7;rw[show ((e.toNat:Nat):Int)=e by lia]at z;exact z
   ·show ↑(d.foldl bG [])<=_;simp only[oV]at B;lia
   rw[iP]at r;let B:(aL k W (.lst i)) W=⇑(.lst i):=af;let U:(aL k W (.lst i)) S=⇑(.dK w):=by rw[aJ J.symm];exact Wm
   let k:z≠W:=(az B u).symm;let X:z≠S:=(az U u).symm;let u:↑(eU d)<=↑d:=List.length_filterMap_le _ d;refine⟨z,1,⟨_,bI.of r⟩,ef (K:=bZ) (e:=z) (b:=(eU d).map V.int) (λF m f=>∃ (l:List V) (t:cZ) (b:List (d9 × V)) (v:Option V),m=[⇑↥x,⇑(.int s),⇑(.int C),⇑↥W,⇑↥S,⇑↥n,v]/\ kh c H W S s f l t b/\fZ (λa=>a=W\/a=S) f ↥n (j++[e])/\fZ (λa=>a=W\/a=S) f ↥z (eU d)/\l.length+2*m7 ↑c b<=i.length+2*m7 ↑c w/\↑w<=↑b) ?_ ?_ ?_ ?_⟩
   ·refine⟨i,b,w,Y,⟨p _ _ B,f.mono λ_ _ h=>(an h).same p,p _ _ U,OW.trans p,λbw a=>ai bw (jT _ a),aw⟩,(an am).same p,⟨z,1,λq=>q.elim k X,r⟩,d7 _,d7 _⟩
   ·rintro F m f _ ⟨_,_,_,_,_,_,_,⟨a,b,_,g⟩,_⟩;cases b;exact bI.of g
   ·rintro F a9 m f hi ⟨l,t,b,v,rfl,g,G,M,Yl,ao⟩;rw[gj]at hi;let⟨y,ey,rfl⟩:=Option.map_eq_some_iff.mp hi;let N:jF c e y:=⟨e0,d,L,mL ey⟩;let⟨y0,y1⟩:=oK.DY N
    let sy:Reach (jF c) s y:=by
     rcases aM with rfl|q
     ·exact .one N
     ·exact .step q N
    let⟨d,a3,a4,a5⟩:=id G;cases a3;let a6:↑(j++[e])<=2000:=by have:=g.kl;lia
    refine⟨Y,Y,1,Y,dN (λd=>?_) (λd=>?_)⟩
    ·let a:y=C:=V.int.inj (of_decide_eq_true d);exact absurd (a ▸ sy) nr
    ·exists Y,Y,S,Y,gX.k (k:=Sum.inl y) g.hS,Y
     cases ev:cG b (Sum.inl y) with
     | some a =>
      refine gx ?_;exact⟨l,t,b,Y,g,G,M,Yl,ao⟩
     | none =>
      refine iX ?_;let d:=g.kl;refine⟨Y,Y,S,Y,yV.k (k:=Sum.inl y) g.hS (aN ∅),?_⟩;let e6:∀ {v:V} {ns:UF},fZ (λa=>a=W\/a=S) f v ns->fZ (λa=>a=W\/a=S) (aL f S (.dK (dP b (Sum.inl y) (.bl true)))) v ns:=λh=>h.at _ (.inr rfl);have s6:aH H (aL f S (.dK (dP b (Sum.inl y) (.bl true)))):=bN as g.sm (aG S _ _);have I:(aL f S (.dK (dP b (Sum.inl y) (.bl true)))) W=⇑(.lst l):=by rw[aJ J];exact g.hW
      let ap:(aL f S (.dK (dP b (Sum.inl y) (.bl true)))) n=⇑(.lst ((j++[e]).map V.int)):=by rw[aJ (λq=>a4 (.inr q))];exact a5
      let O:(aL f S (.dK (dP b (Sum.inl y) (.bl true)))) S=⇑(.dK (dP b (Sum.inl y) (.bl true))):=af;generalize aL f S (.dK (dP b (Sum.inl y) (.bl true)))=i at e6 s6 I ap O;let r:l.length<sizeLine:=aN (by simp only[jH]at ae;lia);refine⟨Y,.inl ⟨1,_,bI.of I⟩,Y,Y,mq,λk p=>⟨n,k,Z,ak p _ _ _ ap,af,eO (aN (by rw[cC];simp at a6 ⊢;lia)),λo d=>⟨W,Z,ak d _ _ _ (ak p _ _ _ I),r,?_⟩⟩⟩;let n:aH i (aL i k (.lst [.int y])):=ak p _;let R:=n.trans (ak d (.lst ((j++[e]).map V.int++[.int y])));let aq:o≠W:=(az (n _ _ I) d).symm;let a7:o≠S:=(az (n _ _ O) d).symm;let T:∀ {v:V} {ns:UF},fZ (λa=>a=W\/a=S) f v ns->fZ (λa=>a=W\/a=S) (aL (aL (aL i k (.lst [.int y])) o (.lst ((j++[e]).map V.int++[.int y]))) W (.lst (l++[↥o]))) v ns:=λh=>((e6 h).same R).at _ (.inl rfl);have d:=EX (n:=↑c) (.bl true) y0 y1 ev;have pl:↑(dP b (Sum.inl y) (.bl true))=↑b+1:=by rw[yS _ ev];simp
      exists l++[↥o],t++[j++[e]++[y]],dP b (Sum.inl y) (.bl true),Y,⟨af,cI.snoc (g.hl.mono λ_ _ h=>T h) ⟨o,1,λq=>q.elim aq a7,?_⟩,?_,bN Sv (s6.trans R) (aG W _ _),?_,?_⟩,T G,T M,?_
      ·rw[aJ aq,af,gI (l₁:=j++[e])];rfl
      ·rw[aJ J.symm];exact R _ _ O
      ·intro bw a;rcases List.mem_append.mp a with q|q
       ·let⟨c,a⟩:=g.wk bw q;exact⟨by lia,a⟩
       ·have:bw=j++[e]++[y]:=by simpa using q
        subst this;refine⟨?_,y,by simp,y0,y1,.inr sy⟩;rw[cR,gW,pl];lia
      ·lia
      ·rw[cR,gW];lia
      ·lia
   ·rintro m f ⟨l,t,b,v,rfl,g,G,M,Yl,ao⟩;simp only[jH]at ae;refine⟨⟨l,t,b,E,1,g,by lia⟩,?_⟩;rw[OV g.hW g.hS,jH];lia
class inductive Xj
 | mk (r:Addr) (s:Int) (_:vs=[↥r,.int s]) (_:UP [↥r,.int s,.int s] H Q E)
theorem Sx:‹(3,19,["m","f"],Xj)›:=λD=>by
 specialize fP ["m","f"] D.Z5.F;let⟨r,s0,rfl,h⟩:=h;exists _,#v[aK (aB D.Z4 (zp D) hr #[0,1,1])]
 rfl'
 exists Y,Y,Y;let⟨l,a,m,n,e,b,c,d,f,g,i,j,k⟩:=h;cases e;exact⟨r,a,s0,s0,1,b,c,d,f,g,i,j,k⟩
def ko(f:Int->Int)(a:UF):Int:=(a.map λe=>if e<0 then 1+f (-1-e) else 1).sum
def C8(f:Int->Int):aT->Int
 | .win n=>1+f n
 | .aC a b=>b-a
def Fj(f:Int->Int)(a:List aT):Int:=(a.map (C8 f)).sum
def mw(f:Int->Int)(a b:List aT):Fj f (a++b)=Fj f a+Fj f b:=by unfold Fj;rw[gI,List.sum_append]
def OX(f:Int->Int)(t:List aT)(e:Int):Fj f (bG t e)=Fj f t+(if e<0 then 1+f (-1-e) else 1):=by
 unfold bG;by_cases h:e<0
 ·rw[if_pos h,if_pos h,mw];simp[Fj,C8]
 ·rw[if_neg h,if_neg h];rcases kZ t with rfl|⟨c,l,rfl⟩
  ·simp[Fj,C8];lia
  ·rw[jI,lS]
   cases l with
   | win n =>
    show Fj f (c++[aT.win n]++[.aC e (e+1)])=_;rw[mw];simp[Fj,C8];lia
   | aC a b =>
    show Fj f (if b=e then (c++[aT.aC a b]).dropLast++[.aC a (e+1)] else (c++[aT.aC a b])++[.aC e (e+1)])=_;by_cases c:b=e
    ·rw[if_pos c,List.dropLast_concat,mw,mw];simp[Fj,C8];lia
    ·rw[if_neg c,mw];simp[Fj,C8];lia
def LY(f:Int->Int)(a:UF):Fj f (aF a)=ko f a:=by
 let z:∀ t:List aT,Fj f (a.foldl bG t)=Fj f t+ko f a:=by
  induction a with
  | nil=>intro t;simp[ko]
  | cons e a b =>
   intro t;rw[jY,b,OX];unfold ko;rw[jo,List.sum_cons];omega
 have:=z [];unfold aF;rw[this];simp[Fj]
def Weighs(b:cZ)(f:Int->Int):Prop:=∀ (x:Int) (a:UF),0<=x->b[x.toNat]?=⇑a->f x=ko f a
def wF(a:cZ):Nat->Int->Int
 | 0,_=>0
 | k+1,x=>match a[x.toNat]? with
  | some es=>ko (wF a k) es
  | none=>0
def Ig{f g:Int->Int}{a:UF}(h:∀ y∈eU a,f y=g y):ko f a=ko g a:=by
 unfold ko;congr 1;refine List.map_congr_left λe b=>?_;by_cases c:e<0
 ·rw[if_pos c,if_pos c,h (-1-e) (cH.mpr ⟨by lia,by rw[show -1-(-1-e)=e by lia];exact b⟩)]
 ·rw[if_neg c,if_neg c]
def LZ{a:cZ}(h:CM a):∃ f,Weighs a f:=by
 let⟨rk,g,i⟩:=h
 let j:∀ (k:Nat) (x:Int),0<=x->rk x<k->wF a k x=wF a (k+1) x:=by
  intro k
  induction k with
  | zero=>intro x _ h;lia
  | succ k l =>
   intro x c b
   cases e:a[x.toNat]? with
   | none=>simp[wF,e]
   | some b =>
    let d:wF a (k+1) x=ko (wF a k) b:=by simp[wF,e]
    let m:wF a (k+1+1) x=ko (wF a (k+1)) b:=by
     show (match a[x.toNat]? with|some b=>ko (wF a (k+1)) b|none=>0)=_;rw[e]
    rw[d,m];refine Ig λy d=>l y (cH.mp d).1 ?_;have:=i x y ⟨c,b,e,d⟩;lia
 refine⟨wF a 41,λx b c d=>?_⟩;rw[j 41 x c (by have:=g x;lia)];show (match a[x.toNat]? with|some b=>ko (wF a 41) b|none=>0)=_;rw[d]
class inductive px
 | mk (v:V) (a:aT) (b:Addr) (c:List (d9 × V)) (f:Int->Int) (_:vs=[v,↥b]) (_:dJ H v a) (_:H b=⇑(.dK c)) (_:(∀ n,a=.win n->cG c (Sum.inl n)=⇑(.int (f n)))) (_:Q (.int (C8 f a)) H)
theorem zq:‹(1,20,["X","Y"],px)›:=λD=>by
 specialize fP ["X","Y"] D.Z6.F;let⟨v,it,S,c,f,rfl,⟨a,rfl,b⟩,hS,hw,k⟩:=h;let c:=gS hr;exists _,#v[bM (aV eE (aO bf (pv 0) ay) bC (bh _)) #v[aK (bz dY ay (gF c (pv 1) (aO bf (pv 0) ay)))] bg,aK (bz dc (aO bf (pv 0) ay) (aO bf (pv 0) ay))]
 rfl'
 cases it with
 | win n =>
  refine⟨Y,a,Q,V,dI.of b,V,Y,dN (λ_=>?_) (λz=>absurd (by decide) z)⟩;let z:=gX.k (k:=Sum.inl n) hS;rw[hw n rfl]at z;exact⟨Y,Y,a,Q,V,dI.of b,1,S,Y,z,Z,k⟩
 | aC p q =>
  refine⟨Y,a,Q,V,dI.of b,V,Y,dN (λz=>absurd z (by decide)) (λ_=>?_)⟩;exact⟨Y,a,Q,V,dI.of b,1,Y,a,Q,V,dI.of b,1,Z,k⟩
class inductive Ih
 | mk (r L:Addr) (a:cZ) (b:UF) (f:Int->Int) (_:vs=[↥r,↥L]) (_:gU H r (a.map aF)) (_:H L=⇑(.lst (b.map V.int))) (_:↑b<=1000) (_:↑a<=1000) (_:(∀ g∈a,↑g<=1000)) (_:gM a) (_:CM a) (_:(∀ s∈b,0<=s/\s<↑a)) (_:Weighs a f) (_ :
 ∀ (c:Addr) (e:List (d9 × V)) (d:Hp),d c=⇑(.dK e)->(∀ s∈b,cG e (Sum.inl s)=⇑(.int (f s)))->aH H d->H c=none->Q ↥c d)
theorem vC:‹(3,21,["m","F"],Ih)›:=λD=>by
 specialize fP ["m","F","Y","9"] D.Z7.F;let⟨J,O,R,w,f,rfl,T,W,ab,d8,U,oK,uu,ae,hf,ag⟩:=h;let hu:=gS hr;refine⟨_,#v[aX 2 j8,eZ PassesOwn.never rfl (cK (aB D.WM (Fi D) hr #[0,1])) (bV 3) #v[qI hu (pv 2) (pv 3) (b8 (Ex rfl) rfl D.T.UH PyProof.Rows.boot_sum #[iz (N:=["X","Y"]) (kg (c:=cy lV) (f:=["m","F","Y","9"]) (d:=[none,some 2]) rfl rfl rfl nofun nofun rfl nofun rfl nofun) rfl (cK (aO bH (pv 0) (pv 3))) (λ_ _ _ _ _ _=>(bV 0)) (λ_ _ _ _ _ _=>gK) (λ_ _ _ _ _ _=>(aB D.Z6 (zq D) hr #[0,1]))]) rfl],aK (pv 2)],?_⟩
 rfl'
 intro S r;let t:aH H (aL H S (.dK [])):=ak r _;refine⟨Y,Y,J,O,R,w,1,T.same t,t _ _ W,ab,d8,U,oK,uu,ae,λv w H2 W L X sk kl YZ=>?_⟩;let Wm:=L _ _ (af (H:=H) (a:=S) (o:=.dK []));let ab:w≠S:=(az af YZ).symm;refine⟨w,1,⟨_,bI.of W⟩,ef (K:=bZ) (e:=w) (b:=v.map V.int) (λk b g=>∃ (c:List (d9 × V)) (u:Option V),b=[⇑↥J,⇑↥O,⇑↥S,u]/\g S=⇑(.dK c)/\(∀ y∈v.take k,cG c (Sum.inl y)=⇑(.int (f y)))/\↑c<=k/\(∀ d i,d≠S->H2 d=⇑i->g d=⇑i)) ⟨[],none,1,Wm,(λy z=>by simp at z),d7 _,λ_ _ _ e=>e⟩ ?_ ?_ ?_⟩
 ·rintro k b g _ ⟨_,_,_,_,_,_,l⟩;exact bI.of (l w _ ab W)
 ·rintro k x b g hi ⟨c,u,rfl,B,m,ai,l⟩;rw[gj]at hi;let⟨x,o,rfl⟩:=Option.map_eq_some_iff.mp hi;let⟨x0,w⟩:=X.D5 x (mL o);obtain⟨a,C⟩:∃ a,R[x.toNat]?=⇑a:=⟨_,nh ∅⟩;let w:=U a (mL C);let w:aH H g:=λd i e=>l d i (az e r) (L _ _ (t _ _ e));let⟨xr,LR,O⟩:=T.same w;let⟨w,C7,hI⟩:=O.get' (i:=x.toNat) (b:=aF a) (by rw[gj,C];rfl);let⟨M,QE,rfl,O,sH⟩:=id hI;have w:=qK a []
  let R:↑(aF a)<=1000:=by
   show ↑(a.foldl bG [])<=_;simp only[oV]at w;lia
  let w:nM xr x=⇑↥M:=by
   let F:=dm C7;rw[show ((x.toNat:Nat):Int)=x by lia]at F;exact F
  refine⟨Y,Y,J,Q,V,bI.of LR,w,M,1,⟨_,bI.of O⟩,λN cN=>gA (K:=bZ) (h:=M) (a:=QE) (λw b p=>∃ u:Option V,b=[u,⇑↥S]/\p N=⇑(.lst ((((aF a).take w).map (C8 f)).map V.int))/\aH g p) ⟨none,1,af,ak cN _⟩ (λw b p _ ⟨Q,j⟩=>bI.of (j _ _ O)) ?_ ?_⟩
  ·rintro w z b p F ⟨u,rfl,G,j⟩;let⟨w,y,I⟩:=sH.get F;let st:=take_snoc y;unfold pI Lp;refine iX ⟨Y,Y,z,w,S,c,f,1,I.same j,j _ _ B,λn hn=>?_,?_⟩
   ·subst hn;refine m n (X.dn k x o n ⟨x0,a,C,?_⟩);rw[← iP];unfold fN;rw[List.mem_filterMap];exact⟨.win n,mL y,1⟩
   ·refine⟨_,G,(by rw[cC,cC,gO];exact aN ∅),Y,?_,bN cN j (aG N _ _)⟩;rw[af,st,gI,gI];rfl
  ·rintro b p ⟨u,rfl,G,j⟩;rw[sH.len,gP]at G;let am:((aF a).map (C8 f)).sum=f x:=by rw[hf x a x0 C];exact LY f a
   let an:=j _ _ B
   let a:k<↑v:=by
    rcases Nat.lt_or_ge k ↑v with q|q
    ·exact q
    ·rw[List.getElem?_eq_none q]at o;cases o
   exists N,Y,bI.of G;rw[am];refine⟨Y,Y,S,Y,yV.k (k:=Sum.inl x) an (aN ∅),?_⟩;refine⟨dP c (Sum.inl x) (.int (f x)),Y,af,λy z=>?_,?_,λd i n e=>?_⟩
   ·rw[j7];rw[take_snoc o]at z;by_cases I:y=x
    ·rw[if_pos (by rw[I]),I]
    ·rw[if_neg (λF=>I (Sum.inl.inj F))];rcases List.mem_append.mp z with q|q
     ·exact m y q
     ·exact absurd (by simpa using q) I
   ·have:=iy c (Sum.inl x) (V.int (f x));lia
   ·rw[aJ n];exact j _ _ (l d i n e)
 ·rintro b g ⟨c,u,rfl,B,m,ai,l⟩;rw[cC,gP]at m;exact⟨Y,ag S c g B (λs a=>m s (sk s a)) (λd i e=>l d i (az e r) (L _ _ (t _ _ e))) r⟩
def oM(g:Int->Row):aT->Row
 | .win n=>g n
 | .aC a b=>[(a,b)]
def aZ(a:Y1)(e:Int):UF:=if e<0 then a (-1-e) else [e]
def aS(a:Y1)(b:UF):UF:=b.flatMap (aZ a)
def mz(c:cZ)(a:Y1):Prop:=∀ (x:Int) (b:UF),0<=x->c[x.toNat]?=⇑b->a x=aS a b
def bx(a:Y1)(b:List aT):Row:=b.flatMap (oM λn=>cL (a n))
def rR(t:List aT):Prop:=∀ a b,aT.aC a b∈t->a<b
def fk(a:Y1)(b c:List aT):bx a (b++c)=bx a b++bx a c:=by unfold bx;rw[List.flatMap_append]
def jj(a:Y1)(b:aT):bx a [b]=oM (λn=>cL (a n)) b:=by simp[bx]
def L0(c:Y1)(t:List aT)(e:Int)(d:rR t):bu (bx c (bG t e))=bu (bx c t)++aZ c e/\rR (bG t e):=by
 let i:∀ j:aT,(∀ a b,j=.aC a b->a<b)->rR (t++[j]):=λj h a b k=>by
  rcases List.mem_append.mp k with z|z
  ·exact d a b z
  ·exact h a b (List.mem_singleton.mp z).symm
 unfold bG;by_cases h:e<0
 ·rw[if_pos h];refine⟨?_,i _ λa b z=>by cases z⟩;rw[fk,cM,jj];show _++bu (cL (c (-1-e)))=_;rw[eT];unfold aZ;rw[if_pos h]
 ·rw[if_neg h]
  let n:bu [(e,e+1)]=[e]:=by
   rw[fF];unfold gv;have:(e+1-e).toNat=1:=by lia
   show run e (e+1-e).toNat=_;rw[this];rfl
  let l:aZ c e=[e]:=by unfold aZ;rw[if_neg h]
  let f:bu (bx c (t++[.aC e (e+1)]))=bu (bx c t)++aZ c e/\rR (t++[.aC e (e+1)]):=by
   refine⟨?_,i _ λa b z=>by cases z;lia⟩;rw[fk,cM,jj,l];show _++bu [(e,e+1)]=_;rw[n]
  rcases kZ t with rfl|⟨g,o,rfl⟩
  ·exact f
  ·rw[jI]at d i f ⊢;rw[lS]
   cases o with
   | win n=>exact f
   | aC a b =>
    show bu (bx c (if b=e then (g++[aT.aC a b]).dropLast++[.aC a (e+1)] else (g++[aT.aC a b])++[.aC e (e+1)]))=_/\rR (if b=e then (g++[aT.aC a b]).dropLast++[.aC a (e+1)] else (g++[aT.aC a b])++[.aC e (e+1)]);by_cases m:b=e
    ·subst m;let g:=d a b (by simp);rw[if_pos rfl,List.dropLast_concat];refine⟨?_,λp q k=>?_⟩
     ·rw[fk,fk,cM,cM,jj,jj,l,jq];congr 1;show bu [(a,b+1)]=bu [(a,b)]++[b];rw[fF,fF];unfold gv;show run a (b+1-a).toNat=run a (b-a).toNat++[b];have:(b+1-a).toNat=(b-a).toNat+1:=by lia
      rw[this,pY];congr 2;lia
     ·rcases List.mem_append.mp k with z|z
      ·exact d p q (lQ _ z)
      ·let r:aT.aC p q=aT.aC a (b+1):=by simpa using z
       cases r;lia
    ·rw[if_neg m];exact f
def zu(b:Y1)(a:UF):bu (bx b (aF a))=aS b a/\rR (aF a):=by
 let z:∀ t:List aT,rR t->bu (bx b (a.foldl bG t))=bu (bx b t)++aS b a/\rR (a.foldl bG t):=by
  induction a with
  | nil=>intro t c;exact⟨by simp[aS],c⟩
  | cons e a d =>
   intro t c;let⟨f,g⟩:=L0 b t e c;let⟨c,e⟩:=d _ g;refine⟨?_,e⟩;rw[jY,c,f,jq];unfold aS;rw[jb]
 let q:=z [] (λc d h=>by cases h);refine⟨?_,q.2⟩;unfold aF;rw[q.1];rfl
def L4(c:Y1)(d:aT)(h:∀ a b,d=.aC a b->a<b):↑(oM (λn=>cL (c n)) d)<=↑(bu (oM (λn=>cL (c n)) d)):=by
 cases d with
 | win n =>
  show ↑(cL (c n))<=↑(bu (cL (c n)));rw[eT];let z:=EF (c n) [];simpa [cL] using z
 | aC a b =>
  let e:=h a b rfl;show 1<=↑(bu [(a,b)]);rw[fF];unfold gv;show 1<=↑(run a (b-a).toNat);rw[JZ];lia
theorem sS(a:Y1):∀ b:List aT,rR b->↑(bx a b)<=↑(bu (bx a b))
 | [],_=>by simp[bx]
 | it::b,h=>by
  let e:bx a (it::b)=oM (λn=>cL (a n)) it++bx a b:=by unfold bx;rw[jb]
  rw[e,cM,cR,cR];let c:=L4 a it (λc d z=>h c d (by rw[← z];simp));let d:=sS a b (λc d z=>h c d (jT _ z));lia
def L7(f:Y1)(c:List aT)(h:rR c):∀ p∈bx f c,p.1<=p.2:=by
 intro p d;unfold bx at d;let⟨g,i,e⟩:=List.mem_flatMap.mp d
 cases g with
 | win n=>exact j5 _ p e
 | aC a b =>
  have:p=(a,b):=by simpa [oM] using e
  subst this;have:=h a b i;show a<=b;lia
class inductive Ma
 | mk (v:V) (b:aT) (e:Addr) (c:List (d9 × V)) (g:Int->Row) (_:vs=[v,↥e]) (_:dJ H v b) (_:H e=⇑(.dK c)) (_:(∀ n,b=.win n->∃ a,cG c (Sum.inl n)=⇑↥a/\bP H a (g n))) (_ :
 ∀ (a:Addr) (d:Hp),bP d a (oM g b)->aH H d->((∃ n,b=.win n/\cG c (Sum.inl n)=⇑↥a)\/H a=none)->Q ↥a d)
theorem wQ:‹(1,22,["X","x"],Ma)›:=λD=>by
 specialize fP ["X","x"] D.WN.F;let⟨v,it,S,e,g,rfl,⟨a,rfl,b⟩,hS,hw,k⟩:=h;let e:=gS hr;exists _,#v[bM (aV eE (aO bf (pv 0) ay) bC (bh _)) #v[aK (gF e (pv 1) (aO bf (pv 0) ay))] bg,aK (bK #[cT #[aO bf (pv 0) ay,aO bf (pv 0) ay]])]
 rfl'
 cases it with
 | win n =>
  refine⟨Y,a,Q,V,dI.of b,V,Y,dN (λ_=>?_) (λz=>absurd (by decide) z)⟩;let⟨d,c,f⟩:=hw n rfl;let z:=gX.k (k:=Sum.inl n) hS;rw[c]at z;exact⟨Y,Y,a,Q,V,dI.of b,1,S,Y,z,k d H f (aH.refl H) (.inl ⟨n,1,c⟩)⟩
 | aC p q =>
  refine⟨Y,a,Q,V,dI.of b,V,Y,dN (λz=>absurd z (by decide)) (λ_=>?_)⟩;refine⟨Y,a,Q,V,dI.of b,1,Y,a,Q,V,dI.of b,1,mJ,λt a=>⟨mq,λl c=>?_⟩⟩;let d:aH H (aL H t (.tup [.int p,.int q])):=ak a _;let a:=d.trans (ak c (.lst [↥t]));refine k l _ ⟨[t],af,.cons ?_ .nil⟩ a (.inr ?_)
  ·exact ak c _ _ _ af
  ·cases f:H l with
   | none=>rfl
   | some o=>exact absurd ((d _ _ f).symm.trans c) (by simp)
theorem aY.Fl{H c:Hp}{d:Addr}{h:List (d9 × V)}(e:H d=⇑(.dK h))(k:∀ a f,a≠d->H a=⇑f->c a=⇑f):∀ {g:UV} {r:Row},aY H g r->aY c g r
 | _,_,.nil=>.nil
 | _,_,.cons r t=>.cons (k _ _ (λz=>by
   let b:=r;unfold jN at b;rw[z,e]at b
   cases b) r) (aY.Fl e k t)
def bP.Fl{H c:Hp}{b a:Addr}{f:List (d9 × V)}{d:Row}(g:H b=⇑(.dK f))(n:a≠b)(k:∀ a e,a≠b->H a=⇑e->c a=⇑e)(h:bP H a d):bP c a d:=by
 let⟨i,j,p⟩:=h;exact⟨i,k _ _ n j,p.Fl g k⟩
def Kh(H:Hp)(b:List (d9 × V))(c:Y1)(d:UF):Prop:=∀ x∈d,∃ a,cG b (Sum.inl x)=⇑↥a/\bP H a (cL (c x))
class inductive Sy
 | mk (r L:Addr) (b:cZ) (c:UF) (f:Y1) (_:vs=[↥r,↥L]) (_:gU H r (b.map aF)) (_:H L=⇑(.lst (c.map V.int))) (_:↑c<=1000) (_:↑b<=1000) (_:(∀ i∈b,↑i<=1000)) (_:gM b) (_:CM b) (_:(∀ s∈c,0<=s/\s<↑b)) (_:mz b f) (_:(∀ x:Int,0<=x->x<↑b->↑(f x)<=10000)) (_ :
 ∀ (g:Addr) (h:List (d9 × V)) (d:UF) (e:Hp),e g=⇑(.dK h)->Kh e h f d->LW b d->(∀ s∈c,s∈d)->(∀ x∈d,∀ a,cG h (Sum.inl x)=⇑↥a->H a=none)->aH H e->H g=none->Q ↥g e)
theorem jA:‹(3,23,["m","F"],Sy)›:=λD=>by
 specialize fP ["m","F","x","9"] D.OP.F;let⟨ai,an,ao,ss,b,rfl,hR,hL,ax,d8,aA,oK,uu,aM,wm,D0,aU⟩:=h;let hu:=gS hr;refine⟨_,#v[aX 2 j8,eZ PassesOwn.never rfl (cK (aB D.WM (Fi D) hr #[0,1])) (bV 3) #v[qI hu (pv 2) (pv 3) (aB D.WH (nI D) hr #[vp (N:=["X","stretch","x"]) (kg (c:=cy nT) (f:=["m","F","x","9"]) (d:=[none,none,some 2]) rfl rfl rfl nofun nofun rfl nofun rfl nofun) rfl (cK (aO bH (pv 0) (pv 3))) (λ_ _ _ _ _ _=>(bV 0)) (λ_ _ _ _ _ _=>gK) (λ_ _ _ _ _ _=>(ER (aB D.WN (wQ D) hr #[0,2]))) (λ_ _ _ _ _ _=>(bV 1)) (λ_ _ _ _ _ _=>gK) (λ_ _ _ _ _ _=>(pv 1))]) rfl],aK (pv 2)],?_⟩
 rfl'
 intro S U;let W:aH H (aL H S (.dK [])):=ak U _;refine⟨Y,Y,ai,an,ao,ss,1,hR.same W,W _ _ hL,ax,d8,aA,oK,uu,aM,λG X H2 ho s2 tp sk kl YZ=>?_⟩;let Wm:=s2 _ _ (af (H:=H) (a:=S) (o:=.dK []));let a0:X≠S:=(az af YZ).symm;refine⟨X,1,⟨_,bI.of ho⟩,ef (K:=bZ) (e:=X) (b:=G.map V.int) (λr f m=>∃ (i:List (d9 × V)) (u:Option V),f=[⇑↥ai,⇑↥an,⇑↥S,u]/\m S=⇑(.dK i)/\Kh m i b (G.take r)/\↑i<=r/\(∀ x a,cG i (Sum.inl x)=⇑↥a->H a=none/\a≠S)/\(∀ a d,a≠S->H2 a=⇑d->m a=⇑d)) ⟨[],none,1,Wm,(λy t=>by simp at t),d7 _,(λx a e=>by cases e),λ_ _ _ e=>e⟩ ?_ ?_ ?_⟩
 ·rintro r f m _ ⟨_,_,_,_,_,_,_,v⟩;exact bI.of (v X _ a0 ho)
 ·rintro r x f m hi ⟨i,u,rfl,I,w,a1,ab,v⟩;rw[gj]at hi;let⟨x,B,rfl⟩:=Option.map_eq_some_iff.mp hi;let⟨x0,x1⟩:=tp.D5 x (mL B);obtain⟨c,fQ⟩:∃ c,ao[x.toNat]?=⇑c:=⟨_,nh ∅⟩;let OW:aH H m:=λa d e=>v a d (az e U) (s2 _ _ (W _ _ e));let⟨xr,LR,X⟩:=hR.same OW;let⟨vi,C7,hI⟩:=X.get' (i:=x.toNat) (b:=aF c) (by rw[gj,fQ];rfl);let⟨am,QE,rfl,X,sH⟩:=id hI;let⟨Lb,ap⟩:=zu b c;have aq:=wm x c x0 fQ
  let i7:↑(bx b (aF c))<=10000:=by
   let z:=sS b (aF c) ap;rw[Lb,← aq]at z;have:=D0 x x0 x1;lia
  let a3:∀ j,↑(bx b ((aF c).take j))<=10000:=λj=>by
   let e:bx b (aF c)=bx b ((aF c).take j)++bx b ((aF c).drop j):=by rw[← fk,List.take_append_drop]
   rw[e,cR]at i7;lia
  let uB:nM xr x=⇑↥am:=by
   let z:=dm C7;rw[show ((x.toNat:Nat):Int)=x by lia]at z;exact z
  refine⟨Y,Y,ai,Q,V,bI.of LR,uB,am,1,⟨_,bI.of X⟩,λk cN=>qb (K:=bZ) (f:=am) (a:=QE) (λj f C=>∃ (u ae:Option V) (o:UV),f=[u,ae,⇑↥S]/\C k=⇑(.lst (o.map V.ref))/\aY C o (bx b ((aF c).take j))/\aH m C) ⟨none,none,[],1,af,.nil,ak cN _⟩ (λj f C _ ⟨Q,Q,g⟩=>bI.of (g _ _ X)) ?_ ?_⟩
  ·rintro j ae f C hj ⟨u,u2,o,rfl,h5,J,g⟩;let⟨it,ei,X⟩:=sH.get hj;let st:bx b ((aF c).take (j+1))=bx b ((aF c).take j)++oM (λn=>cL (b n)) it:=by rw[take_snoc ei,fk,jj]
   refine Ry ?_;refine iX ?_;refine⟨Y,Y,ae,it,S,i,(λn=>cL (b n)),1,X.same g,g _ _ I,λn L=>?_,λa2 M R6 s a4=>?_⟩
   ·subst L
    let⟨a,l,F⟩:=w n (tp.dn r x B n ⟨x0,c,fQ,by
     rw[← iP];unfold fN;rw[List.mem_filterMap]
     exact⟨.win n,mL ei,1⟩⟩)
    exact⟨a,l,F.same g⟩
   let⟨t,ar,p6⟩:=id R6
   let a5:a2≠k:=by
    rcases a4 with ⟨n,L,p⟩|L
    ·subst L
     let⟨a,l,y,q,_⟩:=w n (tp.dn r x B n ⟨x0,c,fQ,by
      rw[← iP];unfold fN;rw[List.mem_filterMap]
      exact⟨.win n,mL ei,1⟩⟩)
     rw[p]at l;cases l;exact az q cN
    ·exact (az h5 L).symm
   let h6:=s _ _ h5;let L:=a3 (j+1);rw[st,cR]at L;let L:=J.len;let a6:=p6.len;refine⟨a2,1,⟨_,bI.of ar⟩,yY (K:=bZ) (j:=a2) (o:=k) (t:=pI 1) (tt:=Lp) (u:=QO 1) (b:=t.map V.ref) (λp f l=>∃ v2:Option V,f=[⇑ae,v2,⇑↥S]/\l k=⇑(.lst ((o++t.take p).map V.ref))/\aY l (o++t.take p) (bx b ((aF c).take j)++(oM (λn=>cL (b n)) it).take p)/\cB k M l/\aH m l) ?_ ?_ ?_ ?_⟩
   ·exact⟨u2,1,(by simpa using h6),(by simpa using J.same s),(λ_ _ e _=>e),g.trans s⟩
   ·rintro p f l _ ⟨_,_,_,_,N,_⟩;exact bI.of (N a2 _ ar a5)
   ·rintro p y f l hl ⟨v2,rfl,F,O,N,s7⟩;rw[gj]at hl;let⟨ag,R,rfl⟩:=Option.map_eq_some_iff.mp hl;let⟨T,a7,av⟩:=p6.get R
    let j:p<t.length:=by
     rcases Nat.lt_or_ge p t.length with q|q
     ·exact q
     ·rw[List.getElem?_eq_none q]at R;cases R
    let aw:jN l ag T:=N ag _ av (λz=>by
     let q:M k=⇑(.tup [.int T.1,.int T.2]):=by rw[← z];exact av
     rw[h6]at q
     cases q)
    let K8:cB k l (aL l k (.lst ((o++t.take p).map V.ref++[↥ag]))):=aG k _ _;refine Ry ?_;refine iX ?_;refine⟨Y,_,F,?_,Y,?_,?_,?_,bN cN s7 K8⟩
    ·rw[cC,cR,gO];exact aN ∅
    ·rw[af,take_snoc R,← jq,gI (l₁:=o++t.take p)];rfl
    ·rw[take_snoc R,take_snoc a7,← jq,← jq]
     exact aY.snoc (O.keep F K8) (K8 ag _ aw (λz=>by
      let q:l k=⇑(.tup [.int T.1,.int T.2]):=by rw[← z];exact aw
      rw[F]at q
      cases q))
    ·exact λa d e n=>K8 a d (N a d e n) n
   ·rintro f l ⟨v2,rfl,F,O,N,s7⟩;rw[cC,gP]at F O;rw[a6,gP]at O;exact⟨Q,1,F,(by rw[st];exact O),s7⟩
  ·rintro f C ⟨u,u2,o,rfl,h5,J,g⟩;rw[sH.len,gP]at J
   let j:r<↑G:=by
    rcases Nat.lt_or_ge r ↑G with q|q
    ·exact q
    ·rw[List.getElem?_eq_none q]at B;cases B
   refine⟨k,Y,⟨o,h5,J⟩,by lia,λq M R6 s O=>?_⟩;let L:=s _ _ (g _ _ I);let R:q≠S:=(az (g _ _ I) O).symm;let j:cE (bx b (aF c))=cL (b x):=by rw[nC _ (L7 b _ ap),Lb,aq]
   rw[j]at R6;let N:∀ a d,a≠S->M a=⇑d->aL M S (.dK (dP i (Sum.inl x) ↥q)) a=⇑d:=λa d n e=>by rw[aJ n];exact e
   refine⟨Y,Y,S,Y,yV.k (k:=Sum.inl x) L (aN ∅),?_⟩;refine⟨dP i (Sum.inl x) ↥q,Y,af,λy t=>?_,?_,λy a e=>?_,λa d n e=>N a d n (s _ _ (g _ _ (v a d n e)))⟩
   ·rw[j7];by_cases p:y=x
    ·rw[if_pos (by rw[p]),p];exact⟨q,1,R6.Fl L R N⟩
    ·rw[if_neg (λz=>p (Sum.inl.inj z))];rw[take_snoc B]at t;rcases List.mem_append.mp t with z|z
     ·let⟨a,l,F⟩:=w y z;exact⟨a,l,((F.same g).same s).Fl L (ab y a l).2 N⟩
     ·exact absurd (by simpa using z) p
   ·have:=iy i (Sum.inl x) (V.ref q);lia
   ·rw[j7]at e;by_cases p:y=x
    ·rw[if_pos (by rw[p])]at e;cases e;refine⟨?_,R⟩
     cases z:H q with
     | none=>rfl
     | some d=>exact absurd ((g _ _ (OW _ _ z)).symm.trans O) (by simp)
    ·rw[if_neg (λz=>p (Sum.inl.inj z))]at e;exact ab y a e
 ·rintro f m ⟨i,u,rfl,I,w,a1,ab,v⟩;rw[cC,gP]at w;exact⟨Y,aU S i G m I w tp sk (λx _ a e=>(ab x a e).1) (λa d e=>v a d (az e U) (s2 _ _ (W _ _ e))) U⟩
class inductive Sz
 | mk (r:Addr) (a:cZ) (s:Int) (b:Y1) (_:vs=[↥r,.int s]) (_:gU H r (a.map aF)) (_:↑a<=1000) (_:(∀ d∈a,↑d<=1000)) (_:gM a) (_:CM a) (_:0<=s) (_:s<↑a) (_:mz a b) (_:(∀ x:Int,0<=x->x<↑a->↑(b x)<=10000)) (_ :
 ∀ (o:Addr) (c:Hp),bP c o (cL (b s))->aH H c->H o=none->Q ↥o c)
theorem Fo:‹(4,24,["m","f"],Sz)›:=λD=>by
 specialize fP ["m","f"] D.OQ.F;let⟨r,a,s,c,rfl,d,e,f,g,i,j,k,l,m,n⟩:=h;let b:=gS hr;exists _,#v[aK (gF b (aB D.OP (jA D) hr #[0,bK #[1]]) (pv 1))]
 rfl'
 refine⟨Y,Y,mq,λL o=>?_⟩;let b:aH H (aL H L (.lst [.int s])):=ak o _;refine⟨r,L,a,[s],c,1,d.same b,af,(by simp),e,f,g,i,(λx a=>by rw[List.mem_singleton.mp a];exact⟨j,k⟩),l,m,λS c d e f g k a i j _=>?_⟩;let a:=a s (by simp);let⟨c,d,k⟩:=g s a;let z:=gX.k (k:=Sum.inl s) f;rw[d]at z;exact⟨Y,S,Y,z,n c e k (b.trans j) (aP b (i s a c d))⟩
def Xk:aT->aT->Bool
 | .aC _ b,.aC c _=>decide (b=c)
 | _,_=>false
class inductive Xl
 | mk (x y:V) (i j:aT) (_:vs=[x,y]) (_:dJ H x i) (_:dJ H y j) (_:Q (.bl (Xk i j)) H)
theorem Ii:‹(1,25,["one","6"],Xl)›:=λD=>by
 specialize fP ["one","6"] D.Z8.F;let⟨x,y,i,j,rfl,⟨a,rfl,b⟩,⟨c,rfl,d⟩,k⟩:=h;exists _,#v[aK (pG (mP eE (aO bf (pv 0) ay) bC (bh _)) (pG (mP eE (aO bf (pv 1) ay) bC (bh _)) (rW (mP eE (aO bf (pv 0) ay) (aO bf (pv 1) ay) (bh _)))))]
 rfl'
 cases i with
 | win n=>exact⟨Y,a,Q,V,dI.of b,V,Y,dN (λz=>absurd z (by decide)) (λ_=>k)⟩
 | aC p q =>
  refine⟨Y,a,Q,V,dI.of b,V,Y,dN (λ_=>?_) (λz=>absurd (by decide) z)⟩
  cases j with
  | win n=>exact⟨Y,c,Q,V,dI.of d,V,Y,dN (λz=>absurd z (by decide)) (λ_=>k)⟩
  | aC u v =>
   refine⟨Y,c,Q,V,dI.of d,V,Y,dN (λ_=>?_) (λz=>absurd (by decide) z)⟩;exists Y,a,Q,V,dI.of b,1,Y,c,Q,V,dI.of d,V
   let e:decide (V.int q=V.int u)=decide (q=u):=by
    by_cases c:q=u
    ·rw[c];simp
    ·let a:¬ V.int q=V.int u:=λz=>c (V.int.inj z);rw[decide_eq_false c,decide_eq_false a]
   rw[e];exact k
def bX(t:List aT)(c:aT):List aT :=
 match t.getLast?,c with
 | some (.aC a b),.aC d e=>if b=d then t.dropLast++[.aC a e] else t++[c]
 | _,_=>t++[c]
def Ij(a:List aT):List aT:=a.foldl bX []
def Ik(a:List aT):∀ t:List aT,↑(a.foldl bX t)<=↑t+↑a:=by
 induction a with
 | nil=>intro t;simp
 | cons e a b =>
  intro t;rw[jY];let z:=b (bX t e)
  let b:↑(bX t e)<=↑t+1:=by
   unfold bX;split
   ·split
    ·rw[cR,List.length_dropLast,gW];lia
    ·simp
   ·simp
  rw[jH];lia
class inductive C9
 | mk (r:Addr) (a:List aT) (_:vs=[↥r]) (_:bU H ↥r a) (_:↑a<=1000000) (_ :
 ∀ (o:Addr) (b:Hp),bU b ↥o (Ij a)->aH H b->H o=none->Q ↥o b)
theorem iG:‹(2,26,["j"],C9)›:=λD=>by
 refine fP ["j","told","X"] D.LP.F λdD A zn s H vs Q E hr _ h=>?_;let⟨r,c,rfl,⟨U,L,u,C,F⟩,W,k⟩:=h;cases u;refine⟨_,#v[aX 1 (bK ah),eZ PassesOwn.never rfl (cK (pv 0)) (bV 2) #v[bM (PW.pt (pF (jt (pv 1) (λ_=>rfl)) (mO (lT (aB D.Z8 (Ii D) hr #[aO bH (pv 1) (iS gm ay),2]))))) #v[mZ (cT #[bC,aO bf (aO bH (pv 1) (iS gm ay)) ay,aO bf (pv 2) ay]) (pJ (pv 1) (iS gm ay) j4)] #v[aW (eX o7 jW jX b9 (pv 1) #[2])]],aK (pv 1)],?_⟩
 rfl'
 refine⟨iD,λq l=>?_⟩;let s0:aH H (aL H q (.lst [])):=ak l _;refine⟨Y,r,1,⟨_,bI.of (s0 _ _ C)⟩,ef (K:=bZ) (e:=r) (b:=L) (λi m b=>∃ (vs:List V) (v:Option V),m=[⇑↥r,⇑↥q,v]/\b q=⇑(.lst vs)/\cI (dJ b) vs ((c.take i).foldl bX [])/\aH H b) ⟨[],none,1,af,.nil,s0⟩ (by rintro i m b _ ⟨_,_,_,_,_,s⟩;exact bI.of (s _ _ C)) ?_ ?_⟩
 ·rintro i x m b M ⟨vs,v,rfl,a,e,s⟩;let⟨f,C,L⟩:=F.get M;let w:=L.same s;let step:(c.take (i+1)).foldl bX []=bX ((c.take i).foldl bX []) f:=by rw[take_snoc C,List.foldl_append];rfl
  let n:↑vs<sizeLine:=by
   let z:=e.len;let d:=Ik (c.take i) [];rw[gO,oV]at d;exact aN ∅
  let o:bX ((c.take i).foldl bX []) f=(c.take i).foldl bX []++[f]->∃ (C:List V) (L:Option V),[⇑(V.ref r),⇑↥q,⇑x]=[⇑↥r,⇑↥q,L]/\(aL b q (.lst (vs++[x]))) q=⇑(.lst C)/\cI (dJ (aL b q (.lst (vs++[x])))) C ((c.take (i+1)).foldl bX [])/\aH H (aL b q (.lst (vs++[x]))):=λu=>by
   refine⟨E,1,af,?_,bN l s (aG q _ _)⟩;rw[step,u];exact cI.snoc (e.mono λd i h=>h.keep a (aG q _ _)) (w.keep a (aG q _ _))
  rcases kZ ((c.take i).foldl bX []) with d|⟨y,G,d⟩
  ·let g:vs=[]:=by
    rw[d]at e;exact List.eq_nil_of_length_eq_zero e.len
   subst g;refine⟨Y,false,.inl ⟨_,bI.of a,1⟩,gx (gx ?_)⟩;refine⟨Y,.inl ⟨1,_,bI.of a⟩,Y,q,Z,a,n,o ?_⟩;rw[d];rfl
  ·rw[jI]at d;let I:=e;rw[d]at I;let⟨N,X,rfl,O,J⟩:=I.split;let⟨R,rfl,S⟩:=id J;refine⟨Y,true,.inl ⟨_,bI.of a,by simp⟩,iX ?_⟩;exists Y,Y,q,Q,V,bI.of a,gT _ _,Y,E,G,f,1,J,w,Y
   cases G with
   | win j =>
    refine gx ?_;refine⟨Y,.inl ⟨1,_,bI.of a⟩,Y,q,Z,a,n,o ?_⟩;rw[d];unfold bX;rw[lS]
   | aC p g =>
    cases f with
    | win j =>
     refine gx ?_;refine⟨Y,.inl ⟨1,_,bI.of a⟩,Y,q,Z,a,n,o ?_⟩;rw[d];unfold bX;rw[lS]
    | aC j t =>
     refine dN (λz=>?_) (λz=>?_)
     ·let B:g=j:=of_decide_eq_true z;let⟨T,rfl,f⟩:=id w;refine⟨Y,Y,q,Q,V,bI.of a,gT _ _,R,Q,V,dI.of S,1,Y,T,Q,V,dI.of f,1,RW,λr f=>?_⟩;refine⟨Y,Y,q,E,↑N,V,ak f _ _ _ a,(by rw[cR];exact EB _),?_⟩;rw[yO];refine⟨E,1,af,?_,bN l (s.trans (ak f _)) (aG q _ _)⟩
      let r:(c.take (i+1)).foldl bX []=y++[.aC p t]:=by
       rw[step,d];unfold bX;rw[lS,List.dropLast_concat];show (if g=j then y++[aT.aC p t] else _)=_;rw[if_pos B]
      rw[r];exact cI.new (it:=.aC p t) a O f _
     ·let B:¬ g=j:=λbw=>z (decide_eq_true bw);refine⟨Y,.inl ⟨1,_,bI.of a⟩,Y,q,Z,a,n,o ?_⟩;rw[d];unfold bX;rw[lS];show (if g=j then _ else y++[aT.aC p g]++[aT.aC j t])=_;rw[if_neg B]
 ·rintro m b ⟨vs,v,rfl,a,e,s⟩;rw[F.len,gP]at e;exact⟨Y,k q b ⟨q,vs,1,a,e⟩ s l⟩
def cQ(r:Row):List aT:=r.map λp=>.aC p.1 p.2
class inductive SA
 | mk (r:Addr) (a:Row) (_:vs=[↥r]) (_:bP H r a) (_:↑a<=100000) (_ :
 ∀ (o:Addr) (b:Hp),bU b ↥o (cQ (cE a))->aH H b->H o=none->Q ↥o b)
theorem mC:‹(2,27,["k"],SA)›:=λD=>by
 specialize fP ["k"] D.E8.F;let⟨m,b,rfl,R,q,s⟩:=h;refine⟨_,#v[aK (iz (N:=["h","n"]) (kg (c:=cy Ho) (f:=["k"]) (d:=[none,none]) rfl rfl rfl nofun nofun rfl nofun rfl nofun) rfl (cK (aB D.WH (nI D) hr #[0])) (λ_ _ _ _ _ _=>(qJ (n:=2) rfl (bR (bV 0) (bR (bV 1) gJ)))) (λ_ _ _ _ _ _=>gK) (λ_ _ _ _ _ _=>(cT #[bC,0,1])))],?_⟩
 rfl'
 refine⟨Y,m,b,1,R,by lia,λq t w l m=>?_⟩;let⟨x,m,n⟩:=id w;let w:=iO b;refine⟨q,1,⟨_,bI.of m⟩,λc g=>gA (K:=bZ) (h:=q) (a:=x.map V.ref) (λi e a=>∃ (u v:Option V) (vs:List V),e=[u,v]/\a c=⇑(.lst vs)/\cI (dJ a) vs (cQ ((cE b).take i))/\aH t a) ⟨none,none,[],1,af,.nil,ak g _⟩ (by rintro i e a _ ⟨_,_,_,_,_,_,s0⟩;exact bI.of (s0 _ _ m)) ?_ ?_⟩
 ·rintro i B e a o ⟨u,v,vs,rfl,f,d,s0⟩;rw[gj]at o;let⟨y,z,rfl⟩:=Option.map_eq_some_iff.mp o;let⟨⟨p,r⟩,o,q⟩:=n.get z;let m:=d.len;unfold cQ at m;rw[cC,gO]at m;refine⟨y,Y,dI.of (s0 _ _ q),1,E,1,Z,yes (iX ?_)⟩;refine⟨Y,Y,RW,λt j=>?_⟩;refine⟨vs,ak j _ _ _ f,aN ∅,Q,1,af,?_,bN g (s0.trans (ak j _)) (aG c _ _)⟩
  let k:cQ ((cE b).take (i+1))=cQ ((cE b).take i)++[.aC p r]:=by
   rw[take_snoc o];unfold cQ;rw[gI];rfl
  rw[k];exact cI.new (it:=.aC p r) f d j _
 ·rintro e a ⟨u,v,vs,rfl,f,d,s0⟩;rw[cC,n.len,gP]at d;refine s c a ⟨c,vs,1,f,d⟩ (l.trans s0) ?_
  cases k:H c with
  | none=>rfl
  | some o=>exact absurd ((l _ _ k).symm.trans g) (by simp)
def gg:aT->List Int
 | .win n=>[-1-n]
 | .aC a b=>run a (b-a).toNat
def dM(a:List aT):UF:=a.flatMap gg
def kX:aT->Prop
 | .win n=>0<=n
 | .aC a b=>0<=a/\a<b
def gr(a:List aT):Prop:=∀ b∈a,kX b
def fT(a b:List aT):dM (a++b)=dM a++dM b:=by unfold dM;rw[List.flatMap_append]
def kq(a:aT):dM [a]=gg a:=by simp[dM]
theorem gr.append{a b:List aT}(h:gr a)(g:gr b):gr (a++b):=λc d=>(List.mem_append.mp d).elim (h c) (g c)
theorem gr.one{a:aT}(h:kX a):gr [a]:=λc b=>by rw[List.mem_singleton.mp b];exact h
def OY(t:List aT){n:Int}(h:0<=n):bG t (-1-n)=t++[.win n]:=by
 unfold bG;rw[if_pos ∅];congr 3;lia
def Mb(t:List aT)(p s:Int)(h:0<=s):bG (t++[.aC p s]) s=t++[.aC p (s+1)]:=by
 unfold bG;rw[if_neg ∅,lS];show (if s=s then (t++[aT.aC p s]).dropLast++[.aC p (s+1)] else _)=_;rw[if_pos rfl,List.dropLast_concat]
theorem BV(t:List aT)(p:Int):∀ (n:Nat) (s:Int),0<=s->(run s n).foldl bG (t++[.aC p s])=t++[.aC p (s+n)]
 | 0,s,_=>by simp[run]
 | n+1,s,h=>by
  rw[run,jY,Mb t p s h,BV t p n (s+1) ∅];congr 3;lia
def Il(t:List aT)(c:aT)(h:kX c):bX t c=(gg c).foldl bG t:=by
 cases c with
 | win n =>
  show bX t (.win n)=bG t (-1-n);rw[OY t h];unfold bX
  cases t.getLast? with
  | none=>rfl
  | some l=>cases l <;> rfl
 | aC a b =>
  let⟨e,f⟩:=h;let e:(b-a).toNat=(b-(a+1)).toNat+1:=by lia
  show bX t (.aC a b)=(run a (b-a).toNat).foldl bG t;rw[e,run,jY]
  let d:∀ (u:List aT) (p:Int),(run (a+1) (b-(a+1)).toNat).foldl bG (u++[.aC p (a+1)])=u++[.aC p b]:=λu p=>by
   rw[BV u p _ _ ∅];congr 3;lia
  unfold bX bG;rw[if_neg ∅]
  cases t.getLast? with
  | none=>exact (d t a).symm
  | some l =>
   cases l with
   | win n=>exact (d t a).symm
   | aC p q =>
    show (if q=a then t.dropLast++[aT.aC p b] else t++[aT.aC a b])=List.foldl bG (if q=a then t.dropLast++[aT.aC p (a+1)] else t++[aT.aC a (a+1)]) _;by_cases e:q=a
    ·rw[if_pos e,if_pos e,d]
    ·rw[if_neg e,if_neg e,d]
def ku(a:List aT)(h:gr a):Ij a=aF (dM a):=by
 unfold Ij aF dM;rw[l9]
 let z:∀ (a:List aT) (t:List aT),gr a->a.foldl bX t=a.foldl (λc b=>(gg b).foldl bG c) t:=by
  intro a
  induction a with
  | nil=>intro t _;rfl
  | cons it a b =>
   intro t h;rw[jY,jY,Il t it (h it (by simp))];exact b _ λi b=>h i (jT _ b)
 exact z a [] h
def Mc(t:List aT)(e:Int)(h:gr t):dM (bG t e)=dM t++[e]/\gr (bG t e):=by
 unfold bG;by_cases f:e<0
 ·rw[if_pos f,fT,kq];refine⟨?_,h.append (gr.one (by show 0<=-1-e;lia))⟩;show dM t++[-1-(-1-e)]=_;rw[show -1-(-1-e)=e by lia]
 ·rw[if_neg f]
  let c:dM (t++[.aC e (e+1)])=dM t++[e]/\gr (t++[.aC e (e+1)]):=by
   refine⟨?_,h.append (gr.one ⟨by lia,by lia⟩)⟩;rw[fT,kq];show _++run e (e+1-e).toNat=_;rw[show (e+1-e).toNat=1 by lia];rfl
  rcases kZ t with rfl|⟨d,l,rfl⟩
  ·exact c
  ·rw[jI]at h c ⊢;rw[lS]
   cases l with
   | win n=>exact c
   | aC a b =>
    show dM (if b=e then (d++[aT.aC a b]).dropLast++[.aC a (e+1)] else (d++[aT.aC a b])++[.aC e (e+1)])=_/\gr (if b=e then (d++[aT.aC a b]).dropLast++[.aC a (e+1)] else (d++[aT.aC a b])++[.aC e (e+1)]);by_cases g:b=e
    ·subst g;obtain⟨i,d⟩:0<=a/\a<b:=h (.aC a b) (by simp);rw[if_pos rfl,List.dropLast_concat];refine⟨?_,gr.append (λd f=>h d (lQ _ f)) (gr.one ⟨i,by lia⟩)⟩;rw[fT,fT,kq,kq,jq];congr 1;show run a (b+1-a).toNat=run a (b-a).toNat++[b];rw[show (b+1-a).toNat=(b-a).toNat+1 by lia,pY];congr 2;lia
    ·rw[if_neg g];exact c
def mD(a:UF):dM (aF a)=a/\gr (aF a):=by
 let z:∀ (a:UF) (t:List aT),gr t->dM (a.foldl bG t)=dM t++a/\gr (a.foldl bG t):=by
  intro a
  induction a with
  | nil=>intro t h;exact⟨by simp,h⟩
  | cons e a d =>
   intro t h;let⟨b,c⟩:=Mc t e h;let⟨e,f⟩:=d _ c;exact⟨by rw[jY,e,b,jq];rfl,f⟩
 let⟨b,c⟩:=z a [] (λi d=>by cases d);exact⟨by unfold aF;rw[b];rfl,c⟩
def nJ(r:Row):dM (cQ r)=bu r:=by
 unfold dM cQ bu;rw[List.flatMap_map];rfl
def uD{r:Row}(h:jw r):gr (cQ r):=by
 intro c a;unfold cQ at a;let⟨p,b,rfl⟩:=List.mem_map.mp a;exact h p b
def Me{a:UF}(h:∀ x∈a,0<=x):cQ (cL a)=aF a:=by
 let z:∀ (a:UF) (t:Row),(∀ x∈a,0<=x)->cQ (a.foldl (λt n=>iM t n (n+1)) t)=a.foldl bG (cQ t):=by
  intro a
  induction a with
  | nil=>intro t _;rfl
  | cons n a c =>
   intro t h;rw[jY,jY,c _ λx c=>h x (jT _ c)];congr 1;let c:=h n (by simp);unfold iM bG;rw[if_neg ∅];rcases kZ t with rfl|⟨b,l,rfl⟩
   ·rfl
   ·rw[jI,lS];let e:(cQ (b++[l])).getLast?=⇑(.aC l.1 l.2):=by unfold cQ;rw[gI];exact lS
    rw[e];show cQ (if l.2=n then (b++[l]).dropLast++[(l.1,n+1)] else b++[l]++[(n,n+1)])=if l.2=n then (cQ (b++[l])).dropLast++[.aC l.1 (n+1)] else cQ (b++[l])++[.aC n (n+1)];by_cases c:l.2=n
    ·rw[if_pos c,if_pos c,List.dropLast_concat];unfold cQ;rw[gI,gI];simp
    ·rw[if_neg c,if_neg c];unfold cQ;rw[gI];rfl
 exact z a [] h
abbrev mK:=aT × Row × Int × Int
def cX(a:Y1)(b:aT):Row:=oM (λn=>cL (a n)) b
def bY(a:Y1):Int->List aT->List mK
 | _,[]=>[]
 | f,it::r=>(it,cX a it,f,f+i7 (cX a it))::bY a (f+i7 (cX a it)) r
theorem uE(a:Y1)(c:List aT):∀ (b:List aT) (f:Int),bY a f (b++c)=bY a f b++bY a (f+i7 (bx a b)) c
 | [],f=>by simp[bY,bx,i7]
 | it::b,f=>by
  rw[List.cons_append,bY,bY,uE a c b,List.cons_append];let e:bx a (it::b)=cX a it++bx a b:=by unfold bx;rw[jb];rfl
  rw[e,yL,Int.add_assoc]
theorem BW(b:Y1):∀ (a:List aT) (f:Int),↑(bY b f a)=↑a
 | [],_=>rfl
 | _::a,f=>by rw[bY,jH,jH,BW b a]
def mE(N:Yf)(H:Hp)(v:V)(d:mK):Prop:=∃ (b a:Addr) (x:V),v=↥b/\H b=⇑(.tup [x,↥a,.int d.2.2.1,.int d.2.2.2])/\dJ H x d.1/\bP H a d.2.1/\N a
theorem mE.same{N:Yf}{H a:Hp}{v:V}{d:mK}(s:aH H a):mE N H v d->mE N a v d:=λ⟨b,c,x,e,h,i,r,n⟩=>⟨b,c,x,e,s _ _ h,i.same s,r.same s,n⟩
theorem mE.keep{N:Yf}{H c:Hp}{v:V}{d:mK}{q:Addr}{f:List V}(b:H q=⇑(.lst f))(g:∀ a,N a->a≠q)(k:cB q H c):mE N H v d->mE N c v d:=λ⟨a,e,x,i,h,j,r,n⟩=>⟨a,e,x,i,k a _ h (by
 intro z;rw[z,b]at h
 cases h),j.keep b k,r.keep b (g e n) k,n⟩
def vD(H:Hp)(b:List (d9 × V))(c:Y1)(d:List aT):Prop:=∀ n,aT.win n∈d->∃ a,cG b (Sum.inl n)=⇑↥a/\bP H a (cL (c n))
theorem vD.same{H a:Hp}{b:List (d9 × V)}{c:Y1}{d:List aT}(s:aH H a)(h:vD H b c d):vD a b c d:=λn e=>by
 let⟨f,g,r⟩:=h n e;exact⟨f,g,r.same s⟩
def aD(p:Int)(d:mK):List aT:=if d.2.2.2<=p then [d.1] else if p<=d.2.2.1 then [] else cQ (cE (kH 0 (p-d.2.2.1) 0 d.2.1))
def bD(p:Int)(d:mK):List aT:=if d.2.2.2<=p then [] else if p<=d.2.2.1 then [d.1] else cQ (cE (kH (p-d.2.2.1) (d.2.2.2-d.2.2.1) 0 d.2.1))
def aE(a:Y1)(p:Int):Int->List Int->List Int
 | _,[]=>[]
 | f,e::r=>(if f+↑(aZ a e)<=p then [e] else if p<=f then [] else (aZ a e).take (p-f).toNat)++aE a p (f+↑(aZ a e)) r
def bE(a:Y1)(p:Int):Int->List Int->List Int
 | _,[]=>[]
 | f,e::r=>(if f+↑(aZ a e)<=p then [] else if p<=f then [e] else (aZ a e).drop (p-f).toNat)++bE a p (f+↑(aZ a e)) r
def cu(a:Y1)(e:Int)(r:UF):aS a (e::r)=aZ a e++aS a r:=by unfold aS;rw[jb]
def jB(a:Y1)(b c:UF):aS a (b++c)=aS a b++aS a c:=by unfold aS;rw[List.flatMap_append]
theorem vE(a:Y1)(p:Int)(y:UF):∀ (x:UF) (f:Int),aE a p f (x++y)=aE a p f x++aE a p (f+↑(aS a x)) y
 | [],f=>by simp[aE,aS]
 | e::x,f=>by
  rw[List.cons_append,aE,aE,vE a p y x,jq,cu,cR,Int.add_assoc]
  push_cast
  rfl
theorem vF(a:Y1)(p:Int)(y:UF):∀ (x:UF) (f:Int),bE a p f (x++y)=bE a p f x++bE a p (f+↑(aS a x)) y
 | [],f=>by simp[bE,aS]
 | e::x,f=>by
  rw[List.cons_append,bE,bE,vF a p y x,jq,cu,cR,Int.add_assoc]
  push_cast
  rfl
def qN(a:Y1){e:Int}(h:0<=e):aZ a e=[e]:=by unfold aZ;rw[if_neg ∅]
theorem lK(b:Y1):∀ (n:Nat) (a:Int),0<=a->aS b (run a n)=run a n
 | 0,_,_=>rfl
 | n+1,a,h=>by rw[run,cu,qN b h,lK b n (a+1) ∅];rfl
theorem OZ(b:Y1)(p:Int):∀ (n:Nat) (a f:Int),0<=a->aE b p f (run a n)=(run a n).take (p-f).toNat
 | 0,_,_,_=>by simp[run,aE]
 | n+1,a,f,h=>by
  rw[run,aE,OZ b p n (a+1) _ ∅,qN b h];show (if f+1<=p then [a] else if p<=f then [] else _)++(run (a+1) n).take (p-(f+1)).toNat=_;by_cases c:f+1<=p
  ·rw[if_pos c,show (p-f).toNat=(p-(f+1)).toNat+1 by lia];rfl
  ·rw[if_neg c,if_pos ∅,show (p-f).toNat=0 by lia,show (p-(f+1)).toNat=0 by lia];rfl
theorem O0(b:Y1)(p:Int):∀ (n:Nat) (a f:Int),0<=a->bE b p f (run a n)=(run a n).drop (p-f).toNat
 | 0,_,_,_=>by simp[run,bE]
 | n+1,a,f,h=>by
  rw[run,bE,O0 b p n (a+1) _ ∅,qN b h];show (if f+1<=p then [] else if p<=f then [a] else _)++(run (a+1) n).drop (p-(f+1)).toNat=_;by_cases c:f+1<=p
  ·rw[if_pos c,show (p-f).toNat=(p-(f+1)).toNat+1 by lia];rfl
  ·rw[if_neg c,if_pos ∅,show (p-f).toNat=0 by lia,show (p-(f+1)).toNat=0 by lia];rfl
def O1(a:Y1){n:Int}(h:0<=n):aZ a (-1-n)=a n:=by
 unfold aZ;rw[if_pos ∅,show -1-(-1-n)=n by lia]
def uF(d:Y1)(c:aT)(h:kX c):∀ q∈cX d c,q.1<=q.2:=by
 cases c with
 | win n=>exact j5 _
 | aC a b =>
  intro q e;have:q=(a,b):=by simpa [cX,oM] using e
  subst this;have:=h.2;show a<=b;lia
def jP(c:Y1)(d:aT)(h:kX d):bu (cX c d)=aS c (gg d):=by
 cases d with
 | win n =>
  show bu (cL (c n))=aS c [-1-n];rw[eT,cu,O1 c h];simp[aS]
 | aC a b =>
  show bu [(a,b)]=aS c (run a (b-a).toNat);rw[fF,lK c _ _ h.1];rfl
def kB(b:Y1)(a:aT)(h:kX a):i7 (cX b a)=↑(aS b (gg a)):=by
 rw[← jP b a h,qE _ (uF b a h)]
def pz(c:Y1)(p f:Int)(d:aT)(h:kX d):dM (aD p (d,cX c d,f,f+i7 (cX c d)))=aE c p f (gg d):=by
 let tt:=kB c d h
 let e:dM (cQ (cE (kH 0 (p-f) 0 (cX c d))))=(aS c (gg d)).take (p-f).toNat:=by
  rw[nJ,nU _ _ _ (uF c d h),jP c d h];rfl
 unfold aD;show dM (if f+i7 (cX c d)<=p then [d] else if p<=f then [] else cQ (cE (kH 0 (p-f) 0 (cX c d))))=_;rw[tt]
 cases d with
 | win n =>
  let g:aS c (gg (.win n))=aZ c (-1-n):=by show aS c [-1-n]=_;rw[cu];simp[aS]
  rw[g]at e ⊢;show _=aE c p f [-1-n];rw[aE,aE,gG];split
  ·rfl
  ·split
   ·rfl
   ·exact e
 | aC a b =>
  let g:aS c (gg (.aC a b))=run a (b-a).toNat:=lK c _ _ h.1;rw[g]at e ⊢;show _=aE c p f (run a (b-a).toNat);rw[OZ c p _ _ _ h.1];let g:=fc a (b-a).toNat;split
  ·rename_i i;rw[kq,pC ∅];rfl
  ·split
   ·rename_i i;rw[show (p-f).toNat=0 by lia];rfl
   ·exact e
def pB(c:Y1)(p f:Int)(d:aT)(h:kX d):dM (bD p (d,cX c d,f,f+i7 (cX c d)))=bE c p f (gg d):=by
 let tt:=kB c d h
 let e:dM (cQ (cE (kH (p-f) (f+i7 (cX c d)-f) 0 (cX c d))))=(aS c (gg d)).drop (p-f).toNat:=by
  rw[nJ,nU _ _ _ (uF c d h),jP c d h,pC (by rw[tt];lia)]
 unfold bD;show dM (if f+i7 (cX c d)<=p then [] else if p<=f then [d] else cQ (cE (kH (p-f) (f+i7 (cX c d)-f) 0 (cX c d))))=_;let i:(f+i7 (cX c d)<=p)=(f+↑(aS c (gg d))<=p):=by rw[tt]
 simp only[i]
 cases d with
 | win n =>
  let g:aS c (gg (.win n))=aZ c (-1-n):=by show aS c [-1-n]=_;rw[cu];simp[aS]
  rw[g]at e ⊢;show _=bE c p f [-1-n];rw[bE,bE,gG];split
  ·rfl
  ·split
   ·rfl
   ·exact e
 | aC a b =>
  let g:aS c (gg (.aC a b))=run a (b-a).toNat:=lK c _ _ h.1;rw[g]at e ⊢;show _=bE c p f (run a (b-a).toNat);rw[O0 c p _ _ _ h.1];let g:=fc a (b-a).toNat;split
  ·rename_i j;rw[wX ∅];rfl
  ·split
   ·rename_i j;rw[kq,show (p-f).toNat=0 by lia];rfl
   ·exact e
theorem Fp(a:Y1)(p:Int):∀ (b:List aT) (f:Int),gr b->dM ((bY a f b).flatMap (aD p))=aE a p f (dM b)
 | [],f,_=>rfl
 | it::r,f,h=>by
  let c:=h it (by simp);rw[bY,jb,fT,pz a p f it c,Fp a p r _ λi d=>h i (jT _ d)];let e:dM (it::r)=gg it++dM r:=by unfold dM;rw[jb]
  rw[e,vE,kB a it c]
theorem BX(a:Y1)(p:Int):∀ (b:List aT) (f:Int),gr b->dM ((bY a f b).flatMap (bD p))=bE a p f (dM b)
 | [],f,_=>rfl
 | it::r,f,h=>by
  let c:=h it (by simp);rw[bY,jb,fT,pB a p f it c,BX a p r _ λi d=>h i (jT _ d)];let e:dM (it::r)=gg it++dM r:=by unfold dM;rw[jb]
  rw[e,vF,kB a it c]
def SD(a:Y1)(b:List aT):Prop:=∀ n,aT.win n∈b->∀ x∈a n,0<=x
def SE(d:Y1)(c:aT)(h:kX c)(g:∀ n,c=.win n->∀ x∈d n,0<=x):kW (cX d c):=by
 cases c with
 | win n=>exact (BH (g n rfl)).nn
 | aC a b =>
  intro q e;have:q=(a,b):=by simpa [cX,oM] using e
  subst this;exact⟨h.1,by have:=h.2;show a<=b;lia⟩
theorem xS(a:Y1):∀ (c:List aT) (f:Int),gr c->SD a c->∀ d∈bY a f c,kX d.1/\kW d.2.1
 | [],_,_,_=>λd b=>by cases b
 | it::r,f,h,g=>by
  intro d b;rw[bY]at b;rcases List.mem_cons.mp b with rfl|z
  ·exact⟨h it (by simp),SE a it (h it (by simp)) λn e=>g n (by rw[e];simp)⟩
  ·exact xS a r _ (λi b=>h i (jT _ b)) (λn b=>g n (jT _ b)) d z
theorem zw{a b:Int}{r:Row}(h:kW r):gr (cQ (cE (kH a b 0 r))):=uD (nE (zc a b r 0 h))
def pE{p:Int}{d:mK}(h:kX d.1)(g:kW d.2.1):gr (aD p d):=by
 unfold aD;split
 ·exact gr.one h
 ·split
  ·exact λi a=>by cases a
  ·exact zw g
def p3{p:Int}{d:mK}(h:kX d.1)(g:kW d.2.1):gr (bD p d):=by
 unfold bD;split
 ·exact λi a=>by cases a
 ·split
  ·exact gr.one h
  ·exact zw g
theorem uG{g:mK->List aT}{l:List mK}(h:∀ d∈l,gr (g d)):gr (l.flatMap g):=λb a=>by
 let⟨d,c,a⟩:=List.mem_flatMap.mp a;exact h d c b a
def xT(r:Row):↑(cQ r)=↑r:=by unfold cQ;rw[cC]
def qO(a b:Int)(r:Row):↑(cQ (cE (kH a b 0 r)))<=↑r:=by
 rw[xT];exact fX (iO _) (jO a b r 0)
theorem zy(a:Y1){g:mK->List aT}(c:∀ d,↑(g d)<=↑d.2.1+1):∀ (b:List aT) (f:Int),↑((bY a f b).flatMap g)<=↑(bx a b)+↑b
 | [],_=>by simp[bY]
 | it::r,f=>by
  rw[bY,jb,cR];let e:=c (it,cX a it,f,f+i7 (cX a it));let i:=zy a c r (f+i7 (cX a it));let h:bx a (it::r)=cX a it++bx a r:=by unfold bx;rw[jb];rfl
  rw[h,cR,jH];simp only at e;lia
def Xm(p:Int)(d:mK):↑(aD p d)<=↑d.2.1+1:=by
 unfold aD;split
 ·simp
 ·split
  ·simp
  ·exact fX (qO _ _ _) ∅
def Xn(p:Int)(d:mK):↑(bD p d)<=↑d.2.1+1:=by
 unfold bD;split
 ·simp
 ·split
  ·simp
  ·exact fX (qO _ _ _) ∅
def iQ{a b:Type}(g:a->List b)(l:List a)(i:Nat):↑((l.take i).flatMap g)<=↑(l.flatMap g):=by
 let e:l.flatMap g=(l.take i).flatMap g++(l.drop i).flatMap g:=by rw[← List.flatMap_append,List.take_append_drop]
 rw[e,cR];lia
def qP{a c:Type}(g:a->List c){l:List a}{i:Nat}{b:a}(h:l[i]?=⇑b):(l.take (i+1)).flatMap g=(l.take i).flatMap g++g b:=by
 rw[take_snoc h,List.flatMap_append];simp
def uH(a:Y1){c:List aT}{b:aT}(h:b∈c):↑(cX a b)<=↑(bx a c):=by
 let⟨f,d,rfl⟩:=List.append_of_mem h;rw[fk];let e:bx a (b::d)=cX a b++bx a d:=by unfold bx;rw[jb];rfl
 rw[e,cR,cR];lia
def Kl(A B:Addr)(H b:Hp):Prop:=∀ a o,H a=⇑o->a≠A->a≠B->b a=⇑o
theorem Kl.tup{A B:Addr}{H c:Hp}{d e:List V}(k:Kl A B H c)(f:H A=⇑(.lst d))(g:H B=⇑(.lst e)):∀ a b,H a=⇑(.tup b)->c a=⇑(.tup b):=λa b h=>k a _ h (λz=>by
 rw[z,f]at h;cases h) (λz=>by
 rw[z,g]at h
 cases h)
theorem dJ.tups{H b:Hp}{v:V}{c:aT}(t:∀ a d,H a=⇑(.tup d)->b a=⇑(.tup d)):dJ H v c->dJ b v c:=λ⟨a,e,h⟩=>⟨a,e,t a _ h⟩
theorem mE.UR{N:Yf}{A B:Addr}{H e:Hp}{v:V}{f:mK}{g i:List V}(b:H A=⇑(.lst g))(c:H B=⇑(.lst i))(n:∀ a,N a->a≠A/\a≠B)(k:Kl A B H e):mE N H v f->mE N e v f:=λ⟨a,ra,x,j,h,l,⟨m,o,p⟩,d⟩ =>
 ⟨a,ra,x,j,k.tup b c _ _ h,l.tups (k.tup b c),⟨m,k _ _ o (n ra d).1 (n ra d).2,p.tups (k.tup b c)⟩,d⟩
def cI.app{b c:Type}{a:b->c->Prop}{d e:List b}{f g:List c}(h:cI a d f)(t:cI a e g):cI a (d++e) (f++g):=by
 induction h with
 | nil=>exact t
 | cons i _ j=>exact .cons i j
structure kY(H1:Hp)(A B:Addr)(l1 l2:List aT)(H2:Hp):Prop where
 a:∃ vs,H2 A=⇑(.lst vs)/\cI (dJ H2) vs l1
 b:∃ vs,H2 B=⇑(.lst vs)/\cI (dJ H2) vs l2
 k:Kl A B H1 H2
def kY.same{c d e:Hp}{A B:Addr}{f g:List aT}(p:kY c A B f g d)(s:aH d e):kY c A B f g e:=by
 let⟨⟨b,h,i⟩,⟨j,l,m⟩,k⟩:=p;exact⟨⟨b,s _ _ h,i.mono λ_ _ h=>h.same s⟩,⟨j,s _ _ l,m.mono λ_ _ h=>h.same s⟩,λa o b n m=>s _ _ (k a o b n m)⟩
def kY.Km{f c:Hp}{A B:Addr}{g h j:List aT}{d e:List V}(p:kY f A B g h c)(n:A≠B)(l:c A=⇑(.lst d))(m:cI (dJ c) e j):kY f A B (g++j) h (aL c A (.lst (d++e))):=by
 let⟨⟨i,b,o⟩,⟨q,r,s⟩,k⟩:=p;rw[l]at b;cases b;let kp:∀ v i,dJ c v i->dJ (aL c A (.lst (d++e))) v i:=λv i b=>b.keep l (aG A _ _);refine⟨⟨_,af,(o.mono kp).app (m.mono kp)⟩,⟨q,by rw[aJ n.symm];exact r,s.mono kp⟩,λa o i b q=>?_⟩;rw[aJ b];exact k a o i b q
def kY.Kn{f c:Hp}{A B:Addr}{g h j:List aT}{d e:List V}(p:kY f A B g h c)(n:A≠B)(l:c B=⇑(.lst d))(m:cI (dJ c) e j):kY f A B g (h++j) (aL c B (.lst (d++e))):=by
 let⟨⟨o,q,r⟩,⟨i,b,s⟩,k⟩:=p;rw[l]at b;cases b;let kp:∀ v i,dJ c v i->dJ (aL c B (.lst (d++e))) v i:=λv i b=>b.keep l (aG B _ _);refine⟨⟨o,by rw[aJ n];exact q,r.mono kp⟩,⟨_,af,(s.mono kp).app (m.mono kp)⟩,λa o i q b=>?_⟩;rw[aJ b];exact k a o i q b
def nK{b:cZ}{c:Y1}(i:gM b)(j:CM b)(l:mz b c):∀ x:Int,0<=x->x<↑b->∀ y∈c x,0<=y:=by
 let⟨rk,a,m⟩:=j
 let n:∀ (k:Nat) (x:Int),rk x<k->0<=x->x<↑b->∀ y∈c x,0<=y:=by
  intro k
  induction k with
  | zero=>intro x h;lia
  | succ k k =>
   intro x e d f y a;let f:b[x.toNat]?=⇑b[x.toNat]:=nh ∅;rw[l x _ d f]at a;unfold aS at a;let⟨e,o,a⟩:=List.mem_flatMap.mp a;unfold aZ at a;by_cases g:e<0
   ·rw[if_pos g]at a;let h:jF b x (-1-e):=⟨d,_,f,cH.mpr ⟨by lia,by rw[show -1-(-1-e)=e by lia];exact o⟩⟩;let⟨d,e⟩:=i.DY h;have:=m _ _ h;exact k _ ∅ d e y a
   ·rw[if_neg g]at a;rw[List.mem_singleton.mp a];lia
 exact λx=>n (rk x+1) x (Nat.lt_succ_self _)
def qQ{b:cZ}{s n:Int}{a:UF}(c:0<=s)(d:b[s.toNat]?=⇑a)(h:aT.win n∈aF a):jF b s n:=by
 exists c,a,d;rw[← iP];unfold fN;rw[List.mem_filterMap];exact⟨.win n,h,1⟩
structure n9(H:Hp)(r:Addr)(rows:cZ)(sh:Y1):Prop where
 at_:gU H r (rows.map aF)
 len:↑rows<=1000
 ents:∀ es∈rows,↑es<=1000
 snd:gM rows
 rk:CM rows
 O2:mz rows sh
 bd:∀ x:Int,0<=x->x<↑rows->↑(sh x)<=10000
theorem n9.same{H a:Hp}{r:Addr}{b:cZ}{c:Y1}(s:aH H a)(h:n9 H r b c):n9 a r b c:={ h with at_:=h.at_.same s }
structure p4(H:Hp)(r:Addr)(rows:cZ)(sh:Y1)(s:Int)(es:UF)(xr:List V)(b:Addr):Prop where
 he:rows[s.toNat]?=⇑es
 hr:H r=⇑(.lst xr)
 ix:nM xr s=⇑↥b
 it:bU H ↥b (aF es)
 il:↑(aF es)<=1000
 rl:↑(bx sh (aF es))<=10000
 tt:i7 (cL (sh s))=↑(sh s)
 se:sh s=aS sh es
def n9.one{H:Hp}{r:Addr}{a:cZ}{b:Y1}{s:Int}(h:n9 H r a b)(f:0<=s)(j:s<↑a):∃ k d e,p4 H r a b s k d e:=by
 let c:a[s.toNat]?=⇑a[s.toNat]:=nh ∅;let⟨d,l,i⟩:=h.at_;let⟨n,m,g⟩:=i.get' (i:=s.toNat) (b:=aF a[s.toNat]) (by rw[gj,c];rfl);let⟨e,o,rfl,i,n⟩:=id g;let z:=dm m;rw[show ((s.toNat:Nat):Int)=s by lia]at z;let m:=qK a[s.toNat] [];let i:=h.ents _ (mL c);let⟨n,o⟩:=zu b a[s.toNat];let i:=h.O2 s _ f c;refine⟨_,d,e,c,l,z,g,?_,?_,?_,i⟩
 ·show ↑(a[s.toNat].foldl bG [])<=_;simp only[oV]at m;lia
 ·let q:=sS b (aF a[s.toNat]) o;rw[n,← i]at q;have:=h.bd s f j;lia
 ·rw[← qE _ (j5 _),eT]
def lN(a:UF):↑(cL a)<=↑a:=by
 let z:=EF a [];simpa [cL] using z
def gh(b:Y1)(p:Int)(a c:UF):UF:=if c=[] then a else aE b p 0 a++c++bE b p 0 a
class inductive SG
 | mk (r f:Addr) (b:List aT) (d:List (d9 × V)) (e:Y1) (N:Yf) (_:vs=[↥r,↥f]) (_:bU H ↥r b) (_:H f=⇑(.dK d)) (_:vD H d e b) (_:↑b<=100000) (_:(∀ h∈b,↑(cX e h)<=100000)) (_:(∀ n a,aT.win n∈b->cG d (Sum.inl n)=⇑↥a->N a)) (_:(∀ a,H a=none->N a)) (_ :
 ∀ (o:Addr) (g:List V) (c:Hp),c o=⇑(.lst g)->cI (mE N c) g (bY e 0 b)->aH H c->H o=none->Q ↥o c)
theorem Fq:‹(2,28,["j","x"],SG)›:=λD=>by
 refine fP ["j","x","told","first","X","k","last"] D.WO.F λdD A zn s H vs Q E hr _ h=>?_
 let⟨r,S,d,R,a,N,rfl,⟨r',T,f,G,I⟩,hS,hW,d8,U,W,X,k⟩:=h;cases f;exists _,#v[aX 2 (bK ah),aX 3 ay,eZ PassesOwn.never rfl (cK (pv 0)) (bV 4) #v[aX 5 (aB D.WN (wQ D) hr #[4,1]),aX 6 (bz dY (pv 3) (_fC.um D.WI (D.T.m9 _ D.WI.m) (C4 D) hr #[5])),aW (eX o7 jW jX b9 (pv 2) #[cT #[4,5,3,6]]),aX 3 (pv 6)],aK (pv 2)]
 rfl'
 refine⟨iD,λq o=>?_⟩;let s0:aH H (aL H q (.lst [])):=ak o _;refine⟨Y,r,1,⟨_,bI.of (s0 _ _ G)⟩,ef (K:=bZ) (e:=r) (b:=T) (λi p g=>∃ (vs:List V) (y z B:Option V),p=[⇑↥r,⇑↥S,⇑↥q,⇑(.int (0+i7 (bx a (d.take i)))),y,z,B]/\g q=⇑(.lst vs)/\cI (mE (λc=>N c/\c≠q) g) vs (bY a 0 (d.take i))/\aH H g) ⟨[],none,none,none,1,af,.nil,s0⟩ (by rintro i p g _ ⟨_,_,_,_,_,_,_,s⟩;exact bI.of (s _ _ G)) ?_ ?_⟩
 ·rintro i x p g hi ⟨vs,y,z,B,rfl,t,l,s⟩;let⟨e,C,J⟩:=I.get hi;let u:=mL C;let G:=l.len;rw[BW,gO]at G;refine⟨Y,Y,x,e,S,R,λn=>cL (a n),1,J.same s,s _ _ hS,λn G=>(hW.same s) n (by rw[← G];exact u),λc G L v w3=>?_⟩
  let M:N c/\c≠q:=by
   rcases w3 with ⟨n,rfl,j⟩|m
   ·exists W n c u j;let⟨b,w,⟨G,F,_⟩⟩:=hW n u;rw[j]at w;cases w;exact az F o
   ·exact⟨X c (aP s m),(az t m).symm⟩
  refine⟨Y,Y,c,cX a e,1,L,fX (U e u) (by decide),λu m=>⟨Z,?_⟩⟩;let F:=m _ _ (v _ _ t);refine⟨Y,.inl ⟨1,_,bI.of F⟩,Y,Y,Y,Y,CQ,λO j=>?_⟩;let w:=ak j (.tup [x,↥c,.int (0+i7 (bx a (d.take i))),.int (0+i7 (bx a (d.take i))+i7 (cX a e))]) _ _ F;refine⟨q,Z,w,aN ∅,?_⟩;refine⟨Y,_,⇑x,⇑↥c,⇑(.int (0+i7 (bx a (d.take i))+i7 (cX a e))),?_,af,?_,bN o (s.trans (v.trans (m.trans (ak j _)))) (aG q _ _)⟩
  ·let f:bx a (d.take (i+1))=bx a (d.take i)++cX a e:=by rw[take_snoc C,fk,jj];rfl
   rw[f,yL,← Int.add_assoc];rfl
  ·let f:bY a 0 (d.take (i+1))=bY a 0 (d.take i)++[(e,cX a e,0+i7 (bx a (d.take i)),0+i7 (bx a (d.take i))+i7 (cX a e))]:=by rw[take_snoc C,uE];rfl
   rw[f];let a:O≠q:=(az F j).symm;refine cI.snoc (l.mono λab ae h=>(((h.same v).same m).same (ak j _)).keep w (λc h=>h.2) (aG q _ _)) ⟨O,c,x,1,?_,?_,?_,M⟩
   ·rw[aJ a,af]
   ·exact ((((J.same s).same v).same m).same (ak j _)).keep w (aG q _ _)
   ·exact (((L.same m).same (ak j _))).keep w M.2 (aG q _ _)
 ·rintro p g ⟨vs,y,z,B,rfl,t,l,s⟩;rw[I.len,gP]at l;exact⟨Y,k q vs g t (l.mono λab ae ⟨c,a,x,f,h,i,r,n⟩=>⟨c,a,x,f,h,i,r,n.1⟩) s o⟩
class inductive Im
 | mk (r e o:Addr) (p:Int) (a c:List aT) (f:List (d9 × V)) (b:Y1) (_:vs=[↥r,↥e,.int p,↥o]) (_:bU H ↥r a) (_:H e=⇑(.dK f)) (_:vD H f b a) (_:bU H ↥o c) (_:gr a) (_:gr c) (_:SD b a) (_:↑a<=50000) (_:↑(bx b a)<=50000) (_:c.length<=50000) (_ :
 ∀ (q:Addr) (d:Hp),bU d ↥q (aF (aE b p 0 (dM a)++dM c++bE b p 0 (dM a)))->aH H d->H q=none->Q ↥q d)
theorem uI:‹(3,29,["j","x","z","others"],Im)›:=λD=>by
 refine fP ["j","x","z","others","ahead","behind","X","k","first","last"] D.WQ.F λdD A zn s H vs Q E hr _ h=>?_
 let⟨ab,ae,ag,p,a,x,ao,b,rfl,hI,hS,hW,hO,O,Yj,nn,l1,l2,l3,ap⟩:=h;refine⟨_,#v[aX 4 (bK ah),aX 5 (bK ah),eZ PassesOwn.never rfl (cK (aB D.WO (Fq D) hr #[0,1])) (lU (n:=4) rfl (bR (bV 6) (bR (bV 7) (bR (bV 8) (bR (bV 9) gJ))))) #v[bM (aV gE (pv 9) (pv 2) (bh _)) #v[aW (eX o7 jW jX b9 (pv 4) #[6])] #v[bM (aV gE (pv 2) (pv 8) (bh _)) #v[aW (eX o7 jW jX b9 (pv 5) #[6])] #v[rX (i:=4) (by assumption) rfl (Or.inl rfl) (aB D.E8 (mC D) hr #[aB D.WJ (qM D) hr #[7,ay,bz dc (pv 2) (pv 8)]]) vq,rX (i:=5) (by assumption) rfl (Or.inl rfl) (aB D.E8 (mC D) hr #[aB D.WJ (qM D) hr #[7,bz dc (pv 2) (pv 8),bz dc (pv 9) (pv 8)]]) vq]]],aK (aB D.LP (iG D) hr #[bz jf (bz jf (pv 4) (pv 3)) (pv 5)])],?_⟩
 rfl'
 refine⟨iD,λA R=>⟨iD,λB x=>?_⟩⟩;let sA:aH H (aL H A (.lst [])):=ak R _;let n:aH _ (aL (aL H A (.lst [])) B (.lst [])):=ak x _;let s0:=sA.trans n;let w:A≠B:=az af x;let MX:=aP sA x;refine⟨Y,Y,ab,ae,a,ao,b,λi=>i≠A/\i≠B,1,hI.same s0,s0 _ _ hS,hW.same s0,by lia,(λf S=>by have:=uH b S;lia),?_,?_,λD dv H1 hD Ri T _=>?_⟩
 ·intro d i f g;let⟨j,e,k,c,_⟩:=hW d f;rw[g]at e;cases e;exact⟨az c R,az c MX⟩
 ·intro i c;exact⟨(az (n _ _ af) c).symm,(az af c).symm⟩
 let ai:=T _ _ (n _ _ (af (H:=H) (a:=A) (o:=.lst [])));let am:=T _ _ (af (H:=aL H A (.lst [])) (a:=B) (o:=.lst []))
 let x:D≠A/\D≠B:=by
  rename_i c;exact⟨(az (n _ _ af) c).symm,(az af c).symm⟩
 let n:=zy b (Xm p) a 0;let n:=zy b (Xn p) a 0;let C:=xS b a 0 O nn;refine⟨D,1,⟨_,bI.of hD⟩,ef (K:=bZ) (e:=D) (b:=dv) (λj F k=>∃ U W X u4:Option V,F=[⇑↥ab,⇑↥ae,⇑(.int p),⇑↥ag,⇑↥A,⇑↥B,U,W,X,u4]/\kY H1 A B (((bY b 0 a).take j).flatMap (aD p)) (((bY b 0 a).take j).flatMap (bD p)) k) ⟨none,none,none,none,1,⟨_,ai,.nil⟩,⟨_,am,.nil⟩,λ_ _ e _ _=>e⟩ (by rintro j F k _ ⟨_,_,_,_,_,pv⟩;exact bI.of (pv.k _ _ hD x.1 x.2)) ?_ ?_⟩
 ·rintro j a0 F k S ⟨U,W,X,u4,rfl,pv⟩;let⟨m,ed,n⟩:=Ri.get S;let aq:=n.UR ai am (λi h=>h) pv.k;let⟨i,ra,xi,rfl,ar,an,Ym,av⟩:=aq;let G:=qP (aD p) ed;let I:=qP (bD p) ed;let n:=iQ (aD p) (bY b 0 a) j;let n:=iQ (bD p) (bY b 0 a) j;let aw:=iQ (aD p) (bY b 0 a) (j+1);let ax:=iQ (bD p) (bY b 0 a) (j+1);let⟨q,r,J⟩:=pv.a;let⟨v2,t,L⟩:=pv.b;let z1:=J.len;let z2:=L.len;let⟨f,c,d,g⟩:=m
  let n:↑c<=50000:=by
   let z:=mL ed
   have:∃ n∈a,c=cX b n:=by
    let u:∀ (a:List aT) (o:Int),(f,c,d,g)∈bY b o a->∃ n∈a,c=cX b n:=by
     intro a
     induction a with
     | nil=>intro o h;cases h
     | cons n x y =>
      intro o h;rw[bY]at h;rcases List.mem_cons.mp h with e|e
      ·cases e;exact⟨f,by simp,1⟩
      ·let⟨n,v,l⟩:=y _ e;exact⟨n,jT _ v,l⟩
    exact u a 0 z
   let⟨n,v,rfl⟩:=this;have:=uH b v;lia
  exists i,Y,dI.of ar,1,E,1,E,1,E,1,Z;refine⟨Y,Y,Z,Y,dN (λx=>?_) (λx=>?_)⟩
  ·let n:g<=p:=of_decide_eq_true x;refine⟨Y,.inl ⟨1,_,bI.of r⟩,Y,A,Z,r,aN ∅,?_⟩;exists Q,Y;rw[G,I];let l:aD p (f,c,d,g)=[f]:=by unfold aD;rw[if_pos n]
   let u:bD p (f,c,d,g)=[]:=by unfold bD;rw[if_pos n]
   rw[l,u,gG];exact pv.Km w r (.cons an .nil)
  ·let n:¬ g<=p:=λz=>x (decide_eq_true z);refine⟨Y,Y,Z,Y,dN (λo=>?_) (λo=>?_)⟩
   ·let x:p<=d:=of_decide_eq_true o;refine⟨Y,.inl ⟨1,_,bI.of t⟩,Y,B,Z,t,aN ∅,?_⟩;exists Q,Y;rw[G,I];let l:aD p (f,c,d,g)=[]:=by unfold aD;rw[if_neg n,if_pos x]
    let u:bD p (f,c,d,g)=[f]:=by unfold bD;rw[if_neg n,if_pos x]
    rw[l,u,gG];exact pv.Kn w t (.cons an .nil)
   ·let x:¬ p<=d:=λz=>o (decide_eq_true z);have l:aD p (f,c,d,g)=cQ (cE (kH 0 (p-d) 0 c)):=by unfold aD;rw[if_neg n,if_neg x]
    let u:bD p (f,c,d,g)=cQ (cE (kH (p-d) (g-d) 0 c)):=by unfold bD;rw[if_neg n,if_neg x]
    rw[G,l,cR]at aw;rw[I,u,cR]at ax;refine⟨Y,Y,Y,Y,Z,ra,c,0,p-d,1,Ym,by lia,λf x n M z=>⟨f,Y,n,fX (jO _ _ _ _) ∅,λq2 H4 f N n=>?_⟩⟩;let⟨n,v,e3,h3,y⟩:=f;cases e3;let z3:=y.len;let f:=N _ _ (M _ _ r);refine⟨A,q2,Z,f,h3,eO (aN ∅),?_⟩;let aA:=((pv.same M).same N).Km w f y;let n:bP (aL H4 A (.lst (q++v))) ra c:=((Ym.same M).same N).keep f av.1 (aG A _ _);let aU:(aL H4 A (.lst (q++v))) B=⇑(.lst v2):=by rw[aJ w.symm];exact N _ _ (M _ _ t)
    refine⟨Y,Y,Y,Y,Z,Y,Y,Z,ra,c,p-d,g-d,1,n,by lia,λc f d s6 g=>⟨c,Y,d,fX (jO _ _ _ _) ∅,λq4 d c s7 f=>?_⟩⟩;let⟨d,f,e4,h4,t4⟩:=c;cases e4;let c:=t4.len;let c:=s7 _ _ (s6 _ _ aU);refine⟨B,q4,Z,c,h4,eO (aN ∅),?_⟩;exists Q,Y;rw[G,I,l,u];exact ((aA.same s6).same s7).Kn w c t4
 ·rintro F k ⟨U,W,X,u4,rfl,pv⟩;let c:=Ri.len;rw[c,gP]at pv;let⟨q,r,J⟩:=pv.a;let⟨v2,t,L⟩:=pv.b;let z1:=J.len;let z2:=L.len;let d:aH H k:=λi c e=>pv.k i c (T _ _ (s0 _ _ e)) (az e R) (az e MX);let⟨c,v,e3,h3,y⟩:=hO.same d;cases e3;have z3:=y.len;refine⟨Y,Y,A,ag,Z,r,h3,eO (aN ∅),λc e=>?_⟩;have f:aH k (aL k c (.lst (q++v))):=ak e _;refine⟨Y,c,B,Z,af,f _ _ t,eO (aN (by rw[cR];lia)),λo e=>?_⟩;have g:aH _ (aL (aL k c (.lst (q++v))) o (.lst (q++v++v2))):=ak e _;have e:=f.trans g;refine⟨o,Y,⟨o,Y,af,((J.app y).app L).mono λv j h=>h.same e⟩,by rw[cR,cR];lia,λu g f i j=>?_⟩;have k:gr ((bY b 0 a).flatMap (aD p)):=uG λm c=>pE (C m c).1 (C m c).2;have l:gr ((bY b 0 a).flatMap (bD p)):=uG λm c=>p3 (C m c).1 (C m c).2;rw[ku _ ((k.append Yj).append l),fT,fT,Fp b p a 0 O,BX b p a 0 O]at f;exact ap u g f (d.trans (e.trans i)) (aP (d.trans e) j)
class inductive wR
 | mk (r o:Addr) (b:cZ) (s p:Int) (a:List aT) (c:Y1) (_:vs=[↥r,.int s,.int p,↥o]) (_:n9 H r b c) (_:0<=s) (_:s<↑b) (_:bU H ↥o a) (_:gr a) (_:↑a<=10000) (_:0<=p/\p<=↑(c s)) (_:(∀ (e:UF) (q:Addr) (d:Hp),b[s.toNat]?=⇑e->bU d ↥q (aF (gh c p e (dM a)))->aH H d->H q=none->Q ↥q d))
def O5{c:List aT}(h:gr c):dM c=[]↔c=[]:=by
 refine⟨λe=>?_,λe=>by rw[e];rfl⟩
 cases c with
 | nil=>rfl
 | cons it r =>
  let f:dM (it::r)=gg it++dM r:=by unfold dM;rw[jb]
  rw[f]at e;let d:=(List.append_eq_nil_iff.mp e).1
  cases it with
  | win n=>cases d
  | aC a b =>
   let e:a<b:=(h (.aC a b) (by simp)).2;have:=fc a (b-a).toNat;let e:run a (b-a).toNat=[]:=d;rw[e]at this;simp only[oV]at this;lia
theorem oh:‹(4,30,["m","f","z","j"],wR)›:=λD=>by
 specialize fP ["m","f","z","j","x"] D.Sg.F;let⟨r,I,J,s,p,M,g,rfl,R,e,i,N,u,T,n,v⟩:=h;let w:=gS hr;refine⟨_,#v[aX 4 (aB D.OP (jA D) hr #[0,bK #[1]]),aW (aB D.Yi (gV D) hr #[gF w (pv 4) (pv 1),2,2]),bM (jJ (jt (pv 3) (λ_=>rfl))) #v[aK (aB D.LP (iG D) hr #[aO bH (pv 0) (pv 1)])] bg,aK (aB D.WQ (uI D) hr #[aO bH (pv 0) (pv 1),4,2,3])],?_⟩
 rfl'
 refine⟨Y,Y,mq,λL U=>?_⟩;let w:aH H (aL H L (.lst [.int s])):=ak U _;refine⟨r,L,J,[s],g,1,R.at_.same w,af,by simp,R.len,R.ents,R.snd,R.rk,(λx a=>by rw[List.mem_singleton.mp a];exact⟨e,i⟩),R.O2,R.bd,λS W U H2 x y X J j L ab=>?_⟩;let B:=J s (by simp);let⟨J,U,Ra⟩:=y s B;let z:=gX.k (k:=Sum.inl s) x;rw[U]at z;let d:=w.trans L;let w:=R.bd s e i;let w:=lN (g s);let⟨b,w,L,O⟩:=(R.same d).one e i;refine⟨Y,Y,S,Y,z,Y,Y,J,cL (g s),p,p,1,Ra,by lia,⟨n.1,Int.le_refl _,by rw[O.tt];exact n.2⟩,λn c=>?_⟩
 ·let⟨n,w,C,a⟩:=(R.same (d.trans c)).one e i;let ee:b=n:=nQ (O.he.symm.trans a.he);subst ee;let F:=N.same (d.trans c);let⟨i,k,eo,ho,to⟩:=id F;cases eo;exists Y,!k.isEmpty,.inl ⟨_,bI.of ho,1⟩;let G:=to.len
  cases M with
  | nil =>
   have:k=[]:=List.eq_nil_of_length_eq_zero (by simpa using G);subst this;refine iX ?_;refine⟨Y,Y,r,Q,V,bI.of a.hr,a.ix,C,aF b,1,a.it,fX a.il (by decide),λq l f m o=>?_⟩;refine v b q l O.he ?_ (d.trans (c.trans m)) (aP (d.trans c) o);let⟨i,t⟩:=mD b;rw[ku _ t,i]at f;exact f
  | cons it r0 =>
   have:(!k.isEmpty)=true:=by
    cases k with
    | nil=>simp at G
    | cons _ _=>rfl
   rw[this];refine gx ?_;refine⟨Y,Y,r,Q,V,bI.of a.hr,a.ix,Y,Y,Y,C,S,I,p,aF b,it::r0,W,g,1,a.it,c _ _ x,λn j=>?_,F,(mD b).2,u,λn j=>?_,fX a.il (by decide),fX a.rl (by decide),fX T (by decide),λq l f m o=>?_⟩
   ·let a:=qQ e O.he j;let⟨i,g⟩:=List.getElem?_of_mem B;let⟨k,t,R2⟩:=y n (wY (X.dn i s g n a));exact⟨k,t,R2.same c⟩
   ·let a:=qQ e O.he j;let⟨e,g⟩:=R.snd.DY a;exact nK R.snd R.rk R.O2 n e g
   ·refine v b q l O.he ?_ (d.trans (c.trans m)) (aP (d.trans c) o);rw[(mD b).1]at f;unfold gh;rw[if_neg (λz=>by cases (O5 u).mp z)];exact f
def kD(a b:Int)(d:mK):List aT:=if d.2.2.2<=a\/b<=d.2.2.1 then [d.1] else if a<=d.2.2.1/\d.2.2.2<=b then [] else cQ (cE (kH 0 (a-d.2.2.1) 0 d.2.1++kH (b-d.2.2.1) (d.2.2.2-d.2.2.1) 0 d.2.1))
def tD(a b:Int)(d:mK):List aT:=if d.2.2.2<=a\/b<=d.2.2.1 then [] else if a<=d.2.2.1/\d.2.2.2<=b then [d.1] else cQ (cE (kH (a-d.2.2.1) (b-d.2.2.1) 0 d.2.1))
def Mi(a:Y1)(b c f e:Int):UF:=if f+↑(aZ a e)<=b\/c<=f then [e] else if b<=f/\f+↑(aZ a e)<=c then [] else (aZ a e).take (b-f).toNat++(aZ a e).drop (c-f).toNat
def O6(a:Y1)(b c f e:Int):UF:=if f+↑(aZ a e)<=b\/c<=f then [] else if b<=f/\f+↑(aZ a e)<=c then [e] else ((aZ a e).take (c-f).toNat).drop (b-f).toNat
def kE(a:Y1)(b c:Int):Int->List Int->List Int
 | _,[]=>[]
 | f,e::r=>Mi a b c f e++kE a b c (f+↑(aZ a e)) r
def tE(a:Y1)(b c:Int):Int->List Int->List Int
 | _,[]=>[]
 | f,e::r=>O6 a b c f e++tE a b c (f+↑(aZ a e)) r
theorem vG(a:Y1)(b c:Int)(y:UF):∀ (x:UF) (f:Int),kE a b c f (x++y)=kE a b c f x++kE a b c (f+↑(aS a x)) y
 | [],f=>by simp[kE,aS]
 | e::x,f=>by
  rw[List.cons_append,kE,kE,vG a b c y x,jq,cu,cR,Int.add_assoc]
  push_cast
  rfl
theorem vH(a:Y1)(b c:Int)(y:UF):∀ (x:UF) (f:Int),tE a b c f (x++y)=tE a b c f x++tE a b c (f+↑(aS a x)) y
 | [],f=>by simp[tE,aS]
 | e::x,f=>by
  rw[List.cons_append,tE,tE,vH a b c y x,jq,cu,cR,Int.add_assoc]
  push_cast
  rfl
def Yn{a f:Int}(h:f<a):(a-f).toNat=(a-(f+1)).toNat+1:=by lia
theorem MZ{a f:Int}(h:a<=f):(a-f).toNat=0:=Int.toNat_of_nonpos (Int.sub_nonpos_of_le h)
theorem Yo{a f:Int}(h:a<=f):(a-(f+1)).toNat=0:=MZ (Int.le_trans h (Int.le_of_lt (Int.lt_succ f)))
theorem nS{a f:Int}(h:¬ f+1<=a):a<=f:=Int.not_lt.mp h
theorem O7(e:Y1){b c:Int}(g:b<c):∀ (n:Nat) (x f:Int),0<=x->kE e b c f (run x n)=(run x n).take (b-f).toNat++(run x n).drop (c-f).toNat
 | 0,_,_,_=>by simp[run,kE]
 | n+1,x,f,h=>by
  rw[run,kE,O7 e g n (x+1) _ ∅];unfold Mi;rw[qN e h];show (if f+1<=b\/c<=f then [x] else if b<=f/\f+1<=c then [] else _)++((run (x+1) n).take (b-(f+1)).toNat++(run (x+1) n).drop (c-(f+1)).toNat)=_;by_cases a:f+1<=b
  ·rw[if_pos (.inl a),Yn a,Yn (Int.lt_trans a g)];rfl
  ·by_cases d:c<=f
   ·rw[if_pos (.inr d),MZ (nS a),MZ d,Yo (nS a),Yo d];rfl
   ·rw[if_neg (λz=>z.elim a d),if_pos ⟨nS a,Int.not_le.mp d⟩,MZ (nS a),Yn (Int.not_le.mp d),Yo (nS a)];rfl
theorem O8(e:Y1){a b:Int}(g:a<b):∀ (n:Nat) (x f:Int),0<=x->tE e a b f (run x n)=((run x n).take (b-f).toNat).drop (a-f).toNat
 | 0,_,_,_=>by simp[run,tE]
 | n+1,x,f,h=>by
  rw[run,tE,O8 e g n (x+1) _ ∅];unfold O6;rw[qN e h];show (if f+1<=a\/b<=f then [] else if a<=f/\f+1<=b then [x] else _)++((run (x+1) n).take (b-(f+1)).toNat).drop (a-(f+1)).toNat=_;by_cases c:f+1<=a
  ·rw[if_pos (.inl c),Yn c,Yn (Int.lt_trans c g)];rfl
  ·by_cases d:b<=f
   ·rw[if_pos (.inr d),MZ d,Yo d];simp
   ·rw[if_neg (λz=>z.elim c d),if_pos ⟨nS c,Int.not_le.mp d⟩,MZ (nS c),Yn (Int.not_le.mp d),Yo (nS c)];rfl
def Mj{a b t:Int}{r:Row}(c:∀ p∈r,p.1<=p.2)(h:↑(bu r)<=t.toNat):bu (cE (kH 0 a 0 r++kH b t 0 r))=(bu r).take a.toNat++(bu r).drop b.toNat:=by
 rw[j6 _ (Wg (CH _ _ _ _) (CH _ _ _ _)),cM,qG _ _ _ _ c,qG _ _ _ _ c];show ((bu r).take (a-0).toNat).drop 0++((bu r).take (t-0).toNat).drop (b-0).toNat=_;rw[Int.sub_zero,Int.sub_zero,Int.sub_zero,pC h];rfl
def p5(a:Y1){c d:Int}(j:c<d)(f:Int)(b:aT)(h:kX b):dM (kD c d (b,cX a b,f,f+i7 (cX a b)))=kE a c d f (gg b):=by
 let tt:=kB a b h
 let g:dM (cQ (cE (kH 0 (c-f) 0 (cX a b)++kH (d-f) (f+i7 (cX a b)-f) 0 (cX a b))))=(aS a (gg b)).take (c-f).toNat++(aS a (gg b)).drop (d-f).toNat:=by
  rw[nJ,Mj (uF a b h) (by rw[jP a b h,tt];lia),jP a b h]
 unfold kD;show dM (if f+i7 (cX a b)<=c\/d<=f then [b] else if c<=f/\f+i7 (cX a b)<=d then [] else cQ (cE (kH 0 (c-f) 0 (cX a b)++kH (d-f) (f+i7 (cX a b)-f) 0 (cX a b))))=_;let k:(f+i7 (cX a b)<=c\/d<=f)=(f+↑(aS a (gg b))<=c\/d<=f):=by rw[tt]
 let l:(c<=f/\f+i7 (cX a b)<=d)=(c<=f/\f+↑(aS a (gg b))<=d):=by rw[tt]
 simp only[k,l]
 cases b with
 | win n =>
  let i:aS a (gg (.win n))=aZ a (-1-n):=by show aS a [-1-n]=_;rw[cu];simp[aS]
  rw[i]at g ⊢;show _=kE a c d f [-1-n];rw[kE,kE,gG];unfold Mi;split
  ·rfl
  ·split
   ·rfl
   ·exact g
 | aC x y =>
  let i:aS a (gg (.aC x y))=run x (y-x).toNat:=lK a _ _ h.1;rw[i]at g ⊢;show _=kE a c d f (run x (y-x).toNat);rw[O7 a j _ _ _ h.1];let i:=fc x (y-x).toNat;split
  ·rename_i e;rw[kq];rcases e with e|e
   ·rw[pC ∅,wX ∅,gG];rfl
   ·rw[MZ (Int.le_trans (Int.le_of_lt j) e),MZ e];rfl
  ·split
   ·rename_i e;rw[MZ e.1,wX ∅];rfl
   ·exact g
def p'(a:Y1){c d:Int}(j:c<d)(f:Int)(b:aT)(h:kX b):dM (tD c d (b,cX a b,f,f+i7 (cX a b)))=tE a c d f (gg b):=by
 let tt:=kB a b h
 let g:dM (cQ (cE (kH (c-f) (d-f) 0 (cX a b))))=((aS a (gg b)).take (d-f).toNat).drop (c-f).toNat:=by
  rw[nJ,nU _ _ _ (uF a b h),jP a b h]
 unfold tD;show dM (if f+i7 (cX a b)<=c\/d<=f then [] else if c<=f/\f+i7 (cX a b)<=d then [b] else cQ (cE (kH (c-f) (d-f) 0 (cX a b))))=_;rw[tt]
 cases b with
 | win n =>
  let i:aS a (gg (.win n))=aZ a (-1-n):=by show aS a [-1-n]=_;rw[cu];simp[aS]
  rw[i]at g ⊢;show _=tE a c d f [-1-n];rw[tE,tE,gG];unfold O6;split
  ·rfl
  ·split
   ·rfl
   ·exact g
 | aC x y =>
  let i:aS a (gg (.aC x y))=run x (y-x).toNat:=lK a _ _ h.1;rw[i]at g ⊢;show _=tE a c d f (run x (y-x).toNat);rw[O8 a j _ _ _ h.1];let i:=fc x (y-x).toNat;split
  ·rename_i e;rcases e with e|e
   ·rw[wX (by rw[gO];omega)];rfl
   ·rw[MZ e];simp[dM]
  ·split
   ·rename_i e;rw[kq,MZ e.1,pC ∅];rfl
   ·exact g
theorem Dc(a:Y1){b c:Int}(e:b<c):∀ (d:List aT) (f:Int),gr d->dM ((bY a f d).flatMap (kD b c))=kE a b c f (dM d)
 | [],f,_=>rfl
 | it::r,f,h=>by
  let g:=h it (by simp);rw[bY,jb,fT,p5 a e f it g,Dc a e r _ λi j=>h i (jT _ j)];let i:dM (it::r)=gg it++dM r:=by unfold dM;rw[jb]
  rw[i,vG,kB a it g]
theorem Ft(a:Y1){b c:Int}(e:b<c):∀ (d:List aT) (f:Int),gr d->dM ((bY a f d).flatMap (tD b c))=tE a b c f (dM d)
 | [],f,_=>rfl
 | it::r,f,h=>by
  let g:=h it (by simp);rw[bY,jb,fT,p' a e f it g,Ft a e r _ λi j=>h i (jT _ j)];let i:dM (it::r)=gg it++dM r:=by unfold dM;rw[jb]
  rw[i,vH,kB a it g]
def UW{a b:Int}{d:mK}(h:kX d.1)(g:kW d.2.1):gr (kD a b d):=by
 unfold kD;split
 ·exact gr.one h
 ·split
  ·exact λi c=>by cases c
  ·exact uD (nE λp c=>(List.mem_append.mp c).elim (zc _ _ _ _ g p) (zc _ _ _ _ g p))
def qa{a b:Int}{d:mK}(h:kX d.1)(g:kW d.2.1):gr (tD a b d):=by
 unfold tD;split
 ·exact λi c=>by cases c
 ·split
  ·exact gr.one h
  ·exact zw g
def Io(a b:Int)(d:mK):↑(kD a b d)<=↑d.2.1+↑d.2.1+1:=by
 unfold kD;split
 ·simp
 ·split
  ·simp
  ·rw[xT];refine fX (iO _) ?_;rw[cR];have:=jO 0 (a-d.2.2.1) d.2.1 0;have:=jO (b-d.2.2.1) (d.2.2.2-d.2.2.1) d.2.1 0;lia
def O9(a b:Int)(d:mK):↑(tD a b d)<=↑d.2.1+↑d.2.1+1:=by
 unfold tD;split
 ·simp
 ·split
  ·simp
  ·exact fX (qO _ _ _) ∅
theorem lO(a:Y1){g:mK->List aT}(c:∀ d,↑(g d)<=↑d.2.1+↑d.2.1+1):∀ (b:List aT) (f:Int),↑((bY a f b).flatMap g)<=↑(bx a b)+↑(bx a b)+↑b
 | [],_=>by simp[bY]
 | it::r,f=>by
  rw[bY,jb,cR];let e:=c (it,cX a it,f,f+i7 (cX a it));let i:=lO a c r (f+i7 (cX a it));let h:bx a (it::r)=cX a it++bx a r:=by unfold bx;rw[jb];rfl
  rw[h,cR,jH];simp only at e;lia
theorem Fv(a:Y1)(b:aT)(c:Row)(d f:Int):∀ (g:List aT) (i:Int),(b,c,d,f)∈bY a i g->∃ j∈g,c=cX a j
 | [],_,h=>by cases h
 | i0::k,i,h=>by
  rw[bY]at h;rcases List.mem_cons.mp h with e|e
  ·cases e;exact⟨b,by simp,1⟩
  ·let⟨l,m,n⟩:=Fv a b c d f k _ e;exact⟨l,jT _ m,n⟩
theorem BY(a:Y1):∀ (b:List aT) (f:Int) (d:mK),d∈bY a f b->d.1∈b
 | [],_,_,h=>by cases h
 | i0::c,f,d,h=>by
  rw[bY]at h;rcases List.mem_cons.mp h with e|e
  ·subst e;simp
  ·exact jT _ (BY a c _ d e)
def Fw(c:Y1){d e n:Int}{b:List aT}(h:aT.win n∈(bY c 0 b).flatMap (kD d e)):aT.win n∈b:=by
 let⟨f,g,a⟩:=List.mem_flatMap.mp h;unfold kD at a;split at a
 ·rw[List.mem_singleton.mp a];exact BY c b 0 f g
 ·split at a
  ·cases a
  ·unfold cQ at a;let⟨p,_,i⟩:=List.mem_map.mp a;cases i
theorem BZ{H:Hp}{A:Addr}{l:List aT}{a:List V}(h:H A=⇑(.lst a))(t:cI (dJ H) a l):bU H ↥A l:=⟨A,a,1,h,t⟩
def bT(d:Y1)(a b:Int)(c:UF):UF:=if a=b then c else kE d a b 0 c
def iH(c:Y1)(a b:Int)(d:UF):UF:=if a=b then [] else tE c a b 0 d
class inductive Pa
 | mk (r f:Addr) (a b:Int) (c:List aT) (g:List (d9 × V)) (e:Y1) (_:vs=[↥r,↥f,.int a,.int b]) (_:bU H ↥r c) (_:H f=⇑(.dK g)) (_:vD H g e c) (_:↑c<=10000) (_:↑(bx e c)<=20000) (_ :
 ∀ (t L M:Addr) (d:Hp),d t=⇑(.tup [↥L,↥M])->bU d ↥L ((bY e 0 c).flatMap (kD a b))->bU d ↥M ((bY e 0 c).flatMap (tD a b))->aH H d->Q ↥t d)
theorem B3:‹(3,31,["j","x","h","n"],Pa)›:=λD=>by
 let t:bq c9 bw bZ cW cU cS 1 (eK 7) (eL 7) ["k","h","n"] EJ:=qM D
 refine fP ["j","x","h","n","left","taken","X","k","first","last"] D.WR.F λdD A zn s H vs Q E hr _ h=>?_
 let⟨z,R,p,q,d,ai,c,rfl,hI,hS,T,W,l2,am⟩:=h;refine⟨_,#v[aX 4 (bK ah),aX 5 (bK ah),eZ PassesOwn.never rfl (cK (aB D.WO (Fq D) hr #[0,1])) (lU (n:=4) rfl (bR (bV 6) (bR (bV 7) (bR (bV 8) (bR (bV 9) gJ))))) #v[bM (PW.pt (Ec (aV gE (pv 9) (pv 2) (bh _)) (Cs (aV gE (pv 3) (pv 8) (bh _))))) #v[aW (eX o7 jW jX b9 (pv 4) #[6])] #v[bM (PW.pt (pF (aV gE (pv 2) (pv 8) (bh _)) (mO (aV gE (pv 9) (pv 3) (bh _))))) #v[aW (eX o7 jW jX b9 (pv 5) #[6])] #v[rX (i:=4) (by assumption) rfl (Or.inl rfl) (aB D.E8 (mC D) hr #[bz jf (aB D.WJ t hr #[7,ay,bz dc (pv 2) (pv 8)]) (aB D.WJ t hr #[7,bz dc (pv 3) (pv 8),bz dc (pv 9) (pv 8)])]) vq,rX (i:=5) (by assumption) rfl (Or.inl rfl) (aB D.E8 (mC D) hr #[aB D.WJ t hr #[7,bz dc (pv 2) (pv 8),bz dc (pv 3) (pv 8)]]) vq]]],aK (cT #[4,5])],?_⟩
 rfl'
 refine⟨iD,λA hA=>⟨iD,λB t=>?_⟩⟩;let W:aH H (aL H A (.lst [])):=ak hA _;let g:aH _ (aL (aL H A (.lst [])) B (.lst [])):=ak t _;let s0:=W.trans g;let C:A≠B:=az af t;let MX:=aP W t;refine⟨Y,Y,z,R,d,ai,c,λj=>j≠A/\j≠B,1,hI.same s0,s0 _ _ hS,T.same s0,by lia,(λf u=>by have:=uH c u;lia),?_,?_,λD dv v hD Ri s1 _=>?_⟩
 ·intro n j b e;let⟨f,m,i,a,_⟩:=T n b;rw[e]at m;cases m;exact⟨az a hA,az a MX⟩
 ·intro j a;exact⟨(az (g _ _ af) a).symm,(az af a).symm⟩
 let ab:=s1 _ _ (g _ _ (af (H:=H) (a:=A) (o:=.lst [])));let ae:=s1 _ _ (af (H:=aL H A (.lst [])) (a:=B) (o:=.lst []))
 let t:D≠A/\D≠B:=by
  rename_i a;exact⟨(az (g _ _ af) a).symm,(az af a).symm⟩
 let g:=lO c (Io p q) d 0;let g:=lO c (O9 p q) d 0;refine⟨D,1,⟨_,bI.of hD⟩,ef (K:=bZ) (e:=D) (b:=dv) (λi L n=>∃ u1 u2 u3 u4:Option V,L=[⇑↥z,⇑↥R,⇑(.int p),⇑(.int q),⇑↥A,⇑↥B,u1,u2,u3,u4]/\kY v A B (((bY c 0 d).take i).flatMap (kD p q)) (((bY c 0 d).take i).flatMap (tD p q)) n) ⟨none,none,none,none,1,⟨_,ab,.nil⟩,⟨_,ae,.nil⟩,λ_ _ m _ _=>m⟩ (by rintro i L n _ ⟨_,_,_,_,_,pv⟩;exact bI.of (pv.k _ _ hD t.1 t.2)) ?_ ?_⟩
 ·rintro i ax L n u ⟨u1,u2,u3,u4,rfl,pv⟩;let⟨an,x,g⟩:=Ri.get u;let ao:=g.UR ab ae (λj h=>h) pv.k;let⟨j,M,xi,rfl,ap,ag,Ym,aq⟩:=ao;let N:=qP (kD p q) x;let O:=qP (tD p q) x;let g:=iQ (kD p q) (bY c 0 d) i;let g:=iQ (tD p q) (bY c 0 d) i;let ar:=iQ (kD p q) (bY c 0 d) (i+1);let av:=iQ (tD p q) (bY c 0 d) (i+1);let⟨r,k,t1⟩:=pv.a;let⟨F,w,t2⟩:=pv.b;let g:=t1.len;let g:=t2.len;let⟨f,b,a,e⟩:=an
  let g:↑b<=20000:=by
   let⟨o,l,rfl⟩:=Fv c f b a e d 0 (mL x);have:=uH c l;lia
  let x:↑r<sizeLine:=aN ∅
  let R:(e<=p\/q<=a)->kY v A B (((bY c 0 d).take (i+1)).flatMap (kD p q)) (((bY c 0 d).take (i+1)).flatMap (tD p q)) (aL n A (.lst (r++[xi]))):=λg=>by
   rw[N,O];let t:kD p q (f,b,a,e)=[f]:=by unfold kD;rw[if_pos g]
   let u:tD p q (f,b,a,e)=[]:=by unfold tD;rw[if_pos g]
   rw[t,u,gG];exact pv.Km C k (.cons ag .nil)
  exists j,Y,dI.of ap,1,E,1,E,1,E,1,Z;refine⟨Y,Y,Z,Y,dN (λg=>iX ?_) (λg=>?_)⟩
  ·exact⟨Y,.inl ⟨1,_,bI.of k⟩,Y,A,Z,k,x,Q,Y,R (.inl (of_decide_eq_true g))⟩
  let T:¬ e<=p:=λz=>g (decide_eq_true z);refine⟨Y,Y,Z,Y,dN (λg=>?_) (λg=>?_)⟩
  ·exact⟨Y,.inl ⟨1,_,bI.of k⟩,Y,A,Z,k,x,Q,Y,R (.inr (of_decide_eq_true g))⟩
  let x:¬ q<=a:=λz=>g (decide_eq_true z);have R:¬ (e<=p\/q<=a):=λz=>z.elim T x
  let ab:¬ (p<=a/\e<=q)->kY v A B (((bY c 0 d).take i).flatMap (kD p q)) (((bY c 0 d).take i).flatMap (tD p q)) n->kD p q (f,b,a,e)=cQ (cE (kH 0 (p-a) 0 b++kH (q-a) (e-a) 0 b))/\tD p q (f,b,a,e)=cQ (cE (kH (p-a) (q-a) 0 b)):=λx _=>by
   exists ?_
   ·unfold kD;rw[if_neg R,if_neg x]
   ·unfold tD;rw[if_neg R,if_neg x]
  let go:¬ (p<=a/\e<=q)->∀ (S T:Addr) (l:List V) (g:Hp),g T=⇑(.lst l)->cI (dJ g) l (cQ (cE (kH 0 (p-a) 0 b++kH (q-a) (e-a) 0 b)))->aH n g->↑r+↑l<=sizeLine/\kY v A B (((bY c 0 d).take (i+1)).flatMap (kD p q)) (((bY c 0 d).take i).flatMap (tD p q)) (aL g A (.lst (r++l)))/\bP (aL g A (.lst (r++l))) M b/\(aL g A (.lst (r++l))) B=⇑(.lst F):=λx S T l g h3 U o=>by
   let⟨t,u⟩:=ab x pv;let y:=U.len;rw[N,t,cR]at ar;let y:=o _ _ k;refine⟨Nat.le_of_lt (aN ∅),?_,(Ym.same o).keep y aq.1 (aG A _ _),by rw[aJ C.symm];exact o _ _ w⟩;rw[N,t];exact (pv.same o).Km C y U
  let aw:¬ (p<=a/\e<=q)->∀ (y:List V) (W G:Hp),kY v A B (((bY c 0 d).take (i+1)).flatMap (kD p q)) (((bY c 0 d).take i).flatMap (tD p q)) W->W B=⇑(.lst F)->cI (dJ G) y (cQ (cE (kH (p-a) (q-a) 0 b)))->aH W G->↑F+↑y<=sizeLine/\kY v A B (((bY c 0 d).take (i+1)).flatMap (kD p q)) (((bY c 0 d).take (i+1)).flatMap (tD p q)) (aL G B (.lst (F++y))):=λx y W G c d X I=>by
   let⟨t,u⟩:=ab x pv;let i:=X.len;rw[O,u,cR]at av;refine⟨Nat.le_of_lt (aN ∅),?_⟩;rw[O,u];exact (c.same I).Kn C (I _ _ d) X
  let c:=jO 0 (p-a) b 0;let c:=jO (q-a) (e-a) b 0;let c:=jO (p-a) (q-a) b 0;refine⟨Y,Y,Z,Y,HJ (λz=>⟨Y,Y,Z,Y,z⟩) (λJ=>?_) (λJ=>?_)⟩
  ·exists Y,.inl ⟨1,_,bI.of w⟩,Y,B,Z,w,aN ∅,Q,Y;rw[N,O];let t:kD p q (f,b,a,e)=[]:=by unfold kD;rw[if_neg R,if_pos J]
   let u:tD p q (f,b,a,e)=[f]:=by unfold tD;rw[if_neg R,if_pos J]
   rw[t,u,gG];exact pv.Kn C w (.cons ag .nil)
  ·refine⟨Y,Y,Y,Y,Z,M,b,0,p-a,1,Ym,by lia,λS c f s3 d=>?_⟩;let⟨c,t,d⟩:=id f;let f:=d.len;refine⟨Y,Y,Y,Z,Y,Y,Z,M,b,q-a,e-a,1,Ym.same s3,by lia,λT g u o f=>?_⟩;let⟨f,v,i⟩:=id u;let u:=i.len;refine⟨S,T,Z,o _ _ t,v,(by rw[cC,cC];exact eO (aN ∅)),λt u=>?_⟩;let s5:aH g (aL g t (.lst (c.map V.ref++f.map V.ref))):=ak u _;refine⟨t,kH 0 (p-a) 0 b++kH (q-a) (e-a) 0 b,1,⟨c++f,by rw[af,gI],aY.append ((d.same o).same s5) (i.same s5)⟩,by rw[cR];lia,λq3 H6 c s6 d=>?_⟩;let⟨d,l,e3,h3,U⟩:=c;cases e3;let c:=s3.trans (o.trans (s5.trans s6));let⟨d,g2,e,g4⟩:=go J S q3 l H6 h3 U c;exists A,q3,Z,c _ _ k,h3,d;refine⟨Y,Y,Y,Y,Z,Y,Y,Z,M,b,p-a,q-a,1,e,by lia,λa G b I c=>⟨a,Y,b,by lia,λq5 H8 a s8 b=>?_⟩⟩;let⟨b,y,e4,h4,X⟩:=a;cases e4;let⟨a,b⟩:=aw J y _ H8 g2 g4 X (I.trans s8);exact⟨B,q5,Z,(I.trans s8) _ _ g4,h4,a,Q,Y,b⟩
 ·rintro L n ⟨u1,u2,u3,u4,rfl,pv⟩;let a:=Ri.len;rw[a,gP]at pv;let⟨r,k,t1⟩:=pv.a;let⟨F,w,t2⟩:=pv.b;let b:aH H n:=λj a m=>pv.k j a (s1 _ _ (s0 _ _ m)) (az m hA) (az m MX);refine⟨Y,Y,mJ,λt a=>am t A B _ af ?_ ?_ (b.trans (ak a _))⟩
  ·exact (BZ k t1).same (ak a _)
  ·exact (BZ w t2).same (ak a _)
class inductive Fx
 | mk (r:Addr) (c:cZ) (s a b:Int) (d:Y1) (_:vs=[↥r,.int s,.int a,.int b]) (_:n9 H r c d) (_:0<=s) (_:s<↑c) (_:RB a b ↑(d s)) (_:(∀ (f:UF) (q:Addr) (e:Hp),c[s.toNat]?=⇑f->bU e ↥q (aF (bT d a b f))->aH H e->H q=none->Q ↥q e))
theorem De:‹(4,32,["m","f","h","n"],Fx)›:=λD=>by
 specialize fP ["m","f","h","n","x"] D.Z9.F;let⟨r,F,s,p,q,c,rfl,R,e,i,n,t⟩:=h;let u:=gS hr;exists _,#v[aX 4 (aB D.OP (jA D) hr #[0,bK #[1]]),aW (aB D.Yi (gV D) hr #[gF u (pv 4) (pv 1),2,3]),bM (aV eE (pv 2) (pv 3) (bh _)) #v[aK (aB D.LP (iG D) hr #[aO bH (pv 0) (pv 1)])] bg,aK (aB D.LP (iG D) hr #[aO bf (aB D.WR (B3 D) hr #[aO bH (pv 0) (pv 1),4,2,3]) ay])]
 rfl'
 refine⟨Y,Y,mq,λL G=>?_⟩;let u:aH H (aL H L (.lst [.int s])):=ak G _;refine⟨r,L,F,[s],c,1,R.at_.same u,af,by simp,R.len,R.ents,R.snd,R.rk,(λx a=>by rw[List.mem_singleton.mp a];exact⟨e,i⟩),R.O2,R.bd,λS I M N v w J F j G U=>?_⟩;let x:=F s (by simp);let⟨F,M,N⟩:=w s x;let z:=gX.k (k:=Sum.inl s) v;rw[M]at z;let f:=u.trans G;let u:=R.bd s e i;let u:=lN (c s);let⟨b,u,G,O⟩:=(R.same f).one e i;refine⟨Y,Y,S,Y,z,Y,Y,F,cL (c s),p,q,1,N,by lia,by rw[O.tt];exact n,λu d=>?_⟩
 ·let⟨u,F,y,a⟩:=(R.same (f.trans d)).one e i;let T:b=u:=nQ (O.he.symm.trans a.he);subst T;let⟨B,g⟩:=mD b;refine⟨Y,Y,1,Y,dN (λi=>?_) (λi=>?_)⟩
  ·let l:p=q:=V.int.inj (of_decide_eq_true i);refine⟨Y,Y,r,Q,V,bI.of a.hr,a.ix,y,aF b,1,a.it,fX a.il (by decide),λo C u k m=>?_⟩;refine t b o C O.he ?_ (f.trans (d.trans k)) (aP (f.trans d) m);rw[ku _ g,B]at u;unfold bT;rw[if_pos l];exact u
  ·let l:¬ p=q:=λz=>i (by rw[z];exact decide_eq_true rfl);have u:p<q:=by have:=n.2.1;lia
   refine⟨Y,Y,r,Q,V,bI.of a.hr,a.ix,Y,Y,Y,y,S,p,q,aF b,I,c,1,a.it,d _ _ v,λn j=>?_,fX a.il (by decide),fX a.rl (by decide),λr L M C v y i k=>?_⟩
   ·let i:=qQ e O.he j;let⟨m,o⟩:=List.getElem?_of_mem x;let⟨x,g,R2⟩:=w n (wY (J.dn m s o n i));exact⟨x,g,R2.same d⟩
   let w:SD c (aF b):=λn j=>by
    let i:=qQ e O.he j;let⟨e,j⟩:=R.snd.DY i;exact nK R.snd R.rk R.O2 n e j
   let e:=xS c (aF b) 0 g w;let lk:gr ((bY c 0 (aF b)).flatMap (kD p q)):=uG λi j=>UW (e i j).1 (e i j).2;have e:=lO c (Io p q) (aF b) 0;have e:=a.il;have e:=a.rl;refine⟨r,Q,V,dI.of v,1,L,Y,y,by lia,λo e a i m=>?_⟩;refine t b o e O.he ?_ (f.trans (d.trans (k.trans i))) (aP (f.trans (d.trans k)) m);rw[ku _ lk,Dc c u _ _ g,B]at a;unfold bT;rw[if_neg l];exact a
def lD(a:Y1)(b c e:Int)(d:UF):UF:=if b=c then d else aE a e 0 (kE a b c 0 d)++tE a b c 0 d++bE a e 0 (kE a b c 0 d)
def Mv(a b c n:Int):Prop:=RB a b n/\0<=c/\c<=n-(b-a)
def Pb(a:Y1)(r:Row):bx a (cQ r)=r:=by
 unfold bx cQ;rw[List.flatMap_map]
 induction r with
 | nil=>rfl
 | cons p r b=>rw[jb,b];rfl
theorem B4(a:Y1)(b c:Int):∀ (d:List aT) (f:Int),↑(bx a ((bY a f d).flatMap (kD b c)))<=↑(bx a d)+↑(bx a d)
 | [],_=>by simp[bY,bx]
 | it::r,f=>by
  let g:=B4 a b c r (f+i7 (cX a it));let e:bx a (it::r)=cX a it++bx a r:=by unfold bx;rw[jb];rfl
  let g:↑(bx a (kD b c (it,cX a it,f,f+i7 (cX a it))))<=↑(cX a it)+↑(cX a it):=by
   unfold kD;split
   ·rw[jj];show ↑(cX a it)<=_;lia
   ·split
    ·simp[bx]
    ·rw[Pb];refine fX (iO _) ?_;rw[cR];have:=jO 0 (b-f) (cX a it) 0;have:=jO (c-f) (f+i7 (cX a it)-f) (cX a it) 0;simp only;lia
  rw[bY,jb,fk,cR,e,cR];lia
class inductive AE
 | mk (r:Addr) (c:cZ) (s a b d:Int) (e:Y1) (_:vs=[↥r,.int s,.int a,.int b,.int d]) (_:n9 H r c e) (_:0<=s) (_:s<↑c) (_:Mv a b d ↑(e s)) (_:(∀ (g:UF) (q:Addr) (f:Hp),c[s.toNat]?=⇑g->bU f ↥q (aF (lD e a b d g))->aH H f->H q=none->Q ↥q f))
def uR.mid{i:Int}(a:-300000<i)(b:i<300000):uR i:=by
 let c:(300000:Int)<10^60:=by decide
 exact⟨by lia,by lia⟩
theorem uR.Xo{i:Int}(h:-100000<i/\i<100000):uR i:=uR.mid ∅ ∅
theorem zA:‹(4,33,["m","f","h","n","to"],AE)›:=λD=>by
 specialize fP ["m","f","h","n","to","x","rest","left","taken"] D.hE.F;let⟨r,X,s,p,q,to,a,rfl,R,g,m,n,y⟩:=h;let B:=gS hr;exists _,#v[aX 5 (aB D.OP (jA D) hr #[0,bK #[1]]),aW (aB D.Yi (gV D) hr #[gF B (pv 5) (pv 1),2,3]),aX 6 (bz dc (_fC.um D.WI (D.T.m9 _ D.WI.m) (C4 D) hr #[gF B (pv 5) (pv 1)]) (bz dc (pv 3) (pv 2))),bM (jJ (pM gE gE ay (pv 4) (pv 6))) #v[ie] bg,bM (aV eE (pv 2) (pv 3) (bh _)) #v[aK (aB D.LP (iG D) hr #[aO bH (pv 0) (pv 1)])] bg,mZ (aB D.WR (B3 D) hr #[aO bH (pv 0) (pv 1),5,2,3]) (lU (n:=2) rfl (bR (bV 7) (bR (bV 8) gJ))),aK (aB D.WQ (uI D) hr #[7,5,4,8])]
 rfl'
 refine⟨Y,Y,mq,λL hL=>?_⟩;let B:aH H (aL H L (.lst [.int s])):=ak hL _;refine⟨r,L,X,[s],a,1,R.at_.same B,af,by simp,R.len,R.ents,R.snd,R.rk,(λx b=>by rw[List.mem_singleton.mp b];exact⟨g,m⟩),R.O2,R.bd,λS t ks H2 o C tp X f s2 ab=>?_⟩;let F:=X s (by simp);let⟨G,I,J⟩:=C s F;let z:=gX.k (k:=Sum.inl s) o;rw[I]at z;let i:=B.trans s2;let B:=R.bd s g m;let B:=lN (a s);let⟨b,B,X,O⟩:=(R.same i).one g m;refine⟨Y,Y,S,Y,z,Y,Y,G,cL (a s),p,q,1,J,by lia,by rw[O.tt];exact n.1,λB c=>?_⟩
 ·let hp:=n.1;let⟨B,X,u,d⟩:=(R.same (i.trans c)).one g m;let ee:b=B:=nQ (O.he.symm.trans d.he);subst ee;let⟨M,j⟩:=mD b;let m:=gX.k (k:=Sum.inl s) (c _ _ o);rw[I]at m;refine⟨Y,Y,S,Y,m,G,cL (a s),1,J.same c,by lia,λN e=>?_⟩;rw[O.tt];exists Y,Y,Z,Z;exists Y,Z,Y;rw[decide_eq_true n.2.1];refine dN (λ_=>?_) (λl=>absurd rfl l);exists Y,Z,Y;rw[decide_eq_true n.2.2];refine gx ?_;let T:bU N ↥u (aF b):=d.it.same e;let U:=e _ _ d.hr;refine⟨Y,Y,1,Y,dN (λl=>?_) (λl=>?_)⟩
  ·let v:p=q:=V.int.inj (of_decide_eq_true l);refine⟨Y,Y,r,Q,V,bI.of U,d.ix,u,aF b,1,T,fX d.il (by decide),λw W m k x=>?_⟩;refine y b w W O.he ?_ (i.trans (c.trans (e.trans k))) (aP (i.trans (c.trans e)) x);rw[ku _ j,M]at m;unfold lD;rw[if_pos v];exact m
  ·let v:¬ p=q:=λz=>l (by rw[z];exact decide_eq_true rfl);have z:p<q:=by have:=hp.2.1;lia
   let B:∀ n,aT.win n∈aF b->∃ l,cG t (Sum.inl n)=⇑↥l/\bP N l (cL (a n)):=λn f=>by
    let m:=qQ g O.he f;let⟨k,w⟩:=List.getElem?_of_mem F;let⟨l,j,R2⟩:=C n (wY (tp.dn k s w n m));exact⟨l,j,(R2.same c).same e⟩
   refine⟨Y,Y,r,Q,V,bI.of U,d.ix,Y,Y,Y,u,S,p,q,aF b,t,a,1,T,e _ _ (c _ _ o),B,fX d.il (by decide),fX d.rl (by decide),λC L F W G I J k=>?_⟩
   let u:SD a (aF b):=λn f=>by
    let m:=qQ g O.he f;let⟨g,r⟩:=R.snd.DY m;exact nK R.snd R.rk R.O2 n g r
   let r:=xS a (aF b) 0 j u;let lk:gr ((bY a 0 (aF b)).flatMap (kD p q)):=uG λg m=>UW (r g m).1 (r g m).2;have N:gr ((bY a 0 (aF b)).flatMap (tD p q)):=uG λg m=>qa (r g m).1 (r g m).2;have g:=lO a (Io p q) (aF b) 0;have g:=lO a (O9 p q) (aF b) 0;have g:=B4 a p q (aF b) 0;have g:=d.il;have g:=d.rl;exists C,Y,dI.of G,1,E,1,Z;refine⟨Y,Y,Y,Y,L,S,F,to,E,t,a,1,I,k _ _ (e _ _ (c _ _ o)),(λn f=>?_),J,lk,N,(λn f=>u n (Fw a f)),by lia,by lia,by lia,λw g d m x=>?_⟩
   ·let⟨l,o,R2⟩:=B n (Fw a f);exact⟨l,o,R2.same k⟩
   refine y b w g O.he ?_ (i.trans (c.trans (e.trans (k.trans m)))) (aP (i.trans (c.trans (e.trans k))) x);rw[Dc a z _ _ j,Ft a z _ _ j,M]at d;unfold lD;rw[if_neg v];exact d
class inductive SH
 | mk (r:Addr) (b:cZ) (s:Int) (c:Y1) (_:vs=[↥r,.int s]) (_:n9 H r b c) (_:0<=s) (_:s<↑b) (_ :
 ∀ (o:Addr) (a:Hp),bU a ↥o (aF (c s))->aH H a->H o=none->Q ↥o a)
theorem zB:‹(5,34,["m","f"],SH)›:=λD=>by
 specialize fP ["m","f"] D.hF.F;let⟨r,d,s,a,rfl,R,b,c,k⟩:=h;exists _,#v[aK (aB D.E8 (mC D) hr #[_fC.um D.OQ (D.T.qg _ D.OQ.m) (Fo D) hr #[0,1]])]
 rfl'
 let e:=R.bd s b c;let e:=lN (a s);refine⟨Y,Y,r,d,s,a,1,R.at_,R.len,R.ents,R.snd,R.rk,b,c,R.O2,R.bd,λo f e d g=>?_⟩;refine⟨o,cL (a s),1,e,by lia,λq e a f g=>k q e ?_ (d.trans f) (aP d g)⟩;rw[nC _ (j5 _),eT,Me (nK R.snd R.rk R.O2 s b c)]at a;exact a
abbrev kK(a:iK):HO:=.lst (a.map λw=>V.str (gc w))
abbrev QH:List (Str × Int):=[(Str.ofString "5",0),(Str.ofString "cut",3),(Str.ofString "move",4),(Str.ofString "quote",5),(Str.ofString "window",3),(Str.ofString "fix",1),(Str.ofString "back",2),(Str.ofString "fork",2),(Str.ofString "untie",1),(Str.ofString "read",1)]
abbrev Yp:List (Str × Int):=[(Str.ofString "put",2),(Str.ofString "strike",0),(Str.ofString "blot",1),(Str.ofString "lift",1)]
def kC(D:List (Str × Int))(n:List Nat):Option Int:=(D.find? λp=>decide (gc n=p.1)).map (·.2)
def zC{D:List (Str × Int)}{n:List Nat}{i:Int}(h:kC D n=⇑i):(D.find? λp=>decide (gc n=p.1))=⇑(gc n,i):=by
 unfold kC at h;let⟨⟨x,j⟩,e,rfl⟩:=Option.map_eq_some_iff.mp h;let z:=List.find?_some e;have:gc n=x:=of_decide_eq_true z;rw[e,this]
abbrev Fy:List Nat:=[116,105,101]
inductive jk where
 | vI (h:Int) (t:List Nat)
 | plain (n:List Nat) (a:UF)
 | oN (n:List Nat) (a:UF) (r:Row)
def jk.At(H:Hp)(p:Addr):jk->Prop
 | .vI h t=>H p=⇑(.tup [.str "pour",.int h,.str (gc t)])
 | .plain n ns=>H p=⇑(.tup (.str (gc n)::ns.map V.int))
 | .oN n ns r=>∃ q,H p=⇑(.tup (.str (gc n)::ns.map V.int++[↥q]))/\bP H q r
def jQ(n:Int):Prop:=0<=n/\n<10^60
def Ml(r:Row):Prop:=↑r<=150/\∀ p∈r,jQ p.1/\jQ p.2
def jk.Ok:jk->Prop
 | .vI h t=>jQ h/\↑t<=200
 | .plain n ns=>kC QH n=⇑(↑ns:Int)/\∀ x∈ns,jQ x
 | .oN n ns r=>kC Yp n=⇑(↑ns:Int)/\(∀ x∈ns,jQ x)/\Ml r
abbrev uJ(p:Int × Int):List Nat:=_iU.dg p.1++45::_iU.dg p.2
def Mm{p:Int × Int}(h:jQ p.1/\jQ p.2):↑(uJ p)<=121:=by
 rw[cR,jH];let a:=_iU.HQ h.1.1 h.1.2;let b:=_iU.HQ h.2.1 h.2.2;lia
def Df{n:Int}(h:jQ n):n.natAbs.log2<1920:=by
 let⟨a,b⟩:=h;by_cases z:n.natAbs=0
 ·rw[z];decide
 ·rw[Nat.log2_lt z];let a:n.natAbs<10^60:=by omega
  exact oU a (fX (show (10:Nat)^60<=2^200 by decide) (Nat.pow_le_pow_right (by decide) (by decide)))
inductive iI where
 | num (x:Int)
 | tx (t:List Nat)
 | row (r:Row)
def iI.At(H:Hp)(v:V):iI->Prop
 | .num x=>v=.int x
 | .tx t=>v=.str (gc t)
 | .row r=>∃ q,v=↥q/\bP H q r
def iI.Ok:iI->Prop
 | .num x=>jQ x
 | .tx t=>↑t<=200
 | .row r=>Ml r
abbrev Fz(r:Row):List Nat:=r.flatMap λp=>32::uJ p
def iI.line:iI->List Nat
 | .num x=>32::_iU.dg x
 | .tx t=>32::t
 | .row r=>Fz r
def Pc{r:Row}(h:Ml r):↑(Fz r)<=20000:=by
 let a:∀ l:Row,(∀ p∈l,jQ p.1/\jQ p.2)->↑(Fz l)<=122*↑l:=by
  intro l
  induction l with
  | nil=>intro _;exact d7 _
  | cons p l b =>
   intro g;let z:=b λq b=>g q (jT _ b);have b:=Mm (g p nP);show ↑((32::uJ p)++Fz l)<=_;rw[cR,jH,jH];lia
 have:=a r h.2;have:=h.1;lia
def iI.FA{p:iI}(h:p.Ok):↑p.line<=20000:=by
 cases p with
 | num x=>have:=_iU.HQ h.1 h.2;show ↑(32::_iU.dg x)<=_;rw[jH];lia
 | tx t=>let a:↑t<=200:=h;show ↑(32::t)<=_;rw[jH];lia
 | row r=>exact Pc h
def jk.nm:jk->List Nat
 | .vI _ _=>[112,111,117,114]
 | .plain n _=>n
 | .oN n _ _=>n
def jk.parts:jk->List iI
 | .vI h t=>[.num h,.tx t]
 | .plain _ ns=>ns.map .num
 | .oN _ ns r=>ns.map .num++[.row r]
def jk.line:jk->List Nat
 | d=>d.nm++d.parts.flatMap iI.line
def Pd{H:Hp}{p:Addr}{d:jk}(h:d.At H p):∃ b,H p=⇑(.tup (.str (gc d.nm)::b))/\cI (λv q=>iI.At H v q) b d.parts:=by
 let c:∀ a:List Int,cI (λv q=>iI.At H v q) (a.map V.int) (a.map iI.num):=λa=>by
  induction a with
  | nil=>exact .nil
  | cons x a e=>exact .cons rfl e
 cases d with
 | vI x t=>exact⟨_,by rw[h,show Str.ofString "pour"=gc [112,111,117,114] by decide +kernel];rfl,.cons rfl (.cons rfl .nil)⟩
 | plain n a=>exact⟨_,h,c a⟩
 | oN n a r =>
  let⟨q,e,z⟩:=h;exact⟨a.map V.int++[↥q],by rw[e];rfl,(c a).snoc ⟨q,1,z⟩⟩
def Mn{d:jk}(h:d.Ok):∀ q∈d.parts,q.Ok:=by
 cases d with
 | vI x t =>
  intro q a;rcases List.mem_cons.mp a with z|z
  ·rw[z];exact h.1
  ·rw[List.mem_singleton.mp z];exact h.2
 | plain n ns =>
  intro q a;let⟨x,b,rfl⟩:=List.mem_map.mp a;exact h.2 x b
 | oN n ns r =>
  intro q a;rcases List.mem_append.mp a with z|z
  ·let⟨x,b,rfl⟩:=List.mem_map.mp z;exact h.2.1 x b
  ·rw[List.mem_singleton.mp z];exact h.2.2
theorem FD{H:Hp}:∀ {a:List V} {b:List iI} {i:Nat} {v:V},cI (λv q=>iI.At H v q) a b->a[i]?=⇑v->∃ q,b[i]?=⇑q/\q.At H v
 | _,_,_,_,.nil,h=>by simp at h
 | _,_,0,_,.cons o t,h=>by
  let e:=nQ h;subst e;exact⟨Y,o⟩
 | _,_,i+1,_,.cons o t,h=>by
  let⟨q,e,z⟩:=FD (i:=i) t (by simpa using h);exact⟨q,by simpa using e,z⟩
def Ca{a:List iI}(h:∀ q∈a,q.Ok):↑(a.flatMap iI.line)<=20000*↑a:=by
 induction a with
 | nil=>exact ic _
 | cons p a b =>
  let z:=b λq b=>h q (jT _ b);have b:=iI.FA (h p nP);rw[jb,cR,jH,Nat.mul_add,Nat.mul_one];lia
def SI(n:List Nat):∀ a:iK,_iU.jn 32 (n::a)=n++a.flatMap (λw=>32::w):=by
 intro a
 induction a generalizing n with
 | nil=>show n=_;simp
 | cons w a b =>
  show n++32::_iU.jn 32 (w::a)=_;rw[b w,jb];simp
def FE{D:List (Str × Int)}{n:List Nat}{k:Int}(a:∀ p∈D,32∉p.1.cps.toList/\p.1.cps.toList≠[112,111,117,114]/\p.1.cps.toList≠Fy/\↑p.1.cps.toList<=10)(h:kC D n=⇑k):32∉n/\n≠[112,111,117,114]/\n≠Fy/\↑n<=10:=by
 let z:=a _ (List.mem_of_find?_eq_some (zC h));let e:(gc n).cps.toList=n:=_iU.uh n;rw[show ((gc n,k):Str × Int).1=gc n from rfl,e]at z;exact z
theorem Pe{n:List Nat}{k:Int}(h:kC QH n=⇑k):32∉n/\n≠[112,111,117,114]/\n≠Fy/\↑n<=10:=FE nofun h
theorem Pf{n:List Nat}{k:Int}(h:kC Yp n=⇑k):32∉n/\n≠[112,111,117,114]/\n≠Fy/\↑n<=10:=FE nofun h
def Pg(r:Row):Fz r=(r.map uJ).flatMap λw=>32::w:=by
 induction r with
 | nil=>rfl
 | cons x r a=>rw[jo,jb,← a];rfl
def jk.At.same{H a:Hp}{p:Addr}{d:jk}(h:d.At H p)(s:aH H a):d.At a p:=by
 cases d with
 | vI x t=>exact s _ _ h
 | plain n ns=>exact s _ _ h
 | oN n ns r=>let⟨q,e,b⟩:=h;exact⟨q,s _ _ e,b.same s⟩
def Mp{n:List Nat}{k:Int}(h:kC QH n=⇑k):k<=5:=by
 let z:∀ p∈QH,p.2<=5:=by decide +kernel
 exact z _ (List.mem_of_find?_eq_some (zC h))
def Mq{n:List Nat}{k:Int}(h:kC Yp n=⇑k):k<=5:=by
 let z:∀ p∈Yp,p.2<=5:=by decide +kernel
 exact z _ (List.mem_of_find?_eq_some (zC h))
def Ip{d:jk}(a:d.Ok):d.nm≠Fy/\↑d.nm<=10/\↑d.parts<=10:=by
 cases d with
 | vI x t=>exact⟨by show [112,111,117,114]≠Fy;decide,by show 4<=10;decide,by show 2<=10;decide⟩
 | plain n ns =>
  let⟨_,_,b,c⟩:=Pe a.1;have:=Mp a.1;exact⟨b,c,by show ↑(ns.map iI.num)<=10;rw[cC];lia⟩
 | oN n ns r =>
  let⟨_,_,b,c⟩:=Pf a.1;have:=Mq a.1;exact⟨b,c,by show ↑(ns.map iI.num++[iI.row r])<=10;rw[cR,cC];show ↑ns+1<=10;lia⟩
class inductive zD
 | mk (q:Addr) (r:Row) (_:vs=[↥q]) (_:bP H q r) (_:Ml r) (_: ∀ (a:Addr) (b:Hp),b a=⇑(kK (r.map uJ))->aH H b->H a=none->Q ↥a b)
def Ph{a b:Int}(c:0<=a)(d:0<=b):(Str.empty++Str.ofString (toString a)++Str.ofString "-"++Str.ofString (toString b))=gc (uJ (a,b)):=by
 rw[_iU.xQ c,_iU.xQ d,show Str.ofString "-"=gc [45] by decide +kernel,show Str.empty=gc [] from rfl,CP,CP,CP];simp
theorem Dg:‹(1,35,["k"],zD)›:=λD=>by
 specialize fP ["k"] D.Si.F;let⟨q,r,rfl,⟨i,e,m⟩,⟨u,o⟩,k⟩:=h;refine⟨_,#v[aK (iz (N:=["h","n"]) (kg (c:=cy su) (f:=["k"]) (d:=[none,none]) rfl rfl rfl nofun nofun rfl nofun rfl nofun) rfl (cK (pv 0)) (λ_ _ _ _ _ _=>(qJ (n:=2) rfl (bR (bV 0) (bR (bV 1) gJ)))) (λ_ _ _ _ _ _=>gK) (λ_ _ _ _ _ _=>(_iU.OD (_iU.J4 (pv 0) (_iU.RV (_iU.J4 (pv 1) _iU.RU))))))],?_⟩
 rfl'
 let p:=Paired.length m;refine⟨Y,q,1,⟨_,bI.of e⟩,λf g=>gA (K:=bZ) (h:=q) (a:=i.map V.ref) (λi c a=>∃ j l:Option V,c=[j,l]/\a f=⇑(kK ((r.take i).map uJ))/\aH H a) ⟨none,none,1,af,ak g _⟩ (by rintro i c a _ ⟨_,_,_,_,b⟩;exact bI.of (b _ _ e)) ?_ ?_⟩
 ·rintro i y c a n ⟨j,l,rfl,d,b⟩;rw[gj]at n;let⟨s,t,rfl⟩:=Option.map_eq_some_iff.mp n;let⟨n,i,r⟩:=m.get t;let e:=o n (mL i);let m:=(List.getElem?_eq_some_iff.mp i).1;exists s,Y,dI.of (b _ _ r),1,E,1,Z;refine⟨Y,Y,Df e.1,Y,Y,Df e.2,_,d,aN (by rw[cC,cC,gO];lia),E,1,?_,bN g b (aG f _ _)⟩;rw[af,take_snoc i,gI,jo,List.map_nil,Ph e.1.1 e.2.1];show some (HO.lst _)=⇑(HO.lst _);rw[gI];rfl
 ·rintro c a ⟨j,l,rfl,d,b⟩;rw[cC,p,gP]at d;exact k f a d b g
def iI.words:iI->iK
 | .num x=>[_iU.dg x]
 | .tx t=>[t]
 | .row r=>r.map uJ
def sU(a:List iI):(a.flatMap iI.words).flatMap (λw=>32::w)=a.flatMap iI.line:=by
 induction a with
 | nil=>rfl
 | cons p a b =>
  rw[jb,jb,List.flatMap_append,b];congr 1
  cases p with
  | num x=>show (32::_iU.dg x)++[]=32::_iU.dg x;rw[gG]
  | tx t=>show (32::t)++[]=32::t;rw[gG]
  | row r=>exact (Pg r).symm
class inductive Pj
 | mk (p:Addr) (d:jk) (_:vs=[↥p]) (_:d.At H p) (_:d.Ok) (_:d.nm≠Fy/\↑d.nm<=10/\↑d.parts<=10) (_: ∀ a,aH H a->Q (.str (gc d.line)) a)
def FF(W:iK):(W.map List.length).sum+↑W=↑(W.flatMap λw=>32::w):=by
 induction W with
 | nil=>rfl
 | cons x W a =>
  rw[jo,List.sum_cons,jH,jb,cR,jH,← a];lia
theorem Mr(a b:iK):(a.map λw=>V.str (gc w))++(b.map λw=>V.str (gc w))=(a++b).map λw=>V.str (gc w):=List.map_append.symm
theorem AF:‹(2,36,["T"],Pj)›:=λD=>by
 let l:bq c9 bw bZ cW cU cS 1 _ _ ["k"] zD:=Dg D;refine fP ["T","words","thing"] D.hG.F λdD A zn s H vs Q E hr _ h=>?_;let⟨p,d,rfl,R,S,T,U⟩:=h;refine⟨_,#v[bM (aV eE (aO bf (pv 0) ay) bC (bh _)) #v[aK (eX PySem.F.plainAttrs_str PySem.F.slot_str_join PySem.F.type_str_join _iU.E2 bC #[bz jf (bz jf (bz jf (bK #[bC]) (aB D.Si l hr #[aO bf (pv 0) ay])) (bK #[bC])) (aB D.Si l hr #[aO bf (pv 0) ay])])] bg,aX 1 (bK #[aO bf (pv 0) ay]),eZ PassesOwn.never rfl (Vw (iW VF (pv 0) (i6 ay) mQ)) (bV 2) #v[rX (i:=1) (by assumption) rfl (Or.inl rfl) (Nb (lT (b8 eS rfl D.T.dO wW #[2,oJ rfl D.T.jz tK])) (aB D.Si l hr #[2]) (bK #[_Au.ZE (pv 2)])) vq],aK (eX PySem.F.plainAttrs_str PySem.F.slot_str_join PySem.F.type_str_join _iU.E2 bC #[1])],?_⟩
 rfl'
 let tt:Str.ofString "tie"=gc Fy:=by decide +kernel
 let W:kitOne bZ (.type "int") (.type "g")=⇑false:=by kernel_rfl
 let X:kitOne bZ (.type "str") (.type "g")=⇑false:=by kernel_rfl
 let⟨vs,m,F⟩:=Pd R;let⟨n1,l,R⟩:=T;let w:=Mn S;let lv:=F.len;let ln:d.line=d.nm++d.parts.flatMap iI.line:=rfl;exists Y,p,Q,V,dI.of m,sQ;refine⟨1,Y,dN (λc=>absurd (of_decide_eq_true c) (by rw[tt];intro z;exact n1 (RT (V.str.inj z)))) (λ_=>?_)⟩;refine⟨Y,p,Q,V,dI.of m,sQ,mq,λa G=>?_⟩;let s0:=ak G (.lst [.str (gc d.nm)]);let I:(aL H a (.lst [.str (gc d.nm)])) a=⇑(kK [d.nm]):=af;refine⟨Y,Y,p,Y,dI.of (s0 _ _ m),?_,λc n=>?_⟩
 ·rintro⟨z,_⟩;let e:_HT.iZ ↑(V.str (gc d.nm)::vs) 0 (some 1)=min 1 ↑(V.str (gc d.nm)::vs):=_HT.JA _ _ 1;let b:_HT.iZ ↑(V.str (gc d.nm)::vs) 0 (some 1)=0:=z;rw[e,jH]at b;lia
 let ec:j0 (V.str (gc d.nm)::vs) (some 1) none=vs:=by
  unfold j0;let e:_HT.iZ ↑(V.str (gc d.nm)::vs) 0 (some 1)=1:=(_HT.JA _ _ 1).trans (by rw[jH];lia);let b:_HT.iZ ↑(V.str (gc d.nm)::vs) ↑(V.str (gc d.nm)::vs) none=↑vs+1:=rfl;rw[e,b];show vs.take (↑vs+1-1)=vs;exact pC ∅
 rw[ec];change (aL H a (.lst [.str (gc d.nm)])) c=none at n;let l:=ak n (.tup vs);let y:(aL (aL H a (.lst [.str (gc d.nm)])) c (.tup vs)) c=⇑(.tup vs):=af;let J:=l _ _ I;let L:=s0.trans l;let ab:a≠c:=az I n;generalize aL (aL H a (.lst [.str (gc d.nm)])) c (.tup vs)=l at L y J;refine⟨c,1,⟨_,dI.of y⟩,QW (K:=bZ) (e:=c) (b:=vs) (λi r e=>∃ u:Option V,r=[⇑↥p,⇑↥a,u]/\e a=⇑(kK (d.nm::(d.parts.take i).flatMap iI.words))/\e c=⇑(.tup vs)/\aH H e) ⟨none,1,by rw[List.take_zero,List.flatMap_nil];exact J,y,L⟩ (by rintro i r e _ ⟨_,_,_,g,_⟩;exact dI.of g) ?_ ?_⟩
 ·rintro i M r e hi ⟨u,rfl,g,N,v⟩;let⟨q,l,k⟩:=FD F hi;let j:=w q (mL l);let m:=iI.FA j;let fl:=Ca (a:=d.parts.take i) λq k=>w q (wY k);have m:↑(d.parts.take i)<=10:=by rw[gO];lia
  let z:=FF ((d.parts.take i).flatMap iI.words);rw[sU]at z
  let nx:d.nm::(d.parts.take (i+1)).flatMap iI.words=(d.nm::(d.parts.take i).flatMap iI.words)++q.words:=by
   rw[take_snoc l,List.flatMap_append,jb,List.flatMap_nil,gG,List.cons_append]
  let l:↑(d.nm::(d.parts.take i).flatMap iI.words)<=250000:=by rw[jH];lia
  let l:↑q.words<=150:=by
   cases q with
   | num x=>show 1<=150;decide
   | tx t=>show 1<=150;decide
   | row x=>show ↑(x.map uJ)<=150;rw[cC];exact j.1
  let B:∀ (t:Addr) (b:Hp) (y:V),aH e b->e t=none->b t=⇑(kK q.words)->∃ (l F:Addr) (m n:List V),V.ref a=↥l/\V.ref t=↥F/\b l=⇑(.lst m)/\b F=⇑(.lst n)/\↑m+↑n<=sizeLine/\∃ u:Option V,([⇑↥p,⇑↥a,⇑y]:List (Option V)).set 1 (⇑↥l)=[⇑↥p,⇑↥a,u]/\(aL b l (.lst (m++n))) a=⇑(kK (d.nm::(d.parts.take (i+1)).flatMap iI.words))/\(aL b l (.lst (m++n))) c=⇑(.tup vs)/\aH H (aL b l (.lst (m++n))):=by
   intro t b y o f C;exists a,t,Z,o _ _ g,C,eO (aN (by rw[cC,cC];lia)),Y,?_,?_
   ·rw[Mr,af,nx]
   ·rw[aJ ab.symm];exact o _ _ N
   ·exact bN G (v.trans o) (aG a _ _)
  cases q with
  | num x =>
   cases (show M=.int x from k);refine⟨Y,Y,_,"g",E,1,.int x,W,Y,gx ⟨Y,.inl ⟨x,1,Df j,?_⟩⟩⟩;rw[_iU.xQ j.1];exact⟨mq,λt f=>B t _ (.int x) (ak f _) f af⟩
  | tx t =>
   cases (show M=.str (gc t) from k);let c:↑t<=200:=j;refine⟨Y,Y,_,"g",E,1,.str _,X,Y,gx ⟨Y,.inr ⟨t,1,by lia,?_⟩⟩⟩;exact⟨mq,λc f=>B c _ (.str (gc t)) (ak f _) f af⟩
  | row x =>
   let⟨O,rfl,hr⟩:=k;let c:=hr.same v;let⟨k,i,_⟩:=id c;refine⟨Y,Y,_,"g",E,1,.lst i,Zp bZ,Y,iX ?_⟩;exact⟨Y,O,x,1,c,j,λt b C o f=>B t b ↥O o f C⟩
 ·rintro r e ⟨u,rfl,g,N,v⟩;rw[lv,gP]at g;let z:=FF (d.parts.flatMap iI.words);rw[sU]at z;let fl:=Ca (a:=d.parts) w;exists 1,Y,a,32,_,by rw[show Str.ofString " "=⟨(List.toArray [32])⟩ by decide +kernel],1,g,?_
  ·rw[jo,List.sum_cons,jH];lia
  rw[SI,sU,← ln];exact U e v
structure kk(S:Yf)(H:Hp)(st op r:Addr)(aM:List aT):Prop where
 own:S r
 ne:r≠st/\r≠op
 at':bU H ↥r aM
def Iq(b:Yf)(H:Hp)(c d a:Addr)(f:List (List aT)):Prop:=b a/\a≠c/\a≠d/\∃ e:List Addr,H a=⇑(.lst (e.map V.ref))/\cI (kk b H c d) e f
abbrev lE:=List (List (List aT))
structure eD(bL:lE)(ops:UF):Prop where
 Cb:∃ last,bL.getLast?=⇑last/\↑ops=↑last
 fit:∀ (s:Nat) (o:Int),ops[s]?=⇑o->0<=o/\o<↑bL/\∀ (m:Nat) (rows:List (List aT)),bL[m]?=⇑rows->(o<=m↔s<↑rows)
 less:∀ (m:Nat) (rows:List (List aT)),bL[m]?=⇑rows->↑rows<=↑ops
structure Sh(C:Addr)(S:Yf)(H:Hp)(x d st op:Addr)(bL:lE)(ops:UF):Prop where
 sx:S x
 ss:S st
 so:S op
 al:∀ a,S a->∃ ob,H a=⇑ob
 hx:H x=⇑(.ins C d [("A",↥st),("w",↥op)])
 hs:∃ as:List Addr,H st=⇑(.lst (as.map V.ref))/\cI (Iq S H st op) as bL
 ho:H op=⇑(.lst (ops.map V.int))
 ne:st≠op
 QI:eD bL ops
def bU.fr{H b:Hp}{r:Addr}{d:List aT}(h:bU H ↥r d)(k:∀ a,H r=⇑(.lst a)->b r=⇑(.lst a))(t:∀ c a,H c=⇑(.tup a)->b c=⇑(.tup a)):bU b ↥r d:=by
 let⟨c,f,e,g,i⟩:=h;cases e;exact⟨r,f,1,k _ g,i.mono λv i ⟨f,e,g⟩=>⟨f,e,t _ _ g⟩⟩
def Iq.fr{b f:Yf}{H c:Hp}{d a:Addr}{g:List (List aT)}(o:Iq b H d h a g)(i:∀ a,b a->f a)(k:∀ a j,H a=⇑j->b a->a≠d->a≠h->c a=⇑j)(t:∀ a e,H a=⇑(.tup e)->c a=⇑(.tup e)):Iq f c d h a g:=by
 let⟨l,m,n,p,q,r⟩:=o;exact⟨i _ l,m,n,p,k _ _ q l m n,r.mono λr l q=>⟨i _ q.own,q.ne,q.at'.fr (λe l=>k _ _ l q.own q.ne.1 q.ne.2) t⟩⟩
def Sh.fr{c:Yf}{H d:Hp}{x f g:Addr}{h:lE}{i:UF}(l:Sh C c H x f g m h i)(k:∀ a b,H a=⇑b->c a->d a=⇑b)(t:∀ a j,H a=⇑(.tup j)->d a=⇑(.tup j)):Sh C c d x f g m h i:=by
 let⟨sx,ss,so,al,hx,⟨e,hs,n⟩,ho,ne,QI⟩:=l;refine⟨sx,ss,so,λa z=>?_,k _ _ hx sx,⟨e,k _ _ hs ss,n.mono λa e q=>q.fr (λ_ z=>z) (λa b e z _ _=>k _ _ e z) t⟩,k _ _ ho so,ne,QI⟩;let⟨b,e⟩:=al a z;exact⟨b,k _ _ e z⟩
theorem Sh.same{a:Yf}{H b:Hp}{x d c:Addr}{f:lE}{g:UF}(i:Sh C a H x d c j f g)(k:aH H b):Sh C a b x d c j f g:=i.fr (λh l e _=>k h l e) (λh h e=>k _ _ e)
theorem Sh.keep{a:Yf}{H b:Hp}{x d c l:Addr}{f:lE}{g:UF}{i:List V}(j:Sh C a H x d c m f g)(n:H l=⇑(.lst i))(o:¬ a l)(k:cB l H b):Sh C a b x d c m f g :=
 j.fr (λh p e z=>k h p e (λq=>o (by rw[← q];exact z))) (λh h e=>k _ _ e (cP e n))
theorem zE:∀ {c d:UV},c.map V.ref=d.map V.ref->c=d
 | [],[],_=>rfl
 | [],_::_,h=>by cases h
 | _::_,[],h=>by cases h
 | a::c,b::d,h=>by
  rw[jo,jo]at h;injection h with e f;cases e;rw[zE f]
def Sh.last{i:Yf}{H:Hp}{x l f:Addr}{a:lE}{m:UF}(j:Sh C i H x l f n a m){g:UV}(o:H f=⇑(.lst (g.map V.ref))):∃ h b,g=h++[b]/\∀ last,a.getLast?=⇑last->Iq i H f n b last:=by
 let⟨p,k,q⟩:=j.hs
 let e:g=p:=by
  rw[o]at k;have:=HO.lst.inj (nQ k);exact zE this
 subst e;let⟨last,c,_⟩:=j.QI.Cb
 obtain⟨d,rfl⟩:∃ d,a=d++[last]:=by
  rcases kZ a with rfl|⟨d,r,rfl⟩
  ·cases c
  ·rw[jI,lS]at c;cases c;exact⟨d,jI⟩
 let⟨h,b,rfl,_,s⟩:=q.split;refine⟨h,b,1,λr e=>?_⟩;rw[c]at e;cases e;exact s
def sW(a:List V){p:Int}(h:0<=p):j0 a none (⇑p)=a.take p.toNat:=by
 unfold j0;let b:_HT.iZ ↑a 0 none=0:=rfl
 let c:_HT.iZ ↑a ↑a (⇑p)=min p.toNat ↑a:=by
  show (if p<0 then (p+(↑a:Int)).toNat else min p.toNat ↑a)=_;rw[if_neg ∅]
 rw[b,c,List.drop_zero,Nat.sub_zero];rcases Nat.le_total p.toNat ↑a with z|z
 ·rw[Nat.min_eq_left z]
 ·rw[Nat.min_eq_right z,pC (d7 _),pC z]
def vJ(a:List V){p:Int}(h:0<=p):j0 a (⇑p) none=a.drop p.toNat:=by
 unfold j0;let b:_HT.iZ ↑a ↑a none=↑a:=rfl
 let c:_HT.iZ ↑a 0 (⇑p)=min p.toNat ↑a:=by
  show (if p<0 then (p+(↑a:Int)).toNat else min p.toNat ↑a)=_;rw[if_neg ∅]
 rw[b,c];rcases Nat.le_total p.toNat ↑a with z|z
 ·rw[Nat.min_eq_left z,pC (by rw[pD];lia)]
 ·rw[Nat.min_eq_right z,wX (d7 _),wX z];simp
class inductive Ms
 | mk (a r:Addr) (b:List V) (s:Nat) (_:vs=[↥a,.int (s:Nat),↥r]) (_:H a=⇑(.lst b)) (_:s<=↑b) (_:↑b<=1000) (_: ∀ (p:Addr) (c:Hp),c p=⇑(.lst (b.take s++[↥r]++b.drop (s+1)))->aH H c->H p=none->Q ↥p c)
class inductive SJ(C:Addr)
 | mk (x e:Addr) (_:vs=[↥x]) (_:H x=⇑(.ins C e [])) (_: ∀ (b c z:Addr) (d:Hp),Sh C (λa=>a=x\/a=b\/a=c\/a=z) d x e b c [[]] []->cB x H d->H b=none->H c=none->H z=none->Q .gi d)
class inductive qi(C:Addr)
 | mk (x d a c:Addr) (b:List V) (_:vs=[↥x]) (_:H x=⇑(.ins C d [("A",↥a),("w",↥c)])) (_:H a=⇑(.lst b)) (_:Q (.int ((↑b:Nat)-1)) H)
class inductive Xp(C:Addr)
 | mk (b:Yf) (x d c e:Addr) (f:lE) (a:UF) (_:vs=[↥x]) (_:Sh C b H x d c e f a) (_:Q (.int (↑a:Nat)) H)
theorem zF:‹(1,37,["state","f","j"],Ms)›:=λD=>by
 specialize fP ["state","f","j"] D.WS.F;let⟨j,r,a,s0,rfl,k,n,x,w⟩:=h;exists _,#v[bM (jJ (pM gE gE ay (pv 1) (gf D.T.fJ (pv 0)))) #v[ie] bg,aK (bz jf (bz jf (iW lg (pv 0) mQ (i6 (pv 1))) (bK #[2])) (iW lg (pv 0) (i6 (bz dY (pv 1) ay)) mQ))]
 rfl'
 refine⟨Y,Z,Y,dN (λn=>?_) (λn=>absurd (decide_eq_true ∅) n)⟩;exists Y,j,Y,.inl (bI.of k),Z,Y;rw[decide_eq_true (show ((s0:Nat):Int)<=((↑a:Nat):Int) by lia)];refine gx ?_;refine⟨Y,Y,Y,j,Y,bI.of k,λb n=>?_⟩;rw[sW _ ∅,Int.toNat_natCast];let o:aH H (aL H b (.lst (a.take s0))):=ak n _;let p:(aL H b (.lst (a.take s0))) b=⇑(.lst (a.take s0)):=af;generalize aL H b (.lst (a.take s0))=f at o p;refine⟨Y,mq,λc n=>?_⟩;let l:aH f (aL f c (.lst [↥r])):=ak n _;let q:(aL f c (.lst [↥r])) c=⇑(.lst [↥r]):=af;generalize aL f c (.lst [↥r])=g at l q;refine⟨b,c,Z,l _ _ p,q,(by rw[gO];exact eO (aN (by simp only[gW];lia))),λd b=>?_⟩;let s:aH g (aL g d (.lst (a.take s0++[↥r]))):=ak b _;let t:(aL g d (.lst (a.take s0++[↥r]))) d=⇑(.lst (a.take s0++[↥r])):=af;generalize aL g d (.lst (a.take s0++[↥r]))=i at s t;let u:=o.trans (l.trans s);refine⟨Y,Y,Z,Y,j,Y,bI.of (u _ _ k),λe b=>?_⟩;rw[vJ _ ∅,show (((s0:Nat):Int)+1).toNat=s0+1 by lia];let m:aH i (aL i e (.lst (a.drop (s0+1)))):=ak b _;let v:(aL i e (.lst (a.drop (s0+1)))) e=⇑(.lst (a.drop (s0+1))):=af;generalize aL i e (.lst (a.drop (s0+1)))=a at m v;refine⟨d,e,Z,m _ _ t,v,(by rw[cR,gO,pD];exact eO (aN (by simp only[gW];lia))),λc a=>?_⟩;let b:=u.trans m;exact w c _ af (b.trans (ak a _)) (aP b a)
theorem uK:‹(1,38,["c"],(SJ cO))›:=λD=>by
 specialize fP ["c"] D.hH.F;let⟨x,d,rfl,n,F⟩:=h;exists _,#v[iT (pv 0) (bK #[bK ah]) rfl,iT (pv 0) (bK ah) rfl]
 rfl'
 refine⟨iD,λz o=>?_⟩;let i:aH H (aL H z (.lst [])):=ak o _;let p:(aL H z (.lst [])) z=⇑(.lst []):=af;generalize aL H z (.lst [])=j at i p;refine⟨mq,λa k=>?_⟩;let q:aH j (aL j a (.lst [↥z])):=ak k _;let y:(aL j a (.lst [↥z])) a=⇑(.lst [↥z]):=af;generalize aL j a (.lst [↥z])=l at q y;let r:=i.trans q;refine⟨Y,x,cO,d,Y,r _ _ n,D.cV.cl,D.ly,by decide,?_⟩;let g:cB x l (aL l x (.ins cO d (_L2.eV "A" ↥a []))):=aG x _ _;let s:(aL l x (.ins cO d (_L2.eV "A" ↥a []))) x=⇑(.ins cO d [("A",↥a)]):=af;generalize aL l x (.ins cO d (_L2.eV "A" ↥a []))=f at g s;let j:a≠x:=(az (i _ _ n) k).symm;let l:z≠x:=(az n o).symm;let G:z≠a:=az p k;let n:=g _ _ y j;let y:=g _ _ (q _ _ p) l;refine⟨iD,λb c=>?_⟩;let B:b≠x:=(az s c).symm;let I:a≠b:=az n c;let J:z≠b:=az y c;refine⟨Y,x,cO,d,Y,ak c _ _ _ s,D.cV.cl,D.nB,(by show 1<1000;decide),?_⟩
 let C:cB x H (aL (aL f b (.lst [])) x (.ins cO d (_L2.eV "w" ↥b [("A",↥a)]))):=λL q e p=>by
  rw[aJ p];exact ak c _ _ _ (g _ _ (r _ _ e) p)
 let t:(aL (aL f b (.lst [])) x (.ins cO d (_L2.eV "w" ↥b [("A",↥a)]))) z=⇑(.lst []):=by rw[aJ l];exact ak c _ _ _ y
 let u:(aL (aL f b (.lst [])) x (.ins cO d (_L2.eV "w" ↥b [("A",↥a)]))) a=⇑(.lst [↥z]):=by rw[aJ j];exact ak c _ _ _ n
 let v:(aL (aL f b (.lst [])) x (.ins cO d (_L2.eV "w" ↥b [("A",↥a)]))) b=⇑(.lst []):=by rw[aJ B];exact af
 let w:(aL (aL f b (.lst [])) x (.ins cO d (_L2.eV "w" ↥b [("A",↥a)]))) x=⇑(.ins cO d [("A",↥a),("w",↥b)]):=af;generalize aL (aL f b (.lst [])) x (.ins cO d (_L2.eV "w" ↥b [("A",↥a)]))=d at C t u v w
 refine F a b z _ ⟨.inl rfl,.inr (.inl rfl),.inr (.inr (.inl rfl)),λL bw=>?_,w,⟨[z],u,.cons ⟨.inr (.inr (.inr rfl)),G,J,[],t,.nil⟩ .nil⟩,v,I,⟨⟨[],V⟩,λs0 a e=>(by cases s0 <;> cases e),λm a e=>?_⟩⟩ C (aP i k) ?_ o
 ·rcases bw with rfl|rfl|rfl|rfl
  ·exact⟨_,w⟩
  ·exact⟨_,u⟩
  ·exact⟨_,v⟩
  ·exact⟨_,t⟩
 ·match m,e with
  | 0,e=>cases e;exact d7 _
  | m+1,e=>cases e
 ·exact aP r (iN g B c)
theorem oj:‹(1,39,["c"],(qi cO))›:=λD=>by
 specialize fP ["c"] D.Sj.F;let⟨x,d,a,e,f,rfl,b,c,k⟩:=h;exists _,#v[aK (bz dc (gf D.T.fJ (dh (pv 0) rfl)) ay)]
 rfl'
 exact⟨Y,x,cO,d,_,↥a,1,b,D.cV.cl,D.ly,1,a,Y,.inl (bI.of c),Z,k⟩
theorem rS:‹(1,40,["c"],(Xp cO))›:=λD=>by
 specialize fP ["c"] D.WT.F;let⟨S,x,d,a,i,j,l,rfl,W,k⟩:=h;let⟨i,b,j⟩:=W.hs;let⟨e,f,g⟩:=W.QI.Cb;exists _,#v[aK (gf D.T.fJ (aO bH (dh (pv 0) rfl) (iS gm ay)))]
 rfl'
 let⟨m,c,rfl,r⟩:=W.last b;refine⟨Y,x,cO,d,_,↥a,1,W.hx,D.cV.cl,D.ly,1,Y,a,E,↥c,V,bI.of b,(by rw[gI];exact gT _ _),?_⟩;let⟨_,_,_,d,a,b⟩:=r e f;exists c,Y,.inl (bI.of a);rw[cC,b.len,← g];exact k
def b'(b:List (List aT))(a:Nat × List aT):List (List aT):=b.take a.1++[a.2]++b.drop (a.1+1)
def ng(a:List (List aT))(b:List (Nat × List aT)):List (List aT):=b.foldl b' a
def Xr(c:List (List aT))(a:List (Nat × List aT)):Prop:=∀ (i:Nat) (b:Nat × List aT),a[i]?=⇑b->b.1<=↑(ng c (a.take i))
def SK{a:List (List aT)}{b:Nat × List aT}(h:b.1<=↑a):↑a<=↑(b' a b)/\↑(b' a b)<=↑a+1:=by
 unfold b';rw[cR,cR,gO,pD];simp only[gW];omega
def Cc{b:List (List aT)}{a:List (Nat × List aT)}{i:Nat}{c:Nat × List aT}(h:a[i]?=⇑c):ng b (a.take (i+1))=b' (ng b (a.take i)) c:=by
 unfold ng;rw[take_snoc h,List.foldl_append];rfl
theorem zG{b:List (List aT)}{a:List (Nat × List aT)}(c:Xr b a):∀ i,i<=↑a->↑b<=↑(ng b (a.take i))/\↑(ng b (a.take i))<=↑b+i
 | 0,_=>⟨Nat.le_refl _,d7 _⟩
 | i+1,h=>by
  let e:a[i]?=⇑a[i]:=nh ∅;let d:=zG c i ∅;let d:=SK (c i _ e);rw[Cc e];lia
def eD.step{a:lE}{d:UF}{f b:List (List aT)}(i:eD a d)(j:a.getLast?=⇑f)(n:↑f<=↑b):eD (a++[b]) (d++List.replicate (↑b-↑f) ((↑a:Nat):Int)):=by
 let⟨⟨o,h,p⟩,fit,less⟩:=i;rw[j]at h;cases h
 let get:∀ (m:Nat) (r:List (List aT)),(a++[b])[m]?=⇑r->a[m]?=⇑r/\m<↑a\/m=↑a/\r=b:=λm r e=>by
  by_cases c:m<↑a
  ·rw[Cn c]at e;exact .inl ⟨e,c⟩
  ·rw[uT ∅]at e
   match g:m-↑a,e with
   | 0,e=>cases e;exact .inr ⟨by lia,1⟩
   | k+1,e=>cases e
 refine⟨⟨b,lS,by rw[cR,uU];lia⟩,λs o e=>?_,λm r e=>?_⟩
 ·by_cases c:s<↑d
  ·rw[Cn c]at e;let⟨c,h,l⟩:=fit s o e;refine⟨c,by rw[cR];simp only[gW];lia,λm r g=>?_⟩;rcases get m r g with ⟨q,_⟩|⟨rfl,rfl⟩
   ·exact l m r q
   ·constructor
    ·intro _;lia
    ·intro _;lia
  ·rw[uT ∅,List.getElem?_replicate]at e;split at e
   ·cases e;refine⟨by lia,by rw[cR];simp only[gW];lia,λm r g=>?_⟩;rcases get m r g with ⟨q,l⟩|⟨rfl,rfl⟩
    ·have:=less m r q;constructor
     ·intro z;lia
     ·intro z;lia
    ·constructor
     ·intro _;omega
     ·intro _;lia
   ·cases e
 ·rw[cR,uU];rcases get m r e with ⟨q,_⟩|⟨rfl,rfl⟩
  ·have:=less m r q;lia
  ·lia
theorem cI.take{a b:Type}{c:a->b->Prop}:∀ {d:List a} {bs:List b} (n:Nat),cI c d bs->cI c (d.take n) (bs.take n)
 | _,_,0,_=>by rw[List.take_zero,List.take_zero];exact .nil
 | _,_,n+1,.nil=>.nil
 | _,_,n+1,.cons e r=>.cons e (r.take n)
theorem cI.drop{a b:Type}{c:a->b->Prop}:∀ {d:List a} {bs:List b} (n:Nat),cI c d bs->cI c (d.drop n) (bs.drop n)
 | _,_,0,h=>h
 | _,_,n+1,.nil=>.nil
 | _,_,n+1,.cons _ r=>r.drop n
theorem FG(v:V):∀ n:Nat,(List.replicate n [v]).flatten=List.replicate n v
 | 0=>rfl
 | n+1=>by rw[List.replicate_succ,List.flatten_cons,FG v n,List.replicate_succ];rfl
def SM{H:Hp}{a:Addr}{b:HO}(h:H a=⇑b):aL H a b=H:=by
 funext c;by_cases e:c=a
 ·rw[e,af,h]
 ·rw[aJ e]
def Ir(H:Hp)(b:Addr)(a:Nat × List aT):Prop:=∃ r:Addr,H b=⇑(.tup [.int (a.1:Nat),↥r])/\bU H ↥r a.2
theorem Ir.same{H a:Hp}{b:Addr}{c:Nat × List aT}(s:aH H a):Ir H b c->Ir a b c:=λ⟨r,d,e⟩=>⟨r,s _ _ d,e.same s⟩
class inductive Pn(C:Addr)
 | mk (f:Yf) (x g h i j:Addr) (c:lE) (k:UF) (l:UV) (d:List (Nat × List aT)) (b:List (List aT)) (_:vs=[↥x,↥j]) (_:Sh C f H x g h i c k) (_:H j=⇑(.lst (l.map V.ref))) (_:cI (Ir H) l d) (_:c.getLast?=⇑b) (_:Xr b d) (_:↑d<=200) (_:↑b<=500) (_:↑c<=1000) (_ :
 ∀ (m:Yf) (e:Hp),Sh C m e x g h i (c++[ng b d]) (k++List.replicate (↑(ng b d)-↑b) ((↑c:Nat):Int))->(∀ a,m a->f a\/H a=none)->(∀ a n,H a=⇑n->¬ f a->e a=⇑n)->(∀ a o,H a=⇑(.tup o)->e a=⇑(.tup o))->Q .gi e)
theorem AG:‹(2,41,["c","Z"],(Pn cO))›:=λD=>by
 specialize fP ["c","Z","state","ahead","f","j"] D.hJ.F;let⟨ab,x,o,a,b,ae,d,p,cs,m,g,rfl,W,hc,a2,G,ag,lc,ll,lp,ax⟩:=h;exists _,#v[aX 2 (aO bH (dh (pv 0) rfl) (iS gm ay)),aX 3 (gf D.T.fJ (pv 2)),eZ PassesOwn.never rfl (cK (pv 1)) (lU (n:=2) rfl (bR (bV 4) (bR (bV 5) gJ))) #v[aX 2 (aB D.WS (zF D) hr #[2,4,fY gR rfl D.T.jz tK #[5]])],aW (eX o7 jW jX b9 (dh (pv 0) rfl) #[2]),u9 (pv 0) (bz NH (bK #[gC (pv 0) D.cV D.Sj (oj D) hr bO]) (bz dc (gf D.T.fJ (pv 2)) (pv 3))) HH]
 rfl'
 let⟨n,I,al⟩:=id W.hs;let⟨QD,J,ea,am⟩:=W.last I;let⟨Sa,a5,a6,rs,ha,ar⟩:=am g G;let aA:=al.len;refine⟨Y,x,cO,o,_,↥a,1,W.hx,D.cV.cl,D.ly,1,Y,a,E,↥J,V,bI.of I,(by rw[ea,gI];exact gT _ _),?_⟩;exists Y,J,Y,.inl (bI.of ha);rw[cC,ar.len];let Ct:∀ q,H q=none->q≠a/\q≠b:=λq L=>⟨λz=>(by rw[z,I]at L;cases L),λz=>(by rw[z,W.ho]at L;cases L)⟩;refine⟨Y,ae,1,⟨_,bI.of hc⟩,ef (K:=bZ) (e:=ae) (b:=cs.map V.ref) (λk M c=>∃ (u4 u5:Option V) (l:Yf) (f:Addr),M=[⇑↥x,⇑↥ae,⇑↥f,⇑(.int (↑g:Nat)),u4,u5]/\aH H c/\(∀ q,ab q->l q)/\(∀ q,l q->ab q\/H q=none)/\(∀ q,l q->∃ i,c q=⇑i)/\Iq l c a b f (ng g (m.take k))) ⟨none,none,ab,J,1,aH.refl _,λ_ z=>z,λ_ z=>.inl z,W.al,am g G⟩ (by rintro k M c _ ⟨_,_,_,_,_,s0,_⟩;exact bI.of (s0 _ _ hc)) ?_ ?_⟩
 ·rintro k a4 M c U ⟨u4,u5,l,f,rfl,j,t,an,ao,y⟩;rw[gj]at U;let⟨aU,et,rfl⟩:=Option.map_eq_some_iff.mp U;let⟨s,S,q⟩:=a2.get et;let L:=(List.getElem?_eq_some_iff.mp S).1;let⟨ri,ht,L⟩:=q.same j;let⟨U,vs,eb,hb,a0⟩:=id L;cases eb;let⟨a1,aw,a3,N,ap,O⟩:=id y;exists aU,Y,dI.of ht,1,E,1,Z;refine⟨Y,Y,Y,ri,Y,.inl (bI.of hb),λz X=>?_⟩;let C:aH c (aL c z (.lst vs)):=ak X _;let u:(aL c z (.lst vs)) z=⇑(.lst vs):=af;generalize aL c z (.lst vs)=B at C u;let aq:=zG ag k ∅;let L:=ag k s S;let R:=O.len;refine⟨f,z,_,s.1,1,C _ _ ap,by rw[cC,R];exact L,by rw[cC,R];lia,λv w av r L=>?_⟩;let F:=C.trans r;let fz:H z=none:=aP j X;let T:H v=none:=aP (j.trans C) L;exists E,λq=>l q\/q=z\/q=v,v,1,j.trans F,λq z=>.inl (t q z),λq bw=>?_,λq bw=>?_,.inr (.inr rfl),(Ct v T).1,(Ct v T).2,N.take s.1++[z]++N.drop (s.1+1),?_
  ·rcases bw with bw|rfl|rfl
   ·exact an q bw
   ·exact .inr fz
   ·exact .inr T
  ·rcases bw with bw|rfl|rfl
   ·let⟨i,e⟩:=ao q bw;exact⟨i,F _ _ e⟩
   ·exact⟨_,r _ _ u⟩
   ·exact⟨_,av⟩
  ·rw[av];simp only[gI,List.map_take,List.map_drop,jo,List.map_nil]
  ·rw[Cc S];let e:cI (kk (λq=>l q\/q=z\/q=v) w a b) N (ng g (m.take k)):=O.mono λam i q=>⟨.inl q.own,q.ne,q.at'.same F⟩;refine ((e.take s.1).app (.cons ⟨.inr (.inl rfl),Ct z fz,⟨z,vs,1,r _ _ u,a0.mono λv i q=>q.same F⟩⟩ .nil)).app (e.drop (s.1+1))
 ·rintro M c ⟨u4,u5,l,f,rfl,j,t,an,ao,y⟩;let L:↑(cs.map V.ref)=↑m:=by rw[cC,a2.len]
  rw[L,gP]at y;let aq:=zG ag ↑m (d7 _);rw[gP]at aq;let⟨a1,aw,a3,N,ap,O⟩:=id y;let R:=O.len;let s:=W.same j;let S:=j _ _ I;refine⟨Y,x,cO,o,_,↥a,1,s.hx,D.cV.cl,D.ly,1,.inl ⟨1,_,bI.of S⟩,Y,a,Z,S,(by rw[cC];exact aN ∅),?_⟩;rw[show n.map V.ref++[↥f]=(n++[f]).map V.ref by rw[gI];rfl];let v:cB a c (aL c a (.lst ((n++[f]).map V.ref))):=aG a _ _;let av:(aL c a (.lst ((n++[f]).map V.ref))) a=⇑(.lst ((n++[f]).map V.ref)):=af;generalize aL c a (.lst ((n++[f]).map V.ref))=B at v av;let I:x≠a:=cP s.hx S;let aU:x≠b:=cP s.hx s.ho;let T:=v _ _ s.hx I;let o2:=v _ _ s.ho W.ne.symm;let a0:=v _ _ ap aw
  let I:(↑((n++[f]).map V.ref):Int)-1=((↑d:Nat):Int):=by
   rw[cC,cR,aA];simp only[gW];lia
  exists Y,x,cO,o,_,↥b,1,T,D.cV.cl,D.nB,1,Y,x,o,Y,T,1,x,o,a,b,Y,T,av;rw[I];refine⟨mq,λC I=>?_⟩;let r:aH B (aL B C (.lst [.int (↑d:Nat)])):=ak I _;let b3:(aL B C (.lst [.int (↑d:Nat)])) C=⇑(.lst [.int (↑d:Nat)]):=af;generalize aL B C (.lst [.int (↑d:Nat)])=w at r b3;exists Y,f,Y,.inl (bI.of (r _ _ a0)),Y,Z;rw[cC,R];let B:((↑(ng g m):Nat):Int)-((↑g:Nat):Int)=((↑(ng g m)-↑g:Nat):Int):=by lia
  show Za _ (V.int (((↑(ng g m):Nat):Int)-((↑g:Nat):Int))) _ _;rw[B];refine⟨C,Z,b3,by lia,by lia,(by simp only[gW];exact eO (aN ∅)),λF a4=>?_⟩;rw[Int.toNat_natCast,FG];generalize hk:↑(ng g m)-↑g=k;let s4:aH w (aL w F (.lst (List.replicate k (V.int (↑d:Nat))))):=ak a4 _;let b4:(aL w F (.lst (List.replicate k (V.int (↑d:Nat))))) F=⇑(.lst (List.replicate k (V.int (↑d:Nat)))):=af;generalize aL w F (.lst (List.replicate k (V.int (↑d:Nat))))=U at s4 b4;let X:=r.trans s4
  let lo:↑p<=700:=by
   let⟨g,e,i⟩:=W.QI.Cb;rw[G]at e;cases e;lia
  refine⟨b,F,Z,X _ _ o2,b4,(by rw[cC,uU];exact eO (aN ∅)),?_⟩;rw[show p.map V.int++List.replicate k (V.int (↑d:Nat))=(p++List.replicate k ((↑d:Nat):Int)).map V.int by rw[gI,List.map_replicate]];let k5:cB b U (aL U b (.lst ((p++List.replicate k ((↑d:Nat):Int)).map V.int))):=aG b _ _;let o5:(aL U b (.lst ((p++List.replicate k ((↑d:Nat):Int)).map V.int))) b=⇑(.lst ((p++List.replicate k ((↑d:Nat):Int)).map V.int)):=af;generalize aL U b (.lst ((p++List.replicate k ((↑d:Nat):Int)).map V.int))=d at k5 o5;let p:=k5 _ _ (X _ _ T) aU;refine⟨o,_,p,(by show 2<1000;decide),?_⟩;let g:aL d x (.ins cO o (_L2.eV "w" ↥b ([("A",↥a),("w",↥b)]:List (Str × V))))=d:=SM p;rw[g];let g:∀ q i,c q=⇑i->q≠a->q≠b->d q=⇑i:=λq i e k m=>k5 _ _ (X _ _ (v _ _ e k)) m;have r:∀ q o,c q=⇑(.tup o)->d q=⇑(.tup o):=λq o e=>g _ _ e (cP e S) (cP e s.ho);have c:=k5 _ _ (X _ _ av) W.ne;refine ax l d ⟨t _ W.sx,t _ W.ss,t _ W.so,λq bw=>?_,p,⟨n++[f],c,?_⟩,by rw[hk];exact o5,W.ne,W.QI.step G aq.1⟩ an (λq i e n=>?_) (λq o e=>r _ _ (j _ _ e))
  ·by_cases d:q=a
   ·rw[d];exact⟨_,c⟩
   by_cases u:q=b
   ·rw[u];exact⟨_,o5⟩
   let⟨i,e⟩:=ao q bw;exact⟨i,g _ _ e d u⟩
  ·refine (cI.mono (λJ a q=>?_) al).app (.cons (y.fr (λ_ z=>z) (λq i e _ k m=>g _ _ e k m) r) .nil);exact q.fr t (λq i e _ k m=>g _ _ (j _ _ e) k m) (λq o e=>r _ _ (j _ _ e))
  ·exact g _ _ (j _ _ e) (λz=>n (by rw[z];exact W.ss)) (λz=>n (by rw[z];exact W.so))
def qj(n:Nat)(a:Int):Prop:=0<=a/\a<(n:Nat)
def qj.get{n:Nat}{a:Int}(h:qj n a):∃ j:Nat,a=j/\j<n:=by
 let⟨b,c⟩:=h;exact⟨a.toNat,by lia,by lia⟩
def kr(a:lE)(b:UF):Prop:=↑a<=1000/\↑b<=1000
class inductive Cd(C:Addr)
 | mk (b:Yf) (x d c e:Addr) (f:lE) (a:UF) (s:Int) (_:vs=[↥x,.int s]) (_:Sh C b H x d c e f a) (_:qj ↑a s) (_:Q .gi H)
class inductive Mt(C:Addr)
 | mk (b:Yf) (x d c e:Addr) (a:lE) (f:UF) (m:Int) (_:vs=[↥x,.int m]) (_:Sh C b H x d c e a f) (_:qj ↑a m) (_:Q .gi H)
def SN(H a:Hp)(q:Addr)(c:List (List aT)):Prop:=H q=none/\∃ b:List Addr,a q=⇑(.lst (b.map V.ref))/\cI (λr d=>H r=none/\r≠q/\bU a ↥r d) b c
class inductive FH(C:Addr)
 | mk (f:Yf) (x g h i:Addr) (a:lE) (c:UF) (m:Int) (_:vs=[↥x,.int m]) (_:Sh C f H x g h i a c) (_:kr a c) (_:qj ↑a m) (_:(∀ (d:Nat) (e:List (List aT)),m=d->a[d]?=⇑e->∀ (q:Addr) (b:Hp),SN H b q e->aH H b->Q ↥q b))
class inductive Po(C:Addr)
 | mk (e:Yf) (x f g h:Addr) (a:lE) (c:UF) (_:vs=[↥x]) (_:Sh C e H x f g h a c) (_:kr a c) (_:(∀ (d:List (List aT)),a.getLast?=⇑d->∀ (q:Addr) (b:Hp),SN H b q d->aH H b->Q ↥q b))
theorem cY:‹(2,42,["c","f"],(Cd cO))›:=λD=>by
 specialize fP ["c","f"] D.E9.F;let⟨S,x,d,b,c,e,f,j,rfl,W,a,g⟩:=h;exists _,#v[bM (jJ (pM gE kM ay (pv 1) (gC (pv 0) D.cV D.WT (rS D) hr bO))) #v[ie] bg]
 rfl'
 exists Y,Z,Y;rw[decide_eq_true a.1];refine dN (λ_=>?_) (λi=>absurd rfl i);exists Y,x,d,Y,W.hx,1,S,x,d,b,c,e,f,1,W,Z,Y;rw[decide_eq_true a.2];exact gx g
theorem oZ:‹(2,43,["c","L"],(Mt cO))›:=λD=>by
 specialize fP ["c","L"] D.hP.F;let⟨S,x,d,b,c,l,m,e,rfl,W,a,f⟩:=h;let⟨g,i,j⟩:=W.hs;exists _,#v[bM (jJ (pM gE gE ay (pv 1) (gC (pv 0) D.cV D.Sj (oj D) hr bO))) #v[ie] bg]
 rfl'
 exists Y,Z,Y;rw[decide_eq_true a.1];refine dN (λ_=>?_) (λk=>absurd rfl k);exists Y,x,d,Y,W.hx,1,x,d,b,c,Y,W.hx,i,Z,Y;rw[decide_eq_true (show e<=(↑(g.map V.ref):Int)-1 by rw[cC,j.len];exact Int.le_sub_one_of_lt a.2)];exact gx f
def Sh.at'{c:Yf}{H:Hp}{x h a:Addr}{d:lE}{j:UF}(k:Sh C c H x h a l d j){b:UV}(m:H a=⇑(.lst (b.map V.ref))){i:Nat}{e:List (List aT)}(n:d[i]?=⇑e):∃ f,b[i]?=⇑f/\Iq c H a l f e:=by
 let⟨o,g,p⟩:=k.hs
 let q:b=o:=by
  rw[m]at g;exact zE (HO.lst.inj (nQ g))
 subst q;exact p.get' n
def Sh.qk{d:Yf}{H:Hp}{x e f:Addr}{a:lE}{c:UF}(h:Sh C d H x e f i a c):∃ last,a.getLast?=⇑last/\a[↑a-1]?=⇑last/\↑c=↑last:=by
 let⟨last,b,g⟩:=h.QI.Cb;refine⟨last,b,?_,g⟩;rw[List.getLast?_eq_getElem?]at b;exact b
theorem sX:‹(3,44,["c","L"],(FH cO))›:=λD=>by
 specialize fP ["c","L"] D.hT.F;let⟨S,x,o,p,M,k,N,O,rfl,W,R,y,T⟩:=h;let⟨as,B,al⟩:=id W.hs;refine⟨_,#v[aW (dG (pv 0) D.cV D.hP (oZ D) hr bO #[1]),aK (iz (N:=["j"]) (kg (c:=cy jM) (f:=["c","L"]) (d:=[none]) rfl rfl rfl nofun nofun rfl nofun rfl nofun) rfl (cK (aO bH (dh (pv 0) rfl) (pv 1))) (λ_ _ _ _ _ _=>(bV 0)) (λ_ _ _ _ _ _=>gK) (λ_ _ _ _ _ _=>(fY HG rfl D.T.jz tK #[0])))],?_⟩
 rfl'
 exists Y,x,o,Y,W.hx,1,Y,S,x,o,p,M,k,N,O,1,W,y;let⟨i,rfl,M⟩:=y.get;let l:k[i]?=⇑k[i]:=nh M;generalize k[i]=s at l;let⟨t,k,_,_,_,U,C,F⟩:=W.at' B l;let X:=F.len;let lo:=W.QI.less i s l;let y:=R.2;refine⟨Y,x,cO,o,_,↥p,1,W.hx,D.cV.cl,D.ly,1,Y,p,E,↥t,V,bI.of B,dm (by rw[gj,k];rfl),?_⟩;refine⟨t,1,⟨_,bI.of C⟩,λc u=>gA (K:=bZ) (h:=t) (a:=U.map V.ref) (λk m a=>∃ (v:Option V) (b:UV),m=[v]/\a c=⇑(.lst (b.map V.ref))/\aH H a/\cI (λr w=>H r=none/\r≠c/\bU a ↥r w) b (s.take k)) ⟨none,[],1,af,ak u _,by rw[List.take_zero];exact .nil⟩ (λk m a _ ⟨Q,_,s0,_⟩=>bI.of (s0 _ _ C)) ?_ ?_⟩
 ·rintro k ag m a G ⟨v,b,rfl,f,d,g⟩;rw[gj]at G;let⟨ri,ab,rfl⟩:=Option.map_eq_some_iff.mp G;let⟨w,ae,k⟩:=F.get ab;let⟨o,vs,ec,hc,it⟩:=k.at';cases ec;refine⟨Y,ri,Y,.inl (bI.of (d _ _ hc)),λz j=>⟨_,ak j _ _ _ f,?_,_,b++[z],1,?_,?_,?_⟩⟩
  ·have:=g.len;rw[gO]at this;rw[cC];exact aN ∅
  ·rw[af,gI];rfl
  ·intro q k e;rw[aJ (az e u)];exact ak j _ _ _ (d _ _ e)
  ·let I:z≠c:=(az f j).symm
   let J:∀ q k,a q=⇑k->q≠c->(aL (aL a z (.lst vs)) c (.lst (b.map V.ref++[↥z]))) q=⇑k:=λq k e k=>by
    rw[aJ k];exact ak j _ _ _ e
   let L:∀ q n,a q=⇑(.tup n)->(aL (aL a z (.lst vs)) c (.lst (b.map V.ref++[↥z]))) q=⇑(.tup n):=λq n e=>J _ _ e (cP e f (by intro bw;cases bw));rw[take_snoc ae];refine cI.snoc (g.mono λr w ⟨o,k,p⟩=>⟨o,k,p.fr (λn e=>J _ _ e k) L⟩) ⟨aP d j,I,z,vs,1,?_,it.mono λk i ⟨q,e,j⟩=>⟨q,e,L _ _ (d _ _ j)⟩⟩;rw[aJ I];exact af
 ·rintro m a ⟨v,b,rfl,f,d,g⟩;rw[cC,X,gP]at g;exact T i s rfl l c a ⟨u,b,f,g⟩ d
theorem fV:‹(4,45,["c"],(Po cO))›:=λD=>by
 specialize fP ["c"] D.C2.F;let⟨S,x,d,b,c,a,i,rfl,W,e,k⟩:=h;let⟨j,l,m⟩:=id W.hs;let⟨n,o,f,_⟩:=W.qk;let p:↑a-1<↑a:=(List.getElem?_eq_some_iff.mp f).1;let p:=e.1;let p:((↑(j.map V.ref):Nat):Int)-1=((↑a-1:Nat):Int):=by rw[cC,m.len];lia
 exists _,#v[aK (dG (pv 0) D.cV D.hT (sX D) hr bO #[gC (pv 0) D.cV D.Sj (oj D) hr bO])]
 rfl'
 exists Y,x,d,Y,W.hx,1,Y,x,d,Y,W.hx,1,x,d,b,c,Y,W.hx,l;rw[p];refine⟨S,x,d,b,c,a,i,Y,W,e,⟨by lia,by lia⟩,λb c d g q r s t=>?_⟩;have:b=↑a-1:=by lia
 subst this;rw[f]at g;cases g;exact k n o q r s t
class inductive Ko(C:Addr)
 | mk (x d:Addr) (_:vs=[↥x]) (_:H x=⇑(.ins C d [])) (_: ∀ (b:List (Str × V)) (a:Hp),a x=⇑(.ins C d b)->cB x H a->Q .gi a)
theorem FI{x z:Addr}{H:Hp}{o a:HO}(b:H z=none):cB x H (aL (aL H z o) x a):=λc d e n=>by
 rw[aJ n];exact ak b o c d e
theorem vK:‹(1,48,["c"],(Ko HY))›:=λD=>by
 specialize fP ["c"] D.hV.F;let⟨x,d,rfl,b,k⟩:=h;exists _,#v[iT (pv 0) j8 rfl]
 rfl'
 intro z a;exact⟨Y,x,HY,d,Y,ak a _ _ _ b,D.E7.cl,D.JM,by decide,k _ _ af (FI a)⟩
theorem vL:‹(1,47,["c"],(Ko xq))›:=λD=>by
 specialize fP ["c"] D.hU.F;let⟨x,d,rfl,c,k⟩:=h;exists _,#v[iT (pv 0) ay rfl,iT (pv 0) j8 rfl]
 rfl'
 refine⟨Y,x,xq,d,Y,c,D.BQ.cl,D.CC,by decide,?_⟩;let a:cB x H (aL H x (.ins xq d (_L2.eV "given" (.int 0) []))):=aG x _ _;let b:(aL H x (.ins xq d (_L2.eV "given" (.int 0) []))) x=⇑(.ins xq d (_L2.eV "given" (.int 0) [])):=af;generalize aL H x (.ins xq d (_L2.eV "given" (.int 0) []))=c at a b;intro z c;exact⟨Y,x,xq,d,Y,ak c _ _ _ b,D.BQ.cl,D.CF,(by show 1<1000;decide),k _ _ af (a.trans (FI c))⟩
def QJ(a:gD):List V:=a.map λp=>BK p.2
def G7(a:gD):List V:=a.map λp=>V.int p.1
def mW(h:Int)(a:List Nat):gD:=a.map λc=>(h,c)
theorem lF(h:Int)(a:List Nat):↑(mW h a)=↑a:=cC ..
def SO(a:gD)(h:Int)(b:List Nat):QJ (a++mW h b)=QJ a++b.map BK:=by
 unfold QJ mW;rw[gI,List.map_map];rfl
theorem Dh(v:V):∀ n:Nat,(List.replicate n [v]).flatten=List.replicate n v
 | 0=>rfl
 | n+1=>by rw[List.replicate_succ,List.flatten_cons,Dh v n,List.replicate_succ];rfl
def SQ(a:gD)(h:Int)(b:List Nat):G7 (a++mW h b)=G7 a++(List.replicate ↑b [V.int h]).flatten:=by
 rw[Dh];unfold G7 mW;rw[gI,List.map_map];congr 1;exact List.map_eq_replicate_iff.mpr λc _=>rfl
def kL(h:Int):Nat->gD->List Int
 | _,[]=>[]
 | i,p::r=>if p.1=h then (i:Int)::kL h (i+1) r else kL h (i+1) r
theorem mF(h:Int):∀ (a b:gD) (i:Nat),kL h i (a++b)=kL h i a++kL h (i+↑a) b
 | [],b,i=>rfl
 | p::a,b,i=>by
  rw[List.cons_append,kL,kL,jH,mF h a b (i+1),show i+1+↑a=i+(↑a+1) by lia]
  split <;> rfl
theorem vM(h:Int):∀ (a:List Nat) (i:Nat),kL h i (mW h a)=run (i:Int) ↑a
 | [],i=>rfl
 | c::a,i=>by
  show kL h i ((h,c)::mW h a)=_;rw[kL,if_pos rfl,vM h a (i+1),jH,run,show ((i+1:Nat):Int)=(i:Int)+1 by lia]
theorem mG{h g:Int}(n:g≠h):∀ (a:List Nat) (i:Nat),kL h i (mW g a)=[]
 | [],i=>rfl
 | c::a,i=>by
  show kL h i ((g,c)::mW g a)=_;rw[kL,if_neg n,mG n a (i+1)]
def zH(a b:Int)(k:Nat)(e:b=a+k):bu [(a,b)]=run a k:=by
 show gv (a,b)++[]=_;rw[gG];show run a (b-a).toNat=_;rw[show (b-a).toNat=k by lia]
structure Pw(S:Yf)(H:Hp)(s o:Addr)(n:Nat)(kvs:List (d9 × V))(aC:gD):Prop where
 got:∀ h v,cG kvs (Sum.inl h)=⇑v->∃ (l:Addr) (row:Row),v=↥l/\S l/\l≠s/\l≠o/\bP H l row/\(∀ p∈row,p.1<=p.2)/\bu row=kL h 0 aC/\↑row<=n
 gi:∀ h,cG kvs (Sum.inl h)=none->kL h 0 aC=[]
 one:∀ h g v,cG kvs (Sum.inl h)=⇑v->cG kvs (Sum.inl g)=⇑v->h=g
 len:↑kvs<=n
structure We(C:Addr)(S:Yf)(H:Hp)(x d s o p:Addr)(n:Nat)(aC:gD):Prop where
 sx:S x
 ss:S s
 so:S o
 sp:S p
 al:∀ a,S a->∃ ob,H a=⇑ob
 hx:H x=⇑(.ins C d [("I",↥s),("K",↥o),("W",↥p)])
 hs:H s=⇑(.lst (QJ aC))
 ho:H o=⇑(.lst (G7 aC))
 ne:s≠o
 dk:∃ kvs,H p=⇑(.dK kvs)/\Pw S H s o n kvs aC
def bP.two{H b:Hp}{r:Addr}{c:Row}(h:bP H r c)(k:∀ a,H r=⇑(.lst a)->b r=⇑(.lst a))(t:∀ d a,H d=⇑(.tup a)->b d=⇑(.tup a)):bP b r c:=by
 let⟨e,f,g⟩:=h;exact⟨e,k _ f,g.tups t⟩
def We.fr{d:Yf}{H e:Hp}{x i s o p:Addr}{n:Nat}{j:gD}(h:We C d H x i s o p n j)(k:∀ a b,H a=⇑b->d a->e a=⇑b)(t:∀ a f,H a=⇑(.tup f)->e a=⇑(.tup f)):We C d e x i s o p n j:=by
 let⟨sx,ss,so,sp,al,hx,hs,ho,ne,g,l,c⟩:=h;refine⟨sx,ss,so,sp,λa z=>?_,k _ _ hx sx,k _ _ hs ss,k _ _ ho so,ne,g,k _ _ l sp,λh v g=>?_,c.gi,c.one,c.len⟩
 ·let⟨b,g⟩:=al a z;exact⟨b,k _ _ g z⟩
 ·let⟨m,q,r,l,u,w,y,z⟩:=c.got h v g;exact⟨m,q,r,l,u,w,y.two (λf q=>k _ _ q l) t,z⟩
theorem We.same{a:Yf}{H b:Hp}{x d s o p:Addr}{n:Nat}{c:gD}(h:We C a H x d s o p n c)(k:aH H b):We C a b x d s o p n c:=h.fr (λf g e _=>k f g e) (λf f e=>k _ _ e)
theorem Kp(a:gD):↑(QJ a)=↑a:=cC ..
theorem SR(a:gD):↑(G7 a)=↑a:=cC ..
def Pp{H:Hp}{a:Addr}{b:HO}(h:H a=⇑b):aL H a b=H:=by
 funext c;by_cases e:c=a
 ·rw[e,af,h]
 ·rw[aJ e]
class inductive SS(C:Addr)
 | mk (x d:Addr) (_:vs=[↥x]) (_:H x=⇑(.ins C d [])) (_: ∀ (s o p:Addr) (b:Hp),We C (λa=>a=x\/a=s\/a=o\/a=p) b x d s o p 0 []->cB x H b->H s=none->H o=none->H p=none->Q .gi b)
class inductive SV(C:Addr)
 | mk (x d s o p:Addr) (a:gD) (_:vs=[↥x]) (_:H x=⇑(.ins C d [("I",↥s),("K",↥o),("W",↥p)])) (_:H s=⇑(.lst (QJ a))) (_:Q (.int (↑a:Nat)) H)
class inductive Xu(C:Addr)
 | mk (e:Yf) (x f s o p:Addr) (n:Nat) (b:gD) (h:Int) (d:List Nat) (_:vs=[↥x,.int h,.str (gc d)]) (_:We C e H x f s o p n b) (_:↑b+↑d<=100000) (_:n<=1000) (_ :
 ∀ (g:Yf) (q:Addr) (c:Hp),We C g c x f s o p (n+1) (b++mW h d)->c q=⇑(.tup [.int (↑b:Nat),.int (↑(b++mW h d):Nat)])->(∀ a,g a->e a\/H a=none)->(∀ a i,H a=⇑i->¬ e a->c a=⇑i)->(∀ a j,H a=⇑(.tup j)->c a=⇑(.tup j))->Q ↥q c)
theorem vN:‹(1,49,["c"],(SS dH))›:=λD=>by
 specialize fP ["c"] D.hY.F;let⟨x,d,rfl,t,B⟩:=h;exists _,#v[iT (pv 0) (bK ah) rfl,iT (pv 0) (bK ah) rfl,iT (pv 0) j8 rfl]
 rfl'
 refine⟨iD,λs0 r=>?_⟩;let b:aH H (aL H s0 (.lst [])):=ak r _;let u:(aL H s0 (.lst [])) s0=⇑(.lst []):=af;generalize aL H s0 (.lst [])=i at b u;refine⟨Y,x,dH,d,Y,b _ _ t,D.iF.cl,D.vd,by decide,?_⟩;let c:cB x i (aL i x (.ins dH d (_L2.eV "I" ↥s0 []))):=aG x _ _;let p:(aL i x (.ins dH d (_L2.eV "I" ↥s0 []))) x=⇑(.ins dH d [("I",↥s0)]):=af;generalize aL i x (.ins dH d (_L2.eV "I" ↥s0 []))=j at c p;let k:s0≠x:=(az t r).symm;let v:=c _ _ u k;refine⟨iD,λo l=>?_⟩;let f:aH j (aL j o (.lst [])):=ak l _;let w:(aL j o (.lst [])) o=⇑(.lst []):=af;generalize aL j o (.lst [])=m at f w;refine⟨Y,x,dH,d,Y,f _ _ p,D.iF.cl,D.qC,(by show 1<1000;decide),?_⟩;let g:cB x m (aL m x (.ins dH d (_L2.eV "K" ↥o [("I",↥s0)]))):=aG x _ _;let s:(aL m x (.ins dH d (_L2.eV "K" ↥o [("I",↥s0)]))) x=⇑(.ins dH d [("I",↥s0),("K",↥o)]):=af;generalize aL m x (.ins dH d (_L2.eV "K" ↥o [("I",↥s0)]))=i at g s;let n:o≠x:=(az p l).symm;let y:=g _ _ w n;let z:=g _ _ (f _ _ v) k;intro p a;let q:p≠x:=(az s a).symm;refine⟨Y,x,dH,d,Y,ak a _ _ _ s,D.iF.cl,D.lJ,(by show 2<1000;decide),?_⟩
 let C:cB x H (aL (aL i p (.dK [])) x (.ins dH d (_L2.eV "W" ↥p [("I",↥s0),("K",↥o)]))):=λF i e d=>by
  rw[aJ d];exact ak a _ _ _ (g _ _ (f _ _ (c _ _ (b _ _ e) d)) d)
 refine B s0 o p _ ⟨.inl rfl,.inr (.inl rfl),.inr (.inr (.inl rfl)),.inr (.inr (.inr rfl)),λF G=>?_,af,?_,?_,az v l,[],?_,?_⟩ C r ?_ ?_
 ·rcases G with rfl|rfl|rfl|rfl
  ·exact⟨_,af⟩
  ·exact⟨_,by rw[aJ k];exact ak a _ _ _ z⟩
  ·exact⟨_,by rw[aJ n];exact ak a _ _ _ y⟩
  ·exact⟨_,by rw[aJ q];exact af⟩
 ·rw[aJ k];exact ak a _ _ _ z
 ·rw[aJ n];exact ak a _ _ _ y
 ·rw[aJ q];exact af
 ·exact⟨λh I e=>(by cases e),λh e=>rfl,λh d I e=>(by cases e),d7 _⟩
 ·exact aP b (iN c n l)
 ·exact aP b (iN c q (aP f (iN g q a)))
theorem jC:‹(1,50,["c"],(SV dH))›:=λD=>by
 specialize fP ["c"] D.LQ.F;let⟨x,d,s0,o,p,c,rfl,a,b,k⟩:=h;exists _,#v[aK (gf D.T.fJ (dh (pv 0) rfl))]
 rfl'
 exists Y,x,dH,d,_,↥s0,1,a,D.iF.cl,D.vd,1,s0,Y,.inl (bI.of b);rw[Kp];exact k
theorem Di:‹(2,51,["c","C","text"],(Xu dH))›:=λD=>by
 specialize fP ["c","C","text","h","stretch"] D.hZ.F;let⟨ag,x,r,s0,o,p,aM,b,h,c,rfl,W,aU,nn,am⟩:=h;let hu:=gS hr;exists _,#v[aX 3 (gC (pv 0) D.iF D.LQ (jC D) hr bO),u9 (pv 0) (fY (As rfl) rfl D.T.jz tK #[2]) HH,u9 (pv 0) (bz NH (bK #[1]) (b8 tP rfl D.T.fJ PySem.boot_len #[2])) HH,aX 4 (cT #[3,gC (pv 0) D.iF D.LQ (jC D) hr bO]),aW (eX o7 jW jX b9 (Oz (dh (pv 0) rfl) (pv 1) (bK ah) ⟨V,V⟩) #[4]),aK (pv 4)]
 rfl'
 exists Y,x,r,Y,W.hx,1,x,r,s0,o,p,b,1,W.hx,W.hs;let⟨sx,R,S,sp,al,F,T,U,ne,B,G,s⟩:=id W;let an:x≠s0:=cP F T;let av:x≠o:=cP F U;let aw:x≠p:=cP F G;let ao:p≠s0:=cP G T;let ap:p≠o:=cP G U;refine⟨Y,x,dH,r,_,↥s0,1,F,D.iF.cl,D.vd,1,Y,c,1,eO (aN ∅),λX ht=>?_⟩;let a1:aH H (aL H X (.lst (c.map BK))):=ak ht _;let b1:(aL H X (.lst (c.map BK))) X=⇑(.lst (c.map BK)):=af;generalize aL H X (.lst (c.map BK))=H1 at a1 b1;refine⟨s0,X,Z,a1 _ _ T,b1,(by rw[Kp,cC];exact eO (aN ∅)),?_⟩;rw[← SO b h c];let k2:cB s0 H1 (aL H1 s0 (.lst (QJ (b++mW h c)))):=aG s0 _ _;let s2:(aL H1 s0 (.lst (QJ (b++mW h c)))) s0=⇑(.lst (QJ (b++mW h c))):=af;generalize aL H1 s0 (.lst (QJ (b++mW h c)))=I at k2 s2;let aq:cB s0 H I:=λa d e m=>k2 _ _ (a1 _ _ e) m;have X:=aq _ _ F an;refine⟨r,_,X,(by show 3<1000;decide),?_⟩;have J:aL I x (.ins dH r (_L2.eV "I" ↥s0 ([("I",↥s0),("K",↥o),("W",↥p)]:List (Str × V))))=I:=Pp X;rw[J];refine⟨Y,x,dH,r,_,↥o,1,X,D.iF.cl,D.qC,1,Y,mq,λt2 X=>?_⟩;have a3:aH I (aL I t2 (.lst [.int h])):=ak X _;have b3:(aL I t2 (.lst [.int h])) t2=⇑(.lst [.int h]):=af;generalize aL I t2 (.lst [.int h])=H3 at a3 b3;refine⟨Y,gc c,1,(by rw[nZ];exact eO (aN ∅)),?_⟩;rw[nZ];refine⟨t2,Z,b3,by lia,by lia,(by simp only[gW];exact eO (aN ∅)),λt3 I=>?_⟩;rw[Int.toNat_natCast];have a4:aH H3 (aL H3 t3 (.lst (List.replicate ↑c [V.int h]).flatten)):=ak I _;have b4:(aL H3 t3 (.lst (List.replicate ↑c [V.int h]).flatten)) t3=⇑(.lst (List.replicate ↑c [V.int h]).flatten):=af;generalize aL H3 t3 (.lst (List.replicate ↑c [V.int h]).flatten)=H4 at a4 b4;have UX:cB s0 H H4:=λa d e m=>a4 _ _ (a3 _ _ (aq _ _ e m));refine⟨o,t3,Z,UX _ _ U ne.symm,b4,(by rw[SR,Dh,uU];exact eO (aN ∅)),?_⟩;rw[← SQ b h c];have k5:cB o H4 (aL H4 o (.lst (G7 (b++mW h c)))):=aG o _ _;have o5:(aL H4 o (.lst (G7 (b++mW h c)))) o=⇑(.lst (G7 (b++mW h c))):=af;generalize aL H4 o (.lst (G7 (b++mW h c)))=C at k5 o5;have ab:∀ a d,H a=⇑d->a≠s0->a≠o->C a=⇑d:=λa d e m m2=>k5 _ _ (UX _ _ e m) m2;have L:=ab _ _ F an av;have s5:=k5 _ _ (a4 _ _ (a3 _ _ s2)) ne;refine⟨r,_,L,(by show 3<1000;decide),?_⟩;have e5:aL C x (.ins dH r (_L2.eV "K" ↥o ([("I",↥s0),("K",↥o),("W",↥p)]:List (Str × V))))=C:=Pp L;rw[e5]
 let QV:∀ q,C q=none->H q=none:=λq w=>by
  cases e:H q with
  | none=>rfl
  | some d =>
   by_cases i:q=s0
   ·rw[i,s5]at w;cases w
   by_cases k:q=o
   ·rw[k,o5]at w;cases w
   rw[ab _ _ e i k]at w;cases w
 exists Y,Y,x,r,Y,L,1,x,r,s0,o,p,Y,L,s5;refine⟨mJ,λq w=>?_⟩;let n:aH C (aL C q (.tup [.int (↑b:Nat),.int (↑(b++mW h c):Nat)])):=ak w _;let b6:(aL C q (.tup [.int (↑b:Nat),.int (↑(b++mW h c):Nat)])) q=⇑(.tup [.int (↑b:Nat),.int (↑(b++mW h c):Nat)]):=af;generalize aL C q (.tup [.int (↑b:Nat),.int (↑(b++mW h c):Nat)])=M at n b6;let p6:=n _ _ (ab _ _ G ao ap);let JT:∀ q,M q=none->H q=none:=λq w=>QV q (aP n w);refine⟨Y,x,dH,r,_,↥p,1,n _ _ L,D.iF.cl,D.lJ,1,p,1,.inl ⟨_,.inl p6⟩,Y,iD,λz hz=>?_⟩;have t:aH M (aL M z (.lst [])):=ak hz _;have b7:(aL M z (.lst [])) z=⇑(.lst []):=af;generalize aL M z (.lst [])=u at t b7;have r:=s.len;refine⟨B,Sum.inl h,t _ _ p6,1,aN ∅,λv O=>?_,λO=>?_⟩
 ·let⟨l,row,rfl,Sl,ls,lo,⟨as,r,pa⟩,ok,ar,rl⟩:=s.got h v O;let ae:∀ a d,H a=⇑d->a≠s0->a≠o->u a=⇑d:=λa d e m m2=>t _ _ (n _ _ (ab _ _ e m m2));have l7:=ae _ _ r ls lo;have ax:x≠l:=cP F r;have aA:p≠l:=cP G r;have r:=pa.len;refine⟨.inl ⟨1,_,bI.of l7⟩,Y,l,Z,l7,(by rw[cC];exact aN ∅),?_⟩;have j:cB l u (aL u l (.lst (as.map V.ref++[↥q]))):=aG l _ _;have l8:(aL u l (.lst (as.map V.ref++[↥q]))) l=⇑(.lst (as.map V.ref++[↥q])):=af;generalize aL u l (.lst (as.map V.ref++[↥q]))=N at j l8;have ai:∀ a f,H a=⇑(.tup f)->u a=⇑(.tup f):=λa f e=>ae _ _ e (cP e T) (cP e U);have Xv:∀ a f,u a=⇑(.tup f)->N a=⇑(.tup f):=λa f e=>j _ _ e (cP e l7);have r:=j _ _ (t _ _ (n _ _ s5)) ls.symm;have w:=j _ _ (t _ _ (n _ _ o5)) lo.symm;refine⟨Y,am ag q N ⟨sx,R,S,sp,λa z=>?_,j _ _ (t _ _ (n _ _ L)) ax,r,w,ne,B,j _ _ (t _ _ p6) aA,λg v e=>?_,λg e=>?_,s.one,by lia⟩ (Xv _ _ (t _ _ b6)) (λa z=>.inl z) (λa d e m=>?_) (λa f e=>Xv _ _ (ai _ _ e))⟩
  ·by_cases i:a=s0
   ·rw[i];exact⟨_,r⟩
   by_cases k:a=o
   ·rw[k];exact⟨_,w⟩
   by_cases y:a=l
   ·rw[y];exact⟨_,l8⟩
   let⟨d,e⟩:=al a z;exact⟨d,j _ _ (ae _ _ e i k) y⟩
  ·by_cases i:g=h
   ·subst i;rw[O]at e;cases e;exists l,row++([(((↑b:Nat):Int),((↑(b++mW g c):Nat):Int))]:Row),1,Sl,ls,lo,⟨as++[q],by rw[gI];exact l8,?_⟩,?_,?_
    ·exact aY.append (pa.tups λa f e=>Xv _ _ (ai _ _ e)) (.cons (b:=(((↑b:Nat):Int),((↑(b++mW g c):Nat):Int))) (Xv _ _ (t _ _ b6)) .nil)
    ·intro k hr;rcases List.mem_append.mp hr with z|z
     ·exact ok k z
     ·rw[List.mem_singleton.mp z];show ((↑b:Nat):Int)<=(↑(b++mW g c):Nat);rw[cR];lia
    ·rw[cM,ar,mF,vM,Nat.zero_add];congr 1;refine zH _ _ _ ?_;rw[cR,lF];lia
    ·rw[cR];simp only[gW];lia
   ·let⟨k,vA,y,e2,J,e4,e5,e6,e7,e8⟩:=s.got g v e;subst y;let r:k≠l:=λz=>i (s.one g h _ e (by rw[z];exact O));refine⟨k,vA,1,e2,J,e4,e5.two (λf q=>j _ _ (ae _ _ q J e4) r) (λa f e=>Xv _ _ (ai _ _ e)),e6,?_,by lia⟩;rw[e7,mF,mG (λz=>i z.symm),gG]
  ·let i:g≠h:=λz=>by rw[z,O]at e;cases e
   rw[mF,s.gi g e,mG (λz=>i z.symm),gG]
  ·let i:a≠s0:=λz=>m (by rw[z];exact R);have k:a≠o:=λz=>m (by rw[z];exact S);have y:a≠l:=λz=>m (by rw[z];exact Sl);exact j _ _ (ae _ _ e i k) y
 ·let fz:H z=none:=JT z hz;let p7:=t _ _ p6;let j:cB p u (aL u p (.dK (dP B (Sum.inl h) ↥z))):=aG p _ _;let p8:(aL u p (.dK (dP B (Sum.inl h) ↥z))) p=⇑(.dK (dP B (Sum.inl h) ↥z)):=af;generalize aL u p (.dK (dP B (Sum.inl h) ↥z))=N at j p8;let r:=j _ _ b7 (cP b7 p7);refine⟨.inl ⟨1,_,bI.of r⟩,Y,z,Z,r,(by show 0<sizeLine;decide),?_⟩;let k9:cB z N (aL N z (.lst ([]++[↥q]))):=aG z _ _;let z9:(aL N z (.lst ([]++[↥q]))) z=⇑(.lst ([]++[↥q])):=af;generalize aL N z (.lst ([]++[↥q]))=r at k9 z9;let u:∀ a d,M a=⇑d->a≠p->r a=⇑d:=λa d e m=>k9 _ _ (j _ _ (t _ _ e) m) (az e hz);have Xw:∀ a d,H a=⇑d->a≠s0->a≠o->a≠p->r a=⇑d:=λa d e m m2 j=>u _ _ (n _ _ (ab _ _ e m m2)) j;have ai:∀ a f,M a=⇑(.tup f)->r a=⇑(.tup f):=λa f e=>u _ _ e (cP e p6);have ar:∀ a f,H a=⇑(.tup f)->r a=⇑(.tup f):=λa f e=>Xw _ _ e (cP e T) (cP e U) (cP e G);have s9:=u _ _ (n _ _ s5) ao.symm;have o9:=u _ _ (n _ _ o5) ap.symm;have p9:=k9 _ _ p8 (cP p7 b7)
  let nz:∀ a,ag a->a≠z:=λa j=>by
   let⟨d,e⟩:=al a j;exact az e fz
  refine⟨Y,am (λa=>ag a\/a=z) q r ⟨.inl sx,.inl R,.inl S,.inl sp,λa bw=>?_,u _ _ (n _ _ L) aw,s9,o9,ne,_,p9,λg v e=>?_,λg e=>?_,λg g' v e l=>?_,(by have:=iy B (Sum.inl h:d9) (V.ref z);lia)⟩ (ai _ _ b6) (λa bw=>bw.imp id λae=>by rw[ae];exact fz) (λa d e m=>?_) (λa f e=>ar _ _ e)⟩
  ·rcases bw with bw|bw
   ·by_cases i:a=s0
    ·rw[i];exact⟨_,s9⟩
    by_cases k:a=o
    ·rw[k];exact⟨_,o9⟩
    by_cases y:a=p
    ·rw[y];exact⟨_,p9⟩
    let⟨d,e⟩:=al a bw;exact⟨d,Xw _ _ e i k y⟩
   ·rw[bw];exact⟨_,z9⟩
  ·rw[j7]at e;by_cases i:g=h
   ·subst i;rw[if_pos rfl]at e;cases e;exists z,([(((↑b:Nat):Int),((↑(b++mW g c):Nat):Int))]:Row),1,.inr rfl,(nz _ R).symm,(nz _ S).symm,⟨[q],z9,.cons (ai _ _ b6) .nil⟩,?_,?_
    ·intro k hr;rw[List.mem_singleton.mp hr];show ((↑b:Nat):Int)<=(↑(b++mW g c):Nat);rw[cR];lia
    ·rw[mF,s.gi g O,vM,Nat.zero_add,List.nil_append];refine zH _ _ _ ?_;rw[cR,lF];lia
    ·simp only[gW];lia
   ·rw[if_neg (λz=>i (Sum.inl.inj z))]at e;let⟨k,vA,y,e2,J,e4,e5,e6,e7,e8⟩:=s.got g v e;subst y;refine⟨k,vA,1,.inl e2,J,e4,e5.two (λf q=>Xw _ _ q J e4 (cP q G)) (λa f e=>ar _ _ e),e6,?_,by lia⟩;rw[e7,mF,mG (λz=>i z.symm),gG]
  ·rw[j7]at e;let i:g≠h:=λz=>by rw[z,if_pos rfl]at e;cases e
   rw[if_neg (λz=>i (Sum.inl.inj z))]at e;rw[mF,s.gi g e,mG (λz=>i z.symm),gG]
  ·let iY:∀ g v,g≠h->cG B (Sum.inl g)=⇑v->v≠.ref z:=λg v i e ae=>by
    let⟨k,vA,y,e2,_⟩:=s.got g v e;rw[y]at ae;cases ae;exact nz _ e2 rfl
   rw[j7]at e l;by_cases i:g=h
   ·by_cases k:g'=h
    ·rw[i,k]
    ·rw[i,if_pos rfl]at e;rw[if_neg (λz=>k (Sum.inl.inj z))]at l;cases e;exact absurd rfl (iY _ _ k l)
   ·rw[if_neg (λz=>i (Sum.inl.inj z))]at e;by_cases k:g'=h
    ·rw[k,if_pos rfl]at l;cases l;exact absurd rfl (iY _ _ i e)
    ·rw[if_neg (λz=>k (Sum.inl.inj z))]at l;exact s.one _ _ _ e l
  ·let i:a≠s0:=λz=>m (by rw[z];exact R);have k:a≠o:=λz=>m (by rw[z];exact S);have y:a≠p:=λz=>m (by rw[z];exact sp);exact Xw _ _ e i k y
def FJ(a:List V){p q:Int}(h:0<=p)(g:0<=q):j0 a (⇑p) (⇑q)=(a.take q.toNat).drop p.toNat:=by
 unfold j0
 let e:∀ r:Int,0<=r->∀ d,_HT.iZ ↑a d (⇑r)=min r.toNat ↑a:=λr b d=>by
  show (if r<0 then (r+(↑a:Int)).toNat else min r.toNat ↑a)=_;rw[if_neg ∅]
 rw[e p h,e q g,List.drop_take];rcases Nat.le_total p.toNat ↑a with z|z
 ·rw[Nat.min_eq_left z];rcases Nat.le_total q.toNat ↑a with y|y
  ·rw[Nat.min_eq_left y]
  ·rw[Nat.min_eq_right y,pC (by rw[pD];lia),pC (by rw[pD];lia)]
 ·rw[Nat.min_eq_right z,wX (d7 _),wX z];simp
def Pq(n:Nat)(p:Int × Int):Bool:=decide (0<=p.1)&&decide (p.1<p.2)&&decide (p.2<=(n:Int))
def om(n:Nat)(a:Row):Bool:=a.all (Pq n)
class inductive SX(C:Addr)
 | mk (d:Yf) (x e s o p r:Addr) (n:Nat) (b:gD) (a:Row) (_:vs=[↥x,↥r]) (_:We C d H x e s o p n b) (_:bP H r a) (_:↑a<=1000) (_: ∀ c,aH H c->Q (.bl (om ↑b a)) c)
theorem AH:‹(2,52,["c","k"],(SX dH))›:=λD=>by
 specialize fP ["c","k"] D.h8.F;let⟨S,x,o,s0,t,w,r,j,b,e,rfl,W,R,v,y⟩:=h;refine⟨_,#v[aK (b8 (LK rfl) rfl D.T.ZX PyProof.Rows.boot_all #[iz (N:=["h","n","c"]) (kg (c:=cy pR) (f:=["c","k"]) (d:=[none,none,some 0]) rfl rfl rfl nofun nofun rfl nofun rfl nofun) rfl (cK (pv 1)) (λ_ _ _ _ _ _=>(qJ (n:=2) rfl (bR (bV 0) (bR (bV 1) gJ)))) (λ_ _ _ _ _ _=>gK) (λ_ _ _ _ _ _=>(LL gE kM gE ay (pv 0) (pv 1) (gC (pv 2) D.iF D.LQ (jC D) hr bO)))])],?_⟩
 rfl'
 let⟨v,j,p⟩:=id R;let z:=p.len;refine⟨Y,r,1,⟨_,bI.of j⟩,λc s=>gA (K:=bZ) (h:=r) (a:=v.map V.ref) (λi f a=>∃ u bw:Option V,f=[u,bw,⇑↥x]/\a c=⇑(.lst (((e.take i).map (Pq ↑b)).map V.bl))/\aH H a) ⟨none,none,1,af,ak s _⟩ (by rintro i f a _ ⟨_,_,_,_,s0⟩;exact bI.of (s0 _ _ j)) ?_ ?_⟩
 ·rintro i F f a q ⟨u,bw,rfl,g,d⟩;rw[gj]at q;let⟨B,C,rfl⟩:=Option.map_eq_some_iff.mp q;let⟨q,r,j⟩:=nY p C;let l:=W.same d;exists B,Y,dI.of (d _ _ j),1,E,1,Z
  let m:∀ v:Bool,Pq ↑b q=v->∃ j,a c=⇑(.lst j)/\↑j<sizeLine/\∃ u bw:Option V,[⇑(V.int q.1),⇑(V.int q.2),⇑↥x]=[u,bw,⇑↥x]/\(aL a c (.lst (j++[.bl v]))) c=⇑(.lst (((e.take (i+1)).map (Pq ↑b)).map V.bl))/\aH H (aL a c (.lst (j++[.bl v]))):=λv i=>by
   exists _,g,?_,E,1,?_
   ·rw[cC,cC,gO];exact aN ∅
   ·rw[af,take_snoc r,gI,gI,← i];rfl
   ·intro i j k;rw[aJ (az k s)];exact d _ _ k
  refine⟨Y,Z,Y,dN (λk=>?_) (λk=>m false ?_)⟩
  ·refine⟨Y,Z,Y,dN (λn=>?_) (λn=>m false ?_)⟩
   ·refine⟨Y,x,o,Y,l.hx,1,x,o,s0,t,w,b,1,l.hx,l.hs,Z,m _ ?_⟩;unfold Pq;rw[k,n];rfl
   ·unfold Pq;rw[k,Bool.eq_false_iff.mpr n];rfl
  ·unfold Pq;rw[Bool.eq_false_iff.mpr k];rfl
 ·rintro f a ⟨u,bw,rfl,g,d⟩;rw[cC,z,gP]at g;exists c,Y,bI.of g
  let k:(e.map (Pq ↑b)).all id=om ↑b e:=by
   unfold om;rw[List.all_map];rfl
  rw[k];exact y a d
def CM.kt{a:cZ}(h:CM a){s:Int}:¬ Reach (jF a) s s:=by
 let⟨rk,_,b⟩:=h
 let c:∀ g,Reach (jF a) s g->rk g<rk s:=by
  intro g r
  induction r with
  | one e=>exact b _ _ e
  | step _ e d=>exact Nat.lt_trans (b _ _ e) d
 exact λz=>Nat.lt_irrefl _ (c s z)
structure mH(rows:cZ)(f:Int->Int):Prop where
 len:↑rows<=100
 es:∀ es∈rows,↑es<=1000
 sd:gM rows
 rk:CM rows
 wt:Weighs rows f
 most:∀ x:Int,0<=x->x<↑rows->f x<=200
class inductive Pr
 | mk (r:Addr) (a:cZ) (s:Int) (f:Int->Int) (_:vs=[↥r,.int s]) (_:gU H r (a.map aF)) (_:mH a f) (_:0<=s) (_:s<↑a) (_: ∀ b,aH H b->Q .gi b)
theorem zI:‹(4,53,["m","f"],Pr)›:=λD=>by
 specialize fP ["m","f","way","Y","9"] D.h9.F;let⟨r,a,s,j,rfl,c,B,l,m,q⟩:=h;let n:=gS hr;let⟨t,v⟩:=D.G.w;let y:=B.len;exists _,#v[aX 2 (aB D.Z5 (Sx D) hr #[0,1]),bM (Cr (QT (pv 2))) #v[ie] bg,aX 3 (aB D.Z7 (vC D) hr #[0,fY (rM rfl) rfl D.T.jz tK #[fY CJ rfl D.T.i9 PyProof.Rows.boot_range #[gf D.T.fJ (pv 0)]]]),eZ PassesOwn.never rfl (iL rfl D.T.i9 #[gf D.T.fJ (pv 0)]) (bV 4) #v[bM (aV Ei (gF n (pv 3) (pv 4)) (Jr (v:=.int 200) rfl v ⟨t,1⟩) (bh _)) #v[ie] bg]]
 rfl'
 refine⟨Y,Y,r,s,1,r,a,s,s,1,c,by lia,B.es,B.sd,l,m,B.rk.kt,λk l=>?_⟩;refine⟨Y,false,1,gx ?_⟩;let m:=c.same l;let⟨vs,n,t⟩:=id m;let m:↑vs=↑a:=by rw[t.len,cC]
 refine⟨Y,Y,r,Y,.inl (bI.of n),Y,λd t=>⟨d,E,1,af,⟨by lia,by lia,by lia,by lia⟩,eO (aN ∅),λL n=>?_⟩⟩;rw[yP,m,show ((↑a:Int)-0).toNat=↑a by lia];rw[m]at n;let e:=l.trans ((ak t (.D5 0 ((↑a:Nat):Int))).trans (ak n (.lst ((run 0 ↑a).map V.int))));let o:(aL (aL k d (.D5 0 ((↑a:Nat):Int))) L (.lst ((run 0 ↑a).map V.int))) L=⇑(.lst ((run 0 ↑a).map V.int)):=af;generalize aL (aL k d (.D5 0 ((↑a:Nat):Int))) L (.lst ((run 0 ↑a).map V.int))=d at e o;refine⟨r,L,a,run 0 ↑a,j,1,c.same e,o,by rw[JZ];lia,by lia,B.es,B.sd,B.rk,(λx b=>by have:=Ol b;lia),B.wt,λS k d l w m _=>?_⟩;let d:=e.trans m;let⟨e,m,n⟩:=c.same d;let c:↑e=↑a:=by rw[n.len,cC]
 refine⟨Y,r,Y,.inl (bI.of m),Y,by lia,by lia,?_⟩;refine lH (lo:=0) (n:=((↑e:Nat):Int).toNat) (λi f b=>∃ u:Option V,f=[⇑↥r,⇑(.int s),⇑.gi,⇑↥S,u]/\aH H b/\b S=⇑(.dK k)) ⟨none,1,d,l⟩ ?_ ?_
 ·rintro i f b C ⟨u,rfl,g,p⟩;let x:i<↑a:=by lia
  let z:=gX.k (k:=Sum.inl (0+(i:Int))) p;rw[w (0+(i:Int)) (by rw[show (0:Int)+(i:Int)=0+i from rfl];exact mL (JV 0 ↑a i x))]at z;exists Y,Y,S,Y,z,Z,Y;rw[decide_eq_false (show ¬ j (0+(i:Int)) > 200 from λy=>by have:=B.most (0+(i:Int)) ∅ ∅;lia)];exact gx ⟨Y,g,p⟩
 ·rintro f b ⟨u,rfl,g,_⟩;exact q b g
structure gQ(C CS:Addr)(S:Yf)(H:Hp)(x d wl sh bl kn du bk dS st op:Addr)(bL:lE)(ops:UF)(aA:iK):Prop where
 hx:H x=⇑(.ins C d [("B",↥wl),("y",↥sh),("G",↥bl),("O",↥kn),("dues",↥du),("book",↥bk)])
 W:Sh CS S H sh dS st op bL ops
 hb:H bk=⇑(kK aA)
 nx:¬ S x
 nb:¬ S bk
def Fr(b e:Yf)(f:Addr)(H c:Hp):Prop:=(∀ a,e a->b a\/H a=none)/\(∀ a d,H a=⇑d->¬ b a->a≠f->c a=⇑d)/\∀ a d,H a=⇑(.tup d)->c a=⇑(.tup d)
theorem Fr.same{b c:Yf}{d:Addr}{g H h:Hp}(s:aH g H)(f:Fr b c d H h):Fr b c d g h :=
 ⟨λa z=>(f.1 a z).imp id λy=>aP s y,λa i e j k=>f.2.1 a i (s _ _ e) j k,λa i e=>f.2.2 a i (s _ _ e)⟩
theorem gQ.same{a:Yf}{H b:Hp}{x d c e f g h i:Addr}{j:lE}{k:UF}{l:iK}(L:gQ C m a H x d c e f n g h o i p j k l)(s:aH H b):gQ C m a b x d c e f n g h o i p j k l :=
 ⟨s _ _ L.hx,L.W.same s,s _ _ L.hb,L.nx,L.nb⟩
theorem gQ.ql{b:Yf}{H:Hp}{x d c e f g a h:Addr}{i:lE}{j:UF}{k:iK}(L:gQ C m b H x d c e f n g a o h p i j k):x≠a:=λl=>by
 let z:=L.hx;rw[l,L.hb]at z;cases z
class inductive SY(C CS:Addr)
 | mk (b:Yf) (x d c e f g h i j k l:Addr) (m:lE) (a:UF) (n:iK) (_:vs=[↥x]) (_:gQ C CS b H x d c e f g h i j k l m a n) (_:Q (.int (↑a:Nat)) H)
class inductive Kq(C CS:Addr)
 | mk (k:Yf) (x l m n o p q c r t u:Addr) (d:lE) (v:UF) (f:iK) (y g:Addr) (h:jk) (i:UV) (e:List (Nat × List aT)) (b:List (List aT)) (_:vs=[↥x,↥y,↥g]) (_:gQ C CS k H x l m n o p q c r t u d v f) (_:h.At H y) (_:h.Ok) (_:H g=⇑(.lst (i.map V.ref))) (_:g≠c) (_:cI (Ir H) i e) (_:(∀ a∈i,∀ (s:Int) (z:Addr),H a=⇑(.tup [.int s,↥z])->z≠c)) (_:d.getLast?=⇑b) (_:Xr b e) (_:↑e<=200) (_:↑b<=500) (_:↑d<=1000) (_:↑f<=1000) (_ :
 ∀ (A:Yf) (j:Hp),gQ C CS A j x l m n o p q c r t u (d++[ng b e]) (v++List.replicate (↑(ng b e)-↑b) ((↑d:Nat):Int)) (f++[h.line])->Fr k A c H j->Q .gi j)
theorem xu:‹(2,57,["c"],(SY fK cO))›:=λD=>by
 specialize fP ["c"] D.ii.F;let⟨S,x,d,i,a,j,l,m,n,b,c,e,f,g,o,rfl,L,k⟩:=h;exists _,#v[aK (gC (dh (pv 0) rfl) D.cV D.WT (rS D) hr bO)]
 rfl'
 exact⟨Y,x,fK,d,_,↥a,1,L.hx,D.aQ.cl,D.gy,1,a,b,Y,L.W.hx,1,S,a,b,c,e,f,g,1,L.W,k⟩
theorem jR:‹(3,55,["c","T","Z"],(Kq fK cO))›:=λD=>by
 specialize fP ["c","T","Z"] D.Sk.F;let⟨S,x,s,wl,i,bl,kn,du,b,k,t,u,v,w,c,G,I,e,y,J,M,rfl,L,N,B,O,R,T,U,W,X,l1,l2,l3,l4,ab⟩:=h;exists _,#v[aW (eX o7 jW jX b9 (dh (pv 0) rfl) #[aB D.hG (AF D) hr #[1]]),aW (dG (dh (pv 0) rfl) D.cV D.hJ (AG D) hr bO #[2])]
 rfl'
 refine⟨Y,x,fK,s,_,↥b,1,L.hx,D.aQ.cl,D.Et,1,.inl ⟨1,_,bI.of L.hb⟩,Y,G,e,1,N,B,Ip B,λj l=>?_⟩;refine⟨b,Z,l _ _ L.hb,aN (by rw[cC];lia),?_⟩;let e2:(c.map λbw=>V.str (gc bw))++[V.str (gc e.line)]=(c++[e.line]).map λbw=>V.str (gc bw):=by rw[gI];rfl
 rw[e2]
 let d:cB b H (aL j b (kK (c++[e.line]))):=λa C q n=>by
  rw[aJ n];exact l _ _ q
 let m:(aL j b (kK (c++[e.line]))) b=⇑(kK (c++[e.line])):=af
 let F:∀ a,(aL j b (kK (c++[e.line]))) a=none->H a=none:=λa q=>by
  by_cases z:a=b
  ·rw[z,af]at q;cases q
  ·rw[aJ z]at q;exact aP l q
 generalize aL j b (kK (c++[e.line]))=c at d m F;let o:∀ a g,H a=⇑(.tup g)->c a=⇑(.tup g):=λa g q=>d _ _ q (cP q L.hb);have b:Sh cO S c i k t u v w:=L.W.keep L.hb L.nb d;have p:=d _ _ L.hx L.ql;refine⟨Y,x,fK,s,_,↥i,1,p,D.aQ.cl,D.gy,1,i,k,Y,b.hx,1,Y,S,i,k,t,u,I,v,w,y,J,M,1,b,d _ _ O R,?_,W,X,l1,l2,l3,λS' H3 W3 f r tp=>?_⟩
 ·let ae:∀ {b:UV} {e:List (Nat × List aT)},cI (Ir H) b e->(∀ a∈b,a∈y)->cI (Ir c) b e:=by
   intro b e q
   induction q with
   | nil=>intro _;exact .nil
   | cons C t b =>
    intro f;refine .cons ?_ (b λa b=>f a (jT _ b));let⟨c,b,e⟩:=C;let i:=U _ (f _ nP) _ c b;exact⟨c,o _ _ b,e.fr (λg q=>d _ _ q i) o⟩
  exact ae T λ_ z=>z
 ·refine ab S' H3 ⟨r _ _ p L.nx,W3,r _ _ m L.nb,λz=>?_,λz=>?_⟩ ⟨λa z=>(f a z).imp id λq=>F a q,λa c q n b=>r _ _ (d _ _ q b) n,λa g q=>tp _ _ (o _ _ q)⟩
  ·rcases f _ z with q|q
   ·exact L.nx q
   ·rw[p]at q;cases q
  ·rcases f _ z with q|q
   ·exact L.nb q
   ·rw[m]at q;cases q
abbrev qT(a:gY):lE:=a.map λb=>b.map aF
def iR(a:cZ)(s:Nat)(b:UF):cZ:=a.take s++[b]++a.drop (s+1)
def S0(a:cZ)(s:Nat)(b:UF):ng (a.map aF) [(s,aF b)]=(iR a s b).map aF:=by
 show (a.map aF).take s++[aF b]++(a.map aF).drop (s+1)=_;unfold iR;rw[gI,gI,List.map_take,List.map_drop];rfl
def FL{a:cZ}{s:Nat}{b:UF}(h:s<=↑a):↑(iR a s b)=if s=↑a then ↑a+1 else ↑a:=by
 unfold iR;rw[cR,cR,gO,pD];show min s ↑a+1+_=_;rw[Nat.min_eq_left h];split
 ·rename_i e;rw[e,Nat.sub_eq_zero_of_le (Nat.le_succ _)]
 ·exact Nat.add_sub_cancel' ∅
def Pu(a:UF)(n s m:Nat):UF:=a++if s=n then [(m:Int)] else []
def Xx{a:cZ}{s:Nat}{d:UF}{b:UF}{m:Nat}(h:s<=↑a):b++List.replicate (↑((iR a s d).map aF)-↑(a.map aF)) (m:Int)=Pu b ↑a s m:=by
 rw[cC,cC,FL h];unfold Pu;by_cases c:s=↑a
 ·rw[if_pos c,if_pos c,show ↑a+1-↑a=1 by lia];rfl
 ·rw[if_neg c,if_neg c,Nat.sub_self];rfl
class inductive FN(C CS:Addr)
 | mk (i:Yf) (x j k l m n o c p q t:Addr) (b:gY) (u:UF) (d:iK) (v r:Addr) (e:jk) (s:Nat) (g:UF) (a:cZ) (f:Int->Int) (_:vs=[↥x,↥v,.int (s:Nat),↥r]) (_:gQ C CS i H x j k l m n o c p q t (qT b) u d) (_:e.At H v) (_:e.Ok) (_:bU H ↥r (aF g)) (_:r≠c) (_:b.getLast?=⇑a) (_:s<=↑a) (_:↑a<=50) (_:↑b<=900) (_:↑d<=900) (_:mH (iR a s g) f) (_ :
 ∀ (y:Yf) (h:Hp),gQ C CS y h x j k l m n o c p q t (qT (b++[iR a s g])) (Pu u ↑a s ↑b) (d++[e.line])->Fr i y c H h->Q .gi h)
def kF{a:gY}{b:cZ}(h:a.getLast?=⇑b):(qT a).getLast?=⇑(b.map aF):=by
 rw[List.getLast?_map,h];rfl
def Px{H a:Hp}{b:UV}{c:List (List aT)}{r:Addr}{d:List aT}{s:Nat}(f:cI (λq i=>bU a ↥q i) b c)(g:bU a ↥r d):cI (bU a) ((b.map V.ref).take s++[↥r]++(b.map V.ref).drop (s+1)) (c.take s++[d]++c.drop (s+1)):=by
 let e:cI (bU a) (b.map V.ref) c:=by
  induction f with
  | nil=>exact .nil
  | cons o t h=>exact .cons o h
 exact ((e.take s).app (.cons g .nil)).app (e.drop (s+1))
theorem eN:‹(5,56,["c","T","f","j"],(FN fK cO))›:=λD=>by
 specialize fP ["c","T","f","j"] D.Fb.F;let⟨S,x,l,M,g,N,O,R,u,m,v,w,b,n,T,U,r,W,s0,c,a,X,rfl,L,de,ok,y,ab,hl,j,l1,l2,l3,ae,ag⟩:=h;let o:=kF hl;let lp:↑(qT b)=↑b:=cC _
 let lo:↑n=↑a:=by
  let⟨f,d,e⟩:=L.W.QI.Cb;rw[o]at d;cases d;rw[e,cC]
 exists _,#v[aW (aB D.h9 (zI D) hr #[aB D.WS (zF D) hr #[gC (dh (pv 0) rfl) D.cV D.C2 (fV D) hr bO,2,3],2]),aW (dG (pv 0) D.aQ D.Sk (jR D) hr bO #[1,bK #[cT #[2,3]]])]
 rfl'
 refine⟨Y,x,fK,l,_,↥g,1,L.hx,D.aQ.cl,D.gy,1,g,m,Y,L.W.hx,1,S,g,m,v,w,qT b,n,1,L.W,⟨by lia,by lia⟩,λan B ai H1 fs p=>?_⟩;rw[o]at B;cases B;let⟨B,rs,hq,C⟩:=fs;let B:↑rs=↑a:=by rw[C.len,cC]
 let am:=y.same p;let L1:=L.same p;refine⟨Y,Y,ai,r,_,s0,1,hq,by rw[cC,B];exact j,by rw[cC,B];lia,λB H2 Uo q f2=>?_⟩
 refine⟨Y,B,iR a s0 c,(s0:Int),X,1,⟨_,Uo,?_⟩,ae,by lia,by rw[FL j];split <;> lia,λe s3=>?_⟩
 ·let z:=Px (H:=H) (a:=H2) (s:=s0) (C.mono λf k d=>(d.2.2).same q) (am.same q)
  let f:(a.map aF).take s0++[aF c]++(a.map aF).drop (s0+1)=(iR a s0 c).map aF:=by
   unfold iR;rw[gI,gI,List.map_take,List.map_drop];rfl
  rw[f]at z;exact z
 let F:=p.trans (q.trans s3);let q:=L.same F;refine⟨Y,x,l,Y,q.hx,1,Y,Y,Y,mJ,λt B=>⟨mq,λd p=>?_⟩⟩;let G:aH e (aL (aL e t (.tup [.int (s0:Nat),↥r])) d (.lst [↥t])):=(ak B _).trans (ak p _);let s:(aL (aL e t (.tup [.int (s0:Nat),↥r])) d (.lst [↥t])) t=⇑(.tup [.int (s0:Nat),↥r]):=ak p _ _ _ af;let I:(aL (aL e t (.tup [.int (s0:Nat),↥r])) d (.lst [↥t])) d=⇑(.lst ([t].map V.ref)):=af
 let nc:d≠u:=λz=>by
  have:=ak B (.tup [.int (s0:Nat),↥r]) _ _ q.hb;rw[← z,p]at this;cases this
 generalize aL (aL e t (.tup [.int (s0:Nat),↥r])) d (.lst [↥t])=e at G s I;let k:=F.trans G;refine⟨S,x,l,M,g,N,O,R,u,m,v,w,qT b,n,T,U,d,W,[t],[(s0,aF c)],a.map aF,1,L.same k,de.same k,ok,I,nc,.cons ⟨r,s,y.same k⟩ .nil,?_,o,?_,(by show 1<=200;decide),by rw[cC];lia,by lia,by lia,λS' H' J fr=>?_⟩
 ·intro e d g l f;rw[List.mem_singleton.mp d,s]at f;cases f;exact ab
 ·intro i d f
  match i,f with
  | 0,f =>
   cases f;show s0<=↑(a.map aF);rw[cC];exact j
  | i+1,f=>cases f
 ·rw[S0,Xx j,lp]at J;refine ag S' H' ?_ (fr.same k)
  let f:qT (b++[iR a s0 c])=qT b++[(iR a s0 c).map aF]:=by
   show (b++[iR a s0 c]).map _=_;rw[gI];rfl
  rw[f];exact J
class inductive S9(C CS:Addr)
 | mk (i:Yf) (x j k l m n o c p q t:Addr) (b:gY) (u:UF) (d:iK) (v r:Addr) (e:jk) (g:UF) (a:cZ) (_:vs=[↥x,↥v,↥r]) (_:gQ C CS i H x j k l m n o c p q t (qT b) u d) (_:e.At H v) (_:e.Ok) (_:bU H ↥r (aF g)) (_:r≠c) (_:b.getLast?=⇑a) (_:↑a<=50) (_:↑b<=900) (_:↑d<=900) (_:↑a<40) (_:((∃ f,mH (a++[g]) f)/\∀ (y:Yf) (h:Hp),gQ C CS y h x j k l m n o c p q t (qT (b++[a++[g]])) (u++[((↑b:Nat):Int)]) (d++[e.line])->Fr i y c H h->Q (.int (↑a:Nat)) h))
def FO(a:cZ)(b:UF):iR a ↑a b=a++[b]:=by
 unfold iR;rw[gP,wX ∅,gG]
def Dl{e:Yf}{H:Hp}{x f g h i j k l:Addr}{a:gY}{b:UF}{m:iK}{c:cZ}(L:gQ C p e H x f g h i q j k r l t (qT a) b m)(n:a.getLast?=⇑c):↑b=↑c:=by
 let⟨s,d,o⟩:=L.W.QI.Cb;rw[kF n]at d;cases d;rw[o,cC]
theorem vO:‹(6,58,["c","T","j"],(S9 fK cO))›:=λD=>by
 let⟨r,s⟩:=D.G.s;specialize fP ["c","T","j","f"] D.ij.F;let⟨S,x,d,f,g,i,j,k,l,m,n,o,a,b,p,t,u,v,w,c,rfl,L,y,z,B,C,q,F,G,I,U,J⟩:=h;let lo:=Dl L q;exists _,#v[aX 3 (gC (pv 0) D.aQ D.ii (xu D) hr bO),bM (aV Ub (pv 3) (Jr (v:=.int 40) rfl s ⟨r,1⟩) (bh _)) #v[ie] bg,aW (dG (pv 0) D.aQ D.Fb (eN D) hr bO #[1,3,2]),aK (pv 3)]
 rfl'
 exists Y,x,d,Y,L.hx,1,S,x,d,f,g,i,j,k,l,m,n,o,qT a,b,p,1,L;rw[lo];refine⟨Y,Z,Y,dN (λr=>?_) (λr=>?_)⟩
 ·exact absurd (of_decide_eq_true r) ∅
 ·let⟨⟨r,s⟩,M⟩:=J;refine⟨Y,x,d,Y,L.hx,1,Y,Y,Y,S,x,d,f,g,i,j,k,l,m,n,o,a,b,p,t,u,v,↑c,w,c,r,1,L,y,z,B,C,q,d7 _,F,G,I,by rw[FO];exact s,λN O e R=>?_⟩;rw[FO]at e;let T:Pu b ↑c ↑c ↑a=b++[((↑a:Nat):Int)]:=by unfold Pu;rw[if_pos rfl]
  rw[T]at e;exact⟨Y,M N O e R⟩
abbrev fI:List Nat:=(Str.ofString "5").cps.toList
theorem Py:(jk.plain fI []).Ok:=⟨nofun,λ_ z=>by cases z⟩
class inductive Tc(C CS:Addr)
 | mk (g:Yf) (x h i j k l m c n o p:Addr) (b:gY) (q:UF) (d:iK) (a:cZ) (_:vs=[↥x]) (_:gQ C CS g H x h i j k l m c n o p (qT b) q d) (_:b.getLast?=⇑a) (_:↑a<=50) (_:↑b<=900) (_:↑d<=900) (_:↑a<40) (_:((∃ f,mH (a++[[]]) f)/\∀ (r:Yf) (e:Hp),gQ C CS r e x h i j k l m c n o p (qT (b++[a++[[]]])) (q++[((↑b:Nat):Int)]) (d++[(jk.plain fI []).line])->Fr g r c H e->Q (.int (↑a:Nat)) e))
theorem vP:‹(7,59,["c"],(Tc fK cO))›:=λD=>by
 specialize fP ["c"] D.WU.F;let⟨S,x,d,i,j,k,l,m,c,n,o,p,q,s,u,v,rfl,L,w,y,z,B,C,F⟩:=h;exists _,#v[aK (dG (pv 0) D.aQ D.ij (vO D) hr bO #[cT #[bC],bK ah])]
 rfl'
 refine⟨Y,x,d,Y,L.hx,1,mq,λt e=>⟨iD,λr a=>?_⟩⟩;let b:aH H (aL (aL H t (.tup [.str "5"])) r (.lst [])):=(ak e _).trans (ak a _);let f:(aL (aL H t (.tup [.str "5"])) r (.lst [])) t=⇑(.tup [.str "5"]):=ak a _ _ _ af;let g:(aL (aL H t (.tup [.str "5"])) r (.lst [])) r=⇑(.lst []):=af
 let G:r≠c:=λI=>by
  have:=ak e (.tup [.str "5"]) _ _ L.hb;rw[← I,a]at this;cases this
 generalize aL (aL H t (.tup [.str "5"])) r (.lst [])=a at b f g;exists S,x,d,i,j,k,l,m,c,n,o,p,q,s,u,t,r,.plain fI [],[],v,1,L.same b,by show a t=_;rw[f,qf];rfl,Py,⟨r,[],1,g,.nil⟩,G,w,y,z,B,C;let⟨B,a⟩:=F;exact⟨B,λc d e f=>a c d e (f.same b)⟩
theorem lP{H b:Hp}{c:Addr}{o:HO}(d:H a=none)(f:H c=none)(k:cB a (aL (aL H c (.own a)) a o) b):aH H b:=λg h e=>k g h (by rw[aJ (az e d),aJ (az e f)];exact e) (az e d)
theorem Sh.kG{a:Yf}{H b:Hp}{x d c l:Addr}{f:lE}{g:UF}{i:List (Str × V)}(j:Sh C a H x d c m f g)(n:H l=⇑(.ins r t i))(o:¬ a l)(k:cB l H b):Sh C a b x d c m f g :=
 j.fr (λh p e z=>k h p e (λq=>o (by rw[← q];exact z))) (λh h e=>k _ _ e (cP e n))
structure Seen(rows:cZ)(sh:Y1):Prop where
 es:∀ es∈rows,↑es<=1000
 sd:gM rows
 rk:CM rows
 ss:mz rows sh
 ln:∀ x:Int,0<=x->x<↑rows->↑(sh x)<=10000
def SN.at_{H a:Hp}{q:Addr}{d:List (List aT)}(h:SN H a q d):gU a q d:=by
 let⟨_,b,c,e⟩:=h;exists b.map V.ref,c
 let f:∀ {b:UV} {c:List (List aT)},cI (λr g=>H r=none/\r≠q/\bU a ↥r g) b c->cI (bU a) (b.map V.ref) c:=by
  intro b c z
  induction z with
  | nil=>exact .nil
  | cons o t b=>exact .cons o.2.2 b
 exact f e
def gQ.rws{e:Yf}{H:Hp}{x j k b l m n f:Addr}{a:gY}{g:UF}{o:iK}{c:cZ}{Q:VK}{E:XK}(L:gQ C p e H x j k b l y m n r f t (qT a) g o)(h:a.getLast?=⇑c)(z:↑c<=50)(A:↑a<=900)(u:∀ (q:Addr) (d:Hp),gU d q (c.map aF)->aH H d->Q ↥q d):Po p [↥b] H Q E:=by
 let lo:=Dl L h;let B:↑(qT a)=↑a:=cC _;refine⟨e,b,r,f,t,qT a,g,1,L.W,⟨by lia,by lia⟩,λrws i q v w s=>?_⟩;rw[kF h]at i;cases i;exact u q v w.at_ s
theorem gQ.Xy{c:Yf}{H:Hp}{x g h a i j k d:Addr}{b:gY}{e:UF}{l:iK}{f:cZ}{s:Int}{Q:VK}{E:XK}(L:gQ C m c H x g h a i t j k n d o (qT b) e l)(p:b.getLast?=⇑f)(q:qj ↑f s)(r:Q .gi H):Cd m [↥a,.int s] H Q E:=⟨c,a,n,d,o,qT b,e,s,1,L.W,by rw[Dl L p];exact q,r⟩
class inductive Pz(C CS:Addr)
 | mk (d:Yf) (x e g h i j k l m n p:Addr) (b:gY) (q:UF) (r:iK) (a:cZ) (s:Int) (_:vs=[↥x,.int s]) (_:gQ C CS d H x e g h i j k l m n p (qT b) q r) (_:b.getLast?=⇑a) (_:↑a<=50) (_:↑b<=900) (_:qj ↑a s) (_:(∃ f,Seen a f/\∀ (o:Addr) (c:Hp),bP c o (cL (f s))->aH H c->H o=none->Q ↥o c))
theorem jS:‹(5,64,["c","f"],(Pz fK cO))›:=λD=>by
 specialize fP ["c","f"] D.Sm.F;let⟨S,x,d,a,b,l,m,n,o,e,p,q,r,s,t,g,s0,rfl,L,f,i,j,c,k⟩:=h;exists _,#v[aW (dG (dh (pv 0) rfl) D.cV D.E9 (cY D) hr bO #[1]),aK (_fC.um D.OQ (D.T.qg _ D.OQ.m) (Fo D) hr #[gC (dh (pv 0) rfl) D.cV D.C2 (fV D) hr bO,1])]
 rfl'
 refine⟨Y,x,fK,d,_,↥b,1,L.hx,D.aQ.cl,D.gy,1,b,e,Y,L.W.hx,1,Y,L.Xy f c ?_⟩;let⟨l,a,m⟩:=k;refine⟨Y,x,fK,d,_,↥b,1,L.hx,D.aQ.cl,D.gy,1,b,e,Y,L.W.hx,1,L.rws f i j λq e d b=>?_⟩;let e:=d;exact⟨Y,q,g,s0,l,1,e,by lia,a.es,a.sd,a.rk,c.1,c.2,a.ss,a.ln,λo a c d e=>m o a c (b.trans d) (aP b e)⟩
theorem gQ.fr{c:Yf}{H d:Hp}{x f g h i j e l:Addr}{m:lE}{n:UF}{o:iK}(L:gQ C q c H x f g h i r j e t l u m n o)(k:∀ a b,H a=⇑b->(c a\/a=e\/a=x)->d a=⇑b)(v:∀ a p,H a=⇑(.tup p)->d a=⇑(.tup p)):gQ C q c d x f g h i r j e t l u m n o :=
 ⟨k _ _ L.hx (.inr (.inr rfl)),L.W.fr (λa b s z=>k a b s (.inl z)) v,k _ _ L.hb (.inr (.inl rfl)),L.nx,L.nb⟩
structure qm(C CS CW CB:Addr)(U S SW:Yf)(H:Hp)(x d wl sh bl kn du bk dS st op dw sg ow pw db tb:Addr)(pe:gY)(ops:UF)(aA:iK)(aC:gD)(nW:Nat)(aU:Row):Prop where
 L:gQ C CS S H x d wl sh bl kn du bk dS st op (qT pe) ops aA
 W:We CW SW H wl dw sg ow pw nW aC
 B:Bl CB H bl db tb
 R:bP H tb aU
 Al:EY aU
 dj:∀ a,SW a->¬ S a/\a≠bk/\a≠x
 db:¬ S bl/\¬ SW bl/\bl≠bk
 dt:¬ S tb/\¬ SW tb/\tb≠bk
 u:∀ a,U a↔S a\/SW a\/a=bk\/a=x\/a=bl\/a=tb
inductive oq(C CS CW CB:Addr)(U:Yf)(H:Hp)(x:Addr)(pe:gY)(aA:iK)(aC:gD)(nW:Nat)(aU:Row):Prop
 | mk (a b:Yf) (d c e f g h i j k l m n o p q r:Addr) (t:UF) (_:qm C CS CW CB U a b H x d c e f g h i j k l m n o p q r pe t aA aC nW aU)
def xx(U d:Yf)(H b:Hp):Prop:=(∀ a,d a->U a\/H a=none)/\(∀ a c,H a=⇑c->¬ U a->b a=⇑c)/\∀ a c,H a=⇑(.tup c)->b a=⇑(.tup c)
theorem xx.same{U:Yf}{H a:Hp}(s:aH H a):xx U U H a:=⟨λ_ z=>.inl z,λb c e _=>s b c e,λb b e=>s _ _ e⟩
theorem xx.pre{U b:Yf}{c H d:Hp}(s:aH c H)(f:xx U b H d):xx U b c d:=⟨λa z=>(f.1 a z).imp id λy=>aP s y,λa g e n=>f.2.1 a g (s _ _ e) n,λa g e=>f.2.2 a g (s _ _ e)⟩
def qm.fr{U f g:Yf}{H c:Hp}{x h i j l m n o p q db:Addr}{r:gY}{v:UF}{y:iK}{A:gD}{C:Nat}{D:Row}(G:qm I J M N U f g H x h i j l O m n T o op p sg ow q db tb r v y A C D)(k:∀ a b,H a=⇑b->U a->c a=⇑b)(t:∀ a d,H a=⇑(.tup d)->c a=⇑(.tup d)):qm I J M N U f g c x h i j l O m n T o op p sg ow q db tb r v y A C D:=by
 let⟨L,W,B,R,Al,dj,s,dt,u⟩:=G;refine⟨L.fr (λa b e z=>k a b e ((u a).mpr ?_)) t,W.fr (λa b e z=>k a b e ((u a).mpr (.inr (.inl z)))) t,k _ _ B ((u _).mpr (.inr (.inr (.inr (.inr (.inl rfl)))))),R.two (λd e=>k _ _ e ((u _).mpr (.inr (.inr (.inr (.inr (.inr rfl))))))) t,Al,dj,s,dt,u⟩;rcases z with z|z|z
 ·exact .inl z
 ·exact .inr (.inr (.inl z))
 ·exact .inr (.inr (.inr (.inl z)))
theorem qm.same{U a b:Yf}{H c:Hp}{x d f g h i j k l m db:Addr}{n:gY}{o:UF}{p:iK}{q:gD}{r:Nat}{t:Row}(v:qm C y z A U a b H x d f g h D i j G k I l J M m db N n o p q r t)(s:aH H c):qm C y z A U a b c x d f g h D i j G k I l J M m db N n o p q r t:=v.fr (λu w e _=>s u w e) λu u e=>s _ _ e
def oq.fr{U:Yf}{H b:Hp}{x:Addr}{c:gY}{d:iK}{e:gD}{f:Nat}{g:Row}(j:oq C k l n U H x c d e f g)(o:∀ a h,H a=⇑h->U a->b a=⇑h)(t:∀ a i,H a=⇑(.tup i)->b a=⇑(.tup i)):oq C k l n U b x c d e f g:=by
 let⟨S,m,p,q,r,s,u,v,w,y,z,A,B,D,F,G,I,J,L,M⟩:=j;exact⟨S,m,p,q,r,s,u,v,w,y,z,A,B,D,F,G,I,J,L,M.fr o t⟩
theorem oq.same{U:Yf}{H a:Hp}{x:Addr}{b:gY}{c:iK}{d:gD}{f:Nat}{g:Row}(i:oq C j k l U H x b c d f g)(s:aH H a):oq C j k l U a x b c d f g:=i.fr (λh m e _=>s h m e) λh h e=>s _ _ e
def qm.uL{U i c j:Yf}{H f:Hp}{x k l m g o d p r t db:Addr}{pe v:gY}{ab A:UF}{aA C:iK}{D:gD}{G:Nat}{I:Row}(ae:qm J M CW CB U i j H x k l m g N o d O p T r sg ow t db tb pe ab aA D G I)(L':gQ J M c f x k l m g N o d O p T (qT v) A C)(fr:Fr i c d H f):∃ U',oq J M CW CB U' f x v C D G I/\xx U U' H f:=by
 let⟨L,W,B,R,Al,dj,h,dt,u⟩:=ae;let⟨w,s,_⟩:=id R
 let q:∀ a b,H a=⇑b->¬ i a->¬ c a:=λa b e n z=>by
  rcases fr.1 a z with y|y
  ·exact n y
  ·rw[e]at y;cases y
 refine⟨λa=>c a\/j a\/a=d\/a=x\/a=g\/a=tb,⟨c,j,k,l,m,g,N,o,d,O,p,T,r,sg,ow,t,db,tb,A,L',W.fr (λa b e z=>fr.2.1 _ _ e (dj a z).1 (dj a z).2.1) fr.2.2,fr.2.1 _ _ B h.1 h.2.2,R.two (λw e=>fr.2.1 _ _ e dt.1 dt.2.2) fr.2.2,Al,λa z=>?_,⟨q _ _ B h.1,h.2⟩,⟨q _ _ s dt.1,dt.2⟩,λa=>Iff.rfl⟩,λa z=>?_,λa b e n=>?_,fr.2.2⟩
 ·let⟨b,e⟩:=W.al a z;exact⟨q _ _ e (dj a z).1,(dj a z).2⟩
 ·rcases z with z|z
  ·exact (fr.1 a z).imp (λy=>(u a).mpr (.inl y)) id
  ·exact .inl ((u a).mpr (.inr z))
 ·exact fr.2.1 a b e (λz=>n ((u a).mpr (.inl z))) (λz=>n ((u a).mpr (.inr (.inr (.inl z)))))
theorem cz:∀ y∈([]:UF),jQ y:=λ_ z=>by cases z
theorem GO{x:Int}{l:UF}(a:0<=x)(b:x<10^60)(g:∀ y∈l,jQ y):∀ y∈x::l,jQ y:=λy z=>(List.mem_cons.mp z).elim (λe=>by rw[e];exact⟨a,b⟩) (g y)
def qm.chg{U l N:Yf}{H d:Hp}{x m o p q r v y O T db t e:Addr}{b:gY}{z:UF}{f:iK}{A:gD}{C:Nat}{D:Row}{a:cZ}{G:Str}{n:List Nat}{c g:UF}{s:Int}{Q:VK}{E:XK}(i:qm I J CW CB U l N H x m o p q kn r v dS y op O sg ow T db tb b z f A C D)(j:aH H d)(ht:d t=⇑(.tup (.str G::c.map V.int)))(hn:G=gc n)(hk:kC QH n=⇑(↑c:Int))(hf:∀ ab∈c,jQ ab)(hq:bU d ↥e (aF g))(fq:H e=none)(hl:b.getLast?=⇑a)(l1:↑a<=50)(l2:↑b<=900)(l3:↑f<=900)(M:qj ↑a s)(B:∃ ae,mH (iR a s.toNat g) ae)(ag:∀ (h:Yf) (k:Hp),oq I J CW CB h k x (b++[iR a s.toNat g]) (f++[(jk.plain n c).line]) A C D->xx U h H k->Q .gi k):FN I J [↥x,↥t,.int s,↥e] d Q E:=by
 subst hn;let u:=M.1;let u:=M.2;let u:((s.toNat:Nat):Int)=s:=by lia
 let⟨w,B⟩:=B;refine⟨l,x,m,o,p,q,kn,r,v,dS,y,op,b,z,f,t,e,.plain n c,s.toNat,g,a,w,by rw[u],(i.same j).L,ht,⟨hk,hf⟩,hq,(λu=>by have:=i.L.hb;rw[← u,fq]at this;cases this),hl,by lia,l1,l2,l3,B,λL u w F=>?_⟩;let⟨h,L,R⟩:=(i.same j).uL w F;exact ag h u L (R.pre j)
class inductive Te(C CS CW CB:Addr)
 | mk (U:Yf) (x:Addr) (c:gY) (e:iK) (a:gD) (f:Nat) (i:Row) (h:Int) (b:List Nat) (g:cZ) (_:vs=[↥x,.int h,.str (gc b)]) (_:oq C CS CW CB U H x c e a f i) (_:jQ h) (_:↑b<=200) (_:↑a<=90000) (_:f<=900) (_:c.getLast?=⇑g) (_:↑g<=50) (_:↑c<=900) (_:↑e<=900) (_ :
 ∀ (j:Yf) (q:Addr) (d:Hp),oq C CS CW CB j d x (c++[g]) (e++[(jk.vI h b).line]) (a++mW h b) (f+1) i->xx U j H d->d q=⇑(.tup [.int (↑a:Nat),.int (↑(a++mW h b):Nat)])->Q ↥q d)
theorem xy:‹(4,62,["c","C","text"],(Te fK cO dH fG))›:=λD=>by
 specialize fP ["c","C","text","stretch"] D.WW.F;let⟨an,x,c,F,aC,nW,aU,h,d,f,rfl,⟨S,o,p,l,G,s,I,J,m,M,N,O,R,sg,ow,pw,db,tb,g,LU⟩,fh,lc,li,ln,hl,l1,l2,l3,k⟩:=h;let⟨L,W,ae,ag,Al,dj,v,w,u⟩:=id LU;exists _,#v[aX 3 (dG (dh (pv 0) rfl) D.iF D.hZ (Di D) hr bO #[1,2]),aW (dG (pv 0) D.aQ D.Sk (jR D) hr bO #[cT #[bC,1,2],bK ah]),aK (pv 3)]
 rfl'
 refine⟨Y,x,fK,p,_,↥l,1,L.hx,D.aQ.cl,D.ua,1,l,R,Y,W.hx,1,Y,Y,o,l,R,sg,ow,pw,nW,aC,h,d,1,W,by lia,by lia,λT ai i W1 hq U q X=>?_⟩
 let ab:∀ a b,H a=⇑b->¬ o a->¬ T a:=λa b e r z=>by
  rcases U a z with y|y
  ·exact r y
  ·rw[e]at y;cases y
 let am:∀ a b,H a=⇑b->(S a\/a=m\/a=x)->¬ o a:=λa b e z y=>by
  let⟨B,j,n⟩:=dj a y;rcases z with z|z|z
  ·exact B z
  ·exact j z
  ·exact n z
 let L1:gQ fK cO S i x p l G s I J m M N O (qT c) g F:=L.fr (λa b e z=>q _ _ e (am a b e z)) X;let⟨as,hR,_⟩:=id ag
 let Mu:qm fK cO dH fG (λa=>S a\/T a\/a=m\/a=x\/a=s\/a=tb) S T i x p l G s I J m M N O R sg ow pw db tb c g F (aC++mW h d) (nW+1) aU:=by
  refine⟨L1,W1,q _ _ ae v.2.1,ag.two (λxs e=>q _ _ e w.2.1) X,Al,λa z=>?_,⟨v.1,ab _ _ ae v.2.1,v.2.2⟩,⟨w.1,ab _ _ hR w.2.1,w.2.2⟩,λa=>Iff.rfl⟩;rcases U a z with y|y
  ·exact dj a y
  ·refine⟨λj=>?_,λj=>?_,λj=>?_⟩
   ·let⟨b,e⟩:=L.W.al a j;rw[y]at e;cases e
   ·rw[j,L.hb]at y;cases y
   ·rw[j,L.hx]at y;cases y
 refine⟨Y,x,p,Y,L1.hx,1,Y,Y,RW,λt w=>⟨iD,λj v=>?_⟩⟩;let n:aH i (aL (aL i t (.tup [.str "pour",.int h,.str (gc d)])) j (.lst [])):=(ak w _).trans (ak v _);let HD:(aL (aL i t (.tup [.str "pour",.int h,.str (gc d)])) j (.lst [])) t=⇑(.tup [.str "pour",.int h,.str (gc d)]):=ak v _ _ _ af;let GL:(aL (aL i t (.tup [.str "pour",.int h,.str (gc d)])) j (.lst [])) j=⇑(.lst (([]:UV).map V.ref)):=af
 let nc:j≠m:=λz=>by
  have:=ak w (.tup [.str "pour",.int h,.str (gc d)]) _ _ L1.hb;rw[← z,v]at this;cases this
 generalize aL (aL i t (.tup [.str "pour",.int h,.str (gc d)])) j (.lst [])=i at n HD GL;let i:↑(qT c)=↑c:=cC _;let Cf:=Mu.same n;refine⟨S,x,p,l,G,s,I,J,m,M,N,O,qT c,g,F,t,j,.vI h d,[],[],f.map aF,1,Cf.L,HD,⟨fh,lc⟩,GL,nc,.nil,(λ_ z=>by cases z),kF hl,(λi d e=>by cases e),(by show 0<=200;decide),by rw[cC];lia,by lia,by lia,λd H3 L3 X7=>?_⟩
 let ep:qT c++[ng (f.map aF) []]=qT (c++[f]):=by
  show _=(c++[f]).map _;rw[gI];rfl
 let d:g++List.replicate (↑(ng (f.map aF) [])-↑(f.map aF)) ((↑(qT c):Nat):Int)=g:=by
  show g++List.replicate (↑(f.map aF)-↑(f.map aF)) _=g;rw[Nat.sub_self];exact gG _
 rw[ep,d]at L3;let⟨c,d,C⟩:=Cf.uL L3 X7;refine⟨Y,k c ai H3 d ⟨λa z=>?_,λa b e r=>?_,λa xs e=>C.2.2 _ _ (n _ _ (X _ _ e))⟩ (C.2.2 _ _ (n _ _ hq))⟩
 ·rcases C.1 a z with y|y
  ·rcases y with y|y|y
   ·exact .inl ((u a).mpr (.inl y))
   ·exact (U a y).imp (λbw=>(u a).mpr (.inr (.inl bw))) id
   ·exact .inl ((u a).mpr (.inr (.inr y)))
  ·let B:=aP n y
   cases e:H a with
   | none=>exact .inr rfl
   | some b =>
    by_cases c:o a
    ·exact .inl ((u a).mpr (.inr (.inl c)))
    ·rw[q _ _ e c]at B;cases B
 ·let B:¬ o a:=λz=>r ((u a).mpr (.inr (.inl z)));refine C.2.1 a b (n _ _ (q _ _ e B)) λz=>?_;rcases z with z|z|z
  ·exact r ((u a).mpr (.inl z))
  ·exact ab _ _ e B z
  ·exact r ((u a).mpr (.inr (.inr z)))
class inductive FQ(C CS CW CB:Addr)
 | mk (U:Yf) (x:Addr) (b:gY) (c:iK) (a:gD) (d:Nat) (e:Row) (_:vs=[↥x]) (_:oq C CS CW CB U H x b c a d e) (_:Q (.int (↑a:Nat)) H)
class inductive FT(C CS CW CB:Addr)
 | mk (U:Yf) (x r:Addr) (d:gY) (e:iK) (b:gD) (f:Nat) (g a:Row) (_:vs=[↥x,↥r]) (_:oq C CS CW CB U H x d e b f g) (_:bP H r a) (_:↑a<=1000) (_:om ↑b a=true) (_:∀ c,aH H c->Q .gi c)
theorem zJ:‹(2,60,["c"],(FQ fK cO dH fG))›:=λD=>by
 specialize fP ["c"] D.pd.F;let⟨U,x,i,j,aC,l,m,rfl,⟨S,n,d,b,o,p,q,r,s,t,u,v,c,e,f,g,w,y,z,a⟩,k⟩:=h;exists _,#v[aK (gC (dh (pv 0) rfl) D.iF D.LQ (jC D) hr bO)]
 rfl'
 exact⟨Y,x,fK,d,_,↥b,1,a.L.hx,D.aQ.cl,D.ua,1,b,c,Y,a.W.hx,1,b,c,e,f,g,aC,1,a.W.hx,a.W.hs,k⟩
theorem jG:‹(3,61,["c","k"],(FT fK cO dH fG))›:=λD=>by
 let g:bq c9 bw bZ cW cU cS 2 _ _ ["c"] (FQ fK cO dH fG):=zJ D;specialize fP ["c","k"] D.WV.F;let⟨U,x,r,s,t,d,e,u,f,rfl,g,i,j,k,l⟩:=h;let⟨S,m,n,a,s,t,u,v,w,y,z,B,c,o,p,q,C,F,G,b⟩:=id g;exists _,#v[bM (jJ (lT (dG (dh (pv 0) rfl) D.iF D.h8 (AH D) hr bO #[1]))) #v[ie] bg]
 rfl'
 refine⟨Y,x,fK,n,_,↥a,1,b.L.hx,D.aQ.cl,D.ua,1,a,c,Y,b.W.hx,1,Y,m,a,c,o,p,q,r,e,d,f,1,b.W,i,j,λa b=>⟨Y,?_⟩⟩;rw[k];exact gx (l a b)
abbrev f':List Nat:=(Str.ofString "put").cps.toList
class inductive Tg(C CS CW CB:Addr)
 | mk (U:Yf) (x r:Addr) (c:gY) (g:iK) (d:gD) (j:Nat) (k b:Row) (s p:Int) (a:cZ) (_:vs=[↥x,.int s,.int p,↥r]) (_:oq C CS CW CB U H x c g d j k) (_:bP H r b) (_:Ml b) (_:↑d<=100000) (_:c.getLast?=⇑a) (_:↑a<=50) (_:↑c<=900) (_:↑g<=900) (_:uR s) (_:uR p) (_:qj ↑a s) (_:om ↑d b=true) (_:(∃ e,Seen a e/\(0<=p/\p<=↑(e s))/\((∀ h,a[s.toNat]?=⇑h->(∃ f,mH (iR a s.toNat (gh e p h (dM (cQ (cE b))))) f)/\
  ∀ (l:Yf) (i:Hp),oq C CS CW CB l i x (c++[iR a s.toNat (gh e p h (dM (cQ (cE b))))]) (g++[(jk.oN f' [s,p] b).line]) d j k->xx U l H i->Q .gi i))))
def Cg(a:UF):i7 (cL a)=(↑a:Int):=by rw[← qE _ (j5 _),eT]
theorem vQ{n:Nat}{a:Row}(h:om n a=true):∀ p∈a,0<=p.1/\p.1<p.2/\p.2<=n:=λp b=>by
 let z:=List.all_eq_true.mp h p b;unfold Pq at z;simpa [and_assoc] using z
def uR.big{s:Int}(h:uR s):s<10^60:=by
 let⟨_,a⟩:=h;omega
theorem zK:‹(6,63,["c","f","z","k"],(Tg fK cO dH fG))›:=λD=>by
 specialize fP ["c","f","z","k","j"] D.im.F;let⟨am,x,r,o,q,aC,nW,aU,f,s,p,g,rfl,C,u,j,c,v,w,y,l3,fs,fp,a,N,m⟩:=h;let⟨S,c,d,O,k,R,T,U,z,B,W,X,e,sg,ow,pw,db,tb,ab,b⟩:=id C;exists _,#v[aW (aB D.Yi (gV D) hr #[dG (pv 0) D.aQ D.Sm (jS D) hr bO #[1],2,2]),aW (dG (pv 0) D.aQ D.WV (jG D) hr bO #[3]),aX 4 (aB D.Sg (oh D) hr #[gC (dh (pv 0) rfl) D.cV D.C2 (fV D) hr bO,1,2,aB D.E8 (mC D) hr #[3]]),aW (dG (pv 0) D.aQ D.Fb (eN D) hr bO #[cT #[bC,1,2,3],1,4])]
 rfl'
 exists Y,x,d,Y,b.L.hx,1,Y,S,x,d,O,k,R,T,U,z,B,W,X,o,ab,q,g,s,1,b.L,v,w,y,a;let⟨e,c,l,k6⟩:=m;let m:↑(e s)<=10000:=c.ln s a.1 a.2;let m:=lN (e s);refine⟨e,c,λm H1 ho s1 fo=>?_⟩;let an:RB p p (i7 (cL (e s))):=by rw[Cg];exact⟨l.1,Int.le_refl _,l.2⟩
 refine⟨Y,Y,m,cL (e s),p,p,1,ho,by lia,an,λm s2=>?_⟩;let m:=s1.trans s2;let Cf:=b.same m;let Kg:=u.same m;refine⟨Y,x,d,Y,Cf.L.hx,1,Y,am,x,r,o,q,aC,nW,aU,f,1,C.same m,Kg,by have:=j.1;lia,N,λH3 C=>?_⟩;let n:=m.trans C;let m:=b.same n;let LR:=u.same n;let hp:=vQ N;let sl:s.toNat<↑g:=by have:=a.1;have:=a.2;lia
 obtain⟨C,N⟩:∃ C,g[s.toNat]?=⇑C:=⟨_,nh sl⟩;let⟨⟨fB,ao⟩,k7⟩:=k6 _ N;refine⟨Y,x,fK,d,_,↥k,1,m.L.hx,D.aQ.cl,D.gy,1,k,B,Y,m.L.W.hx,1,m.L.rws v w y λam H4 m F=>?_⟩;let hR:=m;let m:=LR.same F;refine⟨Y,Y,Y,r,f,1,m,by have:=j.1;lia,λoi m an G ar=>?_⟩;let nn:kW f:=λm Ur=>⟨(hp m Ur).1,by have:=(hp m Ur).2.1;lia⟩;refine⟨am,oi,g,s,p,_,e,1,⟨hR.same G,by lia,c.es,c.sd,c.rk,c.ss,c.ln⟩,a.1,a.2,an,uD (nE nn),?_,l,λC q2 I oQ gp s6 PB=>?_⟩
 ·unfold cQ;rw[cC];have:=iO f;have:=j.1;lia
 rw[N]at oQ;cases oQ;let ae:aH H I:=n.trans (F.trans (G.trans s6));let ap:=b.same ae
 let aq:q2≠z:=λi=>by
  let J:=(b.same (n.trans (F.trans G))).L.hb;rw[← i,PB]at J;cases J
 refine⟨Y,x,d,Y,ap.L.hx,1,Y,Y,Y,CQ,λt c=>?_⟩;let L:=ak c (.tup [.str "put",.int s,.int p,↥r]);let ag:(aL I t (.tup [.str "put",.int s,.int p,↥r])) t=⇑(.tup [.str "put",.int s,.int p,↥r]):=af;generalize aL I t (.tup [.str "put",.int s,.int p,↥r])=c at L ag;let M:=ae.trans L;let ai:=b.same M;let b:((s.toNat:Nat):Int)=s:=by have:=a.1;lia
 refine⟨Y,Y,S,x,d,O,k,R,T,U,z,B,W,X,o,ab,q,t,q2,.oN f' [s,p] f,s.toNat,_,g,fB,by rw[b];rfl,ai.L,⟨r,by rw[ag,qf];rfl,u.same M⟩,⟨(by show kC Yp f'=some 2;decide +kernel),?_,j⟩,gp.same L,aq,v,by have:=a.2;have:=a.1;lia,w,y,l3,ao,λb H8 L8 Rx=>?_⟩
 ·intro J hy;let b1:=a.1;let b2:=l.1;rcases List.mem_cons.mp hy with i|i
  ·rw[i];exact⟨b1,fs.big⟩
  ·rw[List.mem_singleton.mp i];exact⟨b2,fp.big⟩
 ·let⟨a,b,c⟩:=ai.uL L8 Rx;exact k7 a H8 b (c.pre M)
theorem We.kG{a:Yf}{H b:Hp}{x d s o p l:Addr}{n:Nat}{c:gD}{g:List (Str × V)}(h:We C a H x d s o p n c)(i:H l=⇑(.ins r t g))(j:¬ a l)(k:cB l H b):We C a b x d s o p n c :=
 h.fr (λf m e z=>k f m e (λq=>j (by rw[← q];exact z))) (λf f e=>k _ _ e (cP e i))
theorem bP.kG{H a:Hp}{r l:Addr}{b:Row}{d:List (Str × V)}(h:bP H r b)(c:H l=⇑(.ins g i d))(k:cB l H a):bP a r b :=
 h.two (λf e=>k _ _ e (cP e c)) (λj f e=>k _ _ e (cP e c))
def nL{H:Hp}{b a:Addr}{o:HO}(e:(aL (aL H b (.own c)) c o) a=none):H a=none:=by
 by_cases d:a=c
 ·rw[d,af]at e;cases e
 rw[aJ d]at e;by_cases f:a=b
 ·rw[f,af]at e;cases e
 rw[aJ f]at e;exact e
class inductive Ci(C CS CW CB:Addr)
 | mk (x d:Addr) (_:vs=[↥x]) (_:H x=⇑(.ins C d [])) (_: ∀ (U:Yf) (b:Hp),oq C CS CW CB U b x [[]] [] [] 0 []->(∀ a,U a->a=x\/H a=none)->cB x H b->Q .gi b)
theorem qU:‹(3,54,["c"],(Ci fK cO dH fG))›:=λD=>by
 specialize fP ["c"] D.ih.F;let⟨x,d,rfl,hx,aq⟩:=h;refine⟨_,#v[iT (pv 0) (ny D.iF.Yc (vN D) (hr.mono (by decide)) rfl D.iF.m D.hY.b .nil bO) rfl,iT (pv 0) (ny D.cV.Yc (uK D) (hr.mono (by decide)) rfl D.cV.m D.hH.b .nil bO) rfl,iT (pv 0) (ny D.qh.Yc (uy D) (hr.mono (by decide)) rfl D.qh.m D.Z2.b .nil bO) rfl,iT (pv 0) (ny D.BQ.Yc (vL D) (hr.mono (by decide)) rfl D.BQ.m D.hU.b .nil bO) rfl,iT (pv 0) (ny D.E7.Yc (vK D) (hr.mono (by decide)) rfl D.E7.m D.hV.b .nil bO) rfl,iT (pv 0) (bK ah) rfl],?_⟩
 rfl'
 intro b dw ae ar _;refine⟨b,dw,1,af,λS T U B V1 k1 av aw ax=>⟨1,?_⟩⟩;let s1:=lP ae ar k1
 let fW:∀ a,(a=b\/a=S\/a=T\/a=U)->H a=none:=λa f=>by
  rcases f with rfl|rfl|rfl|rfl
  ·exact ae
  ·exact nL av
  ·exact nL aw
  ·exact nL ax
 let n:¬ (x=b\/x=S\/x=T\/x=U):=λf=>by
  have:=fW x f;rw[hx]at this;cases this
 refine⟨Y,x,fK,d,Y,s1 _ _ hx,D.aQ.cl,D.ua,by decide,?_⟩;let q2:cB x H (aL B x (.ins fK d (_L2.eV "B" ↥b []))):=cB.trans (_gu.aH.keep s1) (aG x _ _);let x2:(aL B x (.ins fK d (_L2.eV "B" ↥b []))) x=⇑(.ins fK d [("B",↥b)]):=af;let ag:cB x B (aL B x (.ins fK d (_L2.eV "B" ↥b []))):=aG x _ _;generalize aL B x (.ins fK d (_L2.eV "B" ↥b []))=H2 at q2 x2 ag;let V2:=V1.kG (s1 _ _ hx) n ag;intro c C Xs B _;refine⟨c,C,1,af,λr s z W W3 k3 aA aM fz=>⟨1,?_⟩⟩;let s3:=lP Xs B k3
 let up:∀ a,(aL (aL H2 C (.own c)) c (.ins cO C [])) a=none->H2 a=none:=λa f=>by
  by_cases e:a=c
  ·rw[e,af]at f;cases f
  rw[aJ e]at f;by_cases g:a=C
  ·rw[g,af]at f;cases f
  rw[aJ g]at f;exact f
 let fS:∀ a,(a=c\/a=r\/a=s\/a=z)->H2 a=none:=λa f=>by
  rcases f with rfl|rfl|rfl|rfl
  ·exact Xs
  ·exact up _ aA
  ·exact up _ aM
  ·exact up _ fz
 let o:¬ (x=c\/x=r\/x=s\/x=z):=λf=>by
  have:=fS x f;rw[x2]at this;cases this
 let x3:=s3 _ _ x2;let V3:=V2.same s3;refine⟨Y,x,fK,d,Y,x3,D.aQ.cl,D.gy,(by show 1<1000;decide),?_⟩;let X:cB x W (aL W x (.ins fK d (_L2.eV "y" ↥c [("B",↥b)]))):=aG x _ _;let x4:(aL W x (.ins fK d (_L2.eV "y" ↥c [("B",↥b)]))) x=⇑(.ins fK d [("B",↥b),("y",↥c)]):=af;generalize aL W x (.ins fK d (_L2.eV "y" ↥c [("B",↥b)]))=B at X x4;let W4:=W3.kG x3 o X;let V4:=V3.kG x3 n X;let q4:cB x H B:=(q2.trans (_gu.aH.keep s3)).trans X;intro e p F B _;refine⟨e,p,1,af,λk H5 B5 R5 W X=>⟨1,?_⟩⟩;let s5:=lP F B W;let XC:=nL X;let x5:=s5 _ _ x4;let W5:=W4.same s5;let V5:=V4.same s5;let G:e≠x:=(az x4 F).symm;refine⟨Y,x,fK,d,Y,x5,D.aQ.cl,D.yI,(by show 2<1000;decide),?_⟩;let m:cB x H5 (aL H5 x (.ins fK d (_L2.eV "G" ↥e [("B",↥b),("y",↥c)]))):=aG x _ _;let x6:(aL H5 x (.ins fK d (_L2.eV "G" ↥e [("B",↥b),("y",↥c)]))) x=⇑(.ins fK d [("B",↥b),("y",↥c),("G",↥e)]):=af;generalize aL H5 x (.ins fK d (_L2.eV "G" ↥e [("B",↥b),("y",↥c)]))=B at m x6;let W:=W5.kG x5 o m;let X:=V5.kG x5 n m;let B6:Bl fG B e p k:=m _ _ B5 G;let R6:=R5.kG x5 m;let q6:cB x H B:=(q4.trans (_gu.aH.keep s5)).trans m;intro j m B ae _;refine⟨j,m,1,af,λag I _ m=>⟨1,?_⟩⟩;let t:=lP B ae m;let x7:=t _ _ x6;let W7:=W.same t;let V7:=X.same t;let B7:Bl fG I e p k:=t _ _ B6;let R7:=R6.same t;refine⟨Y,x,fK,d,Y,x7,D.aQ.cl,D.CG,(by show 3<1000;decide),?_⟩;let u:cB x I (aL I x (.ins fK d (_L2.eV "O" ↥j [("B",↥b),("y",↥c),("G",↥e)]))):=aG x _ _;let x8:(aL I x (.ins fK d (_L2.eV "O" ↥j [("B",↥b),("y",↥c),("G",↥e)]))) x=⇑(.ins fK d [("B",↥b),("y",↥c),("G",↥e),("O",↥j)]):=af;generalize aL I x (.ins fK d (_L2.eV "O" ↥j [("B",↥b),("y",↥c),("G",↥e)]))=m at u x8;let B:=W7.kG x7 o u;let I:=V7.kG x7 n u;let W:Bl fG m e p k:=u _ _ B7 G;let X:=R7.kG x7 u;let q8:cB x H m:=(q6.trans (_gu.aH.keep t)).trans u;intro q m t u _;refine⟨q,m,1,af,λae J _ m=>⟨1,?_⟩⟩;let v:=lP t u m;let x9:=v _ _ x8;let W9:=B.same v;let V9:=I.same v;let B9:Bl fG J e p k:=v _ _ W;let R9:=X.same v;refine⟨Y,x,fK,d,Y,x9,D.aQ.cl,D.JN,(by show 4<1000;decide),?_⟩;let w:cB x J (aL J x (.ins fK d (_L2.eV "dues" ↥q [("B",↥b),("y",↥c),("G",↥e),("O",↥j)]))):=aG x _ _;let y:(aL J x (.ins fK d (_L2.eV "dues" ↥q [("B",↥b),("y",↥c),("G",↥e),("O",↥j)]))) x=⇑(.ins fK d [("B",↥b),("y",↥c),("G",↥e),("O",↥j),("dues",↥q)]):=af;generalize aL J x (.ins fK d (_L2.eV "dues" ↥q [("B",↥b),("y",↥c),("G",↥e),("O",↥j)]))=L at w y;let ai:=W9.kG x9 o w;let am:=V9.kG x9 n w;let ab:Bl fG L e p k:=w _ _ B9 G;let an:=R9.kG x9 w;let Bp:cB x H L:=(q8.trans (_gu.aH.keep v)).trans w;refine⟨iD,λi l=>⟨Y,x,fK,d,Y,ak l _ _ _ y,D.aQ.cl,D.Et,(by show 5<1000;decide),?_⟩⟩;let ao:i≠x:=(az y l).symm
 let aU:¬ (i=c\/i=r\/i=s\/i=z):=λf=>by
  let⟨M,bw⟩:=ai.al i f;rw[l]at bw;cases bw
 let m:=ak l (.lst []);let t:cB x (aL L i (.lst [])) (aL (aL L i (.lst [])) x (.ins fK d (_L2.eV "book" ↥i [("B",↥b),("y",↥c),("G",↥e),("O",↥j),("dues",↥q)]))):=aG x _ _;let u:=(ai.same m).kG (m _ _ y) o t;let v:=(am.same m).kG (m _ _ y) n t;let w:=t _ _ (m _ _ ab) G;let B:=(an.same m).kG (m _ _ y) t;let⟨y,I,_⟩:=id R5;let a0:∀ a,(a=c\/a=r\/a=s\/a=z)->a=x\/H a=none:=λa f=>.inr (iN q2 (λg=>by rw[g]at f;exact o f) (fS a f));refine aq (λa=>(a=c\/a=r\/a=s\/a=z)\/(a=b\/a=S\/a=T\/a=U)\/a=i\/a=x\/a=e\/a=k) _ ⟨E,d,b,c,e,j,q,i,C,r,s,dw,S,T,U,p,k,[],⟨af,u,?_,o,aU⟩,v,w,B,?_,?_,?_,?_,λa=>Iff.rfl⟩ ?_ ((Bp.trans (_gu.aH.keep m)).trans t)
 ·rw[aJ ao];exact af
 ·exact⟨.nil,λ_ z=>by cases z⟩
 ·intro a g;let⟨M,ap⟩:=V2.al a g;refine⟨λN=>?_,λO=>?_,λR=>?_⟩
  ·rw[fS a N]at ap;cases ap
  ·let⟨b,bw⟩:=am.al a g;rw[O,l]at bw;cases bw
  ·rw[R]at g;exact n g
 ·refine⟨λN=>?_,λg=>?_,λO=>?_⟩
  ·let⟨M,bw⟩:=W4.al e N;rw[F]at bw;cases bw
  ·let⟨M,bw⟩:=V4.al e g;rw[F]at bw;cases bw
  ·rw[O]at ab;let M:L i=⇑_:=ab;rw[l]at M;cases M
 ·refine⟨λN=>?_,λg=>?_,λO=>?_⟩
  ·let⟨M,bw⟩:=W4.al k N;rw[XC]at bw;cases bw
  ·let⟨M,bw⟩:=V4.al k g;rw[XC]at bw;cases bw
  ·let⟨b,M,_⟩:=id an;rw[O,l]at M;cases M
 ·intro a g;rcases g with g|g|g|g|g|g
  ·exact a0 a g
  ·exact .inr (fW a g)
  ·rw[g];exact .inr (iN Bp ao l)
  ·exact .inl g
  ·rw[g];exact .inr (iN q4 G F)
  ·by_cases R:a=x
   ·exact .inl R
   ·rw[g]at R ⊢;exact .inr (iN q4 R XC)
abbrev kv:List Nat:=(Str.ofString "cut").cps.toList
abbrev kw:List Nat:=(Str.ofString "quote").cps.toList
class inductive Th(C CS CW CB:Addr)
 | mk (U:Yf) (x:Addr) (d:gY) (g:iK) (j:gD) (k:Nat) (l:Row) (s a b:Int) (c:cZ) (_:vs=[↥x,.int s,.int a,.int b]) (_:oq C CS CW CB U H x d g j k l) (_:d.getLast?=⇑c) (_:↑c<=50) (_:↑d<=900) (_:↑g<=900) (_:uR s) (_:uR a) (_:uR b)
  (_:qj ↑c s) (_:∃ e,Seen c e/\RB a b ↑(e s)/\(∀ h,c[s.toNat]?=⇑h->(∃ f,mH (iR c s.toNat (bT e a b h)) f)/\
  ∀ (m:Yf) (i:Hp),oq C CS CW CB m i x (d++[iR c s.toNat (bT e a b h)]) (g++[(jk.plain kv [s,a,b]).line]) j k l->xx U m H i->Q .gi i))
class inductive Mw(C CS CW CB:Addr)
 | mk (U:Yf) (x:Addr) (e:gY) (g:iK) (j:gD) (k:Nat) (l:Row) (t p s a b:Int) (c:cZ) (_:vs=[↥x,.int t,.int p,.int s,.int a,.int b]) (_:oq C CS CW CB U H x e g j k l) (_:e.getLast?=⇑c) (_:↑c<=50) (_:↑e<=900) (_:↑g<=900) (_:uR t) (_:uR p) (_:uR s) (_:uR a) (_:uR b)
  (_:qj ↑c t) (_:qj ↑c s) (_:(∃ d,Seen c d/\RB a b ↑(d s)/\((0<=p/\p<=↑(d t))/\(∀ h,c[t.toNat]?=⇑h->(∃ f,mH (iR c t.toNat (gh d p h (((d s).take b.toNat).drop a.toNat))) f)/\
  ∀ (m:Yf) (i:Hp),oq C CS CW CB m i x (e++[iR c t.toNat (gh d p h (((d s).take b.toNat).drop a.toNat))]) (g++[(jk.plain kw [t,p,s,a,b]).line]) j k l->xx U m H i->Q .gi i))))
theorem zL:‹(6,65,["c","f","h","n"],(Th fK cO dH fG))›:=λD=>by
 specialize fP ["c","f","h","n","j"] D.io.F;let⟨U,x,z,I,J,L,M,s,q,r,f,rfl,c,g,k,l,t,u,v,w,b,y⟩:=h;let⟨S,z,i,I,d,J,L,M,N,m,O,R,T,U,W,X,db,tb,ab,a⟩:=id c;exists _,#v[aW (dG (dh (pv 0) rfl) D.cV D.E9 (cY D) hr bO #[1]),aX 4 (aB D.Z9 (De D) hr #[gC (dh (pv 0) rfl) D.cV D.C2 (fV D) hr bO,1,2,3]),aW (dG (pv 0) D.aQ D.Fb (eN D) hr bO #[cT #[bC,1,2,3],1,4])]
 rfl'
 refine⟨Y,x,fK,i,_,↥d,1,a.L.hx,D.aQ.cl,D.gy,1,d,m,Y,a.L.W.hx,1,Y,a.L.Xy g b ?_⟩;let⟨z,c,e,B⟩:=y;refine⟨Y,x,fK,i,_,↥d,1,a.L.hx,D.aQ.cl,D.gy,1,d,m,Y,a.L.W.hx,1,a.L.rws g k l λd y m n=>?_⟩;let y:s.toNat<↑f:=by have:=b.1;have:=b.2;lia
 obtain⟨j,o⟩:∃ j,f[s.toNat]?=⇑j:=⟨_,nh y⟩;refine⟨Y,Y,Y,d,f,s,q,r,z,1,⟨m,by lia,c.es,c.sd,c.rk,c.ss,c.ln⟩,b.1,b.2,e,λc d f p C F G=>?_⟩;rw[o]at p;cases p;let⟨f,m⟩:=B j o;let c:=n.trans F;let d:=a.same c;exact⟨Y,x,i,Y,d.L.hx,1,Y,Y,Y,CQ,λi d=>⟨Y,Y,a.chg (c.trans (ak d _)) af (qf _).symm (by show kC QH kv=some 3;decide +kernel) (GO b.1 u.big (GO e.1 v.big (GO (by have:=e.1;have:=e.2.1;lia) w.big cz))) (C.same (ak d _)) (aP n G) g k l t b f m⟩⟩
theorem vR:‹(6,66,["c","7","z","8","h","n"],(Mw fK cO dH fG))›:=λD=>by
 specialize fP ["c","7","z","8","h","n","k","j"] D.ip.F;let⟨ag,x,a,b,aC,nW,aU,t,p,s,c,d,k,rfl,r,l,n,o,F,G,I,J,L,M,f,g,w⟩:=h;let⟨S,SW,i,N,j,O,R,T,U,q,W,X,dw,sg,ow,pw,db,tb,ab,e⟩:=id r;exists _,#v[aW (dG (dh (pv 0) rfl) D.cV D.E9 (cY D) hr bO #[1]),aX 6 (aB D.g0 (Sq D) hr #[dG (pv 0) D.aQ D.Sm (jS D) hr bO #[3],4,5]),aX 7 (aB D.Sg (oh D) hr #[gC (dh (pv 0) rfl) D.cV D.C2 (fV D) hr bO,1,2,aB D.E8 (mC D) hr #[6]]),aW (dG (pv 0) D.aQ D.Fb (eN D) hr bO #[cT #[bC,1,2,3,4,5],1,7])]
 rfl'
 refine⟨Y,x,fK,i,_,↥j,1,e.L.hx,D.aQ.cl,D.gy,1,j,q,Y,e.L.W.hx,1,Y,e.L.Xy l f ?_⟩;exists Y,x,i,Y,e.L.hx,1,Y,S,x,i,N,j,O,R,T,U,q,W,X,a,ab,b,k,s,1,e.L,l,n,o,g;let⟨a,b,m,v,k8⟩:=w;refine⟨a,b,λr O w N R=>?_⟩;let O:↑(a s)<=10000:=b.ln s g.1 g.2;let O:=lN (a s);let tt:i7 (cL (a s))=↑(a s):=Cg _;refine⟨Y,Y,r,cL (a s),c,d,1,w,by lia,by rw[tt];exact m,λO w R r S=>?_⟩;let w:=N.trans r;let r:=e.same w;refine⟨Y,x,fK,i,_,↥j,1,r.L.hx,D.aQ.cl,D.gy,1,j,q,Y,r.L.W.hx,1,r.L.rws l n o λq r N j=>?_⟩;let S:=w.trans j;let r:t.toNat<↑k:=by have:=f.1;have:=f.2;lia
 obtain⟨u,y⟩:∃ u,k[t.toNat]?=⇑u:=⟨_,nh r⟩;let r:∀ {w:Row},jw w->kW w:=λh p w=>⟨(h p w).1,by have:=(h p w).2;lia⟩;have T:kW (cL (a s)):=r (BH (nK b.sd b.rk b.ss s g.1 g.2));have w:kW (cE (kH c d 0 (cL (a s)))):=r (nE (zc c d _ 0 T))
 let r:↑(cE (kH c d 0 (cL (a s))))<=10000:=by
  have:=qO c d (cL (a s));rw[xT]at this;lia
 let ae:dM (cQ (cE (cE (kH c d 0 (cL (a s))))))=((a s).take d.toNat).drop c.toNat:=by
  rw[nJ,j6 _ λq r=>(w q r).2,nU _ _ _ (j5 _),eT]
 refine⟨Y,Y,Y,O,Y,R.same j,by lia,λr R O j T=>?_⟩;let z:=S.trans j;refine⟨q,r,k,t,p,_,a,1,⟨N.same j,by lia,b.es,b.sd,b.rk,b.ss,b.ln⟩,f.1,f.2,O,uD (nE w),?_,v,λb j k B C s5 PB=>?_⟩
 ·rw[xT];have:=iO (cE (kH c d 0 (cL (a s))));lia
 rw[y]at B;cases B;rw[ae]at C;let⟨B,c⟩:=k8 u y;let a:=z.trans s5;let b:=e.same a;exact⟨Y,x,i,Y,b.L.hx,1,Y,Y,Y,Y,Y,ZF,λd b=>⟨Y,Y,e.chg (a.trans (ak b _)) af (qf _).symm (by show kC QH kw=some 5;decide +kernel) (GO f.1 G.big (GO v.1 I.big (GO g.1 J.big (GO m.1 L.big (GO (by have:=m.1;have:=m.2.1;lia) M.big cz))))) (C.same (ak b _)) (aP z PB) l n o F f B c⟩⟩
abbrev kz:List Nat:=(Str.ofString "window").cps.toList
class inductive PJ(C CS CW CB:Addr)
 | mk (U:Yf) (x:Addr) (b:gY) (d:iK) (h:gD) (i:Nat) (j:Row) (t p s:Int) (a:cZ) (_:vs=[↥x,.int t,.int p,.int s]) (_:oq C CS CW CB U H x b d h i j) (_:b.getLast?=⇑a) (_:↑a<=50) (_:↑b<=900) (_:↑d<=900) (_:uR t) (_:uR p) (_:uR s)
  (_:qj ↑a t) (_:qj ↑a s) (_:(∃ c,Seen a c/\(0<=p/\p<=↑(c t))/\(∀ e,a[t.toNat]?=⇑e->(∃ f,mH (iR a t.toNat (gh c p e [-1-s])) f)/\
  ∀ (k:Yf) (g:Hp),oq C CS CW CB k g x (b++[iR a t.toNat (gh c p e [-1-s])]) (d++[(jk.plain kz [t,p,s]).line]) h i j->xx U k H g->Q .gi g)))
theorem uM:‹(6,68,["c","7","z","8"],(PJ fK cO dH fG))›:=λD=>by
 specialize fP ["c","7","z","8","j"] D.iq.F;let⟨ab,x,pe,aA,aC,nW,aU,t,I,s,j,rfl,J,f,q,r,L,M,N,O,c,k,R⟩:=h;let⟨ab,SW,g,wl,d,bl,kn,du,bk,l,st,op,dw,sg,ow,pw,db,tb,ae,a⟩:=id J;exists _,#v[aW (dG (dh (pv 0) rfl) D.cV D.E9 (cY D) hr bO #[1]),aW (dG (dh (pv 0) rfl) D.cV D.E9 (cY D) hr bO #[3]),aX 4 (aB D.Sg (oh D) hr #[gC (dh (pv 0) rfl) D.cV D.C2 (fV D) hr bO,1,2,bK #[cT #[bC,3]]]),aW (dG (pv 0) D.aQ D.Fb (eN D) hr bO #[cT #[bC,1,2,3],1,4])]
 rfl'
 refine⟨Y,x,fK,g,_,↥d,1,a.L.hx,D.aQ.cl,D.gy,1,d,l,Y,a.L.W.hx,1,Y,a.L.Xy f c ?_⟩;refine⟨Y,x,fK,g,_,↥d,1,a.L.hx,D.aQ.cl,D.gy,1,d,l,Y,a.L.W.hx,1,Y,a.L.Xy f k ?_⟩;let⟨S,e,u,T⟩:=R;refine⟨Y,x,fK,g,_,↥d,1,a.L.hx,D.aQ.cl,D.gy,1,d,l,Y,a.L.W.hx,1,a.L.rws f q r λU v W X=>?_⟩;let d:t.toNat<↑j:=by have:=c.1;have:=c.2;lia
 obtain⟨m,w⟩:∃ m,j[t.toNat]?=⇑m:=⟨_,nh d⟩;refine⟨Y,Y,Y,mJ,λb d=>⟨mq,λo y=>?_⟩⟩;let n:=ak d (.tup [.str "win",.int s]);let z:(aL v b (.tup [.str "win",.int s])) b=⇑(.tup [.str "win",.int s]):=af;generalize aL v b (.tup [.str "win",.int s])=p at n z y;let i:=ak y (.lst [↥b]);let B:(aL p o (.lst [↥b])) o=⇑(.lst [↥b]):=af;show wR _ (aL p o (.lst [↥b])) _ _;generalize aL p o (.lst [↥b])=d at i B;let C:=X.trans (n.trans i);let l:bU d ↥o [.win s]:=⟨o,Y,B,.cons ⟨b,1,i _ _ z⟩ .nil⟩;refine⟨U,o,j,t,I,[.win s],S,1,⟨W.same (n.trans i),by lia,e.es,e.sd,e.rk,e.ss,e.ln⟩,c.1,c.2,l,.one k.1,(by show 1<=10000;decide),u,λb d e F G s5 PB=>?_⟩;rw[w]at F;cases F;rw[show dM [aT.win s]=[-1-s] from rfl]at G;let⟨B,e⟩:=T m w;let b:=C.trans s5;let d:=a.same b;exact⟨Y,x,g,Y,d.L.hx,1,Y,Y,Y,CQ,λg d=>⟨Y,Y,a.chg (b.trans (ak d _)) af (qf _).symm (by show kC QH kz=some 3;decide +kernel) (GO c.1 M.big (GO u.1 N.big (GO k.1 O.big cz))) (G.same (ak d _)) (aP C PB) f q r L c B e⟩⟩
abbrev kA:List Nat:=(Str.ofString "fix").cps.toList
class inductive qq(C CS CW CB:Addr)
 | mk (U:Yf) (x:Addr) (b:gY) (c:iK) (g:gD) (h:Nat) (i:Row) (t:Int) (a:cZ) (_:vs=[↥x,.int t]) (_:oq C CS CW CB U H x b c g h i) (_:b.getLast?=⇑a) (_:↑a<=50) (_:↑b<=900) (_:↑c<=900) (_:uR t)
  (_:qj ↑a t) (_:∃ d,Seen a d/\(∃ f,mH (iR a t.toNat (d t)) f)/\
  ∀ (j:Yf) (e:Hp),oq C CS CW CB j e x (b++[iR a t.toNat (d t)]) (c++[(jk.plain kA [t]).line]) g h i->xx U j H e->Q .gi e)
theorem zM:‹(6,69,["c","f"],(qq fK cO dH fG))›:=λD=>by
 specialize fP ["c","f"] D.iv.F;let⟨U,x,v,w,y,z,C,t,m,rfl,n,e,i,j,o,p,b,q⟩:=h;let⟨S,v,f,w,c,y,z,C,F,k,G,I,J,L,M,N,O,R,T,a⟩:=id n;exists _,#v[aW (dG (dh (pv 0) rfl) D.cV D.E9 (cY D) hr bO #[1]),aW (dG (pv 0) D.aQ D.Fb (eN D) hr bO #[cT #[bC,1],1,aB D.hF (zB D) hr #[gC (dh (pv 0) rfl) D.cV D.C2 (fV D) hr bO,1]])]
 rfl'
 refine⟨Y,x,fK,f,_,↥c,1,a.L.hx,D.aQ.cl,D.gy,1,c,k,Y,a.L.W.hx,1,Y,a.L.Xy e b ?_⟩;let⟨r,sn,⟨s,B⟩,u⟩:=q;refine⟨Y,x,f,Y,a.L.hx,1,Y,mJ,λg n=>?_⟩;let d:=ak n (.tup [.str "fix",.int t]);let l:(aL H g (.tup [.str "fix",.int t])) g=⇑(.tup [.str "fix",.int t]):=af;generalize aL H g (.tup [.str "fix",.int t])=g at d l;let g:=a.same d;refine⟨Y,Y,x,fK,f,_,↥c,1,g.L.hx,D.aQ.cl,D.gy,1,c,k,Y,g.L.W.hx,1,g.L.rws e i j λq g f c=>?_⟩;refine⟨Y,q,m,t,r,1,⟨f,by lia,sn.es,sn.sd,sn.rk,sn.ss,sn.ln⟩,b.1,b.2,λg n k f m=>?_⟩;let g:=d.trans (c.trans f);let n:=a.same g;exact a.chg g (f _ _ (c _ _ l)) (qf _).symm (by show kC QH kA=some 1;decide +kernel) (GO b.1 p.big cz) k (aP (d.trans c) m) e i j o b ⟨s,B⟩ u
abbrev kS:List Nat:=(Str.ofString "move").cps.toList
class inductive XD(C CS CW CB:Addr)
 | mk (U:Yf) (x:Addr) (e:gY) (h:iK) (k:gD) (l:Nat) (m:Row) (s a b c:Int) (d:cZ) (_:vs=[↥x,.int s,.int a,.int b,.int c]) (_:oq C CS CW CB U H x e h k l m) (_:e.getLast?=⇑d) (_:↑d<=50) (_:↑e<=900) (_:↑h<=900) (_:uR s) (_:(-100000<a/\a<100000)) (_:(-100000<b/\b<100000)) (_:(-100000<c/\c<100000))
  (_:qj ↑d s) (_:∃ g,Seen d g/\Mv a b c ↑(g s)/\(∀ i,d[s.toNat]?=⇑i->(∃ f,mH (iR d s.toNat (lD g a b c i)) f)/\
  ∀ (n:Yf) (j:Hp),oq C CS CW CB n j x (e++[iR d s.toNat (lD g a b c i)]) (h++[(jk.plain kS [s,a,b,c]).line]) k l m->xx U n H j->Q .gi j))
theorem xA:‹(6,70,["c","f","h","n","to"],(XD fK cO dH fG))›:=λD=>by
 specialize fP ["c","f","h","n","to","j"] D.iw.F;let⟨U,x,C,L,M,N,O,s,q,r,t,f,rfl,c,g,k,l,u,v,w,y,z,b,B⟩:=h;let⟨S,C,i,L,e,M,N,O,R,m,T,U,W,X,ow,pw,db,tb,ab,a⟩:=id c;exists _,#v[aW (dG (dh (pv 0) rfl) D.cV D.E9 (cY D) hr bO #[1]),aX 5 (aB D.hE (zA D) hr #[gC (dh (pv 0) rfl) D.cV D.C2 (fV D) hr bO,1,2,3,4]),aW (dG (pv 0) D.aQ D.Fb (eN D) hr bO #[cT #[bC,1,2,3,4],1,5])]
 rfl'
 refine⟨Y,x,fK,i,_,↥e,1,a.L.hx,D.aQ.cl,D.gy,1,e,m,Y,a.L.W.hx,1,Y,a.L.Xy g b ?_⟩;let⟨C,c,d,F⟩:=B;refine⟨Y,x,fK,i,_,↥e,1,a.L.hx,D.aQ.cl,D.gy,1,e,m,Y,a.L.W.hx,1,a.L.rws g k l λe B m n=>?_⟩;let B:s.toNat<↑f:=by have:=b.1;have:=b.2;lia
 obtain⟨j,o⟩:∃ j,f[s.toNat]?=⇑j:=⟨_,nh B⟩;refine⟨Y,Y,Y,Y,e,f,s,q,r,t,C,1,⟨m,by lia,c.es,c.sd,c.rk,c.ss,c.ln⟩,b.1,b.2,d,λc e f p G I J=>?_⟩;rw[o]at p;cases p;let⟨B,f⟩:=F j o;let c:=n.trans I;let e:=a.same c;exact⟨Y,x,i,Y,e.L.hx,1,Y,Y,Y,Y,Ww,λt e=>⟨Y,Y,a.chg (c.trans (ak e _)) af (qf _).symm (by show kC QH kS=some 4;decide +kernel) (GO b.1 v.big (GO d.1.1 (uR.Xo w).big (GO (by have:=d.1.1;have:=d.1.2.1;lia) (uR.Xo y).big (GO (by have:=d.2;lia) (uR.Xo z).big cz)))) (G.same (ak e _)) (aP n J) g k l u b B f⟩⟩
class inductive Mx(C:Addr)
 | mk (c:Yf) (x d s o p:Addr) (n:Nat) (b:gD) (a:Int) (_:vs=[↥x,.int a]) (_:We C c H x d s o p n b) (_:0<=a) (_:a<(↑b:Nat)) (_:Q .gi H)
theorem o6:‹(2,71,["c","M"],(Mx dH))›:=λD=>by
 specialize fP ["c","M"] D.i3.F;let⟨S,x,d,s0,o,p,n,b,a,rfl,W,c,e,k⟩:=h;exists _,#v[bM (jJ (pM gE kM ay (pv 1) (gC (pv 0) D.iF D.LQ (jC D) hr bO))) #v[ie] bg]
 rfl'
 refine⟨Y,Z,Y,dN (λa=>?_) (λa=>absurd (decide_eq_true c) a)⟩;exists Y,x,d,Y,W.hx,1,x,d,s0,o,p,b,1,W.hx,W.hs,Z,Y;rw[decide_eq_true e];exact gx k
class inductive PK(C:Addr)
 | mk (b:Yf) (x d s o p:Addr) (n:Nat) (a:gD) (j:Nat) (q:Int × Nat) (_:vs=[↥x,.int (j:Nat)]) (_:We C b H x d s o p n a) (_:a[j]?=⇑q) (_:Q (.int q.1) H)
theorem Dp:‹(3,72,["c","M"],(PK dH))›:=λD=>by
 specialize fP ["c","M"] D.i4.F;let⟨S,x,d,s0,o,p,n,b,j,q,rfl,W,a,k⟩:=h;let c:=(List.getElem?_eq_some_iff.mp a).1;exists _,#v[aW (dG (pv 0) D.iF D.i3 (o6 D) hr bO #[1]),aK (aO bH (dh (pv 0) rfl) (pv 1))]
 rfl'
 refine⟨Y,x,d,Y,W.hx,1,Y,S,x,d,s0,o,p,n,b,(j:Nat),1,W,by lia,by lia,?_⟩;exact⟨Y,x,dH,d,_,↥o,1,W.hx,D.iF.cl,D.qC,1,Y,o,Q,V,bI.of W.ho,(dm (by unfold G7;rw[gj,a];rfl):_=⇑(V.int q.1)),k⟩
def PL{p:d9 × V}{k:d9}{v:V}:∀ {a:List (d9 × V)},p∈dP a k v->(p∈a/\p.1≠k)\/(p.1=k/\p.2=v):=by
 intro a h;unfold dP at h;split at h
 ·let⟨q,b,e⟩:=List.mem_map.mp h;split at e
  ·rename_i c;rw[← e];exact .inr ⟨c,1⟩
  ·rename_i c;rw[← e];exact .inl ⟨b,c⟩
 ·rename_i c;rcases List.mem_append.mp h with z|z
  ·exact .inl ⟨z,λe=>c (List.any_eq_true.mpr ⟨p,z,decide_eq_true e⟩)⟩
  ·rw[List.mem_singleton.mp z];exact .inr ⟨V⟩
def PM{p:d9 × V}{k:d9}{v:V}{a:List (d9 × V)}(h:p∈a)(n:p.1≠k):p∈dP a k v:=by
 unfold dP;split
 ·exact List.mem_map.mpr ⟨p,h,if_neg n⟩
 ·exact lQ _ h
def My{k:d9}{v:V}{a:List (d9 × V)}:(k,v)∈dP a k v:=by
 unfold dP;split
 ·rename_i c;let⟨p,b,e⟩:=List.any_eq_true.mp c;let e:=of_decide_eq_true e;refine List.mem_map.mpr ⟨p,b,?_⟩;show (if p.1=k then (p.1,v) else p)=(k,v);rw[if_pos e,e]
 ·exact kJ _ (List.mem_singleton.mpr rfl)
def XE{b:List (d9 × V)}{k:d9}{v:V}(h:(b.map (·.1)).Nodup):((dP b k v).map (·.1)).Nodup:=by
 unfold dP;split
 ·rw[List.map_map,show ((λp:d9 × V=>p.1) ∘ λa=>if a.1=k then (a.1,v) else a)=(·.1) from funext λp=>by show (if p.1=k then (p.1,v) else p).1=p.1;split <;> rfl]
  exact h
 ·rename_i c;rw[gI];refine List.nodup_append.mpr ⟨h,by simp,λg a d e f=>?_⟩;let⟨p,g,i⟩:=List.mem_map.mp a;let a:d=k:=List.mem_singleton.mp e;exact c (List.any_eq_true.mpr ⟨p,g,decide_eq_true (i.trans (f.trans a))⟩)
structure PN(hs:UF)(kvs:List (d9 × V)):Prop where
 nd:(kvs.map (·.1)).Nodup
 val:∀ p∈kvs,∃ i:Int,p=(.inl i,.int (hs.count i:Nat))/\i∈hs
 all:∀ i∈hs,∃ p∈kvs,p.1=.inl i
def PN.get{c:UF}{a:List (d9 × V)}(d:PN c a)(h:Int):(cG a (.inl h)=none/\c.count h=0)\/cG a (.inl h)=⇑(.int (c.count h:Nat)):=by
 cases e:cG a (.inl h) with
 | none =>
  refine .inl ⟨1,List.count_eq_zero.mpr λm=>?_⟩;let⟨p,b,f⟩:=d.all h m;unfold cG at e;rw[Option.map_eq_none_iff,List.find?_eq_none]at e;exact e p b (decide_eq_true f)
 | some v =>
  unfold cG at e;let⟨p,b,rfl⟩:=Option.map_eq_some_iff.mp e;let⟨i,rfl,_⟩:=d.val p (List.mem_of_find?_eq_some b);have:=List.find?_some b;have:=Sum.inl.inj (of_decide_eq_true this);rw[this];exact .inr rfl
def PN.put{a:UF}{d:List (d9 × V)}(c:PN a d)(h:Int):PN (a++[h]) (dP d (.inl h) (.int ((a.count h:Nat)+1))):=by
 refine⟨XE c.nd,λp b=>?_,λi f=>?_⟩
 ·rcases PL b with ⟨z,n⟩|⟨g,j⟩
  ·let⟨i,rfl,m⟩:=c.val p z;let k:i≠h:=λe=>n (by rw[e]);exact⟨i,by rw[List.count_append,List.count_singleton,if_neg (by simpa using λe=>k e.symm)];rfl,lQ _ m⟩
  ·refine⟨h,Prod.ext g ?_,kJ _ (List.mem_singleton.mpr rfl)⟩;rw[j,List.count_append,List.count_singleton,if_pos (by simp)];rfl
 ·by_cases e:i=h
  ·exact⟨_,My,by rw[e]⟩
  ·rcases List.mem_append.mp f with z|z
   ·let⟨p,b,f⟩:=c.all i z;exact⟨p,PM b (by rw[f];exact λz=>e (Sum.inl.inj z)),f⟩
   ·exact absurd (List.mem_singleton.mp z) e
structure Ti(hs:UF)(row:Row):Prop where
 up:row.Pairwise λp q=>p.1<q.1
 val:∀ p∈row,p.1∈hs/\p.2=(hs.count p.1:Nat)
 all:∀ i∈hs,∃ p∈row,p.1=i
def PN.row{f:UF}{a:List (d9 × V)}{row:Row}(c:PN f a)(d:row.Perm (a.map UD))(k:row.Pairwise _fE.Le):Ti f row:=by
 let l:∀ p∈row,∃ q∈a,UD q=p:=λp e=>List.mem_map.mp (d.mem_iff.mp e);refine⟨?_,λp e=>?_,λi o=>?_⟩
 ·let nd:(row.map (·.1)).Nodup:=by
   let z:=d.map (·.1);rw[List.map_map]at z;refine z.nodup_iff.mpr ?_
   let g:a.map (λq=>(UD q).1)=a.map λq=>(match q.1 with|.inl i=>i|.inr _=>0:Int):=List.map_congr_left λq b=>by
    let⟨i,rfl,_⟩:=c.val q b;rfl
   show (a.map (λq=>(UD q).1)).Nodup;let n:=c.nd;rw[List.nodup_iff_pairwise_ne,List.pairwise_map]at n ⊢;refine n.imp_of_mem ?_;intro h j m r s z;let⟨i,rfl,_⟩:=c.val h m;let⟨t,rfl,_⟩:=c.val j r;exact s (congrArg Sum.inl z)
  rw[List.nodup_iff_pairwise_ne,List.pairwise_map]at nd;exact nd.imp₂ (λh j n b=>by unfold _fE.Le at b;lia) k
 ·let⟨q,b,rfl⟩:=l p e;let⟨i,rfl,m⟩:=c.val q b;exact⟨m,1⟩
 ·let⟨q,b,g⟩:=c.all i o;let⟨t,rfl,m⟩:=c.val q b;cases g;exact⟨_,d.mem_iff.mpr (List.mem_map.mpr ⟨_,b,1⟩),1⟩
def XF:∀ {l L:UF},l.Nodup->(∀ x∈l,x∈L)->↑l<=↑L:=by
 intro l
 induction l with
 | nil=>intro L _ _;exact ic _
 | cons x l a =>
  intro L b h;let n:=List.nodup_cons.mp b;let m:=h x nP;let z:=a (L:=L.erase x) n.2 λy a=>(List.mem_erase_of_ne (λe=>n.1 (by rw[← e];exact a))).mpr (h y (jT _ a));rw[List.length_erase_of_mem m]at z;have:=List.length_pos_of_mem m;rw[jH];lia
def PN.len{d L:UF}{a:List (d9 × V)}(c:PN d a)(h:∀ i∈d,i∈L):↑a<=↑L:=by
 let e:a.map (·.1)=(a.map λq=>(match q.1 with|.inl i=>i|.inr _=>0:Int)).map Sum.inl:=by
  rw[List.map_map];refine List.map_congr_left λq b=>?_;let⟨i,rfl,_⟩:=c.val q b;rfl
 let n:=c.nd;rw[e,List.nodup_iff_pairwise_ne,List.pairwise_map]at n
 let z:=XF (L:=L) (l:=a.map λq=>(match q.1 with|.inl i=>i|.inr _=>0:Int)) (List.nodup_iff_pairwise_ne.mpr (n.imp λz y=>z (congrArg Sum.inl y))) λx f=>by
  let⟨q,b,rfl⟩:=List.mem_map.mp f;let⟨i,rfl,m⟩:=c.val q b;exact h i m
 rw[cC]at z;exact z
def nO(a:gD)(b:Int):Int:=((a[b.toNat]?).map Prod.fst).getD 0
class inductive Tj(C CS CW CB:Addr)
 | mk (U:Yf) (x r:Addr) (g:gY) (h:iK) (c:gD) (i:Nat) (k:Row) (b:Row) (_:vs=[↥x,↥r]) (_:oq C CS CW CB U H x g h c i k) (_:bP H r b) (_:(∀ p∈b,p.1<=p.2)) (_:↑(bu b)<=100000) (e:UF) (_:↑e<64) (_:∀ a∈bu b,∃ (j:Nat) (q:Int × Nat),a=(j:Nat)/\c[j]?=⇑q/\q.1∈e) (_:∀ (l:Addr) (f:Row) (d:Hp),bP d l f->Ti ((bu b).map (nO c)) f->aH H d->H l=none->Q ↥l d)
theorem qo:‹(4,76,["c","k"],(Tj fK cO dH fG))›:=λD=>by
 specialize fP ["c","k","counts","M","C"] D.jg.F;let⟨ai,x,r,pe,aA,a,U,aU,b,rfl,W,X,ok,ls,I,lL,t,ab⟩:=h;let J:=gS hr;let⟨ai,SW,ae,w,sh,bl,kn,du,bk,dS,st,op,L,sg,ow,pw,db,tb,am,LU⟩:=id W;exists _,#v[aX 2 j8,eZ PassesOwn.never rfl (cK (aB D.hC (C5 D) hr #[1])) (bV 3) #v[aX 4 (dG (dh (pv 0) rfl) D.iF D.i4 (Dp D) hr bO #[3]),qI J (pv 2) (pv 4) (bz dY (EO J (pv 2) (pv 4) ay ⟨V,V⟩) ay) rfl],aK (b8 (zk rfl) rfl D.T.zm PyProof.Rows.boot_sorted #[Hf PySem.F.plainAttrs_dict PySem.F.slot_dict_items PySem.F.type_dict_items LN (pv 2)])]
 rfl'
 refine λc M=>?_;have s0:=ak M (.dK []);have N:(aL H c (.dK [])) c=⇑(.dK []):=af;generalize aL H c (.dK [])=J at s0 N;refine⟨Y,r,b,1,X.same s0,ok,by lia,λn O y J W=>?_⟩;have R:=J _ _ N;have ag:=s0.trans J;refine⟨n,1,⟨_,bI.of y⟩,ef (K:=bZ) (e:=n) (b:=(bu b).map V.int) (λi p d=>∃ (u v:Option V) (f:List (d9 × V)),p=[⇑↥x,⇑↥r,⇑↥c,u,v]/\d c=⇑(.dK f)/\PN (((bu b).take i).map (nO a)) f/\cB c O d/\aH H d) ⟨none,none,[],1,R,⟨.nil,(λ_ z=>by cases z),λ_ z=>by cases z⟩,cB.refl _ _,ag⟩ (by rintro i p d _ ⟨_,_,_,_,_,_,s,_⟩;exact bI.of (s _ _ y (cP y R))) ?_ ?_⟩
 ·rintro i an p d m ⟨u,v,f,rfl,g,k,s,o⟩;rw[gj]at m;let⟨l,S,rfl⟩:=Option.map_eq_some_iff.mp m;let⟨j,q,rfl,T,y⟩:=t l (mL S);let B:=LU.same o
  let C:∀ n,∀ i∈((bu b).take n).map (nO a),i∈I:=λn i m=>by
   let⟨l,F,rfl⟩:=List.mem_map.mp m;let⟨j,q,rfl,e,G⟩:=t l (wY F);unfold nO;rw[show ((j:Nat):Int).toNat=j by lia,e];exact G
  let G:=k.len (C i)
  let nx:((bu b).take (i+1)).map (nO a)=((bu b).take i).map (nO a)++[q.1]:=by
   rw[take_snoc S,gI,List.map_singleton,show nO a ((j:Nat):Int)=q.1 by unfold nO;rw[show ((j:Nat):Int).toNat=j by lia,T];rfl]
  let y:=k.put q.1;rw[← nx]at y;exists Y,x,fK,ae,_,↥w,1,B.L.hx,D.aQ.cl,D.ua,1,w,L,Y,B.W.hx,1,Y,SW,w,L,sg,ow,pw,U,a,j,q,1,B.W,T;let F:∃ (u v:Option V) (w:List (d9 × V)),[⇑(V.ref x),⇑↥r,⇑↥c,⇑(.int (j:Nat)),⇑(.int q.1)]=[⇑↥x,⇑↥r,⇑↥c,u,v]/\(aL d c (.dK (dP f (.inl q.1) (.int ((((bu b).take i).map (nO a)).count q.1+1:Nat))))) c=⇑(.dK w)/\PN (((bu b).take (i+1)).map (nO a)) w/\cB c O (aL d c (.dK (dP f (.inl q.1) (.int ((((bu b).take i).map (nO a)).count q.1+1:Nat)))))/\aH H (aL d c (.dK (dP f (.inl q.1) (.int ((((bu b).take i).map (nO a)).count q.1+1:Nat))))):=⟨Q,1,af,y,λl r e n=>aG c _ _ l r (s _ _ e n) n,bN M o (aG c _ _)⟩;exists Y,c,1,.inl ⟨_,.inl g⟩,Y,_,gX.k (k:=Sum.inl q.1) g;rcases k.get q.1 with ⟨e,e0⟩|e
  ·rw[e];rw[e0]at F;exact⟨Z,Y,Y,c,Y,yV.k (k:=Sum.inl q.1) g (aN ∅),F⟩
  ·rw[e];exact⟨Z,Y,Y,c,Y,yV.k (k:=Sum.inl q.1) g (aN ∅),F⟩
 ·rintro p d ⟨u,v,f,rfl,g,k,s,o⟩;rw[cC,gP]at k
  let C:∀ i∈(bu b).map (nO a),i∈I:=λi m=>by
   let⟨l,F,rfl⟩:=List.mem_map.mp m;let⟨j,q,rfl,e,G⟩:=t l F;unfold nO;rw[show ((j:Nat):Int).toNat=j by lia,e];exact G
  let G:=k.len C;refine⟨Y,.inr (.inr (.inl ⟨1,.inl ⟨_,g⟩⟩)),c,f,V,g,λv a=>?_⟩;refine⟨v,c,f,1,af,ak a _ _ _ g,λp b=>?_,by lia,λl c d f g j m n q r=>ab l d f ⟨c,m,n⟩ (k.row q r) (o.trans ((ak a _).trans j)) (aP (o.trans (ak a _)) g)⟩;let⟨i,e,_⟩:=k.val p b;exact⟨i,_,e⟩
class inductive Mz(C:Addr)
 | mk (c:Yf) (x d s o p:Addr) (n:Nat) (a:gD) (h:Int) (_:vs=[↥x,.int h]) (_:We C c H x d s o p n a) (_:n<=1000) (_: ∀ (q:Addr) (b:Hp),bP b q (cL (kL h 0 a))->↑(cL (kL h 0 a))<=n->aH H b->H q=none->Q ↥q b)
theorem zN:‹(2,73,["c","C"],(Mz dH))›:=λD=>by
 specialize fP ["c","C"] D.i5.F;let⟨S,x,m,s0,r,p,t,u,h,rfl,W,w,k⟩:=h;let⟨r,t,u,w,y,n,B,C,F,o,j,c⟩:=id W;let r:=gS hr;exists _,#v[aK (aB D.WH (nI D) hr #[EO r (dh (pv 0) rfl) (pv 1) (bK ah) ⟨V,V⟩])]
 rfl'
 refine⟨Y,x,dH,m,_,↥p,1,n,D.iF.cl,D.lJ,1,p,1,.inl ⟨_,.inl j⟩,Y,iD,λz m=>?_⟩;let a:aH H (aL H z (.lst [])):=ak m _;let l:(aL H z (.lst [])) z=⇑(.lst []):=af;generalize aL H z (.lst [])=m at a l;exists _,gX.k (k:=Sum.inl h) (a _ _ j)
 cases e:cG o (Sum.inl h) with
 | none =>
  refine⟨z,[],1,⟨[],l,.nil⟩,ic _,λq d f g i=>k q d ?_ ?_ (a.trans g) (aP a i)⟩
  ·rw[c.gi h e];exact f
  ·rw[c.gi h e];exact ic _
 | some v =>
  let⟨s,b,rfl,m,n,lo,R,j,l,o⟩:=c.got h v e;refine⟨s,b,1,R.same a,by lia,λq d f g i=>k q d ?_ ?_ (a.trans g) (aP a i)⟩
  ·rw[← l,← nC b j];exact f
  ·rw[← l,← nC b j];exact fX (iO b) ∅
def qm.XG{U j A:Yf}{H:Hp}{x k l m n o h p D G db t d:Addr}{a:gY}{c:UF}{f:iK}{q:gD}{r:Nat}{v:Row}{b:cZ}{e:jk}{Q:VK}{E:XK}(y:qm C z I J U j A H x k l m n M o h N p O D sg ow G db tb a c f q r v)(T:e.At H t)(ok:e.Ok)(hc:H d=⇑(.lst []))(nc:d≠h)(hl:a.getLast?=⇑b)(l1:↑b<=50)(l2:↑a<=900)(l3:↑f<=900)(ab:∀ (g:Yf) (i:Hp),oq C z I J g i x (a++[b]) (f++[e.line]) q r v->xx U g H i->Q .gi i):Kq C z [↥x,↥t,↥d] H Q E:=by
 let F:↑(qT a)=↑a:=cC _;refine⟨j,x,k,l,m,n,M,o,h,N,p,O,qT a,c,f,t,d,e,[],[],b.map aF,1,y.L,T,ok,hc,nc,.nil,(λ_ s=>by cases s),kF hl,(λs u e=>by cases e),(by show 0<=200;decide),by rw[cC];lia,by lia,by lia,λF u s w=>?_⟩
 let B:qT a++[ng (b.map aF) []]=qT (a++[b]):=by
  show _=(a++[b]).map _;rw[gI];rfl
 let F:c++List.replicate (↑(ng (b.map aF) [])-↑(b.map aF)) ((↑(qT a):Nat):Int)=c:=by
  show c++List.replicate (↑(b.map aF)-↑(b.map aF)) _=c;rw[Nat.sub_self];exact gG _
 rw[B,F]at s;let⟨g,B,F⟩:=y.uL s w;exact ab g u B F
def xx.trans{U c d:Yf}{H h i:Hp}(f:xx U c H h)(g:xx c d h i):xx U d H i:=by
 let j:∀ a b,H a=⇑b->¬ U a->¬ c a:=λa b e n z=>by
  rcases f.1 a z with y|y
  ·exact n y
  ·rw[y]at e;cases e
 refine⟨λa z=>?_,λa b e n=>g.2.1 _ _ (f.2.1 _ _ e n) (j a b e n),λa j e=>g.2.2 _ _ (f.2.2 _ _ e)⟩;rcases g.1 a z with y|y
 ·exact f.1 a y
 cases e:H a with
 | none=>exact .inr rfl
 | some b =>
  by_cases u:U a
  ·exact .inl u
  ·rw[f.2.1 _ _ e u]at y;cases y
def qm.qr{U f g:Yf}{H c:Hp}{x o p r b v h y A C db t:Addr}{D:gY}{G:UF}{I:iK}{J:gD}{M:Nat}{T j:Row}(ab:qm ae CS CW N U f g H x o p r b kn v h dS y op A sg ow C db tb D G I J M T)(B:Bl N c b db t)(R:bP c t j)(Al:EY j)(k:cB b H c)(O:H t=none):qm ae CS CW N (λa=>f a\/g a\/a=h\/a=x\/a=b\/a=t) f g c x o p r b kn v h dS y op A sg ow C db t D G I J M j/\xx U (λa=>f a\/g a\/a=h\/a=x\/a=b\/a=t) H c:=by
 let⟨L,W,q,m,w,dj,i,dt,u⟩:=ab;let s:x≠b:=cP L.hx q;let l:∀ a m,H a=⇑(.tup m)->c a=⇑(.tup m):=λa m e=>k _ _ e (cP e q);have n:∀ {a d},H a=⇑d->a≠t:=λe z=>by rw[z,O]at e;cases e
 refine⟨⟨L.fr (λa d e z=>k _ _ e ?_) l,W.fr (λa d e z=>k _ _ e λq=>i.2.1 (by rw[← q];exact z)) l,B,R,Al,dj,i,⟨λz=>?_,λz=>?_,(n L.hb).symm⟩,λa=>Iff.rfl⟩,λa z=>?_,λa d e m=>k _ _ e λq=>m ((u a).mpr (.inr (.inr (.inr (.inr (.inl q)))))),l⟩
 ·rintro rfl;rcases z with z|z|z
  ·exact i.1 z
  ·exact i.2.2 z
  ·exact s z.symm
 ·let⟨d,e⟩:=L.W.al t z;exact n e rfl
 ·let⟨d,e⟩:=W.al t z;exact n e rfl
 ·rcases z with z|z|z|z|z|z
  ·exact .inl ((u a).mpr (.inl z))
  ·exact .inl ((u a).mpr (.inr (.inl z)))
  ·exact .inl ((u a).mpr (.inr (.inr (.inl z))))
  ·exact .inl ((u a).mpr (.inr (.inr (.inr (.inl z)))))
  ·exact .inl ((u a).mpr (.inr (.inr (.inr (.inr (.inl z))))))
  ·exact .inr (by rw[z];exact O)
class inductive Tn(C CS CW CB:Addr)
 | mk (U:Yf) (x r:Addr) (e:gY) (f:iK) (b:gD) (c:Nat) (g a:Row) (h:Int) (_:vs=[↥x,.int h,↥r]) (_:oq C CS CW CB U H x e f b c g) (_:bP H r a) (_:↑a<=150) (_:om ↑b a=true) (_:c<64) (_:∀ y,In a y->y∈kL h 0 b) (_:∀ d,aH H d->Q .gi d)
theorem qp:‹(4,74,["c","C","k"],(Tn fK cO dH fG))›:=λD=>by
 specialize fP ["c","C","k"] D.i'.F;let⟨U,x,r,n,o,a,f,p,b,h,rfl,e,g,C,i,F,own,q⟩:=h;let⟨S,s,j,c,C,F,G,I,J,L,M,N,k,t,u,v,O,R,T,l⟩:=id e;refine⟨_,#v[aW (dG (pv 0) D.aQ D.WV (jG D) hr bO #[2]),bM (jt (aB D.Z1 (Ic D) hr #[2,dG (dh (pv 0) rfl) D.iF D.i5 (zN D) hr bO #[1]]) (λ_=>rfl)) #v[ie] bg],?_⟩
 rfl'
 refine⟨Y,x,j,Y,l.L.hx,1,Y,U,x,r,n,o,a,f,p,b,1,e,g,by lia,i,λe d=>?_⟩;let e:=l.same d;refine⟨Y,Y,x,fK,j,_,↥c,1,e.L.hx,D.aQ.cl,D.ua,1,c,k,Y,e.W.hx,1,Y,s,c,k,t,u,v,f,a,h,1,e.W,by lia,λc f e j m k=>?_⟩;let f:Ok b:=λp j=>by have:=(vQ i p j).2.1;lia
 refine⟨r,c,b,Y,g.same (d.trans m),e,by lia,by lia,f,j5 _,λo w c _ z e=>?_⟩
 let none:iC (cL (kL h 0 a)) (bu b)=[]:=by
  unfold iC;refine List.filter_eq_nil_iff.mpr λy b=>?_;have e:Wr (cL (kL h 0 a)) y=true:=nV.mpr (Ov.mpr (own y (qL.mp b)));rw[e];decide
 rw[none]at c;let⟨a,y,B⟩:=c;cases B;exact⟨false,.inl ⟨[],bI.of y,1⟩,gx (q w ((d.trans m).trans z))⟩
abbrev eI:List Nat:=(Str.ofString "blot").cps.toList
class inductive Kr(C CS CW CB:Addr)(n:List Nat)(f:Prop->Prop->Prop)
 | mk (U:Yf) (x r:Addr) (b:gY) (d:iK) (c:gD) (e:Nat) (g a:Row) (h:Int) (i:cZ) (_:vs=[↥x,.int h,↥r]) (_:oq C CS CW CB U H x b d c e g) (_:bP H r a) (_:Ml a) (_:jQ h) (_:om ↑c a=true) (_:e<64) (_:∀ y,In a y->y∈kL h 0 c) (_:↑g+↑a<=200) (_:b.getLast?=⇑i) (_:↑i<=50) (_:↑b<=900) (_:↑d<=900) (_:∀ (k:Yf) (j:Hp) (l:Row),oq C CS CW CB k j x (b++[i]) (d++[(jk.oN n [h] a).line]) c e l->(∀ y,In l y↔f (In g y) (In a y))->xx U k H j->Q .gi j)
theorem xB:‹(5,75,["c","C","k"],(Kr fK cO dH fG eI Or))›:=λD=>by
 specialize fP ["c","C","k"] D.je.F;let⟨U,x,r,B,C,F,G,n,b,h,f,rfl,a,o,q,I,s,J,own,L,M,N,O,R,S⟩:=h;let⟨f,X,d,wl,sh,e,kn,du,T,dS,st,op,dw,sg,ow,pw,t,W,ab,u⟩:=id a;exists _,#v[aW (dG (pv 0) D.aQ D.i' (qp D) hr bO #[1,2]),aW (dG (dh (pv 0) rfl) D.qh D.Z3 (AB D) hr bO #[2]),aW (dG (pv 0) D.aQ D.Sk (jR D) hr bO #[cT #[bC,1,2],bK ah])]
 rfl'
 let X:=q.1;let ab:Ok b:=λp f=>by have:=(vQ s p f).2.1;lia
 refine⟨Y,x,d,Y,u.L.hx,1,Y,Y,U,x,r,B,C,F,G,n,b,h,1,a,o,X,s,J,own,λa g=>?_⟩;let a:=u.same g;let s:=o.same g;refine⟨Y,x,fK,d,_,↥e,1,a.L.hx,D.aQ.cl,D.yI,1,e,t,Y,a.B,1,Y,e,r,t,W,n,b,1,a.B,a.R,s,L,a.Al.ok,ab,λu ae v n R2 o ag B e t=>?_⟩;let⟨i,f2⟩:=a.qr n R2 o e t;let QA:=s.obj a.B e;refine⟨Y,x,d,Y,i.L.hx,1,Y,Y,RW,λp f=>⟨iD,λc j=>?_⟩⟩;let k:=ak f (.tup [.str "blot",.int h,↥r]);let w:(aL v p (.tup [.str "blot",.int h,↥r])) p=⇑(.tup [.str "blot",.int h,↥r]):=af;generalize aL v p (.tup [.str "blot",.int h,↥r])=y at k w j;let l:=ak j (.lst []);let z:(aL y c (.lst [])) c=⇑(.lst []):=af
 let nc:c≠T:=λa=>by
  have:=k _ _ i.L.hb;rw[← a,j]at this;cases this
 generalize aL y c (.lst [])=a at l z;let m:=k.trans l;refine (i.same m).XG (e:=.oN eI [h] b) ⟨r,by rw[l _ _ w,qf];rfl,QA.same m⟩ ⟨(by show kC Yp eI=some 1;decide +kernel),λy a=>by rw[List.mem_singleton.mp a];exact I,q⟩ z nc M N O R λa b c d=>?_;exact S a b ae c ag (((f2.pre g).trans (xx.same m)).trans d)
def oq.m{U:Yf}{H:Hp}{x:Addr}{a:gY}{b:iK}{c:gD}{d:Nat}{e:Row}{m:Str}{k:Prop}(L:oq C r t u U H x a b c d e)(q:k)(h:∀ f g i j l n:V,List.lookup m [("B",f),("y",g),("G",i),("O",j),("dues",l),("book",n)]=none:=by intros;rfl):VB C m ↥x H k:=by
 let⟨s,v,o,w,y,z,A,B,D,F,G,I,J,M,N,O,R,S,T,p⟩:=id L;exact⟨x,o,Y,p.L.hx,h ..,q⟩
class inductive zO(C CS CW CB:Addr)
 | mk (U:Yf) (x:Addr) (d:gY) (i:iK) (e:gD) (k:Nat) (m:Row) (b:cZ) (s:Int) (c:Y1) (g:UF) (_:vs=[↥x,.int s]) (_:oq C CS CW CB U H x d i e k m) (_:d.getLast?=⇑b) (_:↑d<=900) (_:↑b<=50) (_:qj ↑b s) (_:Seen b c) (_:↑(c s)<=200) (_:↑g<64) (_:∀ a∈c s,∃ (j:Nat) (q:Int × Nat),a=(j:Nat)/\e[j]?=⇑q/\q.1∈g) (_:∀ (l:Addr) (h:Row) (f:Hp),bP f l h->Ti ((c s).map (nO e)) h->aH H f->Q ↥l f)
theorem uN:‹(6,77,["c","f"],(zO fK cO dH fG))›:=λD=>by
 specialize fP ["c","f"] D.ji.F;let⟨U,x,b,c,g,i,j,k,s,e,l,rfl,f,m,n,o,p,q,a,r,t,u⟩:=h;let⟨S,L,d,v,w,y,z,B,C,F,G,I,M,N,O,R,T,W,J,a⟩:=id f;exists _,#v[aK (dG (pv 0) D.aQ D.jg (qo D) hr bO #[dG (pv 0) D.aQ D.Sm (jS D) hr bO #[1]])]
 rfl'
 refine⟨Y,x,d,Y,a.L.hx,1,Y,x,d,Y,a.L.hx,1,Y,S,x,d,v,w,y,z,B,C,F,G,I,b,J,c,k,s,1,a.L,m,o,n,p,⟨e,q,λo k d a m=>?_⟩⟩;exact⟨U,x,o,b,c,g,i,j,cL (e s),1,f.same a,d,j5 _,by rw[eT];lia,l,r,by rw[eT];exact t,by rw[eT];exact λl b c d e f g=>u l b c d e (a.trans f)⟩
def PR{z:Str}{i:Int}{n:Nat}(b:↑z=n)(a:0<=i)(d:i<n):∃ c,nM z.cps.toList i=⇑c:=by
 let e:i.toNat<↑z.cps.toList:=by
  have:↑z.cps.toList=↑z:=by show _=z.cps.size;simp
  lia
 exists z.cps.toList[i.toNat];let e:nM z.cps.toList ((i.toNat:Nat):Int)=⇑z.cps.toList[i.toNat]:=dm (by simp);rw[Int.toNat_of_nonneg a]at e;exact e
class inductive To
 | mk (l d:Addr) (b:Bool) (_:vs=[↥l,.bl b]) (_:dX H l d) (_: ∀ (ch:Nat) (c:Hp),dX c l d->(∀ a,a≠l->c a=H a)->Q (BK ch) c)
class inductive Tp
 | mk (l c:Addr) (m:Nat) (_:vs=[↥l,.int (m:Nat)]) (_:dX H l c) (_:m<=1000) (_: ∀ (b:List Nat) (a:Hp),↑b=m->dX a l c->cB l H a->Q (.str (gc b)) a)
theorem FU:‹(2,78,["b","0"],To)›:=λD=>by
 specialize fP ["b","0","_law_some"] D.jl.F;let⟨l,i,b,rfl,S,k⟩:=h;refine⟨_,#v[aX 2 bC,bM (jt (pv 1) (λ_=>rfl)) #v[aK (aO Nv bC (aB D.uS (gw D) hr #[0,ay]))] bg,aK (aO Nv (pv 2) (aB D.uS (gw D) hr #[0,ay]))],?_⟩
 rfl'
 refine⟨Y,b,1,dN (λ_=>?_) (λ_=>?_)⟩
 ·refine⟨Y,l,i,4,1,S,by decide,by decide,λv b c d e f=>?_⟩;let⟨a,g⟩:=PR (z:=Str.ofString "a# b") (n:=4) nofun c d;exact⟨E,a,V,nofun,g,k a b e f⟩
 ·refine⟨Y,Y,l,i,94,1,S,by decide,by decide,λv b c d e f=>?_⟩;let⟨a,g⟩:=PR (z:=Str.ofString " !\"#$&'()*+,-./0123456789:;<=>?@ABCDEFGHIJKLMNOPQRSTUVWXYZ[\\]^_`abcdefghijklmnopqrstuvwxyz{|}~") (n:=94) nofun c d;exact⟨E,a,V,nofun,g,k a b e f⟩
theorem FW:‹(3,79,["b","J"],Tp)›:=λD=>by
 specialize fP ["b","J","0"] D.js.F;let⟨l,g,m,rfl,S,s,w⟩:=h;refine⟨_,#v[aX 2 (mP eE (aB D.uS (gw D) hr #[0,ay]) ay (bh _)),aK (eX PySem.F.plainAttrs_str PySem.F.slot_str_join PySem.F.type_str_join OA bC #[iz (N:=["_law_k","b","0"]) (kg (c:=cy sD) (f:=["b","J","0"]) (d:=[none,some 0,some 2]) rfl rfl rfl nofun nofun rfl nofun rfl nofun) rfl (iL rfl D.T.i9 #[1]) (λ_ _ _ _ _ _=>(bV 0)) (λ_ _ _ _ _ _=>gK) (λ_ _ _ _ _ _=>(aB D.jl (FU D) hr #[1,2]))])],?_⟩
 rfl'
 refine⟨Y,l,g,2,1,S,by decide,by decide,λx s _ _ i y=>⟨1,?_⟩⟩;let q:cB l H s:=λd r e m=>(y d m).trans e;refine⟨1,Y,(m:Nat),1,by lia,by lia,λb f=>pZ (lo:=0) (k:=((m:Nat):Int).toNat) (λs j c=>∃ (u:Option V) (a:List Nat),j=[u,⇑↥l,⇑(.bl (decide (V.int x=V.int 0)))]/\c b=⇑(.lst (a.map BK))/\↑a=s/\dX c l g/\cB l H c) ⟨none,[],1,af,1,i.same (ak f _),λd r e m=>ak f _ _ _ (q _ _ e m)⟩ ?_ ?_⟩
 ·rintro s j c F ⟨u,a,rfl,k,t,n,o⟩;let p:b≠l:=(i.ne f).1.symm;let B:b≠g:=(i.ne f).2.symm;refine⟨Y,Y,l,g,Y,n,λg i C v=>⟨_,by rw[v b p];exact k,(by rw[cC];exact aN ∅),_,a++[g],1,?_,?_,?_,?_⟩⟩
  ·rw[af,gI];rfl
  ·rw[cR,t];rfl
  ·exact C.keep (aG b _ _) p.symm B.symm
  ·intro d r e m;by_cases z:d=b
   ·rw[z]at e;have:=iN q p f;rw[this]at e;cases e
   rw[aJ z,v d m];exact o _ _ e m
 ·rintro j c ⟨u,a,rfl,k,t,n,o⟩;let d:↑a=m:=by lia
  exact⟨b,a,V,k,by lia,w a c d n o⟩
def Dq{a b:Type}{c:a->b->Prop}{d:List a}{e:List b}{x:a}{y:b}(h:Paired c d e)(f:c x y):Paired c (d++[x]) (e++[y]):=by
 induction h with
 | nil=>exact .cons f .nil
 | cons r _ g=>exact .cons r g
def AI{b c:Type}{a:b->c->Prop}{d e:List b}{f g:List c}(h:Paired a d f)(t:Paired a e g):Paired a (d++e) (f++g):=by
 induction h with
 | nil=>exact t
 | cons i _ j=>exact .cons i j
def FY(H:Hp)(a:Addr)(q:Int × Nat):Prop:=H a=⇑(.tup [.int q.1,BK q.2])
inductive Dr(H:Hp)(v:Addr)(aC:gD):Prop
 | mk (a:UV) (_:H v=⇑(.lst (a.map V.ref))) (_:Paired (FY H) a aC)
abbrev kI:d9:=.inr (Str.ofString "ink")
abbrev kR:d9:=.inr (Str.ofString "m")
abbrev kP:d9:=.inr (Str.ofString "past")
abbrev qs:d9:=.inr (Str.ofString "veil")
abbrev qu(a rw b c:Addr):List (d9 × V):=[(kI,↥a),(kR,↥rw),(kP,↥b),(qs,↥c)]
def U0(W:Yf)(a c:Addr)(H:Hp)(v:V)(d:UF):Prop:=∃ b,v=↥b/\W b/\b≠a/\b≠c/\H b=⇑(.lst (d.map V.int))
def M0(W:Yf)(b c:Addr)(H:Hp)(a:Addr)(e:cZ):Prop:=W a/\a≠b/\a≠c/\∃ d,H a=⇑(.lst d)/\cI (U0 W b c H) d e
structure MA(ke:Nat)(aU:Row)(W:Yf)(H:Hp)(w ik rw ps vl:Addr)(aC:gD)(pe:gY)(rows:cZ):Prop where
 ww:W w
 wi:W ik
 wp:W ps
 wv:W vl
 al:∀ a,W a->∃ ob,H a=⇑ob
 hw:H w=⇑(.dK (qu ik rw ps vl))
 hi:Dr H ik aC
 hr:M0 W ik ps H rw rows
 hp:∃ vs,H ps=⇑(.lst vs)/\cI (λv rs=>∃ a,v=↥a/\M0 W ik ps H a rs) vs pe
 ne:ik≠ps
 lst:pe.getLast?=⇑rows
 hv:∃ vn:List Int,H vl=⇑(.lst (vn.map V.int))/\↑vn+ke<=100*↑pe/\True
 nv:vl≠ik/\vl≠ps
def Wo(a:Nat)(b:Row)(W:Yf)(H:Hp)(w:Addr)(c:gD)(d:gY)(e:cZ):Prop:=∃ f rw g h,MA a b W H w f rw g h c d e
theorem U0.fr{W b:Yf}{H c:Hp}{v:V}{d:UF}(s:∀ a,W a->b a)(k:∀ a e,H a=⇑(.lst e)->W a->a≠f->a≠g->c a=⇑(.lst e)):U0 W f g H v d->U0 b f g c v d:=λ⟨j,l,w,h,i,m⟩=>⟨j,l,s _ w,h,i,k _ _ m w h i⟩
theorem M0.fr{W b:Yf}{H c:Hp}{a:Addr}{d:cZ}(s:∀ a,W a->b a)(k:∀ a e,H a=⇑(.lst e)->W a->a≠f->a≠g->c a=⇑(.lst e)):M0 W f g H a d->M0 b f g c a d:=λ⟨w,h,i,j,l,m⟩=>⟨s _ w,h,i,j,k _ _ l w h i,m.mono λ_ _=>U0.fr s k⟩
def Dr.two{H b:Hp}{v:Addr}{d:gD}(h:Dr H v d)(k:∀ a,H v=⇑(.lst a)->b v=⇑(.lst a))(t:∀ c a,H c=⇑(.tup a)->b c=⇑(.tup a)):Dr b v d:=by
 let⟨e,f,g⟩:=h;exact⟨e,k _ f,Paired.Co g λc q e=>t _ _ e⟩
def MA.fr{W:Yf}{H d:Hp}{w rw:Addr}{f:gD}{g:gY}{h:cZ}(i:MA 100 j W H w l rw m n f g h)(k:∀ a c,H a=⇑c->W a->d a=⇑c)(t:∀ a b,H a=⇑(.tup b)->d a=⇑(.tup b)):MA 100 j W d w l rw m n f g h:=by
 let⟨ww,wi,wp,wv,al,hw,hi,hr,⟨o,hp,p⟩,ne,lst,hv,nv⟩:=i;refine⟨ww,wi,wp,wv,λa z=>?_,k _ _ hw ww,hi.two (λb e=>k _ _ e wi) t,hr.fr (λ_ z=>z) (λa b e z _ _=>k _ _ e z),⟨o,k _ _ hp wp,p.mono λv o ⟨a,e,z⟩=>⟨a,e,z.fr (λ_ y=>y) (λa b e y _ _=>k _ _ e y)⟩⟩,ne,lst,hv.imp λ_ z=>⟨k _ _ z.1 wv,z.2⟩,nv⟩;let⟨c,e⟩:=al a z;exact⟨c,k _ _ e z⟩
def Wo.fr{W:Yf}{H b:Hp}{w:Addr}{c:gD}{d:gY}{e:cZ}(h:Wo 100 i W H w c d e)(k:∀ a f,H a=⇑f->W a->b a=⇑f)(t:∀ a g,H a=⇑(.tup g)->b a=⇑(.tup g)):Wo 100 i W b w c d e:=by
 let⟨j,rw,l,m,z⟩:=h;exact⟨j,rw,l,m,z.fr k t⟩
theorem Wo.same{W:Yf}{H a:Hp}{w:Addr}{b:gD}{c:gY}{d:cZ}(h:Wo 100 g W H w b c d)(s:aH H a):Wo 100 g W a w b c d:=h.fr (λf i e _=>s f i e) λf f e=>s _ _ e
def Ks:Sp:=λa H Q _=>a=[]/\∀ (W:Yf) (w:Addr) (a:Hp),Wo 100 [] W a w [] [[]] []->(∀ b,W b->H b=none)->aH H a->Q ↥w a
theorem qy{a:Cx}{b c d e:Str}{n o p q:Nat}{r t u v x:Pos}{f g h i:Expr}{j k l m:TE}(y:PE a f j)(z:PE a g k)(A:PE a h l)(B:PE a i m) :
  PE a (.Dict [⇑(.Constant (.str b) n r),⇑(.Constant (.str c) o t),⇑(.Constant (.str d) p u),⇑(.Constant (.str e) q v)] [f,g,h,i] x) (Oe [(tC (.str b),j),(tC (.str c),k),(tC (.str d),l),(tC (.str e),m)]) :=
 RK (ud bC y (ud bC z (ud bC A (ud bC B RJ)))) rfl rfl (by simp) (by show 4<=15;decide)
abbrev qz:TE:=Oe [(tC (.str "ink"),KZ yd),(tC (.str "m"),KZ yd),(tC (.str "past"),KZ (Nn (KZ yd) yd)),(tC (.str "veil"),KZ yd)]
theorem PU:∃ (e:Expr) (p:Pos),ju pX=[.Return (⇑e) p]/\∀ a:Cx,PE a e qz :=
 ⟨E,1,λa=>@qy a _ _ _ _ _ _ _ _ _ _ _ _ _ _ _ _ _ _ _ _ _ (bK ah) (bK ah) (bK #[bK ah]) (bK ah)⟩
theorem Dt:‹(1,80,[],Ks)›:=λD=>by
 refine fP [] D.Sn.F λdD A zn s H vs Q E hr _ h=>?_;let⟨rfl,X⟩:=h;let⟨e,ab,he,pw⟩:=PU;rw[he];exists _,au (aK (pw _));intro bw x;refine⟨iD,λb y=>⟨iD,λrw r=>⟨iD,λz l=>⟨mq,λc f=>⟨iD,λg i=>?_⟩⟩⟩⟩⟩;have s0:=ak x (.dK []);have J:(aL H bw (.dK [])) bw=⇑(.dK []):=af;generalize aL H bw (.dK [])=w at s0 J y r l f i;have m:=ak y (.lst []);have n:(aL w b (.lst [])) b=⇑(.lst []):=af;generalize aL w b (.lst [])=B at m n r l f i;have j:=ak r (.lst []);have C:(aL B rw (.lst [])) rw=⇑(.lst []):=af;generalize aL B rw (.lst [])=L at j C l f i;have k:=ak l (.lst []);have F:(aL L z (.lst [])) z=⇑(.lst []):=af;generalize aL L z (.lst [])=M at k F f i;have o:=ak f (.lst [↥z]);have G:(aL M c (.lst [↥z])) c=⇑(.lst [↥z]):=af;generalize aL M c (.lst [↥z])=N at o G i;have t:=ak i (.lst []);have I:(aL N g (.lst [])) g=⇑(.lst []):=af;generalize aL N g (.lst [])=u at t I;have L:aH B u:=j.trans (k.trans (o.trans t));have O:aH w u:=m.trans L;have R:=O _ _ J;have S:=L _ _ n;have T:=(k.trans (o.trans t)) _ _ C;have U:=(o.trans t) _ _ F;have W:=t _ _ G;have nl:∀ {a:Addr} {p:List V},u a=⇑(.lst p)->a≠bw:=λ{a p} e q=>by rw[q,R]at e;cases e
 let n1:rw≠b:=(az n r).symm;let n2:rw≠c:=az (k _ _ C) f;let n3:z≠b:=(az (j _ _ n) l).symm;let n4:z≠c:=az F f;let n5:b≠c:=az ((j.trans k) _ _ n) f;refine⟨R,qu b rw c g,1,(by show 4<=15;decide),?_⟩;rw[show vg [] (qu b rw c g)=qu b rw c g by kernel_rfl];let d:∀ {a:Addr} {p:List V},u a=⇑(.lst p)->(aL u bw (.dK (qu b rw c g))) a=⇑(.lst p):=λ{a p} e=>by rw[aJ (nl e)];exact e
 let v:∀ a,w a=none->H a=none:=λa e=>aP s0 e;refine X (λa=>a=bw\/a=b\/a=rw\/a=z\/a=c\/a=g) bw _ ⟨b,rw,c,g,.inl rfl,.inr (.inl rfl),.inr (.inr (.inr (.inr (.inl rfl)))),.inr (.inr (.inr (.inr (.inr rfl)))),λa e=>?_,af,⟨[],d S,.nil⟩,⟨.inr (.inr (.inl rfl)),n1,n2,[],d T,.nil⟩,⟨[↥z],d W,.cons ⟨z,1,.inr (.inr (.inr (.inl rfl))),n3,n4,[],d U,.nil⟩ .nil⟩,n5,1,⟨[],d I,(by decide),trivial⟩,(az ((j.trans (k.trans o)) _ _ n) i).symm,(az G i).symm⟩ (λa e=>?_) (bN x (s0.trans O) (aG bw _ _))
 ·rcases e with rfl|rfl|rfl|rfl|rfl|rfl
  ·exact⟨_,af⟩
  ·exact⟨_,d S⟩
  ·exact⟨_,d T⟩
  ·exact⟨_,d U⟩
  ·exact⟨_,d W⟩
  ·exact⟨_,d I⟩
 ·rcases e with rfl|rfl|rfl|rfl|rfl|rfl
  ·exact x
  ·exact v _ y
  ·exact v _ (aP m r)
  ·exact v _ (aP m (aP j l))
  ·exact v _ (aP m (aP j (aP k f)))
  ·exact v _ (aP m (aP j (aP k (aP o i))))
class inductive PV
 | mk (W:Yf) (w r:Addr) (i:gD) (f:gY) (k g:cZ) (_:vs=[↥w,↥r]) (_:Wo ke aU W H w i f k) (_:↑f<=1000) (_:(∀ e b,(∃ rw h,H w=⇑(.dK (qu e rw b h)))->M0 W e b H r g)) (_: ∀ (c:Hp),Wo 100 aU W c w i (f++[g]) g->(∀ a j,H a=⇑j->¬ W a->c a=⇑j)->(∀ a d,H a=⇑(.tup d)->c a=⇑(.tup d))->(∀ e rw b h,H w=⇑(.dK (qu e rw b h))->∀ a d,H a=⇑(.lst d)->a≠b->c a=⇑(.lst d))->Q .gi c)
theorem mX:‹(1,81,["a","e"],PV)›:=λD=>by
 specialize fP ["a","e"] D.OR.F;let⟨W,bw,r,aC,w,C,F,rfl,⟨d,rw,b,f,h⟩,G,x,k⟩:=h;let p:=gS hr;exists _,#v[qI p (pv 0) bC (pv 1) rfl,aW (eX o7 jW jX b9 (gF p (pv 0) bC) #[1])]
 rfl'
 let y:=x d b ⟨rw,f,h.hw⟩;refine⟨Y,Y,bw,Y,yV.k (k:=kR) h.hw (by show 4<sizeLine;decide),?_⟩;rw[show dP (qu d rw b f) kR ↥r=qu d r b f by kernel_rfl];let⟨i,j,t⟩:=h.hp;let g:=aG bw H (.dK (qu d r b f));let l:(aL H bw (.dK (qu d r b f))) bw=⇑(.dK (qu d r b f)):=af;let m:∀ {a:Addr} {p:HO},H a=⇑p->(∀ c,p≠.dK c)->a≠bw:=λ{a p} e n q=>by rw[q,h.hw]at e;cases e;exact n _ rfl
 generalize aL H bw (.dK (qu d r b f))=s at g l;let u:=g _ _ j (m j (λ_ z=>by cases z));let z:=gX.k (k:=kP) l;rw[show cG (qu d r b f) kP=⇑↥b by kernel_rfl]at z;let p:i.length=↑w:=t.len;refine⟨Y,bw,Y,z,.inl ⟨1,_,bI.of u⟩,Y,b,Z,u,aN ∅,?_⟩;let B:bw≠b:=(m j (λ_ z=>by cases z)).symm
 let o:∀ a c,H a=⇑(.lst c)->a≠b->(aL s b (.lst (i++[↥r]))) a=⇑(.lst c):=λa c e n=>by
  rw[aJ n];exact g _ _ e (m e (λ_ z=>by cases z))
 let v:∀ a c,H a=⇑(.tup c)->(aL s b (.lst (i++[↥r]))) a=⇑(.tup c):=λa c e=>by
  rw[aJ (cP e j)];exact g _ _ e (m e (λ_ z=>by cases z))
 let m:∀ {a:Addr} {j:cZ},M0 W d b H a j->M0 W d b (aL s b (.lst (i++[↥r]))) a j:=λ{a j} q=>q.fr (λ_ i=>i) λa c e _ _ n=>o a c e n;have i:=m y
 refine k _ ⟨d,r,b,f,h.ww,h.wi,h.wp,h.wv,λa p=>?_,?_,h.hi.two (λc e=>o _ _ e h.ne) v,i,⟨_,af,(t.mono λd j ⟨a,e,q⟩=>⟨a,e,m q⟩).app (.cons ⟨r,1,i⟩ .nil)⟩,h.ne,lS,h.hv.imp λ_ z=>⟨o _ _ z.1 h.nv.2,by rw[cR,gW];have:=z.2.1;lia,z.2.2⟩,h.nv⟩ (λa f e n=>?_) v λi j m r d a c e n=>o a c e (by
  rw[h.hw]at d;simp only[Option.some.injEq,HO.dK.injEq,qu,List.cons.injEq,Prod.mk.injEq,V.ref.injEq,true_and,and_true]at d;rw[d.2.2.1]
  exact n)
 ·by_cases c:a=b
  ·rw[c];exact⟨_,af⟩
  rw[aJ c];by_cases b:a=bw
  ·rw[b];exact⟨_,l⟩
  ·let⟨f,e⟩:=h.al a p;exact⟨f,g _ _ e b⟩
 ·rw[aJ B];exact l
 ·rw[aJ (λq=>n (by rw[q];exact h.wp))];exact g _ _ e (λq=>n (by rw[q];exact h.ww))
def oq.al{U:Yf}{H:Hp}{x:Addr}{b:gY}{c:iK}{d:gD}{e:Nat}{f:Row}(h:oq C j k l U H x b c d e f){a:Addr}(z:U a):∃ g,H a=⇑g:=by
 let⟨S,m,n,o,p,q,r,s,t,v,w,y,A,D,F,G,I,J,M,L,W,B,R,N,O,T,X,u⟩:=h;let⟨m,i,_⟩:=R;rcases (u a).mp z with y|y|y|y|y|y
 ·exact L.W.al a y
 ·exact W.al a y
 ·rw[y];exact⟨_,L.hb⟩
 ·rw[y];exact⟨_,L.hx⟩
 ·rw[y];exact⟨_,B⟩
 ·rw[y];exact⟨_,i⟩
def Wo.al{W:Yf}{H:Hp}{w:Addr}{b:gD}{c:gY}{d:cZ}(h:Wo 100 f W H w b c d){a:Addr}(z:W a):∃ e,H a=⇑e:=by
 let⟨g,rw,i,j,y⟩:=h;exact y.al a z
structure qv(C CS CW CB:Addr)(H:Hp)(l c w x:Addr)(U W:Yf)(pe:gY)(rows:cZ)(pq:gY)(rq:cZ)(aA:iK)(aC:gD)(nW:Nat)(aU:Row):Prop where
 src:dX H l c
 PX:oq C CS CW CB U H x pe aA aC nW aU
 lst:pe.getLast?=⇑rows
 wo:Wo 100 aU W H w aC pq rq
 du:∀ a,U a->¬ W a/\a≠l/\a≠c
 dw:∀ a,W a->a≠l/\a≠c
def GP(l:Addr)(U W d e:Yf)(H b:Hp):Prop:=(∀ a,d a\/e a->U a\/W a\/H a=none)/\(∀ a c,H a=⇑c->a≠l->¬ U a->¬ W a->b a=⇑c)/\∀ a c,H a=⇑(.tup c)->b a=⇑(.tup c)
def GP.trans{l:Addr}{U W c d j k:Yf}{H g m:Hp}(f:GP l U W c d H g)(h:∃ o,g l=⇑o)(i:GP l c d j k g m):GP l U W j k H m:=by
 let q:∀ a,c a\/d a\/g a=none->U a\/W a\/H a=none:=by
  intro a z;rcases z with z|z|z
  ·exact f.1 a (.inl z)
  ·exact f.1 a (.inr z)
  by_cases u:U a
  ·exact .inl u
  by_cases v:W a
  ·exact .inr (.inl v)
  refine .inr (.inr ?_)
  cases e:H a with
  | none=>rfl
  | some b =>
   exfalso;by_cases n:a=l
   ·let⟨o,h⟩:=h;rw[n,h]at z;cases z
   rw[f.2.1 _ _ e n u v]at z;cases z
 let p:∀ a b,H a=⇑b->¬ U a->¬ W a->¬ c a/\¬ d a:=by
  intro a b e u v;refine⟨λz=>?_,λz=>?_⟩
  ·rcases f.1 a (.inl z) with y|y|y
   ·exact u y
   ·exact v y
   ·rw[y]at e;cases e
  ·rcases f.1 a (.inr z) with y|y|y
   ·exact u y
   ·exact v y
   ·rw[y]at e;cases e
 exact⟨λa z=>q a (i.1 a z),λa b e n u v=>i.2.1 _ _ (f.2.1 _ _ e n u v) n (p a b e u v).1 (p a b e u v).2,λa a e=>i.2.2 _ _ (f.2.2 _ _ e)⟩
def qv.mv{H b:Hp}{l c w x:Addr}{U W:Yf}{f:gY}{g:cZ}{i:gY}{j:cZ}{m:iK}{n:gD}{o:Nat}{p:Row}(h:qv C q r u H l c w x U W f g i j m n o p)(k:cB l H b)(s:dX b l c):qv C q r u b l c w x U W f g i j m n o p:=by
 let⟨a,v⟩:=h.src.lst;let t:∀ a d,H a=⇑(.tup d)->b a=⇑(.tup d):=λa d e=>k _ _ e (cP e v);exact⟨s,h.PX.fr (λa d e z=>k _ _ e (h.du a z).2.1) t,h.lst,h.wo.fr (λa d e z=>k _ _ e (h.dw a z).1) t,h.du,h.dw⟩
theorem qv.same{H a:Hp}{l c w x:Addr}{U W:Yf}{b:gY}{d:cZ}{e:gY}{f:cZ}{g:iK}{h:gD}{i:Nat}{j:Row}(k:qv C m n o H l c w x U W b d e f g h i j)(s:aH H a):qv C m n o a l c w x U W b d e f g h i j:=k.mv (λp q r _=>s p q r) (k.src.same s)
def FZ{c:Type}{a:List c}{v:Int}(d:0<=v)(e:v<↑a):∃ x∈a,nM a v=⇑x:=by
 obtain⟨j,rfl⟩:∃ j:Nat,v=j:=⟨v.toNat,by lia⟩;let b:j<↑a:=by lia
 exact⟨a[j],List.getElem_mem b,dm (nh b)⟩
def qv.U6{W b:Yf}{H:Hp}{w rw:Addr}{c:gD}{d:gY}{f:cZ}(h:MA 100 g W H w i rw j k c d f)(s:∀ a,W a->b a)(l:∀ a,b a->∃ m,H a=⇑m):MA 100 g b H w i rw j k c d f:=by
 let⟨ww,wi,wp,wv,_,hw,hi,hr,⟨n,o,p⟩,ne,lst,hv,nv⟩:=h;exact⟨s _ ww,s _ wi,s _ wp,s _ wv,l,hw,hi,hr.fr s (λa q e _ _ _=>e),⟨n,o,p.mono λv n ⟨a,e,z⟩=>⟨a,e,z.fr s (λa q e _ _ _=>e)⟩⟩,ne,lst,hv,nv⟩
def dX.qA{U d:Yf}{H a:Hp}{l c:Addr}(e:dX H l c)(b:xx U d H a)(f:¬ U l)(g:¬ U c):dX a l c:=by
 let⟨n,h,i,j,r,k,m,o⟩:=e;exact⟨n,h,i,j,r,b.2.1 _ _ k f,b.2.1 _ _ m g,o⟩
def Wo.any{n:Nat}{d e:Row}{W:Yf}{H:Hp}{w:Addr}{a:gD}{b:gY}{c:cZ}(h:Wo n d W H w a b c):Wo n e W H w a b c:=by
 let⟨f,rw,g,i,j,k,wp,l,al,m,o,p,q,r,s,t,u⟩:=h;exact⟨f,rw,g,i,j,k,wp,l,al,m,o,p,q,r,s,t,u⟩
def qv.k0{H c:Hp}{l f w x:Addr}{U d W:Yf}{u g:gY}{v j:cZ}{k:gY}{m:cZ}{A n:iK}{h:gD}{B o:Nat}{D p:Row}(St:qv C q r t H l f w x U W u v k m A h B D)(G:oq C q r t d c x g n h o p)(I:g.getLast?=⇑j)(b:xx U d H c):qv C q r t c l f w x d W g j k m n h o p/\GP l U W d W H c:=by
 refine⟨⟨St.src.qA b (λz=>(St.du l z).2.1 rfl) (λz=>(St.du f z).2.2 rfl),G,I,(St.wo.fr (λa i e z=>b.2.1 _ _ e (λy=>(St.du a y).1 z)) b.2.2).any,λa z=>?_,St.dw⟩,λa z=>z.elim (λz=>(b.1 a z).elim .inl λy=>.inr (.inr y)) (λz=>.inr (.inl z)),λa i e _ s _=>b.2.1 a i e s,b.2.2⟩;rcases b.1 a z with y|y
 ·exact St.du a y
 ·let a:=St.src.ne y;refine⟨λz=>?_,a.1.symm,a.2.symm⟩;let⟨i,e⟩:=St.wo.al z;rw[y]at e;cases e
def qv.kept{H c:Hp}{l d w x:Addr}{U W b:Yf}{j:gY}{k:cZ}{t m:gY}{u n:cZ}{o:iK}{e:gD}{p:Nat}{f:Row}(St:qv C v y A H l d w x U W j k t u o e p f)(wo:Wo 100 f b c w e m n)(q:∀ a,U a->¬ b a)(g:∀ a,b a->a≠l/\a≠d)(h:∀ a i,H a=⇑i->¬ b a->c a=⇑i)(B:∀ a r,H a=⇑(.tup r)->c a=⇑(.tup r)):qv C v y A c l d w x U b j k m n o e p f:=by
 refine⟨?_,St.PX.fr (λa i s z=>h _ _ s (q a z)) B,St.lst,wo,λa z=>⟨q a z,(St.du a z).2⟩,g⟩;let⟨s,D,F,G,I,J,L,M⟩:=St.src;exact⟨s,D,F,G,I,h _ _ J (λz=>(g l z).1 rfl),h _ _ L (λz=>(g d z).2 rfl),M⟩
def qv.new{H:Hp}{l c w x a:Addr}{U W:Yf}{b:gY}{d:cZ}{f:gY}{g:cZ}{i:iK}{j:gD}{k:Nat}{m:Row}(St:qv C p q r H l c w x U W b d f g i j k m)(h:H a=none):¬ U a/\¬ W a/\a≠l/\a≠c:=by
 let n:=St.src.ne h;refine⟨λz=>?_,λz=>?_,n.1.symm,n.2.symm⟩
 ·let⟨o,e⟩:=St.PX.al z;rw[h]at e;cases e
 ·let⟨o,e⟩:=St.wo.al z;rw[h]at e;cases e
def own(a:cZ)(x:Int):UF:=(a[x.toNat]?).getD []
def F0{a:cZ}{s:Nat}(b:UF)(h:s<↑a):iR a s b=a.set s b:=by
 unfold iR;rw[List.set_eq_take_append_cons_drop,if_pos h,jq];rfl
theorem F3{k:Nat}:∀ {a:Row},(∀ p∈a,p.2<=p.1+(k:Nat))->↑(bu a)<=k*↑a
 | [],_=>ic _
 | p::r,h=>by
  let b:=F3 (a:=r) λq b=>h q (jT _ b);have b:=h p (nP ..);have e:bu (p::r)=gv p++bu r:=by unfold bu;rw[jb]
  rw[e,cR,jH,Nat.mul_add,Nat.mul_one];have:↑(gv p)<=k:=by unfold gv;rw[fc];lia
  lia
def PY{n:Nat}{a:Row}(h:∀ p∈a,0<=p.1/\p.1<p.2/\p.2<=(n:Nat)){e:Int}(b:e∈bu a):0<=e/\e<(n:Nat):=by
 unfold bu at b;let⟨p,c,d⟩:=List.mem_flatMap.mp b;let f:=h p c;let m:=xP.mp d;lia
class inductive XI
 | mk (r e:Addr) (s:Nat) (a:List V) (_:vs=[↥r,.int (s:Nat),↥e]) (_:H r=⇑(.lst a)) (_:s<↑a) (_:↑a<=1000) (_:∀ (q:Addr) (b:Hp),b q=⇑(.lst (a.set s ↥e))->aH H b->H q=none->Q ↥q b)
def Tr{n:Nat}{i:Nat}(a:i<n):JD n ((i:Nat):Int)=⇑i:=by
 unfold JD;rw[if_pos ∅,Int.toNat_natCast,if_pos ∅]
theorem wU:‹(1,82,["e","d","_law_entries"],XI)›:=λD=>by
 specialize fP ["e","d","_law_entries","p"] D.WX.F;let⟨r,e,s,c,rfl,a,b,d,k⟩:=h;exists _,#v[aX 3 (fY gR rfl D.T.jz tK #[0]),mZ (pv 2) (pJ (pv 3) (pv 1) j4),aK (pv 3)]
 rfl'
 refine⟨Y,r,Y,.inl (bI.of a),λq a=>?_⟩;refine⟨Y,Y,Y,q,E,s,V,af,Tr b,Y,k q _ af (bN a (ak a _) (aG q _ _)) a⟩
def Wo.swap{W:Yf}{H:Hp}{w rw q e:Addr}{i:gD}{j:gY}{f:cZ}{m:List V}{s:Nat}{k:UF}(b:MA 100 n W H w c rw d o i j f)(x:H rw=⇑(.lst m))(p:H q=⇑(.lst (m.set s ↥e)))(r:H e=⇑(.lst (k.map V.int)))(t:¬ W q)(u:¬ W e):MA 100 n (λa=>W a\/a=e\/a=q) H w c rw d o i j f/\M0 (λa=>W a\/a=e\/a=q) c d H q (f.set s k):=by
 let l:MA 100 n (λa=>W a\/a=e\/a=q) H w c rw d o i j f:=qv.U6 b (λa z=>.inl z) (by
  rintro a (z|z|z)
  ·exact b.al a z
  ·rw[z];exact⟨_,r⟩
  ·rw[z];exact⟨_,p⟩)
 let⟨_,_,_,g,v,al⟩:=id l.hr;rw[x]at v;cases v;let h:∀ {a v:Addr},W a->¬ W v->v≠a:=λv y z=>y (by rw[z];exact v);exists l,.inr (.inr rfl),h b.wi t,h b.wp t,_,p
 let A:∀ {g:List V} {l:cZ} (s:Nat),cI (U0 (λa=>W a\/a=e\/a=q) c d H) g l->cI (U0 (λa=>W a\/a=e\/a=q) c d H) (g.set s ↥e) (l.set s k):=by
  intro g l s z
  induction z generalizing s with
  | nil=>exact .nil
  | cons B C D =>
   cases s with
   | zero=>exact .cons ⟨e,1,.inr (.inl rfl),h b.wi u,h b.wp u,r⟩ C
   | succ g=>exact .cons B (D g)
 exact A s al
theorem Dv:‹(1,83,["1"],(Rm 1000000))›:=λD=>by
 refine fP ["1","_law_numbers","u","Q"] D.jV.F λdD A zn s H vs Q E hr _ h=>?_;let⟨r,row,rfl,⟨j,e,c⟩,l,m,p,k⟩:=h;exists _,#v[aX 1 (bK ah),eZ PassesOwn.never rfl (cK (pv 0)) (lU (n:=2) rfl (bR (bV 2) (bR (bV 3) gJ))) #v[aW (eX o7 PySem.F.slot_list_extend PySem.F.type_list_extend jL (pv 1) #[fY (rM rfl) rfl D.T.jz tK #[fY Ew rfl D.T.i9 PyProof.Rows.boot_range #[2,3]]])],aK (pv 1)]
 rfl'
 refine⟨iD,λq f=>?_⟩;let s0:aH H (aL H q (.lst [])):=ak f _;refine⟨Y,r,1,⟨_,bI.of (s0 _ _ e)⟩,ef (K:=bZ) (e:=r) (b:=j.map V.ref) (λi d a=>∃ (u v:Option V),d=[⇑↥r,⇑↥q,u,v]/\a q=⇑(.lst ((bu (row.take i)).map V.int))/\aH H a) ⟨none,none,1,af,s0⟩ (by rintro i d a _ ⟨_,_,_,_,s⟩;exact bI.of (s _ _ e)) ?_ ?_⟩
 ·rintro i x d a g ⟨u,v,rfl,b,s⟩;rw[gj]at g;let⟨n,o,rfl⟩:=Option.map_eq_some_iff.mp g;let⟨⟨e,g⟩,j,p⟩:=c.get o;let⟨o,r,t⟩:=l _ (mL j);simp only at o r t;let step:=yQ j
  let j:↑(bu (row.take i))+(g-e).toNat<=1000000:=by
   let z:=rN row (i+1);rw[step,cR,gv,fc]at z;exact fX z m
  exists n,Y,dI.of (s _ _ p),1,E,1,Z;refine⟨Y,.inl ⟨1,_,bI.of b⟩,Y,Y,E,1,λp c=>⟨p,E,1,af,⟨by lia,by lia,by lia,by omega⟩,eO (aN ∅),λm j=>?_⟩⟩;let l:aH a (aL a p (.D5 e g)):=ak c _;let i:=l.trans (ak j (.lst (Bt e (g-e).toNat)));exists q,m,Z,i _ _ b,af,?_
  ·rw[cC,yP,cC,fc];exact eO (aN ∅)
  ·refine⟨E,1,?_,bN f (s.trans i) (aG q _ _)⟩;rw[af,step,gI,yP];rfl
 ·rintro d a ⟨u,v,rfl,b,s⟩;refine⟨Y,k q a ?_ s f⟩;rw[cC,c.len,gP]at b;exact b
class inductive Dw(d:Nat)
 | mk (e:Yf) (r:Addr) (a:cZ) (x:Int) (b:Y1) (rk:Int->Nat) (_:vs=[↥r,.int x]) (_:iA e H r a) (_:↑a<=1000) (_:gM a) (_:0<=x) (_:x<↑a) (_:mz a b) (_:(∀ x:Int,0<=x->x<↑a->↑(b x)<=10000)) (_:(∀ x y,jF a x y->rk y<rk x)) (_:rk x<d) (_ :
 ∀ (o:Addr) (c:Hp),c o=⇑(.lst ((b x).map V.int))->aH H c->H o=none->Q ↥o c)
def AJ(D:bW){n:Nat}(G:bq c9 bw bZ cW cU cS (n+1) (eK 84) (eL 84) ["e","d"] (Dw n)):bq c9 bw bZ cW cU cS (n+2) (eK 84) (eL 84) ["e","d"] (Dw (n+1)):=by
 refine fP ["e","d","_law_numbers","t"] D.Fc.F λL O U s H W Q E o _ F=>?_;let⟨I,r,k,x,a,rk,rfl,R,J,v,l,L,w,y,A,O,M⟩:=F;obtain⟨b,m⟩:∃ b,k[x.toNat]?=⇑b:=⟨_,nh ∅⟩;let⟨F,g,N,O,p,U⟩:=R.get m
 let S:nM F x=⇑↥g:=by
  let z:=dm O;rw[show ((x.toNat:Nat):Int)=x by lia]at z;exact z
 let B:=w x b l m
 let T:∀ i,↑(aS a (b.take i))<=10000:=λi=>by
  let z:=y x l L
  let e:aS a b=aS a (b.take i)++aS a (b.drop i):=by
   unfold aS;rw[← List.flatMap_append,List.take_append_drop]
  rw[B,e,cR]at z;lia
 exists _,#v[aX 2 (bK ah),eZ PassesOwn.never rfl (cK (aO bH (pv 0) (pv 1))) (bV 3) #v[bM (aV kM (pv 3) ay (bh _)) #v[aW (eX o7 PySem.F.slot_list_extend PySem.F.type_list_extend jL (pv 2) #[aB D.Fc G o #[0,bz dc (iS gm ay) (pv 3)]])] #v[aW (eX o7 jW jX b9 (pv 2) #[3])]],aK (pv 2)]
 rfl'
 refine⟨iD,λq h=>?_⟩;let o:aH H (aL H q (.lst [])):=ak h _;refine⟨Y,Y,r,Q,V,bI.of (o _ _ N),S,g,1,⟨_,bI.of (o _ _ p)⟩,ef (K:=bZ) (e:=g) (b:=b.map V.int) (λi j f=>∃ u:Option V,j=[⇑↥r,⇑(.int x),⇑↥q,u]/\f q=⇑(.lst ((aS a (b.take i)).map V.int))/\aH H f) ⟨none,1,af,o⟩ (by rintro i j f _ ⟨_,_,_,c⟩;exact bI.of (c _ _ p)) ?_ ?_⟩
 ·rintro i e j f t ⟨u,rfl,d,c⟩;rw[gj]at t;let⟨e,C,rfl⟩:=Option.map_eq_some_iff.mp t
  let g:aS a (b.take (i+1))=aS a (b.take i)++aZ a e:=by
   rw[take_snoc C];unfold aS;rw[List.flatMap_append];simp
  let o:=T (i+1);rw[g,cR]at o;refine⟨Y,Z,Y,dN (λi=>?_) (λi=>?_)⟩
  ·let p:e<0:=of_decide_eq_true i;let t:aZ a e=a (-1-e):=by unfold aZ;rw[if_pos p]
   rw[t]at g o;let z:jF k x (-1-e):=⟨l,b,m,cH.mpr ⟨by lia,by rw[show -1-(-1-e)=e by lia];exact mL C⟩⟩;let⟨b,l⟩:=v.DY z;let m:=A _ _ z;refine⟨Y,.inl ⟨1,_,bI.of d⟩,Y,Y,Y,Z,I,r,k,-1-e,a,rk,1,R.same c,J,v,b,l,w,y,A,by lia,λk m l b r=>?_⟩;refine⟨q,k,Z,b _ _ d,l,eO (aN (by rw[cC,cC];lia)),?_⟩;refine⟨Y,?_,bN h (c.trans b) (aG q _ _)⟩;rw[af,g,gI]
  ·let p:¬ e<0:=λz=>i (decide_eq_true z);have t:aZ a e=[e]:=by unfold aZ;rw[if_neg p]
   rw[t]at g o;refine⟨Y,.inl ⟨1,_,bI.of d⟩,Y,q,Z,d,(by rw[cC];exact aN ∅),?_⟩;refine⟨Y,?_,bN h c (aG q _ _)⟩;rw[af,g,gI];rfl
 ·rintro j f ⟨u,rfl,d,c⟩;rw[cC,gP,← B]at d;exact⟨Y,M q f d c h⟩
theorem iJ(D:bW):∀ n:Nat,bq c9 bw bZ cW cU cS (n+1) (eK 84) (eL 84) ["e","d"] (Dw n)
 | 0=>by
  let b:∀ a H Q E,¬ Dw 0 a H Q E:=λa H Q E h=>by
   let⟨_,_,_,_,_,_,_,_,_,_,_,_,_,_,_,h,_⟩:=h;exact Nat.not_lt_zero _ h
  exact⟨λa H Q E h=>absurd h (b a H Q E),λA c s H args d a Q E _ _ _ _ h=>absurd h (b a H Q E)⟩
 | n+1=>AJ D (iJ D n)
def M5(a:cZ):Nat->Int->List Int
 | 0,_=>[]
 | k+1,x=>match a[x.toNat]? with
  | some es=>aS (M5 a k) es
  | none=>[]
def qw{f g:Y1}{a:UF}(h:∀ y∈eU a,f y=g y):aS f a=aS g a:=by
 unfold aS;rw[List.flatMap_def,List.flatMap_def];congr 1;refine List.map_congr_left λe b=>?_;unfold aZ;by_cases c:e<0
 ·rw[if_pos c,if_pos c,h (-1-e) (cH.mpr ⟨by lia,by rw[show -1-(-1-e)=e by lia];exact b⟩)]
 ·rw[if_neg c,if_neg c]
def zP{a:cZ}(h:CM a):∃ f,mz a f:=by
 let⟨rk,g,i⟩:=h
 let j:∀ (k:Nat) (x:Int),0<=x->rk x<k->M5 a k x=M5 a (k+1) x:=by
  intro k
  induction k with
  | zero=>intro x _ h;lia
  | succ k l =>
   intro x c b
   cases e:a[x.toNat]? with
   | none=>simp[M5,e]
   | some b =>
    let d:M5 a (k+1) x=aS (M5 a k) b:=by simp[M5,e]
    let m:M5 a (k+1+1) x=aS (M5 a (k+1)) b:=by
     show (match a[x.toNat]? with|some b=>aS (M5 a (k+1)) b|none=>[])=_;rw[e]
    rw[d,m];refine qw λy d=>l y (cH.mp d).1 ?_;have:=i x y ⟨c,b,e,d⟩;lia
 refine⟨M5 a 41,λx b c d=>?_⟩;rw[j 41 x c (by have:=g x;lia)];show (match a[x.toNat]? with|some b=>aS (M5 a 41) b|none=>[])=_;rw[d]
def zQ(n:Nat)(L:UF):Nat:=cnt n λi=>decide ((i:Int)∉L)
def MB{n:Nat}{L:UF}{y:Int}(d:0<=y)(e:y<n)(a:y∉L):zQ n (L++[y])+1=zQ n L:=by
 refine ug y.toNat n ∅ ?_ λi=>?_
 ·show decide (((y.toNat:Nat):Int)∉L)=true;rw[show ((y.toNat:Nat):Int)=y by lia];exact decide_eq_true a
 ·show decide ((i:Int)∉L++[y])=(decide ((i:Int)∉L)&&decide (i≠y.toNat));rw[← Bool.decide_and];congr 1;rw[List.mem_append,List.mem_singleton];apply propext;constructor
  ·intro h;exact⟨λq=>h (.inl q),λq=>h (.inr ∅)⟩
  ·rintro⟨b,c⟩ (q|q)
   ·exact b q
   ·exact c ∅
def Dy(a b:UF):eU (a++b)=eU a++eU b:=by unfold eU;rw[List.filterMap_append]
structure k'(rows:cZ)(H:Hp)(Rr Wt:Addr)(s:Int)(qS:Int->Prop)(H2:Hp)(L ws:UF):Prop where
 hR:H2 Rr=⇑(.lst (L.map V.int))
 hW:H2 Wt=⇑(.lst (ws.map V.int))
 sm:aH H H2
 rc:∀ x∈L,Reach (jF rows) s x
 wr:∀ x∈ws,(x=s\/x∈L)/\0<=x/\x<↑rows
 kl:↑L+zQ ↑rows L<=↑rows
 cl:∀ x,(x=s\/x∈L)->x∈ws\/qS x\/∀ y,jF rows x y->y∈L
class inductive MC
 | mk (c:Yf) (r:Addr) (a:cZ) (s:Int) (_:vs=[↥r,.int s]) (_:iA c H r a) (_:↑a<=1000) (_:(∀ d∈a,↑d<=100000)) (_:gM a) (_:0<=s) (_:s<↑a) (_ :
 ∀ (L:UF) (o:Addr) (b:Hp),b o=⇑(.lst (L.map V.int))->aH H b->(∀ x,x∈L↔Reach (jF a) s x)->Q ↥o b)
def ga(n:Nat)(L a:UF):Nat:=2*zQ n L+↑a
def U7(a:cZ)(H:Hp)(r c d:Addr)(s:Int)(m:Nat)(e:_L2.St)(f:Hp):Prop:=∃ (L b:UF) (u v:Option V),e=[⇑↥r,⇑(.int s),⇑↥c,⇑↥d,u,v]/\k' a H c d s (λ_=>False) f L b/\↑b+2*zQ ↑a L<=2*↑a+1/\m=ga ↑a L b
theorem zR:‹(1,85,["e","d"],MC)›:=λD=>by
 specialize fP ["e","d","_law_reached_here","_law_waiting","_law_here","t"] D.j1.F;let⟨av,r,e,s,rfl,ae,d8,W,oK,h0,h1,X⟩:=h;let hu:=gS hr;exists _,#v[aX 2 (bK ah),aX 3 (bK #[1]),pK PassesOwn.never (aV Ei (gf D.T.fJ (pv 3)) ay (bh _)) #v[aX 4 (Hf o7 PySem.F.slot_list_pop PySem.F.type_list_pop NF (pv 3)),eZ PassesOwn.never rfl (cK (aO bH (pv 0) (pv 4))) (bV 5) #v[bM (PW.pt (pF (aV kM (pv 5) ay (bh _)) (mO (aV Cz (bz dc (iS gm ay) (pv 5)) (pv 2) rfl)))) #v[aW (eX o7 jW jX b9 (pv 2) #[bz dc (iS gm ay) (pv 5)]),aW (eX o7 jW jX b9 (pv 3) #[bz dc (iS gm ay) (pv 5)])] bg]],aK (pv 2)]
 rfl'
 refine⟨iD,λf R=>?_⟩;refine⟨Y,mq,λd o=>?_⟩;let S:aH H (aL H f (.lst [])):=ak R _;let s2:=S.trans (ak o (.lst [.int s]))
 let T:H d=none:=by
  cases b:H d with
  | none=>rfl
  | some a=>exact absurd ((S _ _ b).symm.trans o) (by simp)
 let C:f≠d:=az af o;exists U7 e H r f d s,⟨_,[],[s],none,none,1,⟨ak o _ _ _ af,af,s2,?_,?_,?_,?_⟩,?_,1⟩
 ·intro x b;cases b
 ·intro x b;have:x=s:=by simpa using b
  exact⟨.inl this,by lia,by lia⟩
 ·have:=y9 ↑e (λi=>decide ((i:Int)∉([]:UF)));show 0+cnt ↑e _<=_;lia
 ·rintro x (rfl|b)
  ·exact .inl (by simp)
  ·cases b
 ·have:=y9 ↑e (λi=>decide ((i:Int)∉([]:UF)));show 1+2*cnt ↑e _<=_;lia
 rintro ag m U ⟨L,ws,ai,v,rfl,B,F,rfl⟩;exists Y,d,Y,.inl (bI.of B.hW),Z,Y;rcases kZ ws with rfl|⟨k,h,rfl⟩
 ·refine gx ⟨Y,X L f U B.hR B.sm λx=>⟨λb=>B.rc x b,λb=>?_⟩⟩
  let cU:∀ x,(x=s\/x∈L)->∀ y,jF e x y->y∈L:=λx b=>by
   rcases B.cl x b with z|z|z
   ·cases z
   ·exact z.elim
   ·exact z
  exact Reach.closed (a:=λy=>y∈L) (cU s (.inl rfl)) (λx y b=>cU x (.inr b) y) b
 rw[jI]at B F ⊢;refine dN (λ_=>?_) (λz=>absurd (decide_eq_true (by simp)) z);let⟨ag,o,ai,am,S,an,ao⟩:=id B;let⟨G,e0,X⟩:=S h (by simp);obtain⟨j,p⟩:∃ j,e[h.toNat]?=⇑j:=⟨_,nh ∅⟩;let X:=W j (mL p);refine⟨fun W X=>∃ m',m'<ga ↑e L (k++[h])/\U7 e H r f d s m' W X,fun W X z=>z,?_⟩;refine⟨Y,.inl ⟨1,_,bI.of o⟩,d,_,.int h,V,o,(by simp),?_⟩;let o:((k++[h]).map V.int).dropLast=k.map V.int:=by simp
 rw[o];let o:aH H (aL U d (.lst (k.map V.int))):=bN T ai (aG d _ _);let⟨xr,U,W,X,ab,ai⟩:=ae.get p;let ae:=o _ _ ab;refine⟨Y,Y,r,Q,V,bI.of (o _ _ W),?_,U,1,⟨_,bI.of ae⟩,ef (K:=bZ) (e:=U) (b:=j.map V.int) (λi m n=>∃ (_L2 g:UF) (v:Option V),m=[⇑↥r,⇑(.int s),⇑↥f,⇑↥d,⇑(.int h),v]/\ k' e H f d s (λx=>x=h) n _L2 g/\(∀ y∈eU (j.take i),y∈_L2)/\(∀ y∈L,y∈_L2)/\g.length+2*zQ ↑e _L2<=k.length+2*zQ ↑e L) ?_ ?_ ?_ ?_⟩
 ·let z:=dm X;rw[show ((h.toNat:Nat):Int)=h by lia]at z;exact z
 ·refine⟨L,k,Y,⟨(by rw[aJ C];exact ag),af,o,am,λx b=>S x (lQ _ b),an,λx b=>?_⟩,(λy c=>by simp[eU]at c),λ_ q=>q,d7 _⟩;rcases ao x b with z|z|z
  ·rcases List.mem_append.mp z with q|q
   ·exact .inl q
   ·exact .inr (.inl (by simpa using q))
  ·exact z.elim
  ·exact .inr (.inr z)
 ·rintro i m n _ ⟨_,_,_,_,a,_⟩;exact bI.of (a.sm _ _ ab)
 ·rintro i x m n hi ⟨_L2,g,v,rfl,a,l,t,I⟩;rw[gj]at hi;let⟨x,ex,rfl⟩:=Option.map_eq_some_iff.mp hi;let step:eU (j.take (i+1))=eU (j.take i)++eU [x]:=by rw[take_snoc ex,Dy]
  refine⟨Y,Z,Y,dN (λJ=>?_) (λJ=>gx ?_)⟩
  ·let M:x<0:=of_decide_eq_true J;let u:eU [x]=[-1-x]:=by simp[eU,M]
   let N:jF e h (-1-x):=⟨e0,j,p,by
    rw[cH]
    exact⟨by lia,by rw[show -1-(-1-x)=x by lia];exact mL ex⟩⟩
   let⟨y0,y1⟩:=oK.DY N;exists Y,Y,Z,Y,f,Y,.inl (bI.of a.hR),1,BF _L2,Y;rw[JY];by_cases w:-1-x∈_L2
   ·rw[decide_eq_true w];refine gx ?_;refine⟨_L2,g,Y,a,(λy c=>?_),t,I⟩;rw[step,u]at c;rcases List.mem_append.mp c with q|q
    ·exact l y q
    ·have:y=-1-x:=by simpa using q
     rw[this];exact w
   ·rw[decide_eq_false w];refine iX ?_;let e:=a.kl;let e:=MB y0 y1 w;refine⟨Y,.inl ⟨1,_,bI.of a.hR⟩,Y,Y,Z,f,Z,a.hR,(by rw[cC];exact aN ∅),?_⟩;let e:(aL n f (.lst (_L2.map V.int++[.int (-1-x)]))) d=⇑(.lst (g.map V.int)):=by rw[aJ C.symm];exact a.hW
    refine⟨Y,.inl ⟨1,_,bI.of e⟩,Y,Y,Z,d,Z,e,(by rw[cC];rw[cR,gW]at F;exact aN ∅),?_⟩;refine⟨_L2++[-1-x],g++[-1-x],Y,⟨?_,?_,bN T (bN R a.sm (aG f _ _)) (aG d _ _),?_,?_,?_,?_⟩,?_,λy q=>lQ _ (t y q),?_⟩
    ·rw[aJ C,af,gI];rfl
    ·rw[af,gI];rfl
    ·intro y c;rcases List.mem_append.mp c with q|q
     ·exact a.rc y q
     ·have:y=-1-x:=by simpa using q
      subst this;rcases G with rfl|G
      ·exact .one N
      ·exact .step (B.rc h G) N
    ·intro y c;rcases List.mem_append.mp c with q|q
     ·let⟨b,d⟩:=a.wr y q;exact⟨b.imp id (lQ _),d⟩
     ·have:y=-1-x:=by simpa using q
      subst this;exact⟨.inr (by simp),y0,y1⟩
    ·rw[cR,gW];lia
    ·intro y c;by_cases b:y=-1-x
     ·exact .inl (by rw[b];simp)
     ·let O:y=s\/y∈_L2:=c.imp id λq=>by
       rcases List.mem_append.mp q with z|z
       ·exact z
       ·exact absurd (by simpa using z) b
      rcases a.cl y O with q|q|q
      ·exact .inl (lQ _ q)
      ·exact .inr (.inl q)
      ·exact .inr (.inr λz b=>lQ _ (q z b))
    ·intro y c;rw[step,u]at c;rcases List.mem_append.mp c with q|q
     ·exact lQ _ (l y q)
     ·exact kJ _ q
    ·rw[cR,gW];lia
  ·let M:¬ x<0:=λz=>J (decide_eq_true z);have u:eU [x]=[]:=by simp[eU,M]
   exact⟨_L2,g,Y,a,(by rw[step,u,gG];exact l),t,I⟩
 ·rintro m n ⟨_L2,g,v,rfl,a,l,t,I⟩;rw[cC,gP]at l;refine⟨_,?_,_L2,g,E,1,⟨a.hR,a.hW,a.sm,a.rc,a.wr,a.kl,λx b=>?_⟩,?_,1⟩
  ·unfold ga;rw[cR,gW];lia
  ·rcases a.cl x b with q|rfl|q
   ·exact .inl q
   ·refine .inr (.inr λy c=>l y ?_);let⟨_,a,i,O⟩:=c;rw[p]at i;cases i;exact O
   ·exact .inr (.inr q)
  ·rw[cR,gW]at F;lia
theorem ou(a:Y1)(b:UF)(i:Nat):↑(aS a (b.take i))<=↑(aS a b):=iQ (aZ a) b i
class inductive vS(d:Nat)
 | mk (f:Yf) (r:Addr) (a:cZ) (e:Int) (b:Y1) (rk:Int->Nat) (_:vs=[↥r,.int e]) (_:iA f H r a) (_:↑a<=1000) (_:gM a) (_:mz a b) (_:(∀ x:Int,0<=x->x<↑a->↑(b x)<=10000)) (_:(∀ x y,jF a x y->rk y<rk x)) (_:(e<0->-1-e<↑a/\rk (-1-e)<d)) (_ :
 ∀ (o:Addr) (c:Hp),c o=⇑(.lst ((aZ b e).map V.int))->aH H c->H o=none->Q ↥o c)
def rT(D:bW){d:Nat}:bq c9 bw bZ cW cU cS (d+2) (eK 86) (eL 86) ["e","t"] (vS d):=by
 specialize fP ["e","t"] D.WY.F;let⟨b,r,f,e,g,rk,rfl,R,i,j,l,m,n,o,k⟩:=h;exists _,#v[bM (aV kM (pv 1) ay (bh _)) #v[aK (aB D.Fc (iJ D d) hr #[0,bz dc (iS gm ay) (pv 1)])] bg,aK (bK #[1])]
 rfl'
 refine⟨Y,Z,Y,dN (λc=>?_) (λc=>?_)⟩
 ·let a:e<0:=of_decide_eq_true c;let⟨p,q⟩:=o a;refine⟨Y,Y,Y,Z,b,r,f,-1-e,g,rk,1,R,i,j,by lia,p,l,m,n,q,λo f h s0 b=>k o f ?_ s0 b⟩;unfold aZ;rw[if_pos a];exact h
 ·let a:¬ e<0:=λz=>c (decide_eq_true z);refine⟨Y,mq,λo b=>k o _ ?_ (ak b _) b⟩;unfold aZ;rw[if_neg a,af];rfl
def Iv{l:UF}{a:Nat}:↑(l.take a)<=↑l:=by rw[gO];exact Nat.min_le_right _ _
def Iw{l:UF}{a:Nat}:↑(l.drop a)<=↑l:=by rw[pD];exact Nat.sub_le _ _
theorem Dz(a:Y1)(p:Int):∀ (b:UF) (f:Int),↑(aE a p f b)<=↑b+↑(aS a b)
 | [],_=>ic _
 | e::r,f=>by
  rw[aE,cu,cR,cR,jH];let c:=Dz a p r (f+↑(aZ a e))
  let c:↑(if f+↑(aZ a e)<=p then [e] else if p<=f then [] else (aZ a e).take (p-f).toNat)<=1+↑(aZ a e):=by
   split
   ·exact Nat.le_add_right _ _
   ·split
    ·exact ic _
    ·exact fX Iv (Nat.le_add_left _ _)
  lia
theorem DA(a:Y1)(p:Int):∀ (b:UF) (f:Int),↑(bE a p f b)<=↑b+↑(aS a b)
 | [],_=>ic _
 | e::r,f=>by
  rw[bE,cu,cR,cR,jH];let c:=DA a p r (f+↑(aZ a e))
  let c:↑(if f+↑(aZ a e)<=p then [] else if p<=f then [e] else (aZ a e).drop (p-f).toNat)<=1+↑(aZ a e):=by
   split
   ·exact ic _
   ·split
    ·exact Nat.le_add_right _ _
    ·exact fX Iw (Nat.le_add_left _ _)
  lia
class inductive Iz(d:Nat)
 | mk (g:Yf) (r n:Addr) (a:cZ) (s p:Int) (c:UF) (e:Y1) (rk:Int->Nat) (_:vs=[↥r,.int s,.int p,↥n]) (_:iA g H r a) (_:↑a<=1000) (_:(∀ b∈a,↑b<=25000)) (_:gM a) (_:mz a e) (_:(∀ x:Int,0<=x->x<↑a->↑(e x)<=10000)) (_:(∀ x y,jF a x y->rk y<rk x)) (_:0<=s) (_:s<↑a) (_:rk s<=d) (_:H n=⇑(.lst (c.map V.int))) (_:↑c<=25000) (_ :
 ∀ (b:UF) (o:Addr) (f:Hp),a[s.toNat]?=⇑b->f o=⇑(.lst ((gh e p b c).map V.int))->↑(gh e p b c)<=100000->aH H f->H o=none->Q ↥o f)
def IA(D:bW){u:Nat}:bq c9 bw bZ cW cU cS (u+3) (eK 87) (eL 87) ["e","d","U","_law_new"] (Iz u):=by
 let R:bq c9 bw bZ cW cU cS (u+2) _ _ ["e","t"] (vS u):=rT D;specialize fP ["e","d","U","_law_new","_law_ahead","_law_behind","_law_first","t","_law_pieces_here","_law_last"] D.OS.F;let⟨av,v,L,M,s,p,w,a,rk,rfl,ab,d8,T,oK,wm,D0,uu,N,h1,hd,hn,nl,ae⟩:=h;obtain⟨b,j⟩:∃ b,M[s.toNat]?=⇑b:=⟨_,nh ∅⟩;let ag:=T b (mL j);let T:=wm s b N j;let ag:=D0 s N h1;rw[T]at ag;let⟨T,x,wO,C7,O,ag⟩:=ab.get j
 let uB:nM T s=⇑↥x:=by
  let z:=dm C7;rw[show ((s.toNat:Nat):Int)=s by lia]at z;exact z
 exists _,#v[bM (aV eE (gf D.T.fJ (pv 3)) ay (bh _)) #v[aK (fY gR rfl D.T.jz tK #[aO bH (pv 0) (pv 1)])] bg,aX 4 (bK ah),aX 5 (bK ah),aX 6 ay,eZ PassesOwn.never rfl (cK (aO bH (pv 0) (pv 1))) (bV 7) #v[aX 8 (aB D.WY R hr #[0,7]),aX 9 (bz dY (pv 6) (gf D.T.fJ (pv 8))),bM (aV gE (pv 9) (pv 2) (bh _)) #v[aW (eX o7 jW jX b9 (pv 4) #[7])] #v[bM (aV gE (pv 2) (pv 6) (bh _)) #v[aW (eX o7 jW jX b9 (pv 5) #[7])] #v[aW (eX o7 PySem.F.slot_list_extend PySem.F.type_list_extend jL (pv 4) #[iW lg (pv 8) mQ (i6 (bz dc (pv 2) (pv 6)))]),aW (eX o7 PySem.F.slot_list_extend PySem.F.type_list_extend jL (pv 5) #[iW lg (pv 8) (i6 (bz dc (pv 2) (pv 6))) mQ])]],aX 6 (pv 9)],aK (bz jf (bz jf (pv 4) (pv 3)) (pv 5))]
 rfl'
 refine⟨Y,L,Y,.inl (bI.of hn),1,Y,dN (λR=>?_) (λR=>?_)⟩
 ·let n:w=[]:=by
   let z:V.int (↑(w.map V.int):Int)=V.int 0:=of_decide_eq_true R;let c:=V.int.inj z;rw[cC]at c;exact List.eq_nil_of_length_eq_zero ∅
  refine⟨Y,Y,v,Q,V,bI.of wO,uB,x,Y,.inl (bI.of O),λo y=>ae b o _ j ?_ ?_ (ak y _) y⟩
  ·rw[af];unfold gh;rw[if_pos n]
  ·unfold gh;rw[if_pos n];lia
 let n:¬ w=[]:=λz=>R (by rw[z];rfl);refine⟨iD,λA S=>⟨iD,λB R=>?_⟩⟩;have sA:aH H (aL H A (.lst [])):=ak S _;have sB:aH _ (aL (aL H A (.lst [])) B (.lst [])):=ak R _;have T:=sA.trans sB;have C:A≠B:=az af R;have MX:=aP sA R;refine⟨Y,Y,v,Q,V,bI.of (T _ _ wO),uB,x,1,⟨_,bI.of (T _ _ O)⟩,ef (K:=bZ) (e:=x) (b:=b.map V.int) (λi F d=>∃ U W X:Option V,F=[⇑↥v,⇑(.int s),⇑(.int p),⇑↥L,⇑↥A,⇑↥B,⇑(.int (0+(↑(aS a (b.take i)):Int))),U,W,X]/\d A=⇑(.lst ((aE a p 0 (b.take i)).map V.int))/\d B=⇑(.lst ((bE a p 0 (b.take i)).map V.int))/\aH H d) ⟨none,none,none,1,sB _ _ af,af,T⟩ (by rintro i F d _ ⟨_,_,_,_,_,_,c⟩;exact bI.of (c _ _ O)) ?_ ?_⟩
 ·rintro i ai F d hi ⟨U,W,X,rfl,q,G,c⟩;rw[gj]at hi;let⟨e,ex,rfl⟩:=Option.map_eq_some_iff.mp hi;let x:=take_snoc ex
  let f:aE a p 0 (b.take (i+1))=aE a p 0 (b.take i)++(if 0+(↑(aS a (b.take i)):Int)+↑(aZ a e)<=p then [e] else if p<=0+(↑(aS a (b.take i)):Int) then [] else (aZ a e).take (p-(0+(↑(aS a (b.take i)):Int))).toNat):=by
   rw[x,vE,aE,aE,gG]
  let g:bE a p 0 (b.take (i+1))=bE a p 0 (b.take i)++(if 0+(↑(aS a (b.take i)):Int)+↑(aZ a e)<=p then [] else if p<=0+(↑(aS a (b.take i)):Int) then [e] else (aZ a e).drop (p-(0+(↑(aS a (b.take i)):Int))).toNat):=by
   rw[x,vF,bE,bE,gG]
  let eF:(0+(↑(aS a (b.take (i+1))):Int))=0+(↑(aS a (b.take i)):Int)+↑(aZ a e):=by
   rw[x,jB,cu,cR,cR];simp[aS]
  let lA:=Dz a p (b.take (i+1)) 0;let lB:=DA a p (b.take (i+1)) 0;let x:=Dz a p (b.take i) 0;let x:=DA a p (b.take i) 0;let x:=ou a b (i+1);let x:=ou a b i;let x:↑(b.take (i+1))<=↑b:=by rw[gO];lia
  let x:↑(b.take i)<=↑b:=by rw[gO];lia
  refine⟨Y,Y,av,v,M,e,a,rk,1,ab.same c,d8,oK,wm,D0,uu,λv=>?_,λo I h3 r y=>?_⟩
  ·let k:jF M s (-1-e):=⟨N,b,j,cH.mpr ⟨by lia,by rw[show -1-(-1-e)=e by lia];exact mL ex⟩⟩;have:=uu _ _ k;exact⟨(oK.DY k).2,by lia⟩
  let k:=r _ _ q;let J:=r _ _ G;exists Y,Y,o,Y,.inl (bI.of h3),Z;rw[cC];refine⟨Y,Y,Z,Y,dN (λl=>?_) (λl=>?_)⟩
  ·let U8:0+(↑(aS a (b.take i)):Int)+(↑(aZ a e):Int)<=p:=of_decide_eq_true l;rw[if_pos U8]at f g;refine⟨Y,.inl ⟨1,_,bI.of k⟩,Y,A,Z,k,aN (by rw[cC];lia),?_⟩;refine⟨Y,⇑(.int e),⇑↥o,⇑(.int (0+(↑(aS a (b.take i)):Int)+(↑(aZ a e):Int))),?_,?_,?_,bN S (c.trans r) (aG A _ _)⟩
   ·rw[eF];rfl
   ·rw[af,f,gI];rfl
   ·rw[aJ C.symm,g,gG];exact J
  ·let U8:¬ 0+(↑(aS a (b.take i)):Int)+(↑(aZ a e):Int)<=p:=λz=>l (decide_eq_true z);rw[if_neg U8]at f g;refine⟨Y,Y,Z,Y,dN (λt=>?_) (λt=>?_)⟩
   ·let Mf:p<=0+(↑(aS a (b.take i)):Int):=of_decide_eq_true t;rw[if_pos Mf]at f g;refine⟨Y,.inl ⟨1,_,bI.of J⟩,Y,B,Z,J,aN (by rw[cC];lia),?_⟩;refine⟨Y,⇑(.int e),⇑↥o,⇑(.int (0+(↑(aS a (b.take i)):Int)+(↑(aZ a e):Int))),?_,?_,?_,bN MX (c.trans r) (aG B _ _)⟩
    ·rw[eF];rfl
    ·rw[aJ C,f,gG];exact k
    ·rw[af,g,gI];rfl
   ·let Mf:¬ p<=0+(↑(aS a (b.take i)):Int):=λz=>t (decide_eq_true z);rw[if_neg Mf]at f g;rw[f,cR]at lA;rw[g,cR]at lB;refine⟨Y,.inl ⟨1,_,bI.of k⟩,Y,Y,Y,Z,Y,o,Y,bI.of h3,λv x=>?_⟩;have m:aH I (aL I v (.lst (j0 ((aZ a e).map V.int) none (⇑(p-(0+(↑(aS a (b.take i)):Int))))))):=ak x _;have e1:j0 ((aZ a e).map V.int) none (⇑(p-(0+(↑(aS a (b.take i)):Int))))=((aZ a e).take (p-(0+(↑(aS a (b.take i)):Int))).toNat).map V.int:=by rw[sW _ ∅,List.map_take]
    refine⟨A,v,Z,m _ _ k,af,eO (aN (by rw[e1,cC,cC];lia)),?_⟩;let k4:cB A I (aL (aL I v (.lst (j0 ((aZ a e).map V.int) none (⇑(p-(0+(↑(aS a (b.take i)):Int))))))) A (.lst ((aE a p 0 (b.take i)).map V.int++j0 ((aZ a e).map V.int) none (⇑(p-(0+(↑(aS a (b.take i)):Int))))))):=cB.trans (aH.keep m) (aG A _ _);let z:o≠A:=(az q y).symm;let y:v≠A:=(az k x).symm;let k:=k4 _ _ J C.symm;refine⟨Y,.inl ⟨1,_,bI.of k⟩,Y,Y,Y,Z,Y,o,Y,bI.of (k4 _ _ h3 z),λv gp=>?_⟩;let e2:j0 ((aZ a e).map V.int) (⇑(p-(0+(↑(aS a (b.take i)):Int)))) none=((aZ a e).drop (p-(0+(↑(aS a (b.take i)):Int))).toNat).map V.int:=by rw[vJ _ ∅,List.map_drop]
    refine⟨B,v,Z,ak gp _ _ _ k,af,eO (aN (by rw[e2,cC,cC];lia)),?_⟩;exists Y,⇑(.int e),⇑↥o,⇑(.int (0+(↑(aS a (b.take i)):Int)+(↑(aZ a e):Int))),?_,?_,?_
    ·rw[eF];rfl
    ·rw[aJ C,ak gp _ _ _ af,f,gI,e1]
    ·rw[af,g,gI,e2]
    ·exact bN MX ((bN S (c.trans r) k4).trans (ak gp _)) (aG B _ _)
 ·rintro F d ⟨U,W,X,rfl,q,G,c⟩;rw[cC,gP]at q G;let lA:=Dz a p b 0;let lB:=DA a p b 0;refine⟨Y,Y,A,L,Z,q,c _ _ hn,eO (aN (by rw[cC,cC];lia)),λl e=>?_⟩;let m:aH d (aL d l (.lst ((aE a p 0 b).map V.int++w.map V.int))):=ak e _;refine⟨Y,l,B,Z,af,m _ _ G,eO (aN (by rw[cR,cC,cC,cC];lia)),λt a=>?_⟩;refine ae b t _ j ?_ ?_ (c.trans (m.trans (ak a _))) (aP (c.trans m) a)
  ·rw[af];unfold gh;rw[if_neg n,gI,gI]
  ·unfold gh;rw[if_neg n,cR,cR];lia
def QK(c:Y1)(a b f e:Int):UF:=if a=b then [e] else Mi c a b f e
def QL(c:Y1)(a b f e:Int):UF:=if a=b then [] else O6 c a b f e
def F4(a:Y1)(b c:Int)(d:UF)(e:Int):bT a b c (d++[e])=bT a b c d++QK a b c (0+(↑(aS a d):Int)) e:=by
 unfold bT QK;split
 ·rfl
 ·rw[vG,kE,kE,gG]
def F5(a:Y1)(b c:Int)(d:UF)(e:Int):iH a b c (d++[e])=iH a b c d++QL a b c (0+(↑(aS a d):Int)) e:=by
 unfold iH QL;split
 ·rfl
 ·rw[vH,tE,tE,gG]
def Ku(a:Y1)(b c f e:Int):↑(Mi a b c f e)<=1+2*↑(aZ a e):=by
 unfold Mi;split
 ·exact Nat.le_add_right _ _
 ·split
  ·exact ic _
  ·rw[cR,Nat.two_mul];exact fX (Nat.add_le_add Iv Iw) (Nat.le_add_left _ _)
def Kv(a:Y1)(b c f e:Int):↑(O6 a b c f e)<=1+2*↑(aZ a e):=by
 unfold O6;split
 ·exact ic _
 ·split
  ·exact Nat.le_add_right _ _
  ·exact fX (fX Iw Iv) (fX (Nat.le_mul_of_pos_left _ Nat.two_pos) (Nat.le_add_left _ _))
def Tv(a:Y1)(b c f e:Int):↑(QK a b c f e)<=1+2*↑(aZ a e):=by
 unfold QK;split
 ·exact Nat.le_add_right _ _
 ·exact Ku a b c f e
def Tw(a:Y1)(b c f e:Int):↑(QL a b c f e)<=1+2*↑(aZ a e):=by
 unfold QL;split
 ·exact ic _
 ·exact Kv a b c f e
theorem P0(a:Y1)(b c:Int):∀ (d:UF) (f:Int),↑(kE a b c f d)<=↑d+2*↑(aS a d)
 | [],_=>ic _
 | e::r,f=>by
  rw[kE,cu,cR,cR,jH];let x:=P0 a b c r (f+↑(aZ a e));let y:=Ku a b c f e;lia
theorem P1(a:Y1)(b c:Int):∀ (d:UF) (f:Int),↑(tE a b c f d)<=↑d+2*↑(aS a d)
 | [],_=>ic _
 | e::r,f=>by
  rw[tE,cu,cR,cR,jH];let x:=P1 a b c r (f+↑(aZ a e));let y:=Kv a b c f e;lia
def sY(b:Y1)(c d:Int)(a:UF):↑(bT b c d a)<=↑a+2*↑(aS b a):=by
 unfold bT;split
 ·lia
 ·exact P0 b c d a 0
def zS(b:Y1)(c d:Int)(a:UF):↑(iH b c d a)<=↑a+2*↑(aS b a):=by
 unfold iH;split
 ·simp
 ·exact P1 b c d a 0
class inductive P4(d:Nat)
 | mk (h:Yf) (r:Addr) (c:cZ) (s a b:Int) (g:Y1) (rk:Int->Nat) (_:vs=[↥r,.int s,.int a,.int b]) (_:iA h H r c) (_:↑c<=1000) (_:(∀ e∈c,↑e<=1000)) (_:gM c) (_:mz c g) (_:(∀ x:Int,0<=x->x<↑c->↑(g x)<=10000)) (_:(∀ x y,jF c x y->rk y<rk x)) (_:0<=s) (_:s<↑c) (_:rk s<=d) (_:a<=b) (_ :
 ∀ (e:UF) (t L M:Addr) (f:Hp),c[s.toNat]?=⇑e->f t=⇑(.tup [↥L,↥M])->f L=⇑(.lst ((bT g a b e).map V.int))->f M=⇑(.lst ((iH g a b e).map V.int))->aH H f->H L=none->H M=none->L≠M->Q ↥t f)
def IB(D:bW){J:Nat}:bq c9 bw bZ cW cU cS (J+3) (eK 88) (eL 88) ["e","d","u","Q"] (P4 J):=by
 let oz:bq c9 bw bZ cW cU cS (J+2) _ _ ["e","t"] (vS J):=rT D;specialize fP ["e","d","u","Q","_law_kept","_law_taken","_law_first","t","_law_pieces_here","_law_last","_law_low","_law_high"] D.WZ.F;let⟨av,r,ab,s,p,q,a,rk,rfl,ao,d8,ax,oK,wm,D0,uu,h0,h1,hd,aM,aA⟩:=h;obtain⟨c,m⟩:∃ c,ab[s.toNat]?=⇑c:=⟨_,nh ∅⟩;let aM:=ax c (mL m);let ax:=wm s c h0 m;let aM:=D0 s h0 h1;rw[ax]at aM;let⟨xr,ae,wO,C7,ap,ax⟩:=ao.get m
 let uB:nM xr s=⇑↥ae:=by
  let z:=dm C7;rw[show ((s.toNat:Nat):Int)=s by lia]at z;exact z
 exists _,#v[aX 4 (bK ah),aX 5 (bK ah),aX 6 ay,eZ PassesOwn.never rfl (cK (aO bH (pv 0) (pv 1))) (bV 7) #v[aX 8 (aB D.WY oz hr #[0,7]),aX 9 (bz dY (pv 6) (gf D.T.fJ (pv 8))),aX 10 (b8 (lI rfl) rfl D.T.zl PyProof.Rows.boot_max #[ay,bz dc (pv 2) (pv 6)]),aX 11 (bz dc (b8 (nu rfl) rfl D.T.E6 PyProof.Rows.boot_min #[9,3]) (pv 6)),bM (PW.pt (Ec (aV eE (pv 2) (pv 3) (bh _)) (Ec (aV gE (pv 9) (pv 2) (bh _)) (Cs (aV gE (pv 3) (pv 6) (bh _)))))) #v[aW (eX o7 jW jX b9 (pv 4) #[7])] #v[bM (PW.pt (pF (aV gE (pv 2) (pv 6) (bh _)) (mO (aV gE (pv 9) (pv 3) (bh _))))) #v[aW (eX o7 jW jX b9 (pv 5) #[7])] #v[aW (eX o7 PySem.F.slot_list_extend PySem.F.type_list_extend jL (pv 4) #[bz jf (iW lg (pv 8) mQ (i6 (pv 10))) (iW lg (pv 8) (i6 (pv 11)) mQ)]),aW (eX o7 PySem.F.slot_list_extend PySem.F.type_list_extend jL (pv 5) #[iW lg (pv 8) (i6 (pv 10)) (i6 (pv 11))])]],aX 6 (pv 9)],aK (cT #[4,5])]
 rfl'
 refine⟨iD,λA L=>⟨iD,λB hB=>?_⟩⟩;let sA:aH H (aL H A (.lst [])):=ak L _;let sB:aH _ (aL (aL H A (.lst [])) B (.lst [])):=ak hB _;let s1:=sA.trans sB;let n:A≠B:=az af hB;let MX:=aP sA hB
 let z0:bT a p q []=[]/\iH a p q []=[]:=by
  unfold bT iH
  constructor <;> split <;> rfl
 refine⟨Y,Y,r,Q,V,bI.of (s1 _ _ wO),uB,ae,1,⟨_,bI.of (s1 _ _ ap)⟩,ef (K:=bZ) (e:=ae) (b:=c.map V.int) (λi M k=>∃ t u v w x:Option V,M=[⇑↥r,⇑(.int s),⇑(.int p),⇑(.int q),⇑↥A,⇑↥B,⇑(.int (0+(↑(aS a (c.take i)):Int))),t,u,v,w,x]/\k A=⇑(.lst ((bT a p q (c.take i)).map V.int))/\k B=⇑(.lst ((iH a p q (c.take i)).map V.int))/\aH H k) ⟨none,none,none,none,none,1,(by rw[List.take_zero,z0.1];exact sB _ _ af),(by rw[List.take_zero,z0.2];exact af),s1⟩ (by rintro i M k _ ⟨_,_,_,_,_,_,_,_,j⟩;exact bI.of (j _ _ ap)) ?_ ?_⟩
 ·rintro i a1 M k hi ⟨t,u,v,w,x,rfl,y,N,j⟩;rw[gj]at hi;let⟨e,ex,rfl⟩:=Option.map_eq_some_iff.mp hi;let st:=take_snoc ex;let O:=F4 a p q (c.take i) e;let R:=F5 a p q (c.take i) e;rw[← st]at O R
  let eF:(0+(↑(aS a (c.take (i+1))):Int))=0+(↑(aS a (c.take i)):Int)+↑(aZ a e):=by
   rw[st,jB,cu,cR,cR];simp[aS]
  let ae:=sY a p q (c.take i);let ae:=zS a p q (c.take i);let l1:=ou a c (i+1);let l0:=ou a c i
  let le:↑(aZ a e)<=↑(aS a (c.take (i+1))):=by
   rw[st,jB,cu,cR,cR];lia
  let aU:=Tv a p q (0+(↑(aS a (c.take i)):Int)) e;let a0:=Tw a p q (0+(↑(aS a (c.take i)):Int)) e;let t0:↑(c.take i)<=↑c:=by rw[gO];lia
  generalize hf:0+(↑(aS a (c.take i)):Int)=b at *;refine⟨Y,Y,av,r,ab,e,a,rk,1,ao.same j,d8,oK,wm,D0,uu,λae=>?_,λo f S C ho=>?_⟩
  ·let d:jF ab s (-1-e):=⟨h0,c,m,cH.mpr ⟨by lia,by rw[show -1-(-1-e)=e by lia];exact mL ex⟩⟩;have:=uu _ _ d;exact⟨(oK.DY d).2,by lia⟩
  let g:=C _ _ y;let T:=C _ _ N;exists Y,Y,o,Y,.inl (bI.of S),Z;rw[cC];exists Y,Y,Z,E,1;exists Y,Y,E,1,Y,Z
  let ag:(if p-b > 0 then p-b else 0).toNat=(p-b).toNat/\0<=(if p-b > 0 then p-b else 0):=by
   split <;> lia
  let zz:(p=q\/(b+(↑(aZ a e):Int))<=p\/q<=b)->(aL f A (.lst ((bT a p q (c.take i)).map V.int++[.int e]))) A=⇑(.lst ((bT a p q (c.take (i+1))).map V.int))/\(aL f A (.lst ((bT a p q (c.take i)).map V.int++[.int e]))) B=⇑(.lst ((iH a p q (c.take (i+1))).map V.int)):=λd=>by
   let l:QK a p q b e=[e]:=by
    unfold QK Mi;rcases d with d|d
    ·rw[if_pos d]
    ·rw[if_pos d];split <;> rfl
   let F:QL a p q b e=[]:=by
    unfold QL O6;rcases d with d|d
    ·rw[if_pos d]
    ·rw[if_pos d];split <;> rfl
   rw[af,aJ n.symm,O,R,l,F,gG,gI];exact⟨1,T⟩
  let ai:∀ ab:Option V,[⇑(V.ref r),⇑(.int s),⇑(.int p),⇑(.int q),⇑↥A,⇑↥B,⇑(.int (b+(↑(aZ a e):Int))),⇑(.int e),⇑↥o,⇑(.int (b+(↑(aZ a e):Int))),⇑(.int (if p-b > 0 then p-b else 0)),ab]=[⇑↥r,⇑(.int s),⇑(.int p),⇑(.int q),⇑↥A,⇑↥B,⇑(.int (0+(↑(aS a (c.take (i+1))):Int))),⇑(.int e),⇑↥o,⇑(.int (b+(↑(aZ a e):Int))),⇑(.int (if p-b > 0 then p-b else 0)),ab]:=λab=>by rw[eF]
  let am:∀ d:(p=q\/(b+(↑(aZ a e):Int))<=p\/q<=b),∃ t u v w x:Option V,[⇑(V.ref r),⇑(.int s),⇑(.int p),⇑(.int q),⇑↥A,⇑↥B,⇑(.int (b+(↑(aZ a e):Int))),⇑(.int e),⇑↥o,⇑(.int (b+(↑(aZ a e):Int))),⇑(.int (if p-b > 0 then p-b else 0)),⇑(.int ((if q<(b+(↑(aZ a e):Int)) then q else (b+(↑(aZ a e):Int)))-b))]=[⇑↥r,⇑(.int s),⇑(.int p),⇑(.int q),⇑↥A,⇑↥B,⇑(.int (0+(↑(aS a (c.take (i+1))):Int))),t,u,v,w,x]/\(aL f A (.lst ((bT a p q (c.take i)).map V.int++[.int e]))) A=⇑(.lst ((bT a p q (c.take (i+1))).map V.int))/\(aL f A (.lst ((bT a p q (c.take i)).map V.int++[.int e]))) B=⇑(.lst ((iH a p q (c.take (i+1))).map V.int))/\aH H (aL f A (.lst ((bT a p q (c.take i)).map V.int++[.int e]))):=λd =>
   ⟨Q,E,ai _,(zz d).1,(zz d).2,bN L (j.trans C) (aG A _ _)⟩
  let mA:↑((bT a p q (c.take i)).map V.int)<sizeLine:=aN (by rw[cC];lia);refine⟨Y,Y,1,Y,dN (λd=>iX ?_) (λd=>?_)⟩
  ·exact⟨Y,.inl ⟨1,_,bI.of g⟩,Y,A,Z,g,mA,Y,am (.inl (V.int.inj (of_decide_eq_true d)))⟩
  let U:¬ p=q:=λz=>d (by rw[z];exact decide_eq_true rfl);refine⟨Y,Y,Z,Y,dN (λd=>iX ?_) (λd=>?_)⟩
  ·exact⟨Y,.inl ⟨1,_,bI.of g⟩,Y,A,Z,g,mA,Y,am (.inr (.inl (of_decide_eq_true d)))⟩
  let r:¬ (b+(↑(aZ a e):Int))<=p:=λz=>d (decide_eq_true z);refine⟨Y,Y,Z,Y,dN (λd=>?_) (λd=>?_)⟩
  ·exact⟨Y,.inl ⟨1,_,bI.of g⟩,Y,A,Z,g,mA,Y,am (.inr (.inr (of_decide_eq_true d)))⟩
  let ab:¬ q<=b:=λz=>d (decide_eq_true z);have W:¬ ((b+(↑(aZ a e):Int))<=p\/q<=b):=λz=>z.elim r ab
  let hh:((if q<(b+(↑(aZ a e):Int)) then q else (b+(↑(aZ a e):Int)))-b).toNat=min ↑(aZ a e) (q-b).toNat/\0<=(if q<(b+(↑(aZ a e):Int)) then q else (b+(↑(aZ a e):Int)))-b:=by
   split
   ·exact⟨(Nat.min_eq_right ∅).symm,by lia⟩
   ·exact⟨by rw[Nat.min_eq_left ∅];lia,by lia⟩
  let d:p<q:=by lia
  let tL:¬ (p<=b/\(b+(↑(aZ a e):Int))<=q)->QK a p q b e=(aZ a e).take (if p-b > 0 then p-b else 0).toNat++(aZ a e).drop ((if q<(b+(↑(aZ a e):Int)) then q else (b+(↑(aZ a e):Int)))-b).toNat/\QL a p q b e=((aZ a e).take ((if q<(b+(↑(aZ a e):Int)) then q else (b+(↑(aZ a e):Int)))-b).toNat).drop (if p-b > 0 then p-b else 0).toNat:=λd=>by
   unfold QK QL Mi O6;rw[if_neg U,if_neg U,if_neg W,if_neg W,if_neg d,if_neg d,ag.1,hh.1];rcases Nat.le_total (q-b).toNat ↑(aZ a e) with z|z
   ·rw[Nat.min_eq_right z];exact⟨V⟩
   ·rw[Nat.min_eq_left z,wX z,wX (d7 _),pC z,pC (d7 _)];exact⟨V⟩
  refine⟨Y,Y,Z,Y,HJ (λz=>⟨Y,Y,Z,Y,z⟩) (λX=>?_) (λX=>?_)⟩
  ·let l:QK a p q b e=[]:=by unfold QK Mi;rw[if_neg U,if_neg W,if_pos X]
   let F:QL a p q b e=[e]:=by unfold QL O6;rw[if_neg U,if_neg W,if_pos X]
   refine⟨Y,.inl ⟨1,_,bI.of T⟩,Y,B,Z,T,aN (by rw[cC];lia),Y,Q,E,ai _,?_,?_,bN MX (j.trans C) (aG B _ _)⟩
   ·rw[aJ n,O,l,gG];exact g
   ·rw[af,R,F,gI];rfl
  ·let⟨r1,r2⟩:=tL X;rw[r1,cR]at aU;rw[r2]at a0;refine⟨Y,.inl ⟨1,_,bI.of g⟩,Y,Y,Y,o,Y,bI.of S,λl r=>?_⟩;rw[sW _ ag.2,← List.map_take];let d:aH f (aL f l (.lst (((aZ a e).take (if p-b > 0 then p-b else 0).toNat).map V.int))):=ak r _;refine⟨Y,Y,Y,o,Y,bI.of (d _ _ S),λF z=>?_⟩;rw[vJ _ hh.2,← List.map_drop];let r:aH _ (aL (aL f l (.lst (((aZ a e).take (if p-b > 0 then p-b else 0).toNat).map V.int))) F (.lst (((aZ a e).drop ((if q<(b+(↑(aZ a e):Int)) then q else (b+(↑(aZ a e):Int)))-b).toNat).map V.int))):=ak z _;refine⟨l,F,Z,r _ _ af,af,(by rw[cC,cC];exact eO (aN ∅)),λG z=>?_⟩;let U:aH _ (aL (aL (aL f l (.lst (((aZ a e).take (if p-b > 0 then p-b else 0).toNat).map V.int))) F (.lst (((aZ a e).drop ((if q<(b+(↑(aZ a e):Int)) then q else (b+(↑(aZ a e):Int)))-b).toNat).map V.int))) G (.lst (((aZ a e).take (if p-b > 0 then p-b else 0).toNat).map V.int++((aZ a e).drop ((if q<(b+(↑(aZ a e):Int)) then q else (b+(↑(aZ a e):Int)))-b).toNat).map V.int))):=ak z _;let I:=d.trans (r.trans U);let aq:(aL (aL (aL f l (.lst (((aZ a e).take (if p-b > 0 then p-b else 0).toNat).map V.int))) F (.lst (((aZ a e).drop ((if q<(b+(↑(aZ a e):Int)) then q else (b+(↑(aZ a e):Int)))-b).toNat).map V.int))) G (.lst (((aZ a e).take (if p-b > 0 then p-b else 0).toNat).map V.int++((aZ a e).drop ((if q<(b+(↑(aZ a e):Int)) then q else (b+(↑(aZ a e):Int)))-b).toNat).map V.int))) G=⇑(.lst (((aZ a e).take (if p-b > 0 then p-b else 0).toNat).map V.int++((aZ a e).drop ((if q<(b+(↑(aZ a e):Int)) then q else (b+(↑(aZ a e):Int)))-b).toNat).map V.int)):=af;generalize aL (aL (aL f l (.lst (((aZ a e).take (if p-b > 0 then p-b else 0).toNat).map V.int))) F (.lst (((aZ a e).drop ((if q<(b+(↑(aZ a e):Int)) then q else (b+(↑(aZ a e):Int)))-b).toNat).map V.int))) G (.lst (((aZ a e).take (if p-b > 0 then p-b else 0).toNat).map V.int++((aZ a e).drop ((if q<(b+(↑(aZ a e):Int)) then q else (b+(↑(aZ a e):Int)))-b).toNat).map V.int))=H6 at I aq;refine⟨A,G,Z,I _ _ g,aq,(by rw[cR,cC,cC,cC];exact eO (aN ∅)),?_⟩;let k7:cB A H6 (aL H6 A (.lst ((bT a p q (c.take i)).map V.int++(((aZ a e).take (if p-b > 0 then p-b else 0).toNat).map V.int++((aZ a e).drop ((if q<(b+(↑(aZ a e):Int)) then q else (b+(↑(aZ a e):Int)))-b).toNat).map V.int)))):=aG A _ _;let ar:(aL H6 A (.lst ((bT a p q (c.take i)).map V.int++(((aZ a e).take (if p-b > 0 then p-b else 0).toNat).map V.int++((aZ a e).drop ((if q<(b+(↑(aZ a e):Int)) then q else (b+(↑(aZ a e):Int)))-b).toNat).map V.int)))) A=⇑(.lst ((bT a p q (c.take (i+1))).map V.int)):=by rw[af,O,r1,gI,gI]
   let d:o≠A:=(az y ho).symm;let as:=k7 _ _ (I _ _ S) d;let an:=k7 _ _ (I _ _ T) n.symm;let aw:=bN L (j.trans (C.trans I)) k7;generalize aL H6 A (.lst ((bT a p q (c.take i)).map V.int++(((aZ a e).take (if p-b > 0 then p-b else 0).toNat).map V.int++((aZ a e).drop ((if q<(b+(↑(aZ a e):Int)) then q else (b+(↑(aZ a e):Int)))-b).toNat).map V.int)))=a at k7 ar as an aw;refine⟨Y,.inl ⟨1,_,bI.of an⟩,Y,Y,Y,Y,Y,o,Y,bI.of as,λb a=>?_⟩;rw[FJ _ ag.2 hh.2,← List.map_take,← List.map_drop];refine⟨B,b,Z,ak a _ _ _ an,af,(by rw[cC,cC];exact eO (aN ∅)),?_⟩;refine⟨Y,Q,E,ai _,?_,?_,bN MX (aw.trans (ak a _)) (aG B _ _)⟩
   ·rw[aJ n];exact ak a _ _ _ ar
   ·rw[af,R,r2,gI]
 ·rintro M k ⟨t,u,v,w,x,rfl,y,N,j⟩;rw[cC,gP]at y N;refine⟨Y,Y,mJ,λt a=>aA c t A B _ m af (ak a _ _ _ y) (ak a _ _ _ N) (j.trans (ak a _)) L MX n⟩
class inductive qR(d:Nat)
 | mk (b:Yf) (r:Addr) (a:cZ) (x:Int) (f:Int->Int) (rk:Int->Nat) (_:vs=[↥r,.int x]) (_:iA b H r a) (_:↑a<=1000) (_:gM a) (_:0<=x) (_:x<↑a) (_:Weighs a f) (_:(∀ x y,jF a x y->rk y<rk x)) (_:rk x<d) (_:Q (.int (f x)) H)
def vU(D:bW){n:Nat}(v:bq c9 bw bZ cW cU cS (n+1) (eK 89) (eL 89) ["e","d"] (qR n)):bq c9 bw bZ cW cU cS (n+2) (eK 89) (eL 89) ["e","d"] (qR (n+1)):=by
 specialize fP ["e","d","_law_total","t"] D.W0.F;let⟨w,r,d,x,f,rk,rfl,R,y,l,m,t,o,p,F,B⟩:=h;obtain⟨a,g⟩:∃ a,d[x.toNat]?=⇑a:=⟨_,nh ∅⟩;let⟨t,j,C,F,k,I⟩:=R.get g
 let G:nM t x=⇑↥j:=by
  let z:=dm F;rw[show ((x.toNat:Nat):Int)=x by lia]at z;exact z
 exists _,#v[aX 2 ay,eZ PassesOwn.never rfl (cK (aO bH (pv 0) (pv 1))) (bV 3) #v[aX 2 (bz dY (pv 2) ay),bM (aV kM (pv 3) ay (bh _)) #v[aX 2 (bz dY (pv 2) (aB D.W0 v hr #[0,bz dc (iS gm ay) (pv 3)]))] bg],aK (pv 2)]
 rfl'
 refine⟨Y,Y,r,Q,V,bI.of C,G,j,1,⟨_,bI.of k⟩,ef (K:=bZ) (e:=j) (b:=a.map V.int) (λi b c=>∃ u:Option V,b=[⇑↥r,⇑(.int x),⇑(.int (ko f (a.take i))),u]/\c=H) ⟨none,V⟩ (λi b c _ ⟨E,e⟩=>by rw[e];exact bI.of k) ?_ ?_⟩
 ·rintro i e b c q ⟨u,rfl,rfl⟩;rw[gj]at q;let⟨e,s,rfl⟩:=Option.map_eq_some_iff.mp q
  let q:ko f (a.take (i+1))=ko f (a.take i)+(if e<0 then 1+f (-1-e) else 1):=by
   rw[take_snoc s];unfold ko;rw[gI,List.sum_append];simp
  exists Y,Z;refine⟨Y,Z,Y,dN (λj=>?_) (λj=>?_)⟩
  ·let k:e<0:=of_decide_eq_true j;let t:jF d x (-1-e):=⟨m,a,g,cH.mpr ⟨by lia,by rw[show -1-(-1-e)=e by lia];exact mL s⟩⟩;let⟨s,z⟩:=l.DY t;let C:=p _ _ t;exists Y,Y,Y,Y,Z,w,r,d,-1-e,f,rk,1,R,y,l,s,z,o,p,by lia,Z;refine⟨⇑(.int e),?_,1⟩;rw[q,if_pos k];show [⇑(V.ref r),⇑(V.int x),⇑(V.int (ko f (a.take i)+1+f (-1-e))),⇑(V.int e)]=_;rw[show ko f (a.take i)+1+f (-1-e)=ko f (a.take i)+(1+f (-1-e)) by lia]
  ·let k:¬ e<0:=λz=>j (decide_eq_true z);refine⟨⇑(.int e),?_,1⟩;rw[q,if_neg k];rfl
 ·rintro b c ⟨u,rfl,rfl⟩;rw[cC,gP,← o x a m g];exact⟨Y,B⟩
theorem qx(D:bW):∀ n:Nat,bq c9 bw bZ cW cU cS (n+1) (eK 89) (eL 89) ["e","d"] (qR n)
 | 0=>by
  let b:∀ a H Q E,¬ qR 0 a H Q E:=λa H Q E h=>by
   let⟨_,_,_,_,_,_,_,_,_,_,_,_,_,_,h,_⟩:=h;exact Nat.not_lt_zero _ h
  exact⟨λa H Q E h=>absurd h (b a H Q E),λA c s H args d a Q E _ _ _ _ h=>absurd h (b a H Q E)⟩
 | n+1=>vU D (qx D n)
def Reach.trans{E:Int->Int->Prop}{a b c:Int}(h:Reach E a b)(g:Reach E b c):Reach E a c:=by
 induction g with
 | one e=>exact .step h e
 | step _ e d=>exact .step d e
theorem F6{p q:Nat->Bool}(h:∀ i,p i=true->q i=true):∀ n,cnt n p<=cnt n q
 | 0=>d7 _
 | n+1=>by
  rw[uf,uf];let a:=F6 h n;by_cases c:p n=true
  ·rw[if_pos c,if_pos (h n c)];lia
  ·rw[if_neg c];lia
open Classical in
def XJ{a:cZ}(c:gM a)(l:↑a<=40)(h:∀ x,¬ Reach (jF a) x x):CM a:=by
 refine⟨λx=>cnt ↑a λi=>decide (Reach (jF a) x (i:Int)),λx=>fX (y9 _ _) l,λx y n=>?_⟩;let⟨b,d⟩:=c.DY n;let b:((y.toNat:Nat):Int)=y:=by lia
 let d:=F6 (p:=λi=>decide (Reach (jF a) y (i:Int))) (q:=λi=>decide (Reach (jF a) x (i:Int))&&decide (i≠y.toNat)) (λi d=>by
  let r:=of_decide_eq_true d;rw[Bool.and_eq_true];refine⟨decide_eq_true ((Reach.one n).trans r),decide_eq_true λz=>?_⟩;rw[z,b]at r
  exact h _ r) ↑a
 let d:=ug y.toNat ↑a (p:=λi=>decide (Reach (jF a) x (i:Int))) (q:=λi=>decide (Reach (jF a) x (i:Int))&&decide (i≠y.toNat)) ∅ (decide_eq_true (by rw[b];exact .one n)) (λ_=>rfl);show cnt _ _<cnt _ _;lia
def Kw{a:cZ}{s:Nat}{b:UF}{x y:Int}(h:jF (a.set s b) x y)(c:x.toNat≠s):jF a x y:=by
 let⟨d,f,e,g⟩:=h;rw[List.getElem?_set_ne (λz=>c z.symm)]at e;exact⟨d,f,e,g⟩
def P5{a:cZ}{s:Int}{c:UF}(j:0<=s)(g:CM a)(n:¬ Reach (jF (a.set s.toNat c)) s s):∀ x,¬ Reach (jF (a.set s.toNat c)) x x:=by
 let h:∀ {b d:Int},Reach (jF (a.set s.toNat c)) b d->Reach (jF a) b d\/((b=s\/Reach (jF (a.set s.toNat c)) b s)/\Reach (jF (a.set s.toNat c)) s d):=by
  intro b d r
  induction r with
  | one e =>
   by_cases f:b.toNat=s.toNat
   ·let q:b=s:=by have:=e.1;lia
    rw[q]at e;exact .inr ⟨.inl q,.one e⟩
   ·exact .inl (.one (Kw e f))
  | @step y z r e i =>
   by_cases f:y.toNat=s.toNat
   ·let q:y=s:=by have:=e.1;lia
    rw[q]at r e;exact .inr ⟨.inr r,.one e⟩
   ·rcases i with i|i
    ·exact .inl (.step i (Kw e f))
    ·exact .inr ⟨i.1,.step i.2 e⟩
 intro x r;rcases h r with z|⟨z|z,y⟩
 ·exact g.kt z
 ·rw[z]at y;exact n y
 ·exact n (y.trans z)
def MD(f:Int->Int)(e:Int)(r:UF):ko f (e::r)=(if e<0 then 1+f (-1-e) else 1)+ko f r:=by unfold ko;rw[jo,List.sum_cons]
theorem Kx{b:Y1}{f:Int->Int}:∀ {a:UF},(∀ y∈eU a,(↑(b y):Int)<=f y)->(↑a:Int)<=ko f a/\(↑(aS b a):Int)<=ko f a
 | [],_=>by simp[ko,aS]
 | e::r,h=>by
  let c:=Kx (a:=r) λy c=>h y (cH.mpr ⟨(cH.mp c).1,jT _ (cH.mp c).2⟩);rw[MD,cu,cR,jH];unfold aZ;by_cases c:e<0
  ·let z:=h (-1-e) (cH.mpr ⟨by lia,by rw[show -1-(-1-e)=e by lia];simp⟩);rw[if_pos c,if_pos c];omega
  ·rw[if_neg c,if_neg c,gW];lia
def F7{b:cZ}{c:Y1}{f:Int->Int}(g:gM b)(h:CM b)(i:mz b c)(j:Weighs b f):∀ x:Int,0<=x->∀ a,b[x.toNat]?=⇑a->(↑a:Int)<=f x/\(↑(c x):Int)<=f x:=by
 let⟨rk,_,l⟩:=h
 let m:∀ (k:Nat) (x:Int),rk x<k->0<=x->∀ a,b[x.toNat]?=⇑a->(↑a:Int)<=f x/\(↑(c x):Int)<=f x:=by
  intro k
  induction k with
  | zero=>intro x d;lia
  | succ k k =>
   intro x n d a e;rw[j x a d e,i x a d e];refine Kx λy o=>?_;have n:jF b x y:=⟨d,a,e,o⟩;let⟨d,e⟩:=g.DY n;have:=l _ _ n;exact (k y ∅ d _ (nh ∅)).2
 exact λx=>m (rk x+1) x (Nat.lt_succ_self _)
def P6{a:cZ}{c:Y1}{N:Int->Prop}(j:gM a)(l:CM a)(m:mz a c)(n:∀ o∈a,∀ e∈o,0<=e->N e):∀ x:Int,0<=x->x<↑a->∀ y∈c x,N y:=by
 let⟨rk,b,p⟩:=l
 let q:∀ (k:Nat) (x:Int),rk x<k->0<=x->x<↑a->∀ y∈c x,N y:=by
  intro k
  induction k with
  | zero=>intro x h;lia
  | succ k k =>
   intro x d f g y b;let d:a[x.toNat]?=⇑a[x.toNat]:=nh ∅;rw[m x _ f d]at b;unfold aS at b;let⟨e,g,b⟩:=List.mem_flatMap.mp b;unfold aZ at b;by_cases h:e<0
   ·rw[if_pos h]at b;let i:jF a x (-1-e):=⟨f,_,d,cH.mpr ⟨by lia,by rw[show -1-(-1-e)=e by lia];exact g⟩⟩;let⟨f,r⟩:=j.DY i;have:=p _ _ i;exact k _ ∅ f r y b
   ·rw[if_neg h]at b;rw[List.mem_singleton.mp b];exact n _ (mL d) e g ∅
 exact λx=>q (rk x+1) x (Nat.lt_succ_self _)
def rV(n m:Nat)(e:Int):Prop:=(0<=e/\e<(n:Nat))\/(e<0/\-1-e<(m:Nat))
structure Good(n:Nat)(rows:cZ):Prop where
 en:∀ es∈rows,∀ e∈es,rV n ↑rows e
 rk:CM rows
 ln:↑rows<=40
 wt:∃ f,Weighs rows f/\∀ x:Int,0<=x->x<↑rows->f x<=200
theorem DB{n:Nat}{a:cZ}(h:∀ b∈a,∀ e∈b,rV n ↑a e):gM a:=λb c y d=>by
 let⟨g,f⟩:=cH.mp d;rcases h b c _ f with z|z
 ·omega
 ·have:=z.2;omega
structure Gd(n:Nat)(rows:cZ)(sh:Y1):Prop where
 sn:Seen rows sh
 XM:∀ x:Int,0<=x->x<↑rows->∀ a∈sh x,0<=a/\a<(n:Nat)
 sl:∀ x:Int,0<=x->x<↑rows->↑(sh x)<=200
 es:∀ es∈rows,↑es<=200
 en:∀ es∈rows,∀ e∈es,rV n ↑rows e
 ln:↑rows<=40
def Good.es{n:Nat}{a:cZ}(h:Good n a):∀ es∈a,↑es<=200:=by
 let⟨en,rk,ln,f,c,d⟩:=h;let⟨b,e⟩:=zP rk;intro es f;let⟨i,b⟩:=List.mem_iff_getElem?.mp f;let f:=(List.getElem?_eq_some_iff.mp b).1;let f:=F7 (DB en) rk e c (i:Int) ∅ es (by rw[Int.toNat_natCast];exact b);have:=d (i:Int) ∅ ∅;lia
def Good.U9{n:Nat}{c:cZ}(i:Good n c):∃ a,Gd n c a:=by
 let j:=i.es;let⟨en,rk,ln,f,l,d⟩:=i;let⟨a,e⟩:=zP rk;let f:=DB en
 let k:∀ x:Int,0<=x->x<↑c->↑(a x)<=200:=λx b g=>by
  let h:=F7 f rk e l x b _ (nh ∅);have:=d x b g;lia
 refine⟨a,⟨λes h=>by have:=j es h;lia,f,rk,e,λx b g=>by have:=k x b g;lia⟩,P6 f rk e (λes h m d e0=>?_),k,j,en,ln⟩;rcases en es h m d with z|z
 ·exact z
 ·omega
def Good.bears{n:Nat}{a:cZ}(h:Good n a):∃ f,mH a f:=by
 let b:=h.es;let⟨en,rk,ln,f,c,d⟩:=h;exact⟨f,by lia,λes e=>by have:=b es e;lia,DB en,rk,c,d⟩
theorem Good.more{n m:Nat}{a:cZ}(h:Good n a)(l:n<=m):Good m a:=⟨λes b e c=>(h.en es b e c).imp (λz=>⟨z.1,by have:=z.2;lia⟩) id,h.rk,h.ln,h.wt⟩
def P7{n:Nat}{a:cZ}{s:Nat}{b:UF}(h:∀ b∈a,∀ e∈b,rV n ↑a e)(g:∀ e∈b,rV n ↑a e):∀ c∈a.set s b,∀ e∈c,rV n ↑(a.set s b) e:=by
 intro c d;rw[List.length_set];rcases List.mem_or_eq_of_mem_set d with z|z
 ·exact h c z
 ·rw[z];exact g
theorem F8{a:Y1}{N:Int->Prop}(d:∀ e,N e->∀ x∈aZ a e,N x)(p:Int):∀ (c:UF) (f:Int),(∀ e∈c,N e)->∀ x,x∈aE a p f c\/x∈bE a p f c->N x
 | [],_,_=>λx b=>by rcases b with z | z <;> cases z
 | e::r,f,h=>by
  intro x b;rw[aE,bE,List.mem_append,List.mem_append]at b;let g:=d e (h e (by simp));let i:=F8 d p r (f+↑(aZ a e)) (λy j=>h y (jT _ j)) x;rcases b with (z|z)|(z|z)
  ·split at z
   ·rw[List.mem_singleton.mp z];exact h e (by simp)
   ·split at z
    ·cases z
    ·exact g x (wY z)
  ·exact i (.inl z)
  ·split at z
   ·cases z
   ·split at z
    ·rw[List.mem_singleton.mp z];exact h e (by simp)
    ·exact g x (List.mem_of_mem_drop z)
  ·exact i (.inr z)
theorem P8{b:Y1}{N:Int->Prop}(j:∀ e,N e->∀ x∈aZ b e,N x)(c d:Int):∀ (g:UF) (f:Int),(∀ e∈g,N e)->∀ x,x∈kE b c d f g\/x∈tE b c d f g->N x
 | [],_,_=>λx a=>by rcases a with z | z <;> cases z
 | e::r,f,h=>by
  intro x a;rw[kE,tE,List.mem_append,List.mem_append]at a;let i:=j e (h e (by simp));let k:=P8 j c d r (f+↑(aZ b e)) (λy l=>h y (jT _ l)) x;unfold Mi O6 at a;rcases a with (z|z)|(z|z)
  ·split at z
   ·rw[List.mem_singleton.mp z];exact h e (by simp)
   ·split at z
    ·cases z
    ·rcases List.mem_append.mp z with z|z
     ·exact i x (wY z)
     ·exact i x (List.mem_of_mem_drop z)
  ·exact k (.inl z)
  ·split at z
   ·cases z
   ·split at z
    ·rw[List.mem_singleton.mp z];exact h e (by simp)
    ·exact i x (wY (List.mem_of_mem_drop z))
  ·exact k (.inr z)
def vV{c:Y1}{N:Int->Prop}(d:∀ e,N e->∀ x∈aZ c e,N x){p:Int}{b f:UF}(h:∀ e∈b,N e)(g:∀ e∈f,N e):∀ e∈gh c p b f,N e:=by
 intro x a;unfold gh at a;split at a
 ·exact h x a
 ·rw[List.mem_append,List.mem_append]at a;rcases a with (z|z)|z
  ·exact F8 d p b 0 h x (.inl z)
  ·exact g x z
  ·exact F8 d p b 0 h x (.inr z)
def Gd.cl{n:Nat}{b:cZ}{c:Y1}(h:Gd n b c):∀ e,rV n ↑b e->∀ x∈aZ c e,rV n ↑b x:=by
 intro e d x a;unfold aZ at a;rcases d with z|z
 ·rw[if_neg ∅]at a;rw[List.mem_singleton.mp a];exact .inl z
 ·rw[if_pos z.1]at a;exact .inl (h.XM _ ∅ z.2 x a)
def Gd.own{n:Nat}{a:cZ}{b:Y1}(h:Gd n a b)(s:Int):∀ e∈_gu.own a s,rV n ↑a e:=by
 unfold _gu.own
 cases e:a[s.toNat]? with
 | none=>exact λ_ z=>nomatch z
 | some es=>exact h.en es (mL e)
inductive LD
 | put (s p:Int) (r:Addr) (c:Row)
 | cut (s a b:Int)
 | Tz (s a b t:Int)
 | Va (t p s a b:Int)
 | win (t p s:Int)
 | fix (s:Int)
def LD.sh:LD->Int
 | .put s _ _ _=>s
 | .cut s _ _=>s
 | .Tz s _ _ _=>s
 | .Va t _ _ _ _=>t
 | .win t _ _=>t
 | .fix s=>s
def LD.At(H:Hp)(d:Addr):LD->Prop
 | .put s p r row=>H d=⇑(.tup [.str "put",.int s,.int p,↥r])/\bP H r row
 | .cut s a b=>H d=⇑(.tup [.str "cut",.int s,.int a,.int b])
 | .Tz s a b t=>H d=⇑(.tup [.str "move",.int s,.int a,.int b,.int t])
 | .Va t p s a b=>H d=⇑(.tup [.str "quote",.int t,.int p,.int s,.int a,.int b])
 | .win t p s=>H d=⇑(.tup [.str "window",.int t,.int p,.int s])
 | .fix s=>H d=⇑(.tup [.str "fix",.int s])
def LD.Ok(n m:Nat)(sh:Y1):LD->Prop
 | .put s p _ row=>qj m s/\(0<=p/\p<=↑(sh s))/\↑row<=2/\∀ q∈row,0<=q.1/\q.1<q.2/\q.2<=(n:Nat)/\q.2<=q.1+40
 | .cut s a b=>qj m s/\RB a b ↑(sh s)
 | .Tz s a b t=>qj m s/\Mv a b t ↑(sh s)
 | .Va t p s a b=>qj m t/\(0<=p/\p<=↑(sh t))/\qj m s/\RB a b ↑(sh s)
 | .win t p s=>qj m t/\(0<=p/\p<=↑(sh t))/\qj m s
 | .fix s=>qj m s
def LD.res(sh:Y1)(c:cZ):LD->List Int
 | .put s p _ row=>gh sh p (own c s) (bu row)
 | .cut s a b=>bT sh a b (own c s)
 | .Tz s a b t=>lD sh a b t (own c s)
 | .Va t p s a b=>gh sh p (own c t) (((sh s).take b.toNat).drop a.toNat)
 | .win t p s=>gh sh p (own c t) [-1-s]
 | .fix s=>sh s
def LD.XM{n m:Nat}{sh:Y1}{a:LD}(h:a.Ok n m sh):qj m a.sh:=by
 cases a with
 | fix=>exact h
 | _=>exact h.1
def LD.XN{n:Nat}{f:cZ}{sh:Y1}(g:Gd n f sh){i:LD}(h:i.Ok n ↑f sh):∀ e∈i.res sh f,rV n ↑f e:=by
 let d:=g.cl
 cases i with
 | put s p r row =>
  refine vV d (g.own s) λe c=>.inl (PY (λq j=>?_) c);have:=h.2.2.2 q j;exact⟨this.1,this.2.1,this.2.2.1⟩
 | cut s a b =>
  intro e c;unfold LD.res bT at c;dsimp only at c;split at c
  ·exact g.own s e c
  ·exact P8 d a b _ 0 (g.own s) e (.inl c)
 | Tz s a b t =>
  intro e c;unfold LD.res lD at c;dsimp only at c;split at c
  ·exact g.own s e c
  ·let j:=P8 d a b (own f s) 0 (g.own s);rw[List.mem_append,List.mem_append]at c;rcases c with (z|z)|z
   ·exact F8 d t _ 0 (λy k=>j y (.inl k)) e (.inl z)
   ·exact j e (.inr z)
   ·exact F8 d t _ 0 (λy k=>j y (.inl k)) e (.inr z)
 | Va t p s a b =>
  refine vV d (g.own t) λe c=>.inl (g.XM s h.2.2.1.1 h.2.2.1.2 e (wY (List.mem_of_mem_drop c)))
 | win t p s =>
  refine vV d (g.own t) λe c=>.inr ?_;rw[List.mem_singleton.mp c];have:=h.2.2;unfold qj at this;omega
 | fix s=>exact λe c=>.inl (g.XM s h.1 h.2 e c)
def LD.At.same{H b:Hp}{d:Addr}{a:LD}(s:aH H b)(h:a.At H d):a.At b d:=by
 cases a with
 | put=>exact⟨s _ _ h.1,h.2.same s⟩
 | _=>exact s _ _ h
theorem P9(b:Y1){d g:Int}{N:Int->Prop}:∀ (c:UF) (f:Int),(∀ e∈c,∀ x∈aZ b e,N x)->∀ x∈kE b d g f c,x∈c\/N x
 | [],_,_=>λx a=>by cases a
 | e::r,f,h=>by
  intro x a;rw[kE]at a;rcases List.mem_append.mp a with z|z
  ·unfold Mi at z;split at z
   ·rw[List.mem_singleton.mp z];exact .inl (by simp)
   ·split at z
    ·cases z
    ·rcases List.mem_append.mp z with y|y
     ·exact .inr (h e (by simp) x (wY y))
     ·exact .inr (h e (by simp) x (List.mem_of_mem_drop y))
  ·rcases P9 b r _ (λe a=>h e (jT _ a)) x z with y|y
   ·exact .inl (jT _ y)
   ·exact .inr y
theorem zT(b:Y1):∀ (a:UF),(∀ x∈a,0<=x)->aS b a=a
 | [],_=>rfl
 | x::a,h=>by rw[cu,qN b (h x (by simp)),zT b a λy c=>h y (jT _ c)];rfl
theorem Ky(a:Y1){b c:Int}(i:b<=c):∀ (d:UF) (f:Int),(∀ e∈d,∀ x∈aZ a e,0<=x)->↑(aS a (kE a b c f d))<=↑(aS a d)
 | [],_,_=>by simp[kE]
 | e::r,f,h=>by
  rw[kE,jB,cu,cR,cR];let g:=Ky a i r (f+↑(aZ a e)) (λe g=>h e (jT _ g))
  let g:↑(aS a (Mi a b c f e))<=↑(aZ a e):=by
   unfold Mi;split
   ·rw[cu];simp[aS]
   ·split
    ·simp[aS]
    ·rename_i g j;let j:=h e (by simp);rw[jB,zT a _ λx g=>j x (wY g),zT a _ λx g=>j x (List.mem_of_mem_drop g),cR,gO,pD];let k:=Int.toNat_le_toNat (Int.sub_le_sub_right i f);generalize (b-f).toNat=u at k ⊢;generalize (c-f).toNat=v at k ⊢;omega
  lia
theorem Vb(a:Y1){b d:Int}(j:b<d):∀ (i:UF) (f:Int),f<=b->b<f+↑(aS a i)->tE a b d f i≠[]
 | [],f,h,g=>by simp[aS]at g;lia
 | e::r,f,h,g=>by
  rw[cu,cR]at g;rw[tE];intro z;let⟨c,k⟩:=List.append_eq_nil_iff.mp z;by_cases g:f+↑(aZ a e)<=b
  ·exact Vb a j r (f+↑(aZ a e)) g ∅ k
  ·unfold O6 at c;rw[if_neg (λy=>y.elim g ∅)]at c;split at c
   ·cases c
   ·rename_i g;let q:=congrArg List.length c;rw[pD,gO,oV]at q;exact absurd (Nat.le_of_sub_eq_zero q) (Nat.not_le.mpr (Nat.lt_min.mpr ⟨by lia,by lia⟩))
theorem F9{b c:Y1}(p:Int):∀ (a:UF) (f:Int),(∀ e∈a,aZ b e=aZ c e)->aE b p f a=aE c p f a
 | [],_,_=>rfl
 | e::r,f,h=>by rw[aE,aE,h e (by simp),F9 p r _ λx d=>h x (jT _ d)]
theorem Ga{b c:Y1}(p:Int):∀ (a:UF) (f:Int),(∀ e∈a,aZ b e=aZ c e)->bE b p f a=bE c p f a
 | [],_,_=>rfl
 | e::r,f,h=>by rw[bE,bE,h e (by simp),Ga p r _ λx d=>h x (jT _ d)]
theorem Gb{a b:Y1}:∀ (d:UF),(∀ y∈eU d,↑(b y)<=↑(a y))->↑(aS b d)<=↑(aS a d)
 | [],_=>by simp[aS]
 | e::r,h=>by
  rw[cu,cu,cR,cR]
  let c:=Gb (a:=a) (b:=b) r λy c=>h y (by
   let⟨f,g⟩:=cH.mp c
   exact cH.mpr ⟨f,jT _ g⟩)
  let c:↑(aZ b e)<=↑(aZ a e):=by
   unfold aZ;by_cases c:e<0
   ·rw[if_pos c,if_pos c];exact h _ (cH.mpr ⟨by lia,by rw[show -1-(-1-e)=e by lia];simp⟩)
   ·rw[if_neg c,if_neg c];exact d7 _
  lia
structure lf(rows:cZ)(sh:Y1)(rk:Int->Nat)(s a b:Int)(es:UF)(rs:cZ)(sg:Y1):Prop where
 snd:gM rs
 nx:∀ x y,jF rs x y->jF rows x y
 O2:mz rs sg
 bd:∀ x:Int,0<=x->x<↑rs->↑(sg x)<=10000
 eq:∀ n,rk n<rk s->0<=n->n<↑rows->sg n=sh n
def Qa{c:cZ}{d:Y1}{rk:Int->Nat}{s g h:Int}{a:UF}(k:gM c)(I:∀ x,rk x<=40)(p:∀ x y,jF c x y->rk y<rk x)(B:mz c d)(M:∀ x:Int,0<=x->x<↑c->↑(d x)<=10000)(N:0<=s)(h1:s<↑c)(l:c[s.toNat]?=⇑a)(O:g<=h):∃ m,lf c d rk s g h a (c.set s.toNat (bT d g h a)) m:=by
 let R:=nK k ⟨rk,I,p⟩ B
 let J:∀ o∈a,∀ x∈aZ d o,0<=x:=λo i x e=>by
  unfold aZ at e;by_cases j:o<0
  ·rw[if_pos j]at e;let q:jF c s (-1-o):=⟨N,a,l,cH.mpr ⟨by lia,by rw[show -1-(-1-o)=o by lia];exact i⟩⟩;let⟨C,D⟩:=k.DY q;exact R _ C D x e
  ·rw[if_neg j]at e;rw[List.mem_singleton.mp e];lia
 let r:∀ y∈eU (bT d g h a),y∈eU a:=λy b=>by
  let⟨f,i⟩:=cH.mp b;refine cH.mpr ⟨f,?_⟩;unfold bT at i;split at i
  ·exact i
  ·rcases P9 d a 0 J _ i with z|z
   ·exact z
   ·lia
 let q:∀ x y,jF (c.set s.toNat (bT d g h a)) x y->jF c x y:=by
  rintro x y ⟨f,F,e,b⟩;by_cases j:x.toNat=s.toNat
  ·rw[j,List.getElem?_set,if_pos rfl]at e;split at e
   ·cases e;exact⟨f,a,by rw[j];exact l,r y b⟩
   ·cases e
  ·rw[List.getElem?_set_ne (λz=>j z.symm)]at e;exact⟨f,F,e,b⟩
 let S:gM (c.set s.toNat (bT d g h a)):=λF i y b=>by
  rw[List.length_set];rcases List.mem_or_eq_of_mem_set i with z|z
  ·exact k F z y b
  ·subst z;exact k a (mL l) y (r y b)
 let⟨m,G⟩:=zP (a:=c.set s.toNat (bT d g h a)) ⟨rk,I,λx y t=>p x y (q x y t)⟩
 let T:(c.set s.toNat (bT d g h a))[s.toNat]?=⇑(bT d g h a):=by
  rw[List.getElem?_set,if_pos rfl,if_pos ∅]
 let L:∀ (u:Nat) (x:Int),rk x<u->0<=x->x<↑c->(rk x<rk s->m x=d x)/\↑(m x)<=↑(d x):=by
  intro u
  induction u with
  | zero=>intro x t;lia
  | succ u H =>
   intro x e f v;by_cases j:x.toNat=s.toNat
   ·let U:x=s:=by lia
    subst U;refine⟨λz=>by lia,?_⟩;let w:=G x _ f T
    let A:aS m (bT d g h a)=aS d (bT d g h a):=qw λy b=>by
     let n:=p x y ⟨f,a,l,r y b⟩;let⟨C,D⟩:=k.DY ⟨f,a,l,r y b⟩;exact (H y ∅ C D).1 n
    rw[w,A,B x a f l];unfold bT;split
    ·exact d7 _
    ·exact Ky d O a 0 J
   ·let e:c[x.toNat]?=⇑c[x.toNat]:=nh ∅;let w:=G x _ f (by rw[List.getElem?_set_ne (λz=>j z.symm)];exact e);let A:=B x _ f e
    let low:∀ y∈eU c[x.toNat],rk y<rk x/\0<=y/\y<↑c:=λy b=>by
     let n:jF c x y:=⟨f,_,e,b⟩;exact⟨p x y n,k.DY n⟩
    refine⟨λz=>?_,?_⟩
    ·rw[w,A];exact qw λy b=>(H y (by have:=(low y b).1;lia) (low y b).2.1 (low y b).2.2).1 (by have:=(low y b).1;lia)
    ·rw[w,A];exact Gb _ λy b=>(H y (by have:=(low y b).1;lia) (low y b).2.1 (low y b).2.2).2
 refine⟨m,S,q,G,λx f v=>?_,λn t b e=>(L (rk n+1) n (Nat.lt_succ_self _) b e).1 t⟩;rw[List.length_set]at v;have:=(L (rk x+1) x (Nat.lt_succ_self _) f v).2;have:=M x f v;lia
def TH{e:cZ}{a i:Y1}{rk:Int->Nat}{s c d g:Int}{b:UF}(o:gM e)(A:∀ x,rk x<=40)(p:∀ x y,jF e x y->rk y<rk x)(q:mz e a)(l:0<=s)(r:e[s.toNat]?=⇑b)(t:0<=c)(B:c<=d)(C:d<=↑(a s))(m:lf e a rk s c d b (e.set s.toNat (bT a c d b)) i)(u:(e.set s.toNat (bT a c d b))[s.toNat]?=⇑(bT a c d b)):gh i g (bT a c d b) (iH a c d b)=lD a c d g b:=by
 unfold lD;by_cases f:c=d
 ·let j:iH a c d b=[]:=by unfold iH;rw[if_pos f]
  let k:bT a c d b=b:=by unfold bT;rw[if_pos f]
  rw[if_pos f,j,k];rfl
 ·rw[if_neg f];let j:iH a c d b=tE a c d 0 b:=by unfold iH;rw[if_neg f]
  let k:bT a c d b=kE a c d 0 b:=by unfold bT;rw[if_neg f]
  let v:tE a c d 0 b≠[]:=Vb a ∅ b 0 t (by rw[← q s b l r];lia)
  let n:∀ f∈bT a c d b,aZ i f=aZ a f:=λf w=>by
   unfold aZ;by_cases h:f<0
   ·rw[if_pos h,if_pos h];let z:jF (e.set s.toNat (bT a c d b)) s (-1-f):=⟨l,_,u,cH.mpr ⟨by lia,by rw[show -1-(-1-f)=f by lia];exact w⟩⟩;let f:=m.nx _ _ z;let⟨w,z⟩:=o.DY f;exact m.eq _ (p _ _ f) w z
   ·rw[if_neg h,if_neg h]
  unfold gh;rw[j,if_neg v,F9 g _ 0 n,Ga g _ 0 n,k]
def ME{c:Cx}(j:c.calm=true):jm c (.builtin "max") (λa H Q=>∃ (p:Addr) (b:UF),a=[↥p]/\bI c.K H p (b.map V.int)/\0<↑b/\∀ M,M∈b->(∀ e∈b,e<=M)->Q (.int M) H):=by
 intro l s x H a y Q I r h;let⟨p,b,rfl,f,k,q⟩:=h;let⟨u,rfl,g⟩:=r.one;cases (show u=Value.ref p from g);let⟨g,h,l,r⟩:=I.list f;let f:PyProof.Rows.IntsAre g b:=intsAre_of h;let⟨a,g⟩:=f.allInts.items;let h:=l.isList
 let d:b=a.toList.map (·.1):=by
  rw[← f.numsOf,← PySem.nums_intItems,← g]
 let l:0<a.size:=by
  let f:=k;rw[d,cC,Array.length_toList]at f;exact f
 rw[g]at h;refine PySem.max_intList (I.ok.hd j) h l λf g h m n=>?_;let⟨t,rfl⟩:=PySem.intItems_at m;let⟨f,o⟩:=PySem.argBest_gt (PySem.numAt a) (a.size-1);refine⟨.int _,H,I.kept n,⟨t,1⟩,q _ ?_ λe i=>?_⟩
 ·rw[d,PySem.numAt_eq];exact PySem.getD_mem (by rw[cC,Array.length_toList];omega)
 ·rw[d]at i;let⟨v,w,rfl⟩:=PySem.mem_getD i;rw[cC,Array.length_toList]at w;rw[← PySem.numAt_eq];exact o v ∅
class inductive Qc
 | mk (d:Yf) (r:Addr) (a:cZ) (s:Int) (_:vs=[↥r,.int s]) (_:iA d H r a) (_:↑a<=40) (_:∀ e∈a,↑e<=100000) (_:gM a) (_:0<=s) (_:s<↑a) (_:¬ Reach (jF a) s s->∀ x,¬ Reach (jF a) x x) (_:∀ (b:Bool) (c:Hp),aH H c->(b=true->CM a/\∃ f,Weighs a f/\∀ x:Int,0<=x->x<↑a->f x<=200)->Q (.bl b) c)
theorem Ge:‹(43,90,["e","d"],Qc)›:=λD=>by
 specialize fP ["e","d"] D.j2.F;let⟨n,r,c,s,rfl,R,x,g,d,s0,p,y,o⟩:=h;refine⟨_,#v[bM (aV Lc (pv 1) (aB D.j1 (zR D) hr #[0,1]) rfl) #v[aK nj] bg,aK (mP gE (b8 (ME rfl) rfl D.T.zl PyProof.Rows.boot_max #[iz (N:=["_law_other","e"]) (kg (c:=cy sE) (f:=["e","d"]) (d:=[none,some 0]) rfl rfl rfl nofun nofun rfl nofun rfl nofun) rfl (iL rfl D.T.i9 #[gf D.T.fJ (pv 0)]) (λ_ _ _ _ _ _=>(bV 0)) (λ_ _ _ _ _ _=>gK) (λ_ _ _ _ _ _=>(aB D.W0 (qx D 41) hr #[1,0]))]) ay (bh _))],?_⟩
 rfl'
 refine⟨Y,Y,Y,n,r,c,s,1,R,by lia,g,d,s0,p,λL g p B e C=>?_⟩;exists g,Y,.inl (bI.of B),1,BF L,Y;rw[JY];by_cases g:s∈L
 ·rw[decide_eq_true g];exact iX (o false p e λz=>nomatch z)
 rw[decide_eq_false g];refine gx ?_;let j:=XJ d x (y λz=>g ((C s).mpr z));let⟨f,q⟩:=LZ j;let⟨rk,F,G⟩:=id j;let t:=R.same e;let⟨vs,g,x⟩:=id t;let y:=x.len;let v:∀ i:Nat,↑((List.range i).map λb:Nat=>f (b:Int))=i:=λi=>by rw[cC,List.length_range]
 refine⟨Y,r,Y,.inl (bI.of g),Y,by lia,by lia,λk w=>pZ (lo:=0) (k:=((↑vs:Nat):Int).toNat) (λi l a=>∃ u:Option V,l=[u,⇑↥r]/\a k=⇑(.lst (((List.range i).map λb:Nat=>f (b:Int)).map V.int))/\aH p a) ⟨none,1,af,ak w _⟩ ?_ ?_⟩
 ·rintro i l a z ⟨u,rfl,m,b⟩;let g:i<↑c:=by lia
  refine⟨Y,Y,n,r,c,0+(i:Int),f,rk,1,t.same b,by lia,d,by lia,by lia,q,G,by have:=F (0+(i:Int));lia,_,m,(by rw[cC,v];exact aN ∅),Y,?_,bN w b (aG k _ _)⟩;rw[af,List.range_succ,gI,gI,Int.zero_add];rfl
 ·rintro l a ⟨u,rfl,m,b⟩;refine⟨k,Y,bI.of m,by rw[v];lia,λM _ c=>⟨Z,?_⟩⟩;refine o _ a (e.trans b) λz=>⟨j,f,q,λx a b=>?_⟩;have y:=c (f x) (List.mem_map.mpr ⟨x.toNat,List.mem_range.mpr ∅,by rw[show ((x.toNat:Nat):Int)=x by lia]⟩);have:=of_decide_eq_true z;lia
def cJ{a b:Str}(h:a≠b){A B:Prop}(z:B):if decide (V.str a=V.str b)=true then A else B:=by
 rw[if_neg λy=>h (V.str.inj (of_decide_eq_true y))];exact z
def ja{a:Str}{A B:Prop}(z:A):if decide (V.str a=V.str a)=true then A else B:=by
 rw[if_pos (decide_eq_true rfl)];exact z
def M0.at_{W:Yf}{H:Hp}{a:Addr}{b:cZ}(h:M0 W f g H a b):iA (λ_=>False) H a b:=by
 let⟨_,_,_,c,d,e⟩:=h;exact⟨c,d,e.mono λv i ⟨c,e,Q,d⟩=>⟨c,e,λz=>z,d⟩⟩
def jD{a:cZ}{s:Int}(h:qj ↑a s):a[s.toNat]?=⇑(own a s):=by
 have:s.toNat<↑a:=by have:=h.1;have:=h.2;lia
 unfold own;rw[nh this];rfl
class inductive Kz
 | mk (W:Yf) (w e:Addr) (f:gD) (g:gY) (a:cZ) (n:Nat) (b:Y1) (c:LD) (_:vs=[↥w,↥e]) (_:Wo 100 aU W H w f g a) (_:c.At H e) (_:Gd n a b) (_:c.Ok n ↑a b) (_:n<=10000) (_:∀ (o:Addr) (d:Hp),d o=⇑(.lst ((c.res b a).map V.int))->↑(c.res b a)<=100000->aH H d->H o=none->Q ↥o d)
theorem DC:‹(45,91,["a","o"],Kz)›:=λD=>by
 let y:bq c9 bw bZ cW cU cS 44 _ _ ["e","d","U","_law_new"] (Iz 41):=IA D;let Ck:bq c9 bw bZ cW cU cS 44 _ _ ["e","d","u","Q"] (P4 41):=IB D;specialize fP ["a","o","e","_law_name","_law_kept","_law_taken"] D.j3.F;let⟨W,bw,d,aC,pq,f,am,i,dd,rfl,wo,e,g,p,ao,x⟩:=h;let hu:=gS hr;exists _,#v[aX 2 (gF hu (pv 0) bC),aX 3 (aO bf (pv 1) ay),bM (aV eE (pv 3) bC (bh _)) #v[aK (aB D.OS y hr #[2,aO bf (pv 1) ay,aO bf (pv 1) ay,aB D.jV (Dv D) hr #[aO bf (pv 1) ay]])] bg,bM (aV eE (pv 3) bC (bh _)) #v[aK (aO bf (aB D.WZ Ck hr #[2,aO bf (pv 1) ay,aO bf (pv 1) ay,aO bf (pv 1) ay]) ay)] bg,bM (aV eE (pv 3) bC (bh _)) #v[mZ (aB D.WZ Ck hr #[2,aO bf (pv 1) ay,aO bf (pv 1) ay,aO bf (pv 1) ay]) (lU (n:=2) rfl (bR (bV 4) (bR (bV 5) gJ))),aK (aB D.OS y hr #[aB D.WX (wU D) hr #[2,aO bf (pv 1) ay,4],aO bf (pv 1) ay,aO bf (pv 1) ay,5])] bg,bM (aV eE (pv 3) bC (bh _)) #v[aK (aB D.OS y hr #[2,aO bf (pv 1) ay,aO bf (pv 1) ay,iW lg (aB D.Fc (iJ D 41) hr #[2,aO bf (pv 1) ay]) (i6 (aO bf (pv 1) ay)) (i6 (aO bf (pv 1) ay))])] bg,bM (aV eE (pv 3) bC (bh _)) #v[aK (aB D.OS y hr #[2,aO bf (pv 1) ay,aO bf (pv 1) ay,bK #[bz dc (iS gm ay) (aO bf (pv 1) ay)]])] bg,bM (aV eE (pv 3) bC (bh _)) #v[aK (aB D.Fc (iJ D 41) hr #[2,aO bf (pv 1) ay])] bg,aK (aO bH (aO bH (gF hu (pv 0) bC) (aO bf (pv 1) ay)) (aO bf (pv 1) ay))]
 rfl'
 let⟨ik,w,ps,vl,y⟩:=id wo;let zr:=gX.k (k:=kR) y.hw;rw[show cG (qu ik w ps vl) kR=⇑↥w by kernel_rfl]at zr;let R:=y.hr.at_;let⟨rk,B,t⟩:=g.sn.rk;let y:=g.ln;let C:↑f<=1000:=by lia
 let J:∀ s,rk s<=41:=λs=>by have:=B s;lia
 let ab:∀ m∈f,↑m<=25000:=λm F=>by have:=g.es m F;lia
 exists Y,bw,Y,zr
 let O:∀ {s u:Int} {y:UF} {q o:Addr} {k:Hp} {Q:VK} {E:XK},qj ↑f s->iA (λ_=>False) k q f->k o=⇑(.lst (y.map V.int))->↑y<=25000->aH H k->(∀ (o:Addr) (c:Hp),c o=⇑(.lst ((gh i u (own f s) y).map V.int))->↑(gh i u (own f s) y)<=100000->aH H c->H o=none->Q ↥o c)->Iz 41 [↥q,.int s,.int u,↥o] k Q E:=by
  intro s u y q o k Q E c r G I j M;refine⟨_,q,o,f,s,u,y,i,rk,1,r,C,ab,g.sn.sd,g.sn.ss,g.sn.ln,t,c.1,c.2,J s,G,I,λm N L v z n l S=>?_⟩;rw[jD c]at v;cases v;exact M N L z n (j.trans l) (aP j S)
 cases dd with
 | put s u l row =>
  let⟨e,y⟩:=e;let⟨c,T,n,r⟩:=p;exists Y,d,Q,V,dI.of e,sQ;refine⟨Y,1,Y,ja ?_⟩;let n:=F3 (k:=40) (a:=row) λq h=>by have:=r q h;lia
  refine⟨Y,Y,d,Q,V,dI.of e,uo,Y,d,Q,V,dI.of e,Av,Y,d,Q,V,dI.of e,Aw,l,row,1,y,λq h=>by have:=r q h;lia,by lia,by lia,λI k v j M=>?_⟩;exact O c (R.same j) v ∅ j x
 | cut s a b =>
  let⟨c,n⟩:=p;exists Y,d,Q,V,dI.of e,sQ;refine⟨Y,1,Y,cJ nofun ⟨Y,1,Y,ja ?_⟩⟩;refine⟨Y,Y,d,Q,V,dI.of e,uo,Y,d,Q,V,dI.of e,Av,Y,d,Q,V,dI.of e,Aw,_,w,f,s,a,b,i,rk,1,R,C,(λm F=>by have:=g.es m F;lia),g.sn.sd,g.sn.ss,g.sn.ln,t,c.1,c.2,J s,n.2.1,λm S M ae k v T U hM j fL fM ai=>?_⟩;rw[jD c]at v;cases v;refine⟨S,Q,V,dI.of T,sQ,x M k U ?_ j fL⟩;let y:=sY i a b (own f s);let N:=g.sl s c.1 c.2;rw[g.sn.ss s _ c.1 (jD c)]at N;have:=g.es _ (mL (jD c));show ↑(bT i a b (own f s))<=_;lia
 | Tz s a b X =>
  let⟨c,mv⟩:=p;let n:=mv.1;let lo:=g.es _ (mL (jD c));let am:=g.sn.ss s _ c.1 (jD c);let N:=g.sl s c.1 c.2;rw[am]at N;let y:=sY i a b (own f s);let y:=zS i a b (own f s);exists Y,d,Q,V,dI.of e,sQ;refine⟨Y,1,Y,cJ nofun ⟨Y,1,Y,cJ nofun ⟨Y,1,Y,ja ?_⟩⟩⟩;refine⟨Y,Y,d,Q,V,dI.of e,uo,Y,d,Q,V,dI.of e,Av,Y,d,Q,V,dI.of e,Aw,_,w,f,s,a,b,i,rk,1,R,C,(λm F=>by have:=g.es m F;lia),g.sn.sd,g.sn.ss,g.sn.ln,t,c.1,c.2,J s,n.2.1,λm S M ae k v T U hM j fL fM ai=>?_⟩;rw[jD c]at v;cases v;let⟨vs,an,al⟩:=R.same j;let v:=al.len;let v:=c.1;let v:=c.2;let G:=j _ _ e;exists S,Y,dI.of T,1,E,1,Z;refine⟨Y,Y,d,Q,V,dI.of G,uo,Y,w,M,s.toNat,vs,(by rw[show ((s.toNat:Nat):Int)=s by lia];rfl),an,by lia,by lia,λq L r l v=>?_⟩;let ag:=l _ _ G;let⟨sg,I⟩:=Qa (g:=a) (h:=b) g.sn.sd B t g.sn.ss g.sn.ln c.1 c.2 (jD c) n.2.1
  let TF:(f.set s.toNat (bT i a b (own f s)))[s.toNat]?=⇑(bT i a b (own f s)):=by
   rw[List.getElem?_set,if_pos rfl,if_pos ∅]
  let R2:iA (λ_=>False) L q (f.set s.toNat (bT i a b (own f s))):=⟨_,r,cI.set _ (al.mono λv m z=>fZ.same l z) ⟨M,1,λz=>z,l _ _ U⟩⟩
  refine⟨Y,d,Q,V,dI.of ag,uo,Y,d,Q,V,dI.of ag,RX,Y,_,q,ae,_,s,X,iH i a b (own f s),sg,rk,1,R2,by rw[List.length_set];lia,(λuP hm=>by
   rcases List.mem_or_eq_of_mem_set hm with z|z
   ·exact ab uP z
   ·rw[z];lia),I.snd,I.O2,I.bd,(λm y h=>t m y (I.nx m y h)),c.1,by rw[List.length_set];exact c.2,J s,l _ _ hM,by lia,λuP o H3 JS h3 l3 s3 f3=>?_⟩
  rw[TF]at JS;cases JS;rw[TH g.sn.sd B t g.sn.ss c.1 (jD c) n.1 n.2.1 n.2.2 I TF]at h3 l3;exact x o H3 h3 l3 (j.trans (l.trans s3)) (aP (j.trans l) f3)
 | Va X u s a b =>
  let⟨S,T,c,n⟩:=p;exists Y,d,Q,V,dI.of e,sQ;refine⟨Y,1,Y,cJ nofun ⟨Y,1,Y,cJ nofun ⟨Y,1,Y,cJ nofun ⟨Y,1,Y,ja ?_⟩⟩⟩⟩;let N:=g.sl s c.1 c.2;refine⟨Y,Y,d,Q,V,dI.of e,uo,Y,d,Q,V,dI.of e,Av,Y,Y,d,Q,V,dI.of e,Aw,_,w,f,s,i,rk,1,R,C,g.sn.sd,c.1,c.2,g.sn.ss,g.sn.ln,t,by have:=B s;lia,λI k v j M=>?_⟩;let G:=j _ _ e;refine⟨Y,d,Q,V,dI.of G,RX,Y,Y,d,Q,V,dI.of G,ZG,Y,I,Y,bI.of v,λq r=>?_⟩;let l:=ak r (.lst (j0 ((i s).map V.int) (⇑a) (⇑b)));let z:(aL k q (.lst (j0 ((i s).map V.int) (⇑a) (⇑b)))) q=⇑(.lst ((((i s).take b.toNat).drop a.toNat).map V.int)):=by rw[af,FJ _ n.1 (by have:=n.1;have:=n.2.1;lia),List.map_drop,List.map_take]
  generalize aL k q (.lst (j0 ((i s).map V.int) (⇑a) (⇑b)))=L at l z;exact O S (R.same (j.trans l)) z (by rw[pD,gO];omega) (j.trans l) x
 | win X u s =>
  let⟨S,T,c⟩:=p;exists Y,d,Q,V,dI.of e,sQ;refine⟨Y,1,Y,cJ nofun ⟨Y,1,Y,cJ nofun ⟨Y,1,Y,cJ nofun ⟨Y,1,Y,cJ nofun ⟨Y,1,Y,ja ?_⟩⟩⟩⟩⟩;refine⟨Y,Y,d,Q,V,dI.of e,uo,Y,d,Q,V,dI.of e,Av,Y,Y,d,Q,V,dI.of e,Aw,Z,mq,λq r=>?_⟩;exact O S (R.same (ak r _)) af (by show 1<=25000;decide) (ak r _) x
 | fix s =>
  exists Y,d,Q,V,dI.of e,sQ;refine⟨Y,1,Y,cJ nofun ⟨Y,1,Y,cJ nofun ⟨Y,1,Y,cJ nofun ⟨Y,1,Y,cJ nofun ⟨Y,1,Y,cJ nofun ⟨Y,1,Y,ja ?_⟩⟩⟩⟩⟩⟩;exact⟨Y,Y,d,Q,V,dI.of e,uo,_,w,f,s,i,rk,1,R,C,g.sn.sd,p.1,p.2,g.sn.ss,g.sn.ln,t,by have:=B s;lia,λI k v j M=>x I k v (by have:=g.sl s p.1 p.2;show ↑(i s)<=_;lia) j M⟩
theorem Qd{n:Nat}{a:Row}(h:∀ z∈a,0<=z.1/\z.1<z.2/\z.2<=(n:Nat)):om n a=true:=List.all_eq_true.mpr λq b=>by
 have:=h q b;unfold Pq;simp only[Bool.and_eq_true,decide_eq_true_eq];lia
def TJ:Sp:=λ_ _ _ _=>False
theorem Qe{k:Nat}{f:Addr}{a:Uf}:bq P w K mg zt cS k f c a TJ:=⟨λb H Q E h=>h.elim,λA d s H args e b Q E _ _ _ _ h=>h.elim⟩
def lh{i:Int}(a:0<=i)(b:i<=20000):uR i:=by
 let c:(20000:Int)<10^60:=by decide
 exact⟨by lia,by lia⟩
class inductive Qf(C CS CW CB:Addr)
 | mk (U:Yf) (x i:Addr) (d:gY) (g:iK) (c:gD) (j:Nat) (k:Row) (a:cZ) (e:Y1) (b:LD) (_:vs=[↥x,↥i]) (_:oq C CS CW CB U H x d g c j k) (_:d.getLast?=⇑a) (_:↑d<=900) (_:↑g<=900) (_:↑c<=10000) (_:b.At H i) (_:Gd ↑c a e) (_:b.Ok ↑c ↑a e) (_:∃ f,mH (iR a b.sh.toNat (b.res e a)) f) (_:∀ (l:Yf) (h:Hp) (m:iK),↑m=↑g+1->oq C CS CW CB l h x (d++[iR a b.sh.toNat (b.res e a)]) m c j k->xx U l H h->Q .gi h)
theorem Gf:‹(7,93,["i","o"],(Qf fK cO dH fG))›:=λD=>by
 let AL:bq c9 bw bZ cW cU cS 4 (eK 62) (eL 62) ["c","C","text"] TJ:=Qe;let zU:bq c9 bw bZ cW cU cS 4 (eK 59) (eL 59) ["c"] TJ:=Qe;let AM:bq c9 bw bZ cW cU cS 4 (eK 92) (eL 92) ["c","f","L"] TJ:=Qe;specialize fP ["i","o","_law_name"] D.j9.F;let⟨U,x,d,B,q,t,C,F,n,u,dd,rfl,v,G,I,J,l4,c,X,w,L,M⟩:=h;exists _,#v[aX 2 (aO bf (pv 1) ay),bM (aV eE (pv 2) bC (bh _)) #v[aK (dG (pv 0) D.aQ D.WW AL hr bO #[aO bf (pv 1) ay,aO bf (pv 1) ay])] bg,bM (aV eE (pv 2) bC (bh _)) #v[aK (gC (pv 0) D.aQ D.WU zU hr bO)] bg,bM (aV eE (pv 2) bC (bh _)) #v[aK (dG (pv 0) D.aQ D.im (zK D) hr bO #[aO bf (pv 1) ay,aO bf (pv 1) ay,fY gR rfl D.T.jz tK #[aO bf (pv 1) ay]])] bg,bM (aV eE (pv 2) bC (bh _)) #v[aK (dG (pv 0) D.aQ D.io (zL D) hr bO #[aO bf (pv 1) ay,aO bf (pv 1) ay,aO bf (pv 1) ay])] bg,bM (aV eE (pv 2) bC (bh _)) #v[aK (dG (pv 0) D.aQ D.iw (xA D) hr bO #[aO bf (pv 1) ay,aO bf (pv 1) ay,aO bf (pv 1) ay,aO bf (pv 1) ay])] bg,bM (aV eE (pv 2) bC (bh _)) #v[aK (dG (pv 0) D.aQ D.ip (vR D) hr bO #[aO bf (pv 1) ay,aO bf (pv 1) ay,aO bf (pv 1) ay,aO bf (pv 1) ay,aO bf (pv 1) ay])] bg,bM (aV eE (pv 2) bC (bh _)) #v[aK (dG (pv 0) D.aQ D.iq (uM D) hr bO #[aO bf (pv 1) ay,aO bf (pv 1) ay,aO bf (pv 1) ay])] bg,bM (aV eE (pv 2) bC (bh _)) #v[aK (dG (pv 0) D.aQ D.iv (zM D) hr bO #[aO bf (pv 1) ay])] bg,aK (dG (pv 0) D.aQ D.pf AM hr bO #[aO bf (pv 1) ay,aO bf (pv 1) ay])]
 rfl'
 let ab:=X.ln;let N:↑n<=50:=by lia
 let O:=X.sn;let R:∀ {ab:List Nat},↑(q++[ab])=↑q+1:=λ{ab}=>by rw[cR];rfl
 let r:∀ {s:Int},qj ↑n s->uR s:=λz=>lh z.1 (by have:=z.2;lia);have y:∀ {s p:Int},qj ↑n s->0<=p->p<=↑(u s)->uR p:=λz p0 p1=>lh p0 (by have:=X.sl _ z.1 z.2;lia);let⟨S',UY,S,Xh,ab,ae,ag,ai,am,an,A8,Ej,ao,ap,aq,ar,av,aw,FP,LU⟩:=id v;have T:=LU.L.hx
 cases dd with
 | put s p ab row =>
  let⟨c,HW⟩:=c;let⟨e,i,r2,hq⟩:=w;let hh:=Qd (n:=↑t) (a:=row) λz h=>by have:=hq z h;exact⟨this.1,this.2.1,this.2.2.1⟩
  let⟨o,ha,pa⟩:=id HW;exists Y,d,Q,V,dI.of c,sQ;refine⟨Y,1,Y,cJ nofun ⟨Y,1,Y,cJ nofun ⟨Y,1,Y,ja ?_⟩⟩⟩;refine⟨Y,x,S,Y,T,1,Y,d,Q,V,dI.of c,uo,Y,d,Q,V,dI.of c,Av,Y,d,Q,V,dI.of c,Aw,ab,Y,.inl (bI.of ha),λf VC=>?_⟩;let W:=ak VC (.lst (o.map V.ref));let DZ:bP (aL H f (.lst (o.map V.ref))) f row:=⟨o,af,pa.same W⟩;generalize aL H f (.lst (o.map V.ref))=o at W DZ;refine⟨U,x,f,B,q,t,C,F,row,s,p,n,1,v.same W,DZ,⟨by lia,λz h=>by have:=hq z h;exact⟨⟨by lia,by lia⟩,⟨by lia,by lia⟩⟩⟩,by lia,G,N,I,J,r e,y e i.1 i.2,e,hh,⟨u,O,i,λes g=>?_⟩⟩;rw[jD e]at g;cases g
  let o:dM (cQ (cE row))=bu row:=by
   rw[nJ,j6 _ λf h=>by have:=hq f h;lia]
  rw[o];exact⟨L,λj k l m=>M j k _ R l (m.pre W)⟩
 | cut s a b =>
  let⟨e,f⟩:=w;exists Y,d,Q,V,dI.of c,sQ;refine⟨Y,1,Y,cJ nofun ⟨Y,1,Y,cJ nofun ⟨Y,1,Y,cJ nofun ⟨Y,1,Y,ja ?_⟩⟩⟩⟩;refine⟨Y,x,S,Y,T,1,Y,d,Q,V,dI.of c,uo,Y,d,Q,V,dI.of c,Av,Y,d,Q,V,dI.of c,Aw,U,x,B,q,t,C,F,s,a,b,n,1,v,G,N,I,J,r e,y e f.1 (by have:=f.2.1;have:=f.2.2;lia),y e (by have:=f.2.1;have:=f.1;lia) f.2.2,e,⟨u,O,f,λes g=>?_⟩⟩;rw[jD e]at g;cases g;exact⟨L,λj k l m=>M j k _ R l m⟩
 | Tz s a b W =>
  let⟨e,i⟩:=w;let f:=i.1;let o:=f.1;let o:=f.2.1;let o:=f.2.2;let o:=i.2;let o:=X.sl s e.1 e.2;exists Y,d,Q,V,dI.of c,sQ;refine⟨Y,1,Y,cJ nofun ⟨Y,1,Y,cJ nofun ⟨Y,1,Y,cJ nofun ⟨Y,1,Y,cJ nofun ⟨Y,1,Y,ja ?_⟩⟩⟩⟩⟩;refine⟨Y,x,S,Y,T,1,Y,d,Q,V,dI.of c,uo,Y,d,Q,V,dI.of c,Av,Y,d,Q,V,dI.of c,Aw,Y,d,Q,V,dI.of c,RX,U,x,B,q,t,C,F,s,a,b,W,n,1,v,G,N,I,J,r e,⟨by lia,by lia⟩,⟨by lia,by lia⟩,⟨by lia,by lia⟩,e,⟨u,O,i,λes g=>?_⟩⟩;rw[jD e]at g;cases g;exact⟨L,λj k l m=>M j k _ R l m⟩
 | Va W p s a b =>
  let⟨o,i,e,f⟩:=w;exists Y,d,Q,V,dI.of c,sQ;refine⟨Y,1,Y,cJ nofun ⟨Y,1,Y,cJ nofun ⟨Y,1,Y,cJ nofun ⟨Y,1,Y,cJ nofun ⟨Y,1,Y,cJ nofun ⟨Y,1,Y,ja ?_⟩⟩⟩⟩⟩⟩;refine⟨Y,x,S,Y,T,1,Y,d,Q,V,dI.of c,uo,Y,d,Q,V,dI.of c,Av,Y,d,Q,V,dI.of c,Aw,Y,d,Q,V,dI.of c,RX,Y,d,Q,V,dI.of c,ZG,U,x,B,q,t,C,F,W,p,s,a,b,n,1,v,G,N,I,J,r o,y o i.1 i.2,r e,y e f.1 (by have:=f.2.1;have:=f.2.2;lia),y e (by have:=f.2.1;have:=f.1;lia) f.2.2,o,e,⟨u,O,f,⟨i,λes g=>?_⟩⟩⟩;rw[jD o]at g;cases g;exact⟨L,λj k l m=>M j k _ R l m⟩
 | win W p s =>
  let⟨o,i,e⟩:=w;exists Y,d,Q,V,dI.of c,sQ;refine⟨Y,1,Y,cJ nofun ⟨Y,1,Y,cJ nofun ⟨Y,1,Y,cJ nofun ⟨Y,1,Y,cJ nofun ⟨Y,1,Y,cJ nofun ⟨Y,1,Y,cJ nofun ⟨Y,1,Y,ja ?_⟩⟩⟩⟩⟩⟩⟩;refine⟨Y,x,S,Y,T,1,Y,d,Q,V,dI.of c,uo,Y,d,Q,V,dI.of c,Av,Y,d,Q,V,dI.of c,Aw,U,x,B,q,t,C,F,W,p,s,n,1,v,G,N,I,J,r o,y o i.1 i.2,r e,o,e,⟨u,O,i,λes g=>?_⟩⟩;rw[jD o]at g;cases g;exact⟨L,λj k l m=>M j k _ R l m⟩
 | fix s =>
  exists Y,d,Q,V,dI.of c,sQ;refine⟨Y,1,Y,cJ nofun ⟨Y,1,Y,cJ nofun ⟨Y,1,Y,cJ nofun ⟨Y,1,Y,cJ nofun ⟨Y,1,Y,cJ nofun ⟨Y,1,Y,cJ nofun ⟨Y,1,Y,cJ nofun ⟨Y,1,Y,ja ?_⟩⟩⟩⟩⟩⟩⟩⟩;refine⟨Y,x,S,Y,T,1,Y,d,Q,V,dI.of c,uo,U,x,B,q,t,C,F,s,n,1,v,G,N,I,J,r w,w,⟨u,O,L,λj k l m=>M j k _ R l m⟩⟩
class inductive Qg
 | mk (l c w:Addr) (W:Yf) (d:gD) (f:gY) (g:cZ) (_:vs=[↥l,↥w]) (_:dX H l c) (_:Wo 100 aU W H w d f g) (_:(∀ a,W a->a≠l/\a≠c)) (_:↑d<=50000) (_ :
 ∀ (r:Addr) (e:Row) (b:Hp),↑e<=2->bP b r e->(∀ p∈e,0<=p.1/\p.1<p.2/\p.2<=↑d/\p.2<=p.1+40)->H r=none->dX b l c->cB l H b->Q ↥r b)
theorem zV:‹(2,94,["b","a"],Qg)›:=λD=>by
 let m:bq c9 bw bZ cW cU cS 1 _ _ ["b","H"] sJ:=gw D;specialize fP ["b","a","J","1","_law_k","u","_law_span"] D.j'.F;let⟨l,i,bw,W,b,x,rq,rfl,S,O,dw,N,ab⟩:=h;let x:=gS hr;exists _,#v[aX 2 (gf D.T.fJ (gF x (pv 1) bC)),aX 3 (bK ah),eZ PassesOwn.never rfl (iL rfl D.T.i9 #[bz GZ (aB D.uS m hr #[0,ay]) (b8 (nu rfl) rfl D.T.E6 PyProof.Rows.boot_min #[ay,2])]) (bV 4) #v[aX 5 (aB D.uS m hr #[0,b8 (lI rfl) rfl D.T.zl PyProof.Rows.boot_max #[ay,2]]),aX 6 (bz dY ay (aB D.uS m hr #[0,b8 (lI rfl) rfl D.T.zl PyProof.Rows.boot_max #[ay,b8 (nu rfl) rfl D.T.E6 PyProof.Rows.boot_min #[aO bH (bK #[ay,ay,ay,ay]) (aB D.uS m hr #[0,ay]),bz dc (pv 2) (pv 5)]]])),aW (eX o7 jW jX b9 (pv 3) #[cT #[5,bz dY (pv 5) (pv 6)]])],aK (pv 3)]
 rfl'
 let⟨m,rw,ps,vl,x⟩:=id O;let⟨as,Du,O⟩:=id x.hi;let la:=Paired.length O;let O:=gX.k (k:=kI) x.hw;rw[show cG (qu m rw ps vl) kI=⇑↥m by kernel_rfl]at O;exists Y,bw,Y,O,m,Y,.inl (bI.of Du);refine⟨iD,λr o=>?_⟩;let w:=ak o (.lst []);let R:(aL H r (.lst [])) r=⇑(.lst []):=af;let s:=S.ne o;let T:=S.same w;generalize aL H r (.lst [])=m at w R T;refine⟨Y,l,i,3,1,T,by decide,by decide,λU m x O S2 X=>?_⟩;rw[show ↑(as.map V.ref)=↑b by rw[cC,la]];refine⟨Y,E,1,Z,.inl ⟨by lia,by lia⟩,?_⟩
 let hm:∃ n:Nat,(U*(if (↑b:Int)<1 then (↑b:Int) else 1))=n/\n<=2/\(0<n->1<=↑b):=by
  split
  ·rename_i z;refine⟨0,?_,by lia,by lia⟩;rw[show (↑b:Int)=0 by lia];exact Int.mul_zero _
  ·exact⟨U.toNat,by rw[Int.mul_one];lia,by lia,λ_=>by lia⟩
 let⟨n,en,m,n1⟩:=hm
 let u:(if (↑b:Int) > 1 then (↑b:Int) else 1)=if 1<=↑b then (↑b:Int) else 1:=by split <;> split <;> lia
 refine⟨n,congrArg (λz=>[V.int z]) en,by lia,by lia,lH (lo:=0) (n:=((n:Nat):Int).toNat) (λm B f=>∃ (C F G:Option V) (d:Row),B=[⇑↥l,⇑↥bw,⇑(.int (↑b:Nat)),⇑↥r,C,F,G]/\bP f r d/\↑d=m/\(∀ p∈d,0<=p.1/\p.1<p.2/\p.2<=↑b/\p.2<=p.1+40)/\dX f l i/\cB l H f) ⟨none,none,none,[],1,⟨[],(X r s.1.symm).trans R,.nil⟩,1,(λp j=>nomatch j),S2,(_gu.aH.keep w).trans (bS X)⟩ ?_ ?_⟩
 ·rintro m B f hj ⟨C,F,G,d,rfl,I,lr,j,v,J⟩;let m:1<=↑b:=n1 ∅;rw[if_pos m]at u;refine⟨Y,Y,E,1,l,i,Y,v,(by rw[u];lia),(by rw[u];lia),λa H4 a0 w m k4=>?_⟩;rw[u]at w;refine⟨Y,CQ,λt u=>?_⟩;let L:=ak u (.lst [.int 4,.int 4,.int 4,.int 40]);let h5:(aL H4 t (.lst [.int 4,.int 4,.int 4,.int 40])) t=⇑(.lst [.int 4,.int 4,.int 4,.int 40]):=af;let nt:=m.ne u;let S5:=m.same L;generalize aL H4 t (.lst [.int 4,.int 4,.int 4,.int 40])=m at L h5 S5;refine⟨Y,l,i,4,1,S5,by decide,by decide,λM u m w S6 k6=>?_⟩;let⟨z,g,ez⟩:=FZ (a:=[V.int 4,.int 4,.int 4,.int 40]) m (by show M<4;omega)
  obtain⟨q,rfl,m,u⟩:∃ q:Int,z=.int q/\4<=q/\q<=40:=by
   rcases List.mem_cons.mp g with y|g
   ·exact⟨4,y,by decide,by decide⟩
   rcases List.mem_cons.mp g with y|g
   ·exact⟨4,y,by decide,by decide⟩
   rcases List.mem_cons.mp g with y|g
   ·exact⟨4,y,by decide,by decide⟩
   ·exact⟨40,List.mem_singleton.mp g,by decide,by decide⟩
  exists t,Q,V,bI.of ((k6 t nt.1.symm).trans h5),ez
  let hX:∃ x:Int,(if (if (↑b:Int)-a<q then (↑b:Int)-a else q) > 1 then (if (↑b:Int)-a<q then (↑b:Int)-a else q) else 1)=x/\1<=x/\x<=↑b-a/\x<=40:=⟨Y,by split <;> split <;> lia,by split <;> split <;> lia,by split <;> split <;> lia⟩
  let⟨b,g,m,M2,q⟩:=hX;refine⟨Y,Y,Z,E,1,E,1,l,i,Y,S6,(by rw[g];lia),(by rw[g];lia),λc b i N u m=>⟨Z,?_⟩⟩;rw[g]at N;let i:cB l f b:=(((bS k4).trans (_gu.aH.keep L)).trans (bS k6)).trans (bS m);let⟨q,t,g⟩:=I;let⟨m,w⟩:=v.lst;let m:=i _ _ t s.1.symm;let x:aY b q d:=g.tups λa z e=>i _ _ e (cP e w);have t:=Paired.length g;refine⟨Y,.inl ⟨1,_,bI.of m⟩,Y,Y,Y,Z,mJ,λp t=>⟨r,Z,ak t _ _ _ m,(by rw[cC];exact aN ∅),?_⟩⟩;have g:=ak t (.tup [.int a,.int (a+(1+c))]);have t:(aL b p (.tup [.int a,.int (a+(1+c))])) p=⇑(.tup [.int a,.int (a+(1+c))]):=af;have ae:=g _ _ m;have S8:=u.same g;have K8:cB l H (aL b p (.tup [.int a,.int (a+(1+c))])):=(J.trans i).trans (_gu.aH.keep g);have b:=aY.snoc (p:=(a,a+(1+c))) (x.same g) t;refine⟨Q,d++[(a,a+(1+c))],1,⟨q++[p],by rw[gI];exact af,b.tups λy z e=>?_⟩,by rw[cR,lr];rfl,λy k=>?_,?_,λy b e n=>?_⟩
  ·exact (aJ (cP e ae)).trans e
  ·rcases List.mem_append.mp k with k|k
   ·exact j y k
   ·rw[List.mem_singleton.mp k];exact⟨a0,by show a<a+(1+c);lia,by show a+(1+c)<=_;lia,by show a+(1+c)<=a+40;lia⟩
  ·let⟨n,a,M,b,c,g,i,k⟩:=S8;exact⟨n,a,M,b,c,(aJ s.1).trans g,(aJ s.2).trans i,k⟩
  ·exact (aJ (az e o)).trans (K8 _ _ e n)
 rintro B f ⟨C,F,G,d,rfl,I,lr,j,v,J⟩;exact⟨Y,ab r d f ∅ I j o v J⟩
class inductive Qh
 | mk (l e:Addr) (s m:Int) (_:vs=[↥l,.int s,.int m]) (_:dX H l e) (_:0<=m) (_:m<=10000) (_:∀ (a b u:Int) (t:Addr) (d:LD) (c:Hp),Mv a b u m->(d=.cut s a b\/d=.Tz s a b u)->d.At c t->dX c l e->cB l H c->Q ↥t c)
theorem zW:‹(2,95,["b","d","_law_room"],Qh)›:=λD=>by
 let c:bq c9 bw bZ cW cU cS 1 _ _ ["b","H"] sJ:=gw D;specialize fP ["b","d","_law_room","u","Q"] D.ka.F;let⟨l,d,s,g,rfl,S,i,j,k⟩:=h;exists _,#v[aX 3 (aB D.uS c hr #[0,bz dY (pv 2) ay]),aX 4 (bz dY (pv 3) (aB D.uS c hr #[0,bz dY (bz dc (pv 2) (pv 3)) ay])),bM (aV eE (aB D.uS c hr #[0,ay]) ay (bh _)) #v[aK (cT #[bC,1,3,4])] bg,aK (cT #[bC,1,3,4,aB D.uS c hr #[0,bz dY (bz dY (bz dc (pv 2) (pv 4)) (pv 3)) ay]])]
 rfl'
 refine⟨Y,Y,Z,l,d,Y,S,by lia,by lia,λa i j o c g=>?_⟩;refine⟨Y,Y,Y,Y,Z,Z,l,d,Y,c,by lia,by lia,λv j o p c i=>⟨Z,?_⟩⟩;refine⟨Y,l,d,2,1,c,by decide,by decide,λz c _ _ e j=>⟨1,Y,?_⟩⟩;let f:cB l H c:=((bS g).trans (bS i)).trans (bS j);refine dN (λ_=>?_) (λ_=>?_)
 ·refine⟨Y,Y,Y,CQ,λt b=>?_⟩;exact k a (a+v) 0 t (.cut s a (a+v)) _ ⟨⟨by omega,by lia,by lia⟩,by lia,by lia⟩ (.inl rfl) af (e.same (ak b _)) (f.trans (_gu.aH.keep (ak b _)))
 ·refine⟨Y,Y,Y,Y,Y,Y,Z,Y,Z,Z,l,d,Y,e,by lia,by lia,λu c d e m n=>⟨Ww,λt b=>?_⟩⟩;exact k a (a+v) u t (.Tz s a (a+v) u) _ ⟨⟨by lia,by lia,by lia⟩,by lia,by lia⟩ (.inr rfl) af (m.same (ak b _)) ((f.trans (bS n)).trans (_gu.aH.keep (ak b _)))
def LD.q0(H:Hp):LD->Prop
 | .put _ _ r _=>H r=none
 | _=>True
class inductive Qi
 | mk (W:Yf) (l e w:Addr) (b:gD) (h:gY) (c:cZ) (g:Y1) (_:vs=[↥l,↥w]) (_:dX H l e) (_:Wo 100 aU W H w b h c) (_:∀ a,W a->a≠l/\a≠e) (_:Gd ↑b c g) (_:1<=↑c) (_:↑b<=10000) (_:∀ (t:Addr) (f:LD) (d:Hp),f.At d t->f.Ok ↑b ↑c g->f.q0 H->dX d l e->cB l H d->Q ↥t d)
theorem Gg:‹(43,96,["b","a"],Qi)›:=λD=>by
 let b:bq c9 bw bZ cW cU cS 1 _ _ ["b","H"] sJ:=gw D;specialize fP ["b","a","e","_law_way","d","_law_other","_law_room","U","u"] D.kb.F;let⟨W,l,i,bw,z,B,f,C,rfl,S,x,F,g,k,q,v⟩:=h;let k:=gS hr;exists _,#v[aX 2 (gF k (pv 1) bC),aX 3 (aB D.uS b hr #[0,ay]),aX 4 (aB D.uS b hr #[0,gf D.T.fJ (pv 2)]),aX 5 (aB D.uS b hr #[0,gf D.T.fJ (pv 2)]),aX 6 (gf D.T.fJ (aB D.Fc (iJ D 41) hr #[2,4])),aX 7 (aB D.uS b hr #[0,bz dY (pv 6) ay]),bM (aV kM (pv 3) ay (bh _)) #v[aK (cT #[bC,4,7,aB D.j' (zV D) hr #[0,1]])] bg,bM (aV kM (pv 3) ay (bh _)) #v[aK (aB D.ka (zW D) hr #[0,4,6])] bg,bM (aV kM (pv 3) ay (bh _)) #v[aX 6 (gf D.T.fJ (aB D.Fc (iJ D 41) hr #[2,5])),aX 8 (aB D.uS b hr #[0,bz dY (pv 6) ay]),aK (cT #[bC,4,7,5,8,bz dY (pv 8) (aB D.uS b hr #[0,bz dY (bz dc (pv 6) (pv 8)) ay])])] bg,bM (aV kM (pv 3) ay (bh _)) #v[aK (cT #[bC,4,7,5])] bg,aK (cT #[bC,4])]
 rfl'
 let⟨b,j,k,T,q⟩:=id x;let M:=gX.k (k:=kR) q.hw;rw[show cG (qu b j k T) kR=⇑↥j by kernel_rfl]at M;let b:=g.ln;let⟨rk,N,O⟩:=id g.sn.rk;let⟨T,U⟩:=S.lst;obtain⟨k,x⟩:∃ k,Wo 100 k W H bw z B f:=⟨_,x⟩;let kp:∀ {b:Hp},cB l H b->iA (λ_=>False) b j f/\Wo 100 k W b bw z B f:=λ{b} k=>⟨(q.hr.fr (λ_ a=>a) λc q e a _ _=>k _ _ e (F c a).1).at_,x.fr (λc X e a=>k _ _ e (F c a).1) λc q e=>k _ _ e (cP e U)⟩
 let x:∀ {b:Hp},cB l H b->∃ q,b j=⇑(.lst q)/\↑q=↑f:=λ{b} k=>by
  let⟨q,e,a⟩:=(kp k).1;exact⟨q,e,a.len⟩
 exists Y,bw,Y,M;refine⟨Y,l,i,13,1,S,by decide,by decide,λS b U y1 q M=>?_⟩;let k:cB l H b:=bS M;let⟨M,b,S⟩:=x k;refine⟨Y,Y,j,Y,.inl (bI.of b),l,i,Y,q,by lia,by lia,λs q M b S U=>?_⟩;let b:cB l H q:=k.trans (bS U);let⟨q,k,U⟩:=x b;refine⟨Y,Y,j,Y,.inl (bI.of k),l,i,Y,S,by lia,by lia,λo q x k S U=>?_⟩;let k:cB l H q:=b.trans (bS U);let d:qj ↑f s:=⟨M,by lia⟩;let r:qj ↑f o:=⟨x,by lia⟩;let T:=g.sl s d.1 d.2;let lo:=g.sl o r.1 r.2;refine⟨Y,Y,_,j,f,s,C,rk,1,(kp k).1,by lia,g.sn.sd,d.1,d.2,g.sn.ss,g.sn.ln,O,by have:=N s;lia,λx M b q T=>⟨x,Y,.inl (bI.of b),?_⟩⟩;rw[cC];let x:cB l H M:=k.trans (_gu.aH.keep q);refine⟨Y,Y,Z,l,i,Y,S.same q,by lia,by lia,λp k q S u M=>?_⟩;let m:cB l H k:=x.trans (bS M);let G:0<=p/\p<=↑(C s):=⟨q,by lia⟩;refine⟨Y,Z,Y,dN (λ_=>?_) (λ_=>?_)⟩
 ·refine⟨Y,Y,Y,Y,l,i,bw,W,z,B,f,1,u,(kp m).2,F,by lia,λw k I q x b y J L=>⟨CQ,λt n=>?_⟩⟩;let a:=ak n (.tup [.str "put",.int s,.int p,↥w]);refine v t (.put s p w k) _ ⟨af,x.same a⟩ ⟨d,G,q,b⟩ ?_ (J.same a) ((m.trans L).trans (_gu.aH.keep a));show H w=none
  cases e:H w with
  | none=>rfl
  | some X =>
   exfalso;by_cases R:w=l
   ·let⟨_,b⟩:=u.lst;rw[R,b]at y;cases y
   ·rw[m _ _ e R]at y;cases y
 refine⟨Y,Z,Y,dN (λ_=>?_) (λ_=>?_)⟩
 ·refine⟨Y,Y,Y,l,i,s,Y,u,by lia,by lia,λc k q t b I a n e J L=>v t b I e ?_ ?_ J (m.trans L)⟩
  ·rcases n with rfl|rfl
   ·exact⟨d,a.1⟩
   ·exact⟨d,a⟩
  ·rcases n with rfl|rfl <;> trivial
 refine⟨Y,Z,Y,dN (λ_=>?_) (λ_=>?_)⟩
 ·refine⟨Y,Y,_,j,f,o,C,rk,1,(kp m).1,by lia,g.sn.sd,r.1,r.2,g.sn.ss,g.sn.ln,O,by have:=N o;lia,λe I f b g=>⟨e,Y,.inl (bI.of f),?_⟩⟩;rw[cC];refine⟨Y,Y,Z,l,i,Y,u.same b,by lia,by lia,λc g j k e f=>?_⟩;refine⟨Y,Y,Y,Y,Y,Y,Y,Y,Z,Z,l,i,Y,e,by lia,by lia,λe j k l g i=>⟨Z,ZF,λt n=>?_⟩⟩;let a:=ak n (.tup [.str "quote",.int s,.int p,.int o,.int c,.int (c+e)]);exact v t (.Va s p o c (c+e)) _ af ⟨d,G,r,by lia,by lia,by lia⟩ trivial (g.same a) ((((m.trans (_gu.aH.keep b)).trans (bS f)).trans (bS i)).trans (_gu.aH.keep a))
 refine⟨Y,Z,Y,dN (λ_=>?_) (λ_=>?_)⟩
 ·refine⟨Y,Y,Y,CQ,λt n=>?_⟩;let a:=ak n (.tup [.str "window",.int s,.int p,.int o]);exact v t (.win s p o) _ af ⟨d,G,r⟩ trivial (u.same a) (m.trans (_gu.aH.keep a))
 ·refine⟨Y,mJ,λt n=>?_⟩;let a:=ak n (.tup [.str "fix",.int s]);exact v t (.fix s) _ af d trivial (u.same a) (m.trans (_gu.aH.keep a))
def LD.At.tup{H:Hp}{t:Addr}{a:LD}(h:a.At H t):∃ b,H t=⇑(.tup b)/\nM b 1=⇑(.int a.sh):=by
 cases a with
 | put=>exact⟨_,h.1,1⟩
 | _=>exact⟨_,h,1⟩
def LD.At.kept{H c:Hp}{t:Addr}{b:LD}(h:b.At H t)(d:∀ e a,H e=⇑(.tup a)->c e=⇑(.tup a))(g:∀ s p r f,b=.put s p r f->∀ a,H r=⇑(.lst a)->c r=⇑(.lst a)):b.At c t:=by
 cases b with
 | put s p r f =>
  let⟨i,j,k,l⟩:=h;exact⟨d _ _ i,j,g _ _ _ _ rfl _ k,l.tups d⟩
 | _=>exact d _ _ h
def Off(l:Addr)(U W c d:Yf)(H e:Hp):Prop:=∀ a b,H a=⇑b->¬ U a->¬ W a->a≠l->e a=⇑b/\¬ c a/\¬ d a
class inductive Gh(C CS CW CB:Addr)
 | mk (l h w x:Addr) (U W:Yf) (a:gY) (b:cZ) (f:iK) (c:gD) (i:Nat) (j:Row) (_:vs=[↥l,↥w,↥x]) (_:qv C CS CW CB H l h w x U W a b a b f c i j) (_:1<=↑b) (_:↑a<=800) (_:↑f<=800) (_:↑c<=10000) (_:Good ↑c b) (_:∀ (k m:Yf) (d:gY) (e:cZ) (n:iK) (g:Hp),qv C CS CW CB g l h w x k m d e d e n c i j->↑e=↑b->↑a<=d.length/\d.length<=↑a+1->↑n<=↑f+1->Good ↑c e->(∀ y∈d,y∈a\/y=e)->Off l U W k m H g->Q (.bl true) g)
def Gi(D:bW)(ID:bq c9 bw bZ cW cU cS 43 (eK 96) (eL 96) ["b","a"] Qi)(Gj:bq c9 bw bZ cW cU cS 45 (eK 91) (eL 91) ["a","o"] Kz)(IE:bq c9 bw bZ cW cU cS 43 (eK 90) (eL 90) ["e","d"] Qc)(IF:bq c9 bw bZ cW cU cS 7 (eK 93) (eL 93) ["i","o"] (Qf fK cO dH fG)):bq c9 bw bZ cW cU cS 46 (eK 97) (eL 97) ["b","a","i"] (Gh fK cO dH fG):=by
 specialize fP ["b","a","i","o","e"] D.kc.F;let⟨aq,ar,bw,av,ab,W,j,b,aA,f,o,aU,rfl,St,r1,b1,b2,b3,gd,ae⟩:=h;let hu:=gS hr;exists _,#v[aX 3 (aB D.kb ID hr #[0,1]),aX 4 (aB D.WX (wU D) hr #[gF hu (pv 1) bC,aO bf (pv 3) ay,aB D.j3 Gj hr #[1,3]]),bM (jJ (lT (aB D.j2 IE hr #[4,aO bf (pv 3) ay]))) #v[aK nj] bg,aW (aB D.OR (mX D) hr #[1,4]),aK (Na (GS (aB D.j9 IF hr #[2,3])))]
 rfl'
 let⟨d,g⟩:=gd.U9;let a0:=g.ln;refine⟨Y,Y,W,aq,ar,bw,f,j,b,d,1,St.src,St.wo,St.dw,g,r1,by omega,λt a H1 k p nw S1 v=>?_⟩;let l:=St.mv v S1;let⟨w,m,x,B,C⟩:=id l.wo;let zr:=gX.k (k:=kR) C.hw;rw[show cG (qu w m x B) kR=⇑↥m by kernel_rfl]at zr;let⟨_,_,_,xs,ag,al⟩:=id C.hr;let lv:=cI.len al;let⟨tv,ht,ai⟩:=k.tup;let is:=LD.XM p;let am:=is.1;let aq:=is.2;let ss:((a.sh.toNat:Nat):Int)=a.sh:=by lia
 refine⟨Y,bw,Y,zr,Y,t,Q,V,dI.of ht,ai,Y,Y,W,bw,t,f,j,b,↑f,d,a,1,l.wo,k,g,p,by lia,λF H2 ho lo G I=>?_⟩;refine⟨m,F,a.sh.toNat,xs,by rw[ss];rfl,G _ _ ag,by lia,by lia,λq H3 hq J fq=>?_⟩;let L:=G.trans J;let M:=aP G fq;let G:=LD.XN g p;let an:=P7 (s:=a.sh.toNat) g.en G;let G:iA (λ_=>False) H3 q (b.set a.sh.toNat (a.res d b)):=⟨_,hq,cI.set _ (al.mono λi c ⟨r,e,Q,N⟩=>⟨r,e,λz=>z,L _ _ N⟩) ⟨F,1,λz=>z,J _ _ ho⟩⟩;let aw:↑(b.set a.sh.toNat (a.res d b))=↑b:=List.length_set
 refine⟨Y,Y,t,Q,V,dI.of (L _ _ ht),ai,_,q,_,a.sh,1,G,by lia,(λc e=>by
  rcases List.mem_or_eq_of_mem_set e with z|z
  ·have:=g.es c z;lia
  ·rw[z];exact lo),DB an,am,by lia,P5 am g.sn.rk,λr H4 O N=>⟨r,1,?_⟩⟩
 let i:=L.trans O;let TL:=l.same i
 cases r with
 | false=>exact iX (ae ab W j b aA H4 TL rfl ⟨by lia,by lia⟩ ∅ gd (λ_ z=>.inl z) λc ob e u R S=>⟨i _ _ (v _ _ e S),u,R⟩)
 | true =>
  refine gx ?_;let⟨R5,f5,w5,m5⟩:=N rfl;let ao:Good ↑f (b.set a.sh.toNat (a.res d b)):=⟨an,R5,by lia,f5,w5,m5⟩;let r:MA 100 aU W H4 bw w m x B f j b:=C.fr (λc ob e _=>i _ _ e) λc xs e=>i _ _ e;have T:=l.new M;have U:=l.new I;let⟨l,rv⟩:=Wo.swap r (i _ _ ag) (O _ _ hq) (O _ _ (J _ _ ho)) T.2.1 U.2.1;refine⟨Y,Y,_,bw,q,f,j,b,b.set a.sh.toNat (a.res d b),1,⟨w,m,x,B,l⟩,by lia,λl m ⟨w,x,X⟩=>?_,λH5 ax QV ap _=>?_⟩
  ·rw[r.hw]at X;simp only[Option.some.injEq,HO.dK.injEq,qu,List.cons.injEq,Prod.mk.injEq,V.ref.injEq,true_and,and_true]at X;let⟨rfl,rfl,rfl,rfl⟩:=X;exact rv
  let MF:=TL.kept ax (λc z y=>by
   rcases y with y|y|y
   ·exact (St.du c z).1 y
   ·exact U.1 (by rw[← y];exact z)
   ·exact T.1 (by rw[← y];exact z)) (λc y=>by
   rcases y with y|y|y
   ·exact St.dw c y
   ·rw[y];exact U.2.2
   ·rw[y];exact T.2.2) QV ap
  let aM:a.At H5 t:=(k.same i).kept ap λs w r x l B m=>by
   rw[l]at nw k;let u:=St.new (show H r=none from nw);let⟨_,l,n,_⟩:=k;refine QV _ _ m λy=>?_;rcases y with y|y|y
   ·exact u.2.1 y
   ·rw[y,I]at n;cases n
   ·rw[y,M]at n;cases n
  refine⟨Y,Y,ab,av,t,j,aA,f,o,aU,b,d,a,1,MF.PX,MF.lst,by lia,by lia,b3,aM,g,p,by rw[F0 _ ∅];exact ao.bears,λU' H6 dQ g f JT=>?_⟩;let⟨zY,_⟩:=MF.k0 f (j:=iR b a.sh.toNat (a.res d b)) (by simp) JT;rw[F0 _ ∅]at zY;show Q (.bl (decide (V.gi=V.gi))) H6;rw[decide_eq_true rfl]
  exact ae U' _ _ _ dQ H6 zY aw (by rw[cR];exact⟨Nat.le_add_right ..,d7 _⟩) ∅ ao (λ_ z=>(List.mem_append.mp z).imp id List.mem_singleton.mp) λc ob e u R S=>by
   let n:=v _ _ e S
   let o:¬ (W c\/c=F\/c=q):=λy=>by
    rcases y with y|y|y
    ·exact R y
    ·rw[y,I]at n;cases n
    ·rw[y,M]at n;cases n
   let a:=QV _ _ (i _ _ n) o;exact⟨JT.2.1 _ _ a u,(λy=>(JT.1 c y).elim u (λz=>by rw[a]at z;cases z)),o⟩
def TM{f b:Hp}{t:Addr}{h:Int}{g:List Nat}{i d:Nat}{c:UV}(l:f a=none)(m:g[i]?=⇑d)(k:b a=⇑(.lst (c.map V.ref)))(n:Paired (FY b) c (mW h (g.take i)))(o:aH f b)(j:b t=none):(aL (aL b t (.tup [.int h,BK d])) a (.lst (c.map V.ref++[↥t]))) a=⇑(.lst ((c++[t]).map V.ref))/\Paired (FY (aL (aL b t (.tup [.int h,BK d])) a (.lst (c.map V.ref++[↥t])))) (c++[t]) (mW h (g.take (i+1)))/\aH f (aL (aL b t (.tup [.int h,BK d])) a (.lst (c.map V.ref++[↥t]))):=by
 refine⟨?_,?_,λp q e=>?_⟩
 ·rw[af,gI];rfl
 ·let p:t≠a:=(az k j).symm;rw[take_snoc m];unfold mW;rw[gI];refine Dq (Paired.Co n λq r e=>?_) ?_
  ·show aL _ a _ q=_;rw[aJ (cP e k)];exact ak j _ _ _ e
  ·show aL _ a _ t=_;rw[aJ p];exact af
 ·rw[aJ (az e l)];exact ak j _ _ _ (o _ _ e)
class inductive Cm(C CS CW CB:Addr)
 | mk (l i w x:Addr) (U W:Yf) (b:gY) (a:cZ) (c:gY) (d:cZ) (e:iK) (f:gD) (g:Nat) (j:Row) (_:vs=[↥l,↥w,↥x]) (_:qv C CS CW CB H l i w x U W b a c d e f g j) (_:↑b<=800) (_:↑c<=800) (_:↑a<=50) (_:↑e<=800) (_:↑f<=50000) (_:g<=800) (_ :
 ∀ (k:Yf) (h:Hp) (m:Int) (n:List Nat) (o:iK),jQ m->↑n<=60->↑o=↑e+1->qv C CS CW CB h l i w x k W (b++[a]) a (c++[d]) d o (f++mW m n) (g+1) j->GP l U W k W H h->Q (.bl true) h)
def q1:TS:=λD a H=>∃ (l c:Addr) (d e f g h:Option V) (i:Int),a=[⇑↥l,d,e,f,g,⇑(.int i),h]/\dX H l c/\jQ i/\∀ (j:Int) (a:Hp),jQ j->dX a l c->(∀ b,b≠l->a b=H b)->D.nx [⇑↥l,d,e,f,g,⇑(.int j),h] a
theorem wV:‹(5,98,["b","a","i"],(Cm fK cO dH fG))›:=λD=>by
 let J:bq c9 bw bZ cW cU cS 1 _ _ ["b","H"] sJ:=gw D;specialize fP ["b","a","i","J","_law_text_here","D","u"] D.Xa.F;let⟨l,g,bw,am,ax,W,pe,aM,pq,U,aA,L,nW,aU,rfl,St,b1,a6,b2,b3,b4,b5,X⟩:=h;let hu:=gS hr;refine⟨_,#v[aX 3 (aO bH (bK #[ay,ay,ay,ay,ay]) (aB D.uS J hr #[0,ay])),aX 4 (aB D.js (FW D) hr #[0,aB D.uS J hr #[0,bz dY (pv 3) ay]]),aX 5 (aB D.uS J hr #[0,ay]),yM (c:=q1) (bM (aV eE (aB D.uS J hr #[0,ay]) ay (bh _)) #v[aX 5 (aB D.uS J hr #[0,bz Ni ay ay])] bg) ?b3,aX 6 (gf D.T.fJ (gF hu (pv 1) bC)),aW (eX o7 PySem.F.slot_list_extend PySem.F.type_list_extend jL (gF hu (pv 1) bC) #[iz (N:=["_law_sign_here","D"]) (kg (c:=cy sF) (f:=["b","a","i","J","_law_text_here","D","u"]) (d:=[none,some 5]) rfl rfl rfl nofun nofun rfl nofun rfl nofun) rfl (Wv (pv 4)) (λ_ _ _ _ _ _=>(bV 0)) (λ_ _ _ _ _ _=>gK) (λ_ _ _ _ _ _=>(cT #[1,0]))]),aW (aB D.OR (mX D) hr #[1,gF hu (pv 1) bC]),aK (aB D.ZY (mU D 2) hr #[dG (pv 2) D.aQ D.WW (xy D) hr bO #[5,4],cT #[6,bz dY (pv 6) (b8 tP rfl D.T.fJ PySem.boot_len #[4])]])],?_⟩
 rfl'
 case b3 =>
  rintro D σ H ⟨l,g,s1,b,i,j,k,h,rfl,S,fh,X⟩;refine⟨Y,l,g,4,1,S,by decide,by decide,λan H1 i j b c=>⟨1,Y,dN (λ_=>?_) (λ_=>X h H1 fh b c)⟩⟩;refine⟨Y,Z,⟨by decide,by decide,by decide⟩,l,g,Y,b,by decide,by decide,λe H2 f d S2 M=>?_⟩;rw[show (10:Int)^(59:Int).toNat=10^59 from rfl]at d;exact X e H2 ⟨f,Int.lt_trans d (by decide)⟩ S2 λy a=>(M y a).trans (c y a)
 refine⟨Ww,λC N=>?_⟩;let s1:=ak N (.lst [.int 1,.int 3,.int 5,.int 8,.int 60]);let h1:(aL H C (.lst [.int 1,.int 3,.int 5,.int 8,.int 60])) C=⇑(.lst [.int 1,.int 3,.int 5,.int 8,.int 60]):=af;let nt:=St.src.ne N;generalize aL H C (.lst [.int 1,.int 3,.int 5,.int 8,.int 60])=H1 at s1 h1;let J:=St.same s1;refine⟨Y,l,g,5,1,J.src,by decide,by decide,λi H2 i0 i1 S2 M=>?_⟩;let Gk:=J.mv (bS M) S2;let⟨z,hz,ez⟩:=FZ (a:=[V.int 1,.int 3,.int 5,.int 8,.int 60]) i0 (by show i<5;omega)
 obtain⟨tn,rfl,MZ,Yo⟩:∃ p:Int,z=.int p/\0<=p/\p<=60:=by
  let b:∀ y∈[V.int 1,.int 3,.int 5,.int 8,.int 60],∃ p:Int,y=.int p/\0<=p/\p<=60:=by
   intro y a;rcases List.mem_cons.mp a with q|a
   ·exact⟨(1),q,by decide,by decide⟩
   rcases List.mem_cons.mp a with q|a
   ·exact⟨3,q,by decide,by decide⟩
   rcases List.mem_cons.mp a with q|a
   ·exact⟨5,q,by decide,by decide⟩
   rcases List.mem_cons.mp a with q|a
   ·exact⟨8,q,by decide,by decide⟩
   ·exact⟨60,List.mem_singleton.mp a,by decide,by decide⟩
  exact b z hz
 exists C,Q,V,bI.of ((M C nt.1.symm).trans h1),ez;refine⟨Y,Y,Y,Z,l,g,Y,S2,by lia,by lia,λJ H3 m0 m1 S3 k3=>?_⟩;let Vc:=Gk.mv (bS k3) S3;refine⟨l,g,J.toNat,by rw[show ((J.toNat:Nat):Int)=J by lia];rfl,S3,by lia,λt H4 Qz J K4=>?_⟩;let TL:=Vc.mv K4 J;refine⟨Y,l,g,3,1,J,by decide,by decide,λh0 H5 p0 p1 J k5=>?_⟩;let MF:=TL.mv (bS k5) J;refine⟨l,g,Q,E,h0,1,J,⟨p0,by lia⟩,λh H6 fh S6 J=>?_⟩;let f:=MF.mv (bS J) S6;let ao:cB l H H6:=((((((_gu.aH.keep s1).trans (bS M)).trans (bS k3)).trans K4).trans (bS k5)).trans (bS J));let⟨c,rw,G,O,b⟩:=id f.wo;let⟨F,R,pa⟩:=id b.hi;let la:=Paired.length pa;let J:=gX.k (k:=kI) b.hw;rw[show cG (qu c rw G O) kI=⇑↥c by kernel_rfl]at J;exists Y,bw,Y,J,c,Y,.inl (bI.of R);refine⟨Y,bw,Y,J,.inl ⟨1,_,bI.of R⟩,Y,t,1,λap cN=>LM (λp σ r=>∃ (ab:Option V) (s:UV),σ=[ab,⇑(.int h)]/\r ap=⇑(.lst (s.map V.ref))/\Paired (FY r) s (mW h (t.take p))/\aH H6 r) ⟨none,[],1,af,.nil,ak cN _⟩ ?_ ?_⟩
 ·rintro p d σ r a ⟨ab,s,rfl,ha,I,s7⟩;let lb:=Paired.length I;rw[lF,gO]at lb;refine⟨Y,Y,mJ,λC N=>⟨_,ak N _ _ _ ha,(by rw[cC];exact aN ∅),_,s++[C],1,TM cN a ha I s7 N⟩⟩
 rintro σ r ⟨ab,s,rfl,ha,I,s7⟩;rw[gP]at I;let lb:=Paired.length I;rw[lF]at lb;let aq:=s7 _ _ R;refine⟨c,ap,Z,aq,ha,(by rw[cC,cC];exact eO (aN ∅)),?_⟩;rw[← gI];let k8:cB c r (aL r c (.lst ((F++s).map V.ref))):=aG c _ _;let i8:(aL r c (.lst ((F++s).map V.ref))) c=⇑(.lst ((F++s).map V.ref)):=af;generalize aL r c (.lst ((F++s).map V.ref))=p at k8 i8;let k:∀ a d,H6 a=⇑d->a≠c->p a=⇑d:=λa d e n=>k8 _ _ (s7 _ _ e) n;have ag:∀ a j,H6 a=⇑(.tup j)->p a=⇑(.tup j):=λa j e=>k _ _ e (cP e R);have C:∀ a j,r a=⇑(.tup j)->p a=⇑(.tup j):=λa j e=>k8 _ _ e (cP e aq);have r:p bw=⇑(.dK (qu c rw G O)):=k _ _ b.hw (cP b.hw R);have ar:M0 W c G p rw U:=b.hr.fr (λ_ z=>z) λa j e _ n _=>k _ _ e n
 let J:MA 100 aU W p bw c rw G O (L++mW h t) pq U:=by
  let⟨o,u,v⟩:=b.hp;refine⟨b.ww,b.wi,b.wp,b.wv,λa z=>?_,r,⟨F++s,i8,AI (Paired.Co pa λa q e=>ag _ _ e) (Paired.Co I λa q e=>C _ _ e)⟩,ar,⟨o,k _ _ u b.ne.symm,v.mono λan o ⟨a,e,q⟩=>⟨a,e,q.fr (λ_ y=>y) λa j e _ n _=>k _ _ e n⟩⟩,b.ne,b.lst,b.hv.imp λ_ z=>⟨k _ _ z.1 b.nv.1,z.2⟩,b.nv⟩;by_cases e:a=c
  ·rw[e];exact⟨_,i8⟩
  ·let⟨d,m⟩:=b.al a z;exact⟨d,k _ _ m e⟩
 let a0:=f.PX.fr (λa d e z=>k _ _ e (λq=>(f.du a z).1 (by rw[q];exact b.wi))) ag
 let a1:dX p l g:=by
  let⟨n,u,i,v,w,o,m,y⟩:=S6;exact⟨n,u,i,v,w,k _ _ o (λq=>(f.dw c b.wi).1 q.symm),k _ _ m (λq=>(f.dw c b.wi).2 q.symm),y⟩
 let p:=gX.k (k:=kR) r;rw[show cG (qu c rw G O) kR=⇑↥rw by kernel_rfl]at p;refine⟨Y,Y,bw,Y,p,W,bw,rw,L++mW h t,pq,U,U,1,⟨c,rw,G,O,J⟩,by lia,λc p ⟨s,C,e⟩=>?_,λH9 ai ae av _=>?_⟩
 ·rw[r]at e;simp only[Option.some.injEq,HO.dK.injEq,qu,List.cons.injEq,Prod.mk.injEq,V.ref.injEq,true_and,and_true]at e;let⟨rfl,rfl,rfl,rfl⟩:=e;exact ar
 let aw:=a0.fr (λa d e z=>ae _ _ e (f.du a z).1) av
 let TN:dX H9 l g:=by
  let⟨n,u,i,v,w,o,m,y⟩:=a1;exact⟨n,u,i,v,w,ae _ _ o (λq=>(f.dw l q).1 rfl),ae _ _ m (λq=>(f.dw g q).2 rfl),y⟩
 let⟨r,s,c,C,G,I,J,M,N,O,R,U,ap,aq,ar,a0,a1,a6,FP,p⟩:=id aw;refine⟨Y,am,c,Y,p.L.hx,1,Y,Y,ax,am,pe,aA,L,nW,aU,h,t,aM,1,aw,fh,by lia,by lia,by lia,f.lst,b2,by lia,by lia,λU' q MR a2 x c=>?_⟩;refine⟨Y,Y,Y,gc t,1,(by rw[nZ];exact eO (aN ∅)),Z,mJ,λp HD=>?_⟩;refine⟨E,1,.inr ⟨false,q,p,Z,ak HD _ _ _ c,af,1,λi ab an S T=>?_⟩,λZv a3=>?_⟩
 ·match i,S,T with
  | 0,S,T =>
   cases S;cases T;rw[show ↑(F.map V.ref)=↑L by rw[cC,la]];exact Eqv.int _
  | 1,S,T =>
   cases S;cases T;rw[show (↑(L++mW h t):Int)=(↑(F.map V.ref):Int)+(↑(gc t):Int) by rw[cC,la,nZ,cR,lF];lia];exact Eqv.int _
 let B:aH MR Zv:=λa d e=>a3 _ _ (ak HD _ _ _ e);have Xw:∀ a d,H a=⇑d->a≠l->¬ W a->H9 a=⇑d:=λa d e n z=>ae _ _ (k _ _ (ao _ _ e n) (λq=>z (by rw[q];exact b.wi))) z
 let a4:∀ a,H9 a=none->H a=none:=by
  intro a e
  cases y:H a with
  | none=>rfl
  | some d =>
   exfalso;by_cases n:a=l
   ·let⟨_,u,i,v,w,o,_⟩:=TN;rw[n,o]at e;cases e
   by_cases z:W a
   ·let⟨d,m⟩:=ai.al z;rw[m]at e;cases e
   rw[Xw _ _ y n z]at e;cases e
 let a5:dX Zv l g:=by
  let⟨n,u,i,v,w,o,m,y⟩:=TN;exact⟨n,u,i,v,w,B _ _ (x.2.1 _ _ o (λq=>(f.du l q).2.1 rfl)),B _ _ (x.2.1 _ _ m (λq=>(f.du g q).2.2 rfl)),y⟩
 refine X U' Zv h t _ fh ∅ (by rw[cR];rfl) ⟨a5,a2.fr (λa d e _=>B _ _ e) (λa j e=>B _ _ e),(by simp),ai.fr (λa d e z=>B _ _ (x.2.1 _ _ e (λy=>(f.du a y).1 z))) (λa j e=>B _ _ (x.2.2 _ _ e)),λa z=>?_,f.dw⟩ ⟨λa z=>z.elim (λz=>(x.1 a z).elim .inl λy=>.inr (.inr (a4 a y))) (λz=>.inr (.inl z)),λa d e n y z=>B _ _ (x.2.1 _ _ (Xw _ _ e n z) y),λa j e=>?_⟩
 ·rcases x.1 a z with y|y
  ·exact f.du a y
  ·refine⟨λz=>?_,λq=>?_,λq=>?_⟩
   ·let⟨d,m⟩:=ai.al z;rw[m]at y;cases y
   ·let⟨_,u,i,v,w,o,_⟩:=TN;rw[q,o]at y;cases y
   ·let⟨_,u,i,v,w,_,o,_⟩:=TN;rw[q,o]at y;cases y
 ·let⟨b,a⟩:=St.src.lst;exact B _ _ (x.2.2 _ _ (av _ _ (ag _ _ (ao _ _ e (cP e a)))))
class inductive IG(C CS CW CB:Addr)
 | mk (l h w x:Addr) (U W:Yf) (c:gY) (a:cZ) (d:gY) (b:cZ) (e:iK) (i:gD) (j:Nat) (k:Row) (_:vs=[↥w,↥x]) (_:qv C CS CW CB H l h w x U W c a d b e i j k) (_:↑c<=800) (_:↑d<=800) (_:↑a<40) (_:↑b=↑a) (_:↑e<=800) (_:(∃ f,mH (a++[[]]) f)) (_ :
 ∀ (m n:Yf) (g:Hp) (o:iK),↑o=↑e+1->qv C CS CW CB g l h w x m n (c++[a++[[]]]) (a++[[]]) (d++[b++[[]]]) (b++[[]]) o i j k->GP l U W m n H g->Q (.bl true) g)
theorem DE:‹(8,99,["a","i"],(IG fK cO dH fG))›:=λD=>by
 specialize fP ["a","i"] D.kf.F;let⟨w,x,bw,ab,ae,W,pe,an,I,B,aA,J,nW,aU,rfl,St,b1,a2,b2,a3,b3,ao,ap⟩:=h;let hu:=gS hr;exists _,#v[aW (aB D.OR (mX D) hr #[0,bz jf (gF hu (pv 0) bC) (bK #[bK ah])]),aK (aB D.ZY (mU D 1) hr #[gC (pv 1) D.aQ D.WU (vP D) hr bO,bz dc (gf D.T.fJ (gF hu (pv 0) bC)) ay])]
 rfl'
 let⟨C,rw,F,G,l⟩:=id St.wo;let zr:=gX.k (k:=kR) l.hw;rw[show cG (qu C rw F G) kR=⇑↥rw by kernel_rfl]at zr;exists Y,Y,bw,Y,zr;let⟨a2,n1,n2,vs,aq,al⟩:=id l.hr;let lv:=cI.len al;refine⟨iD,λe i=>⟨mq,λo ho=>?_⟩⟩;let s1:=ak i (.lst []);let d:(aL H e (.lst [])) e=⇑(.lst []):=af;generalize aL H e (.lst [])=L at s1 d ho;let M:=ak ho (.lst [↥e]);let o2:(aL L o (.lst [↥e])) o=⇑(.lst [↥e]):=af;show Y9 _ _ (aL L o (.lst [↥e])) _;generalize aL L o (.lst [↥e])=H2 at M o2;let N:=s1.trans M;refine⟨rw,o,Z,N _ _ aq,o2,(by rw[lv];exact eO (aN (by simp only[jH,oV];lia))),λr Kg=>?_⟩;let O:=ak Kg (.lst (vs++[↥e]));let R:(aL H2 r (.lst (vs++[↥e]))) r=⇑(.lst (vs++[↥e])):=af;generalize aL H2 r (.lst (vs++[↥e]))=o at O R;let m:=N.trans O;let p:=aP N Kg;let⟨L,Du,_⟩:=id l.hi;let⟨L,M4,_⟩:=id l.hp;let e3:=O _ _ (M _ _ d);let S:MA 100 aU W o bw C rw F G J I B:=l.fr (λa b e _=>m _ _ e) (λa j e=>m _ _ e)
 let Ys:MA 100 aU (λa=>W a\/a=e\/a=r) o bw C rw F G J I B:=qv.U6 S (λa z=>.inl z) (by
  rintro a (z|z|z)
  ·exact S.al a z
  ·rw[z];exact⟨_,e3⟩
  ·rw[z];exact⟨_,R⟩)
 let ag:∀ a b,H a=⇑b->¬ W a->¬ (W a\/a=e\/a=r):=by
  rintro a b c n (z|z|z)
  ·exact n z
  ·rw[z,i]at c;cases c
  ·rw[z,p]at c;cases c
 refine⟨λa=>W a\/a=e\/a=r,bw,r,J,I,B,B++[[]],1,⟨C,rw,F,G,Ys⟩,by lia,λl o ⟨B,C,T⟩=>?_,λs U ar av _=>?_⟩
 ·rw[S.hw]at T;simp only[Option.some.injEq,HO.dK.injEq,qu,List.cons.injEq,Prod.mk.injEq,V.ref.injEq,true_and,and_true]at T;let⟨rfl,rfl,rfl,rfl⟩:=T;exact⟨.inr (.inr rfl),(az Du p).symm,(az M4 p).symm,_,R,cI.snoc (al.mono λ_ _=>U0.fr (λa z=>.inl z) (λa j e _ _ _=>m _ _ e)) ⟨e,1,.inr (.inl rfl),(az Du i).symm,(az M4 i).symm,e3⟩⟩
 let t:∀ a b,H a=⇑b->¬ W a->s a=⇑b:=λa b e n=>ar _ _ (m _ _ e) (ag _ _ e n);have ai:∀ a j,H a=⇑(.tup j)->s a=⇑(.tup j):=λa j e=>av _ _ (m _ _ e);have aw:=St.PX.fr (λa b e z=>t _ _ e (St.du a z).1) ai
 let X:dX s w x:=by
  let⟨n,c,u,v,r,d,g,h3⟩:=St.src;exact⟨n,c,u,v,r,t _ _ d (λq=>(St.dw w q).1 rfl),t _ _ g (λq=>(St.dw x q).2 rfl),h3⟩
 let uw:∀ a,ae a->¬ (W a\/a=e\/a=r):=λa z=>by
  let⟨b,c⟩:=St.PX.al z;exact ag _ _ c (St.du a z).1
 let⟨o,R,m,B,C,F,G,I,J,L,M,N,S,T,ag,aq,ar,av,O,l⟩:=id aw;refine⟨Y,ab,m,Y,l.L.hx,1,o,ab,m,B,C,F,G,I,J,L,M,N,pe,O,aA,an,1,l.L,St.lst,by lia,by lia,by lia,by omega,⟨ao,λB C m o=>?_⟩⟩;let⟨U',ax,f⟩:=l.uL m o;let am:=U.fr (λa b e z=>f.2.1 _ _ e (λy=>uw a y z)) f.2.2;let⟨C,l,F,G,m⟩:=id am;let⟨_,_,_,o,I,B⟩:=id m.hr;let o:=cI.len B;rw[cR]at o;let B:=gX.k (k:=kR) m.hw;rw[show cG (qu C l F G) kR=⇑↥l by kernel_rfl]at B;refine⟨Y,bw,Y,B,l,Y,.inl (bI.of I),Z,E,1,.inl ⟨1,?_⟩,λH6 k=>?_⟩
 ·rw[o];simp only[jH,oV];congr 1;lia
 let aM:∀ a b,H a=⇑b->¬ ae a->¬ W a->H6 a=⇑b:=λa b e y z=>k _ _ (f.2.1 _ _ (t _ _ e z) y)
 let a0:dX H6 w x:=by
  let⟨n,c,u,v,r,d,g,h3⟩:=X;exact⟨n,c,u,v,r,k _ _ (f.2.1 _ _ d (λq=>(St.du w q).2.1 rfl)),k _ _ (f.2.1 _ _ g (λq=>(St.du x q).2.2 rfl)),h3⟩
 let a1:∀ a,s a=none->H a=none:=by
  intro a c
  cases q:H a with
  | none=>rfl
  | some b =>
   exfalso;by_cases z:W a
   ·let⟨b,g⟩:=U.al (a:=a) (.inl z);rw[g]at c;cases c
   rw[t _ _ q z]at c;cases c
 refine ap U' (λa=>W a\/a=e\/a=r) H6 _ (by rw[cR];rfl) ⟨a0,ax.same k,by simp,am.same k,λa z=>?_,λa z=>?_⟩ ⟨λa z=>z.elim (λz=>(f.1 a z).elim .inl λy=>.inr (.inr (a1 a y))) (λz=>?_),λa b e n y z=>aM _ _ e y z,λa j e=>k _ _ (f.2.2 _ _ (ai _ _ e))⟩
 ·rcases f.1 a z with y|y
  ·exact⟨uw a y,(St.du a y).2⟩
  ·change s a=none at y;refine⟨λz=>?_,λq=>?_,λq=>?_⟩
   ·let⟨b,g⟩:=U.al z;rw[g]at y;cases y
   ·let⟨_,c,u,v,r,d,_⟩:=X;rw[q,d]at y;cases y
   ·let⟨_,c,u,v,r,_,d,_⟩:=X;rw[q,d]at y;cases y
 ·let c:=St.src.ne i;let g:=St.src.ne p;rcases z with z|z|z
  ·exact St.dw a z
  ·rw[z];exact⟨c.1.symm,c.2.symm⟩
  ·rw[z];exact⟨g.1.symm,g.2.symm⟩
 ·rcases z with z|z|z
  ·exact .inr (.inl z)
  ·rw[z];exact .inr (.inr i)
  ·rw[z];exact .inr (.inr p)
abbrev e0(n:Nat):cZ:=List.replicate n []
theorem KA(n:Nat):e0 n++[[]]=e0 (n+1):=(List.replicate_succ').symm
theorem vW{n:Nat}{a:UF}(h:a∈e0 n):a=[]:=(List.mem_replicate.mp h).2
theorem XR{n:Nat}{x y:Int}:¬ jF (e0 n) x y:=λ⟨_,c,b,a⟩=>by
 rw[vW (mL b)]at a;cases a
theorem Qk(n:Nat):gM (e0 n):=λc b y a=>by
 rw[vW b]at a;cases a
theorem Ql(n:Nat):CM (e0 n):=⟨λ_=>0,λ_=>ic _,λ_ _ z=>absurd z XR⟩
def Qm{n:Nat}(h:n<=100):mH (e0 n) λ_=>0:=by
 refine⟨by rw[uU];exact h,λb a=>by rw[vW a];exact ic _,Qk n,Ql n,λx b _ a=>?_,λ_ _ _=>by decide⟩;rw[vW (mL a)];rfl
def rd(a:gD)(b:Row)(c:UF):Prop:=∀ y:Int,0<=y->y<(↑a:Nat)->y∉c->0<=y-1/\nO a y=nO a (y-1)/\(In b y↔In b (y-1))
inductive qV(aC:gD)(aU:Row)(n:Nat):Prop
 | mk (a b:UF) (_:↑a<=n) (_:↑b<=n) (_:rd aC aU a) (_:∀ p∈aC,p.1∈b):qV aC aU n
theorem qV.nil:qV [] [] 0:=⟨[],[],d7 _,d7 _,(λy b a _=>by rw[oV]at a;lia),λ_ z=>by cases z⟩
def qV.more{a:gD}{b:Row}{n m:Nat}(h:qV a b n)(l:n<=m):qV a b m:=by
 let⟨c,d,g,i,e,f⟩:=h;exact⟨c,d,by lia,by lia,e,f⟩
def qV.vI{a:gD}{e:Row}{n:Nat}{h:Int}{b:List Nat}(x:qV a e n)(f:∀ y,In e y->0<=y/\y<(↑a:Nat)):qV (a++mW h b) e (n+1):=by
 let⟨j,k,l,m,o,p⟩:=x
 let g:∀ y:Int,0<=y->y<(↑a:Nat)->nO (a++mW h b) y=nO a y:=λy c d=>by
  unfold nO;rw[Cn ∅]
 let i:∀ y:Int,(↑a:Nat)<=y->y<(↑(a++mW h b):Nat)->nO (a++mW h b) y=h:=λy c d=>by
  rw[cR,lF]at d;unfold nO;rw[uT ∅,nh (by rw[lF];lia)];unfold mW;rw[List.getElem_map];rfl
 refine⟨j++[(↑a:Int)],k++[h],by rw[cR];exact Nat.add_le_add_right l 1,by rw[cR];exact Nat.add_le_add_right m 1,λy c d n=>?_,λq r=>?_⟩
 ·rw[List.mem_append,List.mem_singleton,not_or]at n;by_cases j:y<(↑a:Nat)
  ·let⟨k,l,m⟩:=o y c j n.1;exact⟨k,by rw[g _ c j,g _ k ∅,l],m⟩
  ·let c:=n.2;exact⟨by lia,by rw[i _ ∅ d,i _ ∅ ∅],⟨λz=>by have:=(f _ z).2;lia,λz=>by have:=(f _ z).2;lia⟩⟩
 ·rcases List.mem_append.mp r with z|z
  ·exact lQ _ (p q z)
  ·let⟨_,_,rfl⟩:=List.mem_map.mp z;exact kJ _ (List.mem_singleton.mpr rfl)
def xC(n:Nat):gY:=[[],[],[]]++(List.range n).map λk=>e0 (k+1)
def MG(n:Nat):xC (n+1)=xC n++[e0 (n+1)]:=by
 unfold xC;rw[List.range_succ,gI,jq];rfl
def zZ(n:Nat):↑(xC n)=n+3:=by
 unfold xC;rw[cR,cC,List.length_range];show 3+n=_;lia
class inductive Aa(C CS CW CB:Addr)
 | mk (l c w x:Addr) (U W:Yf) (_:vs=[↥l,↥w,↥x]) (_:qv C CS CW CB H l c w x U W [[]] [] [[]] [] [] [] 0 []) (_ :
 ∀ (d e:Yf) (b:Hp) (n:Nat) (a:gD) (f:iK),2<=n->n<=4->↑a<=120->((∀ p∈a,jQ p.1)/\qV a [] 2)->↑f=n+2->qv C CS CW CB b l c w x d e (xC n) (e0 n) (xC n) (e0 n) f a 2 []->GP l U W d e H b->Q (.bl true) b)
theorem DF:‹(9,100,["b","a","i"],(Aa fK cO dH fG))›:=λD=>by
 specialize fP ["b","a","i","_law_good","_law_k"] D.UI.F;let⟨l,i,bw,x,U,W,rfl,St,N⟩:=h;let hu:=gS hr;exists _,#v[aX 3 nj,eZ PassesOwn.never rfl (iL rfl D.T.i9 #[ay]) (bV 4) #v[aX 3 (pG (aB D.Xa (wV D) hr #[0,1,2]) (rW (pv 3)))],eZ PassesOwn.never rfl (iL rfl D.T.i9 #[bz dY ay (aB D.uS (gw D) hr #[0,ay])]) (bV 4) #v[aX 3 (pG (aB D.kf (DE D) hr #[1,2]) (rW (pv 3)))],aK (pv 3)]
 rfl'
 let O:GP l U W U W H H:=⟨λs z=>z.elim .inl λC=>.inr (.inl C),λs R f _ _ _=>f,λ_ _ f=>f⟩;refine⟨2,1,by decide,by decide,?_⟩;refine lH (lo:=0) (n:=(2:Int).toNat) (λj k t=>∃ (b:Option V) (m g:Yf) (c:gD) (a:iK),k=[⇑↥l,⇑↥bw,⇑↥x,⇑(.bl true),b]/\qv fK cO dH fG t l i bw x m g (List.replicate (j+1) []) [] (List.replicate (j+1) []) [] a c j []/\↑c<=60*j/\((∀ p∈c,jQ p.1)/\qV c [] j)/\↑a=j/\GP l U W m g H t) ⟨none,U,W,[],[],1,St,d7 _,⟨(λ_ z=>by cases z),qV.nil⟩,1,O⟩ ?_ ?_
 ·rintro j k t M ⟨b,m,g,c,a,rfl,n,S,u,q,v⟩;let T:j<2:=M;refine⟨Y,Y,Y,l,i,bw,x,m,g,Q,_,a,c,j,[],1,n,(by rw[uU];lia),(by rw[uU];lia),(by show 0<=50;decide),by lia,by lia,by lia,λJ w h B L X O xg y F=>?_⟩;rw[← List.replicate_succ']at y;let G:∃ (b:Option V) (d e:Yf) (B:gD) (r:iK),[⇑↥l,⇑↥bw,⇑↥x,⇑(.bl true),⇑(V.int (0+(j:Int)))]=[⇑↥l,⇑↥bw,⇑↥x,⇑(V.bl true),b]/\qv fK cO dH fG w l i bw x d e (List.replicate (j+1+1) []) [] (List.replicate (j+1+1) []) [] r B (j+1) []/\B.length<=60*(j+1)/\((∀ p∈B,jQ p.1)/\qV B [] (j+1))/\↑r=j+1/\GP l U W d e H w:=⟨_,J,g,_,L,1,y,(by rw[cR,lF];lia),⟨(λp o=>(List.mem_append.mp o).elim (u.1 p) λz=>by let⟨_,_,rfl⟩:=List.mem_map.mp z;exact X),u.2.vI λ_ ⟨_,z,_⟩=>by cases z⟩,by lia,v.trans (by let⟨I,o⟩:=n.src.lst;exact⟨_,o⟩) F⟩;exists true,1;rw[if_pos rfl];exact⟨Y,G⟩
 rintro k t ⟨b,m,g,c,a,rfl,n,S,u,q,v⟩;refine⟨Y,l,i,3,1,n.src,by decide,by decide,λJ w S X O t=>⟨Z,2+J,1,by lia,by lia,?_⟩⟩;let y:=n.mv (bS t) O
 let F:GP l U W m g H w:=v.trans (by let⟨I,o⟩:=n.src.lst;exact⟨_,o⟩) ⟨λs z=>z.elim .inl λC=>.inr (.inl C),λs R f w _ _=>(bS t) _ _ f w,λs s f=>by
  let⟨I,o⟩:=n.src.lst
  exact (bS t) _ _ f (cP f o)⟩
 clear v;refine lH (lo:=0) (n:=(2+J).toNat) (λj k p=>∃ (b:Option V) (d e:Yf) (a:iK),k=[⇑↥l,⇑↥bw,⇑↥x,⇑(.bl true),b]/\qv fK cO dH fG p l i bw x d e (xC j) (e0 j) (xC j) (e0 j) a c 2 []/\↑a=j+2/\GP l U W d e H p) ⟨b,m,g,a,1,y,q,F⟩ ?_ ?_
 ·rintro j k p M ⟨b,d,e,a,rfl,B,q,L⟩;let T:j<4:=by lia
  refine⟨Y,Y,l,i,bw,x,d,e,Q,_,a,c,2,[],1,B,(by rw[zZ];lia),(by rw[zZ];lia),(by rw[uU];lia),1,by lia,⟨_,by rw[KA];exact Qm ∅⟩,λs t f v m g w=>?_⟩;rw[KA,← MG]at g;let G:∃ (b:Option V) (m n:Yf) (r:iK),[⇑↥l,⇑↥bw,⇑↥x,⇑(.bl true),⇑(V.int (0+(j:Int)))]=[⇑↥l,⇑↥bw,⇑↥x,⇑(V.bl true),b]/\qv fK cO dH fG f l i bw x m n (xC (j+1)) (e0 (j+1)) (xC (j+1)) (e0 (j+1)) r c 2 []/\↑r=j+1+2/\GP l U W m n H f:=⟨_,s,t,v,1,g,by lia,L.trans (by let⟨I,o⟩:=B.src.lst;exact⟨_,o⟩) w⟩;exists true,1;rw[if_pos rfl];exact⟨Y,G⟩
 rintro k p ⟨b,d,e,a,rfl,B,q,L⟩;exact⟨Y,N d e p (2+J).toNat c a ∅ ∅ (by have:(2:Int).toNat=2:=rfl;lia) u q B L⟩
def XT{b:Bool}{q A B T:Prop} [Decidable q] (w:b=false->(if decide q=true then A else B)->T) (a:b=true\/q->A) (d:b=false->¬ q->B):if b=true then (if true=true then A else B) else T:=by
 cases b with
 | true=>rw[if_pos rfl,if_pos rfl];exact a (.inl rfl)
 | false =>
  rw[if_neg lG];refine w rfl ?_;by_cases c:q
  ·rw[if_pos (decide_eq_true c)];exact a (.inr c)
  ·rw[decide_eq_false c,if_neg lG];exact d rfl c
theorem XU{z:Addr}{d:UF}{f:_L2.St}{q:Int->Bool}{k:TG}{tt:TT}{l:TE}{b:Hp}{Q:VK}(t:b z=⇑(.lst (d.map V.int)))(D:↑d<=50000)(m:b e=none)
  (v:∀ (u:Option V) (y:Int) (a:Hp) (L:V->_L2.St->Hp->Prop) (M:_L2.St->Hp->Prop),aH b a->(if q y=true then L (.int y) (⇑(.int y)::f) a else M (⇑(.int y)::f) a)->k (.int y) (u::f) a fun h x=>tt h x λA n=>if A=true then l h n λB b=>L B h b else M h n)
  (C:∀ a,a e=⇑(.lst ((d.filter q).map V.int))->aH b a->Q ↥e a):ue (Ng K z) e k tt l (none::f) (aL b e (.lst [])) Q:=by
 refine gA (K:=K) (h:=z) (a:=d.map V.int) (λi j a=>∃ u:Option V,j=u::f/\a e=⇑(.lst (((d.take i).filter q).map V.int))/\aH b a) ⟨none,1,af,ak m _⟩ (by rintro i j a _ ⟨_,_,_,c⟩;exact bI.of (c _ _ t)) ?_ ?_
 ·rintro i w j a o ⟨u,rfl,g,c⟩;rw[gj]at o;let⟨y,s,rfl⟩:=Option.map_eq_some_iff.mp o;let p:=take_snoc s;let o:=List.length_filter_le q (d.take i);rw[gO]at o;refine v u y a _ _ c ?_
  cases r:q y with
  | true =>
   refine iX ⟨_,g,(by rw[cC];exact aN ∅),Y,?_,bN m c (aG e _ _)⟩;rw[af,p,List.filter_append,List.filter_cons_of_pos r,gI];rfl
  | false =>
   refine gx ⟨Y,?_,c⟩;rw[p,List.filter_append,List.filter_cons_of_neg (by rw[r];exact lG),List.filter_nil,gG];exact g
 ·rintro j a ⟨u,rfl,g,c⟩;rw[cC,gP]at g;exact C a g c
def KC{a:gD}{y:Int}{q:Int × Nat}(e:a[y.toNat]?=⇑q):nO a y=q.1:=by unfold nO;rw[e];rfl
structure II(hs ms:UF)(row:Row):Prop where
 up:row.Pairwise λp q=>p.1<q.1
 val:∀ p∈row,p.1∈ms/\p.2=(hs.count p.1:Nat)
 all:∀ i∈ms,∃ p∈row,p.1=i
def II.more{b d:UF}{c:Row}{h:Int}(U:II b d c)(e:∀ p∈c,p.1<h):II b (d++[h]) (c++[(h,((b.count h:Nat):Int))]):=by
 refine⟨List.pairwise_append.mpr ⟨U.up,List.pairwise_singleton _ _,λp a q f=>by rw[List.mem_singleton.mp f];exact e p a⟩,λp a=>?_,λi g=>?_⟩
 ·rcases List.mem_append.mp a with z|z
  ·exact⟨List.mem_append_left _ (U.val p z).1,(U.val p z).2⟩
  ·rw[List.mem_singleton.mp z];exact⟨List.mem_append_right _ (List.mem_singleton.mpr rfl),1⟩
 ·rcases List.mem_append.mp g with z|z
  ·let⟨p,a,f⟩:=U.all i z;exact⟨p,lQ _ a,f⟩
  ·exact⟨_,kJ _ (List.mem_singleton.mpr rfl),(List.mem_singleton.mp z).symm⟩
theorem II.same{b c:UF}{a:Row}{p:Int × Int}(U:II b c a)(m:p∈a):II b (c++[p.1]) a :=
 ⟨U.up,λp d=>⟨List.mem_append_left _ (U.val p d).1,(U.val p d).2⟩,λi d=>(List.mem_append.mp d).elim (U.all i) λz=>⟨p,m,(List.mem_singleton.mp z).symm⟩⟩
def Ti.uniq:∀ {a b:Row} {d:UF},Ti d a->Ti d b->a=b:=by
 let i:∀ {a b:Row},a.Pairwise (λp q=>p.1<q.1)->b.Pairwise (λp q=>p.1<q.1)->(∀ p,p∈a↔p∈b)->a=b:=by
  intro a
  induction a with
  | nil =>
   intro b _ _ h
   cases b with
   | nil=>rfl
   | cons q s=>exact absurd ((h q).mpr nP) (by simp)
  | cons p r j =>
   intro b k l h
   cases b with
   | nil=>exact absurd ((h p).mp nP) (by simp)
   | cons q s =>
    let e:=List.pairwise_cons.mp k;let f:=List.pairwise_cons.mp l
    let g:p=q:=by
     rcases List.mem_cons.mp ((h p).mp nP) with z|z
     ·exact z
     rcases List.mem_cons.mp ((h q).mpr nP) with y|y
     ·exact y.symm
     have:=e.1 _ y;have:=f.1 _ z;lia
    subst g;refine congrArg (p::·) (j e.2 f.2 λx=>⟨λc=>?_,λc=>?_⟩)
    ·rcases List.mem_cons.mp ((h x).mp (jT _ c)) with z|z
     ·rw[z]at c;have:=e.1 _ c;lia
     ·exact z
    ·rcases List.mem_cons.mp ((h x).mpr (jT _ c)) with z|z
     ·rw[z]at c;have:=f.1 _ c;lia
     ·exact z
 intro a b d A B
 let c:∀ {a b:Row},Ti d a->Ti d b->∀ p∈a,p∈b:=λA B p e=>by
  let⟨m,g⟩:=A.val p e;let⟨q,e,f⟩:=B.all _ m;let h:=(B.val q e).2;rw[show p=q from Prod.ext f.symm (by rw[g,h,f])];exact e
 exact i A.up B.up λp=>⟨c A B p,c B A p⟩
class inductive KD
 | mk (W:Yf) (w:Addr) (a:gD) (g:gY) (b:cZ) (h:Row) (c:Nat) (e:Y1) (_:vs=[↥w,.int (c:Nat)]) (_:Wo 100 h W H w a g b) (_:Gd ↑a b e) (_:c<↑b) (_:∀ (q:Addr) (f:Row) (d:Hp),bP d q f->Ti ((e c).map (nO a)) f->aH H d->Q ↥q d)
theorem AO:‹(43,101,["a","d"],KD)›:=λD=>by
 specialize fP ["a","d","_law_hands","E","D"] D.UJ.F;let⟨W,bw,aC,pe,ag,aU,o,sh,rfl,wo,p,sl,ai⟩:=h;let hu:=gS hr;let⟨rk,rb,dn⟩:=id p.sn.rk;let ar:=p.ln;let⟨N,O,ps,vl,S⟩:=id wo;let⟨as,Du,pa⟩:=id S.hi;let la:=Paired.length pa;let zr:=gX.k (k:=kR) S.hw;rw[show cG (qu N O ps vl) kR=⇑↥O by kernel_rfl]at zr;let x:qj ↑ag ((o:Nat):Int):=⟨by lia,by lia⟩;let an:=p.sl _ x.1 x.2;let ao:=p.XM _ x.1 x.2;refine⟨_,#v[CK (N:=["_law_number","a"]) (l:=2) (kg (c:=cy lu) (f:=["a","d","_law_hands","E","D"]) (d:=[none,some 0]) rfl rfl rfl nofun nofun rfl nofun rfl nofun) rfl (by assumption) rfl rfl (cK (aB D.Fc (iJ D 41) hr #[gF hu (pv 0) bC,1])) (λ_ _ _ _ _ _=>(bV 0)) (λ_ _ _ _ _ _=>gK) (λ_ _ _ _ _ _=>(aO xO (aO ES (gF hu (pv 1) bC) (pv 0)) ay)),aX 3 (bK ah),eZ PassesOwn.never rfl (cK (b8 Az rfl D.T.zm PyProof.Rows.boot_sorted #[2])) (bV 4) #v[bM (PW.pt (Ec (aV eE (gf D.T.fJ (pv 3)) ay (bh _)) (Cs (aV Jw (aO bf (aO bH (pv 3) (iS gm ay)) ay) (pv 4) (bh _))))) #v[aW (eX o7 jW jX b9 (pv 3) #[cT #[4,gf D.T.fJ (iz (N:=["_law_other","D"]) (kg (c:=cy lu) (f:=["a","d","_law_hands","E","D"]) (d:=[none,some 4]) rfl rfl rfl nofun nofun rfl nofun rfl nofun) rfl (cK (pv 2)) (λ_ _ _ _ _ _=>(bV 0)) (λ_ _ _ _ _ _=>xM (aV eE (pv 0) (pv 1) (bh _))) (λ_ _ _ _ _ _=>(pv 0)))]])] bg],aK (pv 3)],?_⟩
 rfl'
 refine⟨Y,bw,Y,zr,Y,_,O,ag,(o:Nat),_,rk,1,S.hr.at_,by lia,p.sn.sd,x.1,x.2,p.sn.ss,p.sn.ln,dn,by have:=rb o;lia,λp H1 x T fo=>?_⟩;let TQ:=T _ _ Du;refine⟨p,1,⟨_,bI.of x⟩,λB cN=>gA (K:=bZ) (h:=p) (a:=(sh o).map V.int) (λi f q=>∃ u:Option V,f=[u,⇑↥bw]/\q B=⇑(.lst ((((sh o).take i).map (nO aC)).map V.int))/\aH H1 q) ⟨none,1,af,ak cN _⟩ (by rintro i f q _ ⟨_,_,_,k⟩;exact bI.of (k _ _ x)) ?_ ?_⟩
 ·rintro i y f q r ⟨u,rfl,l,k⟩;rw[gj]at r;let⟨b,c,rfl⟩:=Option.map_eq_some_iff.mp r;let⟨w,e⟩:=ao b (mL c);let a:=T.trans k;let d:=gX.k (k:=kI) (a _ _ S.hw);rw[show cG (qu N O ps vl) kI=⇑↥N by kernel_rfl]at d;obtain⟨tt,e⟩:∃ tt,as[b.toNat]?=⇑tt:=⟨_,nh ∅⟩;let⟨s,j,C⟩:=nY pa e;let g:=dm (a:=as.map V.ref) (j:=b.toNat) (v:=↥tt) (by rw[gj,e];rfl);rw[show ((b.toNat:Nat):Int)=b by lia]at g;refine⟨Y,bw,Y,d,Y,N,Q,V,bI.of (a _ _ Du),g,tt,Q,V,dI.of (a _ _ C),EA,⟨_,l,?_,Y,?_,bN cN k (aG B _ _)⟩⟩
  ·rw[cC,cC,gO];exact aN ∅
  ·rw[af,take_snoc c,gI,gI,List.map_singleton,KC j];rfl
 rintro f q ⟨u,rfl,l,k⟩;rw[cC,gP]at l;obtain⟨g,p⟩:∃ g,g=(sh o).map (nO aC):=⟨Y⟩;let lhs:↑g<=200:=by rw[p,cC];exact an
 rw[← p]at l ai;refine⟨iD,λa ab=>?_⟩;let J:=ak ab (.lst []);let h3:(aL q a (.lst [])) a=⇑(.lst (([]:UV).map V.ref)):=af;generalize aL q a (.lst [])=H3 at J h3;refine⟨Y,B,g,1,J _ _ l,eO (aN ∅),λF t hl ae J6=>?_⟩;let L:=ak hl (.lst (t.map V.int));let h4:(aL H3 F (.lst (t.map V.int))) F=⇑(.lst (t.map V.int)):=af;generalize aL H3 F (.lst (t.map V.int))=H4 at L h4;let ap:=(T.trans k).trans (J.trans L);let d4:=L _ _ h3;let aq:H1 a=none:=aP k ab;let nl:F≠a:=λe=>by rw[e,h3]at hl;cases hl
 let na:B≠a:=λe=>by rw[e,ab]at l;cases l
 let p:=ae.length_eq;let p:=k.trans (J.trans L);refine⟨F,1,⟨_,bI.of h4⟩,ef (K:=bZ) (e:=F) (b:=t.map V.int) (λi f j=>∃ (u:Option V) (v:UV) (R:Row),f=[⇑↥bw,⇑(.int (o:Nat)),⇑↥B,⇑↥a,u]/\j a=⇑(.lst (v.map V.ref))/\aY j v R/\II g (t.take i) R/\↑R<=i/\cB a H4 j/\aH H j) ⟨none,[],[],1,d4,.nil,⟨.nil,(λ_ z=>by cases z),λ_ z=>by cases z⟩,d7 _,cB.refl _ _,ap⟩ (by rintro i f j _ ⟨_,_,_,_,_,_,_,_,G,_⟩;exact bI.of (G _ _ h4 nl)) ?_ ?_⟩
 ·rintro i y f j r ⟨u,v,R,rfl,n,I,d,lR,G,U⟩;rw[gj]at r;let⟨h,eh,rfl⟩:=Option.map_eq_some_iff.mp r;let k:=(List.getElem?_eq_some_iff.mp eh).1;let M:=I.len;let st:=take_snoc eh
  let le:∀ x∈t.take i,x<=h:=λx o=>by
   let⟨c,b⟩:=List.mem_iff_getElem?.mp o;let⟨o,b⟩:=List.getElem?_eq_some_iff.mp b;rw[gO]at o;rw[List.getElem_take]at b;have:=List.pairwise_iff_getElem.mp J6 c i ∅ k ∅;rw[b,(List.getElem?_eq_some_iff.mp eh).2]at this;exact this
  let Vd:=G _ _ ((J.trans L) _ _ l) na;exists Y,a,Y,.inl (bI.of n),1,Y;refine XT (q:=(R.getLast?.map (·.1))≠some h) (λhb z=>?_) (λc=>?_) λc1 c2=>?_
  ·obtain⟨C,b,rfl⟩:∃ C b,R=C++[b]:=by
    rcases kZ R with e|⟨C,b,e⟩
    ·rw[e]at M;rw[List.eq_nil_of_length_eq_zero M]at hb;cases hb
    ·exact⟨C,b,by rw[e,jI]⟩
   let⟨s,w,rfl,k,X⟩:=I.split;let xR:j a=⇑(.lst (s.map V.ref++[↥w])):=by rw[n,gI];rfl
   exists Y,Y,a,Q,V,bI.of xR,gT _ _,w,Q,V,dI.of X,EA,Y,1,Y;rw[lS]at z;by_cases c:b.1=h
   ·rw[if_neg (by simp[c])]at z ⊢;exact z
   ·rw[if_pos (by simp[c])]at z ⊢;exact z
  ·let lt:∀ s∈R,s.1<h:=λs w=>by
    rcases kZ R with e|⟨C,b,e⟩
    ·rw[e]at w;cases w
    ·rw[jI]at e;let k:=le _ (d.val b (by rw[e];simp)).1
     let k:b.1≠h:=λz=>by
      rcases c with c|c
      ·have:=V.int.inj (of_decide_eq_true c);rw[cC,M,e,cR,gW]at this;lia
      ·exact c (by rw[e,lS,← z];rfl)
     let X:=d.up;rw[e,List.pairwise_append]at X;rw[e]at w;rcases List.mem_append.mp w with m|m
     ·have:=X.2.2 s m b (List.mem_singleton.mpr rfl);lia
     ·rw[List.mem_singleton.mp m];lia
   refine⟨Y,.inl ⟨1,_,bI.of n⟩,Y,Y,B,1,⟨_,bI.of Vd⟩,λl k=>XU (K:=bZ) (f:=[⇑(.int h)]) (q:=λy=>decide (y=h)) Vd ∅ k (λu y o p q s6 k=>?_) λo o s6=>?_⟩
   ·exists Y,Y,1,Y;by_cases c:y=h
    ·rw[if_pos (by simp[c])]at k ⊢;exact⟨Y,k⟩
    ·rw[if_neg (by simp[c])]at k ⊢;exact k
   let h6:=s6 _ _ n;refine⟨l,Y,.inl (bI.of o),mJ,λam C=>⟨a,Z,ak C _ _ _ h6,(by rw[cC];exact aN ∅),?_⟩⟩
   let ct:g.count h=↑(g.filter λy=>decide (y=h)):=by
    rw[List.count_eq_countP,List.countP_eq_length_filter];rfl
   let UM:=d.more lt;rw[← st]at UM;let X:=s6.trans (ak C (.tup [.int h,.int (↑((g.filter λy=>decide (y=h)).map V.int):Nat)]));let nt:am≠a:=λe=>by rw[e,h6]at C;cases C
   refine⟨_,v++[am],R++[(h,((g.count h:Nat):Int))],1,by rw[af,gI];rfl,((I.same X).tups λb c e=>by rw[aJ (cP e (X _ _ n))];exact e).append (.cons ?_ .nil),UM,by rw[cR];exact Nat.add_le_add_right lR 1,λb c e b=>by rw[aJ b];exact X _ _ (G _ _ e b),bN (aP T aq) (U.trans X) (aG a _ _)⟩;show _=_;rw[aJ nt,af,ct,cC]
  ·obtain⟨b,s,rfl⟩:∃ b∈R,b.1=h:=by
    rcases kZ R with e|⟨C,b,e⟩
    ·rw[e]at M;rw[List.eq_nil_of_length_eq_zero M]at c1;cases c1
    ·rw[jI]at e;let c:=Classical.not_not.mp c2;rw[e,lS]at c;exact⟨b,by rw[e];simp,nQ c⟩
   let b:=d.same s;rw[← st]at b;exact⟨_,v,R,1,n,I,b,by lia,G,U⟩
 rintro f j ⟨u,v,R,rfl,n,I,d,lR,G,U⟩;rw[cC,gP]at d;exact⟨Y,ai a R j ⟨v,n,I⟩ ⟨d.up,λs w=>⟨ae.mem_iff.mp (d.val s w).1,(d.val s w).2⟩,λi r=>d.all i (ae.mem_iff.mpr r)⟩ U⟩
def TR{n m:Nat}(h:m<=40):Good n (e0 m):=by
 refine⟨λc a e b=>?_,Ql m,by rw[uU];exact h,λ_=>0,λx c _ a=>?_,λ_ _ _=>(by decide:(0:Int)<=200)⟩
 ·rw[vW a]at b;cases b
 ·rw[vW (mL a)];rfl
theorem GP.off{l:Addr}{U W d g:Yf}{H h:Hp}(f:GP l U W d g H h):Off l U W d g H h:=λa i e b c j=>⟨f.2.1 a i e j b c,(λy=>(f.1 a (.inl y)).elim b λz=>z.elim c λz=>by rw[e]at z;cases z),λy=>(f.1 a (.inr y)).elim b λz=>z.elim c λz=>by rw[e]at z;cases z⟩
theorem Off.keep{l:Addr}{U W:Yf}{H a:Hp}(k:cB l H a):Off l U W U W H a:=λb c e d f g=>⟨k b c e g,d,f⟩
theorem Off.trans{l:Addr}{U W a b c d:Yf}{H e f:Hp}(j:Off l U W a b H e)(k:Off l a b c d e f):Off l U W c d H f:=λg h m n o i=>by
 let⟨p,q,r⟩:=j g h m n o i;exact k g h p q r i
def Qn{h:Int}:∀ {a:gD} {i:Nat} {y:Int},(i:Int)<=y->y<(i:Int)+↑a->(((a[(y-i).toNat]?).map Prod.fst).getD (h+1)=h->y∈kL h i a):=by
 intro a
 induction a with
 | nil=>intro i y c b;rw[oV]at b;lia
 | cons p r d =>
  intro i y c b e;rw[jH]at b;rw[kL];by_cases f:y=i
  ·subst f;let e:p.1=h:=by simpa using e
   rw[if_pos e];exact nP
  ·let z:y∈kL h (i+1) r:=d ∅ ∅ (by rw[show (y-(i:Int)).toNat=(y-((i+1:Nat):Int)).toNat+1 by lia,List.getElem?_cons_succ]at e;exact e);split
   ·exact jT _ z
   ·exact z
def Qo{a:gD}{h y:Int}(b:0<=y)(c:y<(↑a:Nat))(e:nO a y=h):y∈kL h 0 a:=by
 refine Qn (i:=0) ∅ ∅ ?_;unfold nO at e;rw[nh (show y.toNat<↑a by lia)]at e;rw[show (y-((0:Nat):Int)).toNat=y.toNat by lia,nh (show y.toNat<↑a by lia)];exact e
def re(C i j k:Addr):TS:=λD c H=>∃ (l m w x:Addr) (n o q r s:Option V) (U W:Yf) (d:gY) (b:cZ) (e:iK) (a:gD) (f:Nat) (t:Row) (u:Nat),c=[n,⇑↥l,⇑↥x,⇑↥w,o,q,r,s]/\qv C i j k H l m w x U W d b d b e a f t/\↑d<=700/\↑b<=50/\↑e<=700/\↑a<=40000/\f<=800/\(∀ p∈a,jQ p.1)/\qV a [] u/\∀ (v:Yf) (g:gY) (y:iK) (c:gD) (z:Nat) (h:Hp),qv C i j k h l m w x v W g b g b y c z t->g.length<=↑d+1->↑y<=↑e+1->↑a<=c.length/\c.length<=↑a+60->z<=f+1->(∀ p∈c,jQ p.1)->qV c [] (u+1)->Off l U W v W H h->D.nx [n,⇑↥l,⇑↥x,⇑↥w,o,q,r,s] h
def AQ(a:UF):Row:=a.map λk=>(k,k+1)
def TU{a:UF}{y:Int}:In (AQ a) y↔y∈a:=by
 unfold AQ;constructor
 ·rintro⟨p,b,c,d⟩;let⟨k,e,rfl⟩:=List.mem_map.mp b;simp only at c d;rw[show y=k by lia];exact e
 ·intro h;exact⟨_,List.mem_map.mpr ⟨y,h,1⟩,Int.le_refl _,by simp only;lia⟩
def rf(C i j k:Addr):TS:=λD h H=>∃ (l m w x:Addr) (n d e o p:Option V) (U W:Yf) (b:gY) (a:cZ) (f:iK) (c:gD) (g:Nat),h=[n,⇑↥l,⇑↥x,⇑↥w,d,e,o,p]/\qv C i j k H l m w x U W b a b a f c g []/\↑b<=50/\↑a<=50/\↑f<=700/\↑c<=120/\g<64/\(∀ h∈c,jQ h.1)/\∀ (s:Yf) (h:gY) (t:Row) (q:iK) (d e:Option V) (r:Hp),qv C i j k r l m w x s W h a h a q c g t->h.length<=↑b+1->↑q<=↑f+1->D.nx [n,⇑↥l,⇑↥x,⇑↥w,d,e,o,p] r
inductive rh(C CS CW CB l c x w:Addr)(b:Nat)(H:Hp):Prop
 | mk (U W:Yf) (e:gY) (a:cZ) (f:iK) (d:gD) (g:Nat) (h:Row) (_:qv C CS CW CB H l c w x U W e a e a f d g h) (_:1<=↑a) (_:↑a<=4) (_:↑e<=9+2*b) (_:↑f<=9+2*b) (_:↑d<=120+60*b) (_:g<=2+b) (_:∀ p∈d,jQ p.1) (_:qV d [] (2+b)) (_:Good ↑d a)
def Qp(D:bW)(ap:NL bZ "law" "law" Lg Xc Xd):bq c9 bw bZ cW cU cS 48 Xc Xd ["l"] (Ep bZ):=by
 let MH:bq c9 bw bZ cW cU cS 1 _ _ ["l"] (Uj bZ):=HZ D;let bQ:bq c9 bw bZ cW cU cS 1 _ _ ["b","H"] sJ:=gw D;let uO:bq c9 bw bZ cW cU cS 3 _ _ ["c"] (Ci fK cO dH fG):=qU D;let Gn:bq c9 bw bZ cW cU cS 1 _ _ [] Ks:=Dt D;let Gp:bq c9 bw bZ cW cU cS 9 _ _ ["b","a","i"] (Aa fK cO dH fG):=DF D;let IJ:bq c9 bw bZ cW cU cS 46 _ _ ["b","a","i"] (Gh fK cO dH fG):=Gi D (Gg D) (DC D) (Ge D) (Gf D);let AR:bq c9 bw bZ cW cU cS 5 _ _ ["c","C","k"] (Kr fK cO dH fG eI Or):=xB D;let IK:bq c9 bw bZ cW cU cS 1 _ _ ["a","e"] PV:=mX D;let IL:bq c9 bw bZ cW cU cS 5 _ _ ["b","a","i"] (Cm fK cO dH fG):=wV D;let xD:bq c9 bw bZ cW cU cS 6 _ _ ["c","f"] (zO fK cO dH fG):=uN D;let DG:bq c9 bw bZ cW cU cS 43 _ _ ["a","d"] KD:=AO D;let sR:bq c9 bw bZ cW cU cS 5 _ _ ["p","E"] (yN 4):=mU D 4;refine fP ["l","b","i","a","D","1","_law_k","d"] ap λdD aq zn s R vs Q E c _ am=>?_;let⟨a,m,rfl,hS,aq,o⟩:=am;have C:=gS c;refine⟨_,#v[aX 1 (aB D.gL MH c #[0]),aX 2 (ny D.aQ.Yc uO (c.mono (by decide)) rfl D.aQ.m D.ih.b .nil bO),aX 3 (Np Gn (c.mono (by decide)) rfl D.Sn.m D.Sn.F.kp D.Sn.b .nil bO),aW (aB D.UI Gp c #[1,3,2]),yM (c:=rf fK cO dH fG) (bM (PW.pt (pF (aV eE (aB D.uS bQ c #[1,ay]) ay (bh _)) (mO (aV Ei (gf D.T.fJ (gF C (pv 3) bC)) ay (bh _))))) #v[aX 4 (aO bf (aO bH (gF C (pv 3) bC) (aB D.uS bQ c #[1,gf D.T.fJ (gF C (pv 3) bC)])) ay),CK (N:=["_law_k","a","D"]) (l:=5) (kg (c:=cy Lg) (f:=["l","b","i","a","D","1","_law_k","d"]) (d:=[none,some 3,some 4]) rfl rfl rfl nofun nofun rfl nofun rfl nofun) rfl (by assumption) rfl rfl (iL rfl D.T.i9 #[gf D.T.fJ (gF C (pv 3) bC)]) (λ_ _ _ _ _ _=>(bV 0)) (λ_ _ _ _ _ _=>xM (aV eE (aO xO (aO ES (gF C (pv 1) bC) (pv 0)) ay) (pv 2) (bh _))) (λ_ _ _ _ _ _=>(cT #[0,bz dY (pv 0) ay])),aW (dG (pv 2) D.aQ D.je AR c bO #[4,5]),aW (aB D.OR IK c #[3,gF C (pv 3) bC])] bg) ?b2,eZ PassesOwn.never rfl (iL rfl D.T.i9 #[aB D.uS bQ c #[1,ay]]) (bV 6) #v[yM (c:=re fK cO dH fG) (bM (aV eE (aB D.uS bQ c #[1,ay]) ay (bh _)) #v[bM (jJ (lT (aB D.Xa IL c #[1,3,2]))) #v[aK nj] bg] bg) ?b1,bM (jJ (lT (aB D.kc IJ c #[1,3,2]))) #v[aK nj] bg,eZ PassesOwn.never rfl (iL rfl D.T.i9 #[gf D.T.fJ (gF C (pv 3) bC)]) (bV 7) #v[bM (jJ (lT (aB D.ZY sR c #[dG (pv 2) D.aQ D.ji xD c bO #[7],aB D.UJ DG c #[3,7]]))) #v[aK nj] bg]],aK nj],?_⟩
 rfl'
 case b1 =>
  rintro D f R ⟨l,g,bw,x,u0,r,u,u6,v,U,W,w,j,F,b,S,e,n,rfl,St,lp,lr,ll,li,ln,T,t,o⟩;refine⟨Y,l,g,6,1,St.src,by decide,by decide,λX G _ _ H A=>⟨1,Y,dN (λ_=>?_) λ_=>o U w F b S G (St.mv (bS A) H) ∅ ∅ ⟨by lia,by omega⟩ ∅ T (t.more ∅) (Off.keep (bS A))⟩⟩;exact⟨Y,Y,Y,l,g,bw,x,U,W,w,j,w,j,F,b,S,e,1,St.mv (bS A) H,by lia,by omega,lr,by lia,by lia,by lia,λU' I am c B d i q k h=>⟨true,1,gx (o U' _ _ _ _ I k (by rw[cR];exact d7 _) ∅ ⟨by rw[cR];lia,by rw[cR,lF];lia⟩ (d7 _) (λp c=>(List.mem_append.mp c).elim (T p) λz=>by let⟨_,_,rfl⟩:=List.mem_map.mp z;exact d) (t.vI λ_ ⟨_,z,_⟩=>by cases z) ((Off.keep (bS A)).trans h.off))⟩⟩
 case b2 =>
  rintro D f R ⟨l,g,bw,x,u0,r,u,u6,v,U,W,w,j,F,b,S,rfl,St,lp,lr,ll,li,ln,T,o⟩;let⟨d,J,ps,vl,L⟩:=id St.wo;let⟨as,Du,C⟩:=id L.hi;let c:=Paired.length C;refine⟨Y,l,g,4,1,St.src,by decide,by decide,λX G _ _ H A=>⟨1,Y,?_⟩⟩;let zX:=St.mv (bS A) H;let⟨ls,C⟩:=St.src.lst;let am:=L.fr (λa h e y=>(bS A) _ _ e (St.dw a y).1) (λa xs e=>(bS A) _ _ e (cP e C));let C:=(bS A) _ _ Du (St.dw d L.wi).1;let A:=gX.k (k:=kI) am.hw;rw[show cG (qu d J ps vl) kI=⇑↥d by kernel_rfl]at A;refine HJ (q:=(0:Int)<(↑(as.map V.ref):Nat)) (λz=>⟨Y,bw,Y,A,d,Y,.inl (bI.of C),Z,Y,z⟩) (λq=>?_) λ_=>o U w [] F r u G zX ∅ ∅;have q:=q.2;rw[cC,c]at q;let⟨aM,aq⟩:=zX.src.lst;refine⟨Y,bw,Y,A,Y,Y,bw,Y,A,d,Y,.inl (bI.of C),l,g,Y,zX.src,by rw[cC,c];lia,by rw[cC,c];lia,λX I v0 v1 S2 k2=>?_⟩;rw[cC,c]at v1;have c:cB l G I:=bS k2;have A:∀ a xs,G a=⇑(.tup xs)->I a=⇑(.tup xs):=λa xs e=>c _ _ e (cP e aq);have k:=zX.mv c S2;have ae:=am.fr (λa h e y=>c _ _ e (St.dw a y).1) A;have Qq:=c _ _ C (St.dw d L.wi).1;let⟨c,A,C⟩:=id ae.hi;rw[Qq]at A;have am:as.map V.ref=c.map V.ref:=HO.lst.inj (nQ A);have ar:=Paired.length C;rw[am]at Qq
  let an:∀ y:Int,0<=y->y<(↑b:Nat)->∃ (t:Addr) (p:Int × Nat),b[y.toNat]?=⇑p/\FY I t p/\nM (c.map V.ref) y=⇑↥t:=λy y0 y1=>by
   obtain⟨t,i⟩:∃ t,c[y.toNat]?=⇑t:=⟨_,nh ∅⟩;let⟨p,ep,h⟩:=nY C i;let IC:=dm (a:=c.map V.ref) (j:=y.toNat) (v:=↥t) (by rw[gj,i];rfl);rw[show ((y.toNat:Nat):Int)=y by lia]at IC;exact⟨t,p,ep,h,IC⟩
  let⟨t,p,ep,h,IC⟩:=an X v0 ∅;exists d,Q,V,bI.of Qq,IC,t,Q,V,dI.of h,EA;let ao:=gX.k (k:=kI) ae.hw;rw[show cG (qu d J ps vl) kI=⇑↥d by kernel_rfl]at ao
  let qd:∀ i,(run 0 (i+1)).filter (λy=>decide (nO b y=p.1))=(run 0 i).filter (λy=>decide (nO b y=p.1))++if nO b (0+i)=p.1 then [0+(i:Int)] else []:=λi=>by
   rw[pY,List.filter_append];by_cases e:nO b (0+i)=p.1
   ·rw[if_pos e,List.filter_cons_of_pos (p:=λy=>decide (nO b y=p.1)) (decide_eq_true e)];rfl
   ·rw[if_neg e,List.filter_cons_of_neg (p:=λy=>decide (nO b y=p.1)) (λz=>e (of_decide_eq_true z))];rfl
  refine⟨Y,bw,Y,ao,d,Y,.inl (bI.of Qq),(↑b:Nat),by rw[cC,ar],by lia,by lia,λab cN=>pZ (λi f M=>∃ (ag:Option V) (n:UV),f=[ag,⇑↥bw,⇑(.int p.1)]/\M ab=⇑(.lst (n.map V.ref))/\aY M n (AQ ((run 0 i).filter λy=>decide (nO b y=p.1)))/\aH I M) ⟨none,[],1,af,.nil,ak cN _⟩ ?_ ?_⟩
  ·rintro i f M hi ⟨ag,n,rfl,h5,N,B⟩;let⟨A,C,T6,ai,am⟩:=an (0+i) ∅ ∅;let c:=gX.k (k:=kI) (B _ _ ae.hw);rw[show cG (qu d J ps vl) kI=⇑↥d by kernel_rfl]at c;exists Y,bw,Y,c,Y,d,Q,V,bI.of (B _ _ Qq),am,A,Q,V,dI.of (B _ _ ai),EA,Y,1,Y;let O:=qd i;rw[KC T6]at O;by_cases e:C.1=p.1
   ·rw[if_pos e]at O;rw[if_pos (by simp[e])];refine⟨Y,Y,Z,mJ,λt h=>⟨_,ak h _ _ _ h5,?_,_,n++[t],1,?_,?_,bN cN (B.trans (ak h _)) (aG ab _ _)⟩⟩
    ·let c:=N.len;let z:=List.length_filter_le (λy=>decide (nO b y=p.1)) (run 0 i);rw[fc]at z;rw[cC,c];unfold AQ;rw[cC];exact aN ∅
    ·rw[af,gI];rfl
    ·let c:=B.trans (ak h (.tup [.int (0+(i:Int)),.int (0+(i:Int)+1)]));let na:ab≠t:=λz=>by rw[← z,h5]at h;cases h
     rw[O];unfold AQ;rw[gI];refine ((N.same (ak h _)).tups λa xs e=>by rw[aJ (cP e (ak h _ _ _ h5))];exact e).append (.cons ?_ .nil);show _=_;rw[aJ na.symm,af]
   ·rw[if_neg e,gG]at O;rw[if_neg (by simp[e])];exact⟨_,n,1,h5,by rw[O];exact N,B⟩
  rintro f M ⟨ag,n,rfl,h5,N,B⟩;obtain⟨m,c⟩:∃ m,m=(run 0 ↑b).filter λy=>decide (nO b y=p.1):=⟨Y⟩;have N:aY M n (AQ m):=by rw[c];exact N
  let Hh:∀ y,y∈m->(0<=y/\y<(↑b:Nat))/\nO b y=p.1:=λy hy=>by
   rw[c,List.mem_filter,xP,decide_eq_true_iff]at hy;lia
  let h:↑(AQ m)<=120:=by
   let z:=List.length_filter_le (λy=>decide (nO b y=p.1)) (run 0 ↑b);rw[fc,← c]at z;unfold AQ;rw[cC];lia
  let hb:∀ q∈AQ m,0<=q.1/\q.1<q.2/\q.2<=(↑b:Nat):=λq z=>by
   let⟨o,O,rfl⟩:=List.mem_map.mp z;have:=Hh o O;simp only;lia
  let O:=k.same B;let⟨t,A,c,B,C,ae,ag,am,an,ao,A8,Ej,aq,ar,aM,a2,a3,a4,FP,h⟩:=id O.PX;refine⟨Y,x,c,Y,h.L.hx,1,Y,Y,U,x,ab,w,F,b,S,[],AQ m,p.1,j,1,O.PX,⟨n,h5,N⟩,⟨by lia,λq z=>?_⟩,T p (mL ep),List.all_eq_true.mpr λq z=>?_,ln,λy hy=>?_,by show 0+_<=200;lia,O.lst,lr,by lia,by lia,λU' H6 qt L6 c f6=>?_⟩
  ·have:=hb q z;exact⟨⟨by lia,by lia⟩,by lia,by lia⟩
  ·have:=hb q z;unfold Pq;rw[decide_eq_true this.1,decide_eq_true this.2.1,decide_eq_true this.2.2];rfl
  ·let⟨⟨y0,y1⟩,e⟩:=Hh y (TU.mp hy);exact Qo y0 y1 e
  let⟨zY,_⟩:=O.k0 L6 (j:=j) (by simp) f6;let⟨h,c,n,p,ai⟩:=id zY.wo;let zr:=gX.k (k:=kR) ai.hw;rw[show cG (qu h c n p) kR=⇑↥c by kernel_rfl]at zr;refine⟨Y,Y,bw,Y,zr,W,bw,c,b,w,j,j,1,zY.wo,by lia,λc h ⟨n,p,e⟩=>?_,λH7 av aw ax _=>?_⟩
  ·rw[ai.hw]at e;simp only[Option.some.injEq,HO.dK.injEq,qu,List.cons.injEq,Prod.mk.injEq,V.ref.injEq,true_and,and_true]at e;let⟨rfl,rfl,rfl,rfl⟩:=e;exact ai.hr
  let c:=zY.kept av (λa y=>(zY.du a y).1) zY.dw aw ax;exact o U' _ qt _ _ _ H7 c (by rw[cR];exact d7 _) (by rw[cR];exact d7 _)
 refine⟨Y,a,m,1,hS,λl g G H c _ _=>?_⟩;intro x c fx m _;refine⟨x,c,1,af,λU I _L2 fU k2=>⟨1,?_⟩⟩;let c:=lP fx m k2;let S2:=H.same c
 let ai:∀ a,U a->G a=none:=λa z=>by
  rcases fU a z with y|y
  ·rw[y];exact fx
  ·exact nL y
 refine⟨1,λW bw m C fW c=>?_⟩
 let Vc:qv fK cO dH fG m l g bw x U W [[]] [] [[]] [] [] [] 0 []:=by
  refine⟨S2.same c,_L2.same c,1,C,λa z=>⟨λy=>?_,?_⟩,λa z=>?_⟩
  ·let⟨h,e⟩:=_L2.al z;rw[fW a y]at e;cases e
  ·let n:=H.ne (ai a z);exact⟨n.1.symm,n.2.symm⟩
  ·let n:=S2.ne (fW a z);exact⟨n.1.symm,n.2.symm⟩
 refine⟨Y,Y,Y,l,g,bw,x,U,W,1,Vc,λz m H n b C I n4 li c ai G _=>?_⟩;let H:=zZ n;refine⟨l,g,bw,x,Q,E,z,m,xC n,e0 n,C,b,2,1,G,by lia,by rw[uU];lia,by lia,li,by decide,c.1,λz C G H r u M O I M=>?_⟩;refine⟨Y,l,g,10,1,O.src,by decide,by decide,λX H6 v0 v1 I M=>⟨X,1,by lia,by lia,?_⟩⟩;refine lH (lo:=0) (n:=X.toNat) (λy f R=>∃ r u u6 v:Option V,f=[⇑↥a,⇑↥l,⇑↥x,⇑↥bw,r,u,u6,v]/\rh fK cO dH fG l g x bw y R) ⟨r,u,none,none,1,z,m,C,e0 n,H,b,2,G,O.mv (bS M) I,by rw[uU];lia,by rw[uU];lia,by lia,by lia,by lia,by lia,c.1,c.2,TR ∅⟩ ?_ ?_
 ·rintro y f H6 hj ⟨r,u,u6,v,rfl,U,W,w,j,F,b,S,e,St,c,n,b1,b2,z,C,T,t,m⟩;let n:y<9:=by lia
  refine⟨l,g,bw,x,Q,E,U,W,w,j,F,b,S,e,Y,St,by lia,by lia,by lia,by lia,by lia,T,t,λb n t A N H7 zX w z C F an ae _=>?_⟩;refine⟨Y,Y,Y,l,g,bw,x,b,W,n,j,t,A,N,e,1,zX,c,by lia,by lia,by lia,m.more ∅,λU2 W2 ab h B b k c g j ag _ _=>⟨true,1,gx ?_⟩⟩;let⟨sh,q⟩:=ag.U9;let⟨d,J,ps,vl,L⟩:=id k.wo;let⟨xs,c,g⟩:=id L.hr.at_;let j:=cI.len g;let g:=q.ln;let zr:=gX.k (k:=kR) L.hw;rw[show cG (qu d J ps vl) kR=⇑↥J by kernel_rfl]at zr;let⟨d,hL,g,m,n,hm⟩:=id ae;refine⟨Y,bw,Y,zr,J,Y,.inl (bI.of c),((h.length:Nat):Int),by rw[j],by lia,by lia,?_⟩;refine lH (lo:=0) (n:=((h.length:Nat):Int).toNat) (λi f R=>∃ v:Option V,f=[⇑↥a,⇑↥l,⇑↥x,⇑↥bw,r,u,⇑(.int (0+(y:Int))),v]/\aH b R) ⟨Y,aH.refl _⟩ ?_ ?_
  ·rintro i f H9 hi ⟨v,rfl,p⟩;let hi:i<h.length:=hi;let b:qj h.length ((i:Nat):Int):=⟨by lia,by lia⟩;let c:=q.sl _ b.1 b.2;let d:=q.XM _ b.1 b.2;rw[Int.zero_add];refine⟨Y,(k.PX.same p).m ⟨Y,U2,x,ab,B,A,N,e,h,(i:Nat),sh,hL,1,k.PX.same p,k.lst,by lia,by lia,b,q.sn,c,by lia,λa c=>?_,λl m n g j b=>?_⟩⟩
   ·let⟨l,m⟩:=d a c;exact⟨a.toNat,_,by lia,nh ∅,hm _ (List.getElem_mem _)⟩
   refine⟨Y,Y,W2,bw,A,ab,h,e,i,sh,1,(k.same (p.trans b)).wo,q,hi,λi l m c d a=>⟨E,1,bP.eqv (g.same a) (by rw[j.uniq d];exact c) 1,λd c=>⟨true,1,gx ⟨Y,p.trans (b.trans (a.trans c))⟩⟩⟩⟩
  ·rintro f H9 ⟨v,rfl,p⟩;exact⟨Q,Y,⟨U2,W2,ab,h,B,A,N,e,k.same p,by lia,by lia,by lia,by lia,by lia,by lia,an,ae.more ∅,ag⟩⟩
 ·rintro f H6 ⟨r,u,u6,v,rfl,_⟩;exact o H6
def all_mk:Uh:=by
 intro P w K mg d q;let⟨f,g,h,i,j,k,X,G,b,c,x,y,z,A,B,C,D,H,I,J,L,M,N,O,R,S,T,U,W,Et,m,n,o,p,r,t,u,q7,q8,q9,Bp,ab,ae,ag,ai,am,an,ao,ap,aq,ar,as,av,aw,ax,aA,aM,aU,a0,a1,a2,a3,a4,a5,a6,a7,a8,a9,ba,bb,bc,be,bi,bj,bm,bn,bo,bp,br,bt,bv,bA,bB,bJ,bL,bQ,b0,b1,b2,b3,b4,b5,b6,b7,ca,cb,cc,cd,ce,cf,cg,ch,ci,cj,ck,cm,cn,cp,cq,cr,cs,cv,cw,cx,cN,c0,c1,c2,c3,c4,c5,c6,c7,c8,da,dd,de,df,di,dq,Ze,Zf,l,z0,z1,z2,z3,z4,z5,z6,z7,z8,z9,dr,ds,dv,dx,rJ,rK,Eu,uc,rL⟩:=q;let⟨q,ll,cl,kl⟩:=l;let e:=b.symm.trans (mg_of X G q);cases e;obtain⟨a,F,bF⟩:∃ a,NL K "law" "law" Lg d a/\∀ (s:Shared) (v:Value),BindsTo s a ⟨[v],[]⟩ [("l",v)]:=⟨_,Hj (a:=Lg) ll cl kl,λs v=>.of_eq rfl⟩;let⟨l,v⟩:=m.d (ps:=["l"]) X G;let⟨g1,IM⟩:=n.d (ps:=["b","H"]) X G;let⟨g2,Gq⟩:=o.d (ps:=["p"]) X G;let⟨g3,IP⟩:=p.d (ps:=["p","E"]) X G;let⟨g4,XY⟩:=r.d (ps:=["k"]) X G;let⟨g5,m⟩:=t.d (ps:=["k"]) X G;let⟨g6,AU⟩:=u.d (ps:=["k","h","n"]) X G;let⟨g7,TX⟩:=q7.d (ps:=["k","h","n"]) X G;let⟨g8,dy⟩:=q8.d (ps:=["k","h","n"]) X G;let⟨g9,IQ⟩:=q9.d (ps:=["k"]) X G;let⟨dA,TY⟩:=Bp.d (ps:=["k"]) X G;let⟨dC,xE⟩:=ab.d (ps:=["3","h"]) X G;let⟨ab,IS⟩:=ae.d (ps:=["h","n","3"]) X G;let⟨ae,Qs⟩:=ag.d (ps:=["k","6"]) X G;let⟨ag,n⟩:=ai.d (ps:=["c"]);let⟨ai,Gr⟩:=am.d (ps:=["c","k"]);let⟨am,Qt⟩:=an.d (ps:=["j"]) X G;let⟨an,XZ⟩:=ao.d (ps:=["m","F"]) X G;let⟨ao,DH⟩:=ap.d (ps:=["m","h","goal"]) X G;let⟨ap,dD⟩:=aq.d (ps:=["m","f"]) X G;let⟨aq,DJ⟩:=ar.d (ps:=["X","Y"]) X G;let⟨ar,Ad⟩:=as.d (ps:=["m","F"]) X G;let⟨as,MK⟩:=av.d (ps:=["X","x"]) X G;let⟨av,DK⟩:=aw.d (ps:=["m","F"]) X G;let⟨aw,o⟩:=ax.d (ps:=["m","f"]) X G;let⟨ax,Qv⟩:=aA.d (ps:=["one","6"]) X G;let⟨aA,DL⟩:=aM.d (ps:=["j"]) X G;let⟨aM,X0⟩:=aU.d (ps:=["k"]) X G;let⟨aU,X3⟩:=a0.d (ps:=["j","x"]) X G;let⟨a0,IT⟩:=a1.d (ps:=["j","x","z","others"]) X G;let⟨a1,IU⟩:=a2.d (ps:=["m","f","z","j"]) X G;let⟨a2,TZ⟩:=a3.d (ps:=["j","x","h","n"]) X G;let⟨a3,IV⟩:=a4.d (ps:=["m","f","h","n"]) X G;let⟨a4,DM⟩:=a5.d (ps:=["m","f","h","n","to"]) X G;let⟨a5,DN⟩:=a6.d (ps:=["m","f"]) X G;let⟨a6,IW⟩:=a7.d (ps:=["k"]) X G;let⟨a7,Gs⟩:=a8.d (ps:=["T"]) X G;let⟨a8,Qw⟩:=a9.d (ps:=["state","f","j"]) X G;let⟨a9,p⟩:=ba.d (ps:=["c"]);let⟨ba,IX⟩:=bb.d (ps:=["c"]);let⟨bb,Gu⟩:=bc.d (ps:=["c"]);let⟨bc,Gv⟩:=be.d (ps:=["c","Z"]);let⟨be,sZ⟩:=bi.d (ps:=["c","f"]);let⟨bi,qW⟩:=bj.d (ps:=["c","L"]);let⟨bj,vX⟩:=bm.d (ps:=["c","L"]);let⟨bm,Gw⟩:=bn.d (ps:=["c"]);let⟨bn,IY⟩:=bo.d (ps:=["c","f"]);let⟨bo,q⟩:=bp.d (ps:=["c"]);let⟨bp,r⟩:=br.d (ps:=["c"]);let⟨br,t⟩:=bt.d (ps:=["c"]);let⟨bt,IZ⟩:=bv.d (ps:=["c"]);let⟨bv,I0⟩:=bA.d (ps:=["c","C","text"]);let⟨bA,Gx⟩:=bB.d (ps:=["c","k"]);let⟨bB,DO⟩:=bJ.d (ps:=["m","f"]) X G;let⟨bJ,u⟩:=bL.d (ps:=["c"]);let⟨bL,Ae⟩:=bQ.d (ps:=["c","T","Z"]);let⟨bQ,xF⟩:=b0.d (ps:=["c","T","f","j"]);let⟨b0,AV⟩:=b1.d (ps:=["c"]);let⟨b1,Af⟩:=b2.d (ps:=["c","T","j"]);let⟨b2,Ag⟩:=b3.d (ps:=["c"]);let⟨b3,DP⟩:=b4.d (ps:=["c"]);let⟨b4,qX⟩:=b5.d (ps:=["c","k"]);let⟨b5,AW⟩:=b6.d (ps:=["c","C","text"]);let⟨b6,DQ⟩:=b7.d (ps:=["c","f","z","k"]);let⟨b7,Ah⟩:=ca.d (ps:=["c","f"]);let⟨ca,DR⟩:=cb.d (ps:=["c","f","h","n"]);let⟨cb,Ai⟩:=cc.d (ps:=["c","7","z","8","h","n"]);let⟨cc,DS⟩:=cd.d (ps:=["c","f"]);let⟨cd,xG⟩:=ce.d (ps:=["c","7","z","8"]);let⟨ce,DT⟩:=cf.d (ps:=["c","f"]);let⟨cf,AX⟩:=cg.d (ps:=["c","f","h","n","to"]);let⟨cg,qY⟩:=ch.d (ps:=["c","M"]);let⟨ch,Ja⟩:=ci.d (ps:=["c","M"]);let⟨ci,DU⟩:=cj.d (ps:=["c","C"]);let⟨cj,tw⟩:=ck.d (ps:=["c","C","k"]);let⟨ck,AY⟩:=cm.d (ps:=["c","C","k"]);let⟨cm,tF⟩:=cn.d (ps:=["c","k"]);let⟨cn,xH⟩:=cp.d (ps:=["c","f"]);let⟨cp,Jb⟩:=cq.d (ps:=["b","0"]) X G;let⟨cq,Jc⟩:=cr.d (ps:=["b","J"]) X G;let⟨cr,Gy⟩:=cs.d (ps:=[]) X G;let⟨cs,Jd⟩:=cv.d (ps:=["a","e"]) X G;let⟨cv,Je⟩:=cw.d (ps:=["e","d","_law_entries"]) X G;let⟨cw,Gz⟩:=cx.d (ps:=["1"]) X G;let⟨cx,Jf⟩:=cN.d (ps:=["e","d"]) X G;let⟨cN,AZ⟩:=c0.d (ps:=["e","d"]) X G;let⟨c0,DV⟩:=c1.d (ps:=["e","t"]) X G;let⟨c1,ML⟩:=c2.d (ps:=["e","d","U","_law_new"]) X G;let⟨c2,MM⟩:=c3.d (ps:=["e","d","u","Q"]) X G;let⟨c3,A0⟩:=c4.d (ps:=["e","d"]) X G;let⟨c4,Jg⟩:=c5.d (ps:=["e","d"]) X G;let⟨c5,GA⟩:=c6.d (ps:=["a","o"]) X G;let⟨c6,A3⟩:=c7.d (ps:=["c","f","L"]);let⟨c7,Jh⟩:=c8.d (ps:=["i","o"]) X G;let⟨c8,A4⟩:=da.d (ps:=["b","a"]) X G;let⟨da,A5⟩:=dd.d (ps:=["b","d","_law_room"]) X G;let⟨dd,Ji⟩:=de.d (ps:=["b","a"]) X G;let⟨de,Jj⟩:=df.d (ps:=["b","a","i"]) X G;let⟨df,Jk⟩:=di.d (ps:=["b","a","i"]) X G;let⟨di,GB⟩:=dq.d (ps:=["a","i"]) X G;let⟨dq,GC⟩:=Ze.d (ps:=["b","a","i"]) X G;let⟨dE,DW⟩:=Zf.d (ps:=["a","d"]) X G;let dL:gt mg:=⟨PySem.W.mg_none_of X G z0,uV X G z1,uV X G z2,uV X G z3,uV X G z4,uV X G z5,uV X G z6,uV X G z7,uV X G z8,uV X G z9,uV X G dr,uV X G ds,uV X G dv,uV X G dx,λb e=>(m.m).symm.trans e ▸ mg_of X G uc,λb e=>(o.m).symm.trans e ▸ mg_of X G rL⟩;let e:gz mg:=⟨⟨_,mg_of X G rJ⟩,⟨_,mg_of X G rK⟩,⟨_,mg_of X G Eu⟩⟩;let cV:=c.d X G p.mt;let iF:=z.d X G t.mt;let z:=D.d X G n.mt;let BQ:=I.d X G q.mt;let I:=M.d X G r.mt;let M:=O.d X G u.mt;obtain⟨b,c,D⟩:∃ b c,Ds K mg b c k f g h i j:=⟨fy [_,_,_,_,_,_,_,_,_,_,_,_,_,_,_,_,_,_,_,_,_,_,_,_,_,_,_,_,_,_,_,_,_,_,_,_,_,_,_,_,_,_,_,_,_,_,_,_,_,_,_,_,_,_,_,_,_,_,_,_,_,_,_,_,_,_,_,_,_,_,_,_,_,_,_,_,_,_,_,_,_,_,_,_,_,_,_,_,_,_,_,_,_,_,_,_,_,_,_,_,_,_] 0,fy [l,g1,g2,g3,g4,g5,g6,g7,g8,g9,dA,dC,ab,ae,ag,ai,am,an,ao,ap,aq,ar,as,av,aw,ax,aA,aM,aU,a0,a1,a2,a3,a4,a5,a6,a7,a8,a9,ba,bb,bc,be,bi,bj,bm,bn,bo,bp,br,bt,bv,bA,bB,bJ,bL,bQ,b0,b1,b2,b3,b4,b5,b6,b7,ca,cb,cc,cd,ce,cf,cg,ch,ci,cj,ck,cm,cn,cp,cq,cr,cs,cv,cw,cx,cN,c0,c1,c2,c3,c4,c5,c6,c7,c8,da,dd,de,df,di,dq,dE] l,dL,e,M,cV,iF,z,BQ,I,x,y,A,B,C,H,J,L,N,R,S,T,U,W,Et,v,IM,Gq,IP,XY,m,AU,TX,dy,IQ,TY,xE,IS,Qs,n,Gr,Qt,XZ,DH,dD,DJ,Ad,MK,DK,o,Qv,DL,X0,X3,IT,IU,TZ,IV,DM,DN,IW,Gs,Qw,p,IX,Gu,Gv,sZ,qW,vX,Gw,IY,q,r,t,IZ,I0,Gx,DO,u,Ae,xF,AV,Af,Ag,DP,qX,AW,DQ,Ah,DR,Ai,DS,xG,DT,AX,qY,Ja,DU,tw,AY,tF,xH,Jb,Jc,Gy,Jd,Je,Gz,Jf,AZ,DV,ML,MM,A0,Jg,GA,A3,Jh,A4,A5,Ji,Jj,Jk,GB,GC,DW⟩;refine⟨a,bF,λzt _ _=>?_⟩;refine pu (λD F=>?_) ⟨P,w,K,mg,zt,b,c,k,f,g,h,i,j,d,a⟩ D F;let h:=Qp;unfold bW c9 bw bZ cW cU eK eL fK cO dH fG xq HY Xc Xd at h;exact h D F
end
end _gu
theorem PySem.Challenge.cw_inkroot_k55_shares_holds : PySem.Challenge.rw_inkroot_k55_shares.Holds :=
 InkHd.hd2 _gu.all_mk
