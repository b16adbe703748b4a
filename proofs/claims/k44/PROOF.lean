import PyProof.Rows.All
import KE.KIntText
import KE.KTryMore
import KE.KDictLaws
import KE.KItem
import Open.Pieces
import KE.RegKTryMore
import OpenK.KOwn
import Lean
import PyProof.EqAt
import PyProof.EqKinds
import PyProof.TupleCall
import PySem.Challenge.RW_inkroot_k44_blots_in_sheets
set_option compiler.extract_closed false
set_option Elab.async false
set_option linter.all false
set_option maxRecDepth 100000
set_option maxHeartbeats 4000000
abbrev gP:=List (List (List Int))
abbrev c9:=List (List Int)
abbrev gQ:=List (List Nat)
abbrev fY:=List (Int × Nat)
abbrev Bk:List PySem.Str:=["self"]
abbrev Ul:List PySem.Str:=["self","sheet"]
abbrev Yh:List PySem.Str:=["self","sheet","moment"]
abbrev YL:List PySem.Str:=["self","hand","row"]
abbrev Yi:List PySem.Str:=["_law_src_here","_law_base"]
abbrev zl5:List PySem.Str:=["_law_found","_law_due"]
abbrev zl6:List PySem.Str:=["row","start","stop"]
abbrev zl7:List PySem.Str:=["rows","sheet"]
abbrev zl8:List PySem.Str:=["_law_rows","_law_sheet"]
abbrev zl9:List PySem.Str:=["_law_rows","_law_entry"]
abbrev YM:List PySem.Str:=["_law_rows","_law_sheet","_law_place","_law_new"]
abbrev YN:List PySem.Str:=["_law_rows","_law_sheet","_law_start","_law_stop"]
abbrev YO:List PySem.Str:=["_law_src_here","_law_world_here"]
abbrev CC:List PySem.Str:=["_law_src_here","_law_world_here","_law_house"]
abbrev cC:=@List.length_map.{0,0}
abbrev dm:=@List.length_append.{0}
abbrev gx:=@List.map_append.{0,0}
abbrev fk:=@Nat.le_refl
abbrev j5:=@List.mem_cons_of_mem.{0}
abbrev nj:=@List.getElem?_eq_getElem.{0}
abbrev lU:=@List.mem_of_getElem?.{0}
abbrev n9:=@PySem.F.plainAttrs_list
abbrev lV:=@Bool.false_ne_true
abbrev lD:=@List.getElem?_map.{0,0}
abbrev eZ:=@List.length_cons.{0}
abbrev gW:=@List.length_singleton.{0}
abbrev jm:=@PySem.F.slot_list_append
abbrev jo:=@PySem.F.type_list_append
abbrev gw:=@List.length_take.{0}
abbrev gG:=@List.take_length.{0}
abbrev ie:=@List.size_toArray.{0}
abbrev jH:=@List.concat_eq_append.{0}
abbrev gR:=@List.append_nil.{0}
abbrev iY:=@List.flatMap_cons.{0,0}
abbrev kO:=@List.eq_nil_or_concat.{0}
abbrev jI:=@List.append_assoc.{0}
abbrev gJ:=@Nat.le_of_lt
abbrev lX:=@List.getLast?_concat.{0}
abbrev ig:=@Nat.le_trans
abbrev nG:=@List.mem_append_right.{0}
abbrev jJ:=@List.foldl_cons.{0,0}
abbrev oh:=@List.mem_append_left.{0}
abbrev jq:=@List.map_cons.{0,0}
abbrev jK:=@Nat.ne_of_lt
abbrev xD:=@PyProof.Rows.boot_isinstance
abbrev su:=@PyProof.Rows.boot_list
abbrev pJ:=@Nat.lt_of_lt_of_le
abbrev tS:=@List.take_of_length_le.{0}
abbrev oj:=@List.length_nil.{0}
abbrev pV:=@List.length_drop.{0}
abbrev sE:=@List.mem_cons_self.{0}
abbrev xE:=@List.drop_of_length_le.{0}
abbrev pW:=@Option.some.inj.{0}
abbrev xF:=@List.length_replicate.{0}
abbrev vm:=@PySem.W.mg_none_of
abbrev yh:=@List.getElem?_eq_none.{0}
noncomputable section
namespace PySem.W.Fast
local macro_rules |`(universe $i*)=>do return Lean.mkNullNode (←i.mapM fun x=>`(theorem $(Lean.mkIdent (.mkSimple s!"tw{((x.getId.toString.drop 1).foldl (fun n c=>n*62+(c.toNat-(if c≤'9' then 48 else if c≤'Z' then 55 else 61))) 0)}")):ident :True:=⟨⟩))
universe a8KEVbFoEagQ a1lZBcBrpfMn a95DTLQSYizo a5TM5yHIpIcR a7RdyOUkxsKS aJwGtspfUijc aBRLgw0h21ni aF0OW3odkMXv a7C60RTNCJj6 a2i3p528YtZx aFRKtWmXqqgq a8VA6kNAOBsx a8vmFOCD0ufK aC4MhePXtjLN a5iAJBkcz8l4 aDL1i8HfnZhg a4dKEZzk9Ap9 a7kilqq7xACx aH2ve1zJDX8g a2X1AuQyjirq a6scWkmYu1vG aGcfwfkOSNiA a1AOe6iArLug aLeuo2tQ2vSp a5WkL8m9Ha9p aIwxFrmX7sSD a1oSAeX4a6Y0 aIipjo9RrZ8z a2olLeL8WEfw a44dFn5UOLDH aE7Nc3A06fPQ aAfbY8AxtnsP aIJlmHg154iX aDxnxhY4njD2 aLOMKTDN0Udn a7skAvXPdfZW a8F36ZQr6XET aLgLnE6fVWKE aD3QxrU5rUgd aDgQF9lZrGIL ajD0aPY0BON aInjZPOMAMDR aEHPloWyXhpT aCIaGLmHuQBA aGyZGVnP2VcN a3Fey8CM2iQf aLfxiX5iK5DL aALA7mRmwEdg aKoyPeRAy2vk aCacyGV8bnBN a2QTIOi0dsgV a2EQSz8ZIMxB aEmn9mGnpcWJ aCZy6yjfQjCp aECOYMUvxdzt aCwdJ03AbKVW a5REJSQYpkVG aAmn8GQFb4lb aDbNbU0A6cQ7 aHsJS8ynZjPm aH6knsszIgvv a7Zi2i3xaRqM aItyAKg6e4wi aLStQBcJG45z aAUAG0jgzbdj a7DyfR9BP6tE a1Zx9tnjgwza aBfuBMnU5Aw8 a4mfO516data aDUCIP27oU3s aEcPHIGTwTe5 aCX9RO7XC6U3 aHWLdpYuFsf1 aFEfXNlZBQJW aFBOiy3X0LTn a68EtM5OIIsS aHOYypF5f7N9 aC0GLLs7agbh aHp60EF08jfp a1bcoRkvd2cf aBFVkFU9Z75w a376I70ZSn4n a5LZRw4uuJyx a8acHvY5Bp2J a2gMT8Iafq9W a2HcLinBRxXb aHJPSGTewe7t a4POkZb202Zm aLeZuVQjGjqf aEjNPa4meUCb a1sitNHg7pm6 a22jgW5jjqUD aC6wXrGtDeIA aKYUA4ftwTzx aJxWUwcg9X5C a50WzZ2cBaUy aJZEArVAmfwd aBrk5wCeC1h7 aJMu1suLKxXb aFlrNdUtv18h a1fU3hFtm6xu a2oPcIOXYsps a7FzbejXUfq9 aGkXBhe33ReQ a4BDJb6XkJGM a8Nd85jbeBJm a8JnkeWWM2yr a1ReWECUcGqO a3etshpSXzbj aJAQBa6l6ReI a2ESg7tljxGL a9k5i8SXP9Wq aGakvCUOcFSP aGCA20vXdDrT aQNZap3jOru aLKZJ2zqLGs4 a22UsXfQhQPP aIrjogh6aSNb aDPCW83qsCVz a8RoPqzhaYAy a2183izkQVXB a9GgTBcEboxb aJansdwnJdjP aHhoIsxZVdxW aDUNz7Wl8RyZ a5T8D2Ndw0Gb a7SII9MPSmnr a3e7n50NlDEH aFnumiHDHMMf aKFgcxrGh5Cz a9TYNbKdmzst anHFVTFh5G5 aKBC8xkF7DPJ axPPp9O8NEf alXxy1jA6xw aDkiUZ9ZiwHo aH5vZfeySQeJ a7fMPxG1INIL a3BKdGMUCd3w aBZpSqxyPDkZ aX0MMwJPuDO a4mE7iAXDkhC a9EbA6gEBcHt a6HOD73yU3dP a3IQFVed1UAf aFPojxCF44kQ aHOiOXGp57Rw aDpE8GV07MqH aCuieRxJx590 a7lI872AVy5U aD4p7CD8zwzm a9udlXkhmgZA aLW9DGQR6AUM aF62O9DGM0ZD aAxzVYIorypJ aDLGHjkdYGhH aJWy7251RnOp aD0Sfrl95NMR aHIl7ydbkwR9 aDCT294NkaGl aHJrdRkuO7XD aI0OthxLOvPn a4YvKeIbNeEa aHFzs0WjXp19 a1jQ7TpYDf2e aLwhhehjEWKr a3uOtrW9Vyrf aLe0uMCNZRzQ aDM7xU4CNip1 a1zSyl7pkq31 aCT1OstcZ6MF a96S7uk0IuMQ a3DWJ1M0khAm a2iSnhOujdFL aJv5LRoreyWL aDJpXsmkzbtQ aAtT18x4EG9a a7gVjrtEyORi aKjhUre1uC6d aJujinSZxaNj a1oScbBAjrx7 a7aizpgG9n8O a4zTL5Fv6xRN aGBoscbDPhWQ aDqTjGK3hc5l a33LgS6bAn2x a3RtQaLmbvWJ aCfeyMIATE2p aTNiXK6JT1O a3tVmhNzK47j a80w7x7vsdux a5CsxlvIDzns a6U4545wzyuH a9kEaFqlhgtc aoGErM8eJFh aigCroBp6EZ a2aVdOtW7Vs1 a3Xf3Priq3AO aEVIqjzdXtHJ a3DF92yxH8iQ aGAHo7zwMPpo aAxqDfSYAppo a5MfSn20JKQ7 aGAmBu8qFX38 a8csHsEhAspM a2jjXTZ41MF a19UJOYcPFMI a8G0yeHTJ7rl a8TUNbLDuLB2 aGKlI2dkgsMJ a8TsugVx3b96 aATztuq82EBE aKqxRY3KtxzR aCqHoWwrFzne aHeoZFcbI9b4 aEv6Tq5JaF02 a8OkVW0foMY7 aLINgQzZ3wDZ aHl9LGDxwd6V aLJcs1mjaQEf aGy5hXhM8l7 a7BOSaRJjXcg a6WntmYV6aP6 a6zBeifYiDN8 a4vEqi9LaNg8 aLPTmHDI837x a10hVdQOV0Bn a78UKO75DnTd a75lUzJNKBDE aAHR2zBLTTnt aEzVG0VknkQy aBNYmEvZ9AoN aDSx7vVypeWz aAqtSy07eBHm a8qdxplrQ55q a59HFkmNiou1 a9L5CLAGsnUu aJvSlWsEQiu9 a6VzVjJPYFAJ aGpVixuSxwTU aFRKtHuqmL1p aHKnBagTkDD8 aBAMXieqoGmc a4n0hIkPLXn6 a8J97MeCLqV a51o0wRh5P1n aCfyGZivuQWE a3ssHZJaR91C aB0jvgFwDACS aHSlCHHfH7Eb aGTqpJVmpTWX aJvzH7wTLCgL a8hm0m2uuv9S aISNhkMoXjvf aIxcbnTJsPyR aI7W3BJgpc9X aJ6Dgd8LA4l3 a1tWyu78Av1P a2OyUohCAwzL aGIlIC8gpxXC aED5w8NuEL2a a6d7x0P0DYVt aCVNdzEsCdp9 a5tU5swDYKd4 a50WeiXSX6FY aJEdNI9YJsab aJEbYoh0ciqH aCoXwadkQGPh aCB0cNpw0mpo aGFl5EUszA1Q aBl9VEtRfYCc aHr7xbkjP4wK a4mQRdnlFA4H aLAvh58XzhiI aGvAu32GuCu5 aJkcdnlVCliC a3VDlFaSlt4k aEKQeQDv7Djt a6NxGrurdvAj a9eaxeyAYxbf aH52fpI5Fl4K aD2gDiHiOPBS aLM3V6z7n9cw aB6BSMuTKxrz aGQOTkxn3sCz aLL25wB4bqsJ aDVrQgozpq2A a5Z4BbJxii5D aKcJFrUmYEF0 aAvi0JNy7max aDQg1DQD8xB5 a4NVd12psu0K aE7gkQXesjjE aIYTkE4RTa1i aL9xIhmgwpnz aB9YhZm0gqt aAHXDkSknzEw a8hxSlvNYPEQ aGFz1KQeAM4O aLVDmIAz1h51 aDY9bsnoiNbd aEBePVE9iOzT aJH5va7kdOdQ aBl7jdCdliVX aLiJUjGtcLBN a9PJbeqJDxYP a5WVz98YHJ2w aECxxnd3UJnq a3gsjAhmIG8p a7MP6KmJZ2xQ a1immewRvoH0 a9tqm061TiBu aHRSKBlYSXtG a8sGq4sR0BaD a6Z6RXRXkxkD aDAjrZfz5kJT aLSJbbpGDnNw aKv46YdO1HLk aLg95ET916GV aF6CpP7B2XML a69vYuKFuarg aKMMyZp0jhF1 a5uh9s2El8sH a4R4zR6JDV77 aDBcmozjFTPC a1NSfcabBmfL aLKZjCjJYwO0 aEp8AGiMK5c2 a4L6SFbYxqLi a63NHiY4fiNT a8mDpwMe8mSl a2H8RmGIEym2 a61N9lUOelqn aGeiP8JSzV2F a7fdD6Br862K aDrTt70BrjG8 aDMM2fyBvX60 aCilvd9VgE84 aHDKYYmtNU4t aFJxiMExrjJR a1klAtB4xcJM aC64gl9FdecX aDn4BMa6u8HX aF2zK0e16Ypk aH2kzk5psJny aFj6FEX2Ujmz a17ivgQJzRBZ a7NByHVOYHSN aGZiyZmjNNPE aKBKxxb8tmbi aF4U75OeNuln aELNW1UJqlo3 aGX7NhCqJ1gi a2LYG9SNvRFo a3bq0meGNWLo a8skpa5CcmDK aI8EkOuWujLM aFYjnVcNFp4l aBejB0UkTEmA aBp17i4dRzvn aPwIvIt1szx a3OjhoSD245y a2P9kZpGHnzG aFluYR9qveTl a3p31NwjMrPB aH8zkkI14GsY a58b0athb8d9 aA6q43SlDHJP a88nAhXocdZk aGmlG7uyWeB3 aHY7Qt4KqKVv a4V5cCvptdci aC2kFkM39Vn7 aKtRjpujnuJO aC4KSWyNKZSF a28A500Zz84e aIRsahC4fE6o aANp6haqJb7z a9JsRaBsy9ns a1aYuQ80PCdS a8StqiYnvaGy aEQEyHeqYwaG aIeM9iUQRnz8 aDSQyOlvQPSi aEK2rTtEfmBQ aLiWn8FuK3iI a5eJfjHGVEg3 aAdNbhwH5vVK aEc1FxVX7fkj aw51rhDLL3C aC5058mxFRk a4Ndv6pEeW2q a3nyY45402q3 a6SkLHAeSRAB a2UOO4WhDTw0 a5xzL0JItV97 aKClXt9XMWMz a5CqpCD0UsNw aBjzHUhpWiM5 aJsanVTMVutR aLTRYNnnXZ52 aC8TtBxlnMeU aEyerr6QvNMo aGcYdgNR8ygD a9qCyxDUZItm aCz8ObC9qiOM aHBRSpkK7Nss a70Le43HxXcm a8Qsm4zNILUb a2JHXOJ9rqeL aBCIHIEaraGi aFolgBroAxcP aFvHdBLGvQcf aKgzRMWCRWdW a3sQNcaBQ0iR a6R5RaS1jmox a1PhgyzfglZw aEBOLcWCMYss aBw62TzkyXkf a4U1SkbZPmMQ aFy5l4TBd0yP aHREErlZB59h a8VPOEj4YeSX a2uFbIHHOnZw aHPCJZ2S0t7P aDDR6pn7NeDw aLKsuZqB8cR4 a5tEHSP6r61a a2iWnyOvKFF9 a7o80iAJQV6x aA3NFUVOKAFf a8QNdm866VCr a3frTI0eR2DE a7yiNHSYuvA5 aKnG5J0SPzYW aE3kCTudgyf7 aJgAtTqnzTJQ aL4TR9b5MphJ aLN2Fhxi8p7g a5FkUyHJKDVl aAfIVKby6422 aHT7p1UvmtwF a2NVoOfls9vj a1cHH9LPb82i a2oMuD0vTKTI aD7r8rJb5jDB a7ghawAmbnFs aGUV6xT1DVRo a1XQSPS3ShFq aGwL5SiBkcUZ aGPCeEtAMuUr aJQlb7WJhuEW aEVUZH1mltur a4fByCk1mgkA aGHspsagXgBD aIjrvg71XDNP aIqWfJUOuXtN a18GjzUi6awZ aFlnYuOyKPn5 a4oPk6OSTxMf aCMkpfHHloQk a17BcvvpZWcr aKlnytKCF3Tp a7m4BkkPSnDn a2J4ptDbk42u a6qig3fvBMC aDOCRnEnej1j aHwwxQUifcMo aCwGEPQVcJp3 aE6qJh0PqkiG a1BIlYERNkUa a3dCWEVxl8ej a5PRfXcPecGP a6Gq4GmmaEbH aKTqoY3utbQr a45dP7uKJNU aJrW2Jz6XN6P aIwGxRKiyOjh a2d79qbNnx7q a2RSM9hjh5dJ aG5OPj9i4XUu aLcAUb6455Hr aJDogyMIEQdg aIhGDPXiynSl aJZ5IvqDI1kc aCkBlH3Mgbp8 aKnUgFsRTQZm a6tS64GeaNTZ aHmCO6xJwEoK aG3tvZVuNhBE a7rH0gi9uTsK aIWMixqLwVPS aJu1xJtxjB1U aBQvLQsNbhSP aJxhF62xffyU aH29w5DoT9cW aHe6i3CkIp6M aCLMHC3rFl56 a5svmWGGpwoQ a8EBHKGlolDl aI09HZFzMWxG aF2dmdCRM9fo aDE8Iwbr8gPh a4q7IsTPQEa7 a3HgjP7p5BWw a5uKMPRut2Zr a8PZskEZ5oD0 a57M5a9Y8E4Y a1R4KMT2TYMC aFje1OM6PTGG aABjYOtRUmiP aLVseX8nGZVu aL5HhwNw6xd7 aAEtri7f7uGK a84AetKShPo3 a7q8T1Dy14LA aL86hMrRjGoa a1aUVRGLI9oT aLOMV4M2o83g a1sL5GFVdd4Q aI2Kru0Cp8C7 aG7wQ1lvSupq a3QymQTsOYXl aD9hNkNnYla aLy6eyUUSJwq aHj7p0YHMWqd aCwEDdRTJvOx a6LlU8VtqmIv a4KXOC0ocTxo aBlGjFPSOmOI aKFjiiknB99p aJ5vlzUq6lhL aYCGIPWmECU a6O7hOlCs8nI a16M6is8dGug aDEM5opwjsdI a8rIhFc2MXrZ a4UwWbEFH5HN aL38AytVegHl a4E1PKvorDgE a5WSmF3tgZrp a4HwjNc7A7bG aFdRTKB02pNK a7wMePXaxoyP aSZ04LuTprF aLPEXjuQ9wme aF8CdlGYpvY7 aIpdNg2ufZ7A a4YKGrMlTSaH atnkgrDIfph aLPN8VHWyGeQ a2WDEdG2lhvL aLdRFJ9YuRKX a3aCj6ZMLmuS a4ZDlDEpXFgA a47rdRx6BSCz a7XfjrfepkQ2 a7xzCiCf5pI8 aKWCMhqnaqFq aBpW4UeFoCxo aGNfT8ZQLFzC aB6zuP04O00t aCpfFSMlxfvD aIuMPlT3ZV9k a6CUy93oVrnr aKxFc1r7pgAe a1c7w4w2fIym a4c0dZ02DUZS aDTwzrLn4wvF a6AZB4u8B7zH a3xmzAxcM9jZ aEhccM3UtL2K a8c9yQOZRRd9 a9xbqWIwutCu a3iWE5OonBnQ aK4jS8B8vMMP a3EZkzfjSlB9 a3NVGfEviyRx aAF6iRFHGQ7z a1LWg6Vt4u22 aLw1111wSiOP aFmp35dQ015 aIvkX8DsGOBD a1PYVKoZGgSo a7Y6JugQA1R1 aLeJXelS4Wcv a1eMkORmaiCu aKoo8FlrkAPc aEE6O1RpeUFD a7RyeBZJPXsq aLZww0Fr4qDy a7bLbu6CP8Qq a54jlIzM1CA8 aIwFWWl8f9Kz a7E2Io6qjbx8 aIvGIUHdPrNp aA2ZvzvO3vJs aBTQak2v7W64 aDcr6QDuPWfz a10pk6DlxP1l aB4uaHssjI5P aGOxTIzElHY5 aIr4D13xxpLA aENihmY5UyWC aJehD9JWhKNz aKtBapoWonWR aJ24htU9v8Ty a9pHlP8maLpz aCUSf6WW8Hmj aBB8k8n6XrRB aFJDp5lm7giA a8T007Z3NRVq aQVtbfRzw8f aLcwuRkQprSH aGcOPyixHW3T aBpptZpXBUQ5 aKB7mz9FjnNI a9fDxfyejnwM aAiWC4e1pzuB aClixq6M6IsG aCzxZFh2H2pq aEIgcfJANbuB a9n9JVz4pdzZ a8lgcTlWwjr4 aI5vCgdOhAWx aLfqPM2dKGPI a350ErpPhrPL a1KWdt7b5drk a6t1cGfFIhmA aHl9uT2UMnDI aFqXJjfFyoJq a1Sq9FRqYqUg a2n5dtwu6u05 a82J90MlLwlf a4AcrCagYwwD adTLdQpYwlI azVA9L6qIS5 aG251TT9z9VW ay9uvmVBn0n a8X5qxNXji6V a9U6q4ZpHfno aH0OIAwtXZZy a3H9P3bwS4km aC9Lf1TBsNbG a5EK0vNhtCdT aAJxdfcdW3VA aCXIHutmRRJ1 aN2Jvqi29fd a46vk78i6zNb aCf01NmTUE57 aJGv5l19pa4l a6Dr5jbdSbnH aK6ExvprT4Dp aLlhm48nXlWU aE4K0BOmj9hG a27suxlnbiqj a6M1Klh6cHNx aKJ4F6nseQ4R a4htPJ4O6RD4 aE4N1vxzdXY a1gcC7rMlFNj aDR6kLyLSELe aITx7ztRV01w aBhlxinAjx5y aAzwWGWtNNAX a4vyuuSNudrl a9HimJWLqSgq aGlP67UMHoWr a5wGQziRJcDT aISNJMDq4zQA aCyhjxm8C7z9 aKbFVMuZQrUR aKvRhK9nx11q aBdNtPO4sYLc aDQBY65JTc5E aL0GszmSBVdh aQ26s2RKP4g a2wecELEvZio a8EXnIN4HmyJ a9MDOgi0SNkk aHCcARl6rrj6 aKTMvzf207xD auW1RS3IcJW a4FMKchtUkXh aJZIZA4iD3u0 a5I0LWZagLB5 aCLh2e2CSWJi aEnKQNBnjmWk a3s7TUhj0Plf a1Ct1vWsKO8R a3G14FBYteD aESSTfC9jc5E aHZUnZ48ss3G aL5ZRMJ8g8k3 aEd50l0XB5ML a8l3iWt1HsCN aM860HlVu9H aCB0IZXtMeAY aJ5heYz6yHnZ aJ63PSwtedPq a26ri9O4ROHk a88DP8pP10wp aIX3bFKI7W89 aXy1JxqQp80 aC8zOxRbEBpi aAs8e90eIpZo a7cBugMLtGeS a7hKsy5fLCXW a7ixOpLCr2Pf a9Y60sj5vfhD aCg2kld1Mctg aBlXGYs12l0D aGAgxWSAGgj4 aJq6xkezy0QA aKlYpn6S3OFW aEoKq8ydjsbk aH0NYD89rmp8 aKA16y9m34mR aGfl2WyFPz5k a1BZLYcTOLVb aDngjyhR7jks aK6vT3vflPhx aHHfZJyFMzBa aKNEXdb39g7E aDy9g58HnTcr a6GydM1gPXuI aE0E9jdbwVq9 aALY2vxVzgai aA5welWOm3dR a86sivN0f5zP a1EO1Dmtdh8a a90aUbUNteja aApIEKNFeCEF aJJZBbisfVwo aHeLO18uXrn0 aBEJet2NBEEe aHuCGmMRItg5 aDdLyf3FSTYA a33cNKZ1yTx7 a6SZ9BadMysb a3ws45IefIsM aBePqunbwTKC a4Vzx1L1WbDx aJ3SBFtNhIY6 a6Ysrax3tDCp aHIw8JMhOw9k a2EBkiUIMeCc a7w0fGpUdRGU a2n9kBOuylTL aIcvGqowJvJ7 a8YSGYuqmjn6 aAnCmjtNvhgt aF5hONLlA9a4 aAdENosDObyx aK9iZWleOawq aJS6K4ucMbqs a35DKuDWQqyc aAIsoYR9MBuH aE7xnAh1pDmf aVDMw5WByr1 a7i0SB2dPMAA a8dtXWK86KRT aGG64dtfO4oy aHPMle8q2Xoe a7YoYd1WkZxR aLxdQtAXmP5b a2suCcxbYbSW aFnXtE2MRkbk aLn7TyuMmE2D aAJ02J2FF6ul aXTADBSTEF2 a7t2Iwe7cYn7 a4BCnlCmIPPe a506YPcp6hJj a7HYJns7bU7b aJeJF4v3zhw4 aDQN3RXRl2cQ aFV2teSwK3pl aLffisEmyXXr arM2vhBwI7H aJpYxk7qThPm aAOBY3cE1m4G a9cMTOIk3Zh8 a8w7lrO2sUry a162r95Iggss aH6W9zRC2u1W aK5kjM1TMPpC aB2i53V70O0G a2oXL5N6097H aGzvInPEhivu a4WCWdXOew1V a3lxTVAi3yOi aJlWeEsvRvhL aHwcaVHDzb1E aEKolwC8ibfO aAkMsPprK5eB a7ZynuhjXBqJ a3VEJUOjEXkX a8CmdHs1NeAe a3EIjrx1CUyb a9gfjPCnWwCO aIxTS2N32SQD a6P1A7zodJPA aLjwpkYVuVL2 a8pqhAguRNrc aHqLBIASQLq9 aCChiyGTKdRs aGFXwUuQopPQ a7RSeL6JXy9m aFhEEdUUgBMS a3edmwlgO9tq a7J8e4nA3KwI a3EzLkrtZ3JC aCw8m5OuS3a4 aIQnVPhE7ad5 aAaOjANKLne5 aK3Ml7Ah69LR aBiDQmfnHGao aoaOnvfhEGn aJdbyNGLWL3c aDg5XkkcAS9Y a8DLKEHxRMKd aAkZOi7hkGMG a25u2G3ZAoby aL8EqiaXOexl a6RuUYubIztC a5bWJlMKblJh a7szTSnz2z7Y aAtQXkx7OQ3D a2Msjtg724s4 a9Tvy9cgxeHG aIciuu337Gum aELviiDgGRDC aJitr1zZWS7q aGpfbE3ySk1U aLsue4KneeEr aCukdh1Rau34 aI32nNWM6BDd aVh0OBWMN4A a5iQSo87xLoH aECVH1MnIBL7 a1eW6LtVcKE0 a3Fe7rSHs4S a5p6cqNxomJk aGwvOWg9Dznq a9tuCbiviaPR a6XhiYaH9SLn a7nnhakw5sfx a4KnIqUUMMT0 aK6p5au0N7tU aDusOL5OBLDA aF6zUfNLFcHT aGquJ01ZJRvD aKpLUFfFDpra a4jXQBkgTG26 aGjl8oxRDIT0 a6HHUmAjpPJY aDxQ6PURNpQO aIzS25uJ4tIf a4OJ88mz0Ls1 aJUiAE4rF0Wg aD9VzDSn751K a90iJe1DZAG6 aIPQVrAsUARc aInk3umouMaa aCBCu2iaOK9f aLd3lPdCAkab a39MFOpNCAH aAYngtLyRiTA a6FV6Oc3WEui aGM8WL9ACYZr aHoAoYIWVlYI aIlj7aDi926P a5sMcIsBWNdB aIaeP6EJEEPE a124fO4aWLAH a7QWumuKOLFL aEF7gZcVutXS a6fiBnNncDG6 aJJeQuRhvJkC a7YPK1K55r3U a6UExDOwquLV a9ROMhGE4zYo aL34iN4dy0ca a9R7UBThVj6Z aAOICH5u866A a5w6IuurLb9 aKrF5vCv0p0E aEz66TiiURDJ aBjFwmspFXUG a8RNi3xI0W4N a5G6rYK5t7zR aFK3b9btMheU aFuFWaj5TFYR a7Qpz76LUeMr a6JfVVqrkCY9 a7G9No41Txuq a4krx9y53jXw aDcyZEdYUQ86 aDcPSs6ZP9S7 aICQ611hi57H aI5XwaAHpSF7 a3BxV564N8Ql a3EkwnX8mBqv a6hflJqHF0aQ
end PySem.W.Fast
end
namespace InkHd
open PySem PySem.W PyProof.Rows
def fr(o:Obj):=match o.data with|.freed=>none|_=>some o
noncomputable def pk(s:List Obj):Nat→List Nat→List (Option Obj):=s.rec (fun _ _=>[]) fun o _ h i l=>l.rec [] fun a r _=>(i.beq a).rec (h (i+1) l) (fr o::h (i+1) r)
theorem ps:∀(s:List Obj)(i:Nat)(K:Frag),pk s i (K.map (·.1))=K.map (some ·.2)→∀ a b,K.lookup a=some b→∃ n u,a=i+n∧s[n]?=some u∧fr u=some b
|_,_,[],_,_,_=>nofun
|[],_,_::_,e,_,_=>nomatch (id e:[]=_::_)
|o::s,i,(c,d)::K,e,a,b=>by
 have f:((i.beq c).rec (pk s (i+1) (((c,d)::K).map (·.1))) (fr o::pk s (i+1) (K.map (·.1))):List _)=((c,d)::K).map (some ·.2):=e
 have g:(∃ n u,a=i+1+n∧s[n]?=some u∧fr u=some b)→∃ n u,a=i+n∧(o::s)[n]?=some u∧fr u=some b:=fun⟨n,u,h,k⟩=>⟨n+1,u,by rw[h,Nat.add_assoc,Nat.add_comm 1],k⟩
 cases z:i.beq c with
 |false=>rw[z] at f;exact g∘ps s _ _ f a b
 |true=>
  rw[z] at f;injection (id f:fr o::_=some d::_) with p q;intro h;rw[List.lookup_cons] at h;split at h
  next t=>cases h;exact⟨0,o,(eq_of_beq t).trans (Nat.eq_of_beq_eq_true z).symm,rfl,p⟩
  next=>exact g (ps s _ K q a b h)
noncomputable def kF(K:Params→Frag)(l:List Addr)(e:∀P,l=(K P).map (·.1)):Hook where
 α:=List (Option Obj)
 obs s:=pk s.heap.objs.toList 0 l
 val w:=(K w.params).map (some ·.2)
 says:=InK K
 of w s h a o k:=by
  obtain⟨n,⟨_,_,d,_⟩,p,q,r⟩:=ps _ 0 _ (e w.params▸h) a o k
  rw[p,Nat.zero_add];unfold Heap.get?;rw[←Array.getElem?_toList,q];cases d<;>first|exact r|cases r
 keeps:=(kHook K l e).keeps
theorem kIn_of{K:Params→Frag}{e:∀P,l=(K P).map (·.1)}(Y:(kF K l e).says w h):(K w.params).In h:=Y
local macro_rules |`(tactic|o_head ($_:ident $K $l $e))=>`(tactic|o_head (kF $K $l $e : Hook))
set_option maxRecDepth 100000 in
set_option maxHeartbeats 0 in
open_top hd_k44 for PySem.Challenge.rw_inkroot_k44_blots_in_sheets
end InkHd
noncomputable section
local macro_rules |`(def $d:declId $s:optDeclSig $v:declVal)=>Lean.MonadRef.withRef .missing do if v.raw[1].isOfKind ``Lean.Parser.Term.byTactic then`(theorem $d:declId $(⟨Lean.mkNode ``Lean.Parser.Command.declSig #[s.raw[0],s.raw[1][0]]⟩):declSig $v:declVal)else`(noncomputable def $d:declId $s:optDeclSig $v:declVal)
local macro_rules |`(abbrev $d:declId $s:optDeclSig $v:declVal)=>Lean.MonadRef.withRef .missing do`(noncomputable abbrev $d:declId $s:optDeclSig $v:declVal)
local macro_rules(kind:=Lean.Parser.Command.declaration)|s=>match s.getHeadInfo with|.original ..=>return s.setHeadInfo .none|_=>Lean.Macro.throwUnsupported
set_option hygiene false in
local macro_rules|`(tactic|bv_omega)=>`(tactic|(first|assumption|(show List.Nodup [_];decide +kernel)|(show List.Nodup [_,_];decide +kernel)|(show List.Nodup [_,_,_];decide +kernel)|(show List.Nodup [_,_,_,_];decide +kernel)|(show List.Nodup [_,_,_,_,_];decide +kernel)|(show List.Nodup [_,_,_,_,_,_];decide +kernel)|(show List.Nodup [_,_,_,_,_,_,_];decide +kernel)|(show List.Nodup [_,_,_,_,_,_,_,_];decide +kernel)|(show List.Nodup [_,_,_,_,_,_,_,_,_];decide +kernel)))
set_option hygiene false in
local macro_rules|`(tactic|bv_decide)=>`(tactic|(intro _ _ _ _ _ _;first|exact gk λ_=>rfl|exact gl λ_ _=>rfl|exact gq λ_ _ _=>rfl|exact gs λ_ _ _ _=>rfl|exact gt λ_ _ _ _ _=>rfl|exact hG λ_ _ _ _ _ _=>rfl|exact ge rfl))
set_option hygiene false in
local macro_rules|`(tactic|bv_normalize)=>`(tactic|(first|exact .inl rfl|exact .inr rfl|assumption))
set_option hygiene false in
local macro_rules|`(tactic|ac_nf)=>`(tactic|(first|exact Ex _ (by decide) (by decide)|rfl))
set_option hygiene false in
local macro_rules|`(tactic|ac_rfl)=>`(tactic|(first|exact Or.inl rfl|exact Or.inr rfl))
set_option hygiene false in
local macro_rules|`(tactic|and_intros)=>`(tactic|(first|exact Or.inl rfl|exact Or.inr (Or.inl rfl)|exact Or.inr (Or.inr rfl)))
set_option hygiene false in
local macro_rules|`(tactic|clean_wf)=>`(tactic|(intro _ _ _ _ h;cases h;subst_vars;rfl))
open PySem
open PyProof
open PySem.W (Frag InstAt callWith_K callWith_K0 cellsFrom_some codeIn emptyDict findIn fnOf handedIn hasDictIn instObj isFn kIn_of keepIn kia_one kitOne kitx_dict kitx_list lookIn makesIn methodCall_KW methodObj mg_of mroIn nsIn plainGet plainGet_of plainOver takerIn typeIn)
local macro_rules
|`(⟨$a,*⟩)=>do
 let mut z:=#[]
 let mut c:=false
 for x in a.getElems do
  if x.raw.isNatLit?==some 1 then
   c:=true;z:=z.push (<-`(rfl))
   continue
  match x.raw.getId with
  |`Z=>c:=true;z:=z++#[<-`(_),<-`(_),<-`(rfl),<-`(rfl)]
  |`Y=>c:=true;z:=z++#[<-`(_),<-`(rfl)]
  |`V=>c:=true;z:=z++#[<-`(rfl),<-`(rfl)]
  |`K=>c:=true;z:=z++#[<-`(_),<-`(_),<-`(_)]
  |`P=>c:=true;z:=z++#[<-`(_),<-`(_)]
  |`Q=>c:=true;z:=z++#[<-`(by lia)]
  |`E=>c:=true;z:=z++#[<-`(by decide)]
  |_=>z:=z.push x
 if c then`(⟨$z,*⟩)else Lean.Macro.throwUnsupported
local macro_rules|`(tactic|exists $a,*)=>`(tactic|refine ⟨$a,*, ?_⟩)
set_option hygiene false in
local macro_rules|`(‹($a,$i,$p,$s)›)=>`(∀D:Ds K mg aZ bf C CS CW CB CT CD,bg P w K mg zt cO $a (aZ $i) (bf $i) $p $s)
set_option hygiene false in
local macro_rules|`(class inductive $n:declId $b:bracketedBinder* $c:ctor*)=>Lean.MonadRef.withRef .missing do`(inductive $n $b* (vs:List V)(H:Hp)(Q:VK)(E:XK):Prop $c:ctor*)
set_option hygiene false in
local macro_rules|`(tactic|specialize $e)=>`(tactic|refine $e λcZ A zn s0 H vs Q E hr _ h=>?_)
local macro_rules|`(nofun)=>`(by decide +kernel)
local macro_rules|`(∅)=>`(by lia)
local macro_rules|`(↑$x)=>`(($x).length)
local macro_rules|`(⇑$x)=>`(some $x)
local macro_rules|`(↥$x)=>`(.ref $x)
local macro_rules|`(tactic|let $p:term:=$e)=>do
 let rec go:Nat->Lean.Term->Lean.MacroM (Lean.TSyntax `rcasesPat)
  |0,_=>Lean.Macro.throwUnsupported
  |n+1,t=>do match t with
   |`(⟨$a,*⟩)=>
    let b←a.getElems.mapM fun x=>do`(Lean.Parser.Tactic.rcasesPatLo|$(←go n x):rcasesPat)
    `(rcasesPat|⟨$b,*⟩)
   |`(_)=>`(rcasesPat|_)
   |_=>`(rcasesPat|$(⟨t.raw⟩):ident)
 `(tactic|obtain $(←go 9 p):rcasesPat:=$e)
set_option hygiene false in
local macro_rules|`(#[$a,*])=>do
 if a.getElems.isEmpty then Lean.Macro.throwUnsupported
 let mut z<-`(ah)
 for x in a.getElems.reverse do z<-if x.raw.isOfKind `num then`(aa (pv $x) $z)else`(aa $x $z)
 return z
set_option hygiene false in
local macro_rules|`(#v[$a,*])=>do
 let e:=a.getElems
 let mut z<-`(au $(e.back!))
 for x in e.pop.reverse do z<-`(aj $x $z)
 return z
local macro_rules|`(tactic|let $d:letDecl)=>if d.raw[0].isOfKind ``Lean.Parser.Term.letIdDecl then`(tactic|have $d:letDecl)else Lean.Macro.throwUnsupported
abbrev ZB:=Value->Shared->Prop
abbrev Y2:=Int->List Int
abbrev Y1:=Addr->Prop
abbrev Ya:=Str->Option Value
abbrev X2:=Result->Shared->Prop
abbrev X1:=Array Rows.Keyed
abbrev XB:=Option Value
abbrev Xt:=Array Value
abbrev WP:=List Value
abbrev WF:=List Addr
abbrev Wp:=List Int
abbrev UV:=List Str
namespace _L2
open Spec Rows
abbrev fK:=Sum Int Str
def yi:fK->Value->Bool
 | .inl k,v=>Value.isInt k v
 | .inr x,v=>Value.isStrOf x v
def mx(w:World):fK->Int
 | .inl k=>hashInt k
 | .inr x=>hashStr w x
theorem fN:∀ {k:fK} {v:Value},yi k v=true->(∃ i t,k=Sum.inl i/\v=Value.int i t)\/(∃ x t,k=Sum.inr x/\v=Value.str x t)
 | .inl i,v,h=>by
  let⟨t,e⟩:=Value.isInt_shape (k:=i) (v:=v) h;exact .inl ⟨i,t,1,e⟩
 | .inr x,v,h=>by
  let⟨t,e⟩:=Value.isStrOf_shape (x:=x) (v:=v) h;exact .inr ⟨x,t,1,e⟩
def KP(i:Int)(t:Tok):yi (.inl i) (.int i t)=true:=by simp[yi,Value.isInt]
def KQ(x:Str)(t:Tok):yi (.inr x) (.str x t)=true:=by simp[yi,Value.isStrOf]
def Vv(a b:Int):decide ((Sum.inl a:fK)=Sum.inl b)=(a == b):=by
 by_cases e:a=b
 ·subst e;simp
 ·let h:¬ (Sum.inl a:fK)=Sum.inl b:=λq=>e (Sum.inl.inj q);rw[decide_eq_false h];exact (beq_eq_false_iff_ne.mpr e).symm
def Vw(a b:Str):decide ((Sum.inr a:fK)=Sum.inr b)=decide (a=b):=by
 by_cases e:a=b
 ·subst e;simp
 ·let h:¬ (Sum.inr a:fK)=Sum.inr b:=λq=>e (Sum.inr.inj q);rw[decide_eq_false h,decide_eq_false e]
theorem Vx(a:Int)(b:Str):decide ((Sum.inl a:fK)=Sum.inr b)=false:=decide_eq_false (λq=>nomatch q)
theorem Vy(a:Str)(b:Int):decide ((Sum.inr a:fK)=Sum.inl b)=false:=decide_eq_false (λq=>nomatch q)
def fC(d:Program)(w:World):PySem.KeyKind d w fK where
 is:=yi
 hash:=mx w
 inj:=λv l m f c=>by
  rcases fN f with ⟨i,t,rfl,rfl⟩|⟨x,t,rfl,rfl⟩
  ·rcases fN c with ⟨j,u,rfl,e⟩|⟨y,u,rfl,e⟩
   ·injection e with a _;rw[a]
   ·exact nomatch e
  ·rcases fN c with ⟨j,u,rfl,e⟩|⟨y,u,rfl,e⟩
   ·exact nomatch e
   ·injection e with a _;rw[a]
 byValue:=λk v h=>by
  rcases fN h with ⟨i,t,rfl,rfl⟩|⟨x,t,rfl,rfl⟩ <;> rfl
 pyHash:=λb h=>by
  rcases fN b with ⟨i,t,rfl,rfl⟩|⟨x,t,rfl,rfl⟩
  ·exact wpAny_pyHash_int h
  ·exact wpAny_pyHash_str h
 eqBool:=λg b h=>by
  rcases fN g with ⟨i,t,rfl,rfl⟩|⟨x,t,rfl,rfl⟩
  ·rcases fN b with ⟨j,u,rfl,rfl⟩|⟨y,u,rfl,rfl⟩
   ·rw[Vv]at h;exact wpAny_eqBool_int h
   ·rw[Vx]at h;exact SeqAt.EqAt.int_str i t y u _ _ _ _ h
  ·rcases fN b with ⟨j,u,rfl,rfl⟩|⟨y,u,rfl,rfl⟩
   ·rw[Vy]at h;exact SeqAt.EqAt.str_int x t j u _ _ _ _ h
   ·rw[Vw]at h;exact wpAny_eqBool_str h
 «strs»:=λk x t v h=>by
  rcases fN h with ⟨i,u,rfl,e⟩|⟨y,u,rfl,e⟩
  ·exact nomatch e
  ·injection e with a _;subst a
   cases v <;> rfl
theorem Er(a:Program)(w:World)(i:Int)(t:Tok):(fC a w).is (.inl i) (.int i t)=true:=KP i t
theorem Es(a:Program)(w:World)(x:Str)(t:Tok):(fC a w).is (.inr x) (.str x t)=true:=KQ x t
end _L2
namespace _L2
open Spec Rows
inductive V where
 | fQ | bl (b:Bool) | int (i:Int) | str (x:Str) | G6 (b:Array UInt8) | Um (b:UInt64) | ref (a:Addr) | ty (n:String)
 deriving DecidableEq
def RelV:V->Value->Prop
 | .fQ,u=>u=Value.none
 | .bl b,u=>u=Value.bool b
 | .int i,u=>∃ t,u=Value.int i t
 | .str x,u=>∃ t,u=Value.str x t
 | .G6 b,u=>∃ t,u=Value.bytes b t
 | .Um b,u=>∃ t,u=Value.float b t
 | .ref a,u=>u=Value.ref a
 | .ty n,u=>u=Value.type n
abbrev cD:List V->List Value->Prop:=Paired RelV
theorem cD.length{a:List V}{b:WP}(r:cD a b):↑a=↑b:=Paired.length r
theorem cD.get:∀ {a:List V} {b:WP} {i:Nat} {x:V},cD a b->a[i]?=⇑x->∃ u,b[i]?=⇑u/\RelV x u
 | _,_,_,_,.nil,e=>by simp at e
 | _,_,0,_,.cons r _,e=>by simp at e;subst e;exact⟨Y,r⟩
 | _,_,i+1,x,.cons _ t,e=>by
  let⟨u,c,d⟩:=cD.get (i:=i) (x:=x) t (by simpa using e);exact⟨u,by simpa using c,d⟩
theorem cD.set{x:V}{u:Value}(r:RelV x u):∀ {a:List V} {b:WP} (i:Nat),cD a b->cD (a.set i x) (b.set i u)
 | _,_,_,.nil=>.nil
 | _,_,0,.cons _ t=>.cons r t
 | _,_,i+1,.cons q t=>.cons q (cD.set r i t)
def cD.append{a b:List V}{c d:WP}(h:cD a c)(s:cD b d):cD (a++b) (c++d):=by
 induction h with
 | nil=>exact s
 | cons r _ e=>exact .cons r e
theorem cD.take:∀ {a:List V} {b:WP} (n:Nat),cD a b->cD (a.take n) (b.take n)
 | _,_,0,_=>.nil
 | _,_,_+1,.nil=>.nil
 | _,_,n+1,.cons r t=>.cons r (cD.take n t)
theorem cD.drop:∀ {a:List V} {b:WP} (n:Nat),cD a b->cD (a.drop n) (b.drop n)
 | _,_,0,r=>r
 | _,_,_+1,.nil=>.nil
 | _,_,n+1,.cons _ t=>cD.drop n t
def pK:Option V->Option Value->Prop
 | some v,some u=>RelV v u
 | none,none=>True
 | _,_=>False
def KV{a:Type}:List (a × V)->List (a × Value)->Prop:=Paired λ(p:a × V) (q:a × Value)=>p.1=q.1/\RelV p.2 q.2
def kV:fK->V
 | .inl i=>.int i
 | .inr x=>.str x
inductive HO where
 | lst (a:List V)
 | tup (a:List V)
 | dK (b:List (fK × V)) | dT (b:List (List fK × V))
 | set (d:Int->Bool) (n:Nat)
 | ins (C e:Addr) (c:List (Str × V))
 | own (x:Addr)
 | xd (c:List (Str × V))
 | met (f x:Addr)
 | Et (lo g:Int)
 | Jv (o:Obj) (u:HO)
 | Uo (h:Xt)
 | ext (i:Heap->Prop)
abbrev Hp:=Addr->Option HO
def aO(H:Hp)(a:Addr)(o:HO):Hp:=λb=>if b=a then some o else H b
def af{H:Hp}{a:Addr}{o:HO}:aO H a o a=⇑o:=by unfold aO;rw[if_pos rfl]
def aL{H:Hp}{a b:Addr}{o:HO}(h:b≠a):aO H a o b=H b:=by unfold aO;rw[if_neg h]
def cQ{H:Hp}{a b:Addr}{o u:HO}(h:H a=⇑o)(c:H b=⇑u)(d:o≠u:=by intro z;cases z):a≠b:=by
 intro e;subst e;rw[h]at c;exact d (pW c)
def aA{H:Hp}{a b:Addr}{o:HO}(h:H a=⇑o)(c:H b=none):a≠b:=by
 intro e;subst e;rw[h]at c;cases c
section
variable (P:Program) (w:World)
def gh(H:Hp)(h:Heap)(a:Addr):HO->Prop
 | .lst b=>↑b<=sizeLine/\∃ (c:WP) (n:Nat),cD b c/\h.get? a=some { cls:=.type "list",data:=.seq c.toArray n }
 | .tup b=>↑b<=sizeLine/\∃ c:List Value,cD b c/\IsTup h a c.toArray
 | .dK c=>↑c<=sizeLine/\(a == sysModules)=false/\∃ b,KV c b/\h.DictOf (fC P w) a b
 | .dT c=>↑c<=sizeLine/\(a == sysModules)=false/\∃ b:List (List fK × Addr × Value),
   Paired (λ(p:List fK × V) (q:List fK × Addr × Value)=>p.1=q.1/\H q.2.1=⇑(.tup (p.1.map kV))/\RelV p.2 q.2.2) c b/\
   ∃ o c d,h.get? a=⇑o/\o.ExactDict/\o.data=.dict c d/\c.toList=b.map (entryOfKey (tupleKind (fC P w)))/\(b.map (·.1)).Nodup
 | .set S n=>h.SetOf (intKind P w) a S n
 | .ins C d c=>H d=⇑(.own a)/\↑c<=1000/\d≠a/\h.get? a=⇑(instObj C d)/\
   ∃ b,h.Ns1 d b/\(∀ f,pK (c.lookup f) (b f))/\PySem.Within b (c.map (·.1))
 | .own _=>∃ o,h.get? a=⇑o
 | .xd c=>∃ b,h.Ns1 a b/\∀ f,pK (c.lookup f) (b f)
 | .Et lo hi=>∃ t u v,h.get? a=some { cls:=.type "range",data:=.fields (List.toArray [.int lo t,.int hi u,.int 1 v]) }
 | .Jv o u=>h.get? a=⇑o/\gh H h a u
 | .Uo b=>h.get? a=some { cls:=.none,data:=.fields b }
 | .met f x=>h.get? a=⇑(methodObj ↥f ↥x)
 | .ext b=>b h/\(∃ o,h.get? a=⇑o)/\∀ c d:Heap,b c->(∀ o,c.get? a=⇑o->d.get? a=⇑o)->b d
def tQ(H:Hp)(h:Heap):Prop:=∀ a o,H a=⇑o->gh P w H h a o
end
section
variable {P:Program} {w:World} {H H':Hp} {h h':Heap} {a:Addr} {o:HO}
def gh.lt(x:gh P w H h a o):a<h.objs.size:=by
 cases o with
 | lst b=>let⟨_,_,_,_,e⟩:=x;exact Heap.lt_size e
 | tup b=>let⟨_,_,_,p⟩:=x;exact p.lt
 | dK b=>let⟨_,_,_,_,o,_,_,e,_⟩:=x;exact Heap.lt_size e
 | dT b=>let⟨_,_,_,_,o,_,_,e,_⟩:=x;exact Heap.lt_size e
 | set S n=>let⟨o,_,_,_,e,_⟩:=x;exact Heap.lt_size e
 | ins C c b=>let⟨_,_,_,e,_⟩:=x;exact Heap.lt_size e
 | own y=>let⟨_,e⟩:=x;exact Heap.lt_size e
 | xd b=>let⟨_,⟨_,_,_,e,_⟩,_⟩:=x;exact Heap.lt_size e
 | Et lo hi=>let⟨_,_,_,e⟩:=x;exact Heap.lt_size e
 | Jv b u=>let⟨e,_⟩:=x;exact Heap.lt_size e
 | Uo b=>exact Heap.lt_size (show h.get? a=⇑_ from x)
 | met f y=>exact Heap.lt_size (show h.get? a=⇑_ from x)
 | ext b=>let⟨_,⟨_,e⟩,_⟩:=x;exact Heap.lt_size e
def Paired.AB{b c:Type}{d G:b->c->Prop}{e:List b}{f:List c}(h:Paired d e f)(i:∀ a g,d a g->G a g):Paired G e f:=by
 induction h with
 | nil=>exact .nil
 | cons r _ j=>exact .cons (i _ _ r) j
theorem gh.stay(x:gh P w H h a o)(k:∀ b u,(b=a\/H b=⇑(.own a))->h.get? b=⇑u->h'.get? b=⇑u)
  (m:∀ b,H b=⇑(.own a)->H' b=⇑(.own a)) (v:∀ b i,H b=⇑(.tup i)->H' b=⇑(.tup i)):gh P w H' h' a o:=by
 induction o with
 | lst i=>let⟨z,f,n,r,e⟩:=x;exact⟨z,f,n,r,k _ _ (.inl rfl) e⟩
 | tup i=>let⟨z,f,r,d,e,c⟩:=x;exact⟨z,f,r,d,k _ _ (.inl rfl) e,c⟩
 | dK j=>let⟨z,y,l,r,d,f,g,e,c⟩:=x;exact⟨z,y,l,r,d,f,g,k _ _ (.inl rfl) e,c⟩
 | dT j =>
  let⟨z,y,i,r,d,f,g,e,c⟩:=x;exact⟨z,y,i,Paired.AB r λp q z=>⟨z.1,v _ _ z.2.1,z.2.2⟩,d,f,g,k _ _ (.inl rfl) e,c⟩
 | set S n=>let⟨d,f,g,t,e,c⟩:=x;exact⟨d,f,g,t,k _ _ (.inl rfl) e,c⟩
 | ins C q n =>
  let⟨l,z,ne,e,d,⟨j,f,g,p,c⟩,r⟩:=x;exact⟨m _ l,z,ne,k _ _ (.inl rfl) e,d,⟨j,f,g,k _ _ (.inr l) p,c⟩,r⟩
 | own y=>let⟨d,e⟩:=x;exact⟨d,k _ _ (.inl rfl) e⟩
 | xd n=>let⟨d,⟨j,f,g,e,c⟩,r⟩:=x;exact⟨d,⟨j,f,g,k _ _ (.inl rfl) e,c⟩,r⟩
 | Et lo hi=>let⟨t,u,c,e⟩:=x;exact⟨t,u,c,k _ _ (.inl rfl) e⟩
 | Jv d u c=>let⟨e,q⟩:=x;exact⟨k _ _ (.inl rfl) e,c q⟩
 | Uo c =>
  let e:h.get? a=some { cls:=.none,data:=.fields c }:=x;show h'.get? a=some { cls:=.none,data:=.fields c };exact k a _ (.inl rfl) e
 | met f y =>
  let e:h.get? a=⇑(methodObj ↥f ↥y):=x;show h'.get? a=⇑(methodObj ↥f ↥y);exact k a _ (.inl rfl) e
 | ext c=>let⟨p,⟨o,e⟩,st⟩:=x;exact⟨st _ _ p λo q=>k _ _ (.inl rfl) q,⟨o,k _ _ (.inl rfl) e⟩,st⟩
theorem tQ.lt(x:tQ P w H h)(e:H a=⇑o):a<h.objs.size:=(x a o e).lt
def tQ.fresh(x:tQ P w H h)(e:h.objs.size<=a):H a=none:=by
 cases q:H a with
 | none=>rfl
 | some u=>exact absurd (pJ (x.lt q) e) (Nat.lt_irrefl _)
theorem tQ.kept(x:tQ P w H h)(k:∀ b u,h.get? b=⇑u->h'.get? b=⇑u):tQ P w H h':=λa o e =>
 (x a o e).stay (λb u _ q=>k b u q) (λ_ q=>q) λ_ _ q=>q
theorem tQ.laid(x:tQ P w H h)(k:∀ b u,h.get? b=⇑u->h'.get? b=⇑u)(f:h.objs.size<=a)(g:gh P w (aO H a o) h' a o):tQ P w (aO H a o) h':=λb u e=>by
 let d:=x.fresh f;by_cases c:b=a
 ·subst c;rw[af]at e;cases e;exact g
 ·rw[aL c]at e;exact (x b u e).stay (λc v _ q=>k c v q) (λc q=>by rw[aL (aA q d)];exact q) λc c q=>by rw[aL (aA q d)];exact q
end
def Rd(H:Hp)(a:Addr)(u:HO):Prop:=H a=⇑u\/∃ o,H a=⇑(.Jv o u)
def Rd.ok{P:Program}{w:World}{H:Hp}{h:Heap}{a:Addr}{u:HO}(r:Rd H a u)(x:tQ P w H h):gh P w H h a u:=by
 rcases r with r|⟨o,r⟩
 ·exact x a u r
 ·let⟨_,q⟩:=x a _ r;exact q
def YQ:Option HO->Prop
 | some (.lst _)=>True
 | some (.dK _)=>True
 | some (.dT _)=>True
 | some (.set _ _)=>True
 | some (.ins _ _ _)=>True
 | some (.ext _)=>True
 | _=>False
section
variable {P:Program} {w:World} {H:Hp} {h h':Heap} {x e:Addr} {o':HO}
theorem tQ.write(l:tQ P w H h)(a:YQ (H x))(j:e=x\/H e=⇑(.own x))(m:∀ b u,b≠e->h.get? b=⇑u->h'.get? b=⇑u)(n:∃ u,h'.get? e=⇑u)
  (o:gh P w (aO H x o') h' x o'):tQ P w (aO H x o') h':=λb u q=>by
 let k:∀ c y,H c=⇑(.own y)->c≠x:=λc y r z=>by subst z;rw[r]at a;exact a
 let p:∀ c d,H c=⇑(.tup d)->c≠x:=λc d r z=>by subst z;rw[r]at a;exact a
 by_cases f:b=x
 ·subst f;rw[af]at q;cases q;exact o
 ·rw[aL f]at q;by_cases g:b=e
  ·let i:H b=⇑(.own x):=by
    rcases j with z|z
    ·exact absurd (g.trans z) f
    ·rw[g];exact z
   rw[q]at i;cases i;let⟨v,i⟩:=n;exact⟨v,by rw[g];exact i⟩
  ·refine (l b u q).stay (λc v i r=>m c v ?_ r) (λc r=>by rw[aL (k c b r)];exact r) λc d r=>by rw[aL (p c d r)];exact r
   rcases i with rfl|i
   ·exact g
   ·rintro rfl;rcases j with z|z
    ·exact k c b i z
    ·rw[i]at z;cases z;exact f rfl
end
structure Un(fs ex:WF)(H H':Hp)(h h':Heap):Prop where
 keep:∀ b o,h.get? b=⇑o->H b=none->b∉fs->b∉ex->h'.get? b=⇑o
 slot:∀ b o,h.get? b=⇑o->H b=none->b∈fs->b∉ex->∃ sl,h'.get? b=some { o with slots:=sl }
 free:∀ b o,h.get? b=⇑o->H b=none->b∉ex->H' b=none
 there:∀ b o,h.get? b=⇑o->b∉ex->∃ o',h'.get? b=⇑o'
 tups:∀ b xs,H b=⇑(.tup xs)->H' b=⇑(.tup xs)
 CF:∀ b o u,H b=⇑(.Jv o u)->H' b=⇑(.Jv o u)
 Eu:∀ b ps,H b=⇑(.Uo ps)->∃ more,H' b=⇑(.Uo (ps++more))
section
variable {fs Yk ex ex':WF} {H H1 H2:Hp} {h h1 h2 h':Heap} {a x e:Addr} {o:HO}
def Un.any(u:Un fs ex H H1 h h1){b:Addr}{c:Obj}(q:h.get? b=⇑c)(n:H b=none)(d:b∉ex):∃ f,h1.get? b=some { c with slots:=f }:=by
 by_cases a:b∈fs
 ·exact u.slot b c q n a d
 ·exact⟨c.slots,u.keep b c q n a d⟩
theorem Un.kept(k:∀ b u,h.get? b=⇑u->h'.get? b=⇑u):Un fs ex H H h h' :=
 ⟨λb a q _ _ _=>k b a q,λb a q _ _ _=>⟨a.slots,k b a q⟩,λ_ _ _ n _=>n,λb a q _=>⟨a,k b a q⟩,λ_ _ q=>q,λ_ _ _ q=>q,λ_ a q=>⟨#[],by rw[q];simp⟩⟩
theorem Un.refl:Un fs ex H H h h:=Un.kept λ_ _ q=>q
theorem Un.laid(k:∀ b u,h.get? b=⇑u->h'.get? b=⇑u)(d:h.objs.size<=a)(c:H a=none):Un fs ex H (aO H a o) h h' where
 keep:=λb u q _ _ _=>k b u q
 slot:=λb u q _ _ _=>⟨u.slots,k b u q⟩
 free:=λb u q n _=>by rw[aL (jK (pJ (Heap.lt_size q) d))];exact n
 there:=λb u q _=>⟨u,k b u q⟩
 tups:=λb e q=>by rw[aL (aA q c)];exact q
 CF:=λb u e q=>by rw[aL (aA q c)];exact q
 Eu:=λb e q=>⟨#[],by rw[aL (aA q c),q];simp⟩
def Un.write(c:YQ (H x))(i:e=x\/H e=⇑(.own x))(k:∀ b u,b≠e->h.get? b=⇑u->h'.get? b=⇑u)(j:∃ u,h'.get? e=⇑u):Un fs ex H (aO H x o) h h':=by
 let d:∀ b,H b=none->b≠x:=λb n z=>by subst z;rw[n]at c;exact c
 let f:∀ b,H b=none->b≠e:=λb n z=>by
  subst z;rcases i with r|r
  ·exact d b n r
  ·rw[n]at r;cases r
 let a:∀ b u,H b=⇑u->¬ YQ (⇑u)->b≠x:=λb u q l z=>by subst z;rw[q]at c;exact l c
 refine⟨λb u q n _ _=>k b u (f b n) q,λb u q n _ _=>⟨u.slots,k b u (f b n) q⟩,λb u q n _=>by rw[aL (d b n)];exact n,λb u q _=>?_, λb d q=>by rw[aL (a b _ q λz=>z)];exact q,λb u d q=>by rw[aL (a b _ q λz=>z)];exact q,λb d q=>⟨#[],by rw[aL (a b _ q λz=>z),q];simp⟩⟩;by_cases g:b=e
 ·subst g;exact j
 ·exact⟨u,k b u g q⟩
end
def dN(h:Heap)(H:Hp):WF:=(List.range h.objs.size).filter λa=>(H a).isSome
def CG(h:Heap)(H:Hp):Heap:=PySem.W.hideAll h (dN h H)
theorem KR(h:Heap)(H:Hp):(CG h H).objs.size=h.objs.size:=PySem.W.hideAll_size _ _
theorem Na{h:Heap}{H:Hp}{b:Addr}{o:Obj}(e:h.get? b=⇑o)(n:H b=none):(CG h H).get? b=⇑o :=
 PySem.W.hideAll_get _ e λa=>by
  let q:(H b).isSome=true:=(List.mem_filter.mp a).2;rw[n]at q;simp at q
def Q0{h:Heap}{H:Hp}{b:Addr}{o:Obj}(e:(CG h H).get? b=⇑o):h.get? b=⇑o/\H b=none:=by
 let a:h.get? b=⇑o:=PySem.W.of_hideAll (dN h H) e;exists a
 cases q:H b with
 | none=>rfl
 | some x =>
  let c:b∈dN h H:=List.mem_filter.mpr ⟨List.mem_range.mpr (Heap.lt_size a),by simp[q]⟩;let z:(CG h H).get? b=none:=PySem.W.hideAll_none (dN h H) c;rw[z]at e;cases e
end _L2
namespace _L2
open Spec Rows
structure Mod(K:Frag)(mg:Ya)(zt:Heap):Prop where
 eA:K.In zt
 glob:zt.Ns mainGlobals mg
 blt:∃ mb,zt.Ns builtinsNs mb/\∀ x:Str,x≠"__name__"->mb x=bootBuiltins x
 nolimit:zt.NoLimit
structure Cx where
 prog:Program
 w:World
 K:Frag
 mg:Str->Option Value
 zt:Heap
 A:Around
 N:List Str
 s₀:Shared
 H₀:Hp
 env:Env
 zn:List Env
 stack:List Env
 ex:List Addr
 fn:Str->Bool
 calm:Bool
 pn:List (Addr × Obj)
 xe:Value->Shared->Prop
def Nb(l:List Env):WF:=l.filterMap (·.frame)
abbrev Cx.fs(a:Cx):WF:=Nb a.zn
def eB(a:Scope)(x:Str):Prop:=a.names.lookup x=⇑.local\/a.names.lookup x=⇑.cell\/a.names.lookup x=⇑.free
def Loc(a:Scope)(x:Str):Prop:=a.names.lookup x=⇑.local\/a.names.lookup x=⇑.cell
def Look(a:Env)(h:Heap)(m:Ya)(x:Str)(u:Value):Prop :=
 (a.kindOf x=⇑.local/\m x=⇑u)\/((a.kindOf x=⇑.cell\/a.kindOf x=⇑.free)/\∃ c,a.cells.lookup x=⇑c/\h.IsCell c (⇑u))
structure Cx.Ok(X:Cx):Prop where
 mod:Mod X.K X.mg X.zt
 kind:X.env.scope.kind=.function
 glob:X.env.globals=mainGlobals
 blt:X.env.builtins=builtinsNs
 above:X.s₀.heap.objs.size<=X.env.locals
 inj:∀ x y c,X.env.cells.lookup x=⇑c->X.env.cells.lookup y=⇑c->x=y
 has:∀ x,(X.env.kindOf x=⇑.cell\/X.env.kindOf x=⇑.free)->∃ c,X.env.cells.lookup x=⇑c
 YS:∀ x c,X.fn x=true->X.env.cells.lookup x=⇑c->X.s₀.heap.objs.size<=c
 hd:X.calm=true->X.A.handled=none
 frames:X.A.frames=⇑X.stack
 stk:X.stack=X.zn\/(X.stack=X.env::X.zn/\X.env.frame=⇑X.env.locals)
 hC:∀ b∈X.ex,b≠X.env.locals/\∀ x c,X.env.cells.lookup x=⇑c->c≠b
 bs:∀ b o,X.zt.get? b=⇑o->X.s₀.heap.get? b=⇑o/\X.H₀ b=none
 Uq:X.zt.objs.size<=X.s₀.heap.objs.size
 Nc:∀ b o,X.zt.get? b=⇑o->b∉X.ex
 Q3:∀ b∈X.ex,b∉X.fs
 xG:X.s₀.heap.FunFrames X.zt X.zn
 VA:∀ b∈X.fs,X.H₀ b=none
structure Inv(X:Cx)(ay:List (Addr × Obj))(σ:List (Option V))(H:Hp)(s:Shared):Prop where
 ok:X.Ok
 os:s.os=X.s₀.os
 bare:AllBare s.gens
 zt:Un X.fs X.ex X.H₀ H X.s₀.heap s.heap
 loc:∃ m,s.heap.Ns X.env.locals m/\∀ (i:Nat) (x:Str) (v:V),X.N[i]?=⇑x->σ[i]?=⇑(⇑v)->eB X.env.scope x->∃ u,RelV v u/\Look X.env s.heap m x u
 cell:∀ x c,X.env.cells.lookup x=⇑c->∃ v,s.heap.IsCell c v
 free:H X.env.locals=none
 rD:∀ x c,X.env.cells.lookup x=⇑c->H c=none
 pin:∀ p∈X.pn++ay,s.heap.get? p.1=⇑p.2/\H p.1=none/\p.1≠X.env.locals/\p.1∉X.fs/\∀ v,p.2.data≠.cell v
 hok:tQ X.prog X.w H s.heap
 len:↑σ=↑X.N
section
variable {X:Cx} {c:List (Addr × Obj)} {d:List (Option V)} {H H':Hp} {s:Shared} {h':Heap}
theorem Cx.Ok.my(a:X.Ok){b:Addr}{o:Obj}(e:X.zt.get? b=⇑o):b∉X.fs:=λc=>by
 have:=(a.xG.mem c).1;rw[e]at this;cases this
theorem Inv.bs(I:Inv X c d H s):∀ b o,X.zt.get? b=⇑o->s.heap.get? b=⇑o/\H b=none:=λb o e =>
 ⟨I.zt.keep b o (I.ok.bs b o e).1 (I.ok.bs b o e).2 (I.ok.my e) (I.ok.Nc b o e),I.zt.free b o (I.ok.bs b o e).1 (I.ok.bs b o e).2 (I.ok.Nc b o e)⟩
theorem Inv.bk(I:Inv X c d H s):∀ b o,X.zt.get? b=⇑o->s.heap.get? b=⇑o:=λb o e=>(I.bs b o e).1
theorem Inv.mod(I:Inv X c d H s):Mod X.K X.mg X.zt:=I.ok.mod
theorem Inv.wJ(I:Inv X c d H s):X.K.In s.heap:=I.ok.mod.eA.keeps I.bk
theorem Inv.lt(I:Inv X c d H s):X.env.locals<s.heap.objs.size:=let ⟨_,a,_⟩:=I.loc;a.lt
theorem Inv.sz(I:Inv X c d H s):X.s₀.heap.objs.size<=s.heap.objs.size:=ig I.ok.above (gJ I.lt)
theorem Inv.mB(I:Inv X c d H s){a:Addr}(h:s.heap.objs.size<=a):a∉X.fs:=λb=>by
 let⟨_,o,e,_⟩:=I.ok.xG.mem b;exact absurd (pJ (Heap.lt_size e) (ig I.sz h)) (Nat.lt_irrefl _)
theorem Inv.VB(I:Inv X c d H s):∀ x a,X.env.cells.lookup x=⇑a->a≠X.env.locals:=λx a f z=>by
 let⟨v,o,b,e⟩:=I.cell x a f;let⟨m,⟨h,i,j,f,g,_⟩,_⟩:=I.loc;rw[z,f]at b;cases b;rw[g]at e;cases e
def Inv.xG(I:Inv X c d H s):s.heap.FunFrames X.zt X.zn:=by
 let g:∀ (l:List Env),(∀ b∈Nb l,b∈X.fs)->X.s₀.heap.FunFrames X.zt l->s.heap.FunFrames X.zt l:=by
  intro l
  induction l with
  | nil=>intro _ _;trivial
  | cons env r h =>
   intro f e;let⟨i,⟨L,o,a,j,k,l⟩,hr⟩:=e;let e:L∈X.fs:=f L (by unfold Nb;rw[List.filterMap_cons,a];exact sE);let⟨n,m⟩:=I.zt.slot L o k (I.ok.VA L e) e λz=>I.ok.Q3 L z e;exact⟨i,⟨L,_,a,j,m,l⟩,h (λb e=>f b (by unfold Nb;rw[List.filterMap_cons,a];exact j5 _ e)) hr⟩
 exact g X.zn (λ_ e=>e) I.ok.xG
def Inv.stack(I:Inv X c d H s):s.heap.FunFrames X.zt X.stack:=by
 rcases I.ok.stk with e|⟨e,a⟩
 ·rw[e];exact I.xG
 ·rw[e];let⟨m,b,_⟩:=I.loc;refine .cons (by rw[I.ok.kind];decide) a b ?_ I.xG;exact Heap.get?_none_of_le (ig I.ok.Uq I.ok.above)
theorem Inv.vo(I:Inv X c d H s):∀ b∈Nb X.stack,b∈X.env.locals::X.fs:=λb a=>by
 rcases I.ok.stk with e|⟨e,f⟩
 ·rw[e]at a;exact j5 _ a
 ·rw[e]at a;unfold Nb at a;rw[List.filterMap_cons,f]at a;exact a
theorem Inv.Jw(I:Inv X c d H s):∀ b∈Nb X.stack,H b=none:=λb a=>by
 rcases List.mem_cons.mp (I.vo b a) with e|a
 ·rw[e];exact I.free
 ·let⟨_,o,e,_⟩:=I.ok.xG.mem a;exact I.zt.free b o e (I.ok.VA b a) λz=>I.ok.Q3 b z a
theorem Inv.step{g':Array GenState}{J:Nat}{d':Drawn}{ch:WF}(I:Inv X c d H s)
  (k:∀ b∈ch,(b∈X.ex\/X.s₀.heap.objs.size<=b)/\b≠X.env.locals/\(∀ x a,X.env.cells.lookup x=⇑a->a≠b)/\∀ p∈X.pn++c,p.1≠b)
  (w:∀ b o,b≠X.env.locals->b∉X.fs->b∉ch->s.heap.get? b=⇑o->H b=none->h'.get? b=⇑o)
  (C:∀ b o,b≠X.env.locals->b∈X.fs->b∉ch->s.heap.get? b=⇑o->H b=none->∃ y,h'.get? b=some { o with slots:=y }) (free:∀ b o,b∉ch->s.heap.get? b=⇑o->H b=none->H' b=none)
  (L:∀ b o,b∉ch->s.heap.get? b=⇑o->∃ l,h'.get? b=⇑l)
  (M:∀ b h,H b=⇑(.tup h)->H' b=⇑(.tup h)) (N:∀ b o u,H b=⇑(.Jv o u)->H' b=⇑(.Jv o u)) (O:∀ b r,H b=⇑(.Uo r)->∃ T,H' b=⇑(.Uo (r++T)))
  (U:∀ m,s.heap.Ns X.env.locals m->h'.Ns X.env.locals m) (hok:tQ X.prog X.w H' h') (hg:AllBare g') :
  Inv X c d H' { s with heap:=h',gens:=g',drawn:=d',toks:=J }:=by
 let D:∀ b o,X.s₀.heap.get? b=⇑o->b≠X.env.locals:=λb o e=>jK (pJ (Heap.lt_size e) I.ok.above)
 let t:∀ b o,X.s₀.heap.get? b=⇑o->b∉X.ex->b∉ch:=λb o e f i=>by
  rcases (k b i).1 with z|z
  ·exact f z
  ·exact absurd (pJ (Heap.lt_size e) z) (Nat.lt_irrefl _)
 let F:∀ x a,X.env.cells.lookup x=⇑a->∀ v,s.heap.IsCell a v->h'.IsCell a v:=λx a e v ⟨o,j,A⟩=>by
  let g:a∉ch:=λz=>(k a z).2.2.1 x a e rfl;by_cases n:a∈X.fs
  ·let⟨y,q⟩:=C a o (I.VB x a e) n g j (I.rD x a e);exact⟨_,q,A⟩
  ·exact⟨o,w a o (I.VB x a e) n g j (I.rD x a e),A⟩
 refine⟨I.ok,I.os,hg,⟨λb o e n i f=>?_,λb o e n i f=>?_,λb o e n f=>?_,λb o e f=>?_,λb h e=>M b h (I.zt.tups b h e),λb o h e=>N b o h (I.zt.CF b o h e),λb r e=>?_⟩,?_,λx a e=>?_,?_,λx a e=>?_,λp G=>?_,hok,I.len⟩
 ·exact w b o (D b o e) i (t b o e f) (I.zt.keep b o e n i f) (I.zt.free b o e n f)
 ·let⟨y,g⟩:=I.zt.slot b o e n i f;let⟨z,q⟩:=C b _ (D b o e) i (t b o e f) g (I.zt.free b o e n f);exact⟨z,q⟩
 ·let⟨l,g⟩:=I.zt.there b o e f;exact free b l (t b o e f) g (I.zt.free b o e n f)
 ·let⟨l,g⟩:=I.zt.there b o e f;exact L b l (t b o e f) g
 ·let⟨f,g⟩:=I.zt.Eu b r e;let⟨i,q⟩:=O b _ g;exact⟨f++i,by rw[q,Array.append_assoc]⟩
 ·let⟨m,f,i⟩:=I.loc;refine⟨m,U m f,λf x v g q t=>?_⟩;let⟨u,D,B⟩:=i f x v g q t;exists u,D;rcases B with B|⟨f,a,e,z⟩
  ·exact .inl B
  ·exact .inr ⟨f,a,e,F x a e _ z⟩
 ·let⟨v,z⟩:=I.cell x a e;exact⟨v,F x a e v z⟩
 ·let⟨m,⟨o,_,_,j,_⟩,_⟩:=I.loc;exact free _ o (λz=>(k _ z).2.1 rfl) j I.free
 ·let⟨v,o,j,A⟩:=I.cell x a e;exact free a o (λz=>(k a z).2.2.1 x a e rfl) j (I.rD x a e)
 ·let⟨e,n,q,B,R⟩:=I.pin p G;let g:p.1∉ch:=λz=>(k p.1 z).2.2.2 p G rfl;exact⟨w p.1 p.2 q B g e n,free p.1 p.2 g e n,q,B,R⟩
def Inv.un{g:Nat}(I:Inv X c d H s)(u:Un X.fs [] H H' s.heap h')(hok:tQ X.prog X.w H' h'):Inv X c d H' { s with heap:=h',toks:=g }:=by
 let⟨m,⟨o,b,k,f,r⟩,_⟩:=id I.loc;let⟨b,h⟩:=u.any f I.free (by simp)
 exact I.step (g':=s.gens) (d':=s.drawn) (ch:=[]) (λ_ z=>nomatch z) (λb o _ a _ e n=>u.keep b o e n a (by simp)) (λb o _ a _ e n=>u.slot b o e n a (by simp)) (λb o _ e n=>u.free b o e n (by simp)) (λb o _ e=>u.there b o e (by simp)) u.tups u.CF u.Eu (λk b=>by
  let⟨k,e,i,a,j⟩:=b;rw[f]at a;cases a
  exact⟨_,e,i,h,j⟩) hok I.bare
theorem Inv.call{h:Array GenState}{l:Nat}{p:Drawn}{f:WF}(I:Inv X c d H s)(u:Un (Nb X.stack) f H H' s.heap h')(hok:tQ X.prog X.w H' h')(q:AllBare h)
  (i:∀ b∈f,(b∈X.ex\/X.s₀.heap.objs.size<=b)/\b≠X.env.locals/\(∀ x j,X.env.cells.lookup x=⇑j->j≠b)/\∀ r∈X.pn++c,r.1≠b) :
  Inv X c d H' { s with heap:=h',gens:=h,drawn:=p,toks:=l }:=by
 let⟨m,⟨o,e,w,k,y⟩,_⟩:=id I.loc;let⟨e,g⟩:=u.any k I.free λz=>(i _ z).2.1 rfl
 exact I.step (ch:=f) i (λb o g t a e n=>u.keep b o e n (λz=>(List.mem_cons.mp (I.vo b z)).elim g t) a) (λb o _ _ a e n=>u.any e n a) (λb o a e n=>u.free b o e n a) (λb o a e=>u.there b o e a) u.tups u.CF u.Eu (λo e=>by
  let⟨o,n,t,a,v⟩:=e;rw[k]at a;cases a
  exact⟨_,n,t,g,v⟩) hok q
theorem Inv.turned{t':Nat}{it:Addr}(I:Inv X c d H s)(k:∀ b o,b≠it->s.heap.get? b=⇑o->h'.get? b=⇑o)(i:H it=none)(g:it≠X.env.locals)
  (j:it∈X.ex\/X.s₀.heap.objs.size<=it) (l:∀ x f,X.env.cells.lookup x=⇑f->f≠it) (m:∀ p∈X.pn++c,p.1≠it):Inv X c d H { s with heap:=h',toks:=t' }:=by
 let h:∀ b u,H b=⇑u->b≠it:=λb u e z=>by rw[z,i]at e;cases e
 refine I.step (g':=s.gens) (d':=s.drawn) (ch:=[it]) (λb n=>?_) (λb o _ _ a e _=>k b o (λz=>a (by simp[z])) e) (λb o _ _ a e _=>⟨o.slots,k b o (λz=>a (by simp[z])) e⟩) (λ_ _ _ _ a=>a) (λb o a e=>⟨o,k b o (λz=>a (by simp[z])) e⟩) (λ_ _ e=>e) (λ_ _ _ e=>e) (λb a e=>⟨#[],by rw[e];simp⟩) (λr q=>?_) (λb u e=>?_) I.bare
 ·let e:b=it:=by simpa using n
  subst e;exact⟨j,g,l,m⟩
 ·let⟨o,a,n,r,t⟩:=q;exact⟨o,a,n,k _ o (Ne.symm g) r,t⟩
 ·refine (I.hok b u e).stay (λf v a q=>k f v ?_ q) (λ_ q=>q) λ_ _ q=>q;rcases a with z|z
  ·rw[z];exact h b u e
  ·exact h f _ z
theorem Inv.tok(I:Inv X c d H s)(t:Nat):Inv X c d H { s with toks:=t }:=I.un (h':=s.heap) (g:=t) Un.refl I.hok
theorem Inv.kept{t':Nat}(I:Inv X c d H s)(k:∀ b u,s.heap.get? b=⇑u->h'.get? b=⇑u):Inv X c d H { s with heap:=h',toks:=t' }:=I.un (Un.kept k) (I.hok.kept k)
theorem Inv.laid{a:Addr}{o:HO}{t':Nat}(I:Inv X c d H s)(k:∀ e u,s.heap.get? e=⇑u->h'.get? e=⇑u)(b:s.heap.objs.size<=a)(f:gh X.prog X.w (aO H a o) h' a o) :
  Inv X c d (aO H a o) { s with heap:=h',toks:=t' }:=I.un (Un.laid k b (I.hok.fresh b)) (I.hok.laid k b f)
theorem Inv.write{x e:Addr}{o:HO}{h:Nat}(I:Inv X c d H s)(a:YQ (H x))(f:e=x\/H e=⇑(.own x))(k:∀ b u,b≠e->s.heap.get? b=⇑u->h'.get? b=⇑u)(g:∃ u,h'.get? e=⇑u)
  (i:gh X.prog X.w (aO H x o) h' x o):Inv X c d (aO H x o) { s with heap:=h',toks:=h }:=I.un (Un.write a f k g) (I.hok.write a f k g i)
theorem Inv.Jx(I:Inv X c d H s)(h:∀ p∈a,s.heap.get? p.1=⇑p.2/\H p.1=none/\p.1≠X.env.locals/\p.1∉X.fs/\∀ v,p.2.data≠.cell v):Inv X a d H s :=
 ⟨I.ok,I.os,I.bare,I.zt,I.loc,I.cell,I.free,I.rD,λp b=>(List.mem_append.mp b).elim (λz=>I.pin p (oh _ z)) (h p),I.hok,I.len⟩
def Ew{N:UV}(a:N.Nodup){i j:Nat}{x:Str}(b:N[i]?=⇑x)(e:N[j]?=⇑x):i=j:=by
 let⟨d,c⟩:=List.getElem?_eq_some_iff.mp b;let⟨f,d⟩:=List.getElem?_eq_some_iff.mp e;exact (List.getElem_inj a).mp (c.trans d.symm)
theorem Bm{ak:Model}{am:Around}{E:ZB}{t:Nat}{x:Str}{T:V}{A:Value}{Q:Unit->Shared->Prop}(I:Inv X c d H s)(U:X.N.Nodup)(u:X.N[t]?=⇑x)(i:Loc X.env.scope x)(ab:RelV T A)
  (ae:∀ D,Inv X c (d.set t (⇑T)) H D->(∃ k,Heap.SameBut k s.heap D.heap/\(k=X.env.locals\/X.env.cells.lookup x=⇑k))->Q () D) (hf:X.fn x=true\/X.env.scope.names.lookup x=⇑.local:=by bv_normalize):wpAny ak am (storeName X.env x A) Q E s:=by
 let⟨an,F,S⟩:=id I.loc;let ap:(X.env.scope.kind == .class || (X.env.scope.kind == .module&&X.env.locals != X.env.globals))=false:=by rw[I.ok.kind];rfl
 let W:t<↑d:=by rw[I.len];exact (List.getElem?_eq_some_iff.mp u).1
 let G:=I.VB
 let ag:∀ {k:Addr} {h':Heap},(∃ o,s.heap.get? k=⇑o/\H k=none)->Heap.SameBut k s.heap h'->tQ X.prog X.w H h':=λ{k h'} ha a b ob e=>by
  let⟨_,_,g⟩:=ha;refine (I.hok b ob e).stay (λf B h q=>(a.2 f ?_).trans q) (λ_ q=>q) λ_ _ q=>q;rintro rfl;rcases h with rfl|h
  ·rw[g]at e;cases e
  ·rw[g]at h;cases h
 rcases i with l|l
 ·refine wpAny_storeName_local l F (λh' h a=>?_) ap;let⟨C,_,_,R,_⟩:=id F;refine ae _ ⟨I.ok,I.os,I.bare,⟨λb o e n m i=>?_,λb o e n m i=>?_,I.zt.free,λb o e i=>?_,I.zt.tups,I.zt.CF,I.zt.Eu⟩,⟨_,h,λv y J g j L=>?_⟩,λy f e=>?_,I.free,I.rD,λr M=>?_,ag ⟨C,R,I.free⟩ a,by simpa using I.len⟩ ⟨_,a,.inl rfl⟩
  ·exact (a.2 b (jK (pJ (Heap.lt_size e) I.ok.above))).trans (I.zt.keep b o e n m i)
  ·let⟨p,g⟩:=I.zt.slot b o e n m i;exact⟨p,(a.2 b (jK (pJ (Heap.lt_size e) I.ok.above))).trans g⟩
  ·let⟨p,g⟩:=I.zt.there b o e i;exact⟨p,(a.2 b (jK (pJ (Heap.lt_size e) I.ok.above))).trans g⟩
  ·by_cases p:v=t
   ·subst p;rw[u]at g;cases g;rw[List.getElem?_set_self W]at j;cases j;exact⟨A,ab,.inl ⟨l,by simp⟩⟩
   ·rw[List.getElem?_set_ne (Ne.symm p)]at j;let⟨N,O,q⟩:=S v y J g j L;exists N,O;rcases q with ⟨w,e⟩|⟨w,f,e,z⟩
    ·refine .inl ⟨w,?_⟩;have:y≠x:=λe=>p (Ew U g (e ▸ u));simp[this,e]
    ·exact .inr ⟨w,f,e,z.sameBut a (G y f e)⟩
  ·let⟨B,z⟩:=I.cell y f e;exact⟨B,z.sameBut a (G y f e)⟩
  ·let⟨e,n,p,N,w⟩:=I.pin r M;exact⟨(a.2 r.1 p).trans e,n,p,N,w⟩
 ·let R:X.fn x=true:=by
   rcases hf with z|z
   ·exact z
   ·rw[z]at l;cases l
  let⟨f,h⟩:=I.ok.has x (.inl l);let⟨B,z⟩:=I.cell x f h;refine wpAny_storeName_cell I.ok.kind l h z (λh' YU a=>?_);let⟨oc,ai,aq⟩:=id z;refine ae { s with heap:=h' } ⟨I.ok,I.os,I.bare,⟨λb o e n m i=>?_,λb o e n m i=>?_,I.zt.free,λb o e i=>?_,I.zt.tups,I.zt.CF,I.zt.Eu⟩,⟨an,F.sameBut a (Ne.symm (G x f h)),λv y J g j L=>?_⟩,λy C e=>?_,I.free,I.rD,λr M=>?_,ag ⟨oc,ai,I.rD x f h⟩ a,by simpa using I.len⟩ ⟨f,a,.inr h⟩
  ·exact (a.2 b (jK (pJ (Heap.lt_size e) (I.ok.YS x f R h)))).trans (I.zt.keep b o e n m i)
  ·let⟨p,g⟩:=I.zt.slot b o e n m i;exact⟨p,(a.2 b (jK (pJ (Heap.lt_size e) (I.ok.YS x f R h)))).trans g⟩
  ·let⟨p,g⟩:=I.zt.there b o e i;exact⟨p,(a.2 b (jK (pJ (Heap.lt_size e) (I.ok.YS x f R h)))).trans g⟩
  ·by_cases p:v=t
   ·subst p;rw[u]at g;cases g;rw[List.getElem?_set_self W]at j;cases j;exact⟨A,ab,.inr ⟨.inl l,f,h,YU⟩⟩
   ·rw[List.getElem?_set_ne (Ne.symm p)]at j;let⟨N,O,q⟩:=S v y J g j L;exists N,O;rcases q with q|⟨w,C,e,b⟩
    ·exact .inl q
    ·refine .inr ⟨w,C,e,b.sameBut a ?_⟩;rintro rfl;exact p (Ew U g (I.ok.inj _ _ _ e h ▸ u))
  ·by_cases p:C=f
   ·subst p;exact⟨_,YU⟩
   ·let⟨b,f⟩:=I.cell y C e;exact⟨b,f.sameBut a p⟩
  ·let⟨e,n,p,N,w⟩:=I.pin r M;refine⟨(a.2 r.1 ?_).trans e,n,p,N,w⟩;intro q;rw[q,ai]at e;let a:oc=r.2:=pW e;exact w B (by rw[← a];exact aq)
theorem yj{M:Model}{A:Around}{E:ZB}{i:Nat}{x:Str}{v:V}{u:Value}{Q:Unit->Shared->Prop}(I:Inv X c d H s)(b:X.N.Nodup)(e:X.N[i]?=⇑x)(f:Loc X.env.scope x)(r:RelV v u)
  (h:∀ a,Inv X c (d.set i (⇑v)) H a->Q () a) (g:X.fn x=true\/X.env.scope.names.lookup x=⇑.local:=by bv_normalize):wpAny M A (storeName X.env x u) Q E s :=
 Bm I b e f r (λa j _=>h a j) g
theorem Inv.YV{a:Shared}{e:WF}(I:Inv X c d H s)(g:a.os=s.os)(u:Un (Nb X.stack) e H H' s.heap a.heap)(hok:tQ X.prog X.w H' a.heap)(h:AllBare a.gens)
  (i:∀ b∈e,(b∈X.ex\/X.s₀.heap.objs.size<=b)/\b≠X.env.locals/\(∀ x f,X.env.cells.lookup x=⇑f->f≠b)/\∀ p∈X.pn++c,p.1≠b):Inv X c d H' a:=by
 let⟨h',j,k,l,m⟩:=a;let n:m=s.os:=g;subst n;exact I.call (h:=j) (l:=l) (p:=k) u hok h i
end
abbrev XK:=Value->Option Addr->Hp->Prop
abbrev St:=List (Option V)
abbrev VK:=V->Hp->Prop
abbrev TE:=St->Hp->VK->Prop
abbrev TT:=St->Hp->(Bool->Hp->Prop)->Prop
abbrev TA:=St->Hp->(List V->Hp->Prop)->Prop
structure Ends where
 nx:St->Hp->Prop
 rt:VK
 bk:St->Hp->Prop:=λ_ _=>False
 ct:St->Hp->Prop:=λ_ _=>False
abbrev TS:=Ends->St->Hp->Prop
def Ends.sq(D:Ends)(u:TS):Ends:={ D with nx:=u D }
def Ends.lp(D:Ends)(N:St->Hp->Prop):Ends:={ D with nx:=N,ct:=N,bk:=D.nx }
inductive EP(X:Cx)(ay:List (Addr × Obj))(σ:St)(Q:VK)(u:Value)(s':Shared):Prop
 | mk (v:V) (a:Hp) (_:Inv X ay σ a s') (_:RelV v u) (_:Q v a)
def TP(b:Cx)(c:List (Addr × Obj))(d:St)(Q:Bool->Hp->Prop)(e:Bool)(f:Shared):Prop:=∃ a,Inv b c d a f/\Q e a
inductive AP(X:Cx)(ay:List (Addr × Obj))(σ:St)(Q:List V->Hp->Prop)(us:WP)(s':Shared):Prop
 | mk (a:List V) (b:Hp) (_:Inv X ay σ b s') (_:cD a us) (_:Q a b)
def SP(c:Cx)(d:List (Addr × Obj))(D:Ends)(f:Flow)(e:Shared):Prop :=
 match f with
 | .next=>∃ b a,Inv c d b a e/\D.nx b a
 | .brk=>∃ b a,Inv c d b a e/\D.bk b a
 | .cont=>∃ b a,Inv c d b a e/\D.ct b a
 | .ret u=>∃ v b a,Inv c d b a e/\RelV v u/\D.rt v a
def PE(a:Cx)(e:Expr)(t:TE):Prop :=
 ∀ (c:List (Addr × Obj)) (s:Shared) (b:St) (H:Hp) (Q:VK),Inv a c b H s->t b H Q->wpAny (model a.prog a.w) a.A (eval e a.env) (EP a c b Q) a.xe s
def PT(a:Cx)(e:Expr)(t:TT):Prop :=
 ∀ (c:List (Addr × Obj)) (s:Shared) (b:St) (H:Hp) (Q:Bool->Hp->Prop),Inv a c b H s->t b H Q->wpAny (model a.prog a.w) a.A (isTrue e a.env (eval e a.env)) (TP a c b Q) a.xe s
def PW(a:Cx)(e:Expr)(t:TT):Prop :=
 ∀ (d:Sem Value) (c:List (Addr × Obj)) (s:Shared) (b:St) (H:Hp) (Q:Bool->Hp->Prop),Inv a c b H s->t b H Q->wpAny (model a.prog a.w) a.A (isTrue e a.env d) (TP a c b Q) a.xe s
theorem PW.pt{a:Cx}{e:Expr}{t:TT}(h:PW a e t):PT a e t:=h _
def PA(a:Cx)(d:List Expr)(t:TA):Prop :=
 ∀ (e:Pos) (c:List (Addr × Obj)) (s:Shared) (b:St) (H:Hp) (Q:List V->Hp->Prop),Inv a c b H s->t b H Q->wpAny (model a.prog a.w) a.A (spliced (backTo e (starEach d a.env))) (AP a c b Q) a.xe s
def PS(a:Cx)(d:Stmt)(t:TS):Prop :=
 ∀ (b:List (Addr × Obj)) (s:Shared) (c:St) (H:Hp) (D:Ends),Inv a b c H s->t D c H->wpAny (model a.prog a.w) a.A (exec d a.env) (SP a b D) a.xe s
def Jz(a:Cx)(d:List Stmt)(t:TS):Prop :=
 ∀ (b:List (Addr × Obj)) (s:Shared) (c:St) (H:Hp) (D:Ends),Inv a b c H s->t D c H->wpAny (model a.prog a.w) a.A (execs d a.env) (SP a b D) a.xe s
theorem dF{a:Type}{t:Sem a}{Q b:a->Shared->Prop}{M:Model}{A:Around}{E:ZB}{s:Shared}(h:wpAny M A t Q E s)(d:∀ c s,Q c s->b c s):wpAny M A t b E s:=wpAny_mono h d λ_ _ x=>x
end _L2
namespace _L2
open Spec Rows
section
variable {X:Cx}
inductive Q4(i:Nat)(σ:St)(H:Hp)(Q:VK):Prop
 | mk (v:V) (_:σ[i]?=⇑(⇑v)) (_:Q v H)
inductive eC(x:V)(H:Hp)(Q:Bool->Hp->Prop):Prop
 | mk (f:Bool) (_:x=.bl f) (_:Q f H)
inductive mI(x:V)(H:Hp)(Q:Option Int->Hp->Prop):Prop
 | mk (i:Int) (_:x=.int i) (_:Q (⇑i) H)
def tC(v:V):TE:=λ_ H Q=>Q v H
def VC{i:Nat}{x:Str}(g:X.N[i]?=⇑x)(j:eB X.env.scope x)(f:(x == ("__debug__":Str))=false:=by decide)(k:(x == ("__classdict__":Str))=false:=by decide):PE X (.Name x c) (Q4 i):=by
 intro l s m H Q I h;let⟨v,n,h⟩:=h;let⟨r,o,p⟩:=I.loc;let⟨u,r,q⟩:=p i x v g n j;let b:EP X l m Q u s:=⟨v,H,I,r,h⟩;rcases q with ⟨a,h⟩|⟨a,l,d,e⟩
 ·exact wpAny_Name (wpAny_loadName_local I.ok.kind a o h b) f
 ·rcases a with a|a
  ·exact wpAny_Name (wpAny_loadName_cell I.ok.kind a d e b) f
  ·exact wpAny_Name (wpAny_loadName_free I.ok.kind a d e b k) f
theorem az{i j c}:PE X (.Constant (.int i) j c) (tC (.int i)):=λ_ _ _ H _ I h=>wpAny_Constant_int ⟨.int i,H,I.tok _,⟨Y⟩,h⟩
theorem lY{b j c}:PE X (.Constant (.bool b) j c) (tC (.bl b)):=λ_ _ _ H _ I h=>Constant_bool ⟨.bl b,H,I,1,h⟩
theorem VD{j c}:PE X (.Constant .none j c) (tC .fQ):=λ_ _ _ H _ I h=>Constant_none ⟨.fQ,H,I,1,h⟩
theorem bx{x j c}:PE X (.Constant (.str x) j c) (tC (.str x)):=λ_ _ _ H _ I h=>Calls.Constant_str ⟨.str x,H,I.tok _,⟨Y⟩,h⟩
def Gl(X:Cx)(x:Str):Prop:=X.env.kindOf x=some .globalImplicit
theorem xV{E:ZB}{s:Shared}{f:St}{H:Hp}{x:Str}{u:Value}{Q:ZB}(I:Inv X k f H s)(g:Gl X x)(h:X.mg x=⇑u)(i:Q u s)
  (j:(x == ("__debug__":Str))=false:=by decide):wpAny (model X.prog X.w) X.A (eval (.Name x c) X.env) Q E s :=
 Calls.Name_function_global I.ok.kind g (Calls.loadGlobal_global (by rw[I.ok.glob];exact I.mod.glob.keeps I.bk) h i) j
theorem vp{E:ZB}{s:Shared}{f:St}{H:Hp}{x:Str}{u:Value}{Q:ZB}(I:Inv X m f H s)(g:Gl X x)(h:X.mg x=none)(i:bootBuiltins x=⇑u)(j:Q u s)
  (k:x≠"__name__":=by decide) (l:(x == ("__debug__":Str))=false:=by decide):wpAny (model X.prog X.w) X.A (eval (.Name x c) X.env) Q E s:=by
 let⟨d,a,b⟩:=I.mod.blt;exact Calls.Name_function_global I.ok.kind g (Calls.loadGlobal_builtin (by rw[I.ok.glob];exact I.mod.glob.keeps I.bk) h (by rw[I.ok.blt];exact a.keeps I.bk) ((b x k).trans i) j) l
def xW{x:Str}{v:V}{u:Value}(f:Gl X x)(g:X.mg x=⇑u)(r:RelV v u)(h:(x == ("__debug__":Str))=false:=by decide):PE X (.Name x c) (tC v) :=
 λ_ _ _ H _ I a=>xV I f g ⟨v,H,I,r,a⟩ h
theorem Q5{x:Str}{v:V}{u:Value}(f:Gl X x)(g:X.mg x=none)(h:bootBuiltins x=⇑u)(r:RelV v u)(i:x≠"__name__":=by decide)(j:(x == ("__debug__":Str))=false:=by decide):PE X (.Name x c) (tC v) :=
 λ_ _ _ H _ I a=>vp I f g h ⟨v,H,I,r,a⟩ i j
variable {a b:Expr} {d tb:TE} {c:Pos}
def PC(X:Cx)(f:CmpOp)(a b:Expr)(t:TE):Prop :=
 ∀ (d:List (Addr × Obj)) (s:Shared) (c:St) (H:Hp) (Q:VK),Inv X d c H s->t c H Q->
  wpAny (model X.prog X.w) X.A (eval a X.env) (λv e=>wpAny (model X.prog X.w) X.A (eval b X.env) (λu g=>wpAny (model X.prog X.w) X.A (compareOp f v u) (EP X d c Q) X.xe g) X.xe e) X.xe s
def Ex(b:Expr){f:CmpOp}(h:f≠.In)(g:f≠.NotIn):behindInMarks f b=false:=by
 let a:(f == CmpOp.In)=false:=by cases f <;> first|rfl|exact absurd rfl h
 let c:(f == CmpOp.NotIn)=false:=by cases f <;> first|rfl|exact absurd rfl g
 cases b <;> simp[behindInMarks,a,c]
def mM(d:TE):TE:=fun a H Q=>d a H λx a=>Q (.bl (decide (x=.fQ))) a
def YW(d:TE):TE:=fun a H Q=>d a H λx a=>Q (.bl (!decide (x=.fQ))) a
def RelV.Ey{x:V}{v:Value}(r:RelV x v):(v == Value.none)=decide (x=.fQ):=by
 cases x with
 | fQ=>cases r;rfl
 | bl _=>cases r;rfl
 | int _=>let⟨t,rfl⟩:=r;rfl
 | str _=>let⟨t,rfl⟩:=r;rfl
 | G6 _=>let⟨t,rfl⟩:=r;rfl
 | Um _=>let⟨t,rfl⟩:=r;rfl
 | ref _=>cases r;rfl
 | ty _=>cases r;rfl
def CH{j f}(g:PE X a d):PC X .Is a (.Constant .none j f) (mM d):=by
 intro b s c H Q I h;refine dF (g b s c H _ I h) λv c b=>?_;let⟨x,c,e,h,i⟩:=b;exact Constant_none (is_none_gen ⟨.bl _,c,e,by rw[h.Ey];rfl,i⟩)
def Q6{j f}(g:PE X a d):PC X .IsNot a (.Constant .none j f) (YW d):=by
 intro b s c H Q I h;refine dF (g b s c H _ I h) λv c b=>?_;let⟨x,c,e,h,i⟩:=b;exact Constant_none (isnot_none_gen ⟨.bl _,c,e,by rw[h.Ey];rfl,i⟩)
def tB(t:TE):TT:=fun a H Q=>t a H λx a=>eC x a Q
def G7{f:CmpOp}{t:TE}(h:PC X f a b t)(g:behindInMarks f b=false:=by ac_nf):PE X (.Compare a [f] [b] c) t:=λd s e H Q I i=>wpAny_Compare1 (h d s e H Q I i) g
def CJ{f:CmpOp}{t:TE}(h:PC X f a b t)(g:behindInMarks f b=false:=by ac_nf):PT X (.Compare a [f] [b] c) (tB t):=by
 intro d s e H Q I i;refine wpAny_isTrue_Compare1 (dF (h d s e H _ I i) λv d g=>dF g λu e d=>dF d λd e ⟨x,j,k,l,m⟩=>?_) g;let⟨n,rfl,q⟩:=m;cases l;exact wpAny_truthy_bool ⟨j,k,q⟩
def iU{f:Expr}{t:TE}(h:PE X f t)(i:∀ g,isTrue f X.env g=(do let v ← g;standAt f.pos;holding [v] (truthy v)):=by intro _;rfl):PT X f (tB t):=by
 intro a s b H Q I c;refine isTrue_plain (dF (h a s b H _ I c) λv a ⟨x,d,e,j,k⟩=>?_) (i _);let⟨l,rfl,q⟩:=k;cases j;exact wpAny_truthy_bool ⟨d,e,q⟩
variable {e eD:TT} {tT:List Expr}
def mN(t u:TT):TT:=fun a H Q=>t a H λc b=>if c=true then u a b Q else Q false b
def mU(t u:TT):TT:=fun a H Q=>t a H λc b=>if c=true then Q true b else u a b Q
def mV(t:TT):TT:=fun a H Q=>t a H λc a=>Q (!c) a
def mX(f:PT X a e):PW X (.BoolOp .And [a] c) e:=by
 intro j d s g H Q I h;refine isTrue_and (dF (f d s g H Q I h) λi d b=>?_)
 cases i with
 | true=>exact isTrue_and_nil b
 | false=>exact b
def yo(f:PT X a e):PW X (.BoolOp .Or [a] c) e:=by
 intro j d s g H Q I h;refine isTrue_or (dF (f d s g H Q I h) λi d b=>?_)
 cases i with
 | false=>exact isTrue_or_nil b
 | true=>exact b
def pX(j:PT X a e)(k:PW X (.BoolOp .And (b::tT) c) eD):PW X (.BoolOp .And (a::b::tT) c) (mN e eD):=by
 intro l d s f H Q I m;refine isTrue_and (dF (j d s f H _ I m) λn o m=>?_);let⟨g,h,i⟩:=m
 cases n with
 | true=>exact k l d o f g Q h i
 | false=>exact⟨g,h,i⟩
def Bo(j:PT X a e)(k:PW X (.BoolOp .Or (b::tT) c) eD):PW X (.BoolOp .Or (a::b::tT) c) (mU e eD):=by
 intro l d s f H Q I m;refine isTrue_or (dF (j d s f H _ I m) λn o m=>?_);let⟨g,h,i⟩:=m
 cases n with
 | true=>exact⟨g,h,i⟩
 | false=>exact k l d o f g Q h i
def ir(f:PT X a e):PT X (.UnaryOp .Not a c) (mV e):=by
 intro b s d H Q I h;exact isTrue_not (f b s d H (λb d=>Q (!b) d) I h)
def YX(d tb:TE):TE:=fun b H Q=>d b H λx a=>eC x a λc a=>if c=true then tb b a Q else Q (.bl false) a
def YY(d:TE):TE:=fun a H Q=>d a H λx a=>eC x a λc a=>Q (.bl (!c)) a
theorem pY{f}{t:TE}(h:PE X a t):PE X (.BoolOp f [a] c) t:=λb s d H Q I e=>BoolOp_one (h b s d H Q I e)
def om(j:PE X a d)(k:PE X (.BoolOp .And (b::tT) c) tb):PE X (.BoolOp .And (a::b::tT) c) (YX d tb):=by
 intro f s g H Q I l;refine BoolOp_and (dF (j f s g H _ I l) λv m l=>?_);let⟨x,h,i,n,e⟩:=l;let⟨o,rfl,e⟩:=e;cases n;refine wpAny_truthy_bool ?_
 cases o with
 | true=>exact k f m g h Q i e
 | false=>exact⟨.bl false,h,i,1,e⟩
def VE(f:PE X a d):PE X (.UnaryOp .Not a c) (YY d):=by
 intro e s g H Q I h;refine UnaryOp_ (dF (f e s g H _ I h) λv g e=>?_);let⟨x,i,j,k,b⟩:=e;let⟨l,rfl,b⟩:=b;cases k;exact not_of (wpAny_truthy_bool ⟨.bl (!l),i,j,1,b⟩)
def m3(t:TT)(d tb:TE):TE:=fun a H Q=>t a H λc b=>if c=true then d a b Q else tb a b Q
def EC{h:Expr}(m:PT X h e)(n:PE X a d)(o:PE X b tb):PE X (.IfExp h a b c) (m3 e d tb):=by
 intro f s g H Q I p;refine wpAny_IfExp (dF (m f s g H _ I p) λq i p=>?_);let⟨j,k,l⟩:=p
 cases q with
 | true=>exact n f i g j Q k l
 | false=>exact o f i g j Q k l
end
end _L2
namespace _L2
open Spec Rows
def bM(K:Frag)(H:Hp)(b:Addr)(c:List V):Prop :=
 Rd H b (.lst c)\/
  ∃ (o:Obj) (a:Xt) (n:Nat),K.lookup b=⇑o/\o.cls=.type "list"/\o.dict=none/\o.data=.seq a n/\a.size<=sizeLine/\cD c a.toList
def dG(K:Frag)(H:Hp)(b:Addr)(c:List V):Prop :=
 Rd H b (.tup c)\/
  ∃ (o:Obj) (a:Xt) (n:Nat),K.lookup b=⇑o/\o.cls=.type "tuple"/\o.data=.seq a n/\a.size<=sizeLine/\cD c a.toList
def m4:Value->Option V
 | .none=>some .fQ
 | .bool b=>⇑(.bl b)
 | .int i _=>⇑(.int i)
 | .str x _=>⇑(.str x)
 | .bytes b _=>⇑(.G6 b)
 | .float b _=>⇑(.Um b)
 | .ref a=>⇑↥a
 | .type n=>⇑(.ty n)
 | _=>none
def RelV.abs{x:V}{u:Value}(r:RelV x u):m4 u=⇑x:=by
 cases x with
 | fQ=>cases r;rfl
 | bl _=>cases r;rfl
 | int _=>let⟨t,rfl⟩:=r;rfl
 | str _=>let⟨t,rfl⟩:=r;rfl
 | G6 _=>let⟨t,rfl⟩:=r;rfl
 | Um _=>let⟨t,rfl⟩:=r;rfl
 | ref _=>cases r;rfl
 | ty _=>cases r;rfl
theorem RelV.inj{x y:V}{u:Value}(r:RelV x u)(q:RelV y u):x=y:=pW (r.abs.symm.trans q.abs)
theorem cD.inj:∀ {a b:List V} {c:WP},cD a c->cD b c->a=b
 | _,_,_,.nil,.nil=>rfl
 | _,_,_,.cons r t,.cons d e=>by rw[r.inj d,cD.inj t e]
section
variable {X:Cx} {ay:List (Addr × Obj)} {σ:St} {H:Hp} {s:Shared} {a:Addr} {xs ys:List V}
theorem bM.of{K:Frag}(h:H a=⇑(.lst xs)):bM K H a xs:=.inl (.inl h)
theorem dG.of{K:Frag}(h:H a=⇑(.tup xs)):dG K H a xs:=.inl (.inl h)
def Inv.list(I:Inv X ay σ H s)(h:bM X.K H a xs):∃ b:List Value,cD xs b/\PlainL s.heap a b.toArray/\↑xs<=sizeLine:=by
 rcases h with h|⟨o,b,n,c,d,f,g,e,r⟩
 ·let⟨z,b,n,r,e⟩:=h.ok I.hok;exact⟨b,r,⟨_,n,e,V,1⟩,z⟩
 ·refine⟨b.toList,r,⟨o,n,I.wJ a o c,d,f,by simpa using g⟩,?_⟩;let e:=↑r;simp only[Array.length_toList]at e;lia
def Inv.tuple(I:Inv X ay σ H s)(h:dG X.K H a xs):∃ b:List Value,cD xs b/\IsTup s.heap a b.toArray/\↑xs<=sizeLine:=by
 rcases h with h|⟨o,b,n,c,d,e,f,r⟩
 ·let⟨z,b,r,p⟩:=h.ok I.hok;exact⟨b,r,p,z⟩
 ·refine⟨b.toList,r,⟨o,I.wJ a o c,d,n,by simpa using e⟩,?_⟩;let e:=↑r;simp only[Array.length_toList]at e;lia
def Inv.ED(I:Inv X ay σ H s)(h:bM X.K H a xs)(d:bM X.K H a ys):xs=ys:=by
 let⟨e,r,⟨o,n,f,_,_,g⟩,_⟩:=I.list h;let⟨i,j,⟨k,l,b,_,_,c⟩,_⟩:=I.list d;rw[f]at b;cases b;rw[g]at c;injection c with b _;have:e=i:=by simpa using congrArg Array.toList b
 subst this;exact r.inj j
def Inv.Bp(I:Inv X ay σ H s)(h:dG X.K H a xs)(d:dG X.K H a ys):xs=ys:=by
 let⟨e,r,⟨o,f,_,n,g⟩,_⟩:=I.tuple h;let⟨i,j,⟨k,b,_,l,c⟩,_⟩:=I.tuple d;rw[f]at b;cases b;rw[g]at c;injection c with b _;have:e=i:=by simpa using congrArg Array.toList b
 subst this;exact r.inj j
end
abbrev Cx.AD(a:Cx)(E:ZB):Cx:={ a with xe:=E }
abbrev Cx.JA(a:Cx):Cx:=a.AD λ_ _=>False
theorem Cx.Ok.AD{b:Cx}(a:b.Ok)(E:ZB):(b.AD E).Ok :=
 ⟨a.mod,a.kind,a.glob,a.blt,a.above,a.inj,a.has,a.YS,a.hd,a.frames,a.stk,a.hC,a.bs,a.Uq,a.Nc,a.Q3,a.xG,a.VA⟩
theorem Cx.Ok.pZ{b:Cx}{E:ZB}(a:(b.AD E).Ok):b.Ok :=
 ⟨a.mod,a.kind,a.glob,a.blt,a.above,a.inj,a.has,a.YS,a.hd,a.frames,a.stk,a.hC,a.bs,a.Uq,a.Nc,a.Q3,a.xG,a.VA⟩
section
variable {X:Cx} {ay:List (Addr × Obj)} {σ:St} {H:Hp} {s:Shared} {E:ZB}
theorem Inv.AD(I:Inv X ay σ H s)(E:ZB):Inv (X.AD E) ay σ H s:=⟨I.ok.AD E,I.os,I.bare,I.zt,I.loc,I.cell,I.free,I.rD,I.pin,I.hok,I.len⟩
theorem Inv.pZ(I:Inv (X.AD E) ay σ H s):Inv X ay σ H s:=⟨I.ok.pZ,I.os,I.bare,I.zt,I.loc,I.cell,I.free,I.rD,I.pin,I.hok,I.len⟩
def SP.pZ{D:Ends}{f:Flow}{c:Shared}(h:SP (X.AD E) ay D f c):SP X ay D f c:=by
 cases f with
 | next=>let⟨a,b,I,q⟩:=h;exact⟨a,b,I.pZ,q⟩
 | brk=>let⟨a,b,I,q⟩:=h;exact⟨a,b,I.pZ,q⟩
 | cont=>let⟨a,b,I,q⟩:=h;exact⟨a,b,I.pZ,q⟩
 | ret u=>let⟨v,a,b,I,r,q⟩:=h;exact⟨v,a,b,I.pZ,r,q⟩
theorem Jz.JA{a:List Stmt}{t:TS}(h:Jz X.JA a t):Jz X a t:=λay s σ H D I b =>
 wpAny_mono (h ay s σ H D (I.AD _) b) (λ_ _ q=>q.pZ) λ_ _ z=>False.elim z
end
section
variable {X:Cx} {st:Stmt} {tT:List Stmt} {t u:TS} {e:Expr} {te:TE} {pos:Pos}
def YZ:TS:=λD a H=>D.nx a H
def nf(t u:TS):TS:=λD a H=>t (D.sq u) a H
theorem bq:Jz X [] YZ:=λ_ _ a H _ I h=>wpAny_execs_nil ⟨a,H,I,h⟩
def aj(b:PS X st t)(c:Jz X tT u):Jz X (st::tT) (nf t u):=by
 intro a s d H D I h;refine wpAny_execs_cons (dF (b a s d H (D.sq u) I h) λf e q=>?_)
 cases f with
 | next =>
  let⟨d,f,g,q⟩:=q;exact c a e d f D g q
 | ret v=>exact q
 | brk=>exact q
 | cont=>exact q
def au(a:PS X st t):Jz X [st] t:=by
 intro b s c H D I h;refine wpAny_execs_cons (dF (a b s c H D I h) λf b q=>?_)
 cases f with
 | next=>exact wpAny_execs_nil q
 | ret v=>exact q
 | brk=>exact q
 | cont=>exact q
def Y0:TS:=λD a H=>D.ct a H
theorem EE:PS X (.Continue pos) Y0:=λ_ _ a H _ I h=>wpAny_Continue ⟨a,H,I,h⟩
def Inv.quiet{a:St}{H:Hp}{s:Shared}(I:Inv X b a H s):interactive X.env=false:=by simp[interactive,I.ok.kind]
def Y3(te:TE):TS:=λD a H=>te a H λ_ b=>D.nx a b
def aU(b:PE X e te)(c:swapsWith e none pos.line X.env=pure false:=by rfl):PS X (.Expr e pos) (Y3 te):=by
 intro d s a H D I h;exact wpAny_Expr_any (dF (b d s a H _ I h) λv h ⟨x,d,f,i,g⟩=>⟨a,d,f,g⟩) I.quiet c
def no(te:TE):TS:=λD a H=>te a H D.rt
def aK(b:PE X e te):PS X (.Return (⇑e) pos) (no te):=by
 intro c s a H D I h;exact wpAny_Return_some (dF (b c s a H _ I h) λv h ⟨x,c,d,f,g⟩=>⟨x,a,c,d,f,g⟩)
def np(c:TT)(t u:TS):TS:=λD a H=>c a H λd b=>if d=true then t D a b else u D a b
def bR{c:Expr}{d f:List Stmt}{g:TT}(k:PT X c g)(l:Jz X d t)(m:Jz X f u):PS X (.If c d f pos) (np g t u):=by
 intro a s b H D I n;refine wpAny_If (dF (k a s b H _ I n) λo e n=>?_);let⟨h,i,j⟩:=n
 cases o with
 | true=>exact l a e b h D i j
 | false=>exact m a e b h D i j
def VF:TS:=λ_ _ _=>False
theorem gS:PS X st VF:=λ_ _ _ _ _ _ h=>h.elim
end
abbrev TG:=V->St->Hp->(St->Hp->Prop)->Prop
abbrev VG:=List V->St->Hp->(St->Hp->Prop)->Prop
def PG(a:Cx)(e:Expr)(t:TG):Prop :=
 ∀ (b:List (Addr × Obj)) (s:Shared) (c:St) (H:Hp) (v:V) (u:Value) (Q:St->Hp->Prop),Inv a b c H s->RelV v u->t v c H Q->
  wpAny (model a.prog a.w) a.A (assign e a.env u) (λ_ f=>∃ c d,Inv a b c d f/\Q c d) a.xe s
def Y4(a:Cx)(f:List Expr)(t:VG):Prop :=
 ∀ (b:List (Addr × Obj)) (s:Shared) (c:St) (H:Hp) (d:List V) (e:WP) (Q:St->Hp->Prop),Inv a b c H s->cD d e->t d c H Q->
  wpAny (model a.prog a.w) a.A (assignInOrder ((assignEach f a.env).map (·.2)) e) (λ_ e=>∃ c d,Inv a b c d e/\Q c d) a.xe s
abbrev VH:=V->V->V->Hp->(Hp->Prop)->Prop
def Y5(a:Cx)(t:VH):Prop :=
 ∀ (b:List (Addr × Obj)) (s:Shared) (c:St) (H:Hp) (o i v:V) (d e u:Value) (Q:Hp->Prop),Inv a b c H s->RelV o d->RelV i e->RelV v u->t o i v H Q->
  wpAny (model a.prog a.w) a.A (setItem d e u) (λ_ e=>∃ d,Inv a b c d e/\Q d) a.xe s
abbrev eH:=V->V->Hp->VK->Prop
def fw(a:Cx)(d:Operator)(t:eH):Prop :=
 ∀ (b:List (Addr × Obj)) (s:Shared) (c:St) (H:Hp) (x y:V) (v u:Value) (Q:VK),Inv a b c H s->RelV x v->RelV y u->t x y H Q->
  wpAny (model a.prog a.w) a.A (inplaceOp d v u) (EP a b c Q) a.xe s
section
variable {X:Cx} {pos:Pos}
def qb(i:Nat):TG:=λv a H Q=>Q (a.set i (⇑v)) H
def Q7{i:Nat}{x:Str}(a:X.N.Nodup)(b:X.N[i]?=⇑x)(c:Loc X.env.scope x)(d:X.fn x=true\/X.env.scope.names.lookup x=⇑.local:=by bv_normalize):PG X (.Name x pos) (qb i):=by
 intro e s f H v u Q I r h;exact wpAny_assign_Name (yj I a b c r (λf e=>⟨_,H,e,h⟩) d)
def nq:VG:=λa b H Q=>a=[]/\Q b H
inductive Y6(t:TG)(u:VG)(vs:List V)(σ:St)(H:Hp)(Q:St->Hp->Prop):Prop
 | mk (v:V) (r:List V) (_:vs=v::r) (_:t v σ H fun σ' H'=>u r σ' H' Q)
def gi:Y4 X [] nq:=by
 intro b s a H c d Q I r h;let⟨e,h⟩:=h;subst e;cases r;exact assignInOrder_nil ⟨a,H,I,h⟩
theorem bT{e:Expr}{a:List Expr}{t:TG}{u:VG}(c:PG X e t)(d:Y4 X a u)
  (f:(assignEach (e::a) X.env).map (·.2)=assign e X.env::(assignEach a X.env).map (·.2):=by rfl):Y4 X (e::a) (Y6 t u):=by
 intro b s g H j k Q I r h;let⟨v,j,i,h⟩:=h;subst i
 cases r with
 | cons r i =>
  rw[f];refine assignInOrder_cons (dF (c b s g H _ _ _ I r h) λ_ g h=>?_);let⟨j,k,l,m⟩:=h;exact d b g j k _ _ Q l i m
inductive VI(K:Frag)(n:Nat)(t:VG)(v:V)(σ:St)(H:Hp)(Q:St->Hp->Prop):Prop
 | mk (a:Addr) (b:List V) (_:v=↥a) (_:dG K H a b) (_:↑b=n) (_:t b σ H Q):VI K n t v σ H Q
theorem kQ{a:List Expr}{k:Nat}{t:VG}{n:Nat}(g:X.calm=true)(h:Y4 X a t)
  (i:↑(assignEach a X.env)=n:=by rfl) (j:(assignEach a X.env).findIdx? (·.1)=none:=by rfl):PG X (.Tuple a k pos) (VI X.K n t):=by
 intro c s d H v u Q I r b;let⟨o,l,e,f,m,b⟩:=b;subst e;cases r;let⟨p,e,o,q⟩:=I.tuple f;refine assign_Tuple_tuple (I.ok.hd g) o (by simp[i,← m,e.length]) j λf m=>?_;have o:Inv X c d H { s with heap:=f }:=I.kept (t':=s.toks) λp q f=>m p q (jK (Heap.lt_size f)) f;exact h c _ d H l _ Q o (by simpa using e) b
def nw(b c:TE)(t:VH):TG:=λv a H Q=>b a H λo d=>c a d λi d=>t o i v d λd=>Q a d
theorem oq{o i:Expr}{e f:TE}{t:VH}(g:PE X o e)(h:PE X i f)(j:Y5 X t)
  (k:∀ v,assign (.Subscript o i pos) X.env v=(do
   let a ← holding [v] (eval o X.env)
   let b ← holding [v,a] (eval i X.env)
   standAt pos
   holding [v,a,b] (setItem a b v)
   release [v,a,b] []):=by intro _;rfl):PG X (.Subscript o i pos) (nw e f t):=by
 intro d s c H v u Q I r l;rw[k];refine wpAny_bind (wpAny_holding (dF (g d s c H _ I l) λa l m=>?_));let⟨x,n,p,q,w⟩:=m;refine wpAny_bind (wpAny_holding (dF (h d l c n _ p w) λb l m=>?_));let⟨y,n,p,w,z⟩:=m;refine wpAny_bind (wpAny_standAt (wpAny_bind (wpAny_holding (dF (j d l c n x y v a b u _ p q w r z) λ_ l d=>?_))));let⟨l,m,n⟩:=d;exact wpAny_release ⟨c,l,m,n⟩
def Nf(b:TE)(g:TG):TS:=λD a H=>b a H λx c=>g x a c D.nx
theorem lZ{e:Expr}{b:TE}{g:TG}(f:PE X e b)(h:PG X a g)(i:swapsWithSole [a] e pos.line X.env=pure false:=by rfl)(j:swappedStores [a] e X.env=pure none:=by rfl)
  (k:(assignEach [a] X.env).map (·.2)=[assign a X.env]:=by rfl):PS X (.Assign [a] e pos) (Nf b g):=by
 intro c s d H D I l;refine wpAny_Assign_stores (dF (f c s d H _ I l) λv l ⟨x,m,n,o,p⟩=>?_) i j;rw[k];exact dF (h c l d m x v _ n o p) λ_ c q=>q
theorem VJ{i:Nat}{x:Str}{e:Expr}{a:TE}(b:X.N.Nodup)(c:X.N[i]?=⇑x)(d:Loc X.env.scope x)(f:PE X e a)(g:swapsWith e (⇑(.Name x h)) pos.line X.env=pure false:=by rfl)(j:X.fn x=true\/X.env.scope.names.lookup x=⇑.local:=by bv_normalize) :
  PS X (.Assign [.Name x h] e pos) (Nf a (qb i)):=by
 intro k s l H D I m;refine wpAny_Assign_Name (dF (f k s l H _ I m) λv o ⟨y,k,l,m,n⟩=>?_) g;exact yj l b c d m (λm l=>⟨_,k,l,n⟩) j
def nD(i:Nat)(b:TE)(c:eH):TS:=λD a H=>∃ x,a[i]?=⇑(⇑x)/\b a H λy d=>c x y d λz d=>D.nx (a.set i (⇑z)) d
def sF{i:Nat}{x:Str}{e:Expr}{f:TE}{b:Operator}{g:eH}{n:Pos}(o:X.N.Nodup)(j:X.N[i]?=⇑x)(c:Loc X.env.scope x)(p:PE X e f)(q:fw X b g)(t:X.fn x=true\/X.env.scope.names.lookup x=⇑.local:=by bv_normalize) :
  PS X (.AugAssign (.Name x n) b e pos) (nD i f g):=by
 intro d s l H D I h;let⟨v,w,h⟩:=h;let⟨r,y,z⟩:=I.loc;let A:eB X.env.scope x:=by rcases c with k|k;exact .inl k;exact .inr (.inl k)
 let⟨u,r,B⟩:=z i x v j w A;refine wpAny_AugAssign_Name ?_
 let m:wpAny (model X.prog X.w) X.A (eval e X.env) (λw a=>wpAny (model X.prog X.w) X.A (inplaceOp b u w) (λr z=>wpAny (model X.prog X.w) X.A (storeName X.env x r) (λ_=>SP X d D .next) X.xe z) X.xe a) X.xe s:=by
  refine dF (p d s l H _ I h) λw a h=>?_;let⟨z,A,C,D,F⟩:=h;refine dF (q d a l A v z u w _ C r D F) λz d a=>?_;let⟨u,d,h,l,r⟩:=a;exact yj h o j c l (λh a=>⟨_,d,a,r⟩) t
 rcases B with ⟨a,d⟩|⟨a,h,C,F⟩
 ·exact wpAny_loadName_local I.ok.kind a y d m
 ·rcases a with a|a
  ·exact wpAny_loadName_cell I.ok.kind a C F m
  ·rcases c with k|k
   ·have:X.env.scope.names.lookup x=⇑.free:=a;rw[k]at this;cases this
   ·have:X.env.scope.names.lookup x=⇑.free:=a;rw[k]at this;cases this
def nN(f:Int->Int->Int):eH:=λx y H Q=>∃ i j,x=.int i/\y=.int j/\Q (.int (f i j)) H
def Ng:fw X .Add (nN λi j=>i+j):=by
 intro e s f H x y v u Q I a b h;let⟨i,j,c,d,q⟩:=h;subst c;subst d;let⟨t,rfl⟩:=a;let⟨g,rfl⟩:=b;exact iadd_int ⟨.int _,H,I.tok _,⟨Y⟩,q⟩
end
section
variable {X:Cx} {pos:Pos}
def VL(f:TT)(g:TS):TS:=λD a H=>∃ W:Nat->St->Hp->Prop,(∃ m,W m a H)/\∀ m a H,W m a H->
 f a H λc b=>if c=true then ∃ N:St->Hp->Prop,(∀ c d,N c d->∃ e,e<m/\W e c d)/\g (D.lp N) a b else D.nx a b
def nH{k:Expr}{l:TT}{m:TS}(o:PassesOwn (model X.prog X.w) X.A X.env X.xe)(t:PT X k l)(u:Jz X v m):PS X (.While k v [] pos) (VL l m):=by
 intro a s f H D I h;let⟨W,⟨g,i⟩,j⟩:=h;refine wpAny_While (codeAny_whileLoop (λn d=>∃ b c,Inv X a b c d/\W n b c) ?_ g ⟨f,H,I,i⟩);rintro n f ⟨c,b,g,h⟩;refine wpAny_passesOwn o (dF (t a f c b _ g (j n c b h)) λw x b=>?_);let⟨p,q,d⟩:=b
 cases w with
 | true =>
  let⟨N,r,d⟩:=d;rw[if_pos rfl];refine wpAny_passesOwn o (dF (u a x c p _ q d) λy a e=>?_)
  cases y with
  | next =>
   let⟨a,b,f,g⟩:=e;let⟨h,i,j⟩:=r a b g;exact⟨h,i,a,b,f,j⟩
  | cont =>
   let⟨a,b,f,g⟩:=e;let⟨h,i,j⟩:=r a b g;exact⟨h,i,a,b,f,j⟩
  | brk=>exact e
  | ret a=>exact e
 | false =>
  rw[if_neg lV];exact wpAny_execs_nil ⟨c,p,q,d⟩
end
structure It where
 go:Nat->Hp->Prop
 Nh:Nat->Hp->V->Hp->Prop
 stop:Nat->Hp->Prop
def ou(a:Cx)(d:List (Addr × Obj))(H:Hp)(b:Addr):Prop :=
 H b=none/\b≠a.env.locals/\b∉a.fs/\(b∈a.ex\/a.s₀.heap.objs.size<=b)/\(∀ x c,a.env.cells.lookup x=⇑c->c≠b)/\∀ p∈a.pn++d,p.1≠b
def Inv.KU{c:Cx}{e:St}{H d:Hp}{s:Shared}{b:Addr}(I:Inv c f e H s)(a:s.heap.objs.size<=b)(g:d b=none):ou c f d b:=by
 refine⟨g,Nat.ne_of_gt (pJ I.lt a),I.mB a,.inr (ig I.sz a),λx h i z=>?_,λp j z=>?_⟩
 ·let⟨v,q⟩:=I.cell x h i;exact absurd (pJ q.lt (by rw[z];exact a)) (Nat.lt_irrefl _)
 ·exact absurd (pJ (Heap.lt_size (I.pin p j).1) (by rw[z];exact a)) (Nat.lt_irrefl _)
structure Hg(P:Program)(w:World)(K:Frag)(tg:Expr)(J:It)(fp:WF)(it:Addr)(tn:Nat->Heap->Prop):Prop where
 mem:it∈fp
 obj:∀ i h,tn i h->∀ b∈fp,∃ o,h.get? b=⇑o/\∀ v,o.data≠.cell v
 keep:∀ i h h',tn i h->(∀ b∈fp,∀ o,h.get? b=⇑o->h'.get? b=⇑o)->tn i h'
 item:∀ (X:Cx),X.prog=P->X.w=w->X.K=K->X.calm=true->∀ (i:Nat) (ay:List (Addr × Obj)) (s:Shared) (σ:St) (H:Hp) (E:ZB),Inv X ay σ H s->(∀ b∈fp,ou X ay H b)->tn i s.heap->J.go i H->
  wpAny (model P w) X.A (pyNext ↥it) (λr s1=>∃ u,r=⇑u/\
   wpAny (model P w) X.A (letOwnedTupleGo tg ↥it u) (λ_ s2=>∃ x H',Inv X ay σ H' s2/\RelV x u/\J.Nh i H x H'/\tn (i+1) s2.heap/\∀ b∈fp,H' b=none) E s1) E s
 done:∀ (X:Cx),X.prog=P->X.w=w->X.K=K->X.calm=true->∀ (i:Nat) (ay:List (Addr × Obj)) (s:Shared) (σ:St) (H:Hp) (E:ZB),Inv X ay σ H s->(∀ b∈fp,ou X ay H b)->tn i s.heap->J.stop i H->
  wpAny (model P w) X.A (pyNext ↥it) (λr s1=>r=none/\Inv X ay σ H s1) E s
 self:∀ (A:Around) (i:Nat) (s:Shared) (Q:ZB) (E:ZB),tn i s.heap->Q ↥it s->wpAny (model P w) A (pyIter ↥it) Q E s
abbrev TI:=St->Hp->(It->Hp->Prop)->Prop
def fy(a:Cx)(c:List (Addr × Obj))(h:St)(i:Expr)(j:It->Hp->Prop)(k:Value)(d:Shared):Prop :=
 ∃ (e:Addr) (f:WF) (g:Nat->Heap->Prop) (J:It) (b:Hp),k=↥e/\Inv a c h b d/\Hg a.prog a.w a.K i J f e g/\g 0 d.heap/\(∀ l∈f,ou a c b l)/\j J b
def PI(a:Cx)(d e:Expr)(f:TI):Prop :=
 ∀ (c:List (Addr × Obj)) (s:Shared) (b:St) (H:Hp) (R:It->Hp->Prop),Inv a c b H s->f b H R->
  wpAny (model a.prog a.w) a.A (eval e a.env) (λv g=>wpAny (model a.prog a.w) a.A (pyIter v) (fy a c b d R) a.xe g) a.xe s
theorem EF{M:Model}{A:Around}{E:ZB}{s:Shared}{b:Addr}{u:Value}{o:Obj}{n:String}{c:Xt}{Q:Unit->Shared->Prop}(d:s.heap.get? b=⇑o)(e:o.cls=.type n)(f:o.data=.fields c)
  (g:["enumerate","zip","dict_itemiterator","dict_reverseitemiterator","odict_iterator","itertools.zip_longest","itertools.pairwise"].contains n=false) (a:Q () s):wpAny M A (letOwnedTupleGo i ↥b u) Q E s:=by
 unfold letOwnedTupleGo
 cases i <;> first
  | exact wpAny_pure a
  | (cases u <;> first
    | exact wpAny_pure a
    | (refine wpAny_bind (wpAny_load d ?_);rw[e,f];show wpAny M A (if (["enumerate","zip","dict_itemiterator","dict_reverseitemiterator","odict_iterator","itertools.zip_longest","itertools.pairwise"].contains n&&c[0]? == some (rawInt _))=true then _ else _) Q E s;rw[if_neg (by intro h;rw[g,Bool.false_and]at h;cases h)];exact wpAny_pure a))
def Ni(K:Frag)(b:Addr):It :=
 ⟨λi H=>∃ a x,bM K H b a/\a[i]?=⇑x,λi H x c=>c=H/\∀ a,bM K H b a->a[i]?=⇑x,λi H=>∃ a,bM K H b a/\↑a<=i⟩
def Y8(K:Frag)(b:Addr):It :=
 ⟨λi H=>∃ a x,dG K H b a/\a[i]?=⇑x,λi H x c=>c=H/\∀ a,dG K H b a->a[i]?=⇑x,λi H=>∃ a,dG K H b a/\↑a<=i⟩
def JB(lo:Int)(n:Nat):It:=⟨λi _=>i<n,λi H x a=>a=H/\x=.int (lo+i),λi _=>n<=i⟩
theorem KW{P:Program}{J:World}{K:Frag}(z b:Addr):Hg P J K tg (Ni K z) [b] b (λi h=>h.IsListIter b z i) where
 mem:=by simp
 obj:=λi h a c d=>by
  let e:c=b:=by simpa using d
  subst e;let⟨o,e,A,k⟩:=a;exact⟨o,e,λv f=>by rw[k]at f;cases f⟩
 keep:=λi h f a F=>a.at λo e=>F b (by simp) o e
 item:=by
  intro X l m n B i C s D H E I g a p;subst l m n;let⟨L,M,j,q⟩:=p;let⟨N,r,t,O⟩:=I.list j;let⟨F,G,R⟩:=r.get q;let⟨u,v,S,w,x,y⟩:=g b (by simp);refine wpAny_pyNext_list_item a t.isList (x:=F) (by simpa using G) λf G T=>?_;have U:Inv X C D H { s with heap:=f }:=I.turned (t':=s.toks) (λc o d e=>(T.2 c d).trans e) u v w x y;let⟨o,e,A,k⟩:=id G;exact⟨F,1,EF (s:={ s with heap:=f }) e A k (by decide) ⟨M,H,U,R,⟨1,λA k=>by rw[I.ED k j];exact q⟩,G,λc d=>(g c d).1⟩⟩
 done:=by
  intro X l m n B i C s D H E I g a p;subst l m n;let⟨L,j,q⟩:=p;let⟨N,r,t,O⟩:=I.list j;let⟨u,v,S,w,x,y⟩:=g b (by simp);let g:=↑r;exact wpAny_pyNext_list_end (I.ok.hd B) a t.isList (by simp;lia) λf f=>⟨1,I.turned (t':=s.toks) (λc o d e=>f c o d e) u v w x y⟩
 self:=λ_ _ _ _ _ a h=>wpAny_pyIter_listiter a h
theorem Hh{P:Program}{L:World}{K:Frag}(f b:Addr):Hg P L K tg (Y8 K f) [b] b (λi h=>h.IsTupleIter b f i) where
 mem:=by simp
 obj:=λi h a c d=>by
  let e:c=b:=by simpa using d
  subst e;let⟨o,e,B,l⟩:=a;exact⟨o,e,λv z=>by rw[l]at z;cases z⟩
 keep:=λi h g a G=>a.at λo e=>G b (by simp) o e
 item:=by
  intro X m n p C i D s F H E I j a q;subst m n p;let⟨M,N,k,r⟩:=q;let⟨t,u,v,O⟩:=I.tuple k;let⟨G,J,R⟩:=u.get r;let⟨w,x,S,y,z,A⟩:=j b (by simp);refine wpAny_pyNext_tuple_item a (show s.heap.IsTuple f t.toArray from v) (x:=G) (by simpa using J) λg J T=>?_;have U:Inv X D F H { s with heap:=g }:=I.turned (t':=s.toks) (λc o d e=>(T.2 c d).trans e) w x y z A;let⟨o,e,B,l⟩:=id J;exact⟨G,1,EF (s:={ s with heap:=g }) e B l (by decide) ⟨N,H,U,R,⟨1,λB l=>by rw[I.Bp l k];exact r⟩,J,λc d=>(j c d).1⟩⟩
 done:=by
  intro X m n p C i D s F H E I j a q;subst m n p;let⟨M,k,r⟩:=q;let⟨t,u,v,O⟩:=I.tuple k;let⟨w,x,S,y,z,A⟩:=j b (by simp);let j:=↑u;exact wpAny_pyNext_tuple_end (I.ok.hd C) a (show s.heap.IsTuple f t.toArray from v) (by simp;lia) λg g=>⟨1,I.turned (t':=s.toks) (λc o d e=>g c o d e) w x y z A⟩
 self:=λ_ _ _ _ _ a h=>wpAny_pyIter_tupleiter a h
theorem yp{P:Program}{B:World}{K:Frag}(b:Addr)(lo:Int)(n:Nat):Hg P B K M (JB lo n) [b] b (λi h=>IsRangeIter h b (lo+(i:Nat)*1) ((n:Int)-(i:Nat)) 1) where
 mem:=by simp
 obj:=λi h a c d=>by
  let e:c=b:=by simpa using d
  subst e
  exact⟨_,a,λw z=>by
   let f:Data.fields _=Data.cell w:=z
   cases f⟩
 keep:=λi h f a C=>C b (by simp) _ a
 item:=by
  intro X j k l m i x s y H E I g a o;subst j k l;let⟨p,q,D,r,t,u⟩:=g b (by simp);let W:=Walks.range (prog:=X.prog) (w:=X.w) (I.ok.hd m) b lo 1 n;refine W.item i s _ _ o a λw f z F A G=>?_;let⟨J,rfl⟩:=F;have L:Inv X x y H { s with heap:=f,toks:=z }:=I.turned (λc v d e=>G c v (by simpa using d) e) p q r t u;refine⟨Y,EF (s:={ s with heap:=f,toks:=z }) (n:="range_iterator") A rfl rfl (by decide) ⟨.int (lo+i),H,L,⟨J,?_⟩,⟨V⟩,A,λc d=>(g c d).1⟩⟩;rw[Int.mul_one]
 done:=by
  intro X j k l m i x s y H E I g a o;subst j k l;let⟨p,q,D,r,t,u⟩:=g b (by simp);exact wpAny_pyNext_range_end (I.ok.hd m) a (by have:n<=i:=o;lia) λf f=>⟨1,I.turned (t':=s.toks) (λc v d e=>f c v d e) p q r t u⟩
 self:=λ_ _ _ _ _ a h=>wpAny_pyIter_rangeiter a h
end _L2
namespace _L2
open Spec Rows
section
variable {X:Cx} {tg:Expr}
inductive nU(K:Frag)(x:V)(H:Hp)(R:It->Hp->Prop):Prop
 | mk (a:Addr) (_:x=↥a) (_:∃ b,bM K H a b) (_:R (Ni K a) H)
def Ut(K:Frag)(a:TE):TI:=fun b H R=>a b H λx b=>nU K x b R
def n6(K:Frag)(c:TE):TI:=fun a H R=>c a H λx b=>∃ a,x=↥a/\(∃ d,dG K b a d)/\R (Y8 K a) b
def cJ{l:Expr}{d:TE}(g:PE X l d):PI X tg l (Ut X.K d):=by
 intro h s i H R I j;refine dF (g h s i H _ I j) λv b h=>?_;let⟨x,k,c,m,i⟩:=h;let⟨a,e,⟨h,n⟩,q⟩:=i;subst e;cases m;let⟨h,i,p,j⟩:=c.list n;refine wpAny_pyIter_list p.isList ?_;refine⟨b.heap.objs.size,[b.heap.objs.size],P,k,1,c.kept (t':=b.toks) λf o e=>Heap.get?_push_of_some _ e,KW a _,⟨_,Heap.get?_push_size _ rfl,V⟩,λf h=>?_,q⟩;have e:f=b.heap.objs.size:=by simpa using h
 subst e;exact c.KU (fk _) (c.hok.fresh (fk _))
def VM{l:Expr}{d:TE}(g:PE X l d):PI X tg l (n6 X.K d):=by
 intro h s i H R I j;refine dF (g h s i H _ I j) λv b h=>?_;let⟨x,k,c,m,i⟩:=h;let⟨a,e,⟨h,n⟩,q⟩:=i;subst e;cases m;let⟨h,i,p,j⟩:=c.tuple n;refine wpAny_pyIter_tuple (show b.heap.IsTuple a h.toArray from p) ?_;refine⟨b.heap.objs.size,[b.heap.objs.size],P,k,1,c.kept (t':=b.toks) λf o e=>Heap.get?_push_of_some _ e,Hh a _,⟨_,Heap.get?_push_size _ rfl,V⟩,λf h=>?_,q⟩;have e:f=b.heap.objs.size:=by simpa using h
 subst e;exact c.KU (fk _) (c.hok.fresh (fk _))
theorem Nj{b:St}{H:Hp}{s:Shared}{g:It->Hp->Prop}{E:ZB}{lo a:Int}{t u v:Tok}{c:Nat}(I:Inv X h b H s)(i:-(2^62)<=lo)(j:lo<2^62)(k:-(2^62)<=a)(l:a<2^62)
  (q:g (JB lo (a-lo).toNat) H):wpAny (model X.prog X.w) X.A (pyIter ↥s.heap.objs.size) (fy X h b tg g) E { s with heap:=s.heap.push { cls:=.type "range",data:=.fields (List.toArray [.int lo t,.int a u,.int 1 v]) },toks:=c }:=by
 refine wpAny_pyIter_range (IsRange.new ..) (small_one i j k l) ?_;let d:Inv X h b H { s with heap:=s.heap.push { cls:=.type "range",data:=.fields (List.toArray [.int lo t,.int a u,.int 1 v]) },toks:=c }:=I.kept λf o e=>Heap.get?_push_of_some _ e;refine⟨(s.heap.push { cls:=.type "range",data:=.fields (List.toArray [.int lo t,.int a u,.int 1 v]) }).objs.size,[(s.heap.push { cls:=.type "range",data:=.fields (List.toArray [.int lo t,.int a u,.int 1 v]) }).objs.size],P,H,1, d.kept (t':=c) λf o e=>Heap.get?_push_of_some _ e,yp _ lo (a-lo).toNat,?_,λf m=>?_,q⟩
 ·let n:lo+((0:Nat):Int)*1=lo:=by simp
  let p:(((a-lo).toNat:Nat):Int)-((0:Nat):Int)=Builtin.Range.rangeSize lo a 1:=by rw[rangeSize_one];split <;> lia
  show IsRangeIter _ _ (lo+((0:Nat):Int)*1) ((((a-lo).toNat:Nat):Int)-((0:Nat):Int)) 1;rw[n,p];exact Heap.get?_push_size _ rfl
 ·let e:f=(s.heap.push { cls:=.type "range",data:=.fields (List.toArray [.int lo t,.int a u,.int 1 v]) }).objs.size:=by simpa using m
  subst e;exact d.KU (fk _) (d.hok.fresh (fk _))
inductive n7(vs:List V)(H:Hp)(R:It->Hp->Prop):Prop
 | mk (j:Int) (_:vs=[.int j]) (_:-(2^62)<=j) (_:j<2^62) (_:R (JB 0 j.toNat) H)
def Y9(a:TA):TI:=fun b H R=>a b H λb c=>n7 b c R
def jk{a:Expr}{c:TA}{p:Pos}(d:Gl X "range")(e:X.mg "range"=none)(f:PA X [a] c)(g:starEach [a] X.env=[(false,eval a X.env)]:=by rfl):PI X tg (.Call (.Name "range" p) [a] [] h) (Y9 c):=by
 intro i s j H R I k;refine Call_ (vp I d e boot_range (PyProof.Rows.callWith_type1 (dF (f h i s j H _ I k) λi j ⟨k,u,l,m,b⟩=>?_) g rfl));let⟨j,n,b,o,q⟩:=b;subst n
 cases m with
 | cons r t =>
  cases t;let⟨v,rfl⟩:=r;exact call_range_1 (Nj l ∅ ∅ b o (by simpa using q))
def n'(e:TI)(g:TG)(f:TS):TS:=λD a H=>e a H λJ b=>∃ W:Nat->Nat->St->Hp->Prop,(∃ m,W 0 m a b)/\∀ i m a H,W i m a H->
 (J.stop i H/\D.nx a H)\/(J.go i H/\∃ N:St->Hp->Prop,(∀ c b,N c b->∃ d,d<m/\W (i+1) d c b)/\∀ x b,J.Nh i H x b->g x a b fun a c=>f (D.lp N) a c)
def sG(a:WF)(h:Heap):List (Addr × Obj):=a.filterMap λb=>(h.get? b).map λo=>(b,o)
theorem iu{a:WF}{h:Heap}{b:Addr}{o:Obj}(c:b∈a)(e:h.get? b=⇑o):(b,o)∈sG a h:=List.mem_filterMap.mpr ⟨b,c,by rw[e];rfl⟩
def KY{a:WF}{h:Heap}{p:Addr × Obj}(c:p∈sG a h):p.1∈a/\h.get? p.1=⇑p.2:=by
 let⟨b,d,e⟩:=List.mem_filterMap.mp c
 cases q:h.get? b with
 | none=>rw[q]at e;cases e
 | some o =>
  rw[q]at e;let f:(b,o)=p:=pW e;subst f;exact⟨d,q⟩
theorem Inv.pinned{c:St}{H:Hp}{s:Shared}{a:WF}(I:Inv X d c H s)(h:∀ b∈a,ou X d H b)(i:∀ b∈a,∃ o,s.heap.get? b=⇑o/\∀ v,o.data≠.cell v):Inv X (d++sG a s.heap) c H s :=
 I.Jx λp e=>(List.mem_append.mp e).elim (λz=>I.pin p (nG _ z)) λz=>by
  let⟨e,f⟩:=KY z;let⟨j,k,l,_⟩:=h p.1 e;let⟨o,g,m⟩:=i p.1 e;rw[f]at g;cases g;exact⟨f,j,k,l,m⟩
theorem Inv.nI{b:List (Addr × Obj)}{a:St}{H:Hp}{s:Shared}(I:Inv X (c++b) a H s):Inv X c a H s:=I.Jx λp d=>I.pin p (nG _ (oh _ d))
theorem eE{r:Expr}{v:TI}{w:TG}{y:TS}(j:PassesOwn (model X.prog X.w) X.A X.env X.xe)(z:X.calm=true)(J:PI X tg r v)(L:PG X tg w)(a:Jz X M y)
  (N:∀ x,foldedSetIterable r X.env x=pure x:=by intro _;rfl):PS X (.For tg r M [] am) (n' v w y):=by
 intro h s A O an R S;refine wpAny_For (dF (J h s A O _ R S) λU R O=>dF O λR S O=>?_) N;let⟨it,k,B,R,H2,l,I2,T,ab,C,W,⟨m0,w0⟩,l5⟩:=O;subst l;let t:∀ {f:Hp},(∀ b∈k,f b=none)->∀ b∈k,ou X h f b:=λO b a=>⟨O b a,(C b a).2⟩;refine codeAny_forLoop_any (λp c=>∃ i m f,Inv X h m f c/\B i c.heap/\(∀ b∈k,f b=none)/\W i p m f) ?_ m0 ⟨0,A,H2,I2,ab,λb a=>(C b a).1,w0⟩;rintro p D ⟨i,n,q,F,G,H,w3⟩;rcases l5 i p n q w3 with ⟨stop,qn⟩|⟨go,ae,hN,step⟩
 ·refine wpAny_passesOwn j (dF (T.done X rfl rfl rfl z i h D n q X.xe F (t H) G stop) λag s4 c=>?_);let⟨u,d⟩:=c;subst u;exact wpAny_execs_nil ⟨n,q,d,qn⟩
 ·refine wpAny_passesOwn j (dF (T.item X rfl rfl rfl z i h D n q X.xe F (t H) G go) λag s4 q=>?_);let⟨ai,u,h4⟩:=q;subst u;refine wpAny_passesOwn j (dF h4 λ_ u C=>?_);let⟨x,A,D,F,G,q,H⟩:=C;let C:=D.pinned (t H) (T.obj _ _ q);refine wpAny_passesOwn j (dF (L _ u n A x ai _ C F (step x A G)) λ_ n t=>?_);let⟨A,C,D,F⟩:=t;refine wpAny_passesOwn j (dF (a _ n A C _ D F) λak n g=>?_)
  let I:∀ {c:St} {d:Hp},Inv X (h++sG k u.heap) c d n->ae c d->∃ t,t<p/\∃ i m f,Inv X h m f n/\B i n.heap/\(∀ b∈k,f b=none)/\W i t m f:=λ{c d} e o=>by
   let⟨f,h,k⟩:=hN c d o;refine⟨f,h,i+1,c,d,e.nI,T.keep _ _ _ q λb a f l=>(e.pin (b,f) (nG _ (nG _ (iu a l)))).1,λb a=>?_,k⟩;let⟨f,l,h⟩:=T.obj _ _ q b a;exact (e.pin (b,f) (nG _ (nG _ (iu a l)))).2.1
  cases ak with
  | next=>let⟨c,d,e,o⟩:=g;exact I e o
  | cont=>let⟨c,d,e,o⟩:=g;exact I e o
  | brk=>let⟨c,d,e,g⟩:=g;exact⟨c,d,e.nI,g⟩
  | ret U=>let⟨b,c,d,e,f,g⟩:=g;exact⟨b,c,d,e.nI,f,g⟩
end
theorem dO{K:Frag}{e:Addr}{b:List V}{k:TG}{l:TS}{D:Ends}{a:St}{H:Hp}(c:Nat->St->Hp->Prop)(r:c 0 a H)(t:∀ i a H,i<=↑b->c i a H->bM K H e b)
  (u:∀ i x a H,b[i]?=⇑x->c i a H->k x a H fun f g=>l (D.lp (c (i+1))) f g) (v:∀ a H,c ↑b a H->D.nx a H) :
  ∃ W:Nat->Nat->St->Hp->Prop,(∃ m,W 0 m a H)/\∀ i m a H,W i m a H->
   ((Ni K e).stop i H/\D.nx a H)\/((Ni K e).go i H/\∃ N:St->Hp->Prop,(∀ h d,N h d->∃ n,n<m/\W (i+1) n h d)/\∀ x d,(Ni K e).Nh i H x d->k x a d fun f g=>l (D.lp N) f g):=by
 refine⟨λi m a H=>m=↑b-i/\i<=↑b/\c i a H,⟨↑b,by simp,Nat.zero_le _,r⟩,?_⟩;rintro i m a H ⟨rfl,o,p⟩;let q:=t i a H o p;by_cases o:i<↑b
 ·refine .inr ⟨⟨b,b[i],q,by simp[o]⟩,c (i+1),fun h d s=>⟨↑b-(i+1),Q,1,o,s⟩,λx d y=>?_⟩;let⟨j,y⟩:=y;subst j;exact u i x a _ (y b q) p
 ·let j:i=↑b:=by lia
  subst j;exact .inl ⟨⟨b,q,fk _⟩,v a H p⟩
theorem Q8{K:Frag}{e:Addr}{b:List V}{k:TG}{l:TS}{D:Ends}{a:St}{H:Hp}(c:Nat->St->Hp->Prop)(r:c 0 a H)(t:∀ i a H,i<=↑b->c i a H->dG K H e b)
  (u:∀ i x a H,b[i]?=⇑x->c i a H->k x a H fun f g=>l (D.lp (c (i+1))) f g) (v:∀ a H,c ↑b a H->D.nx a H) :
  ∃ W:Nat->Nat->St->Hp->Prop,(∃ m,W 0 m a H)/\∀ i m a H,W i m a H->
   ((Y8 K e).stop i H/\D.nx a H)\/((Y8 K e).go i H/\∃ N:St->Hp->Prop,(∀ h d,N h d->∃ n,n<m/\W (i+1) n h d)/\∀ x d,(Y8 K e).Nh i H x d->k x a d fun f g=>l (D.lp N) f g):=by
 refine⟨λi m a H=>m=↑b-i/\i<=↑b/\c i a H,⟨↑b,by simp,Nat.zero_le _,r⟩,?_⟩;rintro i m a H ⟨rfl,o,p⟩;let q:=t i a H o p;by_cases o:i<↑b
 ·refine .inr ⟨⟨b,b[i],q,by simp[o]⟩,c (i+1),fun h d s=>⟨↑b-(i+1),Q,1,o,s⟩,λx d y=>?_⟩;let⟨j,y⟩:=y;subst j;exact u i x a _ (y b q) p
 ·let j:i=↑b:=by lia
  subst j;exact .inl ⟨⟨b,q,fk _⟩,v a H p⟩
theorem nJ{lo:Int}{n:Nat}{j:TG}{k:TS}{D:Ends}{a:St}{H:Hp}(c:Nat->St->Hp->Prop)(o:c 0 a H)
  (q:∀ i a H,i<n->c i a H->j (.int (lo+i)) a H fun d e=>k (D.lp (c (i+1))) d e) (r:∀ a H,c n a H->D.nx a H) :
  ∃ W:Nat->Nat->St->Hp->Prop,(∃ m,W 0 m a H)/\∀ i m a H,W i m a H->
   ((JB lo n).stop i H/\D.nx a H)\/((JB lo n).go i H/\∃ N:St->Hp->Prop,(∀ f b,N f b->∃ l,l<m/\W (i+1) l f b)/\∀ x b,(JB lo n).Nh i H x b->j x a b fun d e=>k (D.lp N) d e):=by
 refine⟨λi m a H=>m=n-i/\i<=n/\c i a H,⟨n,by simp,Nat.zero_le _,o⟩,?_⟩;rintro i m a H ⟨rfl,s,p⟩;by_cases g:i<n
 ·refine .inr ⟨g,c (i+1),fun f b s=>⟨n-(i+1),Q,1,g,s⟩,λx b y=>?_⟩;let⟨h,y⟩:=y;subst h y;exact q i a _ g p
 ·let h:i=n:=by lia
  subst h;exact .inl ⟨Nat.le_refl _,r a H p⟩
end _L2
namespace _L2
open Spec Rows
abbrev R2:=V->V->Hp->VK->Prop
def qY(a:Cx)(f:Value->Value->Sem Value)(r:R2):Prop :=
 ∀ (b:List (Addr × Obj)) (s:Shared) (c:St) (H:Hp) (x y:V) (v u:Value) (Q:VK),Inv a b c H s->RelV x v->RelV y u->r x y H Q->
  wpAny (model a.prog a.w) a.A (f v u) (EP a b c Q) a.xe s
def fA(a:Cx)(f:Value->Sem Value)(r:V->Hp->VK->Prop):Prop :=
 ∀ (b:List (Addr × Obj)) (s:Shared) (c:St) (H:Hp) (x:V) (v:Value) (Q:VK),Inv a b c H s->RelV x v->r x H Q->
  wpAny (model a.prog a.w) a.A (f v) (EP a b c Q) a.xe s
def jN(a:Cx)(f:Value)(r:List V->Hp->VK->Prop):Prop :=
 ∀ (b:List (Addr × Obj)) (s:Shared) (c:St) (H:Hp) (d:List V) (e:WP) (Q:VK),Inv a b c H s->cD d e->r d H Q->
  wpAny (model a.prog a.w) a.A (call f e) (EP a b c Q) a.xe s
def oa(a:Cx)(r:V->Hp->(Bool->Hp->Prop)->Prop):Prop :=
 ∀ (b:List (Addr × Obj)) (s:Shared) (c:St) (H:Hp) (x:V) (v:Value) (Q:Bool->Hp->Prop),Inv a b c H s->RelV x v->r x H Q->
  wpAny (model a.prog a.w) a.A (truthy v) (TP a b c Q) a.xe s
def Za(r:R2)(b c:TE):TE:=fun a H Q=>b a H λx d=>c a d λy a=>r x y a Q
def oe(r:V->Hp->VK->Prop)(a:TE):TE:=fun b H Q=>a b H λx b=>r x b Q
inductive rI(C:Int->Int->Prop)(g:Int->Int->V)(x y:V)(H:Hp)(Q:VK):Prop
 | mk (i j:Int) (_:x=.int i) (_:y=.int j) (_:C i j) (_:Q (g i j) H):rI C g x y H Q
inductive Uv(g:Int->Int->V)(x y:V)(H:Hp)(Q:VK):Prop
 | mk (i j:Int) (_:x=.int i) (_:y=.int j) (_:Q (g i j) H)
def rU(g:Int->V):V->Hp->VK->Prop:=λx H Q=>∃ i,x=.int i/\Q (g i) H
section
variable {X:Cx} {a b c:Expr} {ta tb tc:TE} {pos:Pos}
theorem VN(k:PE X a ta)(l:PE X b tb){f:List (Addr × Obj)}{s:Shared}{d:St}{H:Hp}{i:V->V->Hp->Prop}(I:Inv X f d H s)
  (m:ta d H λx h=>tb d h λy e=>i x y e) {Q:ZB} {j:Value->Value->Sem Value}
  (n:∀ v u g x y e,Inv X f d e g->RelV x v->RelV y u->i x y e->wpAny (model X.prog X.w) X.A (j v u) Q X.xe g) :
  wpAny (model X.prog X.w) X.A (eval a X.env) (λv o=>wpAny (model X.prog X.w) X.A (eval b X.env) (λu p=>wpAny (model X.prog X.w) X.A (j v u) Q X.xe p) X.xe o) X.xe s:=by
 refine dF (k f s d H _ I m) λv c q=>?_;let⟨x,h,r,t,w⟩:=q;refine dF (l f c d h _ r w) λu g c=>?_;let⟨y,e,q,r,w⟩:=c;exact n v u g x y e q t r w
def bI{d:Operator}{r:R2}(e:qY X (binaryOp d) r)(f:PE X a ta)(g:PE X b tb):PE X (.BinOp a d b pos) (Za r ta tb):=by
 intro c s h H Q I i;exact wpAny_BinOp (VN f g I i λv u i x y j k l m q=>e c i h j x y v u Q k l m q)
def gZ{d:UnaryOp}{r:V->Hp->VK->Prop}(e:fA X (unaryOp d) r)(f:PE X a ta):PE X (.UnaryOp d a pos) (oe r ta):=by
 intro b s c H Q I h;exact UnaryOp_ (dF (f b s c H _ I h) λv g ⟨x,h,i,j,k⟩=>e b g c h x v Q i j k)
theorem eI{f:Value->Value->Sem Value}{C:Int->Int->Prop}{g:Int->Int->Int}
  (d:∀ (i j:Int) (t u:Tok) (s:Shared) (Q:ZB) (E:ZB),C i j->Q (.int (g i j) s.toks) { s with toks:=s.toks+1 }->wpAny (model X.prog X.w) X.A (f (.int i t) (.int j u)) Q E s) :
  qY X f (rI C λi j=>.int (g i j)):=by
 intro k s l H x y v u Q I a b h;let⟨i,j,rfl,rfl,c,q⟩:=h;let⟨t,rfl⟩:=a;let⟨e,rfl⟩:=b;exact d i j t e s _ _ c ⟨.int (g i j),H,I.tok _,⟨Y⟩,q⟩
theorem Zb{f:Value->Value->Sem Value}{g:Int->Int->Int}
  (d:∀ (i j:Int) (t u:Tok) (s:Shared) (Q:ZB) (E:ZB),Q (.int (g i j) s.toks) { s with toks:=s.toks+1 }->wpAny (model X.prog X.w) X.A (f (.int i t) (.int j u)) Q E s) :
  qY X f (Uv λi j=>.int (g i j)):=by
 intro e s k H x y v u Q I a b h;let⟨i,j,rfl,rfl,q⟩:=h;let⟨t,rfl⟩:=a;let⟨c,rfl⟩:=b;exact d i j t c s _ _ ⟨.int (g i j),H,I.tok _,⟨Y⟩,q⟩
theorem Q9{f:Value->Value->Sem Value}{g:Int->Int->Bool}
  (d:∀ (i j:Int) (t u:Tok) (s:Shared) (Q:ZB) (E:ZB),Q (.bool (g i j)) s->wpAny (model X.prog X.w) X.A (f (.int i t) (.int j u)) Q E s) :
  qY X f (Uv λi j=>.bl (g i j)):=by
 intro e s k H x y v u Q I a b h;let⟨i,j,rfl,rfl,q⟩:=h;let⟨t,rfl⟩:=a;let⟨c,rfl⟩:=b;exact d i j t c s _ _ ⟨.bl (g i j),H,I,1,q⟩
def og(i j:Int):Prop:=0<=j/\j<=1000000/\i.natAbs<2^64
def VO(i j:Int):Prop:=(-(2^64)<i/\i<2^64)\/(-(2^64)<j/\j<2^64)
def VO.ok{i j:Int}(h:VO i j):IntMulOk i j:=by
 rcases h with ⟨a,b⟩|⟨a,b⟩
 ·exact .of_left (intBits_le_64 a b)
 ·exact .of_right (intBits_le_64 a b)
theorem dP:qY X (binaryOp .Add) (Uv λi j=>.int (i+j)):=Zb λ_ _ _ _ _ _ _ q=>add_int q
theorem cV:qY X (binaryOp .Sub) (Uv λi j=>.int (i-j)):=Zb λ_ _ _ _ _ _ _ q=>sub_int q
theorem Hj:qY X (binaryOp .Mult) (rI VO λi j=>.int (i*j)):=eI λ_ _ _ _ _ _ _ a q=>mul_int q a.ok
theorem yq:qY X (binaryOp .Mod) (rI (λ_ j=>0<j) λi j=>.int (i % j)):=eI λi j _ _ _ _ _ a q=>by
 let b:(0:Int)<j:=a;exact mod_int' ∅ (by rw[Int.fmod_eq_emod_of_nonneg i ∅];exact q)
theorem Nk:qY X (binaryOp .Pow) (rI og λi j=>.int (i^j.toNat)):=eI λ_ _ _ _ _ _ _ a q=>pow_int_small a.1 a.2.1 a.2.2 q
theorem on{f:Value->Sem Value}{g:Int->Int}
  (d:∀ (i:Int) (t:Tok) (s:Shared) (Q:ZB) (E:ZB),Q (.int (g i) s.toks) { s with toks:=s.toks+1 }->wpAny (model X.prog X.w) X.A (f (.int i t)) Q E s) :
  fA X f (rU λi=>.int (g i)):=by
 intro b s c H x v Q I a h;let⟨i,rfl,q⟩:=h;let⟨t,rfl⟩:=a;exact d i t s _ _ ⟨.int (g i),H,I.tok _,⟨Y⟩,q⟩
theorem fD:fA X (unaryOp .USub) (rU λi=>.int (-i)):=on λ_ _ _ _ _ q=>neg_int q
end
def Zc:V->V->Bool
 | .fQ,.fQ=>true | .fQ,.int _=>true | .int _,.fQ=>true | .fQ,.bl _=>true | .bl _,.fQ=>true | .fQ,.str _=>true | .str _,.fQ=>true
 | .int _,.int _=>true | .bl _,.bl _=>true | .str _,.str _=>true | .G6 _,.G6 _=>true
 | .int _,.str _=>true | .str _,.int _=>true | .bl _,.str _=>true | .str _,.bl _=>true
 | _,_=>false
def oo:R2:=λx y H Q=>Zc x y=true/\Q (.bl (decide (x=y))) H
def ot:R2:=λx y H Q=>Zc x y=true/\Q (.bl (!decide (x=y))) H
def JC{i j:Int}:decide (V.int i=V.int j)=(i == j):=by
 rw[Bool.eq_iff_iff];simp
def Nl{i j:Bool}:decide (V.bl i=V.bl j)=(i == j):=by
 rw[Bool.eq_iff_iff];simp
def JD{i j:Str}:decide (V.str i=V.str j)=(i == j):=by
 rw[Bool.eq_iff_iff];simp
def JE{i j:Array UInt8}:decide (V.G6 i=V.G6 j)=(i.toList == j.toList):=by
 rw[Bool.eq_iff_iff];cases i;cases j;simp
section
variable {X:Cx} {a b c:Expr} {ta tb tc:TE} {pos:Pos}
def dQ{d:St}{H:Hp}{s:Shared}{Q:VK}{k e:Bool}(I:Inv X f d H s)(q:Q (.bl k) H)(g:k=e):EP X f d Q (.bool e) s:=by
 subst g;exact⟨.bl k,H,I,1,q⟩
def eK:qY X (compareOp .Eq) oo:=by
 intro e s f H x y v u Q I d a h;let⟨c,q⟩:=h
 cases x with
 | fQ =>
  cases d
  cases y with
  | fQ=>cases a;exact PySem.EqNone.eq_none_none (dQ I q (by simp))
  | bl j=>cases a;exact PySem.EqNone.eq_none_bool (dQ I q (by simp))
  | int j=>let⟨b,rfl⟩:=a;exact PySem.EqNone.eq_none_int (dQ I q (by simp))
  | str j=>let⟨b,rfl⟩:=a;exact PySem.EqNone.eq_none_str (dQ I q (by simp))
  | _=>exact absurd (show false=true from c) lV
 | bl i =>
  cases d
  cases y with
  | fQ=>cases a;exact PySem.EqNone.eq_bool_none (dQ I q (by simp))
  | bl j=>cases a;exact eq_bool (dQ I q Nl)
  | str j=>let⟨b,rfl⟩:=a;exact PySem.EqMixed.eq_bool_str (dQ I q (by simp))
  | _=>exact absurd (show false=true from c) lV
 | int i =>
  let⟨t,rfl⟩:=d
  cases y with
  | fQ=>cases a;exact PySem.EqNone.eq_int_none (dQ I q (by simp))
  | int j=>let⟨b,rfl⟩:=a;exact eq_int (dQ I q JC)
  | str j=>let⟨b,rfl⟩:=a;exact PySem.EqMixed.eq_int_str (dQ I q (by simp))
  | _=>exact absurd (show false=true from c) lV
 | str i =>
  let⟨t,rfl⟩:=d
  cases y with
  | fQ=>cases a;exact PySem.EqNone.eq_str_none (dQ I q (by simp))
  | bl j=>cases a;exact PySem.EqMixed.eq_str_bool (dQ I q (by simp))
  | int j=>let⟨b,rfl⟩:=a;exact PySem.EqMixed.eq_str_int (dQ I q (by simp))
  | str j=>let⟨b,rfl⟩:=a;exact eq_str (dQ I q JD)
  | _=>exact absurd (show false=true from c) lV
 | G6 i =>
  let⟨t,rfl⟩:=d
  cases y with
  | G6 j=>let⟨b,rfl⟩:=a;exact PySem.W.eq_bytes (dQ I q JE)
  | _=>exact absurd (show false=true from c) lV
 | _=>cases y <;> exact absurd (show false=true from c) lV
def JF:qY X (compareOp .NotEq) ot:=by
 intro e s f H x y v u Q I d a h;let⟨c,q⟩:=h
 cases x with
 | fQ =>
  cases d
  cases y with
  | fQ=>cases a;exact PySem.EqNone.ne_none_none (dQ I q (by simp))
  | bl j=>cases a;exact PySem.EqNone.ne_none_bool (dQ I q (by simp))
  | int j=>let⟨b,rfl⟩:=a;exact PySem.EqNone.ne_none_int (dQ I q (by simp))
  | str j=>let⟨b,rfl⟩:=a;exact PySem.EqNone.ne_none_str (dQ I q (by simp))
  | _=>exact absurd (show false=true from c) lV
 | bl i =>
  cases d
  cases y with
  | fQ=>cases a;exact PySem.EqNone.ne_bool_none (dQ I q (by simp))
  | bl j=>cases a;exact ne_bool (dQ I q (congrArg not Nl))
  | str j=>let⟨b,rfl⟩:=a;exact PySem.EqMixed.ne_bool_str (dQ I q (by simp))
  | _=>exact absurd (show false=true from c) lV
 | int i =>
  let⟨t,rfl⟩:=d
  cases y with
  | fQ=>cases a;exact PySem.EqNone.ne_int_none (dQ I q (by simp))
  | int j=>let⟨b,rfl⟩:=a;exact ne_int (dQ I q (congrArg not JC))
  | str j=>let⟨b,rfl⟩:=a;exact PySem.EqMixed.ne_int_str (dQ I q (by simp))
  | _=>exact absurd (show false=true from c) lV
 | str i =>
  let⟨t,rfl⟩:=d
  cases y with
  | fQ=>cases a;exact PySem.EqNone.ne_str_none (dQ I q (by simp))
  | bl j=>cases a;exact PySem.EqMixed.ne_str_bool (dQ I q (by simp))
  | int j=>let⟨b,rfl⟩:=a;exact PySem.EqMixed.ne_str_int (dQ I q (by simp))
  | str j=>let⟨b,rfl⟩:=a;exact ne_str (dQ I q (congrArg not JD))
  | _=>exact absurd (show false=true from c) lV
 | G6 i =>
  let⟨t,rfl⟩:=d
  cases y with
  | G6 j=>let⟨b,rfl⟩:=a;exact PySem.W.ne_bytes (dQ I q (congrArg not JE))
  | _=>exact absurd (show false=true from c) lV
 | _=>cases y <;> exact absurd (show false=true from c) lV
theorem jt:qY X (compareOp .Lt) (Uv λi j=>.bl (decide (i<j))):=Q9 λ_ _ _ _ _ _ _ q=>lt_int q
theorem gj:qY X (compareOp .LtE) (Uv λi j=>.bl (decide (i<=j))):=Q9 λ_ _ _ _ _ _ _ q=>le_int q
theorem yr:qY X (compareOp .Gt) (Uv λi j=>.bl (decide (j<i))):=Q9 λ_ _ _ _ _ _ _ q=>gt_int q
theorem Uw:qY X (compareOp .GtE) (Uv λi j=>.bl (decide (j<=i))):=Q9 λ_ _ _ _ _ _ _ q=>ge_int q
def bz(b:Expr){d:CmpOp}(h:d≠.In:=by decide)(e:d≠.NotIn:=by decide):behindInMarks d b=false:=by
 let a:(d == CmpOp.In)=false:=by cases d <;> first|rfl|exact absurd rfl h
 let c:(d == CmpOp.NotIn)=false:=by cases d <;> first|rfl|exact absurd rfl e
 cases b <;> simp[behindInMarks,a,c]
def j0{d:CmpOp}{r:R2}(e:qY X (compareOp d) r)(f:PE X a ta)(g:PE X b tb)(h:behindInMarks d b=false):PE X (.Compare a [d] [b] pos) (Za r ta tb):=by
 intro c s i H Q I j;exact wpAny_Compare1 (VN f g I j λv u j x y k l m n q=>e c j i k x y v u Q l m n q) h
def Ux(t:TE):TT:=fun a H Q=>t a H λx a=>eC x a Q
def aV{d:CmpOp}{r:R2}(g:qY X (compareOp d) r)(h:PE X a ta)(i:PE X b tb)(j:behindInMarks d b=false):PT X (.Compare a [d] [b] pos) (Ux (Za r ta tb)):=by
 intro e s f H Q I k
 refine wpAny_isTrue_Compare1 (dF (h e s f H _ I k) λv k ⟨x,l,m,n,o⟩=>dF (i e k f l _ m o) λu k ⟨y,l,m,o,p⟩ =>
  dF (g e k f l x y v u _ m n o p) λc e ⟨f,q,t,w,k,z,A⟩=>?_) j
 subst z;cases w;exact wpAny_truthy_bool ⟨q,t,A⟩
def VP(r d:R2)(ta tb tc:TE):TE:=fun a H Q=>ta a H λx b=>tb a b λy b=>r x y b λz b=>∃ k,z=.bl k/\
 (if k=true then tc a b λa c=>d y a c Q else Q (.bl false) b)
theorem qc{f g:CmpOp}{r h:R2}(m:qY X (compareOp f) r)(n:qY X (compareOp g) h)(o:PE X a ta)(p:PE X b tb)(q:PE X c tc)
  (t:lastMarks [f,g] [b,c]=false:=by with_unfolding_all rfl):PT X (.Compare a [f,g] [b,c] pos) (Ux (VP r h ta tb tc)):=by
 intro d s e H Q I v
 refine isTrue_chain (dF (o d s e H _ I v) λv w ⟨x,z,A,B,C⟩=>test_link (dF (p d w e z _ A C) λu w ⟨y,z,A,i,C⟩ =>
  dF (m d w e z x y v u _ A B i C) λv D ⟨z,j,k,F,G,J,l⟩=>?_)) t
 subst J;cases F;refine wpAny_truthy_bool ?_
 cases G with
 | false =>
  let⟨v,D,L⟩:=l;cases D;exact ite_ff ⟨j,k,L⟩
 | true =>
  refine ite_tt (test_last (dF (q d D e j _ k l) λj k ⟨l,v,w,x,z⟩=>dF (n d k e v y l u j _ w i x z) λe i d=>?_));let⟨e,D,L,M,i,N,O⟩:=d;subst N;cases M;exact wpAny_truthy_bool ⟨D,L,O⟩
def Zd(K:Frag)(x:V)(H:Hp)(k:Bool):Prop :=
 match x with
 | .fQ=>k=false
 | .bl b=>k=b
 | .int i=>k=(i != 0)
 | .str y=>↑y<=sizeLine/\k=((↑y:Int) != 0)
 | .G6 y=>y.size<=sizeLine/\k=((y.size:Int) != 0)
 | .ref p=>(∃ a,bM K H p a/\k=!a.isEmpty)\/(∃ a,dG K H p a/\k=!a.isEmpty)\/∃ a,H p=⇑(.dK a)/\k=!a.isEmpty
 | _=>False
def Hl{d:Type}{e:List (d × V)}{f:List (d × Value)}(r:KV e f):(!f.isEmpty)=!e.isEmpty:=by
 cases r <;> rfl
def yt{d:List V}{e:WP}(r:cD d e):(!e.toArray.isEmpty)=!d.isEmpty:=by
 cases r <;> simp
def sI:(sizeLine:Nat)<2^63:=by rw[sizeLine_eq];decide
def VQ:oa X (λx H Q=>∃ k,Zd X.K x H k/\Q k H):=by
 intro n s o H x v Q I d l;let⟨k,e,q⟩:=l;let l:=sI;let l:sizeLine=16777216:=sizeLine_eq
 cases x with
 | fQ =>
  cases d;let a:k=false:=e;subst a;exact truthy_none ⟨H,I,q⟩
 | bl b =>
  cases d;let a:k=b:=e;subst a;exact wpAny_truthy_bool ⟨H,I,q⟩
 | int i =>
  let⟨t,rfl⟩:=d;let a:k=(i != 0):=e;subst a;exact PySem.P.truthy_int ⟨H,I,q⟩
 | str y =>
  let⟨t,rfl⟩:=d;obtain⟨c,a⟩:↑y<=sizeLine/\k=((↑y:Int) != 0):=e;subst a;exact PySem.P.truthy_str ∅ ⟨H,I.tok _,q⟩
 | G6 y =>
  let⟨t,rfl⟩:=d;obtain⟨c,a⟩:y.size<=sizeLine/\k=((y.size:Int) != 0):=e;subst a;exact PySem.W.truthy_bytes ∅ ⟨H,I.tok _,q⟩
 | ref p =>
  cases d;let a:(∃ c,bM X.K H p c/\k=!c.isEmpty)\/(∃ c,dG X.K H p c/\k=!c.isEmpty)\/∃ f,H p=⇑(.dK f)/\k=!f.isEmpty:=e;rcases a with ⟨c,g,a⟩|⟨c,g,a⟩|⟨f,g,a⟩
  ·subst a;let⟨m,r,h,i⟩:=I.list g;let j:=↑r;exact wpAny_truthy_list h.isList (by simp only[ie];lia) ⟨H,I.tok _,by rw[yt r];exact q⟩
  ·subst a;let⟨m,r,h,i⟩:=I.tuple g;let j:=↑r;exact truthy_tuple h (by simp only[ie];lia) ⟨H,I.tok _,by rw[yt r];exact q⟩
  ·subst a;obtain⟨i,c,a,r,m⟩:↑f<=sizeLine/\(p == sysModules)=false/\∃ a,KV f a/\s.heap.DictOf (fC X.prog X.w) p a:=I.hok p _ g;let j:↑f=↑a:=Paired.length r;exact wpAny_truthy_dict c m ∅ ⟨H,I.tok _,by rw[Hl r];exact q⟩
 | _=>exact (show False from e).elim
theorem ju(g:PE X a ta)(h:∀ e,isTrue a X.env e=(do let v ← e;standAt a.pos;holding [v] (truthy v))) :
  PT X a (fun d H Q=>ta d H λx f=>∃ k,Zd X.K x f k/\Q k f):=by
 intro b s d H Q I c;exact isTrue_plain (dF (g b s d H _ I c) λv c ⟨x,i,j,l,m⟩=>VQ b c d i x v Q j l m) (h _)
def vals1{x:V}{d:WP}(r:cD [x] d):∃ u,d=[u]/\RelV x u:=by
 cases r with
 | cons a b=>cases b;exact⟨Y,a⟩
def vals2{x y:V}{d:WP}(r:cD [x,y] d):∃ u e,d=[u,e]/\RelV x u/\RelV y e:=by
 cases r with
 | cons a b =>
  cases b with
  | cons c f=>cases f;exact⟨P,1,a,c⟩
def lJ(e:X.calm=true):jN X (.builtin "max") (λd H Q=>∃ i j,d=[.int i,.int j]/\Q (.int (if j > i then j else i)) H):=by
 intro a s b H d c Q I r h;let⟨i,j,rfl,q⟩:=h;let⟨u,f,rfl,⟨t,rfl⟩,⟨g,rfl⟩⟩:=vals2 r;refine max_two_ints (I.ok.hd e) λa b k=>⟨_,H,I.kept k,?_,q⟩;by_cases a:j > i
 ·rw[if_pos a,if_pos a];exact⟨Y⟩
 ·rw[if_neg a,if_neg a];exact⟨Y⟩
def nK(e:X.calm=true):jN X (.builtin "min") (λd H Q=>∃ i j,d=[.int i,.int j]/\Q (.int (if j<i then j else i)) H):=by
 intro a s b H d c Q I r h;let⟨i,j,rfl,q⟩:=h;let⟨u,f,rfl,⟨t,rfl⟩,⟨g,rfl⟩⟩:=vals2 r;refine min_two_ints (I.ok.hd e) λa b k=>⟨_,H,I.kept k,?_,q⟩;by_cases a:j<i
 ·rw[if_pos a,if_pos a];exact⟨Y⟩
 ·rw[if_neg a,if_neg a];exact⟨Y⟩
end
end _L2
namespace _L2
open Spec Rows
structure Ho(h:Heap)(x dx C:Addr)(mA:Ya):Prop where
 obj:h.get? x=⇑(instObj C dx)
 ns:h.Ns1 dx mA
 ne:dx≠x
def KZ{h:Heap}{a:Ya}(n:h.Ns1 d a):∃ b,h.get? d=⇑b/\∀ name,lookIn name b=⇑(a name):=by
 let⟨o,c,k,f,g,i,_,j⟩:=n;refine⟨o,f,λname=>?_⟩;let e:=j name;unfold nsFind findBy at e;rw[← Array.find?_toList]at e;unfold lookIn;rw[g];dsimp only;split
 ·rename_i y q;rw[q]at e;exact congrArg some e
 ·rename_i q;rw[q]at e
  let f:c.toList.any (·.refKey)=false:=by
   rw[List.any_eq_false];intro y g;let⟨z,t,j⟩:=i y (Array.mem_toList_iff.mp g);simp[DictEntry.refKey,j]
  let g:¬ c.toList.any (·.refKey)=true:=by rw[f];exact lV
  rw[if_neg g];exact congrArg some e
theorem Ho.look{h:Heap}{x:Addr}{b:Ya}(I:Ho h x c C b):∃ a,InstAt h x (instObj C c) C (⇑a)/\∀ name,lookIn name a=⇑(b name) :=
 let ⟨a,d,e⟩:=KZ I.ns
 ⟨a,⟨I.obj,V,d⟩,e⟩
section
variable {prog:Program} {w:World} {A:Around} {E:ZB} {s:Shared} {K:Frag} {x dx C f:Addr} {mA:Ya} {name:Str} {v:Value}
theorem Rc{a:Bool}{Q:ZB}(b:K.In s.heap)(I:Ho s.heap x dx C mA)(c:plainGet K C name=true)(d:hasDictIn K C=true)
  (e:findIn K ↥C name=⇑none) (g:mA name=⇑v) (h:handedIn v=true) (i:Q v { s with toks:=s.toks+1 }) :
  wpAny (model prog w) A (getAttr ↥x name a) Q E s:=by
 let⟨j,J,f⟩:=I.look;exact PySem.W.get_value b J (plainGet_of c).1 (PySem.W.findObj_own d e rfl (by rw[f,g])) h i
theorem Nm{b:Sem Bool}{Q:Value × List Value->Shared->Prop}(c:K.In s.heap)(I:Ho s.heap x dx C mA)(a:plainGet K C name=true)
  (d:findIn K ↥C name=⇑(⇑↥f)) (e:isFn K ↥f=true) (g:mA name=none) (h:Q (.ref f,[↥x]) s) :
  wpAny (model prog w) A (getMethod ↥x name b) Q E s:=by
 let⟨i,J,j⟩:=I.look;exact PySem.W.method_fn c J (plainGet_of a).1 (plainGet_of a).2 d (beq_iff_eq.mp e) (by show (lookIn name i).map (·.isSome)=⇑false;rw[j,g];rfl) h
theorem Rf{c:UV}{Q:Unit->Shared->Prop}(b:K.In s.heap)(I:Ho s.heap x dx C mA)
  (g:findIn K ↥C "__setattr__"=⇑(⇑(.builtin "object.__setattr__"))) (h:plainOver K C=true) (i:takerIn K C name=⇑none) (j:hasDictIn K C=true)
  (k:PySem.Within mA c) (o:↑c<=sizeLine)
  (l:∀ a,Ho a x dx C (λy=>if y=name then some v else mA y)->Heap.SameBut dx s.heap a->Q () { s with heap:=a,toks:=s.toks+2 }) :
  wpAny (model prog w) A (setAttr ↥x name v) Q E s:=by
 let⟨d,J,e⟩:=I.look;refine PySem.W.set_plain b J g (PySem.W.osa_open (s:={ s with toks:=s.toks+1 }) (r:=none) b J h i λd=>?_);let⟨f,d,e⟩:=PySem.W.any_some j;let f:s.heap.get? x=some ⟨↥C,⇑dx,.plain,#[]⟩:=I.obj;refine wpAny_bind (wpAny_pure (wpAny_bind (wpAny_bind (wpAny_loadPart f (wpAny_bind (PySem.W.Looks.here (s:={ s with toks:=s.toks+1 }) (PySem.W.looks_clsIn b d) ?_))))));rw[e];refine wpAny_pure (a:=⇑dx) (wpAny_bind (wpAny_pure (wpAny_bind ?_)));refine wpAny_nsSet1 (s:={ s with toks:=s.toks+1 }) I.ns λa d e=>?_;let⟨p,q,r,f,m,n⟩:=d.count (PySem.Within.cons name v k);refine wpAny_bind (wpAny_lookBehind f (by rw[m];exact pastItsLine_dict (ig n (by rw[eZ];lia))) ?_);exact wpAny_pure (l _ ⟨(e.2 _ (Ne.symm I.ne)).trans I.obj,d,I.ne⟩ e)
theorem Nn{d:X2}{a:WP}{b:List (Str × Value)}(c:K.In s.heap)(e:makesIn K C=true)
  (g:findIn K ↥C "__init__"=⇑(⇑↥f)) (h:typeIn K ↥f=⇑(.type "function"))
  (i:codeAny (model prog w) (A.under (.builtin "type.__call__" ⟨↥C::a,b⟩)) (.call ↥f ⟨.ref (s.heap.objs.size+1)::a,b⟩) (PySem.W.InitBack (s.heap.objs.size+1) d)
   { s with heap:=(s.heap.push emptyDict).push (instObj C s.heap.objs.size) }) :
  codeAny (model prog w) A (.call ↥C ⟨a,b⟩) d s:=by
 let⟨j,k,l,t,m⟩:=s;exact PySem.W.make_core (PySem.W.makes_of c e) (PySem.W.looks_findIn c g) (λself=>PySem.W.bind_fn c self h) (.inl rfl) i
end
def d9(f:Str)(v:V):List (Str × V)->List (Str × V)
 | []=>[(f,v)]
 | (g,x)::r=>if g=f then (g,v)::r else (g,x)::d9 f v r
theorem wK(f g:Str)(v:V):∀ c:List (Str × V),(d9 f v c).lookup g=if g=f then some v else c.lookup g
 | []=>by
  show List.lookup g [(f,v)]=_;by_cases h:g=f
  ·let a:(g == f)=true:=beq_iff_eq.mpr h;simp only[List.lookup,a,if_pos h]
  ·let a:(g == f)=false:=beq_eq_false_iff_ne.mpr h;simp only[List.lookup,a,if_neg h]
 | (k,x)::r=>by
  let d:=wK f g v r;rw[show d9 f v ((k,x)::r)=(if k=f then (k,v)::r else (k,x)::d9 f v r) from rfl];by_cases b:k=f
  ·rw[if_pos b];by_cases h:g=k
   ·let a:(g == k)=true:=beq_iff_eq.mpr h;simp only[List.lookup,a,if_pos (h.trans b)]
   ·let a:(g == k)=false:=beq_eq_false_iff_ne.mpr h;simp only[List.lookup,a,if_neg (λe:g=f=>h (e.trans b.symm))]
  ·rw[if_neg b];by_cases h:g=k
   ·let a:(g == k)=true:=beq_iff_eq.mpr h;simp only[List.lookup,a,if_neg (λe:g=f=>b (h.symm.trans e))]
   ·let a:(g == k)=false:=beq_eq_false_iff_ne.mpr h;simp only[List.lookup,a];exact d
theorem vt(f:Str)(v:V):∀ a:List (Str × V),f∈(d9 f v a).map (·.1)/\∀ g,g∈a.map (·.1)->g∈(d9 f v a).map (·.1)
 | []=>⟨by simp[d9],λg h=>by simp at h⟩
 | (k,x)::r=>by
  let⟨c,d⟩:=vt f v r;rw[show d9 f v ((k,x)::r)=(if k=f then (k,v)::r else (k,x)::d9 f v r) from rfl];by_cases b:k=f
  ·rw[if_pos b];subst b;exact⟨by simp,λg h=>by simpa using h⟩
  ·rw[if_neg b];refine⟨?_,λg h=>?_⟩
   ·rw[jq];exact j5 _ c
   ·rw[jq]at h ⊢;rcases List.mem_cons.mp h with e|e
    ·exact List.mem_cons.mpr (.inl e)
    ·exact j5 _ (d g e)
theorem wL(f:Str)(v:V):∀ a:List (Str × V),↑(d9 f v a)<=↑a+1
 | []=>by simp[d9]
 | (k,x)::r=>by
  let b:=wL f v r;rw[show d9 f v ((k,x)::r)=(if k=f then (k,v)::r else (k,x)::d9 f v r) from rfl];by_cases b:k=f
  ·rw[if_pos b,eZ,eZ];lia
  ·rw[if_neg b,eZ,eZ];lia
def pK.some_of{v:V}{o:XB}(r:pK (⇑v) o):∃ u,o=⇑u/\RelV v u:=by
 cases o with
 | none=>exact (show False from r).elim
 | some u=>exact⟨u,1,r⟩
def pK.none_of{o:XB}(r:pK none o):o=none:=by
 cases o with
 | none=>rfl
 | some u=>exact (show False from r).elim
def K0{v:V}{u:Value}(r:RelV v u):handedIn u=true:=by
 cases v with
 | fQ=>cases (show u=Value.none from r);rfl
 | bl b=>cases (show u=Value.bool b from r);rfl
 | int i=>let⟨t,e⟩:=(show ∃ t,u=Value.int i t from r);cases e;rfl
 | str x=>let⟨t,e⟩:=(show ∃ t,u=Value.str x t from r);cases e;rfl
 | G6 b=>let⟨t,e⟩:=(show ∃ t,u=Value.bytes b t from r);cases e;rfl
 | Um b=>let⟨t,e⟩:=(show ∃ t,u=Value.float b t from r);cases e;rfl
 | ref a=>cases (show u=Value.ref a from r);rfl
 | ty n=>cases (show u=Value.type n from r);rfl
section
variable {P:Program} {w:World} {H H':Hp} {h h':Heap} {a C dx:Addr} {fs Yk:List (Str × V)}
def xX(c:tQ P w H h)(e:H a=⇑(.ins C dx fs)):∃ b,Ho h a dx C b/\(∀ f,pK (fs.lookup f) (b f))/\PySem.Within b (fs.map (·.1))/\↑fs<=1000/\H dx=⇑(.own a):=by
 let⟨d,z,g,i,b,n,r,q⟩:=(show gh P w H h a (.ins C dx fs) from c a _ e);exact⟨b,⟨i,n,g⟩,r,q,z,d⟩
end
structure MP(K:Frag)(C:Addr):Prop where
 pg:plainGet K C Str.empty=true
 hd:hasDictIn K C=true
 po:plainOver K C=true
 sa:findIn K ↥C "__setattr__"=⇑(⇑(.builtin "object.__setattr__"))
theorem MP.get{K:Frag}(c:MP K C)(f:Str):plainGet K C f=true:=c.pg
def gc(K:Frag)(C:Addr)(f:Str):Prop:=findIn K ↥C f=⇑none
def gc.Ze{K:Frag}{f:Str}(n:gc K C f):takerIn K C f=⇑none:=by
 unfold takerIn;rw[show findIn K ↥C f=⇑none from n];rfl
structure Np(K:Frag)(C:Addr)(m:Str)(f:Addr):Prop where
 at_:findIn K ↥C m=⇑(⇑↥f)
 fn:isFn K ↥f=true
 kp:keepIn K ↥f=true
section
variable {X:Cx} {ay:List (Addr × Obj)} {σ:St} {H:Hp} {s:Shared} {a C dx:Addr} {c:List (Str × V)} {f:Str} {v:V} {A:Around} {E:ZB}
theorem yu{g:Bool}{Q:ZB}(I:Inv X ay σ H s)(h:H a=⇑(.ins C dx c))(b:MP X.K C)(n:gc X.K C f)(l:c.lookup f=⇑v)
  (i:∀ u d,Inv X ay σ H d->RelV v u->Q u d):wpAny (model X.prog X.w) A (getAttr ↥a f g) Q E s:=by
 let⟨j,O,r,_,_,_⟩:=xX I.hok h;let⟨u,k,e⟩:=pK.some_of (v:=v) (o:=j f) (by rw[← l];exact r f);exact Rc I.wJ O (b.get f) b.hd n k (K0 e) (i u _ (I.tok _) e)
theorem yv{m:Str}{g:Addr}{b:Sem Bool}{Q:Value × List Value->Shared->Prop}(I:Inv X ay σ H s)(e:H a=⇑(.ins C dx c))(d:MP X.K C)(k:Np X.K C m g)(l:c.lookup m=none)
  (h:Q (.ref g,[↥a]) s):wpAny (model X.prog X.w) A (getMethod ↥a m b) Q E s:=by
 let⟨f,O,r,_,_,_⟩:=xX I.hok e;let i:f m=none:=pK.none_of (by rw[← l];exact r m);exact Nm I.wJ O (d.get m) k.at_ k.fn i h
theorem yx{y:V}{u:Value}{Q:Unit->Shared->Prop}(I:Inv X ay σ H s)(e:H a=⇑(.ins C dx c))(b:MP X.K C)(n:gc X.K C f)(w:↑c<1000)(k:RelV y u)
  (l:∀ h,Inv X ay σ (aO H a (.ins C dx (d9 f y c))) h->Q () h):wpAny (model X.prog X.w) A (setAttr ↥a f u) Q E s:=by
 let⟨i,O,r,j,_,g⟩:=xX I.hok e;let d:↑(c.map (·.1))<=sizeLine:=by rw[cC,sizeLine_eq];lia
 refine Rf I.wJ O b.sa b.po n.Ze b.hd j d λm d p=>l _ ?_;have t:∃ o,m.get? dx=⇑o:=let ⟨o,P,m,_⟩:=d.ns;⟨o,m⟩;refine I.write (x:=a) (e:=dx) (by rw[e];exact True.intro) (.inr g) (λm q o z=>(p.2 m o).trans z) t ?_;refine⟨by rw[aL O.ne];exact g,?_,O.ne,d.obj,_,d.ns,λg=>?_,λg d=>?_⟩
 ·have:=wL f y c;lia
 ·show pK ((d9 f y c).lookup g) (if g=f then some u else i g);rw[wK];by_cases q:g=f
  ·rw[if_pos q,if_pos q];exact k
  ·rw[if_neg q,if_neg q];exact r g
 ·by_cases q:g=f
  ·rw[q];exact (vt f y c).1
  ·refine (vt f y c).2 g (j g λz=>d ?_);show (if g=f then some u else i g)=none;rw[if_neg q];exact z
theorem Inv.made(I:Inv X ay σ H s):Inv X ay σ (aO (aO H s.heap.objs.size (.own (s.heap.objs.size+1))) (s.heap.objs.size+1) (.ins C s.heap.objs.size []))
  { s with heap:=(s.heap.push emptyDict).push (instObj C s.heap.objs.size) }:=by
 let a:(s.heap.push emptyDict).get? s.heap.objs.size=⇑emptyDict:=Heap.get?_push_size s.heap rfl
 let b:((s.heap.push emptyDict).push (instObj C s.heap.objs.size)).get? (s.heap.objs.size+1)=⇑(instObj C s.heap.objs.size):=by
  have:=Heap.get?_push_size (s.heap.push emptyDict) (o:=instObj C s.heap.objs.size) rfl;rwa [Heap.size_push]at this
 let c:(s.heap.push emptyDict).Ns s.heap.objs.size (λ_=>none):=⟨emptyDict,#[],_,a,1,(λe d=>absurd d (by simp)),λ_=>rfl⟩;let d:=I.laid (a:=s.heap.objs.size) (o:=.own (s.heap.objs.size+1)) (h':=s.heap.push emptyDict) (t':=s.toks) (λe u q=>Heap.get?_push_of_some _ q) (fk _) ⟨_,a⟩;refine d.laid (a:=s.heap.objs.size+1) (o:=.ins C s.heap.objs.size []) (t':=s.toks) (λe u q=>Heap.get?_push_of_some _ q) (Nat.le_of_eq (Heap.size_push _ _)) ?_;let a:s.heap.objs.size≠s.heap.objs.size+1:=jK (Nat.lt_succ_self _);refine⟨by rw[aL a,af],Nat.zero_le _,a,b,λ_=>none,(Heap.Ns1.of_empty c).at λo q=>Heap.get?_push_of_some _ q,λ_=>True.intro,λy f=>absurd rfl f⟩
theorem Rg{d:Program}{w:World}{b:Env}{e:Expr}{f:Str}{s:Shared}{Q:ZB}(g:attributeBase e f b (eval e b)=eval e b)
  (h:wpAny (model d w) A (eval e b) (λo i=>wpAny (model d w) A (getAttr o f true) Q E i) E s):wpAny (model d w) A (eval (.Attribute e f j) b) Q E s :=
 Attribute_any_ h (by rw[arm_eval_Attribute,g])
end
inductive Zf(K:Frag)(f:Str)(x:V)(H:Hp)(Q:VK):Prop
 | mk (a C c:Addr) (b:List (Str × V)) (v:V) (_:x=↥a) (_:H a=⇑(.ins C c b)) (_:MP K C) (_:gc K C f) (_:b.lookup f=⇑v) (_:Q v H):Zf K f x H Q
def Zg(K:Frag)(a:TE)(f:Str):TE:=fun b H Q=>a b H λx b=>Zf K f x b Q
def ov(K:Frag)(g h:TE)(f:Str):TS:=λD a H=>h a H λy b=>g a b λx d=>∃ b C e c,x=↥b/\d b=⇑(.ins C e c)/\MP K C/\gc K C f/\↑c<1000/\
 D.nx a (aO d b (.ins C e (d9 f y c)))
def Zh(a:Cx)(d:Operator)(e:V->V->Hp->VK->Prop):Prop :=
 ∀ (b:List (Addr × Obj)) (s:Shared) (c:St) (H:Hp) (x y:V) (u v:Value) (Q:VK),Inv a b c H s->RelV x u->RelV y v->e x y H Q->wpAny (model a.prog a.w) a.A (inplaceOp d u v) (EP a b c Q) a.xe s
def Rh(K:Frag)(g h:TE)(i:V->V->Hp->VK->Prop)(f:Str):TS:=λD b H=>g b H λx c=>∃ a C e d v,x=↥a/\c a=⇑(.ins C e d)/\MP K C/\gc K C f/\d.lookup f=⇑v/\
 h b c λy c=>i v y c λz d=>∃ e c,d a=⇑(.ins C e c)/\c.length<1000/\D.nx b (aO d a (.ins C e (d9 f z c)))
section
variable {X:Cx} {o e value:Expr} {f:Str} {pos iZ La:Pos} {ta tv:TE}
def cI(a:PE X e ta)(b:attributeBase e f X.env (eval e X.env)=eval e X.env):PE X (.Attribute e f pos) (Zg X.K ta f):=by
 intro c s d H Q I h;refine Rg b (dF (a c s d H _ I h) λu d c=>?_);let⟨x,g,i,j,k,C,d,h,v,l,m,n,o,p,q⟩:=c;subst l;obtain rfl:u=Value.ref k:=j;exact yu i m n o p λh i c d=>⟨v,g,c,d,q⟩
def iy(c:PE X o ta)(d:PE X value tv)(g:swapsWith value (⇑(.Attribute o f iZ)) pos.line X.env=pure false):PS X (.Assign [.Attribute o f iZ] value pos) (ov X.K ta tv f):=by
 intro b s a H D I h;refine plainObj_wpAny_Assign_Attribute (dF (d b s a H _ I h) λi e h=>?_) g;let⟨y,i,j,k,q⟩:=h;refine dF (c b e a i _ j q) λl e b=>?_;let⟨e,h,m,n,p,C,i,j,r,t,u,v,w,x⟩:=b;subst r;obtain rfl:l=Value.ref p:=n;exact yx m t u v w k λe b=>⟨a,_,b,x⟩
def vv{c:Operator}{d:V->V->Hp->VK->Prop}(g:PE X o ta)(h:PE X value tv)(i:Zh X c d):PS X (.AugAssign (.Attribute o f La) c value pos) (Rh X.K ta tv d f):=by
 intro b s a H D I j;refine wpAny_AugAssign_AttributeAny (dF (g b s a H _ I j) λk x j=>?_);let⟨x,l,m,p,q,C,y,z,v,r,t,e,n,u,w⟩:=j;subst r;obtain rfl:k=Value.ref q:=p;refine yu m t e n u λu j k m=>dF (h b j a l _ k w) λj k ⟨y,l,p,q,r⟩=>dF (i b k a l v y u j _ p m q r) λj k b=>?_;let⟨z,q,j,k,r,t,l,m,p⟩:=b;exact yx j l e n m k λe b=>⟨a,_,b,p⟩
end
section
variable {X:Cx} {ay:List (Addr × Obj)} {σ:St} {H:Hp} {s:Shared} {A:Around} {E:ZB} {Q:ZB} {c:Value} {b:Bool}
inductive j6(K:Frag)(H:Hp):V->Value->Prop where
 | fQ:j6 K H .fQ (.type "NoneType")
 | bl (x:Bool):j6 K H (.bl x) (.type "bool")
 | int (i:Int):j6 K H (.int i) (.type "int")
 | str (x:Str):j6 K H (.str x) (.type "str")
 | Um (x:UInt64):j6 K H (.Um x) (.type "float")
 | lst {a:Addr} {d:List V} (e:H a=⇑(.lst d)):j6 K H ↥a (.type "list")
 | Jv {a:Addr} {o:Obj} {d:List V} (e:H a=⇑(.Jv o (.lst d))):j6 K H ↥a (.type "list")
 | tup {a:Addr} {d:List V} (e:H a=⇑(.tup d)):j6 K H ↥a (.type "tuple")
 | dK {a:Addr} {f:List (fK × V)} (e:H a=⇑(.dK f)):j6 K H ↥a (.type "dict")
 | dT {a:Addr} {f:List (List fK × V)} (e:H a=⇑(.dT f)):j6 K H ↥a (.type "dict")
 | ins {a C g:Addr} {h:List (Str × V)} (e:H a=⇑(.ins C g h)) (j:MP K C) (k:findIn K ↥C "__class__"=⇑(⇑(.builtin "object.__class__")))
   (l:PySem.W.specialIn K (.builtin "object.__class__") "__get__"=⇑(⇑(.builtin "getset_descriptor.__get__"))) (m:PySem.W.takesIn K (.builtin "object.__class__")=⇑true)
   (n:mroIn K C (.type "object")=⇑true):j6 K H ↥a ↥C
theorem Lb{x:V}{u t:Value}(I:Inv X ay σ H s)(d:RelV x u)(l:j6 X.K H x t)(e:kitOne X.K t c=⇑b)(h:∀ m,Q (.bool b) { s with toks:=m }) :
  wpAny (model X.prog X.w) A (call (.builtin "isinstance") [u,c]) Q E s:=by
 cases l with
 | fQ=>cases (show u=Value.none from d);exact kia_one PySem.W.kitx_none I.wJ True.intro e (λz=>nomatch z) h
 | bl y=>cases (show u=Value.bool y from d);exact kia_one PySem.W.kitx_bool I.wJ True.intro e (λz=>nomatch z) h
 | int i=>let⟨t,q⟩:=(show ∃ t,u=Value.int i t from d);cases q;exact kia_one PySem.W.kitx_int I.wJ True.intro e (λz=>nomatch z) h
 | str y=>let⟨t,q⟩:=(show ∃ t,u=Value.str y t from d);cases q;exact kia_one PySem.W.kitx_str I.wJ True.intro e (λz=>nomatch z) h
 | Um y=>let⟨t,q⟩:=(show ∃ t,u=Value.float y t from d);cases q;exact kia_one PySem.W.kitx_float I.wJ True.intro e (λz=>nomatch z) h
 | @lst a i f =>
  cases (show u=Value.ref a from d);let⟨_,_,n,_,g⟩:=(show gh X.prog X.w H s.heap a (.lst i) from I.hok a _ f);exact kia_one kitx_list I.wJ ⟨_,g,1⟩ e (λz=>nomatch z) h
 | @Jv a j i f =>
  cases (show u=Value.ref a from d);let⟨_,_,_,n,_,g⟩:=(show gh X.prog X.w H s.heap a (.Jv j (.lst i)) from I.hok a _ f);exact kia_one kitx_list I.wJ ⟨_,g,1⟩ e (λz=>nomatch z) h
 | @tup a i f =>
  cases (show u=Value.ref a from d);let⟨_,_,_,p⟩:=(show gh X.prog X.w H s.heap a (.tup i) from I.hok a _ f);let⟨o,g,j,_⟩:=p;exact kia_one PySem.W.kitx_tuple I.wJ ⟨o,g,j⟩ e (λz=>nomatch z) h
 | @dK a k f =>
  cases (show u=Value.ref a from d);let⟨_,_,i,_,p⟩:=(show gh X.prog X.w H s.heap a (.dK k) from I.hok a _ f);let⟨o,n,q,g,j,_⟩:=p;exact kia_one kitx_dict I.wJ ⟨o,g,j.1⟩ e (λz=>nomatch z) h
 | @dT a k f =>
  cases (show u=Value.ref a from d);let⟨_,_,i,_,o,n,q,g,j,_⟩:=(show gh X.prog X.w H s.heap a (.dT k) from I.hok a _ f);exact kia_one kitx_dict I.wJ ⟨o,g,j.1⟩ e (λz=>nomatch z) h
 | @ins a C n o f cl g i j k =>
  cases (show u=Value.ref a from d);let⟨n,O,_⟩:=xX I.hok f;let⟨f,J,_⟩:=O.look;exact kia_one (PySem.W.kitx_own (cl.get _) cl.hd g i j k) I.wJ J e (λz=>nomatch z) h
end
end _L2
namespace _L2
open Spec Rows
structure iK(k:Nat)(A:Around):Prop where
 hd:A.handled=none
 dp:A.depth+3*k+5<recursionLimit
 un:A.units+16*k+200<cLine
theorem iK.mono{j k:Nat}{A:Around}(r:iK k A)(h:j<=k):iK j A:=⟨r.hd,by have:=r.dp;lia,by have:=r.un;lia⟩
theorem iK.deeper{k:Nat}{A:Around}(r:iK (k+1) A)(a:Env):iK k (A.deeper a) :=
 ⟨r.hd,by have:=r.dp;show A.depth+1+3*k+5<_;lia,by have:=r.un;show A.units+3+16*k+200<_;lia⟩
def Hq{A:Around}{a:WP}{b:List (Str × Value)}:(A.under (.builtin "type.__call__" ⟨↥C::a,b⟩)).depth=A.depth+1:=by
 first|rfl|simp[Around.under,Code.weight,Code.isCreation,Code.isGuard,Code.isCaller,Code.frames,Code.isFrame,guardIds]
def Hr{A:Around}{a:WP}{b:List (Str × Value)}:(A.under (.builtin "type.__call__" ⟨↥C::a,b⟩)).units=A.units+1:=by
 first|rfl|simp[Around.under,Code.cUnits,Code.frames,Code.isFrame]
theorem iK.make{k:Nat}{A:Around}(r:iK (k+1) A)(C:Addr)(a:WP)(b:List (Str × Value)):iK k (A.under (.builtin "type.__call__" ⟨↥C::a,b⟩)) :=
 ⟨r.hd,by have:=r.dp;rw[Hq];lia,by have:=r.un;rw[Hr];lia⟩
def iK.depth{k:Nat}{A:Around}(r:iK k A):A.depth<recursionLimit:=by have:=r.dp;lia
def iK.units{k:Nat}{A:Around}(r:iK k A):A.units+64<cLine:=by have:=r.un;lia
def iK.VR{k:Nat}{A:Around}(r:iK k A):A.units<cLine:=by have:=r.un;lia
def yz:TA:=λ_ H Q=>Q [] H
def Nq(b:TE)(c:TA):TA:=fun a H Q=>b a H λx d=>c a d λa d=>Q (x::a) d
section
variable {X:Cx} {e:Expr} {es:List Expr} {te:TE} {t:TA} {pos:Pos}
theorem ah:PA X [] yz:=λ_ _ _ _ H Q I h=>Calls.spliced_nil ⟨[],H,I,.nil,h⟩
def aa(c:PE X e te)(d:PA X es t)(f:starEach (e::es) X.env=(false,eval e X.env)::starEach es X.env:=by rfl):PA X (e::es) (Nq te t):=by
 intro pos a s b H Q I h;rw[f];show wpAny _ _ (spliced ((false,eval e X.env)::backTo pos (starEach es X.env))) _ _ s;refine Calls.spliced_cons (dF (c a s b H _ I h) λu g h=>?_);let⟨x,i,j,k,l⟩:=h;exact dF (d pos a g b i _ j l) λj l ⟨a,b,g,h,i⟩=>⟨x::a,b,g,.cons k h,i⟩
def ox(t:TA):TE:=fun a H Q=>t a H λa b=>↑a<=sizeLine/\∀ p,b p=none->Q ↥p (aO b p (.tup a))
def Lc(t:TA):TE:=fun a H Q=>t a H λa b=>↑a<=sizeLine/\∀ p,b p=none->Q ↥p (aO b p (.lst a))
def cW{d}(h:PA X es t):PE X (.Tuple es d pos) (ox t):=by
 intro a s b H Q I c;refine wpAny_Tuple_spliced (dF (h pos a s b H _ I c) λf a ⟨g,b,c,r,z,q⟩=>⟨by rw[← ↑r];exact z,?_⟩);let i:b a.heap.objs.size=none:=c.hok.fresh (fk _);refine⟨↥a.heap.objs.size,aO b a.heap.objs.size (.tup g),c.laid (t':=a.toks) (λb u e=>Heap.get?_push_of_some _ e) (fk _) ?_,1,q _ i⟩;exact⟨z,f,r,⟨_,Heap.get?_push_size _ rfl,1,Y⟩⟩
def bO(h:PA X es t):PE X (.List es pos) (Lc t):=by
 intro a s b H Q I c;refine wpAny_List_spliced (dF (h pos a s b H _ I c) λd a ⟨f,b,c,r,z,q⟩=>⟨by rw[← ↑r];exact z,?_⟩);let g:b a.heap.objs.size=none:=c.hok.fresh (fk _);refine⟨↥a.heap.objs.size,aO b a.heap.objs.size (.lst f),c.laid (t':=a.toks) (λb u e=>Heap.get?_push_of_some _ e) (fk _) ?_,1,q _ g⟩;exact⟨z,d,0,r,Heap.get?_push_size _ rfl⟩
end
abbrev Sp:=List V->Hp->VK->XK->Prop
abbrev Ld:=List Env->Hp->Shared->XK->Value->Shared->Prop
structure Hs(P:Program)(w:World)(K:Frag)(mg:Ya)(zt:Heap)(A:Around)(zn:List Env)(s:Shared)(H:Hp):Prop where
 frames:A.frames=⇑zn
 mod:Mod K mg zt
 bs:∀ b o,zt.get? b=⇑o->s.heap.get? b=⇑o/\H b=none
 Uq:zt.objs.size<=s.heap.objs.size
 xG:s.heap.FunFrames zt zn
 VA:∀ b∈Nb zn,H b=none
 hok:tQ P w H s.heap
 bare:AllBare s.gens
def CE(c:List Env)(P:Program)(w:World)(H:Hp)(s:Shared)(Q:VK)(u:Value)(a:Shared):Prop :=
 ∃ v b,a.os=s.os/\AllBare a.gens/\Un (Nb c) [] H b s.heap a.heap/\tQ P w b a.heap/\RelV v u/\Q v b
def CR(c:Ld)(a:List Env)(P:Program)(w:World)(H:Hp)(s:Shared)(Q:VK)(E:XK)(r:Result)(b:Shared):Prop :=
 match r with
 | .ok (.ret u)=>CE a P w H s Q u b
 | .ok _=>False
 | .error e=>c a H s E e b
structure bg(P:Program)(w:World)(K:Frag)(mg:Ya)(zt:Heap)(CX:Ld)(k:Nat)(f:Addr)(fd:FuncData)(ps:UV)(sp:Sp):Prop where
 len:∀ vs H Q E,sp vs H Q E->↑vs=↑ps
 run:∀ (A:Around) (zn:List Env) (s:Shared) (H:Hp) (args:Args) (us:WP) (vs:List V) (Q:VK) (E:XK),iK k A->Hs P w K mg zt A zn s H->BindsTo s fd args (ps.zip us)->cD vs us->sp vs H Q E->
  codeAny (model P w) A (.call ↥f args) (CR CX zn P w H s Q E) s
theorem Hs.make{P:Program}{w:World}{K:Frag}{a:Ya}{b:Heap}{A:Around}{c:List Env}{s:Shared}{H:Hp}(e:Hs P w K a b A c s H)(C:Addr)(d:WP)(f:List (Str × Value)) :
  Hs P w K a b (A.under (.builtin "type.__call__" ⟨↥C::d,f⟩)) c s H:=⟨by first|exact e.frames|(simpa [Around.under,Code.envs,Code.isFrame,pushEnvs] using e.frames),e.mod,e.bs,e.Uq,e.xG,e.VA,e.hok,e.bare⟩
section
variable {X:Cx} {ay:List (Addr × Obj)} {σ:St} {H:Hp} {s s':Shared}
theorem Inv.Zi(I:Inv X ay σ H s):Hs X.prog X.w X.K X.mg X.zt X.A X.stack s H :=
 ⟨I.ok.frames,I.ok.mod,I.bs,ig I.ok.Uq I.sz,I.stack,I.Jw,I.hok,I.bare⟩
def Inv.after{Q:VK}{u:Value}(I:Inv X ay σ H s)(h:CE X.stack X.prog X.w H s Q u s'):EP X ay σ Q u s':=by
 let⟨v,a,os,bare,un,hok,r,q⟩:=h;let⟨b,g,d,t,c⟩:=s';obtain rfl:c=s.os:=os;exact⟨v,a,I.call (h':=b) (h:=g) (p:=d) (l:=t) (f:=[]) un hok bare (λb z=>absurd z (by simp)),r,q⟩
end
def JG(a:Sp)(b:List V)(E:XK)(t:TA):TE:=fun c H Q=>t c H λc d=>a (c++b) d Q E
inductive VS(C:Addr)(m:Str)(x:V)(H:Hp)(N:Prop):Prop
 | mk (a c:Addr) (b:List (Str × V)) (_:x=↥a) (_:H a=⇑(.ins C c b)) (_:b.lookup m=none) (_:N):VS C m x H N
def JH(C:Addr)(m:Str)(c:Sp)(d:List V)(E:XK)(e:TE)(t:TA):TE:=fun a H Q=>e a H λx b=>VS C m x b (t a b λa b=>c (x::(a++d)) b Q E)
def Zj(C:Addr)(c:Sp)(d:List V)(E:XK)(t:TA):TE:=fun a H Q=>t a H λe b=>∀ x a,b x=none->b a=none->a≠x->
 c (.ref x::(e++d)) (aO (aO b a (.own x)) x (.ins C a [])) (λv a=>v=.fQ/\Q ↥x a) E
def Binds(K:Frag)(d:FuncData)(b:UV)(c:WP):Prop :=
 ∀ (s:Shared) (a:WP),K.In s.heap->↑(a++c)=↑b->BindsTo s d ⟨a,[]⟩ (b.zip (a++c))
theorem Binds.all{K:Frag}{b:UV}(h:∀ a:List Value,↑a=↑b->bindArgs d ⟨a,[]⟩=pure (b.zip a)):Binds K d b []:=λs a _ c=>by
 rw[gR]at c ⊢;exact .of_eq (h a c)
def nk(c:Ld)(a:Cx)(E:XK):Prop:=∀ (d:List (Addr × Obj)) (f:St) (H:Hp) (s:Shared) (e:Value) (b:Shared),Inv a d f H s->c a.stack H s E e b->a.xe e b
section
variable {X:Cx} {CX:Ld} {k:Nat} {f C:Addr} {i:FuncData} {ps:UV} {sp:Sp} {g:List V} {d:WP} {E:XK} {x m:Str} {p c jT:Pos} {e o:Expr} {es:List Expr} {ta:TE} {t:TA}
theorem CL{j:St}{H:Hp}{s:Shared}{Q:VK}{a:WP}{h:List V}(l:bg X.prog X.w X.K X.mg X.zt CX k f i ps sp)(v:iK k X.A)(w:Binds X.K i ps d)(y:cD g d)(z:nk CX X E)
  (I:Inv X n j H s) (r:cD h a) (q:sp (h++g) H Q E):wpAny (model X.prog X.w) X.A (call ↥f a) (EP X n j Q) X.xe s:=by
 let c:cD (h++g) (a++d):=r.append y;let m:↑(a++d)=↑ps:=by rw[← ↑c];exact l.len _ _ _ _ q
 refine wpAny_call (codeAny_mono (l.run X.A X.stack s H ⟨a,[]⟩ (a++d) (h++g) Q E v I.Zi (w s a I.wJ m) c q) λr o b=>?_)
 cases r with
 | error e=>exact z n j H s e o I b
 | ok fl =>
  cases fl with
  | ret u=>exact I.after b
  | next=>exact False.elim b
  | brk=>exact False.elim b
  | cont=>exact False.elim b
theorem JI(b:bg X.prog X.w X.K X.mg X.zt CX k f i ps sp)(h:iK k X.A)(j:Gl X x)(l:X.mg x=⇑↥f)(n:keepIn X.K ↥f=true)(q:Binds X.K i ps d)(r:cD g d)(u:nk CX X E)
  (v:PA X (e::es) t) (w:(x == ("__debug__":Str))=false:=by decide) (y:starEach (e::es) X.env=(false,eval e X.env)::starEach es X.env:=by rfl) (z:(backTo c (starEach es X.env)).any (·.1)=false:=by rfl) :
  PE X (.Call (.Name x p) (e::es) [] c) (JG sp g E t):=by
 intro a s m H Q I o;refine wpAny_Call_Name_kw (xV I j l ?_ w);refine callWith_K (h₀:=X.zt) I.ok.mod.eA n (dF (v c a s m H _ I o) λA B ⟨C,D,a,m,o⟩=>⟨a.wJ,?_⟩) y z;exact CL b h q r u a m o
theorem Nr(a:bg X.prog X.w X.K X.mg X.zt CX k f i ps sp)(b:iK k X.A)(h:Gl X x)(j:X.mg x=⇑↥f)(l:keepIn X.K ↥f=true)(n:Binds X.K i ps d)(q:cD g d)(r:nk CX X E)
  (u:(x == ("__debug__":Str))=false:=by decide):PE X (.Call (.Name x p) [] [] c) (JG sp g E yz):=by
 intro m s o H Q I e;refine wpAny_Call_Name_kw (xV I h j ?_ u);exact callWith_K0 I.wJ l (CL (a:=[]) a b n q r I .nil e)
theorem Ri{b:Sem Bool}(q:PE X o ta)(r:MP X.K C)(h:Np X.K C m f)(u:bg X.prog X.w X.K X.mg X.zt CX k f i ps sp)(v:iK k X.A)(w:Binds X.K i ps d)(y:cD g d)(z:nk CX X E)(A:PA X (e::es) t)
  (B:starEach (e::es) X.env=(false,eval e X.env)::starEach es X.env:=by rfl) (D:(backTo c (starEach es X.env)).any (·.1)=false:=by rfl)
  (G:eval (.Call (.Attribute o m jT) (e::es) [] c) X.env=(do
   let j ← eval o X.env
   standAt jT.atName
   let (f,first) ← holding [j] (getMethod j m b)
   callWith c f first (backTo c (starEach (e::es) X.env)) (backToKw c (keywordEach [] X.env))):=by rfl) :
  PE X (.Call (.Attribute o m jT) (e::es) [] c) (JH C m sp g E ta t):=by
 intro l s n H Q I F;refine methodCall_KW (pl:=b) (dF (q l s n H _ I F) λJ L ⟨x,M,p,N,a,F,H,O,R,S,T⟩=>?_) G;subst O;obtain rfl:J=Value.ref a:=N;refine yv p R r h S ?_
 refine callWith_K (first:=[↥a]) (h₀:=X.zt) I.ok.mod.eA h.kp (dF (A c l L n M _ p T) λn F ⟨p,H,l,U,W⟩=>⟨l.wJ,?_⟩) B D
 exact CL (a:=↥a::n) (h:=↥a::p) u v w y z l (.cons rfl U) W
theorem Nt{h:Sem Bool}(n:PE X o ta)(q:MP X.K C)(j:Np X.K C m f)(r:bg X.prog X.w X.K X.mg X.zt CX k f i ps sp)(u:iK k X.A)(v:Binds X.K i ps d)(w:cD g d)(y:nk CX X E)
  (z:eval (.Call (.Attribute o m jT) [] [] c) X.env=(do
   let l ← eval o X.env
   standAt jT.atName
   let (f,first) ← holding [l] (getMethod l m h)
   callWith c f first (backTo c (starEach [] X.env)) (backToKw c (keywordEach [] X.env))):=by rfl) :
  PE X (.Call (.Attribute o m jT) [] [] c) (JH C m sp g E ta yz):=by
 intro e s p H Q I t;refine methodCall_KW (pl:=h) (dF (n e s p H _ I t) λA e ⟨x,p,b,B,a,t,H,D,F,G,J⟩=>?_) z;subst D;obtain rfl:A=Value.ref a:=B;refine yv b F q j G ?_
 exact callWith_K0 (first:=[↥a]) b.wJ j.kp (CL (a:=[↥a]) (h:=[↥a]) r u v w y b (.cons rfl .nil) J)
structure Mk(K:Frag)(C f:Addr):Prop where
 makes:makesIn K C=true
 init:findIn K ↥C "__init__"=⇑(⇑↥f)
 fn:isFn K ↥f=true
 kp:keepIn K ↥C=true
theorem Nu{j:St}{H:Hp}{s:Shared}{Q:VK}{a:WP}{l:List V}(M:Mk X.K C f)(n:bg X.prog X.w X.K X.mg X.zt CX k f i ps sp)(w:iK (k+1) X.A)(y:Binds X.K i ps d)(z:cD g d)
  (A:nk CX X E) (I:Inv X q j H s) (r:cD l a)
  (B:∀ x h,H x=none->H h=none->h≠x->sp (.ref x::(l++g)) (aO (aO H h (.own x)) x (.ins C h [])) (λv D=>v=.fQ/\Q ↥x D) E) :
  wpAny (model X.prog X.w) X.A (call ↥C a) (EP X q j Q) X.xe s:=by
 let m:=B (s.heap.objs.size+1) s.heap.objs.size (I.hok.fresh (Nat.le_succ _)) (I.hok.fresh (fk _)) (jK (Nat.lt_succ_self _));let c:=Inv.made (C:=C) I;let o:cD (V.ref (s.heap.objs.size+1)::(l++g)) (Value.ref (s.heap.objs.size+1)::(a++d)):=.cons rfl (r.append z)
 let p:↑(Value.ref (s.heap.objs.size+1)::a++d)=↑ps:=by
  let e:=↑o;rw[n.len _ _ _ _ m]at e;exact e.symm
 refine wpAny_call (Nn (f:=f) I.wJ M.makes M.init (beq_iff_eq.mp M.fn) (codeAny_mono (n.run _ X.stack _ _ ⟨Value.ref (s.heap.objs.size+1)::a,[]⟩ (Value.ref (s.heap.objs.size+1)::(a++d)) _ _ E (w.make C a []) (c.Zi.make C a []) (y _ (Value.ref (s.heap.objs.size+1)::a) c.wJ p) o m) λr t b=>?_))
 cases r with
 | error e=>exact A q j _ _ e t c b
 | ok fl =>
  cases fl with
  | ret u =>
   let⟨v,F,G,J,L,N⟩:=c.after b;subst L;exact⟨J,⟨V.ref (s.heap.objs.size+1),F,G,1,N⟩⟩
  | next=>exact False.elim b
  | brk=>exact False.elim b
  | cont=>exact False.elim b
theorem nL(M:Mk X.K C f)(a:bg X.prog X.w X.K X.mg X.zt CX k f i ps sp)(b:iK (k+1) X.A)(h:Gl X x)(j:X.mg x=⇑↥C)(l:Binds X.K i ps d)(n:cD g d)(q:nk CX X E)
  (r:(x == ("__debug__":Str))=false:=by decide):PE X (.Call (.Name x p) [] [] c) (Zj C sp g E yz):=by
 intro m s o H Q I e;refine wpAny_Call_Name_kw (xV I h j ?_ r);exact callWith_K0 I.wJ M.kp (Nu (a:=[]) M a b l n q I .nil e)
end
structure qH(N P:UV)(sc:Scope):Prop where
 kind:sc.kind=.function
 co:sc.isCoroutine=false
 gen:sc.isGenerator=false
 nd:N.Nodup
 pre:N.take ↑P=P
 par:∀ x∈P,sc.names.lookup x=⇑.local\/sc.names.lookup x=⇑.cell
 VU:∀ y∈sc.names,y.2≠.free
theorem Bq{b:Str->Option NameKind}{x:Str}:∀ {a:List (Str × Value)} {m:Ya},(∀ v,(x,v)∉a)->bindL b a m x=m x
 | [],_,_=>rfl
 | (n,v)::r,m,h=>by
  unfold bindL;rw[Bq λw c=>h w (j5 _ c)];split
  ·have:x≠n:=by rintro rfl;exact h v sE
   simp[this]
  ·rfl
theorem Br{b:Str->Option NameKind}{x:Str}:∀ {a:List (Str × Value)} {m:Ya},(∀ v,(x,v)∉a)->bindC b a m x=m x
 | [],_,_=>rfl
 | (n,v)::r,m,h=>by
  unfold bindC;rw[Br λw c=>h w (j5 _ c)];split
  ·rfl
  ·have:x≠n:=by rintro rfl;exact h v sE
   simp[this]
theorem Bs{b:Str->Option NameKind}{x:Str}{v:Value}:∀ {P:UV} {a:WP} {i:Nat} {m:Ya},P.Nodup->P[i]?=⇑x->a[i]?=⇑v->b x=⇑.local->
  bindL b (P.zip a) m x=⇑v
 | [],_,_,_,_,h,_,_=>by simp at h
 | _::_,[],_,_,_,_,h,_=>by simp at h
 | p::P,w::a,0,m,nd,c,d,e=>by
  simp at c d;subst c;subst d;show bindL b ((p,w)::P.zip a) m p=_;unfold bindL;rw[Bq λv f=>(List.nodup_cons.mp nd).1 (List.of_mem_zip f).1,if_pos e];simp
 | p::P,w::a,i+1,m,nd,c,d,e=>by
  show bindL b ((p,w)::P.zip a) m x=_;unfold bindL;exact Bs (i:=i) (List.nodup_cons.mp nd).2 (by simpa using c) (by simpa using d) e
theorem Bt{b:Str->Option NameKind}{x:Str}{v:Value}:∀ {P:UV} {a:WP} {i:Nat} {m:Ya},P.Nodup->P[i]?=⇑x->a[i]?=⇑v->b x≠some .local->
  bindC b (P.zip a) m x=⇑v
 | [],_,_,_,_,h,_,_=>by simp at h
 | _::_,[],_,_,_,_,h,_=>by simp at h
 | p::P,w::a,0,m,nd,c,d,e=>by
  simp at c d;subst c;subst d;show bindC b ((p,w)::P.zip a) m p=_;unfold bindC;rw[Br λv f=>(List.nodup_cons.mp nd).1 (List.of_mem_zip f).1,if_neg e];simp
 | p::P,w::a,i+1,m,nd,c,d,e=>by
  show bindC b ((p,w)::P.zip a) m x=_;unfold bindC;exact Bt (i:=i) (List.nodup_cons.mp nd).2 (by simpa using c) (by simpa using d) e
def start(N:UV)(a:List V):St:=a.map some++List.replicate (↑N-↑a) none
def CM(e:Ld)(P:Program)(w:World)(K:Frag)(mg:Ya)(zt:Heap)(N:UV)(a:Str)(b:Scope)(f:Addr)(c:Value)(A:Around)(zn:List Env)(s:Shared)(H:Hp)(E:XK):Cx where
 prog:=P
 w:=w
 K:=K
 mg:=mg
 zt:=zt
 A:=A.deeper (envOfC a b s.heap.objs.size f c)
 N:=N
 s₀:=s
 H₀:=H
 env:=envOfC a b s.heap.objs.size f c
 zn:=zn
 stack:=envOfC a b s.heap.objs.size f c::zn
 ex:=[]
 calm:=true
 fn:=λ_=>true
 pn:=[]
 xe:=λg h=>wpAny (model P w) (A.deeper (envOfC a b s.heap.objs.size f c)) (leaving (envOfC a b s.heap.objs.size f c) g) (λ_ d=>e zn H s E g d) (λg d=>e zn H s E g d) h
theorem aP{a:Ld}{P:Program}{w:World}{K:Frag}{b:Ya}{c:Heap}{N:UV}{d:Str}{e:Scope}{f:Addr}{g:Value}{A:Around}{h:List Env}{s:Shared}{H:Hp}{E:XK}:(CM a P w K b c N d e f g A h s H E).K=K:=rfl
theorem aG{a:Ld}{P:Program}{w:World}{K:Frag}{b:Ya}{c:Heap}{N:UV}{d:Str}{e:Scope}{f:Addr}{g:Value}{A:Around}{h:List Env}{s:Shared}{H:Hp}{E:XK}:(CM a P w K b c N d e f g A h s H E).JA.K=K:=rfl
def EG{a:Scope}{n:Nat}{x:Str}(h:a.names.lookup x=⇑.cell):∃ c,(cellsFrom n a.names []).lookup x=⇑c:=by
 let q:=cellsFrom_some a.names n [] (.inl h);exact Option.isSome_iff_exists.mp q
theorem Lg{G:Ld}{P:Program}{w:World}{K:Frag}{u:Ya}{v:Heap}{N f:UV}{o:Str}{c:Scope}{p:Addr}{q:Value}{A:Around}{B:List Env}{s I:Shared}{H:Hp}{E:XK}{C:WP}{g:List V}
  (h:qH N f c) (M:A.handled=none) (e0:Hs P w K u v A B s H) (T:↑g=↑f) (O:cD g C)
  (x:InCallC s s.heap.objs.size (bindL (envOfC o c s.heap.objs.size p q).kindOf (f.zip C) λ_=>none) (cellsFrom (s.heap.objs.size+1) c.names []) (bindC (envOfC o c s.heap.objs.size p q).kindOf (f.zip C) λ_=>none) I) :
  Inv (CM G P w K u v N o c p q A B s H E) [] (start N g) H I:=by
 let d:↑f<=↑N:=by have:=congrArg List.length h.pre;rw[gw]at this;lia
 let⟨r,z,rfl,F⟩:=x.done;let D:∀ d:Addr,d∉(CM G P w K u v N o c p q A B s H E).ex:=λd z=>absurd (show d∈([]:WF) from z) (by simp)
 exists ⟨e0.mod,h.kind,V,fk _,λy z e r b=>?_,λy i=>?_,λy e _ j=>?_,λ_=>M,Around.frames_deeper e0.frames,.inr ⟨V⟩,λd z=>absurd z (D d),e0.bs,e0.Uq,λd _ _=>D d,λd z=>absurd z (D d),e0.xG,e0.VA⟩,
  rfl,e0.bare,Un.kept F,⟨_,x.toInCall.ns,λl y R r b d=>?_⟩,λy e j=>⟨_,x.cell y e j⟩,e0.hok.fresh (fk _),λy e j=>?_,λd m=>absurd (show d∈([]:List (Addr × Obj)) from m) (by simp),e0.hok.kept F
 ·exact name_of_addr x.apart (PySem.mem_of_lookup r) (PySem.mem_of_lookup b)
 ·let i:c.names.lookup y=⇑.cell\/c.names.lookup y=⇑.free:=i;rcases i with i|i
  ·exact EG i
  ·exact absurd rfl (h.VU _ (PySem.mem_of_lookup i))
 ·exact gJ (x.above y e (PySem.mem_of_lookup j))
 ·let t:l<↑g:=by
   unfold start at b;by_cases t:l<↑g
   ·exact t
   ·rw[List.getElem?_append_right (by simpa using t)]at b;rw[List.getElem?_replicate]at b
    split at b <;> cases b
  let S:g[l]?=⇑R:=by
   unfold start at b;rw[List.getElem?_append_left (by simpa using t),lD]at b
   cases n:g[l]? with
   | none=>rw[n]at b;cases b
   | some a=>rw[n]at b;cases b;rfl
  let⟨b,J,d⟩:=O.get S
  let m:f[l]?=⇑y:=by
   rw[← h.pre,List.getElem?_take_of_lt ∅];exact r
  let L:f.Nodup:=by rw[← h.pre];exact h.nd.sublist (List.take_sublist _ _)
  exists b,d;rcases h.par y (lU m) with k|k
  ·exact .inl ⟨k,Bs L m J k⟩
  ·let⟨e,n⟩:=EG (n:=s.heap.objs.size+1) k;refine .inr ⟨.inl k,e,n,?_⟩;let b:=x.cell y e n;rw[Bt L m J (by show c.names.lookup y≠_;rw[k];decide)]at b;exact b
 ·exact e0.hok.fresh (gJ (x.above y e (PySem.mem_of_lookup j)))
 ·unfold start;show _=↑N;rw[dm,cC,xF];lia
theorem Zl{j:Ld}{P:Program}{w:World}{K:Frag}{k:Ya}{l:Heap}{B:Nat}{f:Addr}{name d:Str}{C:Arguments}{a:Scope}{D kV G I e L oc:Value}{M od:Option Addr}
  {MQ:Array (XB)} {N m:UV} {p:Sp} (lk:K.lookup f=some ⟨oc,od,.func (fnOf name d C O a D kV G I M e L),MQ⟩) (Nd:codeIn K e d=true) (i:qH N m a)
  (T:∀ b H Q E,p b H Q E->↑b=↑m)
  (EH:∀ (A:Around) (g:List Env) (s:Shared) (H:Hp) (b:List V) (Q:VK) (E:XK),iK B (A.deeper (envOfC d a s.heap.objs.size f e))->p b H Q E->
   ∃ t,Jz (CM j P w K k l N d a f e A g s H E) O t/\t { nx:=λ_ c=>Q .fQ c,rt:=Q } (start N b) H) :
  bg P w K k l j (B+1) f (fnOf name d C O a D kV G I M e L) m p:=by
 refine⟨T,λA g s H args X b Q E r e0 hb ab F=>?_⟩;let hl:=T _ _ _ _ F;let R:K.In s.heap:=e0.mod.eA.keeps λx y n=>(e0.bs x y n).1;have ae:s.heap.NoLimit:=e0.mod.nolimit.keeps λx y n=>(e0.bs x y n).1
 let ag:∀ y∈m.zip X,a.names.lookup y.1=⇑.local\/(a.names.lookup y.1=⇑.cell/\((cellsFrom (s.heap.objs.size+1) a.names []).lookup y.1).isSome=true):=λ⟨ai,v⟩ hy=>by
  rcases i.par ai (List.of_mem_zip hy).1 with q|q
  ·exact .inl q
  ·exact .inr ⟨q,cellsFrom_some _ _ _ (.inl q)⟩
 refine codeAny_call_function r.depth (R _ _ lk) rfl i.co i.gen rfl (PySem.W.codeRec_of R Nd) (hb _ _ _ _ ?_);refine wpAny_newFunctionEnv_cells i.kind ag λx he S U=>?_;subst he;refine⟨ae.keeps U.toInCall.keep,codeAny_func ?_⟩;let⟨t,x,y⟩:=EH A g s H b Q E (r.deeper _) F;have F:Inv (CM j P w K k l N d a f e A g s H E) [] (start N b) H S:=Lg i r.hd e0 hl ab U;refine wpAny_mono (x [] S (start N b) H _ F y) (λfl r h=>?_) λn r h=>h;have W:∀ {o:St} {c:Hp} {v:V} {u:Value},Inv (CM j P w K k l N d a f e A g s H E) [] o c r->RelV v u->Q v c->CE g P w H s Q u r := λ{o c v u} J z q=>⟨v,c,J.os,J.bare,J.zt,J.hok,z,q⟩
 cases fl with
 | ret u =>
  let⟨v,o,c,J,z,q⟩:=h;exact W J z q
 | next =>
  let⟨o,c,J,q⟩:=h;exact W (v:=V.fQ) (u:=Value.none) J rfl q
 | brk =>
  let⟨_,_,_,q⟩:=h;exact False.elim q
 | cont =>
  let⟨_,_,_,q⟩:=h;exact False.elim q
end _L2
namespace _L2
open Spec Rows
section
variable {X:Cx} {x:Str} {p pos:Pos} {e:Expr} {es:List Expr} {t:TA} {id T:String} {r:List V->Hp->VK->Prop}
def fI(r:List V->Hp->VK->Prop)(t:TA):TE:=fun a H Q=>t a H λa b=>r a b Q
theorem cz(c:jN X (.builtin id) r)(d:Gl X x)(f:X.mg x=none)(g:bootBuiltins x=⇑(.builtin id))(h:PA X (e::es) t)(i:x≠"__name__":=by decide)(j:(x == ("__debug__":Str))=false:=by decide)
  (k:starEach (e::es) X.env=(false,eval e X.env)::starEach es X.env:=by rfl) (l:(backTo pos (starEach es X.env)).any (·.1)=false:=by rfl):PE X (.Call (.Name x p) (e::es) [] pos) (fI r t):=by
 intro a s b H Q I m;refine wpAny_Call_Name_kw (vp I d f g ?_ i j);exact PyProof.Rows.callWith_builtin1 (dF (h pos a s b H _ I m) λm n ⟨o,q,u,v,w⟩=>c a n b q o m Q u v w) k l
theorem eV(c:jN X (.type T) r)(d:Gl X x)(f:X.mg x=none)(g:bootBuiltins x=⇑(.type T))(h:PA X (e::es) t)(i:x≠"__name__":=by decide)(j:(x == ("__debug__":Str))=false:=by decide)
  (k:starEach (e::es) X.env=(false,eval e X.env)::starEach es X.env:=by rfl) (l:(backTo pos (starEach es X.env)).any (·.1)=false:=by rfl):PE X (.Call (.Name x p) (e::es) [] pos) (fI r t):=by
 intro a s b H Q I m;refine wpAny_Call_Name_kw (vp I d f g ?_ i j);exact PyProof.Rows.callWith_type1 (dF (h pos a s b H _ I m) λm n ⟨o,q,u,v,w⟩=>c a n b q o m Q u v w) k l
end
end _L2
namespace _HT
open Rows
section
variable {prog:Program} {w:World} {A:Around} {E:ZB} {s:Shared}
def ja(n d:Nat):Option Int->Nat
 | none=>d
 | some v=>if v<0 then (v+(n:Int)).toNat else min v.toNat n
def JJ(n d k:Nat):ja n d (⇑(k:Int))=min k n:=by
 show (if (k:Int)<0 then ((k:Int)+(n:Int)).toNat else min (k:Int).toNat n)=min k n;rw[if_neg ∅,Int.toNat_natCast]
def VW(n d:Nat)(b:d<=n)(o:Option Int):ja n d o<=n:=by
 cases o with
 | none=>exact b
 | some v =>
  show (if v<0 then (v+(n:Int)).toNat else min v.toNat n)<=n;by_cases a:v<0
  ·rw[if_pos a];lia
  ·rw[if_neg a];exact Nat.min_le_right _ _
def JK(v:Int)(n d:Nat):(if v<0 then max (v+(n:Int)) 0 else min v (n:Int))=((ja n d (⇑v):Nat):Int):=by
 show (if v<0 then max (v+(n:Int)) 0 else min v (n:Int))=(((if v<0 then (v+(n:Int)).toNat else min v.toNat n):Nat):Int);by_cases a:v<0
 ·simp only[if_pos a];lia
 ·simp only[if_neg a];lia
def Ht(lo a:Option Int)(n:Nat):Builtin.Slice.sliceAdjust lo a 1 (n:Int)=(((ja n 0 lo:Nat):Int),((ja n n a:Nat):Int)):=by
 let b:¬ ((1:Int)<0):=by lia
 unfold Builtin.Slice.sliceAdjust;simp only[b,if_false];refine Prod.ext ?_ ?_
 ·cases lo with
  | none=>rfl
  | some v=>exact JK v n 0
 ·cases a with
  | none=>rfl
  | some v=>exact JK v n n
def Hu(i j:Nat):Builtin.Slice.slicePlaces (i:Int) (j:Int) 1=j-i:=by
 unfold Builtin.Slice.slicePlaces;let a:(1:Int) > 0:=by lia
 simp only[a,if_true,Int.ediv_one]
 split <;> lia
def yD{v:Value}{o:Option Int}{Q:Option Int->Shared->Prop}(p:IsPart v o)(h:Q o s):wpAny (model prog w) A (Builtin.Slice.slicePartIndex v) Q E s:=by
 cases p with
 | none=>exact slicePart_none h
 | int i t=>exact slicePart_int h
theorem vA{e:Addr}{b c:Value}{lo a:Option Int}{n:Nat}{Q:Int × Int × Nat->Shared->Prop}(f:s.heap.IsSliceOf e b c .none)(g:IsPart b lo)(h:IsPart c a)
  (i:Q (((ja n 0 lo:Nat):Int),1,ja n n a-ja n 0 lo) s):wpAny (model prog w) A (Builtin.Slice.sliceApplied ↥e (pure (n:Int))) Q E s:=by
 let⟨j,d,k,JL⟩:=id f;unfold Builtin.Slice.sliceApplied Builtin.Slice.sliceFields;refine wpAny_bind (wpAny_bind (wpAny_field d JL (x:=b) rfl (wpAny_bind (wpAny_field d JL (x:=c) rfl (wpAny_bind (wpAny_field d JL (x:=.none) rfl (wpAny_pure ?_)))))));refine wpAny_bind (slicePart_none ?_);show wpAny _ _ (if ((1:Int) == 0)=true then _ else _) _ _ s;rw[if_neg (by decide)];refine wpAny_bind (yD g (wpAny_bind (yD h (wpAny_bind (wpAny_pure ?_)))));show wpAny _ _ (match Builtin.Slice.sliceAdjust lo a 1 (n:Int) with|(lo,a)=>pure (lo,(1:Int),Builtin.Slice.slicePlaces lo a 1)) _ _ s;rw[Ht lo a n];show wpAny _ _ (pure (((ja n 0 lo:Nat):Int),(1:Int),Builtin.Slice.slicePlaces ((ja n 0 lo:Nat):Int) ((ja n n a:Nat):Int) 1)) _ _ s;rw[Hu];exact wpAny_pure i
def Nv(a:Xt)(i k:Nat):((List.range k).filterMap λ(m:Nat)=>a[((i:Int)+(m:Int)*1).toNat]?).toArray=((a.toList.drop i).take k).toArray:=by
 let e:(λ(m:Nat)=>a[((i:Int)+(m:Int)*1).toNat]?)=λm=>a[i+m]?:=by
  funext m;have:((i:Int)+(m:Int)*1).toNat=i+m:=by lia
  rw[this]
 rw[e];have:=pick_run a i k;rw[List.filterMap_map]at this;let b:((λx=>a[x]?) ∘ λx=>i+x)=λm=>a[i+m]?:=rfl;rw[b]at this;rw[this]
theorem tU{t e:Addr}{a:Xt}{f g:Value}{lo b:Option Int}{Q:ZB}(c:IsTup s.heap t a)(i:s.heap.IsSliceOf e f g .none)(j:IsPart f lo)(k:IsPart g b)
  (l:¬ (ja a.size 0 lo=0/\ja a.size a.size b=a.size))
  (h:Q ↥s.heap.objs.size { s with heap:=s.heap.push { cls:=.type "tuple",data:=.seq ((a.toList.drop (ja a.size 0 lo)).take (ja a.size a.size b-ja a.size 0 lo)).toArray } })
  (r:a.size<=sizeLine):wpAny (model prog w) A (getItem ↥t ↥e) Q E s:=by
 let d:sizeOk (.seq ((a.toList.drop (ja a.size 0 lo)).take (ja a.size a.size b-ja a.size 0 lo)).toArray):=by
  show ((a.toList.drop (ja a.size 0 lo)).take (ja a.size a.size b-ja a.size 0 lo)).toArray.size<=sizeLine;rw[ie,gw,pV,Array.length_toList];lia
 let m:ja a.size a.size b<=a.size:=VW _ _ (fk _) b;let⟨m,n,o,JL⟩:=id i;let p:s.TypeIs ↥e "slice":=⟨m,n,o⟩;unfold getItem
 try with_reducible refine wpAny_holding ?_
 first|refine wpAny_bind (wpAny_pure ?_)|skip
 refine wpAny_bind (wpAny_sequenceKey c.typeIs (by decide) ?_);refine wpAny_bind (wpAny_callSpecial?_slot (name:=Str.ofString "__getitem__") c.typeIs PyProof.Rows.slot_tuple_getitem (wpAny_call_entry PyProof.Rows.slot_tuple_getitem c.typeIs entry_tuple_getitem ?_ (args_tuple_getitem _ _)));show wpAny _ _ (Builtin.Tuple.tupleItemsOf ↥t >>= _) _ _ s;refine wpAny_bind (tupleItemsOf_ c ?_);refine wpAny_bind (wpAny_typeOf p ?_);rw[if_pos (by decide)];refine wpAny_bind (vA i j k ?_)
 let m:¬ ((((ja a.size 0 lo:Nat):Int) == 0&&(1:Int) == 1&&(ja a.size a.size b-ja a.size 0 lo) == a.size)=true):=by
  intro q;rw[Bool.and_eq_true,Bool.and_eq_true]at q;let n:((ja a.size 0 lo:Nat):Int)=0:=eq_of_beq q.1.1;let n:ja a.size a.size b-ja a.size 0 lo=a.size:=eq_of_beq q.2;exact l ⟨Q,Q⟩
 show wpAny _ _ (if (((ja a.size 0 lo:Nat):Int) == 0&&(1:Int) == 1&&(ja a.size a.size b-ja a.size 0 lo) == a.size)=true then _ else _) _ _ s;rw[if_neg m,Nv]
 first
  | exact wpAny_bind (m:=Builtin.Tuple.tupleExact _) (wpAny_newObj_type (wpAny_pure ⟨Y,wpAny_pure h⟩) d)
  | exact wpAny_bind (m:=Builtin.Tuple.tupleExact _) (wpAny_newObj_type (wpAny_bind (wpAny_pure (wpAny_pure ⟨Y,wpAny_pure h⟩))) d)
  | exact wpAny_bind (wpAny_bind (m:=Builtin.Tuple.tupleExact _) (wpAny_newObj_type (wpAny_pure (wpAny_pure ⟨Y,wpAny_pure h⟩)) d))
  | exact wpAny_bind (wpAny_bind (m:=Builtin.Tuple.tupleExact _) (wpAny_newObj_type (wpAny_pure ⟨Y,wpAny_pure h⟩) d))
end
end _HT
namespace _L2
open Spec Rows
abbrev TO:=St->Hp->(Option Int->Hp->Prop)->Prop
def PO(a:Cx)(e:Option Expr)(t:TO):Prop :=
 ∀ (c:List (Addr × Obj)) (s:Shared) (b:St) (H:Hp) (Q:Option Int->Hp->Prop),Inv a c b H s->t b H Q->
  wpAny (model a.prog a.w) a.A (evalPart e a.env) (λu f=>∃ o d,Inv a c b d f/\IsPart u o/\Q o d) a.xe s
def Rk:TO:=λ_ H Q=>Q none H
def Zn(t:TE):TO:=fun a H Q=>t a H λx a=>mI x a Q
def intsAre_of{a:Wp}:∀ {b:WP},cD (a.map V.int) b->IntsAre b a:=by
 induction a with
 | nil=>intro b r;rw[List.map_nil]at r;cases r;exact .nil
 | cons n a c =>
  intro b r;rw[jq]at r
  cases r with
  | cons d e =>
   let⟨t,f⟩:=d;subst f;exact .cons n t (c e)
section
variable {X:Cx} {e:Expr} {te:TE} {lo c:Option Expr} {tl th:TO} {pos p2:Pos}
def mY:PO X none Rk:=by
 intro a s b H Q I h;rw[evalPart_none];exact wpAny_pure ⟨none,H,I,.none,h⟩
def jb(h:PE X e te):PO X (⇑e) (Zn te):=by
 intro a s b H Q I c;rw[evalPart_some];refine dF (h a s b H _ I c) λu b a=>?_;let⟨x,d,f,g,j⟩:=a;let⟨i,rfl,q⟩:=j;let⟨t,rfl⟩:=g;exact⟨⇑i,d,f,.int i t,q⟩
def fR(X:Cx)(r:V->Option Int->Option Int->Hp->VK->Prop):Prop :=
 ∀ (a:List (Addr × Obj)) (s:Shared) (b:St) (H:Hp) (x:V) (v d e:Value) (lo c:Option Int) (f:Addr) (Q:VK),Inv X a b H s->RelV x v->s.heap.IsSliceOf f d e .none->IsPart d lo->IsPart e c->r x lo c H Q->
  ∃ T d,typeLookup (.type T) "__getitem__"=pure (⇑(.builtin d))/\s.TypeIs v T/\wpAny (model X.prog X.w) X.A (getItem v ↥f) (EP X a b Q) X.xe s
def oy(r:V->Option Int->Option Int->Hp->VK->Prop)(te:TE)(tl th:TO):TE:=fun a H Q=>te a H λx b=>tl a b λl b=>th a b λu a=>r x l u a Q
def i6{r:V->Option Int->Option Int->Hp->VK->Prop}(i:fR X r)(j:PE X e te)(k:PO X lo tl)(l:PO X c th):PE X (.Subscript e (.Slice lo c none p2) pos) (oy r te tl th):=by
 intro b s d H Q I h;refine Subscript_ (dF (j b s d H _ I h) λv a f=>?_);let⟨x,g,h,m,n⟩:=f;refine wpAny_Slice (dF (k b a d g _ h n) λf a ⟨n,g,h,o,p⟩=>dF (l b a d g _ h p) λg a p=>?_);let⟨u,h,q,t,w⟩:=p;rw[evalPart_none];refine wpAny_pure ?_;let p:Inv X b d h { a with heap:=a.heap.push { cls:=.type "slice",data:=.fields (List.toArray [f,g,.none]) } }:=q.kept (t':=a.toks) λy z q=>Heap.get?_push_of_some _ q;let⟨T,A,q,y,z⟩:=i b { a with heap:=a.heap.push { cls:=.type "slice",data:=.fields (List.toArray [f,g,.none]) } } d h x v f g n u a.heap.objs.size Q p m (Heap.IsSliceOf.new ..) o t w;show wpAny (model X.prog X.w) X.A (subscriptTail e (.Slice lo c none p2) v ↥a.heap.objs.size) (EP X b d Q) X.xe { a with heap:=a.heap.push { cls:=.type "slice",data:=.fields (List.toArray [f,g,.none]) } };exact tail_any (ops:=[↥a.heap.objs.size,v]) y q z (by with_unfolding_all rfl)
def j7(a:List V)(lo c:Option Int):List V:=(a.drop (_HT.ja ↑a 0 lo)).take (_HT.ja ↑a ↑a c-_HT.ja ↑a 0 lo)
def wN(a:List V)(lo c:Option Int):↑(j7 a lo c)<=↑a:=by
 unfold j7;rw[gw,pV];lia
def oC(K:Frag):V->Option Int->Option Int->Hp->VK->Prop:=λx lo c H Q=>∃ b a,x=↥b/\dG K H b a/\
 ¬ (_HT.ja ↑a 0 lo=0/\_HT.ja ↑a ↑a c=↑a)/\∀ p,H p=none->Q ↥p (aO H p (.tup (j7 a lo c)))
def VX:fR X (oC X.K):=by
 intro e s k H x v l m lo c n Q I b f g h d;let⟨o,a,rfl,i,j,q⟩:=d;cases b;let⟨k,r,d,e⟩:=I.tuple i;let b:k.toArray.size=↑a:=by rw[ie];exact r.length.symm
 exists "tuple",_,PyProof.Rows.slot_tuple_getitem.lookup,d.typeIs;refine _HT.tU d f g h (by rw[b];exact j) ?_ (by rw[b];exact e);rw[b];refine⟨↥s.heap.objs.size,_,I.laid (t':=s.toks) (o:=.tup (j7 a lo c)) (λb d q=>Heap.get?_push_of_some _ q) (fk _) ?_,1,q _ (I.hok.fresh (fk _))⟩;exact⟨Nat.le_trans (wN a lo c) e,_,(r.drop (_HT.ja ↑a 0 lo)).take (_HT.ja ↑a ↑a c-_HT.ja ↑a 0 lo),IsTup.new _ _⟩
end
end _L2
namespace _L2
open Spec Rows
def JN(n:Nat)(i:Int):Option Nat:=if 0<=i then (if i<n then some i.toNat else none) else if -(n:Int)<=i then some (i+n).toNat else none
def oz{a:Type}(b:List a)(i:Int):Option a:=(JN ↑b i).bind λj=>b[j]?
def JO{n:Nat}{i:Int}{j:Nat}(h:JN n i=⇑j):seqIndex? i n=⇑j/\j<n/\-(n:Int)<=i/\i<n:=by
 unfold JN at h;by_cases b:0<=i
 ·rw[if_pos b]at h;by_cases a:i<n
  ·rw[if_pos a]at h;let e:i.toNat=j:=pW h;exact⟨by rw[seqIndex_of b a,e],Q,Q,a⟩
  ·rw[if_neg a]at h;cases h
 ·rw[if_neg b]at h;by_cases a:-(n:Int)<=i
  ·rw[if_pos a]at h;let e:(i+n).toNat=j:=pW h;exact⟨by rw[seqIndex_neg ∅ a,e],Q,a,Q⟩
  ·rw[if_neg a]at h;cases h
def CN{b:Type}{a:List b}{i:Int}{v:b}(h:oz a i=⇑v):∃ j,seqIndex? i ↑a=⇑j/\a[j]?=⇑v/\j<↑a/\-(↑a:Int)<=i/\i<↑a:=by
 unfold oz at h
 cases e:JN ↑a i with
 | none=>rw[e]at h;cases h
 | some j =>
  rw[e]at h;let⟨c,d,f,g⟩:=JO e;exact⟨j,c,h,d,f,g⟩
def cT{b:Type}{a:List b}{j:Nat}{v:b}(h:a[j]?=⇑v):oz a (j:Int)=⇑v:=by
 let c:j<↑a:=(List.getElem?_eq_some_iff.mp h).1
 let e:JN ↑a (j:Int)=⇑j:=by
  unfold JN;rw[if_pos ∅,if_pos ∅];simp
 unfold oz;rw[e];exact h
def Ny{b:Type}(a:List b)(v:b):oz (a++[v]) (-1)=⇑v:=by
 let c:↑(a++[v])=↑a+1:=by simp
 let e:JN ↑(a++[v]) (-1)=some ↑a:=by
  unfold JN;rw[c,if_neg (by decide),if_pos ∅];congr 1;lia
 unfold oz;rw[e];show (a++[v])[↑a]?=⇑v;simp
def JP(b:Expr):Prop:=∀ o i,subscripted b false o i=operate [o,i] (getItem o i)
def VY(a:Cx)(r:R2):Prop :=
 ∀ (e b:Expr) (c:List (Addr × Obj)) (s:Shared) (d:St) (H:Hp) (x y:V) (v u:Value) (Q:VK),Inv a c d H s->RelV x v->RelV y u->r x y H Q->
  subscripted b false v u=operate [v,u] (getItem v u)->wpAny (model a.prog a.w) a.A (subscriptTail e b v u) (EP a c d Q) a.xe s
def hE(a:Cx)(f:String)(r:V->List V->Hp->VK->Prop):Prop :=
 ∀ (b:List (Addr × Obj)) (s:Shared) (c:St) (H:Hp) (x:V) (d:List V) (v:Value) (e:WP) (Q:VK),Inv a b c H s->RelV x v->cD d e->r x d H Q->
  wpAny (model a.prog a.w) a.A (call (.builtin f) (v::e)) (EP a b c Q) a.xe s
section
variable {X:Cx} {a b:Expr} {ta tb:TE} {pos:Pos}
def Zo{r:R2}(c:VY X r)(d:PE X a ta)(f:PE X b tb)(g:JP b):PE X (.Subscript a b pos) (Za r ta tb):=by
 intro e s h H Q I i;exact Subscript_ (VN d f I i λv u i x y j k l m q=>c a b e i h j x y v u Q k l m q (g _ _))
inductive Zp(K:Frag)(x y:V)(H:Hp)(Q:VK):Prop
 | mk (p:Addr) (c:List V) (i:Int) (v:V) (_:x=↥p) (_:y=.int i) (_:bM K H p c) (_:oz c i=⇑v) (_:Q v H)
inductive Zq(K:Frag)(x y:V)(H:Hp)(Q:VK):Prop
 | mk (p:Addr) (c:List V) (i:Int) (v:V) (_:x=↥p) (_:y=.int i) (_:dG K H p c) (_:oz c i=⇑v) (_:Q v H)
def oD:R2:=λx y H Q=>∃ z i c,x=.str z/\y=.int i/\↑z<=sizeLine/\oz z.cps.toList i=⇑c/\Q (.str ⟨(List.toArray [c])⟩) H
def bJ:VY X (Zp X.K):=by
 intro j k d s e H x y v u Q I a b h f;let⟨p,l,i,z,rfl,rfl,c,g,q⟩:=h;cases a;let⟨t,rfl⟩:=b;let⟨l,r,b,a⟩:=I.list c;let⟨j,a,c,h,m,n⟩:=CN g;let⟨w,g,k⟩:=r.get c;let o:=↑r;let c:=sI;let h:EP X d e Q w s:=⟨z,H,I,k,q⟩;by_cases k:0<=i
 ·let c:i.toNat=j:=by
   rw[seqIndex_of k n]at a;exact pW a
  exact item_listR b.isList k ∅ (by rw[c];simpa using g) h f
 ·let c:(i+(l.toArray.size:Int)).toNat=j:=by
   rw[seqIndex_neg ∅ m]at a;rw[ie,← o];exact pW a
  exact subscriptTail_builtinR (x:=w) b.isList.typeIs slot_list_getitem.lookup
   (wpAny_getItem_list_neg (Q:=λr a=>r=w/\EP X d e Q r a) b.isList ∅ (by rw[ie] <;> lia) ∅ (by rw[c];simpa using g) ⟨1,h⟩) f
def bh:VY X (Zq X.K):=by
 intro i j a s b H x y v u Q I c d h e;let⟨p,k,l,z,rfl,rfl,f,g,q⟩:=h;cases c;let⟨t,rfl⟩:=d;let⟨d,r,c,h⟩:=I.tuple f;let⟨j,d,f,h,i,k⟩:=CN g;let⟨w,g,h⟩:=r.get f;let f:=↑r;let i:=sI;let i:EP X a b Q w s:=⟨z,H,I,h,q⟩;exact subscriptTail_builtinR (x:=w) c.typeIs slot_tuple_getitem.lookup (getItem_tuple (j:=j) (Q:=λr h=>r=w/\EP X a b Q r h) c ∅ ∅ (by rw[ie,← f];exact d) (by simpa using g) ⟨1,i⟩) e
def Nz:VY X oD:=by
 intro f g j s k H x y v u Q I a b h d;let⟨z,i,c,rfl,rfl,f,e,q⟩:=h;let⟨t,rfl⟩:=a;let⟨l,rfl⟩:=b;let⟨j,a,b,h,f,g⟩:=CN e;let e:↑z.cps.toList=↑z:=by simp[Str.length]
 rw[e]at a f g;let e:=sI
 exact tail_any (typeIs_str s z t) slot_str_getitem.lookup (getItem_str (c:=c) (by
  let e:decide (i < -(2^63:Int))=false:=decide_eq_false ∅;let f:decide (i>=2^63)=false:=decide_eq_false ∅
  rw[e,f,Bool.or_false]) (by rw[a];simpa using b) ⟨.str ⟨(List.toArray [c])⟩,H,I.tok _,⟨Y⟩,q⟩) d
def Hv(c:WP)(n j:Nat)(u:Value):Obj.mapSeq (·.setIfInBounds j u) { cls:=.type "list",data:=.seq c.toArray n }={ cls:=.type "list",data:=.seq (c.set j u).toArray n }:=by
 simp[Obj.mapSeq]
theorem Inv.lst{f:List (Addr × Obj)}{g:St}{H:Hp}{s:Shared}{p:Addr}{d:List V}(I:Inv X f g H s)(h:H p=⇑(.lst d)) :
  ∃ (c:WP) (n:Nat),cD d c/\s.heap.get? p=some { cls:=.type "list",data:=.seq c.toArray n }/\↑d<=sizeLine:=by
 let⟨z,c,n,r,e⟩:=I.hok p _ h;exact⟨c,n,r,e,z⟩
theorem Inv.VZ{h:St}{H:Hp}{s:Shared}{p:Addr}{k d:List V}{i c:WP}{n g:Nat}{f:Obj->Obj}(I:Inv X l h H s)(m:H p=⇑(.lst k))
  (q:s.heap.get? p=some { cls:=.type "list",data:=.seq i.toArray n }) (j:f { cls:=.type "list",data:=.seq i.toArray n }={ cls:=.type "list",data:=.seq c.toArray g }) (r:cD d c) (u:↑d<=sizeLine) (t:Nat) :
  Inv X l h (aO H p (.lst d)) { s with heap:=s.heap.update p f,toks:=t }:=by
 let e:(s.heap.update p f).get? p=some { cls:=.type "list",data:=.seq c.toArray g }:=by
  rw[Heap.get?_update_self f q (by rw[j] <;> rfl),j]
 refine I.write (x:=p) (e:=p) (by rw[m];trivial) (.inl rfl) (λb v a o=>(Heap.get?_update_other _ _ (Ne.symm a)).trans o) ⟨_,e⟩ ?_;exact⟨u,c,g,r,e⟩
inductive Zr(o i v:V)(H:Hp)(Q:Hp->Prop):Prop
 | mk (p:Addr) (c:List V) (k:Int) (j:Nat) (_:o=↥p) (_:i=.int k) (_:H p=⇑(.lst c)) (_:JN ↑c k=⇑j) (_:Q (aO H p (.lst (c.set j v))))
def jv:Y5 X Zr:=by
 intro i s l H o e v f g u Q I a b m h;let⟨p,n,k,j,rfl,rfl,d,c,q⟩:=h;cases a;let⟨t,rfl⟩:=b;let⟨e,w,r,b,x⟩:=I.lst d;let⟨a,h,f,g⟩:=JO c;let c:=↑r;let h:=sI;let h:Inv X i l (aO H p (.lst (n.set j v))) { s with heap:=s.heap.update p (Obj.mapSeq (·.setIfInBounds j u)) } := I.VZ d b (Hv e w j u) (r.set m j) (by rw[List.length_set];exact x) s.toks;by_cases i:0<=k
 ·let d:k.toNat=j:=by
   rw[seqIndex_of i g]at a;exact pW a
  exact PySem.W.ki_setAt b i ∅ (by rw[ie,← c];exact g) (by rw[d];exact⟨_,h,q⟩)
 ·let d:(k+(e.toArray.size:Int)).toNat=j:=by
   rw[seqIndex_neg ∅ f]at a;rw[ie,← c];exact pW a
  exact PySem.W.ki_setBack b ∅ (by rw[ie,← c];exact f) ∅ (by rw[d];exact⟨_,h,q⟩)
def CO(lo c:Option Int)(n:Nat):(sliceBounds lo c none n).1=((_HT.ja n 0 lo:Nat):Int)/\(sliceBounds lo c none n).2.1=((_HT.ja n n c:Nat):Int)/\(sliceBounds lo c none n).2.2=1:=by
 refine⟨?_,?_,1⟩
 ·cases lo with
  | none=>simp[sliceBounds,_HT.ja]
  | some i =>
   simp only[sliceBounds,_HT.ja,Option.getD_none,show (1:Int) > 0 by decide,if_true];by_cases h:i<0
   ·simp only[h,if_true] <;> lia
   ·simp only[h,if_false] <;> lia
 ·cases c with
  | none=>simp[sliceBounds,_HT.ja]
  | some i =>
   simp only[sliceBounds,_HT.ja,Option.getD_none,show (1:Int) > 0 by decide,if_true];by_cases h:i<0
   ·simp only[h,if_true] <;> lia
   ·simp only[h,if_false] <;> lia
def AF(c:WP)(lo d:Option Int):slicePick c.toArray lo d none=((c.drop (_HT.ja ↑c 0 lo)).take (_HT.ja ↑c ↑c d-_HT.ja ↑c 0 lo)).toArray:=by
 let⟨a,b,e⟩:=CO lo d c.toArray.size;unfold slicePick;rw[a,b,e]
 simp only[sliceRange_one,pick_run,ie] <;> rfl
inductive Zs(K:Frag)(x:V)(lo hi:Option Int)(H:Hp)(Q:VK):Prop
 | mk (a:Addr) (c:List V) (_:x=↥a) (_:bM K H a c) (_:∀ p,H p=none->Q ↥p (aO H p (.lst (j7 c lo hi)))):Zs K x lo hi H Q
def lE:fR X (Zs X.K):=by
 intro k s l H x v m n lo d o Q I e f g h i;let⟨a,c,rfl,j,q⟩:=i;cases e;let⟨k,r,e,i⟩:=I.list j;let j:=↑r;exists "list",_,slot_list_getitem.lookup,e.isList.typeIs
 refine wpAny_getItem_list_slice e.isList f g h .none (by simp) ?_ (by rw[ie] <;> lia)
 rw[AF,← j];refine⟨↥s.heap.objs.size,_,I.laid (t':=s.toks) (o:=.lst (j7 c lo d)) (λb e q=>Heap.get?_push_of_some _ q) (fk _) ?_,1,q _ (I.hok.fresh (fk _))⟩;exact⟨Nat.le_trans (wN c lo d) i,_,0,(r.drop (_HT.ja ↑c 0 lo)).take (_HT.ja ↑c ↑c d-_HT.ja ↑c 0 lo),Heap.get?_push_size _ rfl⟩
def tV:V->Bool
 | .fQ=>true
 | .bl _=>true
 | .int _=>true
 | .str _=>true
 | _=>false
def Uy:V->V->Bool
 | .fQ,.fQ=>true
 | .bl a,.bl b=>a == b
 | .bl a,.int b=>(if a then 1 else 0) == b
 | .int a,.bl b=>a == (if b then 1 else 0)
 | .int a,.int b=>a == b
 | .str a,.str b=>a == b
 | _,_=>false
def V0{A:Around}{s:Shared}{y x:V}{u v:Value}(f:RelV y u)(c:RelV x v)(h:tV y=true)(g:tV x=true):SeqAt.EqAt A s u v (Uy y x):=by
 cases y with
 | fQ =>
  cases f
  cases x with
  | fQ=>cases c;exact SeqAt.EqAt.same _
  | bl b=>cases c;exact SeqAt.EqAt.none_bool b
  | int b=>let⟨t,rfl⟩:=c;exact SeqAt.EqAt.none_int b t
  | str b=>let⟨t,rfl⟩:=c;exact SeqAt.EqAt.none_str b t
  | _=>exact absurd (show false=true from g) lV
 | bl a =>
  cases f
  cases x with
  | fQ=>cases c;exact SeqAt.EqAt.bool_none a
  | bl b=>cases c;exact SeqAt.EqAt.bool_bool a b
  | int b=>let⟨t,rfl⟩:=c;exact SeqAt.EqAt.bool_int a b t
  | str b=>let⟨t,rfl⟩:=c;exact SeqAt.EqAt.bool_str a b t
  | _=>exact absurd (show false=true from g) lV
 | int a =>
  let⟨d,rfl⟩:=f
  cases x with
  | fQ=>cases c;exact SeqAt.EqAt.int_none a d
  | bl b=>cases c;exact SeqAt.EqAt.int_bool a d b
  | int b=>let⟨t,rfl⟩:=c;exact SeqAt.EqAt.int_int a d b t
  | str b=>let⟨t,rfl⟩:=c;exact SeqAt.EqAt.int_str a d b t
  | _=>exact absurd (show false=true from g) lV
 | str a =>
  let⟨d,rfl⟩:=f
  cases x with
  | fQ=>cases c;exact SeqAt.EqAt.str_none a d
  | bl b=>cases c;exact SeqAt.EqAt.str_bool a d b
  | int b=>let⟨t,rfl⟩:=c;exact SeqAt.EqAt.str_int a d b t
  | str b=>let⟨t,rfl⟩:=c;exact SeqAt.EqAt.str_str a d b t
  | _=>exact absurd (show false=true from g) lV
 | _=>exact absurd (show false=true from h) lV
def Hw(x:V)(u:Value):Bool:=match u with
 | .none=>Uy .fQ x
 | .bool b=>Uy (.bl b) x
 | .int i _=>Uy (.int i) x
 | .str z _=>Uy (.str z) x
 | _=>false
def NB{x y:V}{u:Value}(r:RelV y u)(f:tV y=true):Hw x u=Uy y x:=by
 cases y with
 | fQ=>cases r;rfl
 | bl b=>cases r;rfl
 | int i=>let⟨t,rfl⟩:=r;rfl
 | str z=>let⟨t,rfl⟩:=r;rfl
 | _=>exact absurd (show false=true from f) lV
theorem tW{x:V}:∀ {c:List V} {d:WP},cD c d->c.all tV=true->d.any (Hw x)=c.any λy=>Uy y x
 | _,_,.nil,_=>rfl
 | y::c,u::d,.cons r t,f=>by
  rw[List.all_cons,Bool.and_eq_true]at f;rw[List.any_cons,List.any_cons,NB r f.1,tW t f.2]
theorem qd{A:Around}{s:Shared}{x:V}{v:Value}(g:RelV x v)(h:tV x=true):∀ {c:List V} {d:WP},cD c d->c.all tV=true->∀ u∈d,SeqAt.EqAt A s u v (Hw x u)
 | _,_,.nil,_=>λu a=>by cases a
 | y::c,u::d,.cons r t,f=>λb a=>by
  rw[List.all_cons,Bool.and_eq_true]at f;rcases List.mem_cons.mp a with rfl|a
  ·rw[NB r f.1];exact V0 r g f.1 h
  ·exact qd g h t f.2 b a
def eJ(x:V)(c:List V):Bool:=c.any λy=>Uy y x
inductive Wa(K:Frag)(xs:List V)(H:Hp)(Q:VK):Prop
 | mk (p:Addr) (c:List V) (_:xs=[↥p]) (_:bM K H p c\/dG K H p c) (_:Q (.int ↑c) H):Wa K xs H Q
inductive Zt(K:Frag)(xs:List V)(H:Hp)(Q:VK):Prop
 | mk (p:Addr) (c:List V) (_:xs=[↥p]) (_:bM K H p c\/dG K H p c) (_:∀ l,H l=none->Q ↥l (aO H l (.lst c)))
def eM(K:Frag)(c:Bool):R2:=λx y H Q=>∃ p a,y=↥p/\(bM K H p a\/dG K H p a)/\tV x=true/\a.all tV=true/\Q (.bl (if c then !eJ x a else eJ x a)) H
def vB:qY X (compareOp .In) (eM X.K false):=by
 intro d s e H x y v u Q I f b h;let⟨p,i,rfl,a,g,c,q⟩:=h;cases b;rcases a with a|a
 ·let⟨b,r,d,h⟩:=I.list a;refine SeqAt.in_listAt (Hw x) d.isList (λw e=>qd f g r c w (by simpa using e)) ⟨.bl _,H,I,1,?_⟩;rw[show b.toArray.any (Hw x)=b.any (Hw x) by simp,tW r c];exact q
 ·let⟨b,r,d,h⟩:=I.tuple a;refine SeqAt.in_tupleAt (Hw x) d (λw e=>qd f g r c w (by simpa using e)) ⟨.bl _,H,I,1,?_⟩;rw[show b.toArray.any (Hw x)=b.any (Hw x) by simp,tW r c];exact q
def tX:qY X (compareOp .NotIn) (eM X.K true):=by
 intro d s e H x y v u Q I f b h;let⟨p,i,rfl,a,g,c,q⟩:=h;cases b;rcases a with a|a
 ·let⟨b,r,d,h⟩:=I.list a;refine SeqAt.notIn_listAt (Hw x) d.isList (λw e=>qd f g r c w (by simpa using e)) ⟨.bl _,H,I,1,?_⟩;rw[show b.toArray.any (Hw x)=b.any (Hw x) by simp,tW r c];exact q
 ·let⟨b,r,d,h⟩:=I.tuple a;refine SeqAt.notIn_tupleAt (Hw x) d (λw e=>qd f g r c w (by simpa using e)) ⟨.bl _,H,I,1,?_⟩;rw[show b.toArray.any (Hw x)=b.any (Hw x) by simp,tW r c];exact q
def CP:jN X (.builtin "len") (Wa X.K):=by
 intro c s d H f g Q I r h;let⟨p,e,rfl,a,q⟩:=h;let⟨u,rfl,b⟩:=vals1 r;cases b;let b:=sI;rcases a with a|a
 ·let⟨f,b,c,g⟩:=I.list a;let d:=↑b
  exact Calls.call_len_list c.isList (by simp only[ie] <;> lia) ⟨.int ↑e,H,I.tok _,⟨s.toks+1,by rw[ie,d]⟩,q⟩
 ·let⟨f,b,c,g⟩:=I.tuple a;let d:=↑b
  exact len_tuple c (by simp only[ie] <;> lia) ⟨.int ↑e,H,I.tok _,⟨s.toks+1,by rw[ie,d]⟩,q⟩
def tY:jN X (.builtin "len") (λc H Q=>∃ z,c=[.str z]/\↑z<=sizeLine/\Q (.int ↑z) H):=by
 intro a s b H c d Q I r h;let⟨z,rfl,a,q⟩:=h;let⟨u,rfl,t,rfl⟩:=vals1 r;let a:=sI;exact len_str ∅ ⟨.int ↑z,H,I.tok _,⟨Y⟩,q⟩
def gm:jN X (.type "list") (Zt X.K):=by
 intro q s t H z A Q I r u;let⟨p,i,rfl,g,v⟩:=u;let⟨B,rfl,w⟩:=vals1 r;cases w
 let n:∀ (c:WP),cD i c->↑i<=sizeLine->∀ (a:Heap) (d:Nat),(∀ b f,s.heap.get? b=⇑f->a.get? b=⇑f)->
   a.get? s.heap.objs.size=some { cls:=.type "list",dict:=none,data:=.seq c.toArray d,slots:=#[] }->EP X q t Q ↥s.heap.objs.size { s with heap:=a }:=λc f h a d kp e =>
  ⟨↥s.heap.objs.size,_,I.laid (t':=s.toks) kp (fk _) (show gh X.prog X.w _ a _ (.lst i) from ⟨h,c,d,f,e⟩),1,v _ (I.hok.fresh (fk _))⟩
 rcases g with g|g
 ·let⟨c,f,j,h⟩:=I.list g;let x:=↑f;let⟨o,k,l,y,m⟩:=j.isList
  exact call_list_seq p (.inl rfl) k l m (λa d kp e=>n c f h a d kp e) (by simp only[ie] <;> lia)
 ·let⟨c,f,j,h⟩:=I.tuple g;let x:=↑f;let⟨o,k,l,y,m⟩:=j
  exact call_list_seq p (.inr rfl) k l m (λa d kp e=>n c f h a d kp e) (by simp only[ie] <;> lia)
def f'(K:Frag)(T:String)(x:V)(H:Hp):Prop:=match x with
 | .str _=>T="str"
 | .int _=>T="int"
 | .ref p=>(T="list"/\∃ a,bM K H p a)\/(T="tuple"/\∃ o,K.lookup p=⇑o/\o.cls=.type "tuple"/\o.dict=none)\/
   (T="dict"/\((∃ a,H p=⇑(.dK a))\/∃ a,H p=⇑(.dT a)))\/(T="set"/\∃ S n,H p=⇑(.set S n))
 | _=>False
theorem NC{i:St}{H:Hp}{s:Shared}{T:String}{x:V}{v:Value}(I:Inv X l i H s)(r:RelV x v)(d:f' X.K T x H) :
  s.TypeIs v T/\∀ a,v=↥a->∃ h,s.heap.get? a=⇑h/\h.dict=none:=by
 cases x with
 | str z =>
  let⟨t,rfl⟩:=r;cases (show T="str" from d);exact⟨typeIs_str s z t,λ_ e=>nomatch e⟩
 | int b =>
  let⟨t,rfl⟩:=r;cases (show T="int" from d);exact⟨typeIs_int s b t,λ_ e=>nomatch e⟩
 | ref p =>
  cases r;rcases d with ⟨rfl,m,j⟩|⟨rfl,o,b,k,f⟩|⟨rfl,b⟩|⟨rfl,S,n,b⟩
  ·let⟨g,_,c,_⟩:=I.list j;refine⟨c.isList.typeIs,λa e=>?_⟩;cases e;let⟨o,n,e,g,f,_⟩:=c;exact⟨o,e,f⟩
  ·refine⟨⟨o,I.wJ p o b,k⟩,λa e=>?_⟩;cases e;exact⟨o,I.wJ _ o b,f⟩
  ·let z:∃ o,s.heap.get? p=⇑o/\o.ExactDict:=by
    rcases b with ⟨f,b⟩|⟨f,b⟩
    ·let⟨_,_,_,_,o,_,_,e,c,_⟩:=I.hok p _ b;exact⟨o,e,c⟩
    ·let⟨_,_,_,_,o,_,_,e,c,_⟩:=I.hok p _ b;exact⟨o,e,c⟩
   let⟨o,e,c⟩:=z;refine⟨⟨o,e,c.1⟩,λa g=>?_⟩;cases g;exact⟨o,e,c.2.1⟩
  ·let⟨o,_,_,_,e,c,_⟩:=I.hok p _ b;refine⟨⟨o,e,c.1⟩,λa g=>?_⟩;cases g;exact⟨o,e,c.2.1⟩
 | _=>exact False.elim d
def oI(K:Frag)(T:String)(r:V->List V->Hp->VK->Prop)(to:TE):TE:=fun a H Q=>to a H λx a=>f' K T x a/\r x [] a Q
def oL(K:Frag)(T:String)(r:V->List V->Hp->VK->Prop)(to:TE)(t:TA):TE:=fun a H Q=>to a H λx b=>f' K T x b/\t a b λa b=>r x a b Q
variable {o e:Expr} {es:List Expr} {to:TE} {t:TA} {name:Str} {jT nM:Pos} {T id:String} {r:V->List V->Hp->VK->Prop}
theorem ND(f:PlainAttrs T)(g:Slot T name id)(h:typeOf (.builtin id)=pure (.type "method_descriptor"))(i:hE X id r)(j:PE X o to)
  (k:attributeBase o name X.env (eval o X.env)=eval o X.env:=by rfl) (l:(jT.endLine == nM.line)=true:=by rfl):PE X (.Call (.Attribute o name jT) [] [] nM) (oI X.K T r to):=by
 intro a s b H Q I e;refine wpAny_Call_method0_late k l (dF (j a s b H _ I e) λv m e=>?_);let⟨x,n,c,d,p,q⟩:=e;let⟨e,t⟩:=NC c d p;exact⟨T,id,f,g,h,e,t,Calls.callWith_builtin rfl (PySem.evalArgs_none (i a m b n x [] v [] Q c d .nil q))⟩
theorem dM(g:PlainAttrs T)(h:Slot T name id)(i:typeOf (.builtin id)=pure (.type "method_descriptor"))(j:hE X id r)(k:PE X o to)(l:PA X (e::es) t)
  (m:attributeBase o name X.env (eval o X.env)=eval o X.env:=by rfl)
  (n:((backTo nM (starEach (e::es) X.env)).all (λx=>!x.1)&&(backToKw nM (keywordEach [] X.env)).all (λx=>x.1.isSome)
   && decide (↑(e::es)+↑([]:List Keyword)+(if ([]:List Keyword).isEmpty then 0 else 1)<30))=true:=by rfl)
  (p:(jT.endLine == nM.line)=true:=by rfl) (q:starEach (e::es) X.env=(false,eval e X.env)::starEach es X.env:=by rfl) (u:(backTo nM (starEach es X.env)).any (·.1)=false:=by rfl) :
  PE X (.Call (.Attribute o name jT) (e::es) [] nM) (oL X.K T r to t):=by
 intro a s b H Q I c;refine wpAny_Call_method_late m n p rfl (dF (k a s b H _ I c) λv w y=>?_);let⟨x,z,c,d,A,B⟩:=y;let⟨y,C⟩:=NC c d A;exists T,id,g,h,i,y,C;let f:=l nM a w b z _ c B;rw[q]at f ⊢
 refine Calls.callWith_builtin (by show (false || (backTo nM (starEach es X.env)).any (·.1))=false;rw[u] <;> rfl) (Calls.evalArgs_plain ?_)
 exact dF f λc f ⟨w,y,z,A,B⟩=>j a f b y x w v c Q z d A B
end
end _L2
namespace _L2
open Spec Rows
def Yn(a:Cx)(f:String)(r:V->List V->Hp->VK->Prop):Prop :=
 ∀ (b:List (Addr × Obj)) (s:Shared) (c:St) (H:Hp) (x:V) (d:List V) (v:Value) (e:WP) (Q:VK),Inv a b c H s->RelV x v->cD d e->r x d H Q->
  wpAny (model a.prog a.w) a.A (call (.builtin f) (v::e)) (EP a b c Q) a.xe s
def cD.one{x:V}{a:WP}(h:cD [x] a):∃ u,a=[u]/\RelV x u:=by
 cases h with
 | cons r t=>cases t;exact⟨Y,r⟩
def cD.two{x y:V}{a:WP}(h:cD [x,y] a):∃ u v,a=[u,v]/\RelV x u/\RelV y v:=by
 cases h with
 | cons r t =>
  let⟨_,rfl,q⟩:=cD.one t;exact⟨P,1,r,q⟩
theorem cD.zero:∀ {a:WP},cD [] a->a=[]
 | _,.nil=>rfl
def cD.dropLast{a:List V}{b:WP}(h:cD a b):cD a.dropLast b.dropLast:=by
 induction h with
 | nil=>exact .nil
 | cons r t c =>
  cases t with
  | nil=>exact .nil
  | cons q d=>exact .cons r c
theorem cD.eraseIdx:∀ {a:List V} {b:WP} (i:Nat),cD a b->cD (a.eraseIdx i) (b.eraseIdx i)
 | _,_,_,.nil=>.nil
 | _,_,0,.cons _ t=>t
 | _,_,i+1,.cons r t=>.cons r (cD.eraseIdx i t)
theorem cD.rep{a:List V}{b:WP}(h:cD a b):∀ k:Nat,cD (List.replicate k a).flatten (List.replicate k b).flatten
 | 0=>.nil
 | k+1=>by
  rw[List.replicate_succ,List.replicate_succ,List.flatten_cons,List.flatten_cons];exact cD.append h (cD.rep h k)
def Hx{c:Type}(l:List c):l.eraseIdx (↑l-1)=l.dropLast:=by
 induction l with
 | nil=>rfl
 | cons a r d =>
  cases r with
  | nil=>rfl
  | cons b r =>
   let e:↑(a::b::r)-1=(↑(b::r)-1)+1:=by
    let f:↑(a::b::r)=↑r+2:=rfl;let f:↑(b::r)=↑r+1:=rfl;lia
   rw[e,List.eraseIdx_cons_succ,d]
   all_goals rfl
theorem Bu{a:Type}:∀ (l:List a) (i:Nat),↑(l.eraseIdx i)<=↑l
 | [],_=>fk _
 | _::_,0=>Nat.le_succ _
 | _::r,i+1=>Nat.succ_le_succ (Bu r i)
theorem foldl_rep(a:WP):∀ (k:Nat) (b:WP),
  List.foldl (λc d=>c++d) b.toArray (List.replicate k a.toArray)=(b++(List.replicate k a).flatten).toArray
 | 0,b=>by simp
 | k+1,b=>by
  let e:b.toArray++a.toArray=(b++a).toArray:=by simp
  let f:(b++a)++(List.replicate k a).flatten=b++(List.replicate (k+1) a).flatten:=by
   rw[List.replicate_succ,List.flatten_cons,jI]
  rw[← f,← foldl_rep a k (b++a),← e,List.replicate_succ,jJ]
section
variable {X:Cx} {ay:List (Addr × Obj)} {σ:St} {H:Hp} {s:Shared} {l b:Addr} {xs ys zs:List V}
theorem Inv.NH{c a:WP}{n:Nat}{f:Array Value->Xt}{d:Nat}(I:Inv X ay σ H s)(e:H l=⇑(.lst xs))
  (g:s.heap.get? l=some { cls:=.type "list",data:=.seq c.toArray n }) (h:f c.toArray=a.toArray) (i:cD ys a) (j:↑ys<=sizeLine) :
  Inv X ay σ (aO H l (.lst ys)) { s with heap:=s.heap.update l (Obj.mapSeq f),toks:=d }:=by
 let q:=PySem.IsL.update g f;rw[h]at q;refine I.write (x:=l) (e:=l) (by rw[e];exact trivial) (.inl rfl) (λm u b k=>(Heap.get?_update_other s.heap (Obj.mapSeq f) (Ne.symm b)).trans k) ⟨_,q⟩ ?_;exact⟨j,a,_,i,q⟩
theorem Inv.Rl{a:WP}{c:Nat}(I:Inv X ay σ H s)(d:cD ys a)(e:↑ys<=sizeLine) :
  Inv X ay σ (aO H s.heap.objs.size (.lst ys)) { s with heap:=s.heap.push { cls:=.type "list",data:=.seq a.toArray },toks:=c } :=
 I.laid (λ_ _ q=>Heap.get?_push_of_some _ q) (fk _) ⟨e,a,0,d,Heap.get?_push_size _ rfl⟩
theorem Inv.fresh(I:Inv X ay σ H s):H s.heap.objs.size=none:=I.hok.fresh (fk _)
def Inv.vC(I:Inv X ay σ H s)(c:H l=⇑(.lst xs)):↑xs<=sizeLine/\∃ (a:WP) (n:Nat),cD xs a/\↑xs=↑a/\s.heap.get? l=some { cls:=.type "list",data:=.seq a.toArray n }:=by
 let⟨z,a,n,r,e⟩:=I.hok l _ c;exact⟨z,a,n,r,↑r,e⟩
def yE{n:Nat}(h:n<=sizeLine):Builtin.List.listTooLong n=false:=by
 unfold Builtin.List.listTooLong;exact decide_eq_false ∅
end
section
variable {X:Cx}
inductive Rm(x:V)(vs:List V)(H:Hp)(Q:VK):Prop
 | mk (l:Addr) (a:List V) (y:V) (_:x=↥l) (_:vs=[y]) (_:H l=⇑(.lst a)) (_:↑a<sizeLine) (_:Q .fQ (aO H l (.lst (a++[y]))))
def bU:Yn X "list.append" Rm:=by
 intro d s e H x f v g Q I b c h;let⟨l,i,y,rfl,rfl,a,d,q⟩:=h;cases b;let⟨u,rfl,d⟩:=c.one;let⟨z,b,n,r,c,e⟩:=I.vC a;refine call_meets F.slot_list_append ⟨_,e,1⟩ F.entry_list_append (F.args_list_append_2 _ _) (PySem.list_append l b.toArray n u (by rw[ie];lia)) ⟨e,?_⟩;refine⟨.fQ,_,I.NH (a:=b++[u]) a e (by simp) (r.append (.cons d .nil)) ?_,1,q⟩;rw[dm,gW];lia
inductive Rn(x:V)(vs:List V)(H:Hp)(Q:VK):Prop
 | mk (l b:Addr) (a c:List V) (_:x=↥l) (_:vs=[↥b]) (_:H l=⇑(.lst a)) (_:H b=⇑(.lst c)) (_:↑a+↑c<=sizeLine) (_:Q .fQ (aO H l (.lst (a++c))))
def jU:Yn X "list.extend" Rn:=by
 intro g s i H x j v k Q I a b h;let⟨l,d,m,n,rfl,rfl,c,f,g,q⟩:=h;cases a;let⟨u,rfl,e⟩:=b.one;cases e;let⟨z,a,n,r,b,e⟩:=I.vC c;let⟨j,b,g,h,k,i⟩:=I.vC f;let f:a.toArray.size+b.toArray.size<=sizeLine:=by rw[ie,ie];lia
 let j:¬ (!a.toArray.isEmpty&&Builtin.List.listTooLong (a.toArray.size+b.toArray.size))=true:=by
  rw[yE f,Bool.and_false];exact lV
 refine call_meets F.slot_list_extend ⟨_,e,1⟩ F.entry_list_extend (F.args_list_extend_2 _ _) (AutoSeq1.list_extend_list_list_0 l a.toArray n d b.toArray g j (by rw[ie];lia) ∅) ⟨e,i,?_⟩;refine⟨.fQ,_,I.NH (a:=a++b) c e (by simp) (r.append h) ?_,1,q⟩;rw[dm];lia
def oP:V->List V->Hp->VK->Prop:=λx b H Q=>∃ l a y,x=↥l/\b=[]/\H l=⇑(.lst a)/\a[↑a-1]?=⇑y/\Q y (aO H l (.lst a.dropLast))
def NI:Yn X "list.pop" oP:=by
 intro f s g H x i v j Q I a c h;let⟨l,k,y,rfl,rfl,b,d,q⟩:=h;cases a;let e:=c.zero;subst e;let⟨z,a,n,r,c,e⟩:=I.vC b;let⟨u,f,g⟩:=r.get d
 let d:a.toArray[a.toArray.size-1]?=⇑u:=by
  show a.toArray[↑a-1]?=⇑u;rw[← Array.getElem?_toList,← c];exact f
 refine call_meets F.slot_list_pop ⟨_,e,1⟩ F.entry_list_pop (F.args_list_pop_1 _) (MeetsSeq.list_pop_last l a.toArray n u d (by rw[ie];lia)) ⟨e,?_⟩;refine⟨y,_,I.NH (a:=a.dropLast) b e ?_ r.dropLast ?_,g,q⟩
 ·show a.toArray.eraseIdxIfInBounds (a.toArray.size-1)=a.dropLast.toArray;rw[ie,List.eraseIdxIfInBounds_toArray,Hx]
 ·rw[List.length_dropLast];lia
def Wc:V->List V->Hp->VK->Prop:=λx b H Q=>∃ l a i k y,x=↥l/\b=[.int i]/\H l=⇑(.lst a)/\-(2^63)<=i/\i<2^63/\seqIndex? i ↑a=⇑k/\a[k]?=⇑y/\Q y (aO H l (.lst (a.eraseIdx k)))
def NJ:Yn X "list.pop" Wc:=by
 intro n s o H x p v r Q I a c h;let⟨l,d,i,k,y,rfl,rfl,b,f,g,j,m,q⟩:=h;cases a;let⟨u,rfl,e⟩:=c.one;let⟨t,rfl⟩:=e;let⟨z,a,n,r,c,e⟩:=I.vC b;let⟨w,h,o⟩:=r.get m;refine call_meets F.slot_list_pop ⟨_,e,1⟩ F.entry_list_pop (F.args_list_pop_2 _ _) (MeetsSeq.list_pop_at l a.toArray n i t k w (fitsIndex_both f g) (by rw[ie,← c];exact j) (by rw[← Array.getElem?_toList];exact h) (by rw[ie];lia)) ⟨e,?_⟩;refine⟨y,_,I.NH (a:=a.eraseIdx k) b e ?_ (r.eraseIdx k) ?_,o,q⟩
 ·show a.toArray.eraseIdxIfInBounds k=(a.eraseIdx k).toArray;rw[List.eraseIdxIfInBounds_toArray]
 ·have:=Bu d k;lia
inductive Zu(x y:V)(H:Hp)(Q:VK):Prop
 | mk (l b:Addr) (a c:List V) (_:x=↥l) (_:y=↥b) (_:H l=⇑(.lst a)) (_:H b=⇑(.lst c)) (_:↑a+↑c<=sizeLine) (_:∀ p,H p=none->Q ↥p (aO H p (.lst (a++c))))
def iV:qY X (binaryOp .Add) Zu:=by
 intro e s f H x y v u Q I a b h;let⟨l,g,i,j,rfl,rfl,c,d,e,q⟩:=h;cases a;cases b;let⟨z,a,n,r,b,e⟩:=I.vC c;let⟨g,b,h,c,i,f⟩:=I.vC d;refine PySem.P.add_list e f ?_ (by rw[ie,ie];lia);let d:a.toArray++b.toArray=(a++b).toArray:=by simp
 rw[d];exact⟨↥_,_,I.Rl (c:=s.toks) (r.append c) (by rw[dm];lia),1,q _ I.fresh⟩
def Zv:R2:=λx y H Q=>∃ l k a,x=↥l/\y=.int k/\H l=⇑(.lst a)/\-(2^63)<=k/\k<2^63/\↑a*k.toNat<=sizeLine/\
 ∀ p,H p=none->Q ↥p (aO H p (.lst (List.replicate k.toNat a).flatten))
def Rp{b:Type}(a:List b)(k:Nat):(List.replicate k a).flatten.length=k*↑a:=by
 induction k with
 | zero=>simp
 | succ k c=>rw[List.replicate_succ,List.flatten_cons,dm,c,Nat.succ_mul,Nat.add_comm]
def NK:qY X (binaryOp .Mult) Zv:=by
 intro m s w H x y z A Q I c d h;let⟨l,k,B,rfl,rfl,g,i,j,f,q⟩:=h;cases c;let⟨t,rfl⟩:=d;let⟨z,b,n,r,c,e⟩:=I.vC g;let d:b.toArray.size*k.toNat<=sizeLine:=by rw[ie,← c];exact f
 let o:¬ b.toArray.size*k.toNat > (2^63-1) / 8:=by
  have:(sizeLine:Nat)<=(2^63-1) / 8:=by decide
  lia
 let p:¬ (!Builtin.List.listFitsIndex k)=true:=by
  rw[fitsIndex_both i j];exact lV
 let u:¬ Builtin.List.listTooLong (b.toArray.size*k.toNat)=true:=by
  rw[yE d];exact lV
 let v:List.foldl (λc d=>c++d) #[] (List.replicate (if b.toArray.isEmpty=true then 0 else k.toNat) b.toArray)=(List.replicate k.toNat b).flatten.toArray:=by
  let g:∀ m:Nat,List.foldl (λc d=>c++d) #[] (List.replicate m b.toArray)=(List.replicate m b).flatten.toArray:=λm=>by
   have:=foldl_rep b m [];rw[List.nil_append]at this;exact this
  rw[g]
  cases b with
  | nil=>simp
  | cons a c=>rw[if_neg (by simp)]
 refine wpAny_binaryOp_repeat_ref (T:="list") (U:="int") (by decide) ⟨_,e,1⟩ (λc=>typeIs_int c k t) noFill_list_mul F.fills_int_mul F.slot_int_rmul repeat_list F.slot_int_index.lookup (call_meets F.slot_int_rmul (typeIs_int s k t) F.entry_int_rmul (F.args_int_rmul_2 _ _) (int___rmul___int_list k t l b.toArray n) ⟨e,1,⟨_,e,1⟩,call_meets F.slot_list_mul ⟨_,e,1⟩ F.entry_list_mul (F.args_list_mul_2 _ _) (AutoListH.list___mul___list_int_3 l b.toArray n k t p o u) ⟨e,?_⟩⟩);rw[v];exact⟨↥_,_,I.Rl (c:=s.toks) (r.rep k.toNat) (by rw[Rp,Nat.mul_comm];exact f),1,q _ I.fresh⟩
end
end _L2
namespace _hF
open PySem.W Calls Rows
def xH{P:Params}{h:Heap}:∀ (c:Wp) (d:WP),WellAll P h d (c.map WData.int)->IntsAre d c:=by
 intro c
 induction c with
 | nil =>
  intro d w;rw[List.map_nil]at w;cases w;exact .nil
 | cons n c e =>
  intro d w;rw[jq]at w
  cases w with
  | cons a b =>
   cases a;exact .cons _ _ (e _ b)
theorem Li{l:OpenLaw}{n:Nat}(j:l.most=⇑n){P:Params}{h:Heap}{args:List WData}{d:WP}
  (e:l.row.toRowW.claim.pre args=true) (k:WellAll P h d args) :
  ∃ f g a,d=[Value.ref f]/\args=[WData.list (a.map WData.int)]/\h.get? f=some { cls:=.type "list",data:=.seq g.toArray }/\IntsAre g a/\↑a<=n:=by
 let b:WShape.hasAll [] args [.list .int]=true:=(pre_splitW e).1;let i:l.pre.holds [] { args:=args }=true:=(pre_splitW e).2;let⟨s,t,rfl,m,o⟩:=hasAllW_cons b;obtain rfl:=hasAllW_nil o;let⟨u,rfl,p⟩:=hasW_list m;let⟨a,rfl⟩:=items_int p
 let q:↑a<=n:=by
  unfold OpenLaw.pre at i
  let b:(WTm.not (.lt (.lit (.int (n:Int))) (.len (.arg 0)))).holds [] { args:=[.list (a.map .int)] }=true:=by
   let b:=(holds_andW i).1;rw[j]at b;exact b
  let c:=condW_of b (w_not (w_lt w_lit (w_len_list (w_arg rfl))));rw[cC]at c;refine Nat.le_of_not_lt λb=>?_;have b:(n:Int)<((↑a:Nat):Int):=by lia
  first
   | (rw[decide_eq_true b]at c;exact absurd c (by decide))
   | (simp at c;lia)
 cases k with
 | cons c r =>
  cases r
  cases c with
  | list ho b=>exact⟨P,a,V,ho,xH a _ b,q⟩
theorem Lj(l:OpenLaw)(args:List WData):l.row.toRowW.claim.post args (.bool true) args=true :=
 postW_of (r:=l.row.toRowW) (X:=(true == true))
  (show WShape.has [] (.bool true) .bool=true by first|rfl|decide|simp[WShape.has,WShape.arms,WShape.armsAll])
  (show (WTm.eq .res (.lit (.bool true))).value [] { args:=args,res:=⇑(.bool true),after:=args }=⇑(.bool (true == true)) from w_eq_bool (w_res rfl) w_lit) rfl
theorem EJ{l:OpenLaw}{p:Nat}{q:Program}{r:UV}{t:(Ya)->Heap->Prop}{u:World->Heap->Prop}{d:DefRec}
  (x:l.most=⇑p) (y:d.params.defaults=[])
  (z:∀ (w:World) (j a:Shared) (e k:Ya) (c:Addr) (o:Obj) (m f n:Value) (g:Addr) (b:WP) (h:Wp),
   Ground q r [] t w j e k a.heap->u w a.heap->
   a.heap.get? c=⇑o->o.data=.func (docDef d.name d.params d.body d.scope m f n)->a.heap.CodeRec f d.name->e d.name=⇑↥c->
   a.heap.get? g=some { cls:=.type "list",data:=.seq b.toArray }->IntsAre b h->↑h<=p->a.gens=#[]->
   codeAny (model l.prog w) callerA (.call ↥c ⟨[↥g],[]⟩) (λv i=>v=.ok (.ret (.bool true))/\OldK a.heap i.heap/\i.os=a.os/\AllBare i.gens) a) :
  WalkO q r t u l.row.toRowW d [] (λA b=>PySem.call A b):=by
 intro w j a e k G Y c o m f n B kV C D F s H I args M T J U W L X;obtain rfl:B=.none:=Dflts.none s y;obtain rfl:kV=.none:=Dflts.noKw s;let⟨g,b,h,rfl,rfl,s,B,M⟩:=Li x J L;refine enter_call (codeAny_mono (z w j a e k c o m f n g b h G Y C (fd_plain D) F H s B M I) λv i N=>?_);let⟨rfl,O,R,S⟩:=N;exact⟨.inl ⟨.bool true,.bool true,[],1,λ_=>rfl,.bool true,Lj l _,λ_=>⟨List.Pairwise.nil,λ_ s=>(nomatch s)⟩⟩,O,R,S⟩
end _hF
namespace _L2
open Spec Rows
theorem Bw:∀ {a:WP} {ns:Wp},IntsAre a ns->cD (ns.map V.int) a
 | _,_,.nil=>.nil
 | _,_,.cons n t h=>.cons ⟨t,1⟩ (Bw h)
def Wg(H:Hp):Prop:=∀ b,H b=none\/∃ o a,H b=⇑(.Jv o (.lst a))
theorem NO{P:Program}{w:World}{K:Frag}{h v:Ya}{C:Ld}{D:Nat}{y c:Addr}{G:FuncData}{x:Str}{I:Sp}{a:Shared}{g:WP}{i:Wp}
  (J:K.In a.heap) (L:a.heap.Ns mainGlobals h) (d:a.heap.Ns builtinsNs v) (ab:∀ x:Str,x≠"__name__"->v x=bootBuiltins x) (ae:a.heap.NoLimit) (hg:a.gens=#[])
  (n:a.heap.get? c=some { cls:=.type "list",data:=.seq g.toArray }) (M:IntsAre g i) (N:↑i<=sizeLine) (hr:iK D callerA)
  (ag:∀ A:Heap,K.In A->A.Ns mainGlobals h->bg P w K h A C D y G [x] I) (Zy:∀ (s:Shared) (u:Value),BindsTo s G ⟨[u],[]⟩ [(x,u)])
  (Lh:∀ H:Hp,Wg H->bM K H c (i.map V.int)->I [↥c] H (λB _=>B=.bl true) λ_ _ _=>False)
  (ai:∀ H e f,C [] H a (λ_ _ _=>False) e f->False) :
  codeAny (model P w) callerA (.call ↥y ⟨[↥c],[]⟩) (λr f=>r=.ok (.ret (.bool true))/\OldK a.heap f.heap/\f.os=a.os/\AllBare f.gens) a:=by
 let F:=Bw M;let ak:=↑M
 let O:∀ H:Hp,Wg H->bM K H c (i.map V.int)->tQ P w H a.heap->(∀ b,H b≠none->b=c)->(H c≠none->K.lookup c=none)->
   codeAny (model P w) callerA (.call ↥y ⟨[↥c],[]⟩) (λr f=>r=.ok (.ret (.bool true))/\OldK a.heap f.heap/\f.os=a.os/\AllBare f.gens) a:=by
  intro H R hS S T hK;let U:∀ {b:Addr} {o:Obj},a.heap.get? b=⇑o->H b=none->(CG a.heap H).get? b=⇑o:=λe am=>Na e am
  let Zk:∀ {b:Addr} {o:Obj} {j:Array DictEntry} {k:Nat},a.heap.get? b=⇑o->o.data=.dict j k->H b=none:=λ{b o j k} e p=>by
   cases q:H b with
   | none=>rfl
   | some u =>
    let l:b=c:=T b (by rw[q];simp);subst l;rw[n]at e;cases e;let t:Data.seq g.toArray _=Data.dict j k:=p;cases t
  let t:∀ {b:Addr} {m:Ya},a.heap.Ns b m->(CG a.heap H).Ns b m:=λ{b m} ⟨o,j,k,e,p,r⟩=>⟨o,j,k,U e (Zk e p),p,r⟩
  let W:K.In (CG a.heap H):=λb o e=>U (J b o e) (by
   cases q:H b with
   | none=>rfl
   | some u =>
    let l:b=c:=T b (by rw[q];simp);subst l
    rw[hK (by rw[q];simp)]at e;cases e)
  let j:Mod K h (CG a.heap H):=⟨W,t L,⟨v,t d,ab⟩,let ⟨k,p,T⟩:=ae;⟨k,t p,T⟩⟩;let e0:Hs P w K h (CG a.heap H) callerA [] a H:=⟨1,j,λb o e=>Q0 e,Nat.le_of_eq (KR _ _),trivial,λb d=>absurd (show b∈([]:WF) from d) (by simp),S,.of_eq hg⟩;refine codeAny_mono ((ag _ W (t L)).run callerA [] a H ⟨[↥c],[]⟩ [↥c] [↥c] _ _ hr e0 (Zy a ↥c) (.cons rfl .nil) (Lh H R hS)) λr f l=>?_
  cases r with
  | error e=>exact (ai H e f l).elim
  | ok fl =>
   cases fl with
   | next=>exact False.elim l
   | brk=>exact False.elim l
   | cont=>exact False.elim l
   | ret u =>
    let⟨B,j,os,an,X,ap,r',q⟩:=l;let q':B=.bl true:=q;subst q';obtain rfl:u=Value.bool true:=r';refine⟨1,OldK.of_keep λb o e=>?_,os,an⟩
    cases q:H b with
    | none=>exact X.keep b o e q (by intro z;exact absurd (show b∈([]:WF) from z) (by simp)) (by simp)
    | some u =>
     rcases R b with z|⟨ob,j,z⟩
     ·rw[q]at z;cases z
     ·let j:=X.CF b ob _ z;let⟨e1,_⟩:=S b _ z;let⟨e2,_⟩:=ap b _ j;rw[e]at e1;cases e1;exact e2
 cases k:K.lookup c with
 | some o =>
  let e:=J c o k;rw[n]at e;cases e;refine O (λ_=>none) (λ_=>.inl rfl) (.inr ⟨_,g.toArray,_,k,V,1,by rw[ie,ak];exact N,by simpa using F⟩) (λb u z=>by let j:(none:Option HO)=⇑u:=z;cases j) (λb z=>absurd rfl z) λz=>absurd rfl z
 | none =>
  refine O (λb=>if b=c then some (.Jv { cls:=.type "list",data:=.seq g.toArray } (.lst (i.map V.int))) else none) (λb=>?_) (.inl (.inr ⟨{ cls:=.type "list",data:=.seq g.toArray },if_pos rfl⟩)) (λb u z=>?_) (λb z=>?_) λ_=>k
  ·by_cases d:b=c
   ·exact .inr ⟨P,if_pos d⟩
   ·exact .inl (if_neg d)
  ·by_cases d:b=c
   ·let j:=(if_pos d).symm.trans z;cases j;subst d;exact⟨n,by rw[cC];exact N,g,_,F,n⟩
   ·let j:=(if_neg d).symm.trans z;cases j
  ·by_cases d:b=c
   ·exact d
   ·exact absurd (if_neg d) z
end _L2
namespace _L2
open Spec Rows
theorem Ru{l:PySem.W.OpenLaw}{n k:Nat}{v:Program}{y:UV}{z:(Ya)->Heap->Prop}{m:World->Heap->Prop}{e:DefRec}{K:Params->Frag}{o:World->Ld}{p:World->Sp}{x:Str}
  (A:l.most=⇑n) (B:n<=sizeLine) (C:e.params.defaults=[]) (D:iK k callerA)
  (I:∀ (w:World) (h:Heap),m w h->(K w.params).In h)
  (J:∀ (w:World) (a:Ya) (b:Addr) (h:Heap),(K w.params).In h->h.Ns mainGlobals a->a e.name=⇑↥b->
   ∃ f:FuncData,(∀ (s:Shared) (u:Value),BindsTo s f ⟨[u],[]⟩ [(x,u)])/\
    ∀ g:Heap,(K w.params).In g->g.Ns mainGlobals a->bg l.prog w (K w.params) a g (o w) k b f [x] (p w))
  (L:∀ (w:World) (H:Hp) (c:Addr) (d:Wp),↑d<=n->Wg H->bM (K w.params) H c (d.map V.int)->p w [↥c] H (λM _=>M=.bl true) λ_ _ _=>False)
  (N:∀ (w:World) (H:Hp) (s:Shared) (i:Value) (j:Shared),o w [] H s (λ_ _ _=>False) i j->False) :
  PySem.W.WalkO v y z m l.row.toRowW e [] (λO q=>PySem.call O q):=by
 refine _hF.EJ A C λw t F a W b X pm cd wM c q d G Y ho hd Nd R S T r U=>?_;have t:=I w _ Y;let⟨f,W,X⟩:=J w a b _ t G.T.g R;exact NO t G.T.g G.T.b G.T.builtins G.T.nolimit U S T (ig r B) D X W (λH t G=>L w H c d r t G) λH i j=>N w H F i j
end _L2
namespace _L2
open Spec Rows
def mZ(s:Stmt):Arguments:=match s with
 | .FunctionDef _ a _ _ _ _ _ _ _ _=>a
 | _=>{ posonlyargs:=[],args:=[],vararg:=none,kwonlyargs:=[],kw_defaults:=[],kwarg:=none,defaults:=[] }
def jw(s:Stmt):List Stmt:=match s with
 | .FunctionDef _ _ b _ _ _ _ _ _ _=>b
 | _=>[]
def b8(s:Stmt):Scope:=match s with
 | .FunctionDef _ _ _ _ _ _ a _ _ _=>a
 | _=>{ kind:=.function,names:=[],isGenerator:=false,isCoroutine:=false }
abbrev cO:Ld:=λ_ _ _ _ _ _=>False
abbrev E0:XK:=λ_ _ _=>False
theorem bL{a:Cx}:nk cO a E0:=λ_ _ _ _ _ _ _ h=>h.elim
structure Rv(K:Frag)(x fj:Str)(st:Stmt)(f:Addr)(fd:FuncData):Prop where
 ex:∃ (oc:Value) (od:Option Addr) (kV wM pm:Value) (an:Option Addr) (cZ ct:Value) (MQ:Array (XB)),
  fd=fnOf x fj (mZ st) (jw st) (b8 st) .none kV wM pm an cZ ct/\K.lookup f=some ⟨oc,od,.func fd,MQ⟩/\codeIn K cZ fj=true
 kp:keepIn K ↥f=true
section
variable {P:Program} {w:World} {K:Frag} {mg:Ya} {zt:Heap}
theorem Rv.ok{x d:Str}{b:Stmt}{f:Addr}{N e:UV}{k:Nat}{g:Sp}(i:Rv K x d b f j)(l:qH N e (b8 b))(m:∀ a H Q E,g a H Q E->↑a=↑e)
  (n:∀ (c:Value) (A:Around) (h:List Env) (s:Shared) (H:Hp) (a:List V) (Q:VK) (E:XK),iK k (A.deeper (envOfC d (b8 b) s.heap.objs.size f c))->g a H Q E->
   ∃ t,Jz (CM cO P w K mg zt N d (b8 b) f c A h s H E).JA (jw b) t/\t { nx:=λ_ o=>Q .fQ o,rt:=Q } (start N a) H):bg P w K mg zt cO (k+1) f j e g:=by
 let⟨q,r,kV,u,v,y,c,z,B,rfl,lk,p⟩:=i.ex;refine Zl lk p l m λA h s H a Q E p q=>?_;let⟨t,r,u⟩:=n c A h s H a Q E p q;exact⟨t,r.JA,u⟩
theorem Rv.binds{x i:Str}{a:Stmt}{j:Addr}{b:UV}(k:Rv K x i a j l)
  (m:∀ (kV c d:Value) (e:Option Addr) (f g:Value) (h:WP),↑h=↑b->bindArgs (fnOf x i (mZ a) (jw a) (b8 a) .none kV c d e f g) ⟨h,[]⟩=pure (b.zip h)):Binds K l b []:=by
 let⟨n,o,kV,c,d,e,f,g,p,rfl,lk,q⟩:=k.ex;exact .all (m kV c d e f g)
theorem Hy{x b:Str}{a:Stmt}{f:Addr}{i:Value}{j d:Option Addr}{k:Array (XB)}{kV e g c h:Value}(l:K.lookup f=some ⟨i,j,.func (fnOf x b (mZ a) (jw a) (b8 a) .none kV e g d c h),k⟩)
  (m:codeIn K c b=true) (n:keepIn K ↥f=true):Rv K x b a f (fnOf x b (mZ a) (jw a) (b8 a) .none kV e g d c h):=⟨⟨i,j,kV,e,g,d,c,h,k,1,l,m⟩,n⟩
end
theorem gH{A:Around}{k:Nat}(a:iK k A):A.units+1<cLine:=Nat.lt_of_le_of_lt (Nat.add_le_add_left (by decide:1<=64) _) a.units
section
variable {X:Cx}
theorem pv(i:Nat){x:Str}{a:Pos}(b:X.N[i]?=⇑x:=by rfl)(c:eB X.env.scope x:=by and_intros)(d:(x == ("__debug__":Str))=false:=by decide)
  (e:(x == ("__classdict__":Str))=false:=by decide):PE X (.Name x a) (Q4 i):=VC b c d e
end
def eT{A B:Prop}(h:B):if false=true then A else B:=by
 rw[if_neg lV];exact h
def iz{A B:Prop}(h:A):if true=true then A else B:=by
 rw[if_pos rfl];exact h
def dD{c A B:Prop} [Decidable c] (a:c->A) (b:¬ c->B):if c then A else B:=by
 by_cases h:c
 ·rw[if_pos h];exact a h
 ·rw[if_neg h];exact b h
def NP{c A B:Prop} [Decidable c] (a:c) (h:B):if (!decide c)=true then A else B:=by
 rw[decide_eq_true a];exact eT h
def aI(H a:Hp):Prop:=∀ b o,H b=⇑o->a b=⇑o
theorem aI.refl(H:Hp):aI H H:=λ_ _ h=>h
theorem aI.trans{H a b:Hp}(d:aI H a)(e:aI a b):aI H b:=λc o h=>e c o (d c o h)
def aI.free{H a:Hp}(e:aI H a){l:Addr}(h:a l=Option.none):H l=Option.none:=by
 cases q:H l with
 | none=>rfl
 | some o =>
  rw[e l o q]at h;cases h
end _L2
namespace _gn
open _L2
def top(i:Nat):Stmt:=PySem.Challenge.pw_inkroot_k44_blots_in_sheets.main.body.getD i (.Pass ⟨0,0,0,0⟩)
def Rw:Stmt->List Stmt
 | .ClassDef (body:=b) ..=>b
 | _=>[]
def fc(i j:Nat):Stmt:=(Rw (top i)).getD j (.Pass ⟨0,0,0,0⟩)
inductive DI(K:Frag)(x:Str)(st:Stmt)(f:Addr):Prop
 | mk {b:Value} {c d:Option Addr} {e:Array (XB)} {kV g h a i:Value} (_:nsIn K mainGlobals x=⇑(⇑↥f)) (_:K.lookup f=some ⟨b,c,.func (fnOf x x (mZ st) (jw st) (b8 st) .none kV g h d a i),e⟩) (_:codeIn K a x=true) (_:keepIn K ↥f=true)
inductive MI(K:Frag)(C:Addr)(x fj:Str)(st:Stmt)(f:Addr):Prop
 | mk {b:Value} {c d:Option Addr} {e:Array (XB)} {kV g h a i:Value} (_:findIn K ↥C x=⇑(⇑↥f)) (_:isFn K ↥f=true) (_:K.lookup f=some ⟨b,c,.func (fnOf x fj (mZ st) (jw st) (b8 st) .none kV g h d a i),e⟩) (_:codeIn K a fj=true) (_:keepIn K ↥f=true)
inductive CI(K:Frag)(x:Str)(C:Addr):Prop
 | mk (_:nsIn K mainGlobals x=⇑(⇑↥C)) (_:plainGet K C Str.empty=true) (_:hasDictIn K C=true) (_:plainOver K C=true) (_:findIn K ↥C "__setattr__"=⇑(⇑(.builtin "object.__setattr__"))) (_:makesIn K C=true) (_:keepIn K ↥C=true)
class inductive NQ(K:Frag)
 | mk (a:Addr) (b:Wp) (_:vs=[↥a]) (_:bM K H a (b.map V.int)) (_:↑b<=63) (_: ∀ c,Q (.bl true) c)
abbrev Bx:Stmt:=top 70
abbrev yF:Stmt:=top 71
abbrev wQ:Stmt:=top 72
abbrev sJ:Stmt:=top 73
abbrev NR:Stmt:=top 12
abbrev NS:Stmt:=top 13
abbrev rF:Stmt:=top 15
abbrev JR:Stmt:=top 16
abbrev Uz:Stmt:=top 17
abbrev sL:Stmt:=top 18
abbrev JS:Stmt:=top 21
abbrev oU:Stmt:=top 23
abbrev JT:Stmt:=top 24
abbrev yG:Stmt:=top 25
abbrev yH:Stmt:=top 26
abbrev oV:Stmt:=fc 28 0
abbrev wR:Stmt:=fc 28 1
abbrev wV:Stmt:=fc 28 2
abbrev tZ:Stmt:=fc 28 3
abbrev yI:Stmt:=fc 28 4
abbrev yJ:Stmt:=top 32
abbrev Hz:Stmt:=top 33
abbrev t6:Stmt:=top 40
abbrev UA:Stmt:=top 41
abbrev t9:Stmt:=top 38
abbrev l6:Stmt:=top 39
abbrev By:Stmt:=top 34
abbrev oA:Stmt:=top 35
abbrev NT:Stmt:=top 36
abbrev EK:Stmt:=top 43
abbrev ua:Stmt:=top 44
abbrev HE:Stmt:=top 45
abbrev NU:Stmt:=top 46
abbrev yK:Stmt:=top 47
abbrev yL:Stmt:=top 49
abbrev JU:Stmt:=top 48
abbrev yM:Stmt:=top 50
abbrev uc:Stmt:=top 51
abbrev ud:Stmt:=top 52
abbrev sM:Stmt:=top 54
abbrev wW:Stmt:=top 55
abbrev EL:Stmt:=top 57
abbrev oW:Stmt:=fc 58 0
abbrev yN:Stmt:=fc 58 3
abbrev wX:Stmt:=fc 58 2
abbrev wY:Stmt:=fc 58 1
abbrev l9:Stmt:=fc 58 4
abbrev kW:Stmt:=fc 58 5
abbrev yO:Stmt:=fc 58 7
abbrev jV:Stmt:=fc 58 10
abbrev wZ:Stmt:=fc 58 9
abbrev qe:Stmt:=fc 60 0
abbrev qf:Stmt:=fc 30 0
abbrev qg:Stmt:=fc 62 0
abbrev yP:Stmt:=fc 62 2
abbrev yQ:Stmt:=fc 62 1
abbrev qh:Stmt:=fc 62 6
abbrev ue:Stmt:=top 67
abbrev qj:Stmt:=fc 68 1
abbrev rG:Stmt:=fc 68 26
abbrev uf:Stmt:=fc 68 25
abbrev oX:Stmt:=fc 68 2
abbrev qm:Stmt:=fc 68 3
abbrev qo:Stmt:=fc 68 7
abbrev qp:Stmt:=fc 68 30
abbrev rH:Stmt:=fc 68 6
abbrev ug:Stmt:=fc 68 27
abbrev kX:Stmt:=fc 68 4
abbrev uh:Stmt:=fc 68 8
abbrev m6:Stmt:=fc 68 0
abbrev um:Stmt:=fc 68 9
abbrev qt:Stmt:=fc 68 11
abbrev uo:Stmt:=fc 68 28
abbrev oY:Stmt:=fc 68 12
abbrev uq:Stmt:=fc 68 13
abbrev rJ:Stmt:=fc 68 10
abbrev kY:Stmt:=fc 62 5
abbrev yR:Stmt:=fc 62 3
abbrev kT:Stmt:=fc 68 23
abbrev rK:Stmt:=fc 68 32
abbrev m7:Stmt:=fc 58 6
abbrev kZ:Stmt:=fc 68 31
abbrev mh:Stmt:=fc 68 33
abbrev uu:Stmt:=fc 62 8
abbrev mj:Stmt:=fc 68 5
abbrev rL:Stmt:=fc 68 17
abbrev rM:Stmt:=fc 68 18
abbrev oZ:Stmt:=fc 68 47
abbrev yS:Stmt:=top 92
abbrev sN:Stmt:=top 93
abbrev qu:Stmt:=top 81
abbrev yT:Stmt:=top 82
abbrev yU:Stmt:=top 83
abbrev w9:Stmt:=top 74
abbrev yV:Stmt:=top 76
abbrev rN:Stmt:=top 77
abbrev uv:Stmt:=top 78
abbrev BA:Stmt:=top 79
abbrev BB:Stmt:=top 80
abbrev rO:Stmt:=top 84
abbrev ux:Stmt:=top 75
abbrev sO:Stmt:=top 85
abbrev xg:Stmt:=top 86
abbrev rP:Stmt:=fc 68 14
abbrev yW:Stmt:=top 87
abbrev rQ:Stmt:=top 88
abbrev rR:Stmt:=top 89
abbrev yX:Stmt:=top 90
abbrev yY:Stmt:=top 91
abbrev sP:Stmt:=top 94
abbrev xh:Stmt:=top 95
abbrev xj:Stmt:=top 96
abbrev yZ:Stmt:=top 97
abbrev oB:Stmt:=top 98
abbrev nO:Stmt:=top 99
abbrev Rx:Stmt:=top 100
end _gn
namespace _gn
open _L2
inductive Pm(K:Frag)(mg:Ya)(fa:Addr):Prop
 | mk {h:Heap} {g i j:Tok} (b c d e f a:Addr) (k:K.In h) (G:h.Ns mainGlobals mg) (l:mg "law"=⇑↥fa)
  (m:CI K "Shelf" b)
  (n:findIn K ↥b "states"=⇑none)
  (o:findIn K ↥b "openings"=⇑none)
  (p:CI K "Well" c)
  (q:findIn K ↥c "signs"=⇑none)
  (r:findIn K ↥c "owners"=⇑none)
  (t:findIn K ↥c "pourings"=⇑none)
  (u:CI K "Blots" d)
  (v:findIn K ↥d "stains"=⇑none)
  (w:CI K "Ties" e)
  (x:findIn K ↥e "given"=⇑none)
  (y:findIn K ↥e "pairs"=⇑none)
  (z:CI K "Dues" f)
  (A:findIn K ↥f "sums"=⇑none)
  (B:CI K "Library" a)
  (C:findIn K ↥a "well"=⇑none)
  (D:findIn K ↥a "shelf"=⇑none)
  (H:findIn K ↥a "blots"=⇑none)
  (I:findIn K ↥a "knots"=⇑none)
  (J:findIn K ↥a "dues"=⇑none)
  (L:findIn K ↥a "book"=⇑none)
  (M:DI K "_law_src" Bx f0)
  (N:DI K "_law_next" yF f1)
  (O:DI K "_law_whole" wQ f2)
  (T:DI K "_law_same" sJ f3)
  (U:DI K "plain" NR f4)
  (q5:DI K "size" NS f5)
  (q6:DI K "check_places" rF f6)
  (q7:DI K "pieces" JR f7)
  (q8:DI K "part" Uz f8)
  (q9:DI K "addresses" sL f9)
  (BE:DI K "spread" JS tk)
  (ab:DI K "first_reaching" oU tm)
  (ae:DI K "within" JT tq)
  (ag:DI K "left_over" yG tu)
  (ai:DI K "without" yH tz)
  (ak:MI K d "__init__" "Blots.__init__" oV tA)
  (am:MI K d "blot" "Blots.blot" wR tI)
  (an:MI K d "lift" "Blots.lift" wV tJ)
  (ap:MI K d "hides" "Blots.hides" tZ tK)
  (aq:MI K d "row" "Blots.row" yI tR)
  (ar:DI K "windows" yJ t5)
  (as:DI K "below" Hz ub)
  (av:DI K "way_between" t6 ui)
  (aw:DI K "ring" UA uj)
  (ax:DI K "item_weight" t9 uk)
  (ay:DI K "weights_below" l6 ur)
  (aB:DI K "item_row" By ut)
  (aN:DI K "views_below" oA uK)
  (aR:DI K "shown" NT oT)
  (aZ:DI K "goes_on" EK uM)
  (a0:DI K "plain_items" ua u0)
  (a1:DI K "inked" HE u8)
  (a2:DI K "dealt" NU f32)
  (a3:DI K "put_among" yK u')
  (a4:DI K "put_items" yL va)
  (a5:DI K "parted" JU vb)
  (a6:DI K "cut_items" yM vf)
  (a7:DI K "moved_items" uc vk)
  (a8:DI K "fixed_items" ud vq)
  (a9:DI K "ink_words" sM vr)
  (ba:DI K "shown_deed" wW vu)
  (bb:DI K "changed" EL vw)
  (bc:MI K b "__init__" "Shelf.__init__" oW vx)
  (be:MI K b "now" "Shelf.now" yN vy)
  (bf:MI K b "many" "Shelf.many" wX vz)
  (bi:MI K b "step" "Shelf.step" wY vT)
  (bj:MI K b "check_sheet" "Shelf.check_sheet" l9 vU)
  (bm:MI K b "check_moment" "Shelf.check_moment" kW v3)
  (bn:MI K b "rows_then" "Shelf.rows_then" jV v4)
  (bo:MI K b "rows" "Shelf.rows" wZ v5)
  (bp:MI K b "row" "Shelf.row" yO v6)
  (br:MI K e "__init__" "Ties.__init__" qe v')
  (bt:MI K f "__init__" "Dues.__init__" qf wa)
  (bv:MI K c "__init__" "Well.__init__" qg wb)
  (bA:MI K c "size" "Well.size" yP wd)
  (bB:MI K c "pour" "Well.pour" yQ wf)
  (bF:MI K c "holds" "Well.holds" qh wh)
  (bH:DI K "check_weave" ue wn)
  (bQ:MI K a "__init__" "Library.__init__" m6 wq)
  (b0:MI K a "enter" "Library.enter" qj wx)
  (b1:MI K a "change" "Library.change" oX wy)
  (b2:MI K a "many" "Library.many" rG wE)
  (b3:MI K a "begin" "Library.begin" qm wP)
  (b4:MI K a "fresh" "Library.fresh" qo wS)
  (b5:MI K a "ink" "Library.ink" ug f64)
  (b6:MI K a "check_held" "Library.check_held" kX wT)
  (b7:MI K a "pour" "Library.pour" rH wU)
  (ca:MI K a "put" "Library.put" uh w1)
  (cb:MI K a "shown" "Library.shown" qp w2)
  (cc:MI K a "cut" "Library.cut" um w4)
  (cd:MI K a "quote" "Library.quote" qt w7)
  (ce:MI K a "row" "Library.row" uo w8)
  (cf:MI K a "window" "Library.window" oY w')
  (cg:MI K a "fix" "Library.fix" uq xa)
  (ch:MI K a "move" "Library.move" rJ xb)
  (ci:MI K c "check_address" "Well.check_address" kY xc)
  (cj:MI K c "sign" "Well.sign" yR xf)
  (cm:MI K a "veiled" "Library.veiled" kT xl)
  (cn:MI K a "text" "Library.text" rK xn)
  (cp:MI K b "check_then" "Shelf.check_then" m7 xp)
  (cq:MI K a "shown_then" "Library.shown_then" kZ xt)
  (cr:MI K a "text_then" "Library.text_then" mh xv)
  (cs:MI K a "now" "Library.now" uf xw)
  (cu:MI K c "poured" "Well.poured" uu xy)
  (cv:MI K a "check_own" "Library.check_own" mj xz)
  (cw:MI K a "blot" "Library.blot" rL xI)
  (cx:MI K a "lift" "Library.lift" rM xL)
  (cL:MI K a "hidden" "Library.hidden" oZ x')
  (cZ:DI K "_law_sign" yS yk)
  (c0:DI K "_law_text" sN yl)
  (c1:DI K "_law_world" qu ym)
  (c2:DI K "_law_keep" yT yn)
  (c3:DI K "_law_swap" yU yw)
  (c4:DI K "_law_spell" w9 yy)
  (c5:DI K "_law_show" yV yA)
  (c6:DI K "_law_reached" rN yB)
  (c7:DI K "_law_pieces" uv yC)
  (c8:DI K "_law_put" BA y2)
  (da:DI K "_law_cut" BB y3)
  (dc:DI K "_law_weighed" rO y4)
  (Zz:DI K "_law_row_of" ux y5)
  (ZA:DI K "_law_fits" sO y6)
  (ZC:DI K "_law_after" xg y7)
  (ZD:MI K a "back" "Library.back" rP y')
  (ZE:DI K "_law_done" yW zp)
  (ZF:DI K "_law_ink_row" rQ zu)
  (ZG:DI K "_law_move_by" rR z')
  (ZH:DI K "_law_draw" yX Ap)
  (ZI:DI K "_law_deed" yY AA)
  (ZJ:DI K "_law_pour" sP AG)
  (ZK:DI K "_law_fresh" xh AH)
  (ZL:DI K "_law_begin" xj AI)
  (ZM:DI K "_law_read" yZ AT)
  (ZN:DI K "_law_hide" oB A3)
  (ZO:DI K "_law_then_right" nO A')
  (ZP:DI K "law" Rx Bi)
  (z0:nsIn K mainGlobals "len"=⇑none)
  (z1:nsIn K mainGlobals "list"=⇑none)
  (z2:nsIn K mainGlobals "tuple"=⇑none)
  (z3:nsIn K mainGlobals "int"=⇑none)
  (z4:nsIn K mainGlobals "bool"=⇑none)
  (z5:nsIn K mainGlobals "str"=⇑none)
  (z6:nsIn K mainGlobals "range"=⇑none)
  (z7:nsIn K mainGlobals "zip"=⇑none)
  (z8:nsIn K mainGlobals "isinstance"=⇑none)
  (z9:nsIn K mainGlobals "sum"=⇑none)
  (dd:nsIn K mainGlobals "min"=⇑none)
  (de:nsIn K mainGlobals "max"=⇑none)
  (df:nsIn K mainGlobals "all"=⇑none)
  (di:nsIn K mainGlobals "sorted"=⇑none)
  (rS:nsIn K mainGlobals "MOST_SHEETS"=⇑(⇑(.int 40 g)))
  (rT:nsIn K mainGlobals "MOST_WEIGHT"=⇑(⇑(.int 200 i)))
  (EO:nsIn K mainGlobals "HIDDEN"=⇑(⇑(.str "#" j)))
  (uA:nsIn K mainGlobals "size_spans"=⇑(⇑↥f5))
  (rV:nsIn K mainGlobals "shown_weave"=⇑(⇑↥oT))
def UB:Prop:=∀ {P:Program} {w:World} {K:Frag} {mg:Ya} {b:Addr},Pm K mg b->∃ c:FuncData,(∀ (s:Shared) (v:Value),BindsTo s c ⟨[v],[]⟩ [("_law_script",v)])/\∀ a:Heap,K.In a->a.Ns mainGlobals mg->bg P w K mg a cO 48 b c ["_law_script"] (NQ K)
theorem walk{l:PySem.W.OpenLaw}{q:Program}{g:UV}{i:(Ya)->Heap->Prop}{c:World->Heap->Prop}{d:DefRec}{K:Params->Frag}(j:l.most=some 63)(k:d.params.defaults=[])
  (m:∀ (w:World) (h:Heap),c w h->(K w.params).In h)
  (n:∀ (w:World) (a:Ya) (e:Addr) (h:Heap),(K w.params).In h->h.Ns mainGlobals a->a d.name=⇑↥e->
   ∃ f:FuncData,(∀ (s:Shared) (u:Value),BindsTo s f ⟨[u],[]⟩ [("_law_script",u)])/\∀ b:Heap,(K w.params).In b->b.Ns mainGlobals a->bg l.prog w (K w.params) a b cO 48 e f ["_law_script"] (NQ (K w.params))) :
  PySem.W.WalkO q g i c l.row.toRowW d [] (λo p=>PySem.call o p) :=
 _L2.Ru (n:=63) (k:=48) (x:="_law_script") (o:=λ_=>cO) (p:=λw=>NQ (K w.params)) j (by decide) k ⟨1,E,E⟩ m n (λ_ _ r t v _ x=>⟨r,t,1,x,v,λ_=>rfl⟩) λ_ _ _ _ _ z=>z
end _gn
namespace InkHd
open PySem.W Rows
set_option maxRecDepth 100000 in
set_option maxHeartbeats 0 in
def hd2(A:_gn.UB):PySem.Challenge.rw_inkroot_k44_blots_in_sheets.Holds:=by
 refine hd_k44 ?_
 k_fill
 refine _gn.walk (l:=PySem.Challenge.rw_inkroot_k44_blots_in_sheets) rfl rfl (λw h Y=>kIn_of Y) ?F'
 case F' =>
  intro w mg fa h KX G Zx
  refine' A (.mk _ _ _ _ _ _ KX G Zx (.mk ..) _ _ (.mk ..) _ _ _ (.mk ..) _ (.mk ..) _ _ (.mk ..) _ (.mk ..) _ _ _ _ _ _ (.mk ..) (.mk ..) (.mk ..) (.mk ..) (.mk ..) (.mk ..) (.mk ..) (.mk ..) (.mk ..) (.mk ..) (.mk ..) (.mk ..) (.mk ..) (.mk ..) (.mk ..) (.mk ..) (.mk ..) (.mk ..) (.mk ..) (.mk ..) (.mk ..) (.mk ..) (.mk ..) (.mk ..) (.mk ..) (.mk ..) (.mk ..) (.mk ..) (.mk ..) (.mk ..) (.mk ..) (.mk ..) (.mk ..) (.mk ..) (.mk ..) (.mk ..) (.mk ..) (.mk ..) (.mk ..) (.mk ..) (.mk ..) (.mk ..) (.mk ..) (.mk ..) (.mk ..) (.mk ..) (.mk ..) (.mk ..) (.mk ..) (.mk ..) (.mk ..) (.mk ..) (.mk ..) (.mk ..) (.mk ..) (.mk ..) (.mk ..) (.mk ..) (.mk ..) (.mk ..) (.mk ..) (.mk ..) (.mk ..) (.mk ..) (.mk ..) (.mk ..) (.mk ..) (.mk ..) (.mk ..) (.mk ..) (.mk ..) (.mk ..) (.mk ..) (.mk ..) (.mk ..) (.mk ..) (.mk ..) (.mk ..) (.mk ..) (.mk ..) (.mk ..) (.mk ..) (.mk ..) (.mk ..) (.mk ..) (.mk ..) (.mk ..) (.mk ..) (.mk ..) (.mk ..) (.mk ..) (.mk ..) (.mk ..) (.mk ..) (.mk ..) (.mk ..) (.mk ..) (.mk ..) (.mk ..) (.mk ..) (.mk ..) (.mk ..) (.mk ..) (.mk ..) (.mk ..) (.mk ..) (.mk ..) (.mk ..) (.mk ..) (.mk ..) (.mk ..) (.mk ..) (.mk ..) (.mk ..) (.mk ..) (.mk ..) _ _ _ _ _ _ _ _ _ _ _ _ _ _ _ _ _ _ _)
  all_goals try first|k_is|k_exc|kts_exm
end InkHd
namespace _cN
open Spec Rows _L2
section
variable {X:Cx}
def dZ:jN X (.builtin "isinstance") (λa H Q=>∃ x T t b,a=[x,.ty T]/\j6 X.K H x t/\kitOne X.K t (.type T)=⇑b/\Q (.bl b) H):=by
 intro g s i H a j Q I r h;let⟨x,T,t,b,rfl,c,e,q⟩:=h;let⟨u,v,rfl,d,f⟩:=r.two;cases (show v=Value.type T from f);exact Lb I d c e λc=>⟨.bl b,H,I.tok c,1,q⟩
theorem o6{x:Str}{T:String}(a:Gl X x)(b:X.mg x=none)(c:bootBuiltins x=⇑(.type T))(d:x≠"__name__":=by decide)(e:(x == ("__debug__":Str))=false:=by decide):PE X (.Name x f) (tC (.ty T)) :=
 Q5 a b c rfl d e
end
theorem Ry{d:Cx}{g:_L2.St}{H:Hp}{s:Shared}{h:Heap}{m:Nat}{c:WF}(I:Inv d i g H s)(k:∀ b o,b∉c->s.heap.get? b=⇑o->h.get? b=⇑o)
  (f:∀ b∈c,ou d i H b):Inv d i g H { s with heap:=h,toks:=m }:=by
 let j:∀ b u,H b=⇑u->b∉c:=λb u e z=>by rw[(f b z).1]at e;cases e
 refine I.step (g':=s.gens) (d':=s.drawn) (ch:=c) (λb n=>?_) (λb o _ _ a e _=>k b o a e) (λb o _ _ a e _=>⟨o.slots,k b o a e⟩) (λ_ _ _ _ a=>a) (λb o a e=>⟨o,k b o a e⟩) (λ_ _ e=>e) (λ_ _ _ e=>e) (λb a e=>⟨#[],by rw[e];simp⟩) (λt p=>?_) (λb u e=>?_) I.bare
 ·let⟨_,a,_,l,q,r⟩:=f b n;exact⟨l,a,q,r⟩
 ·let⟨o,a,l,q,r⟩:=p;exact⟨o,a,l,k _ o (λz=>(f _ z).2.1 rfl) q,r⟩
 ·refine (I.hok b u e).stay (λl v a q=>k l v ?_ q) (λ_ q=>q) λ_ _ q=>q;rcases a with z|z
  ·rw[z];exact j b u e
  ·exact j l _ z
theorem ZQ{h:Cx}{n:_L2.St}{H:Hp}{s:Shared}{i:Heap}{w:Nat}{d:WF}{p:Addr}{j:List V}{l:WP}(I:Inv h r n H s)(k:∀ b o,b∉d->s.heap.get? b=⇑o->i.get? b=⇑o)
  (m:∀ b∈d,ou h r H b) (t:s.heap.objs.size<=p) (x:↑j<=sizeLine) (y:cD j l) (A:IsTup i p l.toArray):Inv h r n (aO H p (.tup j)) { s with heap:=i,toks:=w }:=by
 let c:H p=none:=I.hok.fresh t;let v:∀ b u,H b=⇑u->b∉d:=λb u e z=>by rw[(m b z).1]at e;cases e
 let q:∀ b o,s.heap.get? b=⇑o->b≠p:=λb o e z=>by subst z;exact absurd (pJ (Heap.lt_size e) t) (Nat.lt_irrefl _)
 refine I.step (g':=s.gens) (d':=s.drawn) (ch:=d) (λb f=>?_) (λb o _ _ a e _=>k b o a e) (λb o _ _ a e _=>⟨o.slots,k b o a e⟩) (λb o _ e a=>by rw[aL (q b o e)];exact a) (λb o a e=>⟨o,k b o a e⟩) (λb B e=>by rw[aL (aA e c)];exact e) (λb _ _ e=>by rw[aL (aA e c)];exact e) (λb a e=>⟨#[],by rw[aL (aA e c),e];simp⟩) (λD q=>?_) (λb u e=>?_) I.bare
 ·let⟨_,a,_,g,B,C⟩:=m b f;exact⟨g,a,B,C⟩
 ·let⟨o,a,g,B,C⟩:=q;exact⟨o,a,g,k _ o (λz=>(m _ z).2.1 rfl) B,C⟩
 ·by_cases f:b=p
  ·subst f;rw[af]at e;cases e;exact⟨x,l,y,A⟩
  ·rw[aL f]at e;refine (I.hok b u e).stay (λg f a q=>k g f ?_ q) (λg q=>by rw[aL (aA q c)];exact q) λg B q=>by rw[aL (aA q c)];exact q
   rcases a with z|z
   ·rw[z];exact v b u e
   ·exact v g _ z
def GX(k:Bool)(h:Heap)(i a:Addr)(n:Nat):Prop:=match k with
 | true=>h.IsListIter i a n
 | false=>h.IsTupleIter i a n
def Az(k:Bool)(h:Heap)(a:Addr)(b:Xt):Prop:=match k with
 | true=>h.IsList a b
 | false=>h.IsTuple a b
def GX.at{k:Bool}{h b:Heap}{i c:Addr}{n:Nat}(x:GX k h i c n)(e:∀ o,h.get? i=⇑o->b.get? i=⇑o):GX k b i c n:=by
 cases k
 ·let⟨o,a,r⟩:=x;exact⟨o,e o a,r⟩
 ·let⟨o,a,r⟩:=x;exact⟨o,e o a,r⟩
def Az.at{k:Bool}{h c:Heap}{a:Addr}{d:Xt}(x:Az k h a d)(e:∀ o,h.get? a=⇑o->c.get? a=⇑o):Az k c a d:=by
 cases k
 ·let⟨o,b,r⟩:=x;exact⟨o,e o b,r⟩
 ·let⟨o,b,r⟩:=x;exact⟨o,e o b,r⟩
def GX.obj{k:Bool}{h:Heap}{i b:Addr}{n:Nat}(x:GX k h i b n):∃ o,h.get? i=⇑o/\∀ v,o.data≠.cell v:=by
 cases k
 ·let⟨o,a,_,d⟩:=x;exact⟨o,a,λv z=>by rw[d]at z;cases z⟩
 ·let⟨o,a,_,d⟩:=x;exact⟨o,a,λv z=>by rw[d]at z;cases z⟩
section
variable {prog:Program} {w:World} {A:Around} {E:ZB} {s:Shared}
theorem HF{a t:Addr}{i:Nat}{f:Xt}{x:Value}{Q:ZB}(d:s.heap.IsTupleIter a t i)(g:s.heap.IsTuple t f)(h:f[i]?=⇑x)
  (j:∀ e,e.IsTupleIter a t (i+1)->Heap.SameBut a s.heap e->Q x { s with heap:=e }):wpAny (model prog w) A (Builtin.SmallTypes.nextOf ↥a) Q E s:=by
 let⟨o,c,k,b⟩:=id d;let⟨n,l,_,o,m⟩:=g;unfold Builtin.SmallTypes.nextOf;refine wpAny_bind (wpAny_callSpecial?_slot (name:=Str.ofString "__next__") d.typeIs F.slot_tuple_iterator_next (wpAny_call_entry F.slot_tuple_iterator_next d.typeIs F.entry_tuple_iterator_next ?_ (F.args_tuple_iterator_next_1 _)));show wpAny _ _ (field ↥a 0 >>= _) _ _ s;refine wpAny_bind (wpAny_field c b (x:=↥t) rfl ?_);show wpAny _ _ (if (Value.ref t == Value.none)=true then _ else _) _ _ s;rw[if_neg (show ¬ ((Value.ref t == Value.none)=true) from lV)];show wpAny _ _ (field ↥a 1 >>= _) _ _ s;refine wpAny_bind (wpAny_field c b (x:=.int i 0) rfl ?_);show wpAny _ _ (seqItems? ↥t >>= _) _ _ s;refine wpAny_bind (wpAny_seqItems l m ?_);simp only[Int.toNat_natCast,h];refine wpAny_bind (wpAny_setField c b (by simp) (wpAny_pure ⟨x,1,wpAny_pure (j _ ?_ (Heap.SameBut.update ..))⟩));exists _,Heap.get?_update_self _ c (Obj.isFreed_of_fields (Obj.data_mapFields b _)),(Obj.cls_mapFields ..).trans k;rw[Obj.data_mapFields b];simp[rawInt]
theorem Lk{a t:Addr}{i:Nat}{f:Xt}{Q:ZB}(g:A.handled=none)(b:s.heap.IsTupleIter a t i)(j:s.heap.IsTuple t f)(k:f[i]?=none)
  (l:∀ c h,Heap.ExtBut a s.heap c->(∃ o,c.get? h=⇑o/\o.cls=.type "StopIteration")->E ↥h { s with heap:=c }):wpAny (model prog w) A (Builtin.SmallTypes.nextOf ↥a) Q E s:=by
 let⟨o,d,p,e⟩:=id b;let⟨p,m,_,q,n⟩:=j;unfold Builtin.SmallTypes.nextOf;refine wpAny_bind (wpAny_callSpecial?_slot (name:=Str.ofString "__next__") b.typeIs F.slot_tuple_iterator_next (wpAny_call_entry F.slot_tuple_iterator_next b.typeIs F.entry_tuple_iterator_next ?_ (F.args_tuple_iterator_next_1 _)));show wpAny _ _ (field ↥a 0 >>= _) _ _ s;refine wpAny_bind (wpAny_field d e (x:=↥t) rfl ?_);show wpAny _ _ (if (Value.ref t == Value.none)=true then _ else _) _ _ s;rw[if_neg (show ¬ ((Value.ref t == Value.none)=true) from lV)];show wpAny _ _ (field ↥a 1 >>= _) _ _ s;refine wpAny_bind (wpAny_field d e (x:=.int i 0) rfl ?_);show wpAny _ _ (seqItems? ↥t >>= _) _ _ s;refine wpAny_bind (wpAny_seqItems m n ?_);simp only[Int.toNat_natCast,k];refine wpAny_bind (wpAny_rule (wpAny_bind (wpAny_setField d e (by simp) ?_)));show wpAny _ _ (newExc (.type "StopIteration") [] >>= _) _ _ _;refine wpAny_bind ?_;simp only[newExc,newTuple];refine wpAny_bind (wpAny_newObj_type ?_ (by size_fits))
 refine wpAny_bind (m:=firstArgMember _ _) (wpAny_of_eq (a:=Value.none) (by first|rfl|(simp only[firstArgMember];rfl)) ?_)
 refine wpAny_newObj_type ?_ (by size_fits);simp only[raiseNew];refine wpAny_bind (wpAny_handled ?_)
 first|rw[show A.in1.handled=none from g]|rw[g]
 refine wpAny_bind (wpAny_pure (wpAny_throw ?_));exact l _ _ (((Heap.SameBut.update ..).extBut.push _).push _) ⟨_,Heap.get?_push_size _ rfl,1⟩
theorem sS{k:Bool}{a t:Addr}{i:Nat}{c:Xt}{x:Value}{Q:ZB}(d:GX k s.heap a t i)(e:Az k s.heap t c)(f:c[i]?=⇑x)
  (g:∀ b,GX k b a t (i+1)->Heap.SameBut a s.heap b->Q x { s with heap:=b }):wpAny (model prog w) A (Builtin.SmallTypes.nextOf ↥a) Q E s:=by
 cases k
 ·exact HF d e f g
 ·exact wpAny_nextOf_list_item d e f g
theorem BF{k:Bool}{a t:Addr}{i:Nat}{c:Xt}{Q:ZB}(d:A.handled=none)(e:GX k s.heap a t i)(f:Az k s.heap t c)(g:c[i]?=none)
  (h:∀ b j,Heap.ExtBut a s.heap b->(∃ o,b.get? j=⇑o/\o.cls=.type "StopIteration")->E ↥j { s with heap:=b }):wpAny (model prog w) A (Builtin.SmallTypes.nextOf ↥a) Q E s:=by
 cases k
 ·exact Lk d e f g h
 ·exact wpAny_nextOf_list_end d e f g h
abbrev BG(k:Bool)(l:Addr):Obj:={ cls:=.type (if k then "list_iterator" else "tuple_iterator"),data:=.fields (List.toArray [↥l,.int 0 0]) }
def UC{k:Bool}{l:Addr}{b:Xt}{Q:ZB}(h:Az k s.heap l b)(a:Q ↥s.heap.objs.size { s with heap:=s.heap.push (BG k l) }):wpAny (model prog w) A (pyIter ↥l) Q E s:=by
 cases k
 ·exact wpAny_pyIter_tuple h a
 ·exact wpAny_pyIter_list h a
structure BH(k:Bool)(h:Heap)(z TI TO i1 i2 l1 l2:Addr)(n:Nat):Prop where
 z:IsZip h z TI TO .none
 ti:IsPair h TI ↥i1 ↥i2
 to:∃ a b,IsPair h TO a b
 i1:GX k h i1 l1 n
 i2:GX k h i2 l2 n
theorem Ll{k:Bool}{z TI TO b d l m:Addr}{n:Nat}{M N:Xt}{x y:Value}{Q:ZB}(D:ZipApart z TI TO b d l m)(ab:BH k s.heap z TI TO b d l m n)
  (GY:Az k s.heap l M) (vD:Az k s.heap m N) (hx:M[n]?=⇑x) (hy:N[n]?=⇑y)
  (hQ:∀ f,IsZip f z TI TO (rawInt s.heap.objs.size)->IsPair f TO x y->GX k f b l (n+1)->GX k f d m (n+1)->IsPair f s.heap.objs.size x y->
   (∀ c o,c≠z->c≠TO->c≠b->c≠d->s.heap.get? c=⇑o->f.get? c=⇑o)->Q ↥s.heap.objs.size { s with heap:=f }) :
  wpAny (model prog w) A (Builtin.«zip.__next__» ⟨[↥z],[]⟩) (λae s'=>∃ O,ae=.done (.ret O)/\Q O s') E s:=by
 let⟨p,ag,⟨ai,F,ak⟩,h1,h2⟩:=ab;show wpAny _ _ (field ↥z 2 >>= _) _ _ _;refine wpAny_bind (wpAny_field p rfl (x:=.bool false) rfl ?_);show wpAny _ _ (field ↥z 3 >>= _) _ _ _;refine wpAny_bind (wpAny_field p rfl (x:=↥TI) rfl (wpAny_bind (wpAny_seqItems ag rfl ?_)));show wpAny _ _ (Builtin.SmallTypes.ownedTupleIsFree ↥z >>= _) _ _ _;refine wpAny_bind ?_;unfold Builtin.SmallTypes.ownedTupleIsFree;refine wpAny_bind (wpAny_field p rfl (x:=.none) rfl (wpAny_pure ?_));simp only[if_true];refine wpAny_bind (wpAny_rule (wpAny_bind (wpAny_field p rfl (x:=↥TO) rfl (wpAny_bind (wpAny_setField_rec p (by simp) λg1 G g=>?_)))))
 replace G:IsZip g1 z TI TO .ellipsis:=G
 refine wpAny_bind ?_;simp only[List.zipIdx_cons,List.zipIdx_nil,List.forIn_cons,List.forIn_nil];refine wpAny_bind (wpAny_bind (wpAny_onRaise ?_));show wpAny _ _ (Builtin.SmallTypes.nextOf ↥b >>= _) _ _ _;refine wpAny_bind (sS (h1.at λo e=>g.extBut _ _ D.i1z e) (GY.at λo e=>g.extBut _ _ D.l1z e) hx λp MS i=>wpAny_pure ?_);let R:IsPair p TO ai F:=i.extBut _ _ D.TOi1 (g.extBut _ _ D.TOz ak);refine wpAny_bind (wpAny_seqItems R rfl (wpAny_bind (wpAny_updateSeq_pair R λg3 H j=>?_)))
 replace H:IsPair g3 TO x F:=H
 refine wpAny_bind (wpAny_letGo (wpAny_pure (wpAny_bind (wpAny_bind (wpAny_onRaise ?_)))));show wpAny _ _ (Builtin.SmallTypes.nextOf ↥d >>= _) _ _ _;refine wpAny_bind (sS (((h2.at λo e=>g.extBut _ _ D.i2z e).at λo e=>i.extBut _ _ D.i12.symm e).at λo e=>j.extBut _ _ D.TOi2.symm e) (((vD.at λo e=>g.extBut _ _ D.l2z e).at λo e=>i.extBut _ _ D.l2i1 e).at λo e=>j.extBut _ _ D.l2TO e) hy λp am q=>wpAny_pure ?_);let S:IsPair p TO x F:=q.extBut _ _ D.TOi2 H;refine wpAny_bind (wpAny_seqItems S rfl (wpAny_bind (wpAny_updateSeq_pair S λa t r=>?_)))
 replace t:IsPair a TO x y:=t
 refine wpAny_bind (wpAny_letGo (wpAny_pure (wpAny_pure (wpAny_bind (wpAny_seqItems t rfl (wpAny_bind (wpAny_newTuple ?_)))))));let T:a.objs.size=s.heap.objs.size:=by rw[r.1,q.1,j.1,i.1,g.1]
 let p:IsZip a z TI TO .ellipsis:=r.extBut _ _ D.TOz.symm (q.extBut _ _ D.i2z.symm (j.extBut _ _ D.TOz.symm (i.extBut _ _ D.i1z.symm G)));let k5:∀ c o,c≠z->c≠TO->c≠b->c≠d->s.heap.get? c=⇑o->a.get? c=⇑o:=λc o h u I J e=>r.extBut _ _ u (q.extBut _ _ J (j.extBut _ _ u (i.extBut _ _ I (g.extBut _ _ h e))));have an:GX k a b l (n+1):=((MS.at λo e=>j.extBut _ _ D.TOi1.symm e).at λo e=>q.extBut _ _ D.i12 e).at λo e=>r.extBut _ _ D.TOi1.symm e;have ap:GX k a d m (n+1):=am.at λo e=>r.extBut _ _ D.TOi2.symm e;have U:z<a.objs.size:=Heap.lt_size p;show wpAny _ _ (Builtin.SmallTypes.ownedTupleHandOut ↥z ↥a.objs.size >>= _) _ _ _;refine wpAny_bind ?_;unfold Builtin.SmallTypes.ownedTupleHandOut;have g:IsZip (a.push { cls:=.type "tuple",data:=.seq (List.toArray [x,y]) }) z TI TO .ellipsis:=Heap.get?_push_of_some _ p;refine wpAny_bind (wpAny_setField_rec g (by simp) λg7 L W=>?_)
 replace L:IsZip g7 z TI TO (rawInt a.objs.size):=L
 refine wpAny_setField_rec L (by simp) λv B X=>?_
 replace B:IsZip v z TI TO (rawInt a.objs.size):=B
 let C:∀ c o,c≠z->a.get? c=⇑o->v.get? c=⇑o:=λc o h e=>X.extBut _ _ h (W.extBut _ _ h (Heap.get?_push_of_some _ e));have t8:IsPair v a.objs.size x y:=X.extBut _ _ (Nat.ne_of_gt U) (W.extBut _ _ (Nat.ne_of_gt U) (Heap.get?_push_size _ rfl));rw[T]at B t8;refine wpAny_pure ⟨Y,?_⟩;show Q ↥a.objs.size _;rw[T];exact hQ v B (C _ _ D.TOz t) (an.at λo e=>C _ o D.i1z e) (ap.at λo e=>C _ o D.i2z e) t8 λc o h u I J e=>C c o h (k5 c o h u I J e)
theorem N1{p:Bool}{z TI TO k l q r:Addr}{n:Nat}{t u:Xt}{Q:Fin->Shared->Prop}(I:A.handled=none)(D:ZipApart z TI TO k l q r)(T:BH p s.heap z TI TO k l q r n)
  (J:Az p s.heap q t) (U:Az p s.heap r u) (Wh:t[n]?=none\/u[n]?=none)
  (L:∀ v e,(∀ c o,c≠z->c≠TO->c≠k->c≠l->s.heap.get? c=⇑o->v.get? c=⇑o)->(∃ o,v.get? e=⇑o/\o.cls=.type "StopIteration")->E ↥e { s with heap:=v }) :
  wpAny (model prog w) A (Builtin.«zip.__next__» ⟨[↥z],[]⟩) Q E s:=by
 let⟨g,W,⟨X,ab,ae⟩,M,h2⟩:=T;show wpAny _ _ (field ↥z 2 >>= _) _ _ _;refine wpAny_bind (wpAny_field g rfl (x:=.bool false) rfl ?_);show wpAny _ _ (field ↥z 3 >>= _) _ _ _;refine wpAny_bind (wpAny_field g rfl (x:=↥TI) rfl (wpAny_bind (wpAny_seqItems W rfl ?_)));show wpAny _ _ (Builtin.SmallTypes.ownedTupleIsFree ↥z >>= _) _ _ _;refine wpAny_bind ?_;unfold Builtin.SmallTypes.ownedTupleIsFree;refine wpAny_bind (wpAny_field g rfl (x:=.none) rfl (wpAny_pure ?_));simp only[if_true];refine wpAny_bind (wpAny_rule (wpAny_bind (wpAny_field g rfl (x:=↥TO) rfl (wpAny_bind (wpAny_setField_rec g (by simp) λg1 m a=>?_)))))
 replace m:IsZip g1 z TI TO .ellipsis:=m
 refine wpAny_bind ?_;simp only[List.zipIdx_cons,List.zipIdx_nil,List.forIn_cons,List.forIn_nil];refine wpAny_bind (wpAny_bind (wpAny_onRaise ?_));show wpAny _ _ (Builtin.SmallTypes.nextOf ↥k >>= _) _ _ _
 cases y:t[n]? with
 | none =>
  refine wpAny_bind (BF I (M.at λo e=>a.extBut _ _ D.i1z e) (J.at λo e=>a.extBut _ _ D.l1z e) y λB e b C=>?_);let⟨F,d,i⟩:=C;let N:IsZip B z TI TO .ellipsis:=b _ _ D.i1z.symm m;let G:e≠z:=λx=>by subst x;rw[N]at d;cases d;simp at i
  exact wpAny_setField_rec N (by simp) λO _ f=>L O e (λc o j _ H _ x=>f.extBut _ _ j (b _ _ H (a.extBut _ _ j x))) ⟨F,f.extBut _ _ G d,i⟩
 | some x =>
  let hy:u[n]?=none:=by rcases Wh with h|h;(rw[y]at h;cases h);exact h
  refine wpAny_bind (sS (M.at λo e=>a.extBut _ _ D.i1z e) (J.at λo e=>a.extBut _ _ D.l1z e) y λB g b=>wpAny_pure ?_);let N:IsPair B TO X ab:=b.extBut _ _ D.TOi1 (a.extBut _ _ D.TOz ae);refine wpAny_bind (wpAny_seqItems N rfl (wpAny_bind (wpAny_updateSeq_pair N λO g f=>?_)));refine wpAny_bind (wpAny_letGo (wpAny_pure (wpAny_bind (wpAny_bind (wpAny_onRaise ?_)))));show wpAny _ _ (Builtin.SmallTypes.nextOf ↥l >>= _) _ _ _;refine wpAny_bind (BF I (((h2.at λo e=>a.extBut _ _ D.i2z e).at λo e=>b.extBut _ _ D.i12.symm e).at λo e=>f.extBut _ _ D.TOi2.symm e) (((U.at λo e=>a.extBut _ _ D.l2z e).at λo e=>b.extBut _ _ D.l2i1 e).at λo e=>f.extBut _ _ D.l2TO e) hy λg e R C=>?_);let⟨F,d,i⟩:=C;let S:IsZip g z TI TO .ellipsis:=R _ _ D.i2z.symm (f.extBut _ _ D.TOz.symm (b.extBut _ _ D.i1z.symm m));let G:e≠z:=λx=>by subst x;rw[S]at d;cases d;simp at i
  exact wpAny_setField_rec S (by simp) λm _ g=>L m e (λc o j m H y x=>g.extBut _ _ j (R _ _ y (f.extBut _ _ m (b.extBut _ _ H (a.extBut _ _ j x))))) ⟨F,g.extBut _ _ G d,i⟩
theorem HG{k:Bool}{z TI TO b d e f:Addr}{n:Nat}{g h:Xt}{x y:Value}{Q:Option Value->Shared->Prop}(D:ZipApart z TI TO b d e f)(i:BH k s.heap z TI TO b d e f n)
  (l:Az k s.heap e g) (m:Az k s.heap f h) (p:g[n]?=⇑x) (q:h[n]?=⇑y)
  (r:∀ a,IsZip a z TI TO (rawInt s.heap.objs.size)->IsPair a TO x y->GX k a b e (n+1)->GX k a d f (n+1)->IsPair a s.heap.objs.size x y->
   (∀ c o,c≠z->c≠TO->c≠b->c≠d->s.heap.get? c=⇑o->a.get? c=⇑o)->Q (⇑↥s.heap.objs.size) { s with heap:=a }):wpAny (model prog w) A (pyNext ↥z) Q E s:=by
 let j:s.TypeIs ↥z "zip":=⟨_,i.z,1⟩;unfold pyNext;exact wpAny_bind (wpAny_attempt (wpAny_callSpecial?_slot (name:=Str.ofString "__next__") j F.slot_zip_next (wpAny_call_entry F.slot_zip_next j F.entry_zip_next (Ll D i l m p q λa j t u v B C=>wpAny_pure (r a j t u v B C)) (F.args_zip_next_1 _))))
theorem Lm{k:Bool}{z TI TO a b d e:Addr}{n:Nat}{g h:Xt}{Q:Option Value->Shared->Prop}(l:A.handled=none)(D:ZipApart z TI TO a b d e)(i:BH k s.heap z TI TO a b d e n)
  (m:Az k s.heap d g) (p:Az k s.heap e h) (q:g[n]?=none\/h[n]?=none)
  (r:∀ f,(∀ c o,c≠z->c≠TO->c≠a->c≠b->s.heap.get? c=⇑o->f.get? c=⇑o)->Q none { s with heap:=f }):wpAny (model prog w) A (pyNext ↥z) Q E s:=by
 let j:s.TypeIs ↥z "zip":=⟨_,i.z,1⟩;unfold pyNext;refine wpAny_bind (wpAny_attempt (wpAny_callSpecial?_slot (name:=Str.ofString "__next__") j F.slot_zip_next (wpAny_call_entry F.slot_zip_next j F.entry_zip_next (N1 l D i m p q λf u j t=>?_) (F.args_zip_next_1 _))));let⟨o,u,v⟩:=t;exact wpAny_bind (wpAny_isInstance (T:="StopIteration") (b:=true) ⟨o,u,v⟩ isSubtype_stop (wpAny_pure (r _ j)))
end
abbrev eP(k:Bool)(h:Heap)(a:Addr):Heap:=h.push (BG k a)
abbrev eQ(k:Bool)(h:Heap)(a b:Addr):Heap:=(eP k h a).push (BG k b)
abbrev eR(k:Bool)(h:Heap)(a b:Addr):Heap:=(eQ k h a b).push { cls:=.type "tuple",data:=.seq (List.toArray [↥h.objs.size,.ref (eP k h a).objs.size]) }
abbrev eW(k:Bool)(h:Heap)(a b:Addr):Heap:=(eR k h a b).push { cls:=.type "tuple",data:=.seq (List.toArray [.none,.none]) }
abbrev Yo(k:Bool)(h:Heap)(a b:Addr):Heap:=(eW k h a b).push { cls:=.type "zip",data:=.fields (List.toArray [.none,.bool false,.bool false,.ref (eQ k h a b).objs.size,.ref (eR k h a b).objs.size]) }
theorem HH(k:Bool)(a b:Addr)(c d:Xt) :
  Meets (Builtin.«zip.__new__» ⟨[.type "zip",↥a,↥b],[]⟩) (λ_ e s=>Az k s.heap a c/\Az k s.heap b d/\e (.ok (.ret (.ref (eW k s.heap a b).objs.size))) { s with heap:=Yo k s.heap a b }) :=
 .of_wp λf w A e s h=>by
  let⟨f,g,i,j,l⟩:=s;let⟨m,n,h⟩:=h;let o:=sub_zip;let o:Az k (Shared.heap ⟨f,g,i,j,l⟩) a c:=m;let m:Az k (Shared.heap ⟨f.push (BG k a),g,i,j,l⟩) b d:=n.at λg f=>Heap.get?_push_of_some _ f
  wp_walk using UC o,UC m
  exact⟨Y,h⟩
section
variable {prog:Program} {w:World} {A:Around} {E:ZB} {s:Shared}
theorem Ln{k:Bool}{a b:Addr}{j l:Xt}{Q:ZB}(r:Az k s.heap a j)(t:Az k s.heap b l)
  (u:∀ c,BH k c (s.heap.objs.size+4) (s.heap.objs.size+2) (s.heap.objs.size+3) s.heap.objs.size (s.heap.objs.size+1) a b 0->(∀ d o,s.heap.get? d=⇑o->c.get? d=⇑o)->Q (.ref (s.heap.objs.size+4)) { s with heap:=c }) :
  wpAny (model prog w) A (call (.type "zip") [↥a,↥b]) Q E s:=by
 refine callType_new F.called_zip (by decide) (F.typeCall_zip_2 _ _) (F.newCall_zip_2 _ _) (λe=>F.args_object_init_3 e _ _) F.entry_zip_new (HH k a b j l) ⟨r,t,?_⟩;let e:(eP k s.heap a).objs.size=s.heap.objs.size+1:=Heap.size_push ..;let f:(eQ k s.heap a b).objs.size=s.heap.objs.size+2:=by rw[Heap.size_push,e]
 let g:(eR k s.heap a b).objs.size=s.heap.objs.size+3:=by rw[Heap.size_push,f]
 let m:(eW k s.heap a b).objs.size=s.heap.objs.size+4:=by rw[Heap.size_push,g]
 let h:(Yo k s.heap a b).get? (eW k s.heap a b).objs.size=⇑_:=Heap.get?_push_size _ rfl;let n:(Yo k s.heap a b).get? (eR k s.heap a b).objs.size=⇑_:=Heap.get?_push_of_some _ (Heap.get?_push_size _ rfl);let p:(Yo k s.heap a b).get? (eQ k s.heap a b).objs.size=⇑_:=Heap.get?_push_of_some _ (Heap.get?_push_of_some _ (Heap.get?_push_size _ rfl));let i:(Yo k s.heap a b).get? (eP k s.heap a).objs.size=⇑(BG k b):=Heap.get?_push_of_some _ (Heap.get?_push_of_some _ (Heap.get?_push_of_some _ (Heap.get?_push_size _ rfl)));let q:(Yo k s.heap a b).get? s.heap.objs.size=⇑(BG k a):=Heap.get?_push_of_some _ (Heap.get?_push_of_some _ (Heap.get?_push_of_some _ (Heap.get?_push_of_some _ (Heap.get?_push_size _ rfl))));show _/\_;rw[f,g,m]at h;rw[e,f]at p;rw[g]at n;rw[e]at i;rw[m];refine⟨⟨_,h,1⟩,u _ ⟨h,p,⟨P,n⟩,?_,?_⟩ λd o x=>Heap.get?_push_of_some _ (Heap.get?_push_of_some _ (Heap.get?_push_of_some _ (Heap.get?_push_of_some _ (Heap.get?_push_of_some _ x))))⟩
 ·cases k
  ·exact⟨_,q,V⟩
  ·exact⟨_,q,V⟩
 ·cases k
  ·exact⟨_,i,V⟩
  ·exact⟨_,i,V⟩
end
def JZ(K:Frag)(k:Bool)(H:Hp)(a:Addr)(b:List V):Prop:=match k with
 | true=>bM K H a b
 | false=>dG K H a b
def vE{c:Cx}{e:_L2.St}{H:Hp}{s:Shared}{k:Bool}{d:Addr}{b:List V}(I:Inv c f e H s)(h:JZ c.K k H d b):∃ a:List Value,cD b a/\Az k s.heap d a.toArray/\↑b<=sizeLine:=by
 cases k
 ·let⟨a,r,p,z⟩:=I.tuple h;exact⟨a,r,p,z⟩
 ·let⟨a,r,p,z⟩:=I.list h;exact⟨a,r,p.isList,z⟩
def J1{a:Cx}{f:_L2.St}{H:Hp}{s:Shared}{k:Bool}{b:Addr}{c d:List V}(I:Inv a g f H s)(h:JZ a.K k H b c)(e:JZ a.K k H b d):c=d:=by
 cases k
 ·exact I.Bp h e
 ·exact I.ED h e
def N3{k:Bool}{h:Heap}{b:Addr}{c:Xt}(x:Az k h b c):b<h.objs.size:=by
 cases k
 ·let⟨o,a,_⟩:=x;exact Heap.lt_size a
 ·let⟨o,a,_⟩:=x;exact Heap.lt_size a
def ZR(K:Frag)(k:Bool)(c d:Addr):It :=
 ⟨λi H=>∃ a b x y,JZ K k H c a/\JZ K k H d b/\a[i]?=⇑x/\b[i]?=⇑y,λi H v e=>∃ p x y,H p=none/\v=↥p/\e=aO H p (.tup [x,y])/\(∀ a,JZ K k H c a->a[i]?=⇑x)/\∀ b,JZ K k H d b->b[i]?=⇑y,λi H=>∃ a b,JZ K k H c a/\JZ K k H d b/\(↑a<=i\/↑b<=i)⟩
theorem N4{P:Program}{ae:World}{K:Frag}{x1:Nat}{N:Bool}{z TI TO g h q r:Addr}(D:ZipApart z TI TO g h q r) :
  Hg P ae K (.Tuple Wj x1 La) (ZR K N q r) [z,TI,TO,g,h] z (λj k=>BH N k z TI TO g h q r j) where
 mem:=by simp
 obj:=λj k c b a=>by
  let⟨l,m,⟨x,y,n⟩,p,d⟩:=c;simp only[List.mem_cons,List.not_mem_nil,or_false]at a;rcases a with rfl|rfl|rfl|rfl|rfl
  ·exact⟨_,l,λv e=>by cases e⟩
  ·exact⟨_,m,λv e=>by cases e⟩
  ·exact⟨_,n,λv e=>by cases e⟩
  ·exact p.obj
  ·exact d.obj
 keep:=λj k O c f=>by
  let⟨l,m,⟨x,y,n⟩,p,d⟩:=c;exact⟨f z (by simp) _ l,f TI (by simp) _ m,⟨x,y,f TO (by simp) _ n⟩,p.at λo e=>f g (by simp) o e,d.at λo e=>f h (by simp) o e⟩
 item:=by
  intro X A B C R j S s T U E I t c F;subst A B C;let⟨xs,ys,M,W,u,w,e1,e2⟩:=F;let⟨us,G,H,_⟩:=vE I u;let⟨vs,J,L,_⟩:=vE I w;let⟨ab,i,ru⟩:=G.get e1;let⟨v,ev,rv⟩:=J.get e2;refine HG (x:=ab) (y:=v) D c H L (by simpa using i) (by simpa using ev) λO i g2 g3 g4 g5 g7=>?_;refine⟨Y,wpAny_letOwnedTupleGo_zip i λd ag i=>?_⟩;have ne:∀ {b o},s.heap.get? b=⇑o->s.heap.objs.size≠b:=λe=>Nat.ne_of_gt (Heap.lt_size e)
  let k2:∀ b o,b∉[z,TI,TO,g,h]->s.heap.get? b=⇑o->d.get? b=⇑o:=λb o a e=>by
   simp only[List.mem_cons,List.not_mem_nil,or_false,not_or]at a;exact i.extBut _ _ a.1 (g7 b o a.1 a.2.2.1 a.2.2.2.1 a.2.2.2.2 e)
  let I2:Inv X S T (aO U s.heap.objs.size (.tup [M,W])) { s with heap:=d,toks:=s.toks } := ZQ I k2 t (fk _) (by show 2<=sizeLine;decide) (.cons ru (.cons rv .nil)) ⟨_,i.extBut _ _ (ne c.z) g5,1,Y⟩;refine⟨↥s.heap.objs.size,_,I2,1,⟨_,M,W,I.hok.fresh (fk _),V,λW M=>?_,λW M=>?_⟩,?_,λb a=>?_⟩
  ·rw[J1 I M u];exact e1
  ·rw[J1 I M w];exact e2
  ·exact⟨ag,i.extBut _ _ D.TIz (g7 _ _ D.TIz D.TITO D.TIi1 D.TIi2 c.ti),⟨ab,v,i.extBut _ _ D.TOz g2⟩,g3.at λo e=>i.extBut _ _ D.i1z e,g4.at λo e=>i.extBut _ _ D.i2z e⟩
  ·let pQ:∃ o,s.heap.get? b=⇑o:=by
    let⟨l,m,⟨x,y,n⟩,p,d⟩:=c;simp only[List.mem_cons,List.not_mem_nil,or_false]at a;rcases a with rfl|rfl|rfl|rfl|rfl
    ·exact⟨_,l⟩
    ·exact⟨_,m⟩
    ·exact⟨_,n⟩
    ·exact p.obj.imp λ_ e=>e.1
    ·exact d.obj.imp λ_ e=>e.1
   let⟨o,e⟩:=pQ;rw[aL (ne e).symm];exact (t b a).1
 done:=by
  intro X A B C R j S s T U E I t c F;subst A B C;let⟨xs,ys,u,w,e⟩:=F;let⟨us,G,H,_⟩:=vE I u;let⟨vs,J,L,_⟩:=vE I w;let q:=↑G;let r:=↑J;refine Lm (I.ok.hd R) D c H L (e.imp (λe=>by simp;lia) (λe=>by simp;lia)) λO f=>⟨1,Ry (m:=s.toks) (c:=[z,TI,TO,g,h]) I (λb o a e=>?_) t⟩;simp only[List.mem_cons,List.not_mem_nil,or_false,not_or]at a;exact f b o a.1 a.2.2.1 a.2.2.2.1 a.2.2.2.2 e
 self:=λ_ _ _ _ _ c k=>wpAny_pyIter_zip c.z k
def o0(K:Frag)(d:TA):TI:=fun a H R=>d a H λe a=>∃ k b c f g,e=[↥b,↥c]/\JZ K k a b f/\JZ K k a c g/\R (ZR K k b c) a
theorem Wk{a:Cx}{o:Nat}{d b:Expr}{g:TA}{p:Pos}(q:Gl a "zip")(r:a.mg "zip"=none)(t:PA a [d,b] g)
  (u:starEach [d,b] a.env=[(false,eval d a.env),(false,eval b a.env)]:=by rfl) (h:starEach [b] a.env=[(false,eval b a.env)]:=by rfl):PI a (.Tuple L o M) (.Call (.Name "zip" p) [d,b] [] v) (o0 a.K g):=by
 intro i s j H R I l;refine Call_ (vp I q r boot_zip (PyProof.Rows.callWith_type1 (dF (t v i s j H _ I l) λw e ⟨l,k,c,x,f⟩=>?_) (by rw[u,h]) (by rw[h];rfl)));let⟨l,y,z,H,I,A,f,B,C⟩:=f;subst A;let⟨D,F,rfl,G,J⟩:=x.two;cases (show D=Value.ref y from G);cases (show F=Value.ref z from J);let⟨w,w,l,_⟩:=vE c f;let⟨w,x,f,_⟩:=vE c B;let w:=N3 l;let x:=N3 f;refine Ln l f λl f y=>wpAny_pyIter_zip f.z ?_;have z:Inv a i j k { e with heap:=l,toks:=e.toks }:=c.kept y;refine⟨K,_,k,1,z,N4 (zipApart_new w x),f,λb m=>?_,C⟩
 let n:e.heap.objs.size<=b:=by
  simp only[List.mem_cons,List.not_mem_nil,or_false]at m;rcases m with rfl|rfl|rfl|rfl|rfl
  ·exact Nat.le_add_right _ _
  ·exact Nat.le_add_right _ _
  ·exact Nat.le_add_right _ _
  ·exact fk _
  ·exact Nat.le_add_right _ _
 exact c.KU n (c.hok.fresh n)
theorem RA{K:Frag}{k:Bool}{f:Addr}{b c:List V}{q:TG}{r:TS}{D:Ends}{a:_L2.St}{H:Hp}(d:Nat->_L2.St->Hp->Prop)(I:↑b=↑c)(u:d 0 a H)
  (v:∀ i a H,i<=↑b->d i a H->JZ K k H f b/\JZ K k H g c)
  (w:∀ i x y p a H,b[i]?=⇑x->c[i]?=⇑y->H p=none->d i a H->q ↥p a (aO H p (.tup [x,y])) fun h j=>r (D.lp (d (i+1))) h j) (z:∀ a H,d ↑b a H->D.nx a H) :
  ∃ W:Nat->Nat->_L2.St->Hp->Prop,(∃ m,W 0 m a H)/\∀ i m a H,W i m a H->
   ((ZR K k f g).stop i H/\D.nx a H)\/((ZR K k f g).go i H/\∃ N:_L2.St->Hp->Prop,(∀ l e,N l e->∃ t,t<m/\W (i+1) t l e)/\∀ x e,(ZR K k f g).Nh i H x e->q x a e fun h j=>r (D.lp N) h j):=by
 refine⟨λi m a H=>m=↑b-i/\i<=↑b/\d i a H,⟨↑b,by simp,Nat.zero_le _,u⟩,?_⟩;rintro i m a H ⟨rfl,s,p⟩;let⟨n,o⟩:=v i a H s p;by_cases s:i<↑b
 ·let A:i<↑c:=by lia
  refine .inr ⟨⟨b,c,b[i],c[i],n,o,by simp[s],by simp[A]⟩,d (i+1),fun l e A=>⟨↑b-(i+1),Q,1,s,A⟩,λx e y=>?_⟩;let⟨B,C,F,G,rfl,rfl,s,A⟩:=y;exact w i C F B a _ (s b n) (A c o) G p
 ·let A:i=↑b:=by lia
  subst A;exact .inl ⟨⟨b,c,n,o,.inl (fk _)⟩,z a H p⟩
def BI(lo:Int)(n:Nat):List V:=(List.range n).map λi:Nat=>V.int (lo+i)
section
variable {X:Cx}
def ER:jN X (.type "range") (λa H Q=>∃ i j:Int,a=[.int i,.int j]/\∀ p,H p=none->Q ↥p (aO H p (.Et i j))):=by
 intro c s d H a e Q I r h;let⟨i,j,rfl,q⟩:=h;let⟨f,g,rfl,⟨t,rfl⟩,⟨b,rfl⟩⟩:=r.two;refine call_range_2 ⟨↥s.heap.objs.size,_,I.laid (o:=.Et i j) (λc o e=>Heap.get?_push_of_some _ e) (fk _) ⟨t,b,s.toks,Heap.get?_push_size _ rfl⟩,1,q _ (I.hok.fresh (fk _))⟩
theorem rW(h:X.calm=true):jN X (.type "list") (λc H Q=>∃ p i j,c=[↥p]/\H p=⇑(.Et i j)/\(-(2^62)<=i/\i<2^62/\-(2^62)<=j/\j<2^62)/\(j-i).toNat<=sizeLine/\
  ∀ l,H l=none->Q ↥l (aO H l (.lst (BI i (j-i).toNat)))):=by
 intro D s F H c a Q I r d;let⟨p,i,j,rfl,hp,⟨m,o,q,w⟩,x,y⟩:=d;let⟨u,rfl,z⟩:=r.one;cases (show u=Value.ref p from z);let⟨t,u,v,e⟩:=(show gh X.prog X.w H s.heap p (.Et i j) from I.hok p _ hp)
 let A:Builtin.Range.rangeSize i j 1=(((j-i).toNat:Nat):Int):=by rw[rangeSize_one];split <;> lia
 let d:(j-i).toNat<=2^24:=by have:=sizeLine_eq;lia
 refine call_list_range (I.ok.hd h) e (small_one m o q w) A d λw m d o q r f=>?_;refine⟨↥s.heap.objs.size,_,I.laid (o:=.lst (BI i (j-i).toNat)) (t':=m) q (fk _) ⟨?_,d.toList,o,?_,by simpa using r⟩,1,y _ (I.hok.fresh (fk _))⟩
 ·unfold BI;simpa using x
 ·let b:↑d.toList=(j-i).toNat:=by simpa using f.1
  let B:∀ (n:Nat) (a:WP) (lo:Int),↑a=n->(∀ k v,a[k]?=⇑v->∃ t,v=Value.int (lo+(k:Nat)*1) t)->cD ((List.range n).map λi:Nat=>V.int (lo+i)) a:=by
   intro n
   induction n with
   | zero=>intro a lo b _;cases a with
    | nil=>exact .nil
    | cons=>simp at b
   | succ n C =>
    intro a lo b g
    cases a with
    | nil=>simp at b
    | cons u a =>
     rw[List.range_succ_eq_map,jq,List.map_map];refine .cons ?_ ?_
     ·let⟨t,e⟩:=g 0 u rfl;exact⟨t,by rw[e];simp⟩
     ·have:=C a (lo+1) (by simpa using b) λk v e=>by
       let⟨t,a⟩:=g (k+1) v (by simpa using e);exists t;rw[a];have:lo+((k+1:Nat):Int)*1=lo+1+(k:Int)*1:=by lia
       rw[this]
      let a:((λi:Nat=>V.int (lo+i)) ∘ Nat.succ)=λi:Nat=>V.int (lo+1+i):=by
       funext i;simp only[Function.comp,Nat.succ_eq_add_one];have:lo+((i+1:Nat):Int)=lo+1+(i:Int):=by lia
       rw[this]
      rw[a];exact this
  exact B _ _ i b λk v e=>f.2 k v (by simpa using e)
end
section
variable {X:Cx}
def N5{j:Int}(a:0<j)(b:j<10^70):j.natAbs.log2<9000:=by
 let h:j.natAbs<2^9000:=Nat.lt_trans (show j.natAbs<10^70 by lia) nofun;exact (Nat.log2_lt ∅).mpr h
theorem y9:qY X (binaryOp .FloorDiv) (rI (λ_ j=>0<j/\j<10^70) λi j=>.int (i / j)):=eI λi j _ _ _ _ _ a q=>by
 let b:(0:Int)<j:=a.1;exact floordiv_int ∅ (by rw[Int.fdiv_eq_ediv_of_nonneg i ∅];exact q) (.inl (PyProof.noPylong_of_log2 (N5 a.1 a.2)))
def ES(g:X.calm=true):jN X (.builtin "sum") (λd H Q=>∃ (p:Addr) (a:Wp),d=[↥p]/\bM X.K H p (a.map V.int)/\Q (.int a.sum) H):=by
 intro j s l H d m Q I r h;let⟨p,a,rfl,i,q⟩:=h;let⟨u,rfl,b⟩:=r.one;cases (show u=Value.ref p from b);let⟨b,h,j,l⟩:=I.list i;let e:IntsAre b a:=intsAre_of h;let h:AllInts b.toArray:=e.allInts;let⟨i,k⟩:=h.items;let f:=j.isList;let c:(numsOf b.toArray.toList).sum=a.sum:=by rw[show b.toArray.toList=b from rfl,e.numsOf]
 rw[k]at f c;rw[nums_intItems]at c;refine PySem.sum_intListG (I.ok.hd g) f λf h b e=>⟨.int a.sum,H,I.kept e,⟨b,?_⟩,q⟩;rw[preSum_eq,tS (by simp),c]
end
end _cN
namespace _gn
abbrev Row:=List (Int × Int)
def iL(t:Row)(s e:Int):Row :=
 match t.getLast? with
 | some p=>if p.2=s then t.dropLast++[(p.1,e)] else t++[(s,e)]
 | none=>t++[(s,e)]
def dh(t:Row)(p:Int × Int):Row:=if p.1=p.2 then t else iL t p.1 p.2
def cA(r:Row):Row:=r.foldl dh []
def run(s:Int):Nat->List Int
 | 0=>[]
 | n+1=>s::run (s+1) n
def gf(p:Int × Int):Wp:=run p.1 (p.2-p.1).toNat
def bw(r:Row):Wp:=r.flatMap gf
def cE(a:Wp):Row:=a.foldl (λt n=>iL t n (n+1)) []
def eG(s:Int)(n:Nat):↑(run s n)=n:=by
 induction n generalizing s with
 | zero=>rfl
 | succ n a=>simp[run,a]
theorem iA(s e:Int):iL [] s e=[(s,e)]:=rfl
def i7(t:Row){q:Int × Int}{s:Int}{e:Int}(h:q.2=s):iL (t++[q]) s e=t++[(q.1,e)]:=by
 simp[iL,h]
def iB(t:Row){q:Int × Int}{s:Int}{e:Int}(h:¬ q.2=s):iL (t++[q]) s e=t++[q]++[(s,e)]:=by
 simp[iL,h]
def Lo(t:Row)(a s e:Int):iL (t++[(a,s)]) s e=t++[(a,e)]:=by
 simp[iL]
def zc(t:Row)(a s:Int)(n:Nat):(run s n).foldl (λt n=>iL t n (n+1)) (t++[(a,s)])=t++[(a,s+n)]:=by
 induction n generalizing s with
 | zero=>simp[run]
 | succ n b =>
  rw[run,jJ,Lo,b];have:s+1+(n:Int)=s+((n+1:Nat):Int):=by lia
  rw[this]
def N6(t:Row)(p:Int × Int)(h:p.1<=p.2):dh t p=(gf p).foldl (λt n=>iL t n (n+1)) t:=by
 let⟨s,e⟩:=p;simp only at h;unfold dh gf;by_cases a:s=e
 ·subst a;simp[run]
 ·obtain⟨n,b⟩:∃ n:Nat,e=s+1+n:=⟨(e-s-1).toNat,Q⟩;subst b;rw[if_neg a];let a:((s,s+1+(n:Int)).2-(s,s+1+(n:Int)).1).toNat=n+1:=by simp only;lia
  rw[a,run,jJ];simp only;rcases kO t with rfl|⟨u,q,rfl⟩
  ·rw[iA,iA];exact (zc [] s (s+1) n).symm
  ·by_cases a:q.2=s
   ·rw[jH,i7 u a,i7 u a,zc]
   ·rw[jH,iB u a,iB u a,zc]
theorem mq{d e b:Type}(f:b->e->b)(g:d->List e):∀ (l:List d) (c:b),(l.flatMap g).foldl f c=l.foldl (λc a=>(g a).foldl f c) c
 | [],_=>rfl
 | a::l,c=>by rw[iY,List.foldl_append,jJ,mq f g l]
def mw(r:Row)(h:∀ p∈r,p.1<=p.2):cA r=cE (bw r):=by
 unfold cA cE bw;rw[mq]
 let a:∀ (r:Row),(∀ p∈r,p.1<=p.2)->∀ t:Row,r.foldl dh t=r.foldl (λc b=>(gf b).foldl (λt n=>iL t n (n+1)) c) t:=by
  intro r
  induction r with
  | nil=>intro _ t;rfl
  | cons p r b =>
   intro h t;rw[jJ,jJ,N6 t p (h p (sE ..))];exact b (λq b=>h q (j5 _ b)) _
 exact a r h []
def xm(t:Row)(s e:Int):↑(iL t s e)<=↑t+1:=by
 rcases kO t with rfl|⟨u,q,rfl⟩
 ·rw[iA];simp
 ·by_cases a:q.2=s
  ·rw[jH,i7 u a];simp
  ·rw[jH,iB u a];simp
def foldl_take_succ{a b:Type}(f:b->a->b)(l:List a)(c:b)(i:Nat)(x:a)(h:l[i]?=⇑x):(l.take (i+1)).foldl f c=f ((l.take i).foldl f c) x:=by
 rw[List.take_add_one,h,List.foldl_append];rfl
end _gn
namespace _gn
def jc(r:Row):Int:=(r.map λp=>p.2-p.1).sum
theorem RB:jc []=0:=rfl
def ET(p:Int × Int)(r:Row):jc (p::r)=(p.2-p.1)+jc r:=by simp[jc]
def N7(r:Row)(p:Int × Int):jc (r++[p])=jc r+(p.2-p.1):=by simp[jc]
def zd(r q:Row):jc (r++q)=jc r+jc q:=by simp[jc]
def take_snoc{a:Type}{l:List a}{i:Nat}{x:a}(h:l[i]?=⇑x):l.take (i+1)=l.take i++[x]:=by rw[List.take_add_one,h];rfl
end _gn
namespace _gn
def nP(s:Int)(n:Nat):run s (n+1)=run s n++[s+n]:=by
 induction n generalizing s with
 | zero=>simp[run]
 | succ n a =>
  rw[run,a,run];have:s+1+(n:Int)=s+((n+1:Nat):Int):=by lia
  rw[this];rfl
def BJ{a n:Int}(h:a<=n):gf (a,n+1)=gf (a,n)++[n]:=by
 unfold gf;let e:((a,n+1).2-(a,n+1).1).toNat=((a,n).2-(a,n).1).toNat+1:=by simp only;lia
 rw[e,nP];have:a+((((a,n).2-(a,n).1).toNat:Nat):Int)=n:=by simp only;lia
 simp only at this ⊢;rw[this]
def EU(n:Int):gf (n,n+1)=[n]:=by
 have:=BJ (a:=n) (n:=n) (Int.le_refl _);rw[this];let e:gf (n,n)=[]:=by unfold gf;simp[run]
 rw[e];rfl
def cU(r q:Row):bw (r++q)=bw r++bw q:=by unfold bw;rw[List.flatMap_append]
def eX(p:Int × Int):bw [p]=gf p:=by simp[bw]
def HJ(t:Row)(n:Int)(h:∀ p∈t,p.1<=p.2):bw (iL t n (n+1))=bw t++[n]:=by
 rcases kO t with rfl|⟨u,q,rfl⟩
 ·rw[iA,eX,EU];rfl
 ·rw[jH]at h ⊢;by_cases a:q.2=n
  ·let⟨b,c⟩:=q;simp only at a;subst a;let d:b<=c:=h (b,c) (by simp);rw[i7 u rfl,cU,cU,eX,eX,BJ d,jI]
  ·rw[iB u a,cU,eX,EU]
def J2(t:Row)(n:Int)(h:∀ p∈t,p.1<=p.2):∀ p∈iL t n (n+1),p.1<=p.2:=by
 rcases kO t with rfl|⟨u,q,rfl⟩
 ·rw[iA];intro p a;simp at a;subst a;show n<=n+1;lia
 ·rw[jH]at h ⊢;by_cases b:q.2=n
  ·rw[i7 u b];intro p a;rcases List.mem_append.mp a with z|z
   ·exact h p (oh _ z)
   ·simp at z;subst z;have:=h q (by simp);show q.1<=n+1;lia
  ·rw[iB u b];intro p a;rcases List.mem_append.mp a with z|z
   ·exact h p z
   ·simp at z;subst z;show n<=n+1;lia
def dz(a:Wp):bw (cE a)=a:=by
 let b:∀ (a:Wp) (t:Row),(∀ p∈t,p.1<=p.2)->bw (a.foldl (λt n=>iL t n (n+1)) t)=bw t++a:=by
  intro a
  induction a with
  | nil=>intro t _;simp
  | cons n a c =>
   intro t h;rw[jJ,c _ (J2 t n h),HJ t n h,jI];rfl
 have:=b a [] (λp c=>by cases c);simpa [cE,bw] using this
def jy(a:Wp):∀ p∈cE a,p.1<=p.2:=by
 let b:∀ (a:Wp) (t:Row),(∀ p∈t,p.1<=p.2)->∀ p∈a.foldl (λt n=>iL t n (n+1)) t,p.1<=p.2:=by
  intro a
  induction a with
  | nil=>intro t h;exact h
  | cons n a c=>intro t h;exact c _ (J2 t n h)
 exact b a [] (λp c=>by cases c)
end _gn
namespace _gn
def xo(p:Int × Int)(h:p.1<=p.2):(↑(gf p):Int)=p.2-p.1:=by
 unfold gf;rw[eG];lia
theorem qI:∀ (r:Row),(∀ p∈r,p.1<=p.2)->(↑(bw r):Int)=jc r
 | [],_=>rfl
 | p::r,h=>by
  let a:=qI r λq a=>h q (j5 _ a);have a:=xo p (h p (sE ..));have e:bw (p::r)=gf p++bw r:=rfl;rw[e,dm,ET];lia
end _gn
namespace _gn
open _L2 _cN
structure b9(K:Frag)(mg:Ya)(x:Str)(st:Stmt)(ps:UV)(a:Addr)(d:FuncData):Prop where
 F:Rv K x x st a d
 b:Binds K d ps []
 m:mg x=⇑↥a
section
variable {X:Cx}
theorem aC{x:Str}{h:Stmt}{b:UV}{f:Addr}{j k:Nat}{c:Sp}{e:Expr}{a:List Expr}{t:TA}{p g:Pos}(d:b9 X.K X.mg x h b f i)(G:bg X.prog X.w X.K X.mg X.zt cO k f i b c)(l:iK j X.A)
  (m:PA X (e::a) t) (n:k<=j:=by first|decide|lia) (o:Gl X x:=by rfl) (q:(x == ("__debug__":Str))=false:=by decide) (r:starEach (e::a) X.env=(false,eval e X.env)::starEach a X.env:=by rfl)
  (u:(backTo g (starEach a X.env)).any (·.1)=false:=by rfl):PE X (.Call (.Name x p) (e::a) [] g) (JG c [] E0 t) :=
 JI G (l.mono n) o d.m d.F.kp d.b .nil bL m q r u
theorem vF{b:Stmt}{t c:TS}(h:PS X b t)(d:∀ D a H,c D a H->t D a H):PS X b c:=λe s a H D I q=>h e s a H D I (d D a H q)
theorem o4{A:Around}{k:Nat}(a:iK k A):A.units<cLine:=a.VR
end
def cy(l:Addr)(H b:Hp):Prop:=∀ a o,H a=⇑o->a≠l->b a=⇑o
theorem aI.keep{l:Addr}{H a:Hp}(s:aI H a):cy l H a:=λb o e _=>s b o e
theorem cy.refl(l:Addr)(H:Hp):cy l H H:=λ_ _ e _=>e
theorem cy.trans{l:Addr}{H a b:Hp}(d:cy l H a)(e:cy l a b):cy l H b:=λc o f n=>e c o (d c o f n) n
theorem aH(l:Addr)(H:Hp)(o:HO):cy l H (aO H l o):=λa u e n=>by rw[aL n];exact e
theorem bS{l:Addr}{H a b:Hp}(h:H l=none)(d:aI H a)(f:cy l a b):aI H b:=λc o e=>f c o (d c o e) (aA e h)
theorem ao{H:Hp}{p:Addr}(h:H p=none)(o:HO):aI H (aO H p o):=λb u q=>by rw[aL (aA q h)];exact q
def iM{l a:Addr}{H b:Hp}(k:cy l H b)(n:a≠l)(h:b a=none):H a=none:=by
 cases q:H a with
 | none=>rfl
 | some o=>rw[k a o q n]at h;cases h
def cX(H:Hp)(l c:Addr):Prop:=c≠l/\∃ (a:Wp) (i d r:Int),H l=⇑(.lst [↥c,.int i,.int d,.int r])/\H c=⇑(.lst (a.map V.int))/\0<=i/\0<=r/\r<2147483647
def cX.same{H a:Hp}{l c:Addr}(s:cX H l c)(k:aI H a):cX a l c:=by
 let⟨n,b,i,d,r,e,f,g⟩:=s;exact⟨n,b,i,d,r,k _ _ e,k _ _ f,g⟩
def cX.keep{H a:Hp}{l c m:Addr}(s:cX H l c)(k:cy m H a)(b:l≠m)(d:c≠m):cX a l c:=by
 let⟨n,e,i,f,r,g,h,j⟩:=s;exact⟨n,e,i,f,r,k _ _ g b,k _ _ h d,j⟩
def cX.ne{H:Hp}{l c a:Addr}(s:cX H l c)(h:H a=none):l≠a/\c≠a:=by
 let⟨n,e,i,f,r,b,d,g⟩:=s;exact⟨aA b h,aA d h⟩
def cX.has{H:Hp}{l c:Addr}(s:cX H l c):(∃ o,H l=⇑o)/\∃ o,H c=⇑o:=by
 let⟨n,d,i,e,r,a,b,f⟩:=s;exact⟨⟨_,a⟩,⟨_,b⟩⟩
theorem ZS{a b c d:V}:oz [a,b,c,d] 0=⇑a:=rfl
theorem Wm{a b c d:V}:oz [a,b,c,d] 1=⇑b:=rfl
theorem RC{a b c d:V}:oz [a,b,c,d] 2=⇑c:=rfl
theorem ZT{a b c d:V}:oz [a,b,c,d] 3=⇑d:=rfl
theorem CY{a b:V}:oz [a,b] 0=⇑a:=rfl
theorem HK{a b:V}:oz [a,b] 1=⇑b:=rfl
class inductive sU
 | mk (l d:Addr) (b:Int) (_:vs=[↥l,.int b]) (_:cX H l d) (_:0<b) (_:b<10^70) (_ :
 ∀ (v:Int) (c:Hp),0<=v->v<b->cX c l d->(∀ a,a≠l->c a=H a)->Q (.int v) c):sU vs H Q E
class inductive UD(K:Frag)
 | mk (a:Addr) (d:Wp) (_:vs=[↥a]) (_:bM K H a (d.map V.int)) (_ :
 ∀ (l c:Addr) (b:Hp),cX b l c->aI H b->H l=none->H c=none->Q ↥l b)
def o8:V->Bool
 | .int _ | .bl _ | .str _ | .fQ=>true
 | _=>false
def N8(k:Bool)(H:Hp)(a:Addr)(b:List V):Prop:=match k with
 | true=>H a=⇑(.lst b)
 | false=>H a=⇑(.tup b)
def N8.same{k:Bool}{H a:Hp}{b:Addr}{c:List V}(h:N8 k H b c)(s:aI H a):N8 k a b c:=by
 cases k
 ·exact s _ _ h
 ·exact s _ _ h
def N8.sq{K:Frag}{k:Bool}{H:Hp}{a:Addr}{b:List V}(h:N8 k H a b):JZ K k H a b:=by
 cases k
 ·exact dG.of h
 ·exact bM.of h
def Eqv(H:Hp):Nat->V->V->Prop
 | 0,_,_=>False
 | n+1,x,y=>(o8 x=true/\x=y)\/∃ (k:Bool) (c d:Addr) (a b:List V),x=↥c/\y=↥d/\N8 k H c a/\N8 k H d b/\↑a=↑b/\
   ∀ (i:Nat) (u v:V),a[i]?=⇑u->b[i]?=⇑v->Eqv H n u v
theorem Eqv.same{H a:Hp}(s:aI H a):∀ {n:Nat} {x y:V},Eqv H n x y->Eqv a n x y
 | 0,_,_,h=>h
 | n+1,x,y,h=>by
  rcases h with h|⟨k,b,c,d,e,f,g,i,j,l,m⟩
  ·exact .inl h
  ·exact .inr ⟨k,b,c,d,e,f,g,i.same s,j.same s,l,λi u v b c=>Eqv.same s (m i u v b c)⟩
theorem Eqv.int{H:Hp}{n:Nat}(i:Int):Eqv H (n+1) (.int i) (.int i):=.inl ⟨V⟩
def vG(n:Nat):Sp:=λa H Q _=>∃ x y,a=[x,y]/\Eqv H n x y/\∀ a,aI H a->Q (.bl true) a
class inductive J3
 | mk (i:Int) (_:vs=[.int i]) (_:Q (.bl true) H)
section
variable (K:Frag)
def ZU:kitOne K (.type "bool") (.type "bool")=⇑true:=by rfl
def ZV:kitOne K (.type "int") (.type "bool")=⇑false:=by kernel_rfl
def ZW:kitOne K (.type "int") (.type "int")=⇑true:=by rfl
def pb:kitOne K (.type "str") (.type "bool")=⇑false:=by kernel_rfl
def pc:kitOne K (.type "str") (.type "int")=⇑false:=by kernel_rfl
def ZX:kitOne K (.type "str") (.type "str")=⇑true:=by rfl
def pf:kitOne K (.type "list") (.type "bool")=⇑false:=by kernel_rfl
def ph:kitOne K (.type "list") (.type "int")=⇑false:=by kernel_rfl
def pj:kitOne K (.type "list") (.type "str")=⇑false:=by kernel_rfl
def ZY:kitOne K (.type "list") (.type "list")=⇑true:=by rfl
def k_lt:kitOne K (.type "list") (.type "tuple")=⇑false:=by kernel_rfl
def pr:kitOne K (.type "tuple") (.type "bool")=⇑false:=by kernel_rfl
def pu:kitOne K (.type "tuple") (.type "int")=⇑false:=by kernel_rfl
def px:kitOne K (.type "tuple") (.type "str")=⇑false:=by kernel_rfl
def py:kitOne K (.type "tuple") (.type "list")=⇑false:=by kernel_rfl
def pz:kitOne K (.type "tuple") (.type "tuple")=⇑true:=by rfl
end
def Yp(k:Bool):Value:=.type (if k then "list" else "tuple")
def N8.ty{K:Frag}{k:Bool}{H:Hp}{a:Addr}{b:List V}(h:N8 k H a b):j6 K H ↥a (Yp k):=by
 cases k
 ·exact j6.tup h
 ·exact j6.lst h
def pB(K:Frag)(k:Bool):kitOne K (Yp k) (.type "bool")=⇑false:=by cases k;exact pr K;exact pf K
def pE(K:Frag)(k:Bool):kitOne K (Yp k) (.type "int")=⇑false:=by cases k;exact pu K;exact ph K
def pM(K:Frag)(k:Bool):kitOne K (Yp k) (.type "str")=⇑false:=by cases k;exact px K;exact pj K
def ZZ(K:Frag)(k:Bool):kitOne K (Yp k) (.type "list")=⇑k:=by cases k;exact py K;exact ZY K
def Z0(K:Frag)(k:Bool):kitOne K (Yp k) (.type "tuple")=⇑(!k):=by cases k;exact pz K;exact k_lt K
def jW(H:Hp)(a:Addr)(p:Int × Int):Prop:=H a=⇑(.tup [.int p.1,.int p.2])
abbrev bC(H:Hp):List Addr->Row->Prop:=Paired (jW H)
inductive bP(H:Hp)(r:Addr)(row:Row):Prop
 | mk (a:WF) (_:H r=⇑(.lst (a.map V.ref))) (_:bC H a row)
theorem bC.tups{H b:Hp}{c:WF}{d:Row}(h:bC H c d)(t:∀ a e,H a=⇑(.tup e)->b a=⇑(.tup e)):bC b c d:=Paired.AB h λa p f=>t a _ f
theorem bC.same{H a:Hp}{b:WF}{c:Row}(h:bC H b c)(s:aI H a):bC a b c:=h.tups λd f e=>s d _ e
def bP.same{H a:Hp}{r:Addr}{b:Row}(h:bP H r b)(s:aI H a):bP a r b:=by
 let⟨c,d,e⟩:=h;exact⟨c,s _ _ d,e.same s⟩
theorem bC.keep{H a:Hp}{b:WF}{c:Row}{l:Addr}{d:List V}(h:bC H b c)(f:H l=⇑(.lst d))(s:cy l H a):bC a b c :=
 h.tups λg i e=>s g _ e (cQ e f)
def bP.keep{H a:Hp}{r:Addr}{b:Row}{l:Addr}{c:List V}(h:bP H r b)(d:H l=⇑(.lst c))(n:r≠l)(s:cy l H a):bP a r b:=by
 let⟨e,f,g⟩:=h;exact⟨e,s _ _ f n,g.keep d s⟩
theorem bC.get{H:Hp}:∀ {b:WF} {row:Row} {i:Nat} {a:Addr},bC H b row->b[i]?=⇑a->∃ p,row[i]?=⇑p/\jW H a p
 | _,_,_,_,.nil,e=>by simp at e
 | _,_,0,_,.cons r _,e=>by simp at e;subst e;exact⟨Y,r⟩
 | _,_,i+1,a,.cons _ t,e=>by
  let⟨p,c,d⟩:=bC.get (i:=i) (a:=a) t (by simpa using e);exact⟨p,by simpa using c,d⟩
def bC.snoc{H:Hp}{a:WF}{b:Row}{c:Addr}{p:Int × Int}(h:bC H a b)(e:jW H c p):bC H (a++[c]) (b++[p]):=by
 induction h with
 | nil=>exact .cons e .nil
 | cons r _ d=>exact .cons r d
theorem bC.split{H:Hp}:∀ {as:WF} {row:Row} {p:Int × Int},bC H as (row++[p])->∃ a b,as=a++[b]/\bC H a row/\jW H b p
 | as,[],p,h=>by
  cases h with
  | cons r t=>cases t;exact⟨[],Y,.nil,r⟩
 | as,q::row,p,h=>by
  cases h with
  | cons r t =>
   let⟨a,b,rfl,c,d⟩:=bC.split (row:=row) (p:=p) t;exact⟨_::a,b,1,.cons r c,d⟩
theorem bC.len{H:Hp}{a:WF}{b:Row}(h:bC H a b):↑a=↑b:=Paired.length h
def bP.eqv{H:Hp}{r q:Addr}{c:Row}(h:bP H r c)(g:bP H q c)(n:Nat):Eqv H (n+3) ↥r ↥q:=by
 let⟨j,i,d⟩:=h;let⟨w,j,e⟩:=g;refine .inr ⟨true,r,q,Z,i,j,by rw[cC,cC,d.len,e.len],λi u v a b=>?_⟩;rw[lD]at a b;let⟨k,l,rfl⟩:=Option.map_eq_some_iff.mp a;let⟨m,o,rfl⟩:=Option.map_eq_some_iff.mp b;let⟨j,i,p⟩:=d.get l;let⟨d,f,s⟩:=e.get o;rw[i]at f;cases f;refine .inr ⟨false,k,m,Z,p,s,1,λt u v a b=>?_⟩;rw[a]at b;cases b
 match t,a with
 | 0,a=>cases a;exact Eqv.int _
 | 1,a=>cases a;exact Eqv.int _
theorem gB{a:Type}(b:List a)(v:a):oz (b++[v]) (-1)=⇑v:=Ny b v
def EV(n:Nat):JN (n+1) (-1)=⇑n:=by
 unfold JN;rw[if_neg (by decide),if_pos ∅];congr 1;lia
def ze{b:Type}(a:List b)(d c:b):(a++[d]).set ↑a c=a++[c]:=by
 simp
def zf(lo:Int)(n:Nat):BI lo n=(run lo n).map V.int:=by
 unfold BI
 induction n generalizing lo with
 | zero=>rfl
 | succ n a =>
  rw[List.range_succ_eq_map,jq,List.map_map,run,jq,← a (lo+1)];congr 1
  ·simp
  ·apply List.map_congr_left;intro i _;simp only[Function.comp,Nat.succ_eq_add_one];congr 1;lia
class inductive RD(lim:Nat)
 | mk (r:Addr) (a:Row) (_:vs=[↥r]) (_:bP H r a) (_:(∀ p∈a,0<=p.1/\p.1<=p.2/\p.2<2^62)) (_:↑(bw a)<=1000000) (_:↑a<=lim) (_ :
 ∀ (n:Addr) (b:Hp),b n=⇑(.lst ((bw a).map V.int))->aI H b->H n=none->Q ↥n b)
class inductive J4
 | mk (n:Addr) (a:Wp) (_:vs=[↥n]) (_:H n=⇑(.lst (a.map V.int))) (_:↑a<=1000000) (_ :
 ∀ (r:Addr) (b:Hp),bP b r (cE a)->aI H b->H r=none->Q ↥r b)
class inductive RE
 | mk (r:Addr) (a:Row) (_:vs=[↥r]) (_:bP H r a) (_:↑a<=1000000) (_ :
 ∀ (q:Addr) (b:Hp),bP b q (cA a)->aI H b->H q=none->Q ↥q b)
theorem aS{n:Nat}(h:n<=1000001):n<sizeLine:=Nat.lt_of_le_of_lt h (by decide)
end _gn
namespace _gn
open _L2 _cN
def Wn:TS:=λD a H=>∃ (l c:Addr) (d:Int),a=[⇑↥l,⇑(.int d),none,none]/\cX H l c/\
 ∀ (e:Option V) (a:Hp),cX a l c->(∀ b,b≠l->a b=H b)->D.nx [⇑↥l,⇑(.int d),e,none] a
def Wq:TS:=λD a H=>∃ (l c:Addr) (d:Int),a=[⇑↥l,⇑(.int d),⇑(.int 7),none]/\cX H l c/\
 ∀ (e:Int) (a:Hp),cX a l c->(∀ b,b≠l->a b=H b)->D.nx [⇑↥l,⇑(.int d),⇑(.int e),none] a
def RG{a:Wp}{i:Int}(c:0<=i)(d:i<(↑a:Int)):∃ v:Int,oz (a.map V.int) i=⇑(.int v):=by
 let b:i.toNat<↑a:=by lia
 exists a[i.toNat]
 let q:oz (a.map V.int) ((i.toNat:Nat):Int)=⇑(.int a[i.toNat]):=cT (by rw[lD,nj b] <;> rfl)
 let b:((i.toNat:Nat):Int)=i:=by lia
 rw[b]at q;exact q
def N9(a:Wp)(lo b:Option Int):∃ c:List Int,j7 (a.map V.int) lo b=c.map V.int:=by
 unfold j7;exists (a.drop (_HT.ja ↑(a.map V.int) 0 lo)).take (_HT.ja ↑(a.map V.int) ↑(a.map V.int) b-_HT.ja ↑(a.map V.int) 0 lo);rw[List.map_take,List.map_drop]
def tt{p:Prop} [Decidable p] {Q:V->Hp->Prop} {H:Hp} (a:p) (h:Q (.bl true) H):Q (.bl (decide p)) H:=by
 rw[decide_eq_true a];exact h
def N8.or{K:Frag}{k:Bool}{H:Hp}{a:Addr}{b:List V}(h:N8 k H a b):bM K H a b\/dG K H a b:=by
 cases k
 ·exact .inr (dG.of h)
 ·exact .inl (bM.of h)
theorem cB{l:Addr}{H b:Hp}(k:∀ a,a≠l->b a=H a):cy l H b:=λa o e n=>by rw[k a n];exact e
end _gn
namespace _gn
open _L2 _cN
def cX.lst{H:Hp}{l c:Addr}(s:cX H l c):∃ a,H l=⇑(.lst a):=by
 let⟨n,d,i,e,r,b,_⟩:=s;exact⟨_,b⟩
end _gn
namespace _cN
open Spec Rows _L2
section
variable {prog:Program} {w:World} {A:Around} {R:X2} {s:Shared}
def qJ(b:List Expr)(a:Env):Sem Bool:=forIn b true λc r=>if r=true then do let ok ← isTrue c a (eval c a);pure (ForInStep.yield ok) else pure (ForInStep.yield r)
theorem Lp{i:Expr}{j:Scope}{c d:Value}{b:Env}(I:Nat->Shared->Prop)
  (z:∀ n s,I n s->wpAny (model prog w) A (pyNext c) (λr e=>match r with
   | none=>R (.ok .next) e
   | some v=>wpAny (model prog w) A (letOwnedTupleGo f c v) (λ_ k=>wpAny (model prog w) A (assign f b v) (λ_ l =>
     wpAny (model prog w) A (qJ o b) (λg h =>
      if g=true then wpAny (model prog w) A (eval p b) (λx q=>wpAny (model prog w) A (call (.builtin "list.append") [d,x]) (λ_ t=>∃ m,m<n/\I m t) (λ_ _=>False) q) (λ_ _=>False) h
      else ∃ m,m<n/\I m h) (λ_ _=>False) l) (λ_ _=>False) k) (λ_ _=>False) e) (λ_ _=>False) s)
  (n:Nat) (B:I n s):codeAny (model prog w) A (.compLoop (.ListComp p [⟨f,i,o,0⟩] j C) 0 c d b) R s:=by
 refine codeAny_loop rfl I (λn s D=>?_) n B;show wpAny _ A ((compTurn (.ListComp p [⟨f,i,o,0⟩] j C) 0 c d b).onRaise (λx=>do noteFrame x b;theTreesLotGoes x)) _ _ s;refine wpAny_noted ?_;rw[compTurn_list];refine wpAny_bind (wpAny_standAt (wpAny_bind (wpAny_mono (z n s D) (λr e u=>?_) λ_ _ a=>a.elim)))
 cases r with
 | none=>exact wpAny_pure u
 | some v =>
  refine wpAny_bind (wpAny_mono u (λ_ k u=>wpAny_bind (wpAny_mono u (λ_ l u=>wpAny_bind (wpAny_mono u (λg h y=>?_) λ_ _ a=>a.elim)) λ_ _ a=>a.elim)) λ_ _ a=>a.elim)
  cases g with
  | false=>exact wpAny_pure ⟨1,y⟩
  | true=>exact wpAny_bind (wpAny_bind (wpAny_mono y (λx q u=>wpAny_bind (wpAny_mono u (λ_ t u=>wpAny_pure (wpAny_pure ⟨1,u⟩)) λ_ _ a=>a.elim)) λ_ _ a=>a.elim))
end
section
variable {X:Cx} {N:UV} {scope:Scope}
def Lq(X:Cx)(c:List Expr)(t:TT):Prop :=
 ∀ (b:List (Addr × Obj)) (s:Shared) (a:_L2.St) (H:Hp) (Q:Bool->Hp->Prop),Inv X b a H s->t a H Q->wpAny (model X.prog X.w) X.A (qJ c X.env) (TP X b a Q) X.xe s
def Lr:TT:=λ_ H Q=>Q true H
theorem gy:Lq X [] Lr:=λa s b H Q I h=>wpAny_tests_nil ⟨H,I,h⟩
theorem uB{c:Expr}{t:TT}(h:PT X c t):Lq X [c] t:=λa s b H Q I q=>wpAny_tests_one (h a s b H Q I q)
end
end _cN
namespace _cN
open Spec Rows _L2
theorem Ls{P:Program}{B:World}{K:Frag}(b:Addr)(lo:Int)(n:Nat):Hg P B K M (JB lo n) [b] b (λi h=>IsLongIter h b (lo+(i:Nat)*1) ((n:Int)-(i:Nat)) 1) where
 mem:=by simp
 obj:=λi h a c d=>by
  let e:c=b:=by simpa using d
  subst e
  exact⟨_,a,λw z=>by
   let f:Data.fields _=Data.cell w:=z
   cases f⟩
 keep:=λi h f a C=>C b (by simp) _ a
 item:=by
  intro X j k l m i x s y H E I g a o;subst j k l;let⟨p,q,D,r,t,u⟩:=g b (by simp);let W:=Walks.longrange (prog:=X.prog) (w:=X.w) (I.ok.hd m) b lo 1 n;refine W.item i s _ _ o a λw f z F A G=>?_;let⟨J,rfl⟩:=F;have L:Inv X x y H { s with heap:=f,toks:=z }:=I.turned (λc v d e=>G c v (by simpa using d) e) p q r t u;refine⟨Y,EF (s:={ s with heap:=f,toks:=z }) (n:="longrange_iterator") A rfl rfl (by decide) ⟨.int (lo+i),H,L,⟨J,?_⟩,⟨V⟩,A,λc d=>(g c d).1⟩⟩;rw[Int.mul_one]
 done:=by
  intro X j k l m i x s y H E I g a o;subst j k l;let⟨p,q,D,r,t,u⟩:=g b (by simp);exact wpAny_pyNext_long_end (I.ok.hd m) a (by have:n<=i:=o;lia) λf f=>⟨1,I.turned (t':=s.toks) (λc v d e=>f c v d e) p q r t u⟩
 self:=λ_ _ _ _ _ a h=>wpAny_pyIter_longiter a h
section
variable {X:Cx} {tg:Expr}
theorem Lu{g:_L2.St}{H:Hp}{s:Shared}{i:It->Hp->Prop}{E:ZB}{lo a:Int}{t u v:Tok}{c:Nat}(I:Inv X h g H s)
  (q:i (JB lo (a-lo).toNat) H):wpAny (model X.prog X.w) X.A (pyIter ↥s.heap.objs.size) (fy X h g tg i) E { s with heap:=s.heap.push { cls:=.type "range",data:=.fields (List.toArray [.int lo t,.int a u,.int 1 v]) },toks:=c }:=by
 let d:Inv X h g H { s with heap:=s.heap.push { cls:=.type "range",data:=.fields (List.toArray [.int lo t,.int a u,.int 1 v]) },toks:=c }:=I.kept λb o e=>Heap.get?_push_of_some _ e;have j:lo+((0:Nat):Int)*1=lo:=by simp
 let k:(((a-lo).toNat:Nat):Int)-((0:Nat):Int)=Builtin.Range.rangeSize lo a 1:=by rw[rangeSize_one];split <;> lia
 let l:∀ b∈[(s.heap.push { cls:=.type "range",data:=.fields (List.toArray [.int lo t,.int a u,.int 1 v]) }).objs.size],ou X h H b:=λb f=>by
  let e:b=(s.heap.push { cls:=.type "range",data:=.fields (List.toArray [.int lo t,.int a u,.int 1 v]) }).objs.size:=by simpa using f
  subst e;exact d.KU (fk _) (d.hok.fresh (fk _))
 cases f:Builtin.Range.small lo a 1 with
 | true =>
  refine wpAny_pyIter_range (IsRange.new ..) f ?_;refine⟨_,[(s.heap.push { cls:=.type "range",data:=.fields (List.toArray [.int lo t,.int a u,.int 1 v]) }).objs.size],P,H,1,d.kept (t':=c) λb o e=>Heap.get?_push_of_some _ e,yp _ lo (a-lo).toNat,?_,l,q⟩;show IsRangeIter _ _ (lo+((0:Nat):Int)*1) ((((a-lo).toNat:Nat):Int)-((0:Nat):Int)) 1;rw[j,k];exact Heap.get?_push_size _ rfl
 | false =>
  refine wpAny_pyIter_longrange (IsRange.new ..) f ?_;refine⟨_,[(s.heap.push { cls:=.type "range",data:=.fields (List.toArray [.int lo t,.int a u,.int 1 v]) }).objs.size],P,H,1,d.kept (t':=c) λb o e=>Heap.get?_push_of_some _ e,Ls _ lo (a-lo).toNat,?_,l,q⟩;show IsLongIter _ _ (lo+((0:Nat):Int)*1) ((((a-lo).toNat:Nat):Int)-((0:Nat):Int)) 1;rw[j,k];exact Heap.get?_push_size _ rfl
def Z1(a:TA):TI:=fun b H R=>a b H λb c=>∃ i j:Int,b=[.int i,.int j]/\R (JB i (j-i).toNat) c
theorem BK{a b:Expr}{c:TA}{p d:Pos}(f:Gl X "range")(g:X.mg "range"=none)(h:PA X [a,b] c)(i:starEach [a,b] X.env=[(false,eval a X.env),(false,eval b X.env)]:=by rfl)(e:starEach [b] X.env=[(false,eval b X.env)]:=by rfl) :
  PI X tg (.Call (.Name "range" p) [a,b] [] d) (Z1 c):=by
 intro j s k H R I l;refine Call_ (vp I f g boot_range (PyProof.Rows.callWith_type1 (dF (h d j s k H _ I l) λj k ⟨l,t,m,n,o⟩=>?_) (by rw[i,e]) (by rw[e];rfl)));let⟨j,k,q,r⟩:=o;subst q;let⟨u,v,rfl,⟨w,rfl⟩,⟨x,rfl⟩⟩:=n.two;exact call_range_2 (Lu m r)
end
end _cN
namespace _cN
open Spec Rows _L2
section
variable {prog:Program} {w:World} {A:Around} {R:X2} {s:Shared}
theorem RH(d h i b e:Expr)(j f:List Expr)(k:Scope)(l:Pos)(c g:Value)(a:Env) :
  compTurn (.ListComp d [⟨h,i,j,0⟩,⟨b,e,f,0⟩] k l) 1 c g a=(do
   standAt e.pos
   match ← pyNext c with
   | none=>pure (.done .next)
   | some v =>
    letOwnedTupleGo b c v
    assign b a v
    let ok ← qJ f a
    if ok then (do let _ ← call (.builtin "list.append") [g,← eval d a])
    again (.compLoop (.ListComp d [⟨h,i,j,0⟩,⟨b,e,f,0⟩] k l) 1 c g a)):=by rfl
theorem Oa(g c d h b:Expr)(e i:List Expr)(j:Scope)(k:Pos)(f l:Value)(a:Env) :
  compTurn (.ListComp g [⟨c,d,e,0⟩,⟨h,b,i,0⟩] j k) 0 f l a=(do
   standAt d.pos
   match ← pyNext f with
   | none=>pure (.done .next)
   | some v =>
    letOwnedTupleGo c f v
    assign c a v
    let ok ← qJ e a
    if ok then
     let x ← eval b a
     standAt b.pos
     let x ← foldedSetIterable b a x
     let _ ← runOwn (.compStart (.ListComp g [⟨c,d,e,0⟩,⟨h,b,i,0⟩] j k) 1 (← holding [x] (pyIter x)) l a) a
    again (.compLoop (.ListComp g [⟨c,d,e,0⟩,⟨h,b,i,0⟩] j k) 0 f l a)):=by rfl
theorem Wr{i:Expr}{j:Scope}{c d:Value}{b:Env}(I:Nat->Shared->Prop)
  (z:∀ n s,I n s->wpAny (model prog w) A (pyNext c) (λr e=>match r with
   | none=>R (.ok .next) e
   | some v=>wpAny (model prog w) A (letOwnedTupleGo f c v) (λ_ k=>wpAny (model prog w) A (assign f b v) (λ_ l =>
     wpAny (model prog w) A (qJ o b) (λg h =>
      if g=true then wpAny (model prog w) A (eval p b) (λx q=>wpAny (model prog w) A (call (.builtin "list.append") [d,x]) (λ_ t=>∃ m,m<n/\I m t) (λ_ _=>False) q) (λ_ _=>False) h
      else ∃ m,m<n/\I m h) (λ_ _=>False) l) (λ_ _=>False) k) (λ_ _=>False) e) (λ_ _=>False) s)
  (n:Nat) (B:I n s):codeAny (model prog w) A (.compLoop (.ListComp p [⟨C,i,D,0⟩,⟨f,G,o,0⟩] j H) 1 c d b) R s:=by
 refine codeAny_loop rfl I (λn s F=>?_) n B;show wpAny _ A ((compTurn (.ListComp p [⟨C,i,D,0⟩,⟨f,G,o,0⟩] j H) 1 c d b).onRaise (λx=>do noteFrame x b;theTreesLotGoes x)) _ _ s;refine wpAny_noted ?_;rw[RH];refine wpAny_bind (wpAny_standAt (wpAny_bind (wpAny_mono (z n s F) (λr e u=>?_) λ_ _ a=>a.elim)))
 cases r with
 | none=>exact wpAny_pure u
 | some v =>
  refine wpAny_bind (wpAny_mono u (λ_ k u=>wpAny_bind (wpAny_mono u (λ_ l u=>wpAny_bind (wpAny_mono u (λg h y=>?_) λ_ _ a=>a.elim)) λ_ _ a=>a.elim)) λ_ _ a=>a.elim)
  cases g with
  | false=>exact wpAny_pure ⟨1,y⟩
  | true=>exact wpAny_bind (wpAny_bind (wpAny_mono y (λx q u=>wpAny_bind (wpAny_mono u (λ_ t u=>wpAny_pure (wpAny_pure ⟨1,u⟩)) λ_ _ a=>a.elim)) λ_ _ a=>a.elim))
theorem RJ{b:Expr}{c:Scope}{d e:Value}{a:Env}
  (p:codeAny (model prog w) A (.compLoop (.ListComp g [⟨h,b,i,0⟩,⟨j,f,k,0⟩] c l) 1 d e a) R s)
  (q:wpAny (model prog w) A (pyIter d) (λm n=>codeAny (model prog w) A (.compLoop (.ListComp g [⟨h,b,i,0⟩,⟨j,f,k,0⟩] c l) 1 m e a) R n) (λ_ _=>False) s) :
  codeAny (model prog w) A (.compStart (.ListComp g [⟨h,b,i,0⟩,⟨j,f,k,0⟩] c l) 1 d e a) R s:=by
 refine codeAny_of_tree ?_;show wpAny _ _ ((compStart (.ListComp g [⟨h,b,i,0⟩,⟨j,f,k,0⟩] c l) 1 d e a).onRaise (λx=>do noteFrame x a;standAt theWindowsPlace)) _ _ s;refine wpAny_notedAt ?_;unfold compStart;show wpAny _ _ (ask >>= _) _ _ s;refine wpAny_bind (wpAny_askSetting (wpAny_ite ?_));split
 ·first
   | exact wpAny_bind (wpAny_pure (wpAny_pure (And.intro rfl p)))
   | exact wpAny_pure (And.intro rfl p)
 ·first
   | exact wpAny_bind (wpAny_rule (wpAny_bind (wpAny_standAt (wpAny_bind (wpAny_mono q (λm n o=>wpAny_pure (And.intro rfl o)) λ_ _ x=>x.elim)))))
   | (refine wpAny_bind (wpAny_rule ?_);show wpAny _ _ (standAt f.pos >>= _) _ _ s;exact wpAny_bind (wpAny_standAt (wpAny_bind (wpAny_mono q (λm n o=>wpAny_pure (And.intro rfl o)) λ_ _ x=>x.elim))))
theorem RN{f:Expr}{g:Scope}{c h:Value}{b:Env}(I:Nat->Shared->Prop)
  (J:∀ x,foldedSetIterable d b x=pure x)
  (L:∀ n s,I n s->wpAny (model prog w) A (pyNext c) (λr i=>match r with
   | none=>R (.ok .next) i
   | some v=>wpAny (model prog w) A (letOwnedTupleGo e c v) (λ_ o=>wpAny (model prog w) A (assign e b v) (λ_ p =>
     wpAny (model prog w) A (qJ j b) (λk l =>
      if k=true then wpAny (model prog w) A (eval d b) (λx q=>wpAny (model prog w) A (pyIter x) (λt u =>
       codeAny (model prog w) A (.compStart (.ListComp y [⟨e,f,j,0⟩,⟨z,d,B,0⟩] g C) 1 t h b) (λr D=>(∃ G,r=.ok G)/\∃ m,m<n/\I m D) u) (λ_ _=>False) q) (λ_ _=>False) l
      else ∃ m,m<n/\I m l) (λ_ _=>False) p) (λ_ _=>False) o) (λ_ _=>False) i) (λ_ _=>False) s)
  (n:Nat) (M:I n s):codeAny (model prog w) A (.compLoop (.ListComp y [⟨e,f,j,0⟩,⟨z,d,B,0⟩] g C) 0 c h b) R s:=by
 refine codeAny_loop rfl I (λn s N=>?_) n M;show wpAny _ A ((compTurn (.ListComp y [⟨e,f,j,0⟩,⟨z,d,B,0⟩] g C) 0 c h b).onRaise (λx=>do noteFrame x b;theTreesLotGoes x)) _ _ s;refine wpAny_noted ?_;rw[Oa];refine wpAny_bind (wpAny_standAt (wpAny_bind (wpAny_mono (L n s N) (λr i F=>?_) λ_ _ a=>a.elim)))
 cases r with
 | none=>exact wpAny_pure F
 | some v =>
  refine wpAny_bind (wpAny_mono F (λ_ o F=>wpAny_bind (wpAny_mono F (λ_ p F=>wpAny_bind (wpAny_mono F (λk l H=>?_) λ_ _ a=>a.elim)) λ_ _ a=>a.elim)) λ_ _ a=>a.elim)
  cases k with
  | false=>exact wpAny_pure ⟨1,H⟩
  | true =>
   refine wpAny_bind (wpAny_mono H (λx q F=>wpAny_bind (wpAny_standAt (wpAny_bind (wpAny_of_eq (J x) (wpAny_bind (wpAny_holding (wpAny_mono F (λt u F=>?_) λ_ _ a=>a.elim))))))) λ_ _ a=>a.elim);refine wpAny_bind (wpAny_runOwn (codeAny_mono F λr D a=>?_));let⟨⟨G,O⟩,S⟩:=a;subst O;exact wpAny_pure ⟨1,S⟩
end
section
variable {X:Cx} {N:UV} {scope:Scope}
def HL(g:TI)(d:Addr)(h:TG)(tt:TT)(j:TE):_L2.St->Hp->(_L2.St->Hp->Prop)->Prop:=fun a H b=>g a H λJ c =>
 ∃ W:Nat->Nat->_L2.St->Hp->Prop,(∃ m,W 0 m a c)/\∀ i m a H,W i m a H->
  (J.stop i H/\b a H)\/(J.go i H/\∃ c:_L2.St->Hp->Prop,(∀ e b,c e b->∃ f,f<m/\W (i+1) f e b)/\∀ x b,J.Nh i H x b->h x a b fun a e=>tt a e λb e =>
   if b=true then j a e λv f=>∃ b,f d=⇑(.lst b)/\↑b<sizeLine/\c a (aO f d (.lst (b++[v]))) else c a e)
theorem Lv{Y:Cx}{G:Expr}{I:TI}{J:TG}{L:TT}{M:TE}(O:Y.calm=true)(U:Y.xe=λ_ _=>False)(hi:PI Y t u I)(hg:PG Y t J)(ht:Lq Y jf L)(he:PE Y j4 M)
  {d:List (Addr × Obj)} {s:Shared} {m:_L2.St} {H:Hp} {v:_L2.St->Hp->Prop} (ai:Inv Y d m H s) (ak:HL I n J L M m H v) :
  wpAny (model Y.prog Y.w) Y.A (eval u Y.env) (λx am=>wpAny (model Y.prog Y.w) Y.A (pyIter x) (λZ2 an =>
   codeAny (model Y.prog Y.w) Y.A (.compStart (.ListComp j4 [⟨tg,G,jL,0⟩,⟨t,u,jf,0⟩] scope aq) 1 Z2 ↥n Y.env) (λr w=>(∃ y,r=.ok y)/\∃ c a,Inv Y d c a w/\v c a) an) (λ_ _=>False) am) (λ_ _=>False) s:=by
 let F:=hi d s m H _ ai ak;let z:=hg;let A:=ht;let B:=he;unfold PG at z;unfold Lq at A;unfold PE at B;rw[U]at F z A B;refine dF F λN s1 F=>dF F λY7 s2 F=>?_;let⟨it,g,R,ax,H2,h,I2,T,S,X,W,⟨m0,w0⟩,l5⟩:=F;subst h;have C:∀ {a:Hp},(∀ b∈g,a b=none)->∀ b∈g,ou Y d a b:=λF b e=>⟨F b e,(X b e).2⟩
 let ab:codeAny (model Y.prog Y.w) Y.A (.compLoop (.ListComp j4 [⟨tg,G,jL,0⟩,⟨t,u,jf,0⟩] scope aq) 1 ↥it ↥n Y.env) (λr w=>(∃ y,r=.ok y)/\∃ c a,Inv Y d c a w/\v c a) s2:=by
  refine Wr (λo f=>∃ i c a,Inv Y d c a f/\R i f.heap/\(∀ b∈g,a b=none)/\W i o c a) ?_ m0 ⟨0,m,H2,I2,S,λb e=>(X b e).1,w0⟩;rintro o s6 ⟨i,j,l,I6,UE,GZ,w6⟩;rcases l5 i o j l w6 with ⟨stop,qn⟩|⟨go,N2,hN,step⟩
  ·refine dF (T.done Y rfl rfl rfl O i d s6 j l _ I6 (C GZ) UE stop) λr s7 f=>?_;let⟨D,k⟩:=f;subst D;exact⟨⟨Y⟩,j,l,k,qn⟩
  ·refine dF (T.item Y rfl rfl rfl O i d s6 j l _ I6 (C GZ) UE go) λr s7 l=>?_;let⟨ar,D,h7⟩:=l;subst D;refine dF h7 λ_ F X=>?_;let⟨x,l,I8,r8,y8,D,RO⟩:=X;have X:=I8.pinned (C RO) (T.obj _ _ D);refine dF (z _ F j l x ar _ X r8 (step x l y8)) λ_ j l=>?_;let⟨p,z,C,X⟩:=l;refine dF (A _ j p z _ C X) λok as j=>?_;let⟨MT,UG,q⟩:=j
   let ae:∀ {j:_L2.St} {l:Hp} {f:Shared},Inv Y (d++sG g F.heap) j l f->N2 j l->∃ z,z<o/\∃ i c a,Inv Y d c a f/\R i f.heap/\(∀ b∈g,a b=none)/\W i z c a:=λ{j l f} k g=>by
    let⟨o,z,A⟩:=hN j l g;refine⟨o,z,i+1,j,l,k.nI,T.keep _ _ _ D λb e o h=>(k.pin (b,o) (nG _ (nG _ (iu e h)))).1,λb e=>?_,A⟩;let⟨o,h,g⟩:=T.obj _ _ D b e;exact (k.pin (b,o) (nG _ (nG _ (iu e h)))).2.1
   cases ok with
   | false =>
    rw[if_neg lV]at q;exact ae UG q
   | true =>
    rw[if_pos rfl]at q;refine dF (B _ as p MT _ UG q) λN f b=>?_;let⟨ag,e,g,av,xs,hx,hz,aw⟩:=b;have ap:=bU _ f p e ↥n [ag] ↥n [N] (λ_ a=>N2 p a) g rfl (.cons av .nil) ⟨_,xs,ag,V,hx,hz,aw⟩;rw[U]at ap;exact dF ap λ_ f ⟨_,g,b,_,e⟩=>ae b e
 exact RJ ab (T.self _ _ _ _ _ S ab)
theorem EW{lo:Int}{k:Nat}{t:TG}{tt:TT}{u:TE}{a:_L2.St}{H:Hp}{w:_L2.St->Hp->Prop}(c:Nat->_L2.St->Hp->Prop)(A:c 0 a H)
  (B:∀ i a H,i<k->c i a H->t (.int (lo+i)) a H fun b g=>tt b g λh e=>if h=true then u b e λv f=>∃ j,f l=⇑(.lst j)/\↑j<sizeLine/\c (i+1) b (aO f l (.lst (j++[v]))) else c (i+1) b e)
  (C:∀ a H,c k a H->w a H):∃ W:Nat->Nat->_L2.St->Hp->Prop,(∃ m,W 0 m a H)/\∀ i m a H,W i m a H->
  ((JB lo k).stop i H/\w a H)\/((JB lo k).go i H/\∃ n:_L2.St->Hp->Prop,(∀ o d,n o d->∃ z,z<m/\W (i+1) z o d)/\∀ x d,(JB lo k).Nh i H x d->t x a d fun b g=>tt b g λh e =>
   if h=true then u b e λv f=>∃ p,f l=⇑(.lst p)/\↑p<sizeLine/\n b (aO f l (.lst (p++[v]))) else n b e):=by
 refine⟨λi m a H=>m=k-i/\i<=k/\c i a H,⟨k,by simp,Nat.zero_le _,A⟩,?_⟩;rintro i m a H ⟨rfl,D,s⟩;by_cases q:i<k
 ·refine .inr ⟨q,c (i+1),fun o d D=>⟨k-(i+1),Q,1,q,D⟩,λx d y=>?_⟩;let⟨r,y⟩:=y;subst r y;exact B i a _ q s
 ·let r:i=k:=by lia
  subst r;exact .inl ⟨Nat.le_refl _,C a H s⟩
end
theorem RP{i:Nat}{v:V}{a:_L2.St}{H:Hp}{Q:_L2.St->Bool->Hp->Prop}(h:Q (a.set i (⇑v)) true H):qb i v a H (fun b c=>Lr b c (Q b)):=h
theorem yes{a:_L2.St}{H:Hp}{Q:Bool->Hp->Prop}(h:Q true H):Lr a H Q:=h
end _cN
namespace _gn
open _L2 _cN
class inductive RQ
 | mk (r:Addr) (a:Row) (_:vs=[↥r]) (_:bP H r a) (_:(∀ p∈a,p.1<=p.2)) (_:↑(bw a)<=1000000) (_ :
 ∀ (n:Addr) (b:Hp),b n=⇑(.lst ((bw a).map V.int))->aI H b->H n=none->Q ↥n b)
def zg{a:Row}{i:Nat}{p:Int × Int}(h:a[i]?=⇑p):bw (a.take (i+1))=bw (a.take i)++gf p:=by
 rw[take_snoc h,cU,eX]
def rX(a:Row)(i:Nat):↑(bw (a.take i))<=↑(bw a):=by
 conv=>rhs;rw[← List.take_append_drop i a,cU,dm]
 lia
theorem zh{e a:Hp}{q t:Addr}{b:WF}{g:Row}{c d:Int}(j:e q=none)(s:aI e a)(h:a q=⇑(.lst (b.map V.ref)))(k:bC a b g)(i:a t=none) :
  (aO (aO a t (.tup [.int c,.int d])) q (.lst (b.map V.ref++[↥t]))) q=⇑(.lst ((b++[t]).map V.ref))/\
  bC (aO (aO a t (.tup [.int c,.int d])) q (.lst (b.map V.ref++[↥t]))) (b++[t]) (g++[(c,d)])/\aI e (aO (aO a t (.tup [.int c,.int d])) q (.lst (b.map V.ref++[↥t]))):=by
 let l:q≠t:=aA h i;let f:aI a (aO a t (.tup [.int c,.int d])):=ao i _;refine⟨by rw[af,gx];rfl,?_,bS j (s.trans f) (aH q _ _)⟩;refine bC.snoc ((k.same f).keep (f _ _ h) (aH q _ _)) ?_;show aO _ q _ t=_;rw[aL l.symm,af]
theorem turned{d b:Hp}{q t c:Addr}{a:WF}{f:Row}{st en:Int}(i:d q=none)(s:aI d b)(g:b q=⇑(.lst (a.map V.ref++[↥c])))(j:bC b a f)(h:b t=none) :
  (aO (aO b t (.tup [.int st,.int en])) q (.lst ((a.map V.ref++[V.ref c]).set ↑a (V.ref t)))) q=⇑(.lst ((a++[t]).map V.ref))/\
  bC (aO (aO b t (.tup [.int st,.int en])) q (.lst ((a.map V.ref++[V.ref c]).set ↑a (V.ref t)))) (a++[t]) (f++[(st,en)])/\aI d (aO (aO b t (.tup [.int st,.int en])) q (.lst ((a.map V.ref++[V.ref c]).set ↑a (V.ref t)))):=by
 let k:q≠t:=aA g h;let e:aI b (aO b t (.tup [.int st,.int en])):=ao h _
 let l:(a.map V.ref++[V.ref c]).set ↑a (V.ref t)=(a++[t]).map V.ref:=by
  let z:=ze (a.map V.ref) (V.ref c) (V.ref t);rw[cC]at z;rw[z,gx];rfl
 rw[l];refine⟨af,?_,bS i (s.trans e) (aH q _ _)⟩;refine bC.snoc ((j.same e).keep (e _ _ g) (aH q _ _)) ?_;show aO _ q _ t=_;rw[aL k.symm,af]
def HP(a:WF)(b:Addr):JN ↑(a.map V.ref++[V.ref b]) (-1)=some ↑a:=by
 rw[dm,cC,gW];exact EV _
theorem BL{f:Row->Int × Int->Row}{a:Row}{i:Nat}{p:Int × Int}(h:a[i]?=⇑p):(a.take (i+1)).foldl f []=f ((a.take i).foldl f []) p:=foldl_take_succ f a [] i p h
def EX(a:Row):∀ t:Row,↑(a.foldl dh t)<=↑t+↑a:=by
 induction a with
 | nil=>intro t;simp
 | cons p a b =>
  intro t;let c:=b (dh t p)
  let b:↑(dh t p)<=↑t+1:=by
   unfold dh;split
   ·lia
   ·exact xm _ _ _
  rw[jJ,eZ];lia
def zj(a:Wp):∀ t:Row,↑(a.foldl (λt n=>iL t n (n+1)) t)<=↑t+↑a:=by
 induction a with
 | nil=>intro t;simp
 | cons n a b =>
  intro t;let c:=b (iL t n (n+1));let b:=xm t n (n+1);rw[jJ,eZ];lia
end _gn
namespace _gn
open Spec Rows _L2 _cN
class inductive Wu
 | mk (r:Addr) (a:Row) (_:vs=[↥r]) (_:bP H r a) (_:↑a<=1000000) (_: ∀ b,aI H b->Q (.int (jc a)) b)
end _gn
namespace _eU
open Spec Rows PySem.W _L2
end _eU
namespace _eU
open Spec Rows PySem.W _L2
end _eU
namespace _eU
open Spec Rows _L2
section
variable {X:Cx}
def J6{a y:Str}{m n:Nat}(h:↑a+(n+m)<=1000000)(b:↑y<=n):↑(a++y)<=sizeLine/\↑(a++y)+m<=1000000:=by
 rw[PySem.strLen_append];refine⟨Nat.le_of_lt (Nat.lt_of_le_of_lt (show ↑a+↑y<=1000000 by lia) (by decide)),Q⟩
def RU(r e f:R2)(g h i j:TE):TT:=fun a H Q=>g a H λx b=>h a b λy b=>r x y b λz b=>∃ k,z=.bl k/\
 (if k=true then i a b λu c=>e y u c λk c=>∃ d,k=.bl d/\(if d=true then j a c λv a=>f u v a λd k=>∃ a,d=.bl a/\Q a k else Q false c) else Q false b)
theorem Lw{c d e:CmpOp}{r i j:R2}{k f g h:Expr}{l m n o:TE}(A:qY X (compareOp c) r)(B:qY X (compareOp d) i)(C:qY X (compareOp e) j)(D:PE X k l)(G:PE X f m)(H:PE X g n)(I:PE X h o)
  (J:lastMarks [c,d,e] [f,g,h]=false:=by with_unfolding_all rfl):PT X (.Compare k [c,d,e] [f,g,h] ab) (RU r i j l m n o):=by
 intro a s b F Q L M
 refine isTrue_chain (dF (D a s b F _ L M) λF L ⟨M,N,O,R,S⟩=>test_link (dF (G a L b N _ O S) λu L ⟨y,N,O,p,S⟩ =>
  dF (A a L b N M y F u _ O R p S) λz w ⟨x,q,t,T,U,W,v⟩=>?_)) J
 subst W;cases T;refine wpAny_truthy_bool ?_
 cases U with
 | false=>exact ite_ff ⟨q,t,v⟩
 | true =>
  refine ite_tt (test_link (dF (H a w b q _ t v) λq F ⟨t,L,M,v,N⟩=>dF (B a F b L y t u q _ M p v N) λu s5 p=>?_));let⟨u,w,x,r5,k5,e5,z⟩:=p;subst e5;cases r5;refine wpAny_truthy_bool ?_
  cases k5 with
  | false=>exact ite_ff ⟨w,x,z⟩
  | true =>
   refine ite_tt (test_last (dF (I a s5 b w _ x z) λp u ⟨w,x,y,z,F⟩=>dF (C a u b x t w q p _ y v z F) λb p a=>?_));let⟨b,H7,I7,r7,p,e7,q7⟩:=a;subst e7;cases r7;exact wpAny_truthy_bool ⟨H7,I7,q7⟩
end
end _eU
namespace _gn
open _L2 _cN _eU
def aT{H b:Hp}{a:Addr}(s:aI H b)(h:b a=none):H a=none:=by
 cases q:H a with
 | none=>rfl
 | some o=>rw[s a o q]at h;cases h
def vg(i:Int):Prop:=-(10^60)<i/\i<10^60
def Od(a b h:Int)(p:Int × Int):Row:=if max (a-h) 0<min (b-h) (p.2-p.1) then [(p.1+max (a-h) 0,p.1+min (b-h) (p.2-p.1))] else []
def kM(a b:Int):Int->Row->Row
 | _,[]=>[]
 | h,p::r=>Od a b h p++kM a b (h+(p.2-p.1)) r
theorem EY(a b:Int)(p:Int × Int):∀ (r:Row) (c:Int),kM a b c (r++[p])=kM a b c r++Od a b (c+jc r) p
 | [],c=>by simp[kM,RB]
 | q::r,c=>by
  let e:c+(q.2-q.1)+jc r=c+jc (q::r):=by rw[ET];lia
  rw[List.cons_append,kM,EY a b p r,kM,e,jI]
def Ww(a b h:Int)(p:Int × Int):↑(Od a b h p)<=1:=by
 unfold Od
 split <;> simp
theorem jX(a b:Int):∀ (r:Row) (c:Int),↑(kM a b c r)<=↑r
 | [],_=>fk _
 | q::r,c=>by
  let d:=jX a b r (c+(q.2-q.1));let z:=Ww a b c q;rw[kM,dm,eZ];lia
def Oe(b c h:Int)(p:Int × Int):∀ q∈Od b c h p,q.1<=q.2:=by
 unfold Od;split
 ·intro q a;simp only[List.mem_singleton]at a;subst a;simp only;lia
 ·intro q a;cases a
theorem CZ(b c:Int):∀ (r:Row) (d:Int),∀ q∈kM b c d r,q.1<=q.2
 | [],_=>λq a=>by cases a
 | p::r,d=>λq a=>by
  rw[kM]at a;rcases List.mem_append.mp a with z|z
  ·exact Oe b c d p q z
  ·exact CZ b c r _ q z
theorem EZ(s:Int):∀ (n k:Nat),(run s n).drop k=run (s+k) (n-k)
 | n,0=>by simp
 | 0,k+1=>by simp[run]
 | n+1,k+1=>by
  rw[run,List.drop_succ_cons,EZ (s+1) n k];let a:s+1+(k:Int)=s+((k+1:Nat):Int):=by lia
  let b:n+1-(k+1)=n-k:=by lia
  rw[a,b]
theorem E1(s:Int):∀ (n k:Nat),(run s n).take k=run s (min k n)
 | n,0=>by simp[run]
 | 0,k+1=>by simp[run]
 | n+1,k+1=>by
  rw[run,List.take_succ_cons,E1 (s+1) n k];let a:min (k+1) (n+1)=min k n+1:=by lia
  rw[a,run]
def Lx(a b h:Int)(p:Int × Int)(d:p.1<=p.2):bw (Od a b h p)=((gf p).take (b-h).toNat).drop (a-h).toNat:=by
 let⟨s,e⟩:=p;simp only at d;unfold Od gf;simp only;rw[E1,EZ,← Int.ofNat_toNat (a-h)];generalize (a-h).toNat=n;generalize b-h=x;let f:0<=e-s:=by lia
 generalize e-s=y at f
 let g:min x.toNat y.toNat=(min x y).toNat:=by
  rcases Int.le_total x y with c|c
  ·rw[Int.min_eq_left c,Nat.min_eq_left (Int.toNat_le_toNat c)]
  ·rw[Int.min_eq_right c,Nat.min_eq_right (Int.toNat_le_toNat c)]
 rw[g];generalize min x y=m;clear g f d;by_cases c:(n:Int)<m
 ·rw[if_pos c,eX,gf];simp only;rw[Int.add_sub_add_left,Int.toNat_sub']
 ·rw[if_neg c,Nat.sub_eq_zero_of_le (Int.toNat_le.mpr (Int.not_lt.mp c))];rfl
def zk(b h:Int)(L:Nat):(b-(h+L)).toNat=(b-h).toNat-L:=by rw[← Int.sub_sub,Int.toNat_sub']
theorem qK(a b:Int):∀ (r:Row) (h:Int),(∀ p∈r,p.1<=p.2)->bw (kM a b h r)=((bw r).take (b-h).toNat).drop (a-h).toNat
 | [],h,_=>by simp[kM,bw]
 | p::r,h,ok=>by
  let c:=ok p (sE ..);let d:=qK a b r (h+(p.2-p.1)) λq e=>ok q (j5 _ e);have f:bw (p::r)=gf p++bw r:=rfl;have e:=xo p c;rw[kM,cU,Lx a b h p c,d,f,List.take_append,List.drop_append,gw];congr 1;rw[← e,zk,zk];by_cases c:↑(gf p)<=(b-h).toNat
  ·rw[Nat.min_eq_right c]
  ·rw[Nat.sub_eq_zero_of_le (Nat.le_of_not_le c)];simp
def RV(a b t:Int):Prop:=0<=a/\a<=b/\b<=t
class inductive E2
 | mk (r:Addr) (c:Row) (a b:Int) (_:vs=[↥r,.int a,.int b]) (_:bP H r c) (_:↑c<=1000000) (_ :
 ∀ (q:Addr) (d:Hp),bP d q (kM a b 0 c)->aI H d->H q=none->Q ↥q d)
end _gn
namespace _gn
open _L2 _cN _eU
end _gn
namespace _gn
open _L2 _cN _eU
def j8(r:Row)(a:∀ p∈r,p.1<=p.2):bw (cA r)=bw r:=by rw[mw r a,dz]
def oE(b c:Int)(a:Row)(d:∀ p∈a,p.1<=p.2):bw (cA (kM b c 0 a))=((bw a).take c.toNat).drop b.toNat:=by
 rw[j8 _ (CZ b c a 0),qK b c a 0 d,Int.sub_zero,Int.sub_zero]
theorem J7(s:Int):∀ (n k:Nat),k<n->(run s n)[k]?=⇑(s+k)
 | 0,k,h=>by lia
 | n+1,0,_=>by simp[run]
 | n+1,k+1,h=>by
  rw[run,List.getElem?_cons_succ,J7 (s+1) n k ∅];congr 1;lia
def iN(r:Row):↑(cA r)<=↑r:=by
 let z:=EX r [];simpa [cA] using z
end _gn
namespace _gn
open Spec Rows _L2 _cN _eU
def bC.append{H:Hp}{a b:WF}{r q:Row}(h:bC H a r)(t:bC H b q):bC H (a++b) (r++q):=by
 induction h with
 | nil=>exact t
 | cons e _ c=>exact .cons e c
theorem Wx{r q:Row}(h:∀ p∈r,p.1<=p.2)(g:∀ p∈q,p.1<=p.2):∀ p∈r++q,p.1<=p.2:=λp a=>(List.mem_append.mp a).elim (h p) (g p)
end _gn
namespace _L2
open Spec Rows
section
variable {c:Type} [DecidableEq c]
def cG(a:List (c × V))(k:c):Option V:=(a.find? λb=>decide (b.1=k)).map (·.2)
def eO(b:List (c × V))(k:c)(v:V):List (c × V) :=
 if (b.any λa=>decide (a.1=k))=true then b.map (λa=>if a.1=k then (a.1,v) else a) else b++[(k,v)]
def iC{p:c × V}{r:List (c × V)}{k:c}(e:p.1=k):cG (p::r) k=⇑p.2:=by simp[cG,List.find?_cons,e]
def iD{p:c × V}{r:List (c × V)}{k:c}(e:¬ p.1=k):cG (p::r) k=cG r k:=by simp[cG,List.find?_cons,e]
theorem mz(k:c):∀ a:List (c × V),(a.any λb=>decide (b.1=k))=(cG a k).isSome
 | []=>rfl
 | p::r=>by
  rw[List.any_cons];by_cases e:p.1=k
  ·simp only[iC e,decide_eq_true e,Bool.true_or,Option.isSome_some]
  ·rw[iD e,decide_eq_false e,Bool.false_or];exact mz k r
theorem E3(k j:c)(y:V):∀ b:List (c × V),cG (b.map λa=>if a.1=k then (a.1,y) else a) j=(cG b j).map λx=>if j=k then y else x
 | []=>rfl
 | p::r=>by
  let d:=E3 k j y r;rw[jq];by_cases h:p.1=k
  ·rw[if_pos h];by_cases e:p.1=j
   ·rw[iC (p:=(p.1,y)) e,iC e,Option.map_some,if_pos (e.symm.trans h)]
   ·rw[iD (p:=(p.1,y)) e,iD e,d]
  ·rw[if_neg h];by_cases e:p.1=j
   ·rw[iC (p:=p) e,iC e,Option.map_some,if_neg (λz=>h (e.trans z))]
   ·rw[iD (p:=p) e,iD e,d]
theorem BN(k j:c)(y:V):∀ b:List (c × V),cG b k=none->cG (b++[(k,y)]) j=if j=k then some y else cG b j
 | [],_=>by
  by_cases e:k=j
  ·rw[if_pos e.symm];exact iC (p:=(k,y)) e
  ·rw[if_neg (λz=>e z.symm)];exact iD (p:=(k,y)) e
 | p::r,a=>by
  rw[List.cons_append];let d:¬ p.1=k:=λz=>by rw[iC z]at a;cases a
  rw[iD d]at a;let f:=BN k j y r a;by_cases e:p.1=j
  ·rw[iC e,iC e,if_neg (λz=>d (e.trans z))]
  ·rw[iD e,iD e,f]
def kg(b:List (c × V))(k j:c)(y:V):cG (eO b k y) j=if j=k then some y else cG b j:=by
 unfold eO;by_cases a:(b.any λd=>decide (d.1=k))=true
 ·rw[if_pos a,E3];rw[mz]at a;by_cases e:j=k
  ·let⟨x,d⟩:=Option.isSome_iff_exists.mp a;rw[if_pos e,e,d,Option.map_some,if_pos rfl]
  ·rw[if_neg e]
   cases cG b j with
   | none=>rfl
   | some x=>rw[Option.map_some,if_neg e]
 ·rw[if_neg a];refine BN k j y b ?_;rw[mz]at a
  cases q:cG b k with
  | none=>rfl
  | some x=>rw[q]at a;exact (a rfl).elim
def iE(a:List (c × V))(k:c)(v:V):↑(eO a k v)<=↑a+1:=by
 unfold eO;split
 ·rw[cC];lia
 ·rw[dm,eZ,oj];lia
def zl{a:List (c × V)}{k:c}(v:V)(h:cG a k=none):eO a k v=a++[(k,v)]:=by
 unfold eO;rw[mz,h];exact if_neg (by decide)
def pK.vH{o:Option V}{u:XB}(r:pK o u):o.isSome=u.isSome:=by
 cases o with
 | none=>cases u with
  | none=>rfl
  | some _=>exact (show False from r).elim
 | some _=>cases u with
  | none=>exact (show False from r).elim
  | some _=>rfl
def pK.getD{o:Option V}{u:XB}{d:V}{a:Value}(r:pK o u)(b:RelV d a):RelV (o.getD d) (u.getD a):=by
 cases o with
 | none=>cases u with
  | none=>exact b
  | some _=>exact (show False from r).elim
 | some _=>cases u with
  | none=>exact (show False from r).elim
  | some _=>exact r
def KV.val{f:List (c × V)}{g:List (c × Value)}(r:KV f g)(k:c):pK (cG f k) (valueAt g k):=by
 unfold KV at r
 induction r with
 | nil=>exact True.intro
 | @cons p q b a h t j =>
  let⟨i,l⟩:=h;by_cases e:p.1=k
  ·let b:q.1=k:=i.symm.trans e;let d:valueAt (q::a) k=⇑q.2:=by simp[valueAt,List.find?_cons,b]
   rw[iC e,d];exact l
  ·let b:¬ q.1=k:=λz=>e (i.trans z);have d:valueAt (q::a) k=valueAt a k:=by simp[valueAt,List.find?_cons,b]
   rw[iD e,d];exact j
def KV.any{b:List (c × V)}{d:List (c × Value)}(r:KV b d)(k:c):(b.any λa=>decide (a.1=k))=d.any λa=>decide (a.1=k):=by
 unfold KV at r
 induction r with
 | nil=>rfl
 | cons h t e=>rw[List.any_cons,List.any_cons,e,h.1]
theorem KV.repl{d:List (c × V)}{f:List (c × Value)}(r:KV d f)(k:c){y:V}{u:Value}(g:RelV y u) :
  KV (d.map λa=>if a.1=k then (a.1,y) else a) (f.map λa=>if a.1=k then (a.1,u) else a):=by
 unfold KV at r ⊢
 induction r with
 | nil=>exact .nil
 | @cons p q e i h t b =>
  rw[jq,jq];refine .cons ?_ b;let⟨b,i⟩:=h;by_cases e:p.1=k
  ·rw[if_pos e,if_pos (b.symm.trans e)];exact⟨b,g⟩
  ·rw[if_neg e,if_neg (λz=>e (b.trans z))];exact⟨b,i⟩
def KV.put{b:List (c × V)}{a:List (c × Value)}(r:KV b a)(k:c){y:V}{u:Value}(d:RelV y u):KV (eO b k y) (stored a k u):=by
 unfold eO stored;rw[r.any k];by_cases e:(a.any λf=>decide (f.1=k))=true
 ·rw[if_pos e,if_pos e];exact r.repl k d
 ·rw[if_neg e,if_neg e];exact Paired.snoc r ⟨1,d⟩
theorem KV.length{a:List (c × V)}{b:List (c × Value)}(r:KV a b):↑a=↑b:=Paired.length r
end
def zm{P:Program}{w:World}{k:fK}{u:Value}(r:RelV (kV k) u):(fC P w).is k u=true:=by
 cases k with
 | inl i=>let⟨t,e⟩:=(show ∃ t,u=Value.int i t from r);subst e;exact Er P w i t
 | inr x=>let⟨t,e⟩:=(show ∃ t,u=Value.str x t from r);subst e;exact Es P w x t
theorem BO{P:Program}{w:World}:∀ {a:List fK} {b:WP},cD (a.map kV) b->ItemsAre (fC P w) a b
 | [],_,r=>by rw[List.map_nil]at r;cases r;exact .nil
 | k::a,_,r=>by
  rw[jq]at r
  cases r with
  | cons h t=>exact .cons (zm h) (BO t)
abbrev KT(H:Hp):List (List fK × V)->List (List fK × Addr × Value)->Prop:=Paired λp q=>p.1=q.1/\H q.2.1=⇑(.tup (p.1.map kV))/\RelV p.2 q.2.2
def KT.val{H:Hp}{d:List (List fK × V)}{f:List (List fK × Addr × Value)}(r:KT H d f)(k:List fK):pK (cG d k) ((atKey f k).map (·.2)):=by
 induction r with
 | nil=>exact True.intro
 | @cons p q b a h t i =>
  let⟨g,_,j⟩:=h;by_cases e:p.1=k
  ·let b:q.1=k:=g.symm.trans e;let c:atKey (q::a) k=⇑q.2:=by simp[atKey,List.find?_cons,b]
   rw[iC e,c];exact j
  ·let b:¬ q.1=k:=λz=>e (g.trans z);have c:atKey (q::a) k=atKey a k:=by simp[atKey,List.find?_cons,b]
   rw[iD e,c];exact i
theorem KT.repl{H:Hp}{c:List (List fK × V)}{d:List (List fK × Addr × Value)}(r:KT H c d)(k:List fK){y:V}{u:Value}(g:RelV y u) :
  KT H (c.map λb=>if b.1=k then (b.1,y) else b) (d.map (putAt k u)):=by
 induction r with
 | nil=>exact .nil
 | @cons p q e f h t a =>
  rw[jq,jq];refine .cons ?_ a;let⟨a,f,i⟩:=h;unfold putAt;by_cases e:p.1=k
  ·rw[if_pos e,if_pos (a.symm.trans e)];exact⟨a,f,g⟩
  ·rw[if_neg e,if_neg (λz=>e (a.trans z))];exact⟨a,f,i⟩
theorem KT.put{H:Hp}{b:List (List fK × V)}{a:List (List fK × Addr × Value)}(r:KT H b a)(k:List fK){c:Addr}{y:V}{u:Value}(e:H c=⇑(.tup (k.map kV)))(d:RelV y u) :
  KT H (eO b k y) (storedH a k c u):=by
 let f:(b.any λg=>decide (g.1=k))=(atKey a k).isSome:=by
  rw[mz,(r.val k).vH,Option.isSome_map]
 unfold eO storedH;rw[f];by_cases q:(atKey a k).isSome=true
 ·rw[if_pos q,if_pos q];exact r.repl k d
 ·rw[if_neg q,if_neg q];exact Paired.snoc r ⟨1,e,d⟩
theorem KT.keeps{H a:Hp}{b:List (List fK × V)}{c:List (List fK × Addr × Value)}(r:KT H b c)(f:∀ d e,H d=⇑(.tup e)->a d=⇑(.tup e)):KT a b c :=
 Paired.AB r λ_ _ z=>⟨z.1,f _ _ z.2.1,z.2.2⟩
section
variable {P:Program} {w:World} {H:Hp} {h:Heap} {a:Addr}
theorem UH{u:HO}(b:tQ P w H h)(e:Rd H a u):gh P w H h a u:=e.ok b
theorem BP{b:List (fK × V)}(d:tQ P w H h)(e:Rd H a (.dK b)):↑b<=sizeLine/\(a == sysModules)=false/\∃ c,KV b c/\h.DictOf (fC P w) a c :=
 show gh P w H h a (.dK b) from UH d e
theorem Of{b:List (fK × V)}(d:tQ P w H h)(e:H a=⇑(.dK b)):↑b<=sizeLine/\(a == sysModules)=false/\∃ c,KV b c/\h.DictOf (fC P w) a c:=BP d (.inl e)
def zo{b:List fK}(c:tQ P w H h)(e:H a=⇑(.tup (b.map kV))):(tupleKind (fC P w)).is h b a:=by
 let⟨_,d,r,o,f,g,n,i⟩:=(show gh P w H h a (.tup (b.map kV)) from c a _ e);exact⟨o,d.toArray,n,f,g,i,by simpa using BO r⟩
theorem BQ{c:List (List fK × V)}(f:tQ P w H h)(e:Rd H a (.dT c)):↑c<=sizeLine/\(a == sysModules)=false/\
  ∃ d,KT H c d/\h.DictOfH (tupleKind (fC P w)) a d:=by
 let⟨z,y,d,r,o,i,j,k,l,m,n,p⟩:=(show gh P w H h a (.dT c) from UH f e);refine⟨z,y,d,r,o,i,j,k,l,m,n,λx b=>?_,p⟩
 let s:∀ {l:List (List fK × V)} {m:List (List fK × Addr × Value)},KT H l m->∀ x∈m,(tupleKind (fC P w)).is h x.1 x.2.1:=by
  intro l m q
  induction q with
  | nil=>intro x b;exact nomatch b
  | @cons p q i j g k t =>
   intro x b;rcases List.mem_cons.mp b with e|b
   ·subst e;exact zo f (by rw[← g.1];exact g.2.1)
   ·exact t x b
 exact s r x b
theorem Z7{b:List (List fK × V)}(d:tQ P w H h)(e:H a=⇑(.dT b)):↑b<=sizeLine/\(a == sysModules)=false/\
  ∃ c,KT H b c/\h.DictOfH (tupleKind (fC P w)) a c:=BQ d (.inl e)
end
def gp(H:Hp)(b:Addr)(y:V)(r:Option V):Prop :=
 (∃ a k,Rd H b (.dK a)/\y=kV k/\r=cG a k)\/∃ a k c,Rd H b (.dT a)/\y=↥c/\H c=⇑(.tup (k.map kV))/\r=cG a k
def zq(H:Hp)(b:Addr)(y v:V)(c:Hp):Prop :=
 (∃ a k,H b=⇑(.dK a)/\y=kV k/\↑a<sizeLine/\c=aO H b (.dK (eO a k v)))\/
 ∃ a k d,H b=⇑(.dT a)/\y=↥d/\H d=⇑(.tup (k.map kV))/\↑a<sizeLine/\c=aO H b (.dT (eO a k v))
theorem gp.k{H:Hp}{b:Addr}{a:List (fK × V)}{k:fK}(e:H b=⇑(.dK a)):gp H b (kV k) (cG a k):=.inl ⟨a,k,.inl e,V⟩
theorem zq.k{H:Hp}{b:Addr}{a:List (fK × V)}{k:fK}{v:V}(e:H b=⇑(.dK a))(c:↑a<sizeLine):zq H b (kV k) v (aO H b (.dK (eO a k v))):=.inl ⟨a,k,e,1,c,1⟩
section
variable {X:Cx} {ay:List (Addr × Obj)} {σ:St} {H:Hp} {s:Shared} {a:Addr} {y v:V} {u r:Value} {o:Option V} {A:Around} {E:ZB}
def Inv.big(I:Inv X ay σ H s):sysModules<s.heap.objs.size:=by
 let h:mainGlobals<s.heap.objs.size:=(I.mod.glob.keeps I.bk).lt;exact Nat.lt_trans (by decide) h
theorem Ly{Q:ZB}(n:A.units+1<cLine)(I:Inv X ay σ H s)(p:gp H a y (⇑v))(i:RelV y u)(j:∀ b m,Inv X ay σ H m->RelV v b->Q b m) :
  wpAny (model X.prog X.w) A (getItem ↥a u) Q E s:=by
 rcases p with ⟨o,k,e,c,l⟩|⟨o,k,q,e,c,r,l⟩
 ·subst c;let⟨z,t,o,d,f⟩:=BP I.hok e;let⟨b,g,h⟩:=pK.some_of (v:=v) (o:=valueAt o k) (by rw[l];exact d.val k);exact wpAny_getItem_of (zm i) f.mapOf g (j b _ (I.tok _) h)
 ·subst c;cases (show u=Value.ref q from i);let⟨z,t,c,d,f⟩:=BQ I.hok e;let⟨b,g,h⟩:=pK.some_of (v:=v) (o:=(atKey c k).map (·.2)) (by rw[l];exact d.val k);let⟨e,c,d⟩:=Option.map_eq_some_iff.mp g;refine wpAny_getItem_heap (tupleKind_room_in1 n) (zo I.hok r) f c ?_;rw[d];exact j b _ (I.tok _) h
theorem RW{Q:ZB}(j:A.units+1<cLine)(I:Inv X ay σ H s)(m:gp H a y o)(g:RelV y u)(h:∀ i,Inv X ay σ H i->Q (.bool (!o.isSome)) i) :
  wpAny (model X.prog X.w) A (compareOp .NotIn u ↥a) Q E s:=by
 rcases m with ⟨n,k,e,b,l⟩|⟨n,k,p,e,b,q,l⟩
 ·subst b;let⟨z,c,n,d,f⟩:=BP I.hok e;refine wpAny_notIn_of (zm g) c f.mapOf ?_;rw[← (d.val k).vH,← l];exact h _ (I.tok _)
 ·subst b;cases (show u=Value.ref p from g);let⟨z,c,b,d,f⟩:=BQ I.hok e;refine wpAny_notIn_heap (tupleKind_room_in1 j) (zo I.hok q) c f ?_;let q:=(d.val k).vH;rw[Option.isSome_map]at q;rw[← q,← l];exact h _ (I.tok _)
theorem xY{b:Heap}{d:Nat}{c:HO}(I:Inv X ay σ H s)(e:YQ (H a))(f:Heap.SameBut a s.heap b)(g:∃ q,b.get? a=⇑q)(h:gh X.prog X.w (aO H a c) b a c) :
  Inv X ay σ (aO H a c) { s with heap:=b,toks:=d } :=
 I.write (x:=a) (e:=a) e (.inl rfl) (λi q j z=>(f.2 i j).trans z) g h
theorem HQ{P:Program}{w:World}{e:Hp}{d:Heap}{b:List (fK × V)}{c:List (fK × Value)}(z:↑b<=sizeLine)(f:(a == sysModules)=false)(g:KV b c)(h:d.DictOf (fC P w) a c) :
  gh P w e d a (.dK b):=⟨z,f,c,g,h⟩
theorem Lz{p:Hp}{Q:Unit->Shared->Prop}(D:A.units+1<cLine)(I:Inv X ay σ H s)(G:zq H a y v p)(t:RelV y u)(w:RelV v r)(x:∀ B,Inv X ay σ p B->Q () B) :
  wpAny (model X.prog X.w) A (setItem ↥a u r) Q E s:=by
 rcases G with ⟨b,k,e,g,F,h⟩|⟨b,k,J,e,g,o,F,h⟩
 ·subst g h;let⟨z,i,F,c,j⟩:=Of I.hok e;let l:↑F<=sizeLine:=by rw[← ↑c];exact z
  let m:↑(eO b k v)<=sizeLine:=by have:=iE b k v;lia
  refine wpAny_setItem_pairs (hsz:=l) (zm t) j λC d n=>x _ ?_;have F:∃ q,C.get? a=⇑q:=let ⟨q,P,f,_⟩:=d;⟨q,f⟩;exact xY I (by rw[e];exact True.intro) n F (HQ m i (c.put k w) d)
 ·subst g h;cases (show u=Value.ref J from t);let⟨z,i,g,c,j⟩:=Z7 I.hok e;let l:↑g<=sizeLine:=by rw[← Paired.length c];exact z
  let m:↑(eO b k v)<=sizeLine:=by have:=iE b k v;lia
  refine wpAny_setItem_heap (hsz:=l) (tupleKind_room_in1 D) (zo I.hok o) j λC d n=>x _ ?_;let⟨q,g,h,f,j,l,C,_,F⟩:=d;refine xY I (by rw[e];exact True.intro) n ⟨q,f⟩ ⟨m,i,_,(c.put k o w).keeps λc d b=>?_,q,g,h,f,j,l,C,F⟩;rw[aL (cQ b e (λz=>nomatch z))];exact b
end
def Wy(i:Expr):Prop:=∀ a b,subscripted i false a b=operate [a,b] (getItem a b)
theorem RX{a:Program}{w:World}{A:Around}{E:ZB}{s:Shared}{c:Env}{T k:String}{Q:ZB}
  (l:typeLookup (.type T) "__getitem__"=pure (⇑(.builtin k))) (m:Wy d)
  (n:wpAny (model a w) A (eval g c) (λo h=>wpAny (model a w) A (eval d c) (λi b=>b.TypeIs o T/\wpAny (model a w) A (getItem o i) Q E b) E h) E s) :
  wpAny (model a w) A (eval (.Subscript g d p) c) Q E s:=by
 refine Subscript_ (wpAny_mono n (λo h e=>wpAny_mono e (λi b e=>?_) λ_ _ x=>x) λ_ _ x=>x);let⟨f,e⟩:=e;unfold subscriptTail;refine wpAny_bind ?_;rw[getitemInPython_of_ne f.not_modules];refine wpAny_bind (wpAny_specialOf f l ?_)
 let f:wpAny (model a w) A (subscripted d false o i) (λr j=>wpAny (model a w) A (letTemporaryGo g o r >>= λ_=>pure r) Q E j) E b:=by
  rw[m o i];exact wpAny_operating (wpAny_mono e (λr j e=>wpAny_bind (wpAny_letTemporaryGo (wpAny_pure e))) λ_ _ x=>x)
 first
  | exact wpAny_pure (wpAny_bind f)
  | exact wpAny_bind (wpAny_pure (wpAny_bind f))
  | exact wpAny_bind f
def E4{c:Cx}{d:St}{H:Hp}{s:Shared}{b:Addr}{y:V}{o:Option V}(I:Inv c f d H s)(g:gp H b y o):s.TypeIs ↥b "dict":=by
 rcases g with ⟨a,k,e,_,_⟩|⟨a,k,h,e,_,_,_⟩
 ·let⟨_,_,h,_,a⟩:=BP I.hok e;exact a.typeIs
 ·let⟨_,_,h,_,a⟩:=BQ I.hok e;exact a.typeIs
inductive Z8(x y:V)(H:Hp)(Q:VK):Prop
 | mk (a:Addr) (v:V) (_:x=↥a) (_:gp H a y (⇑v)) (_:Q v H):Z8 x y H Q
def UI(b c:TE):TE:=fun a H Q=>b a H λx d=>c a d λy a=>Z8 x y a Q
def RY(c d:TE):TE:=fun a H Q=>c a H λy b=>d a b λx a=>∃ b o,x=↥b/\gp a b y o/\Q (.bl (!o.isSome)) a
def Z9(d e f:TE):TS:=λD a H=>f a H λv b=>d a b λx b=>e a b λy g=>∃ b c,x=↥b/\zq g b y v c/\D.nx a c
section
variable {X:Cx} {o i e value:Expr} {pos iZ La:Pos} {td ty tv:TE}
def RZ(d:X.A.units+1<cLine)(f:PE X o td)(h:PE X i ty)(j:Wy i):PE X (.Subscript o i pos) (UI td ty):=by
 intro a s b H Q I e;refine RX PySem.F.slot_dict_getitem.lookup j (dF (f a s b H _ I e) λu e ⟨x,k,l,m,n⟩=>dF (h a e b k _ l n) λb e a=>?_);let⟨y,p,c,q,r,v,t,g,w⟩:=a;subst t;obtain rfl:u=Value.ref r:=m;exact⟨E4 c g,Ly d c g q λc e a b=>⟨v,p,a,b,w⟩⟩
def BR(c:X.A.units+1<cLine)(d:PE X i ty)(f:PE X o td):PC X .NotIn i o (RY ty td):=by
 intro a s b H Q I h;refine dF (d a s b H _ I h) λw e ⟨y,g,h,j,k⟩=>dF (f a e b g _ h k) λu b a=>?_;let⟨x,l,m,n,p,q,r,t,v⟩:=a;subst r;obtain rfl:u=Value.ref p:=n;exact RW c m t j λb a=>⟨.bl (!q.isSome),l,a,1,v⟩
theorem oF(c:X.A.units+1<cLine)(d:PE X o td)(f:PE X i ty)(g:PE X value tv)(h:swapsWith value (⇑(.Subscript o i iZ)) pos.line X.env=pure false) :
  PS X (.Assign [.Subscript o i iZ] value pos) (Z9 td ty tv):=by
 intro b s a H D I e;refine wpAny_Assign_Subscript (dF (g b s a H _ I e) λy e ⟨z,j,k,l,m⟩=>dF (d b e a j _ k m) λu e ⟨y,j,k,n,m⟩=>dF (f b e a j _ k m) λb e ⟨y,j,p,q,r,t,v,w,x⟩=>?_) h;subst v;obtain rfl:u=Value.ref r:=n;exact Lz c p w q l λe b=>⟨a,t,b,x⟩
end
theorem E5{P:Program}{w:World}{H:Hp}(h:Heap)(a:sysModules<h.objs.size):gh P w H (h.push { cls:=.type "dict",data:=.dict #[] }) h.objs.size (.dK []) :=
 ⟨Nat.zero_le _,beq_eq_false_iff_ne.mpr (Ne.symm (jK a)),[],.nil,Heap.DictOf.new h⟩
def Wz:TE:=λ_ H Q=>∀ p,H p=none->Q ↥p (aO H p (.dK []))
section
variable {X:Cx} {pos:Pos}
theorem mC:PE X (.Dict [] [] pos) Wz:=λa s b H Q I h =>
 wpAny_Dict_empty ⟨↥s.heap.objs.size,_,I.laid (a:=s.heap.objs.size) (o:=.dK []) (t':=s.toks) (λ_ _ q=>Heap.get?_push_of_some _ q) (fk _) (E5 s.heap I.big),1,h _ (I.hok.fresh (fk _))⟩
end
def HR:List (TE × TE)->St->Hp->(List (V × V)->Hp->Prop)->Prop
 | [],_,H,Q=>Q [] H
 | (b,c)::r,a,H,Q=>b a H λx b=>c a b λy b=>HR r a b λa b=>Q ((x,y)::a) b
abbrev VV:List (V × V)->List (Value × Value)->Prop:=Paired λp q=>RelV p.1 q.1/\RelV p.2 q.2
def e9(a:Cx)(f:Pos)(g:List (Option Expr))(h:List Expr)(i:List (TE × TE)):Prop :=
 ∀ (c:List (Addr × Obj)) (s:Shared) (b:St) (H:Hp) (Q:List (V × V)->Hp->Prop),Inv a c b H s->HR i b H Q->
  wpAny (model a.prog a.w) a.A (evalPairs (pairTrees g h a.env f)) (λj k=>∃ d e,Inv a c b e k/\VV d j/\Q d e) a.xe s
theorem Sd{a:Cx}:e9 a b [] [] []:=λc s d H Q I h=>pairTrees_nil_walk ⟨[],H,I,.nil,h⟩
theorem uC{a:Cx}{k v:Expr}{d:List (Option Expr)}{e f:TE}{g:List (TE × TE)}(h:PE a k e)(i:PE a v f)(j:e9 a l d m g) :
  e9 a l (⇑k::d) (v::m) ((e,f)::g):=λb s c H Q I n =>
 pairTrees_cons_walk (dF (h b s c H _ I n) λu n ⟨x,o,p,q,r⟩=>dF (i b n c o _ p r) λu n ⟨y,o,p,r,t⟩ =>
  dF (j b n c o _ p t) λt u ⟨b,c,n,o,p⟩=>⟨(x,y)::b,c,n,.cons ⟨q,r⟩ o,p⟩)
def vI(b c:List (fK × V)):List (fK × V):=c.foldl (λd a=>eO d a.1 a.2) b
def KV.merge:∀ {c:List (fK × V)} {d:List (fK × Value)} {a:List (fK × V)} {b:List (fK × Value)},KV c d->KV a b->KV (vI a c) (merged b d):=by
 intro c d a b r;unfold KV at r
 induction r generalizing a b with
 | nil=>intro q;exact q
 | @cons p q f g h t e =>
  intro f
  let g:KV (eO a p.1 p.2) (stored b q.1 q.2):=by
   have:=f.put p.1 h.2;rw[← h.1];exact this
  exact e g
theorem rY:∀ (b a:List (fK × V)),↑(vI a b)<=↑a+↑b
 | [],a=>by show ↑a<=↑a+0;lia
 | p::r,a=>by
  let c:=rY r (eO a p.1 p.2);let c:=iE a p.1 p.2;show ↑(vI (eO a p.1 p.2) r)<=_;rw[eZ];lia
theorem zw{P:Program}{w:World}:∀ {d:List (fK × V)} {e:List (Value × Value)},VV (d.map λf=>(kV f.1,f.2)) e->∃ c,Carries (fC P w) e c/\KV d c
 | [],_,r=>by rw[List.map_nil]at r;cases r;exact⟨[],True.intro,.nil⟩
 | p::d,_,r=>by
  rw[jq]at r
  cases r with
  | @cons a b g bs h t =>
   let⟨c,g,q⟩:=zw (P:=P) (w:=w) t;let⟨j,i⟩:=b;exact⟨(p.1,i)::c,⟨zm h.1,1,g⟩,.cons ⟨1,h.2⟩ q⟩
def Og(d:List (TE × TE)):TE:=fun a H Q=>∀ p,H p=none->HR d a (aO H p (.dK [])) λc b=>b p=⇑(.dK [])/\∃ a:List (fK × V),c=a.map (λc=>(kV c.1,c.2))/\↑a<=15/\Q ↥p (aO b p (.dK (vI [] a)))
theorem Se{a:Cx}{b:List (Option Expr)}{c:List Expr}{d:List (TE × TE)}(i:e9 a j b c d)(k:b.all (·.isSome)=true)(l:b.length=↑c)(m:b≠[])
  (n:b.length<=15):PE a (.Dict b c j) (Og d):=by
 intro h s o H Q I q;let p:=I.hok.fresh (fk s.heap.objs.size);let r:=I.laid (a:=s.heap.objs.size) (o:=.dK []) (h':=s.heap.push { cls:=.type "dict",data:=.dict #[] }) (t':=s.toks) (λ_ _ q=>Heap.get?_push_of_some _ q) (fk _) (E5 s.heap I.big);refine wpAny_Dict_walk (knd:=fC a.prog a.w) k l m n (dF (i h _ o _ _ r (q _ p)) λo p h=>?_);let⟨o,p,e,t,f,g,u,lk,v⟩:=h;subst u;let⟨w,x,y⟩:=zw (P:=a.prog) (w:=a.w) t;let⟨h,z,o,A,B⟩:=Of e.hok f;cases A;refine⟨w,x,B,λo h p=>⟨↥s.heap.objs.size,_,?_,1,v⟩⟩
 let r:↑(vI [] g)<=sizeLine:=by
  let t:=rY g [];rw[oj]at t;rw[sizeLine_eq];lia
 let g:∃ q,o.get? s.heap.objs.size=⇑q:=let ⟨q,P,o,_⟩:=h;⟨q,o⟩;exact xY e (by rw[f];exact True.intro) p g (HQ r z (y.merge .nil) h)
structure M2(X:Cx)(o:Expr)(m:Str)(jT:Pos)(e f:Expr)(nM:Pos):Prop where
 zt:attributeBase o m X.env (eval o X.env)=eval o X.env
 few:((backTo nM (starEach [e,f] X.env)).all (λx=>!x.1)&&(backToKw nM (keywordEach [] X.env)).all (λx=>x.1.isSome)
  && decide (↑([e,f]:List Expr)+↑([]:List Keyword)+(if ([]:List Keyword).isEmpty then 0 else 1)<30))=true
 line:(jT.endLine == nM.line)=true
 trees:backTo nM (starEach [e,f] X.env)=[(false,eval e X.env),(false,eval f X.env)]
def gb(H:Hp)(b:Addr):Prop:=(∃ a,Rd H b (.dK a))\/∃ a,Rd H b (.dT a)
theorem Oh{i:Cx}{j:St}{H:Hp}{s:Shared}{c:Addr}(I:Inv i m j H s)(k:gb H c) :
  s.TypeIs ↥c "dict"/\(∀ d,Value.ref c=↥d->∃ a,s.heap.get? d=⇑a/\a.dict=none)/\(c == sysModules)=false:=by
 rcases k with ⟨l,e⟩|⟨l,e⟩
 ·let⟨_,f,l,_,b⟩:=BP I.hok e;refine⟨b.typeIs,λd q=>?_,f⟩;cases q;let⟨a,_,_,g,h,_⟩:=b;exact⟨a,g,h.2.1⟩
 ·let⟨_,f,l,_,b⟩:=BQ I.hok e;refine⟨b.typeIs,λd q=>?_,f⟩;cases q;let⟨a,_,_,g,h,_⟩:=b;exact⟨a,g,h.2.1⟩
section
variable {X:Cx} {ay:List (Addr × Obj)} {σ:St} {H:Hp} {s:Shared} {a:Addr} {y d:V} {u r:Value} {o:Option V} {A:Around} {E:ZB}
theorem WA{Q:ZB}(q:A.units+1<cLine)(I:Inv X ay σ H s)(t:gp H a y o)(h:RelV y u)(i:RelV d r)(j:∀ m n,Inv X ay σ H n->RelV (o.getD d) m->Q m n) :
  wpAny (model X.prog X.w) A (call (.builtin "dict.get") [↥a,u,r]) Q E s:=by
 rcases t with ⟨v,k,e,c,l⟩|⟨v,k,p,e,c,w,l⟩
 ·subst c;let⟨z,f,v,g,b⟩:=BP I.hok e;refine call_meetsIn PySem.F.slot_dict_get b.typeIs PySem.F.entry_dict_get (PySem.F.args_dict_get_3 _ _ _) (meets_dict_get_default (fC X.prog X.w) a (zm h) f r) ⟨_,b.mapOf,j _ _ (I.tok _) ?_⟩;rw[l];exact (g.val k).getD i
 ·subst c;cases (show u=Value.ref p from h);let⟨z,f,c,g,b⟩:=BQ I.hok e;refine call_meetsIn PySem.F.slot_dict_get b.typeIs PySem.F.entry_dict_get (PySem.F.args_dict_get_3 _ _ _) (meetsH_dict_get_default (tupleKind (fC X.prog X.w)) a p f r) ⟨tupleKind_room_in1 q,k,c,zo I.hok w,b,j _ _ (I.tok _) ?_⟩;rw[l];exact (g.val k).getD i
end
def WB(d e f:TE):TE:=fun a H Q=>d a H λx c=>∃ b,x=↥b/\gb c b/\e a c λy c=>f a c λz a=>∃ o,gp a b y o/\Q (o.getD z) a
section
variable {X:Cx} {o e f:Expr} {jT nM:Pos} {td ty tx:TE}
def Oi(d:X.A.units+1<cLine)(g:PE X o td)(h:PE X e ty)(i:PE X f tx)(m:M2 X o "get" jT e f nM):PE X (.Call (.Attribute o "get" jT) [e,f] [] nM) (WB td ty tx):=by
 intro a s b H Q I j;refine wpAny_Call_method m.zt m.few m.line PySem.F.plainAttrs_dict PySem.F.slot_dict_get PySem.F.type_dict_get (dF (g a s b H _ I j) λu k j=>?_);let⟨x,l,c,n,p,q,r,t⟩:=j;subst q;obtain rfl:u=Value.ref p:=n;let⟨j,n,_⟩:=Oh c r;exists j,n;rw[m.trees]
 refine Calls.callWith_builtin rfl (Calls.evalArgs_plain (Calls.spliced_cons (dF (h a k b l _ c t) λp c ⟨y,j,k,l,n⟩ =>
  Calls.spliced_cons (dF (i a c b j _ k n) λn p ⟨z,a,b,c,q,j,k⟩=>Calls.spliced_nil ?_))))
 exact WA d b j l c λj l b c=>⟨_,a,b,c,k⟩
end
end _L2
namespace _cN
open Spec Rows _L2
def iX(a:Cx)(N:UV)(b:Scope)(c:List (Str × Addr))(C:Addr)(s₀:Shared)(H₀:Hp)(ex:WF)(pn:List (Addr × Obj)):Cx where
 prog:=a.prog
 w:=a.w
 K:=a.K
 mg:=a.mg
 zt:=a.zt
 A:=a.A
 N:=N
 s₀:=s₀
 H₀:=H₀
 env:=compEnvC b c C a.env
 zn:=a.stack
 stack:=a.stack
 ex:=ex
 fn:=λ_=>false
 calm:=a.calm
 pn:=pn
 xe:=λ_ _=>False
structure BS(X:Cx)(N:UV)(scope:Scope)(cl:List (Str × Addr))(jx:List (Option Nat)):Prop where
 kind:scope.kind=.function
 cell:∀ x∈scope.names,x.2≠.cell
 names:∀ x∈scope.names,x.2=.local->scope.names.lookup x.1=⇑.local
 clos:closureFor scope X.env=pure cl
 sub:∀ x c,cl.lookup x=⇑c->X.env.cells.lookup x=⇑c
 has:∀ x,((relabel scope X.env).names.lookup x=⇑.cell\/(relabel scope X.env).names.lookup x=⇑.free)->∃ c,cl.lookup x=⇑c
 len:↑jx=↑N
 free:∀ (i j:Nat) (x:Str),jx[i]?=⇑(⇑j)->N[i]?=⇑x->X.N[j]?=⇑x/\X.env.scope.names.lookup x=⇑.cell/\(relabel scope X.env).names.lookup x=⇑.cell
def sW(a:List (Option Nat))(b:_L2.St):_L2.St:=a.map λo=>o.bind λj=>(b[j]?).join
section
variable {X:Cx} {N:UV} {scope:Scope} {c:List (Str × Addr)} {jx:List (Option Nat)}
theorem xq{h:_L2.St}{H:Hp}{s:Shared}{m:WF}{q:Heap}{C:Nat}(d:BS X N scope c jx)(I:Inv X i h H s)(n:∀ b∈m,ou X i H b)(D:∀ b∈m,b<s.heap.objs.size)
  (G:q.Ns s.heap.objs.size λ_=>none) (j:∀ b o,s.heap.get? b=⇑o->q.get? b=⇑o) :
  Inv (iX X N scope c s.heap.objs.size s H m (X.pn++i)) [] (sW jx h) H { s with heap:=q,toks:=C }:=by
 let k:∀ {x a},(iX X N scope c s.heap.objs.size s H m (X.pn++i)).env.cells.lookup x=⇑a->X.env.cells.lookup x=⇑a:=λ{x a} e=>d.sub x a e
 refine⟨⟨I.ok.mod,d.kind,I.ok.glob,I.ok.blt,fk _,λx F a e J=>I.ok.inj x F a (k e) (k J),λx F=>d.has x F,λx a z _=>(by cases z),I.ok.hd,I.ok.frames,.inl rfl,λb f=>⟨Nat.ne_of_lt (D b f),λx a e=>(n b f).2.2.2.2.1 x a (k e)⟩,I.bs,ig I.ok.Uq I.sz,λb o e f=>?_,λb f z=>?_,I.stack,I.Jw⟩,1,I.bare,Un.kept j,⟨_,G,λw x v L g _=>?_⟩,λx a e=>?_,I.hok.fresh (fk _),λx a e=>I.rD x a (k e),λp M=>?_,I.hok.kept j,by unfold sW;rw[cC];exact d.len⟩
 ·rcases (n b f).2.2.2.1 with z|z
  ·exact I.ok.Nc b o e z
  ·exact absurd (pJ (Heap.lt_size (I.ok.bs b o e).1) z) (Nat.lt_irrefl _)
 ·rcases List.mem_cons.mp (I.vo b z) with e|e
  ·exact (n b f).2.1 e
  ·exact (n b f).2.2.1 e
 ·unfold sW at g;rw[lD]at g
  cases r:jx[w]? with
  | none=>rw[r]at g;cases g
  | some o =>
   rw[r]at g
   cases o with
   | none=>cases g
   | some l =>
    let O:h[l]?=⇑(⇑v):=by
     let z:((h[l]?).join)=⇑v:=pW g
     cases t:h[l]? with
     | none=>rw[t]at z;cases z
     | some f=>rw[t]at z;exact congrArg some z
    let⟨f,y,A⟩:=d.free w l x r L;let⟨r,w,g⟩:=I.loc;let⟨r,w,R⟩:=g l x v f O (.inr (.inl y));exists r,w;rcases R with ⟨f,_⟩|⟨_,a,S,o,t,u⟩
    ·let B:X.env.scope.names.lookup x=⇑.local:=f;rw[y]at B;cases B
    ·let⟨f,B⟩:=d.has x (.inl A);let z:=d.sub x f B;rw[S]at z;cases z;exact .inr ⟨.inl A,a,B,o,j _ _ t,u⟩
 ·let⟨v,o,t,u⟩:=I.cell x a (k e);exact⟨v,o,j _ _ t,u⟩
 ·let a:p∈X.pn++i:=by
   let z:p∈(X.pn++i)++[]:=M;simpa using z
  let⟨e,f,l,r,g⟩:=I.pin p a;refine⟨j _ _ e,f,jK (Heap.lt_size e),λz=>?_,g⟩;rcases List.mem_cons.mp (I.vo p.1 z) with e|e
  ·exact l e
  ·exact r e
theorem vJ{g j:_L2.St}{H h:Hp}{s i:Shared}{e:WF}(I:Inv X f g H s)(a:∀ b∈e,ou X f H b)(J:Inv (iX X N scope c s.heap.objs.size s H e (X.pn++f)) [] j h i):Inv X f g h i :=
 I.YV (e:=e) J.os J.zt J.hok J.bare λb d=>⟨(a b d).2.2.2.1,(a b d).2.1,(a b d).2.2.2.2.1,(a b d).2.2.2.2.2⟩
def vK{h d:_L2.St}{H b:Hp}{s a:Shared}{f:Heap}(I:Inv X g h H s)(i:Inv X g d b a)(j:b s.heap.objs.size=none)(k:Heap.SameBut s.heap.objs.size a.heap f):Inv X g d b { a with heap:=f }:=by
 refine i.turned (t':=a.toks) (it:=s.heap.objs.size) (λl o c e=>k.extBut _ _ c e) j (Nat.ne_of_gt I.lt) (.inr I.sz) (λx c e z=>?_) λp l z=>?_
 ·let⟨v,o,m,_⟩:=I.cell x c e;exact absurd (Heap.lt_size m) (by rw[z];exact Nat.lt_irrefl _)
 ·exact absurd (Heap.lt_size (I.pin p l).1) (by rw[z];exact Nat.lt_irrefl _)
def qL(J:It)(d:Addr)(g:TG)(tt:TT)(h:TE)(j:_L2.St)(H:Hp)(Q:VK):Prop :=
 ∃ W:Nat->Nat->_L2.St->Hp->Prop,(∃ m,W 0 m j H)/\∀ i m b H,W i m b H->
  (J.stop i H/\Q ↥d H)\/(J.go i H/\∃ c:_L2.St->Hp->Prop,(∀ e a,c e a->∃ f,f<m/\W (i+1) f e a)/\∀ x a,J.Nh i H x a->g x b a fun b e=>tt b e λa e =>
   if a=true then h b e λv f=>∃ a,f d=⇑(.lst a)/\↑a<sizeLine/\c b (aO f d (.lst (a++[v]))) else c b e)
def vL(jx:List (Option Nat))(d:TI)(g:TG)(tt:TT)(e:TE):TE:=fun b H Q=>d b H λJ c=>∀ a,c a=none->qL J a g tt e (sW jx b) (aO c a (.lst [])) Q
theorem BU{t:Expr}{wi:TI}{ab:TG}{tt:TT}{te:TE}(m:BS X N scope c jx)(hc:X.calm=true)(hi:PI X M t wi)
  (hg:∀ C u v w y,PG (iX X N scope c C u v w y) M ab) (ht:∀ C u v w y,Lq (iX X N scope c C u v w y) jL tt) (he:∀ C u v w y,PE (iX X N scope c C u v w y) j4 te)
  (hs:∀ x,foldedSetIterable t X.env x=pure x) {use:Option (Value->Sem Unit)} {O:ZB} {Q:VK} {h:List (Addr × Obj)} {s:Shared} {q:_L2.St} {U:Hp} (aq:Inv X h q U s) (ar:vL jx wi ab tt te q U Q)
  (as:∀ (a:Shared) (i:Hp) (e:WF) (ae:Addr) (n:_L2.St) (p:Hp) (z:Shared),Inv X h q i a->(∀ b∈e,ou X h i b)->Inv (iX X N scope c a.heap.objs.size a i e (X.pn++h)) [] n p z->Q ↥ae p->
   compPost (model X.prog X.w) X.A X.xe use O ↥ae a.heap.objs.size (.ok .next) z) :
  wpAny (model X.prog X.w) X.A (comprehension (.ListComp j4 [⟨M,t,jL,0⟩] scope av) scope X.env iZ (newList []) false (eval t X.env) use) O X.xe s:=by
 refine wpAny_comprehension_free (use:=use) rfl hs m.clos m.kind m.names (dF (hi h s q U _ aq ar) λag s1 h1=>dF h1 λY7 g h2=>?_);let⟨it,e,F,a1,G,f,I2,T,ai,f2,aw⟩:=h2;subst f;refine wpAny_newObj_type (hd:=by size_fits) ?_;let cL:G g.heap.objs.size=none:=I2.hok.fresh (fk _);let A:Inv X h q (aO G g.heap.objs.size (.lst [])) { g with heap:=g.heap.push { cls:=.type "list",data:=.seq ([]:WP).toArray },toks:=g.toks }:=I2.Rl (ys:=[]) .nil (Nat.zero_le _)
 let ak:∀ b∈e,b<g.heap.objs.size:=λb d=>by
  let⟨o,j,_⟩:=T.obj _ _ ai b d;exact Heap.lt_size j
 let l:∀ b∈e,ou X h (aO G g.heap.objs.size (.lst [])) b:=λb d=>⟨by rw[aL (jK (ak b d))];exact (f2 b d).1,(f2 b d).2⟩;have k3:∀ b o,g.heap.get? b=⇑o->(g.heap.push { cls:=.type "list",data:=.seq ([]:WP).toArray }).get? b=⇑o:=λb o f=>Heap.get?_push_of_some _ f;have q3:=aw _ cL;generalize ax:({ g with heap:=g.heap.push { cls:=.type "list",data:=.seq ([]:WP).toArray },toks:=g.toks }:Shared)=a at A;generalize aw:aO G g.heap.objs.size (.lst [])=i at A l q3;have G:a.heap=g.heap.push { cls:=.type "list",data:=.seq ([]:WP).toArray }:=by rw[← ax]
 let J8:∀ b∈e,b<a.heap.objs.size:=λb d=>by rw[G,Heap.size_push];exact Nat.lt_succ_of_lt (ak b d)
 let ak:F 0 a.heap:=T.keep _ _ _ ai λb _ o f=>by rw[G];exact k3 b o f
 show wpAny _ _ _ _ _ a;refine wpAny_newFunctionEnv m.cell (λR j=>by simp at j) (λH MR Sf=>?_) m.kind;let G:∀ b o,a.heap.get? b=⇑o->H.get? b=⇑o:=λb o f=>Sf.extBut _ _ (jK (Heap.lt_size f)) (Heap.get?_push_of_some _ f);have J0:Inv (iX X N scope c a.heap.objs.size a i e (X.pn++h)) [] (sW jx q) i { a with heap:=H,toks:=a.toks+↑([]:List (Str × Value)) }:=xq m A l J8 MR G;have am:F 0 H:=T.keep _ _ _ ak λb _ o f=>G b o f;let⟨W,⟨m0,w0⟩,l5⟩:=q3
 let S:∀ {j:Hp},(∀ b∈e,j b=none)->∀ b∈e,ou (iX X N scope c a.heap.objs.size a i e (X.pn++h)) [] j b:=λG b d=>by
  refine⟨G b d,jK (J8 b d),λk=>?_,.inl d,λx B f=>(l b d).2.2.2.2.1 x B (m.sub x B f),λr D=>?_⟩
  ·rcases List.mem_cons.mp (A.vo b k) with f|f
   ·exact (l b d).2.1 f
   ·exact (l b d).2.2.1 f
  ·let B:r∈X.pn++h:=by
    let k:r∈(X.pn++h)++[]:=D;simpa using k
   exact (l b d).2.2.2.2.2 r B
 let an:∀ G:Shared,G={ a with heap:=H,toks:=a.toks+↑([]:List (Str × Value)) }->codeAny (model X.prog X.w) X.A (.compLoop (.ListComp j4 [⟨M,t,jL,0⟩] scope av) 0 ↥it ↥g.heap.objs.size (iX X N scope c a.heap.objs.size a i e (X.pn++h)).env)
   (compPost (model X.prog X.w) X.A X.xe use O ↥g.heap.objs.size a.heap.objs.size) G:=by
  rintro G rfl;refine Lp (λI r=>∃ k B j,Inv (iX X N scope c a.heap.objs.size a i e (X.pn++h)) [] B j r/\F k r.heap/\(∀ b∈e,j b=none)/\W k I B j) ?_ m0 ⟨0,_,i,J0,am,λb d=>(l b d).1,w0⟩;rintro I s6 ⟨k,n,p,I6,UE,GZ,w6⟩;rcases l5 k I n p w6 with ⟨stop,qn⟩|⟨go,Nx,hN,step⟩
  ·refine dF (T.done (iX X N scope c a.heap.objs.size a i e (X.pn++h)) rfl rfl rfl hc k [] s6 n p _ I6 (S GZ) UE stop) λaB z r=>?_;let⟨hr,D⟩:=r;subst hr;exact as a i e _ n p z A l D qn
  ·refine dF (T.item (iX X N scope c a.heap.objs.size a i e (X.pn++h)) rfl rfl rfl hc k [] s6 n p _ I6 (S GZ) UE go) λaB z l=>?_;let⟨aN,hr,h7⟩:=l;subst hr;refine dF h7 λ_ H A=>?_;let⟨x,l,I8,r8,y8,G,RO⟩:=A;have A:=I8.pinned (S RO) (T.obj _ _ G);refine dF (hg _ _ _ _ _ _ H n l x aN _ A r8 (step x l y8)) λ_ l A=>?_;let⟨J,S,I9,q9⟩:=A;refine dF (ht _ _ _ _ _ _ l J S _ I9 q9) λok aR l=>?_;let⟨MT,UG,L⟩:=l
   let ap:∀ {l:_L2.St} {A:Hp} {r:Shared},Inv (iX X N scope c a.heap.objs.size a i e (X.pn++h)) ([]++sG e H.heap) l A r->Nx l A->∃ H,H<I/\∃ k B j,Inv (iX X N scope c a.heap.objs.size a i e (X.pn++h)) [] B j r/\F k r.heap/\(∀ b∈e,j b=none)/\W k H B j:=λ{l A r} D B=>by
    let⟨F,H,I⟩:=hN l A B;refine⟨F,H,k+1,l,A,D.nI,T.keep _ _ _ G λb d o f=>(D.pin (b,o) (nG _ (nG _ (iu d f)))).1,λb d=>?_,I⟩;let⟨o,f,k⟩:=T.obj _ _ G b d;exact (D.pin (b,o) (nG _ (nG _ (iu d f)))).2.1
   cases ok with
   | false =>
    rw[if_neg lV]at L;exact ap UG L
   | true =>
    rw[if_pos rfl]at L;refine dF (he _ _ _ _ _ _ aR J MT _ UG L) λag r d=>?_;let⟨R,f,k,aZ,xs,hx,hz,a0⟩:=d;refine dF (bU _ r J f ↥g.heap.objs.size [R] ↥g.heap.objs.size [ag] (λ_ j=>Nx J j) k rfl (.cons aZ .nil) ⟨_,xs,R,V,hx,hz,a0⟩) λ_ f d=>?_;let⟨_,j,f,_,g⟩:=d;exact ap f g
 exact codeAny_compStart_list (an _ rfl) (T.self _ _ _ _ _ am (an _ rfl))
theorem Oj{f:Expr}{h:TI}{i:TG}{tt:TT}{j:TE}(m:BS X N scope c jx)(n:X.calm=true)(o:PI X k f h)
  (p:∀ C a b d e,PG (iX X N scope c C a b d e) k i) (q:∀ C a b d e,Lq (iX X N scope c C a b d e) r tt) (t:∀ C a b d e,PE (iX X N scope c C a b d e) u j)
  (v:∀ x,foldedSetIterable f X.env x=pure x:=by intro _;rfl):PE X (.ListComp u [⟨k,f,r,0⟩] scope G) (vL jx h i tt j):=by
 intro l s w H Q I g;rw[eval_ListComp];refine BU (use:=none) m n o p q t v I g λB D F w H y I l z g A=>?_;let⟨B,D,_⟩:=g.loc;exact⟨B,D,λD B=>⟨↥w,y,vK l (vJ l z g) g.free B,1,A⟩⟩
theorem Sg{a:Expr}{r:Pos}{i:TI}{j:TG}{tt:TT}{k:TE}{l:Nat}{x:Str}(A:BS X N scope c jx)(B:X.calm=true)(G:X.N.Nodup)(H:X.N[l]?=⇑x)(t:X.env.scope.names.lookup x=⇑.local)(I:PI X g a i)
  (J:∀ C b d e f,PG (iX X N scope c C b d e f) g j) (L:∀ C b d e f,Lq (iX X N scope c C b d e f) m tt) (M:∀ C b d e f,PE (iX X N scope c C b d e f) n k)
  (O:swapsWith (.ListComp n [⟨g,a,m,0⟩] scope u) (⇑(.Name x o)) r.line X.env=pure true:=by rfl)
  (T:∀ x,foldedSetIterable a X.env x=pure x:=by intro _;rfl):PS X (.Assign [.Name x o] (.ListComp n [⟨g,a,m,0⟩] scope u) r) (Nf (vL jx i j tt k) (qb l)):=by
 intro F s v R D S U;rw[exec_Assign_Name_used _ _ _ _ O];refine wpAny_bind (wpAny_standAt (wpAny_bind ?_));show wpAny _ X.A (do let _ ← comprehension (.ListComp n [⟨g,a,m,0⟩] scope u) scope X.env _ (newList []) false (eval a X.env) (⇑(assign (.Name x o) X.env))) _ _ s;let w:vL jx i j tt k v R (λy h=>qb l y v h D.nx):=U;refine wpAny_bind (dF (BU (use:=⇑(assign (.Name x o) X.env)) (O:=λ_ v=>∃ p h,Inv X F p h v/\D.nx p h) A B I J L M T S w λW R S D U H6 s7 h F p qn=>?_) λ_ v ab=>?_)
 ·let v:=vJ h F p;let⟨ae,hm,_⟩:=p.loc;refine wpAny_assign_Name (Bm v G H (.inl t) (T:=↥D) rfl (λv I8 ⟨z,Sf,q⟩=>?_) (.inr t))
  let na:W.heap.objs.size≠z:=by
   rcases q with rfl|q
   ·exact Nat.ne_of_gt h.lt
   ·intro D;let⟨y,v,y,_⟩:=h.cell x z q;exact absurd (Heap.lt_size y) (by rw[D];exact Nat.lt_irrefl _)
  refine⟨ae,hm.at' λv q=>Sf.extBut _ v na q,λw q=>⟨_,H6,vK h I8 p.free q,qn⟩⟩
 ·exact wpAny_pure (wpAny_pure ab)
theorem gu{K:Frag}{h:Addr}{a:List V}{j:TG}{tt:TT}{k:TE}{l:_L2.St}{H:Hp}{Q:VK}(d:Nat->_L2.St->Hp->Prop)(r:d 0 l H)(t:∀ i b H,i<=↑a->d i b H->bM K H h a)
  (u:∀ i x b H,a[i]?=⇑x->d i b H->j x b H fun e v=>tt e v λw m=>if w=true then k e m λz n=>∃ f,n g=⇑(.lst f)/\↑f<sizeLine/\d (i+1) e (aO n g (.lst (f++[z]))) else d (i+1) e m)
  (A:∀ b H,d ↑a b H->Q ↥g H):qL (Ni K h) g j tt k l H Q:=by
 refine⟨λi o b H=>o=↑a-i/\i<=↑a/\d i b H,⟨↑a,by simp,Nat.zero_le _,r⟩,?_⟩;rintro i o b H ⟨rfl,o,p⟩;let q:=t i b H o p;by_cases o:i<↑a
 ·refine .inr ⟨⟨a,a[i],q,by simp[o]⟩,d (i+1),fun C s B=>⟨↑a-(i+1),Q,1,o,B⟩,λx s y=>?_⟩;let⟨c,y⟩:=y;subst c;exact u i x b _ (y a q) p
 ·let c:i=↑a:=by lia
  subst c;exact .inl ⟨⟨a,q,fk _⟩,A b H p⟩
theorem qw{lo:Int}{k:Nat}{h:TG}{tt:TT}{j:TE}{l:_L2.St}{H:Hp}{Q:VK}(b:Nat->_L2.St->Hp->Prop)(q:b 0 l H)
  (r:∀ i a H,i<k->b i a H->h (.int (lo+i)) a H fun d t=>tt d t λu m=>if u=true then j d m λv n=>∃ e,n f=⇑(.lst e)/\↑e<sizeLine/\b (i+1) d (aO n f (.lst (e++[v]))) else b (i+1) d m)
  (w:∀ a H,b k a H->Q ↥f H):qL (JB lo k) f h tt j l H Q:=by
 refine⟨λi o a H=>o=k-i/\i<=k/\b i a H,⟨k,by simp,Nat.zero_le _,q⟩,?_⟩;rintro i o a H ⟨rfl,o,p⟩;by_cases c:i<k
 ·refine .inr ⟨c,b (i+1),fun x o s=>⟨k-(i+1),Q,1,c,s⟩,λx o y=>?_⟩;let⟨g,y⟩:=y;subst g y;exact r i a _ c p
 ·let g:i=k:=by lia
  subst g;exact .inl ⟨Nat.le_refl _,w a H p⟩
end
section
variable {X:Cx} {N:UV} {scope:Scope} {c:List (Str × Addr)} {C:Addr} {s₀:Shared} {H₀:Hp} {ex:WF} {pn:List (Addr × Obj)}
theorem qM{a:List Expr}{k:Nat}{t:VG}{n:Nat}(b:X.calm=true)(h:Y4 (iX X N scope c C s₀ H₀ ex pn) a t)
  (d:↑(assignEach a (iX X N scope c C s₀ H₀ ex pn).env)=n:=by rfl) (e:(assignEach a (iX X N scope c C s₀ H₀ ex pn).env).findIdx? (·.1)=none:=by rfl):PG (iX X N scope c C s₀ H₀ ex pn) (.Tuple a k f) (VI X.K n t):=kQ (X:=iX X N scope c C s₀ H₀ ex pn) b h d e
theorem E6{l:Expr}{a:TE}(b:PE (iX X N scope c C s₀ H₀ ex pn) l a):PI (iX X N scope c C s₀ H₀ ex pn) d l (Ut X.K a):=cJ b
theorem Om:VY (iX X N scope c C s₀ H₀ ex pn) (Zp X.K):=bJ
theorem C0:VY (iX X N scope c C s₀ H₀ ex pn) (Zq X.K):=bh
theorem Si:qY (iX X N scope c C s₀ H₀ ex pn) (compareOp .In) (eM X.K false):=vB
theorem HS:qY (iX X N scope c C s₀ H₀ ex pn) (compareOp .NotIn) (eM X.K true):=tX
end
def C1{b:Cx}:jN b (.type "range") (λa H Q=>∃ j:Int,a=[.int j]/\∀ p,H p=none->Q ↥p (aO H p (.Et 0 j))):=by
 intro c s d H a e Q I r h;let⟨j,rfl,q⟩:=h;let⟨f,rfl,⟨t,rfl⟩⟩:=r.one;refine call_range_1 ⟨↥s.heap.objs.size,_,I.laid (o:=.Et 0 j) (λc o e=>Heap.get?_push_of_some _ e) (fk _) ⟨K,Heap.get?_push_size _ rfl⟩,1,q _ (I.hok.fresh (fk _))⟩
theorem vM{n:Scope}{d:Env}(y:∀ p∈n.names,p.2=.free->∃ c,d.cells.lookup p.1=⇑c) :
  ∃ a,closureFor n d=pure a/\(∀ x c,a.lookup x=⇑c->d.cells.lookup x=⇑c)/\(∀ p∈n.names,p.2=.free->∃ c,a.lookup p.1=⇑c):=by
 unfold closureFor
 let z:∀ (l:List (Str × NameKind)) (f:List (Str × Addr)),(∀ p∈l,p.2=.free->∃ c,d.cells.lookup p.1=⇑c)->(∀ x c,f.lookup x=⇑c->d.cells.lookup x=⇑c)->
   ∃ a,(forIn l f (λp r=>if (p.2 == NameKind.free)=true then do let c ← cellOf d p.1;pure (ForInStep.yield ((p.1,c)::r)) else pure (ForInStep.yield r)):Sem (List (Str × Addr)))=pure a/\(∀ x c,a.lookup x=⇑c->d.cells.lookup x=⇑c)/\(∀ p∈l,p.2=.free->∃ c,a.lookup p.1=⇑c)/\(∀ x c,f.lookup x=⇑c->∃ c,a.lookup x=⇑c):=by
  intro l
  induction l with
  | nil=>intro f _ o;exact⟨f,1,o,(λp g=>by cases g),λx c e=>⟨c,e⟩⟩
  | cons p l v =>
   intro f s o;rw[List.forIn_cons];by_cases g:p.2=.free
   ·let⟨c,w⟩:=s p sE g;let t:(p.2 == NameKind.free)=true:=by rw[g];rfl
    let l:cellOf d p.1=pure c:=by
     unfold cellOf;rw[w]
    rw[if_pos t,l];simp only[pure_bind]
    let⟨a,i,j,k,m⟩:=v ((p.1,c)::f) (λq b=>s q (j5 _ b)) (λx u e=>by
     rw[List.lookup_cons]at e
     cases h:x == p.1 with
     | true =>
      rw[h]at e;cases e;rw[eq_of_beq h];exact w
     | false =>
      rw[h]at e
      exact o x u e)
    refine⟨a,i,j,λq b r=>?_,λx u e=>?_⟩
    ·rcases List.mem_cons.mp b with rfl|b
     ·exact m q.1 c (by rw[List.lookup_cons];simp)
     ·exact k q b r
    ·cases h:x == p.1 with
     | true=>exact m x c (by rw[List.lookup_cons,h])
     | false=>exact m x u (by rw[List.lookup_cons,h];exact e)
   ·let t:¬ (p.2 == NameKind.free)=true:=λe=>g (eq_of_beq e);rw[if_neg t];simp only[pure_bind];let⟨a,i,j,k,m⟩:=v f (λq b=>s q (j5 _ b)) o;refine⟨a,i,j,λq b r=>?_,m⟩;rcases List.mem_cons.mp b with rfl|b
    ·exact absurd r g
    ·exact k q b r
 let⟨a,i,j,k,_⟩:=z n.names [] y (λx c e=>by cases e);refine⟨a,?_,j,k⟩;rw[← i];simp only[bind_pure]
theorem mD{a:Env}:∀ {f:List (Str × NameKind)} {x:Str} {k:NameKind},f.lookup x=⇑k->
  (f.map λ(n,k)=>if (k == NameKind.free&&a.scope.kind == .function&&a.kindOf n == some .cell) then (n,NameKind.cell) else (n,k)).lookup x=⇑(if (k == NameKind.free&&a.scope.kind == .function&&a.kindOf x == some .cell) then NameKind.cell else k)
 | [],_,_,h=>by cases h
 | (n,b)::r,x,k,h=>by
  rw[jq];by_cases d:(x == n)=true
  ·let e:x=n:=eq_of_beq d;subst e;rw[List.lookup_cons,d]at h;cases h;by_cases c:(b == NameKind.free&&a.scope.kind == .function&&a.kindOf x == some .cell)=true
   ·show List.lookup x ((if (b == NameKind.free&&a.scope.kind == .function&&a.kindOf x == some .cell)=true then (x,NameKind.cell) else (x,b))::_)=_;rw[if_pos c,if_pos c,List.lookup_cons,d]
   ·show List.lookup x ((if (b == NameKind.free&&a.scope.kind == .function&&a.kindOf x == some .cell)=true then (x,NameKind.cell) else (x,b))::_)=_;rw[if_neg c,if_neg c,List.lookup_cons,d]
  ·let e:(x == n)=false:=by simpa using d
   rw[List.lookup_cons,e]at h;let d:=mD (a:=a) h;show List.lookup x ((if (b == NameKind.free&&a.scope.kind == .function&&a.kindOf n == some .cell)=true then (n,NameKind.cell) else (n,b))::_)=_;by_cases c:(b == NameKind.free&&a.scope.kind == .function&&a.kindOf n == some .cell)=true
   ·rw[if_pos c,List.lookup_cons,e];exact d
   ·rw[if_neg c,List.lookup_cons,e];exact d
theorem lg{a:Env}:∀ {d:List (Str × NameKind)} {x:Str},d.lookup x=none->
  (d.map λ(n,k)=>if (k == NameKind.free&&a.scope.kind == .function&&a.kindOf n == some .cell) then (n,NameKind.cell) else (n,k)).lookup x=none
 | [],_,_=>rfl
 | (n,b)::r,x,h=>by
  rw[jq]
  let c:(x == n)=false:=by
   cases b:x == n with
   | false=>rfl
   | true=>rw[List.lookup_cons,b]at h;cases h
  rw[List.lookup_cons,c]at h;let e:=lg (a:=a) h;show List.lookup x ((if (b == NameKind.free&&a.scope.kind == .function&&a.kindOf n == some .cell)=true then (n,NameKind.cell) else (n,b))::_)=_;by_cases f:(b == NameKind.free&&a.scope.kind == .function&&a.kindOf n == some .cell)=true
  ·rw[if_pos f,List.lookup_cons,c];exact e
  ·rw[if_neg f,List.lookup_cons,c];exact e
structure BV(X:Cx)(N:UV)(scope:Scope)(jx:List (Option Nat)):Prop where
 kind:scope.kind=.function
 cell:∀ x∈scope.names,x.2≠.cell
 names:∀ x∈scope.names,x.2=.local->scope.names.lookup x.1=⇑.local
 xk:X.env.scope.kind=.function
 fr:∀ x∈scope.names,x.2=.free->X.env.scope.names.lookup x.1=⇑.cell
 len:↑jx=↑N
 free:∀ (i j:Nat) (x:Str),jx[i]?=⇑(⇑j)->N[i]?=⇑x->X.N[j]?=⇑x/\scope.names.lookup x=⇑.free
def Oo(a N:UV)(b:Scope)(c:List (Option Nat)):Bool:=(c.zip N).all λp=>match p.1 with
 | none=>true
 | some j=>decide (a[j]?=⇑p.2)&&decide (b.names.lookup p.2=⇑.free)
theorem jO{b:Cx}{N f:UV}{a c:Scope}{d:List (Option Nat)}(g:b.env.scope=c)(h:b.N=f)(k:a.kind=.function)(i:∀ x∈a.names,x.2≠.cell)(j:∀ x∈a.names,x.2=.local->a.names.lookup x.1=⇑.local)
  (l:c.kind=.function) (m:∀ x∈a.names,x.2=.free->c.names.lookup x.1=⇑.cell) (n:↑d=↑N) (e:Oo f N a d=true):BV b N a d:=by
 refine⟨k,i,j,by rw[g];exact l,by rw[g];exact m,n,λo p x q r=>?_⟩;rw[h];unfold Oo at e;rw[List.all_eq_true]at e;let z:=e (⇑p,x) (lU (i:=o) (by rw[List.getElem?_zip_eq_some];exact⟨q,r⟩));simp only[Bool.and_eq_true,decide_eq_true_eq]at z;exact z
section
variable {X:Cx} {N:UV} {scope:Scope} {jx:List (Option Nat)}
def BV.toF{g:_L2.St}{H:Hp}{s:Shared}(a:BV X N scope jx)(I:Inv X v g H s):∃ c,BS X N scope c jx:=by
 let⟨c,h,i,j⟩:=vM (n:=scope) (d:=X.env) λp l m=>I.ok.has p.1 (.inl (a.fr p l m))
 let n:∀ x,scope.names.lookup x=⇑.free->(relabel scope X.env).names.lookup x=⇑.cell:=λx b=>by
  let z:=mD (a:=X.env) b
  let d:(NameKind.free == NameKind.free&&X.env.scope.kind == .function&&X.env.kindOf x == some .cell)=true:=by
   let q:X.env.kindOf x=⇑.cell:=a.fr (x,.free) (PySem.mem_of_lookup b) rfl;rw[a.xk,q];rfl
  rw[if_pos d]at z;exact z
 refine⟨c,a.kind,a.cell,a.names,h,i,λx b=>?_,a.len,λo r x t u=>?_⟩
 ·cases e:scope.names.lookup x with
  | none =>
   let z:(relabel scope X.env).names.lookup x=none:=lg (a:=X.env) e;rw[z]at b
   rcases b with q|q <;> cases q
  | some k =>
   by_cases f:k=.free
   ·subst f;exact j (x,.free) (PySem.mem_of_lookup e) rfl
   ·let z:(relabel scope X.env).names.lookup x=⇑(if (k == NameKind.free&&X.env.scope.kind == .function&&X.env.kindOf x == some .cell) then NameKind.cell else k):=mD (a:=X.env) e
    let d:(k == NameKind.free)=false:=by
     cases q:k == NameKind.free with
     | false=>rfl
     | true=>exact absurd (eq_of_beq q) f
    rw[d]at z;simp only[Bool.false_and,Bool.false_eq_true,if_false]at z;rw[z]at b;rcases b with q|q
    ·cases q;exact absurd rfl (a.cell (x,.cell) (PySem.mem_of_lookup e))
    ·cases q;exact absurd rfl f
 ·let⟨b,d⟩:=a.free o r x t u;exact⟨b,a.fr (x,.free) (PySem.mem_of_lookup d) rfl,n x d⟩
theorem gC{f:Expr}{g:TI}{h:TG}{tt:TT}{i:TE}(k:BV X N scope jx)(l:X.calm=true)(m:PI X j f g)
  (n:∀ a C b c d e,PG (iX X N scope a C b c d e) j h) (o:∀ a C b c d e,Lq (iX X N scope a C b c d e) p tt) (q:∀ a C b c d e,PE (iX X N scope a C b c d e) r i)
  (t:∀ x,foldedSetIterable f X.env x=pure x:=by intro _;rfl):PE X (.ListComp r [⟨j,f,p,0⟩] scope z) (vL jx g h tt i):=by
 intro u s v H Q I w;let⟨a,y⟩:=k.toF I;exact Oj y l m (n a) (o a) (q a) t u s v H Q I w
theorem J9{f:Expr}{h:Pos}{i:TI}{j:TG}{tt:TT}{k:TE}{l:Nat}{x:Str}(o:BV X N scope jx)(p:X.calm=true)(q:X.N.Nodup)(r:X.N[l]?=⇑x)(t:X.env.scope.names.lookup x=⇑.local)(u:PI X g f i)
  (v:∀ a C b c d e,PG (iX X N scope a C b c d e) g j) (w:∀ a C b c d e,Lq (iX X N scope a C b c d e) m tt) (y:∀ a C b c d e,PE (iX X N scope a C b c d e) n k)
  (z:swapsWith (.ListComp n [⟨g,f,m,0⟩] scope A) (⇑(.Name x B)) h.line X.env=pure true:=by rfl)
  (D:∀ x,foldedSetIterable f X.env x=pure x:=by intro _;rfl):PS X (.Assign [.Name x B] (.ListComp n [⟨g,f,m,0⟩] scope A) h) (Nf (vL jx i j tt k) (qb l)):=by
 intro F s G H J I L;let⟨a,M⟩:=o.toF I;exact Sg M p q r t u (v a) (w a) (y a) z D F s G H J I L
end
end _cN
namespace _cN
open Spec Rows _L2
section
variable {X:Cx} {N:UV} {scope:Scope} {c:List (Str × Addr)} {jx:List (Option Nat)}
def E7(J:It)(d:Addr)(g:TG)(tt:TT)(h:TI)(j:TG)(k:TT)(l:TE)(n:_L2.St)(H:Hp)(Q:VK):Prop :=
 ∃ W:Nat->Nat->_L2.St->Hp->Prop,(∃ m,W 0 m n H)/\∀ i m c H,W i m c H->
  (J.stop i H/\Q ↥d H)\/(J.go i H/\∃ b:_L2.St->Hp->Prop,(∀ e a,b e a->∃ f,f<m/\W (i+1) f e a)/\∀ x a,J.Nh i H x a->g x c a fun c e=>tt c e λe a =>
   if e=true then HL h d j k l c a b else b c a)
def Ka(jx:List (Option Nat))(d:TI)(g:TG)(tt:TT)(e:TI)(f:TG)(h:TT)(i:TE):TE:=fun b H Q=>d b H λJ c=>∀ a,c a=none->E7 J a g tt e f h i (sW jx b) (aO c a (.lst [])) Q
theorem HU{y:Expr}{wi HM:TI}{ae g2:TG}{tt HN:TT}{te:TE}(r:BS X N scope c jx)(M:X.calm=true)(hi:PI X O y wi)
  (hg:∀ C j k l m,PG (iX X N scope c C j k l m) O ae) (ht:∀ C j k l m,Lq (iX X N scope c C j k l m) jL tt) (Yq:∀ C j k l m,PI (iX X N scope c C j k l m) U dX HM) (ar:∀ C j k l m,PG (iX X N scope c C j k l m) U g2) (HV:∀ C j k l m,Lq (iX X N scope c C j k l m) jf HN) (he:∀ C j k l m,PE (iX X N scope c C j k l m) j4 te)
  (hs:∀ x,foldedSetIterable y X.env x=pure x) (GW:∀ (as:Env) x,foldedSetIterable dX as x=pure x) {use:Option (Value->Sem Unit)} {Q':ZB} {Q:VK} {g:List (Addr × Obj)} {s:Shared} {v:_L2.St} {ab:Hp} (av:Inv X g v ab s) (aw:Ka jx wi ae tt HM g2 HN te v ab Q)
  (ax:∀ (a:Shared) (h:Hp) (e:WF) (ag:Addr) (t:_L2.St) (u:Hp) (z:Shared),Inv X g v h a->(∀ b∈e,ou X g h b)->Inv (iX X N scope c a.heap.objs.size a h e (X.pn++g)) [] t u z->Q ↥ag u->
   compPost (model X.prog X.w) X.A X.xe use Q' ↥ag a.heap.objs.size (.ok .next) z) :
  wpAny (model X.prog X.w) X.A (comprehension (.ListComp j4 [⟨O,y,jL,0⟩,⟨U,dX,jf,0⟩] scope aB) scope X.env iZ (newList []) false (eval y X.env) use) Q' X.xe s:=by
 refine wpAny_comprehension_free (use:=use) rfl hs r.clos r.kind r.names (dF (hi g s v ab _ av aw) λa0 s1 h1=>dF h1 λY7 i h2=>?_);let⟨it,e,G,a0,H,f,S,T,ai,f2,aN⟩:=h2;subst f;refine wpAny_newObj_type (hd:=by size_fits) ?_;let cL:H i.heap.objs.size=none:=S.hok.fresh (fk _);let A:Inv X g v (aO H i.heap.objs.size (.lst [])) { i with heap:=i.heap.push { cls:=.type "list",data:=.seq ([]:WP).toArray },toks:=i.toks }:=S.Rl (ys:=[]) .nil (Nat.zero_le _)
 let ak:∀ b∈e,b<i.heap.objs.size:=λb d=>by
  let⟨o,n,_⟩:=T.obj _ _ ai b d;exact Heap.lt_size n
 let q:∀ b∈e,ou X g (aO H i.heap.objs.size (.lst [])) b:=λb d=>⟨by rw[aL (jK (ak b d))];exact (f2 b d).1,(f2 b d).2⟩;have k3:∀ b o,i.heap.get? b=⇑o->(i.heap.push { cls:=.type "list",data:=.seq ([]:WP).toArray }).get? b=⇑o:=λb o f=>Heap.get?_push_of_some _ f;have q3:=aN _ cL;generalize aR:({ i with heap:=i.heap.push { cls:=.type "list",data:=.seq ([]:WP).toArray },toks:=i.toks }:Shared)=a at A;generalize S:aO H i.heap.objs.size (.lst [])=h at A q q3;have H:a.heap=i.heap.push { cls:=.type "list",data:=.seq ([]:WP).toArray }:=by rw[← aR]
 let S:∀ b∈e,b<a.heap.objs.size:=λb d=>by rw[H,Heap.size_push];exact Nat.lt_succ_of_lt (ak b d)
 let ak:G 0 a.heap:=T.keep _ _ _ ai λb _ o f=>by rw[H];exact k3 b o f
 show wpAny _ _ _ _ _ a;refine wpAny_newFunctionEnv r.cell (λp n=>by simp at n) (λI MR Sf=>?_) r.kind;let H:∀ b o,a.heap.get? b=⇑o->I.get? b=⇑o:=λb o f=>Sf.extBut _ _ (jK (Heap.lt_size f)) (Heap.get?_push_of_some _ f);have J0:Inv (iX X N scope c a.heap.objs.size a h e (X.pn++g)) [] (sW jx v) h { a with heap:=I,toks:=a.toks+↑([]:List (Str × Value)) }:=xq r A q S MR H;have am:G 0 I:=T.keep _ _ _ ak λb _ o f=>H b o f;let⟨W,⟨m0,w0⟩,l5⟩:=q3
 let R:∀ {n:Hp},(∀ b∈e,n b=none)->∀ b∈e,ou (iX X N scope c a.heap.objs.size a h e (X.pn++g)) [] n b:=λH b d=>by
  refine⟨H b d,jK (S b d),λp=>?_,.inl d,λx B f=>(q b d).2.2.2.2.1 x B (r.sub x B f),λw D=>?_⟩
  ·rcases List.mem_cons.mp (A.vo b p) with f|f
   ·exact (q b d).2.1 f
   ·exact (q b d).2.2.1 f
  ·let B:w∈X.pn++g:=by
    let p:w∈(X.pn++g)++[]:=D;simpa using p
   exact (q b d).2.2.2.2.2 w B
 let an:∀ H:Shared,H={ a with heap:=I,toks:=a.toks+↑([]:List (Str × Value)) }->codeAny (model X.prog X.w) X.A (.compLoop (.ListComp j4 [⟨O,y,jL,0⟩,⟨U,dX,jf,0⟩] scope aB) 0 ↥it ↥i.heap.objs.size (iX X N scope c a.heap.objs.size a h e (X.pn++g)).env)
   (compPost (model X.prog X.w) X.A X.xe use Q' ↥i.heap.objs.size a.heap.objs.size) H:=by
  rintro H rfl;refine RN (λJ i=>∃ p w n,Inv (iX X N scope c a.heap.objs.size a h e (X.pn++g)) [] w n i/\G p i.heap/\(∀ b∈e,n b=none)/\W p J w n) (GW _) ?_ m0 ⟨0,_,h,J0,am,λb d=>(q b d).1,w0⟩;rintro J s6 ⟨p,t,u,I6,UE,GZ,w6⟩;rcases l5 p J t u w6 with ⟨stop,qn⟩|⟨go,Nx,hN,step⟩
  ·refine dF (T.done (iX X N scope c a.heap.objs.size a h e (X.pn++g)) rfl rfl rfl M p [] s6 t u _ I6 (R GZ) UE stop) λap z i=>?_;let⟨B,D⟩:=i;subst B;exact ax a h e _ t u z A q D qn
  ·refine dF (T.item (iX X N scope c a.heap.objs.size a h e (X.pn++g)) rfl rfl rfl M p [] s6 t u _ I6 (R GZ) UE go) λap z i=>?_;let⟨aZ,B,h7⟩:=i;subst B;refine dF h7 λ_ H q=>?_;let⟨x,i,I,S,y8,A,RO⟩:=q;have q:=I.pinned (R RO) (T.obj _ _ A);refine dF (hg _ _ _ _ _ _ H t i x aZ _ q S (step x i y8)) λ_ i q=>?_;let⟨I,R,S,q9⟩:=q;refine dF (ht _ _ _ _ _ _ i I R _ S q9) λok q i=>?_;let⟨q,UG,L⟩:=i
   let aq:∀ {i:_L2.St} {q:Hp} {F:Shared},Inv (iX X N scope c a.heap.objs.size a h e (X.pn++g)) ([]++sG e H.heap) i q F->Nx i q->∃ H,H<J/\∃ p w n,Inv (iX X N scope c a.heap.objs.size a h e (X.pn++g)) [] w n F/\G p F.heap/\(∀ b∈e,n b=none)/\W p H w n:=λ{i q F} D G=>by
    let⟨H,I,J⟩:=hN i q G;refine⟨H,I,p+1,i,q,D.nI,T.keep _ _ _ A λb d o f=>(D.pin (b,o) (nG _ (nG _ (iu d f)))).1,λb d=>?_,J⟩;let⟨o,f,i⟩:=T.obj _ _ A b d;exact (D.pin (b,o) (nG _ (nG _ (iu d f)))).2.1
   cases ok with
   | false =>
    rw[if_neg lV]at L;exact aq UG L
   | true =>
    rw[if_pos rfl]at L;refine dF (Lv (Y:=iX X N scope c a.heap.objs.size a h e (X.pn++g)) M rfl (Yq _ _ _ _ _) (ar _ _ _ _ _) (HV _ _ _ _ _) (he _ _ _ _ _) UG L) λx F d=>dF d λf i d=>codeAny_mono d λap i ⟨B,w,n,d,f⟩=>⟨B,aq d f⟩
 exact codeAny_compStart_list (an _ rfl) (T.self _ _ _ _ _ am (an _ rfl))
theorem vN{f:Expr}{r:Pos}{h i:TI}{j k:TG}{tt l:TT}{m:TE}(t:BV X N scope jx)(u:X.calm=true)(v:PI X n f h)
  (w:∀ c C a b d e,PG (iX X N scope c C a b d e) n j) (y:∀ c C a b d e,Lq (iX X N scope c C a b d e) z tt)
  (A:∀ c C a b d e,PI (iX X N scope c C a b d e) o p i) (B:∀ c C a b d e,PG (iX X N scope c C a b d e) o k) (D:∀ c C a b d e,Lq (iX X N scope c C a b d e) G l) (H:∀ c C a b d e,PE (iX X N scope c C a b d e) J m)
  (L:∀ x,foldedSetIterable f X.env x=pure x:=by intro _;rfl) (M:∀ (O:Env) x,foldedSetIterable p O x=pure x:=by intro _ _;rfl) :
  PE X (.ListComp J [⟨n,f,z,0⟩,⟨o,p,G,0⟩] scope r) (Ka jx h j tt i k l m):=by
 intro q s F R Q I g;let⟨c,q⟩:=t.toF I;rw[eval_ListComp];refine HU (use:=none) q u v (w c) (y c) (A c) (B c) (D c) (H c) L M I g λT U W F ab I s7 q R g S=>?_;let⟨T,U,_⟩:=g.loc;exact⟨T,U,λU T=>⟨↥F,I,vK q (vJ q R g) g.free T,1,S⟩⟩
theorem qx{K:Frag}{f:Addr}{a:List V}{g:TG}{tt:TT}{h:TI}{j:TG}{k:TT}{l:TE}{m:_L2.St}{H:Hp}{Q:VK}(d:Nat->_L2.St->Hp->Prop)(t:d 0 m H)(u:∀ i b H,i<=↑a->d i b H->bM K H f a)
  (v:∀ i x b H,a[i]?=⇑x->d i b H->g x b H fun e w=>tt e w λz n=>if z=true then HL h o j k l e n (d (i+1)) else d (i+1) e n)
  (A:∀ b H,d ↑a b H->Q ↥o H):E7 (Ni K f) o g tt h j k l m H Q:=by
 refine⟨λi r b H=>r=↑a-i/\i<=↑a/\d i b H,⟨↑a,by simp,Nat.zero_le _,t⟩,?_⟩;rintro i r b H ⟨rfl,r,p⟩;let q:=u i b H r p;by_cases r:i<↑a
 ·refine .inr ⟨⟨a,a[i],q,by simp[r]⟩,d (i+1),fun C s B=>⟨↑a-(i+1),Q,1,r,B⟩,λx s y=>?_⟩;let⟨c,y⟩:=y;subst c;exact v i x b _ (y a q) p
 ·let c:i=↑a:=by lia
  subst c;exact .inl ⟨⟨a,q,fk _⟩,A b H p⟩
theorem zx{K:Frag}{j:Addr}{b:List V}{t:TG}{tt:TT}{u:TE}{a:_L2.St}{H:Hp}{w:_L2.St->Hp->Prop}(e:Nat->_L2.St->Hp->Prop)(B:e 0 a H)(C:∀ i a H,i<=↑b->e i a H->bM K H j b)
  (D:∀ i x a H,b[i]?=⇑x->e i a H->t x a H fun d k=>tt d k λl g=>if l=true then u d g λv h=>∃ n,h o=⇑(.lst n)/\↑n<sizeLine/\e (i+1) d (aO h o (.lst (n++[v]))) else e (i+1) d g)
  (G:∀ a H,e ↑b a H->w a H):∃ W:Nat->Nat->_L2.St->Hp->Prop,(∃ m,W 0 m a H)/\∀ i m a H,W i m a H->
  ((Ni K j).stop i H/\w a H)\/((Ni K j).go i H/\∃ p:_L2.St->Hp->Prop,(∀ q f,p q f->∃ z,z<m/\W (i+1) z q f)/\∀ x f,(Ni K j).Nh i H x f->t x a f fun d k=>tt d k λl g =>
   if l=true then u d g λv h=>∃ b,h o=⇑(.lst b)/\↑b<sizeLine/\p d (aO h o (.lst (b++[v]))) else p d g):=by
 refine⟨λi m a H=>m=↑b-i/\i<=↑b/\e i a H,⟨↑b,by simp,Nat.zero_le _,B⟩,?_⟩;rintro i m a H ⟨rfl,A,c⟩;let r:=C i a H A c;by_cases A:i<↑b
 ·refine .inr ⟨⟨b,b[i],r,by simp[A]⟩,e (i+1),fun q f F=>⟨↑b-(i+1),Q,1,A,F⟩,λx f y=>?_⟩;let⟨s,y⟩:=y;subst s;exact D i x a _ (y b r) c
 ·let s:i=↑b:=by lia
  subst s;exact .inl ⟨⟨b,r,fk _⟩,G a H c⟩
end
end _cN
namespace _cN
open Spec Rows _L2
open AutoSeq1 (wpAny_loadPart')
section
variable {prog:Program} {w:World} {A:Around} {E:ZB} {s:Shared} {κ:Type} [DecidableEq κ] {knd:KeyKind prog w κ}
def LA{d:Addr}{Q:Bool->Shared->Prop}(a:s.TypeIs ↥d "dict")(h:Q false s):wpAny (model prog w) A (Builtin.List.listLengthHint ↥d) Q E s:=by
 unfold Builtin.List.listLengthHint;refine wpAny_bind (wpAny_specialOf a F.slot_dict_len.lookup ?_);generalize b:("dict.__len__":String)=c
 wp_delta
 rw[show splitId c=⇑("dict","__len__") by subst b;decide +kernel];subst b;refine wpAny_bind (wpAny_isInstance (T:="dict") (b:=true) a (by rw[isSubtype_type];kernel_rfl) ?_);refine wpAny_ite_split (λq=>absurd q (by decide)) λ_=>?_;refine wpAny_ite_split (λ_=>?_) λq=>absurd nofun q;exact wpAny_bind (wpAny_typeOf a (wpAny_pure h))
theorem E9{k:X2}{d:Addr}{c:List (κ × Value)}{h:Nat}(H:A.handled=none)(I:(d == sysModules)=false)(j:s.heap.DictAt knd d c h)(J:↑c<=sizeLine)(a:Addr)(n:Value)(L:Nat)(p:s.heap.get? a=some { cls:=.type "list",data:=.seq #[] L })
  (M:∀ q N l i,(∀ b o,b≠a->s.heap.get? b=⇑o->q.get? b=⇑o)->q.get? a=some { cls:=.type "list",dict:=none,data:=.seq l i,slots:=#[] }->
   ItemsOf (λO T=>∃ x U,c[O]?=⇑(x,U)/\knd.is x T=true) l ↑c->k (.ok (.ret n)) { s with heap:=q,toks:=N }) :
  wpAny (model prog w) A.in1 (Builtin.List.listExtendWith ↥a ↥d n)
   (λab g=>match ab with|.done ae=>k (.ok ae) g|.again i=>i.quiet=true/\codeAny (model prog w) A i k g) (λe g=>k (.error e) g) s:=by
 let y:s.TypeIs ↥d "dict":=by
  let⟨o,m,f,t,_⟩:=j;exact⟨o,f,t.1⟩
 let r:a≠d:=λe=>by
  let⟨o,m,f,t,u,_⟩:=j;rw[← e,p]at f;cases f;cases u
 let R:a<s.heap.objs.size:=Heap.lt_size p
 let S:d<s.heap.objs.size:=by
  let⟨o,m,f,_⟩:=j;exact Heap.lt_size f
 let B:a≠s.heap.objs.size:=jK R;let R:d≠s.heap.objs.size:=jK S;let W:=(Walks.dictKeys (prog:=prog) (w:=w) (A:=A.in1) (knd:=knd) H s.heap.objs.size d R c h).toS;unfold Builtin.List.listExtendWith;refine wpAny_bind (wpAny_typeOf y ?_);let R:Builtin.List.listSameRef ↥a ↥d=false:=by simp[Builtin.List.listSameRef,r]
 let S:(Value.type "dict" == Value.type "list")=false:=by decide
 let X:(Value.type "dict" == Value.type "tuple")=false:=by decide
 simp only[R,S,X,Bool.or_false,Bool.false_eq_true,if_false];refine wpAny_bind (wpAny_pyIter_dict I j ?_);let C:(s.heap.push { cls:=.type "dict_keyiterator",data:=.fields (List.toArray [↥d,.int 0 0,.int ↑c 0,.int h 0]) }).IsKeyIter s.heap.objs.size d 0 ↑c h:=⟨_,Heap.get?_push_size _ rfl,V⟩;let iL:∀ b o,s.heap.get? b=⇑o->(s.heap.push { cls:=.type "dict_keyiterator",data:=.fields (List.toArray [↥d,.int 0 0,.int ↑c 0,.int h 0]) }).get? b=⇑o:=λb o e=>Heap.get?_push_of_some _ e;generalize s.heap.push { cls:=.type "dict_keyiterator",data:=.fields (List.toArray [↥d,.int 0 0,.int ↑c 0,.int h 0]) }=t at C iL
 let R:({ s with heap:=t }:Shared).TypeIs ↥d "dict":=by
  let⟨o,f,m⟩:=y;exact⟨o,iL _ _ f,m⟩
 refine wpAny_bind (wpAny_holding (LA R ?_));refine wpAny_ite_split (λ_=>?_) λu=>absurd nofun u;refine wpAny_bind (wpAny_rule (wpAny_bind ?_));show wpAny _ A.in1 (updateSeq a (λz=>z.push .none) >>= λ_=>updateSeq a λz=>z.pop) _ _ _;have D:=iL _ _ p;refine wpAny_bind (wpAny_updateSeq D rfl ?_);have G:=Heap.get?_update_self (Obj.mapSeq λz=>z.push Value.none) D rfl;refine wpAny_updateSeq (hz:=by seq_fits) G rfl ?_;have ag:=Heap.get?_update_self (Obj.mapSeq λz=>z.pop) G rfl
 let v:∀ b o,b≠a->t.get? b=⇑o->((t.update a (Obj.mapSeq λz=>z.push Value.none)).update a (Obj.mapSeq λz=>z.pop)).get? b=⇑o:=λb o f e =>
  (Heap.get?_update_other _ _ f.symm).trans ((Heap.get?_update_other _ _ f.symm).trans e)
 refine wpAny_pure ⟨plainId_quiet F.plain_extend_loop _,codeAny_extend_loopS W J a (λm=>?_) n ↑c 0 _ #[] _ rfl (Nat.zero_le _) ⟨C.at λo e=>v _ o B.symm e,(j.at' λo e=>v _ o r.symm (iL _ o e))⟩ ag (ItemsOf.nil _) λg l i m ai cL=>?_⟩
 ·rcases List.mem_cons.mp m with e|e
  ·exact B e
  ·exact r (List.mem_singleton.mp e)
 ·rw[Moved.eq_with m];refine M g.heap g.toks l i (λb o f e=>m.heap b o (λu=>?_) (v b o f (iL b o e))) ai cL;rcases List.mem_cons.mp u with z|z
  ·exact f z
  ·exact absurd (Heap.lt_size e) (by rw[List.mem_singleton.mp z];exact Nat.lt_irrefl _)
theorem zy{Q:ZB}{d:Addr}{a:List (κ × Value)}{j:Nat}(n:A.handled=none)(p:(d == sysModules)=false)(k:s.heap.DictAt knd d a j)(q:↑a<=sizeLine)
  (r:∀ c h f i,(∀ b o,s.heap.get? b=⇑o->c.get? b=⇑o)->c.get? s.heap.objs.size=some { cls:=.type "list",dict:=none,data:=.seq f i,slots:=#[] }->
   ItemsOf (λt v=>∃ l x,a[t]?=⇑(l,x)/\knd.is l v=true) f ↑a->Q ↥s.heap.objs.size { s with heap:=c,toks:=h }) :
  wpAny (model prog w) A (call (.type "list") [↥d]) Q E s:=by
 refine callType_codes (Q₁:=λu m=>u=↥s.heap.objs.size/\m={ s with heap:=s.heap.push { cls:=.type "list",data:=.seq #[] } }) F.called_list (F.typeCall_list_1 _) F.entry_list_init (code_list_new _ ⟨V⟩) λu m y=>?_;let⟨rfl,rfl⟩:=y;have g:(s.heap.push { cls:=.type "list",data:=.seq #[] }).get? s.heap.objs.size=some { cls:=.type "list",data:=.seq #[] }:=Heap.get?_push_size _ rfl;have z:(s.heap.push { cls:=.type "list",data:=.seq #[] }).DictAt knd d a j:=k.at' λo e=>Heap.get?_push_of_some _ e
 let B:d≠s.heap.objs.size:=by
  let⟨o,u,m,_⟩:=k;exact jK (Heap.lt_size m)
 exists ⟨_,g,1⟩,F.args_list_init_2 _ _;show wpAny _ _ (do let old ← Builtin.List.listItems ↥s.heap.objs.size;Builtin.List.listUpdate ↥s.heap.objs.size (λ_=>#[]);letGo old.toList.reverse;Builtin.List.listExtendWith ↥s.heap.objs.size ↥d .none) _ _ _;refine wpAny_bind ?_;unfold Builtin.List.listItems;refine wpAny_bind (wpAny_seqItems g rfl (wpAny_pure ?_));show wpAny _ _ (updateSeq s.heap.objs.size (λ_=>#[]) >>= λ_=>letGo (#[]:Xt).toList.reverse >>= λ_=>Builtin.List.listExtendWith ↥s.heap.objs.size ↥d .none) _ _ _;refine wpAny_bind (wpAny_updateSeq g rfl ?_);let C:=Heap.get?_update_self (Obj.mapSeq λ_=>(#[]:Xt)) g rfl;let g:∀ b o,b≠s.heap.objs.size->(s.heap.push { cls:=.type "list",data:=.seq #[] }).get? b=⇑o->((s.heap.push { cls:=.type "list",data:=.seq #[] }).update s.heap.objs.size (Obj.mapSeq λ_=>(#[]:Xt))).get? b=⇑o:=λb o m e=>(Heap.get?_update_other _ _ m.symm).trans e;refine wpAny_bind (wpAny_letGo ?_);refine E9 (A:=A.in1) (knd:=knd) n p (z.at' λo e=>g _ o B e) q s.heap.objs.size .none _ C λc h f i m u y=>?_;exact⟨1,r c h f i (λb o e=>m b o (jK (Heap.lt_size e)) (g b o (jK (Heap.lt_size e)) (Heap.get?_push_of_some _ e))) u y⟩
end
def HW{f:Cx}(w:f.calm=true):jN f (.type "list") (λi H Q=>∃ (d:Addr) (a:List (fK × V)),i=[↥d]/\H d=⇑(.dK a)/\∀ l,H l=none->Q ↥l (aO H l (.lst (a.map λp=>kV p.1)))):=by
 intro B s C H i b Q I r y;let⟨d,a,rfl,z,q⟩:=y;let⟨u,rfl,A⟩:=r.one;cases (show u=Value.ref d from A);let⟨y,A,c,e,B,C,U,D,F⟩:=(show gh f.prog f.w H s.heap d (.dK a) from I.hok d _ z);let z:=↑e;refine zy (I.ok.hd w) A ⟨B,C,D,F⟩ ∅ λD z m A B C n=>?_;refine⟨↥s.heap.objs.size,_,I.laid (o:=.lst (a.map λp=>kV p.1)) (t':=z) B (fk _) ⟨by rw[cC];exact y,m.toList,A,?_,by simpa using C⟩,1,q _ (I.hok.fresh (fk _))⟩
 let G:∀ (a:List (fK × V)) (c:List (fK × Value)) (b:WP),KV a c->↑b=↑c->(∀ (j:Nat) (v:Value),b[j]?=⇑v->∃ k x,c[j]?=⇑(k,x)/\yi k v=true)->cD (a.map λp=>kV p.1) b:=by
  intro a
  induction a with
  | nil =>
   intro c b e g _;cases e
   cases b with
   | nil=>exact .nil
   | cons=>simp at g
  | cons p r J =>
   intro c b e g o
   cases e with
   | @cons _ q _ L M N =>
   cases b with
   | nil=>simp at g
   | cons u b =>
    let⟨k,x,O,R⟩:=o 0 u rfl;let S:q=(k,x):=by simpa using O
    subst S;refine .cons ?_ (J L b N (by simpa using g) λj v h=>?_)
    ·show _L2.RelV (kV p.1) u;rw[show p.1=k from M.1];rcases fN R with ⟨T,t,rfl,rfl⟩|⟨T,t,rfl,rfl⟩
     ·exact⟨t,1⟩
     ·exact⟨t,1⟩
    ·let⟨b,g,k,q⟩:=o (j+1) v (by simpa using h);exact⟨b,g,by simpa using k,q⟩
 exact G a c m.toList e (by simpa using n.1) λj v h=>n.2 j v (by simpa using h)
end _cN
namespace _vO
open Spec Rows _L2 _cN _gn
end _vO
namespace _gn
open Spec Rows _L2 _cN _eU _vO
inductive cF{α β:Type}(R:α->β->Prop):List α->List β->Prop
 | nil:cF R [] []
 | cons {a:α} {b:β} {c:List α} {d:List β}:R a b->cF R c d->cF R (a::c) (b::d)
section
variable {α β:Type} {R R':α->β->Prop} {d:List α} {c:List β} {a:α} {b:β}
def cF.len{d:List α}{c:List β}(h:cF R d c):↑d=↑c:=by
 induction h with
 | nil=>rfl
 | cons _ _ a=>rw[eZ,eZ,a]
theorem cF.get:∀ {d:List α} {c:List β} {i:Nat},cF R d c->d[i]?=⇑a->∃ b,c[i]?=⇑b/\R a b
 | _,_,_,.nil,h=>by simp at h
 | _,_,0,.cons r _,h=>by simp at h;subst h;exact⟨Y,r⟩
 | _,_,i+1,.cons _ t,h=>by simp at h;simpa using t.get h
theorem cF.get':∀ {d:List α} {c:List β} {i:Nat},cF R d c->c[i]?=⇑b->∃ a,d[i]?=⇑a/\R a b
 | _,_,_,.nil,h=>by simp at h
 | _,_,0,.cons r _,h=>by simp at h;subst h;exact⟨Y,r⟩
 | _,_,i+1,.cons _ t,h=>by simp at h;simpa using t.get' h
def cF.snoc{d:List α}{c:List β}(t:cF R d c)(h:R a b):cF R (d++[a]) (c++[b]):=by
 induction t with
 | nil=>exact .cons h .nil
 | cons r _ e=>exact .cons r e
def cF.mono{d:List α}{c:List β}(h:∀ a b,R a b->R' a b)(t:cF R d c):cF R' d c:=by
 induction t with
 | nil=>exact .nil
 | cons r _ e=>exact .cons (h _ _ r) e
theorem cF.set:∀ {d:List α} {c:List β} (i:Nat),cF R d c->R a b->cF R (d.set i a) (c.set i b)
 | _,_,_,.nil,_=>.nil
 | _,_,0,.cons _ t,h=>.cons h t
 | _,_,i+1,.cons r t,h=>.cons r (t.set i h)
theorem cF.split:∀ {d:List α} {c:List β},cF R d (c++[b])->∃ e a,d=e++[a]/\cF R e c/\R a b
 | _,[],.cons r .nil=>⟨[],Y,.nil,r⟩
 | _,f::c,.cons r t=>by
  let⟨e,a,rfl,f,g⟩:=t.split;exact⟨_::e,a,1,.cons r f,g⟩
end
inductive aX where
 | win (n:Int)
 | aF (a b:Int)
def HX:aX->List V
 | .win n=>[.str "win",.int n]
 | .aF a b=>[.str "ink",.int a,.int b]
def dH(H:Hp)(v:V)(b:aX):Prop:=∃ a,v=↥a/\H a=⇑(.tup (HX b))
theorem dH.same{H a:Hp}{v:V}{b:aX}(s:aI H a):dH H v b->dH a v b:=λ⟨c,e,h⟩=>⟨c,e,s _ _ h⟩
theorem dH.keep{H a:Hp}{v:V}{b:aX}{q:Addr}{d:List V}(e:H q=⇑(.lst d))(k:cy q H a):dH H v b->dH a v b:=λ⟨c,f,h⟩=>⟨c,f,k c _ h (by
 intro z;rw[z,e]at h
 cases h)⟩
def bX(H:Hp)(v:V)(c:List aX):Prop:=∃ a b,v=↥a/\H a=⇑(.lst b)/\cF (dH H) b c
theorem bX.same{H a:Hp}{v:V}{b:List aX}(s:aI H a):bX H v b->bX a v b:=λ⟨c,d,e,h,t⟩=>⟨c,d,e,s _ _ h,t.mono λ_ _=>dH.same s⟩
def gT(H:Hp)(r:Addr)(b:List (List aX)):Prop:=∃ a,H r=⇑(.lst a)/\cF (bX H) a b
theorem gT.same{H a:Hp}{r:Addr}{b:List (List aX)}(s:aI H a):gT H r b->gT a r b:=λ⟨c,h,t⟩=>⟨c,s _ _ h,t.mono λ_ _=>bX.same s⟩
def bN(t:List aX)(e:Int):List aX :=
 if e<0 then t++[.win (-1-e)] else
 match t.getLast? with
 | some (.aF a b)=>if b=e then t.dropLast++[.aF a (e+1)] else t++[.aF e (e+1)]
 | _=>t++[.aF e (e+1)]
def aJ(a:Wp):List aX:=a.foldl bN []
def fF(a:List aX):Wp:=a.filterMap λb=>match b with|.win n=>⇑n|.aF _ _=>none
def d7(a:Wp):Wp:=a.filterMap λe=>if e<0 then some (-1-e) else none
def gv(a b:List aX):fF (a++b)=fF a++fF b:=by unfold fF;rw[List.filterMap_append]
def LF(t:List aX)(e:Int):fF (bN t e)=fF t++(if e<0 then [-1-e] else []):=by
 unfold bN;by_cases h:e<0
 ·rw[if_pos h,if_pos h,gv];rfl
 ·rw[if_neg h,if_neg h,gR];rcases kO t with rfl|⟨c,l,rfl⟩
  ·rfl
  ·rw[jH,lX]
   cases l with
   | win n=>simp[gv,fF]
   | aF a b =>
    show fF (if b=e then (c++[aX.aF a b]).dropLast++[.aF a (e+1)] else (c++[aX.aF a b])++[.aF e (e+1)])=_;by_cases d:b=e
    ·rw[if_pos d,List.dropLast_concat,gv,gv];rfl
    ·rw[if_neg d,gv,gv];simp[fF]
def LG(a:Wp):∀ t:List aX,fF (a.foldl bN t)=fF t++d7 a:=by
 induction a with
 | nil=>intro t;simp[d7]
 | cons e a b =>
  intro t;rw[jJ,b,LF,jI];unfold d7;rw[List.filterMap_cons];by_cases h:e<0
  ·simp[h]
  ·simp[h]
def iO(a:Wp):fF (aJ a)=d7 a:=by
 unfold aJ;rw[LG];rfl
def cK{b:Wp}{y:Int}:y∈d7 b↔0<=y/\-1-y∈b:=by
 unfold d7;rw[List.mem_filterMap];constructor
 ·rintro⟨e,c,h⟩;by_cases a:e<0
  ·rw[if_pos a]at h;cases h;exact⟨Q,by rw[show -1-(-1-e)=e by lia];exact c⟩
  ·rw[if_neg a]at h;cases h
 ·rintro⟨a,a⟩;exists -1-y,a;rw[if_pos ∅];congr 1;lia
def qN(a:Wp):∀ t:List aX,↑(a.foldl bN t)<=↑t+↑a:=by
 induction a with
 | nil=>intro t;simp
 | cons e a b =>
  intro t;rw[jJ];let z:=b (bN t e)
  let b:↑(bN t e)<=↑t+1:=by
   unfold bN;split
   ·simp
   ·split
    ·split
     ·rw[dm,List.length_dropLast,gW];lia
     ·simp
    ·simp
  rw[eZ];lia
def jP(b:c9)(x y:Int):Prop:=0<=x/\∃ a,b[x.toNat]?=⇑a/\y∈d7 a
inductive Reach(E:Int->Int->Prop)(s:Int):Int->Prop
 | one {y:Int}:E s y->Reach E s y
 | step {y z:Int}:Reach E s y->E y z->Reach E s z
theorem Reach.closed{E:Int->Int->Prop}{s:Int}{a:Int->Prop}(b:∀ y,E s y->a y)(c:∀ x y,a x->E x y->a y):∀ {g:Int},Reach E s g->a g
 | _,.one h=>b _ h
 | _,.step r h=>c _ _ (Reach.closed b c r) h
def gD(a:c9):Prop:=∀ b∈a,∀ y∈d7 b,y<↑a
def gD.Em{a:c9}(h:gD a){x y:Int}(e:jP a x y):0<=y/\y<↑a:=by
 let⟨_,c,d,b⟩:=e;exact⟨(cK.mp b).1,h c (lU d) y b⟩
def cnt(n:Nat)(p:Nat->Bool):Nat:=↑((List.range n).filter p)
def Oq(n:Nat){p q:Nat->Bool}(h:∀ i,i<n->p i=q i):cnt n p=cnt n q:=by
 unfold cnt;rw[List.filter_congr λi a=>h i (List.mem_range.mp a)]
def uD(n:Nat)(p:Nat->Bool):cnt (n+1) p=cnt n p+(if p n=true then 1 else 0):=by
 unfold cnt;rw[List.range_succ,List.filter_append,dm];congr 1;by_cases h:p n=true
 ·rw[if_pos h];simp[h]
 ·rw[if_neg h];simp[h]
theorem uE(j:Nat):∀ (n:Nat) {p q:Nat->Bool},j<n->p j=true->(∀ i,q i=(p i&&decide (i≠j)))->cnt n q+1=cnt n p
 | 0,_,_,h,_,_=>by lia
 | n+1,p,q,h,b,a=>by
  rw[uD,uD];by_cases e:j=n
  ·subst e
   let z:cnt j q=cnt j p:=Oq j λi c=>by
    rw[a i];have:decide (i≠j)=true:=by simp;lia
    rw[this,Bool.and_true]
   let c:q j=false:=by rw[a j];simp
   rw[z,c,if_pos b];simp
  ·let c:=uE j n (p:=p) (q:=q) ∅ b a
   let z:q n=p n:=by
    rw[a n];have:decide (n≠j)=true:=by simp;lia
    rw[this,Bool.and_true]
   rw[z];lia
def zz(n:Nat)(p:Nat->Bool):cnt n p<=n:=by
 unfold cnt;have:=List.length_filter_le p (List.range n);rw[List.length_range]at this;exact this
def fT(b:Y1)(H:Hp)(v:V)(c:Wp):Prop:=∃ a,v=↥a/\¬ b a/\H a=⇑(.lst (c.map V.int))
def gX(b:Y1)(H:Hp)(r:Addr)(c:c9):Prop:=∃ a,H r=⇑(.lst a)/\cF (fT b H) a c
theorem fT.keep{b:Y1}{H c:Hp}{v:V}{d:Wp}(k:∀ a o,¬ b a->H a=⇑o->c a=⇑o):fT b H v d->fT b c v d:=λ⟨a,e,n,h⟩=>⟨a,e,n,k a _ n h⟩
theorem gX.same{a:Y1}{H b:Hp}{r:Addr}{c:c9}(s:aI H b):gX a H r c->gX a b r c:=λ⟨d,h,t⟩=>⟨d,s _ _ h,t.mono λ_ _=>fT.keep λd o _ e=>s d o e⟩
def gX.get{e:Y1}{H:Hp}{r:Addr}{c:c9}{i:Nat}{d:Wp}(h:gX e H r c)(f:c[i]?=⇑d):∃ b a,H r=⇑(.lst b)/\b[i]?=⇑↥a/\H a=⇑(.lst (d.map V.int))/\↑b=↑c:=by
 let⟨b,g,t⟩:=h;let⟨v,j,a,rfl,_,k⟩:=t.get' f;exact⟨b,a,g,j,k,t.len⟩
def uF(x:Int)(a:Wp):eJ (.int x) (a.map V.int)=decide (x∈a):=by
 unfold eJ
 induction a with
 | nil=>rfl
 | cons y b c =>
  rw[jq,List.any_cons,c];show ((y == x) || decide (x∈b))=_;by_cases h:y=x
  ·simp[h]
  ·let b:¬ x=y:=λz=>h z.symm;simp[h,b]
def nQ(a:Wp):(a.map V.int).all tV=true:=by
 rw[List.all_eq_true];intro v b;let⟨i,_,rfl⟩:=List.mem_map.mp b;rfl
def C3(b:c9):Prop:=∃ a:Int->Nat,(∀ x,a x<=40)/\∀ x y,jP b x y->a y<a x
theorem fT.at{a:Y1}{H:Hp}{v:V}{b:Wp}{q:Addr}(o:HO)(c:a q):fT a H v b->fT a (aO H q o) v b:=fT.keep λd u n e=>by
 rw[aL (λz=>n (by rw[z];exact c))];exact e
theorem fT.same{a:Y1}{H b:Hp}{v:V}{c:Wp}(s:aI H b):fT a H v c->fT a b v c:=fT.keep λd u _ e=>s d u e
def seen(a:List (fK × V))(x:Int):Prop:=(cG a (Sum.inl x)).isSome=true
def nu(n:Nat)(a:List (fK × V)):Nat:=cnt n λi=>(cG a (Sum.inl (i:Int))).isNone
def Fb{a:List (fK × V)}{y x:Int}(v:V):seen (eO a (Sum.inl y) v) x↔x=y\/seen a x:=by
 unfold seen;rw[kg];by_cases h:x=y
 ·rw[if_pos (by rw[h]),h];simp
 ·rw[if_neg (λz=>h (Sum.inl.inj z))];simp[h]
def Fc{n:Nat}{a:List (fK × V)}{y:Int}(v:V)(c:0<=y)(d:y<n)(b:cG a (Sum.inl y)=none):nu n (eO a (Sum.inl y) v)+1=nu n a:=by
 refine uE y.toNat n ∅ ?_ λi=>?_
 ·show (cG a (Sum.inl (y.toNat:Int))).isNone=true;rw[show ((y.toNat:Nat):Int)=y by lia,b];rfl
 ·show (cG (eO a (Sum.inl y) v) (Sum.inl (i:Int))).isNone=((cG a (Sum.inl (i:Int))).isNone&&decide (i≠y.toNat));rw[kg];by_cases h:(i:Int)=y
  ·rw[if_pos (by rw[h])];have:decide (i≠y.toNat)=false:=by simp;lia
   rw[this,Bool.and_false];rfl
  ·rw[if_neg (λz=>h (Sum.inl.inj z))];have:decide (i≠y.toNat)=true:=by simp;lia
   rw[this,Bool.and_true]
def Kc(lo:Int)(n:Nat):↑(run lo n)=n:=by
 induction n generalizing lo with
 | zero=>rfl
 | succ n a=>rw[run,eZ,a]
theorem Ot:∀ {n:Nat} {lo y:Int},y∈run lo n->lo<=y/\y<lo+n
 | 0,_,_,h=>by cases h
 | n+1,lo,y,h=>by
  rcases List.mem_cons.mp h with rfl|z
  ·lia
  ·have:=Ot z;lia
theorem cF.new{a:Hp}{q t:Addr}{b:List V}{c:List aX}{it:aX}{g:List V}(d:a q=⇑(.lst g))(h:cF (dH a) b c)(e:a t=none)(i:List V) :
  cF (dH (aO (aO a t (.tup (HX it))) q (.lst i))) (b++[↥t]) (c++[it]):=by
 let j:q≠t:=aA d e;let f:aI a (aO a t (.tup (HX it))):=ao e _;refine cF.snoc (h.mono λv l k=>(k.same f).keep (f _ _ d) (aH q _ _)) ⟨t,1,?_⟩;rw[aL j.symm,af]
end _gn
namespace _WE
open Spec Rows _L2 _cN
section
variable {M:Model} {A:Around} {E:ZB} {s:Shared}
def C4{a b:Value}{Q:ZB}(c:s.TypeIs a "list")(f:s.TypeIs b "list")(g:wpAny M A (call (.builtin "list.__iadd__") [a,b]) Q E s):wpAny M A (inplaceOp .Add a b) Q E s:=by
 unfold inplaceOp;refine wpAny_holding ?_;let d:isSeqSlot (⇑(.builtin "list.__iadd__"))=true:=by decide +kernel
 let h:fillsInplaceSlot (.type "list") "add" (Operator.Add == .Add)=pure false:=by
  unfold fillsInplaceSlot;show (typeLookup (.type "list") (dunderI "add") >>= λe=>pure (e.isSome&&!isSeqSlot e))=pure false;rw[PySem.F.slot_list_iadd.lookup,pure_bind,d];rfl
 let e:seqSlot? (.type "list") (dunderI "add")=pure (⇑(.builtin "list.__iadd__")):=PySem.seqSlot_of PySem.F.slot_list_iadd.lookup d;refine wpAny_bind (wpAny_typeOf c (wpAny_bind (wpAny_of_eq h ?_)));show wpAny M A (if false=true then _ else _) Q E s;rw[if_neg lV];refine wpAny_bind (binaryOp1_none (nm:="add") c f PySem.noFill_list_add ?_);refine wpAny_bind (wpAny_of_eq e ?_);exact wpAny_bind (wpAny_rule g)
end
section
variable {X:Cx}
def UK:V->V->Hp->VK->Prop:=λx y H Q=>∃ l c a b,x=↥l/\y=↥c/\H l=⇑(.lst a)/\H c=⇑(.lst b)/\↑a+↑b<=sizeLine/\Q ↥l (aO H l (.lst (a++b)))
def vP:fw X .Add UK:=by
 intro d s e H x y v u Q I a b h;let⟨l,f,i,j,rfl,rfl,c,g,d,q⟩:=h;cases a;cases b;let⟨z,a,n,r,b,e⟩:=I.vC c;let⟨j,b,h,i,k,d⟩:=I.vC g;let g:a.toArray.size+b.toArray.size<=sizeLine:=by rw[ie,ie];lia
 let j:¬ (!a.toArray.isEmpty&&Builtin.List.listTooLong (a.toArray.size+b.toArray.size))=true:=by
  rw[yE g,Bool.and_false];exact lV
 refine C4 ⟨_,e,1⟩ ⟨_,d,1⟩ ?_;refine call_meets PySem.F.slot_list_iadd ⟨_,e,1⟩ PySem.F.entry_list_iadd (PySem.F.args_list_iadd_2 _ _) (AutoSeq1.list___iadd___list_list_0 l a.toArray n f b.toArray h j (by rw[ie];lia) ∅) ⟨e,d,?_⟩;refine⟨↥l,_,I.NH (a:=a++b) c e (by simp) (r.append i) ?_,1,q⟩;rw[dm];lia
section
variable {N:UV} {scope:Scope} {cl:List (Str × Addr)} {C:Addr} {s₀:Shared} {H₀:Hp} {ex:WF} {pn:List (Addr × Obj)}
theorem HY:jN (iX X N scope cl C s₀ H₀ ex pn) (.type "list") (Zt X.K):=gm
end
theorem HZ:Zh X .Add UK:=λa s b H x y u v Q I c d h=>vP a s b H x y u v Q I c d h
end
def Kd{p q A B T:Prop} [Decidable p] [Decidable q] (w:p->(if decide q=true then A else B)->T) (d:p/\q->A) (c:¬ (p/\q)->B):if decide p=true then T else (if false=true then A else B):=by
 by_cases a:p
 ·rw[if_pos (decide_eq_true a)];by_cases b:q
  ·exact w a (by rw[if_pos (decide_eq_true b)];exact d ⟨a,b⟩)
  ·exact w a (by rw[decide_eq_false b,if_neg lV];exact c λz=>b z.2)
 ·rw[decide_eq_false a,if_neg lV,if_neg lV];exact c λz=>a z.1
theorem Ou{p q A B T:Prop} [Decidable p] [Decidable q] (w:(if decide q=true then A else B)->T) (a:p/\q->A) (b:¬ (p/\q)->B):if decide p=true then T else (if false=true then A else B):=Kd (λ_=>w) a b
end _WE
namespace _gn
open Spec Rows _L2 _cN _eU _vO
def lu(r:Row):Prop:=∀ p∈r,0<=p.1/\p.1<=p.2
def jz(r:Row):Prop:=∀ p∈r,0<=p.1/\p.1<p.2
def BW{t:Row}{s e:Int}(h:jz t)(f:0<=s)(g:s<e):jz (iL t s e):=by
 let a:jz (t++[(s,e)]):=λp b=>by
  rcases List.mem_append.mp b with z|z
  ·exact h p z
  ·rw[List.mem_singleton.mp z];exact⟨f,g⟩
 unfold iL;rcases kO t with rfl|⟨c,l,rfl⟩
 ·exact a
 ·rw[jH]at h a ⊢;rw[lX];show jz (if l.2=s then (c++[l]).dropLast++[(l.1,e)] else c++[l]++[(s,e)]);by_cases d:l.2=s
  ·rw[if_pos d,List.dropLast_concat];intro p b;rcases List.mem_append.mp b with z|z
   ·exact h p (oh _ z)
   ·have:=h l (by simp);rw[List.mem_singleton.mp z];exact⟨this.1,by show l.1<e;lia⟩
  ·rw[if_neg d];exact a
def nR{r:Row}(h:lu r):jz (cA r):=by
 let z:∀ (r t:Row),lu r->jz t->jz (r.foldl dh t):=by
  intro r
  induction r with
  | nil=>intro t _ g;exact g
  | cons p r b =>
   intro t h g;rw[jJ];refine b _ (λq a=>h q (j5 _ a)) ?_;unfold dh;let a:=h p (by simp);by_cases c:p.1=p.2
   ·rw[if_pos c];exact g
   ·rw[if_neg c];exact BW g a.1 ∅
 exact z r [] h λp a=>by cases a
def BX{a:Wp}(h:∀ x∈a,0<=x):jz (cE a):=by
 let z:∀ (a:Wp) (t:Row),(∀ x∈a,0<=x)->jz t->jz (a.foldl (λt n=>iL t n (n+1)) t):=by
  intro a
  induction a with
  | nil=>intro t _ g;exact g
  | cons n a b =>
   intro t h g;rw[jJ];exact b _ (λx b=>h x (j5 _ b)) (BW g (h n (by simp)) ∅)
 exact z a [] h λp b=>by cases b
theorem jz.nn{r:Row}(h:jz r):lu r:=λp a=>⟨(h p a).1,by have:=(h p a).2;lia⟩
theorem zA(a c:Int):∀ (r:Row) (h:Int),lu r->lu (kM a c h r)
 | [],_,_=>λp b=>by cases b
 | q::r,h,g=>by
  intro p b;rw[kM]at b;rcases List.mem_append.mp b with z|z
  ·let b:=g q (by simp);refine⟨?_,Oe a c h q p z⟩;unfold Od at z;split at z
   ·rw[List.mem_singleton.mp z];show 0<=q.1+max (a-h) 0;lia
   ·cases z
  ·exact zA a c r _ (λx b=>g x (j5 _ b)) p z
end _gn
namespace _jM
open Spec Rows _L2 _cN
def Le(p q:Int × Int):Prop:=p.1<q.1\/(p.1=q.1/\p.2<=q.2)
instance (p q:Int × Int):Decidable (Le p q):=by unfold Le;infer_instance
def less(p q:Int × Int):Bool:=decide (¬ Le q p)
theorem LH(t:Bool)(x y:Value):keyLt' (tuples' t) x y=(do
  let a ← Builtin.List.listItems x
  let b ← Builtin.List.listItems y
  for ((p,q),i) in (a.toList.zip b.toList).zipIdx do
   if !(← eqBool p q) then return ← oneLt' (t&&i == 0) p q
  return decide (a.size<b.size)):=rfl
def BY{c:Program}{w:World}{A:Around}{E:ZB}{s:Shared}{a b:Int}{t u:Tok}{Q:Bool->Shared->Prop}(k:Bool)(h:Q (decide (a<b)) s):wpAny (model c w) A (oneLt' k (.int a t) (.int b u)) Q E s:=by
 cases k with
 | true=>exact oneLt_int h
 | false =>
  rw[oneLt'_eq];simp only[Bool.false_eq_true,if_false];refine wpAny_bind ((PyProof.Rows.lt_int ?_:wpAny (model c w) A (compareOp .Lt (.int a t) (.int b u)) _ E s));exact wpAny_truthy_bool h
def jA(h:Heap)(v:Value)(p:Int × Int):Prop:=∃ a t u,v=↥a/\IsTup h a (List.toArray [.int p.1 t,.int p.2 u])
def Ia{b:Program}{w:World}{A:Around}{E:ZB}{s:Shared}{x y:Value}{p q:Int × Int}{Q:Bool->Shared->Prop}(i:jA s.heap x p)(j:jA s.heap y q)(h:Q (less p q) s):wpAny (model b w) A (keyLt' (tuples' true) x y) Q E s:=by
 let⟨l,c,d,rfl,k⟩:=i;let⟨m,e,f,rfl,l⟩:=j;let⟨o,m,t,u,n⟩:=id k;let⟨t,k,u,v,o⟩:=id l;rw[LH];refine wpAny_bind (listItems_at m n ?_);refine wpAny_bind (listItems_at k o ?_);let r:(((List.toArray [Value.int p.1 c,.int p.2 d]):Xt).toList.zip ((List.toArray [Value.int q.1 e,.int q.2 f]):Xt).toList).zipIdx=[((.int p.1 c,.int q.1 e),0),((.int p.2 d,.int q.2 f),1)]:=rfl;rw[r];simp only[List.forIn_cons,List.forIn_nil];refine wpAny_bind (wpAny_bind (wpAny_bind (SeqAt.EqAt.int_int p.1 c q.1 e b w _ _ ?_)));by_cases a:p.1=q.1
 ·let g:(!p.1 == q.1)=false:=by simp[a]
  rw[g,if_neg lV];refine wpAny_pure (wpAny_bind (wpAny_bind (SeqAt.EqAt.int_int p.2 d q.2 f b w _ _ ?_)));by_cases c:p.2=q.2
  ·let d:(!p.2 == q.2)=false:=by simp[c]
   rw[d,if_neg lV];refine wpAny_pure (wpAny_pure (wpAny_pure ?_));have:less p q=false:=by unfold less Le;simp[a,c]
   rw[this]at h;exact h
  ·let d:(!p.2 == q.2)=true:=by simp[c]
   rw[d,if_pos rfl];refine wpAny_bind (BY _ (wpAny_pure (wpAny_pure (wpAny_pure ?_))));have:less p q=decide (p.2<q.2):=by unfold less Le;simp[a]
   rw[← this];exact h
 ·let g:(!p.1 == q.1)=true:=by simp[a]
  rw[g,if_pos rfl];refine wpAny_bind (BY _ (wpAny_pure (wpAny_pure (wpAny_pure ?_))))
  have:less p q=decide (p.1<q.1):=by
   unfold less Le;congr 1;apply propext;lia
  rw[← this];exact h
section
variable {prog:Program} {w:World} {A:Around} {E:ZB} {s:Shared} {z:X1} {key:Value->Int × Int}
def kp(key:Value->Int × Int)(a:X1)(i:Nat):Int × Int:=(a[i]?.map λr=>key r.1).getD (0,0)
def Fd{a b:X1}{i j:Nat}(h:a[i]?=b[j]?):kp key a i=kp key b j:=by unfold kp;rw[h]
def Up(key:Value->Int × Int)(a:X1)(n:Nat):Prop:=∀ i j,i<=j->j<n->Le (kp key a i) (kp key a j)
def Dn(key:Value->Int × Int)(a:X1)(n:Nat):Prop:=∀ i j,i<=j->j<n->Le (kp key a j) (kp key a i)
theorem Le.rfl'(p:Int × Int):Le p p:=.inr ⟨1,Int.le_refl _⟩
def Le.tr{p q r:Int × Int}(h:Le p q)(g:Le q r):Le p r:=by unfold Le at *;lia
def Le.anti{p q:Int × Int}(h:Le p q)(g:Le q p):p=q:=by
 unfold Le at *;exact Prod.ext ∅ ∅
def Le.C5{p q:Int × Int}(h:¬ Le p q):Le q p:=by unfold Le at *;lia
theorem Ib{p q:Int × Int}(h:less p q=true):¬ Le q p:=of_decide_eq_true h
def vQ{p q:Int × Int}(h:less p q=false):Le q p:=by
 unfold less at h;exact Classical.byContradiction λc=>by rw[decide_eq_true c]at h;cases h
structure vR(z:X1)(st:SortSt):Prop where
 pm:(arrOf st).Perm z
 kd:kindOf st=tuples' true
 fl:failedOf st=none
 pd:pendingOf st=#[]
theorem vR.sz{a:SortSt}(b:vR z a):(arrOf a).size=z.size:=b.pm.size_eq
theorem vR.put{a:SortSt}(b:vR z a){c:X1}(h:c.Perm (arrOf a)):vR z (setArr a c):=⟨h.trans b.pm,b.kd,b.fl,b.pd⟩
def Sj(prog:Program)(w:World)(A:Around)(s:Shared)(key:Value->Int × Int)(z:X1):Prop :=
 ∀ r∈z.toList,∀ o∈z.toList,∀ (E:ZB) (Q:Bool->Shared->Prop),Q (less (key r.1) (key o.1)) s->wpAny (model prog w) A (keyLt' (tuples' true) r.1 o.1) Q E s
def vR.get{a:SortSt}(b:vR z a){i:Nat}(d:i<z.size):∃ r∈z.toList,(arrOf a)[i]?=⇑r/\kp key (arrOf a) i=key r.1:=by
 let c:i<(arrOf a).size:=by rw[b.sz];exact d
 exists (arrOf a)[i],(Array.perm_iff_toList_perm.mp b.pm).mem_iff.mp (by simp),getElem?_pos _ i c;unfold kp;rw[getElem?_pos _ i c];rfl
theorem cmp{a:SortSt}{i j:Nat}{Q:Option Bool->SortSt->Prop}(C:Sj prog w A s key z)(b:vR z a)(c:i<z.size)(d:j<z.size)
  (h:Q (⇑(less (kp key (arrOf a) i) (kp key (arrOf a) j))) a):wpS (model prog w) A E s (ltAt' i j) Q a:=by
 let⟨r,e,f,g⟩:=b.get (key:=key) c;let⟨o,k,l,m⟩:=b.get (key:=key) d;rw[g,m]at h;rw[ltAt'_eq];refine wpS_bind (wpS_get ?_);show wpS _ _ _ _ (do let u ← elem' (arrOf a) i;let v ← elem' (arrOf a) j;lt' u v) Q a;rw[elem'_eq,elem'_eq,f,l];refine wpS_bind (wpS_pure (wpS_bind (wpS_pure ?_)));rw[lt'_eq];refine wpS_bind (wpS_get ?_);rw[b.kd];refine wpS_bind (wpS_lift (wpAny_attempt (C r e o k _ _ ?_)));exact⟨1,wpS_pure h⟩
def C6{a:X1}{i j:Nat}(b:j<=a.size)(k:Nat):kp key (mirror a i j ((j-i) / 2)) k=if i<=k/\k<j then kp key a (i+j-1-k) else kp key a k:=by
 let e:=getElem?_mirror_all (i:=i) b k;split at e
 ·rename_i c;rw[if_pos c];exact Fd e
 ·rename_i c;rw[if_neg c];exact Fd e
def zB{a:X1}{i j:Nat}(b:j<=a.size)(g:∀ k,i<=k->k<j->kp key a k=kp key a (j-1))(k:Nat):kp key (mirror a i j ((j-i) / 2)) k=kp key a k:=by
 rw[C6 b];by_cases c:i<=k/\k<j
 ·rw[if_pos c,g _ ∅ ∅,g k c.1 c.2]
 ·rw[if_neg c]
def Up.more{a:X1}{n:Nat}(h:Up key a n)(g:n=0\/Le (kp key a (n-1)) (kp key a n)):Up key a (n+1):=by
 intro i j b c;by_cases c:j<n
 ·exact h i j b c
 ·let e:j=n:=by lia
  subst e;by_cases d:i=j
  ·subst d;exact Le.rfl' _
  ·exact (h i (j-1) ∅ ∅).tr (g.resolve_left ∅)
def Dn.more{a:X1}{n:Nat}(h:Dn key a n)(g:n=0\/Le (kp key a n) (kp key a (n-1))):Dn key a (n+1):=by
 intro i j b c;by_cases c:j<n
 ·exact h i j b c
 ·let e:j=n:=by lia
  subst e;by_cases d:i=j
  ·subst d;exact Le.rfl' _
  ·exact (g.resolve_left ∅).tr (h i (j-1) ∅ ∅)
theorem Dn.eqv{a b:X1}{n:Nat}(h:Dn key a n)(g:∀ k,kp key b k=kp key a k):Dn key b n:=λi j c d=>by rw[g,g];exact h i j c d
theorem Up.one(a:X1):Up key a 1:=λi j b c=>by
 have:i=j:=by lia
 subst this;exact Le.rfl' _
theorem Ov{a:SortSt}{b n:Nat}{Q:AscSt->SortSt->Prop}(C:Sj prog w A s key z)(l:n<=z.size)(o:1<=b)(f:b<=n)(g:vR z a)(u:Up key (arrOf a) b)
  (h:∀ m,b<=m->m<=n->Up key (arrOf a) m->(m=n\/¬ Le (kp key (arrOf a) (m-1)) (kp key (arrOf a) m))->Q (none,m) a):wpS (model prog w) A E s (ascLoop b n) Q a:=by
 unfold ascLoop;refine wpS_forRange (I:=λx d t=>t=a/\d=(none,x)/\Up key (arrOf a) x) ?i' ?j' ⟨V,u⟩
 case j' =>
  rintro d t ⟨rfl,rfl,c⟩;let e:max b n=n:=by lia
  rw[e]at c ⊢;exact h n f (fk _) c (.inl rfl)
 case i' =>
  rintro x d t k p ⟨rfl,rfl,c⟩;dsimp only;refine wpS_bind (cmp C g ∅ ∅ ?_)
  cases e:less (kp key (arrOf t) x) (kp key (arrOf t) (x-1)) with
  | true =>
   simp only[if_true];exact wpS_pure (h x k ∅ c (.inr (Ib e)))
  | false =>
   simp only[Bool.false_eq_true,if_false];exact wpS_pure ⟨V,c.more (.inr (vQ e))⟩
theorem turned{st:SortSt}{m n:Nat}{Q:Option Nat->SortSt->Prop}(C:Sj prog w A s key z)(d:n<=z.size)(e:1<=m)(f:m<=n)(b:vR z st)(g:Dn key (arrOf st) m)
  (h:∀ k t,vR z t->1<=k->k<=n->Up key (arrOf t) k->Q (⇑k) t):wpS (model prog w) A E s (tail3 m n) Q st:=by
 unfold tail3;let a:m<=(arrOf st).size:=by rw[b.sz];lia
 refine wpS_bind (wpS_reverse ?_);let c:=b.put (mirror_perm (arrOf st) 0 m ((m-0) / 2));refine wpS_bind (Ov C d e f c (λi j l o=>?_) λk o l u _=>wpS_pure (h k _ c ∅ l u));show Le (kp key (mirror (arrOf st) 0 m ((m-0) / 2)) i) (kp key (mirror (arrOf st) 0 m ((m-0) / 2)) j);rw[C6 a,C6 a,if_pos ⟨Q,Q⟩,if_pos ⟨Q,Q⟩];exact g _ _ ∅ ∅
def Sk(key:Value->Int × Int)(a:X1)(m e:Nat):Prop:=e+1<=m/\∀ k,m-(e+1)<=k->k<m->kp key a k=kp key a (m-1)
theorem Sk.none{a:X1}{m:Nat}(h:1<=m):Sk key a m 0:=⟨h,λk b c=>by congr 1;lia⟩
theorem Sm{d:SortSt}{m n:Nat}{Q:DescSt->SortSt->Prop}(C:Sj prog w A s key z)(v:n<=z.size)(i:1<=m)(j:m<=n)(l:vR z d)(o:Dn key (arrOf d) m)
  (h:∀ k e t,vR z t->m<=k->k<=n->Dn key (arrOf t) k->Sk key (arrOf t) k e->Q (none,k,e) t):wpS (model prog w) A E s (descLoop m n) Q d:=by
 unfold descLoop;refine wpS_forRange (I:=λx c t=>∃ e,c=(none,x,e)/\vR z t/\Dn key (arrOf t) x/\Sk key (arrOf t) x e) ?f' ?p' ⟨0,1,l,o,.none i⟩
 case p' =>
  rintro c t ⟨e,rfl,a,b,g⟩;let q:max m n=n:=by lia
  rw[q]at b g ⊢;exact h n e t a j (fk _) b g
 case f' =>
  rintro x c t r y ⟨e,rfl,a,b,g⟩;dsimp only;let u:x<=(arrOf t).size:=by rw[a.sz];lia
  refine wpS_bind (cmp C a ∅ ∅ ?_)
  cases q:less (kp key (arrOf t) x) (kp key (arrOf t) (x-1)) with
  | true =>
   simp only[if_true];let f:Dn key (arrOf t) (x+1):=b.more (.inr (Le.C5 (Ib q)));by_cases c:e > 0
   ·rw[if_pos c];exact wpS_bind (wpS_reverse (wpS_pure ⟨0,1,a.put (mirror_perm _ _ _ _),f.eqv (zB u g.2),.none ∅⟩))
   ·rw[if_neg c];exact wpS_pure ⟨0,1,a,f,.none ∅⟩
  | false =>
   simp only[Bool.false_eq_true,if_false];refine wpS_bind (cmp C a ∅ ∅ ?_)
   cases f:less (kp key (arrOf t) (x-1)) (kp key (arrOf t) x) with
   | true =>
    simp only[if_true];exact wpS_pure (h x e t a r ∅ b g)
   | false =>
    simp only[Bool.false_eq_true,if_false];let p:kp key (arrOf t) x=kp key (arrOf t) (x-1):=Le.anti (vQ f) (vQ q);refine wpS_pure ⟨e+1,1,a,b.more (.inr (vQ f)),by have:=g.1;lia,λk a c=>?_⟩;show kp key (arrOf t) k=kp key (arrOf t) x;by_cases f:k=x
    ·rw[f]
    ·rw[p];exact g.2 k ∅ ∅
theorem BZ{a:SortSt}{m n:Nat}{Q:Option Nat->SortSt->Prop}(C:Sj prog w A s key z)(b:n<=z.size)(g:m+1<=n)(i:vR z a)(j:Dn key (arrOf a) (m+1))
  (h:∀ k t,vR z t->1<=k->k<=n->Up key (arrOf t) k->Q (⇑k) t):wpS (model prog w) A E s (descPart m n) Q a:=by
 unfold descPart;refine wpS_bind (wpS_lift (wpAny_rule ⟨1,?_⟩));refine wpS_bind (Sm C b ∅ g i j λk l t c mk d e o=>?_);dsimp only;let p:k<=(arrOf t).size:=by rw[c.sz];lia
 by_cases f:l > 0
 ·rw[if_pos f];exact wpS_bind (wpS_reverse (turned C b ∅ d (c.put (mirror_perm _ _ _ _)) (e.eqv (zB p o.2)) h))
 ·rw[if_neg f];exact turned C b ∅ d c e h
theorem LI{a:SortSt}{n:Nat}{Q:Option Nat->SortSt->Prop}(C:Sj prog w A s key z)(c:n<=z.size)(p:1<=n)(b:vR z a)
  (h:∀ k t,vR z t->1<=k->k<=n->Up key (arrOf t) k->Q (⇑k) t):wpS (model prog w) A E s (countRun' 0 n) Q a:=by
 rw[countRun0_eq];refine wpS_bind (Ov C c (fk 1) p b (Up.one _) λm e f u q=>?_);dsimp only;by_cases d:m=n
 ·rw[if_pos (by simpa using d)];exact wpS_pure (h m a b e f u)
 ·rw[if_neg (by simpa using d)];let g:=q.resolve_left d;by_cases l:m > 1
  ·rw[if_pos l];refine wpS_bind (cmp C b ∅ ∅ ?_)
   cases q:less (kp key (arrOf a) 0) (kp key (arrOf a) (m-1)) with
   | true =>
    simp only[if_true];exact wpS_pure (h m a b e f u)
   | false =>
    simp only[Bool.false_eq_true,if_false];let e:m<=(arrOf a).size:=by rw[b.sz];lia
    let d:∀ k,0<=k->k<m->kp key (arrOf a) k=kp key (arrOf a) (m-1):=λk _ f=>Le.anti (u k (m-1) ∅ ∅) ((vQ q).tr (u 0 k ∅ f));have f:Dn key (arrOf a) m:=λi j r o=>by rw[d i ∅ ∅,d j ∅ o];exact Le.rfl' _
    exact wpS_bind (wpS_reverse (BZ C c ∅ (b.put (mirror_perm _ _ _ _)) ((f.more (.inr (Le.C5 g))).eqv (zB e d)) h))
  ·rw[if_neg l];let v:m=1:=by lia
   subst v
   exact BZ C c ∅ b (Dn.more (λi j r o=>by
    have:i=j:=by lia
    subst this
    exact Le.rfl' _) (.inr (Le.C5 g))) h
def Ke{a:X1}{k d:Nat}(f:k<a.size)(g:d<=k)(i:Nat):kp key (bubble a k d) i=if i=k-d then kp key a k else if k-d<i/\i<=k then kp key a (i-1) else kp key a i:=by
 let e:=getElem?_bubble f d g i;split at e
 ·rename_i c;rw[if_pos c];exact Fd e
 ·rename_i c;rw[if_neg c];split at e
  ·rename_i b;rw[if_pos b];exact Fd e
  ·rename_i b;rw[if_neg b];exact Fd e
def e'(key:Value->Int × Int)(a:X1)(k l r:Nat):Prop:=l<=r/\r<=k/\(∀ i,i<l->Le (kp key a i) (kp key a k))/\∀ i,r<=i->i<k->¬ Le (kp key a i) (kp key a k)
def e'.pN{b:X1}{k l:Nat}(c:k<b.size)(u:Up key b k)(g:e' key b k l l):Up key (bubble b k (k-l)) (k+1):=by
 let⟨_,lk,lo,e⟩:=g;intro i j f a;rw[Ke c ∅,Ke c ∅,show k-(k-l)=l by lia];by_cases d:i=l
 ·rw[if_pos d];by_cases a:j=l
  ·rw[if_pos a];exact Le.rfl' _
  ·rw[if_neg a,if_pos ⟨Q,Q⟩];exact Le.C5 (e _ ∅ ∅)
 ·rw[if_neg d];by_cases d:l<i/\i<=k
  ·rw[if_pos d,if_neg ∅,if_pos ⟨Q,Q⟩];exact u _ _ ∅ ∅
  ·rw[if_neg d];by_cases a:j=l
   ·rw[if_pos a];exact lo i ∅
   ·rw[if_neg a];by_cases a:l<j/\j<=k
    ·rw[if_pos a];exact u _ _ ∅ ∅
    ·rw[if_neg a];exact u _ _ f ∅
theorem placed{h:SortSt}{n f:Nat}{Q:Bool->SortSt->Prop}(C:Sj prog w A s key z)(I:n<=z.size)(J:f<=n)(o:vR z h)(u:Up key (arrOf h) f)
  (p:∀ t,vR z t->Up key (arrOf t) n->Q true t):wpS (model prog w) A E s (binarySort' 0 n f) Q h:=by
 rw[binarySort'_eq];simp only[Nat.zero_add];refine wpS_bind (wpS_mono (wpS_forRange (I:=λk c t=>c=(none,())/\vR z t/\Up key (arrOf t) (min k n)) (Q:=λc t=>c=(none,())/\vR z t/\Up key (arrOf t) n) ?v' ?y' ?B') ?D')
 case D' =>
  rintro c t ⟨rfl,d,a⟩;exact wpS_pure (p t d a)
 case B' =>
  refine⟨1,o,λi j a b=>?_⟩;by_cases c:f=0
  ·have:i=j:=by lia
   subst this;exact Le.rfl' _
  ·exact u i j a ∅
 case y' =>
  rintro c t ⟨e,d,a⟩;let q:min (max (max f 1) n) n=n:=by lia
  rw[q]at a;exact⟨e,d,a⟩
 case v' =>
  rintro k c t L M ⟨rfl,d,a⟩;let q:min k n=k:=by lia
  rw[q]at a;refine wpS_bind (wpS_mono (wpS_forRange (I:=λx c b=>b=t/\∃ l r,c=(none,l,r)/\e' key (arrOf t) k l r/\r-l<=k-x) (Q:=λc b=>b=t/\∃ l,∃ r:Nat,c=(none,l,r)/\e' key (arrOf t) k l l) ?F' ?q' ⟨1,0,k,1,⟨Q,Q,λi G=>by lia,λi j m=>by lia⟩,Q⟩) ?e')
  case q' =>
   rintro c b ⟨rfl,l,r,rfl,g,H⟩;let e:r=l:=by have:=g.1;lia
   subst e;exact⟨1,r,r,1,g⟩
  case F' =>
   rintro x c b _ N ⟨rfl,l,r,rfl,g,H⟩;dsimp only;let q:=g.1;let q:=g.2.1;by_cases c:l>=r
   ·rw[if_pos c];let e:r=l:=by lia
    subst e;exact wpS_pure ⟨1,r,r,1,g⟩
   ·rw[if_neg c];refine wpS_bind (cmp C d ∅ ∅ ?_)
    cases e:less (kp key (arrOf b) k) (kp key (arrOf b) ((l+r) / 2)) with
    | true =>
     simp only[if_true];refine wpS_pure ⟨1,l,(l+r) / 2,1,⟨Q,Q,g.2.2.1,λi j m q=>?_⟩,Q⟩;exact Ib e ((a ((l+r) / 2) i j m).tr q)
    | false =>
     simp only[Bool.false_eq_true,if_false];refine wpS_pure ⟨1,(l+r) / 2+1,r,1,⟨Q,Q,λi G=>?_,g.2.2.2⟩,Q⟩;exact (a i ((l+r) / 2) ∅ ∅).tr (vQ e)
  case e' =>
   rintro c b ⟨rfl,l,r,rfl,g⟩;show wpS _ _ _ _ (do moveDown' k l;pure (ForInStep.yield (none,()))) _ _;rw[moveDown'_eq];refine wpS_bind (wpS_modify (wpS_pure ⟨1,d.put (bubble_perm _ _ _),?_⟩));rw[show min (k+1) n=k+1 by lia];exact g.pN (by rw[d.sz];lia) a
def Sn(key:Value->Int × Int)(z:X1)(a:SortSt):Prop:=(arrOf a).Perm z/\failedOf a=none/\pendingOf a=(List.toArray [(0,z.size,0)])/\Up key (arrOf a) z.size
def vR.fin{a:SortSt}(b:vR z a)(u:Up key (arrOf a) z.size):Sn key z (setPending a ((pendingOf a).push (0,z.size,0))):=by
 refine⟨b.pm,b.fl,?_,u⟩;show (pendingOf a).push _=_;rw[b.pd];rfl
theorem pR{i:SortSt}{Q:Unit->SortSt->Prop}(C:Sj prog w A s key z)(j:vR z i)(r:2<=z.size)(u:z.size<64)
  (l:∀ t,(arrOf t).Perm z->failedOf t=none->Up key (arrOf t) z.size->Q () t):wpS (model prog w) A E s sortRuns' Q i:=by
 rw[sortRuns'_eq];refine wpS_bind (wpS_get ?_);dsimp only
 let n:minRun' z.size z.size 0=z.size:=by
  cases e:z.size with
  | zero=>lia
  | succ f=>rw[minRun'_succ,if_pos ∅]
 simp only[j.sz,n];refine wpS_bind (wpS_mono (wpS_forRange (I:=λx c t=>(x=0/\c=(none,0)/\vR z t)\/(1<=x/\c=(none,z.size)/\Sn key z t)) (Q:=λc t=>c=(none,z.size)/\Sn key z t) ?n' ?o' (.inl ⟨V,j⟩)) ?b')
 case o' =>
  rintro c t (⟨a,_,_⟩|⟨_,e,f⟩)
  ·lia
  ·exact⟨e,f⟩
 case n' =>
  rintro x c t _ v (⟨rfl,rfl,p⟩|⟨a,rfl,f⟩)
  ·dsimp only;rw[if_neg ∅];simp only[Nat.sub_zero,Nat.min_self,Nat.zero_add];refine wpS_bind (LI C (fk _) ∅ p λm k g n q h=>?_);dsimp only;let d:∀ a:SortSt,vR z a->Up key (arrOf a) z.size->(pendingOf a).back?=none/\Sn key z (setPending a ((pendingOf a).push (0,z.size,0))):=λa b f=>⟨by rw[b.pd];rfl,b.fin f⟩;by_cases c:m<z.size
   ·rw[if_pos c];refine wpS_bind (wpS_lift (wpAny_rule ⟨1,?_⟩));refine wpS_bind (placed C (fk _) q g h λa b f=>?_);simp only[Bool.not_true,Bool.false_eq_true,if_false];refine wpS_bind (wpS_get ?_);rw[(d a b f).1];dsimp only;exact wpS_bind (wpS_modify (wpS_pure (.inr ⟨Q,1,(d a b f).2⟩)))
   ·rw[if_neg c];let e:m=z.size:=by lia
    subst e;refine wpS_bind (wpS_get ?_);rw[(d k g h).1];dsimp only;exact wpS_bind (wpS_modify (wpS_pure (.inr ⟨Q,1,(d k g h).2⟩)))
  ·dsimp only;rw[if_pos (fk _)];exact wpS_pure ⟨1,f⟩
 case b' =>
  rintro c t ⟨rfl,f⟩;dsimp only;refine wpS_bind (wpS_mono (wpS_forRange (I:=λ_ c a=>a=t/\c=(none,())) (Q:=λc a=>a=t/\c=(none,())) ?_ (λ_ _ e=>e) ⟨V⟩) ?_)
  ·rintro x c a _ _ ⟨rfl,rfl⟩;refine wpS_bind (wpS_get ?_);rw[if_pos (by rw[f.2.2.1];exact fk 1)];exact wpS_pure ⟨V⟩
  ·rintro c a ⟨rfl,rfl⟩;exact wpS_pure (l _ f.1 f.2.1 f.2.2.2)
theorem Ow(v:Value):firstOfTuple' v=(do
  if (← typeOf v) != .type "tuple" then return none
  return (← Builtin.List.listItems v)[0]?):=rfl
def Ic{M:Model}{v:Value}{p:Int × Int}{Q:Option Value->Shared->Prop}(h:jA s.heap v p)(g:∀ t,Q (⇑(.int p.1 t)) s):wpAny M A (firstOfTuple' v) Q E s:=by
 let⟨d,b,i,rfl,c⟩:=h;let⟨o,a,d,n,e⟩:=id c;rw[Ow];refine wpAny_bind (wpAny_typeOf (T:="tuple") ⟨o,a,d⟩ ?_);let f:(Value.type "tuple" != Value.type "tuple")=false:=by rfl
 rw[f,if_neg lV];exact wpAny_bind (listItems_at a e (wpAny_pure (g b)))
abbrev Ox(h:Heap):List Value->List (Int × Int)->Prop:=Paired (jA h)
theorem Oz{M:Model}:∀ {b:WP} {c:List (Int × Int)} {Q:List (XB)->Shared->Prop},Ox s.heap b c->(∀ a:List Value,IntsAre a (c.map (·.1))->Q (a.map some) s)->wpAny M A (b.mapM firstOfTuple') Q E s
 | _,_,_,.nil,g=>by
  rw[List.mapM_nil];exact wpAny_pure (g [] .nil)
 | _,_,_,.cons h r,g=>by
  rw[List.mapM_cons];refine wpAny_bind (Ic h λt=>wpAny_bind (Oz r λa d=>wpAny_pure ?_));exact g _ (.cons _ t d)
def Ie{M:Model}{a:WP}{f:List (Int × Int)}{Q:SortKind->Shared->Prop}(h:Ox s.heap a f)(n:a≠[])(g:Q (tuples' true) s):wpAny M A (keyKind' a.toArray) Q E s:=by
 rw[keyKind'_eq,List.mapM_toArray];refine wpAny_bind ?_;show wpAny M A (List.toArray <$> a.mapM firstOfTuple') _ E s;rw[map_eq_pure_bind];refine wpAny_bind (Oz h λb c=>wpAny_pure ?_);let i:(b.map some).toArray.all (·.isSome)=true:=by simp
 rw[if_pos i];refine wpAny_bind (wpAny_rule ?_);let i:(b.map some).toArray.filterMap id=b.toArray:=by simp
 rw[i,oneTypeOnly'_eq,List.mapM_toArray,mapM_typeOf_ints c];simp only[map_pure,pure_bind]
 let j:b≠[]:=by
  intro z;subst z
  cases h with
  | nil=>exact n rfl
  | cons _ _=>cases c
 let⟨d,e,rfl⟩:=List.exists_cons_of_ne_nil j;let b:(List.map (λ_=>Value.type "int") (d::e)).toArray[0]?=⇑(Value.type "int"):=by simp
 rw[b]
 let k:((List.map (λ_=>Value.type "int") (d::e)).toArray.all λx=>x == Value.type "int")=true:=by
  simp only[List.all_toArray,List.all_map,List.all_eq_true];intro _ _;rfl
 simp only[k,if_true];refine wpAny_bind (wpAny_pure (wpAny_pure ?_));exact g
def jA.inj{h:Heap}{v:Value}{p q:Int × Int}(c:jA h v p)(d:jA h v q):p=q:=by
 let⟨x,n,o,rfl,r,e,_,s,f⟩:=c;let⟨y,n,o,g,r,a,_,s,b⟩:=d;cases g;rw[e]at a;cases a;rw[f]at b;injection b with a _;let i:=congrArg Array.toList a;injection i with j k;injection k with l _;injection j with m _;injection l with a _;exact Prod.ext m a
open Classical in
noncomputable def iS (h:Heap) (v:Value):Int × Int:=if c:∃ p,jA h v p then c.choose else (0,0)
def nT{h:Heap}{v:Value}{p:Int × Int}(a:jA h v p):iS h v=p:=by
 let c:∃ p,jA h v p:=⟨p,a⟩;unfold iS;rw[dif_pos c];exact c.choose_spec.inj a
def jA.keep{h a:Heap}{v:Value}{p:Int × Int}(d:jA h v p)(k:∀ b o,o.cls=.type "tuple"->h.get? b=⇑o->a.get? b=⇑o):jA a v p:=by
 let⟨x,e,f,g,o,i,c,r⟩:=d;exact⟨x,e,f,g,o,k x o c i,c,r⟩
theorem Ox.mem{h:Heap}:∀ {b:WP} {c:List (Int × Int)} {v:Value},Ox h b c->v∈b->∃ p,jA h v p
 | _,_,_,.nil,m=>by cases m
 | _,_,_,.cons a r,m=>by
  rcases List.mem_cons.mp m with e|e
  ·exact⟨_,by rw[e];exact a⟩
  ·exact Ox.mem r e
def xZ{a:WP}{r:Value × Value}(h:r∈a.zip a):r.1∈a/\r.2=r.1:=by
 let⟨i,b,e⟩:=List.getElem_of_mem h;rw[List.getElem_zip]at e;rw[← e];exact⟨List.getElem_mem _,1⟩
theorem xJ{b:Addr}{a:WP}{n:List (Int × Int)}{v:Nat}{P:Fin->Shared->Prop}(d:s.heap.get? b=⇑(seqObj "list" a.toArray v))(h:Ox s.heap a n)(x:↑a<64)
  (i:∀ j:SortSt,(arrOf j).Perm (pairsOf a)->Up (iS s.heap) (arrOf j) (pairsOf a).size->P (.done (.ret .none)) { s with heap:=sortedHeap s.heap b a ((arrOf j).map (·.2)) }) :
  wpAny (model prog w) A (Builtin.«list.sort» ⟨[↥b],[]⟩) P E s:=by
 rw[list_sort_plain];let p:b<s.heap.objs.size:=Heap.lt_size d;refine wpAny_bind (listItems_at d rfl ?_);refine wpAny_bind (listUpdate_at d rfl ?_);obtain⟨f,r⟩:∃ f,(s.heap.update b (Obj.mapSeq λ_=>#[])).get? b=⇑(seqObj "list" #[] f):=⟨_,get?_update_seq d (λ_=>#[])⟩;refine wpAny_bind (seqEpoch_at r rfl ?_);refine wpAny_bind (wpAny_newTuple (wpAny_bind (wpAny_newList (wpAny_holding ?_))));generalize k:((s.heap.update b (Obj.mapSeq λ_=>#[])).push (seqObj "tuple" a.toArray 0)).push (seqObj "list" #[] 0)=g
 let e:g.get? b=⇑(seqObj "list" #[] f):=by
  rw[← k,Heap.get?_push_ne _ _ _ (by rw[size_push',Heap.size_update];exact jK (Nat.lt_succ_of_lt p)),Heap.get?_push_ne _ _ _ (by rw[Heap.size_update];exact jK p)];exact r
 let l:∀ f o,o.cls=.type "tuple"->s.heap.get? f=⇑o->g.get? f=⇑o:=λf o y m=>by
  let c:f≠b:=λz=>by
   rw[z,d]at m;cases m;let q:Value.type "list"=Value.type "tuple":=y;simp at q
  rw[← k];exact Heap.get?_push_of_some _ (Heap.get?_push_of_some _ (by rw[Heap.get?_update_ne _ _ _ _ c];exact m))
 let B:sortedHeap s.heap b a=λf=>g.update b (Obj.mapSeq λ_=>f):=by rw[← k];rfl
 rw[B]at i;dsimp only;let f:a.toArray.size=↑a:=by simp
 by_cases c:a.toArray.size<2
 ·rw[if_pos c,if_pos c];refine wpAny_bind (wpAny_pure ?_);rw[StateT.run_pure];refine wpAny_bind (wpAny_pure ?_);dsimp only;refine wpAny_bind (seqEpoch_at e rfl (wpAny_bind (listUpdate_at e rfl ?_ (hsz2:=by rw[Array.size_map];show (pairsOf a).size<=_;rw[pairsOf_size,sizeLine_eq];lia))));simp only[bne_self_eq_false,Bool.false_eq_true,if_false];refine wpAny_pure (i (SortSt.mk' general' (a.toArray.zip a.toArray) #[] 7 none) (Array.Perm.refl _) λf k p m=>?_);have:f=k:=by rw[pairsOf_size]at m;lia
  subst this;exact Le.rfl' _
 ·rw[if_neg c,if_neg c];let f:a≠[]:=λz=>by rw[z]at c;simp at c
  let c:Ox g a n:=_L2.Paired.AB h λk p q=>q.keep l;refine wpAny_bind (Ie (s:={ s with heap:=g }) c f ?_)
  let m:Sj prog w A { s with heap:=g } (iS s.heap) (pairsOf a):=λr c o f k o g=>by
   rw[pairsOf_toList]at c f;let⟨p,k⟩:=h.mem (xZ c).1;let⟨q,c⟩:=h.mem (xZ f).1;rw[nT k,nT c]at g;exact Ia (k.keep l) (c.keep l) g
  refine wpAny_bind (wpAny_mono (pR (key:=iS s.heap) (z:=pairsOf a) (i:=SortSt.mk' (tuples' true) (a.toArray.zip a.toArray) #[] 7 none) (Q:=λ_ t=>(arrOf t).Perm (pairsOf a)/\failedOf t=none/\Up (iS s.heap) (arrOf t) (pairsOf a).size) m ⟨Array.Perm.refl _,V,1⟩ (by rw[pairsOf_size];lia) (by rw[pairsOf_size];exact x) λt c f g=>⟨c,f,g⟩) ?_ λ_ _ c=>c);rintro⟨⟨⟩,t⟩ F ⟨rfl,u,C,D⟩;dsimp only;refine wpAny_bind (seqEpoch_at e rfl (wpAny_bind (listUpdate_at e rfl ?_ (hsz2:=by refine ig (Nat.le_of_eq ((Array.size_map ..).trans (u.size_eq.trans (pairsOf_size _)))) ?_;rw[sizeLine_eq];lia))));rw[C];simp only[bne_self_eq_false,Bool.false_eq_true,if_false];exact wpAny_pure (i t u D)
theorem C7{l:Addr}{a:WP}{f:List (Int × Int)}{Q:ZB}(n:s.heap.IsList l a.toArray)(h:Ox s.heap a f)(p:↑a<64)
  (r:∀ c:SortSt,(arrOf c).Perm (pairsOf a)->Up (iS s.heap) (arrOf c) (pairsOf a).size->Q (.ref (s.heap.objs.size+1)) { s with heap:=sortedAll s.heap a ((arrOf c).map (·.2)) }) :
  wpAny (model prog w) A (call (.builtin "sorted") [↥l]) Q E s:=by
 refine Calls.call_function_entry kind_sorted plain_sorted entry_sorted (args_sorted1 _) ?_;unfold Builtin.«sorted»;refine wpAny_bind (m:=checkCount "sorted" 1 1 _) (wpAny_pure ?_);refine wpAny_bind (collect_list n ?_ (by have:=(show (64:Nat)<=sizeLine by decide);lia));refine wpAny_bind (wpAny_newList ?_);generalize e:(s.heap.push (seqObj "list" #[] 0)).update s.heap.objs.size (Obj.mapSeq (·++a.toArray))=g;let i:g.objs.size=s.heap.objs.size+1:=by rw[← e,Heap.size_update,size_push']
 let m:∀ b o,s.heap.get? b=⇑o->g.get? b=⇑o:=λb o d=>by
  let j:=Heap.lt_size d;rw[← e,Heap.get?_update_ne _ _ _ _ (jK j)];exact Heap.get?_push_of_some _ d
 let j:∀ b o,s.heap.get? b=⇑o->(g.push (seqObj "list" a.toArray 0)).get? b=⇑o:=λb o d=>Heap.get?_push_of_some _ (m b o d);have k:(g.push (seqObj "list" a.toArray 0)).get? (s.heap.objs.size+1)=⇑(seqObj "list" a.toArray 0):=by rw[← i];exact Heap.get?_push_size _ rfl
 show wpAny _ _ _ _ _ { s with heap:=g.push (seqObj "list" a.toArray 0) };rw[i];let i:Ox (g.push (seqObj "list" a.toArray 0)) a f:=_L2.Paired.AB h λv m q=>q.keep λb o _ d=>j b o d
 let t:∀ v∈a,iS (g.push (seqObj "list" a.toArray 0)) v=iS s.heap v:=λv u=>by
  let⟨m,q⟩:=h.mem u;rw[nT q,nT (q.keep λb o _ d=>j b o d)]
 refine wpAny_bind (wpAny_holding (wpAny_call_entry slot_list_sort ⟨_,k,1⟩ entry_list_sort (xJ (s:={ s with heap:=g.push (seqObj "list" a.toArray 0) }) k i p λc b o=>⟨Y,wpAny_pure ⟨Y,?_⟩⟩) (args_list_sort _)))
 let q:Up (iS s.heap) (arrOf c) (pairsOf a).size:=λi j u d=>by
  let m:∀ k,k<(pairsOf a).size->kp (iS s.heap) (arrOf c) k=kp (iS (g.push (seqObj "list" a.toArray 0))) (arrOf c) k:=λk g=>by
   let v:k<(arrOf c).size:=by rw[b.size_eq];exact g
   let g:(arrOf c)[k]∈(pairsOf a).toList:=(Array.perm_iff_toList_perm.mp b).mem_iff.mp (by simp);rw[pairsOf_toList]at g;unfold kp;rw[getElem?_pos _ k v];show iS s.heap _=iS _ _;rw[t _ (xZ g).1]
  rw[m i ∅,m j d];exact o i j u d
 let z:=r c b q;unfold sortedAll at z;rw[e]at z;exact z
end
end _jM
namespace _gn
open Spec Rows _L2 _cN _eU _vO _jM
theorem zC{d:Cx}{e:_L2.St}{H:Hp}{s:Shared}(I:_L2.Inv d q e H s):∀ {c:WF} {row:Row},bC H c row->Ox s.heap (c.map Value.ref) row
 | _,_,.nil=>.nil
 | _,_,.cons (a:=a) (b:=p) h r=>by
  refine .cons ?_ (zC I r);let⟨r,b,f,_⟩:=I.tuple (dG.of h);let⟨o,g,i,n,j⟩:=f
  cases b with
  | cons k b =>
   cases b with
   | cons l b =>
    cases b;let⟨m,rfl⟩:=k;let⟨p,rfl⟩:=l;exact⟨a,m,p,1,o,g,i,n,j⟩
theorem B3:∀ {a:WF} {b:WP},cD (a.map V.ref) b->b=a.map Value.ref
 | [],_,.nil=>rfl
 | _::a,_,.cons e r=>by
  cases e;rw[B3 r];rfl
theorem B4:∀ a:List Addr,cD (a.map V.ref) (a.map Value.ref)
 | []=>.nil
 | _::a=>.cons rfl (B4 a)
def Ys:Value->Addr
 | .ref a=>a
 | _=>0
theorem bC.OA{H:Hp}:∀ {b:WF} {row:Row} {a:Addr},bC H b row->a∈b->∃ p,jW H a p
 | _,_,_,.nil,m=>by cases m
 | _,_,_,.cons h r,m=>by
  rcases List.mem_cons.mp m with e|e
  ·exact⟨_,by rw[e];exact h⟩
  ·exact bC.OA r e
theorem C8{f:Cx}:jN f (.builtin "sorted") (λo H Q=>∃ (p:Addr) (c:WF) (b:Row),o=[↥p]/\H p=⇑(.lst (c.map V.ref))/\bC H c b/\↑b<64/\
  ∀ (l:Addr) (q:WF) (g:Row),H l=none->g.Perm b->g.Pairwise Le->bC H q g->Q ↥l (aO H l (.lst (q.map V.ref)))):=by
 intro M s N H o O Q I w h;let⟨p,c,b,rfl,y,i,z,A⟩:=h;let⟨R,rfl,B⟩:=vals1 w;cases B;let⟨B,M,C,w,N,D⟩:=I.vC y;let F:=B3 w;subst F;let r:=zC I i;let w:=i.len;let y:↑(c.map Value.ref)<64:=by rw[cC,w];exact z
 refine C7 (a:=c.map Value.ref) ⟨_,D,1,C,1⟩ r y λd j G=>?_;have k:=Array.perm_iff_toList_perm.mp j;rw[pairsOf_toList]at k
 let t:∀ x∈(arrOf d).toList,∃ a∈c,x.1=↥a/\x.2=↥a/\jW H a (iS s.heap x.1):=λx m=>by
  let⟨w,J⟩:=xZ (k.mem_iff.mp m);let⟨a,u,e⟩:=List.mem_map.mp w;let⟨w,v⟩:=i.OA u;let n:=zC I (.cons v .nil:bC H [a] [w])
  cases n with
  | cons n _ =>
   refine⟨a,u,e.symm,by rw[J,e],?_⟩;rw[← e,nT n];exact v
 let u:((arrOf d).map (·.2)).toList=((arrOf d).toList.map λx=>Ys x.1).map Value.ref:=by
  rw[Array.toList_map,List.map_map];refine List.map_congr_left λx m=>?_;let⟨a,_,e,i,_⟩:=t x m;show x.2=Value.ref (Ys x.1);rw[e,i];rfl
 let v:∀ L:List Keyed,(∀ x∈L,∃ a∈c,x.1=↥a/\x.2=↥a/\jW H a (iS s.heap x.1))->bC H (L.map λx=>Ys x.1) (L.map λx=>iS s.heap x.1):=by
  intro L
  induction L with
  | nil=>intro _;exact .nil
  | cons x L n =>
   intro i;let⟨a,_,e,_,a⟩:=i x (by simp);refine .cons ?_ (n λy m=>i y (j5 _ m));rw[e]at a;show jW H (Ys x.1) (iS s.heap x.1);rw[e];exact a
 let J:∀ {e:WP} {b:Row},Ox s.heap e b->(e.zip e).map (λx=>iS s.heap x.1)=b:=by
  intro e
  induction e with
  | nil=>intro b h;cases h;rfl
  | cons a e n =>
   intro b h
   cases h with
   | cons a e =>
    rw[List.zip_cons_cons,jq,n e,nT a]
 let m:((arrOf d).toList.map λx=>iS s.heap x.1).Perm b:=by
  let a:=k.map λx=>iS s.heap x.1;rw[J r]at a;exact a
 let n:((arrOf d).toList.map λx=>iS s.heap x.1).Pairwise Le:=by
  rw[List.pairwise_iff_getElem];intro i h k a r;rw[cC,Array.length_toList]at k a;let e:=G i h (gJ r) (by rw[← j.size_eq];exact a);unfold kp at e;rw[getElem?_pos _ i k,getElem?_pos _ h a]at e;simpa using e
 let⟨a,e⟩:=sortedAll_at s.heap (c.map Value.ref) ((arrOf d).map (·.2))
 let h:↑((arrOf d).toList.map λx=>Ys x.1)<=sizeLine:=by
  rw[cC,Array.length_toList,j.size_eq,pairsOf_size];have:(64:Nat)<=sizeLine:=by decide
  lia
 refine⟨.ref (s.heap.objs.size+1),_,I.laid (t':=s.toks) (λj k i=>sortedAll_old i) (Nat.le_succ _) (show gh f.prog f.w _ _ _ (.lst (((arrOf d).toList.map λx=>Ys x.1).map V.ref)) from ⟨by rw[cC];exact h,_,a,B4 _,?_⟩),1,A _ _ _ (I.hok.fresh (Nat.le_succ _)) m n (v _ t)⟩;rw[e,← u]
end _gn
namespace _gn
open Spec Rows _L2 _cN _eU _vO _jM
def In(r:Row)(x:Int):Prop:=∃ p∈r,p.1<=x/\x<p.2
def Ok(r:Row):Prop:=∀ p∈r,p.1<=p.2
theorem oG:∀ {n:Nat} {s x:Int},x∈run s n↔s<=x/\x<s+n
 | 0,s,x=>by simp[run]
 | n+1,s,x=>by
  rw[run,List.mem_cons,oG];lia
def jB{p:Int × Int}{x:Int}:x∈gf p↔p.1<=x/\x<p.2:=by
 unfold gf;rw[oG];lia
def gV{r:Row}{x:Int}:x∈bw r↔In r x:=by
 unfold bw In;rw[List.mem_flatMap];exact⟨λ⟨p,a,b⟩=>⟨p,a,jB.mp b⟩,λ⟨p,a,b⟩=>⟨p,a,jB.mpr b⟩⟩
theorem C9{x:Int}:¬ In [] x:=λ⟨_,h,_⟩=>by cases h
def lO{r q:Row}{x:Int}:In (r++q) x↔In r x\/In q x:=by
 unfold In;constructor
 ·rintro⟨p,a,h⟩;exact (List.mem_append.mp a).elim (λz=>.inl ⟨p,z,h⟩) λz=>.inr ⟨p,z,h⟩
 ·rintro (⟨p,a,h⟩|⟨p,a,h⟩)
  ·exact⟨p,oh _ a,h⟩
  ·exact⟨p,nG _ a,h⟩
def Ig{p:Int × Int}{x:Int}:In [p] x↔p.1<=x/\x<p.2:=by
 unfold In;constructor
 ·rintro⟨q,a,h⟩;rw[List.mem_singleton.mp a]at h;exact h
 ·intro h;exact⟨p,by simp,h⟩
def Su{r q:Row}(h:r.Perm q){x:Int}:In r x↔In q x:=by
 unfold In;constructor
 ·rintro⟨p,a,g⟩;exact⟨p,h.mem_iff.mp a,g⟩
 ·rintro⟨p,a,g⟩;exact⟨p,h.mem_iff.mpr a,g⟩
def OB{r:Row}(a:Ok r){x:Int}:In (cA r) x↔In r x:=by rw[← gV,← gV,j8 r a]
def pS(r:Row):Prop:=r.Pairwise (λp q=>p.2<q.1)/\∀ p∈r,p.1<p.2
theorem zD:∀ (n:Nat) (s:Int),(run s n).Pairwise (·<·)
 | 0,_=>.nil
 | n+1,s=>by
  rw[run,List.pairwise_cons];exact⟨λx a=>by have:=oG.mp a;lia,zD n (s+1)⟩
theorem pS.rise:∀ {r:Row},pS r->(bw r).Pairwise (·<·)
 | [],_=>.nil
 | p::r,h=>by
  let e:bw (p::r)=gf p++bw r:=by unfold bw;rw[iY]
  rw[e,List.pairwise_append];let⟨b,a⟩:=List.pairwise_cons.mp h.1;refine⟨zD _ _,pS.rise ⟨a,λq a=>h.2 q (j5 _ a)⟩,λx c y d=>?_⟩;let⟨q,a,e,f⟩:=gV.mp d;have:=(jB.mp c).2;have:=b q a;lia
theorem Ff:∀ {a b:Wp},a.Pairwise (·<·)->b.Pairwise (·<·)->(∀ x,x∈a↔x∈b)->a=b
 | [],[],_,_,_=>rfl
 | [],y::b,_,_,h=>by have:=(h y).mpr (by simp);cases this
 | x::a,[],_,_,h=>by have:=(h x).mp (by simp);cases this
 | x::a,y::b,g,hb,h=>by
  let⟨d,i⟩:=List.pairwise_cons.mp g;let⟨f,j⟩:=List.pairwise_cons.mp hb
  let k:x=y:=by
   rcases List.mem_cons.mp ((h x).mp (by simp)) with e|e
   ·exact e
   ·rcases List.mem_cons.mp ((h y).mpr (by simp)) with c|c
    ·exact c.symm
    ·have:=f x e;have:=d y c;lia
  subst k;refine congrArg (x::·) (Ff i j λz=>⟨λc=>?_,λc=>?_⟩)
  ·rcases List.mem_cons.mp ((h z).mp (j5 _ c)) with e|e
   ·have:=d z c;lia
   ·exact e
  ·rcases List.mem_cons.mp ((h z).mpr (j5 _ c)) with e|e
   ·have:=f z c;lia
   ·exact e
theorem pS.ok{r:Row}(h:pS r):Ok r:=λp a=>Int.le_of_lt (h.2 p a)
def LK{r:Row}(h:pS r):cA r=r:=by
 let z:∀ (r t:Row),pS (t++r)->r.foldl dh t=t++r:=by
  intro r
  induction r with
  | nil=>intro t _;simp
  | cons p r a =>
   intro t g
   let e:dh t p=t++[p]:=by
    let b:=g.2 p (by simp);unfold dh;rw[if_neg ∅];rcases kO t with rfl|⟨c,q,rfl⟩
    ·exact iA _ _
    ·rw[jH]at g ⊢;have:=(List.pairwise_append.mp g.1).2.2 q (by simp) p (by simp);rw[iB _ ∅]
   rw[jJ,e,a _ (by rw[jI];exact g),jI];rfl
 exact z r [] h
def Ca{r:Row}(h:pS r):cE (bw r)=r:=by rw[← mw r h.ok,LK h]
def Sv{a b:Row}(c:pS a)(d:pS b)(h:∀ x,In a x↔In b x):a=b:=by
 rw[← Ca c,← Ca d,Ff c.rise d.rise λx=>by rw[gV,gV,h x]]
def Fg{b:Wp}(h:b.Pairwise (·<·)):pS (cE b):=by
 let z:∀ (b:Wp) (t:Row),pS t->(∀ p∈t.getLast?,∀ n∈b,p.2<=n)->b.Pairwise (·<·)->pS (b.foldl (λt n=>iL t n (n+1)) t):=by
  intro b
  induction b with
  | nil=>intro t h _ _;exact h
  | cons n b m =>
   intro t h j w;let⟨o,r⟩:=List.pairwise_cons.mp w;rw[jJ];refine m _ ?_ ?_ r
   ·rcases kO t with rfl|⟨s,q,rfl⟩
    ·rw[iA];exact⟨by simp,λp a=>by rw[List.mem_singleton.mp a];show n<n+1;lia⟩
    ·rw[jH]at h j ⊢;let m:=j q (by rw[lX];rfl) n (by simp);let⟨k,d⟩:=h;let⟨j,m,l⟩:=List.pairwise_append.mp k;by_cases c:q.2=n
     ·rw[i7 _ c];refine⟨List.pairwise_append.mpr ⟨j,by simp,λf g u i=>?_⟩,λp a=>?_⟩
      ·rw[List.mem_singleton.mp i];exact l f g q (by simp)
      ·rcases List.mem_append.mp a with e|e
       ·exact d p (oh _ e)
       ·rw[List.mem_singleton.mp e];have:=d q (by simp);show q.1<n+1;lia
     ·rw[iB _ c];refine⟨List.pairwise_append.mpr ⟨k,by simp,λf g u i=>?_⟩,λp a=>?_⟩
      ·rw[List.mem_singleton.mp i];show f.2<n;rcases List.mem_append.mp g with e|e
       ·have:=l f e q (by simp);have:=d q (by simp);lia
       ·rw[List.mem_singleton.mp e];lia
      ·rcases List.mem_append.mp a with e|e
       ·exact d p e
       ·rw[List.mem_singleton.mp e];show n<n+1;lia
   ·intro p a d f
    let e:p.2=n+1:=by
     rcases kO t with rfl|⟨s,q,rfl⟩
     ·rw[iA]at a;have:(n,n+1)=p:=by simpa using a
      rw[← this]
     ·rw[jH]at a;by_cases c:q.2=n
      ·rw[i7 _ c,lX]at a;have:(q.1,n+1)=p:=by simpa using a
       rw[← this]
      ·rw[iB _ c,lX]at a;have:(n,n+1)=p:=by simpa using a
       rw[← this]
    have:=o d f;lia
 exact z b [] ⟨.nil,λp a=>by cases a⟩ (λp a=>by simp at a) h
def zE{a:Wp}{x:Int}:In (cE a) x↔x∈a:=by rw[← gV,dz]
def fG(t:Row)(p:Int × Int):Row :=
 match t.getLast? with
 | some l=>if p.1<=l.2 then t.dropLast++[(l.1,if p.2 > l.2 then p.2 else l.2)] else t++[p]
 | none=>t++[p]
def sX(t:Row){l p:Int × Int}(h:p.1<=l.2):fG (t++[l]) p=t++[(l.1,if p.2 > l.2 then p.2 else l.2)]:=by
 unfold fG;rw[lX];show (if p.1<=l.2 then (t++[l]).dropLast++[(l.1,if p.2 > l.2 then p.2 else l.2)] else _)=_;rw[if_pos h,List.dropLast_concat]
def sY(t:Row){l p:Int × Int}(h:¬ p.1<=l.2):fG (t++[l]) p=t++[l]++[p]:=by
 unfold fG;rw[lX];show (if p.1<=l.2 then (t++[l]).dropLast++[(l.1,if p.2 > l.2 then p.2 else l.2)] else t++[l]++[p])=_;rw[if_neg h]
def OC(L:Row):∀ t:Row,↑(L.foldl fG t)<=↑t+↑L:=by
 induction L with
 | nil=>intro t;simp
 | cons p L a =>
  intro t;rw[jJ,eZ];let b:=a (fG t p)
  let b:↑(fG t p)<=↑t+1:=by
   rcases kO t with rfl|⟨c,q,rfl⟩
   ·exact fk _
   ·rw[jH];by_cases c:p.1<=q.2
    ·rw[sX _ c,dm,dm,gW,gW];lia
    ·rw[sY _ c,dm,dm];exact fk _
  lia
def Sw:∀ (L t:Row),L.Pairwise Le->(∀ p∈L,p.1<p.2)->pS t->(∀ l∈t.getLast?,∀ p∈L,l.1<=p.1)->pS (L.foldl fG t)/\∀ x,In (L.foldl fG t) x↔In t x\/In L x:=by
 intro L
 induction L with
 | nil=>intro t _ _ h _;exact⟨h,λx=>⟨.inl,λz=>z.elim id λw=>absurd w C9⟩⟩
 | cons p L u =>
  intro t v i j k;let⟨y,A⟩:=List.pairwise_cons.mp v;let m:=i p (by simp);let lo:∀ q∈L,p.1<=q.1:=λq a=>by have:=y q a;unfold Le at this;lia
  let step:pS (fG t p)/\(∀ x,In (fG t p) x↔In t x\/In [p] x)/\∀ l∈(fG t p).getLast?,l.1<=p.1:=by
   rcases kO t with rfl|⟨B,q,rfl⟩
   ·refine⟨⟨by simp[fG],λr b=>by rw[List.mem_singleton.mp b];exact m⟩,λx=>?_,λl h=>?_⟩
    ·show In [p] x↔_;exact⟨.inr,λz=>z.elim (λw=>absurd w C9) id⟩
    ·have:p=l:=by simpa [fG] using h
     rw[← this];exact Int.le_refl _
   ·rw[jH]at j k ⊢;let⟨n,c⟩:=j;let⟨w,j,o⟩:=List.pairwise_append.mp n;let j:=c q (by simp);let C:=k q (by rw[lX];rfl) p (by simp);by_cases s:p.1<=q.2
    ·rw[sX _ s];refine⟨⟨List.pairwise_append.mpr ⟨w,by simp,λd f D g=>?_⟩,λr b=>?_⟩,λx=>?_,λl h=>?_⟩
     ·rw[List.mem_singleton.mp g];exact o d f q (by simp)
     ·rcases List.mem_append.mp b with e|e
      ·exact c r (oh _ e)
      ·rw[List.mem_singleton.mp e];show q.1<(if p.2 > q.2 then p.2 else q.2)
       split <;> lia
     ·rw[lO,lO,Ig,Ig,Ig];show In B x\/(q.1<=x/\x<(if p.2 > q.2 then p.2 else q.2))↔_;constructor
      ·rintro (z|z)
       ·exact .inl (.inl z)
       ·by_cases e:x<q.2
        ·exact .inl (.inr ⟨z.1,e⟩)
        ·refine .inr ⟨Q,?_⟩;have:=z.2
         split at this <;> lia
      ·rintro ((z|z)|z)
       ·exact .inl z
       ·refine .inr ⟨z.1,?_⟩
        split <;> lia
       ·refine .inr ⟨Q,?_⟩
        split <;> lia
     ·rw[lX]at h;have:(q.1,if p.2 > q.2 then p.2 else q.2)=l:=by simpa using h
      rw[← this];exact C
    ·rw[sY _ s];refine⟨⟨List.pairwise_append.mpr ⟨n,by simp,λd f D g=>?_⟩,λr b=>?_⟩,λx=>lO,λl h=>?_⟩
     ·rw[List.mem_singleton.mp g];rcases List.mem_append.mp f with e|e
      ·have:=o d e q (by simp);lia
      ·rw[List.mem_singleton.mp e];lia
     ·rcases List.mem_append.mp b with e|e
      ·exact c r e
      ·rw[List.mem_singleton.mp e];exact m
     ·rw[lX]at h;have:p=l:=by simpa using h
      rw[← this];exact Int.le_refl _
  let⟨b,c⟩:=u (fG t p) A (λq a=>i q (j5 _ a)) step.1 λl h q a=>Int.le_trans (step.2.2 l h) (lo q a);refine⟨b,λx=>?_⟩;rw[jJ,c,step.2.1];have e:In (p::L) x↔In [p] x\/In L x:=lO (r:=[p]) (q:=L);rw[e];exact or_assoc
def LL{L a:Row}(h:L.Perm a)(g:L.Pairwise Le)(c:∀ p∈a,p.1<p.2):pS (L.foldl fG [])/\∀ x,In (L.foldl fG []) x↔In a x:=by
 let⟨d,e⟩:=Sw L [] g (λp b=>c p (h.mem_iff.mp b)) ⟨.nil,λp b=>by cases b⟩ (λl b=>by simp at b);refine⟨d,λx=>?_⟩;rw[e,Su h];exact⟨λz=>z.elim (λw=>absurd w C9) id,.inr⟩
end _gn
namespace _gn
open Spec Rows _L2 _cN _eU _vO _jM
def LM(r:Row)(x:Int):Bool:=r.any λp=>decide (p.1<=x)&&decide (x<p.2)
def jC{r:Row}{x:Int}:LM r x=true↔In r x:=by
 unfold LM In;rw[List.any_eq_true];constructor
 ·rintro⟨p,a,h⟩;rw[Bool.and_eq_true]at h;exact⟨p,a,of_decide_eq_true h.1,of_decide_eq_true h.2⟩
 ·rintro⟨p,a,b,c⟩;exact⟨p,a,by rw[Bool.and_eq_true];exact⟨decide_eq_true b,decide_eq_true c⟩⟩
def ic(r:Row)(a:Wp):Wp:=a.filter λx=>!LM r x
def vS{r:Row}{a:Wp}(h:∀ x∈a,¬ In r x):ic r a=a:=by
 unfold ic;rw[List.filter_eq_self];intro x b
 cases e:LM r x with
 | false=>rfl
 | true=>exact absurd (jC.mp e) (h x b)
def Ih{r:Row}{a:Wp}(h:∀ x∈a,In r x):ic r a=[]:=by
 unfold ic;rw[List.filter_eq_nil_iff];intro x b;rw[jC.mpr (h x b)];simp
def qy{r q:Row}{a:Wp}(h:∀ x∈a,In r x↔In q x):ic r a=ic q a:=by
 unfold ic;refine List.filter_congr λx b=>?_
 cases e:LM r x with
 | true=>rw[jC.mpr ((h x b).mp (jC.mp e))]
 | false =>
  cases c:LM q x with
  | true=>rw[jC.mpr ((h x b).mpr (jC.mp c))]at e;cases e
  | false=>rfl
def oH(r:Row)(a b:Wp):ic r (a++b)=ic r a++ic r b:=by unfold ic;rw[List.filter_append]
def lo(b:Int):Int->Row->Row
 | l,[]=>[(l,b)]
 | l,p::r=>if p.1<b then (l,if p.1 > l then p.1 else l)::lo b (if b<p.2 then b else p.2) r else [(l,b)]
def Fi{a b c:Int}(h:a<=b)(g:b<=c):gf (a,c)=gf (a,b)++gf (b,c):=by
 unfold gf;show run a (c-a).toNat=run a (b-a).toNat++run b (c-b).toNat;let e:(c-a).toNat=(b-a).toNat+(c-b).toNat:=by lia
 rw[e]
 let z:∀ (n m:Nat) (s:Int),run s (n+m)=run s n++run (s+n) m:=by
  intro n
  induction n with
  | zero=>intro m s;simp[run]
  | succ n d =>
   intro m s;rw[Nat.succ_add,run,run,d,List.cons_append];congr 3;lia
 rw[z];congr 2;lia
theorem UM(b:Int):∀ (r:Row) (l:Int),l<=b->(∀ p∈r,l<p.2)->pS r->Ok (lo b l r)/\bw (lo b l r)=ic r (gf (l,b))/\(∀ p∈lo b l r,l<=p.1)
 | [],l,h,_,_=>by
  refine⟨λp a=>?_,?_,λp a=>?_⟩
  ·rw[List.mem_singleton.mp a];exact h
  ·rw[vS λx _=>C9];exact eX _
  ·rw[List.mem_singleton.mp a];exact Int.le_refl _
 | p::r,l,h,s,R=>by
  rw[lo];let t:=R.2 p (by simp);let t:=s p (by simp);let⟨n,u⟩:=List.pairwise_cons.mp R.1;by_cases o:p.1<b
  ·rw[if_pos o];obtain⟨m,s⟩:∃ m,m=(if p.1 > l then p.1 else l):=⟨Y⟩;obtain⟨k,t⟩:∃ k,k=(if b<p.2 then b else p.2):=⟨Y⟩;rw[← s,← t]
   let g:l<=m/\m<=k/\k<=b/\p.1<=m/\k<=p.2/\(m=l\/m=p.1)/\(k=b\/k=p.2):=by
    rw[s,t]
    split <;> split <;> lia
   let⟨v,w,y⟩:=UM b r k g.2.2.1 (λq a=>by have:=n q a;have:=R.2 q (j5 _ a);lia) ⟨u,λq a=>R.2 q (j5 _ a)⟩;refine⟨λq a=>?_,?_,λq a=>?_⟩
   ·rcases List.mem_cons.mp a with e|e
    ·rw[e];exact g.1
    ·exact v q e
   ·let e:bw ((l,m)::lo b k r)=gf (l,m)++bw (lo b k r):=by unfold bw;rw[iY]
    rw[e,w,Fi (a:=l) (b:=m) (c:=b) g.1 ∅,Fi (a:=m) (b:=k) (c:=b) g.2.1 g.2.2.1,oH,oH]
    let z:ic (p::r) (gf (l,m))=gf (l,m):=vS λx d=>by
     let f:=jB.mp d;rintro⟨q,a,i,j⟩;rcases List.mem_cons.mp a with c|c
     ·rw[c]at i;simp only at f;lia
     ·have:=n q c;simp only at f;lia
    let A:ic (p::r) (gf (m,k))=[]:=Ih λx d=>⟨p,by simp,by have:=(jB.mp d).1;simp only at this;lia,by have:=(jB.mp d).2;simp only at this;lia⟩
    let B:ic (p::r) (gf (k,b))=ic r (gf (k,b)):=qy λx d=>by
     let f:=jB.mp d;simp only at f;constructor
     ·rintro⟨q,a,i,j⟩;rcases List.mem_cons.mp a with c|c
      ·rw[c]at j;lia
      ·exact⟨q,c,i,j⟩
     ·rintro⟨q,a,c⟩;exact⟨q,j5 _ a,c⟩
    rw[z,A,B,List.nil_append]
   ·rcases List.mem_cons.mp a with e|e
    ·rw[e];exact Int.le_refl _
    ·have:=y q e;lia
  ·rw[if_neg o];refine⟨λq a=>?_,?_,λq a=>?_⟩
   ·rw[List.mem_singleton.mp a];exact h
   ·rw[vS λx d=>?_]
    ·exact eX _
    ·let f:=jB.mp d;simp only at f;rintro⟨q,a,i,j⟩;rcases List.mem_cons.mp a with c|c
     ·rw[c]at i;lia
     ·have:=n q c;lia
   ·rw[List.mem_singleton.mp a];exact Int.le_refl _
theorem OD(b:Int):∀ (r:Row) (l:Int),↑(lo b l r)<=↑r+1
 | [],_=>fk _
 | p::r,l=>by
  rw[lo];split
  ·rw[eZ,eZ];have:=OD b r (if b<p.2 then b else p.2);lia
  ·simp
def fb(a:Row)(x:Int)(n:Nat):Prop:=n<=↑a/\(∀ i p,a[i]?=⇑p->i<n->p.2<=x)/\∀ i p,a[i]?=⇑p->n<=i->x<p.2
def fb.drop{c:Row}{x:Int}{n:Nat}(h:fb c x n):(∀ p∈c.drop n,x<p.2)/\∀ y,x<=y->(In c y↔In (c.drop n) y):=by
 refine⟨λp a=>?_,λy b=>⟨λz=>?_,λz=>?_⟩⟩
 ·let⟨i,b⟩:=List.getElem?_of_mem a;rw[List.getElem?_drop]at b;exact h.2.2 _ p b ∅
 ·let⟨p,a,d,e⟩:=z;let⟨i,b⟩:=List.getElem?_of_mem a;by_cases f:i<n
  ·have:=h.2.1 i p b f;lia
  ·refine⟨p,lU (i:=i-n) ?_,d,e⟩;rw[List.getElem?_drop,show n+(i-n)=i by lia];exact b
 ·let⟨p,a,q⟩:=z;exact⟨p,List.mem_of_mem_drop a,q⟩
theorem pS.drop{r:Row}(h:pS r)(n:Nat):pS (r.drop n):=⟨h.1.drop,λp a=>h.2 p (List.mem_of_mem_drop a)⟩
class inductive OE
 | mk (r:Addr) (a:Row) (_:vs=[↥r]) (_:bP H r a) (_:↑a<64) (_:Ok a) (_ :
 ∀ (q:Addr) (b:Row) (c:Hp),bP c q b->pS b->(∀ x,In b x↔In a x)->↑b<=↑a->aI H c->H q=none->Q ↥q c)
class inductive Sx
 | mk (r:Addr) (a:Row) (x:Int) (_:vs=[↥r,.int x]) (_:bP H r a) (_:pS a) (_: ∀ n:Nat,fb a x n->Q (.int n) H)
class inductive OF
 | mk (r:Addr) (a:Row) (x:Int) (_:vs=[↥r,.int x]) (_:bP H r a) (_:pS a) (_:Q (.bl (LM a x)) H)
class inductive WG
 | mk (r:Addr) (c:Row) (a b:Int) (_:vs=[.int a,.int b,↥r]) (_:bP H r c) (_:pS c) (_:↑c<=100000) (_:a<=b) (_ :
 ∀ (q:Addr) (L:Row) (d:Hp),bP d q L->Ok L->bw L=ic c (gf (a,b))->(∀ p∈L,a<=p.1)->↑L<=↑c+1->aI H d->H q=none->Q ↥q d)
class inductive LN
 | mk (r o:Addr) (a b:Row) (_:vs=[↥r,↥o]) (_:bP H r a) (_:bP H o b) (_:↑a<=5000) (_:↑b<64) (_:Ok a) (_:Ok b) (_ :
 ∀ (q:Addr) (c:Hp),bP c q (cE (ic b (bw a)))->↑(cE (ic b (bw a)))<=↑a*(↑b+1)->aI H c->H q=none->Q ↥q c)
end _gn
namespace _gn
open Spec Rows _L2 _cN _eU _vO _WE
structure cR(K:Frag)(C:Addr)(m fj:Str)(st:Stmt)(ps:UV)(a:Addr)(d:FuncData):Prop where
 F:Rv K m fj st a d
 b:Binds K d ps []
 mt:Np K C m a
structure ClsAt(K:Frag)(mg:Ya)(x:Str)(C fi:Addr):Prop where
 cl:MP K C
 m:mg x=⇑↥C
 Yt:Mk K C fi
def bP.obj{H a:Hp}{r x f:Addr}{b:Row}{g:List (Str × V)}(h:bP H r b)(c:H x=⇑(.ins C f g))(s:cy x H a):bP a r b:=by
 let⟨e,d,i⟩:=h;exact⟨e,s _ _ d (cQ d c),i.tups λd i e=>s d _ e (cQ e c)⟩
end _gn
namespace _gn
open _L2 _cN _eU
section
variable {p:List Value->Prop}
theorem ge(h:p []):∀ a:List Value,↑a=0->p a:=λa e=>by rw[List.length_eq_zero_iff.mp e];exact h
def Yu{n:Nat}(h:∀ b (a:WP),↑a=n->p (b::a)):∀ a:List Value,↑a=n+1->p a:=by
 intro a e
 cases a with
 | nil=>cases e
 | cons b a=>exact h b a (Nat.succ.inj e)
theorem gk(h:∀ a,p [a]):∀ b:List Value,↑b=1->p b:=Yu λa=>ge (p:=λb=>p (a::b)) (h a)
theorem gl(h:∀ a c,p [a,c]):∀ b:List Value,↑b=2->p b:=Yu λa=>gk (p:=λb=>p (a::b)) (h a)
theorem gq(h:∀ a c d,p [a,c,d]):∀ b:List Value,↑b=3->p b:=Yu λa=>gl (p:=λb=>p (a::b)) (h a)
theorem gs(h:∀ a c d e,p [a,c,d,e]):∀ b:List Value,↑b=4->p b:=Yu λa=>gq (p:=λb=>p (a::b)) (h a)
theorem gt(h:∀ a c d e f,p [a,c,d,e,f]):∀ b:List Value,↑b=5->p b:=Yu λa=>gs (p:=λb=>p (a::b)) (h a)
theorem hG(h:∀ a c d e f g,p [a,c,d,e,f,g]):∀ b:List Value,↑b=6->p b:=Yu λa=>gt (p:=λb=>p (a::b)) (h a)
end
section
variable {K:Frag} {mg:Ya} {h:Heap} {x fj:Str} {st:Stmt} {f C:Addr} {ps:UV}
def DI.d(q:DI K x st f)(b:K.In h)(G:h.Ns mainGlobals mg)(c:∀ (kV e g:Value) (i:Option Addr) (j k:Value) (a:WP),↑a=↑ps->bindArgs (fnOf x x (mZ st) (jw st) (b8 st) .none kV e g i j k) ⟨a,[]⟩=pure (ps.zip a):=by bv_decide):∃ l,b9 K mg x st ps f l:=by
 let⟨d,m,n,o⟩:=q;let F:=Hy m n o;exact⟨_,F,F.binds c,mg_of b G d⟩
def MI.d(q:MI K C x fj st f)(b:∀ (kV c e:Value) (g:Option Addr) (i j:Value) (a:WP),↑a=↑ps->bindArgs (fnOf x fj (mZ st) (jw st) (b8 st) .none kV c e g i j) ⟨a,[]⟩=pure (ps.zip a):=by bv_decide):∃ l,cR K C x fj st ps f l:=by
 let⟨d,h,m,n,k⟩:=q;let F:=Hy m n k;exact⟨_,F,F.binds b,⟨d,h,k⟩⟩
def CI.d(q:CI K x C)(a:K.In h)(G:h.Ns mainGlobals mg)(m:Np K C "__init__" b):ClsAt K mg x C b:=by
 let⟨c,d,e,f,g,mk,i⟩:=q;let⟨j,k,l⟩:=m;exact⟨⟨d,e,f,g⟩,mg_of a G c,⟨mk,j,k,i⟩⟩
end
end _gn
namespace _cN
open Spec Rows _L2
theorem mE{a b:Type}{c:a->b->Prop}:∀ {d:List a} {f:List b} {i:Nat} {x:a},Paired c d f->d[i]?=⇑x->∃ y,f[i]?=⇑y/\c x y
 | _,_,_,_,.nil,e=>by simp at e
 | _,_,0,_,.cons r _,e=>by simp at e;subst e;exact⟨Y,r⟩
 | _,_,i+1,x,.cons _ t,e=>by
  let⟨y,g,h⟩:=mE (i:=i) (x:=x) t (by simpa using e);exact⟨y,by simpa using g,h⟩
theorem xr{b a:Type}{c:b->a->Prop}:∀ {d:List b} {f:List a} {i:Nat} {y:a},Paired c d f->f[i]?=⇑y->∃ x,d[i]?=⇑x/\c x y
 | _,_,_,_,.nil,e=>by simp at e
 | _,_,0,_,.cons r _,e=>by simp at e;subst e;exact⟨Y,r⟩
 | _,_,i+1,y,.cons _ t,e=>by
  let⟨x,g,h⟩:=xr (i:=i) (y:=y) t (by simpa using e);exact⟨x,by simpa using g,h⟩
section
variable {X:Cx} {N:UV} {scope:Scope} {cl:List (Str × Addr)} {C:Addr} {s₀:Shared} {H₀:Hp} {ex:WF} {pn:List (Addr × Obj)} {e:Expr} {ta:TE} {f:Str} {pos:Pos}
theorem Kf(a:PE (iX X N scope cl C s₀ H₀ ex pn) e ta)(b:attributeBase e f (iX X N scope cl C s₀ H₀ ex pn).env (eval e (iX X N scope cl C s₀ H₀ ex pn).env)=eval e (iX X N scope cl C s₀ H₀ ex pn).env):PE (iX X N scope cl C s₀ H₀ ex pn) (.Attribute e f pos) (Zg X.K ta f):=cI a b
end
end _cN
namespace _cN
open Spec Rows _L2 _gn _vO
def WH(d e f:TE):TE:=fun a H Q=>d a H λx c=>∃ b,x=↥b/\gb c b/\e a c λy c=>f a c λz c=>∃ a k,c b=⇑(.dK a)/\y=kV k/\↑a<sizeLine/\
 (∀ v,cG a k=⇑v->Q v c)/\(cG a k=none->Q z (aO c b (.dK (eO a k z))))
def OG{a:Cx}{o e f:Expr}{l n p:TE}(y:PE a o l)(A:PE a e n)(B:PE a f p)(m:M2 a o "setdefault" C e f D):PE a (.Call (.Attribute o "setdefault" C) [e,f] [] D) (WH l n p):=by
 intro g s h H Q I F;refine wpAny_Call_method m.zt m.few m.line PySem.F.plainAttrs_dict PySem.F.slot_dict_setdefault PySem.F.type_dict_setdefault (dF (y g s h H _ I F) λG J F=>?_);let⟨H,L,q,M,i,N,O,R⟩:=F;subst N;obtain rfl:G=Value.ref i:=M;let⟨F,G,_⟩:=Oh q O;exists F,G;rw[m.trees]
 refine Calls.callWith_builtin rfl (Calls.evalArgs_plain (Calls.spliced_cons (dF (A g J h L _ q R) λI q ⟨J,F,G,S,H⟩ =>
  Calls.spliced_cons (dF (B g q h F _ G H) λb d ⟨z,T,j,t,c,k,u,U,g,W,X⟩=>Calls.spliced_nil ?_))))
 subst U;let⟨q,v,h,d,g⟩:=Of j.hok u;let q:=↑d;refine call_meetsIn PySem.F.slot_dict_setdefault g.typeIs PySem.F.entry_dict_setdefault (PySem.F.args_dict_setdefault_3 _ _ _) (kt_meets_setdefault (fC a.prog a.w) i (zm S) v b) ⟨h,g,Q,λh g=>?_,λhn h' x hs=>?_⟩
 ·let r:=d.val k;rw[g]at r
  cases b:cG c k with
  | none=>rw[b]at r;exact (show False from r).elim
  | some w =>
   rw[b]at r;exact⟨w,T,j.tok _,r,W w b⟩
 ·let r:=d.val k;rw[hn]at r
  cases b:cG c k with
  | some w=>rw[b]at r;exact (show False from r).elim
  | none =>
   let g:↑(eO c k z)<=sizeLine:=by have:=iE c k z;lia
   let c:∃ q,h'.get? i=⇑q:=let ⟨q,P,h,_⟩:=x;⟨q,h⟩;exact⟨z,_,xY j (by rw[u];exact True.intro) hs c (HQ g v (d.put k t) x),t,X b⟩
end _cN
namespace _cN
open Spec Rows _L2
end _cN
namespace _cN
open Spec Rows _L2 _gn _vO
end _cN
namespace _eU
open Spec Rows PySem.W _L2
end _eU
namespace _cN
open Spec Rows _L2 _eU
def qZ(c:Nat):V:=.str ⟨(List.toArray [c])⟩
def fH(a:List Nat):Str:=⟨a.toArray⟩
def oJ(x:Str):fH x.cps.toList=x:=by cases x;rfl
def oK(a:List Nat):↑(fH a)=↑a:=by show (a.toArray).size=_;simp
def Sy{a b:List Nat}(h:fH a=fH b):a=b:=by
 let e:=congrArg (λx:Str=>x.cps.toList) h;simpa [fH] using e
theorem Kg:∀ {a:List Nat} {b:WP},cD (a.map qZ) b->StrsAre b (a.map λc=>(⟨(List.toArray [c])⟩:Str))
 | [],_,.nil=>.nil
 | c::a,_,.cons ⟨t,e⟩ r=>by
  subst e;exact .cons _ t (Kg r)
def Ii(a:List Nat):Txt.join (Str.ofString "") (a.map λc=>(⟨(List.toArray [c])⟩:Str))=fH a:=by
 let e:Txt.join (Str.ofString "") (a.map λc=>(⟨(List.toArray [c])⟩:Str))=Str.join (Str.ofString "") (a.map λc=>(⟨(List.toArray [c])⟩:Str)):=by
  let z:=join_plain_closes (Str.ofString "") (a.map λc=>(⟨(List.toArray [c])⟩:Str));exact beq_iff_eq.mp z
 rw[e];let b:(Str.ofString "")=(⟨#[]⟩:Str):=by decide +kernel
 rw[b];clear e b
 induction a with
 | nil=>rfl
 | cons c a f =>
  cases a with
  | nil=>rfl
  | cons d a =>
   rw[jq]at f;let s:Str.join ⟨#[]⟩ ((c::d::a).map λc=>(⟨(List.toArray [c])⟩:Str))=Str.append (Str.append ⟨(List.toArray [c])⟩ ⟨#[]⟩) (Str.join ⟨#[]⟩ ((⟨(List.toArray [d])⟩:Str)::a.map λc=>(⟨(List.toArray [c])⟩:Str))):=rfl;rw[s,f];show (⟨((List.toArray [c])++#[])++(d::a).toArray⟩:Str)=⟨(c::d::a).toArray⟩;simp
theorem Cb:∀ a:List Nat,(a.map ((λx:Str=>↑x) ∘ λc=>(⟨(List.toArray [c])⟩:Str))).sum=↑a
 | []=>rfl
 | c::a=>by rw[jq,List.sum_cons,Cb a,eZ];show 1+_=_;lia
theorem all_range:∀ a:List Bool,(List.range ↑a).all (λi=>a.getD i false)=a.all id
 | []=>rfl
 | b::a=>by
  rw[eZ,List.range_succ_eq_map,List.all_cons,List.all_map,List.all_cons,← all_range a];rfl
section
variable {X:Cx}
def AJ(p:X.calm=true):jN X (.type "list") (λi H Q=>∃ a:List Nat,i=[.str (fH a)]/\↑a<=sizeLine/\∀ l,H l=none->Q ↥l (aO H l (.lst (a.map qZ)))):=by
 intro A s B H i b Q I r q;let⟨a,rfl,k,t⟩:=q;let⟨u,rfl,w,rfl⟩:=r.one;refine call_list_str (I.ok.hd p) (fH a) w (hn:=by show a.toArray.size<=_;simpa using k) λA q m e r w n=>?_;refine⟨↥s.heap.objs.size,_,I.laid (o:=.lst (a.map qZ)) (t':=q) r (fk _) ⟨by rw[cC];exact k,m.toList,e,?_,by simpa using w⟩,1,t _ (I.hok.fresh (fk _))⟩
 let x:∀ (a:List Nat) (b:WP),↑b=↑a->(∀ (j:Nat) (v:Value),b[j]?=⇑v->∃ c u,a[j]?=⇑c/\v=Value.str ⟨(List.toArray [c])⟩ u)->cD (a.map qZ) b:=by
  intro a
  induction a with
  | nil=>intro b d _;cases b with
   | nil=>exact .nil
   | cons=>simp at d
  | cons c a y=>intro b d o;cases b with
   | nil=>simp at d
   | cons u b =>
    let⟨e,z,f,g⟩:=o 0 u rfl;refine .cons ?_ (y b (by simpa using d) λj v h=>by simpa using o (j+1) v (by simpa using h));have:c=e:=by simpa using f
    subst this;exact⟨z,g⟩
 refine x a m.toList (by have:=n.1;simpa [fH] using this) λj v h=>?_;let⟨c,u,f,g⟩:=n.2 j v (by simpa using h);exact⟨c,u,by simpa [fH] using f,g⟩
def zF:Yn X "str.join" (λx b H Q=>∃ (l:Addr) (a:List Nat),x=.str ""/\b=[↥l]/\H l=⇑(.lst (a.map qZ))/\↑a<=1000000/\Q (.str (fH a)) H):=by
 intro g s i H x b v j Q I c d h;let⟨l,a,rfl,rfl,e,g,q⟩:=h;let⟨t,rfl⟩:=c;let⟨u,rfl,f⟩:=d.one;cases (show u=Value.ref l from f);let⟨f,c,d,_⟩:=I.list (bM.of (K:=X.K) e);refine join_list d.isList (Kg c) ?_ λc k=>?_
 ·rw[List.map_map];let d:↑(Str.ofString "")=0:=by decide +kernel
  let e:=Cb a;rw[d,e];lia
 ·rw[Ii];exact⟨.str (fH a),H,I.tok _,⟨c,1⟩,q⟩
def LO(k:X.calm=true):jN X (.builtin "all") (λf H Q=>∃ (p:Addr) (a:List Bool),f=[↥p]/\bM X.K H p (a.map V.bl)/\Q (.bl (a.all id)) H):=by
 intro B s C H f D Q I r l;let⟨p,a,rfl,m,q⟩:=l;let⟨u,rfl,n⟩:=r.one;cases (show u=Value.ref p from n);let⟨b,g,l,n⟩:=I.list m;let h:=↑g;rw[cC]at h;let d:=l.isList
 let l:p<s.heap.objs.size:=by
  let⟨o,c,_⟩:=d;exact Heap.lt_size c
 refine call_all_walk (wpAny_pyIter_list d ?_);refine⟨s.heap.objs.size,[s.heap.objs.size,p],[s.heap.objs.size],b.toArray.size,P,λi=>a.getD i false,1,Walks.list (A:=X.A.in1) (I.ok.hd k) s.heap.objs.size p (jK l) b.toArray,⟨⟨_,Heap.get?_push_size _ rfl,V⟩,d.at λo e=>Heap.get?_push_of_some _ e⟩,λi v t w l d x=>?_,λl m y=>?_⟩
 ·let l:b[i]?=⇑v:=by simpa using d
  let⟨d,j,z⟩:=xr g l;rw[lD]at j;let⟨c,A,rfl⟩:=Option.map_eq_some_iff.mp j;cases (show v=Value.bool c from z);refine wpAny_truthy_bool ?_;let e:a.getD i false=c:=by rw[List.getD_eq_getElem?_getD,A];rfl
  let d:w (a.getD i false) t:=x;rw[e]at d;exact d
 ·let e:(List.range b.toArray.size).all (λi=>a.getD i false)=a.all id:=by
   rw[ie,← h];exact all_range a
  rw[e];exact⟨.bl (a.all id),H,I.kept λc o e=>y c o (λz=>by rw[List.mem_singleton.mp z]at e;exact absurd (Heap.lt_size e) (Nat.lt_irrefl _)) (Heap.get?_push_of_some _ e),1,q⟩
def OH(r e f:R2)(g h i j:TE):TE:=fun a H Q=>g a H λx b=>h a b λy b=>r x y b λz b=>∃ k,z=.bl k/\
 (if k=true then i a b λu c=>e y u c λk c=>∃ d,k=.bl d/\(if d=true then j a c λv a=>f u v a Q else Q (.bl false) c) else Q (.bl false) b)
theorem LP{c d e:CmpOp}{r i j:R2}{k f g h:Expr}{l m n o:TE}(A:qY X (compareOp c) r)(B:qY X (compareOp d) i)(C:qY X (compareOp e) j)(D:PE X k l)(G:PE X f m)(H:PE X g n)(I:PE X h o)
  (J:lastMarks [c,d,e] [f,g,h]=false:=by with_unfolding_all rfl):PE X (.Compare k [c,d,e] [f,g,h] ab) (OH r i j l m n o):=by
 intro a s b F Q L M
 refine Compare_chain (dF (D a s b F _ L M) λF L ⟨M,N,O,R,S⟩=>chain_link (dF (G a L b N _ O S) λu L ⟨y,N,O,p,S⟩ =>
  dF (A a L b N M y F u _ O R p S) λz w ⟨x,q,t,T,U,W,v⟩=>?_)) J
 subst W;cases T;refine wpAny_truthy_bool ?_
 cases U with
 | false=>exact ite_ff ⟨.bl false,q,t,1,v⟩
 | true =>
  refine ite_tt (chain_link (dF (H a w b q _ t v) λq F ⟨t,L,M,v,N⟩=>dF (B a F b L y t u q _ M p v N) λu s5 p=>?_));let⟨u,w,x,r5,k5,e5,z⟩:=p;subst e5;cases r5;refine wpAny_truthy_bool ?_
  cases k5 with
  | false=>exact ite_ff ⟨.bl false,w,x,1,z⟩
  | true=>exact ite_tt (chain_last (dF (I a s5 b w _ x z) λp u ⟨w,x,y,z,F⟩=>C a u b x t w q p Q y v z F))
end
def gz(a:List Nat):It:=⟨λi _=>i<↑a,λi H x b=>b=H/\∃ c,a[i]?=⇑c/\x=qZ c,λi _=>i=↑a⟩
theorem Fj{P:Program}{w:World}{K:Frag}{a:Addr}{b:List Nat}{t:Tok}{g:String}(W:∀ C:Around,C.handled=none->Walks P w C a [a] [a] (fH b).cps.size (SignAt (fH b)) (λi h=>h.IsStrIter a g (fH b) t i))
  (J:∀ (L:Around) (i:Nat) (s:Shared) (Q:ZB) (E:ZB),s.heap.IsStrIter a g (fH b) t i->Q ↥a s->wpAny (model P w) L (pyIter ↥a) Q E s)
  (M:["enumerate","zip","dict_itemiterator","dict_reverseitemiterator","odict_iterator","itertools.zip_longest","itertools.pairwise"].contains g=false):Hg P w K tg (gz b) [a] a (λi h=>h.IsStrIter a g (fH b) t i) where
 mem:=by simp
 obj:=λi h c d f=>by
  let e:d=a:=by simpa using f
  subst e;let⟨o,e,l,j⟩:=c;exact⟨o,e,λN z=>by rw[j]at z;cases z⟩
 keep:=λi h j c O=>by
  let⟨o,e,r⟩:=c;exact⟨o,O a (by simp) o e,r⟩
 item:=by
  intro X m n p q i D s F H E I k c r;subst m n p;let⟨u,v,R,x,y,z⟩:=k a (by simp)
  let O:i<(fH b).cps.size:=by
   show i<b.toArray.size;rw[ie];exact r
  refine (W X.A (I.ok.hd q)).item i s _ _ O c λN j A S G B=>?_;let⟨l,T,U,rfl⟩:=S;have N:Inv X D F H { s with heap:=j,toks:=A }:=I.turned (λd o f e=>B d o (by simpa using f) e) u v x y z;let⟨S,e,o,O⟩:=id G;exact⟨Y,EF (s:={ s with heap:=j,toks:=A }) e o O M ⟨qZ l,H,N,⟨T,1⟩,⟨1,l,by simpa [fH] using U,1⟩,G,λd f=>(k d f).1⟩⟩
 done:=by
  intro X m n p q i D s F H E I k c r;subst m n p;let⟨u,v,R,x,y,z⟩:=k a (by simp)
  let e:i=(fH b).cps.size:=by
   show i=b.toArray.size;rw[ie];exact r
  rw[e]at c;exact (W X.A (I.ok.hd q)).done s _ _ c λj A B=>⟨1,I.turned (λd o f e=>B d o (by simpa using f) e) u v x y z⟩
 self:=J
def p4(b:TE):TI:=fun a H R=>b a H λx c=>∃ a,x=.str (fH a)/\R (gz a) c
def WI{d:Cx}{l:Expr}{i:TE}(n:PE d l i):PI d x l (p4 i):=by
 intro j s o H R I h;refine dF (n j s o H _ I h) λr a o=>?_;let⟨y,f,c,p,r⟩:=o;let⟨u,e,q⟩:=r;subst e;let⟨t,rfl⟩:=p
 let k:∀ b∈[a.heap.objs.size],ou d j f b:=λb j=>by
  let e:b=a.heap.objs.size:=by simpa using j
  subst e;exact c.KU (fk _) (c.hok.fresh (fk _))
 cases m:(fH u).cps.all (·<128) with
 | true=>exact wpAny_pyIter_ascii m ⟨a.heap.objs.size,[a.heap.objs.size],P,f,1,c.kept (t':=a.toks) λb v e=>Heap.get?_push_of_some _ e,Fj (t:=t) (λw g=>Walks.strAscii g _ _ t) (λ_ _ _ _ _ g h=>wpAny_pyIter_striter_ascii g h) (by decide),⟨_,Heap.get?_push_size _ rfl,V⟩,k,q⟩
 | false=>exact wpAny_pyIter_wide m ⟨a.heap.objs.size,[a.heap.objs.size],P,f,1,c.kept (t':=a.toks) λb v e=>Heap.get?_push_of_some _ e,Fj (t:=t) (λw g=>Walks.strWide g _ _ t) (λ_ _ _ _ _ g h=>wpAny_pyIter_striter_wide g h) (by decide),⟨_,Heap.get?_push_size _ rfl,V⟩,k,q⟩
theorem LQ{a:List Nat}{j:TG}{tt:TT}{k:TE}{l:_L2.St}{H:Hp}{Q:VK}(c:Nat->_L2.St->Hp->Prop)(q:c 0 l H)
  (r:∀ (i:Nat) d b H,a[i]?=⇑d->c i b H->j (qZ d) b H fun e t=>tt e t λu m=>if u=true then k e m λv n=>∃ f,n g=⇑(.lst f)/\↑f<sizeLine/\c (i+1) e (aO n g (.lst (f++[v]))) else c (i+1) e m)
  (w:∀ b H,c ↑a b H->Q ↥g H):qL (gz a) g j tt k l H Q:=by
 refine⟨λi o b H=>o=↑a-i/\i<=↑a/\c i b H,⟨↑a,by simp,Nat.zero_le _,q⟩,?_⟩;rintro i o b H ⟨rfl,o,p⟩;by_cases o:i<↑a
 ·refine .inr ⟨o,c (i+1),fun A s x=>⟨↑a-(i+1),Q,1,o,x⟩,λx s y=>?_⟩;let⟨h,d,y,z⟩:=y;subst h z;exact r i d b _ y p
 ·let h:i=↑a:=by lia
  subst h;exact .inl ⟨1,w b H p⟩
end _cN
namespace _cN
open Spec Rows _L2 _eU _gn
section
variable {X:Cx}
def Dc(a b:List Nat):fH a++fH b=fH (a++b):=by
 show (⟨a.toArray++b.toArray⟩:Str)=⟨(a++b).toArray⟩;simp
end
end _cN
namespace _sZ
end _sZ
namespace _sZ
open Spec Rows
end _sZ
namespace _sZ
open Spec Rows
end _sZ
namespace _sZ
open Spec Rows
end _sZ
namespace _sZ
open Spec Rows
end _sZ
namespace _sZ
open Spec Rows
end _sZ
namespace _sZ
open Spec Rows
end _sZ
namespace _sZ
open Spec Rows _L2
end _sZ
namespace _iW
open Spec Rows _L2 _cN Builtin Builtin.Str
def uG(a:List Nat):(fH a).cps.toList=a:=by simp[fH]
def jn(c:Nat):gQ->List Nat
 | []=>[]
 | [x]=>x
 | x::y::r=>x++c::jn c (y::r)
theorem OI(c:Nat):∀ a:gQ,Str.join ⟨(List.toArray [c])⟩ (a.map fH)=fH (jn c a)
 | []=>rfl
 | [x]=>rfl
 | x::y::r=>by
  show fH x++⟨(List.toArray [c])⟩++Str.join ⟨(List.toArray [c])⟩ ((y::r).map fH)=_;rw[OI c (y::r)];refine ext_toList ?_;rw[uG];show ((fH x).cps++(List.toArray [c])++(fH (jn c (y::r))).cps).toList=_;rw[Array.toList_append,Array.toList_append,uG,uG];simp[jn]
end _iW
namespace _iW
open Spec Rows _L2 _cN Builtin Builtin.Str
section
variable {X:Cx}
theorem Cc:∀ {a:UV} {b:WP},cD (a.map V.str) b->StrsAre b a
 | [],_,.nil=>.nil
 | _::_,_,.cons r t=>by
  let⟨c,rfl⟩:=r;exact .cons _ c (Cc t)
def Fl:Yn X "str.join" (λx b H Q=>∃ (l:Addr) (c:Nat) (a:gQ),x=.str ⟨(List.toArray [c])⟩/\b=[↥l]/\H l=⇑(.lst (a.map λw=>V.str (fH w)))/\(a.map List.length).sum+↑a<=1000000/\Q (.str (fH (jn c a))) H):=by
 intro k s m H x b v n Q I d e h;let⟨l,c,a,rfl,rfl,f,k,q⟩:=h;let⟨t,rfl⟩:=d;let⟨u,rfl,g⟩:=e.one;cases (show u=Value.ref l from g);let⟨d,e,g,_⟩:=I.list (bM.of (K:=X.K) f);let f:cD ((a.map fH).map V.str) d:=by rw[List.map_map];exact e
 refine join_list g.isList (Cc f) ?_ λi k=>?_
 ·rw[List.map_map,cC];let j:↑(⟨(List.toArray [c])⟩:Str)=1:=rfl;let d:a.map ((λx:Str=>↑x) ∘ fH)=a.map List.length:=List.map_congr_left λp _=>oK p;rw[j,d];lia
 ·let e:Txt.join ⟨(List.toArray [c])⟩ (a.map fH)=fH (jn c a):=by
   show glued _ _=_;rw[StrLaws.glued_eq_join,OI]
  rw[e];exact⟨.str (fH (jn c a)),H,I.tok _,⟨i,1⟩,q⟩
abbrev fe:=_L2.St->Hp->Str->(Str->Hp->Prop)->Prop
def Yv(X:Cx)(d:List Expr)(m:Nat)(t:fe):Prop:=∀ (c:List (Addr × Obj)) (s:Shared) (a:_L2.St) (H:Hp) (b:Str) (Q:Str->Hp->Prop),_L2.Inv X c a H s->t a H b Q->↑b+m<=1000000->
 wpAny (model X.prog X.w) X.A (joinParts b (evalEach d X.env)) (λu e=>∃ x f b,u=.str x f/\_L2.Inv X c a b e/\Q x b) X.xe s
theorem Sz:Yv X [] 0 (λ_ H a Q=>Q a H):=λc s d H a Q I h b =>
 joinParts_nil ⟨a,_,H,1,I.tok _,h⟩ (gJ (Nat.lt_of_le_of_lt b (by decide)))
def SA{x:Str}{j:Nat}{b:List Expr}{m:Nat}{t:fe}(h:Yv X b m t):Yv X (.Constant (.str x) j f::b) (↑x+m) (fun a H c Q=>t a H (c++x) Q):=by
 intro d s a H c Q I q e;refine joinParts_consE (joinParts_cons (Calls.Constant_str ?_));let z:=_eU.J6 (y:=x) e (fk _);exact⟨z.1,h d _ a H _ Q (I.tok _) q z.2⟩
def Kh{e:Expr}{c:TE}{d:List Expr}{m:Nat}{t:fe}(j:PE X e c)(k:Yv X d m t):Yv X (.FormattedValue e (-1) none w::d) (1921+m) (fun a H f Q=>c a H λv b=>∃ i:Int,v=.int i/\i.natAbs.log2<1920/\t a b (f++Str.ofString (toString i)) Q):=by
 intro g s a H f Q I q l;refine joinParts_consE (joinParts_cons (FormattedValue_plain (dF (j g s a H _ I q) λv q n=>?_)));let⟨x,b,o,p,i,r,h,u⟩:=n;subst r;let⟨y,rfl⟩:=p;refine formatField_int_small h ?_;let z:=_eU.J6 (y:=Str.ofString (toString i)) l (int_text_len_1921 h);exact⟨z.1,k g _ a b _ Q (o.tok _) u z.2⟩
def OJ{c:List Expr}{m:Nat}{t:fe}(h:Yv X (d::e::c) m t)(k:m<=1000000:=by decide +kernel):PE X (.JoinedStr (d::e::c) l) (fun a H Q=>t a H Str.empty λx b=>Q (.str x) b):=by
 intro f s a H Q I q;refine JoinedStr_many (dF (h f s a H Str.empty _ I q (by show 0+m<=_;lia)) λu n f=>?_);let⟨x,n,b,g,i,j⟩:=f;subst g;exact⟨.str x,b,i,⟨Y⟩,j⟩
end
end _iW
namespace _iW
open Spec Rows _L2 _cN Builtin Builtin.Str
end _iW
namespace _iW
open Spec Rows _L2 _cN Builtin Builtin.Str _gn
def dg(n:Int):List Nat:=(Nat.toDigits 10 n.toNat).map Char.toNat
def ya{n:Int}(h:0<=n):Str.ofString (toString n)=fH (dg n):=by
 refine ext_toList ?_;rw[uG];obtain⟨m,rfl⟩:∃ m:Nat,n=(m:Int):=⟨n.toNat,Q⟩;exact PySem.W.KIN.signs_num m
def Ij{n:Int}(a:0<=n)(b:n<10^60):↑(dg n)<=60:=by
 have:=toString_length_le a (k:=60) (by decide) b;rw[ya a,oK]at this;exact this
end _iW
namespace _iW
open Spec Rows _L2 _cN Builtin Builtin.Str _gn
end _iW
namespace _p5
open Spec Rows PySem.W _L2 _cN _eU
end _p5
namespace _AK
open Spec Rows _L2 _cN _eU _gn
end _AK
namespace _AK
open Spec Rows _L2 _cN _eU _gn PySem.W
section
variable {X:Cx}
def p'{e:Expr}{f:TE}(j:PE X e f):PE X (.JoinedStr [.FormattedValue e (-1) none p] r) (fun c H Q=>f c H λv a=>(∃ i:Int,v=.int i/\i.natAbs.log2<1920/\Q (.str (Str.ofString (toString i))) a)\/∃ b:List Nat,v=.str (fH b)/\↑b<=100000/\Q (.str (fH b)) a):=by
 intro k s c H Q I q;refine JoinedStr_one (FormattedValue_plain (dF (j k s c H _ I q) λv q k=>?_));let⟨x,a,g,h,l⟩:=k;rcases l with ⟨i,rfl,m,d⟩|⟨b,rfl,n,d⟩
 ·let⟨o,rfl⟩:=h;exact formatField_int_small m ⟨.str _,a,g.tok _,⟨Y⟩,d⟩
 ·let⟨o,rfl⟩:=h;exact formatField_str (λh k=>⟨.str _,a,g.tok _,⟨Y⟩,d⟩) (by rw[oK];exact ig n (by decide))
end
end _AK
namespace _AK
open Spec Rows _L2 _cN _eU _gn _iW Builtin Builtin.Str
end _AK
namespace _AK
open Spec Rows _L2 _cN Builtin Builtin.Str _gn
end _AK
namespace _eU
open Spec Rows PySem.W _L2
end _eU
namespace _eU
open Spec Rows PySem.W _L2
section
variable {X:Cx} {ay:List (Addr × Obj)} {σ:_L2.St} {H:Hp} {s:Shared} {a:Addr}
variable {x m:Str} {st:Stmt} {ps:UV} {f C:Addr} {fd:FuncData} {j k:Nat} {sp:Sp} {e o:Expr} {es:List Expr} {ta:TE} {t:TA} {p jT pos:Pos} {pl:Sem Bool}
variable {te:Bn} {i:Nat} {z:Str} {iZ:Pos} {c:Expr} {tc:TT} {tx ty:Bv} {a b:Stmt} {hs:List Hd}
theorem qO{y:Str}(d:_gn.b9 X.K X.mg x st ps f fd)(g:X.mg y=⇑↥f)(G:bg X.prog X.w X.K X.mg X.zt cO k f fd ps sp)(h:iK j X.A)
  (l:PA X (e::es) t) (n:k<=j:=by first|decide|lia) (q:Gl X y:=by rfl) (r:(y == ("__debug__":Str))=false:=by decide) (u:starEach (e::es) X.env=(false,eval e X.env)::starEach es X.env:=by rfl)
  (v:(backTo pos (starEach es X.env)).any (·.1)=false:=by rfl):PE X (.Call (.Name y p) (e::es) [] pos) (JG sp [] E0 t) :=
 JI G (h.mono n) q g d.F.kp d.b .nil bL l r u v
end
end _eU
namespace _ny
open Spec Rows PySem.W _L2 _cN _eU
end _ny
namespace _ny
open Spec Rows PySem.W _L2 _cN _eU
open Builtin Builtin.ObjectAttr
end _ny
namespace _ny
open Spec Rows PySem.W _L2 _cN _eU
open Builtin Builtin.ObjectAttr
end _ny
namespace _ny
open Spec Rows PySem.W _L2 _cN _eU
end _ny
namespace _ny
open Spec Rows PySem.W _L2 _cN _eU
open Builtin Builtin.ObjectAttr
end _ny
namespace _ny
open Spec Rows PySem.W _L2 _cN _eU
end _ny
namespace _ny
open Spec Rows PySem.W _L2 _cN _eU
end _ny
namespace _ny
open Spec Rows PySem.W _L2 _cN _eU
end _ny
namespace _ny
open Spec Rows PySem.W _L2 _cN _eU
end _ny
namespace _ny
open Spec Rows PySem.W _L2 _cN _eU
end _ny
namespace _gn
open Spec Rows _L2 _cN _eU _vO
theorem hH{N P:UV}{a:Scope}(b:a.kind=.function:=by rfl)(c:a.isCoroutine=false:=by rfl)(d:a.isGenerator=false:=by rfl)(e:N.Nodup:=by decide +kernel)(f:N.take ↑P=P:=by rfl)(g:∀ x∈P,a.names.lookup x=⇑.local\/a.names.lookup x=⇑.cell:=by decide +kernel)(h:∀ y∈a.names,y.2≠.free:=by decide +kernel):qH N P a:=⟨b,c,d,e,f,g,h⟩
section
variable {P:Program} {w:World} {K:Frag} {mg:Ya} {zt:Heap}
theorem ef{x c:Str}{a:Stmt}{f:Addr}{d:UV}{k:Nat}{e:Sp}(N:UV)(j:Rv K x c a f l)
  (m:∀ (g:Value) (A:Around) (n:List Env) (s:Shared) (H:Hp) (b:List V) (Q:VK) (E:XK),iK k (A.deeper (envOfC c (b8 a) s.heap.objs.size f g))->N.Nodup->e b H Q E->
   ∃ t,Jz (CM cO P w K mg zt N c (b8 a) f g A n s H E).JA (jw a) t/\t { nx:=λ_ o=>Q .fQ o,rt:=Q } (_L2.start N b) H) (i:qH N d (b8 a):=by exact hH) (p:∀ b H Q E,e b H Q E->↑b=↑d:=by clean_wf):bg P w K mg zt cO (k+1) f l d e:=j.ok i p λq r u v y f z B h C=>m q r u v y f z B h i.nd C
end
section
variable {X:Cx}
theorem aY(i:Nat){x:Str}{e:Expr}{a:TE}{c b:Pos}(d:PE X e a)(g:X.N[i]?=⇑x:=by rfl)(h:Loc X.env.scope x:=by ac_rfl)(l:swapsWith e (some (.Name x b)) c.line X.env=pure false:=by rfl)(n:X.fn x=true\/X.env.scope.names.lookup x=⇑.local:=by bv_normalize)(p:X.N.Nodup:=by assumption) :
  PS X (.Assign [.Name x b] e c) (Nf a (qb i)):=VJ p g h d l n
theorem bV(i:Nat){x:Str}{c:Pos}(a:X.N[i]?=⇑x:=by rfl)(b:Loc X.env.scope x:=by ac_rfl)(d:X.fn x=true\/X.env.scope.names.lookup x=⇑.local:=by bv_normalize)(g:X.N.Nodup:=by bv_omega):PG X (.Name x c) (qb i):=Q7 g a b d
def aQ{r:R2}{a b:Expr}{ta d:TE}(g:VY X r)(h:PE X a ta)(i:PE X b d)(l:JP b:=by exact λ_ _=>rfl):PE X (.Subscript a b c) (Za r ta d):=Zo g h i l
def eS{o i:Expr}{a b:TE}(d:X.A.units+1<cLine)(g:PE X o a)(h:PE X i b)(l:Wy i:=by exact λ_ _=>rfl):PE X (.Subscript o i c) (UI a b):=RZ d g h l
theorem eY{e:Expr}{a:TE}{p:Pos}(d:X.mg "len"=none)(g:PE X e a)(h:Gl X "len":=by rfl)(b:starEach [e] X.env=(false,eval e X.env)::starEach [] X.env:=by rfl):PE X (.Call (.Name "len" p) [e] [] c) (fI (Wa X.K) (Nq a yz)):=cz CP h d PySem.boot_len (aa g ah (f:=b)) (by decide) (by decide) b rfl
variable {CX:Ld} {j k:Nat} {f C fi:Addr} {fd:FuncData} {ps:UV} {sp:Sp} {E:XK} {m cn q:Str} {st:Stmt} {c jT:Pos} {e o:Expr} {es:List Expr} {ta:TE} {t:TA} {pl:Sem Bool}
def cH(b:PE X o ta)(g:ClsAt X.K X.mg cn C fi)(d:cR X.K C m q st ps f fd)(h:bg X.prog X.w X.K X.mg X.zt CX k f fd ps sp)(i:iK j X.A)(l:nk CX X E)(n:PA X (e::es) t)(p:k<=j:=by first|decide|lia)
  (r:starEach (e::es) X.env=(false,eval e X.env)::starEach es X.env:=by rfl) (u:(backTo c (starEach es X.env)).any (·.1)=false:=by rfl)
  (v:eval (.Call (.Attribute o m jT) (e::es) [] c) X.env=(do
   let a ← eval o X.env
   standAt jT.atName
   let (f,first) ← holding [a] (getMethod a m pl)
   callWith c f first (backTo c (starEach (e::es) X.env)) (backToKw c (keywordEach [] X.env))):=by rfl) :
  PE X (.Call (.Attribute o m jT) (e::es) [] c) (JH C m sp [] E ta t):=Ri b g.cl d.mt h (i.mono p) d.b .nil l n r u v
def ff(b:PE X o ta)(g:ClsAt X.K X.mg cn C fi)(d:cR X.K C m q st ps f fd)(h:bg X.prog X.w X.K X.mg X.zt CX k f fd ps sp)(i:iK j X.A)(l:nk CX X E)(n:k<=j:=by first|decide|lia)
  (p:eval (.Call (.Attribute o m jT) [] [] c) X.env=(do
   let a ← eval o X.env
   standAt jT.atName
   let (f,first) ← holding [a] (getMethod a m pl)
   callWith c f first (backTo c (starEach [] X.env)) (backToKw c (keywordEach [] X.env))):=by rfl) :
  PE X (.Call (.Attribute o m jT) [] [] c) (JH C m sp [] E ta yz):=Nt b g.cl d.mt h (i.mono n) d.b .nil l p
end
def gK:0<=sizeLine:=by decide
def mF:1<=sizeLine:=by decide
def lG:2<=sizeLine:=by decide
def OL:3<=sizeLine:=by decide
def Dd:4<=sizeLine:=by decide
def WJ:5<=sizeLine:=by decide
def hJ:6<=sizeLine:=by decide
theorem tw{x:V}{r:List V}:oz (x::r) 0=⇑x:=cT (j:=0) rfl
theorem uH{x y:V}{r:List V}:oz (x::y::r) 1=⇑y:=cT (j:=1) rfl
theorem AL{x y z:V}{r:List V}:oz (x::y::z::r) 2=⇑z:=cT (j:=2) rfl
theorem AM{x y z u:V}{r:List V}:oz (x::y::z::u::r) 3=⇑u:=cT (j:=3) rfl
theorem SD{x y z u v:V}{r:List V}:oz (x::y::z::u::v::r) 4=⇑v:=cT (j:=4) rfl
theorem hP{x y z u v w:V}{r:List V}:oz (x::y::z::u::v::w::r) 5=⇑w:=cT (j:=5) rfl
end _gn
namespace _hT
open Spec Rows _L2 _cN
end _hT
namespace _gn
open Spec Rows _L2 _cN _eU _vO _hT
end _gn
namespace _AK
open Spec Rows _L2 _cN _eU _gn PySem.W
end _AK
namespace _ny
open Spec Rows PySem.W _L2 _cN _eU
end _ny
namespace _jM
open Spec Rows _L2 _cN
end _jM
namespace _jM
open Spec Rows _L2 _cN
end _jM
namespace _jM
open Spec Rows _L2 _cN
section
variable {prog:Program} {w:World} {A:Around} {E:ZB} {s:Shared} {z:X1} {key:Keyed->Nat} {kd:SortKind} {st:SortSt} {a b:X1}
end
end _jM
namespace _jM
open Spec Rows _L2 _cN
section
variable {prog:Program} {w:World} {A:Around} {E:ZB} {s:Shared} {z:X1} {key:Keyed->Nat} {kd:SortKind} {st:SortSt} {a b:X1}
end
end _jM
namespace _jM
open Spec Rows _L2 _cN
end _jM
namespace _jM
open Spec Rows _L2 _cN
end _jM
namespace _jM
open Spec Rows _L2 _cN
end _jM
namespace _jM
open Spec Rows _L2 _cN
section
variable {prog:Program} {w:World} {A:Around} {E:ZB} {s:Shared} {z:X1} {key:Keyed->Nat} {kd:SortKind} {st t:SortSt} {a b:X1} {lo hi:Nat}
end
end _jM
namespace _jM
open Spec Rows _L2 _cN
section
variable {prog:Program} {w:World} {A:Around} {E:ZB} {s:Shared} {z:X1} {key:Keyed->Nat} {kd:SortKind} {st t:SortSt}
end
end _jM
namespace _jM
open Spec Rows _L2 _cN
end _jM
namespace _jM
open Spec Rows _L2 _cN
end _jM
namespace _gn
open Spec Rows _L2 _cN _eU _vO _jM
end _gn
namespace _cN
open Spec Rows _L2
open _jM
end _cN
set_option Elab.async false
set_option linter.all false
set_option maxRecDepth 100000
namespace _gn
open _L2 _cN _eU _vO _WE
structure hU(mg:Ya):Prop where
 eL:mg "len"=none
 jg:mg "list"=none
 Kl:mg "tuple"=none
 UO:mg "int"=none
 Il:mg "bool"=none
 UP:mg "str"=none
 jd:mg "range"=none
 qs:mg "zip"=none
 dJ:mg "isinstance"=none
 UQ:mg "sum"=none
 Fp:mg "min"=none
 zG:mg "max"=none
 qX:mg "all"=none
 OM:mg "sorted"=none
 nA:∀ f,mg "size"=⇑↥f->mg "size_spans"=⇑↥f
 mG:∀ f,mg "shown"=⇑↥f->mg "shown_weave"=⇑↥f
section
variable {P:Program} {w:World} {K:Frag} {mg:Ya} {zt:Heap}
structure hV(mg:Ya):Prop where
 s:∃ t,mg "MOST_SHEETS"=⇑(.int 40 t)
 w:∃ t,mg "MOST_WEIGHT"=⇑(.int 200 t)
 h:∃ t,mg "HIDDEN"=⇑(.str "#" t)
structure Ds(K:Frag)(mg:Ya)(aZ:Nat->Addr)(bf:Nat->FuncData)(C CS CW CB CT CD:Addr):Prop where
 T:hU mg
 G:hV mg
 aM:ClsAt K mg "Library" C (aZ 58)
 cP:ClsAt K mg "Shelf" CS (aZ 42)
 iF:ClsAt K mg "Well" CW (aZ 53)
 jh:ClsAt K mg "Blots" CB (aZ 15)
 Cd:ClsAt K mg "Ties" CT (aZ 51)
 Fq:ClsAt K mg "Dues" CD (aZ 52)
 lF:gc K CS "states"
 lK:gc K CS "openings"
 sQ:gc K CW "signs"
 uy:gc K CW "owners"
 lN:gc K CW "pourings"
 j3:gc K CB "stains"
 CQ:gc K CT "given"
 CU:gc K CT "pairs"
 JX:gc K CD "sums"
 uz:gc K C "well"
 fE:gc K C "shelf"
 qv:gc K C "blots"
 CV:gc K C "knots"
 JY:gc K C "dues"
 EN:gc K C "book"
 hY:b9 K mg "_law_src" Bx ["_law_script"] (aZ 0) (bf 0)
 vh:b9 K mg "_law_next" yF Yi (aZ 1) (bf 1)
 hZ:b9 K mg "_law_whole" wQ ["_law_found"] (aZ 2) (bf 2)
 QJ:b9 K mg "_law_same" sJ zl5 (aZ 3) (bf 3)
 WL:b9 K mg "plain" NR ["row"] (aZ 4) (bf 4)
 WM:b9 K mg "size" NS ["row"] (aZ 5) (bf 5)
 Yw:b9 K mg "check_places" rF zl6 (aZ 6) (bf 6)
 WN:b9 K mg "pieces" JR zl6 (aZ 7) (bf 7)
 h8:b9 K mg "part" Uz zl6 (aZ 8) (bf 8)
 h9:b9 K mg "addresses" sL ["row"] (aZ 9) (bf 9)
 WO:b9 K mg "spread" JS ["row"] (aZ 10) (bf 10)
 WQ:b9 K mg "first_reaching" oU ["holes","start"] (aZ 11) (bf 11)
 ia:b9 K mg "within" JT ["holes","address"] (aZ 12) (bf 12)
 ih:b9 K mg "left_over" yG ["start","stop","holes"] (aZ 13) (bf 13)
 WR:b9 K mg "without" yH ["row","other"] (aZ 14) (bf 14)
 ii:cR K CB "__init__" "Blots.__init__" oV Bk (aZ 15) (bf 15)
 im:cR K CB "blot" "Blots.blot" wR ["self","row"] (aZ 16) (bf 16)
 io:cR K CB "lift" "Blots.lift" wV ["self","row"] (aZ 17) (bf 17)
 ip:cR K CB "hides" "Blots.hides" tZ ["self","address"] (aZ 18) (bf 18)
 iq:cR K CB "row" "Blots.row" yI Bk (aZ 19) (bf 19)
 WS:b9 K mg "windows" yJ ["items"] (aZ 20) (bf 20)
 WT:b9 K mg "below" Hz ["rows","sheets"] (aZ 21) (bf 21)
 iw:b9 K mg "way_between" t6 ["rows","start","goal"] (aZ 22) (bf 22)
 iT:b9 K mg "ring" UA zl7 (aZ 23) (bf 23)
 i3:b9 K mg "item_weight" t9 ["item","weights"] (aZ 24) (bf 24)
 i4:b9 K mg "weights_below" l6 ["rows","sheets"] (aZ 25) (bf 25)
 WU:b9 K mg "item_row" By ["item","views"] (aZ 26) (bf 26)
 ON:b9 K mg "views_below" oA ["rows","sheets"] (aZ 27) (bf 27)
 Im:b9 K mg "shown" NT zl7 (aZ 28) (bf 28)
 i5:b9 K mg "goes_on" EK ["one","other"] (aZ 29) (bf 29)
 LV:b9 K mg "plain_items" ua ["items"] (aZ 30) (bf 30)
 Ft:b9 K mg "inked" HE ["row"] (aZ 31) (bf 31)
 WV:b9 K mg "dealt" NU ["items","views"] (aZ 32) (bf 32)
 WW:b9 K mg "put_among" yK ["items","views","place","others"] (aZ 33) (bf 33)
 SH:b9 K mg "put_items" yL ["rows","sheet","place","items"] (aZ 34) (bf 34)
 WX:b9 K mg "parted" JU ["items","views","start","stop"] (aZ 35) (bf 35)
 i9:b9 K mg "cut_items" yM ["rows","sheet","start","stop"] (aZ 36) (bf 36)
 i':b9 K mg "moved_items" uc ["rows","sheet","start","stop","to"] (aZ 37) (bf 37)
 jl:b9 K mg "fixed_items" ud zl7 (aZ 38) (bf 38)
 SI:b9 K mg "ink_words" sM ["row"] (aZ 39) (bf 39)
 jp:b9 K mg "shown_deed" wW ["deed"] (aZ 40) (bf 40)
 WY:b9 K mg "changed" EL ["state","sheet","items"] (aZ 41) (bf 41)
 jr:cR K CS "__init__" "Shelf.__init__" oW Bk (aZ 42) (bf 42)
 OO:cR K CS "now" "Shelf.now" yN Bk (aZ 43) (bf 43)
 WZ:cR K CS "many" "Shelf.many" wX Bk (aZ 44) (bf 44)
 js:cR K CS "step" "Shelf.step" wY ["self","changes"] (aZ 45) (bf 45)
 De:cR K CS "check_sheet" "Shelf.check_sheet" l9 Ul (aZ 46) (bf 46)
 W0:cR K CS "check_moment" "Shelf.check_moment" kW ["self","moment"] (aZ 47) (bf 47)
 Xa:cR K CS "rows_then" "Shelf.rows_then" jV ["self","moment"] (aZ 48) (bf 48)
 Df:cR K CS "rows" "Shelf.rows" wZ Bk (aZ 49) (bf 49)
 B':cR K CS "row" "Shelf.row" yO Ul (aZ 50) (bf 50)
 j1:cR K CT "__init__" "Ties.__init__" qe Bk (aZ 51) (bf 51)
 j2:cR K CD "__init__" "Dues.__init__" qf Bk (aZ 52) (bf 52)
 j9:cR K CW "__init__" "Well.__init__" qg Bk (aZ 53) (bf 53)
 LW:cR K CW "size" "Well.size" yP Bk (aZ 54) (bf 54)
 j':cR K CW "pour" "Well.pour" yQ ["self","hand","text"] (aZ 55) (bf 55)
 ka:cR K CW "holds" "Well.holds" qh ["self","row"] (aZ 56) (bf 56)
 kb:b9 K mg "check_weave" ue zl7 (aZ 57) (bf 57)
 kc:cR K C "__init__" "Library.__init__" m6 Bk (aZ 58) (bf 58)
 OP:cR K C "enter" "Library.enter" qj ["self","deed","changes"] (aZ 59) (bf 59)
 Fv:cR K C "change" "Library.change" oX ["self","deed","sheet","items"] (aZ 60) (bf 60)
 kf:cR K C "many" "Library.many" rG Bk (aZ 61) (bf 61)
 kh:cR K C "begin" "Library.begin" qm ["self","deed","items"] (aZ 62) (bf 62)
 Xb:cR K C "fresh" "Library.fresh" qo Bk (aZ 63) (bf 63)
 rd:cR K C "ink" "Library.ink" ug Bk (aZ 64) (bf 64)
 Xc:cR K C "check_held" "Library.check_held" kX ["self","row"] (aZ 65) (bf 65)
 Xd:cR K C "pour" "Library.pour" rH ["self","hand","text"] (aZ 66) (bf 66)
 km:cR K C "put" "Library.put" uh ["self","sheet","place","row"] (aZ 67) (bf 67)
 OQ:cR K C "shown" "Library.shown" qp Ul (aZ 68) (bf 68)
 kr:cR K C "cut" "Library.cut" um ["self","sheet","start","stop"] (aZ 69) (bf 69)
 kv:cR K C "quote" "Library.quote" qt ["self","target","place","source","start","stop"] (aZ 70) (bf 70)
 Ch:cR K C "row" "Library.row" uo Ul (aZ 71) (bf 71)
 kw:cR K C "window" "Library.window" oY ["self","target","place","source"] (aZ 72) (bf 72)
 kx:cR K C "fix" "Library.fix" uq Ul (aZ 73) (bf 73)
 kz:cR K C "move" "Library.move" rJ ["self","sheet","start","stop","to"] (aZ 74) (bf 74)
 kA:cR K CW "check_address" "Well.check_address" kY ["self","address"] (aZ 75) (bf 75)
 kL:cR K CW "sign" "Well.sign" yR ["self","address"] (aZ 76) (bf 76)
 Xe:cR K C "veiled" "Library.veiled" kT ["self","row","veil"] (aZ 77) (bf 77)
 kS:cR K C "text" "Library.text" rK Ul (aZ 78) (bf 78)
 k0:cR K CS "check_then" "Shelf.check_then" m7 Yh (aZ 79) (bf 79)
 Xf:cR K C "shown_then" "Library.shown_then" kZ Yh (aZ 80) (bf 80)
 k':cR K C "text_then" "Library.text_then" mh Yh (aZ 81) (bf 81)
 lf:cR K C "now" "Library.now" uf Bk (aZ 82) (bf 82)
 lh:cR K CW "poured" "Well.poured" uu ["self","hand"] (aZ 83) (bf 83)
 Xg:cR K C "check_own" "Library.check_own" mj YL (aZ 84) (bf 84)
 lj:cR K C "blot" "Library.blot" rL YL (aZ 85) (bf 85)
 lm:cR K C "lift" "Library.lift" rM YL (aZ 86) (bf 86)
 lq:cR K C "hidden" "Library.hidden" oZ Bk (aZ 87) (bf 87)
 lw:b9 K mg "_law_sign" yS ["_law_src_here","_law_few"] (aZ 88) (bf 88)
 lx:b9 K mg "_law_text" sN ["_law_src_here","_law_many"] (aZ 89) (bf 89)
 SJ:b9 K mg "_law_world" qu [] (aZ 90) (bf 90)
 OR:b9 K mg "_law_keep" yT ["_law_world_here","_law_rows"] (aZ 91) (bf 91)
 Xh:b9 K mg "_law_swap" yU ["_law_rows","_law_sheet","_law_entries"] (aZ 92) (bf 92)
 Xi:b9 K mg "_law_spell" w9 ["_law_row"] (aZ 93) (bf 93)
 Dg:b9 K mg "_law_show" yV zl8 (aZ 94) (bf 94)
 lz:b9 K mg "_law_reached" rN zl8 (aZ 95) (bf 95)
 Xj:b9 K mg "_law_pieces" uv zl9 (aZ 96) (bf 96)
 OS:b9 K mg "_law_put" BA YM (aZ 97) (bf 97)
 Xk:b9 K mg "_law_cut" BB YN (aZ 98) (bf 98)
 Xl:b9 K mg "_law_weighed" rO zl8 (aZ 99) (bf 99)
 Km:b9 K mg "_law_row_of" ux ["_law_numbers"] (aZ 100) (bf 100)
 UR:b9 K mg "_law_fits" sO zl8 (aZ 101) (bf 101)
 US:b9 K mg "_law_after" xg ["_law_world_here","_law_deed_here"] (aZ 102) (bf 102)
 re:cR K C "back" "Library.back" rP Yh (aZ 103) (bf 103)
 UT:b9 K mg "_law_done" yW ["_law_house","_law_deed_here"] (aZ 104) (bf 104)
 OT:b9 K mg "_law_ink_row" rQ YO (aZ 105) (bf 105)
 UU:b9 K mg "_law_move_by" rR ["_law_src_here","_law_sheet","_law_room"] (aZ 106) (bf 106)
 UW:b9 K mg "_law_draw" yX YO (aZ 107) (bf 107)
 UX:b9 K mg "_law_deed" yY CC (aZ 108) (bf 108)
 UY:b9 K mg "_law_pour" sP CC (aZ 109) (bf 109)
 UZ:b9 K mg "_law_fresh" xh ["_law_world_here","_law_house"] (aZ 110) (bf 110)
 U0:b9 K mg "_law_begin" xj CC (aZ 111) (bf 111)
 OU:b9 K mg "_law_read" yZ ["_law_world_here","_law_numbers"] (aZ 112) (bf 112)
 U6:b9 K mg "_law_hide" oB CC (aZ 113) (bf 113)
 U7:b9 K mg "_law_then_right" nO CC (aZ 114) (bf 114)
def gA{b:Type}:List b->b->Nat->b
 | [],d,_=>d
 | a::_,_,0=>a
 | _::l,d,n+1=>gA l d n
theorem Io:‹(1,0,["_law_script"],(UD K))›:=λD=>by
 specialize ef ["_law_script"] D.hY.F;let⟨b,a,rfl,c,k⟩:=h;exists _,#v[aK (bO #[eV gm rfl D.T.jg su #[i6 lE (pv 0) mY (jb az)],az,az,az])]
 all_goals try dsimp only[aP,aG]
 refine⟨Y,Y,b,Y,c,λp g=>?_⟩;refine⟨p,Y,.inl (bM.of af),λc d=>?_⟩;refine⟨Dd,λl b=>?_⟩;let⟨i,j⟩:=N9 a none (some 63);let e:c≠l:=aA (H:=aO (aO H p _) c _) af b;let f:aI H (aO H p (.lst (j7 (a.map V.int) none (some 63)))):=ao g _;let g:=f.trans (ao d (.lst (j7 (a.map V.int) none (some 63))));refine k l c _ ⟨e,i,0,0,(1),af,?_,E,E,E⟩ (g.trans (ao b _)) (g.free b) (f.free d);rw[aL e,af,j]
theorem d8:‹(1,1,["_law_src_here","_law_base"],sU)›:=λD=>by
 specialize ef ["_law_src_here","_law_base","_law_cell","_law_digit"] D.vh.F;let⟨l,j,m,rfl,S,q,G,k⟩:=h;exists _,#v[vF (c:=Wn) (bR (aV gj (aQ bJ (pv 0) az) az (bz _)) #v[aY 2 az,vF (c:=Wq) (bR (aV jt (aQ bJ (pv 0) az) (eY D.T.eL (aQ bJ (pv 0) az)) (bz _)) #v[aY 2 (aQ bJ (aQ bJ (pv 0) az) (aQ bJ (pv 0) az)),lZ (bI dP (aQ bJ (pv 0) az) az) (oq (pv 0) az jv)] bq) ?y',lZ (bI yq (bI dP (bI dP (bI Hj (aQ bJ (pv 0) az) az) (bI yq (pv 2) az)) az) az) (oq (pv 0) az jv),bR (aV Uw (pv 2) (bI Nk az az) (bz _)) #v[lZ (pv 2) (oq (pv 0) az jv)] bq] bq) ?t',bR (aV yr (aQ bJ (pv 0) az) az (bz _)) #v[aY 3 (bI yq (aQ bJ (pv 0) az) (pv 1)),lZ (bI y9 (aQ bJ (pv 0) az) (pv 1)) (oq (pv 0) az jv),aK (pv 3)] bq,aK (bI yq (bI y9 (bI yq (bI Hj (aQ bJ (pv 0) az) az) az) az) (pv 1))]
 all_goals try dsimp only[aP,aG]
 case y' =>
  rintro D z H ⟨l,j,m,rfl,⟨b,f,i,g,r,a,d,n,o,p⟩,k⟩;exists Y,l,K,V,bM.of a,Wm,Y,l,K,V,bM.of a,ZS,j,Y,.inl (bM.of d),Z,Y;refine dD (λu=>?_) (λu=>?_)
  ·let s:i<(↑f:Int):=by
    let c:=of_decide_eq_true u;rwa [cC]at c
   let⟨v,w⟩:=RG n s;exists Y,l,K,V,bM.of a,ZS,Y,l,K,V,bM.of a,Wm,j,K,V,bM.of d,w;exists Y,l,K,V,bM.of a,Wm,Z,Y,l,P,(1),V,a,1;exact k v _ ⟨b,f,i+1,g,r,af,by rw[aL b];exact d,Q,o,p⟩ λe c=>aL c
  ·exact k 7 H ⟨b,f,i,g,r,a,d,n,o,p⟩ λe _=>rfl
 case t' =>
  rintro D z H ⟨l,j,m,rfl,S,k⟩;let⟨b,f,i,g,r,a,d,n,o,p⟩:=id S;exists Y,l,K,V,bM.of a,RC,Z,Y;refine dD (λw=>?_) (λw=>?_)
  ·refine⟨l,j,m,1,S,λv I x s=>?_⟩;let⟨_,y,z,J,A,B,C,F,L,M⟩:=id x;exists Y,l,K,V,bM.of B,ZT,Z,.inl ⟨Q,Q⟩,Y,Z,(by show (0:Int)<998244353;decide),Z,Z,Z,(by show (0:Int)<2147483647;decide),Y,l,P,3,V,B,1;exists Y,Z,⟨E,E,E⟩,Z,Y;let B:0<=(A*48271+v % 998244353+1) % 2147483647:=Int.emod_nonneg _ (by decide);let t:(A*48271+v % 998244353+1) % 2147483647<2147483647:=Int.emod_lt_of_pos _ (by decide);refine dD (λu=>?_) (λu=>?_)
   ·exists Y,Y,l,P,2,V,af,1;refine k _ _ ⟨b,y,z,v,_,af,?_,F,B,t⟩ λe c=>?_
    ·rw[aL b,aL b];exact C
    ·rw[aL c,aL c];exact s e c
   ·refine k _ _ ⟨b,y,z,J,_,af,?_,F,B,t⟩ λe c=>?_
    ·rw[aL b];exact C
    ·rw[aL c];exact s e c
  ·exact k none H S λe _=>rfl
 refine⟨l,j,m,1,S,λv I x s=>?_⟩;let⟨b,f,i,g,r,a,d,n,o,p⟩:=x;exists Y,l,K,V,bM.of a,RC,Z,Y;refine dD (λw=>?_) (λw=>?_)
 ·exists Y,l,K,V,bM.of a,RC,Y,Z,q;exists Y,l,K,V,bM.of a,RC,Y,Z,⟨q,G⟩,Y,l,P,2,V,a,1;exists Y;refine k (g % m) _ (Int.emod_nonneg _ ∅) (Int.emod_lt_of_pos _ q) ⟨b,f,i,g / m,r,af,?_,n,o,p⟩ λe c=>?_
  ·rw[aL b];exact d
  ·rw[aL c];exact s e c
 ·exists Y,l,K,V,bM.of a,ZT,Z,.inl ⟨Q,Q⟩,Z,(by show (0:Int)<2147483399;decide),Z,⟨E,E⟩,Y,Z,q;exact k _ _ (Int.emod_nonneg _ ∅) (Int.emod_lt_of_pos _ q) ⟨b,f,i,g,r,a,d,n,o,p⟩ s
theorem Fx:qH ["_law_found","_law_due","_law_one","_law_other"] ["_law_found","_law_due"] (b8 sJ):=hH
theorem Dh:‹(1,2,["_law_found"],J3)›:=λD=>by
 specialize ef ["_law_found"] D.hZ.F;let⟨i,rfl,k⟩:=h;exists _,#v[aK (om (cz dZ rfl D.T.dJ xD #[0,o6 rfl D.T.UO PyProof.Rows.boot_int]) (pY (VE (cz dZ rfl D.T.dJ xD #[0,o6 rfl D.T.Il PyProof.Rows.boot_bool]))))]
 all_goals try dsimp only[aP,aG]
 exact⟨Y,K,Y,j6.int i,ZW K,Y,iz ⟨Y,K,Y,j6.int i,ZV K,Y,k⟩⟩
def AN(D:Ds K mg g j L M N O T U){n:Nat}(q:bg P w K mg zt cO 1 (g 2) (j 2) ["_law_found"] J3)(r:bg P w K mg zt cO (n+1) (g 3) (j 3) ["_law_found","_law_due"] (vG n)):bg P w K mg zt cO (n+2) (g 3) (j 3) ["_law_found","_law_due"] (vG (n+1)):=by
 refine D.QJ.F.ok Fx (λt H Q E h=>?_) (λR S W s H t Q E m h=>?_)
 ·let⟨x,y,rfl,_⟩:=h;rfl
 let⟨x,y,rfl,h,o⟩:=h;exists _,#v[bR (CJ (CH (pv 1))) #v[aK (G7 (CH (pv 0)))] bq,bR (iU (cz dZ rfl D.T.dJ xD #[1,o6 rfl D.T.Il PyProof.Rows.boot_bool])) #v[aK (om (cz dZ rfl D.T.dJ xD #[0,o6 rfl D.T.Il PyProof.Rows.boot_bool]) (pY (j0 eK (pv 0) (pv 1) (bz _))))] bq,bR (iU (cz dZ rfl D.T.dJ xD #[1,o6 rfl D.T.UO PyProof.Rows.boot_int])) #v[aK (om (aC D.hZ q m #[0]) (pY (j0 eK (pv 0) (pv 1) (bz _))))] bq,bR (iU (cz dZ rfl D.T.dJ xD #[1,o6 rfl D.T.UP PyProof.Rows.boot_str])) #v[aK (om (cz dZ rfl D.T.dJ xD #[0,o6 rfl D.T.UP PyProof.Rows.boot_str]) (pY (j0 eK (pv 0) (pv 1) (bz _))))] bq,bR (PW.pt (Bo (aV JF (cz dZ rfl D.T.dJ xD #[1,o6 rfl D.T.jg su]) (cz dZ rfl D.T.dJ xD #[0,o6 rfl D.T.jg su]) (bz _)) (yo (aV JF (cz dZ rfl D.T.dJ xD #[1,o6 rfl D.T.Kl PyProof.Rows.boot_tuple]) (cz dZ rfl D.T.dJ xD #[0,o6 rfl D.T.Kl PyProof.Rows.boot_tuple]) (bz _))))) #v[aK lY] bq,bR (aV JF (eY D.T.eL (pv 0)) (eY D.T.eL (pv 1)) (bz _)) #v[aK lY] bq,eE PassesOwn.never rfl (Wk rfl D.T.qs #[0,1]) (kQ (n:=2) rfl (bT (bV 2) (bT (bV 3) gi))) #v[bR (ir (iU (aC D.QJ r m #[2,3]))) #v[aK lY] bq],aK lY]
 all_goals try dsimp only[aP,aG]
 let e:=o H (aI.refl H);rcases h with ⟨A,rfl⟩|⟨a,k,l,B,C,rfl,rfl,d,b,p,F⟩
 ·cases x with
  | fQ =>
   refine⟨Y,Y,dD (λ_=>?_) (λc=>absurd (decide_eq_true rfl) c)⟩;exact⟨Y,tt rfl e⟩
  | bl v =>
   refine⟨Y,Y,dD (λc=>absurd (of_decide_eq_true c) (λz=>nomatch z)) (λ_=>?_)⟩;refine⟨Y,K,Y,j6.bl v,ZU K,Y,iz ?_⟩;exact⟨Y,K,Y,j6.bl v,ZU K,Y,iz ⟨Y,Y,1,tt rfl e⟩⟩
  | int i =>
   refine⟨Y,Y,dD (λc=>absurd (of_decide_eq_true c) (λz=>nomatch z)) (λ_=>?_)⟩;refine⟨Y,K,Y,j6.int i,ZV K,Y,eT ?_⟩;refine⟨Y,K,Y,j6.int i,ZW K,Y,iz ?_⟩;exact⟨Y,i,1,Y,iz ⟨Y,Y,1,tt rfl e⟩⟩
  | str v =>
   refine⟨Y,Y,dD (λc=>absurd (of_decide_eq_true c) (λz=>nomatch z)) (λ_=>?_)⟩;refine⟨Y,K,Y,j6.str v,pb K,Y,eT ?_⟩;refine⟨Y,K,Y,j6.str v,pc K,Y,eT ?_⟩;refine⟨Y,K,Y,j6.str v,ZX K,Y,iz ?_⟩;exact⟨Y,K,Y,j6.str v,ZX K,Y,iz ⟨Y,Y,1,tt rfl e⟩⟩
  | _=>cases A
 ·refine⟨Y,Y,dD (λc=>absurd (of_decide_eq_true c) (λz=>nomatch z)) (λ_=>?_)⟩;refine⟨Y,K,Y,b.ty,pB K a,Y,eT ?_⟩;refine⟨Y,K,Y,b.ty,pE K a,Y,eT ?_⟩;refine⟨Y,K,Y,b.ty,pM K a,Y,eT ?_⟩;refine⟨Y,K,Y,b.ty,ZZ K a,Y,K,Y,d.ty,ZZ K a,1,Y,NP rfl ?_⟩;refine⟨Y,K,Y,b.ty,Z0 K a,Y,K,Y,d.ty,Z0 K a,1,Y,NP rfl ?_⟩;refine⟨Y,k,Y,d.or,Y,l,Y,b.or,1,Y,NP (by rw[p]) ?_⟩;refine⟨Y,Y,a,k,l,B,C,1,d.sq,b.sq,RA (λi f c=>∃ u v,f=[⇑↥k,⇑↥l,u,v]/\aI H c) p ⟨none,none,1,aI.refl H⟩ (by rintro i f c _ ⟨_,_,_,s⟩;exact⟨(d.same s).sq,(b.same s).sq⟩) ?_ ?_⟩
  ·rintro i u v z f c G I J ⟨_,_,rfl,s⟩;exists z,Y,dG.of af,1,u,[v],1,v,[],V;let a:=s.trans (ao J (.tup [u,v]));refine⟨Y,Y,u,v,1,Eqv.same a (F i u v G I),λd b=>⟨Y,eT ?_⟩⟩;exact⟨P,1,a.trans b⟩
  ·rintro f c ⟨_,_,rfl,s⟩;exact o c s
theorem ki(D:Ds K mg c d C e f g i j):∀ n:Nat,bg P w K mg zt cO (n+1) (c 3) (d 3) ["_law_found","_law_due"] (vG n)
 | 0=>by
  let b:∀ a H Q E,¬ vG 0 a H Q E:=λa H Q E h=>by
   let⟨x,y,_,h,_⟩:=h;exact h
  exact⟨λa H Q E h=>absurd h (b a H Q E),λA k s H args l a Q E _ _ _ _ h=>absurd h (b a H Q E)⟩
 | n+1=>AN D (Dh D) (ki D n)
theorem nV:‹(1,4,["row"],RE)›:=λD=>by
 refine ef ["row","told","start","stop"] D.WL.F λcZ A zn s H vs Q E hr _ h=>?_;let⟨w,row,rfl,⟨J,B,F⟩,R,k⟩:=h;refine⟨_,#v[aY 1 (bO ah),eE PassesOwn.never rfl (cJ (pv 0)) (kQ (n:=2) rfl (bT (bV 2) (bT (bV 3) gi))) #v[bR (aV eK (pv 2) (pv 3) (bz _)) #v[EE] bq,bR (PW.pt (pX (ju (pv 1) (λ_=>rfl)) (mX (aV eK (aQ bh (aQ bJ (pv 1) (gZ fD az)) az) (pv 2) (bz _))))) #v[lZ (cW #[aQ bh (aQ bJ (pv 1) (gZ fD az)) az,3]) (oq (pv 1) (gZ fD az) jv)] #v[aU (dM n9 jm jo bU (pv 1) #[cW #[2,3]])]],aK (pv 1)],?_⟩
 all_goals try dsimp only[aP,aG]
 refine⟨gK,λq g=>?_⟩;let s0:aI H (aO H q (.lst [])):=ao g _;refine⟨Y,w,1,⟨_,bM.of (s0 _ _ B)⟩,dO (K:=K) (e:=w) (b:=J.map V.ref) (λi u c=>∃ (d:WF) (x y:Option V),u=[⇑↥w,⇑↥q,x,y]/\c q=⇑(.lst (d.map V.ref))/\bC c d ((row.take i).foldl dh [])/\aI H c) ⟨[],none,none,1,af,.nil,s0⟩ (by rintro i u c _ ⟨_,_,_,_,_,_,s⟩;exact bM.of (s _ _ B)) ?_ ?_⟩
 ·rintro i S u c G ⟨d,x,y,rfl,a,b,s⟩;rw[lD]at G;let⟨L,M,rfl⟩:=Option.map_eq_some_iff.mp G;let⟨⟨f,j⟩,w,B⟩:=F.get M;let step:=BL (f:=dh) w
  let N:↑d<sizeLine:=by
   let z:=b.len;let e:=EX (row.take i) [];rw[gw]at e;exact aS (by simp only[oj]at e;lia)
  exists L,Y,dG.of (s _ _ B),1,P,1,Z;refine⟨Y,Y,1,Y,dD (λw=>?_) (λw=>?_)⟩
  ·let B:f=j:=V.int.inj (of_decide_eq_true w);refine⟨d,P,1,a,?_,s⟩;rw[step,dh,if_pos B];exact b
  ·let B:¬ f=j:=λz=>w (decide_eq_true (congrArg V.int z));rw[dh,if_neg B]at step;rcases kO ((row.take i).foldl dh []) with v|⟨i,C,v⟩
   ·rw[v]at b step;let o:d=[]:=List.eq_nil_of_length_eq_zero b.len;subst o;refine⟨Y,false,.inl ⟨_,bM.of a,1⟩,eT (eT ?_)⟩;refine⟨Y,.inl ⟨1,_,bM.of a⟩,Y,Y,lG,λt e=>⟨q,Z,ao e _ _ _ a,(by show 0<sizeLine;decide),?_⟩⟩;let⟨l,m,n⟩:=zh (c:=f) (d:=j) g s a b e;refine⟨[]++[t],P,1,l,?_,n⟩;rw[step,iA];exact m
   ·rw[jH]at v;rw[v]at b step;let⟨o,p,rfl,O,I⟩:=b.split;let r:c q=⇑(.lst (o.map V.ref++[↥p])):=by rw[a,gx];rfl
    refine⟨Y,true,.inl ⟨_,bM.of r,by simp⟩,iz ?_⟩;refine⟨Y,Y,q,K,V,bM.of r,gB _ _,p,K,V,dG.of I,HK,Y,1,Y,dD (λi=>?_) (λi=>?_)⟩
    ·let v:C.2=f:=V.int.inj (of_decide_eq_true i);refine⟨Y,Y,q,K,V,bM.of r,gB _ _,p,K,V,dG.of I,CY,Y,lG,λt e=>?_⟩;exists Y,Y,q,P,↑o,V,ao e _ _ _ r,HP o p;let⟨l,m,n⟩:=turned (st:=C.1) (en:=j) g s r O e;refine⟨o++[t],P,1,l,?_,n⟩;rw[step,i7 _ v];exact m
    ·let v:¬ C.2=f:=λz=>i (decide_eq_true (congrArg V.int z));refine⟨Y,.inl ⟨1,_,bM.of a⟩,Y,Y,lG,λt e=>⟨q,Z,ao e _ _ _ a,(by rw[cC];exact N),?_⟩⟩;let⟨l,m,n⟩:=zh (c:=f) (d:=j) g s a b e;refine⟨o++[p]++[t],P,1,l,?_,n⟩;rw[step,iB _ v];exact m
 ·rintro u c ⟨d,x,y,rfl,a,b,s⟩;refine⟨Y,k q c ⟨d,a,?_⟩ s g⟩;rw[cC,F.len,gG]at b;exact b
theorem Di:‹(1,5,["row"],Wu)›:=λD=>by
 specialize ef ["row"] D.WM.F;let⟨r,row,rfl,⟨i,e,f⟩,n,k⟩:=h;refine⟨_,#v[aK (cz (ES rfl) rfl D.T.UQ PyProof.Rows.boot_sum #[gC (N:=["start","stop"]) (jO (c:=b8 NS) (f:=["row"]) (d:=[none,none]) rfl rfl rfl nofun nofun rfl nofun rfl nofun) rfl (cJ (pv 0)) (λ_ _ _ _ _ _=>(qM (n:=2) rfl (bT (bV 0) (bT (bV 1) gi)))) (λ_ _ _ _ _ _=>gy) (λ_ _ _ _ _ _=>(bI cV (pv 1) (pv 0)))])],?_⟩
 all_goals try dsimp only[aP,aG]
 refine⟨Y,r,1,⟨_,bM.of e⟩,λd g=>gu (K:=K) (h:=r) (a:=i.map V.ref) (λi b a=>∃ u v:Option V,b=[u,v]/\a d=⇑(.lst (((row.take i).map λp=>p.2-p.1).map V.int))/\aI H a) ⟨none,none,1,af,ao g _⟩ (by rintro i b a _ ⟨_,_,_,_,s0⟩;exact bM.of (s0 _ _ e)) ?_ ?_⟩
 ·rintro i x b a j ⟨u,v,rfl,c,s0⟩;rw[lD]at j;let⟨l,m,rfl⟩:=Option.map_eq_some_iff.mp j;let⟨⟨j,n⟩,e,i⟩:=f.get m;refine⟨l,Y,dG.of (s0 _ _ i),1,P,1,Z,yes (iz ?_)⟩;refine⟨Y,Y,Z,_,c,?_,P,1,?_,bS g s0 (aH d _ _)⟩
  ·rw[cC,cC,gw];exact aS ∅
  ·rw[af,take_snoc e,gx,gx];rfl
 ·rintro b a ⟨u,v,rfl,c,s0⟩;rw[cC,f.len,gG]at c;exact⟨d,Y,bM.of c,k a s0⟩
class inductive OV
 | mk (r:Addr) (c:Row) (a b:Int) (_:vs=[↥r,.int a,.int b]) (_:bP H r c) (_:↑c<=1000000) (_:RV a b (jc c)) (_:∀ d,aI H d->Q .fQ d)
theorem gU:‹(2,6,["row","start","stop"],OV)›:=λD=>by
 specialize ef ["row","start","stop"] D.Yw.F;let⟨r,a,d,e,rfl,R,b,z,k⟩:=h;exists _,#v[bR (ir (Lw gj gj gj az (pv 1) (pv 2) (_eU.qO D.WM (D.T.nA _ D.WM.m) (Di D) hr #[0]))) #v[gS] bq]
 all_goals try dsimp only[aP,aG]
 exists Y,Z,Y;rw[decide_eq_true z.1];refine dD (λ_=>?_) (λc=>absurd rfl c);exists Y,Z,Y;rw[decide_eq_true z.2.1];refine dD (λ_=>?_) (λc=>absurd rfl c);refine⟨Y,r,a,1,R,b,λa b=>⟨Z,Y,?_⟩⟩;rw[decide_eq_true z.2.2];exact eT (k a b)
theorem qP:‹(1,7,["row","start","stop"],E2)›:=λD=>by
 refine ef ["row","start","stop","told","ahead","first","last","low","high"] D.WN.F λcZ A zn s H vs Q E hr _ h=>?_
 let⟨r,row,a,b,rfl,⟨x,o,p⟩,N,k⟩:=h;refine⟨_,#v[aY 3 (bO ah),aY 4 az,eE PassesOwn.never rfl (cJ (pv 0)) (kQ (n:=2) rfl (bT (bV 5) (bT (bV 6) gi))) #v[aY 7 (cz (lJ rfl) rfl D.T.zG PyProof.Rows.boot_max #[bI cV (pv 1) (pv 4),az]),aY 8 (cz (nK rfl) rfl D.T.Fp PyProof.Rows.boot_min #[bI cV (pv 2) (pv 4),bI cV (pv 6) (pv 5)]),bR (aV jt (pv 7) (pv 8) (bz _)) #v[aU (dM n9 jm jo bU (pv 3) #[cW #[bI dP (pv 5) (pv 7),bI dP (pv 5) (pv 8)]])] bq,sF (i:=4) (by assumption) rfl (Or.inl rfl) (bI cV (pv 6) (pv 5)) Ng],aK (pv 3)],?_⟩
 all_goals try dsimp only[aP,aG]
 refine⟨gK,λq m=>?_⟩;let s0:aI H (aO H q (.lst [])):=ao m _;refine⟨Y,r,1,⟨_,bM.of (s0 _ _ o)⟩,dO (K:=K) (e:=r) (b:=x.map V.ref) (λi l f=>∃ (d:WF) (t:Int) (u v x y:Option V),l=[⇑↥r,⇑(.int a),⇑(.int b),⇑↥q,⇑(.int t),u,v,x,y]/\t=jc (row.take i)/\f q=⇑(.lst (d.map V.ref))/\bC f d (kM a b 0 (row.take i))/\aI H f) ⟨[],0,none,none,none,none,V,af,.nil,s0⟩ (by rintro i l f _ ⟨_,_,_,_,_,_,_,_,_,_,s⟩;exact bM.of (s _ _ o)) ?_ ?_⟩
 ·rintro i x l f w ⟨d,t,u,v,B,C,rfl,n,g,j,s⟩;rw[lD]at w;let⟨F,G,rfl⟩:=Option.map_eq_some_iff.mp w;let⟨⟨c,e⟩,o,I⟩:=p.get G;let step:=EY a b (c,e) (row.take i) 0;rw[← take_snoc o,Int.zero_add,← n]at step;let y:t+(e-c)=jc (row.take (i+1)):=by rw[take_snoc o,N7,n]
  let J:↑d<sizeLine:=by
   let z:=j.len;let o:=jX a b (row.take i) 0;rw[gw]at o;exact aS ∅
  let L:(if (0:Int) > a-t then (0:Int) else a-t)=max (a-t) 0:=by split <;> lia
  let M:(if e-c<b-t then e-c else b-t)=min (b-t) (e-c):=by split <;> lia
  exists F,Y,dG.of (s _ _ I),1,P,1,Z;exists Y,Y,Z,P,1;exists Y,Y,Z,Y,Y,Z,P,1;rw[L,M];refine⟨Y,Y,Z,Y,dD (λi=>?_) (λi=>?_)⟩
  ·let o:max (a-t) 0<min (b-t) (e-c):=of_decide_eq_true i;unfold Od at step;rw[if_pos o]at step;refine⟨Y,.inl ⟨1,_,bM.of g⟩,Y,Y,Z,Y,Y,Z,lG,λw r=>⟨q,Z,ao r _ _ _ g,(by rw[cC];exact J),?_⟩⟩;let⟨x,z,F⟩:=zh (c:=c+max (a-t) 0) (d:=c+min (b-t) (e-c)) m s g j r;exists Y,Y,Y,Z,Z;refine⟨d++[w],K,P,1,y,x,?_,F⟩;rw[step];exact z
  ·let o:¬ max (a-t) 0<min (b-t) (e-c):=λz=>i (decide_eq_true z);unfold Od at step;rw[if_neg o,gR]at step;exists Y,Y,Y,Z,Z;refine⟨d,K,P,1,y,g,?_,s⟩;rw[step];exact j
 ·rintro l f ⟨d,t,u,v,B,C,rfl,n,g,j,s⟩;rw[cC,p.len,gG]at j;exact⟨Y,k q f ⟨d,g,j⟩ s m⟩
class inductive SK
 | mk (r:Addr) (c:Row) (a b:Int) (_:vs=[↥r,.int a,.int b]) (_:bP H r c) (_:↑c<=1000000) (_:RV a b (jc c)) (_:∀ (q:Addr) (d:Hp),bP d q (cA (kM a b 0 c))->aI H d->H q=none->Q ↥q d)
theorem SM:‹(3,8,["row","start","stop"],SK)›:=λD=>by
 specialize ef ["row","start","stop"] D.h8.F;let⟨r,a,b,c,rfl,R,d,z,k⟩:=h;exists _,#v[aU (aC D.Yw (gU D) hr #[0,1,2]),aK (aC D.WL (nV D) hr #[aC D.WN (qP D) hr #[0,1,2]])]
 all_goals try dsimp only[aP,aG]
 refine⟨Y,Y,Y,r,a,b,c,1,R,d,z,λf e=>?_⟩;refine⟨Y,Y,Y,r,a,b,c,1,R.same e,d,λq g R2 f i=>?_⟩;refine⟨q,Y,R2,ig (jX b c a 0) d,λa b c d g=>?_⟩;exact k a b c (e.trans (f.trans d)) (aT (e.trans f) g)
theorem Dj:‹(1,9,["row"],RQ)›:=λD=>by
 specialize ef ["row"] D.h9.F;let⟨r,row,rfl,⟨o,b,n⟩,hok,p,k⟩:=h;refine⟨_,#v[aK (vN (N:=["start","stop","address"]) (jO (c:=b8 sL) (f:=["row"]) (d:=[none,none,none]) rfl rfl rfl nofun nofun rfl nofun rfl nofun) rfl (cJ (pv 0)) (λ_ _ _ _ _ _=>(qM (n:=2) rfl (bT (bV 0) (bT (bV 1) gi)))) (λ_ _ _ _ _ _=>gy) (λ_ _ _ _ _ _=>(BK rfl D.T.jd #[0,1])) (λ_ _ _ _ _ _=>(bV 2)) (λ_ _ _ _ _ _=>gy) (λ_ _ _ _ _ _=>(pv 2)))],?_⟩
 all_goals try dsimp only[aP,aG]
 refine⟨Y,r,1,⟨_,bM.of b⟩,λe j=>qx (K:=K) (f:=r) (a:=o.map V.ref) (λi a c=>∃ u v z:Option V,a=[u,v,z]/\c e=⇑(.lst ((bw (row.take i)).map V.int))/\aI H c) ⟨none,none,none,1,af,ao j _⟩ (by rintro i a c _ ⟨_,_,_,_,_,s0⟩;exact bM.of (s0 _ _ b)) ?_ ?_⟩
 ·rintro i x a c d ⟨u,v,z,rfl,f,s0⟩;rw[lD]at d;let⟨q,s,rfl⟩:=Option.map_eq_some_iff.mp d;let⟨⟨b,d⟩,o,r⟩:=n.get s;let s:b<=d:=hok _ (lU o);let step:=zg o
  let o:↑(bw (row.take i))+(d-b).toNat<=1000000:=by
   let z:=rX row (i+1);rw[step,dm,gf,eG]at z;exact ig z p
  refine⟨q,Y,dG.of (s0 _ _ r),1,P,1,Z,yes (iz ?_)⟩;refine⟨Y,Y,b,d,1,EW (lo:=b) (k:=(d-b).toNat) (λo a g=>∃ z:Option V,a=[⇑(.int b),⇑(.int d),z]/\g e=⇑(.lst ((bw (row.take i)++run b o).map V.int))/\aI H g) ⟨z,1,?_,s0⟩ ?_ ?_⟩
  ·rw[run,gR];exact f
  ·rintro o a g t ⟨z,rfl,l,m⟩;refine RP ?_;refine iz ?_;refine⟨Y,_,l,?_,Y,?_,bS j m (aH e _ _)⟩
   ·rw[cC,dm,eG];exact aS ∅
   ·rw[af,nP,← jI];simp
  ·rintro a g ⟨z,rfl,l,m⟩;refine⟨K,1,?_,m⟩;rw[step];exact l
 ·rintro a c ⟨u,v,z,rfl,f,s0⟩;rw[cC,n.len,gG]at f;exact k e c f s0 j
theorem Ce:‹(2,10,["row"],OE)›:=λD=>by
 refine ef ["row","told","start","stop"] D.WO.F λcZ A zn s H vs Q E hr _ h=>?_;let⟨r,G,rfl,S,dR,ok,ak⟩:=h;refine⟨_,#v[aY 1 (bO ah),eE PassesOwn.never rfl (cJ (cz C8 rfl D.T.OM PyProof.Rows.boot_sorted #[aC D.WL (nV D) hr #[0]])) (kQ (n:=2) rfl (bT (bV 2) (bT (bV 3) gi))) #v[bR (PW.pt (pX (ju (pv 1) (λ_=>rfl)) (mX (aV gj (pv 2) (aQ bh (aQ bJ (pv 1) (gZ fD az)) az) (bz _))))) #v[lZ (cW #[aQ bh (aQ bJ (pv 1) (gZ fD az)) az,cz (lJ rfl) rfl D.T.zG PyProof.Rows.boot_max #[aQ bh (aQ bJ (pv 1) (gZ fD az)) az,3]]) (oq (pv 1) (gZ fD az) jv)] #v[aU (dM n9 jm jo bU (pv 1) #[cW #[2,3]])]],aK (pv 1)],?_⟩
 all_goals try dsimp only[aP,aG]
 refine⟨gK,λq O=>?_⟩;let s0:aI H (aO H q (.lst [])):=ao O _;refine⟨Y,r,G,1,S.same s0,Q,λS J R1 R LJ=>?_⟩;let⟨am,h1,p1⟩:=R1;let pl:=iN G;refine⟨S,am,cA G,1,h1,p1,Q,λC M L hl Ss an pL=>?_⟩;let S:aI J (aO J C (.lst (M.map V.ref))):=ao hl _;let ae:=pL.same S;let ap:=s0.trans (R.trans S);let fm:=(R.trans S) _ _ (af (H:=H) (a:=q) (o:=.lst []))
 let aq:∀ p∈cA G,p.1<p.2:=λp l=>by
  let z:∀ (r t:Row),Ok r->(∀ p∈t,p.1<p.2)->∀ p∈r.foldl dh t,p.1<p.2:=by
   intro r
   induction r with
   | nil=>intro t _ a;exact a
   | cons c r f =>
    intro t h a;rw[jJ];refine f _ (λb g=>h b (j5 _ g)) ?_;let ha:=h c (by simp);unfold dh;by_cases F:c.1=c.2
    ·rw[if_pos F];exact a
    ·rw[if_neg F];rcases kO t with rfl|⟨g,b,rfl⟩
     ·rw[iA];intro p l;rw[List.mem_singleton.mp l];show c.1<c.2;lia
     ·rw[jH]at a ⊢;let f:=a b (by simp);by_cases d:b.2=c.1
      ·rw[i7 _ d];intro p l;rcases List.mem_append.mp l with e|e
       ·exact a p (oh _ e)
       ·rw[List.mem_singleton.mp e];show b.1<c.2;lia
      ·rw[iB _ d];intro p l;rcases List.mem_append.mp l with e|e
       ·exact a p e
       ·rw[List.mem_singleton.mp e];show c.1<c.2;lia
  exact z G [] ok (λp l=>by cases l) p l
 let⟨nF,ar⟩:=LL Ss an aq;let l:C≠q:=(aA (R _ _ af) hl).symm;let p:=Ss.length_eq;refine⟨C,1,⟨_,bM.of af⟩,dO (K:=K) (e:=C) (b:=M.map V.ref) (λm N a=>∃ (f:WF) (T U:Option V),N=[⇑↥r,⇑↥q,T,U]/\a q=⇑(.lst (f.map V.ref))/\bC a f ((L.take m).foldl fG [])/\cy q (aO J C (.lst (M.map V.ref))) a) ⟨[],none,none,1,fm,.nil,cy.refl _ _⟩ (by rintro m N a _ ⟨_,_,_,_,_,_,o⟩;exact bM.of (o _ _ af l)) ?_ ?_⟩
 ·rintro m as N a hi ⟨f,T,U,rfl,i,g,o⟩;rw[lD]at hi;let⟨c,ea,rfl⟩:=Option.map_eq_some_iff.mp hi;let⟨⟨j,k⟩,ep,l⟩:=ae.get ea
  let ha:jW a c (j,k):=o _ _ l (λz=>by
   let w:=l;unfold jW at w;rw[z,fm]at w
   cases w)
  let step:=BL (f:=fG) ep
  let bl:↑f<sizeLine:=by
   let z:=g.len;let b:=OC (L.take m) [];rw[gw,oj]at b;exact aS ∅
  exists c,Y,dG.of ha,1,P,1,Z
  let ag:fG ((L.take m).foldl fG []) (j,k)=(L.take m).foldl fG []++[(j,k)]->∀ t,a t=none->∃ (c:WF) (l p:Option V),[⇑(V.ref r),⇑↥q,⇑(.int j),⇑(.int k)]=[⇑↥r,⇑↥q,l,p]/\(aO (aO a t (.tup [.int j,.int k])) q (.lst (f.map V.ref++[↥t]))) q=⇑(.lst (c.map V.ref))/\bC (aO (aO a t (.tup [.int j,.int k])) q (.lst (f.map V.ref++[↥t]))) c ((L.take (m+1)).foldl fG [])/\cy q (aO J C (.lst (M.map V.ref))) (aO (aO a t (.tup [.int j,.int k])) q (.lst (f.map V.ref++[↥t]))):=λe t d=>by
   let u:aI a (aO a t (.tup [.int j,.int k])):=ao d _;let W:t≠q:=(aA i d).symm;refine⟨f++[t],P,1,by rw[af,gx];rfl,?_,λb v X z=>aH q _ _ b v (u _ _ (o b v X z)) z⟩;rw[step,e];refine bC.snoc ((g.same u).keep (u _ _ i) (aH q _ _)) ?_;show aO _ _ _ t=_;rw[aL W,af]
  rcases kO ((L.take m).foldl fG []) with x|⟨c,I,x⟩
  ·let b:f=[]:=by rw[x]at g;exact List.eq_nil_of_length_eq_zero g.len
   subst b;refine⟨Y,false,.inl ⟨_,bM.of i,1⟩,eT (eT ?_)⟩;exact⟨Y,.inl ⟨1,_,bM.of i⟩,Y,Y,lG,λt d=>⟨q,Z,ao d _ _ _ i,(by show 0<sizeLine;decide),ag (by rw[x];rfl) t d⟩⟩
  ·rw[jH]at x;let ai:=g;rw[x]at ai;let⟨n,y,rfl,hc,ab⟩:=ai.split;let B:a q=⇑(.lst (n.map V.ref++[↥y])):=by rw[i,gx];rfl
   refine⟨Y,true,.inl ⟨_,bM.of B,by simp⟩,iz ?_⟩;refine⟨Y,Y,Y,q,K,V,bM.of B,gB _ _,y,K,V,dG.of ab,HK,Z,Y,dD (λc2=>?_) (λc2=>?_)⟩
   ·let F:j<=I.2:=of_decide_eq_true c2;refine⟨Y,Y,q,K,V,bM.of B,gB _ _,y,K,V,dG.of ab,CY,Y,Y,q,K,V,bM.of B,gB _ _,y,K,V,dG.of ab,HK,Y,P,1,lG,λt d=>?_⟩;exists Y,Y,q,P,↑n,V,ao d _ _ _ B,HP n y;let u:aI a (aO a t (.tup [.int I.1,.int (if k > I.2 then k else I.2)])):=ao d _;let W:t≠q:=(aA B d).symm
    let es:(n.map V.ref++[V.ref y]).set ↑n ↥t=(n++[t]).map V.ref:=by
     let z:=ze (n.map V.ref) (V.ref y) (V.ref t);rw[cC]at z;rw[z,gx];rfl
    rw[es];refine⟨n++[t],P,1,af,?_,λb v X z=>aH q _ _ b v (u _ _ (o b v X z)) z⟩;rw[step,x,sX _ F];refine bC.snoc ((hc.same u).keep (u _ _ B) (aH q _ _)) ?_;show aO _ _ _ t=_;rw[aL W,af]
   ·let F:¬ j<=I.2:=λz=>c2 (decide_eq_true z);exact⟨Y,.inl ⟨1,_,bM.of i⟩,Y,Y,lG,λt d=>⟨q,Z,ao d _ _ _ i,(by rw[cC];exact bl),ag (by rw[x,sY _ F]) t d⟩⟩
 ·rintro N a ⟨f,T,U,rfl,i,g,o⟩;rw[cC,ae.len,gG]at g;let c:=OC L [];rw[oj]at c;refine⟨Y,ak q _ a ⟨f,i,g⟩ nF (λas=>by rw[ar,OB ok]) ∅ (λb v e=>o b v (ap _ _ e) (aA e O)) O⟩
def Fz{b:Row}(h:pS b){i j:Nat}{p q:Int × Int}(c:b[i]?=⇑p)(a:b[j]?=⇑q)(k:i<=j):p.2<=q.2:=by
 by_cases d:i=j
 ·subst d;rw[c]at a;cases a;exact Int.le_refl _
 ·let⟨d,e⟩:=List.getElem?_eq_some_iff.mp c;let⟨f,g⟩:=List.getElem?_eq_some_iff.mp a;have:=List.pairwise_iff_getElem.mp h.1 i j d f ∅;rw[e,g]at this;have:=h.2 q (lU a);lia
theorem m8:‹(1,11,["holes","start"],Sx)›:=λD=>by
 specialize ef ["holes","start","low","high","middle"] D.WQ.F;let⟨r,b,x,rfl,⟨c,d,m⟩,nF,k⟩:=h;let v:=m.len;exists _,#v[aY 2 az,aY 3 (eY D.T.eL (pv 0)),nH PassesOwn.never (aV jt (pv 2) (pv 3) (bz _)) #v[aY 4 (bI y9 (bI dP (pv 2) (pv 3)) az),bR (aV yr (aQ bh (aQ bJ (pv 0) (pv 4)) az) (pv 1) (bz _)) #v[aY 3 (pv 4)] #v[aY 2 (bI dP (pv 4) az)]],aK (pv 2)]
 all_goals try dsimp only[aP,aG]
 exists Y,r,Y,.inl (bM.of d);rw[cC,v];refine⟨λn o e=>∃ (lo a:Nat) (u:Option V),o=[⇑↥r,⇑(.int x),⇑(.int lo),⇑(.int a),u]/\e=H/\n=a-lo/\lo<=a/\a<=↑b/\(∀ i p,b[i]?=⇑p->i<lo->p.2<=x)/\(∀ i p,b[i]?=⇑p->a<=i->x<p.2),⟨_,0,↑b,none,V,1,Q,fk _,λi p _ h=>by lia,λi p d v=>by rw[yh v]at d;cases d⟩,?_⟩;rintro n o e ⟨lo,a,u,rfl,rfl,rfl,n,q,s,t⟩;refine⟨Y,Y,Z,Y,dD (λf=>?_) (λf=>?_)⟩
 ·let F:(lo:Int)<a:=of_decide_eq_true f;refine⟨fun n o=>∃ v,v<a-lo/\∃ (lo a:Nat) (u:Option V),n=[⇑↥r,⇑(.int x),⇑(.int lo),⇑(.int a),u]/\o=e/\v=a-lo/\lo<=a/\a<=↑b/\(∀ i p,b[i]?=⇑p->i<lo->p.2<=x)/\(∀ i p,b[i]?=⇑p->a<=i->x<p.2),fun n o z=>z,?_⟩;let w:((lo:Int)+a) / 2=((lo+a) / 2:Nat):=by lia
  exists Y,Y,Z,Z,⟨E,E⟩;obtain⟨mid,y⟩:∃ mid,mid=(lo+a) / 2:=⟨Y⟩;let g:b[mid]?=⇑b[mid]:=nj ∅;let A:c[mid]?=⇑c[mid]:=nj ∅;let⟨e,B,G⟩:=m.get A;rw[g]at B;cases B
  let I:oz (c.map V.ref) (((lo:Int)+a) / 2)=⇑(.ref c[mid]):=by
   rw[w,← y];exact cT (by rw[lD,A];rfl)
  refine⟨Y,Y,r,K,V,bM.of d,I,c[mid],K,V,dG.of G,HK,Y,Z,Y,dD (λj=>?_) (λj=>?_)⟩
  ·let J:x<b[mid].2:=of_decide_eq_true j;refine⟨Y,mid-lo,Q,lo,mid,⇑(.int (((lo:Int)+a) / 2)),?_,V,Q,Q,s,λi p l C=>?_⟩
   ·rw[y,← w];rfl
   ·have:=Fz nF g l C;lia
  ·let J:¬ x<b[mid].2:=λz=>j (decide_eq_true z);refine⟨Y,Z,a-(mid+1),Q,mid+1,a,⇑(.int (((lo:Int)+a) / 2)),?_,V,Q,q,λi p l C=>?_,t⟩
   ·have:((lo:Int)+a) / 2+1=((mid+1:Nat):Int):=by lia
    rw[← this];rfl
   ·have:=Fz nF l g ∅;lia
 ·let F:¬ (lo:Int)<a:=λz=>f (decide_eq_true z);have g:a=lo:=by lia
  subst g;exact⟨Y,k a ⟨q,s,t⟩⟩
open Classical in
def SN{a:Row}{x:Int}{n:Nat}(h:fb a x n)(d:pS a):_gn.LM a x=decide (∃ p,a[n]?=⇑p/\p.1<=x):=by
 rw[Bool.eq_iff_iff,jC,decide_eq_true_iff];constructor
 ·rintro⟨p,b,c,l⟩;let⟨i,e⟩:=List.getElem?_of_mem b
  let l:n<=i:=by
   rcases Nat.lt_or_ge i n with z|z
   ·have:=h.2.1 i p e z;lia
   ·exact z
  let⟨j,f⟩:=List.getElem?_eq_some_iff.mp e;let g:a[n]?=⇑a[n]:=nj ∅;exists a[n],g;by_cases k:n=i
  ·subst k;rw[f];exact c
  ·let q:=List.pairwise_iff_getElem.mp d.1 n i ∅ j ∅;have:=d.2 _ (lU g);rw[f]at q;lia
 ·rintro⟨p,b,c⟩;exact⟨p,lU b,c,h.2.2 n p b (fk _)⟩
open Classical in
theorem LY:‹(2,12,["holes","address"],OF)›:=λD=>by
 specialize ef ["holes","address","hole"] D.ia.F;let⟨r,a,x,rfl,R,f,k⟩:=h;exists _,#v[aY 2 (aC D.WQ (m8 D) hr #[0,1]),aK (om (j0 jt (pv 2) (eY D.T.eL (pv 0)) (bz _)) (pY (j0 gj (aQ bh (aQ bJ (pv 0) (pv 2)) az) (pv 1) (bz _))))]
 all_goals try dsimp only[aP,aG]
 refine⟨Y,Y,r,a,x,1,R,f,λn m=>?_⟩;rw[SN m f]at k;let⟨b,g,f⟩:=id R;let i:=f.len;refine⟨Y,Y,r,Y,.inl (bM.of g),Z,Y,dD (λc=>?_) (λc=>?_)⟩
 ·let m:n<↑a:=by
   have:=of_decide_eq_true c;rw[cC,i]at this;lia
  let d:a[n]?=⇑a[n]:=nj m;let j:b[n]?=⇑b[n]:=nj ∅;let⟨m,l,o⟩:=f.get j;rw[d]at l;cases l;exists Y,Y,r,K,V,bM.of g,cT (by rw[lD,j];rfl),b[n],K,V,dG.of o,CY,Y,Z;rw[show decide (∃ p,a[n]?=⇑p/\p.1<=x)=decide (a[n].1<=x) from decide_eq_decide.mpr ⟨λ⟨p,e,z⟩=>by rw[d]at e;cases e;exact z,λz=>⟨_,d,z⟩⟩]at k;exact k
 ·let b:¬ n<↑a:=λz=>c (decide_eq_true (by rw[cC,i];lia));rw[show decide (∃ p,a[n]?=⇑p/\p.1<=x)=false from decide_eq_false λ⟨p,e,_⟩=>by rw[yh ∅]at e;cases e]at k;exact k
theorem Dl:‹(2,13,["start","stop","holes"],WG)›:=λD=>by
 refine ef ["start","stop","holes","told","left","hole"] D.ih.F λcZ A zn s H vs Q E hr _ h=>?_;let⟨r,a,c,b,rfl,R,O,S,X,ae⟩:=h;refine⟨_,#v[aY 3 (bO ah),aY 4 (pv 0),aY 5 (aC D.WQ (m8 D) hr #[2,0]),nH PassesOwn.never (PW.pt (pX (aV jt (pv 5) (eY D.T.eL (pv 2)) (bz _)) (mX (aV jt (aQ bh (aQ bJ (pv 2) (pv 5)) az) (pv 1) (bz _))))) #v[aU (dM n9 jm jo bU (pv 3) #[cW #[4,cz (lJ rfl) rfl D.T.zG PyProof.Rows.boot_max #[4,aQ bh (aQ bJ (pv 2) (pv 5)) az]]]),aY 4 (cz (nK rfl) rfl D.T.Fp PyProof.Rows.boot_min #[aQ bh (aQ bJ (pv 2) (pv 5)) az,1]),sF (i:=5) (by assumption) rfl (Or.inl rfl) az Ng],aU (dM n9 jm jo bU (pv 3) #[cW #[4,1]]),aK (pv 3)],?_⟩
 all_goals try dsimp only[aP,aG]
 refine⟨gK,λq y=>?_⟩;let s0:aI H (aO H q (.lst [])):=ao y _;refine⟨Y,Y,Y,r,a,c,1,R.same s0,O,λn S=>?_⟩;let⟨d,T,I⟩:=id R;let n1:=I.len;let⟨R,d2⟩:=S.drop;let ag:=S.1;let⟨o1,S,o3⟩:=UM b (a.drop n) c X R (O.drop n);let O:=OD b (a.drop n) c;rw[pV]at O
 let ai:bw (lo b c (a.drop n))=ic a (gf (c,b)):=by
  rw[S];refine qy λx e=>(d2 x ?_).symm;have:=(jB.mp e).1;simpa using this
 exists λO R m=>∃ (i:Nat) (l:Int) (e:WF) (f:Row),R=[⇑(.int c),⇑(.int b),⇑↥r,⇑↥q,⇑(.int l),⇑(.int i)]/\m q=⇑(.lst (e.map V.ref))/\bC m e f/\f++lo b l (a.drop i)=lo b c (a.drop n)/\n<=i/\i<=↑a/\O=↑a-i/\aI H m,⟨_,n,c,[],[],1,af,.nil,1,fk _,ag,1,s0⟩;rintro O R m ⟨i,l,e,f,rfl,j,J,B,ni,il,rfl,o⟩;have O:=J.len;have O:=congrArg List.length B;rw[dm]at O;have L:=o _ _ T;exists Y,Y,r,Y,.inl (bM.of L),Z,Y;rw[cC,n1];refine Kd (p:=(i:Int)<↑a) (q:=(a.getD i (0,0)).1<b) (λpi z=>?_) (λM=>?_) (λM=>?_)
 ·let g:i<↑a:=by lia
  let p:a[i]?=⇑a[i]:=nj g;let t:d[i]?=⇑d[i]:=nj ∅;let⟨pp,u,C⟩:=I.get t;rw[p]at u;cases u;let v:a.getD i (0,0)=a[i]:=by rw[List.getD_eq_getElem?_getD,p];rfl
  rw[v]at z;exact⟨Y,Y,r,K,V,bM.of L,cT (by rw[lD,t];rfl),d[i],K,V,dG.of (o _ _ C),CY,Y,Z,Y,z⟩
 ·let⟨pi,U⟩:=M;let g:i<↑a:=by lia
  let p:a[i]?=⇑a[i]:=nj g;let t:d[i]?=⇑d[i]:=nj ∅;let⟨pp,u,C⟩:=I.get t;rw[p]at u;cases u;let v:a.getD i (0,0)=a[i]:=by rw[List.getD_eq_getElem?_getD,p];rfl
  rw[v]at U;let N:a.drop i=a[i]::a.drop (i+1):=List.drop_eq_getElem_cons g;let W:oz (d.map V.ref) (i:Int)=⇑(.ref d[i]):=cT (by rw[lD,t];rfl)
  let ak:f++[(l,if a[i].1 > l then a[i].1 else l)]++lo b (if b<a[i].2 then b else a[i].2) (a.drop (i+1))=lo b c (a.drop n):=by
   rw[← B,N,lo,if_pos U,jI];rfl
  refine⟨fun t p=>∃ u,u<↑a-i/\∃ (i:Nat) (l:Int) (e:WF) (f:Row),t=[⇑(.int c),⇑(.int b),⇑↥r,⇑↥q,⇑(.int l),⇑(.int i)]/\p q=⇑(.lst (e.map V.ref))/\bC p e f/\f++lo b l (a.drop i)=lo b c (a.drop n)/\n<=i/\i<=↑a/\u=↑a-i/\aI H p,fun t p z=>z,?_⟩;refine⟨Y,.inl ⟨1,_,bM.of j⟩,Y,Y,Y,Y,r,K,V,bM.of L,W,d[i],K,V,dG.of (o _ _ C),CY,P,1,lG,λF w=>⟨q,Z,ao w _ _ _ j,(by rw[cC];exact aS ∅),?_⟩⟩;let⟨G,x,k⟩:=zh (c:=l) (d:=if a[i].1 > l then a[i].1 else l) y o j J w;generalize aO (aO m F (.tup [.int l,.int (if a[i].1 > l then a[i].1 else l)])) q (.lst (e.map V.ref++[↥F]))=c at G x k;exists Y,Y,r,K,V,bM.of (k _ _ T),W,d[i],K,V,dG.of (k _ _ C),HK,Y,P,1;refine⟨Y,Z,↑a-(i+1),Q,i+1,_,e++[F],Y,G,x,ak,Q,Q,1,k⟩
 ·let p:lo b l (a.drop i)=[(l,b)]:=by
   by_cases g:i<↑a
   ·let N:a.drop i=a[i]::a.drop (i+1):=List.drop_eq_getElem_cons g;let v:a.getD i (0,0)=a[i]:=by rw[List.getD_eq_getElem?_getD,nj g];rfl
    rw[N,lo,if_neg (λz=>M ⟨Q,by rw[v];exact z⟩)]
   ·rw[xE ∅];rfl
  rw[p]at B;refine⟨Y,.inl ⟨1,_,bM.of j⟩,Y,Y,lG,λF w=>⟨q,Z,ao w _ _ _ j,(by rw[cC];exact aS ∅),?_⟩⟩;let⟨G,x,k⟩:=zh (c:=l) (d:=b) y o j J w;rw[B]at x;exact⟨Y,ae q _ _ ⟨_,G,x⟩ o1 ai o3 ∅ k y⟩
theorem zH:‹(3,14,["row","other"],LN)›:=λD=>by
 specialize ef ["row","other","holes"] D.WR.F;let⟨U,ai,C,F,rfl,ak,am,GY,vD,U8,U9,an⟩:=h;refine⟨_,#v[aY 2 (aC D.WO (Ce D) hr #[1]),aK (aC D.WL (nV D) hr #[vN (N:=["start","stop","piece","holes"]) (jO (c:=b8 yH) (f:=["row","other","holes"]) (d:=[none,none,none,some 2]) rfl rfl rfl nofun nofun rfl nofun rfl nofun) rfl (cJ (pv 0)) (λ_ _ _ _ _ _=>(qM (n:=2) rfl (bT (bV 0) (bT (bV 1) gi)))) (λ_ _ _ _ _ _=>gy) (λ_ _ _ _ _ _=>(E6 (aC D.ih (Dl D) hr #[0,1,3]))) (λ_ _ _ _ _ _=>(bV 2)) (λ_ _ _ _ _ _=>gy) (λ_ _ _ _ _ _=>(pv 2))])],?_⟩
 all_goals try dsimp only[aP,aG]
 refine⟨Y,ai,F,1,am,vD,U9,λS bH W RS nF ap ai G hS=>?_⟩;let⟨as,X,p1⟩:=ak.same G;let n1:=p1.len;refine⟨Y,U,1,⟨_,bM.of X⟩,λa cL=>qx (K:=K) (f:=U) (a:=as.map V.ref) (λi d g=>∃ (H I x:Option V) (c:WF) (L:Row),d=[H,I,x,⇑↥S]/\g a=⇑(.lst (c.map V.ref))/\bC g c L/\Ok L/\bw L=ic F (bw (C.take i))/\↑L<=64*i/\↑L<=i*(↑F+1)/\aI W g) ⟨none,none,none,[],[],1,af,.nil,(λp l=>by cases l),1,by simp,by simp,ao cL _⟩ (by rintro i d g _ ⟨_,_,_,_,_,_,_,_,_,_,_,_,e⟩;exact bM.of (e _ _ X)) ?_ ?_⟩
 ·rintro i aq d g hi ⟨H,I,x,c,L,rfl,r,s,J,t,lL,M,e⟩;rw[lD]at hi;let⟨u,ea,rfl⟩:=Option.map_eq_some_iff.mp hi;let⟨⟨st,en⟩,v,ar⟩:=p1.get ea
  let F:i<↑C:=by
   rcases Nat.lt_or_ge i ↑C with z|z
   ·exact z
   ·rw[yh z]at v;cases v
  refine⟨u,Y,dG.of (e _ _ ar),1,P,1,Z,yes (iz ?_)⟩;refine⟨Y,Y,Y,S,bH,st,en,1,RS.same e,nF,Q,U8 _ (lU v),λq ab y C av aw _ i k N=>?_⟩;let⟨f,i,pm⟩:=id C;let ml:=pm.len;let C:=s.len;let h3:=k _ _ r;let C:q≠a:=(aA r N).symm;refine⟨q,1,⟨_,bM.of i⟩,zx (K:=K) (j:=q) (o:=a) (t:=qb 2) (tt:=Lr) (u:=Q4 2) (b:=f.map V.ref) (λl d b=>∃ O:Option V,d=[⇑(.int st),⇑(.int en),O,⇑↥S]/\b a=⇑(.lst ((c++f.take l).map V.ref))/\bC b (c++f.take l) (L++ab.take l)/\cy a y b/\aI W b) ?_ ?_ ?_ ?_⟩
  ·exact⟨x,1,(by simpa using h3),(by simpa using s.same k),(λ_ _ R _=>R),e.trans k⟩
  ·rintro l d b _ ⟨_,_,_,_,m,_⟩;exact bM.of (m q _ i C)
  ·rintro l aq d b hl ⟨O,rfl,j,n,m,T⟩;rw[lD]at hl;let⟨A,o,rfl⟩:=Option.map_eq_some_iff.mp hl;let⟨p,ax,ae⟩:=pm.get o
   let i:l<↑f:=by
    rcases Nat.lt_or_ge l ↑f with z|z
    ·exact z
    ·rw[yh z]at o;cases o
   let ag:jW b A p:=m A _ ae (λz=>by
    let w:y a=⇑(.tup [.int p.1,.int p.2]):=by rw[← z];exact ae
    rw[h3]at w
    cases w)
   let B:cy a b (aO b a (.lst ((c++f.take l).map V.ref++[↥A]))):=aH a _ _;refine RP (iz ⟨Y,_,j,?_,Y,?_,?_,λu i R C=>B u i (m u i R C) C,bS cL T B⟩)
   ·rw[cC,dm,gw];exact aS ∅
   ·rw[af,take_snoc o,← jI,gx (l₁:=c++f.take l)];rfl
   ·rw[take_snoc o,take_snoc ax,← jI,← jI]
    exact bC.snoc (n.keep j B) (B A _ ag (λz=>by
     let w:b a=⇑(.tup [.int p.1,.int p.2]):=by rw[← z];exact ag
     rw[j]at w
     cases w))
  ·rintro d b ⟨O,rfl,j,n,m,T⟩;rw[cC,gG]at j n;rw[ml,gG]at n;refine⟨K,c++f,L++ab,1,j,n,λp l=>(List.mem_append.mp l).elim (J p) (av p),?_,by rw[dm];lia,(by rw[dm,Nat.succ_mul];lia),T⟩;rw[cU,t,aw,take_snoc v,cU,oH,eX];congr 1;exact qy λx _=>ap x
 ·rintro d g ⟨H,I,x,c,L,rfl,r,s,J,t,lL,M,e⟩;rw[cC,n1,gG]at t;rw[cC,n1]at lL M;refine⟨a,L,1,⟨c,r,s⟩,Q,λq y a k N=>?_⟩;let b:=iN L;rw[mw L J,t]at a b;exact an q y a (ig b M) (G.trans (e.trans k)) (aT (G.trans e) N)
def Bl(a:Addr)(H:Hp)(x d t:Addr):Prop:=H x=⇑(.ins a d [("stains",↥t)])
class inductive SO(CB:Addr)
 | mk (x d:Addr) (_:vs=[↥x]) (_:H x=⇑(.ins CB d [])) (_: ∀ (t:Addr) (a:Hp),Bl CB a x d t->bP a t []->cy x H a->H t=none->Q .fQ a)
class inductive Xm(CB:Addr)
 | mk (x r e t:Addr) (a b:Row) (_:vs=[↥x,↥r]) (_:Bl CB H x e t) (_:bP H t a) (_:bP H r b) (_:↑a+↑b<64) (_:Ok a) (_:Ok b) (_ :
 ∀ (t':Addr) (c:Row) (d:Hp),Bl CB d x e t'->bP d t' c->pS c->(∀ y,In c y↔In a y\/In b y)->↑c<=↑a+↑b->cy x H d->H t'=none->Q .fQ d)
class inductive Xn(CB:Addr)
 | mk (x r e t:Addr) (a b:Row) (_:vs=[↥x,↥r]) (_:Bl CB H x e t) (_:bP H t a) (_:bP H r b) (_:↑a<=5000) (_:↑b<64) (_:pS a) (_:Ok b) (_ :
 ∀ (t':Addr) (c:Row) (d:Hp),Bl CB d x e t'->bP d t' c->pS c->(∀ y,In c y↔In a y/\¬ In b y)->↑c<=↑a*(↑b+1)->cy x H d->H t'=none->Q .fQ d)
class inductive SQ(CB:Addr)
 | mk (x d t:Addr) (b:Row) (a:Int) (_:vs=[↥x,.int a]) (_:Bl CB H x d t) (_:bP H t b) (_:pS b) (_:Q (.bl (LM b a)) H)
class inductive Xo(CB:Addr)
 | mk (x d t:Addr) (b:Row) (_:vs=[↥x]) (_:Bl CB H x d t) (_:bP H t b) (_: ∀ (q:Addr) (a:Hp),bP a q b->aI H a->H q=none->Q ↥q a)
theorem uI:‹(1,15,["self"],(SO CB))›:=λD=>by
 specialize ef ["self"] D.ii.F;let⟨x,d,rfl,b,k⟩:=h;exists _,#v[iy (pv 0) (bO ah) rfl]
 all_goals try dsimp only[aP,aG]
 refine⟨gK,λt a=>?_⟩;let c:t≠x:=(aA b a).symm;exists Y,x,CB,d,Y,ao a _ _ _ b,D.jh.cl,D.j3,E;exact k t _ af ⟨[],by rw[aL c,af];rfl,.nil⟩ (λb o e n=>by rw[aL n];exact ao a _ b o e) a
theorem AO:‹(3,16,["self","row"],(Xm CB))›:=λD=>by
 specialize ef ["self","row"] D.im.F;let⟨x,r,d,t,i,j,rfl,c,R,O,k,l,m,n⟩:=h;let⟨b,a,e⟩:=id R;let⟨f,o,g⟩:=id O;let p:=e.len;let p:=g.len;exists _,#v[iy (pv 0) (aC D.WO (Ce D) hr #[bI iV (cI (pv 0) rfl) (pv 1)]) rfl]
 all_goals try dsimp only[aP,aG]
 refine⟨Y,x,CB,d,_,↥t,1,c,D.jh.cl,D.j3,1,Y,t,r,Z,a,o,(by rw[cC,cC];exact gJ (aS ∅)),λp o=>?_⟩;let a:aI H (aO H p (.lst (b.map V.ref++f.map V.ref))):=ao o _;refine⟨p,i++j,1,⟨b++f,by rw[af,gx],(e.same a).append (g.same a)⟩,(by rw[dm];exact k),(λq b=>(List.mem_append.mp b).elim (l q) (m q)),λq M e g i j k f b=>?_⟩;let e:=a.trans f;let f:=e _ _ c;refine⟨Y,x,CB,d,Y,f,D.jh.cl,D.j3,(by show 1<1000;decide),?_⟩;exact n q M _ af (g.obj f (aH x _ _)) i (λy=>(j y).trans lO) (by rw[← dm];exact k) (λc o d n=>aH x _ _ c o (e c o d) n) (aT a b)
theorem AQ:‹(4,17,["self","row"],(Xn CB))›:=λD=>by
 specialize ef ["self","row"] D.io.F;let⟨x,r,d,t,e,a,rfl,b,R,O,f,g,c,i,k⟩:=h;exists _,#v[iy (pv 0) (aC D.WR (zH D) hr #[cI (pv 0) rfl,1]) rfl]
 all_goals try dsimp only[aP,aG]
 refine⟨Y,x,CB,d,_,↥t,1,b,D.jh.cl,D.j3,1,Y,t,r,e,a,1,R,O,f,g,c.ok,i,λq f g i e j=>?_⟩;let f:=e _ _ b;refine⟨Y,x,CB,d,Y,f,D.jh.cl,D.j3,(by show 1<1000;decide),?_⟩;refine k q _ _ af (g.obj f (aH x _ _)) (Fg (c.rise.filter _)) (λy=>?_) i (λb o c n=>aH x _ _ b o (e b o c) n) j;rw[zE,← gV];unfold ic;rw[List.mem_filter];refine and_congr_right λ_=>?_;rw[← jC]
 cases LM a y <;> simp
theorem zI:‹(3,18,["self","address"],(SQ CB))›:=λD=>by
 specialize ef ["self","address"] D.ip.F;let⟨x,d,t,a,b,rfl,c,R,e,k⟩:=h;exists _,#v[aK (aC D.ia (LY D) hr #[cI (pv 0) rfl,1])]
 all_goals try dsimp only[aP,aG]
 exact⟨Y,x,CB,d,_,↥t,1,c,D.jh.cl,D.j3,1,Y,t,a,b,1,R,e,k⟩
theorem Dm:‹(1,19,["self"],(Xo CB))›:=λD=>by
 specialize ef ["self"] D.iq.F;let⟨x,d,t,f,rfl,b,R,k⟩:=h;let⟨a,c,e⟩:=id R;exists _,#v[aK (eV gm rfl D.T.jg su #[cI (pv 0) rfl])]
 all_goals try dsimp only[aP,aG]
 refine⟨Y,x,CB,d,_,↥t,1,b,D.jh.cl,D.j3,1,t,Y,.inl (bM.of c),λq b=>?_⟩;let c:aI H (aO H q (.lst (a.map V.ref))):=ao b _;exact k q _ ⟨a,af,e.same c⟩ c b
theorem LZ(a:List aX):↑(fF a)<=↑a:=List.length_filterMap_le _ a
class inductive Xp
 | mk (r:Addr) (a:List aX) (_:vs=[↥r]) (_:bX H ↥r a) (_:↑a<=100000) (_ :
 ∀ (o:Addr) (b:Hp),b o=⇑(.lst ((fF a).map V.int))->aI H b->H o=none->Q ↥o b)
theorem zJ:‹(1,20,["items"],Xp)›:=λD=>by
 specialize ef ["items"] D.WS.F;let⟨r,a,rfl,⟨s,vs,o,l,m⟩,t,k⟩:=h;cases o;refine⟨_,#v[aK (gC (N:=["item"]) (jO (c:=b8 yJ) (f:=["items"]) (d:=[none]) rfl rfl rfl nofun nofun rfl nofun rfl nofun) rfl (cJ (pv 0)) (λ_ _ _ _ _ _=>(bV 0)) (λ_ _ _ _ _ _=>uB (aV eK (aQ C0 (pv 0) az) bx (bz _))) (λ_ _ _ _ _ _=>(aQ C0 (pv 0) az)))],?_⟩
 all_goals try dsimp only[aP,aG]
 refine⟨Y,r,1,⟨_,bM.of l⟩,λe f=>gu (K:=K) (h:=r) (a:=vs) (λi d b=>∃ u:Option V,d=[u]/\b e=⇑(.lst ((fF (a.take i)).map V.int))/\aI H b) ⟨none,1,af,ao f _⟩ (by rintro i d b _ ⟨_,_,_,s0⟩;exact bM.of (s0 _ _ l)) ?_ ?_⟩
 ·rintro i x d b p ⟨u,rfl,c,s0⟩;let⟨n,q,g,rfl,j⟩:=m.get p;let step:fF (a.take (i+1))=fF (a.take i)++fF [n]:=by rw[take_snoc q,gv]
  let l:↑(fF (a.take i))<=100000:=by
   let z:=LZ (a.take i);rw[gw]at z;lia
  cases n with
  | win n =>
   refine⟨Y,g,K,V,dG.of (s0 _ _ j),V,Y,dD (λ_=>?_) (λz=>absurd (by decide) z)⟩;refine⟨Y,g,K,V,dG.of (s0 _ _ j),1,_,c,(by rw[cC];exact aS ∅),Y,?_,bS f s0 (aH e _ _)⟩;rw[af,step,gx];rfl
  | aF p q =>
   refine⟨Y,g,K,V,dG.of (s0 _ _ j),V,Y,dD (λz=>absurd z (by decide)) (λ_=>?_)⟩;refine⟨Y,?_,s0⟩;rw[c,step];show _=⇑(HO.lst ((fF (a.take i)++[]).map V.int));rw[gR]
 ·rintro d b ⟨u,rfl,c,s0⟩;rw[m.len,gG]at c;exact k e b c s0 f
structure L0(rows:c9)(ks:Wp):Prop where
 Et:∀ x∈ks,0<=x/\x<↑rows
 dn:∀ (i:Nat) (x:Int),ks[i]?=⇑x->∀ y,jP rows x y->y∈ks.take i
class inductive SR
 | mk (r L:Addr) (a:c9) (b:Wp) (_:vs=[↥r,↥L]) (_:gT H r (a.map aJ)) (_:H L=⇑(.lst (b.map V.int))) (_:↑b<=1000) (_:↑a<=1000) (_:(∀ e∈a,↑e<=1000)) (_:gD a) (_:C3 a) (_:(∀ s∈b,0<=s/\s<↑a)) (_ :
 ∀ (c:Wp) (o:Addr) (d:Hp),d o=⇑(.lst (c.map V.int))->aI H d->L0 a c->(∀ s∈b,s∈c)->↑c<=1000->H o=none->Q ↥o d)
def L0.snoc{c:c9}{a:Wp}{x:Int}(h:L0 c a)(j:0<=x)(k:x<↑c)(e:∀ y,jP c x y->y∈a):L0 c (a++[x]):=by
 refine⟨λy f=>?_,λi y b z d=>?_⟩
 ·rcases List.mem_append.mp f with q|q
  ·exact h.Et y q
  ·have:y=x:=by simpa using q
   lia
 ·by_cases f:i<↑a
  ·rw[List.getElem?_append_left f]at b;rw[List.take_append_of_le_length ∅];exact h.dn i y b z d
  ·let g:i=↑a:=by
    rcases Nat.lt_or_ge i ↑(a++[x]) with q|q
    ·rw[dm,gW]at q;lia
    ·rw[yh q]at b;cases b
   subst g;rw[List.getElem?_append_right (fk _),Nat.sub_self]at b;cases b;rw[List.take_append_of_le_length (fk _),gG];exact e z d
def Cf{a:List (fK × V)}{b:Wp}(h:a.map (·.1)=b.map Sum.inl)(x:Int):seen a x↔x∈b:=by
 unfold seen;rw[← mz,List.any_eq_true];constructor
 ·rintro⟨p,c,e⟩;let d:p.1=Sum.inl x:=of_decide_eq_true e;have:p.1∈b.map (Sum.inl:Int->fK):=by rw[← h];exact List.mem_map_of_mem c
  rw[d,List.mem_map]at this;let⟨y,d,f⟩:=this;rw[Sum.inl.inj f]at d;exact d
 ·intro d;have:(Sum.inl x:fK)∈a.map (·.1):=by rw[h];exact List.mem_map_of_mem d
  let⟨p,c,e⟩:=List.mem_map.mp this;exact⟨p,c,decide_eq_true e⟩
structure gL(rows:c9)(rk:Int->Nat)(H:Hp)(W S:Addr)(ss:Wp)(H2:Hp)(bs ps ks:Wp)(kvs:List (fK × V)):Prop where
 hW:H2 W=⇑(.lst ((bs++ps).map V.int))
 hS:H2 S=⇑(.dK kvs)
 sm:aI H H2
 ky:kvs.map (·.1)=ks.map Sum.inl
 tp:L0 rows ks
 rg:∀ x∈bs++ps,0<=x/\x<↑rows
 ns:∀ x∈ps,¬ seen kvs x
 pw:ps.Pairwise λa b=>rk b<rk a
 rb:∀ (i:Nat) (x:Int),ps[i]?=⇑x->rk x+i<=40
 st:∀ s∈ss,s∈bs\/s∈ks
 kl:↑kvs+nu ↑rows kvs<=↑rows
 bl:↑bs<=1000
def Cg{a:List (fK × V)}{k:fK}(v:V)(h:(cG a k).isSome=true):(eO a k v).map (·.1)=a.map (·.1):=by
 unfold eO;rw[if_pos (by rw[mz];exact h),List.map_map];refine List.map_congr_left λp _=>?_;show (if p.1=k then (p.1,v) else p).1=p.1
 split <;> rfl
def Ip{c:Int->Nat}{a:Wp}(b:∀ (i:Nat) (x:Int),a[i]?=⇑x->c x+i<=40):↑a<=41:=by
 rcases kO a with rfl|⟨d,n,rfl⟩
 ·simp
 ·rw[jH]at b ⊢;have:=b ↑d n (by rw[List.getElem?_append_right (fk _),Nat.sub_self];rfl);rw[dm,gW];lia
structure Top(rk:Int->Nat)(ss bs ps ks:Wp)(kvs:List (fK × V))(AR uJ:Wp)(n:Int):Prop where
 eq:bs++ps=AR++uJ++[n]
 ns:∀ x∈uJ,¬ seen kvs x/\x≠n
 pw:uJ.Pairwise λa b=>rk b<rk a
 rb:∀ (i:Nat) (x:Int),uJ[i]?=⇑x->rk x+i<=40
 st:∀ s∈ss,s∈AR\/s=n\/s∈ks
 old:seen kvs n->AR.length+50-↑uJ<↑bs+50-↑ps
 le:AR.length+50-↑uJ<=↑bs+51-↑ps
 bl:AR.length<=↑bs
 up:∀ y:Int,rk y<=40->rk y<rk n->(ps++[y]).Pairwise (λa b=>rk b<rk a)/\∀ (i:Nat) (x:Int),(ps++[y])[i]?=⇑x->rk x+i<=40
def gL.top{u:c9}{c:Int->Nat}{H:Hp}{W v:Addr}{m:Wp}{A:Hp}{d f o:Wp}{p:List (fK × V)}(B:gL u c H W v m A d f o p):d++f=[]\/∃ j e n,Top c m d f o p j e n:=by
 let r:∀ (b:Wp) (y:Int),(∀ (i:Nat) (x:Int),b[i]?=⇑x->c x+i<=40)->c y+↑b<=40->∀ (i:Nat) (x:Int),(b++[y])[i]?=⇑x->c x+i<=40:=by
  intro b y g h i x a;rcases Nat.lt_or_ge i ↑b with q|q
  ·rw[List.getElem?_append_left q]at a;exact g i x a
  ·let k:i=↑b:=by
    rcases Nat.lt_or_ge i ↑(b++[y]) with w|w
    ·rw[dm,gW]at w;lia
    ·rw[yh w]at a;cases a
   subst k;rw[List.getElem?_append_right (fk _),Nat.sub_self]at a;cases a;exact h
 rcases kO f with rfl|⟨e,n,rfl⟩
 ·rcases kO d with rfl|⟨j,n,rfl⟩
  ·exact .inl rfl
  ·rw[jH]at B ⊢;refine .inr ⟨j,[],n,by simp,by simp,by simp,by simp,λs k=>?_,λ_=>?_,?_,?_,λy g h=>⟨by simp,r [] y (by simp) (by simpa using g)⟩⟩
   ·rcases B.st s k with z|z
    ·rcases List.mem_append.mp z with z|z
     ·exact .inl z
     ·exact .inr (.inl (by simpa using z))
    ·exact .inr (.inr z)
   ·rw[dm,gW];simp only[oj];lia
   ·rw[dm,gW];simp only[oj];lia
   ·rw[dm,gW];lia
 ·rw[jH]at B ⊢;let l:=List.pairwise_append.mp B.pw;let b:=B.rb ↑e n (by rw[List.getElem?_append_right (fk _),Nat.sub_self];rfl);refine .inr ⟨d,e,n,by rw[jI],λx a=>⟨B.ns x (oh _ a),λC=>?_⟩,l.1,λi x a=>?_,λs k=>(B.st s k).elim .inl λz=>.inr (.inr z),λz=>absurd z (B.ns n (by simp)),?_,fk _,λy g h=>⟨?_,r _ y B.rb ?_⟩⟩
  ·subst C;exact Nat.lt_irrefl _ (l.2.2 x a x (by simp))
  ·refine B.rb i x ?_;rw[List.getElem?_append_left]
   ·exact a
   ·rcases Nat.lt_or_ge i ↑e with q|q
    ·exact q
    ·rw[yh q]at a;cases a
  ·rw[dm,gW];lia
  ·rw[List.pairwise_append];refine⟨B.pw,by simp,λt D a b=>?_⟩;have:a=y:=by simpa using b
   subst this;rcases List.mem_append.mp D with q|q
   ·have:=l.2.2 t q n (by simp);lia
   ·have:t=n:=by simpa using q
    subst this;exact h
  ·rw[dm,gW];lia
def Va(a:c9)(f:Int->Nat)(H:Hp)(r L W b:Addr)(g:Wp)(m:Nat)(h:_L2.St)(i:Hp):Prop:=∃ (c d j:Wp) (e:List (fK × V)) (u v:Option V),h=[⇑↥r,⇑↥L,⇑↥b,⇑↥W,u,v]/\gL a f H W b g i c d j e/\m=100*nu ↑a e+(↑c+50-↑d)
theorem FA:‹(2,21,["rows","sheets"],SR)›:=λD=>by
 specialize ef ["rows","sheets","told","waiting","number","missing"] D.WT.F;let⟨N,L,c,ss,rfl,hR,hL,aq,dR,ar,o7,⟨rk,as,xK⟩,av,k⟩:=h;let hu:=gH hr;refine⟨_,#v[aY 2 mC,aY 3 (eV gm rfl D.T.jg su #[1]),nH PassesOwn.never (ju (pv 3) (λ_=>rfl)) #v[aY 4 (aQ bJ (pv 3) (gZ fD az)),J9 (N:=["other","told"]) (l:=5) (jO (c:=b8 Hz) (f:=["rows","sheets","told","waiting","number","missing"]) (d:=[none,some 2]) rfl rfl rfl nofun nofun rfl nofun rfl nofun) rfl (by assumption) rfl rfl (cJ (aC D.WS (zJ D) hr #[aQ bJ (pv 0) (pv 4)])) (λ_ _ _ _ _ _=>(bV 0)) (λ_ _ _ _ _ _=>uB (CJ (BR hu (pv 0) (pv 1)))) (λ_ _ _ _ _ _=>(pv 0)),bR (ju (pv 5) (λ_=>rfl)) #v[aU (dM n9 jm jo bU (pv 3) #[aQ bJ (pv 5) az])] #v[oF hu (pv 2) (pv 4) lY rfl,aU (ND n9 PySem.F.slot_list_pop PySem.F.type_list_pop NI (pv 3))]],aK (eV (HW rfl) rfl D.T.jg su #[2])],?_⟩
 all_goals try dsimp only[aP,aG]
 intro S O;let R:aI H (aO H S (.dK [])):=ao O _;refine⟨Y,L,Y,.inl (bM.of (R _ _ hL)),λW F=>?_⟩;let s2:=R.trans (ao F (.lst (ss.map V.int)))
 let T:H W=none:=by
  cases g:H W with
  | none=>rfl
  | some u=>exact absurd ((R _ _ g).symm.trans F) (by simp)
 let G:W≠S:=(aA af F).symm;refine⟨Va c rk H N L W S ss,⟨_,ss,[],[],[],none,none,1,⟨(by rw[af,gR]),ao F _ _ _ af,s2,1,⟨(λx d=>by cases d),λi x I=>by simp at I⟩,(λx d=>av x (by simpa using d)),by simp,by simp,by simp,(λs o=>.inl o),?_,aq⟩,1⟩,?_⟩
 ·have:=zz ↑c (λi=>(cG ([]:List (fK × V)) (Sum.inl (i:Int))).isNone);show 0+cnt ↑c _<=_;lia
 rintro aB v H2 ⟨A,C,m,a,J,aN,rfl,B,rfl⟩;exists Y,!((A++C).map V.int).isEmpty,.inl ⟨_,bM.of B.hW,1⟩;rcases B.top with j|⟨e,f,n,t⟩
 ·let d:(!((A++C).map V.int).isEmpty)=false:=by rw[j];rfl
  rw[d];refine eT ?_
  let q:a.map (λp=>kV p.1)=m.map V.int:=by
   let z:a.map (λp=>kV p.1)=(a.map (·.1)).map kV:=by rw[List.map_map];rfl
   rw[z,B.ky,List.map_map];rfl
  let d:↑m=↑a:=by
   let z:=congrArg List.length B.ky;rw[cC,cC]at z;exact z.symm
  let U:=B.kl;refine⟨Y,S,a,1,B.hS,λl b=>?_⟩;refine k m l _ (by rw[af,q]) (B.sm.trans (ao b _)) B.tp (λs o=>(B.st s o).elim (λz=>?_) id) ∅ ?_
  ·rw[(List.append_eq_nil_iff.mp j).1]at z;cases z
  cases g:H l with
  | none=>rfl
  | some u=>exact absurd ((B.sm _ _ g).symm.trans b) (by simp)
 let X:=B.hW;rw[t.eq]at X;rw[t.eq];refine dD (λ_=>?_) (λz=>absurd (by simp) z);refine⟨fun F R=>∃ m',m'<100*nu ↑c a+(↑A+50-↑C)/\Va c rk H N L W S ss m' F R,fun F R z=>z,?_⟩;let an:oz ((e++f++[n]).map V.int) (-1)=⇑(.int n):=by rw[gx];exact gB _ _
 let⟨n0,n1⟩:=B.rg n (by rw[t.eq];simp);let F:=t.le;let F:=t.bl;let F:=Ip B.rb;let F:=Ip t.rb;let aw:=B.bl;obtain⟨b,M⟩:∃ b,c[n.toNat]?=⇑b:=⟨_,nj ∅⟩;let F:=ar b (lU M);let⟨tF,Fw,F⟩:=hR.same B.sm;let⟨R,Dp,hI⟩:=F.get' (i:=n.toNat) (b:=aJ b) (by rw[lD,M];rfl);let⟨ai,QK,rfl,F,R⟩:=id hI;let R:=qN b []
 let F:oz tF n=⇑↥ai:=by
  let z:=cT Dp;rw[show ((n.toNat:Nat):Int)=n by lia]at z;exact z
 exists Y,Y,W,K,V,bM.of X,an;refine⟨Y,Y,N,K,V,bM.of Fw,F,ai,aJ b,1,hI,?_,λz N F s4 nz=>?_⟩
 ·show ↑(b.foldl bN [])<=_;simp only[oj]at R;lia
 rw[iO]at F;let R:↑(d7 b)<=↑b:=List.length_filterMap_le _ b;let ak:=s4 _ _ B.hS;let ax:=s4 _ _ X;refine⟨z,1,⟨_,bM.of F⟩,λab cL=>gu (K:=K) (h:=z) (a:=(d7 b).map V.int) (λi v r=>∃ J:Option V,v=[J,⇑↥S]/\r ab=⇑(.lst ((((d7 b).take i).filter (λy=>(cG a (Sum.inl y)).isNone)).map V.int))/\aI N r) ⟨none,1,af,ao cL _⟩ (by rintro i v r _ ⟨_,_,_,l⟩;exact bM.of (l _ _ F)) ?_ ?_⟩
 ·rintro i x v r I ⟨J,rfl,p,l⟩;rw[lD]at I;let⟨y,o,rfl⟩:=Option.map_eq_some_iff.mp I;let d:=take_snoc o
  let o:↑(((d7 b).take i).filter (λy=>(cG a (Sum.inl y)).isNone))<=1000:=by
   let z:=List.length_filter_le (λy=>(cG a (Sum.inl y)).isNone) ((d7 b).take i);rw[gw]at z;lia
  exists Y,Y,S,Y,gp.k (k:=Sum.inl y) (l _ _ ak),Y
  cases g:cG a (Sum.inl y) with
  | none =>
   refine iz ⟨Y,_,p,(by rw[cC];exact aS ∅),Y,?_,bS cL l (aH ab _ _)⟩;rw[af,d,List.filter_append,List.filter_cons_of_pos (p:=λy=>(cG a (Sum.inl y)).isNone) (by rw[g];rfl),gx];rfl
  | some u =>
   refine eT ⟨Y,?_,l⟩;rw[d,List.filter_append,List.filter_cons_of_neg (p:=λy=>(cG a (Sum.inl y)).isNone) (by rw[g];exact lV),List.filter_nil,gR];exact p
 rintro v r ⟨J,rfl,p,l⟩;rw[cC,gG]at p;let am:=l _ _ ak;let ae:=l _ _ ax;let ag:=B.sm.trans (s4.trans l);let U:=B.kl;exists Y,_,.inl ⟨_,bM.of p,1⟩
 cases em:(d7 b).filter (λy=>(cG a (Sum.inl y)).isNone) with
 | nil =>
  refine eT ?_
  let ay:∀ y,jP c n y->y∈m:=by
   rintro y ⟨_,l,d,g⟩;rw[M]at d;cases d;rw[← Cf B.ky];let z:=List.filter_eq_nil_iff.mp em y g;unfold seen
   cases q:cG a (Sum.inl y) with
   | none=>rw[q]at z;exact absurd rfl z
   | some u=>rfl
  refine⟨Y,Y,S,Y,zq.k (k:=Sum.inl n) am (aS ∅),?_⟩;let l:(aO r S (.dK (eO a (Sum.inl n) (.bl true)))) W=⇑(.lst ((e++f++[n]).map V.int)):=by rw[aL G];exact ae
  refine⟨Y,.inl ⟨1,_,bM.of l⟩,W,_,.int n,V,l,(by simp),?_⟩;let l:((e++f++[n]).map V.int).dropLast=(e++f).map V.int:=by rw[gx (l₁:=e++f),List.map_singleton,List.dropLast_concat]
  rw[l];let ap:∀ x∈e++f,0<=x/\x<↑c:=λx d=>B.rg x (by rw[t.eq];exact oh _ d)
  cases j:cG a (Sum.inl n) with
  | none =>
   let l:=Fc (n:=↑c) (.bl true) n0 n1 j;refine⟨100*nu ↑c (eO a (Sum.inl n) (.bl true))+(e.length+50-↑f),Q,e,f,m++[n],eO a (Sum.inl n) (.bl true),P,1,⟨af,(by rw[aL G.symm,af]),bS T (bS O ag (aH S _ _)) (aH W _ _),?_,B.tp.snoc n0 n1 ay,ap,λx d=>?_,t.pw,t.rb,λs o=>?_,?_,Q⟩,1⟩
   ·rw[zl _ j,gx,B.ky,gx];rfl
   ·intro q;rcases (Fb _).mp q with g|g
    ·exact (t.ns x d).2 g
    ·exact (t.ns x d).1 g
   ·rcases t.st s o with q|q|q
    ·exact .inl q
    ·exact .inr (by rw[q];simp)
    ·exact .inr (oh _ q)
   ·rw[zl _ j,dm,gW]at *;lia
  | some u =>
   let sn:seen a n:=by unfold seen;rw[j];rfl
   let l:=t.old sn
   let sp:∀ x,seen (eO a (Sum.inl n) (.bl true)) x↔seen a x:=λx=>by
    rw[Fb];exact⟨λz=>z.elim (λg=>by rw[g];exact sn) id,.inr⟩
   let ms:nu ↑c (eO a (Sum.inl n) (.bl true))=nu ↑c a:=by
    refine Oq _ λi _=>?_;have z:=sp (i:Int);unfold seen at z
    cases o:cG (eO a (Sum.inl n) (.bl true)) (Sum.inl (i:Int)) with
    | none =>
     cases g:cG a (Sum.inl (i:Int)) with
     | none=>rfl
     | some q=>rw[o,g]at z;exact absurd (z.mpr rfl) lV
    | some l =>
     cases g:cG a (Sum.inl (i:Int)) with
     | none=>rw[o,g]at z;exact absurd (z.mp rfl) lV
     | some q=>rfl
   let g:n∈m:=(Cf B.ky n).mp sn;refine⟨100*nu ↑c (eO a (Sum.inl n) (.bl true))+(e.length+50-↑f),by rw[ms];lia,e,f,m,eO a (Sum.inl n) (.bl true),P,1,⟨af,(by rw[aL G.symm,af]),bS T (bS O ag (aH S _ _)) (aH W _ _),?_,B.tp,ap,λx d q=>(t.ns x d).1 ((sp x).mp q),t.pw,t.rb,λs o=>?_,?_,Q⟩,1⟩
   ·rw[Cg _ (by rw[j];rfl),B.ky]
   ·rcases t.st s o with q|q|q
    ·exact .inl q
    ·exact .inr (by rw[q];exact g)
    ·exact .inr q
   ·let z:=congrArg List.length (Cg (a:=a) (k:=Sum.inl n) (.bl true) (by rw[j];rfl));rw[cC,cC]at z;rw[z,ms];exact U
 | cons y j =>
  refine iz ?_;rw[em]at p;let i:y∈(d7 b).filter (λy=>(cG a (Sum.inl y)).isNone):=by rw[em];simp
  let⟨l,g⟩:=List.mem_filter.mp i;let i:jP c n y:=⟨n0,b,M,l⟩;let⟨y0,y1⟩:=o7.Em i;let⟨ap,o⟩:=t.up y (as y) (xK n y i);let wl:=congrArg List.length t.eq;rw[dm]at wl;refine⟨Y,.inl ⟨1,_,bM.of ae⟩,Y,ab,K,V,bM.of p,cT (a:=V.int y::j.map V.int) (j:=0) rfl,W,Z,ae,(by rw[cC,← wl];exact aS ∅),?_⟩;let b:=Ip o;rw[dm,gW]at b;refine⟨100*nu ↑c a+(↑A+50-↑(C++[y])),?_,A,C++[y],m,a,P,1,⟨(by rw[af,← jI,t.eq,gx (l₁:=e++f++[n])];rfl),(by rw[aL G.symm];exact am),bS T ag (aH W _ _),B.ky,B.tp,λx d=>?_,λx d=>?_,ap,o,B.st,U,aw⟩,1⟩
  ·rw[dm,gW];lia
  ·rw[← jI]at d;rcases List.mem_append.mp d with q|q
   ·exact B.rg x q
   ·have:x=y:=by simpa using q
    subst this;exact⟨y0,y1⟩
  ·rcases List.mem_append.mp d with q|q
   ·exact B.ns x q
   ·have:x=y:=by simpa using q
    subst this;intro q;unfold seen at q
    cases w:cG a (Sum.inl x) with
    | none=>rw[w]at q;cases q
    | some u=>rw[w]at g;cases g
structure lM(rows:c9)(H:Hp)(W S:Addr)(s:Int)(H2:Hp)(vs:List V)(wl:c9)(kvs:List (fK × V)):Prop where
 hW:H2 W=⇑(.lst vs)
 hl:cF (fT (λa=>a=W\/a=S) H2) vs wl
 hS:H2 S=⇑(.dK kvs)
 sm:aI H H2
 wk:∀ w∈wl,↑w<=↑kvs+1/\∃ e,w.getLast?=⇑e/\0<=e/\e<↑rows/\(e=s\/Reach (jP rows) s e)
 kl:↑kvs+nu ↑rows kvs<=↑rows
class inductive Vc
 | mk (r:Addr) (a:c9) (s g:Int) (_:vs=[↥r,.int s,.int g]) (_:gT H r (a.map aJ)) (_:↑a<=1000) (_:(∀ c∈a,↑c<=1000)) (_:gD a) (_:0<=s) (_:s<↑a) (_:¬ Reach (jP a) s g) (_:∀ b,aI H b->Q .fQ b)
def fg(n:Nat)(W a:Addr):_L2.St->Hp->Nat:=λ_ H=>match H W,H a with
 | some (.lst b),some (.dK c)=>2*nu n c+↑b
 | _,_=>0
def OY{n:Nat}{W a:Addr}{d:_L2.St}{H:Hp}{b:List V}{c:List (fK × V)}(e:H W=⇑(.lst b))(f:H a=⇑(.dK c)):fg n W a d H=2*nu n c+↑b:=by
 unfold fg;rw[e,f]
def Vd(a:c9)(H:Hp)(r W b:Addr)(s g:Int)(e:_L2.St)(f:Hp):Prop:=∃ (c:List V) (h:c9) (d:List (fK × V)) (u v:Option V),e=[⇑↥r,⇑(.int s),⇑(.int g),⇑↥W,⇑↥b,u,v]/\lM a H W b s f c h d/\↑c+2*nu ↑a d<=2*↑a+1
theorem zK:‹(2,22,["rows","start","goal"],Vc)›:=λD=>by
 specialize ef ["rows","start","goal","ways","seen","way","number"] D.iw.F;let⟨A,c,s,C,rfl,hR,dR,ar,o7,h0,h1,nr,kN⟩:=h;let U:=gH hr;refine⟨_,#v[aY 3 (bO #[bO #[1]]),aY 4 mC,nH PassesOwn.never (ju (pv 3) (λ_=>rfl)) #v[aY 5 (dM n9 PySem.F.slot_list_pop PySem.F.type_list_pop NJ (pv 3) #[az]),eE PassesOwn.never rfl (cJ (aC D.WS (zJ D) hr #[aQ bJ (pv 0) (aQ bJ (pv 5) (gZ fD az))])) (bV 6) #v[bR (aV eK (pv 6) (pv 2) (bz _)) #v[aK (bI iV (pv 5) (bO #[2]))] bq,bR (CJ (BR U (pv 6) (pv 4))) #v[oF U (pv 4) (pv 6) lY rfl,aU (dM n9 jm jo bU (pv 3) #[bI iV (pv 5) (bO #[6])])] bq]],aK VD],?_⟩
 all_goals try dsimp only[aP,aG]
 refine⟨Y,mF,λp U=>⟨mF,λW u=>?_⟩⟩;intro S r;let X:aI H (aO H p (.lst [.int s])):=ao U _;let s2:=X.trans (ao u (.lst [↥p]));let s3:=s2.trans (ao r (.dK []))
 let SS:H W=none:=by
  cases e:H W with
  | none=>rfl
  | some o=>exact absurd ((X _ _ e).symm.trans u) (by simp)
 let as:H S=none:=by
  cases e:H S with
  | none=>rfl
  | some o=>exact absurd ((s2 _ _ e).symm.trans r) (by simp)
 let J:W≠S:=aA af r;let U:p≠W:=aA af u;let X:p≠S:=aA (ao u _ _ _ af) r;exists λab m k=>ab=fg ↑c W S m k/\Vd c H A W S s C m k,⟨Y,?_⟩
 ·let b:=zz ↑c (λF=>(cG ([]:List (fK × V)) (Sum.inl (F:Int))).isNone);refine⟨[↥p],[[s]],[],none,none,1,⟨ao r _ _ _ af,.cons ⟨p,1,(λz=>z.elim U X),ao r _ _ _ (ao u _ _ _ af)⟩ .nil,af,s3,?_,?_⟩,?_⟩
  ·intro w a;have:w=[s]:=by simpa using a
   subst this;exact⟨by simp,s,1,h0,h1,.inl rfl⟩
  ·show 0+nu ↑c []<=↑c;unfold nu;lia
  ·show 1+2*nu ↑c []<=_;unfold nu;lia
 ·rintro ab m k ⟨rfl,vs,wl,x,a6,v,rfl,B,ae⟩;rw[OY B.hW B.hS];exists Y,!vs.isEmpty,.inl ⟨vs,bM.of B.hW,1⟩
  cases vs with
  | nil =>
   exact eT (kN k B.sm)
  | cons u i =>
   refine iz ⟨fun p r=>Vd c H A W S s C p r/\fg ↑c W S p r<2*nu ↑c x+↑(u::i),fun p r ⟨p,r⟩=>⟨_,r,1,p⟩,?_⟩;let⟨ag,vD,WD,av,ai,aw⟩:=id B
   cases vD with
   | @cons _ w0 _ b ak f =>
   let⟨n,rfl,ax,ay⟩:=id ak;let⟨r,e,p,e0,u,aB⟩:=ai w0 (by simp)
   let aN:∃ j,w0=j++[e]:=by
    rw[List.getLast?_eq_some_iff]at p;exact p
   let⟨j,rfl⟩:=aN;obtain⟨d,L⟩:∃ d,c[e.toNat]?=⇑d:=⟨_,nj ∅⟩;let p:d∈c:=lU L;let r:=ar d p;exists Y,.inl ⟨1,_,bM.of ag⟩,W,_,0,0,↥n,V,ag,E,E,(by simp[seqIndex?]),1;let ee:(V.ref n::i).eraseIdx 0=i:=rfl;rw[ee];let am:∀ {v:V} {ns:Wp},fT (λa=>a=W\/a=S) k v ns->fT (λa=>a=W\/a=S) (aO k W (.lst i)) v ns:=λh=>h.at _ (.inl rfl);have OZ:aI H (aO k W (.lst i)):=bS SS av (aH W _ _);let⟨r,LX,p⟩:=hR.same OZ;let⟨r,Dp,hI⟩:=p.get' (i:=e.toNat) (b:=aJ d) (by rw[lD,L];rfl);let⟨aR,QK,rfl,p,r⟩:=id hI
   let aZ:(aO k W (.lst i)) n=⇑(.lst (j.map V.int++[.int e])):=by
    rw[aL (λz=>ax (.inl z)),ay,gx];rfl
   let B:=qN d [];refine⟨Y,Y,Y,n,K,V,bM.of aZ,gB _ _,A,K,V,bM.of LX,?_,aR,aJ d,1,hI,?_,λz U r p u=>?_⟩
   ·let z:=cT Dp;rw[show ((e.toNat:Nat):Int)=e by lia]at z;exact z
   ·show ↑(d.foldl bN [])<=_;simp only[oj]at B;lia
   rw[iO]at r;let B:(aO k W (.lst i)) W=⇑(.lst i):=af;let U:(aO k W (.lst i)) S=⇑(.dK x):=by rw[aL J.symm];exact WD
   let k:z≠W:=(aA B u).symm;let X:z≠S:=(aA U u).symm;let u:↑(d7 d)<=↑d:=List.length_filterMap_le _ d;refine⟨z,1,⟨_,bM.of r⟩,dO (K:=K) (e:=z) (b:=(d7 d).map V.int) (λF m f=>∃ (l:List V) (t:c9) (b:List (fK × V)) (v:Option V),m=[⇑↥A,⇑(.int s),⇑(.int C),⇑↥W,⇑↥S,⇑↥n,v]/\ lM c H W S s f l t b/\fT (λa=>a=W\/a=S) f ↥n (j++[e])/\fT (λa=>a=W\/a=S) f ↥z (d7 d)/\l.length+2*nu ↑c b<=i.length+2*nu ↑c x/\↑x<=↑b) ?_ ?_ ?_ ?_⟩
   ·refine⟨i,b,x,Y,⟨p _ _ B,f.mono λ_ _ h=>(am h).same p,p _ _ U,OZ.trans p,λw a=>ai w (j5 _ a),aw⟩,(am ak).same p,⟨z,1,λq=>q.elim k X,r⟩,fk _,fk _⟩
   ·rintro F m f _ ⟨_,_,_,_,_,_,_,⟨a,b,_,g⟩,_⟩;cases b;exact bM.of g
   ·rintro F a7 m f hi ⟨l,t,b,v,rfl,g,G,M,Yy,an⟩;rw[lD]at hi;let⟨y,ey,rfl⟩:=Option.map_eq_some_iff.mp hi;let N:jP c e y:=⟨e0,d,L,lU ey⟩;let⟨y0,y1⟩:=o7.Em N
    let sy:Reach (jP c) s y:=by
     rcases aB with rfl|q
     ·exact .one N
     ·exact .step q N
    let⟨d,a1,a2,a3⟩:=id G;cases a1;let a4:↑(j++[e])<=2000:=by have:=g.kl;lia
    refine⟨Y,Y,1,Y,dD (λd=>?_) (λd=>?_)⟩
    ·let a:y=C:=V.int.inj (of_decide_eq_true d);exact absurd (a ▸ sy) nr
    ·exists Y,Y,S,Y,gp.k (k:=Sum.inl y) g.hS,Y
     cases ev:cG b (Sum.inl y) with
     | some a =>
      refine eT ?_;exact⟨l,t,b,Y,g,G,M,Yy,an⟩
     | none =>
      refine iz ?_;let d:=g.kl;refine⟨Y,Y,S,Y,zq.k (k:=Sum.inl y) g.hS (aS ∅),?_⟩;let e6:∀ {v:V} {ns:Wp},fT (λa=>a=W\/a=S) f v ns->fT (λa=>a=W\/a=S) (aO f S (.dK (eO b (Sum.inl y) (.bl true)))) v ns:=λh=>h.at _ (.inr rfl);have s6:aI H (aO f S (.dK (eO b (Sum.inl y) (.bl true)))):=bS as g.sm (aH S _ _);have I:(aO f S (.dK (eO b (Sum.inl y) (.bl true)))) W=⇑(.lst l):=by rw[aL J];exact g.hW
      let ap:(aO f S (.dK (eO b (Sum.inl y) (.bl true)))) n=⇑(.lst ((j++[e]).map V.int)):=by rw[aL (λq=>a2 (.inr q))];exact a3
      let O:(aO f S (.dK (eO b (Sum.inl y) (.bl true)))) S=⇑(.dK (eO b (Sum.inl y) (.bl true))):=af;generalize aO f S (.dK (eO b (Sum.inl y) (.bl true)))=i at e6 s6 I ap O;let r:l.length<sizeLine:=aS (by simp only[eZ]at ae;lia);refine⟨Y,.inl ⟨1,_,bM.of I⟩,Y,Y,mF,λk p=>⟨n,k,Z,ao p _ _ _ ap,af,gJ (aS (by rw[cC];simp at a4 ⊢;lia)),λo d=>⟨W,Z,ao d _ _ _ (ao p _ _ _ I),r,?_⟩⟩⟩;let n:aI i (aO i k (.lst [.int y])):=ao p _;let R:=n.trans (ao d (.lst ((j++[e]).map V.int++[.int y])));let aq:o≠W:=(aA (n _ _ I) d).symm;let a5:o≠S:=(aA (n _ _ O) d).symm;let T:∀ {v:V} {ns:Wp},fT (λa=>a=W\/a=S) f v ns->fT (λa=>a=W\/a=S) (aO (aO (aO i k (.lst [.int y])) o (.lst ((j++[e]).map V.int++[.int y]))) W (.lst (l++[↥o]))) v ns:=λh=>((e6 h).same R).at _ (.inl rfl);have d:=Fc (n:=↑c) (.bl true) y0 y1 ev;have pl:↑(eO b (Sum.inl y) (.bl true))=↑b+1:=by rw[zl _ ev];simp
      exists l++[↥o],t++[j++[e]++[y]],eO b (Sum.inl y) (.bl true),Y,⟨af,cF.snoc (g.hl.mono λ_ _ h=>T h) ⟨o,1,λq=>q.elim aq a5,?_⟩,?_,bS SS (s6.trans R) (aH W _ _),?_,?_⟩,T G,T M,?_
      ·rw[aL aq,af,gx (l₁:=j++[e])];rfl
      ·rw[aL J.symm];exact R _ _ O
      ·intro w a;rcases List.mem_append.mp a with q|q
       ·let⟨c,a⟩:=g.wk w q;exact⟨Q,a⟩
       ·have:w=j++[e]++[y]:=by simpa using q
        subst this;refine⟨?_,y,by simp,y0,y1,.inr sy⟩;rw[dm,gW,pl];lia
      ·lia
      ·rw[dm,gW];lia
      ·lia
   ·rintro m f ⟨l,t,b,v,rfl,g,G,M,Yy,an⟩;simp only[eZ]at ae;exists ⟨l,t,b,P,1,g,Q⟩;rw[OY g.hW g.hS,eZ];lia
class inductive Xs
 | mk (r:Addr) (s:Int) (_:vs=[↥r,.int s]) (_:Vc [↥r,.int s,.int s] H Q E)
theorem SX:‹(3,23,["rows","sheet"],Xs)›:=λD=>by
 specialize ef ["rows","sheet"] D.iT.F;let⟨r,s0,rfl,h⟩:=h;exists _,#v[aK (aC D.iw (zK D) hr #[0,1,1])]
 all_goals try dsimp only[aP,aG]
 exists Y,Y,Y;let⟨l,a,m,n,e,b,c,d,f,g,i,j,k⟩:=h;cases e;exact⟨r,a,s0,s0,1,b,c,d,f,g,i,j,k⟩
def kj(f:Int->Int)(a:Wp):Int:=(a.map λe=>if e<0 then 1+f (-1-e) else 1).sum
def Dq(f:Int->Int):aX->Int
 | .win n=>1+f n
 | .aF a b=>b-a
def FD(f:Int->Int)(a:List aX):Int:=(a.map (Dq f)).sum
def mH(f:Int->Int)(a b:List aX):FD f (a++b)=FD f a+FD f b:=by unfold FD;rw[gx,List.sum_append]
def O0(f:Int->Int)(t:List aX)(e:Int):FD f (bN t e)=FD f t+(if e<0 then 1+f (-1-e) else 1):=by
 unfold bN;by_cases h:e<0
 ·rw[if_pos h,if_pos h,mH];simp[FD,Dq]
 ·rw[if_neg h,if_neg h];rcases kO t with rfl|⟨c,l,rfl⟩
  ·simp[FD,Dq];lia
  ·rw[jH,lX]
   cases l with
   | win n =>
    show FD f (c++[aX.win n]++[.aF e (e+1)])=_;rw[mH];simp[FD,Dq];lia
   | aF a b =>
    show FD f (if b=e then (c++[aX.aF a b]).dropLast++[.aF a (e+1)] else (c++[aX.aF a b])++[.aF e (e+1)])=_;by_cases c:b=e
    ·rw[if_pos c,List.dropLast_concat,mH,mH];simp[FD,Dq];lia
    ·rw[if_neg c,mH];simp[FD,Dq];lia
def L7(f:Int->Int)(a:Wp):FD f (aJ a)=kj f a:=by
 let z:∀ t:List aX,FD f (a.foldl bN t)=FD f t+kj f a:=by
  induction a with
  | nil=>intro t;simp[kj]
  | cons e a b =>
   intro t;rw[jJ,b,O0];unfold kj;rw[jq,List.sum_cons];lia
 have:=z [];unfold aJ;rw[this];simp[FD]
def Weighs(b:c9)(f:Int->Int):Prop:=∀ (x:Int) (a:Wp),0<=x->b[x.toNat]?=⇑a->f x=kj f a
def wF(a:c9):Nat->Int->Int
 | 0,_=>0
 | k+1,x=>match a[x.toNat]? with
  | some es=>kj (wF a k) es
  | none=>0
def Iq{f g:Int->Int}{a:Wp}(h:∀ y∈d7 a,f y=g y):kj f a=kj g a:=by
 unfold kj;congr 1;refine List.map_congr_left λe b=>?_;by_cases c:e<0
 ·rw[if_pos c,if_pos c,h (-1-e) (cK.mpr ⟨Q,by rw[show -1-(-1-e)=e by lia];exact b⟩)]
 ·rw[if_neg c,if_neg c]
def Ma{a:c9}(h:C3 a):∃ f,Weighs a f:=by
 let⟨b,g,i⟩:=h
 let j:∀ (k:Nat) (x:Int),0<=x->b x<k->wF a k x=wF a (k+1) x:=by
  intro k
  induction k with
  | zero=>intro x _ h;lia
  | succ k l =>
   intro x c b
   cases e:a[x.toNat]? with
   | none=>simp[wF,e]
   | some b =>
    let d:wF a (k+1) x=kj (wF a k) b:=by simp[wF,e]
    let m:wF a (k+1+1) x=kj (wF a (k+1)) b:=by
     show (match a[x.toNat]? with|some b=>kj (wF a (k+1)) b|none=>0)=_;rw[e]
    rw[d,m];refine Iq λy d=>l y (cK.mp d).1 ?_;have:=i x y ⟨c,b,e,d⟩;lia
 refine⟨wF a 41,λx b c d=>?_⟩;rw[j 41 x c (by have:=g x;lia)];show (match a[x.toNat]? with|some b=>kj (wF a 41) b|none=>0)=_;rw[d]
class inductive rh
 | mk (v:V) (a:aX) (b:Addr) (c:List (fK × V)) (f:Int->Int) (_:vs=[v,↥b]) (_:dH H v a) (_:H b=⇑(.dK c)) (_:(∀ n,a=.win n->cG c (Sum.inl n)=⇑(.int (f n)))) (_:Q (.int (Dq f a)) H)
theorem zL:‹(1,24,["item","weights"],rh)›:=λD=>by
 specialize ef ["item","weights"] D.i3.F;let⟨v,it,S,c,f,rfl,⟨a,rfl,b⟩,hS,hw,k⟩:=h;let c:=gH hr;exists _,#v[bR (aV eK (aQ bh (pv 0) az) bx (bz _)) #v[aK (bI dP az (eS c (pv 1) (aQ bh (pv 0) az)))] bq,aK (bI cV (aQ bh (pv 0) az) (aQ bh (pv 0) az))]
 all_goals try dsimp only[aP,aG]
 cases it with
 | win n =>
  refine⟨Y,a,K,V,dG.of b,V,Y,dD (λ_=>?_) (λz=>absurd (by decide) z)⟩;let z:=gp.k (k:=Sum.inl n) hS;rw[hw n rfl]at z;exact⟨Y,Y,a,K,V,dG.of b,1,S,Y,z,Z,k⟩
 | aF p q =>
  refine⟨Y,a,K,V,dG.of b,V,Y,dD (λz=>absurd z (by decide)) (λ_=>?_)⟩;exact⟨Y,a,K,V,dG.of b,1,Y,a,K,V,dG.of b,1,Z,k⟩
class inductive Ir
 | mk (r L:Addr) (a:c9) (b:Wp) (f:Int->Int) (_:vs=[↥r,↥L]) (_:gT H r (a.map aJ)) (_:H L=⇑(.lst (b.map V.int))) (_:↑b<=1000) (_:↑a<=1000) (_:(∀ g∈a,↑g<=1000)) (_:gD a) (_:C3 a) (_:(∀ s∈b,0<=s/\s<↑a)) (_:Weighs a f) (_ :
 ∀ (c:Addr) (e:List (fK × V)) (d:Hp),d c=⇑(.dK e)->(∀ s∈b,cG e (Sum.inl s)=⇑(.int (f s)))->aI H d->H c=none->Q ↥c d)
theorem vV:‹(3,25,["rows","sheets"],Ir)›:=λD=>by
 specialize ef ["rows","sheets","weights","number"] D.i4.F;let⟨G,M,N,w,f,rfl,O,T,ab,dR,R,o7,xK,ae,hf,ag⟩:=h;let hu:=gH hr;refine⟨_,#v[aY 2 mC,eE PassesOwn.never rfl (cJ (aC D.WT (FA D) hr #[0,1])) (bV 3) #v[oF hu (pv 2) (pv 3) (cz (ES rfl) rfl D.T.UQ PyProof.Rows.boot_sum #[gC (N:=["item","weights"]) (jO (c:=b8 l6) (f:=["rows","sheets","weights","number"]) (d:=[none,some 2]) rfl rfl rfl nofun nofun rfl nofun rfl nofun) rfl (cJ (aQ bJ (pv 0) (pv 3))) (λ_ _ _ _ _ _=>(bV 0)) (λ_ _ _ _ _ _=>gy) (λ_ _ _ _ _ _=>(aC D.i3 (zL D) hr #[0,1]))]) rfl],aK (pv 2)],?_⟩
 all_goals try dsimp only[aP,aG]
 intro S r;let t:aI H (aO H S (.dK [])):=ao r _;refine⟨Y,Y,G,M,N,w,1,O.same t,t _ _ T,ab,dR,R,o7,xK,ae,λv w H2 T I U sk kl Zm=>?_⟩;let WD:=I _ _ (af (H:=H) (a:=S) (o:=.dK []));let ab:w≠S:=(aA af Zm).symm;refine⟨w,1,⟨_,bM.of T⟩,dO (K:=K) (e:=w) (b:=v.map V.int) (λk b g=>∃ (c:List (fK × V)) (u:Option V),b=[⇑↥G,⇑↥M,⇑↥S,u]/\g S=⇑(.dK c)/\(∀ y∈v.take k,cG c (Sum.inl y)=⇑(.int (f y)))/\↑c<=k/\(∀ d i,d≠S->H2 d=⇑i->g d=⇑i)) ⟨[],none,1,WD,(λy z=>by simp at z),fk _,λ_ _ _ e=>e⟩ ?_ ?_ ?_⟩
 ·rintro k b g _ ⟨_,_,_,_,_,_,l⟩;exact bM.of (l w _ ab T)
 ·rintro k x b g W ⟨c,u,rfl,A,m,ai,l⟩;rw[lD]at W;let⟨x,o,rfl⟩:=Option.map_eq_some_iff.mp W;let⟨X,w⟩:=U.Et x (lU o);obtain⟨a,B⟩:∃ a,N[x.toNat]?=⇑a:=⟨_,nj ∅⟩;let w:=R a (lU B);let w:aI H g:=λd i e=>l d i (aA e r) (I _ _ (t _ _ e));let⟨tF,LX,M⟩:=O.same w;let⟨w,Dp,hI⟩:=M.get' (i:=x.toNat) (b:=aJ a) (by rw[lD,B];rfl);let⟨J,QK,rfl,w,sR⟩:=id hI;have M:=qN a []
  let N:↑(aJ a)<=1000:=by
   show ↑(a.foldl bN [])<=_;simp only[oj]at M;lia
  let M:oz tF x=⇑↥J:=by
   let q:=cT Dp;rw[show ((x.toNat:Nat):Int)=x by lia]at q;exact q
  refine⟨Y,Y,G,K,V,bM.of LX,M,J,1,⟨_,bM.of w⟩,λL cL=>gu (K:=K) (h:=J) (a:=QK) (λq b p=>∃ u:Option V,b=[u,⇑↥S]/\p L=⇑(.lst ((((aJ a).take q).map (Dq f)).map V.int))/\aI g p) ⟨none,1,af,ao cL _⟩ (λq b p _ ⟨K,j⟩=>bM.of (j _ _ w)) ?_ ?_⟩
  ·rintro q z b p F ⟨u,rfl,C,j⟩;let⟨q,y,w⟩:=sR.get F;let st:=take_snoc y;unfold qb Lr;refine iz ⟨Y,Y,z,q,S,c,f,1,w.same j,j _ _ A,λn hn=>?_,?_⟩
   ·subst hn;refine m n (U.dn k x o n ⟨X,a,B,?_⟩);rw[← iO];unfold fF;rw[List.mem_filterMap];exact⟨.win n,lU y,1⟩
   ·refine⟨_,C,(by rw[cC,cC,gw];exact aS ∅),Y,?_,bS cL j (aH L _ _)⟩;rw[af,st,gx,gx];rfl
  ·rintro b p ⟨u,rfl,C,j⟩;rw[sR.len,gG]at C;let ak:((aJ a).map (Dq f)).sum=f x:=by rw[hf x a X B];exact L7 f a
   let am:=j _ _ A
   let a:k<↑v:=by
    rcases Nat.lt_or_ge k ↑v with q|q
    ·exact q
    ·rw[yh q]at o;cases o
   exists L,Y,bM.of C;rw[ak];refine⟨Y,Y,S,Y,zq.k (k:=Sum.inl x) am (aS ∅),?_⟩;refine⟨eO c (Sum.inl x) (.int (f x)),Y,af,λy z=>?_,?_,λd i n e=>?_⟩
   ·rw[kg];rw[take_snoc o]at z;by_cases F:y=x
    ·rw[if_pos (by rw[F]),F]
    ·rw[if_neg (λq=>F (Sum.inl.inj q))];rcases List.mem_append.mp z with q|q
     ·exact m y q
     ·exact absurd (by simpa using q) F
   ·have:=iE c (Sum.inl x) (V.int (f x));lia
   ·rw[aL n];exact j _ _ (l d i n e)
 ·rintro b g ⟨c,u,rfl,A,m,ai,l⟩;rw[cC,gG]at m;exact⟨Y,ag S c g A (λs a=>m s (sk s a)) (λd i e=>l d i (aA e r) (I _ _ (t _ _ e))) r⟩
def pA(g:Int->Row):aX->Row
 | .win n=>g n
 | .aF a b=>[(a,b)]
def bu(a:Y2)(e:Int):Wp:=if e<0 then a (-1-e) else [e]
def aW(a:Y2)(b:Wp):Wp:=b.flatMap (bu a)
def mJ(c:c9)(a:Y2):Prop:=∀ (x:Int) (b:Wp),0<=x->c[x.toNat]?=⇑b->a x=aW a b
def bK(a:Y2)(b:List aX):Row:=b.flatMap (pA λn=>cE (a n))
def rZ(t:List aX):Prop:=∀ a b,aX.aF a b∈t->a<b
def eN(a:Y2)(b c:List aX):bK a (b++c)=bK a b++bK a c:=by unfold bK;rw[List.flatMap_append]
def ji(a:Y2)(b:aX):bK a [b]=pA (λn=>cE (a n)) b:=by simp[bK]
def Mb(c:Y2)(t:List aX)(e:Int)(d:rZ t):bw (bK c (bN t e))=bw (bK c t)++bu c e/\rZ (bN t e):=by
 let i:∀ j:aX,(∀ a b,j=.aF a b->a<b)->rZ (t++[j]):=λj h a b k=>by
  rcases List.mem_append.mp k with z|z
  ·exact d a b z
  ·exact h a b (List.mem_singleton.mp z).symm
 unfold bN;by_cases h:e<0
 ·rw[if_pos h];refine⟨?_,i _ λa b z=>by cases z⟩;rw[eN,cU,ji];show _++bw (cE (c (-1-e)))=_;rw[dz];unfold bu;rw[if_pos h]
 ·rw[if_neg h]
  let n:bw [(e,e+1)]=[e]:=by
   rw[eX];unfold gf;have:(e+1-e).toNat=1:=by lia
   show run e (e+1-e).toNat=_;rw[this];rfl
  let l:bu c e=[e]:=by unfold bu;rw[if_neg h]
  let f:bw (bK c (t++[.aF e (e+1)]))=bw (bK c t)++bu c e/\rZ (t++[.aF e (e+1)]):=by
   refine⟨?_,i _ λa b z=>by cases z;lia⟩;rw[eN,cU,ji,l];show _++bw [(e,e+1)]=_;rw[n]
  rcases kO t with rfl|⟨g,o,rfl⟩
  ·exact f
  ·rw[jH]at d i f ⊢;rw[lX]
   cases o with
   | win n=>exact f
   | aF a b =>
    show bw (bK c (if b=e then (g++[aX.aF a b]).dropLast++[.aF a (e+1)] else (g++[aX.aF a b])++[.aF e (e+1)]))=_/\rZ (if b=e then (g++[aX.aF a b]).dropLast++[.aF a (e+1)] else (g++[aX.aF a b])++[.aF e (e+1)]);by_cases m:b=e
    ·subst m;let g:=d a b (by simp);rw[if_pos rfl,List.dropLast_concat];refine⟨?_,λp q k=>?_⟩
     ·rw[eN,eN,cU,cU,ji,ji,l,jI];congr 1;show bw [(a,b+1)]=bw [(a,b)]++[b];rw[eX,eX];unfold gf;show run a (b+1-a).toNat=run a (b-a).toNat++[b];have:(b+1-a).toNat=(b-a).toNat+1:=by lia
      rw[this,nP];congr 2;lia
     ·rcases List.mem_append.mp k with z|z
      ·exact d p q (oh _ z)
      ·let r:aX.aF p q=aX.aF a (b+1):=by simpa using z
       cases r;lia
    ·rw[if_neg m];exact f
def zM(b:Y2)(a:Wp):bw (bK b (aJ a))=aW b a/\rZ (aJ a):=by
 let z:∀ t:List aX,rZ t->bw (bK b (a.foldl bN t))=bw (bK b t)++aW b a/\rZ (a.foldl bN t):=by
  induction a with
  | nil=>intro t c;exact⟨by simp[aW],c⟩
  | cons e a d =>
   intro t c;let⟨f,g⟩:=Mb b t e c;let⟨c,e⟩:=d _ g;refine⟨?_,e⟩;rw[jJ,c,f,jI];unfold aW;rw[iY]
 let q:=z [] (λc d h=>by cases h);refine⟨?_,q.2⟩;unfold aJ;rw[q.1];rfl
def Mc(c:Y2)(d:aX)(h:∀ a b,d=.aF a b->a<b):↑(pA (λn=>cE (c n)) d)<=↑(bw (pA (λn=>cE (c n)) d)):=by
 cases d with
 | win n =>
  show ↑(cE (c n))<=↑(bw (cE (c n)));rw[dz];let z:=zj (c n) [];simpa [cE] using z
 | aF a b =>
  let e:=h a b rfl;show 1<=↑(bw [(a,b)]);rw[eX];unfold gf;show 1<=↑(run a (b-a).toNat);rw[Kc];lia
theorem tG(a:Y2):∀ b:List aX,rZ b->↑(bK a b)<=↑(bw (bK a b))
 | [],_=>by simp[bK]
 | it::b,h=>by
  let e:bK a (it::b)=pA (λn=>cE (a n)) it++bK a b:=by unfold bK;rw[iY]
  rw[e,cU,dm,dm];let c:=Mc a it (λc d z=>h c d (by rw[← z];simp));let d:=tG a b (λc d z=>h c d (j5 _ z));lia
def Me(f:Y2)(c:List aX)(h:rZ c):∀ p∈bK f c,p.1<=p.2:=by
 intro p d;unfold bK at d;let⟨g,i,e⟩:=List.mem_flatMap.mp d
 cases g with
 | win n=>exact jy _ p e
 | aF a b =>
  have:p=(a,b):=by simpa [pA] using e
  subst this;have:=h a b i;show a<=b;lia
class inductive Mf
 | mk (v:V) (b:aX) (e:Addr) (c:List (fK × V)) (g:Int->Row) (_:vs=[v,↥e]) (_:dH H v b) (_:H e=⇑(.dK c)) (_:(∀ n,b=.win n->∃ a,cG c (Sum.inl n)=⇑↥a/\bP H a (g n))) (_ :
 ∀ (a:Addr) (d:Hp),bP d a (pA g b)->aI H d->((∃ n,b=.win n/\cG c (Sum.inl n)=⇑↥a)\/H a=none)->Q ↥a d)
theorem xx:‹(1,26,["item","views"],Mf)›:=λD=>by
 specialize ef ["item","views"] D.WU.F;let⟨v,it,S,e,g,rfl,⟨a,rfl,b⟩,hS,hw,k⟩:=h;let e:=gH hr;exists _,#v[bR (aV eK (aQ bh (pv 0) az) bx (bz _)) #v[aK (eS e (pv 1) (aQ bh (pv 0) az))] bq,aK (bO #[cW #[aQ bh (pv 0) az,aQ bh (pv 0) az]])]
 all_goals try dsimp only[aP,aG]
 cases it with
 | win n =>
  refine⟨Y,a,K,V,dG.of b,V,Y,dD (λ_=>?_) (λz=>absurd (by decide) z)⟩;let⟨d,c,f⟩:=hw n rfl;let z:=gp.k (k:=Sum.inl n) hS;rw[c]at z;exact⟨Y,Y,a,K,V,dG.of b,1,S,Y,z,k d H f (aI.refl H) (.inl ⟨n,1,c⟩)⟩
 | aF p q =>
  refine⟨Y,a,K,V,dG.of b,V,Y,dD (λz=>absurd z (by decide)) (λ_=>?_)⟩;refine⟨Y,a,K,V,dG.of b,1,Y,a,K,V,dG.of b,1,lG,λt a=>⟨mF,λl c=>?_⟩⟩;let d:aI H (aO H t (.tup [.int p,.int q])):=ao a _;let a:=d.trans (ao c (.lst [↥t]));refine k l _ ⟨[t],af,.cons ?_ .nil⟩ a (.inr ?_)
  ·exact ao c _ _ _ af
  ·cases f:H l with
   | none=>rfl
   | some o=>exact absurd ((d _ _ f).symm.trans c) (by simp)
theorem bC.FE{H c:Hp}{d:Addr}{h:List (fK × V)}(e:H d=⇑(.dK h))(k:∀ a f,a≠d->H a=⇑f->c a=⇑f):∀ {g:WF} {r:Row},bC H g r->bC c g r
 | _,_,.nil=>.nil
 | _,_,.cons r t=>.cons (k _ _ (λz=>by
   let b:=r;unfold jW at b;rw[z,e]at b
   cases b) r) (bC.FE e k t)
def bP.FE{H c:Hp}{b a:Addr}{f:List (fK × V)}{d:Row}(g:H b=⇑(.dK f))(n:a≠b)(k:∀ a e,a≠b->H a=⇑e->c a=⇑e)(h:bP H a d):bP c a d:=by
 let⟨i,j,p⟩:=h;exact⟨i,k _ _ n j,p.FE g k⟩
def Kn(H:Hp)(b:List (fK × V))(c:Y2)(d:Wp):Prop:=∀ x∈d,∃ a,cG b (Sum.inl x)=⇑↥a/\bP H a (cE (c x))
class inductive SY
 | mk (r L:Addr) (b:c9) (c:Wp) (f:Y2) (_:vs=[↥r,↥L]) (_:gT H r (b.map aJ)) (_:H L=⇑(.lst (c.map V.int))) (_:↑c<=1000) (_:↑b<=1000) (_:(∀ i∈b,↑i<=1000)) (_:gD b) (_:C3 b) (_:(∀ s∈c,0<=s/\s<↑b)) (_:mJ b f) (_:(∀ x:Int,0<=x->x<↑b->↑(f x)<=10000)) (_ :
 ∀ (g:Addr) (h:List (fK × V)) (d:Wp) (e:Hp),e g=⇑(.dK h)->Kn e h f d->L0 b d->(∀ s∈c,s∈d)->(∀ x∈d,∀ a,cG h (Sum.inl x)=⇑↥a->H a=none)->aI H e->H g=none->Q ↥g e)
theorem jD:‹(3,27,["rows","sheets"],SY)›:=λD=>by
 specialize ef ["rows","sheets","views","number"] D.ON.F;let⟨ai,am,an,ss,b,rfl,hR,hL,ax,dR,ay,o7,xK,aB,wO,En,aN⟩:=h;let hu:=gH hr;refine⟨_,#v[aY 2 mC,eE PassesOwn.never rfl (cJ (aC D.WT (FA D) hr #[0,1])) (bV 3) #v[oF hu (pv 2) (pv 3) (aC D.WL (nV D) hr #[vN (N:=["item","stretch","views"]) (jO (c:=b8 oA) (f:=["rows","sheets","views","number"]) (d:=[none,none,some 2]) rfl rfl rfl nofun nofun rfl nofun rfl nofun) rfl (cJ (aQ bJ (pv 0) (pv 3))) (λ_ _ _ _ _ _=>(bV 0)) (λ_ _ _ _ _ _=>gy) (λ_ _ _ _ _ _=>(E6 (aC D.WU (xx D) hr #[0,2]))) (λ_ _ _ _ _ _=>(bV 1)) (λ_ _ _ _ _ _=>gy) (λ_ _ _ _ _ _=>(pv 1))]) rfl],aK (pv 2)],?_⟩
 all_goals try dsimp only[aP,aG]
 intro S T;let U:aI H (aO H S (.dK [])):=ao T _;refine⟨Y,Y,ai,am,an,ss,1,hR.same U,U _ _ hL,ax,dR,ay,o7,xK,aB,λF W H2 ho s2 X sk kl Zm=>?_⟩;let WD:=s2 _ _ (af (H:=H) (a:=S) (o:=.dK []));let aR:W≠S:=(aA af Zm).symm;refine⟨W,1,⟨_,bM.of ho⟩,dO (K:=K) (e:=W) (b:=F.map V.int) (λr f m=>∃ (i:List (fK × V)) (u:Option V),f=[⇑↥ai,⇑↥am,⇑↥S,u]/\m S=⇑(.dK i)/\Kn m i b (F.take r)/\↑i<=r/\(∀ x a,cG i (Sum.inl x)=⇑↥a->H a=none/\a≠S)/\(∀ a d,a≠S->H2 a=⇑d->m a=⇑d)) ⟨[],none,1,WD,(λy t=>by simp at t),fk _,(λx a e=>by cases e),λ_ _ _ e=>e⟩ ?_ ?_ ?_⟩
 ·rintro r f m _ ⟨_,_,_,_,_,_,_,v⟩;exact bM.of (v W _ aR ho)
 ·rintro r x f m hi ⟨i,u,rfl,G,w,aZ,ab,v⟩;rw[lD]at hi;let⟨x,A,rfl⟩:=Option.map_eq_some_iff.mp hi;let⟨x0,x1⟩:=X.Et x (lU A);obtain⟨c,fJ⟩:∃ c,an[x.toNat]?=⇑c:=⟨_,nj ∅⟩;let OZ:aI H m:=λa d e=>v a d (aA e T) (s2 _ _ (U _ _ e));let⟨tF,LX,W⟩:=hR.same OZ;let⟨vi,Dp,hI⟩:=W.get' (i:=x.toNat) (b:=aJ c) (by rw[lD,fJ];rfl);let⟨ak,QK,rfl,W,sR⟩:=id hI;let⟨Lh,ap⟩:=zM b c;have aq:=wO x c x0 fJ
  let jc:↑(bK b (aJ c))<=10000:=by
   let z:=tG b (aJ c) ap;rw[Lh,← aq]at z;have:=En x x0 x1;lia
  let a0:∀ j,↑(bK b ((aJ c).take j))<=10000:=λj=>by
   let e:bK b (aJ c)=bK b ((aJ c).take j)++bK b ((aJ c).drop j):=by rw[← eN,List.take_append_drop]
   rw[e,dm]at jc;lia
  let uL:oz tF x=⇑↥ak:=by
   let z:=cT Dp;rw[show ((x.toNat:Nat):Int)=x by lia]at z;exact z
  refine⟨Y,Y,ai,K,V,bM.of LX,uL,ak,1,⟨_,bM.of W⟩,λk cL=>qx (K:=K) (f:=ak) (a:=QK) (λj f B=>∃ (u ae:Option V) (o:WF),f=[u,ae,⇑↥S]/\B k=⇑(.lst (o.map V.ref))/\bC B o (bK b ((aJ c).take j))/\aI m B) ⟨none,none,[],1,af,.nil,ao cL _⟩ (λj f B _ ⟨K,K,g⟩=>bM.of (g _ _ W)) ?_ ?_⟩
  ·rintro j ae f B hj ⟨u,u2,o,rfl,h5,I,g⟩;let⟨it,ei,W⟩:=sR.get hj;let st:bK b ((aJ c).take (j+1))=bK b ((aJ c).take j)++pA (λn=>cE (b n)) it:=by rw[take_snoc ei,eN,ji]
   refine RP ?_;refine iz ?_;refine⟨Y,Y,ae,it,S,i,(λn=>cE (b n)),1,W.same g,g _ _ G,λn J=>?_,λa2 L R6 s a1=>?_⟩
   ·subst J
    let⟨a,l,C⟩:=w n (X.dn r x A n ⟨x0,c,fJ,by
     rw[← iO];unfold fF;rw[List.mem_filterMap]
     exact⟨.win n,lU ei,1⟩⟩)
    exact⟨a,l,C.same g⟩
   let⟨t,ar,p6⟩:=id R6
   let a3:a2≠k:=by
    rcases a1 with ⟨n,J,p⟩|J
    ·subst J
     let⟨a,l,y,q,_⟩:=w n (X.dn r x A n ⟨x0,c,fJ,by
      rw[← iO];unfold fF;rw[List.mem_filterMap]
      exact⟨.win n,lU ei,1⟩⟩)
     rw[p]at l;cases l;exact aA q cL
    ·exact (aA h5 J).symm
   let h6:=s _ _ h5;let J:=a0 (j+1);rw[st,dm]at J;let J:=I.len;let a4:=p6.len;refine⟨a2,1,⟨_,bM.of ar⟩,zx (K:=K) (j:=a2) (o:=k) (t:=qb 1) (tt:=Lr) (u:=Q4 1) (b:=t.map V.ref) (λp f l=>∃ v2:Option V,f=[⇑ae,v2,⇑↥S]/\l k=⇑(.lst ((o++t.take p).map V.ref))/\bC l (o++t.take p) (bK b ((aJ c).take j)++(pA (λn=>cE (b n)) it).take p)/\cy k L l/\aI m l) ?_ ?_ ?_ ?_⟩
   ·exact⟨u2,1,(by simpa using h6),(by simpa using I.same s),(λ_ _ e _=>e),g.trans s⟩
   ·rintro p f l _ ⟨_,_,_,_,M,_⟩;exact bM.of (M a2 _ ar a3)
   ·rintro p y f l hl ⟨v2,rfl,C,N,M,s7⟩;rw[lD]at hl;let⟨ag,O,rfl⟩:=Option.map_eq_some_iff.mp hl;let⟨R,a5,av⟩:=p6.get O
    let j:p<t.length:=by
     rcases Nat.lt_or_ge p t.length with q|q
     ·exact q
     ·rw[yh q]at O;cases O
    let aw:jW l ag R:=M ag _ av (λz=>by
     let q:L k=⇑(.tup [.int R.1,.int R.2]):=by rw[← z];exact av
     rw[h6]at q
     cases q)
    let K8:cy k l (aO l k (.lst ((o++t.take p).map V.ref++[↥ag]))):=aH k _ _;refine RP ?_;refine iz ?_;refine⟨Y,_,C,?_,Y,?_,?_,?_,bS cL s7 K8⟩
    ·rw[cC,dm,gw];exact aS ∅
    ·rw[af,take_snoc O,← jI,gx (l₁:=o++t.take p)];rfl
    ·rw[take_snoc O,take_snoc a5,← jI,← jI]
     exact bC.snoc (N.keep C K8) (K8 ag _ aw (λz=>by
      let q:l k=⇑(.tup [.int R.1,.int R.2]):=by rw[← z];exact aw
      rw[C]at q
      cases q))
    ·exact λa d e n=>K8 a d (M a d e n) n
   ·rintro f l ⟨v2,rfl,C,N,M,s7⟩;rw[cC,gG]at C N;rw[a4,gG]at N;exact⟨K,1,C,(by rw[st];exact N),s7⟩
  ·rintro f B ⟨u,u2,o,rfl,h5,I,g⟩;rw[sR.len,gG]at I
   let j:r<↑F:=by
    rcases Nat.lt_or_ge r ↑F with q|q
    ·exact q
    ·rw[yh q]at A;cases A
   refine⟨k,Y,⟨o,h5,I⟩,Q,λq L R6 s N=>?_⟩;let J:=s _ _ (g _ _ G);let O:q≠S:=(aA (g _ _ G) N).symm;let j:cA (bK b (aJ c))=cE (b x):=by rw[mw _ (Me b _ ap),Lh,aq]
   rw[j]at R6;let M:∀ a d,a≠S->L a=⇑d->aO L S (.dK (eO i (Sum.inl x) ↥q)) a=⇑d:=λa d n e=>by rw[aL n];exact e
   refine⟨Y,Y,S,Y,zq.k (k:=Sum.inl x) J (aS ∅),?_⟩;refine⟨eO i (Sum.inl x) ↥q,Y,af,λy t=>?_,?_,λy a e=>?_,λa d n e=>M a d n (s _ _ (g _ _ (v a d n e)))⟩
   ·rw[kg];by_cases p:y=x
    ·rw[if_pos (by rw[p]),p];exact⟨q,1,R6.FE J O M⟩
    ·rw[if_neg (λz=>p (Sum.inl.inj z))];rw[take_snoc A]at t;rcases List.mem_append.mp t with z|z
     ·let⟨a,l,C⟩:=w y z;exact⟨a,l,((C.same g).same s).FE J (ab y a l).2 M⟩
     ·exact absurd (by simpa using z) p
   ·have:=iE i (Sum.inl x) (V.ref q);lia
   ·rw[kg]at e;by_cases p:y=x
    ·rw[if_pos (by rw[p])]at e;cases e;refine⟨?_,O⟩
     cases z:H q with
     | none=>rfl
     | some d=>exact absurd ((g _ _ (OZ _ _ z)).symm.trans N) (by simp)
    ·rw[if_neg (λz=>p (Sum.inl.inj z))]at e;exact ab y a e
 ·rintro f m ⟨i,u,rfl,G,w,aZ,ab,v⟩;rw[cC,gG]at w;exact⟨Y,aN S i F m G w X sk (λx _ a e=>(ab x a e).1) (λa d e=>v a d (aA e T) (s2 _ _ (U _ _ e))) T⟩
class inductive S0
 | mk (r:Addr) (a:c9) (s:Int) (b:Y2) (_:vs=[↥r,.int s]) (_:gT H r (a.map aJ)) (_:↑a<=1000) (_:(∀ d∈a,↑d<=1000)) (_:gD a) (_:C3 a) (_:0<=s) (_:s<↑a) (_:mJ a b) (_:(∀ x:Int,0<=x->x<↑a->↑(b x)<=10000)) (_ :
 ∀ (o:Addr) (c:Hp),bP c o (cE (b s))->aI H c->H o=none->Q ↥o c)
theorem zN:‹(4,28,["rows","sheet"],S0)›:=λD=>by
 specialize ef ["rows","sheet"] D.Im.F;let⟨r,a,s,c,rfl,d,e,f,g,i,j,k,l,m,n⟩:=h;let b:=gH hr;exists _,#v[aK (eS b (aC D.ON (jD D) hr #[0,bO #[1]]) (pv 1))]
 all_goals try dsimp only[aP,aG]
 refine⟨Y,Y,mF,λL o=>?_⟩;let b:aI H (aO H L (.lst [.int s])):=ao o _;refine⟨r,L,a,[s],c,1,d.same b,af,(by simp),e,f,g,i,(λx a=>by rw[List.mem_singleton.mp a];exact⟨j,k⟩),l,m,λS c d e f g k a i j _=>?_⟩;let a:=a s (by simp);let⟨c,d,k⟩:=g s a;let z:=gp.k (k:=Sum.inl s) f;rw[d]at z;exact⟨Y,S,Y,z,n c e k (b.trans j) (aT b (i s a c d))⟩
def Xv:aX->aX->Bool
 | .aF _ b,.aF c _=>decide (b=c)
 | _,_=>false
class inductive Xw
 | mk (x y:V) (i j:aX) (_:vs=[x,y]) (_:dH H x i) (_:dH H y j) (_:Q (.bl (Xv i j)) H)
theorem Iu:‹(1,29,["one","other"],Xw)›:=λD=>by
 specialize ef ["one","other"] D.i5.F;let⟨x,y,i,j,rfl,⟨a,rfl,b⟩,⟨c,rfl,d⟩,k⟩:=h;exists _,#v[aK (om (j0 eK (aQ bh (pv 0) az) bx (bz _)) (om (j0 eK (aQ bh (pv 1) az) bx (bz _)) (pY (j0 eK (aQ bh (pv 0) az) (aQ bh (pv 1) az) (bz _)))))]
 all_goals try dsimp only[aP,aG]
 cases i with
 | win n=>exact⟨Y,a,K,V,dG.of b,V,Y,dD (λz=>absurd z (by decide)) (λ_=>k)⟩
 | aF p q =>
  refine⟨Y,a,K,V,dG.of b,V,Y,dD (λ_=>?_) (λz=>absurd (by decide) z)⟩
  cases j with
  | win n=>exact⟨Y,c,K,V,dG.of d,V,Y,dD (λz=>absurd z (by decide)) (λ_=>k)⟩
  | aF u v =>
   refine⟨Y,c,K,V,dG.of d,V,Y,dD (λ_=>?_) (λz=>absurd (by decide) z)⟩;exists Y,a,K,V,dG.of b,1,Y,c,K,V,dG.of d,V
   let e:decide (V.int q=V.int u)=decide (q=u):=by
    by_cases c:q=u
    ·rw[c];simp
    ·let a:¬ V.int q=V.int u:=λz=>c (V.int.inj z);rw[decide_eq_false c,decide_eq_false a]
   rw[e];exact k
def bY(t:List aX)(c:aX):List aX :=
 match t.getLast?,c with
 | some (.aF a b),.aF d e=>if b=d then t.dropLast++[.aF a e] else t++[c]
 | _,_=>t++[c]
def Iv(a:List aX):List aX:=a.foldl bY []
def Iw(a:List aX):∀ t:List aX,↑(a.foldl bY t)<=↑t+↑a:=by
 induction a with
 | nil=>intro t;simp
 | cons e a b =>
  intro t;rw[jJ];let z:=b (bY t e)
  let b:↑(bY t e)<=↑t+1:=by
   unfold bY;split
   ·split
    ·rw[dm,List.length_dropLast,gW];lia
    ·simp
   ·simp
  rw[eZ];lia
class inductive Dr
 | mk (r:Addr) (a:List aX) (_:vs=[↥r]) (_:bX H ↥r a) (_:↑a<=1000000) (_ :
 ∀ (o:Addr) (b:Hp),bX b ↥o (Iv a)->aI H b->H o=none->Q ↥o b)
theorem iG:‹(2,30,["items"],Dr)›:=λD=>by
 refine ef ["items","told","item"] D.LV.F λcZ A zn s H vs Q E hr _ h=>?_;let⟨r,c,rfl,⟨W,M,u,F,G⟩,X,k⟩:=h;cases u;refine⟨_,#v[aY 1 (bO ah),eE PassesOwn.never rfl (cJ (pv 0)) (bV 2) #v[bR (PW.pt (pX (ju (pv 1) (λ_=>rfl)) (mX (iU (aC D.i5 (Iu D) hr #[aQ bJ (pv 1) (gZ fD az),2]))))) #v[lZ (cW #[bx,aQ bh (aQ bJ (pv 1) (gZ fD az)) az,aQ bh (pv 2) az]) (oq (pv 1) (gZ fD az) jv)] #v[aU (dM n9 jm jo bU (pv 1) #[2])]],aK (pv 1)],?_⟩
 all_goals try dsimp only[aP,aG]
 refine⟨gK,λq l=>?_⟩;let s0:aI H (aO H q (.lst [])):=ao l _;refine⟨Y,r,1,⟨_,bM.of (s0 _ _ F)⟩,dO (K:=K) (e:=r) (b:=M) (λi m b=>∃ (vs:List V) (v:Option V),m=[⇑↥r,⇑↥q,v]/\b q=⇑(.lst vs)/\cF (dH b) vs ((c.take i).foldl bY [])/\aI H b) ⟨[],none,1,af,.nil,s0⟩ (by rintro i m b _ ⟨_,_,_,_,_,s⟩;exact bM.of (s _ _ F)) ?_ ?_⟩
 ·rintro i x m b N ⟨vs,v,rfl,a,e,s⟩;let⟨f,F,M⟩:=G.get N;let y:=M.same s;let step:(c.take (i+1)).foldl bY []=bY ((c.take i).foldl bY []) f:=by rw[take_snoc F,List.foldl_append];rfl
  let n:↑vs<sizeLine:=by
   let z:=e.len;let d:=Iw (c.take i) [];rw[gw,oj]at d;exact aS ∅
  let o:bY ((c.take i).foldl bY []) f=(c.take i).foldl bY []++[f]->∃ (F:List V) (M:Option V),[⇑(V.ref r),⇑↥q,⇑x]=[⇑↥r,⇑↥q,M]/\(aO b q (.lst (vs++[x]))) q=⇑(.lst F)/\cF (dH (aO b q (.lst (vs++[x])))) F ((c.take (i+1)).foldl bY [])/\aI H (aO b q (.lst (vs++[x]))):=λu=>by
   refine⟨P,1,af,?_,bS l s (aH q _ _)⟩;rw[step,u];exact cF.snoc (e.mono λd i h=>h.keep a (aH q _ _)) (y.keep a (aH q _ _))
  rcases kO ((c.take i).foldl bY []) with d|⟨B,I,d⟩
  ·let g:vs=[]:=by
    rw[d]at e;exact List.eq_nil_of_length_eq_zero e.len
   subst g;refine⟨Y,false,.inl ⟨_,bM.of a,1⟩,eT (eT ?_)⟩;refine⟨Y,.inl ⟨1,_,bM.of a⟩,Y,q,Z,a,n,o ?_⟩;rw[d];rfl
  ·rw[jH]at d;let J:=e;rw[d]at J;let⟨O,v0,rfl,R,L⟩:=J.split;let⟨S,rfl,T⟩:=id L;refine⟨Y,true,.inl ⟨_,bM.of a,by simp⟩,iz ?_⟩;exists Y,Y,q,K,V,bM.of a,gB _ _,Y,P,I,f,1,L,y,Y
   cases I with
   | win j =>
    refine eT ?_;refine⟨Y,.inl ⟨1,_,bM.of a⟩,Y,q,Z,a,n,o ?_⟩;rw[d];unfold bY;rw[lX]
   | aF p g =>
    cases f with
    | win j =>
     refine eT ?_;refine⟨Y,.inl ⟨1,_,bM.of a⟩,Y,q,Z,a,n,o ?_⟩;rw[d];unfold bY;rw[lX]
    | aF j t =>
     refine dD (λz=>?_) (λz=>?_)
     ·let C:g=j:=of_decide_eq_true z;let⟨U,rfl,f⟩:=id y;refine⟨Y,Y,q,K,V,bM.of a,gB _ _,S,K,V,dG.of T,1,Y,U,K,V,dG.of f,1,OL,λr f=>?_⟩;refine⟨Y,Y,q,P,↑O,V,ao f _ _ _ a,(by rw[dm];exact EV _),?_⟩;rw[ze];refine⟨P,1,af,?_,bS l (s.trans (ao f _)) (aH q _ _)⟩
      let r:(c.take (i+1)).foldl bY []=B++[.aF p t]:=by
       rw[step,d];unfold bY;rw[lX,List.dropLast_concat];show (if g=j then B++[aX.aF p t] else _)=_;rw[if_pos C]
      rw[r];exact cF.new (it:=.aF p t) a R f _
     ·let C:¬ g=j:=λw=>z (decide_eq_true w);refine⟨Y,.inl ⟨1,_,bM.of a⟩,Y,q,Z,a,n,o ?_⟩;rw[d];unfold bY;rw[lX];show (if g=j then _ else B++[aX.aF p g]++[aX.aF j t])=_;rw[if_neg C]
 ·rintro m b ⟨vs,v,rfl,a,e,s⟩;rw[G.len,gG]at e;exact⟨Y,k q b ⟨q,vs,1,a,e⟩ s l⟩
def cY(r:Row):List aX:=r.map λp=>.aF p.1 p.2
class inductive Tc
 | mk (r:Addr) (a:Row) (_:vs=[↥r]) (_:bP H r a) (_:↑a<=100000) (_ :
 ∀ (o:Addr) (b:Hp),bX b ↥o (cY (cA a))->aI H b->H o=none->Q ↥o b)
theorem mK:‹(2,31,["row"],Tc)›:=λD=>by
 specialize ef ["row"] D.Ft.F;let⟨m,b,rfl,R,q,s⟩:=h;refine⟨_,#v[aK (gC (N:=["start","stop"]) (jO (c:=b8 HE) (f:=["row"]) (d:=[none,none]) rfl rfl rfl nofun nofun rfl nofun rfl nofun) rfl (cJ (aC D.WL (nV D) hr #[0])) (λ_ _ _ _ _ _=>(qM (n:=2) rfl (bT (bV 0) (bT (bV 1) gi)))) (λ_ _ _ _ _ _=>gy) (λ_ _ _ _ _ _=>(cW #[bx,0,1])))],?_⟩
 all_goals try dsimp only[aP,aG]
 refine⟨Y,m,b,1,R,Q,λq t w l m=>?_⟩;let⟨x,m,n⟩:=id w;let w:=iN b;refine⟨q,1,⟨_,bM.of m⟩,λc g=>gu (K:=K) (h:=q) (a:=x.map V.ref) (λi e a=>∃ (u v:Option V) (vs:List V),e=[u,v]/\a c=⇑(.lst vs)/\cF (dH a) vs (cY ((cA b).take i))/\aI t a) ⟨none,none,[],1,af,.nil,ao g _⟩ (by rintro i e a _ ⟨_,_,_,_,_,_,s0⟩;exact bM.of (s0 _ _ m)) ?_ ?_⟩
 ·rintro i A e a o ⟨u,v,vs,rfl,f,d,s0⟩;rw[lD]at o;let⟨y,z,rfl⟩:=Option.map_eq_some_iff.mp o;let⟨⟨p,r⟩,o,q⟩:=n.get z;let m:=d.len;unfold cY at m;rw[cC,gw]at m;refine⟨y,Y,dG.of (s0 _ _ q),1,P,1,Z,yes (iz ?_)⟩;refine⟨Y,Y,OL,λt j=>?_⟩;refine⟨vs,ao j _ _ _ f,aS ∅,K,1,af,?_,bS g (s0.trans (ao j _)) (aH c _ _)⟩
  let k:cY ((cA b).take (i+1))=cY ((cA b).take i)++[.aF p r]:=by
   rw[take_snoc o];unfold cY;rw[gx];rfl
  rw[k];exact cF.new (it:=.aF p r) f d j _
 ·rintro e a ⟨u,v,vs,rfl,f,d,s0⟩;rw[cC,n.len,gG]at d;refine s c a ⟨c,vs,1,f,d⟩ (l.trans s0) ?_
  cases k:H c with
  | none=>rfl
  | some o=>exact absurd ((l _ _ k).symm.trans g) (by simp)
def fV:aX->List Int
 | .win n=>[-1-n]
 | .aF a b=>run a (b-a).toNat
def dI(a:List aX):Wp:=a.flatMap fV
def ly:aX->Prop
 | .win n=>0<=n
 | .aF a b=>0<=a/\a<b
def gg(a:List aX):Prop:=∀ b∈a,ly b
def fO(a b:List aX):dI (a++b)=dI a++dI b:=by unfold dI;rw[List.flatMap_append]
def ko(a:aX):dI [a]=fV a:=by simp[dI]
theorem gg.append{a b:List aX}(h:gg a)(g:gg b):gg (a++b):=λc d=>(List.mem_append.mp d).elim (h c) (g c)
theorem gg.one{a:aX}(h:ly a):gg [a]:=λc b=>by rw[List.mem_singleton.mp b];exact h
def O1(t:List aX){n:Int}(h:0<=n):bN t (-1-n)=t++[.win n]:=by
 unfold bN;rw[if_pos ∅];congr 3;lia
def Mg(t:List aX)(p s:Int)(h:0<=s):bN (t++[.aF p s]) s=t++[.aF p (s+1)]:=by
 unfold bN;rw[if_neg ∅,lX];show (if s=s then (t++[aX.aF p s]).dropLast++[.aF p (s+1)] else _)=_;rw[if_pos rfl,List.dropLast_concat]
theorem Ci(t:List aX)(p:Int):∀ (n:Nat) (s:Int),0<=s->(run s n).foldl bN (t++[.aF p s])=t++[.aF p (s+n)]
 | 0,s,_=>by simp[run]
 | n+1,s,h=>by
  rw[run,jJ,Mg t p s h,Ci t p n (s+1) ∅];congr 3;lia
def Iz(t:List aX)(c:aX)(h:ly c):bY t c=(fV c).foldl bN t:=by
 cases c with
 | win n =>
  show bY t (.win n)=bN t (-1-n);rw[O1 t h];unfold bY
  cases t.getLast? with
  | none=>rfl
  | some l=>cases l <;> rfl
 | aF a b =>
  let⟨e,f⟩:=h;let e:(b-a).toNat=(b-(a+1)).toNat+1:=by lia
  show bY t (.aF a b)=(run a (b-a).toNat).foldl bN t;rw[e,run,jJ]
  let d:∀ (u:List aX) (p:Int),(run (a+1) (b-(a+1)).toNat).foldl bN (u++[.aF p (a+1)])=u++[.aF p b]:=λu p=>by
   rw[Ci u p _ _ ∅];congr 3;lia
  unfold bY bN;rw[if_neg ∅]
  cases t.getLast? with
  | none=>exact (d t a).symm
  | some l =>
   cases l with
   | win n=>exact (d t a).symm
   | aF p q =>
    show (if q=a then t.dropLast++[aX.aF p b] else t++[aX.aF a b])=List.foldl bN (if q=a then t.dropLast++[aX.aF p (a+1)] else t++[aX.aF a (a+1)]) _;by_cases e:q=a
    ·rw[if_pos e,if_pos e,d]
    ·rw[if_neg e,if_neg e,d]
def kq(a:List aX)(h:gg a):Iv a=aJ (dI a):=by
 unfold Iv aJ dI;rw[mq]
 let z:∀ (a:List aX) (t:List aX),gg a->a.foldl bY t=a.foldl (λc b=>(fV b).foldl bN c) t:=by
  intro a
  induction a with
  | nil=>intro t _;rfl
  | cons it a b =>
   intro t h;rw[jJ,jJ,Iz t it (h it (by simp))];exact b _ λi b=>h i (j5 _ b)
 exact z a [] h
def Mh(t:List aX)(e:Int)(h:gg t):dI (bN t e)=dI t++[e]/\gg (bN t e):=by
 unfold bN;by_cases f:e<0
 ·rw[if_pos f,fO,ko];refine⟨?_,h.append (gg.one (by show 0<=-1-e;lia))⟩;show dI t++[-1-(-1-e)]=_;rw[show -1-(-1-e)=e by lia]
 ·rw[if_neg f]
  let c:dI (t++[.aF e (e+1)])=dI t++[e]/\gg (t++[.aF e (e+1)]):=by
   refine⟨?_,h.append (gg.one ⟨Q,Q⟩)⟩;rw[fO,ko];show _++run e (e+1-e).toNat=_;rw[show (e+1-e).toNat=1 by lia];rfl
  rcases kO t with rfl|⟨d,l,rfl⟩
  ·exact c
  ·rw[jH]at h c ⊢;rw[lX]
   cases l with
   | win n=>exact c
   | aF a b =>
    show dI (if b=e then (d++[aX.aF a b]).dropLast++[.aF a (e+1)] else (d++[aX.aF a b])++[.aF e (e+1)])=_/\gg (if b=e then (d++[aX.aF a b]).dropLast++[.aF a (e+1)] else (d++[aX.aF a b])++[.aF e (e+1)]);by_cases g:b=e
    ·subst g;obtain⟨i,d⟩:0<=a/\a<b:=h (.aF a b) (by simp);rw[if_pos rfl,List.dropLast_concat];refine⟨?_,gg.append (λd f=>h d (oh _ f)) (gg.one ⟨i,Q⟩)⟩;rw[fO,fO,ko,ko,jI];congr 1;show run a (b+1-a).toNat=run a (b-a).toNat++[b];rw[show (b+1-a).toNat=(b-a).toNat+1 by lia,nP];congr 2;lia
    ·rw[if_neg g];exact c
def mL(a:Wp):dI (aJ a)=a/\gg (aJ a):=by
 let z:∀ (a:Wp) (t:List aX),gg t->dI (a.foldl bN t)=dI t++a/\gg (a.foldl bN t):=by
  intro a
  induction a with
  | nil=>intro t h;exact⟨by simp,h⟩
  | cons e a d =>
   intro t h;let⟨b,c⟩:=Mh t e h;let⟨e,f⟩:=d _ c;exact⟨by rw[jJ,e,b,jI];rfl,f⟩
 let⟨b,c⟩:=z a [] (λi d=>by cases d);exact⟨by unfold aJ;rw[b];rfl,c⟩
def nX(r:Row):dI (cY r)=bw r:=by
 unfold dI cY bw;rw[List.flatMap_map];rfl
def uN{r:Row}(h:jz r):gg (cY r):=by
 intro c a;unfold cY at a;let⟨p,b,rfl⟩:=List.mem_map.mp a;exact h p b
def Mi{a:Wp}(h:∀ x∈a,0<=x):cY (cE a)=aJ a:=by
 let z:∀ (a:Wp) (t:Row),(∀ x∈a,0<=x)->cY (a.foldl (λt n=>iL t n (n+1)) t)=a.foldl bN (cY t):=by
  intro a
  induction a with
  | nil=>intro t _;rfl
  | cons n a c =>
   intro t h;rw[jJ,jJ,c _ λx c=>h x (j5 _ c)];congr 1;let c:=h n (by simp);unfold iL bN;rw[if_neg ∅];rcases kO t with rfl|⟨b,l,rfl⟩
   ·rfl
   ·rw[jH,lX];let e:(cY (b++[l])).getLast?=⇑(.aF l.1 l.2):=by unfold cY;rw[gx];exact lX
    rw[e];show cY (if l.2=n then (b++[l]).dropLast++[(l.1,n+1)] else b++[l]++[(n,n+1)])=if l.2=n then (cY (b++[l])).dropLast++[.aF l.1 (n+1)] else cY (b++[l])++[.aF n (n+1)];by_cases c:l.2=n
    ·rw[if_pos c,if_pos c,List.dropLast_concat];unfold cY;rw[gx,gx];simp
    ·rw[if_neg c,if_neg c];unfold cY;rw[gx];rfl
 exact z a [] h
abbrev mW:=aX × Row × Int × Int
def dB(a:Y2)(b:aX):Row:=pA (λn=>cE (a n)) b
def bZ(a:Y2):Int->List aX->List mW
 | _,[]=>[]
 | f,it::r=>(it,dB a it,f,f+jc (dB a it))::bZ a (f+jc (dB a it)) r
theorem uO(a:Y2)(c:List aX):∀ (b:List aX) (f:Int),bZ a f (b++c)=bZ a f b++bZ a (f+jc (bK a b)) c
 | [],f=>by simp[bZ,bK,jc]
 | it::b,f=>by
  rw[List.cons_append,bZ,bZ,uO a c b,List.cons_append];let e:bK a (it::b)=dB a it++bK a b:=by unfold bK;rw[iY];rfl
  rw[e,zd,Int.add_assoc]
theorem Cj(b:Y2):∀ (a:List aX) (f:Int),↑(bZ b f a)=↑a
 | [],_=>rfl
 | _::a,f=>by rw[bZ,eZ,eZ,Cj b a]
def mO(N:Y1)(H:Hp)(v:V)(d:mW):Prop:=∃ (b a:Addr) (x:V),v=↥b/\H b=⇑(.tup [x,↥a,.int d.2.2.1,.int d.2.2.2])/\dH H x d.1/\bP H a d.2.1/\N a
theorem mO.same{N:Y1}{H a:Hp}{v:V}{d:mW}(s:aI H a):mO N H v d->mO N a v d:=λ⟨b,c,x,e,h,i,r,n⟩=>⟨b,c,x,e,s _ _ h,i.same s,r.same s,n⟩
theorem mO.keep{N:Y1}{H c:Hp}{v:V}{d:mW}{q:Addr}{f:List V}(b:H q=⇑(.lst f))(g:∀ a,N a->a≠q)(k:cy q H c):mO N H v d->mO N c v d:=λ⟨a,e,x,i,h,j,r,n⟩=>⟨a,e,x,i,k a _ h (by
 intro z;rw[z,b]at h
 cases h),j.keep b k,r.keep b (g e n) k,n⟩
def vW(H:Hp)(b:List (fK × V))(c:Y2)(d:List aX):Prop:=∀ n,aX.win n∈d->∃ a,cG b (Sum.inl n)=⇑↥a/\bP H a (cE (c n))
theorem vW.same{H a:Hp}{b:List (fK × V)}{c:Y2}{d:List aX}(s:aI H a)(h:vW H b c d):vW a b c d:=λn e=>by
 let⟨f,g,r⟩:=h n e;exact⟨f,g,r.same s⟩
def aD(p:Int)(d:mW):List aX:=if d.2.2.2<=p then [d.1] else if p<=d.2.2.1 then [] else cY (cA (kM 0 (p-d.2.2.1) 0 d.2.1))
def bD(p:Int)(d:mW):List aX:=if d.2.2.2<=p then [] else if p<=d.2.2.1 then [d.1] else cY (cA (kM (p-d.2.2.1) (d.2.2.2-d.2.2.1) 0 d.2.1))
def aE(a:Y2)(p:Int):Int->List Int->List Int
 | _,[]=>[]
 | f,e::r=>(if f+↑(bu a e)<=p then [e] else if p<=f then [] else (bu a e).take (p-f).toNat)++aE a p (f+↑(bu a e)) r
def bE(a:Y2)(p:Int):Int->List Int->List Int
 | _,[]=>[]
 | f,e::r=>(if f+↑(bu a e)<=p then [] else if p<=f then [e] else (bu a e).drop (p-f).toNat)++bE a p (f+↑(bu a e)) r
def ck(a:Y2)(e:Int)(r:Wp):aW a (e::r)=bu a e++aW a r:=by unfold aW;rw[iY]
def jE(a:Y2)(b c:Wp):aW a (b++c)=aW a b++aW a c:=by unfold aW;rw[List.flatMap_append]
theorem vX(a:Y2)(p:Int)(y:Wp):∀ (x:Wp) (f:Int),aE a p f (x++y)=aE a p f x++aE a p (f+↑(aW a x)) y
 | [],f=>by simp[aE,aW]
 | e::x,f=>by
  rw[List.cons_append,aE,aE,vX a p y x,jI,ck,dm,Int.add_assoc]
  push_cast
  rfl
theorem vY(a:Y2)(p:Int)(y:Wp):∀ (x:Wp) (f:Int),bE a p f (x++y)=bE a p f x++bE a p (f+↑(aW a x)) y
 | [],f=>by simp[bE,aW]
 | e::x,f=>by
  rw[List.cons_append,bE,bE,vY a p y x,jI,ck,dm,Int.add_assoc]
  push_cast
  rfl
def qQ(a:Y2){e:Int}(h:0<=e):bu a e=[e]:=by unfold bu;rw[if_neg ∅]
theorem lP(b:Y2):∀ (n:Nat) (a:Int),0<=a->aW b (run a n)=run a n
 | 0,_,_=>rfl
 | n+1,a,h=>by rw[run,ck,qQ b h,lP b n (a+1) ∅];rfl
theorem O2(b:Y2)(p:Int):∀ (n:Nat) (a f:Int),0<=a->aE b p f (run a n)=(run a n).take (p-f).toNat
 | 0,_,_,_=>by simp[run,aE]
 | n+1,a,f,h=>by
  rw[run,aE,O2 b p n (a+1) _ ∅,qQ b h];show (if f+1<=p then [a] else if p<=f then [] else _)++(run (a+1) n).take (p-(f+1)).toNat=_;by_cases c:f+1<=p
  ·rw[if_pos c,show (p-f).toNat=(p-(f+1)).toNat+1 by lia];rfl
  ·rw[if_neg c,if_pos ∅,show (p-f).toNat=0 by lia,show (p-(f+1)).toNat=0 by lia];rfl
theorem O5(b:Y2)(p:Int):∀ (n:Nat) (a f:Int),0<=a->bE b p f (run a n)=(run a n).drop (p-f).toNat
 | 0,_,_,_=>by simp[run,bE]
 | n+1,a,f,h=>by
  rw[run,bE,O5 b p n (a+1) _ ∅,qQ b h];show (if f+1<=p then [] else if p<=f then [a] else _)++(run (a+1) n).drop (p-(f+1)).toNat=_;by_cases c:f+1<=p
  ·rw[if_pos c,show (p-f).toNat=(p-(f+1)).toNat+1 by lia];rfl
  ·rw[if_neg c,if_pos ∅,show (p-f).toNat=0 by lia,show (p-(f+1)).toNat=0 by lia];rfl
def O6(a:Y2){n:Int}(h:0<=n):bu a (-1-n)=a n:=by
 unfold bu;rw[if_pos ∅,show -1-(-1-n)=n by lia]
def uP(d:Y2)(c:aX)(h:ly c):∀ q∈dB d c,q.1<=q.2:=by
 cases c with
 | win n=>exact jy _
 | aF a b =>
  intro q e;have:q=(a,b):=by simpa [dB,pA] using e
  subst this;have:=h.2;show a<=b;lia
def jY(c:Y2)(d:aX)(h:ly d):bw (dB c d)=aW c (fV d):=by
 cases d with
 | win n =>
  show bw (cE (c n))=aW c [-1-n];rw[dz,ck,O6 c h];simp[aW]
 | aF a b =>
  show bw [(a,b)]=aW c (run a (b-a).toNat);rw[eX,lP c _ _ h.1];rfl
def ku(b:Y2)(a:aX)(h:ly a):jc (dB b a)=↑(aW b (fV a)):=by
 rw[← jY b a h,qI _ (uP b a h)]
def rn(c:Y2)(p f:Int)(d:aX)(h:ly d):dI (aD p (d,dB c d,f,f+jc (dB c d)))=aE c p f (fV d):=by
 let tt:=ku c d h
 let e:dI (cY (cA (kM 0 (p-f) 0 (dB c d))))=(aW c (fV d)).take (p-f).toNat:=by
  rw[nX,oE _ _ _ (uP c d h),jY c d h];rfl
 unfold aD;show dI (if f+jc (dB c d)<=p then [d] else if p<=f then [] else cY (cA (kM 0 (p-f) 0 (dB c d))))=_;rw[tt]
 cases d with
 | win n =>
  let g:aW c (fV (.win n))=bu c (-1-n):=by show aW c [-1-n]=_;rw[ck];simp[aW]
  rw[g]at e ⊢;show _=aE c p f [-1-n];rw[aE,aE,gR];split
  ·rfl
  ·split
   ·rfl
   ·exact e
 | aF a b =>
  let g:aW c (fV (.aF a b))=run a (b-a).toNat:=lP c _ _ h.1;rw[g]at e ⊢;show _=aE c p f (run a (b-a).toNat);rw[O2 c p _ _ _ h.1];let g:=eG a (b-a).toNat;split
  ·rename_i i;rw[ko,tS ∅];rfl
  ·split
   ·rename_i i;rw[show (p-f).toNat=0 by lia];rfl
   ·exact e
def ro(c:Y2)(p f:Int)(d:aX)(h:ly d):dI (bD p (d,dB c d,f,f+jc (dB c d)))=bE c p f (fV d):=by
 let tt:=ku c d h
 let e:dI (cY (cA (kM (p-f) (f+jc (dB c d)-f) 0 (dB c d))))=(aW c (fV d)).drop (p-f).toNat:=by
  rw[nX,oE _ _ _ (uP c d h),jY c d h,tS (by rw[tt];lia)]
 unfold bD;show dI (if f+jc (dB c d)<=p then [] else if p<=f then [d] else cY (cA (kM (p-f) (f+jc (dB c d)-f) 0 (dB c d))))=_;let i:(f+jc (dB c d)<=p)=(f+↑(aW c (fV d))<=p):=by rw[tt]
 simp only[i]
 cases d with
 | win n =>
  let g:aW c (fV (.win n))=bu c (-1-n):=by show aW c [-1-n]=_;rw[ck];simp[aW]
  rw[g]at e ⊢;show _=bE c p f [-1-n];rw[bE,bE,gR];split
  ·rfl
  ·split
   ·rfl
   ·exact e
 | aF a b =>
  let g:aW c (fV (.aF a b))=run a (b-a).toNat:=lP c _ _ h.1;rw[g]at e ⊢;show _=bE c p f (run a (b-a).toNat);rw[O5 c p _ _ _ h.1];let g:=eG a (b-a).toNat;split
  ·rename_i j;rw[xE ∅];rfl
  ·split
   ·rename_i j;rw[ko,show (p-f).toNat=0 by lia];rfl
   ·exact e
theorem FF(a:Y2)(p:Int):∀ (b:List aX) (f:Int),gg b->dI ((bZ a f b).flatMap (aD p))=aE a p f (dI b)
 | [],f,_=>rfl
 | it::r,f,h=>by
  let c:=h it (by simp);rw[bZ,iY,fO,rn a p f it c,FF a p r _ λi d=>h i (j5 _ d)];let e:dI (it::r)=fV it++dI r:=by unfold dI;rw[iY]
  rw[e,vX,ku a it c]
theorem Ck(a:Y2)(p:Int):∀ (b:List aX) (f:Int),gg b->dI ((bZ a f b).flatMap (bD p))=bE a p f (dI b)
 | [],f,_=>rfl
 | it::r,f,h=>by
  let c:=h it (by simp);rw[bZ,iY,fO,ro a p f it c,Ck a p r _ λi d=>h i (j5 _ d)];let e:dI (it::r)=fV it++dI r:=by unfold dI;rw[iY]
  rw[e,vY,ku a it c]
def Td(a:Y2)(b:List aX):Prop:=∀ n,aX.win n∈b->∀ x∈a n,0<=x
def Te(d:Y2)(c:aX)(h:ly c)(g:∀ n,c=.win n->∀ x∈d n,0<=x):lu (dB d c):=by
 cases c with
 | win n=>exact (BX (g n rfl)).nn
 | aF a b =>
  intro q e;have:q=(a,b):=by simpa [dB,pA] using e
  subst this;exact⟨h.1,by have:=h.2;show a<=b;lia⟩
theorem yc(a:Y2):∀ (c:List aX) (f:Int),gg c->Td a c->∀ d∈bZ a f c,ly d.1/\lu d.2.1
 | [],_,_,_=>λd b=>by cases b
 | it::r,f,h,g=>by
  intro d b;rw[bZ]at b;rcases List.mem_cons.mp b with rfl|z
  ·exact⟨h it (by simp),Te a it (h it (by simp)) λn e=>g n (by rw[e];simp)⟩
  ·exact yc a r _ (λi b=>h i (j5 _ b)) (λn b=>g n (j5 _ b)) d z
theorem zO{a b:Int}{r:Row}(h:lu r):gg (cY (cA (kM a b 0 r))):=uN (nR (zA a b r 0 h))
def rp{p:Int}{d:mW}(h:ly d.1)(g:lu d.2.1):gg (aD p d):=by
 unfold aD;split
 ·exact gg.one h
 ·split
  ·exact λi a=>by cases a
  ·exact zO g
def rr{p:Int}{d:mW}(h:ly d.1)(g:lu d.2.1):gg (bD p d):=by
 unfold bD;split
 ·exact λi a=>by cases a
 ·split
  ·exact gg.one h
  ·exact zO g
theorem uQ{g:mW->List aX}{l:List mW}(h:∀ d∈l,gg (g d)):gg (l.flatMap g):=λb a=>by
 let⟨d,c,a⟩:=List.mem_flatMap.mp a;exact h d c b a
def yd(r:Row):↑(cY r)=↑r:=by unfold cY;rw[cC]
def qR(a b:Int)(r:Row):↑(cY (cA (kM a b 0 r)))<=↑r:=by
 rw[yd];exact ig (iN _) (jX a b r 0)
theorem zP(a:Y2){g:mW->List aX}(c:∀ d,↑(g d)<=↑d.2.1+1):∀ (b:List aX) (f:Int),↑((bZ a f b).flatMap g)<=↑(bK a b)+↑b
 | [],_=>by simp[bZ]
 | it::r,f=>by
  rw[bZ,iY,dm];let e:=c (it,dB a it,f,f+jc (dB a it));let i:=zP a c r (f+jc (dB a it));let h:bK a (it::r)=dB a it++bK a r:=by unfold bK;rw[iY];rfl
  rw[h,dm,eZ];simp only at e;lia
def Xx(p:Int)(d:mW):↑(aD p d)<=↑d.2.1+1:=by
 unfold aD;split
 ·simp
 ·split
  ·simp
  ·exact ig (qR _ _ _) ∅
def Xy(p:Int)(d:mW):↑(bD p d)<=↑d.2.1+1:=by
 unfold bD;split
 ·simp
 ·split
  ·simp
  ·exact ig (qR _ _ _) ∅
def iP{a b:Type}(g:a->List b)(l:List a)(i:Nat):↑((l.take i).flatMap g)<=↑(l.flatMap g):=by
 let e:l.flatMap g=(l.take i).flatMap g++(l.drop i).flatMap g:=by rw[← List.flatMap_append,List.take_append_drop]
 rw[e,dm];lia
def qS{a c:Type}(g:a->List c){l:List a}{i:Nat}{b:a}(h:l[i]?=⇑b):(l.take (i+1)).flatMap g=(l.take i).flatMap g++g b:=by
 rw[take_snoc h,List.flatMap_append];simp
def uR(a:Y2){c:List aX}{b:aX}(h:b∈c):↑(dB a b)<=↑(bK a c):=by
 let⟨f,d,rfl⟩:=List.append_of_mem h;rw[eN];let e:bK a (b::d)=dB a b++bK a d:=by unfold bK;rw[iY];rfl
 rw[e,dm,dm];lia
def Ko(A B:Addr)(H b:Hp):Prop:=∀ a o,H a=⇑o->a≠A->a≠B->b a=⇑o
theorem Ko.tup{A B:Addr}{H c:Hp}{d e:List V}(k:Ko A B H c)(f:H A=⇑(.lst d))(g:H B=⇑(.lst e)):∀ a b,H a=⇑(.tup b)->c a=⇑(.tup b):=λa b h=>k a _ h (λz=>by
 rw[z,f]at h;cases h) (λz=>by
 rw[z,g]at h
 cases h)
theorem dH.tups{H b:Hp}{v:V}{c:aX}(t:∀ a d,H a=⇑(.tup d)->b a=⇑(.tup d)):dH H v c->dH b v c:=λ⟨a,e,h⟩=>⟨a,e,t a _ h⟩
theorem mO.Vf{N:Y1}{A B:Addr}{H f:Hp}{v:V}{g:mW}{i j:List V}(b:H A=⇑(.lst i))(c:H B=⇑(.lst j))(n:∀ a,N a->a≠A/\a≠B)(k:Ko A B H f):mO N H v g->mO N f v g:=λ⟨a,d,x,l,h,m,⟨o,p,q⟩,e⟩ =>
 ⟨a,d,x,l,k.tup b c _ _ h,m.tups (k.tup b c),⟨o,k _ _ p (n d e).1 (n d e).2,q.tups (k.tup b c)⟩,e⟩
def cF.app{b c:Type}{a:b->c->Prop}{d e:List b}{f g:List c}(h:cF a d f)(t:cF a e g):cF a (d++e) (f++g):=by
 induction h with
 | nil=>exact t
 | cons i _ j=>exact .cons i j
structure lC(H1:Hp)(A B:Addr)(l1 l2:List aX)(H2:Hp):Prop where
 a:∃ vs,H2 A=⇑(.lst vs)/\cF (dH H2) vs l1
 b:∃ vs,H2 B=⇑(.lst vs)/\cF (dH H2) vs l2
 k:Ko A B H1 H2
def lC.same{c d e:Hp}{A B:Addr}{f g:List aX}(p:lC c A B f g d)(s:aI d e):lC c A B f g e:=by
 let⟨⟨b,h,i⟩,⟨j,l,m⟩,k⟩:=p;exact⟨⟨b,s _ _ h,i.mono λ_ _ h=>h.same s⟩,⟨j,s _ _ l,m.mono λ_ _ h=>h.same s⟩,λa o b n m=>s _ _ (k a o b n m)⟩
def lC.Kp{f c:Hp}{A B:Addr}{g h j:List aX}{d e:List V}(p:lC f A B g h c)(n:A≠B)(l:c A=⇑(.lst d))(m:cF (dH c) e j):lC f A B (g++j) h (aO c A (.lst (d++e))):=by
 let⟨⟨i,b,o⟩,⟨q,r,s⟩,k⟩:=p;rw[l]at b;cases b;let kp:∀ v i,dH c v i->dH (aO c A (.lst (d++e))) v i:=λv i b=>b.keep l (aH A _ _);refine⟨⟨_,af,(o.mono kp).app (m.mono kp)⟩,⟨q,by rw[aL n.symm];exact r,s.mono kp⟩,λa o i b q=>?_⟩;rw[aL b];exact k a o i b q
def lC.Kq{f c:Hp}{A B:Addr}{g h j:List aX}{d e:List V}(p:lC f A B g h c)(n:A≠B)(l:c B=⇑(.lst d))(m:cF (dH c) e j):lC f A B g (h++j) (aO c B (.lst (d++e))):=by
 let⟨⟨o,q,r⟩,⟨i,b,s⟩,k⟩:=p;rw[l]at b;cases b;let kp:∀ v i,dH c v i->dH (aO c B (.lst (d++e))) v i:=λv i b=>b.keep l (aH B _ _);refine⟨⟨o,by rw[aL n];exact q,r.mono kp⟩,⟨_,af,(s.mono kp).app (m.mono kp)⟩,λa o i q b=>?_⟩;rw[aL b];exact k a o i q b
def nY{b:c9}{c:Y2}(j:gD b)(l:C3 b)(m:mJ b c):∀ x:Int,0<=x->x<↑b->∀ y∈c x,0<=y:=by
 let⟨d,a,n⟩:=l
 let o:∀ (k:Nat) (x:Int),d x<k->0<=x->x<↑b->∀ y∈c x,0<=y:=by
  intro k
  induction k with
  | zero=>intro x h;lia
  | succ k k =>
   intro x e f g y a;let g:b[x.toNat]?=⇑b[x.toNat]:=nj ∅;rw[m x _ f g]at a;unfold aW at a;let⟨e,p,a⟩:=List.mem_flatMap.mp a;unfold bu at a;by_cases h:e<0
   ·rw[if_pos h]at a;let i:jP b x (-1-e):=⟨f,_,g,cK.mpr ⟨Q,by rw[show -1-(-1-e)=e by lia];exact p⟩⟩;let⟨e,f⟩:=j.Em i;have:=n _ _ i;exact k _ ∅ e f y a
   ·rw[if_neg h]at a;rw[List.mem_singleton.mp a];lia
 exact λx=>o (d x+1) x (Nat.lt_succ_self _)
def qT{b:c9}{s n:Int}{a:Wp}(c:0<=s)(d:b[s.toNat]?=⇑a)(h:aX.win n∈aJ a):jP b s n:=by
 exists c,a,d;rw[← iO];unfold fF;rw[List.mem_filterMap];exact⟨.win n,h,1⟩
structure oM(H:Hp)(r:Addr)(rows:c9)(sh:Y2):Prop where
 at_:gT H r (rows.map aJ)
 len:↑rows<=1000
 ents:∀ es∈rows,↑es<=1000
 snd:gD rows
 rk:C3 rows
 O7:mJ rows sh
 bd:∀ x:Int,0<=x->x<↑rows->↑(sh x)<=10000
theorem oM.same{H a:Hp}{r:Addr}{b:c9}{c:Y2}(s:aI H a)(h:oM H r b c):oM a r b c:={ h with at_:=h.at_.same s }
structure rx(H:Hp)(r:Addr)(rows:c9)(sh:Y2)(s:Int)(es:Wp)(tF:List V)(b:Addr):Prop where
 he:rows[s.toNat]?=⇑es
 hr:H r=⇑(.lst tF)
 ix:oz tF s=⇑↥b
 it:bX H ↥b (aJ es)
 il:↑(aJ es)<=1000
 rl:↑(bK sh (aJ es))<=10000
 tt:jc (cE (sh s))=↑(sh s)
 se:sh s=aW sh es
def oM.one{H:Hp}{r:Addr}{a:c9}{b:Y2}{s:Int}(h:oM H r a b)(f:0<=s)(j:s<↑a):∃ k d e,rx H r a b s k d e:=by
 let c:a[s.toNat]?=⇑a[s.toNat]:=nj ∅;let⟨d,l,i⟩:=h.at_;let⟨n,m,g⟩:=i.get' (i:=s.toNat) (b:=aJ a[s.toNat]) (by rw[lD,c];rfl);let⟨e,o,rfl,i,n⟩:=id g;let z:=cT m;rw[show ((s.toNat:Nat):Int)=s by lia]at z;let m:=qN a[s.toNat] [];let i:=h.ents _ (lU c);let⟨n,o⟩:=zM b a[s.toNat];let i:=h.O7 s _ f c;refine⟨_,d,e,c,l,z,g,?_,?_,?_,i⟩
 ·show ↑(a[s.toNat].foldl bN [])<=_;simp only[oj]at m;lia
 ·let q:=tG b (aJ a[s.toNat]) o;rw[n,← i]at q;have:=h.bd s f j;lia
 ·rw[← qI _ (jy _),dz]
def lQ(a:Wp):↑(cE a)<=↑a:=by
 let z:=zj a [];simpa [cE] using z
def fX(b:Y2)(p:Int)(a c:Wp):Wp:=if c=[] then a else aE b p 0 a++c++bE b p 0 a
class inductive Tf
 | mk (r f:Addr) (b:List aX) (d:List (fK × V)) (e:Y2) (N:Y1) (_:vs=[↥r,↥f]) (_:bX H ↥r b) (_:H f=⇑(.dK d)) (_:vW H d e b) (_:↑b<=100000) (_:(∀ h∈b,↑(dB e h)<=100000)) (_:(∀ n a,aX.win n∈b->cG d (Sum.inl n)=⇑↥a->N a)) (_:(∀ a,H a=none->N a)) (_ :
 ∀ (o:Addr) (g:List V) (c:Hp),c o=⇑(.lst g)->cF (mO N c) g (bZ e 0 b)->aI H c->H o=none->Q ↥o c)
theorem FG:‹(2,32,["items","views"],Tf)›:=λD=>by
 refine ef ["items","views","told","first","item","row","last"] D.WV.F λcZ A zn s H vs Q E hr _ h=>?_
 let⟨r,S,d,R,a,N,rfl,⟨r',T,f,G,I⟩,hS,hW,dR,U,W,X,k⟩:=h;cases f;exists _,#v[aY 2 (bO ah),aY 3 az,eE PassesOwn.never rfl (cJ (pv 0)) (bV 4) #v[aY 5 (aC D.WU (xx D) hr #[4,1]),aY 6 (bI dP (pv 3) (_eU.qO D.WM (D.T.nA _ D.WM.m) (Di D) hr #[5])),aU (dM n9 jm jo bU (pv 2) #[cW #[4,5,3,6]]),aY 3 (pv 6)],aK (pv 2)]
 all_goals try dsimp only[aP,aG]
 refine⟨gK,λq o=>?_⟩;let s0:aI H (aO H q (.lst [])):=ao o _;refine⟨Y,r,1,⟨_,bM.of (s0 _ _ G)⟩,dO (K:=K) (e:=r) (b:=T) (λi p g=>∃ (vs:List V) (y z B:Option V),p=[⇑↥r,⇑↥S,⇑↥q,⇑(.int (0+jc (bK a (d.take i)))),y,z,B]/\g q=⇑(.lst vs)/\cF (mO (λc=>N c/\c≠q) g) vs (bZ a 0 (d.take i))/\aI H g) ⟨[],none,none,none,1,af,.nil,s0⟩ (by rintro i p g _ ⟨_,_,_,_,_,_,_,s⟩;exact bM.of (s _ _ G)) ?_ ?_⟩
 ·rintro i x p g hi ⟨vs,y,z,B,rfl,t,l,s⟩;let⟨e,C,J⟩:=I.get hi;let u:=lU C;let G:=l.len;rw[Cj,gw]at G;refine⟨Y,Y,x,e,S,R,λn=>cE (a n),1,J.same s,s _ _ hS,λn G=>(hW.same s) n (by rw[← G];exact u),λc G L v w3=>?_⟩
  let M:N c/\c≠q:=by
   rcases w3 with ⟨n,rfl,j⟩|m
   ·exists W n c u j;let⟨b,w,⟨G,F,_⟩⟩:=hW n u;rw[j]at w;cases w;exact aA F o
   ·exact⟨X c (aT s m),(aA t m).symm⟩
  refine⟨Y,Y,c,dB a e,1,L,ig (U e u) (by decide),λu m=>⟨Z,?_⟩⟩;let F:=m _ _ (v _ _ t);refine⟨Y,.inl ⟨1,_,bM.of F⟩,Y,Y,Y,Y,Dd,λO j=>?_⟩;let w:=ao j (.tup [x,↥c,.int (0+jc (bK a (d.take i))),.int (0+jc (bK a (d.take i))+jc (dB a e))]) _ _ F;refine⟨q,Z,w,aS ∅,?_⟩;refine⟨Y,_,⇑x,⇑↥c,⇑(.int (0+jc (bK a (d.take i))+jc (dB a e))),?_,af,?_,bS o (s.trans (v.trans (m.trans (ao j _)))) (aH q _ _)⟩
  ·let f:bK a (d.take (i+1))=bK a (d.take i)++dB a e:=by rw[take_snoc C,eN,ji];rfl
   rw[f,zd,← Int.add_assoc];rfl
  ·let f:bZ a 0 (d.take (i+1))=bZ a 0 (d.take i)++[(e,dB a e,0+jc (bK a (d.take i)),0+jc (bK a (d.take i))+jc (dB a e))]:=by rw[take_snoc C,uO];rfl
   rw[f];let a:O≠q:=(aA F j).symm;refine cF.snoc (l.mono λab ae h=>(((h.same v).same m).same (ao j _)).keep w (λc h=>h.2) (aH q _ _)) ⟨O,c,x,1,?_,?_,?_,M⟩
   ·rw[aL a,af]
   ·exact ((((J.same s).same v).same m).same (ao j _)).keep w (aH q _ _)
   ·exact (((L.same m).same (ao j _))).keep w M.2 (aH q _ _)
 ·rintro p g ⟨vs,y,z,B,rfl,t,l,s⟩;rw[I.len,gG]at l;exact⟨Y,k q vs g t (l.mono λab ae ⟨c,a,x,f,h,i,r,n⟩=>⟨c,a,x,f,h,i,r,n.1⟩) s o⟩
class inductive IA
 | mk (r e o:Addr) (p:Int) (a c:List aX) (f:List (fK × V)) (b:Y2) (_:vs=[↥r,↥e,.int p,↥o]) (_:bX H ↥r a) (_:H e=⇑(.dK f)) (_:vW H f b a) (_:bX H ↥o c) (_:gg a) (_:gg c) (_:Td b a) (_:↑a<=50000) (_:↑(bK b a)<=50000) (_:c.length<=50000) (_ :
 ∀ (q:Addr) (d:Hp),bX d ↥q (aJ (aE b p 0 (dI a)++dI c++bE b p 0 (dI a)))->aI H d->H q=none->Q ↥q d)
theorem uS:‹(3,33,["items","views","place","others"],IA)›:=λD=>by
 refine ef ["items","views","place","others","ahead","behind","item","row","first","last"] D.WW.F λcZ A zn s H vs Q E hr _ h=>?_
 let⟨ab,ae,ag,p,a,x,an,b,rfl,hI,hS,hW,hO,O,U9,nn,l1,l2,l3,ap⟩:=h;refine⟨_,#v[aY 4 (bO ah),aY 5 (bO ah),eE PassesOwn.never rfl (cJ (aC D.WV (FG D) hr #[0,1])) (kQ (n:=4) rfl (bT (bV 6) (bT (bV 7) (bT (bV 8) (bT (bV 9) gi))))) #v[bR (aV gj (pv 9) (pv 2) (bz _)) #v[aU (dM n9 jm jo bU (pv 4) #[6])] #v[bR (aV gj (pv 2) (pv 8) (bz _)) #v[aU (dM n9 jm jo bU (pv 5) #[6])] #v[sF (i:=4) (by assumption) rfl (Or.inl rfl) (aC D.Ft (mK D) hr #[aC D.WN (qP D) hr #[7,az,bI cV (pv 2) (pv 8)]]) vP,sF (i:=5) (by assumption) rfl (Or.inl rfl) (aC D.Ft (mK D) hr #[aC D.WN (qP D) hr #[7,bI cV (pv 2) (pv 8),bI cV (pv 9) (pv 8)]]) vP]]],aK (aC D.LV (iG D) hr #[bI iV (bI iV (pv 4) (pv 3)) (pv 5)])],?_⟩
 all_goals try dsimp only[aP,aG]
 refine⟨gK,λA R=>⟨gK,λB x=>?_⟩⟩;let sA:aI H (aO H A (.lst [])):=ao R _;let n:aI _ (aO (aO H A (.lst [])) B (.lst [])):=ao x _;let s0:=sA.trans n;let w:A≠B:=aA af x;let MZ:=aT sA x;refine⟨Y,Y,ab,ae,a,an,b,λi=>i≠A/\i≠B,1,hI.same s0,s0 _ _ hS,hW.same s0,Q,(λf S=>by have:=uR b S;lia),?_,?_,λD dv H1 hD Rz T _=>?_⟩
 ·intro d i f g;let⟨j,e,k,c,_⟩:=hW d f;rw[g]at e;cases e;exact⟨aA c R,aA c MZ⟩
 ·intro i c;exact⟨(aA (n _ _ af) c).symm,(aA af c).symm⟩
 let ai:=T _ _ (n _ _ (af (H:=H) (a:=A) (o:=.lst [])));let ak:=T _ _ (af (H:=aO H A (.lst [])) (a:=B) (o:=.lst []))
 let x:D≠A/\D≠B:=by
  rename_i c;exact⟨(aA (n _ _ af) c).symm,(aA af c).symm⟩
 let n:=zP b (Xx p) a 0;let n:=zP b (Xy p) a 0;let C:=yc b a 0 O nn;refine⟨D,1,⟨_,bM.of hD⟩,dO (K:=K) (e:=D) (b:=dv) (λj F k=>∃ U W X u4:Option V,F=[⇑↥ab,⇑↥ae,⇑(.int p),⇑↥ag,⇑↥A,⇑↥B,U,W,X,u4]/\lC H1 A B (((bZ b 0 a).take j).flatMap (aD p)) (((bZ b 0 a).take j).flatMap (bD p)) k) ⟨none,none,none,none,1,⟨_,ai,.nil⟩,⟨_,ak,.nil⟩,λ_ _ e _ _=>e⟩ (by rintro j F k _ ⟨_,_,_,_,_,pv⟩;exact bM.of (pv.k _ _ hD x.1 x.2)) ?_ ?_⟩
 ·rintro j aN F k S ⟨U,W,X,u4,rfl,pv⟩;let⟨m,ed,n⟩:=Rz.get S;let aq:=n.Vf ai ak (λi h=>h) pv.k;let⟨i,ra,xi,rfl,ar,am,QN,av⟩:=aq;let G:=qS (aD p) ed;let I:=qS (bD p) ed;let n:=iP (aD p) (bZ b 0 a) j;let n:=iP (bD p) (bZ b 0 a) j;let aw:=iP (aD p) (bZ b 0 a) (j+1);let ax:=iP (bD p) (bZ b 0 a) (j+1);let⟨q,r,J⟩:=pv.a;let⟨v2,t,L⟩:=pv.b;let z1:=J.len;let z2:=L.len;let⟨f,c,d,g⟩:=m
  let n:↑c<=50000:=by
   let z:=lU ed
   have:∃ n∈a,c=dB b n:=by
    let u:∀ (a:List aX) (o:Int),(f,c,d,g)∈bZ b o a->∃ n∈a,c=dB b n:=by
     intro a
     induction a with
     | nil=>intro o h;cases h
     | cons n x y =>
      intro o h;rw[bZ]at h;rcases List.mem_cons.mp h with e|e
      ·cases e;exact⟨f,by simp,1⟩
      ·let⟨n,v,l⟩:=y _ e;exact⟨n,j5 _ v,l⟩
    exact u a 0 z
   let⟨n,v,rfl⟩:=this;have:=uR b v;lia
  exists i,Y,dG.of ar,1,P,1,P,1,P,1,Z;refine⟨Y,Y,Z,Y,dD (λx=>?_) (λx=>?_)⟩
  ·let n:g<=p:=of_decide_eq_true x;refine⟨Y,.inl ⟨1,_,bM.of r⟩,Y,A,Z,r,aS ∅,?_⟩;exists K,Y;rw[G,I];let l:aD p (f,c,d,g)=[f]:=by unfold aD;rw[if_pos n]
   let u:bD p (f,c,d,g)=[]:=by unfold bD;rw[if_pos n]
   rw[l,u,gR];exact pv.Kp w r (.cons am .nil)
  ·let n:¬ g<=p:=λz=>x (decide_eq_true z);refine⟨Y,Y,Z,Y,dD (λo=>?_) (λo=>?_)⟩
   ·let x:p<=d:=of_decide_eq_true o;refine⟨Y,.inl ⟨1,_,bM.of t⟩,Y,B,Z,t,aS ∅,?_⟩;exists K,Y;rw[G,I];let l:aD p (f,c,d,g)=[]:=by unfold aD;rw[if_neg n,if_pos x]
    let u:bD p (f,c,d,g)=[f]:=by unfold bD;rw[if_neg n,if_pos x]
    rw[l,u,gR];exact pv.Kq w t (.cons am .nil)
   ·let x:¬ p<=d:=λz=>o (decide_eq_true z);have l:aD p (f,c,d,g)=cY (cA (kM 0 (p-d) 0 c)):=by unfold aD;rw[if_neg n,if_neg x]
    let u:bD p (f,c,d,g)=cY (cA (kM (p-d) (g-d) 0 c)):=by unfold bD;rw[if_neg n,if_neg x]
    rw[G,l,dm]at aw;rw[I,u,dm]at ax;refine⟨Y,Y,Y,Y,Z,ra,c,0,p-d,1,QN,Q,λf x n M z=>⟨f,Y,n,ig (jX _ _ _ _) ∅,λq2 H4 f N n=>?_⟩⟩;let⟨n,v,e3,h3,y⟩:=f;cases e3;let z3:=y.len;let f:=N _ _ (M _ _ r);refine⟨A,q2,Z,f,h3,gJ (aS ∅),?_⟩;let ay:=((pv.same M).same N).Kp w f y;let n:bP (aO H4 A (.lst (q++v))) ra c:=((QN.same M).same N).keep f av.1 (aH A _ _);let aB:(aO H4 A (.lst (q++v))) B=⇑(.lst v2):=by rw[aL w.symm];exact N _ _ (M _ _ t)
    refine⟨Y,Y,Y,Y,Z,Y,Y,Z,ra,c,p-d,g-d,1,n,Q,λc f d s6 g=>⟨c,Y,d,ig (jX _ _ _ _) ∅,λq4 d c s7 f=>?_⟩⟩;let⟨d,f,e4,h4,t4⟩:=c;cases e4;let c:=t4.len;let c:=s7 _ _ (s6 _ _ aB);refine⟨B,q4,Z,c,h4,gJ (aS ∅),?_⟩;exists K,Y;rw[G,I,l,u];exact ((ay.same s6).same s7).Kq w c t4
 ·rintro F k ⟨U,W,X,u4,rfl,pv⟩;let c:=Rz.len;rw[c,gG]at pv;let⟨q,r,J⟩:=pv.a;let⟨v2,t,L⟩:=pv.b;let z1:=J.len;let z2:=L.len;let d:aI H k:=λi c e=>pv.k i c (T _ _ (s0 _ _ e)) (aA e R) (aA e MZ);let⟨c,v,e3,h3,y⟩:=hO.same d;cases e3;have z3:=y.len;refine⟨Y,Y,A,ag,Z,r,h3,gJ (aS ∅),λc e=>?_⟩;have f:aI k (aO k c (.lst (q++v))):=ao e _;refine⟨Y,c,B,Z,af,f _ _ t,gJ (aS (by rw[dm];lia)),λo e=>?_⟩;have g:aI _ (aO (aO k c (.lst (q++v))) o (.lst (q++v++v2))):=ao e _;have e:=f.trans g;refine⟨o,Y,⟨o,Y,af,((J.app y).app L).mono λv j h=>h.same e⟩,by rw[dm,dm];lia,λu g f i j=>?_⟩;have k:gg ((bZ b 0 a).flatMap (aD p)):=uQ λm c=>rp (C m c).1 (C m c).2;have l:gg ((bZ b 0 a).flatMap (bD p)):=uQ λm c=>rr (C m c).1 (C m c).2;rw[kq _ ((k.append U9).append l),fO,fO,FF b p a 0 O,Ck b p a 0 O]at f;exact ap u g f (d.trans (e.trans i)) (aT (d.trans e) j)
class inductive xA
 | mk (r o:Addr) (b:c9) (s p:Int) (a:List aX) (c:Y2) (_:vs=[↥r,.int s,.int p,↥o]) (_:oM H r b c) (_:0<=s) (_:s<↑b) (_:bX H ↥o a) (_:gg a) (_:↑a<=10000) (_:0<=p/\p<=↑(c s)) (_:(∀ (e:Wp) (q:Addr) (d:Hp),b[s.toNat]?=⇑e->bX d ↥q (aJ (fX c p e (dI a)))->aI H d->H q=none->Q ↥q d))
def O8{c:List aX}(h:gg c):dI c=[]↔c=[]:=by
 refine⟨λe=>?_,λe=>by rw[e];rfl⟩
 cases c with
 | nil=>rfl
 | cons it r =>
  let f:dI (it::r)=fV it++dI r:=by unfold dI;rw[iY]
  rw[f]at e;let d:=(List.append_eq_nil_iff.mp e).1
  cases it with
  | win n=>cases d
  | aF a b =>
   let e:a<b:=(h (.aF a b) (by simp)).2;have:=eG a (b-a).toNat;let e:run a (b-a).toNat=[]:=d;rw[e]at this;simp only[oj]at this;lia
theorem oN:‹(4,34,["rows","sheet","place","items"],xA)›:=λD=>by
 specialize ef ["rows","sheet","place","items","views"] D.SH.F;let⟨r,G,I,s,p,J,g,rfl,R,e,i,M,u,N,n,v⟩:=h;let w:=gH hr;refine⟨_,#v[aY 4 (aC D.ON (jD D) hr #[0,bO #[1]]),aU (aC D.Yw (gU D) hr #[eS w (pv 4) (pv 1),2,2]),bR (ir (ju (pv 3) (λ_=>rfl))) #v[aK (aC D.LV (iG D) hr #[aQ bJ (pv 0) (pv 1)])] bq,aK (aC D.WW (uS D) hr #[aQ bJ (pv 0) (pv 1),4,2,3])],?_⟩
 all_goals try dsimp only[aP,aG]
 refine⟨Y,Y,mF,λL T=>?_⟩;let w:aI H (aO H L (.lst [.int s])):=ao T _;refine⟨r,L,I,[s],g,1,R.at_.same w,af,by simp,R.len,R.ents,R.snd,R.rk,(λx a=>by rw[List.mem_singleton.mp a];exact⟨e,i⟩),R.O7,R.bd,λS U T X x y W I j L ab=>?_⟩;let A:=I s (by simp);let⟨I,T,X⟩:=y s A;let z:=gp.k (k:=Sum.inl s) x;rw[T]at z;let d:=w.trans L;let w:=R.bd s e i;let w:=lQ (g s);let⟨b,w,L,O⟩:=(R.same d).one e i;refine⟨Y,Y,S,Y,z,Y,Y,I,cE (g s),p,p,1,X,Q,⟨n.1,Int.le_refl _,by rw[O.tt];exact n.2⟩,λn c=>?_⟩
 ·let⟨n,w,B,a⟩:=(R.same (d.trans c)).one e i;let ee:b=n:=pW (O.he.symm.trans a.he);subst ee;let C:=M.same (d.trans c);let⟨i,k,eo,ho,to⟩:=id C;cases eo;exists Y,!k.isEmpty,.inl ⟨_,bM.of ho,1⟩;let F:=to.len
  cases J with
  | nil =>
   have:k=[]:=List.eq_nil_of_length_eq_zero (by simpa using F);subst this;refine iz ?_;refine⟨Y,Y,r,K,V,bM.of a.hr,a.ix,B,aJ b,1,a.it,ig a.il (by decide),λq l f m o=>?_⟩;refine v b q l O.he ?_ (d.trans (c.trans m)) (aT (d.trans c) o);let⟨i,t⟩:=mL b;rw[kq _ t,i]at f;exact f
  | cons it r0 =>
   have:(!k.isEmpty)=true:=by
    cases k with
    | nil=>simp at F
    | cons _ _=>rfl
   rw[this];refine eT ?_;refine⟨Y,Y,r,K,V,bM.of a.hr,a.ix,Y,Y,Y,B,S,G,p,aJ b,it::r0,U,g,1,a.it,c _ _ x,λn j=>?_,C,(mL b).2,u,λn j=>?_,ig a.il (by decide),ig a.rl (by decide),ig N (by decide),λq l f m o=>?_⟩
   ·let a:=qT e O.he j;let⟨i,g⟩:=List.getElem?_of_mem A;let⟨k,t,R2⟩:=y n (List.mem_of_mem_take (W.dn i s g n a));exact⟨k,t,R2.same c⟩
   ·let a:=qT e O.he j;let⟨e,g⟩:=R.snd.Em a;exact nY R.snd R.rk R.O7 n e g
   ·refine v b q l O.he ?_ (d.trans (c.trans m)) (aT (d.trans c) o);rw[(mL b).1]at f;unfold fX;rw[if_neg (λz=>by cases (O8 u).mp z)];exact f
def kD(a b:Int)(d:mW):List aX:=if d.2.2.2<=a\/b<=d.2.2.1 then [d.1] else if a<=d.2.2.1/\d.2.2.2<=b then [] else cY (cA (kM 0 (a-d.2.2.1) 0 d.2.1++kM (b-d.2.2.1) (d.2.2.2-d.2.2.1) 0 d.2.1))
def tD(a b:Int)(d:mW):List aX:=if d.2.2.2<=a\/b<=d.2.2.1 then [] else if a<=d.2.2.1/\d.2.2.2<=b then [d.1] else cY (cA (kM (a-d.2.2.1) (b-d.2.2.1) 0 d.2.1))
def Kr(a:Y2)(b c f e:Int):Wp:=if f+↑(bu a e)<=b\/c<=f then [e] else if b<=f/\f+↑(bu a e)<=c then [] else (bu a e).take (b-f).toNat++(bu a e).drop (c-f).toNat
def M4(a:Y2)(b c f e:Int):Wp:=if f+↑(bu a e)<=b\/c<=f then [] else if b<=f/\f+↑(bu a e)<=c then [e] else ((bu a e).take (c-f).toNat).drop (b-f).toNat
def kE(a:Y2)(b c:Int):Int->List Int->List Int
 | _,[]=>[]
 | f,e::r=>Kr a b c f e++kE a b c (f+↑(bu a e)) r
def tE(a:Y2)(b c:Int):Int->List Int->List Int
 | _,[]=>[]
 | f,e::r=>M4 a b c f e++tE a b c (f+↑(bu a e)) r
theorem vZ(a:Y2)(b c:Int)(y:Wp):∀ (x:Wp) (f:Int),kE a b c f (x++y)=kE a b c f x++kE a b c (f+↑(aW a x)) y
 | [],f=>by simp[kE,aW]
 | e::x,f=>by
  rw[List.cons_append,kE,kE,vZ a b c y x,jI,ck,dm,Int.add_assoc]
  push_cast
  rfl
theorem v7(a:Y2)(b c:Int)(y:Wp):∀ (x:Wp) (f:Int),tE a b c f (x++y)=tE a b c f x++tE a b c (f+↑(aW a x)) y
 | [],f=>by simp[tE,aW]
 | e::x,f=>by
  rw[List.cons_append,tE,tE,v7 a b c y x,jI,ck,dm,Int.add_assoc]
  push_cast
  rfl
def Yz{a f:Int}(h:f<a):(a-f).toNat=(a-(f+1)).toNat+1:=by lia
theorem M5{a f:Int}(h:a<=f):(a-f).toNat=0:=Int.toNat_of_nonpos (Int.sub_nonpos_of_le h)
theorem YA{a f:Int}(h:a<=f):(a-(f+1)).toNat=0:=M5 (Int.le_trans h (Int.le_of_lt (Int.lt_succ f)))
theorem nS{a f:Int}(h:¬ f+1<=a):a<=f:=Int.not_lt.mp h
theorem O9(e:Y2){b c:Int}(g:b<c):∀ (n:Nat) (x f:Int),0<=x->kE e b c f (run x n)=(run x n).take (b-f).toNat++(run x n).drop (c-f).toNat
 | 0,_,_,_=>by simp[run,kE]
 | n+1,x,f,h=>by
  rw[run,kE,O9 e g n (x+1) _ ∅];unfold Kr;rw[qQ e h];show (if f+1<=b\/c<=f then [x] else if b<=f/\f+1<=c then [] else _)++((run (x+1) n).take (b-(f+1)).toNat++(run (x+1) n).drop (c-(f+1)).toNat)=_;by_cases a:f+1<=b
  ·rw[if_pos (.inl a),Yz a,Yz (Int.lt_trans a g)];rfl
  ·by_cases d:c<=f
   ·rw[if_pos (.inr d),M5 (nS a),M5 d,YA (nS a),YA d];rfl
   ·rw[if_neg (λz=>z.elim a d),if_pos ⟨nS a,Int.not_le.mp d⟩,M5 (nS a),Yz (Int.not_le.mp d),YA (nS a)];rfl
theorem Pa(e:Y2){a b:Int}(g:a<b):∀ (n:Nat) (x f:Int),0<=x->tE e a b f (run x n)=((run x n).take (b-f).toNat).drop (a-f).toNat
 | 0,_,_,_=>by simp[run,tE]
 | n+1,x,f,h=>by
  rw[run,tE,Pa e g n (x+1) _ ∅];unfold M4;rw[qQ e h];show (if f+1<=a\/b<=f then [] else if a<=f/\f+1<=b then [x] else _)++((run (x+1) n).take (b-(f+1)).toNat).drop (a-(f+1)).toNat=_;by_cases c:f+1<=a
  ·rw[if_pos (.inl c),Yz c,Yz (Int.lt_trans c g)];rfl
  ·by_cases d:b<=f
   ·rw[if_pos (.inr d),M5 d,YA d];simp
   ·rw[if_neg (λz=>z.elim c d),if_pos ⟨nS c,Int.not_le.mp d⟩,M5 (nS c),Yz (Int.not_le.mp d),YA (nS c)];rfl
def Mm{a b t:Int}{r:Row}(c:∀ p∈r,p.1<=p.2)(h:↑(bw r)<=t.toNat):bw (cA (kM 0 a 0 r++kM b t 0 r))=(bw r).take a.toNat++(bw r).drop b.toNat:=by
 rw[j8 _ (Wx (CZ _ _ _ _) (CZ _ _ _ _)),cU,qK _ _ _ _ c,qK _ _ _ _ c];show ((bw r).take (a-0).toNat).drop 0++((bw r).take (t-0).toNat).drop (b-0).toNat=_;rw[Int.sub_zero,Int.sub_zero,Int.sub_zero,tS h];rfl
def ry(a:Y2){c d:Int}(j:c<d)(f:Int)(b:aX)(h:ly b):dI (kD c d (b,dB a b,f,f+jc (dB a b)))=kE a c d f (fV b):=by
 let tt:=ku a b h
 let g:dI (cY (cA (kM 0 (c-f) 0 (dB a b)++kM (d-f) (f+jc (dB a b)-f) 0 (dB a b))))=(aW a (fV b)).take (c-f).toNat++(aW a (fV b)).drop (d-f).toNat:=by
  rw[nX,Mm (uP a b h) (by rw[jY a b h,tt];lia),jY a b h]
 unfold kD;show dI (if f+jc (dB a b)<=c\/d<=f then [b] else if c<=f/\f+jc (dB a b)<=d then [] else cY (cA (kM 0 (c-f) 0 (dB a b)++kM (d-f) (f+jc (dB a b)-f) 0 (dB a b))))=_;let k:(f+jc (dB a b)<=c\/d<=f)=(f+↑(aW a (fV b))<=c\/d<=f):=by rw[tt]
 let l:(c<=f/\f+jc (dB a b)<=d)=(c<=f/\f+↑(aW a (fV b))<=d):=by rw[tt]
 simp only[k,l]
 cases b with
 | win n =>
  let i:aW a (fV (.win n))=bu a (-1-n):=by show aW a [-1-n]=_;rw[ck];simp[aW]
  rw[i]at g ⊢;show _=kE a c d f [-1-n];rw[kE,kE,gR];unfold Kr;split
  ·rfl
  ·split
   ·rfl
   ·exact g
 | aF x y =>
  let i:aW a (fV (.aF x y))=run x (y-x).toNat:=lP a _ _ h.1;rw[i]at g ⊢;show _=kE a c d f (run x (y-x).toNat);rw[O9 a j _ _ _ h.1];let i:=eG x (y-x).toNat;split
  ·rename_i e;rw[ko];rcases e with e|e
   ·rw[tS ∅,xE ∅,gR];rfl
   ·rw[M5 (Int.le_trans (Int.le_of_lt j) e),M5 e];rfl
  ·split
   ·rename_i e;rw[M5 e.1,xE ∅];rfl
   ·exact g
def rz(a:Y2){c d:Int}(j:c<d)(f:Int)(b:aX)(h:ly b):dI (tD c d (b,dB a b,f,f+jc (dB a b)))=tE a c d f (fV b):=by
 let tt:=ku a b h
 let g:dI (cY (cA (kM (c-f) (d-f) 0 (dB a b))))=((aW a (fV b)).take (d-f).toNat).drop (c-f).toNat:=by
  rw[nX,oE _ _ _ (uP a b h),jY a b h]
 unfold tD;show dI (if f+jc (dB a b)<=c\/d<=f then [] else if c<=f/\f+jc (dB a b)<=d then [b] else cY (cA (kM (c-f) (d-f) 0 (dB a b))))=_;rw[tt]
 cases b with
 | win n =>
  let i:aW a (fV (.win n))=bu a (-1-n):=by show aW a [-1-n]=_;rw[ck];simp[aW]
  rw[i]at g ⊢;show _=tE a c d f [-1-n];rw[tE,tE,gR];unfold M4;split
  ·rfl
  ·split
   ·rfl
   ·exact g
 | aF x y =>
  let i:aW a (fV (.aF x y))=run x (y-x).toNat:=lP a _ _ h.1;rw[i]at g ⊢;show _=tE a c d f (run x (y-x).toNat);rw[Pa a j _ _ _ h.1];let i:=eG x (y-x).toNat;split
  ·rename_i e;rcases e with e|e
   ·rw[xE (by rw[gw];lia)];rfl
   ·rw[M5 e];simp[dI]
  ·split
   ·rename_i e;rw[ko,M5 e.1,tS ∅];rfl
   ·exact g
theorem Dt(a:Y2){b c:Int}(e:b<c):∀ (d:List aX) (f:Int),gg d->dI ((bZ a f d).flatMap (kD b c))=kE a b c f (dI d)
 | [],f,_=>rfl
 | it::r,f,h=>by
  let g:=h it (by simp);rw[bZ,iY,fO,ry a e f it g,Dt a e r _ λi j=>h i (j5 _ j)];let i:dI (it::r)=fV it++dI r:=by unfold dI;rw[iY]
  rw[i,vZ,ku a it g]
theorem FH(a:Y2){b c:Int}(e:b<c):∀ (d:List aX) (f:Int),gg d->dI ((bZ a f d).flatMap (tD b c))=tE a b c f (dI d)
 | [],f,_=>rfl
 | it::r,f,h=>by
  let g:=h it (by simp);rw[bZ,iY,fO,rz a e f it g,FH a e r _ λi j=>h i (j5 _ j)];let i:dI (it::r)=fV it++dI r:=by unfold dI;rw[iY]
  rw[i,v7,ku a it g]
def Vi{a b:Int}{d:mW}(h:ly d.1)(g:lu d.2.1):gg (kD a b d):=by
 unfold kD;split
 ·exact gg.one h
 ·split
  ·exact λi c=>by cases c
  ·exact uN (nR λp c=>(List.mem_append.mp c).elim (zA _ _ _ _ g p) (zA _ _ _ _ g p))
def rE{a b:Int}{d:mW}(h:ly d.1)(g:lu d.2.1):gg (tD a b d):=by
 unfold tD;split
 ·exact λi c=>by cases c
 ·split
  ·exact gg.one h
  ·exact zO g
def IB(a b:Int)(d:mW):↑(kD a b d)<=↑d.2.1+↑d.2.1+1:=by
 unfold kD;split
 ·simp
 ·split
  ·simp
  ·rw[yd];refine ig (iN _) ?_;rw[dm];have:=jX 0 (a-d.2.2.1) d.2.1 0;have:=jX (b-d.2.2.1) (d.2.2.2-d.2.2.1) d.2.1 0;lia
def Pb(a b:Int)(d:mW):↑(tD a b d)<=↑d.2.1+↑d.2.1+1:=by
 unfold tD;split
 ·simp
 ·split
  ·simp
  ·exact ig (qR _ _ _) ∅
theorem lS(a:Y2){g:mW->List aX}(c:∀ d,↑(g d)<=↑d.2.1+↑d.2.1+1):∀ (b:List aX) (f:Int),↑((bZ a f b).flatMap g)<=↑(bK a b)+↑(bK a b)+↑b
 | [],_=>by simp[bZ]
 | it::r,f=>by
  rw[bZ,iY,dm];let e:=c (it,dB a it,f,f+jc (dB a it));let i:=lS a c r (f+jc (dB a it));let h:bK a (it::r)=dB a it++bK a r:=by unfold bK;rw[iY];rfl
  rw[h,dm,eZ];simp only at e;lia
theorem FI(a:Y2)(b:aX)(c:Row)(d f:Int):∀ (g:List aX) (i:Int),(b,c,d,f)∈bZ a i g->∃ j∈g,c=dB a j
 | [],_,h=>by cases h
 | i0::k,i,h=>by
  rw[bZ]at h;rcases List.mem_cons.mp h with e|e
  ·cases e;exact⟨b,by simp,1⟩
  ·let⟨l,m,n⟩:=FI a b c d f k _ e;exact⟨l,j5 _ m,n⟩
theorem Cm(a:Y2):∀ (b:List aX) (f:Int) (d:mW),d∈bZ a f b->d.1∈b
 | [],_,_,h=>by cases h
 | i0::c,f,d,h=>by
  rw[bZ]at h;rcases List.mem_cons.mp h with e|e
  ·subst e;simp
  ·exact j5 _ (Cm a c _ d e)
def FJ(c:Y2){d e n:Int}{b:List aX}(h:aX.win n∈(bZ c 0 b).flatMap (kD d e)):aX.win n∈b:=by
 let⟨f,g,a⟩:=List.mem_flatMap.mp h;unfold kD at a;split at a
 ·rw[List.mem_singleton.mp a];exact Cm c b 0 f g
 ·split at a
  ·cases a
  ·unfold cY at a;let⟨p,_,i⟩:=List.mem_map.mp a;cases i
theorem Cn{H:Hp}{A:Addr}{l:List aX}{a:List V}(h:H A=⇑(.lst a))(t:cF (dH H) a l):bX H ↥A l:=⟨A,a,1,h,t⟩
def bW(d:Y2)(a b:Int)(c:Wp):Wp:=if a=b then c else kE d a b 0 c
def iH(c:Y2)(a b:Int)(d:Wp):Wp:=if a=b then [] else tE c a b 0 d
class inductive Pc
 | mk (r f:Addr) (a b:Int) (c:List aX) (g:List (fK × V)) (e:Y2) (_:vs=[↥r,↥f,.int a,.int b]) (_:bX H ↥r c) (_:H f=⇑(.dK g)) (_:vW H g e c) (_:↑c<=10000) (_:↑(bK e c)<=20000) (_ :
 ∀ (t L M:Addr) (d:Hp),d t=⇑(.tup [↥L,↥M])->bX d ↥L ((bZ e 0 c).flatMap (kD a b))->bX d ↥M ((bZ e 0 c).flatMap (tD a b))->aI H d->Q ↥t d)
theorem Co:‹(3,35,["items","views","start","stop"],Pc)›:=λD=>by
 let t:bg P w K mg zt cO 1 (aZ 7) (bf 7) ["row","start","stop"] E2:=qP D
 refine ef ["items","views","start","stop","left","taken","item","row","first","last"] D.WX.F λcZ A zn s H vs Q E hr _ h=>?_
 let⟨z,S,p,q,d,ai,c,rfl,hI,hS,U,X,l2,ak⟩:=h;refine⟨_,#v[aY 4 (bO ah),aY 5 (bO ah),eE PassesOwn.never rfl (cJ (aC D.WV (FG D) hr #[0,1])) (kQ (n:=4) rfl (bT (bV 6) (bT (bV 7) (bT (bV 8) (bT (bV 9) gi))))) #v[bR (PW.pt (Bo (aV gj (pv 9) (pv 2) (bz _)) (yo (aV gj (pv 3) (pv 8) (bz _))))) #v[aU (dM n9 jm jo bU (pv 4) #[6])] #v[bR (PW.pt (pX (aV gj (pv 2) (pv 8) (bz _)) (mX (aV gj (pv 9) (pv 3) (bz _))))) #v[aU (dM n9 jm jo bU (pv 5) #[6])] #v[sF (i:=4) (by assumption) rfl (Or.inl rfl) (aC D.Ft (mK D) hr #[bI iV (aC D.WN t hr #[7,az,bI cV (pv 2) (pv 8)]) (aC D.WN t hr #[7,bI cV (pv 3) (pv 8),bI cV (pv 9) (pv 8)])]) vP,sF (i:=5) (by assumption) rfl (Or.inl rfl) (aC D.Ft (mK D) hr #[aC D.WN t hr #[7,bI cV (pv 2) (pv 8),bI cV (pv 3) (pv 8)]]) vP]]],aK (cW #[4,5])],?_⟩
 all_goals try dsimp only[aP,aG]
 refine⟨gK,λA hA=>⟨gK,λB t=>?_⟩⟩;let X:aI H (aO H A (.lst [])):=ao hA _;let g:aI _ (aO (aO H A (.lst [])) B (.lst [])):=ao t _;let s0:=X.trans g;let F:A≠B:=aA af t;let MZ:=aT X t;refine⟨Y,Y,z,S,d,ai,c,λj=>j≠A/\j≠B,1,hI.same s0,s0 _ _ hS,U.same s0,Q,(λf u=>by have:=uR c u;lia),?_,?_,λD dv v hD Rz s1 _=>?_⟩
 ·intro n j b e;let⟨f,m,i,a,_⟩:=U n b;rw[e]at m;cases m;exact⟨aA a hA,aA a MZ⟩
 ·intro j a;exact⟨(aA (g _ _ af) a).symm,(aA af a).symm⟩
 let ab:=s1 _ _ (g _ _ (af (H:=H) (a:=A) (o:=.lst [])));let ae:=s1 _ _ (af (H:=aO H A (.lst [])) (a:=B) (o:=.lst []))
 let t:D≠A/\D≠B:=by
  rename_i a;exact⟨(aA (g _ _ af) a).symm,(aA af a).symm⟩
 let g:=lS c (IB p q) d 0;let g:=lS c (Pb p q) d 0;refine⟨D,1,⟨_,bM.of hD⟩,dO (K:=K) (e:=D) (b:=dv) (λi M n=>∃ u1 u2 u3 u4:Option V,M=[⇑↥z,⇑↥S,⇑(.int p),⇑(.int q),⇑↥A,⇑↥B,u1,u2,u3,u4]/\lC v A B (((bZ c 0 d).take i).flatMap (kD p q)) (((bZ c 0 d).take i).flatMap (tD p q)) n) ⟨none,none,none,none,1,⟨_,ab,.nil⟩,⟨_,ae,.nil⟩,λ_ _ m _ _=>m⟩ (by rintro i M n _ ⟨_,_,_,_,_,pv⟩;exact bM.of (pv.k _ _ hD t.1 t.2)) ?_ ?_⟩
 ·rintro i ax M n u ⟨u1,u2,u3,u4,rfl,pv⟩;let⟨am,y,g⟩:=Rz.get u;let an:=g.Vf ab ae (λj h=>h) pv.k;let⟨j,N,xi,rfl,ap,ag,QN,aq⟩:=an;let O:=qS (kD p q) y;let R:=qS (tD p q) y;let g:=iP (kD p q) (bZ c 0 d) i;let g:=iP (tD p q) (bZ c 0 d) i;let ar:=iP (kD p q) (bZ c 0 d) (i+1);let av:=iP (tD p q) (bZ c 0 d) (i+1);let⟨r,k,t1⟩:=pv.a;let⟨G,x,t2⟩:=pv.b;let g:=t1.len;let g:=t2.len;let⟨f,b,a,e⟩:=am
  let g:↑b<=20000:=by
   let⟨o,l,rfl⟩:=FI c f b a e d 0 (lU y);have:=uR c l;lia
  let y:↑r<sizeLine:=aS ∅
  let S:(e<=p\/q<=a)->lC v A B (((bZ c 0 d).take (i+1)).flatMap (kD p q)) (((bZ c 0 d).take (i+1)).flatMap (tD p q)) (aO n A (.lst (r++[xi]))):=λg=>by
   rw[O,R];let t:kD p q (f,b,a,e)=[f]:=by unfold kD;rw[if_pos g]
   let u:tD p q (f,b,a,e)=[]:=by unfold tD;rw[if_pos g]
   rw[t,u,gR];exact pv.Kp F k (.cons ag .nil)
  exists j,Y,dG.of ap,1,P,1,P,1,P,1,Z;refine⟨Y,Y,Z,Y,dD (λg=>iz ?_) (λg=>?_)⟩
  ·exact⟨Y,.inl ⟨1,_,bM.of k⟩,Y,A,Z,k,y,K,Y,S (.inl (of_decide_eq_true g))⟩
  let U:¬ e<=p:=λz=>g (decide_eq_true z);refine⟨Y,Y,Z,Y,dD (λg=>?_) (λg=>?_)⟩
  ·exact⟨Y,.inl ⟨1,_,bM.of k⟩,Y,A,Z,k,y,K,Y,S (.inr (of_decide_eq_true g))⟩
  let y:¬ q<=a:=λz=>g (decide_eq_true z);have S:¬ (e<=p\/q<=a):=λz=>z.elim U y
  let ab:¬ (p<=a/\e<=q)->lC v A B (((bZ c 0 d).take i).flatMap (kD p q)) (((bZ c 0 d).take i).flatMap (tD p q)) n->kD p q (f,b,a,e)=cY (cA (kM 0 (p-a) 0 b++kM (q-a) (e-a) 0 b))/\tD p q (f,b,a,e)=cY (cA (kM (p-a) (q-a) 0 b)):=λy _=>by
   exists ?_
   ·unfold kD;rw[if_neg S,if_neg y]
   ·unfold tD;rw[if_neg S,if_neg y]
  let go:¬ (p<=a/\e<=q)->∀ (T U:Addr) (l:List V) (g:Hp),g U=⇑(.lst l)->cF (dH g) l (cY (cA (kM 0 (p-a) 0 b++kM (q-a) (e-a) 0 b)))->aI n g->↑r+↑l<=sizeLine/\lC v A B (((bZ c 0 d).take (i+1)).flatMap (kD p q)) (((bZ c 0 d).take i).flatMap (tD p q)) (aO g A (.lst (r++l)))/\bP (aO g A (.lst (r++l))) N b/\(aO g A (.lst (r++l))) B=⇑(.lst G):=λy T U l g h3 W o=>by
   let⟨t,u⟩:=ab y pv;let C:=W.len;rw[O,t,dm]at ar;let C:=o _ _ k;refine⟨Nat.le_of_lt (aS ∅),?_,(QN.same o).keep C aq.1 (aH A _ _),by rw[aL F.symm];exact o _ _ x⟩;rw[O,t];exact (pv.same o).Kp F C W
  let aw:¬ (p<=a/\e<=q)->∀ (C:List V) (X I:Hp),lC v A B (((bZ c 0 d).take (i+1)).flatMap (kD p q)) (((bZ c 0 d).take i).flatMap (tD p q)) X->X B=⇑(.lst G)->cF (dH I) C (cY (cA (kM (p-a) (q-a) 0 b)))->aI X I->↑G+↑C<=sizeLine/\lC v A B (((bZ c 0 d).take (i+1)).flatMap (kD p q)) (((bZ c 0 d).take (i+1)).flatMap (tD p q)) (aO I B (.lst (G++C))):=λy C X I c d t4 J=>by
   let⟨t,u⟩:=ab y pv;let i:=t4.len;rw[R,u,dm]at av;refine⟨Nat.le_of_lt (aS ∅),?_⟩;rw[R,u];exact (c.same J).Kq F (J _ _ d) t4
  let c:=jX 0 (p-a) b 0;let c:=jX (q-a) (e-a) b 0;let c:=jX (p-a) (q-a) b 0;refine⟨Y,Y,Z,Y,Ou (λz=>⟨Y,Y,Z,Y,z⟩) (λL=>?_) (λL=>?_)⟩
  ·exists Y,.inl ⟨1,_,bM.of x⟩,Y,B,Z,x,aS ∅,K,Y;rw[O,R];let t:kD p q (f,b,a,e)=[]:=by unfold kD;rw[if_neg S,if_pos L]
   let u:tD p q (f,b,a,e)=[f]:=by unfold tD;rw[if_neg S,if_pos L]
   rw[t,u,gR];exact pv.Kq F x (.cons ag .nil)
  ·refine⟨Y,Y,Y,Y,Z,N,b,0,p-a,1,QN,Q,λT c f s3 d=>?_⟩;let⟨c,t,d⟩:=id f;let f:=d.len;refine⟨Y,Y,Y,Z,Y,Y,Z,N,b,q-a,e-a,1,QN.same s3,Q,λU g u o f=>?_⟩;let⟨f,v,i⟩:=id u;let u:=i.len;refine⟨T,U,Z,o _ _ t,v,(by rw[cC,cC];exact gJ (aS ∅)),λt u=>?_⟩;let s5:aI g (aO g t (.lst (c.map V.ref++f.map V.ref))):=ao u _;refine⟨t,kM 0 (p-a) 0 b++kM (q-a) (e-a) 0 b,1,⟨c++f,by rw[af,gx],bC.append ((d.same o).same s5) (i.same s5)⟩,by rw[dm];lia,λq3 H6 c s6 d=>?_⟩;let⟨d,l,e3,h3,W⟩:=c;cases e3;let c:=s3.trans (o.trans (s5.trans s6));let⟨d,g2,e,g4⟩:=go L T q3 l H6 h3 W c;exists A,q3,Z,c _ _ k,h3,d;refine⟨Y,Y,Y,Y,Z,Y,Y,Z,N,b,p-a,q-a,1,e,Q,λa I b J c=>⟨a,Y,b,Q,λq5 H8 a s8 b=>?_⟩⟩;let⟨b,C,e4,h4,t4⟩:=a;cases e4;let⟨a,b⟩:=aw L C _ H8 g2 g4 t4 (J.trans s8);exact⟨B,q5,Z,(J.trans s8) _ _ g4,h4,a,K,Y,b⟩
 ·rintro M n ⟨u1,u2,u3,u4,rfl,pv⟩;let a:=Rz.len;rw[a,gG]at pv;let⟨r,k,t1⟩:=pv.a;let⟨G,x,t2⟩:=pv.b;let b:aI H n:=λj a m=>pv.k j a (s1 _ _ (s0 _ _ m)) (aA m hA) (aA m MZ);refine⟨Y,Y,lG,λt a=>ak t A B _ af ?_ ?_ (b.trans (ao a _))⟩
  ·exact (Cn k t1).same (ao a _)
  ·exact (Cn x t2).same (ao a _)
class inductive FL
 | mk (r:Addr) (c:c9) (s a b:Int) (d:Y2) (_:vs=[↥r,.int s,.int a,.int b]) (_:oM H r c d) (_:0<=s) (_:s<↑c) (_:RV a b ↑(d s)) (_:(∀ (f:Wp) (q:Addr) (e:Hp),c[s.toNat]?=⇑f->bX e ↥q (aJ (bW d a b f))->aI H e->H q=none->Q ↥q e))
theorem Dv:‹(4,36,["rows","sheet","start","stop"],FL)›:=λD=>by
 specialize ef ["rows","sheet","start","stop","views"] D.i9.F;let⟨r,C,s,p,q,c,rfl,R,e,i,n,t⟩:=h;let u:=gH hr;exists _,#v[aY 4 (aC D.ON (jD D) hr #[0,bO #[1]]),aU (aC D.Yw (gU D) hr #[eS u (pv 4) (pv 1),2,3]),bR (aV eK (pv 2) (pv 3) (bz _)) #v[aK (aC D.LV (iG D) hr #[aQ bJ (pv 0) (pv 1)])] bq,aK (aC D.LV (iG D) hr #[aQ bh (aC D.WX (Co D) hr #[aQ bJ (pv 0) (pv 1),4,2,3]) az])]
 all_goals try dsimp only[aP,aG]
 refine⟨Y,Y,mF,λL F=>?_⟩;let u:aI H (aO H L (.lst [.int s])):=ao F _;refine⟨r,L,C,[s],c,1,R.at_.same u,af,by simp,R.len,R.ents,R.snd,R.rk,(λx a=>by rw[List.mem_singleton.mp a];exact⟨e,i⟩),R.O7,R.bd,λS G J M v w I C j F T=>?_⟩;let x:=C s (by simp);let⟨C,J,M⟩:=w s x;let z:=gp.k (k:=Sum.inl s) v;rw[J]at z;let f:=u.trans F;let u:=R.bd s e i;let u:=lQ (c s);let⟨b,u,F,O⟩:=(R.same f).one e i;refine⟨Y,Y,S,Y,z,Y,Y,C,cE (c s),p,q,1,M,Q,by rw[O.tt];exact n,λu d=>?_⟩
 ·let⟨u,C,y,a⟩:=(R.same (f.trans d)).one e i;let N:b=u:=pW (O.he.symm.trans a.he);subst N;let⟨A,g⟩:=mL b;refine⟨Y,Y,1,Y,dD (λi=>?_) (λi=>?_)⟩
  ·let l:p=q:=V.int.inj (of_decide_eq_true i);refine⟨Y,Y,r,K,V,bM.of a.hr,a.ix,y,aJ b,1,a.it,ig a.il (by decide),λo B u k m=>?_⟩;refine t b o B O.he ?_ (f.trans (d.trans k)) (aT (f.trans d) m);rw[kq _ g,A]at u;unfold bW;rw[if_pos l];exact u
  ·let l:¬ p=q:=λz=>i (by rw[z];exact decide_eq_true rfl);have u:p<q:=by have:=n.2.1;lia
   refine⟨Y,Y,r,K,V,bM.of a.hr,a.ix,Y,Y,Y,y,S,p,q,aJ b,G,c,1,a.it,d _ _ v,λn j=>?_,ig a.il (by decide),ig a.rl (by decide),λr L M B v y i k=>?_⟩
   ·let i:=qT e O.he j;let⟨m,o⟩:=List.getElem?_of_mem x;let⟨x,g,R2⟩:=w n (List.mem_of_mem_take (I.dn m s o n i));exact⟨x,g,R2.same d⟩
   let w:Td c (aJ b):=λn j=>by
    let i:=qT e O.he j;let⟨e,j⟩:=R.snd.Em i;exact nY R.snd R.rk R.O7 n e j
   let e:=yc c (aJ b) 0 g w;let lk:gg ((bZ c 0 (aJ b)).flatMap (kD p q)):=uQ λi j=>Vi (e i j).1 (e i j).2;have e:=lS c (IB p q) (aJ b) 0;have e:=a.il;have e:=a.rl;refine⟨r,K,V,dG.of v,1,L,Y,y,Q,λo e a i m=>?_⟩;refine t b o e O.he ?_ (f.trans (d.trans (k.trans i))) (aT (f.trans (d.trans k)) m);rw[kq _ lk,Dt c u _ _ g,A]at a;unfold bW;rw[if_neg l];exact a
def lH(a:Y2)(b c e:Int)(d:Wp):Wp:=if b=c then d else aE a e 0 (kE a b c 0 d)++tE a b c 0 d++bE a e 0 (kE a b c 0 d)
def Mv(a b c n:Int):Prop:=RV a b n/\0<=c/\c<=n-(b-a)
def Pd(a:Y2)(r:Row):bK a (cY r)=r:=by
 unfold bK cY;rw[List.flatMap_map]
 induction r with
 | nil=>rfl
 | cons p r b=>rw[iY,b];rfl
theorem Cp(a:Y2)(b c:Int):∀ (d:List aX) (f:Int),↑(bK a ((bZ a f d).flatMap (kD b c)))<=↑(bK a d)+↑(bK a d)
 | [],_=>by simp[bZ,bK]
 | it::r,f=>by
  let g:=Cp a b c r (f+jc (dB a it));let e:bK a (it::r)=dB a it++bK a r:=by unfold bK;rw[iY];rfl
  let g:↑(bK a (kD b c (it,dB a it,f,f+jc (dB a it))))<=↑(dB a it)+↑(dB a it):=by
   unfold kD;split
   ·rw[ji];show ↑(dB a it)<=_;lia
   ·split
    ·simp[bK]
    ·rw[Pd];refine ig (iN _) ?_;rw[dm];have:=jX 0 (b-f) (dB a it) 0;have:=jX (c-f) (f+jc (dB a it)-f) (dB a it) 0;simp only;lia
  rw[bZ,iY,eN,dm,e,dm];lia
class inductive AU
 | mk (r:Addr) (c:c9) (s a b d:Int) (e:Y2) (_:vs=[↥r,.int s,.int a,.int b,.int d]) (_:oM H r c e) (_:0<=s) (_:s<↑c) (_:Mv a b d ↑(e s)) (_:(∀ (g:Wp) (q:Addr) (f:Hp),c[s.toNat]?=⇑g->bX f ↥q (aJ (lH e a b d g))->aI H f->H q=none->Q ↥q f))
def vg.mid{i:Int}(a:-300000<i)(b:i<300000):vg i:=by
 let c:(300000:Int)<10^60:=by decide
 exact⟨Q,Q⟩
theorem vg.Xz{i:Int}(h:-100000<i/\i<100000):vg i:=vg.mid ∅ ∅
theorem zR:‹(4,37,["rows","sheet","start","stop","to"],AU)›:=λD=>by
 specialize ef ["rows","sheet","start","stop","to","views","rest","left","taken"] D.i'.F;let⟨r,W,s,p,q,X,a,rfl,R,g,m,n,y⟩:=h;let A:=gH hr;exists _,#v[aY 5 (aC D.ON (jD D) hr #[0,bO #[1]]),aU (aC D.Yw (gU D) hr #[eS A (pv 5) (pv 1),2,3]),aY 6 (bI cV (_eU.qO D.WM (D.T.nA _ D.WM.m) (Di D) hr #[eS A (pv 5) (pv 1)]) (bI cV (pv 3) (pv 2))),bR (ir (qc gj gj az (pv 4) (pv 6))) #v[gS] bq,bR (aV eK (pv 2) (pv 3) (bz _)) #v[aK (aC D.LV (iG D) hr #[aQ bJ (pv 0) (pv 1)])] bq,lZ (aC D.WX (Co D) hr #[aQ bJ (pv 0) (pv 1),5,2,3]) (kQ (n:=2) rfl (bT (bV 7) (bT (bV 8) gi))),aK (aC D.WW (uS D) hr #[7,5,4,8])]
 all_goals try dsimp only[aP,aG]
 refine⟨Y,Y,mF,λL hL=>?_⟩;let A:aI H (aO H L (.lst [.int s])):=ao hL _;refine⟨r,L,W,[s],a,1,R.at_.same A,af,by simp,R.len,R.ents,R.snd,R.rk,(λx b=>by rw[List.mem_singleton.mp b];exact⟨g,m⟩),R.O7,R.bd,λS t ks H2 o B tp W f s2 ab=>?_⟩;let C:=W s (by simp);let⟨F,G,I⟩:=B s C;let z:=gp.k (k:=Sum.inl s) o;rw[G]at z;let i:=A.trans s2;let A:=R.bd s g m;let A:=lQ (a s);let⟨b,A,W,O⟩:=(R.same i).one g m;refine⟨Y,Y,S,Y,z,Y,Y,F,cE (a s),p,q,1,I,Q,by rw[O.tt];exact n.1,λA c=>?_⟩
 ·let hp:=n.1;let⟨A,W,u,d⟩:=(R.same (i.trans c)).one g m;let ee:b=A:=pW (O.he.symm.trans d.he);subst ee;let⟨J,j⟩:=mL b;let m:=gp.k (k:=Sum.inl s) (c _ _ o);rw[G]at m;refine⟨Y,Y,S,Y,m,F,cE (a s),1,I.same c,Q,λM e=>?_⟩;rw[O.tt];exists Y,Y,Z,Z;exists Y,Z,Y;rw[decide_eq_true n.2.1];refine dD (λ_=>?_) (λl=>absurd rfl l);exists Y,Z,Y;rw[decide_eq_true n.2.2];refine eT ?_;let N:bX M ↥u (aJ b):=d.it.same e;let T:=e _ _ d.hr;refine⟨Y,Y,1,Y,dD (λl=>?_) (λl=>?_)⟩
  ·let v:p=q:=V.int.inj (of_decide_eq_true l);refine⟨Y,Y,r,K,V,bM.of T,d.ix,u,aJ b,1,N,ig d.il (by decide),λw U m k x=>?_⟩;refine y b w U O.he ?_ (i.trans (c.trans (e.trans k))) (aT (i.trans (c.trans e)) x);rw[kq _ j,J]at m;unfold lH;rw[if_pos v];exact m
  ·let v:¬ p=q:=λz=>l (by rw[z];exact decide_eq_true rfl);have z:p<q:=by have:=hp.2.1;lia
   let A:∀ n,aX.win n∈aJ b->∃ l,cG t (Sum.inl n)=⇑↥l/\bP M l (cE (a n)):=λn f=>by
    let m:=qT g O.he f;let⟨k,w⟩:=List.getElem?_of_mem C;let⟨l,j,R2⟩:=B n (List.mem_of_mem_take (tp.dn k s w n m));exact⟨l,j,(R2.same c).same e⟩
   refine⟨Y,Y,r,K,V,bM.of T,d.ix,Y,Y,Y,u,S,p,q,aJ b,t,a,1,N,e _ _ (c _ _ o),A,ig d.il (by decide),ig d.rl (by decide),λB L M U C F G k=>?_⟩
   let u:Td a (aJ b):=λn f=>by
    let m:=qT g O.he f;let⟨g,r⟩:=R.snd.Em m;exact nY R.snd R.rk R.O7 n g r
   let r:=yc a (aJ b) 0 j u;let lk:gg ((bZ a 0 (aJ b)).flatMap (kD p q)):=uQ λg m=>Vi (r g m).1 (r g m).2;have I:gg ((bZ a 0 (aJ b)).flatMap (tD p q)):=uQ λg m=>rE (r g m).1 (r g m).2;have g:=lS a (IB p q) (aJ b) 0;have g:=lS a (Pb p q) (aJ b) 0;have g:=Cp a p q (aJ b) 0;have g:=d.il;have g:=d.rl;exists B,Y,dG.of C,1,P,1,Z;refine⟨Y,Y,Y,Y,L,S,M,X,P,t,a,1,F,k _ _ (e _ _ (c _ _ o)),(λn f=>?_),G,lk,I,(λn f=>u n (FJ a f)),Q,Q,Q,λw g d m x=>?_⟩
   ·let⟨l,o,R2⟩:=A n (FJ a f);exact⟨l,o,R2.same k⟩
   refine y b w g O.he ?_ (i.trans (c.trans (e.trans (k.trans m)))) (aT (i.trans (c.trans (e.trans k))) x);rw[Dt a z _ _ j,FH a z _ _ j,J]at d;unfold lH;rw[if_neg v];exact d
class inductive Th
 | mk (r:Addr) (b:c9) (s:Int) (c:Y2) (_:vs=[↥r,.int s]) (_:oM H r b c) (_:0<=s) (_:s<↑b) (_ :
 ∀ (o:Addr) (a:Hp),bX a ↥o (aJ (c s))->aI H a->H o=none->Q ↥o a)
theorem zS:‹(5,38,["rows","sheet"],Th)›:=λD=>by
 specialize ef ["rows","sheet"] D.jl.F;let⟨r,d,s,a,rfl,R,b,c,k⟩:=h;exists _,#v[aK (aC D.Ft (mK D) hr #[_eU.qO D.Im (D.T.mG _ D.Im.m) (zN D) hr #[0,1]])]
 all_goals try dsimp only[aP,aG]
 let e:=R.bd s b c;let e:=lQ (a s);refine⟨Y,Y,r,d,s,a,1,R.at_,R.len,R.ents,R.snd,R.rk,b,c,R.O7,R.bd,λo f e d g=>?_⟩;refine⟨o,cE (a s),1,e,Q,λq e a f g=>k q e ?_ (d.trans f) (aT d g)⟩;rw[mw _ (jy _),dz,Mi (nY R.snd R.rk R.O7 s b c)]at a;exact a
abbrev kU(a:gQ):HO:=.lst (a.map λw=>V.str (fH w))
abbrev QO:List (Str × Int):=[(Str.ofString "fresh",0),(Str.ofString "cut",3),(Str.ofString "move",4),(Str.ofString "quote",5),(Str.ofString "window",3),(Str.ofString "fix",1),(Str.ofString "back",2),(Str.ofString "fork",2),(Str.ofString "untie",1),(Str.ofString "read",1)]
abbrev XA:List (Str × Int):=[(Str.ofString "put",2),(Str.ofString "strike",0),(Str.ofString "blot",1),(Str.ofString "lift",1)]
def jQ(D:List (Str × Int))(n:List Nat):Option Int:=(D.find? λp=>decide (fH n=p.1)).map (·.2)
def zT{D:List (Str × Int)}{n:List Nat}{i:Int}(h:jQ D n=⇑i):(D.find? λp=>decide (fH n=p.1))=⇑(fH n,i):=by
 unfold jQ at h;let⟨⟨x,j⟩,e,rfl⟩:=Option.map_eq_some_iff.mp h;let z:=List.find?_some e;have:fH n=x:=of_decide_eq_true z;rw[e,this]
abbrev FN:List Nat:=[116,105,101]
inductive jj where
 | AV (h:Int) (t:List Nat)
 | plain (n:List Nat) (a:Wp)
 | nZ (n:List Nat) (a:Wp) (r:Row)
def jj.At(H:Hp)(p:Addr):jj->Prop
 | .AV h t=>H p=⇑(.tup [.str "pour",.int h,.str (fH t)])
 | .plain n ns=>H p=⇑(.tup (.str (fH n)::ns.map V.int))
 | .nZ n ns r=>∃ q,H p=⇑(.tup (.str (fH n)::ns.map V.int++[↥q]))/\bP H q r
def jZ(n:Int):Prop:=0<=n/\n<10^60
def IC(r:Row):Prop:=↑r<=29/\∀ p∈r,jZ p.1/\jZ p.2
def jj.Ok:jj->Prop
 | .AV h t=>jZ h/\↑t<=200
 | .plain n ns=>jQ QO n=⇑(↑ns:Int)/\∀ x∈ns,jZ x
 | .nZ n ns r=>jQ XA n=⇑(↑ns:Int)/\(∀ x∈ns,jZ x)/\IC r
abbrev uT(p:Int × Int):List Nat:=_iW.dg p.1++45::_iW.dg p.2
def Mn{p:Int × Int}(h:jZ p.1/\jZ p.2):↑(uT p)<=121:=by
 rw[dm,eZ];let a:=_iW.Ij h.1.1 h.1.2;let b:=_iW.Ij h.2.1 h.2.2;lia
def Dw{n:Int}(h:jZ n):n.natAbs.log2<1920:=by
 let⟨a,b⟩:=h;by_cases z:n.natAbs=0
 ·rw[z];decide
 ·rw[Nat.log2_lt z];let a:n.natAbs<10^60:=by lia
  exact pJ a (ig (show (10:Nat)^60<=2^200 by decide) (Nat.pow_le_pow_right (by decide) (by decide)))
inductive iI where
 | num (x:Int)
 | tx (t:List Nat)
 | row (r:Row)
def iI.At(H:Hp)(v:V):iI->Prop
 | .num x=>v=.int x
 | .tx t=>v=.str (fH t)
 | .row r=>∃ q,v=↥q/\bP H q r
def iI.Ok:iI->Prop
 | .num x=>jZ x
 | .tx t=>↑t<=200
 | .row r=>IC r
abbrev FO(r:Row):List Nat:=r.flatMap λp=>32::uT p
def iI.line:iI->List Nat
 | .num x=>32::_iW.dg x
 | .tx t=>32::t
 | .row r=>FO r
def Pe{r:Row}(h:IC r):↑(FO r)<=4000:=by
 let a:∀ l:Row,(∀ p∈l,jZ p.1/\jZ p.2)->↑(FO l)<=122*↑l:=by
  intro l
  induction l with
  | nil=>intro _;exact fk _
  | cons p l b =>
   intro g;let z:=b λq b=>g q (j5 _ b);have b:=Mn (g p sE);show ↑((32::uT p)++FO l)<=_;rw[dm,eZ,eZ];lia
 have:=a r h.2;have:=h.1;lia
def iI.FP{p:iI}(h:p.Ok):↑p.line<=4000:=by
 cases p with
 | num x=>have:=_iW.Ij h.1 h.2;show ↑(32::_iW.dg x)<=_;rw[eZ];lia
 | tx t=>let a:↑t<=200:=h;show ↑(32::t)<=_;rw[eZ];lia
 | row r=>exact Pe h
def jj.nm:jj->List Nat
 | .AV _ _=>[112,111,117,114]
 | .plain n _=>n
 | .nZ n _ _=>n
def jj.parts:jj->List iI
 | .AV h t=>[.num h,.tx t]
 | .plain _ ns=>ns.map .num
 | .nZ _ ns r=>ns.map .num++[.row r]
def jj.line:jj->List Nat
 | d=>d.nm++d.parts.flatMap iI.line
def Pf{H:Hp}{p:Addr}{d:jj}(h:d.At H p):∃ b,H p=⇑(.tup (.str (fH d.nm)::b))/\cF (λv q=>iI.At H v q) b d.parts:=by
 let c:∀ a:List Int,cF (λv q=>iI.At H v q) (a.map V.int) (a.map iI.num):=λa=>by
  induction a with
  | nil=>exact .nil
  | cons x a e=>exact .cons rfl e
 cases d with
 | AV x t=>exact⟨_,by rw[h,show Str.ofString "pour"=fH [112,111,117,114] by decide +kernel];rfl,.cons rfl (.cons rfl .nil)⟩
 | plain n a=>exact⟨_,h,c a⟩
 | nZ n a r =>
  let⟨q,e,z⟩:=h;exact⟨a.map V.int++[↥q],by rw[e];rfl,(c a).snoc ⟨q,1,z⟩⟩
def Mp{d:jj}(h:d.Ok):∀ q∈d.parts,q.Ok:=by
 cases d with
 | AV x t =>
  intro q a;rcases List.mem_cons.mp a with z|z
  ·rw[z];exact h.1
  ·rw[List.mem_singleton.mp z];exact h.2
 | plain n ns =>
  intro q a;let⟨x,b,rfl⟩:=List.mem_map.mp a;exact h.2 x b
 | nZ n ns r =>
  intro q a;rcases List.mem_append.mp a with z|z
  ·let⟨x,b,rfl⟩:=List.mem_map.mp z;exact h.2.1 x b
  ·rw[List.mem_singleton.mp z];exact h.2.2
theorem FQ{H:Hp}:∀ {a:List V} {b:List iI} {i:Nat} {v:V},cF (λv q=>iI.At H v q) a b->a[i]?=⇑v->∃ q,b[i]?=⇑q/\q.At H v
 | _,_,_,_,.nil,h=>by simp at h
 | _,_,0,_,.cons o t,h=>by
  let e:=pW h;subst e;exact⟨Y,o⟩
 | _,_,i+1,_,.cons o t,h=>by
  let⟨q,e,z⟩:=FQ (i:=i) t (by simpa using h);exact⟨q,by simpa using e,z⟩
def Cq{a:List iI}(h:∀ q∈a,q.Ok):↑(a.flatMap iI.line)<=4000*↑a:=by
 induction a with
 | nil=>exact Nat.zero_le _
 | cons p a b =>
  let z:=b λq b=>h q (j5 _ b);have b:=iI.FP (h p sE);rw[iY,dm,eZ,Nat.mul_add,Nat.mul_one];lia
def Ti(n:List Nat):∀ a:gQ,_iW.jn 32 (n::a)=n++a.flatMap (λw=>32::w):=by
 intro a
 induction a generalizing n with
 | nil=>show n=_;simp
 | cons w a b =>
  show n++32::_iW.jn 32 (w::a)=_;rw[b w,iY];simp
def FT{D:List (Str × Int)}{n:List Nat}{k:Int}(a:∀ p∈D,32∉p.1.cps.toList/\p.1.cps.toList≠[112,111,117,114]/\p.1.cps.toList≠FN/\↑p.1.cps.toList<=10)(h:jQ D n=⇑k):32∉n/\n≠[112,111,117,114]/\n≠FN/\↑n<=10:=by
 let z:=a _ (List.mem_of_find?_eq_some (zT h));let e:(fH n).cps.toList=n:=_iW.uG n;rw[show ((fH n,k):Str × Int).1=fH n from rfl,e]at z;exact z
theorem Pg{n:List Nat}{k:Int}(h:jQ QO n=⇑k):32∉n/\n≠[112,111,117,114]/\n≠FN/\↑n<=10:=FT nofun h
theorem Ph{n:List Nat}{k:Int}(h:jQ XA n=⇑k):32∉n/\n≠[112,111,117,114]/\n≠FN/\↑n<=10:=FT nofun h
def Pj(r:Row):FO r=(r.map uT).flatMap λw=>32::w:=by
 induction r with
 | nil=>rfl
 | cons x r a=>rw[jq,iY,← a];rfl
def jj.At.same{H a:Hp}{p:Addr}{d:jj}(h:d.At H p)(s:aI H a):d.At a p:=by
 cases d with
 | AV x t=>exact s _ _ h
 | plain n ns=>exact s _ _ h
 | nZ n ns r=>let⟨q,e,b⟩:=h;exact⟨q,s _ _ e,b.same s⟩
def Mq{n:List Nat}{k:Int}(h:jQ QO n=⇑k):k<=5:=by
 let z:∀ p∈QO,p.2<=5:=by decide +kernel
 exact z _ (List.mem_of_find?_eq_some (zT h))
def Mr{n:List Nat}{k:Int}(h:jQ XA n=⇑k):k<=5:=by
 let z:∀ p∈XA,p.2<=5:=by decide +kernel
 exact z _ (List.mem_of_find?_eq_some (zT h))
def ID{d:jj}(a:d.Ok):d.nm≠FN/\↑d.nm<=10/\↑d.parts<=10:=by
 cases d with
 | AV x t=>exact⟨by show [112,111,117,114]≠FN;decide,by show 4<=10;decide,by show 2<=10;decide⟩
 | plain n ns =>
  let⟨_,_,b,c⟩:=Pg a.1;have:=Mq a.1;exact⟨b,c,by show ↑(ns.map iI.num)<=10;rw[cC];lia⟩
 | nZ n ns r =>
  let⟨_,_,b,c⟩:=Ph a.1;have:=Mr a.1;exact⟨b,c,by show ↑(ns.map iI.num++[iI.row r])<=10;rw[dm,cC];show ↑ns+1<=10;lia⟩
class inductive zU
 | mk (q:Addr) (r:Row) (_:vs=[↥q]) (_:bP H q r) (_:IC r) (_: ∀ (a:Addr) (b:Hp),b a=⇑(kU (r.map uT))->aI H b->H a=none->Q ↥a b)
def Pk{a b:Int}(c:0<=a)(d:0<=b):(Str.empty++Str.ofString (toString a)++Str.ofString "-"++Str.ofString (toString b))=fH (uT (a,b)):=by
 rw[_iW.ya c,_iW.ya d,show Str.ofString "-"=fH [45] by decide +kernel,show Str.empty=fH [] from rfl,Dc,Dc,Dc];simp
theorem Dy:‹(1,39,["row"],zU)›:=λD=>by
 specialize ef ["row"] D.SI.F;let⟨q,r,rfl,⟨i,e,m⟩,⟨u,o⟩,k⟩:=h;refine⟨_,#v[aK (gC (N:=["start","stop"]) (jO (c:=b8 sM) (f:=["row"]) (d:=[none,none]) rfl rfl rfl nofun nofun rfl nofun rfl nofun) rfl (cJ (pv 0)) (λ_ _ _ _ _ _=>(qM (n:=2) rfl (bT (bV 0) (bT (bV 1) gi)))) (λ_ _ _ _ _ _=>gy) (λ_ _ _ _ _ _=>(_iW.OJ (_iW.Kh (pv 0) (_iW.SA (_iW.Kh (pv 1) _iW.Sz))))))],?_⟩
 all_goals try dsimp only[aP,aG]
 let p:=Paired.length m;refine⟨Y,q,1,⟨_,bM.of e⟩,λf g=>gu (K:=K) (h:=q) (a:=i.map V.ref) (λi c a=>∃ j l:Option V,c=[j,l]/\a f=⇑(kU ((r.take i).map uT))/\aI H a) ⟨none,none,1,af,ao g _⟩ (by rintro i c a _ ⟨_,_,_,_,b⟩;exact bM.of (b _ _ e)) ?_ ?_⟩
 ·rintro i y c a n ⟨j,l,rfl,d,b⟩;rw[lD]at n;let⟨s,t,rfl⟩:=Option.map_eq_some_iff.mp n;let⟨n,i,q⟩:=m.get t;let e:=o n (lU i);let m:=(List.getElem?_eq_some_iff.mp i).1;exists s,Y,dG.of (b _ _ q),1,P,1,Z;refine⟨Y,Y,Dw e.1,Y,Y,Dw e.2,_,d,aS (by rw[cC,cC,gw];lia),P,1,?_,bS g b (aH f _ _)⟩;rw[af,take_snoc i,gx,jq,List.map_nil,Pk e.1.1 e.2.1];show some (HO.lst _)=⇑(HO.lst _);rw[gx];rfl
 ·rintro c a ⟨j,l,rfl,d,b⟩;rw[cC,p,gG]at d;exact k f a d b g
def iI.words:iI->gQ
 | .num x=>[_iW.dg x]
 | .tx t=>[t]
 | .row r=>r.map uT
def tH(a:List iI):(a.flatMap iI.words).flatMap (λw=>32::w)=a.flatMap iI.line:=by
 induction a with
 | nil=>rfl
 | cons p a b =>
  rw[iY,iY,List.flatMap_append,b];congr 1
  cases p with
  | num x=>show (32::_iW.dg x)++[]=32::_iW.dg x;rw[gR]
  | tx t=>show (32::t)++[]=32::t;rw[gR]
  | row r=>exact (Pj r).symm
class inductive Pn
 | mk (p:Addr) (d:jj) (_:vs=[↥p]) (_:d.At H p) (_:d.Ok) (_:d.nm≠FN/\↑d.nm<=10/\↑d.parts<=10) (_: ∀ a,aI H a->Q (.str (fH d.line)) a)
def FU(W:gQ):(W.map List.length).sum+↑W=↑(W.flatMap λw=>32::w):=by
 induction W with
 | nil=>rfl
 | cons x W a =>
  rw[jq,List.sum_cons,eZ,iY,dm,eZ,← a];lia
theorem Ms(a b:gQ):(a.map λw=>V.str (fH w))++(b.map λw=>V.str (fH w))=(a++b).map λw=>V.str (fH w):=List.map_append.symm
theorem AW:‹(2,40,["deed"],Pn)›:=λD=>by
 let l:bg P w K mg zt cO 1 _ _ ["row"] zU:=Dy D;refine ef ["deed","words","thing"] D.jp.F λcZ A zn s H vs Q E hr _ h=>?_;let⟨p,d,rfl,S,T,U,W⟩:=h;refine⟨_,#v[bR (aV eK (aQ bh (pv 0) az) bx (bz _)) #v[aK (dM PySem.F.plainAttrs_str PySem.F.slot_str_join PySem.F.type_str_join _iW.Fl bx #[bI iV (bI iV (bI iV (bO #[bx]) (aC D.SI l hr #[aQ bh (pv 0) az])) (bO #[bx])) (aC D.SI l hr #[aQ bh (pv 0) az])])] bq,aY 1 (bO #[aQ bh (pv 0) az]),eE PassesOwn.never rfl (VM (i6 VX (pv 0) (jb az) mY)) (bV 2) #v[sF (i:=1) (by assumption) rfl (Or.inl rfl) (EC (iU (cz dZ rfl D.T.dJ xD #[2,o6 rfl D.T.jg su])) (aC D.SI l hr #[2]) (bO #[_AK.p' (pv 2)])) vP],aK (dM PySem.F.plainAttrs_str PySem.F.slot_str_join PySem.F.type_str_join _iW.Fl bx #[1])],?_⟩
 all_goals try dsimp only[aP,aG]
 let tt:Str.ofString "tie"=fH FN:=by decide +kernel
 let X:kitOne K (.type "int") (.type "list")=⇑false:=by kernel_rfl
 let ab:kitOne K (.type "str") (.type "list")=⇑false:=by kernel_rfl
 let⟨vs,m,G⟩:=Pf S;let⟨n1,l,S⟩:=U;let y:=Mp T;let lv:=G.len;let ln:d.line=d.nm++d.parts.flatMap iI.line:=rfl;exists Y,p,K,V,dG.of m,tw;refine⟨1,Y,dD (λc=>absurd (of_decide_eq_true c) (by rw[tt];intro z;exact n1 (Sy (V.str.inj z)))) (λ_=>?_)⟩;refine⟨Y,p,K,V,dG.of m,tw,mF,λa I=>?_⟩;let s0:=ao I (.lst [.str (fH d.nm)]);let J:(aO H a (.lst [.str (fH d.nm)])) a=⇑(kU [d.nm]):=af;refine⟨Y,Y,p,Y,dG.of (s0 _ _ m),?_,λc n=>?_⟩
 ·rintro⟨z,_⟩;let e:_HT.ja ↑(V.str (fH d.nm)::vs) 0 (some 1)=min 1 ↑(V.str (fH d.nm)::vs):=_HT.JJ _ _ 1;let b:_HT.ja ↑(V.str (fH d.nm)::vs) 0 (some 1)=0:=z;rw[e,eZ]at b;lia
 let ec:j7 (V.str (fH d.nm)::vs) (some 1) none=vs:=by
  unfold j7;let e:_HT.ja ↑(V.str (fH d.nm)::vs) 0 (some 1)=1:=(_HT.JJ _ _ 1).trans (by rw[eZ];lia);let b:_HT.ja ↑(V.str (fH d.nm)::vs) ↑(V.str (fH d.nm)::vs) none=↑vs+1:=rfl;rw[e,b];show vs.take (↑vs+1-1)=vs;exact tS ∅
 rw[ec];change (aO H a (.lst [.str (fH d.nm)])) c=none at n;let l:=ao n (.tup vs);let z:(aO (aO H a (.lst [.str (fH d.nm)])) c (.tup vs)) c=⇑(.tup vs):=af;let L:=l _ _ J;let M:=s0.trans l;let ae:a≠c:=aA J n;generalize aO (aO H a (.lst [.str (fH d.nm)])) c (.tup vs)=l at M z L;refine⟨c,1,⟨_,dG.of z⟩,Q8 (K:=K) (e:=c) (b:=vs) (λi r e=>∃ u:Option V,r=[⇑↥p,⇑↥a,u]/\e a=⇑(kU (d.nm::(d.parts.take i).flatMap iI.words))/\e c=⇑(.tup vs)/\aI H e) ⟨none,1,by rw[List.take_zero,List.flatMap_nil];exact L,z,M⟩ (by rintro i r e _ ⟨_,_,_,g,_⟩;exact dG.of g) ?_ ?_⟩
 ·rintro i N r e hi ⟨u,rfl,g,O,v⟩;let⟨q,l,k⟩:=FQ G hi;let j:=y q (lU l);let m:=iI.FP j;let fl:=Cq (a:=d.parts.take i) λq k=>y q (List.mem_of_mem_take k);have m:↑(d.parts.take i)<=10:=by rw[gw];lia
  let B:=FU ((d.parts.take i).flatMap iI.words);rw[tH]at B
  let nx:d.nm::(d.parts.take (i+1)).flatMap iI.words=(d.nm::(d.parts.take i).flatMap iI.words)++q.words:=by
   rw[take_snoc l,List.flatMap_append,iY,List.flatMap_nil,gR,List.cons_append]
  let l:↑(d.nm::(d.parts.take i).flatMap iI.words)<=50000:=by rw[eZ];lia
  let l:↑q.words<=29:=by
   cases q with
   | num x=>show 1<=29;decide
   | tx t=>show 1<=29;decide
   | row x=>show ↑(x.map uT)<=29;rw[cC];exact j.1
  let C:∀ (t:Addr) (b:Hp) (z:V),aI e b->e t=none->b t=⇑(kU q.words)->∃ (l G:Addr) (m n:List V),V.ref a=↥l/\V.ref t=↥G/\b l=⇑(.lst m)/\b G=⇑(.lst n)/\↑m+↑n<=sizeLine/\∃ u:Option V,([⇑↥p,⇑↥a,⇑z]:List (Option V)).set 1 (⇑↥l)=[⇑↥p,⇑↥a,u]/\(aO b l (.lst (m++n))) a=⇑(kU (d.nm::(d.parts.take (i+1)).flatMap iI.words))/\(aO b l (.lst (m++n))) c=⇑(.tup vs)/\aI H (aO b l (.lst (m++n))):=by
   intro t b z o f F;exists a,t,Z,o _ _ g,F,gJ (aS (by rw[cC,cC];lia)),Y,?_,?_
   ·rw[Ms,af,nx]
   ·rw[aL ae.symm];exact o _ _ O
   ·exact bS I (v.trans o) (aH a _ _)
  cases q with
  | num x =>
   cases (show N=.int x from k);refine⟨Y,Y,_,"list",P,1,.int x,X,Y,eT ⟨Y,.inl ⟨x,1,Dw j,?_⟩⟩⟩;rw[_iW.ya j.1];exact⟨mF,λt f=>C t _ (.int x) (ao f _) f af⟩
  | tx t =>
   cases (show N=.str (fH t) from k);let c:↑t<=200:=j;refine⟨Y,Y,_,"list",P,1,.str _,ab,Y,eT ⟨Y,.inr ⟨t,1,Q,?_⟩⟩⟩;exact⟨mF,λc f=>C c _ (.str (fH t)) (ao f _) f af⟩
  | row x =>
   let⟨R,rfl,hr⟩:=k;let c:=hr.same v;let⟨k,i,_⟩:=id c;refine⟨Y,Y,_,"list",P,1,.lst i,ZY K,Y,iz ?_⟩;exact⟨Y,R,x,1,c,j,λt b F o f=>C t b ↥R o f F⟩
 ·rintro r e ⟨u,rfl,g,O,v⟩;rw[lv,gG]at g;let B:=FU (d.parts.flatMap iI.words);rw[tH]at B;let fl:=Cq (a:=d.parts) y;exists 1,Y,a,32,_,by rw[show Str.ofString " "=⟨(List.toArray [32])⟩ by decide +kernel],1,g,?_
  ·rw[jq,List.sum_cons,eZ];lia
  rw[Ti,tH,← ln];exact W e v
structure lR(S:Y1)(H:Hp)(st op r:Addr)(aR:List aX):Prop where
 own:S r
 ne:r≠st/\r≠op
 at':bX H ↥r aR
def IE(b:Y1)(H:Hp)(c d a:Addr)(f:List (List aX)):Prop:=b a/\a≠c/\a≠d/\∃ e:List Addr,H a=⇑(.lst (e.map V.ref))/\cF (lR b H c d) e f
abbrev kB:=List (List (List aX))
structure ft(bQ:kB)(ops:Wp):Prop where
 Cr:∃ last,bQ.getLast?=⇑last/\↑ops=↑last
 fit:∀ (s:Nat) (o:Int),ops[s]?=⇑o->0<=o/\o<↑bQ/\∀ (m:Nat) (rows:List (List aX)),bQ[m]?=⇑rows->(o<=m↔s<↑rows)
 less:∀ (m:Nat) (rows:List (List aX)),bQ[m]?=⇑rows->↑rows<=↑ops
structure Sh(C:Addr)(S:Y1)(H:Hp)(x d st op:Addr)(bQ:kB)(ops:Wp):Prop where
 sx:S x
 ss:S st
 so:S op
 al:∀ a,S a->∃ ob,H a=⇑ob
 hx:H x=⇑(.ins C d [("states",↥st),("openings",↥op)])
 hs:∃ as:List Addr,H st=⇑(.lst (as.map V.ref))/\cF (IE S H st op) as bQ
 ho:H op=⇑(.lst (ops.map V.int))
 ne:st≠op
 M6:ft bQ ops
def bX.fr{H b:Hp}{r:Addr}{d:List aX}(h:bX H ↥r d)(k:∀ a,H r=⇑(.lst a)->b r=⇑(.lst a))(t:∀ c a,H c=⇑(.tup a)->b c=⇑(.tup a)):bX b ↥r d:=by
 let⟨c,f,e,g,i⟩:=h;cases e;exact⟨r,f,1,k _ g,i.mono λv i ⟨f,e,g⟩=>⟨f,e,t _ _ g⟩⟩
def IE.fr{b f:Y1}{H c:Hp}{d a:Addr}{g:List (List aX)}(o:IE b H d h a g)(i:∀ a,b a->f a)(k:∀ a j,H a=⇑j->b a->a≠d->a≠h->c a=⇑j)(t:∀ a e,H a=⇑(.tup e)->c a=⇑(.tup e)):IE f c d h a g:=by
 let⟨l,m,n,p,q,r⟩:=o;exact⟨i _ l,m,n,p,k _ _ q l m n,r.mono λr l q=>⟨i _ q.own,q.ne,q.at'.fr (λe l=>k _ _ l q.own q.ne.1 q.ne.2) t⟩⟩
def Sh.fr{c:Y1}{H d:Hp}{x f g:Addr}{h:kB}{i:Wp}(l:Sh C c H x f g m h i)(k:∀ a b,H a=⇑b->c a->d a=⇑b)(t:∀ a j,H a=⇑(.tup j)->d a=⇑(.tup j)):Sh C c d x f g m h i:=by
 let⟨sx,ss,so,al,hx,⟨e,hs,n⟩,ho,ne,M6⟩:=l;refine⟨sx,ss,so,λa z=>?_,k _ _ hx sx,⟨e,k _ _ hs ss,n.mono λa e q=>q.fr (λ_ z=>z) (λa b e z _ _=>k _ _ e z) t⟩,k _ _ ho so,ne,M6⟩;let⟨b,e⟩:=al a z;exact⟨b,k _ _ e z⟩
theorem Sh.same{a:Y1}{H b:Hp}{x d c:Addr}{f:kB}{g:Wp}(i:Sh C a H x d c j f g)(k:aI H b):Sh C a b x d c j f g:=i.fr (λh l e _=>k h l e) (λh h e=>k _ _ e)
theorem Sh.keep{a:Y1}{H b:Hp}{x d c l:Addr}{f:kB}{g:Wp}{i:List V}(j:Sh C a H x d c m f g)(n:H l=⇑(.lst i))(o:¬ a l)(k:cy l H b):Sh C a b x d c m f g :=
 j.fr (λh p e z=>k h p e (λq=>o (by rw[← q];exact z))) (λh h e=>k _ _ e (cQ e n))
theorem zV:∀ {c d:WF},c.map V.ref=d.map V.ref->c=d
 | [],[],_=>rfl
 | [],_::_,h=>by cases h
 | _::_,[],h=>by cases h
 | a::c,b::d,h=>by
  rw[jq,jq]at h;injection h with e f;cases e;rw[zV f]
def Sh.last{i:Y1}{H:Hp}{x l f:Addr}{a:kB}{m:Wp}(j:Sh C i H x l f n a m){g:WF}(o:H f=⇑(.lst (g.map V.ref))):∃ h b,g=h++[b]/\∀ last,a.getLast?=⇑last->IE i H f n b last:=by
 let⟨p,k,q⟩:=j.hs
 let e:g=p:=by
  rw[o]at k;have:=HO.lst.inj (pW k);exact zV this
 subst e;let⟨last,c,_⟩:=j.M6.Cr
 obtain⟨d,rfl⟩:∃ d,a=d++[last]:=by
  rcases kO a with rfl|⟨d,r,rfl⟩
  ·cases c
  ·rw[jH,lX]at c;cases c;exact⟨d,jH⟩
 let⟨h,b,rfl,_,s⟩:=q.split;refine⟨h,b,1,λr e=>?_⟩;rw[c]at e;cases e;exact s
def tL(a:List V){p:Int}(h:0<=p):j7 a none (⇑p)=a.take p.toNat:=by
 unfold j7;let b:_HT.ja ↑a 0 none=0:=rfl
 let c:_HT.ja ↑a ↑a (⇑p)=min p.toNat ↑a:=by
  show (if p<0 then (p+(↑a:Int)).toNat else min p.toNat ↑a)=_;rw[if_neg ∅]
 rw[b,c,List.drop_zero,Nat.sub_zero];rcases Nat.le_total p.toNat ↑a with z|z
 ·rw[Nat.min_eq_left z]
 ·rw[Nat.min_eq_right z,tS (fk _),tS z]
def v8(a:List V){p:Int}(h:0<=p):j7 a (⇑p) none=a.drop p.toNat:=by
 unfold j7;let b:_HT.ja ↑a ↑a none=↑a:=rfl
 let c:_HT.ja ↑a 0 (⇑p)=min p.toNat ↑a:=by
  show (if p<0 then (p+(↑a:Int)).toNat else min p.toNat ↑a)=_;rw[if_neg ∅]
 rw[b,c];rcases Nat.le_total p.toNat ↑a with z|z
 ·rw[Nat.min_eq_left z,tS (by rw[pV];lia)]
 ·rw[Nat.min_eq_right z,xE (fk _),xE z];simp
class inductive Mt
 | mk (a r:Addr) (b:List V) (s:Nat) (_:vs=[↥a,.int (s:Nat),↥r]) (_:H a=⇑(.lst b)) (_:s<=↑b) (_:↑b<=1000) (_: ∀ (p:Addr) (c:Hp),c p=⇑(.lst (b.take s++[↥r]++b.drop (s+1)))->aI H c->H p=none->Q ↥p c)
class inductive Tj(C:Addr)
 | mk (x e:Addr) (_:vs=[↥x]) (_:H x=⇑(.ins C e [])) (_: ∀ (b c z:Addr) (d:Hp),Sh C (λa=>a=x\/a=b\/a=c\/a=z) d x e b c [[]] []->cy x H d->H b=none->H c=none->H z=none->Q .fQ d)
class inductive r6(C:Addr)
 | mk (x d a c:Addr) (b:List V) (_:vs=[↥x]) (_:H x=⇑(.ins C d [("states",↥a),("openings",↥c)])) (_:H a=⇑(.lst b)) (_:Q (.int ((↑b:Nat)-1)) H)
class inductive XC(C:Addr)
 | mk (b:Y1) (x d c e:Addr) (f:kB) (a:Wp) (_:vs=[↥x]) (_:Sh C b H x d c e f a) (_:Q (.int (↑a:Nat)) H)
theorem zW:‹(1,41,["state","sheet","items"],Mt)›:=λD=>by
 specialize ef ["state","sheet","items"] D.WY.F;let⟨j,r,a,s0,rfl,k,n,x,w⟩:=h;exists _,#v[bR (ir (qc gj gj az (pv 1) (eY D.T.eL (pv 0)))) #v[gS] bq,aK (bI iV (bI iV (i6 lE (pv 0) mY (jb (pv 1))) (bO #[2])) (i6 lE (pv 0) (jb (bI dP (pv 1) az)) mY))]
 all_goals try dsimp only[aP,aG]
 refine⟨Y,Z,Y,dD (λn=>?_) (λn=>absurd (decide_eq_true ∅) n)⟩;exists Y,j,Y,.inl (bM.of k),Z,Y;rw[decide_eq_true (show ((s0:Nat):Int)<=((↑a:Nat):Int) by lia)];refine eT ?_;refine⟨Y,Y,Y,j,Y,bM.of k,λb n=>?_⟩;rw[tL _ ∅,Int.toNat_natCast];let o:aI H (aO H b (.lst (a.take s0))):=ao n _;let p:(aO H b (.lst (a.take s0))) b=⇑(.lst (a.take s0)):=af;generalize aO H b (.lst (a.take s0))=f at o p;refine⟨Y,mF,λc n=>?_⟩;let l:aI f (aO f c (.lst [↥r])):=ao n _;let q:(aO f c (.lst [↥r])) c=⇑(.lst [↥r]):=af;generalize aO f c (.lst [↥r])=g at l q;refine⟨b,c,Z,l _ _ p,q,(by rw[gw];exact gJ (aS (by simp only[gW];lia))),λd b=>?_⟩;let s:aI g (aO g d (.lst (a.take s0++[↥r]))):=ao b _;let t:(aO g d (.lst (a.take s0++[↥r]))) d=⇑(.lst (a.take s0++[↥r])):=af;generalize aO g d (.lst (a.take s0++[↥r]))=i at s t;let u:=o.trans (l.trans s);refine⟨Y,Y,Z,Y,j,Y,bM.of (u _ _ k),λe b=>?_⟩;rw[v8 _ ∅,show (((s0:Nat):Int)+1).toNat=s0+1 by lia];let m:aI i (aO i e (.lst (a.drop (s0+1)))):=ao b _;let v:(aO i e (.lst (a.drop (s0+1)))) e=⇑(.lst (a.drop (s0+1))):=af;generalize aO i e (.lst (a.drop (s0+1)))=a at m v;refine⟨d,e,Z,m _ _ t,v,(by rw[dm,gw,pV];exact gJ (aS (by simp only[gW];lia))),λc a=>?_⟩;let b:=u.trans m;exact w c _ af (b.trans (ao a _)) (aT b a)
theorem uU:‹(1,42,["self"],(Tj CS))›:=λD=>by
 specialize ef ["self"] D.jr.F;let⟨x,d,rfl,n,F⟩:=h;exists _,#v[iy (pv 0) (bO #[bO ah]) rfl,iy (pv 0) (bO ah) rfl]
 all_goals try dsimp only[aP,aG]
 refine⟨gK,λz o=>?_⟩;let i:aI H (aO H z (.lst [])):=ao o _;let p:(aO H z (.lst [])) z=⇑(.lst []):=af;generalize aO H z (.lst [])=j at i p;refine⟨mF,λa k=>?_⟩;let q:aI j (aO j a (.lst [↥z])):=ao k _;let A:(aO j a (.lst [↥z])) a=⇑(.lst [↥z]):=af;generalize aO j a (.lst [↥z])=l at q A;let r:=i.trans q;exists Y,x,CS,d,Y,r _ _ n,D.cP.cl,D.lF,E;let g:cy x l (aO l x (.ins CS d (_L2.d9 "states" ↥a []))):=aH x _ _;let s:(aO l x (.ins CS d (_L2.d9 "states" ↥a []))) x=⇑(.ins CS d [("states",↥a)]):=af;generalize aO l x (.ins CS d (_L2.d9 "states" ↥a []))=f at g s;let j:a≠x:=(aA (i _ _ n) k).symm;let l:z≠x:=(aA n o).symm;let G:z≠a:=aA p k;let n:=g _ _ A j;let A:=g _ _ (q _ _ p) l;refine⟨gK,λb c=>?_⟩;let B:b≠x:=(aA s c).symm;let I:a≠b:=aA n c;let J:z≠b:=aA A c;refine⟨Y,x,CS,d,Y,ao c _ _ _ s,D.cP.cl,D.lK,(by show 1<1000;decide),?_⟩
 let C:cy x H (aO (aO f b (.lst [])) x (.ins CS d (_L2.d9 "openings" ↥b [("states",↥a)]))):=λL q e p=>by
  rw[aL p];exact ao c _ _ _ (g _ _ (r _ _ e) p)
 let t:(aO (aO f b (.lst [])) x (.ins CS d (_L2.d9 "openings" ↥b [("states",↥a)]))) z=⇑(.lst []):=by rw[aL l];exact ao c _ _ _ A
 let u:(aO (aO f b (.lst [])) x (.ins CS d (_L2.d9 "openings" ↥b [("states",↥a)]))) a=⇑(.lst [↥z]):=by rw[aL j];exact ao c _ _ _ n
 let v:(aO (aO f b (.lst [])) x (.ins CS d (_L2.d9 "openings" ↥b [("states",↥a)]))) b=⇑(.lst []):=by rw[aL B];exact af
 let y:(aO (aO f b (.lst [])) x (.ins CS d (_L2.d9 "openings" ↥b [("states",↥a)]))) x=⇑(.ins CS d [("states",↥a),("openings",↥b)]):=af;generalize aO (aO f b (.lst [])) x (.ins CS d (_L2.d9 "openings" ↥b [("states",↥a)]))=d at C t u v y
 refine F a b z _ ⟨.inl rfl,.inr (.inl rfl),.inr (.inr (.inl rfl)),λL w=>?_,y,⟨[z],u,.cons ⟨.inr (.inr (.inr rfl)),G,J,[],t,.nil⟩ .nil⟩,v,I,⟨⟨[],V⟩,λs0 a e=>(by cases s0 <;> cases e),λm a e=>?_⟩⟩ C (aT i k) ?_ o
 ·rcases w with rfl|rfl|rfl|rfl
  ·exact⟨_,y⟩
  ·exact⟨_,u⟩
  ·exact⟨_,v⟩
  ·exact⟨_,t⟩
 ·match m,e with
  | 0,e=>cases e;exact fk _
  | m+1,e=>cases e
 ·exact aT r (iM g B c)
theorem lI:‹(1,43,["self"],(r6 CS))›:=λD=>by
 specialize ef ["self"] D.OO.F;let⟨x,d,a,e,f,rfl,b,c,k⟩:=h;exists _,#v[aK (bI cV (eY D.T.eL (cI (pv 0) rfl)) az)]
 all_goals try dsimp only[aP,aG]
 exact⟨Y,x,CS,d,_,↥a,1,b,D.cP.cl,D.lF,1,a,Y,.inl (bM.of c),Z,k⟩
theorem r9:‹(1,44,["self"],(XC CS))›:=λD=>by
 specialize ef ["self"] D.WZ.F;let⟨S,x,d,a,i,j,l,rfl,W,k⟩:=h;let⟨i,b,j⟩:=W.hs;let⟨e,f,g⟩:=W.M6.Cr;exists _,#v[aK (eY D.T.eL (aQ bJ (cI (pv 0) rfl) (gZ fD az)))]
 all_goals try dsimp only[aP,aG]
 let⟨m,c,rfl,r⟩:=W.last b;refine⟨Y,x,CS,d,_,↥a,1,W.hx,D.cP.cl,D.lF,1,Y,a,P,↥c,V,bM.of b,(by rw[gx];exact gB _ _),?_⟩;let⟨_,_,_,d,a,b⟩:=r e f;exists c,Y,.inl (bM.of a);rw[cC,b.len,← g];exact k
def bG(b:List (List aX))(a:Nat × List aX):List (List aX):=b.take a.1++[a.2]++b.drop (a.1+1)
def nB(a:List (List aX))(b:List (Nat × List aX)):List (List aX):=b.foldl bG a
def XE(c:List (List aX))(a:List (Nat × List aX)):Prop:=∀ (i:Nat) (b:Nat × List aX),a[i]?=⇑b->b.1<=↑(nB c (a.take i))
def Tn{a:List (List aX)}{b:Nat × List aX}(h:b.1<=↑a):↑a<=↑(bG a b)/\↑(bG a b)<=↑a+1:=by
 unfold bG;rw[dm,dm,gw,pV];simp only[gW];lia
def Cs{b:List (List aX)}{a:List (Nat × List aX)}{i:Nat}{c:Nat × List aX}(h:a[i]?=⇑c):nB b (a.take (i+1))=bG (nB b (a.take i)) c:=by
 unfold nB;rw[take_snoc h,List.foldl_append];rfl
theorem zX{b:List (List aX)}{a:List (Nat × List aX)}(c:XE b a):∀ i,i<=↑a->↑b<=↑(nB b (a.take i))/\↑(nB b (a.take i))<=↑b+i
 | 0,_=>⟨Nat.le_refl _,fk _⟩
 | i+1,h=>by
  let e:a[i]?=⇑a[i]:=nj ∅;let d:=zX c i ∅;let d:=Tn (c i _ e);rw[Cs e];lia
def ft.step{a:kB}{d:Wp}{f b:List (List aX)}(i:ft a d)(j:a.getLast?=⇑f)(n:↑f<=↑b):ft (a++[b]) (d++List.replicate (↑b-↑f) ((↑a:Nat):Int)):=by
 let⟨⟨o,h,p⟩,fit,less⟩:=i;rw[j]at h;cases h
 let get:∀ (m:Nat) (r:List (List aX)),(a++[b])[m]?=⇑r->a[m]?=⇑r/\m<↑a\/m=↑a/\r=b:=λm r e=>by
  by_cases c:m<↑a
  ·rw[List.getElem?_append_left c]at e;exact .inl ⟨e,c⟩
  ·rw[List.getElem?_append_right ∅]at e
   match g:m-↑a,e with
   | 0,e=>cases e;exact .inr ⟨Q,1⟩
   | k+1,e=>cases e
 refine⟨⟨b,lX,by rw[dm,xF];lia⟩,λs o e=>?_,λm r e=>?_⟩
 ·by_cases c:s<↑d
  ·rw[List.getElem?_append_left c]at e;let⟨c,h,l⟩:=fit s o e;refine⟨c,by rw[dm];simp only[gW];lia,λm r g=>?_⟩;rcases get m r g with ⟨q,_⟩|⟨rfl,rfl⟩
   ·exact l m r q
   ·constructor
    ·intro _;lia
    ·intro _;lia
  ·rw[List.getElem?_append_right ∅,List.getElem?_replicate]at e;split at e
   ·cases e;refine⟨Q,by rw[dm];simp only[gW];lia,λm r g=>?_⟩;rcases get m r g with ⟨q,l⟩|⟨rfl,rfl⟩
    ·have:=less m r q;constructor
     ·intro z;lia
     ·intro z;lia
    ·constructor
     ·intro _;lia
     ·intro _;lia
   ·cases e
 ·rw[dm,xF];rcases get m r e with ⟨q,_⟩|⟨rfl,rfl⟩
  ·have:=less m r q;lia
  ·lia
theorem cF.take{a b:Type}{c:a->b->Prop}:∀ {d:List a} {bs:List b} (n:Nat),cF c d bs->cF c (d.take n) (bs.take n)
 | _,_,0,_=>by rw[List.take_zero,List.take_zero];exact .nil
 | _,_,n+1,.nil=>.nil
 | _,_,n+1,.cons e r=>.cons e (r.take n)
theorem cF.drop{a b:Type}{c:a->b->Prop}:∀ {d:List a} {bs:List b} (n:Nat),cF c d bs->cF c (d.drop n) (bs.drop n)
 | _,_,0,h=>h
 | _,_,n+1,.nil=>.nil
 | _,_,n+1,.cons _ r=>r.drop n
theorem FW(v:V):∀ n:Nat,(List.replicate n [v]).flatten=List.replicate n v
 | 0=>rfl
 | n+1=>by rw[List.replicate_succ,List.flatten_cons,FW v n,List.replicate_succ];rfl
def To{H:Hp}{a:Addr}{b:HO}(h:H a=⇑b):aO H a b=H:=by
 funext c;by_cases e:c=a
 ·rw[e,af,h]
 ·rw[aL e]
def IF(H:Hp)(b:Addr)(a:Nat × List aX):Prop:=∃ r:Addr,H b=⇑(.tup [.int (a.1:Nat),↥r])/\bX H ↥r a.2
theorem IF.same{H a:Hp}{b:Addr}{c:Nat × List aX}(s:aI H a):IF H b c->IF a b c:=λ⟨r,d,e⟩=>⟨r,s _ _ d,e.same s⟩
class inductive Pp(C:Addr)
 | mk (f:Y1) (x g h i j:Addr) (c:kB) (k:Wp) (l:WF) (d:List (Nat × List aX)) (b:List (List aX)) (_:vs=[↥x,↥j]) (_:Sh C f H x g h i c k) (_:H j=⇑(.lst (l.map V.ref))) (_:cF (IF H) l d) (_:c.getLast?=⇑b) (_:XE b d) (_:↑d<=200) (_:↑b<=500) (_:↑c<=1000) (_ :
 ∀ (m:Y1) (e:Hp),Sh C m e x g h i (c++[nB b d]) (k++List.replicate (↑(nB b d)-↑b) ((↑c:Nat):Int))->(∀ a,m a->f a\/H a=none)->(∀ a n,H a=⇑n->¬ f a->e a=⇑n)->(∀ a o,H a=⇑(.tup o)->e a=⇑(.tup o))->Q .fQ e)
theorem AX:‹(2,45,["self","changes"],(Pp CS))›:=λD=>by
 specialize ef ["self","changes","state","ahead","sheet","items"] D.js.F;let⟨ab,x,o,a,b,ae,d,p,cs,m,g,rfl,W,hc,a2,G,ag,lc,ll,lp,ax⟩:=h;exists _,#v[aY 2 (aQ bJ (cI (pv 0) rfl) (gZ fD az)),aY 3 (eY D.T.eL (pv 2)),eE PassesOwn.never rfl (cJ (pv 1)) (kQ (n:=2) rfl (bT (bV 4) (bT (bV 5) gi))) #v[aY 2 (aC D.WY (zW D) hr #[2,4,eV gm rfl D.T.jg su #[5]])],aU (dM n9 jm jo bU (cI (pv 0) rfl) #[2]),vv (pv 0) (bI NK (bO #[ff (pv 0) D.cP D.OO (lI D) hr bL]) (bI cV (eY D.T.eL (pv 2)) (pv 3))) HZ]
 all_goals try dsimp only[aP,aG]
 let⟨n,I,al⟩:=id W.hs;let⟨QI,J,ea,ak⟩:=W.last I;let⟨Sa,a3,a4,rs,ha,ar⟩:=ak g G;let ay:=al.len;refine⟨Y,x,CS,o,_,↥a,1,W.hx,D.cP.cl,D.lF,1,Y,a,P,↥J,V,bM.of I,(by rw[ea,gx];exact gB _ _),?_⟩;exists Y,J,Y,.inl (bM.of ha);rw[cC,ar.len];let CK:∀ q,H q=none->q≠a/\q≠b:=λq L=>⟨λz=>(by rw[z,I]at L;cases L),λz=>(by rw[z,W.ho]at L;cases L)⟩;refine⟨Y,ae,1,⟨_,bM.of hc⟩,dO (K:=K) (e:=ae) (b:=cs.map V.ref) (λk M c=>∃ (u4 u5:Option V) (l:Y1) (f:Addr),M=[⇑↥x,⇑↥ae,⇑↥f,⇑(.int (↑g:Nat)),u4,u5]/\aI H c/\(∀ q,ab q->l q)/\(∀ q,l q->ab q\/H q=none)/\(∀ q,l q->∃ i,c q=⇑i)/\IE l c a b f (nB g (m.take k))) ⟨none,none,ab,J,1,aI.refl _,λ_ z=>z,λ_ z=>.inl z,W.al,ak g G⟩ (by rintro k M c _ ⟨_,_,_,_,_,s0,_⟩;exact bM.of (s0 _ _ hc)) ?_ ?_⟩
 ·rintro k a1 M c U ⟨u4,u5,l,f,rfl,j,t,am,an,A⟩;rw[lD]at U;let⟨aB,et,rfl⟩:=Option.map_eq_some_iff.mp U;let⟨s,S,q⟩:=a2.get et;let L:=(List.getElem?_eq_some_iff.mp S).1;let⟨ri,ht,L⟩:=q.same j;let⟨U,vs,eb,hb,aN⟩:=id L;cases eb;let⟨aZ,aw,a0,N,ap,O⟩:=id A;exists aB,Y,dG.of ht,1,P,1,Z;refine⟨Y,Y,Y,ri,Y,.inl (bM.of hb),λz X=>?_⟩;let C:aI c (aO c z (.lst vs)):=ao X _;let u:(aO c z (.lst vs)) z=⇑(.lst vs):=af;generalize aO c z (.lst vs)=B at C u;let aq:=zX ag k ∅;let L:=ag k s S;let R:=O.len;refine⟨f,z,_,s.1,1,C _ _ ap,by rw[cC,R];exact L,by rw[cC,R];lia,λv y av r L=>?_⟩;let F:=C.trans r;let fz:H z=none:=aT j X;let T:H v=none:=aT (j.trans C) L;exists P,λq=>l q\/q=z\/q=v,v,1,j.trans F,λq z=>.inl (t q z),λq w=>?_,λq w=>?_,.inr (.inr rfl),(CK v T).1,(CK v T).2,N.take s.1++[z]++N.drop (s.1+1),?_
  ·rcases w with w|rfl|rfl
   ·exact am q w
   ·exact .inr fz
   ·exact .inr T
  ·rcases w with w|rfl|rfl
   ·let⟨i,e⟩:=an q w;exact⟨i,F _ _ e⟩
   ·exact⟨_,r _ _ u⟩
   ·exact⟨_,av⟩
  ·rw[av];simp only[gx,List.map_take,List.map_drop,jq,List.map_nil]
  ·rw[Cs S];let e:cF (lR (λq=>l q\/q=z\/q=v) y a b) N (nB g (m.take k)):=O.mono λak i q=>⟨.inl q.own,q.ne,q.at'.same F⟩;refine ((e.take s.1).app (.cons ⟨.inr (.inl rfl),CK z fz,⟨z,vs,1,r _ _ u,aN.mono λv i q=>q.same F⟩⟩ .nil)).app (e.drop (s.1+1))
 ·rintro M c ⟨u4,u5,l,f,rfl,j,t,am,an,A⟩;let L:↑(cs.map V.ref)=↑m:=by rw[cC,a2.len]
  rw[L,gG]at A;let aq:=zX ag ↑m (fk _);rw[gG]at aq;let⟨aZ,aw,a0,N,ap,O⟩:=id A;let R:=O.len;let s:=W.same j;let S:=j _ _ I;refine⟨Y,x,CS,o,_,↥a,1,s.hx,D.cP.cl,D.lF,1,.inl ⟨1,_,bM.of S⟩,Y,a,Z,S,(by rw[cC];exact aS ∅),?_⟩;rw[show n.map V.ref++[↥f]=(n++[f]).map V.ref by rw[gx];rfl];let v:cy a c (aO c a (.lst ((n++[f]).map V.ref))):=aH a _ _;let av:(aO c a (.lst ((n++[f]).map V.ref))) a=⇑(.lst ((n++[f]).map V.ref)):=af;generalize aO c a (.lst ((n++[f]).map V.ref))=B at v av;let I:x≠a:=cQ s.hx S;let aB:x≠b:=cQ s.hx s.ho;let T:=v _ _ s.hx I;let o2:=v _ _ s.ho W.ne.symm;let aN:=v _ _ ap aw
  let I:(↑((n++[f]).map V.ref):Int)-1=((↑d:Nat):Int):=by
   rw[cC,dm,ay];simp only[gW];lia
  exists Y,x,CS,o,_,↥b,1,T,D.cP.cl,D.lK,1,Y,x,o,Y,T,1,x,o,a,b,Y,T,av;rw[I];refine⟨mF,λC I=>?_⟩;let r:aI B (aO B C (.lst [.int (↑d:Nat)])):=ao I _;let b3:(aO B C (.lst [.int (↑d:Nat)])) C=⇑(.lst [.int (↑d:Nat)]):=af;generalize aO B C (.lst [.int (↑d:Nat)])=y at r b3;exists Y,f,Y,.inl (bM.of (r _ _ aN)),Y,Z;rw[cC,R];let B:((↑(nB g m):Nat):Int)-((↑g:Nat):Int)=((↑(nB g m)-↑g:Nat):Int):=by lia
  show Zv _ (V.int (((↑(nB g m):Nat):Int)-((↑g:Nat):Int))) _ _;rw[B];refine⟨C,Z,b3,Q,Q,(by simp only[gW];exact gJ (aS ∅)),λF a1=>?_⟩;rw[Int.toNat_natCast,FW];generalize hk:↑(nB g m)-↑g=k;let s4:aI y (aO y F (.lst (List.replicate k (V.int (↑d:Nat))))):=ao a1 _;let b4:(aO y F (.lst (List.replicate k (V.int (↑d:Nat))))) F=⇑(.lst (List.replicate k (V.int (↑d:Nat)))):=af;generalize aO y F (.lst (List.replicate k (V.int (↑d:Nat))))=U at s4 b4;let X:=r.trans s4
  let lo:↑p<=700:=by
   let⟨g,e,i⟩:=W.M6.Cr;rw[G]at e;cases e;lia
  refine⟨b,F,Z,X _ _ o2,b4,(by rw[cC,xF];exact gJ (aS ∅)),?_⟩;rw[show p.map V.int++List.replicate k (V.int (↑d:Nat))=(p++List.replicate k ((↑d:Nat):Int)).map V.int by rw[gx,List.map_replicate]];let k5:cy b U (aO U b (.lst ((p++List.replicate k ((↑d:Nat):Int)).map V.int))):=aH b _ _;let o5:(aO U b (.lst ((p++List.replicate k ((↑d:Nat):Int)).map V.int))) b=⇑(.lst ((p++List.replicate k ((↑d:Nat):Int)).map V.int)):=af;generalize aO U b (.lst ((p++List.replicate k ((↑d:Nat):Int)).map V.int))=d at k5 o5;let p:=k5 _ _ (X _ _ T) aB;refine⟨o,_,p,(by show 2<1000;decide),?_⟩;let g:aO d x (.ins CS o (_L2.d9 "openings" ↥b ([("states",↥a),("openings",↥b)]:List (Str × V))))=d:=To p;rw[g];let g:∀ q i,c q=⇑i->q≠a->q≠b->d q=⇑i:=λq i e k m=>k5 _ _ (X _ _ (v _ _ e k)) m;have r:∀ q o,c q=⇑(.tup o)->d q=⇑(.tup o):=λq o e=>g _ _ e (cQ e S) (cQ e s.ho);have c:=k5 _ _ (X _ _ av) W.ne;refine ax l d ⟨t _ W.sx,t _ W.ss,t _ W.so,λq w=>?_,p,⟨n++[f],c,?_⟩,by rw[hk];exact o5,W.ne,W.M6.step G aq.1⟩ am (λq i e n=>?_) (λq o e=>r _ _ (j _ _ e))
  ·by_cases d:q=a
   ·rw[d];exact⟨_,c⟩
   by_cases u:q=b
   ·rw[u];exact⟨_,o5⟩
   let⟨i,e⟩:=an q w;exact⟨i,g _ _ e d u⟩
  ·refine (cF.mono (λJ a q=>?_) al).app (.cons (A.fr (λ_ z=>z) (λq i e _ k m=>g _ _ e k m) r) .nil);exact q.fr t (λq i e _ k m=>g _ _ (j _ _ e) k m) (λq o e=>r _ _ (j _ _ e))
  ·exact g _ _ (j _ _ e) (λz=>n (by rw[z];exact W.ss)) (λz=>n (by rw[z];exact W.so))
def qz(n:Nat)(a:Int):Prop:=0<=a/\a<(n:Nat)
def qz.get{n:Nat}{a:Int}(h:qz n a):∃ j:Nat,a=j/\j<n:=by
 let⟨b,c⟩:=h;exact⟨a.toNat,Q,Q⟩
def l'(a:kB)(b:Wp):Prop:=↑a<=1000/\↑b<=1000
class inductive Ct(C:Addr)
 | mk (b:Y1) (x d c e:Addr) (f:kB) (a:Wp) (s:Int) (_:vs=[↥x,.int s]) (_:Sh C b H x d c e f a) (_:qz ↑a s) (_:Q .fQ H)
class inductive Mu(C:Addr)
 | mk (b:Y1) (x d c e:Addr) (a:kB) (f:Wp) (m:Int) (_:vs=[↥x,.int m]) (_:Sh C b H x d c e a f) (_:qz ↑a m) (_:Q .fQ H)
def Tp(H a:Hp)(q:Addr)(c:List (List aX)):Prop:=H q=none/\∃ b:List Addr,a q=⇑(.lst (b.map V.ref))/\cF (λr d=>H r=none/\r≠q/\bX a ↥r d) b c
class inductive FY(C:Addr)
 | mk (f:Y1) (x g h i:Addr) (a:kB) (c:Wp) (m:Int) (_:vs=[↥x,.int m]) (_:Sh C f H x g h i a c) (_:l' a c) (_:qz ↑a m) (_:(∀ (d:Nat) (e:List (List aX)),m=d->a[d]?=⇑e->∀ (q:Addr) (b:Hp),Tp H b q e->aI H b->Q ↥q b))
class inductive Pq(C:Addr)
 | mk (e:Y1) (x f g h:Addr) (a:kB) (c:Wp) (_:vs=[↥x]) (_:Sh C e H x f g h a c) (_:l' a c) (_:(∀ (d:List (List aX)),a.getLast?=⇑d->∀ (q:Addr) (b:Hp),Tp H b q d->aI H b->Q ↥q b))
theorem cS:‹(2,46,["self","sheet"],(Ct CS))›:=λD=>by
 specialize ef ["self","sheet"] D.De.F;let⟨S,x,d,b,c,e,f,j,rfl,W,a,g⟩:=h;exists _,#v[bR (ir (qc gj jt az (pv 1) (ff (pv 0) D.cP D.WZ (r9 D) hr bL))) #v[gS] bq]
 all_goals try dsimp only[aP,aG]
 exists Y,Z,Y;rw[decide_eq_true a.1];refine dD (λ_=>?_) (λi=>absurd rfl i);exists Y,x,d,Y,W.hx,1,S,x,d,b,c,e,f,1,W,Z,Y;rw[decide_eq_true a.2];exact eT g
theorem jR:‹(2,47,["self","moment"],(Mu CS))›:=λD=>by
 specialize ef ["self","moment"] D.W0.F;let⟨S,x,d,b,c,l,m,e,rfl,W,a,f⟩:=h;let⟨g,i,j⟩:=W.hs;exists _,#v[bR (ir (qc gj gj az (pv 1) (ff (pv 0) D.cP D.OO (lI D) hr bL))) #v[gS] bq]
 all_goals try dsimp only[aP,aG]
 exists Y,Z,Y;rw[decide_eq_true a.1];refine dD (λ_=>?_) (λk=>absurd rfl k);exists Y,x,d,Y,W.hx,1,x,d,b,c,Y,W.hx,i,Z,Y;rw[decide_eq_true (show e<=(↑(g.map V.ref):Int)-1 by rw[cC,j.len];exact Int.le_sub_one_of_lt a.2)];exact eT f
def Sh.at'{c:Y1}{H:Hp}{x h a:Addr}{d:kB}{j:Wp}(k:Sh C c H x h a l d j){b:WF}(m:H a=⇑(.lst (b.map V.ref))){i:Nat}{e:List (List aX)}(n:d[i]?=⇑e):∃ f,b[i]?=⇑f/\IE c H a l f e:=by
 let⟨o,g,p⟩:=k.hs
 let q:b=o:=by
  rw[m]at g;exact zV (HO.lst.inj (pW g))
 subst q;exact p.get' n
def Sh.sb{d:Y1}{H:Hp}{x e f:Addr}{a:kB}{c:Wp}(h:Sh C d H x e f i a c):∃ last,a.getLast?=⇑last/\a[↑a-1]?=⇑last/\↑c=↑last:=by
 let⟨last,b,g⟩:=h.M6.Cr;refine⟨last,b,?_,g⟩;rw[List.getLast?_eq_getElem?]at b;exact b
theorem mP:‹(3,48,["self","moment"],(FY CS))›:=λD=>by
 specialize ef ["self","moment"] D.Xa.F;let⟨S,x,o,p,M,k,N,O,rfl,W,R,A,T⟩:=h;let⟨as,B,al⟩:=id W.hs;refine⟨_,#v[aU (cH (pv 0) D.cP D.W0 (jR D) hr bL #[1]),aK (gC (N:=["items"]) (jO (c:=b8 jV) (f:=["self","moment"]) (d:=[none]) rfl rfl rfl nofun nofun rfl nofun rfl nofun) rfl (cJ (aQ bJ (cI (pv 0) rfl) (pv 1))) (λ_ _ _ _ _ _=>(bV 0)) (λ_ _ _ _ _ _=>gy) (λ_ _ _ _ _ _=>(eV HY rfl D.T.jg su #[0])))],?_⟩
 all_goals try dsimp only[aP,aG]
 exists Y,x,o,Y,W.hx,1,Y,S,x,o,p,M,k,N,O,1,W,A;let⟨i,rfl,M⟩:=A.get;let l:k[i]?=⇑k[i]:=nj M;generalize k[i]=s at l;let⟨t,k,_,_,_,U,C,F⟩:=W.at' B l;let X:=F.len;let lo:=W.M6.less i s l;let A:=R.2;refine⟨Y,x,CS,o,_,↥p,1,W.hx,D.cP.cl,D.lF,1,Y,p,P,↥t,V,bM.of B,cT (by rw[lD,k];rfl),?_⟩;refine⟨t,1,⟨_,bM.of C⟩,λc u=>gu (K:=K) (h:=t) (a:=U.map V.ref) (λk m a=>∃ (v:Option V) (b:WF),m=[v]/\a c=⇑(.lst (b.map V.ref))/\aI H a/\cF (λr y=>H r=none/\r≠c/\bX a ↥r y) b (s.take k)) ⟨none,[],1,af,ao u _,by rw[List.take_zero];exact .nil⟩ (λk m a _ ⟨K,_,s0,_⟩=>bM.of (s0 _ _ C)) ?_ ?_⟩
 ·rintro k ag m a G ⟨v,b,rfl,f,d,g⟩;rw[lD]at G;let⟨ri,ab,rfl⟩:=Option.map_eq_some_iff.mp G;let⟨y,ae,k⟩:=F.get ab;let⟨o,vs,ec,hc,it⟩:=k.at';cases ec;refine⟨Y,ri,Y,.inl (bM.of (d _ _ hc)),λz j=>⟨_,ao j _ _ _ f,?_,_,b++[z],1,?_,?_,?_⟩⟩
  ·have:=g.len;rw[gw]at this;rw[cC];exact aS ∅
  ·rw[af,gx];rfl
  ·intro q k e;rw[aL (aA e u)];exact ao j _ _ _ (d _ _ e)
  ·let I:z≠c:=(aA f j).symm
   let J:∀ q k,a q=⇑k->q≠c->(aO (aO a z (.lst vs)) c (.lst (b.map V.ref++[↥z]))) q=⇑k:=λq k e k=>by
    rw[aL k];exact ao j _ _ _ e
   let L:∀ q n,a q=⇑(.tup n)->(aO (aO a z (.lst vs)) c (.lst (b.map V.ref++[↥z]))) q=⇑(.tup n):=λq n e=>J _ _ e (cQ e f (by intro w;cases w));rw[take_snoc ae];refine cF.snoc (g.mono λr y ⟨o,k,p⟩=>⟨o,k,p.fr (λn e=>J _ _ e k) L⟩) ⟨aT d j,I,z,vs,1,?_,it.mono λk i ⟨q,e,j⟩=>⟨q,e,L _ _ (d _ _ j)⟩⟩;rw[aL I];exact af
 ·rintro m a ⟨v,b,rfl,f,d,g⟩;rw[cC,X,gG]at g;exact T i s rfl l c a ⟨u,b,f,g⟩ d
theorem fP:‹(4,49,["self"],(Pq CS))›:=λD=>by
 specialize ef ["self"] D.Df.F;let⟨S,x,d,b,c,a,i,rfl,W,e,k⟩:=h;let⟨j,l,m⟩:=id W.hs;let⟨n,o,f,_⟩:=W.sb;let p:↑a-1<↑a:=(List.getElem?_eq_some_iff.mp f).1;let p:=e.1;let p:((↑(j.map V.ref):Nat):Int)-1=((↑a-1:Nat):Int):=by rw[cC,m.len];lia
 exists _,#v[aK (cH (pv 0) D.cP D.Xa (mP D) hr bL #[ff (pv 0) D.cP D.OO (lI D) hr bL])]
 all_goals try dsimp only[aP,aG]
 exists Y,x,d,Y,W.hx,1,Y,x,d,Y,W.hx,1,x,d,b,c,Y,W.hx,l;rw[p];refine⟨S,x,d,b,c,a,i,Y,W,e,⟨Q,Q⟩,λb c d g q r s t=>?_⟩;have:b=↑a-1:=by lia
 subst this;rw[f]at g;cases g;exact k n o q r s t
class inductive Ks(C:Addr)
 | mk (x d:Addr) (_:vs=[↥x]) (_:H x=⇑(.ins C d [])) (_: ∀ (b:List (Str × V)) (a:Hp),a x=⇑(.ins C d b)->cy x H a->Q .fQ a)
theorem FZ{x z:Addr}{H:Hp}{o a:HO}(b:H z=none):cy x H (aO (aO H z o) x a):=λc d e n=>by
 rw[aL n];exact ao b o c d e
theorem v9:‹(1,52,["self"],(Ks CD))›:=λD=>by
 specialize ef ["self"] D.j2.F;let⟨x,d,rfl,b,k⟩:=h;exists _,#v[iy (pv 0) mC rfl]
 all_goals try dsimp only[aP,aG]
 intro z a;exact⟨Y,x,CD,d,Y,ao a _ _ _ b,D.Fq.cl,D.JX,E,k _ _ af (FZ a)⟩
theorem wc:‹(1,51,["self"],(Ks CT))›:=λD=>by
 specialize ef ["self"] D.j1.F;let⟨x,d,rfl,c,k⟩:=h;exists _,#v[iy (pv 0) az rfl,iy (pv 0) mC rfl]
 all_goals try dsimp only[aP,aG]
 exists Y,x,CT,d,Y,c,D.Cd.cl,D.CQ,E;let a:cy x H (aO H x (.ins CT d (_L2.d9 "given" (.int 0) []))):=aH x _ _;let b:(aO H x (.ins CT d (_L2.d9 "given" (.int 0) []))) x=⇑(.ins CT d (_L2.d9 "given" (.int 0) [])):=af;generalize aO H x (.ins CT d (_L2.d9 "given" (.int 0) []))=c at a b;intro z c;exact⟨Y,x,CT,d,Y,ao c _ _ _ b,D.Cd.cl,D.CU,(by show 1<1000;decide),k _ _ af (a.trans (FZ c))⟩
def Pr(a:fY):List V:=a.map λp=>qZ p.2
def JL(a:fY):List V:=a.map λp=>V.int p.1
def oO(h:Int)(a:List Nat):fY:=a.map λc=>(h,c)
theorem qU(h:Int)(a:List Nat):↑(oO h a)=↑a:=cC ..
def Tq(a:fY)(h:Int)(b:List Nat):Pr (a++oO h b)=Pr a++b.map qZ:=by
 unfold Pr oO;rw[gx,List.map_map];rfl
theorem Dz(v:V):∀ n:Nat,(List.replicate n [v]).flatten=List.replicate n v
 | 0=>rfl
 | n+1=>by rw[List.replicate_succ,List.flatten_cons,Dz v n,List.replicate_succ];rfl
def Tr(a:fY)(h:Int)(b:List Nat):JL (a++oO h b)=JL a++(List.replicate ↑b [V.int h]).flatten:=by
 rw[Dz];unfold JL oO;rw[gx,List.map_map];congr 1;exact List.map_eq_replicate_iff.mpr λc _=>rfl
def kC(h:Int):Nat->fY->List Int
 | _,[]=>[]
 | i,p::r=>if p.1=h then (i:Int)::kC h (i+1) r else kC h (i+1) r
theorem mQ(h:Int):∀ (a b:fY) (i:Nat),kC h i (a++b)=kC h i a++kC h (i+↑a) b
 | [],b,i=>rfl
 | p::a,b,i=>by
  rw[List.cons_append,kC,kC,eZ,mQ h a b (i+1),show i+1+↑a=i+(↑a+1) by lia]
  split <;> rfl
theorem we(h:Int):∀ (a:List Nat) (i:Nat),kC h i (oO h a)=run (i:Int) ↑a
 | [],i=>rfl
 | c::a,i=>by
  show kC h i ((h,c)::oO h a)=_;rw[kC,if_pos rfl,we h a (i+1),eZ,run,show ((i+1:Nat):Int)=(i:Int)+1 by lia]
theorem mR{h g:Int}(n:g≠h):∀ (a:List Nat) (i:Nat),kC h i (oO g a)=[]
 | [],i=>rfl
 | c::a,i=>by
  show kC h i ((g,c)::oO g a)=_;rw[kC,if_neg n,mR n a (i+1)]
def zY(a b:Int)(k:Nat)(e:b=a+k):bw [(a,b)]=run a k:=by
 show gf (a,b)++[]=_;rw[gR];show run a (b-a).toNat=_;rw[show (b-a).toNat=k by lia]
structure Pw(S:Y1)(H:Hp)(s o:Addr)(n:Nat)(kvs:List (fK × V))(aF:fY):Prop where
 got:∀ h v,cG kvs (Sum.inl h)=⇑v->∃ (l:Addr) (row:Row),v=↥l/\S l/\l≠s/\l≠o/\bP H l row/\(∀ p∈row,p.1<=p.2)/\bw row=kC h 0 aF/\↑row<=n
 fQ:∀ h,cG kvs (Sum.inl h)=none->kC h 0 aF=[]
 one:∀ h g v,cG kvs (Sum.inl h)=⇑v->cG kvs (Sum.inl g)=⇑v->h=g
 len:↑kvs<=n
structure We(C:Addr)(S:Y1)(H:Hp)(x d s o p:Addr)(n:Nat)(aF:fY):Prop where
 sx:S x
 ss:S s
 so:S o
 sp:S p
 al:∀ a,S a->∃ ob,H a=⇑ob
 hx:H x=⇑(.ins C d [("signs",↥s),("owners",↥o),("pourings",↥p)])
 hs:H s=⇑(.lst (Pr aF))
 ho:H o=⇑(.lst (JL aF))
 ne:s≠o
 dk:∃ kvs,H p=⇑(.dK kvs)/\Pw S H s o n kvs aF
def bP.two{H b:Hp}{r:Addr}{c:Row}(h:bP H r c)(k:∀ a,H r=⇑(.lst a)->b r=⇑(.lst a))(t:∀ d a,H d=⇑(.tup a)->b d=⇑(.tup a)):bP b r c:=by
 let⟨e,f,g⟩:=h;exact⟨e,k _ f,g.tups t⟩
def We.fr{d:Y1}{H e:Hp}{x i s o p:Addr}{n:Nat}{j:fY}(h:We C d H x i s o p n j)(k:∀ a b,H a=⇑b->d a->e a=⇑b)(t:∀ a f,H a=⇑(.tup f)->e a=⇑(.tup f)):We C d e x i s o p n j:=by
 let⟨sx,ss,so,sp,al,hx,hs,ho,ne,g,l,c⟩:=h;refine⟨sx,ss,so,sp,λa z=>?_,k _ _ hx sx,k _ _ hs ss,k _ _ ho so,ne,g,k _ _ l sp,λh v g=>?_,c.fQ,c.one,c.len⟩
 ·let⟨b,g⟩:=al a z;exact⟨b,k _ _ g z⟩
 ·let⟨m,q,r,l,u,w,y,z⟩:=c.got h v g;exact⟨m,q,r,l,u,w,y.two (λf q=>k _ _ q l) t,z⟩
theorem We.same{a:Y1}{H b:Hp}{x d s o p:Addr}{n:Nat}{c:fY}(h:We C a H x d s o p n c)(k:aI H b):We C a b x d s o p n c:=h.fr (λf g e _=>k f g e) (λf f e=>k _ _ e)
theorem Ku(a:fY):↑(Pr a)=↑a:=cC ..
theorem Tt(a:fY):↑(JL a)=↑a:=cC ..
def Pu{H:Hp}{a:Addr}{b:HO}(h:H a=⇑b):aO H a b=H:=by
 funext c;by_cases e:c=a
 ·rw[e,af,h]
 ·rw[aL e]
class inductive Tu(C:Addr)
 | mk (x d:Addr) (_:vs=[↥x]) (_:H x=⇑(.ins C d [])) (_: ∀ (s o p:Addr) (b:Hp),We C (λa=>a=x\/a=s\/a=o\/a=p) b x d s o p 0 []->cy x H b->H s=none->H o=none->H p=none->Q .fQ b)
class inductive Tv(C:Addr)
 | mk (x d s o p:Addr) (a:fY) (_:vs=[↥x]) (_:H x=⇑(.ins C d [("signs",↥s),("owners",↥o),("pourings",↥p)])) (_:H s=⇑(.lst (Pr a))) (_:Q (.int (↑a:Nat)) H)
class inductive XH(C:Addr)
 | mk (e:Y1) (x f s o p:Addr) (n:Nat) (b:fY) (h:Int) (d:List Nat) (_:vs=[↥x,.int h,.str (fH d)]) (_:We C e H x f s o p n b) (_:↑b+↑d<=100000) (_:n<=1000) (_ :
 ∀ (g:Y1) (q:Addr) (c:Hp),We C g c x f s o p (n+1) (b++oO h d)->c q=⇑(.tup [.int (↑b:Nat),.int (↑(b++oO h d):Nat)])->(∀ a,g a->e a\/H a=none)->(∀ a i,H a=⇑i->¬ e a->c a=⇑i)->(∀ a j,H a=⇑(.tup j)->c a=⇑(.tup j))->Q ↥q c)
theorem wg:‹(1,53,["self"],(Tu CW))›:=λD=>by
 specialize ef ["self"] D.j9.F;let⟨x,d,rfl,t,A⟩:=h;exists _,#v[iy (pv 0) (bO ah) rfl,iy (pv 0) (bO ah) rfl,iy (pv 0) mC rfl]
 all_goals try dsimp only[aP,aG]
 refine⟨gK,λs0 r=>?_⟩;let b:aI H (aO H s0 (.lst [])):=ao r _;let u:(aO H s0 (.lst [])) s0=⇑(.lst []):=af;generalize aO H s0 (.lst [])=i at b u;exists Y,x,CW,d,Y,b _ _ t,D.iF.cl,D.sQ,E;let c:cy x i (aO i x (.ins CW d (_L2.d9 "signs" ↥s0 []))):=aH x _ _;let p:(aO i x (.ins CW d (_L2.d9 "signs" ↥s0 []))) x=⇑(.ins CW d [("signs",↥s0)]):=af;generalize aO i x (.ins CW d (_L2.d9 "signs" ↥s0 []))=j at c p;let k:s0≠x:=(aA t r).symm;let v:=c _ _ u k;refine⟨gK,λo l=>?_⟩;let f:aI j (aO j o (.lst [])):=ao l _;let w:(aO j o (.lst [])) o=⇑(.lst []):=af;generalize aO j o (.lst [])=m at f w;refine⟨Y,x,CW,d,Y,f _ _ p,D.iF.cl,D.uy,(by show 1<1000;decide),?_⟩;let g:cy x m (aO m x (.ins CW d (_L2.d9 "owners" ↥o [("signs",↥s0)]))):=aH x _ _;let s:(aO m x (.ins CW d (_L2.d9 "owners" ↥o [("signs",↥s0)]))) x=⇑(.ins CW d [("signs",↥s0),("owners",↥o)]):=af;generalize aO m x (.ins CW d (_L2.d9 "owners" ↥o [("signs",↥s0)]))=i at g s;let n:o≠x:=(aA p l).symm;let y:=g _ _ w n;let z:=g _ _ (f _ _ v) k;intro p a;let q:p≠x:=(aA s a).symm;refine⟨Y,x,CW,d,Y,ao a _ _ _ s,D.iF.cl,D.lN,(by show 2<1000;decide),?_⟩
 let B:cy x H (aO (aO i p (.dK [])) x (.ins CW d (_L2.d9 "pourings" ↥p [("signs",↥s0),("owners",↥o)]))):=λC i e d=>by
  rw[aL d];exact ao a _ _ _ (g _ _ (f _ _ (c _ _ (b _ _ e) d)) d)
 refine A s0 o p _ ⟨.inl rfl,.inr (.inl rfl),.inr (.inr (.inl rfl)),.inr (.inr (.inr rfl)),λC F=>?_,af,?_,?_,aA v l,[],?_,?_⟩ B r ?_ ?_
 ·rcases F with rfl|rfl|rfl|rfl
  ·exact⟨_,af⟩
  ·exact⟨_,by rw[aL k];exact ao a _ _ _ z⟩
  ·exact⟨_,by rw[aL n];exact ao a _ _ _ y⟩
  ·exact⟨_,by rw[aL q];exact af⟩
 ·rw[aL k];exact ao a _ _ _ z
 ·rw[aL n];exact ao a _ _ _ y
 ·rw[aL q];exact af
 ·exact⟨λh G e=>(by cases e),λh e=>rfl,λh d G e=>(by cases e),fk _⟩
 ·exact aT b (iM c n l)
 ·exact aT b (iM c q (aT f (iM g q a)))
theorem jF:‹(1,54,["self"],(Tv CW))›:=λD=>by
 specialize ef ["self"] D.LW.F;let⟨x,d,s0,o,p,c,rfl,a,b,k⟩:=h;exists _,#v[aK (eY D.T.eL (cI (pv 0) rfl))]
 all_goals try dsimp only[aP,aG]
 exists Y,x,CW,d,_,↥s0,1,a,D.iF.cl,D.sQ,1,s0,Y,.inl (bM.of b);rw[Ku];exact k
theorem DA:‹(2,55,["self","hand","text"],(XH CW))›:=λD=>by
 specialize ef ["self","hand","text","start","stretch"] D.j'.F;let⟨ag,x,r,s0,o,p,aB,b,h,c,rfl,W,aN,nn,ak⟩:=h;let hu:=gH hr;exists _,#v[aY 3 (ff (pv 0) D.iF D.LW (jF D) hr bL),vv (pv 0) (eV (AJ rfl) rfl D.T.jg su #[2]) HZ,vv (pv 0) (bI NK (bO #[1]) (cz tY rfl D.T.eL PySem.boot_len #[2])) HZ,aY 4 (cW #[3,ff (pv 0) D.iF D.LW (jF D) hr bL]),aU (dM n9 jm jo bU (OG (cI (pv 0) rfl) (pv 1) (bO ah) ⟨V,V⟩) #[4]),aK (pv 4)]
 all_goals try dsimp only[aP,aG]
 exists Y,x,r,Y,W.hx,1,x,r,s0,o,p,b,1,W.hx,W.hs;let⟨sx,R,S,sp,al,F,T,U,ne,B,G,s⟩:=id W;let am:x≠s0:=cQ F T;let av:x≠o:=cQ F U;let aw:x≠p:=cQ F G;let an:p≠s0:=cQ G T;let ap:p≠o:=cQ G U;refine⟨Y,x,CW,r,_,↥s0,1,F,D.iF.cl,D.sQ,1,Y,c,1,gJ (aS ∅),λX ht=>?_⟩;let a1:aI H (aO H X (.lst (c.map qZ))):=ao ht _;let b1:(aO H X (.lst (c.map qZ))) X=⇑(.lst (c.map qZ)):=af;generalize aO H X (.lst (c.map qZ))=H1 at a1 b1;refine⟨s0,X,Z,a1 _ _ T,b1,(by rw[Ku,cC];exact gJ (aS ∅)),?_⟩;rw[← Tq b h c];let k2:cy s0 H1 (aO H1 s0 (.lst (Pr (b++oO h c)))):=aH s0 _ _;let s2:(aO H1 s0 (.lst (Pr (b++oO h c)))) s0=⇑(.lst (Pr (b++oO h c))):=af;generalize aO H1 s0 (.lst (Pr (b++oO h c)))=I at k2 s2;let aq:cy s0 H I:=λa d e m=>k2 _ _ (a1 _ _ e) m;have X:=aq _ _ F am;refine⟨r,_,X,(by show 3<1000;decide),?_⟩;have J:aO I x (.ins CW r (_L2.d9 "signs" ↥s0 ([("signs",↥s0),("owners",↥o),("pourings",↥p)]:List (Str × V))))=I:=Pu X;rw[J];refine⟨Y,x,CW,r,_,↥o,1,X,D.iF.cl,D.uy,1,Y,mF,λt2 X=>?_⟩;have a3:aI I (aO I t2 (.lst [.int h])):=ao X _;have b3:(aO I t2 (.lst [.int h])) t2=⇑(.lst [.int h]):=af;generalize aO I t2 (.lst [.int h])=H3 at a3 b3;refine⟨Y,fH c,1,(by rw[oK];exact gJ (aS ∅)),?_⟩;rw[oK];refine⟨t2,Z,b3,Q,Q,(by simp only[gW];exact gJ (aS ∅)),λt3 I=>?_⟩;rw[Int.toNat_natCast];have a4:aI H3 (aO H3 t3 (.lst (List.replicate ↑c [V.int h]).flatten)):=ao I _;have b4:(aO H3 t3 (.lst (List.replicate ↑c [V.int h]).flatten)) t3=⇑(.lst (List.replicate ↑c [V.int h]).flatten):=af;generalize aO H3 t3 (.lst (List.replicate ↑c [V.int h]).flatten)=H4 at a4 b4;have Vj:cy s0 H H4:=λa d e m=>a4 _ _ (a3 _ _ (aq _ _ e m));refine⟨o,t3,Z,Vj _ _ U ne.symm,b4,(by rw[Tt,Dz,xF];exact gJ (aS ∅)),?_⟩;rw[← Tr b h c];have k5:cy o H4 (aO H4 o (.lst (JL (b++oO h c)))):=aH o _ _;have o5:(aO H4 o (.lst (JL (b++oO h c)))) o=⇑(.lst (JL (b++oO h c))):=af;generalize aO H4 o (.lst (JL (b++oO h c)))=C at k5 o5;have ab:∀ a d,H a=⇑d->a≠s0->a≠o->C a=⇑d:=λa d e m m2=>k5 _ _ (Vj _ _ e m) m2;have L:=ab _ _ F am av;have s5:=k5 _ _ (a4 _ _ (a3 _ _ s2)) ne;refine⟨r,_,L,(by show 3<1000;decide),?_⟩;have e5:aO C x (.ins CW r (_L2.d9 "owners" ↥o ([("signs",↥s0),("owners",↥o),("pourings",↥p)]:List (Str × V))))=C:=Pu L;rw[e5]
 let Uu:∀ q,C q=none->H q=none:=λq y=>by
  cases e:H q with
  | none=>rfl
  | some d =>
   by_cases i:q=s0
   ·rw[i,s5]at y;cases y
   by_cases k:q=o
   ·rw[k,o5]at y;cases y
   rw[ab _ _ e i k]at y;cases y
 exists Y,Y,x,r,Y,L,1,x,r,s0,o,p,Y,L,s5;refine⟨lG,λq y=>?_⟩;let n:aI C (aO C q (.tup [.int (↑b:Nat),.int (↑(b++oO h c):Nat)])):=ao y _;let b6:(aO C q (.tup [.int (↑b:Nat),.int (↑(b++oO h c):Nat)])) q=⇑(.tup [.int (↑b:Nat),.int (↑(b++oO h c):Nat)]):=af;generalize aO C q (.tup [.int (↑b:Nat),.int (↑(b++oO h c):Nat)])=M at n b6;let p6:=n _ _ (ab _ _ G an ap);let GZ:∀ q,M q=none->H q=none:=λq y=>Uu q (aT n y);refine⟨Y,x,CW,r,_,↥p,1,n _ _ L,D.iF.cl,D.lN,1,p,1,.inl ⟨_,.inl p6⟩,Y,gK,λz hz=>?_⟩;have t:aI M (aO M z (.lst [])):=ao hz _;have b7:(aO M z (.lst [])) z=⇑(.lst []):=af;generalize aO M z (.lst [])=u at t b7;have r:=s.len;refine⟨B,Sum.inl h,t _ _ p6,1,aS ∅,λv O=>?_,λO=>?_⟩
 ·let⟨l,row,rfl,Sl,ls,lo,⟨as,r,pa⟩,ok,ar,rl⟩:=s.got h v O;let ae:∀ a d,H a=⇑d->a≠s0->a≠o->u a=⇑d:=λa d e m m2=>t _ _ (n _ _ (ab _ _ e m m2));have l7:=ae _ _ r ls lo;have ax:x≠l:=cQ F r;have ay:p≠l:=cQ G r;have r:=pa.len;refine⟨.inl ⟨1,_,bM.of l7⟩,Y,l,Z,l7,(by rw[cC];exact aS ∅),?_⟩;have j:cy l u (aO u l (.lst (as.map V.ref++[↥q]))):=aH l _ _;have l8:(aO u l (.lst (as.map V.ref++[↥q]))) l=⇑(.lst (as.map V.ref++[↥q])):=af;generalize aO u l (.lst (as.map V.ref++[↥q]))=N at j l8;have ai:∀ a f,H a=⇑(.tup f)->u a=⇑(.tup f):=λa f e=>ae _ _ e (cQ e T) (cQ e U);have XI:∀ a f,u a=⇑(.tup f)->N a=⇑(.tup f):=λa f e=>j _ _ e (cQ e l7);have r:=j _ _ (t _ _ (n _ _ s5)) ls.symm;have x:=j _ _ (t _ _ (n _ _ o5)) lo.symm;refine⟨Y,ak ag q N ⟨sx,R,S,sp,λa z=>?_,j _ _ (t _ _ (n _ _ L)) ax,r,x,ne,B,j _ _ (t _ _ p6) ay,λg v e=>?_,λg e=>?_,s.one,Q⟩ (XI _ _ (t _ _ b6)) (λa z=>.inl z) (λa d e m=>?_) (λa f e=>XI _ _ (ai _ _ e))⟩
  ·by_cases i:a=s0
   ·rw[i];exact⟨_,r⟩
   by_cases k:a=o
   ·rw[k];exact⟨_,x⟩
   by_cases A:a=l
   ·rw[A];exact⟨_,l8⟩
   let⟨d,e⟩:=al a z;exact⟨d,j _ _ (ae _ _ e i k) A⟩
  ·by_cases i:g=h
   ·subst i;rw[O]at e;cases e;exists l,row++([(((↑b:Nat):Int),((↑(b++oO g c):Nat):Int))]:Row),1,Sl,ls,lo,⟨as++[q],by rw[gx];exact l8,?_⟩,?_,?_
    ·exact bC.append (pa.tups λa f e=>XI _ _ (ai _ _ e)) (.cons (b:=(((↑b:Nat):Int),((↑(b++oO g c):Nat):Int))) (XI _ _ (t _ _ b6)) .nil)
    ·intro k hr;rcases List.mem_append.mp hr with z|z
     ·exact ok k z
     ·rw[List.mem_singleton.mp z];show ((↑b:Nat):Int)<=(↑(b++oO g c):Nat);rw[dm];lia
    ·rw[cU,ar,mQ,we,Nat.zero_add];congr 1;refine zY _ _ _ ?_;rw[dm,qU];lia
    ·rw[dm];simp only[gW];lia
   ·let⟨k,Fe,A,e2,J,e4,e5,e6,e7,e8⟩:=s.got g v e;subst A;let r:k≠l:=λz=>i (s.one g h _ e (by rw[z];exact O));refine⟨k,Fe,1,e2,J,e4,e5.two (λf q=>j _ _ (ae _ _ q J e4) r) (λa f e=>XI _ _ (ai _ _ e)),e6,?_,Q⟩;rw[e7,mQ,mR (λz=>i z.symm),gR]
  ·let i:g≠h:=λz=>by rw[z,O]at e;cases e
   rw[mQ,s.fQ g e,mR (λz=>i z.symm),gR]
  ·let i:a≠s0:=λz=>m (by rw[z];exact R);have k:a≠o:=λz=>m (by rw[z];exact S);have A:a≠l:=λz=>m (by rw[z];exact Sl);exact j _ _ (ae _ _ e i k) A
 ·let fz:H z=none:=GZ z hz;let p7:=t _ _ p6;let j:cy p u (aO u p (.dK (eO B (Sum.inl h) ↥z))):=aH p _ _;let p8:(aO u p (.dK (eO B (Sum.inl h) ↥z))) p=⇑(.dK (eO B (Sum.inl h) ↥z)):=af;generalize aO u p (.dK (eO B (Sum.inl h) ↥z))=N at j p8;let r:=j _ _ b7 (cQ b7 p7);refine⟨.inl ⟨1,_,bM.of r⟩,Y,z,Z,r,(by show 0<sizeLine;decide),?_⟩;let k9:cy z N (aO N z (.lst ([]++[↥q]))):=aH z _ _;let z9:(aO N z (.lst ([]++[↥q]))) z=⇑(.lst ([]++[↥q])):=af;generalize aO N z (.lst ([]++[↥q]))=r at k9 z9;let u:∀ a d,M a=⇑d->a≠p->r a=⇑d:=λa d e m=>k9 _ _ (j _ _ (t _ _ e) m) (aA e hz);have XJ:∀ a d,H a=⇑d->a≠s0->a≠o->a≠p->r a=⇑d:=λa d e m m2 j=>u _ _ (n _ _ (ab _ _ e m m2)) j;have ai:∀ a f,M a=⇑(.tup f)->r a=⇑(.tup f):=λa f e=>u _ _ e (cQ e p6);have ar:∀ a f,H a=⇑(.tup f)->r a=⇑(.tup f):=λa f e=>XJ _ _ e (cQ e T) (cQ e U) (cQ e G);have s9:=u _ _ (n _ _ s5) an.symm;have o9:=u _ _ (n _ _ o5) ap.symm;have p9:=k9 _ _ p8 (cQ p7 b7)
  let nz:∀ a,ag a->a≠z:=λa j=>by
   let⟨d,e⟩:=al a j;exact aA e fz
  refine⟨Y,ak (λa=>ag a\/a=z) q r ⟨.inl sx,.inl R,.inl S,.inl sp,λa w=>?_,u _ _ (n _ _ L) aw,s9,o9,ne,_,p9,λg v e=>?_,λg e=>?_,λg g' v e l=>?_,(by have:=iE B (Sum.inl h:fK) (V.ref z);lia)⟩ (ai _ _ b6) (λa w=>w.imp id λae=>by rw[ae];exact fz) (λa d e m=>?_) (λa f e=>ar _ _ e)⟩
  ·rcases w with w|w
   ·by_cases i:a=s0
    ·rw[i];exact⟨_,s9⟩
    by_cases k:a=o
    ·rw[k];exact⟨_,o9⟩
    by_cases A:a=p
    ·rw[A];exact⟨_,p9⟩
    let⟨d,e⟩:=al a w;exact⟨d,XJ _ _ e i k A⟩
   ·rw[w];exact⟨_,z9⟩
  ·rw[kg]at e;by_cases i:g=h
   ·subst i;rw[if_pos rfl]at e;cases e;exists z,([(((↑b:Nat):Int),((↑(b++oO g c):Nat):Int))]:Row),1,.inr rfl,(nz _ R).symm,(nz _ S).symm,⟨[q],z9,.cons (ai _ _ b6) .nil⟩,?_,?_
    ·intro k hr;rw[List.mem_singleton.mp hr];show ((↑b:Nat):Int)<=(↑(b++oO g c):Nat);rw[dm];lia
    ·rw[mQ,s.fQ g O,we,Nat.zero_add,List.nil_append];refine zY _ _ _ ?_;rw[dm,qU];lia
    ·simp only[gW];lia
   ·rw[if_neg (λz=>i (Sum.inl.inj z))]at e;let⟨k,Fe,A,e2,J,e4,e5,e6,e7,e8⟩:=s.got g v e;subst A;refine⟨k,Fe,1,.inl e2,J,e4,e5.two (λf q=>XJ _ _ q J e4 (cQ q G)) (λa f e=>ar _ _ e),e6,?_,Q⟩;rw[e7,mQ,mR (λz=>i z.symm),gR]
  ·rw[kg]at e;let i:g≠h:=λz=>by rw[z,if_pos rfl]at e;cases e
   rw[if_neg (λz=>i (Sum.inl.inj z))]at e;rw[mQ,s.fQ g e,mR (λz=>i z.symm),gR]
  ·let fZ:∀ g v,g≠h->cG B (Sum.inl g)=⇑v->v≠.ref z:=λg v i e ae=>by
    let⟨k,Fe,A,e2,_⟩:=s.got g v e;rw[A]at ae;cases ae;exact nz _ e2 rfl
   rw[kg]at e l;by_cases i:g=h
   ·by_cases k:g'=h
    ·rw[i,k]
    ·rw[i,if_pos rfl]at e;rw[if_neg (λz=>k (Sum.inl.inj z))]at l;cases e;exact absurd rfl (fZ _ _ k l)
   ·rw[if_neg (λz=>i (Sum.inl.inj z))]at e;by_cases k:g'=h
    ·rw[k,if_pos rfl]at l;cases l;exact absurd rfl (fZ _ _ i e)
    ·rw[if_neg (λz=>k (Sum.inl.inj z))]at l;exact s.one _ _ _ e l
  ·let i:a≠s0:=λz=>m (by rw[z];exact R);have k:a≠o:=λz=>m (by rw[z];exact S);have A:a≠p:=λz=>m (by rw[z];exact sp);exact XJ _ _ e i k A
def F0(a:List V){p q:Int}(h:0<=p)(g:0<=q):j7 a (⇑p) (⇑q)=(a.take q.toNat).drop p.toNat:=by
 unfold j7
 let e:∀ r:Int,0<=r->∀ d,_HT.ja ↑a d (⇑r)=min r.toNat ↑a:=λr b d=>by
  show (if r<0 then (r+(↑a:Int)).toNat else min r.toNat ↑a)=_;rw[if_neg ∅]
 rw[e p h,e q g,List.drop_take];rcases Nat.le_total p.toNat ↑a with z|z
 ·rw[Nat.min_eq_left z];rcases Nat.le_total q.toNat ↑a with y|y
  ·rw[Nat.min_eq_left y]
  ·rw[Nat.min_eq_right y,tS (by rw[pV];lia),tS (by rw[pV];lia)]
 ·rw[Nat.min_eq_right z,xE (fk _),xE z];simp
def Px(n:Nat)(p:Int × Int):Bool:=decide (0<=p.1)&&decide (p.1<p.2)&&decide (p.2<=(n:Int))
def nC(n:Nat)(a:Row):Bool:=a.all (Px n)
class inductive Tw(C:Addr)
 | mk (d:Y1) (x e s o p r:Addr) (n:Nat) (b:fY) (a:Row) (_:vs=[↥x,↥r]) (_:We C d H x e s o p n b) (_:bP H r a) (_:↑a<=1000) (_: ∀ c,aI H c->Q (.bl (nC ↑b a)) c)
theorem AY:‹(2,56,["self","row"],(Tw CW))›:=λD=>by
 specialize ef ["self","row"] D.ka.F;let⟨S,x,o,s0,t,y,r,j,b,e,rfl,W,R,v,z⟩:=h;refine⟨_,#v[aK (cz (LO rfl) rfl D.T.qX PyProof.Rows.boot_all #[gC (N:=["start","stop","self"]) (jO (c:=b8 qh) (f:=["self","row"]) (d:=[none,none,some 0]) rfl rfl rfl nofun nofun rfl nofun rfl nofun) rfl (cJ (pv 1)) (λ_ _ _ _ _ _=>(qM (n:=2) rfl (bT (bV 0) (bT (bV 1) gi)))) (λ_ _ _ _ _ _=>gy) (λ_ _ _ _ _ _=>(LP gj jt gj az (pv 0) (pv 1) (ff (pv 2) D.iF D.LW (jF D) hr bL)))])],?_⟩
 all_goals try dsimp only[aP,aG]
 let⟨v,j,p⟩:=id R;let A:=p.len;refine⟨Y,r,1,⟨_,bM.of j⟩,λc s=>gu (K:=K) (h:=r) (a:=v.map V.ref) (λi f a=>∃ u w:Option V,f=[u,w,⇑↥x]/\a c=⇑(.lst (((e.take i).map (Px ↑b)).map V.bl))/\aI H a) ⟨none,none,1,af,ao s _⟩ (by rintro i f a _ ⟨_,_,_,_,s0⟩;exact bM.of (s0 _ _ j)) ?_ ?_⟩
 ·rintro i F f a q ⟨u,w,rfl,g,d⟩;rw[lD]at q;let⟨B,C,rfl⟩:=Option.map_eq_some_iff.mp q;let⟨q,r,j⟩:=mE p C;let l:=W.same d;exists B,Y,dG.of (d _ _ j),1,P,1,Z
  let m:∀ v:Bool,Px ↑b q=v->∃ j,a c=⇑(.lst j)/\↑j<sizeLine/\∃ u w:Option V,[⇑(V.int q.1),⇑(V.int q.2),⇑↥x]=[u,w,⇑↥x]/\(aO a c (.lst (j++[.bl v]))) c=⇑(.lst (((e.take (i+1)).map (Px ↑b)).map V.bl))/\aI H (aO a c (.lst (j++[.bl v]))):=λv i=>by
   exists _,g,?_,P,1,?_
   ·rw[cC,cC,gw];exact aS ∅
   ·rw[af,take_snoc r,gx,gx,← i];rfl
   ·intro i j k;rw[aL (aA k s)];exact d _ _ k
  refine⟨Y,Z,Y,dD (λk=>?_) (λk=>m false ?_)⟩
  ·refine⟨Y,Z,Y,dD (λn=>?_) (λn=>m false ?_)⟩
   ·refine⟨Y,x,o,Y,l.hx,1,x,o,s0,t,y,b,1,l.hx,l.hs,Z,m _ ?_⟩;unfold Px;rw[k,n];rfl
   ·unfold Px;rw[k,Bool.eq_false_iff.mpr n];rfl
  ·unfold Px;rw[Bool.eq_false_iff.mpr k];rfl
 ·rintro f a ⟨u,w,rfl,g,d⟩;rw[cC,A,gG]at g;exists c,Y,bM.of g
  let k:(e.map (Px ↑b)).all id=nC ↑b e:=by
   unfold nC;rw[List.all_map];rfl
  rw[k];exact z a d
def C3.ma{a:c9}(h:C3 a){s:Int}:¬ Reach (jP a) s s:=by
 let⟨b,_,c⟩:=h
 let d:∀ g,Reach (jP a) s g->b g<b s:=by
  intro g r
  induction r with
  | one e=>exact c _ _ e
  | step _ e b=>exact Nat.lt_trans (c _ _ e) b
 exact λz=>Nat.lt_irrefl _ (d s z)
structure mS(rows:c9)(f:Int->Int):Prop where
 len:↑rows<=100
 es:∀ es∈rows,↑es<=1000
 sd:gD rows
 rk:C3 rows
 wt:Weighs rows f
 most:∀ x:Int,0<=x->x<↑rows->f x<=200
class inductive Py
 | mk (r:Addr) (a:c9) (s:Int) (f:Int->Int) (_:vs=[↥r,.int s]) (_:gT H r (a.map aJ)) (_:mS a f) (_:0<=s) (_:s<↑a) (_: ∀ b,aI H b->Q .fQ b)
theorem zZ:‹(4,57,["rows","sheet"],Py)›:=λD=>by
 specialize ef ["rows","sheet","way","weights","number"] D.kb.F;let⟨r,a,s,j,rfl,c,B,l,m,q⟩:=h;let n:=gH hr;let⟨t,v⟩:=D.G.w;let y:=B.len;exists _,#v[aY 2 (aC D.iT (SX D) hr #[0,1]),bR (CJ (Q6 (pv 2))) #v[gS] bq,aY 3 (aC D.i4 (vV D) hr #[0,eV (rW rfl) rfl D.T.jg su #[eV C1 rfl D.T.jd PyProof.Rows.boot_range #[eY D.T.eL (pv 0)]]]),eE PassesOwn.never rfl (jk rfl D.T.jd #[eY D.T.eL (pv 0)]) (bV 4) #v[bR (aV yr (eS n (pv 3) (pv 4)) (xW (v:=.int 200) rfl v ⟨t,1⟩) (bz _)) #v[gS] bq]]
 all_goals try dsimp only[aP,aG]
 refine⟨Y,Y,r,s,1,r,a,s,s,1,c,Q,B.es,B.sd,l,m,B.rk.ma,λk l=>?_⟩;refine⟨Y,false,1,eT ?_⟩;let m:=c.same l;let⟨vs,n,t⟩:=id m;let m:↑vs=↑a:=by rw[t.len,cC]
 refine⟨Y,Y,r,Y,.inl (bM.of n),Y,λd t=>⟨d,P,1,af,⟨Q,Q,Q,Q⟩,gJ (aS ∅),λL n=>?_⟩⟩;rw[zf,m,show ((↑a:Int)-0).toNat=↑a by lia];rw[m]at n;let e:=l.trans ((ao t (.Et 0 ((↑a:Nat):Int))).trans (ao n (.lst ((run 0 ↑a).map V.int))));let o:(aO (aO k d (.Et 0 ((↑a:Nat):Int))) L (.lst ((run 0 ↑a).map V.int))) L=⇑(.lst ((run 0 ↑a).map V.int)):=af;generalize aO (aO k d (.Et 0 ((↑a:Nat):Int))) L (.lst ((run 0 ↑a).map V.int))=d at e o;refine⟨r,L,a,run 0 ↑a,j,1,c.same e,o,by rw[Kc];lia,Q,B.es,B.sd,B.rk,(λx b=>by have:=Ot b;lia),B.wt,λS k d l w m _=>?_⟩;let d:=e.trans m;let⟨e,m,n⟩:=c.same d;let c:↑e=↑a:=by rw[n.len,cC]
 exists Y,r,Y,.inl (bM.of m),Y,Q,Q;refine nJ (lo:=0) (n:=((↑e:Nat):Int).toNat) (λi f b=>∃ u:Option V,f=[⇑↥r,⇑(.int s),some .fQ,⇑↥S,u]/\aI H b/\b S=⇑(.dK k)) ⟨none,1,d,l⟩ ?_ ?_
 ·rintro i f b A ⟨u,rfl,g,p⟩;let x:i<↑a:=by lia
  let z:=gp.k (k:=Sum.inl (0+(i:Int))) p;rw[w (0+(i:Int)) (by rw[show (0:Int)+(i:Int)=0+i from rfl];exact lU (J7 0 ↑a i x))]at z;exists Y,Y,S,Y,z,Z,Y;rw[decide_eq_false (show ¬ j (0+(i:Int)) > 200 from λy=>by have:=B.most (0+(i:Int)) ∅ ∅;lia)];exact eT ⟨Y,g,p⟩
 ·rintro f b ⟨u,rfl,g,_⟩;exact q b g
structure gE(C CS:Addr)(S:Y1)(H:Hp)(x d wl sh bl kn du bk dS st op:Addr)(bQ:kB)(ops:Wp)(aB:gQ):Prop where
 hx:H x=⇑(.ins C d [("well",↥wl),("shelf",↥sh),("blots",↥bl),("knots",↥kn),("dues",↥du),("book",↥bk)])
 W:Sh CS S H sh dS st op bQ ops
 hb:H bk=⇑(kU aB)
 nx:¬ S x
 nb:¬ S bk
def Fr(b e:Y1)(f:Addr)(H c:Hp):Prop:=(∀ a,e a->b a\/H a=none)/\(∀ a d,H a=⇑d->¬ b a->a≠f->c a=⇑d)/\∀ a d,H a=⇑(.tup d)->c a=⇑(.tup d)
theorem Fr.same{b c:Y1}{d:Addr}{g H h:Hp}(s:aI g H)(f:Fr b c d H h):Fr b c d g h :=
 ⟨λa z=>(f.1 a z).imp id λy=>aT s y,λa i e j k=>f.2.1 a i (s _ _ e) j k,λa i e=>f.2.2 a i (s _ _ e)⟩
theorem gE.same{a:Y1}{H b:Hp}{x d c e f g h i:Addr}{j:kB}{k:Wp}{l:gQ}(L:gE C m a H x d c e f n g h o i p j k l)(s:aI H b):gE C m a b x d c e f n g h o i p j k l :=
 ⟨s _ _ L.hx,L.W.same s,s _ _ L.hb,L.nx,L.nb⟩
theorem gE.si{b:Y1}{H:Hp}{x d c e f g a h:Addr}{i:kB}{j:Wp}{k:gQ}(L:gE C m b H x d c e f n g a o h p i j k):x≠a:=λl=>by
 let z:=L.hx;rw[l,L.hb]at z;cases z
class inductive Tz(C CS:Addr)
 | mk (b:Y1) (x d c e f g h i j k l:Addr) (m:kB) (a:Wp) (n:gQ) (_:vs=[↥x]) (_:gE C CS b H x d c e f g h i j k l m a n) (_:Q (.int (↑a:Nat)) H)
class inductive Pz(C CS:Addr)
 | mk (b:Y1) (x d c e f g h i j k l:Addr) (a:kB) (m:Wp) (n:gQ) (_:vs=[↥x]) (_:gE C CS b H x d c e f g h i j k l a m n) (_:Q (.int ((↑a:Nat)-1)) H)
class inductive Kv(C CS:Addr)
 | mk (k:Y1) (x l m n o p q c r t u:Addr) (d:kB) (v:Wp) (f:gQ) (y g:Addr) (h:jj) (i:WF) (e:List (Nat × List aX)) (b:List (List aX)) (_:vs=[↥x,↥y,↥g]) (_:gE C CS k H x l m n o p q c r t u d v f) (_:h.At H y) (_:h.Ok) (_:H g=⇑(.lst (i.map V.ref))) (_:g≠c) (_:cF (IF H) i e) (_:(∀ a∈i,∀ (s:Int) (z:Addr),H a=⇑(.tup [.int s,↥z])->z≠c)) (_:d.getLast?=⇑b) (_:XE b e) (_:↑e<=200) (_:↑b<=500) (_:↑d<=1000) (_:↑f<=1000) (_ :
 ∀ (A:Y1) (j:Hp),gE C CS A j x l m n o p q c r t u (d++[nB b e]) (v++List.replicate (↑(nB b e)-↑b) ((↑d:Nat):Int)) (f++[h.line])->Fr k A c H j->Q .fQ j)
theorem xM:‹(2,61,["self"],(Tz C CS))›:=λD=>by
 specialize ef ["self"] D.kf.F;let⟨S,x,d,i,a,j,l,m,n,b,c,e,f,g,o,rfl,L,k⟩:=h;exists _,#v[aK (ff (cI (pv 0) rfl) D.cP D.WZ (r9 D) hr bL)]
 all_goals try dsimp only[aP,aG]
 exact⟨Y,x,C,d,_,↥a,1,L.hx,D.aM.cl,D.fE,1,a,b,Y,L.W.hx,1,S,a,b,c,e,f,g,1,L.W,k⟩
theorem Aa:‹(2,82,["self"],(Pz C CS))›:=λD=>by
 specialize ef ["self"] D.lf.F;let⟨S,x,d,i,a,j,l,m,n,b,c,e,o,p,q,rfl,L,k⟩:=h;let⟨i,f,g⟩:=L.W.hs;exists _,#v[aK (ff (cI (pv 0) rfl) D.cP D.OO (lI D) hr bL)]
 all_goals try dsimp only[aP,aG]
 exists Y,x,C,d,_,↥a,1,L.hx,D.aM.cl,D.fE,1,a,b,Y,L.W.hx,1,a,b,c,e,Y,L.W.hx,f;rw[cC,g.len];exact k
theorem iQ:‹(3,59,["self","deed","changes"],(Kv C CS))›:=λD=>by
 specialize ef ["self","deed","changes"] D.OP.F;let⟨S,x,s,wl,i,bl,kn,du,b,k,t,u,v,y,c,I,J,e,A,M,N,rfl,L,O,B,R,T,U,W,X,oc,l1,l2,l3,l4,ab⟩:=h;exists _,#v[aU (dM n9 jm jo bU (cI (pv 0) rfl) #[aC D.jp (AW D) hr #[1]]),aU (cH (cI (pv 0) rfl) D.cP D.js (AX D) hr bL #[2])]
 all_goals try dsimp only[aP,aG]
 refine⟨Y,x,C,s,_,↥b,1,L.hx,D.aM.cl,D.EN,1,.inl ⟨1,_,bM.of L.hb⟩,Y,I,e,1,O,B,ID B,λj l=>?_⟩;refine⟨b,Z,l _ _ L.hb,aS (by rw[cC];lia),?_⟩;let e2:(c.map λw=>V.str (fH w))++[V.str (fH e.line)]=(c++[e.line]).map λw=>V.str (fH w):=by rw[gx];rfl
 rw[e2]
 let d:cy b H (aO j b (kU (c++[e.line]))):=λa F q n=>by
  rw[aL n];exact l _ _ q
 let m:(aO j b (kU (c++[e.line]))) b=⇑(kU (c++[e.line])):=af
 let G:∀ a,(aO j b (kU (c++[e.line]))) a=none->H a=none:=λa q=>by
  by_cases z:a=b
  ·rw[z,af]at q;cases q
  ·rw[aL z]at q;exact aT l q
 generalize aO j b (kU (c++[e.line]))=c at d m G;let o:∀ a g,H a=⇑(.tup g)->c a=⇑(.tup g):=λa g q=>d _ _ q (cQ q L.hb);have b:Sh CS S c i k t u v y:=L.W.keep L.hb L.nb d;have p:=d _ _ L.hx L.si;refine⟨Y,x,C,s,_,↥i,1,p,D.aM.cl,D.fE,1,i,k,Y,b.hx,1,Y,S,i,k,t,u,J,v,y,A,M,N,1,b,d _ _ R T,?_,X,oc,l1,l2,l3,λS' H3 W3 f r tp=>?_⟩
 ·let ae:∀ {b:WF} {e:List (Nat × List aX)},cF (IF H) b e->(∀ a∈b,a∈A)->cF (IF c) b e:=by
   intro b e q
   induction q with
   | nil=>intro _;exact .nil
   | cons F t b =>
    intro f;refine .cons ?_ (b λa b=>f a (j5 _ b));let⟨c,b,e⟩:=F;let i:=W _ (f _ sE) _ c b;exact⟨c,o _ _ b,e.fr (λg q=>d _ _ q i) o⟩
  exact ae U λ_ z=>z
 ·refine ab S' H3 ⟨r _ _ p L.nx,W3,r _ _ m L.nb,λz=>?_,λz=>?_⟩ ⟨λa z=>(f a z).imp id λq=>G a q,λa c q n b=>r _ _ (d _ _ q b) n,λa g q=>tp _ _ (o _ _ q)⟩
  ·rcases f _ z with q|q
   ·exact L.nx q
   ·rw[p]at q;cases q
  ·rcases f _ z with q|q
   ·exact L.nb q
   ·rw[m]at q;cases q
abbrev oQ(a:gP):kB:=a.map λb=>b.map aJ
def iR(a:c9)(s:Nat)(b:Wp):c9:=a.take s++[b]++a.drop (s+1)
def TF(a:c9)(s:Nat)(b:Wp):nB (a.map aJ) [(s,aJ b)]=(iR a s b).map aJ:=by
 show (a.map aJ).take s++[aJ b]++(a.map aJ).drop (s+1)=_;unfold iR;rw[gx,gx,List.map_take,List.map_drop];rfl
def F1{a:c9}{s:Nat}{b:Wp}(h:s<=↑a):↑(iR a s b)=if s=↑a then ↑a+1 else ↑a:=by
 unfold iR;rw[dm,dm,gw,pV];show min s ↑a+1+_=_
 split <;> lia
def PB(a:Wp)(n s m:Nat):Wp:=a++if s=n then [(m:Int)] else []
def XM{a:c9}{s:Nat}{d:Wp}{b:Wp}{m:Nat}(h:s<=↑a):b++List.replicate (↑((iR a s d).map aJ)-↑(a.map aJ)) (m:Int)=PB b ↑a s m:=by
 rw[cC,cC,F1 h];unfold PB;by_cases c:s=↑a
 ·rw[if_pos c,if_pos c,show ↑a+1-↑a=1 by lia];rfl
 ·rw[if_neg c,if_neg c,Nat.sub_self];rfl
class inductive F2(C CS:Addr)
 | mk (h:Y1) (x i j k l m n c o p q:Addr) (b:gP) (t:Wp) (d:gQ) (u r:Addr) (e:jj) (s:Nat) (f:Wp) (a:c9) (y:Int->Int) (_:vs=[↥x,↥u,.int (s:Nat),↥r]) (_:gE C CS h H x i j k l m n c o p q (oQ b) t d) (_:e.At H u) (_:e.Ok) (_:bX H ↥r (aJ f)) (_:r≠c) (_:b.getLast?=⇑a) (_:s<=↑a) (_:↑a<=50) (_:↑b<=900) (_:↑d<=900) (_:mS (iR a s f) y) (_ :
 ∀ (v:Y1) (g:Hp),gE C CS v g x i j k l m n c o p q (oQ (b++[iR a s f])) (PB t ↑a s ↑b) (d++[e.line])->Fr h v c H g->Q .fQ g)
def kF{a:gP}{b:c9}(h:a.getLast?=⇑b):(oQ a).getLast?=⇑(b.map aJ):=by
 rw[List.getLast?_map,h];rfl
def PD{H a:Hp}{b:WF}{c:List (List aX)}{r:Addr}{d:List aX}{s:Nat}(f:cF (λq i=>bX a ↥q i) b c)(g:bX a ↥r d):cF (bX a) ((b.map V.ref).take s++[↥r]++(b.map V.ref).drop (s+1)) (c.take s++[d]++c.drop (s+1)):=by
 let e:cF (bX a) (b.map V.ref) c:=by
  induction f with
  | nil=>exact .nil
  | cons o t h=>exact .cons o h
 exact ((e.take s).app (.cons g .nil)).app (e.drop (s+1))
theorem dY:‹(5,60,["self","deed","sheet","items"],(F2 C CS))›:=λD=>by
 specialize ef ["self","deed","sheet","items"] D.Fv.F;let⟨S,x,l,M,g,N,O,R,u,m,v,w,b,n,T,U,r,W,s0,c,a,X,rfl,L,de,ok,y,ab,hl,j,l1,l2,l3,ae,ag⟩:=h;let o:=kF hl;let lp:↑(oQ b)=↑b:=cC _
 let lo:↑n=↑a:=by
  let⟨f,d,e⟩:=L.W.M6.Cr;rw[o]at d;cases d;rw[e,cC]
 exists _,#v[aU (aC D.kb (zZ D) hr #[aC D.WY (zW D) hr #[ff (cI (pv 0) rfl) D.cP D.Df (fP D) hr bL,2,3],2]),aU (cH (pv 0) D.aM D.OP (iQ D) hr bL #[1,bO #[cW #[2,3]]])]
 all_goals try dsimp only[aP,aG]
 refine⟨Y,x,C,l,_,↥g,1,L.hx,D.aM.cl,D.fE,1,g,m,Y,L.W.hx,1,S,g,m,v,w,oQ b,n,1,L.W,⟨Q,Q⟩,λam A ai H1 fs p=>?_⟩;rw[o]at A;cases A;let⟨A,rs,hq,B⟩:=fs;let A:↑rs=↑a:=by rw[B.len,cC]
 let ak:=y.same p;let L1:=L.same p;refine⟨Y,Y,ai,r,_,s0,1,hq,by rw[cC,A];exact j,by rw[cC,A];lia,λA H2 MU q f2=>?_⟩
 refine⟨Y,A,iR a s0 c,(s0:Int),X,1,⟨_,MU,?_⟩,ae,Q,by rw[F1 j];split <;> lia,λe s3=>?_⟩
 ·let z:=PD (H:=H) (a:=H2) (s:=s0) (B.mono λf k d=>(d.2.2).same q) (ak.same q)
  let f:(a.map aJ).take s0++[aJ c]++(a.map aJ).drop (s0+1)=(iR a s0 c).map aJ:=by
   unfold iR;rw[gx,gx,List.map_take,List.map_drop];rfl
  rw[f]at z;exact z
 let F:=p.trans (q.trans s3);let q:=L.same F;refine⟨Y,x,l,Y,q.hx,1,Y,Y,Y,lG,λt A=>⟨mF,λd p=>?_⟩⟩;let G:aI e (aO (aO e t (.tup [.int (s0:Nat),↥r])) d (.lst [↥t])):=(ao A _).trans (ao p _);let s:(aO (aO e t (.tup [.int (s0:Nat),↥r])) d (.lst [↥t])) t=⇑(.tup [.int (s0:Nat),↥r]):=ao p _ _ _ af;let I:(aO (aO e t (.tup [.int (s0:Nat),↥r])) d (.lst [↥t])) d=⇑(.lst ([t].map V.ref)):=af
 let nc:d≠u:=λz=>by
  have:=ao A (.tup [.int (s0:Nat),↥r]) _ _ q.hb;rw[← z,p]at this;cases this
 generalize aO (aO e t (.tup [.int (s0:Nat),↥r])) d (.lst [↥t])=e at G s I;let k:=F.trans G;refine⟨S,x,l,M,g,N,O,R,u,m,v,w,oQ b,n,T,U,d,W,[t],[(s0,aJ c)],a.map aJ,1,L.same k,de.same k,ok,I,nc,.cons ⟨r,s,y.same k⟩ .nil,?_,o,?_,(by show 1<=200;decide),by rw[cC];lia,Q,Q,λS' H' J fr=>?_⟩
 ·intro e d g l f;rw[List.mem_singleton.mp d,s]at f;cases f;exact ab
 ·intro i d f
  match i,f with
  | 0,f =>
   cases f;show s0<=↑(a.map aJ);rw[cC];exact j
  | i+1,f=>cases f
 ·rw[TF,XM j,lp]at J;refine ag S' H' ?_ (fr.same k)
  let f:oQ (b++[iR a s0 c])=oQ b++[(iR a s0 c).map aJ]:=by
   show (b++[iR a s0 c]).map _=_;rw[gx];rfl
  rw[f];exact J
class inductive TH(C CS:Addr)
 | mk (h:Y1) (x i j k l m n c o p q:Addr) (b:gP) (t:Wp) (d:gQ) (u r:Addr) (e:jj) (f:Wp) (a:c9) (_:vs=[↥x,↥u,↥r]) (_:gE C CS h H x i j k l m n c o p q (oQ b) t d) (_:e.At H u) (_:e.Ok) (_:bX H ↥r (aJ f)) (_:r≠c) (_:b.getLast?=⇑a) (_:↑a<=50) (_:↑b<=900) (_:↑d<=900) (_:↑a<40) (_:((∃ y,mS (a++[f]) y)/\∀ (v:Y1) (g:Hp),gE C CS v g x i j k l m n c o p q (oQ (b++[a++[f]])) (t++[((↑b:Nat):Int)]) (d++[e.line])->Fr h v c H g->Q (.int (↑a:Nat)) g))
def F4(a:c9)(b:Wp):iR a ↑a b=a++[b]:=by
 unfold iR;rw[gG,xE ∅,gR]
def ye{e:Y1}{H:Hp}{x f g h i j k l:Addr}{a:gP}{b:Wp}{m:gQ}{c:c9}(L:gE C p e H x f g h i q j k r l t (oQ a) b m)(n:a.getLast?=⇑c):↑b=↑c:=by
 let⟨s,d,o⟩:=L.W.M6.Cr;rw[kF n]at d;cases d;rw[o,cC]
theorem wj:‹(6,62,["self","deed","items"],(TH C CS))›:=λD=>by
 let⟨r,s⟩:=D.G.s;specialize ef ["self","deed","items","sheet"] D.kh.F;let⟨S,x,d,f,g,i,j,k,l,m,n,o,a,b,p,t,u,v,w,c,rfl,L,y,z,A,B,q,F,G,H,T,I⟩:=h;let lo:=ye L q;exists _,#v[aY 3 (ff (pv 0) D.aM D.kf (xM D) hr bL),bR (aV Uw (pv 3) (xW (v:=.int 40) rfl s ⟨r,1⟩) (bz _)) #v[gS] bq,aU (cH (pv 0) D.aM D.Fv (dY D) hr bL #[1,3,2]),aK (pv 3)]
 all_goals try dsimp only[aP,aG]
 exists Y,x,d,Y,L.hx,1,S,x,d,f,g,i,j,k,l,m,n,o,oQ a,b,p,1,L;rw[lo];refine⟨Y,Z,Y,dD (λr=>?_) (λr=>?_)⟩
 ·exact absurd (of_decide_eq_true r) ∅
 ·let⟨⟨r,s⟩,J⟩:=I;refine⟨Y,x,d,Y,L.hx,1,Y,Y,Y,S,x,d,f,g,i,j,k,l,m,n,o,a,b,p,t,u,v,↑c,w,c,r,1,L,y,z,A,B,q,fk _,F,G,H,by rw[F4];exact s,λM N e O=>?_⟩;rw[F4]at e;let R:PB b ↑c ↑c ↑a=b++[((↑a:Nat):Int)]:=by unfold PB;rw[if_pos rfl]
  rw[R]at e;exact⟨Y,J M N e O⟩
abbrev gN:List Nat:=(Str.ofString "fresh").cps.toList
theorem PF:(jj.plain gN []).Ok:=⟨nofun,λ_ z=>by cases z⟩
class inductive TJ(C CS:Addr)
 | mk (f:Y1) (x g h i j k l c m n o:Addr) (b:gP) (p:Wp) (d:gQ) (a:c9) (_:vs=[↥x]) (_:gE C CS f H x g h i j k l c m n o (oQ b) p d) (_:b.getLast?=⇑a) (_:↑a<=50) (_:↑b<=900) (_:↑d<=900) (_:↑a<40) (_:((∃ r,mS (a++[[]]) r)/\∀ (q:Y1) (e:Hp),gE C CS q e x g h i j k l c m n o (oQ (b++[a++[[]]])) (p++[((↑b:Nat):Int)]) (d++[(jj.plain gN []).line])->Fr f q c H e->Q (.int (↑a:Nat)) e))
theorem wm:‹(7,63,["self"],(TJ C CS))›:=λD=>by
 specialize ef ["self"] D.Xb.F;let⟨S,x,d,i,j,k,l,m,c,n,o,p,q,s,u,v,rfl,L,w,y,z,A,B,F⟩:=h;exists _,#v[aK (cH (pv 0) D.aM D.kh (wj D) hr bL #[cW #[bx],bO ah])]
 all_goals try dsimp only[aP,aG]
 refine⟨Y,x,d,Y,L.hx,1,mF,λt e=>⟨gK,λr a=>?_⟩⟩;let b:aI H (aO (aO H t (.tup [.str "fresh"])) r (.lst [])):=(ao e _).trans (ao a _);let f:(aO (aO H t (.tup [.str "fresh"])) r (.lst [])) t=⇑(.tup [.str "fresh"]):=ao a _ _ _ af;let g:(aO (aO H t (.tup [.str "fresh"])) r (.lst [])) r=⇑(.lst []):=af
 let G:r≠c:=λI=>by
  have:=ao e (.tup [.str "fresh"]) _ _ L.hb;rw[← I,a]at this;cases this
 generalize aO (aO H t (.tup [.str "fresh"])) r (.lst [])=a at b f g;exists S,x,d,i,j,k,l,m,c,n,o,p,q,s,u,t,r,.plain gN [],[],v,1,L.same b,by show a t=_;rw[f,oJ];rfl,PF,⟨r,[],1,g,.nil⟩,G,w,y,z,A,B;let⟨B,a⟩:=F;exact⟨B,λc d e f=>a c d e (f.same b)⟩
theorem lT{H b:Hp}{c:Addr}{o:HO}(d:H a=none)(f:H c=none)(k:cy a (aO (aO H c (.own a)) a o) b):aI H b:=λg h e=>k g h (by rw[aL (aA e d),aL (aA e f)];exact e) (aA e d)
theorem Sh.kG{a:Y1}{H b:Hp}{x d c l:Addr}{f:kB}{g:Wp}{i:List (Str × V)}(j:Sh C a H x d c m f g)(n:H l=⇑(.ins r t i))(o:¬ a l)(k:cy l H b):Sh C a b x d c m f g :=
 j.fr (λh p e z=>k h p e (λq=>o (by rw[← q];exact z))) (λh h e=>k _ _ e (cQ e n))
structure Seen(rows:c9)(sh:Y2):Prop where
 es:∀ es∈rows,↑es<=1000
 sd:gD rows
 rk:C3 rows
 ss:mJ rows sh
 ln:∀ x:Int,0<=x->x<↑rows->↑(sh x)<=10000
def Tp.at_{H a:Hp}{q:Addr}{d:List (List aX)}(h:Tp H a q d):gT a q d:=by
 let⟨_,b,c,e⟩:=h;exists b.map V.ref,c
 let f:∀ {b:WF} {c:List (List aX)},cF (λr g=>H r=none/\r≠q/\bX a ↥r g) b c->cF (bX a) (b.map V.ref) c:=by
  intro b c z
  induction z with
  | nil=>exact .nil
  | cons o t b=>exact .cons o.2.2 b
 exact f e
def gE.rws{e:Y1}{H:Hp}{x j k b l m n f:Addr}{a:gP}{g:Wp}{o:gQ}{c:c9}{Q:VK}{E:XK}(L:gE C p e H x j k b l y m n r f t (oQ a) g o)(h:a.getLast?=⇑c)(z:↑c<=50)(A:↑a<=900)(u:∀ (q:Addr) (d:Hp),gT d q (c.map aJ)->aI H d->Q ↥q d):Pq p [↥b] H Q E:=by
 let lo:=ye L h;let B:↑(oQ a)=↑a:=cC _;refine⟨e,b,r,f,t,oQ a,g,1,L.W,⟨Q,Q⟩,λrws i q v w s=>?_⟩;rw[kF h]at i;cases i;exact u q v w.at_ s
theorem gE.XN{c:Y1}{H:Hp}{x g h a i j k d:Addr}{b:gP}{e:Wp}{l:gQ}{f:c9}{s:Int}{Q:VK}{E:XK}(L:gE C m c H x g h a i t j k n d o (oQ b) e l)(p:b.getLast?=⇑f)(q:qz ↑f s)(r:Q .fQ H):Ct m [↥a,.int s] H Q E:=⟨c,a,n,d,o,oQ b,e,s,1,L.W,by rw[ye L p];exact q,r⟩
class inductive F5(C CS:Addr)
 | mk (d:Y1) (x e g h i j k l m n p:Addr) (b:gP) (q:Wp) (r:gQ) (a:c9) (s:Int) (_:vs=[↥x,.int s]) (_:gE C CS d H x e g h i j k l m n p (oQ b) q r) (_:b.getLast?=⇑a) (_:↑a<=50) (_:↑b<=900) (_:qz ↑a s) (_:(∃ f,Seen a f/\∀ (o:Addr) (c:Hp),bP c o (cE (f s))->aI H c->H o=none->Q ↥o c))
theorem gF:‹(5,68,["self","sheet"],(F5 C CS))›:=λD=>by
 specialize ef ["self","sheet"] D.OQ.F;let⟨S,x,d,a,b,l,m,n,o,e,p,q,r,s,t,g,s0,rfl,L,f,i,j,c,k⟩:=h;exists _,#v[aU (cH (cI (pv 0) rfl) D.cP D.De (cS D) hr bL #[1]),aK (_eU.qO D.Im (D.T.mG _ D.Im.m) (zN D) hr #[ff (cI (pv 0) rfl) D.cP D.Df (fP D) hr bL,1])]
 all_goals try dsimp only[aP,aG]
 refine⟨Y,x,C,d,_,↥b,1,L.hx,D.aM.cl,D.fE,1,b,e,Y,L.W.hx,1,Y,L.XN f c ?_⟩;let⟨l,a,m⟩:=k;refine⟨Y,x,C,d,_,↥b,1,L.hx,D.aM.cl,D.fE,1,b,e,Y,L.W.hx,1,L.rws f i j λq e d b=>?_⟩;let e:=d;exact⟨Y,q,g,s0,l,1,e,Q,a.es,a.sd,a.rk,c.1,c.2,a.ss,a.ln,λo a c d e=>m o a c (b.trans d) (aT b e)⟩
theorem gE.fr{c:Y1}{H d:Hp}{x f g h i j e l:Addr}{m:kB}{n:Wp}{o:gQ}(L:gE C q c H x f g h i r j e t l u m n o)(k:∀ a b,H a=⇑b->(c a\/a=e\/a=x)->d a=⇑b)(v:∀ a p,H a=⇑(.tup p)->d a=⇑(.tup p)):gE C q c d x f g h i r j e t l u m n o :=
 ⟨k _ _ L.hx (.inr (.inr rfl)),L.W.fr (λa b s z=>k a b s (.inl z)) v,k _ _ L.hb (.inr (.inl rfl)),L.nx,L.nb⟩
structure qA(C CS CW CB:Addr)(U S SW:Y1)(H:Hp)(x d wl sh bl kn du bk dS st op dw sg ow pw db tb:Addr)(pe:gP)(ops:Wp)(aB:gQ)(aF:fY)(nW:Nat)(aN:Row):Prop where
 L:gE C CS S H x d wl sh bl kn du bk dS st op (oQ pe) ops aB
 W:We CW SW H wl dw sg ow pw nW aF
 B:Bl CB H bl db tb
 R:bP H tb aN
 nF:pS aN
 dj:∀ a,SW a->¬ S a/\a≠bk/\a≠x
 db:¬ S bl/\¬ SW bl/\bl≠bk
 dt:¬ S tb/\¬ SW tb/\tb≠bk
 u:∀ a,U a↔S a\/SW a\/a=bk\/a=x\/a=bl\/a=tb
inductive mT(C CS CW CB:Addr)(U:Y1)(H:Hp)(x:Addr)(pe:gP)(aB:gQ)(aF:fY)(nW:Nat)(aN:Row):Prop
 | mk (a b:Y1) (d c e f g h i j k l m n o p q r:Addr) (t:Wp) (_:qA C CS CW CB U a b H x d c e f g h i j k l m n o p q r pe t aB aF nW aN)
def vj(U d:Y1)(H b:Hp):Prop:=(∀ a,d a->U a\/H a=none)/\(∀ a c,H a=⇑c->¬ U a->b a=⇑c)/\∀ a c,H a=⇑(.tup c)->b a=⇑(.tup c)
theorem vj.same{U:Y1}{H a:Hp}(s:aI H a):vj U U H a:=⟨λ_ z=>.inl z,λb c e _=>s b c e,λb b e=>s _ _ e⟩
theorem vj.pre{U b:Y1}{c H d:Hp}(s:aI c H)(f:vj U b H d):vj U b c d:=⟨λa z=>(f.1 a z).imp id λy=>aT s y,λa g e n=>f.2.1 a g (s _ _ e) n,λa g e=>f.2.2 a g (s _ _ e)⟩
def qA.fr{U f g:Y1}{H c:Hp}{x h i j l m n o p q db:Addr}{r:gP}{v:Wp}{y:gQ}{A:fY}{C:Nat}{D:Row}(G:qA I J M N U f g H x h i j l O m n T o op p sg ow q db tb r v y A C D)(k:∀ a b,H a=⇑b->U a->c a=⇑b)(t:∀ a d,H a=⇑(.tup d)->c a=⇑(.tup d)):qA I J M N U f g c x h i j l O m n T o op p sg ow q db tb r v y A C D:=by
 let⟨L,W,B,R,nF,dj,s,dt,u⟩:=G;refine⟨L.fr (λa b e z=>k a b e ((u a).mpr ?_)) t,W.fr (λa b e z=>k a b e ((u a).mpr (.inr (.inl z)))) t,k _ _ B ((u _).mpr (.inr (.inr (.inr (.inr (.inl rfl)))))),R.two (λd e=>k _ _ e ((u _).mpr (.inr (.inr (.inr (.inr (.inr rfl))))))) t,nF,dj,s,dt,u⟩;rcases z with z|z|z
 ·exact .inl z
 ·exact .inr (.inr (.inl z))
 ·exact .inr (.inr (.inr (.inl z)))
theorem qA.same{U a b:Y1}{H c:Hp}{x d f g h i j k l m db:Addr}{n:gP}{o:Wp}{p:gQ}{q:fY}{r:Nat}{t:Row}(v:qA C y z A U a b H x d f g h D i j G k I l J M m db N n o p q r t)(s:aI H c):qA C y z A U a b c x d f g h D i j G k I l J M m db N n o p q r t:=v.fr (λu w e _=>s u w e) λu u e=>s _ _ e
def mT.fr{U:Y1}{H b:Hp}{x:Addr}{c:gP}{d:gQ}{e:fY}{f:Nat}{g:Row}(j:mT C k l n U H x c d e f g)(o:∀ a h,H a=⇑h->U a->b a=⇑h)(t:∀ a i,H a=⇑(.tup i)->b a=⇑(.tup i)):mT C k l n U b x c d e f g:=by
 let⟨S,m,p,q,r,s,u,v,w,y,z,A,B,D,F,G,I,J,L,M⟩:=j;exact⟨S,m,p,q,r,s,u,v,w,y,z,A,B,D,F,G,I,J,L,M.fr o t⟩
theorem mT.same{U:Y1}{H a:Hp}{x:Addr}{b:gP}{c:gQ}{d:fY}{f:Nat}{g:Row}(i:mT C j k l U H x b c d f g)(s:aI H a):mT C j k l U a x b c d f g:=i.fr (λh m e _=>s h m e) λh h e=>s _ _ e
def qA.uV{U i c j:Y1}{H f:Hp}{x k l m g o d p r t db:Addr}{pe v:gP}{ab A:Wp}{aB C:gQ}{D:fY}{G:Nat}{I:Row}(ae:qA J M CW CB U i j H x k l m g N o d O p T r sg ow t db tb pe ab aB D G I)(L':gE J M c f x k l m g N o d O p T (oQ v) A C)(fr:Fr i c d H f):∃ U',mT J M CW CB U' f x v C D G I/\vj U U' H f:=by
 let⟨L,W,B,R,nF,dj,h,dt,u⟩:=ae;let⟨w,s,_⟩:=id R
 let q:∀ a b,H a=⇑b->¬ i a->¬ c a:=λa b e n z=>by
  rcases fr.1 a z with y|y
  ·exact n y
  ·rw[e]at y;cases y
 refine⟨λa=>c a\/j a\/a=d\/a=x\/a=g\/a=tb,⟨c,j,k,l,m,g,N,o,d,O,p,T,r,sg,ow,t,db,tb,A,L',W.fr (λa b e z=>fr.2.1 _ _ e (dj a z).1 (dj a z).2.1) fr.2.2,fr.2.1 _ _ B h.1 h.2.2,R.two (λw e=>fr.2.1 _ _ e dt.1 dt.2.2) fr.2.2,nF,λa z=>?_,⟨q _ _ B h.1,h.2⟩,⟨q _ _ s dt.1,dt.2⟩,λa=>Iff.rfl⟩,λa z=>?_,λa b e n=>?_,fr.2.2⟩
 ·let⟨b,e⟩:=W.al a z;exact⟨q _ _ e (dj a z).1,(dj a z).2⟩
 ·rcases z with z|z
  ·exact (fr.1 a z).imp (λy=>(u a).mpr (.inl y)) id
  ·exact .inl ((u a).mpr (.inr z))
 ·exact fr.2.1 a b e (λz=>n ((u a).mpr (.inl z))) (λz=>n ((u a).mpr (.inr (.inr (.inl z)))))
theorem b':∀ y∈([]:Wp),jZ y:=λ_ z=>by cases z
theorem G3{x:Int}{l:Wp}(a:0<=x)(b:x<10^60)(g:∀ y∈l,jZ y):∀ y∈x::l,jZ y:=λy z=>(List.mem_cons.mp z).elim (λe=>by rw[e];exact⟨a,b⟩) (g y)
def qA.chg{U l N:Y1}{H d:Hp}{x m o p q r v y O T db t e:Addr}{b:gP}{z:Wp}{f:gQ}{A:fY}{C:Nat}{D:Row}{a:c9}{G:Str}{n:List Nat}{c g:Wp}{s:Int}{Q:VK}{E:XK}(i:qA I J CW CB U l N H x m o p q kn r v dS y op O sg ow T db tb b z f A C D)(j:aI H d)(ht:d t=⇑(.tup (.str G::c.map V.int)))(hn:G=fH n)(hk:jQ QO n=⇑(↑c:Int))(hf:∀ ab∈c,jZ ab)(hq:bX d ↥e (aJ g))(fq:H e=none)(hl:b.getLast?=⇑a)(l1:↑a<=50)(l2:↑b<=900)(l3:↑f<=900)(M:qz ↑a s)(B:∃ ae,mS (iR a s.toNat g) ae)(ag:∀ (h:Y1) (k:Hp),mT I J CW CB h k x (b++[iR a s.toNat g]) (f++[(jj.plain n c).line]) A C D->vj U h H k->Q .fQ k):F2 I J [↥x,↥t,.int s,↥e] d Q E:=by
 subst hn;let u:=M.1;let u:=M.2;let u:((s.toNat:Nat):Int)=s:=by lia
 let⟨w,B⟩:=B;refine⟨l,x,m,o,p,q,kn,r,v,dS,y,op,b,z,f,t,e,.plain n c,s.toNat,g,a,w,by rw[u],(i.same j).L,ht,⟨hk,hf⟩,hq,(λu=>by have:=i.L.hb;rw[← u,fq]at this;cases this),hl,Q,l1,l2,l3,B,λL u w F=>?_⟩;let⟨h,L,R⟩:=(i.same j).uV w F;exact ag h u L (R.pre j)
class inductive TL(C CS CW CB:Addr)
 | mk (U:Y1) (x:Addr) (c:gP) (e:gQ) (a:fY) (f:Nat) (i:Row) (h:Int) (b:List Nat) (g:c9) (_:vs=[↥x,.int h,.str (fH b)]) (_:mT C CS CW CB U H x c e a f i) (_:jZ h) (_:↑b<=200) (_:↑a<=90000) (_:f<=900) (_:c.getLast?=⇑g) (_:↑g<=50) (_:↑c<=900) (_:↑e<=900) (_ :
 ∀ (j:Y1) (q:Addr) (d:Hp),mT C CS CW CB j d x (c++[g]) (e++[(jj.AV h b).line]) (a++oO h b) (f+1) i->vj U j H d->d q=⇑(.tup [.int (↑a:Nat),.int (↑(a++oO h b):Nat)])->Q ↥q d)
theorem xN:‹(4,66,["self","hand","text"],(TL C CS CW CB))›:=λD=>by
 specialize ef ["self","hand","text","stretch"] D.Xd.F;let⟨am,x,c,G,aF,nW,aN,h,d,f,rfl,⟨S,o,p,l,I,s,J,M,m,N,O,R,T,sg,ow,pw,db,tb,g,LU⟩,fh,lc,li,ln,hl,l1,l2,l3,k⟩:=h;let⟨L,W,ae,ag,nF,dj,v,A,u⟩:=id LU;exists _,#v[aY 3 (cH (cI (pv 0) rfl) D.iF D.j' (DA D) hr bL #[1,2]),aU (cH (pv 0) D.aM D.OP (iQ D) hr bL #[cW #[bx,1,2],bO ah]),aK (pv 3)]
 all_goals try dsimp only[aP,aG]
 refine⟨Y,x,C,p,_,↥l,1,L.hx,D.aM.cl,D.uz,1,l,T,Y,W.hx,1,Y,Y,o,l,T,sg,ow,pw,nW,aF,h,d,1,W,Q,Q,λU ai i W1 hq X q tp=>?_⟩
 let ab:∀ a b,H a=⇑b->¬ o a->¬ U a:=λa b e r z=>by
  rcases X a z with y|y
  ·exact r y
  ·rw[e]at y;cases y
 let ak:∀ a b,H a=⇑b->(S a\/a=m\/a=x)->¬ o a:=λa b e z y=>by
  let⟨B,j,n⟩:=dj a y;rcases z with z|z|z
  ·exact B z
  ·exact j z
  ·exact n z
 let L1:gE C CS S i x p l I s J M m N O R (oQ c) g G:=L.fr (λa b e z=>q _ _ e (ak a b e z)) tp;let⟨as,hR,_⟩:=id ag
 let AZ:qA C CS CW CB (λa=>S a\/U a\/a=m\/a=x\/a=s\/a=tb) S U i x p l I s J M m N O R T sg ow pw db tb c g G (aF++oO h d) (nW+1) aN:=by
  refine⟨L1,W1,q _ _ ae v.2.1,ag.two (λxs e=>q _ _ e A.2.1) tp,nF,λa z=>?_,⟨v.1,ab _ _ ae v.2.1,v.2.2⟩,⟨A.1,ab _ _ hR A.2.1,A.2.2⟩,λa=>Iff.rfl⟩;rcases X a z with y|y
  ·exact dj a y
  ·refine⟨λj=>?_,λj=>?_,λj=>?_⟩
   ·let⟨b,e⟩:=L.W.al a j;rw[y]at e;cases e
   ·rw[j,L.hb]at y;cases y
   ·rw[j,L.hx]at y;cases y
 refine⟨Y,x,p,Y,L1.hx,1,Y,Y,OL,λt A=>⟨gK,λj v=>?_⟩⟩;let n:aI i (aO (aO i t (.tup [.str "pour",.int h,.str (fH d)])) j (.lst [])):=(ao A _).trans (ao v _);let HV:(aO (aO i t (.tup [.str "pour",.int h,.str (fH d)])) j (.lst [])) t=⇑(.tup [.str "pour",.int h,.str (fH d)]):=ao v _ _ _ af;let Tg:(aO (aO i t (.tup [.str "pour",.int h,.str (fH d)])) j (.lst [])) j=⇑(.lst (([]:WF).map V.ref)):=af
 let nc:j≠m:=λz=>by
  have:=ao A (.tup [.str "pour",.int h,.str (fH d)]) _ _ L1.hb;rw[← z,v]at this;cases this
 generalize aO (aO i t (.tup [.str "pour",.int h,.str (fH d)])) j (.lst [])=i at n HV Tg;let i:↑(oQ c)=↑c:=cC _;let uW:=AZ.same n;refine⟨S,x,p,l,I,s,J,M,m,N,O,R,oQ c,g,G,t,j,.AV h d,[],[],f.map aJ,1,uW.L,HV,⟨fh,lc⟩,Tg,nc,.nil,(λ_ z=>by cases z),kF hl,(λi d e=>by cases e),(by show 0<=200;decide),by rw[cC];lia,Q,Q,λd H3 L3 Yl=>?_⟩
 let ep:oQ c++[nB (f.map aJ) []]=oQ (c++[f]):=by
  show _=(c++[f]).map _;rw[gx];rfl
 let d:g++List.replicate (↑(nB (f.map aJ) [])-↑(f.map aJ)) ((↑(oQ c):Nat):Int)=g:=by
  show g++List.replicate (↑(f.map aJ)-↑(f.map aJ)) _=g;rw[Nat.sub_self];exact gR _
 rw[ep,d]at L3;let⟨c,d,F⟩:=uW.uV L3 Yl;refine⟨Y,k c ai H3 d ⟨λa z=>?_,λa b e r=>?_,λa xs e=>F.2.2 _ _ (n _ _ (tp _ _ e))⟩ (F.2.2 _ _ (n _ _ hq))⟩
 ·rcases F.1 a z with y|y
  ·rcases y with y|y|y
   ·exact .inl ((u a).mpr (.inl y))
   ·exact (X a y).imp (λw=>(u a).mpr (.inr (.inl w))) id
   ·exact .inl ((u a).mpr (.inr (.inr y)))
  ·let B:=aT n y
   cases e:H a with
   | none=>exact .inr rfl
   | some b =>
    by_cases c:o a
    ·exact .inl ((u a).mpr (.inr (.inl c)))
    ·rw[q _ _ e c]at B;cases B
 ·let B:¬ o a:=λz=>r ((u a).mpr (.inr (.inl z)));refine F.2.1 a b (n _ _ (q _ _ e B)) λz=>?_;rcases z with z|z|z
  ·exact r ((u a).mpr (.inl z))
  ·exact ab _ _ e B z
  ·exact r ((u a).mpr (.inr (.inr z)))
class inductive F6(C CS CW CB:Addr)
 | mk (U:Y1) (x:Addr) (b:gP) (c:gQ) (a:fY) (d:Nat) (e:Row) (_:vs=[↥x]) (_:mT C CS CW CB U H x b c a d e) (_:Q (.int (↑a:Nat)) H)
class inductive F7(C CS CW CB:Addr)
 | mk (U:Y1) (x r:Addr) (d:gP) (e:gQ) (b:fY) (f:Nat) (g a:Row) (_:vs=[↥x,↥r]) (_:mT C CS CW CB U H x d e b f g) (_:bP H r a) (_:↑a<=1000) (_:nC ↑b a=true) (_:∀ c,aI H c->Q .fQ c)
theorem Ab:‹(2,64,["self"],(F6 C CS CW CB))›:=λD=>by
 specialize ef ["self"] D.rd.F;let⟨U,x,i,j,aF,l,m,rfl,⟨S,n,d,b,o,p,q,r,s,t,u,v,c,e,f,g,w,y,z,a⟩,k⟩:=h;exists _,#v[aK (ff (cI (pv 0) rfl) D.iF D.LW (jF D) hr bL)]
 all_goals try dsimp only[aP,aG]
 exact⟨Y,x,C,d,_,↥b,1,a.L.hx,D.aM.cl,D.uz,1,b,c,Y,a.W.hx,1,b,c,e,f,g,aF,1,a.W.hx,a.W.hs,k⟩
theorem jS:‹(3,65,["self","row"],(F7 C CS CW CB))›:=λD=>by
 let g:bg P w K mg zt cO 2 _ _ Bk (F6 C CS CW CB):=Ab D;specialize ef ["self","row"] D.Xc.F;let⟨U,x,r,s,t,d,e,u,f,rfl,g,i,j,k,l⟩:=h;let⟨S,m,n,a,s,t,u,v,y,z,A,B,c,o,p,q,F,G,H,b⟩:=id g;exists _,#v[bR (ir (iU (cH (cI (pv 0) rfl) D.iF D.ka (AY D) hr bL #[1]))) #v[gS] bq]
 all_goals try dsimp only[aP,aG]
 refine⟨Y,x,C,n,_,↥a,1,b.L.hx,D.aM.cl,D.uz,1,a,c,Y,b.W.hx,1,Y,m,a,c,o,p,q,r,e,d,f,1,b.W,i,j,λa b=>⟨Y,?_⟩⟩;rw[k];exact eT (l a b)
abbrev gO:List Nat:=(Str.ofString "put").cps.toList
class inductive TQ(C CS CW CB:Addr)
 | mk (U:Y1) (x r:Addr) (c:gP) (f:gQ) (d:fY) (i:Nat) (j b:Row) (s p:Int) (a:c9) (_:vs=[↥x,.int s,.int p,↥r]) (_:mT C CS CW CB U H x c f d i j) (_:bP H r b) (_:IC b) (_:↑d<=100000) (_:c.getLast?=⇑a) (_:↑a<=50) (_:↑c<=900) (_:↑f<=900) (_:vg s) (_:vg p) (_:qz ↑a s) (_:nC ↑d b=true) (_:(∃ e,Seen a e/\(0<=p/\p<=↑(e s))/\((∀ g,a[s.toNat]?=⇑g->(∃ l,mS (iR a s.toNat (fX e p g (dI (cY (cA b))))) l)/\
  ∀ (k:Y1) (h:Hp),mT C CS CW CB k h x (c++[iR a s.toNat (fX e p g (dI (cY (cA b))))]) (f++[(jj.nZ gO [s,p] b).line]) d i j->vj U k H h->Q .fQ h))))
def Cu(a:Wp):jc (cE a)=(↑a:Int):=by rw[← qI _ (jy _),dz]
theorem qV{n:Nat}{a:Row}(h:nC n a=true):∀ p∈a,0<=p.1/\p.1<p.2/\p.2<=n:=λp b=>by
 let z:=List.all_eq_true.mp h p b;unfold Px at z;simpa [and_assoc] using z
def vg.big{s:Int}(h:vg s):s<10^60:=by
 let⟨_,a⟩:=h;lia
theorem Ac:‹(6,67,["self","sheet","place","row"],(TQ C CS CW CB))›:=λD=>by
 specialize ef ["self","sheet","place","row","items"] D.km.F;let⟨ak,x,r,o,q,aF,nW,aN,f,s,p,g,rfl,B,u,j,c,v,w,y,l3,fs,fp,a,N,m⟩:=h;let⟨S,c,d,O,k,R,T,U,z,A,W,X,e,sg,ow,pw,db,tb,ab,b⟩:=id B;exists _,#v[aU (aC D.Yw (gU D) hr #[cH (pv 0) D.aM D.OQ (gF D) hr bL #[1],2,2]),aU (cH (pv 0) D.aM D.Xc (jS D) hr bL #[3]),aY 4 (aC D.SH (oN D) hr #[ff (cI (pv 0) rfl) D.cP D.Df (fP D) hr bL,1,2,aC D.Ft (mK D) hr #[3]]),aU (cH (pv 0) D.aM D.Fv (dY D) hr bL #[cW #[bx,1,2,3],1,4])]
 all_goals try dsimp only[aP,aG]
 exists Y,x,d,Y,b.L.hx,1,Y,S,x,d,O,k,R,T,U,z,A,W,X,o,ab,q,g,s,1,b.L,v,w,y,a;let⟨e,c,l,k6⟩:=m;let m:↑(e s)<=10000:=c.ln s a.1 a.2;let m:=lQ (e s);refine⟨e,c,λm H1 ho s1 fo=>?_⟩;let am:RV p p (jc (cE (e s))):=by rw[Cu];exact⟨l.1,Int.le_refl _,l.2⟩
 refine⟨Y,Y,m,cE (e s),p,p,1,ho,Q,am,λm s2=>?_⟩;let m:=s1.trans s2;let uW:=b.same m;let Fw:=u.same m;refine⟨Y,x,d,Y,uW.L.hx,1,Y,ak,x,r,o,q,aF,nW,aN,f,1,B.same m,Fw,by have:=j.1;lia,N,λH3 B=>?_⟩;let n:=m.trans B;let m:=b.same n;let LX:=u.same n;let hp:=qV N;let sl:s.toNat<↑g:=by have:=a.1;have:=a.2;lia
 obtain⟨B,N⟩:∃ B,g[s.toNat]?=⇑B:=⟨_,nj sl⟩;let⟨⟨fB,an⟩,k7⟩:=k6 _ N;refine⟨Y,x,C,d,_,↥k,1,m.L.hx,D.aM.cl,D.fE,1,k,A,Y,m.L.W.hx,1,m.L.rws v w y λak H4 m F=>?_⟩;let hR:=m;let m:=LX.same F;refine⟨Y,Y,Y,r,f,1,m,by have:=j.1;lia,λoi m am G ar=>?_⟩;let nn:lu f:=λm MV=>⟨(hp m MV).1,by have:=(hp m MV).2.1;lia⟩;refine⟨ak,oi,g,s,p,_,e,1,⟨hR.same G,Q,c.es,c.sd,c.rk,c.ss,c.ln⟩,a.1,a.2,am,uN (nR nn),?_,l,λB q2 I pC fm s6 PK=>?_⟩
 ·unfold cY;rw[cC];have:=iN f;have:=j.1;lia
 rw[N]at pC;cases pC;let ae:aI H I:=n.trans (F.trans (G.trans s6));let ap:=b.same ae
 let aq:q2≠z:=λi=>by
  let J:=(b.same (n.trans (F.trans G))).L.hb;rw[← i,PK]at J;cases J
 refine⟨Y,x,d,Y,ap.L.hx,1,Y,Y,Y,Dd,λt c=>?_⟩;let L:=ao c (.tup [.str "put",.int s,.int p,↥r]);let ag:(aO I t (.tup [.str "put",.int s,.int p,↥r])) t=⇑(.tup [.str "put",.int s,.int p,↥r]):=af;generalize aO I t (.tup [.str "put",.int s,.int p,↥r])=c at L ag;let M:=ae.trans L;let ai:=b.same M;let b:((s.toNat:Nat):Int)=s:=by have:=a.1;lia
 refine⟨Y,Y,S,x,d,O,k,R,T,U,z,A,W,X,o,ab,q,t,q2,.nZ gO [s,p] f,s.toNat,_,g,fB,by rw[b];rfl,ai.L,⟨r,by rw[ag,oJ];rfl,u.same M⟩,⟨(by show jQ XA gO=some 2;decide +kernel),?_,j⟩,fm.same L,aq,v,by have:=a.2;have:=a.1;lia,w,y,l3,an,λb H8 L8 RO=>?_⟩
 ·intro J hy;let b1:=a.1;let b2:=l.1;rcases List.mem_cons.mp hy with i|i
  ·rw[i];exact⟨b1,fs.big⟩
  ·rw[List.mem_singleton.mp i];exact⟨b2,fp.big⟩
 ·let⟨a,b,c⟩:=ai.uV L8 RO;exact k7 a H8 b (c.pre M)
theorem We.kG{a:Y1}{H b:Hp}{x d s o p l:Addr}{n:Nat}{c:fY}{g:List (Str × V)}(h:We C a H x d s o p n c)(i:H l=⇑(.ins r t g))(j:¬ a l)(k:cy l H b):We C a b x d s o p n c :=
 h.fr (λf m e z=>k f m e (λq=>j (by rw[← q];exact z))) (λf f e=>k _ _ e (cQ e i))
theorem bP.kG{H a:Hp}{r l:Addr}{b:Row}{d:List (Str × V)}(h:bP H r b)(c:H l=⇑(.ins g i d))(k:cy l H a):bP a r b :=
 h.two (λf e=>k _ _ e (cQ e c)) (λj f e=>k _ _ e (cQ e c))
def n8{H:Hp}{b a:Addr}{o:HO}(e:(aO (aO H b (.own c)) c o) a=none):H a=none:=by
 by_cases d:a=c
 ·rw[d,af]at e;cases e
 rw[aL d]at e;by_cases f:a=b
 ·rw[f,af]at e;cases e
 rw[aL f]at e;exact e
class inductive Cv(C CS CW CB:Addr)
 | mk (x d:Addr) (_:vs=[↥x]) (_:H x=⇑(.ins C d [])) (_: ∀ (U:Y1) (b:Hp),mT C CS CW CB U b x [[]] [] [] 0 []->(∀ a,U a->a=x\/H a=none)->cy x H b->Q .fQ b)
theorem rf:‹(3,58,["self"],(Cv C CS CW CB))›:=λD=>by
 specialize ef ["self"] D.kc.F;let⟨x,d,rfl,hx,aq⟩:=h;refine⟨_,#v[iy (pv 0) (nL D.iF.Yt (wg D) (hr.mono (by decide)) rfl D.iF.m D.j9.b .nil bL) rfl,iy (pv 0) (nL D.cP.Yt (uU D) (hr.mono (by decide)) rfl D.cP.m D.jr.b .nil bL) rfl,iy (pv 0) (nL D.jh.Yt (uI D) (hr.mono (by decide)) rfl D.jh.m D.ii.b .nil bL) rfl,iy (pv 0) (nL D.Cd.Yt (wc D) (hr.mono (by decide)) rfl D.Cd.m D.j1.b .nil bL) rfl,iy (pv 0) (nL D.Fq.Yt (v9 D) (hr.mono (by decide)) rfl D.Fq.m D.j2.b .nil bL) rfl,iy (pv 0) (bO ah) rfl],?_⟩
 all_goals try dsimp only[aP,aG]
 intro b dw ae XO _;refine⟨b,dw,1,af,λT U W B V1 k1 ar av aw=>⟨1,?_⟩⟩;let s1:=lT ae XO k1
 let fW:∀ a,(a=b\/a=T\/a=U\/a=W)->H a=none:=λa f=>by
  rcases f with rfl|rfl|rfl|rfl
  ·exact ae
  ·exact n8 ar
  ·exact n8 av
  ·exact n8 aw
 let n:¬ (x=b\/x=T\/x=U\/x=W):=λf=>by
  have:=fW x f;rw[hx]at this;cases this
 exists Y,x,C,d,Y,s1 _ _ hx,D.aM.cl,D.uz,E;let q2:cy x H (aO B x (.ins C d (_L2.d9 "well" ↥b []))):=cy.trans (_gn.aI.keep s1) (aH x _ _);let x2:(aO B x (.ins C d (_L2.d9 "well" ↥b []))) x=⇑(.ins C d [("well",↥b)]):=af;let ag:cy x B (aO B x (.ins C d (_L2.d9 "well" ↥b []))):=aH x _ _;generalize aO B x (.ins C d (_L2.d9 "well" ↥b []))=H2 at q2 x2 ag;let V2:=V1.kG (s1 _ _ hx) n ag;intro c F XF B _;refine⟨c,F,1,af,λr s z X W3 k3 ax ay fz=>⟨1,?_⟩⟩;let s3:=lT XF B k3
 let up:∀ a,(aO (aO H2 F (.own c)) c (.ins CS F [])) a=none->H2 a=none:=λa f=>by
  by_cases e:a=c
  ·rw[e,af]at f;cases f
  rw[aL e]at f;by_cases g:a=F
  ·rw[g,af]at f;cases f
  rw[aL g]at f;exact f
 let fS:∀ a,(a=c\/a=r\/a=s\/a=z)->H2 a=none:=λa f=>by
  rcases f with rfl|rfl|rfl|rfl
  ·exact XF
  ·exact up _ ax
  ·exact up _ ay
  ·exact up _ fz
 let o:¬ (x=c\/x=r\/x=s\/x=z):=λf=>by
  have:=fS x f;rw[x2]at this;cases this
 let x3:=s3 _ _ x2;let V3:=V2.same s3;refine⟨Y,x,C,d,Y,x3,D.aM.cl,D.fE,(by show 1<1000;decide),?_⟩;let k4:cy x X (aO X x (.ins C d (_L2.d9 "shelf" ↥c [("well",↥b)]))):=aH x _ _;let x4:(aO X x (.ins C d (_L2.d9 "shelf" ↥c [("well",↥b)]))) x=⇑(.ins C d [("well",↥b),("shelf",↥c)]):=af;generalize aO X x (.ins C d (_L2.d9 "shelf" ↥c [("well",↥b)]))=B at k4 x4;let W4:=W3.kG x3 o k4;let V4:=V3.kG x3 n k4;let q4:cy x H B:=(q2.trans (_gn.aI.keep s3)).trans k4;intro e p G B _;refine⟨e,p,1,af,λk H5 B5 R5 X ae=>⟨1,?_⟩⟩;let s5:=lT G B X;let XS:=n8 ae;let x5:=s5 _ _ x4;let W5:=W4.same s5;let V5:=V4.same s5;let I:e≠x:=(aA x4 G).symm;refine⟨Y,x,C,d,Y,x5,D.aM.cl,D.qv,(by show 2<1000;decide),?_⟩;let m:cy x H5 (aO H5 x (.ins C d (_L2.d9 "blots" ↥e [("well",↥b),("shelf",↥c)]))):=aH x _ _;let x6:(aO H5 x (.ins C d (_L2.d9 "blots" ↥e [("well",↥b),("shelf",↥c)]))) x=⇑(.ins C d [("well",↥b),("shelf",↥c),("blots",↥e)]):=af;generalize aO H5 x (.ins C d (_L2.d9 "blots" ↥e [("well",↥b),("shelf",↥c)]))=B at m x6;let X:=W5.kG x5 o m;let V6:=V5.kG x5 n m;let B6:Bl CB B e p k:=m _ _ B5 I;let R6:=R5.kG x5 m;let q6:cy x H B:=(q4.trans (_gn.aI.keep s5)).trans m;intro j m B ae _;refine⟨j,m,1,af,λag J _ m=>⟨1,?_⟩⟩;let t:=lT B ae m;let x7:=t _ _ x6;let W7:=X.same t;let V7:=V6.same t;let B7:Bl CB J e p k:=t _ _ B6;let R7:=R6.same t;refine⟨Y,x,C,d,Y,x7,D.aM.cl,D.CV,(by show 3<1000;decide),?_⟩;let u:cy x J (aO J x (.ins C d (_L2.d9 "knots" ↥j [("well",↥b),("shelf",↥c),("blots",↥e)]))):=aH x _ _;let x8:(aO J x (.ins C d (_L2.d9 "knots" ↥j [("well",↥b),("shelf",↥c),("blots",↥e)]))) x=⇑(.ins C d [("well",↥b),("shelf",↥c),("blots",↥e),("knots",↥j)]):=af;generalize aO J x (.ins C d (_L2.d9 "knots" ↥j [("well",↥b),("shelf",↥c),("blots",↥e)]))=m at u x8;let B:=W7.kG x7 o u;let J:=V7.kG x7 n u;let X:Bl CB m e p k:=u _ _ B7 I;let R8:=R7.kG x7 u;let q8:cy x H m:=(q6.trans (_gn.aI.keep t)).trans u;intro q m t u _;refine⟨q,m,1,af,λae L _ m=>⟨1,?_⟩⟩;let v:=lT t u m;let x9:=v _ _ x8;let W9:=B.same v;let V9:=J.same v;let B9:Bl CB L e p k:=v _ _ X;let R9:=R8.same v;refine⟨Y,x,C,d,Y,x9,D.aM.cl,D.JY,(by show 4<1000;decide),?_⟩;let y:cy x L (aO L x (.ins C d (_L2.d9 "dues" ↥q [("well",↥b),("shelf",↥c),("blots",↥e),("knots",↥j)]))):=aH x _ _;let A:(aO L x (.ins C d (_L2.d9 "dues" ↥q [("well",↥b),("shelf",↥c),("blots",↥e),("knots",↥j)]))) x=⇑(.ins C d [("well",↥b),("shelf",↥c),("blots",↥e),("knots",↥j),("dues",↥q)]):=af;generalize aO L x (.ins C d (_L2.d9 "dues" ↥q [("well",↥b),("shelf",↥c),("blots",↥e),("knots",↥j)]))=M at y A;let ai:=W9.kG x9 o y;let ak:=V9.kG x9 n y;let ab:Bl CB M e p k:=y _ _ B9 I;let am:=R9.kG x9 y;let BE:cy x H M:=(q8.trans (_gn.aI.keep v)).trans y;refine⟨gK,λi l=>⟨Y,x,C,d,Y,ao l _ _ _ A,D.aM.cl,D.EN,(by show 5<1000;decide),?_⟩⟩;let an:i≠x:=(aA A l).symm
 let aB:¬ (i=c\/i=r\/i=s\/i=z):=λf=>by
  let⟨N,w⟩:=ai.al i f;rw[l]at w;cases w
 let m:=ao l (.lst []);let t:cy x (aO M i (.lst [])) (aO (aO M i (.lst [])) x (.ins C d (_L2.d9 "book" ↥i [("well",↥b),("shelf",↥c),("blots",↥e),("knots",↥j),("dues",↥q)]))):=aH x _ _;let u:=(ai.same m).kG (m _ _ A) o t;let v:=(ak.same m).kG (m _ _ A) n t;let y:=t _ _ (m _ _ ab) I;let B:=(am.same m).kG (m _ _ A) t;let⟨A,J,_⟩:=id R5;let aN:∀ a,(a=c\/a=r\/a=s\/a=z)->a=x\/H a=none:=λa f=>.inr (iM q2 (λg=>by rw[g]at f;exact o f) (fS a f));refine aq (λa=>(a=c\/a=r\/a=s\/a=z)\/(a=b\/a=T\/a=U\/a=W)\/a=i\/a=x\/a=e\/a=k) _ ⟨P,d,b,c,e,j,q,i,F,r,s,dw,T,U,W,p,k,[],⟨af,u,?_,o,aB⟩,v,y,B,?_,?_,?_,?_,λa=>Iff.rfl⟩ ?_ ((BE.trans (_gn.aI.keep m)).trans t)
 ·rw[aL an];exact af
 ·exact⟨.nil,λ_ z=>by cases z⟩
 ·intro a g;let⟨N,ap⟩:=V2.al a g;refine⟨λO=>?_,λR=>?_,λS=>?_⟩
  ·rw[fS a O]at ap;cases ap
  ·let⟨b,w⟩:=ak.al a g;rw[R,l]at w;cases w
  ·rw[S]at g;exact n g
 ·refine⟨λO=>?_,λg=>?_,λR=>?_⟩
  ·let⟨N,w⟩:=W4.al e O;rw[G]at w;cases w
  ·let⟨N,w⟩:=V4.al e g;rw[G]at w;cases w
  ·rw[R]at ab;let N:M i=⇑_:=ab;rw[l]at N;cases N
 ·refine⟨λO=>?_,λg=>?_,λR=>?_⟩
  ·let⟨N,w⟩:=W4.al k O;rw[XS]at w;cases w
  ·let⟨N,w⟩:=V4.al k g;rw[XS]at w;cases w
  ·let⟨b,N,_⟩:=id am;rw[R,l]at N;cases N
 ·intro a g;rcases g with g|g|g|g|g|g
  ·exact aN a g
  ·exact .inr (fW a g)
  ·rw[g];exact .inr (iM BE an l)
  ·exact .inl g
  ·rw[g];exact .inr (iM q4 I G)
  ·by_cases S:a=x
   ·exact .inl S
   ·rw[g]at S ⊢;exact .inr (iM q4 S XS)
abbrev mc:List Nat:=(Str.ofString "cut").cps.toList
abbrev md:List Nat:=(Str.ofString "quote").cps.toList
class inductive TR(C CS CW CB:Addr)
 | mk (U:Y1) (x:Addr) (d:gP) (f:gQ) (i:fY) (j:Nat) (k:Row) (s a b:Int) (c:c9) (_:vs=[↥x,.int s,.int a,.int b]) (_:mT C CS CW CB U H x d f i j k) (_:d.getLast?=⇑c) (_:↑c<=50) (_:↑d<=900) (_:↑f<=900) (_:vg s) (_:vg a) (_:vg b)
  (_:qz ↑c s) (_:∃ e,Seen c e/\RV a b ↑(e s)/\(∀ g,c[s.toNat]?=⇑g->(∃ m,mS (iR c s.toNat (bW e a b g)) m)/\
  ∀ (l:Y1) (h:Hp),mT C CS CW CB l h x (d++[iR c s.toNat (bW e a b g)]) (f++[(jj.plain mc [s,a,b]).line]) i j k->vj U l H h->Q .fQ h))
class inductive Mw(C CS CW CB:Addr)
 | mk (U:Y1) (x:Addr) (e:gP) (f:gQ) (i:fY) (j:Nat) (k:Row) (t p s a b:Int) (c:c9) (_:vs=[↥x,.int t,.int p,.int s,.int a,.int b]) (_:mT C CS CW CB U H x e f i j k) (_:e.getLast?=⇑c) (_:↑c<=50) (_:↑e<=900) (_:↑f<=900) (_:vg t) (_:vg p) (_:vg s) (_:vg a) (_:vg b)
  (_:qz ↑c t) (_:qz ↑c s) (_:(∃ d,Seen c d/\RV a b ↑(d s)/\((0<=p/\p<=↑(d t))/\(∀ g,c[t.toNat]?=⇑g->(∃ m,mS (iR c t.toNat (fX d p g (((d s).take b.toNat).drop a.toNat))) m)/\
  ∀ (l:Y1) (h:Hp),mT C CS CW CB l h x (e++[iR c t.toNat (fX d p g (((d s).take b.toNat).drop a.toNat))]) (f++[(jj.plain md [t,p,s,a,b]).line]) i j k->vj U l H h->Q .fQ h))))
theorem Ad:‹(6,69,["self","sheet","start","stop"],(TR C CS CW CB))›:=λD=>by
 specialize ef ["self","sheet","start","stop","items"] D.kr.F;let⟨U,x,z,H,I,J,L,s,q,r,f,rfl,c,g,k,l,t,u,v,w,b,y⟩:=h;let⟨S,z,i,H,d,I,J,L,M,m,N,O,R,T,U,W,X,tb,ab,a⟩:=id c;exists _,#v[aU (cH (cI (pv 0) rfl) D.cP D.De (cS D) hr bL #[1]),aY 4 (aC D.i9 (Dv D) hr #[ff (cI (pv 0) rfl) D.cP D.Df (fP D) hr bL,1,2,3]),aU (cH (pv 0) D.aM D.Fv (dY D) hr bL #[cW #[bx,1,2,3],1,4])]
 all_goals try dsimp only[aP,aG]
 refine⟨Y,x,C,i,_,↥d,1,a.L.hx,D.aM.cl,D.fE,1,d,m,Y,a.L.W.hx,1,Y,a.L.XN g b ?_⟩;let⟨z,c,e,A⟩:=y;refine⟨Y,x,C,i,_,↥d,1,a.L.hx,D.aM.cl,D.fE,1,d,m,Y,a.L.W.hx,1,a.L.rws g k l λd y m n=>?_⟩;let y:s.toNat<↑f:=by have:=b.1;have:=b.2;lia
 obtain⟨j,o⟩:∃ j,f[s.toNat]?=⇑j:=⟨_,nj y⟩;refine⟨Y,Y,Y,d,f,s,q,r,z,1,⟨m,Q,c.es,c.sd,c.rk,c.ss,c.ln⟩,b.1,b.2,e,λc d f p B F G=>?_⟩;rw[o]at p;cases p;let⟨f,m⟩:=A j o;let c:=n.trans F;let d:=a.same c;exact⟨Y,x,i,Y,d.L.hx,1,Y,Y,Y,Dd,λi d=>⟨Y,Y,a.chg (c.trans (ao d _)) af (oJ _).symm (by show jQ QO mc=some 3;decide +kernel) (G3 b.1 u.big (G3 e.1 v.big (G3 (by have:=e.1;have:=e.2.1;lia) w.big b'))) (B.same (ao d _)) (aT n G) g k l t b f m⟩⟩
theorem wz:‹(6,70,["self","target","place","source","start","stop"],(Mw C CS CW CB))›:=λD=>by
 specialize ef ["self","target","place","source","start","stop","row","items"] D.kv.F;let⟨ae,x,a,b,aF,nW,aN,t,p,s,c,d,k,rfl,r,l,n,o,F,G,H,I,J,L,f,g,w⟩:=h;let⟨S,SW,i,M,j,N,O,R,T,q,U,W,dw,sg,ow,pw,db,tb,X,e⟩:=id r;exists _,#v[aU (cH (cI (pv 0) rfl) D.cP D.De (cS D) hr bL #[1]),aY 6 (aC D.h8 (SM D) hr #[cH (pv 0) D.aM D.OQ (gF D) hr bL #[3],4,5]),aY 7 (aC D.SH (oN D) hr #[ff (cI (pv 0) rfl) D.cP D.Df (fP D) hr bL,1,2,aC D.Ft (mK D) hr #[6]]),aU (cH (pv 0) D.aM D.Fv (dY D) hr bL #[cW #[bx,1,2,3,4,5],1,7])]
 all_goals try dsimp only[aP,aG]
 refine⟨Y,x,C,i,_,↥j,1,e.L.hx,D.aM.cl,D.fE,1,j,q,Y,e.L.W.hx,1,Y,e.L.XN l f ?_⟩;exists Y,x,i,Y,e.L.hx,1,Y,S,x,i,M,j,N,O,R,T,q,U,W,a,X,b,k,s,1,e.L,l,n,o,g;let⟨a,b,m,v,k8⟩:=w;refine⟨a,b,λr N w M O=>?_⟩;let N:↑(a s)<=10000:=b.ln s g.1 g.2;let N:=lQ (a s);let tt:jc (cE (a s))=↑(a s):=Cu _;refine⟨Y,Y,r,cE (a s),c,d,1,w,Q,by rw[tt];exact m,λN w O r R=>?_⟩;let w:=M.trans r;let r:=e.same w;refine⟨Y,x,C,i,_,↥j,1,r.L.hx,D.aM.cl,D.fE,1,j,q,Y,r.L.W.hx,1,r.L.rws l n o λq r M j=>?_⟩;let R:=w.trans j;let r:t.toNat<↑k:=by have:=f.1;have:=f.2;lia
 obtain⟨u,y⟩:∃ u,k[t.toNat]?=⇑u:=⟨_,nj r⟩;let r:∀ {w:Row},jz w->lu w:=λh p w=>⟨(h p w).1,by have:=(h p w).2;lia⟩;have S:lu (cE (a s)):=r (BX (nY b.sd b.rk b.ss s g.1 g.2));have w:lu (cA (kM c d 0 (cE (a s)))):=r (nR (zA c d _ 0 S))
 let r:↑(cA (kM c d 0 (cE (a s))))<=10000:=by
  have:=qR c d (cE (a s));rw[yd]at this;lia
 let ab:dI (cY (cA (cA (kM c d 0 (cE (a s))))))=((a s).take d.toNat).drop c.toNat:=by
  rw[nX,j8 _ λq r=>(w q r).2,oE _ _ _ (jy _),dz]
 refine⟨Y,Y,Y,N,Y,O.same j,Q,λr O N j S=>?_⟩;let z:=R.trans j;refine⟨q,r,k,t,p,_,a,1,⟨M.same j,Q,b.es,b.sd,b.rk,b.ss,b.ln⟩,f.1,f.2,N,uN (nR w),?_,v,λb j k A B s5 PK=>?_⟩
 ·rw[yd];have:=iN (cA (kM c d 0 (cE (a s))));lia
 rw[y]at A;cases A;rw[ab]at B;let⟨c,d⟩:=k8 u y;let a:=z.trans s5;let b:=e.same a;exact⟨Y,x,i,Y,b.L.hx,1,Y,Y,Y,Y,Y,hJ,λi b=>⟨Y,Y,e.chg (a.trans (ao b _)) af (oJ _).symm (by show jQ QO md=some 5;decide +kernel) (G3 f.1 G.big (G3 v.1 H.big (G3 g.1 I.big (G3 m.1 J.big (G3 (by have:=m.1;have:=m.2.1;lia) L.big b'))))) (B.same (ao b _)) (aT z PK) l n o F f c d⟩⟩
abbrev me:List Nat:=(Str.ofString "window").cps.toList
class inductive PN(C CS CW CB:Addr)
 | mk (U:Y1) (x:Addr) (b:gP) (d:gQ) (g:fY) (h:Nat) (i:Row) (t p s:Int) (a:c9) (_:vs=[↥x,.int t,.int p,.int s]) (_:mT C CS CW CB U H x b d g h i) (_:b.getLast?=⇑a) (_:↑a<=50) (_:↑b<=900) (_:↑d<=900) (_:vg t) (_:vg p) (_:vg s)
  (_:qz ↑a t) (_:qz ↑a s) (_:(∃ c,Seen a c/\(0<=p/\p<=↑(c t))/\(∀ e,a[t.toNat]?=⇑e->(∃ k,mS (iR a t.toNat (fX c p e [-1-s])) k)/\
  ∀ (j:Y1) (f:Hp),mT C CS CW CB j f x (b++[iR a t.toNat (fX c p e [-1-s])]) (d++[(jj.plain me [t,p,s]).line]) g h i->vj U j H f->Q .fQ f)))
theorem uX:‹(6,72,["self","target","place","source"],(PN C CS CW CB))›:=λD=>by
 specialize ef ["self","target","place","source","items"] D.kw.F;let⟨ab,x,pe,aB,aF,nW,aN,t,H,s,j,rfl,I,f,q,r,J,L,M,N,c,k,O⟩:=h;let⟨ab,SW,g,wl,d,bl,kn,du,bk,l,st,op,dw,sg,ow,pw,db,tb,ae,a⟩:=id I;exists _,#v[aU (cH (cI (pv 0) rfl) D.cP D.De (cS D) hr bL #[1]),aU (cH (cI (pv 0) rfl) D.cP D.De (cS D) hr bL #[3]),aY 4 (aC D.SH (oN D) hr #[ff (cI (pv 0) rfl) D.cP D.Df (fP D) hr bL,1,2,bO #[cW #[bx,3]]]),aU (cH (pv 0) D.aM D.Fv (dY D) hr bL #[cW #[bx,1,2,3],1,4])]
 all_goals try dsimp only[aP,aG]
 refine⟨Y,x,C,g,_,↥d,1,a.L.hx,D.aM.cl,D.fE,1,d,l,Y,a.L.W.hx,1,Y,a.L.XN f c ?_⟩;refine⟨Y,x,C,g,_,↥d,1,a.L.hx,D.aM.cl,D.fE,1,d,l,Y,a.L.W.hx,1,Y,a.L.XN f k ?_⟩;let⟨R,e,u,S⟩:=O;refine⟨Y,x,C,g,_,↥d,1,a.L.hx,D.aM.cl,D.fE,1,d,l,Y,a.L.W.hx,1,a.L.rws f q r λT v U W=>?_⟩;let d:t.toNat<↑j:=by have:=c.1;have:=c.2;lia
 obtain⟨m,w⟩:∃ m,j[t.toNat]?=⇑m:=⟨_,nj d⟩;refine⟨Y,Y,Y,lG,λb d=>⟨mF,λo y=>?_⟩⟩;let n:=ao d (.tup [.str "win",.int s]);let z:(aO v b (.tup [.str "win",.int s])) b=⇑(.tup [.str "win",.int s]):=af;generalize aO v b (.tup [.str "win",.int s])=p at n z y;let i:=ao y (.lst [↥b]);let A:(aO p o (.lst [↥b])) o=⇑(.lst [↥b]):=af;show xA _ (aO p o (.lst [↥b])) _ _;generalize aO p o (.lst [↥b])=d at i A;let B:=W.trans (n.trans i);let l:bX d ↥o [.win s]:=⟨o,Y,A,.cons ⟨b,1,i _ _ z⟩ .nil⟩;refine⟨T,o,j,t,H,[.win s],R,1,⟨U.same (n.trans i),Q,e.es,e.sd,e.rk,e.ss,e.ln⟩,c.1,c.2,l,.one k.1,(by show 1<=10000;decide),u,λb d e F G X PK=>?_⟩;rw[w]at F;cases F;rw[show dI [aX.win s]=[-1-s] from rfl]at G;let⟨e,i⟩:=S m w;let b:=B.trans X;let d:=a.same b;exact⟨Y,x,g,Y,d.L.hx,1,Y,Y,Y,Dd,λg d=>⟨Y,Y,a.chg (b.trans (ao d _)) af (oJ _).symm (by show jQ QO me=some 3;decide +kernel) (G3 c.1 L.big (G3 u.1 M.big (G3 k.1 N.big b'))) (G.same (ao d _)) (aT B PK) f q r J c e i⟩⟩
abbrev mf:List Nat:=(Str.ofString "fix").cps.toList
class inductive sr(C CS CW CB:Addr)
 | mk (U:Y1) (x:Addr) (b:gP) (c:gQ) (f:fY) (g:Nat) (h:Row) (t:Int) (a:c9) (_:vs=[↥x,.int t]) (_:mT C CS CW CB U H x b c f g h) (_:b.getLast?=⇑a) (_:↑a<=50) (_:↑b<=900) (_:↑c<=900) (_:vg t)
  (_:qz ↑a t) (_:∃ d,Seen a d/\(∃ j,mS (iR a t.toNat (d t)) j)/\
  ∀ (i:Y1) (e:Hp),mT C CS CW CB i e x (b++[iR a t.toNat (d t)]) (c++[(jj.plain mf [t]).line]) f g h->vj U i H e->Q .fQ e)
theorem Ae:‹(6,73,["self","sheet"],(sr C CS CW CB))›:=λD=>by
 specialize ef ["self","sheet"] D.kx.F;let⟨U,x,v,w,y,z,A,t,m,rfl,n,e,i,j,o,p,b,q⟩:=h;let⟨S,v,f,w,c,y,z,A,F,k,G,I,J,L,M,N,O,R,T,a⟩:=id n;exists _,#v[aU (cH (cI (pv 0) rfl) D.cP D.De (cS D) hr bL #[1]),aU (cH (pv 0) D.aM D.Fv (dY D) hr bL #[cW #[bx,1],1,aC D.jl (zS D) hr #[ff (cI (pv 0) rfl) D.cP D.Df (fP D) hr bL,1]])]
 all_goals try dsimp only[aP,aG]
 refine⟨Y,x,C,f,_,↥c,1,a.L.hx,D.aM.cl,D.fE,1,c,k,Y,a.L.W.hx,1,Y,a.L.XN e b ?_⟩;let⟨r,sn,⟨s,B⟩,u⟩:=q;refine⟨Y,x,f,Y,a.L.hx,1,Y,lG,λg n=>?_⟩;let d:=ao n (.tup [.str "fix",.int t]);let l:(aO H g (.tup [.str "fix",.int t])) g=⇑(.tup [.str "fix",.int t]):=af;generalize aO H g (.tup [.str "fix",.int t])=g at d l;let g:=a.same d;refine⟨Y,Y,x,C,f,_,↥c,1,g.L.hx,D.aM.cl,D.fE,1,c,k,Y,g.L.W.hx,1,g.L.rws e i j λq g f c=>?_⟩;refine⟨Y,q,m,t,r,1,⟨f,Q,sn.es,sn.sd,sn.rk,sn.ss,sn.ln⟩,b.1,b.2,λg n k f m=>?_⟩;let g:=d.trans (c.trans f);let n:=a.same g;exact a.chg g (f _ _ (c _ _ l)) (oJ _).symm (by show jQ QO mf=some 1;decide +kernel) (G3 b.1 p.big b') k (aT (d.trans c) m) e i j o b ⟨s,B⟩ u
abbrev mi:List Nat:=(Str.ofString "move").cps.toList
class inductive XT(C CS CW CB:Addr)
 | mk (U:Y1) (x:Addr) (e:gP) (g:gQ) (j:fY) (k:Nat) (l:Row) (s a b c:Int) (d:c9) (_:vs=[↥x,.int s,.int a,.int b,.int c]) (_:mT C CS CW CB U H x e g j k l) (_:e.getLast?=⇑d) (_:↑d<=50) (_:↑e<=900) (_:↑g<=900) (_:vg s) (_:(-100000<a/\a<100000)) (_:(-100000<b/\b<100000)) (_:(-100000<c/\c<100000))
  (_:qz ↑d s) (_:∃ f,Seen d f/\Mv a b c ↑(f s)/\(∀ h,d[s.toNat]?=⇑h->(∃ n,mS (iR d s.toNat (lH f a b c h)) n)/\
  ∀ (m:Y1) (i:Hp),mT C CS CW CB m i x (e++[iR d s.toNat (lH f a b c h)]) (g++[(jj.plain mi [s,a,b,c]).line]) j k l->vj U m H i->Q .fQ i))
theorem xO:‹(6,74,["self","sheet","start","stop","to"],(XT C CS CW CB))›:=λD=>by
 specialize ef ["self","sheet","start","stop","to","items"] D.kz.F;let⟨U,x,B,J,L,M,N,s,q,r,t,f,rfl,c,g,k,l,u,v,w,y,z,b,A⟩:=h;let⟨S,B,i,J,e,L,M,N,O,m,R,T,U,W,X,pw,db,tb,ab,a⟩:=id c;exists _,#v[aU (cH (cI (pv 0) rfl) D.cP D.De (cS D) hr bL #[1]),aY 5 (aC D.i' (zR D) hr #[ff (cI (pv 0) rfl) D.cP D.Df (fP D) hr bL,1,2,3,4]),aU (cH (pv 0) D.aM D.Fv (dY D) hr bL #[cW #[bx,1,2,3,4],1,5])]
 all_goals try dsimp only[aP,aG]
 refine⟨Y,x,C,i,_,↥e,1,a.L.hx,D.aM.cl,D.fE,1,e,m,Y,a.L.W.hx,1,Y,a.L.XN g b ?_⟩;let⟨B,c,d,F⟩:=A;refine⟨Y,x,C,i,_,↥e,1,a.L.hx,D.aM.cl,D.fE,1,e,m,Y,a.L.W.hx,1,a.L.rws g k l λe A m n=>?_⟩;let A:s.toNat<↑f:=by have:=b.1;have:=b.2;lia
 obtain⟨j,o⟩:∃ j,f[s.toNat]?=⇑j:=⟨_,nj A⟩;refine⟨Y,Y,Y,Y,e,f,s,q,r,t,B,1,⟨m,Q,c.es,c.sd,c.rk,c.ss,c.ln⟩,b.1,b.2,d,λc e f p G H I=>?_⟩;rw[o]at p;cases p;let⟨B,f⟩:=F j o;let c:=n.trans H;let e:=a.same c;exact⟨Y,x,i,Y,e.L.hx,1,Y,Y,Y,Y,WJ,λt e=>⟨Y,Y,a.chg (c.trans (ao e _)) af (oJ _).symm (by show jQ QO mi=some 4;decide +kernel) (G3 b.1 v.big (G3 d.1.1 (vg.Xz w).big (G3 (by have:=d.1.1;have:=d.1.2.1;lia) (vg.Xz y).big (G3 (by have:=d.2;lia) (vg.Xz z).big b')))) (G.same (ao e _)) (aT n I) g k l u b B f⟩⟩
class inductive Mx(C:Addr)
 | mk (c:Y1) (x d s o p:Addr) (n:Nat) (b:fY) (a:Int) (_:vs=[↥x,.int a]) (_:We C c H x d s o p n b) (_:0<=a) (_:a<(↑b:Nat)) (_:Q .fQ H)
class inductive PR(C:Addr)
 | mk (b:Y1) (x d s o p:Addr) (n:Nat) (a:fY) (j:Nat) (q:Int × Nat) (_:vs=[↥x,.int (j:Nat)]) (_:We C b H x d s o p n a) (_:a[j]?=⇑q) (_:Q (qZ q.2) H)
theorem pO:‹(2,75,["self","address"],(Mx CW))›:=λD=>by
 specialize ef ["self","address"] D.kA.F;let⟨S,x,d,s0,o,p,n,b,a,rfl,W,c,e,k⟩:=h;exists _,#v[bR (ir (qc gj jt az (pv 1) (ff (pv 0) D.iF D.LW (jF D) hr bL))) #v[gS] bq]
 all_goals try dsimp only[aP,aG]
 refine⟨Y,Z,Y,dD (λa=>?_) (λa=>absurd (decide_eq_true c) a)⟩;exists Y,x,d,Y,W.hx,1,x,d,s0,o,p,b,1,W.hx,W.hs,Z,Y;rw[decide_eq_true e];exact eT k
theorem DH:‹(3,76,["self","address"],(PR CW))›:=λD=>by
 specialize ef ["self","address"] D.kL.F;let⟨S,x,d,s0,o,p,n,b,j,q,rfl,W,a,k⟩:=h;let c:=(List.getElem?_eq_some_iff.mp a).1;exists _,#v[aU (cH (pv 0) D.iF D.kA (pO D) hr bL #[1]),aK (aQ bJ (cI (pv 0) rfl) (pv 1))]
 all_goals try dsimp only[aP,aG]
 exists Y,x,d,Y,W.hx,1,Y,S,x,d,s0,o,p,n,b,(j:Nat),1,W,Q,Q;exact⟨Y,x,CW,d,_,↥s0,1,W.hx,D.iF.cl,D.sQ,1,Y,s0,K,V,bM.of W.hs,(cT (by unfold Pr;rw[lD,a];rfl):_=⇑(qZ q.2)),k⟩
def pP(b:fY)(c:Row)(v:Nat)(a:Int):Nat:=if LM c a=true then v else ((b[a.toNat]?).map Prod.snd).getD 0
class inductive PU(C CS CW CB:Addr)
 | mk (U:Y1) (x r:Addr) (f:gP) (g:gQ) (c:fY) (h:Nat) (d b:Row) (v:Nat) (_:vs=[↥x,↥r,qZ v]) (_:mT C CS CW CB U H x f g c h d) (_:bP H r b) (_:(∀ p∈b,p.1<=p.2)) (_:↑(bw b)<=100000) (_:(∀ a∈bw b,0<=a/\a<(↑c:Nat))) (_:∀ e,aI H e->Q (.str (fH ((bw b).map (pP c d v)))) e)
class inductive F8(C CS CW CB:Addr)
 | mk (U:Y1) (x:Addr) (d:gP) (h:gQ) (e:fY) (i:Nat) (f:Row) (b:c9) (s:Int) (c:Y2) (_:vs=[↥x,.int s]) (_:mT C CS CW CB U H x d h e i f) (_:d.getLast?=⇑b) (_:↑d<=900) (_:↑b<=50) (_:qz ↑b s) (_:Seen b c) (_:↑(c s)<=200) (_:∀ a∈c s,0<=a/\a<(↑e:Nat)) (_:∀ g,aI H g->Q (.str (fH ((c s).map (pP e f 35)))) g)
theorem m9:‹(4,77,["self","row","veil"],(PU C CS CW CB))›:=λD=>by
 specialize ef ["self","row","veil"] D.Xe.F;let⟨W,x,y,X,aB,b,H,c,g,v,rfl,z,I,J,ls,L,M⟩:=h;let⟨W,N,s,m,X,n,kn,du,bk,dS,st,op,t,O,R,S,w,T,ab,U⟩:=id z;refine⟨_,#v[aK (dM PySem.F.plainAttrs_str PySem.F.slot_str_join PySem.F.type_str_join zF bx #[gC (N:=["address","self","veil"]) (jO (c:=b8 kT) (f:=["self","row","veil"]) (d:=[none,some 0,some 2]) rfl rfl rfl nofun nofun rfl nofun rfl nofun) rfl (cJ (aC D.h9 (Dj D) hr #[1])) (λ_ _ _ _ _ _=>(bV 0)) (λ_ _ _ _ _ _=>gy) (λ_ _ _ _ _ _=>(EC (iU (cH (Kf (pv 1) rfl) D.jh D.ip (zI D) hr bL #[0])) (pv 2) (cH (Kf (pv 1) rfl) D.iF D.kL (DH D) hr bL #[0])))])],?_⟩
 all_goals try dsimp only[aP,aG]
 refine⟨1,Y,y,g,1,I,J,Q,λy I z A J=>?_⟩;refine⟨y,1,⟨_,bM.of z⟩,λk o=>gu (K:=K) (h:=y) (a:=(bw g).map V.int) (λi l f=>∃ u:Option V,l=[u,⇑↥x,⇑(qZ v)]/\f k=⇑(.lst ((((bw g).take i).map (pP b c v)).map qZ))/\aI I f) ⟨none,1,af,ao o _⟩ (by rintro i l f _ ⟨_,_,_,e⟩;exact bM.of (e _ _ z)) ?_ ?_⟩
 ·rintro i ae l f B ⟨u,rfl,j,e⟩;rw[lD]at B;let⟨a,p,rfl⟩:=Option.map_eq_some_iff.mp B;let y:=(List.getElem?_eq_some_iff.mp p).1;let⟨y,z⟩:=L a (lU p);let d:=U.same (A.trans e);obtain⟨q,F⟩:∃ q,b[a.toNat]?=⇑q:=⟨_,nj ∅⟩
  let G:((((bw g).take (i+1)).map (pP b c v)).map qZ)=(((bw g).take i).map (pP b c v)).map qZ++[qZ (pP b c v a)]:=by
   rw[take_snoc p,gx,gx];rfl
  exists Y,x,C,s,_,↥n,1,d.L.hx,D.aM.cl,D.qv,1,n,w,Y,d.B,1,Y,n,w,T,c,a,1,d.B,d.R,d.nF
  cases g:LM c a with
  | true =>
   let r:pP b c v a=v:=if_pos g;refine⟨Y,iz ⟨Y,_,j,aS (by rw[cC,cC,gw];lia),Y,?_,bS o e (aH k _ _)⟩⟩;rw[af,G,r]
  | false =>
   let r:pP b c v a=q.2:=by
    unfold pP;rw[if_neg (by rw[g];exact lV),F];rfl
   refine⟨Y,eT ⟨Y,x,C,s,_,↥m,1,d.L.hx,D.aM.cl,D.uz,1,m,t,Y,d.W.hx,1,Y,N,m,t,O,R,S,H,b,a.toNat,q,by rw[show ((a.toNat:Nat):Int)=a by lia];rfl,d.W,F,?_⟩⟩;refine⟨_,j,aS (by rw[cC,cC,gw];lia),Y,?_,bS o e (aH k _ _)⟩;rw[af,G,r]
 ·rintro l f ⟨u,rfl,j,e⟩;rw[cC,gG]at j;exact⟨k,Y,1,j,by rw[cC];lia,M f (A.trans e)⟩
theorem pD:‹(6,78,["self","sheet"],(F8 C CS CW CB))›:=λD=>by
 let⟨i,j⟩:=D.G.h;specialize ef ["self","sheet"] D.kS.F;let⟨U,x,b,c,k,l,m,n,s,e,rfl,f,o,p,q,r,t,M,u,v⟩:=h;let⟨S,M,d,w,y,z,A,B,F,G,H,I,N,O,R,T,W,X,J,a⟩:=id f;exists _,#v[aK (cH (pv 0) D.aM D.Xe (m9 D) hr bL #[cH (pv 0) D.aM D.OQ (gF D) hr bL #[1],xW (v:=.str "#") rfl j ⟨i,1⟩])]
 all_goals try dsimp only[aP,aG]
 refine⟨Y,x,d,Y,a.L.hx,1,Y,x,d,Y,a.L.hx,1,Y,S,x,d,w,y,z,A,B,F,G,H,I,b,J,c,n,s,1,a.L,o,q,p,r,⟨e,t,λo a L g d=>?_⟩⟩;exact⟨U,x,o,b,c,k,l,m,cE (e s),35,by rw[show Str.ofString "#"=⟨(List.toArray [35])⟩ by decide +kernel];rfl,f.same g,L,jy _,by rw[dz];lia,by rw[dz];exact u,by rw[dz];exact λa b=>v a (g.trans b)⟩
def mT.m{U:Y1}{H:Hp}{x:Addr}{a:gP}{b:gQ}{c:fY}{d:Nat}{e:Row}{m:Str}{k:Prop}(L:mT C r t u U H x a b c d e)(q:k)(h:∀ f g i j l n:V,List.lookup m [("well",f),("shelf",g),("blots",i),("knots",j),("dues",l),("book",n)]=none:=by intros;rfl):VS C m ↥x H k:=by
 let⟨s,v,o,w,y,z,A,B,D,F,G,I,J,M,N,O,R,S,T,p⟩:=id L;exact⟨x,o,Y,p.L.hx,h ..,q⟩
class inductive TU(C:Addr)
 | mk (e:Y1) (x f g h:Addr) (a:kB) (i:Wp) (b c:Nat) (d:List (List aX)) (_:vs=[↥x,.int (b:Nat),.int (c:Nat)]) (_:Sh C e H x f g h a i) (_:a[c]?=⇑d) (_:b<↑d) (_:Q .fQ H)
theorem rj:‹(3,79,["self","sheet","moment"],(TU CS))›:=λD=>by
 specialize ef ["self","sheet","moment"] D.k0.F;let⟨S,x,d,e,a,f,b,j,i,m,rfl,W,c,g,l⟩:=h;let m:=(List.getElem?_eq_some_iff.mp c).1;let m:=pJ g (W.M6.less i _ c);let k:b[j]?=⇑b[j]:=nj m;let⟨_,_,m⟩:=W.M6.fit j _ k;let n:=(m i _ c).mpr g;exists _,#v[aU (cH (pv 0) D.cP D.De (cS D) hr bL #[1]),aU (cH (pv 0) D.cP D.W0 (jR D) hr bL #[2]),bR (aV jt (pv 2) (aQ bJ (cI (pv 0) rfl) (pv 1)) (bz _)) #v[gS] bq]
 all_goals try dsimp only[aP,aG]
 exists Y,x,d,Y,W.hx,1,Y,S,x,d,e,a,f,b,Y,W,⟨Q,Q⟩;exists Y,x,d,Y,W.hx,1,Y,S,x,d,e,a,f,b,Y,W,⟨Q,Q⟩;exact⟨Y,Y,x,CS,d,_,↥a,1,W.hx,D.cP.cl,D.lK,1,Y,a,K,V,bM.of W.ho,cT (by rw[lD,k];rfl),Z,Y,dD (λa=>absurd n (by have:=of_decide_eq_true a;lia)) (λ_=>l)⟩
class inductive Kw(C CS CW CB:Addr)
 | mk (U:Y1) (x:Addr) (a:gP) (f:gQ) (g:fY) (h:Nat) (i:Row) (s m:Nat) (b d:c9) (e:Y2) (_:vs=[↥x,.int (s:Nat),.int (m:Nat)]) (_:mT C CS CW CB U H x a f g h i) (_:a[m]?=⇑b) (_:s<↑b) (_:↑b<=50) (_:↑a<=900) (_:a.getLast?=⇑d) (_:↑d<=50) (_:Seen b e) (_:∀ (o:Addr) (c:Hp),bP c o (cE (e (s:Nat)))->aI H c->H o=none->Q ↥o c)
theorem gY:‹(5,80,["self","sheet","moment"],(Kw C CS CW CB))›:=λD=>by
 specialize ef ["self","sheet","moment"] D.Xf.F;let⟨U,x,a,u,z,A,B,s0,m,e,F,p,rfl,q,f,r,G,H,s,I,c,t⟩:=h;let⟨S,z,g,A,b,B,F,G,H,d,i,j,I,J,M,N,O,R,k,u⟩:=id q;let L:=u.L;let lo:=ye L s;let q:↑(oQ a)=↑a:=cC _;let q:=(List.getElem?_eq_some_iff.mp f).1
 let l:(oQ a)[m]?=⇑(e.map aJ):=by
  show (a.map _)[m]?=_;rw[lD,f];rfl
 exists _,#v[aU (cH (cI (pv 0) rfl) D.cP D.k0 (rj D) hr bL #[1,2]),aK (_eU.qO D.Im (D.T.mG _ D.Im.m) (zN D) hr #[cH (cI (pv 0) rfl) D.cP D.Xa (mP D) hr bL #[2],1])]
 all_goals try dsimp only[aP,aG]
 refine⟨Y,x,C,g,_,↥b,1,L.hx,D.aM.cl,D.fE,1,b,d,Y,L.W.hx,1,Y,Y,S,b,d,i,j,oQ a,k,s0,m,Y,L.W,l,by rw[cC];exact r,?_⟩;refine⟨Y,x,C,g,_,↥b,1,L.hx,D.aM.cl,D.fE,1,b,d,Y,L.W.hx,1,Y,S,b,d,i,j,oQ a,k,(m:Nat),1,L.W,⟨Q,Q⟩,⟨Q,Q⟩,λv a b n w d y o=>?_⟩;obtain rfl:m=v:=by lia
 rw[l]at n;cases n;exact⟨Y,w,e,(s0:Nat),p,1,y.at_,Q,c.es,c.sd,c.rk,Q,Q,c.ss,c.ln,λa b c d e=>t a b c (o.trans d) (aT o e)⟩
class inductive Kx(C CS CW CB:Addr)
 | mk (U:Y1) (x:Addr) (b:gP) (i:gQ) (e:fY) (j:Nat) (f:Row) (s m:Nat) (c g:c9) (d:Y2) (_:vs=[↥x,.int (s:Nat),.int (m:Nat)]) (_:mT C CS CW CB U H x b i e j f) (_:b[m]?=⇑c) (_:s<↑c) (_:↑c<=50) (_:↑b<=900) (_:b.getLast?=⇑g) (_:↑g<=50) (_:Seen c d) (_:↑(d (s:Nat))<=1000) (_:∀ a∈d (s:Nat),0<=a/\a<(↑e:Nat)) (_:∀ h,aI H h->Q (.str (fH ((d (s:Nat)).map (pP e f 35)))) h)
theorem kH:‹(6,81,["self","sheet","moment"],(Kx C CS CW CB))›:=λD=>by
 let⟨j,k⟩:=D.G.h;specialize ef ["self","sheet","moment"] D.k'.F;let⟨U,x,b,c,d,e,f,s,m,l,n,g,rfl,a,o,p,q,r,t,u,v,A,w,y⟩:=h;exists _,#v[aK (cH (pv 0) D.aM D.Xe (m9 D) hr bL #[cH (pv 0) D.aM D.Xf (gY D) hr bL #[1,2],xW (v:=.str "#") rfl k ⟨j,1⟩])]
 all_goals try dsimp only[aP,aG]
 refine⟨Y,a.m ⟨Y,a.m ⟨Y,Y,U,x,b,c,d,e,f,s,m,l,n,g,1,a,o,p,q,r,t,u,v,λo j z i k=>?_⟩⟩⟩;exact⟨U,x,o,b,c,d,e,f,cE (g (s:Nat)),35,by rw[show Str.ofString "#"=⟨(List.toArray [35])⟩ by decide +kernel];rfl,a.same i,z,jy _,by rw[dz];lia,by rw[dz];exact w,by rw[dz];exact λa b=>y a (i.trans b)⟩
class inductive My(C:Addr)
 | mk (c:Y1) (x d s o p:Addr) (n:Nat) (a:fY) (h:Int) (_:vs=[↥x,.int h]) (_:We C c H x d s o p n a) (_:n<=1000) (_: ∀ (q:Addr) (b:Hp),bP b q (cE (kC h 0 a))->↑(cE (kC h 0 a))<=n->aI H b->H q=none->Q ↥q b)
theorem Af:‹(2,83,["self","hand"],(My CW))›:=λD=>by
 specialize ef ["self","hand"] D.lh.F;let⟨S,x,m,s0,r,p,t,u,h,rfl,W,w,k⟩:=h;let⟨r,t,u,w,y,n,A,B,C,o,j,c⟩:=id W;let r:=gH hr;exists _,#v[aK (aC D.WL (nV D) hr #[Oi r (cI (pv 0) rfl) (pv 1) (bO ah) ⟨V,V⟩])]
 all_goals try dsimp only[aP,aG]
 refine⟨Y,x,CW,m,_,↥p,1,n,D.iF.cl,D.lN,1,p,1,.inl ⟨_,.inl j⟩,Y,gK,λz m=>?_⟩;let a:aI H (aO H z (.lst [])):=ao m _;let l:(aO H z (.lst [])) z=⇑(.lst []):=af;generalize aO H z (.lst [])=m at a l;exists _,gp.k (k:=Sum.inl h) (a _ _ j)
 cases e:cG o (Sum.inl h) with
 | none =>
  refine⟨z,[],1,⟨[],l,.nil⟩,Nat.zero_le _,λq d f g i=>k q d ?_ ?_ (a.trans g) (aT a i)⟩
  ·rw[c.fQ h e];exact f
  ·rw[c.fQ h e];exact Nat.zero_le _
 | some v =>
  let⟨s,b,rfl,m,n,lo,R,j,l,o⟩:=c.got h v e;refine⟨s,b,1,R.same a,Q,λq d f g i=>k q d ?_ ?_ (a.trans g) (aT a i)⟩
  ·rw[← l,← mw b j];exact f
  ·rw[← l,← mw b j];exact ig (iN b) ∅
def qA.PV{U j A:Y1}{H:Hp}{x k l m n o h p D G db t d:Addr}{a:gP}{c:Wp}{f:gQ}{q:fY}{r:Nat}{v:Row}{b:c9}{e:jj}{Q:VK}{E:XK}(y:qA C z I J U j A H x k l m n M o h N p O D sg ow G db tb a c f q r v)(T:e.At H t)(ok:e.Ok)(hc:H d=⇑(.lst []))(nc:d≠h)(hl:a.getLast?=⇑b)(l1:↑b<=50)(l2:↑a<=900)(l3:↑f<=900)(ab:∀ (g:Y1) (i:Hp),mT C z I J g i x (a++[b]) (f++[e.line]) q r v->vj U g H i->Q .fQ i):Kv C z [↥x,↥t,↥d] H Q E:=by
 let F:↑(oQ a)=↑a:=cC _;refine⟨j,x,k,l,m,n,M,o,h,N,p,O,oQ a,c,f,t,d,e,[],[],b.map aJ,1,y.L,T,ok,hc,nc,.nil,(λ_ s=>by cases s),kF hl,(λs u e=>by cases e),(by show 0<=200;decide),by rw[cC];lia,Q,Q,λF u s w=>?_⟩
 let B:oQ a++[nB (b.map aJ) []]=oQ (a++[b]):=by
  show _=(a++[b]).map _;rw[gx];rfl
 let F:c++List.replicate (↑(nB (b.map aJ) [])-↑(b.map aJ)) ((↑(oQ a):Nat):Int)=c:=by
  show c++List.replicate (↑(b.map aJ)-↑(b.map aJ)) _=c;rw[Nat.sub_self];exact gR _
 rw[B,F]at s;let⟨g,B,F⟩:=y.uV s w;exact ab g u B F
def vj.trans{U c d:Y1}{H h i:Hp}(f:vj U c H h)(g:vj c d h i):vj U d H i:=by
 let j:∀ a b,H a=⇑b->¬ U a->¬ c a:=λa b e n z=>by
  rcases f.1 a z with y|y
  ·exact n y
  ·rw[y]at e;cases e
 refine⟨λa z=>?_,λa b e n=>g.2.1 _ _ (f.2.1 _ _ e n) (j a b e n),λa j e=>g.2.2 _ _ (f.2.2 _ _ e)⟩;rcases g.1 a z with y|y
 ·exact f.1 a y
 cases e:H a with
 | none=>exact .inr rfl
 | some b =>
  by_cases u:U a
  ·exact .inl u
  ·rw[f.2.1 _ _ e u]at y;cases y
def qA.Vl{U f g:Y1}{H c:Hp}{x o p r b v h y A C db t:Addr}{D:gP}{G:Wp}{I:gQ}{J:fY}{M:Nat}{T j:Row}(ab:qA ae CS CW N U f g H x o p r b kn v h dS y op A sg ow C db tb D G I J M T)(B:Bl N c b db t)(R:bP c t j)(nF:pS j)(k:cy b H c)(O:H t=none):qA ae CS CW N (λa=>f a\/g a\/a=h\/a=x\/a=b\/a=t) f g c x o p r b kn v h dS y op A sg ow C db t D G I J M j/\vj U (λa=>f a\/g a\/a=h\/a=x\/a=b\/a=t) H c:=by
 let⟨L,W,q,m,w,dj,i,dt,u⟩:=ab;let s:x≠b:=cQ L.hx q;let l:∀ a m,H a=⇑(.tup m)->c a=⇑(.tup m):=λa m e=>k _ _ e (cQ e q);have n:∀ {a d},H a=⇑d->a≠t:=λe z=>by rw[z,O]at e;cases e
 refine⟨⟨L.fr (λa d e z=>k _ _ e ?_) l,W.fr (λa d e z=>k _ _ e λq=>i.2.1 (by rw[← q];exact z)) l,B,R,nF,dj,i,⟨λz=>?_,λz=>?_,(n L.hb).symm⟩,λa=>Iff.rfl⟩,λa z=>?_,λa d e m=>k _ _ e λq=>m ((u a).mpr (.inr (.inr (.inr (.inr (.inl q)))))),l⟩
 ·rintro rfl;rcases z with z|z|z
  ·exact i.1 z
  ·exact i.2.2 z
  ·exact s z.symm
 ·let⟨d,e⟩:=L.W.al t z;exact n e rfl
 ·let⟨d,e⟩:=W.al t z;exact n e rfl
 ·rcases z with z|z|z|z|z|z
  ·exact .inl ((u a).mpr (.inl z))
  ·exact .inl ((u a).mpr (.inr (.inl z)))
  ·exact .inl ((u a).mpr (.inr (.inr (.inl z))))
  ·exact .inl ((u a).mpr (.inr (.inr (.inr (.inl z)))))
  ·exact .inl ((u a).mpr (.inr (.inr (.inr (.inr (.inl z))))))
  ·exact .inr (by rw[z];exact O)
class inductive TV(C CS CW CB:Addr)
 | mk (U:Y1) (x r:Addr) (e:gP) (f:gQ) (b:fY) (c:Nat) (g a:Row) (h:Int) (_:vs=[↥x,.int h,↥r]) (_:mT C CS CW CB U H x e f b c g) (_:bP H r a) (_:↑a<=29) (_:nC ↑b a=true) (_:c<64) (_:∀ y,In a y->y∈kC h 0 b) (_:∀ d,aI H d->Q .fQ d)
theorem kJ:‹(4,84,["self","hand","row"],(TV C CS CW CB))›:=λD=>by
 specialize ef ["self","hand","row"] D.Xg.F;let⟨U,x,r,n,o,a,f,p,b,h,rfl,e,g,B,i,F,own,q⟩:=h;let⟨S,s,j,c,B,F,G,H,I,J,L,M,k,t,u,v,N,O,R,l⟩:=id e;refine⟨_,#v[aU (cH (pv 0) D.aM D.Xc (jS D) hr bL #[2]),bR (ju (aC D.WR (zH D) hr #[2,cH (cI (pv 0) rfl) D.iF D.lh (Af D) hr bL #[1]]) (λ_=>rfl)) #v[gS] bq],?_⟩
 all_goals try dsimp only[aP,aG]
 refine⟨Y,x,j,Y,l.L.hx,1,Y,U,x,r,n,o,a,f,p,b,1,e,g,Q,i,λe d=>?_⟩;let e:=l.same d;refine⟨Y,Y,x,C,j,_,↥c,1,e.L.hx,D.aM.cl,D.uz,1,c,k,Y,e.W.hx,1,Y,s,c,k,t,u,v,f,a,h,1,e.W,Q,λc f e j m k=>?_⟩;let f:Ok b:=λp j=>by have:=(qV i p j).2.1;lia
 refine⟨r,c,b,Y,g.same (d.trans m),e,Q,Q,f,jy _,λo w c _ z e=>?_⟩
 let none:ic (cE (kC h 0 a)) (bw b)=[]:=by
  unfold ic;refine List.filter_eq_nil_iff.mpr λy b=>?_;have e:LM (cE (kC h 0 a)) y=true:=jC.mpr (zE.mpr (own y (gV.mp b)));rw[e];decide
 rw[none]at c;let⟨a,y,A⟩:=c;cases A;exact⟨false,.inl ⟨[],bM.of y,1⟩,eT (q w ((d.trans m).trans z))⟩
abbrev fu:List Nat:=(Str.ofString "blot").cps.toList
abbrev fv:List Nat:=(Str.ofString "lift").cps.toList
class inductive yf(C CS CW CB:Addr)(n:List Nat)(f:Prop->Prop->Prop)
 | mk (U:Y1) (x r:Addr) (b:gP) (d:gQ) (c:fY) (e:Nat) (g a:Row) (h:Int) (i:c9) (_:vs=[↥x,.int h,↥r]) (_:mT C CS CW CB U H x b d c e g) (_:bP H r a) (_:IC a) (_:jZ h) (_:nC ↑c a=true) (_:e<64) (_:∀ y,In a y->y∈kC h 0 c) (_:↑g+↑a<64) (_:b.getLast?=⇑i) (_:↑i<=50) (_:↑b<=900) (_:↑d<=900) (_:∀ (k:Y1) (j:Hp) (l:Row),mT C CS CW CB k j x (b++[i]) (d++[(jj.nZ n [h] a).line]) c e l->(∀ y,In l y↔f (In g y) (In a y))->vj U k H j->Q .fQ j)
theorem pF:‹(5,85,["self","hand","row"],(yf C CS CW CB fu Or))›:=λD=>by
 specialize ef ["self","hand","row"] D.lj.F;let⟨U,x,r,A,B,F,G,n,b,h,f,rfl,a,o,q,H,s,I,own,J,L,M,N,O,R⟩:=h;let⟨f,W,d,X,sh,e,kn,du,S,dS,st,op,dw,sg,ow,pw,t,T,ag,u⟩:=id a;exists _,#v[aU (cH (pv 0) D.aM D.Xg (kJ D) hr bL #[1,2]),aU (cH (cI (pv 0) rfl) D.jh D.im (AO D) hr bL #[2]),aU (cH (pv 0) D.aM D.OP (iQ D) hr bL #[cW #[bx,1,2],bO ah])]
 all_goals try dsimp only[aP,aG]
 let W:=q.1;let X:Ok b:=λp f=>by have:=(qV s p f).2.1;lia
 refine⟨Y,x,d,Y,u.L.hx,1,Y,Y,U,x,r,A,B,F,G,n,b,h,1,a,o,W,s,I,own,λa g=>?_⟩;let a:=u.same g;let s:=o.same g;refine⟨Y,x,C,d,_,↥e,1,a.L.hx,D.aM.cl,D.qv,1,e,t,Y,a.B,1,Y,e,r,t,T,n,b,1,a.B,a.R,s,J,a.nF.ok,X,λu ab v n R2 o ae A e t=>?_⟩;let⟨i,f2⟩:=a.Vl n R2 o e t;let MS:=s.obj a.B e;refine⟨Y,x,d,Y,i.L.hx,1,Y,Y,OL,λp f=>⟨gK,λc j=>?_⟩⟩;let k:=ao f (.tup [.str "blot",.int h,↥r]);let w:(aO v p (.tup [.str "blot",.int h,↥r])) p=⇑(.tup [.str "blot",.int h,↥r]):=af;generalize aO v p (.tup [.str "blot",.int h,↥r])=y at k w j;let l:=ao j (.lst []);let z:(aO y c (.lst [])) c=⇑(.lst []):=af
 let nc:c≠S:=λa=>by
  have:=k _ _ i.L.hb;rw[← a,j]at this;cases this
 generalize aO y c (.lst [])=a at l z;let m:=k.trans l;refine (i.same m).PV (e:=.nZ fu [h] b) ⟨r,by rw[l _ _ w,oJ];rfl,MS.same m⟩ ⟨(by show jQ XA fu=some 1;decide +kernel),λy a=>by rw[List.mem_singleton.mp a];exact H,q⟩ z nc L M N O λa b c d=>?_;exact R a b ab c ae (((f2.pre g).trans (vj.same m)).trans d)
theorem pG:‹(5,86,["self","hand","row"],(yf C CS CW CB fv λB G=>B/\¬ G))›:=λD=>by
 specialize ef ["self","hand","row"] D.lm.F;let⟨U,x,r,A,F,H,I,n,b,h,f,rfl,a,o,q,J,s,L,own,X,M,N,O,R,S⟩:=h;let⟨f,X,d,wl,sh,e,kn,du,T,dS,st,op,dw,sg,ow,pw,t,W,ab,u⟩:=id a;exists _,#v[aU (cH (pv 0) D.aM D.Xg (kJ D) hr bL #[1,2]),aU (cH (cI (pv 0) rfl) D.jh D.io (AQ D) hr bL #[2]),aU (cH (pv 0) D.aM D.OP (iQ D) hr bL #[cW #[bx,1,2],bO ah])]
 all_goals try dsimp only[aP,aG]
 let X:=q.1;let ab:Ok b:=λp f=>by have:=(qV s p f).2.1;lia
 refine⟨Y,x,d,Y,u.L.hx,1,Y,Y,U,x,r,A,F,H,I,n,b,h,1,a,o,X,s,L,own,λa g=>?_⟩;let a:=u.same g;let s:=o.same g;refine⟨Y,x,C,d,_,↥e,1,a.L.hx,D.aM.cl,D.qv,1,e,t,Y,a.B,1,Y,e,r,t,W,n,b,1,a.B,a.R,s,Q,Q,a.nF,ab,λu ae v n R2 o ag A e t=>?_⟩;let⟨i,f2⟩:=a.Vl n R2 o e t;let MS:=s.obj a.B e;refine⟨Y,x,d,Y,i.L.hx,1,Y,Y,OL,λp f=>⟨gK,λc j=>?_⟩⟩;let k:=ao f (.tup [.str "lift",.int h,↥r]);let w:(aO v p (.tup [.str "lift",.int h,↥r])) p=⇑(.tup [.str "lift",.int h,↥r]):=af;generalize aO v p (.tup [.str "lift",.int h,↥r])=y at k w j;let l:=ao j (.lst []);let z:(aO y c (.lst [])) c=⇑(.lst []):=af
 let nc:c≠T:=λa=>by
  have:=k _ _ i.L.hb;rw[← a,j]at this;cases this
 generalize aO y c (.lst [])=a at l z;let m:=k.trans l;refine (i.same m).PV (e:=.nZ fv [h] b) ⟨r,by rw[l _ _ w,oJ];rfl,MS.same m⟩ ⟨(by show jQ XA fv=some 1;decide +kernel),λy a=>by rw[List.mem_singleton.mp a];exact J,q⟩ z nc M N O R λa b c d=>?_;exact S a b ae c ag (((f2.pre g).trans (vj.same m)).trans d)
class inductive Ky(C CS CW CB:Addr)
 | mk (U:Y1) (x:Addr) (c:gP) (d:gQ) (e:fY) (f:Nat) (a:Row) (_:vs=[↥x]) (_:mT C CS CW CB U H x c d e f a) (_:∀ (q:Addr) (b:Hp),bP b q a->pS a->aI H b->H q=none->Q ↥q b)
theorem uY:‹(2,87,["self"],(Ky C CS CW CB))›:=λD=>by
 specialize ef ["self"] D.lq.F;let⟨U,x,i,j,l,m,d,rfl,e,k⟩:=h;let⟨S,i,f,j,l,b,m,n,o,p,q,r,s,t,u,v,c,g,w,a⟩:=id e;exists _,#v[aK (ff (cI (pv 0) rfl) D.jh D.iq (Dm D) hr bL)]
 all_goals try dsimp only[aP,aG]
 exact⟨Y,x,C,f,_,↥b,1,a.L.hx,D.aM.cl,D.qv,1,b,c,Y,a.B,1,b,c,g,d,1,a.B,a.R,λq b c d e=>k q b c a.nF d e⟩
def PY{z:Str}{i:Int}{n:Nat}(b:↑z=n)(a:0<=i)(d:i<n):∃ c,oz z.cps.toList i=⇑c:=by
 let e:i.toNat<↑z.cps.toList:=by
  have:↑z.cps.toList=↑z:=by show _=z.cps.size;simp
  lia
 exists z.cps.toList[i.toNat];let e:oz z.cps.toList ((i.toNat:Nat):Int)=⇑z.cps.toList[i.toNat]:=cT (by simp);rw[Int.toNat_of_nonneg a]at e;exact e
class inductive TX
 | mk (l d:Addr) (b:Bool) (_:vs=[↥l,.bl b]) (_:cX H l d) (_: ∀ (ch:Nat) (c:Hp),cX c l d->(∀ a,a≠l->c a=H a)->Q (qZ ch) c)
class inductive TY
 | mk (l c:Addr) (m:Nat) (_:vs=[↥l,.int (m:Nat)]) (_:cX H l c) (_:m<=1000) (_: ∀ (b:List Nat) (a:Hp),↑b=m->cX a l c->cy l H a->Q (.str (fH b)) a)
theorem F9:‹(2,88,["_law_src_here","_law_few"],TX)›:=λD=>by
 specialize ef ["_law_src_here","_law_few","_law_some"] D.lw.F;let⟨l,i,b,rfl,S,k⟩:=h;refine⟨_,#v[aY 2 bx,bR (ju (pv 1) (λ_=>rfl)) #v[aK (aQ Nz bx (aC D.vh (d8 D) hr #[0,az]))] bq,aK (aQ Nz (pv 2) (aC D.vh (d8 D) hr #[0,az]))],?_⟩
 all_goals try dsimp only[aP,aG]
 refine⟨Y,b,1,dD (λ_=>?_) (λ_=>?_)⟩
 ·refine⟨Y,l,i,4,1,S,E,E,λv b c d e f=>?_⟩;let⟨a,g⟩:=PY (z:=Str.ofString "a# b") (n:=4) nofun c d;exact⟨P,a,V,nofun,g,k a b e f⟩
 ·refine⟨Y,Y,l,i,94,1,S,E,E,λv b c d e f=>?_⟩;let⟨a,g⟩:=PY (z:=Str.ofString " !\"#$&'()*+,-./0123456789:;<=>?@ABCDEFGHIJKLMNOPQRSTUVWXYZ[\\]^_`abcdefghijklmnopqrstuvwxyz{|}~") (n:=94) nofun c d;exact⟨P,a,V,nofun,g,k a b e f⟩
theorem Ga:‹(3,89,["_law_src_here","_law_many"],TY)›:=λD=>by
 specialize ef ["_law_src_here","_law_many","_law_few"] D.lx.F;let⟨l,g,m,rfl,S,s,w⟩:=h;refine⟨_,#v[aY 2 (j0 eK (aC D.vh (d8 D) hr #[0,az]) az (bz _)),aK (dM PySem.F.plainAttrs_str PySem.F.slot_str_join PySem.F.type_str_join zF bx #[gC (N:=["_law_k","_law_src_here","_law_few"]) (jO (c:=b8 sN) (f:=["_law_src_here","_law_many","_law_few"]) (d:=[none,some 0,some 2]) rfl rfl rfl nofun nofun rfl nofun rfl nofun) rfl (jk rfl D.T.jd #[1]) (λ_ _ _ _ _ _=>(bV 0)) (λ_ _ _ _ _ _=>gy) (λ_ _ _ _ _ _=>(aC D.lw (F9 D) hr #[1,2]))])],?_⟩
 all_goals try dsimp only[aP,aG]
 refine⟨Y,l,g,2,1,S,E,E,λx s _ _ i y=>⟨1,?_⟩⟩;let q:cy l H s:=λd r e m=>(y d m).trans e;refine⟨1,Y,(m:Nat),1,Q,Q,λb f=>qw (lo:=0) (k:=((m:Nat):Int).toNat) (λs j c=>∃ (u:Option V) (a:List Nat),j=[u,⇑↥l,⇑(.bl (decide (V.int x=V.int 0)))]/\c b=⇑(.lst (a.map qZ))/\↑a=s/\cX c l g/\cy l H c) ⟨none,[],1,af,1,i.same (ao f _),λd r e m=>ao f _ _ _ (q _ _ e m)⟩ ?_ ?_⟩
 ·rintro s j c C ⟨u,a,rfl,k,t,n,o⟩;let p:b≠l:=(i.ne f).1.symm;let A:b≠g:=(i.ne f).2.symm;refine⟨Y,Y,l,g,Y,n,λg i B v=>⟨_,by rw[v b p];exact k,(by rw[cC];exact aS ∅),_,a++[g],1,?_,?_,?_,?_⟩⟩
  ·rw[af,gx];rfl
  ·rw[dm,t];rfl
  ·exact B.keep (aH b _ _) p.symm A.symm
  ·intro d r e m;by_cases z:d=b
   ·rw[z]at e;have:=iM q p f;rw[this]at e;cases e
   rw[aL z,v d m];exact o _ _ e m
 ·rintro j c ⟨u,a,rfl,k,t,n,o⟩;let d:↑a=m:=by lia
  exact⟨b,a,V,k,Q,w a c d n o⟩
def DL{a b:Type}{c:a->b->Prop}{d:List a}{e:List b}{x:a}{y:b}(h:Paired c d e)(f:c x y):Paired c (d++[x]) (e++[y]):=by
 induction h with
 | nil=>exact .cons f .nil
 | cons r _ g=>exact .cons r g
def A0{b c:Type}{a:b->c->Prop}{d e:List b}{f g:List c}(h:Paired a d f)(t:Paired a e g):Paired a (d++e) (f++g):=by
 induction h with
 | nil=>exact t
 | cons i _ j=>exact .cons i j
def Kz(H:Hp)(a:Addr)(q:Int × Nat):Prop:=H a=⇑(.tup [.int q.1,qZ q.2])
inductive Ag(H:Hp)(v:Addr)(aF:fY):Prop
 | mk (a:WF) (_:H v=⇑(.lst (a.map V.ref))) (_:Paired (Kz H) a aF)
abbrev kI:fK:=.inr (Str.ofString "ink")
abbrev kR:fK:=.inr (Str.ofString "rows")
abbrev kP:fK:=.inr (Str.ofString "past")
abbrev Mz:fK:=.inr (Str.ofString "veil")
abbrev kK(a rw b c:Addr):List (fK × V):=[(kI,↥a),(kR,↥rw),(kP,↥b),(Mz,↥c)]
def Vm(W:Y1)(a c:Addr)(H:Hp)(v:V)(d:Wp):Prop:=∃ b,v=↥b/\W b/\b≠a/\b≠c/\H b=⇑(.lst (d.map V.int))
def M8(W:Y1)(b c:Addr)(H:Hp)(a:Addr)(e:c9):Prop:=W a/\a≠b/\a≠c/\∃ d,H a=⇑(.lst d)/\cF (Vm W b c H) d e
structure A1(ke:Nat)(aN:Row)(W:Y1)(H:Hp)(w ik rw ps vl:Addr)(aF:fY)(pe:gP)(rows:c9):Prop where
 ww:W w
 wi:W ik
 wp:W ps
 wv:W vl
 al:∀ a,W a->∃ ob,H a=⇑ob
 hw:H w=⇑(.dK (kK ik rw ps vl))
 hi:Ag H ik aF
 hr:M8 W ik ps H rw rows
 hp:∃ vs,H ps=⇑(.lst vs)/\cF (λv rs=>∃ a,v=↥a/\M8 W ik ps H a rs) vs pe
 ne:ik≠ps
 lst:pe.getLast?=⇑rows
 hv:∃ vn:List Int,H vl=⇑(.lst (vn.map V.int))/\↑vn+ke<=100*↑pe/\∀ y,y∈vn↔In aN y
 nv:vl≠ik/\vl≠ps
def Wo(a:Nat)(b:Row)(W:Y1)(H:Hp)(w:Addr)(c:fY)(d:gP)(e:c9):Prop:=∃ f rw g h,A1 a b W H w f rw g h c d e
theorem Vm.fr{W b:Y1}{H c:Hp}{v:V}{d:Wp}(s:∀ a,W a->b a)(k:∀ a e,H a=⇑(.lst e)->W a->a≠f->a≠g->c a=⇑(.lst e)):Vm W f g H v d->Vm b f g c v d:=λ⟨j,l,w,h,i,m⟩=>⟨j,l,s _ w,h,i,k _ _ m w h i⟩
theorem M8.fr{W b:Y1}{H c:Hp}{a:Addr}{d:c9}(s:∀ a,W a->b a)(k:∀ a e,H a=⇑(.lst e)->W a->a≠f->a≠g->c a=⇑(.lst e)):M8 W f g H a d->M8 b f g c a d:=λ⟨w,h,i,j,l,m⟩=>⟨s _ w,h,i,j,k _ _ l w h i,m.mono λ_ _=>Vm.fr s k⟩
def Ag.two{H b:Hp}{v:Addr}{d:fY}(h:Ag H v d)(k:∀ a,H v=⇑(.lst a)->b v=⇑(.lst a))(t:∀ c a,H c=⇑(.tup a)->b c=⇑(.tup a)):Ag b v d:=by
 let⟨e,f,g⟩:=h;exact⟨e,k _ f,Paired.AB g λc q e=>t _ _ e⟩
def A1.fr{W:Y1}{H d:Hp}{w rw:Addr}{f:fY}{g:gP}{h:c9}(i:A1 100 aN W H w j rw l m f g h)(k:∀ a c,H a=⇑c->W a->d a=⇑c)(t:∀ a b,H a=⇑(.tup b)->d a=⇑(.tup b)):A1 100 aN W d w j rw l m f g h:=by
 let⟨ww,wi,wp,wv,al,hw,hi,hr,⟨n,hp,o⟩,ne,lst,hv,nv⟩:=i;refine⟨ww,wi,wp,wv,λa z=>?_,k _ _ hw ww,hi.two (λb e=>k _ _ e wi) t,hr.fr (λ_ z=>z) (λa b e z _ _=>k _ _ e z),⟨n,k _ _ hp wp,o.mono λv n ⟨a,e,z⟩=>⟨a,e,z.fr (λ_ y=>y) (λa b e y _ _=>k _ _ e y)⟩⟩,ne,lst,hv.imp λ_ z=>⟨k _ _ z.1 wv,z.2⟩,nv⟩;let⟨c,e⟩:=al a z;exact⟨c,k _ _ e z⟩
def Wo.fr{W:Y1}{H b:Hp}{w:Addr}{c:fY}{d:gP}{e:c9}(h:Wo 100 i W H w c d e)(k:∀ a f,H a=⇑f->W a->b a=⇑f)(t:∀ a g,H a=⇑(.tup g)->b a=⇑(.tup g)):Wo 100 i W b w c d e:=by
 let⟨j,rw,l,m,z⟩:=h;exact⟨j,rw,l,m,z.fr k t⟩
theorem Wo.same{W:Y1}{H a:Hp}{w:Addr}{b:fY}{c:gP}{d:c9}(h:Wo 100 g W H w b c d)(s:aI H a):Wo 100 g W a w b c d:=h.fr (λf i e _=>s f i e) λf f e=>s _ _ e
def KA:Sp:=λa H Q _=>a=[]/\∀ (W:Y1) (w:Addr) (a:Hp),Wo 100 [] W a w [] [[]] []->(∀ b,W b->H b=none)->aI H a->Q ↥w a
theorem sv{a:Cx}{b c d e:Str}{n o p q:Nat}{r t u v x:Pos}{f g h i:Expr}{j k l m:TE}(y:PE a f j)(z:PE a g k)(A:PE a h l)(B:PE a i m) :
  PE a (.Dict [⇑(.Constant (.str b) n r),⇑(.Constant (.str c) o t),⇑(.Constant (.str d) p u),⇑(.Constant (.str e) q v)] [f,g,h,i] x) (Og [(tC (.str b),j),(tC (.str c),k),(tC (.str d),l),(tC (.str e),m)]) :=
 Se (uC bx y (uC bx z (uC bx A (uC bx B Sd)))) rfl rfl (by simp) (by show 4<=15;decide)
abbrev sw:TE:=Og [(tC (.str "ink"),Lc yz),(tC (.str "rows"),Lc yz),(tC (.str "past"),Lc (Nq (Lc yz) yz)),(tC (.str "veil"),Lc yz)]
theorem PZ:∃ (e:Expr) (p:Pos),jw qu=[.Return (⇑e) p]/\∀ a:Cx,PE a e sw :=
 ⟨P,1,λa=>@sv a _ _ _ _ _ _ _ _ _ _ _ _ _ _ _ _ _ _ _ _ _ (bO ah) (bO ah) (bO #[bO ah]) (bO ah)⟩
theorem DM:‹(1,90,[],KA)›:=λD=>by
 refine ef [] D.SJ.F λcZ A zn s H vs Q E hr _ h=>?_;let⟨rfl,X⟩:=h;let⟨e,ab,he,pw⟩:=PZ;rw[he];exists _,au (aK (pw _));intro w x;refine⟨gK,λb y=>⟨gK,λrw q=>⟨gK,λz l=>⟨mF,λc f=>⟨gK,λg i=>?_⟩⟩⟩⟩⟩;have s0:=ao x (.dK []);have J:(aO H w (.dK [])) w=⇑(.dK []):=af;generalize aO H w (.dK [])=v at s0 J y q l f i;have m:=ao y (.lst []);have n:(aO v b (.lst [])) b=⇑(.lst []):=af;generalize aO v b (.lst [])=B at m n q l f i;have j:=ao q (.lst []);have C:(aO B rw (.lst [])) rw=⇑(.lst []):=af;generalize aO B rw (.lst [])=L at j C l f i;have k:=ao l (.lst []);have F:(aO L z (.lst [])) z=⇑(.lst []):=af;generalize aO L z (.lst [])=M at k F f i;have o:=ao f (.lst [↥z]);have G:(aO M c (.lst [↥z])) c=⇑(.lst [↥z]):=af;generalize aO M c (.lst [↥z])=N at o G i;have r:=ao i (.lst []);have I:(aO N g (.lst [])) g=⇑(.lst []):=af;generalize aO N g (.lst [])=t at r I;have L:aI B t:=j.trans (k.trans (o.trans r));have O:aI v t:=m.trans L;have R:=O _ _ J;have S:=L _ _ n;have T:=(k.trans (o.trans r)) _ _ C;have U:=(o.trans r) _ _ F;have W:=r _ _ G;have nl:∀ {a:Addr} {p:List V},t a=⇑(.lst p)->a≠w:=λ{a p} e r=>by rw[r,R]at e;cases e
 let n1:rw≠b:=(aA n q).symm;let n2:rw≠c:=aA (k _ _ C) f;let n3:z≠b:=(aA (j _ _ n) l).symm;let n4:z≠c:=aA F f;let n5:b≠c:=aA ((j.trans k) _ _ n) f;refine⟨R,kK b rw c g,1,(by show 4<=15;decide),?_⟩;rw[show vI [] (kK b rw c g)=kK b rw c g by kernel_rfl];let d:∀ {a:Addr} {p:List V},t a=⇑(.lst p)->(aO t w (.dK (kK b rw c g))) a=⇑(.lst p):=λ{a p} e=>by rw[aL (nl e)];exact e
 let u:∀ a,v a=none->H a=none:=λa e=>aT s0 e;refine X (λa=>a=w\/a=b\/a=rw\/a=z\/a=c\/a=g) w _ ⟨b,rw,c,g,.inl rfl,.inr (.inl rfl),.inr (.inr (.inr (.inr (.inl rfl)))),.inr (.inr (.inr (.inr (.inr rfl)))),λa e=>?_,af,⟨[],d S,.nil⟩,⟨.inr (.inr (.inl rfl)),n1,n2,[],d T,.nil⟩,⟨[↥z],d W,.cons ⟨z,1,.inr (.inr (.inr (.inl rfl))),n3,n4,[],d U,.nil⟩ .nil⟩,n5,1,⟨[],d I,(by decide),λb=>⟨λz=>(by cases z),λ⟨_,z,_⟩=>(by cases z)⟩⟩,(aA ((j.trans (k.trans o)) _ _ n) i).symm,(aA G i).symm⟩ (λa e=>?_) (bS x (s0.trans O) (aH w _ _))
 ·rcases e with rfl|rfl|rfl|rfl|rfl|rfl
  ·exact⟨_,af⟩
  ·exact⟨_,d S⟩
  ·exact⟨_,d T⟩
  ·exact⟨_,d U⟩
  ·exact⟨_,d W⟩
  ·exact⟨_,d I⟩
 ·rcases e with rfl|rfl|rfl|rfl|rfl|rfl
  ·exact x
  ·exact u _ y
  ·exact u _ (aT m q)
  ·exact u _ (aT m (aT j l))
  ·exact u _ (aT m (aT j (aT k f)))
  ·exact u _ (aT m (aT j (aT k (aT o i))))
class inductive XW
 | mk (W:Y1) (w r:Addr) (i:fY) (f:gP) (k g:c9) (_:vs=[↥w,↥r]) (_:Wo ke aN W H w i f k) (_:↑f<=1000) (_:(∀ e b,(∃ rw h,H w=⇑(.dK (kK e rw b h)))->M8 W e b H r g)) (_: ∀ (c:Hp),Wo 100 aN W c w i (f++[g]) g->(∀ a j,H a=⇑j->¬ W a->c a=⇑j)->(∀ a d,H a=⇑(.tup d)->c a=⇑(.tup d))->(∀ e rw b h,H w=⇑(.dK (kK e rw b h))->∀ a d,H a=⇑(.lst d)->a≠b->c a=⇑(.lst d))->Q .fQ c)
theorem ng:‹(1,91,["_law_world_here","_law_rows"],XW)›:=λD=>by
 specialize ef ["_law_world_here","_law_rows"] D.OR.F;let⟨W,w,r,aF,x,C,F,rfl,⟨d,rw,b,f,h⟩,G,y,k⟩:=h;let p:=gH hr;exists _,#v[oF p (pv 0) bx (pv 1) rfl,aU (dM n9 jm jo bU (eS p (pv 0) bx) #[1])]
 all_goals try dsimp only[aP,aG]
 let A:=y d b ⟨rw,f,h.hw⟩;refine⟨Y,Y,w,Y,zq.k (k:=kR) h.hw (by show 4<sizeLine;decide),?_⟩;rw[show eO (kK d rw b f) kR ↥r=kK d r b f by kernel_rfl];let⟨i,j,t⟩:=h.hp;let g:=aH w H (.dK (kK d r b f));let l:(aO H w (.dK (kK d r b f))) w=⇑(.dK (kK d r b f)):=af;let m:∀ {a:Addr} {p:HO},H a=⇑p->(∀ c,p≠.dK c)->a≠w:=λ{a p} e n q=>by rw[q,h.hw]at e;cases e;exact n _ rfl
 generalize aO H w (.dK (kK d r b f))=s at g l;let u:=g _ _ j (m j (λ_ z=>by cases z));let z:=gp.k (k:=kP) l;rw[show cG (kK d r b f) kP=⇑↥b by kernel_rfl]at z;let p:i.length=↑x:=t.len;refine⟨Y,w,Y,z,.inl ⟨1,_,bM.of u⟩,Y,b,Z,u,aS ∅,?_⟩;let B:w≠b:=(m j (λ_ z=>by cases z)).symm
 let o:∀ a c,H a=⇑(.lst c)->a≠b->(aO s b (.lst (i++[↥r]))) a=⇑(.lst c):=λa c e n=>by
  rw[aL n];exact g _ _ e (m e (λ_ z=>by cases z))
 let v:∀ a c,H a=⇑(.tup c)->(aO s b (.lst (i++[↥r]))) a=⇑(.tup c):=λa c e=>by
  rw[aL (cQ e j)];exact g _ _ e (m e (λ_ z=>by cases z))
 let m:∀ {a:Addr} {j:c9},M8 W d b H a j->M8 W d b (aO s b (.lst (i++[↥r]))) a j:=λ{a j} q=>q.fr (λ_ y=>y) λa c e _ _ n=>o a c e n;have i:=m A
 refine k _ ⟨d,r,b,f,h.ww,h.wi,h.wp,h.wv,λa p=>?_,?_,h.hi.two (λc e=>o _ _ e h.ne) v,i,⟨_,af,(t.mono λd j ⟨a,e,q⟩=>⟨a,e,m q⟩).app (.cons ⟨r,1,i⟩ .nil)⟩,h.ne,lX,h.hv.imp λ_ z=>⟨o _ _ z.1 h.nv.2,by rw[dm,gW];have:=z.2.1;lia,z.2.2⟩,h.nv⟩ (λa f e n=>?_) v λi j m r d a c e n=>o a c e (by
  rw[h.hw]at d;simp only[Option.some.injEq,HO.dK.injEq,kK,List.cons.injEq,Prod.mk.injEq,V.ref.injEq,true_and,and_true]at d;rw[d.2.2.1]
  exact n)
 ·by_cases c:a=b
  ·rw[c];exact⟨_,af⟩
  rw[aL c];by_cases b:a=w
  ·rw[b];exact⟨_,l⟩
  ·let⟨f,e⟩:=h.al a p;exact⟨f,g _ _ e b⟩
 ·rw[aL B];exact l
 ·rw[aL (λq=>n (by rw[q];exact h.wp))];exact g _ _ e (λq=>n (by rw[q];exact h.ww))
def mT.al{U:Y1}{H:Hp}{x:Addr}{b:gP}{c:gQ}{d:fY}{e:Nat}{f:Row}(h:mT C j k l U H x b c d e f){a:Addr}(z:U a):∃ g,H a=⇑g:=by
 let⟨S,m,n,o,p,q,r,s,t,v,w,y,A,D,F,G,I,J,M,L,W,B,R,N,O,T,X,u⟩:=h;let⟨m,i,_⟩:=R;rcases (u a).mp z with y|y|y|y|y|y
 ·exact L.W.al a y
 ·exact W.al a y
 ·rw[y];exact⟨_,L.hb⟩
 ·rw[y];exact⟨_,L.hx⟩
 ·rw[y];exact⟨_,B⟩
 ·rw[y];exact⟨_,i⟩
def Wo.al{W:Y1}{H:Hp}{w:Addr}{b:fY}{c:gP}{d:c9}(h:Wo 100 f W H w b c d){a:Addr}(z:W a):∃ e,H a=⇑e:=by
 let⟨g,rw,i,j,y⟩:=h;exact y.al a z
structure pT(C CS CW CB:Addr)(H:Hp)(l c w x:Addr)(U W:Y1)(pe:gP)(rows:c9)(pq:gP)(rq:c9)(aB:gQ)(aF:fY)(nW:Nat)(aN:Row):Prop where
 src:cX H l c
 Eo:mT C CS CW CB U H x pe aB aF nW aN
 lst:pe.getLast?=⇑rows
 wo:Wo 100 aN W H w aF pq rq
 du:∀ a,U a->¬ W a/\a≠l/\a≠c
 dw:∀ a,W a->a≠l/\a≠c
def KC(l:Addr)(U W d e:Y1)(H b:Hp):Prop:=(∀ a,d a\/e a->U a\/W a\/H a=none)/\(∀ a c,H a=⇑c->a≠l->¬ U a->¬ W a->b a=⇑c)/\∀ a c,H a=⇑(.tup c)->b a=⇑(.tup c)
def KC.trans{l:Addr}{U W c d j k:Y1}{H g m:Hp}(f:KC l U W c d H g)(h:∃ o,g l=⇑o)(i:KC l c d j k g m):KC l U W j k H m:=by
 let q:∀ a,c a\/d a\/g a=none->U a\/W a\/H a=none:=by
  intro a z;rcases z with z|z|z
  ·exact f.1 a (.inl z)
  ·exact f.1 a (.inr z)
  by_cases u:U a
  ·exact .inl u
  by_cases v:W a
  ·exact .inr (.inl v)
  refine .inr (.inr ?_)
  cases e:H a with
  | none=>rfl
  | some b =>
   exfalso;by_cases n:a=l
   ·let⟨o,h⟩:=h;rw[n,h]at z;cases z
   rw[f.2.1 _ _ e n u v]at z;cases z
 let p:∀ a b,H a=⇑b->¬ U a->¬ W a->¬ c a/\¬ d a:=by
  intro a b e u v;refine⟨λz=>?_,λz=>?_⟩
  ·rcases f.1 a (.inl z) with y|y|y
   ·exact u y
   ·exact v y
   ·rw[y]at e;cases e
  ·rcases f.1 a (.inr z) with y|y|y
   ·exact u y
   ·exact v y
   ·rw[y]at e;cases e
 exact⟨λa z=>q a (i.1 a z),λa b e n u v=>i.2.1 _ _ (f.2.1 _ _ e n u v) n (p a b e u v).1 (p a b e u v).2,λa a e=>i.2.2 _ _ (f.2.2 _ _ e)⟩
def pT.mv{H b:Hp}{l c w x:Addr}{U W:Y1}{f:gP}{g:c9}{i:gP}{j:c9}{m:gQ}{n:fY}{o:Nat}{p:Row}(h:pT C q r u H l c w x U W f g i j m n o p)(k:cy l H b)(s:cX b l c):pT C q r u b l c w x U W f g i j m n o p:=by
 let⟨a,v⟩:=h.src.lst;let t:∀ a d,H a=⇑(.tup d)->b a=⇑(.tup d):=λa d e=>k _ _ e (cQ e v);exact⟨s,h.Eo.fr (λa d e z=>k _ _ e (h.du a z).2.1) t,h.lst,h.wo.fr (λa d e z=>k _ _ e (h.dw a z).1) t,h.du,h.dw⟩
theorem pT.same{H a:Hp}{l c w x:Addr}{U W:Y1}{b:gP}{d:c9}{e:gP}{f:c9}{g:gQ}{h:fY}{i:Nat}{j:Row}(k:pT C m n o H l c w x U W b d e f g h i j)(s:aI H a):pT C m n o a l c w x U W b d e f g h i j:=k.mv (λp q r _=>s p q r) (k.src.same s)
def Gb{c:Type}{a:List c}{v:Int}(d:0<=v)(e:v<↑a):∃ x∈a,oz a v=⇑x:=by
 obtain⟨j,rfl⟩:∃ j:Nat,v=j:=⟨v.toNat,Q⟩;let b:j<↑a:=by lia
 exact⟨a[j],List.getElem_mem b,cT (nj b)⟩
def pT.Vo{W b:Y1}{H:Hp}{w rw:Addr}{c:fY}{d:gP}{f:c9}(h:A1 100 g W H w i rw j k c d f)(s:∀ a,W a->b a)(l:∀ a,b a->∃ m,H a=⇑m):A1 100 g b H w i rw j k c d f:=by
 let⟨ww,wi,wp,wv,_,hw,hi,hr,⟨n,o,p⟩,ne,lst,hv,nv⟩:=h;exact⟨s _ ww,s _ wi,s _ wp,s _ wv,l,hw,hi,hr.fr s (λa q e _ _ _=>e),⟨n,o,p.mono λv n ⟨a,e,z⟩=>⟨a,e,z.fr s (λa q e _ _ _=>e)⟩⟩,ne,lst,hv,nv⟩
def cX.mm{U d:Y1}{H a:Hp}{l c:Addr}(e:cX H l c)(b:vj U d H a)(f:¬ U l)(g:¬ U c):cX a l c:=by
 let⟨n,h,i,j,r,k,m,o⟩:=e;exact⟨n,h,i,j,r,b.2.1 _ _ k f,b.2.1 _ _ m g,o⟩
def pT.sC{H c:Hp}{l f w x:Addr}{U d W:Y1}{u g:gP}{v k:c9}{m:gP}{n:c9}{A o:gQ}{h:fY}{B p:Nat}{i:Row}(St:pT C q r t H l f w x U W u v m n A h B i)(D:mT C q r t d c x g o h p i)(G:g.getLast?=⇑k)(b:vj U d H c):pT C q r t c l f w x d W g k m n o h p i/\KC l U W d W H c:=by
 refine⟨⟨St.src.mm b (λz=>(St.du l z).2.1 rfl) (λz=>(St.du f z).2.2 rfl),D,G,St.wo.fr (λa j e z=>b.2.1 _ _ e (λy=>(St.du a y).1 z)) b.2.2,λa z=>?_,St.dw⟩,λa z=>z.elim (λz=>(b.1 a z).elim .inl λy=>.inr (.inr y)) (λz=>.inr (.inl z)),λa j e _ s _=>b.2.1 a j e s,b.2.2⟩;rcases b.1 a z with y|y
 ·exact St.du a y
 ·let a:=St.src.ne y;refine⟨λz=>?_,a.1.symm,a.2.symm⟩;let⟨j,e⟩:=St.wo.al z;rw[y]at e;cases e
def pT.kept{H c:Hp}{l d w x:Addr}{U W b:Y1}{j:gP}{k:c9}{t m:gP}{u n:c9}{o:gQ}{e:fY}{p:Nat}{f:Row}(St:pT C v y A H l d w x U W j k t u o e p f)(wo:Wo 100 f b c w e m n)(q:∀ a,U a->¬ b a)(g:∀ a,b a->a≠l/\a≠d)(h:∀ a i,H a=⇑i->¬ b a->c a=⇑i)(B:∀ a r,H a=⇑(.tup r)->c a=⇑(.tup r)):pT C v y A c l d w x U b j k m n o e p f:=by
 refine⟨?_,St.Eo.fr (λa i s z=>h _ _ s (q a z)) B,St.lst,wo,λa z=>⟨q a z,(St.du a z).2⟩,g⟩;let⟨s,D,F,G,I,J,L,M⟩:=St.src;exact⟨s,D,F,G,I,h _ _ J (λz=>(g l z).1 rfl),h _ _ L (λz=>(g d z).2 rfl),M⟩
def pT.new{H:Hp}{l c w x a:Addr}{U W:Y1}{b:gP}{d:c9}{f:gP}{g:c9}{i:gQ}{j:fY}{k:Nat}{m:Row}(St:pT C p q r H l c w x U W b d f g i j k m)(h:H a=none):¬ U a/\¬ W a/\a≠l/\a≠c:=by
 let n:=St.src.ne h;refine⟨λz=>?_,λz=>?_,n.1.symm,n.2.symm⟩
 ·let⟨o,e⟩:=St.Eo.al z;rw[h]at e;cases e
 ·let⟨o,e⟩:=St.wo.al z;rw[h]at e;cases e
def own(a:c9)(x:Int):Wp:=(a[x.toNat]?).getD []
def Ge{a:c9}{s:Nat}(b:Wp)(h:s<↑a):iR a s b=a.set s b:=by
 unfold iR;rw[List.set_eq_take_append_cons_drop,if_pos h,jI];rfl
theorem Ah{k:Nat}:∀ {a:Row},(∀ p∈a,p.2<=p.1+(k:Nat))->↑(bw a)<=k*↑a
 | [],_=>Nat.zero_le _
 | p::r,h=>by
  let b:=Ah (a:=r) λq b=>h q (j5 _ b);have b:=h p (sE ..);have e:bw (p::r)=gf p++bw r:=by unfold bw;rw[iY]
  rw[e,dm,eZ,Nat.mul_add,Nat.mul_one];have:↑(gf p)<=k:=by unfold gf;rw[eG];lia
  lia
def P0{n:Nat}{a:Row}(h:∀ p∈a,0<=p.1/\p.1<p.2/\p.2<=(n:Nat)){e:Int}(b:e∈bw a):0<=e/\e<(n:Nat):=by
 unfold bw at b;let⟨p,c,d⟩:=List.mem_flatMap.mp b;let f:=h p c;let m:=oG.mp d;lia
class inductive XX
 | mk (r e:Addr) (s:Nat) (a:List V) (_:vs=[↥r,.int (s:Nat),↥e]) (_:H r=⇑(.lst a)) (_:s<↑a) (_:↑a<=1000) (_:∀ (q:Addr) (b:Hp),b q=⇑(.lst (a.set s ↥e))->aI H b->H q=none->Q ↥q b)
def TZ{n:Nat}{i:Nat}(a:i<n):JN n ((i:Nat):Int)=⇑i:=by
 unfold JN;rw[if_pos ∅,Int.toNat_natCast,if_pos ∅]
theorem xB:‹(1,92,["_law_rows","_law_sheet","_law_entries"],XX)›:=λD=>by
 specialize ef ["_law_rows","_law_sheet","_law_entries","_law_found"] D.Xh.F;let⟨r,e,s,c,rfl,a,b,d,k⟩:=h;exists _,#v[aY 3 (eV gm rfl D.T.jg su #[0]),lZ (pv 2) (oq (pv 3) (pv 1) jv),aK (pv 3)]
 all_goals try dsimp only[aP,aG]
 refine⟨Y,r,Y,.inl (bM.of a),λq a=>?_⟩;refine⟨Y,Y,Y,q,P,s,V,af,TZ b,Y,k q _ af (bS a (ao a _) (aH q _ _)) a⟩
def Wo.swap{W:Y1}{H:Hp}{w rw q e:Addr}{i:fY}{j:gP}{f:c9}{m:List V}{s:Nat}{k:Wp}(b:A1 100 n W H w c rw d o i j f)(x:H rw=⇑(.lst m))(p:H q=⇑(.lst (m.set s ↥e)))(r:H e=⇑(.lst (k.map V.int)))(t:¬ W q)(u:¬ W e):A1 100 n (λa=>W a\/a=e\/a=q) H w c rw d o i j f/\M8 (λa=>W a\/a=e\/a=q) c d H q (f.set s k):=by
 let l:A1 100 n (λa=>W a\/a=e\/a=q) H w c rw d o i j f:=pT.Vo b (λa z=>.inl z) (by
  rintro a (z|z|z)
  ·exact b.al a z
  ·rw[z];exact⟨_,r⟩
  ·rw[z];exact⟨_,p⟩)
 let⟨_,_,_,g,v,al⟩:=id l.hr;rw[x]at v;cases v;let h:∀ {a v:Addr},W a->¬ W v->v≠a:=λv y z=>y (by rw[z];exact v);exists l,.inr (.inr rfl),h b.wi t,h b.wp t,_,p
 let A:∀ {g:List V} {l:c9} (s:Nat),cF (Vm (λa=>W a\/a=e\/a=q) c d H) g l->cF (Vm (λa=>W a\/a=e\/a=q) c d H) (g.set s ↥e) (l.set s k):=by
  intro g l s z
  induction z generalizing s with
  | nil=>exact .nil
  | cons B C D =>
   cases s with
   | zero=>exact .cons ⟨e,1,.inr (.inl rfl),h b.wi u,h b.wp u,r⟩ C
   | succ g=>exact .cons B (D g)
 exact A s al
theorem uZ:‹(1,93,["_law_row"],(RD 1000000))›:=λD=>by
 refine ef ["_law_row","_law_numbers","_law_start","_law_stop"] D.Xi.F λcZ A zn s H vs Q E hr _ h=>?_;let⟨r,row,rfl,⟨j,e,c⟩,l,m,p,k⟩:=h;exists _,#v[aY 1 (bO ah),eE PassesOwn.never rfl (cJ (pv 0)) (kQ (n:=2) rfl (bT (bV 2) (bT (bV 3) gi))) #v[aU (dM n9 PySem.F.slot_list_extend PySem.F.type_list_extend jU (pv 1) #[eV (rW rfl) rfl D.T.jg su #[eV ER rfl D.T.jd PyProof.Rows.boot_range #[2,3]]])],aK (pv 1)]
 all_goals try dsimp only[aP,aG]
 refine⟨gK,λq f=>?_⟩;let s0:aI H (aO H q (.lst [])):=ao f _;refine⟨Y,r,1,⟨_,bM.of (s0 _ _ e)⟩,dO (K:=K) (e:=r) (b:=j.map V.ref) (λi d a=>∃ (u v:Option V),d=[⇑↥r,⇑↥q,u,v]/\a q=⇑(.lst ((bw (row.take i)).map V.int))/\aI H a) ⟨none,none,1,af,s0⟩ (by rintro i d a _ ⟨_,_,_,_,s⟩;exact bM.of (s _ _ e)) ?_ ?_⟩
 ·rintro i x d a g ⟨u,v,rfl,b,s⟩;rw[lD]at g;let⟨n,o,rfl⟩:=Option.map_eq_some_iff.mp g;let⟨⟨e,g⟩,j,p⟩:=c.get o;let⟨o,r,t⟩:=l _ (lU j);simp only at o r t;let step:=zg j
  let j:↑(bw (row.take i))+(g-e).toNat<=1000000:=by
   let z:=rX row (i+1);rw[step,dm,gf,eG]at z;exact ig z m
  exists n,Y,dG.of (s _ _ p),1,P,1,Z;refine⟨Y,.inl ⟨1,_,bM.of b⟩,Y,Y,P,1,λp c=>⟨p,P,1,af,⟨Q,Q,Q,Q⟩,gJ (aS ∅),λm j=>?_⟩⟩;let l:aI a (aO a p (.Et e g)):=ao c _;let i:=l.trans (ao j (.lst (BI e (g-e).toNat)));exists q,m,Z,i _ _ b,af,?_
  ·rw[cC,zf,cC,eG];exact gJ (aS ∅)
  ·refine⟨P,1,?_,bS f (s.trans i) (aH q _ _)⟩;rw[af,step,gx,zf];rfl
 ·rintro d a ⟨u,v,rfl,b,s⟩;refine⟨Y,k q a ?_ s f⟩;rw[cC,c.len,gG]at b;exact b
class inductive DO(d:Nat)
 | mk (f:Y1) (r:Addr) (a:c9) (x:Int) (b:Y2) (c:Int->Nat) (_:vs=[↥r,.int x]) (_:gX f H r a) (_:↑a<=1000) (_:gD a) (_:0<=x) (_:x<↑a) (_:mJ a b) (_:(∀ x:Int,0<=x->x<↑a->↑(b x)<=10000)) (_:(∀ x y,jP a x y->c y<c x)) (_:c x<d) (_ :
 ∀ (o:Addr) (e:Hp),e o=⇑(.lst ((b x).map V.int))->aI H e->H o=none->Q ↥o e)
def A2(D:Ds K mg v y ae CS CW CB CT CD){n:Nat}(J:bg P w K mg zt cO (n+1) (v 94) (y 94) ["_law_rows","_law_sheet"] (DO n)):bg P w K mg zt cO (n+2) (v 94) (y 94) ["_law_rows","_law_sheet"] (DO (n+1)):=by
 refine ef ["_law_rows","_law_sheet","_law_numbers","_law_entry"] D.Dg.F λS W zn s H vs Q E o _ L=>?_;let⟨M,r,k,x,a,N,rfl,R,O,A,l,S,B,C,F,W,T⟩:=L;obtain⟨b,m⟩:∃ b,k[x.toNat]?=⇑b:=⟨_,nj ∅⟩;let⟨L,g,U,W,p,ag⟩:=R.get m
 let X:oz L x=⇑↥g:=by
  let z:=cT W;rw[show ((x.toNat:Nat):Int)=x by lia]at z;exact z
 let G:=B x b l m
 let ab:∀ i,↑(aW a (b.take i))<=10000:=λi=>by
  let z:=C x l S
  let e:aW a b=aW a (b.take i)++aW a (b.drop i):=by
   unfold aW;rw[← List.flatMap_append,List.take_append_drop]
  rw[G,e,dm]at z;lia
 exists _,#v[aY 2 (bO ah),eE PassesOwn.never rfl (cJ (aQ bJ (pv 0) (pv 1))) (bV 3) #v[bR (aV jt (pv 3) az (bz _)) #v[aU (dM n9 PySem.F.slot_list_extend PySem.F.type_list_extend jU (pv 2) #[aC D.Dg J o #[0,bI cV (gZ fD az) (pv 3)]])] #v[aU (dM n9 jm jo bU (pv 2) #[3])]],aK (pv 2)]
 all_goals try dsimp only[aP,aG]
 refine⟨gK,λq h=>?_⟩;let o:aI H (aO H q (.lst [])):=ao h _;refine⟨Y,Y,r,K,V,bM.of (o _ _ U),X,g,1,⟨_,bM.of (o _ _ p)⟩,dO (K:=K) (e:=g) (b:=b.map V.int) (λi j f=>∃ u:Option V,j=[⇑↥r,⇑(.int x),⇑↥q,u]/\f q=⇑(.lst ((aW a (b.take i)).map V.int))/\aI H f) ⟨none,1,af,o⟩ (by rintro i j f _ ⟨_,_,_,c⟩;exact bM.of (c _ _ p)) ?_ ?_⟩
 ·rintro i e j f t ⟨u,rfl,d,c⟩;rw[lD]at t;let⟨e,I,rfl⟩:=Option.map_eq_some_iff.mp t
  let g:aW a (b.take (i+1))=aW a (b.take i)++bu a e:=by
   rw[take_snoc I];unfold aW;rw[List.flatMap_append];simp
  let o:=ab (i+1);rw[g,dm]at o;refine⟨Y,Z,Y,dD (λi=>?_) (λi=>?_)⟩
  ·let p:e<0:=of_decide_eq_true i;let t:bu a e=a (-1-e):=by unfold bu;rw[if_pos p]
   rw[t]at g o;let z:jP k x (-1-e):=⟨l,b,m,cK.mpr ⟨Q,by rw[show -1-(-1-e)=e by lia];exact lU I⟩⟩;let⟨b,l⟩:=A.Em z;let m:=F _ _ z;refine⟨Y,.inl ⟨1,_,bM.of d⟩,Y,Y,Y,Z,M,r,k,-1-e,a,N,1,R.same c,O,A,b,l,B,C,F,Q,λk m l b r=>?_⟩;refine⟨q,k,Z,b _ _ d,l,gJ (aS (by rw[cC,cC];lia)),?_⟩;refine⟨Y,?_,bS h (c.trans b) (aH q _ _)⟩;rw[af,g,gx]
  ·let p:¬ e<0:=λz=>i (decide_eq_true z);have t:bu a e=[e]:=by unfold bu;rw[if_neg p]
   rw[t]at g o;refine⟨Y,.inl ⟨1,_,bM.of d⟩,Y,q,Z,d,(by rw[cC];exact aS ∅),?_⟩;refine⟨Y,?_,bS h c (aH q _ _)⟩;rw[af,g,gx];rfl
 ·rintro j f ⟨u,rfl,d,c⟩;rw[cC,gG,← G]at d;exact⟨Y,T q f d c h⟩
theorem gI(D:Ds K mg c d C e f g i j):∀ n:Nat,bg P w K mg zt cO (n+1) (c 94) (d 94) ["_law_rows","_law_sheet"] (DO n)
 | 0=>by
  let b:∀ a H Q E,¬ DO 0 a H Q E:=λa H Q E h=>by
   let⟨_,_,_,_,_,_,_,_,_,_,_,_,_,_,_,h,_⟩:=h;exact Nat.not_lt_zero _ h
  exact⟨λa H Q E h=>absurd h (b a H Q E),λA k s H args l a Q E _ _ _ _ h=>absurd h (b a H Q E)⟩
 | n+1=>A2 D (gI D n)
def M9(a:c9):Nat->Int->List Int
 | 0,_=>[]
 | k+1,x=>match a[x.toNat]? with
  | some es=>aW (M9 a k) es
  | none=>[]
def qB{f g:Y2}{a:Wp}(h:∀ y∈d7 a,f y=g y):aW f a=aW g a:=by
 unfold aW;rw[List.flatMap_def,List.flatMap_def];congr 1;refine List.map_congr_left λe b=>?_;unfold bu;by_cases c:e<0
 ·rw[if_pos c,if_pos c,h (-1-e) (cK.mpr ⟨Q,by rw[show -1-(-1-e)=e by lia];exact b⟩)]
 ·rw[if_neg c,if_neg c]
def Ai{a:c9}(h:C3 a):∃ f,mJ a f:=by
 let⟨b,g,i⟩:=h
 let j:∀ (k:Nat) (x:Int),0<=x->b x<k->M9 a k x=M9 a (k+1) x:=by
  intro k
  induction k with
  | zero=>intro x _ h;lia
  | succ k l =>
   intro x c b
   cases e:a[x.toNat]? with
   | none=>simp[M9,e]
   | some b =>
    let d:M9 a (k+1) x=aW (M9 a k) b:=by simp[M9,e]
    let m:M9 a (k+1+1) x=aW (M9 a (k+1)) b:=by
     show (match a[x.toNat]? with|some b=>aW (M9 a (k+1)) b|none=>[])=_;rw[e]
    rw[d,m];refine qB λy d=>l y (cK.mp d).1 ?_;have:=i x y ⟨c,b,e,d⟩;lia
 refine⟨M9 a 41,λx b c d=>?_⟩;rw[j 41 x c (by have:=g x;lia)];show (match a[x.toNat]? with|some b=>aW (M9 a 41) b|none=>[])=_;rw[d]
def Aj(n:Nat)(L:Wp):Nat:=cnt n λi=>decide ((i:Int)∉L)
def MB{n:Nat}{L:Wp}{y:Int}(d:0<=y)(e:y<n)(a:y∉L):Aj n (L++[y])+1=Aj n L:=by
 refine uE y.toNat n ∅ ?_ λi=>?_
 ·show decide (((y.toNat:Nat):Int)∉L)=true;rw[show ((y.toNat:Nat):Int)=y by lia];exact decide_eq_true a
 ·show decide ((i:Int)∉L++[y])=(decide ((i:Int)∉L)&&decide (i≠y.toNat));rw[← Bool.decide_and];congr 1;rw[List.mem_append,List.mem_singleton];apply propext;constructor
  ·intro h;exact⟨λq=>h (.inl q),λq=>h (.inr ∅)⟩
  ·rintro⟨b,c⟩ (q|q)
   ·exact b q
   ·exact c ∅
def DP(a b:Wp):d7 (a++b)=d7 a++d7 b:=by unfold d7;rw[List.filterMap_append]
structure mo(rows:c9)(H:Hp)(Rr Wt:Addr)(s:Int)(sD:Int->Prop)(H2:Hp)(L ws:Wp):Prop where
 hR:H2 Rr=⇑(.lst (L.map V.int))
 hW:H2 Wt=⇑(.lst (ws.map V.int))
 sm:aI H H2
 rc:∀ x∈L,Reach (jP rows) s x
 wr:∀ x∈ws,(x=s\/x∈L)/\0<=x/\x<↑rows
 kl:↑L+Aj ↑rows L<=↑rows
 cl:∀ x,(x=s\/x∈L)->x∈ws\/sD x\/∀ y,jP rows x y->y∈L
class inductive MC
 | mk (c:Y1) (r:Addr) (a:c9) (s:Int) (_:vs=[↥r,.int s]) (_:gX c H r a) (_:↑a<=1000) (_:(∀ d∈a,↑d<=100000)) (_:gD a) (_:0<=s) (_:s<↑a) (_ :
 ∀ (L:Wp) (o:Addr) (b:Hp),b o=⇑(.lst (L.map V.int))->aI H b->(∀ x,x∈L↔Reach (jP a) s x)->Q ↥o b)
def g0(n:Nat)(L a:Wp):Nat:=2*Aj n L+↑a
def Vp(a:c9)(H:Hp)(r c d:Addr)(s:Int)(m:Nat)(e:_L2.St)(f:Hp):Prop:=∃ (L b:Wp) (u v:Option V),e=[⇑↥r,⇑(.int s),⇑↥c,⇑↥d,u,v]/\mo a H c d s (λ_=>False) f L b/\↑b+2*Aj ↑a L<=2*↑a+1/\m=g0 ↑a L b
theorem Ak:‹(1,95,["_law_rows","_law_sheet"],MC)›:=λD=>by
 specialize ef ["_law_rows","_law_sheet","_law_reached_here","_law_waiting","_law_here","_law_entry"] D.lz.F;let⟨av,r,e,s,rfl,ae,dR,U,o7,h0,h1,W⟩:=h;let hu:=gH hr;exists _,#v[aY 2 (bO ah),aY 3 (bO #[1]),nH PassesOwn.never (aV yr (eY D.T.eL (pv 3)) az (bz _)) #v[aY 4 (ND n9 PySem.F.slot_list_pop PySem.F.type_list_pop NI (pv 3)),eE PassesOwn.never rfl (cJ (aQ bJ (pv 0) (pv 4))) (bV 5) #v[bR (PW.pt (pX (aV jt (pv 5) az (bz _)) (mX (aV tX (bI cV (gZ fD az) (pv 5)) (pv 2) rfl)))) #v[aU (dM n9 jm jo bU (pv 2) #[bI cV (gZ fD az) (pv 5)]),aU (dM n9 jm jo bU (pv 3) #[bI cV (gZ fD az) (pv 5)])] bq]],aK (pv 2)]
 all_goals try dsimp only[aP,aG]
 refine⟨gK,λf O=>?_⟩;refine⟨Y,mF,λd o=>?_⟩;let R:aI H (aO H f (.lst [])):=ao O _;let X:=R.trans (ao o (.lst [.int s]))
 let S:H d=none:=by
  cases b:H d with
  | none=>rfl
  | some a=>exact absurd ((R _ _ b).symm.trans o) (by simp)
 let A:f≠d:=aA af o;exists Vp e H r f d s,⟨_,[],[s],none,none,1,⟨ao o _ _ _ af,af,X,?_,?_,?_,?_⟩,?_,1⟩
 ·intro x b;cases b
 ·intro x b;have:x=s:=by simpa using b
  exact⟨.inl this,Q,Q⟩
 ·have:=zz ↑e (λi=>decide ((i:Int)∉([]:Wp)));show 0+cnt ↑e _<=_;lia
 ·rintro x (rfl|b)
  ·exact .inl (by simp)
  ·cases b
 ·have:=zz ↑e (λi=>decide ((i:Int)∉([]:Wp)));show 1+2*cnt ↑e _<=_;lia
 rintro ag m T ⟨L,ws,ai,v,rfl,B,C,rfl⟩;exists Y,d,Y,.inl (bM.of B.hW),Z,Y;rcases kO ws with rfl|⟨k,h,rfl⟩
 ·refine eT ⟨Y,W L f T B.hR B.sm λx=>⟨λb=>B.rc x b,λb=>?_⟩⟩
  let zt:∀ x,(x=s\/x∈L)->∀ y,jP e x y->y∈L:=λx b=>by
   rcases B.cl x b with z|z|z
   ·cases z
   ·exact z.elim
   ·exact z
  exact Reach.closed (a:=λy=>y∈L) (zt s (.inl rfl)) (λx y b=>zt x (.inr b) y) b
 rw[jH]at B C ⊢;refine dD (λ_=>?_) (λz=>absurd (decide_eq_true (by simp)) z);let⟨ag,o,ai,ak,R,am,an⟩:=id B;let⟨F,e0,W⟩:=R h (by simp);obtain⟨j,p⟩:∃ j,e[h.toNat]?=⇑j:=⟨_,nj ∅⟩;let W:=U j (lU p);refine⟨fun U W=>∃ X,X<g0 ↑e L (k++[h])/\Vp e H r f d s X U W,fun U W z=>z,?_⟩;refine⟨Y,.inl ⟨1,_,bM.of o⟩,d,_,.int h,V,o,(by simp),?_⟩;let o:((k++[h]).map V.int).dropLast=k.map V.int:=by simp
 rw[o];let o:aI H (aO T d (.lst (k.map V.int))):=bS S ai (aH d _ _);let⟨X,T,U,W,ab,ai⟩:=ae.get p;let X:=o _ _ ab;refine⟨Y,Y,r,K,V,bM.of (o _ _ U),?_,T,1,⟨_,bM.of X⟩,dO (K:=K) (e:=T) (b:=j.map V.int) (λi m n=>∃ (_L2 g:Wp) (v:Option V),m=[⇑↥r,⇑(.int s),⇑↥f,⇑↥d,⇑(.int h),v]/\ mo e H f d s (λx=>x=h) n _L2 g/\(∀ y∈d7 (j.take i),y∈_L2)/\(∀ y∈L,y∈_L2)/\g.length+2*Aj ↑e _L2<=k.length+2*Aj ↑e L) ?_ ?_ ?_ ?_⟩
 ·let z:=cT W;rw[show ((h.toNat:Nat):Int)=h by lia]at z;exact z
 ·refine⟨L,k,Y,⟨(by rw[aL A];exact ag),af,o,ak,λx b=>R x (oh _ b),am,λx b=>?_⟩,(λy c=>by simp[d7]at c),λ_ q=>q,fk _⟩;rcases an x b with z|z|z
  ·rcases List.mem_append.mp z with q|q
   ·exact .inl q
   ·exact .inr (.inl (by simpa using q))
  ·exact z.elim
  ·exact .inr (.inr z)
 ·rintro i m n _ ⟨_,_,_,_,a,_⟩;exact bM.of (a.sm _ _ ab)
 ·rintro i x m n hi ⟨_L2,g,v,rfl,a,l,t,G⟩;rw[lD]at hi;let⟨x,ex,rfl⟩:=Option.map_eq_some_iff.mp hi;let step:d7 (j.take (i+1))=d7 (j.take i)++d7 [x]:=by rw[take_snoc ex,DP]
  refine⟨Y,Z,Y,dD (λI=>?_) (λI=>eT ?_)⟩
  ·let J:x<0:=of_decide_eq_true I;let u:d7 [x]=[-1-x]:=by simp[d7,J]
   let M:jP e h (-1-x):=⟨e0,j,p,by
    rw[cK]
    exact⟨Q,by rw[show -1-(-1-x)=x by lia];exact lU ex⟩⟩
   let⟨y0,y1⟩:=o7.Em M;exists Y,Y,Z,Y,f,Y,.inl (bM.of a.hR),1,nQ _L2,Y;rw[uF];by_cases w:-1-x∈_L2
   ·rw[decide_eq_true w];refine eT ?_;refine⟨_L2,g,Y,a,(λy c=>?_),t,G⟩;rw[step,u]at c;rcases List.mem_append.mp c with q|q
    ·exact l y q
    ·have:y=-1-x:=by simpa using q
     rw[this];exact w
   ·rw[decide_eq_false w];refine iz ?_;let e:=a.kl;let e:=MB y0 y1 w;refine⟨Y,.inl ⟨1,_,bM.of a.hR⟩,Y,Y,Z,f,Z,a.hR,(by rw[cC];exact aS ∅),?_⟩;let e:(aO n f (.lst (_L2.map V.int++[.int (-1-x)]))) d=⇑(.lst (g.map V.int)):=by rw[aL A.symm];exact a.hW
    refine⟨Y,.inl ⟨1,_,bM.of e⟩,Y,Y,Z,d,Z,e,(by rw[cC];rw[dm,gW]at C;exact aS ∅),?_⟩;refine⟨_L2++[-1-x],g++[-1-x],Y,⟨?_,?_,bS S (bS O a.sm (aH f _ _)) (aH d _ _),?_,?_,?_,?_⟩,?_,λy q=>oh _ (t y q),?_⟩
    ·rw[aL A,af,gx];rfl
    ·rw[af,gx];rfl
    ·intro y c;rcases List.mem_append.mp c with q|q
     ·exact a.rc y q
     ·have:y=-1-x:=by simpa using q
      subst this;rcases F with rfl|F
      ·exact .one M
      ·exact .step (B.rc h F) M
    ·intro y c;rcases List.mem_append.mp c with q|q
     ·let⟨b,d⟩:=a.wr y q;exact⟨b.imp id (oh _),d⟩
     ·have:y=-1-x:=by simpa using q
      subst this;exact⟨.inr (by simp),y0,y1⟩
    ·rw[dm,gW];lia
    ·intro y c;by_cases b:y=-1-x
     ·exact .inl (by rw[b];simp)
     ·let N:y=s\/y∈_L2:=c.imp id λq=>by
       rcases List.mem_append.mp q with z|z
       ·exact z
       ·exact absurd (by simpa using z) b
      rcases a.cl y N with q|q|q
      ·exact .inl (oh _ q)
      ·exact .inr (.inl q)
      ·exact .inr (.inr λz b=>oh _ (q z b))
    ·intro y c;rw[step,u]at c;rcases List.mem_append.mp c with q|q
     ·exact oh _ (l y q)
     ·exact nG _ q
    ·rw[dm,gW];lia
  ·let J:¬ x<0:=λz=>I (decide_eq_true z);have u:d7 [x]=[]:=by simp[d7,J]
   exact⟨_L2,g,Y,a,(by rw[step,u,gR];exact l),t,G⟩
 ·rintro m n ⟨_L2,g,v,rfl,a,l,t,G⟩;rw[cC,gG]at l;refine⟨_,?_,_L2,g,P,1,⟨a.hR,a.hW,a.sm,a.rc,a.wr,a.kl,λx b=>?_⟩,?_,1⟩
  ·unfold g0;rw[dm,gW];lia
  ·rcases a.cl x b with q|rfl|q
   ·exact .inl q
   ·refine .inr (.inr λy c=>l y ?_);let⟨_,a,i,N⟩:=c;rw[p]at i;cases i;exact N
   ·exact .inr (.inr q)
  ·rw[dm,gW]at C;lia
theorem oR(a:Y2)(b:Wp)(i:Nat):↑(aW a (b.take i))<=↑(aW a b):=iP (bu a) b i
class inductive wA(d:Nat)
 | mk (g:Y1) (r:Addr) (a:c9) (e:Int) (b:Y2) (c:Int->Nat) (_:vs=[↥r,.int e]) (_:gX g H r a) (_:↑a<=1000) (_:gD a) (_:mJ a b) (_:(∀ x:Int,0<=x->x<↑a->↑(b x)<=10000)) (_:(∀ x y,jP a x y->c y<c x)) (_:(e<0->-1-e<↑a/\c (-1-e)<d)) (_ :
 ∀ (o:Addr) (f:Hp),f o=⇑(.lst ((bu b e).map V.int))->aI H f->H o=none->Q ↥o f)
def sf(D:Ds K mg aZ bf C CS CW CB CT CD){d:Nat}:bg P w K mg zt cO (d+2) (aZ 96) (bf 96) ["_law_rows","_law_entry"] (wA d):=by
 specialize ef ["_law_rows","_law_entry"] D.Xj.F;let⟨b,r,f,e,g,i,rfl,R,j,l,m,n,o,p,k⟩:=h;exists _,#v[bR (aV jt (pv 1) az (bz _)) #v[aK (aC D.Dg (gI D d) hr #[0,bI cV (gZ fD az) (pv 1)])] bq,aK (bO #[1])]
 all_goals try dsimp only[aP,aG]
 refine⟨Y,Z,Y,dD (λc=>?_) (λc=>?_)⟩
 ·let a:e<0:=of_decide_eq_true c;let⟨q,s⟩:=p a;refine⟨Y,Y,Y,Z,b,r,f,-1-e,g,i,1,R,j,l,Q,q,m,n,o,s,λo f h s0 b=>k o f ?_ s0 b⟩;unfold bu;rw[if_pos a];exact h
 ·let a:¬ e<0:=λz=>c (decide_eq_true z);refine⟨Y,mF,λo b=>k o _ ?_ (ao b _) b⟩;unfold bu;rw[if_neg a,af];rfl
theorem DQ(a:Y2)(p:Int):∀ (b:Wp) (f:Int),↑(aE a p f b)<=↑b+↑(aW a b)
 | [],_=>by simp[aE]
 | e::r,f=>by
  rw[aE,ck,dm,dm,eZ];let c:=DQ a p r (f+↑(bu a e))
  let c:↑(if f+↑(bu a e)<=p then [e] else if p<=f then [] else (bu a e).take (p-f).toNat)<=1+↑(bu a e):=by
   split
   ·simp
   ·split
    ·simp
    ·rw[gw];lia
  lia
theorem DR(a:Y2)(p:Int):∀ (b:Wp) (f:Int),↑(bE a p f b)<=↑b+↑(aW a b)
 | [],_=>by simp[bE]
 | e::r,f=>by
  rw[bE,ck,dm,dm,eZ];let c:=DR a p r (f+↑(bu a e))
  let c:↑(if f+↑(bu a e)<=p then [] else if p<=f then [e] else (bu a e).drop (p-f).toNat)<=1+↑(bu a e):=by
   split
   ·simp
   ·split
    ·simp
    ·rw[pV];lia
  lia
class inductive II(d:Nat)
 | mk (h:Y1) (r n:Addr) (a:c9) (s p:Int) (c:Wp) (e:Y2) (f:Int->Nat) (_:vs=[↥r,.int s,.int p,↥n]) (_:gX h H r a) (_:↑a<=1000) (_:(∀ b∈a,↑b<=25000)) (_:gD a) (_:mJ a e) (_:(∀ x:Int,0<=x->x<↑a->↑(e x)<=10000)) (_:(∀ x y,jP a x y->f y<f x)) (_:0<=s) (_:s<↑a) (_:f s<=d) (_:H n=⇑(.lst (c.map V.int))) (_:↑c<=25000) (_ :
 ∀ (b:Wp) (o:Addr) (g:Hp),a[s.toNat]?=⇑b->g o=⇑(.lst ((fX e p b c).map V.int))->↑(fX e p b c)<=100000->aI H g->H o=none->Q ↥o g)
def IJ(D:Ds K mg aZ bf C CS CW CB CT CD){u:Nat}:bg P w K mg zt cO (u+3) (aZ 97) (bf 97) ["_law_rows","_law_sheet","_law_place","_law_new"] (II u):=by
 let T:bg P w K mg zt cO (u+2) _ _ zl9 (wA u):=sf D;specialize ef ["_law_rows","_law_sheet","_law_place","_law_new","_law_ahead","_law_behind","_law_first","_law_entry","_law_pieces_here","_law_last"] D.OS.F;let⟨av,v,N,O,s,p,x,a,rk,rfl,ab,dR,W,o7,wO,En,xK,R,h1,hd,hn,nl,ae⟩:=h;obtain⟨b,j⟩:∃ b,O[s.toNat]?=⇑b:=⟨_,nj ∅⟩;let ag:=W b (lU j);let W:=wO s b R j;let ag:=En s R h1;rw[W]at ag;let⟨W,y,xu,Dp,S,ag⟩:=ab.get j
 let uL:oz W s=⇑↥y:=by
  let z:=cT Dp;rw[show ((s.toNat:Nat):Int)=s by lia]at z;exact z
 exists _,#v[bR (aV eK (eY D.T.eL (pv 3)) az (bz _)) #v[aK (eV gm rfl D.T.jg su #[aQ bJ (pv 0) (pv 1)])] bq,aY 4 (bO ah),aY 5 (bO ah),aY 6 az,eE PassesOwn.never rfl (cJ (aQ bJ (pv 0) (pv 1))) (bV 7) #v[aY 8 (aC D.Xj T hr #[0,7]),aY 9 (bI dP (pv 6) (eY D.T.eL (pv 8))),bR (aV gj (pv 9) (pv 2) (bz _)) #v[aU (dM n9 jm jo bU (pv 4) #[7])] #v[bR (aV gj (pv 2) (pv 6) (bz _)) #v[aU (dM n9 jm jo bU (pv 5) #[7])] #v[aU (dM n9 PySem.F.slot_list_extend PySem.F.type_list_extend jU (pv 4) #[i6 lE (pv 8) mY (jb (bI cV (pv 2) (pv 6)))]),aU (dM n9 PySem.F.slot_list_extend PySem.F.type_list_extend jU (pv 5) #[i6 lE (pv 8) (jb (bI cV (pv 2) (pv 6))) mY])]],aY 6 (pv 9)],aK (bI iV (bI iV (pv 4) (pv 3)) (pv 5))]
 all_goals try dsimp only[aP,aG]
 refine⟨Y,N,Y,.inl (bM.of hn),1,Y,dD (λT=>?_) (λT=>?_)⟩
 ·let n:x=[]:=by
   let z:V.int (↑(x.map V.int):Int)=V.int 0:=of_decide_eq_true T;let c:=V.int.inj z;rw[cC]at c;exact List.eq_nil_of_length_eq_zero ∅
  refine⟨Y,Y,v,K,V,bM.of xu,uL,y,Y,.inl (bM.of S),λo F=>ae b o _ j ?_ ?_ (ao F _) F⟩
  ·rw[af];unfold fX;rw[if_pos n]
  ·unfold fX;rw[if_pos n];lia
 let n:¬ x=[]:=λz=>T (by rw[z];rfl);refine⟨gK,λA U=>⟨gK,λB T=>?_⟩⟩;have sA:aI H (aO H A (.lst [])):=ao U _;have sB:aI _ (aO (aO H A (.lst [])) B (.lst [])):=ao T _;have W:=sA.trans sB;have G:A≠B:=aA af T;have MZ:=aT sA T;refine⟨Y,Y,v,K,V,bM.of (W _ _ xu),uL,y,1,⟨_,bM.of (W _ _ S)⟩,dO (K:=K) (e:=y) (b:=b.map V.int) (λi I d=>∃ X u2 u3:Option V,I=[⇑↥v,⇑(.int s),⇑(.int p),⇑↥N,⇑↥A,⇑↥B,⇑(.int (0+(↑(aW a (b.take i)):Int))),X,u2,u3]/\d A=⇑(.lst ((aE a p 0 (b.take i)).map V.int))/\d B=⇑(.lst ((bE a p 0 (b.take i)).map V.int))/\aI H d) ⟨none,none,none,1,sB _ _ af,af,W⟩ (by rintro i I d _ ⟨_,_,_,_,_,_,c⟩;exact bM.of (c _ _ S)) ?_ ?_⟩
 ·rintro i ai I d hi ⟨X,u2,u3,rfl,q,J,c⟩;rw[lD]at hi;let⟨e,ex,rfl⟩:=Option.map_eq_some_iff.mp hi;let y:=take_snoc ex
  let f:aE a p 0 (b.take (i+1))=aE a p 0 (b.take i)++(if 0+(↑(aW a (b.take i)):Int)+↑(bu a e)<=p then [e] else if p<=0+(↑(aW a (b.take i)):Int) then [] else (bu a e).take (p-(0+(↑(aW a (b.take i)):Int))).toNat):=by
   rw[y,vX,aE,aE,gR]
  let g:bE a p 0 (b.take (i+1))=bE a p 0 (b.take i)++(if 0+(↑(aW a (b.take i)):Int)+↑(bu a e)<=p then [] else if p<=0+(↑(aW a (b.take i)):Int) then [e] else (bu a e).drop (p-(0+(↑(aW a (b.take i)):Int))).toNat):=by
   rw[y,vY,bE,bE,gR]
  let eF:(0+(↑(aW a (b.take (i+1))):Int))=0+(↑(aW a (b.take i)):Int)+↑(bu a e):=by
   rw[y,jE,ck,dm,dm];simp[aW]
  let lA:=DQ a p (b.take (i+1)) 0;let lB:=DR a p (b.take (i+1)) 0;let y:=DQ a p (b.take i) 0;let y:=DR a p (b.take i) 0;let y:=oR a b (i+1);let y:=oR a b i;let y:↑(b.take (i+1))<=↑b:=by rw[gw];lia
  let y:↑(b.take i)<=↑b:=by rw[gw];lia
  refine⟨Y,Y,av,v,O,e,a,rk,1,ab.same c,dR,o7,wO,En,xK,λv=>?_,λo L h3 r F=>?_⟩
  ·let k:jP O s (-1-e):=⟨R,b,j,cK.mpr ⟨Q,by rw[show -1-(-1-e)=e by lia];exact lU ex⟩⟩;have:=xK _ _ k;exact⟨(o7.Em k).2,Q⟩
  let k:=r _ _ q;let M:=r _ _ J;exists Y,Y,o,Y,.inl (bM.of h3),Z;rw[cC];refine⟨Y,Y,Z,Y,dD (λl=>?_) (λl=>?_)⟩
  ·let Vq:0+(↑(aW a (b.take i)):Int)+(↑(bu a e):Int)<=p:=of_decide_eq_true l;rw[if_pos Vq]at f g;refine⟨Y,.inl ⟨1,_,bM.of k⟩,Y,A,Z,k,aS (by rw[cC];lia),?_⟩;refine⟨Y,⇑(.int e),⇑↥o,⇑(.int (0+(↑(aW a (b.take i)):Int)+(↑(bu a e):Int))),?_,?_,?_,bS U (c.trans r) (aH A _ _)⟩
   ·rw[eF];rfl
   ·rw[af,f,gx];rfl
   ·rw[aL G.symm,g,gR];exact M
  ·let Vq:¬ 0+(↑(aW a (b.take i)):Int)+(↑(bu a e):Int)<=p:=λz=>l (decide_eq_true z);rw[if_neg Vq]at f g;refine⟨Y,Y,Z,Y,dD (λt=>?_) (λt=>?_)⟩
   ·let Mj:p<=0+(↑(aW a (b.take i)):Int):=of_decide_eq_true t;rw[if_pos Mj]at f g;refine⟨Y,.inl ⟨1,_,bM.of M⟩,Y,B,Z,M,aS (by rw[cC];lia),?_⟩;refine⟨Y,⇑(.int e),⇑↥o,⇑(.int (0+(↑(aW a (b.take i)):Int)+(↑(bu a e):Int))),?_,?_,?_,bS MZ (c.trans r) (aH B _ _)⟩
    ·rw[eF];rfl
    ·rw[aL G,f,gR];exact k
    ·rw[af,g,gx];rfl
   ·let Mj:¬ p<=0+(↑(aW a (b.take i)):Int):=λz=>t (decide_eq_true z);rw[if_neg Mj]at f g;rw[f,dm]at lA;rw[g,dm]at lB;refine⟨Y,.inl ⟨1,_,bM.of k⟩,Y,Y,Y,Z,Y,o,Y,bM.of h3,λv y=>?_⟩;have m:aI L (aO L v (.lst (j7 ((bu a e).map V.int) none (⇑(p-(0+(↑(aW a (b.take i)):Int))))))):=ao y _;have e1:j7 ((bu a e).map V.int) none (⇑(p-(0+(↑(aW a (b.take i)):Int))))=((bu a e).take (p-(0+(↑(aW a (b.take i)):Int))).toNat).map V.int:=by rw[tL _ ∅,List.map_take]
    refine⟨A,v,Z,m _ _ k,af,gJ (aS (by rw[e1,cC,cC];lia)),?_⟩;let k4:cy A L (aO (aO L v (.lst (j7 ((bu a e).map V.int) none (⇑(p-(0+(↑(aW a (b.take i)):Int))))))) A (.lst ((aE a p 0 (b.take i)).map V.int++j7 ((bu a e).map V.int) none (⇑(p-(0+(↑(aW a (b.take i)):Int))))))):=cy.trans (aI.keep m) (aH A _ _);let z:o≠A:=(aA q F).symm;let F:v≠A:=(aA k y).symm;let k:=k4 _ _ M G.symm;refine⟨Y,.inl ⟨1,_,bM.of k⟩,Y,Y,Y,Z,Y,o,Y,bM.of (k4 _ _ h3 z),λv fm=>?_⟩;let e2:j7 ((bu a e).map V.int) (⇑(p-(0+(↑(aW a (b.take i)):Int)))) none=((bu a e).drop (p-(0+(↑(aW a (b.take i)):Int))).toNat).map V.int:=by rw[v8 _ ∅,List.map_drop]
    refine⟨B,v,Z,ao fm _ _ _ k,af,gJ (aS (by rw[e2,cC,cC];lia)),?_⟩;exists Y,⇑(.int e),⇑↥o,⇑(.int (0+(↑(aW a (b.take i)):Int)+(↑(bu a e):Int))),?_,?_,?_
    ·rw[eF];rfl
    ·rw[aL G,ao fm _ _ _ af,f,gx,e1]
    ·rw[af,g,gx,e2]
    ·exact bS MZ ((bS U (c.trans r) k4).trans (ao fm _)) (aH B _ _)
 ·rintro I d ⟨X,u2,u3,rfl,q,J,c⟩;rw[cC,gG]at q J;let lA:=DQ a p b 0;let lB:=DR a p b 0;refine⟨Y,Y,A,N,Z,q,c _ _ hn,gJ (aS (by rw[cC,cC];lia)),λl e=>?_⟩;let m:aI d (aO d l (.lst ((aE a p 0 b).map V.int++x.map V.int))):=ao e _;refine⟨Y,l,B,Z,af,m _ _ J,gJ (aS (by rw[dm,cC,cC,cC];lia)),λt a=>?_⟩;refine ae b t _ j ?_ ?_ (c.trans (m.trans (ao a _))) (aT (c.trans m) a)
  ·rw[af];unfold fX;rw[if_neg n,gx,gx]
  ·unfold fX;rw[if_neg n,dm,dm];lia
def QT(c:Y2)(a b f e:Int):Wp:=if a=b then [e] else Kr c a b f e
def QU(c:Y2)(a b f e:Int):Wp:=if a=b then [] else M4 c a b f e
def Gf(a:Y2)(b c:Int)(d:Wp)(e:Int):bW a b c (d++[e])=bW a b c d++QT a b c (0+(↑(aW a d):Int)) e:=by
 unfold bW QT;split
 ·rfl
 ·rw[vZ,kE,kE,gR]
def Gg(a:Y2)(b c:Int)(d:Wp)(e:Int):iH a b c (d++[e])=iH a b c d++QU a b c (0+(↑(aW a d):Int)) e:=by
 unfold iH QU;split
 ·rfl
 ·rw[v7,tE,tE,gR]
def T5(a:Y2)(b c f e:Int):↑(QT a b c f e)<=1+2*↑(bu a e):=by
 unfold QT Kr;split
 ·simp
 ·split
  ·simp
  ·split
   ·simp
   ·rw[dm,gw,pV];lia
def T6(a:Y2)(b c f e:Int):↑(QU a b c f e)<=1+2*↑(bu a e):=by
 unfold QU M4;split
 ·simp
 ·split
  ·simp
  ·split
   ·simp
   ·rw[pV,gw];lia
theorem P4(a:Y2)(b c:Int):∀ (d:Wp) (f:Int),↑(kE a b c f d)<=↑d+2*↑(aW a d)
 | [],_=>by simp[kE]
 | e::r,f=>by
  rw[kE,ck,dm,dm,eZ];let x:=P4 a b c r (f+↑(bu a e))
  let y:↑(Kr a b c f e)<=1+2*↑(bu a e):=by
   unfold Kr;split
   ·simp
   ·split
    ·simp
    ·rw[dm,gw,pV];lia
  lia
theorem P5(a:Y2)(b c:Int):∀ (d:Wp) (f:Int),↑(tE a b c f d)<=↑d+2*↑(aW a d)
 | [],_=>by simp[tE]
 | e::r,f=>by
  rw[tE,ck,dm,dm,eZ];let x:=P5 a b c r (f+↑(bu a e))
  let y:↑(M4 a b c f e)<=1+2*↑(bu a e):=by
   unfold M4;split
   ·simp
   ·split
    ·simp
    ·rw[pV,gw];lia
  lia
def tM(b:Y2)(c d:Int)(a:Wp):↑(bW b c d a)<=↑a+2*↑(aW b a):=by
 unfold bW;split
 ·lia
 ·exact P4 b c d a 0
def Al(b:Y2)(c d:Int)(a:Wp):↑(iH b c d a)<=↑a+2*↑(aW b a):=by
 unfold iH;split
 ·simp
 ·exact P5 b c d a 0
class inductive P6(d:Nat)
 | mk (i:Y1) (r:Addr) (c:c9) (s a b:Int) (g:Y2) (h:Int->Nat) (_:vs=[↥r,.int s,.int a,.int b]) (_:gX i H r c) (_:↑c<=1000) (_:(∀ e∈c,↑e<=1000)) (_:gD c) (_:mJ c g) (_:(∀ x:Int,0<=x->x<↑c->↑(g x)<=10000)) (_:(∀ x y,jP c x y->h y<h x)) (_:0<=s) (_:s<↑c) (_:h s<=d) (_:a<=b) (_ :
 ∀ (e:Wp) (t L M:Addr) (f:Hp),c[s.toNat]?=⇑e->f t=⇑(.tup [↥L,↥M])->f L=⇑(.lst ((bW g a b e).map V.int))->f M=⇑(.lst ((iH g a b e).map V.int))->aI H f->H L=none->H M=none->L≠M->Q ↥t f)
def IK(D:Ds K mg aZ bf C CS CW CB CT CD){M:Nat}:bg P w K mg zt cO (M+3) (aZ 98) (bf 98) ["_law_rows","_law_sheet","_law_start","_law_stop"] (P6 M):=by
 let oS:bg P w K mg zt cO (M+2) _ _ zl9 (wA M):=sf D;specialize ef ["_law_rows","_law_sheet","_law_start","_law_stop","_law_kept","_law_taken","_law_first","_law_entry","_law_pieces_here","_law_last","_law_low","_law_high"] D.Xk.F;let⟨av,r,ab,s,p,q,a,rk,rfl,an,dR,ax,o7,wO,En,xK,h0,h1,hd,aB,ay⟩:=h;obtain⟨c,m⟩:∃ c,ab[s.toNat]?=⇑c:=⟨_,nj ∅⟩;let aB:=ax c (lU m);let ax:=wO s c h0 m;let aB:=En s h0 h1;rw[ax]at aB;let⟨tF,ae,xu,Dp,ap,ax⟩:=an.get m
 let uL:oz tF s=⇑↥ae:=by
  let z:=cT Dp;rw[show ((s.toNat:Nat):Int)=s by lia]at z;exact z
 exists _,#v[aY 4 (bO ah),aY 5 (bO ah),aY 6 az,eE PassesOwn.never rfl (cJ (aQ bJ (pv 0) (pv 1))) (bV 7) #v[aY 8 (aC D.Xj oS hr #[0,7]),aY 9 (bI dP (pv 6) (eY D.T.eL (pv 8))),aY 10 (cz (lJ rfl) rfl D.T.zG PyProof.Rows.boot_max #[az,bI cV (pv 2) (pv 6)]),aY 11 (bI cV (cz (nK rfl) rfl D.T.Fp PyProof.Rows.boot_min #[9,3]) (pv 6)),bR (PW.pt (Bo (aV eK (pv 2) (pv 3) (bz _)) (Bo (aV gj (pv 9) (pv 2) (bz _)) (yo (aV gj (pv 3) (pv 6) (bz _)))))) #v[aU (dM n9 jm jo bU (pv 4) #[7])] #v[bR (PW.pt (pX (aV gj (pv 2) (pv 6) (bz _)) (mX (aV gj (pv 9) (pv 3) (bz _))))) #v[aU (dM n9 jm jo bU (pv 5) #[7])] #v[aU (dM n9 PySem.F.slot_list_extend PySem.F.type_list_extend jU (pv 4) #[bI iV (i6 lE (pv 8) mY (jb (pv 10))) (i6 lE (pv 8) (jb (pv 11)) mY)]),aU (dM n9 PySem.F.slot_list_extend PySem.F.type_list_extend jU (pv 5) #[i6 lE (pv 8) (jb (pv 10)) (jb (pv 11))])]],aY 6 (pv 9)],aK (cW #[4,5])]
 all_goals try dsimp only[aP,aG]
 refine⟨gK,λA N=>⟨gK,λB hB=>?_⟩⟩;let sA:aI H (aO H A (.lst [])):=ao N _;let sB:aI _ (aO (aO H A (.lst [])) B (.lst [])):=ao hB _;let s1:=sA.trans sB;let n:A≠B:=aA af hB;let MZ:=aT sA hB
 let z0:bW a p q []=[]/\iH a p q []=[]:=by
  unfold bW iH
  constructor <;> split <;> rfl
 refine⟨Y,Y,r,K,V,bM.of (s1 _ _ xu),uL,ae,1,⟨_,bM.of (s1 _ _ ap)⟩,dO (K:=K) (e:=ae) (b:=c.map V.int) (λi O k=>∃ t u v x y:Option V,O=[⇑↥r,⇑(.int s),⇑(.int p),⇑(.int q),⇑↥A,⇑↥B,⇑(.int (0+(↑(aW a (c.take i)):Int))),t,u,v,x,y]/\k A=⇑(.lst ((bW a p q (c.take i)).map V.int))/\k B=⇑(.lst ((iH a p q (c.take i)).map V.int))/\aI H k) ⟨none,none,none,none,none,1,(by rw[List.take_zero,z0.1];exact sB _ _ af),(by rw[List.take_zero,z0.2];exact af),s1⟩ (by rintro i O k _ ⟨_,_,_,_,_,_,_,_,j⟩;exact bM.of (j _ _ ap)) ?_ ?_⟩
 ·rintro i a0 O k hi ⟨t,u,v,x,y,rfl,F,R,j⟩;rw[lD]at hi;let⟨e,ex,rfl⟩:=Option.map_eq_some_iff.mp hi;let st:=take_snoc ex;let S:=Gf a p q (c.take i) e;let T:=Gg a p q (c.take i) e;rw[← st]at S T
  let eF:(0+(↑(aW a (c.take (i+1))):Int))=0+(↑(aW a (c.take i)):Int)+↑(bu a e):=by
   rw[st,jE,ck,dm,dm];simp[aW]
  let ae:=tM a p q (c.take i);let ae:=Al a p q (c.take i);let l1:=oR a c (i+1);let l0:=oR a c i
  let le:↑(bu a e)<=↑(aW a (c.take (i+1))):=by
   rw[st,jE,ck,dm,dm];lia
  let aN:=T5 a p q (0+(↑(aW a (c.take i)):Int)) e;let aR:=T6 a p q (0+(↑(aW a (c.take i)):Int)) e;let t0:↑(c.take i)<=↑c:=by rw[gw];lia
  generalize hf:0+(↑(aW a (c.take i)):Int)=b at *;refine⟨Y,Y,av,r,ab,e,a,rk,1,an.same j,dR,o7,wO,En,xK,λae=>?_,λo f U G ho=>?_⟩
  ·let d:jP ab s (-1-e):=⟨h0,c,m,cK.mpr ⟨Q,by rw[show -1-(-1-e)=e by lia];exact lU ex⟩⟩;have:=xK _ _ d;exact⟨(o7.Em d).2,Q⟩
  let g:=G _ _ F;let W:=G _ _ R;exists Y,Y,o,Y,.inl (bM.of U),Z;rw[cC];exists Y,Y,Z,P,1;exists Y,Y,P,1,Y,Z
  let ag:(if p-b > 0 then p-b else 0).toNat=(p-b).toNat/\0<=(if p-b > 0 then p-b else 0):=by
   split <;> lia
  let zQ:(p=q\/(b+(↑(bu a e):Int))<=p\/q<=b)->(aO f A (.lst ((bW a p q (c.take i)).map V.int++[.int e]))) A=⇑(.lst ((bW a p q (c.take (i+1))).map V.int))/\(aO f A (.lst ((bW a p q (c.take i)).map V.int++[.int e]))) B=⇑(.lst ((iH a p q (c.take (i+1))).map V.int)):=λd=>by
   let l:QT a p q b e=[e]:=by
    unfold QT Kr;rcases d with d|d
    ·rw[if_pos d]
    ·rw[if_pos d];split <;> rfl
   let I:QU a p q b e=[]:=by
    unfold QU M4;rcases d with d|d
    ·rw[if_pos d]
    ·rw[if_pos d];split <;> rfl
   rw[af,aL n.symm,S,T,l,I,gR,gx];exact⟨1,W⟩
  let ai:∀ ab:Option V,[⇑(V.ref r),⇑(.int s),⇑(.int p),⇑(.int q),⇑↥A,⇑↥B,⇑(.int (b+(↑(bu a e):Int))),⇑(.int e),⇑↥o,⇑(.int (b+(↑(bu a e):Int))),⇑(.int (if p-b > 0 then p-b else 0)),ab]=[⇑↥r,⇑(.int s),⇑(.int p),⇑(.int q),⇑↥A,⇑↥B,⇑(.int (0+(↑(aW a (c.take (i+1))):Int))),⇑(.int e),⇑↥o,⇑(.int (b+(↑(bu a e):Int))),⇑(.int (if p-b > 0 then p-b else 0)),ab]:=λab=>by rw[eF]
  let ak:∀ d:(p=q\/(b+(↑(bu a e):Int))<=p\/q<=b),∃ t u v x y:Option V,[⇑(V.ref r),⇑(.int s),⇑(.int p),⇑(.int q),⇑↥A,⇑↥B,⇑(.int (b+(↑(bu a e):Int))),⇑(.int e),⇑↥o,⇑(.int (b+(↑(bu a e):Int))),⇑(.int (if p-b > 0 then p-b else 0)),⇑(.int ((if q<(b+(↑(bu a e):Int)) then q else (b+(↑(bu a e):Int)))-b))]=[⇑↥r,⇑(.int s),⇑(.int p),⇑(.int q),⇑↥A,⇑↥B,⇑(.int (0+(↑(aW a (c.take (i+1))):Int))),t,u,v,x,y]/\(aO f A (.lst ((bW a p q (c.take i)).map V.int++[.int e]))) A=⇑(.lst ((bW a p q (c.take (i+1))).map V.int))/\(aO f A (.lst ((bW a p q (c.take i)).map V.int++[.int e]))) B=⇑(.lst ((iH a p q (c.take (i+1))).map V.int))/\aI H (aO f A (.lst ((bW a p q (c.take i)).map V.int++[.int e]))):=λd =>
   ⟨K,P,ai _,(zQ d).1,(zQ d).2,bS N (j.trans G) (aH A _ _)⟩
  let mA:↑((bW a p q (c.take i)).map V.int)<sizeLine:=aS (by rw[cC];lia);refine⟨Y,Y,1,Y,dD (λd=>iz ?_) (λd=>?_)⟩
  ·exact⟨Y,.inl ⟨1,_,bM.of g⟩,Y,A,Z,g,mA,Y,ak (.inl (V.int.inj (of_decide_eq_true d)))⟩
  let X:¬ p=q:=λz=>d (by rw[z];exact decide_eq_true rfl);refine⟨Y,Y,Z,Y,dD (λd=>iz ?_) (λd=>?_)⟩
  ·exact⟨Y,.inl ⟨1,_,bM.of g⟩,Y,A,Z,g,mA,Y,ak (.inr (.inl (of_decide_eq_true d)))⟩
  let r:¬ (b+(↑(bu a e):Int))<=p:=λz=>d (decide_eq_true z);refine⟨Y,Y,Z,Y,dD (λd=>?_) (λd=>?_)⟩
  ·exact⟨Y,.inl ⟨1,_,bM.of g⟩,Y,A,Z,g,mA,Y,ak (.inr (.inr (of_decide_eq_true d)))⟩
  let ab:¬ q<=b:=λz=>d (decide_eq_true z);have n1:¬ ((b+(↑(bu a e):Int))<=p\/q<=b):=λz=>z.elim r ab
  let hh:((if q<(b+(↑(bu a e):Int)) then q else (b+(↑(bu a e):Int)))-b).toNat=min ↑(bu a e) (q-b).toNat/\0<=(if q<(b+(↑(bu a e):Int)) then q else (b+(↑(bu a e):Int)))-b:=by
   split <;> lia
  let d:p<q:=by lia
  let tT:¬ (p<=b/\(b+(↑(bu a e):Int))<=q)->QT a p q b e=(bu a e).take (if p-b > 0 then p-b else 0).toNat++(bu a e).drop ((if q<(b+(↑(bu a e):Int)) then q else (b+(↑(bu a e):Int)))-b).toNat/\QU a p q b e=((bu a e).take ((if q<(b+(↑(bu a e):Int)) then q else (b+(↑(bu a e):Int)))-b).toNat).drop (if p-b > 0 then p-b else 0).toNat:=λd=>by
   unfold QT QU Kr M4;rw[if_neg X,if_neg X,if_neg n1,if_neg n1,if_neg d,if_neg d,ag.1,hh.1];rcases Nat.le_total (q-b).toNat ↑(bu a e) with z|z
   ·rw[Nat.min_eq_right z];exact⟨V⟩
   ·rw[Nat.min_eq_left z,xE z,xE (fk _),tS z,tS (fk _)];exact⟨V⟩
  refine⟨Y,Y,Z,Y,Ou (λz=>⟨Y,Y,Z,Y,z⟩) (λc6=>?_) (λc6=>?_)⟩
  ·let l:QT a p q b e=[]:=by unfold QT Kr;rw[if_neg X,if_neg n1,if_pos c6]
   let I:QU a p q b e=[e]:=by unfold QU M4;rw[if_neg X,if_neg n1,if_pos c6]
   refine⟨Y,.inl ⟨1,_,bM.of W⟩,Y,B,Z,W,aS (by rw[cC];lia),Y,K,P,ai _,?_,?_,bS MZ (j.trans G) (aH B _ _)⟩
   ·rw[aL n,S,l,gR];exact g
   ·rw[af,T,I,gx];rfl
  ·let⟨r1,r2⟩:=tT c6;rw[r1,dm]at aN;rw[r2]at aR;refine⟨Y,.inl ⟨1,_,bM.of g⟩,Y,Y,Y,o,Y,bM.of U,λl r=>?_⟩;rw[tL _ ag.2,← List.map_take];let d:aI f (aO f l (.lst (((bu a e).take (if p-b > 0 then p-b else 0).toNat).map V.int))):=ao r _;refine⟨Y,Y,Y,o,Y,bM.of (d _ _ U),λI z=>?_⟩;rw[v8 _ hh.2,← List.map_drop];let r:aI _ (aO (aO f l (.lst (((bu a e).take (if p-b > 0 then p-b else 0).toNat).map V.int))) I (.lst (((bu a e).drop ((if q<(b+(↑(bu a e):Int)) then q else (b+(↑(bu a e):Int)))-b).toNat).map V.int))):=ao z _;refine⟨l,I,Z,r _ _ af,af,(by rw[cC,cC];exact gJ (aS ∅)),λJ z=>?_⟩;let X:aI _ (aO (aO (aO f l (.lst (((bu a e).take (if p-b > 0 then p-b else 0).toNat).map V.int))) I (.lst (((bu a e).drop ((if q<(b+(↑(bu a e):Int)) then q else (b+(↑(bu a e):Int)))-b).toNat).map V.int))) J (.lst (((bu a e).take (if p-b > 0 then p-b else 0).toNat).map V.int++((bu a e).drop ((if q<(b+(↑(bu a e):Int)) then q else (b+(↑(bu a e):Int)))-b).toNat).map V.int))):=ao z _;let L:=d.trans (r.trans X);let aq:(aO (aO (aO f l (.lst (((bu a e).take (if p-b > 0 then p-b else 0).toNat).map V.int))) I (.lst (((bu a e).drop ((if q<(b+(↑(bu a e):Int)) then q else (b+(↑(bu a e):Int)))-b).toNat).map V.int))) J (.lst (((bu a e).take (if p-b > 0 then p-b else 0).toNat).map V.int++((bu a e).drop ((if q<(b+(↑(bu a e):Int)) then q else (b+(↑(bu a e):Int)))-b).toNat).map V.int))) J=⇑(.lst (((bu a e).take (if p-b > 0 then p-b else 0).toNat).map V.int++((bu a e).drop ((if q<(b+(↑(bu a e):Int)) then q else (b+(↑(bu a e):Int)))-b).toNat).map V.int)):=af;generalize aO (aO (aO f l (.lst (((bu a e).take (if p-b > 0 then p-b else 0).toNat).map V.int))) I (.lst (((bu a e).drop ((if q<(b+(↑(bu a e):Int)) then q else (b+(↑(bu a e):Int)))-b).toNat).map V.int))) J (.lst (((bu a e).take (if p-b > 0 then p-b else 0).toNat).map V.int++((bu a e).drop ((if q<(b+(↑(bu a e):Int)) then q else (b+(↑(bu a e):Int)))-b).toNat).map V.int))=H6 at L aq;refine⟨A,J,Z,L _ _ g,aq,(by rw[dm,cC,cC,cC];exact gJ (aS ∅)),?_⟩;let k7:cy A H6 (aO H6 A (.lst ((bW a p q (c.take i)).map V.int++(((bu a e).take (if p-b > 0 then p-b else 0).toNat).map V.int++((bu a e).drop ((if q<(b+(↑(bu a e):Int)) then q else (b+(↑(bu a e):Int)))-b).toNat).map V.int)))):=aH A _ _;let ar:(aO H6 A (.lst ((bW a p q (c.take i)).map V.int++(((bu a e).take (if p-b > 0 then p-b else 0).toNat).map V.int++((bu a e).drop ((if q<(b+(↑(bu a e):Int)) then q else (b+(↑(bu a e):Int)))-b).toNat).map V.int)))) A=⇑(.lst ((bW a p q (c.take (i+1))).map V.int)):=by rw[af,S,r1,gx,gx]
   let d:o≠A:=(aA F ho).symm;let as:=k7 _ _ (L _ _ U) d;let am:=k7 _ _ (L _ _ W) n.symm;let aw:=bS N (j.trans (G.trans L)) k7;generalize aO H6 A (.lst ((bW a p q (c.take i)).map V.int++(((bu a e).take (if p-b > 0 then p-b else 0).toNat).map V.int++((bu a e).drop ((if q<(b+(↑(bu a e):Int)) then q else (b+(↑(bu a e):Int)))-b).toNat).map V.int)))=a at k7 ar as am aw;refine⟨Y,.inl ⟨1,_,bM.of am⟩,Y,Y,Y,Y,Y,o,Y,bM.of as,λb a=>?_⟩;rw[F0 _ ag.2 hh.2,← List.map_take,← List.map_drop];refine⟨B,b,Z,ao a _ _ _ am,af,(by rw[cC,cC];exact gJ (aS ∅)),?_⟩;refine⟨Y,K,P,ai _,?_,?_,bS MZ (aw.trans (ao a _)) (aH B _ _)⟩
   ·rw[aL n];exact ao a _ _ _ ar
   ·rw[af,T,r2,gx]
 ·rintro O k ⟨t,u,v,x,y,rfl,F,R,j⟩;rw[cC,gG]at F R;refine⟨Y,Y,lG,λt a=>ay c t A B _ m af (ao a _ _ _ F) (ao a _ _ _ R) (j.trans (ao a _)) N MZ n⟩
class inductive qW(d:Nat)
 | mk (c:Y1) (r:Addr) (a:c9) (x:Int) (f:Int->Int) (b:Int->Nat) (_:vs=[↥r,.int x]) (_:gX c H r a) (_:↑a<=1000) (_:gD a) (_:0<=x) (_:x<↑a) (_:Weighs a f) (_:(∀ x y,jP a x y->b y<b x)) (_:b x<d) (_:Q (.int (f x)) H)
def wB(D:Ds K mg aZ bf C CS CW CB CT CD){n:Nat}(v:bg P w K mg zt cO (n+1) (aZ 99) (bf 99) ["_law_rows","_law_sheet"] (qW n)):bg P w K mg zt cO (n+2) (aZ 99) (bf 99) ["_law_rows","_law_sheet"] (qW (n+1)):=by
 specialize ef ["_law_rows","_law_sheet","_law_total","_law_entry"] D.Xl.F;let⟨y,r,d,x,f,A,rfl,R,B,l,m,t,o,p,I,F⟩:=h;obtain⟨a,g⟩:∃ a,d[x.toNat]?=⇑a:=⟨_,nj ∅⟩;let⟨t,j,G,I,k,L⟩:=R.get g
 let J:oz t x=⇑↥j:=by
  let z:=cT I;rw[show ((x.toNat:Nat):Int)=x by lia]at z;exact z
 exists _,#v[aY 2 az,eE PassesOwn.never rfl (cJ (aQ bJ (pv 0) (pv 1))) (bV 3) #v[aY 2 (bI dP (pv 2) az),bR (aV jt (pv 3) az (bz _)) #v[aY 2 (bI dP (pv 2) (aC D.Xl v hr #[0,bI cV (gZ fD az) (pv 3)]))] bq],aK (pv 2)]
 all_goals try dsimp only[aP,aG]
 refine⟨Y,Y,r,K,V,bM.of G,J,j,1,⟨_,bM.of k⟩,dO (K:=K) (e:=j) (b:=a.map V.int) (λi b c=>∃ u:Option V,b=[⇑↥r,⇑(.int x),⇑(.int (kj f (a.take i))),u]/\c=H) ⟨none,V⟩ (λi b c _ ⟨P,e⟩=>by rw[e];exact bM.of k) ?_ ?_⟩
 ·rintro i e b c q ⟨u,rfl,rfl⟩;rw[lD]at q;let⟨e,s,rfl⟩:=Option.map_eq_some_iff.mp q
  let q:kj f (a.take (i+1))=kj f (a.take i)+(if e<0 then 1+f (-1-e) else 1):=by
   rw[take_snoc s];unfold kj;rw[gx,List.sum_append];simp
  exists Y,Z;refine⟨Y,Z,Y,dD (λj=>?_) (λj=>?_)⟩
  ·let k:e<0:=of_decide_eq_true j;let t:jP d x (-1-e):=⟨m,a,g,cK.mpr ⟨Q,by rw[show -1-(-1-e)=e by lia];exact lU s⟩⟩;let⟨s,z⟩:=l.Em t;let G:=p _ _ t;exists Y,Y,Y,Y,Z,y,r,d,-1-e,f,A,1,R,B,l,s,z,o,p,Q,Z;refine⟨⇑(.int e),?_,1⟩;rw[q,if_pos k];show [⇑(V.ref r),⇑(V.int x),⇑(V.int (kj f (a.take i)+1+f (-1-e))),⇑(V.int e)]=_;rw[show kj f (a.take i)+1+f (-1-e)=kj f (a.take i)+(1+f (-1-e)) by lia]
  ·let k:¬ e<0:=λz=>j (decide_eq_true z);refine⟨⇑(.int e),?_,1⟩;rw[q,if_neg k];rfl
 ·rintro b c ⟨u,rfl,rfl⟩;rw[cC,gG,← o x a m g];exact⟨Y,F⟩
theorem qC(D:Ds K mg c d C e f g i j):∀ n:Nat,bg P w K mg zt cO (n+1) (c 99) (d 99) ["_law_rows","_law_sheet"] (qW n)
 | 0=>by
  let b:∀ a H Q E,¬ qW 0 a H Q E:=λa H Q E h=>by
   let⟨_,_,_,_,_,_,_,_,_,_,_,_,_,_,h,_⟩:=h;exact Nat.not_lt_zero _ h
  exact⟨λa H Q E h=>absurd h (b a H Q E),λA k s H args l a Q E _ _ _ _ h=>absurd h (b a H Q E)⟩
 | n+1=>wB D (qC D n)
theorem nE:‹(1,100,["_law_numbers"],J4)›:=λD=>by
 refine ef ["_law_numbers","_law_row","_law_number"] D.Km.F λcZ A zn s H vs Q E hr _ h=>?_;let⟨v,f,rfl,y,L,F⟩:=h;exists _,#v[aY 1 (bO ah),eE PassesOwn.never rfl (cJ (pv 0)) (bV 2) #v[bR (PW.pt (pX (aV yr (eY D.T.eL (pv 1)) az (bz _)) (mX (aV eK (aQ bh (aQ bJ (pv 1) (gZ fD az)) az) (pv 2) (bz _))))) #v[lZ (cW #[aQ bh (aQ bJ (pv 1) (gZ fD az)) az,bI dP (pv 2) az]) (oq (pv 1) (gZ fD az) jv)] #v[aU (dM n9 jm jo bU (pv 1) #[cW #[2,bI dP (pv 2) az]])]],aK (pv 1)]
 all_goals try dsimp only[aP,aG]
 refine⟨gK,λq g=>?_⟩;let s0:aI H (aO H q (.lst [])):=ao g _;refine⟨Y,v,1,⟨_,bM.of (s0 _ _ y)⟩,dO (K:=K) (e:=v) (b:=f.map V.int) (λi p c=>∃ (e:WF) (w:Option V),p=[⇑↥v,⇑↥q,w]/\c q=⇑(.lst (e.map V.ref))/\bC c e ((f.take i).foldl (λt n=>iL t n (n+1)) [])/\aI H c) ⟨[],none,1,af,.nil,s0⟩ (by rintro i p c _ ⟨_,_,_,_,_,s⟩;exact bM.of (s _ _ y)) ?_ ?_⟩
 ·rintro i M p c z ⟨e,w,rfl,a,b,s⟩;rw[lD]at z;let⟨m,G,rfl⟩:=Option.map_eq_some_iff.mp z;let step:=foldl_take_succ (λt n=>iL t n (n+1)) f [] i m G
  let I:↑e<sizeLine:=by
   let B:=b.len;let d:=zj (f.take i) [];rw[gw]at d;exact aS (by simp only[oj]at d;lia)
  exists Y,q,Y,.inl (bM.of a),Z,Y;rcases kO ((f.take i).foldl (λt n=>iL t n (n+1)) []) with r|⟨f,x,r⟩
  ·rw[r]at b step;let n:e=[]:=List.eq_nil_of_length_eq_zero b.len;subst n;refine eT (eT ?_);refine⟨Y,.inl ⟨1,_,bM.of a⟩,Y,Y,Z,lG,λt d=>⟨q,Z,ao d _ _ _ a,(by show 0<sizeLine;decide),?_⟩⟩;let⟨j,k,l⟩:=zh (c:=m) (d:=m+1) g s a b d;refine⟨[]++[t],Y,j,?_,l⟩;rw[step,iA];exact k
  ·rw[jH]at r;rw[r]at b step;let⟨n,o,rfl,J,C⟩:=b.split;let u:c q=⇑(.lst (n.map V.ref++[↥o])):=by rw[a,gx];rfl
   refine dD (λ_=>?_) (λd=>absurd (decide_eq_true (by rw[cC,dm,gW];lia)) d);refine⟨Y,Y,q,K,V,bM.of u,gB _ _,o,K,V,dG.of C,HK,Y,1,Y,dD (λf=>?_) (λf=>?_)⟩
   ·let i:x.2=m:=V.int.inj (of_decide_eq_true f);refine⟨Y,Y,q,K,V,bM.of u,gB _ _,o,K,V,dG.of C,CY,Y,Z,lG,λt d=>?_⟩;exists Y,Y,q,P,↑n,V,ao d _ _ _ u,HP n o;let⟨j,k,l⟩:=turned (st:=x.1) (en:=m+1) g s u J d;refine⟨n++[t],Y,j,?_,l⟩;rw[step,i7 _ i];exact k
   ·let i:¬ x.2=m:=λB=>f (decide_eq_true (congrArg V.int B));refine⟨Y,.inl ⟨1,_,bM.of a⟩,Y,Y,Z,lG,λt d=>⟨q,Z,ao d _ _ _ a,(by rw[cC];exact I),?_⟩⟩;let⟨j,k,l⟩:=zh (c:=m) (d:=m+1) g s a b d;refine⟨n++[o]++[t],Y,j,?_,l⟩;rw[step,iB _ i];exact k
 ·rintro p c ⟨e,w,rfl,a,b,s⟩;refine⟨Y,F q c ⟨e,a,?_⟩ s g⟩;rw[cC,gG]at b;exact b
def Reach.trans{E:Int->Int->Prop}{a b c:Int}(h:Reach E a b)(g:Reach E b c):Reach E a c:=by
 induction g with
 | one e=>exact .step h e
 | step _ e d=>exact .step d e
theorem Gh{p q:Nat->Bool}(h:∀ i,p i=true->q i=true):∀ n,cnt n p<=cnt n q
 | 0=>fk _
 | n+1=>by
  rw[uD,uD];let a:=Gh h n;by_cases c:p n=true
  ·rw[if_pos c,if_pos (h n c)];lia
  ·rw[if_neg c];lia
open Classical in
def XY{a:c9}(c:gD a)(l:↑a<=40)(h:∀ x,¬ Reach (jP a) x x):C3 a:=by
 refine⟨λx=>cnt ↑a λi=>decide (Reach (jP a) x (i:Int)),λx=>ig (zz _ _) l,λx y n=>?_⟩;let⟨b,d⟩:=c.Em n;let b:((y.toNat:Nat):Int)=y:=by lia
 let d:=Gh (p:=λi=>decide (Reach (jP a) y (i:Int))) (q:=λi=>decide (Reach (jP a) x (i:Int))&&decide (i≠y.toNat)) (λi d=>by
  let r:=of_decide_eq_true d;rw[Bool.and_eq_true];refine⟨decide_eq_true ((Reach.one n).trans r),decide_eq_true λz=>?_⟩;rw[z,b]at r
  exact h _ r) ↑a
 let d:=uE y.toNat ↑a (p:=λi=>decide (Reach (jP a) x (i:Int))) (q:=λi=>decide (Reach (jP a) x (i:Int))&&decide (i≠y.toNat)) ∅ (decide_eq_true (by rw[b];exact .one n)) (λ_=>rfl);show cnt _ _<cnt _ _;lia
def KD{a:c9}{s:Nat}{b:Wp}{x y:Int}(h:jP (a.set s b) x y)(c:x.toNat≠s):jP a x y:=by
 let⟨d,f,e,g⟩:=h;rw[List.getElem?_set_ne (λz=>c z.symm)]at e;exact⟨d,f,e,g⟩
def P7{a:c9}{s:Int}{c:Wp}(j:0<=s)(g:C3 a)(n:¬ Reach (jP (a.set s.toNat c)) s s):∀ x,¬ Reach (jP (a.set s.toNat c)) x x:=by
 let h:∀ {b d:Int},Reach (jP (a.set s.toNat c)) b d->Reach (jP a) b d\/((b=s\/Reach (jP (a.set s.toNat c)) b s)/\Reach (jP (a.set s.toNat c)) s d):=by
  intro b d r
  induction r with
  | one e =>
   by_cases f:b.toNat=s.toNat
   ·let q:b=s:=by have:=e.1;lia
    rw[q]at e;exact .inr ⟨.inl q,.one e⟩
   ·exact .inl (.one (KD e f))
  | @step y z r e i =>
   by_cases f:y.toNat=s.toNat
   ·let q:y=s:=by have:=e.1;lia
    rw[q]at r e;exact .inr ⟨.inr r,.one e⟩
   ·rcases i with i|i
    ·exact .inl (.step i (KD e f))
    ·exact .inr ⟨i.1,.step i.2 e⟩
 intro x r;rcases h r with z|⟨z|z,y⟩
 ·exact g.ma z
 ·rw[z]at y;exact n y
 ·exact n (y.trans z)
def MD(f:Int->Int)(e:Int)(r:Wp):kj f (e::r)=(if e<0 then 1+f (-1-e) else 1)+kj f r:=by unfold kj;rw[jq,List.sum_cons]
theorem KG{b:Y2}{f:Int->Int}:∀ {a:Wp},(∀ y∈d7 a,(↑(b y):Int)<=f y)->(↑a:Int)<=kj f a/\(↑(aW b a):Int)<=kj f a
 | [],_=>by simp[kj,aW]
 | e::r,h=>by
  let c:=KG (a:=r) λy c=>h y (cK.mpr ⟨(cK.mp c).1,j5 _ (cK.mp c).2⟩);rw[MD,ck,dm,eZ];unfold bu;by_cases c:e<0
  ·let z:=h (-1-e) (cK.mpr ⟨Q,by rw[show -1-(-1-e)=e by lia];simp⟩);rw[if_pos c,if_pos c];lia
  ·rw[if_neg c,if_neg c,gW];lia
def Gi{b:c9}{c:Y2}{f:Int->Int}(h:gD b)(i:C3 b)(j:mJ b c)(l:Weighs b f):∀ x:Int,0<=x->∀ a,b[x.toNat]?=⇑a->(↑a:Int)<=f x/\(↑(c x):Int)<=f x:=by
 let⟨g,_,m⟩:=i
 let o:∀ (k:Nat) (x:Int),g x<k->0<=x->∀ a,b[x.toNat]?=⇑a->(↑a:Int)<=f x/\(↑(c x):Int)<=f x:=by
  intro k
  induction k with
  | zero=>intro x d;lia
  | succ k k =>
   intro x n d a e;rw[l x a d e,j x a d e];refine KG λy p=>?_;have n:jP b x y:=⟨d,a,e,p⟩;let⟨d,e⟩:=h.Em n;have:=m _ _ n;exact (k y ∅ d _ (nj ∅)).2
 exact λx=>o (g x+1) x (Nat.lt_succ_self _)
def P8{a:c9}{c:Y2}{N:Int->Prop}(l:gD a)(m:C3 a)(n:mJ a c)(o:∀ p∈a,∀ e∈p,0<=e->N e):∀ x:Int,0<=x->x<↑a->∀ y∈c x,N y:=by
 let⟨f,b,q⟩:=m
 let r:∀ (k:Nat) (x:Int),f x<k->0<=x->x<↑a->∀ y∈c x,N y:=by
  intro k
  induction k with
  | zero=>intro x h;lia
  | succ k k =>
   intro x d g h y b;let d:a[x.toNat]?=⇑a[x.toNat]:=nj ∅;rw[n x _ g d]at b;unfold aW at b;let⟨e,h,b⟩:=List.mem_flatMap.mp b;unfold bu at b;by_cases i:e<0
   ·rw[if_pos i]at b;let j:jP a x (-1-e):=⟨g,_,d,cK.mpr ⟨Q,by rw[show -1-(-1-e)=e by lia];exact h⟩⟩;let⟨g,s⟩:=l.Em j;have:=q _ _ j;exact k _ ∅ g s y b
   ·rw[if_neg i]at b;rw[List.mem_singleton.mp b];exact o _ (lU d) e h ∅
 exact λx=>r (f x+1) x (Nat.lt_succ_self _)
def sj(n m:Nat)(e:Int):Prop:=(0<=e/\e<(n:Nat))\/(e<0/\-1-e<(m:Nat))
structure Good(n:Nat)(rows:c9):Prop where
 en:∀ es∈rows,∀ e∈es,sj n ↑rows e
 rk:C3 rows
 ln:↑rows<=40
 wt:∃ f,Weighs rows f/\∀ x:Int,0<=x->x<↑rows->f x<=200
theorem DS{n:Nat}{a:c9}(h:∀ b∈a,∀ e∈b,sj n ↑a e):gD a:=λb c y d=>by
 let⟨g,f⟩:=cK.mp d;rcases h b c _ f with z|z
 ·lia
 ·have:=z.2;lia
structure Gd(n:Nat)(rows:c9)(sh:Y2):Prop where
 sn:Seen rows sh
 T7:∀ x:Int,0<=x->x<↑rows->∀ a∈sh x,0<=a/\a<(n:Nat)
 sl:∀ x:Int,0<=x->x<↑rows->↑(sh x)<=200
 es:∀ es∈rows,↑es<=200
 en:∀ es∈rows,∀ e∈es,sj n ↑rows e
 ln:↑rows<=40
def Good.es{n:Nat}{a:c9}(h:Good n a):∀ es∈a,↑es<=200:=by
 let⟨en,rk,ln,f,c,d⟩:=h;let⟨b,e⟩:=Ai rk;intro es f;let⟨i,b⟩:=List.mem_iff_getElem?.mp f;let f:=(List.getElem?_eq_some_iff.mp b).1;let f:=Gi (DS en) rk e c (i:Int) ∅ es (by rw[Int.toNat_natCast];exact b);have:=d (i:Int) ∅ ∅;lia
def Good.P9{n:Nat}{c:c9}(i:Good n c):∃ a,Gd n c a:=by
 let j:=i.es;let⟨en,rk,ln,f,l,d⟩:=i;let⟨a,e⟩:=Ai rk;let f:=DS en
 let k:∀ x:Int,0<=x->x<↑c->↑(a x)<=200:=λx b g=>by
  let h:=Gi f rk e l x b _ (nj ∅);have:=d x b g;lia
 refine⟨a,⟨λes h=>by have:=j es h;lia,f,rk,e,λx b g=>by have:=k x b g;lia⟩,P8 f rk e (λes h m d e0=>?_),k,j,en,ln⟩;rcases en es h m d with z|z
 ·exact z
 ·lia
def Good.bears{n:Nat}{a:c9}(h:Good n a):∃ f,mS a f:=by
 let b:=h.es;let⟨en,rk,ln,f,c,d⟩:=h;exact⟨f,Q,λes e=>by have:=b es e;lia,DS en,rk,c,d⟩
def Qa{n:Nat}{a:c9}{s:Nat}{b:Wp}(h:∀ b∈a,∀ e∈b,sj n ↑a e)(g:∀ e∈b,sj n ↑a e):∀ c∈a.set s b,∀ e∈c,sj n ↑(a.set s b) e:=by
 intro c d;rw[List.length_set];rcases List.mem_or_eq_of_mem_set d with z|z
 ·exact h c z
 ·rw[z];exact g
theorem Gj{a:Y2}{N:Int->Prop}(d:∀ e,N e->∀ x∈bu a e,N x)(p:Int):∀ (c:Wp) (f:Int),(∀ e∈c,N e)->∀ x,x∈aE a p f c\/x∈bE a p f c->N x
 | [],_,_=>λx b=>by rcases b with z | z <;> cases z
 | e::r,f,h=>by
  intro x b;rw[aE,bE,List.mem_append,List.mem_append]at b;let g:=d e (h e (by simp));let i:=Gj d p r (f+↑(bu a e)) (λy j=>h y (j5 _ j)) x;rcases b with (z|z)|(z|z)
  ·split at z
   ·rw[List.mem_singleton.mp z];exact h e (by simp)
   ·split at z
    ·cases z
    ·exact g x (List.mem_of_mem_take z)
  ·exact i (.inl z)
  ·split at z
   ·cases z
   ·split at z
    ·rw[List.mem_singleton.mp z];exact h e (by simp)
    ·exact g x (List.mem_of_mem_drop z)
  ·exact i (.inr z)
theorem Qc{b:Y2}{N:Int->Prop}(j:∀ e,N e->∀ x∈bu b e,N x)(c d:Int):∀ (g:Wp) (f:Int),(∀ e∈g,N e)->∀ x,x∈kE b c d f g\/x∈tE b c d f g->N x
 | [],_,_=>λx a=>by rcases a with z | z <;> cases z
 | e::r,f,h=>by
  intro x a;rw[kE,tE,List.mem_append,List.mem_append]at a;let i:=j e (h e (by simp));let k:=Qc j c d r (f+↑(bu b e)) (λy l=>h y (j5 _ l)) x;unfold Kr M4 at a;rcases a with (z|z)|(z|z)
  ·split at z
   ·rw[List.mem_singleton.mp z];exact h e (by simp)
   ·split at z
    ·cases z
    ·rcases List.mem_append.mp z with z|z
     ·exact i x (List.mem_of_mem_take z)
     ·exact i x (List.mem_of_mem_drop z)
  ·exact k (.inl z)
  ·split at z
   ·cases z
   ·split at z
    ·rw[List.mem_singleton.mp z];exact h e (by simp)
    ·exact i x (List.mem_of_mem_take (List.mem_of_mem_drop z))
  ·exact k (.inr z)
def wC{c:Y2}{N:Int->Prop}(d:∀ e,N e->∀ x∈bu c e,N x){p:Int}{b f:Wp}(h:∀ e∈b,N e)(g:∀ e∈f,N e):∀ e∈fX c p b f,N e:=by
 intro x a;unfold fX at a;split at a
 ·exact h x a
 ·rw[List.mem_append,List.mem_append]at a;rcases a with (z|z)|z
  ·exact Gj d p b 0 h x (.inl z)
  ·exact g x z
  ·exact Gj d p b 0 h x (.inr z)
def Gd.cl{n:Nat}{b:c9}{c:Y2}(h:Gd n b c):∀ e,sj n ↑b e->∀ x∈bu c e,sj n ↑b x:=by
 intro e d x a;unfold bu at a;rcases d with z|z
 ·rw[if_neg ∅]at a;rw[List.mem_singleton.mp a];exact .inl z
 ·rw[if_pos z.1]at a;exact .inl (h.T7 _ ∅ z.2 x a)
def Gd.own{n:Nat}{a:c9}{b:Y2}(h:Gd n a b)(s:Int):∀ e∈_gn.own a s,sj n ↑a e:=by
 unfold _gn.own
 cases e:a[s.toNat]? with
 | none=>exact λ_ z=>nomatch z
 | some es=>exact h.en es (lU e)
inductive LD
 | put (s p:Int) (r:Addr) (c:Row)
 | cut (s a b:Int)
 | T8 (s a b t:Int)
 | Vr (t p s a b:Int)
 | win (t p s:Int)
 | fix (s:Int)
def LD.sh:LD->Int
 | .put s _ _ _=>s
 | .cut s _ _=>s
 | .T8 s _ _ _=>s
 | .Vr t _ _ _ _=>t
 | .win t _ _=>t
 | .fix s=>s
def LD.At(H:Hp)(d:Addr):LD->Prop
 | .put s p r row=>H d=⇑(.tup [.str "put",.int s,.int p,↥r])/\bP H r row
 | .cut s a b=>H d=⇑(.tup [.str "cut",.int s,.int a,.int b])
 | .T8 s a b t=>H d=⇑(.tup [.str "move",.int s,.int a,.int b,.int t])
 | .Vr t p s a b=>H d=⇑(.tup [.str "quote",.int t,.int p,.int s,.int a,.int b])
 | .win t p s=>H d=⇑(.tup [.str "window",.int t,.int p,.int s])
 | .fix s=>H d=⇑(.tup [.str "fix",.int s])
def LD.Ok(n m:Nat)(sh:Y2):LD->Prop
 | .put s p _ row=>qz m s/\(0<=p/\p<=↑(sh s))/\↑row<=2/\∀ q∈row,0<=q.1/\q.1<q.2/\q.2<=(n:Nat)/\q.2<=q.1+40
 | .cut s a b=>qz m s/\RV a b ↑(sh s)
 | .T8 s a b t=>qz m s/\Mv a b t ↑(sh s)
 | .Vr t p s a b=>qz m t/\(0<=p/\p<=↑(sh t))/\qz m s/\RV a b ↑(sh s)
 | .win t p s=>qz m t/\(0<=p/\p<=↑(sh t))/\qz m s
 | .fix s=>qz m s
def LD.res(sh:Y2)(c:c9):LD->List Int
 | .put s p _ row=>fX sh p (own c s) (bw row)
 | .cut s a b=>bW sh a b (own c s)
 | .T8 s a b t=>lH sh a b t (own c s)
 | .Vr t p s a b=>fX sh p (own c t) (((sh s).take b.toNat).drop a.toNat)
 | .win t p s=>fX sh p (own c t) [-1-s]
 | .fix s=>sh s
def LD.T7{n m:Nat}{sh:Y2}{a:LD}(h:a.Ok n m sh):qz m a.sh:=by
 cases a with
 | fix=>exact h
 | _=>exact h.1
def LD.XZ{n:Nat}{f:c9}{sh:Y2}(g:Gd n f sh){i:LD}(h:i.Ok n ↑f sh):∀ e∈i.res sh f,sj n ↑f e:=by
 let d:=g.cl
 cases i with
 | put s p r row =>
  refine wC d (g.own s) λe c=>.inl (P0 (λq j=>?_) c);have:=h.2.2.2 q j;exact⟨this.1,this.2.1,this.2.2.1⟩
 | cut s a b =>
  intro e c;unfold LD.res bW at c;dsimp only at c;split at c
  ·exact g.own s e c
  ·exact Qc d a b _ 0 (g.own s) e (.inl c)
 | T8 s a b t =>
  intro e c;unfold LD.res lH at c;dsimp only at c;split at c
  ·exact g.own s e c
  ·let j:=Qc d a b (own f s) 0 (g.own s);rw[List.mem_append,List.mem_append]at c;rcases c with (z|z)|z
   ·exact Gj d t _ 0 (λy k=>j y (.inl k)) e (.inl z)
   ·exact j e (.inr z)
   ·exact Gj d t _ 0 (λy k=>j y (.inl k)) e (.inr z)
 | Vr t p s a b =>
  refine wC d (g.own t) λe c=>.inl (g.T7 s h.2.2.1.1 h.2.2.1.2 e (List.mem_of_mem_take (List.mem_of_mem_drop c)))
 | win t p s =>
  refine wC d (g.own t) λe c=>.inr ?_;rw[List.mem_singleton.mp c];have:=h.2.2;unfold qz at this;lia
 | fix s=>exact λe c=>.inl (g.T7 s h.1 h.2 e c)
def LD.At.same{H b:Hp}{d:Addr}{a:LD}(s:aI H b)(h:a.At H d):a.At b d:=by
 cases a with
 | put=>exact⟨s _ _ h.1,h.2.same s⟩
 | _=>exact s _ _ h
theorem Qd(b:Y2){d g:Int}{N:Int->Prop}:∀ (c:Wp) (f:Int),(∀ e∈c,∀ x∈bu b e,N x)->∀ x∈kE b d g f c,x∈c\/N x
 | [],_,_=>λx a=>by cases a
 | e::r,f,h=>by
  intro x a;rw[kE]at a;rcases List.mem_append.mp a with z|z
  ·unfold Kr at z;split at z
   ·rw[List.mem_singleton.mp z];exact .inl (by simp)
   ·split at z
    ·cases z
    ·rcases List.mem_append.mp z with y|y
     ·exact .inr (h e (by simp) x (List.mem_of_mem_take y))
     ·exact .inr (h e (by simp) x (List.mem_of_mem_drop y))
  ·rcases Qd b r _ (λe a=>h e (j5 _ a)) x z with y|y
   ·exact .inl (j5 _ y)
   ·exact .inr y
theorem Am(b:Y2):∀ (a:Wp),(∀ x∈a,0<=x)->aW b a=a
 | [],_=>rfl
 | x::a,h=>by rw[ck,qQ b (h x (by simp)),Am b a λy c=>h y (j5 _ c)];rfl
theorem KH(a:Y2){b c:Int}(j:b<=c):∀ (d:Wp) (f:Int),(∀ e∈d,∀ x∈bu a e,0<=x)->↑(aW a (kE a b c f d))<=↑(aW a d)
 | [],_,_=>by simp[kE]
 | e::r,f,h=>by
  rw[kE,jE,ck,dm,dm];let g:=KH a j r (f+↑(bu a e)) (λe g=>h e (j5 _ g))
  let g:↑(aW a (Kr a b c f e))<=↑(bu a e):=by
   unfold Kr;split
   ·rw[ck];simp[aW]
   ·split
    ·simp[aW]
    ·rename_i g i;let i:=h e (by simp);rw[jE,Am a _ λx g=>i x (List.mem_of_mem_take g),Am a _ λx g=>i x (List.mem_of_mem_drop g),dm,gw,pV];lia
  lia
theorem Vs(a:Y2){b d:Int}(j:b<d):∀ (i:Wp) (f:Int),f<=b->b<f+↑(aW a i)->tE a b d f i≠[]
 | [],f,h,g=>by simp[aW]at g;lia
 | e::r,f,h,g=>by
  rw[ck,dm]at g;rw[tE];intro z;let⟨c,k⟩:=List.append_eq_nil_iff.mp z;by_cases g:f+↑(bu a e)<=b
  ·exact Vs a j r (f+↑(bu a e)) g ∅ k
  ·unfold M4 at c;rw[if_neg (λy=>y.elim g ∅)]at c;split at c
   ·cases c
   ·rename_i g;let q:=congrArg List.length c;rw[pV,gw,oj]at q;lia
theorem Gk{b c:Y2}(p:Int):∀ (a:Wp) (f:Int),(∀ e∈a,bu b e=bu c e)->aE b p f a=aE c p f a
 | [],_,_=>rfl
 | e::r,f,h=>by rw[aE,aE,h e (by simp),Gk p r _ λx d=>h x (j5 _ d)]
theorem Gm{b c:Y2}(p:Int):∀ (a:Wp) (f:Int),(∀ e∈a,bu b e=bu c e)->bE b p f a=bE c p f a
 | [],_,_=>rfl
 | e::r,f,h=>by rw[bE,bE,h e (by simp),Gm p r _ λx d=>h x (j5 _ d)]
theorem Gn{a b:Y2}:∀ (d:Wp),(∀ y∈d7 d,↑(b y)<=↑(a y))->↑(aW b d)<=↑(aW a d)
 | [],_=>by simp[aW]
 | e::r,h=>by
  rw[ck,ck,dm,dm]
  let c:=Gn (a:=a) (b:=b) r λy c=>h y (by
   let⟨f,g⟩:=cK.mp c
   exact cK.mpr ⟨f,j5 _ g⟩)
  let c:↑(bu b e)<=↑(bu a e):=by
   unfold bu;by_cases c:e<0
   ·rw[if_pos c,if_pos c];exact h _ (cK.mpr ⟨Q,by rw[show -1-(-1-e)=e by lia];simp⟩)
   ·rw[if_neg c,if_neg c];exact fk _
  lia
structure mr(rows:c9)(sh:Y2)(rk:Int->Nat)(s a b:Int)(es:Wp)(rs:c9)(sg:Y2):Prop where
 snd:gD rs
 nx:∀ x y,jP rs x y->jP rows x y
 O7:mJ rs sg
 bd:∀ x:Int,0<=x->x<↑rs->↑(sg x)<=10000
 eq:∀ n,rk n<rk s->0<=n->n<↑rows->sg n=sh n
def Qe{c:c9}{d:Y2}{e:Int->Nat}{s h i:Int}{a:Wp}(l:gD c)(J:∀ x,e x<=40)(q:∀ x y,jP c x y->e y<e x)(C:mJ c d)(N:∀ x:Int,0<=x->x<↑c->↑(d x)<=10000)(O:0<=s)(h1:s<↑c)(m:c[s.toNat]?=⇑a)(T:h<=i):∃ o,mr c d e s h i a (c.set s.toNat (bW d h i a)) o:=by
 let R:=nY l ⟨e,J,q⟩ C
 let L:∀ p∈a,∀ x∈bu d p,0<=x:=λp j x f=>by
  unfold bu at f;by_cases k:p<0
  ·rw[if_pos k]at f;let r:jP c s (-1-p):=⟨O,a,m,cK.mpr ⟨Q,by rw[show -1-(-1-p)=p by lia];exact j⟩⟩;let⟨D,F⟩:=l.Em r;exact R _ D F x f
  ·rw[if_neg k]at f;rw[List.mem_singleton.mp f];lia
 let t:∀ y∈d7 (bW d h i a),y∈d7 a:=λy b=>by
  let⟨g,j⟩:=cK.mp b;refine cK.mpr ⟨g,?_⟩;unfold bW at j;split at j
  ·exact j
  ·rcases Qd d a 0 L _ j with z|z
   ·exact z
   ·lia
 let r:∀ x y,jP (c.set s.toNat (bW d h i a)) x y->jP c x y:=by
  rintro x y ⟨g,G,f,b⟩;by_cases k:x.toNat=s.toNat
  ·rw[k,List.getElem?_set,if_pos rfl]at f;split at f
   ·cases f;exact⟨g,a,by rw[k];exact m,t y b⟩
   ·cases f
  ·rw[List.getElem?_set_ne (λz=>k z.symm)]at f;exact⟨g,G,f,b⟩
 let S:gD (c.set s.toNat (bW d h i a)):=λG j y b=>by
  rw[List.length_set];rcases List.mem_or_eq_of_mem_set j with z|z
  ·exact l G z y b
  ·subst z;exact l a (lU m) y (t y b)
 let⟨o,H⟩:=Ai (a:=c.set s.toNat (bW d h i a)) ⟨e,J,λx y u=>q x y (r x y u)⟩
 let U:(c.set s.toNat (bW d h i a))[s.toNat]?=⇑(bW d h i a):=by
  rw[List.getElem?_set,if_pos rfl,if_pos ∅]
 let M:∀ (v:Nat) (x:Int),e x<v->0<=x->x<↑c->(e x<e s->o x=d x)/\↑(o x)<=↑(d x):=by
  intro v
  induction v with
  | zero=>intro x u;lia
  | succ v I =>
   intro x f g w;by_cases k:x.toNat=s.toNat
   ·let W:x=s:=by lia
    subst W;refine⟨λz=>by lia,?_⟩;let A:=H x _ g U
    let B:aW o (bW d h i a)=aW d (bW d h i a):=qB λy b=>by
     let n:=q x y ⟨g,a,m,t y b⟩;let⟨D,F⟩:=l.Em ⟨g,a,m,t y b⟩;exact (I y ∅ D F).1 n
    rw[A,B,C x a g m];unfold bW;split
    ·exact fk _
    ·exact KH d T a 0 L
   ·let f:c[x.toNat]?=⇑c[x.toNat]:=nj ∅;let A:=H x _ g (by rw[List.getElem?_set_ne (λz=>k z.symm)];exact f);let B:=C x _ g f
    let low:∀ y∈d7 c[x.toNat],e y<e x/\0<=y/\y<↑c:=λy b=>by
     let n:jP c x y:=⟨g,_,f,b⟩;exact⟨q x y n,l.Em n⟩
    refine⟨λz=>?_,?_⟩
    ·rw[A,B];exact qB λy b=>(I y (by have:=(low y b).1;lia) (low y b).2.1 (low y b).2.2).1 (by have:=(low y b).1;lia)
    ·rw[A,B];exact Gn _ λy b=>(I y (by have:=(low y b).1;lia) (low y b).2.1 (low y b).2.2).2
 refine⟨o,S,r,H,λx g w=>?_,λn u b f=>(M (e n+1) n (Nat.lt_succ_self _) b f).1 u⟩;rw[List.length_set]at w;have:=(M (e x+1) x (Nat.lt_succ_self _) g w).2;have:=N x g w;lia
def Ua{e:c9}{a j:Y2}{g:Int->Nat}{s c d h:Int}{b:Wp}(p:gD e)(B:∀ x,g x<=40)(q:∀ x y,jP e x y->g y<g x)(r:mJ e a)(m:0<=s)(t:e[s.toNat]?=⇑b)(u:0<=c)(C:c<=d)(D:d<=↑(a s))(n:mr e a g s c d b (e.set s.toNat (bW a c d b)) j)(v:(e.set s.toNat (bW a c d b))[s.toNat]?=⇑(bW a c d b)):fX j h (bW a c d b) (iH a c d b)=lH a c d h b:=by
 unfold lH;by_cases f:c=d
 ·let k:iH a c d b=[]:=by unfold iH;rw[if_pos f]
  let l:bW a c d b=b:=by unfold bW;rw[if_pos f]
  rw[if_pos f,k,l];rfl
 ·rw[if_neg f];let k:iH a c d b=tE a c d 0 b:=by unfold iH;rw[if_neg f]
  let l:bW a c d b=kE a c d 0 b:=by unfold bW;rw[if_neg f]
  let w:tE a c d 0 b≠[]:=Vs a ∅ b 0 u (by rw[← r s b m t];lia)
  let o:∀ f∈bW a c d b,bu j f=bu a f:=λf z=>by
   unfold bu;by_cases i:f<0
   ·rw[if_pos i,if_pos i];let A:jP (e.set s.toNat (bW a c d b)) s (-1-f):=⟨m,_,v,cK.mpr ⟨Q,by rw[show -1-(-1-f)=f by lia];exact z⟩⟩;let f:=n.nx _ _ A;let⟨z,A⟩:=p.Em f;exact n.eq _ (q _ _ f) z A
   ·rw[if_neg i,if_neg i]
  unfold fX;rw[k,if_neg w,Gk h _ 0 o,Gm h _ 0 o,l]
def ME{c:Cx}(j:c.calm=true):jN c (.builtin "max") (λa H Q=>∃ (p:Addr) (b:Wp),a=[↥p]/\bM c.K H p (b.map V.int)/\0<↑b/\∀ M,M∈b->(∀ e∈b,e<=M)->Q (.int M) H):=by
 intro l s x H a y Q I r h;let⟨p,b,rfl,f,k,q⟩:=h;let⟨u,rfl,g⟩:=r.one;cases (show u=Value.ref p from g);let⟨g,h,l,r⟩:=I.list f;let f:PyProof.Rows.IntsAre g b:=intsAre_of h;let⟨a,g⟩:=f.allInts.items;let h:=l.isList
 let d:b=a.toList.map (·.1):=by
  rw[← f.numsOf,← PySem.nums_intItems,← g]
 let l:0<a.size:=by
  let f:=k;rw[d,cC,Array.length_toList]at f;exact f
 rw[g]at h;refine PySem.max_intList (I.ok.hd j) h l λf g h m n=>?_;let⟨t,rfl⟩:=PySem.intItems_at m;let⟨f,o⟩:=PySem.argBest_gt (PySem.numAt a) (a.size-1);refine⟨.int _,H,I.kept n,⟨t,1⟩,q _ ?_ λe i=>?_⟩
 ·rw[d,PySem.numAt_eq];exact PySem.getD_mem (by rw[cC,Array.length_toList];lia)
 ·rw[d]at i;let⟨v,w,rfl⟩:=PySem.mem_getD i;rw[cC,Array.length_toList]at w;rw[← PySem.numAt_eq];exact o v ∅
class inductive Qf
 | mk (d:Y1) (r:Addr) (a:c9) (s:Int) (_:vs=[↥r,.int s]) (_:gX d H r a) (_:↑a<=40) (_:∀ e∈a,↑e<=100000) (_:gD a) (_:0<=s) (_:s<↑a) (_:¬ Reach (jP a) s s->∀ x,¬ Reach (jP a) x x) (_:∀ (b:Bool) (c:Hp),aI H c->(b=true->C3 a/\∃ f,Weighs a f/\∀ x:Int,0<=x->x<↑a->f x<=200)->Q (.bl b) c)
theorem Gp:‹(43,101,["_law_rows","_law_sheet"],Qf)›:=λD=>by
 specialize ef ["_law_rows","_law_sheet"] D.UR.F;let⟨n,r,c,s,rfl,R,x,g,d,s0,p,y,o⟩:=h;refine⟨_,#v[bR (aV vB (pv 1) (aC D.lz (Ak D) hr #[0,1]) rfl) #v[aK lY] bq,aK (j0 gj (cz (ME rfl) rfl D.T.zG PyProof.Rows.boot_max #[gC (N:=["_law_other","_law_rows"]) (jO (c:=b8 sO) (f:=["_law_rows","_law_sheet"]) (d:=[none,some 0]) rfl rfl rfl nofun nofun rfl nofun rfl nofun) rfl (jk rfl D.T.jd #[eY D.T.eL (pv 0)]) (λ_ _ _ _ _ _=>(bV 0)) (λ_ _ _ _ _ _=>gy) (λ_ _ _ _ _ _=>(aC D.Xl (qC D 41) hr #[1,0]))]) az (bz _))],?_⟩
 all_goals try dsimp only[aP,aG]
 refine⟨Y,Y,Y,n,r,c,s,1,R,Q,g,d,s0,p,λL g p A e B=>?_⟩;exists g,Y,.inl (bM.of A),1,nQ L,Y;rw[uF];by_cases g:s∈L
 ·rw[decide_eq_true g];exact iz (o false p e λz=>nomatch z)
 rw[decide_eq_false g];refine eT ?_;let j:=XY d x (y λz=>g ((B s).mpr z));let⟨f,q⟩:=Ma j;let⟨C,F,G⟩:=id j;let t:=R.same e;let⟨vs,g,x⟩:=id t;let y:=x.len;let v:∀ i:Nat,↑((List.range i).map λb:Nat=>f (b:Int))=i:=λi=>by rw[cC,List.length_range]
 refine⟨Y,r,Y,.inl (bM.of g),Y,Q,Q,λk w=>qw (lo:=0) (k:=((↑vs:Nat):Int).toNat) (λi l a=>∃ u:Option V,l=[u,⇑↥r]/\a k=⇑(.lst (((List.range i).map λb:Nat=>f (b:Int)).map V.int))/\aI p a) ⟨none,1,af,ao w _⟩ ?_ ?_⟩
 ·rintro i l a z ⟨u,rfl,m,b⟩;let g:i<↑c:=by lia
  refine⟨Y,Y,n,r,c,0+(i:Int),f,C,1,t.same b,Q,d,Q,Q,q,G,by have:=F (0+(i:Int));lia,_,m,(by rw[cC,v];exact aS ∅),Y,?_,bS w b (aH k _ _)⟩;rw[af,List.range_succ,gx,gx,Int.zero_add];rfl
 ·rintro l a ⟨u,rfl,m,b⟩;refine⟨k,Y,bM.of m,by rw[v];lia,λM _ c=>⟨Z,?_⟩⟩;refine o _ a (e.trans b) λz=>⟨j,f,q,λx a b=>?_⟩;have y:=c (f x) (List.mem_map.mpr ⟨x.toNat,List.mem_range.mpr ∅,by rw[show ((x.toNat:Nat):Int)=x by lia]⟩);have:=of_decide_eq_true z;lia
def cM{a b:Str}(h:a≠b){A B:Prop}(z:B):if decide (V.str a=V.str b)=true then A else B:=by
 rw[if_neg λy=>h (V.str.inj (of_decide_eq_true y))];exact z
def je{a:Str}{A B:Prop}(z:A):if decide (V.str a=V.str a)=true then A else B:=by
 rw[if_pos (decide_eq_true rfl)];exact z
def M8.at_{W:Y1}{H:Hp}{a:Addr}{b:c9}(h:M8 W f g H a b):gX (λ_=>False) H a b:=by
 let⟨_,_,_,c,d,e⟩:=h;exact⟨c,d,e.mono λv i ⟨c,e,K,d⟩=>⟨c,e,λz=>z,d⟩⟩
def jG{a:c9}{s:Int}(h:qz ↑a s):a[s.toNat]?=⇑(own a s):=by
 have:s.toNat<↑a:=by have:=h.1;have:=h.2;lia
 unfold own;rw[nj this];rfl
class inductive KI
 | mk (W:Y1) (w e:Addr) (f:fY) (g:gP) (a:c9) (n:Nat) (b:Y2) (c:LD) (_:vs=[↥w,↥e]) (_:Wo 100 aN W H w f g a) (_:c.At H e) (_:Gd n a b) (_:c.Ok n ↑a b) (_:n<=10000) (_:∀ (o:Addr) (d:Hp),d o=⇑(.lst ((c.res b a).map V.int))->↑(c.res b a)<=100000->aI H d->H o=none->Q ↥o d)
theorem DT:‹(45,102,["_law_world_here","_law_deed_here"],KI)›:=λD=>by
 let B:bg P w K mg zt cO 44 _ _ YM (II 41):=IJ D;let Cz:bg P w K mg zt cO 44 _ _ YN (P6 41):=IK D;specialize ef ["_law_world_here","_law_deed_here","_law_rows","_law_name","_law_kept","_law_taken"] D.US.F;let⟨W,w,d,aF,pq,f,am,i,dd,rfl,wo,e,g,p,ap,A⟩:=h;let hu:=gH hr;exists _,#v[aY 2 (eS hu (pv 0) bx),aY 3 (aQ bh (pv 1) az),bR (aV eK (pv 3) bx (bz _)) #v[aK (aC D.OS B hr #[2,aQ bh (pv 1) az,aQ bh (pv 1) az,aC D.Xi (uZ D) hr #[aQ bh (pv 1) az]])] bq,bR (aV eK (pv 3) bx (bz _)) #v[aK (aQ bh (aC D.Xk Cz hr #[2,aQ bh (pv 1) az,aQ bh (pv 1) az,aQ bh (pv 1) az]) az)] bq,bR (aV eK (pv 3) bx (bz _)) #v[lZ (aC D.Xk Cz hr #[2,aQ bh (pv 1) az,aQ bh (pv 1) az,aQ bh (pv 1) az]) (kQ (n:=2) rfl (bT (bV 4) (bT (bV 5) gi))),aK (aC D.OS B hr #[aC D.Xh (xB D) hr #[2,aQ bh (pv 1) az,4],aQ bh (pv 1) az,aQ bh (pv 1) az,5])] bq,bR (aV eK (pv 3) bx (bz _)) #v[aK (aC D.OS B hr #[2,aQ bh (pv 1) az,aQ bh (pv 1) az,i6 lE (aC D.Dg (gI D 41) hr #[2,aQ bh (pv 1) az]) (jb (aQ bh (pv 1) az)) (jb (aQ bh (pv 1) az))])] bq,bR (aV eK (pv 3) bx (bz _)) #v[aK (aC D.OS B hr #[2,aQ bh (pv 1) az,aQ bh (pv 1) az,bO #[bI cV (gZ fD az) (aQ bh (pv 1) az)]])] bq,bR (aV eK (pv 3) bx (bz _)) #v[aK (aC D.Dg (gI D 41) hr #[2,aQ bh (pv 1) az])] bq,aK (aQ bJ (aQ bJ (eS hu (pv 0) bx) (aQ bh (pv 1) az)) (aQ bh (pv 1) az))]
 all_goals try dsimp only[aP,aG]
 let⟨ik,x,ps,vl,B⟩:=id wo;let zr:=gp.k (k:=kR) B.hw;rw[show cG (kK ik x ps vl) kR=⇑↥x by kernel_rfl]at zr;let R:=B.hr.at_;let⟨y,C,t⟩:=g.sn.rk;let B:=g.ln;let F:↑f<=1000:=by lia
 let L:∀ s,y s<=41:=λs=>by have:=C s;lia
 let ae:∀ m∈f,↑m<=25000:=λm G=>by have:=g.es m G;lia
 exists Y,w,Y,zr
 let S:∀ {s u:Int} {B:Wp} {q o:Addr} {k:Hp} {Q:VK} {E:XK},qz ↑f s->gX (λ_=>False) k q f->k o=⇑(.lst (B.map V.int))->↑B<=25000->aI H k->(∀ (o:Addr) (c:Hp),c o=⇑(.lst ((fX i u (own f s) B).map V.int))->↑(fX i u (own f s) B)<=100000->aI H c->H o=none->Q ↥o c)->II 41 [↥q,.int s,.int u,↥o] k Q E:=by
  intro s u B q o k Q E c r I J j N;refine⟨_,q,o,f,s,u,B,i,y,1,r,F,ae,g.sn.sd,g.sn.ss,g.sn.ln,t,c.1,c.2,L s,I,J,λm O M v z n l T=>?_⟩;rw[jG c]at v;cases v;exact N O M z n (j.trans l) (aT j T)
 cases dd with
 | put s u l row =>
  let⟨e,z⟩:=e;let⟨c,U,n,r⟩:=p;exists Y,d,K,V,dG.of e,tw;refine⟨Y,1,Y,je ?_⟩;let n:=Ah (k:=40) (a:=row) λq h=>by have:=r q h;lia
  refine⟨Y,Y,d,K,V,dG.of e,uH,Y,d,K,V,dG.of e,AL,Y,d,K,V,dG.of e,AM,l,row,1,z,λq h=>by have:=r q h;lia,Q,Q,λJ k v j N=>?_⟩;exact S c (R.same j) v ∅ j A
 | cut s a b =>
  let⟨c,n⟩:=p;exists Y,d,K,V,dG.of e,tw;refine⟨Y,1,Y,cM nofun ⟨Y,1,Y,je ?_⟩⟩;refine⟨Y,Y,d,K,V,dG.of e,uH,Y,d,K,V,dG.of e,AL,Y,d,K,V,dG.of e,AM,_,x,f,s,a,b,i,y,1,R,F,(λm G=>by have:=g.es m G;lia),g.sn.sd,g.sn.ss,g.sn.ln,t,c.1,c.2,L s,n.2.1,λm T N ag k v U X hM j fL fM ak=>?_⟩;rw[jG c]at v;cases v;refine⟨T,K,V,dG.of U,tw,A N k X ?_ j fL⟩;let B:=tM i a b (own f s);let O:=g.sl s c.1 c.2;rw[g.sn.ss s _ c.1 (jG c)]at O;have:=g.es _ (lU (jG c));show ↑(bW i a b (own f s))<=_;lia
 | T8 s a b ab =>
  let⟨c,mv⟩:=p;let n:=mv.1;let lo:=g.es _ (lU (jG c));let am:=g.sn.ss s _ c.1 (jG c);let O:=g.sl s c.1 c.2;rw[am]at O;let B:=tM i a b (own f s);let B:=Al i a b (own f s);exists Y,d,K,V,dG.of e,tw;refine⟨Y,1,Y,cM nofun ⟨Y,1,Y,cM nofun ⟨Y,1,Y,je ?_⟩⟩⟩;refine⟨Y,Y,d,K,V,dG.of e,uH,Y,d,K,V,dG.of e,AL,Y,d,K,V,dG.of e,AM,_,x,f,s,a,b,i,y,1,R,F,(λm G=>by have:=g.es m G;lia),g.sn.sd,g.sn.ss,g.sn.ln,t,c.1,c.2,L s,n.2.1,λm T N ag k v U X hM j fL fM ak=>?_⟩;rw[jG c]at v;cases v;let⟨vs,an,al⟩:=R.same j;let v:=al.len;let v:=c.1;let v:=c.2;let I:=j _ _ e;exists T,Y,dG.of U,1,P,1,Z;refine⟨Y,Y,d,K,V,dG.of I,uH,Y,x,N,s.toNat,vs,(by rw[show ((s.toNat:Nat):Int)=s by lia];rfl),an,Q,Q,λq M r l v=>?_⟩;let ai:=l _ _ I;let⟨sg,J⟩:=Qe (h:=a) (i:=b) g.sn.sd C t g.sn.ss g.sn.ln c.1 c.2 (jG c) n.2.1
  let T9:(f.set s.toNat (bW i a b (own f s)))[s.toNat]?=⇑(bW i a b (own f s)):=by
   rw[List.getElem?_set,if_pos rfl,if_pos ∅]
  let R2:gX (λ_=>False) M q (f.set s.toNat (bW i a b (own f s))):=⟨_,r,cF.set _ (al.mono λv m z=>fT.same l z) ⟨N,1,λz=>z,l _ _ X⟩⟩
  refine⟨Y,d,K,V,dG.of ai,uH,Y,d,K,V,dG.of ai,SD,Y,_,q,ag,_,s,ab,iH i a b (own f s),sg,y,1,R2,by rw[List.length_set];lia,(λve hm=>by
   rcases List.mem_or_eq_of_mem_set hm with z|z
   ·exact ae ve z
   ·rw[z];lia),J.snd,J.O7,J.bd,(λm v h=>t m v (J.nx m v h)),c.1,by rw[List.length_set];exact c.2,L s,l _ _ hM,Q,λve o H3 J5 h3 l3 s3 f3=>?_⟩
  rw[T9]at J5;cases J5;rw[Ua g.sn.sd C t g.sn.ss c.1 (jG c) n.1 n.2.1 n.2.2 J T9]at h3 l3;exact A o H3 h3 l3 (j.trans (l.trans s3)) (aT (j.trans l) f3)
 | Vr ab u s a b =>
  let⟨T,U,c,n⟩:=p;exists Y,d,K,V,dG.of e,tw;refine⟨Y,1,Y,cM nofun ⟨Y,1,Y,cM nofun ⟨Y,1,Y,cM nofun ⟨Y,1,Y,je ?_⟩⟩⟩⟩;let O:=g.sl s c.1 c.2;refine⟨Y,Y,d,K,V,dG.of e,uH,Y,d,K,V,dG.of e,AL,Y,Y,d,K,V,dG.of e,AM,_,x,f,s,i,y,1,R,F,g.sn.sd,c.1,c.2,g.sn.ss,g.sn.ln,t,by have:=C s;lia,λJ k v j N=>?_⟩;let I:=j _ _ e;refine⟨Y,d,K,V,dG.of I,SD,Y,Y,d,K,V,dG.of I,hP,Y,J,Y,bM.of v,λq r=>?_⟩;let l:=ao r (.lst (j7 ((i s).map V.int) (⇑a) (⇑b)));let z:(aO k q (.lst (j7 ((i s).map V.int) (⇑a) (⇑b)))) q=⇑(.lst ((((i s).take b.toNat).drop a.toNat).map V.int)):=by rw[af,F0 _ n.1 (by have:=n.1;have:=n.2.1;lia),List.map_drop,List.map_take]
  generalize aO k q (.lst (j7 ((i s).map V.int) (⇑a) (⇑b)))=M at l z;exact S T (R.same (j.trans l)) z (by rw[pV,gw];lia) (j.trans l) A
 | win ab u s =>
  let⟨T,U,c⟩:=p;exists Y,d,K,V,dG.of e,tw;refine⟨Y,1,Y,cM nofun ⟨Y,1,Y,cM nofun ⟨Y,1,Y,cM nofun ⟨Y,1,Y,cM nofun ⟨Y,1,Y,je ?_⟩⟩⟩⟩⟩;refine⟨Y,Y,d,K,V,dG.of e,uH,Y,d,K,V,dG.of e,AL,Y,Y,d,K,V,dG.of e,AM,Z,mF,λq r=>?_⟩;exact S T (R.same (ao r _)) af (by show 1<=25000;decide) (ao r _) A
 | fix s =>
  exists Y,d,K,V,dG.of e,tw;refine⟨Y,1,Y,cM nofun ⟨Y,1,Y,cM nofun ⟨Y,1,Y,cM nofun ⟨Y,1,Y,cM nofun ⟨Y,1,Y,cM nofun ⟨Y,1,Y,je ?_⟩⟩⟩⟩⟩⟩;exact⟨Y,Y,d,K,V,dG.of e,uH,_,x,f,s,i,y,1,R,F,g.sn.sd,p.1,p.2,g.sn.ss,g.sn.ln,t,by have:=C s;lia,λJ k v j N=>A J k v (by have:=g.sl s p.1 p.2;show ↑(i s)<=_;lia) j N⟩
theorem Qh{n:Nat}{a:Row}(h:∀ z∈a,0<=z.1/\z.1<z.2/\z.2<=(n:Nat)):nC n a=true:=List.all_eq_true.mpr λq b=>by
 have:=h q b;unfold Px;simp only[Bool.and_eq_true,decide_eq_true_eq];lia
def Ub:Sp:=λ_ _ _ _=>False
theorem Qi{k:Nat}{f:Addr}{a:UV}:bg P w K mg zt cO k f c a Ub:=⟨λb H Q E h=>h.elim,λA d s H args e b Q E _ _ _ _ h=>h.elim⟩
def mu{i:Int}(a:0<=i)(b:i<=20000):vg i:=by
 let c:(20000:Int)<10^60:=by decide
 exact⟨Q,Q⟩
class inductive Qj(C CS CW CB:Addr)
 | mk (U:Y1) (x h:Addr) (d:gP) (f:gQ) (c:fY) (i:Nat) (j:Row) (a:c9) (e:Y2) (b:LD) (_:vs=[↥x,↥h]) (_:mT C CS CW CB U H x d f c i j) (_:d.getLast?=⇑a) (_:↑d<=900) (_:↑f<=900) (_:↑c<=10000) (_:b.At H h) (_:Gd ↑c a e) (_:b.Ok ↑c ↑a e) (_:∃ m,mS (iR a b.sh.toNat (b.res e a)) m) (_:∀ (k:Y1) (g:Hp) (l:gQ),↑l=↑f+1->mT C CS CW CB k g x (d++[iR a b.sh.toNat (b.res e a)]) l c i j->vj U k H g->Q .fQ g)
theorem Gq:‹(7,104,["_law_house","_law_deed_here"],(Qj C CS CW CB))›:=λD=>by
 let A4:bg P w K mg zt cO 4 (aZ 66) (bf 66) ["self","hand","text"] Ub:=Qi;let An:bg P w K mg zt cO 4 (aZ 63) (bf 63) ["self"] Ub:=Qi;let A5:bg P w K mg zt cO 4 (aZ 103) (bf 103) ["self","sheet","moment"] Ub:=Qi;specialize ef ["_law_house","_law_deed_here","_law_name"] D.UT.F;let⟨U,x,d,B,q,t,F,G,n,u,dd,rfl,v,I,J,L,l4,c,ab,y,M,N⟩:=h;exists _,#v[aY 2 (aQ bh (pv 1) az),bR (aV eK (pv 2) bx (bz _)) #v[aK (cH (pv 0) D.aM D.Xd A4 hr bL #[aQ bh (pv 1) az,aQ bh (pv 1) az])] bq,bR (aV eK (pv 2) bx (bz _)) #v[aK (ff (pv 0) D.aM D.Xb An hr bL)] bq,bR (aV eK (pv 2) bx (bz _)) #v[aK (cH (pv 0) D.aM D.km (Ac D) hr bL #[aQ bh (pv 1) az,aQ bh (pv 1) az,eV gm rfl D.T.jg su #[aQ bh (pv 1) az]])] bq,bR (aV eK (pv 2) bx (bz _)) #v[aK (cH (pv 0) D.aM D.kr (Ad D) hr bL #[aQ bh (pv 1) az,aQ bh (pv 1) az,aQ bh (pv 1) az])] bq,bR (aV eK (pv 2) bx (bz _)) #v[aK (cH (pv 0) D.aM D.kz (xO D) hr bL #[aQ bh (pv 1) az,aQ bh (pv 1) az,aQ bh (pv 1) az,aQ bh (pv 1) az])] bq,bR (aV eK (pv 2) bx (bz _)) #v[aK (cH (pv 0) D.aM D.kv (wz D) hr bL #[aQ bh (pv 1) az,aQ bh (pv 1) az,aQ bh (pv 1) az,aQ bh (pv 1) az,aQ bh (pv 1) az])] bq,bR (aV eK (pv 2) bx (bz _)) #v[aK (cH (pv 0) D.aM D.kw (uX D) hr bL #[aQ bh (pv 1) az,aQ bh (pv 1) az,aQ bh (pv 1) az])] bq,bR (aV eK (pv 2) bx (bz _)) #v[aK (cH (pv 0) D.aM D.kx (Ae D) hr bL #[aQ bh (pv 1) az])] bq,aK (cH (pv 0) D.aM D.re A5 hr bL #[aQ bh (pv 1) az,aQ bh (pv 1) az])]
 all_goals try dsimp only[aP,aG]
 let ae:=ab.ln;let O:↑n<=50:=by lia
 let R:=ab.sn;let S:∀ {ae:List Nat},↑(q++[ae])=↑q+1:=λ{ae}=>by rw[dm];rfl
 let r:∀ {s:Int},qz ↑n s->vg s:=λz=>mu z.1 (by have:=z.2;lia);have A:∀ {s p:Int},qz ↑n s->0<=p->p<=↑(u s)->vg p:=λz p0 p1=>mu p0 (by have:=ab.sl _ z.1 z.2;lia);let⟨S',TM,T,Ve,QS,YE,YF,YG,YH,YI,AE,Ek,ae,ag,ai,ak,am,an,DG,LU⟩:=id v;have W:=LU.L.hx
 cases dd with
 | put s p ae row =>
  let⟨c,Qg⟩:=c;let⟨e,i,r2,hq⟩:=y;let hh:=Qh (n:=↑t) (a:=row) λz h=>by have:=hq z h;exact⟨this.1,this.2.1,this.2.2.1⟩
  let⟨o,ha,pa⟩:=id Qg;exists Y,d,K,V,dG.of c,tw;refine⟨Y,1,Y,cM nofun ⟨Y,1,Y,cM nofun ⟨Y,1,Y,je ?_⟩⟩⟩;refine⟨Y,x,T,Y,W,1,Y,d,K,V,dG.of c,uH,Y,d,K,V,dG.of c,AL,Y,d,K,V,dG.of c,AM,ae,Y,.inl (bM.of ha),λf VT=>?_⟩;let X:=ao VT (.lst (o.map V.ref));let LJ:bP (aO H f (.lst (o.map V.ref))) f row:=⟨o,af,pa.same X⟩;generalize aO H f (.lst (o.map V.ref))=o at X LJ;refine⟨U,x,f,B,q,t,F,G,row,s,p,n,1,v.same X,LJ,⟨Q,λz h=>by have:=hq z h;exact⟨⟨Q,Q⟩,⟨Q,Q⟩⟩⟩,Q,I,O,J,L,r e,A e i.1 i.2,e,hh,⟨u,R,i,λes g=>?_⟩⟩;rw[jG e]at g;cases g
  let o:dI (cY (cA row))=bw row:=by
   rw[nX,j8 _ λf h=>by have:=hq f h;lia]
  rw[o];exact⟨M,λj k l m=>N j k _ S l (m.pre X)⟩
 | cut s a b =>
  let⟨e,f⟩:=y;exists Y,d,K,V,dG.of c,tw;refine⟨Y,1,Y,cM nofun ⟨Y,1,Y,cM nofun ⟨Y,1,Y,cM nofun ⟨Y,1,Y,je ?_⟩⟩⟩⟩;refine⟨Y,x,T,Y,W,1,Y,d,K,V,dG.of c,uH,Y,d,K,V,dG.of c,AL,Y,d,K,V,dG.of c,AM,U,x,B,q,t,F,G,s,a,b,n,1,v,I,O,J,L,r e,A e f.1 (by have:=f.2.1;have:=f.2.2;lia),A e (by have:=f.2.1;have:=f.1;lia) f.2.2,e,⟨u,R,f,λes g=>?_⟩⟩;rw[jG e]at g;cases g;exact⟨M,λj k l m=>N j k _ S l m⟩
 | T8 s a b X =>
  let⟨e,i⟩:=y;let f:=i.1;let o:=f.1;let o:=f.2.1;let o:=f.2.2;let o:=i.2;let o:=ab.sl s e.1 e.2;exists Y,d,K,V,dG.of c,tw;refine⟨Y,1,Y,cM nofun ⟨Y,1,Y,cM nofun ⟨Y,1,Y,cM nofun ⟨Y,1,Y,cM nofun ⟨Y,1,Y,je ?_⟩⟩⟩⟩⟩;refine⟨Y,x,T,Y,W,1,Y,d,K,V,dG.of c,uH,Y,d,K,V,dG.of c,AL,Y,d,K,V,dG.of c,AM,Y,d,K,V,dG.of c,SD,U,x,B,q,t,F,G,s,a,b,X,n,1,v,I,O,J,L,r e,⟨Q,Q⟩,⟨Q,Q⟩,⟨Q,Q⟩,e,⟨u,R,i,λes g=>?_⟩⟩;rw[jG e]at g;cases g;exact⟨M,λj k l m=>N j k _ S l m⟩
 | Vr X p s a b =>
  let⟨o,i,e,f⟩:=y;exists Y,d,K,V,dG.of c,tw;refine⟨Y,1,Y,cM nofun ⟨Y,1,Y,cM nofun ⟨Y,1,Y,cM nofun ⟨Y,1,Y,cM nofun ⟨Y,1,Y,cM nofun ⟨Y,1,Y,je ?_⟩⟩⟩⟩⟩⟩;refine⟨Y,x,T,Y,W,1,Y,d,K,V,dG.of c,uH,Y,d,K,V,dG.of c,AL,Y,d,K,V,dG.of c,AM,Y,d,K,V,dG.of c,SD,Y,d,K,V,dG.of c,hP,U,x,B,q,t,F,G,X,p,s,a,b,n,1,v,I,O,J,L,r o,A o i.1 i.2,r e,A e f.1 (by have:=f.2.1;have:=f.2.2;lia),A e (by have:=f.2.1;have:=f.1;lia) f.2.2,o,e,⟨u,R,f,⟨i,λes g=>?_⟩⟩⟩;rw[jG o]at g;cases g;exact⟨M,λj k l m=>N j k _ S l m⟩
 | win X p s =>
  let⟨o,i,e⟩:=y;exists Y,d,K,V,dG.of c,tw;refine⟨Y,1,Y,cM nofun ⟨Y,1,Y,cM nofun ⟨Y,1,Y,cM nofun ⟨Y,1,Y,cM nofun ⟨Y,1,Y,cM nofun ⟨Y,1,Y,cM nofun ⟨Y,1,Y,je ?_⟩⟩⟩⟩⟩⟩⟩;refine⟨Y,x,T,Y,W,1,Y,d,K,V,dG.of c,uH,Y,d,K,V,dG.of c,AL,Y,d,K,V,dG.of c,AM,U,x,B,q,t,F,G,X,p,s,n,1,v,I,O,J,L,r o,A o i.1 i.2,r e,o,e,⟨u,R,i,λes g=>?_⟩⟩;rw[jG o]at g;cases g;exact⟨M,λj k l m=>N j k _ S l m⟩
 | fix s =>
  exists Y,d,K,V,dG.of c,tw;refine⟨Y,1,Y,cM nofun ⟨Y,1,Y,cM nofun ⟨Y,1,Y,cM nofun ⟨Y,1,Y,cM nofun ⟨Y,1,Y,cM nofun ⟨Y,1,Y,cM nofun ⟨Y,1,Y,cM nofun ⟨Y,1,Y,je ?_⟩⟩⟩⟩⟩⟩⟩⟩;refine⟨Y,x,T,Y,W,1,Y,d,K,V,dG.of c,uH,U,x,B,q,t,F,G,s,n,1,v,I,O,J,L,r y,y,⟨u,R,M,λj k l m=>N j k _ S l m⟩⟩
class inductive Qk
 | mk (l c w:Addr) (W:Y1) (d:fY) (f:gP) (g:c9) (_:vs=[↥l,↥w]) (_:cX H l c) (_:Wo 100 aN W H w d f g) (_:(∀ a,W a->a≠l/\a≠c)) (_:↑d<=50000) (_ :
 ∀ (r:Addr) (e:Row) (b:Hp),↑e<=2->bP b r e->(∀ p∈e,0<=p.1/\p.1<p.2/\p.2<=↑d/\p.2<=p.1+40)->H r=none->cX b l c->cy l H b->Q ↥r b)
theorem qD:‹(2,105,["_law_src_here","_law_world_here"],Qk)›:=λD=>by
 let m:bg P w K mg zt cO 1 _ _ Yi sU:=d8 D;specialize ef ["_law_src_here","_law_world_here","_law_many","_law_row","_law_k","_law_start","_law_span"] D.OT.F;let⟨l,i,w,W,b,N,rq,rfl,S,O,dw,M,ab⟩:=h;let N:=gH hr;exists _,#v[aY 2 (eY D.T.eL (eS N (pv 1) bx)),aY 3 (bO ah),eE PassesOwn.never rfl (jk rfl D.T.jd #[bI Hj (aC D.vh m hr #[0,az]) (cz (nK rfl) rfl D.T.Fp PyProof.Rows.boot_min #[az,2])]) (bV 4) #v[aY 5 (aC D.vh m hr #[0,cz (lJ rfl) rfl D.T.zG PyProof.Rows.boot_max #[az,2]]),aY 6 (bI dP az (aC D.vh m hr #[0,cz (lJ rfl) rfl D.T.zG PyProof.Rows.boot_max #[az,cz (nK rfl) rfl D.T.Fp PyProof.Rows.boot_min #[aQ bJ (bO #[az,az,az,az]) (aC D.vh m hr #[0,az]),bI cV (pv 2) (pv 5)]]])),aU (dM n9 jm jo bU (pv 3) #[cW #[5,bI dP (pv 5) (pv 6)]])],aK (pv 3)]
 all_goals try dsimp only[aP,aG]
 let⟨m,rw,ps,vl,N⟩:=id O;let⟨as,yg,O⟩:=id N.hi;let la:=Paired.length O;let O:=gp.k (k:=kI) N.hw;rw[show cG (kK m rw ps vl) kI=⇑↥m by kernel_rfl]at O;exists Y,w,Y,O,m,Y,.inl (bM.of yg);refine⟨gK,λr o=>?_⟩;let x:=ao o (.lst []);let R:(aO H r (.lst [])) r=⇑(.lst []):=af;let s:=S.ne o;let T:=S.same x;generalize aO H r (.lst [])=m at x R T;refine⟨Y,l,i,3,1,T,E,E,λU m N O S2 X=>?_⟩;rw[show ↑(as.map V.ref)=↑b by rw[cC,la]];exists Y,P,1,Z,.inl ⟨Q,Q⟩
 let hm:∃ n:Nat,(U*(if (↑b:Int)<1 then (↑b:Int) else 1))=n/\n<=2/\(0<n->1<=↑b):=by
  split
  ·rename_i z;refine⟨0,?_,Q,Q⟩;rw[show (↑b:Int)=0 by lia];exact Int.mul_zero _
  ·exact⟨U.toNat,by rw[Int.mul_one];lia,Q,λ_=>by lia⟩
 let⟨n,en,m,n1⟩:=hm
 let u:(if (↑b:Int) > 1 then (↑b:Int) else 1)=if 1<=↑b then (↑b:Int) else 1:=by split <;> split <;> lia
 refine⟨n,congrArg (λz=>[V.int z]) en,Q,Q,nJ (lo:=0) (n:=((n:Nat):Int).toNat) (λm A f=>∃ (B C F:Option V) (d:Row),A=[⇑↥l,⇑↥w,⇑(.int (↑b:Nat)),⇑↥r,B,C,F]/\bP f r d/\↑d=m/\(∀ p∈d,0<=p.1/\p.1<p.2/\p.2<=↑b/\p.2<=p.1+40)/\cX f l i/\cy l H f) ⟨none,none,none,[],1,⟨[],(X r s.1.symm).trans R,.nil⟩,1,(λp j=>nomatch j),S2,(_gn.aI.keep x).trans (cB X)⟩ ?_ ?_⟩
 ·rintro m A f hj ⟨B,C,F,d,rfl,G,lr,j,v,I⟩;let m:1<=↑b:=n1 ∅;rw[if_pos m]at u;refine⟨Y,Y,P,1,l,i,Y,v,(by rw[u];lia),(by rw[u];lia),λa H4 a0 x m k4=>?_⟩;rw[u]at x;refine⟨Y,Dd,λt u=>?_⟩;let J:=ao u (.lst [.int 4,.int 4,.int 4,.int 40]);let h5:(aO H4 t (.lst [.int 4,.int 4,.int 4,.int 40])) t=⇑(.lst [.int 4,.int 4,.int 4,.int 40]):=af;let nt:=m.ne u;let S5:=m.same J;generalize aO H4 t (.lst [.int 4,.int 4,.int 4,.int 40])=m at J h5 S5;refine⟨Y,l,i,4,1,S5,E,E,λL u m x S6 k6=>?_⟩;let⟨z,g,ez⟩:=Gb (a:=[V.int 4,.int 4,.int 4,.int 40]) m (by show L<4;lia)
  obtain⟨q,rfl,m,u⟩:∃ q:Int,z=.int q/\4<=q/\q<=40:=by
   rcases List.mem_cons.mp g with y|g
   ·exact⟨4,y,E,E⟩
   rcases List.mem_cons.mp g with y|g
   ·exact⟨4,y,E,E⟩
   rcases List.mem_cons.mp g with y|g
   ·exact⟨4,y,E,E⟩
   ·exact⟨40,List.mem_singleton.mp g,E,E⟩
  exists t,K,V,bM.of ((k6 t nt.1.symm).trans h5),ez
  let hX:∃ x:Int,(if (if (↑b:Int)-a<q then (↑b:Int)-a else q) > 1 then (if (↑b:Int)-a<q then (↑b:Int)-a else q) else 1)=x/\1<=x/\x<=↑b-a/\x<=40:=⟨Y,by split <;> split <;> lia,by split <;> split <;> lia,by split <;> split <;> lia⟩
  let⟨b,g,m,M2,q⟩:=hX;refine⟨Y,Y,Z,P,1,P,1,l,i,Y,S6,(by rw[g];lia),(by rw[g];lia),λc b i M u m=>⟨Z,?_⟩⟩;rw[g]at M;let i:cy l f b:=(((cB k4).trans (_gn.aI.keep J)).trans (cB k6)).trans (cB m);let⟨q,t,g⟩:=G;let⟨m,x⟩:=v.lst;let m:=i _ _ t s.1.symm;let z:bC b q d:=g.tups λa J e=>i _ _ e (cQ e x);have t:=Paired.length g;refine⟨Y,.inl ⟨1,_,bM.of m⟩,Y,Y,Y,Z,lG,λp t=>⟨r,Z,ao t _ _ _ m,(by rw[cC];exact aS ∅),?_⟩⟩;have g:=ao t (.tup [.int a,.int (a+(1+c))]);have t:(aO b p (.tup [.int a,.int (a+(1+c))])) p=⇑(.tup [.int a,.int (a+(1+c))]):=af;have ae:=g _ _ m;have S8:=u.same g;have K8:cy l H (aO b p (.tup [.int a,.int (a+(1+c))])):=(I.trans i).trans (_gn.aI.keep g);have b:=bC.snoc (p:=(a,a+(1+c))) (z.same g) t;refine⟨K,d++[(a,a+(1+c))],1,⟨q++[p],by rw[gx];exact af,b.tups λy J e=>?_⟩,by rw[dm,lr];rfl,λy k=>?_,?_,λy b e n=>?_⟩
  ·exact (aL (cQ e ae)).trans e
  ·rcases List.mem_append.mp k with k|k
   ·exact j y k
   ·rw[List.mem_singleton.mp k];exact⟨a0,by show a<a+(1+c);lia,by show a+(1+c)<=_;lia,by show a+(1+c)<=a+40;lia⟩
  ·let⟨n,a,L,b,c,g,i,k⟩:=S8;exact⟨n,a,L,b,c,(aL s.1).trans g,(aL s.2).trans i,k⟩
  ·exact (aL (aA e o)).trans (K8 _ _ e n)
 rintro A f ⟨B,C,F,d,rfl,G,lr,j,v,I⟩;exact⟨Y,ab r d f ∅ G j o v I⟩
class inductive Ql
 | mk (l e:Addr) (s m:Int) (_:vs=[↥l,.int s,.int m]) (_:cX H l e) (_:0<=m) (_:m<=10000) (_:∀ (a b u:Int) (t:Addr) (d:LD) (c:Hp),Mv a b u m->(d=.cut s a b\/d=.T8 s a b u)->d.At c t->cX c l e->cy l H c->Q ↥t c)
theorem Ao:‹(2,106,["_law_src_here","_law_sheet","_law_room"],Ql)›:=λD=>by
 let c:bg P w K mg zt cO 1 _ _ Yi sU:=d8 D;specialize ef ["_law_src_here","_law_sheet","_law_room","_law_start","_law_stop"] D.UU.F;let⟨l,d,s,g,rfl,S,i,j,k⟩:=h;exists _,#v[aY 3 (aC D.vh c hr #[0,bI dP (pv 2) az]),aY 4 (bI dP (pv 3) (aC D.vh c hr #[0,bI dP (bI cV (pv 2) (pv 3)) az])),bR (aV eK (aC D.vh c hr #[0,az]) az (bz _)) #v[aK (cW #[bx,1,3,4])] bq,aK (cW #[bx,1,3,4,aC D.vh c hr #[0,bI dP (bI dP (bI cV (pv 2) (pv 4)) (pv 3)) az]])]
 all_goals try dsimp only[aP,aG]
 refine⟨Y,Y,Z,l,d,Y,S,Q,Q,λa i j o c g=>?_⟩;refine⟨Y,Y,Y,Y,Z,Z,l,d,Y,c,Q,Q,λv j o p c i=>⟨Z,?_⟩⟩;refine⟨Y,l,d,2,1,c,E,E,λz c _ _ e j=>⟨1,Y,?_⟩⟩;let f:cy l H c:=((cB g).trans (cB i)).trans (cB j);refine dD (λ_=>?_) (λ_=>?_)
 ·refine⟨Y,Y,Y,Dd,λt b=>?_⟩;exact k a (a+v) 0 t (.cut s a (a+v)) _ ⟨⟨Q,Q,Q⟩,Q,Q⟩ (.inl rfl) af (e.same (ao b _)) (f.trans (_gn.aI.keep (ao b _)))
 ·refine⟨Y,Y,Y,Y,Y,Y,Z,Y,Z,Z,l,d,Y,e,Q,Q,λu c d e m n=>⟨WJ,λt b=>?_⟩⟩;exact k a (a+v) u t (.T8 s a (a+v) u) _ ⟨⟨Q,Q,Q⟩,Q,Q⟩ (.inr rfl) af (m.same (ao b _)) ((f.trans (cB n)).trans (_gn.aI.keep (ao b _)))
def LD.sH(H:Hp):LD->Prop
 | .put _ _ r _=>H r=none
 | _=>True
class inductive Qm
 | mk (W:Y1) (l e w:Addr) (b:fY) (h:gP) (c:c9) (g:Y2) (_:vs=[↥l,↥w]) (_:cX H l e) (_:Wo 100 aN W H w b h c) (_:∀ a,W a->a≠l/\a≠e) (_:Gd ↑b c g) (_:1<=↑c) (_:↑b<=10000) (_:∀ (t:Addr) (f:LD) (d:Hp),f.At d t->f.Ok ↑b ↑c g->f.sH H->cX d l e->cy l H d->Q ↥t d)
theorem Gr:‹(43,107,["_law_src_here","_law_world_here"],Qm)›:=λD=>by
 let b:bg P w K mg zt cO 1 _ _ Yi sU:=d8 D;specialize ef ["_law_src_here","_law_world_here","_law_rows","_law_way","_law_sheet","_law_other","_law_room","_law_place","_law_start"] D.UW.F;let⟨W,l,i,w,A,B,f,C,rfl,S,y,F,g,k,q,v⟩:=h;let k:=gH hr;exists _,#v[aY 2 (eS k (pv 1) bx),aY 3 (aC D.vh b hr #[0,az]),aY 4 (aC D.vh b hr #[0,eY D.T.eL (pv 2)]),aY 5 (aC D.vh b hr #[0,eY D.T.eL (pv 2)]),aY 6 (eY D.T.eL (aC D.Dg (gI D 41) hr #[2,4])),aY 7 (aC D.vh b hr #[0,bI dP (pv 6) az]),bR (aV jt (pv 3) az (bz _)) #v[aK (cW #[bx,4,7,aC D.OT (qD D) hr #[0,1]])] bq,bR (aV jt (pv 3) az (bz _)) #v[aK (aC D.UU (Ao D) hr #[0,4,6])] bq,bR (aV jt (pv 3) az (bz _)) #v[aY 6 (eY D.T.eL (aC D.Dg (gI D 41) hr #[2,5])),aY 8 (aC D.vh b hr #[0,bI dP (pv 6) az]),aK (cW #[bx,4,7,5,8,bI dP (pv 8) (aC D.vh b hr #[0,bI dP (bI cV (pv 6) (pv 8)) az])])] bq,bR (aV jt (pv 3) az (bz _)) #v[aK (cW #[bx,4,7,5])] bq,aK (cW #[bx,4])]
 all_goals try dsimp only[aP,aG]
 let⟨b,j,k,U,q⟩:=id y;let M:=gp.k (k:=kR) q.hw;rw[show cG (kK b j k U) kR=⇑↥j by kernel_rfl]at M;let b:=g.ln;let⟨N,O,R⟩:=id g.sn.rk;let⟨U,X⟩:=S.lst;obtain⟨k,y⟩:∃ k,Wo 100 k W H w A B f:=⟨_,y⟩;let kp:∀ {b:Hp},cy l H b->gX (λ_=>False) b j f/\Wo 100 k W b w A B f:=λ{b} k=>⟨(q.hr.fr (λ_ z=>z) λc q e a _ _=>k _ _ e (F c a).1).at_,y.fr (λc ob e z=>k _ _ e (F c z).1) λc q e=>k _ _ e (cQ e X)⟩
 let y:∀ {b:Hp},cy l H b->∃ q,b j=⇑(.lst q)/\↑q=↑f:=λ{b} k=>by
  let⟨q,e,a⟩:=(kp k).1;exact⟨q,e,a.len⟩
 exists Y,w,Y,M;refine⟨Y,l,i,13,1,S,E,E,λS b X y1 q M=>?_⟩;let k:cy l H b:=cB M;let⟨M,b,S⟩:=y k;refine⟨Y,Y,j,Y,.inl (bM.of b),l,i,Y,q,Q,Q,λs q M b S X=>?_⟩;let b:cy l H q:=k.trans (cB X);let⟨q,k,X⟩:=y b;refine⟨Y,Y,j,Y,.inl (bM.of k),l,i,Y,S,Q,Q,λo q y k S X=>?_⟩;let k:cy l H q:=b.trans (cB X);let d:qz ↑f s:=⟨M,Q⟩;let r:qz ↑f o:=⟨y,Q⟩;let U:=g.sl s d.1 d.2;let lo:=g.sl o r.1 r.2;refine⟨Y,Y,_,j,f,s,C,N,1,(kp k).1,Q,g.sn.sd,d.1,d.2,g.sn.ss,g.sn.ln,R,by have:=O s;lia,λy M b q U=>⟨y,Y,.inl (bM.of b),?_⟩⟩;rw[cC];let y:cy l H M:=k.trans (_gn.aI.keep q);refine⟨Y,Y,Z,l,i,Y,S.same q,Q,Q,λp k q S u M=>?_⟩;let m:cy l H k:=y.trans (cB M);let G:0<=p/\p<=↑(C s):=⟨q,Q⟩;refine⟨Y,Z,Y,dD (λ_=>?_) (λ_=>?_)⟩
 ·refine⟨Y,Y,Y,Y,l,i,w,W,A,B,f,1,u,(kp m).2,F,Q,λx k I q y b z J L=>⟨Dd,λt n=>?_⟩⟩;let a:=ao n (.tup [.str "put",.int s,.int p,↥x]);refine v t (.put s p x k) _ ⟨af,y.same a⟩ ⟨d,G,q,b⟩ ?_ (J.same a) ((m.trans L).trans (_gn.aI.keep a));show H x=none
  cases e:H x with
  | none=>rfl
  | some ob =>
   exfalso;by_cases T:x=l
   ·let⟨_,b⟩:=u.lst;rw[T,b]at z;cases z
   ·rw[m _ _ e T]at z;cases z
 refine⟨Y,Z,Y,dD (λ_=>?_) (λ_=>?_)⟩
 ·refine⟨Y,Y,Y,l,i,s,Y,u,Q,Q,λc k q t b I a n e J L=>v t b I e ?_ ?_ J (m.trans L)⟩
  ·rcases n with rfl|rfl
   ·exact⟨d,a.1⟩
   ·exact⟨d,a⟩
  ·rcases n with rfl|rfl <;> trivial
 refine⟨Y,Z,Y,dD (λ_=>?_) (λ_=>?_)⟩
 ·refine⟨Y,Y,_,j,f,o,C,N,1,(kp m).1,Q,g.sn.sd,r.1,r.2,g.sn.ss,g.sn.ln,R,by have:=O o;lia,λe I f b g=>⟨e,Y,.inl (bM.of f),?_⟩⟩;rw[cC];refine⟨Y,Y,Z,l,i,Y,u.same b,Q,Q,λc g j k e f=>?_⟩;refine⟨Y,Y,Y,Y,Y,Y,Y,Y,Z,Z,l,i,Y,e,Q,Q,λe j k l g i=>⟨Z,hJ,λt n=>?_⟩⟩;let a:=ao n (.tup [.str "quote",.int s,.int p,.int o,.int c,.int (c+e)]);exact v t (.Vr s p o c (c+e)) _ af ⟨d,G,r,Q,Q,Q⟩ trivial (g.same a) ((((m.trans (_gn.aI.keep b)).trans (cB f)).trans (cB i)).trans (_gn.aI.keep a))
 refine⟨Y,Z,Y,dD (λ_=>?_) (λ_=>?_)⟩
 ·refine⟨Y,Y,Y,Dd,λt n=>?_⟩;let a:=ao n (.tup [.str "window",.int s,.int p,.int o]);exact v t (.win s p o) _ af ⟨d,G,r⟩ trivial (u.same a) (m.trans (_gn.aI.keep a))
 ·refine⟨Y,lG,λt n=>?_⟩;let a:=ao n (.tup [.str "fix",.int s]);exact v t (.fix s) _ af d trivial (u.same a) (m.trans (_gn.aI.keep a))
def LD.At.tup{H:Hp}{t:Addr}{a:LD}(h:a.At H t):∃ b,H t=⇑(.tup b)/\oz b 1=⇑(.int a.sh):=by
 cases a with
 | put=>exact⟨_,h.1,1⟩
 | _=>exact⟨_,h,1⟩
def LD.At.kept{H c:Hp}{t:Addr}{b:LD}(h:b.At H t)(d:∀ e a,H e=⇑(.tup a)->c e=⇑(.tup a))(g:∀ s p r f,b=.put s p r f->∀ a,H r=⇑(.lst a)->c r=⇑(.lst a)):b.At c t:=by
 cases b with
 | put s p r f =>
  let⟨i,j,k,l⟩:=h;exact⟨d _ _ i,j,g _ _ _ _ rfl _ k,l.tups d⟩
 | _=>exact d _ _ h
class inductive Gu(C CS CW CB:Addr)
 | mk (l g w x:Addr) (U W:Y1) (a:gP) (b:c9) (f:gQ) (c:fY) (h:Nat) (i:Row) (_:vs=[↥l,↥w,↥x]) (_:pT C CS CW CB H l g w x U W a b a b f c h i) (_:1<=↑b) (_:↑a<=800) (_:↑f<=800) (_:↑c<=10000) (_:Good ↑c b) (_:∀ (m n:Y1) (d:gP) (e:c9) (j:gQ) (k:Hp),pT C CS CW CB k l g w x m n d e d e j c h i->↑e=↑b->↑a<=d.length/\d.length<=↑a+1->↑j<=↑f+1->Good ↑c e->(∀ y∈d,y∈a\/y=e)->Q (.bl true) k)
def Gv(D:Ds K mg aZ bf C CS CW CB CT CD)(IL:bg P w K mg zt cO 43 (aZ 107) (bf 107) ["_law_src_here","_law_world_here"] Qm)(Gw:bg P w K mg zt cO 45 (aZ 102) (bf 102) ["_law_world_here","_law_deed_here"] KI)(IM:bg P w K mg zt cO 43 (aZ 101) (bf 101) ["_law_rows","_law_sheet"] Qf)(IP:bg P w K mg zt cO 7 (aZ 104) (bf 104) ["_law_house","_law_deed_here"] (Qj C CS CW CB)):bg P w K mg zt cO 46 (aZ 108) (bf 108) ["_law_src_here","_law_world_here","_law_house"] (Gu C CS CW CB):=by
 specialize ef ["_law_src_here","_law_world_here","_law_house","_law_deed_here","_law_rows"] D.UX.F;let⟨ap,aq,w,ar,U,W,e,b,O,d,nW,R,rfl,St,r1,b1,b2,b3,S,T⟩:=h;let hu:=gH hr;exists _,#v[aY 3 (aC D.UW IL hr #[0,1]),aY 4 (aC D.Xh (xB D) hr #[eS hu (pv 1) bx,aQ bh (pv 3) az,aC D.US Gw hr #[1,3]]),bR (ir (iU (aC D.UR IM hr #[4,aQ bh (pv 3) az]))) #v[aK lY] bq,aU (aC D.OR (ng D) hr #[1,4]),aK (G7 (CH (aC D.UT IP hr #[2,3])))]
 all_goals try dsimp only[aP,aG]
 let⟨c,g⟩:=S.P9;let ay:=g.ln;refine⟨Y,Y,W,ap,aq,w,d,e,b,c,1,St.src,St.wo,St.dw,g,r1,Q,λt a H1 f n X S1 K1=>?_⟩;let i:=St.mv K1 S1;let⟨q,j,r,u,v⟩:=id i.wo;let zr:=gp.k (k:=kR) v.hw;rw[show cG (kK q j r u) kR=⇑↥j by kernel_rfl]at zr;let⟨_,_,_,xs,ab,al⟩:=id v.hr;let lv:=cF.len al;let⟨tv,ht,ae⟩:=f.tup;let is:=LD.T7 n;let ag:=is.1;let ap:=is.2;let ss:((a.sh.toNat:Nat):Int)=a.sh:=by lia
 refine⟨Y,w,Y,zr,Y,t,K,V,dG.of ht,ae,Y,Y,W,w,t,d,e,b,↑d,c,a,1,i.wo,f,g,n,Q,λai H2 ho lo x fo=>?_⟩;refine⟨j,ai,a.sh.toNat,xs,by rw[ss];rfl,x _ _ ab,Q,Q,λA H3 hq B fq=>?_⟩;let F:=x.trans B;let ak:=aT x fq;let x:=LD.XZ g n;let MF:=Qa (s:=a.sh.toNat) g.en x;let x:gX (λ_=>False) H3 A (b.set a.sh.toNat (a.res c b)):=⟨_,hq,cF.set _ (al.mono λm l ⟨o,k,K,G⟩=>⟨o,k,λz=>z,F _ _ G⟩) ⟨ai,1,λz=>z,B _ _ ho⟩⟩;let av:↑(b.set a.sh.toNat (a.res c b))=↑b:=List.length_set
 refine⟨Y,Y,t,K,V,dG.of (F _ _ ht),ae,_,A,_,a.sh,1,x,Q,(λl k=>by
  rcases List.mem_or_eq_of_mem_set k with z|z
  ·have:=g.es l z;lia
  ·rw[z];exact lo),DS MF,ag,Q,P7 ag g.sn.rk,λo H4 I G=>⟨o,1,?_⟩⟩
 let l:=F.trans I;let QV:=i.same l
 cases o with
 | false=>exact iz (T U W e b O H4 QV rfl ⟨Q,Q⟩ ∅ S λ_ z=>.inl z)
 | true =>
  refine eT ?_;let⟨R5,f5,w5,m5⟩:=G rfl;let am:Good ↑d (b.set a.sh.toNat (a.res c b)):=⟨MF,R5,Q,f5,w5,m5⟩;let o:A1 100 R W H4 w q j r u d e b:=v.fr (λm p k _=>l _ _ k) λm xs k=>l _ _ k;have J:=i.new ak;have L:=i.new fo;let⟨i,rv⟩:=Wo.swap o (l _ _ ab) (I _ _ hq) (I _ _ (B _ _ ho)) J.2.1 L.2.1;refine⟨Y,Y,_,w,A,d,e,b,b.set a.sh.toNat (a.res c b),1,⟨q,j,r,u,i⟩,Q,λi j ⟨k,q,M⟩=>?_,λH5 aw Uu an _=>?_⟩
  ·rw[o.hw]at M;simp only[Option.some.injEq,HO.dK.injEq,kK,List.cons.injEq,Prod.mk.injEq,V.ref.injEq,true_and,and_true]at M;let⟨rfl,rfl,rfl,rfl⟩:=M;exact rv
  let N:=QV.kept aw (λm z y=>by
   rcases y with y|y|y
   ·exact (St.du m z).1 y
   ·exact L.1 (by rw[← y];exact z)
   ·exact J.1 (by rw[← y];exact z)) (λm y=>by
   rcases y with y|y|y
   ·exact St.dw m y
   ·rw[y];exact L.2.2
   ·rw[y];exact J.2.2) Uu an
  let ax:a.At H5 t:=(f.same l).kept an λs k r l i m j=>by
   rw[i]at X f;let nr:=St.new (show H r=none from X);let⟨_,i,p,_⟩:=f;refine Uu _ _ j λy=>?_;rcases y with y|y|y
   ·exact nr.2.1 y
   ·rw[y,fo]at p;cases p
   ·rw[y,ak]at p;cases p
  refine⟨Y,Y,U,ar,t,e,O,d,nW,R,b,c,a,1,N.Eo,N.lst,Q,Q,b3,ax,g,n,by rw[Ge _ ∅];exact am.bears,λU' p dc f d e=>?_⟩;let⟨y,_⟩:=N.sC d (k:=iR b a.sh.toNat (a.res c b)) (by simp) e;rw[Ge _ ∅]at y;show Q (.bl (decide (V.fQ=V.fQ))) p;rw[decide_eq_true rfl];exact T U' _ _ _ dc p y av (by rw[dm];exact⟨Nat.le_add_right ..,fk _⟩) ∅ am λ_ z=>(List.mem_append.mp z).imp id List.mem_singleton.mp
def Uc{f b:Hp}{t:Addr}{h:Int}{g:List Nat}{i d:Nat}{c:WF}(l:f a=none)(m:g[i]?=⇑d)(k:b a=⇑(.lst (c.map V.ref)))(n:Paired (Kz b) c (oO h (g.take i)))(o:aI f b)(j:b t=none):(aO (aO b t (.tup [.int h,qZ d])) a (.lst (c.map V.ref++[↥t]))) a=⇑(.lst ((c++[t]).map V.ref))/\Paired (Kz (aO (aO b t (.tup [.int h,qZ d])) a (.lst (c.map V.ref++[↥t])))) (c++[t]) (oO h (g.take (i+1)))/\aI f (aO (aO b t (.tup [.int h,qZ d])) a (.lst (c.map V.ref++[↥t]))):=by
 refine⟨?_,?_,λp q e=>?_⟩
 ·rw[af,gx];rfl
 ·let p:t≠a:=(aA k j).symm;rw[take_snoc m];unfold oO;rw[gx];refine DL (Paired.AB n λq r e=>?_) ?_
  ·show aO _ a _ q=_;rw[aL (cQ e k)];exact ao j _ _ _ e
  ·show aO _ a _ t=_;rw[aL p];exact af
 ·rw[aL (aA e l)];exact ao j _ _ _ (o _ _ e)
class inductive MG(C CS CW CB:Addr)
 | mk (l i w x:Addr) (U W:Y1) (b:gP) (a:c9) (c:gP) (d:c9) (e:gQ) (f:fY) (g:Nat) (j:Row) (_:vs=[↥l,↥w,↥x]) (_:pT C CS CW CB H l i w x U W b a c d e f g j) (_:↑b<=800) (_:↑c<=800) (_:↑a<=50) (_:↑e<=800) (_:↑f<=50000) (_:g<=800) (_ :
 ∀ (k:Y1) (h:Hp) (m:Int) (n:List Nat) (o:gQ),jZ m->↑n<=60->↑o=↑e+1->pT C CS CW CB h l i w x k W (b++[a]) a (c++[d]) d o (f++oO m n) (g+1) j->KC l U W k W H h->Q (.bl true) h)
def sK:TS:=λD a H=>∃ (l c:Addr) (d e f g h:Option V) (i:Int),a=[⇑↥l,d,e,f,g,⇑(.int i),h]/\cX H l c/\jZ i/\∀ (j:Int) (a:Hp),jZ j->cX a l c->(∀ b,b≠l->a b=H b)->D.nx [⇑↥l,d,e,f,g,⇑(.int j),h] a
theorem Gy:‹(5,109,["_law_src_here","_law_world_here","_law_house"],(MG C CS CW CB))›:=λD=>by
 let L:bg P w K mg zt cO 1 _ _ Yi sU:=d8 D;specialize ef ["_law_src_here","_law_world_here","_law_house","_law_many","_law_text_here","_law_hand","_law_start"] D.UY.F;let⟨l,g,w,am,ay,W,pe,aR,pq,X,aB,M,nW,aN,rfl,St,b1,aZ,b2,b3,b4,b5,ab⟩:=h;let hu:=gH hr;refine⟨_,#v[aY 3 (aQ bJ (bO #[az,az,az,az,az]) (aC D.vh L hr #[0,az])),aY 4 (aC D.lx (Ga D) hr #[0,aC D.vh L hr #[0,bI dP (pv 3) az]]),aY 5 (aC D.vh L hr #[0,az]),vF (c:=sK) (bR (aV eK (aC D.vh L hr #[0,az]) az (bz _)) #v[aY 5 (aC D.vh L hr #[0,bI Nk az az])] bq) ?b3,aY 6 (eY D.T.eL (eS hu (pv 1) bx)),aU (dM n9 PySem.F.slot_list_extend PySem.F.type_list_extend jU (eS hu (pv 1) bx) #[gC (N:=["_law_sign_here","_law_hand"]) (jO (c:=b8 sP) (f:=["_law_src_here","_law_world_here","_law_house","_law_many","_law_text_here","_law_hand","_law_start"]) (d:=[none,some 5]) rfl rfl rfl nofun nofun rfl nofun rfl nofun) rfl (WI (pv 4)) (λ_ _ _ _ _ _=>(bV 0)) (λ_ _ _ _ _ _=>gy) (λ_ _ _ _ _ _=>(cW #[1,0]))]),aU (aC D.OR (ng D) hr #[1,eS hu (pv 1) bx]),aK (aC D.QJ (ki D 2) hr #[cH (pv 2) D.aM D.Xd (xN D) hr bL #[5,4],cW #[6,bI dP (pv 6) (cz tY rfl D.T.eL PySem.boot_len #[4])]])],?_⟩
 all_goals try dsimp only[aP,aG]
 case b3 =>
  rintro D σ H ⟨l,g,s1,b,i,j,k,h,rfl,S,fh,ab⟩;refine⟨Y,l,g,4,1,S,E,E,λan H1 i j b c=>⟨1,Y,dD (λ_=>?_) (λ_=>ab h H1 fh b c)⟩⟩;refine⟨Y,Z,⟨E,E,E⟩,l,g,Y,b,E,E,λe H2 f d S2 N=>?_⟩;rw[show (10:Int)^(59:Int).toNat=10^59 from rfl]at d;exact ab e H2 ⟨f,Int.lt_trans d (by decide)⟩ S2 λy a=>(N y a).trans (c y a)
 refine⟨WJ,λF O=>?_⟩;let s1:=ao O (.lst [.int 1,.int 3,.int 5,.int 8,.int 60]);let h1:(aO H F (.lst [.int 1,.int 3,.int 5,.int 8,.int 60])) F=⇑(.lst [.int 1,.int 3,.int 5,.int 8,.int 60]):=af;let nt:=St.src.ne O;generalize aO H F (.lst [.int 1,.int 3,.int 5,.int 8,.int 60])=H1 at s1 h1;let L:=St.same s1;refine⟨Y,l,g,5,1,L.src,E,E,λi H2 i0 i1 S2 N=>?_⟩;let Gz:=L.mv (cB N) S2;let⟨z,hz,ez⟩:=Gb (a:=[V.int 1,.int 3,.int 5,.int 8,.int 60]) i0 (by show i<5;lia)
 obtain⟨tn,rfl,M5,YA⟩:∃ p:Int,z=.int p/\0<=p/\p<=60:=by
  let b:∀ y∈[V.int 1,.int 3,.int 5,.int 8,.int 60],∃ p:Int,y=.int p/\0<=p/\p<=60:=by
   intro y a;rcases List.mem_cons.mp a with q|a
   ·exact⟨(1),q,E,E⟩
   rcases List.mem_cons.mp a with q|a
   ·exact⟨3,q,E,E⟩
   rcases List.mem_cons.mp a with q|a
   ·exact⟨5,q,E,E⟩
   rcases List.mem_cons.mp a with q|a
   ·exact⟨8,q,E,E⟩
   ·exact⟨60,List.mem_singleton.mp a,E,E⟩
  exact b z hz
 exists F,K,V,bM.of ((N F nt.1.symm).trans h1),ez;refine⟨Y,Y,Y,Z,l,g,Y,S2,Q,Q,λL H3 m0 m1 S3 k3=>?_⟩;let Ep:=Gz.mv (cB k3) S3;refine⟨l,g,L.toNat,by rw[show ((L.toNat:Nat):Int)=L by lia];rfl,S3,Q,λt H4 Rj L K4=>?_⟩;let QV:=Ep.mv K4 L;refine⟨Y,l,g,3,1,L,E,E,λh0 H5 p0 p1 L k5=>?_⟩;let aZ:=QV.mv (cB k5) L;refine⟨l,g,K,P,h0,1,L,⟨p0,Q⟩,λh H6 fh S6 L=>?_⟩;let f:=aZ.mv (cB L) S6;let ap:cy l H H6:=((((((_gn.aI.keep s1).trans (cB N)).trans (cB k3)).trans K4).trans (cB k5)).trans (cB L));let⟨c,rw,I,R,b⟩:=id f.wo;let⟨G,S,pa⟩:=id b.hi;let la:=Paired.length pa;let L:=gp.k (k:=kI) b.hw;rw[show cG (kK c rw I R) kI=⇑↥c by kernel_rfl]at L;exists Y,w,Y,L,c,Y,.inl (bM.of S);refine⟨Y,w,Y,L,.inl ⟨1,_,bM.of S⟩,Y,t,1,λaq cL=>LQ (λp σ r=>∃ (ae:Option V) (s:WF),σ=[ae,⇑(.int h)]/\r aq=⇑(.lst (s.map V.ref))/\Paired (Kz r) s (oO h (t.take p))/\aI H6 r) ⟨none,[],1,af,.nil,ao cL _⟩ ?_ ?_⟩
 ·rintro p d σ r a ⟨ae,s,rfl,ha,J,s7⟩;let lb:=Paired.length J;rw[qU,gw]at lb;refine⟨Y,Y,lG,λF O=>⟨_,ao O _ _ _ ha,(by rw[cC];exact aS ∅),_,s++[F],1,Uc cL a ha J s7 O⟩⟩
 rintro σ r ⟨ae,s,rfl,ha,J,s7⟩;rw[gG]at J;let lb:=Paired.length J;rw[qU]at lb;let ar:=s7 _ _ S;refine⟨c,aq,Z,ar,ha,(by rw[cC,cC];exact gJ (aS ∅)),?_⟩;rw[← gx];let k8:cy c r (aO r c (.lst ((G++s).map V.ref))):=aH c _ _;let i8:(aO r c (.lst ((G++s).map V.ref))) c=⇑(.lst ((G++s).map V.ref)):=af;generalize aO r c (.lst ((G++s).map V.ref))=p at k8 i8;let k:∀ a d,H6 a=⇑d->a≠c->p a=⇑d:=λa d e n=>k8 _ _ (s7 _ _ e) n;have ai:∀ a j,H6 a=⇑(.tup j)->p a=⇑(.tup j):=λa j e=>k _ _ e (cQ e S);have F:∀ a j,r a=⇑(.tup j)->p a=⇑(.tup j):=λa j e=>k8 _ _ e (cQ e ar);have r:p w=⇑(.dK (kK c rw I R)):=k _ _ b.hw (cQ b.hw S);have av:M8 W c I p rw X:=b.hr.fr (λ_ z=>z) λa j e _ n _=>k _ _ e n
 let L:A1 100 aN W p w c rw I R (M++oO h t) pq X:=by
  let⟨o,u,v⟩:=b.hp;refine⟨b.ww,b.wi,b.wp,b.wv,λa z=>?_,r,⟨G++s,i8,A0 (Paired.AB pa λa q e=>ai _ _ e) (Paired.AB J λa q e=>F _ _ e)⟩,av,⟨o,k _ _ u b.ne.symm,v.mono λan o ⟨a,e,q⟩=>⟨a,e,q.fr (λ_ y=>y) λa j e _ n _=>k _ _ e n⟩⟩,b.ne,b.lst,b.hv.imp λ_ z=>⟨k _ _ z.1 b.nv.1,z.2⟩,b.nv⟩;by_cases e:a=c
  ·rw[e];exact⟨_,i8⟩
  ·let⟨d,m⟩:=b.al a z;exact⟨d,k _ _ m e⟩
 let a0:=f.Eo.fr (λa d e z=>k _ _ e (λq=>(f.du a z).1 (by rw[q];exact b.wi))) ai
 let a1:cX p l g:=by
  let⟨n,u,i,v,x,o,m,y⟩:=S6;exact⟨n,u,i,v,x,k _ _ o (λq=>(f.dw c b.wi).1 q.symm),k _ _ m (λq=>(f.dw c b.wi).2 q.symm),y⟩
 let p:=gp.k (k:=kR) r;rw[show cG (kK c rw I R) kR=⇑↥rw by kernel_rfl]at p;refine⟨Y,Y,w,Y,p,W,w,rw,M++oO h t,pq,X,X,1,⟨c,rw,I,R,L⟩,Q,λc p ⟨s,F,e⟩=>?_,λH9 ak ag aw _=>?_⟩
 ·rw[r]at e;simp only[Option.some.injEq,HO.dK.injEq,kK,List.cons.injEq,Prod.mk.injEq,V.ref.injEq,true_and,and_true]at e;let⟨rfl,rfl,rfl,rfl⟩:=e;exact av
 let ax:=a0.fr (λa d e z=>ag _ _ e (f.du a z).1) aw
 let Ud:cX H9 l g:=by
  let⟨n,u,i,v,x,o,m,y⟩:=a1;exact⟨n,u,i,v,x,ag _ _ o (λq=>(f.dw l q).1 rfl),ag _ _ m (λq=>(f.dw g q).2 rfl),y⟩
 let⟨r,s,c,F,I,J,L,N,O,R,S,X,aq,ar,av,aZ,a0,a1,DG,p⟩:=id ax;refine⟨Y,am,c,Y,p.L.hx,1,Y,Y,ay,am,pe,aB,M,nW,aN,h,t,aR,1,ax,fh,Q,Q,Q,f.lst,b2,Q,Q,λU' q MT a2 A c=>?_⟩;refine⟨Y,Y,Y,fH t,1,(by rw[oK];exact gJ (aS ∅)),Z,lG,λp HV=>?_⟩;refine⟨P,1,.inr ⟨false,q,p,Z,ao HV _ _ _ c,af,1,λi ae an T U=>?_⟩,λZ5 a3=>?_⟩
 ·match i,T,U with
  | 0,T,U =>
   cases T;cases U;rw[show ↑(G.map V.ref)=↑M by rw[cC,la]];exact Eqv.int _
  | 1,T,U =>
   cases T;cases U;rw[show (↑(M++oO h t):Int)=(↑(G.map V.ref):Int)+(↑(fH t):Int) by rw[cC,la,oK,dm,qU];lia];exact Eqv.int _
 let B:aI MT Z5:=λa d e=>a3 _ _ (ao HV _ _ _ e);have XJ:∀ a d,H a=⇑d->a≠l->¬ W a->H9 a=⇑d:=λa d e n z=>ag _ _ (k _ _ (ap _ _ e n) (λq=>z (by rw[q];exact b.wi))) z
 let a4:∀ a,H9 a=none->H a=none:=by
  intro a e
  cases y:H a with
  | none=>rfl
  | some d =>
   exfalso;by_cases n:a=l
   ·let⟨_,u,i,v,x,o,_⟩:=Ud;rw[n,o]at e;cases e
   by_cases z:W a
   ·let⟨d,m⟩:=ak.al z;rw[m]at e;cases e
   rw[XJ _ _ y n z]at e;cases e
 let a5:cX Z5 l g:=by
  let⟨n,u,i,v,x,o,m,y⟩:=Ud;exact⟨n,u,i,v,x,B _ _ (A.2.1 _ _ o (λq=>(f.du l q).2.1 rfl)),B _ _ (A.2.1 _ _ m (λq=>(f.du g q).2.2 rfl)),y⟩
 refine ab U' Z5 h t _ fh ∅ (by rw[dm];rfl) ⟨a5,a2.fr (λa d e _=>B _ _ e) (λa j e=>B _ _ e),(by simp),ak.fr (λa d e z=>B _ _ (A.2.1 _ _ e (λy=>(f.du a y).1 z))) (λa j e=>B _ _ (A.2.2 _ _ e)),λa z=>?_,f.dw⟩ ⟨λa z=>z.elim (λz=>(A.1 a z).elim .inl λy=>.inr (.inr (a4 a y))) (λz=>.inr (.inl z)),λa d e n y z=>B _ _ (A.2.1 _ _ (XJ _ _ e n z) y),λa j e=>?_⟩
 ·rcases A.1 a z with y|y
  ·exact f.du a y
  ·refine⟨λz=>?_,λq=>?_,λq=>?_⟩
   ·let⟨d,m⟩:=ak.al z;rw[m]at y;cases y
   ·let⟨_,u,i,v,x,o,_⟩:=Ud;rw[q,o]at y;cases y
   ·let⟨_,u,i,v,x,_,o,_⟩:=Ud;rw[q,o]at y;cases y
 ·let⟨b,a⟩:=St.src.lst;exact B _ _ (A.2.2 _ _ (aw _ _ (ai _ _ (ap _ _ e (cQ e a)))))
class inductive IQ(C CS CW CB:Addr)
 | mk (l g w x:Addr) (U W:Y1) (c:gP) (a:c9) (d:gP) (b:c9) (e:gQ) (h:fY) (i:Nat) (j:Row) (_:vs=[↥w,↥x]) (_:pT C CS CW CB H l g w x U W c a d b e h i j) (_:↑c<=800) (_:↑d<=800) (_:↑a<40) (_:↑b=↑a) (_:↑e<=800) (_:(∃ o,mS (a++[[]]) o)) (_ :
 ∀ (k m:Y1) (f:Hp) (n:gQ),↑n=↑e+1->pT C CS CW CB f l g w x k m (c++[a++[[]]]) (a++[[]]) (d++[b++[[]]]) (b++[[]]) n h i j->KC l U W k m H f->Q (.bl true) f)
theorem DU:‹(8,110,["_law_world_here","_law_house"],(IQ C CS CW CB))›:=λD=>by
 specialize ef ["_law_world_here","_law_house"] D.UZ.F;let⟨x,A,w,ab,ae,W,pe,am,J,B,aB,L,nW,aN,rfl,St,b1,a0,b2,a1,b3,an,ap⟩:=h;let hu:=gH hr;exists _,#v[aU (aC D.OR (ng D) hr #[0,bI iV (eS hu (pv 0) bx) (bO #[bO ah])]),aK (aC D.QJ (ki D 1) hr #[ff (pv 1) D.aM D.Xb (wm D) hr bL,bI cV (eY D.T.eL (eS hu (pv 0) bx)) az])]
 all_goals try dsimp only[aP,aG]
 let⟨F,rw,G,I,l⟩:=id St.wo;let zr:=gp.k (k:=kR) l.hw;rw[show cG (kK F rw G I) kR=⇑↥rw by kernel_rfl]at zr;exists Y,Y,w,Y,zr;let⟨a0,n1,n2,vs,aq,al⟩:=id l.hr;let lv:=cF.len al;refine⟨gK,λe i=>⟨mF,λo ho=>?_⟩⟩;let s1:=ao i (.lst []);let d:(aO H e (.lst [])) e=⇑(.lst []):=af;generalize aO H e (.lst [])=M at s1 d ho;let N:=ao ho (.lst [↥e]);let o2:(aO M o (.lst [↥e])) o=⇑(.lst [↥e]):=af;show Zu _ _ (aO M o (.lst [↥e])) _;generalize aO M o (.lst [↥e])=H2 at N o2;let O:=s1.trans N;refine⟨rw,o,Z,O _ _ aq,o2,(by rw[lv];exact gJ (aS (by simp only[eZ,oj];lia))),λr Fw=>?_⟩;let R:=ao Fw (.lst (vs++[↥e]));let S:(aO H2 r (.lst (vs++[↥e]))) r=⇑(.lst (vs++[↥e])):=af;generalize aO H2 r (.lst (vs++[↥e]))=o at R S;let m:=O.trans R;let p:=aT O Fw;let⟨M,yg,_⟩:=id l.hi;let⟨M,DN,_⟩:=id l.hp;let e3:=R _ _ (N _ _ d);let T:A1 100 aN W o w F rw G I L J B:=l.fr (λa b e _=>m _ _ e) (λa j e=>m _ _ e)
 let YJ:A1 100 aN (λa=>W a\/a=e\/a=r) o w F rw G I L J B:=pT.Vo T (λa z=>.inl z) (by
  rintro a (z|z|z)
  ·exact T.al a z
  ·rw[z];exact⟨_,e3⟩
  ·rw[z];exact⟨_,S⟩)
 let ag:∀ a b,H a=⇑b->¬ W a->¬ (W a\/a=e\/a=r):=by
  rintro a b c n (z|z|z)
  ·exact n z
  ·rw[z,i]at c;cases c
  ·rw[z,p]at c;cases c
 refine⟨λa=>W a\/a=e\/a=r,w,r,L,J,B,B++[[]],1,⟨F,rw,G,I,YJ⟩,Q,λl o ⟨B,F,U⟩=>?_,λs X ar av _=>?_⟩
 ·rw[T.hw]at U;simp only[Option.some.injEq,HO.dK.injEq,kK,List.cons.injEq,Prod.mk.injEq,V.ref.injEq,true_and,and_true]at U;let⟨rfl,rfl,rfl,rfl⟩:=U;exact⟨.inr (.inr rfl),(aA yg p).symm,(aA DN p).symm,_,S,cF.snoc (al.mono λ_ _=>Vm.fr (λa z=>.inl z) (λa j e _ _ _=>m _ _ e)) ⟨e,1,.inr (.inl rfl),(aA yg i).symm,(aA DN i).symm,e3⟩⟩
 let t:∀ a b,H a=⇑b->¬ W a->s a=⇑b:=λa b e n=>ar _ _ (m _ _ e) (ag _ _ e n);have ai:∀ a j,H a=⇑(.tup j)->s a=⇑(.tup j):=λa j e=>av _ _ (m _ _ e);have aw:=St.Eo.fr (λa b e z=>t _ _ e (St.du a z).1) ai
 let X3:cX s x A:=by
  let⟨n,c,u,v,r,d,g,h3⟩:=St.src;exact⟨n,c,u,v,r,t _ _ d (λq=>(St.dw x q).1 rfl),t _ _ g (λq=>(St.dw A q).2 rfl),h3⟩
 let uw:∀ a,ae a->¬ (W a\/a=e\/a=r):=λa z=>by
  let⟨b,c⟩:=St.Eo.al z;exact ag _ _ c (St.du a z).1
 let⟨o,S,m,B,F,G,I,J,L,M,N,O,T,U,ag,aq,ar,av,R,l⟩:=id aw;refine⟨Y,ab,m,Y,l.L.hx,1,o,ab,m,B,F,G,I,J,L,M,N,O,pe,R,aB,am,1,l.L,St.lst,Q,Q,Q,Q,⟨an,λB F m o=>?_⟩⟩;let⟨U',ax,f⟩:=l.uV m o;let ak:=X.fr (λa b e z=>f.2.1 _ _ e (λy=>uw a y z)) f.2.2;let⟨F,l,G,I,m⟩:=id ak;let⟨_,_,_,o,J,B⟩:=id m.hr;let o:=cF.len B;rw[dm]at o;let B:=gp.k (k:=kR) m.hw;rw[show cG (kK F l G I) kR=⇑↥l by kernel_rfl]at B;refine⟨Y,w,Y,B,l,Y,.inl (bM.of J),Z,P,1,.inl ⟨1,?_⟩,λH6 k=>?_⟩
 ·rw[o];simp only[eZ,oj];congr 1;lia
 let ay:∀ a b,H a=⇑b->¬ ae a->¬ W a->H6 a=⇑b:=λa b e y z=>k _ _ (f.2.1 _ _ (t _ _ e z) y)
 let aR:cX H6 x A:=by
  let⟨n,c,u,v,r,d,g,h3⟩:=X3;exact⟨n,c,u,v,r,k _ _ (f.2.1 _ _ d (λq=>(St.du x q).2.1 rfl)),k _ _ (f.2.1 _ _ g (λq=>(St.du A q).2.2 rfl)),h3⟩
 let aZ:∀ a,s a=none->H a=none:=by
  intro a c
  cases q:H a with
  | none=>rfl
  | some b =>
   exfalso;by_cases z:W a
   ·let⟨b,g⟩:=X.al (a:=a) (.inl z);rw[g]at c;cases c
   rw[t _ _ q z]at c;cases c
 refine ap U' (λa=>W a\/a=e\/a=r) H6 _ (by rw[dm];rfl) ⟨aR,ax.same k,by simp,ak.same k,λa z=>?_,λa z=>?_⟩ ⟨λa z=>z.elim (λz=>(f.1 a z).elim .inl λy=>.inr (.inr (aZ a y))) (λz=>?_),λa b e n y z=>ay _ _ e y z,λa j e=>k _ _ (f.2.2 _ _ (ai _ _ e))⟩
 ·rcases f.1 a z with y|y
  ·exact⟨uw a y,(St.du a y).2⟩
  ·change s a=none at y;refine⟨λz=>?_,λq=>?_,λq=>?_⟩
   ·let⟨b,g⟩:=X.al z;rw[g]at y;cases y
   ·let⟨_,c,u,v,r,d,_⟩:=X3;rw[q,d]at y;cases y
   ·let⟨_,c,u,v,r,_,d,_⟩:=X3;rw[q,d]at y;cases y
 ·let c:=St.src.ne i;let g:=St.src.ne p;rcases z with z|z|z
  ·exact St.dw a z
  ·rw[z];exact⟨c.1.symm,c.2.symm⟩
  ·rw[z];exact⟨g.1.symm,g.2.symm⟩
 ·rcases z with z|z|z
  ·exact .inr (.inl z)
  ·rw[z];exact .inr (.inr i)
  ·rw[z];exact .inr (.inr p)
abbrev e0(n:Nat):c9:=List.replicate n []
theorem KJ(n:Nat):e0 n++[[]]=e0 (n+1):=(List.replicate_succ').symm
theorem wD{n:Nat}{a:Wp}(h:a∈e0 n):a=[]:=(List.mem_replicate.mp h).2
theorem X4{n:Nat}{x y:Int}:¬ jP (e0 n) x y:=λ⟨_,c,b,a⟩=>by
 rw[wD (lU b)]at a;cases a
theorem Qo(n:Nat):gD (e0 n):=λc b y a=>by
 rw[wD b]at a;cases a
theorem Qp(n:Nat):C3 (e0 n):=⟨λ_=>0,λ_=>Nat.zero_le _,λ_ _ z=>absurd z X4⟩
def Qq{n:Nat}(h:n<=100):mS (e0 n) λ_=>0:=by
 refine⟨by rw[xF];exact h,λb a=>by rw[wD a];exact Nat.zero_le _,Qo n,Qp n,λx b _ a=>?_,λ_ _ _=>by decide⟩;rw[wD (lU a)];rfl
def u7(n:Nat):gP:=[[],[],[]]++(List.range n).map λk=>e0 (k+1)
def MH(n:Nat):u7 (n+1)=u7 n++[e0 (n+1)]:=by
 unfold u7;rw[List.range_succ,gx,jI];rfl
def Aq(n:Nat):↑(u7 n)=n+3:=by
 unfold u7;rw[dm,cC,List.length_range];show 3+n=_;lia
class inductive Ar(C CS CW CB:Addr)
 | mk (l c w x:Addr) (U W:Y1) (_:vs=[↥l,↥w,↥x]) (_:pT C CS CW CB H l c w x U W [[]] [] [[]] [] [] [] 0 []) (_ :
 ∀ (d e:Y1) (a:Hp) (n:Nat) (b:fY) (f:gQ),2<=n->n<=4->↑b<=120->(∀ p∈b,jZ p.1)->↑f=n+2->pT C CS CW CB a l c w x d e (u7 n) (e0 n) (u7 n) (e0 n) f b 2 []->KC l U W d e H a->Q (.bl true) a)
theorem DV:‹(9,111,["_law_src_here","_law_world_here","_law_house"],(Ar C CS CW CB))›:=λD=>by
 specialize ef ["_law_src_here","_law_world_here","_law_house","_law_good","_law_k"] D.U0.F;let⟨l,i,w,x,U,W,rfl,St,O⟩:=h;let hu:=gH hr;exists _,#v[aY 3 lY,eE PassesOwn.never rfl (jk rfl D.T.jd #[az]) (bV 4) #v[aY 3 (om (aC D.UY (Gy D) hr #[0,1,2]) (pY (pv 3)))],eE PassesOwn.never rfl (jk rfl D.T.jd #[bI dP az (aC D.vh (d8 D) hr #[0,az])]) (bV 4) #v[aY 3 (om (aC D.UZ (DU D) hr #[1,2]) (pY (pv 3)))],aK (pv 3)]
 all_goals try dsimp only[aP,aG]
 let R:KC l U W U W H H:=⟨λs z=>z.elim .inl λB=>.inr (.inl B),λs S f _ _ _=>f,λ_ _ f=>f⟩;exists 2,1,E,E;refine nJ (lo:=0) (n:=(2:Int).toNat) (λj k t=>∃ (b:Option V) (m g:Y1) (c:fY) (a:gQ),k=[⇑↥l,⇑↥w,⇑↥x,⇑(.bl true),b]/\pT C CS CW CB t l i w x m g (List.replicate (j+1) []) [] (List.replicate (j+1) []) [] a c j []/\↑c<=60*j/\(∀ p∈c,jZ p.1)/\↑a=j/\KC l U W m g H t) ⟨none,U,W,[],[],1,St,fk _,(λ_ z=>by cases z),1,R⟩ ?_ ?_
 ·rintro j k t N ⟨b,m,g,c,a,rfl,n,T,F,q,u⟩;let X:j<2:=N;refine⟨Y,Y,Y,l,i,w,x,m,g,K,_,a,c,j,[],1,n,(by rw[xF];lia),(by rw[xF];lia),(by show 0<=50;decide),Q,Q,Q,λL v h A M fh R vD y G=>?_⟩;rw[← List.replicate_succ']at y;let I:∃ (b:Option V) (d e:Y1) (A:fY) (r:gQ),[⇑↥l,⇑↥w,⇑↥x,⇑(.bl true),⇑(V.int (0+(j:Int)))]=[⇑↥l,⇑↥w,⇑↥x,⇑(V.bl true),b]/\pT C CS CW CB v l i w x d e (List.replicate (j+1+1) []) [] (List.replicate (j+1+1) []) [] r A (j+1) []/\A.length<=60*(j+1)/\(∀ p∈A,jZ p.1)/\↑r=j+1/\KC l U W d e H v:=⟨_,L,g,_,M,1,y,(by rw[dm,qU];lia),(λp o=>(List.mem_append.mp o).elim (F p) λz=>by let⟨_,_,rfl⟩:=List.mem_map.mp z;exact fh),Q,u.trans (by let⟨J,o⟩:=n.src.lst;exact⟨_,o⟩) G⟩;exists true,1;rw[if_pos rfl];exact⟨Y,I⟩
 rintro k t ⟨b,m,g,c,a,rfl,n,T,F,q,u⟩;refine⟨Y,l,i,3,1,n.src,E,E,λL v T v1 R t=>⟨Z,2+L,1,Q,Q,?_⟩⟩;let y:=n.mv (cB t) R
 let G:KC l U W m g H v:=u.trans (by let⟨J,o⟩:=n.src.lst;exact⟨_,o⟩) ⟨λs z=>z.elim .inl λB=>.inr (.inl B),λs S f v _ _=>(cB t) _ _ f v,λs s f=>by
  let⟨J,o⟩:=n.src.lst
  exact (cB t) _ _ f (cQ f o)⟩
 clear u;refine nJ (lo:=0) (n:=(2+L).toNat) (λj k p=>∃ (b:Option V) (d e:Y1) (a:gQ),k=[⇑↥l,⇑↥w,⇑↥x,⇑(.bl true),b]/\pT C CS CW CB p l i w x d e (u7 j) (e0 j) (u7 j) (e0 j) a c 2 []/\↑a=j+2/\KC l U W d e H p) ⟨b,m,g,a,1,y,q,G⟩ ?_ ?_
 ·rintro j k p N ⟨b,d,e,a,rfl,A,q,M⟩;let X:j<4:=by lia
  refine⟨Y,Y,l,i,w,x,d,e,K,_,a,c,2,[],1,A,(by rw[Aq];lia),(by rw[Aq];lia),(by rw[xF];lia),1,Q,⟨_,by rw[KJ];exact Qq ∅⟩,λs t f u m g v=>?_⟩;rw[KJ,← MH]at g;let I:∃ (b:Option V) (m n:Y1) (r:gQ),[⇑↥l,⇑↥w,⇑↥x,⇑(.bl true),⇑(V.int (0+(j:Int)))]=[⇑↥l,⇑↥w,⇑↥x,⇑(V.bl true),b]/\pT C CS CW CB f l i w x m n (u7 (j+1)) (e0 (j+1)) (u7 (j+1)) (e0 (j+1)) r c 2 []/\↑r=j+1+2/\KC l U W m n H f:=⟨_,s,t,u,1,g,Q,M.trans (by let⟨J,o⟩:=A.src.lst;exact⟨_,o⟩) v⟩;exists true,1;rw[if_pos rfl];exact⟨Y,I⟩
 rintro k p ⟨b,d,e,a,rfl,A,q,M⟩;exact⟨Y,O d e p (2+L).toNat c a ∅ ∅ (by have:(2:Int).toNat=2:=rfl;lia) F q A M⟩
def Ue(b:fY)(c:Wp)(a:Int):Nat:=if a∈c then 35 else ((b[a.toNat]?).map Prod.snd).getD 0
def KL{d:fY}{e:Wp}{b:Row}(h:∀ y,y∈e↔In b y)(a:Int):Ue d e a=pP d b 35 a:=by
 unfold Ue pP;by_cases c:In b a
 ·rw[if_pos ((h a).mpr c),if_pos (jC.mpr c)]
 ·rw[if_neg λz=>c ((h a).mp z),if_neg λz=>c (jC.mp z)]
class inductive Qs
 | mk (W:Y1) (w o:Addr) (c:fY) (f:gP) (g:c9) (d:Row) (b:Wp) (_:vs=[↥w,↥o]) (_:Wo 100 d W H w c f g) (_:H o=⇑(.lst (b.map V.int))) (_:↑b<=1000) (_:∀ a∈b,0<=a/\a<(↑c:Nat)) (_:∀ e,aI H e->Q (.str (fH (b.map (pP c d 35)))) e)
theorem xC:‹(1,112,["_law_world_here","_law_numbers"],Qs)›:=λD=>by
 specialize ef ["_law_world_here","_law_numbers","_law_signs","_law_number"] D.OU.F;let⟨W,w,o,e,X,ab,f,g,rfl,M,s,ln,N,O⟩:=h;let v:=gH hr;exists _,#v[aY 2 (bO ah),eE PassesOwn.never rfl (cJ (pv 1)) (bV 3) #v[bR (aV vB (pv 3) (eS v (pv 0) bx) rfl) #v[aU (dM n9 jm jo bU (pv 2) #[bx])] #v[aU (dM n9 jm jo bU (pv 2) #[aQ bh (aQ bJ (eS v (pv 0) bx) (pv 3)) az])]],aK (dM PySem.F.plainAttrs_str PySem.F.slot_str_join PySem.F.type_str_join zF bx #[2])]
 all_goals try dsimp only[aP,aG]
 let⟨j,x,y,k,l⟩:=id M;let⟨z,R,A⟩:=id l.hi;let⟨B,S,_,C⟩:=l.hv;refine⟨gK,λq p=>?_⟩;let v:=ao p (.lst []);refine⟨Y,o,1,⟨_,bM.of (v _ _ s)⟩,dO (K:=K) (e:=o) (b:=g.map V.int) (λi m d=>∃ u:Option V,m=[⇑↥w,⇑↥o,⇑↥q,u]/\d q=⇑(.lst (((g.take i).map (pP e f 35)).map qZ))/\aI H d) ⟨none,1,af,v⟩ (λi m d _ h=>by let⟨_,_,_,a⟩:=h;exact bM.of (a _ _ s)) ?_ ?_⟩
 ·rintro i ae m d F ⟨u,rfl,b,a⟩;rw[lD]at F;let⟨c,r,rfl⟩:=Option.map_eq_some_iff.mp F;let o:=(List.getElem?_eq_some_iff.mp r).1;let⟨o,s⟩:=N c (lU r)
  let G:((g.take (i+1)).map (pP e f 35)).map qZ=((g.take i).map (pP e f 35)).map qZ++[qZ (pP e f 35 c)]:=by
   rw[take_snoc r,gx,gx];rfl
  let I:↑(((g.take i).map (pP e f 35)).map qZ)<sizeLine:=aS (by rw[cC,cC,gw];lia);let e:=gp.k (k:=Mz) (a _ _ l.hw);rw[show cG (kK j x y k) Mz=⇑↥k by kernel_rfl]at e;exists Y,Y,w,Y,e,k,Y,.inl (bM.of (a _ _ S)),1,nQ B,Y;rw[uF];by_cases n:c∈B
  ·rw[decide_eq_true n];refine iz ⟨Y,.inl ⟨1,_,bM.of b⟩,q,Z,b,I,Y,?_,bS p a (aH q _ _)⟩;rw[af,G,← KL C];unfold Ue;rw[if_pos n];rfl
  ·rw[decide_eq_false n];obtain⟨t,e⟩:∃ t,z[c.toNat]?=⇑t:=⟨_,nj (by rw[Paired.length A];lia)⟩;let⟨f,T,U⟩:=mE A e;let J:=gp.k (k:=kI) (a _ _ l.hw);rw[show cG (kK j x y k) kI=⇑↥j by kernel_rfl]at J;let L:=cT (a:=z.map V.ref) (j:=c.toNat) (v:=↥t) (by rw[lD,e];rfl);rw[show ((c.toNat:Nat):Int)=c by lia]at L;refine eT ⟨Y,.inl ⟨1,_,bM.of b⟩,Y,w,Y,J,Y,j,K,V,bM.of (a _ _ R),L,t,K,V,dG.of (a _ _ U),HK,q,Z,b,I,Y,?_,bS p a (aH q _ _)⟩;rw[af,G,← KL C];unfold Ue;rw[if_neg n,T];rfl
 ·rintro m d ⟨u,rfl,b,a⟩;rw[cC,gG]at b;exact⟨1,Y,q,Y,1,b,by rw[cC];lia,O d a⟩
def Qt{e:Cx}(f:e.A.units<cLine):qY e (compareOp .Eq) (λx y H Q=>∃ (b c:Addr) (a:List V),x=↥b/\y=↥c/\H b=⇑(.lst a)/\H c=⇑(.lst [])/\Q (.bl a.isEmpty) H):=by
 intro r s t H x y v u Q I k l m;let⟨b,c,a,rfl,rfl,d,o,q⟩:=m;cases (show v=Value.ref b from k);cases (show u=Value.ref c from l);let⟨k,l,n,g,m,h⟩:=I.vC d;let⟨k,l,i,p,m,j⟩:=I.vC o;cases p
 cases a with
 | nil=>cases g;exact SeqAt.eq_listAt (e:=λ_=>true) ⟨_,h,1,n,1⟩ ⟨_,j,1,i,1⟩ rfl f (λk d _=>absurd d (by simp)) ⟨.bl true,H,I,1,q⟩
 | cons x a=>cases g;exact SeqAt.eq_list_lengthsAt ⟨_,h,1,n,1⟩ ⟨_,j,1,i,1⟩ (by simp) f ⟨.bl false,H,I,1,q⟩
theorem Qu{lo:Int}{k:Nat}{d:_L2.St}{q:Int->Bool}{j:TG}{tt:TT}{l:TE}{b:Hp}{Q:VK}(z:k<=50000)(m:b c=none)
  (p:∀ (u:Option V) (y:Int) (a:Hp) (L:V->_L2.St->Hp->Prop) (M:_L2.St->Hp->Prop),lo<=y->y<lo+k->aI b a->(if q y=true then L (.int y) (⇑(.int y)::d) a else M (⇑(.int y)::d) a)->j (.int y) (u::d) a fun f r=>tt f r λt n=>if t=true then l f n λv b=>L v f b else M f n)
  (x:∀ a,a c=⇑(.lst (((run lo k).filter q).map V.int))->aI b a->Q ↥c a):qL (JB lo k) c j tt l (none::d) (aO b c (.lst [])) Q:=by
 refine qw (λi h a=>∃ u:Option V,h=u::d/\a c=⇑(.lst (((run lo i).filter q).map V.int))/\aI b a) ⟨none,1,af,ao m _⟩ ?_ ?_
 ·rintro i h a s ⟨u,rfl,g,e⟩;let s:=List.length_filter_le q (run lo i);rw[eG]at s;refine p u _ a _ _ ∅ ∅ e ?_
  cases o:q (lo+i) with
  | true =>
   refine iz ⟨_,g,(by rw[cC];exact aS ∅),Y,?_,bS m e (aH c _ _)⟩;rw[af,nP,List.filter_append,List.filter_cons_of_pos o,gx];rfl
  | false =>
   refine eT ⟨Y,?_,e⟩;rw[nP,List.filter_append,List.filter_cons_of_neg (by rw[o];exact lV),List.filter_nil,gR];exact g
 ·rintro h a ⟨u,rfl,g,e⟩;exact x a g e
theorem X7{z:Addr}{d:Wp}{f:_L2.St}{q:Int->Bool}{k:TG}{tt:TT}{l:TE}{b:Hp}{Q:VK}(t:b z=⇑(.lst (d.map V.int)))(D:↑d<=50000)(m:b e=none)
  (v:∀ (u:Option V) (y:Int) (a:Hp) (L:V->_L2.St->Hp->Prop) (M:_L2.St->Hp->Prop),aI b a->(if q y=true then L (.int y) (⇑(.int y)::f) a else M (⇑(.int y)::f) a)->k (.int y) (u::f) a fun h x=>tt h x λA n=>if A=true then l h n λB b=>L B h b else M h n)
  (C:∀ a,a e=⇑(.lst ((d.filter q).map V.int))->aI b a->Q ↥e a):qL (Ni K z) e k tt l (none::f) (aO b e (.lst [])) Q:=by
 refine gu (K:=K) (h:=z) (a:=d.map V.int) (λi j a=>∃ u:Option V,j=u::f/\a e=⇑(.lst (((d.take i).filter q).map V.int))/\aI b a) ⟨none,1,af,ao m _⟩ (by rintro i j a _ ⟨_,_,_,c⟩;exact bM.of (c _ _ t)) ?_ ?_
 ·rintro i w j a o ⟨u,rfl,g,c⟩;rw[lD]at o;let⟨y,s,rfl⟩:=Option.map_eq_some_iff.mp o;let p:=take_snoc s;let o:=List.length_filter_le q (d.take i);rw[gw]at o;refine v u y a _ _ c ?_
  cases r:q y with
  | true =>
   refine iz ⟨_,g,(by rw[cC];exact aS ∅),Y,?_,bS m c (aH e _ _)⟩;rw[af,p,List.filter_append,List.filter_cons_of_pos r,gx];rfl
  | false =>
   refine eT ⟨Y,?_,c⟩;rw[p,List.filter_append,List.filter_cons_of_neg (by rw[r];exact lV),List.filter_nil,gR];exact g
 ·rintro j a ⟨u,rfl,g,c⟩;rw[cC,gG]at g;exact C a g c
def A6(a:fY)(b:Int):Int:=((a[b.toNat]?).map Prod.fst).getD 0
def Qv{h:Int}:∀ {a:fY} {i:Nat} {y:Int},(i:Int)<=y->y<(i:Int)+↑a->(((a[(y-i).toNat]?).map Prod.fst).getD (h+1)=h->y∈kC h i a):=by
 intro a
 induction a with
 | nil=>intro i y c b;rw[oj]at b;lia
 | cons p r d =>
  intro i y c b e;rw[eZ]at b;rw[kC];by_cases f:y=i
  ·subst f;let e:p.1=h:=by simpa using e
   rw[if_pos e];exact sE
  ·let z:y∈kC h (i+1) r:=d ∅ ∅ (by rw[show (y-(i:Int)).toNat=(y-((i+1:Nat):Int)).toNat+1 by lia,List.getElem?_cons_succ]at e;exact e);split
   ·exact j5 _ z
   ·exact z
def Qw{a:fY}{h y:Int}(b:0<=y)(c:y<(↑a:Nat))(e:A6 a y=h):y∈kC h 0 a:=by
 refine Qv (i:=0) ∅ ∅ ?_;unfold A6 at e;rw[nj (show y.toNat<↑a by lia)]at e;rw[show (y-((0:Nat):Int)).toNat=y.toNat by lia,nj (show y.toNat<↑a by lia)];exact e
def Qx:∀ {r:Row} {a n:Int},pS r->(∀ p∈r,a<=p.1)->(∀ y,In r y->y<n)->a<=n+1->2*(↑r:Int)<=n-a+1:=by
 intro r
 induction r with
 | nil=>intro a n _ _ _ h;simp;lia
 | cons p r b =>
  intro a n R l i h;let c:=l p sE;let c:=R.2 p sE;let q:=List.pairwise_cons.mp R.1;let c:p.2-1<n:=i _ ⟨p,sE,Q,Q⟩;let z:=b (a:=p.2+1) (n:=n) ⟨q.2,λx b=>R.2 x (j5 _ b)⟩ (λx b=>by have:=q.1 x b;lia) (λy ⟨x,b,z⟩=>i y ⟨x,j5 _ b,z⟩) ∅;rw[eZ];lia
def KO{a:fY}{y:Int}{q:Int × Nat}(e:a[y.toNat]?=⇑q):A6 a y=q.1:=by unfold A6;rw[e];rfl
def X8{b:Bool}{q A B T:Prop} [Decidable q] (w:b=false->(if decide q=true then A else B)->T) (a:b=true\/q->A) (d:b=false->¬ q->B):if b=true then (if true=true then A else B) else T:=by
 cases b with
 | true=>rw[if_pos rfl,if_pos rfl];exact a (.inl rfl)
 | false =>
  rw[if_neg lV];refine w rfl ?_;by_cases c:q
  ·rw[if_pos (decide_eq_true c)];exact a (.inr c)
  ·rw[decide_eq_false c,if_neg lV];exact d rfl c
def sT(d:Hp)(b:fY)(l w x L:Addr)(i:Nat)(e:_L2.St)(H:Hp):Prop:=∃ (h:Int) (f g:Option V) (c:WF) (a:Row),e=[⇑↥l,⇑↥w,⇑↥x,⇑↥L,⇑(.int h),f,g,none,none]/\H L=⇑(.lst (c.map V.ref))/\bC H c a/\↑a<=i/\(∀ p∈a,0<=p.1/\p.1<p.2/\p.2<=(↑b:Nat)/\p.2<=p.1+40)/\(∀ y,In a y->A6 b y=h)/\jZ h/\cy L d H
def sV:TS:=λD d H=>∃ (b:fY) (l w x L e rw g i:Addr) (h a c:Int),d=[⇑↥l,⇑↥w,⇑↥x,⇑↥L,⇑(.int h),⇑(.int a),⇑(.int c),none,none]/\H w=⇑(.dK (kK e rw g i))/\Ag H e b/\0<=a/\a<c/\c<=(↑b:Nat)/\↑b<=120/\A6 b a=h/\∀ (d:Int) (f:Hp),a<d->d<=c->(∀ y,a<=y->y<d->A6 b y=h)->aI H f->D.nx [⇑↥l,⇑↥w,⇑↥x,⇑↥L,⇑(.int h),⇑(.int a),⇑(.int d),none,none] f
def A1.aN{aN m:Row}{W:Y1}{H g:Hp}{w rw z:Addr}{n:fY}{j:gP}{o:c9}{h:Wp}(b:A1 100 aN W H w k rw l C n j o)(s:aI H g)(t:H z=none)(p:g z=⇑(.lst (h.map V.int)))(u:↑h<=100*↑j)(v:∀ y,y∈h↔In m y):A1 0 m (λa=>W a\/a=z) (aO g w (.dK (kK k rw l z))) w k rw l z n j o:=by
 let r:∀ {a i},H a=⇑i->z≠a:=λe q=>by rw[← q,t]at e;cases e
 let d:=b.fr (λa i e _=>s _ _ e) λa c e=>s _ _ e;have f:∀ a c,g a=⇑(.lst c)->(aO g w (.dK (kK k rw l z))) a=⇑(.lst c):=λa c e=>by rw[aL (cQ e d.hw)];exact e
 let⟨x,hp,al⟩:=id d.hp;let⟨D,A,_⟩:=b.hi;let⟨_,B,_⟩:=b.hp;refine⟨.inl b.ww,.inl b.wi,.inl b.wp,.inr rfl,λa q=>?_,af,d.hi.two (λc e=>f _ _ e) (λa c e=>by rw[aL (cQ e d.hw)];exact e),d.hr.fr (λ_ y=>.inl y) λa c e _ _ _=>f _ _ e,⟨x,f _ _ hp,al.mono λx D ⟨a,e,y⟩=>⟨a,e,y.fr (λ_ y=>.inl y) λa c e _ _ _=>f _ _ e⟩⟩,b.ne,b.lst,⟨h,f _ _ p,u,v⟩,r A,r B⟩;rcases q with q|rfl
 ·by_cases e:a=w
  ·rw[e];exact⟨_,af⟩
  ·let⟨i,c⟩:=d.al a q;exact⟨i,by rw[aL e];exact c⟩
 ·exact⟨_,f _ _ p⟩
def tf(C o p r:Addr):TS:=λD c H=>∃ (l f w x L q s rw t B:Addr) (h:Int) (u v:Option V) (U W:Y1) (d:gP) (e:c9) (j:gQ) (a:fY) (k:Nat) (g b:Row),c=[⇑↥l,⇑↥w,⇑↥x,⇑↥L,⇑(.int h),u,v,⇑↥q,none]/\pT C o p r H l f w x U W d e d e j a k g/\A1 100 g W H w s rw t B a d e/\bP H L b/\L≠l/\H q=⇑(.lst ((bw b).map V.int))/\↑(bw b)<=80/\q≠l/\¬ U q/\IC b/\jZ h/\nC ↑a b=true/\k<64/\(∀ y,In b y->y∈kC h 0 a)/\↑g+↑b<64/\↑d<=300/\↑e<=50/\↑j<=800/\(∀ y,In g y\/In b y->0<=y/\y<(↑a:Nat))/\∀ (z m:Y1) (F:Addr) (n:Row) (A:gQ) (i:Hp),mT C o p r z i x (d++[e]) A a k n->A1 0 n m i w s rw t F a d e->cX i l f->(∀ c,z c->¬ m c/\c≠l/\c≠f)->(∀ c,m c->c≠l/\c≠f)->↑A=↑j+1->(∀ y,In n y->0<=y/\y<(↑a:Nat))->D.nx [⇑↥l,⇑↥w,⇑↥x,⇑↥L,⇑(.int h),u,v,⇑↥q,some .fQ] i
def CA{l f w x rw z:Addr}{U g W:Y1}{H h k:Hp}{b:gP}{c:c9}{O B:gQ}{i:fY}{t:Nat}{u p:Row}{v:Wp}(St:pT C D G I H l f w x U W b c b c O i t u)(m:A1 100 u W H w n rw o T i b c)(_L2:mT C D G I g h x (b++[c]) B i t p)(r:vj U g H h)(j:aI h k)(J:h z=none)(h3:k z=⇑(.lst (v.map V.int)))(lv:↑v<=100*↑b)(ab:∀ y,y∈v↔In p y):mT C D G I g (aO k w (.dK (kK n rw o z))) x (b++[c]) B i t p/\A1 0 p (λa=>W a\/a=z) (aO k w (.dK (kK n rw o z))) w n rw o z i b c/\cX (aO k w (.dK (kK n rw o z))) l f/\(∀ a,g a->¬ (W a\/a=z)/\a≠l/\a≠f)/\∀ a,W a\/a=z->a≠l/\a≠f:=by
 let s:∀ a d,H a=⇑d->¬ U a->¬ g a:=λa d e R y=>by
  rcases r.1 a y with y|y
  ·exact R y
  ·rw[e]at y;cases y
 let F:∀ a,W a->¬ U a:=λa y q=>(St.du a q).1 y;have L:A1 100 u W h w n rw o T i b c:=m.fr (λa d e y=>r.2.1 _ _ e (F a y)) r.2.2;let⟨⟨R,S⟩,l2,X⟩:=St.src.has;have M:=St.src.mm r (λy=>(St.du l y).2.1 rfl) λy=>(St.du f y).2.2 rfl;let⟨⟨_,vD⟩,_,Tg⟩:=M.has;have A:∀ {a d},h a=⇑d->a≠z:=λe q=>by rw[q,J]at e;cases e
 let w3:=j _ _ L.hw
 let N:∀ a,g a->¬ (W a\/a=z)/\a≠l/\a≠f:=λa y=>by
  let⟨d,e⟩:=_L2.al y;refine⟨λq=>?_,λq=>?_,λq=>?_⟩
  ·rcases q with q|q
   ·let⟨R,e1⟩:=m.al a q;exact s a R e1 (F a q) y
   ·exact A e q
  ·subst q;exact s _ _ S (λy=>(St.du _ y).2.1 rfl) y
  ·subst q;exact s _ _ X (λy=>(St.du _ y).2.2 rfl) y
 refine⟨_L2.fr (λa d e y=>?_) (λa d e=>?_),L.aN j J h3 lv ab,(M.same j).keep (aH w _ _) (St.dw w m.ww).1.symm (St.dw w m.ww).2.symm,N,λa y=>?_⟩
 ·rw[aL λq=>(N a y).1 (.inl (by rw[q];exact m.ww))];exact j _ _ e
 ·rw[aL (cQ (j _ _ e) w3)];exact j _ _ e
 ·rcases y with y|y
  ·exact St.dw a y
  ·rw[y];exact⟨(A vD).symm,(A Tg).symm⟩
class inductive GB(C CS CW CB:Addr)
 | mk (l f w x:Addr) (U W:Y1) (c:gP) (a:c9) (d:gQ) (b:fY) (e:Nat) (g:Row) (_:vs=[↥l,↥w,↥x]) (_:pT C CS CW CB H l f w x U W c a c a d b e g) (_:↑c<=300) (_:↑a<=50) (_:↑d<=800) (_:↑b<=120) (_:e<64) (_:∀ p∈b,jZ p.1) (_:∀ y,In g y->0<=y/\y<(↑b:Nat)) (_:∀ (k m:Y1) (h:Row) (i:gQ) (j:Hp),pT C CS CW CB j l f w x k m (c++[a]) a (c++[a]) a i b e h->↑i=↑d+1->(∀ y,In h y->0<=y/\y<(↑b:Nat))->Q (.bl true) j)
theorem GC:‹(6,113,["_law_src_here","_law_world_here","_law_house"],(GB C CS CW CB))›:=λD=>by
 specialize ef ["_law_src_here","_law_world_here","_law_house","_law_row","_law_hand","_law_start","_law_stop","_law_numbers","_law_told"] D.U6.F;let⟨l,c,w,F,ae,W,U,X,aB,j,nW,aN,rfl,St,lp,lr,ll,li,lW,fh,iv,ab⟩:=h;let M:=gH hr;refine⟨_,#v[aY 3 (bO ah),aY 4 az,eE PassesOwn.never rfl (cJ (aC D.OT (qD D) hr #[0,1])) (kQ (n:=2) rfl (bT (bV 5) (bT (bV 6) gi))) #v[bR (PW.pt (Bo (aV (Qt (o4 hr)) (pv 3) (bO ah) (bz _)) (yo (aV eK (aQ bh (aQ bJ (eS M (pv 1) bx) (pv 5)) az) (pv 4) (bz _))))) #v[aY 4 (aQ bh (aQ bJ (eS M (pv 1) bx) (pv 5)) az),vF (c:=sV) (nH PassesOwn.never (aV yr (eY D.T.eL (gC (N:=["_law_k","_law_world_here","_law_hand"]) (jO (c:=b8 oB) (f:=["_law_src_here","_law_world_here","_law_house","_law_row","_law_hand","_law_start","_law_stop","_law_numbers","_law_told"]) (d:=[none,some 1,some 4]) rfl rfl rfl nofun nofun rfl nofun rfl nofun) rfl (BK rfl D.T.jd #[5,6]) (λ_ _ _ _ _ _=>(bV 0)) (λ_ _ _ _ _ _=>uB (aV JF (aQ C0 (aQ Om (eS M (pv 1) bx) (pv 0)) az) (pv 2) (bz _))) (λ_ _ _ _ _ _=>(pv 0)))) az (bz _)) #v[aY 6 (bI cV (pv 6) az)]) ?b1,aU (dM n9 jm jo bU (pv 3) #[cW #[5,6]])] bq],aY 7 (aC D.Xi (uZ D) hr #[3]),vF (c:=tf C CS CW CB) (bR (aV yr (aC D.vh (d8 D) hr #[0,az]) az (bz _)) #v[aY 8 (cH (pv 2) D.aM D.lj (pF D) hr bL #[4,3]),oF M (pv 1) bx (bI iV (eS M (pv 1) bx) (pv 7)) rfl] #v[aY 8 (cH (pv 2) D.aM D.lm (pG D) hr bL #[4,3]),oF M (pv 1) bx (gC (N:=["_law_number","_law_numbers"]) (jO (c:=b8 oB) (f:=["_law_src_here","_law_world_here","_law_house","_law_row","_law_hand","_law_start","_law_stop","_law_numbers","_law_told"]) (d:=[none,some 7]) rfl rfl rfl nofun nofun rfl nofun rfl nofun) rfl (cJ (eS M (pv 1) bx)) (λ_ _ _ _ _ _=>(bV 0)) (λ_ _ _ _ _ _=>uB (aV HS (pv 0) (pv 1) rfl)) (λ_ _ _ _ _ _=>(pv 0))) rfl]) ?b2,aU (aC D.OR (ng D) hr #[1,eS M (pv 1) bx]),aK (G7 (CH (pv 8)))],?_⟩
 all_goals try dsimp only[aP,aG]
 case b1 =>
  rintro D σ H ⟨j,l,w,F,L,d,g,k,i,h,f,en,rfl,hw,⟨as,yg,pa⟩,o,q,le,li,r,ab⟩;exists λo σ m=>∃ e:Int,σ=[⇑↥l,⇑↥w,⇑↥F,⇑↥L,⇑(.int h),⇑(.int f),⇑(.int e),none,none]/\o=(e-f).toNat/\f<e/\e<=en/\aI H m,⟨_,en,V,q,Int.le_refl _,aI.refl _⟩;rintro o σ m ⟨e,rfl,rfl,I,N,n⟩;refine⟨Y,Y,f,e,1,λu cL=>Qu (d:=[⇑↥w,⇑(.int h)]) (q:=λy=>!decide (A6 j y=h)) ∅ cL (λaq y O L' ar o a v x=>?_) λO R v=>?_⟩
  ·obtain⟨G,et⟩:∃ G,as[y.toNat]?=⇑G:=⟨_,nj (by rw[Paired.length pa];lia)⟩;let⟨p,ep,ht⟩:=mE pa et;let b:=n.trans v;let zi:=gp.k (k:=kI) (b _ _ hw);rw[show cG (kK d g k i) kI=⇑↥d by kernel_rfl]at zi;let Gs:=cT (a:=as.map V.ref) (j:=y.toNat) (v:=↥G) (by rw[lD,et];rfl);rw[show ((y.toNat:Nat):Int)=y by lia]at Gs;exists Y,w,Y,zi,Y,d,K,V,bM.of (b _ _ yg),Gs,G,K,V,dG.of (b _ _ ht),CY,Y,1,Y;rw[KO ep]at x;by_cases c:p.1=h
   ·rw[if_neg (by simp[c])]at x ⊢;exact x
   ·rw[if_pos (by simp[c])]at x ⊢;exact⟨Y,x⟩
  ·refine⟨u,Y,.inl (bM.of R),Z,Y,dD (λc=>?_) λc=>?_⟩
   ·let c:=of_decide_eq_true c;rw[cC]at c;let⟨y,b⟩:=List.exists_mem_of_length_pos (show 0<↑((run f (e-f).toNat).filter λy=>!decide (A6 j y=h)) by lia);let⟨a,o⟩:=List.mem_filter.mp b;let⟨p,q⟩:=oG.mp a;let p:y≠f:=λz=>by rw[z,r]at o;simp at o
    exact⟨fun p q=>_,fun p q z=>z,Y,Z,(e-1-f).toNat,Q,e-1,V,Q,Q,n.trans v⟩
   ·refine ab e O I N (λy a o=>Classical.byContradiction λs=>c (decide_eq_true ?_)) (n.trans v);let z:y∈(run f (e-f).toNat).filter λy=>!decide (A6 j y=h):=List.mem_filter.mpr ⟨oG.mpr ⟨a,Q⟩,by simp[s]⟩;have:=List.length_pos_of_mem z;rw[cC];lia
 case b2 =>
  rintro D σ H ⟨l,c,w,F,L,q,d,g,k,i,h,u5,u6,ae,W,U,X,aB,j,nW,aN,t,rfl,St,wu,RL,av,x,s,ak,aw,fr,fh,am,lW,own,lv,lp,lr,ll,iv,ab⟩;refine⟨Y,l,c,3,1,St.src,E,E,λax H1 s v1 S1 M=>⟨Z,Y,?_⟩⟩;let⟨ls,S⟩:=St.src.lst;let s:cy l H H1:=cB M;let M:∀ a o,H a=⇑(.tup o)->H1 a=⇑(.tup o):=λa o e=>s _ _ e (cQ e S);have n:=St.mv s S1;have ag:=wu.fr (λa v e y=>s _ _ e (St.dw a y).1) M;have an:bP H1 L t:=RL.two (λo e=>s _ _ e av) M;let⟨S',TM,d',Ve,QS,YE,YF,YG,YH,YI,AE,Ek,ay,aR,aZ,a0,a1,a2,DG,B⟩:=id n.Eo
  let ap:∀ {G:Y1} {m:Hp},vj ae G H1 m->∃ f:List Int,m w=⇑(.dK (kK d g k i))/\m i=⇑(.lst (f.map V.int))/\m q=⇑(.lst ((bw t).map V.int))/\↑f+100<=100*↑U/\∀ y,y∈f↔In aN y:=λp=>by
   let b:=ag.fr (λa v e y=>p.2.1 _ _ e λz=>(n.du a z).1 y) p.2.2;let⟨f,r,ai,A⟩:=b.hv;exact⟨f,b.hw,r,p.2.1 _ _ (s _ _ x ak) aw,ai,A⟩
  refine dD (λ_=>?_) λ_=>?_
  ·refine⟨Y,F,d',Y,B.L.hx,1,Y,Y,ae,F,L,U,aB,j,nW,aN,t,h,X,1,n.Eo,an,fr,fh,am,lW,own,lv,n.lst,lr,Q,Q,λG m iJ _L2 J p=>?_⟩;let⟨f,T,r,q2,ai,A⟩:=ap p;let zv:=gp.k (k:=Mz) T;rw[show cG (kK d g k i) Mz=⇑↥i by kernel_rfl]at zv;refine⟨Y,w,Y,zv,Y,i,q,Z,r,q2,(by rw[cC,cC];exact gJ (aS ∅)),λz hz=>?_⟩;let s:=ao hz (.lst (f.map V.int++(bw t).map V.int));refine⟨Y,w,Y,zq.k (k:=Mz) (s _ _ T) (by show 4<sizeLine;decide),?_⟩;rw[show eO (kK d g k i) Mz ↥z=kK d g k z by kernel_rfl];let⟨I,N,e3,e4,e5⟩:=CA (v:=f++bw t) n ag _L2 p s hz (by rw[af,gx]) (by rw[dm];lia) (λy=>by rw[List.mem_append,A,gV];exact (J y).symm);exact ab G _ z iJ _ _ I N e3 e4 e5 (by rw[dm];rfl) λy b=>iv y ((J y).mp b)
  ·refine⟨Y,F,d',Y,B.L.hx,1,Y,Y,ae,F,L,U,aB,j,nW,aN,t,h,X,1,n.Eo,an,fr,fh,am,lW,own,lv,n.lst,lr,Q,Q,λG m iJ _L2 J p=>?_⟩;let⟨f,T,r,q2,ai,A⟩:=ap p;let zv:=gp.k (k:=Mz) T;rw[show cG (kK d g k i) Mz=⇑↥i by kernel_rfl]at zv;refine⟨Y,w,Y,zv,i,1,⟨_,bM.of r⟩,λu cL=>X7 (K:=K) (f:=[⇑↥q]) (q:=λy=>!decide (y∈bw t)) r ∅ cL (λaq y O L' ar v z=>?_) λO R v=>?_⟩
   ·exists Y,Y,q,Y,.inl (bM.of (v _ _ q2)),1,nQ _,Y;rw[if_pos rfl,uF];by_cases c:y∈bw t
    ·rw[if_neg (by simp[c])]at z ⊢;exact z
    ·rw[if_pos (by simp[c])]at z ⊢;exact⟨Y,z⟩
   refine⟨Y,w,Y,zq.k (k:=Mz) (v _ _ T) (by show 4<sizeLine;decide),?_⟩;rw[show eO (kK d g k i) Mz ↥u=kK d g k u by kernel_rfl];let r:=List.length_filter_le (λy=>!decide (y∈bw t)) f;let⟨I,N,e3,e4,e5⟩:=CA (v:=f.filter λy=>!decide (y∈bw t)) n ag _L2 p v cL R ∅ (λy=>by rw[List.mem_filter,A,J,← gV (r:=t)];simp);exact ab G _ u iJ _ _ I N e3 e4 e5 (by rw[dm];rfl) λy b=>iv y (.inl ((J y).mp b).1)
 refine⟨gK,λL hL=>?_⟩;let s1:=ao hL (.lst []);let n:=St.same s1;let L1:(aO H L (.lst [])) L=⇑(.lst []):=af;generalize aO H L (.lst [])=H1 at s1 n L1;let⟨d,g,k,i,wu⟩:=id St.wo;let⟨ls,S⟩:=St.src.lst;let⟨as,yg,pa⟩:=id wu.hi;refine⟨Y,Y,l,c,w,W,j,U,X,1,n.src,n.wo,n.dw,Q,λag t m l2 M aq fr S2 t=>?_⟩;let Gz:=n.mv t S2;let _L2:m L=⇑(.lst []):=t _ _ L1 (aA S hL).symm;let⟨bs,Fw,MU⟩:=id M;let ar:ag≠L:=(aA L1 fr).symm;let kk:∀ {u:Hp},cy L m u->∀ a A,H a=⇑A->a≠l->u a=⇑A:=λr a A e s=>r _ _ (t _ _ (s1 _ _ e) s) (aA e hL);have kt:∀ {u:Hp},cy L m u->∀ a o,m a=⇑(.tup o)->u a=⇑(.tup o):=λr a o e=>r _ _ e (cQ e _L2);refine⟨ag,1,⟨_,bM.of Fw⟩,dO (K:=K) (e:=ag) (b:=bs.map V.ref) (sT m j l w F L) ⟨7,none,none,[],[],1,_L2,.nil,fk _,(λ_ z=>by cases z),(λ_ ⟨_,z,_⟩=>by cases z),⟨E,E⟩,λa A e _=>e⟩ (by rintro ai σ u _ ⟨_,_,_,_,_,_,_,_,_,_,_,_,r⟩;exact bM.of (r _ _ Fw ar)) ?_ ?_⟩
 ·rintro ai y σ u hi ⟨h,u5,u6,ts,J,rfl,h3,p3,tl,T,own,am,r⟩;rw[lD]at hi;let⟨a,ea,rfl⟩:=Option.map_eq_some_iff.mp hi;let⟨⟨f,en⟩,ep,m⟩:=MU.get ea;let⟨b1,b2,b3,b4⟩:=aq _ (lU ep);simp only at b1 b2 b3;exists a,Y,dG.of (kt r _ _ m),1,P,1,Z;refine⟨Y,gK,λz hz=>⟨L,z,Y,1,ao hz _ _ _ h3,af,Y,?_⟩⟩;let B:=ao hz (.lst []);generalize aO u z (.lst [])=H4 at B;obtain⟨G,et⟩:∃ G,as[f.toNat]?=⇑G:=⟨_,nj (by rw[Paired.length pa];lia)⟩;let⟨p,ak,ht⟩:=mE pa et;let k4:∀ a A,H a=⇑A->a≠l->H4 a=⇑A:=λa A e s=>B _ _ (kk r a A e s);have an:=k4 _ _ wu.hw (St.dw w wu.ww).1;have X9:=k4 _ _ yg (St.dw d wu.wi).1;have zi:=gp.k (k:=kI) an;rw[show cG (kK d g k i) kI=⇑↥d by kernel_rfl]at zi;have Gs:=cT (a:=as.map V.ref) (j:=f.toNat) (v:=↥G) (by rw[lD,et];rfl);rw[show ((f.toNat:Nat):Int)=f by lia]at Gs;have YB:=k4 _ _ ht (cQ ht S)
  let m:ai<↑bs:=by
   rcases Nat.lt_or_ge ai ↑bs with z|z
   ·exact z
   ·rw[yh z]at ea;cases ea
  let bl:=MU.len;let ap:=p3.len;refine X8 (q:=p.1=h) (λ_ z=>?_) (λc=>?_) (λm n=>?_)
  ·rw[show decide (p.1=h)=decide (V.int p.1=V.int h) from decide_eq_decide.mpr ⟨λe=>by rw[e],λe=>V.int.inj e⟩]at z;exact⟨Y,w,Y,zi,Y,d,K,V,bM.of X9,Gs,G,K,V,dG.of YB,CY,Y,1,Y,z⟩
  ·exists Y,w,Y,zi,Y,d,K,V,bM.of X9,Gs,G,K,V,dG.of YB,CY;refine⟨j,l,w,F,L,d,g,k,i,p.1,f,en,1,an,⟨as,X9,Paired.AB pa λa q e=>k4 _ _ e (cQ e S)⟩,b1,b2,b3,li,KO ak,λMF O I N av v=>?_⟩;let PX:=B.trans v;let R:=PX _ _ h3;refine⟨Y,.inl ⟨1,_,bM.of R⟩,Y,Y,lG,λq x=>⟨L,Z,ao x _ _ _ R,(by rw[cC];exact aS ∅),?_⟩⟩;let m:q≠L:=(aA R x).symm;let s6:=ao x (.tup [.int f,.int MF]);let q6:(aO O q (.tup [.int f,.int MF])) q=⇑(.tup [.int f,.int MF]):=af;generalize aO O q (.tup [.int f,.int MF])=H6 at s6 q6;let t7:∀ a o,H6 a=⇑(.tup o)->(aO H6 L (.lst (ts.map V.ref++[↥q]))) a=⇑(.tup o):=λa o e=>by rw[aL (cQ e (s6 _ _ R))];exact e
   refine⟨p.1,P,ts++[q],J++[(f,MF)],1,by rw[af,gx];rfl,(((p3.same PX).same s6).tups t7).append (.cons (t7 _ _ q6) .nil),by rw[dm];exact Nat.add_le_add_right tl 1,λy b=>?_,λy b=>?_,fh p (lU ak),λa A e s=>by rw[aL s];exact s6 _ _ (PX _ _ (r _ _ e s))⟩
   ·rcases List.mem_append.mp b with b|b
    ·exact T y b
    ·rw[List.mem_singleton.mp b];exact⟨b1,I,Q,by simp only at b4 ⊢;lia⟩
   ·rcases lO.mp b with b|b
    ·rcases c with c|c
     ·let e0:ts=[]:=by simpa using c
      rw[e0,oj]at ap;have:J=[]:=List.length_eq_zero_iff.mp ap.symm;rw[this]at b;let⟨_,z,_⟩:=b;cases z
     ·rw[c];exact own y b
    ·let⟨ax,m,v1,f⟩:=b;rw[List.mem_singleton.mp m]at v1 f;exact av y v1 f
  ·exact⟨h,P,ts,J,1,B _ _ h3,p3.same B,Q,T,own,am,λa A e s=>B _ _ (r _ _ e s)⟩
 rintro σ u ⟨h,u5,u6,ts,J,rfl,h3,p3,tl,T,own,am,r⟩;let bl:=MU.len;rw[cC]at tl;let m:cy l H u:=kk r;let⟨_,_,n⟩:=St.src.has;let t:cX u l c:=S2.keep r (aA S hL) (by let⟨_,e⟩:=St.src.has.2;exact aA e hL);let r:=St.mv m t;let RL:bP u L J:=⟨ts,h3,p3⟩;let n:=Ah (k:=40) (a:=J) λp f=>by have:=T p f;lia
 let n:∀ y,In J y->0<=y/\y<(↑j:Nat):=λy ⟨p,f,z⟩=>by have:=T p f;lia
 let lv:2*(↑aN:Int)<=↑j+1:=by
  let⟨S',TM,d',Ve,QS,YE,YF,YG,YH,YI,AE,Ek,ay,aR,aZ,a0,a1,a2,DG,B⟩:=id St.Eo;have:=Qx (a:=0) (n:=↑j) B.nF (λp f=>(iv p.1 ⟨p,f,Int.le_refl _,B.nF.2 p f⟩).1) (λy b=>(iv y b).2) ∅;lia
 refine⟨Y,L,J,1,RL,(λp f=>by have:=T p f;exact⟨Q,Q,Q⟩),Q,Q,λq H4 u B R=>?_⟩;let ak:q≠l:=(aA t.has.1.choose_spec R).symm;refine⟨l,c,w,F,L,q,d,g,k,i,h,u5,u6,ae,W,U,X,aB,j,nW,aN,J,1,r.same B,wu.fr (λa v e y=>B _ _ (m _ _ e (St.dw a y).1)) (λa o e=>B _ _ (m _ _ e (cQ e S))),RL.same B,(aA S hL).symm,u,Q,ak,λy=>?_,⟨Q,λp f=>?_⟩,am,List.all_eq_true.mpr λp f=>?_,lW,λy b=>Qw (n y b).1 (n y b).2 (own y b),Q,lp,lr,ll,λy b=>b.elim (iv y) (n y),λG W' Vn iJ dc O L5 x S5 d5 e5 an ap=>?_⟩
 ·let⟨v,e⟩:=St.Eo.al y;rw[m _ _ e ak]at R;cases R
 ·have:=T p f;exact⟨⟨Q,Q⟩,Q,Q⟩
 ·have:=T p f;unfold Px;rw[decide_eq_true this.1,decide_eq_true this.2.1,decide_eq_true this.2.2.1];rfl
 let b:=gp.k (k:=kR) x.hw;rw[show cG (kK d g k Vn) kR=⇑↥g by kernel_rfl]at b;refine⟨Y,Y,w,Y,b,W',w,g,j,U,X,X,1,⟨d,g,k,Vn,x⟩,Q,λb d ⟨f,g,e⟩=>?_,λH6 av GZ aw _=>?_⟩
 ·rw[x.hw]at e;simp only[Option.some.injEq,HO.dK.injEq,kK,List.cons.injEq,Prod.mk.injEq,V.ref.injEq,true_and,and_true]at e;let⟨rfl,rfl,rfl,rfl⟩:=e;exact x.hr
 let S6:cX H6 l c:=by
  let⟨s,b,ai,d,ag,I,N,h3⟩:=S5;exact⟨s,b,ai,d,ag,GZ _ _ I (λz=>(e5 l z).1 rfl),GZ _ _ N (λz=>(e5 c z).2 rfl),h3⟩
 exact⟨Y,ab G W' iJ dc H6 ⟨S6,L5.fr (λa v e z=>GZ _ _ e (d5 a z).1) aw,by simp,av,d5,e5⟩ an ap⟩
noncomputable def c' (n:Nat) (a:c9):Y2:=open Classical in if h:Good n a then h.P9.choose else λ_=>[]
def Good.c'{n:Nat}{a:c9}(h:Good n a):Gd n a (c' n a):=by
 unfold _gn.c';rw[dif_pos h];exact h.P9.choose_spec
def tj(C j k m:Addr):TS:=λD i H=>∃ (l w x b:Addr) (U W n:Y1) (a:gP) (d c:c9) (o:gQ) (e:fY) (p:Nat) (g:Row) (s:Int) (f:Nat) (h:List V),i=[⇑↥l,⇑↥w,⇑↥x,⇑(.int s),⇑(.int (f:Nat)),⇑↥b,none]/\mT C j k m U H x a o e p g/\Wo 100 g W H w e a d/\gX n H b c/\H b=⇑(.lst h)/\↑h=↑c/\a[f]?=⇑c/\0<=s/\Good ↑e c/\a.getLast?=⇑d/\↑d<=50/\↑a<=800/\∀ (u:Option V) (i:Hp),aI H i->D.nx [⇑↥l,⇑↥w,⇑↥x,⇑(.int s),⇑(.int (f:Nat)),⇑↥b,u] i
class inductive Qy(C CS CW CB:Addr)
 | mk (l e w x:Addr) (U W:Y1) (a:gP) (b:c9) (f:gQ) (c:fY) (g:Nat) (h:Row) (_:vs=[↥l,↥w,↥x]) (_:pT C CS CW CB H l e w x U W a b a b f c g h) (_:1<=↑b) (_:↑a<=800) (_:Good ↑c b) (_:∀ y∈a,Good ↑c y) (_:∀ d,cy l H d->cX d l e->Q (.bl true) d)
theorem u9:‹(43,114,["_law_src_here","_law_world_here","_law_house"],(Qy C CS CW CB))›:=λD=>by
 let N:bg P w K mg zt cO 5 _ _ zl5 (vG 4):=ki D 4;specialize ef ["_law_src_here","_law_world_here","_law_house","_law_sheet","_law_moment","_law_rows","_law_numbers"] D.U7.F;let⟨A,B,w,x,U,W,d,i,t,k,F,l,rfl,St,G,lp,gr,ga,O⟩:=h;let G:=gH hr;exists _,#v[aY 3 (aC D.vh (d8 D) hr #[0,eY D.T.eL (eS G (pv 1) bx)]),aY 4 (bI cV (bI cV (eY D.T.eL (eS G (pv 1) bx)) az) (aC D.vh (d8 D) hr #[0,eY D.T.eL (eS G (pv 1) bx)])),aY 5 (aQ bJ (eS G (pv 1) bx) (pv 4)),vF (c:=tj C CS CW CB) (bR (aV jt (pv 3) (eY D.T.eL (pv 5)) (bz _)) #v[aY 6 (aC D.Dg (gI D 41) hr #[5,3]),bR (ir (iU (aC D.QJ N hr #[cH (pv 2) D.aM D.k' (kH D) hr bL #[3,4],aC D.OU (xC D) hr #[1,6]]))) #v[aK lY] bq,bR (ir (iU (aC D.QJ N hr #[cH (pv 2) D.aM D.Xf (gY D) hr bL #[3,4],aC D.Km (nE D) hr #[6]]))) #v[aK lY] bq] bq) ?b1,aY 6 (aC D.Dg (gI D 41) hr #[eS G (pv 1) bx,3]),bR (ir (iU (aC D.QJ N hr #[cH (pv 2) D.aM D.kS (pD D) hr bL #[3],aC D.OU (xC D) hr #[1,6]]))) #v[aK lY] bq,aK (aC D.QJ N hr #[cH (pv 2) D.aM D.OQ (gF D) hr bL #[3],aC D.Km (nE D) hr #[6]])]
 all_goals try dsimp only[aP,aG]
 case b1 =>
  rintro D J H ⟨A,w,x,m,U,W,e,d,i,j,t,k,F,l,s,n,tF,rfl,c,z,f,X,G,u,s0,r,p,q,L,O⟩;let g:=r.c';let⟨rk,rb,dn⟩:=id g.sn.rk;let ae:=g.ln;refine⟨Y,Y,m,Y,.inl (bM.of X),Z,Y,dD (λB=>?_) λ_=>O none H (aI.refl _)⟩;let B:=of_decide_eq_true B;obtain⟨b,rfl⟩:∃ b:Nat,s=b:=⟨s.toNat,Q⟩;let r:b<↑j:=by lia
  let a:qz ↑j ((b:Nat):Int):=⟨Q,Q⟩;let ls:=g.sl _ a.1 a.2;refine⟨Y,Y,e,m,j,(b:Nat),_,rk,1,f,Q,g.sn.sd,a.1,a.2,g.sn.ss,g.sn.ln,dn,by have:=rb b;lia,λo G I e fo=>?_⟩;refine⟨Y,(c.same e).m ⟨Y,Y,U,x,d,t,k,F,l,b,n,j,i,Y,c.same e,u,r,Q,Q,p,q,g.sn,Q,g.T7 _ a.1 a.2,λH2 f=>?_⟩⟩;let J:=e.trans f;refine⟨Y,Y,W,w,o,k,d,i,l,Y,z.same J,f _ _ I,Q,g.T7 _ a.1 a.2,λH3 R=>⟨P,1,.inl ⟨V⟩,λH4 v=>⟨true,1,eT ?_⟩⟩⟩;let z:=f.trans (R.trans v);let f:=e.trans z;refine⟨Y,(c.same f).m ⟨Y,Y,U,x,d,t,k,F,l,b,n,j,i,Y,c.same f,u,r,Q,Q,p,q,g.sn,λag H5 hq y fq=>?_⟩⟩;refine⟨Y,o,Y,(z.trans y) _ _ I,Q,λai H6 c S e=>⟨P,1,bP.eqv (hq.same S) c 1,λH7 s7=>⟨true,1,eT ?_⟩⟩⟩;exact O _ H7 (f.trans (y.trans (S.trans s7)))
 let g:=gr.c';let ae:=g.ln;let⟨p,e,c,q,f⟩:=id St.wo;let⟨xs,N,al⟩:=id f.hr.at_;let lv:=cF.len al;let J:=gp.k (k:=kR) f.hw;rw[show cG (kK p e c q) kR=⇑↥e by kernel_rfl]at J;refine⟨Y,Y,w,Y,J,e,Y,.inl (bM.of N),A,B,Y,St.src,Q,Q,λs G p0 G S1 k1=>?_⟩;let pU:=St.mv (cB k1) S1;let⟨p,e,c,q,f⟩:=id pU.wo;let⟨MA,DN,G⟩:=id f.hp;let N:=cF.len G;let z:=gp.k (k:=kP) f.hw;rw[show cG (kK p e c q) kP=⇑↥c by kernel_rfl]at z
 let G:1<=↑d:=by
  cases L:d with
  | nil=>have:=St.lst;rw[L]at this;cases this
  | cons=>simp
 refine⟨Y,w,Y,z,c,Y,.inl (bM.of DN),Z,Y,Y,w,Y,z,c,Y,.inl (bM.of DN),A,B,Y,S1,Q,Q,λB H2 N q1 G k2=>⟨Z,?_⟩⟩;let M:=pU.mv (cB k2) G;obtain⟨n,em⟩:∃ n:Nat,((MA.length:Nat):Int)-1-B=n:=⟨(((MA.length:Nat):Int)-1-B).toNat,Q⟩;obtain⟨j,u⟩:∃ j,d[n]?=⇑j:=⟨_,nj ∅⟩;let⟨p,e,c,q,f⟩:=id M.wo;let⟨B,ak,ab⟩:=id f.hp;let B:=cF.len ab;let z:=gp.k (k:=kP) f.hw;rw[show cG (kK p e c q) kP=⇑↥c by kernel_rfl]at z;let⟨am,hv,m,rfl,B⟩:=ab.get' u;let⟨_,_,_,tF,X,G⟩:=id B;refine⟨Y,w,Y,z,Y,c,K,V,bM.of ak,by rw[em];exact cT hv,?_⟩;rw[em];refine⟨A,w,x,m,U,W,_,d,i,j,t,k,F,l,s,n,tF,1,M.Eo,M.wo,B.at_,X,cF.len G,u,p0,ga j (lU u),M.lst,Q,lp,λu H3 R=>?_⟩;let r:=M.same R;let K3:cy A H H3:=λm o L T=>R _ _ ((cB k2) _ _ ((cB k1) _ _ L T) T);let⟨p,e,c,q,f⟩:=id r.wo;have J:=gp.k (k:=kR) f.hw;rw[show cG (kK p e c q) kR=⇑↥e by kernel_rfl]at J;obtain⟨b,rfl⟩:∃ b:Nat,s=b:=⟨s.toNat,Q⟩;have a:qz ↑i ((b:Nat):Int):=⟨Q,Q⟩;have ls:=g.sl _ a.1 a.2;let⟨rk,rb,dn⟩:=id g.sn.rk;let⟨n,X,c,p,q,u,z,A,B,G,M,N,dw,sg,ow,pw,db,tb,R,j⟩:=id r.Eo;refine⟨Y,w,Y,J,Y,_,e,i,(b:Nat),_,rk,1,f.hr.at_,Q,g.sn.sd,a.1,a.2,g.sn.ss,g.sn.ln,dn,by have:=rb b;lia,λo H4 I v fo=>?_⟩;refine⟨Y,x,c,Y,(j.same v).L.hx,1,Y,U,x,d,t,k,F,l,i,(b:Nat),Y,r.Eo.same v,r.lst,Q,Q,a,g.sn,ls,g.T7 _ a.1 a.2,λH5 y=>?_⟩;have e:=v.trans y;refine⟨Y,Y,W,w,o,k,d,i,l,Y,r.wo.same e,y _ _ I,Q,g.T7 _ a.1 a.2,λH6 S=>⟨P,1,.inl ⟨V⟩,λH7 s7=>⟨true,1,eT ?_⟩⟩⟩;have f:=y.trans (S.trans s7);have e:=v.trans f;refine⟨Y,x,c,Y,(j.same e).L.hx,1,Y,n,x,c,p,q,u,z,A,B,G,M,N,d,R,t,i,(b:Nat),1,(j.same e).L,r.lst,Q,Q,a,⟨_,g.sn,λag b hq a fq=>?_⟩⟩;refine⟨Y,o,Y,(f.trans a) _ _ I,Q,λai d c b f=>⟨P,1,bP.eqv (hq.same b) c 1,λd f=>?_⟩⟩;have c:=e.trans (a.trans (b.trans f));exact O d (λm o L T=>c _ _ (K3 m o L T)) (r.src.same c)
def DX{n m:Nat}(h:m<=40):Good n (e0 m):=by
 refine⟨λc a e b=>?_,Qp m,by rw[xF];exact h,λ_=>0,λx c _ a=>?_,λ_ _ _=>(by decide:(0:Int)<=200)⟩
 ·rw[wD a]at b;cases b
 ·rw[wD (lU a)];rfl
theorem MJ{n m:Nat}(h:n<=40):∀ y∈u7 n,Good m y:=λy a=>by
 unfold u7 at a;rcases List.mem_append.mp a with z|z
 ·have:y=[]:=by simpa using z
  rw[this];exact DX (m:=0) ∅
 ·let⟨k,b,rfl⟩:=List.mem_map.mp z;have:=List.mem_range.mp b;exact DX ∅
def Ug{a:Row}{b:Wp}{n:Nat}(d:pS a)(c:∀ y,y∈b↔In a y)(e:∀ y,In a y->0<=y/\y<(n:Nat)):cE ((run 0 n).filter λx=>decide (x∈b))=a:=by
 refine (Sv d (Fg ((zD _ _).filter _)) λx=>?_).symm;rw[← c,zE,List.mem_filter,oG,decide_eq_true_iff];refine⟨λz=>⟨?_,z⟩,λz=>z.2⟩;have:=e x ((c x).mp z);lia
inductive QW(C CS CW CB l c x w:Addr)(b:Nat)(H:Hp):Prop
 | mk (U W:Y1) (e:gP) (d:c9) (f:gQ) (a:fY) (g:Row) (_:pT C CS CW CB H l c w x U W e d e d f a 2 g) (_:1<=↑d) (_:↑d<=4) (_:↑e<=20+2*b) (_:↑f<=20+2*b) (_:↑a<=120) (_:∀ p∈a,jZ p.1) (_:∀ y,In g y->0<=y/\y<(↑a:Nat)) (_:Good ↑a d) (_:∀ y∈e,Good ↑a y)
def QW.mv{l c x w:Addr}{b:Nat}{H a:Hp}(h:QW C d e f l c x w b H)(k:cy l H a)(g:cX a l c):QW C d e f l c x w b a:=by
 let⟨U,W,i,j,m,n,o,St,p,q,r,s,t,u,v,y,z⟩:=h;exact⟨U,W,i,j,m,n,o,St.mv k g,p,q,r,s,t,u,v,y,z⟩
def QW.src{l c x w:Addr}{b:Nat}{H:Hp}(h:QW C a d e l c x w b H):cX H l c:=by
 let⟨_,_,_,_,_,_,_,St,_⟩:=h;exact St.src
theorem QW.same{l c x w:Addr}{b:Nat}{H a:Hp}(h:QW C d e f l c x w b H)(s:aI H a):QW C d e f l c x w b a:=h.mv (λg o i _=>s g o i) (h.src.same s)
def all_mk:UB:=by
 intro P w K mg S O;let⟨a,d,e,BC,EM,b,X,G,T,JV,lF,lK,NW,sQ,uy,lN,JW,j3,NY,CQ,CU,NZ,JX,BD,uz,fE,qv,CV,JY,EN,q0,q1,q2,q3,q4,q5,q6,q7,q8,q9,BE,ak,am,an,ap,aq,ar,av,aw,ax,ay,aR,a0,a1,a2,a3,a4,a5,a6,a7,a8,a9,ba,bb,bc,be,bi,bj,bm,bn,bo,bp,bt,bv,bA,bB,bH,bQ,b0,b4,b5,b6,b7,ca,cb,cc,cd,ce,cf,cg,ch,ci,cj,cm,cn,cp,cq,cr,cs,cv,cw,cx,c0,c1,c2,c3,c4,c5,c6,c7,c8,da,dc,dd,de,df,di,dq,dr,ds,dv,dy,dA,dC,dE,dL,dR,dU,dV,dW,Zz,ZA,ZC,ZD,ZE,ZF,ZG,ZH,ZI,ZJ,ZK,ZL,ZM,ZN,ZO,ZP,z0,z1,z2,z3,z4,z5,z6,z7,z8,z9,dX,d0,d1,d2,rS,rT,EO,uA,rV⟩:=O;let⟨al,R,cl,kl⟩:=ZP;let i:=T.symm.trans (mg_of X G al);cases i;obtain⟨n,d3,bF⟩:∃ n,Rv K "law" "law" Rx S n/\∀ (s:Shared) (v:Value),BindsTo s n ⟨[v],[]⟩ [("_law_script",v)]:=⟨_,Hy (a:=Rx) R cl kl,λs v=>.of_eq rfl⟩;let⟨S,MK⟩:=q0.d (ps:=["_law_script"]) X G;let⟨g1,IS⟩:=q1.d (ps:=["_law_src_here","_law_base"]) X G;let⟨g2,GD⟩:=q2.d (ps:=["_law_found"]) X G;let⟨g3,IT⟩:=q3.d (ps:=["_law_found","_law_due"]) X G;let⟨g4,Yb⟩:=q4.d (ps:=["row"]) X G;let⟨g5,T⟩:=q5.d (ps:=["row"]) X G;let⟨g6,A7⟩:=q6.d (ps:=["row","start","stop"]) X G;let⟨g7,Uh⟩:=q7.d (ps:=["row","start","stop"]) X G;let⟨g8,d4⟩:=q8.d (ps:=["row","start","stop"]) X G;let⟨g9,IU⟩:=q9.d (ps:=["row"]) X G;let⟨d5,Ui⟩:=BE.d (ps:=["row"]) X G;let⟨d6,xP⟩:=ak.d (ps:=["holes","start"]) X G;let⟨ak,Uj⟩:=am.d (ps:=["holes","address"]) X G;let⟨am,IV⟩:=an.d (ps:=["start","stop","holes"]) X G;let⟨an,Qz⟩:=ap.d (ps:=["row","other"]) X G;let⟨ap,pH⟩:=aq.d (ps:=["self"]);let⟨aq,GF⟩:=ar.d (ps:=["self","row"]);let⟨ar,GG⟩:=av.d (ps:=["self","row"]);let⟨av,DY⟩:=aw.d (ps:=["self","address"]);let⟨aw,IW⟩:=ax.d (ps:=["self"]);let⟨ax,QA⟩:=ay.d (ps:=["items"]) X G;let⟨ay,Yc⟩:=aR.d (ps:=["rows","sheets"]) X G;let⟨aR,DZ⟩:=a0.d (ps:=["rows","start","goal"]) X G;let⟨a0,ea⟩:=a1.d (ps:=["rows","sheet"]) X G;let⟨a1,D0⟩:=a2.d (ps:=["item","weights"]) X G;let⟨a2,As⟩:=a3.d (ps:=["rows","sheets"]) X G;let⟨a3,ML⟩:=a4.d (ps:=["item","views"]) X G;let⟨a4,D3⟩:=a5.d (ps:=["rows","sheets"]) X G;let⟨a5,QB⟩:=a6.d (ps:=["rows","sheet"]) X G;let⟨a6,QC⟩:=a7.d (ps:=["one","other"]) X G;let⟨a7,D4⟩:=a8.d (ps:=["items"]) X G;let⟨a8,Yd⟩:=a9.d (ps:=["row"]) X G;let⟨a9,Ye⟩:=ba.d (ps:=["items","views"]) X G;let⟨ba,IX⟩:=bb.d (ps:=["items","views","place","others"]) X G;let⟨bb,IY⟩:=bc.d (ps:=["rows","sheet","place","items"]) X G;let⟨bc,Uk⟩:=be.d (ps:=["items","views","start","stop"]) X G;let⟨be,IZ⟩:=bi.d (ps:=["rows","sheet","start","stop"]) X G;let⟨bi,D5⟩:=bj.d (ps:=["rows","sheet","start","stop","to"]) X G;let⟨bj,D6⟩:=bm.d (ps:=["rows","sheet"]) X G;let⟨bm,I0⟩:=bn.d (ps:=["row"]) X G;let⟨bn,GH⟩:=bo.d (ps:=["deed"]) X G;let⟨bo,QD⟩:=bp.d (ps:=["state","sheet","items"]) X G;let⟨bp,pI⟩:=bt.d (ps:=["self"]);let⟨bt,Ja⟩:=bv.d (ps:=["self"]);let⟨bv,GI⟩:=bA.d (ps:=["self"]);let⟨bA,GJ⟩:=bB.d (ps:=["self","changes"]);let⟨bB,tN⟩:=bH.d (ps:=["self","sheet"]);let⟨bH,rm⟩:=bQ.d (ps:=["self","moment"]);let⟨bQ,wG⟩:=b0.d (ps:=["self","moment"]);let⟨b0,GK⟩:=b4.d (ps:=["self"]);let⟨b4,Jb⟩:=b5.d (ps:=["self","sheet"]);let⟨b5,qE⟩:=b6.d (ps:=["self"]);let⟨b6,qF⟩:=b7.d (ps:=["self"]);let⟨b7,qG⟩:=ca.d (ps:=["self"]);let⟨ca,Jc⟩:=cb.d (ps:=["self"]);let⟨cb,Jd⟩:=cc.d (ps:=["self","hand","text"]);let⟨cc,GL⟩:=cd.d (ps:=["self","row"]);let⟨cd,D7⟩:=ce.d (ps:=["rows","sheet"]) X G;let⟨ce,nh⟩:=cf.d (ps:=["self"]);let⟨cf,Au⟩:=cg.d (ps:=["self","deed","changes"]);let⟨cg,xQ⟩:=ch.d (ps:=["self","deed","sheet","items"]);let⟨ch,A8⟩:=ci.d (ps:=["self"]);let⟨ci,Av⟩:=cj.d (ps:=["self","deed","items"]);let⟨cj,Aw⟩:=cm.d (ps:=["self"]);let⟨cm,D8⟩:=cn.d (ps:=["self"]);let⟨cn,rA⟩:=cp.d (ps:=["self","row"]);let⟨cp,A9⟩:=cq.d (ps:=["self","hand","text"]);let⟨cq,D9⟩:=cr.d (ps:=["self","sheet","place","row"]);let⟨cr,Ax⟩:=cs.d (ps:=["self","sheet"]);let⟨cs,Ea⟩:=cv.d (ps:=["self","sheet","start","stop"]);let⟨cv,Ay⟩:=cw.d (ps:=["self","target","place","source","start","stop"]);let⟨cw,Eb⟩:=cx.d (ps:=["self","sheet"]);let⟨cx,xR⟩:=c0.d (ps:=["self","target","place","source"]);let⟨c0,Ec⟩:=c1.d (ps:=["self","sheet"]);let⟨c1,Ba⟩:=c2.d (ps:=["self","sheet","start","stop","to"]);let⟨c2,rB⟩:=c3.d (ps:=["self","address"]);let⟨c3,Je⟩:=c4.d (ps:=["self","address"]);let⟨c4,xS⟩:=c5.d (ps:=["self","row","veil"]);let⟨c5,Bb⟩:=c6.d (ps:=["self","sheet"]);let⟨c6,vc⟩:=c7.d (ps:=["self","sheet","moment"]);let⟨c7,rC⟩:=c8.d (ps:=["self","sheet","moment"]);let⟨c8,tO⟩:=da.d (ps:=["self","sheet","moment"]);let⟨da,Ed⟩:=dc.d (ps:=["self"]);let⟨dc,Ef⟩:=dd.d (ps:=["self","hand"]);let⟨dd,tP⟩:=de.d (ps:=["self","hand","row"]);let⟨de,Bc⟩:=df.d (ps:=["self","hand","row"]);let⟨df,Bd⟩:=di.d (ps:=["self","hand","row"]);let⟨di,xT⟩:=dq.d (ps:=["self"]);let⟨dq,Jf⟩:=dr.d (ps:=["_law_src_here","_law_few"]) X G;let⟨dr,Jg⟩:=ds.d (ps:=["_law_src_here","_law_many"]) X G;let⟨ds,GN⟩:=dv.d (ps:=[]) X G;let⟨dv,Jh⟩:=dy.d (ps:=["_law_world_here","_law_rows"]) X G;let⟨dy,Ji⟩:=dA.d (ps:=["_law_rows","_law_sheet","_law_entries"]) X G;let⟨dA,GO⟩:=dC.d (ps:=["_law_row"]) X G;let⟨dC,Jj⟩:=dE.d (ps:=["_law_rows","_law_sheet"]) X G;let⟨dE,Be⟩:=dL.d (ps:=["_law_rows","_law_sheet"]) X G;let⟨dL,Eg⟩:=dR.d (ps:=["_law_rows","_law_entry"]) X G;let⟨dR,MM⟩:=dU.d (ps:=["_law_rows","_law_sheet","_law_place","_law_new"]) X G;let⟨dU,MN⟩:=dV.d (ps:=["_law_rows","_law_sheet","_law_start","_law_stop"]) X G;let⟨dV,Bf⟩:=dW.d (ps:=["_law_rows","_law_sheet"]) X G;let⟨dW,Eh⟩:=Zz.d (ps:=["_law_numbers"]) X G;let⟨eb,Jk⟩:=ZA.d (ps:=["_law_rows","_law_sheet"]) X G;let⟨ec,GP⟩:=ZC.d (ps:=["_law_world_here","_law_deed_here"]) X G;let⟨ed,Bg⟩:=ZD.d (ps:=["self","sheet","moment"]);let⟨ee,Jl⟩:=ZE.d (ps:=["_law_house","_law_deed_here"]) X G;let⟨eg,Bh⟩:=ZF.d (ps:=["_law_src_here","_law_world_here"]) X G;let⟨eh,Bj⟩:=ZG.d (ps:=["_law_src_here","_law_sheet","_law_room"]) X G;let⟨ei,Jm⟩:=ZH.d (ps:=["_law_src_here","_law_world_here"]) X G;let⟨ej,Jo⟩:=ZI.d (ps:=["_law_src_here","_law_world_here","_law_house"]) X G;let⟨ek,Jp⟩:=ZJ.d (ps:=["_law_src_here","_law_world_here","_law_house"]) X G;let⟨el,GQ⟩:=ZK.d (ps:=["_law_world_here","_law_house"]) X G;let⟨eo,GR⟩:=ZL.d (ps:=["_law_src_here","_law_world_here","_law_house"]) X G;let⟨ep,Jq⟩:=ZM.d (ps:=["_law_world_here","_law_numbers"]) X G;let⟨er,Jr⟩:=ZN.d (ps:=["_law_src_here","_law_world_here","_law_house"]) X G;let⟨et,wH⟩:=ZO.d (ps:=["_law_src_here","_law_world_here","_law_house"]) X G;let eu:hU mg:=⟨PySem.W.mg_none_of X G z0,vm X G z1,vm X G z2,vm X G z3,vm X G z4,vm X G z5,vm X G z6,vm X G z7,vm X G z8,vm X G z9,vm X G dX,vm X G d0,vm X G d1,vm X G d2,λdX i=>(T.m).symm.trans i ▸ mg_of X G uA,λdX i=>(QB.m).symm.trans i ▸ mg_of X G rV⟩;let G_:hV mg:=⟨⟨_,mg_of X G rS⟩,⟨_,mg_of X G rT⟩,⟨_,mg_of X G EO⟩⟩;let cP:=JV.d X G pI.mt;let iF:=NW.d X G qG.mt;let jh:=JW.d X G pH.mt;let Cd:=NY.d X G qE.mt;let Fq:=NZ.d X G qF.mt;let aM:=BD.d X G nh.mt;obtain⟨G,X,D⟩:∃ G X,Ds K mg G X b a d e BC EM:=⟨gA [_,_,_,_,_,_,_,_,_,_,_,_,_,_,_,_,_,_,_,_,_,_,_,_,_,_,_,_,_,_,_,_,_,_,_,_,_,_,_,_,_,_,_,_,_,_,_,_,_,_,_,_,_,_,_,_,_,_,_,_,_,_,_,_,_,_,_,_,_,_,_,_,_,_,_,_,_,_,_,_,_,_,_,_,_,_,_,_,_,_,_,_,_,_,_,_,_,_,_,_,_,_,_,_,_,_,_,_,_,_,_,_,_,_,_] 0,gA [S,g1,g2,g3,g4,g5,g6,g7,g8,g9,d5,d6,ak,am,an,ap,aq,ar,av,aw,ax,ay,aR,a0,a1,a2,a3,a4,a5,a6,a7,a8,a9,ba,bb,bc,be,bi,bj,bm,bn,bo,bp,bt,bv,bA,bB,bH,bQ,b0,b4,b5,b6,b7,ca,cb,cc,cd,ce,cf,cg,ch,ci,cj,cm,cn,cp,cq,cr,cs,cv,cw,cx,c0,c1,c2,c3,c4,c5,c6,c7,c8,da,dc,dd,de,df,di,dq,dr,ds,dv,dy,dA,dC,dE,dL,dR,dU,dV,dW,eb,ec,ed,ee,eg,eh,ei,ej,ek,el,eo,ep,er,et] S,eu,G_,aM,cP,iF,jh,Cd,Fq,lF,lK,sQ,uy,lN,j3,CQ,CU,JX,uz,fE,qv,CV,JY,EN,MK,IS,GD,IT,Yb,T,A7,Uh,d4,IU,Ui,xP,Uj,IV,Qz,pH,GF,GG,DY,IW,QA,Yc,DZ,ea,D0,As,ML,D3,QB,QC,D4,Yd,Ye,IX,IY,Uk,IZ,D5,D6,I0,GH,QD,pI,Ja,GI,GJ,tN,rm,wG,GK,Jb,qE,qF,qG,Jc,Jd,GL,D7,nh,Au,xQ,A8,Av,Aw,D8,rA,A9,D9,Ax,Ea,Ay,Eb,xR,Ec,Ba,rB,Je,xS,Bb,vc,rC,tO,Ed,Ef,tP,Bc,Bd,xT,Jf,Jg,GN,Jh,Ji,GO,Jj,Be,Eg,MM,MN,Bf,Eh,Jk,GP,Bg,Jl,Bh,Bj,Jm,Jo,Jp,GQ,GR,Jq,Jr,wH⟩;refine⟨n,bF,λzt _ _=>?_⟩;let MO:bg P w K mg zt cO 1 _ _ ["_law_script"] (UD K):=Io D;let cu:bg P w K mg zt cO 1 _ _ Yi sU:=d8 D;let vd:bg P w K mg zt cO 3 _ _ Bk (Cv b a d e):=rf D;let GS:bg P w K mg zt cO 1 _ _ [] KA:=DM D;let GU:bg P w K mg zt cO 9 _ _ CC (Ar b a d e):=DV D;let Js:bg P w K mg zt cO 46 _ _ CC (Gu b a d e):=Gv D (Gr D) (DT D) (Gp D) (Gq D);let n:bg P w K mg zt cO 6 _ _ Ul (F8 b a d e):=pD D;let n:bg P w K mg zt cO 5 _ _ Yh (Kw b a d e):=gY D;let n:bg P w K mg zt cO 6 _ _ Yh (Kx b a d e):=kH D;let n:bg P w K mg zt cO 5 _ _ YL (yf b a d e fu Or):=pF D;let n:bg P w K mg zt cO 5 _ _ YL (yf b a d e fv λf c=>f/\¬ c):=pG D;let xU:bg P w K mg zt cO 2 _ _ Bk (Ky b a d e):=uY D;let Ei:bg P w K mg zt cO 2 _ _ Bk (Pz b a):=Aa D;let n:bg P w K mg zt cO 5 _ _ Ul (F5 b a):=gF D;let Ju:bg P w K mg zt cO 6 _ _ CC (GB b a d e):=GC D;let wI:bg P w K mg zt cO 43 _ _ CC (Qy b a d e):=u9 D;let Ej:bg P w K mg zt cO 1 _ _ ["_law_numbers"] J4:=nE D;let gM:bg P w K mg zt cO 5 _ _ zl5 (vG 4):=ki D 4;refine ef ["_law_script","_law_src_here","_law_house","_law_world_here","_law_k","_law_due"] d3 λn G S s ab T Q E c _ ev=>?_;let⟨f,ns,rfl,hS,n,ew⟩:=ev;have B:=gH c;refine⟨_,#v[aY 1 (aC D.hY MO c #[0]),aY 2 (nL D.aM.Yt vd (c.mono (by decide)) rfl D.aM.m D.kc.b .nil bL),aY 3 (Nr GS (c.mono (by decide)) rfl D.SJ.m D.SJ.F.kp D.SJ.b .nil bL),aU (aC D.U0 GU c #[1,3,2]),eE PassesOwn.never rfl (jk rfl D.T.jd #[aC D.vh cu c #[1,az]]) (bV 4) #v[bR (PW.pt (Bo (ir (iU (aC D.UX Js c #[1,3,2]))) (yo (ir (iU (aC D.U6 Ju c #[1,3,2])))))) #v[aK lY] bq,bR (ir (iU (aC D.U7 wI c #[1,3,2]))) #v[aK lY] bq,J9 (N:=["_law_number","_law_world_here"]) (l:=5) (jO (c:=b8 Rx) (f:=["_law_script","_law_src_here","_law_house","_law_world_here","_law_k","_law_due"]) (d:=[none,some 3]) rfl rfl rfl nofun nofun rfl nofun rfl nofun) rfl (by assumption) rfl rfl (jk rfl D.T.jd #[eY D.T.eL (eS B (pv 3) bx)]) (λ_ _ _ _ _ _=>(bV 0)) (λ_ _ _ _ _ _=>uB (aV Si (pv 0) (eS B (pv 1) bx) rfl)) (λ_ _ _ _ _ _=>(pv 0)),bR (ir (iU (aC D.QJ gM c #[ff (pv 2) D.aM D.lq xU c bL,aC D.Km Ej c #[5]]))) #v[aK lY] bq],aK (aC D.QJ gM c #[ff (pv 2) D.aM D.lf Ei c bL,bI cV (eY D.T.eL (eS B (pv 3) bx)) az])],?_⟩
 all_goals try dsimp only[aP,aG]
 refine⟨Y,f,ns,1,hS,λl g n S1 B _ _=>?_⟩;intro x B fx D _;refine⟨x,B,1,af,λU G _L2 fU B=>⟨1,?_⟩⟩;let G:=lT fx D B;let S2:=S1.same G
 let ey:∀ f,U f->n f=none:=λf z=>by
  rcases fU f z with y|y
  ·rw[y];exact fx
  ·exact n8 y
 refine⟨1,λW w B D fW n=>?_⟩
 let Ep:pT b a d e B l g w x U W [[]] [] [[]] [] [] [] 0 []:=by
  refine⟨S2.same n,_L2.same n,1,D,λf z=>⟨λy=>?_,?_⟩,λf z=>?_⟩
  ·let⟨h,i⟩:=_L2.al z;rw[fW f y]at i;cases i
  ·let n:=S1.ne (ey f z);exact⟨n.1.symm,n.2.symm⟩
  ·let n:=S2.ne (fW f z);exact⟨n.1.symm,n.2.symm⟩
 refine⟨Y,Y,Y,l,g,w,x,U,W,1,Ep,λB D T n h G X n4 li S ak i _=>?_⟩;let T:=Aq n;refine⟨Y,l,g,9,1,i.src,E,E,λv H6 v0 v1 T X=>⟨v,1,Q,Q,?_⟩⟩;refine nJ (lo:=0) (n:=v.toNat) (λr C ab=>∃ F H:Option V,C=[⇑↥f,⇑↥l,⇑↥x,⇑↥w,F,H]/\QW b a d e l g x w r ab) ⟨none,none,1,B,D,u7 n,e0 n,G,h,[],i.mv (cB X) T,by rw[xF];lia,by rw[xF];lia,Q,Q,Q,S,(λ_ ⟨_,z,_⟩=>by cases z),DX ∅,MJ ∅⟩ ?_ ?_
 ·rintro r C H6 hj ⟨F,H,rfl,U,W,p,ae,I,h,J,St,r1,r2,b1,b2,b3,L,iv,gd,ga⟩;let f:r<9:=by lia
  refine⟨Y,Y,Y,l,g,w,x,U,W,p,ae,I,h,2,J,1,St,r1,Q,Q,Q,gd,λf i t q n H7 v B lp R u ez=>⟨true,1,eT ?_⟩⟩;refine⟨Y,Y,Y,l,g,w,x,f,i,t,q,n,h,2,J,1,v,Q,Q,Q,Q,E,L,iv,λU2 W2 Vu DW H8 M f ag=>⟨true,1,eT ?_⟩⟩
  let ai:∀ y∈t++[q],Good ↑h y:=λy hy=>by
   rcases List.mem_append.mp hy with z|z
   ·rcases ez y z with z|z
    ·exact ga y z
    ·rw[z];exact u
   ·rw[List.mem_singleton.mp z];exact u
  let f:↑(t++[q])=↑t+1:=by rw[dm];rfl
  let f:QW b a d e l g x w (r+1) H8:=⟨U2,W2,_,q,DW,h,Vu,M,Q,Q,Q,Q,b3,L,ag,u,ai⟩;refine⟨Y,Y,Y,l,g,w,x,U2,W2,_,q,DW,h,2,Vu,1,M,Q,Q,u,ai,λd a b=>⟨true,1,eT ?_⟩⟩;let l:=f.mv a b;let d:=M.mv a b;let⟨k,A,m,o,j⟩:=id d.wo;let⟨b,e,a⟩:=id j.hi;let f:=Paired.length a;let⟨a,n,_,q⟩:=id j.hv;let b:=gp.k (k:=kI) j.hw;rw[show cG (kK k A m o) kI=⇑↥k by kernel_rfl]at b;refine⟨Y,w,Y,b,k,Y,.inl (bM.of e),(↑h:Nat),by rw[cC,f],Q,Q,λr b=>Qu (lo:=0) (q:=λy=>decide (y∈a)) ∅ b (λu y e i M t v f b=>?_) λi t e=>?_⟩
  ·let i:=gp.k (k:=Mz) (f _ _ j.hw);rw[show cG (kK k A m o) Mz=⇑↥o by kernel_rfl]at i;exists Y,Y,w,Y,i,o,Y,.inl (bM.of (f _ _ n)),1,nQ a,Y;rw[uF,if_neg lV];by_cases g:y∈a
   ·rw[if_pos (decide_eq_true g)]at b ⊢;exact⟨Y,b⟩
   ·rw[if_neg λz=>g (of_decide_eq_true z)]at b ⊢;exact b
  ·let N:=List.length_filter_le (λy=>decide (y∈a)) (run 0 ↑h);rw[eG]at N;refine⟨Y,(d.Eo.same e).m ⟨K,K,Y,d.Eo.same e,λO b d f a g=>?_⟩⟩;refine⟨Y,r,Y,a _ _ t,by show List.length (List.filter _ (run 0 ↑h))<=1000000;lia,λr g c b i=>⟨P,1,bP.eqv (d.same b) (Ug f q ag ▸ c) 1,λd c=>⟨true,1,eT ⟨P,1,l.same (e.trans (a.trans (b.trans c)))⟩⟩⟩⟩
 ·rintro C H6 ⟨F,H,rfl,U,W,p,ae,I,h,J,St,r1,r2,b1,b2,b3,L,iv,gd,ga⟩;let⟨k,A,m,o,j⟩:=id St.wo;let⟨b,c,a⟩:=id j.hp;let e:=cF.len a;let a:=gp.k (k:=kP) j.hw;rw[show cG (kK k A m o) kP=⇑↥m by kernel_rfl]at a;let⟨S,q,d,f,g,N,h,i,j,k,l,n,r,t,u,v,y,z,o,b⟩:=id St.Eo;let lp:↑(oQ p)=↑p:=cC _;exact⟨Y,x,d,Y,b.L.hx,1,S,x,d,f,g,N,h,i,j,k,l,n,oQ p,o,I,1,b.L,Y,w,Y,a,m,Y,.inl (bM.of c),Z,P,1,.inl ⟨1,by rw[lp,e]⟩,λH7 _=>ew H7⟩
end
end _gn
theorem PySem.Challenge.cw_inkroot_k44_blots_in_sheets_holds : PySem.Challenge.rw_inkroot_k44_blots_in_sheets.Holds :=
 InkHd.hd2 _gn.all_mk
