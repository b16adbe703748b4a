import PyProof.Rows.All
import KE.KIntText
import KE.KTryMore
import KE.KDictLaws
import KE.KItem
import Open.Pieces
import KE.RegKTryMore
import OpenK.KOwn
import Lean
import PyProof.EqAt
import PyProof.EqKinds
import PyProof.TupleCall
import PySem.Challenge.RW_inkroot_k53_common_of_sheets
set_option Elab.async false
set_option linter.all false
set_option maxRecDepth 100000
set_option maxHeartbeats 4000000
abbrev m8:=List (List (List Int))
abbrev dI:=List (List Int)
abbrev oF:=List (List Nat)
abbrev mP:=List (Int × Nat)
abbrev lY:List PySem.Str:=["self"]
abbrev SO:List PySem.Str:=["self","moment"]
abbrev zl2:List PySem.Str:=["self","changes"]
abbrev Eh:List PySem.Str:=["self","sheet"]
abbrev JU:List PySem.Str:=["self","deed","changes"]
abbrev G4:List PySem.Str:=["self","deed","sheet","items"]
abbrev zl6:List PySem.Str:=["self","deed","items"]
abbrev Sk:List PySem.Str:=["self","hand","text"]
abbrev U6:List PySem.Str:=["self","row"]
abbrev YO:List PySem.Str:=["self","sheet","place","row"]
abbrev Wd:List PySem.Str:=["self","sheet","start","stop"]
abbrev Wf:List PySem.Str:=["self","sheet","start","stop","to"]
abbrev Wg:List PySem.Str:=["self","target","place","source","start","stop"]
abbrev Wh:List PySem.Str:=["self","target","place","source"]
abbrev Nd:List PySem.Str:=["_law_found","_law_due"]
abbrev gY:List PySem.Str:=["row"]
abbrev pQ:List PySem.Str:=["row","start","stop"]
abbrev G5:List PySem.Str:=["ones","others","first","second"]
abbrev oG:List PySem.Str:=["items"]
abbrev Pa:List PySem.Str:=["rows","start","goal"]
abbrev mY:List PySem.Str:=["rows","sheets"]
abbrev Pb:List PySem.Str:=["item","weights"]
abbrev yH:List PySem.Str:=["item","views"]
abbrev G6:List PySem.Str:=["one","other"]
abbrev Fj:List PySem.Str:=["items","views"]
abbrev Nf:List PySem.Str:=["items","views","place","others"]
abbrev G7:List PySem.Str:=["items","views","start","stop"]
abbrev vD:List PySem.Str:=["rows","sheet"]
abbrev Ng:List PySem.Str:=["state","sheet","items"]
abbrev Pc:List PySem.Str:=["rows","sheet","place","items"]
abbrev SQ:List PySem.Str:=["rows","sheet","start","stop"]
abbrev SR:List PySem.Str:=["rows","sheet","start","stop","to"]
abbrev oH:List PySem.Str:=["_law_rows","_law_sheet"]
abbrev Nh:List PySem.Str:=["_law_rows","_law_entry"]
abbrev Wi:List PySem.Str:=["_law_rows","_law_sheet","_law_place","_law_new"]
abbrev Wj:List PySem.Str:=["_law_rows","_law_sheet","_law_start","_law_stop"]
abbrev JV:List PySem.Str:=["_law_rows","_law_sheet","_law_entries"]
abbrev Pd:List PySem.Str:=["_law_row"]
abbrev Bb:List PySem.Str:=["_law_src_here","_law_base"]
abbrev Ni:List PySem.Str:=["_law_src_here","_law_world_here"]
abbrev Wk:List PySem.Str:=["_law_src_here","_law_sheet","_law_room"]
abbrev Wl:List PySem.Str:=["_law_world_here","_law_deed_here"]
abbrev JW:List PySem.Str:=["_law_world_here","_law_rows"]
abbrev Wm:List PySem.Str:=["_law_house","_law_deed_here"]
abbrev Nj:List PySem.Str:=["_law_src_here","_law_world_here","_law_house"]
abbrev cR:=@List.length_map.{0,0}
abbrev dH:=@List.length_append.{0}
abbrev j0:=@List.map_append.{0,0}
abbrev tO:=@List.getElem?_eq_getElem.{0}
abbrev iT:=@Nat.le_refl
abbrev oJ:=@List.length_cons.{0}
abbrev t6:=@List.mem_cons_of_mem.{0}
abbrev t7:=@List.mem_of_getElem?.{0}
abbrev vJ:=@PySem.F.plainAttrs_list
abbrev xh:=@List.length_singleton.{0}
abbrev jQ:=@Bool.false_ne_true
abbrev jX:=@List.size_toArray.{0}
abbrev jG:=@List.length_take.{0}
abbrev qy:=@PySem.F.slot_list_append
abbrev qz:=@PySem.F.type_list_append
abbrev j5:=@List.getElem?_map.{0,0}
abbrev jH:=@List.append_nil.{0}
abbrev kX:=@List.take_length.{0}
abbrev mZ:=@List.flatMap_cons.{0,0}
abbrev jY:=@Nat.le_trans
abbrev uc:=@List.concat_eq_append.{0}
abbrev kY:=@Nat.le_of_lt
abbrev qL:=@List.append_assoc.{0}
abbrev uF:=@List.mem_append_right.{0}
abbrev qM:=@List.foldl_cons.{0,0}
abbrev vL:=@List.eq_nil_or_concat.{0}
abbrev sO:=@List.length_drop.{0}
abbrev oK:=@List.map_cons.{0,0}
abbrev vM:=@List.getLast?_concat.{0}
abbrev Bc:=@PyProof.Rows.boot_isinstance
abbrev xT:=@List.take_of_length_le.{0}
abbrev tP:=@List.length_nil.{0}
abbrev pR:=@Nat.ne_of_lt
abbrev yI:=@PyProof.Rows.boot_list
abbrev vN:=@Nat.lt_of_lt_of_le
abbrev xU:=@List.mem_append_left.{0}
abbrev uG:=@Option.some.inj.{0}
abbrev qA:=@Nat.zero_le
abbrev BL:=@List.drop_of_length_le.{0}
abbrev Fl:=@List.getD_eq_getElem?_getD.{0}
abbrev zG:=@PySem.W.mg_none_of
abbrev BN:=@List.length_replicate.{0}
noncomputable section
namespace PySem.W.Fast
def tw14937592372444111381:=0
def tw16559571010295127907:=0
def tw1933981314272726612:=0
def tw177447861135875634:=0
def tw1497444106585972088:=0
def tw15479138415580808780:=0
def tw15321949121084399604:=0
def tw7319153004260305549:=0
def tw16674313346291072920:=0
def tw6789764799353544436:=0
def tw5745450684390791483:=0
def tw6413963613817107069:=0
def tw6056212829961661792:=0
def tw13035630599800907825:=0
def tw12677936057735474689:=0
def tw11429211952956908801:=0
def tw8548379668312229554:=0
def tw17125181407680293920:=0
def tw17511252864675114872:=0
def tw16212238489591922541:=0
def tw8111725070885756132:=0
def tw3300559026655939300:=0
def tw5248141924019752947:=0
def tw14020746903368233359:=0
def tw8017966617007462136:=0
def tw4624368725873091927:=0
def tw1146723059187781734:=0
def tw3608125515128769650:=0
def tw9978974250064758239:=0
def tw13467377933107865730:=0
def tw6805111676268752764:=0
def tw12846402027359966515:=0
def tw6593507793519661247:=0
def tw9996343015630420970:=0
def tw17530375429461160558:=0
def tw4074859160403946928:=0
def tw11609824861178854454:=0
def tw2175784951108475319:=0
def tw13806386097557654417:=0
def tw2572946580126158236:=0
def tw344992489944900385:=0
def tw11033340648591392384:=0
def tw1766310032404147845:=0
def tw7557723177824985847:=0
def tw11072704555480404837:=0
def tw18093362123018843105:=0
def tw385701206446037640:=0
def tw8764761019530435900:=0
def tw3242655389060814999:=0
def tw2546273555023901098:=0
def tw12034598763345952039:=0
def tw6770348027323232492:=0
def tw10581725015019016303:=0
def tw15576878247657671908:=0
def tw4540914623386266840:=0
def tw16362608281116727637:=0
def tw5473934692281623730:=0
def tw15142674813886453385:=0
def tw15420311374679954118:=0
def tw7161946254546205464:=0
def tw12280917111355087670:=0
def tw2385229607246005543:=0
def tw3894918462614391305:=0
def tw15534255285893650453:=0
def tw16759832480938270190:=0
def tw14373851282174350794:=0
def tw1896266353415237478:=0
def tw2926373601977192909:=0
def tw17316343926065774841:=0
def tw12451479136684486724:=0
def tw6147839854626112795:=0
def tw9534503940039545510:=0
def tw2800902328995720045:=0
def tw1630494088360474115:=0
def tw3072263195258668306:=0
def tw12432830924875783645:=0
def tw14897906838809733150:=0
def tw14823278614597044467:=0
def tw16756741334466671020:=0
def tw2731137647553592611:=0
def tw6756484301202301937:=0
def tw10768398193458169912:=0
def tw15829915708015814073:=0
def tw14032268598364281130:=0
def tw17141685750515503841:=0
def tw16726948815303283807:=0
def tw8063048241726606683:=0
def tw16471552936130008380:=0
def tw2308127224567985613:=0
def tw17362272288097363860:=0
def tw12382578287422671656:=0
def tw2873293005297188988:=0
def tw3353547786089612911:=0
def tw15256016538307489685:=0
def tw15116121179993390816:=0
def tw11527801495210660728:=0
def tw10378311189215512013:=0
def tw5082415080934995764:=0
def tw13546689564740320743:=0
def tw9299861860263481909:=0
def tw15255472150912255071:=0
def tw16790753426320279471:=0
def tw10055444588019403088:=0
def tw13962171343899762771:=0
def tw524141992905792509:=0
def tw8474678491654906480:=0
def tw17662059404884568161:=0
def tw11332568550065641890:=0
def tw6705108785018756463:=0
def tw7605737540534441993:=0
def tw4462645703097988713:=0
def tw13160025179898498602:=0
def tw6744838963295426692:=0
def tw5181534654684305569:=0
def tw12055818036500513841:=0
def tw2018598869861920614:=0
def tw10723240667050040103:=0
def tw10104839662563652922:=0
def tw10618742753026347689:=0
def tw12942352126156487690:=0
def tw9283797345967448988:=0
def tw12405076075473524899:=0
def tw11998441860913672197:=0
def tw13685848815067997813:=0
def tw14803566853043542011:=0
def tw13223288143541091644:=0
def tw3411074072306595198:=0
def tw5475357332126246645:=0
def tw16063934845453548209:=0
def tw17759860984246019605:=0
def tw18210083068018211515:=0
def tw11849739744726573075:=0
def tw5746629146515222135:=0
def tw5625334718107189721:=0
def tw4889495956417021868:=0
def tw5322327505532208913:=0
def tw14025877326345733816:=0
def tw15651059194876478632:=0
def tw8423451945135554240:=0
def tw13326574792537064868:=0
def tw11989593916003994405:=0
def tw4954146562919581222:=0
def tw17015583533847145261:=0
def tw7296123018999581205:=0
def tw3966269761389484895:=0
def tw15907933784466491460:=0
def tw9477599938263718911:=0
def tw11966238879237100787:=0
def tw8150894623447524681:=0
def tw12958049660269920807:=0
def tw8713394670270584223:=0
def tw1031047557834229042:=0
def tw7063624769536281823:=0
def tw7011599745852818493:=0
def tw4066849936131895117:=0
def tw3987279433749169002:=0
def tw5208048615088142902:=0
def tw2268719373214315077:=0
def tw4719461952379569970:=0
def tw16154995263480348022:=0
def tw14932383202227351875:=0
def tw3941525825631916562:=0
def tw7613478740764799209:=0
def tw15840054700686439867:=0
def tw10517394404183483333:=0
def tw4858110419748483613:=0
def tw17639240534585878381:=0
def tw1074201584141743323:=0
def tw9309989351232467443:=0
def tw4498260921443075350:=0
def tw17210061966335666923:=0
def tw4824047458148496863:=0
def tw5743347597594603959:=0
def tw16612007228179643705:=0
def tw13964011971739193634:=0
def tw10586613054421642144:=0
def tw33113404654106089:=0
def tw7746275993032246899:=0
def tw15560575815937905560:=0
def tw13401285194436544319:=0
def tw3140581286019999055:=0
def tw7076448651732049242:=0
def tw6354628946435543482:=0
def tw9892790098570184806:=0
def tw1788929789206604652:=0
def tw9811854787152034156:=0
def tw16730378878742491582:=0
def tw17287766974840767548:=0
def tw12817436482576658447:=0
def tw9460345251565887333:=0
def tw2782200733014210764:=0
def tw5930700431030891509:=0
def tw6879468107594577032:=0
def tw10009887028905343885:=0
def tw2152491624804728394:=0
def tw6464242688538074121:=0
def tw13159250249279788469:=0
def tw13698175714703128151:=0
def tw5891916604185977272:=0
def tw18423603852836735472:=0
def tw18194731149963979508:=0
def tw18057797352606170235:=0
def tw13195896402594566402:=0
def tw14964057834523523405:=0
def tw14421075343681162755:=0
def tw8698971062333300790:=0
def tw16132392829202617669:=0
def tw15959636277894067151:=0
def tw2741087612158237420:=0
def tw8378131784692367358:=0
def tw8289949703820762314:=0
def tw17217971581126580449:=0
def tw9194889961361793401:=0
def tw11962833944655837234:=0
def tw760584885628571228:=0
def tw13021441891967838494:=0
def tw9843961383613274089:=0
def tw7194589478357913444:=0
def tw518984073788367771:=0
def tw14235875889815871228:=0
def tw12313551869620314734:=0
def tw8524048294274134169:=0
def tw14507401973406024555:=0
def tw970853055797632206:=0
def tw12639910870961682688:=0
def tw15410926121052000481:=0
def tw7758880869849677752:=0
def tw105383038755032721:=0
def tw14859824381370228384:=0
def tw8817008878464831742:=0
def tw12514017792834071080:=0
def tw5080423311448876503:=0
def tw10039143393707278393:=0
def tw5339581089586473989:=0
def tw3670676216810354902:=0
def tw9375703978568256960:=0
def tw1272110509557328723:=0
def tw10535074113909304616:=0
def tw15465331093397325611:=0
def tw2588507030682255363:=0
def tw2133735718208265566:=0
def tw12044313833444160416:=0
def tw130404719958655179:=0
def tw14954332088256577451:=0
def tw1047623368574009805:=0
def tw2547235694207919911:=0
def tw12601720634992522723:=0
def tw12427976589048630581:=0
def tw305419123876607789:=0
def tw18092253142076567242:=0
def tw9555356808443719771:=0
def tw16200257768754891756:=0
def tw10970363457284858648:=0
def tw379818131763680871:=0
def tw15569574343404194533:=0
def tw3229613381179698382:=0
def tw16353301401402264601:=0
def tw8805257484943939892:=0
def tw4713514032480125528:=0
def tw2036721243664138133:=0
def tw13535319690370493313:=0
def tw3673915679813221352:=0
def tw8584015886632821865:=0
def tw6316067686736959617:=0
def tw15091688700491695904:=0
def tw14510719915242944632:=0
def tw7051980944666827701:=0
def tw14836575403449230562:=0
def tw14485133971615416594:=0
def tw18014733296552465385:=0
def tw12167222915125356227:=0
def tw5246749864645624787:=0
def tw3215516724908106531:=0
def tw18095313834028077859:=0
def tw17882088826269548320:=0
def tw6543942082283785397:=0
def tw14347295153371875429:=0
def tw11685859888657813700:=0
def tw17801408872558908367:=0
def tw7612403210037657440:=0
def tw16650371311869273886:=0
def tw14489621725414734588:=0
def tw16562435541546449385:=0
def tw7927634294252521937:=0
def tw12601396437799560744:=0
def tw6153744639357426533:=0
def tw8728764588110092716:=0
def tw18065644107959216511:=0
def tw14787943139928028856:=0
def tw11789660925605277820:=0
def tw14186432285933160226:=0
def tw16796345651003261540:=0
def tw9860645586348051034:=0
def tw1343844614486364381:=0
def tw944187526643058664:=0
def tw15546740354256086282:=0
def tw16787688166583823135:=0
def tw11193080979285474004:=0
def tw16556744426528597085:=0
def tw18414091622291551669:=0
def tw15279823721246016358:=0
def tw6241151357934279757:=0
def tw1471632491798913310:=0
def tw10765187695569186505:=0
def tw6316237384187963950:=0
def tw12494591954971996314:=0
def tw14186064083465586443:=0
def tw7668894769252821035:=0
def tw5581561534754800800:=0
def tw3121006709602317699:=0
def tw1506095458609791982:=0
def tw15614309943370005515:=0
def tw13901038803485323889:=0
def tw14180410926224073683:=0
def tw3211339066654362029:=0
def tw16801342234855638265:=0
def tw2730146135781573663:=0
def tw12857443683318041548:=0
def tw4393605991291169207:=0
def tw11668941929962220337:=0
def tw17456045979024367093:=0
def tw1821615518342430618:=0
def tw10417738838073797502:=0
def tw3480322245650648767:=0
def tw12632176219824569138:=0
def tw10399663115903426367:=0
def tw15130555089840639046:=0
def tw925308624045906792:=0
def tw6569635915429638775:=0
def tw14805799174634834611:=0
def tw18073162062843588195:=0
def tw1788653202499254523:=0
def tw14488556800284584783:=0
def tw11611958712431994733:=0
def tw12884698113805947062:=0
def tw14644479100732575654:=0
def tw14230017282740415087:=0
def tw15681554611213838926:=0
def tw13827063627939715665:=0
def tw10343754536504504418:=0
def tw2005505830953268190:=0
def tw12624968623267765037:=0
def tw3709487332056519718:=0
def tw4931804682713932254:=0
def tw504532336857688866:=0
def tw8079962357872073357:=0
def tw772586214216901796:=0
def tw16406321131218231357:=0
def tw8635712961664725734:=0
def tw4460958516210861277:=0
def tw10458264536966961118:=0
def tw15992454898759329128:=0
def tw17551277527392754098:=0
def tw9324046531460580908:=0
def tw2397184901026600570:=0
def tw14078743341237465877:=0
def tw13557803851543575457:=0
def tw18068464109726374943:=0
def tw9006045567319161030:=0
def tw7228443483684297129:=0
def tw3052072844127349295:=0
def tw17346670630085174460:=0
def tw17615986257551155129:=0
def tw16903535518387335511:=0
def tw9651290053707144071:=0
def tw641781843282122476:=0
def tw17522819973006051245:=0
def tw10118506349682662783:=0
def tw16684805381236532692:=0
def tw3572972772392259255:=0
def tw6148893068001325917:=0
def tw2781358083834089996:=0
def tw2009230027090286581:=0
def tw8838108339847229662:=0
def tw2004847251836362766:=0
def tw15189194897385944010:=0
def tw6763099591338324149:=0
def tw11784046294552803784:=0
def tw12090567639280275775:=0
def tw13361287948115584206:=0
def tw14537290856439792689:=0
def tw2681917431078188903:=0
def tw3856995234877350364:=0
def tw14080904038212583548:=0
def tw8438387609434461267:=0
def tw10354353973355491450:=0
def tw3624068113880623490:=0
def tw13922146203541984283:=0
def tw5541941989653467511:=0
def tw9299052891665902807:=0
def tw9556409552498027902:=0
def tw4740505069601059214:=0
def tw7115638741783798945:=0
def tw2160828271988973751:=0
def tw12888811744939362301:=0
def tw44664297293260283:=0
def tw10492681931746894318:=0
def tw3348560566854754631:=0
def tw17155848716035124654:=0
def tw8420331354153319876:=0
def tw5022089692406664638:=0
def tw1162519705251299161:=0
def tw8362579260056396944:=0
def tw8957026147067356364:=0
end PySem.W.Fast
end
namespace InkHd
open PySem PySem.W PyProof.Rows
set_option maxRecDepth 100000 in
set_option maxHeartbeats 0 in
open_top hd_k53 for PySem.Challenge.rw_inkroot_k53_common_of_sheets
end InkHd
open PySem
open PyProof
open PySem.W (Frag InstAt callWith_K callWith_K0 cellsFrom_some codeIn emptyDict findIn fnOf handedIn hasDictIn instObj isFn kIn_of keepIn kia_one kitOne kitx_dict kitx_list lookIn makesIn methodCall_KW methodObj mg_of mroIn nsIn plainGet plainGet_of plainOver takerIn typeIn)
namespace L2
open Spec Rows
abbrev iy:=Sum Int Str
def BO:iy->Value->Bool
 | .inl k,v=>Value.isInt k v
 | .inr x,v=>Value.isStrOf x v
def ab1(w:World):iy->Int
 | .inl k=>hashInt k
 | .inr x=>hashStr w x
theorem iD:∀ {k:iy} {v:Value},BO k v=true->(∃ i t,k=Sum.inl i/\v=Value.int i t)\/(∃ x t,k=Sum.inr x/\v=Value.str x t)
 | .inl i,v,h=>by
  obtain⟨t,e⟩:=Value.isInt_shape (k:=i) (v:=v) h;exact .inl ⟨i,t,rfl,e⟩
 | .inr x,v,h=>by
  obtain⟨t,e⟩:=Value.isStrOf_shape (x:=x) (v:=v) h;exact .inr ⟨x,t,rfl,e⟩
theorem Nk(i:Int)(t:Tok):BO (.inl i) (.int i t)=true:=by simp[BO,Value.isInt]
theorem Nl(x:Str)(t:Tok):BO (.inr x) (.str x t)=true:=by simp[BO,Value.isStrOf]
theorem Wn(a b:Int):decide ((Sum.inl a:iy)=Sum.inl b)=(a == b):=by
 by_cases e:a=b
 ·subst e;simp
 ·have h:¬ (Sum.inl a:iy)=Sum.inl b:=λq=>e (Sum.inl.inj q);rw[decide_eq_false h];exact (beq_eq_false_iff_ne.mpr e).symm
theorem Wq(a b:Str):decide ((Sum.inr a:iy)=Sum.inr b)=decide (a=b):=by
 by_cases e:a=b
 ·subst e;simp
 ·have h:¬ (Sum.inr a:iy)=Sum.inr b:=λq=>e (Sum.inr.inj q);rw[decide_eq_false h,decide_eq_false e]
theorem Wr(a:Int)(b:Str):decide ((Sum.inl a:iy)=Sum.inr b)=false:=decide_eq_false (λq=>nomatch q)
theorem Ws(a:Str)(b:Int):decide ((Sum.inr a:iy)=Sum.inl b)=false:=decide_eq_false (λq=>nomatch q)
def iA(prog:Program)(w:World):PySem.KeyKind prog w iy where
 is:=BO
 hash:=ab1 w
 inj:=λv a b ha hb=>by
  rcases iD ha with ⟨i,t,rfl,rfl⟩|⟨x,t,rfl,rfl⟩
  ·rcases iD hb with ⟨j,u,rfl,e⟩|⟨y,u,rfl,e⟩
   ·injection e with e1 _;rw[e1]
   ·exact nomatch e
  ·rcases iD hb with ⟨j,u,rfl,e⟩|⟨y,u,rfl,e⟩
   ·exact nomatch e
   ·injection e with e1 _;rw[e1]
 byValue:=λk v h=>by
  rcases iD h with ⟨i,t,rfl,rfl⟩|⟨x,t,rfl,rfl⟩ <;> rfl
 pyHash:=λhv h=>by
  rcases iD hv with ⟨i,t,rfl,rfl⟩|⟨x,t,rfl,rfl⟩
  ·exact wpAny_pyHash_int h
  ·exact wpAny_pyHash_str h
 eqBool:=λhu hv h=>by
  rcases iD hu with ⟨i,t,rfl,rfl⟩|⟨x,t,rfl,rfl⟩
  ·rcases iD hv with ⟨j,u,rfl,rfl⟩|⟨y,u,rfl,rfl⟩
   ·rw[Wn]at h;exact wpAny_eqBool_int h
   ·rw[Wr]at h;exact SeqAt.EqAt.int_str i t y u _ _ _ _ h
  ·rcases iD hv with ⟨j,u,rfl,rfl⟩|⟨y,u,rfl,rfl⟩
   ·rw[Ws]at h;exact SeqAt.EqAt.str_int x t j u _ _ _ _ h
   ·rw[Wq]at h;exact wpAny_eqBool_str h
 «strs»:=λk x t v h=>by
  rcases iD h with ⟨i,u,rfl,e⟩|⟨y,u,rfl,e⟩
  ·exact nomatch e
  ·injection e with e1 _;subst e1
   cases v <;> rfl
theorem G8(prog:Program)(w:World)(i:Int)(t:Tok):(iA prog w).is (.inl i) (.int i t)=true:=Nk i t
theorem G9(prog:Program)(w:World)(x:Str)(t:Tok):(iA prog w).is (.inr x) (.str x t)=true:=Nl x t
end L2
namespace L2
open Spec Rows
inductive V where
 | jj | bl (b:Bool) | int (i:Int) | str (x:Str) | JX (b:Array UInt8) | U7 (b:UInt64) | ref (a:Addr) | ty (n:String)
 deriving DecidableEq
def RelV:V->Value->Prop
 | .jj,u=>u=Value.none
 | .bl b,u=>u=Value.bool b
 | .int i,u=>∃ t,u=Value.int i t
 | .str x,u=>∃ t,u=Value.str x t
 | .JX b,u=>∃ t,u=Value.bytes b t
 | .U7 b,u=>∃ t,u=Value.float b t
 | .ref a,u=>u=Value.ref a
 | .ty n,u=>u=Value.type n
abbrev cH:List V->List Value->Prop:=Paired RelV
theorem cH.length{xs:List V}{us:List Value}(r:cH xs us):xs.length=us.length:=Paired.length r
theorem cH.get:∀ {xs:List V} {us:List Value} {i:Nat} {x:V},cH xs us->xs[i]?=some x->∃ u,us[i]?=some u/\RelV x u
 | _,_,_,_,.nil,e=>by simp at e
 | _,_,0,_,.cons r _,e=>by simp at e;subst e;exact⟨_,rfl,r⟩
 | _,_,i+1,x,.cons _ t,e=>by
  obtain⟨u,h1,h2⟩:=cH.get (i:=i) (x:=x) t (by simpa using e);exact⟨u,by simpa using h1,h2⟩
theorem cH.set{x:V}{u:Value}(r:RelV x u):∀ {xs:List V} {us:List Value} (i:Nat),cH xs us->cH (xs.set i x) (us.set i u)
 | _,_,_,.nil=>.nil
 | _,_,0,.cons _ t=>.cons r t
 | _,_,i+1,.cons q t=>.cons q (cH.set r i t)
theorem cH.append{xs ys:List V}{us ws:List Value}(h:cH xs us)(s:cH ys ws):cH (xs++ys) (us++ws):=by
 induction h with
 | nil=>exact s
 | cons r _ ih=>exact .cons r ih
theorem cH.take:∀ {xs:List V} {us:List Value} (n:Nat),cH xs us->cH (xs.take n) (us.take n)
 | _,_,0,_=>.nil
 | _,_,_+1,.nil=>.nil
 | _,_,n+1,.cons r t=>.cons r (cH.take n t)
theorem cH.drop:∀ {xs:List V} {us:List Value} (n:Nat),cH xs us->cH (xs.drop n) (us.drop n)
 | _,_,0,r=>r
 | _,_,_+1,.nil=>.nil
 | _,_,n+1,.cons _ t=>cH.drop n t
def vE:Option V->Option Value->Prop
 | some v,some u=>RelV v u
 | none,none=>True
 | _,_=>False
def KV{κ:Type}:List (κ × V)->List (κ × Value)->Prop:=Paired λ(p:κ × V) (q:κ × Value)=>p.1=q.1/\RelV p.2 q.2
def kV:iy->V
 | .inl i=>.int i
 | .inr x=>.str x
inductive HO where
 | lst (xs:List V)
 | tup (xs:List V)
 | dK (kvs:List (iy × V)) | dT (kvs:List (List iy × V))
 | set (S:Int->Bool) (n:Nat)
 | ins (C dx:Addr) (fs:List (Str × V))
 | own (x:Addr)
 | xd (fs:List (Str × V))
 | met (f x:Addr)
 | Hf (lo hi:Int)
 | Ly (o:Obj) (u:HO)
 | U8 (ps:Array Value)
 | ext (φ:Heap->Prop)
abbrev Hp:=Addr->Option HO
def aN(H:Hp)(a:Addr)(o:HO):Hp:=λb=>if b=a then some o else H b
theorem af{H:Hp}{a:Addr}{o:HO}:aN H a o a=some o:=by unfold aN;rw[if_pos rfl]
theorem aH{H:Hp}{a b:Addr}{o:HO}(h:b≠a):aN H a o b=H b:=by unfold aN;rw[if_neg h]
theorem dF{H:Hp}{a b:Addr}{o u:HO}(h:H a=some o)(h':H b=some u)(d:o≠u:=by intro z;cases z):a≠b:=by
 intro e;subst e;rw[h]at h';exact d (uG h')
theorem az{H:Hp}{a b:Addr}{o:HO}(h:H a=some o)(h':H b=none):a≠b:=by
 intro e;subst e;rw[h]at h';cases h'
section
variable (P:Program) (w:World)
def jk(H:Hp)(h:Heap)(a:Addr):HO->Prop
 | .lst xs=>xs.length<=sizeLine/\∃ (aP:List Value) (n:Nat),cH xs aP/\h.get? a=some { cls:=.type "list",data:=.seq aP.toArray n }
 | .tup xs=>xs.length<=sizeLine/\∃ aP:List Value,cH xs aP/\IsTup h a aP.toArray
 | .dK kvs=>kvs.length<=sizeLine/\(a == sysModules)=false/\∃ vs,KV kvs vs/\h.DictOf (iA P w) a vs
 | .dT kvs=>kvs.length<=sizeLine/\(a == sysModules)=false/\∃ xs:List (List iy × Addr × Value),
   Paired (λ(p:List iy × V) (q:List iy × Addr × Value)=>p.1=q.1/\H q.2.1=some (.tup (p.1.map kV))/\RelV p.2 q.2.2) kvs xs/\
   ∃ o es ep,h.get? a=some o/\o.ExactDict/\o.data=.dict es ep/\es.toList=xs.map (entryOfKey (tupleKind (iA P w)))/\(xs.map (·.1)).Nodup
 | .set S n=>h.SetOf (intKind P w) a S n
 | .ins C dx fs=>H dx=some (.own a)/\fs.length<=1000/\dx≠a/\h.get? a=some (instObj C dx)/\
   ∃ mA,h.Ns1 dx mA/\(∀ f,vE (fs.lookup f) (mA f))/\PySem.Within mA (fs.map (·.1))
 | .own _=>∃ o,h.get? a=some o
 | .xd fs=>∃ mA,h.Ns1 a mA/\∀ f,vE (fs.lookup f) (mA f)
 | .Hf lo hi=>∃ t u v,h.get? a=some { cls:=.type "range",data:=.fields #[.int lo t,.int hi u,.int 1 v] }
 | .Ly o u=>h.get? a=some o/\jk H h a u
 | .U8 ps=>h.get? a=some { cls:=.none,data:=.fields ps }
 | .met f x=>h.get? a=some (methodObj (.ref f) (.ref x))
 | .ext φ=>φ h/\(∃ o,h.get? a=some o)/\∀ h1 h2:Heap,φ h1->(∀ o,h1.get? a=some o->h2.get? a=some o)->φ h2
def yE(H:Hp)(h:Heap):Prop:=∀ a o,H a=some o->jk P w H h a o
end
section
variable {P:Program} {w:World} {H H':Hp} {h h':Heap} {a:Addr} {o:HO}
theorem jk.lt(x:jk P w H h a o):a<h.objs.size:=by
 cases o with
 | lst xs=>obtain⟨_,_,_,_,e⟩:=x;exact Heap.lt_size e
 | tup xs=>obtain⟨_,_,_,p⟩:=x;exact p.lt
 | dK kvs=>obtain⟨_,_,_,_,o,_,_,e,_⟩:=x;exact Heap.lt_size e
 | dT kvs=>obtain⟨_,_,_,_,o,_,_,e,_⟩:=x;exact Heap.lt_size e
 | set S n=>obtain⟨o,_,_,_,e,_⟩:=x;exact Heap.lt_size e
 | ins C dx fs=>obtain⟨_,_,_,e,_⟩:=x;exact Heap.lt_size e
 | own y=>obtain⟨_,e⟩:=x;exact Heap.lt_size e
 | xd fs=>obtain⟨_,⟨_,_,_,e,_⟩,_⟩:=x;exact Heap.lt_size e
 | Hf lo hi=>obtain⟨_,_,_,e⟩:=x;exact Heap.lt_size e
 | Ly ob u=>obtain⟨e,_⟩:=x;exact Heap.lt_size e
 | U8 ps=>exact Heap.lt_size (show h.get? a=some _ from x)
 | met f y=>exact Heap.lt_size (show h.get? a=some _ from x)
 | ext φ=>obtain⟨_,⟨_,e⟩,_⟩:=x;exact Heap.lt_size e
theorem Paired.Hg{α β:Type}{F G:α->β->Prop}{l₁:List α}{l₂:List β}(h:Paired F l₁ l₂)(f:∀ a b,F a b->G a b):Paired G l₁ l₂:=by
 induction h with
 | nil=>exact .nil
 | cons r _ ih=>exact .cons (f _ _ r) ih
theorem jk.stay(x:jk P w H h a o)(k:∀ b u,(b=a\/H b=some (.own a))->h.get? b=some u->h'.get? b=some u)
  (ho:∀ b,H b=some (.own a)->H' b=some (.own a)) (ht:∀ b xs,H b=some (.tup xs)->H' b=some (.tup xs)):jk P w H' h' a o:=by
 induction o with
 | lst xs=>obtain⟨z,aP,n,r,e⟩:=x;exact⟨z,aP,n,r,k _ _ (.inl rfl) e⟩
 | tup xs=>obtain⟨z,aP,r,ob,e,c⟩:=x;exact⟨z,aP,r,ob,k _ _ (.inl rfl) e,c⟩
 | dK kvs=>obtain⟨z,y,vs,r,ob,es,ep,e,c⟩:=x;exact⟨z,y,vs,r,ob,es,ep,k _ _ (.inl rfl) e,c⟩
 | dT kvs =>
  obtain⟨z,y,xs,r,ob,es,ep,e,c⟩:=x;exact⟨z,y,xs,Paired.Hg r λp q z=>⟨z.1,ht _ _ z.2.1,z.2.2⟩,ob,es,ep,k _ _ (.inl rfl) e,c⟩
 | set S n=>obtain⟨ob,es,ep,t,e,c⟩:=x;exact⟨ob,es,ep,t,k _ _ (.inl rfl) e,c⟩
 | ins C dx fs =>
  obtain⟨d,z,ne,e,mA,⟨od,es,ep,e2,c⟩,r⟩:=x;exact⟨ho _ d,z,ne,k _ _ (.inl rfl) e,mA,⟨od,es,ep,k _ _ (.inr d) e2,c⟩,r⟩
 | own y=>obtain⟨ob,e⟩:=x;exact⟨ob,k _ _ (.inl rfl) e⟩
 | xd fs=>obtain⟨mA,⟨od,es,ep,e,c⟩,r⟩:=x;exact⟨mA,⟨od,es,ep,k _ _ (.inl rfl) e,c⟩,r⟩
 | Hf lo hi=>obtain⟨t,u,v,e⟩:=x;exact⟨t,u,v,k _ _ (.inl rfl) e⟩
 | Ly ob u ih=>obtain⟨e,q⟩:=x;exact⟨k _ _ (.inl rfl) e,ih q⟩
 | U8 ps =>
  have e:h.get? a=some { cls:=.none,data:=.fields ps }:=x;show h'.get? a=some { cls:=.none,data:=.fields ps };exact k a _ (.inl rfl) e
 | met f y =>
  have e:h.get? a=some (methodObj (.ref f) (.ref y)):=x;show h'.get? a=some (methodObj (.ref f) (.ref y));exact k a _ (.inl rfl) e
 | ext φ=>obtain⟨p,⟨o,e⟩,st⟩:=x;exact⟨st _ _ p λo q=>k _ _ (.inl rfl) q,⟨o,k _ _ (.inl rfl) e⟩,st⟩
theorem yE.lt(x:yE P w H h)(e:H a=some o):a<h.objs.size:=(x a o e).lt
theorem yE.fresh(x:yE P w H h)(e:h.objs.size<=a):H a=none:=by
 cases q:H a with
 | none=>rfl
 | some u=>exact absurd (vN (x.lt q) e) (Nat.lt_irrefl _)
theorem yE.kept(x:yE P w H h)(k:∀ b u,h.get? b=some u->h'.get? b=some u):yE P w H h':=λa o e =>
 (x a o e).stay (λb u _ q=>k b u q) (λ_ q=>q) λ_ _ q=>q
theorem yE.laid(x:yE P w H h)(k:∀ b u,h.get? b=some u->h'.get? b=some u)(hp:h.objs.size<=a)(new:jk P w (aN H a o) h' a o):yE P w (aN H a o) h':=λb u e=>by
 have hn:=x.fresh hp;by_cases hb:b=a
 ·subst hb;rw[af]at e;cases e;exact new
 ·rw[aH hb]at e;exact (x b u e).stay (λc v _ q=>k c v q) (λc q=>by rw[aH (az q hn)];exact q) λc xs q=>by rw[aH (az q hn)];exact q
end
def Rd(H:Hp)(a:Addr)(u:HO):Prop:=H a=some u\/∃ o,H a=some (.Ly o u)
theorem Rd.ok{P:Program}{w:World}{H:Hp}{h:Heap}{a:Addr}{u:HO}(r:Rd H a u)(x:yE P w H h):jk P w H h a u:=by
 rcases r with r|⟨o,r⟩
 ·exact x a u r
 ·obtain⟨_,q⟩:=x a _ r;exact q
def YQ:Option HO->Prop
 | some (.lst _)=>True
 | some (.dK _)=>True
 | some (.dT _)=>True
 | some (.set _ _)=>True
 | some (.ins _ _ _)=>True
 | some (.ext _)=>True
 | _=>False
section
variable {P:Program} {w:World} {H:Hp} {h h':Heap} {x e:Addr} {o':HO}
theorem yE.write(ok:yE P w H h)(mu:YQ (H x))(he:e=x\/H e=some (.own x))(k:∀ b u,b≠e->h.get? b=some u->h'.get? b=some u)(U9:∃ u,h'.get? e=some u)
  (new:jk P w (aN H x o') h' x o'):yE P w (aN H x o') h':=λb u q=>by
 have YR:∀ c y,H c=some (.own y)->c≠x:=λc y r z=>by subst z;rw[r]at mu;exact mu
 have ab2:∀ c xs,H c=some (.tup xs)->c≠x:=λc xs r z=>by subst z;rw[r]at mu;exact mu
 by_cases hb:b=x
 ·subst hb;rw[af]at q;cases q;exact new
 ·rw[aH hb]at q;by_cases Wu:b=e
  ·have q':H b=some (.own x):=by
    rcases he with z|z
    ·exact absurd (Wu.trans z) hb
    ·rw[Wu];exact z
   rw[q]at q';cases q';obtain⟨v,hv⟩:=U9;exact⟨v,by rw[Wu];exact hv⟩
  ·refine (ok b u q).stay (λc v hc r=>k c v ?_ r) (λc r=>by rw[aH (YR c b r)];exact r) λc xs r=>by rw[aH (ab2 c xs r)];exact r
   rcases hc with rfl|hc
   ·exact Wu
   ·rintro rfl;rcases he with z|z
    ·exact YR c b hc z
    ·rw[hc]at z;cases z;exact hb rfl
end
structure Un(fs ex:List Addr)(H H':Hp)(h h':Heap):Prop where
 keep:∀ b o,h.get? b=some o->H b=none->b∉fs->b∉ex->h'.get? b=some o
 slot:∀ b o,h.get? b=some o->H b=none->b∈fs->b∉ex->∃ sl,h'.get? b=some { o with slots:=sl }
 free:∀ b o,h.get? b=some o->H b=none->b∉ex->H' b=none
 there:∀ b o,h.get? b=some o->b∉ex->∃ o',h'.get? b=some o'
 tups:∀ b xs,H b=some (.tup xs)->H' b=some (.tup xs)
 Fo:∀ b o u,H b=some (.Ly o u)->H' b=some (.Ly o u)
 Hh:∀ b ps,H b=some (.U8 ps)->∃ Bd,H' b=some (.U8 (ps++Bd))
section
variable {fs Yq ex ex':List Addr} {H H1 H2:Hp} {h h1 h2 h':Heap} {a x e:Addr} {o:HO}
theorem Un.any(u:Un fs ex H H1 h h1){b:Addr}{ob:Obj}(q:h.get? b=some ob)(n:H b=none)(hx:b∉ex):∃ sl,h1.get? b=some { ob with slots:=sl }:=by
 by_cases hb:b∈fs
 ·exact u.slot b ob q n hb hx
 ·exact⟨ob.slots,u.keep b ob q n hb hx⟩
theorem Un.kept(k:∀ b u,h.get? b=some u->h'.get? b=some u):Un fs ex H H h h' :=
 ⟨λb ob q _ _ _=>k b ob q,λb ob q _ _ _=>⟨ob.slots,k b ob q⟩,λ_ _ _ n _=>n,λb ob q _=>⟨ob,k b ob q⟩,λ_ _ q=>q,λ_ _ _ q=>q,λ_ ps q=>⟨#[],by rw[q];simp⟩⟩
theorem Un.refl:Un fs ex H H h h:=Un.kept λ_ _ q=>q
theorem Un.laid(k:∀ b u,h.get? b=some u->h'.get? b=some u)(hp:h.objs.size<=a)(hn:H a=none):Un fs ex H (aN H a o) h h' where
 keep:=λb u q _ _ _=>k b u q
 slot:=λb u q _ _ _=>⟨u.slots,k b u q⟩
 free:=λb u q n _=>by rw[aH (pR (vN (Heap.lt_size q) hp))];exact n
 there:=λb u q _=>⟨u,k b u q⟩
 tups:=λb xs q=>by rw[aH (az q hn)];exact q
 Fo:=λb u xs q=>by rw[aH (az q hn)];exact q
 Hh:=λb ps q=>⟨#[],by rw[aH (az q hn),q];simp⟩
theorem Un.write(mu:YQ (H x))(he:e=x\/H e=some (.own x))(k:∀ b u,b≠e->h.get? b=some u->h'.get? b=some u)(U9:∃ u,h'.get? e=some u):Un fs ex H (aN H x o) h h':=by
 have hx:∀ b,H b=none->b≠x:=λb n z=>by subst z;rw[n]at mu;exact mu
 have hb:∀ b,H b=none->b≠e:=λb n z=>by
  subst z;rcases he with r|r
  ·exact hx b n r
  ·rw[n]at r;cases r
 have hm:∀ b u,H b=some u->¬ YQ (some u)->b≠x:=λb u q nm z=>by subst z;rw[q]at mu;exact nm mu
 refine⟨λb u q n _ _=>k b u (hb b n) q,λb u q n _ _=>⟨u.slots,k b u (hb b n) q⟩,λb u q n _=>by rw[aH (hx b n)];exact n,λb u q _=>?_, λb xs q=>by rw[aH (hm b _ q λz=>z)];exact q,λb u xs q=>by rw[aH (hm b _ q λz=>z)];exact q,λb ps q=>⟨#[],by rw[aH (hm b _ q λz=>z),q];simp⟩⟩;by_cases Wu:b=e
 ·subst Wu;exact U9
 ·exact⟨u,k b u Wu q⟩
end
def trk(h:Heap)(H:Hp):List Addr:=(List.range h.objs.size).filter λa=>(H a).isSome
def Fp(h:Heap)(H:Hp):Heap:=PySem.W.hideAll h (trk h H)
theorem Nm(h:Heap)(H:Hp):(Fp h H).objs.size=h.objs.size:=PySem.W.hideAll_size _ _
theorem Pe{h:Heap}{H:Hp}{b:Addr}{o:Obj}(e:h.get? b=some o)(n:H b=none):(Fp h H).get? b=some o :=
 PySem.W.hideAll_get _ e λhm=>by
  have q:(H b).isSome=true:=(List.mem_filter.mp hm).2;rw[n]at q;simp at q
theorem SS{h:Heap}{H:Hp}{b:Addr}{o:Obj}(e:(Fp h H).get? b=some o):h.get? b=some o/\H b=none:=by
 have e':h.get? b=some o:=PySem.W.of_hideAll (trk h H) e;refine⟨e',?_⟩
 cases q:H b with
 | none=>rfl
 | some x =>
  have hm:b∈trk h H:=List.mem_filter.mpr ⟨List.mem_range.mpr (Heap.lt_size e'),by simp[q]⟩;have z:(Fp h H).get? b=none:=PySem.W.hideAll_none (trk h H) hm;rw[z]at e;cases e
end L2
namespace L2
open Spec Rows
structure Mod(K:Frag)(mg:Str->Option Value)(zt:Heap):Prop where
 kin:K.In zt
 glob:zt.Ns mainGlobals mg
 blt:∃ mb,zt.Ns builtinsNs mb/\∀ x:Str,x≠"__name__"->mb x=bootBuiltins x
 nolimit:zt.NoLimit
structure Cx where
 prog:Program
 w:World
 K:Frag
 mg:Str->Option Value
 zt:Heap
 A:Around
 N:List Str
 s₀:Shared
 H₀:Hp
 env:Env
 zn:List Env
 stack:List Env
 ex:List Addr
 fn:Str->Bool
 calm:Bool
 pn:List (Addr × Obj)
 xe:Value->Shared->Prop
def Pf(l:List Env):List Addr:=l.filterMap (·.frame)
abbrev Cx.fs(X:Cx):List Addr:=Pf X.zn
def Vis(sc:Scope)(x:Str):Prop:=sc.names.lookup x=some .local\/sc.names.lookup x=some .cell\/sc.names.lookup x=some .free
def Loc(sc:Scope)(x:Str):Prop:=sc.names.lookup x=some .local\/sc.names.lookup x=some .cell
def Look(env:Env)(h:Heap)(m:Str->Option Value)(x:Str)(u:Value):Prop :=
 (env.kindOf x=some .local/\m x=some u)\/((env.kindOf x=some .cell\/env.kindOf x=some .free)/\∃ c,env.cells.lookup x=some c/\h.IsCell c (some u))
structure Cx.Ok(X:Cx):Prop where
 mod:Mod X.K X.mg X.zt
 kind:X.env.scope.kind=.function
 glob:X.env.globals=mainGlobals
 blt:X.env.builtins=builtinsNs
 above:X.s₀.heap.objs.size<=X.env.locals
 inj:∀ x y c,X.env.cells.lookup x=some c->X.env.cells.lookup y=some c->x=y
 has:∀ x,(X.env.kindOf x=some .cell\/X.env.kindOf x=some .free)->∃ c,X.env.cells.lookup x=some c
 YS:∀ x c,X.fn x=true->X.env.cells.lookup x=some c->X.s₀.heap.objs.size<=c
 hd:X.calm=true->X.A.handled=none
 frames:X.A.frames=some X.stack
 stk:X.stack=X.zn\/(X.stack=X.env::X.zn/\X.env.frame=some X.env.locals)
 exf:∀ b∈X.ex,b≠X.env.locals/\∀ x c,X.env.cells.lookup x=some c->c≠b
 bs:∀ b o,X.zt.get? b=some o->X.s₀.heap.get? b=some o/\X.H₀ b=none
 Va:X.zt.objs.size<=X.s₀.heap.objs.size
 Pg:∀ b o,X.zt.get? b=some o->b∉X.ex
 SV:∀ b∈X.ex,b∉X.fs
 Be:X.s₀.heap.FunFrames X.zt X.zn
 Wv:∀ b∈X.fs,X.H₀ b=none
structure Inv(X:Cx)(ao:List (Addr × Obj))(σ:List (Option V))(H:Hp)(s:Shared):Prop where
 ok:X.Ok
 os:s.os=X.s₀.os
 bare:AllBare s.gens
 zt:Un X.fs X.ex X.H₀ H X.s₀.heap s.heap
 loc:∃ m,s.heap.Ns X.env.locals m/\∀ (i:Nat) (x:Str) (v:V),X.N[i]?=some x->σ[i]?=some (some v)->Vis X.env.scope x->∃ u,RelV v u/\Look X.env s.heap m x u
 cell:∀ x c,X.env.cells.lookup x=some c->∃ v,s.heap.IsCell c v
 free:H X.env.locals=none
 xy:∀ x c,X.env.cells.lookup x=some c->H c=none
 pin:∀ p∈X.pn++ao,s.heap.get? p.1=some p.2/\H p.1=none/\p.1≠X.env.locals/\p.1∉X.fs/\∀ v,p.2.data≠.cell v
 hok:yE X.prog X.w H s.heap
 len:σ.length=X.N.length
section
variable {X:Cx} {ao:List (Addr × Obj)} {σ:List (Option V)} {H H':Hp} {s:Shared} {h':Heap}
theorem Cx.Ok.ab3(ok:X.Ok){b:Addr}{o:Obj}(e:X.zt.get? b=some o):b∉X.fs:=λhb=>by
 have:=(ok.Be.mem hb).1;rw[e]at this;cases this
theorem Inv.bs(I:Inv X ao σ H s):∀ b o,X.zt.get? b=some o->s.heap.get? b=some o/\H b=none:=λb o e =>
 ⟨I.zt.keep b o (I.ok.bs b o e).1 (I.ok.bs b o e).2 (I.ok.ab3 e) (I.ok.Pg b o e),I.zt.free b o (I.ok.bs b o e).1 (I.ok.bs b o e).2 (I.ok.Pg b o e)⟩
theorem Inv.bk(I:Inv X ao σ H s):∀ b o,X.zt.get? b=some o->s.heap.get? b=some o:=λb o e=>(I.bs b o e).1
theorem Inv.mod(I:Inv X ao σ H s):Mod X.K X.mg X.zt:=I.ok.mod
theorem Inv.AF(I:Inv X ao σ H s):X.K.In s.heap:=I.ok.mod.kin.keeps I.bk
theorem Inv.lt(I:Inv X ao σ H s):X.env.locals<s.heap.objs.size:=let ⟨_,hn,_⟩:=I.loc;hn.lt
theorem Inv.sz(I:Inv X ao σ H s):X.s₀.heap.objs.size<=s.heap.objs.size:=jY I.ok.above (kY I.lt)
theorem Inv.ab4(I:Inv X ao σ H s){a:Addr}(h:s.heap.objs.size<=a):a∉X.fs:=λhb=>by
 obtain⟨_,o,ho,_⟩:=I.ok.Be.mem hb;exact absurd (vN (Heap.lt_size ho) (jY I.sz h)) (Nat.lt_irrefl _)
theorem Inv.Ww(I:Inv X ao σ H s):∀ x c,X.env.cells.lookup x=some c->c≠X.env.locals:=λx c e z=>by
 obtain⟨v,o,ho,hd⟩:=I.cell x c e;obtain⟨m,⟨o',es,ep,GW,Wx,_⟩,_⟩:=I.loc;rw[z,GW]at ho;cases ho;rw[Wx]at hd;cases hd
theorem Inv.Be(I:Inv X ao σ H s):s.heap.FunFrames X.zt X.zn:=by
 have all:∀ (l:List Env),(∀ b∈Pf l,b∈X.fs)->X.s₀.heap.FunFrames X.zt l->s.heap.FunFrames X.zt l:=by
  intro l
  induction l with
  | nil=>intro _ _;trivial
  | cons env r ih =>
   intro hs hl;obtain⟨hk,⟨L,o,hf,hn,ho,hd⟩,hr⟩:=hl;have hL:L∈X.fs:=hs L (by unfold Pf;rw[List.filterMap_cons,hf];exact List.mem_cons_self);obtain⟨sl,e⟩:=I.zt.slot L o ho (I.ok.Wv L hL) hL λz=>I.ok.SV L z hL;exact⟨hk,⟨L,_,hf,hn,e,hd⟩,ih (λb hb=>hs b (by unfold Pf;rw[List.filterMap_cons,hf];exact t6 _ hb)) hr⟩
 exact all X.zn (λ_ hb=>hb) I.ok.Be
theorem Inv.stack(I:Inv X ao σ H s):s.heap.FunFrames X.zt X.stack:=by
 rcases I.ok.stk with e|⟨e,hf⟩
 ·rw[e];exact I.Be
 ·rw[e];obtain⟨m,hn,_⟩:=I.loc;refine .cons (by rw[I.ok.kind];decide) hf hn ?_ I.Be;exact Heap.get?_none_of_le (jY I.ok.Va I.ok.above)
theorem Inv.zH(I:Inv X ao σ H s):∀ b∈Pf X.stack,b∈X.env.locals::X.fs:=λb hb=>by
 rcases I.ok.stk with e|⟨e,hf⟩
 ·rw[e]at hb;exact t6 _ hb
 ·rw[e]at hb;unfold Pf at hb;rw[List.filterMap_cons,hf]at hb;exact hb
theorem Inv.Lz(I:Inv X ao σ H s):∀ b∈Pf X.stack,H b=none:=λb hb=>by
 rcases List.mem_cons.mp (I.zH b hb) with e|hb
 ·rw[e];exact I.free
 ·obtain⟨_,o,ho,_⟩:=I.ok.Be.mem hb;exact I.zt.free b o ho (I.ok.Wv b hb) λz=>I.ok.SV b z hb
theorem Inv.step{g':Array GenState}{t':Nat}{d':Drawn}{ch:List Addr}(I:Inv X ao σ H s)
  (Sm:∀ b∈ch,(b∈X.ex\/X.s₀.heap.objs.size<=b)/\b≠X.env.locals/\(∀ x c,X.env.cells.lookup x=some c->c≠b)/\∀ p∈X.pn++ao,p.1≠b)
  (keep:∀ b o,b≠X.env.locals->b∉X.fs->b∉ch->s.heap.get? b=some o->H b=none->h'.get? b=some o)
  (slot:∀ b o,b≠X.env.locals->b∈X.fs->b∉ch->s.heap.get? b=some o->H b=none->∃ sl,h'.get? b=some { o with slots:=sl }) (free:∀ b o,b∉ch->s.heap.get? b=some o->H b=none->H' b=none)
  (there:∀ b o,b∉ch->s.heap.get? b=some o->∃ o',h'.get? b=some o')
  (tups:∀ b xs,H b=some (.tup xs)->H' b=some (.tup xs)) (Fo:∀ b o u,H b=some (.Ly o u)->H' b=some (.Ly o u)) (Hh:∀ b ps,H b=some (.U8 ps)->∃ Bd,H' b=some (.U8 (ps++Bd)))
  (ns:∀ m,s.heap.Ns X.env.locals m->h'.Ns X.env.locals m) (hok:yE X.prog X.w H' h') (hg:AllBare g') :
  Inv X ao σ H' { s with heap:=h',gens:=g',drawn:=d',toks:=t' }:=by
 have neL:∀ b o,X.s₀.heap.get? b=some o->b≠X.env.locals:=λb o e=>pR (vN (Heap.lt_size e) I.ok.above)
 have neC:∀ b o,X.s₀.heap.get? b=some o->b∉X.ex->b∉ch:=λb o e hx hb=>by
  rcases (Sm b hb).1 with z|z
  ·exact hx z
  ·exact absurd (vN (Heap.lt_size e) z) (Nat.lt_irrefl _)
 have cellK:∀ x c,X.env.cells.lookup x=some c->∀ v,s.heap.IsCell c v->h'.IsCell c v:=λx c e v ⟨o,ho,hd⟩=>by
  have YT:c∉ch:=λz=>(Sm c z).2.2.1 x c e rfl;by_cases hc:c∈X.fs
  ·obtain⟨sl,q⟩:=slot c o (I.Ww x c e) hc YT ho (I.xy x c e);exact⟨_,q,hd⟩
  ·exact⟨o,keep c o (I.Ww x c e) hc YT ho (I.xy x c e),hd⟩
 refine⟨I.ok,I.os,hg,⟨λb o e n hb hx=>?_,λb o e n hb hx=>?_,λb o e n hx=>?_,λb o e hx=>?_,λb xs e=>tups b xs (I.zt.tups b xs e),λb o xs e=>Fo b o xs (I.zt.Fo b o xs e),λb ps e=>?_⟩,?_,λx c e=>?_,?_,λx c e=>?_,λp hp=>?_,hok,I.len⟩
 ·exact keep b o (neL b o e) hb (neC b o e hx) (I.zt.keep b o e n hb hx) (I.zt.free b o e n hx)
 ·obtain⟨sl,e1⟩:=I.zt.slot b o e n hb hx;obtain⟨sl',e2⟩:=slot b _ (neL b o e) hb (neC b o e hx) e1 (I.zt.free b o e n hx);exact⟨sl',e2⟩
 ·obtain⟨o',e1⟩:=I.zt.there b o e hx;exact free b o' (neC b o e hx) e1 (I.zt.free b o e n hx)
 ·obtain⟨o',e1⟩:=I.zt.there b o e hx;exact there b o' (neC b o e hx) e1
 ·obtain⟨m1,e1⟩:=I.zt.Hh b ps e;obtain⟨m2,e2⟩:=Hh b _ e1;exact⟨m1++m2,by rw[e2,Array.append_assoc]⟩
 ·obtain⟨m,hn,hl⟩:=I.loc;refine⟨m,ns m hn,λi x v e1 e2 e3=>?_⟩;obtain⟨u,r,l⟩:=hl i x v e1 e2 e3;refine⟨u,r,?_⟩;rcases l with l|⟨k,c,e,z⟩
  ·exact .inl l
  ·exact .inr ⟨k,c,e,cellK x c e _ z⟩
 ·obtain⟨v,z⟩:=I.cell x c e;exact⟨v,cellK x c e v z⟩
 ·obtain⟨m,⟨o,_,_,ho,_⟩,_⟩:=I.loc;exact free _ o (λz=>(Sm _ z).2.1 rfl) ho I.free
 ·obtain⟨v,o,ho,hd⟩:=I.cell x c e;exact free c o (λz=>(Sm c z).2.2.1 x c e rfl) ho (I.xy x c e)
 ·obtain⟨e,n,ne,nf,d⟩:=I.pin p hp;have YT:p.1∉ch:=λz=>(Sm p.1 z).2.2.2 p hp rfl;exact⟨keep p.1 p.2 ne nf YT e n,free p.1 p.2 YT e n,ne,nf,d⟩
theorem Inv.un{t':Nat}(I:Inv X ao σ H s)(u:Un X.fs [] H H' s.heap h')(hok:yE X.prog X.w H' h'):Inv X ao σ H' { s with heap:=h',toks:=t' }:=by
 obtain⟨m,⟨o,es,ep,ho,r⟩,_⟩:=id I.loc;obtain⟨sl,hL⟩:=u.any ho I.free (by simp)
 exact I.step (g':=s.gens) (d':=s.drawn) (ch:=[]) (λ_ z=>nomatch z) (λb o _ hb _ e n=>u.keep b o e n hb (by simp)) (λb o _ hb _ e n=>u.slot b o e n hb (by simp)) (λb o _ e n=>u.free b o e n (by simp)) (λb o _ e=>u.there b o e (by simp)) u.tups u.Fo u.Hh (λm' hm=>by
  obtain⟨o',zD,ep',GW,r'⟩:=hm;rw[ho]at GW;cases GW
  exact⟨_,zD,ep',hL,r'⟩) hok I.bare
theorem Inv.call{g':Array GenState}{t':Nat}{d':Drawn}{ch:List Addr}(I:Inv X ao σ H s)(u:Un (Pf X.stack) ch H H' s.heap h')(hok:yE X.prog X.w H' h')(hg:AllBare g')
  (Sm:∀ b∈ch,(b∈X.ex\/X.s₀.heap.objs.size<=b)/\b≠X.env.locals/\(∀ x c,X.env.cells.lookup x=some c->c≠b)/\∀ p∈X.pn++ao,p.1≠b) :
  Inv X ao σ H' { s with heap:=h',gens:=g',drawn:=d',toks:=t' }:=by
 obtain⟨m,⟨o,es,ep,ho,r⟩,_⟩:=id I.loc;obtain⟨sl,hL⟩:=u.any ho I.free λz=>(Sm _ z).2.1 rfl
 exact I.step (ch:=ch) Sm (λb o hL hb hc e n=>u.keep b o e n (λz=>(List.mem_cons.mp (I.zH b z)).elim hL hb) hc) (λb o _ _ hc e n=>u.any e n hc) (λb o hc e n=>u.free b o e n hc) (λb o hc e=>u.there b o e hc) u.tups u.Fo u.Hh (λm' hm=>by
  obtain⟨o',zD,ep',GW,r'⟩:=hm;rw[ho]at GW;cases GW
  exact⟨_,zD,ep',hL,r'⟩) hok hg
theorem Inv.turned{t':Nat}{it:Addr}(I:Inv X ao σ H s)(k:∀ b o,b≠it->s.heap.get? b=some o->h'.get? b=some o)(hn:H it=none)(hL:it≠X.env.locals)
  (h1:it∈X.ex\/X.s₀.heap.objs.size<=it) (h2:∀ x c,X.env.cells.lookup x=some c->c≠it) (h3:∀ p∈X.pn++ao,p.1≠it):Inv X ao σ H { s with heap:=h',toks:=t' }:=by
 have Vb:∀ b u,H b=some u->b≠it:=λb u e z=>by rw[z,hn]at e;cases e
 refine I.step (g':=s.gens) (d':=s.drawn) (ch:=[it]) (λb hb=>?_) (λb o _ _ hc e _=>k b o (λz=>hc (by simp[z])) e) (λb o _ _ hc e _=>⟨o.slots,k b o (λz=>hc (by simp[z])) e⟩) (λ_ _ _ _ n=>n) (λb o hc e=>⟨o,k b o (λz=>hc (by simp[z])) e⟩) (λ_ _ e=>e) (λ_ _ _ e=>e) (λb ps e=>⟨#[],by rw[e];simp⟩) (λm hm=>?_) (λb u e=>?_) I.bare
 ·have e:b=it:=by simpa using hb
  subst e;exact⟨h1,hL,h2,h3⟩
 ·obtain⟨o,es,ep,ho,r⟩:=hm;exact⟨o,es,ep,k _ o (Ne.symm hL) ho,r⟩
 ·refine (I.hok b u e).stay (λc v hc q=>k c v ?_ q) (λ_ q=>q) λ_ _ q=>q;rcases hc with z|z
  ·rw[z];exact Vb b u e
  ·exact Vb c _ z
theorem Inv.tok(I:Inv X ao σ H s)(t:Nat):Inv X ao σ H { s with toks:=t }:=I.un (h':=s.heap) (t':=t) Un.refl I.hok
theorem Inv.kept{t':Nat}(I:Inv X ao σ H s)(k:∀ b u,s.heap.get? b=some u->h'.get? b=some u):Inv X ao σ H { s with heap:=h',toks:=t' }:=I.un (Un.kept k) (I.hok.kept k)
theorem Inv.laid{a:Addr}{o:HO}{t':Nat}(I:Inv X ao σ H s)(k:∀ b u,s.heap.get? b=some u->h'.get? b=some u)(hp:s.heap.objs.size<=a)(new:jk X.prog X.w (aN H a o) h' a o) :
  Inv X ao σ (aN H a o) { s with heap:=h',toks:=t' }:=I.un (Un.laid k hp (I.hok.fresh hp)) (I.hok.laid k hp new)
theorem Inv.write{x e:Addr}{o:HO}{t':Nat}(I:Inv X ao σ H s)(mu:YQ (H x))(he:e=x\/H e=some (.own x))(k:∀ b u,b≠e->s.heap.get? b=some u->h'.get? b=some u)(U9:∃ u,h'.get? e=some u)
  (new:jk X.prog X.w (aN H x o) h' x o):Inv X ao σ (aN H x o) { s with heap:=h',toks:=t' }:=I.un (Un.write mu he k U9) (I.hok.write mu he k U9 new)
theorem Inv.LA(I:Inv X ao σ H s)(h:∀ p∈Vc,s.heap.get? p.1=some p.2/\H p.1=none/\p.1≠X.env.locals/\p.1∉X.fs/\∀ v,p.2.data≠.cell v):Inv X Vc σ H s :=
 ⟨I.ok,I.os,I.bare,I.zt,I.loc,I.cell,I.free,I.xy,λp hp=>(List.mem_append.mp hp).elim (λz=>I.pin p (xU _ z)) (h p),I.hok,I.len⟩
theorem Hi{N:List Str}(hN:N.Nodup){i j:Nat}{x:Str}(a:N[i]?=some x)(b:N[j]?=some x):i=j:=by
 obtain⟨h1,e1⟩:=List.getElem?_eq_some_iff.mp a;obtain⟨h2,e2⟩:=List.getElem?_eq_some_iff.mp b;exact (List.getElem_inj hN).mp (e1.trans e2.symm)
theorem Ei{M:Model}{A:Around}{E:Value->Shared->Prop}{i:Nat}{x:Str}{v:V}{u:Value}{Q:Unit->Shared->Prop}(I:Inv X ao σ H s)(hN:X.N.Nodup)(hi:X.N[i]?=some x)(hx:Loc X.env.scope x)(r:RelV v u)
  (h:∀ s',Inv X ao (σ.set i (some v)) H s'->(∃ a,Heap.SameBut a s.heap s'.heap/\(a=X.env.locals\/X.env.cells.lookup x=some a))->Q () s') (hf:X.fn x=true\/X.env.scope.names.lookup x=some .local:=by first|exact .inl rfl|exact .inr rfl|assumption):wpAny M A (storeName X.env x u) Q E s:=by
 obtain⟨m,hn,hl⟩:=id I.loc;have hcls:(X.env.scope.kind == .class || (X.env.scope.kind == .module&&X.env.locals != X.env.globals))=false:=by rw[I.ok.kind];rfl
 have hiσ:i<σ.length:=by rw[I.len];exact (List.getElem?_eq_some_iff.mp hi).1
 have Ww:=I.Ww
 have tracked:∀ {a:Addr} {h':Heap},(∃ o,s.heap.get? a=some o/\H a=none)->Heap.SameBut a s.heap h'->yE X.prog X.w H h':=λ{a h'} ha hs b ob e=>by
  obtain⟨_,_,LC⟩:=ha;refine (I.hok b ob e).stay (λc w' hc q=>(hs.2 c ?_).trans q) (λ_ q=>q) λ_ _ q=>q;rintro rfl;rcases hc with rfl|hc
  ·rw[LC]at e;cases e
  ·rw[LC]at hc;cases hc
 rcases hx with hk|hk
 ·refine wpAny_storeName_local hk hn (λh' Vd hs=>?_) hcls;obtain⟨oL,_,_,hoL,_⟩:=id hn;refine h _ ⟨I.ok,I.os,I.bare,⟨λb o e n hb hx=>?_,λb o e n hb hx=>?_,I.zt.free,λb o e hx=>?_,I.zt.tups,I.zt.Fo,I.zt.Hh⟩,⟨_,Vd,λj y v' e1 e2 e3=>?_⟩,λy c e=>?_,I.free,I.xy,λp hp=>?_,tracked ⟨oL,hoL,I.free⟩ hs,by simpa using I.len⟩ ⟨_,hs,.inl rfl⟩
  ·exact (hs.2 b (pR (vN (Heap.lt_size e) I.ok.above))).trans (I.zt.keep b o e n hb hx)
  ·obtain⟨sl,e1⟩:=I.zt.slot b o e n hb hx;exact⟨sl,(hs.2 b (pR (vN (Heap.lt_size e) I.ok.above))).trans e1⟩
  ·obtain⟨o',e1⟩:=I.zt.there b o e hx;exact⟨o',(hs.2 b (pR (vN (Heap.lt_size e) I.ok.above))).trans e1⟩
  ·by_cases hj:j=i
   ·subst hj;rw[hi]at e1;cases e1;rw[List.getElem?_set_self hiσ]at e2;cases e2;exact⟨u,r,.inl ⟨hk,by simp⟩⟩
   ·rw[List.getElem?_set_ne (Ne.symm hj)]at e2;obtain⟨u',r',q⟩:=hl j y v' e1 e2 e3;refine⟨u',r',?_⟩;rcases q with ⟨k,e⟩|⟨k,c,e,z⟩
    ·refine .inl ⟨k,?_⟩;have:y≠x:=λe=>hj (Hi hN e1 (e ▸ hi));simp[this,e]
    ·exact .inr ⟨k,c,e,z.sameBut hs (Ww y c e)⟩
  ·obtain⟨w',z⟩:=I.cell y c e;exact⟨w',z.sameBut hs (Ww y c e)⟩
  ·obtain⟨e,n,ne,nf,d⟩:=I.pin p hp;exact⟨(hs.2 p.1 ne).trans e,n,ne,nf,d⟩
 ·have hfn:X.fn x=true:=by
   rcases hf with z|z
   ·exact z
   ·rw[z]at hk;cases hk
  obtain⟨c,hc⟩:=I.ok.has x (.inl hk);obtain⟨w',z⟩:=I.cell x c hc;refine wpAny_storeName_cell I.ok.kind hk hc z (λh' YU hs=>?_);obtain⟨oc,hoc,ab6⟩:=id z;refine h { s with heap:=h' } ⟨I.ok,I.os,I.bare,⟨λb o e n hb hx=>?_,λb o e n hb hx=>?_,I.zt.free,λb o e hx=>?_,I.zt.tups,I.zt.Fo,I.zt.Hh⟩,⟨m,hn.sameBut hs (Ne.symm (Ww x c hc)),λj y v' e1 e2 e3=>?_⟩,λy c' e=>?_,I.free,I.xy,λp hp=>?_,tracked ⟨oc,hoc,I.xy x c hc⟩ hs,by simpa using I.len⟩ ⟨c,hs,.inr hc⟩
  ·exact (hs.2 b (pR (vN (Heap.lt_size e) (I.ok.YS x c hfn hc)))).trans (I.zt.keep b o e n hb hx)
  ·obtain⟨sl,e1⟩:=I.zt.slot b o e n hb hx;exact⟨sl,(hs.2 b (pR (vN (Heap.lt_size e) (I.ok.YS x c hfn hc)))).trans e1⟩
  ·obtain⟨o',e1⟩:=I.zt.there b o e hx;exact⟨o',(hs.2 b (pR (vN (Heap.lt_size e) (I.ok.YS x c hfn hc)))).trans e1⟩
  ·by_cases hj:j=i
   ·subst hj;rw[hi]at e1;cases e1;rw[List.getElem?_set_self hiσ]at e2;cases e2;exact⟨u,r,.inr ⟨.inl hk,c,hc,YU⟩⟩
   ·rw[List.getElem?_set_ne (Ne.symm hj)]at e2;obtain⟨u',r',q⟩:=hl j y v' e1 e2 e3;refine⟨u',r',?_⟩;rcases q with q|⟨k,c',e,z'⟩
    ·exact .inl q
    ·refine .inr ⟨k,c',e,z'.sameBut hs ?_⟩;rintro rfl;exact hj (Hi hN e1 (I.ok.inj _ _ _ e hc ▸ hi))
  ·by_cases hcc:c'=c
   ·subst hcc;exact⟨_,YU⟩
   ·obtain⟨w2,z2⟩:=I.cell y c' e;exact⟨w2,z2.sameBut hs hcc⟩
  ·obtain⟨e,n,ne,nf,d⟩:=I.pin p hp;refine⟨(hs.2 p.1 ?_).trans e,n,ne,nf,d⟩;intro q;rw[q,hoc]at e;have q':oc=p.2:=uG e;exact d w' (by rw[← q'];exact ab6)
theorem BP{M:Model}{A:Around}{E:Value->Shared->Prop}{i:Nat}{x:Str}{v:V}{u:Value}{Q:Unit->Shared->Prop}(I:Inv X ao σ H s)(hN:X.N.Nodup)(hi:X.N[i]?=some x)(hx:Loc X.env.scope x)(r:RelV v u)
  (h:∀ s',Inv X ao (σ.set i (some v)) H s'->Q () s') (hf:X.fn x=true\/X.env.scope.names.lookup x=some .local:=by first|exact .inl rfl|exact .inr rfl|assumption):wpAny M A (storeName X.env x u) Q E s :=
 Ei I hN hi hx r (λs' I' _=>h s' I') hf
theorem Inv.YV{s':Shared}{ch:List Addr}(I:Inv X ao σ H s)(ho:s'.os=s.os)(u:Un (Pf X.stack) ch H H' s.heap s'.heap)(hok:yE X.prog X.w H' s'.heap)(hg:AllBare s'.gens)
  (Sm:∀ b∈ch,(b∈X.ex\/X.s₀.heap.objs.size<=b)/\b≠X.env.locals/\(∀ x c,X.env.cells.lookup x=some c->c≠b)/\∀ p∈X.pn++ao,p.1≠b):Inv X ao σ H' s':=by
 obtain⟨h',g',d',t',o'⟩:=s';have e:o'=s.os:=ho;subst e;exact I.call (g':=g') (t':=t') (d':=d') u hok hg Sm
end
abbrev XK:=Value->Option Addr->Hp->Prop
abbrev St:=List (Option V)
abbrev VK:=V->Hp->Prop
abbrev TE:=St->Hp->VK->Prop
abbrev TT:=St->Hp->(Bool->Hp->Prop)->Prop
abbrev TA:=St->Hp->(List V->Hp->Prop)->Prop
structure Ends where
 nx:St->Hp->Prop
 rt:VK
 bk:St->Hp->Prop:=λ_ _=>False
 ct:St->Hp->Prop:=λ_ _=>False
abbrev TS:=Ends->St->Hp->Prop
inductive EP(X:Cx)(ao:List (Addr × Obj))(σ:St)(Q:VK)(u:Value)(s':Shared):Prop
 | mk (v:V) (H':Hp) (_:Inv X ao σ H' s') (_:RelV v u) (_:Q v H')
def TP(X:Cx)(ao:List (Addr × Obj))(σ:St)(Q:Bool->Hp->Prop)(b:Bool)(s':Shared):Prop:=∃ H',Inv X ao σ H' s'/\Q b H'
inductive AP(X:Cx)(ao:List (Addr × Obj))(σ:St)(Q:List V->Hp->Prop)(us:List Value)(s':Shared):Prop
 | mk (vs:List V) (H':Hp) (_:Inv X ao σ H' s') (_:cH vs us) (_:Q vs H')
def SP(X:Cx)(ao:List (Addr × Obj))(D:Ends)(f:Flow)(s':Shared):Prop :=
 match f with
 | .next=>∃ σ' H',Inv X ao σ' H' s'/\D.nx σ' H'
 | .brk=>∃ σ' H',Inv X ao σ' H' s'/\D.bk σ' H'
 | .cont=>∃ σ' H',Inv X ao σ' H' s'/\D.ct σ' H'
 | .ret u=>∃ v σ' H',Inv X ao σ' H' s'/\RelV v u/\D.rt v H'
def PE(X:Cx)(e:Expr)(t:TE):Prop :=
 ∀ (ao:List (Addr × Obj)) (s:Shared) (σ:St) (H:Hp) (Q:VK),Inv X ao σ H s->t σ H Q->wpAny (model X.prog X.w) X.A (eval e X.env) (EP X ao σ Q) X.xe s
def PT(X:Cx)(e:Expr)(t:TT):Prop :=
 ∀ (ao:List (Addr × Obj)) (s:Shared) (σ:St) (H:Hp) (Q:Bool->Hp->Prop),Inv X ao σ H s->t σ H Q->wpAny (model X.prog X.w) X.A (isTrue e X.env (eval e X.env)) (TP X ao σ Q) X.xe s
def PW(X:Cx)(e:Expr)(t:TT):Prop :=
 ∀ (BQ:Sem Value) (ao:List (Addr × Obj)) (s:Shared) (σ:St) (H:Hp) (Q:Bool->Hp->Prop),Inv X ao σ H s->t σ H Q->wpAny (model X.prog X.w) X.A (isTrue e X.env BQ) (TP X ao σ Q) X.xe s
theorem PW.pt{X:Cx}{e:Expr}{t:TT}(h:PW X e t):PT X e t:=h _
def PA(X:Cx)(es:List Expr)(t:TA):Prop :=
 ∀ (pos:Pos) (ao:List (Addr × Obj)) (s:Shared) (σ:St) (H:Hp) (Q:List V->Hp->Prop),Inv X ao σ H s->t σ H Q->wpAny (model X.prog X.w) X.A (spliced (backTo pos (starEach es X.env))) (AP X ao σ Q) X.xe s
def PS(X:Cx)(st:Stmt)(t:TS):Prop :=
 ∀ (ao:List (Addr × Obj)) (s:Shared) (σ:St) (H:Hp) (D:Ends),Inv X ao σ H s->t D σ H->wpAny (model X.prog X.w) X.A (exec st X.env) (SP X ao D) X.xe s
def LF(X:Cx)(st:List Stmt)(t:TS):Prop :=
 ∀ (ao:List (Addr × Obj)) (s:Shared) (σ:St) (H:Hp) (D:Ends),Inv X ao σ H s->t D σ H->wpAny (model X.prog X.w) X.A (execs st X.env) (SP X ao D) X.xe s
theorem dB{α:Type}{t:Sem α}{Q Q':α->Shared->Prop}{M:Model}{A:Around}{E:Value->Shared->Prop}{s:Shared}(h:wpAny M A t Q E s)(hQ:∀ a s,Q a s->Q' a s):wpAny M A t Q' E s:=wpAny_mono h hQ λ_ _ x=>x
end L2
namespace L2
open Spec Rows
section
variable {X:Cx}
inductive Wy(i:Nat)(σ:St)(H:Hp)(Q:VK):Prop
 | mk (v:V) (_:σ[i]?=some (some v)) (_:Q v H)
inductive isB(x:V)(H:Hp)(Q:Bool->Hp->Prop):Prop
 | mk (c:Bool) (_:x=.bl c) (_:Q c H)
inductive isI(x:V)(H:Hp)(Q:Option Int->Hp->Prop):Prop
 | mk (i:Int) (_:x=.int i) (_:Q (some i) H)
def tC(v:V):TE:=λ_ H Q=>Q v H
theorem Wz{i:Nat}{x:Str}(hN:X.N[i]?=some x)(hv:Vis X.env.scope x)(hd:(x == ("__debug__":Str))=false:=by decide)(Ph:(x == ("__classdict__":Str))=false:=by decide):PE X (.Name x pos) (Wy i):=by
 intro ao s σ H Q I h;obtain⟨v,e,h⟩:=h;obtain⟨m,hn,hl⟩:=I.loc;obtain⟨u,r,l⟩:=hl i x v hN e hv;have lQ:EP X ao σ Q u s:=⟨v,H,I,r,h⟩;rcases l with ⟨hk,hm⟩|⟨hk,c,hc,hcell⟩
 ·exact wpAny_Name (wpAny_loadName_local I.ok.kind hk hn hm lQ) hd
 ·rcases hk with hk|hk
  ·exact wpAny_Name (wpAny_loadName_cell I.ok.kind hk hc hcell lQ) hd
  ·exact wpAny_Name (wpAny_loadName_free I.ok.kind hk hc hcell lQ Ph) hd
theorem ay{i j pos}:PE X (.Constant (.int i) j pos) (tC (.int i)):=λ_ _ _ H _ I h=>wpAny_Constant_int ⟨.int i,H,I.tok _,⟨_,rfl⟩,h⟩
theorem vo{b j pos}:PE X (.Constant (.bool b) j pos) (tC (.bl b)):=λ_ _ _ H _ I h=>Constant_bool ⟨.bl b,H,I,rfl,h⟩
theorem WA{j pos}:PE X (.Constant .none j pos) (tC .jj):=λ_ _ _ H _ I h=>Constant_none ⟨.jj,H,I,rfl,h⟩
theorem bJ{x j pos}:PE X (.Constant (.str x) j pos) (tC (.str x)):=λ_ _ _ H _ I h=>Calls.Constant_str ⟨.str x,H,I.tok _,⟨_,rfl⟩,h⟩
def Gl(X:Cx)(x:Str):Prop:=X.env.kindOf x=some .globalImplicit
theorem Bx{E:Value->Shared->Prop}{s:Shared}{σ:St}{H:Hp}{x:Str}{u:Value}{Q:Value->Shared->Prop}(I:Inv X ao σ H s)(hg:Gl X x)(hm:X.mg x=some u)(h:Q u s)
  (hd:(x == ("__debug__":Str))=false:=by decide):wpAny (model X.prog X.w) X.A (eval (.Name x pos) X.env) Q E s :=
 Calls.Name_function_global I.ok.kind hg (Calls.loadGlobal_global (by rw[I.ok.glob];exact I.mod.glob.keeps I.bk) hm h) hd
theorem xV{E:Value->Shared->Prop}{s:Shared}{σ:St}{H:Hp}{x:Str}{u:Value}{Q:Value->Shared->Prop}(I:Inv X ao σ H s)(hg:Gl X x)(hm:X.mg x=none)(hv:bootBuiltins x=some u)(h:Q u s)
  (hn:x≠"__name__":=by decide) (hd:(x == ("__debug__":Str))=false:=by decide):wpAny (model X.prog X.w) X.A (eval (.Name x pos) X.env) Q E s:=by
 obtain⟨mb,h1,h2⟩:=I.mod.blt;exact Calls.Name_function_global I.ok.kind hg (Calls.loadGlobal_builtin (by rw[I.ok.glob];exact I.mod.glob.keeps I.bk) hm (by rw[I.ok.blt];exact h1.keeps I.bk) ((h2 x hn).trans hv) h) hd
theorem LG{x:Str}{v:V}{u:Value}(hg:Gl X x)(hm:X.mg x=some u)(r:RelV v u)(hd:(x == ("__debug__":Str))=false:=by decide):PE X (.Name x pos) (tC v) :=
 λ_ _ _ H _ I h=>Bx I hg hm ⟨v,H,I,r,h⟩ hd
theorem SX{x:Str}{v:V}{u:Value}(hg:Gl X x)(hm:X.mg x=none)(hv:bootBuiltins x=some u)(r:RelV v u)(hn:x≠"__name__":=by decide)(hd:(x == ("__debug__":Str))=false:=by decide):PE X (.Name x pos) (tC v) :=
 λ_ _ _ H _ I h=>xV I hg hm hv ⟨v,H,I,r,h⟩ hn hd
variable {a b:Expr} {ta tb:TE} {pos:Pos}
def PC(X:Cx)(op:CmpOp)(a b:Expr)(t:TE):Prop :=
 ∀ (ao:List (Addr × Obj)) (s:Shared) (σ:St) (H:Hp) (Q:VK),Inv X ao σ H s->t σ H Q->
  wpAny (model X.prog X.w) X.A (eval a X.env) (λv s₁=>wpAny (model X.prog X.w) X.A (eval b X.env) (λu s₂=>wpAny (model X.prog X.w) X.A (compareOp op v u) (EP X ao σ Q) X.xe s₂) X.xe s₁) X.xe s
theorem Hj(b:Expr){op:CmpOp}(h:op≠.In)(h2:op≠.NotIn):behindInMarks op b=false:=by
 have e1:(op == CmpOp.In)=false:=by cases op <;> first|rfl|exact absurd rfl h
 have e2:(op == CmpOp.NotIn)=false:=by cases op <;> first|rfl|exact absurd rfl h2
 cases b <;> simp[behindInMarks,e1,e2]
def ab7(ta:TE):TE:=fun σ H Q=>ta σ H λx H1=>Q (.bl (decide (x=.jj))) H1
def YW(ta:TE):TE:=fun σ H Q=>ta σ H λx H1=>Q (.bl (!decide (x=.jj))) H1
theorem RelV.Hl{x:V}{v:Value}(r:RelV x v):(v == Value.none)=decide (x=.jj):=by
 cases x with
 | jj=>cases r;rfl
 | bl _=>cases r;rfl
 | int _=>obtain⟨t,rfl⟩:=r;rfl
 | str _=>obtain⟨t,rfl⟩:=r;rfl
 | JX _=>obtain⟨t,rfl⟩:=r;rfl
 | U7 _=>obtain⟨t,rfl⟩:=r;rfl
 | ref _=>cases r;rfl
 | ty _=>cases r;rfl
theorem JY{j lR}(ha:PE X a ta):PC X .Is a (.Constant .none j lR) (ab7 ta):=by
 intro ao s σ H Q I h;refine dB (ha ao s σ H _ I h) λv s1 BR=>?_;obtain⟨x,H1,I1,r1,q1⟩:=BR;exact Constant_none (is_none_gen ⟨.bl _,H1,I1,by rw[r1.Hl];rfl,q1⟩)
theorem SY{j lR}(ha:PE X a ta):PC X .IsNot a (.Constant .none j lR) (YW ta):=by
 intro ao s σ H Q I h;refine dB (ha ao s σ H _ I h) λv s1 Ho=>?_;obtain⟨x,H1,I1,r1,q1⟩:=Ho;exact Constant_none (isnot_none_gen ⟨.bl _,H1,I1,by rw[r1.Hl];rfl,q1⟩)
def tB(t:TE):TT:=fun σ H Q=>t σ H λx H1=>isB x H1 Q
theorem Pj{op:CmpOp}{t:TE}(h:PC X op a b t)(h1:behindInMarks op b=false:=by first|exact Hj _ (by decide) (by decide)|rfl):PE X (.Compare a [op] [b] pos) t:=λao s σ H Q I hw=>wpAny_Compare1 (h ao s σ H Q I hw) h1
theorem Fq{op:CmpOp}{t:TE}(h:PC X op a b t)(h1:behindInMarks op b=false:=by first|exact Hj _ (by decide) (by decide)|rfl):PT X (.Compare a [op] [b] pos) (tB t):=by
 intro ao s σ H Q I hw;refine wpAny_isTrue_Compare1 (dB (h ao s σ H _ I hw) λv s1 h1=>dB h1 λu s2 h2=>dB h2 λc s3 ⟨x,H1,I1,r1,q1⟩=>?_) h1;obtain⟨d,rfl,q⟩:=q1;cases r1;exact wpAny_truthy_bool ⟨H1,I1,q⟩
theorem rJ{e:Expr}{t:TE}(h:PE X e t)(he:∀ BQ,isTrue e X.env BQ=(do let v ← BQ;standAt e.pos;holding [v] (truthy v)):=by intro _;rfl):PT X e (tB t):=by
 intro ao s σ H Q I hw;refine isTrue_plain (dB (h ao s σ H _ I hw) λv s1 ⟨x,H1,I1,r1,q1⟩=>?_) (he _);obtain⟨d,rfl,q⟩:=q1;cases r1;exact wpAny_truthy_bool ⟨H1,I1,q⟩
variable {tA tB':TT} {yJ:List Expr}
def ab8(t u:TT):TT:=fun σ H Q=>t σ H λc H1=>if c=true then u σ H1 Q else Q false H1
def tOr(t u:TT):TT:=fun σ H Q=>t σ H λc H1=>if c=true then Q true H1 else u σ H1 Q
def ab9(t:TT):TT:=fun σ H Q=>t σ H λc H1=>Q (!c) H1
theorem qN(ha:PT X a tA):PW X (.BoolOp .And [a] pos) tA:=by
 intro wh ao s σ H Q I h;refine isTrue_and (dB (ha ao s σ H Q I h) λc s1 e=>?_)
 cases c with
 | true=>exact isTrue_and_nil e
 | false=>exact e
theorem JZ(ha:PT X a tA):PW X (.BoolOp .Or [a] pos) tA:=by
 intro wh ao s σ H Q I h;refine isTrue_or (dB (ha ao s σ H Q I h) λc s1 e=>?_)
 cases c with
 | false=>exact isTrue_or_nil e
 | true=>exact e
theorem rK(ha:PT X a tA)(hb:PW X (.BoolOp .And (b::yJ) pos) tB'):PW X (.BoolOp .And (a::b::yJ) pos) (ab8 tA tB'):=by
 intro wh ao s σ H Q I h;refine isTrue_and (dB (ha ao s σ H _ I h) λc s1 Ft=>?_);obtain⟨H1,I1,q1⟩:=Ft
 cases c with
 | true=>exact hb wh ao s1 σ H1 Q I1 q1
 | false=>exact⟨H1,I1,q1⟩
theorem LH(ha:PT X a tA)(hb:PW X (.BoolOp .Or (b::yJ) pos) tB'):PW X (.BoolOp .Or (a::b::yJ) pos) (tOr tA tB'):=by
 intro wh ao s σ H Q I h;refine isTrue_or (dB (ha ao s σ H _ I h) λc s1 J1=>?_);obtain⟨H1,I1,q1⟩:=J1
 cases c with
 | true=>exact⟨H1,I1,q1⟩
 | false=>exact hb wh ao s1 σ H1 Q I1 q1
theorem qB(ha:PT X a tA):PT X (.UnaryOp .Not a pos) (ab9 tA):=by
 intro ao s σ H Q I h;exact isTrue_not (ha ao s σ H (λc H1=>Q (!c) H1) I h)
def YX(ta tb:TE):TE:=fun σ H Q=>ta σ H λx H1=>isB x H1 λc H1=>if c=true then tb σ H1 Q else Q (.bl false) H1
def YY(ta:TE):TE:=fun σ H Q=>ta σ H λx H1=>isB x H1 λc H1=>Q (.bl (!c)) H1
theorem zI{op}{t:TE}(h:PE X a t):PE X (.BoolOp op [a] pos) t:=λao s σ H Q I hw=>BoolOp_one (h ao s σ H Q I hw)
theorem vO(ha:PE X a ta)(hb:PE X (.BoolOp .And (b::yJ) pos) tb):PE X (.BoolOp .And (a::b::yJ) pos) (YX ta tb):=by
 intro ao s σ H Q I h;refine BoolOp_and (dB (ha ao s σ H _ I h) λv s1 J2=>?_);obtain⟨x,H1,I1,r1,q1⟩:=J2;obtain⟨c,rfl,q1⟩:=q1;cases r1;refine wpAny_truthy_bool ?_
 cases c with
 | true=>exact hb ao s1 σ H1 Q I1 q1
 | false=>exact⟨.bl false,H1,I1,rfl,q1⟩
theorem WB(ha:PE X a ta):PE X (.UnaryOp .Not a pos) (YY ta):=by
 intro ao s σ H Q I h;refine UnaryOp_ (dB (ha ao s σ H _ I h) λv s1 J3=>?_);obtain⟨x,H1,I1,r1,q1⟩:=J3;obtain⟨c,rfl,q1⟩:=q1;cases r1;exact not_of (wpAny_truthy_bool ⟨.bl (!c),H1,I1,rfl,q1⟩)
def tIf(t:TT)(ta tb:TE):TE:=fun σ H Q=>t σ H λc H1=>if c=true then ta σ H1 Q else tb σ H1 Q
theorem Pk{c:Expr}(hc:PT X c tA)(ha:PE X a ta)(hb:PE X b tb):PE X (.IfExp c a b pos) (tIf tA ta tb):=by
 intro ao s σ H Q I h;refine wpAny_IfExp (dB (hc ao s σ H _ I h) λd s1 BR=>?_);obtain⟨H1,I1,q1⟩:=BR
 cases d with
 | true=>exact ha ao s1 σ H1 Q I1 q1
 | false=>exact hb ao s1 σ H1 Q I1 q1
end
end L2
namespace L2
open Spec Rows
def bM(K:Frag)(H:Hp)(a:Addr)(xs:List V):Prop :=
 Rd H a (.lst xs)\/
  ∃ (o:Obj) (aP:Array Value) (n:Nat),K.lookup a=some o/\o.cls=.type "list"/\o.dict=none/\o.data=.seq aP n/\aP.size<=sizeLine/\cH xs aP.toList
def d8(K:Frag)(H:Hp)(a:Addr)(xs:List V):Prop :=
 Rd H a (.tup xs)\/
  ∃ (o:Obj) (aP:Array Value) (n:Nat),K.lookup a=some o/\o.cls=.type "tuple"/\o.data=.seq aP n/\aP.size<=sizeLine/\cH xs aP.toList
def acd:Value->Option V
 | .none=>some .jj
 | .bool b=>some (.bl b)
 | .int i _=>some (.int i)
 | .str x _=>some (.str x)
 | .bytes b _=>some (.JX b)
 | .float b _=>some (.U7 b)
 | .ref a=>some (.ref a)
 | .type n=>some (.ty n)
 | _=>none
theorem RelV.abs{x:V}{u:Value}(r:RelV x u):acd u=some x:=by
 cases x with
 | jj=>cases r;rfl
 | bl _=>cases r;rfl
 | int _=>obtain⟨t,rfl⟩:=r;rfl
 | str _=>obtain⟨t,rfl⟩:=r;rfl
 | JX _=>obtain⟨t,rfl⟩:=r;rfl
 | U7 _=>obtain⟨t,rfl⟩:=r;rfl
 | ref _=>cases r;rfl
 | ty _=>cases r;rfl
theorem RelV.inj{x y:V}{u:Value}(r:RelV x u)(q:RelV y u):x=y:=uG (r.abs.symm.trans q.abs)
theorem cH.inj:∀ {xs ys:List V} {us:List Value},cH xs us->cH ys us->xs=ys
 | _,_,_,.nil,.nil=>rfl
 | _,_,_,.cons r t,.cons r' t'=>by rw[r.inj r',cH.inj t t']
section
variable {X:Cx} {ao:List (Addr × Obj)} {σ:St} {H:Hp} {s:Shared} {a:Addr} {xs ys:List V}
theorem bM.of{K:Frag}(h:H a=some (.lst xs)):bM K H a xs:=.inl (.inl h)
theorem d8.of{K:Frag}(h:H a=some (.tup xs)):d8 K H a xs:=.inl (.inl h)
theorem Inv.list(I:Inv X ao σ H s)(h:bM X.K H a xs):∃ aP:List Value,cH xs aP/\PlainL s.heap a aP.toArray/\xs.length<=sizeLine:=by
 rcases h with h|⟨o,aP,n,hk,hc,hd,hs,hz,r⟩
 ·obtain⟨z,aP,n,r,e⟩:=h.ok I.hok;exact⟨aP,r,⟨_,n,e,rfl,rfl,rfl⟩,z⟩
 ·refine⟨aP.toList,r,⟨o,n,I.AF a o hk,hc,hd,by simpa using hs⟩,?_⟩;have e:=r.length;simp only[Array.length_toList]at e;lia
theorem Inv.tuple(I:Inv X ao σ H s)(h:d8 X.K H a xs):∃ aP:List Value,cH xs aP/\IsTup s.heap a aP.toArray/\xs.length<=sizeLine:=by
 rcases h with h|⟨o,aP,n,hk,hc,hs,hz,r⟩
 ·obtain⟨z,aP,r,p⟩:=h.ok I.hok;exact⟨aP,r,p,z⟩
 ·refine⟨aP.toList,r,⟨o,I.AF a o hk,hc,n,by simpa using hs⟩,?_⟩;have e:=r.length;simp only[Array.length_toList]at e;lia
theorem Inv.BS(I:Inv X ao σ H s)(h:bM X.K H a xs)(h':bM X.K H a ys):xs=ys:=by
 obtain⟨aP,r,⟨o,n,e,_,_,d⟩,_⟩:=I.list h;obtain⟨its',r',⟨o',n',e',_,_,d'⟩,_⟩:=I.list h';rw[e]at e';cases e';rw[d]at d';injection d' with d1 _;have:aP=its':=by simpa using congrArg Array.toList d1
 subst this;exact r.inj r'
theorem Inv.Ej(I:Inv X ao σ H s)(h:d8 X.K H a xs)(h':d8 X.K H a ys):xs=ys:=by
 obtain⟨aP,r,⟨o,e,_,n,d⟩,_⟩:=I.tuple h;obtain⟨its',r',⟨o',e',_,n',d'⟩,_⟩:=I.tuple h';rw[e]at e';cases e';rw[d]at d';injection d' with d1 _;have:aP=its':=by simpa using congrArg Array.toList d1
 subst this;exact r.inj r'
end
abbrev Cx.DC(X:Cx)(E:Value->Shared->Prop):Cx:={ X with xe:=E }
abbrev Cx.Nn(X:Cx):Cx:=X.DC λ_ _=>False
theorem Cx.Ok.DC{X:Cx}(ok:X.Ok)(E:Value->Shared->Prop):(X.DC E).Ok :=
 ⟨ok.mod,ok.kind,ok.glob,ok.blt,ok.above,ok.inj,ok.has,ok.YS,ok.hd,ok.frames,ok.stk,ok.exf,ok.bs,ok.Va,ok.Pg,ok.SV,ok.Be,ok.Wv⟩
theorem Cx.Ok.vP{X:Cx}{E:Value->Shared->Prop}(ok:(X.DC E).Ok):X.Ok :=
 ⟨ok.mod,ok.kind,ok.glob,ok.blt,ok.above,ok.inj,ok.has,ok.YS,ok.hd,ok.frames,ok.stk,ok.exf,ok.bs,ok.Va,ok.Pg,ok.SV,ok.Be,ok.Wv⟩
section
variable {X:Cx} {ao:List (Addr × Obj)} {σ:St} {H:Hp} {s:Shared} {E:Value->Shared->Prop}
theorem Inv.DC(I:Inv X ao σ H s)(E:Value->Shared->Prop):Inv (X.DC E) ao σ H s:=⟨I.ok.DC E,I.os,I.bare,I.zt,I.loc,I.cell,I.free,I.xy,I.pin,I.hok,I.len⟩
theorem Inv.vP(I:Inv (X.DC E) ao σ H s):Inv X ao σ H s:=⟨I.ok.vP,I.os,I.bare,I.zt,I.loc,I.cell,I.free,I.xy,I.pin,I.hok,I.len⟩
theorem SP.vP{D:Ends}{f:Flow}{s':Shared}(h:SP (X.DC E) ao D f s'):SP X ao D f s':=by
 cases f with
 | next=>obtain⟨σ',H',I,q⟩:=h;exact⟨σ',H',I.vP,q⟩
 | brk=>obtain⟨σ',H',I,q⟩:=h;exact⟨σ',H',I.vP,q⟩
 | cont=>obtain⟨σ',H',I,q⟩:=h;exact⟨σ',H',I.vP,q⟩
 | ret u=>obtain⟨v,σ',H',I,r,q⟩:=h;exact⟨v,σ',H',I.vP,r,q⟩
theorem LF.Nn{st:List Stmt}{t:TS}(h:LF X.Nn st t):LF X st t:=λao s σ H D I hw =>
 wpAny_mono (h ao s σ H D (I.DC _) hw) (λ_ _ q=>q.vP) λ_ _ z=>False.elim z
end
section
variable {X:Cx} {st:Stmt} {yJ:List Stmt} {t u:TS} {e:Expr} {te:TE} {pos:Pos}
def YZ:TS:=λD σ H=>D.nx σ H
def ace(t u:TS):TS:=λD σ H=>t { D with nx:=u D } σ H
theorem bu:LF X [] YZ:=λ_ _ σ H _ I h=>wpAny_execs_nil ⟨σ,H,I,h⟩
theorem aj(h1:PS X st t)(h2:LF X yJ u):LF X (st::yJ) (ace t u):=by
 intro ao s σ H D I h;refine wpAny_execs_cons (dB (h1 ao s σ H { D with nx:=u D } I h) λf s1 q=>?_)
 cases f with
 | next =>
  obtain⟨σ',H',I',q⟩:=q;exact h2 ao s1 σ' H' D I' q
 | ret v=>exact q
 | brk=>exact q
 | cont=>exact q
theorem au(h1:PS X st t):LF X [st] t:=by
 intro ao s σ H D I h;refine wpAny_execs_cons (dB (h1 ao s σ H D I h) λf s1 q=>?_)
 cases f with
 | next=>exact wpAny_execs_nil q
 | ret v=>exact q
 | brk=>exact q
 | cont=>exact q
def WC:TS:=λD σ H=>D.bk σ H
def Y0:TS:=λD σ H=>D.ct σ H
theorem Pn:PS X (.Break pos) WC:=λ_ _ σ H _ I h=>wpAny_Break ⟨σ,H,I,h⟩
theorem Hq:PS X (.Continue pos) Y0:=λ_ _ σ H _ I h=>wpAny_Continue ⟨σ,H,I,h⟩
theorem Inv.quiet{σ:St}{H:Hp}{s:Shared}(I:Inv X ao σ H s):interactive X.env=false:=by simp[interactive,I.ok.kind]
def Y3(te:TE):TS:=λD σ H=>te σ H λ_ H1=>D.nx σ H1
theorem aY(he:PE X e te)(hs:swapsWith e none pos.line X.env=pure false:=by rfl):PS X (.Expr e pos) (Y3 te):=by
 intro ao s σ H D I h;exact wpAny_Expr_any (dB (he ao s σ H _ I h) λv s1 ⟨x,H1,I1,r1,q1⟩=>⟨σ,H1,I1,q1⟩) I.quiet hs
def acf(te:TE):TS:=λD σ H=>te σ H D.rt
theorem aQ(he:PE X e te):PS X (.Return (some e) pos) (acf te):=by
 intro ao s σ H D I h;exact wpAny_Return_some (dB (he ao s σ H _ I h) λv s1 ⟨x,H1,I1,r1,q1⟩=>⟨x,σ,H1,I1,r1,q1⟩)
def acg(c:TT)(t u:TS):TS:=λD σ H=>c σ H λb H1=>if b=true then t D σ H1 else u D σ H1
theorem bV{c:Expr}{a b:List Stmt}{tc:TT}(hc:PT X c tc)(ha:LF X a t)(hb:LF X b u):PS X (.If c a b pos) (acg tc t u):=by
 intro ao s σ H D I h;refine wpAny_If (dB (hc ao s σ H _ I h) λd s1 Ho=>?_);obtain⟨H1,I1,q1⟩:=Ho
 cases d with
 | true=>exact ha ao s1 σ H1 D I1 q1
 | false=>exact hb ao s1 σ H1 D I1 q1
def WD:TS:=λ_ _ _=>False
theorem m9:PS X st WD:=λ_ _ _ _ _ _ h=>h.elim
end
abbrev TG:=V->St->Hp->(St->Hp->Prop)->Prop
abbrev WE:=List V->St->Hp->(St->Hp->Prop)->Prop
def PG(X:Cx)(zJ:Expr)(t:TG):Prop :=
 ∀ (ao:List (Addr × Obj)) (s:Shared) (σ:St) (H:Hp) (v:V) (u:Value) (Q:St->Hp->Prop),Inv X ao σ H s->RelV v u->t v σ H Q->
  wpAny (model X.prog X.w) X.A (assign zJ X.env u) (λ_ s'=>∃ σ' H',Inv X ao σ' H' s'/\Q σ' H') X.xe s
def Y4(X:Cx)(ts:List Expr)(t:WE):Prop :=
 ∀ (ao:List (Addr × Obj)) (s:Shared) (σ:St) (H:Hp) (vs:List V) (us:List Value) (Q:St->Hp->Prop),Inv X ao σ H s->cH vs us->t vs σ H Q->
  wpAny (model X.prog X.w) X.A (assignInOrder ((assignEach ts X.env).map (·.2)) us) (λ_ s'=>∃ σ' H',Inv X ao σ' H' s'/\Q σ' H') X.xe s
abbrev WG:=V->V->V->Hp->(Hp->Prop)->Prop
def Y5(X:Cx)(t:WG):Prop :=
 ∀ (ao:List (Addr × Obj)) (s:Shared) (σ:St) (H:Hp) (o i v:V) (ov iv u:Value) (Q:Hp->Prop),Inv X ao σ H s->RelV o ov->RelV i iv->RelV v u->t o i v H Q->
  wpAny (model X.prog X.w) X.A (setItem ov iv u) (λ_ s'=>∃ H',Inv X ao σ H' s'/\Q H') X.xe s
abbrev TIp:=V->V->Hp->VK->Prop
def PIp(X:Cx)(op:Operator)(t:TIp):Prop :=
 ∀ (ao:List (Addr × Obj)) (s:Shared) (σ:St) (H:Hp) (x y:V) (v u:Value) (Q:VK),Inv X ao σ H s->RelV x v->RelV y u->t x y H Q->
  wpAny (model X.prog X.w) X.A (inplaceOp op v u) (EP X ao σ Q) X.xe s
section
variable {X:Cx} {pos:Pos}
def xA(i:Nat):TG:=λv σ H Q=>Q (σ.set i (some v)) H
theorem S0{i:Nat}{x:Str}(hN:X.N.Nodup)(hi:X.N[i]?=some x)(hx:Loc X.env.scope x)(hf:X.fn x=true\/X.env.scope.names.lookup x=some .local:=by first|exact .inl rfl|exact .inr rfl|assumption):PG X (.Name x pos) (xA i):=by
 intro ao s σ H v u Q I r h;exact wpAny_assign_Name (BP I hN hi hx r (λs' I'=>⟨_,H,I',h⟩) hf)
def aci:WE:=λvs σ H Q=>vs=[]/\Q σ H
inductive Y6(t:TG)(u:WE)(vs:List V)(σ:St)(H:Hp)(Q:St->Hp->Prop):Prop
 | mk (v:V) (r:List V) (_:vs=v::r) (_:t v σ H fun σ' H'=>u r σ' H' Q)
theorem iX:Y4 X [] aci:=by
 intro ao s σ H vs us Q I r h;obtain⟨e,h⟩:=h;subst e;cases r;exact assignInOrder_nil ⟨σ,H,I,h⟩
theorem bR{e:Expr}{es:List Expr}{t:TG}{u:WE}(h1:PG X e t)(h2:Y4 X es u)
  (hs:(assignEach (e::es) X.env).map (·.2)=assign e X.env::(assignEach es X.env).map (·.2):=by rfl):Y4 X (e::es) (Y6 t u):=by
 intro ao s σ H vs us Q I r h;obtain⟨v,vr,e1,h⟩:=h;subst e1
 cases r with
 | cons r rr =>
  rw[hs];refine assignInOrder_cons (dB (h1 ao s σ H _ _ _ I r h) λ_ s1 Ft=>?_);obtain⟨σ1,H1,I1,q1⟩:=Ft;exact h2 ao s1 σ1 H1 _ _ Q I1 rr q1
inductive WH(K:Frag)(n:Nat)(t:WE)(v:V)(σ:St)(H:Hp)(Q:St->Hp->Prop):Prop
 | mk (a:Addr) (xs:List V) (_:v=.ref a) (_:d8 K H a xs) (_:xs.length=n) (_:t xs σ H Q):WH K n t v σ H Q
theorem oM{es:List Expr}{k:Nat}{t:WE}{n:Nat}(hc:X.calm=true)(h:Y4 X es t)
  (hn:(assignEach es X.env).length=n:=by rfl) (Fv:(assignEach es X.env).findIdx? (·.1)=none:=by rfl):PG X (.Tuple es k pos) (WH X.K n t):=by
 intro ao s σ H v u Q I r hw;obtain⟨a,xs,e1,hq,hl,hw⟩:=hw;subst e1;cases r;obtain⟨aP,rv,ht,hz⟩:=I.tuple hq;refine assign_Tuple_tuple (I.ok.hd hc) ht (by simp[hn,← hl,rv.length]) Fv λh' hx=>?_;have I1:Inv X ao σ H { s with heap:=h' }:=I.kept (t':=s.toks) λb o e=>hx b o (pR (Heap.lt_size e)) e;exact h ao _ σ H xs _ Q I1 (by simpa using rv) hw
def acj(to ti:TE)(t:WG):TG:=λv σ H Q=>to σ H λo H1=>ti σ H1 λi H2=>t o i v H2 λH3=>Q σ H3
theorem xW{i:Expr}{to ti:TE}{t:WG}(ho:PE X o to)(hi:PE X i ti)(hs:Y5 X t)
  (ha:∀ v,assign (.Subscript o i pos) X.env v=(do
   let ov ← holding [v] (eval o X.env)
   let iv ← holding [v,ov] (eval i X.env)
   standAt pos
   holding [v,ov,iv] (setItem ov iv v)
   release [v,ov,iv] []):=by intro _;rfl):PG X (.Subscript o i pos) (acj to ti t):=by
 intro ao s σ H v u Q I r h;rw[ha];refine wpAny_bind (wpAny_holding (dB (ho ao s σ H _ I h) λov s1 J1=>?_));obtain⟨x,H1,I1,r1,q1⟩:=J1;refine wpAny_bind (wpAny_holding (dB (hi ao s1 σ H1 _ I1 q1) λiv s2 J2=>?_));obtain⟨y,H2,I2,r2,q2⟩:=J2;refine wpAny_bind (wpAny_standAt (wpAny_bind (wpAny_holding (dB (hs ao s2 σ H2 x y v ov iv u _ I2 r1 r2 r q2) λ_ s3 J4=>?_))));obtain⟨H3,I3,q3⟩:=J4;exact wpAny_release ⟨σ,H3,I3,q3⟩
def Po(te:TE)(g:TG):TS:=λD σ H=>te σ H λx H1=>g x σ H1 D.nx
theorem uH{e:Expr}{te:TE}{g:TG}(he:PE X e te)(hg:PG X tg g)(hs:swapsWithSole [tg] e pos.line X.env=pure false:=by rfl)(hw:swappedStores [tg] e X.env=pure none:=by rfl)
  (h1:(assignEach [tg] X.env).map (·.2)=[assign tg X.env]:=by rfl):PS X (.Assign [tg] e pos) (Po te g):=by
 intro ao s σ H D I h;refine wpAny_Assign_stores (dB (he ao s σ H _ I h) λv s1 ⟨x,H1,I1,r1,q1⟩=>?_) hs hw;rw[h1];exact dB (hg ao s1 σ H1 x v _ I1 r1 q1) λ_ s2 q=>q
theorem WI{i:Nat}{x:Str}{e:Expr}{te:TE}(hN:X.N.Nodup)(hi:X.N[i]?=some x)(hx:Loc X.env.scope x)(he:PE X e te)(hs:swapsWith e (some (.Name x lR)) pos.line X.env=pure false:=by rfl)(hf:X.fn x=true\/X.env.scope.names.lookup x=some .local:=by first|exact .inl rfl|exact .inr rfl|assumption) :
  PS X (.Assign [.Name x lR] e pos) (Po te (xA i)):=by
 intro ao s σ H D I h;refine wpAny_Assign_Name (dB (he ao s σ H _ I h) λv s1 ⟨y,H1,I1,r1,q1⟩=>?_) hs;exact BP I1 hN hi hx r1 (λs2 I2=>⟨_,H1,I2,q1⟩) hf
def ack(i:Nat)(te:TE)(ti:TIp):TS:=λD σ H=>∃ x,σ[i]?=some (some x)/\te σ H λy H1=>ti x y H1 λz H2=>D.nx (σ.set i (some z)) H2
theorem xX{i:Nat}{x:Str}{e:Expr}{te:TE}{op:Operator}{ti:TIp}{lR:Pos}(hN:X.N.Nodup)(hi:X.N[i]?=some x)(hx:Loc X.env.scope x)(he:PE X e te)(ho:PIp X op ti)(hf:X.fn x=true\/X.env.scope.names.lookup x=some .local:=by first|exact .inl rfl|exact .inr rfl|assumption) :
  PS X (.AugAssign (.Name x lR) op e pos) (ack i te ti):=by
 intro ao s σ H D I h;obtain⟨v,e1,h⟩:=h;obtain⟨m,hn,hl⟩:=I.loc;have vis:Vis X.env.scope x:=by rcases hx with k|k;exact .inl k;exact .inr (.inl k)
 obtain⟨u,r,l⟩:=hl i x v hi e1 vis;refine wpAny_AugAssign_Name ?_
 have go:wpAny (model X.prog X.w) X.A (eval e X.env) (λw s₂=>wpAny (model X.prog X.w) X.A (inplaceOp op u w) (λr s₃=>wpAny (model X.prog X.w) X.A (storeName X.env x r) (λ_=>SP X ao D .next) X.xe s₃) X.xe s₂) X.xe s:=by
  refine dB (he ao s σ H _ I h) λw s1 BR=>?_;obtain⟨y,H1,I1,r1,q1⟩:=BR;refine dB (ho ao s1 σ H1 v y u w _ I1 r r1 q1) λz s2 Ho=>?_;obtain⟨zv,H2,I2,r2,q2⟩:=Ho;exact BP I2 hN hi hx r2 (λs3 I3=>⟨_,H2,I3,q2⟩) hf
 rcases l with ⟨hk,hm⟩|⟨hk,c,hc,hcell⟩
 ·exact wpAny_loadName_local I.ok.kind hk hn hm go
 ·rcases hk with hk|hk
  ·exact wpAny_loadName_cell I.ok.kind hk hc hcell go
  ·rcases hx with k|k
   ·have:X.env.scope.names.lookup x=some .free:=hk;rw[k]at this;cases this
   ·have:X.env.scope.names.lookup x=some .free:=hk;rw[k]at this;cases this
def ipI(f:Int->Int->Int):TIp:=λx y H Q=>∃ i j,x=.int i/\y=.int j/\Q (.int (f i j)) H
theorem Pp:PIp X .Add (ipI λi j=>i+j):=by
 intro ao s σ H x y v u Q I r1 r2 h;obtain⟨i,j,e1,e2,q⟩:=h;subst e1;subst e2;obtain⟨t,rfl⟩:=r1;obtain⟨t',rfl⟩:=r2;exact iadd_int ⟨.int _,H,I.tok _,⟨_,rfl⟩,q⟩
end
section
variable {X:Cx} {pos:Pos}
def WJ(c:TT)(tb:TS):TS:=λD σ H=>∃ W:Nat->St->Hp->Prop,(∃ m,W m σ H)/\∀ m σ H,W m σ H->
 c σ H λb H1=>if b=true then ∃ N:St->Hp->Prop,(∀ σ' H',N σ' H'->∃ m',m'<m/\W m' σ' H')/\tb { D with nx:=N,ct:=N,bk:=D.nx } σ H1 else D.nx σ H1
theorem vQ{c:Expr}{tc:TT}{tb:TS}(hp:PassesOwn (model X.prog X.w) X.A X.env X.xe)(hc:PT X c tc)(hb:LF X body tb):PS X (.While c body [] pos) (WJ tc tb):=by
 intro ao s σ H D I h;obtain⟨W,⟨m0,w0⟩,xY⟩:=h;refine wpAny_While (codeAny_whileLoop (λn s'=>∃ σ' H',Inv X ao σ' H' s'/\W n σ' H') ?_ m0 ⟨σ,H,I,w0⟩);rintro n s1 ⟨σ1,H1,I1,w1⟩;refine wpAny_passesOwn hp (dB (hc ao s1 σ1 H1 _ I1 (xY n σ1 H1 w1)) λb s2 J3=>?_);obtain⟨H2,I2,q2⟩:=J3
 cases b with
 | true =>
  obtain⟨N,hN,q2⟩:=q2;rw[if_pos rfl];refine wpAny_passesOwn hp (dB (hb ao s2 σ1 H2 _ I2 q2) λf s3 q3=>?_)
  cases f with
  | next =>
   obtain⟨σ3,H3,I3,n3⟩:=q3;obtain⟨m',hm,w3⟩:=hN σ3 H3 n3;exact⟨m',hm,σ3,H3,I3,w3⟩
  | cont =>
   obtain⟨σ3,H3,I3,n3⟩:=q3;obtain⟨m',hm,w3⟩:=hN σ3 H3 n3;exact⟨m',hm,σ3,H3,I3,w3⟩
  | brk=>exact q3
  | ret v=>exact q3
 | false =>
  rw[if_neg jQ];exact wpAny_execs_nil ⟨σ1,H2,I2,q2⟩
end
structure It where
 go:Nat->Hp->Prop
 OR:Nat->Hp->V->Hp->Prop
 stop:Nat->Hp->Prop
def uI(X:Cx)(ao:List (Addr × Obj))(H:Hp)(b:Addr):Prop :=
 H b=none/\b≠X.env.locals/\b∉X.fs/\(b∈X.ex\/X.s₀.heap.objs.size<=b)/\(∀ x c,X.env.cells.lookup x=some c->c≠b)/\∀ p∈X.pn++ao,p.1≠b
theorem Inv.J5{X:Cx}{σ:St}{H H':Hp}{s:Shared}{b:Addr}(I:Inv X ao σ H s)(hb:s.heap.objs.size<=b)(hn:H' b=none):uI X ao H' b:=by
 refine⟨hn,Nat.ne_of_gt (vN I.lt hb),I.ab4 hb,.inr (jY I.sz hb),λx c e z=>?_,λp hp z=>?_⟩
 ·obtain⟨v,q⟩:=I.cell x c e;exact absurd (vN q.lt (by rw[z];exact hb)) (Nat.lt_irrefl _)
 ·exact absurd (vN (Heap.lt_size (I.pin p hp).1) (by rw[z];exact hb)) (Nat.lt_irrefl _)
structure Hr(P:Program)(w:World)(K:Frag)(tg:Expr)(J:It)(fp:List Addr)(it:Addr)(tn:Nat->Heap->Prop):Prop where
 mem:it∈fp
 obj:∀ i h,tn i h->∀ b∈fp,∃ o,h.get? b=some o/\∀ v,o.data≠.cell v
 keep:∀ i h h',tn i h->(∀ b∈fp,∀ o,h.get? b=some o->h'.get? b=some o)->tn i h'
 item:∀ (X:Cx),X.prog=P->X.w=w->X.K=K->X.calm=true->∀ (i:Nat) (ao:List (Addr × Obj)) (s:Shared) (σ:St) (H:Hp) (E:Value->Shared->Prop),Inv X ao σ H s->(∀ b∈fp,uI X ao H b)->tn i s.heap->J.go i H->
  wpAny (model P w) X.A (pyNext (.ref it)) (λr s1=>∃ u,r=some u/\
   wpAny (model P w) X.A (letOwnedTupleGo tg (.ref it) u) (λ_ s2=>∃ x H',Inv X ao σ H' s2/\RelV x u/\J.OR i H x H'/\tn (i+1) s2.heap/\∀ b∈fp,H' b=none) E s1) E s
 done:∀ (X:Cx),X.prog=P->X.w=w->X.K=K->X.calm=true->∀ (i:Nat) (ao:List (Addr × Obj)) (s:Shared) (σ:St) (H:Hp) (E:Value->Shared->Prop),Inv X ao σ H s->(∀ b∈fp,uI X ao H b)->tn i s.heap->J.stop i H->
  wpAny (model P w) X.A (pyNext (.ref it)) (λr s1=>r=none/\Inv X ao σ H s1) E s
 self:∀ (A:Around) (i:Nat) (s:Shared) (Q:Value->Shared->Prop) (E:Value->Shared->Prop),tn i s.heap->Q (.ref it) s->wpAny (model P w) A (pyIter (.ref it)) Q E s
abbrev TI:=St->Hp->(It->Hp->Prop)->Prop
def PIE(X:Cx)(ao:List (Addr × Obj))(σ:St)(tg:Expr)(R:It->Hp->Prop)(Y7:Value)(s2:Shared):Prop :=
 ∃ (it:Addr) (fp:List Addr) (tn:Nat->Heap->Prop) (J:It) (H':Hp),Y7=.ref it/\Inv X ao σ H' s2/\Hr X.prog X.w X.K tg J fp it tn/\tn 0 s2.heap/\(∀ b∈fp,uI X ao H' b)/\R J H'
def PI(X:Cx)(tg iter:Expr)(wi:TI):Prop :=
 ∀ (ao:List (Addr × Obj)) (s:Shared) (σ:St) (H:Hp) (R:It->Hp->Prop),Inv X ao σ H s->wi σ H R->
  wpAny (model X.prog X.w) X.A (eval iter X.env) (λv s1=>wpAny (model X.prog X.w) X.A (pyIter v) (PIE X ao σ tg R) X.xe s1) X.xe s
theorem Hs{M:Model}{A:Around}{E:Value->Shared->Prop}{s:Shared}{it:Addr}{u:Value}{o:Obj}{n:String}{vs:Array Value}{Q:Unit->Shared->Prop}(ho:s.heap.get? it=some o)(hc:o.cls=.type n)(hd:o.data=.fields vs)
  (hn:["enumerate","zip","dict_itemiterator","dict_reverseitemiterator","odict_iterator","itertools.zip_longest","itertools.pairwise"].contains n=false) (hQ:Q () s):wpAny M A (letOwnedTupleGo tg (.ref it) u) Q E s:=by
 unfold letOwnedTupleGo
 cases tg <;> first
  | exact wpAny_pure hQ
  | (cases u <;> first
    | exact wpAny_pure hQ
    | (refine wpAny_bind (wpAny_load ho ?_);rw[hc,hd];show wpAny M A (if (["enumerate","zip","dict_itemiterator","dict_reverseitemiterator","odict_iterator","itertools.zip_longest","itertools.pairwise"].contains n&&vs[0]? == some (rawInt _))=true then _ else _) Q E s;rw[if_neg (by intro h;rw[hn,Bool.false_and]at h;cases h)];exact wpAny_pure hQ))
def Sn(K:Frag)(a:Addr):It :=
 ⟨λi H=>∃ xs x,bM K H a xs/\xs[i]?=some x,λi H x H'=>H'=H/\∀ xs,bM K H a xs->xs[i]?=some x,λi H=>∃ xs,bM K H a xs/\xs.length<=i⟩
def Y8(K:Frag)(a:Addr):It :=
 ⟨λi H=>∃ xs x,d8 K H a xs/\xs[i]?=some x,λi H x H'=>H'=H/\∀ xs,d8 K H a xs->xs[i]?=some x,λi H=>∃ xs,d8 K H a xs/\xs.length<=i⟩
def Np(lo:Int)(n:Nat):It:=⟨λi _=>i<n,λi H x H'=>H'=H/\x=.int (lo+i),λi _=>n<=i⟩
theorem Nq{P:Program}{w:World}{K:Frag}(a it:Addr):Hr P w K tg (Sn K a) [it] it (λi h=>h.IsListIter it a i) where
 mem:=by simp
 obj:=λi h st b hb=>by
  have e:b=it:=by simpa using hb
  subst e;obtain⟨o,e,c,d⟩:=st;exact⟨o,e,λv z=>by rw[d]at z;cases z⟩
 keep:=λi h h' st k=>st.at λo e=>k it (by simp) o e
 item:=by
  intro X hP hw hK hc i ao s σ H E I hf st hg;subst hP hw hK;obtain⟨xs,x,hq,hx⟩:=hg;obtain⟨aP,rv,p,hz⟩:=I.list hq;obtain⟨u,hu,ru⟩:=rv.get hx;obtain⟨f0,f1,f2,f3,f4,f5⟩:=hf it (by simp);refine wpAny_pyNext_list_item st p.isList (x:=u) (by simpa using hu) λh' Dy sb=>?_;have I1:Inv X ao σ H { s with heap:=h' }:=I.turned (t':=s.toks) (λb o hb e=>(sb.2 b hb).trans e) f0 f1 f3 f4 f5;obtain⟨o,e,c,d⟩:=id Dy;exact⟨u,rfl,Hs (s:={ s with heap:=h' }) e c d (by decide) ⟨x,H,I1,ru,⟨rfl,λys hy=>by rw[I.BS hy hq];exact hx⟩,Dy,λb hb=>(hf b hb).1⟩⟩
 done:=by
  intro X hP hw hK hc i ao s σ H E I hf st hg;subst hP hw hK;obtain⟨xs,hq,hx⟩:=hg;obtain⟨aP,rv,p,hz⟩:=I.list hq;obtain⟨f0,f1,f2,f3,f4,f5⟩:=hf it (by simp);have hl:=rv.length;exact wpAny_pyNext_list_end (I.ok.hd hc) st p.isList (by simp;lia) λh' eb=>⟨rfl,I.turned (t':=s.toks) (λb o hb e=>eb b o hb e) f0 f1 f3 f4 f5⟩
 self:=λ_ _ _ _ _ st h=>wpAny_pyIter_listiter st h
theorem J6{P:Program}{w:World}{K:Frag}(a it:Addr):Hr P w K tg (Y8 K a) [it] it (λi h=>h.IsTupleIter it a i) where
 mem:=by simp
 obj:=λi h st b hb=>by
  have e:b=it:=by simpa using hb
  subst e;obtain⟨o,e,c,d⟩:=st;exact⟨o,e,λv z=>by rw[d]at z;cases z⟩
 keep:=λi h h' st k=>st.at λo e=>k it (by simp) o e
 item:=by
  intro X hP hw hK hc i ao s σ H E I hf st hg;subst hP hw hK;obtain⟨xs,x,hq,hx⟩:=hg;obtain⟨aP,rv,p,hz⟩:=I.tuple hq;obtain⟨u,hu,ru⟩:=rv.get hx;obtain⟨f0,f1,f2,f3,f4,f5⟩:=hf it (by simp);refine wpAny_pyNext_tuple_item st (show s.heap.IsTuple a aP.toArray from p) (x:=u) (by simpa using hu) λh' Dy sb=>?_;have I1:Inv X ao σ H { s with heap:=h' }:=I.turned (t':=s.toks) (λb o hb e=>(sb.2 b hb).trans e) f0 f1 f3 f4 f5;obtain⟨o,e,c,d⟩:=id Dy;exact⟨u,rfl,Hs (s:={ s with heap:=h' }) e c d (by decide) ⟨x,H,I1,ru,⟨rfl,λys hy=>by rw[I.Ej hy hq];exact hx⟩,Dy,λb hb=>(hf b hb).1⟩⟩
 done:=by
  intro X hP hw hK hc i ao s σ H E I hf st hg;subst hP hw hK;obtain⟨xs,hq,hx⟩:=hg;obtain⟨aP,rv,p,hz⟩:=I.tuple hq;obtain⟨f0,f1,f2,f3,f4,f5⟩:=hf it (by simp);have hl:=rv.length;exact wpAny_pyNext_tuple_end (I.ok.hd hc) st (show s.heap.IsTuple a aP.toArray from p) (by simp;lia) λh' eb=>⟨rfl,I.turned (t':=s.toks) (λb o hb e=>eb b o hb e) f0 f1 f3 f4 f5⟩
 self:=λ_ _ _ _ _ st h=>wpAny_pyIter_tupleiter st h
theorem BU{P:Program}{w:World}{K:Frag}(it:Addr)(lo:Int)(n:Nat):Hr P w K tg (Np lo n) [it] it (λi h=>IsRangeIter h it (lo+(i:Nat)*1) ((n:Int)-(i:Nat)) 1) where
 mem:=by simp
 obj:=λi h st b hb=>by
  have e:b=it:=by simpa using hb
  subst e
  exact⟨_,st,λv z=>by
   have z':Data.fields _=Data.cell v:=z
   cases z'⟩
 keep:=λi h h' st k=>k it (by simp) _ st
 item:=by
  intro X hP hw hK hc i ao s σ H E I hf st hg;subst hP hw hK;obtain⟨f0,f1,f2,f3,f4,f5⟩:=hf it (by simp);have W:=Walks.range (prog:=X.prog) (w:=X.w) (I.ok.hd hc) it lo 1 n;refine W.item i s _ _ hg st λv h' tk hv Dy kk=>?_;obtain⟨t,rfl⟩:=hv;have I1:Inv X ao σ H { s with heap:=h',toks:=tk }:=I.turned (λb o hb e=>kk b o (by simpa using hb) e) f0 f1 f3 f4 f5;refine⟨_,rfl,Hs (s:={ s with heap:=h',toks:=tk }) (n:="range_iterator") Dy rfl rfl (by decide) ⟨.int (lo+i),H,I1,⟨t,?_⟩,⟨rfl,rfl⟩,Dy,λb hb=>(hf b hb).1⟩⟩;rw[Int.mul_one]
 done:=by
  intro X hP hw hK hc i ao s σ H E I hf st hg;subst hP hw hK;obtain⟨f0,f1,f2,f3,f4,f5⟩:=hf it (by simp);exact wpAny_pyNext_range_end (I.ok.hd hc) st (by have:n<=i:=hg;lia) λh' eb=>⟨rfl,I.turned (t':=s.toks) (λb o hb e=>eb b o hb e) f0 f1 f3 f4 f5⟩
 self:=λ_ _ _ _ _ st h=>wpAny_pyIter_rangeiter st h
end L2
namespace L2
open Spec Rows
section
variable {X:Cx} {tg:Expr}
inductive isL(K:Frag)(x:V)(H:Hp)(R:It->Hp->Prop):Prop
 | mk (a:Addr) (_:x=.ref a) (_:∃ xs,bM K H a xs) (_:R (Sn K a) H)
def Ve(K:Frag)(tl:TE):TI:=fun σ H R=>tl σ H λx H1=>isL K x H1 R
def acn(K:Frag)(tl:TE):TI:=fun σ H R=>tl σ H λx H1=>∃ a,x=.ref a/\(∃ xs,d8 K H1 a xs)/\R (Y8 K a) H1
theorem cX{tl:TE}(hl:PE X l tl):PI X tg l (Ve X.K tl):=by
 intro ao s σ H R I h;refine dB (hl ao s σ H _ I h) λv s1 BR=>?_;obtain⟨x,H1,I1,r1,q1⟩:=BR;obtain⟨a,e,⟨xs,hq⟩,q⟩:=q1;subst e;cases r1;obtain⟨aP,rv,p,hz⟩:=I1.list hq;refine wpAny_pyIter_list p.isList ?_;refine⟨s1.heap.objs.size,[s1.heap.objs.size],_,_,H1,rfl,I1.kept (t':=s1.toks) λb o e=>Heap.get?_push_of_some _ e,Nq a _,⟨_,Heap.get?_push_size _ rfl,rfl,rfl⟩,λb hb=>?_,q⟩;have e:b=s1.heap.objs.size:=by simpa using hb
 subst e;exact I1.J5 (iT _) (I1.hok.fresh (iT _))
theorem WK{tl:TE}(hl:PE X l tl):PI X tg l (acn X.K tl):=by
 intro ao s σ H R I h;refine dB (hl ao s σ H _ I h) λv s1 Ho=>?_;obtain⟨x,H1,I1,r1,q1⟩:=Ho;obtain⟨a,e,⟨xs,hq⟩,q⟩:=q1;subst e;cases r1;obtain⟨aP,rv,p,hz⟩:=I1.tuple hq;refine wpAny_pyIter_tuple (show s1.heap.IsTuple a aP.toArray from p) ?_;refine⟨s1.heap.objs.size,[s1.heap.objs.size],_,_,H1,rfl,I1.kept (t':=s1.toks) λb o e=>Heap.get?_push_of_some _ e,J6 a _,⟨_,Heap.get?_push_size _ rfl,rfl,rfl⟩,λb hb=>?_,q⟩;have e:b=s1.heap.objs.size:=by simpa using hb
 subst e;exact I1.J5 (iT _) (I1.hok.fresh (iT _))
theorem Pq{σ:St}{H:Hp}{s:Shared}{R:It->Hp->Prop}{E:Value->Shared->Prop}{lo hi:Int}{t u v:Tok}{tk:Nat}(I:Inv X ao σ H s)(h1:-(2^62)<=lo)(h2:lo<2^62)(h3:-(2^62)<=hi)(h4:hi<2^62)
  (q:R (Np lo (hi-lo).toNat) H):wpAny (model X.prog X.w) X.A (pyIter (.ref s.heap.objs.size)) (PIE X ao σ tg R) E { s with heap:=s.heap.push { cls:=.type "range",data:=.fields #[.int lo t,.int hi u,.int 1 v] },toks:=tk }:=by
 refine wpAny_pyIter_range (IsRange.new ..) (small_one h1 h2 h3 h4) ?_;have I1:Inv X ao σ H { s with heap:=s.heap.push { cls:=.type "range",data:=.fields #[.int lo t,.int hi u,.int 1 v] },toks:=tk }:=I.kept λb o e=>Heap.get?_push_of_some _ e;refine⟨(s.heap.push { cls:=.type "range",data:=.fields #[.int lo t,.int hi u,.int 1 v] }).objs.size,[(s.heap.push { cls:=.type "range",data:=.fields #[.int lo t,.int hi u,.int 1 v] }).objs.size],_,_,H,rfl, I1.kept (t':=tk) λb o e=>Heap.get?_push_of_some _ e,BU _ lo (hi-lo).toNat,?_,λb hb=>?_,q⟩
 ·have e1:lo+((0:Nat):Int)*1=lo:=by simp
  have e2:(((hi-lo).toNat:Nat):Int)-((0:Nat):Int)=Builtin.Range.rangeSize lo hi 1:=by rw[rangeSize_one];split <;> lia
  show IsRangeIter _ _ (lo+((0:Nat):Int)*1) ((((hi-lo).toNat:Nat):Int)-((0:Nat):Int)) 1;rw[e1,e2];exact Heap.get?_push_size _ rfl
 ·have e:b=(s.heap.push { cls:=.type "range",data:=.fields #[.int lo t,.int hi u,.int 1 v] }).objs.size:=by simpa using hb
  subst e;exact I1.J5 (iT _) (I1.hok.fresh (iT _))
inductive isR(vs:List V)(H:Hp)(R:It->Hp->Prop):Prop
 | mk (j:Int) (_:vs=[.int j]) (_:-(2^62)<=j) (_:j<2^62) (_:R (Np 0 j.toNat) H)
def Y9(ta:TA):TI:=fun σ H R=>ta σ H λvs H1=>isR vs H1 R
theorem oN{a:Expr}{ta:TA}{p:Pos}(hg:Gl X "range")(hm:X.mg "range"=none)(ha:PA X [a] ta)(hs:starEach [a] X.env=[(false,eval a X.env)]:=by rfl):PI X tg (.Call (.Name "range" p) [a] [] pos) (Y9 ta):=by
 intro ao s σ H R I h;refine Call_ (xV I hg hm boot_range (PyProof.Rows.callWith_type1 (dB (ha pos ao s σ H _ I h) λus s1 ⟨vs,H1,I1,r1,q1⟩=>?_) hs rfl));obtain⟨j,e,q1,q2,q⟩:=q1;subst e
 cases r1 with
 | cons r rr =>
  cases rr;obtain⟨t,rfl⟩:=r;exact call_range_1 (Pq I1 (by lia) (by lia) q1 q2 (by simpa using q))
def aco(wi:TI)(g:TG)(tb:TS):TS:=λD σ H=>wi σ H λJ H1=>∃ W:Nat->Nat->St->Hp->Prop,(∃ m,W 0 m σ H1)/\∀ i m σ H,W i m σ H->
 (J.stop i H/\D.nx σ H)\/(J.go i H/\∃ N:St->Hp->Prop,(∀ σ' H',N σ' H'->∃ m',m'<m/\W (i+1) m' σ' H')/\∀ x H',J.OR i H x H'->g x σ H' fun σ2 H2=>tb { D with nx:=N,ct:=N,bk:=D.nx } σ2 H2)
def xZ(fp:List Addr)(h:Heap):List (Addr × Obj):=fp.filterMap λb=>(h.get? b).map λo=>(b,o)
theorem j6{fp:List Addr}{h:Heap}{b:Addr}{o:Obj}(hb:b∈fp)(e:h.get? b=some o):(b,o)∈xZ fp h:=List.mem_filterMap.mpr ⟨b,hb,by rw[e];rfl⟩
theorem Nr{fp:List Addr}{h:Heap}{p:Addr × Obj}(hp:p∈xZ fp h):p.1∈fp/\h.get? p.1=some p.2:=by
 obtain⟨b,hb,e⟩:=List.mem_filterMap.mp hp
 cases q:h.get? b with
 | none=>rw[q]at e;cases e
 | some o =>
  rw[q]at e;have e':(b,o)=p:=uG e;subst e';exact⟨hb,q⟩
theorem Inv.pinned{σ:St}{H:Hp}{s:Shared}{fp:List Addr}(I:Inv X ao σ H s)(hf:∀ b∈fp,uI X ao H b)(ho:∀ b∈fp,∃ o,s.heap.get? b=some o/\∀ v,o.data≠.cell v):Inv X (ao++xZ fp s.heap) σ H s :=
 I.LA λp hp=>(List.mem_append.mp hp).elim (λz=>I.pin p (uF _ z)) λz=>by
  obtain⟨hb,e⟩:=Nr z;obtain⟨f0,f1,f2,_⟩:=hf p.1 hb;obtain⟨o,e',d⟩:=ho p.1 hb;rw[e]at e';cases e';exact⟨e,f0,f1,f2,d⟩
theorem Inv.ud{pl:List (Addr × Obj)}{σ:St}{H:Hp}{s:Shared}(I:Inv X (ao++pl) σ H s):Inv X ao σ H s:=I.LA λp hp=>I.pin p (uF _ (xU _ hp))
theorem eL{iter:Expr}{wi:TI}{g:TG}{tb:TS}(hp:PassesOwn (model X.prog X.w) X.A X.env X.xe)(hc:X.calm=true)(hi:PI X tg iter wi)(hg:PG X tg g)(hb:LF X body tb)
  (hs:∀ x,foldedSetIterable iter X.env x=pure x:=by intro _;rfl):PS X (.For tg iter body [] pos) (aco wi g tb):=by
 intro ao s σ H D I h;refine wpAny_For (dB (hi ao s σ H _ I h) λv s1 h1=>dB h1 λY7 s2 h2=>?_) hs;obtain⟨it,fp,tn,J,H2,e,I2,T,st2,f2,W,⟨m0,w0⟩,xY⟩:=h2;subst e;have ya:∀ {H':Hp},(∀ b∈fp,H' b=none)->∀ b∈fp,uI X ao H' b:=λhn b hb=>⟨hn b hb,(f2 b hb).2⟩;refine codeAny_forLoop_any (λn s'=>∃ i σ' H',Inv X ao σ' H' s'/\tn i s'.heap/\(∀ b∈fp,H' b=none)/\W i n σ' H') ?_ m0 ⟨0,σ,H2,I2,st2,λb hb=>(f2 b hb).1,w0⟩;rintro n s3 ⟨i,σ3,H3,I3,st3,J7,w3⟩;rcases xY i n σ3 H3 w3 with ⟨stop,qn⟩|⟨go,N,hN,step⟩
 ·refine wpAny_passesOwn hp (dB (T.done X rfl rfl rfl hc i ao s3 σ3 H3 X.xe I3 (ya J7) st3 stop) λr s4 Ft=>?_);obtain⟨hr,I4⟩:=Ft;subst hr;exact wpAny_execs_nil ⟨σ3,H3,I4,qn⟩
 ·refine wpAny_passesOwn hp (dB (T.item X rfl rfl rfl hc i ao s3 σ3 H3 X.xe I3 (ya J7) st3 go) λr s4 J1=>?_);obtain⟨u,hr,h4⟩:=J1;subst hr;refine wpAny_passesOwn hp (dB h4 λ_ s5 J2=>?_);obtain⟨x,H5,I5,r5,y5,Yr,Tc⟩:=J2;have I5':=I5.pinned (ya Tc) (T.obj _ _ Yr);refine wpAny_passesOwn hp (dB (hg _ s5 σ3 H5 x u _ I5' r5 (step x H5 y5)) λ_ s6 J4=>?_);obtain⟨σ6,H6,I6,q6⟩:=J4;refine wpAny_passesOwn hp (dB (hb _ s6 σ6 H6 _ I6 q6) λf s7 q7=>?_)
  have again:∀ {σ7:St} {H7:Hp},Inv X (ao++xZ fp s5.heap) σ7 H7 s7->N σ7 H7->∃ m,m<n/\∃ i σ' H',Inv X ao σ' H' s7/\tn i s7.heap/\(∀ b∈fp,H' b=none)/\W i m σ' H':=λ{σ7 H7} I7 n7=>by
   obtain⟨m',hm,w7⟩:=hN σ7 H7 n7;refine⟨m',hm,i+1,σ7,H7,I7.ud,T.keep _ _ _ Yr λb hb o e=>(I7.pin (b,o) (uF _ (uF _ (j6 hb e)))).1,λb hb=>?_,w7⟩;obtain⟨o,e,d⟩:=T.obj _ _ Yr b hb;exact (I7.pin (b,o) (uF _ (uF _ (j6 hb e)))).2.1
  cases f with
  | next=>obtain⟨σ7,H7,I7,n7⟩:=q7;exact again I7 n7
  | cont=>obtain⟨σ7,H7,I7,n7⟩:=q7;exact again I7 n7
  | brk=>obtain⟨σ7,H7,I7,q7⟩:=q7;exact⟨σ7,H7,I7.ud,q7⟩
  | ret v=>obtain⟨x7,σ7,H7,I7,r7,q7⟩:=q7;exact⟨x7,σ7,H7,I7.ud,r7,q7⟩
end
theorem eN{K:Frag}{a:Addr}{xs:List V}{g:TG}{tb:TS}{D:Ends}{σ:St}{H:Hp}(Pv:Nat->St->Hp->Prop)(h0:Pv 0 σ H)(hl:∀ i σ H,i<=xs.length->Pv i σ H->bM K H a xs)
  (hs:∀ i x σ H,xs[i]?=some x->Pv i σ H->g x σ H fun σ2 H2=>tb { D with nx:=Pv (i+1),ct:=Pv (i+1),bk:=D.nx } σ2 H2) (hd:∀ σ H,Pv xs.length σ H->D.nx σ H) :
  ∃ W:Nat->Nat->St->Hp->Prop,(∃ m,W 0 m σ H)/\∀ i m σ H,W i m σ H->
   ((Sn K a).stop i H/\D.nx σ H)\/((Sn K a).go i H/\∃ N:St->Hp->Prop,(∀ σ' H',N σ' H'->∃ m',m'<m/\W (i+1) m' σ' H')/\∀ x H',(Sn K a).OR i H x H'->g x σ H' fun σ2 H2=>tb { D with nx:=N,ct:=N,bk:=D.nx } σ2 H2):=by
 refine⟨λi m σ H=>m=xs.length-i/\i<=xs.length/\Pv i σ H,⟨xs.length,by simp,qA _,h0⟩,?_⟩;rintro i m σ H ⟨rfl,hi,p⟩;have q:=hl i σ H hi p;by_cases uJ:i<xs.length
 ·refine .inr ⟨⟨xs,xs[i],q,by simp[uJ]⟩,Pv (i+1),fun σ' H' p'=>⟨xs.length-(i+1),by lia,rfl,uJ,p'⟩,λx H' y=>?_⟩;obtain⟨e,y⟩:=y;subst e;exact hs i x σ _ (y xs q) p
 ·have e:i=xs.length:=by lia
  subst e;exact .inl ⟨⟨xs,q,iT _⟩,hd σ H p⟩
theorem Td{K:Frag}{a:Addr}{xs:List V}{g:TG}{tb:TS}{D:Ends}{σ:St}{H:Hp}(Pv:Nat->St->Hp->Prop)(h0:Pv 0 σ H)(hl:∀ i σ H,i<=xs.length->Pv i σ H->d8 K H a xs)
  (hs:∀ i x σ H,xs[i]?=some x->Pv i σ H->g x σ H fun σ2 H2=>tb { D with nx:=Pv (i+1),ct:=Pv (i+1),bk:=D.nx } σ2 H2) (hd:∀ σ H,Pv xs.length σ H->D.nx σ H) :
  ∃ W:Nat->Nat->St->Hp->Prop,(∃ m,W 0 m σ H)/\∀ i m σ H,W i m σ H->
   ((Y8 K a).stop i H/\D.nx σ H)\/((Y8 K a).go i H/\∃ N:St->Hp->Prop,(∀ σ' H',N σ' H'->∃ m',m'<m/\W (i+1) m' σ' H')/\∀ x H',(Y8 K a).OR i H x H'->g x σ H' fun σ2 H2=>tb { D with nx:=N,ct:=N,bk:=D.nx } σ2 H2):=by
 refine⟨λi m σ H=>m=xs.length-i/\i<=xs.length/\Pv i σ H,⟨xs.length,by simp,qA _,h0⟩,?_⟩;rintro i m σ H ⟨rfl,hi,p⟩;have q:=hl i σ H hi p;by_cases uJ:i<xs.length
 ·refine .inr ⟨⟨xs,xs[i],q,by simp[uJ]⟩,Pv (i+1),fun σ' H' p'=>⟨xs.length-(i+1),by lia,rfl,uJ,p'⟩,λx H' y=>?_⟩;obtain⟨e,y⟩:=y;subst e;exact hs i x σ _ (y xs q) p
 ·have e:i=xs.length:=by lia
  subst e;exact .inl ⟨⟨xs,q,iT _⟩,hd σ H p⟩
theorem rC{lo:Int}{n:Nat}{g:TG}{tb:TS}{D:Ends}{σ:St}{H:Hp}(Pv:Nat->St->Hp->Prop)(h0:Pv 0 σ H)
  (hs:∀ i σ H,i<n->Pv i σ H->g (.int (lo+i)) σ H fun σ2 H2=>tb { D with nx:=Pv (i+1),ct:=Pv (i+1),bk:=D.nx } σ2 H2) (hd:∀ σ H,Pv n σ H->D.nx σ H) :
  ∃ W:Nat->Nat->St->Hp->Prop,(∃ m,W 0 m σ H)/\∀ i m σ H,W i m σ H->
   ((Np lo n).stop i H/\D.nx σ H)\/((Np lo n).go i H/\∃ N:St->Hp->Prop,(∀ σ' H',N σ' H'->∃ m',m'<m/\W (i+1) m' σ' H')/\∀ x H',(Np lo n).OR i H x H'->g x σ H' fun σ2 H2=>tb { D with nx:=N,ct:=N,bk:=D.nx } σ2 H2):=by
 refine⟨λi m σ H=>m=n-i/\i<=n/\Pv i σ H,⟨n,by simp,qA _,h0⟩,?_⟩;rintro i m σ H ⟨rfl,hi,p⟩;by_cases uJ:i<n
 ·refine .inr ⟨uJ,Pv (i+1),fun σ' H' p'=>⟨n-(i+1),by lia,rfl,uJ,p'⟩,λx H' y=>?_⟩;obtain⟨e,y⟩:=y;subst e y;exact hs i σ _ uJ p
 ·have e:i=n:=by lia
  subst e;exact .inl ⟨Nat.le_refl _,hd σ H p⟩
end L2
namespace L2
open Spec Rows
abbrev R2:=V->V->Hp->VK->Prop
def yb(X:Cx)(f:Value->Value->Sem Value)(r:R2):Prop :=
 ∀ (ao:List (Addr × Obj)) (s:Shared) (σ:St) (H:Hp) (x y:V) (v u:Value) (Q:VK),Inv X ao σ H s->RelV x v->RelV y u->r x y H Q->
  wpAny (model X.prog X.w) X.A (f v u) (EP X ao σ Q) X.xe s
def UnR(X:Cx)(f:Value->Sem Value)(r:V->Hp->VK->Prop):Prop :=
 ∀ (ao:List (Addr × Obj)) (s:Shared) (σ:St) (H:Hp) (x:V) (v:Value) (Q:VK),Inv X ao σ H s->RelV x v->r x H Q->
  wpAny (model X.prog X.w) X.A (f v) (EP X ao σ Q) X.xe s
def pS(X:Cx)(f:Value)(r:List V->Hp->VK->Prop):Prop :=
 ∀ (ao:List (Addr × Obj)) (s:Shared) (σ:St) (H:Hp) (xs:List V) (us:List Value) (Q:VK),Inv X ao σ H s->cH xs us->r xs H Q->
  wpAny (model X.prog X.w) X.A (call f us) (EP X ao σ Q) X.xe s
def acq(X:Cx)(r:V->Hp->(Bool->Hp->Prop)->Prop):Prop :=
 ∀ (ao:List (Addr × Obj)) (s:Shared) (σ:St) (H:Hp) (x:V) (v:Value) (Q:Bool->Hp->Prop),Inv X ao σ H s->RelV x v->r x H Q->
  wpAny (model X.prog X.w) X.A (truthy v) (TP X ao σ Q) X.xe s
def Za(r:R2)(ta tb:TE):TE:=fun σ H Q=>ta σ H λx H1=>tb σ H1 λy H2=>r x y H2 Q
def tUn(r:V->Hp->VK->Prop)(ta:TE):TE:=fun σ H Q=>ta σ H λx H1=>r x H1 Q
inductive rI(C:Int->Int->Prop)(g:Int->Int->V)(x y:V)(H:Hp)(Q:VK):Prop
 | mk (i j:Int) (_:x=.int i) (_:y=.int j) (_:C i j) (_:Q (g i j) H):rI C g x y H Q
inductive Vf(g:Int->Int->V)(x y:V)(H:Hp)(Q:VK):Prop
 | mk (i j:Int) (_:x=.int i) (_:y=.int j) (_:Q (g i j) H)
def rU(g:Int->V):V->Hp->VK->Prop:=λx H Q=>∃ i,x=.int i/\Q (g i) H
section
variable {X:Cx} {a b c:Expr} {ta tb tc:TE} {pos:Pos}
theorem WL(ha:PE X a ta)(hb:PE X b tb){ao:List (Addr × Obj)}{s:Shared}{σ:St}{H:Hp}{R:V->V->Hp->Prop}(I:Inv X ao σ H s)
  (h:ta σ H λx H1=>tb σ H1 λy H2=>R x y H2) {Q:Value->Shared->Prop} {f:Value->Value->Sem Value}
  (hf:∀ v u s2 x y H2,Inv X ao σ H2 s2->RelV x v->RelV y u->R x y H2->wpAny (model X.prog X.w) X.A (f v u) Q X.xe s2) :
  wpAny (model X.prog X.w) X.A (eval a X.env) (λv s₁=>wpAny (model X.prog X.w) X.A (eval b X.env) (λu s₂=>wpAny (model X.prog X.w) X.A (f v u) Q X.xe s₂) X.xe s₁) X.xe s:=by
 refine dB (ha ao s σ H _ I h) λv s1 J3=>?_;obtain⟨x,H1,I1,r1,q1⟩:=J3;refine dB (hb ao s1 σ H1 _ I1 q1) λu s2 BR=>?_;obtain⟨y,H2,I2,r2,q2⟩:=BR;exact hf v u s2 x y H2 I2 r1 r2 q2
theorem bx{op:Operator}{r:R2}(ho:yb X (binaryOp op) r)(ha:PE X a ta)(hb:PE X b tb):PE X (.BinOp a op b pos) (Za r ta tb):=by
 intro ao s σ H Q I h;exact wpAny_BinOp (WL ha hb I h λv u s2 x y H2 I2 rx ry q=>ho ao s2 σ H2 x y v u Q I2 rx ry q)
theorem pT{op:UnaryOp}{r:V->Hp->VK->Prop}(ho:UnR X (unaryOp op) r)(ha:PE X a ta):PE X (.UnaryOp op a pos) (tUn r ta):=by
 intro ao s σ H Q I h;exact UnaryOp_ (dB (ha ao s σ H _ I h) λv s1 ⟨x,H1,I1,r1,q1⟩=>ho ao s1 σ H1 x v Q I1 r1 q1)
theorem opI{f:Value->Value->Sem Value}{C:Int->Int->Prop}{g:Int->Int->Int}
  (rule:∀ (i j:Int) (t u:Tok) (s:Shared) (Q:Value->Shared->Prop) (E:Value->Shared->Prop),C i j->Q (.int (g i j) s.toks) { s with toks:=s.toks+1 }->wpAny (model X.prog X.w) X.A (f (.int i t) (.int j u)) Q E s) :
  yb X f (rI C λi j=>.int (g i j)):=by
 intro ao s σ H x y v u Q I rx ry h;obtain⟨i,j,rfl,rfl,hc,q⟩:=h;obtain⟨t,rfl⟩:=rx;obtain⟨t',rfl⟩:=ry;exact rule i j t t' s _ _ hc ⟨.int (g i j),H,I.tok _,⟨_,rfl⟩,q⟩
theorem Zb{f:Value->Value->Sem Value}{g:Int->Int->Int}
  (rule:∀ (i j:Int) (t u:Tok) (s:Shared) (Q:Value->Shared->Prop) (E:Value->Shared->Prop),Q (.int (g i j) s.toks) { s with toks:=s.toks+1 }->wpAny (model X.prog X.w) X.A (f (.int i t) (.int j u)) Q E s) :
  yb X f (Vf λi j=>.int (g i j)):=by
 intro ao s σ H x y v u Q I rx ry h;obtain⟨i,j,rfl,rfl,q⟩:=h;obtain⟨t,rfl⟩:=rx;obtain⟨t',rfl⟩:=ry;exact rule i j t t' s _ _ ⟨.int (g i j),H,I.tok _,⟨_,rfl⟩,q⟩
theorem Te{f:Value->Value->Sem Value}{g:Int->Int->Bool}
  (rule:∀ (i j:Int) (t u:Tok) (s:Shared) (Q:Value->Shared->Prop) (E:Value->Shared->Prop),Q (.bool (g i j)) s->wpAny (model X.prog X.w) X.A (f (.int i t) (.int j u)) Q E s) :
  yb X f (Vf λi j=>.bl (g i j)):=by
 intro ao s σ H x y v u Q I rx ry h;obtain⟨i,j,rfl,rfl,q⟩:=h;obtain⟨t,rfl⟩:=rx;obtain⟨t',rfl⟩:=ry;exact rule i j t t' s _ _ ⟨.bl (g i j),H,I,rfl,q⟩
def acr(i j:Int):Prop:=0<=j/\j<=1000000/\i.natAbs<2^64
def WM(i j:Int):Prop:=(-(2^64)<i/\i<2^64)\/(-(2^64)<j/\j<2^64)
theorem WM.ok{i j:Int}(h:WM i j):IntMulOk i j:=by
 rcases h with ⟨h1,h2⟩|⟨h1,h2⟩
 ·exact .of_left (intBits_le_64 h1 h2)
 ·exact .of_right (intBits_le_64 h1 h2)
theorem cZ:yb X (binaryOp .Add) (Vf λi j=>.int (i+j)):=Zb λ_ _ _ _ _ _ _ q=>add_int q
theorem cW:yb X (binaryOp .Sub) (Vf λi j=>.int (i-j)):=Zb λ_ _ _ _ _ _ _ q=>sub_int q
theorem J8:yb X (binaryOp .Mult) (rI WM λi j=>.int (i*j)):=opI λ_ _ _ _ _ _ _ hc q=>mul_int q hc.ok
theorem BV:yb X (binaryOp .Mod) (rI (λ_ j=>0<j) λi j=>.int (i % j)):=opI λi j _ _ _ _ _ hc q=>by
 have h1:(0:Int)<j:=hc;exact mod_int' (by lia) (by rw[Int.fmod_eq_emod_of_nonneg i (by lia)];exact q)
theorem Pr:yb X (binaryOp .Pow) (rI acr λi j=>.int (i^j.toNat)):=opI λ_ _ _ _ _ _ _ hc q=>pow_int_small hc.1 hc.2.1 hc.2.2 q
theorem unI{f:Value->Sem Value}{g:Int->Int}
  (rule:∀ (i:Int) (t:Tok) (s:Shared) (Q:Value->Shared->Prop) (E:Value->Shared->Prop),Q (.int (g i) s.toks) { s with toks:=s.toks+1 }->wpAny (model X.prog X.w) X.A (f (.int i t)) Q E s) :
  UnR X f (rU λi=>.int (g i)):=by
 intro ao s σ H x v Q I rx h;obtain⟨i,rfl,q⟩:=h;obtain⟨t,rfl⟩:=rx;exact rule i t s _ _ ⟨.int (g i),H,I.tok _,⟨_,rfl⟩,q⟩
theorem j7:UnR X (unaryOp .USub) (rU λi=>.int (-i)):=unI λ_ _ _ _ _ q=>neg_int q
end
def Zc:V->V->Bool
 | .jj,.jj=>true | .jj,.int _=>true | .int _,.jj=>true | .jj,.bl _=>true | .bl _,.jj=>true | .jj,.str _=>true | .str _,.jj=>true
 | .int _,.int _=>true | .bl _,.bl _=>true | .str _,.str _=>true | .JX _,.JX _=>true
 | .int _,.str _=>true | .str _,.int _=>true | .bl _,.str _=>true | .str _,.bl _=>true
 | _,_=>false
def rEq:R2:=λx y H Q=>Zc x y=true/\Q (.bl (decide (x=y))) H
def rNe:R2:=λx y H Q=>Zc x y=true/\Q (.bl (!decide (x=y))) H
theorem LI{i j:Int}:decide (V.int i=V.int j)=(i == j):=by
 rw[Bool.eq_iff_iff];simp
theorem Pu{i j:Bool}:decide (V.bl i=V.bl j)=(i == j):=by
 rw[Bool.eq_iff_iff];simp
theorem LJ{i j:Str}:decide (V.str i=V.str j)=(i == j):=by
 rw[Bool.eq_iff_iff];simp
theorem LK{i j:Array UInt8}:decide (V.JX i=V.JX j)=(i.toList == j.toList):=by
 rw[Bool.eq_iff_iff];cases i;cases j;simp
section
variable {X:Cx} {a b c:Expr} {ta tb tc:TE} {pos:Pos}
theorem ef{σ:St}{H:Hp}{s:Shared}{Q:VK}{k k':Bool}(I:Inv X ao σ H s)(q:Q (.bl k) H)(e:k=k'):EP X ao σ Q (.bool k') s:=by
 subst e;exact⟨.bl k,H,I,rfl,q⟩
theorem gj:yb X (compareOp .Eq) rEq:=by
 intro ao s σ H x y v u Q I rx ry h;obtain⟨hs,q⟩:=h
 cases x with
 | jj =>
  cases rx
  cases y with
  | jj=>cases ry;exact PySem.EqNone.eq_none_none (ef I q (by simp))
  | bl j=>cases ry;exact PySem.EqNone.eq_none_bool (ef I q (by simp))
  | int j=>obtain⟨t',rfl⟩:=ry;exact PySem.EqNone.eq_none_int (ef I q (by simp))
  | str j=>obtain⟨t',rfl⟩:=ry;exact PySem.EqNone.eq_none_str (ef I q (by simp))
  | _=>exact absurd (show false=true from hs) jQ
 | bl i =>
  cases rx
  cases y with
  | jj=>cases ry;exact PySem.EqNone.eq_bool_none (ef I q (by simp))
  | bl j=>cases ry;exact eq_bool (ef I q Pu)
  | str j=>obtain⟨t',rfl⟩:=ry;exact PySem.EqMixed.eq_bool_str (ef I q (by simp))
  | _=>exact absurd (show false=true from hs) jQ
 | int i =>
  obtain⟨t,rfl⟩:=rx
  cases y with
  | jj=>cases ry;exact PySem.EqNone.eq_int_none (ef I q (by simp))
  | int j=>obtain⟨t',rfl⟩:=ry;exact eq_int (ef I q LI)
  | str j=>obtain⟨t',rfl⟩:=ry;exact PySem.EqMixed.eq_int_str (ef I q (by simp))
  | _=>exact absurd (show false=true from hs) jQ
 | str i =>
  obtain⟨t,rfl⟩:=rx
  cases y with
  | jj=>cases ry;exact PySem.EqNone.eq_str_none (ef I q (by simp))
  | bl j=>cases ry;exact PySem.EqMixed.eq_str_bool (ef I q (by simp))
  | int j=>obtain⟨t',rfl⟩:=ry;exact PySem.EqMixed.eq_str_int (ef I q (by simp))
  | str j=>obtain⟨t',rfl⟩:=ry;exact eq_str (ef I q LJ)
  | _=>exact absurd (show false=true from hs) jQ
 | JX i =>
  obtain⟨t,rfl⟩:=rx
  cases y with
  | JX j=>obtain⟨t',rfl⟩:=ry;exact PySem.W.eq_bytes (ef I q LK)
  | _=>exact absurd (show false=true from hs) jQ
 | _=>cases y <;> exact absurd (show false=true from hs) jQ
theorem Ht:yb X (compareOp .NotEq) rNe:=by
 intro ao s σ H x y v u Q I rx ry h;obtain⟨hs,q⟩:=h
 cases x with
 | jj =>
  cases rx
  cases y with
  | jj=>cases ry;exact PySem.EqNone.ne_none_none (ef I q (by simp))
  | bl j=>cases ry;exact PySem.EqNone.ne_none_bool (ef I q (by simp))
  | int j=>obtain⟨t',rfl⟩:=ry;exact PySem.EqNone.ne_none_int (ef I q (by simp))
  | str j=>obtain⟨t',rfl⟩:=ry;exact PySem.EqNone.ne_none_str (ef I q (by simp))
  | _=>exact absurd (show false=true from hs) jQ
 | bl i =>
  cases rx
  cases y with
  | jj=>cases ry;exact PySem.EqNone.ne_bool_none (ef I q (by simp))
  | bl j=>cases ry;exact ne_bool (ef I q (congrArg not Pu))
  | str j=>obtain⟨t',rfl⟩:=ry;exact PySem.EqMixed.ne_bool_str (ef I q (by simp))
  | _=>exact absurd (show false=true from hs) jQ
 | int i =>
  obtain⟨t,rfl⟩:=rx
  cases y with
  | jj=>cases ry;exact PySem.EqNone.ne_int_none (ef I q (by simp))
  | int j=>obtain⟨t',rfl⟩:=ry;exact ne_int (ef I q (congrArg not LI))
  | str j=>obtain⟨t',rfl⟩:=ry;exact PySem.EqMixed.ne_int_str (ef I q (by simp))
  | _=>exact absurd (show false=true from hs) jQ
 | str i =>
  obtain⟨t,rfl⟩:=rx
  cases y with
  | jj=>cases ry;exact PySem.EqNone.ne_str_none (ef I q (by simp))
  | bl j=>cases ry;exact PySem.EqMixed.ne_str_bool (ef I q (by simp))
  | int j=>obtain⟨t',rfl⟩:=ry;exact PySem.EqMixed.ne_str_int (ef I q (by simp))
  | str j=>obtain⟨t',rfl⟩:=ry;exact ne_str (ef I q (congrArg not LJ))
  | _=>exact absurd (show false=true from hs) jQ
 | JX i =>
  obtain⟨t,rfl⟩:=rx
  cases y with
  | JX j=>obtain⟨t',rfl⟩:=ry;exact PySem.W.ne_bytes (ef I q (congrArg not LK))
  | _=>exact absurd (show false=true from hs) jQ
 | _=>cases y <;> exact absurd (show false=true from hs) jQ
theorem rL:yb X (compareOp .Lt) (Vf λi j=>.bl (decide (i<j))):=Te λ_ _ _ _ _ _ _ q=>lt_int q
theorem jm:yb X (compareOp .LtE) (Vf λi j=>.bl (decide (i<=j))):=Te λ_ _ _ _ _ _ _ q=>le_int q
theorem BW:yb X (compareOp .Gt) (Vf λi j=>.bl (decide (j<i))):=Te λ_ _ _ _ _ _ _ q=>gt_int q
theorem Vg:yb X (compareOp .GtE) (Vf λi j=>.bl (decide (j<=i))):=Te λ_ _ _ _ _ _ _ q=>ge_int q
theorem bw(b:Expr){op:CmpOp}(h:op≠.In:=by decide)(h2:op≠.NotIn:=by decide):behindInMarks op b=false:=by
 have e1:(op == CmpOp.In)=false:=by cases op <;> first|rfl|exact absurd rfl h
 have e2:(op == CmpOp.NotIn)=false:=by cases op <;> first|rfl|exact absurd rfl h2
 cases b <;> simp[behindInMarks,e1,e2]
theorem lZ{op:CmpOp}{r:R2}(ho:yb X (compareOp op) r)(ha:PE X a ta)(hb:PE X b tb)(hm:behindInMarks op b=false):PE X (.Compare a [op] [b] pos) (Za r ta tb):=by
 intro ao s σ H Q I h;exact wpAny_Compare1 (WL ha hb I h λv u s2 x y H2 I2 rx ry q=>ho ao s2 σ H2 x y v u Q I2 rx ry q) hm
def Vh(t:TE):TT:=fun σ H Q=>t σ H λx H'=>isB x H' Q
theorem aZ{op:CmpOp}{r:R2}(ho:yb X (compareOp op) r)(ha:PE X a ta)(hb:PE X b tb)(hm:behindInMarks op b=false):PT X (.Compare a [op] [b] pos) (Vh (Za r ta tb)):=by
 intro ao s σ H Q I h
 refine wpAny_isTrue_Compare1 (dB (ha ao s σ H _ I h) λv s1 ⟨x,H1,I1,r1,q1⟩=>dB (hb ao s1 σ H1 _ I1 q1) λu s2 ⟨y,H2,I2,r2,q2⟩ =>
  dB (ho ao s2 σ H2 x y v u _ I2 r1 r2 q2) λc s3 ⟨z,H3,I3,r3,k,e,q3⟩=>?_) hm
 subst e;cases r3;exact wpAny_truthy_bool ⟨H3,I3,q3⟩
def WN(r r':R2)(ta tb tc:TE):TE:=fun σ H Q=>ta σ H λx H1=>tb σ H1 λy H2=>r x y H2 λz H3=>∃ k,z=.bl k/\
 (if k=true then tc σ H3 λw' H4=>r' y w' H4 Q else Q (.bl false) H3)
theorem yK{op Fw:CmpOp}{r r':R2}(ho:yb X (compareOp op) r)(GW:yb X (compareOp Fw) r')(ha:PE X a ta)(hb:PE X b tb)(hc:PE X c tc)
  (hm:lastMarks [op,Fw] [b,c]=false:=by with_unfolding_all rfl):PT X (.Compare a [op,Fw] [b,c] pos) (Vh (WN r r' ta tb tc)):=by
 intro ao s σ H Q I h
 refine isTrue_chain (dB (ha ao s σ H _ I h) λv s1 ⟨x,H1,I1,r1,q1⟩=>test_link (dB (hb ao s1 σ H1 _ I1 q1) λu s2 ⟨y,H2,I2,r2,q2⟩ =>
  dB (ho ao s2 σ H2 x y v u _ I2 r1 r2 q2) λd s3 ⟨z,H3,I3,r3,k,e,q3⟩=>?_)) hm
 subst e;cases r3;refine wpAny_truthy_bool ?_
 cases k with
 | false =>
  obtain⟨k',e',q'⟩:=q3;cases e';exact ite_ff ⟨H3,I3,q'⟩
 | true =>
  refine ite_tt (test_last (dB (hc ao s3 σ H3 _ I3 q3) λw' s4 ⟨z',H4,I4,r4,q4⟩=>dB (GW ao s4 σ H4 y z' u w' _ I4 r2 r4 q4) λd' s5 Ho=>?_));obtain⟨z2,H5,I5,r5,k2,e2,q5⟩:=Ho;subst e2;cases r5;exact wpAny_truthy_bool ⟨H5,I5,q5⟩
def Zd(K:Frag)(x:V)(H:Hp)(k:Bool):Prop :=
 match x with
 | .jj=>k=false
 | .bl b=>k=b
 | .int i=>k=(i != 0)
 | .str y=>y.length<=sizeLine/\k=((y.length:Int) != 0)
 | .JX y=>y.size<=sizeLine/\k=((y.size:Int) != 0)
 | .ref p=>(∃ xs,bM K H p xs/\k=!xs.isEmpty)\/(∃ xs,d8 K H p xs/\k=!xs.isEmpty)\/∃ kvs,H p=some (.dK kvs)/\k=!kvs.isEmpty
 | _=>False
theorem J9{κ:Type}{kvs:List (κ × V)}{vs:List (κ × Value)}(r:KV kvs vs):(!vs.isEmpty)=!kvs.isEmpty:=by
 cases r <;> rfl
theorem BX{xs:List V}{aP:List Value}(r:cH xs aP):(!aP.toArray.isEmpty)=!xs.isEmpty:=by
 cases r <;> simp
theorem zK:(sizeLine:Nat)<2^63:=by rw[sizeLine_eq];decide
theorem WO:acq X (λx H Q=>∃ k,Zd X.K x H k/\Q k H):=by
 intro ao s σ H x v Q I rx h;obtain⟨k,e,q⟩:=h;have hl:=zK;have hs:sizeLine=16777216:=sizeLine_eq
 cases x with
 | jj =>
  cases rx;have e':k=false:=e;subst e';exact truthy_none ⟨H,I,q⟩
 | bl b =>
  cases rx;have e':k=b:=e;subst e';exact wpAny_truthy_bool ⟨H,I,q⟩
 | int i =>
  obtain⟨t,rfl⟩:=rx;have e':k=(i != 0):=e;subst e';exact PySem.P.truthy_int ⟨H,I,q⟩
 | str y =>
  obtain⟨t,rfl⟩:=rx;obtain⟨hy,e'⟩:y.length<=sizeLine/\k=((y.length:Int) != 0):=e;subst e';exact PySem.P.truthy_str (by lia) ⟨H,I.tok _,q⟩
 | JX y =>
  obtain⟨t,rfl⟩:=rx;obtain⟨hy,e'⟩:y.size<=sizeLine/\k=((y.size:Int) != 0):=e;subst e';exact PySem.W.truthy_bytes (by lia) ⟨H,I.tok _,q⟩
 | ref p =>
  cases rx;have e':(∃ xs,bM X.K H p xs/\k=!xs.isEmpty)\/(∃ xs,d8 X.K H p xs/\k=!xs.isEmpty)\/∃ kvs,H p=some (.dK kvs)/\k=!kvs.isEmpty:=e;rcases e' with ⟨xs,hx,e'⟩|⟨xs,hx,e'⟩|⟨kvs,hx,e'⟩
  ·subst e';obtain⟨aP,r,pl,hz⟩:=I.list hx;have ff:=r.length;exact wpAny_truthy_list pl.isList (by simp only[jX];lia) ⟨H,I.tok _,by rw[BX r];exact q⟩
  ·subst e';obtain⟨aP,r,pl,hz⟩:=I.tuple hx;have ff:=r.length;exact truthy_tuple pl (by simp only[jX];lia) ⟨H,I.tok _,by rw[BX r];exact q⟩
  ·subst e';obtain⟨hz,hS,vs,r,m⟩:kvs.length<=sizeLine/\(p == sysModules)=false/\∃ vs,KV kvs vs/\s.heap.DictOf (iA X.prog X.w) p vs:=I.hok p _ hx;have ff:kvs.length=vs.length:=Paired.length r;exact wpAny_truthy_dict hS m (by lia) ⟨H,I.tok _,by rw[J9 r];exact q⟩
 | _=>exact (show False from e).elim
theorem ng(ha:PE X a ta)(he:∀ BQ,isTrue a X.env BQ=(do let v ← BQ;standAt a.pos;holding [v] (truthy v))) :
  PT X a (fun σ H Q=>ta σ H λx H'=>∃ k,Zd X.K x H' k/\Q k H'):=by
 intro ao s σ H Q I h;exact isTrue_plain (dB (ha ao s σ H _ I h) λv s1 ⟨x,H1,I1,r1,q1⟩=>WO ao s1 σ H1 x v Q I1 r1 q1) (he _)
theorem vals1{x:V}{us:List Value}(r:cH [x] us):∃ u,us=[u]/\RelV x u:=by
 cases r with
 | cons r1 r2=>cases r2;exact⟨_,rfl,r1⟩
theorem vals2{x y:V}{us:List Value}(r:cH [x,y] us):∃ u w',us=[u,w']/\RelV x u/\RelV y w':=by
 cases r with
 | cons r1 r2 =>
  cases r2 with
  | cons r3 r4=>cases r4;exact⟨_,_,rfl,r1,r3⟩
theorem wI(hc:X.calm=true):pS X (.builtin "max") (λxs H Q=>∃ i j,xs=[.int i,.int j]/\Q (.int (if j > i then j else i)) H):=by
 intro ao s σ H xs us Q I r h;obtain⟨i,j,rfl,q⟩:=h;obtain⟨u,w',rfl,⟨t,rfl⟩,⟨t',rfl⟩⟩:=vals2 r;refine max_two_ints (I.ok.hd hc) λh' tk k=>⟨_,H,I.kept k,?_,q⟩;by_cases hj:j > i
 ·rw[if_pos hj,if_pos hj];exact⟨_,rfl⟩
 ·rw[if_neg hj,if_neg hj];exact⟨_,rfl⟩
theorem ue(hc:X.calm=true):pS X (.builtin "min") (λxs H Q=>∃ i j,xs=[.int i,.int j]/\Q (.int (if j<i then j else i)) H):=by
 intro ao s σ H xs us Q I r h;obtain⟨i,j,rfl,q⟩:=h;obtain⟨u,w',rfl,⟨t,rfl⟩,⟨t',rfl⟩⟩:=vals2 r;refine min_two_ints (I.ok.hd hc) λh' tk k=>⟨_,H,I.kept k,?_,q⟩;by_cases hj:j<i
 ·rw[if_pos hj,if_pos hj];exact⟨_,rfl⟩
 ·rw[if_neg hj,if_neg hj];exact⟨_,rfl⟩
end
end L2
namespace L2
open Spec Rows
structure Ka(h:Heap)(x dx C:Addr)(mA:Str->Option Value):Prop where
 obj:h.get? x=some (instObj C dx)
 ns:h.Ns1 dx mA
 ne:dx≠x
theorem Nt{h:Heap}{dx:Addr}{mA:Str->Option Value}(n:h.Ns1 dx mA):∃ od,h.get? dx=some od/\∀ name,lookIn name od=some (mA name):=by
 obtain⟨o,es,ep,ho,hd,hk,_,hm⟩:=n;refine⟨o,ho,λname=>?_⟩;have e:=hm name;unfold nsFind findBy at e;rw[← Array.find?_toList]at e;unfold lookIn;rw[hd];dsimp only;split
 ·rename_i y q;rw[q]at e;exact congrArg some e
 ·rename_i q;rw[q]at e
  have a:es.toList.any (·.refKey)=false:=by
   rw[List.any_eq_false];intro y hy;obtain⟨z,t,hkey⟩:=hk y (Array.mem_toList_iff.mp hy);simp[DictEntry.refKey,hkey]
  have a':¬ es.toList.any (·.refKey)=true:=by rw[a];exact jQ
  rw[if_neg a'];exact congrArg some e
theorem Ka.look{h:Heap}{x dx:Addr}{mA:Str->Option Value}(I:Ka h x dx C mA):∃ od,InstAt h x (instObj C dx) C (some od)/\∀ name,lookIn name od=some (mA name) :=
 let ⟨od,ho,hl⟩:=Nt I.ns
 ⟨od,⟨I.obj,rfl,rfl,ho⟩,hl⟩
section
variable {prog:Program} {w:World} {A:Around} {E:Value->Shared->Prop} {s:Shared} {K:Frag} {x dx C f:Addr} {mA:Str->Option Value} {name:Str} {v:Value}
theorem Tf{acs:Bool}{Q:Value->Shared->Prop}(X:K.In s.heap)(I:Ka s.heap x dx C mA)(hg:plainGet K C name=true)(hh:hasDictIn K C=true)
  (ha:findIn K (.ref C) name=some none) (hv:mA name=some v) (hv':handedIn v=true) (h:Q v { s with toks:=s.toks+1 }) :
  wpAny (model prog w) A (getAttr (.ref x) name acs) Q E s:=by
 obtain⟨od,J,hl⟩:=I.look;exact PySem.W.get_value X J (plainGet_of hg).1 (PySem.W.findObj_own hh ha rfl (by rw[hl,hv])) hv' h
theorem Px{pl:Sem Bool}{Q:Value × List Value->Shared->Prop}(X:K.In s.heap)(I:Ka s.heap x dx C mA)(hg:plainGet K C name=true)
  (hf:findIn K (.ref C) name=some (some (.ref f))) (ht:isFn K (.ref f)=true) (hv:mA name=none) (h:Q (.ref f,[.ref x]) s) :
  wpAny (model prog w) A (getMethod (.ref x) name pl) Q E s:=by
 obtain⟨od,J,hl⟩:=I.look;exact PySem.W.method_fn X J (plainGet_of hg).1 (plainGet_of hg).2 hf (beq_iff_eq.mp ht) (by show (lookIn name od).map (·.isSome)=some false;rw[hl,hv];rfl) h
theorem Tg{ns:List Str}{Q:Unit->Shared->Prop}(X:K.In s.heap)(I:Ka s.heap x dx C mA)
  (hs:findIn K (.ref C) "__setattr__"=some (some (.builtin "object.__setattr__"))) (hp:plainOver K C=true) (ht:takerIn K C name=some none) (hh:hasDictIn K C=true)
  (hw:PySem.Within mA ns) (hsz:ns.length<=sizeLine)
  (h:∀ h',Ka h' x dx C (λy=>if y=name then some v else mA y)->Heap.SameBut dx s.heap h'->Q () { s with heap:=h',toks:=s.toks+2 }) :
  wpAny (model prog w) A (setAttr (.ref x) name v) Q E s:=by
 obtain⟨od,J,hl⟩:=I.look;refine PySem.W.set_plain X J hs (PySem.W.osa_open (s:={ s with toks:=s.toks+1 }) (r:=none) X J hp ht λb=>?_);obtain⟨cd,hc,Wx⟩:=PySem.W.any_some hh;have hx:s.heap.get? x=some ⟨.ref C,some dx,.plain,#[]⟩:=I.obj;refine wpAny_bind (wpAny_pure (wpAny_bind (wpAny_bind (wpAny_loadPart hx (wpAny_bind (PySem.W.Looks.here (s:={ s with toks:=s.toks+1 }) (PySem.W.looks_clsIn X hc) ?_))))));rw[Wx];refine wpAny_pure (a:=some dx) (wpAny_bind (wpAny_pure (wpAny_bind ?_)));refine wpAny_nsSet1 (s:={ s with toks:=s.toks+1 }) I.ns λh' hn2 GX=>?_;obtain⟨oD,esD,epD,hoD,hdD,hcD⟩:=hn2.count (PySem.Within.cons name v hw);refine wpAny_bind (wpAny_lookBehind hoD (by rw[hdD];exact pastItsLine_dict (jY hcD (by rw[oJ];lia))) ?_);exact wpAny_pure (h _ ⟨(GX.2 _ (Ne.symm I.ne)).trans I.obj,hn2,I.ne⟩ GX)
theorem Py{R:Result->Shared->Prop}{vs:List Value}{kw:List (Str × Value)}(X:K.In s.heap)(hm:makesIn K C=true)
  (hi:findIn K (.ref C) "__init__"=some (some (.ref f))) (hf:typeIn K (.ref f)=some (.type "function"))
  (h:codeAny (model prog w) (A.under (.builtin "type.__call__" ⟨.ref C::vs,kw⟩)) (.call (.ref f) ⟨.ref (s.heap.objs.size+1)::vs,kw⟩) (PySem.W.InitBack (s.heap.objs.size+1) R)
   { s with heap:=(s.heap.push emptyDict).push (instObj C s.heap.objs.size) }) :
  codeAny (model prog w) A (.call (.ref C) ⟨vs,kw⟩) R s:=by
 obtain⟨hh,g,d,t,os⟩:=s;exact PySem.W.make_core (PySem.W.makes_of X hm) (PySem.W.looks_findIn X hi) (λself=>PySem.W.bind_fn X self hf) (.inl rfl) h
end
def fH(f:Str)(v:V):List (Str × V)->List (Str × V)
 | []=>[(f,v)]
 | (g,x)::r=>if g=f then (g,v)::r else (g,x)::fH f v r
theorem AG(f g:Str)(v:V):∀ fs:List (Str × V),(fH f v fs).lookup g=if g=f then some v else fs.lookup g
 | []=>by
  show List.lookup g [(f,v)]=_;by_cases h:g=f
  ·have hb:(g == f)=true:=beq_iff_eq.mpr h;simp only[List.lookup,hb,if_pos h]
  ·have hb:(g == f)=false:=beq_eq_false_iff_ne.mpr h;simp only[List.lookup,hb,if_neg h]
 | (k,x)::r=>by
  have ih:=AG f g v r;rw[show fH f v ((k,x)::r)=(if k=f then (k,v)::r else (k,x)::fH f v r) from rfl];by_cases hk:k=f
  ·rw[if_pos hk];by_cases h:g=k
   ·have hb:(g == k)=true:=beq_iff_eq.mpr h;simp only[List.lookup,hb,if_pos (h.trans hk)]
   ·have hb:(g == k)=false:=beq_eq_false_iff_ne.mpr h;simp only[List.lookup,hb,if_neg (λe:g=f=>h (e.trans hk.symm))]
  ·rw[if_neg hk];by_cases h:g=k
   ·have hb:(g == k)=true:=beq_iff_eq.mpr h;simp only[List.lookup,hb,if_neg (λe:g=f=>hk (h.symm.trans e))]
   ·have hb:(g == k)=false:=beq_eq_false_iff_ne.mpr h;simp only[List.lookup,hb];exact ih
theorem zL(f:Str)(v:V):∀ fs:List (Str × V),f∈(fH f v fs).map (·.1)/\∀ g,g∈fs.map (·.1)->g∈(fH f v fs).map (·.1)
 | []=>⟨by simp[fH],λg h=>by simp at h⟩
 | (k,x)::r=>by
  obtain⟨i1,i2⟩:=zL f v r;rw[show fH f v ((k,x)::r)=(if k=f then (k,v)::r else (k,x)::fH f v r) from rfl];by_cases hk:k=f
  ·rw[if_pos hk];subst hk;exact⟨by simp,λg h=>by simpa using h⟩
  ·rw[if_neg hk];refine⟨?_,λg h=>?_⟩
   ·rw[oK];exact t6 _ i1
   ·rw[oK]at h ⊢;rcases List.mem_cons.mp h with e|e
    ·exact List.mem_cons.mpr (.inl e)
    ·exact t6 _ (i2 g e)
theorem AH(f:Str)(v:V):∀ fs:List (Str × V),(fH f v fs).length<=fs.length+1
 | []=>by simp[fH]
 | (k,x)::r=>by
  have ih:=AH f v r;rw[show fH f v ((k,x)::r)=(if k=f then (k,v)::r else (k,x)::fH f v r) from rfl];by_cases hk:k=f
  ·rw[if_pos hk,oJ,oJ];lia
  ·rw[if_neg hk,oJ,oJ];lia
theorem vE.some_of{v:V}{o:Option Value}(r:vE (some v) o):∃ u,o=some u/\RelV v u:=by
 cases o with
 | none=>exact (show False from r).elim
 | some u=>exact⟨u,rfl,r⟩
theorem vE.none_of{o:Option Value}(r:vE none o):o=none:=by
 cases o with
 | none=>rfl
 | some u=>exact (show False from r).elim
theorem Nu{v:V}{u:Value}(r:RelV v u):handedIn u=true:=by
 cases v with
 | jj=>cases (show u=Value.none from r);rfl
 | bl b=>cases (show u=Value.bool b from r);rfl
 | int i=>obtain⟨t,e⟩:=(show ∃ t,u=Value.int i t from r);cases e;rfl
 | str x=>obtain⟨t,e⟩:=(show ∃ t,u=Value.str x t from r);cases e;rfl
 | JX b=>obtain⟨t,e⟩:=(show ∃ t,u=Value.bytes b t from r);cases e;rfl
 | U7 b=>obtain⟨t,e⟩:=(show ∃ t,u=Value.float b t from r);cases e;rfl
 | ref a=>cases (show u=Value.ref a from r);rfl
 | ty n=>cases (show u=Value.type n from r);rfl
section
variable {P:Program} {w:World} {H H':Hp} {h h':Heap} {a C dx:Addr} {fs Yq:List (Str × V)}
theorem By(hok:yE P w H h)(e:H a=some (.ins C dx fs)):∃ mA,Ka h a dx C mA/\(∀ f,vE (fs.lookup f) (mA f))/\PySem.Within mA (fs.map (·.1))/\fs.length<=1000/\H dx=some (.own a):=by
 obtain⟨d,z,ne,ob,mA,n,r,q⟩:=(show jk P w H h a (.ins C dx fs) from hok a _ e);exact⟨mA,⟨ob,n,ne⟩,r,q,z,d⟩
end
structure Ek(K:Frag)(C:Addr):Prop where
 pg:plainGet K C Str.empty=true
 hd:hasDictIn K C=true
 po:plainOver K C=true
 sa:findIn K (.ref C) "__setattr__"=some (some (.builtin "object.__setattr__"))
theorem Ek.get{K:Frag}(c:Ek K C)(f:Str):plainGet K C f=true:=c.pg
def cI(K:Frag)(C:Addr)(f:Str):Prop:=findIn K (.ref C) f=some none
theorem cI.Ze{K:Frag}{f:Str}(n:cI K C f):takerIn K C f=some none:=by
 unfold takerIn;rw[show findIn K (.ref C) f=some none from n];rfl
structure Pz(K:Frag)(C:Addr)(m:Str)(f:Addr):Prop where
 at_:findIn K (.ref C) m=some (some (.ref f))
 fn:isFn K (.ref f)=true
 kp:keepIn K (.ref f)=true
section
variable {X:Cx} {ao:List (Addr × Obj)} {σ:St} {H:Hp} {s:Shared} {a C dx:Addr} {fs:List (Str × V)} {f:Str} {v:V} {A:Around} {E:Value->Shared->Prop}
theorem BY{b:Bool}{Q:Value->Shared->Prop}(I:Inv X ao σ H s)(e:H a=some (.ins C dx fs))(c:Ek X.K C)(n:cI X.K C f)(l:fs.lookup f=some v)
  (h:∀ u s',Inv X ao σ H s'->RelV v u->Q u s'):wpAny (model X.prog X.w) A (getAttr (.ref a) f b) Q E s:=by
 obtain⟨mA,O,r,_,_,_⟩:=By I.hok e;obtain⟨u,hu,ru⟩:=vE.some_of (v:=v) (o:=mA f) (by rw[← l];exact r f);exact Tf I.AF O (c.get f) c.hd n hu (Nu ru) (h u _ (I.tok _) ru)
theorem BZ{m:Str}{pl:Sem Bool}{Q:Value × List Value->Shared->Prop}(I:Inv X ao σ H s)(e:H a=some (.ins C dx fs))(c:Ek X.K C)(k:Pz X.K C m g)(l:fs.lookup m=none)
  (h:Q (.ref g,[.ref a]) s):wpAny (model X.prog X.w) A (getMethod (.ref a) m pl) Q E s:=by
 obtain⟨mA,O,r,_,_,_⟩:=By I.hok e;have hn:mA m=none:=vE.none_of (by rw[← l];exact r m);exact Px I.AF O (c.get m) k.at_ k.fn hn h
theorem B0{y:V}{u:Value}{Q:Unit->Shared->Prop}(I:Inv X ao σ H s)(e:H a=some (.ins C dx fs))(c:Ek X.K C)(n:cI X.K C f)(hl:fs.length<1000)(ry:RelV y u)
  (h:∀ s',Inv X ao σ (aN H a (.ins C dx (fH f y fs))) s'->Q () s'):wpAny (model X.prog X.w) A (setAttr (.ref a) f u) Q E s:=by
 obtain⟨mA,O,r,wi,_,ho⟩:=By I.hok e;have hz:(fs.map (·.1)).length<=sizeLine:=by rw[cR,sizeLine_eq];lia
 refine Tg I.AF O c.sa c.po n.Ze c.hd wi hz λh' O' sb=>h _ ?_;have hd:∃ o,h'.get? dx=some o:=let ⟨o,_,_,e',_⟩:=O'.ns;⟨o,e'⟩;refine I.write (x:=a) (e:=dx) (by rw[e];exact True.intro) (.inr ho) (λb q hb z=>(sb.2 b hb).trans z) hd ?_;refine⟨by rw[aH O.ne];exact ho,?_,O.ne,O'.obj,_,O'.ns,λg=>?_,λg hg=>?_⟩
 ·have:=AH f y fs;lia
 ·show vE ((fH f y fs).lookup g) (if g=f then some u else mA g);rw[AG];by_cases q:g=f
  ·rw[if_pos q,if_pos q];exact ry
  ·rw[if_neg q,if_neg q];exact r g
 ·by_cases q:g=f
  ·rw[q];exact (zL f y fs).1
  ·refine (zL f y fs).2 g (wi g λz=>hg ?_);show (if g=f then some u else mA g)=none;rw[if_neg q];exact z
theorem Inv.made(I:Inv X ao σ H s):Inv X ao σ (aN (aN H s.heap.objs.size (.own (s.heap.objs.size+1))) (s.heap.objs.size+1) (.ins C s.heap.objs.size []))
  { s with heap:=(s.heap.push emptyDict).push (instObj C s.heap.objs.size) }:=by
 have e1:(s.heap.push emptyDict).get? s.heap.objs.size=some emptyDict:=Heap.get?_push_size s.heap rfl
 have e2:((s.heap.push emptyDict).push (instObj C s.heap.objs.size)).get? (s.heap.objs.size+1)=some (instObj C s.heap.objs.size):=by
  have:=Heap.get?_push_size (s.heap.push emptyDict) (o:=instObj C s.heap.objs.size) rfl;rwa [Heap.size_push]at this
 have e3:(s.heap.push emptyDict).Ns s.heap.objs.size (λ_=>none):=⟨emptyDict,#[],_,e1,rfl,(λe he=>absurd he (by simp)),λ_=>rfl⟩;have I1:=I.laid (a:=s.heap.objs.size) (o:=.own (s.heap.objs.size+1)) (h':=s.heap.push emptyDict) (t':=s.toks) (λb u q=>Heap.get?_push_of_some _ q) (iT _) ⟨_,e1⟩;refine I1.laid (a:=s.heap.objs.size+1) (o:=.ins C s.heap.objs.size []) (t':=s.toks) (λb u q=>Heap.get?_push_of_some _ q) (Nat.le_of_eq (Heap.size_push _ _)) ?_;have ne:s.heap.objs.size≠s.heap.objs.size+1:=pR (Nat.lt_succ_self _);refine⟨by rw[aH ne,af],qA _,ne,e2,λ_=>none,(Heap.Ns1.of_empty e3).at λo q=>Heap.get?_push_of_some _ q,λ_=>True.intro,λy hy=>absurd rfl hy⟩
theorem Th{prog:Program}{w:World}{env:Env}{e:Expr}{f:Str}{s:Shared}{Q:Value->Shared->Prop}(hb:attributeBase e f env (eval e env)=eval e env)
  (h:wpAny (model prog w) A (eval e env) (λo s₁=>wpAny (model prog w) A (getAttr o f true) Q E s₁) E s):wpAny (model prog w) A (eval (.Attribute e f pos) env) Q E s :=
 Attribute_any_ h (by rw[arm_eval_Attribute,hb])
end
inductive Zf(K:Frag)(f:Str)(x:V)(H:Hp)(Q:VK):Prop
 | mk (a C dx:Addr) (fs:List (Str × V)) (v:V) (_:x=.ref a) (_:H a=some (.ins C dx fs)) (_:Ek K C) (_:cI K C f) (_:fs.lookup f=some v) (_:Q v H):Zf K f x H Q
def acu(K:Frag)(ta:TE)(f:Str):TE:=fun σ H Q=>ta σ H λx H1=>Zf K f x H1 Q
def acv(K:Frag)(ta tv:TE)(f:Str):TS:=λD σ H=>tv σ H λy H1=>ta σ H1 λx H2=>∃ a C dx fs,x=.ref a/\H2 a=some (.ins C dx fs)/\Ek K C/\cI K C f/\fs.length<1000/\
 D.nx σ (aN H2 a (.ins C dx (fH f y fs)))
def Zg(X:Cx)(op:Operator)(rd:V->V->Hp->VK->Prop):Prop :=
 ∀ (ao:List (Addr × Obj)) (s:Shared) (σ:St) (H:Hp) (x y:V) (u v:Value) (Q:VK),Inv X ao σ H s->RelV x u->RelV y v->rd x y H Q->wpAny (model X.prog X.w) X.A (inplaceOp op u v) (EP X ao σ Q) X.xe s
def Ti(K:Frag)(ta tv:TE)(rd:V->V->Hp->VK->Prop)(f:Str):TS:=λD σ H=>ta σ H λx H1=>∃ a C dx fs v,x=.ref a/\H1 a=some (.ins C dx fs)/\Ek K C/\cI K C f/\fs.lookup f=some v/\
 tv σ H1 λy H2=>rd v y H2 λz H3=>∃ dx' Yq,H3 a=some (.ins C dx' Yq)/\Yq.length<1000/\D.nx σ (aN H3 a (.ins C dx' (fH f z Yq)))
section
variable {X:Cx} {o e value:Expr} {f:Str} {pos lR DE:Pos} {ta tv:TE}
theorem fO(he:PE X e ta)(hb:attributeBase e f X.env (eval e X.env)=eval e X.env):PE X (.Attribute e f pos) (acu X.K ta f):=by
 intro ao s σ H Q I h;refine Th hb (dB (he ao s σ H _ I h) λu s1 Ft=>?_);obtain⟨x,H1,I1,rx,a,C,dx,fs,v,ex,ea,c,n,l,q⟩:=Ft;subst ex;obtain rfl:u=Value.ref a:=rx;exact BY I1 ea c n l λu' s2 I2 ru=>⟨v,H1,I2,ru,q⟩
theorem mz(ha:PE X o ta)(hv:PE X value tv)(hs:swapsWith value (some (.Attribute o f lR)) pos.line X.env=pure false):PS X (.Assign [.Attribute o f lR] value pos) (acv X.K ta tv f):=by
 intro ao s σ H D I h;refine plainObj_wpAny_Assign_Attribute (dB (hv ao s σ H _ I h) λu s1 h1=>?_) hs;obtain⟨y,H1,I1,ry,q⟩:=h1;refine dB (ha ao s1 σ H1 _ I1 q) λov s2 h2=>?_;obtain⟨x,H2,I2,rx,a,C,dx,fs,ex,ea,c,n,l,q2⟩:=h2;subst ex;obtain rfl:ov=Value.ref a:=rx;exact B0 I2 ea c n l ry λs3 I3=>⟨σ,_,I3,q2⟩
theorem zM{op:Operator}{rd:V->V->Hp->VK->Prop}(ha:PE X o ta)(hv:PE X value tv)(So:Zg X op rd):PS X (.AugAssign (.Attribute o f DE) op value pos) (Ti X.K ta tv rd f):=by
 intro ao s σ H D I h;refine wpAny_AugAssign_AttributeAny (dB (ha ao s σ H _ I h) λov s1 h1=>?_);obtain⟨x,H1,I1,rx,a,C,dx,fs,v,ex,ea,c,n,l,q⟩:=h1;subst ex;obtain rfl:ov=Value.ref a:=rx;refine BY I1 ea c n l λu s2 I2 ru=>dB (hv ao s2 σ H1 _ I2 q) λw3 s3 ⟨y,H2,I3,ry,q3⟩=>dB (So ao s3 σ H2 v y u w3 _ I3 ru ry q3) λw4 s4 J2=>?_;obtain⟨z,H3,I4,rz,dx',Yq,ea',l',q4⟩:=J2;exact B0 I4 ea' c n l' rz λs5 I5=>⟨σ,_,I5,q4⟩
end
section
variable {X:Cx} {ao:List (Addr × Obj)} {σ:St} {H:Hp} {s:Shared} {A:Around} {E:Value->Shared->Prop} {Q:Value->Shared->Prop} {c:Value} {b:Bool}
inductive pU(K:Frag)(H:Hp):V->Value->Prop where
 | jj:pU K H .jj (.type "NoneType")
 | bl (x:Bool):pU K H (.bl x) (.type "bool")
 | int (i:Int):pU K H (.int i) (.type "int")
 | str (x:Str):pU K H (.str x) (.type "str")
 | U7 (x:UInt64):pU K H (.U7 x) (.type "float")
 | lst {a:Addr} {xs:List V} (e:H a=some (.lst xs)):pU K H (.ref a) (.type "list")
 | Ly {a:Addr} {o:Obj} {xs:List V} (e:H a=some (.Ly o (.lst xs))):pU K H (.ref a) (.type "list")
 | tup {a:Addr} {xs:List V} (e:H a=some (.tup xs)):pU K H (.ref a) (.type "tuple")
 | dK {a:Addr} {kvs:List (iy × V)} (e:H a=some (.dK kvs)):pU K H (.ref a) (.type "dict")
 | dT {a:Addr} {kvs:List (List iy × V)} (e:H a=some (.dT kvs)):pU K H (.ref a) (.type "dict")
 | ins {a C dx:Addr} {fs:List (Str × V)} (e:H a=some (.ins C dx fs)) (cl:Ek K C) (ha:findIn K (.ref C) "__class__"=some (some (.builtin "object.__class__")))
   (hn:PySem.W.specialIn K (.builtin "object.__class__") "__get__"=some (some (.builtin "getset_descriptor.__get__"))) (htk:PySem.W.takesIn K (.builtin "object.__class__")=some true)
   (hm:mroIn K C (.type "object")=some true):pU K H (.ref a) (.ref C)
theorem Nv{x:V}{u t:Value}(I:Inv X ao σ H s)(rx:RelV x u)(ty:pU X.K H x t)(e:kitOne X.K t c=some b)(h:∀ tk,Q (.bool b) { s with toks:=tk }) :
  wpAny (model X.prog X.w) A (call (.builtin "isinstance") [u,c]) Q E s:=by
 cases ty with
 | jj=>cases (show u=Value.none from rx);exact kia_one PySem.W.kitx_none I.AF True.intro e (λz=>nomatch z) h
 | bl y=>cases (show u=Value.bool y from rx);exact kia_one PySem.W.kitx_bool I.AF True.intro e (λz=>nomatch z) h
 | int i=>obtain⟨t,q⟩:=(show ∃ t,u=Value.int i t from rx);cases q;exact kia_one PySem.W.kitx_int I.AF True.intro e (λz=>nomatch z) h
 | str y=>obtain⟨t,q⟩:=(show ∃ t,u=Value.str y t from rx);cases q;exact kia_one PySem.W.kitx_str I.AF True.intro e (λz=>nomatch z) h
 | U7 y=>obtain⟨t,q⟩:=(show ∃ t,u=Value.float y t from rx);cases q;exact kia_one PySem.W.kitx_float I.AF True.intro e (λz=>nomatch z) h
 | @lst a xs ea =>
  cases (show u=Value.ref a from rx);obtain⟨_,_,n,_,h1⟩:=(show jk X.prog X.w H s.heap a (.lst xs) from I.hok a _ ea);exact kia_one kitx_list I.AF ⟨_,h1,rfl⟩ e (λz=>nomatch z) h
 | @Ly a ob xs ea =>
  cases (show u=Value.ref a from rx);obtain⟨_,_,_,n,_,h1⟩:=(show jk X.prog X.w H s.heap a (.Ly ob (.lst xs)) from I.hok a _ ea);exact kia_one kitx_list I.AF ⟨_,h1,rfl⟩ e (λz=>nomatch z) h
 | @tup a xs ea =>
  cases (show u=Value.ref a from rx);obtain⟨_,_,_,p⟩:=(show jk X.prog X.w H s.heap a (.tup xs) from I.hok a _ ea);obtain⟨o,h1,h2,_⟩:=p;exact kia_one PySem.W.kitx_tuple I.AF ⟨o,h1,h2⟩ e (λz=>nomatch z) h
 | @dK a kvs ea =>
  cases (show u=Value.ref a from rx);obtain⟨_,_,vs,_,p⟩:=(show jk X.prog X.w H s.heap a (.dK kvs) from I.hok a _ ea);obtain⟨o,es,ep,h1,h2,_⟩:=p;exact kia_one kitx_dict I.AF ⟨o,h1,h2.1⟩ e (λz=>nomatch z) h
 | @dT a kvs ea =>
  cases (show u=Value.ref a from rx);obtain⟨_,_,xs,_,o,es,ep,h1,h2,_⟩:=(show jk X.prog X.w H s.heap a (.dT kvs) from I.hok a _ ea);exact kia_one kitx_dict I.AF ⟨o,h1,h2.1⟩ e (λz=>nomatch z) h
 | @ins a C dx fs ea cl ha hn htk hm =>
  cases (show u=Value.ref a from rx);obtain⟨mA,O,_⟩:=By I.hok ea;obtain⟨od,J,_⟩:=O.look;exact kia_one (PySem.W.kitx_own (cl.get _) cl.hd ha hn htk hm) I.AF J e (λz=>nomatch z) h
end
end L2
namespace L2
open Spec Rows
structure mC(k:Nat)(A:Around):Prop where
 hd:A.handled=none
 dp:A.depth+3*k+5<recursionLimit
 un:A.units+16*k+200<cLine
theorem mC.mono{j k:Nat}{A:Around}(r:mC k A)(h:j<=k):mC j A:=⟨r.hd,by have:=r.dp;lia,by have:=r.un;lia⟩
theorem mC.deeper{k:Nat}{A:Around}(r:mC (k+1) A)(env:Env):mC k (A.deeper env) :=
 ⟨r.hd,by have:=r.dp;show A.depth+1+3*k+5<_;lia,by have:=r.un;show A.units+3+16*k+200<_;lia⟩
theorem Kc{A:Around}{us:List Value}{kw:List (Str × Value)}:(A.under (.builtin "type.__call__" ⟨.ref C::us,kw⟩)).depth=A.depth+1:=by
 first|rfl|simp[Around.under,Code.weight,Code.isCreation,Code.isGuard,Code.isCaller,Code.frames,Code.isFrame,guardIds]
theorem Kd{A:Around}{us:List Value}{kw:List (Str × Value)}:(A.under (.builtin "type.__call__" ⟨.ref C::us,kw⟩)).units=A.units+1:=by
 first|rfl|simp[Around.under,Code.cUnits,Code.frames,Code.isFrame]
theorem mC.make{k:Nat}{A:Around}(r:mC (k+1) A)(C:Addr)(us:List Value)(kw:List (Str × Value)):mC k (A.under (.builtin "type.__call__" ⟨.ref C::us,kw⟩)) :=
 ⟨r.hd,by have:=r.dp;rw[Kc];lia,by have:=r.un;rw[Kd];lia⟩
theorem mC.depth{k:Nat}{A:Around}(r:mC k A):A.depth<recursionLimit:=by have:=r.dp;lia
theorem mC.units{k:Nat}{A:Around}(r:mC k A):A.units+64<cLine:=by have:=r.un;lia
def B3:TA:=λ_ H Q=>Q [] H
def PB(ta:TE)(tr:TA):TA:=fun σ H Q=>ta σ H λx H1=>tr σ H1 λxs H2=>Q (x::xs) H2
section
variable {X:Cx} {e:Expr} {es:List Expr} {te:TE} {t:TA} {pos:Pos}
theorem ah:PA X [] B3:=λ_ _ _ _ H Q I h=>Calls.spliced_nil ⟨[],H,I,.nil,h⟩
theorem aa(ha:PE X e te)(hr:PA X es t)(hs:starEach (e::es) X.env=(false,eval e X.env)::starEach es X.env:=by rfl):PA X (e::es) (PB te t):=by
 intro pos ao s σ H Q I h;rw[hs];show wpAny _ _ (spliced ((false,eval e X.env)::backTo pos (starEach es X.env))) _ _ s;refine Calls.spliced_cons (dB (ha ao s σ H _ I h) λu s1 J4=>?_);obtain⟨x,H1,I1,r1,q1⟩:=J4;exact dB (hr pos ao s1 σ H1 _ I1 q1) λus s2 ⟨xs,H2,I2,r2,q2⟩=>⟨x::xs,H2,I2,.cons r1 r2,q2⟩
def acy(t:TA):TE:=fun σ H Q=>t σ H λxs H1=>xs.length<=sizeLine/\∀ p,H1 p=none->Q (.ref p) (aN H1 p (.tup xs))
def Ny(t:TA):TE:=fun σ H Q=>t σ H λxs H1=>xs.length<=sizeLine/\∀ p,H1 p=none->Q (.ref p) (aN H1 p (.lst xs))
theorem c9{x1}(h:PA X es t):PE X (.Tuple es x1 pos) (acy t):=by
 intro ao s σ H Q I hq;refine wpAny_Tuple_spliced (dB (h pos ao s σ H _ I hq) λus s1 ⟨xs,H1,I1,r,z,q⟩=>⟨by rw[← r.length];exact z,?_⟩);have hf:H1 s1.heap.objs.size=none:=I1.hok.fresh (iT _);refine⟨.ref s1.heap.objs.size,aN H1 s1.heap.objs.size (.tup xs),I1.laid (t':=s1.toks) (λb u e=>Heap.get?_push_of_some _ e) (iT _) ?_,rfl,q _ hf⟩;exact⟨z,us,r,⟨_,Heap.get?_push_size _ rfl,rfl,_,rfl⟩⟩
theorem bK(h:PA X es t):PE X (.List es pos) (Ny t):=by
 intro ao s σ H Q I hq;refine wpAny_List_spliced (dB (h pos ao s σ H _ I hq) λus s1 ⟨xs,H1,I1,r,z,q⟩=>⟨by rw[← r.length];exact z,?_⟩);have hf:H1 s1.heap.objs.size=none:=I1.hok.fresh (iT _);refine⟨.ref s1.heap.objs.size,aN H1 s1.heap.objs.size (.lst xs),I1.laid (t':=s1.toks) (λb u e=>Heap.get?_push_of_some _ e) (iT _) ?_,rfl,q _ hf⟩;exact⟨z,us,0,r,Heap.get?_push_size _ rfl⟩
end
abbrev Sp:=List V->Hp->VK->XK->Prop
abbrev PD:=List Env->Hp->Shared->XK->Value->Shared->Prop
structure Ke(P:Program)(w:World)(K:Frag)(mg:Str->Option Value)(zt:Heap)(A:Around)(zn:List Env)(s:Shared)(H:Hp):Prop where
 frames:A.frames=some zn
 mod:Mod K mg zt
 bs:∀ b o,zt.get? b=some o->s.heap.get? b=some o/\H b=none
 Va:zt.objs.size<=s.heap.objs.size
 Be:s.heap.FunFrames zt zn
 Wv:∀ b∈Pf zn,H b=none
 hok:yE P w H s.heap
 bare:AllBare s.gens
def CE(zn:List Env)(P:Program)(w:World)(H:Hp)(s:Shared)(Q:VK)(u:Value)(s':Shared):Prop :=
 ∃ v H',s'.os=s.os/\AllBare s'.gens/\Un (Pf zn) [] H H' s.heap s'.heap/\yE P w H' s'.heap/\RelV v u/\Q v H'
def CR(CX:PD)(zn:List Env)(P:Program)(w:World)(H:Hp)(s:Shared)(Q:VK)(E:XK)(r:Result)(s':Shared):Prop :=
 match r with
 | .ok (.ret u)=>CE zn P w H s Q u s'
 | .ok _=>False
 | .error e=>CX zn H s E e s'
structure aF(P:Program)(w:World)(K:Frag)(mg:Str->Option Value)(zt:Heap)(CX:PD)(k:Nat)(f:Addr)(fd:FuncData)(ps:List Str)(sp:Sp):Prop where
 len:∀ vs H Q E,sp vs H Q E->vs.length=ps.length
 run:∀ (A:Around) (zn:List Env) (s:Shared) (H:Hp) (args:Args) (us:List Value) (vs:List V) (Q:VK) (E:XK),mC k A->Ke P w K mg zt A zn s H->BindsTo s fd args (ps.zip us)->cH vs us->sp vs H Q E->
  codeAny (model P w) A (.call (.ref f) args) (CR CX zn P w H s Q E) s
theorem Ke.make{P:Program}{w:World}{K:Frag}{mg:Str->Option Value}{zt:Heap}{A:Around}{zn:List Env}{s:Shared}{H:Hp}(e:Ke P w K mg zt A zn s H)(C:Addr)(us:List Value)(kw:List (Str × Value)) :
  Ke P w K mg zt (A.under (.builtin "type.__call__" ⟨.ref C::us,kw⟩)) zn s H:=⟨by first|exact e.frames|(simpa [Around.under,Code.envs,Code.isFrame,pushEnvs] using e.frames),e.mod,e.bs,e.Va,e.Be,e.Wv,e.hok,e.bare⟩
section
variable {X:Cx} {ao:List (Addr × Obj)} {σ:St} {H:Hp} {s s':Shared}
theorem Inv.Zh(I:Inv X ao σ H s):Ke X.prog X.w X.K X.mg X.zt X.A X.stack s H :=
 ⟨I.ok.frames,I.ok.mod,I.bs,jY I.ok.Va I.sz,I.stack,I.Lz,I.hok,I.bare⟩
theorem Inv.after{Q:VK}{u:Value}(I:Inv X ao σ H s)(h:CE X.stack X.prog X.w H s Q u s'):EP X ao σ Q u s':=by
 obtain⟨v,H',os,bare,un,hok,r,q⟩:=h;obtain⟨hh,g,d,t,os'⟩:=s';obtain rfl:os'=s.os:=os;exact⟨v,H',I.call (h':=hh) (g':=g) (d':=d) (t':=t) (ch:=[]) un hok bare (λb z=>absurd z (by simp)),r,q⟩
end
def LL(sp:Sp)(B4:List V)(E:XK)(t:TA):TE:=fun σ H Q=>t σ H λvs H1=>sp (vs++B4) H1 Q E
inductive Zi(C:Addr)(m:Str)(x:V)(H:Hp)(N:Prop):Prop
 | mk (a dx:Addr) (fs:List (Str × V)) (_:x=.ref a) (_:H a=some (.ins C dx fs)) (_:fs.lookup m=none) (_:N):Zi C m x H N
def LN(C:Addr)(m:Str)(sp:Sp)(B4:List V)(E:XK)(ta:TE)(t:TA):TE:=fun σ H Q=>ta σ H λx H1=>Zi C m x H1 (t σ H1 λvs H2=>sp (x::(vs++B4)) H2 Q E)
def Zj(C:Addr)(sp:Sp)(B4:List V)(E:XK)(t:TA):TE:=fun σ H Q=>t σ H λvs H1=>∀ x dx,H1 x=none->H1 dx=none->dx≠x->
 sp (.ref x::(vs++B4)) (aN (aN H1 dx (.own x)) x (.ins C dx [])) (λv H2=>v=.jj/\Q (.ref x) H2) E
def Binds(K:Frag)(fd:FuncData)(ps:List Str)(ds:List Value):Prop :=
 ∀ (s:Shared) (us:List Value),K.In s.heap->(us++ds).length=ps.length->BindsTo s fd ⟨us,[]⟩ (ps.zip (us++ds))
theorem Binds.all{K:Frag}{ps:List Str}(h:∀ us:List Value,us.length=ps.length->bindArgs fd ⟨us,[]⟩=pure (ps.zip us)):Binds K fd ps []:=λs us _ hl=>by
 rw[jH]at hl ⊢;exact .of_eq (h us hl)
def tQ(CX:PD)(X:Cx)(E:XK):Prop:=∀ (ao:List (Addr × Obj)) (σ:St) (H:Hp) (s:Shared) (e:Value) (s':Shared),Inv X ao σ H s->CX X.stack H s E e s'->X.xe e s'
section
variable {X:Cx} {CX:PD} {k:Nat} {f C:Addr} {fd:FuncData} {ps:List Str} {sp:Sp} {B4:List V} {ds:List Value} {E:XK} {x m:Str} {p pos oO:Pos} {e o:Expr} {es:List Expr} {ta:TE} {t:TA}
theorem Fx{σ:St}{H:Hp}{s:Shared}{Q:VK}{us:List Value}{vs:List V}(F:aF X.prog X.w X.K X.mg X.zt CX k f fd ps sp)(hr:mC k X.A)(hb:Binds X.K fd ps ds)(hd:cH B4 ds)(hx:tQ CX X E)
  (I:Inv X ao σ H s) (r:cH vs us) (h:sp (vs++B4) H Q E):wpAny (model X.prog X.w) X.A (call (.ref f) us) (EP X ao σ Q) X.xe s:=by
 have r2:cH (vs++B4) (us++ds):=r.append hd;have hl:(us++ds).length=ps.length:=by rw[← r2.length];exact F.len _ _ _ _ h
 refine wpAny_call (codeAny_mono (F.run X.A X.stack s H ⟨us,[]⟩ (us++ds) (vs++B4) Q E hr I.Zh (hb s us I.AF hl) r2 h) λr s' hq=>?_)
 cases r with
 | error e=>exact hx ao σ H s e s' I hq
 | ok fl =>
  cases fl with
  | ret u=>exact I.after hq
  | next=>exact False.elim hq
  | brk=>exact False.elim hq
  | cont=>exact False.elim hq
theorem LO(F:aF X.prog X.w X.K X.mg X.zt CX k f fd ps sp)(hr:mC k X.A)(hg:Gl X x)(hm:X.mg x=some (.ref f))(hk:keepIn X.K (.ref f)=true)(hb:Binds X.K fd ps ds)(hd:cH B4 ds)(hx:tQ CX X E)
  (ha:PA X (e::es) t) (Nz:(x == ("__debug__":Str))=false:=by decide) (he:starEach (e::es) X.env=(false,eval e X.env)::starEach es X.env:=by rfl) (GY:(backTo pos (starEach es X.env)).any (·.1)=false:=by rfl) :
  PE X (.Call (.Name x p) (e::es) [] pos) (LL sp B4 E t):=by
 intro ao s σ H Q I h;refine wpAny_Call_Name_kw (Bx I hg hm ?_ Nz);refine callWith_K (h₀:=X.zt) I.ok.mod.kin hk (dB (ha pos ao s σ H _ I h) λus s1 ⟨vs,H1,I1,r,q⟩=>⟨I1.AF,?_⟩) he GY;exact Fx F hr hb hd hx I1 r q
theorem PF(F:aF X.prog X.w X.K X.mg X.zt CX k f fd ps sp)(hr:mC k X.A)(hg:Gl X x)(hm:X.mg x=some (.ref f))(hk:keepIn X.K (.ref f)=true)(hb:Binds X.K fd ps ds)(hd:cH B4 ds)(hx:tQ CX X E)
  (Nz:(x == ("__debug__":Str))=false:=by decide):PE X (.Call (.Name x p) [] [] pos) (LL sp B4 E B3):=by
 intro ao s σ H Q I h;refine wpAny_Call_Name_kw (Bx I hg hm ?_ Nz);exact callWith_K0 I.AF hk (Fx (us:=[]) F hr hb hd hx I .nil h)
theorem Tj{pl:Sem Bool}(he:PE X o ta)(c:Ek X.K C)(hm:Pz X.K C m f)(F:aF X.prog X.w X.K X.mg X.zt CX k f fd ps sp)(hr:mC k X.A)(hb:Binds X.K fd ps ds)(hd:cH B4 ds)(hx:tQ CX X E)(ha:PA X (e::es) t)
  (Fv:starEach (e::es) X.env=(false,eval e X.env)::starEach es X.env:=by rfl) (GY:(backTo pos (starEach es X.env)).any (·.1)=false:=by rfl)
  (ht:eval (.Call (.Attribute o m oO) (e::es) [] pos) X.env=(do
   let ov ← eval o X.env
   standAt oO.atName
   let (f,first) ← holding [ov] (getMethod ov m pl)
   callWith pos f first (backTo pos (starEach (e::es) X.env)) (backToKw pos (keywordEach [] X.env))):=by rfl) :
  PE X (.Call (.Attribute o m oO) (e::es) [] pos) (LN C m sp B4 E ta t):=by
 intro ao s σ H Q I h;refine methodCall_KW (pl:=pl) (dB (he ao s σ H _ I h) λu s1 ⟨x,H1,I1,rx,a,dx,fs,ex,ea,l,q⟩=>?_) ht;subst ex;obtain rfl:u=Value.ref a:=rx;refine BZ I1 ea c hm l ?_
 refine callWith_K (first:=[.ref a]) (h₀:=X.zt) I.ok.mod.kin hm.kp (dB (ha pos ao s1 σ H1 _ I1 q) λus s2 ⟨vs,H2,I2,r,q2⟩=>⟨I2.AF,?_⟩) Fv GY
 exact Fx (us:=.ref a::us) (vs:=.ref a::vs) F hr hb hd hx I2 (.cons rfl r) q2
theorem PJ{pl:Sem Bool}(he:PE X o ta)(c:Ek X.K C)(hm:Pz X.K C m f)(F:aF X.prog X.w X.K X.mg X.zt CX k f fd ps sp)(hr:mC k X.A)(hb:Binds X.K fd ps ds)(hd:cH B4 ds)(hx:tQ CX X E)
  (ht:eval (.Call (.Attribute o m oO) [] [] pos) X.env=(do
   let ov ← eval o X.env
   standAt oO.atName
   let (f,first) ← holding [ov] (getMethod ov m pl)
   callWith pos f first (backTo pos (starEach [] X.env)) (backToKw pos (keywordEach [] X.env))):=by rfl) :
  PE X (.Call (.Attribute o m oO) [] [] pos) (LN C m sp B4 E ta B3):=by
 intro ao s σ H Q I h;refine methodCall_KW (pl:=pl) (dB (he ao s σ H _ I h) λu s1 ⟨x,H1,I1,rx,a,dx,fs,ex,ea,l,q⟩=>?_) ht;subst ex;obtain rfl:u=Value.ref a:=rx;refine BZ I1 ea c hm l ?_
 exact callWith_K0 (first:=[.ref a]) I1.AF hm.kp (Fx (us:=[.ref a]) (vs:=[.ref a]) F hr hb hd hx I1 (.cons rfl .nil) q)
structure Mk(K:Frag)(C f:Addr):Prop where
 makes:makesIn K C=true
 init:findIn K (.ref C) "__init__"=some (some (.ref f))
 fn:isFn K (.ref f)=true
 kp:keepIn K (.ref C)=true
theorem PK{σ:St}{H:Hp}{s:Shared}{Q:VK}{us:List Value}{vs:List V}(M:Mk X.K C f)(F:aF X.prog X.w X.K X.mg X.zt CX k f fd ps sp)(hr:mC (k+1) X.A)(hb:Binds X.K fd ps ds)(hd:cH B4 ds)
  (hx:tQ CX X E) (I:Inv X ao σ H s) (r:cH vs us)
  (h:∀ x dx,H x=none->H dx=none->dx≠x->sp (.ref x::(vs++B4)) (aN (aN H dx (.own x)) x (.ins C dx [])) (λv H2=>v=.jj/\Q (.ref x) H2) E) :
  wpAny (model X.prog X.w) X.A (call (.ref C) us) (EP X ao σ Q) X.xe s:=by
 have hq:=h (s.heap.objs.size+1) s.heap.objs.size (I.hok.fresh (Nat.le_succ _)) (I.hok.fresh (iT _)) (pR (Nat.lt_succ_self _));have I2:=Inv.made (C:=C) I;have r2:cH (V.ref (s.heap.objs.size+1)::(vs++B4)) (Value.ref (s.heap.objs.size+1)::(us++ds)):=.cons rfl (r.append hd)
 have hl:(Value.ref (s.heap.objs.size+1)::us++ds).length=ps.length:=by
  have e:=r2.length;rw[F.len _ _ _ _ hq]at e;exact e.symm
 refine wpAny_call (Py (f:=f) I.AF M.makes M.init (beq_iff_eq.mp M.fn) (codeAny_mono (F.run _ X.stack _ _ ⟨Value.ref (s.heap.objs.size+1)::us,[]⟩ (Value.ref (s.heap.objs.size+1)::(us++ds)) _ _ E (hr.make C us []) (I2.Zh.make C us []) (hb _ (Value.ref (s.heap.objs.size+1)::us) I2.AF hl) r2 hq) λr s' PL=>?_))
 cases r with
 | error e=>exact hx ao σ _ _ e s' I2 PL
 | ok fl =>
  cases fl with
  | ret u =>
   obtain⟨v,H',I3,rv,ev,q3⟩:=I2.after PL;subst ev;exact⟨rv,⟨V.ref (s.heap.objs.size+1),H',I3,rfl,q3⟩⟩
  | next=>exact False.elim PL
  | brk=>exact False.elim PL
  | cont=>exact False.elim PL
theorem uf(M:Mk X.K C f)(F:aF X.prog X.w X.K X.mg X.zt CX k f fd ps sp)(hr:mC (k+1) X.A)(hg:Gl X x)(hm:X.mg x=some (.ref C))(hb:Binds X.K fd ps ds)(hd:cH B4 ds)(hx:tQ CX X E)
  (Nz:(x == ("__debug__":Str))=false:=by decide):PE X (.Call (.Name x p) [] [] pos) (Zj C sp B4 E B3):=by
 intro ao s σ H Q I h;refine wpAny_Call_Name_kw (Bx I hg hm ?_ Nz);exact callWith_K0 I.AF M.kp (PK (us:=[]) M F hr hb hd hx I .nil h)
end
structure aL(N P:List Str)(sc:Scope):Prop where
 kind:sc.kind=.function
 co:sc.isCoroutine=false
 gen:sc.isGenerator=false
 nd:N.Nodup
 pre:N.take P.length=P
 par:∀ x∈P,sc.names.lookup x=some .local\/sc.names.lookup x=some .cell
 WQ:∀ y∈sc.names,y.2≠.free
theorem El{kindOf:Str->Option NameKind}{x:Str}:∀ {binds:List (Str × Value)} {m:Str->Option Value},(∀ v,(x,v)∉binds)->bindL kindOf binds m x=m x
 | [],_,_=>rfl
 | (n,v)::r,m,h=>by
  unfold bindL;rw[El λw hw=>h w (t6 _ hw)];split
  ·have:x≠n:=by rintro rfl;exact h v List.mem_cons_self
   simp[this]
  ·rfl
theorem Em{kindOf:Str->Option NameKind}{x:Str}:∀ {binds:List (Str × Value)} {m:Str->Option Value},(∀ v,(x,v)∉binds)->bindC kindOf binds m x=m x
 | [],_,_=>rfl
 | (n,v)::r,m,h=>by
  unfold bindC;rw[Em λw hw=>h w (t6 _ hw)];split
  ·rfl
  ·have:x≠n:=by rintro rfl;exact h v List.mem_cons_self
   simp[this]
theorem En{kindOf:Str->Option NameKind}{x:Str}{v:Value}:∀ {P:List Str} {vs:List Value} {i:Nat} {m:Str->Option Value},P.Nodup->P[i]?=some x->vs[i]?=some v->kindOf x=some .local->
  bindL kindOf (P.zip vs) m x=some v
 | [],_,_,_,_,h,_,_=>by simp at h
 | _::_,[],_,_,_,_,h,_=>by simp at h
 | p::P,w::vs,0,m,nd,h1,h2,hk=>by
  simp at h1 h2;subst h1;subst h2;show bindL kindOf ((p,w)::P.zip vs) m p=_;unfold bindL;rw[El λv hv=>(List.nodup_cons.mp nd).1 (List.of_mem_zip hv).1,if_pos hk];simp
 | p::P,w::vs,i+1,m,nd,h1,h2,hk=>by
  show bindL kindOf ((p,w)::P.zip vs) m x=_;unfold bindL;exact En (i:=i) (List.nodup_cons.mp nd).2 (by simpa using h1) (by simpa using h2) hk
theorem Eo{kindOf:Str->Option NameKind}{x:Str}{v:Value}:∀ {P:List Str} {vs:List Value} {i:Nat} {m:Str->Option Value},P.Nodup->P[i]?=some x->vs[i]?=some v->kindOf x≠some .local->
  bindC kindOf (P.zip vs) m x=some v
 | [],_,_,_,_,h,_,_=>by simp at h
 | _::_,[],_,_,_,_,h,_=>by simp at h
 | p::P,w::vs,0,m,nd,h1,h2,hk=>by
  simp at h1 h2;subst h1;subst h2;show bindC kindOf ((p,w)::P.zip vs) m p=_;unfold bindC;rw[Em λv hv=>(List.nodup_cons.mp nd).1 (List.of_mem_zip hv).1,if_neg hk];simp
 | p::P,w::vs,i+1,m,nd,h1,h2,hk=>by
  show bindC kindOf ((p,w)::P.zip vs) m x=_;unfold bindC;exact Eo (i:=i) (List.nodup_cons.mp nd).2 (by simpa using h1) (by simpa using h2) hk
def start(N:List Str)(vs:List V):St:=vs.map some++List.replicate (N.length-vs.length) none
def Kf(CX:PD)(P:Program)(w:World)(K:Frag)(mg:Str->Option Value)(zt:Heap)(N:List Str)(iR:Str)(scope:Scope)(f:Addr)(cd:Value)(A:Around)(zn:List Env)(s:Shared)(H:Hp)(E:XK):Cx where
 prog:=P
 w:=w
 K:=K
 mg:=mg
 zt:=zt
 A:=A.deeper (envOfC iR scope s.heap.objs.size f cd)
 N:=N
 s₀:=s
 H₀:=H
 env:=envOfC iR scope s.heap.objs.size f cd
 zn:=zn
 stack:=envOfC iR scope s.heap.objs.size f cd::zn
 ex:=[]
 calm:=true
 fn:=λ_=>true
 pn:=[]
 xe:=λe s'=>wpAny (model P w) (A.deeper (envOfC iR scope s.heap.objs.size f cd)) (leaving (envOfC iR scope s.heap.objs.size f cd) e) (λ_ s''=>CX zn H s E e s'') (λe' s''=>CX zn H s E e' s'') s'
theorem Hu{sc:Scope}{n:Nat}{x:Str}(h:sc.names.lookup x=some .cell):∃ c,(cellsFrom n sc.names []).lookup x=some c:=by
 have q:=cellsFrom_some sc.names n [] (.inl h);exact Option.isSome_iff_exists.mp q
theorem NB{CX:PD}{P:Program}{w:World}{K:Frag}{mg:Str->Option Value}{zt:Heap}{N ps:List Str}{iR:Str}{scope:Scope}{f:Addr}{cd:Value}{A:Around}{zn:List Env}{s s1:Shared}{H:Hp}{E:XK}{us:List Value}{vs:List V}
  (S:aL N ps scope) (hd:A.handled=none) (e0:Ke P w K mg zt A zn s H) (hl:vs.length=ps.length) (r:cH vs us)
  (x:InCallC s s.heap.objs.size (bindL (envOfC iR scope s.heap.objs.size f cd).kindOf (ps.zip us) λ_=>none) (cellsFrom (s.heap.objs.size+1) scope.names []) (bindC (envOfC iR scope s.heap.objs.size f cd).kindOf (ps.zip us) λ_=>none) s1) :
  Inv (Kf CX P w K mg zt N iR scope f cd A zn s H E) [] (start N vs) H s1:=by
 have GY:ps.length<=N.length:=by have:=congrArg List.length S.pre;rw[jG]at this;lia
 obtain⟨h1,tk,rfl,hk⟩:=x.done;have Zk:∀ b:Addr,b∉(Kf CX P w K mg zt N iR scope f cd A zn s H E).ex:=λb z=>absurd (show b∈([]:List Addr) from z) (by simp)
 refine⟨⟨e0.mod,S.kind,rfl,rfl,iT _,λy z c h1 h2=>?_,λy hy=>?_,λy c _ h=>?_,λ_=>hd,Around.frames_deeper e0.frames,.inr ⟨rfl,rfl⟩,λb z=>absurd z (Zk b),e0.bs,e0.Va,λb _ _=>Zk b,λb z=>absurd z (Zk b),e0.Be,e0.Wv⟩,
  rfl,e0.bare,Un.kept hk,⟨_,x.toInCall.ns,λi y v h1 h2 h3=>?_⟩,λy c h=>⟨_,x.cell y c h⟩,e0.hok.fresh (iT _),λy c h=>?_,λp hp=>absurd (show p∈([]:List (Addr × Obj)) from hp) (by simp),e0.hok.kept hk,?_⟩
 ·exact name_of_addr x.apart (PySem.mem_of_lookup h1) (PySem.mem_of_lookup h2)
 ·have hy:scope.names.lookup y=some .cell\/scope.names.lookup y=some .free:=hy;rcases hy with hy|hy
  ·exact Hu hy
  ·exact absurd rfl (S.WQ _ (PySem.mem_of_lookup hy))
 ·exact kY (x.above y c (PySem.mem_of_lookup h))
 ·have hi:i<vs.length:=by
   unfold start at h2;by_cases hi:i<vs.length
   ·exact hi
   ·rw[List.getElem?_append_right (by simpa using hi)]at h2;rw[List.getElem?_replicate]at h2
    split at h2 <;> cases h2
  have ha:vs[i]?=some v:=by
   unfold start at h2;rw[List.getElem?_append_left (by simpa using hi),j5]at h2
   cases e:vs[i]? with
   | none=>rw[e]at h2;cases h2
   | some a=>rw[e]at h2;cases h2;rfl
  obtain⟨u,hu,rv⟩:=r.get ha
  have hp:ps[i]?=some y:=by
   rw[← S.pre,List.getElem?_take_of_lt (by lia)];exact h1
  have ndP:ps.Nodup:=by rw[← S.pre];exact S.nd.sublist (List.take_sublist _ _)
  refine⟨u,rv,?_⟩;rcases S.par y (t7 hp) with k|k
  ·exact .inl ⟨k,En ndP hp hu k⟩
  ·obtain⟨c,e⟩:=Hu (n:=s.heap.objs.size+1) k;refine .inr ⟨.inl k,c,e,?_⟩;have q:=x.cell y c e;rw[Eo ndP hp hu (by show scope.names.lookup y≠_;rw[k];decide)]at q;exact q
 ·exact e0.hok.fresh (kY (x.above y c (PySem.mem_of_lookup h)))
 ·unfold start;show _=N.length;rw[dH,cR,BN];lia
theorem Zl{CX:PD}{P:Program}{w:World}{K:Frag}{mg:Str->Option Value}{zt:Heap}{k:Nat}{f:Addr}{name iR:Str}{params:Arguments}{scope:Scope}{dV kV AI pm dP ct oc:Value}{an od:Option Addr}
  {OS:Array (Option Value)} {N ps:List Str} {sp:Sp} (lk:K.lookup f=some ⟨oc,od,.func (fnOf name iR params body scope dV kV AI pm an dP ct),OS⟩) (Ph:codeIn K dP iR=true) (S:aL N ps scope)
  (len:∀ vs H Q E,sp vs H Q E->vs.length=ps.length)
  (Hv:∀ (A:Around) (zn:List Env) (s:Shared) (H:Hp) (vs:List V) (Q:VK) (E:XK),mC k (A.deeper (envOfC iR scope s.heap.objs.size f dP))->sp vs H Q E->
   ∃ t,LF (Kf CX P w K mg zt N iR scope f dP A zn s H E) body t/\t { nx:=λ_ H'=>Q .jj H',rt:=Q } (start N vs) H) :
  aF P w K mg zt CX (k+1) f (fnOf name iR params body scope dV kV AI pm an dP ct) ps sp:=by
 refine⟨len,λA zn s H args us vs Q E hr e0 hb r NC=>?_⟩;have hl:=len _ _ _ _ NC;have KX:K.In s.heap:=e0.mod.kin.keeps λb o e=>(e0.bs b o e).1;have lim:s.heap.NoLimit:=e0.mod.nolimit.keeps λb o e=>(e0.bs b o e).1
 have hkind:∀ y∈ps.zip us,scope.names.lookup y.1=some .local\/(scope.names.lookup y.1=some .cell/\((cellsFrom (s.heap.objs.size+1) scope.names []).lookup y.1).isSome=true):=λ⟨n,v⟩ hy=>by
  rcases S.par n (List.of_mem_zip hy).1 with q|q
  ·exact .inl q
  ·exact .inr ⟨q,cellsFrom_some _ _ _ (.inl q)⟩
 refine codeAny_call_function hr.depth (KX _ _ lk) rfl S.co S.gen rfl (PySem.W.codeRec_of KX Ph) (hb _ _ _ _ ?_);refine wpAny_newFunctionEnv_cells S.kind hkind λenv he s1 x=>?_;subst he;refine⟨lim.keeps x.toInCall.keep,codeAny_func ?_⟩;obtain⟨t,ht,hq⟩:=Hv A zn s H vs Q E (hr.deeper _) NC;have I:Inv (Kf CX P w K mg zt N iR scope f dP A zn s H E) [] (start N vs) H s1:=NB S hr.hd e0 hl r x;refine wpAny_mono (ht [] s1 (start N vs) H _ I hq) (λfl s' hs=>?_) λe s' hs=>hs;have lQ:∀ {σ':St} {H':Hp} {v:V} {u:Value},Inv (Kf CX P w K mg zt N iR scope f dP A zn s H E) [] σ' H' s'->RelV v u->Q v H'->CE zn P w H s Q u s' := λ{σ' H' v u} J rv q=>⟨v,H',J.os,J.bare,J.zt,J.hok,rv,q⟩
 cases fl with
 | ret u =>
  obtain⟨v,σ',H',J,rv,q⟩:=hs;exact lQ J rv q
 | next =>
  obtain⟨σ',H',J,q⟩:=hs;exact lQ (v:=V.jj) (u:=Value.none) J rfl q
 | brk =>
  obtain⟨_,_,_,q⟩:=hs;exact False.elim q
 | cont =>
  obtain⟨_,_,_,q⟩:=hs;exact False.elim q
end L2
namespace L2
open Spec Rows
section
variable {X:Cx} {x:Str} {p pos:Pos} {e:Expr} {es:List Expr} {t:TA} {id T:String} {r:List V->Hp->VK->Prop}
def tCB(r:List V->Hp->VK->Prop)(t:TA):TE:=fun σ H Q=>t σ H λvs H1=>r vs H1 Q
theorem cT(hc:pS X (.builtin id) r)(hg:Gl X x)(hm:X.mg x=none)(hv:bootBuiltins x=some (.builtin id))(ha:PA X (e::es) t)(hn:x≠"__name__":=by decide)(Nz:(x == ("__debug__":Str))=false:=by decide)
  (he:starEach (e::es) X.env=(false,eval e X.env)::starEach es X.env:=by rfl) (GY:(backTo pos (starEach es X.env)).any (·.1)=false:=by rfl):PE X (.Call (.Name x p) (e::es) [] pos) (tCB r t):=by
 intro ao s σ H Q I h;refine wpAny_Call_Name_kw (xV I hg hm hv ?_ hn Nz);exact PyProof.Rows.callWith_builtin1 (dB (ha pos ao s σ H _ I h) λus s1 ⟨vs,H1,I1,r1,q1⟩=>hc ao s1 σ H1 vs us Q I1 r1 q1) he GY
theorem iK(hc:pS X (.type T) r)(hg:Gl X x)(hm:X.mg x=none)(hv:bootBuiltins x=some (.type T))(ha:PA X (e::es) t)(hn:x≠"__name__":=by decide)(Nz:(x == ("__debug__":Str))=false:=by decide)
  (he:starEach (e::es) X.env=(false,eval e X.env)::starEach es X.env:=by rfl) (GY:(backTo pos (starEach es X.env)).any (·.1)=false:=by rfl):PE X (.Call (.Name x p) (e::es) [] pos) (tCB r t):=by
 intro ao s σ H Q I h;refine wpAny_Call_Name_kw (xV I hg hm hv ?_ hn Nz);exact PyProof.Rows.callWith_type1 (dB (ha pos ao s σ H _ I h) λus s1 ⟨vs,H1,I1,r1,q1⟩=>hc ao s1 σ H1 vs us Q I1 r1 q1) he GY
end
end L2
namespace HT
open Rows
section
variable {prog:Program} {w:World} {A:Around} {E:Value->Shared->Prop} {s:Shared}
def jA(n d:Nat):Option Int->Nat
 | none=>d
 | some v=>if v<0 then (v+(n:Int)).toNat else min v.toNat n
theorem LP(n d k:Nat):jA n d (some (k:Int))=min k n:=by
 show (if (k:Int)<0 then ((k:Int)+(n:Int)).toNat else min (k:Int).toNat n)=min k n;rw[if_neg (by lia),Int.toNat_natCast]
theorem WR(n d:Nat)(hd:d<=n)(o:Option Int):jA n d o<=n:=by
 cases o with
 | none=>exact hd
 | some v =>
  show (if v<0 then (v+(n:Int)).toNat else min v.toNat n)<=n;by_cases hv:v<0
  ·rw[if_pos hv];lia
  ·rw[if_neg hv];exact Nat.min_le_right _ _
theorem LQ(v:Int)(n d:Nat):(if v<0 then max (v+(n:Int)) 0 else min v (n:Int))=((jA n d (some v):Nat):Int):=by
 show (if v<0 then max (v+(n:Int)) 0 else min v (n:Int))=(((if v<0 then (v+(n:Int)).toNat else min v.toNat n):Nat):Int);by_cases hv:v<0
 ·simp only[if_pos hv];lia
 ·simp only[if_neg hv];lia
theorem Kg(lo hi:Option Int)(n:Nat):Builtin.Slice.sliceAdjust lo hi 1 (n:Int)=(((jA n 0 lo:Nat):Int),((jA n n hi:Nat):Int)):=by
 have h1:¬ ((1:Int)<0):=by lia
 unfold Builtin.Slice.sliceAdjust;simp only[h1,if_false];refine Prod.ext ?_ ?_
 ·cases lo with
  | none=>rfl
  | some v=>exact LQ v n 0
 ·cases hi with
  | none=>rfl
  | some v=>exact LQ v n n
theorem Kh(i j:Nat):Builtin.Slice.slicePlaces (i:Int) (j:Int) 1=j-i:=by
 unfold Builtin.Slice.slicePlaces;have h1:(1:Int) > 0:=by lia
 simp only[h1,if_true,Int.ediv_one]
 split <;> lia
theorem Ca{v:Value}{o:Option Int}{Q:Option Int->Shared->Prop}(p:IsPart v o)(h:Q o s):wpAny (model prog w) A (Builtin.Slice.slicePartIndex v) Q E s:=by
 cases p with
 | none=>exact slicePart_none h
 | int i t=>exact slicePart_int h
theorem zN{sl:Addr}{vl vu:Value}{lo hi:Option Int}{n:Nat}{Q:Int × Int × Nat->Shared->Prop}(hs:s.heap.IsSliceOf sl vl vu .none)(pl:IsPart vl lo)(pu:IsPart vu hi)
  (h:Q (((jA n 0 lo:Nat):Int),1,jA n n hi-jA n 0 lo) s):wpAny (model prog w) A (Builtin.Slice.sliceApplied (.ref sl) (pure (n:Int))) Q E s:=by
 obtain⟨os,hos,Tn,LR⟩:=id hs;unfold Builtin.Slice.sliceApplied Builtin.Slice.sliceFields;refine wpAny_bind (wpAny_bind (wpAny_field hos LR (x:=vl) rfl (wpAny_bind (wpAny_field hos LR (x:=vu) rfl (wpAny_bind (wpAny_field hos LR (x:=.none) rfl (wpAny_pure ?_)))))));refine wpAny_bind (slicePart_none ?_);show wpAny _ _ (if ((1:Int) == 0)=true then _ else _) _ _ s;rw[if_neg (by decide)];refine wpAny_bind (Ca pl (wpAny_bind (Ca pu (wpAny_bind (wpAny_pure ?_)))));show wpAny _ _ (match Builtin.Slice.sliceAdjust lo hi 1 (n:Int) with|(lo,hi)=>pure (lo,(1:Int),Builtin.Slice.slicePlaces lo hi 1)) _ _ s;rw[Kg lo hi n];show wpAny _ _ (pure (((jA n 0 lo:Nat):Int),(1:Int),Builtin.Slice.slicePlaces ((jA n 0 lo:Nat):Int) ((jA n n hi:Nat):Int) 1)) _ _ s;rw[Kh];exact wpAny_pure h
theorem PM(xs:Array Value)(i k:Nat):((List.range k).filterMap λ(m:Nat)=>xs[((i:Int)+(m:Int)*1).toNat]?).toArray=((xs.toList.drop i).take k).toArray:=by
 have e:(λ(m:Nat)=>xs[((i:Int)+(m:Int)*1).toNat]?)=λm=>xs[i+m]?:=by
  funext m;have:((i:Int)+(m:Int)*1).toNat=i+m:=by lia
  rw[this]
 rw[e];have:=pick_run xs i k;rw[List.filterMap_map]at this;have e2:((λx=>xs[x]?) ∘ λx=>i+x)=λm=>xs[i+m]?:=rfl;rw[e2]at this;rw[this]
theorem yL{t sl:Addr}{items:Array Value}{vl vu:Value}{lo hi:Option Int}{Q:Value->Shared->Prop}(ht:IsTup s.heap t items)(hs:s.heap.IsSliceOf sl vl vu .none)(pl:IsPart vl lo)(pu:IsPart vu hi)
  (hw:¬ (jA items.size 0 lo=0/\jA items.size items.size hi=items.size))
  (h:Q (.ref s.heap.objs.size) { s with heap:=s.heap.push { cls:=.type "tuple",data:=.seq ((items.toList.drop (jA items.size 0 lo)).take (jA items.size items.size hi-jA items.size 0 lo)).toArray } })
  (hsz:items.size<=sizeLine):wpAny (model prog w) A (getItem (.ref t) (.ref sl)) Q E s:=by
 have LS:sizeOk (.seq ((items.toList.drop (jA items.size 0 lo)).take (jA items.size items.size hi-jA items.size 0 lo)).toArray):=by
  show ((items.toList.drop (jA items.size 0 lo)).take (jA items.size items.size hi-jA items.size 0 lo)).toArray.size<=sizeLine;rw[jX,jG,sO,Array.length_toList];lia
 have hj:jA items.size items.size hi<=items.size:=WR _ _ (iT _) hi;obtain⟨os,hos,Tn,LR⟩:=id hs;have hTs:s.TypeIs (.ref sl) "slice":=⟨os,hos,Tn⟩;unfold getItem
 try with_reducible refine wpAny_holding ?_
 first|refine wpAny_bind (wpAny_pure ?_)|skip
 refine wpAny_bind (wpAny_sequenceKey ht.typeIs (by decide) ?_);refine wpAny_bind (wpAny_callSpecial?_slot (name:=Str.ofString "__getitem__") ht.typeIs PyProof.Rows.slot_tuple_getitem (wpAny_call_entry PyProof.Rows.slot_tuple_getitem ht.typeIs entry_tuple_getitem ?_ (args_tuple_getitem _ _)));show wpAny _ _ (Builtin.Tuple.tupleItemsOf (.ref t) >>= _) _ _ s;refine wpAny_bind (tupleItemsOf_ ht ?_);refine wpAny_bind (wpAny_typeOf hTs ?_);rw[if_pos (by decide)];refine wpAny_bind (zN hs pl pu ?_)
 have Zm:¬ ((((jA items.size 0 lo:Nat):Int) == 0&&(1:Int) == 1&&(jA items.size items.size hi-jA items.size 0 lo) == items.size)=true):=by
  intro q;rw[Bool.and_eq_true,Bool.and_eq_true]at q;have q1:((jA items.size 0 lo:Nat):Int)=0:=eq_of_beq q.1.1;have q2:jA items.size items.size hi-jA items.size 0 lo=items.size:=eq_of_beq q.2;exact hw ⟨by lia,by lia⟩
 show wpAny _ _ (if (((jA items.size 0 lo:Nat):Int) == 0&&(1:Int) == 1&&(jA items.size items.size hi-jA items.size 0 lo) == items.size)=true then _ else _) _ _ s;rw[if_neg Zm,PM]
 first
  | exact wpAny_bind (m:=Builtin.Tuple.tupleExact _) (wpAny_newObj_type (wpAny_pure ⟨_,rfl,wpAny_pure h⟩) LS)
  | exact wpAny_bind (m:=Builtin.Tuple.tupleExact _) (wpAny_newObj_type (wpAny_bind (wpAny_pure (wpAny_pure ⟨_,rfl,wpAny_pure h⟩))) LS)
  | exact wpAny_bind (wpAny_bind (m:=Builtin.Tuple.tupleExact _) (wpAny_newObj_type (wpAny_pure (wpAny_pure ⟨_,rfl,wpAny_pure h⟩)) LS))
  | exact wpAny_bind (wpAny_bind (m:=Builtin.Tuple.tupleExact _) (wpAny_newObj_type (wpAny_pure ⟨_,rfl,wpAny_pure h⟩) LS))
end
end HT
namespace L2
open Spec Rows
abbrev TO:=St->Hp->(Option Int->Hp->Prop)->Prop
def PO(X:Cx)(e:Option Expr)(t:TO):Prop :=
 ∀ (ao:List (Addr × Obj)) (s:Shared) (σ:St) (H:Hp) (Q:Option Int->Hp->Prop),Inv X ao σ H s->t σ H Q->
  wpAny (model X.prog X.w) X.A (evalPart e X.env) (λu s'=>∃ o H',Inv X ao σ H' s'/\IsPart u o/\Q o H') X.xe s
def To:TO:=λ_ H Q=>Q none H
def Zn(t:TE):TO:=fun σ H Q=>t σ H λx H1=>isI x H1 Q
theorem intsAre_of{ns:List Int}:∀ {us:List Value},cH (ns.map V.int) us->IntsAre us ns:=by
 induction ns with
 | nil=>intro us r;rw[List.map_nil]at r;cases r;exact .nil
 | cons n ns ih =>
  intro us r;rw[oK]at r
  cases r with
  | cons r1 r2 =>
   obtain⟨t,e⟩:=r1;subst e;exact .cons n t (ih r2)
section
variable {X:Cx} {e:Expr} {te:TE} {lo hi:Option Expr} {tl th:TO} {pos p2:Pos}
theorem qO:PO X none To:=by
 intro ao s σ H Q I h;rw[evalPart_none];exact wpAny_pure ⟨none,H,I,.none,h⟩
theorem kZ(h:PE X e te):PO X (some e) (Zn te):=by
 intro ao s σ H Q I hw;rw[evalPart_some];refine dB (h ao s σ H _ I hw) λu s1 J3=>?_;obtain⟨x,H1,I1,r1,q1⟩:=J3;obtain⟨i,rfl,q⟩:=q1;obtain⟨t,rfl⟩:=r1;exact⟨some i,H1,I1,.int i t,q⟩
def SlR(X:Cx)(r:V->Option Int->Option Int->Hp->VK->Prop):Prop :=
 ∀ (ao:List (Addr × Obj)) (s:Shared) (σ:St) (H:Hp) (x:V) (v vl vu:Value) (lo hi:Option Int) (sl:Addr) (Q:VK),Inv X ao σ H s->RelV x v->s.heap.IsSliceOf sl vl vu .none->IsPart vl lo->IsPart vu hi->r x lo hi H Q->
  ∃ T id,typeLookup (.type T) "__getitem__"=pure (some (.builtin id))/\s.TypeIs v T/\wpAny (model X.prog X.w) X.A (getItem v (.ref sl)) (EP X ao σ Q) X.xe s
def tSl(r:V->Option Int->Option Int->Hp->VK->Prop)(te:TE)(tl th:TO):TE:=fun σ H Q=>te σ H λx H1=>tl σ H1 λl H2=>th σ H2 λu H3=>r x l u H3 Q
theorem j8{r:V->Option Int->Option Int->Hp->VK->Prop}(hr:SlR X r)(he:PE X e te)(hl:PO X lo tl)(hu:PO X hi th):PE X (.Subscript e (.Slice lo hi none p2) pos) (tSl r te tl th):=by
 intro ao s σ H Q I h;refine Subscript_ (dB (he ao s σ H _ I h) λv s1 BR=>?_);obtain⟨x,H1,I1,r1,q1⟩:=BR;refine wpAny_Slice (dB (hl ao s1 σ H1 _ I1 q1) λvl s2 ⟨l,H2,I2,pl,q2⟩=>dB (hu ao s2 σ H2 _ I2 q2) λvu s3 Ho=>?_);obtain⟨u,H3,I3,pu,q3⟩:=Ho;rw[evalPart_none];refine wpAny_pure ?_;have I4:Inv X ao σ H3 { s3 with heap:=s3.heap.push { cls:=.type "slice",data:=.fields #[vl,vu,.none] } }:=I3.kept (t':=s3.toks) λb ob q=>Heap.get?_push_of_some _ q;obtain⟨T,id,hT,ht,hg⟩:=hr ao { s3 with heap:=s3.heap.push { cls:=.type "slice",data:=.fields #[vl,vu,.none] } } σ H3 x v vl vu l u s3.heap.objs.size Q I4 r1 (Heap.IsSliceOf.new ..) pl pu q3;show wpAny (model X.prog X.w) X.A (subscriptTail e (.Slice lo hi none p2) v (.ref s3.heap.objs.size)) (EP X ao σ Q) X.xe { s3 with heap:=s3.heap.push { cls:=.type "slice",data:=.fields #[vl,vu,.none] } };exact tail_any (ops:=[.ref s3.heap.objs.size,v]) ht hT hg (by with_unfolding_all rfl)
def pV(xs:List V)(lo hi:Option Int):List V:=(xs.drop (HT.jA xs.length 0 lo)).take (HT.jA xs.length xs.length hi-HT.jA xs.length 0 lo)
theorem AJ(xs:List V)(lo hi:Option Int):(pV xs lo hi).length<=xs.length:=by
 unfold pV;rw[jG,sO];lia
def acC(K:Frag):V->Option Int->Option Int->Hp->VK->Prop:=λx lo hi H Q=>∃ a xs,x=.ref a/\d8 K H a xs/\
 ¬ (HT.jA xs.length 0 lo=0/\HT.jA xs.length xs.length hi=xs.length)/\∀ p,H p=none->Q (.ref p) (aN H p (.tup (pV xs lo hi)))
theorem WS:SlR X (acC X.K):=by
 intro ao s σ H x v vl vu lo hi sl Q I rx hs pl pu h;obtain⟨a,xs,rfl,hx,hw,q⟩:=h;cases rx;obtain⟨aP,r,ht,hz⟩:=I.tuple hx;have ff:aP.toArray.size=xs.length:=by rw[jX];exact r.length.symm
 refine⟨"tuple",_,PyProof.Rows.slot_tuple_getitem.lookup,ht.typeIs,?_⟩;refine HT.yL ht hs pl pu (by rw[ff];exact hw) ?_ (by rw[ff];exact hz);rw[ff];refine⟨.ref s.heap.objs.size,_,I.laid (t':=s.toks) (o:=.tup (pV xs lo hi)) (λb ob q=>Heap.get?_push_of_some _ q) (iT _) ?_,rfl,q _ (I.hok.fresh (iT _))⟩;exact⟨Nat.le_trans (AJ xs lo hi) hz,_,(r.drop (HT.jA xs.length 0 lo)).take (HT.jA xs.length xs.length hi-HT.jA xs.length 0 lo),IsTup.new _ _⟩
end
end L2
namespace L2
open Spec Rows
def LV(n:Nat)(i:Int):Option Nat:=if 0<=i then (if i<n then some i.toNat else none) else if -(n:Int)<=i then some (i+n).toNat else none
def vR{α:Type}(xs:List α)(i:Int):Option α:=(LV xs.length i).bind λj=>xs[j]?
theorem LW{n:Nat}{i:Int}{j:Nat}(h:LV n i=some j):seqIndex? i n=some j/\j<n/\-(n:Int)<=i/\i<n:=by
 unfold LV at h;by_cases h0:0<=i
 ·rw[if_pos h0]at h;by_cases h1:i<n
  ·rw[if_pos h1]at h;have e:i.toNat=j:=uG h;exact⟨by rw[seqIndex_of h0 h1,e],by lia,by lia,h1⟩
  ·rw[if_neg h1]at h;cases h
 ·rw[if_neg h0]at h;by_cases h1:-(n:Int)<=i
  ·rw[if_pos h1]at h;have e:(i+n).toNat=j:=uG h;exact⟨by rw[seqIndex_neg (by lia) h1,e],by lia,h1,by lia⟩
  ·rw[if_neg h1]at h;cases h
theorem LX{α:Type}{xs:List α}{i:Int}{v:α}(h:vR xs i=some v):∃ j,seqIndex? i xs.length=some j/\xs[j]?=some v/\j<xs.length/\-(xs.length:Int)<=i/\i<xs.length:=by
 unfold vR at h
 cases e:LV xs.length i with
 | none=>rw[e]at h;cases h
 | some j =>
  rw[e]at h;obtain⟨h1,h2,h3,h4⟩:=LW e;exact⟨j,h1,h,h2,h3,h4⟩
theorem gy{α:Type}{xs:List α}{j:Nat}{v:α}(h:xs[j]?=some v):vR xs (j:Int)=some v:=by
 have hj:j<xs.length:=(List.getElem?_eq_some_iff.mp h).1
 have e:LV xs.length (j:Int)=some j:=by
  unfold LV;rw[if_pos (by lia),if_pos (by lia)];simp
 unfold vR;rw[e];exact h
theorem PN{α:Type}(xs:List α)(v:α):vR (xs++[v]) (-1)=some v:=by
 have hl:(xs++[v]).length=xs.length+1:=by simp
 have e:LV (xs++[v]).length (-1)=some xs.length:=by
  unfold LV;rw[hl,if_neg (by decide),if_pos (by lia)];congr 1;lia
 unfold vR;rw[e];show (xs++[v])[xs.length]?=some v;simp
def LY(b:Expr):Prop:=∀ o i,subscripted b false o i=operate [o,i] (getItem o i)
def Zo(X:Cx)(r:R2):Prop :=
 ∀ (value yM:Expr) (ao:List (Addr × Obj)) (s:Shared) (σ:St) (H:Hp) (x y:V) (v u:Value) (Q:VK),Inv X ao σ H s->RelV x v->RelV y u->r x y H Q->
  subscripted yM false v u=operate [v,u] (getItem v u)->wpAny (model X.prog X.w) X.A (subscriptTail value yM v u) (EP X ao σ Q) X.xe s
def MtR(X:Cx)(id:String)(r:V->List V->Hp->VK->Prop):Prop :=
 ∀ (ao:List (Addr × Obj)) (s:Shared) (σ:St) (H:Hp) (x:V) (xs:List V) (v:Value) (us:List Value) (Q:VK),Inv X ao σ H s->RelV x v->cH xs us->r x xs H Q->
  wpAny (model X.prog X.w) X.A (call (.builtin id) (v::us)) (EP X ao σ Q) X.xe s
section
variable {X:Cx} {a b:Expr} {ta tb:TE} {pos:Pos}
theorem Zp{r:R2}(hr:Zo X r)(ha:PE X a ta)(hb:PE X b tb)(hs:LY b):PE X (.Subscript a b pos) (Za r ta tb):=by
 intro ao s σ H Q I h;exact Subscript_ (WL ha hb I h λv u s2 x y H2 I2 rx ry q=>hr a b ao s2 σ H2 x y v u Q I2 rx ry q (hs _ _))
inductive acD(K:Frag)(x y:V)(H:Hp)(Q:VK):Prop
 | mk (p:Addr) (xs:List V) (i:Int) (v:V) (_:x=.ref p) (_:y=.int i) (_:bM K H p xs) (_:vR xs i=some v) (_:Q v H)
inductive Zq(K:Frag)(x y:V)(H:Hp)(Q:VK):Prop
 | mk (p:Addr) (xs:List V) (i:Int) (v:V) (_:x=.ref p) (_:y=.int i) (_:d8 K H p xs) (_:vR xs i=some v) (_:Q v H)
theorem bL:Zo X (acD X.K):=by
 intro value yM ao s σ H x y v u Q I rx ry h hs;obtain⟨p,xs,i,z,rfl,rfl,hq,he,q⟩:=h;cases rx;obtain⟨t,rfl⟩:=ry;obtain⟨aP,r,pl,hz⟩:=I.list hq;obtain⟨j,h1,h2,h3,h4,h5⟩:=LX he;obtain⟨w,ew,jB⟩:=r.get h2;have hl:=r.length;have hn:=zK;have lQ:EP X ao σ Q w s:=⟨z,H,I,jB,q⟩;by_cases h0:0<=i
 ·have hj:i.toNat=j:=by
   rw[seqIndex_of h0 h5]at h1;exact uG h1
  exact item_listR pl.isList h0 (by lia) (by rw[hj];simpa using ew) lQ hs
 ·have hj:(i+(aP.toArray.size:Int)).toNat=j:=by
   rw[seqIndex_neg (by lia) h4]at h1;rw[jX,← hl];exact uG h1
  exact subscriptTail_builtinR (x:=w) pl.isList.typeIs slot_list_getitem.lookup
   (wpAny_getItem_list_neg (Q:=λr s'=>r=w/\EP X ao σ Q r s') pl.isList (by lia) (by rw[jX] <;> lia) (by lia) (by rw[hj];simpa using ew) ⟨rfl,lQ⟩) hs
theorem bC:Zo X (Zq X.K):=by
 intro value yM ao s σ H x y v u Q I rx ry h hs;obtain⟨p,xs,i,z,rfl,rfl,hq,he,q⟩:=h;cases rx;obtain⟨t,rfl⟩:=ry;obtain⟨aP,r,pl,hz⟩:=I.tuple hq;obtain⟨j,h1,h2,h3,h4,h5⟩:=LX he;obtain⟨w,ew,jB⟩:=r.get h2;have hl:=r.length;have hn:=zK;have lQ:EP X ao σ Q w s:=⟨z,H,I,jB,q⟩;exact subscriptTail_builtinR (x:=w) pl.typeIs slot_tuple_getitem.lookup (getItem_tuple (j:=j) (Q:=λr s'=>r=w/\EP X ao σ Q r s') pl (by lia) (by lia) (by rw[jX,← hl];exact h1) (by simpa using ew) ⟨rfl,lQ⟩) hs
theorem Kl(aP:List Value)(n j:Nat)(u:Value):Obj.mapSeq (·.setIfInBounds j u) { cls:=.type "list",data:=.seq aP.toArray n }={ cls:=.type "list",data:=.seq (aP.set j u).toArray n }:=by
 simp[Obj.mapSeq]
theorem Inv.lst{ao:List (Addr × Obj)}{σ:St}{H:Hp}{s:Shared}{p:Addr}{xs:List V}(I:Inv X ao σ H s)(h:H p=some (.lst xs)) :
  ∃ (aP:List Value) (n:Nat),cH xs aP/\s.heap.get? p=some { cls:=.type "list",data:=.seq aP.toArray n }/\xs.length<=sizeLine:=by
 obtain⟨z,aP,n,r,e⟩:=I.hok p _ h;exact⟨aP,n,r,e,z⟩
theorem Inv.WT{σ:St}{H:Hp}{s:Shared}{p:Addr}{xs ys:List V}{aP its':List Value}{n n':Nat}{f:Obj->Obj}(I:Inv X ao σ H s)(h:H p=some (.lst xs))
  (ho:s.heap.get? p=some { cls:=.type "list",data:=.seq aP.toArray n }) (hf:f { cls:=.type "list",data:=.seq aP.toArray n }={ cls:=.type "list",data:=.seq its'.toArray n' }) (r:cH ys its') (hz:ys.length<=sizeLine) (t:Nat) :
  Inv X ao σ (aN H p (.lst ys)) { s with heap:=s.heap.update p f,toks:=t }:=by
 have e:(s.heap.update p f).get? p=some { cls:=.type "list",data:=.seq its'.toArray n' }:=by
  rw[Heap.get?_update_self f ho (by rw[hf] <;> rfl),hf]
 refine I.write (x:=p) (e:=p) (by rw[h];trivial) (.inl rfl) (λb u hb q=>(Heap.get?_update_other _ _ (Ne.symm hb)).trans q) ⟨_,e⟩ ?_;exact⟨hz,its',n',r,e⟩
inductive Zr(o i v:V)(H:Hp)(Q:Hp->Prop):Prop
 | mk (p:Addr) (xs:List V) (k:Int) (j:Nat) (_:o=.ref p) (_:i=.int k) (_:H p=some (.lst xs)) (_:LV xs.length k=some j) (_:Q (aN H p (.lst (xs.set j v))))
theorem rM:Y5 X Zr:=by
 intro ao s σ H o i v ov iv u Q I ro ri rv h;obtain⟨p,xs,k,j,rfl,rfl,hp,hj,q⟩:=h;cases ro;obtain⟨t,rfl⟩:=ri;obtain⟨aP,n,r,ho,hz⟩:=I.lst hp;obtain⟨h1,h2,h3,h4⟩:=LW hj;have hl:=r.length;have hn:=zK;have I':Inv X ao σ (aN H p (.lst (xs.set j v))) { s with heap:=s.heap.update p (Obj.mapSeq (·.setIfInBounds j u)) } := I.WT hp ho (Kl aP n j u) (r.set rv j) (by rw[List.length_set];exact hz) s.toks;by_cases h0:0<=k
 ·have hk:k.toNat=j:=by
   rw[seqIndex_of h0 h4]at h1;exact uG h1
  exact PySem.W.ki_setAt ho h0 (by lia) (by rw[jX,← hl];exact h4) (by rw[hk];exact⟨_,I',q⟩)
 ·have hk:(k+(aP.toArray.size:Int)).toNat=j:=by
   rw[seqIndex_neg (by lia) h3]at h1;rw[jX,← hl];exact uG h1
  exact PySem.W.ki_setBack ho (by lia) (by rw[jX,← hl];exact h3) (by lia) (by rw[hk];exact⟨_,I',q⟩)
theorem yN(lo hi:Option Int)(n:Nat):(sliceBounds lo hi none n).1=((HT.jA n 0 lo:Nat):Int)/\(sliceBounds lo hi none n).2.1=((HT.jA n n hi:Nat):Int)/\(sliceBounds lo hi none n).2.2=1:=by
 refine⟨?_,?_,rfl⟩
 ·cases lo with
  | none=>simp[sliceBounds,HT.jA]
  | some i =>
   simp only[sliceBounds,HT.jA,Option.getD_none,show (1:Int) > 0 by decide,if_true];by_cases h:i<0
   ·simp only[h,if_true] <;> lia
   ·simp only[h,if_false] <;> lia
 ·cases hi with
  | none=>simp[sliceBounds,HT.jA]
  | some i =>
   simp only[sliceBounds,HT.jA,Option.getD_none,show (1:Int) > 0 by decide,if_true];by_cases h:i<0
   ·simp only[h,if_true] <;> lia
   ·simp only[h,if_false] <;> lia
theorem DF(aP:List Value)(lo hi:Option Int):slicePick aP.toArray lo hi none=((aP.drop (HT.jA aP.length 0 lo)).take (HT.jA aP.length aP.length hi-HT.jA aP.length 0 lo)).toArray:=by
 obtain⟨h1,h2,h3⟩:=yN lo hi aP.toArray.size;unfold slicePick;rw[h1,h2,h3]
 simp only[sliceRange_one,pick_run,jX] <;> rfl
inductive Zs(K:Frag)(x:V)(lo hi:Option Int)(H:Hp)(Q:VK):Prop
 | mk (a:Addr) (xs:List V) (_:x=.ref a) (_:bM K H a xs) (_:∀ p,H p=none->Q (.ref p) (aN H p (.lst (pV xs lo hi)))):Zs K x lo hi H Q
theorem qP:SlR X (Zs X.K):=by
 intro ao s σ H x v vl vu lo hi sl Q I rx hs pl pu h;obtain⟨a,xs,rfl,hx,q⟩:=h;cases rx;obtain⟨aP,r,ht,hz⟩:=I.list hx;have ff:=r.length;refine⟨"list",_,slot_list_getitem.lookup,ht.isList.typeIs,?_⟩
 refine wpAny_getItem_list_slice ht.isList hs pl pu .none (by simp) ?_ (by rw[jX] <;> lia)
 rw[DF,← ff];refine⟨.ref s.heap.objs.size,_,I.laid (t':=s.toks) (o:=.lst (pV xs lo hi)) (λb ob q=>Heap.get?_push_of_some _ q) (iT _) ?_,rfl,q _ (I.hok.fresh (iT _))⟩;exact⟨Nat.le_trans (AJ xs lo hi) hz,_,0,(r.drop (HT.jA xs.length 0 lo)).take (HT.jA xs.length xs.length hi-HT.jA xs.length 0 lo),Heap.get?_push_size _ rfl⟩
def yO:V->Bool
 | .jj=>true
 | .bl _=>true
 | .int _=>true
 | .str _=>true
 | _=>false
def Vi:V->V->Bool
 | .jj,.jj=>true
 | .bl a,.bl b=>a == b
 | .bl a,.int b=>(if a then 1 else 0) == b
 | .int a,.bl b=>a == (if b then 1 else 0)
 | .int a,.int b=>a == b
 | .str a,.str b=>a == b
 | _,_=>false
theorem WU{A:Around}{s:Shared}{y x:V}{u v:Value}(ry:RelV y u)(rx:RelV x v)(fy:yO y=true)(fx:yO x=true):SeqAt.EqAt A s u v (Vi y x):=by
 cases y with
 | jj =>
  cases ry
  cases x with
  | jj=>cases rx;exact SeqAt.EqAt.same _
  | bl b=>cases rx;exact SeqAt.EqAt.none_bool b
  | int b=>obtain⟨t,rfl⟩:=rx;exact SeqAt.EqAt.none_int b t
  | str b=>obtain⟨t,rfl⟩:=rx;exact SeqAt.EqAt.none_str b t
  | _=>exact absurd (show false=true from fx) jQ
 | bl a =>
  cases ry
  cases x with
  | jj=>cases rx;exact SeqAt.EqAt.bool_none a
  | bl b=>cases rx;exact SeqAt.EqAt.bool_bool a b
  | int b=>obtain⟨t,rfl⟩:=rx;exact SeqAt.EqAt.bool_int a b t
  | str b=>obtain⟨t,rfl⟩:=rx;exact SeqAt.EqAt.bool_str a b t
  | _=>exact absurd (show false=true from fx) jQ
 | int a =>
  obtain⟨t',rfl⟩:=ry
  cases x with
  | jj=>cases rx;exact SeqAt.EqAt.int_none a t'
  | bl b=>cases rx;exact SeqAt.EqAt.int_bool a t' b
  | int b=>obtain⟨t,rfl⟩:=rx;exact SeqAt.EqAt.int_int a t' b t
  | str b=>obtain⟨t,rfl⟩:=rx;exact SeqAt.EqAt.int_str a t' b t
  | _=>exact absurd (show false=true from fx) jQ
 | str a =>
  obtain⟨t',rfl⟩:=ry
  cases x with
  | jj=>cases rx;exact SeqAt.EqAt.str_none a t'
  | bl b=>cases rx;exact SeqAt.EqAt.str_bool a t' b
  | int b=>obtain⟨t,rfl⟩:=rx;exact SeqAt.EqAt.str_int a t' b t
  | str b=>obtain⟨t,rfl⟩:=rx;exact SeqAt.EqAt.str_str a t' b t
  | _=>exact absurd (show false=true from fx) jQ
 | _=>exact absurd (show false=true from fy) jQ
def Km(x:V)(u:Value):Bool:=match u with
 | .none=>Vi .jj x
 | .bool b=>Vi (.bl b) x
 | .int i _=>Vi (.int i) x
 | .str z _=>Vi (.str z) x
 | _=>false
theorem PR{x y:V}{u:Value}(r:RelV y u)(f:yO y=true):Km x u=Vi y x:=by
 cases y with
 | jj=>cases r;rfl
 | bl b=>cases r;rfl
 | int i=>obtain⟨t,rfl⟩:=r;rfl
 | str z=>obtain⟨t,rfl⟩:=r;rfl
 | _=>exact absurd (show false=true from f) jQ
theorem yP{x:V}:∀ {xs:List V} {us:List Value},cH xs us->xs.all yO=true->us.any (Km x)=xs.any λy=>Vi y x
 | _,_,.nil,_=>rfl
 | y::xs,u::us,.cons r t,f=>by
  rw[List.all_cons,Bool.and_eq_true]at f;rw[List.any_cons,List.any_cons,PR r f.1,yP t f.2]
theorem vS{A:Around}{s:Shared}{x:V}{v:Value}(rx:RelV x v)(fx:yO x=true):∀ {xs:List V} {us:List Value},cH xs us->xs.all yO=true->∀ u∈us,SeqAt.EqAt A s u v (Km x u)
 | _,_,.nil,_=>λu hu=>by cases hu
 | y::xs,u::us,.cons r t,f=>λu' hu=>by
  rw[List.all_cons,Bool.and_eq_true]at f;rcases List.mem_cons.mp hu with rfl|hu
  ·rw[PR r f.1];exact WU r rx f.1 fx
  ·exact vS rx fx t f.2 u' hu
def inV(x:V)(xs:List V):Bool:=xs.any λy=>Vi y x
inductive WV(K:Frag)(xs:List V)(H:Hp)(Q:VK):Prop
 | mk (p:Addr) (ys:List V) (_:xs=[.ref p]) (_:bM K H p ys\/d8 K H p ys) (_:Q (.int ys.length) H):WV K xs H Q
inductive Zt(K:Frag)(xs:List V)(H:Hp)(Q:VK):Prop
 | mk (p:Addr) (ys:List V) (_:xs=[.ref p]) (_:bM K H p ys\/d8 K H p ys) (_:∀ l,H l=none->Q (.ref l) (aN H l (.lst ys)))
def rIn(K:Frag)(neg:Bool):R2:=λx y H Q=>∃ p xs,y=.ref p/\(bM K H p xs\/d8 K H p xs)/\yO x=true/\xs.all yO=true/\Q (.bl (if neg then !inV x xs else inV x xs)) H
theorem ND:yb X (compareOp .In) (rIn X.K false):=by
 intro ao s σ H x y v u Q I rx ry h;obtain⟨p,xs,rfl,hq,fx,fs,q⟩:=h;cases ry;rcases hq with hq|hq
 ·obtain⟨aP,r,pl,hz⟩:=I.list hq;refine SeqAt.in_listAt (Km x) pl.isList (λw hw=>vS rx fx r fs w (by simpa using hw)) ⟨.bl _,H,I,rfl,?_⟩;rw[show aP.toArray.any (Km x)=aP.any (Km x) by simp,yP r fs];exact q
 ·obtain⟨aP,r,pl,hz⟩:=I.tuple hq;refine SeqAt.in_tupleAt (Km x) pl (λw hw=>vS rx fx r fs w (by simpa using hw)) ⟨.bl _,H,I,rfl,?_⟩;rw[show aP.toArray.any (Km x)=aP.any (Km x) by simp,yP r fs];exact q
theorem Fy:yb X (compareOp .NotIn) (rIn X.K true):=by
 intro ao s σ H x y v u Q I rx ry h;obtain⟨p,xs,rfl,hq,fx,fs,q⟩:=h;cases ry;rcases hq with hq|hq
 ·obtain⟨aP,r,pl,hz⟩:=I.list hq;refine SeqAt.notIn_listAt (Km x) pl.isList (λw hw=>vS rx fx r fs w (by simpa using hw)) ⟨.bl _,H,I,rfl,?_⟩;rw[show aP.toArray.any (Km x)=aP.any (Km x) by simp,yP r fs];exact q
 ·obtain⟨aP,r,pl,hz⟩:=I.tuple hq;refine SeqAt.notIn_tupleAt (Km x) pl (λw hw=>vS rx fx r fs w (by simpa using hw)) ⟨.bl _,H,I,rfl,?_⟩;rw[show aP.toArray.any (Km x)=aP.any (Km x) by simp,yP r fs];exact q
theorem Fz:pS X (.builtin "len") (WV X.K):=by
 intro ao s σ H xs us Q I r h;obtain⟨p,ys,rfl,hq,q⟩:=h;obtain⟨u,rfl,rx⟩:=vals1 r;cases rx;have hn:=zK;rcases hq with hq|hq
 ·obtain⟨aP,r',pl,hz⟩:=I.list hq;have ff:=r'.length
  exact Calls.call_len_list pl.isList (by simp only[jX] <;> lia) ⟨.int ys.length,H,I.tok _,⟨s.toks+1,by rw[jX,ff]⟩,q⟩
 ·obtain⟨aP,r',pl,hz⟩:=I.tuple hq;have ff:=r'.length
  exact len_tuple pl (by simp only[jX] <;> lia) ⟨.int ys.length,H,I.tok _,⟨s.toks+1,by rw[jX,ff]⟩,q⟩
theorem FA:pS X (.builtin "len") (λxs H Q=>∃ z,xs=[.str z]/\z.length<=sizeLine/\Q (.int z.length) H):=by
 intro ao s σ H xs us Q I r h;obtain⟨z,rfl,hz,q⟩:=h;obtain⟨u,rfl,t,rfl⟩:=vals1 r;have hn:=zK;exact len_str (by lia) ⟨.int z.length,H,I.tok _,⟨_,rfl⟩,q⟩
theorem jI:pS X (.type "list") (Zt X.K):=by
 intro ao s σ H xs us Q I r h;obtain⟨p,ys,rfl,hq,q⟩:=h;obtain⟨u,rfl,rx⟩:=vals1 r;cases rx
 have lQ:∀ (aP:List Value),cH ys aP->ys.length<=sizeLine->∀ (h':Heap) (c':Nat),(∀ b o',s.heap.get? b=some o'->h'.get? b=some o')->
   h'.get? s.heap.objs.size=some { cls:=.type "list",dict:=none,data:=.seq aP.toArray c',slots:=#[] }->EP X ao σ Q (.ref s.heap.objs.size) { s with heap:=h' }:=λaP r' hz h' c' kp e =>
  ⟨.ref s.heap.objs.size,_,I.laid (t':=s.toks) kp (iT _) (show jk X.prog X.w _ h' _ (.lst ys) from ⟨hz,aP,c',r',e⟩),rfl,q _ (I.hok.fresh (iT _))⟩
 rcases hq with hq|hq
 ·obtain⟨aP,r',pl,hz⟩:=I.list hq;have ff:=r'.length;obtain⟨o,ho,hc,n,hd⟩:=pl.isList
  exact call_list_seq p (.inl rfl) ho hc hd (λh' c' kp e=>lQ aP r' hz h' c' kp e) (by simp only[jX] <;> lia)
 ·obtain⟨aP,r',pl,hz⟩:=I.tuple hq;have ff:=r'.length;obtain⟨o,ho,hc,n,hd⟩:=pl
  exact call_list_seq p (.inr rfl) ho hc hd (λh' c' kp e=>lQ aP r' hz h' c' kp e) (by simp only[jX] <;> lia)
def tyV(K:Frag)(T:String)(x:V)(H:Hp):Prop:=match x with
 | .str _=>T="str"
 | .int _=>T="int"
 | .ref p=>(T="list"/\∃ xs,bM K H p xs)\/(T="tuple"/\∃ o,K.lookup p=some o/\o.cls=.type "tuple"/\o.dict=none)\/
   (T="dict"/\((∃ kvs,H p=some (.dK kvs))\/∃ kvs,H p=some (.dT kvs)))\/(T="set"/\∃ S n,H p=some (.set S n))
 | _=>False
theorem PU{σ:St}{H:Hp}{s:Shared}{T:String}{x:V}{v:Value}(I:Inv X ao σ H s)(r:RelV x v)(ty:tyV X.K T x H) :
  s.TypeIs v T/\∀ a,v=.ref a->∃ ob,s.heap.get? a=some ob/\ob.dict=none:=by
 cases x with
 | str z =>
  obtain⟨t,rfl⟩:=r;cases (show T="str" from ty);exact⟨typeIs_str s z t,λ_ e=>nomatch e⟩
 | int i =>
  obtain⟨t,rfl⟩:=r;cases (show T="int" from ty);exact⟨typeIs_int s i t,λ_ e=>nomatch e⟩
 | ref p =>
  cases r;rcases ty with ⟨rfl,xs,hq⟩|⟨rfl,o,hk,hc,hd⟩|⟨rfl,hk⟩|⟨rfl,S,n,hk⟩
  ·obtain⟨aP,_,pl,_⟩:=I.list hq;refine⟨pl.isList.typeIs,λa e=>?_⟩;cases e;obtain⟨o,n,e,c,hd,_⟩:=pl;exact⟨o,e,hd⟩
  ·refine⟨⟨o,I.AF p o hk,hc⟩,λa e=>?_⟩;cases e;exact⟨o,I.AF _ o hk,hd⟩
  ·have z:∃ o,s.heap.get? p=some o/\o.ExactDict:=by
    rcases hk with ⟨kvs,hk⟩|⟨kvs,hk⟩
    ·obtain⟨_,_,_,_,o,_,_,e,ex,_⟩:=I.hok p _ hk;exact⟨o,e,ex⟩
    ·obtain⟨_,_,_,_,o,_,_,e,ex,_⟩:=I.hok p _ hk;exact⟨o,e,ex⟩
   obtain⟨o,e,ex⟩:=z;refine⟨⟨o,e,ex.1⟩,λa e2=>?_⟩;cases e2;exact⟨o,e,ex.2.1⟩
  ·obtain⟨o,_,_,_,e,ex,_⟩:=I.hok p _ hk;refine⟨⟨o,e,ex.1⟩,λa e2=>?_⟩;cases e2;exact⟨o,e,ex.2.1⟩
 | _=>exact False.elim ty
def acF(K:Frag)(T:String)(r:V->List V->Hp->VK->Prop)(to:TE):TE:=fun σ H Q=>to σ H λx H1=>tyV K T x H1/\r x [] H1 Q
def tBM(K:Frag)(T:String)(r:V->List V->Hp->VK->Prop)(to:TE)(t:TA):TE:=fun σ H Q=>to σ H λx H1=>tyV K T x H1/\t σ H1 λxs H2=>r x xs H2 Q
variable {o e:Expr} {es:List Expr} {to:TE} {t:TA} {name:Str} {oO ug:Pos} {T id:String} {r:V->List V->Hp->VK->Prop}
theorem PV(pa:PlainAttrs T)(slot:Slot T name id)(hty:typeOf (.builtin id)=pure (.type "method_descriptor"))(hm:MtR X id r)(ho:PE X o to)
  (PX:attributeBase o name X.env (eval o X.env)=eval o X.env:=by rfl) (PY:(oO.endLine == ug.line)=true:=by rfl):PE X (.Call (.Attribute o name oO) [] [] ug) (acF X.K T r to):=by
 intro ao s σ H Q I h;refine wpAny_Call_method0_late PX PY (dB (ho ao s σ H _ I h) λv s1 Ft=>?_);obtain⟨x,H1,I1,r1,ty,q1⟩:=Ft;obtain⟨h1,h2⟩:=PU I1 r1 ty;exact⟨T,id,pa,slot,hty,h1,h2,Calls.callWith_builtin rfl (PySem.evalArgs_none (hm ao s1 σ H1 x [] v [] Q I1 r1 .nil q1))⟩
theorem gx(pa:PlainAttrs T)(slot:Slot T name id)(hty:typeOf (.builtin id)=pure (.type "method_descriptor"))(hm:MtR X id r)(ho:PE X o to)(ha:PA X (e::es) t)
  (PX:attributeBase o name X.env (eval o X.env)=eval o X.env:=by rfl)
  (acH:((backTo ug (starEach (e::es) X.env)).all (λx=>!x.1)&&(backToKw ug (keywordEach [] X.env)).all (λx=>x.1.isSome)
   && decide ((e::es).length+([]:List Keyword).length+(if ([]:List Keyword).isEmpty then 0 else 1)<30))=true:=by rfl)
  (PY:(oO.endLine == ug.line)=true:=by rfl) (hs:starEach (e::es) X.env=(false,eval e X.env)::starEach es X.env:=by rfl) (WW:(backTo ug (starEach es X.env)).any (·.1)=false:=by rfl) :
  PE X (.Call (.Attribute o name oO) (e::es) [] ug) (tBM X.K T r to t):=by
 intro ao s σ H Q I h;refine wpAny_Call_method_late PX acH PY rfl (dB (ho ao s σ H _ I h) λv s1 J1=>?_);obtain⟨x,H1,I1,r1,ty,q1⟩:=J1;obtain⟨h1,h2⟩:=PU I1 r1 ty;refine⟨T,id,pa,slot,hty,h1,h2,?_⟩;have hA:=ha ug ao s1 σ H1 _ I1 q1;rw[hs]at hA ⊢
 refine Calls.callWith_builtin (by show (false || (backTo ug (starEach es X.env)).any (·.1))=false;rw[WW] <;> rfl) (Calls.evalArgs_plain ?_)
 exact dB hA λus s2 ⟨vs,H2,I2,r2,q2⟩=>hm ao s2 σ H2 x vs v us Q I2 r1 r2 q2
end
end L2
namespace L2
open Spec Rows
def Zu(X:Cx)(id:String)(r:V->List V->Hp->VK->Prop):Prop :=
 ∀ (ao:List (Addr × Obj)) (s:Shared) (σ:St) (H:Hp) (x:V) (xs:List V) (v:Value) (us:List Value) (Q:VK),Inv X ao σ H s->RelV x v->cH xs us->r x xs H Q->
  wpAny (model X.prog X.w) X.A (call (.builtin id) (v::us)) (EP X ao σ Q) X.xe s
theorem cH.one{x:V}{us:List Value}(h:cH [x] us):∃ u,us=[u]/\RelV x u:=by
 cases h with
 | cons r t=>cases t;exact⟨_,rfl,r⟩
theorem cH.two{x y:V}{us:List Value}(h:cH [x,y] us):∃ u v,us=[u,v]/\RelV x u/\RelV y v:=by
 cases h with
 | cons r t =>
  obtain⟨_,rfl,q⟩:=cH.one t;exact⟨_,_,rfl,r,q⟩
theorem cH.zero:∀ {us:List Value},cH [] us->us=[]
 | _,.nil=>rfl
theorem cH.dropLast{xs:List V}{us:List Value}(h:cH xs us):cH xs.dropLast us.dropLast:=by
 induction h with
 | nil=>exact .nil
 | cons r t ih =>
  cases t with
  | nil=>exact .nil
  | cons q t'=>exact .cons r ih
theorem cH.eraseIdx:∀ {xs:List V} {us:List Value} (i:Nat),cH xs us->cH (xs.eraseIdx i) (us.eraseIdx i)
 | _,_,_,.nil=>.nil
 | _,_,0,.cons _ t=>t
 | _,_,i+1,.cons r t=>.cons r (cH.eraseIdx i t)
theorem cH.rep{xs:List V}{us:List Value}(h:cH xs us):∀ k:Nat,cH (List.replicate k xs).flatten (List.replicate k us).flatten
 | 0=>.nil
 | k+1=>by
  rw[List.replicate_succ,List.replicate_succ,List.flatten_cons,List.flatten_cons];exact cH.append h (cH.rep h k)
theorem Kn{α:Type}(l:List α):l.eraseIdx (l.length-1)=l.dropLast:=by
 induction l with
 | nil=>rfl
 | cons a r ih =>
  cases r with
  | nil=>rfl
  | cons b r =>
   have e:(a::b::r).length-1=((b::r).length-1)+1:=by
    have h1:(a::b::r).length=r.length+2:=rfl;have h2:(b::r).length=r.length+1:=rfl;lia
   rw[e,List.eraseIdx_cons_succ,ih]
   all_goals rfl
theorem Ep{α:Type}:∀ (l:List α) (i:Nat),(l.eraseIdx i).length<=l.length
 | [],_=>iT _
 | _::_,0=>Nat.le_succ _
 | _::r,i+1=>Nat.succ_le_succ (Ep r i)
theorem foldl_rep(aP:List Value):∀ (k:Nat) (acc:List Value),
  List.foldl (λx1 x2=>x1++x2) acc.toArray (List.replicate k aP.toArray)=(acc++(List.replicate k aP).flatten).toArray
 | 0,acc=>by simp
 | k+1,acc=>by
  have e:acc.toArray++aP.toArray=(acc++aP).toArray:=by simp
  have e2:(acc++aP)++(List.replicate k aP).flatten=acc++(List.replicate (k+1) aP).flatten:=by
   rw[List.replicate_succ,List.flatten_cons,qL]
  rw[← e2,← foldl_rep aP k (acc++aP),← e,List.replicate_succ,qM]
section
variable {X:Cx} {ao:List (Addr × Obj)} {σ:St} {H:Hp} {s:Shared} {l b:Addr} {xs ys zs:List V}
theorem Inv.PZ{aP its':List Value}{n:Nat}{f:Array Value->Array Value}{t':Nat}(I:Inv X ao σ H s)(hH:H l=some (.lst xs))
  (e:s.heap.get? l=some { cls:=.type "list",data:=.seq aP.toArray n }) (hf:f aP.toArray=its'.toArray) (hv:cH ys its') (hz:ys.length<=sizeLine) :
  Inv X ao σ (aN H l (.lst ys)) { s with heap:=s.heap.update l (Obj.mapSeq f),toks:=t' }:=by
 have q:=PySem.IsL.update e f;rw[hf]at q;refine I.write (x:=l) (e:=l) (by rw[hH];exact trivial) (.inl rfl) (λb' u hb hu=>(Heap.get?_update_other s.heap (Obj.mapSeq f) (Ne.symm hb)).trans hu) ⟨_,q⟩ ?_;exact⟨hz,its',_,hv,q⟩
theorem Inv.Tp{aP:List Value}{t':Nat}(I:Inv X ao σ H s)(hv:cH ys aP)(hz:ys.length<=sizeLine) :
  Inv X ao σ (aN H s.heap.objs.size (.lst ys)) { s with heap:=s.heap.push { cls:=.type "list",data:=.seq aP.toArray },toks:=t' } :=
 I.laid (λ_ _ q=>Heap.get?_push_of_some _ q) (iT _) ⟨hz,aP,0,hv,Heap.get?_push_size _ rfl⟩
theorem Inv.fresh(I:Inv X ao σ H s):H s.heap.objs.size=none:=I.hok.fresh (iT _)
theorem Inv.DG(I:Inv X ao σ H s)(hH:H l=some (.lst xs)):xs.length<=sizeLine/\∃ (aP:List Value) (n:Nat),cH xs aP/\xs.length=aP.length/\s.heap.get? l=some { cls:=.type "list",data:=.seq aP.toArray n }:=by
 obtain⟨z,aP,n,r,e⟩:=I.hok l _ hH;exact⟨z,aP,n,r,r.length,e⟩
theorem Cb{n:Nat}(h:n<=sizeLine):Builtin.List.listTooLong n=false:=by
 unfold Builtin.List.listTooLong;exact decide_eq_false (by lia)
end
section
variable {X:Cx}
inductive Tq(x:V)(vs:List V)(H:Hp)(Q:VK):Prop
 | mk (l:Addr) (xs:List V) (y:V) (_:x=.ref l) (_:vs=[y]) (_:H l=some (.lst xs)) (_:xs.length<sizeLine) (_:Q .jj (aN H l (.lst (xs++[y]))))
theorem cB:Zu X "list.append" Tq:=by
 intro ao s σ H x vs v us Q I rx rv h;obtain⟨l,xs,y,rfl,rfl,hH,hz,q⟩:=h;cases rx;obtain⟨u,rfl,ru⟩:=rv.one;obtain⟨z,aP,n,r,hl,e⟩:=I.DG hH;refine call_meets F.slot_list_append ⟨_,e,rfl⟩ F.entry_list_append (F.args_list_append_2 _ _) (PySem.list_append l aP.toArray n u (by rw[jX];lia)) ⟨e,?_⟩;refine⟨.jj,_,I.PZ (its':=aP++[u]) hH e (by simp) (r.append (.cons ru .nil)) ?_,rfl,q⟩;rw[dH,xh];lia
inductive Tr(x:V)(vs:List V)(H:Hp)(Q:VK):Prop
 | mk (l b:Addr) (xs zs:List V) (_:x=.ref l) (_:vs=[.ref b]) (_:H l=some (.lst xs)) (_:H b=some (.lst zs)) (_:xs.length+zs.length<=sizeLine) (_:Q .jj (aN H l (.lst (xs++zs))))
theorem mQ:Zu X "list.extend" Tr:=by
 intro ao s σ H x vs v us Q I rx rv h;obtain⟨l,b,xs,zs,rfl,rfl,hH,hB,hz,q⟩:=h;cases rx;obtain⟨u,rfl,ru⟩:=rv.one;cases ru;obtain⟨z,aP,n,r,hl,e⟩:=I.DG hH;obtain⟨z2,its2,n2,r2,FD,e2⟩:=I.DG hB;have hsz:aP.toArray.size+its2.toArray.size<=sizeLine:=by rw[jX,jX];lia
 have Hw:¬ (!aP.toArray.isEmpty&&Builtin.List.listTooLong (aP.toArray.size+its2.toArray.size))=true:=by
  rw[Cb hsz,Bool.and_false];exact jQ
 refine call_meets F.slot_list_extend ⟨_,e,rfl⟩ F.entry_list_extend (F.args_list_extend_2 _ _) (AutoSeq1.list_extend_list_list_0 l aP.toArray n b its2.toArray n2 Hw (by rw[jX];lia) (by lia)) ⟨e,e2,?_⟩;refine⟨.jj,_,I.PZ (its':=aP++its2) hH e (by simp) (r.append r2) ?_,rfl,q⟩;rw[dH];lia
def acI:V->List V->Hp->VK->Prop:=λx vs H Q=>∃ l xs y,x=.ref l/\vs=[]/\H l=some (.lst xs)/\xs[xs.length-1]?=some y/\Q y (aN H l (.lst xs.dropLast))
theorem P0:Zu X "list.pop" acI:=by
 intro ao s σ H x vs v us Q I rx rv h;obtain⟨l,xs,y,rfl,rfl,hH,hy,q⟩:=h;cases rx;have hus:=rv.zero;subst hus;obtain⟨z,aP,n,r,hl,e⟩:=I.DG hH;obtain⟨u,hu,ru⟩:=r.get hy
 have hy':aP.toArray[aP.toArray.size-1]?=some u:=by
  show aP.toArray[aP.length-1]?=some u;rw[← Array.getElem?_toList,← hl];exact hu
 refine call_meets F.slot_list_pop ⟨_,e,rfl⟩ F.entry_list_pop (F.args_list_pop_1 _) (MeetsSeq.list_pop_last l aP.toArray n u hy' (by rw[jX];lia)) ⟨e,?_⟩;refine⟨y,_,I.PZ (its':=aP.dropLast) hH e ?_ r.dropLast ?_,ru,q⟩
 ·show aP.toArray.eraseIdxIfInBounds (aP.toArray.size-1)=aP.dropLast.toArray;rw[jX,List.eraseIdxIfInBounds_toArray,Kn]
 ·rw[List.length_dropLast];lia
def WX:V->List V->Hp->VK->Prop:=λx vs H Q=>∃ l xs i k y,x=.ref l/\vs=[.int i]/\H l=some (.lst xs)/\-(2^63)<=i/\i<2^63/\seqIndex? i xs.length=some k/\xs[k]?=some y/\Q y (aN H l (.lst (xs.eraseIdx k)))
theorem P1:Zu X "list.pop" WX:=by
 intro ao s σ H x vs v us Q I rx rv h;obtain⟨l,xs,i,k,y,rfl,rfl,hH,h1,h2,hk,hy,q⟩:=h;cases rx;obtain⟨u,rfl,ru⟩:=rv.one;obtain⟨t,rfl⟩:=ru;obtain⟨z,aP,n,r,hl,e⟩:=I.DG hH;obtain⟨w,hw,jB⟩:=r.get hy;refine call_meets F.slot_list_pop ⟨_,e,rfl⟩ F.entry_list_pop (F.args_list_pop_2 _ _) (MeetsSeq.list_pop_at l aP.toArray n i t k w (fitsIndex_both h1 h2) (by rw[jX,← hl];exact hk) (by rw[← Array.getElem?_toList];exact hw) (by rw[jX];lia)) ⟨e,?_⟩;refine⟨y,_,I.PZ (its':=aP.eraseIdx k) hH e ?_ (r.eraseIdx k) ?_,jB,q⟩
 ·show aP.toArray.eraseIdxIfInBounds k=(aP.eraseIdx k).toArray;rw[List.eraseIdxIfInBounds_toArray]
 ·have:=Ep xs k;lia
inductive Zv(x y:V)(H:Hp)(Q:VK):Prop
 | mk (l b:Addr) (xs zs:List V) (_:x=.ref l) (_:y=.ref b) (_:H l=some (.lst xs)) (_:H b=some (.lst zs)) (_:xs.length+zs.length<=sizeLine) (_:∀ p,H p=none->Q (.ref p) (aN H p (.lst (xs++zs))))
theorem nh:yb X (binaryOp .Add) Zv:=by
 intro ao s σ H x y v u Q I rx ry h;obtain⟨l,b,xs,zs,rfl,rfl,hH,hB,hz,q⟩:=h;cases rx;cases ry;obtain⟨z,aP,n,r,hl,e⟩:=I.DG hH;obtain⟨z2,its2,n2,r2,FD,e2⟩:=I.DG hB;refine PySem.P.add_list e e2 ?_ (by rw[jX,jX];lia);have ea:aP.toArray++its2.toArray=(aP++its2).toArray:=by simp
 rw[ea];exact⟨.ref _,_,I.Tp (t':=s.toks) (r.append r2) (by rw[dH];lia),rfl,q _ I.fresh⟩
def Zw:R2:=λx y H Q=>∃ l k xs,x=.ref l/\y=.int k/\H l=some (.lst xs)/\-(2^63)<=k/\k<2^63/\xs.length*k.toNat<=sizeLine/\
 ∀ p,H p=none->Q (.ref p) (aN H p (.lst (List.replicate k.toNat xs).flatten))
theorem Tt{α:Type}(xs:List α)(k:Nat):(List.replicate k xs).flatten.length=k*xs.length:=by
 induction k with
 | zero=>simp
 | succ k ih=>rw[List.replicate_succ,List.flatten_cons,dH,ih,Nat.succ_mul,Nat.add_comm]
theorem P4:yb X (binaryOp .Mult) Zw:=by
 intro ao s σ H x y v u Q I rx ry h;obtain⟨l,k,xs,rfl,rfl,hH,h1,h2,hz,q⟩:=h;cases rx;obtain⟨t,rfl⟩:=ry;obtain⟨z,aP,n,r,hl,e⟩:=I.DG hH;have ff:aP.toArray.size*k.toNat<=sizeLine:=by rw[jX,← hl];exact hz
 have hcap:¬ aP.toArray.size*k.toNat > (2^63-1) / 8:=by
  have:(sizeLine:Nat)<=(2^63-1) / 8:=by decide
  lia
 have hfit:¬ (!Builtin.List.listFitsIndex k)=true:=by
  rw[fitsIndex_both h1 h2];exact jQ
 have Hw:¬ Builtin.List.listTooLong (aP.toArray.size*k.toNat)=true:=by
  rw[Cb ff];exact jQ
 have hnew:List.foldl (λx1 x2=>x1++x2) #[] (List.replicate (if aP.toArray.isEmpty=true then 0 else k.toNat) aP.toArray)=(List.replicate k.toNat aP).flatten.toArray:=by
  have f0:∀ m:Nat,List.foldl (λx1 x2=>x1++x2) #[] (List.replicate m aP.toArray)=(List.replicate m aP).flatten.toArray:=λm=>by
   have:=foldl_rep aP m [];rw[List.nil_append]at this;exact this
  rw[f0]
  cases aP with
  | nil=>simp
  | cons a r'=>rw[if_neg (by simp)]
 refine wpAny_binaryOp_repeat_ref (T:="list") (U:="int") (by decide) ⟨_,e,rfl⟩ (λs'=>typeIs_int s' k t) noFill_list_mul F.fills_int_mul F.slot_int_rmul repeat_list F.slot_int_index.lookup (call_meets F.slot_int_rmul (typeIs_int s k t) F.entry_int_rmul (F.args_int_rmul_2 _ _) (int___rmul___int_list k t l aP.toArray n) ⟨e,rfl,⟨_,e,rfl⟩,call_meets F.slot_list_mul ⟨_,e,rfl⟩ F.entry_list_mul (F.args_list_mul_2 _ _) (AutoListH.list___mul___list_int_3 l aP.toArray n k t hfit hcap Hw) ⟨e,?_⟩⟩);rw[hnew];exact⟨.ref _,_,I.Tp (t':=s.toks) (r.rep k.toNat) (by rw[Tt,Nat.mul_comm];exact hz),rfl,q _ I.fresh⟩
end
end L2
namespace Att
open PySem.W Calls Rows
theorem Bf{P:Params}{h:Heap}:∀ (ns:List Int) (vs:List Value),WellAll P h vs (ns.map WData.int)->IntsAre vs ns:=by
 intro ns
 induction ns with
 | nil =>
  intro vs w;rw[List.map_nil]at w;cases w;exact .nil
 | cons n ns ih =>
  intro vs w;rw[oK]at w
  cases w with
  | cons a b =>
   cases a;exact .cons _ _ (ih _ b)
theorem NF{l:OpenLaw}{n:Nat}(hn:l.most=some n){P:Params}{h:Heap}{args:List WData}{WY:List Value}
  (Tu:l.row.toRowW.claim.pre args=true) (hwl:WellAll P h WY args) :
  ∃ a vs ns,WY=[Value.ref a]/\args=[WData.list (ns.map WData.int)]/\h.get? a=some { cls:=.type "list",data:=.seq vs.toArray }/\IntsAre vs ns/\ns.length<=n:=by
 have AK:WShape.hasAll [] args [.list .int]=true:=(pre_splitW Tu).1;have hc:l.pre.holds [] { args:=args }=true:=(pre_splitW Tu).2;obtain⟨d,r,rfl,h1,h2⟩:=hasAllW_cons AK;obtain rfl:=hasAllW_nil h2;obtain⟨xs,rfl,h3⟩:=hasW_list h1;obtain⟨ns,rfl⟩:=items_int h3
 have ff:ns.length<=n:=by
  unfold OpenLaw.pre at hc
  have h4:(WTm.not (.lt (.lit (.int (n:Int))) (.len (.arg 0)))).holds [] { args:=[.list (ns.map .int)] }=true:=by
   have h4:=(holds_andW hc).1;rw[hn]at h4;exact h4
  have h5:=condW_of h4 (w_not (w_lt w_lit (w_len_list (w_arg rfl))));rw[cR]at h5;refine Nat.le_of_not_lt λq=>?_;have q':(n:Int)<((ns.length:Nat):Int):=by lia
  first
   | (rw[decide_eq_true q']at h5;exact absurd h5 (by decide))
   | (simp at h5;lia)
 cases hwl with
 | cons w1 w2 =>
  cases w2
  cases w1 with
  | list ho P5=>exact⟨_,_,ns,rfl,rfl,ho,Bf ns _ P5,ff⟩
theorem NG(l:OpenLaw)(args:List WData):l.row.toRowW.claim.post args (.bool true) args=true :=
 postW_of (r:=l.row.toRowW) (X:=(true == true))
  (show WShape.has [] (.bool true) .bool=true by first|rfl|decide|simp[WShape.has,WShape.arms,WShape.armsAll])
  (show (WTm.eq .res (.lit (.bool true))).value [] { args:=args,res:=some (.bool true),after:=args }=some (.bool (true == true)) from w_eq_bool (w_res rfl) w_lit) rfl
theorem Hx{l:OpenLaw}{n:Nat}{q:Program}{Er:List Str}{XP:(Str->Option Value)->Heap->Prop}{YP:World->Heap->Prop}{d:DefRec}
  (hn:l.most=some n) (Zx:d.params.defaults=[])
  (call:∀ (w:World) (s₀ s₁:Shared) (mg mb:Str->Option Value) (fa:Addr) (o:Obj) (pm cd AI:Value) (a:Addr) (vs:List Value) (ns:List Int),
   Ground q Er [] XP w s₀ mg mb s₁.heap->YP w s₁.heap->
   s₁.heap.get? fa=some o->o.data=.func (docDef d.name d.params d.body d.scope pm cd AI)->s₁.heap.CodeRec cd d.name->mg d.name=some (.ref fa)->
   s₁.heap.get? a=some { cls:=.type "list",data:=.seq vs.toArray }->IntsAre vs ns->ns.length<=n->s₁.gens=#[]->
   codeAny (model l.prog w) callerA (.call (.ref fa) ⟨[.ref a],[]⟩) (λr s'=>r=.ok (.ret (.bool true))/\OldK s₁.heap s'.heap/\s'.os=s₁.os/\AllBare s'.gens) s₁) :
  WalkO q Er XP YP l.row.toRowW d [] (λf vs=>PySem.call f vs):=by
 intro w s₀ s₁ mg mb G Y fa o pm cd AI dV kV ho hd Ph hD Zy hg args WY as Tu air hrd hwl hlo;obtain rfl:dV=.none:=Dflts.none hD Zx;obtain rfl:kV=.none:=Dflts.noKw hD;obtain⟨a,vs,ns,rfl,rfl,WZ,P6,ff⟩:=NF hn Tu hwl;refine enter_call (codeAny_mono (call w s₀ s₁ mg mb fa o pm cd AI a vs ns G Y ho (fd_plain hd) Ph Zy WZ P6 ff hg) λr s' hq=>?_);obtain⟨rfl,h2,h3,h4⟩:=hq;exact⟨.inl ⟨.bool true,.bool true,[],rfl,λ_=>rfl,.bool true,NG l _,λ_=>⟨List.Pairwise.nil,λ_ hm=>(nomatch hm)⟩⟩,h2,h3,h4⟩
end Att
namespace L2
open Spec Rows
theorem Es:∀ {vs:List Value} {ns:List Int},IntsAre vs ns->cH (ns.map V.int) vs
 | _,_,.nil=>.nil
 | _,_,.cons n t h=>.cons ⟨t,rfl⟩ (Es h)
def W0(H:Hp):Prop:=∀ b,H b=none\/∃ o xs,H b=some (.Ly o (.lst xs))
theorem P7{P:Program}{w:World}{K:Frag}{mg mb:Str->Option Value}{CX:PD}{k:Nat}{fa a:Addr}{fd:FuncData}{x:Str}{sp:Sp}{s₁:Shared}{vs:List Value}{ns:List Int}
  (KX:K.In s₁.heap) (OT:s₁.heap.Ns mainGlobals mg) (hb:s₁.heap.Ns builtinsNs mb) (hbb:∀ x:Str,x≠"__name__"->mb x=bootBuiltins x) (acK:s₁.heap.NoLimit) (hg:s₁.gens=#[])
  (ha:s₁.heap.get? a=some { cls:=.type "list",data:=.seq vs.toArray }) (hi:IntsAre vs ns) (hl:ns.length<=sizeLine) (hr:mC k callerA)
  (F:∀ zt:Heap,K.In zt->zt.Ns mainGlobals mg->aF P w K mg zt CX k fa fd [x] sp) (Zz:∀ (s:Shared) (u:Value),BindsTo s fd ⟨[u],[]⟩ [(x,u)])
  (NC:∀ H:Hp,W0 H->bM K H a (ns.map V.int)->sp [.ref a] H (λv _=>v=.bl true) λ_ _ _=>False)
  (hCX:∀ H e s',CX [] H s₁ (λ_ _ _=>False) e s'->False) :
  codeAny (model P w) callerA (.call (.ref fa) ⟨[.ref a],[]⟩) (λr s'=>r=.ok (.ret (.bool true))/\OldK s₁.heap s'.heap/\s'.os=s₁.os/\AllBare s'.gens) s₁:=by
 have rv:=Es hi;have acM:=hi.length
 have core:∀ H:Hp,W0 H->bM K H a (ns.map V.int)->yE P w H s₁.heap->(∀ b,H b≠none->b=a)->(H a≠none->K.lookup a=none)->
   codeAny (model P w) callerA (.call (.ref fa) ⟨[.ref a],[]⟩) (λr s'=>r=.ok (.ret (.bool true))/\OldK s₁.heap s'.heap/\s'.os=s₁.os/\AllBare s'.gens) s₁:=by
  intro H hO hS hok hA hK;have LZ:∀ {b:Addr} {o:Obj},s₁.heap.get? b=some o->H b=none->(Fp s₁.heap H).get? b=some o:=λe n=>Pe e n
  have Zk:∀ {b:Addr} {o:Obj} {es:Array DictEntry} {ep:Nat},s₁.heap.get? b=some o->o.data=.dict es ep->H b=none:=λ{b o es ep} e d=>by
   cases q:H b with
   | none=>rfl
   | some u =>
    have e':b=a:=hA b (by rw[q];simp);subst e';rw[ha]at e;cases e;have d':Data.seq vs.toArray _=Data.dict es ep:=d;cases d'
  have nsK:∀ {b:Addr} {m:Str->Option Value},s₁.heap.Ns b m->(Fp s₁.heap H).Ns b m:=λ{b m} ⟨o,es,ep,e,d,r⟩=>⟨o,es,ep,LZ e (Zk e d),d,r⟩
  have hKb:K.In (Fp s₁.heap H):=λb o e=>LZ (KX b o e) (by
   cases q:H b with
   | none=>rfl
   | some u =>
    have e':b=a:=hA b (by rw[q];simp);subst e'
    rw[hK (by rw[q];simp)]at e;cases e)
  have hM:Mod K mg (Fp s₁.heap H):=⟨hKb,nsK OT,⟨mb,nsK hb,hbb⟩,let ⟨mc,h1,h2⟩:=acK;⟨mc,nsK h1,h2⟩⟩;have e0:Ke P w K mg (Fp s₁.heap H) callerA [] s₁ H:=⟨rfl,hM,λb o e=>SS e,Nat.le_of_eq (Nm _ _),trivial,λb hb=>absurd (show b∈([]:List Addr) from hb) (by simp),hok,.of_eq hg⟩;refine codeAny_mono ((F _ hKb (nsK OT)).run callerA [] s₁ H ⟨[.ref a],[]⟩ [.ref a] [.ref a] _ _ hr e0 (Zz s₁ (.ref a)) (.cons rfl .nil) (NC H hO hS)) λr s' h=>?_
  cases r with
  | error e=>exact (hCX H e s' h).elim
  | ok fl =>
   cases fl with
   | next=>exact False.elim h
   | brk=>exact False.elim h
   | cont=>exact False.elim h
   | ret u =>
    obtain⟨v,H',os,bare,un,acN,r',q⟩:=h;have q':v=.bl true:=q;subst q';obtain rfl:u=Value.bool true:=r';refine⟨rfl,OldK.of_keep λb o e=>?_,os,bare⟩
    cases q:H b with
    | none=>exact un.keep b o e q (by intro z;exact absurd (show b∈([]:List Addr) from z) (by simp)) (by simp)
    | some u =>
     rcases hO b with z|⟨ob,xs,z⟩
     ·rw[q]at z;cases z
     ·have z2:=un.Fo b ob _ z;obtain⟨e1,_⟩:=hok b _ z;obtain⟨e2,_⟩:=acN b _ z2;rw[e]at e1;cases e1;exact e2
 cases hk:K.lookup a with
 | some o =>
  have e:=KX a o hk;rw[ha]at e;cases e;refine core (λ_=>none) (λ_=>.inl rfl) (.inr ⟨_,vs.toArray,_,hk,rfl,rfl,rfl,by rw[jX,acM];exact hl,by simpa using rv⟩) (λb u z=>by have z':(none:Option HO)=some u:=z;cases z') (λb z=>absurd rfl z) λz=>absurd rfl z
 | none =>
  refine core (λb=>if b=a then some (.Ly { cls:=.type "list",data:=.seq vs.toArray } (.lst (ns.map V.int))) else none) (λb=>?_) (.inl (.inr ⟨{ cls:=.type "list",data:=.seq vs.toArray },if_pos rfl⟩)) (λb u z=>?_) (λb z=>?_) λ_=>hk
  ·by_cases hb:b=a
   ·exact .inr ⟨_,_,if_pos hb⟩
   ·exact .inl (if_neg hb)
  ·by_cases hb:b=a
   ·have z':=(if_pos hb).symm.trans z;cases z';subst hb;exact⟨ha,by rw[cR];exact hl,vs,_,rv,ha⟩
   ·have z':=(if_neg hb).symm.trans z;cases z'
  ·by_cases hb:b=a
   ·exact hb
   ·exact absurd (if_neg hb) z
end L2
namespace L2
open Spec Rows
theorem Tv{l:PySem.W.OpenLaw}{n k:Nat}{q:Program}{Er:List Str}{XP:(Str->Option Value)->Heap->Prop}{YP:World->Heap->Prop}{d:DefRec}{K:Params->Frag}{CX:World->PD}{sp:World->Sp}{x:Str}
  (hn:l.most=some n) (hn2:n<=sizeLine) (Zx:d.params.defaults=[]) (hr:mC k callerA)
  (hY:∀ (w:World) (h:Heap),YP w h->(K w.params).In h)
  (F:∀ (w:World) (mg:Str->Option Value) (fa:Addr) (h:Heap),(K w.params).In h->h.Ns mainGlobals mg->mg d.name=some (.ref fa)->
   ∃ fd:FuncData,(∀ (s:Shared) (u:Value),BindsTo s fd ⟨[u],[]⟩ [(x,u)])/\
    ∀ zt:Heap,(K w.params).In zt->zt.Ns mainGlobals mg->aF l.prog w (K w.params) mg zt (CX w) k fa fd [x] (sp w))
  (NC:∀ (w:World) (H:Hp) (a:Addr) (ns:List Int),ns.length<=n->W0 H->bM (K w.params) H a (ns.map V.int)->sp w [.ref a] H (λv _=>v=.bl true) λ_ _ _=>False)
  (hCX:∀ (w:World) (H:Hp) (s:Shared) (e:Value) (s':Shared),CX w [] H s (λ_ _ _=>False) e s'->False) :
  PySem.W.WalkO q Er XP YP l.row.toRowW d [] (λf vs=>PySem.call f vs):=by
 refine Att.Hx hn Zx λw s₀ s₁ mg mb fa o pm cd AI a vs ns G Y ho hd Ph Zy WZ P6 ff hg=>?_;have KX:=hY w _ Y;obtain⟨fd,hb,hF⟩:=F w mg fa _ KX G.T.g Zy;exact P7 KX G.T.g G.T.b G.T.builtins G.T.nolimit hg WZ P6 (jY ff hn2) hr hF hb (λH hO hS=>NC w H a ns ff hO hS) λH e s'=>hCX w H s₁ e s'
end L2
namespace L2
open Spec Rows
def sQ(s:Stmt):Arguments:=match s with
 | .FunctionDef _ a _ _ _ _ _ _ _ _=>a
 | _=>{ posonlyargs:=[],args:=[],vararg:=none,kwonlyargs:=[],kw_defaults:=[],kwarg:=none,defaults:=[] }
def ni(s:Stmt):List Stmt:=match s with
 | .FunctionDef _ _ b _ _ _ _ _ _ _=>b
 | _=>[]
def aA(s:Stmt):Scope:=match s with
 | .FunctionDef _ _ _ _ _ _ sc _ _ _=>sc
 | _=>{ kind:=.function,names:=[],isGenerator:=false,isCoroutine:=false }
abbrev bI:PD:=λ_ _ _ _ _ _=>False
abbrev E0:XK:=λ_ _ _=>False
theorem ck{X:Cx}:tQ bI X E0:=λ_ _ _ _ _ _ _ h=>h.elim
structure iM(K:Frag)(x iR:Str)(st:Stmt)(f:Addr)(fd:FuncData):Prop where
 ex:∃ (oc:Value) (od:Option Addr) (kV AI pm:Value) (an:Option Addr) (dP ct:Value) (OS:Array (Option Value)),
  fd=fnOf x iR (sQ st) (ni st) (aA st) .none kV AI pm an dP ct/\K.lookup f=some ⟨oc,od,.func fd,OS⟩/\codeIn K dP iR=true
 kp:keepIn K (.ref f)=true
section
variable {P:Program} {w:World} {K:Frag} {mg:Str->Option Value} {zt:Heap}
theorem iM.ok{x iR:Str}{st:Stmt}{f:Addr}{N ps:List Str}{k:Nat}{sp:Sp}(F:iM K x iR st f fd)(S:aL N ps (aA st))(len:∀ vs H Q E,sp vs H Q E->vs.length=ps.length)
  (Hv:∀ (dP:Value) (A:Around) (zn:List Env) (s:Shared) (H:Hp) (vs:List V) (Q:VK) (E:XK),mC k (A.deeper (envOfC iR (aA st) s.heap.objs.size f dP))->sp vs H Q E->
   ∃ t,LF (Kf bI P w K mg zt N iR (aA st) f dP A zn s H E).Nn (ni st) t/\t { nx:=λ_ H'=>Q .jj H',rt:=Q } (start N vs) H):aF P w K mg zt bI (k+1) f fd ps sp:=by
 obtain⟨oc,od,kV,AI,pm,an,dP,ct,OS,rfl,lk,Ph⟩:=F.ex;refine Zl lk Ph S len λA zn s H vs Q E hr NC=>?_;obtain⟨t,h,q⟩:=Hv dP A zn s H vs Q E hr NC;exact⟨t,h.Nn,q⟩
theorem iM.binds{x iR:Str}{st:Stmt}{f:Addr}{ps:List Str}(F:iM K x iR st f fd)
  (h:∀ (kV AI pm:Value) (an:Option Addr) (dP ct:Value) (us:List Value),us.length=ps.length->bindArgs (fnOf x iR (sQ st) (ni st) (aA st) .none kV AI pm an dP ct) ⟨us,[]⟩=pure (ps.zip us)):Binds K fd ps []:=by
 obtain⟨oc,od,kV,AI,pm,an,dP,ct,OS,rfl,lk,Ph⟩:=F.ex;exact .all (h kV AI pm an dP ct)
theorem Ko{x iR:Str}{st:Stmt}{f:Addr}{oc:Value}{od an:Option Addr}{OS:Array (Option Value)}{kV AI pm dP ct:Value}(l:K.lookup f=some ⟨oc,od,.func (fnOf x iR (sQ st) (ni st) (aA st) .none kV AI pm an dP ct),OS⟩)
  (c:codeIn K dP iR=true) (k:keepIn K (.ref f)=true):iM K x iR st f (fnOf x iR (sQ st) (ni st) (aA st) .none kV AI pm an dP ct):=⟨⟨oc,od,kV,AI,pm,an,dP,ct,OS,rfl,l,c⟩,k⟩
end
theorem lO{A:Around}{k:Nat}(hr:mC k A):A.units+1<cLine:=Nat.lt_of_le_of_lt (Nat.add_le_add_left (by decide:1<=64) _) hr.units
section
variable {X:Cx}
theorem pv(i:Nat){x:Str}{pos:Pos}(hN:X.N[i]?=some x:=by rfl)(hv:Vis X.env.scope x:=by first|exact Or.inl rfl|exact Or.inr (Or.inl rfl)|exact Or.inr (Or.inr rfl))(hd:(x == ("__debug__":Str))=false:=by decide)
  (Ph:(x == ("__classdict__":Str))=false:=by decide):PE X (.Name x pos) (Wy i):=Wz hN hv hd Ph
end
theorem gH{A B:Prop}(h:B):if false=true then A else B:=by
 rw[if_neg jQ];exact h
theorem j3{A B:Prop}(h:A):if true=true then A else B:=by
 rw[if_pos rfl];exact h
theorem dQ{c A B:Prop} [Decidable c] (h1:c->A) (h2:¬ c->B):if c then A else B:=by
 by_cases h:c
 ·rw[if_pos h];exact h1 h
 ·rw[if_neg h];exact h2 h
theorem P8{c A B:Prop} [Decidable c] (hc:c) (h:B):if (!decide c)=true then A else B:=by
 rw[decide_eq_true hc];exact gH h
def aK(H H':Hp):Prop:=∀ b o,H b=some o->H' b=some o
theorem aK.refl(H:Hp):aK H H:=λ_ _ h=>h
theorem aK.trans{H H1 H2:Hp}(a:aK H H1)(b:aK H1 H2):aK H H2:=λc o h=>b c o (a c o h)
theorem aK.free{H H':Hp}(e:aK H H'){l:Addr}(h:H' l=Option.none):H l=Option.none:=by
 cases q:H l with
 | none=>rfl
 | some o =>
  rw[e l o q]at h;cases h
end L2
namespace jy
open L2
def top(i:Nat):Stmt:=PySem.Challenge.pw_inkroot_k53_common_of_sheets.main.body.getD i (.Pass ⟨0,0,0,0⟩)
def Tw:Stmt->List Stmt
 | .ClassDef (body:=b) ..=>b
 | _=>[]
def lP(i j:Nat):Stmt:=(Tw (top i)).getD j (.Pass ⟨0,0,0,0⟩)
inductive DI(K:Frag)(x:Str)(st:Stmt)(f:Addr):Prop
 | mk {oc:Value} {od an:Option Addr} {OS:Array (Option Value)} {kV AI pm dP ct:Value} (_:nsIn K mainGlobals x=some (some (.ref f))) (_:K.lookup f=some ⟨oc,od,.func (fnOf x x (sQ st) (ni st) (aA st) .none kV AI pm an dP ct),OS⟩) (_:codeIn K dP x=true) (_:keepIn K (.ref f)=true)
inductive MI(K:Frag)(C:Addr)(x iR:Str)(st:Stmt)(f:Addr):Prop
 | mk {oc:Value} {od an:Option Addr} {OS:Array (Option Value)} {kV AI pm dP ct:Value} (_:findIn K (.ref C) x=some (some (.ref f))) (_:isFn K (.ref f)=true) (_:K.lookup f=some ⟨oc,od,.func (fnOf x iR (sQ st) (ni st) (aA st) .none kV AI pm an dP ct),OS⟩) (_:codeIn K dP iR=true) (_:keepIn K (.ref f)=true)
inductive CI(K:Frag)(x:Str)(C:Addr):Prop
 | mk (_:nsIn K mainGlobals x=some (some (.ref C))) (_:plainGet K C Str.empty=true) (_:hasDictIn K C=true) (_:plainOver K C=true) (_:findIn K (.ref C) "__setattr__"=some (some (.builtin "object.__setattr__"))) (_:makesIn K C=true) (_:keepIn K (.ref C)=true)
inductive P9(K:Frag)(vs:List V)(H:Hp)(Q:VK)(E:XK):Prop
 | mk (a:Addr) (ns:List Int) (_:vs=[.ref a]) (_:bM K H a (ns.map V.int)) (_:ns.length<=63) (_: ∀ H',Q (.bl true) H')
abbrev zO:Stmt:=top 74
abbrev kg:Stmt:=top 75
abbrev pW:Stmt:=top 76
abbrev uK:Stmt:=top 77
abbrev mD:Stmt:=top 11
abbrev sR:Stmt:=top 12
abbrev iE:Stmt:=top 14
abbrev pB:Stmt:=top 15
abbrev Hy:Stmt:=top 16
abbrev l6:Stmt:=lP 27 0
abbrev rN:Stmt:=top 17
abbrev Cc:Stmt:=top 29
abbrev pX:Stmt:=top 30
abbrev pY:Stmt:=top 31
abbrev wJ:Stmt:=top 32
abbrev fX:Stmt:=top 36
abbrev mE:Stmt:=top 37
abbrev lg:Stmt:=top 44
abbrev Hz:Stmt:=top 45
abbrev lu:Stmt:=top 42
abbrev jo:Stmt:=top 43
abbrev gV:Stmt:=top 38
abbrev eO:Stmt:=top 39
abbrev yc:Stmt:=top 40
abbrev nj:Stmt:=top 47
abbrev iY:Stmt:=top 48
abbrev rO:Stmt:=top 49
abbrev uL:Stmt:=top 50
abbrev oQ:Stmt:=top 51
abbrev uM:Stmt:=top 53
abbrev sS:Stmt:=top 52
abbrev rP:Stmt:=top 54
abbrev nu:Stmt:=top 55
abbrev nv:Stmt:=top 56
abbrev mF:Stmt:=top 58
abbrev pZ:Stmt:=top 59
abbrev uh:Stmt:=top 61
abbrev l9:Stmt:=lP 62 0
abbrev jJ:Stmt:=lP 62 3
abbrev mR:Stmt:=lP 62 2
abbrev qb:Stmt:=lP 62 1
abbrev jK:Stmt:=lP 62 4
abbrev eX:Stmt:=lP 62 5
abbrev iL:Stmt:=lP 62 10
abbrev sU:Stmt:=lP 62 9
abbrev ny:Stmt:=lP 64 0
abbrev nC:Stmt:=lP 34 0
abbrev nF:Stmt:=lP 66 0
abbrev oR:Stmt:=lP 66 2
abbrev uN:Stmt:=lP 66 1
abbrev qc:Stmt:=lP 66 6
abbrev qQ:Stmt:=top 71
abbrev cC:Stmt:=lP 72 1
abbrev pC:Stmt:=lP 72 26
abbrev cS:Stmt:=lP 72 2
abbrev nH:Stmt:=lP 72 3
abbrev ki:Stmt:=lP 72 7
abbrev gJ:Stmt:=lP 72 30
abbrev jW:Stmt:=lP 72 6
abbrev jL:Stmt:=lP 72 27
abbrev eY:Stmt:=lP 72 4
abbrev nI:Stmt:=lP 72 8
abbrev nJ:Stmt:=lP 72 0
abbrev qR:Stmt:=lP 72 9
abbrev nK:Stmt:=lP 72 11
abbrev mh:Stmt:=lP 72 12
abbrev qS:Stmt:=lP 72 13
abbrev pD:Stmt:=lP 72 10
abbrev qC:Stmt:=lP 72 43
abbrev uO:Stmt:=top 97
abbrev sV:Stmt:=top 85
abbrev oS:Stmt:=top 86
abbrev oU:Stmt:=top 87
abbrev qd:Stmt:=top 78
abbrev jM:Stmt:=top 80
abbrev pF:Stmt:=top 81
abbrev ly:Stmt:=top 82
abbrev wK:Stmt:=top 83
abbrev wL:Stmt:=top 84
abbrev lS:Stmt:=top 88
abbrev rQ:Stmt:=top 89
abbrev sW:Stmt:=top 90
abbrev xB:Stmt:=lP 72 14
abbrev uP:Stmt:=top 91
abbrev pG:Stmt:=top 92
abbrev pH:Stmt:=top 93
abbrev uQ:Stmt:=top 94
abbrev yd:Stmt:=top 95
abbrev sX:Stmt:=top 96
abbrev uR:Stmt:=top 98
abbrev Tz:Stmt:=top 99
end jy
namespace jy
open L2
inductive Pm(K:Frag)(mg:Str->Option Value)(fa:Addr):Prop
 | mk {h:Heap} {DH DJ Qa:Tok} (gZ mS mG HF L0 bP:Addr) (X:K.In h) (G:h.Ns mainGlobals mg) (hfa:mg "law"=some (.ref fa))
  (L5:CI K "Shelf" gZ)
  (L7:findIn K (.ref gZ) "states"=some none)
  (Et:findIn K (.ref gZ) "openings"=some none)
  (Qc:CI K "Well" mS)
  (Kp:findIn K (.ref mS) "signs"=some none)
  (FE:findIn K (.ref mS) "owners"=some none)
  (zP:findIn K (.ref mS) "pourings"=some none)
  (Ma:CI K "Blots" mG)
  (FF:findIn K (.ref mG) "stains"=some none)
  (Qd:CI K "Ties" HF)
  (Qe:findIn K (.ref HF) "given"=some none)
  (Qf:findIn K (.ref HF) "pairs"=some none)
  (Qg:CI K "Dues" L0)
  (Vj:findIn K (.ref L0) "sums"=some none)
  (Eu:CI K "Library" bP)
  (Vk:findIn K (.ref bP) "well"=some none)
  (Qh:findIn K (.ref bP) "shelf"=some none)
  (Qi:findIn K (.ref bP) "blots"=some none)
  (Qj:findIn K (.ref bP) "knots"=some none)
  (Vl:findIn K (.ref bP) "dues"=some none)
  (Vm:findIn K (.ref bP) "book"=some none)
  (q0:DI K "_law_src" zO f0)
  (q1:DI K "_law_next" kg f1)
  (q2:DI K "_law_whole" pW f2)
  (q3:DI K "_law_same" uK f3)
  (q4:DI K "plain" mD f4)
  (q5:DI K "size" sR f5)
  (q6:DI K "check_places" iE f6)
  (q7:DI K "pieces" pB f7)
  (q8:DI K "part" Hy f8)
  (q9:MI K mG "__init__" "Blots.__init__" l6 f9)
  (Ew:DI K "addresses" rN f10)
  (q11:DI K "spots" Cc f11)
  (q12:DI K "goes_ahead" pX f12)
  (q13:DI K "run_length" pY f13)
  (q14:DI K "greatest" wJ f14)
  (q15:DI K "windows" fX f15)
  (q16:DI K "below" mE f16)
  (q17:DI K "way_between" lg f17)
  (q18:DI K "ring" Hz f18)
  (q19:DI K "item_weight" lu f19)
  (q20:DI K "weights_below" jo f20)
  (q21:DI K "item_row" gV f21)
  (q22:DI K "views_below" eO f22)
  (q23:DI K "shown" yc f23)
  (q24:DI K "goes_on" nj f24)
  (q25:DI K "plain_items" iY f25)
  (q26:DI K "inked" rO f26)
  (q27:DI K "dealt" uL f27)
  (q28:DI K "put_among" oQ f28)
  (q29:DI K "put_items" uM f29)
  (q30:DI K "parted" sS f30)
  (q31:DI K "cut_items" rP f31)
  (q32:DI K "moved_items" nu f32)
  (q33:DI K "fixed_items" nv f33)
  (q34:DI K "ink_words" mF f34)
  (q35:DI K "shown_deed" pZ f35)
  (q36:DI K "changed" uh f36)
  (q37:MI K gZ "__init__" "Shelf.__init__" l9 f37)
  (q38:MI K gZ "now" "Shelf.now" jJ f38)
  (q39:MI K gZ "many" "Shelf.many" mR f39)
  (q40:MI K gZ "step" "Shelf.step" qb f40)
  (q41:MI K gZ "check_sheet" "Shelf.check_sheet" jK f41)
  (q42:MI K gZ "check_moment" "Shelf.check_moment" eX f42)
  (q43:MI K gZ "rows_then" "Shelf.rows_then" iL f43)
  (q44:MI K gZ "rows" "Shelf.rows" sU f44)
  (q45:MI K HF "__init__" "Ties.__init__" ny f45)
  (q46:MI K L0 "__init__" "Dues.__init__" nC f46)
  (q47:MI K mS "__init__" "Well.__init__" nF f47)
  (q48:MI K mS "size" "Well.size" oR f48)
  (q49:MI K mS "pour" "Well.pour" uN f49)
  (q50:MI K mS "holds" "Well.holds" qc f50)
  (q51:DI K "check_weave" qQ f51)
  (q52:MI K bP "__init__" "Library.__init__" nJ f52)
  (q53:MI K bP "enter" "Library.enter" cC f53)
  (q54:MI K bP "change" "Library.change" cS f54)
  (q55:MI K bP "many" "Library.many" pC f55)
  (q56:MI K bP "begin" "Library.begin" nH f56)
  (q57:MI K bP "fresh" "Library.fresh" ki f57)
  (q58:MI K bP "ink" "Library.ink" jL f58)
  (q59:MI K bP "check_held" "Library.check_held" eY f59)
  (q60:MI K bP "pour" "Library.pour" jW f60)
  (q61:MI K bP "put" "Library.put" nI f61)
  (q62:MI K bP "shown" "Library.shown" gJ f62)
  (q63:MI K bP "cut" "Library.cut" qR f63)
  (q64:MI K bP "quote" "Library.quote" nK f64)
  (q65:MI K bP "window" "Library.window" mh f65)
  (q66:MI K bP "fix" "Library.fix" qS f66)
  (q67:MI K bP "move" "Library.move" pD f67)
  (q68:MI K bP "common" "Library.common" qC f68)
  (q69:DI K "_law_common" uO f69)
  (q70:DI K "_law_world" sV f70)
  (q71:DI K "_law_keep" oS f71)
  (q72:DI K "_law_swap" oU f72)
  (q73:DI K "_law_spell" qd f73)
  (q74:DI K "_law_show" jM f74)
  (q75:DI K "_law_reached" pF f75)
  (q76:DI K "_law_pieces" ly f76)
  (q77:DI K "_law_put" wK f77)
  (q78:DI K "_law_cut" wL f78)
  (q79:DI K "_law_weighed" lS f79)
  (q80:DI K "_law_fits" rQ f80)
  (q81:DI K "_law_after" sW f81)
  (q82:MI K bP "back" "Library.back" xB f82)
  (q83:DI K "_law_done" uP f83)
  (q84:DI K "_law_ink_row" pG f84)
  (q85:DI K "_law_move_by" pH f85)
  (q86:DI K "_law_draw" uQ f86)
  (q87:DI K "_law_deed" yd f87)
  (q88:DI K "_law_begin" sX f88)
  (q89:DI K "_law_long" uR f89)
  (q90:DI K "law" Tz f90)
  (z0:nsIn K mainGlobals "len"=some none)
  (z1:nsIn K mainGlobals "list"=some none)
  (z2:nsIn K mainGlobals "tuple"=some none)
  (z3:nsIn K mainGlobals "int"=some none)
  (z4:nsIn K mainGlobals "bool"=some none)
  (z5:nsIn K mainGlobals "str"=some none)
  (z6:nsIn K mainGlobals "range"=some none)
  (z7:nsIn K mainGlobals "zip"=some none)
  (z8:nsIn K mainGlobals "isinstance"=some none)
  (z9:nsIn K mainGlobals "sum"=some none)
  (z10:nsIn K mainGlobals "min"=some none)
  (z11:nsIn K mainGlobals "max"=some none)
  (z12:nsIn K mainGlobals "all"=some none)
  (z13:nsIn K mainGlobals "enumerate"=some none)
  (xC:nsIn K mainGlobals "MOST_SHEETS"=some (some (.int 40 DH)))
  (xD:nsIn K mainGlobals "MOST_WEIGHT"=some (some (.int 200 DJ)))
  (HG:nsIn K mainGlobals "HIDDEN"=some (some (.str "#" Qa)))
  (yQ:nsIn K mainGlobals "size_spans"=some (some (.ref f5)))
  (xE:nsIn K mainGlobals "shown_weave"=some (some (.ref f23)))
def Vn:Prop:=∀ {P:Program} {w:World} {K:Frag} {mg:Str->Option Value} {fa:Addr},Pm K mg fa->∃ fd:FuncData,(∀ (s:Shared) (v:Value),BindsTo s fd ⟨[v],[]⟩ [("_law_script",v)])/\∀ zt:Heap,K.In zt->zt.Ns mainGlobals mg->aF P w K mg zt bI 47 fa fd ["_law_script"] (P9 K)
theorem walk{l:PySem.W.OpenLaw}{q:Program}{Er:List Str}{XP:(Str->Option Value)->Heap->Prop}{YP:World->Heap->Prop}{d:DefRec}{K:Params->Frag}(hn:l.most=some 63)(Zx:d.params.defaults=[])
  (hY:∀ (w:World) (h:Heap),YP w h->(K w.params).In h)
  (F:∀ (w:World) (mg:Str->Option Value) (fa:Addr) (h:Heap),(K w.params).In h->h.Ns mainGlobals mg->mg d.name=some (.ref fa)->
   ∃ fd:FuncData,(∀ (s:Shared) (u:Value),BindsTo s fd ⟨[u],[]⟩ [("_law_script",u)])/\∀ zt:Heap,(K w.params).In zt->zt.Ns mainGlobals mg->aF l.prog w (K w.params) mg zt bI 47 fa fd ["_law_script"] (P9 (K w.params))) :
  PySem.W.WalkO q Er XP YP l.row.toRowW d [] (λf vs=>PySem.call f vs) :=
 L2.Tv (n:=63) (k:=47) (x:="_law_script") (CX:=λ_=>bI) (sp:=λw=>P9 (K w.params)) hn (by decide) Zx ⟨rfl,by decide,by decide⟩ hY F (λ_ _ a ns hl _ hS=>⟨a,ns,rfl,hS,hl,λ_=>rfl⟩) λ_ _ _ _ _ z=>z
end jy
namespace InkHd
open PySem.W Rows
set_option maxRecDepth 100000 in
set_option maxHeartbeats 0 in
theorem hd2(A:jy.Vn):PySem.Challenge.rw_inkroot_k53_common_of_sheets.Holds:=by
 refine hd_k53 ?_
 k_fill
 refine jy.walk (l:=PySem.Challenge.rw_inkroot_k53_common_of_sheets) rfl rfl (λw h Y=>kIn_of Y) ?F
 case F =>
  intro w mg fa h KX G Zy
  refine' A (.mk _ _ _ _ _ _ KX G Zy (.mk ..) _ _ (.mk ..) _ _ _ (.mk ..) _ (.mk ..) _ _ (.mk ..) _ (.mk ..) _ _ _ _ _ _ (.mk ..) (.mk ..) (.mk ..) (.mk ..) (.mk ..) (.mk ..) (.mk ..) (.mk ..) (.mk ..) (.mk ..) (.mk ..) (.mk ..) (.mk ..) (.mk ..) (.mk ..) (.mk ..) (.mk ..) (.mk ..) (.mk ..) (.mk ..) (.mk ..) (.mk ..) (.mk ..) (.mk ..) (.mk ..) (.mk ..) (.mk ..) (.mk ..) (.mk ..) (.mk ..) (.mk ..) (.mk ..) (.mk ..) (.mk ..) (.mk ..) (.mk ..) (.mk ..) (.mk ..) (.mk ..) (.mk ..) (.mk ..) (.mk ..) (.mk ..) (.mk ..) (.mk ..) (.mk ..) (.mk ..) (.mk ..) (.mk ..) (.mk ..) (.mk ..) (.mk ..) (.mk ..) (.mk ..) (.mk ..) (.mk ..) (.mk ..) (.mk ..) (.mk ..) (.mk ..) (.mk ..) (.mk ..) (.mk ..) (.mk ..) (.mk ..) (.mk ..) (.mk ..) (.mk ..) (.mk ..) (.mk ..) (.mk ..) (.mk ..) (.mk ..) (.mk ..) (.mk ..) (.mk ..) (.mk ..) (.mk ..) (.mk ..) (.mk ..) (.mk ..) (.mk ..) (.mk ..) (.mk ..) (.mk ..) (.mk ..) (.mk ..) (.mk ..) (.mk ..) (.mk ..) (.mk ..) _ _ _ _ _ _ _ _ _ _ _ _ _ _ _ _ _ _ _)
  all_goals try first|k_is|k_exc|kts_exm
end InkHd
namespace dz
open Spec Rows L2
section
variable {X:Cx}
theorem fF:pS X (.builtin "isinstance") (λxs H Q=>∃ x T t b,xs=[x,.ty T]/\pU X.K H x t/\kitOne X.K t (.type T)=some b/\Q (.bl b) H):=by
 intro ao s σ H xs us Q I r h;obtain⟨x,T,t,b,rfl,ty,e,q⟩:=h;obtain⟨u,v,rfl,rx,rv⟩:=r.two;cases (show v=Value.type T from rv);exact Nv I rx ty e λtk=>⟨.bl b,H,I.tok tk,rfl,q⟩
theorem vp{x:Str}{T:String}(hg:Gl X x)(hm:X.mg x=none)(hv:bootBuiltins x=some (.type T))(hn:x≠"__name__":=by decide)(hd:(x == ("__debug__":Str))=false:=by decide):PE X (.Name x pos) (tC (.ty T)) :=
 SX hg hm hv rfl hn hd
end
theorem Mb{X:Cx}{σ:L2.St}{H:Hp}{s:Shared}{h':Heap}{t':Nat}{ch:List Addr}(I:Inv X ao σ H s)(k:∀ b o,b∉ch->s.heap.get? b=some o->h'.get? b=some o)
  (hf:∀ b∈ch,uI X ao H b):Inv X ao σ H { s with heap:=h',toks:=t' }:=by
 have Vb:∀ b u,H b=some u->b∉ch:=λb u e z=>by rw[(hf b z).1]at e;cases e
 refine I.step (g':=s.gens) (d':=s.drawn) (ch:=ch) (λb hb=>?_) (λb o _ _ hc e _=>k b o hc e) (λb o _ _ hc e _=>⟨o.slots,k b o hc e⟩) (λ_ _ _ _ n=>n) (λb o hc e=>⟨o,k b o hc e⟩) (λ_ _ e=>e) (λ_ _ _ e=>e) (λb ps e=>⟨#[],by rw[e];simp⟩) (λm hm=>?_) (λb u e=>?_) I.bare
 ·obtain⟨_,f1,_,f3,f4,f5⟩:=hf b hb;exact⟨f3,f1,f4,f5⟩
 ·obtain⟨o,es,ep,ho,r⟩:=hm;exact⟨o,es,ep,k _ o (λz=>(hf _ z).2.1 rfl) ho,r⟩
 ·refine (I.hok b u e).stay (λc v hc q=>k c v ?_ q) (λ_ q=>q) λ_ _ q=>q;rcases hc with z|z
  ·rw[z];exact Vb b u e
  ·exact Vb c _ z
theorem Vo{X:Cx}{σ:L2.St}{H:Hp}{s:Shared}{h':Heap}{t':Nat}{ch:List Addr}{p:Addr}{xs:List V}{us:List Value}(I:Inv X ao σ H s)(k:∀ b o,b∉ch->s.heap.get? b=some o->h'.get? b=some o)
  (hf:∀ b∈ch,uI X ao H b) (hp:s.heap.objs.size<=p) (hz:xs.length<=sizeLine) (rv:cH xs us) (ht:IsTup h' p us.toArray):Inv X ao σ (aN H p (.tup xs)) { s with heap:=h',toks:=t' }:=by
 have hn:H p=none:=I.hok.fresh hp;have Vb:∀ b u,H b=some u->b∉ch:=λb u e z=>by rw[(hf b z).1]at e;cases e
 have nep:∀ b o,s.heap.get? b=some o->b≠p:=λb o e z=>by subst z;exact absurd (vN (Heap.lt_size e) hp) (Nat.lt_irrefl _)
 refine I.step (g':=s.gens) (d':=s.drawn) (ch:=ch) (λb hb=>?_) (λb o _ _ hc e _=>k b o hc e) (λb o _ _ hc e _=>⟨o.slots,k b o hc e⟩) (λb o _ e n=>by rw[aH (nep b o e)];exact n) (λb o hc e=>⟨o,k b o hc e⟩) (λb ys e=>by rw[aH (az e hn)];exact e) (λb _ _ e=>by rw[aH (az e hn)];exact e) (λb ps e=>⟨#[],by rw[aH (az e hn),e];simp⟩) (λm hm=>?_) (λb u e=>?_) I.bare
 ·obtain⟨_,f1,_,f3,f4,f5⟩:=hf b hb;exact⟨f3,f1,f4,f5⟩
 ·obtain⟨o,es,ep,ho,r⟩:=hm;exact⟨o,es,ep,k _ o (λz=>(hf _ z).2.1 rfl) ho,r⟩
 ·by_cases hb:b=p
  ·subst hb;rw[af]at e;cases e;exact⟨hz,us,rv,ht⟩
  ·rw[aH hb]at e;refine (I.hok b u e).stay (λc v hc q=>k c v ?_ q) (λc q=>by rw[aH (az q hn)];exact q) λc ys q=>by rw[aH (az q hn)];exact q
   rcases hc with z|z
   ·rw[z];exact Vb b u e
   ·exact Vb c _ z
def JN(k:Bool)(h:Heap)(i a:Addr)(n:Nat):Prop:=match k with
 | true=>h.IsListIter i a n
 | false=>h.IsTupleIter i a n
def Dz(k:Bool)(h:Heap)(a:Addr)(xs:Array Value):Prop:=match k with
 | true=>h.IsList a xs
 | false=>h.IsTuple a xs
theorem JN.at{k:Bool}{h h':Heap}{i a:Addr}{n:Nat}(x:JN k h i a n)(e:∀ o,h.get? i=some o->h'.get? i=some o):JN k h' i a n:=by
 cases k
 ·obtain⟨o,ho,r⟩:=x;exact⟨o,e o ho,r⟩
 ·obtain⟨o,ho,r⟩:=x;exact⟨o,e o ho,r⟩
theorem Dz.at{k:Bool}{h h':Heap}{a:Addr}{xs:Array Value}(x:Dz k h a xs)(e:∀ o,h.get? a=some o->h'.get? a=some o):Dz k h' a xs:=by
 cases k
 ·obtain⟨o,ho,r⟩:=x;exact⟨o,e o ho,r⟩
 ·obtain⟨o,ho,r⟩:=x;exact⟨o,e o ho,r⟩
theorem JN.obj{k:Bool}{h:Heap}{i a:Addr}{n:Nat}(x:JN k h i a n):∃ o,h.get? i=some o/\∀ v,o.data≠.cell v:=by
 cases k
 ·obtain⟨o,ho,_,d⟩:=x;exact⟨o,ho,λv z=>by rw[d]at z;cases z⟩
 ·obtain⟨o,ho,_,d⟩:=x;exact⟨o,ho,λv z=>by rw[d]at z;cases z⟩
section
variable {prog:Program} {w:World} {A:Around} {E:Value->Shared->Prop} {s:Shared}
theorem Kq{it t:Addr}{i:Nat}{items:Array Value}{x:Value}{Q:Value->Shared->Prop}(uE:s.heap.IsTupleIter it t i)(ht:s.heap.IsTuple t items)(hx:items[i]?=some x)
  (hQ:∀ h',h'.IsTupleIter it t (i+1)->Heap.SameBut it s.heap h'->Q x { s with heap:=h' }):wpAny (model prog w) A (Builtin.SmallTypes.nextOf (.ref it)) Q E s:=by
 obtain⟨o,ho,hc,hd⟩:=id uE;obtain⟨ol,hol,_,nl,TF⟩:=ht;unfold Builtin.SmallTypes.nextOf;refine wpAny_bind (wpAny_callSpecial?_slot (name:=Str.ofString "__next__") uE.typeIs F.slot_tuple_iterator_next (wpAny_call_entry F.slot_tuple_iterator_next uE.typeIs F.entry_tuple_iterator_next ?_ (F.args_tuple_iterator_next_1 _)));show wpAny _ _ (field (.ref it) 0 >>= _) _ _ s;refine wpAny_bind (wpAny_field ho hd (x:=.ref t) rfl ?_);show wpAny _ _ (if (Value.ref t == Value.none)=true then _ else _) _ _ s;rw[if_neg (show ¬ ((Value.ref t == Value.none)=true) from jQ)];show wpAny _ _ (field (.ref it) 1 >>= _) _ _ s;refine wpAny_bind (wpAny_field ho hd (x:=.int i 0) rfl ?_);show wpAny _ _ (seqItems? (.ref t) >>= _) _ _ s;refine wpAny_bind (wpAny_seqItems hol TF ?_);simp only[Int.toNat_natCast,hx];refine wpAny_bind (wpAny_setField ho hd (by simp) (wpAny_pure ⟨x,rfl,wpAny_pure (hQ _ ?_ (Heap.SameBut.update ..))⟩));refine⟨_,Heap.get?_update_self _ ho (Obj.isFreed_of_fields (Obj.data_mapFields hd _)),(Obj.cls_mapFields ..).trans hc,?_⟩;rw[Obj.data_mapFields hd];simp[rawInt]
theorem NH{it t:Addr}{i:Nat}{items:Array Value}{Q:Value->Shared->Prop}(hh:A.handled=none)(uE:s.heap.IsTupleIter it t i)(ht:s.heap.IsTuple t items)(hx:items[i]?=none)
  (hE:∀ h' e,Heap.ExtBut it s.heap h'->(∃ o,h'.get? e=some o/\o.cls=.type "StopIteration")->E (.ref e) { s with heap:=h' }):wpAny (model prog w) A (Builtin.SmallTypes.nextOf (.ref it)) Q E s:=by
 obtain⟨o,ho,hc,hd⟩:=id uE;obtain⟨ol,hol,_,nl,TF⟩:=ht;unfold Builtin.SmallTypes.nextOf;refine wpAny_bind (wpAny_callSpecial?_slot (name:=Str.ofString "__next__") uE.typeIs F.slot_tuple_iterator_next (wpAny_call_entry F.slot_tuple_iterator_next uE.typeIs F.entry_tuple_iterator_next ?_ (F.args_tuple_iterator_next_1 _)));show wpAny _ _ (field (.ref it) 0 >>= _) _ _ s;refine wpAny_bind (wpAny_field ho hd (x:=.ref t) rfl ?_);show wpAny _ _ (if (Value.ref t == Value.none)=true then _ else _) _ _ s;rw[if_neg (show ¬ ((Value.ref t == Value.none)=true) from jQ)];show wpAny _ _ (field (.ref it) 1 >>= _) _ _ s;refine wpAny_bind (wpAny_field ho hd (x:=.int i 0) rfl ?_);show wpAny _ _ (seqItems? (.ref t) >>= _) _ _ s;refine wpAny_bind (wpAny_seqItems hol TF ?_);simp only[Int.toNat_natCast,hx];refine wpAny_bind (wpAny_rule (wpAny_bind (wpAny_setField ho hd (by simp) ?_)));show wpAny _ _ (newExc (.type "StopIteration") [] >>= _) _ _ _;refine wpAny_bind ?_;simp only[newExc,newTuple];refine wpAny_bind (wpAny_newObj_type ?_ (by size_fits))
 refine wpAny_bind (m:=firstArgMember _ _) (wpAny_of_eq (a:=Value.none) (by first|rfl|(simp only[firstArgMember];rfl)) ?_)
 refine wpAny_newObj_type ?_ (by size_fits);simp only[raiseNew];refine wpAny_bind (wpAny_handled ?_)
 first|rw[show A.in1.handled=none from hh]|rw[hh]
 refine wpAny_bind (wpAny_pure (wpAny_throw ?_));exact hE _ _ (((Heap.SameBut.update ..).extBut.push _).push _) ⟨_,Heap.get?_push_size _ rfl,rfl⟩
theorem ye{k:Bool}{it t:Addr}{i:Nat}{items:Array Value}{x:Value}{Q:Value->Shared->Prop}(uE:JN k s.heap it t i)(ht:Dz k s.heap t items)(hx:items[i]?=some x)
  (hQ:∀ h',JN k h' it t (i+1)->Heap.SameBut it s.heap h'->Q x { s with heap:=h' }):wpAny (model prog w) A (Builtin.SmallTypes.nextOf (.ref it)) Q E s:=by
 cases k
 ·exact Kq uE ht hx hQ
 ·exact wpAny_nextOf_list_item uE ht hx hQ
theorem Ex{k:Bool}{it t:Addr}{i:Nat}{items:Array Value}{Q:Value->Shared->Prop}(hh:A.handled=none)(uE:JN k s.heap it t i)(ht:Dz k s.heap t items)(hx:items[i]?=none)
  (hE:∀ h' e,Heap.ExtBut it s.heap h'->(∃ o,h'.get? e=some o/\o.cls=.type "StopIteration")->E (.ref e) { s with heap:=h' }):wpAny (model prog w) A (Builtin.SmallTypes.nextOf (.ref it)) Q E s:=by
 cases k
 ·exact NH hh uE ht hx hE
 ·exact wpAny_nextOf_list_end hh uE ht hx hE
abbrev Ey(k:Bool)(l:Addr):Obj:={ cls:=.type (if k then "list_iterator" else "tuple_iterator"),data:=.fields #[.ref l,.int 0 0] }
theorem Vp{k:Bool}{xs:Array Value}{Q:Value->Shared->Prop}(h:Dz k s.heap l xs)(hQ:Q (.ref s.heap.objs.size) { s with heap:=s.heap.push (Ey k l) }):wpAny (model prog w) A (pyIter (.ref l)) Q E s:=by
 cases k
 ·exact wpAny_pyIter_tuple h hQ
 ·exact wpAny_pyIter_list h hQ
structure Ez(k:Bool)(h:Heap)(z TI TO i1 i2 l1 l2:Addr)(n:Nat):Prop where
 z:IsZip h z TI TO .none
 ti:IsPair h TI (.ref i1) (.ref i2)
 to:∃ a b,IsPair h TO a b
 i1:JN k h i1 l1 n
 i2:JN k h i2 l2 n
theorem NI{k:Bool}{z TI TO i1 i2 l1 l2:Addr}{n:Nat}{xs ys:Array Value}{x y:Value}{Q:Value->Shared->Prop}(D:ZipApart z TI TO i1 i2 l1 l2)(st:Ez k s.heap z TI TO i1 i2 l1 l2 n)
  (Kr:Dz k s.heap l1 xs) (FD:Dz k s.heap l2 ys) (hx:xs[n]?=some x) (hy:ys[n]?=some y)
  (hQ:∀ h',IsZip h' z TI TO (rawInt s.heap.objs.size)->IsPair h' TO x y->JN k h' i1 l1 (n+1)->JN k h' i2 l2 (n+1)->IsPair h' s.heap.objs.size x y->
   (∀ c o,c≠z->c≠TO->c≠i1->c≠i2->s.heap.get? c=some o->h'.get? c=some o)->Q (.ref s.heap.objs.size) { s with heap:=h' }) :
  wpAny (model prog w) A (Builtin.«zip.__next__» ⟨[.ref z],[]⟩) (λlQ s'=>∃ v,lQ=.done (.ret v)/\Q v s') E s:=by
 obtain⟨hz,hTI,⟨a,b,hTO⟩,h1,h2⟩:=st;show wpAny _ _ (field (.ref z) 2 >>= _) _ _ _;refine wpAny_bind (wpAny_field hz rfl (x:=.bool false) rfl ?_);show wpAny _ _ (field (.ref z) 3 >>= _) _ _ _;refine wpAny_bind (wpAny_field hz rfl (x:=.ref TI) rfl (wpAny_bind (wpAny_seqItems hTI rfl ?_)));show wpAny _ _ (Builtin.SmallTypes.ownedTupleIsFree (.ref z) >>= _) _ _ _;refine wpAny_bind ?_;unfold Builtin.SmallTypes.ownedTupleIsFree;refine wpAny_bind (wpAny_field hz rfl (x:=.none) rfl (wpAny_pure ?_));simp only[if_true];refine wpAny_bind (wpAny_rule (wpAny_bind (wpAny_field hz rfl (x:=.ref TO) rfl (wpAny_bind (wpAny_setField_rec hz (by simp) λg1 z1 c1=>?_)))))
 replace z1:IsZip g1 z TI TO .ellipsis:=z1
 refine wpAny_bind ?_;simp only[List.zipIdx_cons,List.zipIdx_nil,List.forIn_cons,List.forIn_nil];refine wpAny_bind (wpAny_bind (wpAny_onRaise ?_));show wpAny _ _ (Builtin.SmallTypes.nextOf (.ref i1) >>= _) _ _ _;refine wpAny_bind (ye (h1.at λo e=>c1.extBut _ _ D.i1z e) (Kr.at λo e=>c1.extBut _ _ D.l1z e) hx λg2 h12 c2=>wpAny_pure ?_);have o2:IsPair g2 TO a b:=c2.extBut _ _ D.TOi1 (c1.extBut _ _ D.TOz hTO);refine wpAny_bind (wpAny_seqItems o2 rfl (wpAny_bind (wpAny_updateSeq_pair o2 λg3 o3 c3=>?_)))
 replace o3:IsPair g3 TO x b:=o3
 refine wpAny_bind (wpAny_letGo (wpAny_pure (wpAny_bind (wpAny_bind (wpAny_onRaise ?_)))));show wpAny _ _ (Builtin.SmallTypes.nextOf (.ref i2) >>= _) _ _ _;refine wpAny_bind (ye (((h2.at λo e=>c1.extBut _ _ D.i2z e).at λo e=>c2.extBut _ _ D.i12.symm e).at λo e=>c3.extBut _ _ D.TOi2.symm e) (((FD.at λo e=>c1.extBut _ _ D.l2z e).at λo e=>c2.extBut _ _ D.l2i1 e).at λo e=>c3.extBut _ _ D.l2TO e) hy λg4 h24 c4=>wpAny_pure ?_);have o4:IsPair g4 TO x b:=c4.extBut _ _ D.TOi2 o3;refine wpAny_bind (wpAny_seqItems o4 rfl (wpAny_bind (wpAny_updateSeq_pair o4 λg5 o5 c5=>?_)))
 replace o5:IsPair g5 TO x y:=o5
 refine wpAny_bind (wpAny_letGo (wpAny_pure (wpAny_pure (wpAny_bind (wpAny_seqItems o5 rfl (wpAny_bind (wpAny_newTuple ?_)))))));have sz:g5.objs.size=s.heap.objs.size:=by rw[c5.1,c4.1,c3.1,c2.1,c1.1]
 have z5:IsZip g5 z TI TO .ellipsis:=c5.extBut _ _ D.TOz.symm (c4.extBut _ _ D.i2z.symm (c3.extBut _ _ D.TOz.symm (c2.extBut _ _ D.i1z.symm z1)));have k5:∀ c o,c≠z->c≠TO->c≠i1->c≠i2->s.heap.get? c=some o->g5.get? c=some o:=λc o n1 n2 n3 n4 e=>c5.extBut _ _ n2 (c4.extBut _ _ n4 (c3.extBut _ _ n2 (c2.extBut _ _ n3 (c1.extBut _ _ n1 e))));have h15:JN k g5 i1 l1 (n+1):=((h12.at λo e=>c3.extBut _ _ D.TOi1.symm e).at λo e=>c4.extBut _ _ D.i12 e).at λo e=>c5.extBut _ _ D.TOi1.symm e;have h25:JN k g5 i2 l2 (n+1):=h24.at λo e=>c5.extBut _ _ D.TOi2.symm e;have zlt:z<g5.objs.size:=Heap.lt_size z5;show wpAny _ _ (Builtin.SmallTypes.ownedTupleHandOut (.ref z) (.ref g5.objs.size) >>= _) _ _ _;refine wpAny_bind ?_;unfold Builtin.SmallTypes.ownedTupleHandOut;have z6:IsZip (g5.push { cls:=.type "tuple",data:=.seq #[x,y] }) z TI TO .ellipsis:=Heap.get?_push_of_some _ z5;refine wpAny_bind (wpAny_setField_rec z6 (by simp) λg7 z7 c7=>?_)
 replace z7:IsZip g7 z TI TO (rawInt g5.objs.size):=z7
 refine wpAny_setField_rec z7 (by simp) λg8 z8 c8=>?_
 replace z8:IsZip g8 z TI TO (rawInt g5.objs.size):=z8
 have up:∀ c o,c≠z->g5.get? c=some o->g8.get? c=some o:=λc o n1 e=>c8.extBut _ _ n1 (c7.extBut _ _ n1 (Heap.get?_push_of_some _ e));have t8:IsPair g8 g5.objs.size x y:=c8.extBut _ _ (Nat.ne_of_gt zlt) (c7.extBut _ _ (Nat.ne_of_gt zlt) (Heap.get?_push_size _ rfl));rw[sz]at z8 t8;refine wpAny_pure ⟨_,rfl,?_⟩;show Q (.ref g5.objs.size) _;rw[sz];exact hQ g8 z8 (up _ _ D.TOz o5) (h15.at λo e=>up _ o D.i1z e) (h25.at λo e=>up _ o D.i2z e) t8 λc o n1 n2 n3 n4 e=>up c o n1 (k5 c o n1 n2 n3 n4 e)
theorem Qk{k:Bool}{z TI TO i1 i2 l1 l2:Addr}{n:Nat}{xs ys:Array Value}{Q:Fin->Shared->Prop}(hh:A.handled=none)(D:ZipApart z TI TO i1 i2 l1 l2)(st:Ez k s.heap z TI TO i1 i2 l1 l2 n)
  (Kr:Dz k s.heap l1 xs) (FD:Dz k s.heap l2 ys) (Xa:xs[n]?=none\/ys[n]?=none)
  (hE:∀ h' e,(∀ c o,c≠z->c≠TO->c≠i1->c≠i2->s.heap.get? c=some o->h'.get? c=some o)->(∃ o,h'.get? e=some o/\o.cls=.type "StopIteration")->E (.ref e) { s with heap:=h' }) :
  wpAny (model prog w) A (Builtin.«zip.__next__» ⟨[.ref z],[]⟩) Q E s:=by
 obtain⟨hz,hTI,⟨a,b,hTO⟩,h1,h2⟩:=st;show wpAny _ _ (field (.ref z) 2 >>= _) _ _ _;refine wpAny_bind (wpAny_field hz rfl (x:=.bool false) rfl ?_);show wpAny _ _ (field (.ref z) 3 >>= _) _ _ _;refine wpAny_bind (wpAny_field hz rfl (x:=.ref TI) rfl (wpAny_bind (wpAny_seqItems hTI rfl ?_)));show wpAny _ _ (Builtin.SmallTypes.ownedTupleIsFree (.ref z) >>= _) _ _ _;refine wpAny_bind ?_;unfold Builtin.SmallTypes.ownedTupleIsFree;refine wpAny_bind (wpAny_field hz rfl (x:=.none) rfl (wpAny_pure ?_));simp only[if_true];refine wpAny_bind (wpAny_rule (wpAny_bind (wpAny_field hz rfl (x:=.ref TO) rfl (wpAny_bind (wpAny_setField_rec hz (by simp) λg1 z1 c1=>?_)))))
 replace z1:IsZip g1 z TI TO .ellipsis:=z1
 refine wpAny_bind ?_;simp only[List.zipIdx_cons,List.zipIdx_nil,List.forIn_cons,List.forIn_nil];refine wpAny_bind (wpAny_bind (wpAny_onRaise ?_));show wpAny _ _ (Builtin.SmallTypes.nextOf (.ref i1) >>= _) _ _ _
 cases hx:xs[n]? with
 | none =>
  refine wpAny_bind (Ex hh (h1.at λo e=>c1.extBut _ _ D.i1z e) (Kr.at λo e=>c1.extBut _ _ D.l1z e) hx λg2 e c2 he=>?_);obtain⟨oe,Xb,hce⟩:=he;have z2:IsZip g2 z TI TO .ellipsis:=c2 _ _ D.i1z.symm z1;have hez:e≠z:=λx=>by subst x;rw[z2]at Xb;cases Xb;simp at hce
  exact wpAny_setField_rec z2 (by simp) λg3 _ c3=>hE g3 e (λc o n1 _ n3 _ x=>c3.extBut _ _ n1 (c2 _ _ n3 (c1.extBut _ _ n1 x))) ⟨oe,c3.extBut _ _ hez Xb,hce⟩
 | some x =>
  have hy:ys[n]?=none:=by rcases Xa with h|h;(rw[hx]at h;cases h);exact h
  refine wpAny_bind (ye (h1.at λo e=>c1.extBut _ _ D.i1z e) (Kr.at λo e=>c1.extBut _ _ D.l1z e) hx λg2 h12 c2=>wpAny_pure ?_);have o2:IsPair g2 TO a b:=c2.extBut _ _ D.TOi1 (c1.extBut _ _ D.TOz hTO);refine wpAny_bind (wpAny_seqItems o2 rfl (wpAny_bind (wpAny_updateSeq_pair o2 λg3 o3 c3=>?_)));refine wpAny_bind (wpAny_letGo (wpAny_pure (wpAny_bind (wpAny_bind (wpAny_onRaise ?_)))));show wpAny _ _ (Builtin.SmallTypes.nextOf (.ref i2) >>= _) _ _ _;refine wpAny_bind (Ex hh (((h2.at λo e=>c1.extBut _ _ D.i2z e).at λo e=>c2.extBut _ _ D.i12.symm e).at λo e=>c3.extBut _ _ D.TOi2.symm e) (((FD.at λo e=>c1.extBut _ _ D.l2z e).at λo e=>c2.extBut _ _ D.l2i1 e).at λo e=>c3.extBut _ _ D.l2TO e) hy λg4 e c4 he=>?_);obtain⟨oe,Xb,hce⟩:=he;have z4:IsZip g4 z TI TO .ellipsis:=c4 _ _ D.i2z.symm (c3.extBut _ _ D.TOz.symm (c2.extBut _ _ D.i1z.symm z1));have hez:e≠z:=λx=>by subst x;rw[z4]at Xb;cases Xb;simp at hce
  exact wpAny_setField_rec z4 (by simp) λg5 _ c5=>hE g5 e (λc o n1 n2 n3 n4 x=>c5.extBut _ _ n1 (c4 _ _ n4 (c3.extBut _ _ n2 (c2.extBut _ _ n3 (c1.extBut _ _ n1 x))))) ⟨oe,c5.extBut _ _ hez Xb,hce⟩
theorem Ks{k:Bool}{z TI TO i1 i2 l1 l2:Addr}{n:Nat}{xs ys:Array Value}{x y:Value}{Q:Option Value->Shared->Prop}(D:ZipApart z TI TO i1 i2 l1 l2)(st:Ez k s.heap z TI TO i1 i2 l1 l2 n)
  (Kr:Dz k s.heap l1 xs) (FD:Dz k s.heap l2 ys) (hx:xs[n]?=some x) (hy:ys[n]?=some y)
  (hQ:∀ h',IsZip h' z TI TO (rawInt s.heap.objs.size)->IsPair h' TO x y->JN k h' i1 l1 (n+1)->JN k h' i2 l2 (n+1)->IsPair h' s.heap.objs.size x y->
   (∀ c o,c≠z->c≠TO->c≠i1->c≠i2->s.heap.get? c=some o->h'.get? c=some o)->Q (some (.ref s.heap.objs.size)) { s with heap:=h' }):wpAny (model prog w) A (pyNext (.ref z)) Q E s:=by
 have hT:s.TypeIs (.ref z) "zip":=⟨_,st.z,rfl⟩;unfold pyNext;exact wpAny_bind (wpAny_attempt (wpAny_callSpecial?_slot (name:=Str.ofString "__next__") hT F.slot_zip_next (wpAny_call_entry F.slot_zip_next hT F.entry_zip_next (NI D st Kr FD hx hy λh' a1 a2 a3 a4 a5 a7=>wpAny_pure (hQ h' a1 a2 a3 a4 a5 a7)) (F.args_zip_next_1 _))))
theorem NJ{k:Bool}{z TI TO i1 i2 l1 l2:Addr}{n:Nat}{xs ys:Array Value}{Q:Option Value->Shared->Prop}(hh:A.handled=none)(D:ZipApart z TI TO i1 i2 l1 l2)(st:Ez k s.heap z TI TO i1 i2 l1 l2 n)
  (Kr:Dz k s.heap l1 xs) (FD:Dz k s.heap l2 ys) (Xa:xs[n]?=none\/ys[n]?=none)
  (hQ:∀ h',(∀ c o,c≠z->c≠TO->c≠i1->c≠i2->s.heap.get? c=some o->h'.get? c=some o)->Q none { s with heap:=h' }):wpAny (model prog w) A (pyNext (.ref z)) Q E s:=by
 have hT:s.TypeIs (.ref z) "zip":=⟨_,st.z,rfl⟩;unfold pyNext;refine wpAny_bind (wpAny_attempt (wpAny_callSpecial?_slot (name:=Str.ofString "__next__") hT F.slot_zip_next (wpAny_call_entry F.slot_zip_next hT F.entry_zip_next (Qk hh D st Kr FD Xa λh' e hk he=>?_) (F.args_zip_next_1 _))));obtain⟨o,ho,hc⟩:=he;exact wpAny_bind (wpAny_isInstance (T:="StopIteration") (b:=true) ⟨o,ho,hc⟩ isSubtype_stop (wpAny_pure (hQ _ hk)))
end
abbrev zH1(k:Bool)(h:Heap)(l1:Addr):Heap:=h.push (Ey k l1)
abbrev zH2(k:Bool)(h:Heap)(l1 l2:Addr):Heap:=(zH1 k h l1).push (Ey k l2)
abbrev zH3(k:Bool)(h:Heap)(l1 l2:Addr):Heap:=(zH2 k h l1 l2).push { cls:=.type "tuple",data:=.seq #[.ref h.objs.size,.ref (zH1 k h l1).objs.size] }
abbrev zH4(k:Bool)(h:Heap)(l1 l2:Addr):Heap:=(zH3 k h l1 l2).push { cls:=.type "tuple",data:=.seq #[.none,.none] }
abbrev Ys(k:Bool)(h:Heap)(l1 l2:Addr):Heap:=(zH4 k h l1 l2).push { cls:=.type "zip",data:=.fields #[.none,.bool false,.bool false,.ref (zH2 k h l1 l2).objs.size,.ref (zH3 k h l1 l2).objs.size] }
theorem Ku(k:Bool)(l1 l2:Addr)(xs ys:Array Value) :
  Meets (Builtin.«zip.__new__» ⟨[.type "zip",.ref l1,.ref l2],[]⟩) (λ_ R s=>Dz k s.heap l1 xs/\Dz k s.heap l2 ys/\R (.ok (.ret (.ref (zH4 k s.heap l1 l2).objs.size))) { s with heap:=Ys k s.heap l1 l2 }) :=
 .of_wp λprog w A R s h=>by
  obtain⟨hp,g,d,tk,os⟩:=s;obtain⟨Kr,FD,h⟩:=h;have hsub:=sub_zip;have hL1:Dz k (Shared.heap ⟨hp,g,d,tk,os⟩) l1 xs:=Kr;have hL2:Dz k (Shared.heap ⟨hp.push (Ey k l1),g,d,tk,os⟩) l2 ys:=FD.at λo e=>Heap.get?_push_of_some _ e
  wp_walk using Vp hL1,Vp hL2
  exact⟨_,rfl,h⟩
section
variable {prog:Program} {w:World} {A:Around} {E:Value->Shared->Prop} {s:Shared}
theorem NK{k:Bool}{l1 l2:Addr}{xs ys:Array Value}{Q:Value->Shared->Prop}(Kr:Dz k s.heap l1 xs)(FD:Dz k s.heap l2 ys)
  (h:∀ h',Ez k h' (s.heap.objs.size+4) (s.heap.objs.size+2) (s.heap.objs.size+3) s.heap.objs.size (s.heap.objs.size+1) l1 l2 0->(∀ c o,s.heap.get? c=some o->h'.get? c=some o)->Q (.ref (s.heap.objs.size+4)) { s with heap:=h' }) :
  wpAny (model prog w) A (call (.type "zip") [.ref l1,.ref l2]) Q E s:=by
 refine callType_new F.called_zip (by decide) (F.typeCall_zip_2 _ _) (F.newCall_zip_2 _ _) (λobj=>F.args_object_init_3 obj _ _) F.entry_zip_new (Ku k l1 l2 xs ys) ⟨Kr,FD,?_⟩;have z1:(zH1 k s.heap l1).objs.size=s.heap.objs.size+1:=Heap.size_push ..;have z2:(zH2 k s.heap l1 l2).objs.size=s.heap.objs.size+2:=by rw[Heap.size_push,z1]
 have z3:(zH3 k s.heap l1 l2).objs.size=s.heap.objs.size+3:=by rw[Heap.size_push,z2]
 have z4:(zH4 k s.heap l1 l2).objs.size=s.heap.objs.size+4:=by rw[Heap.size_push,z3]
 have g5:(Ys k s.heap l1 l2).get? (zH4 k s.heap l1 l2).objs.size=some _:=Heap.get?_push_size _ rfl;have g4:(Ys k s.heap l1 l2).get? (zH3 k s.heap l1 l2).objs.size=some _:=Heap.get?_push_of_some _ (Heap.get?_push_size _ rfl);have g3:(Ys k s.heap l1 l2).get? (zH2 k s.heap l1 l2).objs.size=some _:=Heap.get?_push_of_some _ (Heap.get?_push_of_some _ (Heap.get?_push_size _ rfl));have g2:(Ys k s.heap l1 l2).get? (zH1 k s.heap l1).objs.size=some (Ey k l2):=Heap.get?_push_of_some _ (Heap.get?_push_of_some _ (Heap.get?_push_of_some _ (Heap.get?_push_size _ rfl)));have g1:(Ys k s.heap l1 l2).get? s.heap.objs.size=some (Ey k l1):=Heap.get?_push_of_some _ (Heap.get?_push_of_some _ (Heap.get?_push_of_some _ (Heap.get?_push_of_some _ (Heap.get?_push_size _ rfl))));show _/\_;rw[z2,z3,z4]at g5;rw[z1,z2]at g3;rw[z3]at g4;rw[z1]at g2;rw[z4];refine⟨⟨_,g5,rfl⟩,h _ ⟨g5,g3,⟨_,_,g4⟩,?_,?_⟩ λc o x=>Heap.get?_push_of_some _ (Heap.get?_push_of_some _ (Heap.get?_push_of_some _ (Heap.get?_push_of_some _ (Heap.get?_push_of_some _ x))))⟩
 ·cases k
  ·exact⟨_,g1,rfl,rfl⟩
  ·exact⟨_,g1,rfl,rfl⟩
 ·cases k
  ·exact⟨_,g2,rfl,rfl⟩
  ·exact⟨_,g2,rfl,rfl⟩
end
def Mc(K:Frag)(k:Bool)(H:Hp)(a:Addr)(xs:List V):Prop:=match k with
 | true=>bM K H a xs
 | false=>d8 K H a xs
theorem zQ{X:Cx}{σ:L2.St}{H:Hp}{s:Shared}{k:Bool}{a:Addr}{xs:List V}(I:Inv X ao σ H s)(h:Mc X.K k H a xs):∃ aP:List Value,cH xs aP/\Dz k s.heap a aP.toArray/\xs.length<=sizeLine:=by
 cases k
 ·obtain⟨aP,r,p,z⟩:=I.tuple h;exact⟨aP,r,p,z⟩
 ·obtain⟨aP,r,p,z⟩:=I.list h;exact⟨aP,r,p.isList,z⟩
theorem Me{X:Cx}{σ:L2.St}{H:Hp}{s:Shared}{k:Bool}{a:Addr}{xs ys:List V}(I:Inv X ao σ H s)(h:Mc X.K k H a xs)(h':Mc X.K k H a ys):xs=ys:=by
 cases k
 ·exact I.Ej h h'
 ·exact I.BS h h'
theorem Ql{k:Bool}{h:Heap}{a:Addr}{xs:Array Value}(x:Dz k h a xs):a<h.objs.size:=by
 cases k
 ·obtain⟨o,ho,_⟩:=x;exact Heap.lt_size ho
 ·obtain⟨o,ho,_⟩:=x;exact Heap.lt_size ho
def ZA(K:Frag)(k:Bool)(a1 a2:Addr):It :=
 ⟨λi H=>∃ xs ys x y,Mc K k H a1 xs/\Mc K k H a2 ys/\xs[i]?=some x/\ys[i]?=some y,λi H v H'=>∃ p x y,H p=none/\v=.ref p/\H'=aN H p (.tup [x,y])/\(∀ xs,Mc K k H a1 xs->xs[i]?=some x)/\∀ ys,Mc K k H a2 ys->ys[i]?=some y,λi H=>∃ xs ys,Mc K k H a1 xs/\Mc K k H a2 ys/\(xs.length<=i\/ys.length<=i)⟩
theorem Qm{P:Program}{w:World}{K:Frag}{x1:Nat}{k:Bool}{z TI TO i1 i2 l1 l2:Addr}(D:ZipApart z TI TO i1 i2 l1 l2) :
  Hr P w K (.Tuple Kv x1 DE) (ZA K k l1 l2) [z,TI,TO,i1,i2] z (λi h=>Ez k h z TI TO i1 i2 l1 l2 i) where
 mem:=by simp
 obj:=λi h st b hb=>by
  obtain⟨hz,hTI,⟨a,c,hTO⟩,h1,h2⟩:=st;simp only[List.mem_cons,List.not_mem_nil,or_false]at hb;rcases hb with rfl|rfl|rfl|rfl|rfl
  ·exact⟨_,hz,λv e=>by cases e⟩
  ·exact⟨_,hTI,λv e=>by cases e⟩
  ·exact⟨_,hTO,λv e=>by cases e⟩
  ·exact h1.obj
  ·exact h2.obj
 keep:=λi h h' st kk=>by
  obtain⟨hz,hTI,⟨a,c,hTO⟩,h1,h2⟩:=st;exact⟨kk z (by simp) _ hz,kk TI (by simp) _ hTI,⟨a,c,kk TO (by simp) _ hTO⟩,h1.at λo e=>kk i1 (by simp) o e,h2.at λo e=>kk i2 (by simp) o e⟩
 item:=by
  intro X hP hw hK hc i ao s σ H E I hf st hg;subst hP hw hK;obtain⟨xs,ys,x,y,q1,q2,e1,e2⟩:=hg;obtain⟨us,r1,p1,_⟩:=zQ I q1;obtain⟨vs,r2,p2,_⟩:=zQ I q2;obtain⟨u,eu,ru⟩:=r1.get e1;obtain⟨v,ev,rv⟩:=r2.get e2;refine Ks (x:=u) (y:=v) D st p1 p2 (by simpa using eu) (by simpa using ev) λh' g1 g2 g3 g4 g5 g7=>?_;refine⟨_,rfl,wpAny_letOwnedTupleGo_zip g1 λh2 hz2 c2=>?_⟩;have ne:∀ {b o},s.heap.get? b=some o->s.heap.objs.size≠b:=λe=>Nat.ne_of_gt (Heap.lt_size e)
  have k2:∀ b o,b∉[z,TI,TO,i1,i2]->s.heap.get? b=some o->h2.get? b=some o:=λb o hb e=>by
   simp only[List.mem_cons,List.not_mem_nil,or_false,not_or]at hb;exact c2.extBut _ _ hb.1 (g7 b o hb.1 hb.2.2.1 hb.2.2.2.1 hb.2.2.2.2 e)
  have I2:Inv X ao σ (aN H s.heap.objs.size (.tup [x,y])) { s with heap:=h2,toks:=s.toks } := Vo I k2 hf (iT _) (by show 2<=sizeLine;decide) (.cons ru (.cons rv .nil)) ⟨_,c2.extBut _ _ (ne st.z) g5,rfl,_,rfl⟩;refine⟨.ref s.heap.objs.size,_,I2,rfl,⟨_,x,y,I.hok.fresh (iT _),rfl,rfl,λxs' q=>?_,λys' q=>?_⟩,?_,λb hb=>?_⟩
  ·rw[Me I q q1];exact e1
  ·rw[Me I q q2];exact e2
  ·exact⟨hz2,c2.extBut _ _ D.TIz (g7 _ _ D.TIz D.TITO D.TIi1 D.TIi2 st.ti),⟨u,v,c2.extBut _ _ D.TOz g2⟩,g3.at λo e=>c2.extBut _ _ D.i1z e,g4.at λo e=>c2.extBut _ _ D.i2z e⟩
  ·have uJ:∃ o,s.heap.get? b=some o:=by
    obtain⟨hz,hTI,⟨a,c,hTO⟩,h1,h2⟩:=st;simp only[List.mem_cons,List.not_mem_nil,or_false]at hb;rcases hb with rfl|rfl|rfl|rfl|rfl
    ·exact⟨_,hz⟩
    ·exact⟨_,hTI⟩
    ·exact⟨_,hTO⟩
    ·exact h1.obj.imp λ_ e=>e.1
    ·exact h2.obj.imp λ_ e=>e.1
   obtain⟨o,e⟩:=uJ;rw[aH (ne e).symm];exact (hf b hb).1
 done:=by
  intro X hP hw hK hc i ao s σ H E I hf st hg;subst hP hw hK;obtain⟨xs,ys,q1,q2,e⟩:=hg;obtain⟨us,r1,p1,_⟩:=zQ I q1;obtain⟨vs,r2,p2,_⟩:=zQ I q2;have l1:=r1.length;have l2:=r2.length;refine NJ (I.ok.hd hc) D st p1 p2 (e.imp (λe=>by simp;lia) (λe=>by simp;lia)) λh' kk=>⟨rfl,Mb (t':=s.toks) (ch:=[z,TI,TO,i1,i2]) I (λb o hb e=>?_) hf⟩;simp only[List.mem_cons,List.not_mem_nil,or_false,not_or]at hb;exact kk b o hb.1 hb.2.2.1 hb.2.2.2.1 hb.2.2.2.2 e
 self:=λ_ _ _ _ _ st h=>wpAny_pyIter_zip st.z h
def acS(K:Frag)(ta:TA):TI:=fun σ H R=>ta σ H λvs H1=>∃ k a1 a2 xs ys,vs=[.ref a1,.ref a2]/\Mc K k H1 a1 xs/\Mc K k H1 a2 ys/\R (ZA K k a1 a2) H1
theorem Xc{X:Cx}{x1:Nat}{a b:Expr}{ta:TA}{p:Pos}(hg:Gl X "zip")(hm:X.mg "zip"=none)(ha:PA X [a,b] ta)
  (hs:starEach [a,b] X.env=[(false,eval a X.env),(false,eval b X.env)]:=by rfl) (GX:starEach [b] X.env=[(false,eval b X.env)]:=by rfl):PI X (.Tuple Kv x1 DE) (.Call (.Name "zip" p) [a,b] [] pos) (acS X.K ta):=by
 intro ao s σ H R I h;refine Call_ (xV I hg hm boot_zip (PyProof.Rows.callWith_type1 (dB (ha pos ao s σ H _ I h) λus s1 ⟨vs,H1,I1,r1,q1⟩=>?_) (by rw[hs,GX]) (by rw[GX];rfl)));obtain⟨k,a1,a2,xs,ys,e,q1,q2,q⟩:=q1;subst e;obtain⟨u1,u2,rfl,e1,e2⟩:=r1.two;cases (show u1=Value.ref a1 from e1);cases (show u2=Value.ref a2 from e2);obtain⟨us,rr1,p1,_⟩:=zQ I1 q1;obtain⟨ws,rr2,p2,_⟩:=zQ I1 q2;have b1:=Ql p1;have b2:=Ql p2;refine NK p1 p2 λh' st kk=>wpAny_pyIter_zip st.z ?_;have I2:Inv X ao σ H1 { s1 with heap:=h',toks:=s1.toks }:=I1.kept kk;refine⟨_,_,_,_,H1,rfl,I2,Qm (zipApart_new b1 b2),st,λb hb=>?_,q⟩
 have hb':s1.heap.objs.size<=b:=by
  simp only[List.mem_cons,List.not_mem_nil,or_false]at hb;rcases hb with rfl|rfl|rfl|rfl|rfl
  ·exact Nat.le_add_right _ _
  ·exact Nat.le_add_right _ _
  ·exact Nat.le_add_right _ _
  ·exact iT _
  ·exact Nat.le_add_right _ _
 exact I1.J5 hb' (I1.hok.fresh hb')
theorem TH{K:Frag}{k:Bool}{a1:Addr}{xs ys:List V}{g:TG}{tb:TS}{D:Ends}{σ:L2.St}{H:Hp}(Pv:Nat->L2.St->Hp->Prop)(hn:xs.length=ys.length)(h0:Pv 0 σ H)
  (hl:∀ i σ H,i<=xs.length->Pv i σ H->Mc K k H a1 xs/\Mc K k H a2 ys)
  (hs:∀ i x y p σ H,xs[i]?=some x->ys[i]?=some y->H p=none->Pv i σ H->g (.ref p) σ (aN H p (.tup [x,y])) fun σ2 H2=>tb { D with nx:=Pv (i+1),ct:=Pv (i+1),bk:=D.nx } σ2 H2) (hd:∀ σ H,Pv xs.length σ H->D.nx σ H) :
  ∃ W:Nat->Nat->L2.St->Hp->Prop,(∃ m,W 0 m σ H)/\∀ i m σ H,W i m σ H->
   ((ZA K k a1 a2).stop i H/\D.nx σ H)\/((ZA K k a1 a2).go i H/\∃ N:L2.St->Hp->Prop,(∀ σ' H',N σ' H'->∃ m',m'<m/\W (i+1) m' σ' H')/\∀ x H',(ZA K k a1 a2).OR i H x H'->g x σ H' fun σ2 H2=>tb { D with nx:=N,ct:=N,bk:=D.nx } σ2 H2):=by
 refine⟨λi m σ H=>m=xs.length-i/\i<=xs.length/\Pv i σ H,⟨xs.length,by simp,qA _,h0⟩,?_⟩;rintro i m σ H ⟨rfl,hi,p⟩;obtain⟨q1,q2⟩:=hl i σ H hi p;by_cases uJ:i<xs.length
 ·have acT:i<ys.length:=by lia
  refine .inr ⟨⟨xs,ys,xs[i],ys[i],q1,q2,by simp[uJ],by simp[acT]⟩,Pv (i+1),fun σ' H' p'=>⟨xs.length-(i+1),by lia,rfl,uJ,p'⟩,λx H' y=>?_⟩;obtain⟨a,x',y',Vd,rfl,rfl,e1,e2⟩:=y;exact hs i x' y' a σ _ (e1 xs q1) (e2 ys q2) Vd p
 ·have e:i=xs.length:=by lia
  subst e;exact .inl ⟨⟨xs,ys,q1,q2,.inl (iT _)⟩,hd σ H p⟩
def EA(lo:Int)(n:Nat):List V:=(List.range n).map λi:Nat=>V.int (lo+i)
section
variable {X:Cx}
theorem HH:pS X (.type "range") (λxs H Q=>∃ i j:Int,xs=[.int i,.int j]/\∀ p,H p=none->Q (.ref p) (aN H p (.Hf i j))):=by
 intro ao s σ H xs us Q I r h;obtain⟨i,j,rfl,q⟩:=h;obtain⟨u1,u2,rfl,⟨t,rfl⟩,⟨t',rfl⟩⟩:=r.two;refine call_range_2 ⟨.ref s.heap.objs.size,_,I.laid (o:=.Hf i j) (λb o e=>Heap.get?_push_of_some _ e) (iT _) ⟨t,t',s.toks,Heap.get?_push_size _ rfl⟩,rfl,q _ (I.hok.fresh (iT _))⟩
theorem xF(hc:X.calm=true):pS X (.type "list") (λxs H Q=>∃ p i j,xs=[.ref p]/\H p=some (.Hf i j)/\(-(2^62)<=i/\i<2^62/\-(2^62)<=j/\j<2^62)/\(j-i).toNat<=sizeLine/\
  ∀ l,H l=none->Q (.ref l) (aN H l (.lst (EA i (j-i).toNat)))):=by
 intro ao s σ H xs us Q I r h;obtain⟨p,i,j,rfl,hp,⟨b1,b2,b3,b4⟩,hz,q⟩:=h;obtain⟨u,rfl,rx⟩:=r.one;cases (show u=Value.ref p from rx);obtain⟨t,u,v,e⟩:=(show jk X.prog X.w H s.heap p (.Hf i j) from I.hok p _ hp)
 have e2:Builtin.Range.rangeSize i j 1=(((j-i).toNat:Nat):Int):=by rw[rangeSize_one];split <;> lia
 have hz':(j-i).toNat<=2^24:=by have:=sizeLine_eq;lia
 refine call_list_range (I.ok.hd hc) e (small_one b1 b2 b3 b4) e2 hz' λh' tk vF c' hk hS dR=>?_;refine⟨.ref s.heap.objs.size,_,I.laid (o:=.lst (EA i (j-i).toNat)) (t':=tk) hk (iT _) ⟨?_,vF.toList,c',?_,by simpa using hS⟩,rfl,q _ (I.hok.fresh (iT _))⟩
 ·unfold EA;simpa using hz
 ·have hl:vF.toList.length=(j-i).toNat:=by simpa using dR.1
  have key:∀ (n:Nat) (us:List Value) (lo:Int),us.length=n->(∀ k v,us[k]?=some v->∃ t,v=Value.int (lo+(k:Nat)*1) t)->cH ((List.range n).map λi:Nat=>V.int (lo+i)) us:=by
   intro n
   induction n with
   | zero=>intro us lo hl _;cases us with
    | nil=>exact .nil
    | cons=>simp at hl
   | succ n ih =>
    intro us lo hl hv
    cases us with
    | nil=>simp at hl
    | cons u us =>
     rw[List.range_succ_eq_map,oK,List.map_map];refine .cons ?_ ?_
     ·obtain⟨t,e⟩:=hv 0 u rfl;exact⟨t,by rw[e];simp⟩
     ·have:=ih us (lo+1) (by simpa using hl) λk v e=>by
       obtain⟨t,e'⟩:=hv (k+1) v (by simpa using e);refine⟨t,?_⟩;rw[e'];have:lo+((k+1:Nat):Int)*1=lo+1+(k:Int)*1:=by lia
       rw[this]
      have e3:((λi:Nat=>V.int (lo+i)) ∘ Nat.succ)=λi:Nat=>V.int (lo+1+i):=by
       funext i;simp only[Function.comp,Nat.succ_eq_add_one];have:lo+((i+1:Nat):Int)=lo+1+(i:Int):=by lia
       rw[this]
      rw[e3];exact this
  exact key _ _ i hl λk v e=>dR.2 k v (by simpa using e)
end
section
variable {X:Cx}
theorem Qn{j:Int}(h0:0<j)(h1:j<10^70):j.natAbs.log2<9000:=by
 have h:j.natAbs<2^9000:=Nat.lt_trans (show j.natAbs<10^70 by lia) (by decide +kernel);exact (Nat.log2_lt (by lia)).mpr h
theorem HJ:yb X (binaryOp .FloorDiv) (rI (λ_ j=>0<j/\j<10^70) λi j=>.int (i / j)):=opI λi j _ _ _ _ _ hc q=>by
 have h1:(0:Int)<j:=hc.1;exact floordiv_int (by lia) (by rw[Int.fdiv_eq_ediv_of_nonneg i (by lia)];exact q) (.inl (PyProof.noPylong_of_log2 (Qn hc.1 hc.2)))
theorem HK(hc:X.calm=true):pS X (.builtin "sum") (λxs H Q=>∃ (p:Addr) (ns:List Int),xs=[.ref p]/\bM X.K H p (ns.map V.int)/\Q (.int ns.sum) H):=by
 intro ao s σ H xs us Q I r h;obtain⟨p,ns,rfl,hq,q⟩:=h;obtain⟨u,rfl,rx⟩:=r.one;cases (show u=Value.ref p from rx);obtain⟨aP,rv,pl,hz⟩:=I.list hq;have hi:IntsAre aP ns:=intsAre_of rv;have P5:AllInts aP.toArray:=hi.allInts;obtain⟨zs,ez⟩:=P5.items;have hl:=pl.isList;have es:(numsOf aP.toArray.toList).sum=ns.sum:=by rw[show aP.toArray.toList=aP from rfl,hi.numsOf]
 rw[ez]at hl es;rw[nums_intItems]at es;refine PySem.sum_intListG (I.ok.hd hc) hl λh' tk t' hk=>⟨.int ns.sum,H,I.kept hk,⟨t',?_⟩,q⟩;rw[preSum_eq,xT (by simp),es]
end
end dz
namespace jy
abbrev Row:=List (Int × Int)
def m6(t:Row)(s e:Int):Row :=
 match t.getLast? with
 | some p=>if p.2=s then t.dropLast++[(p.1,e)] else t++[(s,e)]
 | none=>t++[(s,e)]
def gf(t:Row)(p:Int × Int):Row:=if p.1=p.2 then t else m6 t p.1 p.2
def cJ(r:Row):Row:=r.foldl gf []
def run(s:Int):Nat->List Int
 | 0=>[]
 | n+1=>s::run (s+1) n
def nM(p:Int × Int):List Int:=run p.1 (p.2-p.1).toNat
def bN(r:Row):List Int:=r.flatMap nM
def dc(ns:List Int):Row:=ns.foldl (λt n=>m6 t n (n+1)) []
theorem iN(s:Int)(n:Nat):(run s n).length=n:=by
 induction n generalizing s with
 | zero=>rfl
 | succ n ih=>simp[run,ih]
theorem um(s e:Int):m6 [] s e=[(s,e)]:=rfl
theorem uo(t:Row){q:Int × Int}{s:Int}{e:Int}(h:q.2=s):m6 (t++[q]) s e=t++[(q.1,e)]:=by
 simp[m6,h]
theorem uq(t:Row){q:Int × Int}{s:Int}{e:Int}(h:¬ q.2=s):m6 (t++[q]) s e=t++[q]++[(s,e)]:=by
 simp[m6,h]
theorem NL(t:Row)(a s e:Int):m6 (t++[(a,s)]) s e=t++[(a,e)]:=by
 simp[m6]
theorem Cd(t:Row)(a s:Int)(n:Nat):(run s n).foldl (λt n=>m6 t n (n+1)) (t++[(a,s)])=t++[(a,s+n)]:=by
 induction n generalizing s with
 | zero=>simp[run]
 | succ n ih =>
  rw[run,qM,NL,ih];have:s+1+(n:Int)=s+((n+1:Nat):Int):=by lia
  rw[this]
theorem Qo(t:Row)(p:Int × Int)(h:p.1<=p.2):gf t p=(nM p).foldl (λt n=>m6 t n (n+1)) t:=by
 obtain⟨s,e⟩:=p;simp only at h;unfold gf nM;by_cases he:s=e
 ·subst he;simp[run]
 ·obtain⟨n,hn⟩:∃ n:Nat,e=s+1+n:=⟨(e-s-1).toNat,by lia⟩;subst hn;rw[if_neg he];have h2:((s,s+1+(n:Int)).2-(s,s+1+(n:Int)).1).toNat=n+1:=by simp only;lia
  rw[h2,run,qM];simp only;rcases vL t with rfl|⟨u,q,rfl⟩
  ·rw[um,um];exact (Cd [] s (s+1) n).symm
  ·by_cases hq:q.2=s
   ·rw[uc,uo u hq,uo u hq,Cd]
   ·rw[uc,uq u hq,uq u hq,Cd]
theorem rR{α β γ:Type}(f:γ->β->γ)(g:α->List β):∀ (l:List α) (c:γ),(l.flatMap g).foldl f c=l.foldl (λc a=>(g a).foldl f c) c
 | [],_=>rfl
 | a::l,c=>by rw[mZ,List.foldl_append,qM,rR f g l]
theorem Ce(r:Row)(h:∀ p∈r,p.1<=p.2):cJ r=dc (bN r):=by
 unfold cJ dc bN;rw[rR]
 have key:∀ (r:Row),(∀ p∈r,p.1<=p.2)->∀ t:Row,r.foldl gf t=r.foldl (λc a=>(nM a).foldl (λt n=>m6 t n (n+1)) c) t:=by
  intro r
  induction r with
  | nil=>intro _ t;rfl
  | cons p r ih =>
   intro h t;rw[qM,qM,Qo t p (h p (List.mem_cons_self ..))];exact ih (λq hq=>h q (t6 _ hq)) _
 exact key r h []
theorem AL(t:Row)(s e:Int):(m6 t s e).length<=t.length+1:=by
 rcases vL t with rfl|⟨u,q,rfl⟩
 ·rw[um];simp
 ·by_cases hq:q.2=s
  ·rw[uc,uo u hq];simp
  ·rw[uc,uq u hq];simp
theorem foldl_take_succ{α β:Type}(f:β->α->β)(l:List α)(b:β)(i:Nat)(x:α)(h:l[i]?=some x):(l.take (i+1)).foldl f b=f ((l.take i).foldl f b) x:=by
 rw[List.take_add_one,h,List.foldl_append];rfl
end jy
namespace jy
def mj(r:Row):Int:=(r.map λp=>p.2-p.1).sum
theorem TJ:mj []=0:=rfl
theorem HL(p:Int × Int)(r:Row):mj (p::r)=(p.2-p.1)+mj r:=by simp[mj]
theorem Qp(r:Row)(p:Int × Int):mj (r++[p])=mj r+(p.2-p.1):=by simp[mj]
theorem Cf(r q:Row):mj (r++q)=mj r+mj q:=by simp[mj]
theorem take_snoc{α:Type}{l:List α}{i:Nat}{x:α}(h:l[i]?=some x):l.take (i+1)=l.take i++[x]:=by rw[List.take_add_one,h];rfl
end jy
namespace jy
theorem yR(s:Int)(n:Nat):run s (n+1)=run s n++[s+n]:=by
 induction n generalizing s with
 | zero=>simp[run]
 | succ n ih =>
  rw[run,ih,run];have:s+1+(n:Int)=s+((n+1:Nat):Int):=by lia
  rw[this];rfl
theorem EB{a n:Int}(h:a<=n):nM (a,n+1)=nM (a,n)++[n]:=by
 unfold nM;have e:((a,n+1).2-(a,n+1).1).toNat=((a,n).2-(a,n).1).toNat+1:=by simp only;lia
 rw[e,yR];have:a+((((a,n).2-(a,n).1).toNat:Nat):Int)=n:=by simp only;lia
 simp only at this ⊢;rw[this]
theorem HM(n:Int):nM (n,n+1)=[n]:=by
 have:=EB (a:=n) (n:=n) (Int.le_refl _);rw[this];have e:nM (n,n)=[]:=by unfold nM;simp[run]
 rw[e];rfl
theorem dD(r q:Row):bN (r++q)=bN r++bN q:=by unfold bN;rw[List.flatMap_append]
theorem jq(p:Int × Int):bN [p]=nM p:=by simp[bN]
theorem Kw(t:Row)(n:Int)(h:∀ p∈t,p.1<=p.2):bN (m6 t n (n+1))=bN t++[n]:=by
 rcases vL t with rfl|⟨u,q,rfl⟩
 ·rw[um,jq,HM];rfl
 ·rw[uc]at h ⊢;by_cases hq:q.2=n
  ·obtain⟨a,b⟩:=q;simp only at hq;subst hq;have hb:a<=b:=h (a,b) (by simp);rw[uo u rfl,dD,dD,jq,jq,EB hb,qL]
  ·rw[uq u hq,dD,jq,HM]
theorem Mf(t:Row)(n:Int)(h:∀ p∈t,p.1<=p.2):∀ p∈m6 t n (n+1),p.1<=p.2:=by
 rcases vL t with rfl|⟨u,q,rfl⟩
 ·rw[um];intro p hp;simp at hp;subst hp;show n<=n+1;lia
 ·rw[uc]at h ⊢;by_cases hq:q.2=n
  ·rw[uo u hq];intro p hp;rcases List.mem_append.mp hp with z|z
   ·exact h p (xU _ z)
   ·simp at z;subst z;have:=h q (by simp);show q.1<=n+1;lia
  ·rw[uq u hq];intro p hp;rcases List.mem_append.mp hp with z|z
   ·exact h p z
   ·simp at z;subst z;show n<=n+1;lia
theorem gO(ns:List Int):bN (dc ns)=ns:=by
 have key:∀ (ns:List Int) (t:Row),(∀ p∈t,p.1<=p.2)->bN (ns.foldl (λt n=>m6 t n (n+1)) t)=bN t++ns:=by
  intro ns
  induction ns with
  | nil=>intro t _;simp
  | cons n ns ih =>
   intro t h;rw[qM,ih _ (Mf t n h),Kw t n h,qL];rfl
 have:=key ns [] (λp hp=>by cases hp);simpa [dc,bN] using this
theorem qe(ns:List Int):∀ p∈dc ns,p.1<=p.2:=by
 have key:∀ (ns:List Int) (t:Row),(∀ p∈t,p.1<=p.2)->∀ p∈ns.foldl (λt n=>m6 t n (n+1)) t,p.1<=p.2:=by
  intro ns
  induction ns with
  | nil=>intro t h;exact h
  | cons n ns ih=>intro t h;exact ih _ (Mf t n h)
 exact key ns [] (λp hp=>by cases hp)
end jy
namespace jy
theorem AM(p:Int × Int)(h:p.1<=p.2):((nM p).length:Int)=p.2-p.1:=by
 unfold nM;rw[iN];lia
theorem wM:∀ (r:Row),(∀ p∈r,p.1<=p.2)->((bN r).length:Int)=mj r
 | [],_=>rfl
 | p::r,h=>by
  have ih:=wM r λq hq=>h q (t6 _ hq);have hp:=AM p (h p (List.mem_cons_self ..));have e:bN (p::r)=nM p++bN r:=rfl;rw[e,dH,HL];lia
end jy
namespace jy
open L2 dz
structure aC(K:Frag)(mg:Str->Option Value)(x:Str)(st:Stmt)(ps:List Str)(a:Addr)(d:FuncData):Prop where
 F:iM K x x st a d
 b:Binds K d ps []
 m:mg x=some (.ref a)
section
variable {X:Cx}
theorem aG{x:Str}{st:Stmt}{ps:List Str}{f:Addr}{j k:Nat}{sp:Sp}{e:Expr}{es:List Expr}{t:TA}{p pos:Pos}(d:aC X.K X.mg x st ps f fd)(G:aF X.prog X.w X.K X.mg X.zt bI k f fd ps sp)(hr:mC j X.A)
  (ha:PA X (e::es) t) (Xd:k<=j:=by first|decide|lia) (hg:Gl X x:=by rfl) (Nz:(x == ("__debug__":Str))=false:=by decide) (he:starEach (e::es) X.env=(false,eval e X.env)::starEach es X.env:=by rfl)
  (GY:(backTo pos (starEach es X.env)).any (·.1)=false:=by rfl):PE X (.Call (.Name x p) (e::es) [] pos) (LL sp [] E0 t) :=
 LO G (hr.mono Xd) hg d.m d.F.kp d.b .nil ck ha Nz he GY
theorem Cg{st:Stmt}{t t':TS}(h:PS X st t)(hi:∀ D σ H,t' D σ H->t D σ H):PS X st t':=λao s σ H D I q=>h ao s σ H D I (hi D σ H q)
end
def cN(l:Addr)(H H':Hp):Prop:=∀ a o,H a=some o->a≠l->H' a=some o
theorem aK.keep{H H':Hp}(s:aK H H'):cN l H H':=λa o e _=>s a o e
theorem cN.refl(l:Addr)(H:Hp):cN l H H:=λ_ _ e _=>e
theorem cN.trans{H H1 H2:Hp}(a:cN l H H1)(b:cN l H1 H2):cN l H H2:=λc o e n=>b c o (a c o e n) n
theorem aM(l:Addr)(H:Hp)(o:HO):cN l H (aN H l o):=λa u e n=>by rw[aH n];exact e
theorem bX{H H1 H2:Hp}(h:H l=none)(a:aK H H1)(b:cN l H1 H2):aK H H2:=λc o e=>b c o (a c o e) (az e h)
theorem ak{H:Hp}{p:Addr}(h:H p=none)(o:HO):aK H (aN H p o):=λb u q=>by rw[aH (az q h)];exact q
theorem mT{a:Addr}{H H':Hp}(k:cN l H H')(n:a≠l)(h:H' a=none):H a=none:=by
 cases q:H a with
 | none=>rfl
 | some o=>rw[k a o q n]at h;cases h
def jC(H:Hp)(l c:Addr):Prop:=c≠l/\∃ (ns:List Int) (i d r:Int),H l=some (.lst [.ref c,.int i,.int d,.int r])/\H c=some (.lst (ns.map V.int))/\0<=i/\0<=r/\r<2147483647
theorem jC.same{H H':Hp}{c:Addr}(s:jC H l c)(k:aK H H'):jC H' l c:=by
 obtain⟨n,ns,i,d,r,h1,h2,h3⟩:=s;exact⟨n,ns,i,d,r,k _ _ h1,k _ _ h2,h3⟩
theorem jC.ne{H:Hp}{c a:Addr}(s:jC H l c)(h:H a=none):l≠a/\c≠a:=by
 obtain⟨n,ns,i,d,r,e1,e2,h3⟩:=s;exact⟨az e1 h,az e2 h⟩
theorem ZC{a b c d:V}:vR [a,b,c,d] 0=some a:=rfl
theorem Xe{a b c d:V}:vR [a,b,c,d] 1=some b:=rfl
theorem TL{a b c d:V}:vR [a,b,c,d] 2=some c:=rfl
theorem ZD{a b c d:V}:vR [a,b,c,d] 3=some d:=rfl
theorem acU{a b:V}:vR [a,b] 0=some a:=rfl
theorem acV{a b:V}:vR [a,b] 1=some b:=rfl
inductive vU(vs:List V)(H:Hp)(Q:VK)(E:XK):Prop
 | mk (l c:Addr) (b:Int) (_:vs=[.ref l,.int b]) (_:jC H l c) (_:0<b) (_:b<10^70) (_ :
 ∀ (v:Int) (H':Hp),0<=v->v<b->jC H' l c->(∀ a,a≠l->H' a=H a)->Q (.int v) H'):vU vs H Q E
inductive Vq(K:Frag)(vs:List V)(H:Hp)(Q:VK)(E:XK):Prop
 | mk (a:Addr) (ns:List Int) (_:vs=[.ref a]) (_:bM K H a (ns.map V.int)) (_ :
 ∀ (l c:Addr) (H':Hp),jC H' l c->aK H H'->H l=none->H c=none->Q (.ref l) H')
def acW:V->Bool
 | .int _ | .bl _ | .str _ | .jj=>true
 | _=>false
def Qq(k:Bool)(H:Hp)(a:Addr)(xs:List V):Prop:=match k with
 | true=>H a=some (.lst xs)
 | false=>H a=some (.tup xs)
theorem Qq.same{k:Bool}{H H':Hp}{a:Addr}{xs:List V}(h:Qq k H a xs)(s:aK H H'):Qq k H' a xs:=by
 cases k
 ·exact s _ _ h
 ·exact s _ _ h
theorem Qq.sq{K:Frag}{k:Bool}{H:Hp}{a:Addr}{xs:List V}(h:Qq k H a xs):Mc K k H a xs:=by
 cases k
 ·exact d8.of h
 ·exact bM.of h
def Eqv(H:Hp):Nat->V->V->Prop
 | 0,_,_=>False
 | n+1,x,y=>(acW x=true/\x=y)\/∃ (k:Bool) (a b:Addr) (xs ys:List V),x=.ref a/\y=.ref b/\Qq k H a xs/\Qq k H b ys/\xs.length=ys.length/\
   ∀ (i:Nat) (u v:V),xs[i]?=some u->ys[i]?=some v->Eqv H n u v
theorem Eqv.same{H H':Hp}(s:aK H H'):∀ {n:Nat} {x y:V},Eqv H n x y->Eqv H' n x y
 | 0,_,_,h=>h
 | n+1,x,y,h=>by
  rcases h with h|⟨k,a,b,xs,ys,e1,e2,h1,h2,hl,hi⟩
  ·exact .inl h
  ·exact .inr ⟨k,a,b,xs,ys,e1,e2,h1.same s,h2.same s,hl,λi u v eu ev=>Eqv.same s (hi i u v eu ev)⟩
def Ci(n:Nat):Sp:=λvs H Q _=>∃ x y,vs=[x,y]/\Eqv H n x y/\∀ H',aK H H'->Q (.bl true) H'
inductive Mg(vs:List V)(H:Hp)(Q:VK)(E:XK):Prop
 | mk (i:Int) (_:vs=[.int i]) (_:Q (.bl true) H)
section
variable (K:Frag)
theorem ZE:kitOne K (.type "bool") (.type "bool")=some true:=by rfl
theorem ZF:kitOne K (.type "int") (.type "bool")=some false:=by kernel_rfl
theorem ZG:kitOne K (.type "int") (.type "int")=some true:=by rfl
theorem acX:kitOne K (.type "str") (.type "bool")=some false:=by kernel_rfl
theorem acY:kitOne K (.type "str") (.type "int")=some false:=by kernel_rfl
theorem ZH:kitOne K (.type "str") (.type "str")=some true:=by rfl
theorem acZ:kitOne K (.type "list") (.type "bool")=some false:=by kernel_rfl
theorem ac0:kitOne K (.type "list") (.type "int")=some false:=by kernel_rfl
theorem ac1:kitOne K (.type "list") (.type "str")=some false:=by kernel_rfl
theorem ZI:kitOne K (.type "list") (.type "list")=some true:=by rfl
theorem k_lt:kitOne K (.type "list") (.type "tuple")=some false:=by kernel_rfl
theorem ac2:kitOne K (.type "tuple") (.type "bool")=some false:=by kernel_rfl
theorem ac3:kitOne K (.type "tuple") (.type "int")=some false:=by kernel_rfl
theorem ac4:kitOne K (.type "tuple") (.type "str")=some false:=by kernel_rfl
theorem ac5:kitOne K (.type "tuple") (.type "list")=some false:=by kernel_rfl
theorem ac6:kitOne K (.type "tuple") (.type "tuple")=some true:=by rfl
end
def Yt(k:Bool):Value:=.type (if k then "list" else "tuple")
theorem Qq.ty{K:Frag}{k:Bool}{H:Hp}{a:Addr}{xs:List V}(h:Qq k H a xs):pU K H (.ref a) (Yt k):=by
 cases k
 ·exact pU.tup h
 ·exact pU.lst h
theorem ac7(K:Frag)(k:Bool):kitOne K (Yt k) (.type "bool")=some false:=by cases k;exact ac2 K;exact acZ K
theorem ac8(K:Frag)(k:Bool):kitOne K (Yt k) (.type "int")=some false:=by cases k;exact ac3 K;exact ac0 K
theorem ac9(K:Frag)(k:Bool):kitOne K (Yt k) (.type "str")=some false:=by cases k;exact ac4 K;exact ac1 K
theorem ZJ(K:Frag)(k:Bool):kitOne K (Yt k) (.type "list")=some k:=by cases k;exact ac5 K;exact ZI K
theorem ZK(K:Frag)(k:Bool):kitOne K (Yt k) (.type "tuple")=some (!k):=by cases k;exact ac6 K;exact k_lt K
def zR(H:Hp)(a:Addr)(p:Int × Int):Prop:=H a=some (.tup [.int p.1,.int p.2])
abbrev bU(H:Hp):List Addr->Row->Prop:=Paired (zR H)
inductive cV(H:Hp)(r:Addr)(row:Row):Prop
 | mk (as:List Addr) (_:H r=some (.lst (as.map V.ref))) (_:bU H as row)
theorem bU.tups{H H':Hp}{as:List Addr}{row:Row}(h:bU H as row)(t:∀ a xs,H a=some (.tup xs)->H' a=some (.tup xs)):bU H' as row:=Paired.Hg h λa p e=>t a _ e
theorem bU.same{H H':Hp}{as:List Addr}{row:Row}(h:bU H as row)(s:aK H H'):bU H' as row:=h.tups λa xs e=>s a _ e
theorem cV.same{H H':Hp}{r:Addr}{row:Row}(h:cV H r row)(s:aK H H'):cV H' r row:=by
 obtain⟨as,h1,h2⟩:=h;exact⟨as,s _ _ h1,h2.same s⟩
theorem bU.keep{H H':Hp}{as:List Addr}{row:Row}{xs:List V}(h:bU H as row)(hl:H l=some (.lst xs))(s:cN l H H'):bU H' as row :=
 h.tups λa ys e=>s a _ e (dF e hl)
theorem cV.keep{H H':Hp}{r:Addr}{row:Row}{xs:List V}(h:cV H r row)(hl:H l=some (.lst xs))(n:r≠l)(s:cN l H H'):cV H' r row:=by
 obtain⟨as,h1,h2⟩:=h;exact⟨as,s _ _ h1 n,h2.keep hl s⟩
theorem bU.get{H:Hp}:∀ {as:List Addr} {row:Row} {i:Nat} {a:Addr},bU H as row->as[i]?=some a->∃ p,row[i]?=some p/\zR H a p
 | _,_,_,_,.nil,e=>by simp at e
 | _,_,0,_,.cons r _,e=>by simp at e;subst e;exact⟨_,rfl,r⟩
 | _,_,i+1,a,.cons _ t,e=>by
  obtain⟨p,h1,h2⟩:=bU.get (i:=i) (a:=a) t (by simpa using e);exact⟨p,by simpa using h1,h2⟩
theorem bU.snoc{H:Hp}{as:List Addr}{row:Row}{a:Addr}{p:Int × Int}(h:bU H as row)(e:zR H a p):bU H (as++[a]) (row++[p]):=by
 induction h with
 | nil=>exact .cons e .nil
 | cons r _ ih=>exact .cons r ih
theorem bU.split{H:Hp}:∀ {as:List Addr} {row:Row} {p:Int × Int},bU H as (row++[p])->∃ bs a,as=bs++[a]/\bU H bs row/\zR H a p
 | as,[],p,h=>by
  cases h with
  | cons r t=>cases t;exact⟨[],_,rfl,.nil,r⟩
 | as,q::row,p,h=>by
  cases h with
  | cons r t =>
   obtain⟨bs,a,rfl,h1,h2⟩:=bU.split (row:=row) (p:=p) t;exact⟨_::bs,a,rfl,.cons r h1,h2⟩
theorem bU.len{H:Hp}{as:List Addr}{row:Row}(h:bU H as row):as.length=row.length:=Paired.length h
theorem qf{α:Type}(xs:List α)(v:α):vR (xs++[v]) (-1)=some v:=PN xs v
theorem HN(n:Nat):LV (n+1) (-1)=some n:=by
 unfold LV;rw[if_neg (by decide),if_pos (by lia)];congr 1;lia
theorem HP{α:Type}(xs:List α)(a b:α):(xs++[a]).set xs.length b=xs++[b]:=by
 simp
theorem Cj(lo:Int)(n:Nat):EA lo n=(run lo n).map V.int:=by
 unfold EA
 induction n generalizing lo with
 | zero=>rfl
 | succ n ih =>
  rw[List.range_succ_eq_map,oK,List.map_map,run,oK,← ih (lo+1)];congr 1
  ·simp
  ·apply List.map_congr_left;intro i _;simp only[Function.comp,Nat.succ_eq_add_one];congr 1;lia
inductive FG(lim:Nat)(vs:List V)(H:Hp)(Q:VK)(E:XK):Prop
 | mk (r:Addr) (row:Row) (_:vs=[.ref r]) (_:cV H r row) (_:(∀ p∈row,0<=p.1/\p.1<=p.2/\p.2<2^62)) (_:(bN row).length<=1000000) (_:row.length<=lim) (_ :
 ∀ (n:Addr) (H':Hp),H' n=some (.lst ((bN row).map V.int))->aK H H'->H n=none->Q (.ref n) H')
inductive BA(vs:List V)(H:Hp)(Q:VK)(E:XK):Prop
 | mk (r:Addr) (row:Row) (_:vs=[.ref r]) (_:cV H r row) (_:row.length<=1000000) (_ :
 ∀ (q:Addr) (H':Hp),cV H' q (cJ row)->aK H H'->H q=none->Q (.ref q) H')
theorem aV{n:Nat}(h:n<=1000001):n<sizeLine:=Nat.lt_of_le_of_lt h (by decide)
end jy
namespace jy
open L2 dz
def Xf:TS:=λD σ H=>∃ (l c:Addr) (b:Int),σ=[some (.ref l),some (.int b),none,none]/\jC H l c/\
 ∀ (cell:Option V) (H':Hp),jC H' l c->(∀ a,a≠l->H' a=H a)->D.nx [some (.ref l),some (.int b),cell,none] H'
def Xg:TS:=λD σ H=>∃ (l c:Addr) (b:Int),σ=[some (.ref l),some (.int b),some (.int 7),none]/\jC H l c/\
 ∀ (cell:Int) (H':Hp),jC H' l c->(∀ a,a≠l->H' a=H a)->D.nx [some (.ref l),some (.int b),some (.int cell),none] H'
theorem TM{ns:List Int}{i:Int}(h0:0<=i)(h1:i<(ns.length:Int)):∃ v:Int,vR (ns.map V.int) i=some (.int v):=by
 have hk:i.toNat<ns.length:=by lia
 refine⟨ns[i.toNat],?_⟩
 have q:vR (ns.map V.int) ((i.toNat:Nat):Int)=some (.int ns[i.toNat]):=gy (by rw[j5,tO hk] <;> rfl)
 have ei:((i.toNat:Nat):Int)=i:=by lia
 rw[ei]at q;exact q
theorem Qs(ns:List Int)(lo hi:Option Int):∃ ms:List Int,pV (ns.map V.int) lo hi=ms.map V.int:=by
 unfold pV;refine⟨(ns.drop (HT.jA (ns.map V.int).length 0 lo)).take (HT.jA (ns.map V.int).length (ns.map V.int).length hi-HT.jA (ns.map V.int).length 0 lo),?_⟩;rw[List.map_take,List.map_drop]
theorem tt{p:Prop} [Decidable p] {Q:V->Hp->Prop} {H:Hp} (hp:p) (h:Q (.bl true) H):Q (.bl (decide p)) H:=by
 rw[decide_eq_true hp];exact h
theorem Qq.or{K:Frag}{k:Bool}{H:Hp}{a:Addr}{xs:List V}(h:Qq k H a xs):bM K H a xs\/d8 K H a xs:=by
 cases k
 ·exact .inr (d8.of h)
 ·exact .inl (bM.of h)
theorem dG{H H':Hp}(k:∀ a,a≠l->H' a=H a):cN l H H':=λa o e n=>by rw[k a n];exact e
end jy
namespace jy
open L2 dz
theorem jC.lst{H:Hp}{l c:Addr}(s:jC H l c):∃ xs,H l=some (.lst xs):=by
 obtain⟨n,ns,i,d,r,e1,_⟩:=s;exact⟨_,e1⟩
end jy
namespace dz
open Spec Rows L2
section
variable {prog:Program} {w:World} {A:Around} {R:Result->Shared->Prop} {s:Shared}
def wN(oz:List Expr)(env:Env):Sem Bool:=forIn oz true λc r=>if r=true then do let ok ← isTrue c env (eval c env);pure (ForInStep.yield ok) else pure (ForInStep.yield r)
theorem NO{iter:Expr}{scope:Scope}{it acc:Value}{env:Env}(I:Nat->Shared->Prop)
  (xY:∀ n s,I n s->wpAny (model prog w) A (pyNext it) (λr s₁=>match r with
   | none=>R (.ok .next) s₁
   | some v=>wpAny (model prog w) A (letOwnedTupleGo zJ it v) (λ_ s₂=>wpAny (model prog w) A (assign zJ env v) (λ_ s₃ =>
     wpAny (model prog w) A (wN oz env) (λok s₄ =>
      if ok=true then wpAny (model prog w) A (eval pI env) (λx s₅=>wpAny (model prog w) A (call (.builtin "list.append") [acc,x]) (λ_ s₆=>∃ m,m<n/\I m s₆) (λ_ _=>False) s₅) (λ_ _=>False) s₄
      else ∃ m,m<n/\I m s₄) (λ_ _=>False) s₃) (λ_ _=>False) s₂) (λ_ _=>False) s₁) (λ_ _=>False) s)
  (n:Nat) (h:I n s):codeAny (model prog w) A (.compLoop (.ListComp pI [⟨zJ,iter,oz,0⟩] scope pos) 0 it acc env) R s:=by
 refine codeAny_loop rfl I (λn s hI=>?_) n h;show wpAny _ A ((compTurn (.ListComp pI [⟨zJ,iter,oz,0⟩] scope pos) 0 it acc env).onRaise (λx=>do noteFrame x env;theTreesLotGoes x)) _ _ s;refine wpAny_noted ?_;rw[compTurn_list];refine wpAny_bind (wpAny_standAt (wpAny_bind (wpAny_mono (xY n s hI) (λr s₁ h₁=>?_) λ_ _ h'=>h'.elim)))
 cases r with
 | none=>exact wpAny_pure h₁
 | some v =>
  refine wpAny_bind (wpAny_mono h₁ (λ_ s₂ h₂=>wpAny_bind (wpAny_mono h₂ (λ_ s₃ h₃=>wpAny_bind (wpAny_mono h₃ (λok s₄ h₄=>?_) λ_ _ h'=>h'.elim)) λ_ _ h'=>h'.elim)) λ_ _ h'=>h'.elim)
  cases ok with
  | false=>exact wpAny_pure ⟨rfl,h₄⟩
  | true=>exact wpAny_bind (wpAny_bind (wpAny_mono h₄ (λx s₅ h₅=>wpAny_bind (wpAny_mono h₅ (λ_ s₆ h₆=>wpAny_pure (wpAny_pure ⟨rfl,h₆⟩)) λ_ _ h'=>h'.elim)) λ_ _ h'=>h'.elim))
end
section
variable {X:Cx} {N:List Str} {scope:Scope}
def NP(X:Cx)(oz:List Expr)(t:TT):Prop :=
 ∀ (ao:List (Addr × Obj)) (s:Shared) (σ:L2.St) (H:Hp) (Q:Bool->Hp->Prop),Inv X ao σ H s->t σ H Q->wpAny (model X.prog X.w) X.A (wN oz X.env) (TP X ao σ Q) X.xe s
def Qt:TT:=λ_ H Q=>Q true H
theorem lC:NP X [] Qt:=λao s σ H Q I h=>wpAny_tests_nil ⟨H,I,h⟩
theorem Mh{c:Expr}{t:TT}(h:PT X c t):NP X [c] t:=λao s σ H Q I q=>wpAny_tests_one (h ao s σ H Q I q)
end
end dz
namespace dz
open Spec Rows L2
theorem NQ{P:Program}{w:World}{K:Frag}(it:Addr)(lo:Int)(n:Nat):Hr P w K tg (Np lo n) [it] it (λi h=>IsLongIter h it (lo+(i:Nat)*1) ((n:Int)-(i:Nat)) 1) where
 mem:=by simp
 obj:=λi h st b hb=>by
  have e:b=it:=by simpa using hb
  subst e
  exact⟨_,st,λv z=>by
   have z':Data.fields _=Data.cell v:=z
   cases z'⟩
 keep:=λi h h' st k=>k it (by simp) _ st
 item:=by
  intro X hP hw hK hc i ao s σ H E I hf st hg;subst hP hw hK;obtain⟨f0,f1,f2,f3,f4,f5⟩:=hf it (by simp);have W:=Walks.longrange (prog:=X.prog) (w:=X.w) (I.ok.hd hc) it lo 1 n;refine W.item i s _ _ hg st λv h' tk hv Dy kk=>?_;obtain⟨t,rfl⟩:=hv;have I1:Inv X ao σ H { s with heap:=h',toks:=tk }:=I.turned (λb o hb e=>kk b o (by simpa using hb) e) f0 f1 f3 f4 f5;refine⟨_,rfl,Hs (s:={ s with heap:=h',toks:=tk }) (n:="longrange_iterator") Dy rfl rfl (by decide) ⟨.int (lo+i),H,I1,⟨t,?_⟩,⟨rfl,rfl⟩,Dy,λb hb=>(hf b hb).1⟩⟩;rw[Int.mul_one]
 done:=by
  intro X hP hw hK hc i ao s σ H E I hf st hg;subst hP hw hK;obtain⟨f0,f1,f2,f3,f4,f5⟩:=hf it (by simp);exact wpAny_pyNext_long_end (I.ok.hd hc) st (by have:n<=i:=hg;lia) λh' eb=>⟨rfl,I.turned (t':=s.toks) (λb o hb e=>eb b o hb e) f0 f1 f3 f4 f5⟩
 self:=λ_ _ _ _ _ st h=>wpAny_pyIter_longiter st h
section
variable {X:Cx} {tg:Expr}
theorem NR{σ:L2.St}{H:Hp}{s:Shared}{R:It->Hp->Prop}{E:Value->Shared->Prop}{lo hi:Int}{t u v:Tok}{tk:Nat}(I:Inv X ao σ H s)
  (q:R (Np lo (hi-lo).toNat) H):wpAny (model X.prog X.w) X.A (pyIter (.ref s.heap.objs.size)) (PIE X ao σ tg R) E { s with heap:=s.heap.push { cls:=.type "range",data:=.fields #[.int lo t,.int hi u,.int 1 v] },toks:=tk }:=by
 have I1:Inv X ao σ H { s with heap:=s.heap.push { cls:=.type "range",data:=.fields #[.int lo t,.int hi u,.int 1 v] },toks:=tk }:=I.kept λb o e=>Heap.get?_push_of_some _ e;have e1:lo+((0:Nat):Int)*1=lo:=by simp
 have e2:(((hi-lo).toNat:Nat):Int)-((0:Nat):Int)=Builtin.Range.rangeSize lo hi 1:=by rw[rangeSize_one];split <;> lia
 have fp:∀ b∈[(s.heap.push { cls:=.type "range",data:=.fields #[.int lo t,.int hi u,.int 1 v] }).objs.size],uI X ao H b:=λb hb=>by
  have e:b=(s.heap.push { cls:=.type "range",data:=.fields #[.int lo t,.int hi u,.int 1 v] }).objs.size:=by simpa using hb
  subst e;exact I1.J5 (iT _) (I1.hok.fresh (iT _))
 cases hb:Builtin.Range.small lo hi 1 with
 | true =>
  refine wpAny_pyIter_range (IsRange.new ..) hb ?_;refine⟨_,[(s.heap.push { cls:=.type "range",data:=.fields #[.int lo t,.int hi u,.int 1 v] }).objs.size],_,_,H,rfl,I1.kept (t':=tk) λb o e=>Heap.get?_push_of_some _ e,BU _ lo (hi-lo).toNat,?_,fp,q⟩;show IsRangeIter _ _ (lo+((0:Nat):Int)*1) ((((hi-lo).toNat:Nat):Int)-((0:Nat):Int)) 1;rw[e1,e2];exact Heap.get?_push_size _ rfl
 | false =>
  refine wpAny_pyIter_longrange (IsRange.new ..) hb ?_;refine⟨_,[(s.heap.push { cls:=.type "range",data:=.fields #[.int lo t,.int hi u,.int 1 v] }).objs.size],_,_,H,rfl,I1.kept (t':=tk) λb o e=>Heap.get?_push_of_some _ e,NQ _ lo (hi-lo).toNat,?_,fp,q⟩;show IsLongIter _ _ (lo+((0:Nat):Int)*1) ((((hi-lo).toNat:Nat):Int)-((0:Nat):Int)) 1;rw[e1,e2];exact Heap.get?_push_size _ rfl
def ZL(ta:TA):TI:=fun σ H R=>ta σ H λvs H1=>∃ i j:Int,vs=[.int i,.int j]/\R (Np i (j-i).toNat) H1
theorem NS{a b:Expr}{ta:TA}{p pos:Pos}(hg:Gl X "range")(hm:X.mg "range"=none)(ha:PA X [a,b] ta)(hs:starEach [a,b] X.env=[(false,eval a X.env),(false,eval b X.env)]:=by rfl)(GX:starEach [b] X.env=[(false,eval b X.env)]:=by rfl) :
  PI X tg (.Call (.Name "range" p) [a,b] [] pos) (ZL ta):=by
 intro ao s σ H R I h;refine Call_ (xV I hg hm boot_range (PyProof.Rows.callWith_type1 (dB (ha pos ao s σ H _ I h) λus s1 ⟨vs,H1,I1,r1,q1⟩=>?_) (by rw[hs,GX]) (by rw[GX];rfl)));obtain⟨i,j,e,q⟩:=q1;subst e;obtain⟨u1,u2,rfl,⟨t,rfl⟩,⟨t',rfl⟩⟩:=r1.two;exact call_range_2 (NR I1 q)
end
end dz
namespace dz
open Spec Rows L2
section
variable {prog:Program} {w:World} {A:Around} {R:Result->Shared->Prop} {s:Shared}
theorem TN(pI tg iter vK eS:Expr)(oz mH:List Expr)(scope:Scope)(pos:Pos)(it acc:Value)(env:Env) :
  compTurn (.ListComp pI [⟨tg,iter,oz,0⟩,⟨vK,eS,mH,0⟩] scope pos) 1 it acc env=(do
   standAt eS.pos
   match ← pyNext it with
   | none=>pure (.done .next)
   | some v =>
    letOwnedTupleGo vK it v
    assign vK env v
    let ok ← wN mH env
    if ok then (do let _ ← call (.builtin "list.append") [acc,← eval pI env])
    again (.compLoop (.ListComp pI [⟨tg,iter,oz,0⟩,⟨vK,eS,mH,0⟩] scope pos) 1 it acc env)):=by rfl
theorem Qu(pI tg iter vK eS:Expr)(oz mH:List Expr)(scope:Scope)(pos:Pos)(it acc:Value)(env:Env) :
  compTurn (.ListComp pI [⟨tg,iter,oz,0⟩,⟨vK,eS,mH,0⟩] scope pos) 0 it acc env=(do
   standAt iter.pos
   match ← pyNext it with
   | none=>pure (.done .next)
   | some v =>
    letOwnedTupleGo tg it v
    assign tg env v
    let ok ← wN oz env
    if ok then
     let x ← eval eS env
     standAt eS.pos
     let x ← foldedSetIterable eS env x
     let _ ← runOwn (.compStart (.ListComp pI [⟨tg,iter,oz,0⟩,⟨vK,eS,mH,0⟩] scope pos) 1 (← holding [x] (pyIter x)) acc env) env
    again (.compLoop (.ListComp pI [⟨tg,iter,oz,0⟩,⟨vK,eS,mH,0⟩] scope pos) 0 it acc env)):=by rfl
theorem Xh{iter:Expr}{scope:Scope}{it acc:Value}{env:Env}(I:Nat->Shared->Prop)
  (xY:∀ n s,I n s->wpAny (model prog w) A (pyNext it) (λr s₁=>match r with
   | none=>R (.ok .next) s₁
   | some v=>wpAny (model prog w) A (letOwnedTupleGo vK it v) (λ_ s₂=>wpAny (model prog w) A (assign vK env v) (λ_ s₃ =>
     wpAny (model prog w) A (wN mH env) (λok s₄ =>
      if ok=true then wpAny (model prog w) A (eval pI env) (λx s₅=>wpAny (model prog w) A (call (.builtin "list.append") [acc,x]) (λ_ s₆=>∃ m,m<n/\I m s₆) (λ_ _=>False) s₅) (λ_ _=>False) s₄
      else ∃ m,m<n/\I m s₄) (λ_ _=>False) s₃) (λ_ _=>False) s₂) (λ_ _=>False) s₁) (λ_ _=>False) s)
  (n:Nat) (h:I n s):codeAny (model prog w) A (.compLoop (.ListComp pI [⟨tg,iter,oz,0⟩,⟨vK,eS,mH,0⟩] scope pos) 1 it acc env) R s:=by
 refine codeAny_loop rfl I (λn s hI=>?_) n h;show wpAny _ A ((compTurn (.ListComp pI [⟨tg,iter,oz,0⟩,⟨vK,eS,mH,0⟩] scope pos) 1 it acc env).onRaise (λx=>do noteFrame x env;theTreesLotGoes x)) _ _ s;refine wpAny_noted ?_;rw[TN];refine wpAny_bind (wpAny_standAt (wpAny_bind (wpAny_mono (xY n s hI) (λr s₁ h₁=>?_) λ_ _ h'=>h'.elim)))
 cases r with
 | none=>exact wpAny_pure h₁
 | some v =>
  refine wpAny_bind (wpAny_mono h₁ (λ_ s₂ h₂=>wpAny_bind (wpAny_mono h₂ (λ_ s₃ h₃=>wpAny_bind (wpAny_mono h₃ (λok s₄ h₄=>?_) λ_ _ h'=>h'.elim)) λ_ _ h'=>h'.elim)) λ_ _ h'=>h'.elim)
  cases ok with
  | false=>exact wpAny_pure ⟨rfl,h₄⟩
  | true=>exact wpAny_bind (wpAny_bind (wpAny_mono h₄ (λx s₅ h₅=>wpAny_bind (wpAny_mono h₅ (λ_ s₆ h₆=>wpAny_pure (wpAny_pure ⟨rfl,h₆⟩)) λ_ _ h'=>h'.elim)) λ_ _ h'=>h'.elim))
theorem TQ{iter:Expr}{scope:Scope}{it acc:Value}{env:Env}
  (h0:codeAny (model prog w) A (.compLoop (.ListComp pI [⟨tg,iter,oz,0⟩,⟨vK,eS,mH,0⟩] scope pos) 1 it acc env) R s)
  (h:wpAny (model prog w) A (pyIter it) (λTR s'=>codeAny (model prog w) A (.compLoop (.ListComp pI [⟨tg,iter,oz,0⟩,⟨vK,eS,mH,0⟩] scope pos) 1 TR acc env) R s') (λ_ _=>False) s) :
  codeAny (model prog w) A (.compStart (.ListComp pI [⟨tg,iter,oz,0⟩,⟨vK,eS,mH,0⟩] scope pos) 1 it acc env) R s:=by
 refine codeAny_of_tree ?_;show wpAny _ _ ((compStart (.ListComp pI [⟨tg,iter,oz,0⟩,⟨vK,eS,mH,0⟩] scope pos) 1 it acc env).onRaise (λx=>do noteFrame x env;standAt theWindowsPlace)) _ _ s;refine wpAny_notedAt ?_;unfold compStart;show wpAny _ _ (ask >>= _) _ _ s;refine wpAny_bind (wpAny_askSetting (wpAny_ite ?_));split
 ·first
   | exact wpAny_bind (wpAny_pure (wpAny_pure (And.intro rfl h0)))
   | exact wpAny_pure (And.intro rfl h0)
 ·first
   | exact wpAny_bind (wpAny_rule (wpAny_bind (wpAny_standAt (wpAny_bind (wpAny_mono h (λTR s' h'=>wpAny_pure (And.intro rfl h')) λ_ _ x=>x.elim)))))
   | (refine wpAny_bind (wpAny_rule ?_);show wpAny _ _ (standAt eS.pos >>= _) _ _ s;exact wpAny_bind (wpAny_standAt (wpAny_bind (wpAny_mono h (λTR s' h'=>wpAny_pure (And.intro rfl h')) λ_ _ x=>x.elim))))
theorem TU{iter:Expr}{scope:Scope}{it acc:Value}{env:Env}(I:Nat->Shared->Prop)
  (GX:∀ x,foldedSetIterable eS env x=pure x)
  (xY:∀ n s,I n s->wpAny (model prog w) A (pyNext it) (λr s₁=>match r with
   | none=>R (.ok .next) s₁
   | some v=>wpAny (model prog w) A (letOwnedTupleGo tg it v) (λ_ s₂=>wpAny (model prog w) A (assign tg env v) (λ_ s₃ =>
     wpAny (model prog w) A (wN oz env) (λok s₄ =>
      if ok=true then wpAny (model prog w) A (eval eS env) (λx s₅=>wpAny (model prog w) A (pyIter x) (λZM s₆ =>
       codeAny (model prog w) A (.compStart (.ListComp pI [⟨tg,iter,oz,0⟩,⟨vK,eS,mH,0⟩] scope pos) 1 ZM acc env) (λr s₇=>(∃ f,r=.ok f)/\∃ m,m<n/\I m s₇) s₆) (λ_ _=>False) s₅) (λ_ _=>False) s₄
      else ∃ m,m<n/\I m s₄) (λ_ _=>False) s₃) (λ_ _=>False) s₂) (λ_ _=>False) s₁) (λ_ _=>False) s)
  (n:Nat) (h:I n s):codeAny (model prog w) A (.compLoop (.ListComp pI [⟨tg,iter,oz,0⟩,⟨vK,eS,mH,0⟩] scope pos) 0 it acc env) R s:=by
 refine codeAny_loop rfl I (λn s hI=>?_) n h;show wpAny _ A ((compTurn (.ListComp pI [⟨tg,iter,oz,0⟩,⟨vK,eS,mH,0⟩] scope pos) 0 it acc env).onRaise (λx=>do noteFrame x env;theTreesLotGoes x)) _ _ s;refine wpAny_noted ?_;rw[Qu];refine wpAny_bind (wpAny_standAt (wpAny_bind (wpAny_mono (xY n s hI) (λr s₁ h₁=>?_) λ_ _ h'=>h'.elim)))
 cases r with
 | none=>exact wpAny_pure h₁
 | some v =>
  refine wpAny_bind (wpAny_mono h₁ (λ_ s₂ h₂=>wpAny_bind (wpAny_mono h₂ (λ_ s₃ h₃=>wpAny_bind (wpAny_mono h₃ (λok s₄ h₄=>?_) λ_ _ h'=>h'.elim)) λ_ _ h'=>h'.elim)) λ_ _ h'=>h'.elim)
  cases ok with
  | false=>exact wpAny_pure ⟨rfl,h₄⟩
  | true =>
   refine wpAny_bind (wpAny_mono h₄ (λx s₅ h₅=>wpAny_bind (wpAny_standAt (wpAny_bind (wpAny_of_eq (GX x) (wpAny_bind (wpAny_holding (wpAny_mono h₅ (λZM s₆ h₆=>?_) λ_ _ h'=>h'.elim))))))) λ_ _ h'=>h'.elim);refine wpAny_bind (wpAny_runOwn (codeAny_mono h₆ λr s₇ J2=>?_));obtain⟨⟨f,hf⟩,hm⟩:=J2;subst hf;exact wpAny_pure ⟨rfl,hm⟩
end
section
variable {X:Cx} {N:List Str} {scope:Scope}
def Kx(wi:TI)(acc:Addr)(g:TG)(tt:TT)(te:TE):L2.St->Hp->(L2.St->Hp->Prop)->Prop:=fun σ H Nx=>wi σ H λJ H1 =>
 ∃ W:Nat->Nat->L2.St->Hp->Prop,(∃ m,W 0 m σ H1)/\∀ i m σ H,W i m σ H->
  (J.stop i H/\Nx σ H)\/(J.go i H/\∃ N2:L2.St->Hp->Prop,(∀ σ' H',N2 σ' H'->∃ m',m'<m/\W (i+1) m' σ' H')/\∀ x H',J.OR i H x H'->g x σ H' fun σ2 H2=>tt σ2 H2 λb H3 =>
   if b=true then te σ2 H3 λv H4=>∃ xs,H4 acc=some (.lst xs)/\xs.length<sizeLine/\N2 σ2 (aN H4 acc (.lst (xs++[v]))) else N2 σ2 H3)
theorem NT{Y:Cx}{iter:Expr}{Ky:TI}{g2:TG}{Kz:TT}{te:TE}(hc:Y.calm=true)(hxe:Y.xe=λ_ _=>False)(hi:PI Y vK eS Ky)(hg:PG Y vK g2)(ht:NP Y mH Kz)(he:PE Y pI te)
  {ao:List (Addr × Obj)} {s:Shared} {σ:L2.St} {H:Hp} {Nx:L2.St->Hp->Prop} (I:Inv Y ao σ H s) (h:Kx Ky acc g2 Kz te σ H Nx) :
  wpAny (model Y.prog Y.w) Y.A (eval eS Y.env) (λx s₅=>wpAny (model Y.prog Y.w) Y.A (pyIter x) (λZM s₆ =>
   codeAny (model Y.prog Y.w) Y.A (.compStart (.ListComp pI [⟨tg,iter,oz,0⟩,⟨vK,eS,mH,0⟩] scope pos) 1 ZM (.ref acc) Y.env) (λr s₇=>(∃ f,r=.ok f)/\∃ σ' H',Inv Y ao σ' H' s₇/\Nx σ' H') s₆) (λ_ _=>False) s₅) (λ_ _=>False) s:=by
 have hi':=hi ao s σ H _ I h;have hg':=hg;have ht':=ht;have Mi:=he;unfold PG at hg';unfold NP at ht';unfold PE at Mi;rw[hxe]at hi' hg' ht' Mi;refine dB hi' λv s1 h1=>dB h1 λY7 s2 h2=>?_;obtain⟨it,fp,tn,J,H2,e,I2,T,st2,f2,W,⟨m0,w0⟩,xY⟩:=h2;subst e;have ya:∀ {H':Hp},(∀ b∈fp,H' b=none)->∀ b∈fp,uI Y ao H' b:=λhn b hb=>⟨hn b hb,(f2 b hb).2⟩
 have loop:codeAny (model Y.prog Y.w) Y.A (.compLoop (.ListComp pI [⟨tg,iter,oz,0⟩,⟨vK,eS,mH,0⟩] scope pos) 1 (.ref it) (.ref acc) Y.env) (λr s₇=>(∃ f,r=.ok f)/\∃ σ' H',Inv Y ao σ' H' s₇/\Nx σ' H') s2:=by
  refine Xh (λn s'=>∃ i σ' H',Inv Y ao σ' H' s'/\tn i s'.heap/\(∀ b∈fp,H' b=none)/\W i n σ' H') ?_ m0 ⟨0,σ,H2,I2,st2,λb hb=>(f2 b hb).1,w0⟩;rintro n s6 ⟨i,σ6,H6,I6,Vr,OU,w6⟩;rcases xY i n σ6 H6 w6 with ⟨stop,qn⟩|⟨go,N2,hN,step⟩
  ·refine dB (T.done Y rfl rfl rfl hc i ao s6 σ6 H6 _ I6 (ya OU) Vr stop) λr s7 J4=>?_;obtain⟨hr,I7⟩:=J4;subst hr;exact⟨⟨_,rfl⟩,σ6,H6,I7,qn⟩
  ·refine dB (T.item Y rfl rfl rfl hc i ao s6 σ6 H6 _ I6 (ya OU) Vr go) λr s7 J3=>?_;obtain⟨u,hr,h7⟩:=J3;subst hr;refine dB h7 λ_ s8 BR=>?_;obtain⟨x,H8,I8,r8,y8,Qv,FH⟩:=BR;have ZN:=I8.pinned (ya FH) (T.obj _ _ Qv);refine dB (hg' _ s8 σ6 H8 x u _ ZN r8 (step x H8 y8)) λ_ s9 Ho=>?_;obtain⟨σ9,H9,I9,q9⟩:=Ho;refine dB (ht' _ s9 σ9 H9 _ I9 q9) λok s10 Ft=>?_;obtain⟨Sq,Vs,Ew⟩:=Ft
   have again:∀ {σ7:L2.St} {H7:Hp} {zE:Shared},Inv Y (ao++xZ fp s8.heap) σ7 H7 zE->N2 σ7 H7->∃ m,m<n/\∃ i σ' H',Inv Y ao σ' H' zE/\tn i zE.heap/\(∀ b∈fp,H' b=none)/\W i m σ' H':=λ{σ7 H7 zE} I7 n7=>by
    obtain⟨m',hm,w7⟩:=hN σ7 H7 n7;refine⟨m',hm,i+1,σ7,H7,I7.ud,T.keep _ _ _ Qv λb hb o e=>(I7.pin (b,o) (uF _ (uF _ (j6 hb e)))).1,λb hb=>?_,w7⟩;obtain⟨o,e,d⟩:=T.obj _ _ Qv b hb;exact (I7.pin (b,o) (uF _ (uF _ (j6 hb e)))).2.1
   cases ok with
   | false =>
    rw[if_neg jQ]at Ew;exact again Vs Ew
   | true =>
    rw[if_pos rfl]at Ew;refine dB (Mi _ s10 σ9 Sq _ Vs Ew) λv zE J1=>?_;obtain⟨y,H11,I11,r11,xs,hx,hz,n11⟩:=J1;have ap:=cB _ zE σ9 H11 (.ref acc) [y] (.ref acc) [v] (λ_ H'=>N2 σ9 H') I11 rfl (.cons r11 .nil) ⟨_,xs,y,rfl,rfl,hx,hz,n11⟩;rw[hxe]at ap;exact dB ap λ_ t9 ⟨_,H12,I12,_,Xi⟩=>again I12 Xi
 exact TQ loop (T.self _ _ _ _ _ st2 loop)
theorem HQ{lo:Int}{k:Nat}{g:TG}{tt:TT}{te:TE}{σ:L2.St}{H:Hp}{Nx:L2.St->Hp->Prop}(Pv:Nat->L2.St->Hp->Prop)(h0:Pv 0 σ H)
  (hs:∀ i σ H,i<k->Pv i σ H->g (.int (lo+i)) σ H fun σ2 H2=>tt σ2 H2 λb H3=>if b=true then te σ2 H3 λv H4=>∃ ys,H4 acc=some (.lst ys)/\ys.length<sizeLine/\Pv (i+1) σ2 (aN H4 acc (.lst (ys++[v]))) else Pv (i+1) σ2 H3)
  (hd:∀ σ H,Pv k σ H->Nx σ H):∃ W:Nat->Nat->L2.St->Hp->Prop,(∃ m,W 0 m σ H)/\∀ i m σ H,W i m σ H->
  ((Np lo k).stop i H/\Nx σ H)\/((Np lo k).go i H/\∃ N2:L2.St->Hp->Prop,(∀ σ' H',N2 σ' H'->∃ m',m'<m/\W (i+1) m' σ' H')/\∀ x H',(Np lo k).OR i H x H'->g x σ H' fun σ2 H2=>tt σ2 H2 λb H3 =>
   if b=true then te σ2 H3 λv H4=>∃ xs,H4 acc=some (.lst xs)/\xs.length<sizeLine/\N2 σ2 (aN H4 acc (.lst (xs++[v]))) else N2 σ2 H3):=by
 refine⟨λi m σ H=>m=k-i/\i<=k/\Pv i σ H,⟨k,by simp,qA _,h0⟩,?_⟩;rintro i m σ H ⟨rfl,hi,p⟩;by_cases uJ:i<k
 ·refine .inr ⟨uJ,Pv (i+1),fun σ' H' p'=>⟨k-(i+1),by lia,rfl,uJ,p'⟩,λx H' y=>?_⟩;obtain⟨e,y⟩:=y;subst e y;exact hs i σ _ uJ p
 ·have e:i=k:=by lia
  subst e;exact .inl ⟨Nat.le_refl _,hd σ H p⟩
end
theorem Xj{i:Nat}{v:V}{σ:L2.St}{H:Hp}{Q:L2.St->Bool->Hp->Prop}(h:Q (σ.set i (some v)) true H):xA i v σ H (fun σ2 H2=>Qt σ2 H2 (Q σ2)):=h
theorem yes{σ:L2.St}{H:Hp}{Q:Bool->Hp->Prop}(h:Q true H):Qt σ H Q:=h
end dz
namespace jy
open L2 dz
inductive Mj(vs:List V)(H:Hp)(Q:VK)(E:XK):Prop
 | mk (r:Addr) (row:Row) (_:vs=[.ref r]) (_:cV H r row) (_:(∀ p∈row,p.1<=p.2)) (_:(bN row).length<=1000000) (_ :
 ∀ (n:Addr) (H':Hp),H' n=some (.lst ((bN row).map V.int))->aK H H'->H n=none->Q (.ref n) H')
theorem Ck{row:Row}{i:Nat}{p:Int × Int}(h:row[i]?=some p):bN (row.take (i+1))=bN (row.take i)++nM p:=by
 rw[take_snoc h,dD,jq]
theorem xG(row:Row)(i:Nat):(bN (row.take i)).length<=(bN row).length:=by
 conv=>rhs;rw[← List.take_append_drop i row,dD,dH]
 lia
theorem Qw{H0 H2:Hp}{q t:Addr}{bs:List Addr}{row:Row}{st en:Int}(OV:H0 q=none)(s:aK H0 H2)(jz:H2 q=some (.lst (bs.map V.ref)))(hb:bU H2 bs row)(ht:H2 t=none) :
  (aN (aN H2 t (.tup [.int st,.int en])) q (.lst (bs.map V.ref++[.ref t]))) q=some (.lst ((bs++[t]).map V.ref))/\
  bU (aN (aN H2 t (.tup [.int st,.int en])) q (.lst (bs.map V.ref++[.ref t]))) (bs++[t]) (row++[(st,en)])/\aK H0 (aN (aN H2 t (.tup [.int st,.int en])) q (.lst (bs.map V.ref++[.ref t]))):=by
 have Xk:q≠t:=az jz ht;have s1:aK H2 (aN H2 t (.tup [.int st,.int en])):=ak ht _;refine⟨by rw[af,j0];rfl,?_,bX OV (s.trans s1) (aM q _ _)⟩;refine bU.snoc ((hb.same s1).keep (s1 _ _ jz) (aM q _ _)) ?_;show aN _ q _ t=_;rw[aH Xk.symm,af]
theorem turned{H0 H2:Hp}{q t a:Addr}{bs:List Addr}{row:Row}{st en:Int}(OV:H0 q=none)(s:aK H0 H2)(jz:H2 q=some (.lst (bs.map V.ref++[.ref a])))(hb:bU H2 bs row)(ht:H2 t=none) :
  (aN (aN H2 t (.tup [.int st,.int en])) q (.lst ((bs.map V.ref++[V.ref a]).set bs.length (V.ref t)))) q=some (.lst ((bs++[t]).map V.ref))/\
  bU (aN (aN H2 t (.tup [.int st,.int en])) q (.lst ((bs.map V.ref++[V.ref a]).set bs.length (V.ref t)))) (bs++[t]) (row++[(st,en)])/\aK H0 (aN (aN H2 t (.tup [.int st,.int en])) q (.lst ((bs.map V.ref++[V.ref a]).set bs.length (V.ref t)))):=by
 have Xk:q≠t:=az jz ht;have s1:aK H2 (aN H2 t (.tup [.int st,.int en])):=ak ht _
 have e:(bs.map V.ref++[V.ref a]).set bs.length (V.ref t)=(bs++[t]).map V.ref:=by
  have z:=HP (bs.map V.ref) (V.ref a) (V.ref t);rw[cR]at z;rw[z,j0];rfl
 rw[e];refine⟨af,?_,bX OV (s.trans s1) (aM q _ _)⟩;refine bU.snoc ((hb.same s1).keep (s1 _ _ jz) (aM q _ _)) ?_;show aN _ q _ t=_;rw[aH Xk.symm,af]
theorem Xl(bs:List Addr)(a:Addr):LV (bs.map V.ref++[V.ref a]).length (-1)=some bs.length:=by
 rw[dH,cR,xh];exact HN _
theorem NU{f:Row->Int × Int->Row}{row:Row}{i:Nat}{p:Int × Int}(h:row[i]?=some p):(row.take (i+1)).foldl f []=f ((row.take i).foldl f []) p:=foldl_take_succ f row [] i p h
theorem HR(row:Row):∀ t:Row,(row.foldl gf t).length<=t.length+row.length:=by
 induction row with
 | nil=>intro t;simp
 | cons p row ih =>
  intro t;have h1:=ih (gf t p)
  have h2:(gf t p).length<=t.length+1:=by
   unfold gf;split
   ·lia
   ·exact AL _ _ _
  rw[qM,oJ];lia
theorem HS(ns:List Int):∀ t:Row,(ns.foldl (λt n=>m6 t n (n+1)) t).length<=t.length+ns.length:=by
 induction ns with
 | nil=>intro t;simp
 | cons n ns ih =>
  intro t;have h1:=ih (m6 t n (n+1));have h2:=AL t n (n+1);rw[qM,oJ];lia
end jy
namespace jy
open Spec Rows L2 dz
inductive FI(vs:List V)(H:Hp)(Q:VK)(E:XK):Prop
 | mk (r:Addr) (row:Row) (_:vs=[.ref r]) (_:cV H r row) (_:row.length<=1000000) (_: ∀ H',aK H H'->Q (.int (mj row)) H')
end jy
namespace iU
open Spec Rows PySem.W L2
end iU
namespace iU
open Spec Rows L2
section
variable {X:Cx}
theorem Ml{GZ y:Str}{m n:Nat}(h:GZ.length+(n+m)<=1000000)(hy:y.length<=n):(GZ++y).length<=sizeLine/\(GZ++y).length+m<=1000000:=by
 rw[PySem.strLen_append];refine⟨Nat.le_of_lt (Nat.lt_of_le_of_lt (show GZ.length+y.length<=1000000 by lia) (by decide)),by lia⟩
def TV(r r' r2:R2)(ta tb tc td:TE):TT:=fun σ H Q=>ta σ H λx H1=>tb σ H1 λy H2=>r x y H2 λz H3=>∃ k,z=.bl k/\
 (if k=true then tc σ H3 λu H4=>r' y u H4 λz' H5=>∃ k',z'=.bl k'/\(if k'=true then td σ H5 λv H6=>r2 u v H6 λz2 H7=>∃ k2,z2=.bl k2/\Q k2 H7 else Q false H5) else Q false H3)
theorem NV{op Fw Xm:CmpOp}{r r' r2:R2}{a b c d:Expr}{ta tb tc td:TE}(ho:yb X (compareOp op) r)(GW:yb X (compareOp Fw) r')(ho2:yb X (compareOp Xm) r2)(ha:PE X a ta)(hb:PE X b tb)(hc:PE X c tc)(hd:PE X d td)
  (hm:lastMarks [op,Fw,Xm] [b,c,d]=false:=by with_unfolding_all rfl):PT X (.Compare a [op,Fw,Xm] [b,c,d] pos) (TV r r' r2 ta tb tc td):=by
 intro ao s σ H Q I h
 refine isTrue_chain (dB (ha ao s σ H _ I h) λv s1 ⟨x,H1,I1,r1,q1⟩=>test_link (dB (hb ao s1 σ H1 _ I1 q1) λu s2 ⟨y,H2,I2,r2',q2⟩ =>
  dB (ho ao s2 σ H2 x y v u _ I2 r1 r2' q2) λz s3 ⟨z',H3,I3,r3,k,e,q3⟩=>?_)) hm
 subst e;cases r3;refine wpAny_truthy_bool ?_
 cases k with
 | false=>exact ite_ff ⟨H3,I3,q3⟩
 | true =>
  refine ite_tt (test_link (dB (hc ao s3 σ H3 _ I3 q3) λv4 s4 ⟨x4,H4,I4,r4,q4⟩=>dB (GW ao s4 σ H4 y x4 u v4 _ I4 r2' r4 q4) λz5 s5 J4=>?_));obtain⟨x5,H5,I5,r5,k5,e5,q5⟩:=J4;subst e5;cases r5;refine wpAny_truthy_bool ?_
  cases k5 with
  | false=>exact ite_ff ⟨H5,I5,q5⟩
  | true =>
   refine ite_tt (test_last (dB (hd ao s5 σ H5 _ I5 q5) λv6 s6 ⟨x6,H6,I6,r6,q6⟩=>dB (ho2 ao s6 σ H6 x4 x6 v4 v6 _ I6 r4 r6 q6) λz7 s7 J3=>?_));obtain⟨x7,H7,I7,r7,k7,e7,q7⟩:=J3;subst e7;cases r7;exact wpAny_truthy_bool ⟨H7,I7,q7⟩
end
end iU
namespace jy
open L2 dz iU
theorem aX{H H':Hp}{a:Addr}(s:aK H H')(h:H' a=none):H a=none:=by
 cases q:H a with
 | none=>rfl
 | some o=>rw[s a o q]at h;cases h
def zF(i:Int):Prop:=-(10^60)<i/\i<10^60
def Qx(a b h:Int)(p:Int × Int):Row:=if max (a-h) 0<min (b-h) (p.2-p.1) then [(p.1+max (a-h) 0,p.1+min (b-h) (p.2-p.1))] else []
def qx(a b:Int):Int->Row->Row
 | _,[]=>[]
 | h,p::r=>Qx a b h p++qx a b (h+(p.2-p.1)) r
theorem HU(a b:Int)(p:Int × Int):∀ (r:Row) (c:Int),qx a b c (r++[p])=qx a b c r++Qx a b (c+mj r) p
 | [],c=>by simp[qx,TJ]
 | q::r,c=>by
  have e:c+(q.2-q.1)+mj r=c+mj (q::r):=by rw[HL];lia
  rw[List.cons_append,qx,HU a b p r,qx,e,qL]
theorem Xn(a b h:Int)(p:Int × Int):(Qx a b h p).length<=1:=by
 unfold Qx
 split <;> simp
theorem oV(a b:Int):∀ (r:Row) (c:Int),(qx a b c r).length<=r.length
 | [],_=>iT _
 | q::r,c=>by
  have ih:=oV a b r (c+(q.2-q.1));have z:=Xn a b c q;rw[qx,dH,oJ];lia
theorem Qy(a b h:Int)(p:Int × Int):∀ q∈Qx a b h p,q.1<=q.2:=by
 unfold Qx;split
 ·intro q hq;simp only[List.mem_singleton]at hq;subst hq;simp only;lia
 ·intro q hq;cases hq
theorem FJ(a b:Int):∀ (r:Row) (c:Int),∀ q∈qx a b c r,q.1<=q.2
 | [],_=>λq hq=>by cases hq
 | p::r,c=>λq hq=>by
  rw[qx]at hq;rcases List.mem_append.mp hq with z|z
  ·exact Qy a b c p q z
  ·exact FJ a b r _ q z
theorem HV(s:Int):∀ (n k:Nat),(run s n).drop k=run (s+k) (n-k)
 | n,0=>by simp
 | 0,k+1=>by simp[run]
 | n+1,k+1=>by
  rw[run,List.drop_succ_cons,HV (s+1) n k];have e1:s+1+(k:Int)=s+((k+1:Nat):Int):=by lia
  have e2:n+1-(k+1)=n-k:=by lia
  rw[e1,e2]
theorem HW(s:Int):∀ (n k:Nat),(run s n).take k=run s (min k n)
 | n,0=>by simp[run]
 | 0,k+1=>by simp[run]
 | n+1,k+1=>by
  rw[run,List.take_succ_cons,HW (s+1) n k];have e2:min (k+1) (n+1)=min k n+1:=by lia
  rw[e2,run]
theorem NW(a b h:Int)(p:Int × Int)(hp:p.1<=p.2):bN (Qx a b h p)=((nM p).take (b-h).toNat).drop (a-h).toNat:=by
 obtain⟨s,e⟩:=p;simp only at hp;unfold Qx nM;simp only;rw[HW,HV,← Int.ofNat_toNat (a-h)];generalize (a-h).toNat=n;generalize b-h=x;have y0:0<=e-s:=by lia
 generalize e-s=y at y0
 have em:min x.toNat y.toNat=(min x y).toNat:=by
  rcases Int.le_total x y with c|c
  ·rw[Int.min_eq_left c,Nat.min_eq_left (Int.toNat_le_toNat c)]
  ·rw[Int.min_eq_right c,Nat.min_eq_right (Int.toNat_le_toNat c)]
 rw[em];generalize min x y=m;clear em y0 hp;by_cases c:(n:Int)<m
 ·rw[if_pos c,jq,nM];simp only;rw[Int.add_sub_add_left,Int.toNat_sub']
 ·rw[if_neg c,Nat.sub_eq_zero_of_le (Int.toNat_le.mpr (Int.not_lt.mp c))];rfl
theorem Cm(b h:Int)(L:Nat):(b-(h+L)).toNat=(b-h).toNat-L:=by rw[← Int.sub_sub,Int.toNat_sub']
theorem wO(a b:Int):∀ (r:Row) (h:Int),(∀ p∈r,p.1<=p.2)->bN (qx a b h r)=((bN r).take (b-h).toNat).drop (a-h).toNat
 | [],h,_=>by simp[qx,bN]
 | p::r,h,ok=>by
  have hp:=ok p (List.mem_cons_self ..);have ih:=wO a b r (h+(p.2-p.1)) λq hq=>ok q (t6 _ hq);have e:bN (p::r)=nM p++bN r:=rfl;have hl:=AM p hp;rw[qx,dD,NW a b h p hp,ih,e,List.take_append,List.drop_append,jG];congr 1;rw[← hl,Cm,Cm];by_cases hb:(nM p).length<=(b-h).toNat
  ·rw[Nat.min_eq_right hb]
  ·rw[Nat.sub_eq_zero_of_le (Nat.le_of_not_le hb)];simp
def OW(a b t:Int):Prop:=0<=a/\a<=b/\b<=t
inductive yS(vs:List V)(H:Hp)(Q:VK)(E:XK):Prop
 | mk (r:Addr) (row:Row) (a b:Int) (_:vs=[.ref r,.int a,.int b]) (_:cV H r row) (_:row.length<=1000000) (_ :
 ∀ (q:Addr) (H':Hp),cV H' q (qx a b 0 row)->aK H H'->H q=none->Q (.ref q) H')
end jy
namespace jy
open L2 dz iU
end jy
namespace jy
open L2 dz iU
theorem qg(r:Row)(ok:∀ p∈r,p.1<=p.2):bN (cJ r)=bN r:=by rw[Ce r ok,gO]
theorem uS(a b:Int)(row:Row)(ok:∀ p∈row,p.1<=p.2):bN (cJ (qx a b 0 row))=((bN row).take b.toNat).drop a.toNat:=by
 rw[qg _ (FJ a b row 0),wO a b row 0 ok,Int.sub_zero,Int.sub_zero]
theorem Mm(s:Int):∀ (n k:Nat),k<n->(run s n)[k]?=some (s+k)
 | 0,k,h=>by lia
 | n+1,0,_=>by simp[run]
 | n+1,k+1,h=>by
  rw[run,List.getElem?_cons_succ,Mm (s+1) n k (by lia)];congr 1;lia
theorem rD(r:Row):(cJ r).length<=r.length:=by
 have z:=HR r [];simpa [cJ] using z
end jy
namespace jy
open Spec Rows L2 dz iU
theorem bU.append{H:Hp}{as bs:List Addr}{r q:Row}(h:bU H as r)(t:bU H bs q):bU H (as++bs) (r++q):=by
 induction h with
 | nil=>exact t
 | cons e _ ih=>exact .cons e ih
theorem Xo{r q:Row}(h:∀ p∈r,p.1<=p.2)(g:∀ p∈q,p.1<=p.2):∀ p∈r++q,p.1<=p.2:=λp hp=>(List.mem_append.mp hp).elim (h p) (g p)
end jy
namespace L2
open Spec Rows
section
variable {κ:Type} [DecidableEq κ]
def cU(kvs:List (κ × V))(k:κ):Option V:=(kvs.find? λkv=>decide (kv.1=k)).map (·.2)
def gQ(kvs:List (κ × V))(k:κ)(v:V):List (κ × V) :=
 if (kvs.any λkv=>decide (kv.1=k))=true then kvs.map (λkv=>if kv.1=k then (kv.1,v) else kv) else kvs++[(k,v)]
theorem kj{p:κ × V}{r:List (κ × V)}{k:κ}(e:p.1=k):cU (p::r) k=some p.2:=by simp[cU,List.find?_cons,e]
theorem ko{p:κ × V}{r:List (κ × V)}{k:κ}(e:¬ p.1=k):cU (p::r) k=cU r k:=by simp[cU,List.find?_cons,e]
theorem rS(k:κ):∀ kvs:List (κ × V),(kvs.any λkv=>decide (kv.1=k))=(cU kvs k).isSome
 | []=>rfl
 | p::r=>by
  rw[List.any_cons];by_cases e:p.1=k
  ·simp only[kj e,decide_eq_true e,Bool.true_or,Option.isSome_some]
  ·rw[ko e,decide_eq_false e,Bool.false_or];exact rS k r
theorem HX(k j:κ)(y:V):∀ kvs:List (κ × V),cU (kvs.map λkv=>if kv.1=k then (kv.1,y) else kv) j=(cU kvs j).map λx=>if j=k then y else x
 | []=>rfl
 | p::r=>by
  have ih:=HX k j y r;rw[oK];by_cases h:p.1=k
  ·rw[if_pos h];by_cases e:p.1=j
   ·rw[kj (p:=(p.1,y)) e,kj e,Option.map_some,if_pos (e.symm.trans h)]
   ·rw[ko (p:=(p.1,y)) e,ko e,ih]
  ·rw[if_neg h];by_cases e:p.1=j
   ·rw[kj (p:=p) e,kj e,Option.map_some,if_neg (λz=>h (e.trans z))]
   ·rw[ko (p:=p) e,ko e,ih]
theorem EC(k j:κ)(y:V):∀ kvs:List (κ × V),cU kvs k=none->cU (kvs++[(k,y)]) j=if j=k then some y else cU kvs j
 | [],_=>by
  by_cases e:k=j
  ·rw[if_pos e.symm];exact kj (p:=(k,y)) e
  ·rw[if_neg (λz=>e z.symm)];exact ko (p:=(k,y)) e
 | p::r,hn=>by
  rw[List.cons_append];have hk:¬ p.1=k:=λz=>by rw[kj z]at hn;cases hn
  rw[ko hk]at hn;have ih:=EC k j y r hn;by_cases e:p.1=j
  ·rw[kj e,kj e,if_neg (λz=>hk (e.trans z))]
  ·rw[ko e,ko e,ih]
theorem kq(kvs:List (κ × V))(k j:κ)(y:V):cU (gQ kvs k y) j=if j=k then some y else cU kvs j:=by
 unfold gQ;by_cases a:(kvs.any λkv=>decide (kv.1=k))=true
 ·rw[if_pos a,HX];rw[rS]at a;by_cases e:j=k
  ·obtain⟨x,hx⟩:=Option.isSome_iff_exists.mp a;rw[if_pos e,e,hx,Option.map_some,if_pos rfl]
  ·rw[if_neg e]
   cases cU kvs j with
   | none=>rfl
   | some x=>rw[Option.map_some,if_neg e]
 ·rw[if_neg a];refine EC k j y kvs ?_;rw[rS]at a
  cases q:cU kvs k with
  | none=>rfl
  | some x=>rw[q]at a;exact (a rfl).elim
theorem jD(kvs:List (κ × V))(k:κ)(v:V):(gQ kvs k v).length<=kvs.length+1:=by
 unfold gQ;split
 ·rw[cR];lia
 ·rw[dH,oJ,tP];lia
theorem Cn{kvs:List (κ × V)}{k:κ}(v:V)(h:cU kvs k=none):gQ kvs k v=kvs++[(k,v)]:=by
 unfold gQ;rw[rS,h];exact if_neg (by decide)
theorem vE.zS{o:Option V}{u:Option Value}(r:vE o u):o.isSome=u.isSome:=by
 cases o with
 | none=>cases u with
  | none=>rfl
  | some _=>exact (show False from r).elim
 | some _=>cases u with
  | none=>exact (show False from r).elim
  | some _=>rfl
theorem vE.getD{o:Option V}{u:Option Value}{d:V}{d':Value}(r:vE o u)(rd:RelV d d'):RelV (o.getD d) (u.getD d'):=by
 cases o with
 | none=>cases u with
  | none=>exact rd
  | some _=>exact (show False from r).elim
 | some _=>cases u with
  | none=>exact (show False from r).elim
  | some _=>exact r
theorem KV.val{kvs:List (κ × V)}{vs:List (κ × Value)}(r:KV kvs vs)(k:κ):vE (cU kvs k) (valueAt vs k):=by
 unfold KV at r
 induction r with
 | nil=>exact True.intro
 | @cons p q ps qs h t ih =>
  obtain⟨h1,h2⟩:=h;by_cases e:p.1=k
  ·have e':q.1=k:=h1.symm.trans e;have b:valueAt (q::qs) k=some q.2:=by simp[valueAt,List.find?_cons,e']
   rw[kj e,b];exact h2
  ·have e':¬ q.1=k:=λz=>e (h1.trans z);have b:valueAt (q::qs) k=valueAt qs k:=by simp[valueAt,List.find?_cons,e']
   rw[ko e,b];exact ih
theorem KV.any{kvs:List (κ × V)}{vs:List (κ × Value)}(r:KV kvs vs)(k:κ):(kvs.any λkv=>decide (kv.1=k))=vs.any λkv=>decide (kv.1=k):=by
 unfold KV at r
 induction r with
 | nil=>rfl
 | cons h t ih=>rw[List.any_cons,List.any_cons,ih,h.1]
theorem KV.repl{kvs:List (κ × V)}{vs:List (κ × Value)}(r:KV kvs vs)(k:κ){y:V}{u:Value}(ry:RelV y u) :
  KV (kvs.map λkv=>if kv.1=k then (kv.1,y) else kv) (vs.map λkv=>if kv.1=k then (kv.1,u) else kv):=by
 unfold KV at r ⊢
 induction r with
 | nil=>exact .nil
 | @cons p q ps qs h t ih =>
  rw[oK,oK];refine .cons ?_ ih;obtain⟨h1,h2⟩:=h;by_cases e:p.1=k
  ·rw[if_pos e,if_pos (h1.symm.trans e)];exact⟨h1,ry⟩
  ·rw[if_neg e,if_neg (λz=>e (h1.trans z))];exact⟨h1,h2⟩
theorem KV.put{kvs:List (κ × V)}{vs:List (κ × Value)}(r:KV kvs vs)(k:κ){y:V}{u:Value}(ry:RelV y u):KV (gQ kvs k y) (stored vs k u):=by
 unfold gQ stored;rw[r.any k];by_cases e:(vs.any λkv=>decide (kv.1=k))=true
 ·rw[if_pos e,if_pos e];exact r.repl k ry
 ·rw[if_neg e,if_neg e];exact Paired.snoc r ⟨rfl,ry⟩
theorem KV.length{kvs:List (κ × V)}{vs:List (κ × Value)}(r:KV kvs vs):kvs.length=vs.length:=Paired.length r
end
theorem Co{P:Program}{w:World}{k:iy}{u:Value}(r:RelV (kV k) u):(iA P w).is k u=true:=by
 cases k with
 | inl i=>obtain⟨t,e⟩:=(show ∃ t,u=Value.int i t from r);subst e;exact G8 P w i t
 | inr x=>obtain⟨t,e⟩:=(show ∃ t,u=Value.str x t from r);subst e;exact G9 P w x t
theorem ED{P:Program}{w:World}:∀ {ks:List iy} {us:List Value},cH (ks.map kV) us->ItemsAre (iA P w) ks us
 | [],_,r=>by rw[List.map_nil]at r;cases r;exact .nil
 | k::ks,_,r=>by
  rw[oK]at r
  cases r with
  | cons h t=>exact .cons (Co h) (ED t)
abbrev KT(H:Hp):List (List iy × V)->List (List iy × Addr × Value)->Prop:=Paired λp q=>p.1=q.1/\H q.2.1=some (.tup (p.1.map kV))/\RelV p.2 q.2.2
theorem KT.val{H:Hp}{kvs:List (List iy × V)}{xs:List (List iy × Addr × Value)}(r:KT H kvs xs)(k:List iy):vE (cU kvs k) ((atKey xs k).map (·.2)):=by
 induction r with
 | nil=>exact True.intro
 | @cons p q ps qs h t ih =>
  obtain⟨h1,_,h2⟩:=h;by_cases e:p.1=k
  ·have e':q.1=k:=h1.symm.trans e;have b:atKey (q::qs) k=some q.2:=by simp[atKey,List.find?_cons,e']
   rw[kj e,b];exact h2
  ·have e':¬ q.1=k:=λz=>e (h1.trans z);have b:atKey (q::qs) k=atKey qs k:=by simp[atKey,List.find?_cons,e']
   rw[ko e,b];exact ih
theorem KT.repl{H:Hp}{kvs:List (List iy × V)}{xs:List (List iy × Addr × Value)}(r:KT H kvs xs)(k:List iy){y:V}{u:Value}(ry:RelV y u) :
  KT H (kvs.map λkv=>if kv.1=k then (kv.1,y) else kv) (xs.map (putAt k u)):=by
 induction r with
 | nil=>exact .nil
 | @cons p q ps qs h t ih =>
  rw[oK,oK];refine .cons ?_ ih;obtain⟨h1,h2,h3⟩:=h;unfold putAt;by_cases e:p.1=k
  ·rw[if_pos e,if_pos (h1.symm.trans e)];exact⟨h1,h2,ry⟩
  ·rw[if_neg e,if_neg (λz=>e (h1.trans z))];exact⟨h1,h2,h3⟩
theorem KT.put{H:Hp}{kvs:List (List iy × V)}{xs:List (List iy × Addr × Value)}(r:KT H kvs xs)(k:List iy){b:Addr}{y:V}{u:Value}(hb:H b=some (.tup (k.map kV)))(ry:RelV y u) :
  KT H (gQ kvs k y) (storedH xs k b u):=by
 have e:(kvs.any λkv=>decide (kv.1=k))=(atKey xs k).isSome:=by
  rw[rS,(r.val k).zS,Option.isSome_map]
 unfold gQ storedH;rw[e];by_cases q:(atKey xs k).isSome=true
 ·rw[if_pos q,if_pos q];exact r.repl k ry
 ·rw[if_neg q,if_neg q];exact Paired.snoc r ⟨rfl,hb,ry⟩
theorem KT.keeps{H H':Hp}{kvs:List (List iy × V)}{xs:List (List iy × Addr × Value)}(r:KT H kvs xs)(ht:∀ b ys,H b=some (.tup ys)->H' b=some (.tup ys)):KT H' kvs xs :=
 Paired.Hg r λ_ _ z=>⟨z.1,ht _ _ z.2.1,z.2.2⟩
section
variable {P:Program} {w:World} {H:Hp} {h:Heap} {a:Addr}
theorem Vt{u:HO}(ok:yE P w H h)(e:Rd H a u):jk P w H h a u:=e.ok ok
theorem EE{kvs:List (iy × V)}(ok:yE P w H h)(e:Rd H a (.dK kvs)):kvs.length<=sizeLine/\(a == sysModules)=false/\∃ vs,KV kvs vs/\h.DictOf (iA P w) a vs :=
 show jk P w H h a (.dK kvs) from Vt ok e
theorem Qz{kvs:List (iy × V)}(ok:yE P w H h)(e:H a=some (.dK kvs)):kvs.length<=sizeLine/\(a == sysModules)=false/\∃ vs,KV kvs vs/\h.DictOf (iA P w) a vs:=EE ok (.inl e)
theorem Cp{ks:List iy}(ok:yE P w H h)(e:H a=some (.tup (ks.map kV))):(tupleKind (iA P w)).is h ks a:=by
 obtain⟨_,aP,r,o,h1,h2,n,h3⟩:=(show jk P w H h a (.tup (ks.map kV)) from ok a _ e);exact⟨o,aP.toArray,n,h1,h2,h3,by simpa using ED r⟩
theorem EF{kvs:List (List iy × V)}(ok:yE P w H h)(e:Rd H a (.dT kvs)):kvs.length<=sizeLine/\(a == sysModules)=false/\
  ∃ xs,KT H kvs xs/\h.DictOfH (tupleKind (iA P w)) a xs:=by
 obtain⟨z,y,xs,r,o,es,ep,h1,h2,h3,h4,h5⟩:=(show jk P w H h a (.dT kvs) from Vt ok e);refine⟨z,y,xs,r,o,es,ep,h1,h2,h3,h4,λx hx=>?_,h5⟩
 have all:∀ {l:List (List iy × V)} {m:List (List iy × Addr × Value)},KT H l m->∀ x∈m,(tupleKind (iA P w)).is h x.1 x.2.1:=by
  intro l m q
  induction q with
  | nil=>intro x hx;exact nomatch hx
  | @cons p q ps qs hq t ih =>
   intro x hx;rcases List.mem_cons.mp hx with e|hx
   ·subst e;exact Cp ok (by rw[← hq.1];exact hq.2.1)
   ·exact ih x hx
 exact all r x hx
theorem ZO{kvs:List (List iy × V)}(ok:yE P w H h)(e:H a=some (.dT kvs)):kvs.length<=sizeLine/\(a == sysModules)=false/\
  ∃ xs,KT H kvs xs/\h.DictOfH (tupleKind (iA P w)) a xs:=EF ok (.inl e)
end
def lD(H:Hp)(a:Addr)(y:V)(r:Option V):Prop :=
 (∃ kvs k,Rd H a (.dK kvs)/\y=kV k/\r=cU kvs k)\/∃ kvs k b,Rd H a (.dT kvs)/\y=.ref b/\H b=some (.tup (k.map kV))/\r=cU kvs k
def FL(H:Hp)(a:Addr)(y v:V)(H':Hp):Prop :=
 (∃ kvs k,H a=some (.dK kvs)/\y=kV k/\kvs.length<sizeLine/\H'=aN H a (.dK (gQ kvs k v)))\/
 ∃ kvs k b,H a=some (.dT kvs)/\y=.ref b/\H b=some (.tup (k.map kV))/\kvs.length<sizeLine/\H'=aN H a (.dT (gQ kvs k v))
theorem lD.k{H:Hp}{a:Addr}{kvs:List (iy × V)}{k:iy}(e:H a=some (.dK kvs)):lD H a (kV k) (cU kvs k):=.inl ⟨kvs,k,.inl e,rfl,rfl⟩
theorem FL.k{H:Hp}{a:Addr}{kvs:List (iy × V)}{k:iy}{v:V}(e:H a=some (.dK kvs))(hl:kvs.length<sizeLine):FL H a (kV k) v (aN H a (.dK (gQ kvs k v))):=.inl ⟨kvs,k,e,rfl,hl,rfl⟩
section
variable {X:Cx} {ao:List (Addr × Obj)} {σ:St} {H:Hp} {s:Shared} {a:Addr} {y v:V} {u r:Value} {o:Option V} {A:Around} {E:Value->Shared->Prop}
theorem Inv.big(I:Inv X ao σ H s):sysModules<s.heap.objs.size:=by
 have h:mainGlobals<s.heap.objs.size:=(I.mod.glob.keeps I.bk).lt;exact Nat.lt_trans (by decide) h
theorem NY{Q:Value->Shared->Prop}(hu:A.units+1<cLine)(I:Inv X ao σ H s)(g:lD H a y (some v))(ry:RelV y u)(h:∀ w' s',Inv X ao σ H s'->RelV v w'->Q w' s') :
  wpAny (model X.prog X.w) A (getItem (.ref a) u) Q E s:=by
 rcases g with ⟨kvs,k,e,ey,l⟩|⟨kvs,k,b,e,ey,eb,l⟩
 ·subst ey;obtain⟨z,hd,vs,yF,dd⟩:=EE I.hok e;obtain⟨w',hw,jB⟩:=vE.some_of (v:=v) (o:=valueAt vs k) (by rw[l];exact yF.val k);exact wpAny_getItem_of (Co ry) dd.mapOf hw (h w' _ (I.tok _) jB)
 ·subst ey;cases (show u=Value.ref b from ry);obtain⟨z,hd,xs,yF,dd⟩:=EF I.hok e;obtain⟨w',hw,jB⟩:=vE.some_of (v:=v) (o:=(atKey xs k).map (·.2)) (by rw[l];exact yF.val k);obtain⟨p,hp,Mn⟩:=Option.map_eq_some_iff.mp hw;refine wpAny_getItem_heap (tupleKind_room_in1 hu) (Cp I.hok eb) dd hp ?_;rw[Mn];exact h w' _ (I.tok _) jB
theorem TX{Q:Value->Shared->Prop}(hu:A.units+1<cLine)(I:Inv X ao σ H s)(g:lD H a y o)(ry:RelV y u)(h:∀ s',Inv X ao σ H s'->Q (.bool (!o.isSome)) s') :
  wpAny (model X.prog X.w) A (compareOp .NotIn u (.ref a)) Q E s:=by
 rcases g with ⟨kvs,k,e,ey,l⟩|⟨kvs,k,b,e,ey,eb,l⟩
 ·subst ey;obtain⟨z,hd,vs,yF,dd⟩:=EE I.hok e;refine wpAny_notIn_of (Co ry) hd dd.mapOf ?_;rw[← (yF.val k).zS,← l];exact h _ (I.tok _)
 ·subst ey;cases (show u=Value.ref b from ry);obtain⟨z,hd,xs,yF,dd⟩:=EF I.hok e;refine wpAny_notIn_heap (tupleKind_room_in1 hu) (Cp I.hok eb) hd dd ?_;have q:=(yF.val k).zS;rw[Option.isSome_map]at q;rw[← q,← l];exact h _ (I.tok _)
theorem BB{h':Heap}{t':Nat}{ob:HO}(I:Inv X ao σ H s)(mu:YQ (H a))(hs:Heap.SameBut a s.heap h')(he:∃ q,h'.get? a=some q)(new:jk X.prog X.w (aN H a ob) h' a ob) :
  Inv X ao σ (aN H a ob) { s with heap:=h',toks:=t' } :=
 I.write (x:=a) (e:=a) mu (.inl rfl) (λb q hb z=>(hs.2 b hb).trans z) he new
theorem KA{P:Program}{w:World}{H':Hp}{h':Heap}{kvs:List (iy × V)}{vs:List (iy × Value)}(z:kvs.length<=sizeLine)(hd:(a == sysModules)=false)(yF:KV kvs vs)(dd:h'.DictOf (iA P w) a vs) :
  jk P w H' h' a (.dK kvs):=⟨z,hd,vs,yF,dd⟩
theorem NZ{H':Hp}{Q:Unit->Shared->Prop}(hu:A.units+1<cLine)(I:Inv X ao σ H s)(g:FL H a y v H')(ry:RelV y u)(rv:RelV v r)(h:∀ s',Inv X ao σ H' s'->Q () s') :
  wpAny (model X.prog X.w) A (setItem (.ref a) u r) Q E s:=by
 rcases g with ⟨kvs,k,e,ey,l,eH⟩|⟨kvs,k,b,e,ey,eb,l,eH⟩
 ·subst ey eH;obtain⟨z,hd,vs,yF,dd⟩:=Qz I.hok e;have hz:vs.length<=sizeLine:=by rw[← yF.length];exact z
  have hl:(gQ kvs k v).length<=sizeLine:=by have:=jD kvs k v;lia
  refine wpAny_setItem_pairs (hsz:=hz) (Co ry) dd λh' Ss hs=>h _ ?_;have he:∃ q,h'.get? a=some q:=let ⟨q,_,_,hq,_⟩:=Ss;⟨q,hq⟩;exact BB I (by rw[e];exact True.intro) hs he (KA hl hd (yF.put k rv) Ss)
 ·subst ey eH;cases (show u=Value.ref b from ry);obtain⟨z,hd,xs,yF,dd⟩:=ZO I.hok e;have hz:xs.length<=sizeLine:=by rw[← Paired.length yF];exact z
  have hl:(gQ kvs k v).length<=sizeLine:=by have:=jD kvs k v;lia
  refine wpAny_setItem_heap (hsz:=hz) (tupleKind_room_in1 hu) (Cp I.hok eb) dd λh' Ss hs=>h _ ?_;obtain⟨q,es,ep,hq,h2,h3,h4,_,h5⟩:=Ss;refine BB I (by rw[e];exact True.intro) hs ⟨q,hq⟩ ⟨hl,hd,_,(yF.put k eb rv).keeps λc ys ec=>?_,q,es,ep,hq,h2,h3,h4,h5⟩;rw[aH (dF ec e (λz=>nomatch z))];exact ec
end
def Xp(i:Expr):Prop:=∀ ov iv,subscripted i false ov iv=operate [ov,iv] (getItem ov iv)
theorem TY{prog:Program}{w:World}{A:Around}{E:Value->Shared->Prop}{s:Shared}{env:Env}{T id:String}{Q:Value->Shared->Prop}
  (hl:typeLookup (.type T) "__getitem__"=pure (some (.builtin id))) (hs:Xp yM)
  (h:wpAny (model prog w) A (eval value env) (λo s₁=>wpAny (model prog w) A (eval yM env) (λi s₂=>s₂.TypeIs o T/\wpAny (model prog w) A (getItem o i) Q E s₂) E s₁) E s) :
  wpAny (model prog w) A (eval (.Subscript value yM pos) env) Q E s:=by
 refine Subscript_ (wpAny_mono h (λo s₁ h₁=>wpAny_mono h₁ (λi s₂ h₂=>?_) λ_ _ x=>x) λ_ _ x=>x);obtain⟨hT,h₂⟩:=h₂;unfold subscriptTail;refine wpAny_bind ?_;rw[getitemInPython_of_ne hT.not_modules];refine wpAny_bind (wpAny_specialOf hT hl ?_)
 have lQ:wpAny (model prog w) A (subscripted yM false o i) (λr s₃=>wpAny (model prog w) A (letTemporaryGo value o r >>= λ_=>pure r) Q E s₃) E s₂:=by
  rw[hs o i];exact wpAny_operating (wpAny_mono h₂ (λr s₃ h₃=>wpAny_bind (wpAny_letTemporaryGo (wpAny_pure h₃))) λ_ _ x=>x)
 first
  | exact wpAny_pure (wpAny_bind lQ)
  | exact wpAny_bind (wpAny_pure (wpAny_bind lQ))
  | exact wpAny_bind lQ
theorem HY{X:Cx}{σ:St}{H:Hp}{s:Shared}{a:Addr}{y:V}{o:Option V}(I:Inv X ao σ H s)(g:lD H a y o):s.TypeIs (.ref a) "dict":=by
 rcases g with ⟨kvs,k,e,_,_⟩|⟨kvs,k,b,e,_,_,_⟩
 ·obtain⟨_,_,vs,_,dd⟩:=EE I.hok e;exact dd.typeIs
 ·obtain⟨_,_,xs,_,dd⟩:=EF I.hok e;exact dd.typeIs
inductive ZP(x y:V)(H:Hp)(Q:VK):Prop
 | mk (a:Addr) (v:V) (_:x=.ref a) (_:lD H a y (some v)) (_:Q v H):ZP x y H Q
def Vu(td ty:TE):TE:=fun σ H Q=>td σ H λx H1=>ty σ H1 λy H2=>ZP x y H2 Q
def TZ(ty td:TE):TE:=fun σ H Q=>ty σ H λy H1=>td σ H1 λx H2=>∃ a o,x=.ref a/\lD H2 a y o/\Q (.bl (!o.isSome)) H2
def ZQ(td ty tv:TE):TS:=λD σ H=>tv σ H λv H1=>td σ H1 λx H2=>ty σ H2 λy H3=>∃ a H4,x=.ref a/\FL H3 a y v H4/\D.nx σ H4
section
variable {X:Cx} {o i e value:Expr} {pos lR DE:Pos} {td ty tv:TE}
theorem T3(hu:X.A.units+1<cLine)(ho:PE X o td)(hi:PE X i ty)(hs:Xp i):PE X (.Subscript o i pos) (Vu td ty):=by
 intro ao s σ H Q I h;refine TY PySem.F.slot_dict_getitem.lookup hs (dB (ho ao s σ H _ I h) λu s1 ⟨x,H1,I1,rx,q1⟩=>dB (hi ao s1 σ H1 _ I1 q1) λiv s2 BR=>?_);obtain⟨y,H2,I2,ry,a,v,ex,g,q2⟩:=BR;subst ex;obtain rfl:u=Value.ref a:=rx;exact⟨HY I2 g,NY hu I2 g ry λw' s3 I3 jB=>⟨v,H2,I3,jB,q2⟩⟩
theorem EG(hu:X.A.units+1<cLine)(hi:PE X i ty)(ho:PE X o td):PC X .NotIn i o (TZ ty td):=by
 intro ao s σ H Q I h;refine dB (hi ao s σ H _ I h) λiv s1 ⟨y,H1,I1,ry,q1⟩=>dB (ho ao s1 σ H1 _ I1 q1) λu s2 Ft=>?_;obtain⟨x,H2,I2,rx,a,ov,ex,g,q2⟩:=Ft;subst ex;obtain rfl:u=Value.ref a:=rx;exact TX hu I2 g ry λs3 I3=>⟨.bl (!ov.isSome),H2,I3,rfl,q2⟩
theorem yT(hu:X.A.units+1<cLine)(ho:PE X o td)(hi:PE X i ty)(hv:PE X value tv)(hs:swapsWith value (some (.Subscript o i lR)) pos.line X.env=pure false) :
  PS X (.Assign [.Subscript o i lR] value pos) (ZQ td ty tv):=by
 intro ao s σ H D I h;refine wpAny_Assign_Subscript (dB (hv ao s σ H _ I h) λr s1 ⟨v,H1,I1,rv,q1⟩=>dB (ho ao s1 σ H1 _ I1 q1) λu s2 ⟨x,H2,I2,rx,q2⟩=>dB (hi ao s2 σ H2 _ I2 q2) λiv s3 ⟨y,H3,I3,ry,a,H4,ex,g,q3⟩=>?_) hs;subst ex;obtain rfl:u=Value.ref a:=rx;exact NZ hu I3 g ry rv λs4 I4=>⟨σ,H4,I4,q3⟩
end
theorem HZ{P:Program}{w:World}{H:Hp}(h:Heap)(hb:sysModules<h.objs.size):jk P w H (h.push { cls:=.type "dict",data:=.dict #[] }) h.objs.size (.dK []) :=
 ⟨Nat.zero_le _,beq_eq_false_iff_ne.mpr (Ne.symm (pR hb)),[],.nil,Heap.DictOf.new h⟩
def Xq:TE:=λ_ H Q=>∀ p,H p=none->Q (.ref p) (aN H p (.dK []))
section
variable {X:Cx} {pos:Pos}
theorem qh:PE X (.Dict [] [] pos) Xq:=λao s σ H Q I h =>
 wpAny_Dict_empty ⟨.ref s.heap.objs.size,_,I.laid (a:=s.heap.objs.size) (o:=.dK []) (t':=s.toks) (λ_ _ q=>Heap.get?_push_of_some _ q) (iT _) (HZ s.heap I.big),rfl,h _ (I.hok.fresh (iT _))⟩
end
def KC:List (TE × TE)->St->Hp->(List (V × V)->Hp->Prop)->Prop
 | [],_,H,Q=>Q [] H
 | (tk,tv)::r,σ,H,Q=>tk σ H λx H1=>tv σ H1 λy H2=>KC r σ H2 λps H3=>Q ((x,y)::ps) H3
abbrev VV:List (V × V)->List (Value × Value)->Prop:=Paired λp q=>RelV p.1 q.1/\RelV p.2 q.2
def PPs(X:Cx)(pos:Pos)(Ia:List (Option Expr))(Cq:List Expr)(T4:List (TE × TE)):Prop :=
 ∀ (ao:List (Addr × Obj)) (s:Shared) (σ:St) (H:Hp) (Q:List (V × V)->Hp->Prop),Inv X ao σ H s->KC T4 σ H Q->
  wpAny (model X.prog X.w) X.A (evalPairs (pairTrees Ia Cq X.env pos)) (λvs s'=>∃ ps H',Inv X ao σ H' s'/\VV ps vs/\Q ps H') X.xe s
theorem T5{X:Cx}:PPs X pos [] [] []:=λao s σ H Q I h=>pairTrees_nil_walk ⟨[],H,I,.nil,h⟩
theorem yU{X:Cx}{k:Expr}{ks:List (Option Expr)}{tk tv:TE}{T4:List (TE × TE)}(hk:PE X k tk)(hv:PE X v tv)(hr:PPs X pos ks vs T4) :
  PPs X pos (some k::ks) (v::vs) ((tk,tv)::T4):=λao s σ H Q I h =>
 pairTrees_cons_walk (dB (hk ao s σ H _ I h) λu s1 ⟨x,H1,I1,rx,q1⟩=>dB (hv ao s1 σ H1 _ I1 q1) λw2 s2 ⟨y,H2,I2,ry,q2⟩ =>
  dB (hr ao s2 σ H2 _ I2 q2) λws s3 ⟨ps,H3,I3,yF,q3⟩=>⟨(x,y)::ps,H3,I3,.cons ⟨rx,ry⟩ yF,q3⟩)
def zT(kvs Bd:List (iy × V)):List (iy × V):=Bd.foldl (λacc kv=>gQ acc kv.1 kv.2) kvs
theorem KV.merge:∀ {Bd:List (iy × V)} {rs:List (iy × Value)} {kvs:List (iy × V)} {vs:List (iy × Value)},KV Bd rs->KV kvs vs->KV (zT kvs Bd) (merged vs rs):=by
 intro Bd rs kvs vs r;unfold KV at r
 induction r generalizing kvs vs with
 | nil=>intro q;exact q
 | @cons p q ps qs h t ih =>
  intro r0
  have e:KV (gQ kvs p.1 p.2) (stored vs q.1 q.2):=by
   have:=r0.put p.1 h.2;rw[← h.1];exact this
  exact ih e
theorem xH:∀ (Bd kvs:List (iy × V)),(zT kvs Bd).length<=kvs.length+Bd.length
 | [],kvs=>by show kvs.length<=kvs.length+0;lia
 | p::r,kvs=>by
  have h1:=xH r (gQ kvs p.1 p.2);have h2:=jD kvs p.1 p.2;show (zT (gQ kvs p.1 p.2) r).length<=_;rw[oJ];lia
theorem Cr{P:Program}{w:World}:∀ {kvs:List (iy × V)} {ws:List (Value × Value)},VV (kvs.map λkv=>(kV kv.1,kv.2)) ws->∃ rs,Carries (iA P w) ws rs/\KV kvs rs
 | [],_,r=>by rw[List.map_nil]at r;cases r;exact⟨[],True.intro,.nil⟩
 | p::kvs,_,r=>by
  rw[oK]at r
  cases r with
  | @cons a b as bs h t =>
   obtain⟨rs,c,q⟩:=Cr (P:=P) (w:=w) t;obtain⟨b1,b2⟩:=b;exact⟨(p.1,b2)::rs,⟨Co h.1,rfl,c⟩,.cons ⟨rfl,h.2⟩ q⟩
def QA(T4:List (TE × TE)):TE:=fun σ H Q=>∀ p,H p=none->KC T4 σ (aN H p (.dK [])) λps H2=>H2 p=some (.dK [])/\∃ kvs:List (iy × V),ps=kvs.map (λkv=>(kV kv.1,kv.2))/\kvs.length<=15/\Q (.ref p) (aN H2 p (.dK (zT [] kvs)))
theorem T6{X:Cx}{Ia:List (Option Expr)}{Cq:List Expr}{T4:List (TE × TE)}(h:PPs X pos Ia Cq T4)(P5:Ia.all (·.isSome)=true)(hl:Ia.length=Cq.length)(h0:Ia≠[])
  (h15:Ia.length<=15):PE X (.Dict Ia Cq pos) (QA T4):=by
 intro ao s σ H Q I q;have hn:=I.hok.fresh (iT s.heap.objs.size);have I1:=I.laid (a:=s.heap.objs.size) (o:=.dK []) (h':=s.heap.push { cls:=.type "dict",data:=.dict #[] }) (t':=s.toks) (λ_ _ q=>Heap.get?_push_of_some _ q) (iT _) (HZ s.heap I.big);refine wpAny_Dict_walk (knd:=iA X.prog X.w) P5 hl h0 h15 (dB (h ao _ σ _ _ I1 (q _ hn)) λws s2 J4=>?_);obtain⟨ps,H2,I2,yF,e,kvs,ep,lk,q2⟩:=J4;subst ep;obtain⟨rs,c,rk⟩:=Cr (P:=X.prog) (w:=X.w) yF;obtain⟨z,hd,vs0,r0,dd⟩:=Qz I2.hok e;cases r0;refine⟨rs,c,dd,λh' Ss hs=>⟨.ref s.heap.objs.size,_,?_,rfl,q2⟩⟩
 have hz:(zT [] kvs).length<=sizeLine:=by
  have h1:=xH kvs [];rw[tP]at h1;rw[sizeLine_eq];lia
 have he:∃ q,h'.get? s.heap.objs.size=some q:=let ⟨q,_,_,hq,_⟩:=Ss;⟨q,hq⟩;exact BB I2 (by rw[e];exact True.intro) hs he (KA hz hd (rk.merge .nil) Ss)
structure M2(X:Cx)(o:Expr)(m:Str)(oO:Pos)(e f:Expr)(ug:Pos):Prop where
 zt:attributeBase o m X.env (eval o X.env)=eval o X.env
 few:((backTo ug (starEach [e,f] X.env)).all (λx=>!x.1)&&(backToKw ug (keywordEach [] X.env)).all (λx=>x.1.isSome)
  && decide (([e,f]:List Expr).length+([]:List Keyword).length+(if ([]:List Keyword).isEmpty then 0 else 1)<30))=true
 line:(oO.endLine == ug.line)=true
 trees:backTo ug (starEach [e,f] X.env)=[(false,eval e X.env),(false,eval f X.env)]
def IsD(H:Hp)(a:Addr):Prop:=(∃ kvs,Rd H a (.dK kvs))\/∃ kvs,Rd H a (.dT kvs)
theorem QB{X:Cx}{σ:St}{H:Hp}{s:Shared}{a:Addr}(I:Inv X ao σ H s)(d:IsD H a) :
  s.TypeIs (.ref a) "dict"/\(∀ b,Value.ref a=.ref b->∃ ob,s.heap.get? b=some ob/\ob.dict=none)/\(a == sysModules)=false:=by
 rcases d with ⟨kvs,e⟩|⟨kvs,e⟩
 ·obtain⟨_,hd,vs,_,dd⟩:=EE I.hok e;refine⟨dd.typeIs,λb q=>?_,hd⟩;cases q;obtain⟨ob,_,_,h1,h2,_⟩:=dd;exact⟨ob,h1,h2.2.1⟩
 ·obtain⟨_,hd,xs,_,dd⟩:=EF I.hok e;refine⟨dd.typeIs,λb q=>?_,hd⟩;cases q;obtain⟨ob,_,_,h1,h2,_⟩:=dd;exact⟨ob,h1,h2.2.1⟩
section
variable {X:Cx} {ao:List (Addr × Obj)} {σ:St} {H:Hp} {s:Shared} {a:Addr} {y d:V} {u r:Value} {o:Option V} {A:Around} {E:Value->Shared->Prop}
theorem Xr{Q:Value->Shared->Prop}(hu:A.units+1<cLine)(I:Inv X ao σ H s)(g:lD H a y o)(ry:RelV y u)(rd:RelV d r)(h:∀ w' s',Inv X ao σ H s'->RelV (o.getD d) w'->Q w' s') :
  wpAny (model X.prog X.w) A (call (.builtin "dict.get") [.ref a,u,r]) Q E s:=by
 rcases g with ⟨kvs,k,e,ey,l⟩|⟨kvs,k,b,e,ey,eb,l⟩
 ·subst ey;obtain⟨z,hd,vs,yF,dd⟩:=EE I.hok e;refine call_meetsIn PySem.F.slot_dict_get dd.typeIs PySem.F.entry_dict_get (PySem.F.args_dict_get_3 _ _ _) (meets_dict_get_default (iA X.prog X.w) a (Co ry) hd r) ⟨_,dd.mapOf,h _ _ (I.tok _) ?_⟩;rw[l];exact (yF.val k).getD rd
 ·subst ey;cases (show u=Value.ref b from ry);obtain⟨z,hd,xs,yF,dd⟩:=EF I.hok e;refine call_meetsIn PySem.F.slot_dict_get dd.typeIs PySem.F.entry_dict_get (PySem.F.args_dict_get_3 _ _ _) (meetsH_dict_get_default (tupleKind (iA X.prog X.w)) a b hd r) ⟨tupleKind_room_in1 hu,k,xs,Cp I.hok eb,dd,h _ _ (I.tok _) ?_⟩;rw[l];exact (yF.val k).getD rd
end
def Xs(td ty tx:TE):TE:=fun σ H Q=>td σ H λx H1=>∃ a,x=.ref a/\IsD H1 a/\ty σ H1 λy H2=>tx σ H2 λz H3=>∃ o,lD H3 a y o/\Q (o.getD z) H3
section
variable {X:Cx} {o e f:Expr} {oO ug:Pos} {td ty tx:TE}
theorem QC(hu:X.A.units+1<cLine)(ho:PE X o td)(he:PE X e ty)(hf:PE X f tx)(m:M2 X o "get" oO e f ug):PE X (.Call (.Attribute o "get" oO) [e,f] [] ug) (Xs td ty tx):=by
 intro ao s σ H Q I h;refine wpAny_Call_method m.zt m.few m.line PySem.F.plainAttrs_dict PySem.F.slot_dict_get PySem.F.type_dict_get (dB (ho ao s σ H _ I h) λu s1 BR=>?_);obtain⟨x,H1,I1,rx,a,ex,d,q1⟩:=BR;subst ex;obtain rfl:u=Value.ref a:=rx;obtain⟨t1,t2,_⟩:=QB I1 d;refine⟨t1,t2,?_⟩;rw[m.trees]
 refine Calls.callWith_builtin rfl (Calls.evalArgs_plain (Calls.spliced_cons (dB (he ao s1 σ H1 _ I1 q1) λiv s2 ⟨y,H2,I2,ry,q2⟩ =>
  Calls.spliced_cons (dB (hf ao s2 σ H2 _ I2 q2) λfv s3 ⟨z,H3,I3,rz,ov,g,q3⟩=>Calls.spliced_nil ?_))))
 exact Xr hu I3 g ry rz λw' s4 I4 jB=>⟨_,H3,I4,jB,q3⟩
end
end L2
namespace dz
open Spec Rows L2
def oq(X:Cx)(N:List Str)(scope:Scope)(cl:List (Str × Addr))(C:Addr)(s₀:Shared)(H₀:Hp)(ex:List Addr)(pn:List (Addr × Obj)):Cx where
 prog:=X.prog
 w:=X.w
 K:=X.K
 mg:=X.mg
 zt:=X.zt
 A:=X.A
 N:=N
 s₀:=s₀
 H₀:=H₀
 env:=compEnvC scope cl C X.env
 zn:=X.stack
 stack:=X.stack
 ex:=ex
 fn:=λ_=>false
 calm:=X.calm
 pn:=pn
 xe:=λ_ _=>False
structure EH(X:Cx)(N:List Str)(scope:Scope)(cl:List (Str × Addr))(jx:List (Option Nat)):Prop where
 kind:scope.kind=.function
 cell:∀ x∈scope.names,x.2≠.cell
 names:∀ x∈scope.names,x.2=.local->scope.names.lookup x.1=some .local
 clos:closureFor scope X.env=pure cl
 sub:∀ x c,cl.lookup x=some c->X.env.cells.lookup x=some c
 has:∀ x,((relabel scope X.env).names.lookup x=some .cell\/(relabel scope X.env).names.lookup x=some .free)->∃ c,cl.lookup x=some c
 len:jx.length=N.length
 free:∀ (i j:Nat) (x:Str),jx[i]?=some (some j)->N[i]?=some x->X.N[j]?=some x/\X.env.scope.names.lookup x=some .cell/\(relabel scope X.env).names.lookup x=some .cell
def yf(jx:List (Option Nat))(σ:L2.St):L2.St:=jx.map λo=>o.bind λj=>(σ[j]?).join
section
variable {X:Cx} {N:List Str} {scope:Scope} {cl:List (Str × Addr)} {jx:List (Option Nat)}
theorem AN{σ:L2.St}{H:Hp}{s:Shared}{fp:List Addr}{h₁:Heap}{t:Nat}(cs:EH X N scope cl jx)(I:Inv X ao σ H s)(hf:∀ b∈fp,uI X ao H b)(uJ:∀ b∈fp,b<s.heap.objs.size)
  (OT:h₁.Ns s.heap.objs.size λ_=>none) (hk:∀ b o,s.heap.get? b=some o->h₁.get? b=some o) :
  Inv (oq X N scope cl s.heap.objs.size s H fp (X.pn++ao)) [] (yf jx σ) H { s with heap:=h₁,toks:=t }:=by
 have sub:∀ {x c},(oq X N scope cl s.heap.objs.size s H fp (X.pn++ao)).env.cells.lookup x=some c->X.env.cells.lookup x=some c:=λ{x c} e=>cs.sub x c e
 refine⟨⟨I.ok.mod,cs.kind,I.ok.glob,I.ok.blt,iT _,λx y c e e'=>I.ok.inj x y c (sub e) (sub e'),λx hx=>cs.has x hx,λx c z _=>(by cases z),I.ok.hd,I.ok.frames,.inl rfl,λb hb=>⟨Nat.ne_of_lt (uJ b hb),λx c e=>(hf b hb).2.2.2.2.1 x c (sub e)⟩,I.bs,jY I.ok.Va I.sz,λb o e hb=>?_,λb hb z=>?_,I.stack,I.Lz⟩,
  rfl,I.bare,Un.kept hk,⟨_,OT,λi x v e1 e2 _=>?_⟩,λx c e=>?_,I.hok.fresh (iT _),λx c e=>I.xy x c (sub e),λp hp=>?_,I.hok.kept hk,by unfold yf;rw[cR];exact cs.len⟩
 ·rcases (hf b hb).2.2.2.1 with z|z
  ·exact I.ok.Pg b o e z
  ·exact absurd (vN (Heap.lt_size (I.ok.bs b o e).1) z) (Nat.lt_irrefl _)
 ·rcases List.mem_cons.mp (I.zH b z) with e|e
  ·exact (hf b hb).2.1 e
  ·exact (hf b hb).2.2.1 e
 ·unfold yf at e2;rw[j5]at e2
  cases ej:jx[i]? with
  | none=>rw[ej]at e2;cases e2
  | some o =>
   rw[ej]at e2
   cases o with
   | none=>cases e2
   | some j =>
    have e3:σ[j]?=some (some v):=by
     have z:((σ[j]?).join)=some v:=uG e2
     cases hs:σ[j]? with
     | none=>rw[hs]at z;cases z
     | some q=>rw[hs]at z;exact congrArg some z
    obtain⟨f1,f2,f3⟩:=cs.free i j x ej e1;obtain⟨m,hn,hl⟩:=I.loc;obtain⟨u,ru,look⟩:=hl j x v f1 e3 (.inr (.inl f2));refine⟨u,ru,?_⟩;rcases look with ⟨k,_⟩|⟨_,c,hc,o,ho,hd⟩
    ·have k':X.env.scope.names.lookup x=some .local:=k;rw[f2]at k';cases k'
    ·obtain⟨c',YU⟩:=cs.has x (.inl f3);have z:=cs.sub x c' YU;rw[hc]at z;cases z;exact .inr ⟨.inl f3,c,YU,o,hk _ _ ho,hd⟩
 ·obtain⟨v,o,ho,hd⟩:=I.cell x c (sub e);exact⟨v,o,hk _ _ ho,hd⟩
 ·have Vv:p∈X.pn++ao:=by
   have z:p∈(X.pn++ao)++[]:=hp;simpa using z
  obtain⟨e,n,nl,nf,d⟩:=I.pin p Vv;refine⟨hk _ _ e,n,pR (Heap.lt_size e),λz=>?_,d⟩;rcases List.mem_cons.mp (I.zH p.1 z) with e|e
  ·exact nl e
  ·exact nf e
theorem zU{σ σ':L2.St}{H H':Hp}{s s':Shared}{fp:List Addr}(I:Inv X ao σ H s)(hf:∀ b∈fp,uI X ao H b)(J:Inv (oq X N scope cl s.heap.objs.size s H fp (X.pn++ao)) [] σ' H' s'):Inv X ao σ H' s' :=
 I.YV (ch:=fp) J.os J.zt J.hok J.bare λb hb=>⟨(hf b hb).2.2.2.1,(hf b hb).2.1,(hf b hb).2.2.2.2.1,(hf b hb).2.2.2.2.2⟩
theorem zV{σ σ2:L2.St}{H H':Hp}{s s':Shared}{h':Heap}(I:Inv X ao σ H s)(I4:Inv X ao σ2 H' s')(LC:H' s.heap.objs.size=none)(hs:Heap.SameBut s.heap.objs.size s'.heap h'):Inv X ao σ2 H' { s' with heap:=h' }:=by
 refine I4.turned (t':=s'.toks) (it:=s.heap.objs.size) (λb o hb e=>hs.extBut _ _ hb e) LC (Nat.ne_of_gt I.lt) (.inr I.sz) (λx c e z=>?_) λp hp z=>?_
 ·obtain⟨v,o,ho,_⟩:=I.cell x c e;exact absurd (Heap.lt_size ho) (by rw[z];exact Nat.lt_irrefl _)
 ·exact absurd (Heap.lt_size (I.pin p hp).1) (by rw[z];exact Nat.lt_irrefl _)
def BC(J:It)(acc:Addr)(g:TG)(tt:TT)(te:TE)(σ0:L2.St)(H:Hp)(Q:VK):Prop :=
 ∃ W:Nat->Nat->L2.St->Hp->Prop,(∃ m,W 0 m σ0 H)/\∀ i m σ H,W i m σ H->
  (J.stop i H/\Q (.ref acc) H)\/(J.go i H/\∃ Nx:L2.St->Hp->Prop,(∀ σ' H',Nx σ' H'->∃ m',m'<m/\W (i+1) m' σ' H')/\∀ x H',J.OR i H x H'->g x σ H' fun σ2 H2=>tt σ2 H2 λb H3 =>
   if b=true then te σ2 H3 λv H4=>∃ xs,H4 acc=some (.lst xs)/\xs.length<sizeLine/\Nx σ2 (aN H4 acc (.lst (xs++[v]))) else Nx σ2 H3)
def zW(jx:List (Option Nat))(wi:TI)(g:TG)(tt:TT)(te:TE):TE:=fun σ H Q=>wi σ H λJ H1=>∀ acc,H1 acc=none->BC J acc g tt te (yf jx σ) (aN H1 acc (.lst [])) Q
theorem EI{iter:Expr}{wi:TI}{g:TG}{tt:TT}{te:TE}(cs:EH X N scope cl jx)(hc:X.calm=true)(hi:PI X tg iter wi)
  (hg:∀ C s₀ H₀ ex pn,PG (oq X N scope cl C s₀ H₀ ex pn) tg g) (ht:∀ C s₀ H₀ ex pn,NP (oq X N scope cl C s₀ H₀ ex pn) oz tt) (he:∀ C s₀ H₀ ex pn,PE (oq X N scope cl C s₀ H₀ ex pn) pI te)
  (hs:∀ x,foldedSetIterable iter X.env x=pure x) {use:Option (Value->Sem Unit)} {Q':Value->Shared->Prop} {Q:VK} {ao:List (Addr × Obj)} {s:Shared} {σ:L2.St} {H:Hp} (I:Inv X ao σ H s) (h:zW jx wi g tt te σ H Q)
  (lQ:∀ (s3:Shared) (H3:Hp) (fp:List Addr) (acc:Addr) (σ6:L2.St) (H6:Hp) (s7:Shared),Inv X ao σ H3 s3->(∀ b∈fp,uI X ao H3 b)->Inv (oq X N scope cl s3.heap.objs.size s3 H3 fp (X.pn++ao)) [] σ6 H6 s7->Q (.ref acc) H6->
   compPost (model X.prog X.w) X.A X.xe use Q' (.ref acc) s3.heap.objs.size (.ok .next) s7) :
  wpAny (model X.prog X.w) X.A (comprehension (.ListComp pI [⟨tg,iter,oz,0⟩] scope pos) scope X.env lR (newList []) false (eval iter X.env) use) Q' X.xe s:=by
 refine wpAny_comprehension_free (use:=use) rfl hs cs.clos cs.kind cs.names (dB (hi ao s σ H _ I h) λv s1 h1=>dB h1 λY7 s2 h2=>?_);obtain⟨it,fp,tn,J,H2,e,I2,T,st2,f2,q⟩:=h2;subst e;refine wpAny_newObj_type (hd:=by size_fits) ?_;have dR:H2 s2.heap.objs.size=none:=I2.hok.fresh (iT _);have I3:Inv X ao σ (aN H2 s2.heap.objs.size (.lst [])) { s2 with heap:=s2.heap.push { cls:=.type "list",data:=.seq ([]:List Value).toArray },toks:=s2.toks }:=I2.Tp (ys:=[]) .nil (qA _)
 have ZR:∀ b∈fp,b<s2.heap.objs.size:=λb hb=>by
  obtain⟨o,ho,_⟩:=T.obj _ _ st2 b hb;exact Heap.lt_size ho
 have f3:∀ b∈fp,uI X ao (aN H2 s2.heap.objs.size (.lst [])) b:=λb hb=>⟨by rw[aH (pR (ZR b hb))];exact (f2 b hb).1,(f2 b hb).2⟩;have k3:∀ b o,s2.heap.get? b=some o->(s2.heap.push { cls:=.type "list",data:=.seq ([]:List Value).toArray }).get? b=some o:=λb o e=>Heap.get?_push_of_some _ e;have q3:=q _ dR;generalize hs3:({ s2 with heap:=s2.heap.push { cls:=.type "list",data:=.seq ([]:List Value).toArray },toks:=s2.toks }:Shared)=s3 at I3;generalize hH3:aN H2 s2.heap.objs.size (.lst [])=H3 at I3 f3 q3;have ZS:s3.heap=s2.heap.push { cls:=.type "list",data:=.seq ([]:List Value).toArray }:=by rw[← hs3]
 have Mp:∀ b∈fp,b<s3.heap.objs.size:=λb hb=>by rw[ZS,Heap.size_push];exact Nat.lt_succ_of_lt (ZR b hb)
 have st3:tn 0 s3.heap:=T.keep _ _ _ st2 λb _ o e=>by rw[ZS];exact k3 b o e
 show wpAny _ _ _ _ _ s3;refine wpAny_newFunctionEnv cs.cell (λy hy=>by simp at hy) (λh₁ OT T7=>?_) cs.kind;have kh:∀ b o,s3.heap.get? b=some o->h₁.get? b=some o:=λb o e=>T7.extBut _ _ (pR (Heap.lt_size e)) (Heap.get?_push_of_some _ e);have J0:Inv (oq X N scope cl s3.heap.objs.size s3 H3 fp (X.pn++ao)) [] (yf jx σ) H3 { s3 with heap:=h₁,toks:=s3.toks+([]:List (Str × Value)).length }:=AN cs I3 f3 Mp OT kh;have ZT:tn 0 h₁:=T.keep _ _ _ st3 λb _ o e=>kh b o e;obtain⟨W,⟨m0,w0⟩,xY⟩:=q3
 have ya:∀ {H':Hp},(∀ b∈fp,H' b=none)->∀ b∈fp,uI (oq X N scope cl s3.heap.objs.size s3 H3 fp (X.pn++ao)) [] H' b:=λhn b hb=>by
  refine⟨hn b hb,pR (Mp b hb),λz=>?_,.inl hb,λx c e=>(f3 b hb).2.2.2.2.1 x c (cs.sub x c e),λp hp=>?_⟩
  ·rcases List.mem_cons.mp (I3.zH b z) with e|e
   ·exact (f3 b hb).2.1 e
   ·exact (f3 b hb).2.2.1 e
  ·have Vv:p∈X.pn++ao:=by
    have z:p∈(X.pn++ao)++[]:=hp;simpa using z
   exact (f3 b hb).2.2.2.2.2 p Vv
 have loop:∀ s5:Shared,s5={ s3 with heap:=h₁,toks:=s3.toks+([]:List (Str × Value)).length }->codeAny (model X.prog X.w) X.A (.compLoop (.ListComp pI [⟨tg,iter,oz,0⟩] scope pos) 0 (.ref it) (.ref s2.heap.objs.size) (oq X N scope cl s3.heap.objs.size s3 H3 fp (X.pn++ao)).env)
   (compPost (model X.prog X.w) X.A X.xe use Q' (.ref s2.heap.objs.size) s3.heap.objs.size) s5:=by
  rintro s5 rfl;refine NO (λn s'=>∃ i σ' H',Inv (oq X N scope cl s3.heap.objs.size s3 H3 fp (X.pn++ao)) [] σ' H' s'/\tn i s'.heap/\(∀ b∈fp,H' b=none)/\W i n σ' H') ?_ m0 ⟨0,_,H3,J0,ZT,λb hb=>(f3 b hb).1,w0⟩;rintro n s6 ⟨i,σ6,H6,I6,Vr,OU,w6⟩;rcases xY i n σ6 H6 w6 with ⟨stop,qn⟩|⟨go,Nx,hN,step⟩
  ·refine dB (T.done (oq X N scope cl s3.heap.objs.size s3 H3 fp (X.pn++ao)) rfl rfl rfl hc i [] s6 σ6 H6 _ I6 (ya OU) Vr stop) λr s7 J1=>?_;obtain⟨hr,I7⟩:=J1;subst hr;exact lQ s3 H3 fp _ σ6 H6 s7 I3 f3 I7 qn
  ·refine dB (T.item (oq X N scope cl s3.heap.objs.size s3 H3 fp (X.pn++ao)) rfl rfl rfl hc i [] s6 σ6 H6 _ I6 (ya OU) Vr go) λr s7 J2=>?_;obtain⟨u,hr,h7⟩:=J2;subst hr;refine dB h7 λ_ s8 J4=>?_;obtain⟨x,H8,I8,r8,y8,Qv,FH⟩:=J4;have ZN:=I8.pinned (ya FH) (T.obj _ _ Qv);refine dB (hg _ _ _ _ _ _ s8 σ6 H8 x u _ ZN r8 (step x H8 y8)) λ_ s9 J3=>?_;obtain⟨σ9,H9,I9,q9⟩:=J3;refine dB (ht _ _ _ _ _ _ s9 σ9 H9 _ I9 q9) λok s10 BR=>?_;obtain⟨Sq,Vs,Ew⟩:=BR
   have again:∀ {σ7:L2.St} {H7:Hp} {zE:Shared},Inv (oq X N scope cl s3.heap.objs.size s3 H3 fp (X.pn++ao)) ([]++xZ fp s8.heap) σ7 H7 zE->Nx σ7 H7->∃ m,m<n/\∃ i σ' H',Inv (oq X N scope cl s3.heap.objs.size s3 H3 fp (X.pn++ao)) [] σ' H' zE/\tn i zE.heap/\(∀ b∈fp,H' b=none)/\W i m σ' H':=λ{σ7 H7 zE} I7 n7=>by
    obtain⟨m',hm,w7⟩:=hN σ7 H7 n7;refine⟨m',hm,i+1,σ7,H7,I7.ud,T.keep _ _ _ Qv λb hb o e=>(I7.pin (b,o) (uF _ (uF _ (j6 hb e)))).1,λb hb=>?_,w7⟩;obtain⟨o,e,d⟩:=T.obj _ _ Qv b hb;exact (I7.pin (b,o) (uF _ (uF _ (j6 hb e)))).2.1
   cases ok with
   | false =>
    rw[if_neg jQ]at Ew;exact again Vs Ew
   | true =>
    rw[if_pos rfl]at Ew;refine dB (he _ _ _ _ _ _ s10 σ9 Sq _ Vs Ew) λv zE Ho=>?_;obtain⟨y,H11,I11,r11,xs,hx,hz,n11⟩:=Ho;refine dB (cB _ zE σ9 H11 (.ref s2.heap.objs.size) [y] (.ref s2.heap.objs.size) [v] (λ_ H'=>Nx σ9 H') I11 rfl (.cons r11 .nil) ⟨_,xs,y,rfl,rfl,hx,hz,n11⟩) λ_ t9 Ft=>?_;obtain⟨_,H12,I12,_,Xi⟩:=Ft;exact again I12 Xi
 exact codeAny_compStart_list (loop _ rfl) (T.self _ _ _ _ _ ZT (loop _ rfl))
theorem QD{iter:Expr}{wi:TI}{g:TG}{tt:TT}{te:TE}(cs:EH X N scope cl jx)(hc:X.calm=true)(hi:PI X tg iter wi)
  (hg:∀ C s₀ H₀ ex pn,PG (oq X N scope cl C s₀ H₀ ex pn) tg g) (ht:∀ C s₀ H₀ ex pn,NP (oq X N scope cl C s₀ H₀ ex pn) oz tt) (he:∀ C s₀ H₀ ex pn,PE (oq X N scope cl C s₀ H₀ ex pn) pI te)
  (hs:∀ x,foldedSetIterable iter X.env x=pure x:=by intro _;rfl):PE X (.ListComp pI [⟨tg,iter,oz,0⟩] scope pos) (zW jx wi g tt te):=by
 intro ao s σ H Q I h;rw[eval_ListComp];refine EI (use:=none) cs hc hi hg ht he hs I h λs3 H3 fp acc σ6 H6 s7 I3 f3 I7 qn=>?_;obtain⟨m,hm,_⟩:=I7.loc;exact⟨m,hm,λh' T7=>⟨.ref acc,H6,zV I3 (zU I3 f3 I7) I7.free T7,rfl,qn⟩⟩
theorem T8{iter:Expr}{QE:Pos}{wi:TI}{g:TG}{tt:TT}{te:TE}{i:Nat}{x:Str}(cs:EH X N scope cl jx)(hc:X.calm=true)(hN:X.N.Nodup)(hix:X.N[i]?=some x)(hx:X.env.scope.names.lookup x=some .local)(hi:PI X tg iter wi)
  (hg:∀ C s₀ H₀ ex pn,PG (oq X N scope cl C s₀ H₀ ex pn) tg g) (ht:∀ C s₀ H₀ ex pn,NP (oq X N scope cl C s₀ H₀ ex pn) oz tt) (he:∀ C s₀ H₀ ex pn,PE (oq X N scope cl C s₀ H₀ ex pn) pI te)
  (hsw:swapsWith (.ListComp pI [⟨tg,iter,oz,0⟩] scope pos) (some (.Name x lR)) QE.line X.env=pure true:=by rfl)
  (hs:∀ x,foldedSetIterable iter X.env x=pure x:=by intro _;rfl):PS X (.Assign [.Name x lR] (.ListComp pI [⟨tg,iter,oz,0⟩] scope pos) QE) (Po (zW jx wi g tt te) (xA i)):=by
 intro ao s σ H D I h;rw[exec_Assign_Name_used _ _ _ _ hsw];refine wpAny_bind (wpAny_standAt (wpAny_bind ?_));show wpAny _ X.A (do let _ ← comprehension (.ListComp pI [⟨tg,iter,oz,0⟩] scope pos) scope X.env _ (newList []) false (eval iter X.env) (some (assign (.Name x lR) X.env))) _ _ s;have h':zW jx wi g tt te σ H (λv H'=>xA i v σ H' D.nx):=h;refine wpAny_bind (dB (EI (use:=some (assign (.Name x lR) X.env)) (Q':=λ_ s'=>∃ σ' H',Inv X ao σ' H' s'/\D.nx σ' H') cs hc hi hg ht he hs I h' λs3 H3 fp acc σ6 H6 s7 I3 f3 I7 qn=>?_) λ_ s' q=>?_)
 ·have I4:=zU I3 f3 I7;obtain⟨m,hm,_⟩:=I7.loc;refine wpAny_assign_Name (Ei I4 hN hix (.inl hx) (v:=.ref acc) rfl (λs8 I8 ⟨a,T7,ha⟩=>?_) (.inr hx))
  have na:s3.heap.objs.size≠a:=by
   rcases ha with rfl|ha
   ·exact Nat.ne_of_gt I3.lt
   ·intro z;obtain⟨v,o,ho,_⟩:=I3.cell x a ha;exact absurd (Heap.lt_size ho) (by rw[z];exact Nat.lt_irrefl _)
  refine⟨m,hm.at' λo e=>T7.extBut _ o na e,λh' hs'=>⟨_,H6,zV I3 I8 I7.free hs',qn⟩⟩
 ·exact wpAny_pure (wpAny_pure q)
theorem ku{K:Frag}{a:Addr}{xs:List V}{g:TG}{tt:TT}{te:TE}{σ0:L2.St}{H:Hp}{Q:VK}(Pv:Nat->L2.St->Hp->Prop)(h0:Pv 0 σ0 H)(hl:∀ i σ H,i<=xs.length->Pv i σ H->bM K H a xs)
  (hs:∀ i x σ H,xs[i]?=some x->Pv i σ H->g x σ H fun σ2 H2=>tt σ2 H2 λb H3=>if b=true then te σ2 H3 λv H4=>∃ ys,H4 acc=some (.lst ys)/\ys.length<sizeLine/\Pv (i+1) σ2 (aN H4 acc (.lst (ys++[v]))) else Pv (i+1) σ2 H3)
  (hd:∀ σ H,Pv xs.length σ H->Q (.ref acc) H):BC (Sn K a) acc g tt te σ0 H Q:=by
 refine⟨λi m σ H=>m=xs.length-i/\i<=xs.length/\Pv i σ H,⟨xs.length,by simp,qA _,h0⟩,?_⟩;rintro i m σ H ⟨rfl,hi,p⟩;have q:=hl i σ H hi p;by_cases uJ:i<xs.length
 ·refine .inr ⟨⟨xs,xs[i],q,by simp[uJ]⟩,Pv (i+1),fun σ' H' p'=>⟨xs.length-(i+1),by lia,rfl,uJ,p'⟩,λx H' y=>?_⟩;obtain⟨e,y⟩:=y;subst e;exact hs i x σ _ (y xs q) p
 ·have e:i=xs.length:=by lia
  subst e;exact .inl ⟨⟨xs,q,iT _⟩,hd σ H p⟩
theorem Ib{lo:Int}{k:Nat}{g:TG}{tt:TT}{te:TE}{σ0:L2.St}{H:Hp}{Q:VK}(Pv:Nat->L2.St->Hp->Prop)(h0:Pv 0 σ0 H)
  (hs:∀ i σ H,i<k->Pv i σ H->g (.int (lo+i)) σ H fun σ2 H2=>tt σ2 H2 λb H3=>if b=true then te σ2 H3 λv H4=>∃ ys,H4 acc=some (.lst ys)/\ys.length<sizeLine/\Pv (i+1) σ2 (aN H4 acc (.lst (ys++[v]))) else Pv (i+1) σ2 H3)
  (hd:∀ σ H,Pv k σ H->Q (.ref acc) H):BC (Np lo k) acc g tt te σ0 H Q:=by
 refine⟨λi m σ H=>m=k-i/\i<=k/\Pv i σ H,⟨k,by simp,qA _,h0⟩,?_⟩;rintro i m σ H ⟨rfl,hi,p⟩;by_cases uJ:i<k
 ·refine .inr ⟨uJ,Pv (i+1),fun σ' H' p'=>⟨k-(i+1),by lia,rfl,uJ,p'⟩,λx H' y=>?_⟩;obtain⟨e,y⟩:=y;subst e y;exact hs i σ _ uJ p
 ·have e:i=k:=by lia
  subst e;exact .inl ⟨Nat.le_refl _,hd σ H p⟩
end
section
variable {X:Cx} {N:List Str} {scope:Scope} {cl:List (Str × Addr)} {C:Addr} {s₀:Shared} {H₀:Hp} {ex:List Addr} {pn:List (Addr × Obj)}
theorem yV{es:List Expr}{k:Nat}{t:WE}{n:Nat}(hc:X.calm=true)(h:Y4 (oq X N scope cl C s₀ H₀ ex pn) es t)
  (hn:(assignEach es (oq X N scope cl C s₀ H₀ ex pn).env).length=n:=by rfl) (Fv:(assignEach es (oq X N scope cl C s₀ H₀ ex pn).env).findIdx? (·.1)=none:=by rfl):PG (oq X N scope cl C s₀ H₀ ex pn) (.Tuple es k pos) (WH X.K n t):=oM (X:=oq X N scope cl C s₀ H₀ ex pn) hc h hn Fv
theorem QF{tl:TE}(hl:PE (oq X N scope cl C s₀ H₀ ex pn) l tl):PI (oq X N scope cl C s₀ H₀ ex pn) tg l (Ve X.K tl):=cX hl
theorem Mq:Zo (oq X N scope cl C s₀ H₀ ex pn) (Zq X.K):=bC
end
theorem FN{X:Cx}:pS X (.type "range") (λxs H Q=>∃ j:Int,xs=[.int j]/\∀ p,H p=none->Q (.ref p) (aN H p (.Hf 0 j))):=by
 intro ao s σ H xs us Q I r h;obtain⟨j,rfl,q⟩:=h;obtain⟨u1,rfl,⟨t,rfl⟩⟩:=r.one;refine call_range_1 ⟨.ref s.heap.objs.size,_,I.laid (o:=.Hf 0 j) (λb o e=>Heap.get?_push_of_some _ e) (iT _) ⟨_,_,_,Heap.get?_push_size _ rfl⟩,rfl,q _ (I.hok.fresh (iT _))⟩
theorem zX{scope:Scope}{env:Env}(h:∀ p∈scope.names,p.2=.free->∃ c,env.cells.lookup p.1=some c) :
  ∃ cl,closureFor scope env=pure cl/\(∀ x c,cl.lookup x=some c->env.cells.lookup x=some c)/\(∀ p∈scope.names,p.2=.free->∃ c,cl.lookup p.1=some c):=by
 unfold closureFor
 have key:∀ (l:List (Str × NameKind)) (cs:List (Str × Addr)),(∀ p∈l,p.2=.free->∃ c,env.cells.lookup p.1=some c)->(∀ x c,cs.lookup x=some c->env.cells.lookup x=some c)->
   ∃ cl,(forIn l cs (λp r=>if (p.2 == NameKind.free)=true then do let c ← cellOf env p.1;pure (ForInStep.yield ((p.1,c)::r)) else pure (ForInStep.yield r)):Sem (List (Str × Addr)))=pure cl/\(∀ x c,cl.lookup x=some c->env.cells.lookup x=some c)/\(∀ p∈l,p.2=.free->∃ c,cl.lookup p.1=some c)/\(∀ x c,cs.lookup x=some c->∃ c,cl.lookup x=some c):=by
  intro l
  induction l with
  | nil=>intro cs _ Tn;exact⟨cs,rfl,Tn,(λp hp=>by cases hp),λx c e=>⟨c,e⟩⟩
  | cons p l ih =>
   intro cs hl Tn;rw[List.forIn_cons];by_cases hp:p.2=.free
   ·obtain⟨c,hc⟩:=hl p List.mem_cons_self hp;have e1:(p.2 == NameKind.free)=true:=by rw[hp];rfl
    have e2:cellOf env p.1=pure c:=by
     unfold cellOf;rw[hc]
    rw[if_pos e1,e2];simp only[pure_bind]
    obtain⟨cl,h1,h2,h3,h4⟩:=ih ((p.1,c)::cs) (λq hq=>hl q (t6 _ hq)) (λx d e=>by
     rw[List.lookup_cons]at e
     cases hx:x == p.1 with
     | true =>
      rw[hx]at e;cases e;rw[eq_of_beq hx];exact hc
     | false =>
      rw[hx]at e
      exact Tn x d e)
    refine⟨cl,h1,h2,λq hq hf=>?_,λx d e=>?_⟩
    ·rcases List.mem_cons.mp hq with rfl|hq
     ·exact h4 q.1 c (by rw[List.lookup_cons];simp)
     ·exact h3 q hq hf
    ·cases hx:x == p.1 with
     | true=>exact h4 x c (by rw[List.lookup_cons,hx])
     | false=>exact h4 x d (by rw[List.lookup_cons,hx];exact e)
   ·have e1:¬ (p.2 == NameKind.free)=true:=λz=>hp (eq_of_beq z);rw[if_neg e1];simp only[pure_bind];obtain⟨cl,h1,h2,h3,h4⟩:=ih cs (λq hq=>hl q (t6 _ hq)) Tn;refine⟨cl,h1,h2,λq hq hf=>?_,h4⟩;rcases List.mem_cons.mp hq with rfl|hq
    ·exact absurd hf hp
    ·exact h3 q hq hf
 obtain⟨cl,h1,h2,h3,_⟩:=key scope.names [] h (λx c e=>by cases e);refine⟨cl,?_,h2,h3⟩;rw[← h1];simp only[bind_pure]
theorem rT{env:Env}:∀ {names:List (Str × NameKind)} {x:Str} {k:NameKind},names.lookup x=some k->
  (names.map λ(n,k)=>if (k == NameKind.free&&env.scope.kind == .function&&env.kindOf n == some .cell) then (n,NameKind.cell) else (n,k)).lookup x=some (if (k == NameKind.free&&env.scope.kind == .function&&env.kindOf x == some .cell) then NameKind.cell else k)
 | [],_,_,h=>by cases h
 | (n,k')::r,x,k,h=>by
  rw[oK];by_cases hx:(x == n)=true
  ·have e:x=n:=eq_of_beq hx;subst e;rw[List.lookup_cons,hx]at h;cases h;by_cases hc:(k' == NameKind.free&&env.scope.kind == .function&&env.kindOf x == some .cell)=true
   ·show List.lookup x ((if (k' == NameKind.free&&env.scope.kind == .function&&env.kindOf x == some .cell)=true then (x,NameKind.cell) else (x,k'))::_)=_;rw[if_pos hc,if_pos hc,List.lookup_cons,hx]
   ·show List.lookup x ((if (k' == NameKind.free&&env.scope.kind == .function&&env.kindOf x == some .cell)=true then (x,NameKind.cell) else (x,k'))::_)=_;rw[if_neg hc,if_neg hc,List.lookup_cons,hx]
  ·have hf:(x == n)=false:=by simpa using hx
   rw[List.lookup_cons,hf]at h;have ih:=rT (env:=env) h;show List.lookup x ((if (k' == NameKind.free&&env.scope.kind == .function&&env.kindOf n == some .cell)=true then (n,NameKind.cell) else (n,k'))::_)=_;by_cases hc:(k' == NameKind.free&&env.scope.kind == .function&&env.kindOf n == some .cell)=true
   ·rw[if_pos hc,List.lookup_cons,hf];exact ih
   ·rw[if_neg hc,List.lookup_cons,hf];exact ih
theorem qG{env:Env}:∀ {names:List (Str × NameKind)} {x:Str},names.lookup x=none->
  (names.map λ(n,k)=>if (k == NameKind.free&&env.scope.kind == .function&&env.kindOf n == some .cell) then (n,NameKind.cell) else (n,k)).lookup x=none
 | [],_,_=>rfl
 | (n,k')::r,x,h=>by
  rw[oK]
  have hf:(x == n)=false:=by
   cases hx:x == n with
   | false=>rfl
   | true=>rw[List.lookup_cons,hx]at h;cases h
  rw[List.lookup_cons,hf]at h;have ih:=qG (env:=env) h;show List.lookup x ((if (k' == NameKind.free&&env.scope.kind == .function&&env.kindOf n == some .cell)=true then (n,NameKind.cell) else (n,k'))::_)=_;by_cases hc:(k' == NameKind.free&&env.scope.kind == .function&&env.kindOf n == some .cell)=true
  ·rw[if_pos hc,List.lookup_cons,hf];exact ih
  ·rw[if_neg hc,List.lookup_cons,hf];exact ih
structure EJ(X:Cx)(N:List Str)(scope:Scope)(jx:List (Option Nat)):Prop where
 kind:scope.kind=.function
 cell:∀ x∈scope.names,x.2≠.cell
 names:∀ x∈scope.names,x.2=.local->scope.names.lookup x.1=some .local
 xk:X.env.scope.kind=.function
 fr:∀ x∈scope.names,x.2=.free->X.env.scope.names.lookup x.1=some .cell
 len:jx.length=N.length
 free:∀ (i j:Nat) (x:Str),jx[i]?=some (some j)->N[i]?=some x->X.N[j]?=some x/\scope.names.lookup x=some .free
def QG(NX N:List Str)(scope:Scope)(jx:List (Option Nat)):Bool:=(jx.zip N).all λp=>match p.1 with
 | none=>true
 | some j=>decide (NX[j]?=some p.2)&&decide (scope.names.lookup p.2=some .free)
theorem ur{X:Cx}{N NX:List Str}{scope sc:Scope}{jx:List (Option Nat)}(e1:X.env.scope=sc)(e2:X.N=NX)(k:scope.kind=.function)(h1:∀ x∈scope.names,x.2≠.cell)(h2:∀ x∈scope.names,x.2=.local->scope.names.lookup x.1=some .local)
  (h3:sc.kind=.function) (h4:∀ x∈scope.names,x.2=.free->sc.names.lookup x.1=some .cell) (h5:jx.length=N.length) (h6:QG NX N scope jx=true):EJ X N scope jx:=by
 refine⟨k,h1,h2,by rw[e1];exact h3,by rw[e1];exact h4,h5,λi j x a b=>?_⟩;rw[e2];unfold QG at h6;rw[List.all_eq_true]at h6;have z:=h6 (some j,x) (t7 (i:=i) (by rw[List.getElem?_zip_eq_some];exact⟨a,b⟩));simp only[Bool.and_eq_true,decide_eq_true_eq]at z;exact z
section
variable {X:Cx} {N:List Str} {scope:Scope} {jx:List (Option Nat)}
theorem EJ.toF{σ:L2.St}{H:Hp}{s:Shared}(cg:EJ X N scope jx)(I:Inv X ao σ H s):∃ cl,EH X N scope cl jx:=by
 obtain⟨cl,h1,h2,h3⟩:=zX (scope:=scope) (env:=X.env) λp hp hf=>I.ok.has p.1 (.inl (cg.fr p hp hf))
 have yF:∀ x,scope.names.lookup x=some .free->(relabel scope X.env).names.lookup x=some .cell:=λx hx=>by
  have z:=rT (env:=X.env) hx
  have c:(NameKind.free == NameKind.free&&X.env.scope.kind == .function&&X.env.kindOf x == some .cell)=true:=by
   have q:X.env.kindOf x=some .cell:=cg.fr (x,.free) (PySem.mem_of_lookup hx) rfl;rw[cg.xk,q];rfl
  rw[if_pos c]at z;exact z
 refine⟨cl,cg.kind,cg.cell,cg.names,h1,h2,λx hx=>?_,cg.len,λi j x a b=>?_⟩
 ·cases e:scope.names.lookup x with
  | none =>
   have z:(relabel scope X.env).names.lookup x=none:=qG (env:=X.env) e;rw[z]at hx
   rcases hx with q|q <;> cases q
  | some k =>
   by_cases hk:k=.free
   ·subst hk;exact h3 (x,.free) (PySem.mem_of_lookup e) rfl
   ·have z:(relabel scope X.env).names.lookup x=some (if (k == NameKind.free&&X.env.scope.kind == .function&&X.env.kindOf x == some .cell) then NameKind.cell else k):=rT (env:=X.env) e
    have c:(k == NameKind.free)=false:=by
     cases q:k == NameKind.free with
     | false=>rfl
     | true=>exact absurd (eq_of_beq q) hk
    rw[c]at z;simp only[Bool.false_and,Bool.false_eq_true,if_false]at z;rw[z]at hx;rcases hx with q|q
    ·cases q;exact absurd rfl (cg.cell (x,.cell) (PySem.mem_of_lookup e))
    ·cases q;exact absurd rfl hk
 ·obtain⟨f1,f2⟩:=cg.free i j x a b;exact⟨f1,cg.fr (x,.free) (PySem.mem_of_lookup f2) rfl,yF x f2⟩
theorem lT{iter:Expr}{wi:TI}{g:TG}{tt:TT}{te:TE}(cg:EJ X N scope jx)(hc:X.calm=true)(hi:PI X tg iter wi)
  (hg:∀ cl C s₀ H₀ ex pn,PG (oq X N scope cl C s₀ H₀ ex pn) tg g) (ht:∀ cl C s₀ H₀ ex pn,NP (oq X N scope cl C s₀ H₀ ex pn) oz tt) (he:∀ cl C s₀ H₀ ex pn,PE (oq X N scope cl C s₀ H₀ ex pn) pI te)
  (hs:∀ x,foldedSetIterable iter X.env x=pure x:=by intro _;rfl):PE X (.ListComp pI [⟨tg,iter,oz,0⟩] scope pos) (zW jx wi g tt te):=by
 intro ao s σ H Q I h;obtain⟨cl,cs⟩:=cg.toF I;exact QD cs hc hi (hg cl) (ht cl) (he cl) hs ao s σ H Q I h
theorem T9{iter:Expr}{QE:Pos}{wi:TI}{g:TG}{tt:TT}{te:TE}{i:Nat}{x:Str}(cg:EJ X N scope jx)(hc:X.calm=true)(hN:X.N.Nodup)(hix:X.N[i]?=some x)(hx:X.env.scope.names.lookup x=some .local)(hi:PI X tg iter wi)
  (hg:∀ cl C s₀ H₀ ex pn,PG (oq X N scope cl C s₀ H₀ ex pn) tg g) (ht:∀ cl C s₀ H₀ ex pn,NP (oq X N scope cl C s₀ H₀ ex pn) oz tt) (he:∀ cl C s₀ H₀ ex pn,PE (oq X N scope cl C s₀ H₀ ex pn) pI te)
  (hsw:swapsWith (.ListComp pI [⟨tg,iter,oz,0⟩] scope pos) (some (.Name x lR)) QE.line X.env=pure true:=by rfl)
  (hs:∀ x,foldedSetIterable iter X.env x=pure x:=by intro _;rfl):PS X (.Assign [.Name x lR] (.ListComp pI [⟨tg,iter,oz,0⟩] scope pos) QE) (Po (zW jx wi g tt te) (xA i)):=by
 intro ao s σ H D I h;obtain⟨cl,cs⟩:=cg.toF I;exact T8 cs hc hN hix hx hi (hg cl) (ht cl) (he cl) hsw hs ao s σ H D I h
end
end dz
namespace dz
open Spec Rows L2
section
variable {X:Cx} {N:List Str} {scope:Scope} {cl:List (Str × Addr)} {jx:List (Option Nat)}
def Ic(J:It)(acc:Addr)(g:TG)(tt:TT)(Ky:TI)(g2:TG)(Kz:TT)(te:TE)(σ0:L2.St)(H:Hp)(Q:VK):Prop :=
 ∃ W:Nat->Nat->L2.St->Hp->Prop,(∃ m,W 0 m σ0 H)/\∀ i m σ H,W i m σ H->
  (J.stop i H/\Q (.ref acc) H)\/(J.go i H/\∃ Nx:L2.St->Hp->Prop,(∀ σ' H',Nx σ' H'->∃ m',m'<m/\W (i+1) m' σ' H')/\∀ x H',J.OR i H x H'->g x σ H' fun σ2 H2=>tt σ2 H2 λb H3 =>
   if b=true then Kx Ky acc g2 Kz te σ2 H3 Nx else Nx σ2 H3)
def Mr(jx:List (Option Nat))(wi:TI)(g:TG)(tt:TT)(Ky:TI)(g2:TG)(Kz:TT)(te:TE):TE:=fun σ H Q=>wi σ H λJ H1=>∀ acc,H1 acc=none->Ic J acc g tt Ky g2 Kz te (yf jx σ) (aN H1 acc (.lst [])) Q
theorem KD{iter:Expr}{wi Ky:TI}{g g2:TG}{tt Kz:TT}{te:TE}(cs:EH X N scope cl jx)(hc:X.calm=true)(hi:PI X tg iter wi)
  (hg:∀ C s₀ H₀ ex pn,PG (oq X N scope cl C s₀ H₀ ex pn) tg g) (ht:∀ C s₀ H₀ ex pn,NP (oq X N scope cl C s₀ H₀ ex pn) oz tt) (hi2:∀ C s₀ H₀ ex pn,PI (oq X N scope cl C s₀ H₀ ex pn) vK eS Ky) (hg2:∀ C s₀ H₀ ex pn,PG (oq X N scope cl C s₀ H₀ ex pn) vK g2) (OX:∀ C s₀ H₀ ex pn,NP (oq X N scope cl C s₀ H₀ ex pn) mH Kz) (he:∀ C s₀ H₀ ex pn,PE (oq X N scope cl C s₀ H₀ ex pn) pI te)
  (hs:∀ x,foldedSetIterable iter X.env x=pure x) (GX:∀ (env:Env) x,foldedSetIterable eS env x=pure x) {use:Option (Value->Sem Unit)} {Q':Value->Shared->Prop} {Q:VK} {ao:List (Addr × Obj)} {s:Shared} {σ:L2.St} {H:Hp} (I:Inv X ao σ H s) (h:Mr jx wi g tt Ky g2 Kz te σ H Q)
  (lQ:∀ (s3:Shared) (H3:Hp) (fp:List Addr) (acc:Addr) (σ6:L2.St) (H6:Hp) (s7:Shared),Inv X ao σ H3 s3->(∀ b∈fp,uI X ao H3 b)->Inv (oq X N scope cl s3.heap.objs.size s3 H3 fp (X.pn++ao)) [] σ6 H6 s7->Q (.ref acc) H6->
   compPost (model X.prog X.w) X.A X.xe use Q' (.ref acc) s3.heap.objs.size (.ok .next) s7) :
  wpAny (model X.prog X.w) X.A (comprehension (.ListComp pI [⟨tg,iter,oz,0⟩,⟨vK,eS,mH,0⟩] scope pos) scope X.env lR (newList []) false (eval iter X.env) use) Q' X.xe s:=by
 refine wpAny_comprehension_free (use:=use) rfl hs cs.clos cs.kind cs.names (dB (hi ao s σ H _ I h) λv s1 h1=>dB h1 λY7 s2 h2=>?_);obtain⟨it,fp,tn,J,H2,e,I2,T,st2,f2,q⟩:=h2;subst e;refine wpAny_newObj_type (hd:=by size_fits) ?_;have dR:H2 s2.heap.objs.size=none:=I2.hok.fresh (iT _);have I3:Inv X ao σ (aN H2 s2.heap.objs.size (.lst [])) { s2 with heap:=s2.heap.push { cls:=.type "list",data:=.seq ([]:List Value).toArray },toks:=s2.toks }:=I2.Tp (ys:=[]) .nil (qA _)
 have ZR:∀ b∈fp,b<s2.heap.objs.size:=λb hb=>by
  obtain⟨o,ho,_⟩:=T.obj _ _ st2 b hb;exact Heap.lt_size ho
 have f3:∀ b∈fp,uI X ao (aN H2 s2.heap.objs.size (.lst [])) b:=λb hb=>⟨by rw[aH (pR (ZR b hb))];exact (f2 b hb).1,(f2 b hb).2⟩;have k3:∀ b o,s2.heap.get? b=some o->(s2.heap.push { cls:=.type "list",data:=.seq ([]:List Value).toArray }).get? b=some o:=λb o e=>Heap.get?_push_of_some _ e;have q3:=q _ dR;generalize hs3:({ s2 with heap:=s2.heap.push { cls:=.type "list",data:=.seq ([]:List Value).toArray },toks:=s2.toks }:Shared)=s3 at I3;generalize hH3:aN H2 s2.heap.objs.size (.lst [])=H3 at I3 f3 q3;have ZS:s3.heap=s2.heap.push { cls:=.type "list",data:=.seq ([]:List Value).toArray }:=by rw[← hs3]
 have Mp:∀ b∈fp,b<s3.heap.objs.size:=λb hb=>by rw[ZS,Heap.size_push];exact Nat.lt_succ_of_lt (ZR b hb)
 have st3:tn 0 s3.heap:=T.keep _ _ _ st2 λb _ o e=>by rw[ZS];exact k3 b o e
 show wpAny _ _ _ _ _ s3;refine wpAny_newFunctionEnv cs.cell (λy hy=>by simp at hy) (λh₁ OT T7=>?_) cs.kind;have kh:∀ b o,s3.heap.get? b=some o->h₁.get? b=some o:=λb o e=>T7.extBut _ _ (pR (Heap.lt_size e)) (Heap.get?_push_of_some _ e);have J0:Inv (oq X N scope cl s3.heap.objs.size s3 H3 fp (X.pn++ao)) [] (yf jx σ) H3 { s3 with heap:=h₁,toks:=s3.toks+([]:List (Str × Value)).length }:=AN cs I3 f3 Mp OT kh;have ZT:tn 0 h₁:=T.keep _ _ _ st3 λb _ o e=>kh b o e;obtain⟨W,⟨m0,w0⟩,xY⟩:=q3
 have ya:∀ {H':Hp},(∀ b∈fp,H' b=none)->∀ b∈fp,uI (oq X N scope cl s3.heap.objs.size s3 H3 fp (X.pn++ao)) [] H' b:=λhn b hb=>by
  refine⟨hn b hb,pR (Mp b hb),λz=>?_,.inl hb,λx c e=>(f3 b hb).2.2.2.2.1 x c (cs.sub x c e),λp hp=>?_⟩
  ·rcases List.mem_cons.mp (I3.zH b z) with e|e
   ·exact (f3 b hb).2.1 e
   ·exact (f3 b hb).2.2.1 e
  ·have Vv:p∈X.pn++ao:=by
    have z:p∈(X.pn++ao)++[]:=hp;simpa using z
   exact (f3 b hb).2.2.2.2.2 p Vv
 have loop:∀ s5:Shared,s5={ s3 with heap:=h₁,toks:=s3.toks+([]:List (Str × Value)).length }->codeAny (model X.prog X.w) X.A (.compLoop (.ListComp pI [⟨tg,iter,oz,0⟩,⟨vK,eS,mH,0⟩] scope pos) 0 (.ref it) (.ref s2.heap.objs.size) (oq X N scope cl s3.heap.objs.size s3 H3 fp (X.pn++ao)).env)
   (compPost (model X.prog X.w) X.A X.xe use Q' (.ref s2.heap.objs.size) s3.heap.objs.size) s5:=by
  rintro s5 rfl;refine TU (λn s'=>∃ i σ' H',Inv (oq X N scope cl s3.heap.objs.size s3 H3 fp (X.pn++ao)) [] σ' H' s'/\tn i s'.heap/\(∀ b∈fp,H' b=none)/\W i n σ' H') (GX _) ?_ m0 ⟨0,_,H3,J0,ZT,λb hb=>(f3 b hb).1,w0⟩;rintro n s6 ⟨i,σ6,H6,I6,Vr,OU,w6⟩;rcases xY i n σ6 H6 w6 with ⟨stop,qn⟩|⟨go,Nx,hN,step⟩
  ·refine dB (T.done (oq X N scope cl s3.heap.objs.size s3 H3 fp (X.pn++ao)) rfl rfl rfl hc i [] s6 σ6 H6 _ I6 (ya OU) Vr stop) λr s7 J1=>?_;obtain⟨hr,I7⟩:=J1;subst hr;exact lQ s3 H3 fp _ σ6 H6 s7 I3 f3 I7 qn
  ·refine dB (T.item (oq X N scope cl s3.heap.objs.size s3 H3 fp (X.pn++ao)) rfl rfl rfl hc i [] s6 σ6 H6 _ I6 (ya OU) Vr go) λr s7 J2=>?_;obtain⟨u,hr,h7⟩:=J2;subst hr;refine dB h7 λ_ s8 J4=>?_;obtain⟨x,H8,I8,r8,y8,Qv,FH⟩:=J4;have ZN:=I8.pinned (ya FH) (T.obj _ _ Qv);refine dB (hg _ _ _ _ _ _ s8 σ6 H8 x u _ ZN r8 (step x H8 y8)) λ_ s9 J3=>?_;obtain⟨σ9,H9,I9,q9⟩:=J3;refine dB (ht _ _ _ _ _ _ s9 σ9 H9 _ I9 q9) λok s10 BR=>?_;obtain⟨Sq,Vs,Ew⟩:=BR
   have again:∀ {σ7:L2.St} {H7:Hp} {zE:Shared},Inv (oq X N scope cl s3.heap.objs.size s3 H3 fp (X.pn++ao)) ([]++xZ fp s8.heap) σ7 H7 zE->Nx σ7 H7->∃ m,m<n/\∃ i σ' H',Inv (oq X N scope cl s3.heap.objs.size s3 H3 fp (X.pn++ao)) [] σ' H' zE/\tn i zE.heap/\(∀ b∈fp,H' b=none)/\W i m σ' H':=λ{σ7 H7 zE} I7 n7=>by
    obtain⟨m',hm,w7⟩:=hN σ7 H7 n7;refine⟨m',hm,i+1,σ7,H7,I7.ud,T.keep _ _ _ Qv λb hb o e=>(I7.pin (b,o) (uF _ (uF _ (j6 hb e)))).1,λb hb=>?_,w7⟩;obtain⟨o,e,d⟩:=T.obj _ _ Qv b hb;exact (I7.pin (b,o) (uF _ (uF _ (j6 hb e)))).2.1
   cases ok with
   | false =>
    rw[if_neg jQ]at Ew;exact again Vs Ew
   | true =>
    rw[if_pos rfl]at Ew;refine dB (NT (Y:=oq X N scope cl s3.heap.objs.size s3 H3 fp (X.pn++ao)) hc rfl (hi2 _ _ _ _ _) (hg2 _ _ _ _ _) (OX _ _ _ _ _) (he _ _ _ _ _) Vs Ew) λx zE h11=>dB h11 λZM t9 h12=>codeAny_mono h12 λr Cs ⟨hr,σ',H',I13,n13⟩=>⟨hr,again I13 n13⟩
 exact codeAny_compStart_list (loop _ rfl) (T.self _ _ _ _ _ ZT (loop _ rfl))
theorem EK{iter:Expr}{pos:Pos}{wi Ky:TI}{g g2:TG}{tt Kz:TT}{te:TE}(cg:EJ X N scope jx)(hc:X.calm=true)(hi:PI X tg iter wi)
  (hg:∀ cl C s₀ H₀ ex pn,PG (oq X N scope cl C s₀ H₀ ex pn) tg g) (ht:∀ cl C s₀ H₀ ex pn,NP (oq X N scope cl C s₀ H₀ ex pn) oz tt)
  (hi2:∀ cl C s₀ H₀ ex pn,PI (oq X N scope cl C s₀ H₀ ex pn) vK eS Ky) (hg2:∀ cl C s₀ H₀ ex pn,PG (oq X N scope cl C s₀ H₀ ex pn) vK g2) (OX:∀ cl C s₀ H₀ ex pn,NP (oq X N scope cl C s₀ H₀ ex pn) mH Kz) (he:∀ cl C s₀ H₀ ex pn,PE (oq X N scope cl C s₀ H₀ ex pn) pI te)
  (hs:∀ x,foldedSetIterable iter X.env x=pure x:=by intro _;rfl) (GX:∀ (env:Env) x,foldedSetIterable eS env x=pure x:=by intro _ _;rfl) :
  PE X (.ListComp pI [⟨tg,iter,oz,0⟩,⟨vK,eS,mH,0⟩] scope pos) (Mr jx wi g tt Ky g2 Kz te):=by
 intro ao s σ H Q I h;obtain⟨cl,cs⟩:=cg.toF I;rw[eval_ListComp];refine KD (use:=none) cs hc hi (hg cl) (ht cl) (hi2 cl) (hg2 cl) (OX cl) (he cl) hs GX I h λs3 H3 fp acc σ6 H6 s7 I3 f3 I7 qn=>?_;obtain⟨m,hm,_⟩:=I7.loc;exact⟨m,hm,λh' T7=>⟨.ref acc,H6,zV I3 (zU I3 f3 I7) I7.free T7,rfl,qn⟩⟩
theorem AO{K:Frag}{a:Addr}{xs:List V}{g:TG}{tt:TT}{Ky:TI}{g2:TG}{Kz:TT}{te:TE}{σ0:L2.St}{H:Hp}{Q:VK}(Pv:Nat->L2.St->Hp->Prop)(h0:Pv 0 σ0 H)(hl:∀ i σ H,i<=xs.length->Pv i σ H->bM K H a xs)
  (hs:∀ i x σ H,xs[i]?=some x->Pv i σ H->g x σ H fun σ2 H2=>tt σ2 H2 λb H3=>if b=true then Kx Ky acc g2 Kz te σ2 H3 (Pv (i+1)) else Pv (i+1) σ2 H3)
  (hd:∀ σ H,Pv xs.length σ H->Q (.ref acc) H):Ic (Sn K a) acc g tt Ky g2 Kz te σ0 H Q:=by
 refine⟨λi m σ H=>m=xs.length-i/\i<=xs.length/\Pv i σ H,⟨xs.length,by simp,qA _,h0⟩,?_⟩;rintro i m σ H ⟨rfl,hi,p⟩;have q:=hl i σ H hi p;by_cases uJ:i<xs.length
 ·refine .inr ⟨⟨xs,xs[i],q,by simp[uJ]⟩,Pv (i+1),fun σ' H' p'=>⟨xs.length-(i+1),by lia,rfl,uJ,p'⟩,λx H' y=>?_⟩;obtain⟨e,y⟩:=y;subst e;exact hs i x σ _ (y xs q) p
 ·have e:i=xs.length:=by lia
  subst e;exact .inl ⟨⟨xs,q,iT _⟩,hd σ H p⟩
theorem KG{K:Frag}{a:Addr}{xs:List V}{g:TG}{tt:TT}{te:TE}{σ:L2.St}{H:Hp}{Nx:L2.St->Hp->Prop}(Pv:Nat->L2.St->Hp->Prop)(h0:Pv 0 σ H)(hl:∀ i σ H,i<=xs.length->Pv i σ H->bM K H a xs)
  (hs:∀ i x σ H,xs[i]?=some x->Pv i σ H->g x σ H fun σ2 H2=>tt σ2 H2 λb H3=>if b=true then te σ2 H3 λv H4=>∃ ys,H4 acc=some (.lst ys)/\ys.length<sizeLine/\Pv (i+1) σ2 (aN H4 acc (.lst (ys++[v]))) else Pv (i+1) σ2 H3)
  (hd:∀ σ H,Pv xs.length σ H->Nx σ H):∃ W:Nat->Nat->L2.St->Hp->Prop,(∃ m,W 0 m σ H)/\∀ i m σ H,W i m σ H->
  ((Sn K a).stop i H/\Nx σ H)\/((Sn K a).go i H/\∃ N2:L2.St->Hp->Prop,(∀ σ' H',N2 σ' H'->∃ m',m'<m/\W (i+1) m' σ' H')/\∀ x H',(Sn K a).OR i H x H'->g x σ H' fun σ2 H2=>tt σ2 H2 λb H3 =>
   if b=true then te σ2 H3 λv H4=>∃ xs,H4 acc=some (.lst xs)/\xs.length<sizeLine/\N2 σ2 (aN H4 acc (.lst (xs++[v]))) else N2 σ2 H3):=by
 refine⟨λi m σ H=>m=xs.length-i/\i<=xs.length/\Pv i σ H,⟨xs.length,by simp,qA _,h0⟩,?_⟩;rintro i m σ H ⟨rfl,hi,p⟩;have q:=hl i σ H hi p;by_cases uJ:i<xs.length
 ·refine .inr ⟨⟨xs,xs[i],q,by simp[uJ]⟩,Pv (i+1),fun σ' H' p'=>⟨xs.length-(i+1),by lia,rfl,uJ,p'⟩,λx H' y=>?_⟩;obtain⟨e,y⟩:=y;subst e;exact hs i x σ _ (y xs q) p
 ·have e:i=xs.length:=by lia
  subst e;exact .inl ⟨⟨xs,q,iT _⟩,hd σ H p⟩
end
end dz
namespace dz
open Spec Rows L2
open AutoSeq1 (wpAny_loadPart')
section
variable {prog:Program} {w:World} {A:Around} {E:Value->Shared->Prop} {s:Shared} {κ:Type} [DecidableEq κ] {knd:KeyKind prog w κ}
theorem N1{d:Addr}{Q:Bool->Shared->Prop}(hT:s.TypeIs (.ref d) "dict")(h:Q false s):wpAny (model prog w) A (Builtin.List.listLengthHint (.ref d)) Q E s:=by
 unfold Builtin.List.listLengthHint;refine wpAny_bind (wpAny_specialOf hT F.slot_dict_len.lookup ?_);generalize hid:("dict.__len__":String)=id0
 wp_delta
 rw[show splitId id0=some ("dict","__len__") by subst hid;decide +kernel];subst hid;refine wpAny_bind (wpAny_isInstance (T:="dict") (b:=true) hT (by rw[isSubtype_type];kernel_rfl) ?_);refine wpAny_ite_split (λq=>absurd q (by decide)) λ_=>?_;refine wpAny_ite_split (λ_=>?_) λq=>absurd (by decide +kernel) q;exact wpAny_bind (wpAny_typeOf hT (wpAny_pure h))
theorem Ie{R:Result->Shared->Prop}{d:Addr}{kvs:List (κ × Value)}{ep:Nat}(hh:A.handled=none)(hs:(d == sysModules)=false)(hd:s.heap.DictAt knd d kvs ep)(ff:kvs.length<=sizeLine)(S:Addr)(res:Value)(c₀:Nat)(hS:s.heap.get? S=some { cls:=.type "list",data:=.seq #[] c₀ })
  (hR:∀ h' tk vF c',(∀ b o,b≠S->s.heap.get? b=some o->h'.get? b=some o)->h'.get? S=some { cls:=.type "list",dict:=none,data:=.seq vF c',slots:=#[] }->
   ItemsOf (λi v=>∃ k x,kvs[i]?=some (k,x)/\knd.is k v=true) vF kvs.length->R (.ok (.ret res)) { s with heap:=h',toks:=tk }) :
  wpAny (model prog w) A.in1 (Builtin.List.listExtendWith (.ref S) (.ref d) res)
   (λlQ s'=>match lQ with|.done f=>R (.ok f) s'|.again c'=>c'.quiet=true/\codeAny (model prog w) A c' R s') (λe s'=>R (.error e) s') s:=by
 have hT:s.TypeIs (.ref d) "dict":=by
  obtain⟨o,es,ho,hx,_⟩:=hd;exact⟨o,ho,hx.1⟩
 have hSd:S≠d:=λe=>by
  obtain⟨o,es,ho,hx,hda,_⟩:=hd;rw[← e,hS]at ho;cases ho;cases hda
 have adp:S<s.heap.objs.size:=Heap.lt_size hS
 have adq:d<s.heap.objs.size:=by
  obtain⟨o,es,ho,_⟩:=hd;exact Heap.lt_size ho
 have hSI:S≠s.heap.objs.size:=pR adp;have hdI:d≠s.heap.objs.size:=pR adq;have W:=(Walks.dictKeys (prog:=prog) (w:=w) (A:=A.in1) (knd:=knd) hh s.heap.objs.size d hdI kvs ep).toS;unfold Builtin.List.listExtendWith;refine wpAny_bind (wpAny_typeOf hT ?_);have h1:Builtin.List.listSameRef (.ref S) (.ref d)=false:=by simp[Builtin.List.listSameRef,hSd]
 have h2:(Value.type "dict" == Value.type "list")=false:=by decide
 have h3:(Value.type "dict" == Value.type "tuple")=false:=by decide
 simp only[h1,h2,h3,Bool.or_false,Bool.false_eq_true,if_false];refine wpAny_bind (wpAny_pyIter_dict hs hd ?_);have uE:(s.heap.push { cls:=.type "dict_keyiterator",data:=.fields #[.ref d,.int 0 0,.int kvs.length 0,.int ep 0] }).IsKeyIter s.heap.objs.size d 0 kvs.length ep:=⟨_,Heap.get?_push_size _ rfl,rfl,rfl⟩;have m6:∀ b o,s.heap.get? b=some o->(s.heap.push { cls:=.type "dict_keyiterator",data:=.fields #[.ref d,.int 0 0,.int kvs.length 0,.int ep 0] }).get? b=some o:=λb o e=>Heap.get?_push_of_some _ e;generalize s.heap.push { cls:=.type "dict_keyiterator",data:=.fields #[.ref d,.int 0 0,.int kvs.length 0,.int ep 0] }=g1 at uE m6
 have hT1:({ s with heap:=g1 }:Shared).TypeIs (.ref d) "dict":=by
  obtain⟨o,ho,hc⟩:=hT;exact⟨o,m6 _ _ ho,hc⟩
 refine wpAny_bind (wpAny_holding (N1 hT1 ?_));refine wpAny_ite_split (λ_=>?_) λq=>absurd (by decide +kernel) q;refine wpAny_bind (wpAny_rule (wpAny_bind ?_));show wpAny _ A.in1 (updateSeq S (λz=>z.push .none) >>= λ_=>updateSeq S λz=>z.pop) _ _ _;have g1S:=m6 _ _ hS;refine wpAny_bind (wpAny_updateSeq g1S rfl ?_);have g2S:=Heap.get?_update_self (Obj.mapSeq λz=>z.push Value.none) g1S rfl;refine wpAny_updateSeq (hz:=by seq_fits) g2S rfl ?_;have g3S:=Heap.get?_update_self (Obj.mapSeq λz=>z.pop) g2S rfl
 have OY:∀ b o,b≠S->g1.get? b=some o->((g1.update S (Obj.mapSeq λz=>z.push Value.none)).update S (Obj.mapSeq λz=>z.pop)).get? b=some o:=λb o nb e =>
  (Heap.get?_update_other _ _ nb.symm).trans ((Heap.get?_update_other _ _ nb.symm).trans e)
 refine wpAny_pure ⟨plainId_quiet F.plain_extend_loop _,codeAny_extend_loopS W ff S (λhm=>?_) res kvs.length 0 _ #[] _ rfl (qA _) ⟨uE.at λo e=>OY _ o hSI.symm e,(hd.at' λo e=>OY _ o hSd.symm (m6 _ o e))⟩ g3S (ItemsOf.nil _) λs' vF c' hm hS' dR=>?_⟩
 ·rcases List.mem_cons.mp hm with e|e
  ·exact hSI e
  ·exact hSd (List.mem_singleton.mp e)
 ·rw[Moved.eq_with hm];refine hR s'.heap s'.toks vF c' (λb o nb e=>hm.heap b o (λq=>?_) (OY b o nb (m6 b o e))) hS' dR;rcases List.mem_cons.mp q with z|z
  ·exact nb z
  ·exact absurd (Heap.lt_size e) (by rw[List.mem_singleton.mp z];exact Nat.lt_irrefl _)
theorem Ct{Q:Value->Shared->Prop}{d:Addr}{kvs:List (κ × Value)}{ep:Nat}(hh:A.handled=none)(hs:(d == sysModules)=false)(hd:s.heap.DictAt knd d kvs ep)(ff:kvs.length<=sizeLine)
  (hQ:∀ h' tk vF c',(∀ b o,s.heap.get? b=some o->h'.get? b=some o)->h'.get? s.heap.objs.size=some { cls:=.type "list",dict:=none,data:=.seq vF c',slots:=#[] }->
   ItemsOf (λi v=>∃ k x,kvs[i]?=some (k,x)/\knd.is k v=true) vF kvs.length->Q (.ref s.heap.objs.size) { s with heap:=h',toks:=tk }) :
  wpAny (model prog w) A (call (.type "list") [.ref d]) Q E s:=by
 refine callType_codes (Q₁:=λu s1=>u=.ref s.heap.objs.size/\s1={ s with heap:=s.heap.push { cls:=.type "list",data:=.seq #[] } }) F.called_list (F.typeCall_list_1 _) F.entry_list_init (code_list_new _ ⟨rfl,rfl⟩) λu s1 e1=>?_;obtain⟨rfl,rfl⟩:=e1;have hS:(s.heap.push { cls:=.type "list",data:=.seq #[] }).get? s.heap.objs.size=some { cls:=.type "list",data:=.seq #[] }:=Heap.get?_push_size _ rfl;have N3:(s.heap.push { cls:=.type "list",data:=.seq #[] }).DictAt knd d kvs ep:=hd.at' λo e=>Heap.get?_push_of_some _ e
 have Vw:d≠s.heap.objs.size:=by
  obtain⟨o,es,ho,_⟩:=hd;exact pR (Heap.lt_size ho)
 refine⟨⟨_,hS,rfl⟩,F.args_list_init_2 _ _,?_⟩;show wpAny _ _ (do let old ← Builtin.List.listItems (.ref s.heap.objs.size);Builtin.List.listUpdate (.ref s.heap.objs.size) (λ_=>#[]);letGo old.toList.reverse;Builtin.List.listExtendWith (.ref s.heap.objs.size) (.ref d) .none) _ _ _;refine wpAny_bind ?_;unfold Builtin.List.listItems;refine wpAny_bind (wpAny_seqItems hS rfl (wpAny_pure ?_));show wpAny _ _ (updateSeq s.heap.objs.size (λ_=>#[]) >>= λ_=>letGo (#[]:Array Value).toList.reverse >>= λ_=>Builtin.List.listExtendWith (.ref s.heap.objs.size) (.ref d) .none) _ _ _;refine wpAny_bind (wpAny_updateSeq hS rfl ?_);have Xu:=Heap.get?_update_self (Obj.mapSeq λ_=>(#[]:Array Value)) hS rfl;have OY:∀ b o,b≠s.heap.objs.size->(s.heap.push { cls:=.type "list",data:=.seq #[] }).get? b=some o->((s.heap.push { cls:=.type "list",data:=.seq #[] }).update s.heap.objs.size (Obj.mapSeq λ_=>(#[]:Array Value))).get? b=some o:=λb o nb e=>(Heap.get?_update_other _ _ nb.symm).trans e;refine wpAny_bind (wpAny_letGo ?_);refine Ie (A:=A.in1) (knd:=knd) hh hs (N3.at' λo e=>OY _ o Vw e) ff s.heap.objs.size .none _ Xu λh' tk vF c' hk hS' dR=>?_;exact⟨rfl,hQ h' tk vF c' (λb o e=>hk b o (pR (Heap.lt_size e)) (OY b o (pR (Heap.lt_size e)) (Heap.get?_push_of_some _ e))) hS' dR⟩
end
theorem KH{X:Cx}(hc:X.calm=true):pS X (.type "list") (λxs H Q=>∃ (d:Addr) (kvs:List (iy × V)),xs=[.ref d]/\H d=some (.dK kvs)/\∀ l,H l=none->Q (.ref l) (aN H l (.lst (kvs.map λp=>kV p.1)))):=by
 intro ao s σ H xs us Q I r h;obtain⟨d,kvs,rfl,hd,q⟩:=h;obtain⟨u,rfl,rx⟩:=r.one;cases (show u=Value.ref d from rx);obtain⟨hz,hs,vs,kv,o,es,ep,ho,hx⟩:=(show jk X.prog X.w H s.heap d (.dK kvs) from I.hok d _ hd);have len:=kv.length;refine Ct (I.ok.hd hc) hs ⟨o,es,ho,hx⟩ (by lia) λh' tk vF c' hk hS dR=>?_;refine⟨.ref s.heap.objs.size,_,I.laid (o:=.lst (kvs.map λp=>kV p.1)) (t':=tk) hk (iT _) ⟨by rw[cR];exact hz,vF.toList,c',?_,by simpa using hS⟩,rfl,q _ (I.hok.fresh (iT _))⟩
 have key:∀ (kvs:List (iy × V)) (vs:List (iy × Value)) (us:List Value),KV kvs vs->us.length=vs.length->(∀ (j:Nat) (v:Value),us[j]?=some v->∃ k x,vs[j]?=some (k,x)/\BO k v=true)->cH (kvs.map λp=>kV p.1) us:=by
  intro kvs
  induction kvs with
  | nil =>
   intro vs us kv hl _;cases kv
   cases us with
   | nil=>exact .nil
   | cons=>simp at hl
  | cons p r ih =>
   intro vs us kv hl hp
   cases kv with
   | @cons _ q _ FO h1 h2 =>
   cases us with
   | nil=>simp at hl
   | cons u us =>
    obtain⟨k,x,e1,e2⟩:=hp 0 u rfl;have e3:q=(k,x):=by simpa using e1
    subst e3;refine .cons ?_ (ih FO us h2 (by simpa using hl) λj v e=>?_)
    ·show L2.RelV (kV p.1) u;rw[show p.1=k from h1.1];rcases iD e2 with ⟨i,t,rfl,rfl⟩|⟨i,t,rfl,rfl⟩
     ·exact⟨t,rfl⟩
     ·exact⟨t,rfl⟩
    ·obtain⟨k',x',e4,e5⟩:=hp (j+1) v (by simpa using e);exact⟨k',x',by simpa using e4,e5⟩
 exact key kvs vs vF.toList kv (by simpa using dR.1) λj v e=>dR.2 j v (by simpa using e)
end dz
namespace Cu
open Spec Rows L2 dz jy
end Cu
namespace jy
open Spec Rows L2 dz iU Cu
inductive cE{α β:Type}(R:α->β->Prop):List α->List β->Prop
 | nil:cE R [] []
 | cons {a:α} {b:β} {as:List α} {bs:List β}:R a b->cE R as bs->cE R (a::as) (b::bs)
section
variable {α β:Type} {R R':α->β->Prop} {as:List α} {bs:List β} {a:α} {b:β}
theorem cE.len{as:List α}{bs:List β}(h:cE R as bs):as.length=bs.length:=by
 induction h with
 | nil=>rfl
 | cons _ _ ih=>rw[oJ,oJ,ih]
theorem cE.get:∀ {as:List α} {bs:List β} {i:Nat},cE R as bs->as[i]?=some a->∃ b,bs[i]?=some b/\R a b
 | _,_,_,.nil,h=>by simp at h
 | _,_,0,.cons r _,h=>by simp at h;subst h;exact⟨_,rfl,r⟩
 | _,_,i+1,.cons _ t,h=>by simp at h;simpa using t.get h
theorem cE.get':∀ {as:List α} {bs:List β} {i:Nat},cE R as bs->bs[i]?=some b->∃ a,as[i]?=some a/\R a b
 | _,_,_,.nil,h=>by simp at h
 | _,_,0,.cons r _,h=>by simp at h;subst h;exact⟨_,rfl,r⟩
 | _,_,i+1,.cons _ t,h=>by simp at h;simpa using t.get' h
theorem cE.snoc{as:List α}{bs:List β}(t:cE R as bs)(h:R a b):cE R (as++[a]) (bs++[b]):=by
 induction t with
 | nil=>exact .cons h .nil
 | cons r _ ih=>exact .cons r ih
theorem cE.mono{as:List α}{bs:List β}(h:∀ a b,R a b->R' a b)(t:cE R as bs):cE R' as bs:=by
 induction t with
 | nil=>exact .nil
 | cons r _ ih=>exact .cons (h _ _ r) ih
theorem cE.set:∀ {as:List α} {bs:List β} (i:Nat),cE R as bs->R a b->cE R (as.set i a) (bs.set i b)
 | _,_,_,.nil,_=>.nil
 | _,_,0,.cons _ t,h=>.cons h t
 | _,_,i+1,.cons r t,h=>.cons r (t.set i h)
theorem cE.split:∀ {as:List α} {bs:List β},cE R as (bs++[b])->∃ Su a,as=Su++[a]/\cE R Su bs/\R a b
 | _,[],.cons r .nil=>⟨[],_,rfl,.nil,r⟩
 | _,c::bs,.cons r t=>by
  obtain⟨Su,a,rfl,t',r'⟩:=t.split;exact⟨_::Su,a,rfl,.cons r t',r'⟩
end
inductive aU where
 | win (n:Int)
 | aS (a b:Int)
def KI:aU->List V
 | .win n=>[.str "win",.int n]
 | .aS a b=>[.str "ink",.int a,.int b]
def dJ(H:Hp)(v:V)(it:aU):Prop:=∃ a,v=.ref a/\H a=some (.tup (KI it))
theorem dJ.same{H H':Hp}{v:V}{it:aU}(s:aK H H'):dJ H v it->dJ H' v it:=λ⟨a,e,h⟩=>⟨a,e,s _ _ h⟩
theorem dJ.keep{H H':Hp}{v:V}{it:aU}{q:Addr}{xs:List V}(hq:H q=some (.lst xs))(k:cN q H H'):dJ H v it->dJ H' v it:=λ⟨a,e,h⟩=>⟨a,e,k a _ h (by
 intro z;rw[z,hq]at h
 cases h)⟩
def bY(H:Hp)(v:V)(aP:List aU):Prop:=∃ a vs,v=.ref a/\H a=some (.lst vs)/\cE (dJ H) vs aP
theorem bY.same{H H':Hp}{v:V}{aP:List aU}(s:aK H H'):bY H v aP->bY H' v aP:=λ⟨a,vs,e,h,t⟩=>⟨a,vs,e,s _ _ h,t.mono λ_ _=>dJ.same s⟩
def jr(H:Hp)(r:Addr)(rows:List (List aU)):Prop:=∃ vs,H r=some (.lst vs)/\cE (bY H) vs rows
theorem jr.same{H H':Hp}{r:Addr}{rows:List (List aU)}(s:aK H H'):jr H r rows->jr H' r rows:=λ⟨vs,h,t⟩=>⟨vs,s _ _ h,t.mono λ_ _=>bY.same s⟩
def bH(t:List aU)(e:Int):List aU :=
 if e<0 then t++[.win (-1-e)] else
 match t.getLast? with
 | some (.aS a b)=>if b=e then t.dropLast++[.aS a (e+1)] else t++[.aS e (e+1)]
 | _=>t++[.aS e (e+1)]
def aI(es:List Int):List aU:=es.foldl bH []
def iB(aP:List aU):List Int:=aP.filterMap λit=>match it with|.win n=>some n|.aS _ _=>none
def eG(es:List Int):List Int:=es.filterMap λe=>if e<0 then some (-1-e) else none
theorem jf(a b:List aU):iB (a++b)=iB a++iB b:=by unfold iB;rw[List.filterMap_append]
theorem N4(t:List aU)(e:Int):iB (bH t e)=iB t++(if e<0 then [-1-e] else []):=by
 unfold bH;by_cases h:e<0
 ·rw[if_pos h,if_pos h,jf];rfl
 ·rw[if_neg h,if_neg h,jH];rcases vL t with rfl|⟨t',l,rfl⟩
  ·rfl
  ·rw[uc,vM]
   cases l with
   | win n=>simp[jf,iB]
   | aS a b =>
    show iB (if b=e then (t'++[aU.aS a b]).dropLast++[.aS a (e+1)] else (t'++[aU.aS a b])++[.aS e (e+1)])=_;by_cases hb:b=e
    ·rw[if_pos hb,List.dropLast_concat,jf,jf];rfl
    ·rw[if_neg hb,jf,jf];simp[iB]
theorem N5(es:List Int):∀ t:List aU,iB (es.foldl bH t)=iB t++eG es:=by
 induction es with
 | nil=>intro t;simp[eG]
 | cons e es ih =>
  intro t;rw[qM,ih,N4,qL];unfold eG;rw[List.filterMap_cons];by_cases h:e<0
  ·simp[h]
  ·simp[h]
theorem lE(es:List Int):iB (aI es)=eG es:=by
 unfold aI;rw[N5];rfl
theorem cK{es:List Int}{y:Int}:y∈eG es↔0<=y/\-1-y∈es:=by
 unfold eG;rw[List.mem_filterMap];constructor
 ·rintro⟨e,he,h⟩;by_cases h0:e<0
  ·rw[if_pos h0]at h;cases h;exact⟨by lia,by rw[show -1-(-1-e)=e by lia];exact he⟩
  ·rw[if_neg h0]at h;cases h
 ·rintro⟨h0,h1⟩;refine⟨-1-y,h1,?_⟩;rw[if_pos (by lia)];congr 1;lia
theorem wQ(es:List Int):∀ t:List aU,(es.foldl bH t).length<=t.length+es.length:=by
 induction es with
 | nil=>intro t;simp
 | cons e es ih =>
  intro t;rw[qM];have z:=ih (bH t e)
  have z2:(bH t e).length<=t.length+1:=by
   unfold bH;split
   ·simp
   ·split
    ·split
     ·rw[dH,List.length_dropLast,xh];lia
     ·simp
    ·simp
  rw[oJ];lia
def oA(rows:dI)(x y:Int):Prop:=0<=x/\∃ es,rows[x.toNat]?=some es/\y∈eG es
inductive Reach(E:Int->Int->Prop)(s:Int):Int->Prop
 | one {y:Int}:E s y->Reach E s y
 | step {y z:Int}:Reach E s y->E y z->Reach E s z
theorem Reach.closed{E:Int->Int->Prop}{s:Int}{S:Int->Prop}(h0:∀ y,E s y->S y)(h1:∀ x y,S x->E x y->S y):∀ {g:Int},Reach E s g->S g
 | _,.one h=>h0 _ h
 | _,.step r h=>h1 _ _ (Reach.closed h0 h1 r) h
def jt(rows:dI):Prop:=∀ es∈rows,∀ y∈eG es,y<rows.length
theorem jt.G0{rows:dI}(h:jt rows){x y:Int}(e:oA rows x y):0<=y/\y<rows.length:=by
 obtain⟨_,es,he,hy⟩:=e;exact⟨(cK.mp hy).1,h es (t7 he) y hy⟩
def cnt(n:Nat)(p:Nat->Bool):Nat:=((List.range n).filter p).length
theorem QH(n:Nat){p q:Nat->Bool}(h:∀ i,i<n->p i=q i):cnt n p=cnt n q:=by
 unfold cnt;rw[List.filter_congr λi hi=>h i (List.mem_range.mp hi)]
theorem yW(n:Nat)(p:Nat->Bool):cnt (n+1) p=cnt n p+(if p n=true then 1 else 0):=by
 unfold cnt;rw[List.range_succ,List.filter_append,dH];congr 1;by_cases h:p n=true
 ·rw[if_pos h];simp[h]
 ·rw[if_neg h];simp[h]
theorem yX(j:Nat):∀ (n:Nat) {p q:Nat->Bool},j<n->p j=true->(∀ i,q i=(p i&&decide (i≠j)))->cnt n q+1=cnt n p
 | 0,_,_,h,_,_=>by lia
 | n+1,p,q,h,hj,hq=>by
  rw[yW,yW];by_cases e:j=n
  ·subst e
   have z:cnt j q=cnt j p:=QH j λi hi=>by
    rw[hq i];have:decide (i≠j)=true:=by simp;lia
    rw[this,Bool.and_true]
   have z2:q j=false:=by rw[hq j];simp
   rw[z,z2,if_pos hj];simp
  ·have ih:=yX j n (p:=p) (q:=q) (by lia) hj hq
   have z:q n=p n:=by
    rw[hq n];have:decide (n≠j)=true:=by simp;lia
    rw[this,Bool.and_true]
   rw[z];lia
theorem Cv(n:Nat)(p:Nat->Bool):cnt n p<=n:=by
 unfold cnt;have:=List.length_filter_le p (List.range n);rw[List.length_range]at this;exact this
def iO(av:Addr->Prop)(H:Hp)(v:V)(es:List Int):Prop:=∃ a,v=.ref a/\¬ av a/\H a=some (.lst (es.map V.int))
def kB(av:Addr->Prop)(H:Hp)(r:Addr)(rows:dI):Prop:=∃ vs,H r=some (.lst vs)/\cE (iO av H) vs rows
theorem iO.keep{av:Addr->Prop}{H H':Hp}{v:V}{es:List Int}(k:∀ a o,¬ av a->H a=some o->H' a=some o):iO av H v es->iO av H' v es:=λ⟨a,e,n,h⟩=>⟨a,e,n,k a _ n h⟩
theorem kB.same{av:Addr->Prop}{H H':Hp}{r:Addr}{rows:dI}(s:aK H H'):kB av H r rows->kB av H' r rows:=λ⟨vs,h,t⟩=>⟨vs,s _ _ h,t.mono λ_ _=>iO.keep λa o _ e=>s a o e⟩
theorem kB.get{av:Addr->Prop}{H:Hp}{r:Addr}{rows:dI}{i:Nat}{es:List Int}(h:kB av H r rows)(e:rows[i]?=some es):∃ vs a,H r=some (.lst vs)/\vs[i]?=some (.ref a)/\H a=some (.lst (es.map V.int))/\vs.length=rows.length:=by
 obtain⟨vs,hr,t⟩:=h;obtain⟨v,ev,a,rfl,_,ha⟩:=t.get' e;exact⟨vs,a,hr,ev,ha,t.len⟩
theorem Ms(x:Int)(xs:List Int):inV (.int x) (xs.map V.int)=decide (x∈xs):=by
 unfold inV
 induction xs with
 | nil=>rfl
 | cons y ys ih =>
  rw[oK,List.any_cons,ih];show ((y == x) || decide (x∈ys))=_;by_cases h:y=x
  ·simp[h]
  ·have h2:¬ x=y:=λz=>h z.symm;simp[h,h2]
theorem EL(xs:List Int):(xs.map V.int).all yO=true:=by
 rw[List.all_eq_true];intro v hv;obtain⟨i,_,rfl⟩:=List.mem_map.mp hv;rfl
def FP(rows:dI):Prop:=∃ rk:Int->Nat,(∀ x,rk x<=40)/\∀ x y,oA rows x y->rk y<rk x
theorem iO.at{av:Addr->Prop}{H:Hp}{v:V}{es:List Int}{q:Addr}(o:HO)(hq:av q):iO av H v es->iO av (aN H q o) v es:=iO.keep λa u n e=>by
 rw[aH (λz=>n (by rw[z];exact hq))];exact e
theorem iO.same{av:Addr->Prop}{H H':Hp}{v:V}{es:List Int}(s:aK H H'):iO av H v es->iO av H' v es:=iO.keep λa u _ e=>s a u e
def seen(kvs:List (iy × V))(x:Int):Prop:=(cU kvs (Sum.inl x)).isSome=true
def tR(n:Nat)(kvs:List (iy × V)):Nat:=cnt n λi=>(cU kvs (Sum.inl (i:Int))).isNone
theorem Ig{kvs:List (iy × V)}{y x:Int}(v:V):seen (gQ kvs (Sum.inl y) v) x↔x=y\/seen kvs x:=by
 unfold seen;rw[kq];by_cases h:x=y
 ·rw[if_pos (by rw[h]),h];simp
 ·rw[if_neg (λz=>h (Sum.inl.inj z))];simp[h]
theorem Ih{n:Nat}{kvs:List (iy × V)}{y:Int}(v:V)(h0:0<=y)(h1:y<n)(hn:cU kvs (Sum.inl y)=none):tR n (gQ kvs (Sum.inl y) v)+1=tR n kvs:=by
 refine yX y.toNat n (by lia) ?_ λi=>?_
 ·show (cU kvs (Sum.inl (y.toNat:Int))).isNone=true;rw[show ((y.toNat:Nat):Int)=y by lia,hn];rfl
 ·show (cU (gQ kvs (Sum.inl y) v) (Sum.inl (i:Int))).isNone=((cU kvs (Sum.inl (i:Int))).isNone&&decide (i≠y.toNat));rw[kq];by_cases h:(i:Int)=y
  ·rw[if_pos (by rw[h])];have:decide (i≠y.toNat)=false:=by simp;lia
   rw[this,Bool.and_false];rfl
  ·rw[if_neg (λz=>h (Sum.inl.inj z))];have:decide (i≠y.toNat)=true:=by simp;lia
   rw[this,Bool.and_true]
theorem Mt(lo:Int)(n:Nat):(run lo n).length=n:=by
 induction n generalizing lo with
 | zero=>rfl
 | succ n ih=>rw[run,oJ,ih]
theorem QI:∀ {n:Nat} {lo y:Int},y∈run lo n->lo<=y/\y<lo+n
 | 0,_,_,h=>by cases h
 | n+1,lo,y,h=>by
  rcases List.mem_cons.mp h with rfl|z
  ·lia
  ·have:=QI z;lia
theorem cE.new{H2:Hp}{q t:Addr}{vs:List V}{aP:List aU}{it:aU}{ys:List V}(jz:H2 q=some (.lst ys))(hb:cE (dJ H2) vs aP)(ht:H2 t=none)(zs:List V) :
  cE (dJ (aN (aN H2 t (.tup (KI it))) q (.lst zs))) (vs++[.ref t]) (aP++[it]):=by
 have Xk:q≠t:=az jz ht;have s1:aK H2 (aN H2 t (.tup (KI it))):=ak ht _;refine cE.snoc (hb.mono λv i h=>(h.same s1).keep (s1 _ _ jz) (aM q _ _)) ⟨t,rfl,?_⟩;rw[aH Xk.symm,af]
end jy
namespace Xv
open Spec Rows L2 dz
section
variable {M:Model} {A:Around} {E:Value->Shared->Prop} {s:Shared}
theorem FQ{a b:Value}{Q:Value->Shared->Prop}(ha:s.TypeIs a "list")(hb:s.TypeIs b "list")(hc:wpAny M A (call (.builtin "list.__iadd__") [a,b]) Q E s):wpAny M A (inplaceOp .Add a b) Q E s:=by
 unfold inplaceOp;refine wpAny_holding ?_;have hq:isSeqSlot (some (.builtin "list.__iadd__"))=true:=by decide +kernel
 have hfi:fillsInplaceSlot (.type "list") "add" (Operator.Add == .Add)=pure false:=by
  unfold fillsInplaceSlot;show (typeLookup (.type "list") (dunderI "add") >>= λfi=>pure (fi.isSome&&!isSeqSlot fi))=pure false;rw[PySem.F.slot_list_iadd.lookup,pure_bind,hq];rfl
 have hsi:seqSlot? (.type "list") (dunderI "add")=pure (some (.builtin "list.__iadd__")):=PySem.seqSlot_of PySem.F.slot_list_iadd.lookup hq;refine wpAny_bind (wpAny_typeOf ha (wpAny_bind (wpAny_of_eq hfi ?_)));show wpAny M A (if false=true then _ else _) Q E s;rw[if_neg jQ];refine wpAny_bind (binaryOp1_none (nm:="add") ha hb PySem.noFill_list_add ?_);refine wpAny_bind (wpAny_of_eq hsi ?_);exact wpAny_bind (wpAny_rule hc)
end
section
variable {X:Cx}
def Vx:V->V->Hp->VK->Prop:=λx y H Q=>∃ l b xs zs,x=.ref l/\y=.ref b/\H l=some (.lst xs)/\H b=some (.lst zs)/\xs.length+zs.length<=sizeLine/\Q (.ref l) (aN H l (.lst (xs++zs)))
theorem zY:PIp X .Add Vx:=by
 intro ao s σ H x y v u Q I rx ry h;obtain⟨l,b,xs,zs,rfl,rfl,hH,hB,hz,q⟩:=h;cases rx;cases ry;obtain⟨z,aP,n,r,hl,e⟩:=I.DG hH;obtain⟨z2,its2,n2,r2,FD,e2⟩:=I.DG hB;have hsz:aP.toArray.size+its2.toArray.size<=sizeLine:=by rw[jX,jX];lia
 have Hw:¬ (!aP.toArray.isEmpty&&Builtin.List.listTooLong (aP.toArray.size+its2.toArray.size))=true:=by
  rw[Cb hsz,Bool.and_false];exact jQ
 refine FQ ⟨_,e,rfl⟩ ⟨_,e2,rfl⟩ ?_;refine call_meets PySem.F.slot_list_iadd ⟨_,e,rfl⟩ PySem.F.entry_list_iadd (PySem.F.args_list_iadd_2 _ _) (AutoSeq1.list___iadd___list_list_0 l aP.toArray n b its2.toArray n2 Hw (by rw[jX];lia) (by lia)) ⟨e,e2,?_⟩;refine⟨.ref l,_,I.PZ (its':=aP++its2) hH e (by simp) (r.append r2) ?_,rfl,q⟩;rw[dH];lia
section
variable {N:List Str} {scope:Scope} {cl:List (Str × Addr)} {C:Addr} {s₀:Shared} {H₀:Hp} {ex:List Addr} {pn:List (Addr × Obj)}
theorem KJ:pS (oq X N scope cl C s₀ H₀ ex pn) (.type "list") (Zt X.K):=jI
end
theorem KL:Zg X .Add Vx:=λao s σ H x y u v Q I rx ry h=>zY ao s σ H x y u v Q I rx ry h
end
theorem Mu{p q A B T:Prop} [Decidable p] [Decidable q] (w:p->(if decide q=true then A else B)->T) (h1:p/\q->A) (h2:¬ (p/\q)->B):if decide p=true then T else (if false=true then A else B):=by
 by_cases a:p
 ·rw[if_pos (decide_eq_true a)];by_cases b:q
  ·exact w a (by rw[if_pos (decide_eq_true b)];exact h1 ⟨a,b⟩)
  ·exact w a (by rw[decide_eq_false b,if_neg jQ];exact h2 λz=>b z.2)
 ·rw[decide_eq_false a,if_neg jQ,if_neg jQ];exact h2 λz=>a z.1
theorem QJ{p q A B T:Prop} [Decidable p] [Decidable q] (w:(if decide q=true then A else B)->T) (h1:p/\q->A) (h2:¬ (p/\q)->B):if decide p=true then T else (if false=true then A else B):=Mu (λ_=>w) h1 h2
end Xv
namespace jy
open Spec Rows L2 dz iU Cu
def qH(r:Row):Prop:=∀ p∈r,0<=p.1/\p.1<=p.2
def nO(r:Row):Prop:=∀ p∈r,0<=p.1/\p.1<p.2
theorem EM{t:Row}{s e:Int}(h:nO t)(h0:0<=s)(h1:s<e):nO (m6 t s e):=by
 have add:nO (t++[(s,e)]):=λp hp=>by
  rcases List.mem_append.mp hp with z|z
  ·exact h p z
  ·rw[List.mem_singleton.mp z];exact⟨h0,h1⟩
 unfold m6;rcases vL t with rfl|⟨t',l,rfl⟩
 ·exact add
 ·rw[uc]at h add ⊢;rw[vM];show nO (if l.2=s then (t'++[l]).dropLast++[(l.1,e)] else t'++[l]++[(s,e)]);by_cases c:l.2=s
  ·rw[if_pos c,List.dropLast_concat];intro p hp;rcases List.mem_append.mp hp with z|z
   ·exact h p (xU _ z)
   ·have:=h l (by simp);rw[List.mem_singleton.mp z];exact⟨this.1,by show l.1<e;lia⟩
  ·rw[if_neg c];exact add
theorem uu{r:Row}(h:qH r):nO (cJ r):=by
 have z:∀ (r t:Row),qH r->nO t->nO (r.foldl gf t):=by
  intro r
  induction r with
  | nil=>intro t _ g;exact g
  | cons p r ih =>
   intro t h g;rw[qM];refine ih _ (λq hq=>h q (t6 _ hq)) ?_;unfold gf;have hp:=h p (by simp);by_cases c:p.1=p.2
   ·rw[if_pos c];exact g
   ·rw[if_neg c];exact EM g hp.1 (by lia)
 exact z r [] h λp hp=>by cases hp
theorem EN{ns:List Int}(h:∀ x∈ns,0<=x):nO (dc ns):=by
 have z:∀ (ns:List Int) (t:Row),(∀ x∈ns,0<=x)->nO t->nO (ns.foldl (λt n=>m6 t n (n+1)) t):=by
  intro ns
  induction ns with
  | nil=>intro t _ g;exact g
  | cons n ns ih =>
   intro t h g;rw[qM];exact ih _ (λx hx=>h x (t6 _ hx)) (EM g (h n (by simp)) (by lia))
 exact z ns [] h λp hp=>by cases hp
theorem nO.nn{r:Row}(h:nO r):qH r:=λp hp=>⟨(h p hp).1,by have:=(h p hp).2;lia⟩
theorem Cw(a b:Int):∀ (r:Row) (h:Int),qH r->qH (qx a b h r)
 | [],_,_=>λp hp=>by cases hp
 | q::r,h,g=>by
  intro p hp;rw[qx]at hp;rcases List.mem_append.mp hp with z|z
  ·have gq:=g q (by simp);refine⟨?_,Qy a b h q p z⟩;unfold Qx at z;split at z
   ·rw[List.mem_singleton.mp z];show 0<=q.1+max (a-h) 0;lia
   ·cases z
  ·exact Cw a b r _ (λx hx=>g x (t6 _ hx)) p z
end jy
namespace Ua
open Spec Rows L2 dz
end Ua
namespace jy
open Spec Rows L2 dz iU Cu Ua
end jy
namespace jy
open Spec Rows L2 dz iU Cu Ua
theorem Mw:∀ {n:Nat} {s x:Int},x∈run s n↔s<=x/\x<s+n
 | 0,s,x=>by simp[run]
 | n+1,s,x=>by
  rw[run,List.mem_cons,Mw];lia
def Ris(r:Row):Prop:=r.Pairwise (λp q=>p.2<q.1)/\∀ p∈r,p.1<p.2
end jy
namespace jy
open Spec Rows L2 dz iU Cu Ua
end jy
namespace jy
open Spec Rows L2 dz iU Cu Xv
structure bQ(K:Frag)(C:Addr)(m iR:Str)(st:Stmt)(ps:List Str)(a:Addr)(d:FuncData):Prop where
 F:iM K m iR st a d
 b:Binds K d ps []
 mt:Pz K C m a
structure ClsAt(K:Frag)(mg:Str->Option Value)(x:Str)(C fi:Addr):Prop where
 cl:Ek K C
 m:mg x=some (.ref C)
 Yu:Mk K C fi
end jy
namespace jy
open L2 dz iU
section
variable {p:List Value->Prop}
theorem us0(h:p []):∀ us:List Value,us.length=0->p us:=λus e=>by rw[List.length_eq_zero_iff.mp e];exact h
theorem Yv{n:Nat}(h:∀ a (us:List Value),us.length=n->p (a::us)):∀ us:List Value,us.length=n+1->p us:=by
 intro us e
 cases us with
 | nil=>cases e
 | cons a us=>exact h a us (Nat.succ.inj e)
theorem us1(h:∀ a,p [a]):∀ us:List Value,us.length=1->p us:=Yv λa=>us0 (p:=λus=>p (a::us)) (h a)
theorem us2(h:∀ a b,p [a,b]):∀ us:List Value,us.length=2->p us:=Yv λa=>us1 (p:=λus=>p (a::us)) (h a)
theorem us3(h:∀ a b c,p [a,b,c]):∀ us:List Value,us.length=3->p us:=Yv λa=>us2 (p:=λus=>p (a::us)) (h a)
theorem us4(h:∀ a b c d,p [a,b,c,d]):∀ us:List Value,us.length=4->p us:=Yv λa=>us3 (p:=λus=>p (a::us)) (h a)
theorem us5(h:∀ a b c d e,p [a,b,c,d,e]):∀ us:List Value,us.length=5->p us:=Yv λa=>us4 (p:=λus=>p (a::us)) (h a)
theorem us6(h:∀ a b c d e f,p [a,b,c,d,e,f]):∀ us:List Value,us.length=6->p us:=Yv λa=>us5 (p:=λus=>p (a::us)) (h a)
end
section
variable {K:Frag} {mg:Str->Option Value} {h:Heap} {x iR:Str} {st:Stmt} {f C:Addr} {ps:List Str}
theorem DI.d(q:DI K x st f)(X:K.In h)(G:h.Ns mainGlobals mg)(b:∀ (kV AI pm:Value) (an:Option Addr) (dP ct:Value) (us:List Value),us.length=ps.length->bindArgs (fnOf x x (sQ st) (ni st) (aA st) .none kV AI pm an dP ct) ⟨us,[]⟩=pure (ps.zip us):=by intro _ _ _ _ _ _;first|exact us1 λ_=>rfl|exact us2 λ_ _=>rfl|exact us3 λ_ _ _=>rfl|exact us4 λ_ _ _ _=>rfl|exact us5 λ_ _ _ _ _=>rfl|exact us6 λ_ _ _ _ _ _=>rfl|exact us0 rfl):∃ fd,aC K mg x st ps f fd:=by
 obtain⟨a,l,c,k⟩:=q;have F:=Ko l c k;exact⟨_,F,F.binds b,mg_of X G a⟩
theorem MI.d(q:MI K C x iR st f)(b:∀ (kV AI pm:Value) (an:Option Addr) (dP ct:Value) (us:List Value),us.length=ps.length->bindArgs (fnOf x iR (sQ st) (ni st) (aA st) .none kV AI pm an dP ct) ⟨us,[]⟩=pure (ps.zip us):=by intro _ _ _ _ _ _;first|exact us1 λ_=>rfl|exact us2 λ_ _=>rfl|exact us3 λ_ _ _=>rfl|exact us4 λ_ _ _ _=>rfl|exact us5 λ_ _ _ _ _=>rfl|exact us6 λ_ _ _ _ _ _=>rfl|exact us0 rfl):∃ fd,bQ K C x iR st ps f fd:=by
 obtain⟨a,i,l,c,k⟩:=q;have F:=Ko l c k;exact⟨_,F,F.binds b,⟨a,i,k⟩⟩
theorem CI.d(q:CI K x C)(X:K.In h)(G:h.Ns mainGlobals mg)(m:Pz K C "__init__" fi):ClsAt K mg x C fi:=by
 obtain⟨a,pg,hd,po,sa,mk,kc⟩:=q;obtain⟨a1,i1,k1⟩:=m;exact⟨⟨pg,hd,po,sa⟩,mg_of X G a,⟨mk,a1,i1,kc⟩⟩
end
end jy
namespace dz
open Spec Rows L2
theorem uT{α β:Type}{F:α->β->Prop}:∀ {xs:List α} {ys:List β} {i:Nat} {x:α},Paired F xs ys->xs[i]?=some x->∃ y,ys[i]?=some y/\F x y
 | _,_,_,_,.nil,e=>by simp at e
 | _,_,0,_,.cons r _,e=>by simp at e;subst e;exact⟨_,rfl,r⟩
 | _,_,i+1,x,.cons _ t,e=>by
  obtain⟨y,h1,h2⟩:=uT (i:=i) (x:=x) t (by simpa using e);exact⟨y,by simpa using h1,h2⟩
theorem AQ{α β:Type}{F:α->β->Prop}:∀ {xs:List α} {ys:List β} {i:Nat} {y:β},Paired F xs ys->ys[i]?=some y->∃ x,xs[i]?=some x/\F x y
 | _,_,_,_,.nil,e=>by simp at e
 | _,_,0,_,.cons r _,e=>by simp at e;subst e;exact⟨_,rfl,r⟩
 | _,_,i+1,y,.cons _ t,e=>by
  obtain⟨x,h1,h2⟩:=AQ (i:=i) (y:=y) t (by simpa using e);exact⟨x,by simpa using h1,h2⟩
end dz
namespace dz
open Spec Rows L2 jy Cu
def ZU(K:Frag)(a:Addr):It :=
 ⟨λi H=>∃ xs x,bM K H a xs/\xs[i]?=some x,λi H v H'=>∃ p x,H p=none/\v=.ref p/\H'=aN H p (.tup [.int i,x])/\∀ xs,bM K H a xs->xs[i]?=some x,λi H=>∃ xs,bM K H a xs/\xs.length<=i⟩
theorem N6{P:Program}{w:World}{K:Frag}{x1:Nat}(a e it:Addr)(ne:e≠it):Hr P w K (.Tuple Kv x1 DE) (ZU K a) [e,it] e (λi h=>∃ old,IsEnum h e it i old/\h.IsListIter it a i) where
 mem:=by simp
 obj:=λi h st b hb=>by
  obtain⟨old,he,o,ho,c,d⟩:=st;simp only[List.mem_cons,List.not_mem_nil,or_false]at hb;rcases hb with rfl|rfl
  ·exact⟨_,he,λv z=>by cases z⟩
  ·exact⟨o,ho,λv z=>by rw[d]at z;cases z⟩
 keep:=λi h h' st k=>by
  obtain⟨old,he,uE⟩:=st;exact⟨old,k e (by simp) _ he,uE.at λo x=>k it (by simp) o x⟩
 item:=by
  intro X hP hw hK hc i ao s σ H E I hf st hg;subst hP hw hK;obtain⟨xs,x,hq,hx⟩:=hg;obtain⟨old,he,uE⟩:=st;obtain⟨aP,rv,p,hz⟩:=I.list hq;obtain⟨u,hu,ru⟩:=rv.get hx;obtain⟨oi,Xw,_⟩:=id uE;refine wpAny_pyNext_enum_item he uE p.isList (x:=u) (by simpa using hu) ne λh' U9 adz ht hz' hk=>?_;refine⟨_,rfl,wpAny_letOwnedTupleGo_enum U9 λh2 he2 GX=>?_⟩;have c2:=GX.extBut;have nE:s.heap.objs.size≠e:=Nat.ne_of_gt (Heap.lt_size he)
  have k2:∀ b o,b∉[e,it]->s.heap.get? b=some o->h2.get? b=some o:=λb o hb ho=>by
   simp only[List.mem_cons,List.not_mem_nil,or_false,not_or]at hb;exact c2 _ _ hb.1 (hk b o hb.1 hb.2 ho)
  have I2:Inv X ao σ (aN H s.heap.objs.size (.tup [.int i,x])) { s with heap:=h2,toks:=s.toks+1 } := Vo I k2 hf (iT _) (by show 2<=sizeLine;decide) (.cons ⟨s.toks,rfl⟩ (.cons ru .nil)) ⟨_,c2 _ _ nE ht,rfl,_,rfl⟩;refine⟨.ref s.heap.objs.size,_,I2,rfl,⟨_,x,I.hok.fresh (iT _),rfl,rfl,λys q=>by rw[I.BS q hq];exact hx⟩,⟨u,he2,adz.at λo x=>c2 _ _ ne.symm x⟩,λb hb=>?_⟩
  have nb:b≠s.heap.objs.size:=by
   simp only[List.mem_cons,List.not_mem_nil,or_false]at hb;rcases hb with rfl|rfl
   ·exact nE.symm
   ·exact pR (Heap.lt_size Xw)
  rw[aH nb];exact (hf b hb).1
 done:=by
  intro X hP hw hK hc i ao s σ H E I hf st hg;subst hP hw hK;obtain⟨xs,hq,hx⟩:=hg;obtain⟨old,he,uE⟩:=st;obtain⟨aP,rv,p,hz⟩:=I.list hq;have hl:=rv.length;refine wpAny_pyNext_enum_end (I.ok.hd hc) he uE p.isList (by simp;lia) λh' kk=>⟨rfl,Mb (t':=s.toks) (ch:=[e,it]) I (λb o hb x=>?_) hf⟩;simp only[List.mem_cons,List.not_mem_nil,or_false,not_or]at hb;exact kk b o hb.2 x
 self:=λ_ _ _ _ _ ⟨_,he,_⟩ h=>wpAny_pyIter_enum he h
theorem N7:bootBuiltins "enumerate"=some (.type "enumerate"):=by decide +kernel
def ZV(K:Frag)(ta:TA):TI:=fun σ H R=>ta σ H λvs H1=>∃ (a:Addr) (xs:List V),vs=[.ref a]/\bM K H1 a xs/\R (ZU K a) H1
theorem Mx{X:Cx}{Kv:List Expr}{x1:Nat}{DE:Pos}{a:Expr}{ta:TA}{p pos:Pos}(hg:Gl X "enumerate")(hm:X.mg "enumerate"=none)(ha:PA X [a] ta)(hs:starEach [a] X.env=[(false,eval a X.env)]:=by rfl) :
  PI X (.Tuple Kv x1 DE) (.Call (.Name "enumerate" p) [a] [] pos) (ZV X.K ta):=by
 intro ao s σ H R I h;refine Call_ (xV I hg hm N7 (PyProof.Rows.callWith_type1 (dB (ha pos ao s σ H _ I h) λus s1 ⟨vs,H1,I1,r1,q1⟩=>?_) hs rfl));obtain⟨l,xs,e,hq,q⟩:=q1;subst e;obtain⟨u,rfl,rx⟩:=r1.one;cases (show u=Value.ref l from rx);obtain⟨aP,rv,pl,hz⟩:=I1.list hq;refine call_enumerate_list pl.isList λh' he uE hsz hk=>wpAny_pyIter_enum he ?_;have I2:Inv X ao σ H1 { s1 with heap:=h',toks:=s1.toks }:=I1.kept hk;refine⟨_,_,_,_,H1,rfl,I2,N6 l _ _ (Nat.succ_ne_self _),⟨_,he,uE⟩,λb hb=>?_,q⟩
 have hb':s1.heap.objs.size<=b:=by
  simp only[List.mem_cons,List.not_mem_nil,or_false]at hb;rcases hb with rfl|rfl
  ·exact Nat.le_succ _
  ·exact iT _
 exact I1.J5 hb' (I1.hok.fresh hb')
theorem Ii{K:Frag}{a:Addr}{xs:List V}{g:TG}{tb:TS}{D:Ends}{σ:L2.St}{H:Hp}(Pv:Nat->L2.St->Hp->Prop)(h0:Pv 0 σ H)(hl:∀ i σ H,i<=xs.length->Pv i σ H->bM K H a xs)
  (hs:∀ (i:Nat) x p σ H,xs[i]?=some x->H p=none->Pv i σ H->g (.ref p) σ (aN H p (.tup [.int i,x])) fun σ2 H2=>tb { D with nx:=Pv (i+1),ct:=Pv (i+1),bk:=D.nx } σ2 H2) (hd:∀ σ H,Pv xs.length σ H->D.nx σ H) :
  ∃ W:Nat->Nat->L2.St->Hp->Prop,(∃ m,W 0 m σ H)/\∀ i m σ H,W i m σ H->
   ((ZU K a).stop i H/\D.nx σ H)\/((ZU K a).go i H/\∃ N:L2.St->Hp->Prop,(∀ σ' H',N σ' H'->∃ m',m'<m/\W (i+1) m' σ' H')/\∀ x H',(ZU K a).OR i H x H'->g x σ H' fun σ2 H2=>tb { D with nx:=N,ct:=N,bk:=D.nx } σ2 H2):=by
 refine⟨λi m σ H=>m=xs.length-i/\i<=xs.length/\Pv i σ H,⟨xs.length,by simp,qA _,h0⟩,?_⟩;rintro i m σ H ⟨rfl,hi,p⟩;have q:=hl i σ H hi p;by_cases uJ:i<xs.length
 ·refine .inr ⟨⟨xs,xs[i],q,by simp[uJ]⟩,Pv (i+1),fun σ' H' p'=>⟨xs.length-(i+1),by lia,rfl,uJ,p'⟩,λx H' y=>?_⟩;obtain⟨b,x',Vd,rfl,rfl,e1⟩:=y;exact hs i x' b σ _ (e1 xs q) Vd p
 ·have e:i=xs.length:=by lia
  subst e;exact .inl ⟨⟨xs,q,iT _⟩,hd σ H p⟩
def Xx(td ty tx:TE):TE:=fun σ H Q=>td σ H λx H1=>∃ a,x=.ref a/\IsD H1 a/\ty σ H1 λy H2=>tx σ H2 λz H3=>∃ kvs k,H3 a=some (.dK kvs)/\y=kV k/\kvs.length<sizeLine/\
 (∀ v,cU kvs k=some v->Q v H3)/\(cU kvs k=none->Q z (aN H3 a (.dK (gQ kvs k z))))
theorem Ij{X:Cx}{e f:Expr}{td ty tx:TE}(ho:PE X o td)(he:PE X e ty)(hf:PE X f tx)(m:M2 X o "setdefault" oO e f ug):PE X (.Call (.Attribute o "setdefault" oO) [e,f] [] ug) (Xx td ty tx):=by
 intro ao s σ H Q I h;refine wpAny_Call_method m.zt m.few m.line PySem.F.plainAttrs_dict PySem.F.slot_dict_setdefault PySem.F.type_dict_setdefault (dB (ho ao s σ H _ I h) λu s1 Ft=>?_);obtain⟨x,H1,I1,rx,a,ex,d,q1⟩:=Ft;subst ex;obtain rfl:u=Value.ref a:=rx;obtain⟨t1,t2,_⟩:=QB I1 d;refine⟨t1,t2,?_⟩;rw[m.trees]
 refine Calls.callWith_builtin rfl (Calls.evalArgs_plain (Calls.spliced_cons (dB (he ao s1 σ H1 _ I1 q1) λiv s2 ⟨y,H2,I2,ry,q2⟩ =>
  Calls.spliced_cons (dB (hf ao s2 σ H2 _ I2 q2) λfv s3 ⟨z,H3,I3,rz,kvs,k,ea,ey,ff,g1,g2⟩=>Calls.spliced_nil ?_))))
 subst ey;obtain⟨hz,hd,vs,yF,dd⟩:=Qz I3.hok ea;have len:=yF.length;refine call_meetsIn PySem.F.slot_dict_setdefault dd.typeIs PySem.F.entry_dict_setdefault (PySem.F.args_dict_setdefault_3 _ _ _) (kt_meets_setdefault (iA X.prog X.w) a (Co ry) hd fv) ⟨vs,dd,by lia,λv hv=>?_,λhn h' Ss hs=>?_⟩
 ·have r:=yF.val k;rw[hv]at r
  cases ev:cU kvs k with
  | none=>rw[ev]at r;exact (show False from r).elim
  | some w =>
   rw[ev]at r;exact⟨w,H3,I3.tok _,r,g1 w ev⟩
 ·have r:=yF.val k;rw[hn]at r
  cases ev:cU kvs k with
  | some w=>rw[ev]at r;exact (show False from r).elim
  | none =>
   have hl:(gQ kvs k z).length<=sizeLine:=by have:=jD kvs k z;lia
   have Mi:∃ q,h'.get? a=some q:=let ⟨q,_,_,hq,_⟩:=Ss;⟨q,hq⟩;exact⟨z,_,BB I3 (by rw[ea];exact True.intro) hs Mi (KA hl hd (yF.put k rz) Ss),rz,g2 ev⟩
end dz
namespace dz
open Spec Rows L2
end dz
namespace dz
open Spec Rows L2 jy Cu
end dz
namespace iU
open Spec Rows PySem.W L2
end iU
namespace dz
open Spec Rows L2 iU
def JO(c:Nat):V:=.str ⟨#[c]⟩
def gU(cs:List Nat):Str:=⟨cs.toArray⟩
theorem tS(x:Str):gU x.cps.toList=x:=by cases x;rfl
theorem qT(cs:List Nat):(gU cs).length=cs.length:=by show (cs.toArray).size=_;simp
theorem Ub{a b:List Nat}(h:gU a=gU b):a=b:=by
 have e:=congrArg (λx:Str=>x.cps.toList) h;simpa [gU] using e
theorem all_range:∀ bs:List Bool,(List.range bs.length).all (λi=>bs.getD i false)=bs.all id
 | []=>rfl
 | b::bs=>by
  rw[oJ,List.range_succ_eq_map,List.all_cons,List.all_map,List.all_cons,← all_range bs];rfl
section
variable {X:Cx}
theorem DK(hc:X.calm=true):pS X (.type "list") (λxs H Q=>∃ cs:List Nat,xs=[.str (gU cs)]/\cs.length<=sizeLine/\∀ l,H l=none->Q (.ref l) (aN H l (.lst (cs.map JO)))):=by
 intro ao s σ H xs us Q I r h;obtain⟨cs,rfl,hz,q⟩:=h;obtain⟨u,rfl,t,rfl⟩:=r.one;refine call_list_str (I.ok.hd hc) (gU cs) t (hn:=by show cs.toArray.size<=_;simpa using hz) λh' tk vF c' hk hS dR=>?_;refine⟨.ref s.heap.objs.size,_,I.laid (o:=.lst (cs.map JO)) (t':=tk) hk (iT _) ⟨by rw[cR];exact hz,vF.toList,c',?_,by simpa using hS⟩,rfl,q _ (I.hok.fresh (iT _))⟩
 have key:∀ (cs:List Nat) (us:List Value),us.length=cs.length->(∀ (j:Nat) (v:Value),us[j]?=some v->∃ c u,cs[j]?=some c/\v=Value.str ⟨#[c]⟩ u)->cH (cs.map JO) us:=by
  intro cs
  induction cs with
  | nil=>intro us hl _;cases us with
   | nil=>exact .nil
   | cons=>simp at hl
  | cons c cs ih=>intro us hl hp;cases us with
   | nil=>simp at hl
   | cons u us =>
    obtain⟨c',t',e1,e2⟩:=hp 0 u rfl;refine .cons ?_ (ih us (by simpa using hl) λj v e=>by simpa using hp (j+1) v (by simpa using e));have:c=c':=by simpa using e1
    subst this;exact⟨t',e2⟩
 refine key cs vF.toList (by have:=dR.1;simpa [gU] using this) λj v e=>?_;obtain⟨c,u,e1,e2⟩:=dR.2 j v (by simpa using e);exact⟨c,u,by simpa [gU] using e1,e2⟩
theorem N8(hc:X.calm=true):pS X (.builtin "all") (λxs H Q=>∃ (p:Addr) (bs:List Bool),xs=[.ref p]/\bM X.K H p (bs.map V.bl)/\Q (.bl (bs.all id)) H):=by
 intro ao s σ H xs us Q I r h;obtain⟨p,bs,rfl,hq,q⟩:=h;obtain⟨u,rfl,rx⟩:=r.one;cases (show u=Value.ref p from rx);obtain⟨aP,rv,pl,hz⟩:=I.list hq;have len:=rv.length;rw[cR]at len;have GY:=pl.isList
 have plt:p<s.heap.objs.size:=by
  obtain⟨o,ho,_⟩:=GY;exact Heap.lt_size ho
 refine call_all_walk (wpAny_pyIter_list GY ?_);refine⟨s.heap.objs.size,[s.heap.objs.size,p],[s.heap.objs.size],aP.toArray.size,_,_,λi=>bs.getD i false,rfl,Walks.list (A:=X.A.in1) (I.ok.hd hc) s.heap.objs.size p (pR plt) aP.toArray,⟨⟨_,Heap.get?_push_size _ rfl,rfl,rfl⟩,GY.at λo e=>Heap.get?_push_of_some _ e⟩,λi v s' Q' E' hP hQ=>?_,λh' tk hk=>?_⟩
 ·have hv:aP[i]?=some v:=by simpa using hP
  obtain⟨x,ex,er⟩:=AQ rv hv;rw[j5]at ex;obtain⟨b,eb,rfl⟩:=Option.map_eq_some_iff.mp ex;cases (show v=Value.bool b from er);refine wpAny_truthy_bool ?_;have e:bs.getD i false=b:=by rw[Fl,eb];rfl
  have hQ':Q' (bs.getD i false) s':=hQ;rw[e]at hQ';exact hQ'
 ·have e:(List.range aP.toArray.size).all (λi=>bs.getD i false)=bs.all id:=by
   rw[jX,← len];exact all_range bs
  rw[e];exact⟨.bl (bs.all id),H,I.kept λb o e=>hk b o (λz=>by rw[List.mem_singleton.mp z]at e;exact absurd (Heap.lt_size e) (Nat.lt_irrefl _)) (Heap.get?_push_of_some _ e),rfl,q⟩
def QK(r r' r2:R2)(ta tb tc td:TE):TE:=fun σ H Q=>ta σ H λx H1=>tb σ H1 λy H2=>r x y H2 λz H3=>∃ k,z=.bl k/\
 (if k=true then tc σ H3 λu H4=>r' y u H4 λz' H5=>∃ k',z'=.bl k'/\(if k'=true then td σ H5 λv H6=>r2 u v H6 Q else Q (.bl false) H5) else Q (.bl false) H3)
theorem N9{op Fw Xm:CmpOp}{r r' r2:R2}{a b c d:Expr}{ta tb tc td:TE}(ho:yb X (compareOp op) r)(GW:yb X (compareOp Fw) r')(ho2:yb X (compareOp Xm) r2)(ha:PE X a ta)(hb:PE X b tb)(hc:PE X c tc)(hd:PE X d td)
  (hm:lastMarks [op,Fw,Xm] [b,c,d]=false:=by with_unfolding_all rfl):PE X (.Compare a [op,Fw,Xm] [b,c,d] pos) (QK r r' r2 ta tb tc td):=by
 intro ao s σ H Q I h
 refine Compare_chain (dB (ha ao s σ H _ I h) λv s1 ⟨x,H1,I1,r1,q1⟩=>chain_link (dB (hb ao s1 σ H1 _ I1 q1) λu s2 ⟨y,H2,I2,r2',q2⟩ =>
  dB (ho ao s2 σ H2 x y v u _ I2 r1 r2' q2) λz s3 ⟨z',H3,I3,r3,k,e,q3⟩=>?_)) hm
 subst e;cases r3;refine wpAny_truthy_bool ?_
 cases k with
 | false=>exact ite_ff ⟨.bl false,H3,I3,rfl,q3⟩
 | true =>
  refine ite_tt (chain_link (dB (hc ao s3 σ H3 _ I3 q3) λv4 s4 ⟨x4,H4,I4,r4,q4⟩=>dB (GW ao s4 σ H4 y x4 u v4 _ I4 r2' r4 q4) λz5 s5 J1=>?_));obtain⟨x5,H5,I5,r5,k5,e5,q5⟩:=J1;subst e5;cases r5;refine wpAny_truthy_bool ?_
  cases k5 with
  | false=>exact ite_ff ⟨.bl false,H5,I5,rfl,q5⟩
  | true=>exact ite_tt (chain_last (dB (hd ao s5 σ H5 _ I5 q5) λv6 s6 ⟨x6,H6,I6,r6,q6⟩=>ho2 ao s6 σ H6 x4 x6 v4 v6 Q I6 r4 r6 q6))
end
def Its(cs:List Nat):It:=⟨λi _=>i<cs.length,λi H x H'=>H'=H/\∃ c,cs[i]?=some c/\x=JO c,λi _=>i=cs.length⟩
theorem Ik{P:Program}{w:World}{K:Frag}{it:Addr}{cs:List Nat}{t:Tok}{ty:String}(W:∀ A':Around,A'.handled=none->Walks P w A' it [it] [it] (gU cs).cps.size (SignAt (gU cs)) (λi h=>h.IsStrIter it ty (gU cs) t i))
  (hs:∀ (A:Around) (i:Nat) (s:Shared) (Q:Value->Shared->Prop) (E:Value->Shared->Prop),s.heap.IsStrIter it ty (gU cs) t i->Q (.ref it) s->wpAny (model P w) A (pyIter (.ref it)) Q E s)
  (hn:["enumerate","zip","dict_itemiterator","dict_reverseitemiterator","odict_iterator","itertools.zip_longest","itertools.pairwise"].contains ty=false):Hr P w K tg (Its cs) [it] it (λi h=>h.IsStrIter it ty (gU cs) t i) where
 mem:=by simp
 obj:=λi h st b hb=>by
  have e:b=it:=by simpa using hb
  subst e;obtain⟨o,e,c,d⟩:=st;exact⟨o,e,λv z=>by rw[d]at z;cases z⟩
 keep:=λi h h' st k=>by
  obtain⟨o,e,r⟩:=st;exact⟨o,k it (by simp) o e,r⟩
 item:=by
  intro X hP hw hK hc i ao s σ H E I hf st hg;subst hP hw hK;obtain⟨f0,f1,f2,f3,f4,f5⟩:=hf it (by simp)
  have hi:i<(gU cs).cps.size:=by
   show i<cs.toArray.size;rw[jX];exact hg
  refine (W X.A (I.ok.hd hc)).item i s _ _ hi st λv h' tk hv Dy kk=>?_;obtain⟨c,u,ec,rfl⟩:=hv;have I1:Inv X ao σ H { s with heap:=h',toks:=tk }:=I.turned (λb o hb e=>kk b o (by simpa using hb) e) f0 f1 f3 f4 f5;obtain⟨oi,ei,ci,di⟩:=id Dy;exact⟨_,rfl,Hs (s:={ s with heap:=h',toks:=tk }) ei ci di hn ⟨JO c,H,I1,⟨u,rfl⟩,⟨rfl,c,by simpa [gU] using ec,rfl⟩,Dy,λb hb=>(hf b hb).1⟩⟩
 done:=by
  intro X hP hw hK hc i ao s σ H E I hf st hg;subst hP hw hK;obtain⟨f0,f1,f2,f3,f4,f5⟩:=hf it (by simp)
  have e:i=(gU cs).cps.size:=by
   show i=cs.toArray.size;rw[jX];exact hg
  rw[e]at st;exact (W X.A (I.ok.hd hc)).done s _ _ st λh' tk kk=>⟨rfl,I.turned (λb o hb e=>kk b o (by simpa using hb) e) f0 f1 f3 f4 f5⟩
 self:=hs
def adB(tl:TE):TI:=fun σ H R=>tl σ H λx H1=>∃ cs,x=.str (gU cs)/\R (Its cs) H1
theorem QL{X:Cx}{tl:TE}(hl:PE X l tl):PI X tg l (adB tl):=by
 intro ao s σ H R I h;refine dB (hl ao s σ H _ I h) λv s1 J2=>?_;obtain⟨x,H1,I1,r1,q1⟩:=J2;obtain⟨cs,e,q⟩:=q1;subst e;obtain⟨t,rfl⟩:=r1
 have fp:∀ b∈[s1.heap.objs.size],uI X ao H1 b:=λb hb=>by
  have e:b=s1.heap.objs.size:=by simpa using hb
  subst e;exact I1.J5 (iT _) (I1.hok.fresh (iT _))
 cases ha:(gU cs).cps.all (·<128) with
 | true=>exact wpAny_pyIter_ascii ha ⟨s1.heap.objs.size,[s1.heap.objs.size],_,_,H1,rfl,I1.kept (t':=s1.toks) λb o e=>Heap.get?_push_of_some _ e,Ik (t:=t) (λA' hA=>Walks.strAscii hA _ _ t) (λ_ _ _ _ _ st h=>wpAny_pyIter_striter_ascii st h) (by decide),⟨_,Heap.get?_push_size _ rfl,rfl,rfl⟩,fp,q⟩
 | false=>exact wpAny_pyIter_wide ha ⟨s1.heap.objs.size,[s1.heap.objs.size],_,_,H1,rfl,I1.kept (t':=s1.toks) λb o e=>Heap.get?_push_of_some _ e,Ik (t:=t) (λA' hA=>Walks.strWide hA _ _ t) (λ_ _ _ _ _ st h=>wpAny_pyIter_striter_wide st h) (by decide),⟨_,Heap.get?_push_size _ rfl,rfl,rfl⟩,fp,q⟩
theorem EO{cs:List Nat}{g:TG}{tt:TT}{te:TE}{σ0:L2.St}{H:Hp}{Q:VK}(Pv:Nat->L2.St->Hp->Prop)(h0:Pv 0 σ0 H)
  (hs:∀ (i:Nat) c σ H,cs[i]?=some c->Pv i σ H->g (JO c) σ H fun σ2 H2=>tt σ2 H2 λb H3=>if b=true then te σ2 H3 λv H4=>∃ ys,H4 acc=some (.lst ys)/\ys.length<sizeLine/\Pv (i+1) σ2 (aN H4 acc (.lst (ys++[v]))) else Pv (i+1) σ2 H3)
  (hd:∀ σ H,Pv cs.length σ H->Q (.ref acc) H):BC (Its cs) acc g tt te σ0 H Q:=by
 refine⟨λi m σ H=>m=cs.length-i/\i<=cs.length/\Pv i σ H,⟨cs.length,by simp,qA _,h0⟩,?_⟩;rintro i m σ H ⟨rfl,hi,p⟩;by_cases uJ:i<cs.length
 ·refine .inr ⟨uJ,Pv (i+1),fun σ' H' p'=>⟨cs.length-(i+1),by lia,rfl,uJ,p'⟩,λx H' y=>?_⟩;obtain⟨e,c,y,ex⟩:=y;subst e ex;exact hs i c σ _ y p
 ·have e:i=cs.length:=by lia
  subst e;exact .inl ⟨rfl,hd σ H p⟩
end dz
namespace dz
open Spec Rows L2 iU jy
section
variable {X:Cx}
theorem FT(a b:List Nat):gU a++gU b=gU (a++b):=by
 show (⟨a.toArray++b.toArray⟩:Str)=⟨(a++b).toArray⟩;simp
end
end dz
namespace yg
end yg
namespace yg
open Spec Rows
end yg
namespace yg
open Spec Rows
end yg
namespace yg
open Spec Rows
end yg
namespace yg
open Spec Rows
end yg
namespace yg
open Spec Rows
end yg
namespace yg
open Spec Rows
end yg
namespace yg
open Spec Rows L2
end yg
namespace jN
open Spec Rows L2 dz Builtin Builtin.Str
theorem uU(cs:List Nat):(gU cs).cps.toList=cs:=by simp[gU]
def jn(c:Nat):oF->List Nat
 | []=>[]
 | [x]=>x
 | x::y::r=>x++c::jn c (y::r)
theorem QM(c:Nat):∀ ps:oF,Str.join ⟨#[c]⟩ (ps.map gU)=gU (jn c ps)
 | []=>rfl
 | [x]=>rfl
 | x::y::r=>by
  show gU x++⟨#[c]⟩++Str.join ⟨#[c]⟩ ((y::r).map gU)=_;rw[QM c (y::r)];refine ext_toList ?_;rw[uU];show ((gU x).cps++#[c]++(gU (jn c (y::r))).cps).toList=_;rw[Array.toList_append,Array.toList_append,uU,uU];simp[jn]
end jN
namespace jN
open Spec Rows L2 dz Builtin Builtin.Str
section
variable {X:Cx}
theorem ER:∀ {ys:List Str} {us:List Value},cH (ys.map V.str) us->StrsAre us ys
 | [],_,.nil=>.nil
 | _::_,_,.cons r t=>by
  obtain⟨t',rfl⟩:=r;exact .cons _ t' (ER t)
theorem Il:Zu X "str.join" (λx xs H Q=>∃ (l:Addr) (c:Nat) (ps:oF),x=.str ⟨#[c]⟩/\xs=[.ref l]/\H l=some (.lst (ps.map λw=>V.str (gU w)))/\(ps.map List.length).sum+ps.length<=1000000/\Q (.str (gU (jn c ps))) H):=by
 intro ao s σ H x xs v us Q I rx rs h;obtain⟨l,c,ps,rfl,rfl,hl,hz,q⟩:=h;obtain⟨t,rfl⟩:=rx;obtain⟨u,rfl,ru⟩:=rs.one;cases (show u=Value.ref l from ru);obtain⟨aP,rv,pl,_⟩:=I.list (bM.of (K:=X.K) hl);have rv':cH ((ps.map gU).map V.str) aP:=by rw[List.map_map];exact rv
 refine join_list pl.isList (ER rv') ?_ λt' k=>?_
 ·rw[List.map_map,cR];have e1:(⟨#[c]⟩:Str).length=1:=rfl;have e2:ps.map ((λx:Str=>x.length) ∘ gU)=ps.map List.length:=List.map_congr_left λp _=>qT p;rw[e1,e2];lia
 ·have e:Txt.join ⟨#[c]⟩ (ps.map gU)=gU (jn c ps):=by
   show glued _ _=_;rw[StrLaws.glued_eq_join,QM]
  rw[e];exact⟨.str (gU (jn c ps)),H,I.tok _,⟨t',rfl⟩,q⟩
abbrev TJV:=L2.St->Hp->Str->(Str->Hp->Prop)->Prop
def Yw(X:Cx)(es:List Expr)(m:Nat)(t:TJV):Prop:=∀ (ao:List (Addr × Obj)) (s:Shared) (σ:L2.St) (H:Hp) (GZ:Str) (Q:Str->Hp->Prop),L2.Inv X ao σ H s->t σ H GZ Q->GZ.length+m<=1000000->
 wpAny (model X.prog X.w) X.A (joinParts GZ (evalEach es X.env)) (λu s'=>∃ x tk H',u=.str x tk/\L2.Inv X ao σ H' s'/\Q x H') X.xe s
theorem Uc:Yw X [] 0 (λ_ H GZ Q=>Q GZ H):=λao s σ H GZ Q I h hl =>
 joinParts_nil ⟨GZ,_,H,rfl,I.tok _,h⟩ (kY (Nat.lt_of_le_of_lt hl (by decide)))
theorem Ud{x:Str}{j:Nat}{es:List Expr}{m:Nat}{t:TJV}(h:Yw X es m t):Yw X (.Constant (.str x) j pos::es) (x.length+m) (fun σ H GZ Q=>t σ H (GZ++x) Q):=by
 intro ao s σ H GZ Q I q hl;refine joinParts_consE (joinParts_cons (Calls.Constant_str ?_));have z:=iU.Ml (y:=x) hl (iT _);exact⟨z.1,h ao _ σ H _ Q (I.tok _) q z.2⟩
theorem My{e:Expr}{te:TE}{es:List Expr}{m:Nat}{t:TJV}(he:PE X e te)(h:Yw X es m t):Yw X (.FormattedValue e (-1) none pos::es) (1921+m) (fun σ H GZ Q=>te σ H λv H1=>∃ i:Int,v=.int i/\i.natAbs.log2<1920/\t σ H1 (GZ++Str.ofString (toString i)) Q):=by
 intro ao s σ H GZ Q I q hl;refine joinParts_consE (joinParts_cons (FormattedValue_plain (dB (he ao s σ H _ I q) λv s1 BR=>?_)));obtain⟨x,H1,I1,r1,i,e1,hi,q1⟩:=BR;subst e1;obtain⟨tk,rfl⟩:=r1;refine formatField_int_small hi ?_;have z:=iU.Ml (y:=Str.ofString (toString i)) hl (int_text_len_1921 hi);exact⟨z.1,h ao _ σ H1 _ Q (I1.tok _) q1 z.2⟩
theorem QN{yJ:List Expr}{m:Nat}{t:TJV}(h:Yw X (v1::v2::yJ) m t)(hm:m<=1000000:=by decide +kernel):PE X (.JoinedStr (v1::v2::yJ) pos) (fun σ H Q=>t σ H Str.empty λx H1=>Q (.str x) H1):=by
 intro ao s σ H Q I q;refine JoinedStr_many (dB (h ao s σ H Str.empty _ I q (by show 0+m<=_;lia)) λu s1 Ho=>?_);obtain⟨x,tk,H1,e,I1,q1⟩:=Ho;subst e;exact⟨.str x,H1,I1,⟨_,rfl⟩,q1⟩
end
end jN
namespace jN
open Spec Rows L2 dz Builtin Builtin.Str
def DL(cs:List Nat)(lo hi:Option Int):List Nat:=(cs.drop (HT.jA cs.length 0 lo)).take (HT.jA cs.length cs.length hi-HT.jA cs.length 0 lo)
theorem Im(lo hi:Option Int)(n:Nat):strSliceIndices lo hi 1 n=(List.range (HT.jA n n hi-HT.jA n 0 lo)).map (HT.jA n 0 lo+·):=by
 obtain⟨h1,h2,h3⟩:=yN lo hi n;have e:strSliceIndices lo hi 1 n=sliceRange (sliceBounds lo hi none n).1 (sliceBounds lo hi none n).2.1 1:=rfl;rw[e,h1,h2,sliceRange_one]
theorem Xy{X:Cx}:SlR X (λx lo hi H Q=>∃ cs:List Nat,x=.str (gU cs)/\cs.length<=1000000/\Q (.str (gU (DL cs lo hi))) H):=by
 intro ao s σ H x v vl vu lo hi sl Q I rx hs pl pu h;obtain⟨cs,rfl,hz,q⟩:=h;obtain⟨t,rfl⟩:=rx;refine⟨"str",_,F.slot_str_getitem.lookup,typeIs_str _ _ _,?_⟩
 obtain⟨l,rfl,el⟩:∃ l:Option (Int × Tok),vl=partValue l/\l.map (·.1)=lo:=by
  cases pl with
  | none=>exact⟨none,rfl,rfl⟩
  | int i t=>exact⟨some (i,t),rfl,rfl⟩
 obtain⟨u,rfl,eu⟩:∃ u:Option (Int × Tok),vu=partValue u/\u.map (·.1)=hi:=by
  cases pu with
  | none=>exact⟨none,rfl,rfl⟩
  | int i t=>exact⟨some (i,t),rfl,rfl⟩
 refine wpAny_getItem_str_slice (l:=l) (u:=u) (st:=none) hs rfl ?_
 have ep:slicePicked (gU cs) l u none=(List.range (HT.jA cs.length cs.length hi-HT.jA cs.length 0 lo)).map (HT.jA cs.length 0 lo+·):=by
  unfold slicePicked;rw[el,eu,qT];exact Im lo hi cs.length
 have ec:((slicePicked (gU cs) l u none).filterMap ((gU cs).cps[·]?))=DL cs lo hi:=by
  rw[ep];unfold DL;have:∀ i,(gU cs).cps[i]?=cs[i]?:=λi=>by rw[← Array.getElem?_toList,uU]
  simp only[this];have z:=pick_run cs.toArray (HT.jA cs.length 0 lo) (HT.jA cs.length cs.length hi-HT.jA cs.length 0 lo);simpa using z
 unfold sliceMade;split
 ·rename_i hc
  have e2:DL cs lo hi=cs:=by
   rw[ep]at hc;simp only[cR,List.length_range,Bool.and_eq_true,beq_iff_eq,qT]at hc;unfold DL;have:=hc.2
   have a1:HT.jA cs.length 0 lo=0:=by
    have:HT.jA cs.length cs.length hi<=cs.length:=by
     cases hi with
     | none=>exact iT _
     | some k =>
      simp only[HT.jA]
      split <;> lia
    have:HT.jA cs.length 0 lo<=cs.length:=by
     cases lo with
     | none=>exact qA _
     | some k =>
      simp only[HT.jA]
      split <;> lia
    lia
   rw[a1,List.drop_zero,xT (by lia)]
  rw[e2]at q;exact⟨.str (gU cs),H,I,⟨t,rfl⟩,q⟩
 ·refine⟨?_,?_⟩
  ·show (((slicePicked (gU cs) l u none).filterMap ((gU cs).cps[·]?)).toArray).size<=sizeLine;rw[ec,jX];unfold DL;rw[jG,sO];exact jY (show _<=1000000 by lia) (by decide)
  ·rw[ec];exact⟨.str (gU (DL cs lo hi)),H,I.tok _,⟨_,rfl⟩,q⟩
end jN
namespace jN
open Spec Rows L2 dz Builtin Builtin.Str jy
def dg(n:Int):List Nat:=(Nat.toDigits 10 n.toNat).map Char.toNat
theorem BD{n:Int}(h:0<=n):Str.ofString (toString n)=gU (dg n):=by
 refine ext_toList ?_;rw[uU];obtain⟨m,rfl⟩:∃ m:Nat,n=(m:Int):=⟨n.toNat,by lia⟩;exact PySem.W.KIN.signs_num m
theorem KN{n:Int}(h0:0<=n)(h1:n<10^60):(dg n).length<=60:=by
 have:=toString_length_le h0 (k:=60) (by decide) h1;rw[BD h0,qT]at this;exact this
end jN
namespace QO
open Spec Rows PySem.W L2 dz iU
end QO
namespace QO
open Spec Rows PySem.W L2 dz iU
end QO
namespace jN
open Spec Rows L2 dz Builtin Builtin.Str jy
end jN
namespace QO
open Spec Rows PySem.W L2 dz iU
end QO
namespace Io
open Spec Rows L2 dz iU jy
end Io
namespace Io
open Spec Rows L2 dz iU jy PySem.W
section
variable {X:Cx}
theorem ZW{e:Expr}{te:TE}(he:PE X e te):PE X (.JoinedStr [.FormattedValue e (-1) none pos] lR) (fun σ H Q=>te σ H λv H1=>(∃ i:Int,v=.int i/\i.natAbs.log2<1920/\Q (.str (Str.ofString (toString i))) H1)\/∃ cs:List Nat,v=.str (gU cs)/\cs.length<=100000/\Q (.str (gU cs)) H1):=by
 intro ao s σ H Q I q;refine JoinedStr_one (FormattedValue_plain (dB (he ao s σ H _ I q) λv s1 Ft=>?_));obtain⟨x,H1,I1,r1,h1⟩:=Ft;rcases h1 with ⟨i,rfl,hi,q1⟩|⟨cs,rfl,hc,q1⟩
 ·obtain⟨tk,rfl⟩:=r1;exact formatField_int_small hi ⟨.str _,H1,I1.tok _,⟨_,rfl⟩,q1⟩
 ·obtain⟨tk,rfl⟩:=r1;exact formatField_str (λt' k=>⟨.str _,H1,I1.tok _,⟨_,rfl⟩,q1⟩) (by rw[qT];exact jY hc (by decide))
end
end Io
namespace Io
open Spec Rows L2 dz iU jy jN Builtin Builtin.Str
end Io
namespace Io
open Spec Rows L2 dz Builtin Builtin.Str jy
end Io
namespace iU
open Spec Rows PySem.W L2
section
variable {X:Cx} {ao:List (Addr × Obj)} {σ:L2.St} {H:Hp} {s:Shared} {a:Addr}
variable {x m:Str} {st:Stmt} {ps:List Str} {f C:Addr} {fd:FuncData} {j k:Nat} {sp:Sp} {e o:Expr} {es:List Expr} {ta:TE} {t:TA} {p oO pos:Pos} {pl:Sem Bool}
variable {te:TEx} {i:Nat} {z:Str} {lR:Pos} {c:Expr} {tc:TT} {tx ty:TSx} {a b:Stmt} {hs:List Hd}
theorem yY{y:Str}(d:jy.aC X.K X.mg x st ps f fd)(hm:X.mg y=some (.ref f))(G:aF X.prog X.w X.K X.mg X.zt bI k f fd ps sp)(hr:mC j X.A)
  (ha:PA X (e::es) t) (Xd:k<=j:=by first|decide|lia) (hg:Gl X y:=by rfl) (Nz:(y == ("__debug__":Str))=false:=by decide) (he:starEach (e::es) X.env=(false,eval e X.env)::starEach es X.env:=by rfl)
  (GY:(backTo pos (starEach es X.env)).any (·.1)=false:=by rfl):PE X (.Call (.Name y p) (e::es) [] pos) (LL sp [] E0 t) :=
 LO G (hr.mono Xd) hg hm d.F.kp d.b .nil ck ha Nz he GY
end
end iU
namespace uV
open Spec Rows PySem.W L2 dz iU
end uV
namespace uV
open Spec Rows PySem.W L2 dz iU
open Builtin Builtin.ObjectAttr
end uV
namespace uV
open Spec Rows PySem.W L2 dz iU
open Builtin Builtin.ObjectAttr
end uV
namespace uV
open Spec Rows PySem.W L2 dz iU
end uV
namespace uV
open Spec Rows PySem.W L2 dz iU
open Builtin Builtin.ObjectAttr
end uV
namespace uV
open Spec Rows PySem.W L2 dz iU
end uV
namespace uV
open Spec Rows PySem.W L2 dz iU
end uV
namespace uV
open Spec Rows PySem.W L2 dz iU
end uV
namespace uV
open Spec Rows PySem.W L2 dz iU
end uV
namespace uV
open Spec Rows PySem.W L2 dz iU
end uV
namespace jy
open Spec Rows L2 dz iU Cu
theorem iW{N P:List Str}{sc:Scope}(a:sc.kind=.function:=by rfl)(b:sc.isCoroutine=false:=by rfl)(c:sc.isGenerator=false:=by rfl)(d:N.Nodup:=by decide +kernel)(e:N.take P.length=P:=by rfl)(f:∀ x∈P,sc.names.lookup x=some .local\/sc.names.lookup x=some .cell:=by decide +kernel)(g:∀ y∈sc.names,y.2≠.free:=by decide +kernel):aL N P sc:=⟨a,b,c,d,e,f,g⟩
section
variable {P:Program} {w:World} {K:Frag} {mg:Str->Option Value} {zt:Heap}
theorem iZ{x iR:Str}{st:Stmt}{f:Addr}{N ps:List Str}{k:Nat}{sp:Sp}(F:iM K x iR st f fd)(S:aL N ps (aA st))
  (Hv:∀ (dP:Value) (A:Around) (zn:List Env) (s:Shared) (H:Hp) (vs:List V) (Q:VK) (E:XK),mC k (A.deeper (envOfC iR (aA st) s.heap.objs.size f dP))->sp vs H Q E->
   ∃ t,LF (Kf bI P w K mg zt N iR (aA st) f dP A zn s H E).Nn (ni st) t/\t { nx:=λ_ H'=>Q .jj H',rt:=Q } (L2.start N vs) H) (len:∀ vs H Q E,sp vs H Q E->vs.length=ps.length:=by intro _ _ _ _ h;cases h;subst_vars;rfl):aF P w K mg zt bI (k+1) f fd ps sp:=F.ok S len Hv
end
section
variable {X:Cx}
theorem br{i:Nat}{x:Str}{e:Expr}{te:TE}{pos:Pos}(hN:X.N.Nodup)(he:PE X e te)(hi:X.N[i]?=some x:=by rfl)(hx:Loc X.env.scope x:=by first|exact Or.inl rfl|exact Or.inr rfl)(hs:swapsWith e (some (.Name x lR)) pos.line X.env=pure false:=by rfl)(hf:X.fn x=true\/X.env.scope.names.lookup x=some .local:=by first|exact .inl rfl|exact .inr rfl|assumption) :
  PS X (.Assign [.Name x lR] e pos) (Po te (xA i)):=WI hN hi hx he hs hf
theorem cy{i:Nat}{x:Str}(hN:X.N.Nodup)(hi:X.N[i]?=some x:=by rfl)(hx:Loc X.env.scope x:=by first|exact Or.inl rfl|exact Or.inr rfl)(hf:X.fn x=true\/X.env.scope.names.lookup x=some .local:=by first|exact .inl rfl|exact .inr rfl|assumption):PG X (.Name x pos) (xA i):=S0 hN hi hx hf
theorem aW{r:R2}{a b:Expr}{ta tb:TE}(hr:Zo X r)(ha:PE X a ta)(hb:PE X b tb)(hs:LY b:=by exact λ_ _=>rfl):PE X (.Subscript a b pos) (Za r ta tb):=Zp hr ha hb hs
theorem jR{i:Expr}{td ty:TE}(hu:X.A.units+1<cLine)(ho:PE X o td)(hi:PE X i ty)(hs:Xp i:=by exact λ_ _=>rfl):PE X (.Subscript o i pos) (Vu td ty):=T3 hu ho hi hs
theorem iF{e:Expr}{te:TE}{p:Pos}(hm:X.mg "len"=none)(he:PE X e te)(hg:Gl X "len":=by rfl)(Fv:starEach [e] X.env=(false,eval e X.env)::starEach [] X.env:=by rfl):PE X (.Call (.Name "len" p) [e] [] pos) (tCB (WV X.K) (PB te B3)):=cT Fz hg hm PySem.boot_len (aa he ah (hs:=Fv)) (by decide) (by decide) Fv rfl
variable {CX:PD} {j k:Nat} {f C fi:Addr} {fd:FuncData} {ps:List Str} {sp:Sp} {E:XK} {m cn q:Str} {st:Stmt} {pos oO:Pos} {e o:Expr} {es:List Expr} {ta:TE} {t:TA} {pl:Sem Bool}
theorem eT(he:PE X o ta)(c:ClsAt X.K X.mg cn C fi)(d:bQ X.K C m q st ps f fd)(F:aF X.prog X.w X.K X.mg X.zt CX k f fd ps sp)(hr:mC j X.A)(hx:tQ CX X E)(ha:PA X (e::es) t)(Xd:k<=j:=by first|decide|lia)
  (Fv:starEach (e::es) X.env=(false,eval e X.env)::starEach es X.env:=by rfl) (GY:(backTo pos (starEach es X.env)).any (·.1)=false:=by rfl)
  (ht:eval (.Call (.Attribute o m oO) (e::es) [] pos) X.env=(do
   let ov ← eval o X.env
   standAt oO.atName
   let (f,first) ← holding [ov] (getMethod ov m pl)
   callWith pos f first (backTo pos (starEach (e::es) X.env)) (backToKw pos (keywordEach [] X.env))):=by rfl) :
  PE X (.Call (.Attribute o m oO) (e::es) [] pos) (LN C m sp [] E ta t):=Tj he c.cl d.mt F (hr.mono Xd) d.b .nil hx ha Fv GY ht
theorem ju(he:PE X o ta)(c:ClsAt X.K X.mg cn C fi)(d:bQ X.K C m q st ps f fd)(F:aF X.prog X.w X.K X.mg X.zt CX k f fd ps sp)(hr:mC j X.A)(hx:tQ CX X E)(Xd:k<=j:=by first|decide|lia)
  (ht:eval (.Call (.Attribute o m oO) [] [] pos) X.env=(do
   let ov ← eval o X.env
   standAt oO.atName
   let (f,first) ← holding [ov] (getMethod ov m pl)
   callWith pos f first (backTo pos (starEach [] X.env)) (backToKw pos (keywordEach [] X.env))):=by rfl) :
  PE X (.Call (.Attribute o m oO) [] [] pos) (LN C m sp [] E ta B3):=PJ he c.cl d.mt F (hr.mono Xd) d.b .nil hx ht
end
theorem lF:0<=sizeLine:=by decide
theorem rV:1<=sizeLine:=by decide
theorem xj:2<=sizeLine:=by decide
theorem QS:3<=sizeLine:=by decide
theorem FU:4<=sizeLine:=by decide
theorem ZX:5<=sizeLine:=by decide
theorem ZY:6<=sizeLine:=by decide
theorem yh{x:V}{r:List V}:vR (x::r) 0=some x:=gy (j:=0) rfl
theorem yZ{x y:V}{r:List V}:vR (x::y::r) 1=some y:=gy (j:=1) rfl
theorem DM{x y z:V}{r:List V}:vR (x::y::z::r) 2=some z:=gy (j:=2) rfl
theorem DN{x y z u:V}{r:List V}:vR (x::y::z::u::r) 3=some u:=gy (j:=3) rfl
theorem Ue{x y z u v:V}{r:List V}:vR (x::y::z::u::v::r) 4=some v:=gy (j:=4) rfl
theorem ZZ{x y z u v w:V}{r:List V}:vR (x::y::z::u::v::w::r) 5=some w:=gy (j:=5) rfl
end jy
set_option Elab.async false
set_option linter.all false
set_option maxRecDepth 100000
namespace jy
open L2 dz iU Cu Xv
structure m7(mg:Str->Option Value):Prop where
 iz:mg "len"=none
 nP:mg "list"=none
 Mz:mg "tuple"=none
 Vy:mg "int"=none
 KO:mg "bool"=none
 Vz:mg "str"=none
 pJ:mg "range"=none
 Z0:mg "zip"=none
 dO:mg "isinstance"=none
 VA:mg "sum"=none
 Ip:mg "min"=none
 Iq:mg "max"=none
 Z1:mg "all"=none
 AR:mg "enumerate"=none
 tT:∀ f,mg "size"=some (.ref f)->mg "size_spans"=some (.ref f)
 vV:∀ f,mg "shown"=some (.ref f)->mg "shown_weave"=some (.ref f)
section
variable {P:Program} {w:World} {K:Frag} {mg:Str->Option Value} {zt:Heap}
theorem KP:aL ["_law_script"] ["_law_script"] (aA zO):=iW
theorem KQ{f:Addr}(F:iM K "_law_src" "_law_src" zO f fd)(T:m7 mg):aF P w K mg zt bI 1 f fd ["_law_script"] (Vq K):=by
 refine iZ F KP λdP A zn s H vs Q E hr h=>?_;obtain⟨a,ns,rfl,hS,k⟩:=h;refine⟨_,(au (aQ (bK (aa (iK jI rfl T.nP yI (aa (j8 qP (pv 0) qO (kZ ay)) ah)) (aa ay (aa ay (aa ay ah))))))),?_⟩;refine⟨_,rfl,_,rfl,a,_,rfl,hS,λp hp=>?_⟩;refine⟨p,_,rfl,.inl (bM.of af),λc hc=>?_⟩;refine⟨FU,λl hl=>?_⟩;obtain⟨ms,em⟩:=Qs ns none (some 63);have JP:c≠l:=az (H:=aN (aN H p _) c _) af hl;have s1:aK H (aN H p (.lst (pV (ns.map V.int) none (some 63)))):=ak hp _;have s2:=s1.trans (ak hc (.lst (pV (ns.map V.int) none (some 63))));refine k l c _ ⟨JP,ms,0,0,1,af,?_,by decide,by decide,by decide⟩ (s2.trans (ak hl _)) (s2.free hl) (s1.free hc);rw[aH JP,af,em]
theorem sY:aL ["_law_src_here","_law_base","_law_cell","_law_digit"] ["_law_src_here","_law_base"] (aA kg):=iW
theorem mU{f:Addr}(F:iM K "_law_next" "_law_next" kg f fd)(T:m7 mg):aF P w K mg zt bI 1 f fd Bb vU:=by
 refine iZ F sY λdP A zn s H vs Q E hr h=>?_;obtain⟨l,c,b,rfl,S,hb0,Ir,k⟩:=h;refine⟨_,(aj (Cg (t':=Xf) (bV (aZ jm (aW bL (pv 0) ay) ay (bw _)) (aj (br (i:=2) sY.nd ay) (aj (Cg (t':=Xg) (bV (aZ rL (aW bL (pv 0) ay) (iF T.iz (aW bL (pv 0) ay)) (bw _)) (aj (br (i:=2) sY.nd (aW bL (aW bL (pv 0) ay) (aW bL (pv 0) ay))) (au (uH (bx cZ (aW bL (pv 0) ay) ay) (xW (pv 0) ay rM)))) bu) ?b2) (aj (uH (bx BV (bx cZ (bx cZ (bx J8 (aW bL (pv 0) ay) ay) (bx BV (pv 2) ay)) ay) ay) (xW (pv 0) ay rM)) (au (bV (aZ Vg (pv 2) (bx Pr ay ay) (bw _)) (au (uH (pv 2) (xW (pv 0) ay rM))) bu))))) bu) ?b1) (aj (bV (aZ BW (aW bL (pv 0) ay) ay (bw _)) (aj (br (i:=3) sY.nd (bx BV (aW bL (pv 0) ay) (pv 1))) (aj (uH (bx HJ (aW bL (pv 0) ay) (pv 1)) (xW (pv 0) ay rM)) (au (aQ (pv 3))))) bu) (au (aQ (bx BV (bx HJ (bx BV (bx J8 (aW bL (pv 0) ay) ay) ay) ay) (pv 1)))))),?_⟩
 case b2 =>
  rintro D σ H ⟨l,c,b,rfl,⟨JP,ns,i,d,r,hl,hc,hi,yG,ou⟩,k⟩;refine⟨_,rfl,l,_,_,_,rfl,rfl,bM.of hl,Xe,_,rfl,l,_,_,_,rfl,rfl,bM.of hl,ZC,c,_,rfl,.inl (bM.of hc),_,_,rfl,rfl,_,rfl,?_⟩;refine dQ (λc2=>?_) (λc2=>?_)
  ·have c3:i<(ns.length:Int):=by
    have z:=of_decide_eq_true c2;rwa [cR]at z
   obtain⟨v,hv⟩:=TM hi c3;refine⟨_,rfl,l,_,_,_,rfl,rfl,bM.of hl,ZC,_,rfl,l,_,_,_,rfl,rfl,bM.of hl,Xe,c,_,_,_,rfl,rfl,bM.of hc,hv,?_⟩;refine⟨_,rfl,l,_,_,_,rfl,rfl,bM.of hl,Xe,_,_,rfl,rfl,_,rfl,l,_,_,1,rfl,rfl,hl,rfl,?_⟩;exact k v _ ⟨JP,ns,i+1,d,r,af,by rw[aH JP];exact hc,by lia,yG,ou⟩ λa ha=>aH ha
  ·exact k 7 H ⟨JP,ns,i,d,r,hl,hc,hi,yG,ou⟩ λa _=>rfl
 case b1 =>
  rintro D σ H ⟨l,c,b,rfl,S,k⟩;obtain⟨JP,ns,i,d,r,hl,hc,hi,yG,ou⟩:=id S;refine⟨_,rfl,l,_,_,_,rfl,rfl,bM.of hl,TL,_,_,rfl,rfl,_,rfl,?_⟩;refine dQ (λc1=>?_) (λc1=>?_)
  ·refine⟨l,c,b,rfl,S,λcell H1 S1 k1=>?_⟩;obtain⟨_,ns1,i1,d1,r1,Kr,Yx,hi1,MA,Oa⟩:=id S1;refine⟨_,rfl,l,_,_,_,rfl,rfl,bM.of Kr,ZD,_,_,rfl,rfl,.inl ⟨by lia,by lia⟩,_,rfl,_,_,rfl,rfl,(by show (0:Int)<998244353;decide),_,_,rfl,rfl,_,_,rfl,rfl,_,_,rfl,rfl,(by show (0:Int)<2147483647;decide),_,rfl,l,_,_,3,rfl,rfl,Kr,rfl,?_⟩;refine⟨_,rfl,_,_,rfl,rfl,⟨by decide,by decide,by decide⟩,_,_,rfl,rfl,_,rfl,?_⟩;have b0:0<=(r1*48271+cell % 998244353+1) % 2147483647:=Int.emod_nonneg _ (by decide);have b1:(r1*48271+cell % 998244353+1) % 2147483647<2147483647:=Int.emod_lt_of_pos _ (by decide);refine dQ (λc2=>?_) (λc2=>?_)
   ·refine⟨_,rfl,_,rfl,l,_,_,2,rfl,rfl,af,rfl,?_⟩;refine k _ _ ⟨JP,ns1,i1,cell,_,af,?_,hi1,b0,b1⟩ λa ha=>?_
    ·rw[aH JP,aH JP];exact Yx
    ·rw[aH ha,aH ha];exact k1 a ha
   ·refine k _ _ ⟨JP,ns1,i1,d1,_,af,?_,hi1,b0,b1⟩ λa ha=>?_
    ·rw[aH JP];exact Yx
    ·rw[aH ha];exact k1 a ha
  ·exact k none H S λa _=>rfl
 refine⟨l,c,b,rfl,S,λcell H1 S1 k1=>?_⟩;obtain⟨JP,ns,i,d,r,hl,hc,hi,yG,ou⟩:=S1;refine⟨_,rfl,l,_,_,_,rfl,rfl,bM.of hl,TL,_,_,rfl,rfl,_,rfl,?_⟩;refine dQ (λc1=>?_) (λc1=>?_)
 ·refine⟨_,rfl,l,_,_,_,rfl,rfl,bM.of hl,TL,_,rfl,_,_,rfl,rfl,hb0,?_⟩;refine⟨_,rfl,l,_,_,_,rfl,rfl,bM.of hl,TL,_,rfl,_,_,rfl,rfl,⟨hb0,Ir⟩,_,rfl,l,_,_,2,rfl,rfl,hl,rfl,?_⟩;refine⟨_,rfl,?_⟩;refine k (d % b) _ (Int.emod_nonneg _ (by lia)) (Int.emod_lt_of_pos _ hb0) ⟨JP,ns,i,d / b,r,af,?_,hi,yG,ou⟩ λa ha=>?_
  ·rw[aH JP];exact hc
  ·rw[aH ha];exact k1 a ha
 ·refine⟨_,rfl,l,_,_,_,rfl,rfl,bM.of hl,ZD,_,_,rfl,rfl,.inl ⟨by lia,by lia⟩,_,_,rfl,rfl,(by show (0:Int)<2147483399;decide),_,_,rfl,rfl,⟨by decide,by decide⟩,_,rfl,_,_,rfl,rfl,hb0,?_⟩;exact k _ _ (Int.emod_nonneg _ (by lia)) (Int.emod_lt_of_pos _ hb0) ⟨JP,ns,i,d,r,hl,hc,hi,yG,ou⟩ k1
theorem FW:aL ["_law_found"] ["_law_found"] (aA pW):=iW
theorem vW:aL ["_law_found","_law_due","_law_one","_law_other"] ["_law_found","_law_due"] (aA uK):=iW
theorem FY{f:Addr}(F:iM K "_law_whole" "_law_whole" pW f fd)(T:m7 mg):aF P w K mg zt bI 1 f fd ["_law_found"] Mg:=by
 refine iZ F FW λdP A zn s H vs Q E hr h=>?_;obtain⟨i,rfl,k⟩:=h;refine⟨_,(au (aQ (vO (cT fF rfl T.dO Bc (aa (pv 0) (aa (vp rfl T.Vy PyProof.Rows.boot_int) ah))) (zI (WB (cT fF rfl T.dO Bc (aa (pv 0) (aa (vp rfl T.KO PyProof.Rows.boot_bool) ah)))))))),?_⟩;exact⟨_,rfl,_,_,_,_,rfl,pU.int i,ZG K,_,rfl,j3 ⟨_,rfl,_,_,_,_,rfl,pU.int i,ZF K,_,rfl,k⟩⟩
theorem DO{f fW:Addr}{n:Nat}(T:m7 mg)(kC:aC K mg "_law_whole" pW ["_law_found"] fW MB)(Iu:aF P w K mg zt bI 1 fW MB ["_law_found"] Mg)
  (kF:aC K mg "_law_same" uK Nd f fd) (yi:aF P w K mg zt bI (n+1) f fd Nd (Ci n)):aF P w K mg zt bI (n+2) f fd Nd (Ci (n+1)):=by
 refine kF.F.ok vW (λvs H Q E h=>?_) (λdP A zn s H vs Q E hr h=>?_)
 ·obtain⟨x,y,rfl,_⟩:=h;rfl
 obtain⟨x,y,rfl,h,k⟩:=h;refine⟨_,(aj (bV (Fq (JY (pv 1))) (au (aQ (Pj (JY (pv 0))))) bu) (aj (bV (rJ (cT fF rfl T.dO Bc (aa (pv 1) (aa (vp rfl T.KO PyProof.Rows.boot_bool) ah)))) (au (aQ (vO (cT fF rfl T.dO Bc (aa (pv 0) (aa (vp rfl T.KO PyProof.Rows.boot_bool) ah))) (zI (lZ gj (pv 0) (pv 1) (bw _)))))) bu) (aj (bV (rJ (cT fF rfl T.dO Bc (aa (pv 1) (aa (vp rfl T.Vy PyProof.Rows.boot_int) ah)))) (au (aQ (vO (aG kC Iu hr (aa (pv 0) ah)) (zI (lZ gj (pv 0) (pv 1) (bw _)))))) bu) (aj (bV (rJ (cT fF rfl T.dO Bc (aa (pv 1) (aa (vp rfl T.Vz PyProof.Rows.boot_str) ah)))) (au (aQ (vO (cT fF rfl T.dO Bc (aa (pv 0) (aa (vp rfl T.Vz PyProof.Rows.boot_str) ah))) (zI (lZ gj (pv 0) (pv 1) (bw _)))))) bu) (aj (bV (PW.pt (LH (aZ Ht (cT fF rfl T.dO Bc (aa (pv 1) (aa (vp rfl T.nP yI) ah))) (cT fF rfl T.dO Bc (aa (pv 0) (aa (vp rfl T.nP yI) ah))) (bw _)) (JZ (aZ Ht (cT fF rfl T.dO Bc (aa (pv 1) (aa (vp rfl T.Mz PyProof.Rows.boot_tuple) ah))) (cT fF rfl T.dO Bc (aa (pv 0) (aa (vp rfl T.Mz PyProof.Rows.boot_tuple) ah))) (bw _))))) (au (aQ vo)) bu) (aj (bV (aZ Ht (iF T.iz (pv 0)) (iF T.iz (pv 1)) (bw _)) (au (aQ vo)) bu) (aj (eL PassesOwn.never rfl (Xc rfl T.Z0 (aa (pv 0) (aa (pv 1) ah))) (oM (n:=2) rfl (bR (cy (i:=2) vW.nd) (bR (cy (i:=3) vW.nd) iX))) (au (bV (qB (rJ (aG kF yi hr (aa (pv 2) (aa (pv 3) ah))))) (au (aQ vo)) bu))) (au (aQ vo))))))))),?_⟩;have kk:=k H (aK.refl H);rcases h with ⟨hf,rfl⟩|⟨kd,a,b,xs,ys,rfl,rfl,h1,h2,hl,hi⟩
 ·cases x with
  | jj =>
   refine⟨_,rfl,_,rfl,dQ (λ_=>?_) (λc=>absurd (decide_eq_true rfl) c)⟩;exact⟨_,rfl,tt rfl kk⟩
  | bl v =>
   refine⟨_,rfl,_,rfl,dQ (λc=>absurd (of_decide_eq_true c) (λz=>nomatch z)) (λ_=>?_)⟩;refine⟨_,rfl,_,_,_,_,rfl,pU.bl v,ZE K,_,rfl,j3 ?_⟩;exact⟨_,rfl,_,_,_,_,rfl,pU.bl v,ZE K,_,rfl,j3 ⟨_,rfl,_,rfl,rfl,tt rfl kk⟩⟩
  | int i =>
   refine⟨_,rfl,_,rfl,dQ (λc=>absurd (of_decide_eq_true c) (λz=>nomatch z)) (λ_=>?_)⟩;refine⟨_,rfl,_,_,_,_,rfl,pU.int i,ZF K,_,rfl,gH ?_⟩;refine⟨_,rfl,_,_,_,_,rfl,pU.int i,ZG K,_,rfl,j3 ?_⟩;exact⟨_,rfl,i,rfl,_,rfl,j3 ⟨_,rfl,_,rfl,rfl,tt rfl kk⟩⟩
  | str v =>
   refine⟨_,rfl,_,rfl,dQ (λc=>absurd (of_decide_eq_true c) (λz=>nomatch z)) (λ_=>?_)⟩;refine⟨_,rfl,_,_,_,_,rfl,pU.str v,acX K,_,rfl,gH ?_⟩;refine⟨_,rfl,_,_,_,_,rfl,pU.str v,acY K,_,rfl,gH ?_⟩;refine⟨_,rfl,_,_,_,_,rfl,pU.str v,ZH K,_,rfl,j3 ?_⟩;exact⟨_,rfl,_,_,_,_,rfl,pU.str v,ZH K,_,rfl,j3 ⟨_,rfl,_,rfl,rfl,tt rfl kk⟩⟩
  | _=>cases hf
 ·refine⟨_,rfl,_,rfl,dQ (λc=>absurd (of_decide_eq_true c) (λz=>nomatch z)) (λ_=>?_)⟩;refine⟨_,rfl,_,_,_,_,rfl,h2.ty,ac7 K kd,_,rfl,gH ?_⟩;refine⟨_,rfl,_,_,_,_,rfl,h2.ty,ac8 K kd,_,rfl,gH ?_⟩;refine⟨_,rfl,_,_,_,_,rfl,h2.ty,ac9 K kd,_,rfl,gH ?_⟩;refine⟨_,rfl,_,_,_,_,rfl,h2.ty,ZJ K kd,_,rfl,_,_,_,_,rfl,h1.ty,ZJ K kd,rfl,_,rfl,P8 rfl ?_⟩;refine⟨_,rfl,_,_,_,_,rfl,h2.ty,ZK K kd,_,rfl,_,_,_,_,rfl,h1.ty,ZK K kd,rfl,_,rfl,P8 rfl ?_⟩;refine⟨_,rfl,a,_,rfl,h1.or,_,rfl,b,_,rfl,h2.or,rfl,_,rfl,P8 (by rw[hl]) ?_⟩;refine⟨_,rfl,_,rfl,kd,a,b,xs,ys,rfl,h1.sq,h2.sq,TH (λi σ H2=>∃ u v,σ=[some (.ref a),some (.ref b),u,v]/\aK H H2) hl ⟨none,none,rfl,aK.refl H⟩ (by rintro i σ H2 _ ⟨_,_,_,s⟩;exact⟨(h1.same s).sq,(h2.same s).sq⟩) ?_ ?_⟩
  ·rintro i u v p σ H2 eu ev hp ⟨_,_,rfl,s⟩;refine⟨p,_,rfl,d8.of af,rfl,u,[v],rfl,v,[],rfl,rfl,?_⟩;have s2:=s.trans (ak hp (.tup [u,v]));refine⟨_,rfl,_,rfl,u,v,rfl,Eqv.same s2 (hi i u v eu ev),λH4 s4=>⟨_,rfl,gH ?_⟩⟩;exact⟨_,_,rfl,s2.trans s4⟩
  ·rintro σ H2 ⟨_,_,rfl,s⟩;exact k H2 s
theorem AS{f fW:Addr}(T:m7 mg)(kC:aC K mg "_law_whole" pW ["_law_found"] fW MB)(kF:aC K mg "_law_same" uK Nd f fd):∀ n:Nat,aF P w K mg zt bI (n+1) f fd Nd (Ci n)
 | 0=>by
  have no:∀ vs H Q E,¬ Ci 0 vs H Q E:=λvs H Q E h=>by
   obtain⟨x,y,_,h,_⟩:=h;exact h
  exact⟨λvs H Q E h=>absurd h (no vs H Q E),λA zn s H args us vs Q E _ _ _ _ h=>absurd h (no vs H Q E)⟩
 | n+1=>DO T kC (FY kC.F T) kF (AS T kC kF n)
theorem BE:aL ["row","told","start","stop"] ["row"] (aA mD):=iW
theorem Cy{f:Addr}(F:iM K "plain" "plain" mD f fd):aF P w K mg zt bI 1 f fd gY BA:=by
 refine iZ F BE λdP A zn s H vs Q E hr h=>?_;obtain⟨r,row,rfl,⟨as,ou,hp⟩,ff,k⟩:=h;refine⟨_,(aj (br (i:=1) BE.nd (bK ah)) (aj (eL PassesOwn.never rfl (cX (pv 0)) (oM (n:=2) rfl (bR (cy (i:=2) BE.nd) (bR (cy (i:=3) BE.nd) iX))) (aj (bV (aZ gj (pv 2) (pv 3) (bw _)) (au Hq) bu) (au (bV (PW.pt (rK (ng (pv 1) (λ_=>rfl)) (qN (aZ gj (aW bC (aW bL (pv 1) (pT j7 ay)) ay) (pv 2) (bw _))))) (au (uH (c9 (aa (aW bC (aW bL (pv 1) (pT j7 ay)) ay) (aa (pv 3) ah))) (xW (pv 1) (pT j7 ay) rM))) (au (aY (gx vJ qy qz cB (pv 1) (aa (c9 (aa (pv 2) (aa (pv 3) ah))) ah)))))))) (au (aQ (pv 1))))),?_⟩;refine⟨lF,λq hq=>?_⟩;have s0:aK H (aN H q (.lst [])):=ak hq _;refine⟨_,rfl,r,rfl,⟨_,bM.of (s0 _ _ ou)⟩,eN (K:=K) (a:=r) (xs:=as.map V.ref) (λi σ H2=>∃ (bs:List Addr) (u v:Option V),σ=[some (.ref r),some (.ref q),u,v]/\H2 q=some (.lst (bs.map V.ref))/\bU H2 bs ((row.take i).foldl gf [])/\aK H H2) ⟨[],none,none,rfl,af,.nil,s0⟩ (by rintro i σ H2 _ ⟨_,_,_,_,_,_,s⟩;exact bM.of (s _ _ ou)) ?_ ?_⟩
 ·rintro i x σ H2 hi ⟨bs,u,v,rfl,jz,hb,s⟩;rw[j5]at hi;obtain⟨a,ea,rfl⟩:=Option.map_eq_some_iff.mp hi;obtain⟨⟨st,en⟩,ep,ha⟩:=hp.get ea;have step:=NU (f:=gf) ep
  have bl:bs.length<sizeLine:=by
   have z:=hb.len;have z2:=HR (row.take i) [];rw[jG]at z2;exact aV (by simp only[tP]at z2;lia)
  refine⟨a,_,rfl,d8.of (s _ _ ha),rfl,_,_,rfl,_,_,rfl,rfl,?_⟩;refine⟨_,rfl,_,rfl,rfl,_,rfl,dQ (λc=>?_) (λc=>?_)⟩
  ·have e:st=en:=V.int.inj (of_decide_eq_true c);refine⟨bs,_,_,rfl,jz,?_,s⟩;rw[step,gf,if_pos e];exact hb
  ·have e:¬ st=en:=λz=>c (decide_eq_true (congrArg V.int z));rw[gf,if_neg e]at step;rcases vL ((row.take i).foldl gf []) with hn|⟨rw0,q0,hn⟩
   ·rw[hn]at hb step;have hbs:bs=[]:=List.eq_nil_of_length_eq_zero hb.len;subst hbs;refine⟨_,rfl,false,.inl ⟨_,bM.of jz,rfl⟩,gH (gH ?_)⟩;refine⟨_,rfl,.inl ⟨rfl,_,bM.of jz⟩,_,rfl,_,rfl,xj,λt ht=>⟨q,_,_,rfl,rfl,ak ht _ _ _ jz,(by show 0<sizeLine;decide),?_⟩⟩;obtain⟨g1,g2,g3⟩:=Qw (st:=st) (en:=en) hq s jz hb ht;refine⟨[]++[t],_,_,rfl,g1,?_,g3⟩;rw[step,um];exact g2
   ·rw[uc]at hn;rw[hn]at hb step;obtain⟨cs,a0,rfl,hc,FZ⟩:=hb.split;have ES:H2 q=some (.lst (cs.map V.ref++[.ref a0])):=by rw[jz,j0];rfl
    refine⟨_,rfl,true,.inl ⟨_,bM.of ES,by simp⟩,j3 ?_⟩;refine⟨_,rfl,_,rfl,q,_,_,_,rfl,rfl,bM.of ES,qf _ _,a0,_,_,_,rfl,rfl,d8.of FZ,acV,_,rfl,rfl,_,rfl,dQ (λc2=>?_) (λc2=>?_)⟩
    ·have e2:q0.2=st:=V.int.inj (of_decide_eq_true c2);refine⟨_,rfl,_,rfl,q,_,_,_,rfl,rfl,bM.of ES,qf _ _,a0,_,_,_,rfl,rfl,d8.of FZ,acU,_,rfl,xj,λt ht=>?_⟩;refine⟨_,rfl,_,rfl,q,_,_,cs.length,rfl,rfl,ak ht _ _ _ ES,Xl cs a0,?_⟩;obtain⟨g1,g2,g3⟩:=turned (st:=q0.1) (en:=en) hq s ES hc ht;refine⟨cs++[t],_,_,rfl,g1,?_,g3⟩;rw[step,uo _ e2];exact g2
    ·have e2:¬ q0.2=st:=λz=>c2 (decide_eq_true (congrArg V.int z));refine⟨_,rfl,.inl ⟨rfl,_,bM.of jz⟩,_,rfl,_,rfl,xj,λt ht=>⟨q,_,_,rfl,rfl,ak ht _ _ _ jz,(by rw[cR];exact bl),?_⟩⟩;obtain⟨g1,g2,g3⟩:=Qw (st:=st) (en:=en) hq s jz hb ht;refine⟨cs++[a0]++[t],_,_,rfl,g1,?_,g3⟩;rw[step,uq _ e2];exact g2
 ·rintro σ H2 ⟨bs,u,v,rfl,jz,hb,s⟩;refine⟨_,rfl,k q H2 ⟨bs,jz,?_⟩ s hq⟩;rw[cR,hp.len,kX]at hb;exact hb
theorem Xz:aL ["row"] ["row"] (aA sR):=iW
theorem F0{f:Addr}(F:iM K "size" "size" sR f fd)(T:m7 mg):aF P w K mg zt bI 1 f fd gY FI:=by
 refine iZ F Xz λdP A zn s H vs Q E hr h=>?_;obtain⟨r,row,rfl,⟨as,ou,hp⟩,ff,k⟩:=h;refine⟨_,(au (aQ (cT (HK rfl) rfl T.VA PyProof.Rows.boot_sum (aa (lT (N:=["start","stop"]) (ur (sc:=aA sR) (NX:=["row"]) (jx:=[none,none]) rfl rfl rfl (by decide +kernel) (by decide +kernel) rfl (by decide +kernel) rfl (by decide +kernel)) rfl (cX (pv 0)) (λ_ _ _ _ _ _=>(yV (n:=2) rfl (bR (cy (i:=0) (show List.Nodup (["start","stop"]:List Str) by decide +kernel)) (bR (cy (i:=1) (show List.Nodup (["start","stop"]:List Str) by decide +kernel)) iX)))) (λ_ _ _ _ _ _=>lC) (λ_ _ _ _ _ _=>(bx cW (pv 1) (pv 0)))) ah)))),?_⟩;refine⟨_,rfl,r,rfl,⟨_,bM.of ou⟩,λacc dR=>ku (K:=K) (a:=r) (xs:=as.map V.ref) (λi σ H2=>∃ u v:Option V,σ=[u,v]/\H2 acc=some (.lst (((row.take i).map λp=>p.2-p.1).map V.int))/\aK H H2) ⟨none,none,rfl,af,ak dR _⟩ (by rintro i σ H2 _ ⟨_,_,_,_,s⟩;exact bM.of (s _ _ ou)) ?_ ?_⟩
 ·rintro i x σ H2 hi ⟨u,v,rfl,ha,s⟩;rw[j5]at hi;obtain⟨a,ea,rfl⟩:=Option.map_eq_some_iff.mp hi;obtain⟨⟨st,en⟩,ep,hpa⟩:=hp.get ea;refine⟨a,_,rfl,d8.of (s _ _ hpa),rfl,_,_,rfl,_,_,rfl,rfl,yes (j3 ?_)⟩;refine⟨_,rfl,_,rfl,_,_,rfl,rfl,_,ha,?_,_,_,rfl,?_,bX dR s (aM acc _ _)⟩
  ·rw[cR,cR,jG];exact aV (by lia)
  ·rw[af,take_snoc ep,j0,j0];rfl
 ·rintro σ H2 ⟨u,v,rfl,ha,s⟩;rw[cR,hp.len,kX]at ha;exact⟨acc,_,rfl,bM.of ha,k H2 s⟩
inductive uv(vs:List V)(H:Hp)(Q:VK)(E:XK):Prop
 | mk (r:Addr) (row:Row) (a b:Int) (_:vs=[.ref r,.int a,.int b]) (_:cV H r row) (_:row.length<=1000000) (_:OW a b (mj row)) (_:∀ H',aK H H'->Q .jj H')
theorem Cz:aL ["row","start","stop"] ["row","start","stop"] (aA iE):=iW
theorem jS{f fS:Addr}(F:iM K "check_places" "check_places" iE f fd)(T:m7 mg)(iS:aC K mg "size" sR gY fS Sv):aF P w K mg zt bI 2 f fd pQ uv:=by
 have Iv:aF P w K mg zt bI 1 fS Sv gY FI:=F0 iS.F T;refine iZ F Cz λdP A zn s H vs Q E hr h=>?_;obtain⟨r,row,a,b,rfl,R,hl,z,k⟩:=h;refine⟨_,(au (bV (qB (NV jm jm jm ay (pv 1) (pv 2) (iU.yY iS (T.tT _ iS.m) Iv hr (aa (pv 0) ah)))) (au m9) bu)),?_⟩;refine⟨_,rfl,_,_,rfl,rfl,_,rfl,?_⟩;rw[decide_eq_true z.1];refine dQ (λ_=>?_) (λc=>absurd rfl c);refine⟨_,rfl,_,_,rfl,rfl,_,rfl,?_⟩;rw[decide_eq_true z.2.1];refine dQ (λ_=>?_) (λc=>absurd rfl c);refine⟨_,rfl,r,row,rfl,R,hl,λH1 s1=>⟨_,_,rfl,rfl,_,rfl,?_⟩⟩;rw[decide_eq_true z.2.2];exact gH (k H1 s1)
theorem qj:aL ["row","start","stop","told","ahead","first","last","low","high"] ["row","start","stop"] (aA pB):=iW
theorem zZ{f:Addr}(F:iM K "pieces" "pieces" pB f fd)(T:m7 mg):aF P w K mg zt bI 1 f fd pQ yS:=by
 refine iZ F qj λdP A zn s H vs Q E hr h=>?_;obtain⟨r,row,a,b,rfl,⟨as,ou,hp⟩,ff,k⟩:=h;refine⟨_,(aj (br (i:=3) qj.nd (bK ah)) (aj (br (i:=4) qj.nd ay) (aj (eL PassesOwn.never rfl (cX (pv 0)) (oM (n:=2) rfl (bR (cy (i:=5) qj.nd) (bR (cy (i:=6) qj.nd) iX))) (aj (br (i:=7) qj.nd (cT (wI rfl) rfl T.Iq PyProof.Rows.boot_max (aa (bx cW (pv 1) (pv 4)) (aa ay ah)))) (aj (br (i:=8) qj.nd (cT (ue rfl) rfl T.Ip PyProof.Rows.boot_min (aa (bx cW (pv 2) (pv 4)) (aa (bx cW (pv 6) (pv 5)) ah)))) (aj (bV (aZ rL (pv 7) (pv 8) (bw _)) (au (aY (gx vJ qy qz cB (pv 3) (aa (c9 (aa (bx cZ (pv 5) (pv 7)) (aa (bx cZ (pv 5) (pv 8)) ah))) ah)))) bu) (au (xX (i:=4) qj.nd rfl (Or.inl rfl) (bx cW (pv 6) (pv 5)) Pp)))))) (au (aQ (pv 3)))))),?_⟩;refine⟨lF,λq hq=>?_⟩;have s0:aK H (aN H q (.lst [])):=ak hq _;refine⟨_,rfl,r,rfl,⟨_,bM.of (s0 _ _ ou)⟩,eN (K:=K) (a:=r) (xs:=as.map V.ref) (λi σ H2=>∃ (bs:List Addr) (t:Int) (u v x y:Option V),σ=[some (.ref r),some (.int a),some (.int b),some (.ref q),some (.int t),u,v,x,y]/\t=mj (row.take i)/\H2 q=some (.lst (bs.map V.ref))/\bU H2 bs (qx a b 0 (row.take i))/\aK H H2) ⟨[],0,none,none,none,none,rfl,rfl,af,.nil,s0⟩ (by rintro i σ H2 _ ⟨_,_,_,_,_,_,_,_,_,_,s⟩;exact bM.of (s _ _ ou)) ?_ ?_⟩
 ·rintro i x σ H2 hi ⟨bs,t,u,v,x1,y1,rfl,et,jz,hb,s⟩;rw[j5]at hi;obtain⟨ad,ea,rfl⟩:=Option.map_eq_some_iff.mp hi;obtain⟨⟨st,en⟩,ep,ha⟩:=hp.get ea;have step:=HU a b (st,en) (row.take i) 0;rw[← take_snoc ep,Int.zero_add,← et]at step;have et2:t+(en-st)=mj (row.take (i+1)):=by rw[take_snoc ep,Qp,et]
  have bl:bs.length<sizeLine:=by
   have z:=hb.len;have z2:=oV a b (row.take i) 0;rw[jG]at z2;exact aV (by lia)
  have e1:(if (0:Int) > a-t then (0:Int) else a-t)=max (a-t) 0:=by split <;> lia
  have e2:(if en-st<b-t then en-st else b-t)=min (b-t) (en-st):=by split <;> lia
  refine⟨ad,_,rfl,d8.of (s _ _ ha),rfl,_,_,rfl,_,_,rfl,rfl,?_⟩;refine⟨_,rfl,_,rfl,_,_,rfl,rfl,_,_,rfl,?_⟩;refine⟨_,rfl,_,rfl,_,_,rfl,rfl,_,rfl,_,rfl,_,_,rfl,rfl,_,_,rfl,?_⟩;rw[e1,e2];refine⟨_,rfl,_,rfl,_,_,rfl,rfl,_,rfl,dQ (λc=>?_) (λc=>?_)⟩
  ·have c':max (a-t) 0<min (b-t) (en-st):=of_decide_eq_true c;unfold Qx at step;rw[if_pos c']at step;refine⟨_,rfl,.inl ⟨rfl,_,bM.of jz⟩,_,rfl,_,rfl,_,_,rfl,rfl,_,rfl,_,rfl,_,_,rfl,rfl,xj,λtu htu=>⟨q,_,_,rfl,rfl,ak htu _ _ _ jz,(by rw[cR];exact bl),?_⟩⟩;obtain⟨g1,g2,g3⟩:=Qw (st:=st+max (a-t) 0) (en:=st+min (b-t) (en-st)) hq s jz hb htu;refine⟨_,rfl,_,rfl,_,rfl,_,_,rfl,rfl,_,_,rfl,rfl,?_⟩;refine⟨bs++[tu],_,_,_,_,_,rfl,et2,g1,?_,g3⟩;rw[step];exact g2
  ·have c':¬ max (a-t) 0<min (b-t) (en-st):=λz=>c (decide_eq_true z);unfold Qx at step;rw[if_neg c',jH]at step;refine⟨_,rfl,_,rfl,_,rfl,_,_,rfl,rfl,_,_,rfl,rfl,?_⟩;refine⟨bs,_,_,_,_,_,rfl,et2,jz,?_,s⟩;rw[step];exact hb
 ·rintro σ H2 ⟨bs,t,u,v,x1,y1,rfl,et,jz,hb,s⟩;rw[cR,hp.len,kX]at hb;exact⟨_,rfl,k q H2 ⟨bs,jz,hb⟩ s hq⟩
inductive MC(vs:List V)(H:Hp)(Q:VK)(E:XK):Prop
 | mk (r:Addr) (row:Row) (a b:Int) (_:vs=[.ref r,.int a,.int b]) (_:cV H r row) (_:row.length<=1000000) (_:OW a b (mj row)) (_:∀ (q:Addr) (H':Hp),cV H' q (cJ (qx a b 0 row))->aK H H'->H q=none->Q (.ref q) H')
theorem XA:aL ["row","start","stop"] ["row","start","stop"] (aA Hy):=iW
theorem Ug{f fS:Addr}(F:iM K "part" "part" Hy f fd)(T:m7 mg)(iS:aC K mg "size" sR gY fS Sv)(cA:aC K mg "check_places" iE pQ fC fdC)
  (eE:aC K mg "plain" mD gY fP Ob) (gX:aC K mg "pieces" pB pQ fQ fdQ):aF P w K mg zt bI 3 f fd pQ MC:=by
 have gz:aF P w K mg zt bI 2 _ _ pQ uv:=jS cA.F T iS;have CA:aF P w K mg zt bI 1 _ _ gY BA:=Cy eE.F;have sZ:aF P w K mg zt bI 1 _ _ pQ yS:=zZ gX.F T;refine iZ F XA λdP A zn s H vs Q E hr h=>?_;obtain⟨r,row,a,b,rfl,R,hl,z,k⟩:=h;refine⟨_,(aj (aY (aG cA gz hr (aa (pv 0) (aa (pv 1) (aa (pv 2) ah))))) (au (aQ (aG eE CA hr (aa (aG gX sZ hr (aa (pv 0) (aa (pv 1) (aa (pv 2) ah)))) ah))))),?_⟩;refine⟨_,rfl,_,rfl,_,rfl,r,row,a,b,rfl,R,hl,z,λH1 s1=>?_⟩;refine⟨_,rfl,_,rfl,_,rfl,r,row,a,b,rfl,R.same s1,hl,λq H2 R2 s2 hq=>?_⟩;refine⟨q,_,rfl,R2,jY (oV a b row 0) hl,λq3 H3 R3 s3 ES=>?_⟩;exact k q3 H3 R3 (s1.trans (s2.trans s3)) (aX (s1.trans s2) ES)
def Bl(CB:Addr)(H:Hp)(x d t:Addr):Prop:=H x=some (.ins CB d [("stains",.ref t)])
inductive MD(CB:Addr)(vs:List V)(H:Hp)(Q:VK)(E:XK):Prop
 | mk (x d:Addr) (_:vs=[.ref x]) (_:H x=some (.ins CB d [])) (_: ∀ (t:Addr) (H':Hp),Bl CB H' x d t->cV H' t []->cN x H H'->H t=none->Q .jj H')
theorem Aa:aL ["self"] ["self"] (aA l6):=iW
theorem y9{f:Addr}(F:iM K "__init__" "Blots.__init__" l6 f fd)(cl:Ek K C)(ns:cI K C "stains"):aF P w K mg zt bI 1 f fd lY (MD C):=by
 refine iZ F Aa λdP A zn s H vs Q E hr h=>?_;obtain⟨x,d,rfl,hx,k⟩:=h;refine⟨_,(au (mz (pv 0) (bK ah) rfl)),?_⟩;refine⟨lF,λt ht=>?_⟩;have nt:t≠x:=(az hx ht).symm;refine⟨_,rfl,x,C,d,_,rfl,ak ht _ _ _ hx,cl,ns,by decide,?_⟩;exact k t _ af ⟨[],by rw[aH nt,af];rfl,.nil⟩ (λa o e n=>by rw[aH n];exact ak ht _ a o e) ht
theorem Iw:aL ["row"] ["row"] (aA rN):=iW
theorem F1{f:Addr}(F:iM K "addresses" "addresses" rN f fd)(T:m7 mg):aF P w K mg zt bI 1 f fd gY Mj:=by
 refine iZ F Iw λdP A zn s H vs Q E hr h=>?_;obtain⟨r,row,rfl,⟨as,ou,hp⟩,hok,ff,k⟩:=h;refine⟨_,(au (aQ (EK (N:=["start","stop","address"]) (ur (sc:=aA rN) (NX:=["row"]) (jx:=[none,none,none]) rfl rfl rfl (by decide +kernel) (by decide +kernel) rfl (by decide +kernel) rfl (by decide +kernel)) rfl (cX (pv 0)) (λ_ _ _ _ _ _=>(yV (n:=2) rfl (bR (cy (i:=0) (show List.Nodup (["start","stop","address"]:List Str) by decide +kernel)) (bR (cy (i:=1) (show List.Nodup (["start","stop","address"]:List Str) by decide +kernel)) iX)))) (λ_ _ _ _ _ _=>lC) (λ_ _ _ _ _ _=>(NS rfl T.pJ (aa (pv 0) (aa (pv 1) ah)))) (λ_ _ _ _ _ _=>(cy (i:=2) (show List.Nodup (["start","stop","address"]:List Str) by decide +kernel))) (λ_ _ _ _ _ _=>lC) (λ_ _ _ _ _ _=>(pv 2))))),?_⟩;refine⟨_,rfl,r,rfl,⟨_,bM.of ou⟩,λacc dR=>AO (K:=K) (a:=r) (xs:=as.map V.ref) (λi σ H2=>∃ u v z:Option V,σ=[u,v,z]/\H2 acc=some (.lst ((bN (row.take i)).map V.int))/\aK H H2) ⟨none,none,none,rfl,af,ak dR _⟩ (by rintro i σ H2 _ ⟨_,_,_,_,_,s⟩;exact bM.of (s _ _ ou)) ?_ ?_⟩
 ·rintro i x σ H2 hi ⟨u,v,z,rfl,ha,s⟩;rw[j5]at hi;obtain⟨a,ea,rfl⟩:=Option.map_eq_some_iff.mp hi;obtain⟨⟨st,en⟩,ep,hpa⟩:=hp.get ea;have b2:st<=en:=hok _ (t7 ep);have step:=Ck ep
  have lz:(bN (row.take i)).length+(en-st).toNat<=1000000:=by
   have z:=xG row (i+1);rw[step,dH,nM,iN]at z;exact jY z ff
  refine⟨a,_,rfl,d8.of (s _ _ hpa),rfl,_,_,rfl,_,_,rfl,rfl,yes (j3 ?_)⟩;refine⟨_,rfl,_,rfl,st,en,rfl,HQ (lo:=st) (k:=(en-st).toNat) (λj σ H3=>∃ z:Option V,σ=[some (.int st),some (.int en),z]/\H3 acc=some (.lst ((bN (row.take i)++run st j).map V.int))/\aK H H3) ⟨z,rfl,?_,s⟩ ?_ ?_⟩
  ·rw[run,jH];exact ha
  ·rintro j σ H3 hj ⟨z,rfl,h3,s3⟩;refine Xj ?_;refine j3 ?_;refine⟨_,rfl,_,h3,?_,_,rfl,?_,bX dR s3 (aM acc _ _)⟩
   ·rw[cR,dH,iN];exact aV (by lia)
   ·rw[af,yR,← qL];simp
  ·rintro σ H3 ⟨z,rfl,h3,s3⟩;refine⟨_,_,_,rfl,?_,s3⟩;rw[step];exact h3
 ·rintro σ H2 ⟨u,v,z,rfl,ha,s⟩;rw[cR,hp.len,kX]at ha;exact k acc H2 ha s dR
def cp:List Int->List Int->Nat
 | x::xs,y::ys=>if x=y then cp xs ys+1 else 0
 | _,_=>0
theorem QT:∀ (a b:List Int) (m:Nat),m<=cp a b->(m<cp a b↔∃ x,a[m]?=some x/\b[m]?=some x)
 | [],b,m,h=>by
  have:cp [] b=0:=by rw[cp];intro x xs y ys z;cases z
  rw[this]at h ⊢;constructor
  ·intro z;lia
  ·rintro⟨x,z,_⟩;simp at z
 | x::a,[],m,h=>by
  have:cp (x::a) []=0:=by rw[cp];intro x xs y ys _ z;cases z
  rw[this]at h ⊢;constructor
  ·intro z;lia
  ·rintro⟨x,_,z⟩;simp at z
 | x::a,y::b,m,h=>by
  rw[cp]at h ⊢;by_cases e:x=y
  ·rw[if_pos e]at h ⊢
   cases m with
   | zero=>exact⟨λ_=>⟨x,rfl,by rw[e];rfl⟩,λ_=>Nat.succ_pos _⟩
   | succ m =>
    have ih:=QT a b m (by lia);rw[List.getElem?_cons_succ,List.getElem?_cons_succ,← ih];lia
  ·rw[if_neg e]at h ⊢;have m0:m=0:=by lia
   subst m0;constructor
   ·intro z;lia
   ·rintro⟨z,z1,z2⟩;simp only[List.getElem?_cons_zero,Option.some.injEq]at z1 z2;exact absurd (z1.trans z2.symm) e
theorem KR:∀ (a b:List Int),cp a b<=a.length/\cp a b<=b.length
 | [],b=>by
  have:cp [] b=0:=by rw[cp];intro x xs y ys z;cases z
  rw[this];exact⟨Nat.zero_le _,qA _⟩
 | x::a,[]=>by
  have:cp (x::a) []=0:=by rw[cp];intro x xs y ys _ z;cases z
  rw[this];exact⟨Nat.zero_le _,qA _⟩
 | x::a,y::b=>by
  rw[cp,oJ,oJ];have:=KR a b
  split <;> lia
def Uh(xs ys:List Int)(f s:Nat):Bool:=decide (0<f)&&(decide (0<s)&&decide (xs[f-1]?=ys[s-1]?))
def AU(n:Int)(ys:List Int)(i:Nat):List Nat:=(List.range i).filter λj=>decide (ys[j]?=some n)
theorem CC(n:Int)(ys:List Int)(i:Nat):AU n ys (i+1)=AU n ys i++if ys[i]?=some n then [i] else []:=by
 unfold AU;rw[List.range_succ,List.filter_append];by_cases e:ys[i]?=some n
 ·rw[if_pos e,List.filter_cons_of_pos (p:=λj=>decide (ys[j]?=some n)) (decide_eq_true e)];rfl
 ·rw[if_neg e,List.filter_cons_of_neg (p:=λj=>decide (ys[j]?=some n)) (λz=>e (of_decide_eq_true z))];rfl
theorem BF(n:Int)(ys:List Int)(i:Nat):(AU n ys i).length<=i:=by
 have z:=List.length_filter_le (λj=>decide (ys[j]?=some n)) (List.range i);rw[List.length_range]at z;exact z
abbrev F2:=Int × Int × Int
def XC(xs ys:List Int)(f s:Nat):F2:=((f:Int),(s:Int),(cp (xs.drop f) (ys.drop s):Int))
def xm(xs ys:List Int)(f:Nat)(ss:List Nat):List F2:=(ss.filter λs=>!Uh xs ys f s).map (XC xs ys f)
def QU(xs ys:List Int)(f:Nat):List F2:=xm xs ys f (AU (xs.getD f 0) ys ys.length)
def OZ(xs ys:List Int)(i:Nat):List F2:=(List.range i).flatMap (QU xs ys)
theorem CF(xs ys:List Int)(i:Nat):OZ xs ys (i+1)=OZ xs ys i++QU xs ys i:=by
 unfold OZ;rw[List.range_succ,List.flatMap_append,List.flatMap_singleton]
theorem CG(xs ys:List Int)(f:Nat)(ss:List Nat):(xm xs ys f ss).length<=ss.length:=by
 unfold xm;rw[cR];exact List.length_filter_le _ _
theorem F3(xs ys:List Int):∀ i,(OZ xs ys i).length<=i*ys.length
 | 0=>by simp[OZ]
 | i+1=>by
  rw[CF,dH,Nat.succ_mul];have a:=F3 xs ys i;have b:=CG xs ys i (AU (xs.getD i 0) ys ys.length);have c:=BF (xs.getD i 0) ys ys.length;unfold QU;lia
def XD(H:Hp)(a:Addr)(t:F2):Prop:=H a=some (.tup [.int t.1,.int t.2.1,.int t.2.2])
abbrev jO(H:Hp):List Addr->List F2->Prop:=Paired (XD H)
theorem jO.tups{H H':Hp}{as:List Addr}{T:List F2}(h:jO H as T)(t:∀ a xs,H a=some (.tup xs)->H' a=some (.tup xs)):jO H' as T:=Paired.Hg h λa p e=>t a _ e
theorem jO.same{H H':Hp}{as:List Addr}{T:List F2}(h:jO H as T)(s:aK H H'):jO H' as T:=h.tups λa xs e=>s a _ e
theorem vX{α β:Type}{F:α->β->Prop}:∀ {xs:List α} {ys:List β} {x:α} {y:β},Paired F xs ys->F x y->Paired F (xs++[x]) (ys++[y])
 | _,_,_,_,.nil,e=>.cons e .nil
 | _,_,_,_,.cons r t,e=>.cons r (vX t e)
def KS(l:List Nat):List V:=l.map λj:Nat=>V.int j
structure VB(B:Hp)(H:Hp)(kvs:List (iy × V))(ys:List Int)(i:Nat):Prop where
 at_:∀ n,(cU kvs (Sum.inl n)=none/\AU n ys i=[])\/∃ a,cU kvs (Sum.inl n)=some (.ref a)/\H a=some (.lst (KS (AU n ys i)))/\B a=none
 inj:∀ n m a,cU kvs (Sum.inl n)=some (.ref a)->cU kvs (Sum.inl m)=some (.ref a)->n=m
 len:kvs.length<=i
inductive ME(vs:List V)(H:Hp)(Q:VK)(E:XK):Prop
 | mk (a:Addr) (ys:List Int) (_:vs=[.ref a]) (_:H a=some (.lst (ys.map V.int))) (_:ys.length<=1000) (_ :
 ∀ (d:Addr) (kvs:List (iy × V)) (H':Hp),H' d=some (.dK kvs)->VB H H' kvs ys ys.length->aK H H'->H d=none->Q (.ref d) H')
inductive MF(vs:List V)(H:Hp)(Q:VK)(E:XK):Prop
 | mk (a b:Addr) (xs ys:List Int) (f s:Nat) (_:vs=[.ref a,.ref b,.int f,.int s]) (_:H a=some (.lst (xs.map V.int))) (_:H b=some (.lst (ys.map V.int))) (_:f<xs.length) (_:s<ys.length) (_:Q (.bl (Uh xs ys f s)) H)
inductive VC(vs:List V)(H:Hp)(Q:VK)(E:XK):Prop
 | mk (a b:Addr) (xs ys:List Int) (f s:Nat) (_:vs=[.ref a,.ref b,.int f,.int s]) (_:H a=some (.lst (xs.map V.int))) (_:H b=some (.lst (ys.map V.int))) (_:f<xs.length) (_:s<ys.length) (_:Q (.int (cp (xs.drop f) (ys.drop s):Nat)) H)
inductive CH(vs:List V)(H:Hp)(Q:VK)(E:XK):Prop
 | mk (a b:Addr) (xs ys:List Int) (_:vs=[.ref a,.ref b]) (_:H a=some (.lst (xs.map V.int))) (_:H b=some (.lst (ys.map V.int))) (_:xs.length<=130) (_:ys.length<=130) (_ :
 ∀ (q:Addr) (ts:List Addr) (H':Hp),H' q=some (.lst (ts.map V.ref))->jO H' ts (OZ xs ys xs.length)->aK H H'->H q=none->Q (.ref q) H')
theorem BG:aL ["numbers","told","place","number"] ["numbers"] (aA Cc):=iW
theorem F4:aL ["ones","others","first","second"] ["ones","others","first","second"] (aA pX):=iW
theorem qU:aL ["ones","others","first","second","many","most"] ["ones","others","first","second"] (aA pY):=iW
theorem oW:aL ["ones","others","told","seconds","first","number","second"] ["ones","others"] (aA wJ):=iW
theorem tU{xs:List Int}{i:Nat}(h:i<xs.length):vR (xs.map V.int) (i:Int)=some (.int xs[i]):=gy (by rw[j5,tO h];rfl)
theorem DP{f:Addr}(F:iM K "goes_ahead" "goes_ahead" pX f fd):aF P w K mg zt bI 1 f fd G5 MF:=by
 refine iZ F F4 λdP A zn s H vs Q E hr h=>?_;obtain⟨a,b,xs,ys,i,j,rfl,ha,hb,hi,hj,k⟩:=h;refine⟨_,(au (aQ (vO (lZ BW (pv 2) ay (bw _)) (vO (lZ BW (pv 3) ay (bw _)) (zI (lZ gj (aW bL (pv 0) (bx cW (pv 2) ay)) (aW bL (pv 1) (bx cW (pv 3) ay)) (bw _))))))),?_⟩;unfold Uh at k;have e1:decide ((0:Int)<i)=decide (0<i):=by rw[Bool.eq_iff_iff];simp
 have e2:decide ((0:Int)<j)=decide (0<j):=by rw[Bool.eq_iff_iff];simp
 refine⟨_,rfl,_,_,rfl,rfl,_,rfl,?_⟩;rw[e1];by_cases c1:0<i
 ·rw[decide_eq_true c1,Bool.true_and]at k;rw[decide_eq_true c1];refine j3 ⟨_,rfl,_,_,rfl,rfl,_,rfl,?_⟩;rw[e2];by_cases c2:0<j
  ·rw[decide_eq_true c2,Bool.true_and]at k;rw[decide_eq_true c2];have z1:((i:Int)-1)=((i-1:Nat):Int):=by lia
   have z2:((j:Int)-1)=((j-1:Nat):Int):=by lia
   refine j3 ⟨_,rfl,_,rfl,_,_,rfl,rfl,a,_,_,_,rfl,rfl,bM.of ha,(by rw[z1];exact tU (by lia)),_,rfl,_,rfl,_,_,rfl,rfl,b,_,_,_,rfl,rfl,bM.of hb,(by rw[z2];exact tU (by lia)),rfl,?_⟩;rw[tO (show i-1<xs.length by lia),tO (show j-1<ys.length by lia)]at k;have e3:decide (V.int (xs[i-1]'(by lia))=V.int (ys[j-1]'(by lia)))=decide (some (xs[i-1]'(by lia))=some (ys[j-1]'(by lia))):=by rw[Bool.eq_iff_iff];simp
   rw[← e3]at k;exact k
  ·rw[decide_eq_false c2,Bool.false_and]at k;rw[decide_eq_false c2];exact gH k
 ·rw[decide_eq_false c1,Bool.false_and]at k;rw[decide_eq_false c1];exact gH k
theorem DQ{f:Addr}(F:iM K "run_length" "run_length" pY f fd)(T:m7 mg):aF P w K mg zt bI 1 f fd G5 VC:=by
 refine iZ F qU λdP A zn s H vs Q E hr h=>?_;obtain⟨a,b,xs,ys,i,j,rfl,ha,hb,hi,hj,k⟩:=h;refine⟨_,(aj (br (i:=4) qU.nd ay) (aj (br (i:=5) qU.nd (cT (ue rfl) rfl T.Ip PyProof.Rows.boot_min (aa (bx cW (iF T.iz (pv 0)) (pv 2)) (aa (bx cW (iF T.iz (pv 1)) (pv 3)) ah)))) (aj (vQ PassesOwn.never (PW.pt (rK (aZ rL (pv 4) (pv 5) (bw _)) (qN (aZ gj (aW bL (pv 0) (bx cZ (pv 2) (pv 4))) (aW bL (pv 1) (bx cZ (pv 3) (pv 4))) (bw _))))) (au (xX (i:=4) qU.nd rfl (Or.inl rfl) ay Pp))) (au (aQ (pv 4)))))),?_⟩;obtain⟨M,hM⟩:∃ M:Int,M=if ((ys.map V.int).length:Int)-(j:Int)<((xs.map V.int).length:Int)-(i:Int) then ((ys.map V.int).length:Int)-(j:Int) else ((xs.map V.int).length:Int)-(i:Int):=⟨_,rfl⟩;refine⟨_,rfl,a,_,rfl,.inl (bM.of ha),_,rfl,_,_,rfl,rfl,_,rfl,b,_,rfl,.inl (bM.of hb),_,rfl,_,_,rfl,rfl,_,_,rfl,?_⟩;rw[← hM];rw[cR,cR]at hM;obtain⟨c,hc⟩:∃ c,c=cp (xs.drop i) (ys.drop j):=⟨_,rfl⟩;rw[← hc]at k;have cl:=KR (xs.drop i) (ys.drop j);rw[← hc,sO,sO]at cl;have dx:∀ n,(xs.drop i)[n]?=xs[i+n]?:=λn=>by rw[List.getElem?_drop]
 have dy:∀ n,(ys.drop j)[n]?=ys[j+n]?:=λn=>by rw[List.getElem?_drop]
 have ML:∀ n:Nat,(n:Int)<M↔i+n<xs.length/\j+n<ys.length:=λn=>by
  rw[hM]
  split <;> lia
 clear hM;refine⟨λm σ H2=>∃ n:Nat,σ=[some (.ref a),some (.ref b),some (.int i),some (.int j),some (.int n),some (.int M)]/\H2=H/\n<=c/\m=c-n,⟨_,0,rfl,rfl,qA _,rfl⟩,?_⟩;rintro m σ H2 ⟨n,rfl,rfl,nc,rfl⟩;have key:=QT (xs.drop i) (ys.drop j) n (by rw[← hc];exact nc);rw[← hc,dx,dy]at key;refine⟨_,rfl,_,rfl,_,_,rfl,rfl,_,rfl,?_⟩;have e1:(i:Int)+n=((i+n:Nat):Int):=by lia
 have e2:(j:Int)+n=((j+n:Nat):Int):=by lia
 refine Mu (p:=(n:Int)<M) (q:=xs.getD (i+n) 0=ys.getD (j+n) 0) (λpi z=>?_) (λcc=>?_) (λcc=>?_)
 ·obtain⟨l1,l2⟩:=(ML n).mp pi;rw[Fl,Fl,tO l1,tO l2]at z;have e3:decide (V.int xs[i+n]=V.int ys[j+n])=decide ((some xs[i+n]).getD 0=(some ys[j+n]).getD 0):=by rw[Bool.eq_iff_iff];simp
  refine⟨_,rfl,_,rfl,_,rfl,_,_,rfl,rfl,a,_,_,_,rfl,rfl,bM.of ha,(by rw[e1];exact tU l1),_,rfl,_,rfl,_,rfl,_,_,rfl,rfl,b,_,_,_,rfl,rfl,bM.of hb,(by rw[e2];exact tU l2),rfl,_,rfl,?_⟩;rw[e3];exact z
 ·obtain⟨l1,l2⟩:=(ML n).mp cc.1;have z:=cc.2;rw[Fl,Fl,tO l1,tO l2]at z;have lt:n<c:=key.mpr ⟨xs[i+n],tO l1,by rw[tO l2];exact congrArg some z.symm⟩;refine⟨fun σ' H'=>∃ m',m'<c-n/\∃ n:Nat,σ'=[some (.ref a),some (.ref b),some (.int i),some (.int j),some (.int n),some (.int M)]/\H'=H2/\n<=c/\m'=c-n,fun σ' H' z=>z,?_⟩;exact⟨_,rfl,_,_,rfl,rfl,c-(n+1),by lia,n+1,rfl,rfl,by lia,rfl⟩
 ·have e:n=c:=by
   refine Nat.le_antisymm nc (Nat.not_lt.mp λlt=>cc ?_);obtain⟨x,x1,x2⟩:=key.mp lt;refine⟨(ML n).mpr ⟨(List.getElem?_eq_some_iff.mp x1).1,(List.getElem?_eq_some_iff.mp x2).1⟩,?_⟩;rw[Fl,Fl,x1,x2]
  subst e;exact⟨_,rfl,k⟩
theorem QV{f:Addr}(F:iM K "spots" "spots" Cc f fd)(T:m7 mg):aF P w K mg zt bI 1 f fd ["numbers"] ME:=by
 refine iZ F BG λdP A zn s H vs Q E hr h=>?_;obtain⟨a,ys,rfl,ha,hl,k⟩:=h;refine⟨_,(aj (br (i:=1) BG.nd qh) (aj (eL PassesOwn.never rfl (Mx rfl T.AR (aa (pv 0) ah)) (oM (n:=2) rfl (bR (cy (i:=2) BG.nd) (bR (cy (i:=3) BG.nd) iX))) (au (aY (gx vJ qy qz cB (Ij (pv 1) (pv 3) (bK ah) ⟨rfl,rfl,rfl,rfl⟩) (aa (pv 2) ah))))) (au (aQ (pv 1))))),?_⟩;intro d hd;have s0:aK H (aN H d (.dK [])):=ak hd _;refine⟨_,rfl,a,_,rfl,bM.of (s0 _ _ ha),Ii (K:=K) (a:=a) (xs:=ys.map V.int) (λi σ H2=>∃ (kvs:List (iy × V)) (u2 u3:Option V),σ=[some (.ref a),some (.ref d),u2,u3]/\H2 d=some (.dK kvs)/\VB H H2 kvs ys i/\aK H H2) ⟨[],none,none,rfl,af,⟨λn=>.inl ⟨rfl,rfl⟩,(λn m b e=>by cases e),iT _⟩,s0⟩ (by rintro i σ H2 _ ⟨_,_,_,_,_,_,s2⟩;exact bM.of (s2 _ _ ha)) ?_ ?_⟩
 ·rintro i x p σ H2 hi hp ⟨kvs,u2,u3,rfl,hd2,sp,s2⟩;rw[j5]at hi;obtain⟨y,ey,rfl⟩:=Option.map_eq_some_iff.mp hi;have il:i<ys.length:=(List.getElem?_eq_some_iff.mp ey).1;have s3:aK H2 (aN H2 p (.tup [.int i,.int y])):=ak hp _;refine⟨p,_,rfl,d8.of af,rfl,_,_,rfl,_,_,rfl,rfl,?_⟩;generalize aN H2 p (.tup [.int i,.int y])=H3 at s3;have hd3:=s3 _ _ hd2;refine⟨_,rfl,d,rfl,.inl ⟨_,.inl hd3⟩,_,rfl,lF,λz hz=>⟨kvs,Sum.inl y,ak hz _ _ _ hd3,rfl,aV (by have:=sp.len;lia),λv hv=>?_,λhn=>?_⟩⟩
  all_goals
   have s4:aK H3 (aN H3 z (.lst [])):=ak hz _;have hz4:(aN H3 z (.lst [])) z=some (.lst []):=af;generalize aN H3 z (.lst [])=H4 at s4 hz4;have Iz:=s3.trans s4;have XE:=s4 _ _ hd3
   have other:∀ n,n≠y->AU n ys (i+1)=AU n ys i:=λn hn=>by
    rw[CC,ey,if_neg (λz=>hn (uG z).symm),jH]
   have VD:AU y ys (i+1)=AU y ys i++[i]:=by rw[CC,if_pos ey]
  ·rcases sp.at_ y with ⟨e,_⟩|⟨b,e,hb,fb⟩
   ·rw[e]at hv;cases hv
   ·rw[e]at hv;cases hv;have Sw:=Iz _ _ hb;have bd:b≠d:=dF Sw XE;have pl:=BF y ys i;refine⟨.inl ⟨rfl,_,bM.of Sw⟩,_,rfl,b,_,_,rfl,rfl,Sw,(by unfold KS;rw[cR];exact aV (by lia)),?_⟩;refine⟨kvs,_,_,rfl,by rw[aH bd.symm];exact XE,⟨λn=>?_,sp.inj,Nat.le_succ_of_le sp.len⟩,bX fb (s2.trans Iz) (aM b _ _)⟩;by_cases c:n=y
    ·subst c;refine .inr ⟨b,e,?_,fb⟩;rw[af,VD];unfold KS;rw[j0];rfl
    ·rw[other n c];rcases sp.at_ n with z|⟨b2,e2,G1,fb2⟩
     ·exact .inl z
     ·refine .inr ⟨b2,e2,?_,fb2⟩;rw[aH (λz=>c (sp.inj n y b (by rw[← z];exact e2) e))];exact Iz _ _ G1
  ·have pe:AU y ys i=[]:=by
    rcases sp.at_ y with ⟨_,e⟩|⟨b,e,_⟩
    ·exact e
    ·rw[e]at hn;cases hn
   have zd:z≠d:=dF hz4 XE;have Ui:(aN H4 d (.dK (gQ kvs (Sum.inl y) (.ref z)))) z=some (.lst []):=by rw[aH zd];exact hz4
   have fz:H z=none:=aX (s2.trans s3) hz;refine⟨.inl ⟨rfl,_,bM.of Ui⟩,_,rfl,z,_,_,rfl,rfl,Ui,(by decide),?_⟩;refine⟨gQ kvs (Sum.inl y) (.ref z),_,_,rfl,by rw[aH zd.symm,af],⟨λn=>?_,λn m b e1 e2=>?_,?_⟩,?_⟩
   ·by_cases c:n=y
    ·subst c;refine .inr ⟨z,by rw[kq,if_pos rfl],?_,fz⟩;rw[af,VD,pe];rfl
    ·rw[other n c,kq,if_neg (λz=>c (Sum.inl.inj z))];rcases sp.at_ n with q|⟨b2,e2,G1,fb2⟩
     ·exact .inl q
     ·refine .inr ⟨b2,e2,?_,fb2⟩;have Sw:=Iz _ _ G1;rw[aH (λq=>by rw[q]at G1;have:=s3 _ _ G1;rw[hz]at this;cases this),aH (dF Sw XE)];exact Sw
   ·have old:∀ n b,cU kvs (Sum.inl n)=some (.ref b)->b≠z:=λn b e q=>by
     rcases sp.at_ n with ⟨e',_⟩|⟨b2,e2,G1,_⟩
     ·rw[e']at e;cases e
     ·rw[e2]at e;cases e;rw[q]at G1;have:=s3 _ _ G1;rw[hz]at this;cases this
    rw[kq]at e1 e2;by_cases c1:n=y
    ·by_cases c2:m=y
     ·rw[c1,c2]
     ·rw[if_pos (by rw[c1])]at e1;rw[if_neg (λz=>c2 (Sum.inl.inj z))]at e2;cases e1;exact absurd rfl (old m _ e2)
    ·rw[if_neg (λz=>c1 (Sum.inl.inj z))]at e1;by_cases c2:m=y
     ·rw[if_pos (by rw[c2])]at e2;cases e2;exact absurd rfl (old n _ e1)
     ·rw[if_neg (λz=>c2 (Sum.inl.inj z))]at e2;exact sp.inj n m b e1 e2
   ·have:=jD kvs (Sum.inl y) (V.ref z);have:=sp.len;lia
   ·exact bX fz (bX hd (s2.trans Iz) (aM d _ _)) (aM z _ _)
 ·rintro σ H2 ⟨kvs,u2,u3,rfl,hd2,sp,s2⟩;rw[cR]at sp;exact⟨_,rfl,k d kvs H2 hd2 sp s2 hd⟩
theorem IA{f fS:Addr}(F:iM K "greatest" "greatest" wJ f fd)(T:m7 mg)(Ab:aC K mg "spots" Cc ["numbers"] fS gS)(mW:aC K mg "goes_ahead" pX G5 fA gA)(mX:aC K mg "run_length" pY G5 fR gR):aF P w K mg zt bI 2 f fd ["ones","others"] CH:=by
 have XF:aF P w K mg zt bI 1 fS gS ["numbers"] ME:=QV Ab.F T;have IB:aF P w K mg zt bI 1 fA gA G5 MF:=DP mW.F;have IC:aF P w K mg zt bI 1 fR gR G5 VC:=DQ mX.F T;refine iZ F oW λdP A zn s H vs Q E hr h=>?_;obtain⟨a,b,xs,ys,rfl,ha,hb,la,lb,k⟩:=h;have hu:=lO hr;refine⟨_,(aj (br (i:=2) oW.nd (bK ah)) (aj (br (i:=3) oW.nd (aG Ab XF hr (aa (pv 1) ah))) (aj (eL PassesOwn.never rfl (Mx rfl T.AR (aa (pv 0) ah)) (oM (n:=2) rfl (bR (cy (i:=4) oW.nd) (bR (cy (i:=5) oW.nd) iX))) (au (eL PassesOwn.never rfl (cX (QC hu (pv 3) (pv 5) (bK ah) ⟨rfl,rfl,rfl,rfl⟩)) (cy (i:=6) oW.nd) (au (bV (qB (rJ (aG mW IB hr (aa (pv 0) (aa (pv 1) (aa (pv 4) (aa (pv 6) ah))))))) (au (aY (gx vJ qy qz cB (pv 2) (aa (c9 (aa (pv 4) (aa (pv 6) (aa (aG mX IC hr (aa (pv 0) (aa (pv 1) (aa (pv 4) (aa (pv 6) ah))))) ah)))) ah)))) bu))))) (au (aQ (pv 2)))))),?_⟩;refine⟨lF,λq hq=>?_⟩;have s0:aK H (aN H q (.lst [])):=ak hq _;have OV:(aN H q (.lst [])) q=some (.lst []):=af;generalize aN H q (.lst [])=H1 at s0 OV;refine⟨_,rfl,b,ys,rfl,s0 _ _ hb,by lia,λd kvs H2 hd sp s2 fd=>?_⟩;have ha2:=s2 _ _ (s0 _ _ ha);have G1:=s2 _ _ (s0 _ _ hb);have jz:=s2 _ _ OV;have aq:a≠q:=(az ha hq);have bq:b≠q:=(az hb hq);have dq:d≠q:=dF hd jz;refine⟨_,rfl,a,_,rfl,bM.of ha2,Ii (K:=K) (a:=a) (xs:=xs.map V.int) (λi σ H3=>∃ (ts:List Addr) (u4 u5 u6:Option V),σ=[some (.ref a),some (.ref b),some (.ref q),some (.ref d),u4,u5,u6]/\H3 q=some (.lst (ts.map V.ref))/\jO H3 ts (OZ xs ys i)/\cN q H2 H3) ⟨[],none,none,none,rfl,jz,.nil,cN.refl _ _⟩ (by rintro i σ H3 _ ⟨_,_,_,_,_,_,_,k3⟩;exact bM.of (k3 _ _ ha2 aq)) ?_ ?_⟩
 ·rintro i x p σ H3 hi hp ⟨ts,u4,u5,u6,rfl,ES,tr,k3⟩;rw[j5]at hi;obtain⟨n,en,rfl⟩:=Option.map_eq_some_iff.mp hi;obtain⟨il,eil⟩:=List.getElem?_eq_some_iff.mp en;have gn:xs.getD i 0=n:=by rw[Fl,en];rfl
  have s4:aK H3 (aN H3 p (.tup [.int i,.int n])):=ak hp _;refine⟨p,_,rfl,d8.of af,rfl,_,_,rfl,_,_,rfl,rfl,?_⟩;generalize aN H3 p (.tup [.int i,.int n])=H4 at s4;have XE:=s4 _ _ (k3 _ _ hd dq);refine⟨_,rfl,d,rfl,.inl ⟨_,.inl XE⟩,_,rfl,lF,λz hz=>⟨_,lD.k (k:=Sum.inl n) (ak hz _ _ _ XE),?_⟩⟩;have s5:aK H4 (aN H4 z (.lst [])):=ak hz _;have Ui:(aN H4 z (.lst [])) z=some (.lst []):=af;generalize aN H4 z (.lst [])=H5 at s5 Ui;have Yy:=s4.trans s5;have XG:=Yy _ _ ES
  obtain⟨v,ev,hv,vq⟩:∃ v,(cU kvs (Sum.inl n)).getD (.ref z)=.ref v/\H5 v=some (.lst (KS (AU n ys ys.length)))/\v≠q:=by
   rcases sp.at_ n with ⟨e1,e2⟩|⟨v,e1,e2,e3⟩
   ·exact⟨z,by rw[e1];rfl,by rw[e2];exact Ui,λq'=>by rw[q']at hz;rw[s4 _ _ ES]at hz;cases hz⟩
   ·have vq:v≠q:=λq'=>by rw[q',OV]at e3;cases e3
    exact⟨v,by rw[e1];rfl,Yy _ _ (k3 _ _ e2 vq),vq⟩
  rw[ev];have ha5:=Yy _ _ (k3 _ _ ha2 aq);have hb5:=Yy _ _ (k3 _ _ G1 bq);refine⟨v,rfl,⟨_,bM.of hv⟩,eN (K:=K) (a:=v) (xs:=KS (AU n ys ys.length)) (λj σ H6=>∃ (ts:List Addr) (u6:Option V),σ=[some (.ref a),some (.ref b),some (.ref q),some (.ref d),some (.int i),some (.int n),u6]/\H6 q=some (.lst (ts.map V.ref))/\jO H6 ts (OZ xs ys i++xm xs ys i ((AU n ys ys.length).take j))/\cN q H5 H6) ⟨ts,u6,rfl,XG,by simpa [xm] using tr.same Yy,cN.refl _ _⟩ (λj σ H6 _ ⟨_,_,_,_,_,k6⟩=>bM.of (k6 _ _ hv vq)) ?_ ?_⟩
  ·rintro j x σ H6 hj ⟨ts,u6,rfl,Uj,XH,k6⟩;unfold KS at hj;rw[j5]at hj;obtain⟨s,es,rfl⟩:=Option.map_eq_some_iff.mp hj;obtain⟨sr,sn⟩:=List.mem_filter.mp (t7 es);have sl:=List.mem_range.mp sr;have st:=take_snoc es;have ha6:=k6 _ _ ha5 aq;have hb6:=k6 _ _ hb5 bq;refine⟨_,rfl,_,rfl,_,rfl,_,rfl,a,b,xs,ys,i,s,rfl,ha6,hb6,il,sl,_,rfl,?_⟩
   cases e:Uh xs ys i s with
   | true =>
    refine gH ⟨ts,_,rfl,Uj,?_,k6⟩
    have z:xm xs ys i ((AU n ys ys.length).take (j+1))=xm xs ys i ((AU n ys ys.length).take j):=by
     unfold xm;rw[st,List.filter_append,List.filter_cons_of_neg (p:=λs=>!Uh xs ys i s) (by rw[e];exact jQ),List.filter_nil,jH]
    rw[z];exact XH
   | false =>
    have z:xm xs ys i ((AU n ys ys.length).take (j+1))=xm xs ys i ((AU n ys ys.length).take j)++[XC xs ys i s]:=by
     unfold xm;rw[st,List.filter_append,List.filter_cons_of_pos (p:=λs=>!Uh xs ys i s) (by rw[e];rfl),j0];rfl
    have len:ts.length<=20000:=by
     have l1:=Paired.length XH;have l2:=F3 xs ys i;have l3:=CG xs ys i ((AU n ys ys.length).take j);have l4:=BF n ys ys.length;rw[jG]at l3;rw[dH]at l1;have l5:=Nat.mul_le_mul (show i<=130 by lia) lb;lia
    refine j3 ⟨_,rfl,.inl ⟨rfl,_,bM.of Uj⟩,_,rfl,_,rfl,_,rfl,_,rfl,_,rfl,_,rfl,a,b,xs,ys,i,s,rfl,ha6,hb6,il,sl,QS,λt ht=>⟨q,_,_,rfl,rfl,ak ht _ _ _ Uj,(by rw[cR];exact aV (by lia)),?_⟩⟩;have k7:cN q H6 (aN (aN H6 t (.tup [.int i,.int s,.int (cp (xs.drop i) (ys.drop s):Nat)])) q (.lst (ts.map V.ref++[.ref t]))):=λb o e n=>aM q _ _ b o (ak ht _ b o e) n;have tq:t≠q:=(az Uj ht).symm;refine⟨ts++[t],_,rfl,by rw[af,j0];rfl,?_,λb o e n=>k7 b o (k6 b o e n) n⟩;rw[z,← qL];refine vX (XH.tups λb zs e=>k7 b _ e (dF e Uj)) ?_;show aN _ q _ t=_;rw[aH tq,af];rfl
  ·rintro σ H6 ⟨ts,u6,rfl,Uj,XH,k6⟩;unfold KS at XH;rw[cR,kX]at XH;refine⟨ts,_,_,_,rfl,Uj,?_,λb o e n=>k6 _ _ (Yy _ _ (k3 b o e n)) n⟩;rw[CF,QU,gn];exact XH
 ·rintro σ H3 ⟨ts,u4,u5,u6,rfl,ES,tr,k3⟩;rw[cR]at tr;exact⟨_,rfl,k q ts H3 ES tr (bX hq (s0.trans s2) k3) hq⟩
theorem Oc(aP:List aU):(iB aP).length<=aP.length:=List.length_filterMap_le _ aP
inductive KU(vs:List V)(H:Hp)(Q:VK)(E:XK):Prop
 | mk (r:Addr) (aP:List aU) (_:vs=[.ref r]) (_:bY H (.ref r) aP) (_:aP.length<=100000) (_ :
 ∀ (o:Addr) (H':Hp),H' o=some (.lst ((iB aP).map V.int))->aK H H'->H o=none->Q (.ref o) H')
theorem Od:aL ["items"] ["items"] (aA fX):=iW
theorem CJ{f:Addr}(F:iM K "windows" "windows" fX f fd)(T:m7 mg):aF P w K mg zt bI 1 f fd oG KU:=by
 refine iZ F Od λdP A zn s H vs Q E hr h=>?_;obtain⟨r,aP,rfl,⟨a,vs,e,ou,hp⟩,ff,k⟩:=h;cases e;refine⟨_,(au (aQ (lT (N:=["item"]) (ur (sc:=aA fX) (NX:=["items"]) (jx:=[none]) rfl rfl rfl (by decide +kernel) (by decide +kernel) rfl (by decide +kernel) rfl (by decide +kernel)) rfl (cX (pv 0)) (λ_ _ _ _ _ _=>(cy (i:=0) (show List.Nodup (["item"]:List Str) by decide +kernel))) (λ_ _ _ _ _ _=>Mh (aZ gj (aW Mq (pv 0) ay) bJ (bw _))) (λ_ _ _ _ _ _=>(aW Mq (pv 0) ay))))),?_⟩;refine⟨_,rfl,r,rfl,⟨_,bM.of ou⟩,λacc dR=>ku (K:=K) (a:=r) (xs:=vs) (λi σ H2=>∃ u:Option V,σ=[u]/\H2 acc=some (.lst ((iB (aP.take i)).map V.int))/\aK H H2) ⟨none,rfl,af,ak dR _⟩ (by rintro i σ H2 _ ⟨_,_,_,s⟩;exact bM.of (s _ _ ou)) ?_ ?_⟩
 ·rintro i x σ H2 hi ⟨u,rfl,ha,s⟩;obtain⟨it,ei,b,rfl,hb⟩:=hp.get hi;have step:iB (aP.take (i+1))=iB (aP.take i)++iB [it]:=by rw[take_snoc ei,jf]
  have bl:(iB (aP.take i)).length<=100000:=by
   have z:=Oc (aP.take i);rw[jG]at z;lia
  cases it with
  | win n =>
   refine⟨_,rfl,b,_,_,_,rfl,rfl,d8.of (s _ _ hb),rfl,rfl,_,rfl,dQ (λ_=>?_) (λz=>absurd (by decide) z)⟩;refine⟨_,rfl,b,_,_,_,rfl,rfl,d8.of (s _ _ hb),rfl,_,ha,(by rw[cR];exact aV (by lia)),_,rfl,?_,bX dR s (aM acc _ _)⟩;rw[af,step,j0];rfl
  | aS p q =>
   refine⟨_,rfl,b,_,_,_,rfl,rfl,d8.of (s _ _ hb),rfl,rfl,_,rfl,dQ (λz=>absurd z (by decide)) (λ_=>?_)⟩;refine⟨_,rfl,?_,s⟩;rw[ha,step];show _=some (HO.lst ((iB (aP.take i)++[]).map V.int));rw[jH]
 ·rintro σ H2 ⟨u,rfl,ha,s⟩;rw[hp.len,kX]at ha;exact k acc H2 ha s dR
structure Oe(rows:dI)(ks:List Int):Prop where
 Hf:∀ x∈ks,0<=x/\x<rows.length
 dn:∀ (i:Nat) (x:Int),ks[i]?=some x->∀ y,oA rows x y->y∈ks.take i
inductive F5(vs:List V)(H:Hp)(Q:VK)(E:XK):Prop
 | mk (r L:Addr) (rows:dI) (ss:List Int) (_:vs=[.ref r,.ref L]) (_:jr H r (rows.map aI)) (_:H L=some (.lst (ss.map V.int))) (_:ss.length<=1000) (_:rows.length<=1000) (_:(∀ es∈rows,es.length<=1000)) (_:jt rows) (_:FP rows) (_:(∀ s∈ss,0<=s/\s<rows.length)) (_ :
 ∀ (ks:List Int) (o:Addr) (H':Hp),H' o=some (.lst (ks.map V.int))->aK H H'->Oe rows ks->(∀ s∈ss,s∈ks)->ks.length<=1000->H o=none->Q (.ref o) H')
theorem Oe.snoc{rows:dI}{ks:List Int}{x:Int}(h:Oe rows ks)(h0:0<=x)(h1:x<rows.length)(hx:∀ y,oA rows x y->y∈ks):Oe rows (ks++[x]):=by
 refine⟨λy hy=>?_,λi y hi z hz=>?_⟩
 ·rcases List.mem_append.mp hy with q|q
  ·exact h.Hf y q
  ·have:y=x:=by simpa using q
   lia
 ·by_cases c:i<ks.length
  ·rw[List.getElem?_append_left c]at hi;rw[List.take_append_of_le_length (by lia)];exact h.dn i y hi z hz
  ·have c2:i=ks.length:=by
    rcases Nat.lt_or_ge i (ks++[x]).length with q|q
    ·rw[dH,xh]at q;lia
    ·rw[List.getElem?_eq_none q]at hi;cases hi
   subst c2;rw[List.getElem?_append_right (iT _),Nat.sub_self]at hi;cases hi;rw[List.take_append_of_le_length (iT _),kX];exact hx z hz
theorem ET{kvs:List (iy × V)}{ks:List Int}(h:kvs.map (·.1)=ks.map Sum.inl)(x:Int):seen kvs x↔x∈ks:=by
 unfold seen;rw[← rS,List.any_eq_true];constructor
 ·rintro⟨p,hp,e⟩;have e':p.1=Sum.inl x:=of_decide_eq_true e;have:p.1∈ks.map (Sum.inl:Int->iy):=by rw[← h];exact List.mem_map_of_mem hp
  rw[e',List.mem_map]at this;obtain⟨y,hy,ey⟩:=this;rw[Sum.inl.inj ey]at hy;exact hy
 ·intro hx;have:(Sum.inl x:iy)∈kvs.map (·.1):=by rw[h];exact List.mem_map_of_mem hx
  obtain⟨p,hp,e⟩:=List.mem_map.mp this;exact⟨p,hp,decide_eq_true e⟩
structure Bel(rows:dI)(rk:Int->Nat)(H:Hp)(W S:Addr)(ss:List Int)(H2:Hp)(bs ps ks:List Int)(kvs:List (iy × V)):Prop where
 hW:H2 W=some (.lst ((bs++ps).map V.int))
 hS:H2 S=some (.dK kvs)
 sm:aK H H2
 ky:kvs.map (·.1)=ks.map Sum.inl
 tp:Oe rows ks
 rg:∀ x∈bs++ps,0<=x/\x<rows.length
 ns:∀ x∈ps,¬ seen kvs x
 pw:ps.Pairwise λa b=>rk b<rk a
 rb:∀ (i:Nat) (x:Int),ps[i]?=some x->rk x+i<=40
 st:∀ s∈ss,s∈bs\/s∈ks
 kl:kvs.length+tR rows.length kvs<=rows.length
 bl:bs.length<=1000
theorem EU{kvs:List (iy × V)}{k:iy}(v:V)(h:(cU kvs k).isSome=true):(gQ kvs k v).map (·.1)=kvs.map (·.1):=by
 unfold gQ;rw[if_pos (by rw[rS];exact h),List.map_map];refine List.map_congr_left λp _=>?_;show (if p.1=k then (p.1,v) else p).1=p.1
 split <;> rfl
theorem KW{rk:Int->Nat}{ps:List Int}(rb:∀ (i:Nat) (x:Int),ps[i]?=some x->rk x+i<=40):ps.length<=41:=by
 rcases vL ps with rfl|⟨p',n,rfl⟩
 ·simp
 ·rw[uc]at rb ⊢;have:=rb p'.length n (by rw[List.getElem?_append_right (iT _),Nat.sub_self];rfl);rw[dH,xh];lia
structure Top(rk:Int->Nat)(ss bs ps ks:List Int)(kvs:List (iy × V))(DR za:List Int)(n:Int):Prop where
 eq:bs++ps=DR++za++[n]
 ns:∀ x∈za,¬ seen kvs x/\x≠n
 pw:za.Pairwise λa b=>rk b<rk a
 rb:∀ (i:Nat) (x:Int),za[i]?=some x->rk x+i<=40
 st:∀ s∈ss,s∈DR\/s=n\/s∈ks
 old:seen kvs n->DR.length+50-za.length<bs.length+50-ps.length
 le:DR.length+50-za.length<=bs.length+51-ps.length
 bl:DR.length<=bs.length
 up:∀ y:Int,rk y<=40->rk y<rk n->(ps++[y]).Pairwise (λa b=>rk b<rk a)/\∀ (i:Nat) (x:Int),(ps++[y])[i]?=some x->rk x+i<=40
theorem Bel.top{rows:dI}{rk:Int->Nat}{H:Hp}{W S:Addr}{ss:List Int}{H2:Hp}{bs ps ks:List Int}{kvs:List (iy × V)}(B:Bel rows rk H W S ss H2 bs ps ks kvs):bs++ps=[]\/∃ DR za n,Top rk ss bs ps ks kvs DR za n:=by
 have QW:∀ (qs:List Int) (y:Int),(∀ (i:Nat) (x:Int),qs[i]?=some x->rk x+i<=40)->rk y+qs.length<=40->∀ (i:Nat) (x:Int),(qs++[y])[i]?=some x->rk x+i<=40:=by
  intro qs y h1 h2 i x hx;rcases Nat.lt_or_ge i qs.length with q|q
  ·rw[List.getElem?_append_left q]at hx;exact h1 i x hx
  ·have qi:i=qs.length:=by
    rcases Nat.lt_or_ge i (qs++[y]).length with w|w
    ·rw[dH,xh]at w;lia
    ·rw[List.getElem?_eq_none w]at hx;cases hx
   subst qi;rw[List.getElem?_append_right (iT _),Nat.sub_self]at hx;cases hx;exact h2
 rcases vL ps with rfl|⟨za,n,rfl⟩
 ·rcases vL bs with rfl|⟨DR,n,rfl⟩
  ·exact .inl rfl
  ·rw[uc]at B ⊢;refine .inr ⟨DR,[],n,by simp,by simp,by simp,by simp,λs hs=>?_,λ_=>?_,?_,?_,λy h1 h2=>⟨by simp,QW [] y (by simp) (by simpa using h1)⟩⟩
   ·rcases B.st s hs with z|z
    ·rcases List.mem_append.mp z with z|z
     ·exact .inl z
     ·exact .inr (.inl (by simpa using z))
    ·exact .inr (.inr z)
   ·rw[dH,xh];simp only[tP];lia
   ·rw[dH,xh];simp only[tP];lia
   ·rw[dH,xh];lia
 ·rw[uc]at B ⊢;have pwd:=List.pairwise_append.mp B.pw;have rbn:=B.rb za.length n (by rw[List.getElem?_append_right (iT _),Nat.sub_self];rfl);refine .inr ⟨bs,za,n,by rw[qL],λx hx=>⟨B.ns x (xU _ hx),λe=>?_⟩,pwd.1,λi x hx=>?_,λs hs=>(B.st s hs).elim .inl λz=>.inr (.inr z),λz=>absurd z (B.ns n (by simp)),?_,iT _,λy h1 h2=>⟨?_,QW _ y B.rb ?_⟩⟩
  ·subst e;exact Nat.lt_irrefl _ (pwd.2.2 x hx x (by simp))
  ·refine B.rb i x ?_;rw[List.getElem?_append_left]
   ·exact hx
   ·rcases Nat.lt_or_ge i za.length with q|q
    ·exact q
    ·rw[List.getElem?_eq_none q]at hx;cases hx
  ·rw[dH,xh];lia
  ·rw[List.pairwise_append];refine⟨B.pw,by simp,λa ha c hc=>?_⟩;have:c=y:=by simpa using hc
   subst this;rcases List.mem_append.mp ha with q|q
   ·have:=pwd.2.2 a q n (by simp);lia
   ·have:a=n:=by simpa using q
    subst this;exact h2
  ·rw[dH,xh];lia
def VE(rows:dI)(rk:Int->Nat)(H:Hp)(r L W S:Addr)(ss:List Int)(m:Nat)(σ:L2.St)(H2:Hp):Prop:=∃ (bs ps ks:List Int) (kvs:List (iy × V)) (u v:Option V),σ=[some (.ref r),some (.ref L),some (.ref S),some (.ref W),u,v]/\Bel rows rk H W S ss H2 bs ps ks kvs/\m=100*tR rows.length kvs+(bs.length+50-ps.length)
theorem zb:aL ["rows","sheets","told","waiting","number","missing"] ["rows","sheets"] (aA mE):=iW
theorem ID{f:Addr}(F:iM K "below" "below" mE f fd)(T:m7 mg)(cL:aC K mg "windows" fX oG fI DA):aF P w K mg zt bI 2 f fd mY F5:=by
 have CK:aF P w K mg zt bI 1 fI DA oG KU:=CJ cL.F T;refine iZ F zb λdP A zn s0 H vs Q E hr h=>?_;obtain⟨r,L,rows,ss,rfl,hR,hL,hsl,ff,hes,vt,⟨rk,Z2,Bg⟩,hin,k⟩:=h;have hu:=lO hr;refine⟨_,(aj (br (i:=2) zb.nd qh) (aj (br (i:=3) zb.nd (iK jI rfl T.nP yI (aa (pv 1) ah))) (aj (vQ PassesOwn.never (ng (pv 3) (λ_=>rfl)) (aj (br (i:=4) zb.nd (aW bL (pv 3) (pT j7 ay))) (aj (T9 (N:=["other","told"]) (i:=5) (ur (sc:=aA mE) (NX:=["rows","sheets","told","waiting","number","missing"]) (jx:=[none,some 2]) rfl rfl rfl (by decide +kernel) (by decide +kernel) rfl (by decide +kernel) rfl (by decide +kernel)) rfl zb.nd rfl rfl (cX (aG cL CK hr (aa (aW bL (pv 0) (pv 4)) ah))) (λ_ _ _ _ _ _=>(cy (i:=0) (show List.Nodup (["other","told"]:List Str) by decide +kernel))) (λ_ _ _ _ _ _=>Mh (Fq (EG hu (pv 0) (pv 1)))) (λ_ _ _ _ _ _=>(pv 0))) (au (bV (ng (pv 5) (λ_=>rfl)) (au (aY (gx vJ qy qz cB (pv 3) (aa (aW bL (pv 5) ay) ah)))) (aj (yT hu (pv 2) (pv 4) vo rfl) (au (aY (PV vJ PySem.F.slot_list_pop PySem.F.type_list_pop P0 (pv 3)))))))))) (au (aQ (iK (KH rfl) rfl T.nP yI (aa (pv 2) ah))))))),?_⟩;intro S hS;have s1:aK H (aN H S (.dK [])):=ak hS _;refine⟨_,rfl,L,_,rfl,.inl (bM.of (s1 _ _ hL)),λW hW=>?_⟩;have s2:=s1.trans (ak hW (.lst (ss.map V.int)))
 have Uk:H W=none:=by
  cases e:H W with
  | none=>rfl
  | some o=>exact absurd ((s1 _ _ e).symm.trans hW) (by simp)
 have VF:W≠S:=(az af hW).symm;refine⟨VE rows rk H r L W S ss,⟨_,ss,[],[],[],none,none,rfl,⟨(by rw[af,jH]),ak hW _ _ _ af,s2,rfl,⟨(λx hx=>by cases hx),λi x hi=>by simp at hi⟩,(λx hx=>hin x (by simpa using hx)),by simp,by simp,by simp,(λs hs=>.inl hs),?_,hsl⟩,rfl⟩,?_⟩
 ·have:=Cv rows.length (λi=>(cU ([]:List (iy × V)) (Sum.inl (i:Int))).isNone);show 0+cnt rows.length _<=_;lia
 rintro m σ H2 ⟨bs,ps,ks,kvs,u,v,rfl,B,rfl⟩;refine⟨_,rfl,!((bs++ps).map V.int).isEmpty,.inl ⟨_,bM.of B.hW,rfl⟩,?_⟩;rcases B.top with en|⟨DR,za,n,t⟩
 ·have e2:(!((bs++ps).map V.int).isEmpty)=false:=by rw[en];rfl
  rw[e2];refine gH ?_
  have ek:kvs.map (λp=>kV p.1)=ks.map V.int:=by
   have z:kvs.map (λp=>kV p.1)=(kvs.map (·.1)).map kV:=by rw[List.map_map];rfl
   rw[z,B.ky,List.map_map];rfl
  have kl:ks.length=kvs.length:=by
   have z:=congrArg List.length B.ky;rw[cR,cR]at z;exact z.symm
  have Z3:=B.kl;refine⟨_,rfl,S,kvs,rfl,B.hS,λl hl=>?_⟩;refine k ks l _ (by rw[af,ek]) (B.sm.trans (ak hl _)) B.tp (λs hs=>(B.st s hs).elim (λz=>?_) id) (by lia) ?_
  ·rw[(List.append_eq_nil_iff.mp en).1]at z;cases z
  cases e:H l with
  | none=>rfl
  | some o=>exact absurd ((B.sm _ _ e).symm.trans hl) (by simp)
 have eW:=B.hW;rw[t.eq]at eW;rw[t.eq];refine dQ (λ_=>?_) (λz=>absurd (by simp) z);refine⟨fun σ' H'=>∃ m',m'<100*tR rows.length kvs+(bs.length+50-ps.length)/\VE rows rk H r L W S ss m' σ' H',fun σ' H' z=>z,?_⟩;have an:vR ((DR++za++[n]).map V.int) (-1)=some (.int n):=by rw[j0];exact qf _ _
 obtain⟨n0,n1⟩:=B.rg n (by rw[t.eq];simp);have tl:=t.le;have U8:=t.bl;have pl:=KW B.rb;have pl':=KW t.rb;have bbl:=B.bl;obtain⟨es,iC⟩:∃ es,rows[n.toNat]?=some es:=⟨_,tO (by lia)⟩;have XI:=hes es (t7 iC);obtain⟨Bh,MA,zc⟩:=hR.same B.sm;obtain⟨vi,F6,hI⟩:=zc.get' (i:=n.toNat) (b:=aI es) (by rw[j5,iC];rfl);obtain⟨b,Sx,rfl,hb,uE⟩:=id hI;have hil:=wQ es []
 have ze:vR Bh n=some (.ref b):=by
  have z:=gy F6;rw[show ((n.toNat:Nat):Int)=n by lia]at z;exact z
 refine⟨_,rfl,_,rfl,W,_,_,_,rfl,rfl,bM.of eW,an,?_⟩;refine⟨_,rfl,_,rfl,r,_,_,_,rfl,rfl,bM.of MA,ze,b,aI es,rfl,hI,?_,λz H4 hz s4 nz=>?_⟩
 ·show (es.foldl bH []).length<=_;simp only[tP]at hil;lia
 rw[lE]at hz;have adH:(eG es).length<=es.length:=List.length_filterMap_le _ es;have Z4:=s4 _ _ B.hS;have hW4:=s4 _ _ eW;refine⟨z,rfl,⟨_,bM.of hz⟩,λacc dR=>ku (K:=K) (a:=z) (xs:=(eG es).map V.int) (λi σ H5=>∃ u:Option V,σ=[u,some (.ref S)]/\H5 acc=some (.lst ((((eG es).take i).filter (λy=>(cU kvs (Sum.inl y)).isNone)).map V.int))/\aK H4 H5) ⟨none,rfl,af,ak dR _⟩ (by rintro i σ H5 _ ⟨_,_,_,s5⟩;exact bM.of (s5 _ _ hz)) ?_ ?_⟩
 ·rintro i x σ H5 hi ⟨u,rfl,h5,s5⟩;rw[j5]at hi;obtain⟨y,ey,rfl⟩:=Option.map_eq_some_iff.mp hi;have st:=take_snoc ey
  have bl:(((eG es).take i).filter (λy=>(cU kvs (Sum.inl y)).isNone)).length<=1000:=by
   have z:=List.length_filter_le (λy=>(cU kvs (Sum.inl y)).isNone) ((eG es).take i);rw[jG]at z;lia
  refine⟨_,rfl,_,rfl,S,_,rfl,lD.k (k:=Sum.inl y) (s5 _ _ Z4),_,rfl,?_⟩
  cases ev:cU kvs (Sum.inl y) with
  | none =>
   refine j3 ⟨_,rfl,_,h5,(by rw[cR];exact aV (by lia)),_,rfl,?_,bX dR s5 (aM acc _ _)⟩;rw[af,st,List.filter_append,List.filter_cons_of_pos (p:=λy=>(cU kvs (Sum.inl y)).isNone) (by rw[ev];rfl),j0];rfl
  | some o =>
   refine gH ⟨_,rfl,?_,s5⟩;rw[st,List.filter_append,List.filter_cons_of_neg (p:=λy=>(cU kvs (Sum.inl y)).isNone) (by rw[ev];exact jQ),List.filter_nil,jH];exact h5
 rintro σ H5 ⟨u,rfl,h5,s5⟩;rw[cR,kX]at h5;have hS5:=s5 _ _ Z4;have hW5:=s5 _ _ hW4;have sm5:=B.sm.trans (s4.trans s5);have Z3:=B.kl;refine⟨_,rfl,_,.inl ⟨_,bM.of h5,rfl⟩,?_⟩
 cases em:(eG es).filter (λy=>(cU kvs (Sum.inl y)).isNone) with
 | nil =>
  refine gH ?_
  have adK:∀ y,oA rows n y->y∈ks:=by
   rintro y ⟨_,zD,Mi,hy⟩;rw[iC]at Mi;cases Mi;rw[← ET B.ky];have z:=List.filter_eq_nil_iff.mp em y hy;unfold seen
   cases q:cU kvs (Sum.inl y) with
   | none=>rw[q]at z;exact absurd rfl z
   | some o=>rfl
  refine⟨_,rfl,_,rfl,S,_,rfl,FL.k (k:=Sum.inl n) hS5 (aV (by lia)),?_⟩;have Sy:(aN H5 S (.dK (gQ kvs (Sum.inl n) (.bl true)))) W=some (.lst ((DR++za++[n]).map V.int)):=by rw[aH VF];exact hW5
  refine⟨_,rfl,.inl ⟨rfl,_,bM.of Sy⟩,W,_,.int n,rfl,rfl,Sy,(by simp),?_⟩;have ee:((DR++za++[n]).map V.int).dropLast=(DR++za).map V.int:=by rw[j0 (l₁:=DR++za),List.map_singleton,List.dropLast_concat]
  rw[ee];have rg':∀ x∈DR++za,0<=x/\x<rows.length:=λx hx=>B.rg x (by rw[t.eq];exact xU _ hx)
  cases en:cU kvs (Sum.inl n) with
  | none =>
   have mp:=Ih (n:=rows.length) (.bl true) n0 n1 en;refine⟨100*tR rows.length (gQ kvs (Sum.inl n) (.bl true))+(DR.length+50-za.length),by lia,DR,za,ks++[n],gQ kvs (Sum.inl n) (.bl true),_,_,rfl,⟨af,(by rw[aH VF.symm,af]),bX Uk (bX hS sm5 (aM S _ _)) (aM W _ _),?_,B.tp.snoc n0 n1 adK,rg',λx hx=>?_,t.pw,t.rb,λs hs=>?_,?_,by lia⟩,rfl⟩
   ·rw[Cn _ en,j0,B.ky,j0];rfl
   ·intro q;rcases (Ig _).mp q with e|e
    ·exact (t.ns x hx).2 e
    ·exact (t.ns x hx).1 e
   ·rcases t.st s hs with q|q|q
    ·exact .inl q
    ·exact .inr (by rw[q];simp)
    ·exact .inr (xU _ q)
   ·rw[Cn _ en,dH,xh]at *;lia
  | some o =>
   have sn:seen kvs n:=by unfold seen;rw[en];rfl
   have so:=t.old sn
   have sp:∀ x,seen (gQ kvs (Sum.inl n) (.bl true)) x↔seen kvs x:=λx=>by
    rw[Ig];exact⟨λz=>z.elim (λe=>by rw[e];exact sn) id,.inr⟩
   have ms:tR rows.length (gQ kvs (Sum.inl n) (.bl true))=tR rows.length kvs:=by
    refine QH _ λi _=>?_;have z:=sp (i:Int);unfold seen at z
    cases q1:cU (gQ kvs (Sum.inl n) (.bl true)) (Sum.inl (i:Int)) with
    | none =>
     cases q2:cU kvs (Sum.inl (i:Int)) with
     | none=>rfl
     | some o2=>rw[q1,q2]at z;exact absurd (z.mpr rfl) jQ
    | some o1 =>
     cases q2:cU kvs (Sum.inl (i:Int)) with
     | none=>rw[q1,q2]at z;exact absurd (z.mp rfl) jQ
     | some o2=>rfl
   have kn:n∈ks:=(ET B.ky n).mp sn;refine⟨100*tR rows.length (gQ kvs (Sum.inl n) (.bl true))+(DR.length+50-za.length),by rw[ms];lia,DR,za,ks,gQ kvs (Sum.inl n) (.bl true),_,_,rfl,⟨af,(by rw[aH VF.symm,af]),bX Uk (bX hS sm5 (aM S _ _)) (aM W _ _),?_,B.tp,rg',λx hx q=>(t.ns x hx).1 ((sp x).mp q),t.pw,t.rb,λs hs=>?_,?_,by lia⟩,rfl⟩
   ·rw[EU _ (by rw[en];rfl),B.ky]
   ·rcases t.st s hs with q|q|q
    ·exact .inl q
    ·exact .inr (by rw[q];exact kn)
    ·exact .inr q
   ·have z:=congrArg List.length (EU (kvs:=kvs) (k:=Sum.inl n) (.bl true) (by rw[en];rfl));rw[cR,cR]at z;rw[z,ms];exact Z3
 | cons y ts =>
  refine j3 ?_;rw[em]at h5;have ym:y∈(eG es).filter (λy=>(cU kvs (Sum.inl y)).isNone):=by rw[em];simp
  obtain⟨yw,yn⟩:=List.mem_filter.mp ym;have JQ:oA rows n y:=⟨n0,es,iC,yw⟩;obtain⟨y0,y1⟩:=vt.G0 JQ;obtain⟨up1,up2⟩:=t.up y (Z2 y) (Bg n y JQ);have wl:=congrArg List.length t.eq;rw[dH]at wl;refine⟨_,rfl,.inl ⟨rfl,_,bM.of hW5⟩,_,rfl,acc,_,_,_,rfl,rfl,bM.of h5,gy (xs:=V.int y::ts.map V.int) (j:=0) rfl,W,_,_,rfl,rfl,hW5,(by rw[cR,← wl];exact aV (by lia)),?_⟩;have pl2:=KW up2;rw[dH,xh]at pl2;refine⟨100*tR rows.length kvs+(bs.length+50-(ps++[y]).length),?_,bs,ps++[y],ks,kvs,_,_,rfl,⟨(by rw[af,← qL,t.eq,j0 (l₁:=DR++za++[n])];rfl),(by rw[aH VF.symm];exact hS5),bX Uk sm5 (aM W _ _),B.ky,B.tp,λx hx=>?_,λx hx=>?_,up1,up2,B.st,Z3,bbl⟩,rfl⟩
  ·rw[dH,xh];lia
  ·rw[← qL]at hx;rcases List.mem_append.mp hx with q|q
   ·exact B.rg x q
   ·have:x=y:=by simpa using q
    subst this;exact⟨y0,y1⟩
  ·rcases List.mem_append.mp hx with q|q
   ·exact B.ns x q
   ·have:x=y:=by simpa using q
    subst this;intro q;unfold seen at q
    cases w:cU kvs (Sum.inl x) with
    | none=>rw[w]at q;cases q
    | some o=>rw[w]at yn;cases yn
structure Bfs(rows:dI)(H:Hp)(W S:Addr)(s:Int)(H2:Hp)(vs:List V)(wl:dI)(kvs:List (iy × V)):Prop where
 hW:H2 W=some (.lst vs)
 hl:cE (iO (λa=>a=W\/a=S) H2) vs wl
 hS:H2 S=some (.dK kvs)
 sm:aK H H2
 wk:∀ w∈wl,w.length<=kvs.length+1/\∃ e,w.getLast?=some e/\0<=e/\e<rows.length/\(e=s\/Reach (oA rows) s e)
 kl:kvs.length+tR rows.length kvs<=rows.length
inductive QX(vs:List V)(H:Hp)(Q:VK)(E:XK):Prop
 | mk (r:Addr) (rows:dI) (s g:Int) (_:vs=[.ref r,.int s,.int g]) (_:jr H r (rows.map aI)) (_:rows.length<=1000) (_:(∀ es∈rows,es.length<=1000)) (_:jt rows) (_:0<=s) (_:s<rows.length) (_:¬ Reach (oA rows) s g) (_:∀ H',aK H H'->Q .jj H')
theorem lU:aL ["rows","start","goal","ways","seen","way","number"] ["rows","start","goal"] (aA lg):=iW
def muW(n:Nat)(W S:Addr):L2.St->Hp->Nat:=λ_ H=>match H W,H S with
 | some (.lst vs),some (.dK kvs)=>2*tR n kvs+vs.length
 | _,_=>0
theorem QY{n:Nat}{W S:Addr}{σ:L2.St}{H:Hp}{vs:List V}{kvs:List (iy × V)}(h1:H W=some (.lst vs))(h2:H S=some (.dK kvs)):muW n W S σ H=2*tR n kvs+vs.length:=by
 unfold muW;rw[h1,h2]
def VG(rows:dI)(H:Hp)(r W S:Addr)(s g:Int)(σ:L2.St)(H2:Hp):Prop:=∃ (vs:List V) (wl:dI) (kvs:List (iy × V)) (u v:Option V),σ=[some (.ref r),some (.int s),some (.int g),some (.ref W),some (.ref S),u,v]/\Bfs rows H W S s H2 vs wl kvs/\vs.length+2*tR rows.length kvs<=2*rows.length+1
theorem CL{f:Addr}(F:iM K "way_between" "way_between" lg f fd)(T:m7 mg)(cL:aC K mg "windows" fX oG fI DA):aF P w K mg zt bI 2 f fd Pa QX:=by
 have CK:aF P w K mg zt bI 1 fI DA oG KU:=CJ cL.F T;refine iZ F lU λdP A zn s0 H vs Q E hr h=>?_;obtain⟨r,rows,s,g,rfl,hR,ff,hes,vt,h0,h1,nr,kN⟩:=h;have hu:=lO hr;refine⟨_,(aj (br (i:=3) lU.nd (bK (aa (bK (aa (pv 1) ah)) ah))) (aj (br (i:=4) lU.nd qh) (aj (vQ PassesOwn.never (ng (pv 3) (λ_=>rfl)) (aj (br (i:=5) lU.nd (gx vJ PySem.F.slot_list_pop PySem.F.type_list_pop P1 (pv 3) (aa ay ah))) (au (eL PassesOwn.never rfl (cX (aG cL CK hr (aa (aW bL (pv 0) (aW bL (pv 5) (pT j7 ay))) ah))) (cy (i:=6) lU.nd) (aj (bV (aZ gj (pv 6) (pv 2) (bw _)) (au (aQ (bx nh (pv 5) (bK (aa (pv 2) ah))))) bu) (au (bV (Fq (EG hu (pv 6) (pv 4))) (aj (yT hu (pv 4) (pv 6) vo rfl) (au (aY (gx vJ qy qz cB (pv 3) (aa (bx nh (pv 5) (bK (aa (pv 6) ah))) ah))))) bu))))))) (au (aQ WA))))),?_⟩;refine⟨_,rfl,rV,λa0 FZ=>⟨rV,λW hW=>?_⟩⟩;intro S hS;have s1:aK H (aN H a0 (.lst [.int s])):=ak FZ _;have s2:=s1.trans (ak hW (.lst [.ref a0]));have s3:=s2.trans (ak hS (.dK []))
 have Uk:H W=none:=by
  cases e:H W with
  | none=>rfl
  | some o=>exact absurd ((s1 _ _ e).symm.trans hW) (by simp)
 have H0S:H S=none:=by
  cases e:H S with
  | none=>rfl
  | some o=>exact absurd ((s2 _ _ e).symm.trans hS) (by simp)
 have VF:W≠S:=az af hS;have n0W:a0≠W:=az af hW;have n0S:a0≠S:=az (ak hW _ _ _ af) hS;refine⟨λm σ H2=>m=muW rows.length W S σ H2/\VG rows H r W S s g σ H2,⟨_,rfl,?_⟩,?_⟩
 ·have cl:=Cv rows.length (λi=>(cU ([]:List (iy × V)) (Sum.inl (i:Int))).isNone);refine⟨[.ref a0],[[s]],[],none,none,rfl,⟨ak hS _ _ _ af,.cons ⟨a0,rfl,(λz=>z.elim n0W n0S),ak hS _ _ _ (ak hW _ _ _ af)⟩ .nil,af,s3,?_,?_⟩,?_⟩
  ·intro w hw;have:w=[s]:=by simpa using hw
   subst this;exact⟨by simp,s,rfl,h0,h1,.inl rfl⟩
  ·show 0+tR rows.length []<=rows.length;unfold tR;lia
  ·show 1+2*tR rows.length []<=_;unfold tR;lia
 ·rintro m σ H2 ⟨rfl,vs,wl,kvs,u,v,rfl,B,hml⟩;rw[QY B.hW B.hS];refine⟨_,rfl,!vs.isEmpty,.inl ⟨vs,bM.of B.hW,rfl⟩,?_⟩
  cases vs with
  | nil =>
   exact gH (kN H2 B.sm)
  | cons v0 FO =>
   refine j3 ⟨fun σ' H'=>VG rows H r W S s g σ' H'/\muW rows.length W S σ' H'<2*tR rows.length kvs+(v0::FO).length,fun σ' H' ⟨p,l⟩=>⟨_,l,rfl,p⟩,?_⟩;obtain⟨Z5,FD,Xu,sm2,wk2,kl2⟩:=id B
   cases FD with
   | @cons _ w0 _ Ul hv0 adN =>
   obtain⟨wa,rfl,nwa,hwa⟩:=id hv0;obtain⟨wlw,e,hle,e0,e1,es0⟩:=wk2 w0 (by simp)
   have wal:∃ w1,w0=w1++[e]:=by
    rw[List.getLast?_eq_some_iff]at hle;exact hle
   obtain⟨w1,rfl⟩:=wal;obtain⟨es,iC⟩:∃ es,rows[e.toNat]?=some es:=⟨_,tO (by lia)⟩;have adO:es∈rows:=t7 iC;have XI:=hes es adO;refine⟨_,rfl,.inl ⟨rfl,_,bM.of Z5⟩,W,_,0,0,.ref wa,rfl,rfl,Z5,by decide,by decide,(by simp[seqIndex?]),rfl,?_⟩;have ee:(V.ref wa::FO).eraseIdx 0=FO:=rfl;rw[ee];have Z6:∀ {v:V} {ns:List Int},iO (λa=>a=W\/a=S) H2 v ns->iO (λa=>a=W\/a=S) (aN H2 W (.lst FO)) v ns:=λh=>h.at _ (.inl rfl);have QZ:aK H (aN H2 W (.lst FO)):=bX Uk sm2 (aM W _ _);obtain⟨Bh,Oa,zc⟩:=hR.same QZ;obtain⟨vi,F6,hI⟩:=zc.get' (i:=e.toNat) (b:=aI es) (by rw[j5,iC];rfl);obtain⟨b,Sx,rfl,hb,uE⟩:=id hI
   have adP:(aN H2 W (.lst FO)) wa=some (.lst (w1.map V.int++[.int e])):=by
    rw[aH (λz=>nwa (.inl z)),hwa,j0];rfl
   have hil:=wQ es [];refine⟨_,rfl,_,rfl,_,rfl,wa,_,_,_,rfl,rfl,bM.of adP,qf _ _,r,_,_,_,rfl,rfl,bM.of Oa,?_,b,aI es,rfl,hI,?_,λz H4 hz s4 nz=>?_⟩
   ·have z:=gy F6;rw[show ((e.toNat:Nat):Int)=e by lia]at z;exact z
   ·show (es.foldl bH []).length<=_;simp only[tP]at hil;lia
   rw[lE]at hz;have hW3:(aN H2 W (.lst FO)) W=some (.lst FO):=af;have Of:(aN H2 W (.lst FO)) S=some (.dK kvs):=by rw[aH VF.symm];exact Xu
   have nzW:z≠W:=(az hW3 nz).symm;have nzS:z≠S:=(az Of nz).symm;have adH:(eG es).length<=es.length:=List.length_filterMap_le _ es;refine⟨z,rfl,⟨_,bM.of hz⟩,eN (K:=K) (a:=z) (xs:=(eG es).map V.int) (λi σ H5=>∃ (Sz:List V) (Yz:dI) (vG:List (iy × V)) (v:Option V),σ=[some (.ref r),some (.int s),some (.int g),some (.ref W),some (.ref S),some (.ref wa),v]/\ Bfs rows H W S s H5 Sz Yz vG/\iO (λa=>a=W\/a=S) H5 (.ref wa) (w1++[e])/\iO (λa=>a=W\/a=S) H5 (.ref z) (eG es)/\Sz.length+2*tR rows.length vG<=FO.length+2*tR rows.length kvs/\kvs.length<=vG.length) ?_ ?_ ?_ ?_⟩
   ·refine⟨FO,Ul,kvs,_,rfl,⟨s4 _ _ hW3,adN.mono λ_ _ h=>(Z6 h).same s4,s4 _ _ Of,QZ.trans s4,λw hw=>wk2 w (t6 _ hw),kl2⟩,(Z6 hv0).same s4,⟨z,rfl,λq=>q.elim nzW nzS,hz⟩,iT _,iT _⟩
   ·rintro i σ H5 _ ⟨_,_,_,_,_,_,_,⟨a,ea,_,ha⟩,_⟩;cases ea;exact bM.of ha
   ·rintro i x σ H5 hi ⟨Sz,Yz,vG,v,rfl,B5,Um,Ui,YA,hk5⟩;rw[j5]at hi;obtain⟨y,ey,rfl⟩:=Option.map_eq_some_iff.mp hi;have JQ:oA rows e y:=⟨e0,es,iC,t7 ey⟩;obtain⟨y0,y1⟩:=vt.G0 JQ
    have sy:Reach (oA rows) s y:=by
     rcases es0 with rfl|q
     ·exact .one JQ
     ·exact .step q JQ
    obtain⟨wa',ewa,adQ,Z7⟩:=id Um;cases ewa;have wl0:(w1++[e]).length<=2000:=by have:=B5.kl;lia
    refine⟨_,rfl,_,rfl,rfl,_,rfl,dQ (λc=>?_) (λc=>?_)⟩
    ·have eg:y=g:=V.int.inj (of_decide_eq_true c);exact absurd (eg ▸ sy) nr
    ·refine⟨_,rfl,_,rfl,S,_,rfl,lD.k (k:=Sum.inl y) B5.hS,_,rfl,?_⟩
     cases ev:cU vG (Sum.inl y) with
     | some o1 =>
      refine gH ?_;exact⟨Sz,Yz,vG,_,rfl,B5,Um,Ui,YA,hk5⟩
     | none =>
      refine j3 ?_;have Z3:=B5.kl;refine⟨_,rfl,_,rfl,S,_,rfl,FL.k (k:=Sum.inl y) B5.hS (aV (by lia)),?_⟩;have e6:∀ {v:V} {ns:List Int},iO (λa=>a=W\/a=S) H5 v ns->iO (λa=>a=W\/a=S) (aN H5 S (.dK (gQ vG (Sum.inl y) (.bl true)))) v ns:=λh=>h.at _ (.inr rfl);have s6:aK H (aN H5 S (.dK (gQ vG (Sum.inl y) (.bl true)))):=bX H0S B5.sm (aM S _ _);have Sy:(aN H5 S (.dK (gQ vG (Sum.inl y) (.bl true)))) W=some (.lst Sz):=by rw[aH VF];exact B5.hW
      have Z8:(aN H5 S (.dK (gQ vG (Sum.inl y) (.bl true)))) wa=some (.lst ((w1++[e]).map V.int)):=by rw[aH (λq=>adQ (.inr q))];exact Z7
      have XJ:(aN H5 S (.dK (gQ vG (Sum.inl y) (.bl true)))) S=some (.dK (gQ vG (Sum.inl y) (.bl true))):=af;generalize aN H5 S (.dK (gQ vG (Sum.inl y) (.bl true)))=H6 at e6 s6 Sy Z8 XJ;have vl:Sz.length<sizeLine:=aV (by simp only[oJ]at hml;lia);refine⟨_,rfl,.inl ⟨rfl,_,bM.of Sy⟩,_,rfl,_,rfl,rV,λb1 Ir=>⟨wa,b1,_,_,rfl,rfl,ak Ir _ _ _ Z8,af,kY (aV (by rw[cR];simp at wl0 ⊢;lia)),λo ho=>⟨W,_,_,rfl,rfl,ak ho _ _ _ (ak Ir _ _ _ Sy),vl,?_⟩⟩⟩;have s7:aK H6 (aN H6 b1 (.lst [.int y])):=ak Ir _;have s8:=s7.trans (ak ho (.lst ((w1++[e]).map V.int++[.int y])));have noW:o≠W:=(az (s7 _ _ Sy) ho).symm;have Z9:o≠S:=(az (s7 _ _ XJ) ho).symm;have e9:∀ {v:V} {ns:List Int},iO (λa=>a=W\/a=S) H5 v ns->iO (λa=>a=W\/a=S) (aN (aN (aN H6 b1 (.lst [.int y])) o (.lst ((w1++[e]).map V.int++[.int y]))) W (.lst (Sz++[.ref o]))) v ns:=λh=>((e6 h).same s8).at _ (.inl rfl);have mp:=Ih (n:=rows.length) (.bl true) y0 y1 ev;have pl:(gQ vG (Sum.inl y) (.bl true)).length=vG.length+1:=by rw[Cn _ ev];simp
      refine⟨Sz++[.ref o],Yz++[w1++[e]++[y]],gQ vG (Sum.inl y) (.bl true),_,rfl,⟨af,cE.snoc (B5.hl.mono λ_ _ h=>e9 h) ⟨o,rfl,λq=>q.elim noW Z9,?_⟩,?_,bX Uk (s6.trans s8) (aM W _ _),?_,?_⟩,e9 Um,e9 Ui,?_,?_⟩
      ·rw[aH noW,af,j0 (l₁:=w1++[e])];rfl
      ·rw[aH VF.symm];exact s8 _ _ XJ
      ·intro w hw;rcases List.mem_append.mp hw with q|q
       ·obtain⟨q2,q3⟩:=B5.wk w q;exact⟨by lia,q3⟩
       ·have:w=w1++[e]++[y]:=by simpa using q
        subst this;refine⟨?_,y,by simp,y0,y1,.inr sy⟩;rw[dH,xh,pl];lia
      ·lia
      ·rw[dH,xh];lia
      ·lia
   ·rintro σ H5 ⟨Sz,Yz,vG,v,rfl,B5,Um,Ui,YA,hk5⟩;simp only[oJ]at hml;refine⟨⟨Sz,Yz,vG,_,_,rfl,B5,by lia⟩,?_⟩;rw[QY B5.hW B5.hS,oJ];lia
inductive Q0(vs:List V)(H:Hp)(Q:VK)(E:XK):Prop
 | mk (r:Addr) (s:Int) (_:vs=[.ref r,.int s]) (_:QX [.ref r,.int s,.int s] H Q E)
theorem XM:aL ["rows","sheet"] ["rows","sheet"] (aA Hz):=iW
theorem Uo{f:Addr}(F:iM K "ring" "ring" Hz f fd)(T:m7 mg)(cL:aC K mg "windows" fX oG fI DA)(lG:aC K mg "way_between" lg Pa fJ fdJ):aF P w K mg zt bI 3 f fd vD Q0:=by
 have F7:aF P w K mg zt bI 2 fJ fdJ Pa QX:=CL lG.F T cL;refine iZ F XM λdP A zn s H vs Q E hr h=>?_;obtain⟨r,s,rfl,h⟩:=h;refine⟨_,(au (aQ (aG lG F7 hr (aa (pv 0) (aa (pv 1) (aa (pv 1) ah)))))),?_⟩;refine⟨_,rfl,_,rfl,_,rfl,?_⟩;obtain⟨r',rows,s',g,e,h1,h2,h3,h4,h5,h6,nr,kN⟩:=h;cases e;exact⟨r,rows,s,s,rfl,h1,h2,h3,h4,h5,h6,nr,kN⟩
def oB(f:Int->Int)(es:List Int):Int:=(es.map λe=>if e<0 then 1+f (-1-e) else 1).sum
def F8(f:Int->Int):aU->Int
 | .win n=>1+f n
 | .aS a b=>b-a
def IE(f:Int->Int)(aP:List aU):Int:=(aP.map (F8 f)).sum
theorem rW(f:Int->Int)(a b:List aU):IE f (a++b)=IE f a+IE f b:=by unfold IE;rw[j0,List.sum_append]
theorem Q2(f:Int->Int)(t:List aU)(e:Int):IE f (bH t e)=IE f t+(if e<0 then 1+f (-1-e) else 1):=by
 unfold bH;by_cases h:e<0
 ·rw[if_pos h,if_pos h,rW];simp[IE,F8]
 ·rw[if_neg h,if_neg h];rcases vL t with rfl|⟨t',l,rfl⟩
  ·simp[IE,F8];lia
  ·rw[uc,vM]
   cases l with
   | win n =>
    show IE f (t'++[aU.win n]++[.aS e (e+1)])=_;rw[rW];simp[IE,F8];lia
   | aS a b =>
    show IE f (if b=e then (t'++[aU.aS a b]).dropLast++[.aS a (e+1)] else (t'++[aU.aS a b])++[.aS e (e+1)])=_;by_cases hb:b=e
    ·rw[if_pos hb,List.dropLast_concat,rW,rW];simp[IE,F8];lia
    ·rw[if_neg hb,rW];simp[IE,F8];lia
theorem Og(f:Int->Int)(es:List Int):IE f (aI es)=oB f es:=by
 have z:∀ t:List aU,IE f (es.foldl bH t)=IE f t+oB f es:=by
  induction es with
  | nil=>intro t;simp[oB]
  | cons e es ih =>
   intro t;rw[qM,ih,Q2];unfold oB;rw[oK,List.sum_cons];lia
 have:=z [];unfold aI;rw[this];simp[IE]
def Weighs(rows:dI)(f:Int->Int):Prop:=∀ (x:Int) (es:List Int),0<=x->rows[x.toNat]?=some es->f x=oB f es
def wF(rows:dI):Nat->Int->Int
 | 0,_=>0
 | k+1,x=>match rows[x.toNat]? with
  | some es=>oB (wF rows k) es
  | none=>0
theorem KY{f g:Int->Int}{es:List Int}(h:∀ y∈eG es,f y=g y):oB f es=oB g es:=by
 unfold oB;congr 1;refine List.map_congr_left λe he=>?_;by_cases c:e<0
 ·rw[if_pos c,if_pos c,h (-1-e) (cK.mpr ⟨by lia,by rw[show -1-(-1-e)=e by lia];exact he⟩)]
 ·rw[if_neg c,if_neg c]
theorem Oh{rows:dI}(h:FP rows):∃ f,Weighs rows f:=by
 obtain⟨rk,hb,hd⟩:=h
 have key:∀ (k:Nat) (x:Int),0<=x->rk x<k->wF rows k x=wF rows (k+1) x:=by
  intro k
  induction k with
  | zero=>intro x _ h;lia
  | succ k ih =>
   intro x x0 hx
   cases e:rows[x.toNat]? with
   | none=>simp[wF,e]
   | some es =>
    have e1:wF rows (k+1) x=oB (wF rows k) es:=by simp[wF,e]
    have e2:wF rows (k+1+1) x=oB (wF rows (k+1)) es:=by
     show (match rows[x.toNat]? with|some es=>oB (wF rows (k+1)) es|none=>0)=_;rw[e]
    rw[e1,e2];refine KY λy hy=>ih y (cK.mp hy).1 ?_;have:=hd x y ⟨x0,es,e,hy⟩;lia
 refine⟨wF rows 41,λx es x0 he=>?_⟩;rw[key 41 x x0 (by have:=hb x;lia)];show (match rows[x.toNat]? with|some es=>oB (wF rows 41) es|none=>0)=_;rw[he]
inductive aaa(vs:List V)(H:Hp)(Q:VK)(E:XK):Prop
 | mk (v:V) (it:aU) (S:Addr) (kvs:List (iy × V)) (f:Int->Int) (_:vs=[v,.ref S]) (_:dJ H v it) (_:H S=some (.dK kvs)) (_:(∀ n,it=.win n->cU kvs (Sum.inl n)=some (.int (f n)))) (_:Q (.int (F8 f it)) H)
theorem DS:aL ["item","weights"] ["item","weights"] (aA lu):=iW
theorem CM(F:iM K "item_weight" "item_weight" lu g fd)(T:m7 mg):aF P w K mg zt bI 1 g fd Pb aaa:=by
 refine iZ F DS λdP A zn s H vs Q E hr h=>?_;obtain⟨v,it,S,kvs,f,rfl,⟨a,rfl,ha⟩,hS,hw,k⟩:=h;have hu:=lO hr;refine⟨_,(aj (bV (aZ gj (aW bC (pv 0) ay) bJ (bw _)) (au (aQ (bx cZ ay (jR hu (pv 1) (aW bC (pv 0) ay))))) bu) (au (aQ (bx cW (aW bC (pv 0) ay) (aW bC (pv 0) ay))))),?_⟩
 cases it with
 | win n =>
  refine⟨_,rfl,a,_,_,_,rfl,rfl,d8.of ha,rfl,rfl,_,rfl,dQ (λ_=>?_) (λz=>absurd (by decide) z)⟩;have z:=lD.k (k:=Sum.inl n) hS;rw[hw n rfl]at z;exact⟨_,rfl,_,rfl,a,_,_,_,rfl,rfl,d8.of ha,rfl,S,_,rfl,z,_,_,rfl,rfl,k⟩
 | aS p q =>
  refine⟨_,rfl,a,_,_,_,rfl,rfl,d8.of ha,rfl,rfl,_,rfl,dQ (λz=>absurd z (by decide)) (λ_=>?_)⟩;exact⟨_,rfl,a,_,_,_,rfl,rfl,d8.of ha,rfl,_,rfl,a,_,_,_,rfl,rfl,d8.of ha,rfl,_,_,rfl,rfl,k⟩
inductive CN(vs:List V)(H:Hp)(Q:VK)(E:XK):Prop
 | mk (r L:Addr) (rows:dI) (ss:List Int) (f:Int->Int) (_:vs=[.ref r,.ref L]) (_:jr H r (rows.map aI)) (_:H L=some (.lst (ss.map V.int))) (_:ss.length<=1000) (_:rows.length<=1000) (_:(∀ es∈rows,es.length<=1000)) (_:jt rows) (_:FP rows) (_:(∀ s∈ss,0<=s/\s<rows.length)) (_:Weighs rows f) (_ :
 ∀ (S:Addr) (kvs:List (iy × V)) (H':Hp),H' S=some (.dK kvs)->(∀ s∈ss,cU kvs (Sum.inl s)=some (.int (f s)))->aK H H'->H S=none->Q (.ref S) H')
theorem qD:aL ["rows","sheets","weights","number"] ["rows","sheets"] (aA jo):=iW
theorem Ac{fW:Addr}(F:iM K "weights_below" "weights_below" jo g fd)(T:m7 mg)(cL:aC K mg "windows" fX oG fI DA)(jg:aC K mg "below" mE mY fB Up)(lH:aC K mg "item_weight" lu Pb fW MB):aF P w K mg zt bI 3 g fd mY CN:=by
 have KZ:aF P w K mg zt bI 2 fB Up mY F5:=ID jg.F T cL;have F9:aF P w K mg zt bI 1 fW MB Pb aaa:=CM lH.F T;refine iZ F qD λdP A zn s0 H vs Q E hr h=>?_;obtain⟨r,L,rows,ss,f,rfl,hR,hL,hsl,ff,hes,vt,Bg,hin,hf,k⟩:=h;have hu:=lO hr;refine⟨_,(aj (br (i:=2) qD.nd qh) (aj (eL PassesOwn.never rfl (cX (aG jg KZ hr (aa (pv 0) (aa (pv 1) ah)))) (cy (i:=3) qD.nd) (au (yT hu (pv 2) (pv 3) (cT (HK rfl) rfl T.VA PyProof.Rows.boot_sum (aa (lT (N:=["item","weights"]) (ur (sc:=aA jo) (NX:=["rows","sheets","weights","number"]) (jx:=[none,some 2]) rfl rfl rfl (by decide +kernel) (by decide +kernel) rfl (by decide +kernel) rfl (by decide +kernel)) rfl (cX (aW bL (pv 0) (pv 3))) (λ_ _ _ _ _ _=>(cy (i:=0) (show List.Nodup (["item","weights"]:List Str) by decide +kernel))) (λ_ _ _ _ _ _=>lC) (λ_ _ _ _ _ _=>(aG lH F9 hr (aa (pv 0) (aa (pv 1) ah))))) ah)) rfl))) (au (aQ (pv 2))))),?_⟩;intro S hS;have s1:aK H (aN H S (.dK [])):=ak hS _;refine⟨_,rfl,_,rfl,r,L,rows,ss,rfl,hR.same s1,s1 _ _ hL,hsl,ff,hes,vt,Bg,hin,λks o H2 ho s2 tp sk kl Zm=>?_⟩;have Xu:=s2 _ _ (af (H:=H) (a:=S) (o:=.dK []));have Z9:o≠S:=(az af Zm).symm;refine⟨o,rfl,⟨_,bM.of ho⟩,eN (K:=K) (a:=o) (xs:=ks.map V.int) (λi σ H3=>∃ (kvs:List (iy × V)) (u:Option V),σ=[some (.ref r),some (.ref L),some (.ref S),u]/\H3 S=some (.dK kvs)/\(∀ y∈ks.take i,cU kvs (Sum.inl y)=some (.int (f y)))/\kvs.length<=i/\(∀ a ob,a≠S->H2 a=some ob->H3 a=some ob)) ⟨[],none,rfl,Xu,(λy hy=>by simp at hy),iT _,λ_ _ _ e=>e⟩ ?_ ?_ ?_⟩
 ·rintro i σ H3 _ ⟨_,_,_,_,_,_,k3⟩;exact bM.of (k3 o _ Z9 ho)
 ·rintro i x σ H3 hi ⟨kvs,u,rfl,Of,O0,hk3,k3⟩;rw[j5]at hi;obtain⟨x,ex,rfl⟩:=Option.map_eq_some_iff.mp hi;obtain⟨x0,x1⟩:=tp.Hf x (t7 ex);obtain⟨es,iC⟩:∃ es,rows[x.toNat]?=some es:=⟨_,tO (by lia)⟩;have XI:=hes es (t7 iC);have QZ:aK H H3:=λa ob e=>k3 a ob (az e hS) (s2 _ _ (s1 _ _ e));obtain⟨Bh,Oa,zc⟩:=hR.same QZ;obtain⟨vi,F6,hI⟩:=zc.get' (i:=x.toNat) (b:=aI es) (by rw[j5,iC];rfl);obtain⟨b,Sx,rfl,hb,uE⟩:=id hI;have hil:=wQ es []
  have ai5:(aI es).length<=1000:=by
   show (es.foldl bH []).length<=_;simp only[tP]at hil;lia
  have ze:vR Bh x=some (.ref b):=by
   have z:=gy F6;rw[show ((x.toNat:Nat):Int)=x by lia]at z;exact z
  refine⟨_,rfl,_,rfl,r,_,_,_,rfl,rfl,bM.of Oa,ze,b,rfl,⟨_,bM.of hb⟩,λacc dR=>ku (K:=K) (a:=b) (xs:=Sx) (λj σ H5=>∃ u:Option V,σ=[u,some (.ref S)]/\H5 acc=some (.lst ((((aI es).take j).map (F8 f)).map V.int))/\aK H3 H5) ⟨none,rfl,af,ak dR _⟩ (λj σ H5 _ ⟨_,_,_,s5⟩=>bM.of (s5 _ _ hb)) ?_ ?_⟩
  ·rintro j v σ H5 hj ⟨u,rfl,h5,s5⟩;obtain⟨it,ei,hiv⟩:=uE.get hj;have st:=take_snoc ei;unfold xA Qt;refine j3 ⟨_,rfl,_,rfl,v,it,S,kvs,f,rfl,hiv.same s5,s5 _ _ Of,λn hn=>?_,?_⟩
   ·subst hn;refine O0 n (tp.dn i x ex n ⟨x0,es,iC,?_⟩);rw[← lE];unfold iB;rw[List.mem_filterMap];exact⟨.win n,t7 ei,rfl⟩
   ·refine⟨_,h5,(by rw[cR,cR,jG];exact aV (by lia)),_,rfl,?_,bX dR s5 (aM acc _ _)⟩;rw[af,st,j0,j0];rfl
  ·rintro σ H5 ⟨u,rfl,h5,s5⟩;rw[uE.len,kX]at h5;have es1:((aI es).map (F8 f)).sum=f x:=by rw[hf x es x0 iC];exact Og f es
   have hS5:=s5 _ _ Of
   have kvl:i<ks.length:=by
    rcases Nat.lt_or_ge i ks.length with q|q
    ·exact q
    ·rw[List.getElem?_eq_none q]at ex;cases ex
   refine⟨acc,_,rfl,bM.of h5,?_⟩;rw[es1];refine⟨_,rfl,_,rfl,S,_,rfl,FL.k (k:=Sum.inl x) hS5 (aV (by lia)),?_⟩;refine⟨gQ kvs (Sum.inl x) (.int (f x)),_,rfl,af,λy hy=>?_,?_,λa ob n e=>?_⟩
   ·rw[kq];rw[take_snoc ex]at hy;by_cases c:y=x
    ·rw[if_pos (by rw[c]),c]
    ·rw[if_neg (λz=>c (Sum.inl.inj z))];rcases List.mem_append.mp hy with q|q
     ·exact O0 y q
     ·exact absurd (by simpa using q) c
   ·have:=jD kvs (Sum.inl x) (V.int (f x));lia
   ·rw[aH n];exact s5 _ _ (k3 a ob n e)
 ·rintro σ H3 ⟨kvs,u,rfl,Of,O0,hk3,k3⟩;rw[cR,kX]at O0;exact⟨_,rfl,k S kvs H3 Of (λs hs=>O0 s (sk s hs)) (λa ob e=>k3 a ob (az e hS) (s2 _ _ (s1 _ _ e))) hS⟩
def vv(g:Int->Row):aU->Row
 | .win n=>g n
 | .aS a b=>[(a,b)]
def bf(sh:Int->List Int)(e:Int):List Int:=if e<0 then sh (-1-e) else [e]
def aT(sh:Int->List Int)(es:List Int):List Int:=es.flatMap (bf sh)
def rX(rows:dI)(sh:Int->List Int):Prop:=∀ (x:Int) (es:List Int),0<=x->rows[x.toNat]?=some es->sh x=aT sh es
def bG(sh:Int->List Int)(aP:List aU):Row:=aP.flatMap (vv λn=>dc (sh n))
def xJ(t:List aU):Prop:=∀ a b,aU.aS a b∈t->a<b
theorem gB(sh:Int->List Int)(a b:List aU):bG sh (a++b)=bG sh a++bG sh b:=by unfold bG;rw[List.flatMap_append]
theorem mJ(sh:Int->List Int)(it:aU):bG sh [it]=vv (λn=>dc (sh n)) it:=by simp[bG]
theorem Oi(sh:Int->List Int)(t:List aU)(e:Int)(ok:xJ t):bN (bG sh (bH t e))=bN (bG sh t)++bf sh e/\xJ (bH t e):=by
 have add:∀ it:aU,(∀ a b,it=.aS a b->a<b)->xJ (t++[it]):=λit h a b hm=>by
  rcases List.mem_append.mp hm with z|z
  ·exact ok a b z
  ·exact h a b (List.mem_singleton.mp z).symm
 unfold bH;by_cases h:e<0
 ·rw[if_pos h];refine⟨?_,add _ λa b z=>by cases z⟩;rw[gB,dD,mJ];show _++bN (dc (sh (-1-e)))=_;rw[gO];unfold bf;rw[if_pos h]
 ·rw[if_neg h]
  have one:bN [(e,e+1)]=[e]:=by
   rw[jq];unfold nM;have:(e+1-e).toNat=1:=by lia
   show run e (e+1-e).toNat=_;rw[this];rfl
  have es1:bf sh e=[e]:=by unfold bf;rw[if_neg h]
  have zf:bN (bG sh (t++[.aS e (e+1)]))=bN (bG sh t)++bf sh e/\xJ (t++[.aS e (e+1)]):=by
   refine⟨?_,add _ λa b z=>by cases z;lia⟩;rw[gB,dD,mJ,es1];show _++bN [(e,e+1)]=_;rw[one]
  rcases vL t with rfl|⟨t',l,rfl⟩
  ·exact zf
  ·rw[uc]at ok add zf ⊢;rw[vM]
   cases l with
   | win n=>exact zf
   | aS a b =>
    show bN (bG sh (if b=e then (t'++[aU.aS a b]).dropLast++[.aS a (e+1)] else (t'++[aU.aS a b])++[.aS e (e+1)]))=_/\xJ (if b=e then (t'++[aU.aS a b]).dropLast++[.aS a (e+1)] else (t'++[aU.aS a b])++[.aS e (e+1)]);by_cases hb:b=e
    ·subst hb;have ab:=ok a b (by simp);rw[if_pos rfl,List.dropLast_concat];refine⟨?_,λp q hm=>?_⟩
     ·rw[gB,gB,dD,dD,mJ,mJ,es1,qL];congr 1;show bN [(a,b+1)]=bN [(a,b)]++[b];rw[jq,jq];unfold nM;show run a (b+1-a).toNat=run a (b-a).toNat++[b];have:(b+1-a).toNat=(b-a).toNat+1:=by lia
      rw[this,yR];congr 2;lia
     ·rcases List.mem_append.mp hm with z|z
      ·exact ok p q (xU _ z)
      ·have z':aU.aS p q=aU.aS a (b+1):=by simpa using z
       cases z';lia
    ·rw[if_neg hb];exact zf
theorem CO(sh:Int->List Int)(es:List Int):bN (bG sh (aI es))=aT sh es/\xJ (aI es):=by
 have z:∀ t:List aU,xJ t->bN (bG sh (es.foldl bH t))=bN (bG sh t)++aT sh es/\xJ (es.foldl bH t):=by
  induction es with
  | nil=>intro t ok;exact⟨by simp[aT],ok⟩
  | cons e es ih =>
   intro t ok;obtain⟨h1,h2⟩:=Oi sh t e ok;obtain⟨h3,h4⟩:=ih _ h2;refine⟨?_,h4⟩;rw[qM,h3,h1,qL];unfold aT;rw[mZ]
 have q:=z [] (λa b h=>by cases h);refine⟨?_,q.2⟩;unfold aI;rw[q.1];rfl
theorem Oj(sh:Int->List Int)(it:aU)(h:∀ a b,it=.aS a b->a<b):(vv (λn=>dc (sh n)) it).length<=(bN (vv (λn=>dc (sh n)) it)).length:=by
 cases it with
 | win n =>
  show (dc (sh n)).length<=(bN (dc (sh n))).length;rw[gO];have z:=HS (sh n) [];simpa [dc] using z
 | aS a b =>
  have ab:=h a b rfl;show 1<=(bN [(a,b)]).length;rw[jq];unfold nM;show 1<=(run a (b-a).toNat).length;rw[Mt];lia
theorem yj(sh:Int->List Int):∀ aP:List aU,xJ aP->(bG sh aP).length<=(bN (bG sh aP)).length
 | [],_=>by simp[bG]
 | it::aP,h=>by
  have e:bG sh (it::aP)=vv (λn=>dc (sh n)) it++bG sh aP:=by unfold bG;rw[mZ]
  rw[e,dD,dH,dH];have a:=Oj sh it (λa b z=>h a b (by rw[← z];simp));have b:=yj sh aP (λa b z=>h a b (t6 _ z));lia
theorem Ol(sh:Int->List Int)(aP:List aU)(h:xJ aP):∀ p∈bG sh aP,p.1<=p.2:=by
 intro p hp;unfold bG at hp;obtain⟨it,hi,hm⟩:=List.mem_flatMap.mp hp
 cases it with
 | win n=>exact qe _ p hm
 | aS a b =>
  have:p=(a,b):=by simpa [vv] using hm
  subst this;have:=h a b hi;show a<=b;lia
inductive Ad(vs:List V)(H:Hp)(Q:VK)(E:XK):Prop
 | mk (v:V) (it:aU) (S:Addr) (kvs:List (iy × V)) (g:Int->Row) (_:vs=[v,.ref S]) (_:dJ H v it) (_:H S=some (.dK kvs)) (_:(∀ n,it=.win n->∃ a,cU kvs (Sum.inl n)=some (.ref a)/\cV H a (g n))) (_ :
 ∀ (a:Addr) (H':Hp),cV H' a (vv g it)->aK H H'->((∃ n,it=.win n/\cU kvs (Sum.inl n)=some (.ref a))\/H a=none)->Q (.ref a) H')
theorem K0:aL ["item","views"] ["item","views"] (aA gV):=iW
theorem AV{f:Addr}(F:iM K "item_row" "item_row" gV f fd)(T:m7 mg):aF P w K mg zt bI 1 f fd yH Ad:=by
 refine iZ F K0 λdP A zn s H vs Q E hr h=>?_;obtain⟨v,it,S,kvs,g,rfl,⟨a,rfl,ha⟩,hS,hw,k⟩:=h;have hu:=lO hr;refine⟨_,(aj (bV (aZ gj (aW bC (pv 0) ay) bJ (bw _)) (au (aQ (jR hu (pv 1) (aW bC (pv 0) ay)))) bu) (au (aQ (bK (aa (c9 (aa (aW bC (pv 0) ay) (aa (aW bC (pv 0) ay) ah))) ah))))),?_⟩
 cases it with
 | win n =>
  refine⟨_,rfl,a,_,_,_,rfl,rfl,d8.of ha,rfl,rfl,_,rfl,dQ (λ_=>?_) (λz=>absurd (by decide) z)⟩;obtain⟨b,hb,Rb⟩:=hw n rfl;have z:=lD.k (k:=Sum.inl n) hS;rw[hb]at z;exact⟨_,rfl,_,rfl,a,_,_,_,rfl,rfl,d8.of ha,rfl,S,_,rfl,z,k b H Rb (aK.refl H) (.inl ⟨n,rfl,hb⟩)⟩
 | aS p q =>
  refine⟨_,rfl,a,_,_,_,rfl,rfl,d8.of ha,rfl,rfl,_,rfl,dQ (λz=>absurd z (by decide)) (λ_=>?_)⟩;refine⟨_,rfl,a,_,_,_,rfl,rfl,d8.of ha,rfl,_,rfl,a,_,_,_,rfl,rfl,d8.of ha,rfl,xj,λt ht=>⟨rV,λl hl=>?_⟩⟩;have s1:aK H (aN H t (.tup [.int p,.int q])):=ak ht _;have s2:=s1.trans (ak hl (.lst [.ref t]));refine k l _ ⟨[t],af,.cons ?_ .nil⟩ s2 (.inr ?_)
  ·exact ak hl _ _ _ af
  ·cases e:H l with
   | none=>rfl
   | some o=>exact absurd ((s1 _ _ e).symm.trans hl) (by simp)
theorem bU.IF{H H':Hp}{S:Addr}{kvs:List (iy × V)}(hS:H S=some (.dK kvs))(k:∀ a ob,a≠S->H a=some ob->H' a=some ob):∀ {as:List Addr} {r:Row},bU H as r->bU H' as r
 | _,_,.nil=>.nil
 | _,_,.cons r t=>.cons (k _ _ (λz=>by
   have r':=r;unfold zR at r';rw[z,hS]at r'
   cases r') r) (bU.IF hS k t)
theorem cV.IF{H H':Hp}{S a:Addr}{kvs:List (iy × V)}{row:Row}(hS:H S=some (.dK kvs))(n:a≠S)(k:∀ a ob,a≠S->H a=some ob->H' a=some ob)(R:cV H a row):cV H' a row:=by
 obtain⟨as,h,p⟩:=R;exact⟨as,k _ _ n h,p.IF hS k⟩
def MG(H:Hp)(kvs:List (iy × V))(sh:Int->List Int)(xs:List Int):Prop:=∀ x∈xs,∃ a,cU kvs (Sum.inl x)=some (.ref a)/\cV H a (dc (sh x))
inductive zg(vs:List V)(H:Hp)(Q:VK)(E:XK):Prop
 | mk (r L:Addr) (rows:dI) (ss:List Int) (sh:Int->List Int) (_:vs=[.ref r,.ref L]) (_:jr H r (rows.map aI)) (_:H L=some (.lst (ss.map V.int))) (_:ss.length<=1000) (_:rows.length<=1000) (_:(∀ es∈rows,es.length<=1000)) (_:jt rows) (_:FP rows) (_:(∀ s∈ss,0<=s/\s<rows.length)) (_:rX rows sh) (_:(∀ x:Int,0<=x->x<rows.length->(sh x).length<=10000)) (_ :
 ∀ (S:Addr) (kvs:List (iy × V)) (ks:List Int) (H':Hp),H' S=some (.dK kvs)->MG H' kvs sh ks->Oe rows ks->(∀ s∈ss,s∈ks)->(∀ x∈ks,∀ a,cU kvs (Sum.inl x)=some (.ref a)->H a=none)->aK H H'->H S=none->Q (.ref S) H')
theorem tV:aL ["rows","sheets","views","number"] ["rows","sheets"] (aA eO):=iW
theorem nQ{fW:Addr}(F:iM K "views_below" "views_below" eO g fd)(T:m7 mg)(cL:aC K mg "windows" fX oG fI DA)(jg:aC K mg "below" mE mY fB Up)(cD:aC K mg "item_row" gV yH fW MB)(eE:aC K mg "plain" mD gY fP Ob):aF P w K mg zt bI 3 g fd mY zg:=by
 have KZ:aF P w K mg zt bI 2 fB Up mY F5:=ID jg.F T cL;have Ae:aF P w K mg zt bI 1 fW MB yH Ad:=AV cD.F T;have CA:aF P w K mg zt bI 1 fP Ob gY BA:=Cy eE.F;refine iZ F tV λdP A zn s0 H vs Q E hr h=>?_;obtain⟨r,L,rows,ss,sh,rfl,hR,hL,hsl,ff,hes,vt,Bg,hin,AK,G2,k⟩:=h;have hu:=lO hr;refine⟨_,(aj (br (i:=2) tV.nd qh) (aj (eL PassesOwn.never rfl (cX (aG jg KZ hr (aa (pv 0) (aa (pv 1) ah)))) (cy (i:=3) tV.nd) (au (yT hu (pv 2) (pv 3) (aG eE CA hr (aa (EK (N:=["item","stretch","views"]) (ur (sc:=aA eO) (NX:=["rows","sheets","views","number"]) (jx:=[none,none,some 2]) rfl rfl rfl (by decide +kernel) (by decide +kernel) rfl (by decide +kernel) rfl (by decide +kernel)) rfl (cX (aW bL (pv 0) (pv 3))) (λ_ _ _ _ _ _=>(cy (i:=0) (show List.Nodup (["item","stretch","views"]:List Str) by decide +kernel))) (λ_ _ _ _ _ _=>lC) (λ_ _ _ _ _ _=>(QF (aG cD Ae hr (aa (pv 0) (aa (pv 2) ah))))) (λ_ _ _ _ _ _=>(cy (i:=1) (show List.Nodup (["item","stretch","views"]:List Str) by decide +kernel))) (λ_ _ _ _ _ _=>lC) (λ_ _ _ _ _ _=>(pv 1))) ah)) rfl))) (au (aQ (pv 2))))),?_⟩;intro S hS;have s1:aK H (aN H S (.dK [])):=ak hS _;refine⟨_,rfl,_,rfl,r,L,rows,ss,rfl,hR.same s1,s1 _ _ hL,hsl,ff,hes,vt,Bg,hin,λks o H2 ho s2 tp sk kl Zm=>?_⟩;have Xu:=s2 _ _ (af (H:=H) (a:=S) (o:=.dK []));have Z9:o≠S:=(az af Zm).symm;refine⟨o,rfl,⟨_,bM.of ho⟩,eN (K:=K) (a:=o) (xs:=ks.map V.int) (λi σ H3=>∃ (kvs:List (iy × V)) (u:Option V),σ=[some (.ref r),some (.ref L),some (.ref S),u]/\H3 S=some (.dK kvs)/\MG H3 kvs sh (ks.take i)/\kvs.length<=i/\(∀ x a,cU kvs (Sum.inl x)=some (.ref a)->H a=none/\a≠S)/\(∀ a ob,a≠S->H2 a=some ob->H3 a=some ob)) ⟨[],none,rfl,Xu,(λy hy=>by simp at hy),iT _,(λx a e=>by cases e),λ_ _ _ e=>e⟩ ?_ ?_ ?_⟩
 ·rintro i σ H3 _ ⟨_,_,_,_,_,_,_,k3⟩;exact bM.of (k3 o _ Z9 ho)
 ·rintro i x σ H3 hi ⟨kvs,u,rfl,Of,O0,hk3,hn3,k3⟩;rw[j5]at hi;obtain⟨x,ex,rfl⟩:=Option.map_eq_some_iff.mp hi;obtain⟨x0,x1⟩:=tp.Hf x (t7 ex);obtain⟨es,iC⟩:∃ es,rows[x.toNat]?=some es:=⟨_,tO (by lia)⟩;have QZ:aK H H3:=λa ob e=>k3 a ob (az e hS) (s2 _ _ (s1 _ _ e));obtain⟨Bh,Oa,zc⟩:=hR.same QZ;obtain⟨vi,F6,hI⟩:=zc.get' (i:=x.toNat) (b:=aI es) (by rw[j5,iC];rfl);obtain⟨b,Sx,rfl,hb,uE⟩:=id hI;obtain⟨NC,hok⟩:=CO sh es;have shx:=AK x es x0 iC
  have mj:(bG sh (aI es)).length<=10000:=by
   have z:=yj sh (aI es) hok;rw[NC,← shx]at z;have:=G2 x x0 x1;lia
  have part:∀ j,(bG sh ((aI es).take j)).length<=10000:=λj=>by
   have e:bG sh (aI es)=bG sh ((aI es).take j)++bG sh ((aI es).drop j):=by rw[← gB,List.take_append_drop]
   rw[e,dH]at mj;lia
  have ze:vR Bh x=some (.ref b):=by
   have z:=gy F6;rw[show ((x.toNat:Nat):Int)=x by lia]at z;exact z
  refine⟨_,rfl,_,rfl,r,_,_,_,rfl,rfl,bM.of Oa,ze,b,rfl,⟨_,bM.of hb⟩,λacc dR=>AO (K:=K) (a:=b) (xs:=Sx) (λj σ H5=>∃ (u v:Option V) (as:List Addr),σ=[u,v,some (.ref S)]/\H5 acc=some (.lst (as.map V.ref))/\bU H5 as (bG sh ((aI es).take j))/\aK H3 H5) ⟨none,none,[],rfl,af,.nil,ak dR _⟩ (λj σ H5 _ ⟨_,_,_,_,_,_,s5⟩=>bM.of (s5 _ _ hb)) ?_ ?_⟩
  ·rintro j v σ H5 hj ⟨u,u2,as,rfl,h5,p5,s5⟩;obtain⟨it,ei,hiv⟩:=uE.get hj;have st:bG sh ((aI es).take (j+1))=bG sh ((aI es).take j)++vv (λn=>dc (sh n)) it:=by rw[take_snoc ei,gB,mJ]
   refine Xj ?_;refine j3 ?_;refine⟨_,rfl,_,rfl,v,it,S,kvs,(λn=>dc (sh n)),rfl,hiv.same s5,s5 _ _ Of,λn hn=>?_,λa2 H6 R6 s6 hor=>?_⟩
   ·subst hn
    obtain⟨a,ha,Ra⟩:=O0 n (tp.dn i x ex n ⟨x0,es,iC,by
     rw[← lE];unfold iB;rw[List.mem_filterMap]
     exact⟨.win n,t7 ei,rfl⟩⟩)
    exact⟨a,ha,Ra.same s5⟩
   obtain⟨XN,h6a,p6⟩:=id R6
   have na2:a2≠acc:=by
    rcases hor with ⟨n,hn,hv⟩|hn
    ·subst hn
     obtain⟨a,ha,as0,h0',_⟩:=O0 n (tp.dn i x ex n ⟨x0,es,iC,by
      rw[← lE];unfold iB;rw[List.mem_filterMap]
      exact⟨.win n,t7 ei,rfl⟩⟩)
     rw[hv]at ha;cases ha;exact az h0' dR
    ·exact (az h5 hn).symm
   have h6:=s6 _ _ h5;have pl:=part (j+1);rw[st,dH]at pl;have al:=p5.len;have al2:=p6.len;refine⟨a2,rfl,⟨_,bM.of h6a⟩,KG (K:=K) (a:=a2) (acc:=acc) (g:=xA 1) (tt:=Qt) (te:=Wy 1) (xs:=XN.map V.ref) (λl σ H7=>∃ v2:Option V,σ=[some v,v2,some (.ref S)]/\H7 acc=some (.lst ((as++XN.take l).map V.ref))/\bU H7 (as++XN.take l) (bG sh ((aI es).take j)++(vv (λn=>dc (sh n)) it).take l)/\cN acc H6 H7/\aK H3 H7) ?_ ?_ ?_ ?_⟩
   ·exact⟨u2,rfl,(by simpa using h6),(by simpa using p5.same s6),(λ_ _ e _=>e),s5.trans s6⟩
   ·rintro l σ H7 _ ⟨_,_,_,_,K7,_⟩;exact bM.of (K7 a2 _ h6a na2)
   ·rintro l y σ H7 hl ⟨v2,rfl,h7,p7,K7,s7⟩;rw[j5]at hl;obtain⟨t,et,rfl⟩:=Option.map_eq_some_iff.mp hl;obtain⟨pr,epr,hpr⟩:=p6.get et
    have ll:l<XN.length:=by
     rcases Nat.lt_or_ge l XN.length with q|q
     ·exact q
     ·rw[List.getElem?_eq_none q]at et;cases et
    have aac:zR H7 t pr:=K7 t _ hpr (λz=>by
     have q:H6 acc=some (.tup [.int pr.1,.int pr.2]):=by rw[← z];exact hpr
     rw[h6]at q
     cases q)
    have K8:cN acc H7 (aN H7 acc (.lst ((as++XN.take l).map V.ref++[.ref t]))):=aM acc _ _;refine Xj ?_;refine j3 ?_;refine⟨_,rfl,_,h7,?_,_,rfl,?_,?_,?_,bX dR s7 K8⟩
    ·rw[cR,dH,jG];exact aV (by lia)
    ·rw[af,take_snoc et,← qL,j0 (l₁:=as++XN.take l)];rfl
    ·rw[take_snoc et,take_snoc epr,← qL,← qL]
     exact bU.snoc (p7.keep h7 K8) (K8 t _ aac (λz=>by
      have q:H7 acc=some (.tup [.int pr.1,.int pr.2]):=by rw[← z];exact aac
      rw[h7]at q
      cases q))
    ·exact λa ob e n=>K8 a ob (K7 a ob e n) n
   ·rintro σ H7 ⟨v2,rfl,h7,p7,K7,s7⟩;rw[cR,kX]at h7 p7;rw[al2,kX]at p7;exact⟨_,_,_,rfl,h7,(by rw[st];exact p7),s7⟩
  ·rintro σ H5 ⟨u,u2,as,rfl,h5,p5,s5⟩;rw[uE.len,kX]at p5
   have kvl:i<ks.length:=by
    rcases Nat.lt_or_ge i ks.length with q|q
    ·exact q
    ·rw[List.getElem?_eq_none q]at ex;cases ex
   refine⟨acc,_,rfl,⟨as,h5,p5⟩,by lia,λq H6 R6 s6 hq=>?_⟩;have XJ:=s6 _ _ (s5 _ _ Of);have nqS:q≠S:=(az (s5 _ _ Of) hq).symm;have er:cJ (bG sh (aI es))=dc (sh x):=by rw[Ce _ (Ol sh _ hok),NC,shx]
   rw[er]at R6;have k7:∀ a ob,a≠S->H6 a=some ob->aN H6 S (.dK (gQ kvs (Sum.inl x) (.ref q))) a=some ob:=λa ob n e=>by rw[aH n];exact e
   refine⟨_,rfl,_,rfl,S,_,rfl,FL.k (k:=Sum.inl x) XJ (aV (by lia)),?_⟩;refine⟨gQ kvs (Sum.inl x) (.ref q),_,rfl,af,λy hy=>?_,?_,λy a e=>?_,λa ob n e=>k7 a ob n (s6 _ _ (s5 _ _ (k3 a ob n e)))⟩
   ·rw[kq];by_cases c:y=x
    ·rw[if_pos (by rw[c]),c];exact⟨q,rfl,R6.IF XJ nqS k7⟩
    ·rw[if_neg (λz=>c (Sum.inl.inj z))];rw[take_snoc ex]at hy;rcases List.mem_append.mp hy with z|z
     ·obtain⟨a,ha,Ra⟩:=O0 y z;exact⟨a,ha,((Ra.same s5).same s6).IF XJ (hn3 y a ha).2 k7⟩
     ·exact absurd (by simpa using z) c
   ·have:=jD kvs (Sum.inl x) (V.ref q);lia
   ·rw[kq]at e;by_cases c:y=x
    ·rw[if_pos (by rw[c])]at e;cases e;refine⟨?_,nqS⟩
     cases z:H q with
     | none=>rfl
     | some ob=>exact absurd ((s5 _ _ (QZ _ _ z)).symm.trans hq) (by simp)
    ·rw[if_neg (λz=>c (Sum.inl.inj z))]at e;exact hn3 y a e
 ·rintro σ H3 ⟨kvs,u,rfl,Of,O0,hk3,hn3,k3⟩;rw[cR,kX]at O0;exact⟨_,rfl,k S kvs ks H3 Of O0 tp sk (λx _ a e=>(hn3 x a e).1) (λa ob e=>k3 a ob (az e hS) (s2 _ _ (s1 _ _ e))) hS⟩
inductive Ga(vs:List V)(H:Hp)(Q:VK)(E:XK):Prop
 | mk (r:Addr) (rows:dI) (s:Int) (sh:Int->List Int) (_:vs=[.ref r,.int s]) (_:jr H r (rows.map aI)) (_:rows.length<=1000) (_:(∀ es∈rows,es.length<=1000)) (_:jt rows) (_:FP rows) (_:0<=s) (_:s<rows.length) (_:rX rows sh) (_:(∀ x:Int,0<=x->x<rows.length->(sh x).length<=10000)) (_ :
 ∀ (o:Addr) (H':Hp),cV H' o (dc (sh s))->aK H H'->H o=none->Q (.ref o) H')
theorem Uq:aL ["rows","sheet"] ["rows","sheet"] (aA yc):=iW
theorem IG{fW:Addr}(F:iM K "shown" "shown" yc g fd)(T:m7 mg)(cL:aC K mg "windows" fX oG fI DA)(jg:aC K mg "below" mE mY fB Up)(cD:aC K mg "item_row" gV yH fW MB)(eE:aC K mg "plain" mD gY fP Ob)(cO:aC K mg "views_below" eO mY fV fdV):aF P w K mg zt bI 4 g fd vD Ga:=by
 have jP:aF P w K mg zt bI 3 fV fdV mY zg:=nQ cO.F T cL jg cD eE;refine iZ F Uq λdP A zn s0 H vs Q E hr h=>?_;obtain⟨r,rows,s,sh,rfl,hR,ff,hes,vt,Bg,h0,h1,AK,G2,k⟩:=h;have hu:=lO hr;refine⟨_,(au (aQ (jR hu (aG cO jP hr (aa (pv 0) (aa (bK (aa (pv 1) ah)) ah))) (pv 1)))),?_⟩;refine⟨_,rfl,_,rfl,rV,λL hL=>?_⟩;have s1:aK H (aN H L (.lst [.int s])):=ak hL _;refine⟨r,L,rows,[s],sh,rfl,hR.same s1,af,(by simp),ff,hes,vt,Bg,(λx hx=>by rw[List.mem_singleton.mp hx];exact⟨h0,h1⟩),AK,G2,λS kvs ks H' hS hv tp sk hn s' _=>?_⟩;have sk:=sk s (by simp);obtain⟨a,ha,Ra⟩:=hv s sk;have z:=lD.k (k:=Sum.inl s) hS;rw[ha]at z;exact⟨_,rfl,S,_,rfl,z,k a H' Ra (s1.trans s') (aX s1 (hn s sk a ha))⟩
def XO:aU->aU->Bool
 | .aS _ b,.aS c _=>decide (b=c)
 | _,_=>false
inductive Q3(vs:List V)(H:Hp)(Q:VK)(E:XK):Prop
 | mk (x y:V) (i j:aU) (_:vs=[x,y]) (_:dJ H x i) (_:dJ H y j) (_:Q (.bl (XO i j)) H)
theorem Om:aL ["one","other"] ["one","other"] (aA nj):=iW
theorem K9{f:Addr}(F:iM K "goes_on" "goes_on" nj f fd)(T:m7 mg):aF P w K mg zt bI 1 f fd G6 Q3:=by
 refine iZ F Om λdP A zn s H vs Q E hr h=>?_;obtain⟨x,y,i,j,rfl,⟨a,rfl,ha⟩,⟨b,rfl,hb⟩,k⟩:=h;refine⟨_,(au (aQ (vO (lZ gj (aW bC (pv 0) ay) bJ (bw _)) (vO (lZ gj (aW bC (pv 1) ay) bJ (bw _)) (zI (lZ gj (aW bC (pv 0) ay) (aW bC (pv 1) ay) (bw _))))))),?_⟩
 cases i with
 | win n=>exact⟨_,rfl,a,_,_,_,rfl,rfl,d8.of ha,rfl,rfl,_,rfl,dQ (λz=>absurd z (by decide)) (λ_=>k)⟩
 | aS p q =>
  refine⟨_,rfl,a,_,_,_,rfl,rfl,d8.of ha,rfl,rfl,_,rfl,dQ (λ_=>?_) (λz=>absurd (by decide) z)⟩
  cases j with
  | win n=>exact⟨_,rfl,b,_,_,_,rfl,rfl,d8.of hb,rfl,rfl,_,rfl,dQ (λz=>absurd z (by decide)) (λ_=>k)⟩
  | aS u v =>
   refine⟨_,rfl,b,_,_,_,rfl,rfl,d8.of hb,rfl,rfl,_,rfl,dQ (λ_=>?_) (λz=>absurd (by decide) z)⟩;refine⟨_,rfl,a,_,_,_,rfl,rfl,d8.of ha,rfl,_,rfl,b,_,_,_,rfl,rfl,d8.of hb,rfl,rfl,?_⟩
   have e:decide (V.int q=V.int u)=decide (q=u):=by
    by_cases c:q=u
    ·rw[c];simp
    ·have c2:¬ V.int q=V.int u:=λz=>c (V.int.inj z);rw[decide_eq_false c,decide_eq_false c2]
   rw[e];exact k
def b9(t:List aU)(it:aU):List aU :=
 match t.getLast?,it with
 | some (.aS a b),.aS c d=>if b=c then t.dropLast++[.aS a d] else t++[it]
 | _,_=>t++[it]
def La(aP:List aU):List aU:=aP.foldl b9 []
theorem Lb(aP:List aU):∀ t:List aU,(aP.foldl b9 t).length<=t.length+aP.length:=by
 induction aP with
 | nil=>intro t;simp
 | cons e aP ih =>
  intro t;rw[qM];have z:=ih (b9 t e)
  have z2:(b9 t e).length<=t.length+1:=by
   unfold b9;split
   ·split
    ·rw[dH,List.length_dropLast,xh];lia
    ·simp
   ·simp
  rw[oJ];lia
inductive nR(vs:List V)(H:Hp)(Q:VK)(E:XK):Prop
 | mk (r:Addr) (aP:List aU) (_:vs=[.ref r]) (_:bY H (.ref r) aP) (_:aP.length<=1000000) (_ :
 ∀ (o:Addr) (H':Hp),bY H' (.ref o) (La aP)->aK H H'->H o=none->Q (.ref o) H')
theorem tW:aL ["items","told","item"] ["items"] (aA iY):=iW
theorem nT{f:Addr}(F:iM K "plain_items" "plain_items" iY f fd)(T:m7 mg)(ja:aC K mg "goes_on" nj G6 fG fdG):aF P w K mg zt bI 2 f fd oG nR:=by
 have Q4:aF P w K mg zt bI 1 fG fdG G6 Q3:=K9 ja.F T;refine iZ F tW λdP A zn s H vs Q E hr h=>?_;obtain⟨r,aP,rfl,⟨a,Sx,e,ou,uE⟩,ff,k⟩:=h;cases e;refine⟨_,(aj (br (i:=1) tW.nd (bK ah)) (aj (eL PassesOwn.never rfl (cX (pv 0)) (cy (i:=2) tW.nd) (au (bV (PW.pt (rK (ng (pv 1) (λ_=>rfl)) (qN (rJ (aG ja Q4 hr (aa (aW bL (pv 1) (pT j7 ay)) (aa (pv 2) ah))))))) (au (uH (c9 (aa bJ (aa (aW bC (aW bL (pv 1) (pT j7 ay)) ay) (aa (aW bC (pv 2) ay) ah)))) (xW (pv 1) (pT j7 ay) rM))) (au (aY (gx vJ qy qz cB (pv 1) (aa (pv 2) ah))))))) (au (aQ (pv 1))))),?_⟩;refine⟨lF,λq hq=>?_⟩;have s0:aK H (aN H q (.lst [])):=ak hq _;refine⟨_,rfl,r,rfl,⟨_,bM.of (s0 _ _ ou)⟩,eN (K:=K) (a:=r) (xs:=Sx) (λi σ H2=>∃ (vs:List V) (u:Option V),σ=[some (.ref r),some (.ref q),u]/\H2 q=some (.lst vs)/\cE (dJ H2) vs ((aP.take i).foldl b9 [])/\aK H H2) ⟨[],none,rfl,af,.nil,s0⟩ (by rintro i σ H2 _ ⟨_,_,_,_,_,s⟩;exact bM.of (s _ _ ou)) ?_ ?_⟩
 ·rintro i x σ H2 hi ⟨vs,u,rfl,jz,hb,s⟩;obtain⟨it,ei,hiv⟩:=uE.get hi;have hx2:=hiv.same s;have step:(aP.take (i+1)).foldl b9 []=b9 ((aP.take i).foldl b9 []) it:=by rw[take_snoc ei,List.foldl_append];rfl
  have bl:vs.length<sizeLine:=by
   have z:=hb.len;have z2:=Lb (aP.take i) [];rw[jG,tP]at z2;exact aV (by lia)
  have app:b9 ((aP.take i).foldl b9 []) it=(aP.take i).foldl b9 []++[it]->∃ (FO:List V) (u':Option V),[some (V.ref r),some (.ref q),some x]=[some (.ref r),some (.ref q),u']/\(aN H2 q (.lst (vs++[x]))) q=some (.lst FO)/\cE (dJ (aN H2 q (.lst (vs++[x])))) FO ((aP.take (i+1)).foldl b9 [])/\aK H (aN H2 q (.lst (vs++[x]))):=λe=>by
   refine⟨_,_,rfl,af,?_,bX hq s (aM q _ _)⟩;rw[step,e];exact cE.snoc (hb.mono λv i h=>h.keep jz (aM q _ _)) (hx2.keep jz (aM q _ _))
  rcases vL ((aP.take i).foldl b9 []) with hn|⟨t0,l0,hn⟩
  ·have hvs:vs=[]:=by
    rw[hn]at hb;exact List.eq_nil_of_length_eq_zero hb.len
   subst hvs;refine⟨_,rfl,false,.inl ⟨_,bM.of jz,rfl⟩,gH (gH ?_)⟩;refine⟨_,rfl,.inl ⟨rfl,_,bM.of jz⟩,_,rfl,q,_,_,rfl,rfl,jz,bl,app ?_⟩;rw[hn];rfl
  ·rw[uc]at hn;have hb':=hb;rw[hn]at hb';obtain⟨us,v0,rfl,hb0,hv0⟩:=hb'.split;obtain⟨a0,rfl,FZ⟩:=id hv0;refine⟨_,rfl,true,.inl ⟨_,bM.of jz,by simp⟩,j3 ?_⟩;refine⟨_,rfl,_,rfl,q,_,_,_,rfl,rfl,bM.of jz,qf _ _,_,rfl,_,_,l0,it,rfl,hv0,hx2,_,rfl,?_⟩
   cases l0 with
   | win n =>
    refine gH ?_;refine⟨_,rfl,.inl ⟨rfl,_,bM.of jz⟩,_,rfl,q,_,_,rfl,rfl,jz,bl,app ?_⟩;rw[hn];unfold b9;rw[vM]
   | aS p1 p2 =>
    cases it with
    | win n =>
     refine gH ?_;refine⟨_,rfl,.inl ⟨rfl,_,bM.of jz⟩,_,rfl,q,_,_,rfl,rfl,jz,bl,app ?_⟩;rw[hn];unfold b9;rw[vM]
    | aS c d =>
     refine dQ (λz=>?_) (λz=>?_)
     ·have e2:p2=c:=of_decide_eq_true z;obtain⟨ax,rfl,hax⟩:=id hx2;refine⟨_,rfl,_,rfl,q,_,_,_,rfl,rfl,bM.of jz,qf _ _,a0,_,_,_,rfl,rfl,d8.of FZ,rfl,_,rfl,ax,_,_,_,rfl,rfl,d8.of hax,rfl,QS,λt ht=>?_⟩;refine⟨_,rfl,_,rfl,q,_,_,us.length,rfl,rfl,ak ht _ _ _ jz,(by rw[dH];exact HN _),?_⟩;rw[HP];refine⟨_,_,rfl,af,?_,bX hq (s.trans (ak ht _)) (aM q _ _)⟩
      have e3:(aP.take (i+1)).foldl b9 []=t0++[.aS p1 d]:=by
       rw[step,hn];unfold b9;rw[vM,List.dropLast_concat];show (if p2=c then t0++[aU.aS p1 d] else _)=_;rw[if_pos e2]
      rw[e3];exact cE.new (it:=.aS p1 d) jz hb0 ht _
     ·have e2:¬ p2=c:=λw=>z (decide_eq_true w);refine⟨_,rfl,.inl ⟨rfl,_,bM.of jz⟩,_,rfl,q,_,_,rfl,rfl,jz,bl,app ?_⟩;rw[hn];unfold b9;rw[vM];show (if p2=c then _ else t0++[aU.aS p1 p2]++[aU.aS c d])=_;rw[if_neg e2]
 ·rintro σ H2 ⟨vs,u,rfl,jz,hb,s⟩;rw[uE.len,kX]at hb;exact⟨_,rfl,k q H2 ⟨q,vs,rfl,jz,hb⟩ s hq⟩
def cY(r:Row):List aU:=r.map λp=>.aS p.1 p.2
inductive wR(vs:List V)(H:Hp)(Q:VK)(E:XK):Prop
 | mk (r:Addr) (row:Row) (_:vs=[.ref r]) (_:cV H r row) (_:row.length<=100000) (_ :
 ∀ (o:Addr) (H':Hp),bY H' (.ref o) (cY (cJ row))->aK H H'->H o=none->Q (.ref o) H')
theorem Ur:aL ["row"] ["row"] (aA rO):=iW
theorem vY{f:Addr}(F:iM K "inked" "inked" rO f fd)(T:m7 mg)(eE:aC K mg "plain" mD gY fP Ob):aF P w K mg zt bI 2 f fd gY wR:=by
 have CA:aF P w K mg zt bI 1 fP Ob gY BA:=Cy eE.F;refine iZ F Ur λdP A zn s H vs Q E hr h=>?_;obtain⟨r,row,rfl,R,ff,k⟩:=h;refine⟨_,(au (aQ (lT (N:=["start","stop"]) (ur (sc:=aA rO) (NX:=["row"]) (jx:=[none,none]) rfl rfl rfl (by decide +kernel) (by decide +kernel) rfl (by decide +kernel) rfl (by decide +kernel)) rfl (cX (aG eE CA hr (aa (pv 0) ah))) (λ_ _ _ _ _ _=>(yV (n:=2) rfl (bR (cy (i:=0) (show List.Nodup (["start","stop"]:List Str) by decide +kernel)) (bR (cy (i:=1) (show List.Nodup (["start","stop"]:List Str) by decide +kernel)) iX)))) (λ_ _ _ _ _ _=>lC) (λ_ _ _ _ _ _=>(c9 (aa bJ (aa (pv 0) (aa (pv 1) ah)))))))),?_⟩;refine⟨_,rfl,r,row,rfl,R,by lia,λq H1 R1 s1 hq=>?_⟩;obtain⟨as,h1,p1⟩:=id R1;have pl:=rD row;refine⟨q,rfl,⟨_,bM.of h1⟩,λacc dR=>ku (K:=K) (a:=q) (xs:=as.map V.ref) (λi σ H2=>∃ (u v:Option V) (vs:List V),σ=[u,v]/\H2 acc=some (.lst vs)/\cE (dJ H2) vs (cY ((cJ row).take i))/\aK H1 H2) ⟨none,none,[],rfl,af,.nil,ak dR _⟩ (by rintro i σ H2 _ ⟨_,_,_,_,_,_,s⟩;exact bM.of (s _ _ h1)) ?_ ?_⟩
 ·rintro i x σ H2 hi ⟨u,v,vs,rfl,ha,t2,s⟩;rw[j5]at hi;obtain⟨a,ea,rfl⟩:=Option.map_eq_some_iff.mp hi;obtain⟨⟨st,en⟩,ep,hpa⟩:=p1.get ea;have bl:=t2.len;unfold cY at bl;rw[cR,jG]at bl;refine⟨a,_,rfl,d8.of (s _ _ hpa),rfl,_,_,rfl,_,_,rfl,rfl,yes (j3 ?_)⟩;refine⟨_,rfl,_,rfl,QS,λt ht=>?_⟩;refine⟨vs,ak ht _ _ _ ha,aV (by lia),_,_,_,rfl,af,?_,bX dR (s.trans (ak ht _)) (aM acc _ _)⟩
  have e:cY ((cJ row).take (i+1))=cY ((cJ row).take i)++[.aS st en]:=by
   rw[take_snoc ep];unfold cY;rw[j0];rfl
  rw[e];exact cE.new (it:=.aS st en) ha t2 ht _
 ·rintro σ H2 ⟨u,v,vs,rfl,ha,t2,s⟩;rw[cR,p1.len,kX]at t2;refine k acc H2 ⟨acc,vs,rfl,ha,t2⟩ (s1.trans s) ?_
  cases e:H acc with
  | none=>rfl
  | some o=>exact absurd ((s1 _ _ e).symm.trans dR) (by simp)
def iP:aU->List Int
 | .win n=>[-1-n]
 | .aS a b=>run a (b-a).toNat
def dM(aP:List aU):List Int:=aP.flatMap iP
def qI:aU->Prop
 | .win n=>0<=n
 | .aS a b=>0<=a/\a<b
def iV(aP:List aU):Prop:=∀ it∈aP,qI it
theorem iG(a b:List aU):dM (a++b)=dM a++dM b:=by unfold dM;rw[List.flatMap_append]
theorem qm(a:aU):dM [a]=iP a:=by simp[dM]
theorem iV.append{a b:List aU}(h:iV a)(g:iV b):iV (a++b):=λit hm=>(List.mem_append.mp hm).elim (h it) (g it)
theorem iV.one{a:aU}(h:qI a):iV [a]:=λit hm=>by rw[List.mem_singleton.mp hm];exact h
theorem Q5(t:List aU){n:Int}(h:0<=n):bH t (-1-n)=t++[.win n]:=by
 unfold bH;rw[if_pos (by lia)];congr 3;lia
theorem Oo(t:List aU)(p s:Int)(h:0<=s):bH (t++[.aS p s]) s=t++[.aS p (s+1)]:=by
 unfold bH;rw[if_neg (by lia),vM];show (if s=s then (t++[aU.aS p s]).dropLast++[.aS p (s+1)] else _)=_;rw[if_pos rfl,List.dropLast_concat]
theorem EV(t:List aU)(p:Int):∀ (n:Nat) (s:Int),0<=s->(run s n).foldl bH (t++[.aS p s])=t++[.aS p (s+n)]
 | 0,s,_=>by simp[run]
 | n+1,s,h=>by
  rw[run,qM,Oo t p s h,EV t p n (s+1) (by lia)];congr 3;lia
theorem Lc(t:List aU)(it:aU)(h:qI it):b9 t it=(iP it).foldl bH t:=by
 cases it with
 | win n =>
  show b9 t (.win n)=bH t (-1-n);rw[Q5 t h];unfold b9
  cases t.getLast? with
  | none=>rfl
  | some l=>cases l <;> rfl
 | aS a b =>
  obtain⟨a0,ab⟩:=h;have e:(b-a).toNat=(b-(a+1)).toNat+1:=by lia
  show b9 t (.aS a b)=(run a (b-a).toNat).foldl bH t;rw[e,run,qM]
  have lQ:∀ (u:List aU) (p:Int),(run (a+1) (b-(a+1)).toNat).foldl bH (u++[.aS p (a+1)])=u++[.aS p b]:=λu p=>by
   rw[EV u p _ _ (by lia)];congr 3;lia
  unfold b9 bH;rw[if_neg (by lia)]
  cases t.getLast? with
  | none=>exact (lQ t a).symm
  | some l =>
   cases l with
   | win n=>exact (lQ t a).symm
   | aS p q =>
    show (if q=a then t.dropLast++[aU.aS p b] else t++[aU.aS a b])=List.foldl bH (if q=a then t.dropLast++[aU.aS p (a+1)] else t++[aU.aS a (a+1)]) _;by_cases c:q=a
    ·rw[if_pos c,if_pos c,lQ]
    ·rw[if_neg c,if_neg c,lQ]
theorem qo(aP:List aU)(h:iV aP):La aP=aI (dM aP):=by
 unfold La aI dM;rw[rR]
 have z:∀ (aP:List aU) (t:List aU),iV aP->aP.foldl b9 t=aP.foldl (λc a=>(iP a).foldl bH c) t:=by
  intro aP
  induction aP with
  | nil=>intro t _;rfl
  | cons it aP ih =>
   intro t h;rw[qM,qM,Lc t it (h it (by simp))];exact ih _ λi hi=>h i (t6 _ hi)
 exact z aP [] h
theorem Oq(t:List aU)(e:Int)(h:iV t):dM (bH t e)=dM t++[e]/\iV (bH t e):=by
 unfold bH;by_cases c:e<0
 ·rw[if_pos c,iG,qm];refine⟨?_,h.append (iV.one (by show 0<=-1-e;lia))⟩;show dM t++[-1-(-1-e)]=_;rw[show -1-(-1-e)=e by lia]
 ·rw[if_neg c]
  have pl:dM (t++[.aS e (e+1)])=dM t++[e]/\iV (t++[.aS e (e+1)]):=by
   refine⟨?_,h.append (iV.one ⟨by lia,by lia⟩)⟩;rw[iG,qm];show _++run e (e+1-e).toNat=_;rw[show (e+1-e).toNat=1 by lia];rfl
  rcases vL t with rfl|⟨t',l,rfl⟩
  ·exact pl
  ·rw[uc]at h pl ⊢;rw[vM]
   cases l with
   | win n=>exact pl
   | aS a b =>
    show dM (if b=e then (t'++[aU.aS a b]).dropLast++[.aS a (e+1)] else (t'++[aU.aS a b])++[.aS e (e+1)])=_/\iV (if b=e then (t'++[aU.aS a b]).dropLast++[.aS a (e+1)] else (t'++[aU.aS a b])++[.aS e (e+1)]);by_cases hb:b=e
    ·subst hb;obtain⟨a0,ab⟩:0<=a/\a<b:=h (.aS a b) (by simp);rw[if_pos rfl,List.dropLast_concat];refine⟨?_,iV.append (λi hi=>h i (xU _ hi)) (iV.one ⟨a0,by lia⟩)⟩;rw[iG,iG,qm,qm,qL];congr 1;show run a (b+1-a).toNat=run a (b-a).toNat++[b];rw[show (b+1-a).toNat=(b-a).toNat+1 by lia,yR];congr 2;lia
    ·rw[if_neg hb];exact pl
theorem rY(es:List Int):dM (aI es)=es/\iV (aI es):=by
 have z:∀ (es:List Int) (t:List aU),iV t->dM (es.foldl bH t)=dM t++es/\iV (es.foldl bH t):=by
  intro es
  induction es with
  | nil=>intro t h;exact⟨by simp,h⟩
  | cons e es ih =>
   intro t h;obtain⟨h1,h2⟩:=Oq t e h;obtain⟨h3,h4⟩:=ih _ h2;exact⟨by rw[qM,h3,h1,qL];rfl,h4⟩
 obtain⟨h1,h2⟩:=z es [] (λi hi=>by cases hi);exact⟨by unfold aI;rw[h1];rfl,h2⟩
theorem rZ(r:Row):dM (cY r)=bN r:=by
 unfold dM cY bN;rw[List.flatMap_map];rfl
theorem zh{r:Row}(h:nO r):iV (cY r):=by
 intro it hm;unfold cY at hm;obtain⟨p,hp,rfl⟩:=List.mem_map.mp hm;exact h p hp
theorem Ot{ns:List Int}(h:∀ x∈ns,0<=x):cY (dc ns)=aI ns:=by
 have z:∀ (ns:List Int) (t:Row),(∀ x∈ns,0<=x)->cY (ns.foldl (λt n=>m6 t n (n+1)) t)=ns.foldl bH (cY t):=by
  intro ns
  induction ns with
  | nil=>intro t _;rfl
  | cons n ns ih =>
   intro t h;rw[qM,qM,ih _ λx hx=>h x (t6 _ hx)];congr 1;have n0:=h n (by simp);unfold m6 bH;rw[if_neg (by lia)];rcases vL t with rfl|⟨t',l,rfl⟩
   ·rfl
   ·rw[uc,vM];have e:(cY (t'++[l])).getLast?=some (.aS l.1 l.2):=by unfold cY;rw[j0];exact vM
    rw[e];show cY (if l.2=n then (t'++[l]).dropLast++[(l.1,n+1)] else t'++[l]++[(n,n+1)])=if l.2=n then (cY (t'++[l])).dropLast++[.aS l.1 (n+1)] else cY (t'++[l])++[.aS n (n+1)];by_cases c:l.2=n
    ·rw[if_pos c,if_pos c,List.dropLast_concat];unfold cY;rw[j0,j0];simp
    ·rw[if_neg c,if_neg c];unfold cY;rw[j0];rfl
 exact z ns [] h
abbrev sP:=aU × Row × Int × Int
def dh(sh:Int->List Int)(it:aU):Row:=vv (λn=>dc (sh n)) it
def cu(sh:Int->List Int):Int->List aU->List sP
 | _,[]=>[]
 | f,it::r=>(it,dh sh it,f,f+mj (dh sh it))::cu sh (f+mj (dh sh it)) r
theorem zj(sh:Int->List Int)(b:List aU):∀ (a:List aU) (f:Int),cu sh f (a++b)=cu sh f a++cu sh (f+mj (bG sh a)) b
 | [],f=>by simp[cu,bG,mj]
 | it::a,f=>by
  rw[List.cons_append,cu,cu,zj sh b a,List.cons_append];have e:bG sh (it::a)=dh sh it++bG sh a:=by unfold bG;rw[mZ];rfl
  rw[e,Cf,Int.add_assoc]
theorem EW(sh:Int->List Int):∀ (a:List aU) (f:Int),(cu sh f a).length=a.length
 | [],_=>rfl
 | _::a,f=>by rw[cu,oJ,oJ,EW sh a]
def r9(N:Addr->Prop)(H:Hp)(v:V)(d:sP):Prop:=∃ (a ra:Addr) (x:V),v=.ref a/\H a=some (.tup [x,.ref ra,.int d.2.2.1,.int d.2.2.2])/\dJ H x d.1/\cV H ra d.2.1/\N ra
theorem r9.same{N:Addr->Prop}{H H':Hp}{v:V}{d:sP}(s:aK H H'):r9 N H v d->r9 N H' v d:=λ⟨a,ra,x,e,h,i,r,n⟩=>⟨a,ra,x,e,s _ _ h,i.same s,r.same s,n⟩
theorem r9.keep{N:Addr->Prop}{H H':Hp}{v:V}{d:sP}{q:Addr}{xs:List V}(hq:H q=some (.lst xs))(nq:∀ a,N a->a≠q)(k:cN q H H'):r9 N H v d->r9 N H' v d:=λ⟨a,ra,x,e,h,i,r,n⟩=>⟨a,ra,x,e,k a _ h (by
 intro z;rw[z,hq]at h
 cases h),i.keep hq k,r.keep hq (nq ra n) k,n⟩
def Af(H:Hp)(kvs:List (iy × V))(sh:Int->List Int)(aP:List aU):Prop:=∀ n,aU.win n∈aP->∃ a,cU kvs (Sum.inl n)=some (.ref a)/\cV H a (dc (sh n))
theorem Af.same{H H':Hp}{kvs:List (iy × V)}{sh:Int->List Int}{aP:List aU}(s:aK H H')(h:Af H kvs sh aP):Af H' kvs sh aP:=λn hn=>by
 obtain⟨a,e,r⟩:=h n hn;exact⟨a,e,r.same s⟩
def aD(p:Int)(d:sP):List aU:=if d.2.2.2<=p then [d.1] else if p<=d.2.2.1 then [] else cY (cJ (qx 0 (p-d.2.2.1) 0 d.2.1))
def bD(p:Int)(d:sP):List aU:=if d.2.2.2<=p then [] else if p<=d.2.2.1 then [d.1] else cY (cJ (qx (p-d.2.2.1) (d.2.2.2-d.2.2.1) 0 d.2.1))
def aE(sh:Int->List Int)(p:Int):Int->List Int->List Int
 | _,[]=>[]
 | f,e::r=>(if f+(bf sh e).length<=p then [e] else if p<=f then [] else (bf sh e).take (p-f).toNat)++aE sh p (f+(bf sh e).length) r
def bE(sh:Int->List Int)(p:Int):Int->List Int->List Int
 | _,[]=>[]
 | f,e::r=>(if f+(bf sh e).length<=p then [] else if p<=f then [e] else (bf sh e).drop (p-f).toNat)++bE sh p (f+(bf sh e).length) r
theorem cz(sh:Int->List Int)(e:Int)(r:List Int):aT sh (e::r)=bf sh e++aT sh r:=by unfold aT;rw[mZ]
theorem nV(sh:Int->List Int)(a b:List Int):aT sh (a++b)=aT sh a++aT sh b:=by unfold aT;rw[List.flatMap_append]
theorem Ag(sh:Int->List Int)(p:Int)(y:List Int):∀ (x:List Int) (f:Int),aE sh p f (x++y)=aE sh p f x++aE sh p (f+(aT sh x).length) y
 | [],f=>by simp[aE,aT]
 | e::x,f=>by
  rw[List.cons_append,aE,aE,Ag sh p y x,qL,cz,dH,Int.add_assoc]
  push_cast
  rfl
theorem Ah(sh:Int->List Int)(p:Int)(y:List Int):∀ (x:List Int) (f:Int),bE sh p f (x++y)=bE sh p f x++bE sh p (f+(aT sh x).length) y
 | [],f=>by simp[bE,aT]
 | e::x,f=>by
  rw[List.cons_append,bE,bE,Ah sh p y x,qL,cz,dH,Int.add_assoc]
  push_cast
  rfl
theorem wU(sh:Int->List Int){e:Int}(h:0<=e):bf sh e=[e]:=by unfold bf;rw[if_neg (by lia)]
theorem rE(sh:Int->List Int):∀ (n:Nat) (a:Int),0<=a->aT sh (run a n)=run a n
 | 0,_,_=>rfl
 | n+1,a,h=>by rw[run,cz,wU sh h,rE sh n (a+1) (by lia)];rfl
theorem Q6(sh:Int->List Int)(p:Int):∀ (n:Nat) (a f:Int),0<=a->aE sh p f (run a n)=(run a n).take (p-f).toNat
 | 0,_,_,_=>by simp[run,aE]
 | n+1,a,f,h=>by
  rw[run,aE,Q6 sh p n (a+1) _ (by lia),wU sh h];show (if f+1<=p then [a] else if p<=f then [] else _)++(run (a+1) n).take (p-(f+1)).toNat=_;by_cases c:f+1<=p
  ·rw[if_pos c,show (p-f).toNat=(p-(f+1)).toNat+1 by lia];rfl
  ·rw[if_neg c,if_pos (by lia),show (p-f).toNat=0 by lia,show (p-(f+1)).toNat=0 by lia];rfl
theorem Q7(sh:Int->List Int)(p:Int):∀ (n:Nat) (a f:Int),0<=a->bE sh p f (run a n)=(run a n).drop (p-f).toNat
 | 0,_,_,_=>by simp[run,bE]
 | n+1,a,f,h=>by
  rw[run,bE,Q7 sh p n (a+1) _ (by lia),wU sh h];show (if f+1<=p then [] else if p<=f then [a] else _)++(run (a+1) n).drop (p-(f+1)).toNat=_;by_cases c:f+1<=p
  ·rw[if_pos c,show (p-f).toNat=(p-(f+1)).toNat+1 by lia];rfl
  ·rw[if_neg c,if_pos (by lia),show (p-f).toNat=0 by lia,show (p-(f+1)).toNat=0 by lia];rfl
theorem Q8(sh:Int->List Int){n:Int}(h:0<=n):bf sh (-1-n)=sh n:=by
 unfold bf;rw[if_pos (by lia),show -1-(-1-n)=n by lia]
theorem zk(sh:Int->List Int)(it:aU)(h:qI it):∀ q∈dh sh it,q.1<=q.2:=by
 cases it with
 | win n=>exact qe _
 | aS a b =>
  intro q hq;have:q=(a,b):=by simpa [dh,vv] using hq
  subst this;have:=h.2;show a<=b;lia
theorem oX(sh:Int->List Int)(it:aU)(h:qI it):bN (dh sh it)=aT sh (iP it):=by
 cases it with
 | win n =>
  show bN (dc (sh n))=aT sh [-1-n];rw[gO,cz,Q8 sh h];simp[aT]
 | aS a b =>
  show bN [(a,b)]=aT sh (run a (b-a).toNat);rw[jq,rE sh _ _ h.1];rfl
theorem qp(sh:Int->List Int)(it:aU)(h:qI it):mj (dh sh it)=(aT sh (iP it)).length:=by
 rw[← oX sh it h,wM _ (zk sh it h)]
theorem aae(sh:Int->List Int)(p f:Int)(it:aU)(h:qI it):dM (aD p (it,dh sh it,f,f+mj (dh sh it)))=aE sh p f (iP it):=by
 have tt:=qp sh it h
 have sp:dM (cY (cJ (qx 0 (p-f) 0 (dh sh it))))=(aT sh (iP it)).take (p-f).toNat:=by
  rw[rZ,uS _ _ _ (zk sh it h),oX sh it h];rfl
 unfold aD;show dM (if f+mj (dh sh it)<=p then [it] else if p<=f then [] else cY (cJ (qx 0 (p-f) 0 (dh sh it))))=_;rw[tt]
 cases it with
 | win n =>
  have e1:aT sh (iP (.win n))=bf sh (-1-n):=by show aT sh [-1-n]=_;rw[cz];simp[aT]
  rw[e1]at sp ⊢;show _=aE sh p f [-1-n];rw[aE,aE,jH];split
  ·rfl
  ·split
   ·rfl
   ·exact sp
 | aS a b =>
  have e1:aT sh (iP (.aS a b))=run a (b-a).toNat:=rE sh _ _ h.1;rw[e1]at sp ⊢;show _=aE sh p f (run a (b-a).toNat);rw[Q6 sh p _ _ _ h.1];have rl:=iN a (b-a).toNat;split
  ·rename_i c;rw[qm,xT (by lia)];rfl
  ·split
   ·rename_i c;rw[show (p-f).toNat=0 by lia];rfl
   ·exact sp
theorem aaf(sh:Int->List Int)(p f:Int)(it:aU)(h:qI it):dM (bD p (it,dh sh it,f,f+mj (dh sh it)))=bE sh p f (iP it):=by
 have tt:=qp sh it h
 have sp:dM (cY (cJ (qx (p-f) (f+mj (dh sh it)-f) 0 (dh sh it))))=(aT sh (iP it)).drop (p-f).toNat:=by
  rw[rZ,uS _ _ _ (zk sh it h),oX sh it h,xT (by rw[tt];lia)]
 unfold bD;show dM (if f+mj (dh sh it)<=p then [] else if p<=f then [it] else cY (cJ (qx (p-f) (f+mj (dh sh it)-f) 0 (dh sh it))))=_;have c1:(f+mj (dh sh it)<=p)=(f+(aT sh (iP it)).length<=p):=by rw[tt]
 simp only[c1]
 cases it with
 | win n =>
  have e1:aT sh (iP (.win n))=bf sh (-1-n):=by show aT sh [-1-n]=_;rw[cz];simp[aT]
  rw[e1]at sp ⊢;show _=bE sh p f [-1-n];rw[bE,bE,jH];split
  ·rfl
  ·split
   ·rfl
   ·exact sp
 | aS a b =>
  have e1:aT sh (iP (.aS a b))=run a (b-a).toNat:=rE sh _ _ h.1;rw[e1]at sp ⊢;show _=bE sh p f (run a (b-a).toNat);rw[Q7 sh p _ _ _ h.1];have rl:=iN a (b-a).toNat;split
  ·rename_i c;rw[BL (by lia)];rfl
  ·split
   ·rename_i c;rw[qm,show (p-f).toNat=0 by lia];rfl
   ·exact sp
theorem II(sh:Int->List Int)(p:Int):∀ (aP:List aU) (f:Int),iV aP->dM ((cu sh f aP).flatMap (aD p))=aE sh p f (dM aP)
 | [],f,_=>rfl
 | it::r,f,h=>by
  have h1:=h it (by simp);rw[cu,mZ,iG,aae sh p f it h1,II sh p r _ λi hi=>h i (t6 _ hi)];have e:dM (it::r)=iP it++dM r:=by unfold dM;rw[mZ]
  rw[e,Ag,qp sh it h1]
theorem EX(sh:Int->List Int)(p:Int):∀ (aP:List aU) (f:Int),iV aP->dM ((cu sh f aP).flatMap (bD p))=bE sh p f (dM aP)
 | [],f,_=>rfl
 | it::r,f,h=>by
  have h1:=h it (by simp);rw[cu,mZ,iG,aaf sh p f it h1,EX sh p r _ λi hi=>h i (t6 _ hi)];have e:dM (it::r)=iP it++dM r:=by unfold dM;rw[mZ]
  rw[e,Ah,qp sh it h1]
def Us(sh:Int->List Int)(aP:List aU):Prop:=∀ n,aU.win n∈aP->∀ x∈sh n,0<=x
theorem Ut(sh:Int->List Int)(it:aU)(h:qI it)(g:∀ n,it=.win n->∀ x∈sh n,0<=x):qH (dh sh it):=by
 cases it with
 | win n=>exact (EN (g n rfl)).nn
 | aS a b =>
  intro q hq;have:q=(a,b):=by simpa [dh,vv] using hq
  subst this;exact⟨h.1,by have:=h.2;show a<=b;lia⟩
theorem BH(sh:Int->List Int):∀ (aP:List aU) (f:Int),iV aP->Us sh aP->∀ d∈cu sh f aP,qI d.1/\qH d.2.1
 | [],_,_,_=>λd hd=>by cases hd
 | it::r,f,h,g=>by
  intro d hd;rw[cu]at hd;rcases List.mem_cons.mp hd with rfl|z
  ·exact⟨h it (by simp),Ut sh it (h it (by simp)) λn e=>g n (by rw[e];simp)⟩
  ·exact BH sh r _ (λi hi=>h i (t6 _ hi)) (λn hn=>g n (t6 _ hn)) d z
theorem CP{a b:Int}{r:Row}(h:qH r):iV (cY (cJ (qx a b 0 r))):=zh (uu (Cw a b r 0 h))
theorem aag{p:Int}{d:sP}(h:qI d.1)(g:qH d.2.1):iV (aD p d):=by
 unfold aD;split
 ·exact iV.one h
 ·split
  ·exact λi hi=>by cases hi
  ·exact CP g
theorem aah{p:Int}{d:sP}(h:qI d.1)(g:qH d.2.1):iV (bD p d):=by
 unfold bD;split
 ·exact λi hi=>by cases hi
 ·split
  ·exact iV.one h
  ·exact CP g
theorem zl{g:sP->List aU}{l:List sP}(h:∀ d∈l,iV (g d)):iV (l.flatMap g):=λit hm=>by
 obtain⟨d,hd,hm⟩:=List.mem_flatMap.mp hm;exact h d hd it hm
theorem BI(r:Row):(cY r).length=r.length:=by unfold cY;rw[cR]
theorem wV(a b:Int)(r:Row):(cY (cJ (qx a b 0 r))).length<=r.length:=by
 rw[BI];exact jY (rD _) (oV a b r 0)
theorem CQ(sh:Int->List Int){g:sP->List aU}(hg:∀ d,(g d).length<=d.2.1.length+1):∀ (aP:List aU) (f:Int),((cu sh f aP).flatMap g).length<=(bG sh aP).length+aP.length
 | [],_=>by simp[cu]
 | it::r,f=>by
  rw[cu,mZ,dH];have a:=hg (it,dh sh it,f,f+mj (dh sh it));have b:=CQ sh hg r (f+mj (dh sh it));have e:bG sh (it::r)=dh sh it++bG sh r:=by unfold bG;rw[mZ];rfl
  rw[e,dH,oJ];simp only at a;lia
theorem XQ(p:Int)(d:sP):(aD p d).length<=d.2.1.length+1:=by
 unfold aD;split
 ·simp
 ·split
  ·simp
  ·exact jY (wV _ _ _) (by lia)
theorem XR(p:Int)(d:sP):(bD p d).length<=d.2.1.length+1:=by
 unfold bD;split
 ·simp
 ·split
  ·simp
  ·exact jY (wV _ _ _) (by lia)
theorem lI{α β:Type}(g:α->List β)(l:List α)(i:Nat):((l.take i).flatMap g).length<=(l.flatMap g).length:=by
 have e:l.flatMap g=(l.take i).flatMap g++(l.drop i).flatMap g:=by rw[← List.flatMap_append,List.take_append_drop]
 rw[e,dH];lia
theorem wW{α β:Type}(g:α->List β){l:List α}{i:Nat}{a:α}(h:l[i]?=some a):(l.take (i+1)).flatMap g=(l.take i).flatMap g++g a:=by
 rw[take_snoc h,List.flatMap_append];simp
theorem zm(sh:Int->List Int){aP:List aU}{it:aU}(h:it∈aP):(dh sh it).length<=(bG sh aP).length:=by
 obtain⟨a,b,rfl⟩:=List.append_of_mem h;rw[gB];have e:bG sh (it::b)=dh sh it++bG sh b:=by unfold bG;rw[mZ];rfl
 rw[e,dH,dH];lia
def MH(A B:Addr)(H H':Hp):Prop:=∀ a o,H a=some o->a≠A->a≠B->H' a=some o
theorem MH.tup{A B:Addr}{H H':Hp}{xs ys:List V}(k:MH A B H H')(hA:H A=some (.lst xs))(hB:H B=some (.lst ys)):∀ a zs,H a=some (.tup zs)->H' a=some (.tup zs):=λa zs h=>k a _ h (λz=>by
 rw[z,hA]at h;cases h) (λz=>by
 rw[z,hB]at h
 cases h)
theorem dJ.tups{H H':Hp}{v:V}{it:aU}(t:∀ a xs,H a=some (.tup xs)->H' a=some (.tup xs)):dJ H v it->dJ H' v it:=λ⟨a,e,h⟩=>⟨a,e,t a _ h⟩
theorem r9.VH{N:Addr->Prop}{A B:Addr}{H H':Hp}{v:V}{d:sP}{xs ys:List V}(hA:H A=some (.lst xs))(hB:H B=some (.lst ys))(n:∀ a,N a->a≠A/\a≠B)(k:MH A B H H'):r9 N H v d->r9 N H' v d:=λ⟨a,ra,x,e,h,i,⟨as,hr,hp⟩,hn⟩ =>
 ⟨a,ra,x,e,k.tup hA hB _ _ h,i.tups (k.tup hA hB),⟨as,k _ _ hr (n ra hn).1 (n ra hn).2,hp.tups (k.tup hA hB)⟩,hn⟩
theorem cE.app{α β:Type}{R:α->β->Prop}{as cs:List α}{bs ds:List β}(h:cE R as bs)(t:cE R cs ds):cE R (as++cs) (bs++ds):=by
 induction h with
 | nil=>exact t
 | cons e _ ih=>exact .cons e ih
structure qJ(H1:Hp)(A B:Addr)(l1 l2:List aU)(H2:Hp):Prop where
 a:∃ vs,H2 A=some (.lst vs)/\cE (dJ H2) vs l1
 b:∃ vs,H2 B=some (.lst vs)/\cE (dJ H2) vs l2
 k:MH A B H1 H2
theorem qJ.same{H1 H2 H3:Hp}{A B:Addr}{l1 l2:List aU}(p:qJ H1 A B l1 l2 H2)(s:aK H2 H3):qJ H1 A B l1 l2 H3:=by
 obtain⟨⟨v1,h1,t1⟩,⟨v2,h2,t2⟩,k⟩:=p;exact⟨⟨v1,s _ _ h1,t1.mono λ_ _ h=>h.same s⟩,⟨v2,s _ _ h2,t2.mono λ_ _ h=>h.same s⟩,λa o e n m=>s _ _ (k a o e n m)⟩
theorem qJ.MJ{H1 H2:Hp}{A B:Addr}{l1 l2 l3:List aU}{v1 v3:List V}(p:qJ H1 A B l1 l2 H2)(n:A≠B)(h1:H2 A=some (.lst v1))(t3:cE (dJ H2) v3 l3):qJ H1 A B (l1++l3) l2 (aN H2 A (.lst (v1++v3))):=by
 obtain⟨⟨v1',h1',t1⟩,⟨v2,h2,t2⟩,k⟩:=p;rw[h1]at h1';cases h1';have kp:∀ v i,dJ H2 v i->dJ (aN H2 A (.lst (v1++v3))) v i:=λv i h=>h.keep h1 (aM A _ _);refine⟨⟨_,af,(t1.mono kp).app (t3.mono kp)⟩,⟨v2,by rw[aH n.symm];exact h2,t2.mono kp⟩,λa o e m1 m2=>?_⟩;rw[aH m1];exact k a o e m1 m2
theorem qJ.MK{H1 H2:Hp}{A B:Addr}{l1 l2 l3:List aU}{v2 v3:List V}(p:qJ H1 A B l1 l2 H2)(n:A≠B)(h2:H2 B=some (.lst v2))(t3:cE (dJ H2) v3 l3):qJ H1 A B l1 (l2++l3) (aN H2 B (.lst (v2++v3))):=by
 obtain⟨⟨v1,h1,t1⟩,⟨v2',h2',t2⟩,k⟩:=p;rw[h2]at h2';cases h2';have kp:∀ v i,dJ H2 v i->dJ (aN H2 B (.lst (v2++v3))) v i:=λv i h=>h.keep h2 (aM B _ _);refine⟨⟨v1,by rw[aH n];exact h1,t1.mono kp⟩,⟨_,af,(t2.mono kp).app (t3.mono kp)⟩,λa o e m1 m2=>?_⟩;rw[aH m2];exact k a o e m1 m2
theorem uw{rows:dI}{sh:Int->List Int}(vt:jt rows)(Bg:FP rows)(AK:rX rows sh):∀ x:Int,0<=x->x<rows.length->∀ y∈sh x,0<=y:=by
 obtain⟨rk,hb,hd⟩:=Bg
 have key:∀ (k:Nat) (x:Int),rk x<k->0<=x->x<rows.length->∀ y∈sh x,0<=y:=by
  intro k
  induction k with
  | zero=>intro x h;lia
  | succ k ih =>
   intro x hx x0 x1 y hy;have he:rows[x.toNat]?=some rows[x.toNat]:=tO (by lia);rw[AK x _ x0 he]at hy;unfold aT at hy;obtain⟨e,hm,hy⟩:=List.mem_flatMap.mp hy;unfold bf at hy;by_cases c:e<0
   ·rw[if_pos c]at hy;have nx:oA rows x (-1-e):=⟨x0,_,he,cK.mpr ⟨by lia,by rw[show -1-(-1-e)=e by lia];exact hm⟩⟩;obtain⟨a,b⟩:=vt.G0 nx;have:=hd _ _ nx;exact ih _ (by lia) a b y hy
   ·rw[if_neg c]at hy;rw[List.mem_singleton.mp hy];lia
 exact λx=>key (rk x+1) x (Nat.lt_succ_self _)
theorem wX{rows:dI}{s n:Int}{es:List Int}(h0:0<=s)(he:rows[s.toNat]?=some es)(h:aU.win n∈aI es):oA rows s n:=by
 refine⟨h0,es,he,?_⟩;rw[← lE];unfold iB;rw[List.mem_filterMap];exact⟨.win n,h,rfl⟩
structure uW(H:Hp)(r:Addr)(rows:dI)(sh:Int->List Int):Prop where
 at_:jr H r (rows.map aI)
 len:rows.length<=1000
 ents:∀ es∈rows,es.length<=1000
 snd:jt rows
 rk:FP rows
 Q9:rX rows sh
 bd:∀ x:Int,0<=x->x<rows.length->(sh x).length<=10000
theorem uW.same{H H':Hp}{r:Addr}{rows:dI}{sh:Int->List Int}(s:aK H H')(h:uW H r rows sh):uW H' r rows sh:={ h with at_:=h.at_.same s }
structure aai(H:Hp)(r:Addr)(rows:dI)(sh:Int->List Int)(s:Int)(es:List Int)(Bh:List V)(b:Addr):Prop where
 he:rows[s.toNat]?=some es
 hr:H r=some (.lst Bh)
 ix:vR Bh s=some (.ref b)
 it:bY H (.ref b) (aI es)
 il:(aI es).length<=1000
 rl:(bG sh (aI es)).length<=10000
 tt:mj (dc (sh s))=(sh s).length
 se:sh s=aT sh es
theorem uW.one{H:Hp}{r:Addr}{rows:dI}{sh:Int->List Int}{s:Int}(h:uW H r rows sh)(h0:0<=s)(h1:s<rows.length):∃ es Bh b,aai H r rows sh s es Bh b:=by
 have iC:rows[s.toNat]?=some rows[s.toNat]:=tO (by lia);obtain⟨Bh,MA,zc⟩:=h.at_;obtain⟨vi,F6,hI⟩:=zc.get' (i:=s.toNat) (b:=aI rows[s.toNat]) (by rw[j5,iC];rfl);obtain⟨b,Sx,rfl,hb,uE⟩:=id hI;have z:=gy F6;rw[show ((s.toNat:Nat):Int)=s by lia]at z;have hil:=wQ rows[s.toNat] [];have hel:=h.ents _ (t7 iC);obtain⟨NC,hok⟩:=CO sh rows[s.toNat];have se:=h.Q9 s _ h0 iC;refine⟨_,Bh,b,iC,MA,z,hI,?_,?_,?_,se⟩
 ·show (rows[s.toNat].foldl bH []).length<=_;simp only[tP]at hil;lia
 ·have q:=yj sh (aI rows[s.toNat]) hok;rw[NC,← se]at q;have:=h.bd s h0 h1;lia
 ·rw[← wM _ (qe _),gO]
theorem rF(ns:List Int):(dc ns).length<=ns.length:=by
 have z:=HS ns [];simpa [dc] using z
def ic(sh:Int->List Int)(p:Int)(es new:List Int):List Int:=if new=[] then es else aE sh p 0 es++new++bE sh p 0 es
inductive Gb(vs:List V)(H:Hp)(Q:VK)(E:XK):Prop
 | mk (r S:Addr) (aP:List aU) (kvs:List (iy × V)) (sh:Int->List Int) (N:Addr->Prop) (_:vs=[.ref r,.ref S]) (_:bY H (.ref r) aP) (_:H S=some (.dK kvs)) (_:Af H kvs sh aP) (_:aP.length<=100000) (_:(∀ it∈aP,(dh sh it).length<=100000)) (_:(∀ n a,aU.win n∈aP->cU kvs (Sum.inl n)=some (.ref a)->N a)) (_:(∀ a,H a=none->N a)) (_ :
 ∀ (o:Addr) (FO:List V) (H':Hp),H' o=some (.lst FO)->cE (r9 N H') FO (cu sh 0 aP)->aK H H'->H o=none->Q (.ref o) H')
theorem uX:aL ["items","views","told","first","item","row","last"] ["items","views"] (aA uL):=iW
theorem IJ{f:Addr}(F:iM K "dealt" "dealt" uL f fd)(T:m7 mg)(cD:aC K mg "item_row" gV yH fI DA)(iS:aC K mg "size" sR gY fZ YB):aF P w K mg zt bI 2 f fd Fj Gb:=by
 have Ae:aF P w K mg zt bI 1 fI DA yH Ad:=AV cD.F T;have Iv:aF P w K mg zt bI 1 fZ YB gY FI:=F0 iS.F T;refine iZ F uX λdP A zn s H vs Q E hr h=>?_;obtain⟨r,S,aP,kvs,sh,N,rfl,⟨r',Sx,e,ou,uE⟩,hS,hW,ff,hrl,nW,nN,k⟩:=h;cases e;refine⟨_,(aj (br (i:=2) uX.nd (bK ah)) (aj (br (i:=3) uX.nd ay) (aj (eL PassesOwn.never rfl (cX (pv 0)) (cy (i:=4) uX.nd) (aj (br (i:=5) uX.nd (aG cD Ae hr (aa (pv 4) (aa (pv 1) ah)))) (aj (br (i:=6) uX.nd (bx cZ (pv 3) (iU.yY iS (T.tT _ iS.m) Iv hr (aa (pv 5) ah)))) (aj (aY (gx vJ qy qz cB (pv 2) (aa (c9 (aa (pv 4) (aa (pv 5) (aa (pv 3) (aa (pv 6) ah))))) ah))) (au (br (i:=3) uX.nd (pv 6))))))) (au (aQ (pv 2)))))),?_⟩;refine⟨lF,λq hq=>?_⟩;have s0:aK H (aN H q (.lst [])):=ak hq _;refine⟨_,rfl,r,rfl,⟨_,bM.of (s0 _ _ ou)⟩,eN (K:=K) (a:=r) (xs:=Sx) (λi σ H2=>∃ (vs:List V) (u1 u2 u3:Option V),σ=[some (.ref r),some (.ref S),some (.ref q),some (.int (0+mj (bG sh (aP.take i)))),u1,u2,u3]/\H2 q=some (.lst vs)/\cE (r9 (λa=>N a/\a≠q) H2) vs (cu sh 0 (aP.take i))/\aK H H2) ⟨[],none,none,none,rfl,af,.nil,s0⟩ (by rintro i σ H2 _ ⟨_,_,_,_,_,_,_,s⟩;exact bM.of (s _ _ ou)) ?_ ?_⟩
 ·rintro i x σ H2 hi ⟨vs,u1,u2,u3,rfl,jz,hb,s⟩;obtain⟨it,ei,hiv⟩:=uE.get hi;have im:=t7 ei;have bl:=hb.len;rw[EW,jG]at bl;refine⟨_,rfl,_,rfl,x,it,S,kvs,λn=>dc (sh n),rfl,hiv.same s,s _ _ hS,λn hn=>(hW.same s) n (by rw[← hn];exact im),λa H3 R3 s3 w3=>?_⟩
  have na:N a/\a≠q:=by
   rcases w3 with ⟨n,rfl,hv⟩|h0
   ·refine⟨nW n a im hv,?_⟩;obtain⟨b,Ir,⟨as,G1,_⟩⟩:=hW n im;rw[hv]at Ir;cases Ir;exact az G1 hq
   ·exact⟨nN a (aX s h0),(az jz h0).symm⟩
  refine⟨_,rfl,_,rfl,a,dh sh it,rfl,R3,jY (hrl it im) (by decide),λH4 s4=>⟨_,_,rfl,rfl,?_⟩⟩;have IK:=s4 _ _ (s3 _ _ jz);refine⟨_,rfl,.inl ⟨rfl,_,bM.of IK⟩,_,rfl,_,rfl,_,rfl,_,rfl,FU,λt ht=>?_⟩;have XG:=ak ht (.tup [x,.ref a,.int (0+mj (bG sh (aP.take i))),.int (0+mj (bG sh (aP.take i))+mj (dh sh it))]) _ _ IK;refine⟨q,_,_,rfl,rfl,XG,aV (by lia),?_⟩;refine⟨_,rfl,_,some x,some (.ref a),some (.int (0+mj (bG sh (aP.take i))+mj (dh sh it))),?_,af,?_,bX hq (s.trans (s3.trans (s4.trans (ak ht _)))) (aM q _ _)⟩
  ·have e:bG sh (aP.take (i+1))=bG sh (aP.take i)++dh sh it:=by rw[take_snoc ei,gB,mJ];rfl
   rw[e,Cf,← Int.add_assoc];rfl
  ·have e:cu sh 0 (aP.take (i+1))=cu sh 0 (aP.take i)++[(it,dh sh it,0+mj (bG sh (aP.take i)),0+mj (bG sh (aP.take i))+mj (dh sh it))]:=by rw[take_snoc ei,zj];rfl
   rw[e];have Xk:t≠q:=(az IK ht).symm;refine cE.snoc (hb.mono λv d h=>(((h.same s3).same s4).same (ak ht _)).keep XG (λa h=>h.2) (aM q _ _)) ⟨t,a,x,rfl,?_,?_,?_,na⟩
   ·rw[aH Xk,af]
   ·exact ((((hiv.same s).same s3).same s4).same (ak ht _)).keep XG (aM q _ _)
   ·exact (((R3.same s4).same (ak ht _))).keep XG na.2 (aM q _ _)
 ·rintro σ H2 ⟨vs,u1,u2,u3,rfl,jz,hb,s⟩;rw[uE.len,kX]at hb;exact⟨_,rfl,k q vs H2 jz (hb.mono λv d ⟨a,ra,x,e,h,i,r,n⟩=>⟨a,ra,x,e,h,i,r,n.1⟩) s hq⟩
inductive yk(vs:List V)(H:Hp)(Q:VK)(E:XK):Prop
 | mk (r S o:Addr) (p:Int) (aP OY:List aU) (kvs:List (iy × V)) (sh:Int->List Int) (_:vs=[.ref r,.ref S,.int p,.ref o]) (_:bY H (.ref r) aP) (_:H S=some (.dK kvs)) (_:Af H kvs sh aP) (_:bY H (.ref o) OY) (_:iV aP) (_:iV OY) (_:Us sh aP) (_:aP.length<=50000) (_:(bG sh aP).length<=50000) (_:OY.length<=50000) (_ :
 ∀ (q:Addr) (H':Hp),bY H' (.ref q) (aI (aE sh p 0 (dM aP)++dM OY++bE sh p 0 (dM aP)))->aK H H'->H q=none->Q (.ref q) H')
theorem jb:aL ["items","views","place","others","ahead","behind","item","row","first","last"] ["items","views","place","others"] (aA oQ):=iW
theorem zo{f fS:Addr}(F:iM K "put_among" "put_among" oQ f fd)(T:m7 mg)(cD:aC K mg "item_row" gV yH fI DA)(iS:aC K mg "size" sR gY fZ YB)(eE:aC K mg "plain" mD gY fP Ob)(gX:aC K mg "pieces" pB pQ fS Sv)(ja:aC K mg "goes_on" nj G6 fG fdG)(cP:aC K mg "plain_items" iY oG fK fdK)(nX:aC K mg "dealt" uL Fj fD fdD){fN:Addr}{fdN:FuncData}(dX:aC K mg "inked" rO gY fN fdN):aF P w K mg zt bI 3 f fd Nf yk:=by
 have Ld:aF P w K mg zt bI 2 fD fdD Fj Gb:=IJ nX.F T cD iS;have sZ:aF P w K mg zt bI 1 fS Sv pQ yS:=zZ gX.F T;have sf:aF P w K mg zt bI 2 fN fdN gY wR:=vY dX.F T eE;have jc:aF P w K mg zt bI 2 fK fdK oG nR:=nT cP.F T ja;refine iZ F jb λdP A zn s H vs Q E hr h=>?_;obtain⟨r,S,o,p,aP,OY,kvs,sh,rfl,hI,hS,hW,hO,ok1,ok2,nn,l1,l2,l3,k⟩:=h;refine⟨_,(aj (br (i:=4) jb.nd (bK ah)) (aj (br (i:=5) jb.nd (bK ah)) (aj (eL PassesOwn.never rfl (cX (aG nX Ld hr (aa (pv 0) (aa (pv 1) ah)))) (oM (n:=4) rfl (bR (cy (i:=6) jb.nd) (bR (cy (i:=7) jb.nd) (bR (cy (i:=8) jb.nd) (bR (cy (i:=9) jb.nd) iX))))) (au (bV (aZ jm (pv 9) (pv 2) (bw _)) (au (aY (gx vJ qy qz cB (pv 4) (aa (pv 6) ah)))) (au (bV (aZ jm (pv 2) (pv 8) (bw _)) (au (aY (gx vJ qy qz cB (pv 5) (aa (pv 6) ah)))) (aj (xX (i:=4) jb.nd rfl (Or.inl rfl) (aG dX sf hr (aa (aG gX sZ hr (aa (pv 7) (aa ay (aa (bx cW (pv 2) (pv 8)) ah)))) ah)) zY) (au (xX (i:=5) jb.nd rfl (Or.inl rfl) (aG dX sf hr (aa (aG gX sZ hr (aa (pv 7) (aa (bx cW (pv 2) (pv 8)) (aa (bx cW (pv 9) (pv 8)) ah)))) ah)) zY)))))))) (au (aQ (aG cP jc hr (aa (bx nh (bx nh (pv 4) (pv 3)) (pv 5)) ah))))))),?_⟩;refine⟨lF,λA hA=>⟨lF,λB hB=>?_⟩⟩;have sA:aK H (aN H A (.lst [])):=ak hA _;have sB:aK _ (aN (aN H A (.lst [])) B (.lst [])):=ak hB _;have s0:=sA.trans sB;have DB:A≠B:=az af hB;have O1:=aX sA hB;refine⟨_,rfl,_,rfl,r,S,aP,kvs,sh,λa=>a≠A/\a≠B,rfl,hI.same s0,s0 _ _ hS,hW.same s0,by lia,(λit hi=>by have:=zm sh hi;lia),?_,?_,λD dv H1 hD TF s1 _=>?_⟩
 ·intro n a hn hv;obtain⟨b,e,as,hb,_⟩:=hW n hn;rw[hv]at e;cases e;exact⟨az hb hA,az hb O1⟩
 ·intro a ha;exact⟨(az (sB _ _ af) ha).symm,(az af ha).symm⟩
 have hA1:=s1 _ _ (sB _ _ (af (H:=H) (a:=A) (o:=.lst [])));have hB1:=s1 _ _ (af (H:=aN H A (.lst [])) (a:=B) (o:=.lst []))
 have nD:D≠A/\D≠B:=by
  rename_i hD0;exact⟨(az (sB _ _ af) hD0).symm,(az af hD0).symm⟩
 have adT:=CQ sh (XQ p) aP 0;have adU:=CQ sh (XR p) aP 0;have O2:=BH sh aP 0 ok1 nn;refine⟨D,rfl,⟨_,bM.of hD⟩,eN (K:=K) (a:=D) (xs:=dv) (λi σ H2=>∃ u1 u2 u3 u4:Option V,σ=[some (.ref r),some (.ref S),some (.int p),some (.ref o),some (.ref A),some (.ref B),u1,u2,u3,u4]/\qJ H1 A B (((cu sh 0 aP).take i).flatMap (aD p)) (((cu sh 0 aP).take i).flatMap (bD p)) H2) ⟨none,none,none,none,rfl,⟨_,hA1,.nil⟩,⟨_,hB1,.nil⟩,λ_ _ e _ _=>e⟩ (by rintro i σ H2 _ ⟨_,_,_,_,_,pv⟩;exact bM.of (pv.k _ _ hD nD.1 nD.2)) ?_ ?_⟩
 ·rintro i x σ H2 hi ⟨u1,u2,u3,u4,rfl,pv⟩;obtain⟨d,ed,N3⟩:=TF.get hi;have hd2:=N3.VH hA1 hB1 (λa h=>h) pv.k;obtain⟨a,ra,xi,rfl,hta,hxi,YC,nra⟩:=hd2;have eA:=wW (aD p) ed;have eB:=wW (bD p) ed;have bA:=lI (aD p) (cu sh 0 aP) i;have bB:=lI (bD p) (cu sh 0 aP) i;have bA1:=lI (aD p) (cu sh 0 aP) (i+1);have bB1:=lI (bD p) (cu sh 0 aP) (i+1);obtain⟨v1,hv1,t1⟩:=pv.a;obtain⟨v2,hv2,t2⟩:=pv.b;have z1:=t1.len;have z2:=t2.len;obtain⟨it,row,fi,la⟩:=d
  have rl:row.length<=50000:=by
   have z:=t7 ed
   have:∃ TR∈aP,row=dh sh TR:=by
    have q:∀ (aP:List aU) (f:Int),(it,row,fi,la)∈cu sh f aP->∃ TR∈aP,row=dh sh TR:=by
     intro aP
     induction aP with
     | nil=>intro f h;cases h
     | cons i0 r0 ih =>
      intro f h;rw[cu]at h;rcases List.mem_cons.mp h with e|e
      ·cases e;exact⟨it,by simp,rfl⟩
      ·obtain⟨i1,m1,e1⟩:=ih _ e;exact⟨i1,t6 _ m1,e1⟩
    exact q aP 0 z
   obtain⟨i1,m1,rfl⟩:=this;have:=zm sh m1;lia
  refine⟨a,_,rfl,d8.of hta,rfl,_,_,rfl,_,_,rfl,_,_,rfl,_,_,rfl,rfl,?_⟩;refine⟨_,rfl,_,rfl,_,_,rfl,rfl,_,rfl,dQ (λc=>?_) (λc=>?_)⟩
  ·have c':la<=p:=of_decide_eq_true c;refine⟨_,rfl,.inl ⟨rfl,_,bM.of hv1⟩,_,rfl,A,_,_,rfl,rfl,hv1,aV (by lia),?_⟩;refine⟨_,_,_,_,rfl,?_⟩;rw[eA,eB];have e1:aD p (it,row,fi,la)=[it]:=by unfold aD;rw[if_pos c']
   have e2:bD p (it,row,fi,la)=[]:=by unfold bD;rw[if_pos c']
   rw[e1,e2,jH];exact pv.MJ DB hv1 (.cons hxi .nil)
  ·have c':¬ la<=p:=λz=>c (decide_eq_true z);refine⟨_,rfl,_,rfl,_,_,rfl,rfl,_,rfl,dQ (λc2=>?_) (λc2=>?_)⟩
   ·have Ou:p<=fi:=of_decide_eq_true c2;refine⟨_,rfl,.inl ⟨rfl,_,bM.of hv2⟩,_,rfl,B,_,_,rfl,rfl,hv2,aV (by lia),?_⟩;refine⟨_,_,_,_,rfl,?_⟩;rw[eA,eB];have e1:aD p (it,row,fi,la)=[]:=by unfold aD;rw[if_neg c',if_pos Ou]
    have e2:bD p (it,row,fi,la)=[it]:=by unfold bD;rw[if_neg c',if_pos Ou]
    rw[e1,e2,jH];exact pv.MK DB hv2 (.cons hxi .nil)
   ·have Ou:¬ p<=fi:=λz=>c2 (decide_eq_true z);have e1:aD p (it,row,fi,la)=cY (cJ (qx 0 (p-fi) 0 row)):=by unfold aD;rw[if_neg c',if_neg Ou]
    have e2:bD p (it,row,fi,la)=cY (cJ (qx (p-fi) (la-fi) 0 row)):=by unfold bD;rw[if_neg c',if_neg Ou]
    rw[eA,e1,dH]at bA1;rw[eB,e2,dH]at bB1;refine⟨_,rfl,_,rfl,_,rfl,_,rfl,_,_,rfl,rfl,ra,row,0,p-fi,rfl,YC,by lia,λq1 H3 R3 s3 Uu=>⟨q1,_,rfl,R3,jY (oV _ _ _ _) (by lia),λq2 H4 I4 s4 jz=>?_⟩⟩;obtain⟨q2',v3,e3,h3,t3⟩:=I4;cases e3;have z3:=t3.len;have Ov:=s4 _ _ (s3 _ _ hv1);refine⟨A,q2,_,_,rfl,rfl,Ov,h3,kY (aV (by lia)),?_⟩;have pv5:=((pv.same s3).same s4).MJ DB Ov t3;have ad0:cV (aN H4 A (.lst (v1++v3))) ra row:=((YC.same s3).same s4).keep Ov nra.1 (aM A _ _);have ad1:(aN H4 A (.lst (v1++v3))) B=some (.lst v2):=by rw[aH DB.symm];exact s4 _ _ (s3 _ _ hv2)
    refine⟨_,rfl,_,rfl,_,rfl,_,rfl,_,_,rfl,rfl,_,rfl,_,rfl,_,_,rfl,rfl,ra,row,p-fi,la-fi,rfl,ad0,by lia,λq3 H6 R6 s6 ES=>⟨q3,_,rfl,R6,jY (oV _ _ _ _) (by lia),λq4 H7 I7 s7 IK=>?_⟩⟩;obtain⟨q4',v4,e4,h4,t4⟩:=I7;cases e4;have z4:=t4.len;have VI:=s7 _ _ (s6 _ _ ad1);refine⟨B,q4,_,_,rfl,rfl,VI,h4,kY (aV (by lia)),?_⟩;refine⟨_,_,_,_,rfl,?_⟩;rw[eA,eB,e1,e2];exact ((pv5.same s6).same s7).MK DB VI t4
 ·rintro σ H2 ⟨u1,u2,u3,u4,rfl,pv⟩;have dl:=TF.len;rw[dl,kX]at pv;obtain⟨v1,hv1,t1⟩:=pv.a;obtain⟨v2,hv2,t2⟩:=pv.b;have z1:=t1.len;have z2:=t2.len;have sm:aK H H2:=λa ob e=>pv.k a ob (s1 _ _ (s0 _ _ e)) (az e hA) (az e O1);obtain⟨o',v3,e3,h3,t3⟩:=hO.same sm;cases e3;have z3:=t3.len;refine⟨_,rfl,_,rfl,A,o,_,_,rfl,rfl,hv1,h3,kY (aV (by lia)),λc1 Yx=>?_⟩;have n1:aK H2 (aN H2 c1 (.lst (v1++v3))):=ak Yx _;refine⟨_,rfl,c1,B,_,_,rfl,rfl,af,n1 _ _ hv2,kY (aV (by rw[dH];lia)),λc2 XS=>?_⟩;have n2:aK _ (aN (aN H2 c1 (.lst (v1++v3))) c2 (.lst (v1++v3++v2))):=ak XS _;have Xi:=n1.trans n2;refine⟨c2,_,rfl,⟨c2,_,rfl,af,((t1.app t3).app t2).mono λv i h=>h.same Xi⟩,by rw[dH,dH];lia,λq H9 I9 s9 hq9=>?_⟩;have okA:iV ((cu sh 0 aP).flatMap (aD p)):=zl λd hd=>aag (O2 d hd).1 (O2 d hd).2;have okB:iV ((cu sh 0 aP).flatMap (bD p)):=zl λd hd=>aah (O2 d hd).1 (O2 d hd).2;rw[qo _ ((okA.append ok2).append okB),iG,iG,II sh p aP 0 ok1,EX sh p aP 0 ok1]at I9;exact k q H9 I9 (sm.trans (Xi.trans s9)) (aX (sm.trans Xi) hq9)
inductive qq(vs:List V)(H:Hp)(Q:VK)(E:XK):Prop
 | mk (r o:Addr) (rows:dI) (s p:Int) (aP:List aU) (sh:Int->List Int) (_:vs=[.ref r,.int s,.int p,.ref o]) (_:uW H r rows sh) (_:0<=s) (_:s<rows.length) (_:bY H (.ref o) aP) (_:iV aP) (_:aP.length<=10000) (_:0<=p/\p<=(sh s).length) (_:(∀ (es:List Int) (q:Addr) (H':Hp),rows[s.toNat]?=some es->bY H' (.ref q) (aI (ic sh p es (dM aP)))->aK H H'->H q=none->Q (.ref q) H'))
theorem Rc{aP:List aU}(h:iV aP):dM aP=[]↔aP=[]:=by
 refine⟨λe=>?_,λe=>by rw[e];rfl⟩
 cases aP with
 | nil=>rfl
 | cons it r =>
  have e1:dM (it::r)=iP it++dM r:=by unfold dM;rw[mZ]
  rw[e1]at e;have e2:=(List.append_eq_nil_iff.mp e).1
  cases it with
  | win n=>cases e2
  | aS a b =>
   have ab:a<b:=(h (.aS a b) (by simp)).2;have:=iN a (b-a).toNat;have e3:run a (b-a).toNat=[]:=e2;rw[e3]at this;simp only[tP]at this;lia
theorem AW:aL ["rows","sheet","place","items","views"] ["rows","sheet","place","items"] (aA uM):=iW
theorem uY{f fp fs fn:Addr}{gn:FuncData}(F:iM K "put_items" "put_items" uM f fd)(T:m7 mg)
  (cL:aC K mg "windows" fX oG fw gw) (jg:aC K mg "below" mE mY fb gb) (cD:aC K mg "item_row" gV yH fi gi) (eE:aC K mg "plain" mD gY fp gp) (cO:aC K mg "views_below" eO mY fv gv) (iS:aC K mg "size" sR gY fs gs) (cA:aC K mg "check_places" iE pQ fc gc)
  (ja:aC K mg "goes_on" nj G6 fg gg) (cP:aC K mg "plain_items" iY oG fk gk) (nX:aC K mg "dealt" uL Fj fd' gd) (gX:aC K mg "pieces" pB pQ fq gq) (dX:aC K mg "inked" rO gY fn gn) (mK:aC K mg "put_among" oQ Nf fa ga):aF P w K mg zt bI 4 f fd Pc qq:=by
 have gz:aF P w K mg zt bI 2 _ _ pQ uv:=jS cA.F T iS;have jP:aF P w K mg zt bI 3 _ _ mY zg:=nQ cO.F T cL jg cD eE;have jc:aF P w K mg zt bI 2 _ _ oG nR:=nT cP.F T ja;have yl:aF P w K mg zt bI 3 _ _ Nf yk:=zo mK.F T cD iS eE gX ja cP nX dX;refine iZ F AW λdP A zn s0 H vs Q E hr h=>?_;obtain⟨r,o,rows,s,p,aP,sh,rfl,R,h0,h1,hO,ok,ol,hp,k1⟩:=h;have hu:=lO hr;refine⟨_,(aj (br (i:=4) AW.nd (aG cO jP hr (aa (pv 0) (aa (bK (aa (pv 1) ah)) ah)))) (aj (aY (aG cA gz hr (aa (jR hu (pv 4) (pv 1)) (aa (pv 2) (aa (pv 2) ah))))) (aj (bV (qB (ng (pv 3) (λ_=>rfl))) (au (aQ (aG cP jc hr (aa (aW bL (pv 0) (pv 1)) ah)))) bu) (au (aQ (aG mK yl hr (aa (aW bL (pv 0) (pv 1)) (aa (pv 4) (aa (pv 2) (aa (pv 3) ah)))))))))),?_⟩;refine⟨_,rfl,_,rfl,rV,λL hL=>?_⟩;have s1:aK H (aN H L (.lst [.int s])):=ak hL _;refine⟨r,L,rows,[s],sh,rfl,R.at_.same s1,af,by simp,R.len,R.ents,R.snd,R.rk,(λx hx=>by rw[List.mem_singleton.mp hx];exact⟨h0,h1⟩),R.Q9,R.bd,λS kvs ks H2 hS hv tp sk hn s2 hS0=>?_⟩;have VJ:=sk s (by simp);obtain⟨a,ha,Ra⟩:=hv s VJ;have z:=lD.k (k:=Sum.inl s) hS;rw[ha]at z;have t9:=s1.trans s2;have shl:=R.bd s h0 h1;have rol:=rF (sh s);obtain⟨es,Bh,b,O⟩:=(R.same t9).one h0 h1;refine⟨_,rfl,_,rfl,S,_,rfl,z,_,rfl,_,rfl,a,dc (sh s),p,p,rfl,Ra,by lia,⟨hp.1,Int.le_refl _,by rw[O.tt];exact hp.2⟩,λH3 s3=>?_⟩
 ·obtain⟨zD,aap,b',O3⟩:=(R.same (t9.trans s3)).one h0 h1;have ee:es=zD:=uG (O.he.symm.trans O3.he);subst ee;have hO3:=hO.same (t9.trans s3);obtain⟨o',ovs,eo,ho,to⟩:=id hO3;cases eo;refine⟨_,rfl,!ovs.isEmpty,.inl ⟨_,bM.of ho,rfl⟩,?_⟩;have el:=to.len
  cases aP with
  | nil =>
   have:ovs=[]:=List.eq_nil_of_length_eq_zero (by simpa using el);subst this;refine j3 ?_;refine⟨_,rfl,_,rfl,r,_,_,_,rfl,rfl,bM.of O3.hr,O3.ix,b',aI es,rfl,O3.it,jY O3.il (by decide),λq H4 I4 s4 hq=>?_⟩;refine k1 es q H4 O.he ?_ (t9.trans (s3.trans s4)) (aX (t9.trans s3) hq);obtain⟨e1,e2⟩:=rY es;rw[qo _ e2,e1]at I4;exact I4
  | cons it r0 =>
   have:(!ovs.isEmpty)=true:=by
    cases ovs with
    | nil=>simp at el
    | cons _ _=>rfl
   rw[this];refine gH ?_;refine⟨_,rfl,_,rfl,r,_,_,_,rfl,rfl,bM.of O3.hr,O3.ix,_,rfl,_,rfl,_,rfl,b',S,o,p,aI es,it::r0,kvs,sh,rfl,O3.it,s3 _ _ hS,λn hn=>?_,hO3,(rY es).2,ok,λn hn=>?_,jY O3.il (by decide),jY O3.rl (by decide),jY ol (by decide),λq H4 I4 s4 hq=>?_⟩
   ·have nx:=wX h0 O.he hn;obtain⟨i,hi⟩:=List.getElem?_of_mem VJ;obtain⟨a2,e2,R2⟩:=hv n (List.mem_of_mem_take (tp.dn i s hi n nx));exact⟨a2,e2,R2.same s3⟩
   ·have nx:=wX h0 O.he hn;obtain⟨n0,n1⟩:=R.snd.G0 nx;exact uw R.snd R.rk R.Q9 n n0 n1
   ·refine k1 es q H4 O.he ?_ (t9.trans (s3.trans s4)) (aX (t9.trans s3) hq);rw[(rY es).1]at I4;unfold ic;rw[if_neg (λz=>by cases (Rc ok).mp z)];exact I4
def kD(a b:Int)(d:sP):List aU:=if d.2.2.2<=a\/b<=d.2.2.1 then [d.1] else if a<=d.2.2.1/\d.2.2.2<=b then [] else cY (cJ (qx 0 (a-d.2.2.1) 0 d.2.1++qx (b-d.2.2.1) (d.2.2.2-d.2.2.1) 0 d.2.1))
def tD(a b:Int)(d:sP):List aU:=if d.2.2.2<=a\/b<=d.2.2.1 then [] else if a<=d.2.2.1/\d.2.2.2<=b then [d.1] else cY (cJ (qx (a-d.2.2.1) (b-d.2.2.1) 0 d.2.1))
def MM(sh:Int->List Int)(a b f e:Int):List Int:=if f+(bf sh e).length<=a\/b<=f then [e] else if a<=f/\f+(bf sh e).length<=b then [] else (bf sh e).take (a-f).toNat++(bf sh e).drop (b-f).toNat
def O5(sh:Int->List Int)(a b f e:Int):List Int:=if f+(bf sh e).length<=a\/b<=f then [] else if a<=f/\f+(bf sh e).length<=b then [e] else ((bf sh e).take (b-f).toNat).drop (a-f).toNat
def kE(sh:Int->List Int)(a b:Int):Int->List Int->List Int
 | _,[]=>[]
 | f,e::r=>MM sh a b f e++kE sh a b (f+(bf sh e).length) r
def tE(sh:Int->List Int)(a b:Int):Int->List Int->List Int
 | _,[]=>[]
 | f,e::r=>O5 sh a b f e++tE sh a b (f+(bf sh e).length) r
theorem Ai(sh:Int->List Int)(a b:Int)(y:List Int):∀ (x:List Int) (f:Int),kE sh a b f (x++y)=kE sh a b f x++kE sh a b (f+(aT sh x).length) y
 | [],f=>by simp[kE,aT]
 | e::x,f=>by
  rw[List.cons_append,kE,kE,Ai sh a b y x,qL,cz,dH,Int.add_assoc]
  push_cast
  rfl
theorem Aj(sh:Int->List Int)(a b:Int)(y:List Int):∀ (x:List Int) (f:Int),tE sh a b f (x++y)=tE sh a b f x++tE sh a b (f+(aT sh x).length) y
 | [],f=>by simp[tE,aT]
 | e::x,f=>by
  rw[List.cons_append,tE,tE,Aj sh a b y x,qL,cz,dH,Int.add_assoc]
  push_cast
  rfl
theorem YD{a f:Int}(h:f<a):(a-f).toNat=(a-(f+1)).toNat+1:=by lia
theorem Rf{a f:Int}(h:a<=f):(a-f).toNat=0:=Int.toNat_of_nonpos (Int.sub_nonpos_of_le h)
theorem tn1{a f:Int}(h:a<=f):(a-(f+1)).toNat=0:=Rf (Int.le_trans h (Int.le_of_lt (Int.lt_succ f)))
theorem nS{a f:Int}(h:¬ f+1<=a):a<=f:=Int.not_lt.mp h
theorem Rg(sh:Int->List Int){a b:Int}(ab:a<b):∀ (n:Nat) (x f:Int),0<=x->kE sh a b f (run x n)=(run x n).take (a-f).toNat++(run x n).drop (b-f).toNat
 | 0,_,_,_=>by simp[run,kE]
 | n+1,x,f,h=>by
  rw[run,kE,Rg sh ab n (x+1) _ (by lia)];unfold MM;rw[wU sh h];show (if f+1<=a\/b<=f then [x] else if a<=f/\f+1<=b then [] else _)++((run (x+1) n).take (a-(f+1)).toNat++(run (x+1) n).drop (b-(f+1)).toNat)=_;by_cases c1:f+1<=a
  ·rw[if_pos (.inl c1),YD c1,YD (Int.lt_trans c1 ab)];rfl
  ·by_cases c2:b<=f
   ·rw[if_pos (.inr c2),Rf (nS c1),Rf c2,tn1 (nS c1),tn1 c2];rfl
   ·rw[if_neg (λz=>z.elim c1 c2),if_pos ⟨nS c1,Int.not_le.mp c2⟩,Rf (nS c1),YD (Int.not_le.mp c2),tn1 (nS c1)];rfl
theorem Rh(sh:Int->List Int){a b:Int}(ab:a<b):∀ (n:Nat) (x f:Int),0<=x->tE sh a b f (run x n)=((run x n).take (b-f).toNat).drop (a-f).toNat
 | 0,_,_,_=>by simp[run,tE]
 | n+1,x,f,h=>by
  rw[run,tE,Rh sh ab n (x+1) _ (by lia)];unfold O5;rw[wU sh h];show (if f+1<=a\/b<=f then [] else if a<=f/\f+1<=b then [x] else _)++((run (x+1) n).take (b-(f+1)).toNat).drop (a-(f+1)).toNat=_;by_cases c1:f+1<=a
  ·rw[if_pos (.inl c1),YD c1,YD (Int.lt_trans c1 ab)];rfl
  ·by_cases c2:b<=f
   ·rw[if_pos (.inr c2),Rf c2,tn1 c2];simp
   ·rw[if_neg (λz=>z.elim c1 c2),if_pos ⟨nS c1,Int.not_le.mp c2⟩,Rf (nS c1),YD (Int.not_le.mp c2),tn1 (nS c1)];rfl
theorem Ow{a b t:Int}{r:Row}(ok:∀ p∈r,p.1<=p.2)(h:(bN r).length<=t.toNat):bN (cJ (qx 0 a 0 r++qx b t 0 r))=(bN r).take a.toNat++(bN r).drop b.toNat:=by
 rw[qg _ (Xo (FJ _ _ _ _) (FJ _ _ _ _)),dD,wO _ _ _ _ ok,wO _ _ _ _ ok];show ((bN r).take (a-0).toNat).drop 0++((bN r).take (t-0).toNat).drop (b-0).toNat=_;rw[Int.sub_zero,Int.sub_zero,Int.sub_zero,xT h];rfl
theorem aar(sh:Int->List Int){a b:Int}(ab:a<b)(f:Int)(it:aU)(h:qI it):dM (kD a b (it,dh sh it,f,f+mj (dh sh it)))=kE sh a b f (iP it):=by
 have tt:=qp sh it h
 have sp:dM (cY (cJ (qx 0 (a-f) 0 (dh sh it)++qx (b-f) (f+mj (dh sh it)-f) 0 (dh sh it))))=(aT sh (iP it)).take (a-f).toNat++(aT sh (iP it)).drop (b-f).toNat:=by
  rw[rZ,Ow (zk sh it h) (by rw[oX sh it h,tt];lia),oX sh it h]
 unfold kD;show dM (if f+mj (dh sh it)<=a\/b<=f then [it] else if a<=f/\f+mj (dh sh it)<=b then [] else cY (cJ (qx 0 (a-f) 0 (dh sh it)++qx (b-f) (f+mj (dh sh it)-f) 0 (dh sh it))))=_;have c1:(f+mj (dh sh it)<=a\/b<=f)=(f+(aT sh (iP it)).length<=a\/b<=f):=by rw[tt]
 have c2:(a<=f/\f+mj (dh sh it)<=b)=(a<=f/\f+(aT sh (iP it)).length<=b):=by rw[tt]
 simp only[c1,c2]
 cases it with
 | win n =>
  have e1:aT sh (iP (.win n))=bf sh (-1-n):=by show aT sh [-1-n]=_;rw[cz];simp[aT]
  rw[e1]at sp ⊢;show _=kE sh a b f [-1-n];rw[kE,kE,jH];unfold MM;split
  ·rfl
  ·split
   ·rfl
   ·exact sp
 | aS x y =>
  have e1:aT sh (iP (.aS x y))=run x (y-x).toNat:=rE sh _ _ h.1;rw[e1]at sp ⊢;show _=kE sh a b f (run x (y-x).toNat);rw[Rg sh ab _ _ _ h.1];have rl:=iN x (y-x).toNat;split
  ·rename_i c;rw[qm];rcases c with c|c
   ·rw[xT (by lia),BL (by lia),jH];rfl
   ·rw[Rf (Int.le_trans (Int.le_of_lt ab) c),Rf c];rfl
  ·split
   ·rename_i c;rw[Rf c.1,BL (by lia)];rfl
   ·exact sp
theorem aas(sh:Int->List Int){a b:Int}(ab:a<b)(f:Int)(it:aU)(h:qI it):dM (tD a b (it,dh sh it,f,f+mj (dh sh it)))=tE sh a b f (iP it):=by
 have tt:=qp sh it h
 have sp:dM (cY (cJ (qx (a-f) (b-f) 0 (dh sh it))))=((aT sh (iP it)).take (b-f).toNat).drop (a-f).toNat:=by
  rw[rZ,uS _ _ _ (zk sh it h),oX sh it h]
 unfold tD;show dM (if f+mj (dh sh it)<=a\/b<=f then [] else if a<=f/\f+mj (dh sh it)<=b then [it] else cY (cJ (qx (a-f) (b-f) 0 (dh sh it))))=_;rw[tt]
 cases it with
 | win n =>
  have e1:aT sh (iP (.win n))=bf sh (-1-n):=by show aT sh [-1-n]=_;rw[cz];simp[aT]
  rw[e1]at sp ⊢;show _=tE sh a b f [-1-n];rw[tE,tE,jH];unfold O5;split
  ·rfl
  ·split
   ·rfl
   ·exact sp
 | aS x y =>
  have e1:aT sh (iP (.aS x y))=run x (y-x).toNat:=rE sh _ _ h.1;rw[e1]at sp ⊢;show _=tE sh a b f (run x (y-x).toNat);rw[Rh sh ab _ _ _ h.1];have rl:=iN x (y-x).toNat;split
  ·rename_i c;rcases c with c|c
   ·rw[BL (by rw[jG];lia)];rfl
   ·rw[Rf c];simp[dM]
  ·split
   ·rename_i c;rw[qm,Rf c.1,xT (by lia)];rfl
   ·exact sp
theorem Ge(sh:Int->List Int){a b:Int}(ab:a<b):∀ (aP:List aU) (f:Int),iV aP->dM ((cu sh f aP).flatMap (kD a b))=kE sh a b f (dM aP)
 | [],f,_=>rfl
 | it::r,f,h=>by
  have h1:=h it (by simp);rw[cu,mZ,iG,aar sh ab f it h1,Ge sh ab r _ λi hi=>h i (t6 _ hi)];have e:dM (it::r)=iP it++dM r:=by unfold dM;rw[mZ]
  rw[e,Ai,qp sh it h1]
theorem IL(sh:Int->List Int){a b:Int}(ab:a<b):∀ (aP:List aU) (f:Int),iV aP->dM ((cu sh f aP).flatMap (tD a b))=tE sh a b f (dM aP)
 | [],f,_=>rfl
 | it::r,f,h=>by
  have h1:=h it (by simp);rw[cu,mZ,iG,aas sh ab f it h1,IL sh ab r _ λi hi=>h i (t6 _ hi)];have e:dM (it::r)=iP it++dM r:=by unfold dM;rw[mZ]
  rw[e,Aj,qp sh it h1]
theorem VL{a b:Int}{d:sP}(h:qI d.1)(g:qH d.2.1):iV (kD a b d):=by
 unfold kD;split
 ·exact iV.one h
 ·split
  ·exact λi hi=>by cases hi
  ·exact zh (uu λp hp=>(List.mem_append.mp hp).elim (Cw _ _ _ _ g p) (Cw _ _ _ _ g p))
theorem aat{a b:Int}{d:sP}(h:qI d.1)(g:qH d.2.1):iV (tD a b d):=by
 unfold tD;split
 ·exact λi hi=>by cases hi
 ·split
  ·exact iV.one h
  ·exact CP g
theorem Le(a b:Int)(d:sP):(kD a b d).length<=d.2.1.length+d.2.1.length+1:=by
 unfold kD;split
 ·simp
 ·split
  ·simp
  ·rw[BI];refine jY (rD _) ?_;rw[dH];have:=oV 0 (a-d.2.2.1) d.2.1 0;have:=oV (b-d.2.2.1) (d.2.2.2-d.2.2.1) d.2.1 0;lia
theorem Ri(a b:Int)(d:sP):(tD a b d).length<=d.2.1.length+d.2.1.length+1:=by
 unfold tD;split
 ·simp
 ·split
  ·simp
  ·exact jY (wV _ _ _) (by lia)
theorem rG(sh:Int->List Int){g:sP->List aU}(hg:∀ d,(g d).length<=d.2.1.length+d.2.1.length+1):∀ (aP:List aU) (f:Int),((cu sh f aP).flatMap g).length<=(bG sh aP).length+(bG sh aP).length+aP.length
 | [],_=>by simp[cu]
 | it::r,f=>by
  rw[cu,mZ,dH];have a:=hg (it,dh sh it,f,f+mj (dh sh it));have b:=rG sh hg r (f+mj (dh sh it));have e:bG sh (it::r)=dh sh it++bG sh r:=by unfold bG;rw[mZ];rfl
  rw[e,dH,oJ];simp only at a;lia
theorem IM(sh:Int->List Int)(it:aU)(row:Row)(fi la:Int):∀ (aP:List aU) (f:Int),(it,row,fi,la)∈cu sh f aP->∃ TR∈aP,row=dh sh TR
 | [],_,h=>by cases h
 | i0::r0,f,h=>by
  rw[cu]at h;rcases List.mem_cons.mp h with e|e
  ·cases e;exact⟨it,by simp,rfl⟩
  ·obtain⟨i1,m1,e1⟩:=IM sh it row fi la r0 _ e;exact⟨i1,t6 _ m1,e1⟩
theorem EY(sh:Int->List Int):∀ (aP:List aU) (f:Int) (d:sP),d∈cu sh f aP->d.1∈aP
 | [],_,_,h=>by cases h
 | i0::r0,f,d,h=>by
  rw[cu]at h;rcases List.mem_cons.mp h with e|e
  ·subst e;simp
  ·exact t6 _ (EY sh r0 _ d e)
theorem IP(sh:Int->List Int){a b n:Int}{aP:List aU}(h:aU.win n∈(cu sh 0 aP).flatMap (kD a b)):aU.win n∈aP:=by
 obtain⟨d,hd,hm⟩:=List.mem_flatMap.mp h;unfold kD at hm;split at hm
 ·rw[List.mem_singleton.mp hm];exact EY sh aP 0 d hd
 ·split at hm
  ·cases hm
  ·unfold cY at hm;obtain⟨p,_,e⟩:=List.mem_map.mp hm;cases e
theorem EZ{H:Hp}{A:Addr}{l:List aU}{vs:List V}(h:H A=some (.lst vs))(t:cE (dJ H) vs l):bY H (.ref A) l:=⟨A,vs,rfl,h,t⟩
def b5(sh:Int->List Int)(a b:Int)(es:List Int):List Int:=if a=b then es else kE sh a b 0 es
def kG(sh:Int->List Int)(a b:Int)(es:List Int):List Int:=if a=b then [] else tE sh a b 0 es
inductive CU(vs:List V)(H:Hp)(Q:VK)(E:XK):Prop
 | mk (r S:Addr) (a b:Int) (aP:List aU) (kvs:List (iy × V)) (sh:Int->List Int) (_:vs=[.ref r,.ref S,.int a,.int b]) (_:bY H (.ref r) aP) (_:H S=some (.dK kvs)) (_:Af H kvs sh aP) (_:aP.length<=10000) (_:(bG sh aP).length<=20000) (_ :
 ∀ (t L M:Addr) (H':Hp),H' t=some (.tup [.ref L,.ref M])->bY H' (.ref L) ((cu sh 0 aP).flatMap (kD a b))->bY H' (.ref M) ((cu sh 0 aP).flatMap (tD a b))->aK H H'->Q (.ref t) H')
theorem nY:aL ["items","views","start","stop","left","taken","item","row","first","last"] ["items","views","start","stop"] (aA sS):=iW
theorem E1{f fS:Addr}(F:iM K "parted" "parted" sS f fd)(T:m7 mg)(cD:aC K mg "item_row" gV yH fI DA)(iS:aC K mg "size" sR gY fZ YB)(eE:aC K mg "plain" mD gY fP Ob)(gX:aC K mg "pieces" pB pQ fS Sv)(nX:aC K mg "dealt" uL Fj fD fdD)(dX:aC K mg "inked" rO gY fN fdN):aF P w K mg zt bI 3 f fd G7 CU:=by
 have Ld:aF P w K mg zt bI 2 fD fdD Fj Gb:=IJ nX.F T cD iS;have sZ:aF P w K mg zt bI 1 fS Sv pQ yS:=zZ gX.F T;have sf:aF P w K mg zt bI 2 fN fdN gY wR:=vY dX.F T eE;refine iZ F nY λdP A zn s H vs Q E hr h=>?_;obtain⟨r,S,p,q,aP,kvs,sh,rfl,hI,hS,hW,l1,l2,k⟩:=h;refine⟨_,(aj (br (i:=4) nY.nd (bK ah)) (aj (br (i:=5) nY.nd (bK ah)) (aj (eL PassesOwn.never rfl (cX (aG nX Ld hr (aa (pv 0) (aa (pv 1) ah)))) (oM (n:=4) rfl (bR (cy (i:=6) nY.nd) (bR (cy (i:=7) nY.nd) (bR (cy (i:=8) nY.nd) (bR (cy (i:=9) nY.nd) iX))))) (au (bV (PW.pt (LH (aZ jm (pv 9) (pv 2) (bw _)) (JZ (aZ jm (pv 3) (pv 8) (bw _))))) (au (aY (gx vJ qy qz cB (pv 4) (aa (pv 6) ah)))) (au (bV (PW.pt (rK (aZ jm (pv 2) (pv 8) (bw _)) (qN (aZ jm (pv 9) (pv 3) (bw _))))) (au (aY (gx vJ qy qz cB (pv 5) (aa (pv 6) ah)))) (aj (xX (i:=4) nY.nd rfl (Or.inl rfl) (aG dX sf hr (aa (bx nh (aG gX sZ hr (aa (pv 7) (aa ay (aa (bx cW (pv 2) (pv 8)) ah)))) (aG gX sZ hr (aa (pv 7) (aa (bx cW (pv 3) (pv 8)) (aa (bx cW (pv 9) (pv 8)) ah))))) ah)) zY) (au (xX (i:=5) nY.nd rfl (Or.inl rfl) (aG dX sf hr (aa (aG gX sZ hr (aa (pv 7) (aa (bx cW (pv 2) (pv 8)) (aa (bx cW (pv 3) (pv 8)) ah)))) ah)) zY)))))))) (au (aQ (c9 (aa (pv 4) (aa (pv 5) ah)))))))),?_⟩;refine⟨lF,λA hA=>⟨lF,λB hB=>?_⟩⟩;have sA:aK H (aN H A (.lst [])):=ak hA _;have sB:aK _ (aN (aN H A (.lst [])) B (.lst [])):=ak hB _;have s0:=sA.trans sB;have DB:A≠B:=az af hB;have O1:=aX sA hB;refine⟨_,rfl,_,rfl,r,S,aP,kvs,sh,λa=>a≠A/\a≠B,rfl,hI.same s0,s0 _ _ hS,hW.same s0,by lia,(λit hi=>by have:=zm sh hi;lia),?_,?_,λD dv H1 hD TF s1 _=>?_⟩
 ·intro n a hn hv;obtain⟨b,e,as,hb,_⟩:=hW n hn;rw[hv]at e;cases e;exact⟨az hb hA,az hb O1⟩
 ·intro a ha;exact⟨(az (sB _ _ af) ha).symm,(az af ha).symm⟩
 have hA1:=s1 _ _ (sB _ _ (af (H:=H) (a:=A) (o:=.lst [])));have hB1:=s1 _ _ (af (H:=aN H A (.lst [])) (a:=B) (o:=.lst []))
 have nD:D≠A/\D≠B:=by
  rename_i hD0;exact⟨(az (sB _ _ af) hD0).symm,(az af hD0).symm⟩
 have adT:=rG sh (Le p q) aP 0;have adU:=rG sh (Ri p q) aP 0;refine⟨D,rfl,⟨_,bM.of hD⟩,eN (K:=K) (a:=D) (xs:=dv) (λi σ H2=>∃ u1 u2 u3 u4:Option V,σ=[some (.ref r),some (.ref S),some (.int p),some (.int q),some (.ref A),some (.ref B),u1,u2,u3,u4]/\qJ H1 A B (((cu sh 0 aP).take i).flatMap (kD p q)) (((cu sh 0 aP).take i).flatMap (tD p q)) H2) ⟨none,none,none,none,rfl,⟨_,hA1,.nil⟩,⟨_,hB1,.nil⟩,λ_ _ e _ _=>e⟩ (by rintro i σ H2 _ ⟨_,_,_,_,_,pv⟩;exact bM.of (pv.k _ _ hD nD.1 nD.2)) ?_ ?_⟩
 ·rintro i x σ H2 hi ⟨u1,u2,u3,u4,rfl,pv⟩;obtain⟨d,ed,N3⟩:=TF.get hi;have hd2:=N3.VH hA1 hB1 (λa h=>h) pv.k;obtain⟨a,ra,xi,rfl,hta,hxi,YC,nra⟩:=hd2;have eA:=wW (kD p q) ed;have eB:=wW (tD p q) ed;have bA:=lI (kD p q) (cu sh 0 aP) i;have bB:=lI (tD p q) (cu sh 0 aP) i;have bA1:=lI (kD p q) (cu sh 0 aP) (i+1);have bB1:=lI (tD p q) (cu sh 0 aP) (i+1);obtain⟨v1,hv1,t1⟩:=pv.a;obtain⟨v2,hv2,t2⟩:=pv.b;have z1:=t1.len;have z2:=t2.len;obtain⟨it,row,fi,la⟩:=d
  have rl:row.length<=20000:=by
   obtain⟨i1,m1,rfl⟩:=IM sh it row fi la aP 0 (t7 ed);have:=zm sh m1;lia
  have mV:v1.length<sizeLine:=aV (by lia)
  have CV:(la<=p\/q<=fi)->qJ H1 A B (((cu sh 0 aP).take (i+1)).flatMap (kD p q)) (((cu sh 0 aP).take (i+1)).flatMap (tD p q)) (aN H2 A (.lst (v1++[xi]))):=λc=>by
   rw[eA,eB];have e1:kD p q (it,row,fi,la)=[it]:=by unfold kD;rw[if_pos c]
   have e2:tD p q (it,row,fi,la)=[]:=by unfold tD;rw[if_pos c]
   rw[e1,e2,jH];exact pv.MJ DB hv1 (.cons hxi .nil)
  refine⟨a,_,rfl,d8.of hta,rfl,_,_,rfl,_,_,rfl,_,_,rfl,_,_,rfl,rfl,?_⟩;refine⟨_,rfl,_,rfl,_,_,rfl,rfl,_,rfl,dQ (λc=>j3 ?_) (λc=>?_)⟩
  ·exact⟨_,rfl,.inl ⟨rfl,_,bM.of hv1⟩,_,rfl,A,_,_,rfl,rfl,hv1,mV,_,_,_,_,rfl,CV (.inl (of_decide_eq_true c))⟩
  have c':¬ la<=p:=λz=>c (decide_eq_true z);refine⟨_,rfl,_,rfl,_,_,rfl,rfl,_,rfl,dQ (λc2=>?_) (λc2=>?_)⟩
  ·exact⟨_,rfl,.inl ⟨rfl,_,bM.of hv1⟩,_,rfl,A,_,_,rfl,rfl,hv1,mV,_,_,_,_,rfl,CV (.inr (of_decide_eq_true c2))⟩
  have Ou:¬ q<=fi:=λz=>c2 (decide_eq_true z);have n1:¬ (la<=p\/q<=fi):=λz=>z.elim c' Ou
  have part:¬ (p<=fi/\la<=q)->qJ H1 A B (((cu sh 0 aP).take i).flatMap (kD p q)) (((cu sh 0 aP).take i).flatMap (tD p q)) H2->kD p q (it,row,fi,la)=cY (cJ (qx 0 (p-fi) 0 row++qx (q-fi) (la-fi) 0 row))/\tD p q (it,row,fi,la)=cY (cJ (qx (p-fi) (q-fi) 0 row)):=λc3 _=>by
   refine⟨?_,?_⟩
   ·unfold kD;rw[if_neg n1,if_neg c3]
   ·unfold tD;rw[if_neg n1,if_neg c3]
  have go:¬ (p<=fi/\la<=q)->∀ (q1 q2:Addr) (v3:List V) (H4:Hp),H4 q2=some (.lst v3)->cE (dJ H4) v3 (cY (cJ (qx 0 (p-fi) 0 row++qx (q-fi) (la-fi) 0 row)))->aK H2 H4->v1.length+v3.length<=sizeLine/\qJ H1 A B (((cu sh 0 aP).take (i+1)).flatMap (kD p q)) (((cu sh 0 aP).take i).flatMap (tD p q)) (aN H4 A (.lst (v1++v3)))/\cV (aN H4 A (.lst (v1++v3))) ra row/\(aN H4 A (.lst (v1++v3))) B=some (.lst v2):=λc3 q1 q2 v3 H4 h3 t3 s4=>by
   obtain⟨e1,e2⟩:=part c3 pv;have z3:=t3.len;rw[eA,e1,dH]at bA1;have Ov:=s4 _ _ hv1;refine⟨Nat.le_of_lt (aV (by lia)),?_,(YC.same s4).keep Ov nra.1 (aM A _ _),by rw[aH DB.symm];exact s4 _ _ hv2⟩;rw[eA,e1];exact (pv.same s4).MJ DB Ov t3
  have go2:¬ (p<=fi/\la<=q)->∀ (v4:List V) (H5 H7:Hp),qJ H1 A B (((cu sh 0 aP).take (i+1)).flatMap (kD p q)) (((cu sh 0 aP).take i).flatMap (tD p q)) H5->H5 B=some (.lst v2)->cE (dJ H7) v4 (cY (cJ (qx (p-fi) (q-fi) 0 row)))->aK H5 H7->v2.length+v4.length<=sizeLine/\qJ H1 A B (((cu sh 0 aP).take (i+1)).flatMap (kD p q)) (((cu sh 0 aP).take (i+1)).flatMap (tD p q)) (aN H7 B (.lst (v2++v4))):=λc3 v4 H5 H7 pv5 h5 t4 s7=>by
   obtain⟨e1,e2⟩:=part c3 pv;have z4:=t4.len;rw[eB,e2,dH]at bB1;refine⟨Nat.le_of_lt (aV (by lia)),?_⟩;rw[eB,e2];exact (pv5.same s7).MK DB (s7 _ _ h5) t4
  have pl1:=oV 0 (p-fi) row 0;have pl2:=oV (q-fi) (la-fi) row 0;have pl3:=oV (p-fi) (q-fi) row 0;refine⟨_,rfl,_,rfl,_,_,rfl,rfl,_,rfl,QJ (λz=>⟨_,rfl,_,rfl,_,_,rfl,rfl,_,rfl,z⟩) (λc5=>?_) (λc5=>?_)⟩
  ·refine⟨_,rfl,.inl ⟨rfl,_,bM.of hv2⟩,_,rfl,B,_,_,rfl,rfl,hv2,aV (by lia),_,_,_,_,rfl,?_⟩;rw[eA,eB];have e1:kD p q (it,row,fi,la)=[]:=by unfold kD;rw[if_neg n1,if_pos c5]
   have e2:tD p q (it,row,fi,la)=[it]:=by unfold tD;rw[if_neg n1,if_pos c5]
   rw[e1,e2,jH];exact pv.MK DB hv2 (.cons hxi .nil)
  ·refine⟨_,rfl,_,rfl,_,rfl,_,rfl,_,_,rfl,rfl,ra,row,0,p-fi,rfl,YC,by lia,λq1 H3 R3 s3 Uu=>?_⟩;obtain⟨as3,ha3,pa3⟩:=id R3;have n3:=pa3.len;refine⟨_,rfl,_,rfl,_,rfl,_,_,rfl,rfl,_,rfl,_,rfl,_,_,rfl,rfl,ra,row,q-fi,la-fi,rfl,YC.same s3,by lia,λq2 H4 R4 s4 jz=>?_⟩;obtain⟨as4,ha4,pa4⟩:=id R4;have n4:=pa4.len;refine⟨q1,q2,_,_,rfl,rfl,s4 _ _ ha3,ha4,(by rw[cR,cR];exact kY (aV (by lia))),λm hm=>?_⟩;have s5:aK H4 (aN H4 m (.lst (as3.map V.ref++as4.map V.ref))):=ak hm _;refine⟨m,qx 0 (p-fi) 0 row++qx (q-fi) (la-fi) 0 row,rfl,⟨as3++as4,by rw[af,j0],bU.append ((pa3.same s4).same s5) (pa4.same s5)⟩,by rw[dH];lia,λq3 H6 I6 s6 ES=>?_⟩;obtain⟨q3',v3,e3,h3,t3⟩:=I6;cases e3;have s26:=s3.trans (s4.trans (s5.trans s6));obtain⟨g1,g2,g3,g4⟩:=go c5 q1 q3 v3 H6 h3 t3 s26;refine⟨A,q3,_,_,rfl,rfl,s26 _ _ hv1,h3,g1,?_⟩;refine⟨_,rfl,_,rfl,_,rfl,_,rfl,_,_,rfl,rfl,_,rfl,_,rfl,_,_,rfl,rfl,ra,row,p-fi,q-fi,rfl,g3,by lia,λq4 H7 R7 s7 IK=>⟨q4,_,rfl,R7,by lia,λq5 H8 I8 s8 XG=>?_⟩⟩;obtain⟨q5',v4,e4,h4,t4⟩:=I8;cases e4;obtain⟨f1,f2⟩:=go2 c5 v4 _ H8 g2 g4 t4 (s7.trans s8);exact⟨B,q5,_,_,rfl,rfl,(s7.trans s8) _ _ g4,h4,f1,_,_,_,_,rfl,f2⟩
 ·rintro σ H2 ⟨u1,u2,u3,u4,rfl,pv⟩;have dl:=TF.len;rw[dl,kX]at pv;obtain⟨v1,hv1,t1⟩:=pv.a;obtain⟨v2,hv2,t2⟩:=pv.b;have sm:aK H H2:=λa ob e=>pv.k a ob (s1 _ _ (s0 _ _ e)) (az e hA) (az e O1);refine⟨_,rfl,_,rfl,xj,λt ht=>k t A B _ af ?_ ?_ (sm.trans (ak ht _))⟩
  ·exact (EZ hv1 t1).same (ak ht _)
  ·exact (EZ hv2 t2).same (ak ht _)
inductive AX(vs:List V)(H:Hp)(Q:VK)(E:XK):Prop
 | mk (r:Addr) (rows:dI) (s a b:Int) (sh:Int->List Int) (_:vs=[.ref r,.int s,.int a,.int b]) (_:uW H r rows sh) (_:0<=s) (_:s<rows.length) (_:OW a b (sh s).length) (_:(∀ (es:List Int) (q:Addr) (H':Hp),rows[s.toNat]?=some es->bY H' (.ref q) (aI (b5 sh a b es))->aK H H'->H q=none->Q (.ref q) H'))
theorem AY:aL ["rows","sheet","start","stop","views"] ["rows","sheet","start","stop"] (aA rP):=iW
theorem Gf{f fp fs fn:Addr}{gn:FuncData}(F:iM K "cut_items" "cut_items" rP f fd)(T:m7 mg)
  (cL:aC K mg "windows" fX oG fw gw) (jg:aC K mg "below" mE mY fb gb) (cD:aC K mg "item_row" gV yH fi gi) (eE:aC K mg "plain" mD gY fp gp) (cO:aC K mg "views_below" eO mY fv gv) (iS:aC K mg "size" sR gY fs gs) (cA:aC K mg "check_places" iE pQ fc gc)
  (ja:aC K mg "goes_on" nj G6 fg gg) (cP:aC K mg "plain_items" iY oG fk gk) (nX:aC K mg "dealt" uL Fj fd' gd) (gX:aC K mg "pieces" pB pQ fq gq) (dX:aC K mg "inked" rO gY fn gn) (jZ:aC K mg "parted" sS G7 fa ga):aF P w K mg zt bI 4 f fd SQ AX:=by
 have gz:aF P w K mg zt bI 2 _ _ pQ uv:=jS cA.F T iS;have jP:aF P w K mg zt bI 3 _ _ mY zg:=nQ cO.F T cL jg cD eE;have jc:aF P w K mg zt bI 2 _ _ oG nR:=nT cP.F T ja;have Gg:aF P w K mg zt bI 3 _ _ G7 CU:=E1 jZ.F T cD iS eE gX nX dX;refine iZ F AY λdP A zn s0 H vs Q E hr h=>?_;obtain⟨r,rows,s,p,q,sh,rfl,R,h0,h1,hp,k1⟩:=h;have hu:=lO hr;refine⟨_,(aj (br (i:=4) AY.nd (aG cO jP hr (aa (pv 0) (aa (bK (aa (pv 1) ah)) ah)))) (aj (aY (aG cA gz hr (aa (jR hu (pv 4) (pv 1)) (aa (pv 2) (aa (pv 3) ah))))) (aj (bV (aZ gj (pv 2) (pv 3) (bw _)) (au (aQ (aG cP jc hr (aa (aW bL (pv 0) (pv 1)) ah)))) bu) (au (aQ (aG cP jc hr (aa (aW bC (aG jZ Gg hr (aa (aW bL (pv 0) (pv 1)) (aa (pv 4) (aa (pv 2) (aa (pv 3) ah))))) ay) ah))))))),?_⟩;refine⟨_,rfl,_,rfl,rV,λL hL=>?_⟩;have s1:aK H (aN H L (.lst [.int s])):=ak hL _;refine⟨r,L,rows,[s],sh,rfl,R.at_.same s1,af,by simp,R.len,R.ents,R.snd,R.rk,(λx hx=>by rw[List.mem_singleton.mp hx];exact⟨h0,h1⟩),R.Q9,R.bd,λS kvs ks H2 hS hv tp sk hn s2 hS0=>?_⟩;have VJ:=sk s (by simp);obtain⟨a,ha,Ra⟩:=hv s VJ;have z:=lD.k (k:=Sum.inl s) hS;rw[ha]at z;have t9:=s1.trans s2;have shl:=R.bd s h0 h1;have rol:=rF (sh s);obtain⟨es,Bh,b,O⟩:=(R.same t9).one h0 h1;refine⟨_,rfl,_,rfl,S,_,rfl,z,_,rfl,_,rfl,a,dc (sh s),p,q,rfl,Ra,by lia,by rw[O.tt];exact hp,λH3 s3=>?_⟩
 ·obtain⟨zD,aap,b',O3⟩:=(R.same (t9.trans s3)).one h0 h1;have ee:es=zD:=uG (O.he.symm.trans O3.he);subst ee;obtain⟨e1,e2⟩:=rY es;refine⟨_,rfl,_,rfl,rfl,_,rfl,dQ (λc=>?_) (λc=>?_)⟩
  ·have c':p=q:=V.int.inj (of_decide_eq_true c);refine⟨_,rfl,_,rfl,r,_,_,_,rfl,rfl,bM.of O3.hr,O3.ix,b',aI es,rfl,O3.it,jY O3.il (by decide),λo H4 I4 s4 ho=>?_⟩;refine k1 es o H4 O.he ?_ (t9.trans (s3.trans s4)) (aX (t9.trans s3) ho);rw[qo _ e2,e1]at I4;unfold b5;rw[if_pos c'];exact I4
  ·have c':¬ p=q:=λz=>c (by rw[z];exact decide_eq_true rfl);have pq:p<q:=by have:=hp.2.1;lia
   refine⟨_,rfl,_,rfl,r,_,_,_,rfl,rfl,bM.of O3.hr,O3.ix,_,rfl,_,rfl,_,rfl,b',S,p,q,aI es,kvs,sh,rfl,O3.it,s3 _ _ hS,λn hn=>?_,jY O3.il (by decide),jY O3.rl (by decide),λt L M H4 ht hL4 hM4 s4=>?_⟩
   ·have nx:=wX h0 O.he hn;obtain⟨i,hi⟩:=List.getElem?_of_mem VJ;obtain⟨a2,e2,R2⟩:=hv n (List.mem_of_mem_take (tp.dn i s hi n nx));exact⟨a2,e2,R2.same s3⟩
   have nn:Us sh (aI es):=λn hn=>by
    have nx:=wX h0 O.he hn;obtain⟨n0,n1⟩:=R.snd.G0 nx;exact uw R.snd R.rk R.Q9 n n0 n1
   have O2:=BH sh (aI es) 0 e2 nn;have lk:iV ((cu sh 0 (aI es)).flatMap (kD p q)):=zl λd hd=>VL (O2 d hd).1 (O2 d hd).2;have ll:=rG sh (Le p q) (aI es) 0;have oil:=O3.il;have orl:=O3.rl;refine⟨t,_,_,_,rfl,rfl,d8.of ht,rfl,L,_,rfl,hL4,by lia,λo H5 I5 s5 ho=>?_⟩;refine k1 es o H5 O.he ?_ (t9.trans (s3.trans (s4.trans s5))) (aX (t9.trans (s3.trans s4)) ho);rw[qo _ lk,Ge sh pq _ _ e2,e1]at I5;unfold b5;rw[if_neg c'];exact I5
def qV(sh:Int->List Int)(a b to:Int)(es:List Int):List Int:=if a=b then es else aE sh to 0 (kE sh a b 0 es)++tE sh a b 0 es++bE sh to 0 (kE sh a b 0 es)
def Mv(a b to n:Int):Prop:=OW a b n/\0<=to/\to<=n-(b-a)
theorem Rj(sh:Int->List Int)(r:Row):bG sh (cY r)=r:=by
 unfold bG cY;rw[List.flatMap_map]
 induction r with
 | nil=>rfl
 | cons p r ih=>rw[mZ,ih];rfl
theorem E2(sh:Int->List Int)(a b:Int):∀ (aP:List aU) (f:Int),(bG sh ((cu sh f aP).flatMap (kD a b))).length<=(bG sh aP).length+(bG sh aP).length
 | [],_=>by simp[cu,bG]
 | it::r,f=>by
  have ih:=E2 sh a b r (f+mj (dh sh it));have e:bG sh (it::r)=dh sh it++bG sh r:=by unfold bG;rw[mZ];rfl
  have one:(bG sh (kD a b (it,dh sh it,f,f+mj (dh sh it)))).length<=(dh sh it).length+(dh sh it).length:=by
   unfold kD;split
   ·rw[mJ];show (dh sh it).length<=_;lia
   ·split
    ·simp[bG]
    ·rw[Rj];refine jY (rD _) ?_;rw[dH];have:=oV 0 (a-f) (dh sh it) 0;have:=oV (b-f) (f+mj (dh sh it)-f) (dh sh it) 0;simp only;lia
  rw[cu,mZ,gB,dH,e,dH];lia
inductive xK(vs:List V)(H:Hp)(Q:VK)(E:XK):Prop
 | mk (r:Addr) (rows:dI) (s a b to:Int) (sh:Int->List Int) (_:vs=[.ref r,.int s,.int a,.int b,.int to]) (_:uW H r rows sh) (_:0<=s) (_:s<rows.length) (_:Mv a b to (sh s).length) (_:(∀ (es:List Int) (q:Addr) (H':Hp),rows[s.toNat]?=some es->bY H' (.ref q) (aI (qV sh a b to es))->aK H H'->H q=none->Q (.ref q) H'))
theorem zF.mid{i:Int}(h0:-300000<i)(h1:i<300000):zF i:=by
 have a:(300000:Int)<10^60:=by decide
 exact⟨by lia,by lia⟩
theorem zF.XT{i:Int}(h:-100000<i/\i<100000):zF i:=zF.mid (by lia) (by lia)
theorem lV:aL ["rows","sheet","start","stop","to","views","rest","left","taken"] ["rows","sheet","start","stop","to"] (aA nu):=iW
theorem CY{f fp fs fn:Addr}{gn:FuncData}(F:iM K "moved_items" "moved_items" nu f fd)(T:m7 mg)
  (cL:aC K mg "windows" fX oG fw gw) (jg:aC K mg "below" mE mY fb gb) (cD:aC K mg "item_row" gV yH fi gi) (eE:aC K mg "plain" mD gY fp gp) (cO:aC K mg "views_below" eO mY fv gv) (iS:aC K mg "size" sR gY fs gs) (cA:aC K mg "check_places" iE pQ fc gc)
  (ja:aC K mg "goes_on" nj G6 fg gg) (cP:aC K mg "plain_items" iY oG fk gk) (nX:aC K mg "dealt" uL Fj fd' gd) (gX:aC K mg "pieces" pB pQ fq gq) (dX:aC K mg "inked" rO gY fn gn) (jZ:aC K mg "parted" sS G7 fa ga) (mK:aC K mg "put_among" oQ Nf fu gu):aF P w K mg zt bI 4 f fd SR xK:=by
 have gz:aF P w K mg zt bI 2 _ _ pQ uv:=jS cA.F T iS;have jP:aF P w K mg zt bI 3 _ _ mY zg:=nQ cO.F T cL jg cD eE;have jc:aF P w K mg zt bI 2 _ _ oG nR:=nT cP.F T ja;have Gg:aF P w K mg zt bI 3 _ _ G7 CU:=E1 jZ.F T cD iS eE gX nX dX;have yl:aF P w K mg zt bI 3 _ _ Nf yk:=zo mK.F T cD iS eE gX ja cP nX dX;have Iv:aF P w K mg zt bI 1 _ _ gY FI:=F0 iS.F T;refine iZ F lV λdP A zn s0 H vs Q E hr h=>?_;obtain⟨r,rows,s,p,q,to,sh,rfl,R,h0,h1,mv,k1⟩:=h;have hu:=lO hr;refine⟨_,(aj (br (i:=5) lV.nd (aG cO jP hr (aa (pv 0) (aa (bK (aa (pv 1) ah)) ah)))) (aj (aY (aG cA gz hr (aa (jR hu (pv 5) (pv 1)) (aa (pv 2) (aa (pv 3) ah))))) (aj (br (i:=6) lV.nd (bx cW (iU.yY iS (T.tT _ iS.m) Iv hr (aa (jR hu (pv 5) (pv 1)) ah)) (bx cW (pv 3) (pv 2)))) (aj (bV (qB (yK jm jm ay (pv 4) (pv 6))) (au m9) bu) (aj (bV (aZ gj (pv 2) (pv 3) (bw _)) (au (aQ (aG cP jc hr (aa (aW bL (pv 0) (pv 1)) ah)))) bu) (aj (uH (aG jZ Gg hr (aa (aW bL (pv 0) (pv 1)) (aa (pv 5) (aa (pv 2) (aa (pv 3) ah))))) (oM (n:=2) rfl (bR (cy (i:=7) lV.nd) (bR (cy (i:=8) lV.nd) iX)))) (au (aQ (aG mK yl hr (aa (pv 7) (aa (pv 5) (aa (pv 4) (aa (pv 8) ah))))))))))))),?_⟩;refine⟨_,rfl,_,rfl,rV,λL hL=>?_⟩;have s1:aK H (aN H L (.lst [.int s])):=ak hL _;refine⟨r,L,rows,[s],sh,rfl,R.at_.same s1,af,by simp,R.len,R.ents,R.snd,R.rk,(λx hx=>by rw[List.mem_singleton.mp hx];exact⟨h0,h1⟩),R.Q9,R.bd,λS kvs ks H2 hS hv tp sk hn s2 hS0=>?_⟩;have VJ:=sk s (by simp);obtain⟨a,ha,Ra⟩:=hv s VJ;have z:=lD.k (k:=Sum.inl s) hS;rw[ha]at z;have t9:=s1.trans s2;have shl:=R.bd s h0 h1;have rol:=rF (sh s);obtain⟨es,Bh,b,O⟩:=(R.same t9).one h0 h1;refine⟨_,rfl,_,rfl,S,_,rfl,z,_,rfl,_,rfl,a,dc (sh s),p,q,rfl,Ra,by lia,by rw[O.tt];exact mv.1,λH3 s3=>?_⟩
 ·have hp:=mv.1;obtain⟨zD,aap,b',O3⟩:=(R.same (t9.trans s3)).one h0 h1;have ee:es=zD:=uG (O.he.symm.trans O3.he);subst ee;obtain⟨e1,e2⟩:=rY es;have z3:=lD.k (k:=Sum.inl s) (s3 _ _ hS);rw[ha]at z3;refine⟨_,rfl,_,rfl,S,_,rfl,z3,a,dc (sh s),rfl,Ra.same s3,by lia,λH4 s4=>?_⟩;rw[O.tt];refine⟨_,rfl,_,rfl,_,_,rfl,rfl,_,_,rfl,rfl,?_⟩;refine⟨_,rfl,_,_,rfl,rfl,_,rfl,?_⟩;rw[decide_eq_true mv.2.1];refine dQ (λ_=>?_) (λc=>absurd rfl c);refine⟨_,rfl,_,_,rfl,rfl,_,rfl,?_⟩;rw[decide_eq_true mv.2.2];refine gH ?_;have O4:bY H4 (.ref b') (aI es):=O3.it.same s4;have hr4:=s4 _ _ O3.hr;refine⟨_,rfl,_,rfl,rfl,_,rfl,dQ (λc=>?_) (λc=>?_)⟩
  ·have c':p=q:=V.int.inj (of_decide_eq_true c);refine⟨_,rfl,_,rfl,r,_,_,_,rfl,rfl,bM.of hr4,O3.ix,b',aI es,rfl,O4,jY O3.il (by decide),λo H5 I5 s5 ho=>?_⟩;refine k1 es o H5 O.he ?_ (t9.trans (s3.trans (s4.trans s5))) (aX (t9.trans (s3.trans s4)) ho);rw[qo _ e2,e1]at I5;unfold qV;rw[if_pos c'];exact I5
  ·have c':¬ p=q:=λz=>c (by rw[z];exact decide_eq_true rfl);have pq:p<q:=by have:=hp.2.1;lia
   have aav:∀ n,aU.win n∈aI es->∃ a2,cU kvs (Sum.inl n)=some (.ref a2)/\cV H4 a2 (dc (sh n)):=λn hn=>by
    have nx:=wX h0 O.he hn;obtain⟨i,hi⟩:=List.getElem?_of_mem VJ;obtain⟨a2,e2,R2⟩:=hv n (List.mem_of_mem_take (tp.dn i s hi n nx));exact⟨a2,e2,(R2.same s3).same s4⟩
   refine⟨_,rfl,_,rfl,r,_,_,_,rfl,rfl,bM.of hr4,O3.ix,_,rfl,_,rfl,_,rfl,b',S,p,q,aI es,kvs,sh,rfl,O4,s4 _ _ (s3 _ _ hS),aav,jY O3.il (by decide),jY O3.rl (by decide),λt L M H5 ht hL5 hM5 s5=>?_⟩
   have nn:Us sh (aI es):=λn hn=>by
    have nx:=wX h0 O.he hn;obtain⟨n0,n1⟩:=R.snd.G0 nx;exact uw R.snd R.rk R.Q9 n n0 n1
   have O2:=BH sh (aI es) 0 e2 nn;have lk:iV ((cu sh 0 (aI es)).flatMap (kD p q)):=zl λd hd=>VL (O2 d hd).1 (O2 d hd).2;have tk:iV ((cu sh 0 (aI es)).flatMap (tD p q)):=zl λd hd=>aat (O2 d hd).1 (O2 d hd).2;have ll:=rG sh (Le p q) (aI es) 0;have tl:=rG sh (Ri p q) (aI es) 0;have lr:=E2 sh p q (aI es) 0;have oil:=O3.il;have orl:=O3.rl;refine⟨t,_,rfl,d8.of ht,rfl,_,_,rfl,_,_,rfl,rfl,?_⟩;refine⟨_,rfl,_,rfl,_,rfl,_,rfl,L,S,M,to,_,_,kvs,sh,rfl,hL5,s5 _ _ (s4 _ _ (s3 _ _ hS)),(λn hn=>?_),hM5,lk,tk,(λn hn=>nn n (IP sh hn)),by lia,by lia,by lia,λo H6 I6 s6 ho=>?_⟩
   ·obtain⟨a2,e3,R2⟩:=aav n (IP sh hn);exact⟨a2,e3,R2.same s5⟩
   refine k1 es o H6 O.he ?_ (t9.trans (s3.trans (s4.trans (s5.trans s6)))) (aX (t9.trans (s3.trans (s4.trans s5))) ho);rw[Ge sh pq _ _ e2,IL sh pq _ _ e2,e1]at I6;unfold qV;rw[if_neg c'];exact I6
inductive MN(vs:List V)(H:Hp)(Q:VK)(E:XK):Prop
 | mk (r:Addr) (rows:dI) (s:Int) (sh:Int->List Int) (_:vs=[.ref r,.int s]) (_:uW H r rows sh) (_:0<=s) (_:s<rows.length) (_ :
 ∀ (o:Addr) (H':Hp),bY H' (.ref o) (aI (sh s))->aK H H'->H o=none->Q (.ref o) H')
theorem DT:aL ["rows","sheet"] ["rows","sheet"] (aA nv):=iW
theorem CZ{f fp fs fn:Addr}{gn:FuncData}(F:iM K "fixed_items" "fixed_items" nv f fd)(T:m7 mg)
  (cL:aC K mg "windows" fX oG fw gw) (jg:aC K mg "below" mE mY fb gb) (cD:aC K mg "item_row" gV yH fi gi) (eE:aC K mg "plain" mD gY fp gp) (cO:aC K mg "views_below" eO mY fv gv) (mL:aC K mg "shown" yc vD fs gs) (dX:aC K mg "inked" rO gY fn gn):aF P w K mg zt bI 5 f fd vD MN:=by
 have Lf:aF P w K mg zt bI 4 _ _ vD Ga:=IG mL.F T cL jg cD eE cO;have sf:aF P w K mg zt bI 2 _ _ gY wR:=vY dX.F T eE;refine iZ F DT λdP A zn s0 H vs Q E hr h=>?_;obtain⟨r,rows,s,sh,rfl,R,h0,h1,k⟩:=h;refine⟨_,(au (aQ (aG dX sf hr (aa (iU.yY mL (T.vV _ mL.m) Lf hr (aa (pv 0) (aa (pv 1) ah))) ah)))),?_⟩;have shl:=R.bd s h0 h1;have rol:=rF (sh s);refine⟨_,rfl,_,rfl,r,rows,s,sh,rfl,R.at_,R.len,R.ents,R.snd,R.rk,h0,h1,R.Q9,R.bd,λo H1 R1 s1 ho=>?_⟩;refine⟨o,dc (sh s),rfl,R1,by lia,λq H2 I2 s2 hq=>k q H2 ?_ (s1.trans s2) (aX s1 hq)⟩;rw[Ce _ (qe _),gO,Ot (uw R.snd R.rk R.Q9 s h0 h1)]at I2;exact I2
abbrev qE(ws:oF):HO:=.lst (ws.map λw=>V.str (gU w))
abbrev Uv:List (Str × Int):=[(Str.ofString "fresh",0),(Str.ofString "cut",3),(Str.ofString "move",4),(Str.ofString "quote",5),(Str.ofString "window",3),(Str.ofString "fix",1),(Str.ofString "back",2),(Str.ofString "fork",2),(Str.ofString "untie",1),(Str.ofString "read",1)]
abbrev AHD:List (Str × Int):=[(Str.ofString "put",2),(Str.ofString "strike",0),(Str.ofString "blot",1),(Str.ofString "lift",1)]
def sj(D:List (Str × Int))(n:List Nat):Option Int:=(D.find? λp=>decide (gU n=p.1)).map (·.2)
theorem C0{D:List (Str × Int)}{n:List Nat}{i:Int}(h:sj D n=some i):(D.find? λp=>decide (gU n=p.1))=some (gU n,i):=by
 unfold sj at h;obtain⟨⟨x,j⟩,e,rfl⟩:=Option.map_eq_some_iff.mp h;have z:=List.find?_some e;have:gU n=x:=of_decide_eq_true z;rw[e,this]
abbrev IQ:List Nat:=[116,105,101]
inductive oE where
 | DU (h:Int) (t:List Nat)
 | plain (n:List Nat) (ns:List Int)
 | xM (n:List Nat) (ns:List Int) (r:Row)
def oE.At(H:Hp)(p:Addr):oE->Prop
 | .DU h t=>H p=some (.tup [.str "pour",.int h,.str (gU t)])
 | .plain n ns=>H p=some (.tup (.str (gU n)::ns.map V.int))
 | .xM n ns r=>∃ q,H p=some (.tup (.str (gU n)::ns.map V.int++[.ref q]))/\cV H q r
def Ak(n:Int):Prop:=0<=n/\n<10^60
def Rk(r:Row):Prop:=r.length<=29/\∀ p∈r,Ak p.1/\Ak p.2
def oE.Ok:oE->Prop
 | .DU h t=>Ak h/\t.length<=200
 | .plain n ns=>sj Uv n=some (ns.length:Int)/\∀ x∈ns,Ak x
 | .xM n ns r=>sj AHD n=some (ns.length:Int)/\(∀ x∈ns,Ak x)/\Rk r
abbrev zp(p:Int × Int):List Nat:=jN.dg p.1++45::jN.dg p.2
theorem Ox{p:Int × Int}(h:Ak p.1/\Ak p.2):(zp p).length<=121:=by
 rw[dH,oJ];have a:=jN.KN h.1.1 h.1.2;have b:=jN.KN h.2.1 h.2.2;lia
theorem Gh{n:Int}(h:Ak n):n.natAbs.log2<1920:=by
 obtain⟨h0,h1⟩:=h;by_cases z:n.natAbs=0
 ·rw[z];decide
 ·rw[Nat.log2_lt z];have a:n.natAbs<10^60:=by lia
  exact vN a (jY (show (10:Nat)^60<=2^200 by decide) (Nat.pow_le_pow_right (by decide) (by decide)))
inductive kH where
 | num (x:Int)
 | tx (t:List Nat)
 | row (r:Row)
def kH.At(H:Hp)(v:V):kH->Prop
 | .num x=>v=.int x
 | .tx t=>v=.str (gU t)
 | .row r=>∃ q,v=.ref q/\cV H q r
def kH.Ok:kH->Prop
 | .num x=>Ak x
 | .tx t=>t.length<=200
 | .row r=>Rk r
abbrev IS(r:Row):List Nat:=r.flatMap λp=>32::zp p
def kH.line:kH->List Nat
 | .num x=>32::jN.dg x
 | .tx t=>32::t
 | .row r=>IS r
theorem Rl{r:Row}(h:Rk r):(IS r).length<=4000:=by
 have key:∀ l:Row,(∀ p∈l,Ak p.1/\Ak p.2)->(IS l).length<=122*l.length:=by
  intro l
  induction l with
  | nil=>intro _;exact iT _
  | cons p l ih =>
   intro g;have z:=ih λq hq=>g q (t6 _ hq);have z2:=Ox (g p List.mem_cons_self);show ((32::zp p)++IS l).length<=_;rw[dH,oJ,oJ];lia
 have:=key r h.2;have:=h.1;lia
theorem kH.IT{p:kH}(h:p.Ok):p.line.length<=4000:=by
 cases p with
 | num x=>have:=jN.KN h.1 h.2;show (32::jN.dg x).length<=_;rw[oJ];lia
 | tx t=>have h':t.length<=200:=h;show (32::t).length<=_;rw[oJ];lia
 | row r=>exact Rl h
def oE.nm:oE->List Nat
 | .DU _ _=>[112,111,117,114]
 | .plain n _=>n
 | .xM n _ _=>n
def oE.parts:oE->List kH
 | .DU h t=>[.num h,.tx t]
 | .plain _ ns=>ns.map .num
 | .xM _ ns r=>ns.map .num++[.row r]
def oE.line:oE->List Nat
 | d=>d.nm++d.parts.flatMap kH.line
theorem Rm{H:Hp}{p:Addr}{d:oE}(h:d.At H p):∃ vs,H p=some (.tup (.str (gU d.nm)::vs))/\cE (λv q=>kH.At H v q) vs d.parts:=by
 have nums:∀ ns:List Int,cE (λv q=>kH.At H v q) (ns.map V.int) (ns.map kH.num):=λns=>by
  induction ns with
  | nil=>exact .nil
  | cons x ns ih=>exact .cons rfl ih
 cases d with
 | DU x t=>exact⟨_,by rw[h,show Str.ofString "pour"=gU [112,111,117,114] by decide +kernel];rfl,.cons rfl (.cons rfl .nil)⟩
 | plain n ns=>exact⟨_,h,nums ns⟩
 | xM n ns r =>
  obtain⟨q,e,z⟩:=h;exact⟨ns.map V.int++[.ref q],by rw[e];rfl,(nums ns).snoc ⟨q,rfl,z⟩⟩
theorem Oz{d:oE}(h:d.Ok):∀ q∈d.parts,q.Ok:=by
 cases d with
 | DU x t =>
  intro q hq;rcases List.mem_cons.mp hq with z|z
  ·rw[z];exact h.1
  ·rw[List.mem_singleton.mp z];exact h.2
 | plain n ns =>
  intro q hq;obtain⟨x,hx,rfl⟩:=List.mem_map.mp hq;exact h.2 x hx
 | xM n ns r =>
  intro q hq;rcases List.mem_append.mp hq with z|z
  ·obtain⟨x,hx,rfl⟩:=List.mem_map.mp z;exact h.2.1 x hx
  ·rw[List.mem_singleton.mp z];exact h.2.2
theorem IU{H:Hp}:∀ {vs:List V} {ps:List kH} {i:Nat} {v:V},cE (λv q=>kH.At H v q) vs ps->vs[i]?=some v->∃ q,ps[i]?=some q/\q.At H v
 | _,_,_,_,.nil,h=>by simp at h
 | _,_,0,_,.cons o t,h=>by
  have e:=uG h;subst e;exact⟨_,rfl,o⟩
 | _,_,i+1,_,.cons o t,h=>by
  obtain⟨q,e,z⟩:=IU (i:=i) t (by simpa using h);exact⟨q,by simpa using e,z⟩
theorem E3{ps:List kH}(h:∀ q∈ps,q.Ok):(ps.flatMap kH.line).length<=4000*ps.length:=by
 induction ps with
 | nil=>exact qA _
 | cons p ps ih =>
  have z:=ih λq hq=>h q (t6 _ hq);have z2:=kH.IT (h p List.mem_cons_self);rw[mZ,dH,oJ,Nat.mul_add,Nat.mul_one];lia
theorem Uw(n:List Nat):∀ ws:oF,jN.jn 32 (n::ws)=n++ws.flatMap (λw=>32::w):=by
 intro ws
 induction ws generalizing n with
 | nil=>show n=_;simp
 | cons w ws ih =>
  show n++32::jN.jn 32 (w::ws)=_;rw[ih w,mZ];simp
theorem IV{D:List (Str × Int)}{n:List Nat}{k:Int}(hD:∀ p∈D,32∉p.1.cps.toList/\p.1.cps.toList≠[112,111,117,114]/\p.1.cps.toList≠IQ/\p.1.cps.toList.length<=10)(h:sj D n=some k):32∉n/\n≠[112,111,117,114]/\n≠IQ/\n.length<=10:=by
 have z:=hD _ (List.mem_of_find?_eq_some (C0 h));have e:(gU n).cps.toList=n:=jN.uU n;rw[show ((gU n,k):Str × Int).1=gU n from rfl,e]at z;exact z
theorem Rn{n:List Nat}{k:Int}(h:sj Uv n=some k):32∉n/\n≠[112,111,117,114]/\n≠IQ/\n.length<=10:=IV (by decide +kernel) h
theorem Ro{n:List Nat}{k:Int}(h:sj AHD n=some k):32∉n/\n≠[112,111,117,114]/\n≠IQ/\n.length<=10:=IV (by decide +kernel) h
theorem Rp(r:Row):IS r=(r.map zp).flatMap λw=>32::w:=by
 induction r with
 | nil=>rfl
 | cons x r ih=>rw[oK,mZ,← ih];rfl
theorem oE.At.same{H H':Hp}{p:Addr}{d:oE}(h:d.At H p)(s:aK H H'):d.At H' p:=by
 cases d with
 | DU x t=>exact s _ _ h
 | plain n ns=>exact s _ _ h
 | xM n ns r=>obtain⟨q,e,r1⟩:=h;exact⟨q,s _ _ e,r1.same s⟩
theorem OA{n:List Nat}{k:Int}(h:sj Uv n=some k):k<=5:=by
 have z:∀ p∈Uv,p.2<=5:=by decide +kernel
 exact z _ (List.mem_of_find?_eq_some (C0 h))
theorem OB{n:List Nat}{k:Int}(h:sj AHD n=some k):k<=5:=by
 have z:∀ p∈AHD,p.2<=5:=by decide +kernel
 exact z _ (List.mem_of_find?_eq_some (C0 h))
theorem Lg{d:oE}(ok:d.Ok):d.nm≠IQ/\d.nm.length<=10/\d.parts.length<=10:=by
 cases d with
 | DU x t=>exact⟨by show [112,111,117,114]≠IQ;decide,by show 4<=10;decide,by show 2<=10;decide⟩
 | plain n ns =>
  obtain⟨_,_,f3,f4⟩:=Rn ok.1;have:=OA ok.1;exact⟨f3,f4,by show (ns.map kH.num).length<=10;rw[cR];lia⟩
 | xM n ns r =>
  obtain⟨_,_,f3,f4⟩:=Ro ok.1;have:=OB ok.1;exact⟨f3,f4,by show (ns.map kH.num++[kH.row r]).length<=10;rw[dH,cR];show ns.length+1<=10;lia⟩
inductive C1(vs:List V)(H:Hp)(Q:VK)(E:XK):Prop
 | mk (q:Addr) (r:Row) (_:vs=[.ref q]) (_:cV H q r) (_:Rk r) (_: ∀ (a:Addr) (H':Hp),H' a=some (qE (r.map zp))->aK H H'->H a=none->Q (.ref a) H')
theorem IW:aL ["row"] ["row"] (aA mF):=iW
theorem Rq{a b:Int}(ha:0<=a)(hb:0<=b):(Str.empty++Str.ofString (toString a)++Str.ofString "-"++Str.ofString (toString b))=gU (zp (a,b)):=by
 rw[jN.BD ha,jN.BD hb,show Str.ofString "-"=gU [45] by decide +kernel,show Str.empty=gU [] from rfl,FT,FT,FT];simp
theorem Gi{f:Addr}(F:iM K "ink_words" "ink_words" mF f fd)(T:m7 mg):aF P w K mg zt bI 1 f fd gY C1:=by
 refine iZ F IW λdP A zn s H vs Q E hr h=>?_;obtain⟨q,r,rfl,⟨as,hq,pa⟩,⟨lr,fr⟩,k⟩:=h;refine⟨_,(au (aQ (lT (N:=["start","stop"]) (ur (sc:=aA mF) (NX:=["row"]) (jx:=[none,none]) rfl rfl rfl (by decide +kernel) (by decide +kernel) rfl (by decide +kernel) rfl (by decide +kernel)) rfl (cX (pv 0)) (λ_ _ _ _ _ _=>(yV (n:=2) rfl (bR (cy (i:=0) (show List.Nodup (["start","stop"]:List Str) by decide +kernel)) (bR (cy (i:=1) (show List.Nodup (["start","stop"]:List Str) by decide +kernel)) iX)))) (λ_ _ _ _ _ _=>lC) (λ_ _ _ _ _ _=>(jN.QN (jN.My (pv 0) (jN.Ud (jN.My (pv 1) jN.Uc)))))))),?_⟩;have lp:=Paired.length pa;refine⟨_,rfl,q,rfl,⟨_,bM.of hq⟩,λacc dR=>ku (K:=K) (a:=q) (xs:=as.map V.ref) (λi σ H2=>∃ u0 u1:Option V,σ=[u0,u1]/\H2 acc=some (qE ((r.take i).map zp))/\aK H H2) ⟨none,none,rfl,af,ak dR _⟩ (by rintro i σ H2 _ ⟨_,_,_,_,s2⟩;exact bM.of (s2 _ _ hq)) ?_ ?_⟩
 ·rintro i y σ H2 hi ⟨u0,u1,rfl,h2,s2⟩;rw[j5]at hi;obtain⟨a,ei,rfl⟩:=Option.map_eq_some_iff.mp hi;obtain⟨p,ep,hp⟩:=pa.get ei;have fp:=fr p (t7 ep);have il:=(List.getElem?_eq_some_iff.mp ep).1;refine⟨a,_,rfl,d8.of (s2 _ _ hp),rfl,_,_,rfl,_,_,rfl,rfl,?_⟩;refine⟨_,rfl,_,rfl,Gh fp.1,_,rfl,_,rfl,Gh fp.2,_,h2,aV (by rw[cR,cR,jG];lia),_,_,rfl,?_,bX dR s2 (aM acc _ _)⟩;rw[af,take_snoc ep,j0,oK,List.map_nil,Rq fp.1.1 fp.2.1];show some (HO.lst _)=some (HO.lst _);rw[j0];rfl
 ·rintro σ H2 ⟨u0,u1,rfl,h2,s2⟩;rw[cR,lp,kX]at h2;exact k acc H2 h2 s2 dR
def kH.words:kH->oF
 | .num x=>[jN.dg x]
 | .tx t=>[t]
 | .row r=>r.map zp
theorem yo(ps:List kH):(ps.flatMap kH.words).flatMap (λw=>32::w)=ps.flatMap kH.line:=by
 induction ps with
 | nil=>rfl
 | cons p ps ih =>
  rw[mZ,mZ,List.flatMap_append,ih];congr 1
  cases p with
  | num x=>show (32::jN.dg x)++[]=32::jN.dg x;rw[jH]
  | tx t=>show (32::t)++[]=32::t;rw[jH]
  | row r=>exact (Rp r).symm
inductive IX(vs:List V)(H:Hp)(Q:VK)(E:XK):Prop
 | mk (p:Addr) (d:oE) (_:vs=[.ref p]) (_:d.At H p) (_:d.Ok) (_:d.nm≠IQ/\d.nm.length<=10/\d.parts.length<=10) (_: ∀ H',aK H H'->Q (.str (gU d.line)) H')
theorem qW:aL ["deed","words","thing"] ["deed"] (aA pZ):=iW
theorem IY(W:oF):(W.map List.length).sum+W.length=(W.flatMap λw=>32::w).length:=by
 induction W with
 | nil=>rfl
 | cons x W ih =>
  rw[oK,List.sum_cons,oJ,mZ,dH,oJ,← ih];lia
theorem OC(a b:oF):(a.map λw=>V.str (gU w))++(b.map λw=>V.str (gU w))=(a++b).map λw=>V.str (gU w):=List.map_append.symm
theorem DV{f:Addr}(F:iM K "shown_deed" "shown_deed" pZ f fd)(T:m7 mg)(kJ:aC K mg "ink_words" mF gY fI gI):aF P w K mg zt bI 2 f fd ["deed"] IX:=by
 have yp:aF P w K mg zt bI 1 _ _ gY C1:=Gi kJ.F T;refine iZ F qW λdP A zn s H vs Q E hr h=>?_;obtain⟨p,d,rfl,hd,ok,nn,k⟩:=h;refine⟨_,(aj (bV (aZ gj (aW bC (pv 0) ay) bJ (bw _)) (au (aQ (gx PySem.F.plainAttrs_str PySem.F.slot_str_join PySem.F.type_str_join jN.Il bJ (aa (bx nh (bx nh (bx nh (bK (aa bJ ah)) (aG kJ yp hr (aa (aW bC (pv 0) ay) ah))) (bK (aa bJ ah))) (aG kJ yp hr (aa (aW bC (pv 0) ay) ah))) ah)))) bu) (aj (br (i:=1) qW.nd (bK (aa (aW bC (pv 0) ay) ah))) (aj (eL PassesOwn.never rfl (WK (j8 WS (pv 0) (kZ ay) qO)) (cy (i:=2) qW.nd) (au (xX (i:=1) qW.nd rfl (Or.inl rfl) (Pk (rJ (cT fF rfl T.dO Bc (aa (pv 2) (aa (vp rfl T.nP yI) ah)))) (aG kJ yp hr (aa (pv 2) ah)) (bK (aa (Io.ZW (pv 2)) ah))) zY))) (au (aQ (gx PySem.F.plainAttrs_str PySem.F.slot_str_join PySem.F.type_str_join jN.Il bJ (aa (pv 1) ah))))))),?_⟩;have tt:Str.ofString "tie"=gU IQ:=by decide +kernel
 have kil:kitOne K (.type "int") (.type "list")=some false:=by kernel_rfl
 have ksl:kitOne K (.type "str") (.type "list")=some false:=by kernel_rfl
 obtain⟨vs,hp,al⟩:=Rm hd;obtain⟨n1,n2,n3⟩:=nn;have pk:=Oz ok;have lv:=al.len;have ln:d.line=d.nm++d.parts.flatMap kH.line:=rfl;refine⟨_,rfl,p,_,_,_,rfl,rfl,d8.of hp,yh,?_⟩;refine⟨rfl,_,rfl,dQ (λc=>absurd (of_decide_eq_true c) (by rw[tt];intro z;exact n1 (Ub (V.str.inj z)))) (λ_=>?_)⟩;refine⟨_,rfl,p,_,_,_,rfl,rfl,d8.of hp,yh,rV,λwl fwl=>?_⟩;have s0:=ak fwl (.lst [.str (gU d.nm)]);have h0:(aN H wl (.lst [.str (gU d.nm)])) wl=some (qE [d.nm]):=af;refine⟨_,rfl,_,rfl,p,_,rfl,d8.of (s0 _ _ hp),?_,λtp htp=>?_⟩
 ·rintro⟨z,_⟩;have e:HT.jA (V.str (gU d.nm)::vs).length 0 (some 1)=min 1 (V.str (gU d.nm)::vs).length:=HT.LP _ _ 1;have z':HT.jA (V.str (gU d.nm)::vs).length 0 (some 1)=0:=z;rw[e,oJ]at z';lia
 have ec:pV (V.str (gU d.nm)::vs) (some 1) none=vs:=by
  unfold pV;have e:HT.jA (V.str (gU d.nm)::vs).length 0 (some 1)=1:=(HT.LP _ _ 1).trans (by rw[oJ];lia);have e2:HT.jA (V.str (gU d.nm)::vs).length (V.str (gU d.nm)::vs).length none=vs.length+1:=rfl;rw[e,e2];show vs.take (vs.length+1-1)=vs;exact xT (by lia)
 rw[ec];change (aN H wl (.lst [.str (gU d.nm)])) tp=none at htp;have s1':=ak htp (.tup vs);have h1:(aN (aN H wl (.lst [.str (gU d.nm)])) tp (.tup vs)) tp=some (.tup vs):=af;have h1w:=s1' _ _ h0;have s1:=s0.trans s1';have nwt:wl≠tp:=az h0 htp;generalize aN (aN H wl (.lst [.str (gU d.nm)])) tp (.tup vs)=H1 at s1 h1 h1w;refine⟨tp,rfl,⟨_,d8.of h1⟩,Td (K:=K) (a:=tp) (xs:=vs) (λi σ H2=>∃ u:Option V,σ=[some (.ref p),some (.ref wl),u]/\H2 wl=some (qE (d.nm::(d.parts.take i).flatMap kH.words))/\H2 tp=some (.tup vs)/\aK H H2) ⟨none,rfl,by rw[List.take_zero,List.flatMap_nil];exact h1w,h1,s1⟩ (by rintro i σ H2 _ ⟨_,_,_,h2,_⟩;exact d8.of h2) ?_ ?_⟩
 ·rintro i v σ H2 hi ⟨u,rfl,h2,h2t,s2⟩;obtain⟨q,eq,hq⟩:=IU al hi;have qk:=pk q (t7 eq);have ql:=kH.IT qk;have fl:=E3 (ps:=d.parts.take i) λq hq=>pk q (List.mem_of_mem_take hq);have ft:(d.parts.take i).length<=10:=by rw[jG];lia
  have fs:=IY ((d.parts.take i).flatMap kH.words);rw[yo]at fs
  have nx:d.nm::(d.parts.take (i+1)).flatMap kH.words=(d.nm::(d.parts.take i).flatMap kH.words)++q.words:=by
   rw[take_snoc eq,List.flatMap_append,mZ,List.flatMap_nil,jH,List.cons_append]
  have lB:(d.nm::(d.parts.take i).flatMap kH.words).length<=50000:=by rw[oJ];lia
  have lq:q.words.length<=29:=by
   cases q with
   | num x=>show 1<=29;decide
   | tx t=>show 1<=29;decide
   | row r=>show (r.map zp).length<=29;rw[cR];exact qk.1
  have lQ:∀ (t:Addr) (H3:Hp) (v':V),aK H2 H3->H2 t=none->H3 t=some (qE q.words)->∃ (l b:Addr) (xs zs:List V),V.ref wl=.ref l/\V.ref t=.ref b/\H3 l=some (.lst xs)/\H3 b=some (.lst zs)/\xs.length+zs.length<=sizeLine/\∃ u:Option V,([some (.ref p),some (.ref wl),some v']:List (Option V)).set 1 (some (.ref l))=[some (.ref p),some (.ref wl),u]/\(aN H3 l (.lst (xs++zs))) wl=some (qE (d.nm::(d.parts.take (i+1)).flatMap kH.words))/\(aN H3 l (.lst (xs++zs))) tp=some (.tup vs)/\aK H (aN H3 l (.lst (xs++zs))):=by
   intro t H3 v' s3 Mp h3;refine⟨wl,t,_,_,rfl,rfl,s3 _ _ h2,h3,kY (aV (by rw[cR,cR];lia)),_,rfl,?_,?_,?_⟩
   ·rw[OC,af,nx]
   ·rw[aH nwt.symm];exact s3 _ _ h2t
   ·exact bX fwl (s2.trans s3) (aM wl _ _)
  cases q with
  | num x =>
   cases (show v=.int x from hq);refine⟨_,rfl,_,rfl,_,"list",_,_,rfl,.int x,kil,_,rfl,gH ⟨_,rfl,.inl ⟨x,rfl,Gh qk,?_⟩⟩⟩;rw[jN.BD qk.1];exact⟨rV,λt Mp=>lQ t _ (.int x) (ak Mp _) Mp af⟩
  | tx t =>
   cases (show v=.str (gU t) from hq);have lt:t.length<=200:=qk;refine⟨_,rfl,_,rfl,_,"list",_,_,rfl,.str _,ksl,_,rfl,gH ⟨_,rfl,.inr ⟨t,rfl,by lia,?_⟩⟩⟩;exact⟨rV,λt' Mp=>lQ t' _ (.str (gU t)) (ak Mp _) Mp af⟩
  | row r =>
   obtain⟨qa,rfl,hr⟩:=hq;have MA:=hr.same s2;obtain⟨as,has,_⟩:=id MA;refine⟨_,rfl,_,rfl,_,"list",_,_,rfl,.lst has,ZI K,_,rfl,j3 ?_⟩;exact⟨_,rfl,qa,r,rfl,MA,qk,λt H3 h3 s3 Mp=>lQ t H3 (.ref qa) s3 Mp h3⟩
 ·rintro σ H2 ⟨u,rfl,h2,h2t,s2⟩;rw[lv,kX]at h2;have fs:=IY (d.parts.flatMap kH.words);rw[yo]at fs;have fl:=E3 (ps:=d.parts) pk;refine⟨rfl,_,rfl,wl,32,_,by rw[show Str.ofString " "=⟨#[32]⟩ by decide +kernel],rfl,h2,?_,?_⟩
  ·rw[oK,List.sum_cons,oJ];lia
  rw[Uw,yo,← ln];exact k H2 s2
structure aax(S:Addr->Prop)(H:Hp)(st op r:Addr)(aP:List aU):Prop where
 own:S r
 ne:r≠st/\r≠op
 at':bY H (.ref r) aP
def Lh(S:Addr->Prop)(H:Hp)(st op a:Addr)(rows:List (List aU)):Prop:=S a/\a≠st/\a≠op/\∃ rs:List Addr,H a=some (.lst (rs.map V.ref))/\cE (aax S H st op) rs rows
abbrev qX:=List (List (List aU))
structure Opn(bO:qX)(ops:List Int):Prop where
 E4:∃ last,bO.getLast?=some last/\ops.length=last.length
 fit:∀ (s:Nat) (o:Int),ops[s]?=some o->0<=o/\o<bO.length/\∀ (m:Nat) (rows:List (List aU)),bO[m]?=some rows->(o<=m↔s<rows.length)
 less:∀ (m:Nat) (rows:List (List aU)),bO[m]?=some rows->rows.length<=ops.length
structure Sh(C:Addr)(S:Addr->Prop)(H:Hp)(x d st op:Addr)(bO:qX)(ops:List Int):Prop where
 sx:S x
 ss:S st
 so:S op
 al:∀ a,S a->∃ ob,H a=some ob
 hx:H x=some (.ins C d [("states",.ref st),("openings",.ref op)])
 hs:∃ as:List Addr,H st=some (.lst (as.map V.ref))/\cE (Lh S H st op) as bO
 ho:H op=some (.lst (ops.map V.int))
 ne:st≠op
 SD:Opn bO ops
theorem bY.fr{H H':Hp}{r:Addr}{aP:List aU}(h:bY H (.ref r) aP)(k:∀ xs,H r=some (.lst xs)->H' r=some (.lst xs))(t:∀ a xs,H a=some (.tup xs)->H' a=some (.tup xs)):bY H' (.ref r) aP:=by
 obtain⟨a,vs,e,h1,h2⟩:=h;cases e;exact⟨r,vs,rfl,k _ h1,h2.mono λv it ⟨b,e,hb⟩=>⟨b,e,t _ _ hb⟩⟩
theorem Lh.fr{S S':Addr->Prop}{H H':Hp}{st a:Addr}{rows:List (List aU)}(h:Lh S H st op a rows)(sub:∀ a,S a->S' a)(k:∀ a ob,H a=some ob->S a->a≠st->a≠op->H' a=some ob)(t:∀ a xs,H a=some (.tup xs)->H' a=some (.tup xs)):Lh S' H' st op a rows:=by
 obtain⟨sa,n1,n2,rs,hr,al⟩:=h;exact⟨sub _ sa,n1,n2,rs,k _ _ hr sa n1 n2,al.mono λr aP q=>⟨sub _ q.own,q.ne,q.at'.fr (λxs e=>k _ _ e q.own q.ne.1 q.ne.2) t⟩⟩
theorem Sh.fr{S:Addr->Prop}{H H':Hp}{x d st:Addr}{bO:qX}{ops:List Int}(h:Sh C S H x d st op bO ops)(k:∀ a ob,H a=some ob->S a->H' a=some ob)(t:∀ a xs,H a=some (.tup xs)->H' a=some (.tup xs)):Sh C S H' x d st op bO ops:=by
 obtain⟨sx,ss,so,al,hx,⟨as,hs,a2⟩,ho,ne,SD⟩:=h;refine⟨sx,ss,so,λa z=>?_,k _ _ hx sx,⟨as,k _ _ hs ss,a2.mono λa rows q=>q.fr (λ_ z=>z) (λa ob e z _ _=>k _ _ e z) t⟩,k _ _ ho so,ne,SD⟩;obtain⟨ob,e⟩:=al a z;exact⟨ob,k _ _ e z⟩
theorem Sh.same{S:Addr->Prop}{H H':Hp}{x d st:Addr}{bO:qX}{ops:List Int}(h:Sh C S H x d st op bO ops)(k:aK H H'):Sh C S H' x d st op bO ops:=h.fr (λa ob e _=>k a ob e) (λa xs e=>k _ _ e)
theorem Sh.keep{S:Addr->Prop}{H H':Hp}{x d st:Addr}{bO:qX}{ops:List Int}{ls:List V}(h:Sh C S H x d st op bO ops)(hl:H l=some (.lst ls))(nl:¬ S l)(k:cN l H H'):Sh C S H' x d st op bO ops :=
 h.fr (λa ob e z=>k a ob e (λq=>nl (by rw[← q];exact z))) (λa xs e=>k _ _ e (dF e hl))
theorem C2:∀ {as bs:List Addr},as.map V.ref=bs.map V.ref->as=bs
 | [],[],_=>rfl
 | [],_::_,h=>by cases h
 | _::_,[],h=>by cases h
 | a::as,b::bs,h=>by
  rw[oK,oK]at h;injection h with h1 h2;cases h1;rw[C2 h2]
theorem Sh.last{S:Addr->Prop}{H:Hp}{x d st:Addr}{bO:qX}{ops:List Int}(h:Sh C S H x d st op bO ops){as:List Addr}(ha:H st=some (.lst (as.map V.ref))):∃ Su a,as=Su++[a]/\∀ last,bO.getLast?=some last->Lh S H st op a last:=by
 obtain⟨bs,hb,a2⟩:=h.hs
 have e:as=bs:=by
  rw[ha]at hb;have:=HO.lst.inj (uG hb);exact C2 this
 subst e;obtain⟨last,hl,_⟩:=h.SD.E4
 obtain⟨p',rfl⟩:∃ p',bO=p'++[last]:=by
  rcases vL bO with rfl|⟨p',l,rfl⟩
  ·cases hl
  ·rw[uc,vM]at hl;cases hl;exact⟨p',uc⟩
 obtain⟨Su,a,rfl,_,r⟩:=a2.split;refine⟨Su,a,rfl,λl e=>?_⟩;rw[hl]at e;cases e;exact r
theorem yq(xs:List V){p:Int}(h:0<=p):pV xs none (some p)=xs.take p.toNat:=by
 unfold pV;have e1:HT.jA xs.length 0 none=0:=rfl
 have e2:HT.jA xs.length xs.length (some p)=min p.toNat xs.length:=by
  show (if p<0 then (p+(xs.length:Int)).toNat else min p.toNat xs.length)=_;rw[if_neg (by lia)]
 rw[e1,e2,List.drop_zero,Nat.sub_zero];rcases Nat.le_total p.toNat xs.length with z|z
 ·rw[Nat.min_eq_left z]
 ·rw[Nat.min_eq_right z,xT (iT _),xT z]
theorem Al(xs:List V){p:Int}(h:0<=p):pV xs (some p) none=xs.drop p.toNat:=by
 unfold pV;have e1:HT.jA xs.length xs.length none=xs.length:=rfl
 have e2:HT.jA xs.length 0 (some p)=min p.toNat xs.length:=by
  show (if p<0 then (p+(xs.length:Int)).toNat else min p.toNat xs.length)=_;rw[if_neg (by lia)]
 rw[e1,e2];rcases Nat.le_total p.toNat xs.length with z|z
 ·rw[Nat.min_eq_left z,xT (by rw[sO];lia)]
 ·rw[Nat.min_eq_right z,BL (iT _),BL z];simp
inductive Am(vs:List V)(H:Hp)(Q:VK)(E:XK):Prop
 | mk (a r:Addr) (rs:List V) (s:Nat) (_:vs=[.ref a,.int (s:Nat),.ref r]) (_:H a=some (.lst rs)) (_:s<=rs.length) (_:rs.length<=1000) (_: ∀ (p:Addr) (H':Hp),H' p=some (.lst (rs.take s++[.ref r]++rs.drop (s+1)))->aK H H'->H p=none->Q (.ref p) H')
inductive MO(C:Addr)(vs:List V)(H:Hp)(Q:VK)(E:XK):Prop
 | mk (x d:Addr) (_:vs=[.ref x]) (_:H x=some (.ins C d [])) (_: ∀ (st op z:Addr) (H':Hp),Sh C (λa=>a=x\/a=st\/a=op\/a=z) H' x d st op [[]] []->cN x H H'->H st=none->H op=none->H z=none->Q .jj H')
inductive MP(C:Addr)(vs:List V)(H:Hp)(Q:VK)(E:XK):Prop
 | mk (x d st op:Addr) (as:List V) (_:vs=[.ref x]) (_:H x=some (.ins C d [("states",.ref st),("openings",.ref op)])) (_:H st=some (.lst as)) (_:Q (.int ((as.length:Nat)-1)) H)
inductive Li(C:Addr)(vs:List V)(H:Hp)(Q:VK)(E:XK):Prop
 | mk (S:Addr->Prop) (x d st op:Addr) (bO:qX) (ops:List Int) (_:vs=[.ref x]) (_:Sh C S H x d st op bO ops) (_:Q (.int (ops.length:Nat)) H)
theorem OD:aL ["state","sheet","items"] ["state","sheet","items"] (aA uh):=iW
theorem An:aL ["self"] ["self"] (aA l9):=iW
theorem IZ:aL ["self"] ["self"] (aA jJ):=iW
theorem Gj:aL ["self"] ["self"] (aA mR):=iW
theorem C3{f:Addr}(F:iM K "changed" "changed" uh f fd)(T:m7 mg):aF P w K mg zt bI 1 f fd Ng Am:=by
 refine iZ F OD λdP A zn s H vs Q E hr h=>?_;obtain⟨a,r,rs,s,rfl,ha,sl,l1,k⟩:=h;refine⟨_,(aj (bV (qB (yK jm jm ay (pv 1) (iF T.iz (pv 0)))) (au m9) bu) (au (aQ (bx nh (bx nh (j8 qP (pv 0) qO (kZ (pv 1))) (bK (aa (pv 2) ah))) (j8 qP (pv 0) (kZ (bx cZ (pv 1) ay)) qO))))),?_⟩;refine⟨_,rfl,_,_,rfl,rfl,_,rfl,dQ (λc0=>?_) (λc0=>absurd (decide_eq_true (by lia)) c0)⟩;refine⟨_,rfl,a,_,rfl,.inl (bM.of ha),_,_,rfl,rfl,_,rfl,?_⟩;rw[decide_eq_true (show ((s:Nat):Int)<=((rs.length:Nat):Int) by lia)];refine gH ?_;refine⟨_,rfl,_,rfl,_,rfl,a,_,rfl,bM.of ha,λp1 Rt=>?_⟩;rw[yq _ (by lia),Int.toNat_natCast];have s1:aK H (aN H p1 (.lst (rs.take s))):=ak Rt _;have h1:(aN H p1 (.lst (rs.take s))) p1=some (.lst (rs.take s)):=af;generalize aN H p1 (.lst (rs.take s))=H1 at s1 h1;refine⟨_,rfl,rV,λp2 Mn=>?_⟩;have s2:aK H1 (aN H1 p2 (.lst [.ref r])):=ak Mn _;have h2:(aN H1 p2 (.lst [.ref r])) p2=some (.lst [.ref r]):=af;generalize aN H1 p2 (.lst [.ref r])=H2 at s2 h2;refine⟨p1,p2,_,_,rfl,rfl,s2 _ _ h1,h2,(by rw[jG];exact kY (aV (by simp only[xh];lia))),λp3 hp3=>?_⟩;have s3:aK H2 (aN H2 p3 (.lst (rs.take s++[.ref r]))):=ak hp3 _;have h3:(aN H2 p3 (.lst (rs.take s++[.ref r]))) p3=some (.lst (rs.take s++[.ref r])):=af;generalize aN H2 p3 (.lst (rs.take s++[.ref r]))=H3 at s3 h3;have SE:=s1.trans (s2.trans s3);refine⟨_,rfl,_,rfl,_,_,rfl,rfl,_,rfl,a,_,rfl,bM.of (SE _ _ ha),λp4 hp4=>?_⟩;rw[Al _ (by lia),show (((s:Nat):Int)+1).toNat=s+1 by lia];have s4:aK H3 (aN H3 p4 (.lst (rs.drop (s+1)))):=ak hp4 _;have h4:(aN H3 p4 (.lst (rs.drop (s+1)))) p4=some (.lst (rs.drop (s+1))):=af;generalize aN H3 p4 (.lst (rs.drop (s+1)))=H4 at s4 h4;refine⟨p3,p4,_,_,rfl,rfl,s4 _ _ h3,h4,(by rw[dH,jG,sO];exact kY (aV (by simp only[xh];lia))),λp5 hp5=>?_⟩;have s04:=SE.trans s4;exact k p5 _ af (s04.trans (ak hp5 _)) (aX s04 hp5)
theorem zq{f:Addr}(F:iM K "__init__" "Shelf.__init__" l9 f fd)(cl:Ek K C)(n1:cI K C "states")(n2:cI K C "openings"):aF P w K mg zt bI 1 f fd lY (MO C):=by
 refine iZ F An λdP A zn s H vs Q E hr h=>?_;obtain⟨x,d,rfl,hx,k⟩:=h;refine⟨_,(aj (mz (pv 0) (bK (aa (bK ah) ah)) rfl) (au (mz (pv 0) (bK ah) rfl))),?_⟩;refine⟨lF,λz hz=>?_⟩;have a0:aK H (aN H z (.lst [])):=ak hz _;have z0:(aN H z (.lst [])) z=some (.lst []):=af;generalize aN H z (.lst [])=H0 at a0 z0;refine⟨rV,λst Fv=>?_⟩;have a1:aK H0 (aN H0 st (.lst [.ref z])):=ak Fv _;have b1:(aN H0 st (.lst [.ref z])) st=some (.lst [.ref z]):=af;generalize aN H0 st (.lst [.ref z])=H1 at a1 b1;have a01:=a0.trans a1;refine⟨_,rfl,x,C,d,_,rfl,a01 _ _ hx,cl,n1,by decide,?_⟩;have k2:cN x H1 (aN H1 x (.ins C d (L2.fH "states" (.ref st) []))):=aM x _ _;have h2:(aN H1 x (.ins C d (L2.fH "states" (.ref st) []))) x=some (.ins C d [("states",.ref st)]):=af;generalize aN H1 x (.ins C d (L2.fH "states" (.ref st) []))=H2 at k2 h2;have XU:st≠x:=(az (a0 _ _ hx) Fv).symm;have nzx:z≠x:=(az hx hz).symm;have nzs:z≠st:=az z0 Fv;have b2:=k2 _ _ b1 XU;have z2:=k2 _ _ (a1 _ _ z0) nzx;refine⟨lF,λop So=>?_⟩;have Nn:op≠x:=(az h2 So).symm;have nso:st≠op:=az b2 So;have nzo:z≠op:=az z2 So;refine⟨_,rfl,x,C,d,_,rfl,ak So _ _ _ h2,cl,n2,(by show 1<1000;decide),?_⟩
 have k5:cN x H (aN (aN H2 op (.lst [])) x (.ins C d (L2.fH "openings" (.ref op) [("states",.ref st)]))):=λa ob e n=>by
  rw[aH n];exact ak So _ _ _ (k2 _ _ (a01 _ _ e) n)
 have z5:(aN (aN H2 op (.lst [])) x (.ins C d (L2.fH "openings" (.ref op) [("states",.ref st)]))) z=some (.lst []):=by rw[aH nzx];exact ak So _ _ _ z2
 have s5:(aN (aN H2 op (.lst [])) x (.ins C d (L2.fH "openings" (.ref op) [("states",.ref st)]))) st=some (.lst [.ref z]):=by rw[aH XU];exact ak So _ _ _ b2
 have o5:(aN (aN H2 op (.lst [])) x (.ins C d (L2.fH "openings" (.ref op) [("states",.ref st)]))) op=some (.lst []):=by rw[aH Nn];exact af
 have x5:(aN (aN H2 op (.lst [])) x (.ins C d (L2.fH "openings" (.ref op) [("states",.ref st)]))) x=some (.ins C d [("states",.ref st),("openings",.ref op)]):=af;generalize aN (aN H2 op (.lst [])) x (.ins C d (L2.fH "openings" (.ref op) [("states",.ref st)]))=H5 at k5 z5 s5 o5 x5
 refine k st op z _ ⟨.inl rfl,.inr (.inl rfl),.inr (.inr (.inl rfl)),λa w=>?_,x5,⟨[z],s5,.cons ⟨.inr (.inr (.inr rfl)),nzs,nzo,[],z5,.nil⟩ .nil⟩,o5,nso,⟨⟨[],rfl,rfl⟩,λs o e=>(by cases s <;> cases e),λm rows e=>?_⟩⟩ k5 (aX a0 Fv) ?_ hz
 ·rcases w with rfl|rfl|rfl|rfl
  ·exact⟨_,x5⟩
  ·exact⟨_,s5⟩
  ·exact⟨_,o5⟩
  ·exact⟨_,z5⟩
 ·match m,e with
  | 0,e=>cases e;exact iT _
  | m+1,e=>cases e
 ·exact aX a01 (mT k2 Nn So)
theorem uZ{f:Addr}(F:iM K "now" "Shelf.now" jJ f fd)(T:m7 mg)(cl:Ek K C)(n1:cI K C "states"):aF P w K mg zt bI 1 f fd lY (MP C):=by
 refine iZ F IZ λdP A zn s H vs Q E hr h=>?_;obtain⟨x,d,st,op,as,rfl,hx,hs,k⟩:=h;refine⟨_,(au (aQ (bx cW (iF T.iz (fO (pv 0) rfl)) ay))),?_⟩;exact⟨_,rfl,x,C,d,_,.ref st,rfl,hx,cl,n1,rfl,st,_,rfl,.inl (bM.of hs),_,_,rfl,rfl,k⟩
theorem xN{f:Addr}(F:iM K "many" "Shelf.many" mR f fd)(T:m7 mg)(cl:Ek K C)(n1:cI K C "states"):aF P w K mg zt bI 1 f fd lY (Li C):=by
 refine iZ F Gj λdP A zn s H vs Q E hr h=>?_;obtain⟨S,x,d,st,op,bO,ops,rfl,W,k⟩:=h;obtain⟨as,hs,a2⟩:=W.hs;obtain⟨last,hl,ol⟩:=W.SD.E4;refine⟨_,(au (aQ (iF T.iz (aW bL (fO (pv 0) rfl) (pT j7 ay))))),?_⟩;obtain⟨Su,a,rfl,r⟩:=W.last hs;refine⟨_,rfl,x,C,d,_,.ref st,rfl,W.hx,cl,n1,rfl,_,rfl,st,_,_,.ref a,rfl,rfl,bM.of hs,(by rw[j0];exact qf _ _),?_⟩;obtain⟨_,_,_,rs,ha,al⟩:=r last hl;refine⟨a,_,rfl,.inl (bM.of ha),?_⟩;rw[cR,al.len,← ol];exact k
def ap1(rows:List (List aU))(ch:Nat × List aU):List (List aU):=rows.take ch.1++[ch.2]++rows.drop (ch.1+1)
def u9(rows:List (List aU))(vz:List (Nat × List aU)):List (List aU):=vz.foldl ap1 rows
def XW(rows:List (List aU))(vz:List (Nat × List aU)):Prop:=∀ (i:Nat) (ch:Nat × List aU),vz[i]?=some ch->ch.1<=(u9 rows (vz.take i)).length
theorem Ux{rows:List (List aU)}{ch:Nat × List aU}(h:ch.1<=rows.length):rows.length<=(ap1 rows ch).length/\(ap1 rows ch).length<=rows.length+1:=by
 unfold ap1;rw[dH,dH,jG,sO];simp only[xh];lia
theorem E5{rows:List (List aU)}{vz:List (Nat × List aU)}{i:Nat}{ch:Nat × List aU}(h:vz[i]?=some ch):u9 rows (vz.take (i+1))=ap1 (u9 rows (vz.take i)) ch:=by
 unfold u9;rw[take_snoc h,List.foldl_append];rfl
theorem C4{rows:List (List aU)}{vz:List (Nat × List aU)}(ok:XW rows vz):∀ i,i<=vz.length->rows.length<=(u9 rows (vz.take i)).length/\(u9 rows (vz.take i)).length<=rows.length+i
 | 0,_=>⟨Nat.le_refl _,iT _⟩
 | i+1,h=>by
  have e:vz[i]?=some vz[i]:=tO (by lia);have a:=C4 ok i (by lia);have b:=Ux (ok i _ e);rw[E5 e];lia
theorem Opn.step{bO:qX}{ops:List Int}{last rows:List (List aU)}(h:Opn bO ops)(hl:bO.getLast?=some last)(le:last.length<=rows.length):Opn (bO++[rows]) (ops++List.replicate (rows.length-last.length) ((bO.length:Nat):Int)):=by
 obtain⟨⟨l',hl',ol⟩,fit,less⟩:=h;rw[hl]at hl';cases hl'
 have get:∀ (m:Nat) (r:List (List aU)),(bO++[rows])[m]?=some r->bO[m]?=some r/\m<bO.length\/m=bO.length/\r=rows:=λm r e=>by
  by_cases c:m<bO.length
  ·rw[List.getElem?_append_left c]at e;exact .inl ⟨e,c⟩
  ·rw[List.getElem?_append_right (by lia)]at e
   match hm:m-bO.length,e with
   | 0,e=>cases e;exact .inr ⟨by lia,rfl⟩
   | k+1,e=>cases e
 refine⟨⟨rows,vM,by rw[dH,BN];lia⟩,λs o e=>?_,λm r e=>?_⟩
 ·by_cases c:s<ops.length
  ·rw[List.getElem?_append_left c]at e;obtain⟨f0,f1,f2⟩:=fit s o e;refine⟨f0,by rw[dH];simp only[xh];lia,λm r em=>?_⟩;rcases get m r em with ⟨q,_⟩|⟨rfl,rfl⟩
   ·exact f2 m r q
   ·constructor
    ·intro _;lia
    ·intro _;lia
  ·rw[List.getElem?_append_right (by lia),List.getElem?_replicate]at e;split at e
   ·cases e;refine⟨by lia,by rw[dH];simp only[xh];lia,λm r em=>?_⟩;rcases get m r em with ⟨q,lt⟩|⟨rfl,rfl⟩
    ·have:=less m r q;constructor
     ·intro z;lia
     ·intro z;lia
    ·constructor
     ·intro _;lia
     ·intro _;lia
   ·cases e
 ·rw[dH,BN];rcases get m r e with ⟨q,_⟩|⟨rfl,rfl⟩
  ·have:=less m r q;lia
  ·lia
theorem cE.take{α β:Type}{R:α->β->Prop}:∀ {as:List α} {bs:List β} (n:Nat),cE R as bs->cE R (as.take n) (bs.take n)
 | _,_,0,_=>by rw[List.take_zero,List.take_zero];exact .nil
 | _,_,n+1,.nil=>.nil
 | _,_,n+1,.cons e r=>.cons e (r.take n)
theorem cE.drop{α β:Type}{R:α->β->Prop}:∀ {as:List α} {bs:List β} (n:Nat),cE R as bs->cE R (as.drop n) (bs.drop n)
 | _,_,0,h=>h
 | _,_,n+1,.nil=>.nil
 | _,_,n+1,.cons _ r=>r.drop n
theorem I0(v:V):∀ n:Nat,(List.replicate n [v]).flatten=List.replicate n v
 | 0=>rfl
 | n+1=>by rw[List.replicate_succ,List.flatten_cons,I0 v n,List.replicate_succ];rfl
theorem Uy{H:Hp}{a:Addr}{ob:HO}(h:H a=some ob):aN H a ob=H:=by
 funext b;by_cases e:b=a
 ·rw[e,af,h]
 ·rw[aH e]
def Lj(H:Hp)(a:Addr)(ch:Nat × List aU):Prop:=∃ r:Addr,H a=some (.tup [.int (ch.1:Nat),.ref r])/\bY H (.ref r) ch.2
theorem Lj.same{H H':Hp}{a:Addr}{ch:Nat × List aU}(s:aK H H'):Lj H a ch->Lj H' a ch:=λ⟨r,h1,h2⟩=>⟨r,s _ _ h1,h2.same s⟩
inductive Ja(C:Addr)(vs:List V)(H:Hp)(Q:VK)(E:XK):Prop
 | mk (S:Addr->Prop) (x d st op c:Addr) (bO:qX) (ops:List Int) (cs:List Addr) (vz:List (Nat × List aU)) (last:List (List aU)) (_:vs=[.ref x,.ref c]) (_:Sh C S H x d st op bO ops) (_:H c=some (.lst (cs.map V.ref))) (_:cE (Lj H) cs vz) (_:bO.getLast?=some last) (_:XW last vz) (_:vz.length<=200) (_:last.length<=500) (_:bO.length<=1000) (_ :
 ∀ (S':Addr->Prop) (H':Hp),Sh C S' H' x d st op (bO++[u9 last vz]) (ops++List.replicate ((u9 last vz).length-last.length) ((bO.length:Nat):Int))->(∀ a,S' a->S a\/H a=none)->(∀ a ob,H a=some ob->¬ S a->H' a=some ob)->(∀ a xs,H a=some (.tup xs)->H' a=some (.tup xs))->Q .jj H')
theorem lJ:aL ["self","changes","state","ahead","sheet","items"] ["self","changes"] (aA qb):=iW
theorem DW{f:Addr}{gN:FuncData}(F:iM K "step" "Shelf.step" qb f fd)(T:m7 mg)(bZ:ClsAt K mg "Shelf" C fi)(n1:cI K C "states")(n2:cI K C "openings")(jT:aC K mg "changed" uh Ng fC gC)(dY:bQ K C "now" "Shelf.now" jJ lY fN gN):aF P w K mg zt bI 2 f fd zl2 (Ja C):=by
 have C5:aF P w K mg zt bI 1 _ _ Ng Am:=C3 jT.F T;have su:aF P w K mg zt bI 1 _ _ lY (MP C):=uZ dY.F T bZ.cl n1;refine iZ F lJ λdP A zn s H vs Q E hr h=>?_;obtain⟨S,x,d,st,op,c,bO,ops,cs,vz,last,rfl,W,hc,a2,hl,okc,lc,ll,lp,k⟩:=h;refine⟨_,(aj (br (i:=2) lJ.nd (aW bL (fO (pv 0) rfl) (pT j7 ay))) (aj (br (i:=3) lJ.nd (iF T.iz (pv 2))) (aj (eL PassesOwn.never rfl (cX (pv 1)) (oM (n:=2) rfl (bR (cy (i:=4) lJ.nd) (bR (cy (i:=5) lJ.nd) iX))) (au (br (i:=2) lJ.nd (aG jT C5 hr (aa (pv 2) (aa (pv 4) (aa (iK jI rfl T.nP yI (aa (pv 5) ah)) ah))))))) (aj (aY (gx vJ qy qz cB (fO (pv 0) rfl) (aa (pv 2) ah))) (au (zM (pv 0) (bx P4 (bK (aa (ju (pv 0) bZ dY su hr ck) ah)) (bx cW (iF T.iz (pv 2)) (pv 3))) KL)))))),?_⟩;obtain⟨as,hs,al⟩:=id W.hs;obtain⟨Su,a,ea,r⟩:=W.last hs;obtain⟨Sa,na1,na2,rs,ha,ar⟩:=r last hl;have lal:=al.len;refine⟨_,rfl,x,C,d,_,.ref st,rfl,W.hx,bZ.cl,n1,rfl,_,rfl,st,_,_,.ref a,rfl,rfl,bM.of hs,(by rw[ea,j0];exact qf _ _),?_⟩;refine⟨_,rfl,a,_,rfl,.inl (bM.of ha),?_⟩;rw[cR,ar.len];have Fv:∀ q,H q=none->q≠st/\q≠op:=λq hq=>⟨λz=>(by rw[z,hs]at hq;cases hq),λz=>(by rw[z,W.ho]at hq;cases hq)⟩;refine⟨_,rfl,c,rfl,⟨_,bM.of hc⟩,eN (K:=K) (a:=c) (xs:=cs.map V.ref) (λi σ H1=>∃ (u4 u5:Option V) (S1:Addr->Prop) (ai:Addr),σ=[some (.ref x),some (.ref c),some (.ref ai),some (.int (last.length:Nat)),u4,u5]/\aK H H1/\(∀ q,S q->S1 q)/\(∀ q,S1 q->S q\/H q=none)/\(∀ q,S1 q->∃ ob,H1 q=some ob)/\Lh S1 H1 st op ai (u9 last (vz.take i))) ⟨none,none,S,a,rfl,aK.refl _,λ_ z=>z,λ_ z=>.inl z,W.al,r last hl⟩ (by rintro i σ H1 _ ⟨_,_,_,_,_,s,_⟩;exact bM.of (s _ _ hc)) ?_ ?_⟩
 ·rintro i y σ H1 hi ⟨u4,u5,S1,ai,rfl,s1,up,sub,al1,sa1⟩;rw[j5]at hi;obtain⟨t,et,rfl⟩:=Option.map_eq_some_iff.mp hi;obtain⟨ch,ech,q⟩:=a2.get et;have il:=(List.getElem?_eq_some_iff.mp ech).1;obtain⟨ri,ht,hri⟩:=q.same s1;obtain⟨b,vs,eb,hb,itb⟩:=id hri;cases eb;obtain⟨Sai,aaA,ad8,rsi,hai,ari⟩:=id sa1;refine⟨t,_,rfl,d8.of ht,rfl,_,_,rfl,_,_,rfl,rfl,?_⟩;refine⟨_,rfl,_,rfl,_,rfl,ri,_,rfl,.inl (bM.of hb),λz hz=>?_⟩;have s2:aK H1 (aN H1 z (.lst vs)):=ak hz _;have z2:(aN H1 z (.lst vs)) z=some (.lst vs):=af;generalize aN H1 z (.lst vs)=H2 at s2 z2;have lens:=C4 okc i (by lia);have ad9:=okc i ch ech;have lri:=ari.len;refine⟨ai,z,_,ch.1,rfl,s2 _ _ hai,by rw[cR,lri];exact ad9,by rw[cR,lri];lia,λp H3 hp3 s3 fp=>?_⟩;have s23:=s2.trans s3;have fz:H z=none:=aX s1 hz;have fp':H p=none:=aX (s1.trans s2) fp;refine⟨_,_,λq=>S1 q\/q=z\/q=p,p,rfl,s1.trans s23,λq z=>.inl (up q z),λq w=>?_,λq w=>?_,.inr (.inr rfl),(Fv p fp').1,(Fv p fp').2,rsi.take ch.1++[z]++rsi.drop (ch.1+1),?_,?_⟩
  ·rcases w with w|rfl|rfl
   ·exact sub q w
   ·exact .inr fz
   ·exact .inr fp'
  ·rcases w with w|rfl|rfl
   ·obtain⟨ob,e⟩:=al1 q w;exact⟨ob,s23 _ _ e⟩
   ·exact⟨_,s3 _ _ z2⟩
   ·exact⟨_,hp3⟩
  ·rw[hp3];simp only[j0,List.map_take,List.map_drop,oK,List.map_nil]
  ·rw[E5 ech];have mv:cE (aax (λq=>S1 q\/q=z\/q=p) H3 st op) rsi (u9 last (vz.take i)):=ari.mono λr aP q=>⟨.inl q.own,q.ne,q.at'.same s23⟩;refine ((mv.take ch.1).app (.cons ⟨.inr (.inl rfl),Fv z fz,⟨z,vs,rfl,s3 _ _ z2,itb.mono λv it q=>q.same s23⟩⟩ .nil)).app (mv.drop (ch.1+1))
 ·rintro σ H1 ⟨u4,u5,S1,ai,rfl,s1,up,sub,al1,sa1⟩;have lcs:(cs.map V.ref).length=vz.length:=by rw[cR,a2.len]
  rw[lcs,kX]at sa1;have lens:=C4 okc vz.length (iT _);rw[kX]at lens;obtain⟨Sai,aaA,ad8,rsi,hai,ari⟩:=id sa1;have lri:=ari.len;have W1:=W.same s1;have XX:=s1 _ _ hs;refine⟨_,rfl,x,C,d,_,.ref st,rfl,W1.hx,bZ.cl,n1,rfl,.inl ⟨rfl,_,bM.of XX⟩,_,rfl,st,_,_,rfl,rfl,XX,(by rw[cR];exact aV (by lia)),?_⟩;rw[show as.map V.ref++[.ref ai]=(as++[ai]).map V.ref by rw[j0];rfl];have k2:cN st H1 (aN H1 st (.lst ((as++[ai]).map V.ref))):=aM st _ _;have st2:(aN H1 st (.lst ((as++[ai]).map V.ref))) st=some (.lst ((as++[ai]).map V.ref)):=af;generalize aN H1 st (.lst ((as++[ai]).map V.ref))=H2 at k2 st2;have nxs:x≠st:=dF W1.hx XX;have nxo:x≠op:=dF W1.hx W1.ho;have x2:=k2 _ _ W1.hx nxs;have o2:=k2 _ _ W1.ho W.ne.symm;have ai2:=k2 _ _ hai aaA
  have lmn:(((as++[ai]).map V.ref).length:Int)-1=((bO.length:Nat):Int):=by
   rw[cR,dH,lal];simp only[xh];lia
  refine⟨_,rfl,x,C,d,_,.ref op,rfl,x2,bZ.cl,n2,rfl,_,rfl,x,d,_,rfl,x2,rfl,x,d,st,op,_,rfl,x2,st2,?_⟩;rw[lmn];refine⟨rV,λt2 OX=>?_⟩;have s3:aK H2 (aN H2 t2 (.lst [.int (bO.length:Nat)])):=ak OX _;have b3:(aN H2 t2 (.lst [.int (bO.length:Nat)])) t2=some (.lst [.int (bO.length:Nat)]):=af;generalize aN H2 t2 (.lst [.int (bO.length:Nat)])=H3 at s3 b3;refine⟨_,rfl,ai,_,rfl,.inl (bM.of (s3 _ _ ai2)),_,rfl,_,_,rfl,rfl,?_⟩;rw[cR,lri];have ek:(((u9 last vz).length:Nat):Int)-((last.length:Nat):Int)=(((u9 last vz).length-last.length:Nat):Int):=by lia
  show Zw _ (V.int ((((u9 last vz).length:Nat):Int)-((last.length:Nat):Int))) _ _;rw[ek];refine⟨t2,_,_,rfl,rfl,b3,by lia,by lia,(by simp only[xh];exact kY (aV (by lia))),λt3 Uz=>?_⟩;rw[Int.toNat_natCast,I0];generalize hk:(u9 last vz).length-last.length=kk;have s4:aK H3 (aN H3 t3 (.lst (List.replicate kk (V.int (bO.length:Nat))))):=ak Uz _;have b4:(aN H3 t3 (.lst (List.replicate kk (V.int (bO.length:Nat))))) t3=some (.lst (List.replicate kk (V.int (bO.length:Nat)))):=af;generalize aN H3 t3 (.lst (List.replicate kk (V.int (bO.length:Nat))))=H4 at s4 b4;have Iz:=s3.trans s4
  have lo:ops.length<=700:=by
   obtain⟨l',hl',ol⟩:=W.SD.E4;rw[hl]at hl';cases hl';lia
  refine⟨op,t3,_,_,rfl,rfl,Iz _ _ o2,b4,(by rw[cR,BN];exact kY (aV (by lia))),?_⟩;rw[show ops.map V.int++List.replicate kk (V.int (bO.length:Nat))=(ops++List.replicate kk ((bO.length:Nat):Int)).map V.int by rw[j0,List.map_replicate]];have k5:cN op H4 (aN H4 op (.lst ((ops++List.replicate kk ((bO.length:Nat):Int)).map V.int))):=aM op _ _;have o5:(aN H4 op (.lst ((ops++List.replicate kk ((bO.length:Nat):Int)).map V.int))) op=some (.lst ((ops++List.replicate kk ((bO.length:Nat):Int)).map V.int)):=af;generalize aN H4 op (.lst ((ops++List.replicate kk ((bO.length:Nat):Int)).map V.int))=H5 at k5 o5;have x5:=k5 _ _ (Iz _ _ x2) nxo;refine⟨d,_,x5,(by show 2<1000;decide),?_⟩;have e5:aN H5 x (.ins C d (L2.fH "openings" (.ref op) ([("states",.ref st),("openings",.ref op)]:List (Str × V))))=H5:=Uy x5;rw[e5];have k15:∀ q ob,H1 q=some ob->q≠st->q≠op->H5 q=some ob:=λq ob e m1 m2=>k5 _ _ (Iz _ _ (k2 _ _ e m1)) m2;have t15:∀ q xs,H1 q=some (.tup xs)->H5 q=some (.tup xs):=λq xs e=>k15 _ _ e (dF e XX) (dF e W1.ho);have Yr:=k5 _ _ (Iz _ _ st2) W.ne;refine k S1 H5 ⟨up _ W.sx,up _ W.ss,up _ W.so,λq w=>?_,x5,⟨as++[ai],Yr,?_⟩,by rw[hk];exact o5,W.ne,W.SD.step hl lens.1⟩ sub (λq ob e n=>?_) (λq xs e=>t15 _ _ (s1 _ _ e))
  ·by_cases z1:q=st
   ·rw[z1];exact⟨_,Yr⟩
   by_cases z2:q=op
   ·rw[z2];exact⟨_,o5⟩
   obtain⟨ob,e⟩:=al1 q w;exact⟨ob,k15 _ _ e z1 z2⟩
  ·refine (cE.mono (λa rows q=>?_) al).app (.cons (sa1.fr (λ_ z=>z) (λq ob e _ m1 m2=>k15 _ _ e m1 m2) t15) .nil);exact q.fr up (λq ob e _ m1 m2=>k15 _ _ (s1 _ _ e) m1 m2) (λq xs e=>t15 _ _ (s1 _ _ e))
  ·exact k15 _ _ (s1 _ _ e) (λz=>n (by rw[z];exact W.ss)) (λz=>n (by rw[z];exact W.so))
def wY(n:Nat)(a:Int):Prop:=0<=a/\a<(n:Nat)
theorem wY.get{n:Nat}{a:Int}(h:wY n a):∃ j:Nat,a=j/\j<n:=by
 obtain⟨h0,h1⟩:=h;exact⟨a.toNat,by lia,by lia⟩
def Lk(bO:qX)(ops:List Int):Prop:=bO.length<=1000/\ops.length<=1000
inductive oY(C:Addr)(vs:List V)(H:Hp)(Q:VK)(E:XK):Prop
 | mk (S:Addr->Prop) (x d st op:Addr) (bO:qX) (ops:List Int) (s:Int) (_:vs=[.ref x,.int s]) (_:Sh C S H x d st op bO ops) (_:wY ops.length s) (_:Q .jj H)
inductive E6(C:Addr)(vs:List V)(H:Hp)(Q:VK)(E:XK):Prop
 | mk (S:Addr->Prop) (x d st op:Addr) (bO:qX) (ops:List Int) (m:Int) (_:vs=[.ref x,.int m]) (_:Sh C S H x d st op bO ops) (_:wY bO.length m) (_:Q .jj H)
def UA(H H':Hp)(q:Addr)(rows:List (List aU)):Prop:=H q=none/\∃ rs:List Addr,H' q=some (.lst (rs.map V.ref))/\cE (λr aP=>H r=none/\r≠q/\bY H' (.ref r) aP) rs rows
inductive AZ(C:Addr)(vs:List V)(H:Hp)(Q:VK)(E:XK):Prop
 | mk (S:Addr->Prop) (x d st op:Addr) (bO:qX) (ops:List Int) (m:Int) (_:vs=[.ref x,.int m]) (_:Sh C S H x d st op bO ops) (_:Lk bO ops) (_:wY bO.length m) (_:(∀ (mi:Nat) (rows:List (List aU)),m=mi->bO[mi]?=some rows->∀ (q:Addr) (H':Hp),UA H H' q rows->aK H H'->Q (.ref q) H'))
inductive vc(C:Addr)(vs:List V)(H:Hp)(Q:VK)(E:XK):Prop
 | mk (S:Addr->Prop) (x d st op:Addr) (bO:qX) (ops:List Int) (_:vs=[.ref x]) (_:Sh C S H x d st op bO ops) (_:Lk bO ops) (_:(∀ (rows:List (List aU)),bO.getLast?=some rows->∀ (q:Addr) (H':Hp),UA H H' q rows->aK H H'->Q (.ref q) H'))
theorem xo:aL ["self","sheet"] ["self","sheet"] (aA jK):=iW
theorem vZ:aL ["self","moment"] ["self","moment"] (aA eX):=iW
theorem zu:aL ["self","moment"] ["self","moment"] (aA iL):=iW
theorem Gk:aL ["self"] ["self"] (aA sU):=iW
structure ShM(K:Frag)(mg:Str->Option Value)(C:Addr):Prop where
 T:m7 mg
 c:∃ fi,ClsAt K mg "Shelf" C fi
 n1:cI K C "states"
 n2:cI K C "openings"
theorem dZ{f:Addr}(F:iM K "check_sheet" "Shelf.check_sheet" jK f fd)(M:ShM K mg C)(kK:bQ K C "many" "Shelf.many" mR lY fM gM):aF P w K mg zt bI 2 f fd Eh (oY C):=by
 obtain⟨T,⟨fi,bZ⟩,n1,n2⟩:=M;have v7:aF P w K mg zt bI 1 _ _ lY (Li C):=xN kK.F T bZ.cl n1;refine iZ F xo λdP A zn s H vs Q E hr h=>?_;obtain⟨S,x,d,st,op,bO,ops,a,rfl,W,iw,k1⟩:=h;refine⟨_,(au (bV (qB (yK jm rL ay (pv 1) (ju (pv 0) bZ kK v7 hr ck))) (au m9) bu)),?_⟩;refine⟨_,rfl,_,_,rfl,rfl,_,rfl,?_⟩;rw[decide_eq_true iw.1];refine dQ (λ_=>?_) (λc=>absurd rfl c);refine⟨_,rfl,x,d,_,rfl,W.hx,rfl,S,x,d,st,op,bO,ops,rfl,W,_,_,rfl,rfl,_,rfl,?_⟩;rw[decide_eq_true iw.2];exact gH k1
theorem vH{f:Addr}{gN:FuncData}(F:iM K "check_moment" "Shelf.check_moment" eX f fd)(M:ShM K mg C)(dY:bQ K C "now" "Shelf.now" jJ lY fN gN):aF P w K mg zt bI 2 f fd SO (E6 C):=by
 obtain⟨T,⟨fi,bZ⟩,n1,n2⟩:=M;have su:aF P w K mg zt bI 1 _ _ lY (MP C):=uZ dY.F T bZ.cl n1;refine iZ F vZ λdP A zn s H vs Q E hr h=>?_;obtain⟨S,x,d,st,op,bO,ops,a,rfl,W,iw,k1⟩:=h;obtain⟨as,hs,al⟩:=W.hs;refine⟨_,(au (bV (qB (yK jm jm ay (pv 1) (ju (pv 0) bZ dY su hr ck))) (au m9) bu)),?_⟩;refine⟨_,rfl,_,_,rfl,rfl,_,rfl,?_⟩;rw[decide_eq_true iw.1];refine dQ (λ_=>?_) (λc=>absurd rfl c);refine⟨_,rfl,x,d,_,rfl,W.hx,rfl,x,d,st,op,_,rfl,W.hx,hs,_,_,rfl,rfl,_,rfl,?_⟩;rw[decide_eq_true (show a<=((as.map V.ref).length:Int)-1 by rw[cR,al.len];exact Int.le_sub_one_of_lt iw.2)];exact gH k1
theorem Sh.at'{S:Addr->Prop}{H:Hp}{x d st:Addr}{bO:qX}{ops:List Int}(h:Sh C S H x d st op bO ops){as:List Addr}(ha:H st=some (.lst (as.map V.ref))){i:Nat}{rows:List (List aU)}(e:bO[i]?=some rows):∃ a,as[i]?=some a/\Lh S H st op a rows:=by
 obtain⟨bs,hb,a2⟩:=h.hs
 have e':as=bs:=by
  rw[ha]at hb;exact C2 (HO.lst.inj (uG hb))
 subst e';exact a2.get' e
theorem Sh.aaD{S:Addr->Prop}{H:Hp}{x d st:Addr}{bO:qX}{ops:List Int}(h:Sh C S H x d st op bO ops):∃ last,bO.getLast?=some last/\bO[bO.length-1]?=some last/\ops.length=last.length:=by
 obtain⟨last,hl,ol⟩:=h.SD.E4;refine⟨last,hl,?_,ol⟩;rw[List.getLast?_eq_getElem?]at hl;exact hl
theorem yr{f:Addr}{gN:FuncData}(F:iM K "rows_then" "Shelf.rows_then" iL f fd)(M:ShM K mg C)(dY:bQ K C "now" "Shelf.now" jJ lY fN gN)(eZ:bQ K C "check_moment" "Shelf.check_moment" eX SO fm gm):aF P w K mg zt bI 3 f fd SO (AZ C):=by
 have xq:aF P w K mg zt bI 2 _ _ SO (E6 C):=vH eZ.F M dY;obtain⟨T,⟨fi,bZ⟩,n1,n2⟩:=M;refine iZ F zu λdP A zn s H vs Q E hr h=>?_;obtain⟨S,x,d,st,op,bO,ops,m,rfl,W,ok,im,k1⟩:=h;obtain⟨as,hs,al⟩:=id W.hs;refine⟨_,(aj (aY (eT (pv 0) bZ eZ xq hr ck (aa (pv 1) ah))) (au (aQ (lT (N:=["items"]) (ur (sc:=aA iL) (NX:=["self","moment"]) (jx:=[none]) rfl rfl rfl (by decide +kernel) (by decide +kernel) rfl (by decide +kernel) rfl (by decide +kernel)) rfl (cX (aW bL (fO (pv 0) rfl) (pv 1))) (λ_ _ _ _ _ _=>(cy (i:=0) (show List.Nodup (["items"]:List Str) by decide +kernel))) (λ_ _ _ _ _ _=>lC) (λ_ _ _ _ _ _=>(iK KJ rfl T.nP yI (aa (pv 0) ah))))))),?_⟩;refine⟨_,rfl,x,d,_,rfl,W.hx,rfl,_,rfl,S,x,d,st,op,bO,ops,m,rfl,W,im,?_⟩;obtain⟨i,rfl,il⟩:=im.get;have er:bO[i]?=some bO[i]:=tO il;generalize bO[i]=rows at er;obtain⟨b,eb,_,_,_,rs,hb,ar⟩:=W.at' hs er;have lr:=ar.len;have lo:=W.SD.less i rows er;have ok2:=ok.2;refine⟨_,rfl,x,C,d,_,.ref st,rfl,W.hx,bZ.cl,n1,rfl,_,rfl,st,_,_,.ref b,rfl,rfl,bM.of hs,gy (by rw[j5,eb];rfl),?_⟩;refine⟨b,rfl,⟨_,bM.of hb⟩,λacc dR=>ku (K:=K) (a:=b) (xs:=rs.map V.ref) (λj σ H1=>∃ (u:Option V) (qs:List Addr),σ=[u]/\H1 acc=some (.lst (qs.map V.ref))/\aK H H1/\cE (λr aP=>H r=none/\r≠acc/\bY H1 (.ref r) aP) qs (rows.take j)) ⟨none,[],rfl,af,ak dR _,by rw[List.take_zero];exact .nil⟩ (λj σ H1 _ ⟨_,_,_,_,s,_⟩=>bM.of (s _ _ hb)) ?_ ?_⟩
 ·rintro j y σ H1 hj ⟨u,qs,rfl,ha,s1,aq⟩;rw[j5]at hj;obtain⟨ri,eri,rfl⟩:=Option.map_eq_some_iff.mp hj;obtain⟨aP,aec,jB⟩:=ar.get eri;obtain⟨c,vs,ec,hc,it⟩:=jB.at';cases ec;refine⟨_,rfl,ri,_,rfl,.inl (bM.of (s1 _ _ hc)),λz hz=>⟨_,ak hz _ _ _ ha,?_,_,qs++[z],rfl,?_,?_,?_⟩⟩
  ·have:=aq.len;rw[jG]at this;rw[cR];exact aV (by lia)
  ·rw[af,j0];rfl
  ·intro q ob e;rw[aH (az e dR)];exact ak hz _ _ _ (s1 _ _ e)
  ·have nza:z≠acc:=(az ha hz).symm
   have fr:∀ q ob,H1 q=some ob->q≠acc->(aN (aN H1 z (.lst vs)) acc (.lst (qs.map V.ref++[.ref z]))) q=some ob:=λq ob e n=>by
    rw[aH n];exact ak hz _ _ _ e
   have tu:∀ q xs,H1 q=some (.tup xs)->(aN (aN H1 z (.lst vs)) acc (.lst (qs.map V.ref++[.ref z]))) q=some (.tup xs):=λq xs e=>fr _ _ e (dF e ha (by intro w;cases w));rw[take_snoc aec];refine cE.snoc (aq.mono λr aP ⟨h1,h2,h3⟩=>⟨h1,h2,h3.fr (λxs e=>fr _ _ e h2) tu⟩) ⟨aX s1 hz,nza,z,vs,rfl,?_,it.mono λv i ⟨q,e,hq⟩=>⟨q,e,tu _ _ (s1 _ _ hq)⟩⟩;rw[aH nza];exact af
 ·rintro σ H1 ⟨u,qs,rfl,ha,s1,aq⟩;rw[cR,lr,kX]at aq;exact k1 i rows rfl er acc H1 ⟨dR,qs,ha,aq⟩ s1
theorem iH{f fr:Addr}{gN:FuncData}(F:iM K "rows" "Shelf.rows" sU f fd)(M:ShM K mg C)(dY:bQ K C "now" "Shelf.now" jJ lY fN gN)(eZ:bQ K C "check_moment" "Shelf.check_moment" eX SO fm gm)(lK:bQ K C "rows_then" "Shelf.rows_then" iL SO fr gr):aF P w K mg zt bI 4 f fd lY (vc C):=by
 have Ao:aF P w K mg zt bI 3 _ _ SO (AZ C):=yr lK.F M dY eZ;obtain⟨T,⟨fi,bZ⟩,n1,n2⟩:=M;have su:aF P w K mg zt bI 1 _ _ lY (MP C):=uZ dY.F T bZ.cl n1;refine iZ F Gk λdP A zn s H vs Q E hr h=>?_;obtain⟨S,x,d,st,op,bO,ops,rfl,W,ok,k⟩:=h;obtain⟨as,hs,al⟩:=id W.hs;obtain⟨last,hl,FD,_⟩:=W.aaD;have lp:bO.length-1<bO.length:=(List.getElem?_eq_some_iff.mp FD).1;have ok1:=ok.1;have la:(((as.map V.ref).length:Nat):Int)-1=((bO.length-1:Nat):Int):=by rw[cR,al.len];lia
 refine⟨_,(au (aQ (eT (pv 0) bZ lK Ao hr ck (aa (ju (pv 0) bZ dY su hr ck) ah)))),?_⟩;refine⟨_,rfl,x,d,_,rfl,W.hx,rfl,_,rfl,x,d,_,rfl,W.hx,rfl,x,d,st,op,_,rfl,W.hx,hs,?_⟩;rw[la];refine⟨S,x,d,st,op,bO,ops,_,rfl,W,ok,⟨by lia,by lia⟩,λmi rows em er q H1 fs s1=>?_⟩;have:mi=bO.length-1:=by lia
 subst this;rw[FD]at er;cases er;exact k last hl q H1 fs s1
inductive BJ(C:Addr)(vs:List V)(H:Hp)(Q:VK)(E:XK):Prop
 | mk (x d:Addr) (_:vs=[.ref x]) (_:H x=some (.ins C d [])) (_: ∀ (fs:List (Str × V)) (H':Hp),H' x=some (.ins C d fs)->cN x H H'->Q .jj H')
theorem Bj:aL ["self"] ["self"] (aA ny):=iW
theorem Bk:aL ["self"] ["self"] (aA nC):=iW
theorem Jb{x z:Addr}{H:Hp}{o o':HO}(hz:H z=none):cN x H (aN (aN H z o) x o'):=λa ob e n=>by
 rw[aH n];exact ak hz o a ob e
theorem Aq{f:Addr}(F:iM K "__init__" "Dues.__init__" nC f fd)(cl:Ek K C)(n1:cI K C "sums"):aF P w K mg zt bI 1 f fd lY (BJ C):=by
 refine iZ F Bk λdP A zn s H vs Q E hr h=>?_;obtain⟨x,d,rfl,hx,k⟩:=h;refine⟨_,(au (mz (pv 0) qh rfl)),?_⟩;intro z hz;exact⟨_,rfl,x,C,d,_,rfl,ak hz _ _ _ hx,cl,n1,by decide,k _ _ af (Jb hz)⟩
theorem Ar{f:Addr}(F:iM K "__init__" "Ties.__init__" ny f fd)(cl:Ek K C)(n1:cI K C "given")(n2:cI K C "pairs"):aF P w K mg zt bI 1 f fd lY (BJ C):=by
 refine iZ F Bj λdP A zn s H vs Q E hr h=>?_;obtain⟨x,d,rfl,hx,k⟩:=h;refine⟨_,(aj (mz (pv 0) ay rfl) (au (mz (pv 0) qh rfl))),?_⟩;refine⟨_,rfl,x,C,d,_,rfl,hx,cl,n1,by decide,?_⟩;have k1:cN x H (aN H x (.ins C d (L2.fH "given" (.int 0) []))):=aM x _ _;have h1:(aN H x (.ins C d (L2.fH "given" (.int 0) []))) x=some (.ins C d (L2.fH "given" (.int 0) [])):=af;generalize aN H x (.ins C d (L2.fH "given" (.int 0) []))=H1 at k1 h1;intro z hz;exact⟨_,rfl,x,C,d,_,rfl,ak hz _ _ _ h1,cl,n2,(by show 1<1000;decide),k _ _ af (k1.trans (Jb hz))⟩
def SG(aS:mP):List V:=aS.map λp=>JO p.2
def LR(aS:mP):List V:=aS.map λp=>V.int p.1
def ux(h:Int)(cs:List Nat):mP:=cs.map λc=>(h,c)
theorem tw(h:Int)(cs:List Nat):(ux h cs).length=cs.length:=cR ..
theorem UB(aS:mP)(h:Int)(cs:List Nat):SG (aS++ux h cs)=SG aS++cs.map JO:=by
 unfold SG ux;rw[j0,List.map_map];rfl
theorem Gm(v:V):∀ n:Nat,(List.replicate n [v]).flatten=List.replicate n v
 | 0=>rfl
 | n+1=>by rw[List.replicate_succ,List.flatten_cons,Gm v n,List.replicate_succ];rfl
theorem UC(aS:mP)(h:Int)(cs:List Nat):LR (aS++ux h cs)=LR aS++(List.replicate cs.length [V.int h]).flatten:=by
 rw[Gm];unfold LR ux;rw[j0,List.map_map];congr 1;exact List.map_eq_replicate_iff.mpr λc _=>rfl
def yt(h:Int):Nat->mP->List Int
 | _,[]=>[]
 | i,p::r=>if p.1=h then (i:Int)::yt h (i+1) r else yt h (i+1) r
theorem sF(h:Int):∀ (a b:mP) (i:Nat),yt h i (a++b)=yt h i a++yt h (i+a.length) b
 | [],b,i=>rfl
 | p::a,b,i=>by
  rw[List.cons_append,yt,yt,oJ,sF h a b (i+1),show i+1+a.length=i+(a.length+1) by lia]
  split <;> rfl
theorem As(h:Int):∀ (cs:List Nat) (i:Nat),yt h i (ux h cs)=run (i:Int) cs.length
 | [],i=>rfl
 | c::cs,i=>by
  show yt h i ((h,c)::ux h cs)=_;rw[yt,if_pos rfl,As h cs (i+1),oJ,run,show ((i+1:Nat):Int)=(i:Int)+1 by lia]
theorem sG{h g:Int}(n:g≠h):∀ (cs:List Nat) (i:Nat),yt h i (ux g cs)=[]
 | [],i=>rfl
 | c::cs,i=>by
  show yt h i ((g,c)::ux g cs)=_;rw[yt,if_neg n,sG n cs (i+1)]
theorem C6(a b:Int)(k:Nat)(e:b=a+k):bN [(a,b)]=run a k:=by
 show nM (a,b)++[]=_;rw[jH];show run a (b-a).toNat=_;rw[show (b-a).toNat=k by lia]
structure Pw(S:Addr->Prop)(H:Hp)(s o:Addr)(n:Nat)(kvs:List (iy × V))(aS:mP):Prop where
 got:∀ h v,cU kvs (Sum.inl h)=some v->∃ (l:Addr) (row:Row),v=.ref l/\S l/\l≠s/\l≠o/\cV H l row/\(∀ p∈row,p.1<=p.2)/\bN row=yt h 0 aS/\row.length<=n
 jj:∀ h,cU kvs (Sum.inl h)=none->yt h 0 aS=[]
 one:∀ h g v,cU kvs (Sum.inl h)=some v->cU kvs (Sum.inl g)=some v->h=g
 len:kvs.length<=n
structure We(C:Addr)(S:Addr->Prop)(H:Hp)(x d s o p:Addr)(n:Nat)(aS:mP):Prop where
 sx:S x
 ss:S s
 so:S o
 sp:S p
 al:∀ a,S a->∃ ob,H a=some ob
 hx:H x=some (.ins C d [("signs",.ref s),("owners",.ref o),("pourings",.ref p)])
 hs:H s=some (.lst (SG aS))
 ho:H o=some (.lst (LR aS))
 ne:s≠o
 dk:∃ kvs,H p=some (.dK kvs)/\Pw S H s o n kvs aS
theorem cV.two{H H':Hp}{r:Addr}{row:Row}(h:cV H r row)(k:∀ xs,H r=some (.lst xs)->H' r=some (.lst xs))(t:∀ a xs,H a=some (.tup xs)->H' a=some (.tup xs)):cV H' r row:=by
 obtain⟨as,h1,h2⟩:=h;exact⟨as,k _ h1,h2.tups t⟩
theorem We.fr{S:Addr->Prop}{H H':Hp}{x d s p:Addr}{n:Nat}{aS:mP}(h:We C S H x d s o p n aS)(k:∀ a ob,H a=some ob->S a->H' a=some ob)(t:∀ a xs,H a=some (.tup xs)->H' a=some (.tup xs)):We C S H' x d s o p n aS:=by
 obtain⟨sx,ss,so,sp,al,hx,hs,ho,ne,kvs,hp,pw⟩:=h;refine⟨sx,ss,so,sp,λa z=>?_,k _ _ hx sx,k _ _ hs ss,k _ _ ho so,ne,kvs,k _ _ hp sp,λh v e=>?_,pw.jj,pw.one,pw.len⟩
 ·obtain⟨ob,e⟩:=al a z;exact⟨ob,k _ _ e z⟩
 ·obtain⟨l,row,e1,e2,e3,e4,e5,r⟩:=pw.got h v e;exact⟨l,row,e1,e2,e3,e4,e5.two (λxs q=>k _ _ q e2) t,r⟩
theorem We.same{S:Addr->Prop}{H H':Hp}{x d s p:Addr}{n:Nat}{aS:mP}(h:We C S H x d s o p n aS)(k:aK H H'):We C S H' x d s o p n aS:=h.fr (λa ob e _=>k a ob e) (λa xs e=>k _ _ e)
theorem MQ(aS:mP):(SG aS).length=aS.length:=cR ..
theorem UD(aS:mP):(LR aS).length=aS.length:=cR ..
theorem Ru{H:Hp}{a:Addr}{ob:HO}(h:H a=some ob):aN H a ob=H:=by
 funext b;by_cases e:b=a
 ·rw[e,af,h]
 ·rw[aH e]
inductive MR(C:Addr)(vs:List V)(H:Hp)(Q:VK)(E:XK):Prop
 | mk (x d:Addr) (_:vs=[.ref x]) (_:H x=some (.ins C d [])) (_: ∀ (s o p:Addr) (H':Hp),We C (λa=>a=x\/a=s\/a=o\/a=p) H' x d s o p 0 []->cN x H H'->H s=none->H o=none->H p=none->Q .jj H')
inductive BK(C:Addr)(vs:List V)(H:Hp)(Q:VK)(E:XK):Prop
 | mk (x d s o p:Addr) (aS:mP) (_:vs=[.ref x]) (_:H x=some (.ins C d [("signs",.ref s),("owners",.ref o),("pourings",.ref p)])) (_:H s=some (.lst (SG aS))) (_:Q (.int (aS.length:Nat)) H)
inductive Rv(C:Addr)(vs:List V)(H:Hp)(Q:VK)(E:XK):Prop
 | mk (S:Addr->Prop) (x d s o p:Addr) (n:Nat) (aS:mP) (h:Int) (cs:List Nat) (_:vs=[.ref x,.int h,.str (gU cs)]) (_:We C S H x d s o p n aS) (_:aS.length+cs.length<=100000) (_:n<=1000) (_ :
 ∀ (S':Addr->Prop) (q:Addr) (H':Hp),We C S' H' x d s o p (n+1) (aS++ux h cs)->H' q=some (.tup [.int (aS.length:Nat),.int ((aS++ux h cs).length:Nat)])->(∀ a,S' a->S a\/H a=none)->(∀ a ob,H a=some ob->¬ S a->H' a=some ob)->(∀ a xs,H a=some (.tup xs)->H' a=some (.tup xs))->Q (.ref q) H')
theorem Bm:aL ["self"] ["self"] (aA nF):=iW
theorem Jc:aL ["self"] ["self"] (aA oR):=iW
theorem v8:aL ["self","hand","text","start","stretch"] ["self","hand","text"] (aA uN):=iW
theorem Au{f:Addr}(F:iM K "__init__" "Well.__init__" nF f fd)(cl:Ek K C)(n1:cI K C "signs")(n2:cI K C "owners")(n3:cI K C "pourings"):aF P w K mg zt bI 1 f fd lY (MR C):=by
 refine iZ F Bm λdP A zn s H vs Q E hr h=>?_;obtain⟨x,d,rfl,hx,k⟩:=h;refine⟨_,(aj (mz (pv 0) (bK ah) rfl) (aj (mz (pv 0) (bK ah) rfl) (au (mz (pv 0) qh rfl)))),?_⟩;refine⟨lF,λs hs=>?_⟩;have a1:aK H (aN H s (.lst [])):=ak hs _;have b1:(aN H s (.lst [])) s=some (.lst []):=af;generalize aN H s (.lst [])=H1 at a1 b1;refine⟨_,rfl,x,C,d,_,rfl,a1 _ _ hx,cl,n1,by decide,?_⟩;have k2:cN x H1 (aN H1 x (.ins C d (L2.fH "signs" (.ref s) []))):=aM x _ _;have h2:(aN H1 x (.ins C d (L2.fH "signs" (.ref s) []))) x=some (.ins C d [("signs",.ref s)]):=af;generalize aN H1 x (.ins C d (L2.fH "signs" (.ref s) []))=H2 at k2 h2;have XU:s≠x:=(az hx hs).symm;have b2:=k2 _ _ b1 XU;refine⟨lF,λo ho=>?_⟩;have a3:aK H2 (aN H2 o (.lst [])):=ak ho _;have c3:(aN H2 o (.lst [])) o=some (.lst []):=af;generalize aN H2 o (.lst [])=H3 at a3 c3;refine⟨_,rfl,x,C,d,_,rfl,a3 _ _ h2,cl,n2,(by show 1<1000;decide),?_⟩;have k4:cN x H3 (aN H3 x (.ins C d (L2.fH "owners" (.ref o) [("signs",.ref s)]))):=aM x _ _;have h4:(aN H3 x (.ins C d (L2.fH "owners" (.ref o) [("signs",.ref s)]))) x=some (.ins C d [("signs",.ref s),("owners",.ref o)]):=af;generalize aN H3 x (.ins C d (L2.fH "owners" (.ref o) [("signs",.ref s)]))=H4 at k4 h4;have Nn:o≠x:=(az h2 ho).symm;have c4:=k4 _ _ c3 Nn;have b4:=k4 _ _ (a3 _ _ b2) XU;intro p hp;have npx:p≠x:=(az h4 hp).symm;refine⟨_,rfl,x,C,d,_,rfl,ak hp _ _ _ h4,cl,n3,(by show 2<1000;decide),?_⟩
 have k5:cN x H (aN (aN H4 p (.dK [])) x (.ins C d (L2.fH "pourings" (.ref p) [("signs",.ref s),("owners",.ref o)]))):=λa ob e n=>by
  rw[aH n];exact ak hp _ _ _ (k4 _ _ (a3 _ _ (k2 _ _ (a1 _ _ e) n)) n)
 refine k s o p _ ⟨.inl rfl,.inr (.inl rfl),.inr (.inr (.inl rfl)),.inr (.inr (.inr rfl)),λa z=>?_,af,?_,?_,az b2 ho,[],?_,?_⟩ k5 hs ?_ ?_
 ·rcases z with rfl|rfl|rfl|rfl
  ·exact⟨_,af⟩
  ·exact⟨_,by rw[aH XU];exact ak hp _ _ _ b4⟩
  ·exact⟨_,by rw[aH Nn];exact ak hp _ _ _ c4⟩
  ·exact⟨_,by rw[aH npx];exact af⟩
 ·rw[aH XU];exact ak hp _ _ _ b4
 ·rw[aH Nn];exact ak hp _ _ _ c4
 ·rw[aH npx];exact af
 ·exact⟨λh v e=>(by cases e),λh e=>rfl,λh g v e=>(by cases e),iT _⟩
 ·exact aX a1 (mT k2 Nn ho)
 ·exact aX a1 (mT k2 npx (aX a3 (mT k4 npx hp)))
theorem vd{f:Addr}(F:iM K "size" "Well.size" oR f fd)(T:m7 mg)(cl:Ek K C)(n1:cI K C "signs"):aF P w K mg zt bI 1 f fd lY (BK C):=by
 refine iZ F Jc λdP A zn s H vs Q E hr h=>?_;obtain⟨x,d,s,o,p,aS,rfl,hx,hs,k⟩:=h;refine⟨_,(au (aQ (iF T.iz (fO (pv 0) rfl)))),?_⟩;refine⟨_,rfl,x,C,d,_,.ref s,rfl,hx,cl,n1,rfl,s,_,rfl,.inl (bM.of hs),?_⟩;rw[MQ];exact k
theorem Gn{f fs:Addr}(F:iM K "pour" "Well.pour" uN f fd)(T:m7 mg)(jE:ClsAt K mg "Well" C fi)(n1:cI K C "signs")(n2:cI K C "owners")(n3:cI K C "pourings")(gh:bQ K C "size" "Well.size" oR lY fs gs):aF P w K mg zt bI 2 f fd Sk (Rv C):=by
 have oZ:aF P w K mg zt bI 1 fs gs lY (BK C):=vd gh.F T jE.cl n1;refine iZ F v8 λdP A zn s H vs Q E hr h=>?_;obtain⟨S,x,d,s,o,p,n,aS,h,cs,rfl,W,len,nn,k⟩:=h;have hu:=lO hr;refine⟨_,(aj (br (i:=3) v8.nd (ju (pv 0) jE gh oZ hr ck)) (aj (zM (pv 0) (iK (DK rfl) rfl T.nP yI (aa (pv 2) ah)) KL) (aj (zM (pv 0) (bx P4 (bK (aa (pv 1) ah)) (cT FA rfl T.iz PySem.boot_len (aa (pv 2) ah))) KL) (aj (br (i:=4) v8.nd (c9 (aa (pv 3) (aa (ju (pv 0) jE gh oZ hr ck) ah)))) (aj (aY (gx vJ qy qz cB (Ij (fO (pv 0) rfl) (pv 1) (bK ah) ⟨rfl,rfl,rfl,rfl⟩) (aa (pv 4) ah))) (au (aQ (pv 4)))))))),?_⟩;refine⟨_,rfl,x,d,_,rfl,W.hx,rfl,x,d,s,o,p,aS,rfl,W.hx,W.hs,?_⟩;obtain⟨sx,ss,so,sp,al,hx,hs,ho,ne,kvs,hp,pw⟩:=id W;have nxs:x≠s:=dF hx hs;have nxo:x≠o:=dF hx ho;have nxp:x≠p:=dF hx hp;have nps:p≠s:=dF hp hs;have npo:p≠o:=dF hp ho;refine⟨_,rfl,x,C,d,_,.ref s,rfl,hx,jE.cl,n1,rfl,_,rfl,cs,rfl,kY (aV (by lia)),λt ht=>?_⟩;have a1:aK H (aN H t (.lst (cs.map JO))):=ak ht _;have b1:(aN H t (.lst (cs.map JO))) t=some (.lst (cs.map JO)):=af;generalize aN H t (.lst (cs.map JO))=H1 at a1 b1;refine⟨s,t,_,_,rfl,rfl,a1 _ _ hs,b1,(by rw[MQ,cR];exact kY (aV (by lia))),?_⟩;rw[← UB aS h cs];have k2:cN s H1 (aN H1 s (.lst (SG (aS++ux h cs)))):=aM s _ _;have s2:(aN H1 s (.lst (SG (aS++ux h cs)))) s=some (.lst (SG (aS++ux h cs))):=af;generalize aN H1 s (.lst (SG (aS++ux h cs)))=H2 at k2 s2;have k02:cN s H H2:=λa ob e m=>k2 _ _ (a1 _ _ e) m;have x2:=k02 _ _ hx nxs;refine⟨d,_,x2,(by show 3<1000;decide),?_⟩;have e3:aN H2 x (.ins C d (L2.fH "signs" (.ref s) ([("signs",.ref s),("owners",.ref o),("pourings",.ref p)]:List (Str × V))))=H2:=Ru x2;rw[e3];refine⟨_,rfl,x,C,d,_,.ref o,rfl,x2,jE.cl,n2,rfl,_,rfl,rV,λt2 OX=>?_⟩;have a3:aK H2 (aN H2 t2 (.lst [.int h])):=ak OX _;have b3:(aN H2 t2 (.lst [.int h])) t2=some (.lst [.int h]):=af;generalize aN H2 t2 (.lst [.int h])=H3 at a3 b3;refine⟨_,rfl,gU cs,rfl,(by rw[qT];exact kY (aV (by lia))),?_⟩;rw[qT];refine⟨t2,_,_,rfl,rfl,b3,by lia,by lia,(by simp only[xh];exact kY (aV (by lia))),λt3 Uz=>?_⟩;rw[Int.toNat_natCast];have a4:aK H3 (aN H3 t3 (.lst (List.replicate cs.length [V.int h]).flatten)):=ak Uz _;have b4:(aN H3 t3 (.lst (List.replicate cs.length [V.int h]).flatten)) t3=some (.lst (List.replicate cs.length [V.int h]).flatten):=af;generalize aN H3 t3 (.lst (List.replicate cs.length [V.int h]).flatten)=H4 at a4 b4;have k04:cN s H H4:=λa ob e m=>a4 _ _ (a3 _ _ (k02 _ _ e m));refine⟨o,t3,_,_,rfl,rfl,k04 _ _ ho ne.symm,b4,(by rw[UD,Gm,BN];exact kY (aV (by lia))),?_⟩;rw[← UC aS h cs];have k5:cN o H4 (aN H4 o (.lst (LR (aS++ux h cs)))):=aM o _ _;have o5:(aN H4 o (.lst (LR (aS++ux h cs)))) o=some (.lst (LR (aS++ux h cs))):=af;generalize aN H4 o (.lst (LR (aS++ux h cs)))=H5 at k5 o5;have k05:∀ a ob,H a=some ob->a≠s->a≠o->H5 a=some ob:=λa ob e m m2=>k5 _ _ (k04 _ _ e m) m2;have x5:=k05 _ _ hx nxs nxo;have s5:=k5 _ _ (a4 _ _ (a3 _ _ s2)) ne;refine⟨d,_,x5,(by show 3<1000;decide),?_⟩;have e5:aN H5 x (.ins C d (L2.fH "owners" (.ref o) ([("signs",.ref s),("owners",.ref o),("pourings",.ref p)]:List (Str × V))))=H5:=Ru x5;rw[e5]
 have Tc:∀ q,H5 q=none->H q=none:=λq hq=>by
  cases e:H q with
  | none=>rfl
  | some ob =>
   by_cases z1:q=s
   ·rw[z1,s5]at hq;cases hq
   by_cases z2:q=o
   ·rw[z2,o5]at hq;cases hq
   rw[k05 _ _ e z1 z2]at hq;cases hq
 refine⟨_,rfl,_,rfl,x,d,_,rfl,x5,rfl,x,d,s,o,p,_,rfl,x5,s5,?_⟩;refine⟨xj,λq hq=>?_⟩;have a6:aK H5 (aN H5 q (.tup [.int (aS.length:Nat),.int ((aS++ux h cs).length:Nat)])):=ak hq _;have b6:(aN H5 q (.tup [.int (aS.length:Nat),.int ((aS++ux h cs).length:Nat)])) q=some (.tup [.int (aS.length:Nat),.int ((aS++ux h cs).length:Nat)]):=af;generalize aN H5 q (.tup [.int (aS.length:Nat),.int ((aS++ux h cs).length:Nat)])=H6 at a6 b6;have p6:=a6 _ _ (k05 _ _ hp nps npo);have OU:∀ q,H6 q=none->H q=none:=λq hq=>Tc q (aX a6 hq);refine⟨_,rfl,x,C,d,_,.ref p,rfl,a6 _ _ x5,jE.cl,n3,rfl,p,rfl,.inl ⟨_,.inl p6⟩,_,rfl,lF,λz hz=>?_⟩;have a7:aK H6 (aN H6 z (.lst [])):=ak hz _;have b7:(aN H6 z (.lst [])) z=some (.lst []):=af;generalize aN H6 z (.lst [])=H7 at a7 b7;have lp:=pw.len;refine⟨kvs,Sum.inl h,a7 _ _ p6,rfl,aV (by lia),λv hv=>?_,λhv=>?_⟩
 ·obtain⟨l,row,rfl,Sl,ls,lo,⟨as,hl,pa⟩,ok,sp1,rl⟩:=pw.got h v hv;have k07:∀ a ob,H a=some ob->a≠s->a≠o->H7 a=some ob:=λa ob e m m2=>a7 _ _ (a6 _ _ (k05 _ _ e m m2));have l7:=k07 _ _ hl ls lo;have nxl:x≠l:=dF hx hl;have npl:p≠l:=dF hp hl;have la:=pa.len;refine⟨.inl ⟨rfl,_,bM.of l7⟩,_,rfl,l,_,_,rfl,rfl,l7,(by rw[cR];exact aV (by lia)),?_⟩;have k8:cN l H7 (aN H7 l (.lst (as.map V.ref++[.ref q]))):=aM l _ _;have l8:(aN H7 l (.lst (as.map V.ref++[.ref q]))) l=some (.lst (as.map V.ref++[.ref q])):=af;generalize aN H7 l (.lst (as.map V.ref++[.ref q]))=H8 at k8 l8;have t07:∀ a xs,H a=some (.tup xs)->H7 a=some (.tup xs):=λa xs e=>k07 _ _ e (dF e hs) (dF e ho);have XY:∀ a xs,H7 a=some (.tup xs)->H8 a=some (.tup xs):=λa xs e=>k8 _ _ e (dF e l7);have s8:=k8 _ _ (a7 _ _ (a6 _ _ s5)) ls.symm;have o8:=k8 _ _ (a7 _ _ (a6 _ _ o5)) lo.symm;refine⟨_,rfl,k S q H8 ⟨sx,ss,so,sp,λa z=>?_,k8 _ _ (a7 _ _ (a6 _ _ x5)) nxl,s8,o8,ne,kvs,k8 _ _ (a7 _ _ p6) npl,λg v e=>?_,λg e=>?_,pw.one,by lia⟩ (XY _ _ (a7 _ _ b6)) (λa z=>.inl z) (λa ob e m=>?_) (λa xs e=>XY _ _ (t07 _ _ e))⟩
  ·by_cases z1:a=s
   ·rw[z1];exact⟨_,s8⟩
   by_cases z2:a=o
   ·rw[z2];exact⟨_,o8⟩
   by_cases z3:a=l
   ·rw[z3];exact⟨_,l8⟩
   obtain⟨ob,e⟩:=al a z;exact⟨ob,k8 _ _ (k07 _ _ e z1 z2) z3⟩
  ·by_cases c:g=h
   ·subst c;rw[hv]at e;cases e;refine⟨l,row++([(((aS.length:Nat):Int),(((aS++ux g cs).length:Nat):Int))]:Row),rfl,Sl,ls,lo,⟨as++[q],by rw[j0];exact l8,?_⟩,?_,?_,?_⟩
    ·exact bU.append (pa.tups λa xs e=>XY _ _ (t07 _ _ e)) (.cons (b:=(((aS.length:Nat):Int),(((aS++ux g cs).length:Nat):Int))) (XY _ _ (a7 _ _ b6)) .nil)
    ·intro r hr;rcases List.mem_append.mp hr with z|z
     ·exact ok r z
     ·rw[List.mem_singleton.mp z];show ((aS.length:Nat):Int)<=((aS++ux g cs).length:Nat);rw[dH];lia
    ·rw[dD,sp1,sF,As,Nat.zero_add];congr 1;refine C6 _ _ _ ?_;rw[dH,tw];lia
    ·rw[dH];simp only[xh];lia
   ·obtain⟨l',UE,e1,e2,e3,e4,e5,e6,e7,e8⟩:=pw.got g v e;subst e1;have nl:l'≠l:=λz=>c (pw.one g h _ e (by rw[z];exact hv));refine⟨l',UE,rfl,e2,e3,e4,e5.two (λxs q=>k8 _ _ (k07 _ _ q e3 e4) nl) (λa xs e=>XY _ _ (t07 _ _ e)),e6,?_,by lia⟩;rw[e7,sF,sG (λz=>c z.symm),jH]
  ·have c:g≠h:=λz=>by rw[z,hv]at e;cases e
   rw[sF,pw.jj g e,sG (λz=>c z.symm),jH]
  ·have z1:a≠s:=λz=>m (by rw[z];exact ss);have z2:a≠o:=λz=>m (by rw[z];exact so);have z3:a≠l:=λz=>m (by rw[z];exact Sl);exact k8 _ _ (k07 _ _ e z1 z2) z3
 ·have fz:H z=none:=OU z hz;have p7:=a7 _ _ p6;have k8:cN p H7 (aN H7 p (.dK (gQ kvs (Sum.inl h) (.ref z)))):=aM p _ _;have p8:(aN H7 p (.dK (gQ kvs (Sum.inl h) (.ref z)))) p=some (.dK (gQ kvs (Sum.inl h) (.ref z))):=af;generalize aN H7 p (.dK (gQ kvs (Sum.inl h) (.ref z)))=H8 at k8 p8;have z8:=k8 _ _ b7 (dF b7 p7);refine⟨.inl ⟨rfl,_,bM.of z8⟩,_,rfl,z,_,_,rfl,rfl,z8,(by show 0<sizeLine;decide),?_⟩;have k9:cN z H8 (aN H8 z (.lst ([]++[.ref q]))):=aM z _ _;have z9:(aN H8 z (.lst ([]++[.ref q]))) z=some (.lst ([]++[.ref q])):=af;generalize aN H8 z (.lst ([]++[.ref q]))=H9 at k9 z9;have k69:∀ a ob,H6 a=some ob->a≠p->H9 a=some ob:=λa ob e m=>k9 _ _ (k8 _ _ (a7 _ _ e) m) (az e hz);have k09:∀ a ob,H a=some ob->a≠s->a≠o->a≠p->H9 a=some ob:=λa ob e m m2 m3=>k69 _ _ (a6 _ _ (k05 _ _ e m m2)) m3;have t69:∀ a xs,H6 a=some (.tup xs)->H9 a=some (.tup xs):=λa xs e=>k69 _ _ e (dF e p6);have t09:∀ a xs,H a=some (.tup xs)->H9 a=some (.tup xs):=λa xs e=>k09 _ _ e (dF e hs) (dF e ho) (dF e hp);have s9:=k69 _ _ (a6 _ _ s5) nps.symm;have o9:=k69 _ _ (a6 _ _ o5) npo.symm;have p9:=k9 _ _ p8 (dF p7 b7)
  have nz:∀ a,S a->a≠z:=λa sa=>by
   obtain⟨ob,e⟩:=al a sa;exact az e fz
  refine⟨_,rfl,k (λa=>S a\/a=z) q H9 ⟨.inl sx,.inl ss,.inl so,.inl sp,λa w=>?_,k69 _ _ (a6 _ _ x5) nxp,s9,o9,ne,_,p9,λg v e=>?_,λg e=>?_,λg g' v e e'=>?_,(by have:=jD kvs (Sum.inl h:iy) (V.ref z);lia)⟩ (t69 _ _ b6) (λa w=>w.imp id λy=>by rw[y];exact fz) (λa ob e m=>?_) (λa xs e=>t09 _ _ e)⟩
  ·rcases w with w|w
   ·by_cases z1:a=s
    ·rw[z1];exact⟨_,s9⟩
    by_cases z2:a=o
    ·rw[z2];exact⟨_,o9⟩
    by_cases z3:a=p
    ·rw[z3];exact⟨_,p9⟩
    obtain⟨ob,e⟩:=al a w;exact⟨ob,k09 _ _ e z1 z2 z3⟩
   ·rw[w];exact⟨_,z9⟩
  ·rw[kq]at e;by_cases c:g=h
   ·subst c;rw[if_pos rfl]at e;cases e;refine⟨z,([(((aS.length:Nat):Int),(((aS++ux g cs).length:Nat):Int))]:Row),rfl,.inr rfl,(nz _ ss).symm,(nz _ so).symm,⟨[q],z9,.cons (t69 _ _ b6) .nil⟩,?_,?_,?_⟩
    ·intro r hr;rw[List.mem_singleton.mp hr];show ((aS.length:Nat):Int)<=((aS++ux g cs).length:Nat);rw[dH];lia
    ·rw[sF,pw.jj g hv,As,Nat.zero_add,List.nil_append];refine C6 _ _ _ ?_;rw[dH,tw];lia
    ·simp only[xh];lia
   ·rw[if_neg (λz=>c (Sum.inl.inj z))]at e;obtain⟨l',UE,e1,e2,e3,e4,e5,e6,e7,e8⟩:=pw.got g v e;subst e1;refine⟨l',UE,rfl,.inl e2,e3,e4,e5.two (λxs q=>k09 _ _ q e3 e4 (dF q hp)) (λa xs e=>t09 _ _ e),e6,?_,by lia⟩;rw[e7,sF,sG (λz=>c z.symm),jH]
  ·rw[kq]at e;have c:g≠h:=λz=>by rw[z,if_pos rfl]at e;cases e
   rw[if_neg (λz=>c (Sum.inl.inj z))]at e;rw[sF,pw.jj g e,sG (λz=>c z.symm),jH]
  ·have other:∀ g v,g≠h->cU kvs (Sum.inl g)=some v->v≠.ref z:=λg v c e y=>by
    obtain⟨l',UE,e1,e2,_⟩:=pw.got g v e;rw[e1]at y;cases y;exact nz _ e2 rfl
   rw[kq]at e e';by_cases c:g=h
   ·by_cases c':g'=h
    ·rw[c,c']
    ·rw[c,if_pos rfl]at e;rw[if_neg (λz=>c' (Sum.inl.inj z))]at e';cases e;exact absurd rfl (other _ _ c' e')
   ·rw[if_neg (λz=>c (Sum.inl.inj z))]at e;by_cases c':g'=h
    ·rw[c',if_pos rfl]at e';cases e';exact absurd rfl (other _ _ c e)
    ·rw[if_neg (λz=>c' (Sum.inl.inj z))]at e';exact pw.one _ _ _ e e'
  ·have z1:a≠s:=λz=>m (by rw[z];exact ss);have z2:a≠o:=λz=>m (by rw[z];exact so);have z3:a≠p:=λz=>m (by rw[z];exact sp);exact k09 _ _ e z1 z2 z3
theorem Jd(xs:List V){p q:Int}(h:0<=p)(g:0<=q):pV xs (some p) (some q)=(xs.take q.toNat).drop p.toNat:=by
 unfold pV
 have e:∀ r:Int,0<=r->∀ d,HT.jA xs.length d (some r)=min r.toNat xs.length:=λr hr d=>by
  show (if r<0 then (r+(xs.length:Int)).toNat else min r.toNat xs.length)=_;rw[if_neg (by lia)]
 rw[e p h,e q g,List.drop_take];rcases Nat.le_total p.toNat xs.length with z|z
 ·rw[Nat.min_eq_left z];rcases Nat.le_total q.toNat xs.length with y|y
  ·rw[Nat.min_eq_left y]
  ·rw[Nat.min_eq_right y,xT (by rw[sO];lia),xT (by rw[sO];lia)]
 ·rw[Nat.min_eq_right z,BL (iT _),BL z];simp
def SH(n:Nat)(p:Int × Int):Bool:=decide (0<=p.1)&&decide (p.1<p.2)&&decide (p.2<=(n:Int))
def yu(n:Nat)(row:Row):Bool:=row.all (SH n)
inductive MS(C:Addr)(vs:List V)(H:Hp)(Q:VK)(E:XK):Prop
 | mk (S:Addr->Prop) (x d s o p r:Addr) (n:Nat) (aS:mP) (row:Row) (_:vs=[.ref x,.ref r]) (_:We C S H x d s o p n aS) (_:cV H r row) (_:row.length<=1000) (_: ∀ H',aK H H'->Q (.bl (yu aS.length row)) H')
theorem Gp:aL ["self","row"] ["self","row"] (aA qc):=iW
theorem DX{f fs:Addr}(F:iM K "holds" "Well.holds" qc f fd)(T:m7 mg)(jE:ClsAt K mg "Well" C fi)(n1:cI K C "signs")(gh:bQ K C "size" "Well.size" oR lY fs gs):aF P w K mg zt bI 2 f fd U6 (MS C):=by
 have oZ:aF P w K mg zt bI 1 fs gs lY (BK C):=vd gh.F T jE.cl n1;refine iZ F Gp λdP A zn s H vs Q E hr h=>?_;obtain⟨S,x,d,s,o,p,r,n,aS,row,rfl,W,R,len,k⟩:=h;refine⟨_,(au (aQ (cT (N8 rfl) rfl T.Z1 PyProof.Rows.boot_all (aa (lT (N:=["start","stop","self"]) (ur (sc:=aA qc) (NX:=["self","row"]) (jx:=[none,none,some 0]) rfl rfl rfl (by decide +kernel) (by decide +kernel) rfl (by decide +kernel) rfl (by decide +kernel)) rfl (cX (pv 1)) (λ_ _ _ _ _ _=>(yV (n:=2) rfl (bR (cy (i:=0) (show List.Nodup (["start","stop","self"]:List Str) by decide +kernel)) (bR (cy (i:=1) (show List.Nodup (["start","stop","self"]:List Str) by decide +kernel)) iX)))) (λ_ _ _ _ _ _=>lC) (λ_ _ _ _ _ _=>(N9 jm rL jm ay (pv 0) (pv 1) (ju (pv 2) jE gh oZ hr ck)))) ah)))),?_⟩;obtain⟨as,ou,pa⟩:=id R;have la:=pa.len;refine⟨_,rfl,r,rfl,⟨_,bM.of ou⟩,λacc dR=>ku (K:=K) (a:=r) (xs:=as.map V.ref) (λi σ H1=>∃ u w:Option V,σ=[u,w,some (.ref x)]/\H1 acc=some (.lst (((row.take i).map (SH aS.length)).map V.bl))/\aK H H1) ⟨none,none,rfl,af,ak dR _⟩ (by rintro i σ H1 _ ⟨_,_,_,_,s⟩;exact bM.of (s _ _ ou)) ?_ ?_⟩
 ·rintro i y σ H1 hi ⟨u,w,rfl,ha,s1⟩;rw[j5]at hi;obtain⟨t,et,rfl⟩:=Option.map_eq_some_iff.mp hi;obtain⟨q,eq,ht⟩:=uT pa et;have W1:=W.same s1;refine⟨t,_,rfl,d8.of (s1 _ _ ht),rfl,_,_,rfl,_,_,rfl,rfl,?_⟩
  have lQ:∀ v:Bool,SH aS.length q=v->∃ ys,H1 acc=some (.lst ys)/\ys.length<sizeLine/\∃ u w:Option V,[some (V.int q.1),some (V.int q.2),some (.ref x)]=[u,w,some (.ref x)]/\(aN H1 acc (.lst (ys++[.bl v]))) acc=some (.lst (((row.take (i+1)).map (SH aS.length)).map V.bl))/\aK H (aN H1 acc (.lst (ys++[.bl v]))):=λv hv=>by
   refine⟨_,ha,?_,_,_,rfl,?_,?_⟩
   ·rw[cR,cR,jG];exact aV (by lia)
   ·rw[af,take_snoc eq,j0,j0,← hv];rfl
   ·intro b ob e;rw[aH (az e dR)];exact s1 _ _ e
  refine⟨_,rfl,_,_,rfl,rfl,_,rfl,dQ (λc1=>?_) (λc1=>lQ false ?_)⟩
  ·refine⟨_,rfl,_,_,rfl,rfl,_,rfl,dQ (λc2=>?_) (λc2=>lQ false ?_)⟩
   ·refine⟨_,rfl,x,d,_,rfl,W1.hx,rfl,x,d,s,o,p,aS,rfl,W1.hx,W1.hs,_,_,rfl,rfl,lQ _ ?_⟩;unfold SH;rw[c1,c2];rfl
   ·unfold SH;rw[c1,Bool.eq_false_iff.mpr c2];rfl
  ·unfold SH;rw[Bool.eq_false_iff.mpr c1];rfl
 ·rintro σ H1 ⟨u,w,rfl,ha,s1⟩;rw[cR,la,kX]at ha;refine⟨acc,_,rfl,bM.of ha,?_⟩
  have e:(row.map (SH aS.length)).all id=yu aS.length row:=by
   unfold yu;rw[List.all_map];rfl
  rw[e];exact k H1 s1
structure Gbs(mg:Str->Option Value):Prop where
 s:∃ t,mg "MOST_SHEETS"=some (.int 40 t)
 w:∃ t,mg "MOST_WEIGHT"=some (.int 200 t)
 h:∃ t,mg "HIDDEN"=some (.str "#" t)
theorem FP.irr{rows:dI}(h:FP rows){s:Int}:¬ Reach (oA rows) s s:=by
 obtain⟨rk,_,hr⟩:=h
 have key:∀ g,Reach (oA rows) s g->rk g<rk s:=by
  intro g r
  induction r with
  | one e=>exact hr _ _ e
  | step _ e ih=>exact Nat.lt_trans (hr _ _ e) ih
 exact λz=>Nat.lt_irrefl _ (key s z)
structure uy(rows:dI)(f:Int->Int):Prop where
 len:rows.length<=100
 es:∀ es∈rows,es.length<=1000
 sd:jt rows
 rk:FP rows
 wt:Weighs rows f
 most:∀ x:Int,0<=x->x<rows.length->f x<=200
inductive Je(vs:List V)(H:Hp)(Q:VK)(E:XK):Prop
 | mk (r:Addr) (rows:dI) (s:Int) (f:Int->Int) (_:vs=[.ref r,.int s]) (_:jr H r (rows.map aI)) (_:uy rows f) (_:0<=s) (_:s<rows.length) (_: ∀ H',aK H H'->Q .jj H')
theorem pK:aL ["rows","sheet","way","weights","number"] ["rows","sheet"] (aA qQ):=iW
theorem C7{fW:Addr}(F:iM K "check_weave" "check_weave" qQ g fd)(T:m7 mg)(G:Gbs mg)(cL:aC K mg "windows" fX oG fI DA)(jg:aC K mg "below" mE mY fB Up)(lH:aC K mg "item_weight" lu Pb fW MB)(nZ:aC K mg "weights_below" jo mY fV fdV)(lG:aC K mg "way_between" lg Pa fY fdY)(MT:aC K mg "ring" Hz vD fR fdR):aF P w K mg zt bI 4 g fd vD Je:=by
 have C8:aF P w K mg zt bI 3 fV fdV mY CN:=Ac nZ.F T cL jg lH;have aaH:aF P w K mg zt bI 3 fR fdR vD Q0:=Uo MT.F T cL lG;refine iZ F pK λdP A zn s0 H vs Q E hr h=>?_;obtain⟨r,rows,s,f,rfl,hR,B,h0,h1,k⟩:=h;have hu:=lO hr;obtain⟨Gq,Gr⟩:=G.w;have bl:=B.len;refine⟨_,(aj (br (i:=2) pK.nd (aG MT aaH hr (aa (pv 0) (aa (pv 1) ah)))) (aj (bV (Fq (SY (pv 2))) (au m9) bu) (aj (br (i:=3) pK.nd (aG nZ C8 hr (aa (pv 0) (aa (iK (xF rfl) rfl T.nP yI (aa (iK FN rfl T.pJ PyProof.Rows.boot_range (aa (iF T.iz (pv 0)) ah)) ah)) ah)))) (au (eL PassesOwn.never rfl (oN rfl T.pJ (aa (iF T.iz (pv 0)) ah)) (cy (i:=4) pK.nd) (au (bV (aZ BW (jR hu (pv 3) (pv 4)) (LG (v:=.int 200) rfl Gr ⟨Gq,rfl⟩) (bw _)) (au m9) bu))))))),?_⟩;refine⟨_,rfl,_,rfl,r,s,rfl,r,rows,s,s,rfl,hR,by lia,B.es,B.sd,h0,h1,B.rk.irr,λH1 s1=>?_⟩;refine⟨_,rfl,false,rfl,gH ?_⟩;have hR1:=hR.same s1;obtain⟨vs,ou,al⟩:=id hR1;have lv:vs.length=rows.length:=by rw[al.len,cR]
 refine⟨_,rfl,_,rfl,r,_,rfl,.inl (bM.of ou),_,rfl,λp1 Rt=>⟨p1,_,_,rfl,af,⟨by lia,by lia,by lia,by lia⟩,kY (aV (by lia)),λL hL=>?_⟩⟩;rw[Cj,lv,show ((rows.length:Int)-0).toNat=rows.length by lia];rw[lv]at hL;have s2:=s1.trans ((ak Rt (.Hf 0 ((rows.length:Nat):Int))).trans (ak hL (.lst ((run 0 rows.length).map V.int))));have hL2:(aN (aN H1 p1 (.Hf 0 ((rows.length:Nat):Int))) L (.lst ((run 0 rows.length).map V.int))) L=some (.lst ((run 0 rows.length).map V.int)):=af;generalize aN (aN H1 p1 (.Hf 0 ((rows.length:Nat):Int))) L (.lst ((run 0 rows.length).map V.int))=H2 at s2 hL2;refine⟨r,L,rows,run 0 rows.length,f,rfl,hR.same s2,hL2,by rw[Mt];lia,by lia,B.es,B.sd,B.rk,(λx hx=>by have:=QI hx;lia),B.wt,λS kvs H3 hS hv s3 _=>?_⟩;have SE:=s2.trans s3;obtain⟨vs3,Oa,al3⟩:=hR.same SE;have lv3:vs3.length=rows.length:=by rw[al3.len,cR]
 refine⟨_,rfl,r,_,rfl,.inl (bM.of Oa),_,rfl,by lia,by lia,?_⟩;refine rC (lo:=0) (n:=((vs3.length:Nat):Int).toNat) (λi σ H4=>∃ u:Option V,σ=[some (.ref r),some (.int s),some .jj,some (.ref S),u]/\aK H H4/\H4 S=some (.dK kvs)) ⟨none,rfl,SE,hS⟩ ?_ ?_
 ·rintro i σ H4 hi ⟨u,rfl,s4,Z4⟩;have il:i<rows.length:=by lia
  have z:=lD.k (k:=Sum.inl (0+(i:Int))) Z4;rw[hv (0+(i:Int)) (by rw[show (0:Int)+(i:Int)=0+i from rfl];exact t7 (Mm 0 rows.length i il))]at z;refine⟨_,rfl,_,rfl,S,_,rfl,z,_,_,rfl,rfl,_,rfl,?_⟩;rw[decide_eq_false (show ¬ f (0+(i:Int)) > 200 from λy=>by have:=B.most (0+(i:Int)) (by lia) (by lia);lia)];exact gH ⟨_,rfl,s4,Z4⟩
 ·rintro σ H4 ⟨u,rfl,s4,_⟩;exact k H4 s4
structure kL(C CS:Addr)(S:Addr->Prop)(H:Hp)(x d wl sh bl kn du bk dS st op:Addr)(bO:qX)(ops:List Int)(aB:oF):Prop where
 hx:H x=some (.ins C d [("well",.ref wl),("shelf",.ref sh),("blots",.ref bl),("knots",.ref kn),("dues",.ref du),("book",.ref bk)])
 W:Sh CS S H sh dS st op bO ops
 hb:H bk=some (qE aB)
 nx:¬ S x
 nb:¬ S bk
structure DY(K:Frag)(mg:Str->Option Value)(C CS:Addr):Prop where
 M:ShM K mg CS
 c:∃ fi,ClsAt K mg "Library" C fi
 nw:cI K C "well"
 ns:cI K C "shelf"
 G3:cI K C "blots"
 nk:cI K C "knots"
 nd:cI K C "dues"
 Gs:cI K C "book"
 G:Gbs mg
def Fr(S S':Addr->Prop)(bk:Addr)(H H':Hp):Prop:=(∀ a,S' a->S a\/H a=none)/\(∀ a ob,H a=some ob->¬ S a->a≠bk->H' a=some ob)/\∀ a xs,H a=some (.tup xs)->H' a=some (.tup xs)
theorem Fr.same{S S':Addr->Prop}{bk:Addr}{H0 H H':Hp}(s:aK H0 H)(f:Fr S S' bk H H'):Fr S S' bk H0 H' :=
 ⟨λa z=>(f.1 a z).imp id λy=>aX s y,λa ob e n1 n2=>f.2.1 a ob (s _ _ e) n1 n2,λa xs e=>f.2.2 a xs (s _ _ e)⟩
theorem kL.same{S:Addr->Prop}{H H':Hp}{x d wl sh bl du bk st:Addr}{bO:qX}{ops:List Int}{aB:oF}(L:kL C CS S H x d wl sh bl kn du bk dS st op bO ops aB)(s:aK H H'):kL C CS S H' x d wl sh bl kn du bk dS st op bO ops aB :=
 ⟨s _ _ L.hx,L.W.same s,s _ _ L.hb,L.nx,L.nb⟩
theorem kL.neb{S:Addr->Prop}{H:Hp}{x d wl sh bl du bk st:Addr}{bO:qX}{ops:List Int}{aB:oF}(L:kL C CS S H x d wl sh bl kn du bk dS st op bO ops aB):x≠bk:=λe=>by
 have z:=L.hx;rw[e,L.hb]at z;cases z
inductive MU(C CS:Addr)(vs:List V)(H:Hp)(Q:VK)(E:XK):Prop
 | mk (S:Addr->Prop) (x d wl sh bl kn du bk dS st op:Addr) (bO:qX) (ops:List Int) (aB:oF) (_:vs=[.ref x]) (_:kL C CS S H x d wl sh bl kn du bk dS st op bO ops aB) (_:Q (.int (ops.length:Nat)) H)
inductive Gu(C CS:Addr)(vs:List V)(H:Hp)(Q:VK)(E:XK):Prop
 | mk (S:Addr->Prop) (x d wl sh bl kn du bk dS st op:Addr) (bO:qX) (ops:List Int) (aB:oF) (dd c:Addr) (e:oE) (cs:List Addr) (vz:List (Nat × List aU)) (last:List (List aU)) (_:vs=[.ref x,.ref dd,.ref c]) (_:kL C CS S H x d wl sh bl kn du bk dS st op bO ops aB) (_:e.At H dd) (_:e.Ok) (_:H c=some (.lst (cs.map V.ref))) (_:c≠bk) (_:cE (Lj H) cs vz) (_:(∀ a∈cs,∀ (s:Int) (r:Addr),H a=some (.tup [.int s,.ref r])->r≠bk)) (_:bO.getLast?=some last) (_:XW last vz) (_:vz.length<=200) (_:last.length<=500) (_:bO.length<=1000) (_:aB.length<=1000) (_ :
 ∀ (S':Addr->Prop) (H':Hp),kL C CS S' H' x d wl sh bl kn du bk dS st op (bO++[u9 last vz]) (ops++List.replicate ((u9 last vz).length-last.length) ((bO.length:Nat):Int)) (aB++[e.line])->Fr S S' bk H H'->Q .jj H')
theorem Bo:aL ["self","deed","changes"] ["self","deed","changes"] (aA cC):=iW
theorem C9:aL ["self"] ["self"] (aA pC):=iW
theorem Bp{f:Addr}(F:iM K "many" "Library.many" pC f fd)(L:DY K mg C CS)(kK:bQ K CS "many" "Shelf.many" mR lY fM gM):aF P w K mg zt bI 2 f fd lY (MU C CS):=by
 obtain⟨M,⟨fi,aJ⟩,nw,ns,G3,nk,nd,Gs,G⟩:=L;obtain⟨T,⟨fj,bZ⟩,n1,n2⟩:=M;have v7:aF P w K mg zt bI 1 _ _ lY (Li CS):=xN kK.F T bZ.cl n1;refine iZ F C9 λdP A zn s H vs Q E hr h=>?_;obtain⟨S,x,d,wl,sh,bl,kn,du,bk,dS,st,op,bO,ops,aB,rfl,L,k⟩:=h;refine⟨_,(au (aQ (ju (fO (pv 0) rfl) bZ kK v7 hr ck))),?_⟩;exact⟨_,rfl,x,C,d,_,.ref sh,rfl,L.hx,aJ.cl,ns,rfl,sh,dS,_,rfl,L.W.hx,rfl,S,sh,dS,st,op,bO,ops,rfl,L.W,k⟩
theorem uz{f:Addr}{gN:FuncData}(F:iM K "enter" "Library.enter" cC f fd)(L:DY K mg C CS)(kJ:aC K mg "ink_words" mF gY fI gI)(tF:aC K mg "shown_deed" pZ ["deed"] fD gD)(jT:aC K mg "changed" uh Ng fC gC)(dY:bQ K CS "now" "Shelf.now" jJ lY fN gN)(tG:bQ K CS "step" "Shelf.step" qb zl2 fT gT):aF P w K mg zt bI 3 f fd JU (Gu C CS):=by
 obtain⟨M,⟨fi,aJ⟩,nw,ns,G3,nk,nd,Gs,G⟩:=L;obtain⟨T,⟨fj,bZ⟩,n1,n2⟩:=M;have Jf:aF P w K mg zt bI 2 _ _ ["deed"] IX:=DV tF.F T kJ;have Jg:aF P w K mg zt bI 2 _ _ zl2 (Ja CS):=DW tG.F T bZ n1 n2 jT dY;refine iZ F Bo λdP A zn s H vs Q E hr h=>?_;obtain⟨S,x,d,wl,sh,bl,kn,du,bk,dS,st,op,bO,ops,aB,dd,c,e,cs,vz,last,rfl,L,de,ok,hc,ncb,al,nr,hl,oc,l1,l2,l3,l4,k⟩:=h;refine⟨_,(aj (aY (gx vJ qy qz cB (fO (pv 0) rfl) (aa (aG tF Jf hr (aa (pv 1) ah)) ah))) (au (aY (eT (fO (pv 0) rfl) bZ tG Jg hr ck (aa (pv 2) ah))))),?_⟩;refine⟨_,rfl,x,C,d,_,.ref bk,rfl,L.hx,aJ.cl,Gs,rfl,.inl ⟨rfl,_,bM.of L.hb⟩,_,rfl,dd,e,rfl,de,ok,Lg ok,λH1 s1=>?_⟩;refine⟨bk,_,_,rfl,rfl,s1 _ _ L.hb,aV (by rw[cR];lia),?_⟩;have e2:(aB.map λw=>V.str (gU w))++[V.str (gU e.line)]=(aB++[e.line]).map λw=>V.str (gU w):=by rw[j0];rfl
 rw[e2]
 have k2:cN bk H (aN H1 bk (qE (aB++[e.line]))):=λa o q n=>by
  rw[aH n];exact s1 _ _ q
 have G1:(aN H1 bk (qE (aB++[e.line]))) bk=some (qE (aB++[e.line])):=af
 have UG:∀ a,(aN H1 bk (qE (aB++[e.line]))) a=none->H a=none:=λa q=>by
  by_cases z:a=bk
  ·rw[z,af]at q;cases q
  ·rw[aH z]at q;exact aX s1 q
 generalize aN H1 bk (qE (aB++[e.line]))=H2 at k2 G1 UG;have t2:∀ a xs,H a=some (.tup xs)->H2 a=some (.tup xs):=λa xs q=>k2 _ _ q (dF q L.hb);have W2:Sh CS S H2 sh dS st op bO ops:=L.W.keep L.hb L.nb k2;have x2:=k2 _ _ L.hx L.neb;refine⟨_,rfl,x,C,d,_,.ref sh,rfl,x2,aJ.cl,ns,rfl,sh,dS,_,rfl,W2.hx,rfl,_,rfl,S,sh,dS,st,op,c,bO,ops,cs,vz,last,rfl,W2,k2 _ _ hc ncb,?_,hl,oc,l1,l2,l3,λS' H3 W3 sub fr tp=>?_⟩
 ·have key:∀ {as:List Addr} {ds:List (Nat × List aU)},cE (Lj H) as ds->(∀ a∈as,a∈cs)->cE (Lj H2) as ds:=by
   intro as ds q
   induction q with
   | nil=>intro _;exact .nil
   | cons o t ih =>
    intro sub;refine .cons ?_ (ih λa ha=>sub a (t6 _ ha));obtain⟨r,ha,it⟩:=o;have nrb:=nr _ (sub _ List.mem_cons_self) _ r ha;exact⟨r,t2 _ _ ha,it.fr (λxs q=>k2 _ _ q nrb) t2⟩
  exact key al λ_ z=>z
 ·refine k S' H3 ⟨fr _ _ x2 L.nx,W3,fr _ _ G1 L.nb,λz=>?_,λz=>?_⟩ ⟨λa z=>(sub a z).imp id λq=>UG a q,λa ob q n n'=>fr _ _ (k2 _ _ q n') n,λa xs q=>tp _ _ (t2 _ _ q)⟩
  ·rcases sub _ z with q|q
   ·exact L.nx q
   ·rw[x2]at q;cases q
  ·rcases sub _ z with q|q
   ·exact L.nb q
   ·rw[G1]at q;cases q
abbrev qK(pe:m8):qX:=pe.map λrows=>rows.map aI
def lW(rows:dI)(s:Nat)(es:List Int):dI:=rows.take s++[es]++rows.drop (s+1)
theorem UH(rows:dI)(s:Nat)(es:List Int):u9 (rows.map aI) [(s,aI es)]=(lW rows s es).map aI:=by
 show (rows.map aI).take s++[aI es]++(rows.map aI).drop (s+1)=_;unfold lW;rw[j0,j0,List.map_take,List.map_drop];rfl
theorem Jh{rows:dI}{s:Nat}{es:List Int}(h:s<=rows.length):(lW rows s es).length=if s=rows.length then rows.length+1 else rows.length:=by
 unfold lW;rw[dH,dH,jG,sO];show min s rows.length+1+_=_
 split <;> lia
def Rw(ops:List Int)(n s m:Nat):List Int:=ops++if s=n then [(m:Int)] else []
theorem XZ{rows:dI}{s:Nat}{es:List Int}{ops:List Int}{m:Nat}(h:s<=rows.length):ops++List.replicate (((lW rows s es).map aI).length-(rows.map aI).length) (m:Int)=Rw ops rows.length s m:=by
 rw[cR,cR,Jh h];unfold Rw;by_cases c:s=rows.length
 ·rw[if_pos c,if_pos c,show rows.length+1-rows.length=1 by lia];rfl
 ·rw[if_neg c,if_neg c,Nat.sub_self];rfl
inductive qt(C CS:Addr)(vs:List V)(H:Hp)(Q:VK)(E:XK):Prop
 | mk (S:Addr->Prop) (x d wl sh bl kn du bk dS st op:Addr) (pe:m8) (ops:List Int) (aB:oF) (dd r:Addr) (e:oE) (s:Nat) (es:List Int) (rows:dI) (f:Int->Int) (_:vs=[.ref x,.ref dd,.int (s:Nat),.ref r]) (_:kL C CS S H x d wl sh bl kn du bk dS st op (qK pe) ops aB) (_:e.At H dd) (_:e.Ok) (_:bY H (.ref r) (aI es)) (_:r≠bk) (_:pe.getLast?=some rows) (_:s<=rows.length) (_:rows.length<=50) (_:pe.length<=900) (_:aB.length<=900) (_:uy (lW rows s es) f) (_ :
 ∀ (S':Addr->Prop) (H':Hp),kL C CS S' H' x d wl sh bl kn du bk dS st op (qK (pe++[lW rows s es])) (Rw ops rows.length s pe.length) (aB++[e.line])->Fr S S' bk H H'->Q .jj H')
theorem Av:aL ["self","deed","sheet","items"] ["self","deed","sheet","items"] (aA cS):=iW
structure JR(K:Frag)(mg:Str->Option Value)(CS:Addr):Prop where
 many:∃ f g,bQ K CS "many" "Shelf.many" mR lY f g
 now:∃ f g,bQ K CS "now" "Shelf.now" jJ lY f g
 cs:∃ f g,bQ K CS "check_sheet" "Shelf.check_sheet" jK Eh f g
 cm:∃ f g,bQ K CS "check_moment" "Shelf.check_moment" eX SO f g
 rst:∃ f g,bQ K CS "rows_then" "Shelf.rows_then" iL SO f g
 rs:∃ f g,bQ K CS "rows" "Shelf.rows" sU lY f g
 stp:∃ f g,bQ K CS "step" "Shelf.step" qb zl2 f g
structure MV(K:Frag)(mg:Str->Option Value):Prop where
 win:∃ f g,aC K mg "windows" fX oG f g
 bel:∃ f g,aC K mg "below" mE mY f g
 iw:∃ f g,aC K mg "item_weight" lu Pb f g
 wb:∃ f g,aC K mg "weights_below" jo mY f g
 wy:∃ f g,aC K mg "way_between" lg Pa f g
 rg:∃ f g,aC K mg "ring" Hz vD f g
 cw:∃ f g,aC K mg "check_weave" qQ vD f g
 ch:∃ f g,aC K mg "changed" uh Ng f g
 ik:∃ f g,aC K mg "ink_words" mF gY f g
 sd:∃ f g,aC K mg "shown_deed" pZ ["deed"] f g
theorem iI{pe:m8}{rows:dI}(h:pe.getLast?=some rows):(qK pe).getLast?=some (rows.map aI):=by
 rw[List.getLast?_map,h];rfl
theorem Rx{H H':Hp}{rs:List Addr}{rows:List (List aU)}{r:Addr}{aP:List aU}{s:Nat}(al:cE (λq i=>bY H' (.ref q) i) rs rows)(it:bY H' (.ref r) aP):cE (bY H') ((rs.map V.ref).take s++[.ref r]++(rs.map V.ref).drop (s+1)) (rows.take s++[aP]++rows.drop (s+1)):=by
 have key:cE (bY H') (rs.map V.ref) rows:=by
  induction al with
  | nil=>exact .nil
  | cons o t ih=>exact .cons o ih
 exact ((key.take s).app (.cons it .nil)).app (key.drop (s+1))
theorem eU{f:Addr}(F:iM K "change" "Library.change" cS f fd)(L:DY K mg C CS)(A1:JR K mg CS)(A2:MV K mg)(aR:bQ K C "enter" "Library.enter" cC JU fE gE):aF P w K mg zt bI 5 f fd G4 (qt C CS):=by
 obtain⟨⟨_,_,d1⟩,⟨_,_,d2⟩,⟨_,_,d3⟩,⟨_,_,d4⟩,⟨_,_,d7⟩,⟨_,_,bS⟩,⟨_,_,d9⟩⟩:=A1;obtain⟨⟨_,_,w1⟩,⟨_,_,w2⟩,⟨_,_,w3⟩,⟨_,_,w4⟩,⟨_,_,w5⟩,⟨_,_,w6⟩,⟨_,_,qY⟩,⟨_,_,jT⟩,⟨_,_,w9⟩,⟨_,_,w10⟩⟩:=A2;have sH:aF P w K mg zt bI 3 _ _ JU (Gu C CS):=uz aR.F L w9 w10 jT d2 d9;obtain⟨M,⟨fi,aJ⟩,nw,ns,G3,nk,nd,Gs,G⟩:=L;have dm:aF P w K mg zt bI 4 _ _ lY (vc CS):=iH bS.F M d2 d4 d7;obtain⟨T,⟨fj,bZ⟩,n1,n2⟩:=M;have C5:aF P w K mg zt bI 1 _ _ Ng Am:=C3 jT.F T;have Gv:aF P w K mg zt bI 4 _ _ vD Je:=C7 qY.F T G w1 w2 w3 w4 w5 w6;refine iZ F Av λdP A zn s H vs Q E hr h=>?_;obtain⟨S,x,d,wl,sh,bl,kn,du,bk,dS,st,op,pe,ops,aB,dd,r,e,s,es,rows,f,rfl,L,de,ok,hi,nrb,hl,sl,l1,l2,l3,B,k⟩:=h;have hl':=iI hl;have lp:(qK pe).length=pe.length:=cR _
 have lo:ops.length=rows.length:=by
  obtain⟨last,z1,z2⟩:=L.W.SD.E4;rw[hl']at z1;cases z1;rw[z2,cR]
 refine⟨_,(aj (aY (aG qY Gv hr (aa (aG jT C5 hr (aa (ju (fO (pv 0) rfl) bZ bS dm hr ck) (aa (pv 2) (aa (pv 3) ah)))) (aa (pv 2) ah)))) (au (aY (eT (pv 0) aJ aR sH hr ck (aa (pv 1) (aa (bK (aa (c9 (aa (pv 2) (aa (pv 3) ah))) ah)) ah)))))),?_⟩;refine⟨_,rfl,x,C,d,_,.ref sh,rfl,L.hx,aJ.cl,ns,rfl,sh,dS,_,rfl,L.W.hx,rfl,S,sh,dS,st,op,qK pe,ops,rfl,L.W,⟨by lia,by lia⟩,λX0 el q H1 fs s1=>?_⟩;rw[hl']at el;cases el;obtain⟨fq,rs,hq,al⟩:=fs;have lr:rs.length=rows.length:=by rw[al.len,cR]
 have hi1:=hi.same s1;have L1:=L.same s1;refine⟨_,rfl,_,rfl,q,r,_,s,rfl,hq,by rw[cR,lr];exact sl,by rw[cR,lr];lia,λp2 H2 Mn s2 f2=>?_⟩
 refine⟨_,rfl,p2,lW rows s es,(s:Int),f,rfl,⟨_,Mn,?_⟩,B,by lia,by rw[Jh sl];split <;> lia,λH3 s3=>?_⟩
 ·have z:=Rx (H:=H) (H':=H2) (s:=s) (al.mono λq' i' w'=>(w'.2.2).same s2) (hi1.same s2)
  have e':(rows.map aI).take s++[aI es]++(rows.map aI).drop (s+1)=(lW rows s es).map aI:=by
   unfold lW;rw[j0,j0,List.map_take,List.map_drop];rfl
  rw[e']at z;exact z
 have Cs:=s1.trans (s2.trans s3);have L3:=L.same Cs;refine⟨_,rfl,x,d,_,rfl,L3.hx,rfl,_,rfl,_,rfl,_,rfl,xj,λt ht=>⟨rV,λc hc=>?_⟩⟩;have s4:aK H3 (aN (aN H3 t (.tup [.int (s:Nat),.ref r])) c (.lst [.ref t])):=(ak ht _).trans (ak hc _);have ht4:(aN (aN H3 t (.tup [.int (s:Nat),.ref r])) c (.lst [.ref t])) t=some (.tup [.int (s:Nat),.ref r]):=ak hc _ _ _ af;have hc4:(aN (aN H3 t (.tup [.int (s:Nat),.ref r])) c (.lst [.ref t])) c=some (.lst ([t].map V.ref)):=af
 have nc:c≠bk:=λz=>by
  have:=ak ht (.tup [.int (s:Nat),.ref r]) _ _ L3.hb;rw[← z,hc]at this;cases this
 generalize aN (aN H3 t (.tup [.int (s:Nat),.ref r])) c (.lst [.ref t])=H4 at s4 ht4 hc4;have OE:=Cs.trans s4;refine⟨S,x,d,wl,sh,bl,kn,du,bk,dS,st,op,qK pe,ops,aB,dd,c,e,[t],[(s,aI es)],rows.map aI,rfl,L.same OE,de.same OE,ok,hc4,nc,.cons ⟨r,ht4,hi.same OE⟩ .nil,?_,hl',?_,(by show 1<=200;decide),by rw[cR];lia,by lia,by lia,λS' H' L' fr=>?_⟩
 ·intro a ha s' r' e';rw[List.mem_singleton.mp ha,ht4]at e';cases e';exact nrb
 ·intro i ch ei
  match i,ei with
  | 0,ei =>
   cases ei;show s<=(rows.map aI).length;rw[cR];exact sl
  | i+1,ei=>cases ei
 ·rw[UH,XZ sl,lp]at L';refine k S' H' ?_ (fr.same OE)
  have ep:qK (pe++[lW rows s es])=qK pe++[(lW rows s es).map aI]:=by
   show (pe++[lW rows s es]).map _=_;rw[j0];rfl
  rw[ep];exact L'
inductive MW(C CS:Addr)(vs:List V)(H:Hp)(Q:VK)(E:XK):Prop
 | mk (S:Addr->Prop) (x d wl sh bl kn du bk dS st op:Addr) (pe:m8) (ops:List Int) (aB:oF) (dd r:Addr) (e:oE) (es:List Int) (rows:dI) (_:vs=[.ref x,.ref dd,.ref r]) (_:kL C CS S H x d wl sh bl kn du bk dS st op (qK pe) ops aB) (_:e.At H dd) (_:e.Ok) (_:bY H (.ref r) (aI es)) (_:r≠bk) (_:pe.getLast?=some rows) (_:rows.length<=50) (_:pe.length<=900) (_:aB.length<=900) (_:rows.length<40) (_:((∃ f,uy (rows++[es]) f)/\∀ (S':Addr->Prop) (H':Hp),kL C CS S' H' x d wl sh bl kn du bk dS st op (qK (pe++[rows++[es]])) (ops++[((pe.length:Nat):Int)]) (aB++[e.line])->Fr S S' bk H H'->Q (.int (rows.length:Nat)) H'))
theorem vA:aL ["self","deed","items","sheet"] ["self","deed","items"] (aA nH):=iW
theorem Ji(rows:dI)(es:List Int):lW rows rows.length es=rows++[es]:=by
 unfold lW;rw[kX,BL (by lia),jH]
structure LbF(K:Frag)(mg:Str->Option Value)(C:Addr):Prop where
 en:∃ f g,bQ K C "enter" "Library.enter" cC JU f g
 ch:∃ f g,bQ K C "change" "Library.change" cS G4 f g
 many:∃ f g,bQ K C "many" "Library.many" pC lY f g
 bg:∃ f g,bQ K C "begin" "Library.begin" nH zl6 f g
theorem tH{S:Addr->Prop}{H:Hp}{x d wl sh bl du bk st:Addr}{pe:m8}{ops:List Int}{aB:oF}{rows:dI}(L:kL C CS S H x d wl sh bl kn du bk dS st op (qK pe) ops aB)(hl:pe.getLast?=some rows):ops.length=rows.length:=by
 obtain⟨last,z1,z2⟩:=L.W.SD.E4;rw[iI hl]at z1;cases z1;rw[z2,cR]
theorem Aw{f:Addr}(F:iM K "begin" "Library.begin" nH f fd)(L:DY K mg C CS)(A1:JR K mg CS)(A2:MV K mg)(A3:LbF K mg C):aF P w K mg zt bI 6 f fd zl6 (MW C CS):=by
 obtain⟨⟨_,_,e1⟩,⟨_,_,aO⟩,⟨_,_,pL⟩,_⟩:=A3;have cG:aF P w K mg zt bI 5 _ _ G4 (qt C CS):=eU aO.F L A1 A2 e1;obtain⟨⟨_,_,d1⟩,_⟩:=A1;have DZ:aF P w K mg zt bI 2 _ _ lY (MU C CS):=Bp pL.F L d1;obtain⟨M,⟨fi,aJ⟩,nw,ns,G3,nk,nd,Gs,G⟩:=L;obtain⟨Gw,Gx⟩:=G.s;refine iZ F vA λdP A zn s H vs Q E hr h=>?_;obtain⟨S,x,d,wl,sh,bl,kn,du,bk,dS,st,op,pe,ops,aB,dd,r,e,es,rows,rfl,L,de,ok,hi,nrb,hl,l1,l2,l3,lt,k2⟩:=h;have lo:=tH L hl;refine⟨_,(aj (br (i:=3) vA.nd (ju (pv 0) aJ pL DZ hr ck)) (aj (bV (aZ Vg (pv 3) (LG (v:=.int 40) rfl Gx ⟨Gw,rfl⟩) (bw _)) (au m9) bu) (aj (aY (eT (pv 0) aJ aO cG hr ck (aa (pv 1) (aa (pv 3) (aa (pv 2) ah))))) (au (aQ (pv 3)))))),?_⟩;refine⟨_,rfl,x,d,_,rfl,L.hx,rfl,S,x,d,wl,sh,bl,kn,du,bk,dS,st,op,qK pe,ops,aB,rfl,L,?_⟩;rw[lo];refine⟨_,rfl,_,_,rfl,rfl,_,rfl,dQ (λc=>?_) (λc=>?_)⟩
 ·exact absurd (of_decide_eq_true c) (by lia)
 ·obtain⟨⟨f,B⟩,k3⟩:=k2;refine⟨_,rfl,x,d,_,rfl,L.hx,rfl,_,rfl,_,rfl,_,rfl,S,x,d,wl,sh,bl,kn,du,bk,dS,st,op,pe,ops,aB,dd,r,e,rows.length,es,rows,f,rfl,L,de,ok,hi,nrb,hl,iT _,l1,l2,l3,by rw[Ji];exact B,λS' H' L' fr=>?_⟩;rw[Ji]at L';have eo:Rw ops rows.length rows.length pe.length=ops++[((pe.length:Nat):Int)]:=by unfold Rw;rw[if_pos rfl]
  rw[eo]at L';exact⟨_,rfl,k3 S' H' L' fr⟩
abbrev frW:List Nat:=(Str.ofString "fresh").cps.toList
theorem Ry:(oE.plain frW []).Ok:=⟨by decide +kernel,λ_ z=>by cases z⟩
inductive MX(C CS:Addr)(vs:List V)(H:Hp)(Q:VK)(E:XK):Prop
 | mk (S:Addr->Prop) (x d wl sh bl kn du bk dS st op:Addr) (pe:m8) (ops:List Int) (aB:oF) (rows:dI) (_:vs=[.ref x]) (_:kL C CS S H x d wl sh bl kn du bk dS st op (qK pe) ops aB) (_:pe.getLast?=some rows) (_:rows.length<=50) (_:pe.length<=900) (_:aB.length<=900) (_:rows.length<40) (_:((∃ f,uy (rows++[[]]) f)/\∀ (S':Addr->Prop) (H':Hp),kL C CS S' H' x d wl sh bl kn du bk dS st op (qK (pe++[rows++[[]]])) (ops++[((pe.length:Nat):Int)]) (aB++[(oE.plain frW []).line])->Fr S S' bk H H'->Q (.int (rows.length:Nat)) H'))
theorem Bq:aL ["self"] ["self"] (aA ki):=iW
theorem Ax{f:Addr}(F:iM K "fresh" "Library.fresh" ki f fd)(L:DY K mg C CS)(A1:JR K mg CS)(A2:MV K mg)(A3:LbF K mg C):aF P w K mg zt bI 7 f fd lY (MX C CS):=by
 obtain⟨_,_,n8⟩:=A3.bg;have Dc:aF P w K mg zt bI 6 _ _ zl6 (MW C CS):=Aw n8.F L A1 A2 A3;obtain⟨M,⟨fi,aJ⟩,nw,ns,G3,nk,nd,Gs,G⟩:=L;refine iZ F Bq λdP A zn s H vs Q E hr h=>?_;obtain⟨S,x,d,wl,sh,bl,kn,du,bk,dS,st,op,pe,ops,aB,rows,rfl,L,hl,l1,l2,l3,lt,k2⟩:=h;refine⟨_,(au (aQ (eT (pv 0) aJ n8 Dc hr ck (aa (c9 (aa bJ ah)) (aa (bK ah) ah))))),?_⟩;refine⟨_,rfl,x,d,_,rfl,L.hx,rfl,rV,λt ht=>⟨lF,λr yG=>?_⟩⟩;have s1:aK H (aN (aN H t (.tup [.str "fresh"])) r (.lst [])):=(ak ht _).trans (ak yG _);have OF:(aN (aN H t (.tup [.str "fresh"])) r (.lst [])) t=some (.tup [.str "fresh"]):=ak yG _ _ _ af;have ou:(aN (aN H t (.tup [.str "fresh"])) r (.lst [])) r=some (.lst []):=af
 have nr:r≠bk:=λz=>by
  have:=ak ht (.tup [.str "fresh"]) _ _ L.hb;rw[← z,yG]at this;cases this
 generalize aN (aN H t (.tup [.str "fresh"])) r (.lst [])=H1 at s1 OF ou;refine⟨S,x,d,wl,sh,bl,kn,du,bk,dS,st,op,pe,ops,aB,t,r,.plain frW [],[],rows,rfl,L.same s1,by show H1 t=_;rw[OF,tS];rfl,Ry,⟨r,[],rfl,ou,.nil⟩,nr,hl,l1,l2,l3,lt,?_⟩;obtain⟨B,k3⟩:=k2;exact⟨B,λS' H' L' fr=>k3 S' H' L' (fr.same s1)⟩
theorem rH{H H1:Hp}{dw:Addr}{o:HO}(h1:H xw=none)(h2:H dw=none)(k:cN xw (aN (aN H dw (.own xw)) xw o) H1):aK H H1:=λa ob e=>k a ob (by rw[aH (az e h1),aH (az e h2)];exact e) (az e h1)
theorem Sh.qu{S:Addr->Prop}{H H':Hp}{x d st:Addr}{bO:qX}{ops:List Int}{fs:List (Str × V)}(h:Sh C S H x d st op bO ops)(hl:H l=some (.ins C' d' fs))(nl:¬ S l)(k:cN l H H'):Sh C S H' x d st op bO ops :=
 h.fr (λa ob e z=>k a ob e (λq=>nl (by rw[← q];exact z))) (λa xs e=>k _ _ e (dF e hl))
structure X3(K:Frag)(mg:Str->Option Value)(fS fZ:Addr):Prop where
 win:∃ f g,aC K mg "windows" fX oG f g
 bel:∃ f g,aC K mg "below" mE mY f g
 ir:∃ f g,aC K mg "item_row" gV yH f g
 pl:∃ f g,aC K mg "plain" mD gY f g
 vb:∃ f g,aC K mg "views_below" eO mY f g
 sh:∃ g,aC K mg "shown" yc vD fS g
 sz:∃ g,aC K mg "size" sR gY fZ g
structure Seen(rows:dI)(sh:Int->List Int):Prop where
 es:∀ es∈rows,es.length<=1000
 sd:jt rows
 rk:FP rows
 ss:rX rows sh
 ln:∀ x:Int,0<=x->x<rows.length->(sh x).length<=10000
inductive zw(C CS:Addr)(vs:List V)(H:Hp)(Q:VK)(E:XK):Prop
 | mk (S:Addr->Prop) (x d wl sh bl kn du bk dS st op:Addr) (pe:m8) (ops:List Int) (aB:oF) (rows:dI) (s:Int) (_:vs=[.ref x,.int s]) (_:kL C CS S H x d wl sh bl kn du bk dS st op (qK pe) ops aB) (_:pe.getLast?=some rows) (_:rows.length<=50) (_:pe.length<=900) (_:wY rows.length s) (_:(∃ f,Seen rows f/\∀ (o:Addr) (H':Hp),cV H' o (dc (f s))->aK H H'->H o=none->Q (.ref o) H'))
theorem Br:aL ["self","sheet"] ["self","sheet"] (aA gJ):=iW
theorem o6{f fS:Addr}(F:iM K "shown" "Library.shown" gJ f fd)(L:DY K mg C CS)(A1:JR K mg CS)(A4:X3 K mg fS fZ):aF P w K mg zt bI 5 f fd Eh (zw C CS):=by
 obtain⟨⟨_,_,d1⟩,⟨_,_,d2⟩,⟨_,_,bh⟩,⟨_,_,d4⟩,⟨_,_,d7⟩,⟨_,_,bS⟩,_⟩:=A1;obtain⟨⟨_,_,w1⟩,⟨_,_,w2⟩,⟨_,_,w3⟩,⟨_,_,w4⟩,⟨_,_,w5⟩,⟨_,mL⟩,_⟩:=A4;obtain⟨M,⟨fi,aJ⟩,nw,ns,G3,nk,nd,Gs,G⟩:=L;have dm:aF P w K mg zt bI 4 _ _ lY (vc CS):=iH bS.F M d2 d4 d7;have cj:aF P w K mg zt bI 2 _ _ Eh (oY CS):=dZ bh.F M d1;obtain⟨T,⟨fj,bZ⟩,n1,n2⟩:=M;have Lf:aF P w K mg zt bI 4 _ _ vD Ga:=IG mL.F T w1 w2 w3 w4 w5;refine iZ F Br λdP A zn s H vs Q E hr h=>?_;obtain⟨S,x,d,wl,sh,bl,kn,du,bk,dS,st,op,pe,ops,aB,rows,s,rfl,L,hl,l1,l2,ia,k2⟩:=h;have lo:=tH L hl;have lp:(qK pe).length=pe.length:=cR _;have hl':=iI hl;refine⟨_,(aj (aY (eT (fO (pv 0) rfl) bZ bh cj hr ck (aa (pv 1) ah))) (au (aQ (iU.yY mL (T.vV _ mL.m) Lf hr (aa (ju (fO (pv 0) rfl) bZ bS dm hr ck) (aa (pv 1) ah)))))),?_⟩;refine⟨_,rfl,x,C,d,_,.ref sh,rfl,L.hx,aJ.cl,ns,rfl,sh,dS,_,rfl,L.W.hx,rfl,_,rfl,S,sh,dS,st,op,qK pe,ops,s,rfl,L.W,by rw[lo];exact ia,?_⟩;obtain⟨f0,sn,k3⟩:=k2;refine⟨_,rfl,x,C,d,_,.ref sh,rfl,L.hx,aJ.cl,ns,rfl,sh,dS,_,rfl,L.W.hx,rfl,S,sh,dS,st,op,qK pe,ops,rfl,L.W,⟨by lia,by lia⟩,λX0 el q H1 UI s1=>?_⟩;rw[hl']at el;cases el;obtain⟨fq,rs,hq,al⟩:=UI
 have hR:jr H1 q (rows.map aI):=by
  refine⟨rs.map V.ref,hq,?_⟩
  have key:∀ {as:List Addr} {ds:List (List aU)},cE (λr aP=>H r=none/\r≠q/\bY H1 (.ref r) aP) as ds->cE (bY H1) (as.map V.ref) ds:=by
   intro as ds z
   induction z with
   | nil=>exact .nil
   | cons o t ih=>exact .cons o.2.2 ih
  exact key al
 exact⟨_,rfl,q,rows,s,f0,rfl,hR,by lia,sn.es,sn.sd,sn.rk,ia.1,ia.2,sn.ss,sn.ln,λo H2 ho s2 fo=>k3 o H2 ho (s1.trans s2) (aX s1 fo)⟩
theorem kL.fr{S:Addr->Prop}{H H':Hp}{x d wl sh bl du bk st:Addr}{bO:qX}{ops:List Int}{aB:oF}(L:kL C CS S H x d wl sh bl kn du bk dS st op bO ops aB)(k:∀ a ob,H a=some ob->(S a\/a=bk\/a=x)->H' a=some ob)(t:∀ a xs,H a=some (.tup xs)->H' a=some (.tup xs)):kL C CS S H' x d wl sh bl kn du bk dS st op bO ops aB :=
 ⟨k _ _ L.hx (.inr (.inr rfl)),L.W.fr (λa ob e z=>k a ob e (.inl z)) t,k _ _ L.hb (.inr (.inl rfl)),L.nx,L.nb⟩
structure D0(C CS CW CB:Addr)(U S SW:Addr->Prop)(H:Hp)(x d wl sh bl kn du bk dS st op dw sg ow pw db tb:Addr)(pe:m8)(ops:List Int)(aB:oF)(aS:mP)(nW:Nat)(cF:Row):Prop where
 L:kL C CS S H x d wl sh bl kn du bk dS st op (qK pe) ops aB
 W:We CW SW H wl dw sg ow pw nW aS
 B:Bl CB H bl db tb
 R:cV H tb cF
 X4:Ris cF
 dj:∀ a,SW a->¬ S a/\a≠bk/\a≠x
 db:¬ S bl/\¬ SW bl/\bl≠bk
 dt:¬ S tb/\¬ SW tb/\tb≠bk
 u:∀ a,U a↔S a\/SW a\/a=bk\/a=x\/a=bl\/a=tb
inductive yv(C CS CW CB:Addr)(U:Addr->Prop)(H:Hp)(x:Addr)(pe:m8)(aB:oF)(aS:mP)(nW:Nat)(cF:Row):Prop
 | mk (S SW:Addr->Prop) (d wl sh bl kn du bk dS st op dw sg ow pw db tb:Addr) (ops:List Int) (_:D0 C CS CW CB U S SW H x d wl sh bl kn du bk dS st op dw sg ow pw db tb pe ops aB aS nW cF)
def Ll(U U':Addr->Prop)(H H':Hp):Prop:=(∀ a,U' a->U a\/H a=none)/\(∀ a ob,H a=some ob->¬ U a->H' a=some ob)/\∀ a xs,H a=some (.tup xs)->H' a=some (.tup xs)
theorem Ll.pre{U U':Addr->Prop}{H0 H H':Hp}(s:aK H0 H)(f:Ll U U' H H'):Ll U U' H0 H':=⟨λa z=>(f.1 a z).imp id λy=>aX s y,λa ob e n=>f.2.1 a ob (s _ _ e) n,λa xs e=>f.2.2 a xs (s _ _ e)⟩
theorem D0.fr{U S SW:Addr->Prop}{H H':Hp}{x d wl sh bl du bk st dw pw db:Addr}{pe:m8}{ops:List Int}{aB:oF}{aS:mP}{nW:Nat}{cF:Row}(h:D0 C CS CW CB U S SW H x d wl sh bl kn du bk dS st op dw sg ow pw db tb pe ops aB aS nW cF)(k:∀ a ob,H a=some ob->U a->H' a=some ob)(t:∀ a xs,H a=some (.tup xs)->H' a=some (.tup xs)):D0 C CS CW CB U S SW H' x d wl sh bl kn du bk dS st op dw sg ow pw db tb pe ops aB aS nW cF:=by
 obtain⟨L,W,B,R,X4,dj,db',dt,u⟩:=h;refine⟨L.fr (λa ob e z=>k a ob e ((u a).mpr ?_)) t,W.fr (λa ob e z=>k a ob e ((u a).mpr (.inr (.inl z)))) t,k _ _ B ((u _).mpr (.inr (.inr (.inr (.inr (.inl rfl)))))),R.two (λxs e=>k _ _ e ((u _).mpr (.inr (.inr (.inr (.inr (.inr rfl))))))) t,X4,dj,db',dt,u⟩;rcases z with z|z|z
 ·exact .inl z
 ·exact .inr (.inr (.inl z))
 ·exact .inr (.inr (.inr (.inl z)))
theorem D0.same{U S SW:Addr->Prop}{H H':Hp}{x d wl sh bl du bk st dw pw db:Addr}{pe:m8}{ops:List Int}{aB:oF}{aS:mP}{nW:Nat}{cF:Row}(h:D0 C CS CW CB U S SW H x d wl sh bl kn du bk dS st op dw sg ow pw db tb pe ops aB aS nW cF)(s:aK H H'):D0 C CS CW CB U S SW H' x d wl sh bl kn du bk dS st op dw sg ow pw db tb pe ops aB aS nW cF:=h.fr (λa ob e _=>s a ob e) λa xs e=>s _ _ e
theorem yv.fr{U:Addr->Prop}{H H':Hp}{x:Addr}{pe:m8}{aB:oF}{aS:mP}{nW:Nat}{cF:Row}(h:yv C CS CW CB U H x pe aB aS nW cF)(k:∀ a ob,H a=some ob->U a->H' a=some ob)(t:∀ a xs,H a=some (.tup xs)->H' a=some (.tup xs)):yv C CS CW CB U H' x pe aB aS nW cF:=by
 obtain⟨S,SW,d,wl,sh,bl,kn,du,bk,dS,st,op,dw,sg,ow,pw,db,tb,ops,z⟩:=h;exact⟨S,SW,d,wl,sh,bl,kn,du,bk,dS,st,op,dw,sg,ow,pw,db,tb,ops,z.fr k t⟩
theorem yv.same{U:Addr->Prop}{H H':Hp}{x:Addr}{pe:m8}{aB:oF}{aS:mP}{nW:Nat}{cF:Row}(h:yv C CS CW CB U H x pe aB aS nW cF)(s:aK H H'):yv C CS CW CB U H' x pe aB aS nW cF:=h.fr (λa ob e _=>s a ob e) λa xs e=>s _ _ e
theorem D0.tK{U S S' SW:Addr->Prop}{H H':Hp}{x d wl sh bl du bk st dw pw db:Addr}{pe D3:m8}{ops D4:List Int}{aB ie:oF}{aS:mP}{nW:Nat}{cF:Row}(h:D0 C CS CW CB U S SW H x d wl sh bl kn du bk dS st op dw sg ow pw db tb pe ops aB aS nW cF)(L':kL C CS S' H' x d wl sh bl kn du bk dS st op (qK D3) D4 ie)(fr:Fr S S' bk H H'):∃ U',yv C CS CW CB U' H' x D3 ie aS nW cF/\Ll U U' H H':=by
 obtain⟨L,W,B,R,X4,dj,db',dt,u⟩:=h;obtain⟨as,hR,_⟩:=id R
 have nS':∀ a ob,H a=some ob->¬ S a->¬ S' a:=λa ob e n z=>by
  rcases fr.1 a z with y|y
  ·exact n y
  ·rw[e]at y;cases y
 refine⟨λa=>S' a\/SW a\/a=bk\/a=x\/a=bl\/a=tb,⟨S',SW,d,wl,sh,bl,kn,du,bk,dS,st,op,dw,sg,ow,pw,db,tb,D4,L',W.fr (λa ob e z=>fr.2.1 _ _ e (dj a z).1 (dj a z).2.1) fr.2.2,fr.2.1 _ _ B db'.1 db'.2.2,R.two (λxs e=>fr.2.1 _ _ e dt.1 dt.2.2) fr.2.2,X4,λa z=>?_,⟨nS' _ _ B db'.1,db'.2⟩,⟨nS' _ _ hR dt.1,dt.2⟩,λa=>Iff.rfl⟩,λa z=>?_,λa ob e n=>?_,fr.2.2⟩
 ·obtain⟨ob,e⟩:=W.al a z;exact⟨nS' _ _ e (dj a z).1,(dj a z).2⟩
 ·rcases z with z|z
  ·exact (fr.1 a z).imp (λy=>(u a).mpr (.inl y)) id
  ·exact .inl ((u a).mpr (.inr z))
 ·exact fr.2.1 a ob e (λz=>n ((u a).mpr (.inl z))) (λz=>n ((u a).mpr (.inr (.inr (.inl z)))))
structure Ay(K:Frag)(mg:Str->Option Value)(C CS CW CB:Addr):Prop where
 M:DY K mg C CS
 cw:∃ f,ClsAt K mg "Well" CW f
 w1:cI K CW "signs"
 w2:cI K CW "owners"
 w3:cI K CW "pourings"
 cb:∃ f,ClsAt K mg "Blots" CB f
 b1:cI K CB "stains"
structure VM(K:Frag)(mg:Str->Option Value)(CW CB:Addr):Prop where
 sz:∃ f g,bQ K CW "size" "Well.size" oR lY f g
 pr:∃ f g,bQ K CW "pour" "Well.pour" uN Sk f g
 hl:∃ f g,bQ K CW "holds" "Well.holds" qc U6 f g
inductive Gy(C CS CW CB:Addr)(vs:List V)(H:Hp)(Q:VK)(E:XK):Prop
 | mk (U:Addr->Prop) (x:Addr) (pe:m8) (aB:oF) (aS:mP) (nW:Nat) (cF:Row) (h:Int) (cs:List Nat) (rows:dI) (_:vs=[.ref x,.int h,.str (gU cs)]) (_:yv C CS CW CB U H x pe aB aS nW cF) (_:Ak h) (_:cs.length<=200) (_:aS.length<=90000) (_:nW<=900) (_:pe.getLast?=some rows) (_:rows.length<=50) (_:pe.length<=900) (_:aB.length<=900) (_ :
 ∀ (U':Addr->Prop) (q:Addr) (H':Hp),yv C CS CW CB U' H' x (pe++[rows]) (aB++[(oE.DU h cs).line]) (aS++ux h cs) (nW+1) cF->Ll U U' H H'->H' q=some (.tup [.int (aS.length:Nat),.int ((aS++ux h cs).length:Nat)])->Q (.ref q) H')
theorem wc:aL ["self","hand","text","stretch"] ["self","hand","text"] (aA jW):=iW
theorem vB{f:Addr}(F:iM K "pour" "Library.pour" jW f fd)(X:Ay K mg C CS CW CB)(A1:JR K mg CS)(A2:MV K mg)(A5:VM K mg CW CB)(aR:bQ K C "enter" "Library.enter" cC JU fE gE):aF P w K mg zt bI 4 f fd Sk (Gy C CS CW CB):=by
 obtain⟨LM,⟨_,jE⟩,w1,w2,w3,⟨_,tX⟩,b1⟩:=X;obtain⟨_,⟨_,_,d2⟩,_,_,_,_,⟨_,_,d9⟩⟩:=A1;obtain⟨_,_,_,_,_,_,_,⟨_,_,jT⟩,⟨_,_,v9⟩,⟨_,_,v10⟩⟩:=A2;have sH:aF P w K mg zt bI 3 _ _ JU (Gu C CS):=uz aR.F LM v9 v10 jT d2 d9;obtain⟨⟨_,_,s1⟩,⟨_,_,ve⟩,_⟩:=A5;obtain⟨⟨T,_⟩,⟨fi,aJ⟩,nw,ns,G3,nk,nd,Gs,G⟩:=LM;have Lm:aF P w K mg zt bI 2 _ _ Sk (Rv CW):=Gn ve.F T jE w1 w2 w3 s1;refine iZ F wc λdP A zn s H vs Q E hr h=>?_;obtain⟨U,x,pe,aB,aS,nW,cF,h,cs,rows,rfl,⟨S,SW,d,wl,sh,bl,kn,du,bk,dS,st,op,dw,sg,ow,pw,db,tb,ops,LU⟩,fh,lc,li,ln,hl,l1,l2,l3,k⟩:=h;obtain⟨L,W,B,R,X4,dj,db',dt,u⟩:=id LU;refine⟨_,(aj (br (i:=3) wc.nd (eT (fO (pv 0) rfl) jE ve Lm hr ck (aa (pv 1) (aa (pv 2) ah)))) (aj (aY (eT (pv 0) aJ aR sH hr ck (aa (c9 (aa bJ (aa (pv 1) (aa (pv 2) ah)))) (aa (bK ah) ah)))) (au (aQ (pv 3))))),?_⟩;refine⟨_,rfl,x,C,d,_,.ref wl,rfl,L.hx,aJ.cl,nw,rfl,wl,dw,_,rfl,W.hx,rfl,_,rfl,_,rfl,SW,wl,dw,sg,ow,pw,nW,aS,h,cs,rfl,W,by lia,by lia,λUJ q H1 W1 hq sub fr tp=>?_⟩
 have nSW:∀ a ob,H a=some ob->¬ SW a->¬ UJ a:=λa ob e n z=>by
  rcases sub a z with y|y
  ·exact n y
  ·rw[e]at y;cases y
 have nk1:∀ a ob,H a=some ob->(S a\/a=bk\/a=x)->¬ SW a:=λa ob e z y=>by
  obtain⟨y1,y2,y3⟩:=dj a y;rcases z with z|z|z
  ·exact y1 z
  ·exact y2 z
  ·exact y3 z
 have L1:kL C CS S H1 x d wl sh bl kn du bk dS st op (qK pe) ops aB:=L.fr (λa ob e z=>fr _ _ e (nk1 a ob e z)) tp;obtain⟨as,hR,_⟩:=id R
 have LU1:D0 C CS CW CB (λa=>S a\/UJ a\/a=bk\/a=x\/a=bl\/a=tb) S UJ H1 x d wl sh bl kn du bk dS st op dw sg ow pw db tb pe ops aB (aS++ux h cs) (nW+1) cF:=by
  refine⟨L1,W1,fr _ _ B db'.2.1,R.two (λxs e=>fr _ _ e dt.2.1) tp,X4,λa z=>?_,⟨db'.1,nSW _ _ B db'.2.1,db'.2.2⟩,⟨dt.1,nSW _ _ hR dt.2.1,dt.2.2⟩,λa=>Iff.rfl⟩;rcases sub a z with y|y
  ·exact dj a y
  ·refine⟨λq'=>?_,λq'=>?_,λq'=>?_⟩
   ·obtain⟨ob,e⟩:=L.W.al a q';rw[y]at e;cases e
   ·rw[q',L.hb]at y;cases y
   ·rw[q',L.hx]at y;cases y
 refine⟨_,rfl,x,d,_,rfl,L1.hx,rfl,_,rfl,_,rfl,QS,λt ht=>⟨lF,λc hc=>?_⟩⟩;have s2:aK H1 (aN (aN H1 t (.tup [.str "pour",.int h,.str (gU cs)])) c (.lst [])):=(ak ht _).trans (ak hc _);have OX:(aN (aN H1 t (.tup [.str "pour",.int h,.str (gU cs)])) c (.lst [])) t=some (.tup [.str "pour",.int h,.str (gU cs)]):=ak hc _ _ _ af;have XS:(aN (aN H1 t (.tup [.str "pour",.int h,.str (gU cs)])) c (.lst [])) c=some (.lst (([]:List Addr).map V.ref)):=af
 have nc:c≠bk:=λz=>by
  have:=ak ht (.tup [.str "pour",.int h,.str (gU cs)]) _ _ L1.hb;rw[← z,hc]at this;cases this
 generalize aN (aN H1 t (.tup [.str "pour",.int h,.str (gU cs)])) c (.lst [])=H2 at s2 OX XS;have lp:(qK pe).length=pe.length:=cR _;have O6:=LU1.same s2;refine⟨S,x,d,wl,sh,bl,kn,du,bk,dS,st,op,qK pe,ops,aB,t,c,.DU h cs,[],[],rows.map aI,rfl,O6.L,OX,⟨fh,lc⟩,XS,nc,.nil,(λ_ z=>by cases z),iI hl,(λi ch e=>by cases e),(by show 0<=200;decide),by rw[cR];lia,by lia,by lia,λS' H3 L3 J7=>?_⟩
 have ep:qK pe++[u9 (rows.map aI) []]=qK (pe++[rows]):=by
  show _=(pe++[rows]).map _;rw[j0];rfl
 have eo:ops++List.replicate ((u9 (rows.map aI) []).length-(rows.map aI).length) (((qK pe).length:Nat):Int)=ops:=by
  show ops++List.replicate ((rows.map aI).length-(rows.map aI).length) _=ops;rw[Nat.sub_self];exact jH _
 rw[ep,eo]at L3;obtain⟨U',hL',f'⟩:=O6.tK L3 J7;refine⟨_,rfl,k U' q H3 hL' ⟨λa z=>?_,λa ob e n=>?_,λa xs e=>f'.2.2 _ _ (s2 _ _ (tp _ _ e))⟩ (f'.2.2 _ _ (s2 _ _ hq))⟩
 ·rcases f'.1 a z with y|y
  ·rcases y with y|y|y
   ·exact .inl ((u a).mpr (.inl y))
   ·exact (sub a y).imp (λw=>(u a).mpr (.inr (.inl w))) id
   ·exact .inl ((u a).mpr (.inr (.inr y)))
  ·have y1:=aX s2 y
   cases e:H a with
   | none=>exact .inr rfl
   | some ob =>
    by_cases z2:SW a
    ·exact .inl ((u a).mpr (.inr (.inl z2)))
    ·rw[fr _ _ e z2]at y1;cases y1
 ·have n1:¬ SW a:=λz=>n ((u a).mpr (.inr (.inl z)));refine f'.2.1 a ob (s2 _ _ (fr _ _ e n1)) λz=>?_;rcases z with z|z|z
  ·exact n ((u a).mpr (.inl z))
  ·exact nSW _ _ e n1 z
  ·exact n ((u a).mpr (.inr (.inr z)))
inductive Jj(C CS CW CB:Addr)(vs:List V)(H:Hp)(Q:VK)(E:XK):Prop
 | mk (U:Addr->Prop) (x:Addr) (pe:m8) (aB:oF) (aS:mP) (nW:Nat) (cF:Row) (_:vs=[.ref x]) (_:yv C CS CW CB U H x pe aB aS nW cF) (_:Q (.int (aS.length:Nat)) H)
inductive A0(C CS CW CB:Addr)(vs:List V)(H:Hp)(Q:VK)(E:XK):Prop
 | mk (U:Addr->Prop) (x r:Addr) (pe:m8) (aB:oF) (aS:mP) (nW:Nat) (cF row:Row) (_:vs=[.ref x,.ref r]) (_:yv C CS CW CB U H x pe aB aS nW cF) (_:cV H r row) (_:row.length<=1000) (_:yu aS.length row=true) (_:∀ H',aK H H'->Q .jj H')
theorem D5:aL ["self"] ["self"] (aA jL):=iW
theorem we:aL ["self","row"] ["self","row"] (aA eY):=iW
theorem Dd{f:Addr}(F:iM K "ink" "Library.ink" jL f fd)(X:Ay K mg C CS CW CB)(A5:VM K mg CW CB):aF P w K mg zt bI 2 f fd lY (Jj C CS CW CB):=by
 obtain⟨LM,⟨_,jE⟩,w1,w2,w3,⟨_,tX⟩,b1⟩:=X;obtain⟨⟨T,_⟩,⟨fi,aJ⟩,nw,ns,G3,nk,nd,Gs,G⟩:=LM;obtain⟨_,_,gh⟩:=A5.sz;have oZ:aF P w K mg zt bI 1 _ _ lY (BK CW):=vd gh.F T jE.cl w1;refine iZ F D5 λdP A zn s H vs Q E hr h=>?_;obtain⟨U,x,pe,aB,aS,nW,cF,rfl,⟨S,SW,d,wl,sh,bl,kn,du,bk,dS,st,op,dw,sg,ow,pw,db,tb,ops,LU⟩,k⟩:=h;refine⟨_,(au (aQ (ju (fO (pv 0) rfl) jE gh oZ hr ck))),?_⟩;exact⟨_,rfl,x,C,d,_,.ref wl,rfl,LU.L.hx,aJ.cl,nw,rfl,wl,dw,_,rfl,LU.W.hx,rfl,wl,dw,sg,ow,pw,aS,rfl,LU.W.hx,LU.W.hs,k⟩
theorem vI{f:Addr}(F:iM K "check_held" "Library.check_held" eY f fd)(X:Ay K mg C CS CW CB)(A5:VM K mg CW CB)(gF:bQ K C "ink" "Library.ink" jL lY fI gI):aF P w K mg zt bI 3 f fd U6 (A0 C CS CW CB):=by
 have UK:aF P w K mg zt bI 2 _ _ lY (Jj C CS CW CB):=Dd gF.F X A5;obtain⟨LM,⟨_,jE⟩,w1,w2,w3,⟨_,tX⟩,b1⟩:=X;obtain⟨⟨T,_⟩,⟨fi,aJ⟩,nw,ns,G3,nk,nd,Gs,G⟩:=LM;obtain⟨⟨_,_,gh⟩,_,⟨_,_,tL⟩⟩:=A5;have Jk:aF P w K mg zt bI 2 _ _ U6 (MS CW):=DX tL.F T jE w1 gh;refine iZ F we λdP A zn s H vs Q E hr h=>?_;obtain⟨U,x,r,pe,aB,aS,nW,cF,row,rfl,LB,ou,lr,g,k1⟩:=h;obtain⟨S,SW,d,wl,sh,bl,kn,du,bk,dS,st,op,dw,sg,ow,pw,db,tb,ops,LU⟩:=id LB;refine⟨_,(au (bV (qB (rJ (eT (fO (pv 0) rfl) jE tL Jk hr ck (aa (pv 1) ah)))) (au m9) bu)),?_⟩;refine⟨_,rfl,x,C,d,_,.ref wl,rfl,LU.L.hx,aJ.cl,nw,rfl,wl,dw,_,rfl,LU.W.hx,rfl,_,rfl,SW,wl,dw,sg,ow,pw,r,nW,aS,row,rfl,LU.W,ou,lr,λH1 s1=>⟨_,rfl,?_⟩⟩;rw[g];exact gH (k1 H1 s1)
structure UL(K:Frag)(mg:Str->Option Value):Prop where
 win:∃ f g,aC K mg "windows" fX oG f g
 bel:∃ f g,aC K mg "below" mE mY f g
 ir:∃ f g,aC K mg "item_row" gV yH f g
 pl:∃ f g,aC K mg "plain" mD gY f g
 vb:∃ f g,aC K mg "views_below" eO mY f g
 sz:∃ f g,aC K mg "size" sR gY f g
 cp:∃ f g,aC K mg "check_places" iE pQ f g
 go:∃ f g,aC K mg "goes_on" nj G6 f g
 pi:∃ f g,aC K mg "plain_items" iY oG f g
 de:∃ f g,aC K mg "dealt" uL Fj f g
 pc:∃ f g,aC K mg "pieces" pB pQ f g
 ik:∃ f g,aC K mg "inked" rO gY f g
 pa:∃ f g,aC K mg "put_among" oQ Nf f g
 pu:∃ f g,aC K mg "put_items" uM Pc f g
abbrev ptW:List Nat:=(Str.ofString "put").cps.toList
inductive Gz(C CS CW CB:Addr)(vs:List V)(H:Hp)(Q:VK)(E:XK):Prop
 | mk (U:Addr->Prop) (x r:Addr) (pe:m8) (aB:oF) (aS:mP) (nW:Nat) (cF row:Row) (s p:Int) (rows:dI) (_:vs=[.ref x,.int s,.int p,.ref r]) (_:yv C CS CW CB U H x pe aB aS nW cF) (_:cV H r row) (_:Rk row) (_:aS.length<=100000) (_:pe.getLast?=some rows) (_:rows.length<=50) (_:pe.length<=900) (_:aB.length<=900) (_:zF s) (_:zF p) (_:wY rows.length s) (_:yu aS.length row=true) (_:(∃ sh,Seen rows sh/\(0<=p/\p<=(sh s).length)/\((∀ es,rows[s.toNat]?=some es->(∃ f,uy (lW rows s.toNat (ic sh p es (dM (cY (cJ row))))) f)/\
  ∀ (U':Addr->Prop) (H':Hp),yv C CS CW CB U' H' x (pe++[lW rows s.toNat (ic sh p es (dM (cY (cJ row))))]) (aB++[(oE.xM ptW [s,p] row).line]) aS nW cF->Ll U U' H H'->Q .jj H'))))
theorem xO:aL ["self","sheet","place","row","items"] ["self","sheet","place","row"] (aA nI):=iW
theorem E7(ns:List Int):mj (dc ns)=(ns.length:Int):=by rw[← wM _ (qe _),gO]
theorem OG{n:Nat}{row:Row}(h:yu n row=true):∀ p∈row,0<=p.1/\p.1<p.2/\p.2<=n:=λp hp=>by
 have z:=List.all_eq_true.mp h p hp;unfold SH at z;simpa [and_assoc] using z
theorem zF.big{s:Int}(h:zF s):s<10^60:=by
 obtain⟨_,h1⟩:=h;lia
theorem wg{f fS f3:Addr}{g1 g2 g3 g4 g5:FuncData}(F:iM K "put" "Library.put" nI f fd)(X:Ay K mg C CS CW CB)(A1:JR K mg CS)(A2:MV K mg)(A4:X3 K mg fS fZ)(A5:VM K mg CW CB)(A6:UL K mg)(aR:bQ K C "enter" "Library.enter" cC JU f1 g1)(aO:bQ K C "change" "Library.change" cS G4 f2 g2)(bW:bQ K C "shown" "Library.shown" gJ Eh f3 g3)(gF:bQ K C "ink" "Library.ink" jL lY f4 g4)(cQ:bQ K C "check_held" "Library.check_held" eY U6 f5 g5):aF P w K mg zt bI 6 f fd YO (Gz C CS CW CB):=by
 have xr:aF P w K mg zt bI 3 _ _ U6 (A0 C CS CW CB):=vI cQ.F X A5 gF;obtain⟨LM,⟨_,jE⟩,w1,w2,w3,⟨_,tX⟩,b1⟩:=X;have cG:aF P w K mg zt bI 5 _ _ G4 (qt C CS):=eU aO.F LM A1 A2 aR;have jv:aF P w K mg zt bI 5 _ _ Eh (zw C CS):=o6 bW.F LM A1 A4;obtain⟨M,⟨fi,aJ⟩,nw,ns,G3,nk,nd,Gs,G⟩:=LM;obtain⟨⟨_,_,d1⟩,⟨_,_,d2⟩,⟨_,_,d3⟩,⟨_,_,d4⟩,⟨_,_,d7⟩,⟨_,_,bS⟩,⟨_,_,d9⟩⟩:=A1;have dm:aF P w K mg zt bI 4 _ _ lY (vc CS):=iH bS.F M d2 d4 d7;obtain⟨T,⟨fj,bZ⟩,n1,n2⟩:=M;obtain⟨⟨_,_,i1⟩,⟨_,_,i2⟩,⟨_,_,i3⟩,⟨_,_,i4⟩,⟨_,_,i5⟩,⟨_,_,i6⟩,⟨_,_,cA⟩,⟨_,_,i8⟩,⟨_,_,i9⟩,⟨_,_,SI⟩,⟨_,_,Rz⟩,⟨_,_,dX⟩,⟨_,_,UM⟩,⟨_,_,jh⟩⟩:=A6;have gz:aF P w K mg zt bI 2 _ _ pQ uv:=jS cA.F T i6;have sf:aF P w K mg zt bI 2 _ _ gY wR:=vY dX.F T i4;have sI:aF P w K mg zt bI 4 _ _ Pc qq:=uY jh.F T i1 i2 i3 i4 i5 i6 cA i8 i9 SI Rz dX UM;refine iZ F xO λdP A zn s0 H vs Q E hr h=>?_;obtain⟨U,x,r,pe,aB,aS,nW,cF,row,s,p,rows,rfl,LB,ou,fr,li,hl,l1,l2,l3,fs,fp,ia,g,k2⟩:=h;obtain⟨S,SW,d,wl,sh,bl,kn,du,bk,dS,st,op,dw,sg,ow,pw,db,tb,ops,LU⟩:=id LB;have lo:=tH LU.L hl;have hl':=iI hl;have lp:(qK pe).length=pe.length:=cR _;refine⟨_,(aj (aY (aG cA gz hr (aa (eT (pv 0) aJ bW jv hr ck (aa (pv 1) ah)) (aa (pv 2) (aa (pv 2) ah))))) (aj (aY (eT (pv 0) aJ cQ xr hr ck (aa (pv 3) ah))) (aj (br (i:=4) xO.nd (aG jh sI hr (aa (ju (fO (pv 0) rfl) bZ bS dm hr ck) (aa (pv 1) (aa (pv 2) (aa (aG dX sf hr (aa (pv 3) ah)) ah)))))) (au (aY (eT (pv 0) aJ aO cG hr ck (aa (c9 (aa bJ (aa (pv 1) (aa (pv 2) (aa (pv 3) ah))))) (aa (pv 1) (aa (pv 4) ah))))))))),?_⟩;refine⟨_,rfl,x,d,_,rfl,LU.L.hx,rfl,_,rfl,S,x,d,wl,sh,bl,kn,du,bk,dS,st,op,pe,ops,aB,rows,s,rfl,LU.L,hl,l1,l2,ia,?_⟩;obtain⟨f0,sn,hpp,k6⟩:=k2;have ls:(f0 s).length<=10000:=sn.ln s ia.1 ia.2;have lr0:=rF (f0 s);refine⟨f0,sn,λo H1 ho s1 fo=>?_⟩;have z:OW p p (mj (dc (f0 s))):=by rw[E7];exact⟨hpp.1,Int.le_refl _,hpp.2⟩
 refine⟨_,rfl,_,rfl,o,dc (f0 s),p,p,rfl,ho,by lia,z,λH2 s2=>?_⟩;have t9:=s1.trans s2;have O6:=LU.same t9;have MA:=ou.same t9;refine⟨_,rfl,x,d,_,rfl,O6.L.hx,rfl,_,rfl,U,x,r,pe,aB,aS,nW,cF,row,rfl,LB.same t9,MA,by have:=fr.1;lia,g,λH3 s3=>?_⟩;have Cs:=t9.trans s3;have UN:=LU.same Cs;have Oa:=ou.same Cs;have hp:=OG g;have sl:s.toNat<rows.length:=by have:=ia.1;have:=ia.2;lia
 obtain⟨es,es1⟩:∃ es,rows[s.toNat]?=some es:=⟨_,tO sl⟩;obtain⟨⟨fB,B⟩,k7⟩:=k6 _ es1;refine⟨_,rfl,x,C,d,_,.ref sh,rfl,UN.L.hx,aJ.cl,ns,rfl,sh,dS,_,rfl,UN.L.W.hx,rfl,S,sh,dS,st,op,qK pe,ops,rfl,UN.L.W,⟨by lia,by lia⟩,λX0 el q H4 fs4 s4=>?_⟩;rw[hl']at el;cases el;obtain⟨fq,rs,hq,al⟩:=fs4
 have hR:jr H4 q (rows.map aI):=by
  refine⟨rs.map V.ref,hq,?_⟩
  have key:∀ {as:List Addr} {ds:List (List aU)},cE (λr aP=>H3 r=none/\r≠q/\bY H4 (.ref r) aP) as ds->cE (bY H4) (as.map V.ref) ds:=by
   intro as ds z
   induction z with
   | nil=>exact .nil
   | cons o t ih=>exact .cons o.2.2 ih
  exact key al
 have hr4:=Oa.same s4;refine⟨_,rfl,_,rfl,_,rfl,r,row,rfl,hr4,by have:=fr.1;lia,λoi H5 Xw s5 foi=>?_⟩;have nn:qH row:=λp' Vv=>⟨(hp p' Vv).1,by have:=(hp p' Vv).2.1;lia⟩;refine⟨q,oi,rows,s,p,_,f0,rfl,⟨hR.same s5,by lia,sn.es,sn.sd,sn.rk,sn.ss,sn.ln⟩,ia.1,ia.2,Xw,zh (uu nn),?_,hpp,λes q2 H6 ua jz s6 MY=>?_⟩
 ·unfold cY;rw[cR];have:=rD row;have:=fr.1;lia
 rw[es1]at ua;cases ua;have VN:aK H H6:=Cs.trans (s4.trans (s5.trans s6));have RA:=LU.same VN
 have RB:q2≠bk:=λe=>by
  have y:=(LU.same (Cs.trans (s4.trans s5))).L.hb;rw[← e,MY]at y;cases y
 refine⟨_,rfl,x,d,_,rfl,RA.L.hx,rfl,_,rfl,_,rfl,_,rfl,FU,λt ht=>?_⟩;have s7:=ak ht (.tup [.str "put",.int s,.int p,.ref r]);have ht7:(aN H6 t (.tup [.str "put",.int s,.int p,.ref r])) t=some (.tup [.str "put",.int s,.int p,.ref r]):=af;generalize aN H6 t (.tup [.str "put",.int s,.int p,.ref r])=H7 at s7 ht7;have YE:=VN.trans s7;have LU7:=LU.same YE;have ss:((s.toNat:Nat):Int)=s:=by have:=ia.1;lia
 refine⟨_,rfl,_,rfl,S,x,d,wl,sh,bl,kn,du,bk,dS,st,op,pe,ops,aB,t,q2,.xM ptW [s,p] row,s.toNat,_,rows,fB,by rw[ss];rfl,LU7.L,⟨r,by rw[ht7,tS];rfl,ou.same YE⟩,⟨(by show sj AHD ptW=some 2;decide +kernel),?_,fr⟩,jz.same s7,RB,hl,by have:=ia.2;have:=ia.1;lia,l1,l2,l3,B,λS' H8 L8 FH=>?_⟩
 ·intro y hy;have b1:=ia.1;have b2:=hpp.1;rcases List.mem_cons.mp hy with e|e
  ·rw[e];exact⟨b1,fs.big⟩
  ·rw[List.mem_singleton.mp e];exact⟨b2,fp.big⟩
 ·obtain⟨U',hL',f'⟩:=LU7.tK L8 FH;exact k7 U' H8 hL' (f'.pre YE)
theorem We.qu{S:Addr->Prop}{H H':Hp}{x d s p:Addr}{n:Nat}{aS:mP}{fs:List (Str × V)}(h:We C S H x d s o p n aS)(hl:H l=some (.ins C' d' fs))(nl:¬ S l)(k:cN l H H'):We C S H' x d s o p n aS :=
 h.fr (λa ob e z=>k a ob e (λq=>nl (by rw[← q];exact z))) (λa xs e=>k _ _ e (dF e hl))
theorem cV.qu{H H':Hp}{r:Addr}{row:Row}{fs:List (Str × V)}(h:cV H r row)(hl:H l=some (.ins C' d' fs))(k:cN l H H'):cV H' r row :=
 h.two (λxs e=>k _ _ e (dF e hl)) (λa xs e=>k _ _ e (dF e hl))
theorem uA{H:Hp}{dw a:Addr}{o:HO}(e:(aN (aN H dw (.own xw)) xw o) a=none):H a=none:=by
 by_cases z1:a=xw
 ·rw[z1,af]at e;cases e
 rw[aH z1]at e;by_cases z2:a=dw
 ·rw[z2,af]at e;cases e
 rw[aH z2]at e;exact e
inductive E8(C CS CW CB:Addr)(vs:List V)(H:Hp)(Q:VK)(E:XK):Prop
 | mk (x d:Addr) (_:vs=[.ref x]) (_:H x=some (.ins C d [])) (_: ∀ (U:Addr->Prop) (H':Hp),yv C CS CW CB U H' x [[]] [] [] 0 []->(∀ a,U a->a=x\/H a=none)->cN x H H'->Q .jj H')
theorem yx:aL ["self"] ["self"] (aA nJ):=iW
theorem xu{f f3:Addr}{g1 g2 g3 g4 g5:FuncData}(F:iM K "__init__" "Library.__init__" nJ f fd)(L:DY K mg C CS)(bZ:ClsAt K mg "Shelf" CS f1)(jU:bQ K CS "__init__" "Shelf.__init__" l9 lY f1 g1)
  (jE:ClsAt K mg "Well" CW f2) (kM:bQ K CW "__init__" "Well.__init__" nF lY f2 g2) (w1:cI K CW "signs") (w2:cI K CW "owners") (w3:cI K CW "pourings")
  (tX:ClsAt K mg "Blots" CB f3) (jV:bQ K CB "__init__" "Blots.__init__" l6 lY f3 g3) (b1:cI K CB "stains")
  (Jl:ClsAt K mg "Ties" CT f4) (kO:bQ K CT "__init__" "Ties.__init__" ny lY f4 g4) (t1:cI K CT "given") (t2:cI K CT "pairs")
  (Jm:ClsAt K mg "Dues" CD f5) (kQ:bQ K CD "__init__" "Dues.__init__" nC lY f5 g5) (u1:cI K CD "sums"):aF P w K mg zt bI 3 f fd lY (E8 C CS CW CB):=by
 obtain⟨M,⟨fi,aJ⟩,nw,ns,G3,nk,nd,Gs,G⟩:=L;obtain⟨T,_,n1,n2⟩:=M;have Bs:aF P w K mg zt bI 1 _ _ lY (MO CS):=zq jU.F bZ.cl n1 n2;have De:aF P w K mg zt bI 1 _ _ lY (MR CW):=Au kM.F jE.cl w1 w2 w3;have Bt:aF P w K mg zt bI 1 _ _ lY (MD CB):=y9 jV.F tX.cl b1;have Df:aF P w K mg zt bI 1 _ _ lY (BJ CT):=Ar kO.F Jl.cl t1 t2;have Dg:aF P w K mg zt bI 1 _ _ lY (BJ CD):=Aq kQ.F Jm.cl u1;refine iZ F yx λdP A zn s H vs Q E hr h=>?_;obtain⟨x,d,rfl,hx,k⟩:=h;refine⟨_,(aj (mz (pv 0) (uf jE.Yu De (hr.mono (by decide)) rfl jE.m kM.b .nil ck) rfl) (aj (mz (pv 0) (uf bZ.Yu Bs (hr.mono (by decide)) rfl bZ.m jU.b .nil ck) rfl) (aj (mz (pv 0) (uf tX.Yu Bt (hr.mono (by decide)) rfl tX.m jV.b .nil ck) rfl) (aj (mz (pv 0) (uf Jl.Yu Df (hr.mono (by decide)) rfl Jl.m kO.b .nil ck) rfl) (aj (mz (pv 0) (uf Jm.Yu Dg (hr.mono (by decide)) rfl Jm.m kQ.b .nil ck) rfl) (au (mz (pv 0) (bK ah) rfl))))))),?_⟩;intro wl dw hw1 hw2 _;refine⟨wl,dw,rfl,af,λsg ow pw H1 V1 k1 fsg fow fpw=>⟨rfl,?_⟩⟩;have s1:=rH hw1 hw2 k1
 have fW:∀ a,(a=wl\/a=sg\/a=ow\/a=pw)->H a=none:=λa e=>by
  rcases e with rfl|rfl|rfl|rfl
  ·exact hw1
  ·exact uA fsg
  ·exact uA fow
  ·exact uA fpw
 have X5:¬ (x=wl\/x=sg\/x=ow\/x=pw):=λe=>by
  have:=fW x e;rw[hx]at this;cases this
 refine⟨_,rfl,x,C,d,_,rfl,s1 _ _ hx,aJ.cl,nw,by decide,?_⟩;have q2:cN x H (aN H1 x (.ins C d (L2.fH "well" (.ref wl) []))):=cN.trans (jy.aK.keep s1) (aM x _ _);have x2:(aN H1 x (.ins C d (L2.fH "well" (.ref wl) []))) x=some (.ins C d [("well",.ref wl)]):=af;have kx2:cN x H1 (aN H1 x (.ins C d (L2.fH "well" (.ref wl) []))):=aM x _ _;generalize aN H1 x (.ins C d (L2.fH "well" (.ref wl) []))=H2 at q2 x2 kx2;have V2:=V1.qu (s1 _ _ hx) X5 kx2;intro sh dS XX GX _;refine⟨sh,dS,rfl,af,λst op z H3 W3 k3 fst fop fz=>⟨rfl,?_⟩⟩;have s3:=rH XX GX k3
 have up:∀ a,(aN (aN H2 dS (.own sh)) sh (.ins CS dS [])) a=none->H2 a=none:=λa e=>by
  by_cases z1:a=sh
  ·rw[z1,af]at e;cases e
  rw[aH z1]at e;by_cases z2:a=dS
  ·rw[z2,af]at e;cases e
  rw[aH z2]at e;exact e
 have fS:∀ a,(a=sh\/a=st\/a=op\/a=z)->H2 a=none:=λa e=>by
  rcases e with rfl|rfl|rfl|rfl
  ·exact XX
  ·exact up _ fst
  ·exact up _ fop
  ·exact up _ fz
 have X6:¬ (x=sh\/x=st\/x=op\/x=z):=λe=>by
  have:=fS x e;rw[x2]at this;cases this
 have x3:=s3 _ _ x2;have V3:=V2.same s3;refine⟨_,rfl,x,C,d,_,rfl,x3,aJ.cl,ns,(by show 1<1000;decide),?_⟩;have k4:cN x H3 (aN H3 x (.ins C d (L2.fH "shelf" (.ref sh) [("well",.ref wl)]))):=aM x _ _;have x4:(aN H3 x (.ins C d (L2.fH "shelf" (.ref sh) [("well",.ref wl)]))) x=some (.ins C d [("well",.ref wl),("shelf",.ref sh)]):=af;generalize aN H3 x (.ins C d (L2.fH "shelf" (.ref sh) [("well",.ref wl)]))=H4 at k4 x4;have W4:=W3.qu x3 X6 k4;have V4:=V3.qu x3 X5 k4;have q4:cN x H H4:=(q2.trans (jy.aK.keep s3)).trans k4;intro bl db Ir G1 _;refine⟨bl,db,rfl,af,λtb H5 B5 R5 k5 ftb=>⟨rfl,?_⟩⟩;have s5:=rH Ir G1 k5;have X7:=uA ftb;have x5:=s5 _ _ x4;have W5:=W4.same s5;have V5:=V4.same s5;have RC:bl≠x:=(az x4 Ir).symm;refine⟨_,rfl,x,C,d,_,rfl,x5,aJ.cl,G3,(by show 2<1000;decide),?_⟩;have k6:cN x H5 (aN H5 x (.ins C d (L2.fH "blots" (.ref bl) [("well",.ref wl),("shelf",.ref sh)]))):=aM x _ _;have x6:(aN H5 x (.ins C d (L2.fH "blots" (.ref bl) [("well",.ref wl),("shelf",.ref sh)]))) x=some (.ins C d [("well",.ref wl),("shelf",.ref sh),("blots",.ref bl)]):=af;generalize aN H5 x (.ins C d (L2.fH "blots" (.ref bl) [("well",.ref wl),("shelf",.ref sh)]))=H6 at k6 x6;have W6:=W5.qu x5 X6 k6;have V6:=V5.qu x5 X5 k6;have B6:Bl CB H6 bl db tb:=k6 _ _ B5 RC;have R6:=R5.qu x5 k6;have q6:cN x H H6:=(q4.trans (jy.aK.keep s5)).trans k6;intro kn dk hk1 hk2 _;refine⟨kn,dk,rfl,af,λfs7 H7 _ k7=>⟨rfl,?_⟩⟩;have s7:=rH hk1 hk2 k7;have x7:=s7 _ _ x6;have W7:=W6.same s7;have V7:=V6.same s7;have B7:Bl CB H7 bl db tb:=s7 _ _ B6;have R7:=R6.same s7;refine⟨_,rfl,x,C,d,_,rfl,x7,aJ.cl,nk,(by show 3<1000;decide),?_⟩;have k8:cN x H7 (aN H7 x (.ins C d (L2.fH "knots" (.ref kn) [("well",.ref wl),("shelf",.ref sh),("blots",.ref bl)]))):=aM x _ _;have x8:(aN H7 x (.ins C d (L2.fH "knots" (.ref kn) [("well",.ref wl),("shelf",.ref sh),("blots",.ref bl)]))) x=some (.ins C d [("well",.ref wl),("shelf",.ref sh),("blots",.ref bl),("knots",.ref kn)]):=af;generalize aN H7 x (.ins C d (L2.fH "knots" (.ref kn) [("well",.ref wl),("shelf",.ref sh),("blots",.ref bl)]))=H8 at k8 x8;have W8:=W7.qu x7 X6 k8;have V8:=V7.qu x7 X5 k8;have B8:Bl CB H8 bl db tb:=k8 _ _ B7 RC;have R8:=R7.qu x7 k8;have q8:cN x H H8:=(q6.trans (jy.aK.keep s7)).trans k8;intro du dd N3 hd2 _;refine⟨du,dd,rfl,af,λfs9 H9 _ k9=>⟨rfl,?_⟩⟩;have s9:=rH N3 hd2 k9;have x9:=s9 _ _ x8;have W9:=W8.same s9;have V9:=V8.same s9;have B9:Bl CB H9 bl db tb:=s9 _ _ B8;have R9:=R8.same s9;refine⟨_,rfl,x,C,d,_,rfl,x9,aJ.cl,nd,(by show 4<1000;decide),?_⟩;have YF:cN x H9 (aN H9 x (.ins C d (L2.fH "dues" (.ref du) [("well",.ref wl),("shelf",.ref sh),("blots",.ref bl),("knots",.ref kn)]))):=aM x _ _;have YG:(aN H9 x (.ins C d (L2.fH "dues" (.ref du) [("well",.ref wl),("shelf",.ref sh),("blots",.ref bl),("knots",.ref kn)]))) x=some (.ins C d [("well",.ref wl),("shelf",.ref sh),("blots",.ref bl),("knots",.ref kn),("dues",.ref du)]):=af;generalize aN H9 x (.ins C d (L2.fH "dues" (.ref du) [("well",.ref wl),("shelf",.ref sh),("blots",.ref bl),("knots",.ref kn)]))=Sq at YF YG;have W10:=W9.qu x9 X6 YF;have V10:=V9.qu x9 X5 YF;have B10:Bl CB Sq bl db tb:=YF _ _ B9 RC;have R10:=R9.qu x9 YF;have Ew:cN x H Sq:=(q8.trans (jy.aK.keep s9)).trans YF;refine⟨lF,λbk VO=>⟨_,rfl,x,C,d,_,rfl,ak VO _ _ _ YG,aJ.cl,Gs,(by show 5<1000;decide),?_⟩⟩;have nbx:bk≠x:=(az YG VO).symm
 have nSb:¬ (bk=sh\/bk=st\/bk=op\/bk=z):=λe=>by
  obtain⟨ob,w⟩:=W10.al bk e;rw[VO]at w;cases w
 have zE:=ak VO (.lst []);have k12:cN x (aN Sq bk (.lst [])) (aN (aN Sq bk (.lst [])) x (.ins C d (L2.fH "book" (.ref bk) [("well",.ref wl),("shelf",.ref sh),("blots",.ref bl),("knots",.ref kn),("dues",.ref du)]))):=aM x _ _;have W12:=(W10.same zE).qu (zE _ _ YG) X6 k12;have V12:=(V10.same zE).qu (zE _ _ YG) X5 k12;have B12:=k12 _ _ (zE _ _ B10) RC;have R12:=(R10.same zE).qu (zE _ _ YG) k12;obtain⟨as5,hR5,_⟩:=id R5;have aaK:∀ a,(a=sh\/a=st\/a=op\/a=z)->a=x\/H a=none:=λa e=>.inr (mT q2 (λe'=>by rw[e']at e;exact X6 e) (fS a e));refine k (λa=>(a=sh\/a=st\/a=op\/a=z)\/(a=wl\/a=sg\/a=ow\/a=pw)\/a=bk\/a=x\/a=bl\/a=tb) _ ⟨_,_,d,wl,sh,bl,kn,du,bk,dS,st,op,dw,sg,ow,pw,db,tb,[],⟨af,W12,?_,X6,nSb⟩,V12,B12,R12,?_,?_,?_,?_,λa=>Iff.rfl⟩ ?_ ((Ew.trans (jy.aK.keep zE)).trans k12)
 ·rw[aH nbx];exact af
 ·exact⟨.nil,λ_ z=>by cases z⟩
 ·intro a ea;obtain⟨ob,hob⟩:=V2.al a ea;refine⟨λes=>?_,λeb=>?_,λex=>?_⟩
  ·rw[fS a es]at hob;cases hob
  ·obtain⟨ob',w⟩:=V10.al a ea;rw[eb,VO]at w;cases w
  ·rw[ex]at ea;exact X5 ea
 ·refine⟨λes=>?_,λew=>?_,λeb=>?_⟩
  ·obtain⟨ob,w⟩:=W4.al bl es;rw[Ir]at w;cases w
  ·obtain⟨ob,w⟩:=V4.al bl ew;rw[Ir]at w;cases w
  ·rw[eb]at B10;have aaL:Sq bk=some _:=B10;rw[VO]at aaL;cases aaL
 ·refine⟨λes=>?_,λew=>?_,λeb=>?_⟩
  ·obtain⟨ob,w⟩:=W4.al tb es;rw[X7]at w;cases w
  ·obtain⟨ob,w⟩:=V4.al tb ew;rw[X7]at w;cases w
  ·obtain⟨as,hR,_⟩:=id R10;rw[eb,VO]at hR;cases hR
 ·intro a ea;rcases ea with ea|ea|ea|ea|ea|ea
  ·exact aaK a ea
  ·exact .inr (fW a ea)
  ·rw[ea];exact .inr (mT Ew nbx VO)
  ·exact .inl ea
  ·rw[ea];exact .inr (mT q4 RC Ir)
  ·by_cases ex:a=x
   ·exact .inl ex
   ·rw[ea]at ex ⊢;exact .inr (mT q4 ex X7)
theorem UA.at_{H H':Hp}{q:Addr}{rows:List (List aU)}(h:UA H H' q rows):jr H' q rows:=by
 obtain⟨_,rs,hq,al⟩:=h;refine⟨rs.map V.ref,hq,?_⟩
 have key:∀ {as:List Addr} {ds:List (List aU)},cE (λr aP=>H r=none/\r≠q/\bY H' (.ref r) aP) as ds->cE (bY H') (as.map V.ref) ds:=by
  intro as ds z
  induction z with
  | nil=>exact .nil
  | cons o t ih=>exact .cons o.2.2 ih
 exact key al
abbrev ctW:List Nat:=(Str.ofString "cut").cps.toList
abbrev qtW:List Nat:=(Str.ofString "quote").cps.toList
inductive MZ(C CS CW CB:Addr)(vs:List V)(H:Hp)(Q:VK)(E:XK):Prop
 | mk (U:Addr->Prop) (x:Addr) (pe:m8) (aB:oF) (aS:mP) (nW:Nat) (cF:Row) (s a b:Int) (rows:dI) (_:vs=[.ref x,.int s,.int a,.int b]) (_:yv C CS CW CB U H x pe aB aS nW cF) (_:pe.getLast?=some rows) (_:rows.length<=50) (_:pe.length<=900) (_:aB.length<=900) (_:zF s) (_:zF a) (_:zF b)
  (_:wY rows.length s) (_:∃ sh,Seen rows sh/\OW a b (sh s).length/\(∀ es,rows[s.toNat]?=some es->(∃ f,uy (lW rows s.toNat (b5 sh a b es)) f)/\
  ∀ (U':Addr->Prop) (H':Hp),yv C CS CW CB U' H' x (pe++[lW rows s.toNat (b5 sh a b es)]) (aB++[(oE.plain ctW [s,a,b]).line]) aS nW cF->Ll U U' H H'->Q .jj H'))
inductive E9(C CS CW CB:Addr)(vs:List V)(H:Hp)(Q:VK)(E:XK):Prop
 | mk (U:Addr->Prop) (x:Addr) (pe:m8) (aB:oF) (aS:mP) (nW:Nat) (cF:Row) (t p s a b:Int) (rows:dI) (_:vs=[.ref x,.int t,.int p,.int s,.int a,.int b]) (_:yv C CS CW CB U H x pe aB aS nW cF) (_:pe.getLast?=some rows) (_:rows.length<=50) (_:pe.length<=900) (_:aB.length<=900) (_:zF t) (_:zF p) (_:zF s) (_:zF a) (_:zF b)
  (_:wY rows.length t) (_:wY rows.length s) (_:(∃ sh,Seen rows sh/\OW a b (sh s).length/\((0<=p/\p<=(sh t).length)/\(∀ es,rows[t.toNat]?=some es->(∃ f,uy (lW rows t.toNat (ic sh p es (((sh s).take b.toNat).drop a.toNat))) f)/\
  ∀ (U':Addr->Prop) (H':Hp),yv C CS CW CB U' H' x (pe++[lW rows t.toNat (ic sh p es (((sh s).take b.toNat).drop a.toNat))]) (aB++[(oE.plain qtW [t,p,s,a,b]).line]) aS nW cF->Ll U U' H H'->Q .jj H'))))
theorem xP:aL ["self","sheet","start","stop","items"] ["self","sheet","start","stop"] (aA qR):=iW
theorem Dh{f fp:Addr}{g1 g2:FuncData}(F:iM K "cut" "Library.cut" qR f fd)(X:Ay K mg C CS CW CB)(A1:JR K mg CS)(A2:MV K mg)(A6:UL K mg)(aR:bQ K C "enter" "Library.enter" cC JU f1 g1)(aO:bQ K C "change" "Library.change" cS G4 f2 g2)(o7:aC K mg "cut_items" rP SQ fc gc)(jZ:aC K mg "parted" sS G7 fp gp):aF P w K mg zt bI 6 f fd Wd (MZ C CS CW CB):=by
 obtain⟨LM,_⟩:=X;have cG:aF P w K mg zt bI 5 _ _ G4 (qt C CS):=eU aO.F LM A1 A2 aR;obtain⟨M,⟨fi,aJ⟩,nw,ns,G3,nk,nd,Gs,G⟩:=LM;obtain⟨⟨_,_,d1⟩,⟨_,_,d2⟩,⟨_,_,bh⟩,⟨_,_,d4⟩,⟨_,_,d7⟩,⟨_,_,bS⟩,⟨_,_,d9⟩⟩:=A1;have dm:aF P w K mg zt bI 4 _ _ lY (vc CS):=iH bS.F M d2 d4 d7;have cj:aF P w K mg zt bI 2 _ _ Eh (oY CS):=dZ bh.F M d1;obtain⟨T,⟨fj,bZ⟩,n1,n2⟩:=M;obtain⟨⟨_,_,i1⟩,⟨_,_,i2⟩,⟨_,_,i3⟩,⟨_,_,i4⟩,⟨_,_,i5⟩,⟨_,_,i6⟩,⟨_,_,i7⟩,⟨_,_,i8⟩,⟨_,_,i9⟩,⟨_,_,SI⟩,⟨_,_,Rz⟩,⟨_,_,i12⟩,⟨_,_,UM⟩,⟨_,_,i14⟩⟩:=A6;have Ln:aF P w K mg zt bI 4 _ _ SQ AX:=Gf o7.F T i1 i2 i3 i4 i5 i6 i7 i8 i9 SI Rz i12 jZ;refine iZ F xP λdP A zn s0 H vs Q E hr h=>?_;obtain⟨U,x,pe,aB,aS,nW,cF,s,a,b,rows,rfl,LB,hl,l1,l2,l3,fs,fa,fb,ia,k2⟩:=h;obtain⟨S,SW,d,wl,sh,bl,kn,du,bk,dS,st,op,dw,sg,ow,pw,db,tb,ops,LU⟩:=id LB;have lo:=tH LU.L hl;have hl':=iI hl;have lp:(qK pe).length=pe.length:=cR _;have ok:Lk (qK pe) ops:=⟨by lia,by lia⟩;refine⟨_,(aj (aY (eT (fO (pv 0) rfl) bZ bh cj hr ck (aa (pv 1) ah))) (aj (br (i:=4) xP.nd (aG o7 Ln hr (aa (ju (fO (pv 0) rfl) bZ bS dm hr ck) (aa (pv 1) (aa (pv 2) (aa (pv 3) ah)))))) (au (aY (eT (pv 0) aJ aO cG hr ck (aa (c9 (aa bJ (aa (pv 1) (aa (pv 2) (aa (pv 3) ah))))) (aa (pv 1) (aa (pv 4) ah)))))))),?_⟩;refine⟨_,rfl,x,C,d,_,.ref sh,rfl,LU.L.hx,aJ.cl,ns,rfl,sh,dS,_,rfl,LU.L.W.hx,rfl,_,rfl,S,sh,dS,st,op,qK pe,ops,s,rfl,LU.L.W,by rw[lo];exact ia,?_⟩;obtain⟨f0,sn,i3,k4⟩:=k2;refine⟨_,rfl,x,C,d,_,.ref sh,rfl,LU.L.hx,aJ.cl,ns,rfl,sh,dS,_,rfl,LU.L.W.hx,rfl,S,sh,dS,st,op,qK pe,ops,rfl,LU.L.W,ok,λX0 el q H1 UI s1=>?_⟩;rw[hl']at el;cases el;have sl:s.toNat<rows.length:=by have:=ia.1;have:=ia.2;lia
 obtain⟨es,es1⟩:∃ es,rows[s.toNat]?=some es:=⟨_,tO sl⟩;refine⟨_,rfl,_,rfl,_,rfl,q,rows,s,a,b,f0,rfl,⟨UI.at_,by lia,sn.es,sn.sd,sn.rk,sn.ss,sn.ln⟩,ia.1,ia.2,i3,λzD q2 H2 ua jz s2 MY=>?_⟩;rw[es1]at ua;cases ua;obtain⟨⟨fB,B⟩,k5⟩:=k4 es es1;have t9:=s1.trans s2;have O6:=LU.same t9
 have RB:q2≠bk:=λe=>by
  have y:=(LU.same s1).L.hb;rw[← e,MY]at y;cases y
 refine⟨_,rfl,x,d,_,rfl,O6.L.hx,rfl,_,rfl,_,rfl,_,rfl,FU,λt ht=>?_⟩;have s3:=ak ht (.tup [.str "cut",.int s,.int a,.int b]);have Uz:(aN H2 t (.tup [.str "cut",.int s,.int a,.int b])) t=some (.tup [.str "cut",.int s,.int a,.int b]):=af;generalize aN H2 t (.tup [.str "cut",.int s,.int a,.int b])=H3 at s3 Uz;have Cs:=t9.trans s3;have UN:=LU.same Cs;have ss:((s.toNat:Nat):Int)=s:=by have:=ia.1;lia
 refine⟨_,rfl,_,rfl,S,x,d,wl,sh,bl,kn,du,bk,dS,st,op,pe,ops,aB,t,q2,.plain ctW [s,a,b],s.toNat,_,rows,fB,by rw[ss];rfl,UN.L,(by show H3 t=_;rw[Uz,tS];rfl),⟨(by show sj Uv ctW=some 3;decide +kernel),?_⟩,jz.same s3,RB,hl,by lia,l1,l2,l3,B,λS' H8 L8 FH=>?_⟩
 ·intro y hy;have b1:=ia.1;unfold OW at i3;rcases List.mem_cons.mp hy with e|hy
  ·rw[e];exact⟨b1,fs.big⟩
  rcases List.mem_cons.mp hy with e|hy
  ·rw[e];exact⟨by lia,fa.big⟩
  ·rw[List.mem_singleton.mp hy];exact⟨by lia,fb.big⟩
 ·obtain⟨U',hL',f'⟩:=UN.tK L8 FH;exact k5 U' H8 hL' (f'.pre Cs)
theorem qF:aL ["self","target","place","source","start","stop","row","items"] ["self","target","place","source","start","stop"] (aA nK):=iW
theorem Az{f fS f3 fp:Addr}{g1 g2 g3:FuncData}(F:iM K "quote" "Library.quote" nK f fd)(X:Ay K mg C CS CW CB)(A1:JR K mg CS)(A2:MV K mg)(A4:X3 K mg fS fZ)(A6:UL K mg)(aR:bQ K C "enter" "Library.enter" cC JU f1 g1)(aO:bQ K C "change" "Library.change" cS G4 f2 g2)(bW:bQ K C "shown" "Library.shown" gJ Eh f3 g3)(Fb:aC K mg "part" Hy pQ fp gp):aF P w K mg zt bI 6 f fd Wg (E9 C CS CW CB):=by
 obtain⟨LM,_⟩:=X;have cG:aF P w K mg zt bI 5 _ _ G4 (qt C CS):=eU aO.F LM A1 A2 aR;have jv:aF P w K mg zt bI 5 _ _ Eh (zw C CS):=o6 bW.F LM A1 A4;obtain⟨M,⟨fi,aJ⟩,nw,ns,G3,nk,nd,Gs,G⟩:=LM;obtain⟨⟨_,_,d1⟩,⟨_,_,d2⟩,⟨_,_,bh⟩,⟨_,_,d4⟩,⟨_,_,d7⟩,⟨_,_,bS⟩,⟨_,_,d9⟩⟩:=A1;have dm:aF P w K mg zt bI 4 _ _ lY (vc CS):=iH bS.F M d2 d4 d7;have cj:aF P w K mg zt bI 2 _ _ Eh (oY CS):=dZ bh.F M d1;obtain⟨T,⟨fj,bZ⟩,n1,n2⟩:=M;obtain⟨⟨_,_,i1⟩,⟨_,_,i2⟩,⟨_,_,i3⟩,⟨_,_,i4⟩,⟨_,_,i5⟩,⟨_,_,i6⟩,⟨_,_,i7⟩,⟨_,_,i8⟩,⟨_,_,i9⟩,⟨_,_,SI⟩,⟨_,_,Rz⟩,⟨_,_,dX⟩,⟨_,_,UM⟩,⟨_,_,jh⟩⟩:=A6;have aaM:aF P w K mg zt bI 3 _ _ pQ MC:=Ug Fb.F T i6 i7 i4 Rz;have sf:aF P w K mg zt bI 2 _ _ gY wR:=vY dX.F T i4;have sI:aF P w K mg zt bI 4 _ _ Pc qq:=uY jh.F T i1 i2 i3 i4 i5 i6 i7 i8 i9 SI Rz dX UM;refine iZ F qF λdP A zn s0 H vs Q E hr h=>?_;obtain⟨U,x,pe,aB,aS,nW,cF,t,p,s,a,b,rows,rfl,LB,hl,l1,l2,l3,ft,fp,fs,fa,fb,it,ia,k4⟩:=h;obtain⟨S,SW,d,wl,sh,bl,kn,du,bk,dS,st,op,dw,sg,ow,pw,db,tb,ops,LU⟩:=id LB;have lo:=tH LU.L hl;have hl':=iI hl;have lp:(qK pe).length=pe.length:=cR _;have ok:Lk (qK pe) ops:=⟨by lia,by lia⟩;refine⟨_,(aj (aY (eT (fO (pv 0) rfl) bZ bh cj hr ck (aa (pv 1) ah))) (aj (br (i:=6) qF.nd (aG Fb aaM hr (aa (eT (pv 0) aJ bW jv hr ck (aa (pv 3) ah)) (aa (pv 4) (aa (pv 5) ah))))) (aj (br (i:=7) qF.nd (aG jh sI hr (aa (ju (fO (pv 0) rfl) bZ bS dm hr ck) (aa (pv 1) (aa (pv 2) (aa (aG dX sf hr (aa (pv 6) ah)) ah)))))) (au (aY (eT (pv 0) aJ aO cG hr ck (aa (c9 (aa bJ (aa (pv 1) (aa (pv 2) (aa (pv 3) (aa (pv 4) (aa (pv 5) ah))))))) (aa (pv 1) (aa (pv 7) ah))))))))),?_⟩;refine⟨_,rfl,x,C,d,_,.ref sh,rfl,LU.L.hx,aJ.cl,ns,rfl,sh,dS,_,rfl,LU.L.W.hx,rfl,_,rfl,S,sh,dS,st,op,qK pe,ops,t,rfl,LU.L.W,by rw[lo];exact it,?_⟩;refine⟨_,rfl,x,d,_,rfl,LU.L.hx,rfl,_,rfl,S,x,d,wl,sh,bl,kn,du,bk,dS,st,op,pe,ops,aB,rows,s,rfl,LU.L,hl,l1,l2,ia,?_⟩;obtain⟨f0,sn,i3,ip,k8⟩:=k4;refine⟨f0,sn,λo H1 ho s1 fo=>?_⟩;have ls:(f0 s).length<=10000:=sn.ln s ia.1 ia.2;have lr0:=rF (f0 s);have tt:mj (dc (f0 s))=(f0 s).length:=E7 _;refine⟨_,rfl,_,rfl,o,dc (f0 s),a,b,rfl,ho,by lia,by rw[tt];exact i3,λq0 H2 OV s2 fq0=>?_⟩;have t9:=s1.trans s2;have O6:=LU.same t9;refine⟨_,rfl,x,C,d,_,.ref sh,rfl,O6.L.hx,aJ.cl,ns,rfl,sh,dS,_,rfl,O6.L.W.hx,rfl,S,sh,dS,st,op,qK pe,ops,rfl,O6.L.W,ok,λX0 el q H3 fs3 s3=>?_⟩;rw[hl']at el;cases el;have Cs:=t9.trans s3;have tl:t.toNat<rows.length:=by have:=it.1;have:=it.2;lia
 obtain⟨es,es1⟩:∃ es,rows[t.toNat]?=some es:=⟨_,tO tl⟩;have nnp:∀ {r:Row},nO r->qH r:=λh p hp=>⟨(h p hp).1,by have:=(h p hp).2;lia⟩;have nn0:qH (dc (f0 s)):=nnp (EN (uw sn.sd sn.rk sn.ss s ia.1 ia.2));have nn1:qH (cJ (qx a b 0 (dc (f0 s)))):=nnp (uu (Cw a b _ 0 nn0))
 have lpl:(cJ (qx a b 0 (dc (f0 s)))).length<=10000:=by
  have:=wV a b (dc (f0 s));rw[BI]at this;lia
 have epl:dM (cY (cJ (cJ (qx a b 0 (dc (f0 s))))))=((f0 s).take b.toNat).drop a.toNat:=by
  rw[rZ,qg _ λq hq=>(nn1 q hq).2,uS _ _ _ (qe _),gO]
 refine⟨_,rfl,_,rfl,_,rfl,q0,_,rfl,OV.same s3,by lia,λoi H4 Xw s4 foi=>?_⟩;have OE:=Cs.trans s4;refine⟨q,oi,rows,t,p,_,f0,rfl,⟨fs3.at_.same s4,by lia,sn.es,sn.sd,sn.rk,sn.ss,sn.ln⟩,it.1,it.2,Xw,zh (uu nn1),?_,ip,λzD q2 H5 ua jz s5 MY=>?_⟩
 ·rw[BI];have:=rD (cJ (qx a b 0 (dc (f0 s))));lia
 rw[es1]at ua;cases ua;rw[epl]at jz;obtain⟨⟨fB,B⟩,k9⟩:=k8 es es1;have RD:=OE.trans s5;have YH:=LU.same RD
 have RB:q2≠bk:=λe=>by
  have y:=(LU.same OE).L.hb;rw[← e,MY]at y;cases y
 refine⟨_,rfl,x,d,_,rfl,YH.L.hx,rfl,_,rfl,_,rfl,_,rfl,_,rfl,_,rfl,ZY,λt' ht=>?_⟩;have s6:=ak ht (.tup [.str "quote",.int t,.int p,.int s,.int a,.int b]);have VP:(aN H5 t' (.tup [.str "quote",.int t,.int p,.int s,.int a,.int b])) t'=some (.tup [.str "quote",.int t,.int p,.int s,.int a,.int b]):=af;generalize aN H5 t' (.tup [.str "quote",.int t,.int p,.int s,.int a,.int b])=H6 at s6 VP;have VN:=RD.trans s6;have RA:=LU.same VN;have ss:((t.toNat:Nat):Int)=t:=by have:=it.1;lia
 refine⟨_,rfl,_,rfl,S,x,d,wl,sh,bl,kn,du,bk,dS,st,op,pe,ops,aB,t',q2,.plain qtW [t,p,s,a,b],t.toNat,_,rows,fB,by rw[ss];rfl,RA.L,(by show H6 t'=_;rw[VP,tS];rfl),⟨(by show sj Uv qtW=some 5;decide +kernel),?_⟩,jz.same s6,RB,hl,by lia,l1,l2,l3,B,λS' H8 L8 FH=>?_⟩
 ·intro y hy;have b1:=ia.1;have b2:=it.1;unfold OW at i3;rcases List.mem_cons.mp hy with e|hy
  ·rw[e];exact⟨b2,ft.big⟩
  rcases List.mem_cons.mp hy with e|hy
  ·rw[e];exact⟨ip.1,fp.big⟩
  rcases List.mem_cons.mp hy with e|hy
  ·rw[e];exact⟨b1,fs.big⟩
  rcases List.mem_cons.mp hy with e|hy
  ·rw[e];exact⟨by lia,fa.big⟩
  ·rw[List.mem_singleton.mp hy];exact⟨by lia,fb.big⟩
 ·obtain⟨U',hL',f'⟩:=RA.tK L8 FH;exact k9 U' H8 hL' (f'.pre VN)
abbrev wnW:List Nat:=(Str.ofString "window").cps.toList
inductive Jo(C CS CW CB:Addr)(vs:List V)(H:Hp)(Q:VK)(E:XK):Prop
 | mk (U:Addr->Prop) (x:Addr) (pe:m8) (aB:oF) (aS:mP) (nW:Nat) (cF:Row) (t p s:Int) (rows:dI) (_:vs=[.ref x,.int t,.int p,.int s]) (_:yv C CS CW CB U H x pe aB aS nW cF) (_:pe.getLast?=some rows) (_:rows.length<=50) (_:pe.length<=900) (_:aB.length<=900) (_:zF t) (_:zF p) (_:zF s)
  (_:wY rows.length t) (_:wY rows.length s) (_:(∃ sh,Seen rows sh/\(0<=p/\p<=(sh t).length)/\(∀ es,rows[t.toNat]?=some es->(∃ f,uy (lW rows t.toNat (ic sh p es [-1-s])) f)/\
  ∀ (U':Addr->Prop) (H':Hp),yv C CS CW CB U' H' x (pe++[lW rows t.toNat (ic sh p es [-1-s])]) (aB++[(oE.plain wnW [t,p,s]).line]) aS nW cF->Ll U U' H H'->Q .jj H')))
theorem uB:aL ["self","target","place","source","items"] ["self","target","place","source"] (aA mh):=iW
theorem zx{f:Addr}{g1 g2:FuncData}(F:iM K "window" "Library.window" mh f fd)(X:Ay K mg C CS CW CB)(A1:JR K mg CS)(A2:MV K mg)(A6:UL K mg)(aR:bQ K C "enter" "Library.enter" cC JU f1 g1)(aO:bQ K C "change" "Library.change" cS G4 f2 g2):aF P w K mg zt bI 6 f fd Wh (Jo C CS CW CB):=by
 obtain⟨LM,_⟩:=X;have cG:aF P w K mg zt bI 5 _ _ G4 (qt C CS):=eU aO.F LM A1 A2 aR;obtain⟨M,⟨fi,aJ⟩,nw,ns,G3,nk,nd,Gs,G⟩:=LM;obtain⟨⟨_,_,d1⟩,⟨_,_,d2⟩,⟨_,_,bh⟩,⟨_,_,d4⟩,⟨_,_,d7⟩,⟨_,_,bS⟩,⟨_,_,d9⟩⟩:=A1;have dm:aF P w K mg zt bI 4 _ _ lY (vc CS):=iH bS.F M d2 d4 d7;have cj:aF P w K mg zt bI 2 _ _ Eh (oY CS):=dZ bh.F M d1;obtain⟨T,⟨fj,bZ⟩,n1,n2⟩:=M;obtain⟨⟨_,_,i1⟩,⟨_,_,i2⟩,⟨_,_,i3⟩,⟨_,_,i4⟩,⟨_,_,i5⟩,⟨_,_,i6⟩,⟨_,_,i7⟩,⟨_,_,i8⟩,⟨_,_,i9⟩,⟨_,_,SI⟩,⟨_,_,Rz⟩,⟨_,_,dX⟩,⟨_,_,UM⟩,⟨_,_,jh⟩⟩:=A6;have sI:aF P w K mg zt bI 4 _ _ Pc qq:=uY jh.F T i1 i2 i3 i4 i5 i6 i7 i8 i9 SI Rz dX UM;refine iZ F uB λdP A zn s0 H vs Q E hr h=>?_;obtain⟨U,x,pe,aB,aS,nW,cF,t,p,s,rows,rfl,LB,hl,l1,l2,l3,ft,fp,fs,it,ia,k4⟩:=h;obtain⟨S,SW,d,wl,sh,bl,kn,du,bk,dS,st,op,dw,sg,ow,pw,db,tb,ops,LU⟩:=id LB;have lo:=tH LU.L hl;have hl':=iI hl;have lp:(qK pe).length=pe.length:=cR _;have ok:Lk (qK pe) ops:=⟨by lia,by lia⟩;refine⟨_,(aj (aY (eT (fO (pv 0) rfl) bZ bh cj hr ck (aa (pv 1) ah))) (aj (aY (eT (fO (pv 0) rfl) bZ bh cj hr ck (aa (pv 3) ah))) (aj (br (i:=4) uB.nd (aG jh sI hr (aa (ju (fO (pv 0) rfl) bZ bS dm hr ck) (aa (pv 1) (aa (pv 2) (aa (bK (aa (c9 (aa bJ (aa (pv 3) ah))) ah)) ah)))))) (au (aY (eT (pv 0) aJ aO cG hr ck (aa (c9 (aa bJ (aa (pv 1) (aa (pv 2) (aa (pv 3) ah))))) (aa (pv 1) (aa (pv 4) ah))))))))),?_⟩;refine⟨_,rfl,x,C,d,_,.ref sh,rfl,LU.L.hx,aJ.cl,ns,rfl,sh,dS,_,rfl,LU.L.W.hx,rfl,_,rfl,S,sh,dS,st,op,qK pe,ops,t,rfl,LU.L.W,by rw[lo];exact it,?_⟩;refine⟨_,rfl,x,C,d,_,.ref sh,rfl,LU.L.hx,aJ.cl,ns,rfl,sh,dS,_,rfl,LU.L.W.hx,rfl,_,rfl,S,sh,dS,st,op,qK pe,ops,s,rfl,LU.L.W,by rw[lo];exact ia,?_⟩;obtain⟨f0,sn,ip,k8⟩:=k4;refine⟨_,rfl,x,C,d,_,.ref sh,rfl,LU.L.hx,aJ.cl,ns,rfl,sh,dS,_,rfl,LU.L.W.hx,rfl,S,sh,dS,st,op,qK pe,ops,rfl,LU.L.W,ok,λX0 el q H1 UI s1=>?_⟩;rw[hl']at el;cases el;have tl:t.toNat<rows.length:=by have:=it.1;have:=it.2;lia
 obtain⟨es,es1⟩:∃ es,rows[t.toNat]?=some es:=⟨_,tO tl⟩;refine⟨_,rfl,_,rfl,_,rfl,xj,λt2 OX=>⟨rV,λo ho=>?_⟩⟩;have s2:=ak OX (.tup [.str "win",.int s]);have t2':(aN H1 t2 (.tup [.str "win",.int s])) t2=some (.tup [.str "win",.int s]):=af;generalize aN H1 t2 (.tup [.str "win",.int s])=H2 at s2 t2' ho;have s3:=ak ho (.lst [.ref t2]);have o3:(aN H2 o (.lst [.ref t2])) o=some (.lst [.ref t2]):=af;show qq _ (aN H2 o (.lst [.ref t2])) _ _;generalize aN H2 o (.lst [.ref t2])=H3 at s3 o3;have Cs:=s1.trans (s2.trans s3);have Xw:bY H3 (.ref o) [.win s]:=⟨o,_,rfl,o3,.cons ⟨t2,rfl,s3 _ _ t2'⟩ .nil⟩;refine⟨q,o,rows,t,p,[.win s],f0,rfl,⟨UI.at_.same (s2.trans s3),by lia,sn.es,sn.sd,sn.rk,sn.ss,sn.ln⟩,it.1,it.2,Xw,.one ia.1,(by show 1<=10000;decide),ip,λzD q2 H5 ua jz s5 MY=>?_⟩;rw[es1]at ua;cases ua;rw[show dM [aU.win s]=[-1-s] from rfl]at jz;obtain⟨⟨fB,B⟩,k9⟩:=k8 es es1;have RD:=Cs.trans s5;have YH:=LU.same RD
 have RB:q2≠bk:=λe=>by
  have y:=(LU.same Cs).L.hb;rw[← e,MY]at y;cases y
 refine⟨_,rfl,x,d,_,rfl,YH.L.hx,rfl,_,rfl,_,rfl,_,rfl,FU,λt' ht=>?_⟩;have s6:=ak ht (.tup [.str "window",.int t,.int p,.int s]);have VP:(aN H5 t' (.tup [.str "window",.int t,.int p,.int s])) t'=some (.tup [.str "window",.int t,.int p,.int s]):=af;generalize aN H5 t' (.tup [.str "window",.int t,.int p,.int s])=H6 at s6 VP;have VN:=RD.trans s6;have RA:=LU.same VN;have ss:((t.toNat:Nat):Int)=t:=by have:=it.1;lia
 refine⟨_,rfl,_,rfl,S,x,d,wl,sh,bl,kn,du,bk,dS,st,op,pe,ops,aB,t',q2,.plain wnW [t,p,s],t.toNat,_,rows,fB,by rw[ss];rfl,RA.L,(by show H6 t'=_;rw[VP,tS];rfl),⟨(by show sj Uv wnW=some 3;decide +kernel),?_⟩,jz.same s6,RB,hl,by lia,l1,l2,l3,B,λS' H8 L8 FH=>?_⟩
 ·intro y hy;have b1:=ia.1;have b2:=it.1;rcases List.mem_cons.mp hy with e|hy
  ·rw[e];exact⟨b2,ft.big⟩
  rcases List.mem_cons.mp hy with e|hy
  ·rw[e];exact⟨ip.1,fp.big⟩
  ·rw[List.mem_singleton.mp hy];exact⟨b1,fs.big⟩
 ·obtain⟨U',hL',f'⟩:=RA.tK L8 FH;exact k9 U' H8 hL' (f'.pre VN)
abbrev fxW:List Nat:=(Str.ofString "fix").cps.toList
inductive VQ(C CS CW CB:Addr)(vs:List V)(H:Hp)(Q:VK)(E:XK):Prop
 | mk (U:Addr->Prop) (x:Addr) (pe:m8) (aB:oF) (aS:mP) (nW:Nat) (cF:Row) (t:Int) (rows:dI) (_:vs=[.ref x,.int t]) (_:yv C CS CW CB U H x pe aB aS nW cF) (_:pe.getLast?=some rows) (_:rows.length<=50) (_:pe.length<=900) (_:aB.length<=900) (_:zF t)
  (_:wY rows.length t) (_:∃ sh,Seen rows sh/\(∃ f,uy (lW rows t.toNat (sh t)) f)/\
  ∀ (U':Addr->Prop) (H':Hp),yv C CS CW CB U' H' x (pe++[lW rows t.toNat (sh t)]) (aB++[(oE.plain fxW [t]).line]) aS nW cF->Ll U U' H H'->Q .jj H')
theorem D6:aL ["self","sheet"] ["self","sheet"] (aA qS):=iW
theorem Di{f f3:Addr}{g1 g2 g3 g4:FuncData}(F:iM K "fix" "Library.fix" qS f fd)(X:Ay K mg C CS CW CB)(A1:JR K mg CS)(A2:MV K mg)(A6:UL K mg)(aR:bQ K C "enter" "Library.enter" cC JU f1 g1)(aO:bQ K C "change" "Library.change" cS G4 f2 g2)(lM:aC K mg "fixed_items" nv vD f3 g3)(mL:aC K mg "shown" yc vD f4 g4):aF P w K mg zt bI 6 f fd Eh (VQ C CS CW CB):=by
 obtain⟨LM,_⟩:=X;have cG:aF P w K mg zt bI 5 _ _ G4 (qt C CS):=eU aO.F LM A1 A2 aR;obtain⟨M,⟨fi,aJ⟩,nw,ns,G3,nk,nd,Gs,G⟩:=LM;obtain⟨⟨_,_,d1⟩,⟨_,_,d2⟩,⟨_,_,bh⟩,⟨_,_,d4⟩,⟨_,_,d7⟩,⟨_,_,bS⟩,⟨_,_,d9⟩⟩:=A1;have dm:aF P w K mg zt bI 4 _ _ lY (vc CS):=iH bS.F M d2 d4 d7;have cj:aF P w K mg zt bI 2 _ _ Eh (oY CS):=dZ bh.F M d1;obtain⟨T,⟨fj,bZ⟩,n1,n2⟩:=M;have A6':=A6;obtain⟨⟨_,_,i1⟩,⟨_,_,i2⟩,⟨_,_,i3⟩,⟨_,_,i4⟩,⟨_,_,i5⟩,⟨_,_,i6⟩,⟨_,_,i7⟩,⟨_,_,i8⟩,⟨_,_,i9⟩,⟨_,_,SI⟩,⟨_,_,Rz⟩,⟨_,_,dX⟩,⟨_,_,UM⟩,⟨_,_,i14⟩⟩:=A6;have GA:aF P w K mg zt bI 5 _ _ vD MN:=CZ lM.F T i1 i2 i3 i4 i5 mL dX;refine iZ F D6 λdP A zn s0 H vs Q E hr h=>?_;obtain⟨U,x,pe,aB,aS,nW,cF,t,rows,rfl,LB,hl,l1,l2,l3,ft,it,k2⟩:=h;obtain⟨S,SW,d,wl,sh,bl,kn,du,bk,dS,st,op,dw,sg,ow,pw,db,tb,ops,LU⟩:=id LB;have lo:=tH LU.L hl;have hl':=iI hl;have lp:(qK pe).length=pe.length:=cR _;have ok:Lk (qK pe) ops:=⟨by lia,by lia⟩;refine⟨_,(aj (aY (eT (fO (pv 0) rfl) bZ bh cj hr ck (aa (pv 1) ah))) (au (aY (eT (pv 0) aJ aO cG hr ck (aa (c9 (aa bJ (aa (pv 1) ah))) (aa (pv 1) (aa (aG lM GA hr (aa (ju (fO (pv 0) rfl) bZ bS dm hr ck) (aa (pv 1) ah))) ah))))))),?_⟩;refine⟨_,rfl,x,C,d,_,.ref sh,rfl,LU.L.hx,aJ.cl,ns,rfl,sh,dS,_,rfl,LU.L.W.hx,rfl,_,rfl,S,sh,dS,st,op,qK pe,ops,t,rfl,LU.L.W,by rw[lo];exact it,?_⟩;obtain⟨f0,sn,⟨fB,B⟩,k9⟩:=k2;refine⟨_,rfl,x,d,_,rfl,LU.L.hx,rfl,_,rfl,xj,λt' ht=>?_⟩;have s6:=ak ht (.tup [.str "fix",.int t]);have VP:(aN H t' (.tup [.str "fix",.int t])) t'=some (.tup [.str "fix",.int t]):=af;generalize aN H t' (.tup [.str "fix",.int t])=H6 at s6 VP;have RA:=LU.same s6;refine⟨_,rfl,_,rfl,x,C,d,_,.ref sh,rfl,RA.L.hx,aJ.cl,ns,rfl,sh,dS,_,rfl,RA.L.W.hx,rfl,S,sh,dS,st,op,qK pe,ops,rfl,RA.L.W,ok,λX0 el q H1 UI s1=>?_⟩;rw[hl']at el;cases el;refine⟨_,rfl,q,rows,t,f0,rfl,⟨UI.at_,by lia,sn.es,sn.sd,sn.rk,sn.ss,sn.ln⟩,it.1,it.2,λq2 H5 jz s5 MY=>?_⟩;have RD:=s6.trans (s1.trans s5);have YH:=LU.same RD
 have RB:q2≠bk:=λe=>by
  have y:=(LU.same (s6.trans s1)).L.hb;rw[← e,MY]at y;cases y
 have ss:((t.toNat:Nat):Int)=t:=by have:=it.1;lia
 have tl:t.toNat<rows.length:=by have:=it.1;have:=it.2;lia
 refine⟨S,x,d,wl,sh,bl,kn,du,bk,dS,st,op,pe,ops,aB,t',q2,.plain fxW [t],t.toNat,_,rows,fB,by rw[ss];rfl,YH.L,(by show H5 t'=_;rw[s5 _ _ (s1 _ _ VP),tS];rfl),⟨(by show sj Uv fxW=some 1;decide +kernel),?_⟩,jz,RB,hl,by lia,l1,l2,l3,B,λS' H8 L8 FH=>?_⟩
 ·intro y hy;rw[List.mem_singleton.mp hy];exact⟨it.1,ft.big⟩
 ·obtain⟨U',hL',f'⟩:=YH.tK L8 FH;exact k9 U' H8 hL' (f'.pre RD)
abbrev mvW:List Nat:=(Str.ofString "move").cps.toList
inductive RE(C CS CW CB:Addr)(vs:List V)(H:Hp)(Q:VK)(E:XK):Prop
 | mk (U:Addr->Prop) (x:Addr) (pe:m8) (aB:oF) (aS:mP) (nW:Nat) (cF:Row) (s a b to:Int) (rows:dI) (_:vs=[.ref x,.int s,.int a,.int b,.int to]) (_:yv C CS CW CB U H x pe aB aS nW cF) (_:pe.getLast?=some rows) (_:rows.length<=50) (_:pe.length<=900) (_:aB.length<=900) (_:zF s) (_:(-100000<a/\a<100000)) (_:(-100000<b/\b<100000)) (_:(-100000<to/\to<100000))
  (_:wY rows.length s) (_:∃ sh,Seen rows sh/\Mv a b to (sh s).length/\(∀ es,rows[s.toNat]?=some es->(∃ f,uy (lW rows s.toNat (qV sh a b to es)) f)/\
  ∀ (U':Addr->Prop) (H':Hp),yv C CS CW CB U' H' x (pe++[lW rows s.toNat (qV sh a b to es)]) (aB++[(oE.plain mvW [s,a,b,to]).line]) aS nW cF->Ll U U' H H'->Q .jj H'))
theorem wj:aL ["self","sheet","start","stop","to","items"] ["self","sheet","start","stop","to"] (aA pD):=iW
theorem Bu{f fp:Addr}{g1 g2:FuncData}(F:iM K "move" "Library.move" pD f fd)(X:Ay K mg C CS CW CB)(A1:JR K mg CS)(A2:MV K mg)(A6:UL K mg)(aR:bQ K C "enter" "Library.enter" cC JU f1 g1)(aO:bQ K C "change" "Library.change" cS G4 f2 g2)(lN:aC K mg "moved_items" nu SR fc gc)(jZ:aC K mg "parted" sS G7 fp gp):aF P w K mg zt bI 6 f fd Wf (RE C CS CW CB):=by
 obtain⟨LM,_⟩:=X;have cG:aF P w K mg zt bI 5 _ _ G4 (qt C CS):=eU aO.F LM A1 A2 aR;obtain⟨M,⟨fi,aJ⟩,nw,ns,G3,nk,nd,Gs,G⟩:=LM;obtain⟨⟨_,_,d1⟩,⟨_,_,d2⟩,⟨_,_,bh⟩,⟨_,_,d4⟩,⟨_,_,d7⟩,⟨_,_,bS⟩,⟨_,_,d9⟩⟩:=A1;have dm:aF P w K mg zt bI 4 _ _ lY (vc CS):=iH bS.F M d2 d4 d7;have cj:aF P w K mg zt bI 2 _ _ Eh (oY CS):=dZ bh.F M d1;obtain⟨T,⟨fj,bZ⟩,n1,n2⟩:=M;obtain⟨⟨_,_,i1⟩,⟨_,_,i2⟩,⟨_,_,i3⟩,⟨_,_,i4⟩,⟨_,_,i5⟩,⟨_,_,i6⟩,⟨_,_,i7⟩,⟨_,_,i8⟩,⟨_,_,i9⟩,⟨_,_,SI⟩,⟨_,_,Rz⟩,⟨_,_,i12⟩,⟨_,_,UM⟩,⟨_,_,i14⟩⟩:=A6;have GB:aF P w K mg zt bI 4 _ _ SR xK:=CY lN.F T i1 i2 i3 i4 i5 i6 i7 i8 i9 SI Rz i12 jZ UM;refine iZ F wj λdP A zn s0 H vs Q E hr h=>?_;obtain⟨U,x,pe,aB,aS,nW,cF,s,a,b,to,rows,rfl,LB,hl,l1,l2,l3,fs,fa,fb,fo,ia,k2⟩:=h;obtain⟨S,SW,d,wl,sh,bl,kn,du,bk,dS,st,op,dw,sg,ow,pw,db,tb,ops,LU⟩:=id LB;have lo:=tH LU.L hl;have hl':=iI hl;have lp:(qK pe).length=pe.length:=cR _;have ok:Lk (qK pe) ops:=⟨by lia,by lia⟩;refine⟨_,(aj (aY (eT (fO (pv 0) rfl) bZ bh cj hr ck (aa (pv 1) ah))) (aj (br (i:=5) wj.nd (aG lN GB hr (aa (ju (fO (pv 0) rfl) bZ bS dm hr ck) (aa (pv 1) (aa (pv 2) (aa (pv 3) (aa (pv 4) ah))))))) (au (aY (eT (pv 0) aJ aO cG hr ck (aa (c9 (aa bJ (aa (pv 1) (aa (pv 2) (aa (pv 3) (aa (pv 4) ah)))))) (aa (pv 1) (aa (pv 5) ah)))))))),?_⟩;refine⟨_,rfl,x,C,d,_,.ref sh,rfl,LU.L.hx,aJ.cl,ns,rfl,sh,dS,_,rfl,LU.L.W.hx,rfl,_,rfl,S,sh,dS,st,op,qK pe,ops,s,rfl,LU.L.W,by rw[lo];exact ia,?_⟩;obtain⟨f0,sn,i3,k4⟩:=k2;refine⟨_,rfl,x,C,d,_,.ref sh,rfl,LU.L.hx,aJ.cl,ns,rfl,sh,dS,_,rfl,LU.L.W.hx,rfl,S,sh,dS,st,op,qK pe,ops,rfl,LU.L.W,ok,λX0 el q H1 UI s1=>?_⟩;rw[hl']at el;cases el;have sl:s.toNat<rows.length:=by have:=ia.1;have:=ia.2;lia
 obtain⟨es,es1⟩:∃ es,rows[s.toNat]?=some es:=⟨_,tO sl⟩;refine⟨_,rfl,_,rfl,_,rfl,_,rfl,q,rows,s,a,b,to,f0,rfl,⟨UI.at_,by lia,sn.es,sn.sd,sn.rk,sn.ss,sn.ln⟩,ia.1,ia.2,i3,λzD q2 H2 ua jz s2 MY=>?_⟩;rw[es1]at ua;cases ua;obtain⟨⟨fB,B⟩,k5⟩:=k4 es es1;have t9:=s1.trans s2;have O6:=LU.same t9
 have RB:q2≠bk:=λe=>by
  have y:=(LU.same s1).L.hb;rw[← e,MY]at y;cases y
 refine⟨_,rfl,x,d,_,rfl,O6.L.hx,rfl,_,rfl,_,rfl,_,rfl,_,rfl,ZX,λt ht=>?_⟩;have s3:=ak ht (.tup [.str "move",.int s,.int a,.int b,.int to]);have Uz:(aN H2 t (.tup [.str "move",.int s,.int a,.int b,.int to])) t=some (.tup [.str "move",.int s,.int a,.int b,.int to]):=af;generalize aN H2 t (.tup [.str "move",.int s,.int a,.int b,.int to])=H3 at s3 Uz;have Cs:=t9.trans s3;have UN:=LU.same Cs;have ss:((s.toNat:Nat):Int)=s:=by have:=ia.1;lia
 refine⟨_,rfl,_,rfl,S,x,d,wl,sh,bl,kn,du,bk,dS,st,op,pe,ops,aB,t,q2,.plain mvW [s,a,b,to],s.toNat,_,rows,fB,by rw[ss];rfl,UN.L,(by show H3 t=_;rw[Uz,tS];rfl),⟨(by show sj Uv mvW=some 4;decide +kernel),?_⟩,jz.same s3,RB,hl,by lia,l1,l2,l3,B,λS' H8 L8 FH=>?_⟩
 ·intro y hy;have b1:=ia.1;have i4:=i3.1;have i5:=i3.2;unfold OW at i4;rcases List.mem_cons.mp hy with e|hy
  ·rw[e];exact⟨b1,fs.big⟩
  rcases List.mem_cons.mp hy with e|hy
  ·rw[e];exact⟨by lia,(zF.XT fa).big⟩
  rcases List.mem_cons.mp hy with e|hy
  ·rw[e];exact⟨by lia,(zF.XT fb).big⟩
  ·rw[List.mem_singleton.mp hy];exact⟨by lia,(zF.XT fo).big⟩
 ·obtain⟨U',hL',f'⟩:=UN.tK L8 FH;exact k5 U' H8 hL' (f'.pre Cs)
inductive Fc(C CS:Addr)(vs:List V)(H:Hp)(Q:VK)(E:XK):Prop
 | mk (S:Addr->Prop) (x d wl sh bl kn du bk dS st op:Addr) (pe:m8) (ops:List Int) (aB:oF) (rows:dI) (s t:Int) (f:Int->List Int) (_:vs=[.ref x,.int s,.int t]) (_:kL C CS S H x d wl sh bl kn du bk dS st op (qK pe) ops aB) (_:pe.getLast?=some rows) (_:rows.length<=50) (_:pe.length<=900) (_:wY rows.length s) (_:wY rows.length t) (_:Seen rows f) (_:(f s).length<=130) (_:(f t).length<=130) (_:∀ (q:Addr) (ts:List Addr) (H':Hp),H' q=some (.lst (ts.map V.ref))->jO H' ts (OZ (f s) (f t) (f s).length)->aK H H'->H q=none->Q (.ref q) H')
theorem AA:aL ["self","one","other"] ["self","one","other"] (aA qC):=iW
theorem zy{fS f3:Addr}{g1 g2 g3 g4 g5:FuncData}(F:iM K "common" "Library.common" qC g fd)(L:DY K mg C CS)(A1:JR K mg CS)(A4:X3 K mg fS fZ)(bW:bQ K C "shown" "Library.shown" gJ Eh f1 g1)(sJ:aC K mg "addresses" rN gY f2 g2)(Ab:aC K mg "spots" Cc ["numbers"] f3 g3)(mW:aC K mg "goes_ahead" pX G5 f4 g4)(mX:aC K mg "run_length" pY G5 f5 g5)(wZ:aC K mg "greatest" wJ ["ones","others"] f6 g6):aF P w K mg zt bI 6 g fd ["self","one","other"] (Fc C CS):=by
 have jv:aF P w K mg zt bI 5 _ _ Eh (zw C CS):=o6 bW.F L A1 A4;obtain⟨M,⟨fi,aJ⟩,nw,ns,G3,nk,nd,Gs,G⟩:=L;obtain⟨T,⟨fj,bZ⟩,n1,n2⟩:=M;have Dj:aF P w K mg zt bI 1 _ _ gY Mj:=F1 sJ.F T;have OH:aF P w K mg zt bI 2 _ _ ["ones","others"] CH:=IA wZ.F T Ab mW mX;refine iZ F AA λdP A zn s0 H vs Q E hr h=>?_;obtain⟨S,x,d,wl,sh,bl,kn,du,bk,dS,st,op,pe,ops,aB,rows,s,t,f,rfl,L,hl,l1,l2,is,it,sn,b1,b2,k⟩:=h;refine⟨_,(au (aQ (aG wZ OH hr (aa (aG sJ Dj hr (aa (eT (pv 0) aJ bW jv hr ck (aa (pv 1) ah)) ah)) (aa (aG sJ Dj hr (aa (eT (pv 0) aJ bW jv hr ck (aa (pv 2) ah)) ah)) ah))))),?_⟩;refine⟨_,rfl,x,d,_,rfl,L.hx,rfl,_,rfl,S,x,d,wl,sh,bl,kn,du,bk,dS,st,op,pe,ops,aB,rows,s,rfl,L,hl,l1,l2,is,⟨f,sn,λo H1 ho s1 fo=>?_⟩⟩;refine⟨o,_,rfl,ho,qe _,by rw[gO];lia,λn H2 hn s2 fn=>?_⟩;have t9:=s1.trans s2;have L2:=L.same t9;refine⟨_,rfl,x,d,_,rfl,L2.hx,rfl,_,rfl,S,x,d,wl,sh,bl,kn,du,bk,dS,st,op,pe,ops,aB,rows,t,rfl,L2,hl,l1,l2,it,⟨f,sn,λo' H3 GW s3 fo'=>?_⟩⟩;refine⟨o',_,rfl,GW,qe _,by rw[gO];lia,λn' H4 Vd s4 fn'=>?_⟩;have s34:=s3.trans s4;rw[gO]at hn Vd;exact⟨n,n',_,_,rfl,s34 _ _ hn,Vd,b1,b2,λq ts H5 hq tr s5 fq=>k q ts H5 hq tr (t9.trans (s34.trans s5)) (aX (t9.trans s34) fq)⟩
def YI(xs ys:List Int)(i j:Nat):Bool:=decide (xs[i]?=ys[j]?)&&!Uh xs ys i j
theorem OI{xs ys:List Int}{i:Nat}(il:i<xs.length)(j:Nat):xm xs ys i (AU xs[i] ys (j+1))=xm xs ys i (AU xs[i] ys j)++if YI xs ys i j=true then [XC xs ys i j] else []:=by
 unfold xm YI;rw[CC,List.filter_append,j0,tO il];by_cases c:ys[j]?=some xs[i]
 ·rw[if_pos c,c]
  cases e:Uh xs ys i j <;> simp[e]
 ·rw[if_neg c];have:¬ some xs[i]=ys[j]?:=λz=>c z.symm;simp[this]
def aer:TS:=λD σ H=>∃ (a b:Addr) (xs ys:List Int) (i j:Nat) (s2 s6:Option V),σ=[some (.ref a),some (.ref b),s2,some (.int i),some (.int j),some (.bl (decide (xs[i]?=ys[j]?))),s6]/\H a=some (.lst (xs.map V.int))/\H b=some (.lst (ys.map V.int))/\i<xs.length/\j<ys.length/\D.nx [some (.ref a),some (.ref b),s2,some (.int i),some (.int j),some (.bl (YI xs ys i j)),s6] H
def aes:TS:=λD σ H=>∃ (a b:Addr) (xs ys:List Int) (i j:Nat) (s2:Option V) (B:Bool),σ=[some (.ref a),some (.ref b),s2,some (.int i),some (.int j),some (.bl B),some (.int 0)]/\H a=some (.lst (xs.map V.int))/\H b=some (.lst (ys.map V.int))/\i<xs.length/\j<ys.length/\D.nx [some (.ref a),some (.ref b),s2,some (.int i),some (.int j),some (.bl B),some (.int (if B=true then (cp (xs.drop i) (ys.drop j):Nat) else 0:Nat))] H
inductive A7(vs:List V)(H:Hp)(Q:VK)(E:XK):Prop
 | mk (a b:Addr) (xs ys:List Int) (_:vs=[.ref a,.ref b]) (_:H a=some (.lst (xs.map V.int))) (_:H b=some (.lst (ys.map V.int))) (_:xs.length<=130) (_:ys.length<=130) (_:∀ (q:Addr) (ts:List Addr) (H':Hp),H' q=some (.lst (ts.map V.ref))->jO H' ts (OZ xs ys xs.length)->aK H H'->H q=none->Q (.ref q) H')
theorem iJ:aL ["_law_ones","_law_others","_law_due","_law_here","_law_there","_law_begins","_law_many"] ["_law_ones","_law_others"] (aA uO):=iW
theorem D7{f:Addr}(F:iM K "_law_common" "_law_common" uO f fd)(T:m7 mg):aF P w K mg zt bI 1 f fd ["_law_ones","_law_others"] A7:=by
 refine iZ F iJ λdP A zn s H vs Q E hr h=>?_;obtain⟨a,b,xs,ys,rfl,ha,hb,la,lb,k⟩:=h;refine⟨_,(aj (br (i:=2) iJ.nd (bK ah)) (aj (eL PassesOwn.never rfl (oN rfl T.pJ (aa (iF T.iz (pv 0)) ah)) (cy (i:=3) iJ.nd) (au (eL PassesOwn.never rfl (oN rfl T.pJ (aa (iF T.iz (pv 1)) ah)) (cy (i:=4) iJ.nd) (aj (br (i:=5) iJ.nd (lZ gj (aW bL (pv 0) (pv 3)) (aW bL (pv 1) (pv 4)) (bw _))) (aj (Cg (t':=aer) (bV (PW.pt (rK (ng (pv 5) (λ_=>rfl)) (rK (aZ BW (pv 3) ay (bw _)) (qN (aZ BW (pv 4) ay (bw _)))))) (au (br (i:=5) iJ.nd (lZ Ht (aW bL (pv 0) (bx cW (pv 3) ay)) (aW bL (pv 1) (bx cW (pv 4) ay)) (bw _)))) bu) ?b1) (aj (br (i:=6) iJ.nd ay) (aj (Cg (t':=aes) (vQ PassesOwn.never (PW.pt (rK (ng (pv 5) (λ_=>rfl)) (rK (aZ rL (bx cZ (pv 3) (pv 6)) (iF T.iz (pv 0)) (bw _)) (qN (aZ rL (bx cZ (pv 4) (pv 6)) (iF T.iz (pv 1)) (bw _)))))) (aj (bV (aZ Ht (aW bL (pv 0) (bx cZ (pv 3) (pv 6))) (aW bL (pv 1) (bx cZ (pv 4) (pv 6))) (bw _)) (au Pn) bu) (au (br (i:=6) iJ.nd (bx cZ (pv 6) ay))))) ?b3) (au (bV (ng (pv 5) (λ_=>rfl)) (au (aY (gx vJ qy qz cB (pv 2) (aa (c9 (aa (pv 3) (aa (pv 4) (aa (pv 6) ah)))) ah)))) bu))))))))) (au (aQ (pv 2))))),?_⟩
 case b1 =>
  rintro D σ H ⟨a,b,xs,ys,i,j,s2,s6,rfl,ha,hb,il,jl,k⟩;refine⟨_,rfl,_,rfl,?_⟩;unfold YI Uh at k;by_cases c0:xs[i]?=ys[j]?
  ·rw[decide_eq_true c0]at k ⊢;refine dQ (λ_=>?_) (λc=>absurd rfl c);refine⟨_,rfl,_,_,rfl,rfl,_,rfl,?_⟩;by_cases c1:0<i
   ·rw[decide_eq_true (show (0:Int)<(i:Int) by lia)];refine dQ (λ_=>?_) (λc=>absurd rfl c);refine⟨_,rfl,_,_,rfl,rfl,_,rfl,?_⟩;by_cases c2:0<j
    ·rw[decide_eq_true (show (0:Int)<(j:Int) by lia)];refine j3 ?_;have e1:(i:Int)-1=((i-1:Nat):Int):=by lia
     have e2:(j:Int)-1=((j-1:Nat):Int):=by lia
     have i1:i-1<xs.length:=by lia
     have j1:j-1<ys.length:=by lia
     refine⟨_,rfl,_,rfl,_,_,rfl,rfl,a,_,_,_,rfl,rfl,bM.of ha,(by rw[e1];exact tU i1),_,rfl,_,rfl,_,_,rfl,rfl,b,_,_,_,rfl,rfl,bM.of hb,(by rw[e2];exact tU j1),rfl,?_⟩;rw[decide_eq_true c1,decide_eq_true c2,tO i1,tO j1]at k;have k':D.nx [some (.ref a),some (.ref b),s2,some (.int i),some (.int j),some (.bl (!decide (V.int xs[i-1]=V.int ys[j-1]))),s6] H:=by simpa using k
     exact k'
    ·rw[decide_eq_false (show ¬ (0:Int)<(j:Int) by lia)];rw[decide_eq_false c2,Bool.false_and,Bool.and_false]at k;exact gH k
   ·rw[decide_eq_false (show ¬ (0:Int)<(i:Int) by lia)];rw[decide_eq_false c1,Bool.false_and]at k;exact gH (gH k)
  ·rw[decide_eq_false c0]at k ⊢;exact gH (gH k)
 case b3 =>
  rintro D σ H ⟨a,b,xs,ys,i,j,s2,B,rfl,ha,hb,il,jl,k⟩
  cases B with
  | false=>exact⟨λm σ H2=>m=0/\σ=[some (.ref a),some (.ref b),s2,some (.int i),some (.int j),some (.bl false),some (.int 0)]/\H2=H,⟨0,rfl,rfl,rfl⟩,by rintro m σ H2 ⟨rfl,rfl,rfl⟩;exact⟨_,rfl,_,rfl,gH (gH k)⟩⟩
  | true =>
   rw[if_pos rfl]at k;obtain⟨c,hc⟩:∃ c,c=cp (xs.drop i) (ys.drop j):=⟨_,rfl⟩;rw[← hc]at k;have cl:=KR (xs.drop i) (ys.drop j);rw[← hc,sO,sO]at cl;refine⟨λm σ H2=>∃ n:Nat,σ=[some (.ref a),some (.ref b),s2,some (.int i),some (.int j),some (.bl true),some (.int n)]/\H2=H/\n<=c/\m=c-n,⟨_,0,rfl,rfl,qA _,rfl⟩,?_⟩;rintro m σ H2 ⟨n,rfl,rfl,nc,rfl⟩;have key:=QT (xs.drop i) (ys.drop j) n (by rw[← hc];exact nc);rw[← hc,List.getElem?_drop,List.getElem?_drop]at key;have e1:(i:Int)+n=((i+n:Nat):Int):=by lia
   have e2:(j:Int)+n=((j+n:Nat):Int):=by lia
   have lQ:¬ n<c->D.nx [some (.ref a),some (.ref b),s2,some (.int i),some (.int j),some (.bl true),some (.int n)] H2:=λz=>by
    have e:n=c:=by lia
    rw[e];exact k
   refine⟨_,rfl,_,rfl,j3 ?_⟩;refine⟨_,rfl,_,rfl,_,_,rfl,rfl,_,rfl,a,_,rfl,.inl (bM.of ha),_,_,rfl,rfl,_,rfl,?_⟩;by_cases l1:i+n<xs.length
   rotate_left
   ·rw[decide_eq_false (by rw[cR];lia)];exact gH (gH (lQ λz=>by obtain⟨x,x1,_⟩:=key.mp z;exact l1 (List.getElem?_eq_some_iff.mp x1).1))
   rw[decide_eq_true (by rw[cR];lia)];refine dQ (λ_=>?_) (λc=>absurd rfl c);refine⟨_,rfl,_,rfl,_,_,rfl,rfl,_,rfl,b,_,rfl,.inl (bM.of hb),_,_,rfl,rfl,_,rfl,?_⟩;by_cases l2:j+n<ys.length
   rotate_left
   ·rw[decide_eq_false (by rw[cR];lia)];exact gH (lQ λz=>by obtain⟨x,_,x2⟩:=key.mp z;exact l2 (List.getElem?_eq_some_iff.mp x2).1)
   rw[decide_eq_true (by rw[cR];lia)];refine j3 ?_;refine⟨fun σ' H'=>∃ m',m'<c-n/\∃ n:Nat,σ'=[some (.ref a),some (.ref b),s2,some (.int i),some (.int j),some (.bl true),some (.int n)]/\H'=H2/\n<=c/\m'=c-n,fun σ' H' z=>z,?_⟩;refine⟨_,rfl,_,rfl,_,rfl,_,_,rfl,rfl,a,_,_,_,rfl,rfl,bM.of ha,(by rw[e1];exact tU l1),_,rfl,_,rfl,_,rfl,_,_,rfl,rfl,b,_,_,_,rfl,rfl,bM.of hb,(by rw[e2];exact tU l2),rfl,_,rfl,?_⟩;rw[tO l1,tO l2]at key;by_cases e:xs[i+n]=ys[j+n]
   ·have lt:n<c:=key.mpr ⟨_,rfl,congrArg some e.symm⟩;rw[decide_eq_true (congrArg V.int e)];exact gH ⟨_,rfl,_,_,rfl,rfl,c-(n+1),by lia,n+1,rfl,rfl,by lia,rfl⟩
   ·rw[decide_eq_false λz=>e (V.int.inj z)];exact j3 (lQ λz=>by obtain⟨x,x1,x2⟩:=key.mp z;exact e (uG (x1.trans x2.symm)))
 refine⟨lF,λq hq=>?_⟩;have s0:aK H (aN H q (.lst [])):=ak hq _;have OV:(aN H q (.lst [])) q=some (.lst []):=af;generalize aN H q (.lst [])=H1 at s0 OV;have aq:a≠q:=az ha hq;have bq:b≠q:=az hb hq;have ha1:=s0 _ _ ha;have Ir:=s0 _ _ hb;refine⟨_,rfl,a,_,rfl,.inl (bM.of ha1),_,rfl,by lia,by rw[cR];lia,?_⟩;rw[cR];refine rC (lo:=0) (n:=((xs.length:Nat):Int).toNat) (λi σ H3=>∃ (ts:List Addr) (u3 u4 u5 u6:Option V),σ=[some (.ref a),some (.ref b),some (.ref q),u3,u4,u5,u6]/\H3 q=some (.lst (ts.map V.ref))/\jO H3 ts (OZ xs ys i)/\cN q H1 H3) ⟨[],none,none,none,none,rfl,OV,.nil,cN.refl _ _⟩ ?_ ?_
 ·rintro i σ H3 hi ⟨ts,u3,u4,u5,u6,rfl,ES,tr,k3⟩;have il:i<xs.length:=by lia
  rw[Int.zero_add];have gn:xs.getD i 0=xs[i]:=by rw[Fl,tO il];rfl
  have hb3:=k3 _ _ Ir bq;refine⟨_,rfl,b,_,rfl,.inl (bM.of hb3),_,rfl,by lia,by rw[cR];lia,?_⟩;rw[cR];refine rC (lo:=0) (n:=((ys.length:Nat):Int).toNat) (λj σ H4=>∃ (ts:List Addr) (u4 u5 u6:Option V),σ=[some (.ref a),some (.ref b),some (.ref q),some (.int (i:Int)),u4,u5,u6]/\H4 q=some (.lst (ts.map V.ref))/\jO H4 ts (OZ xs ys i++xm xs ys i (AU xs[i] ys j))/\cN q H1 H4) ⟨ts,u4,u5,u6,rfl,ES,by simpa [AU,xm] using tr,k3⟩ ?_ ?_
  ·rintro j σ H4 hj ⟨ts,u4,u5,u6,rfl,IK,tr4,k4⟩;have jl:j<ys.length:=by lia
   have ha4:=k4 _ _ ha1 aq;have Sw:=k4 _ _ Ir bq;rw[Int.zero_add];refine⟨_,rfl,_,rfl,a,_,_,_,rfl,rfl,bM.of ha4,tU il,_,rfl,_,rfl,b,_,_,_,rfl,rfl,bM.of Sw,tU jl,rfl,?_⟩;refine⟨a,b,xs,ys,i,j,some (.ref q),u6,?_,ha4,Sw,il,jl,?_⟩
   ·rw[tO il,tO jl];rw[show decide (some xs[i]=some ys[j])=decide (V.int xs[i]=V.int ys[j]) by rw[Bool.eq_iff_iff];simp];rfl
   refine⟨a,b,xs,ys,i,j,some (.ref q),YI xs ys i j,rfl,ha4,Sw,il,jl,?_⟩;refine⟨_,rfl,_,rfl,?_⟩;have st:=OI (ys:=ys) il j
   cases e:YI xs ys i j with
   | false =>
    rw[e,if_neg (by decide),jH]at st;exact gH ⟨ts,_,_,_,rfl,IK,by rw[st];exact tr4,k4⟩
   | true =>
    rw[e,if_pos rfl]at st
    have len:ts.length<=20000:=by
     have l1:=Paired.length tr4;have l2:=F3 xs ys i;have l3:=CG xs ys i (AU xs[i] ys j);have l4:=BF xs[i] ys j;rw[dH]at l1;have l5:=Nat.mul_le_mul (show i<=130 by lia) lb;lia
    refine j3 ⟨_,rfl,.inl ⟨rfl,_,bM.of IK⟩,_,rfl,_,rfl,_,rfl,QS,λt ht=>⟨q,_,_,rfl,rfl,ak ht _ _ _ IK,(by rw[cR];exact aV (by lia)),?_⟩⟩;have k7:cN q H4 (aN (aN H4 t (.tup [.int i,.int j,.int (cp (xs.drop i) (ys.drop j):Nat)])) q (.lst (ts.map V.ref++[.ref t]))):=λb o e n=>aM q _ _ b o (ak ht _ b o e) n;have tq:t≠q:=(az IK ht).symm;refine⟨ts++[t],_,_,_,rfl,by rw[af,j0];rfl,?_,λb o e n=>k7 b o (k4 b o e n) n⟩;rw[st,← qL];refine vX (tr4.tups λb zs e=>k7 b _ e (dF e IK)) ?_;show aN _ q _ t=_;rw[aH tq,af];rfl
  ·rintro σ H4 ⟨ts,u4,u5,u6,rfl,IK,tr4,k4⟩;refine⟨ts,_,_,_,_,rfl,IK,?_,k4⟩;rw[CF,QU,gn];exact tr4
 ·rintro σ H3 ⟨ts,u3,u4,u5,u6,rfl,ES,tr,k3⟩;exact⟨_,rfl,k q ts H3 ES tr (bX hq s0 k3) hq⟩
theorem GC{α β:Type}{F:α->β->Prop}{xs:List α}{ys:List β}{x:α}{y:β}(h:Paired F xs ys)(e:F x y):Paired F (xs++[x]) (ys++[y]):=by
 induction h with
 | nil=>exact .cons e .nil
 | cons r _ ih=>exact .cons r ih
theorem D8{α β:Type}{F:α->β->Prop}{xs xs':List α}{ys ys':List β}(h:Paired F xs ys)(t:Paired F xs' ys'):Paired F (xs++xs') (ys++ys'):=by
 induction h with
 | nil=>exact t
 | cons e _ ih=>exact .cons e ih
def Fd(H:Hp)(a:Addr)(q:Int × Nat):Prop:=H a=some (.tup [.int q.1,JO q.2])
inductive GD(H:Hp)(v:Addr)(aS:mP):Prop
 | mk (as:List Addr) (_:H v=some (.lst (as.map V.ref))) (_:Paired (Fd H) as aS)
abbrev kI:iy:=.inr (Str.ofString "ink")
abbrev kR:iy:=.inr (Str.ofString "rows")
abbrev kP:iy:=.inr (Str.ofString "past")
abbrev kVl:iy:=.inr (Str.ofString "veil")
abbrev xQ(ik rw ps vl:Addr):List (iy × V):=[(kI,.ref ik),(kR,.ref rw),(kP,.ref ps),(kVl,.ref vl)]
def VR(W:Addr->Prop)(ik ps:Addr)(H:Hp)(v:V)(es:List Int):Prop:=∃ b,v=.ref b/\W b/\b≠ik/\b≠ps/\H b=some (.lst (es.map V.int))
def OJ(W:Addr->Prop)(ik ps:Addr)(H:Hp)(a:Addr)(rows:dI):Prop:=W a/\a≠ik/\a≠ps/\∃ vs,H a=some (.lst vs)/\cE (VR W ik ps H) vs rows
structure M0(W:Addr->Prop)(H:Hp)(w ik rw ps vl:Addr)(aS:mP)(pe:m8)(rows:dI):Prop where
 ww:W w
 wi:W ik
 wp:W ps
 wv:W vl
 al:∀ a,W a->∃ ob,H a=some ob
 hw:H w=some (.dK (xQ ik rw ps vl))
 hi:GD H ik aS
 hr:OJ W ik ps H rw rows
 hp:∃ vs,H ps=some (.lst vs)/\cE (λv rs=>∃ a,v=.ref a/\OJ W ik ps H a rs) vs pe
 ne:ik≠ps
 lst:pe.getLast?=some rows
def Wo(W:Addr->Prop)(H:Hp)(w:Addr)(aS:mP)(pe:m8)(rows:dI):Prop:=∃ ik rw ps vl,M0 W H w ik rw ps vl aS pe rows
theorem VR.fr{W W':Addr->Prop}{ik:Addr}{H H':Hp}{v:V}{es:List Int}(s:∀ a,W a->W' a)(k:∀ a xs,H a=some (.lst xs)->W a->a≠ik->a≠ps->H' a=some (.lst xs)):VR W ik ps H v es->VR W' ik ps H' v es:=λ⟨b,e,w,n1,n2,h⟩=>⟨b,e,s _ w,n1,n2,k _ _ h w n1 n2⟩
theorem OJ.fr{W W':Addr->Prop}{ik:Addr}{H H':Hp}{a:Addr}{rows:dI}(s:∀ a,W a->W' a)(k:∀ a xs,H a=some (.lst xs)->W a->a≠ik->a≠ps->H' a=some (.lst xs)):OJ W ik ps H a rows->OJ W' ik ps H' a rows:=λ⟨w,n1,n2,vs,h,al⟩=>⟨s _ w,n1,n2,vs,k _ _ h w n1 n2,al.mono λ_ _=>VR.fr s k⟩
theorem GD.two{H H':Hp}{aS:mP}(h:GD H v aS)(k:∀ xs,H v=some (.lst xs)->H' v=some (.lst xs))(t:∀ a xs,H a=some (.tup xs)->H' a=some (.tup xs)):GD H' v aS:=by
 obtain⟨as,hv,pa⟩:=h;exact⟨as,k _ hv,Paired.Hg pa λa q e=>t _ _ e⟩
theorem M0.fr{W:Addr->Prop}{H H':Hp}{w ik rw:Addr}{aS:mP}{pe:m8}{rows:dI}(h:M0 W H w ik rw ps vl aS pe rows)(k:∀ a ob,H a=some ob->W a->H' a=some ob)(t:∀ a xs,H a=some (.tup xs)->H' a=some (.tup xs)):M0 W H' w ik rw ps vl aS pe rows:=by
 obtain⟨ww,wi,wp,wv,al,hw,hi,hr,⟨vs,hp,a2⟩,ne,lst⟩:=h;refine⟨ww,wi,wp,wv,λa z=>?_,k _ _ hw ww,hi.two (λxs e=>k _ _ e wi) t,hr.fr (λ_ z=>z) (λa xs e z _ _=>k _ _ e z),⟨vs,k _ _ hp wp,a2.mono λv rs ⟨a,e,z⟩=>⟨a,e,z.fr (λ_ y=>y) (λa xs e y _ _=>k _ _ e y)⟩⟩,ne,lst⟩;obtain⟨ob,e⟩:=al a z;exact⟨ob,k _ _ e z⟩
theorem Wo.fr{W:Addr->Prop}{H H':Hp}{w:Addr}{aS:mP}{pe:m8}{rows:dI}(h:Wo W H w aS pe rows)(k:∀ a ob,H a=some ob->W a->H' a=some ob)(t:∀ a xs,H a=some (.tup xs)->H' a=some (.tup xs)):Wo W H' w aS pe rows:=by
 obtain⟨ik,rw,ps,vl,z⟩:=h;exact⟨ik,rw,ps,vl,z.fr k t⟩
def M4:Sp:=λvs H Q _=>vs=[]/\∀ (W:Addr->Prop) (w:Addr) (H':Hp),Wo W H' w [] [[]] []->(∀ a,W a->H a=none)->aK H H'->Q (.ref w) H'
theorem GF:aL [] [] (aA sV):=iW
theorem aaO{X:Cx}{s1 s2 s3 s4:Str}{a1 a2 a3 a4:Nat}{p1 p2 p3 p4 pos:Pos}{v1 v2 v3 v4:Expr}{t1 t2 t3 t4:TE}(h1:PE X v1 t1)(h2:PE X v2 t2)(h3:PE X v3 t3)(h4:PE X v4 t4) :
  PE X (.Dict [some (.Constant (.str s1) a1 p1),some (.Constant (.str s2) a2 p2),some (.Constant (.str s3) a3 p3),some (.Constant (.str s4) a4 p4)] [v1,v2,v3,v4] pos) (QA [(tC (.str s1),t1),(tC (.str s2),t2),(tC (.str s3),t3),(tC (.str s4),t4)]) :=
 T6 (yU bJ h1 (yU bJ h2 (yU bJ h3 (yU bJ h4 T5)))) rfl rfl (by simp) (by show 4<=15;decide)
abbrev tWo:TE:=QA [(tC (.str "ink"),Ny B3),(tC (.str "rows"),Ny B3),(tC (.str "past"),Ny (PB (Ny B3) B3)),(tC (.str "veil"),Ny B3)]
theorem RG:∃ (e:Expr) (p:Pos),ni sV=[.Return (some e) p]/\∀ X:Cx,PE X e tWo :=
 ⟨_,_,rfl,λX=>@aaO X _ _ _ _ _ _ _ _ _ _ _ _ _ _ _ _ _ _ _ _ _ (bK ah) (bK ah) (bK (aa (bK ah) ah)) (bK ah)⟩
theorem GG{f:Addr}(F:iM K "_law_world" "_law_world" sV f fd):aF P w K mg zt bI 1 f fd [] M4:=by
 refine iZ F GF λdP A zn s H vs Q E hr h=>?_;obtain⟨rfl,k⟩:=h;obtain⟨e,p,he,pw⟩:=RG;rw[he];refine⟨_,au (aQ (pw _)),?_⟩;intro w hw;refine⟨lF,λik JS=>⟨lF,λrw hrw=>⟨lF,λz hz=>⟨rV,λps UO=>⟨lF,λvl X8=>?_⟩⟩⟩⟩⟩;have s0:=ak hw (.dK []);have w0:(aN H w (.dK [])) w=some (.dK []):=af;generalize aN H w (.dK [])=H0 at s0 w0 JS hrw hz UO X8;have s1:=ak JS (.lst []);have i1:(aN H0 ik (.lst [])) ik=some (.lst []):=af;generalize aN H0 ik (.lst [])=H1 at s1 i1 hrw hz UO X8;have s2:=ak hrw (.lst []);have r2:(aN H1 rw (.lst [])) rw=some (.lst []):=af;generalize aN H1 rw (.lst [])=H2 at s2 r2 hz UO X8;have s3:=ak hz (.lst []);have z3:(aN H2 z (.lst [])) z=some (.lst []):=af;generalize aN H2 z (.lst [])=H3 at s3 z3 UO X8;have s4:=ak UO (.lst [.ref z]);have p4:(aN H3 ps (.lst [.ref z])) ps=some (.lst [.ref z]):=af;generalize aN H3 ps (.lst [.ref z])=H4 at s4 p4 X8;have s5:=ak X8 (.lst []);have v5:(aN H4 vl (.lst [])) vl=some (.lst []):=af;generalize aN H4 vl (.lst [])=H5 at s5 v5;have RD:aK H1 H5:=s2.trans (s3.trans (s4.trans s5));have s05:aK H0 H5:=s1.trans RD;have w5:=s05 _ _ w0;have i5:=RD _ _ i1;have r5:=(s3.trans (s4.trans s5)) _ _ r2;have z5:=(s4.trans s5) _ _ z3;have p5:=s5 _ _ p4;have nl:∀ {a:Addr} {xs:List V},H5 a=some (.lst xs)->a≠w:=λ{a xs} e q=>by rw[q,w5]at e;cases e
 have n1:rw≠ik:=(az i1 hrw).symm;have n2:rw≠ps:=az (s3 _ _ r2) UO;have n3:z≠ik:=(az (s2 _ _ i1) hz).symm;have n4:z≠ps:=az z3 UO;have n5:ik≠ps:=az ((s2.trans s3) _ _ i1) UO;refine⟨w5,xQ ik rw ps vl,rfl,(by show 4<=15;decide),?_⟩;rw[show zT [] (xQ ik rw ps vl)=xQ ik rw ps vl by kernel_rfl];have up:∀ {a:Addr} {xs:List V},H5 a=some (.lst xs)->(aN H5 w (.dK (xQ ik rw ps vl))) a=some (.lst xs):=λ{a xs} e=>by rw[aH (nl e)];exact e
 have f0:∀ a,H0 a=none->H a=none:=λa e=>aX s0 e;refine k (λa=>a=w\/a=ik\/a=rw\/a=z\/a=ps\/a=vl) w _ ⟨ik,rw,ps,vl,.inl rfl,.inr (.inl rfl),.inr (.inr (.inr (.inr (.inl rfl)))),.inr (.inr (.inr (.inr (.inr rfl)))),λa e=>?_,af,⟨[],up i5,.nil⟩,⟨.inr (.inr (.inl rfl)),n1,n2,[],up r5,.nil⟩,⟨[.ref z],up p5,.cons ⟨z,rfl,.inr (.inr (.inr (.inl rfl))),n3,n4,[],up z5,.nil⟩ .nil⟩,n5,rfl⟩ (λa e=>?_) (bX hw (s0.trans s05) (aM w _ _))
 ·rcases e with rfl|rfl|rfl|rfl|rfl|rfl
  ·exact⟨_,af⟩
  ·exact⟨_,up i5⟩
  ·exact⟨_,up r5⟩
  ·exact⟨_,up z5⟩
  ·exact⟨_,up p5⟩
  ·exact⟨_,up v5⟩
 ·rcases e with rfl|rfl|rfl|rfl|rfl|rfl
  ·exact hw
  ·exact f0 _ JS
  ·exact f0 _ (aX s1 hrw)
  ·exact f0 _ (aX s1 (aX s2 hz))
  ·exact f0 _ (aX s1 (aX s2 (aX s3 UO)))
  ·exact f0 _ (aX s1 (aX s2 (aX s3 (aX s4 X8))))
inductive GH(vs:List V)(H:Hp)(Q:VK)(E:XK):Prop
 | mk (W:Addr->Prop) (w r:Addr) (aS:mP) (pe:m8) (rows rows':dI) (_:vs=[.ref w,.ref r]) (_:Wo W H w aS pe rows) (_:pe.length<=1000) (_:(∀ ik ps,(∃ rw vl,H w=some (.dK (xQ ik rw ps vl)))->OJ W ik ps H r rows')) (_: ∀ (H':Hp),Wo W H' w aS (pe++[rows']) rows'->(∀ a ob,H a=some ob->¬ W a->H' a=some ob)->(∀ a xs,H a=some (.tup xs)->H' a=some (.tup xs))->(∀ ik rw ps vl,H w=some (.dK (xQ ik rw ps vl))->∀ a xs,H a=some (.lst xs)->a≠ps->H' a=some (.lst xs))->Q .jj H')
theorem Jp:aL ["_law_world_here","_law_rows"] ["_law_world_here","_law_rows"] (aA oS):=iW
theorem wm{f:Addr}(F:iM K "_law_keep" "_law_keep" oS f fd):aF P w K mg zt bI 1 f fd JW GH:=by
 refine iZ F Jp λdP A zn s H vs Q E hr h=>?_;obtain⟨W,w,r,aS,pe,rows,rows',rfl,⟨ik,rw,ps,vl,h⟩,lp,hr',k⟩:=h;have hu:=lO hr;refine⟨_,(aj (yT hu (pv 0) bJ (pv 1) rfl) (au (aY (gx vJ qy qz cB (jR hu (pv 0) bJ) (aa (pv 1) ah))))),?_⟩;have MA:=hr' ik ps ⟨rw,vl,h.hw⟩;refine⟨_,rfl,_,rfl,w,_,rfl,FL.k (k:=kR) h.hw (by show 4<sizeLine;decide),?_⟩;rw[show gQ (xQ ik rw ps vl) kR (.ref r)=xQ ik r ps vl by kernel_rfl];obtain⟨YJ,hp,al⟩:=h.hp;have k1:=aM w H (.dK (xQ ik r ps vl));have w1:(aN H w (.dK (xQ ik r ps vl))) w=some (.dK (xQ ik r ps vl)):=af;have nw:∀ {a:Addr} {o:HO},H a=some o->(∀ kvs,o≠.dK kvs)->a≠w:=λ{a o} e n q=>by rw[q,h.hw]at e;cases e;exact n _ rfl
 generalize aN H w (.dK (xQ ik r ps vl))=H1 at k1 w1;have Rt:=k1 _ _ hp (nw hp (λ_ z=>by cases z));have z:=lD.k (k:=kP) w1;rw[show cU (xQ ik r ps vl) kP=some (.ref ps) by kernel_rfl]at z;have lpv:YJ.length=pe.length:=al.len;refine⟨_,rfl,w,_,rfl,z,.inl ⟨rfl,_,bM.of Rt⟩,_,rfl,ps,_,_,rfl,rfl,Rt,aV (by lia),?_⟩;have nps:w≠ps:=(nw hp (λ_ z=>by cases z)).symm
 have ls:∀ a xs,H a=some (.lst xs)->a≠ps->(aN H1 ps (.lst (YJ++[.ref r]))) a=some (.lst xs):=λa xs e n=>by
  rw[aH n];exact k1 _ _ e (nw e (λ_ z=>by cases z))
 have tp:∀ a xs,H a=some (.tup xs)->(aN H1 ps (.lst (YJ++[.ref r]))) a=some (.tup xs):=λa xs e=>by
  rw[aH (dF e hp)];exact k1 _ _ e (nw e (λ_ z=>by cases z))
 have rwf:∀ {a:Addr} {rs:dI},OJ W ik ps H a rs->OJ W ik ps (aN H1 ps (.lst (YJ++[.ref r]))) a rs:=λ{a rs} q=>q.fr (λ_ y=>y) λa xs e _ _ n=>ls a xs e n;have Oa:=rwf MA
 refine k _ ⟨ik,r,ps,vl,h.ww,h.wi,h.wp,h.wv,λa wa=>?_,?_,h.hi.two (λxs e=>ls _ _ e h.ne) tp,Oa,⟨_,af,(al.mono λv rs ⟨a,e,q⟩=>⟨a,e,rwf q⟩).app (.cons ⟨r,rfl,Oa⟩ .nil)⟩,h.ne,vM⟩ (λa ob e n=>?_) tp λik' rw2 za vl' ee a xs e n=>ls a xs e (by
  rw[h.hw]at ee;simp only[Option.some.injEq,HO.dK.injEq,xQ,List.cons.injEq,Prod.mk.injEq,V.ref.injEq,true_and,and_true]at ee;rw[ee.2.2.1]
  exact n)
 ·by_cases e1:a=ps
  ·rw[e1];exact⟨_,af⟩
  rw[aH e1];by_cases e2:a=w
  ·rw[e2];exact⟨_,w1⟩
  ·obtain⟨ob,e⟩:=h.al a wa;exact⟨ob,k1 _ _ e e2⟩
 ·rw[aH nps];exact w1
 ·rw[aH (λq=>n (by rw[q];exact h.wp))];exact k1 _ _ e (λq=>n (by rw[q];exact h.ww))
theorem yv.al{U:Addr->Prop}{H:Hp}{x:Addr}{pe:m8}{aB:oF}{aS:mP}{nW:Nat}{cF:Row}(h:yv C CS CW CB U H x pe aB aS nW cF){a:Addr}(z:U a):∃ ob,H a=some ob:=by
 obtain⟨S,SW,d,wl,sh,bl,kn,du,bk,dS,st,op,dw,sg,ow,pw,db,tb,ops,L,W,B,R,X4,dj,db',dt,u⟩:=h;obtain⟨as,hR,_⟩:=R;rcases (u a).mp z with y|y|y|y|y|y
 ·exact L.W.al a y
 ·exact W.al a y
 ·rw[y];exact⟨_,L.hb⟩
 ·rw[y];exact⟨_,L.hx⟩
 ·rw[y];exact⟨_,B⟩
 ·rw[y];exact⟨_,hR⟩
theorem Wo.al{W:Addr->Prop}{H:Hp}{w:Addr}{aS:mP}{pe:m8}{rows:dI}(h:Wo W H w aS pe rows){a:Addr}(z:W a):∃ ob,H a=some ob:=by
 obtain⟨ik,rw,ps,vl,y⟩:=h;exact y.al a z
structure xx(C CS CW CB:Addr)(H:Hp)(l c w x:Addr)(U W:Addr->Prop)(pe:m8)(rows:dI)(pq:m8)(rq:dI)(aB:oF)(aS:mP)(nW:Nat)(cF:Row):Prop where
 src:jC H l c
 O7:yv C CS CW CB U H x pe aB aS nW cF
 lst:pe.getLast?=some rows
 wo:Wo W H w aS pq rq
 du:∀ a,U a->¬ W a/\a≠l/\a≠c
 dw:∀ a,W a->a≠l/\a≠c
def FrS(l:Addr)(U W U' W':Addr->Prop)(H H':Hp):Prop:=(∀ a,U' a\/W' a->U a\/W a\/H a=none)/\(∀ a ob,H a=some ob->a≠l->¬ U a->¬ W a->H' a=some ob)/\∀ a xs,H a=some (.tup xs)->H' a=some (.tup xs)
theorem xx.mv{H H':Hp}{c w x:Addr}{U W:Addr->Prop}{pe:m8}{rows:dI}{pq:m8}{rq:dI}{aB:oF}{aS:mP}{nW:Nat}{cF:Row}(h:xx C CS CW CB H l c w x U W pe rows pq rq aB aS nW cF)(k:cN l H H')(s:jC H' l c):xx C CS CW CB H' l c w x U W pe rows pq rq aB aS nW cF:=by
 obtain⟨ls,hl⟩:=h.src.lst;have t:∀ a xs,H a=some (.tup xs)->H' a=some (.tup xs):=λa xs e=>k _ _ e (dF e hl);exact⟨s,h.O7.fr (λa ob e z=>k _ _ e (h.du a z).2.1) t,h.lst,h.wo.fr (λa ob e z=>k _ _ e (h.dw a z).1) t,h.du,h.dw⟩
theorem xx.same{H H':Hp}{c w x:Addr}{U W:Addr->Prop}{pe:m8}{rows:dI}{pq:m8}{rq:dI}{aB:oF}{aS:mP}{nW:Nat}{cF:Row}(h:xx C CS CW CB H l c w x U W pe rows pq rq aB aS nW cF)(s:aK H H'):xx C CS CW CB H' l c w x U W pe rows pq rq aB aS nW cF:=h.mv (λa o e _=>s a o e) (h.src.same s)
theorem RH{α:Type}{xs:List α}{v:Int}(v0:0<=v)(v1:v<xs.length):∃ x∈xs,vR xs v=some x:=by
 obtain⟨j,rfl⟩:∃ j:Nat,v=j:=⟨v.toNat,by lia⟩;have hj:j<xs.length:=by lia
 exact⟨xs[j],List.getElem_mem hj,gy (tO hj)⟩
theorem xx.VS{W W':Addr->Prop}{H:Hp}{w ik rw:Addr}{aS:mP}{pe:m8}{rows:dI}(h:M0 W H w ik rw ps vl aS pe rows)(s:∀ a,W a->W' a)(al:∀ a,W' a->∃ ob,H a=some ob):M0 W' H w ik rw ps vl aS pe rows:=by
 obtain⟨ww,wi,wp,wv,_,hw,hi,hr,⟨vs,hp,a2⟩,ne,lst⟩:=h;exact⟨s _ ww,s _ wi,s _ wp,s _ wv,al,hw,hi,hr.fr s (λa xs e _ _ _=>e),⟨vs,hp,a2.mono λv rs ⟨a,e,z⟩=>⟨a,e,z.fr s (λa xs e _ _ _=>e)⟩⟩,ne,lst⟩
theorem jC.fru{U U':Addr->Prop}{H H':Hp}{c:Addr}(S:jC H l c)(fr:Ll U U' H H')(nl:¬ U l)(nc:¬ U c):jC H' l c:=by
 obtain⟨n,ns,i,d,r,e1,e2,h3⟩:=S;exact⟨n,ns,i,d,r,fr.2.1 _ _ e1 nl,fr.2.1 _ _ e2 nc,h3⟩
theorem xx.X9{H H':Hp}{c w x:Addr}{U U' W:Addr->Prop}{pe D3:m8}{rows rows':dI}{pq:m8}{rq:dI}{aB ie:oF}{aS:mP}{nW nW':Nat}{cF VT:Row}(St:xx C CS CW CB H l c w x U W pe rows pq rq aB aS nW cF)(L':yv C CS CW CB U' H' x D3 ie aS nW' VT)(hl:D3.getLast?=some rows')(fr:Ll U U' H H'):xx C CS CW CB H' l c w x U' W D3 rows' pq rq ie aS nW' VT/\FrS l U W U' W H H':=by
 refine⟨⟨St.src.fru fr (λz=>(St.du l z).2.1 rfl) (λz=>(St.du c z).2.2 rfl),L',hl,St.wo.fr (λa ob e z=>fr.2.1 _ _ e (λy=>(St.du a y).1 z)) fr.2.2,λa z=>?_,St.dw⟩,λa z=>z.elim (λz=>(fr.1 a z).elim .inl λy=>.inr (.inr y)) (λz=>.inr (.inl z)),λa ob e _ u _=>fr.2.1 a ob e u,fr.2.2⟩;rcases fr.1 a z with y|y
 ·exact St.du a y
 ·have n:=St.src.ne y;refine⟨λz=>?_,n.1.symm,n.2.symm⟩;obtain⟨ob,e⟩:=St.wo.al z;rw[y]at e;cases e
theorem xx.kept{H H':Hp}{c w x:Addr}{U W W':Addr->Prop}{pe:m8}{rows:dI}{pq pq':m8}{rq rq':dI}{aB:oF}{aS:mP}{nW:Nat}{cF:Row}(St:xx C CS CW CB H l c w x U W pe rows pq rq aB aS nW cF)(wo:Wo W' H' w aS pq' rq')(dU:∀ a,U a->¬ W' a)(dW:∀ a,W' a->a≠l/\a≠c)(fr:∀ a ob,H a=some ob->¬ W' a->H' a=some ob)(tp:∀ a xs,H a=some (.tup xs)->H' a=some (.tup xs)):xx C CS CW CB H' l c w x U W' pe rows pq' rq' aB aS nW cF:=by
 refine⟨?_,St.O7.fr (λa ob e z=>fr _ _ e (dU a z)) tp,St.lst,wo,λa z=>⟨dU a z,(St.du a z).2⟩,dW⟩;obtain⟨n,ns,i,d,r,e1,e2,h3⟩:=St.src;exact⟨n,ns,i,d,r,fr _ _ e1 (λz=>(dW l z).1 rfl),fr _ _ e2 (λz=>(dW c z).2 rfl),h3⟩
theorem xx.new{H:Hp}{c w x a:Addr}{U W:Addr->Prop}{pe:m8}{rows:dI}{pq:m8}{rq:dI}{aB:oF}{aS:mP}{nW:Nat}{cF:Row}(St:xx C CS CW CB H l c w x U W pe rows pq rq aB aS nW cF)(h:H a=none):¬ U a/\¬ W a/\a≠l/\a≠c:=by
 have n:=St.src.ne h;refine⟨λz=>?_,λz=>?_,n.1.symm,n.2.symm⟩
 ·obtain⟨ob,e⟩:=St.O7.al z;rw[h]at e;cases e
 ·obtain⟨ob,e⟩:=St.wo.al z;rw[h]at e;cases e
def own(rows:dI)(x:Int):List Int:=(rows[x.toNat]?).getD []
theorem RI{rows:dI}{x:Int}{es:List Int}(h:rows[x.toNat]?=some es):own rows x=es:=by
 unfold own;rw[h];rfl
theorem Dk{rows:dI}{s:Nat}(es:List Int)(h:s<rows.length):lW rows s es=rows.set s es:=by
 unfold lW;rw[List.set_eq_take_append_cons_drop,if_pos h,qL];rfl
theorem Dl{k:Nat}:∀ {row:Row},(∀ p∈row,p.2<=p.1+(k:Nat))->(bN row).length<=k*row.length
 | [],_=>qA _
 | p::r,h=>by
  have ih:=Dl (row:=r) λq hq=>h q (t6 _ hq);have hp:=h p (List.mem_cons_self ..);have e:bN (p::r)=nM p++bN r:=by unfold bN;rw[mZ]
  rw[e,dH,oJ,Nat.mul_add,Nat.mul_one];have:(nM p).length<=k:=by unfold nM;rw[iN];lia
  lia
theorem Jq{n:Nat}{row:Row}(h:∀ p∈row,0<=p.1/\p.1<p.2/\p.2<=(n:Nat)){e:Int}(he:e∈bN row):0<=e/\e<(n:Nat):=by
 unfold bN at he;obtain⟨p,hp,hm⟩:=List.mem_flatMap.mp he;have b:=h p hp;have m:=Mw.mp hm;lia
inductive GI(vs:List V)(H:Hp)(Q:VK)(E:XK):Prop
 | mk (r e:Addr) (s:Nat) (xs:List V) (_:vs=[.ref r,.int (s:Nat),.ref e]) (_:H r=some (.lst xs)) (_:s<xs.length) (_:xs.length<=1000) (_:∀ (q:Addr) (H':Hp),H' q=some (.lst (xs.set s (.ref e)))->aK H H'->H q=none->Q (.ref q) H')
theorem A8:aL ["_law_rows","_law_sheet","_law_entries","_law_found"] ["_law_rows","_law_sheet","_law_entries"] (aA oU):=iW
theorem UP{n:Nat}{i:Nat}(h1:i<n):LV n ((i:Nat):Int)=some i:=by
 unfold LV;rw[if_pos (by lia),Int.toNat_natCast,if_pos (by lia)]
theorem wz{f:Addr}(F:iM K "_law_swap" "_law_swap" oU f fd)(T:m7 mg):aF P w K mg zt bI 1 f fd JV GI:=by
 refine iZ F A8 λdP A zn s0 H vs Q E hr h=>?_;obtain⟨r,e,s,xs,rfl,ou,hs,lx,k⟩:=h;refine⟨_,(aj (br (i:=3) A8.nd (iK jI rfl T.nP yI (aa (pv 0) ah))) (aj (uH (pv 2) (xW (pv 3) (pv 1) rM)) (au (aQ (pv 3))))),?_⟩;refine⟨_,rfl,r,_,rfl,.inl (bM.of ou),λq hq=>?_⟩;refine⟨_,rfl,_,rfl,_,rfl,q,_,_,s,rfl,rfl,af,UP hs,_,rfl,k q _ af (bX hq (ak hq _) (aM q _ _)) hq⟩
theorem Wo.swap{W:Addr->Prop}{H:Hp}{w ik rw q e:Addr}{aS:mP}{pq:m8}{rq:dI}{xs:List V}{s:Nat}{es:List Int}(wu:M0 W H w ik rw ps vl aS pq rq)(hx:H rw=some (.lst xs))(hq:H q=some (.lst (xs.set s (.ref e))))(he:H e=some (.lst (es.map V.int)))(nq:¬ W q)(ne:¬ W e):M0 (λa=>W a\/a=e\/a=q) H w ik rw ps vl aS pq rq/\OJ (λa=>W a\/a=e\/a=q) ik ps H q (rq.set s es):=by
 have VU:M0 (λa=>W a\/a=e\/a=q) H w ik rw ps vl aS pq rq:=xx.VS wu (λa z=>.inl z) (by
  rintro a (z|z|z)
  ·exact wu.al a z
  ·rw[z];exact⟨_,he⟩
  ·rw[z];exact⟨_,hq⟩)
 obtain⟨_,_,_,vs,hvs,al⟩:=id VU.hr;rw[hx]at hvs;cases hvs;have ne':∀ {a b:Addr},W a->¬ W b->b≠a:=λwa nb z=>nb (by rw[z];exact wa);refine⟨VU,.inr (.inr rfl),ne' wu.wi nq,ne' wu.wp nq,_,hq,?_⟩
 have key:∀ {vs:List V} {rs:dI} (s:Nat),cE (VR (λa=>W a\/a=e\/a=q) ik ps H) vs rs->cE (VR (λa=>W a\/a=e\/a=q) ik ps H) (vs.set s (.ref e)) (rs.set s es):=by
  intro vs rs s z
  induction z generalizing s with
  | nil=>exact .nil
  | cons o t ih =>
   cases s with
   | zero=>exact .cons ⟨e,rfl,.inr (.inl rfl),ne' wu.wi ne,ne' wu.wp ne,he⟩ t
   | succ n=>exact .cons o (ih n)
 exact key s al
theorem qZ:aL ["_law_row","_law_numbers","_law_start","_law_stop"] ["_law_row"] (aA qd):=iW
theorem zz{f:Addr}(F:iM K "_law_spell" "_law_spell" qd f fd)(T:m7 mg):aF P w K mg zt bI 1 f fd Pd (FG 1000000):=by
 refine iZ F qZ λdP A zn s H vs Q E hr h=>?_;obtain⟨r,row,rfl,⟨as,ou,hp⟩,G2,ff,hrl,k⟩:=h;refine⟨_,(aj (br (i:=1) qZ.nd (bK ah)) (aj (eL PassesOwn.never rfl (cX (pv 0)) (oM (n:=2) rfl (bR (cy (i:=2) qZ.nd) (bR (cy (i:=3) qZ.nd) iX))) (au (aY (gx vJ PySem.F.slot_list_extend PySem.F.type_list_extend mQ (pv 1) (aa (iK (xF rfl) rfl T.nP yI (aa (iK HH rfl T.pJ PyProof.Rows.boot_range (aa (pv 2) (aa (pv 3) ah))) ah)) ah))))) (au (aQ (pv 1))))),?_⟩;refine⟨lF,λq hq=>?_⟩;have s0:aK H (aN H q (.lst [])):=ak hq _;refine⟨_,rfl,r,rfl,⟨_,bM.of (s0 _ _ ou)⟩,eN (K:=K) (a:=r) (xs:=as.map V.ref) (λi σ H2=>∃ (u v:Option V),σ=[some (.ref r),some (.ref q),u,v]/\H2 q=some (.lst ((bN (row.take i)).map V.int))/\aK H H2) ⟨none,none,rfl,af,s0⟩ (by rintro i σ H2 _ ⟨_,_,_,_,s⟩;exact bM.of (s _ _ ou)) ?_ ?_⟩
 ·rintro i x σ H2 hi ⟨u,v,rfl,jz,s⟩;rw[j5]at hi;obtain⟨a,ea,rfl⟩:=Option.map_eq_some_iff.mp hi;obtain⟨⟨st,en⟩,ep,ha⟩:=hp.get ea;obtain⟨b1,b2,b3⟩:=G2 _ (t7 ep);simp only at b1 b2 b3;have step:=Ck ep
  have lz:(bN (row.take i)).length+(en-st).toNat<=1000000:=by
   have z:=xG row (i+1);rw[step,dH,nM,iN]at z;exact jY z ff
  refine⟨a,_,rfl,d8.of (s _ _ ha),rfl,_,_,rfl,_,_,rfl,rfl,?_⟩;refine⟨_,rfl,.inl ⟨rfl,_,bM.of jz⟩,_,rfl,_,rfl,_,_,rfl,λp hp=>⟨p,_,_,rfl,af,⟨by lia,by lia,by lia,by lia⟩,kY (aV (by lia)),λm hm=>?_⟩⟩;have s1:aK H2 (aN H2 p (.Hf st en)):=ak hp _;have s2:=s1.trans (ak hm (.lst (EA st (en-st).toNat)));refine⟨q,m,_,_,rfl,rfl,s2 _ _ jz,af,?_,?_⟩
  ·rw[cR,Cj,cR,iN];exact kY (aV (by lia))
  ·refine⟨_,_,rfl,?_,bX hq (s.trans s2) (aM q _ _)⟩;rw[af,step,j0,Cj];rfl
 ·rintro σ H2 ⟨u,v,rfl,jz,s⟩;refine⟨_,rfl,k q H2 ?_ s hq⟩;rw[cR,hp.len,kX]at jz;exact jz
inductive wA(d:Nat)(vs:List V)(H:Hp)(Q:VK)(E:XK):Prop
 | mk (av:Addr->Prop) (r:Addr) (rows:dI) (x:Int) (sh:Int->List Int) (rk:Int->Nat) (_:vs=[.ref r,.int x]) (_:kB av H r rows) (_:rows.length<=1000) (_:jt rows) (_:0<=x) (_:x<rows.length) (_:rX rows sh) (_:(∀ x:Int,0<=x->x<rows.length->(sh x).length<=10000)) (_:(∀ x y,oA rows x y->rk y<rk x)) (_:rk x<d) (_ :
 ∀ (o:Addr) (H':Hp),H' o=some (.lst ((sh x).map V.int))->aK H H'->H o=none->Q (.ref o) H')
theorem wB:aL ["_law_rows","_law_sheet","_law_numbers","_law_entry"] ["_law_rows","_law_sheet"] (aA jM):=iW
theorem D9{n:Nat}(T:m7 mg)(bT:aC K mg "_law_show" jM oH g fd)(ig:aF P w K mg zt bI (n+1) g fd oH (wA n)):aF P w K mg zt bI (n+2) g fd oH (wA (n+1)):=by
 refine iZ bT.F wB λdP A zn s H vs Q E hr h=>?_;obtain⟨av,r,rows,x,sh,rk,rfl,R,ff,vt,x0,x1,AK,G2,Bg,hd,k⟩:=h;obtain⟨es,iC⟩:∃ es,rows[x.toNat]?=some es:=⟨_,tO (by lia)⟩;obtain⟨Bh,b,yG,F6,hb0,hrl⟩:=R.get iC
 have ze:vR Bh x=some (.ref b):=by
  have z:=gy F6;rw[show ((x.toNat:Nat):Int)=x by lia]at z;exact z
 have shx:=AK x es x0 iC
 have part:∀ i,(aT sh (es.take i)).length<=10000:=λi=>by
  have z:=G2 x x0 x1
  have e:aT sh es=aT sh (es.take i)++aT sh (es.drop i):=by
   unfold aT;rw[← List.flatMap_append,List.take_append_drop]
  rw[shx,e,dH]at z;lia
 refine⟨_,(aj (br (i:=2) wB.nd (bK ah)) (aj (eL PassesOwn.never rfl (cX (aW bL (pv 0) (pv 1))) (cy (i:=3) wB.nd) (au (bV (aZ rL (pv 3) ay (bw _)) (au (aY (gx vJ PySem.F.slot_list_extend PySem.F.type_list_extend mQ (pv 2) (aa (aG bT ig hr (aa (pv 0) (aa (bx cW (pT j7 ay) (pv 3)) ah))) ah)))) (au (aY (gx vJ qy qz cB (pv 2) (aa (pv 3) ah))))))) (au (aQ (pv 2))))),?_⟩;refine⟨lF,λq hq=>?_⟩;have s0:aK H (aN H q (.lst [])):=ak hq _;refine⟨_,rfl,_,rfl,r,_,_,_,rfl,rfl,bM.of (s0 _ _ yG),ze,b,rfl,⟨_,bM.of (s0 _ _ hb0)⟩,eN (K:=K) (a:=b) (xs:=es.map V.int) (λi σ H2=>∃ u:Option V,σ=[some (.ref r),some (.int x),some (.ref q),u]/\H2 q=some (.lst ((aT sh (es.take i)).map V.int))/\aK H H2) ⟨none,rfl,af,s0⟩ (by rintro i σ H2 _ ⟨_,_,_,s2⟩;exact bM.of (s2 _ _ hb0)) ?_ ?_⟩
 ·rintro i e σ H2 hi ⟨u,rfl,h2,s2⟩;rw[j5]at hi;obtain⟨e,ex,rfl⟩:=Option.map_eq_some_iff.mp hi
  have st:aT sh (es.take (i+1))=aT sh (es.take i)++bf sh e:=by
   rw[take_snoc ex];unfold aT;rw[List.flatMap_append];simp
  have pl:=part (i+1);rw[st,dH]at pl;refine⟨_,rfl,_,_,rfl,rfl,_,rfl,dQ (λc=>?_) (λc=>?_)⟩
  ·have c':e<0:=of_decide_eq_true c;have ee:bf sh e=sh (-1-e):=by unfold bf;rw[if_pos c']
   rw[ee]at st pl;have JQ:oA rows x (-1-e):=⟨x0,es,iC,cK.mpr ⟨by lia,by rw[show -1-(-1-e)=e by lia];exact t7 ex⟩⟩;obtain⟨y0,y1⟩:=vt.G0 JQ;have rky:=Bg _ _ JQ;refine⟨_,rfl,.inl ⟨rfl,_,bM.of h2⟩,_,rfl,_,rfl,_,rfl,_,_,rfl,rfl,av,r,rows,-1-e,sh,rk,rfl,R.same s2,ff,vt,y0,y1,AK,G2,Bg,by lia,λo H3 h3 s3 ho=>?_⟩;refine⟨q,o,_,_,rfl,rfl,s3 _ _ h2,h3,kY (aV (by rw[cR,cR];lia)),?_⟩;refine⟨_,rfl,?_,bX hq (s2.trans s3) (aM q _ _)⟩;rw[af,st,j0]
  ·have c':¬ e<0:=λz=>c (decide_eq_true z);have ee:bf sh e=[e]:=by unfold bf;rw[if_neg c']
   rw[ee]at st pl;refine⟨_,rfl,.inl ⟨rfl,_,bM.of h2⟩,_,rfl,q,_,_,rfl,rfl,h2,(by rw[cR];exact aV (by lia)),?_⟩;refine⟨_,rfl,?_,bX hq s2 (aM q _ _)⟩;rw[af,st,j0];rfl
 ·rintro σ H2 ⟨u,rfl,h2,s2⟩;rw[cR,kX,← shx]at h2;exact⟨_,rfl,k q H2 h2 s2 hq⟩
theorem qv(T:m7 mg)(bT:aC K mg "_law_show" jM oH g fd):∀ n:Nat,aF P w K mg zt bI (n+1) g fd oH (wA n)
 | 0=>by
  have no:∀ vs H Q E,¬ wA 0 vs H Q E:=λvs H Q E h=>by
   obtain⟨_,_,_,_,_,_,_,_,_,_,_,_,_,_,_,h,_⟩:=h;exact Nat.not_lt_zero _ h
  exact⟨λvs H Q E h=>absurd h (no vs H Q E),λA zn s H args us vs Q E _ _ _ _ h=>absurd h (no vs H Q E)⟩
 | n+1=>D9 T bT (qv T bT n)
def O8(rows:dI):Nat->Int->List Int
 | 0,_=>[]
 | k+1,x=>match rows[x.toNat]? with
  | some es=>aT (O8 rows k) es
  | none=>[]
theorem wC{f g:Int->List Int}{es:List Int}(h:∀ y∈eG es,f y=g y):aT f es=aT g es:=by
 unfold aT;rw[List.flatMap_def,List.flatMap_def];congr 1;refine List.map_congr_left λe he=>?_;unfold bf;by_cases c:e<0
 ·rw[if_pos c,if_pos c,h (-1-e) (cK.mpr ⟨by lia,by rw[show -1-(-1-e)=e by lia];exact he⟩)]
 ·rw[if_neg c,if_neg c]
theorem Dm{rows:dI}(h:FP rows):∃ sh,rX rows sh:=by
 obtain⟨rk,hb,hd⟩:=h
 have key:∀ (k:Nat) (x:Int),0<=x->rk x<k->O8 rows k x=O8 rows (k+1) x:=by
  intro k
  induction k with
  | zero=>intro x _ h;lia
  | succ k ih =>
   intro x x0 hx
   cases e:rows[x.toNat]? with
   | none=>simp[O8,e]
   | some es =>
    have e1:O8 rows (k+1) x=aT (O8 rows k) es:=by simp[O8,e]
    have e2:O8 rows (k+1+1) x=aT (O8 rows (k+1)) es:=by
     show (match rows[x.toNat]? with|some es=>aT (O8 rows (k+1)) es|none=>[])=_;rw[e]
    rw[e1,e2];refine wC λy hy=>ih y (cK.mp hy).1 ?_;have:=hd x y ⟨x0,es,e,hy⟩;lia
 refine⟨O8 rows 41,λx es x0 he=>?_⟩;rw[key 41 x x0 (by have:=hb x;lia)];show (match rows[x.toNat]? with|some es=>aT (O8 rows 41) es|none=>[])=_;rw[he]
def Dn(n:Nat)(L:List Int):Nat:=cnt n λi=>decide ((i:Int)∉L)
theorem OL{n:Nat}{L:List Int}{y:Int}(h0:0<=y)(h1:y<n)(hn:y∉L):Dn n (L++[y])+1=Dn n L:=by
 refine yX y.toNat n (by lia) ?_ λi=>?_
 ·show decide (((y.toNat:Nat):Int)∉L)=true;rw[show ((y.toNat:Nat):Int)=y by lia];exact decide_eq_true hn
 ·show decide ((i:Int)∉L++[y])=(decide ((i:Int)∉L)&&decide (i≠y.toNat));rw[← Bool.decide_and];congr 1;rw[List.mem_append,List.mem_singleton];apply propext;constructor
  ·intro h;exact⟨λq=>h (.inl q),λq=>h (.inr (by lia))⟩
  ·rintro⟨a,b⟩ (q|q)
   ·exact a q
   ·exact b (by lia)
theorem GJ(a b:List Int):eG (a++b)=eG a++eG b:=by unfold eG;rw[List.filterMap_append]
structure Dfs(rows:dI)(H:Hp)(Rr Wt:Addr)(s:Int)(aaR:Int->Prop)(H2:Hp)(L ws:List Int):Prop where
 hR:H2 Rr=some (.lst (L.map V.int))
 hW:H2 Wt=some (.lst (ws.map V.int))
 sm:aK H H2
 rc:∀ x∈L,Reach (oA rows) s x
 wr:∀ x∈ws,(x=s\/x∈L)/\0<=x/\x<rows.length
 kl:L.length+Dn rows.length L<=rows.length
 cl:∀ x,(x=s\/x∈L)->x∈ws\/aaR x\/∀ y,oA rows x y->y∈L
inductive Fe(vs:List V)(H:Hp)(Q:VK)(E:XK):Prop
 | mk (av:Addr->Prop) (r:Addr) (rows:dI) (s:Int) (_:vs=[.ref r,.int s]) (_:kB av H r rows) (_:rows.length<=1000) (_:(∀ es∈rows,es.length<=100000)) (_:jt rows) (_:0<=s) (_:s<rows.length) (_ :
 ∀ (L:List Int) (o:Addr) (H':Hp),H' o=some (.lst (L.map V.int))->aK H H'->(∀ x,x∈L↔Reach (oA rows) s x)->Q (.ref o) H')
theorem kT:aL ["_law_rows","_law_sheet","_law_reached_here","_law_waiting","_law_here","_law_entry"] ["_law_rows","_law_sheet"] (aA pF):=iW
def muR(n:Nat)(L ws:List Int):Nat:=2*Dn n L+ws.length
def VW(rows:dI)(H:Hp)(r Rr Wt:Addr)(s:Int)(m:Nat)(σ:L2.St)(H2:Hp):Prop:=∃ (L ws:List Int) (u v:Option V),σ=[some (.ref r),some (.int s),some (.ref Rr),some (.ref Wt),u,v]/\Dfs rows H Rr Wt s (λ_=>False) H2 L ws/\ws.length+2*Dn rows.length L<=2*rows.length+1/\m=muR rows.length L ws
theorem Dp{f:Addr}(F:iM K "_law_reached" "_law_reached" pF f fd)(T:m7 mg):aF P w K mg zt bI 1 f fd oH Fe:=by
 refine iZ F kT λdP A zn s0 H vs Q E hr h=>?_;obtain⟨av,r,rows,s,rfl,hRw,ff,hes,vt,h0,h1,k⟩:=h;have hu:=lO hr;refine⟨_,(aj (br (i:=2) kT.nd (bK ah)) (aj (br (i:=3) kT.nd (bK (aa (pv 1) ah))) (aj (vQ PassesOwn.never (aZ BW (iF T.iz (pv 3)) ay (bw _)) (aj (br (i:=4) kT.nd (PV vJ PySem.F.slot_list_pop PySem.F.type_list_pop P0 (pv 3))) (au (eL PassesOwn.never rfl (cX (aW bL (pv 0) (pv 4))) (cy (i:=5) kT.nd) (au (bV (PW.pt (rK (aZ rL (pv 5) ay (bw _)) (qN (aZ Fy (bx cW (pT j7 ay) (pv 5)) (pv 2) rfl)))) (aj (aY (gx vJ qy qz cB (pv 2) (aa (bx cW (pT j7 ay) (pv 5)) ah))) (au (aY (gx vJ qy qz cB (pv 3) (aa (bx cW (pT j7 ay) (pv 5)) ah))))) bu)))))) (au (aQ (pv 2)))))),?_⟩;refine⟨lF,λRr hRr=>?_⟩;refine⟨_,rfl,rV,λWt hWt=>?_⟩;have s1:aK H (aN H Rr (.lst [])):=ak hRr _;have s2:=s1.trans (ak hWt (.lst [.int s]))
 have Uk:H Wt=none:=by
  cases e:H Wt with
  | none=>rfl
  | some o=>exact absurd ((s1 _ _ e).symm.trans hWt) (by simp)
 have nRW:Rr≠Wt:=az af hWt;refine⟨VW rows H r Rr Wt s,⟨_,[],[s],none,none,rfl,⟨ak hWt _ _ _ af,af,s2,?_,?_,?_,?_⟩,?_,rfl⟩,?_⟩
 ·intro x hx;cases hx
 ·intro x hx;have:x=s:=by simpa using hx
  exact⟨.inl this,by lia,by lia⟩
 ·have:=Cv rows.length (λi=>decide ((i:Int)∉([]:List Int)));show 0+cnt rows.length _<=_;lia
 ·rintro x (rfl|hx)
  ·exact .inl (by simp)
  ·cases hx
 ·have:=Cv rows.length (λi=>decide ((i:Int)∉([]:List Int)));show 1+2*cnt rows.length _<=_;lia
 rintro m σ H2 ⟨L,ws,u,v,rfl,B,hml,rfl⟩;refine⟨_,rfl,Wt,_,rfl,.inl (bM.of B.hW),_,_,rfl,rfl,_,rfl,?_⟩;rcases vL ws with rfl|⟨YK,h,rfl⟩
 ·refine gH ⟨_,rfl,k L Rr H2 B.hR B.sm λx=>⟨λhx=>B.rc x hx,λhx=>?_⟩⟩
  have zt:∀ x,(x=s\/x∈L)->∀ y,oA rows x y->y∈L:=λx hx=>by
   rcases B.cl x hx with z|z|z
   ·cases z
   ·exact z.elim
   ·exact z
  exact Reach.closed (S:=λy=>y∈L) (zt s (.inl rfl)) (λx y hx=>zt x (.inr hx) y) hx
 rw[uc]at B hml ⊢;refine dQ (λ_=>?_) (λz=>absurd (decide_eq_true (by simp)) z);obtain⟨hR2,Z5,sm2,rc2,wr2,kl2,cl2⟩:=id B;obtain⟨hh,e0,e1⟩:=wr2 h (by simp);obtain⟨es,iC⟩:∃ es,rows[h.toNat]?=some es:=⟨_,tO (by lia)⟩;have XI:=hes es (t7 iC);refine⟨fun σ' H'=>∃ m',m'<muR rows.length L (YK++[h])/\VW rows H r Rr Wt s m' σ' H',fun σ' H' z=>z,?_⟩;refine⟨_,rfl,.inl ⟨rfl,_,bM.of Z5⟩,Wt,_,.int h,rfl,rfl,Z5,(by simp),?_⟩;have ee:((YK++[h]).map V.int).dropLast=YK.map V.int:=by simp
 rw[ee];have QZ:aK H (aN H2 Wt (.lst (YK.map V.int))):=bX Uk sm2 (aM Wt _ _);obtain⟨Bh,b,yG,F6,hb0,hrl⟩:=hRw.get iC;have hb3:=QZ _ _ hb0;refine⟨_,rfl,_,rfl,r,_,_,_,rfl,rfl,bM.of (QZ _ _ yG),?_,b,rfl,⟨_,bM.of hb3⟩,eN (K:=K) (a:=b) (xs:=es.map V.int) (λi σ H5=>∃ (L2 UQ:List Int) (v:Option V),σ=[some (.ref r),some (.int s),some (.ref Rr),some (.ref Wt),some (.int h),v]/\ Dfs rows H Rr Wt s (λx=>x=h) H5 L2 UQ/\(∀ y∈eG (es.take i),y∈L2)/\(∀ y∈L,y∈L2)/\UQ.length+2*Dn rows.length L2<=YK.length+2*Dn rows.length L) ?_ ?_ ?_ ?_⟩
 ·have z:=gy F6;rw[show ((h.toNat:Nat):Int)=h by lia]at z;exact z
 ·refine⟨L,YK,_,rfl,⟨(by rw[aH nRW];exact hR2),af,QZ,rc2,λx hx=>wr2 x (xU _ hx),kl2,λx hx=>?_⟩,(λy hy=>by simp[eG]at hy),λ_ q=>q,iT _⟩;rcases cl2 x hx with z|z|z
  ·rcases List.mem_append.mp z with q|q
   ·exact .inl q
   ·exact .inr (.inl (by simpa using q))
  ·exact z.elim
  ·exact .inr (.inr z)
 ·rintro i σ H5 _ ⟨_,_,_,_,B5,_⟩;exact bM.of (B5.sm _ _ hb0)
 ·rintro i x σ H5 hi ⟨L2,UQ,v,rfl,B5,Ff,hsub,YA⟩;rw[j5]at hi;obtain⟨x,ex,rfl⟩:=Option.map_eq_some_iff.mp hi;have step:eG (es.take (i+1))=eG (es.take i)++eG [x]:=by rw[take_snoc ex,GJ]
  refine⟨_,rfl,_,_,rfl,rfl,_,rfl,dQ (λc=>?_) (λc=>gH ?_)⟩
  ·have c':x<0:=of_decide_eq_true c;have wx:eG [x]=[-1-x]:=by simp[eG,c']
   have JQ:oA rows h (-1-x):=⟨e0,es,iC,by
    rw[cK]
    exact⟨by lia,by rw[show -1-(-1-x)=x by lia];exact t7 ex⟩⟩
   obtain⟨y0,y1⟩:=vt.G0 JQ;refine⟨_,rfl,_,rfl,_,_,rfl,rfl,_,rfl,Rr,_,rfl,.inl (bM.of B5.hR),rfl,EL L2,_,rfl,?_⟩;rw[Ms];by_cases hm:-1-x∈L2
   ·rw[decide_eq_true hm];refine gH ?_;refine⟨L2,UQ,_,rfl,B5,(λy hy=>?_),hsub,YA⟩;rw[step,wx]at hy;rcases List.mem_append.mp hy with q|q
    ·exact Ff y q
    ·have:y=-1-x:=by simpa using q
     rw[this];exact hm
   ·rw[decide_eq_false hm];refine j3 ?_;have Z3:=B5.kl;have mp:=OL y0 y1 hm;refine⟨_,rfl,.inl ⟨rfl,_,bM.of B5.hR⟩,_,rfl,_,rfl,_,_,rfl,rfl,Rr,_,_,rfl,rfl,B5.hR,(by rw[cR];exact aV (by lia)),?_⟩;have Sy:(aN H5 Rr (.lst (L2.map V.int++[.int (-1-x)]))) Wt=some (.lst (UQ.map V.int)):=by rw[aH nRW.symm];exact B5.hW
    refine⟨_,rfl,.inl ⟨rfl,_,bM.of Sy⟩,_,rfl,_,rfl,_,_,rfl,rfl,Wt,_,_,rfl,rfl,Sy,(by rw[cR];rw[dH,xh]at hml;exact aV (by lia)),?_⟩;refine⟨L2++[-1-x],UQ++[-1-x],_,rfl,⟨?_,?_,bX Uk (bX hRr B5.sm (aM Rr _ _)) (aM Wt _ _),?_,?_,?_,?_⟩,?_,λy q=>xU _ (hsub y q),?_⟩
    ·rw[aH nRW,af,j0];rfl
    ·rw[af,j0];rfl
    ·intro y hy;rcases List.mem_append.mp hy with q|q
     ·exact B5.rc y q
     ·have:y=-1-x:=by simpa using q
      subst this;rcases hh with rfl|hh
      ·exact .one JQ
      ·exact .step (B.rc h hh) JQ
    ·intro y hy;rcases List.mem_append.mp hy with q|q
     ·obtain⟨q1,q2⟩:=B5.wr y q;exact⟨q1.imp id (xU _),q2⟩
     ·have:y=-1-x:=by simpa using q
      subst this;exact⟨.inr (by simp),y0,y1⟩
    ·rw[dH,xh];lia
    ·intro y hy;by_cases e:y=-1-x
     ·exact .inl (by rw[e];simp)
     ·have hy':y=s\/y∈L2:=hy.imp id λq=>by
       rcases List.mem_append.mp q with z|z
       ·exact z
       ·exact absurd (by simpa using z) e
      rcases B5.cl y hy' with q|q|q
      ·exact .inl (xU _ q)
      ·exact .inr (.inl q)
      ·exact .inr (.inr λz hz=>xU _ (q z hz))
    ·intro y hy;rw[step,wx]at hy;rcases List.mem_append.mp hy with q|q
     ·exact xU _ (Ff y q)
     ·exact uF _ q
    ·rw[dH,xh];lia
  ·have c':¬ x<0:=λz=>c (decide_eq_true z);have wx:eG [x]=[]:=by simp[eG,c']
   exact⟨L2,UQ,_,rfl,B5,(by rw[step,wx,jH];exact Ff),hsub,YA⟩
 ·rintro σ H5 ⟨L2,UQ,v,rfl,B5,Ff,hsub,YA⟩;rw[cR,kX]at Ff;refine⟨_,?_,L2,UQ,_,_,rfl,⟨B5.hR,B5.hW,B5.sm,B5.rc,B5.wr,B5.kl,λx hx=>?_⟩,?_,rfl⟩
  ·unfold muR;rw[dH,xh];lia
  ·rcases B5.cl x hx with q|rfl|q
   ·exact .inl q
   ·refine .inr (.inr λy hy=>Ff y ?_);obtain⟨_,zD,Mi,hy'⟩:=hy;rw[iC]at Mi;cases Mi;exact hy'
   ·exact .inr (.inr q)
  ·rw[dH,xh]at hml;lia
theorem vf(sh:Int->List Int)(es:List Int)(i:Nat):(aT sh (es.take i)).length<=(aT sh es).length:=lI (bf sh) es i
inductive AB(d:Nat)(vs:List V)(H:Hp)(Q:VK)(E:XK):Prop
 | mk (av:Addr->Prop) (r:Addr) (rows:dI) (e:Int) (sh:Int->List Int) (rk:Int->Nat) (_:vs=[.ref r,.int e]) (_:kB av H r rows) (_:rows.length<=1000) (_:jt rows) (_:rX rows sh) (_:(∀ x:Int,0<=x->x<rows.length->(sh x).length<=10000)) (_:(∀ x y,oA rows x y->rk y<rk x)) (_:(e<0->-1-e<rows.length/\rk (-1-e)<d)) (_ :
 ∀ (o:Addr) (H':Hp),H' o=some (.lst ((bf sh e).map V.int))->aK H H'->H o=none->Q (.ref o) H')
theorem Ea:aL ["_law_rows","_law_entry"] ["_law_rows","_law_entry"] (aA ly):=iW
theorem xR{f:Addr}{d:Nat}(F:iM K "_law_pieces" "_law_pieces" ly f fd)(T:m7 mg)(bT:aC K mg "_law_show" jM oH g gd):aF P w K mg zt bI (d+2) f fd Nh (AB d):=by
 have ig:aF P w K mg zt bI (d+1) _ _ oH (wA d):=qv T bT d;refine iZ F Ea λdP A zn s H vs Q E hr h=>?_;obtain⟨av,r,rows,e,sh,rk,rfl,R,ff,vt,AK,G2,Bg,hd,k⟩:=h;refine⟨_,(aj (bV (aZ rL (pv 1) ay (bw _)) (au (aQ (aG bT ig hr (aa (pv 0) (aa (bx cW (pT j7 ay) (pv 1)) ah))))) bu) (au (aQ (bK (aa (pv 1) ah))))),?_⟩;refine⟨_,rfl,_,_,rfl,rfl,_,rfl,dQ (λc=>?_) (λc=>?_)⟩
 ·have c':e<0:=of_decide_eq_true c;obtain⟨d1,d2⟩:=hd c';refine⟨_,rfl,_,rfl,_,rfl,_,_,rfl,rfl,av,r,rows,-1-e,sh,rk,rfl,R,ff,vt,by lia,d1,AK,G2,Bg,d2,λo H' h s ho=>k o H' ?_ s ho⟩;unfold bf;rw[if_pos c'];exact h
 ·have c':¬ e<0:=λz=>c (decide_eq_true z);refine⟨_,rfl,rV,λo ho=>k o _ ?_ (ak ho _) ho⟩;unfold bf;rw[if_neg c',af];rfl
theorem GK(sh:Int->List Int)(p:Int):∀ (es:List Int) (f:Int),(aE sh p f es).length<=es.length+(aT sh es).length
 | [],_=>by simp[aE]
 | e::r,f=>by
  rw[aE,cz,dH,dH,oJ];have a:=GK sh p r (f+(bf sh e).length)
  have b:(if f+(bf sh e).length<=p then [e] else if p<=f then [] else (bf sh e).take (p-f).toNat).length<=1+(bf sh e).length:=by
   split
   ·simp
   ·split
    ·simp
    ·rw[jG];lia
  lia
theorem GL(sh:Int->List Int)(p:Int):∀ (es:List Int) (f:Int),(bE sh p f es).length<=es.length+(aT sh es).length
 | [],_=>by simp[bE]
 | e::r,f=>by
  rw[bE,cz,dH,dH,oJ];have a:=GL sh p r (f+(bf sh e).length)
  have b:(if f+(bf sh e).length<=p then [] else if p<=f then [e] else (bf sh e).drop (p-f).toNat).length<=1+(bf sh e).length:=by
   split
   ·simp
   ·split
    ·simp
    ·rw[sO];lia
  lia
inductive Lo(d:Nat)(vs:List V)(H:Hp)(Q:VK)(E:XK):Prop
 | mk (av:Addr->Prop) (r n:Addr) (rows:dI) (s p:Int) (new:List Int) (sh:Int->List Int) (rk:Int->Nat) (_:vs=[.ref r,.int s,.int p,.ref n]) (_:kB av H r rows) (_:rows.length<=1000) (_:(∀ es∈rows,es.length<=25000)) (_:jt rows) (_:rX rows sh) (_:(∀ x:Int,0<=x->x<rows.length->(sh x).length<=10000)) (_:(∀ x y,oA rows x y->rk y<rk x)) (_:0<=s) (_:s<rows.length) (_:rk s<=d) (_:H n=some (.lst (new.map V.int))) (_:new.length<=25000) (_ :
 ∀ (es:List Int) (o:Addr) (H':Hp),rows[s.toNat]?=some es->H' o=some (.lst ((ic sh p es new).map V.int))->(ic sh p es new).length<=100000->aK H H'->H o=none->Q (.ref o) H')
theorem kU:aL ["_law_rows","_law_sheet","_law_place","_law_new","_law_ahead","_law_behind","_law_first","_law_entry","_law_pieces_here","_law_last"] ["_law_rows","_law_sheet","_law_place","_law_new"] (aA wK):=iW
theorem Lp{f h':Addr}{d:Nat}(F:iM K "_law_put" "_law_put" wK f fd)(T:m7 mg)(bT:aC K mg "_law_show" jM oH g gd)(gG:aC K mg "_law_pieces" ly Nh h' Wx):aF P w K mg zt bI (d+3) f fd Wi (Lo d):=by
 have vg:aF P w K mg zt bI (d+2) _ _ Nh (AB d):=xR gG.F T bT;refine iZ F kU λdP A zn s0 H vs Q E hr h=>?_;obtain⟨av,r,n,rows,s,p,new,sh,rk,rfl,R,ff,hes,vt,AK,G2,Bg,h0,h1,hd,hn,nl,k⟩:=h;obtain⟨es,iC⟩:∃ es,rows[s.toNat]?=some es:=⟨_,tO (by lia)⟩;have esl:=hes es (t7 iC);have shs:=AK s es h0 iC;have shl:=G2 s h0 h1;rw[shs]at shl;obtain⟨Bh,b,yG,F6,hb0,hrl⟩:=R.get iC
 have ze:vR Bh s=some (.ref b):=by
  have z:=gy F6;rw[show ((s.toNat:Nat):Int)=s by lia]at z;exact z
 refine⟨_,(aj (bV (aZ gj (iF T.iz (pv 3)) ay (bw _)) (au (aQ (iK jI rfl T.nP yI (aa (aW bL (pv 0) (pv 1)) ah)))) bu) (aj (br (i:=4) kU.nd (bK ah)) (aj (br (i:=5) kU.nd (bK ah)) (aj (br (i:=6) kU.nd ay) (aj (eL PassesOwn.never rfl (cX (aW bL (pv 0) (pv 1))) (cy (i:=7) kU.nd) (aj (br (i:=8) kU.nd (aG gG vg hr (aa (pv 0) (aa (pv 7) ah)))) (aj (br (i:=9) kU.nd (bx cZ (pv 6) (iF T.iz (pv 8)))) (aj (bV (aZ jm (pv 9) (pv 2) (bw _)) (au (aY (gx vJ qy qz cB (pv 4) (aa (pv 7) ah)))) (au (bV (aZ jm (pv 2) (pv 6) (bw _)) (au (aY (gx vJ qy qz cB (pv 5) (aa (pv 7) ah)))) (aj (aY (gx vJ PySem.F.slot_list_extend PySem.F.type_list_extend mQ (pv 4) (aa (j8 qP (pv 8) qO (kZ (bx cW (pv 2) (pv 6)))) ah))) (au (aY (gx vJ PySem.F.slot_list_extend PySem.F.type_list_extend mQ (pv 5) (aa (j8 qP (pv 8) (kZ (bx cW (pv 2) (pv 6))) qO) ah)))))))) (au (br (i:=6) kU.nd (pv 9))))))) (au (aQ (bx nh (bx nh (pv 4) (pv 3)) (pv 5))))))))),?_⟩;refine⟨_,rfl,n,_,rfl,.inl (bM.of hn),rfl,_,rfl,dQ (λc=>?_) (λc=>?_)⟩
 ·have c':new=[]:=by
   have z:V.int ((new.map V.int).length:Int)=V.int 0:=of_decide_eq_true c;have z2:=V.int.inj z;rw[cR]at z2;exact List.eq_nil_of_length_eq_zero (by lia)
  refine⟨_,rfl,_,rfl,r,_,_,_,rfl,rfl,bM.of yG,ze,b,_,rfl,.inl (bM.of hb0),λo ho=>k es o _ iC ?_ ?_ (ak ho _) ho⟩
  ·rw[af];unfold ic;rw[if_pos c']
  ·unfold ic;rw[if_pos c'];lia
 have c':¬ new=[]:=λz=>c (by rw[z];rfl);refine⟨lF,λA hA=>⟨lF,λB hB=>?_⟩⟩;have sA:aK H (aN H A (.lst [])):=ak hA _;have sB:aK _ (aN (aN H A (.lst [])) B (.lst [])):=ak hB _;have s1:=sA.trans sB;have DB:A≠B:=az af hB;have O1:=aX sA hB;refine⟨_,rfl,_,rfl,r,_,_,_,rfl,rfl,bM.of (s1 _ _ yG),ze,b,rfl,⟨_,bM.of (s1 _ _ hb0)⟩,eN (K:=K) (a:=b) (xs:=es.map V.int) (λi σ H2=>∃ u1 u2 u3:Option V,σ=[some (.ref r),some (.int s),some (.int p),some (.ref n),some (.ref A),some (.ref B),some (.int (0+((aT sh (es.take i)).length:Int))),u1,u2,u3]/\H2 A=some (.lst ((aE sh p 0 (es.take i)).map V.int))/\H2 B=some (.lst ((bE sh p 0 (es.take i)).map V.int))/\aK H H2) ⟨none,none,none,rfl,sB _ _ af,af,s1⟩ (by rintro i σ H2 _ ⟨_,_,_,_,_,_,s2⟩;exact bM.of (s2 _ _ hb0)) ?_ ?_⟩
 ·rintro i x σ H2 hi ⟨u1,u2,u3,rfl,RJ,hB2,s2⟩;rw[j5]at hi;obtain⟨e,ex,rfl⟩:=Option.map_eq_some_iff.mp hi;have st:=take_snoc ex
  have eA:aE sh p 0 (es.take (i+1))=aE sh p 0 (es.take i)++(if 0+((aT sh (es.take i)).length:Int)+(bf sh e).length<=p then [e] else if p<=0+((aT sh (es.take i)).length:Int) then [] else (bf sh e).take (p-(0+((aT sh (es.take i)).length:Int))).toNat):=by
   rw[st,Ag,aE,aE,jH]
  have eB:bE sh p 0 (es.take (i+1))=bE sh p 0 (es.take i)++(if 0+((aT sh (es.take i)).length:Int)+(bf sh e).length<=p then [] else if p<=0+((aT sh (es.take i)).length:Int) then [e] else (bf sh e).drop (p-(0+((aT sh (es.take i)).length:Int))).toNat):=by
   rw[st,Ah,bE,bE,jH]
  have eF:(0+((aT sh (es.take (i+1))).length:Int))=0+((aT sh (es.take i)).length:Int)+(bf sh e).length:=by
   rw[st,nV,cz,dH,dH];simp[aT]
  have lA:=GK sh p (es.take (i+1)) 0;have lB:=GL sh p (es.take (i+1)) 0;have lA0:=GK sh p (es.take i) 0;have lB0:=GL sh p (es.take i) 0;have l1:=vf sh es (i+1);have l0:=vf sh es i;have t1:(es.take (i+1)).length<=es.length:=by rw[jG];lia
  have t0:(es.take i).length<=es.length:=by rw[jG];lia
  refine⟨_,rfl,_,rfl,av,r,rows,e,sh,rk,rfl,R.same s2,ff,vt,AK,G2,Bg,λaex=>?_,λo H3 h3 s3 ho=>?_⟩
  ·have nx:oA rows s (-1-e):=⟨h0,es,iC,cK.mpr ⟨by lia,by rw[show -1-(-1-e)=e by lia];exact t7 ex⟩⟩;have:=Bg _ _ nx;exact⟨(vt.G0 nx).2,by lia⟩
  have JT:=s3 _ _ RJ;have UR:=s3 _ _ hB2;refine⟨_,rfl,_,rfl,o,_,rfl,.inl (bM.of h3),_,_,rfl,rfl,?_⟩;rw[cR];refine⟨_,rfl,_,rfl,_,_,rfl,rfl,_,rfl,dQ (λc1=>?_) (λc1=>?_)⟩
  ·have VX:0+((aT sh (es.take i)).length:Int)+((bf sh e).length:Int)<=p:=of_decide_eq_true c1;rw[if_pos VX]at eA eB;refine⟨_,rfl,.inl ⟨rfl,_,bM.of JT⟩,_,rfl,A,_,_,rfl,rfl,JT,aV (by rw[cR];lia),?_⟩;refine⟨_,rfl,some (.int e),some (.ref o),some (.int (0+((aT sh (es.take i)).length:Int)+((bf sh e).length:Int))),?_,?_,?_,bX hA (s2.trans s3) (aM A _ _)⟩
   ·rw[eF];rfl
   ·rw[af,eA,j0];rfl
   ·rw[aH DB.symm,eB,jH];exact UR
  ·have VX:¬ 0+((aT sh (es.take i)).length:Int)+((bf sh e).length:Int)<=p:=λz=>c1 (decide_eq_true z);rw[if_neg VX]at eA eB;refine⟨_,rfl,_,rfl,_,_,rfl,rfl,_,rfl,dQ (λc2=>?_) (λc2=>?_)⟩
   ·have Ou:p<=0+((aT sh (es.take i)).length:Int):=of_decide_eq_true c2;rw[if_pos Ou]at eA eB;refine⟨_,rfl,.inl ⟨rfl,_,bM.of UR⟩,_,rfl,B,_,_,rfl,rfl,UR,aV (by rw[cR];lia),?_⟩;refine⟨_,rfl,some (.int e),some (.ref o),some (.int (0+((aT sh (es.take i)).length:Int)+((bf sh e).length:Int))),?_,?_,?_,bX O1 (s2.trans s3) (aM B _ _)⟩
    ·rw[eF];rfl
    ·rw[aH DB,eA,jH];exact JT
    ·rw[af,eB,j0];rfl
   ·have Ou:¬ p<=0+((aT sh (es.take i)).length:Int):=λz=>c2 (decide_eq_true z);rw[if_neg Ou]at eA eB;rw[eA,dH]at lA;rw[eB,dH]at lB;refine⟨_,rfl,.inl ⟨rfl,_,bM.of JT⟩,_,rfl,_,rfl,_,rfl,_,_,rfl,rfl,_,rfl,o,_,rfl,bM.of h3,λq1 Uu=>?_⟩;have n1:aK H3 (aN H3 q1 (.lst (pV ((bf sh e).map V.int) none (some (p-(0+((aT sh (es.take i)).length:Int))))))):=ak Uu _;have e1:pV ((bf sh e).map V.int) none (some (p-(0+((aT sh (es.take i)).length:Int))))=((bf sh e).take (p-(0+((aT sh (es.take i)).length:Int))).toNat).map V.int:=by rw[yq _ (by lia),List.map_take]
    refine⟨A,q1,_,_,rfl,rfl,n1 _ _ JT,af,kY (aV (by rw[e1,cR,cR];lia)),?_⟩;have k4:cN A H3 (aN (aN H3 q1 (.lst (pV ((bf sh e).map V.int) none (some (p-(0+((aT sh (es.take i)).length:Int))))))) A (.lst ((aE sh p 0 (es.take i)).map V.int++pV ((bf sh e).map V.int) none (some (p-(0+((aT sh (es.take i)).length:Int))))))):=cN.trans (aK.keep n1) (aM A _ _);have no:o≠A:=(az RJ ho).symm;have nqA:q1≠A:=(az JT Uu).symm;have hB4:=k4 _ _ UR DB.symm;refine⟨_,rfl,.inl ⟨rfl,_,bM.of hB4⟩,_,rfl,_,rfl,_,rfl,_,_,rfl,rfl,_,rfl,o,_,rfl,bM.of (k4 _ _ h3 no),λq2 jz=>?_⟩;have e2:pV ((bf sh e).map V.int) (some (p-(0+((aT sh (es.take i)).length:Int)))) none=((bf sh e).drop (p-(0+((aT sh (es.take i)).length:Int))).toNat).map V.int:=by rw[Al _ (by lia),List.map_drop]
    refine⟨B,q2,_,_,rfl,rfl,ak jz _ _ _ hB4,af,kY (aV (by rw[e2,cR,cR];lia)),?_⟩;refine⟨_,rfl,some (.int e),some (.ref o),some (.int (0+((aT sh (es.take i)).length:Int)+((bf sh e).length:Int))),?_,?_,?_,?_⟩
    ·rw[eF];rfl
    ·rw[aH DB,ak jz _ _ _ af,eA,j0,e1]
    ·rw[af,eB,j0,e2]
    ·exact bX O1 ((bX hA (s2.trans s3) k4).trans (ak jz _)) (aM B _ _)
 ·rintro σ H2 ⟨u1,u2,u3,rfl,RJ,hB2,s2⟩;rw[cR,kX]at RJ hB2;have lA:=GK sh p es 0;have lB:=GL sh p es 0;refine⟨_,rfl,_,rfl,A,n,_,_,rfl,rfl,RJ,s2 _ _ hn,kY (aV (by rw[cR,cR];lia)),λc1 Yx=>?_⟩;have n1:aK H2 (aN H2 c1 (.lst ((aE sh p 0 es).map V.int++new.map V.int))):=ak Yx _;refine⟨_,rfl,c1,B,_,_,rfl,rfl,af,n1 _ _ hB2,kY (aV (by rw[dH,cR,cR,cR];lia)),λc2 XS=>?_⟩;refine k es c2 _ iC ?_ ?_ (s2.trans (n1.trans (ak XS _))) (aX (s2.trans n1) XS)
  ·rw[af];unfold ic;rw[if_neg c',j0,j0]
  ·unfold ic;rw[if_neg c',dH,dH];lia
def SJ(sh:Int->List Int)(a b f e:Int):List Int:=if a=b then [e] else MM sh a b f e
def SK(sh:Int->List Int)(a b f e:Int):List Int:=if a=b then [] else O5 sh a b f e
theorem Jr(sh:Int->List Int)(a b:Int)(es:List Int)(e:Int):b5 sh a b (es++[e])=b5 sh a b es++SJ sh a b (0+((aT sh es).length:Int)) e:=by
 unfold b5 SJ;split
 ·rfl
 ·rw[Ai,kE,kE,jH]
theorem Js(sh:Int->List Int)(a b:Int)(es:List Int)(e:Int):kG sh a b (es++[e])=kG sh a b es++SK sh a b (0+((aT sh es).length:Int)) e:=by
 unfold kG SK;split
 ·rfl
 ·rw[Aj,tE,tE,jH]
theorem US(sh:Int->List Int)(a b f e:Int):(SJ sh a b f e).length<=1+2*(bf sh e).length:=by
 unfold SJ MM;split
 ·simp
 ·split
  ·simp
  ·split
   ·simp
   ·rw[dH,jG,sO];lia
theorem UT(sh:Int->List Int)(a b f e:Int):(SK sh a b f e).length<=1+2*(bf sh e).length:=by
 unfold SK O5;split
 ·simp
 ·split
  ·simp
  ·split
   ·simp
   ·rw[sO,jG];lia
theorem RK(sh:Int->List Int)(a b:Int):∀ (es:List Int) (f:Int),(kE sh a b f es).length<=es.length+2*(aT sh es).length
 | [],_=>by simp[kE]
 | e::r,f=>by
  rw[kE,cz,dH,dH,oJ];have x:=RK sh a b r (f+(bf sh e).length)
  have y:(MM sh a b f e).length<=1+2*(bf sh e).length:=by
   unfold MM;split
   ·simp
   ·split
    ·simp
    ·rw[dH,jG,sO];lia
  lia
theorem RL(sh:Int->List Int)(a b:Int):∀ (es:List Int) (f:Int),(tE sh a b f es).length<=es.length+2*(aT sh es).length
 | [],_=>by simp[tE]
 | e::r,f=>by
  rw[tE,cz,dH,dH,oJ];have x:=RL sh a b r (f+(bf sh e).length)
  have y:(O5 sh a b f e).length<=1+2*(bf sh e).length:=by
   unfold O5;split
   ·simp
   ·split
    ·simp
    ·rw[sO,jG];lia
  lia
theorem yz(sh:Int->List Int)(a b:Int)(es:List Int):(b5 sh a b es).length<=es.length+2*(aT sh es).length:=by
 unfold b5;split
 ·lia
 ·exact RK sh a b es 0
theorem Dq(sh:Int->List Int)(a b:Int)(es:List Int):(kG sh a b es).length<=es.length+2*(aT sh es).length:=by
 unfold kG;split
 ·simp
 ·exact RL sh a b es 0
inductive RM(d:Nat)(vs:List V)(H:Hp)(Q:VK)(E:XK):Prop
 | mk (av:Addr->Prop) (r:Addr) (rows:dI) (s a b:Int) (sh:Int->List Int) (rk:Int->Nat) (_:vs=[.ref r,.int s,.int a,.int b]) (_:kB av H r rows) (_:rows.length<=1000) (_:(∀ es∈rows,es.length<=1000)) (_:jt rows) (_:rX rows sh) (_:(∀ x:Int,0<=x->x<rows.length->(sh x).length<=10000)) (_:(∀ x y,oA rows x y->rk y<rk x)) (_:0<=s) (_:s<rows.length) (_:rk s<=d) (_:a<=b) (_ :
 ∀ (es:List Int) (t L M:Addr) (H':Hp),rows[s.toNat]?=some es->H' t=some (.tup [.ref L,.ref M])->H' L=some (.lst ((b5 sh a b es).map V.int))->H' M=some (.lst ((kG sh a b es).map V.int))->aK H H'->H L=none->H M=none->L≠M->Q (.ref t) H')
theorem ji:aL ["_law_rows","_law_sheet","_law_start","_law_stop","_law_kept","_law_taken","_law_first","_law_entry","_law_pieces_here","_law_last","_law_low","_law_high"] ["_law_rows","_law_sheet","_law_start","_law_stop"] (aA wL):=iW
theorem Lq{f h':Addr}{d:Nat}(F:iM K "_law_cut" "_law_cut" wL f fd)(T:m7 mg)(bT:aC K mg "_law_show" jM oH g gd)(gG:aC K mg "_law_pieces" ly Nh h' Wx):aF P w K mg zt bI (d+3) f fd Wj (RM d):=by
 have vg:aF P w K mg zt bI (d+2) _ _ Nh (AB d):=xR gG.F T bT;refine iZ F ji λdP A zn s0 H vs Q E hr h=>?_;obtain⟨av,r,rows,s,p,q,sh,rk,rfl,R,ff,hes,vt,AK,G2,Bg,h0,h1,hd,hpq,k⟩:=h;obtain⟨es,iC⟩:∃ es,rows[s.toNat]?=some es:=⟨_,tO (by lia)⟩;have esl:=hes es (t7 iC);have shs:=AK s es h0 iC;have shl:=G2 s h0 h1;rw[shs]at shl;obtain⟨Bh,b,yG,F6,hb0,hrl⟩:=R.get iC
 have ze:vR Bh s=some (.ref b):=by
  have z:=gy F6;rw[show ((s.toNat:Nat):Int)=s by lia]at z;exact z
 refine⟨_,(aj (br (i:=4) ji.nd (bK ah)) (aj (br (i:=5) ji.nd (bK ah)) (aj (br (i:=6) ji.nd ay) (aj (eL PassesOwn.never rfl (cX (aW bL (pv 0) (pv 1))) (cy (i:=7) ji.nd) (aj (br (i:=8) ji.nd (aG gG vg hr (aa (pv 0) (aa (pv 7) ah)))) (aj (br (i:=9) ji.nd (bx cZ (pv 6) (iF T.iz (pv 8)))) (aj (br (i:=10) ji.nd (cT (wI rfl) rfl T.Iq PyProof.Rows.boot_max (aa ay (aa (bx cW (pv 2) (pv 6)) ah)))) (aj (br (i:=11) ji.nd (bx cW (cT (ue rfl) rfl T.Ip PyProof.Rows.boot_min (aa (pv 9) (aa (pv 3) ah))) (pv 6))) (aj (bV (PW.pt (LH (aZ gj (pv 2) (pv 3) (bw _)) (LH (aZ jm (pv 9) (pv 2) (bw _)) (JZ (aZ jm (pv 3) (pv 6) (bw _)))))) (au (aY (gx vJ qy qz cB (pv 4) (aa (pv 7) ah)))) (au (bV (PW.pt (rK (aZ jm (pv 2) (pv 6) (bw _)) (qN (aZ jm (pv 9) (pv 3) (bw _))))) (au (aY (gx vJ qy qz cB (pv 5) (aa (pv 7) ah)))) (aj (aY (gx vJ PySem.F.slot_list_extend PySem.F.type_list_extend mQ (pv 4) (aa (bx nh (j8 qP (pv 8) qO (kZ (pv 10))) (j8 qP (pv 8) (kZ (pv 11)) qO)) ah))) (au (aY (gx vJ PySem.F.slot_list_extend PySem.F.type_list_extend mQ (pv 5) (aa (j8 qP (pv 8) (kZ (pv 10)) (kZ (pv 11))) ah)))))))) (au (br (i:=6) ji.nd (pv 9))))))))) (au (aQ (c9 (aa (pv 4) (aa (pv 5) ah))))))))),?_⟩;refine⟨lF,λA hA=>⟨lF,λB hB=>?_⟩⟩;have sA:aK H (aN H A (.lst [])):=ak hA _;have sB:aK _ (aN (aN H A (.lst [])) B (.lst [])):=ak hB _;have s1:=sA.trans sB;have DB:A≠B:=az af hB;have O1:=aX sA hB
 have z0:b5 sh p q []=[]/\kG sh p q []=[]:=by
  unfold b5 kG
  constructor <;> split <;> rfl
 refine⟨_,rfl,_,rfl,r,_,_,_,rfl,rfl,bM.of (s1 _ _ yG),ze,b,rfl,⟨_,bM.of (s1 _ _ hb0)⟩,eN (K:=K) (a:=b) (xs:=es.map V.int) (λi σ H2=>∃ u1 u2 u3 u4 u5:Option V,σ=[some (.ref r),some (.int s),some (.int p),some (.int q),some (.ref A),some (.ref B),some (.int (0+((aT sh (es.take i)).length:Int))),u1,u2,u3,u4,u5]/\H2 A=some (.lst ((b5 sh p q (es.take i)).map V.int))/\H2 B=some (.lst ((kG sh p q (es.take i)).map V.int))/\aK H H2) ⟨none,none,none,none,none,rfl,(by rw[List.take_zero,z0.1];exact sB _ _ af),(by rw[List.take_zero,z0.2];exact af),s1⟩ (by rintro i σ H2 _ ⟨_,_,_,_,_,_,_,_,s2⟩;exact bM.of (s2 _ _ hb0)) ?_ ?_⟩
 ·rintro i x σ H2 hi ⟨u1,u2,u3,u4,u5,rfl,RJ,hB2,s2⟩;rw[j5]at hi;obtain⟨e,ex,rfl⟩:=Option.map_eq_some_iff.mp hi;have st:=take_snoc ex;have eA:=Jr sh p q (es.take i) e;have eB:=Js sh p q (es.take i) e;rw[← st]at eA eB
  have eF:(0+((aT sh (es.take (i+1))).length:Int))=0+((aT sh (es.take i)).length:Int)+(bf sh e).length:=by
   rw[st,nV,cz,dH,dH];simp[aT]
  have lA0:=yz sh p q (es.take i);have lB0:=Dq sh p q (es.take i);have l1:=vf sh es (i+1);have l0:=vf sh es i
  have le:(bf sh e).length<=(aT sh (es.take (i+1))).length:=by
   rw[st,nV,cz,dH,dH];lia
  have lkk:=US sh p q (0+((aT sh (es.take i)).length:Int)) e;have ltt:=UT sh p q (0+((aT sh (es.take i)).length:Int)) e;have t0:(es.take i).length<=es.length:=by rw[jG];lia
  generalize hf:0+((aT sh (es.take i)).length:Int)=fi at *;refine⟨_,rfl,_,rfl,av,r,rows,e,sh,rk,rfl,R.same s2,ff,vt,AK,G2,Bg,λaex=>?_,λo H3 h3 s3 ho=>?_⟩
  ·have nx:oA rows s (-1-e):=⟨h0,es,iC,cK.mpr ⟨by lia,by rw[show -1-(-1-e)=e by lia];exact t7 ex⟩⟩;have:=Bg _ _ nx;exact⟨(vt.G0 nx).2,by lia⟩
  have JT:=s3 _ _ RJ;have UR:=s3 _ _ hB2;refine⟨_,rfl,_,rfl,o,_,rfl,.inl (bM.of h3),_,_,rfl,rfl,?_⟩;rw[cR];refine⟨_,rfl,_,rfl,_,_,rfl,rfl,_,_,rfl,?_⟩;refine⟨_,rfl,_,rfl,_,_,rfl,_,rfl,_,_,rfl,rfl,?_⟩
  have lo0:(if p-fi > 0 then p-fi else 0).toNat=(p-fi).toNat/\0<=(if p-fi > 0 then p-fi else 0):=by
   split <;> lia
  have CV:(p=q\/(fi+((bf sh e).length:Int))<=p\/q<=fi)->(aN H3 A (.lst ((b5 sh p q (es.take i)).map V.int++[.int e]))) A=some (.lst ((b5 sh p q (es.take (i+1))).map V.int))/\(aN H3 A (.lst ((b5 sh p q (es.take i)).map V.int++[.int e]))) B=some (.lst ((kG sh p q (es.take (i+1))).map V.int)):=λc=>by
   have e1:SJ sh p q fi e=[e]:=by
    unfold SJ MM;rcases c with c|c
    ·rw[if_pos c]
    ·rw[if_pos c];split <;> rfl
   have e2:SK sh p q fi e=[]:=by
    unfold SK O5;rcases c with c|c
    ·rw[if_pos c]
    ·rw[if_pos c];split <;> rfl
   rw[af,aH DB.symm,eA,eB,e1,e2,jH,j0];exact⟨rfl,UR⟩
  have stf:∀ y:Option V,[some (V.ref r),some (.int s),some (.int p),some (.int q),some (.ref A),some (.ref B),some (.int (fi+((bf sh e).length:Int))),some (.int e),some (.ref o),some (.int (fi+((bf sh e).length:Int))),some (.int (if p-fi > 0 then p-fi else 0)),y]=[some (.ref r),some (.int s),some (.int p),some (.int q),some (.ref A),some (.ref B),some (.int (0+((aT sh (es.take (i+1))).length:Int))),some (.int e),some (.ref o),some (.int (fi+((bf sh e).length:Int))),some (.int (if p-fi > 0 then p-fi else 0)),y]:=λy=>by rw[eF]
  have keepR:∀ c:(p=q\/(fi+((bf sh e).length:Int))<=p\/q<=fi),∃ u1 u2 u3 u4 u5:Option V,[some (V.ref r),some (.int s),some (.int p),some (.int q),some (.ref A),some (.ref B),some (.int (fi+((bf sh e).length:Int))),some (.int e),some (.ref o),some (.int (fi+((bf sh e).length:Int))),some (.int (if p-fi > 0 then p-fi else 0)),some (.int ((if q<(fi+((bf sh e).length:Int)) then q else (fi+((bf sh e).length:Int)))-fi))]=[some (.ref r),some (.int s),some (.int p),some (.int q),some (.ref A),some (.ref B),some (.int (0+((aT sh (es.take (i+1))).length:Int))),u1,u2,u3,u4,u5]/\(aN H3 A (.lst ((b5 sh p q (es.take i)).map V.int++[.int e]))) A=some (.lst ((b5 sh p q (es.take (i+1))).map V.int))/\(aN H3 A (.lst ((b5 sh p q (es.take i)).map V.int++[.int e]))) B=some (.lst ((kG sh p q (es.take (i+1))).map V.int))/\aK H (aN H3 A (.lst ((b5 sh p q (es.take i)).map V.int++[.int e]))):=λc =>
   ⟨_,_,_,_,_,stf _,(CV c).1,(CV c).2,bX hA (s2.trans s3) (aM A _ _)⟩
  have mA:((b5 sh p q (es.take i)).map V.int).length<sizeLine:=aV (by rw[cR];lia);refine⟨_,rfl,_,rfl,rfl,_,rfl,dQ (λc1=>j3 ?_) (λc1=>?_)⟩
  ·exact⟨_,rfl,.inl ⟨rfl,_,bM.of JT⟩,_,rfl,A,_,_,rfl,rfl,JT,mA,_,rfl,keepR (.inl (V.int.inj (of_decide_eq_true c1)))⟩
  have VX:¬ p=q:=λz=>c1 (by rw[z];exact decide_eq_true rfl);refine⟨_,rfl,_,rfl,_,_,rfl,rfl,_,rfl,dQ (λc2=>j3 ?_) (λc2=>?_)⟩
  ·exact⟨_,rfl,.inl ⟨rfl,_,bM.of JT⟩,_,rfl,A,_,_,rfl,rfl,JT,mA,_,rfl,keepR (.inr (.inl (of_decide_eq_true c2)))⟩
  have Ou:¬ (fi+((bf sh e).length:Int))<=p:=λz=>c2 (decide_eq_true z);refine⟨_,rfl,_,rfl,_,_,rfl,rfl,_,rfl,dQ (λc3=>?_) (λc3=>?_)⟩
  ·exact⟨_,rfl,.inl ⟨rfl,_,bM.of JT⟩,_,rfl,A,_,_,rfl,rfl,JT,mA,_,rfl,keepR (.inr (.inr (of_decide_eq_true c3)))⟩
  have c3':¬ q<=fi:=λz=>c3 (decide_eq_true z);have n1:¬ ((fi+((bf sh e).length:Int))<=p\/q<=fi):=λz=>z.elim Ou c3'
  have hh:((if q<(fi+((bf sh e).length:Int)) then q else (fi+((bf sh e).length:Int)))-fi).toNat=min (bf sh e).length (q-fi).toNat/\0<=(if q<(fi+((bf sh e).length:Int)) then q else (fi+((bf sh e).length:Int)))-fi:=by
   split <;> lia
  have pq:p<q:=by lia
  have yJ:¬ (p<=fi/\(fi+((bf sh e).length:Int))<=q)->SJ sh p q fi e=(bf sh e).take (if p-fi > 0 then p-fi else 0).toNat++(bf sh e).drop ((if q<(fi+((bf sh e).length:Int)) then q else (fi+((bf sh e).length:Int)))-fi).toNat/\SK sh p q fi e=((bf sh e).take ((if q<(fi+((bf sh e).length:Int)) then q else (fi+((bf sh e).length:Int)))-fi).toNat).drop (if p-fi > 0 then p-fi else 0).toNat:=λc4=>by
   unfold SJ SK MM O5;rw[if_neg VX,if_neg VX,if_neg n1,if_neg n1,if_neg c4,if_neg c4,lo0.1,hh.1];rcases Nat.le_total (q-fi).toNat (bf sh e).length with z|z
   ·rw[Nat.min_eq_right z];exact⟨rfl,rfl⟩
   ·rw[Nat.min_eq_left z,BL z,BL (iT _),xT z,xT (iT _)];exact⟨rfl,rfl⟩
  refine⟨_,rfl,_,rfl,_,_,rfl,rfl,_,rfl,QJ (λz=>⟨_,rfl,_,rfl,_,_,rfl,rfl,_,rfl,z⟩) (λc6=>?_) (λc6=>?_)⟩
  ·have e1:SJ sh p q fi e=[]:=by unfold SJ MM;rw[if_neg VX,if_neg n1,if_pos c6]
   have e2:SK sh p q fi e=[e]:=by unfold SK O5;rw[if_neg VX,if_neg n1,if_pos c6]
   refine⟨_,rfl,.inl ⟨rfl,_,bM.of UR⟩,_,rfl,B,_,_,rfl,rfl,UR,aV (by rw[cR];lia),_,rfl,_,_,_,_,_,stf _,?_,?_,bX O1 (s2.trans s3) (aM B _ _)⟩
   ·rw[aH DB,eA,e1,jH];exact JT
   ·rw[af,eB,e2,j0];rfl
  ·obtain⟨r1,r2⟩:=yJ c6;rw[r1,dH]at lkk;rw[r2]at ltt;refine⟨_,rfl,.inl ⟨rfl,_,bM.of JT⟩,_,rfl,_,rfl,_,rfl,o,_,rfl,bM.of h3,λq1 Uu=>?_⟩;rw[yq _ lo0.2,← List.map_take];have n4:aK H3 (aN H3 q1 (.lst (((bf sh e).take (if p-fi > 0 then p-fi else 0).toNat).map V.int))):=ak Uu _;refine⟨_,rfl,_,rfl,_,rfl,o,_,rfl,bM.of (n4 _ _ h3),λq2 jz=>?_⟩;rw[Al _ hh.2,← List.map_drop];have n5:aK _ (aN (aN H3 q1 (.lst (((bf sh e).take (if p-fi > 0 then p-fi else 0).toNat).map V.int))) q2 (.lst (((bf sh e).drop ((if q<(fi+((bf sh e).length:Int)) then q else (fi+((bf sh e).length:Int)))-fi).toNat).map V.int))):=ak jz _;refine⟨q1,q2,_,_,rfl,rfl,n5 _ _ af,af,(by rw[cR,cR];exact kY (aV (by lia))),λq3 ES=>?_⟩;have n6:aK _ (aN (aN (aN H3 q1 (.lst (((bf sh e).take (if p-fi > 0 then p-fi else 0).toNat).map V.int))) q2 (.lst (((bf sh e).drop ((if q<(fi+((bf sh e).length:Int)) then q else (fi+((bf sh e).length:Int)))-fi).toNat).map V.int))) q3 (.lst (((bf sh e).take (if p-fi > 0 then p-fi else 0).toNat).map V.int++((bf sh e).drop ((if q<(fi+((bf sh e).length:Int)) then q else (fi+((bf sh e).length:Int)))-fi).toNat).map V.int))):=ak ES _;have n46:=n4.trans (n5.trans n6);have h63:(aN (aN (aN H3 q1 (.lst (((bf sh e).take (if p-fi > 0 then p-fi else 0).toNat).map V.int))) q2 (.lst (((bf sh e).drop ((if q<(fi+((bf sh e).length:Int)) then q else (fi+((bf sh e).length:Int)))-fi).toNat).map V.int))) q3 (.lst (((bf sh e).take (if p-fi > 0 then p-fi else 0).toNat).map V.int++((bf sh e).drop ((if q<(fi+((bf sh e).length:Int)) then q else (fi+((bf sh e).length:Int)))-fi).toNat).map V.int))) q3=some (.lst (((bf sh e).take (if p-fi > 0 then p-fi else 0).toNat).map V.int++((bf sh e).drop ((if q<(fi+((bf sh e).length:Int)) then q else (fi+((bf sh e).length:Int)))-fi).toNat).map V.int)):=af;generalize aN (aN (aN H3 q1 (.lst (((bf sh e).take (if p-fi > 0 then p-fi else 0).toNat).map V.int))) q2 (.lst (((bf sh e).drop ((if q<(fi+((bf sh e).length:Int)) then q else (fi+((bf sh e).length:Int)))-fi).toNat).map V.int))) q3 (.lst (((bf sh e).take (if p-fi > 0 then p-fi else 0).toNat).map V.int++((bf sh e).drop ((if q<(fi+((bf sh e).length:Int)) then q else (fi+((bf sh e).length:Int)))-fi).toNat).map V.int))=H6 at n46 h63;refine⟨A,q3,_,_,rfl,rfl,n46 _ _ JT,h63,(by rw[dH,cR,cR,cR];exact kY (aV (by lia))),?_⟩;have k7:cN A H6 (aN H6 A (.lst ((b5 sh p q (es.take i)).map V.int++(((bf sh e).take (if p-fi > 0 then p-fi else 0).toNat).map V.int++((bf sh e).drop ((if q<(fi+((bf sh e).length:Int)) then q else (fi+((bf sh e).length:Int)))-fi).toNat).map V.int)))):=aM A _ _;have hA7:(aN H6 A (.lst ((b5 sh p q (es.take i)).map V.int++(((bf sh e).take (if p-fi > 0 then p-fi else 0).toNat).map V.int++((bf sh e).drop ((if q<(fi+((bf sh e).length:Int)) then q else (fi+((bf sh e).length:Int)))-fi).toNat).map V.int)))) A=some (.lst ((b5 sh p q (es.take (i+1))).map V.int)):=by rw[af,eA,r1,j0,j0]
   have no:o≠A:=(az RJ ho).symm;have h37:=k7 _ _ (n46 _ _ h3) no;have hB7:=k7 _ _ (n46 _ _ UR) DB.symm;have sm7:=bX hA (s2.trans (s3.trans n46)) k7;generalize aN H6 A (.lst ((b5 sh p q (es.take i)).map V.int++(((bf sh e).take (if p-fi > 0 then p-fi else 0).toNat).map V.int++((bf sh e).drop ((if q<(fi+((bf sh e).length:Int)) then q else (fi+((bf sh e).length:Int)))-fi).toNat).map V.int)))=H7 at k7 hA7 h37 hB7 sm7;refine⟨_,rfl,.inl ⟨rfl,_,bM.of hB7⟩,_,rfl,_,rfl,_,rfl,_,rfl,_,rfl,o,_,rfl,bM.of h37,λq4 IK=>?_⟩;rw[Jd _ lo0.2 hh.2,← List.map_take,← List.map_drop];refine⟨B,q4,_,_,rfl,rfl,ak IK _ _ _ hB7,af,(by rw[cR,cR];exact kY (aV (by lia))),?_⟩;refine⟨_,rfl,_,_,_,_,_,stf _,?_,?_,bX O1 (sm7.trans (ak IK _)) (aM B _ _)⟩
   ·rw[aH DB];exact ak IK _ _ _ hA7
   ·rw[af,eB,r2,j0]
 ·rintro σ H2 ⟨u1,u2,u3,u4,u5,rfl,RJ,hB2,s2⟩;rw[cR,kX]at RJ hB2;refine⟨_,rfl,_,rfl,xj,λt ht=>k es t A B _ iC af (ak ht _ _ _ RJ) (ak ht _ _ _ hB2) (s2.trans (ak ht _)) hA O1 DB⟩
inductive uC(d:Nat)(vs:List V)(H:Hp)(Q:VK)(E:XK):Prop
 | mk (av:Addr->Prop) (r:Addr) (rows:dI) (x:Int) (f:Int->Int) (rk:Int->Nat) (_:vs=[.ref r,.int x]) (_:kB av H r rows) (_:rows.length<=1000) (_:jt rows) (_:0<=x) (_:x<rows.length) (_:Weighs rows f) (_:(∀ x y,oA rows x y->rk y<rk x)) (_:rk x<d) (_:Q (.int (f x)) H)
theorem kW:aL ["_law_rows","_law_sheet","_law_total","_law_entry"] ["_law_rows","_law_sheet"] (aA lS):=iW
theorem AD{n:Nat}(T:m7 mg)(eK:aC K mg "_law_weighed" lS oH g fd)(tY:aF P w K mg zt bI (n+1) g fd oH (uC n)):aF P w K mg zt bI (n+2) g fd oH (uC (n+1)):=by
 refine iZ eK.F kW λdP A zn s H vs Q E hr h=>?_;obtain⟨av,r,rows,x,f,rk,rfl,R,ff,vt,x0,x1,hf,Bg,hd,k⟩:=h;obtain⟨es,iC⟩:∃ es,rows[x.toNat]?=some es:=⟨_,tO (by lia)⟩;obtain⟨Bh,b,yG,F6,hb0,hrl⟩:=R.get iC
 have ze:vR Bh x=some (.ref b):=by
  have z:=gy F6;rw[show ((x.toNat:Nat):Int)=x by lia]at z;exact z
 refine⟨_,(aj (br (i:=2) kW.nd ay) (aj (eL PassesOwn.never rfl (cX (aW bL (pv 0) (pv 1))) (cy (i:=3) kW.nd) (aj (br (i:=2) kW.nd (bx cZ (pv 2) ay)) (au (bV (aZ rL (pv 3) ay (bw _)) (au (br (i:=2) kW.nd (bx cZ (pv 2) (aG eK tY hr (aa (pv 0) (aa (bx cW (pT j7 ay) (pv 3)) ah)))))) bu)))) (au (aQ (pv 2))))),?_⟩;refine⟨_,rfl,_,rfl,r,_,_,_,rfl,rfl,bM.of yG,ze,b,rfl,⟨_,bM.of hb0⟩,eN (K:=K) (a:=b) (xs:=es.map V.int) (λi σ H2=>∃ u:Option V,σ=[some (.ref r),some (.int x),some (.int (oB f (es.take i))),u]/\H2=H) ⟨none,rfl,rfl⟩ (λi σ H2 _ ⟨_,_,e⟩=>by rw[e];exact bM.of hb0) ?_ ?_⟩
 ·rintro i e σ H2 hi ⟨u,rfl,rfl⟩;rw[j5]at hi;obtain⟨e,ex,rfl⟩:=Option.map_eq_some_iff.mp hi
  have st:oB f (es.take (i+1))=oB f (es.take i)+(if e<0 then 1+f (-1-e) else 1):=by
   rw[take_snoc ex];unfold oB;rw[j0,List.sum_append];simp
  refine⟨_,rfl,_,_,rfl,rfl,?_⟩;refine⟨_,rfl,_,_,rfl,rfl,_,rfl,dQ (λc=>?_) (λc=>?_)⟩
  ·have c':e<0:=of_decide_eq_true c;have JQ:oA rows x (-1-e):=⟨x0,es,iC,cK.mpr ⟨by lia,by rw[show -1-(-1-e)=e by lia];exact t7 ex⟩⟩;obtain⟨y0,y1⟩:=vt.G0 JQ;have rky:=Bg _ _ JQ;refine⟨_,rfl,_,rfl,_,rfl,_,rfl,_,_,rfl,rfl,av,r,rows,-1-e,f,rk,rfl,R,ff,vt,y0,y1,hf,Bg,by lia,_,_,rfl,rfl,?_⟩;refine⟨some (.int e),?_,rfl⟩;rw[st,if_pos c'];show [some (V.ref r),some (V.int x),some (V.int (oB f (es.take i)+1+f (-1-e))),some (V.int e)]=_;rw[show oB f (es.take i)+1+f (-1-e)=oB f (es.take i)+(1+f (-1-e)) by lia]
  ·have c':¬ e<0:=λz=>c (decide_eq_true z);refine⟨some (.int e),?_,rfl⟩;rw[st,if_neg c'];rfl
 ·rintro σ H2 ⟨u,rfl,rfl⟩;rw[cR,kX,← hf x es x0 iC];exact⟨_,rfl,k⟩
theorem wD(T:m7 mg)(eK:aC K mg "_law_weighed" lS oH g fd):∀ n:Nat,aF P w K mg zt bI (n+1) g fd oH (uC n)
 | 0=>by
  have no:∀ vs H Q E,¬ uC 0 vs H Q E:=λvs H Q E h=>by
   obtain⟨_,_,_,_,_,_,_,_,_,_,_,_,_,_,h,_⟩:=h;exact Nat.not_lt_zero _ h
  exact⟨λvs H Q E h=>absurd h (no vs H Q E),λA zn s H args us vs Q E _ _ _ _ h=>absurd h (no vs H Q E)⟩
 | n+1=>AD T eK (wD T eK n)
theorem Reach.trans{E:Int->Int->Prop}{a b c:Int}(h:Reach E a b)(g:Reach E b c):Reach E a c:=by
 induction g with
 | one e=>exact .step h e
 | step _ e ih=>exact .step ih e
theorem Jt{p q:Nat->Bool}(h:∀ i,p i=true->q i=true):∀ n,cnt n p<=cnt n q
 | 0=>iT _
 | n+1=>by
  rw[yW,yW];have ih:=Jt h n;by_cases c:p n=true
  ·rw[if_pos c,if_pos (h n c)];lia
  ·rw[if_neg c];lia
open Classical in
theorem Yb{rows:dI}(sd:jt rows)(l:rows.length<=40)(h:∀ x,¬ Reach (oA rows) x x):FP rows:=by
 refine⟨λx=>cnt rows.length λi=>decide (Reach (oA rows) x (i:Int)),λx=>jY (Cv _ _) l,λx y n=>?_⟩;obtain⟨y0,y1⟩:=sd.G0 n;have yy:((y.toNat:Nat):Int)=y:=by lia
 have a:=Jt (p:=λi=>decide (Reach (oA rows) y (i:Int))) (q:=λi=>decide (Reach (oA rows) x (i:Int))&&decide (i≠y.toNat)) (λi hi=>by
  have r:=of_decide_eq_true hi;rw[Bool.and_eq_true];refine⟨decide_eq_true ((Reach.one n).trans r),decide_eq_true λz=>?_⟩;rw[z,yy]at r
  exact h _ r) rows.length
 have b:=yX y.toNat rows.length (p:=λi=>decide (Reach (oA rows) x (i:Int))) (q:=λi=>decide (Reach (oA rows) x (i:Int))&&decide (i≠y.toNat)) (by lia) (decide_eq_true (by rw[yy];exact .one n)) (λ_=>rfl);show cnt _ _<cnt _ _;lia
theorem M5{rows:dI}{s:Nat}{es:List Int}{x y:Int}(h:oA (rows.set s es) x y)(ne:x.toNat≠s):oA rows x y:=by
 obtain⟨x0,zD,e,hy⟩:=h;rw[List.getElem?_set_ne (λz=>ne z.symm)]at e;exact⟨x0,zD,e,hy⟩
theorem RN{rows:dI}{s:Int}{es:List Int}(s0:0<=s)(R:FP rows)(n:¬ Reach (oA (rows.set s.toNat es)) s s):∀ x,¬ Reach (oA (rows.set s.toNat es)) x x:=by
 have key:∀ {a b:Int},Reach (oA (rows.set s.toNat es)) a b->Reach (oA rows) a b\/((a=s\/Reach (oA (rows.set s.toNat es)) a s)/\Reach (oA (rows.set s.toNat es)) s b):=by
  intro a b r
  induction r with
  | one e =>
   by_cases c:a.toNat=s.toNat
   ·have q:a=s:=by have:=e.1;lia
    rw[q]at e;exact .inr ⟨.inl q,.one e⟩
   ·exact .inl (.one (M5 e c))
  | @step y z r e ih =>
   by_cases c:y.toNat=s.toNat
   ·have q:y=s:=by have:=e.1;lia
    rw[q]at r e;exact .inr ⟨.inr r,.one e⟩
   ·rcases ih with i|i
    ·exact .inl (.step i (M5 e c))
    ·exact .inr ⟨i.1,.step i.2 e⟩
 intro x r;rcases key r with z|⟨z|z,y⟩
 ·exact R.irr z
 ·rw[z]at y;exact n y
 ·exact n (y.trans z)
theorem OM(f:Int->Int)(e:Int)(r:List Int):oB f (e::r)=(if e<0 then 1+f (-1-e) else 1)+oB f r:=by unfold oB;rw[oK,List.sum_cons]
theorem M6{sh:Int->List Int}{f:Int->Int}:∀ {es:List Int},(∀ y∈eG es,((sh y).length:Int)<=f y)->(es.length:Int)<=oB f es/\((aT sh es).length:Int)<=oB f es
 | [],_=>by simp[oB,aT]
 | e::r,h=>by
  have ih:=M6 (es:=r) λy hy=>h y (cK.mpr ⟨(cK.mp hy).1,t6 _ (cK.mp hy).2⟩);rw[OM,cz,dH,oJ];unfold bf;by_cases c:e<0
  ·have z:=h (-1-e) (cK.mpr ⟨by lia,by rw[show -1-(-1-e)=e by lia];simp⟩);rw[if_pos c,if_pos c];lia
  ·rw[if_neg c,if_neg c,xh];lia
theorem Ju{rows:dI}{sh:Int->List Int}{f:Int->Int}(sd:jt rows)(R:FP rows)(hs:rX rows sh)(hw:Weighs rows f):∀ x:Int,0<=x->∀ es,rows[x.toNat]?=some es->(es.length:Int)<=f x/\((sh x).length:Int)<=f x:=by
 obtain⟨rk,_,hd⟩:=R
 have key:∀ (k:Nat) (x:Int),rk x<k->0<=x->∀ es,rows[x.toNat]?=some es->(es.length:Int)<=f x/\((sh x).length:Int)<=f x:=by
  intro k
  induction k with
  | zero=>intro x h;lia
  | succ k ih =>
   intro x hx x0 es he;rw[hw x es x0 he,hs x es x0 he];refine M6 λy hy=>?_;have n:oA rows x y:=⟨x0,es,he,hy⟩;obtain⟨y0,y1⟩:=sd.G0 n;have:=hd _ _ n;exact (ih y (by lia) y0 _ (tO (by lia))).2
 exact λx=>key (rk x+1) x (Nat.lt_succ_self _)
theorem RO{rows:dI}{sh:Int->List Int}{N:Int->Prop}(vt:jt rows)(Bg:FP rows)(AK:rX rows sh)(hN:∀ es∈rows,∀ e∈es,0<=e->N e):∀ x:Int,0<=x->x<rows.length->∀ y∈sh x,N y:=by
 obtain⟨rk,hb,hd⟩:=Bg
 have key:∀ (k:Nat) (x:Int),rk x<k->0<=x->x<rows.length->∀ y∈sh x,N y:=by
  intro k
  induction k with
  | zero=>intro x h;lia
  | succ k ih =>
   intro x hx x0 x1 y hy;have he:rows[x.toNat]?=some rows[x.toNat]:=tO (by lia);rw[AK x _ x0 he]at hy;unfold aT at hy;obtain⟨e,hm,hy⟩:=List.mem_flatMap.mp hy;unfold bf at hy;by_cases c:e<0
   ·rw[if_pos c]at hy;have nx:oA rows x (-1-e):=⟨x0,_,he,cK.mpr ⟨by lia,by rw[show -1-(-1-e)=e by lia];exact hm⟩⟩;obtain⟨a,b⟩:=vt.G0 nx;have:=hd _ _ nx;exact ih _ (by lia) a b y hy
   ·rw[if_neg c]at hy;rw[List.mem_singleton.mp hy];exact hN _ (t7 he) e hm (by lia)
 exact λx=>key (rk x+1) x (Nat.lt_succ_self _)
def xS(n m:Nat)(e:Int):Prop:=(0<=e/\e<(n:Nat))\/(e<0/\-1-e<(m:Nat))
structure Good(n:Nat)(rows:dI):Prop where
 en:∀ es∈rows,∀ e∈es,xS n rows.length e
 rk:FP rows
 ln:rows.length<=40
 wt:∃ f,Weighs rows f/\∀ x:Int,0<=x->x<rows.length->f x<=200
theorem GN{n:Nat}{rows:dI}(h:∀ es∈rows,∀ e∈es,xS n rows.length e):jt rows:=λes he y hy=>by
 obtain⟨y0,hm⟩:=cK.mp hy;rcases h es he _ hm with z|z
 ·lia
 ·have:=z.2;lia
structure Gd(n:Nat)(rows:dI)(sh:Int->List Int):Prop where
 sn:Seen rows sh
 in_:∀ x:Int,0<=x->x<rows.length->∀ a∈sh x,0<=a/\a<(n:Nat)
 sl:∀ x:Int,0<=x->x<rows.length->(sh x).length<=200
 es:∀ es∈rows,es.length<=200
 en:∀ es∈rows,∀ e∈es,xS n rows.length e
 ln:rows.length<=40
theorem Good.es{n:Nat}{rows:dI}(h:Good n rows):∀ es∈rows,es.length<=200:=by
 obtain⟨en,rk,ln,f,hw,hm⟩:=h;obtain⟨sh,hs⟩:=Dm rk;intro es he;obtain⟨i,hi⟩:=List.mem_iff_getElem?.mp he;have il:=(List.getElem?_eq_some_iff.mp hi).1;have a:=Ju (GN en) rk hs hw (i:Int) (by lia) es (by rw[Int.toNat_natCast];exact hi);have:=hm (i:Int) (by lia) (by lia);lia
theorem Good.RP{n:Nat}{rows:dI}(h:Good n rows):∃ sh,Gd n rows sh:=by
 have hes:=h.es;obtain⟨en,rk,ln,f,hw,hm⟩:=h;obtain⟨sh,hs⟩:=Dm rk;have sd:=GN en
 have sl:∀ x:Int,0<=x->x<rows.length->(sh x).length<=200:=λx x0 x1=>by
  have a:=Ju sd rk hs hw x x0 _ (tO (by lia));have:=hm x x0 x1;lia
 refine⟨sh,⟨λes he=>by have:=hes es he;lia,sd,rk,hs,λx x0 x1=>by have:=sl x x0 x1;lia⟩,RO sd rk hs (λes he e hm e0=>?_),sl,hes,en,ln⟩;rcases en es he e hm with z|z
 ·exact z
 ·lia
theorem Good.bears{n:Nat}{rows:dI}(h:Good n rows):∃ f,uy rows f:=by
 have hes:=h.es;obtain⟨en,rk,ln,f,hw,hm⟩:=h;exact⟨f,by lia,λes he=>by have:=hes es he;lia,GN en,rk,hw,hm⟩
theorem RQ{n:Nat}{rows:dI}{s:Nat}{es:List Int}(h:∀ es∈rows,∀ e∈es,xS n rows.length e)(g:∀ e∈es,xS n rows.length e):∀ zD∈rows.set s es,∀ e∈zD,xS n (rows.set s es).length e:=by
 intro zD hm;rw[List.length_set];rcases List.mem_or_eq_of_mem_set hm with z|z
 ·exact h zD z
 ·rw[z];exact g
theorem Jv{sh:Int->List Int}{N:Int->Prop}(hs:∀ e,N e->∀ x∈bf sh e,N x)(p:Int):∀ (es:List Int) (f:Int),(∀ e∈es,N e)->∀ x,x∈aE sh p f es\/x∈bE sh p f es->N x
 | [],_,_=>λx hx=>by rcases hx with z | z <;> cases z
 | e::r,f,h=>by
  intro x hx;rw[aE,bE,List.mem_append,List.mem_append]at hx;have he:=hs e (h e (by simp));have ih:=Jv hs p r (f+(bf sh e).length) (λy hy=>h y (t6 _ hy)) x;rcases hx with (z|z)|(z|z)
  ·split at z
   ·rw[List.mem_singleton.mp z];exact h e (by simp)
   ·split at z
    ·cases z
    ·exact he x (List.mem_of_mem_take z)
  ·exact ih (.inl z)
  ·split at z
   ·cases z
   ·split at z
    ·rw[List.mem_singleton.mp z];exact h e (by simp)
    ·exact he x (List.mem_of_mem_drop z)
  ·exact ih (.inr z)
theorem RS{sh:Int->List Int}{N:Int->Prop}(hs:∀ e,N e->∀ x∈bf sh e,N x)(a b:Int):∀ (es:List Int) (f:Int),(∀ e∈es,N e)->∀ x,x∈kE sh a b f es\/x∈tE sh a b f es->N x
 | [],_,_=>λx hx=>by rcases hx with z | z <;> cases z
 | e::r,f,h=>by
  intro x hx;rw[kE,tE,List.mem_append,List.mem_append]at hx;have he:=hs e (h e (by simp));have ih:=RS hs a b r (f+(bf sh e).length) (λy hy=>h y (t6 _ hy)) x;unfold MM O5 at hx;rcases hx with (z|z)|(z|z)
  ·split at z
   ·rw[List.mem_singleton.mp z];exact h e (by simp)
   ·split at z
    ·cases z
    ·rcases List.mem_append.mp z with z|z
     ·exact he x (List.mem_of_mem_take z)
     ·exact he x (List.mem_of_mem_drop z)
  ·exact ih (.inl z)
  ·split at z
   ·cases z
   ·split at z
    ·rw[List.mem_singleton.mp z];exact h e (by simp)
    ·exact he x (List.mem_of_mem_take (List.mem_of_mem_drop z))
  ·exact ih (.inr z)
theorem AE{sh:Int->List Int}{N:Int->Prop}(hs:∀ e,N e->∀ x∈bf sh e,N x){p:Int}{es new:List Int}(h:∀ e∈es,N e)(g:∀ e∈new,N e):∀ e∈ic sh p es new,N e:=by
 intro x hx;unfold ic at hx;split at hx
 ·exact h x hx
 ·rw[List.mem_append,List.mem_append]at hx;rcases hx with (z|z)|z
  ·exact Jv hs p es 0 h x (.inl z)
  ·exact g x z
  ·exact Jv hs p es 0 h x (.inr z)
theorem Gd.cl{n:Nat}{rows:dI}{sh:Int->List Int}(h:Gd n rows sh):∀ e,xS n rows.length e->∀ x∈bf sh e,xS n rows.length x:=by
 intro e he x hx;unfold bf at hx;rcases he with z|z
 ·rw[if_neg (by lia)]at hx;rw[List.mem_singleton.mp hx];exact .inl z
 ·rw[if_pos z.1]at hx;exact .inl (h.in_ _ (by lia) z.2 x hx)
theorem Gd.own{n:Nat}{rows:dI}{sh:Int->List Int}(h:Gd n rows sh)(s:Int):∀ e∈jy.own rows s,xS n rows.length e:=by
 unfold jy.own
 cases e:rows[s.toNat]? with
 | none=>exact λ_ z=>nomatch z
 | some es=>exact h.en es (t7 e)
inductive LD
 | put (s p:Int) (r:Addr) (row:Row)
 | cut (s a b:Int)
 | UU (s a b t:Int)
 | VY (t p s a b:Int)
 | win (t p s:Int)
 | fix (s:Int)
def LD.sh:LD->Int
 | .put s _ _ _=>s
 | .cut s _ _=>s
 | .UU s _ _ _=>s
 | .VY t _ _ _ _=>t
 | .win t _ _=>t
 | .fix s=>s
def LD.At(H:Hp)(d:Addr):LD->Prop
 | .put s p r row=>H d=some (.tup [.str "put",.int s,.int p,.ref r])/\cV H r row
 | .cut s a b=>H d=some (.tup [.str "cut",.int s,.int a,.int b])
 | .UU s a b t=>H d=some (.tup [.str "move",.int s,.int a,.int b,.int t])
 | .VY t p s a b=>H d=some (.tup [.str "quote",.int t,.int p,.int s,.int a,.int b])
 | .win t p s=>H d=some (.tup [.str "window",.int t,.int p,.int s])
 | .fix s=>H d=some (.tup [.str "fix",.int s])
def LD.Ok(n m:Nat)(sh:Int->List Int):LD->Prop
 | .put s p _ row=>wY m s/\(0<=p/\p<=(sh s).length)/\row.length<=2/\∀ q∈row,0<=q.1/\q.1<q.2/\q.2<=(n:Nat)/\q.2<=q.1+40
 | .cut s a b=>wY m s/\OW a b (sh s).length
 | .UU s a b t=>wY m s/\Mv a b t (sh s).length
 | .VY t p s a b=>wY m t/\(0<=p/\p<=(sh t).length)/\wY m s/\OW a b (sh s).length
 | .win t p s=>wY m t/\(0<=p/\p<=(sh t).length)/\wY m s
 | .fix s=>wY m s
def LD.res(sh:Int->List Int)(rows:dI):LD->List Int
 | .put s p _ row=>ic sh p (own rows s) (bN row)
 | .cut s a b=>b5 sh a b (own rows s)
 | .UU s a b t=>qV sh a b t (own rows s)
 | .VY t p s a b=>ic sh p (own rows t) (((sh s).take b.toNat).drop a.toNat)
 | .win t p s=>ic sh p (own rows t) [-1-s]
 | .fix s=>sh s
theorem LD.in_{n m:Nat}{sh:Int->List Int}{dd:LD}(h:dd.Ok n m sh):wY m dd.sh:=by
 cases dd with
 | fix=>exact h
 | _=>exact h.1
theorem LD.Yc{n:Nat}{rows:dI}{sh:Int->List Int}(g:Gd n rows sh){dd:LD}(h:dd.Ok n rows.length sh):∀ e∈dd.res sh rows,xS n rows.length e:=by
 have cl:=g.cl
 cases dd with
 | put s p r row =>
  refine AE cl (g.own s) λe he=>.inl (Jq (λq hq=>?_) he);have:=h.2.2.2 q hq;exact⟨this.1,this.2.1,this.2.2.1⟩
 | cut s a b =>
  intro e he;unfold LD.res b5 at he;dsimp only at he;split at he
  ·exact g.own s e he
  ·exact RS cl a b _ 0 (g.own s) e (.inl he)
 | UU s a b t =>
  intro e he;unfold LD.res qV at he;dsimp only at he;split at he
  ·exact g.own s e he
  ·have kk:=RS cl a b (own rows s) 0 (g.own s);rw[List.mem_append,List.mem_append]at he;rcases he with (z|z)|z
   ·exact Jv cl t _ 0 (λy hy=>kk y (.inl hy)) e (.inl z)
   ·exact kk e (.inr z)
   ·exact Jv cl t _ 0 (λy hy=>kk y (.inl hy)) e (.inr z)
 | VY t p s a b =>
  refine AE cl (g.own t) λe he=>.inl (g.in_ s h.2.2.1.1 h.2.2.1.2 e (List.mem_of_mem_take (List.mem_of_mem_drop he)))
 | win t p s =>
  refine AE cl (g.own t) λe he=>.inr ?_;rw[List.mem_singleton.mp he];have:=h.2.2;unfold wY at this;lia
 | fix s=>exact λe he=>.inl (g.in_ s h.1 h.2 e he)
theorem LD.At.same{H H':Hp}{d:Addr}{dd:LD}(s:aK H H')(h:dd.At H d):dd.At H' d:=by
 cases dd with
 | put=>exact⟨s _ _ h.1,h.2.same s⟩
 | _=>exact s _ _ h
theorem RT(sh:Int->List Int){a b:Int}{N:Int->Prop}:∀ (es:List Int) (f:Int),(∀ e∈es,∀ x∈bf sh e,N x)->∀ x∈kE sh a b f es,x∈es\/N x
 | [],_,_=>λx hx=>by cases hx
 | e::r,f,h=>by
  intro x hx;rw[kE]at hx;rcases List.mem_append.mp hx with z|z
  ·unfold MM at z;split at z
   ·rw[List.mem_singleton.mp z];exact .inl (by simp)
   ·split at z
    ·cases z
    ·rcases List.mem_append.mp z with y|y
     ·exact .inr (h e (by simp) x (List.mem_of_mem_take y))
     ·exact .inr (h e (by simp) x (List.mem_of_mem_drop y))
  ·rcases RT sh r _ (λe he=>h e (t6 _ he)) x z with y|y
   ·exact .inl (t6 _ y)
   ·exact .inr y
theorem Dr(sh:Int->List Int):∀ (xs:List Int),(∀ x∈xs,0<=x)->aT sh xs=xs
 | [],_=>rfl
 | x::xs,h=>by rw[cz,wU sh (h x (by simp)),Dr sh xs λy hy=>h y (t6 _ hy)];rfl
theorem M7(sh:Int->List Int){a b:Int}(ab:a<=b):∀ (es:List Int) (f:Int),(∀ e∈es,∀ x∈bf sh e,0<=x)->(aT sh (kE sh a b f es)).length<=(aT sh es).length
 | [],_,_=>by simp[kE]
 | e::r,f,h=>by
  rw[kE,nV,cz,dH,dH];have ih:=M7 sh ab r (f+(bf sh e).length) (λe he=>h e (t6 _ he))
  have one:(aT sh (MM sh a b f e)).length<=(bf sh e).length:=by
   unfold MM;split
   ·rw[cz];simp[aT]
   ·split
    ·simp[aT]
    ·rename_i c1 c2;have h1:=h e (by simp);rw[nV,Dr sh _ λx hx=>h1 x (List.mem_of_mem_take hx),Dr sh _ λx hx=>h1 x (List.mem_of_mem_drop hx),dH,jG,sO];lia
  lia
theorem VZ(sh:Int->List Int){a b:Int}(ab:a<b):∀ (es:List Int) (f:Int),f<=a->a<f+(aT sh es).length->tE sh a b f es≠[]
 | [],f,h,g=>by simp[aT]at g;lia
 | e::r,f,h,g=>by
  rw[cz,dH]at g;rw[tE];intro z;obtain⟨z1,z2⟩:=List.append_eq_nil_iff.mp z;by_cases c1:f+(bf sh e).length<=a
  ·exact VZ sh ab r (f+(bf sh e).length) c1 (by lia) z2
  ·unfold O5 at z1;rw[if_neg (λy=>y.elim c1 (by lia))]at z1;split at z1
   ·cases z1
   ·rename_i c2;have q:=congrArg List.length z1;rw[sO,jG,tP]at q;lia
theorem Jw{sh sg:Int->List Int}(p:Int):∀ (es:List Int) (f:Int),(∀ e∈es,bf sh e=bf sg e)->aE sh p f es=aE sg p f es
 | [],_,_=>rfl
 | e::r,f,h=>by rw[aE,aE,h e (by simp),Jw p r _ λx hx=>h x (t6 _ hx)]
theorem Jx{sh sg:Int->List Int}(p:Int):∀ (es:List Int) (f:Int),(∀ e∈es,bf sh e=bf sg e)->bE sh p f es=bE sg p f es
 | [],_,_=>rfl
 | e::r,f,h=>by rw[bE,bE,h e (by simp),Jx p r _ λx hx=>h x (t6 _ hx)]
theorem Jy{sh sg:Int->List Int}:∀ (es:List Int),(∀ y∈eG es,(sg y).length<=(sh y).length)->(aT sg es).length<=(aT sh es).length
 | [],_=>by simp[aT]
 | e::r,h=>by
  rw[cz,cz,dH,dH]
  have ih:=Jy (sh:=sh) (sg:=sg) r λy hy=>h y (by
   obtain⟨a,b⟩:=cK.mp hy
   exact cK.mpr ⟨a,t6 _ b⟩)
  have one:(bf sg e).length<=(bf sh e).length:=by
   unfold bf;by_cases c:e<0
   ·rw[if_pos c,if_pos c];exact h _ (cK.mpr ⟨by lia,by rw[show -1-(-1-e)=e by lia];simp⟩)
   ·rw[if_neg c,if_neg c];exact iT _
  lia
structure aaU(rows:dI)(sh:Int->List Int)(rk:Int->Nat)(s a b:Int)(es:List Int)(rs:dI)(sg:Int->List Int):Prop where
 snd:jt rs
 nx:∀ x y,oA rs x y->oA rows x y
 Q9:rX rs sg
 bd:∀ x:Int,0<=x->x<rs.length->(sg x).length<=10000
 eq:∀ n,rk n<rk s->0<=n->n<rows.length->sg n=sh n
theorem RU{rows:dI}{sh:Int->List Int}{rk:Int->Nat}{s a b:Int}{es:List Int}(vt:jt rows)(Z2:∀ x,rk x<=40)(Vw:∀ x y,oA rows x y->rk y<rk x)(AK:rX rows sh)(G2:∀ x:Int,0<=x->x<rows.length->(sh x).length<=10000)(h0:0<=s)(h1:s<rows.length)(he:rows[s.toNat]?=some es)(ab:a<=b):∃ sg,aaU rows sh rk s a b es (rows.set s.toNat (b5 sh a b es)) sg:=by
 have hnn:=uw vt ⟨rk,Z2,Vw⟩ AK
 have ent:∀ e∈es,∀ x∈bf sh e,0<=x:=λe hm x hx=>by
  unfold bf at hx;by_cases c:e<0
  ·rw[if_pos c]at hx;have nx:oA rows s (-1-e):=⟨h0,es,he,cK.mpr ⟨by lia,by rw[show -1-(-1-e)=e by lia];exact hm⟩⟩;obtain⟨p,q⟩:=vt.G0 nx;exact hnn _ p q x hx
  ·rw[if_neg c]at hx;rw[List.mem_singleton.mp hx];lia
 have win:∀ y∈eG (b5 sh a b es),y∈eG es:=λy hy=>by
  obtain⟨y0,hm⟩:=cK.mp hy;refine cK.mpr ⟨y0,?_⟩;unfold b5 at hm;split at hm
  ·exact hm
  ·rcases RT sh es 0 ent _ hm with z|z
   ·exact z
   ·lia
 have nx:∀ x y,oA (rows.set s.toNat (b5 sh a b es)) x y->oA rows x y:=by
  rintro x y ⟨x0,zD,hx,hy⟩;by_cases c:x.toNat=s.toNat
  ·rw[c,List.getElem?_set,if_pos rfl]at hx;split at hx
   ·cases hx;exact⟨x0,es,by rw[c];exact he,win y hy⟩
   ·cases hx
  ·rw[List.getElem?_set_ne (λz=>c z.symm)]at hx;exact⟨x0,zD,hx,hy⟩
 have snd:jt (rows.set s.toNat (b5 sh a b es)):=λzD hm y hy=>by
  rw[List.length_set];rcases List.mem_or_eq_of_mem_set hm with z|z
  ·exact vt zD z y hy
  ·subst z;exact vt es (t7 he) y (win y hy)
 obtain⟨sg,hsg⟩:=Dm (rows:=rows.set s.toNat (b5 sh a b es)) ⟨rk,Z2,λx y h=>Vw x y (nx x y h)⟩
 have UW:(rows.set s.toNat (b5 sh a b es))[s.toNat]?=some (b5 sh a b es):=by
  rw[List.getElem?_set,if_pos rfl,if_pos (by lia)]
 have key:∀ (k:Nat) (x:Int),rk x<k->0<=x->x<rows.length->(rk x<rk s->sg x=sh x)/\(sg x).length<=(sh x).length:=by
  intro k
  induction k with
  | zero=>intro x h;lia
  | succ k ih =>
   intro x hx x0 x1;by_cases c:x.toNat=s.toNat
   ·have xs:x=s:=by lia
    subst xs;refine⟨λz=>by lia,?_⟩;have e1:=hsg x _ x0 UW
    have e2:aT sg (b5 sh a b es)=aT sh (b5 sh a b es):=wC λy hy=>by
     have n:=Vw x y ⟨x0,es,he,win y hy⟩;obtain⟨p,q⟩:=vt.G0 ⟨x0,es,he,win y hy⟩;exact (ih y (by lia) p q).1 n
    rw[e1,e2,AK x es x0 he];unfold b5;split
    ·exact iT _
    ·exact M7 sh ab es 0 ent
   ·have hx1:rows[x.toNat]?=some rows[x.toNat]:=tO (by lia);have e1:=hsg x _ x0 (by rw[List.getElem?_set_ne (λz=>c z.symm)];exact hx1);have e2:=AK x _ x0 hx1
    have low:∀ y∈eG rows[x.toNat],rk y<rk x/\0<=y/\y<rows.length:=λy hy=>by
     have n:oA rows x y:=⟨x0,_,hx1,hy⟩;exact⟨Vw x y n,vt.G0 n⟩
    refine⟨λz=>?_,?_⟩
    ·rw[e1,e2];exact wC λy hy=>(ih y (by have:=(low y hy).1;lia) (low y hy).2.1 (low y hy).2.2).1 (by have:=(low y hy).1;lia)
    ·rw[e1,e2];exact Jy _ λy hy=>(ih y (by have:=(low y hy).1;lia) (low y hy).2.1 (low y hy).2.2).2
 refine⟨sg,snd,nx,hsg,λx x0 x1=>?_,λn h n0 n1=>(key (rk n+1) n (Nat.lt_succ_self _) n0 n1).1 h⟩;rw[List.length_set]at x1;have:=(key (rk x+1) x (Nat.lt_succ_self _) x0 x1).2;have:=G2 x x0 x1;lia
theorem UX{rows:dI}{sh sg:Int->List Int}{rk:Int->Nat}{s a b to:Int}{es:List Int}(vt:jt rows)(Z2:∀ x,rk x<=40)(Vw:∀ x y,oA rows x y->rk y<rk x)(AK:rX rows sh)(h0:0<=s)(he:rows[s.toNat]?=some es)(a0:0<=a)(ab:a<=b)(bn:b<=(sh s).length)(R:aaU rows sh rk s a b es (rows.set s.toNat (b5 sh a b es)) sg)(hk:(rows.set s.toNat (b5 sh a b es))[s.toNat]?=some (b5 sh a b es)):ic sg to (b5 sh a b es) (kG sh a b es)=qV sh a b to es:=by
 unfold qV;by_cases c:a=b
 ·have e1:kG sh a b es=[]:=by unfold kG;rw[if_pos c]
  have e2:b5 sh a b es=es:=by unfold b5;rw[if_pos c]
  rw[if_pos c,e1,e2];rfl
 ·rw[if_neg c];have e1:kG sh a b es=tE sh a b 0 es:=by unfold kG;rw[if_neg c]
  have e2:b5 sh a b es=kE sh a b 0 es:=by unfold b5;rw[if_neg c]
  have ne:tE sh a b 0 es≠[]:=VZ sh (by lia) es 0 a0 (by rw[← AK s es h0 he];lia)
  have ag:∀ e∈b5 sh a b es,bf sg e=bf sh e:=λe hm=>by
   unfold bf;by_cases d:e<0
   ·rw[if_pos d,if_pos d];have n:oA (rows.set s.toNat (b5 sh a b es)) s (-1-e):=⟨h0,_,hk,cK.mpr ⟨by lia,by rw[show -1-(-1-e)=e by lia];exact hm⟩⟩;have n':=R.nx _ _ n;obtain⟨p,q⟩:=vt.G0 n';exact R.eq _ (Vw _ _ n') p q
   ·rw[if_neg d,if_neg d]
  unfold ic;rw[e1,if_neg ne,Jw to _ 0 ag,Jx to _ 0 ag,e2]
theorem ON{X:Cx}(hc:X.calm=true):pS X (.builtin "max") (λxs H Q=>∃ (p:Addr) (ns:List Int),xs=[.ref p]/\bM X.K H p (ns.map V.int)/\0<ns.length/\∀ M,M∈ns->(∀ a∈ns,a<=M)->Q (.int M) H):=by
 intro ao s σ H xs us Q I r h;obtain⟨p,ns,rfl,hq,ne,q⟩:=h;obtain⟨u,rfl,rx⟩:=r.one;cases (show u=Value.ref p from rx);obtain⟨aP,rv,pl,hz⟩:=I.list hq;have hi:PyProof.Rows.IntsAre aP ns:=intsAre_of rv;obtain⟨xs,e⟩:=hi.allInts.items;have hl:=pl.isList
 have OT:ns=xs.toList.map (·.1):=by
  rw[← hi.numsOf,← PySem.nums_intItems,← e]
 have hsz:0<xs.size:=by
  have h3:=ne;rw[OT,cR,Array.length_toList]at h3;exact h3
 rw[e]at hl;refine PySem.max_intList (I.ok.hd hc) hl hsz λv h' tk hv hk=>?_;obtain⟨t,rfl⟩:=PySem.intItems_at hv;obtain⟨h1,h2⟩:=PySem.argBest_gt (PySem.numAt xs) (xs.size-1);refine⟨.int _,H,I.kept hk,⟨t,rfl⟩,q _ ?_ λa ha=>?_⟩
 ·rw[OT,PySem.numAt_eq];exact PySem.getD_mem (by rw[cR,Array.length_toList];lia)
 ·rw[OT]at ha;obtain⟨j,hj,rfl⟩:=PySem.mem_getD ha;rw[cR,Array.length_toList]at hj;rw[← PySem.numAt_eq];exact h2 j (by lia)
inductive RV(vs:List V)(H:Hp)(Q:VK)(E:XK):Prop
 | mk (av:Addr->Prop) (r:Addr) (rows:dI) (s:Int) (_:vs=[.ref r,.int s]) (_:kB av H r rows) (_:rows.length<=40) (_:∀ es∈rows,es.length<=100000) (_:jt rows) (_:0<=s) (_:s<rows.length) (_:¬ Reach (oA rows) s s->∀ x,¬ Reach (oA rows) x x) (_:∀ (b:Bool) (H':Hp),aK H H'->(b=true->FP rows/\∃ f,Weighs rows f/\∀ x:Int,0<=x->x<rows.length->f x<=200)->Q (.bl b) H')
theorem Jz:aL ["_law_rows","_law_sheet"] ["_law_rows","_law_sheet"] (aA rQ):=iW
theorem JA{f fr:Addr}(F:iM K "_law_fits" "_law_fits" rQ f fd)(T:m7 mg)(pM:aC K mg "_law_reached" pF oH fr gr)(eK:aC K mg "_law_weighed" lS oH fw gw):aF P w K mg zt bI 43 f fd oH RV:=by
 have Eb:aF P w K mg zt bI 1 _ _ oH Fe:=Dp pM.F T;have tY:aF P w K mg zt bI 42 _ _ oH (uC 41):=wD T eK 41;refine iZ F Jz λdP A zn s0 H vs Q E hr h=>?_;obtain⟨av,r,rows,s,rfl,R,ln,he,sd,s0,s1,rg,k⟩:=h;refine⟨_,(aj (bV (aZ ND (pv 1) (aG pM Eb hr (aa (pv 0) (aa (pv 1) ah))) rfl) (au (aQ vo)) bu) (au (aQ (lZ jm (cT (ON rfl) rfl T.Iq PyProof.Rows.boot_max (aa (lT (N:=["_law_other","_law_rows"]) (ur (sc:=aA rQ) (NX:=["_law_rows","_law_sheet"]) (jx:=[none,some 0]) rfl rfl rfl (by decide +kernel) (by decide +kernel) rfl (by decide +kernel) rfl (by decide +kernel)) rfl (oN rfl T.pJ (aa (iF T.iz (pv 0)) ah)) (λ_ _ _ _ _ _=>(cy (i:=0) (show List.Nodup (["_law_other","_law_rows"]:List Str) by decide +kernel))) (λ_ _ _ _ _ _=>lC) (λ_ _ _ _ _ _=>(aG eK tY hr (aa (pv 1) (aa (pv 0) ah))))) ah)) ay (bw _))))),?_⟩;refine⟨_,rfl,_,rfl,_,rfl,av,r,rows,s,rfl,R,by lia,he,sd,s0,s1,λL o H1 ho sm iff=>?_⟩;refine⟨o,_,rfl,.inl (bM.of ho),rfl,EL L,_,rfl,?_⟩;rw[Ms];by_cases hm:s∈L
 ·rw[decide_eq_true hm];exact j3 (k false H1 sm λz=>nomatch z)
 rw[decide_eq_false hm];refine gH ?_;have R1:=Yb sd ln (rg λz=>hm ((iff s).mpr z));obtain⟨f,hf⟩:=Oh R1;obtain⟨rk,rb,dn⟩:=id R1;have Rs:=R.same sm;obtain⟨vs,ou,al⟩:=id Rs;have lv:=al.len;have gN:∀ i:Nat,((List.range i).map λj:Nat=>f (j:Int)).length=i:=λi=>by rw[cR,List.length_range]
 refine⟨_,rfl,r,_,rfl,.inl (bM.of ou),_,rfl,by lia,by lia,λacc dR=>Ib (lo:=0) (k:=((vs.length:Nat):Int).toNat) (λi σ H2=>∃ u:Option V,σ=[u,some (.ref r)]/\H2 acc=some (.lst (((List.range i).map λj:Nat=>f (j:Int)).map V.int))/\aK H1 H2) ⟨none,rfl,af,ak dR _⟩ ?_ ?_⟩
 ·rintro i σ H2 hi ⟨u,rfl,ha,s2⟩;have il:i<rows.length:=by lia
  refine⟨_,rfl,_,rfl,av,r,rows,0+(i:Int),f,rk,rfl,Rs.same s2,by lia,sd,by lia,by lia,hf,dn,by have:=rb (0+(i:Int));lia,_,ha,(by rw[cR,gN];exact aV (by lia)),_,rfl,?_,bX dR s2 (aM acc _ _)⟩;rw[af,List.range_succ,j0,j0,Int.zero_add];rfl
 ·rintro σ H2 ⟨u,rfl,ha,s2⟩;refine⟨acc,_,rfl,bM.of ha,by rw[gN];lia,λM _ hM=>⟨_,_,rfl,rfl,?_⟩⟩;refine k _ H2 (sm.trans s2) λz=>⟨R1,f,hf,λx x0 x1=>?_⟩;have y:=hM (f x) (List.mem_map.mpr ⟨x.toNat,List.mem_range.mpr (by lia),by rw[show ((x.toNat:Nat):Int)=x by lia]⟩);have:=of_decide_eq_true z;lia
theorem cM{a b:Str}(h:a≠b){A B:Prop}(z:B):if decide (V.str a=V.str b)=true then A else B:=by
 rw[if_neg λy=>h (V.str.inj (of_decide_eq_true y))];exact z
theorem mq{a:Str}{A B:Prop}(z:A):if decide (V.str a=V.str a)=true then A else B:=by
 rw[if_pos (decide_eq_true rfl)];exact z
theorem OJ.at_{W:Addr->Prop}{ik:Addr}{H:Hp}{a:Addr}{rows:dI}(h:OJ W ik ps H a rows):kB (λ_=>False) H a rows:=by
 obtain⟨_,_,_,vs,hv,al⟩:=h;exact⟨vs,hv,al.mono λv es ⟨b,e,_,_,_,hb⟩=>⟨b,e,λz=>z,hb⟩⟩
theorem n9{rows:dI}{s:Int}(h:wY rows.length s):rows[s.toNat]?=some (own rows s):=by
 have:s.toNat<rows.length:=by have:=h.1;have:=h.2;lia
 unfold own;rw[tO this];rfl
inductive M8(vs:List V)(H:Hp)(Q:VK)(E:XK):Prop
 | mk (W:Addr->Prop) (w d:Addr) (aS:mP) (pq:m8) (rows:dI) (n:Nat) (sh:Int->List Int) (dd:LD) (_:vs=[.ref w,.ref d]) (_:Wo W H w aS pq rows) (_:dd.At H d) (_:Gd n rows sh) (_:dd.Ok n rows.length sh) (_:n<=10000) (_:∀ (o:Addr) (H':Hp),H' o=some (.lst ((dd.res sh rows).map V.int))->(dd.res sh rows).length<=100000->aK H H'->H o=none->Q (.ref o) H')
theorem oh:aL ["_law_world_here","_law_deed_here","_law_rows","_law_name","_law_kept","_law_taken"] ["_law_world_here","_law_deed_here"] (aA sW):=iW
theorem GO{f f3:Addr}{g1 g2 g3 g4 g5:FuncData}(F:iM K "_law_after" "_law_after" sW f fd)(T:m7 mg)(bT:aC K mg "_law_show" jM oH f1 g1)(gG:aC K mg "_law_pieces" ly Nh f2 g2)(pA:aC K mg "_law_put" wK Wi f3 g3)(uD:aC K mg "_law_cut" wL Wj f4 g4)(iu:aC K mg "_law_swap" oU JV f5 g5)(jF:aC K mg "_law_spell" qd Pd f6 g6):aF P w K mg zt bI 45 f fd Wl M8:=by
 have ig:aF P w K mg zt bI 42 _ _ oH (wA 41):=qv T bT 41;have xg:aF P w K mg zt bI 44 _ _ Wi (Lo 41):=Lp pA.F T bT gG;have Fg:aF P w K mg zt bI 44 _ _ Wj (RM 41):=Lq uD.F T bT gG;have sL:aF P w K mg zt bI 1 _ _ JV GI:=wz iu.F T;have wG:aF P w K mg zt bI 1 _ _ Pd (FG 1000000):=zz jF.F T;refine iZ F oh λdP A zn s0 H vs Q E hr h=>?_;obtain⟨W,w,d,aS,pq,rows,n,sh,dd,rfl,wo,hd,g,ok,n10,k⟩:=h;have hu:=lO hr;refine⟨_,(aj (br (i:=2) oh.nd (jR hu (pv 0) bJ)) (aj (br (i:=3) oh.nd (aW bC (pv 1) ay)) (aj (bV (aZ gj (pv 3) bJ (bw _)) (au (aQ (aG pA xg hr (aa (pv 2) (aa (aW bC (pv 1) ay) (aa (aW bC (pv 1) ay) (aa (aG jF wG hr (aa (aW bC (pv 1) ay) ah)) ah))))))) bu) (aj (bV (aZ gj (pv 3) bJ (bw _)) (au (aQ (aW bC (aG uD Fg hr (aa (pv 2) (aa (aW bC (pv 1) ay) (aa (aW bC (pv 1) ay) (aa (aW bC (pv 1) ay) ah))))) ay))) bu) (aj (bV (aZ gj (pv 3) bJ (bw _)) (aj (uH (aG uD Fg hr (aa (pv 2) (aa (aW bC (pv 1) ay) (aa (aW bC (pv 1) ay) (aa (aW bC (pv 1) ay) ah))))) (oM (n:=2) rfl (bR (cy (i:=4) oh.nd) (bR (cy (i:=5) oh.nd) iX)))) (au (aQ (aG pA xg hr (aa (aG iu sL hr (aa (pv 2) (aa (aW bC (pv 1) ay) (aa (pv 4) ah)))) (aa (aW bC (pv 1) ay) (aa (aW bC (pv 1) ay) (aa (pv 5) ah)))))))) bu) (aj (bV (aZ gj (pv 3) bJ (bw _)) (au (aQ (aG pA xg hr (aa (pv 2) (aa (aW bC (pv 1) ay) (aa (aW bC (pv 1) ay) (aa (j8 qP (aG bT ig hr (aa (pv 2) (aa (aW bC (pv 1) ay) ah))) (kZ (aW bC (pv 1) ay)) (kZ (aW bC (pv 1) ay))) ah))))))) bu) (aj (bV (aZ gj (pv 3) bJ (bw _)) (au (aQ (aG pA xg hr (aa (pv 2) (aa (aW bC (pv 1) ay) (aa (aW bC (pv 1) ay) (aa (bK (aa (bx cW (pT j7 ay) (aW bC (pv 1) ay)) ah)) ah))))))) bu) (aj (bV (aZ gj (pv 3) bJ (bw _)) (au (aQ (aG bT ig hr (aa (pv 2) (aa (aW bC (pv 1) ay) ah))))) bu) (au (aQ (aW bL (aW bL (jR hu (pv 0) bJ) (aW bC (pv 1) ay)) (aW bC (pv 1) ay)))))))))))),?_⟩;obtain⟨ik,jB,ps,vl,wu⟩:=id wo;have zr:=lD.k (k:=kR) wu.hw;rw[show cU (xQ ik jB ps vl) kR=some (.ref jB) by kernel_rfl]at zr;have R:=wu.hr.at_;obtain⟨rk,rb,dn⟩:=g.sn.rk;have l40:=g.ln;have lr:rows.length<=1000:=by lia
 have rb':∀ s,rk s<=41:=λs=>by have:=rb s;lia
 have e25:∀ es∈rows,es.length<=25000:=λes he=>by have:=g.es es he;lia
 refine⟨_,rfl,w,_,rfl,zr,?_⟩
 have lQ:∀ {s p:Int} {new:List Int} {q o:Addr} {H1:Hp} {Q:VK} {E:XK},wY rows.length s->kB (λ_=>False) H1 q rows->H1 o=some (.lst (new.map V.int))->new.length<=25000->aK H H1->(∀ (o:Addr) (H':Hp),H' o=some (.lst ((ic sh p (own rows s) new).map V.int))->(ic sh p (own rows s) new).length<=100000->aK H H'->H o=none->Q (.ref o) H')->Lo 41 [.ref q,.int s,.int p,.ref o] H1 Q E:=by
  intro s p new q o H1 Q E is R1 ho ln s1 k1;refine⟨_,q,o,rows,s,p,new,sh,rk,rfl,R1,lr,e25,g.sn.sd,g.sn.ss,g.sn.ln,dn,is.1,is.2,rb' s,ho,ln,λes o2 H2 ua h2 l2 s2 f2=>?_⟩;rw[n9 is]at ua;cases ua;exact k1 o2 H2 h2 l2 (s1.trans s2) (aX s1 f2)
 cases dd with
 | put s p r row =>
  obtain⟨hd,JB⟩:=hd;obtain⟨is,ip,l2,hq⟩:=ok;refine⟨_,rfl,d,_,_,_,rfl,rfl,d8.of hd,yh,?_⟩;refine⟨_,rfl,rfl,_,rfl,mq ?_⟩;have bd:=Dl (k:=40) (row:=row) λq h=>by have:=hq q h;lia
  refine⟨_,rfl,_,rfl,d,_,_,_,rfl,rfl,d8.of hd,yZ,_,rfl,d,_,_,_,rfl,rfl,d8.of hd,DM,_,rfl,d,_,_,_,rfl,rfl,d8.of hd,DN,r,row,rfl,JB,λq h=>by have:=hq q h;lia,by lia,by lia,λo1 H1 h1 s1 f1=>?_⟩;exact lQ is (R.same s1) h1 (by lia) s1 k
 | cut s a b =>
  obtain⟨is,i3⟩:=ok;refine⟨_,rfl,d,_,_,_,rfl,rfl,d8.of hd,yh,?_⟩;refine⟨_,rfl,rfl,_,rfl,cM (by decide +kernel) ⟨_,rfl,rfl,_,rfl,mq ?_⟩⟩;refine⟨_,rfl,_,rfl,d,_,_,_,rfl,rfl,d8.of hd,yZ,_,rfl,d,_,_,_,rfl,rfl,d8.of hd,DM,_,rfl,d,_,_,_,rfl,rfl,d8.of hd,DN,_,jB,rows,s,a,b,sh,rk,rfl,R,lr,(λes he=>by have:=g.es es he;lia),g.sn.sd,g.sn.ss,g.sn.ln,dn,is.1,is.2,rb' s,i3.2.1,λes tu L M H1 ua ht hL hM s1 fL fM nLM=>?_⟩;rw[n9 is]at ua;cases ua;refine⟨tu,_,_,_,rfl,rfl,d8.of ht,yh,k L H1 hL ?_ s1 fL⟩;have cl:=yz sh a b (own rows s);have ls:=g.sl s is.1 is.2;rw[g.sn.ss s _ is.1 (n9 is)]at ls;have:=g.es _ (t7 (n9 is));show (b5 sh a b (own rows s)).length<=_;lia
 | UU s a b t =>
  obtain⟨is,mv⟩:=ok;have i3:=mv.1;have lo:=g.es _ (t7 (n9 is));have e:=g.sn.ss s _ is.1 (n9 is);have ls:=g.sl s is.1 is.2;rw[e]at ls;have cl:=yz sh a b (own rows s);have tl:=Dq sh a b (own rows s);refine⟨_,rfl,d,_,_,_,rfl,rfl,d8.of hd,yh,?_⟩;refine⟨_,rfl,rfl,_,rfl,cM (by decide +kernel) ⟨_,rfl,rfl,_,rfl,cM (by decide +kernel) ⟨_,rfl,rfl,_,rfl,mq ?_⟩⟩⟩;refine⟨_,rfl,_,rfl,d,_,_,_,rfl,rfl,d8.of hd,yZ,_,rfl,d,_,_,_,rfl,rfl,d8.of hd,DM,_,rfl,d,_,_,_,rfl,rfl,d8.of hd,DN,_,jB,rows,s,a,b,sh,rk,rfl,R,lr,(λes he=>by have:=g.es es he;lia),g.sn.sd,g.sn.ss,g.sn.ln,dn,is.1,is.2,rb' s,i3.2.1,λes tu L M H1 ua ht hL hM s1 fL fM nLM=>?_⟩;rw[n9 is]at ua;cases ua;obtain⟨vs,ou,al⟩:=R.same s1;have lv:=al.len;have is1:=is.1;have is2:=is.2;have N3:=s1 _ _ hd;refine⟨tu,_,rfl,d8.of ht,rfl,_,_,rfl,_,_,rfl,rfl,?_⟩;refine⟨_,rfl,_,rfl,d,_,_,_,rfl,rfl,d8.of N3,yZ,_,rfl,jB,L,s.toNat,vs,(by rw[show ((s.toNat:Nat):Int)=s by lia];rfl),ou,by lia,by lia,λq H2 hq s2 fq=>?_⟩;have hd2:=s2 _ _ N3;obtain⟨sg,RR⟩:=RU (a:=a) (b:=b) g.sn.sd rb dn g.sn.ss g.sn.ln is.1 is.2 (n9 is) i3.2.1
  have UW:(rows.set s.toNat (b5 sh a b (own rows s)))[s.toNat]?=some (b5 sh a b (own rows s)):=by
   rw[List.getElem?_set,if_pos rfl,if_pos (by lia)]
  have R2:kB (λ_=>False) H2 q (rows.set s.toNat (b5 sh a b (own rows s))):=⟨_,hq,cE.set _ (al.mono λv es z=>iO.same s2 z) ⟨L,rfl,λz=>z,s2 _ _ hL⟩⟩
  refine⟨_,rfl,d,_,_,_,rfl,rfl,d8.of hd2,yZ,_,rfl,d,_,_,_,rfl,rfl,d8.of hd2,Ue,_,rfl,_,q,M,_,s,t,kG sh a b (own rows s),sg,rk,rfl,R2,by rw[List.length_set];lia,(λzD hm=>by
   rcases List.mem_or_eq_of_mem_set hm with z|z
   ·exact e25 zD z
   ·rw[z];lia),RR.snd,RR.Q9,RR.bd,(λx y h=>dn x y (RR.nx x y h)),is.1,by rw[List.length_set];exact is.2,rb' s,s2 _ _ hM,by lia,λzD o H3 Mi h3 l3 s3 f3=>?_⟩
  rw[UW]at Mi;cases Mi;rw[UX g.sn.sd rb dn g.sn.ss is.1 (n9 is) i3.1 i3.2.1 i3.2.2 RR UW]at h3 l3;exact k o H3 h3 l3 (s1.trans (s2.trans s3)) (aX (s1.trans s2) f3)
 | VY t p s a b =>
  obtain⟨it,ip,is,i3⟩:=ok;refine⟨_,rfl,d,_,_,_,rfl,rfl,d8.of hd,yh,?_⟩;refine⟨_,rfl,rfl,_,rfl,cM (by decide +kernel) ⟨_,rfl,rfl,_,rfl,cM (by decide +kernel) ⟨_,rfl,rfl,_,rfl,cM (by decide +kernel) ⟨_,rfl,rfl,_,rfl,mq ?_⟩⟩⟩⟩;have ls:=g.sl s is.1 is.2;refine⟨_,rfl,_,rfl,d,_,_,_,rfl,rfl,d8.of hd,yZ,_,rfl,d,_,_,_,rfl,rfl,d8.of hd,DM,_,rfl,_,rfl,d,_,_,_,rfl,rfl,d8.of hd,DN,_,jB,rows,s,sh,rk,rfl,R,lr,g.sn.sd,is.1,is.2,g.sn.ss,g.sn.ln,dn,by have:=rb s;lia,λo1 H1 h1 s1 f1=>?_⟩;have N3:=s1 _ _ hd;refine⟨_,rfl,d,_,_,_,rfl,rfl,d8.of N3,Ue,_,rfl,_,rfl,d,_,_,_,rfl,rfl,d8.of N3,ZZ,_,rfl,o1,_,rfl,bM.of h1,λq hq=>?_⟩;have s2:=ak hq (.lst (pV ((sh s).map V.int) (some a) (some b)));have h2:(aN H1 q (.lst (pV ((sh s).map V.int) (some a) (some b)))) q=some (.lst ((((sh s).take b.toNat).drop a.toNat).map V.int)):=by rw[af,Jd _ i3.1 (by have:=i3.1;have:=i3.2.1;lia),List.map_drop,List.map_take]
  generalize aN H1 q (.lst (pV ((sh s).map V.int) (some a) (some b)))=H2 at s2 h2;exact lQ it (R.same (s1.trans s2)) h2 (by rw[sO,jG];lia) (s1.trans s2) k
 | win t p s =>
  obtain⟨it,ip,is⟩:=ok;refine⟨_,rfl,d,_,_,_,rfl,rfl,d8.of hd,yh,?_⟩;refine⟨_,rfl,rfl,_,rfl,cM (by decide +kernel) ⟨_,rfl,rfl,_,rfl,cM (by decide +kernel) ⟨_,rfl,rfl,_,rfl,cM (by decide +kernel) ⟨_,rfl,rfl,_,rfl,cM (by decide +kernel) ⟨_,rfl,rfl,_,rfl,mq ?_⟩⟩⟩⟩⟩;refine⟨_,rfl,_,rfl,d,_,_,_,rfl,rfl,d8.of hd,yZ,_,rfl,d,_,_,_,rfl,rfl,d8.of hd,DM,_,rfl,_,rfl,d,_,_,_,rfl,rfl,d8.of hd,DN,_,_,rfl,rfl,rV,λq hq=>?_⟩;exact lQ it (R.same (ak hq _)) af (by show 1<=25000;decide) (ak hq _) k
 | fix s =>
  refine⟨_,rfl,d,_,_,_,rfl,rfl,d8.of hd,yh,?_⟩;refine⟨_,rfl,rfl,_,rfl,cM (by decide +kernel) ⟨_,rfl,rfl,_,rfl,cM (by decide +kernel) ⟨_,rfl,rfl,_,rfl,cM (by decide +kernel) ⟨_,rfl,rfl,_,rfl,cM (by decide +kernel) ⟨_,rfl,rfl,_,rfl,cM (by decide +kernel) ⟨_,rfl,rfl,_,rfl,mq ?_⟩⟩⟩⟩⟩⟩;exact⟨_,rfl,_,rfl,d,_,_,_,rfl,rfl,d8.of hd,yZ,_,jB,rows,s,sh,rk,rfl,R,lr,g.sn.sd,ok.1,ok.2,g.sn.ss,g.sn.ln,dn,by have:=rb s;lia,λo1 H1 h1 s1 f1=>k o1 H1 h1 (by have:=g.sl s ok.1 ok.2;show (sh s).length<=_;lia) s1 f1⟩
theorem JC{n:Nat}{row:Row}(h:∀ z∈row,0<=z.1/\z.1<z.2/\z.2<=(n:Nat)):yu n row=true:=List.all_eq_true.mpr λq hq=>by
 have:=h q hq;unfold SH;simp only[Bool.and_eq_true,decide_eq_true_eq];lia
def UY:Sp:=λ_ _ _ _=>False
theorem RW{k:Nat}{f:Addr}{ps:List Str}:aF P w K mg zt bI k f fd ps UY:=⟨λvs H Q E h=>h.elim,λA zn s H args us vs Q E _ _ _ _ h=>h.elim⟩
theorem UZ{i:Int}(h0:0<=i)(h1:i<=20000):zF i:=by
 have a:(20000:Int)<10^60:=by decide
 exact⟨by lia,by lia⟩
inductive RX(C CS CW CB:Addr)(vs:List V)(H:Hp)(Q:VK)(E:XK):Prop
 | mk (U:Addr->Prop) (x d:Addr) (pe:m8) (aB:oF) (aS:mP) (nW:Nat) (cF:Row) (rows:dI) (sh:Int->List Int) (dd:LD) (_:vs=[.ref x,.ref d]) (_:yv C CS CW CB U H x pe aB aS nW cF) (_:pe.getLast?=some rows) (_:pe.length<=900) (_:aB.length<=900) (_:aS.length<=10000) (_:dd.At H d) (_:Gd aS.length rows sh) (_:dd.Ok aS.length rows.length sh) (_:∃ f,uy (lW rows dd.sh.toNat (dd.res sh rows)) f) (_:∀ (U':Addr->Prop) (H':Hp) (ie:oF),ie.length=aB.length+1->yv C CS CW CB U' H' x (pe++[lW rows dd.sh.toNat (dd.res sh rows)]) ie aS nW cF->Ll U U' H H'->Q .jj H')
theorem A9:aL ["_law_house","_law_deed_here","_law_name"] ["_law_house","_law_deed_here"] (aA uP):=iW
theorem JD{f fS f3 h1 h2 h3 h4 h5 i1:Addr}{g1 g2 g3 g4 g5 k1 k2 k3 k4 k5 k6 k8 k9 j2:FuncData}(F:iM K "_law_done" "_law_done" uP f fd)(X:Ay K mg C CS CW CB)(A1:JR K mg CS)(A2:MV K mg)(A4:X3 K mg fS fZ)(A5:VM K mg CW CB)(A6:UL K mg)(aR:bQ K C "enter" "Library.enter" cC JU f1 g1)(aO:bQ K C "change" "Library.change" cS G4 f2 g2)(bW:bQ K C "shown" "Library.shown" gJ Eh f3 g3)(gF:bQ K C "ink" "Library.ink" jL lY f4 g4)(cQ:bQ K C "check_held" "Library.check_held" eY U6 f5 g5)(dN:bQ K C "pour" "Library.pour" jW Sk f6 g6)(iQ:bQ K C "fresh" "Library.fresh" ki lY f7 g7)(jd:bQ K C "put" "Library.put" nI YO f8 g8)(rf:bQ K C "cut" "Library.cut" qR Wd f9 g9)(pN:bQ K C "move" "Library.move" pD Wf h1 k1)(oj:bQ K C "quote" "Library.quote" nK Wg h2 k2)(mw:bQ K C "window" "Library.window" mh Wh h3 k3)(rj:bQ K C "fix" "Library.fix" qS Eh h4 k4)(tZ:bQ K C "back" "Library.back" xB ["self","sheet","moment"] h5 k5)(o7:aC K mg "cut_items" rP SQ h6 k6)(jZ:aC K mg "parted" sS G7 h7 k7)(lN:aC K mg "moved_items" nu SR h8 k8)(lM:aC K mg "fixed_items" nv vD h9 k9)(mL:aC K mg "shown" yc vD fS j1)(Fb:aC K mg "part" Hy pQ i1 j2):aF P w K mg zt bI 7 f fd Wm (RX C CS CW CB):=by
 have lX:aF P w K mg zt bI 4 f6 g6 Sk UY:=RW;have sM:aF P w K mg zt bI 4 f7 g7 lY UY:=RW;have Ec:aF P w K mg zt bI 4 h5 k5 ["self","sheet","moment"] UY:=RW;have vh:aF P w K mg zt bI 6 _ _ YO (Gz C CS CW CB):=wg jd.F X A1 A2 A4 A5 A6 aR aO bW gF cQ;have GP:aF P w K mg zt bI 6 _ _ Wd (MZ C CS CW CB):=Dh rf.F X A1 A2 A6 aR aO o7 jZ;have Ed:aF P w K mg zt bI 6 _ _ Wf (RE C CS CW CB):=Bu pN.F X A1 A2 A6 aR aO lN jZ;have Ds:aF P w K mg zt bI 6 _ _ Wg (E9 C CS CW CB):=Az oj.F X A1 A2 A4 A6 aR aO bW Fb;have Bv:aF P w K mg zt bI 6 _ _ Wh (Jo C CS CW CB):=zx mw.F X A1 A2 A6 aR aO;have GQ:aF P w K mg zt bI 6 _ _ Eh (VQ C CS CW CB):=Di rj.F X A1 A2 A6 aR aO lM mL;obtain⟨⟨⟨T,_⟩,⟨fi,aJ⟩,_⟩,_⟩:=X;refine iZ F A9 λdP A zn s0 H vs Q E hr h=>?_;obtain⟨U,x,d,pe,aB,aS,nW,cF,rows,sh,dd,rfl,LB,hl,l2,l3,l4,hd,g,ok,B,k⟩:=h;refine⟨_,(aj (br (i:=2) A9.nd (aW bC (pv 1) ay)) (aj (bV (aZ gj (pv 2) bJ (bw _)) (au (aQ (eT (pv 0) aJ dN lX hr ck (aa (aW bC (pv 1) ay) (aa (aW bC (pv 1) ay) ah))))) bu) (aj (bV (aZ gj (pv 2) bJ (bw _)) (au (aQ (ju (pv 0) aJ iQ sM hr ck))) bu) (aj (bV (aZ gj (pv 2) bJ (bw _)) (au (aQ (eT (pv 0) aJ jd vh hr ck (aa (aW bC (pv 1) ay) (aa (aW bC (pv 1) ay) (aa (iK jI rfl T.nP yI (aa (aW bC (pv 1) ay) ah)) ah)))))) bu) (aj (bV (aZ gj (pv 2) bJ (bw _)) (au (aQ (eT (pv 0) aJ rf GP hr ck (aa (aW bC (pv 1) ay) (aa (aW bC (pv 1) ay) (aa (aW bC (pv 1) ay) ah)))))) bu) (aj (bV (aZ gj (pv 2) bJ (bw _)) (au (aQ (eT (pv 0) aJ pN Ed hr ck (aa (aW bC (pv 1) ay) (aa (aW bC (pv 1) ay) (aa (aW bC (pv 1) ay) (aa (aW bC (pv 1) ay) ah))))))) bu) (aj (bV (aZ gj (pv 2) bJ (bw _)) (au (aQ (eT (pv 0) aJ oj Ds hr ck (aa (aW bC (pv 1) ay) (aa (aW bC (pv 1) ay) (aa (aW bC (pv 1) ay) (aa (aW bC (pv 1) ay) (aa (aW bC (pv 1) ay) ah)))))))) bu) (aj (bV (aZ gj (pv 2) bJ (bw _)) (au (aQ (eT (pv 0) aJ mw Bv hr ck (aa (aW bC (pv 1) ay) (aa (aW bC (pv 1) ay) (aa (aW bC (pv 1) ay) ah)))))) bu) (aj (bV (aZ gj (pv 2) bJ (bw _)) (au (aQ (eT (pv 0) aJ rj GQ hr ck (aa (aW bC (pv 1) ay) ah)))) bu) (au (aQ (eT (pv 0) aJ tZ Ec hr ck (aa (aW bC (pv 1) ay) (aa (aW bC (pv 1) ay) ah)))))))))))))),?_⟩;have l40:=g.ln;have l1:rows.length<=50:=by lia
 have sn:=g.sn;have one:∀ {l:List Nat},(aB++[l]).length=aB.length+1:=λ{l}=>by rw[dH];rfl
 have lQ:∀ {s:Int},wY rows.length s->zF s:=λz=>UZ z.1 (by have:=z.2;lia);have Yd:∀ {s p:Int},wY rows.length s->0<=p->p<=(sh s).length->zF p:=λz p0 p1=>UZ p0 (by have:=g.sl _ z.1 z.2;lia);obtain⟨S',UJ,d',Ul,Ye,Yg,Yh,Yi,Yj,Yk,Dy,Fw,dw',sg',ow',pw',db',tb',D4,LU⟩:=id LB;have hx:=LU.L.hx
 cases dd with
 | put s p r row =>
  obtain⟨hd,JB⟩:=hd;obtain⟨is,ip,r2,hq⟩:=ok;have hh:=JC (n:=aS.length) (row:=row) λz h=>by have:=hq z h;exact⟨this.1,this.2.1,this.2.2.1⟩
  obtain⟨as,ha,pa⟩:=id JB;refine⟨_,rfl,d,_,_,_,rfl,rfl,d8.of hd,yh,?_⟩;refine⟨_,rfl,rfl,_,rfl,cM (by decide +kernel) ⟨_,rfl,rfl,_,rfl,cM (by decide +kernel) ⟨_,rfl,rfl,_,rfl,mq ?_⟩⟩⟩;refine⟨_,rfl,x,d',_,rfl,hx,rfl,_,rfl,d,_,_,_,rfl,rfl,d8.of hd,yZ,_,rfl,d,_,_,_,rfl,rfl,d8.of hd,DM,_,rfl,d,_,_,_,rfl,rfl,d8.of hd,DN,r,_,rfl,.inl (bM.of ha),λq PL=>?_⟩;have s1:=ak PL (.lst (as.map V.ref));have Uu:cV (aN H q (.lst (as.map V.ref))) q row:=⟨as,af,pa.same s1⟩;generalize aN H q (.lst (as.map V.ref))=H1 at s1 Uu;refine⟨U,x,q,pe,aB,aS,nW,cF,row,s,p,rows,rfl,LB.same s1,Uu,⟨by lia,λz h=>by have:=hq z h;exact⟨⟨by lia,by lia⟩,⟨by lia,by lia⟩⟩⟩,by lia,hl,l1,l2,l3,lQ is,Yd is ip.1 ip.2,is,hh,⟨sh,sn,ip,λes ua=>?_⟩⟩;rw[n9 is]at ua;cases ua
  have ee:dM (cY (cJ row))=bN row:=by
   rw[rZ,qg _ λq h=>by have:=hq q h;lia]
  rw[ee];exact⟨B,λU' H' L' fr=>k U' H' _ one L' (fr.pre s1)⟩
 | cut s a b =>
  obtain⟨is,i3⟩:=ok;refine⟨_,rfl,d,_,_,_,rfl,rfl,d8.of hd,yh,?_⟩;refine⟨_,rfl,rfl,_,rfl,cM (by decide +kernel) ⟨_,rfl,rfl,_,rfl,cM (by decide +kernel) ⟨_,rfl,rfl,_,rfl,cM (by decide +kernel) ⟨_,rfl,rfl,_,rfl,mq ?_⟩⟩⟩⟩;refine⟨_,rfl,x,d',_,rfl,hx,rfl,_,rfl,d,_,_,_,rfl,rfl,d8.of hd,yZ,_,rfl,d,_,_,_,rfl,rfl,d8.of hd,DM,_,rfl,d,_,_,_,rfl,rfl,d8.of hd,DN,U,x,pe,aB,aS,nW,cF,s,a,b,rows,rfl,LB,hl,l1,l2,l3,lQ is,Yd is i3.1 (by have:=i3.2.1;have:=i3.2.2;lia),Yd is (by have:=i3.2.1;have:=i3.1;lia) i3.2.2,is,⟨sh,sn,i3,λes ua=>?_⟩⟩;rw[n9 is]at ua;cases ua;exact⟨B,λU' H' L' fr=>k U' H' _ one L' fr⟩
 | UU s a b t =>
  obtain⟨is,mv⟩:=ok;have i3:=mv.1;have i1:=i3.1;have i2:=i3.2.1;have i4:=i3.2.2;have i5:=mv.2;have sl:=g.sl s is.1 is.2;refine⟨_,rfl,d,_,_,_,rfl,rfl,d8.of hd,yh,?_⟩;refine⟨_,rfl,rfl,_,rfl,cM (by decide +kernel) ⟨_,rfl,rfl,_,rfl,cM (by decide +kernel) ⟨_,rfl,rfl,_,rfl,cM (by decide +kernel) ⟨_,rfl,rfl,_,rfl,cM (by decide +kernel) ⟨_,rfl,rfl,_,rfl,mq ?_⟩⟩⟩⟩⟩;refine⟨_,rfl,x,d',_,rfl,hx,rfl,_,rfl,d,_,_,_,rfl,rfl,d8.of hd,yZ,_,rfl,d,_,_,_,rfl,rfl,d8.of hd,DM,_,rfl,d,_,_,_,rfl,rfl,d8.of hd,DN,_,rfl,d,_,_,_,rfl,rfl,d8.of hd,Ue,U,x,pe,aB,aS,nW,cF,s,a,b,t,rows,rfl,LB,hl,l1,l2,l3,lQ is,⟨by lia,by lia⟩,⟨by lia,by lia⟩,⟨by lia,by lia⟩,is,⟨sh,sn,mv,λes ua=>?_⟩⟩;rw[n9 is]at ua;cases ua;exact⟨B,λU' H' L' fr=>k U' H' _ one L' fr⟩
 | VY t p s a b =>
  obtain⟨it,ip,is,i3⟩:=ok;refine⟨_,rfl,d,_,_,_,rfl,rfl,d8.of hd,yh,?_⟩;refine⟨_,rfl,rfl,_,rfl,cM (by decide +kernel) ⟨_,rfl,rfl,_,rfl,cM (by decide +kernel) ⟨_,rfl,rfl,_,rfl,cM (by decide +kernel) ⟨_,rfl,rfl,_,rfl,cM (by decide +kernel) ⟨_,rfl,rfl,_,rfl,cM (by decide +kernel) ⟨_,rfl,rfl,_,rfl,mq ?_⟩⟩⟩⟩⟩⟩;refine⟨_,rfl,x,d',_,rfl,hx,rfl,_,rfl,d,_,_,_,rfl,rfl,d8.of hd,yZ,_,rfl,d,_,_,_,rfl,rfl,d8.of hd,DM,_,rfl,d,_,_,_,rfl,rfl,d8.of hd,DN,_,rfl,d,_,_,_,rfl,rfl,d8.of hd,Ue,_,rfl,d,_,_,_,rfl,rfl,d8.of hd,ZZ,U,x,pe,aB,aS,nW,cF,t,p,s,a,b,rows,rfl,LB,hl,l1,l2,l3,lQ it,Yd it ip.1 ip.2,lQ is,Yd is i3.1 (by have:=i3.2.1;have:=i3.2.2;lia),Yd is (by have:=i3.2.1;have:=i3.1;lia) i3.2.2,it,is,⟨sh,sn,i3,⟨ip,λes ua=>?_⟩⟩⟩;rw[n9 it]at ua;cases ua;exact⟨B,λU' H' L' fr=>k U' H' _ one L' fr⟩
 | win t p s =>
  obtain⟨it,ip,is⟩:=ok;refine⟨_,rfl,d,_,_,_,rfl,rfl,d8.of hd,yh,?_⟩;refine⟨_,rfl,rfl,_,rfl,cM (by decide +kernel) ⟨_,rfl,rfl,_,rfl,cM (by decide +kernel) ⟨_,rfl,rfl,_,rfl,cM (by decide +kernel) ⟨_,rfl,rfl,_,rfl,cM (by decide +kernel) ⟨_,rfl,rfl,_,rfl,cM (by decide +kernel) ⟨_,rfl,rfl,_,rfl,cM (by decide +kernel) ⟨_,rfl,rfl,_,rfl,mq ?_⟩⟩⟩⟩⟩⟩⟩;refine⟨_,rfl,x,d',_,rfl,hx,rfl,_,rfl,d,_,_,_,rfl,rfl,d8.of hd,yZ,_,rfl,d,_,_,_,rfl,rfl,d8.of hd,DM,_,rfl,d,_,_,_,rfl,rfl,d8.of hd,DN,U,x,pe,aB,aS,nW,cF,t,p,s,rows,rfl,LB,hl,l1,l2,l3,lQ it,Yd it ip.1 ip.2,lQ is,it,is,⟨sh,sn,ip,λes ua=>?_⟩⟩;rw[n9 it]at ua;cases ua;exact⟨B,λU' H' L' fr=>k U' H' _ one L' fr⟩
 | fix s =>
  refine⟨_,rfl,d,_,_,_,rfl,rfl,d8.of hd,yh,?_⟩;refine⟨_,rfl,rfl,_,rfl,cM (by decide +kernel) ⟨_,rfl,rfl,_,rfl,cM (by decide +kernel) ⟨_,rfl,rfl,_,rfl,cM (by decide +kernel) ⟨_,rfl,rfl,_,rfl,cM (by decide +kernel) ⟨_,rfl,rfl,_,rfl,cM (by decide +kernel) ⟨_,rfl,rfl,_,rfl,cM (by decide +kernel) ⟨_,rfl,rfl,_,rfl,cM (by decide +kernel) ⟨_,rfl,rfl,_,rfl,mq ?_⟩⟩⟩⟩⟩⟩⟩⟩;refine⟨_,rfl,x,d',_,rfl,hx,rfl,_,rfl,d,_,_,_,rfl,rfl,d8.of hd,yZ,U,x,pe,aB,aS,nW,cF,s,rows,rfl,LB,hl,l1,l2,l3,lQ ok,ok,⟨sh,sn,B,λU' H' L' fr=>k U' H' _ one L' fr⟩⟩
inductive JE(vs:List V)(H:Hp)(Q:VK)(E:XK):Prop
 | mk (l c w:Addr) (W:Addr->Prop) (aS:mP) (pq:m8) (rq:dI) (_:vs=[.ref l,.ref w]) (_:jC H l c) (_:Wo W H w aS pq rq) (_:(∀ a,W a->a≠l/\a≠c)) (_:aS.length<=50000) (_ :
 ∀ (r:Addr) (row:Row) (H':Hp),row.length<=2->cV H' r row->(∀ p∈row,0<=p.1/\p.1<p.2/\p.2<=aS.length/\p.2<=p.1+40)->H r=none->jC H' l c->cN l H H'->Q (.ref r) H')
theorem jw:aL ["_law_src_here","_law_world_here","_law_many","_law_row","_law_k","_law_start","_law_span"] ["_law_src_here","_law_world_here"] (aA pG):=iW
theorem Dt{f:Addr}{gN:FuncData}(F:iM K "_law_ink_row" "_law_ink_row" pG f fd)(T:m7 mg)(bz:aC K mg "_law_next" kg Bb fN gN):aF P w K mg zt bI 2 f fd Ni JE:=by
 have b8:aF P w K mg zt bI 1 _ _ Bb vU:=mU bz.F T;refine iZ F jw λdP A zn s H vs Q E hr h=>?_;obtain⟨l,c,w,W,aS,pq,rq,rfl,S,wo,dw,b1,k⟩:=h;have hu:=lO hr;refine⟨_,(aj (br (i:=2) jw.nd (iF T.iz (jR hu (pv 1) bJ))) (aj (br (i:=3) jw.nd (bK ah)) (aj (eL PassesOwn.never rfl (oN rfl T.pJ (aa (bx J8 (aG bz b8 hr (aa (pv 0) (aa ay ah))) (cT (ue rfl) rfl T.Ip PyProof.Rows.boot_min (aa ay (aa (pv 2) ah)))) ah)) (cy (i:=4) jw.nd) (aj (br (i:=5) jw.nd (aG bz b8 hr (aa (pv 0) (aa (cT (wI rfl) rfl T.Iq PyProof.Rows.boot_max (aa ay (aa (pv 2) ah))) ah)))) (aj (br (i:=6) jw.nd (bx cZ ay (aG bz b8 hr (aa (pv 0) (aa (cT (wI rfl) rfl T.Iq PyProof.Rows.boot_max (aa ay (aa (cT (ue rfl) rfl T.Ip PyProof.Rows.boot_min (aa (aW bL (bK (aa ay (aa ay (aa ay (aa ay ah))))) (aG bz b8 hr (aa (pv 0) (aa ay ah)))) (aa (bx cW (pv 2) (pv 5)) ah))) ah))) ah))))) (au (aY (gx vJ qy qz cB (pv 3) (aa (c9 (aa (pv 5) (aa (bx cZ (pv 5) (pv 6)) ah))) ah))))))) (au (aQ (pv 3)))))),?_⟩;obtain⟨ik,rw,ps,vl,wu⟩:=id wo;obtain⟨as,JS,pa⟩:=id wu.hi;have la:=Paired.length pa;have zi:=lD.k (k:=kI) wu.hw;rw[show cU (xQ ik rw ps vl) kI=some (.ref ik) by kernel_rfl]at zi;refine⟨_,rfl,w,_,rfl,zi,ik,_,rfl,.inl (bM.of JS),?_⟩;refine⟨lF,λr yG=>?_⟩;have s1:=ak yG (.lst []);have r1:(aN H r (.lst [])) r=some (.lst []):=af;have nr:=S.ne yG;have S1:=S.same s1;generalize aN H r (.lst [])=H1 at s1 r1 S1;refine⟨_,rfl,l,c,3,rfl,S1,by decide,by decide,λv H2 v0 v1 S2 k2=>?_⟩;rw[show (as.map V.ref).length=aS.length by rw[cR,la]];refine⟨_,rfl,_,_,rfl,_,_,rfl,rfl,.inl ⟨by lia,by lia⟩,?_⟩
 have hm:∃ n:Nat,(v*(if (aS.length:Int)<1 then (aS.length:Int) else 1))=n/\n<=2/\(0<n->1<=aS.length):=by
  split
  ·rename_i z;refine⟨0,?_,by lia,by lia⟩;rw[show (aS.length:Int)=0 by lia];exact Int.mul_zero _
  ·exact⟨v.toNat,by rw[Int.mul_one];lia,by lia,λ_=>by lia⟩
 obtain⟨n,en,n2,n1⟩:=hm
 have hM:(if (aS.length:Int) > 1 then (aS.length:Int) else 1)=if 1<=aS.length then (aS.length:Int) else 1:=by split <;> split <;> lia
 refine⟨n,congrArg (λz=>[V.int z]) en,by lia,by lia,rC (lo:=0) (n:=((n:Nat):Int).toNat) (λj σ H3=>∃ (u4 u5 u6:Option V) (row:Row),σ=[some (.ref l),some (.ref w),some (.int (aS.length:Nat)),some (.ref r),u4,u5,u6]/\cV H3 r row/\row.length=j/\(∀ p∈row,0<=p.1/\p.1<p.2/\p.2<=aS.length/\p.2<=p.1+40)/\jC H3 l c/\cN l H H3) ⟨none,none,none,[],rfl,⟨[],(k2 r nr.1.symm).trans r1,.nil⟩,rfl,(λp hp=>nomatch hp),S2,(jy.aK.keep s1).trans (dG k2)⟩ ?_ ?_⟩
 ·rintro j σ H3 hj ⟨u4,u5,u6,row,rfl,R3,lr,hp,S3,K3⟩;have hk:1<=aS.length:=n1 (by lia);rw[if_pos hk]at hM;refine⟨_,rfl,_,rfl,_,_,rfl,l,c,_,rfl,S3,(by rw[hM];lia),(by rw[hM];lia),λa H4 a0 a1 S4 k4=>?_⟩;rw[hM]at a1;refine⟨_,rfl,FU,λt ht=>?_⟩;have s5:=ak ht (.lst [.int 4,.int 4,.int 4,.int 40]);have h5:(aN H4 t (.lst [.int 4,.int 4,.int 4,.int 40])) t=some (.lst [.int 4,.int 4,.int 4,.int 40]):=af;have nt:=S4.ne ht;have S5:=S4.same s5;generalize aN H4 t (.lst [.int 4,.int 4,.int 4,.int 40])=H5 at s5 h5 S5;refine⟨_,rfl,l,c,4,rfl,S5,by decide,by decide,λi H6 i0 i1 S6 k6=>?_⟩;obtain⟨z,hz,ez⟩:=RH (xs:=[V.int 4,.int 4,.int 4,.int 40]) i0 (by show i<4;lia)
  obtain⟨q,rfl,q0,q1⟩:∃ q:Int,z=.int q/\4<=q/\q<=40:=by
   rcases List.mem_cons.mp hz with y|hz
   ·exact⟨4,y,by decide,by decide⟩
   rcases List.mem_cons.mp hz with y|hz
   ·exact⟨4,y,by decide,by decide⟩
   rcases List.mem_cons.mp hz with y|hz
   ·exact⟨4,y,by decide,by decide⟩
   ·exact⟨40,List.mem_singleton.mp hz,by decide,by decide⟩
  refine⟨t,_,_,_,rfl,rfl,bM.of ((k6 t nt.1.symm).trans h5),ez,?_⟩
  have hX:∃ x:Int,(if (if (aS.length:Int)-a<q then (aS.length:Int)-a else q) > 1 then (if (aS.length:Int)-a<q then (aS.length:Int)-a else q) else 1)=x/\1<=x/\x<=aS.length-a/\x<=40:=⟨_,rfl,by split <;> split <;> lia,by split <;> split <;> lia,by split <;> split <;> lia⟩
  obtain⟨M,eM,M1,M2,M3⟩:=hX;refine⟨_,rfl,_,rfl,_,_,rfl,rfl,_,_,rfl,_,_,rfl,l,c,_,rfl,S6,(by rw[eM];lia),(by rw[eM];lia),λb H7 b0 b1 S7 k7=>⟨_,_,rfl,rfl,?_⟩⟩;rw[eM]at b1;have K7:cN l H3 H7:=(((dG k4).trans (jy.aK.keep s5)).trans (dG k6)).trans (dG k7);obtain⟨bs,hb,pb⟩:=R3;obtain⟨ls,hl⟩:=S3.lst;have hb7:=K7 _ _ hb nr.1.symm;have pb7:bU H7 bs row:=pb.tups λa xs e=>K7 _ _ e (dF e hl);have lb:=Paired.length pb;refine⟨_,rfl,.inl ⟨rfl,_,bM.of hb7⟩,_,rfl,_,rfl,_,rfl,_,_,rfl,rfl,xj,λp Mn=>⟨r,_,_,rfl,rfl,ak Mn _ _ _ hb7,(by rw[cR];exact aV (by lia)),?_⟩⟩;have sp:=ak Mn (.tup [.int a,.int (a+(1+b))]);have p8:(aN H7 p (.tup [.int a,.int (a+(1+b))])) p=some (.tup [.int a,.int (a+(1+b))]):=af;have hb8:=sp _ _ hb7;have S8:=S7.same sp;have K8:cN l H (aN H7 p (.tup [.int a,.int (a+(1+b))])):=(K3.trans K7).trans (jy.aK.keep sp);have pb8:=bU.snoc (p:=(a,a+(1+b))) (pb7.same sp) p8;refine⟨_,_,_,row++[(a,a+(1+b))],rfl,⟨bs++[p],by rw[j0];exact af,pb8.tups λy xs e=>?_⟩,by rw[dH,lr];rfl,λy hy=>?_,?_,λy ob e n=>?_⟩
  ·exact (aH (dF e hb8)).trans e
  ·rcases List.mem_append.mp hy with hy|hy
   ·exact hp y hy
   ·rw[List.mem_singleton.mp hy];exact⟨a0,by show a<a+(1+b);lia,by show a+(1+b)<=_;lia,by show a+(1+b)<=a+40;lia⟩
  ·obtain⟨n,ns,i,d,r',e1,e2,h3⟩:=S8;exact⟨n,ns,i,d,r',(aH nr.1).trans e1,(aH nr.2).trans e2,h3⟩
  ·exact (aH (az e yG)).trans (K8 _ _ e n)
 rintro σ H3 ⟨u4,u5,u6,row,rfl,R3,lr,hp,S3,K3⟩;exact⟨_,rfl,k r row H3 (by lia) R3 hp yG S3 K3⟩
inductive JF(vs:List V)(H:Hp)(Q:VK)(E:XK):Prop
 | mk (l c:Addr) (s m:Int) (_:vs=[.ref l,.int s,.int m]) (_:jC H l c) (_:0<=m) (_:m<=10000) (_:∀ (a b u:Int) (t:Addr) (dd:LD) (H':Hp),Mv a b u m->(dd=.cut s a b\/dd=.UU s a b u)->dd.At H' t->jC H' l c->cN l H H'->Q (.ref t) H')
theorem sN:aL ["_law_src_here","_law_sheet","_law_room","_law_start","_law_stop"] ["_law_src_here","_law_sheet","_law_room"] (aA pH):=iW
theorem Du{f:Addr}{gN:FuncData}(F:iM K "_law_move_by" "_law_move_by" pH f fd)(T:m7 mg)(bz:aC K mg "_law_next" kg Bb fN gN):aF P w K mg zt bI 2 f fd Wk JF:=by
 have b8:aF P w K mg zt bI 1 _ _ Bb vU:=mU bz.F T;refine iZ F sN λdP A zn s0 H vs Q E hr h=>?_;obtain⟨l,c,s,m,rfl,S,m0,m1,k⟩:=h;refine⟨_,(aj (br (i:=3) sN.nd (aG bz b8 hr (aa (pv 0) (aa (bx cZ (pv 2) ay) ah)))) (aj (br (i:=4) sN.nd (bx cZ (pv 3) (aG bz b8 hr (aa (pv 0) (aa (bx cZ (bx cW (pv 2) (pv 3)) ay) ah))))) (aj (bV (aZ gj (aG bz b8 hr (aa (pv 0) (aa ay ah))) ay (bw _)) (au (aQ (c9 (aa bJ (aa (pv 1) (aa (pv 3) (aa (pv 4) ah))))))) bu) (au (aQ (c9 (aa bJ (aa (pv 1) (aa (pv 3) (aa (pv 4) (aa (aG bz b8 hr (aa (pv 0) (aa (bx cZ (bx cZ (bx cW (pv 2) (pv 4)) (pv 3)) ay) ah))) ah))))))))))),?_⟩;refine⟨_,rfl,_,rfl,_,_,rfl,rfl,l,c,_,rfl,S,by lia,by lia,λa H1 a0 a1 S1 k1=>?_⟩;refine⟨_,rfl,_,rfl,_,rfl,_,rfl,_,_,rfl,rfl,_,_,rfl,rfl,l,c,_,rfl,S1,by lia,by lia,λv H2 v0 v1 S2 k2=>⟨_,_,rfl,rfl,?_⟩⟩;refine⟨_,rfl,l,c,2,rfl,S2,by decide,by decide,λz H3 _ _ S3 k3=>⟨rfl,_,rfl,?_⟩⟩;have K3:cN l H H3:=((dG k1).trans (dG k2)).trans (dG k3);refine dQ (λ_=>?_) (λ_=>?_)
 ·refine⟨_,rfl,_,rfl,_,rfl,FU,λt ht=>?_⟩;exact k a (a+v) 0 t (.cut s a (a+v)) _ ⟨⟨by lia,by lia,by lia⟩,by lia,by lia⟩ (.inl rfl) af (S3.same (ak ht _)) (K3.trans (jy.aK.keep (ak ht _)))
 ·refine⟨_,rfl,_,rfl,_,rfl,_,rfl,_,rfl,_,rfl,_,_,rfl,rfl,_,rfl,_,_,rfl,rfl,_,_,rfl,rfl,l,c,_,rfl,S3,by lia,by lia,λu H4 u0 u1 S4 k4=>⟨ZX,λt ht=>?_⟩⟩;exact k a (a+v) u t (.UU s a (a+v) u) _ ⟨⟨by lia,by lia,by lia⟩,by lia,by lia⟩ (.inr rfl) af (S4.same (ak ht _)) ((K3.trans (dG k4)).trans (jy.aK.keep (ak ht _)))
def LD.New(H:Hp):LD->Prop
 | .put _ _ r _=>H r=none
 | _=>True
inductive RY(vs:List V)(H:Hp)(Q:VK)(E:XK):Prop
 | mk (W:Addr->Prop) (l c w:Addr) (aS:mP) (pq:m8) (rows:dI) (sh:Int->List Int) (_:vs=[.ref l,.ref w]) (_:jC H l c) (_:Wo W H w aS pq rows) (_:∀ a,W a->a≠l/\a≠c) (_:Gd aS.length rows sh) (_:1<=rows.length) (_:aS.length<=10000) (_:∀ (t:Addr) (dd:LD) (H':Hp),dd.At H' t->dd.Ok aS.length rows.length sh->dd.New H->jC H' l c->cN l H H'->Q (.ref t) H')
theorem je:aL ["_law_src_here","_law_world_here","_law_rows","_law_way","_law_sheet","_law_other","_law_room","_law_place","_law_start"] ["_law_src_here","_law_world_here"] (aA uQ):=iW
theorem JG{f f3:Addr}{gN g1 g2 g3:FuncData}(F:iM K "_law_draw" "_law_draw" uQ f fd)(T:m7 mg)(bz:aC K mg "_law_next" kg Bb fN gN)(bT:aC K mg "_law_show" jM oH f1 g1)(pO:aC K mg "_law_ink_row" pG Ni f2 g2)(pP:aC K mg "_law_move_by" pH Wk f3 g3):aF P w K mg zt bI 43 f fd Ni RY:=by
 have b8:aF P w K mg zt bI 1 _ _ Bb vU:=mU bz.F T;have ig:aF P w K mg zt bI 42 _ _ oH (wA 41):=qv T bT 41;have Ef:aF P w K mg zt bI 2 _ _ Ni JE:=Dt pO.F T bz;have Eg:aF P w K mg zt bI 2 _ _ Wk JF:=Du pP.F T bz;refine iZ F je λdP A zn s0 H vs Q E hr h=>?_;obtain⟨W,l,c,w,aS,pq,rows,sh,rfl,S,wo,dw,g,r1,i1,k⟩:=h;have hu:=lO hr;refine⟨_,(aj (br (i:=2) je.nd (jR hu (pv 1) bJ)) (aj (br (i:=3) je.nd (aG bz b8 hr (aa (pv 0) (aa ay ah)))) (aj (br (i:=4) je.nd (aG bz b8 hr (aa (pv 0) (aa (iF T.iz (pv 2)) ah)))) (aj (br (i:=5) je.nd (aG bz b8 hr (aa (pv 0) (aa (iF T.iz (pv 2)) ah)))) (aj (br (i:=6) je.nd (iF T.iz (aG bT ig hr (aa (pv 2) (aa (pv 4) ah))))) (aj (br (i:=7) je.nd (aG bz b8 hr (aa (pv 0) (aa (bx cZ (pv 6) ay) ah)))) (aj (bV (aZ rL (pv 3) ay (bw _)) (au (aQ (c9 (aa bJ (aa (pv 4) (aa (pv 7) (aa (aG pO Ef hr (aa (pv 0) (aa (pv 1) ah))) ah))))))) bu) (aj (bV (aZ rL (pv 3) ay (bw _)) (au (aQ (aG pP Eg hr (aa (pv 0) (aa (pv 4) (aa (pv 6) ah)))))) bu) (aj (bV (aZ rL (pv 3) ay (bw _)) (aj (br (i:=6) je.nd (iF T.iz (aG bT ig hr (aa (pv 2) (aa (pv 5) ah))))) (aj (br (i:=8) je.nd (aG bz b8 hr (aa (pv 0) (aa (bx cZ (pv 6) ay) ah)))) (au (aQ (c9 (aa bJ (aa (pv 4) (aa (pv 7) (aa (pv 5) (aa (pv 8) (aa (bx cZ (pv 8) (aG bz b8 hr (aa (pv 0) (aa (bx cZ (bx cW (pv 6) (pv 8)) ay) ah)))) ah))))))))))) bu) (aj (bV (aZ rL (pv 3) ay (bw _)) (au (aQ (c9 (aa bJ (aa (pv 4) (aa (pv 7) (aa (pv 5) ah))))))) bu) (au (aQ (c9 (aa bJ (aa (pv 4) ah))))))))))))))),?_⟩;obtain⟨ik,jB,ps,vl,wu⟩:=id wo;have zr:=lD.k (k:=kR) wu.hw;rw[show cU (xQ ik jB ps vl) kR=some (.ref jB) by kernel_rfl]at zr;have l40:=g.ln;obtain⟨rk,rb,dn⟩:=id g.sn.rk;obtain⟨ls,hls⟩:=S.lst;have kp:∀ {H1:Hp},cN l H H1->kB (λ_=>False) H1 jB rows/\Wo W H1 w aS pq rows:=λ{H1} K1=>⟨(wu.hr.fr (λ_ z=>z) λa xs e wa _ _=>K1 _ _ e (dw a wa).1).at_,wo.fr (λa ob e z=>K1 _ _ e (dw a z).1) λa xs e=>K1 _ _ e (dF e hls)⟩
 have lv:∀ {H1:Hp},cN l H H1->∃ xs,H1 jB=some (.lst xs)/\xs.length=rows.length:=λ{H1} K1=>by
  obtain⟨xs,e,al⟩:=(kp K1).1;exact⟨xs,e,al.len⟩
 refine⟨_,rfl,w,_,rfl,zr,?_⟩;refine⟨_,rfl,l,c,13,rfl,S,by decide,by decide,λy H1 y0 y1 S1 k1=>?_⟩;have K1:cN l H H1:=dG k1;obtain⟨x1,e1,n1⟩:=lv K1;refine⟨_,rfl,_,rfl,jB,_,rfl,.inl (bM.of e1),l,c,_,rfl,S1,by lia,by lia,λs H2 a0 a1 S2 k2=>?_⟩;have K2:cN l H H2:=K1.trans (dG k2);obtain⟨x2,e2,n2⟩:=lv K2;refine⟨_,rfl,_,rfl,jB,_,rfl,.inl (bM.of e2),l,c,_,rfl,S2,by lia,by lia,λo H3 o0 o1 S3 k3=>?_⟩;have K3:cN l H H3:=K2.trans (dG k3);have is:wY rows.length s:=⟨a0,by lia⟩;have io:wY rows.length o:=⟨o0,by lia⟩;have ls:=g.sl s is.1 is.2;have lo:=g.sl o io.1 io.2;refine⟨_,rfl,_,rfl,_,jB,rows,s,sh,rk,rfl,(kp K3).1,by lia,g.sn.sd,is.1,is.2,g.sn.ss,g.sn.ln,dn,by have:=rb s;lia,λq H4 hq s4 fq=>⟨q,_,rfl,.inl (bM.of hq),?_⟩⟩;rw[cR];have K4:cN l H H4:=K3.trans (jy.aK.keep s4);refine⟨_,rfl,_,rfl,_,_,rfl,rfl,l,c,_,rfl,S3.same s4,by lia,by lia,λp H5 p0 p1 S5 k5=>?_⟩;have K5:cN l H H5:=K4.trans (dG k5);have ip:0<=p/\p<=(sh s).length:=⟨p0,by lia⟩;refine⟨_,rfl,_,_,rfl,rfl,_,rfl,dQ (λ_=>?_) (λ_=>?_)⟩
 ·refine⟨_,rfl,_,rfl,_,rfl,_,rfl,l,c,w,W,aS,pq,rows,rfl,S5,(kp K5).2,dw,by lia,λr row H6 r2 JB hq fr S6 K6=>⟨FU,λt ht=>?_⟩⟩;have st:=ak ht (.tup [.str "put",.int s,.int p,.ref r]);refine k t (.put s p r row) _ ⟨af,JB.same st⟩ ⟨is,ip,r2,hq⟩ ?_ (S6.same st) ((K5.trans K6).trans (jy.aK.keep st));show H r=none
  cases e:H r with
  | none=>rfl
  | some ob =>
   exfalso;by_cases n:r=l
   ·obtain⟨_,hl5⟩:=S5.lst;rw[n,hl5]at fr;cases fr
   ·rw[K5 _ _ e n]at fr;cases fr
 refine⟨_,rfl,_,_,rfl,rfl,_,rfl,dQ (λ_=>?_) (λ_=>?_)⟩
 ·refine⟨_,rfl,_,rfl,_,rfl,l,c,s,_,rfl,S5,by lia,by lia,λa b u t dd H6 mv hdd Yl S6 K6=>k t dd H6 Yl ?_ ?_ S6 (K5.trans K6)⟩
  ·rcases hdd with rfl|rfl
   ·exact⟨is,mv.1⟩
   ·exact⟨is,mv⟩
  ·rcases hdd with rfl|rfl <;> trivial
 refine⟨_,rfl,_,_,rfl,rfl,_,rfl,dQ (λ_=>?_) (λ_=>?_)⟩
 ·refine⟨_,rfl,_,rfl,_,jB,rows,o,sh,rk,rfl,(kp K5).1,by lia,g.sn.sd,io.1,io.2,g.sn.ss,g.sn.ln,dn,by have:=rb o;lia,λq6 H6 Uj s6 fq6=>⟨q6,_,rfl,.inl (bM.of Uj),?_⟩⟩;rw[cR];refine⟨_,rfl,_,rfl,_,_,rfl,rfl,l,c,_,rfl,S5.same s6,by lia,by lia,λa H7 b0 b1 S7 k7=>?_⟩;refine⟨_,rfl,_,rfl,_,rfl,_,rfl,_,rfl,_,rfl,_,rfl,_,rfl,_,_,rfl,rfl,_,_,rfl,rfl,l,c,_,rfl,S7,by lia,by lia,λv H8 v0 v1 S8 k8=>⟨_,_,rfl,rfl,ZY,λt ht=>?_⟩⟩;have st:=ak ht (.tup [.str "quote",.int s,.int p,.int o,.int a,.int (a+v)]);exact k t (.VY s p o a (a+v)) _ af ⟨is,ip,io,by lia,by lia,by lia⟩ trivial (S8.same st) ((((K5.trans (jy.aK.keep s6)).trans (dG k7)).trans (dG k8)).trans (jy.aK.keep st))
 refine⟨_,rfl,_,_,rfl,rfl,_,rfl,dQ (λ_=>?_) (λ_=>?_)⟩
 ·refine⟨_,rfl,_,rfl,_,rfl,FU,λt ht=>?_⟩;have st:=ak ht (.tup [.str "window",.int s,.int p,.int o]);exact k t (.win s p o) _ af ⟨is,ip,io⟩ trivial (S5.same st) (K5.trans (jy.aK.keep st))
 ·refine⟨_,rfl,xj,λt ht=>?_⟩;have st:=ak ht (.tup [.str "fix",.int s]);exact k t (.fix s) _ af is trivial (S5.same st) (K5.trans (jy.aK.keep st))
theorem LD.At.tup{H:Hp}{t:Addr}{dd:LD}(h:dd.At H t):∃ vs,H t=some (.tup vs)/\vR vs 1=some (.int dd.sh):=by
 cases dd with
 | put=>exact⟨_,h.1,rfl⟩
 | _=>exact⟨_,h,rfl⟩
theorem LD.At.kept{H H':Hp}{t:Addr}{dd:LD}(h:dd.At H t)(tp:∀ a xs,H a=some (.tup xs)->H' a=some (.tup xs))(kr:∀ s p r row,dd=.put s p r row->∀ xs,H r=some (.lst xs)->H' r=some (.lst xs)):dd.At H' t:=by
 cases dd with
 | put s p r row =>
  obtain⟨h1,as,ha,pa⟩:=h;exact⟨tp _ _ h1,as,kr _ _ _ _ rfl _ ha,pa.tups tp⟩
 | _=>exact tp _ _ h
inductive JH(C CS CW CB:Addr)(vs:List V)(H:Hp)(Q:VK)(E:XK):Prop
 | mk (l c w x:Addr) (U W:Addr->Prop) (pe:m8) (rows:dI) (aB:oF) (aS:mP) (nW:Nat) (cF:Row) (_:vs=[.ref l,.ref w,.ref x]) (_:xx C CS CW CB H l c w x U W pe rows pe rows aB aS nW cF) (_:1<=rows.length) (_:pe.length<=800) (_:aB.length<=800) (_:aS.length<=10000) (_:Good aS.length rows) (_:∀ (U' W':Addr->Prop) (D3:m8) (rows':dI) (ie:oF) (H':Hp),xx C CS CW CB H' l c w x U' W' D3 rows' D3 rows' ie aS nW cF->rows'.length=rows.length->D3.length<=pe.length+1->ie.length<=aB.length+1->Good aS.length rows'->Q (.bl true) H')
theorem wH:aL ["_law_src_here","_law_world_here","_law_house","_law_deed_here","_law_rows"] ["_law_src_here","_law_world_here","_law_house"] (aA yd):=iW
theorem JI{f f3:Addr}{g1 g2 g3 g4 g5:FuncData}(F:iM K "_law_deed" "_law_deed" yd f fd)(T:m7 mg)(vj:aC K mg "_law_draw" uQ Ni f1 g1)(iu:aC K mg "_law_swap" oU JV f2 g2)(tM:aC K mg "_law_after" sW Wl f3 g3)(vm:aC K mg "_law_fits" rQ oH f4 g4)(eV:aC K mg "_law_keep" oS JW f5 g5)(vn:aC K mg "_law_done" uP Wm f6 g6)
  (Lr:aF P w K mg zt bI 43 f1 g1 Ni RY) (JJ:aF P w K mg zt bI 45 f3 g3 Wl M8) (Ls:aF P w K mg zt bI 43 f4 g4 oH RV) (Lu:aF P w K mg zt bI 7 f6 g6 Wm (RX C CS CW CB)):aF P w K mg zt bI 46 f fd Nj (JH C CS CW CB):=by
 have sL:aF P w K mg zt bI 1 _ _ JV GI:=wz iu.F T;have mO:aF P w K mg zt bI 1 _ _ JW GH:=wm eV.F;refine iZ F wH λdP A zn s0 H vs Q E hr h=>?_;obtain⟨l,c,w,x,U,W,pe,rows,aB,aS,nW,cF,rfl,St,r1,b1,b2,b3,gd,k⟩:=h;have hu:=lO hr;refine⟨_,(aj (br (i:=3) wH.nd (aG vj Lr hr (aa (pv 0) (aa (pv 1) ah)))) (aj (br (i:=4) wH.nd (aG iu sL hr (aa (jR hu (pv 1) bJ) (aa (aW bC (pv 3) ay) (aa (aG tM JJ hr (aa (pv 1) (aa (pv 3) ah))) ah))))) (aj (bV (qB (rJ (aG vm Ls hr (aa (pv 4) (aa (aW bC (pv 3) ay) ah))))) (au (aQ vo)) bu) (aj (aY (aG eV mO hr (aa (pv 1) (aa (pv 4) ah)))) (au (aQ (Pj (JY (aG vn Lu hr (aa (pv 2) (aa (pv 3) ah))))))))))),?_⟩;obtain⟨sh,g⟩:=gd.RP;have l40:=g.ln;refine⟨_,rfl,_,rfl,W,l,c,w,aS,pe,rows,sh,rfl,St.src,St.wo,St.dw,g,r1,by lia,λt dd H1 Yl ok nw S1 K1=>?_⟩;have O9:=St.mv K1 S1;obtain⟨ik,jB,ps,vl,wu⟩:=id O9.wo;have zr:=lD.k (k:=kR) wu.hw;rw[show cU (xQ ik jB ps vl) kR=some (.ref jB) by kernel_rfl]at zr;obtain⟨_,_,_,xs,hxs,al⟩:=id wu.hr;have lv:=cE.len al;obtain⟨tv,ht,OF⟩:=Yl.tup;have is:=LD.in_ ok;have is1:=is.1;have is2:=is.2;have ss:((dd.sh.toNat:Nat):Int)=dd.sh:=by lia
 refine⟨_,rfl,w,_,rfl,zr,_,rfl,t,_,_,_,rfl,rfl,d8.of ht,OF,_,rfl,_,rfl,W,w,t,aS,pe,rows,aS.length,sh,dd,rfl,O9.wo,Yl,g,ok,by lia,λo H2 ho lo s2 fo=>?_⟩;refine⟨jB,o,dd.sh.toNat,xs,by rw[ss];rfl,s2 _ _ hxs,by lia,by lia,λq H3 hq s3 fq=>?_⟩;have Cs:=s2.trans s3;have fq1:=aX s2 fq;have ne:=LD.Yc g ok;have en':=RQ (s:=dd.sh.toNat) g.en ne;have R3:kB (λ_=>False) H3 q (rows.set dd.sh.toNat (dd.res sh rows)):=⟨_,hq,cE.set _ (al.mono λv es ⟨b,e,_,_,_,hb⟩=>⟨b,e,λz=>z,Cs _ _ hb⟩) ⟨o,rfl,λz=>z,s3 _ _ ho⟩⟩;have hl3:(rows.set dd.sh.toNat (dd.res sh rows)).length=rows.length:=List.length_set
 refine⟨_,rfl,_,rfl,t,_,_,_,rfl,rfl,d8.of (Cs _ _ ht),OF,_,q,_,dd.sh,rfl,R3,by lia,(λes he=>by
  rcases List.mem_or_eq_of_mem_set he with z|z
  ·have:=g.es es z;lia
  ·rw[z];exact lo),GN en',is1,by lia,RN is1 g.sn.rk,λb H4 s4 hb=>⟨b,rfl,?_⟩⟩
 have OE:=Cs.trans s4;have RZ:=O9.same OE
 cases b with
 | false=>exact j3 (k U W pe rows aB H4 RZ rfl (by lia) (by lia) gd)
 | true =>
  refine gH ?_;obtain⟨R5,f5,w5,m5⟩:=hb rfl;have gd':Good aS.length (rows.set dd.sh.toNat (dd.res sh rows)):=⟨en',R5,by lia,f5,w5,m5⟩;have wu4:M0 W H4 w ik jB ps vl aS pe rows:=wu.fr (λa ob e _=>OE _ _ e) λa xs e=>OE _ _ e;have nq:=O9.new fq1;have no:=O9.new fo;obtain⟨VU,rv⟩:=Wo.swap wu4 (OE _ _ hxs) (s4 _ _ hq) (s4 _ _ (s3 _ _ ho)) nq.2.1 no.2.1;refine⟨_,rfl,_,rfl,_,w,q,aS,pe,rows,rows.set dd.sh.toNat (dd.res sh rows),rfl,⟨ik,jB,ps,vl,VU⟩,by lia,λik' za ⟨rw2,vl',ee⟩=>?_,λH5 wo5 Tc tp5 _=>?_⟩
  ·rw[wu4.hw]at ee;simp only[Option.some.injEq,HO.dK.injEq,xQ,List.cons.injEq,Prod.mk.injEq,V.ref.injEq,true_and,and_true]at ee;obtain⟨rfl,rfl,rfl,rfl⟩:=ee;exact rv
  have V0:=RZ.kept wo5 (λa z y=>by
   rcases y with y|y|y
   ·exact (St.du a z).1 y
   ·exact no.1 (by rw[← y];exact z)
   ·exact nq.1 (by rw[← y];exact z)) (λa y=>by
   rcases y with y|y|y
   ·exact St.dw a y
   ·rw[y];exact no.2.2
   ·rw[y];exact nq.2.2) Tc tp5
  have aeG:dd.At H5 t:=(Yl.same OE).kept tp5 λs p r row ed xs' hr'=>by
   rw[ed]at nw Yl;have nr:=St.new (show H r=none from nw);obtain⟨_,as,ha,_⟩:=Yl;refine Tc _ _ hr' λy=>?_;rcases y with y|y|y
   ·exact nr.2.1 y
   ·rw[y,fo]at ha;cases ha
   ·rw[y,fq1]at ha;cases ha
  refine⟨_,rfl,_,rfl,U,x,t,pe,aB,aS,nW,cF,rows,sh,dd,rfl,V0.O7,V0.lst,by lia,by lia,b3,aeG,g,ok,by rw[Dk _ (by lia)];exact gd'.bears,λU' H6 ie ll L6 OU=>?_⟩;obtain⟨St6,_⟩:=V0.X9 L6 (rows':=lW rows dd.sh.toNat (dd.res sh rows)) (by simp) OU;rw[Dk _ (by lia)]at St6;show Q (.bl (decide (V.jj=V.jj))) H6;rw[decide_eq_true rfl];exact k U' _ _ _ ie H6 St6 hl3 (by rw[dH];exact iT _) (by lia) gd'
abbrev e0(n:Nat):dI:=List.replicate n []
theorem GR(n:Nat):e0 n++[[]]=e0 (n+1):=(List.replicate_succ').symm
theorem yC{n:Nat}{es:List Int}(h:es∈e0 n):es=[]:=(List.mem_replicate.mp h).2
theorem Ym{n:Nat}{x y:Int}:¬ oA (e0 n) x y:=λ⟨_,es,he,hy⟩=>by
 rw[yC (t7 he)]at hy;cases hy
theorem R0(n:Nat):jt (e0 n):=λes he y hy=>by
 rw[yC he]at hy;cases hy
theorem Sb(n:Nat):FP (e0 n):=⟨λ_=>0,λ_=>qA _,λ_ _ z=>absurd z Ym⟩
theorem Sd{n:Nat}(h:n<=100):uy (e0 n) λ_=>0:=by
 refine⟨by rw[BN];exact h,λes he=>by rw[yC he];exact qA _,R0 n,Sb n,λx es _ he=>?_,λ_ _ _=>by decide⟩;rw[yC (t7 he)];rfl
theorem xx.Se{H H3:Hp}{c w x:Addr}{U U' W:Addr->Prop}{pe:m8}{rows:dI}{aB ie:oF}{aS YL:mP}{nW nW':Nat}{cF:Row}(St:xx C CS CW CB H l c w x U W pe rows pe rows aB aS nW cF)(Sf:yv C CS CW CB U' H3 x (pe++[rows]) ie (aS++YL) nW' cF)(J7:Ll U U' H H3):∃ (ik jB:Addr) (as:List Addr),lD H3 w (kV kI) (some (.ref ik))/\H3 ik=some (.lst (as.map V.ref))/\as.length=aS.length/\∀ (H7 H8:Hp) (bs:List Addr),aK H3 H7->Paired (Fd H7) bs YL->cN ik H7 H8->H8 ik=some (.lst ((as++bs).map V.ref))->lD H8 w (kV kR) (some (.ref jB))/\Wo W H8 w (aS++YL) pe rows/\(∀ ik ps,(∃ rw vl,H8 w=some (.dK (xQ ik rw ps vl)))->OJ W ik ps H8 jB rows)/\∀ H9,Wo W H9 w (aS++YL) (pe++[rows]) rows->(∀ a ob,H8 a=some ob->¬ W a->H9 a=some ob)->(∀ a xs,H8 a=some (.tup xs)->H9 a=some (.tup xs))->xx C CS CW CB H9 l c w x U' W (pe++[rows]) rows (pe++[rows]) rows ie (aS++YL) nW' cF/\∀ a ob,H a=some ob->¬ U a->¬ W a->H9 a=some ob/\¬ U' a:=by
 have aeH:=St.src.fru J7 (λz=>(St.du l z).2.1 rfl) (λz=>(St.du c z).2.2 rfl);have wo3:=St.wo.fr (λa ob e z=>J7.2.1 _ _ e (λy=>(St.du a y).1 z)) J7.2.2
 have du3:∀ a,U' a->¬ W a/\a≠l/\a≠c:=λa z=>by
  rcases J7.1 a z with y|y
  ·exact St.du a y
  ·exact (St.new y).2
 obtain⟨ik,jB,ps,vl,wu⟩:=id wo3;obtain⟨as,JS,pa⟩:=id wu.hi;have zi:=lD.k (k:=kI) wu.hw;rw[show cU (xQ ik jB ps vl) kI=some (.ref ik) by kernel_rfl]at zi;refine⟨ik,jB,as,zi,JS,Paired.length pa,λH7 H8 bs s7 pb k8 i8=>?_⟩;have Yn:=s7 _ _ JS;have SM:∀ a ob,H3 a=some ob->a≠ik->H8 a=some ob:=λa ob e n=>k8 _ _ (s7 _ _ e) n;have t38:∀ a xs,H3 a=some (.tup xs)->H8 a=some (.tup xs):=λa xs e=>SM _ _ e (dF e JS);have XY:∀ a xs,H7 a=some (.tup xs)->H8 a=some (.tup xs):=λa xs e=>k8 _ _ e (dF e Yn);have w8:H8 w=some (.dK (xQ ik jB ps vl)):=SM _ _ wu.hw (dF wu.hw JS);have hr8:OJ W ik ps H8 jB rows:=wu.hr.fr (λ_ z=>z) λa xs e _ n _=>SM _ _ e n;have zr:=lD.k (k:=kR) w8;rw[show cU (xQ ik jB ps vl) kR=some (.ref jB) by kernel_rfl]at zr
 have Wa:M0 W H8 w ik jB ps vl (aS++YL) pe rows:=by
  obtain⟨YJ,hp,al⟩:=wu.hp;refine⟨wu.ww,wu.wi,wu.wp,wu.wv,λa z=>?_,w8,⟨as++bs,i8,D8 (Paired.Hg pa λa q e=>t38 _ _ e) (Paired.Hg pb λa q e=>XY _ _ e)⟩,hr8,⟨YJ,SM _ _ hp wu.ne.symm,al.mono λv rs ⟨a,e,q⟩=>⟨a,e,q.fr (λ_ y=>y) λa xs e _ n _=>SM _ _ e n⟩⟩,wu.ne,wu.lst⟩;by_cases e:a=ik
  ·rw[e];exact⟨_,i8⟩
  ·obtain⟨ob,e2⟩:=wu.al a z;exact⟨ob,SM _ _ e2 e⟩
 refine⟨zr,⟨ik,jB,ps,vl,Wa⟩,λik' za ⟨rw2,vl',e⟩=>?_,λH9 YM Wb tp9=>⟨⟨?_,(Sf.fr (λa ob e z=>SM _ _ e (λq=>(du3 a z).1 (by rw[q];exact wu.wi))) t38).fr (λa ob e z=>Wb _ _ e (du3 a z).1) tp9,vM,YM,du3,St.dw⟩,λa ob e nU nW=>⟨Wb _ _ (SM _ _ (J7.2.1 _ _ e nU) (λq=>nW (by rw[q];exact wu.wi))) nW,λz=>?_⟩⟩⟩
 ·rw[w8]at e;simp only[Option.some.injEq,HO.dK.injEq,xQ,List.cons.injEq,Prod.mk.injEq,V.ref.injEq,true_and,and_true]at e;obtain⟨rfl,rfl,rfl,rfl⟩:=e;exact hr8
 ·obtain⟨n,ns,i,d,r,e1,e2,h3⟩:=aeH;exact⟨n,ns,i,d,r,Wb _ _ (SM _ _ e1 (λq=>(St.dw ik wu.wi).1 q.symm)) (λq=>(St.dw l q).1 rfl),Wb _ _ (SM _ _ e2 (λq=>(St.dw ik wu.wi).2 q.symm)) (λq=>(St.dw c q).2 rfl),h3⟩
 ·rcases J7.1 a z with y|y
  ·exact nU y
  ·rw[y]at e;cases e
theorem M9{H3 H7:Hp}{t:Addr}{h:Int}{cs:List Nat}{i ch:Nat}{bs:List Addr}(dR:H3 acc=none)(hi:cs[i]?=some ch)(hb:H7 acc=some (.lst (bs.map V.ref)))(pb:Paired (Fd H7) bs (ux h (cs.take i)))(s7:aK H3 H7)(ht:H7 t=none):(aN (aN H7 t (.tup [.int h,JO ch])) acc (.lst (bs.map V.ref++[.ref t]))) acc=some (.lst ((bs++[t]).map V.ref))/\Paired (Fd (aN (aN H7 t (.tup [.int h,JO ch])) acc (.lst (bs.map V.ref++[.ref t])))) (bs++[t]) (ux h (cs.take (i+1)))/\aK H3 (aN (aN H7 t (.tup [.int h,JO ch])) acc (.lst (bs.map V.ref++[.ref t]))):=by
 refine⟨?_,?_,λb ob e=>?_⟩
 ·rw[af,j0];rfl
 ·have nta:t≠acc:=(az hb ht).symm;rw[take_snoc hi];unfold ux;rw[j0];refine GC (Paired.Hg pb λa q e=>?_) ?_
  ·show aN _ acc _ a=_;rw[aH (dF e hb)];exact ak ht _ _ _ e
  ·show aN _ acc _ t=_;rw[aH nta];exact af
 ·rw[aH (az e dR)];exact ak ht _ _ _ (s7 _ _ e)
theorem nG{H:Hp}{a:Addr}(h:H a=none)(o:HO):aK H (aN H a o)/\(aN H a o) a=some o:=⟨ak h o,af⟩
abbrev rtW:List Nat:=(Str.ofString "root ink#").cps.toList
inductive Na(C CS CW CB:Addr)(vs:List V)(H:Hp)(Q:VK)(E:XK):Prop
 | mk (l c w x:Addr) (U W:Addr->Prop) (_:vs=[.ref l,.ref w,.ref x]) (_:xx C CS CW CB H l c w x U W [[]] [] [[]] [] [] [] 0 []) (_:∀ (U' W':Addr->Prop) (pe:m8) (n:Nat) (aS:mP) (aB:oF) (H':Hp),2<=n->n<=4->aS.length<=18->pe.length<=10->aB.length<=10->xx C CS CW CB H' l c w x U' W' pe (e0 n) pe (e0 n) aB aS 2 []->Q (.bl true) H')
theorem rm:aL ["_law_src_here","_law_world_here","_law_house","_law_hand","_law_text","_law_k"] ["_law_src_here","_law_world_here","_law_house"] (aA sX):=iW
theorem GS{f f3:Addr}{g1 g2 g3 gN:FuncData}(F:iM K "_law_begin" "_law_begin" sX f fd)(X:Ay K mg C CS CW CB)(A1:JR K mg CS)(A2:MV K mg)(A3:LbF K mg C)(A5:VM K mg CW CB)(aR:bQ K C "enter" "Library.enter" cC JU f1 g1)(dN:bQ K C "pour" "Library.pour" jW Sk f2 g2)(iQ:bQ K C "fresh" "Library.fresh" ki lY f3 g3)(bz:aC K mg "_law_next" kg Bb fN gN)(eV:aC K mg "_law_keep" oS JW fK gK):aF P w K mg zt bI 8 f fd Nj (Na C CS CW CB):=by
 have lX:aF P w K mg zt bI 4 _ _ Sk (Gy C CS CW CB):=vB dN.F X A1 A2 A5 aR;have sM:aF P w K mg zt bI 7 _ _ lY (MX C CS):=Ax iQ.F X.1 A1 A2 A3;obtain⟨⟨⟨T,_⟩,⟨fi,aJ⟩,_⟩,_⟩:=X;have b8:aF P w K mg zt bI 1 _ _ Bb vU:=mU bz.F T;have mO:aF P w K mg zt bI 1 _ _ JW GH:=wm eV.F;refine iZ F rm λdP A zn s H vs Q E hr h=>?_;obtain⟨l,c,w,x,U,W,rfl,St,k⟩:=h;have hu:=lO hr;refine⟨_,(aj (eL PassesOwn.never rfl (cX (bK (aa ay (aa (bx Pr ay ay) ah)))) (cy (i:=3) rm.nd) (aj (br (i:=4) rm.nd (j8 jN.Xy bJ qO (kZ (aG bz b8 hr (aa (pv 0) (aa ay ah)))))) (aj (aY (eT (pv 2) aJ dN lX hr ck (aa (pv 3) (aa (pv 4) ah)))) (aj (aY (gx vJ PySem.F.slot_list_extend PySem.F.type_list_extend mQ (jR hu (pv 1) bJ) (aa (lT (N:=["_law_sign","_law_hand"]) (ur (sc:=aA sX) (NX:=["_law_src_here","_law_world_here","_law_house","_law_hand","_law_text","_law_k"]) (jx:=[none,some 3]) rfl rfl rfl (by decide +kernel) (by decide +kernel) rfl (by decide +kernel) rfl (by decide +kernel)) rfl (QL (pv 4)) (λ_ _ _ _ _ _=>(cy (i:=0) (show List.Nodup (["_law_sign","_law_hand"]:List Str) by decide +kernel))) (λ_ _ _ _ _ _=>lC) (λ_ _ _ _ _ _=>(c9 (aa (pv 1) (aa (pv 0) ah))))) ah))) (au (aY (aG eV mO hr (aa (pv 1) (aa (jR hu (pv 1) bJ) ah))))))))) (aj (eL PassesOwn.never rfl (oN rfl T.pJ (aa (bx cZ ay (aG bz b8 hr (aa (pv 0) (aa ay ah)))) ah)) (cy (i:=5) rm.nd) (aj (aY (ju (pv 2) aJ iQ sM hr ck)) (au (aY (aG eV mO hr (aa (pv 1) (aa (bx nh (jR hu (pv 1) bJ) (bK (aa (bK ah) ah))) ah))))))) (au (aQ vo)))),?_⟩;refine⟨_,_,rfl,rfl,⟨by decide,by decide,by decide⟩,xj,λa0 FZ=>⟨a0,rfl,⟨_,bM.of af⟩,?_⟩⟩;have n0:=St.new FZ;have St0:=St.same (ak FZ (.lst [.int 3,.int ((10:Int)^(50:Int).toNat)]));refine eN (K:=K) (a:=a0) (xs:=[.int 3,.int ((10:Int)^(50:Int).toNat)]) (λj σ H1=>∃ (u3 u4:Option V) (U1 W1:Addr->Prop) (pe:m8) (aS:mP) (aB:oF),σ=[some (.ref l),some (.ref w),some (.ref x),u3,u4,none]/\xx C CS CW CB H1 l c w x U1 W1 pe [] pe [] aB aS j []/\pe.length=j+1/\aS.length<=9*j/\aB.length=j/\H1 a0=some (.lst [.int 3,.int ((10:Int)^(50:Int).toNat)])/\¬ U1 a0/\¬ W1 a0) ⟨none,none,U,W,_,_,_,rfl,St0,rfl,iT _,rfl,af,n0.1,n0.2.1⟩ (by rintro i σ H2 _ ⟨_,_,_,_,_,_,_,_,_,_,_,_,e,_⟩;exact bM.of e) ?_ ?_
 ·rintro j v σ H1 hj ⟨u3,u4,U1,W1,pe,aS,aB,rfl,O9,lp,li,ll,ha,nU,nW⟩;have j2:j<2:=(List.getElem?_eq_some_iff.mp hj).1
  obtain⟨h,rfl,fh⟩:∃ h:Int,v=.int h/\Ak h:=by
   rcases List.mem_cons.mp (t7 hj) with e|e
   ·exact⟨3,e,by decide,by decide⟩
   ·exact⟨_,List.mem_singleton.mp e,by decide,by decide⟩
  refine⟨_,rfl,l,c,10,rfl,O9.src,by decide,by decide,λv H2 v0 v1 S2 k2=>⟨_,rfl,rtW,congrArg V.str (tS _).symm,(by decide +kernel),?_⟩⟩
  have lc:(jN.DL rtW none (some v)).length<=9:=by
   unfold jN.DL;rw[jG,sO,show rtW.length=9 by decide +kernel];lia
  generalize jN.DL rtW none (some v)=cs at lc;have OO:=O9.mv (dG k2) S2;have ha2:=(k2 a0 n0.2.2.1).trans ha;obtain⟨S',UJ,d',Ul,Ye,Yg,Yh,Yi,Yj,Yk,Dy,Fw,dw',sg',ow',pw',db',tb',D4,LU⟩:=id OO.O7;refine⟨_,rfl,x,d',_,rfl,LU.L.hx,rfl,_,rfl,_,rfl,U1,x,pe,aB,aS,j,[],h,cs,[],rfl,OO.O7,fh,by lia,by lia,by lia,OO.lst,by decide,by lia,by lia,λU' q H3 Sf J7 hq=>?_⟩;obtain⟨ik,jB,as,zi,JS,la,P⟩:=OO.Se Sf J7;refine⟨_,rfl,w,_,rfl,zi,.inl ⟨rfl,_,bM.of JS⟩,_,rfl,cs,rfl,λacc dR=>EO (λj σ H7=>∃ (u:Option V) (bs:List Addr),σ=[u,some (.int h)]/\H7 acc=some (.lst (bs.map V.ref))/\Paired (Fd H7) bs (ux h (cs.take j))/\aK H3 H7) ⟨none,[],rfl,af,.nil,ak dR _⟩ ?_ ?_⟩
  ·rintro i ch σ H7 hi ⟨u,bs,rfl,hb,pb,s7⟩;have lb:=Paired.length pb;rw[tw,jG]at lb;refine⟨_,rfl,_,rfl,xj,λt ht=>⟨_,ak ht _ _ _ hb,(by rw[cR];exact aV (by lia)),_,bs++[t],rfl,M9 dR hi hb pb s7 ht⟩⟩
  rintro σ H7 ⟨u,bs,rfl,hb,pb,s7⟩;rw[kX]at pb;have lb:=Paired.length pb;rw[tw]at lb;have Yn:=s7 _ _ JS;refine⟨ik,acc,_,_,rfl,rfl,Yn,hb,(by rw[cR,cR];exact kY (aV (by lia))),?_⟩;rw[← j0];obtain⟨zr,Wa,rv,lQ⟩:=P H7 _ bs s7 pb (aM ik _ _) af;refine⟨_,rfl,_,rfl,w,_,rfl,zr,W1,w,jB,aS++ux h cs,pe,[],[],rfl,Wa,by lia,rv,λH9 YM Wb tp9 _=>?_⟩;obtain⟨Wc,off⟩:=lQ H9 YM Wb tp9;obtain⟨ha9,nU9⟩:=off a0 _ ha2 nU nW;refine⟨_,_,U',W1,pe++[[]],aS++ux h cs,_,rfl,Wc,by rw[dH];simp only[oJ,tP];lia,by rw[dH,tw];lia,by rw[dH];simp only[oJ,tP];lia,ha9,nU9,nW⟩
 rintro σ H1 ⟨u3,u4,U1,W1,pe,aS,aB,rfl,O9,lp,li,ll,_,_,_⟩;have lx:([V.int 3,.int ((10:Int)^(50:Int).toNat)]).length=2:=rfl;rw[lx]at O9 lp li ll;refine⟨_,rfl,l,c,3,rfl,O9.src,by decide,by decide,λv H2 v0 v1 S2 k2=>⟨_,_,rfl,rfl,2+v,rfl,by lia,by lia,?_⟩⟩;have OO:=O9.mv (dG k2) S2;refine rC (lo:=0) (n:=(2+v).toNat) (λj σ H3=>∃ (u5:Option V) (U3 W3:Addr->Prop) (pe:m8) (aB:oF),σ=[some (.ref l),some (.ref w),some (.ref x),u3,u4,u5]/\xx C CS CW CB H3 l c w x U3 W3 pe (e0 j) pe (e0 j) aB aS 2 []/\pe.length=j+3/\aB.length=j+2) ⟨none,U1,W1,pe,aB,rfl,OO,by lia,by lia⟩ ?_ ?_
 ·rintro j σ H3 hj ⟨u5,U3,W3,pe,aB,rfl,Yo,lp,ll⟩;have j4:j<4:=by lia
  have l0:(e0 j).length=j:=BN;obtain⟨S',UJ,d',Ul,Ye,Yg,Yh,Yi,Yj,Yk,Dy,Fw,dw',sg',ow',pw',db',tb',D4,LU⟩:=id Yo.O7;refine⟨_,rfl,x,d',_,rfl,LU.L.hx,rfl,S',x,d',Ul,Ye,Yg,Yh,Yi,Yj,Yk,Dy,Fw,pe,D4,aB,e0 j,rfl,LU.L,Yo.lst,by lia,by lia,by lia,by lia,⟨⟨_,by rw[GR];exact Sd (by lia)⟩,λS'' H4 L4 fr4=>?_⟩⟩;rw[GR]at L4;obtain⟨U',aeK,fu⟩:=LU.tK L4 fr4;obtain⟨RZ,_⟩:=Yo.X9 aeK (rows':=e0 (j+1)) (by simp) fu;obtain⟨ik,jB,ps,vl,wu⟩:=id RZ.wo;have zr:=lD.k (k:=kR) wu.hw;rw[show cU (xQ ik jB ps vl) kR=some (.ref jB) by kernel_rfl]at zr;obtain⟨_,_,_,vs,hvs,al⟩:=id wu.hr;have lv:=cE.len al;refine⟨_,rfl,_,rfl,w,_,rfl,zr,lF,λe he=>⟨rV,λo ho=>?_⟩⟩;have s1:=ak he (.lst []);have e1:(aN H4 e (.lst [])) e=some (.lst []):=af;generalize aN H4 e (.lst [])=H5 at s1 e1 ho;have s2:=ak ho (.lst [.ref e]);have o2:(aN H5 o (.lst [.ref e])) o=some (.lst [.ref e]):=af;show Zv _ _ (aN H5 o (.lst [.ref e])) _;generalize aN H5 o (.lst [.ref e])=H6 at s2 o2;have s02:=s1.trans s2;refine⟨jB,o,_,_,rfl,rfl,s02 _ _ hvs,o2,(by rw[lv];exact kY (aV (by simp only[oJ,tP];lia))),λr MA=>?_⟩;have s3:=ak MA (.lst (vs++[.ref e]));have r3:(aN H6 r (.lst (vs++[.ref e]))) r=some (.lst (vs++[.ref e])):=af;generalize aN H6 r (.lst (vs++[.ref e]))=H7 at s3 r3;have SE:=s02.trans s3;have Yp:=RZ.same SE;have ne:=RZ.new he;have nr:=RZ.new (aX s02 MA);have e3:=s3 _ _ (s2 _ _ e1);have wu3:M0 W3 H7 w ik jB ps vl aS pe (e0 j):=wu.fr (λa ob e _=>SE _ _ e) (λa xs e=>SE _ _ e)
  have VU:M0 (λa=>W3 a\/a=e\/a=r) H7 w ik jB ps vl aS pe (e0 j):=xx.VS wu3 (λa z=>.inl z) (by
   rintro a (z|z|z)
   ·exact wu3.al a z
   ·rw[z];exact⟨_,e3⟩
   ·rw[z];exact⟨_,r3⟩)
  have nn:∀ {a b:Addr},W3 a->¬ W3 b->b≠a:=λwa nb z=>nb (by rw[z];exact wa);refine⟨λa=>W3 a\/a=e\/a=r,w,r,aS,pe,e0 j,e0 (j+1),rfl,⟨ik,jB,ps,vl,VU⟩,by lia,λik' za ⟨rw2,vl',ee⟩=>?_,λH8 Wa FH tp8 _=>?_⟩
  ·rw[wu3.hw]at ee;simp only[Option.some.injEq,HO.dK.injEq,xQ,List.cons.injEq,Prod.mk.injEq,V.ref.injEq,true_and,and_true]at ee;obtain⟨rfl,rfl,rfl,rfl⟩:=ee;refine⟨.inr (.inr rfl),nn wu.wi nr.2.1,nn wu.wp nr.2.1,_,r3,?_⟩;rw[← GR];exact cE.snoc (al.mono λ_ _=>VR.fr (λa z=>.inl z) (λa xs e _ _ _=>SE _ _ e)) ⟨e,rfl,.inr (.inl rfl),nn wu.wi ne.2.1,nn wu.wp ne.2.1,e3⟩
  refine⟨_,U',_,pe++[e0 (j+1)],_,rfl,Yp.kept Wa (λa z y=>?_) (λa y=>?_) FH tp8,by rw[dH];simp only[oJ,tP];lia,by rw[dH];simp only[oJ,tP];lia⟩
  ·rcases y with y|y|y
   ·exact (RZ.du a z).1 y
   ·exact ne.1 (by rw[← y];exact z)
   ·exact nr.1 (by rw[← y];exact z)
  ·rcases y with y|y|y
   ·exact RZ.dw a y
   ·rw[y];exact ne.2.2
   ·rw[y];exact nr.2.2
 rintro σ H3 ⟨u5,U3,W3,pe,aB,rfl,Yo,lp,ll⟩;exact k U3 W3 pe (2+v).toNat aS aB H3 (by lia) (by lia) (by lia) (by lia) (by lia) Yo
open Spec Rows L2 dz Builtin Builtin.Str jy jN in
theorem Sg(cs:List Nat):∀ n:Nat,(⟨(List.replicate n (gU cs).cps).foldl (·++·) #[]⟩:Str)=gU ((List.replicate n cs).flatten):=by
 have key:∀ (n:Nat) (acc:Array Nat),((List.replicate n (gU cs).cps).foldl (·++·) acc).toList=acc.toList++(List.replicate n cs).flatten:=by
  intro n
  induction n with
  | zero=>intro acc;simp
  | succ n ih =>
   intro acc;rw[List.replicate_succ,qM,ih,Array.toList_append,List.replicate_succ,List.flatten_cons,← qL];rfl
 intro n;refine ext_toList ?_;rw[uU];exact (key n #[]).trans (by simp)
open Spec Rows L2 dz Builtin Builtin.Str jy jN in
theorem Nb{X:Cx}:yb X (binaryOp .Mult) (λx y H Q=>∃ (cs:List Nat) (n:Nat),x=.str (gU cs)/\y=.int n/\2<=n/\n<=1000/\2<=cs.length/\cs.length*n<=1000000/\Q (.str (gU ((List.replicate n cs).flatten))) H):=by
 intro ao s σ H x y v u Q I rx ry h;obtain⟨cs,n,rfl,rfl,h2,h3,hl,hm,q⟩:=h;obtain⟨t,rfl⟩:=rx;obtain⟨t',rfl⟩:=ry;have l1:(gU cs).length=cs.length:=qT cs
 have hm':(cs.length:Int)*(n:Int)<=1000000:=by
  have z:((cs.length*n:Nat):Int)<=((1000000:Nat):Int):=Int.ofNat_le.mpr hm;rw[Int.natCast_mul]at z;exact z
 refine P.mul_str ?_ (λ_ _=>?_) (λ_ _=>?_) ?_
 ·rw[decide_eq_false (by lia),decide_eq_false (by lia)];rfl
 ·rw[l1]
  have:(cs.length:Int)<=(2^63-1) / (n:Int):=by
   rw[Int.le_ediv_iff_mul_le (by lia)];lia
  lia
 ·rw[l1];unfold tooLong;refine decide_eq_false ?_;rw[Int.toNat_natCast];have:(1000000:Nat)<=sizeLine:=by decide
  lia
 ·rw[if_neg (by lia),if_neg (by rw[l1,Bool.or_eq_true,beq_iff_eq,beq_iff_eq];lia),Int.toNat_natCast];have e:=Sg cs n;refine⟨?_,?_⟩
  ·have fl:∀ n:Nat,((List.replicate n cs).flatten).length=n*cs.length:=λn=>by rw[List.length_flatten,List.map_replicate,List.sum_replicate_nat]
   have z:(⟨(List.replicate n (gU cs).cps).foldl (·++·) #[]⟩:Str).length<=1000000:=by rw[e,qT,fl,Nat.mul_comm];exact hm
   first|exact jY z (by decide)|exact decide_eq_false (Nat.not_lt.mpr (jY z (by decide)))
  ·show EP X ao σ Q (.str (⟨(List.replicate n (gU cs).cps).foldl (·++·) #[]⟩:Str) _) _;rw[e];exact⟨.str _,H,I.tok _,⟨_,rfl⟩,q⟩
theorem Si{es:List Int}(h:∀ e∈es,0<=e):eG es=[]:=by
 unfold eG;rw[List.filterMap_eq_nil_iff];intro e he;rw[if_neg (by have:=h e he;lia)]
theorem Nc(f:Int->Int):∀ {es:List Int},(∀ e∈es,0<=e)->oB f es=(es.length:Int)
 | [],_=>rfl
 | e::r,h=>by
  have ih:=Nc f (es:=r) λy hy=>h y (t6 _ hy);have he:=h e (List.mem_cons_self ..);unfold oB at ih ⊢;rw[oK,List.sum_cons,ih,if_neg (by lia),oJ];lia
inductive Sj(C CS CW CB:Addr)(vs:List V)(H:Hp)(Q:VK)(E:XK):Prop
 | mk (l c w x:Addr) (U W:Addr->Prop) (pe:m8) (n:Nat) (aB:oF) (aS:mP) (_:vs=[.ref l,.ref w,.ref x]) (_:xx C CS CW CB H l c w x U W pe (e0 n) pe (e0 n) aB aS 2 []) (_:2<=n) (_:n<=4) (_:aS.length<=18) (_:pe.length<=10) (_:aB.length<=10) (_:∀ (U' W':Addr->Prop) (D3:m8) (rows':dI) (ie:oF) (yD:mP) (H':Hp),xx C CS CW CB H' l c w x U' W' D3 rows' D3 rows' ie yD 3 []->rows'.length=n->D3.length<=13->ie.length<=13->yD.length<=118->Good yD.length rows'->Q .jj H')
theorem qw:aL ["_law_src_here","_law_world_here","_law_house","_law_first","_law_start","_law_sheet","_law_row"] ["_law_src_here","_law_world_here","_law_house"] (aA uR):=iW
theorem GU{n:Nat}{rows:dI}(h:∀ es∈rows,es.length<=200/\∀ e∈es,0<=e/\e<(n:Nat))(l:rows.length<=40):Good n rows:=by
 have nx:∀ {x y:Int},¬ oA rows x y:=λ⟨_,es,he,hy⟩=>by
  rw[Si λe z=>((h es (t7 he)).2 e z).1]at hy;cases hy
 refine⟨λes he e hm=>.inl ((h es he).2 e hm),⟨λ_=>0,λ_=>qA _,λ_ _ z=>absurd z nx⟩,l,λx=>((own rows x).length:Int),λx es _ he=>?_,λx x0 x1=>?_⟩
 ·rw[Nc _ λe z=>((h es (t7 he)).2 e z).1];exact congrArg (λz:List Int=>(z.length:Int)) (RI he)
 ·have e:rows[x.toNat]?=some rows[x.toNat]:=tO (by lia);have:=(h _ (t7 e)).1;show ((own rows x).length:Int)<=200;rw[RI e];lia
theorem Lv{sh:Int->List Int}{p:Int}{new:List Int}:ic sh p [] new=new:=by
 unfold ic;split
 ·rename_i h;exact h.symm
 ·rw[aE,bE,List.nil_append,jH]
abbrev abW:List Nat:=(Str.ofString "abcdefghij").cps.toList
theorem JK{f fS f3 fW:Addr}{g1 g2 g3 g4 g5 gN:FuncData}(F:iM K "_law_long" "_law_long" uR f fd)(X:Ay K mg C CS CW CB)(A1:JR K mg CS)(A2:MV K mg)(A4:X3 K mg fS fZ)(A5:VM K mg CW CB)(A6:UL K mg)(aR:bQ K C "enter" "Library.enter" cC JU f1 g1)(aO:bQ K C "change" "Library.change" cS G4 f2 g2)(bW:bQ K C "shown" "Library.shown" gJ Eh f3 g3)(gF:bQ K C "ink" "Library.ink" jL lY f4 g4)(cQ:bQ K C "check_held" "Library.check_held" eY U6 f5 g5)(dN:bQ K C "pour" "Library.pour" jW Sk f6 g6)(jd:bQ K C "put" "Library.put" nI YO f7 g7)(bz:aC K mg "_law_next" kg Bb fN gN)(eV:aC K mg "_law_keep" oS JW fK gK)(iu:aC K mg "_law_swap" oU JV fW gW)(jF:aC K mg "_law_spell" qd Pd fP gP):aF P w K mg zt bI 8 f fd Nj (Sj C CS CW CB):=by
 have lX:aF P w K mg zt bI 4 _ _ Sk (Gy C CS CW CB):=vB dN.F X A1 A2 A5 aR;have vh:aF P w K mg zt bI 6 _ _ YO (Gz C CS CW CB):=wg jd.F X A1 A2 A4 A5 A6 aR aO bW gF cQ;obtain⟨⟨⟨T,_⟩,⟨fi,aJ⟩,_⟩,_⟩:=X;have b8:aF P w K mg zt bI 1 _ _ Bb vU:=mU bz.F T;have mO:aF P w K mg zt bI 1 _ _ JW GH:=wm eV.F;have sL:aF P w K mg zt bI 1 _ _ JV GI:=wz iu.F T;have wG:aF P w K mg zt bI 1 _ _ Pd (FG 1000000):=zz jF.F T;refine iZ F qw λdP A zn s H vs Q E hr h=>?_;obtain⟨l,c,w,x,U,W,pe,n,aB,aS,rfl,St,n2,n4,li,lp,ll,k⟩:=h;have hu:=lO hr;refine⟨_,(aj (br (i:=3) qw.nd (iF T.iz (jR hu (pv 1) bJ))) (aj (aY (eT (pv 2) aJ dN lX hr ck (aa ay (aa (bx Nb bJ ay) ah)))) (aj (aY (gx vJ PySem.F.slot_list_extend PySem.F.type_list_extend mQ (jR hu (pv 1) bJ) (aa (lT (N:=["_law_sign"]) (ur (sc:=aA uR) (NX:=["_law_src_here","_law_world_here","_law_house","_law_first","_law_start","_law_sheet","_law_row"]) (jx:=[none]) rfl rfl rfl (by decide +kernel) (by decide +kernel) rfl (by decide +kernel) rfl (by decide +kernel)) rfl (QL (bx Nb bJ ay)) (λ_ _ _ _ _ _=>(cy (i:=0) (show List.Nodup (["_law_sign"]:List Str) by decide +kernel))) (λ_ _ _ _ _ _=>lC) (λ_ _ _ _ _ _=>(c9 (aa ay (aa (pv 0) ah))))) ah))) (aj (aY (aG eV mO hr (aa (pv 1) (aa (jR hu (pv 1) bJ) ah)))) (aj (br (i:=4) qw.nd (bx cZ (bx cZ (pv 3) ay) (aG bz b8 hr (aa (pv 0) (aa ay ah))))) (au (eL PassesOwn.never rfl (cX (bK (aa (c9 (aa ay (aa (bK (aa (c9 (aa (pv 3) (aa (bx cZ (pv 3) ay) ah))) ah)) ah))) (aa (c9 (aa ay (aa (bK (aa (c9 (aa (pv 3) (aa (bx cZ (pv 3) ay) ah))) (aa (c9 (aa (pv 4) (aa (bx cZ (pv 3) ay) ah))) ah))) ah))) ah)))) (oM (n:=2) rfl (bR (cy (i:=5) qw.nd) (bR (cy (i:=6) qw.nd) iX))) (aj (aY (eT (pv 2) aJ jd vh hr ck (aa (pv 5) (aa ay (aa (pv 6) ah))))) (au (aY (aG eV mO hr (aa (pv 1) (aa (aG iu sL hr (aa (jR hu (pv 1) bJ) (aa (pv 5) (aa (aG jF wG hr (aa (pv 6) ah)) ah)))) ah))))))))))))),?_⟩;obtain⟨ik0,rw0,ps0,vl0,wu0⟩:=id St.wo;obtain⟨as0,aeP,pa0⟩:=id wu0.hi;have la0:=Paired.length pa0;have z0:=lD.k (k:=kI) wu0.hw;rw[show cU (xQ ik0 rw0 ps0 vl0) kI=some (.ref ik0) by kernel_rfl]at z0;refine⟨_,rfl,w,_,rfl,z0,ik0,_,rfl,.inl (bM.of aeP),?_⟩;rw[cR,la0];obtain⟨S',UJ,d',Ul,Ye,Yg,Yh,Yi,Yj,Yk,Dy,Fw,dw',sg',ow',pw',db',tb',D4,LU⟩:=id St.O7;have aa3:((List.replicate 10 abW).flatten).length=100:=by decide +kernel
 refine⟨_,rfl,x,d',_,rfl,LU.L.hx,rfl,abW,10,congrArg V.str (tS _).symm,rfl,by decide,by decide,(by decide +kernel),(by decide +kernel),?_⟩;generalize Tn:(List.replicate 10 abW).flatten=cs at aa3;have le0:(e0 n).length=n:=BN;refine⟨U,x,pe,aB,aS,2,[],7,cs,e0 n,rfl,St.O7,⟨by decide,by decide⟩,by lia,by lia,by decide,St.lst,by lia,by lia,by lia,λU1 q H3 Sf J7 hq=>?_⟩;obtain⟨ik,jB,as,zi,JS,la,P⟩:=St.Se Sf J7;refine⟨_,rfl,w,_,rfl,zi,.inl ⟨rfl,_,bM.of JS⟩,abW,10,congrArg V.str (tS _).symm,rfl,by decide,by decide,(by decide +kernel),(by decide +kernel),cs,by rw[Tn],λacc dR=>EO (λj σ H7=>∃ (u:Option V) (bs:List Addr),σ=[u]/\H7 acc=some (.lst (bs.map V.ref))/\Paired (Fd H7) bs (ux 7 (cs.take j))/\aK H3 H7) ⟨none,[],rfl,af,.nil,ak dR _⟩ ?_ ?_⟩
 ·rintro i ch σ H7 hi ⟨u,bs,rfl,hb,pb,s7⟩;have lb:=Paired.length pb;rw[tw,jG]at lb;refine⟨_,rfl,xj,λt ht=>⟨_,ak ht _ _ _ hb,(by rw[cR];exact aV (by lia)),_,bs++[t],rfl,M9 dR hi hb pb s7 ht⟩⟩
 rintro σ H7 ⟨u,bs,rfl,hb,pb,s7⟩;rw[kX]at pb;have lb:=Paired.length pb;rw[tw]at lb;refine⟨ik,acc,_,_,rfl,rfl,s7 _ _ JS,hb,(by rw[cR,cR];exact kY (aV (by lia))),?_⟩;rw[← j0];obtain⟨zr,Wa,rv,lQ⟩:=P H7 _ bs s7 pb (aM ik _ _) af;refine⟨_,rfl,_,rfl,w,_,rfl,zr,W,w,jB,aS++ux 7 cs,pe,e0 n,e0 n,rfl,Wa,by lia,rv,λH9 YM Wb tp9 _=>?_⟩;obtain⟨Wc,_⟩:=lQ H9 YM Wb tp9;refine⟨_,rfl,_,_,rfl,rfl,_,rfl,l,c,40,rfl,Wc.src,by decide,by decide,λv HA v0 v1 SA kA=>⟨_,_,rfl,rfl,?_⟩⟩;have StA:=Wc.mv (dG kA) SA;have lm:(aS++ux 7 cs).length=aS.length+100:=by rw[dH,tw,aa3]
 generalize aS++ux 7 cs=yD at StA lm;clear St Wc P lQ LU Wa rv YM wu0;have g1:∀ {xs:List V},Nat.ble xs.length 2=true->xs.length<=sizeLine:=λh=>jY (Nat.le_of_ble_eq_true h) (by decide);have fi0:(0:Int)<=(aS.length:Int):=by lia
 generalize hfi:(aS.length:Int)=fi at fi0;refine⟨_,rfl,_,rfl,_,_,rfl,rfl,g1 rfl,λp0 hp0=>⟨g1 rfl,λr0 yG=>⟨g1 rfl,λt0 ht0=>⟨_,rfl,_,rfl,_,_,rfl,rfl,g1 rfl,λp1 Rt=>⟨_,rfl,_,rfl,_,_,rfl,rfl,g1 rfl,λp2 Mn=>⟨g1 rfl,λr1 ou=>⟨g1 rfl,λt1 OF=>⟨g1 rfl,λa0 FZ=>?_⟩⟩⟩⟩⟩⟩⟩⟩;have YN:=nG hp0 (.tup [.int fi,.int (fi+100)]);generalize aN HA p0 (.tup [.int fi,.int (fi+100)])=H_0 at YN yG ht0 Rt Mn ou OF FZ ⊢;have s_1:=nG yG (.lst [.ref p0]);generalize aN H_0 r0 (.lst [.ref p0])=H_1 at s_1 ht0 Rt Mn ou OF FZ ⊢;have s_2:=nG ht0 (.tup [.int 0,.ref r0]);generalize aN H_1 t0 (.tup [.int 0,.ref r0])=H_2 at s_2 Rt Mn ou OF FZ ⊢;have s_3:=nG Rt (.tup [.int fi,.int (fi+80)]);generalize aN H_2 p1 (.tup [.int fi,.int (fi+80)])=H_3 at s_3 Mn ou OF FZ ⊢;have s_4:=nG Mn (.tup [.int (fi+60+v),.int (fi+100)]);generalize aN H_3 p2 (.tup [.int (fi+60+v),.int (fi+100)])=H_4 at s_4 ou OF FZ ⊢;have s_5:=nG ou (.lst [.ref p1,.ref p2]);generalize aN H_4 r1 (.lst [.ref p1,.ref p2])=H_5 at s_5 OF FZ ⊢;have s_6:=nG OF (.tup [.int 1,.ref r1]);generalize aN H_5 t1 (.tup [.int 1,.ref r1])=H_6 at s_6 FZ ⊢;have s_7:=nG FZ (.lst [.ref t0,.ref t1]);generalize aN H_6 a0 (.lst [.ref t0,.ref t1])=SN at s_7  ⊢;have s57:aK H_5 SN:=s_6.1.trans s_7.1;have s47:aK H_4 SN:=s_5.1.trans s57;have s37:aK H_3 SN:=s_4.1.trans s47;have s27:aK H_2 SN:=s_3.1.trans s37;have YE:aK H_1 SN:=s_2.1.trans s27;have s07:aK H_0 SN:=s_1.1.trans YE;have sA7:aK HA SN:=YN.1.trans s07;have nn:∀ {a:Addr} {H':Hp},aK HA H'->H' a=none->¬ U1 a/\¬ W a:=λs e=>⟨(StA.new (aX s e)).1,(StA.new (aX s e)).2.1⟩;have rA:cV SN r0 [(fi,fi+100)]:=⟨[p0],YE _ _ s_1.2,.cons (s07 _ _ YN.2) .nil⟩;have rB:cV SN r1 [(fi,fi+80),(fi+60+v,fi+100)]:=⟨[p1,p2],s57 _ _ s_5.2,.cons (s37 _ _ s_3.2) (.cons (s47 _ _ s_4.2) .nil)⟩;have nA:=nn YN.1 yG;have nB:=nn (YN.1.trans (s_1.1.trans (s_2.1.trans (s_3.1.trans s_4.1)))) ou;have nL:=nn (YN.1.trans (s_1.1.trans (s_2.1.trans (s_3.1.trans (s_4.1.trans (s_5.1.trans s_6.1)))))) FZ;have tA:=s27 _ _ s_2.2;have tB:=s_7.1 _ _ s_6.2;have Yp:=StA.same sA7;clear StA SA kA
 have aeR:∀ a∈[a0,r0,r1],¬ U1 a/\¬ W a:=by
  intro a h;rcases List.mem_cons.mp h with e|h
  ·rw[e];exact nL
  rcases List.mem_cons.mp h with e|h
  ·rw[e];exact nA
  ·rw[List.mem_singleton.mp h];exact nB
 show isL _ (V.ref a0) SN _;refine⟨a0,rfl,⟨_,bM.of s_7.2⟩,eN (K:=K) (a:=a0) (xs:=[.ref t0,.ref t1]) (λj σ H1=>∃ (u5 u6:Option V) (U W:Addr->Prop) (pe:m8) (rows:dI) (aB:oF),σ=[some (.ref l),some (.ref w),some (.ref x),some (.int fi),some (.int (fi+60+v)),u5,u6]/\xx C CS CW CB H1 l c w x U W pe rows pe rows aB yD 3 []/\rows.length=n/\pe.length<=11+j/\aB.length<=11+j/\(∀ es∈rows,es.length<=200/\∀ e∈es,0<=e/\e<(yD.length:Nat))/\(∀ i,j<=i->i<n->rows[i]?=some [])/\H1 a0=some (.lst [.ref t0,.ref t1])/\H1 t0=some (.tup [.int 0,.ref r0])/\H1 t1=some (.tup [.int 1,.ref r1])/\cV H1 r0 [(fi,fi+100)]/\cV H1 r1 [(fi,fi+80),(fi+60+v,fi+100)]/\∀ a∈[a0,r0,r1],¬ U a/\¬ W a) ⟨none,none,U1,W,_,_,_,rfl,Yp,le0,by rw[dH];simp only[oJ,tP];lia,by rw[dH];simp only[oJ,tP];lia,(λes he=>by rw[yC he];exact⟨Nat.zero_le _,λ_ z=>nomatch z⟩),(λi _ hi=>by rw[List.getElem?_replicate,if_pos hi]),s_7.2,tA,tB,rA,rB,aeR⟩ (λi σ H2 _ h=>by obtain⟨_,_,_,_,_,_,_,_,_,_,_,_,_,_,e,_⟩:=h;exact bM.of e) ?_ ?_⟩
 ·rintro j v' σ H1 hj ⟨u5,u6,U,W,pe,rows,aB,rfl,St,ln,lp,ll,NN,em,e1,e2,e3,e4,e5,of⟩;have j2:j<2:=(List.getElem?_eq_some_iff.mp hj).1
  obtain⟨t,r,row,rfl,ht,JB,hm,rl,bd⟩:∃ (t r:Addr) (row:Row),v'=.ref t/\H1 t=some (.tup [.int (j:Nat),.ref r])/\cV H1 r row/\r∈[a0,r0,r1]/\row.length<=2/\∀ q∈row,0<=q.1/\q.1<q.2/\q.2<=(yD.length:Nat)/\q.2<=q.1+(100:Nat):=by
   match j,hj with
   | 0,hj =>
    cases hj;refine⟨t0,r0,_,rfl,e2,e4,by simp,Nat.le_of_ble_eq_true rfl,λq h=>?_⟩;rw[List.mem_singleton.mp h];dsimp only;lia
   | 1,hj =>
    cases hj;refine⟨t1,r1,_,rfl,e3,e5,by simp,Nat.le_of_ble_eq_true rfl,λq h=>?_⟩;rcases List.mem_cons.mp h with h|h
    ·rw[h];dsimp only;lia
    ·rw[List.mem_singleton.mp h];dsimp only;lia
  have bd3:∀ q∈row,0<=q.1/\q.1<q.2/\q.2<=(yD.length:Nat):=λq h=>by have:=bd q h;exact⟨this.1,this.2.1,this.2.2.1⟩
  obtain⟨sh,g⟩:=(GU NN (by lia)).RP;obtain⟨S',UJ,d',Ul,Ye,Yg,Yh,Yi,Yj,Yk,Dy,Fw,dw',sg',ow',pw',db',tb',D4,LU⟩:=id St.O7;refine⟨t,_,rfl,d8.of ht,rfl,_,_,rfl,_,_,rfl,rfl,?_⟩;refine⟨_,rfl,x,d',_,rfl,LU.L.hx,rfl,_,rfl,_,rfl,U,x,r,pe,aB,yD,3,[],row,(j:Nat),0,rows,rfl,St.O7,JB,⟨by lia,λq h=>by have:=bd q h;exact⟨⟨by lia,by lia⟩,⟨by lia,by lia⟩⟩⟩,by lia,St.lst,by lia,by lia,by lia,UZ (by lia) (by lia),UZ (by decide) (by decide),⟨by lia,by lia⟩,JC bd3,⟨sh,g.sn,⟨by decide,by lia⟩,λes ua=>?_⟩⟩;rw[Int.toNat_natCast]at ua ⊢;rw[em j (iT _) (by lia)]at ua;cases ua;rw[Lv,rZ,qg _ λq h=>by have:=bd q h;lia,Dk _ (by lia)];have sl:=Dl (k:=100) (row:=row) λq h=>(bd q h).2.2.2
  have NN':∀ es∈rows.set j (bN row),es.length<=200/\∀ e∈es,0<=e/\e<(yD.length:Nat):=λes he=>by
   rcases List.mem_or_eq_of_mem_set he with z|z
   ·exact NN es z
   ·rw[z];exact⟨by lia,λe he=>Jq bd3 he⟩
  refine⟨(GU NN' (by rw[List.length_set];lia)).bears,λU2 H2 L2' UG=>?_⟩;obtain⟨OO,_⟩:=St.X9 L2' vM UG;obtain⟨ik,jB,ps,vl,wu⟩:=id OO.wo;have zr:=lD.k (k:=kR) wu.hw;rw[show cU (xQ ik jB ps vl) kR=some (.ref jB) by kernel_rfl]at zr;obtain⟨_,_,_,xs,hxs,al⟩:=id wu.hr;have lv:=cE.len al;refine⟨_,rfl,_,rfl,w,_,rfl,zr,_,rfl,_,rfl,r,row,rfl,JB.two (λxs e=>UG.2.1 _ _ e (of r hm).1) UG.2.2,(λq h=>by have:=bd q h;lia),by lia,by lia,λo H3 ho s3 fo=>?_⟩;refine⟨jB,o,j,xs,rfl,s3 _ _ hxs,by lia,by lia,λq H4 hq s4 fq=>?_⟩;have Iz:=s3.trans s4;have wu4:M0 W H4 w ik jB ps vl yD pe rows:=wu.fr (λa ob e _=>Iz _ _ e) λa xs e=>Iz _ _ e;have MY:=aX s3 fq;have nq:=OO.new MY;have no:=OO.new fo;obtain⟨VU,rv⟩:=Wo.swap wu4 (Iz _ _ hxs) hq (s4 _ _ ho) nq.2.1 no.2.1;refine⟨_,w,q,yD,pe,rows,rows.set j (bN row),rfl,⟨ik,jB,ps,vl,VU⟩,by lia,λik' za ⟨rw2,vl',ee⟩=>?_,λH5 wo5 Tc tp5 _=>?_⟩
  ·rw[wu4.hw]at ee;simp only[Option.some.injEq,HO.dK.injEq,xQ,List.cons.injEq,Prod.mk.injEq,V.ref.injEq,true_and,and_true]at ee;obtain⟨rfl,rfl,rfl,rfl⟩:=ee;exact rv
  have nW:∀ a ob,H2 a=some ob->¬ W a->¬ (W a\/a=o\/a=q):=λa ob e n y=>by
   rcases y with y|y|y
   ·exact n y
   ·rw[y,fo]at e;cases e
   ·rw[y,MY]at e;cases e
  have V0:=(OO.same Iz).kept wo5 (λa z y=>by
   rcases y with y|y|y
   ·exact (OO.du a z).1 y
   ·exact no.1 (by rw[← y];exact z)
   ·exact nq.1 (by rw[← y];exact z)) (λa y=>by
   rcases y with y|y|y
   ·exact OO.dw a y
   ·rw[y];exact no.2.2
   ·rw[y];exact nq.2.2) Tc tp5
  have k5:∀ a∈[a0,r0,r1],∀ ob,H1 a=some ob->H5 a=some ob/\¬ U2 a/\¬ (W a\/a=o\/a=q):=λa ha ob e=>by
   have n:=of a ha;have e2:=UG.2.1 _ _ e n.1;have m:=nW a ob e2 n.2;refine⟨Tc _ _ (Iz _ _ e2) m,λz=>?_,m⟩;rcases UG.1 a z with y|y
   ·exact n.1 y
   ·rw[y]at e;cases e
  have t5:∀ a xs,H1 a=some (.tup xs)->H5 a=some (.tup xs):=λa xs e=>tp5 _ _ (Iz _ _ (UG.2.2 _ _ e));refine⟨_,_,U2,_,_,rows.set j (bN row),_,rfl,V0,by rw[List.length_set];exact ln,by rw[dH];simp only[oJ,tP];lia,by rw[dH];simp only[oJ,tP];lia,NN',(λi h1 h2=>by rw[List.getElem?_set_ne (by lia)];exact em i (by lia) h2),(k5 a0 (by simp) _ e1).1,t5 _ _ e2,t5 _ _ e3,e4.two (λxs e=>(k5 r0 (by simp) _ e).1) t5,e5.two (λxs e=>(k5 r1 (by simp) _ e).1) t5,λa ha=>?_⟩
  obtain⟨ob,e⟩:∃ ob,H1 a=some ob:=by
   obtain⟨_,y4,_⟩:=e4;obtain⟨_,y5,_⟩:=e5;rcases List.mem_cons.mp ha with z|ha
   ·rw[z];exact⟨_,e1⟩
   rcases List.mem_cons.mp ha with z|ha
   ·rw[z];exact⟨_,y4⟩
   ·rw[List.mem_singleton.mp ha];exact⟨_,y5⟩
  exact (k5 a ha ob e).2
 ·rintro σ H1 ⟨u5,u6,U,W,pe,rows,aB,rfl,St,ln,lp,ll,NN,_⟩;have l2:([V.ref t0,.ref t1]).length=2:=rfl;rw[l2]at lp ll;exact k U W pe rows aB yD H1 St ln (by lia) (by lia) (by lia) (GU NN (by lia))
theorem U0{n m:Nat}(h:m<=40):Good n (e0 m):=by
 refine⟨λes he e hm=>?_,Sb m,by rw[BN];exact h,λ_=>0,λx es _ he=>?_,λ_ _ _=>(by decide:(0:Int)<=200)⟩
 ·rw[yC he]at hm;cases hm
 ·rw[yC (t7 he)];rfl
inductive I53(C CS CW CB l c x w:Addr)(j:Nat)(H:Hp):Prop
 | mk (U W:Addr->Prop) (pe:m8) (rows:dI) (aB:oF) (aS:mP) (nW:Nat) (_:xx C CS CW CB H l c w x U W pe rows pe rows aB aS nW []) (_:2<=rows.length) (_:rows.length<=4) (_:pe.length<=20+j) (_:aB.length<=20+j) (_:aS.length<=200) (_:Good aS.length rows)
def aeT(C CS CW CB:Addr):TS:=λD σ H=>∃ (a l c w x:Addr) (U W:Addr->Prop) (pe:m8) (n:Nat) (aB:oF) (aS:mP),σ=[some (.ref a),some (.ref l),some (.ref x),some (.ref w),none,none,none,none,none]/\xx C CS CW CB H l c w x U W pe (e0 n) pe (e0 n) aB aS 2 []/\2<=n/\n<=4/\aS.length<=18/\pe.length<=10/\aB.length<=10/\∀ H',I53 C CS CW CB l c x w 0 H'->D.nx [some (.ref a),some (.ref l),some (.ref x),some (.ref w),none,none,none,none,none] H'
theorem OP{H:Hp}{q q':Addr}{ts ts':List Addr}{T:List F2}(hq:H q=some (.lst (ts.map V.ref)))(h:jO H ts T)(PL:H q'=some (.lst (ts'.map V.ref)))(g:jO H ts' T):Eqv H 4 (.ref q) (.ref q'):=by
 refine .inr ⟨true,q,q',_,_,rfl,rfl,hq,PL,by rw[cR,cR,Paired.length h,Paired.length g],λi u v eu ev=>?_⟩;rw[j5]at eu ev;obtain⟨a,ea,rfl⟩:=Option.map_eq_some_iff.mp eu;obtain⟨b,eb,rfl⟩:=Option.map_eq_some_iff.mp ev;obtain⟨t,e1,k1⟩:=uT h ea;obtain⟨t',e2,k2⟩:=uT g eb;rw[e1]at e2;cases e2;refine .inr ⟨false,a,b,_,_,rfl,rfl,k1,k2,rfl,λi u v eu ev=>.inl ?_⟩;rw[eu]at ev;cases ev
 match i,eu with
 | 0,eu=>cases eu;exact⟨rfl,rfl⟩
 | 1,eu=>cases eu;exact⟨rfl,rfl⟩
 | 2,eu=>cases eu;exact⟨rfl,rfl⟩
theorem zA:aL ["_law_script","_law_src_here","_law_house","_law_world_here","_law_k","_law_one","_law_other","_law_ones","_law_others"] ["_law_script"] (aA Tz):=iW
theorem all_mk:Vn:=by
 intro P w K mg fa q;obtain⟨gZ,mS,mG,HF,L0,bP,X,G,hfa,L5,L7,Et,Qc,Kp,FE,zP,Ma,FF,Qd,Qe,Qf,Qg,Vj,Eu,Vk,Qh,Qi,Qj,Vl,Vm,q0,q1,q2,q3,q4,q5,q6,q7,q8,q9,Ew,q11,q12,q13,q14,q15,q16,q17,q18,q19,q20,q21,q22,q23,q24,q25,q26,q27,q28,q29,q30,q31,q32,q33,q34,q35,q36,q37,q38,q39,q40,q41,q42,q43,q44,q45,q46,q47,q48,q49,q50,q51,q52,q53,q54,q55,q56,q57,q58,q59,q60,q61,q62,q63,q64,q65,q66,q67,q68,q69,q70,q71,q72,q73,q74,q75,q76,q77,q78,q79,q80,q81,q82,q83,q84,q85,q86,q87,q88,q89,q90,z0,z1,z2,z3,z4,z5,z6,z7,z8,z9,z10,z11,z12,z13,xC,xD,HG,yQ,xE⟩:=q;obtain⟨al,ll,cl,kl⟩:=q90;have e:=hfa.symm.trans (mg_of X G al);cases e;obtain⟨fd,F,bF⟩:∃ fd,iM K "law" "law" Tz fa fd/\∀ (s:Shared) (v:Value),BindsTo s fd ⟨[v],[]⟩ [("_law_script",v)]:=⟨_,Ko (st:=Tz) ll cl kl,λs v=>.of_eq rfl⟩;obtain⟨_,Fi⟩:=q0.d (ps:=["_law_script"]) X G;obtain⟨_,bz⟩:=q1.d (ps:=["_law_src_here","_law_base"]) X G;obtain⟨_,kC⟩:=q2.d (ps:=["_law_found"]) X G;obtain⟨_,kF⟩:=q3.d (ps:=["_law_found","_law_due"]) X G;obtain⟨_,eE⟩:=q4.d (ps:=["row"]) X G;obtain⟨_,iS⟩:=q5.d (ps:=["row"]) X G;obtain⟨_,cA⟩:=q6.d (ps:=["row","start","stop"]) X G;obtain⟨_,gX⟩:=q7.d (ps:=["row","start","stop"]) X G;obtain⟨_,Fb⟩:=q8.d (ps:=["row","start","stop"]) X G;obtain⟨_,jV⟩:=q9.d (ps:=["self"]);obtain⟨_,sJ⟩:=Ew.d (ps:=["row"]) X G;obtain⟨_,Ab⟩:=q11.d (ps:=["numbers"]) X G
 obtain⟨_,mW⟩:=q12.d (ps:=["ones","others","first","second"]) X G
 obtain⟨_,mX⟩:=q13.d (ps:=["ones","others","first","second"]) X G
 obtain⟨_,wZ⟩:=q14.d (ps:=["ones","others"]) X G;obtain⟨_,cL⟩:=q15.d (ps:=["items"]) X G;obtain⟨_,jg⟩:=q16.d (ps:=["rows","sheets"]) X G;obtain⟨_,lG⟩:=q17.d (ps:=["rows","start","goal"]) X G;obtain⟨_,MT⟩:=q18.d (ps:=["rows","sheet"]) X G;obtain⟨_,lH⟩:=q19.d (ps:=["item","weights"]) X G;obtain⟨_,nZ⟩:=q20.d (ps:=["rows","sheets"]) X G;obtain⟨_,cD⟩:=q21.d (ps:=["item","views"]) X G;obtain⟨_,cO⟩:=q22.d (ps:=["rows","sheets"]) X G;obtain⟨_,mL⟩:=q23.d (ps:=["rows","sheet"]) X G;obtain⟨_,ja⟩:=q24.d (ps:=["one","other"]) X G;obtain⟨_,cP⟩:=q25.d (ps:=["items"]) X G;obtain⟨_,dX⟩:=q26.d (ps:=["row"]) X G;obtain⟨_,nX⟩:=q27.d (ps:=["items","views"]) X G;obtain⟨_,mK⟩:=q28.d (ps:=["items","views","place","others"]) X G;obtain⟨_,jh⟩:=q29.d (ps:=["rows","sheet","place","items"]) X G;obtain⟨_,jZ⟩:=q30.d (ps:=["items","views","start","stop"]) X G;obtain⟨_,o7⟩:=q31.d (ps:=["rows","sheet","start","stop"]) X G;obtain⟨_,lN⟩:=q32.d (ps:=["rows","sheet","start","stop","to"]) X G;obtain⟨_,lM⟩:=q33.d (ps:=["rows","sheet"]) X G;obtain⟨_,kJ⟩:=q34.d (ps:=["row"]) X G;obtain⟨_,tF⟩:=q35.d (ps:=["deed"]) X G;obtain⟨_,jT⟩:=q36.d (ps:=["state","sheet","items"]) X G;obtain⟨_,jU⟩:=q37.d (ps:=["self"]);obtain⟨_,dY⟩:=q38.d (ps:=["self"]);obtain⟨_,kK⟩:=q39.d (ps:=["self"]);obtain⟨_,tG⟩:=q40.d (ps:=["self","changes"]);obtain⟨_,bh⟩:=q41.d (ps:=["self","sheet"]);obtain⟨_,eZ⟩:=q42.d (ps:=["self","moment"]);obtain⟨_,lK⟩:=q43.d (ps:=["self","moment"]);obtain⟨_,bS⟩:=q44.d (ps:=["self"]);obtain⟨_,kO⟩:=q45.d (ps:=["self"]);obtain⟨_,kQ⟩:=q46.d (ps:=["self"]);obtain⟨_,kM⟩:=q47.d (ps:=["self"]);obtain⟨_,gh⟩:=q48.d (ps:=["self"]);obtain⟨_,ve⟩:=q49.d (ps:=["self","hand","text"]);obtain⟨_,tL⟩:=q50.d (ps:=["self","row"]);obtain⟨_,qY⟩:=q51.d (ps:=["rows","sheet"]) X G;obtain⟨_,om⟩:=q52.d (ps:=["self"]);obtain⟨_,aR⟩:=q53.d (ps:=["self","deed","changes"]);obtain⟨_,aO⟩:=q54.d (ps:=["self","deed","sheet","items"]);obtain⟨_,pL⟩:=q55.d (ps:=["self"]);obtain⟨_,n8⟩:=q56.d (ps:=["self","deed","items"]);obtain⟨_,iQ⟩:=q57.d (ps:=["self"]);obtain⟨_,gF⟩:=q58.d (ps:=["self"]);obtain⟨_,cQ⟩:=q59.d (ps:=["self","row"]);obtain⟨_,dN⟩:=q60.d (ps:=["self","hand","text"]);obtain⟨_,jd⟩:=q61.d (ps:=["self","sheet","place","row"]);obtain⟨_,bW⟩:=q62.d (ps:=["self","sheet"]);obtain⟨_,rf⟩:=q63.d (ps:=["self","sheet","start","stop"]);obtain⟨_,oj⟩:=q64.d (ps:=["self","target","place","source","start","stop"]);obtain⟨_,mw⟩:=q65.d (ps:=["self","target","place","source"]);obtain⟨_,rj⟩:=q66.d (ps:=["self","sheet"]);obtain⟨_,pN⟩:=q67.d (ps:=["self","sheet","start","stop","to"]);obtain⟨_,vC⟩:=q68.d (ps:=["self","one","other"]);obtain⟨_,zB⟩:=q69.d (ps:=["_law_ones","_law_others"]) X G;obtain⟨_,tN⟩:=q70.d (ps:=[]) X G;obtain⟨_,eV⟩:=q71.d (ps:=["_law_world_here","_law_rows"]) X G;obtain⟨_,iu⟩:=q72.d (ps:=["_law_rows","_law_sheet","_law_entries"]) X G;obtain⟨_,jF⟩:=q73.d (ps:=["_law_row"]) X G;obtain⟨_,bT⟩:=q74.d (ps:=["_law_rows","_law_sheet"]) X G;obtain⟨_,pM⟩:=q75.d (ps:=["_law_rows","_law_sheet"]) X G;obtain⟨_,gG⟩:=q76.d (ps:=["_law_rows","_law_entry"]) X G;obtain⟨_,pA⟩:=q77.d (ps:=["_law_rows","_law_sheet","_law_place","_law_new"]) X G;obtain⟨_,uD⟩:=q78.d (ps:=["_law_rows","_law_sheet","_law_start","_law_stop"]) X G;obtain⟨_,eK⟩:=q79.d (ps:=["_law_rows","_law_sheet"]) X G;obtain⟨_,vm⟩:=q80.d (ps:=["_law_rows","_law_sheet"]) X G;obtain⟨_,tM⟩:=q81.d (ps:=["_law_world_here","_law_deed_here"]) X G;obtain⟨_,tZ⟩:=q82.d (ps:=["self","sheet","moment"]);obtain⟨_,vn⟩:=q83.d (ps:=["_law_house","_law_deed_here"]) X G;obtain⟨_,pO⟩:=q84.d (ps:=["_law_src_here","_law_world_here"]) X G;obtain⟨_,pP⟩:=q85.d (ps:=["_law_src_here","_law_sheet","_law_room"]) X G;obtain⟨_,vj⟩:=q86.d (ps:=["_law_src_here","_law_world_here"]) X G;obtain⟨_,Dv⟩:=q87.d (ps:=["_law_src_here","_law_world_here","_law_house"]) X G;obtain⟨_,Ba⟩:=q88.d (ps:=["_law_src_here","_law_world_here","_law_house"]) X G;obtain⟨_,Dw⟩:=q89.d (ps:=["_law_src_here","_law_world_here","_law_house"]) X G;have T:m7 mg:=⟨PySem.W.mg_none_of X G z0,zG X G z1,zG X G z2,zG X G z3,zG X G z4,zG X G z5,zG X G z6,zG X G z7,zG X G z8,zG X G z9,zG X G z10,zG X G z11,zG X G z12,zG X G z13,λf e=>(iS.m).symm.trans e ▸ mg_of X G yQ,λf e=>(mL.m).symm.trans e ▸ mg_of X G xE⟩;have G_:Gbs mg:=⟨⟨_,mg_of X G xC⟩,⟨_,mg_of X G xD⟩,⟨_,mg_of X G HG⟩⟩;have bZ:=L5.d X G jU.mt;have jE:=Qc.d X G kM.mt;have tX:=Ma.d X G jV.mt;have Jl:=Qd.d X G kO.mt;have Jm:=Qg.d X G kQ.mt;have aJ:=Eu.d X G om.mt;have G:=G_;refine⟨fd,bF,λzt _ _=>?_⟩;have OQ:aF P w K mg zt bI 1 _ _ ["_law_script"] (Vq K):=KQ Fi.F T;have b8:aF P w K mg zt bI 1 _ _ Bb vU:=mU bz.F T;have LM:DY K mg bP gZ:=⟨⟨T,⟨_,bZ⟩,L7,Et⟩,⟨_,aJ⟩,Vk,Qh,Qi,Qj,Vl,Vm,G⟩;have X:Ay K mg bP gZ mS mG:=⟨LM,⟨_,jE⟩,Kp,FE,zP,⟨_,tX⟩,FF⟩;have A1:JR K mg gZ:=⟨⟨_,_,kK⟩,⟨_,_,dY⟩,⟨_,_,bh⟩,⟨_,_,eZ⟩,⟨_,_,lK⟩,⟨_,_,bS⟩,⟨_,_,tG⟩⟩;have A2:MV K mg:=⟨⟨_,_,cL⟩,⟨_,_,jg⟩,⟨_,_,lH⟩,⟨_,_,nZ⟩,⟨_,_,lG⟩,⟨_,_,MT⟩,⟨_,_,qY⟩,⟨_,_,jT⟩,⟨_,_,kJ⟩,⟨_,_,tF⟩⟩;have A3:LbF K mg bP:=⟨⟨_,_,aR⟩,⟨_,_,aO⟩,⟨_,_,pL⟩,⟨_,_,n8⟩⟩;have A4:X3 K mg _ _:=⟨⟨_,_,cL⟩,⟨_,_,jg⟩,⟨_,_,cD⟩,⟨_,_,eE⟩,⟨_,_,cO⟩,⟨_,mL⟩,⟨_,iS⟩⟩;have A5:VM K mg mS mG:=⟨⟨_,_,gh⟩,⟨_,_,ve⟩,⟨_,_,tL⟩⟩;have A6:UL K mg:=⟨⟨_,_,cL⟩,⟨_,_,jg⟩,⟨_,_,cD⟩,⟨_,_,eE⟩,⟨_,_,cO⟩,⟨_,_,iS⟩,⟨_,_,cA⟩,⟨_,_,ja⟩,⟨_,_,cP⟩,⟨_,_,nX⟩,⟨_,_,gX⟩,⟨_,_,dX⟩,⟨_,_,mK⟩,⟨_,_,jh⟩⟩;have zC:aF P w K mg zt bI 3 _ _ lY (E8 bP gZ mS mG):=xu om.F LM bZ jU jE kM Kp FE zP tX jV FF Jl kO Qe Qf Jm kQ Vj;have JL:aF P w K mg zt bI 1 _ _ [] M4:=GG tN.F;have ig:aF P w K mg zt bI 42 _ _ oH (wA 41):=qv T bT 41;have yi:aF P w K mg zt bI 5 _ _ Nd (Ci 4):=AS T kC kF 4;have JM:aF P w K mg zt bI 8 _ _ Nj (Na bP gZ mS mG):=GS Ba.F X A1 A2 A3 A5 aR dN iQ bz eV;have Lw:aF P w K mg zt bI 46 _ _ Nj (JH bP gZ mS mG):=JI Dv.F T vj iu tM vm eV vn (JG vj.F T bz bT pO pP) (GO tM.F T bT gG pA uD iu jF) (JA vm.F T pM eK) (JD vn.F X A1 A2 A4 A5 A6 aR aO bW gF cQ dN iQ jd rf pN oj mw rj tZ o7 jZ lN lM mL Fb);have Bw:aF P w K mg zt bI 6 _ _ ["self","one","other"] (Fc bP gZ):=zy vC.F LM A1 A4 bW sJ Ab mW mX wZ;have GV:aF P w K mg zt bI 1 _ _ ["_law_ones","_law_others"] A7:=D7 zB.F T;have Lx:aF P w K mg zt bI 8 _ _ Nj (Sj bP gZ mS mG):=JK Dw.F X A1 A2 A4 A5 A6 aR aO bW gF cQ dN jd bz eV iu jF;refine iZ F zA λdP A zn s H vs Q E hr h=>?_;obtain⟨a,ns,rfl,hS,h63,k⟩:=h;have hu:=lO hr;refine⟨_,(aj (br (i:=1) zA.nd (aG Fi OQ hr (aa (pv 0) ah))) (aj (br (i:=2) zA.nd (uf aJ.Yu zC (hr.mono (by decide)) rfl aJ.m om.b .nil ck)) (aj (br (i:=3) zA.nd (PF JL (hr.mono (by decide)) rfl tN.m tN.F.kp tN.b .nil ck)) (aj (aY (aG Ba JM hr (aa (pv 1) (aa (pv 3) (aa (pv 2) ah))))) (aj (Cg (t':=aeT bP gZ mS mG) (bV (aZ gj (aG bz b8 hr (aa (pv 1) (aa ay ah))) ay (bw _)) (au (aY (aG Dw Lx hr (aa (pv 1) (aa (pv 3) (aa (pv 2) ah)))))) bu) ?b4) (aj (eL PassesOwn.never rfl (oN rfl T.pJ (aa (aG bz b8 hr (aa (pv 1) (aa ay ah))) ah)) (cy (i:=4) zA.nd) (aj (bV (qB (rJ (aG Dv Lw hr (aa (pv 1) (aa (pv 3) (aa (pv 2) ah)))))) (au (aQ vo)) bu) (aj (br (i:=5) zA.nd (aG bz b8 hr (aa (pv 1) (aa (iF T.iz (jR hu (pv 3) bJ)) ah)))) (aj (br (i:=6) zA.nd (aG bz b8 hr (aa (pv 1) (aa (iF T.iz (jR hu (pv 3) bJ)) ah)))) (aj (br (i:=7) zA.nd (aG bT ig hr (aa (jR hu (pv 3) bJ) (aa (pv 5) ah)))) (aj (br (i:=8) zA.nd (aG bT ig hr (aa (jR hu (pv 3) bJ) (aa (pv 6) ah)))) (au (bV (PW.pt (rK (aZ jm (iF T.iz (pv 7)) ay (bw _)) (qN (aZ jm (iF T.iz (pv 8)) ay (bw _))))) (au (bV (qB (rJ (aG kF yi hr (aa (eT (pv 2) aJ vC Bw hr ck (aa (pv 5) (aa (pv 6) ah))) (aa (aG zB GV hr (aa (pv 7) (aa (pv 8) ah))) ah))))) (au (aQ vo)) bu)) bu)))))))) (au (aQ vo)))))))),?_⟩
 case b4 =>
  rintro D σ H ⟨a,l,c,w,x,U,W,pe,n,aB,aS,rfl,St,n2,n4,li,lp,ll,k⟩;refine⟨_,rfl,l,c,6,rfl,St.src,by decide,by decide,λv H5 v0 v1 S5 k5=>⟨rfl,_,rfl,dQ (λ_=>?_) (λ_=>?_)⟩⟩
  ·exact⟨_,rfl,_,rfl,_,rfl,l,c,w,x,U,W,pe,n,aB,aS,rfl,St.mv (dG k5) S5,n2,n4,li,lp,ll,λU' W' D3 rows' ie yD H' St' rl lp ll li gd=>k H' ⟨U',W',D3,rows',ie,yD,3,St',by lia,by lia,by lia,by lia,by lia,gd⟩⟩
  ·exact k H5 ⟨U,W,pe,e0 n,aB,aS,2,St.mv (dG k5) S5,by rw[BN];lia,by rw[BN];lia,by lia,by lia,by lia,U0 (by lia)⟩
 refine⟨_,rfl,a,ns,rfl,hS,λl c H1 S1 s1 _ _=>?_⟩;intro x dx fx fdx _;refine⟨x,dx,rfl,af,λU H2 L2 fU k2=>⟨rfl,?_⟩⟩;have s2:=rH fx fdx k2;have S2:=S1.same s2
 have fU':∀ a,U a->H1 a=none:=λa z=>by
  rcases fU a z with y|y
  ·rw[y];exact fx
  ·exact uA y
 refine⟨rfl,λW w H3 wo3 fW s3=>?_⟩
 have Yo:xx bP gZ mS mG H3 l c w x U W [[]] [] [[]] [] [] [] 0 []:=by
  refine⟨S2.same s3,L2.same s3,rfl,wo3,λa z=>⟨λy=>?_,?_⟩,λa z=>?_⟩
  ·obtain⟨ob,e⟩:=L2.al z;rw[fW a y]at e;cases e
  ·have n:=S1.ne (fU' a z);exact⟨n.1.symm,n.2.symm⟩
  ·have n:=S2.ne (fW a z);exact⟨n.1.symm,n.2.symm⟩
 refine⟨_,rfl,_,rfl,_,rfl,l,c,w,x,U,W,rfl,Yo,λU4 W4 pe4 n aS ln4 H4 n2 n4 li lp4 ll4 RZ=>?_⟩;refine⟨a,l,c,w,x,U4,W4,pe4,n,ln4,aS,rfl,RZ,n2,n4,li,lp4,ll4,λH5 I5=>?_⟩;obtain⟨U5,W5,pe5,aa8,ln5,aeV,nW5,V0,q1,q2,q3,q4,q5,q6⟩:=I5;refine⟨_,rfl,l,c,9,rfl,V0.src,by decide,by decide,λv H6 v0 v1 S6 k6=>⟨v,rfl,by lia,by lia,?_⟩⟩;refine rC (lo:=0) (n:=v.toNat) (λj σ H6=>∃ u4 u5 u6 u7 u8:Option V,σ=[some (.ref a),some (.ref l),some (.ref x),some (.ref w),u4,u5,u6,u7,u8]/\I53 bP gZ mS mG l c x w j H6) ⟨none,none,none,none,none,rfl,U5,W5,pe5,aa8,ln5,aeV,nW5,V0.mv (dG k6) S6,q1,q2,q3,q4,q5,q6⟩ ?_ ?_
 ·rintro j σ H6 hj ⟨u4,u5,u6,u7,u8,rfl,U,W,pe,rows,aB,aS,nW,St,r2,r4,lp,ll,li,gd⟩;have j9:j<9:=by lia
  refine⟨_,rfl,_,rfl,_,rfl,l,c,w,x,U,W,pe,rows,aB,aS,nW,[],rfl,St,by lia,by lia,by lia,by lia,gd,λU' W' D3 rows' ie H7 Yp rl' lp' ll' gd'=>⟨true,rfl,gH ?_⟩⟩;clear St gd;obtain⟨sh,g⟩:=gd'.RP;obtain⟨rk,rb,dn⟩:=id g.sn.rk;have lQ:∀ {H8:Hp},xx bP gZ mS mG H8 l c w x U' W' D3 rows' D3 rows' ie aS nW []->I53 bP gZ mS mG l c x w (j+1) H8:=λSt8=>⟨U',W',D3,rows',ie,aS,nW,St8,by lia,by lia,by lia,by lia,li,gd'⟩
  have zr:∀ {ik jB ps vl:Addr} {H1:Hp},H1 w=some (.dK (xQ ik jB ps vl))->lD H1 w (kV kR) (some (.ref jB)):=λ{ik jB ps vl H1} e=>by
   have z:=lD.k (k:=kR) e;rwa [show cU (xQ ik jB ps vl) kR=some (.ref jB) by kernel_rfl]at z
  obtain⟨ik,jB,ps,vl,wu⟩:=id Yp.wo;obtain⟨xs,hxs,al⟩:=id wu.hr.at_;have lv:=cE.len al;refine⟨_,rfl,_,rfl,w,_,rfl,zr wu.hw,jB,_,rfl,.inl (bM.of hxs),l,c,_,rfl,Yp.src,by lia,by lia,λs H8 s0 s1 S8 k8=>?_⟩;have is:wY rows'.length s:=⟨s0,by lia⟩;have St8:=Yp.mv (dG k8) S8;clear wu hxs al;obtain⟨ik,jB,ps,vl,wu⟩:=id St8.wo;obtain⟨ys,hys,al⟩:=id wu.hr.at_;have lw:=cE.len al;refine⟨_,rfl,_,rfl,w,_,rfl,zr wu.hw,jB,_,rfl,.inl (bM.of hys),l,c,_,rfl,St8.src,by lia,by lia,λt H9 t0 t1 S9 k9=>?_⟩;have it:wY rows'.length t:=⟨t0,by lia⟩;have Wc:=St8.mv (dG k9) S9;clear wu hys al;obtain⟨ik,jB,ps,vl,wu⟩:=id Wc.wo;have R:=wu.hr.at_;have ls:=g.sl s is.1 is.2;have lt:=g.sl t it.1 it.2;refine⟨_,rfl,w,_,rfl,zr wu.hw,_,rfl,_,jB,rows',s,sh,rk,rfl,R,by lia,g.sn.sd,is.1,is.2,g.sn.ss,g.sn.ln,dn,by have:=rb s;lia,λo HA ho sA fo=>?_⟩;refine⟨_,rfl,w,_,rfl,zr (sA _ _ wu.hw),_,rfl,_,jB,rows',t,sh,rk,rfl,R.same sA,by lia,g.sn.sd,it.1,it.2,g.sn.ss,g.sn.ln,dn,by have:=rb t;lia,λo' HB GW sB fo'=>?_⟩;have sAB:=sA.trans sB;have hoB:=sB _ _ ho;have StB:=Wc.same sAB;refine⟨_,rfl,o,_,rfl,.inl (bM.of hoB),_,_,rfl,rfl,_,rfl,?_⟩;rw[cR];refine dQ (λc1=>?_) (λ_=>gH ⟨_,_,_,_,_,rfl,lQ StB⟩);refine⟨_,rfl,o',_,rfl,.inl (bM.of GW),_,_,rfl,rfl,_,rfl,?_⟩;rw[cR];refine dQ (λc2=>?_) (λ_=>⟨_,_,_,_,_,rfl,lQ StB⟩);have b1:(sh s).length<=130:=by have:=of_decide_eq_true c1;lia
  have b2:(sh t).length<=130:=by have:=of_decide_eq_true c2;lia
  obtain⟨S',UJ,d',Ul,Ye,Yg,Yh,Yi,Yj,Yk,Dy,Fw,dw',sg',ow',pw',db',tb',D4,LU⟩:=id StB.O7;refine⟨_,rfl,x,d',_,rfl,LU.L.hx,rfl,_,rfl,_,rfl,S',x,d',Ul,Ye,Yg,Yh,Yi,Yj,Yk,Dy,Fw,D3,D4,ie,rows',s,t,sh,rfl,LU.L,StB.lst,by lia,by lia,is,it,g.sn,b1,b2,λq ts HC hq tr sC fq=>?_⟩;refine⟨_,rfl,_,rfl,o,o',sh s,sh t,rfl,sC _ _ hoB,sC _ _ GW,b1,b2,λq' ts' HD PL tr' sD fq'=>?_⟩;refine⟨_,_,rfl,OP (sD _ _ hq) (tr.same sD) PL tr',λHE sE=>⟨true,rfl,gH ⟨_,_,_,_,_,rfl,lQ (StB.same (sC.trans (sD.trans sE)))⟩⟩⟩
 ·rintro σ H6 ⟨u4,u5,u6,u7,u8,rfl,_⟩;exact k H6
end
end jy
theorem PySem.Challenge.cw_inkroot_k53_common_of_sheets_holds : PySem.Challenge.rw_inkroot_k53_common_of_sheets.Holds :=
 InkHd.hd2 jy.all_mk
