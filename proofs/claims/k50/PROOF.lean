import PyProof.Rows.All
import KE.KIntText
import KE.KTryMore
import KE.KDictLaws
import KE.KItem
import Open.Pieces
import KE.RegKTryMore
import OpenK.KOwn
import Lean
import PyProof.EqAt
import PyProof.EqKinds
import PyProof.TupleCall
import PySem.Challenge.RW_inkroot_k50_whole_places
set_option Elab.async false
set_option linter.all false
set_option maxRecDepth 100000
set_option maxHeartbeats 4000000
abbrev nG:=List (List (List Int))
abbrev dJ:=List (List Int)
abbrev nJ:=List (List Nat)
abbrev mj:=List (Int × Nat)
abbrev ki:List PySem.Str:=["self"]
abbrev S0:List PySem.Str:=["self","moment"]
abbrev zl2:List PySem.Str:=["self","changes"]
abbrev Hq:List PySem.Str:=["self","sheet"]
abbrev Ka:List PySem.Str:=["self","deed","changes"]
abbrev J3:List PySem.Str:=["self","deed","sheet","items"]
abbrev zl6:List PySem.Str:=["self","deed","items"]
abbrev Tc:List PySem.Str:=["self","hand","text"]
abbrev Wr:List PySem.Str:=["self","row"]
abbrev YH:List PySem.Str:=["self","address"]
abbrev Ws:List PySem.Str:=["self","sheet","place","row"]
abbrev Wu:List PySem.Str:=["self","sheet","start","stop"]
abbrev Wv:List PySem.Str:=["self","sheet","start","stop","to"]
abbrev Ww:List PySem.Str:=["self","target","place","source","start","stop"]
abbrev Wx:List PySem.Str:=["self","target","place","source"]
abbrev Kc:List PySem.Str:=["_law_found"]
abbrev B3:List PySem.Str:=["_law_found","_law_due"]
abbrev iP:List PySem.Str:=["row"]
abbrev pO:List PySem.Str:=["row","start","stop"]
abbrev oS:List PySem.Str:=["items"]
abbrev Pn:List PySem.Str:=["rows","start","goal"]
abbrev mU:List PySem.Str:=["rows","sheets"]
abbrev Po:List PySem.Str:=["item","weights"]
abbrev yP:List PySem.Str:=["item","views"]
abbrev Hr:List PySem.Str:=["one","other"]
abbrev FL:List PySem.Str:=["items","views"]
abbrev Ny:List PySem.Str:=["items","views","place","others"]
abbrev Hs:List PySem.Str:=["items","views","start","stop"]
abbrev vz:List PySem.Str:=["rows","sheet"]
abbrev Nz:List PySem.Str:=["state","sheet","items"]
abbrev Pp:List PySem.Str:=["rows","sheet","place","items"]
abbrev Td:List PySem.Str:=["rows","sheet","start","stop"]
abbrev Te:List PySem.Str:=["rows","sheet","start","stop","to"]
abbrev xo:List PySem.Str:=["_law_src_here","_law_base"]
abbrev Pq:List PySem.Str:=["_law_src_here","_law_few"]
abbrev nK:List PySem.Str:=["_law_rows","_law_sheet"]
abbrev NB:List PySem.Str:=["_law_rows","_law_entry"]
abbrev Wy:List PySem.Str:=["_law_rows","_law_sheet","_law_place","_law_new"]
abbrev Wz:List PySem.Str:=["_law_rows","_law_sheet","_law_start","_law_stop"]
abbrev Pr:List PySem.Str:=["_law_rows","_law_sheet","_law_entries"]
abbrev NC:List PySem.Str:=["_law_src_here","_law_world_here"]
abbrev WA:List PySem.Str:=["_law_src_here","_law_sheet","_law_room"]
abbrev WB:List PySem.Str:=["_law_world_here","_law_deed_here"]
abbrev Ht:List PySem.Str:=["_law_world_here","_law_rows"]
abbrev WC:List PySem.Str:=["_law_house","_law_deed_here"]
abbrev Tf:List PySem.Str:=["_law_src_here","_law_many"]
abbrev Kd:List PySem.Str:=["_law_src_here","_law_world_here","_law_house"]
abbrev WD:List PySem.Str:=["_law_world_here","_law_house"]
abbrev cR:=@List.length_map.{0,0}
abbrev dM:=@List.length_append.{0}
abbrev j5:=@List.map_append.{0,0}
abbrev ja:=@Nat.le_refl
abbrev sH:=@List.mem_cons_of_mem.{0}
abbrev qE:=@List.length_cons.{0}
abbrev wG:=@PySem.F.plainAttrs_list
abbrev vf:=@List.mem_of_getElem?.{0}
abbrev vK:=@List.length_singleton.{0}
abbrev vg:=@Bool.false_ne_true
abbrev jo:=@List.append_nil.{0}
abbrev pP:=@List.getElem?_eq_getElem.{0}
abbrev kC:=@List.size_toArray.{0}
abbrev jV:=@List.length_take.{0}
abbrev kF:=@List.getElem?_map.{0,0}
abbrev qZ:=@PySem.F.slot_list_append
abbrev rf:=@PySem.F.type_list_append
abbrev lI:=@List.take_length.{0}
abbrev mW:=@List.flatMap_cons.{0,0}
abbrev j9:=@Nat.le_of_lt
abbrev pQ:=@List.append_assoc.{0}
abbrev uc:=@List.concat_eq_append.{0}
abbrev lJ:=@Nat.le_trans
abbrev uH:=@List.mem_append_right.{0}
abbrev oJ:=@List.map_cons.{0,0}
abbrev vL:=@List.eq_nil_or_concat.{0}
abbrev rj:=@List.foldl_cons.{0,0}
abbrev Bq:=@PyProof.Rows.boot_isinstance
abbrev xX:=@PyProof.Rows.boot_list
abbrev vA:=@Nat.lt_of_lt_of_le
abbrev pR:=@Nat.ne_of_lt
abbrev yQ:=@List.take_of_length_le.{0}
abbrev xY:=@List.mem_append_left.{0}
abbrev xZ:=@List.getLast?_concat.{0}
abbrev xq:=@List.length_drop.{0}
abbrev vM:=@Option.some.inj.{0}
abbrev yR:=@List.mem_cons_self.{0}
abbrev B4:=@List.drop_of_length_le.{0}
abbrev xr:=@List.length_nil.{0}
abbrev zR:=@PySem.W.mg_none_of
abbrev Ca:=@List.length_replicate.{0}
noncomputable section
namespace PySem.W.Fast
def tw5454655780945692195:=0
def tw15276948626590462470:=0
def tw6520360590362794217:=0
def tw7424799097248289121:=0
def tw5936177508237169419:=0
def tw16044310257057049867:=0
def tw10446352223684528410:=0
def tw13312471962424927447:=0
def tw7732772277307235299:=0
def tw3298873074308172210:=0
def tw14997359328433573298:=0
def tw11923363200987668115:=0
def tw3565421047620490342:=0
def tw11539590606003773894:=0
def tw6746941296464067355:=0
def tw6456813995232375367:=0
def tw8550309723148566235:=0
def tw4994444446971664086:=0
def tw17365818382261777077:=0
def tw6545287486570172679:=0
def tw12306018188396300887:=0
def tw7157097543617012475:=0
def tw18041859891635578064:=0
def tw18072739941367053640:=0
def tw8107596458942871249:=0
def tw763918440858760826:=0
def tw899828951474047238:=0
def tw7555170109036551157:=0
def tw16394674053177106104:=0
def tw4920982657087542754:=0
def tw10709020347868190937:=0
def tw10004863091181761040:=0
def tw1560026493045729464:=0
def tw7634502948580664266:=0
def tw11962666787783551118:=0
def tw10103315449919957129:=0
def tw12540520477551948312:=0
def tw187287246769596327:=0
def tw17837600319698104753:=0
def tw6757656678127090870:=0
def tw9106822412238384199:=0
def tw17866199557823567042:=0
def tw3837057609543735919:=0
def tw14066114826186396821:=0
def tw1262093386844065634:=0
def tw9410178232026542737:=0
def tw9665895594186697211:=0
def tw231909801782374646:=0
def tw14635572908471292280:=0
def tw9192284937138560427:=0
def tw3415176973833007850:=0
def tw8051884494321955436:=0
def tw10239198408639648290:=0
def tw5699008221830000439:=0
def tw9560678796002920407:=0
def tw6925354546171263068:=0
def tw17884020973946257825:=0
def tw9491508149756904194:=0
def tw10845675090643949009:=0
def tw9865866505860470444:=0
def tw13706345235865701436:=0
def tw1069814204396655550:=0
def tw913710690079187673:=0
def tw12517345099793274507:=0
def tw502599779685465934:=0
def tw7795758401214120194:=0
def tw11662873114260227965:=0
def tw1933294258426383619:=0
def tw1927106793762132572:=0
def tw7615920483693060362:=0
def tw6058763625128962472:=0
def tw7629358766997484556:=0
def tw13384647664894450880:=0
def tw16183930440280040502:=0
def tw8123524584497362565:=0
def tw15123104699034796049:=0
def tw7299188658035956143:=0
def tw4943678082835800612:=0
def tw731643310651893652:=0
def tw16153228382562284552:=0
def tw7396232365792342744:=0
def tw222157287290067345:=0
def tw16484226494566997531:=0
def tw6968040339804080426:=0
def tw11366917612069463221:=0
def tw11610924206034877452:=0
def tw6085135106038872338:=0
def tw15093773388632332665:=0
def tw8365095479655610520:=0
def tw2342359005184643527:=0
def tw6997005999219418000:=0
def tw18134537087961079650:=0
def tw12740665610493172634:=0
def tw7258471257091364857:=0
def tw15393887876129024460:=0
def tw8617563581330869509:=0
def tw14788954780892542860:=0
def tw17551729349980238000:=0
def tw2288700653557145655:=0
def tw7994589614697667627:=0
def tw6890505315389733695:=0
def tw15739594377585333910:=0
def tw17711448885943981521:=0
def tw18000336951116494436:=0
def tw15176046120844824264:=0
def tw9138115012240507509:=0
def tw13766392211931618213:=0
def tw11597040313574602793:=0
def tw16893056294905020126:=0
def tw16185452956090357138:=0
def tw15907712945154952185:=0
def tw2991241327995566567:=0
def tw14125537218116215960:=0
def tw17474014776327947789:=0
def tw16949445688297258019:=0
def tw5894031633319773171:=0
def tw3525765472785108727:=0
def tw7557955792013918449:=0
def tw10114156570420788890:=0
def tw2600767130820788271:=0
def tw4366551698446464015:=0
def tw1666729320784065793:=0
def tw15121331765734056079:=0
def tw16003081761525059511:=0
def tw5189868222199991167:=0
def tw13507221774820860060:=0
def tw4479913835969449105:=0
def tw3591316405856645374:=0
def tw6278672025843761991:=0
def tw12614544406386247475:=0
def tw821443470021075101:=0
def tw17532827078254176894:=0
def tw2626631252561234333:=0
def tw16076215134349038851:=0
def tw4782102610504706100:=0
def tw11288290758217533879:=0
def tw2299426175880031194:=0
def tw14097816015660445963:=0
def tw13764180101539278477:=0
def tw12656957550202905080:=0
def tw11467568396435537173:=0
def tw17981701508308502339:=0
def tw12360654366242524312:=0
def tw12754856790057372390:=0
def tw5331697338138968571:=0
def tw13484333267111173532:=0
def tw13115776863463860128:=0
def tw5297111419838702074:=0
def tw16212054617557053509:=0
def tw8201611261278414510:=0
def tw15842245586693454013:=0
def tw3308365682456732804:=0
def tw18036507511457108793:=0
def tw4106743673111917073:=0
def tw6855998956462270824:=0
def tw17983338280147217526:=0
def tw14388117015989502047:=0
def tw10617577952844634788:=0
def tw148646735694053463:=0
def tw18324787140930514170:=0
def tw16982186622000811902:=0
def tw1354408266057780622:=0
def tw15345226593556658061:=0
def tw10986380666111362547:=0
def tw13529091487690866139:=0
def tw5772541532309346740:=0
def tw15508931005854110851:=0
def tw8701809205197634438:=0
def tw10446424242480867135:=0
def tw14881361614289970499:=0
def tw7074505329269195717:=0
def tw5816335009288447881:=0
def tw11363387777627979408:=0
def tw4845442633425213477:=0
def tw15064400976540995835:=0
def tw15640363984495508151:=0
def tw14808201803360414363:=0
def tw15599506501319792011:=0
def tw8492194751544568032:=0
def tw1878265455948639712:=0
def tw2679214031576403931:=0
def tw4488828539064956086:=0
def tw3728311631769689718:=0
def tw11712158686589920089:=0
def tw733974488094568055:=0
def tw7421883202982104634:=0
def tw12614919691617349564:=0
def tw8073054150095011987:=0
def tw6427899286926885303:=0
def tw6057676264300505314:=0
def tw15896948360633434514:=0
def tw13077594085979771606:=0
def tw9402462825529570782:=0
def tw12823890982434734218:=0
def tw7333102892553595290:=0
def tw5157424516881064770:=0
def tw4643967268222679956:=0
def tw15776789057017758517:=0
def tw8204252487421310347:=0
def tw5057899253203571318:=0
def tw15216844386555954582:=0
def tw12035582169784007673:=0
def tw15327188743789843312:=0
def tw14160571968825184821:=0
def tw1830655125914792476:=0
def tw7981815071281456494:=0
def tw13445183204513819372:=0
def tw13347480896590828175:=0
def tw6736627627360023426:=0
def tw1092594404067255915:=0
def tw2813900727622106458:=0
def tw17682974052485867697:=0
def tw9487723387317110020:=0
def tw14868866852216350758:=0
def tw13336532523318700590:=0
def tw13129678120004192487:=0
def tw5000287941001611453:=0
def tw8154841140892927582:=0
def tw7376205669642261029:=0
def tw5773986112449096310:=0
def tw7234431315852350139:=0
def tw3966195592070026983:=0
def tw14908020065053128553:=0
def tw3965374657320126272:=0
def tw6380025882079156504:=0
def tw18294201271908831674:=0
def tw7551381226784339997:=0
def tw2540505540559844393:=0
def tw5853185839059715770:=0
def tw8325745335431593620:=0
def tw9905723703575239451:=0
def tw5802820056301495215:=0
def tw12998116011509629722:=0
def tw12905214040269108036:=0
def tw407728838243187554:=0
def tw18042428395739832935:=0
def tw5852637039093520555:=0
def tw6027069798929315744:=0
def tw7424700891580522277:=0
def tw2153960523136307394:=0
def tw17911907059928085471:=0
def tw4953629859389579576:=0
def tw17728333621237549464:=0
def tw17155714990836273578:=0
def tw8475606686733874486:=0
def tw2985738648125547575:=0
def tw11605044599209167140:=0
def tw16374557167944328427:=0
def tw17398272677742424443:=0
def tw4510822662163708029:=0
def tw9994733613372266549:=0
def tw13361956368172148163:=0
def tw13890956473221554186:=0
def tw6882543917429925304:=0
def tw16240048588262930730:=0
def tw11795867741327013739:=0
def tw15303360659822062843:=0
def tw9674985709994950000:=0
def tw5778837359584629270:=0
def tw18107926180778142541:=0
def tw325457888443871902:=0
def tw11597858561292515186:=0
def tw8265019967737244514:=0
def tw11858682770190158815:=0
def tw16236732903858912643:=0
def tw11576219832470106408:=0
def tw8071008525427214875:=0
def tw11287714173176510559:=0
def tw5731638397058305533:=0
def tw12431288029993392748:=0
def tw16953711809014644212:=0
def tw10227726443671538147:=0
def tw8006693916752295700:=0
def tw14797112047618770983:=0
def tw7033958639487723210:=0
def tw11748759544669846327:=0
def tw4227071295730812495:=0
def tw7745443715942555014:=0
def tw11738432332627731677:=0
def tw387659766537848669:=0
def tw13136528871148511008:=0
def tw15024286519304287764:=0
def tw2258113377381922791:=0
def tw16961619278855493785:=0
def tw15060885157932776501:=0
def tw16608719499217840019:=0
def tw10542238111132151020:=0
def tw7907850191041521669:=0
def tw12693888328072009709:=0
def tw14322076820463722187:=0
def tw16599903251273033015:=0
def tw8344984985347816408:=0
def tw7861980454014229777:=0
def tw1648956120437751815:=0
def tw6869939088000236255:=0
def tw13717095751097909272:=0
def tw14855811399804195305:=0
def tw17252832828083693422:=0
def tw1592062747045042320:=0
def tw7046372952812900354:=0
def tw15504508683733429940:=0
def tw14962619997709671909:=0
def tw3529821924599003598:=0
def tw11293951348055483909:=0
def tw13840004158221021640:=0
def tw7965031400497106314:=0
def tw6254353567655073018:=0
def tw1710957833620449604:=0
def tw417131118921623201:=0
def tw14796446087408464788:=0
def tw16296153072192101691:=0
def tw17333357952156208535:=0
def tw8885024593648797507:=0
def tw3835450335490138532:=0
def tw3676664162795948448:=0
def tw18041609744205641494:=0
def tw7133421100840399942:=0
def tw16452994825595971801:=0
def tw3757715567987724665:=0
def tw10987690659139396409:=0
def tw9922564083797453663:=0
def tw18145123329274751264:=0
def tw17803261674162191608:=0
def tw7917808975987317618:=0
def tw9577248099185275231:=0
def tw4883734498297155281:=0
def tw644968675947344338:=0
def tw16430462028561030414:=0
def tw11104925192868881530:=0
def tw2557334305005994299:=0
def tw18156195082380693227:=0
def tw1176975564985010976:=0
def tw7533469686733238654:=0
def tw3944350878649091231:=0
def tw7460678814593188992:=0
def tw12278893220844630656:=0
def tw5942385657110237292:=0
def tw7513082894644915830:=0
def tw2381528603000612354:=0
def tw17998237326359542924:=0
def tw15158756325993671627:=0
def tw5878450709964854261:=0
def tw8284850237072195690:=0
def tw14967305014112559380:=0
def tw5620955072569319798:=0
def tw12044048610905873995:=0
def tw9171496418024105220:=0
def tw10136826089180704979:=0
def tw12627351624856828058:=0
def tw4428016825635465305:=0
def tw16995446276039314415:=0
def tw4823646383480551760:=0
def tw18427125925396219348:=0
def tw10606455051775720176:=0
def tw7079360780633231911:=0
def tw11172256667504530260:=0
def tw743358491981798528:=0
def tw1927283848839042789:=0
def tw11891153096629706794:=0
def tw2315251801829213831:=0
def tw9074294504506969335:=0
def tw17878643664730303389:=0
def tw6050960870747216983:=0
def tw13293439668151379247:=0
def tw8305775096705771720:=0
def tw11450081919698196024:=0
def tw6003961869393098887:=0
def tw16470881181160100175:=0
def tw556495680881750786:=0
def tw13333115304670165437:=0
def tw8000584860527154854:=0
def tw9720611703454872866:=0
def tw13559651001467589657:=0
def tw5148183784627236914:=0
def tw11234396972779361694:=0
def tw7588625398696262010:=0
def tw9662368090479979913:=0
def tw5488323472045873468:=0
def tw16468127090954893556:=0
def tw18391518229427523224:=0
def tw7144929526899361040:=0
def tw2580407370581004313:=0
def tw16955190967544578409:=0
def tw16846688739281979660:=0
def tw15419711316090819124:=0
def tw10656107919288114630:=0
def tw9787578117653906400:=0
def tw5421565053114012541:=0
def tw11190092346148131976:=0
def tw4868177688710273540:=0
end PySem.W.Fast
end
namespace InkHd
open PySem PySem.W PyProof.Rows
set_option maxRecDepth 100000 in
set_option maxHeartbeats 0 in
open_top hd_k50 for PySem.Challenge.rw_inkroot_k50_whole_places
end InkHd
open PySem
open PyProof
open PySem.W (InstAt callWith_K callWith_K0 cellsFrom_some codeIn emptyDict findIn fnOf handedIn hasDictIn instObj isFn kIn_of keepIn kia_one kitOne kitx_dict kitx_list lookIn makesIn methodCall_KW methodObj mg_of mroIn nsIn plainGet plainGet_of plainOver takerIn typeIn)
namespace L2
open Spec Rows
abbrev iL:=Sum Int Str
def Cb:iL->Value->Bool
 | .inl k,v=>Value.isInt k v
 | .inr x,v=>Value.isStrOf x v
def acj(w:World):iL->Int
 | .inl k=>hashInt k
 | .inr x=>hashStr w x
theorem iM:∀ {k:iL} {v:Value},Cb k v=true->(∃ i t,k=Sum.inl i/\v=Value.int i t)\/(∃ x t,k=Sum.inr x/\v=Value.str x t)
 | .inl i,v,h=>by
  obtain⟨t,e⟩:=Value.isInt_shape (k:=i) (v:=v) h;exact .inl ⟨i,t,rfl,e⟩
 | .inr x,v,h=>by
  obtain⟨t,e⟩:=Value.isStrOf_shape (x:=x) (v:=v) h;exact .inr ⟨x,t,rfl,e⟩
theorem ND(i:Int)(t:Tok):Cb (.inl i) (.int i t)=true:=by simp[Cb,Value.isInt]
theorem NF(x:Str)(t:Tok):Cb (.inr x) (.str x t)=true:=by simp[Cb,Value.isStrOf]
theorem WE(a b:Int):decide ((Sum.inl a:iL)=Sum.inl b)=(a == b):=by
 by_cases e:a=b
 ·subst e;simp
 ·have h:¬ (Sum.inl a:iL)=Sum.inl b:=λq=>e (Sum.inl.inj q);rw[decide_eq_false h];exact (beq_eq_false_iff_ne.mpr e).symm
theorem WG(a b:Str):decide ((Sum.inr a:iL)=Sum.inr b)=decide (a=b):=by
 by_cases e:a=b
 ·subst e;simp
 ·have h:¬ (Sum.inr a:iL)=Sum.inr b:=λq=>e (Sum.inr.inj q);rw[decide_eq_false h,decide_eq_false e]
theorem WH(a:Int)(b:Str):decide ((Sum.inl a:iL)=Sum.inr b)=false:=decide_eq_false (λq=>nomatch q)
theorem WI(a:Str)(b:Int):decide ((Sum.inr a:iL)=Sum.inl b)=false:=decide_eq_false (λq=>nomatch q)
def jb(prog:Program)(w:World):PySem.KeyKind prog w iL where
 is:=Cb
 hash:=acj w
 inj:=λv a b ha hb=>by
  rcases iM ha with ⟨i,t,rfl,rfl⟩|⟨x,t,rfl,rfl⟩
  ·rcases iM hb with ⟨j,u,rfl,e⟩|⟨y,u,rfl,e⟩
   ·injection e with e1 _;rw[e1]
   ·exact nomatch e
  ·rcases iM hb with ⟨j,u,rfl,e⟩|⟨y,u,rfl,e⟩
   ·exact nomatch e
   ·injection e with e1 _;rw[e1]
 byValue:=λk v h=>by
  rcases iM h with ⟨i,t,rfl,rfl⟩|⟨x,t,rfl,rfl⟩ <;> rfl
 pyHash:=λhv h=>by
  rcases iM hv with ⟨i,t,rfl,rfl⟩|⟨x,t,rfl,rfl⟩
  ·exact wpAny_pyHash_int h
  ·exact wpAny_pyHash_str h
 eqBool:=λhu hv h=>by
  rcases iM hu with ⟨i,t,rfl,rfl⟩|⟨x,t,rfl,rfl⟩
  ·rcases iM hv with ⟨j,u,rfl,rfl⟩|⟨y,u,rfl,rfl⟩
   ·rw[WE]at h;exact wpAny_eqBool_int h
   ·rw[WH]at h;exact SeqAt.EqAt.int_str i t y u _ _ _ _ h
  ·rcases iM hv with ⟨j,u,rfl,rfl⟩|⟨y,u,rfl,rfl⟩
   ·rw[WI]at h;exact SeqAt.EqAt.str_int x t j u _ _ _ _ h
   ·rw[WG]at h;exact wpAny_eqBool_str h
 «strs»:=λk x t v h=>by
  rcases iM h with ⟨i,u,rfl,e⟩|⟨y,u,rfl,e⟩
  ·exact nomatch e
  ·injection e with e1 _;subst e1
   cases v <;> rfl
theorem Hu(prog:Program)(w:World)(i:Int)(t:Tok):(jb prog w).is (.inl i) (.int i t)=true:=ND i t
theorem Hv(prog:Program)(w:World)(x:Str)(t:Tok):(jb prog w).is (.inr x) (.str x t)=true:=NF x t
end L2
namespace L2
open Spec Rows
inductive V where
 | iZ | bl (b:Bool) | int (i:Int) | str (x:Str) | Ke (b:Array UInt8) | Vl (b:UInt64) | ref (a:Addr) | ty (n:String)
 deriving DecidableEq
def RelV:V->Value->Prop
 | .iZ,u=>u=Value.none
 | .bl b,u=>u=Value.bool b
 | .int i,u=>∃ t,u=Value.int i t
 | .str x,u=>∃ t,u=Value.str x t
 | .Ke b,u=>∃ t,u=Value.bytes b t
 | .Vl b,u=>∃ t,u=Value.float b t
 | .ref a,u=>u=Value.ref a
 | .ty n,u=>u=Value.type n
abbrev cF:List V->List Value->Prop:=Paired RelV
theorem cF.length{xs:List V}{us:List Value}(r:cF xs us):xs.length=us.length:=Paired.length r
theorem cF.get:∀ {xs:List V} {us:List Value} {i:Nat} {x:V},cF xs us->xs[i]?=some x->∃ u,us[i]?=some u/\RelV x u
 | _,_,_,_,.nil,e=>by simp at e
 | _,_,0,_,.cons r _,e=>by simp at e;subst e;exact⟨_,rfl,r⟩
 | _,_,i+1,x,.cons _ t,e=>by
  obtain⟨u,h1,h2⟩:=cF.get (i:=i) (x:=x) t (by simpa using e);exact⟨u,by simpa using h1,h2⟩
theorem cF.set{x:V}{u:Value}(r:RelV x u):∀ {xs:List V} {us:List Value} (i:Nat),cF xs us->cF (xs.set i x) (us.set i u)
 | _,_,_,.nil=>.nil
 | _,_,0,.cons _ t=>.cons r t
 | _,_,i+1,.cons q t=>.cons q (cF.set r i t)
theorem cF.append{xs ys:List V}{us ws:List Value}(h:cF xs us)(s:cF ys ws):cF (xs++ys) (us++ws):=by
 induction h with
 | nil=>exact s
 | cons r _ ih=>exact .cons r ih
theorem cF.take:∀ {xs:List V} {us:List Value} (n:Nat),cF xs us->cF (xs.take n) (us.take n)
 | _,_,0,_=>.nil
 | _,_,_+1,.nil=>.nil
 | _,_,n+1,.cons r t=>.cons r (cF.take n t)
theorem cF.drop:∀ {xs:List V} {us:List Value} (n:Nat),cF xs us->cF (xs.drop n) (us.drop n)
 | _,_,0,r=>r
 | _,_,_+1,.nil=>.nil
 | _,_,n+1,.cons _ t=>cF.drop n t
def xu:Option V->Option Value->Prop
 | some v,some u=>RelV v u
 | none,none=>True
 | _,_=>False
def KV{κ:Type}:List (κ × V)->List (κ × Value)->Prop:=Paired λ(p:κ × V) (q:κ × Value)=>p.1=q.1/\RelV p.2 q.2
def kV:iL->V
 | .inl i=>.int i
 | .inr x=>.str x
inductive HO where
 | lst (xs:List V)
 | tup (xs:List V)
 | dK (kvs:List (iL × V)) | dT (kvs:List (List iL × V))
 | set (S:Int->Bool) (n:Nat)
 | ins (C dx:Addr) (fs:List (Str × V))
 | own (x:Addr)
 | xd (fs:List (Str × V))
 | met (f x:Addr)
 | DV (lo hi:Int)
 | Kf (o:Obj) (u:HO)
 | Tg (ps:Array Value)
 | ext (φ:Heap->Prop)
abbrev Hp:=Addr->Option HO
def aO(H:Hp)(a:Addr)(o:HO):Hp:=λb=>if b=a then some o else H b
theorem af{H:Hp}{a:Addr}{o:HO}:aO H a o a=some o:=by unfold aO;rw[if_pos rfl]
theorem aK{H:Hp}{a b:Addr}{o:HO}(h:b≠a):aO H a o b=H b:=by unfold aO;rw[if_neg h]
theorem eS{H:Hp}{a b:Addr}{o u:HO}(h:H a=some o)(h':H b=some u)(d:o≠u:=by intro z;cases z):a≠b:=by
 intro e;subst e;rw[h]at h';exact d (vM h')
theorem az{H:Hp}{a b:Addr}{o:HO}(h:H a=some o)(h':H b=none):a≠b:=by
 intro e;subst e;rw[h]at h';cases h'
section
variable (P:Program) (w:World)
def jc(H:Hp)(h:Heap)(a:Addr):HO->Prop
 | .lst xs=>xs.length<=sizeLine/\∃ (aQ:List Value) (n:Nat),cF xs aQ/\h.get? a=some { cls:=.type "list",data:=.seq aQ.toArray n }
 | .tup xs=>xs.length<=sizeLine/\∃ aQ:List Value,cF xs aQ/\IsTup h a aQ.toArray
 | .dK kvs=>kvs.length<=sizeLine/\(a == sysModules)=false/\∃ vs,KV kvs vs/\h.DictOf (jb P w) a vs
 | .dT kvs=>kvs.length<=sizeLine/\(a == sysModules)=false/\∃ xs:List (List iL × Addr × Value),
   Paired (λ(p:List iL × V) (q:List iL × Addr × Value)=>p.1=q.1/\H q.2.1=some (.tup (p.1.map kV))/\RelV p.2 q.2.2) kvs xs/\
   ∃ o es ep,h.get? a=some o/\o.ExactDict/\o.data=.dict es ep/\es.toList=xs.map (entryOfKey (tupleKind (jb P w)))/\(xs.map (·.1)).Nodup
 | .set S n=>h.SetOf (intKind P w) a S n
 | .ins C dx fs=>H dx=some (.own a)/\fs.length<=1000/\dx≠a/\h.get? a=some (instObj C dx)/\
   ∃ mA,h.Ns1 dx mA/\(∀ f,xu (fs.lookup f) (mA f))/\PySem.Within mA (fs.map (·.1))
 | .own _=>∃ o,h.get? a=some o
 | .xd fs=>∃ mA,h.Ns1 a mA/\∀ f,xu (fs.lookup f) (mA f)
 | .DV lo hi=>∃ t u v,h.get? a=some { cls:=.type "range",data:=.fields #[.int lo t,.int hi u,.int 1 v] }
 | .Kf o u=>h.get? a=some o/\jc H h a u
 | .Tg ps=>h.get? a=some { cls:=.none,data:=.fields ps }
 | .met f x=>h.get? a=some (methodObj (.ref f) (.ref x))
 | .ext φ=>φ h/\(∃ o,h.get? a=some o)/\∀ h1 h2:Heap,φ h1->(∀ o,h1.get? a=some o->h2.get? a=some o)->φ h2
def vN(H:Hp)(h:Heap):Prop:=∀ a o,H a=some o->jc P w H h a o
end
section
variable {P:Program} {w:World} {H H':Hp} {h h':Heap} {a:Addr} {o:HO}
theorem jc.lt(x:jc P w H h a o):a<h.objs.size:=by
 cases o with
 | lst xs=>obtain⟨_,_,_,_,e⟩:=x;exact Heap.lt_size e
 | tup xs=>obtain⟨_,_,_,p⟩:=x;exact p.lt
 | dK kvs=>obtain⟨_,_,_,_,o,_,_,e,_⟩:=x;exact Heap.lt_size e
 | dT kvs=>obtain⟨_,_,_,_,o,_,_,e,_⟩:=x;exact Heap.lt_size e
 | set S n=>obtain⟨o,_,_,_,e,_⟩:=x;exact Heap.lt_size e
 | ins C dx fs=>obtain⟨_,_,_,e,_⟩:=x;exact Heap.lt_size e
 | own y=>obtain⟨_,e⟩:=x;exact Heap.lt_size e
 | xd fs=>obtain⟨_,⟨_,_,_,e,_⟩,_⟩:=x;exact Heap.lt_size e
 | DV lo hi=>obtain⟨_,_,_,e⟩:=x;exact Heap.lt_size e
 | Kf ob u=>obtain⟨e,_⟩:=x;exact Heap.lt_size e
 | Tg ps=>exact Heap.lt_size (show h.get? a=some _ from x)
 | met f y=>exact Heap.lt_size (show h.get? a=some _ from x)
 | ext φ=>obtain⟨_,⟨_,e⟩,_⟩:=x;exact Heap.lt_size e
theorem Paired.Kg{α β:Type}{F G:α->β->Prop}{l₁:List α}{l₂:List β}(h:Paired F l₁ l₂)(f:∀ a b,F a b->G a b):Paired G l₁ l₂:=by
 induction h with
 | nil=>exact .nil
 | cons r _ ih=>exact .cons (f _ _ r) ih
theorem jc.stay(x:jc P w H h a o)(k:∀ b u,(b=a\/H b=some (.own a))->h.get? b=some u->h'.get? b=some u)
  (ho:∀ b,H b=some (.own a)->H' b=some (.own a)) (ht:∀ b xs,H b=some (.tup xs)->H' b=some (.tup xs)):jc P w H' h' a o:=by
 induction o with
 | lst xs=>obtain⟨z,aQ,n,r,e⟩:=x;exact⟨z,aQ,n,r,k _ _ (.inl rfl) e⟩
 | tup xs=>obtain⟨z,aQ,r,ob,e,c⟩:=x;exact⟨z,aQ,r,ob,k _ _ (.inl rfl) e,c⟩
 | dK kvs=>obtain⟨z,y,vs,r,ob,es,ep,e,c⟩:=x;exact⟨z,y,vs,r,ob,es,ep,k _ _ (.inl rfl) e,c⟩
 | dT kvs =>
  obtain⟨z,y,xs,r,ob,es,ep,e,c⟩:=x;exact⟨z,y,xs,Paired.Kg r λp q z=>⟨z.1,ht _ _ z.2.1,z.2.2⟩,ob,es,ep,k _ _ (.inl rfl) e,c⟩
 | set S n=>obtain⟨ob,es,ep,t,e,c⟩:=x;exact⟨ob,es,ep,t,k _ _ (.inl rfl) e,c⟩
 | ins C dx fs =>
  obtain⟨d,z,ne,e,mA,⟨od,es,ep,e2,c⟩,r⟩:=x;exact⟨ho _ d,z,ne,k _ _ (.inl rfl) e,mA,⟨od,es,ep,k _ _ (.inr d) e2,c⟩,r⟩
 | own y=>obtain⟨ob,e⟩:=x;exact⟨ob,k _ _ (.inl rfl) e⟩
 | xd fs=>obtain⟨mA,⟨od,es,ep,e,c⟩,r⟩:=x;exact⟨mA,⟨od,es,ep,k _ _ (.inl rfl) e,c⟩,r⟩
 | DV lo hi=>obtain⟨t,u,v,e⟩:=x;exact⟨t,u,v,k _ _ (.inl rfl) e⟩
 | Kf ob u ih=>obtain⟨e,q⟩:=x;exact⟨k _ _ (.inl rfl) e,ih q⟩
 | Tg ps =>
  have e:h.get? a=some { cls:=.none,data:=.fields ps }:=x;show h'.get? a=some { cls:=.none,data:=.fields ps };exact k a _ (.inl rfl) e
 | met f y =>
  have e:h.get? a=some (methodObj (.ref f) (.ref y)):=x;show h'.get? a=some (methodObj (.ref f) (.ref y));exact k a _ (.inl rfl) e
 | ext φ=>obtain⟨p,⟨o,e⟩,st⟩:=x;exact⟨st _ _ p λo q=>k _ _ (.inl rfl) q,⟨o,k _ _ (.inl rfl) e⟩,st⟩
theorem vN.lt(x:vN P w H h)(e:H a=some o):a<h.objs.size:=(x a o e).lt
theorem vN.fresh(x:vN P w H h)(e:h.objs.size<=a):H a=none:=by
 cases q:H a with
 | none=>rfl
 | some u=>exact absurd (vA (x.lt q) e) (Nat.lt_irrefl _)
theorem vN.kept(x:vN P w H h)(k:∀ b u,h.get? b=some u->h'.get? b=some u):vN P w H h':=λa o e =>
 (x a o e).stay (λb u _ q=>k b u q) (λ_ q=>q) λ_ _ q=>q
theorem vN.laid(x:vN P w H h)(k:∀ b u,h.get? b=some u->h'.get? b=some u)(hp:h.objs.size<=a)(new:jc P w (aO H a o) h' a o):vN P w (aO H a o) h':=λb u e=>by
 have hn:=x.fresh hp;by_cases hb:b=a
 ·subst hb;rw[af]at e;cases e;exact new
 ·rw[aK hb]at e;exact (x b u e).stay (λc v _ q=>k c v q) (λc q=>by rw[aK (az q hn)];exact q) λc xs q=>by rw[aK (az q hn)];exact q
end
def Rd(H:Hp)(a:Addr)(u:HO):Prop:=H a=some u\/∃ o,H a=some (.Kf o u)
theorem Rd.ok{P:Program}{w:World}{H:Hp}{h:Heap}{a:Addr}{u:HO}(r:Rd H a u)(x:vN P w H h):jc P w H h a u:=by
 rcases r with r|⟨o,r⟩
 ·exact x a u r
 ·obtain⟨_,q⟩:=x a _ r;exact q
def Zb:Option HO->Prop
 | some (.lst _)=>True
 | some (.dK _)=>True
 | some (.dT _)=>True
 | some (.set _ _)=>True
 | some (.ins _ _ _)=>True
 | some (.ext _)=>True
 | _=>False
section
variable {P:Program} {w:World} {H:Hp} {h h':Heap} {x e:Addr} {o':HO}
theorem vN.write(ok:vN P w H h)(mu:Zb (H x))(he:e=x\/H e=some (.own x))(k:∀ b u,b≠e->h.get? b=some u->h'.get? b=some u)(Vm:∃ u,h'.get? e=some u)
  (new:jc P w (aO H x o') h' x o'):vN P w (aO H x o') h':=λb u q=>by
 have Zc:∀ c y,H c=some (.own y)->c≠x:=λc y r z=>by subst z;rw[r]at mu;exact mu
 have ack:∀ c xs,H c=some (.tup xs)->c≠x:=λc xs r z=>by subst z;rw[r]at mu;exact mu
 by_cases hb:b=x
 ·subst hb;rw[af]at q;cases q;exact new
 ·rw[aK hb]at q;by_cases WJ:b=e
  ·have q':H b=some (.own x):=by
    rcases he with z|z
    ·exact absurd (WJ.trans z) hb
    ·rw[WJ];exact z
   rw[q]at q';cases q';obtain⟨v,hv⟩:=Vm;exact⟨v,by rw[WJ];exact hv⟩
  ·refine (ok b u q).stay (λc v hc r=>k c v ?_ r) (λc r=>by rw[aK (Zc c b r)];exact r) λc xs r=>by rw[aK (ack c xs r)];exact r
   rcases hc with rfl|hc
   ·exact WJ
   ·rintro rfl;rcases he with z|z
    ·exact Zc c b hc z
    ·rw[hc]at z;cases z;exact hb rfl
end
structure Un(fs ex:List Addr)(H H':Hp)(h h':Heap):Prop where
 keep:∀ b o,h.get? b=some o->H b=none->b∉fs->b∉ex->h'.get? b=some o
 slot:∀ b o,h.get? b=some o->H b=none->b∈fs->b∉ex->∃ sl,h'.get? b=some { o with slots:=sl }
 free:∀ b o,h.get? b=some o->H b=none->b∉ex->H' b=none
 there:∀ b o,h.get? b=some o->b∉ex->∃ o',h'.get? b=some o'
 tups:∀ b xs,H b=some (.tup xs)->H' b=some (.tup xs)
 DW:∀ b o u,H b=some (.Kf o u)->H' b=some (.Kf o u)
 FN:∀ b ps,H b=some (.Tg ps)->∃ Br,H' b=some (.Tg (ps++Br))
section
variable {fs YI ex ex':List Addr} {H H1 H2:Hp} {h h1 h2 h':Heap} {a x e:Addr} {o:HO}
theorem Un.any(u:Un fs ex H H1 h h1){b:Addr}{ob:Obj}(q:h.get? b=some ob)(n:H b=none)(hx:b∉ex):∃ sl,h1.get? b=some { ob with slots:=sl }:=by
 by_cases hb:b∈fs
 ·exact u.slot b ob q n hb hx
 ·exact⟨ob.slots,u.keep b ob q n hb hx⟩
theorem Un.kept(k:∀ b u,h.get? b=some u->h'.get? b=some u):Un fs ex H H h h' :=
 ⟨λb ob q _ _ _=>k b ob q,λb ob q _ _ _=>⟨ob.slots,k b ob q⟩,λ_ _ _ n _=>n,λb ob q _=>⟨ob,k b ob q⟩,λ_ _ q=>q,λ_ _ _ q=>q,λ_ ps q=>⟨#[],by rw[q];simp⟩⟩
theorem Un.refl:Un fs ex H H h h:=Un.kept λ_ _ q=>q
theorem Un.laid(k:∀ b u,h.get? b=some u->h'.get? b=some u)(hp:h.objs.size<=a)(hn:H a=none):Un fs ex H (aO H a o) h h' where
 keep:=λb u q _ _ _=>k b u q
 slot:=λb u q _ _ _=>⟨u.slots,k b u q⟩
 free:=λb u q n _=>by rw[aK (pR (vA (Heap.lt_size q) hp))];exact n
 there:=λb u q _=>⟨u,k b u q⟩
 tups:=λb xs q=>by rw[aK (az q hn)];exact q
 DW:=λb u xs q=>by rw[aK (az q hn)];exact q
 FN:=λb ps q=>⟨#[],by rw[aK (az q hn),q];simp⟩
theorem Un.write(mu:Zb (H x))(he:e=x\/H e=some (.own x))(k:∀ b u,b≠e->h.get? b=some u->h'.get? b=some u)(Vm:∃ u,h'.get? e=some u):Un fs ex H (aO H x o) h h':=by
 have hx:∀ b,H b=none->b≠x:=λb n z=>by subst z;rw[n]at mu;exact mu
 have hb:∀ b,H b=none->b≠e:=λb n z=>by
  subst z;rcases he with r|r
  ·exact hx b n r
  ·rw[n]at r;cases r
 have hm:∀ b u,H b=some u->¬ Zb (some u)->b≠x:=λb u q nm z=>by subst z;rw[q]at mu;exact nm mu
 refine⟨λb u q n _ _=>k b u (hb b n) q,λb u q n _ _=>⟨u.slots,k b u (hb b n) q⟩,λb u q n _=>by rw[aK (hx b n)];exact n,λb u q _=>?_, λb xs q=>by rw[aK (hm b _ q λz=>z)];exact q,λb u xs q=>by rw[aK (hm b _ q λz=>z)];exact q,λb ps q=>⟨#[],by rw[aK (hm b _ q λz=>z),q];simp⟩⟩;by_cases WJ:b=e
 ·subst WJ;exact Vm
 ·exact⟨u,k b u WJ q⟩
end
def trk(h:Heap)(H:Hp):List Addr:=(List.range h.objs.size).filter λa=>(H a).isSome
def FO(h:Heap)(H:Hp):Heap:=PySem.W.hideAll h (trk h H)
theorem NG(h:Heap)(H:Hp):(FO h H).objs.size=h.objs.size:=PySem.W.hideAll_size _ _
theorem Pu{h:Heap}{H:Hp}{b:Addr}{o:Obj}(e:h.get? b=some o)(n:H b=none):(FO h H).get? b=some o :=
 PySem.W.hideAll_get _ e λhm=>by
  have q:(H b).isSome=true:=(List.mem_filter.mp hm).2;rw[n]at q;simp at q
theorem Th{h:Heap}{H:Hp}{b:Addr}{o:Obj}(e:(FO h H).get? b=some o):h.get? b=some o/\H b=none:=by
 have e':h.get? b=some o:=PySem.W.of_hideAll (trk h H) e;refine⟨e',?_⟩
 cases q:H b with
 | none=>rfl
 | some x =>
  have hm:b∈trk h H:=List.mem_filter.mpr ⟨List.mem_range.mpr (Heap.lt_size e'),by simp[q]⟩;have z:(FO h H).get? b=none:=PySem.W.hideAll_none (trk h H) hm;rw[z]at e;cases e
end L2
namespace L2
open Spec Rows
structure Mod(K:PySem.W.Frag)(mg:Str->Option Value)(zt:Heap):Prop where
 YJ:K.In zt
 glob:zt.Ns mainGlobals mg
 blt:∃ mb,zt.Ns builtinsNs mb/\∀ x:Str,x≠"__name__"->mb x=bootBuiltins x
 nolimit:zt.NoLimit
structure Cx where
 prog:Program
 w:World
 K:PySem.W.Frag
 mg:Str->Option Value
 zt:Heap
 A:Around
 N:List Str
 s₀:Shared
 H₀:Hp
 env:Env
 zn:List Env
 stack:List Env
 ex:List Addr
 fn:Str->Bool
 calm:Bool
 pn:List (Addr × Obj)
 xe:Value->Shared->Prop
def vI(l:List Env):List Addr:=l.filterMap (·.frame)
abbrev Cx.fs(X:Cx):List Addr:=vI X.zn
def Vis(sc:Scope)(x:Str):Prop:=sc.names.lookup x=some .local\/sc.names.lookup x=some .cell\/sc.names.lookup x=some .free
def Loc(sc:Scope)(x:Str):Prop:=sc.names.lookup x=some .local\/sc.names.lookup x=some .cell
def Look(env:Env)(h:Heap)(m:Str->Option Value)(x:Str)(u:Value):Prop :=
 (env.kindOf x=some .local/\m x=some u)\/((env.kindOf x=some .cell\/env.kindOf x=some .free)/\∃ c,env.cells.lookup x=some c/\h.IsCell c (some u))
structure Cx.Ok(X:Cx):Prop where
 mod:Mod X.K X.mg X.zt
 kind:X.env.scope.kind=.function
 glob:X.env.globals=mainGlobals
 blt:X.env.builtins=builtinsNs
 above:X.s₀.heap.objs.size<=X.env.locals
 inj:∀ x y c,X.env.cells.lookup x=some c->X.env.cells.lookup y=some c->x=y
 has:∀ x,(X.env.kindOf x=some .cell\/X.env.kindOf x=some .free)->∃ c,X.env.cells.lookup x=some c
 WK:∀ x c,X.fn x=true->X.env.cells.lookup x=some c->X.s₀.heap.objs.size<=c
 hd:X.calm=true->X.A.handled=none
 frames:X.A.frames=some X.stack
 stk:X.stack=X.zn\/(X.stack=X.env::X.zn/\X.env.frame=some X.env.locals)
 exf:∀ b∈X.ex,b≠X.env.locals/\∀ x c,X.env.cells.lookup x=some c->c≠b
 bs:∀ b o,X.zt.get? b=some o->X.s₀.heap.get? b=some o/\X.H₀ b=none
 Sx:X.zt.objs.size<=X.s₀.heap.objs.size
 Kh:∀ b o,X.zt.get? b=some o->b∉X.ex
 NH:∀ b∈X.ex,b∉X.fs
 xx:X.s₀.heap.FunFrames X.zt X.zn
 Ti:∀ b∈X.fs,X.H₀ b=none
structure Inv(X:Cx)(ak:List (Addr × Obj))(σ:List (Option V))(H:Hp)(s:Shared):Prop where
 ok:X.Ok
 os:s.os=X.s₀.os
 bare:AllBare s.gens
 zt:Un X.fs X.ex X.H₀ H X.s₀.heap s.heap
 loc:∃ m,s.heap.Ns X.env.locals m/\∀ (i:Nat) (x:Str) (v:V),X.N[i]?=some x->σ[i]?=some (some v)->Vis X.env.scope x->∃ u,RelV v u/\Look X.env s.heap m x u
 cell:∀ x c,X.env.cells.lookup x=some c->∃ v,s.heap.IsCell c v
 free:H X.env.locals=none
 sM:∀ x c,X.env.cells.lookup x=some c->H c=none
 pin:∀ p∈X.pn++ak,s.heap.get? p.1=some p.2/\H p.1=none/\p.1≠X.env.locals/\p.1∉X.fs/\∀ v,p.2.data≠.cell v
 hok:vN X.prog X.w H s.heap
 len:σ.length=X.N.length
section
variable {X:Cx} {ak:List (Addr × Obj)} {σ:List (Option V)} {H H':Hp} {s:Shared} {h':Heap}
theorem Cx.Ok.acm(ok:X.Ok){b:Addr}{o:Obj}(e:X.zt.get? b=some o):b∉X.fs:=λhb=>by
 have:=(ok.xx.mem hb).1;rw[e]at this;cases this
theorem Inv.bs(I:Inv X ak σ H s):∀ b o,X.zt.get? b=some o->s.heap.get? b=some o/\H b=none:=λb o e =>
 ⟨I.zt.keep b o (I.ok.bs b o e).1 (I.ok.bs b o e).2 (I.ok.acm e) (I.ok.Kh b o e),I.zt.free b o (I.ok.bs b o e).1 (I.ok.bs b o e).2 (I.ok.Kh b o e)⟩
theorem Inv.bk(I:Inv X ak σ H s):∀ b o,X.zt.get? b=some o->s.heap.get? b=some o:=λb o e=>(I.bs b o e).1
theorem Inv.mod(I:Inv X ak σ H s):Mod X.K X.mg X.zt:=I.ok.mod
theorem Inv.yS(I:Inv X ak σ H s):X.K.In s.heap:=I.ok.mod.YJ.keeps I.bk
theorem Inv.lt(I:Inv X ak σ H s):X.env.locals<s.heap.objs.size:=let ⟨_,hn,_⟩:=I.loc;hn.lt
theorem Inv.sz(I:Inv X ak σ H s):X.s₀.heap.objs.size<=s.heap.objs.size:=lJ I.ok.above (j9 I.lt)
theorem Inv.acn(I:Inv X ak σ H s){a:Addr}(h:s.heap.objs.size<=a):a∉X.fs:=λhb=>by
 obtain⟨_,o,ho,_⟩:=I.ok.xx.mem hb;exact absurd (vA (Heap.lt_size ho) (lJ I.sz h)) (Nat.lt_irrefl _)
theorem Inv.WL(I:Inv X ak σ H s):∀ x c,X.env.cells.lookup x=some c->c≠X.env.locals:=λx c e z=>by
 obtain⟨v,o,ho,hd⟩:=I.cell x c e;obtain⟨m,⟨o',es,ep,Kl,WM,_⟩,_⟩:=I.loc;rw[z,Kl]at ho;cases ho;rw[WM]at hd;cases hd
theorem Inv.xx(I:Inv X ak σ H s):s.heap.FunFrames X.zt X.zn:=by
 have all:∀ (l:List Env),(∀ b∈vI l,b∈X.fs)->X.s₀.heap.FunFrames X.zt l->s.heap.FunFrames X.zt l:=by
  intro l
  induction l with
  | nil=>intro _ _;trivial
  | cons env r ih =>
   intro hs hl;obtain⟨hk,⟨L,o,hf,hn,ho,hd⟩,hr⟩:=hl;have hL:L∈X.fs:=hs L (by unfold vI;rw[List.filterMap_cons,hf];exact yR);obtain⟨sl,e⟩:=I.zt.slot L o ho (I.ok.Ti L hL) hL λz=>I.ok.NH L z hL;exact⟨hk,⟨L,_,hf,hn,e,hd⟩,ih (λb hb=>hs b (by unfold vI;rw[List.filterMap_cons,hf];exact sH _ hb)) hr⟩
 exact all X.zn (λ_ hb=>hb) I.ok.xx
theorem Inv.stack(I:Inv X ak σ H s):s.heap.FunFrames X.zt X.stack:=by
 rcases I.ok.stk with e|⟨e,hf⟩
 ·rw[e];exact I.xx
 ·rw[e];obtain⟨m,hn,_⟩:=I.loc;refine .cons (by rw[I.ok.kind];decide) hf hn ?_ I.xx;exact Heap.get?_none_of_le (lJ I.ok.Sx I.ok.above)
theorem Inv.zS(I:Inv X ak σ H s):∀ b∈vI X.stack,b∈X.env.locals::X.fs:=λb hb=>by
 rcases I.ok.stk with e|⟨e,hf⟩
 ·rw[e]at hb;exact sH _ hb
 ·rw[e]at hb;unfold vI at hb;rw[List.filterMap_cons,hf]at hb;exact hb
theorem Inv.yT(I:Inv X ak σ H s):∀ b∈vI X.stack,H b=none:=λb hb=>by
 rcases List.mem_cons.mp (I.zS b hb) with e|hb
 ·rw[e];exact I.free
 ·obtain⟨_,o,ho,_⟩:=I.ok.xx.mem hb;exact I.zt.free b o ho (I.ok.Ti b hb) λz=>I.ok.NH b z hb
theorem Inv.step{g':Array GenState}{t':Nat}{d':Drawn}{ch:List Addr}(I:Inv X ak σ H s)
  (Sy:∀ b∈ch,(b∈X.ex\/X.s₀.heap.objs.size<=b)/\b≠X.env.locals/\(∀ x c,X.env.cells.lookup x=some c->c≠b)/\∀ p∈X.pn++ak,p.1≠b)
  (keep:∀ b o,b≠X.env.locals->b∉X.fs->b∉ch->s.heap.get? b=some o->H b=none->h'.get? b=some o)
  (slot:∀ b o,b≠X.env.locals->b∈X.fs->b∉ch->s.heap.get? b=some o->H b=none->∃ sl,h'.get? b=some { o with slots:=sl }) (free:∀ b o,b∉ch->s.heap.get? b=some o->H b=none->H' b=none)
  (there:∀ b o,b∉ch->s.heap.get? b=some o->∃ o',h'.get? b=some o')
  (tups:∀ b xs,H b=some (.tup xs)->H' b=some (.tup xs)) (DW:∀ b o u,H b=some (.Kf o u)->H' b=some (.Kf o u)) (FN:∀ b ps,H b=some (.Tg ps)->∃ Br,H' b=some (.Tg (ps++Br)))
  (ns:∀ m,s.heap.Ns X.env.locals m->h'.Ns X.env.locals m) (hok:vN X.prog X.w H' h') (hg:AllBare g') :
  Inv X ak σ H' { s with heap:=h',gens:=g',drawn:=d',toks:=t' }:=by
 have neL:∀ b o,X.s₀.heap.get? b=some o->b≠X.env.locals:=λb o e=>pR (vA (Heap.lt_size e) I.ok.above)
 have neC:∀ b o,X.s₀.heap.get? b=some o->b∉X.ex->b∉ch:=λb o e hx hb=>by
  rcases (Sy b hb).1 with z|z
  ·exact hx z
  ·exact absurd (vA (Heap.lt_size e) z) (Nat.lt_irrefl _)
 have cellK:∀ x c,X.env.cells.lookup x=some c->∀ v,s.heap.IsCell c v->h'.IsCell c v:=λx c e v ⟨o,ho,hd⟩=>by
  have Zd:c∉ch:=λz=>(Sy c z).2.2.1 x c e rfl;by_cases hc:c∈X.fs
  ·obtain⟨sl,q⟩:=slot c o (I.WL x c e) hc Zd ho (I.sM x c e);exact⟨_,q,hd⟩
  ·exact⟨o,keep c o (I.WL x c e) hc Zd ho (I.sM x c e),hd⟩
 refine⟨I.ok,I.os,hg,⟨λb o e n hb hx=>?_,λb o e n hb hx=>?_,λb o e n hx=>?_,λb o e hx=>?_,λb xs e=>tups b xs (I.zt.tups b xs e),λb o xs e=>DW b o xs (I.zt.DW b o xs e),λb ps e=>?_⟩,?_,λx c e=>?_,?_,λx c e=>?_,λp hp=>?_,hok,I.len⟩
 ·exact keep b o (neL b o e) hb (neC b o e hx) (I.zt.keep b o e n hb hx) (I.zt.free b o e n hx)
 ·obtain⟨sl,e1⟩:=I.zt.slot b o e n hb hx;obtain⟨sl',e2⟩:=slot b _ (neL b o e) hb (neC b o e hx) e1 (I.zt.free b o e n hx);exact⟨sl',e2⟩
 ·obtain⟨o',e1⟩:=I.zt.there b o e hx;exact free b o' (neC b o e hx) e1 (I.zt.free b o e n hx)
 ·obtain⟨o',e1⟩:=I.zt.there b o e hx;exact there b o' (neC b o e hx) e1
 ·obtain⟨m1,e1⟩:=I.zt.FN b ps e;obtain⟨m2,e2⟩:=FN b _ e1;exact⟨m1++m2,by rw[e2,Array.append_assoc]⟩
 ·obtain⟨m,hn,hl⟩:=I.loc;refine⟨m,ns m hn,λi x v e1 e2 e3=>?_⟩;obtain⟨u,r,l⟩:=hl i x v e1 e2 e3;refine⟨u,r,?_⟩;rcases l with l|⟨k,c,e,z⟩
  ·exact .inl l
  ·exact .inr ⟨k,c,e,cellK x c e _ z⟩
 ·obtain⟨v,z⟩:=I.cell x c e;exact⟨v,cellK x c e v z⟩
 ·obtain⟨m,⟨o,_,_,ho,_⟩,_⟩:=I.loc;exact free _ o (λz=>(Sy _ z).2.1 rfl) ho I.free
 ·obtain⟨v,o,ho,hd⟩:=I.cell x c e;exact free c o (λz=>(Sy c z).2.2.1 x c e rfl) ho (I.sM x c e)
 ·obtain⟨e,n,ne,nf,d⟩:=I.pin p hp;have Zd:p.1∉ch:=λz=>(Sy p.1 z).2.2.2 p hp rfl;exact⟨keep p.1 p.2 ne nf Zd e n,free p.1 p.2 Zd e n,ne,nf,d⟩
theorem Inv.un{t':Nat}(I:Inv X ak σ H s)(u:Un X.fs [] H H' s.heap h')(hok:vN X.prog X.w H' h'):Inv X ak σ H' { s with heap:=h',toks:=t' }:=by
 obtain⟨m,⟨o,es,ep,ho,r⟩,_⟩:=id I.loc;obtain⟨sl,hL⟩:=u.any ho I.free (by simp)
 exact I.step (g':=s.gens) (d':=s.drawn) (ch:=[]) (λ_ z=>nomatch z) (λb o _ hb _ e n=>u.keep b o e n hb (by simp)) (λb o _ hb _ e n=>u.slot b o e n hb (by simp)) (λb o _ e n=>u.free b o e n (by simp)) (λb o _ e=>u.there b o e (by simp)) u.tups u.DW u.FN (λm' hm=>by
  obtain⟨o',zN,ep',Kl,r'⟩:=hm;rw[ho]at Kl;cases Kl
  exact⟨_,zN,ep',hL,r'⟩) hok I.bare
theorem Inv.call{g':Array GenState}{t':Nat}{d':Drawn}{ch:List Addr}(I:Inv X ak σ H s)(u:Un (vI X.stack) ch H H' s.heap h')(hok:vN X.prog X.w H' h')(hg:AllBare g')
  (Sy:∀ b∈ch,(b∈X.ex\/X.s₀.heap.objs.size<=b)/\b≠X.env.locals/\(∀ x c,X.env.cells.lookup x=some c->c≠b)/\∀ p∈X.pn++ak,p.1≠b) :
  Inv X ak σ H' { s with heap:=h',gens:=g',drawn:=d',toks:=t' }:=by
 obtain⟨m,⟨o,es,ep,ho,r⟩,_⟩:=id I.loc;obtain⟨sl,hL⟩:=u.any ho I.free λz=>(Sy _ z).2.1 rfl
 exact I.step (ch:=ch) Sy (λb o hL hb hc e n=>u.keep b o e n (λz=>(List.mem_cons.mp (I.zS b z)).elim hL hb) hc) (λb o _ _ hc e n=>u.any e n hc) (λb o hc e n=>u.free b o e n hc) (λb o hc e=>u.there b o e hc) u.tups u.DW u.FN (λm' hm=>by
  obtain⟨o',zN,ep',Kl,r'⟩:=hm;rw[ho]at Kl;cases Kl
  exact⟨_,zN,ep',hL,r'⟩) hok hg
theorem Inv.turned{t':Nat}{it:Addr}(I:Inv X ak σ H s)(k:∀ b o,b≠it->s.heap.get? b=some o->h'.get? b=some o)(hn:H it=none)(hL:it≠X.env.locals)
  (h1:it∈X.ex\/X.s₀.heap.objs.size<=it) (h2:∀ x c,X.env.cells.lookup x=some c->c≠it) (h3:∀ p∈X.pn++ak,p.1≠it):Inv X ak σ H { s with heap:=h',toks:=t' }:=by
 have Vn:∀ b u,H b=some u->b≠it:=λb u e z=>by rw[z,hn]at e;cases e
 refine I.step (g':=s.gens) (d':=s.drawn) (ch:=[it]) (λb hb=>?_) (λb o _ _ hc e _=>k b o (λz=>hc (by simp[z])) e) (λb o _ _ hc e _=>⟨o.slots,k b o (λz=>hc (by simp[z])) e⟩) (λ_ _ _ _ n=>n) (λb o hc e=>⟨o,k b o (λz=>hc (by simp[z])) e⟩) (λ_ _ e=>e) (λ_ _ _ e=>e) (λb ps e=>⟨#[],by rw[e];simp⟩) (λm hm=>?_) (λb u e=>?_) I.bare
 ·have e:b=it:=by simpa using hb
  subst e;exact⟨h1,hL,h2,h3⟩
 ·obtain⟨o,es,ep,ho,r⟩:=hm;exact⟨o,es,ep,k _ o (Ne.symm hL) ho,r⟩
 ·refine (I.hok b u e).stay (λc v hc q=>k c v ?_ q) (λ_ q=>q) λ_ _ q=>q;rcases hc with z|z
  ·rw[z];exact Vn b u e
  ·exact Vn c _ z
theorem Inv.tok(I:Inv X ak σ H s)(t:Nat):Inv X ak σ H { s with toks:=t }:=I.un (h':=s.heap) (t':=t) Un.refl I.hok
theorem Inv.kept{t':Nat}(I:Inv X ak σ H s)(k:∀ b u,s.heap.get? b=some u->h'.get? b=some u):Inv X ak σ H { s with heap:=h',toks:=t' }:=I.un (Un.kept k) (I.hok.kept k)
theorem Inv.laid{a:Addr}{o:HO}{t':Nat}(I:Inv X ak σ H s)(k:∀ b u,s.heap.get? b=some u->h'.get? b=some u)(hp:s.heap.objs.size<=a)(new:jc X.prog X.w (aO H a o) h' a o) :
  Inv X ak σ (aO H a o) { s with heap:=h',toks:=t' }:=I.un (Un.laid k hp (I.hok.fresh hp)) (I.hok.laid k hp new)
theorem Inv.write{x e:Addr}{o:HO}{t':Nat}(I:Inv X ak σ H s)(mu:Zb (H x))(he:e=x\/H e=some (.own x))(k:∀ b u,b≠e->s.heap.get? b=some u->h'.get? b=some u)(Vm:∃ u,h'.get? e=some u)
  (new:jc X.prog X.w (aO H x o) h' x o):Inv X ak σ (aO H x o) { s with heap:=h',toks:=t' }:=I.un (Un.write mu he k Vm) (I.hok.write mu he k Vm new)
theorem Inv.L4(I:Inv X ak σ H s)(h:∀ p∈Vo,s.heap.get? p.1=some p.2/\H p.1=none/\p.1≠X.env.locals/\p.1∉X.fs/\∀ v,p.2.data≠.cell v):Inv X Vo σ H s :=
 ⟨I.ok,I.os,I.bare,I.zt,I.loc,I.cell,I.free,I.sM,λp hp=>(List.mem_append.mp hp).elim (λz=>I.pin p (xY _ z)) (h p),I.hok,I.len⟩
theorem Hw{N:List Str}(hN:N.Nodup){i j:Nat}{x:Str}(a:N[i]?=some x)(b:N[j]?=some x):i=j:=by
 obtain⟨h1,e1⟩:=List.getElem?_eq_some_iff.mp a;obtain⟨h2,e2⟩:=List.getElem?_eq_some_iff.mp b;exact (List.getElem_inj hN).mp (e1.trans e2.symm)
theorem Ey{M:Model}{A:Around}{E:Value->Shared->Prop}{i:Nat}{x:Str}{v:V}{u:Value}{Q:Unit->Shared->Prop}(I:Inv X ak σ H s)(hN:X.N.Nodup)(hi:X.N[i]?=some x)(hx:Loc X.env.scope x)(r:RelV v u)
  (h:∀ s',Inv X ak (σ.set i (some v)) H s'->(∃ a,Heap.SameBut a s.heap s'.heap/\(a=X.env.locals\/X.env.cells.lookup x=some a))->Q () s') (hf:X.fn x=true\/X.env.scope.names.lookup x=some .local:=by first|exact .inl rfl|exact .inr rfl|assumption):wpAny M A (storeName X.env x u) Q E s:=by
 obtain⟨m,hn,hl⟩:=id I.loc;have hcls:(X.env.scope.kind == .class || (X.env.scope.kind == .module&&X.env.locals != X.env.globals))=false:=by rw[I.ok.kind];rfl
 have hiσ:i<σ.length:=by rw[I.len];exact (List.getElem?_eq_some_iff.mp hi).1
 have WL:=I.WL
 have tracked:∀ {a:Addr} {h':Heap},(∃ o,s.heap.get? a=some o/\H a=none)->Heap.SameBut a s.heap h'->vN X.prog X.w H h':=λ{a h'} ha hs b ob e=>by
  obtain⟨_,_,L7⟩:=ha;refine (I.hok b ob e).stay (λc w' hc q=>(hs.2 c ?_).trans q) (λ_ q=>q) λ_ _ q=>q;rintro rfl;rcases hc with rfl|hc
  ·rw[L7]at e;cases e
  ·rw[L7]at hc;cases hc
 rcases hx with hk|hk
 ·refine wpAny_storeName_local hk hn (λh' Ze hs=>?_) hcls;obtain⟨oL,_,_,hoL,_⟩:=id hn;refine h _ ⟨I.ok,I.os,I.bare,⟨λb o e n hb hx=>?_,λb o e n hb hx=>?_,I.zt.free,λb o e hx=>?_,I.zt.tups,I.zt.DW,I.zt.FN⟩,⟨_,Ze,λj y v' e1 e2 e3=>?_⟩,λy c e=>?_,I.free,I.sM,λp hp=>?_,tracked ⟨oL,hoL,I.free⟩ hs,by simpa using I.len⟩ ⟨_,hs,.inl rfl⟩
  ·exact (hs.2 b (pR (vA (Heap.lt_size e) I.ok.above))).trans (I.zt.keep b o e n hb hx)
  ·obtain⟨sl,e1⟩:=I.zt.slot b o e n hb hx;exact⟨sl,(hs.2 b (pR (vA (Heap.lt_size e) I.ok.above))).trans e1⟩
  ·obtain⟨o',e1⟩:=I.zt.there b o e hx;exact⟨o',(hs.2 b (pR (vA (Heap.lt_size e) I.ok.above))).trans e1⟩
  ·by_cases hj:j=i
   ·subst hj;rw[hi]at e1;cases e1;rw[List.getElem?_set_self hiσ]at e2;cases e2;exact⟨u,r,.inl ⟨hk,by simp⟩⟩
   ·rw[List.getElem?_set_ne (Ne.symm hj)]at e2;obtain⟨u',r',q⟩:=hl j y v' e1 e2 e3;refine⟨u',r',?_⟩;rcases q with ⟨k,e⟩|⟨k,c,e,z⟩
    ·refine .inl ⟨k,?_⟩;have:y≠x:=λe=>hj (Hw hN e1 (e ▸ hi));simp[this,e]
    ·exact .inr ⟨k,c,e,z.sameBut hs (WL y c e)⟩
  ·obtain⟨w',z⟩:=I.cell y c e;exact⟨w',z.sameBut hs (WL y c e)⟩
  ·obtain⟨e,n,ne,nf,d⟩:=I.pin p hp;exact⟨(hs.2 p.1 ne).trans e,n,ne,nf,d⟩
 ·have Zf:X.fn x=true:=by
   rcases hf with z|z
   ·exact z
   ·rw[z]at hk;cases hk
  obtain⟨c,hc⟩:=I.ok.has x (.inl hk);obtain⟨w',z⟩:=I.cell x c hc;refine wpAny_storeName_cell I.ok.kind hk hc z (λh' Zg hs=>?_);obtain⟨oc,hoc,acp⟩:=id z;refine h { s with heap:=h' } ⟨I.ok,I.os,I.bare,⟨λb o e n hb hx=>?_,λb o e n hb hx=>?_,I.zt.free,λb o e hx=>?_,I.zt.tups,I.zt.DW,I.zt.FN⟩,⟨m,hn.sameBut hs (Ne.symm (WL x c hc)),λj y v' e1 e2 e3=>?_⟩,λy c' e=>?_,I.free,I.sM,λp hp=>?_,tracked ⟨oc,hoc,I.sM x c hc⟩ hs,by simpa using I.len⟩ ⟨c,hs,.inr hc⟩
  ·exact (hs.2 b (pR (vA (Heap.lt_size e) (I.ok.WK x c Zf hc)))).trans (I.zt.keep b o e n hb hx)
  ·obtain⟨sl,e1⟩:=I.zt.slot b o e n hb hx;exact⟨sl,(hs.2 b (pR (vA (Heap.lt_size e) (I.ok.WK x c Zf hc)))).trans e1⟩
  ·obtain⟨o',e1⟩:=I.zt.there b o e hx;exact⟨o',(hs.2 b (pR (vA (Heap.lt_size e) (I.ok.WK x c Zf hc)))).trans e1⟩
  ·by_cases hj:j=i
   ·subst hj;rw[hi]at e1;cases e1;rw[List.getElem?_set_self hiσ]at e2;cases e2;exact⟨u,r,.inr ⟨.inl hk,c,hc,Zg⟩⟩
   ·rw[List.getElem?_set_ne (Ne.symm hj)]at e2;obtain⟨u',r',q⟩:=hl j y v' e1 e2 e3;refine⟨u',r',?_⟩;rcases q with q|⟨k,c',e,z'⟩
    ·exact .inl q
    ·refine .inr ⟨k,c',e,z'.sameBut hs ?_⟩;rintro rfl;exact hj (Hw hN e1 (I.ok.inj _ _ _ e hc ▸ hi))
  ·by_cases hcc:c'=c
   ·subst hcc;exact⟨_,Zg⟩
   ·obtain⟨w2,z2⟩:=I.cell y c' e;exact⟨w2,z2.sameBut hs hcc⟩
  ·obtain⟨e,n,ne,nf,d⟩:=I.pin p hp;refine⟨(hs.2 p.1 ?_).trans e,n,ne,nf,d⟩;intro q;rw[q,hoc]at e;have q':oc=p.2:=vM e;exact d w' (by rw[← q'];exact acp)
theorem yU{M:Model}{A:Around}{E:Value->Shared->Prop}{i:Nat}{x:Str}{v:V}{u:Value}{Q:Unit->Shared->Prop}(I:Inv X ak σ H s)(hN:X.N.Nodup)(hi:X.N[i]?=some x)(hx:Loc X.env.scope x)(r:RelV v u)
  (h:∀ s',Inv X ak (σ.set i (some v)) H s'->Q () s') (hf:X.fn x=true\/X.env.scope.names.lookup x=some .local:=by first|exact .inl rfl|exact .inr rfl|assumption):wpAny M A (storeName X.env x u) Q E s :=
 Ey I hN hi hx r (λs' I' _=>h s' I') hf
theorem Inv.Hx{s':Shared}{ch:List Addr}(I:Inv X ak σ H s)(ho:s'.os=s.os)(u:Un (vI X.stack) ch H H' s.heap s'.heap)(hok:vN X.prog X.w H' s'.heap)(hg:AllBare s'.gens)
  (Sy:∀ b∈ch,(b∈X.ex\/X.s₀.heap.objs.size<=b)/\b≠X.env.locals/\(∀ x c,X.env.cells.lookup x=some c->c≠b)/\∀ p∈X.pn++ak,p.1≠b):Inv X ak σ H' s':=by
 obtain⟨h',g',d',t',o'⟩:=s';have e:o'=s.os:=ho;subst e;exact I.call (g':=g') (t':=t') (d':=d') u hok hg Sy
end
abbrev XK:=Value->Option Addr->Hp->Prop
abbrev St:=List (Option V)
abbrev VK:=V->Hp->Prop
abbrev TE:=St->Hp->VK->Prop
abbrev TT:=St->Hp->(Bool->Hp->Prop)->Prop
abbrev TA:=St->Hp->(List V->Hp->Prop)->Prop
structure Ends where
 nx:St->Hp->Prop
 rt:VK
 bk:St->Hp->Prop:=λ_ _=>False
 ct:St->Hp->Prop:=λ_ _=>False
abbrev TS:=Ends->St->Hp->Prop
inductive EP(X:Cx)(ak:List (Addr × Obj))(σ:St)(Q:VK)(u:Value)(s':Shared):Prop
 | mk (v:V) (H':Hp) (_:Inv X ak σ H' s') (_:RelV v u) (_:Q v H')
def TP(X:Cx)(ak:List (Addr × Obj))(σ:St)(Q:Bool->Hp->Prop)(b:Bool)(s':Shared):Prop:=∃ H',Inv X ak σ H' s'/\Q b H'
inductive AP(X:Cx)(ak:List (Addr × Obj))(σ:St)(Q:List V->Hp->Prop)(us:List Value)(s':Shared):Prop
 | mk (vs:List V) (H':Hp) (_:Inv X ak σ H' s') (_:cF vs us) (_:Q vs H')
def SP(X:Cx)(ak:List (Addr × Obj))(D:Ends)(f:Flow)(s':Shared):Prop :=
 match f with
 | .next=>∃ σ' H',Inv X ak σ' H' s'/\D.nx σ' H'
 | .brk=>∃ σ' H',Inv X ak σ' H' s'/\D.bk σ' H'
 | .cont=>∃ σ' H',Inv X ak σ' H' s'/\D.ct σ' H'
 | .ret u=>∃ v σ' H',Inv X ak σ' H' s'/\RelV v u/\D.rt v H'
def PE(X:Cx)(e:Expr)(t:TE):Prop :=
 ∀ (ak:List (Addr × Obj)) (s:Shared) (σ:St) (H:Hp) (Q:VK),Inv X ak σ H s->t σ H Q->wpAny (model X.prog X.w) X.A (eval e X.env) (EP X ak σ Q) X.xe s
def PT(X:Cx)(e:Expr)(t:TT):Prop :=
 ∀ (ak:List (Addr × Obj)) (s:Shared) (σ:St) (H:Hp) (Q:Bool->Hp->Prop),Inv X ak σ H s->t σ H Q->wpAny (model X.prog X.w) X.A (isTrue e X.env (eval e X.env)) (TP X ak σ Q) X.xe s
def PW(X:Cx)(e:Expr)(t:TT):Prop :=
 ∀ (Cc:Sem Value) (ak:List (Addr × Obj)) (s:Shared) (σ:St) (H:Hp) (Q:Bool->Hp->Prop),Inv X ak σ H s->t σ H Q->wpAny (model X.prog X.w) X.A (isTrue e X.env Cc) (TP X ak σ Q) X.xe s
theorem PW.pt{X:Cx}{e:Expr}{t:TT}(h:PW X e t):PT X e t:=h _
def PA(X:Cx)(es:List Expr)(t:TA):Prop :=
 ∀ (pos:Pos) (ak:List (Addr × Obj)) (s:Shared) (σ:St) (H:Hp) (Q:List V->Hp->Prop),Inv X ak σ H s->t σ H Q->wpAny (model X.prog X.w) X.A (spliced (backTo pos (starEach es X.env))) (AP X ak σ Q) X.xe s
def PS(X:Cx)(st:Stmt)(t:TS):Prop :=
 ∀ (ak:List (Addr × Obj)) (s:Shared) (σ:St) (H:Hp) (D:Ends),Inv X ak σ H s->t D σ H->wpAny (model X.prog X.w) X.A (exec st X.env) (SP X ak D) X.xe s
def Hg(X:Cx)(st:List Stmt)(t:TS):Prop :=
 ∀ (ak:List (Addr × Obj)) (s:Shared) (σ:St) (H:Hp) (D:Ends),Inv X ak σ H s->t D σ H->wpAny (model X.prog X.w) X.A (execs st X.env) (SP X ak D) X.xe s
theorem dD{α:Type}{t:Sem α}{Q Q':α->Shared->Prop}{M:Model}{A:Around}{E:Value->Shared->Prop}{s:Shared}(h:wpAny M A t Q E s)(hQ:∀ a s,Q a s->Q' a s):wpAny M A t Q' E s:=wpAny_mono h hQ λ_ _ x=>x
end L2
namespace L2
open Spec Rows
section
variable {X:Cx}
inductive WN(i:Nat)(σ:St)(H:Hp)(Q:VK):Prop
 | mk (v:V) (_:σ[i]?=some (some v)) (_:Q v H)
inductive isB(x:V)(H:Hp)(Q:Bool->Hp->Prop):Prop
 | mk (c:Bool) (_:x=.bl c) (_:Q c H)
inductive isI(x:V)(H:Hp)(Q:Option Int->Hp->Prop):Prop
 | mk (i:Int) (_:x=.int i) (_:Q (some i) H)
def tC(v:V):TE:=λ_ H Q=>Q v H
theorem WO{i:Nat}{x:Str}(hN:X.N[i]?=some x)(hv:Vis X.env.scope x)(hd:(x == ("__debug__":Str))=false:=by decide)(NI:(x == ("__classdict__":Str))=false:=by decide):PE X (.Name x pos) (WN i):=by
 intro ak s σ H Q I h;obtain⟨v,e,h⟩:=h;obtain⟨m,hn,hl⟩:=I.loc;obtain⟨u,r,l⟩:=hl i x v hN e hv;have qo:EP X ak σ Q u s:=⟨v,H,I,r,h⟩;rcases l with ⟨hk,hm⟩|⟨hk,c,hc,hcell⟩
 ·exact wpAny_Name (wpAny_loadName_local I.ok.kind hk hn hm qo) hd
 ·rcases hk with hk|hk
  ·exact wpAny_Name (wpAny_loadName_cell I.ok.kind hk hc hcell qo) hd
  ·exact wpAny_Name (wpAny_loadName_free I.ok.kind hk hc hcell qo NI) hd
theorem ay{i j pos}:PE X (.Constant (.int i) j pos) (tC (.int i)):=λ_ _ _ H _ I h=>wpAny_Constant_int ⟨.int i,H,I.tok _,⟨_,rfl⟩,h⟩
theorem vh{b j pos}:PE X (.Constant (.bool b) j pos) (tC (.bl b)):=λ_ _ _ H _ I h=>Constant_bool ⟨.bl b,H,I,rfl,h⟩
theorem FP{j pos}:PE X (.Constant .none j pos) (tC .iZ):=λ_ _ _ H _ I h=>Constant_none ⟨.iZ,H,I,rfl,h⟩
theorem bK{x j pos}:PE X (.Constant (.str x) j pos) (tC (.str x)):=λ_ _ _ H _ I h=>Calls.Constant_str ⟨.str x,H,I.tok _,⟨_,rfl⟩,h⟩
def Gl(X:Cx)(x:Str):Prop:=X.env.kindOf x=some .globalImplicit
theorem wH{E:Value->Shared->Prop}{s:Shared}{σ:St}{H:Hp}{x:Str}{u:Value}{Q:Value->Shared->Prop}(I:Inv X ak σ H s)(hg:Gl X x)(hm:X.mg x=some u)(h:Q u s)
  (hd:(x == ("__debug__":Str))=false:=by decide):wpAny (model X.prog X.w) X.A (eval (.Name x pos) X.env) Q E s :=
 Calls.Name_function_global I.ok.kind hg (Calls.loadGlobal_global (by rw[I.ok.glob];exact I.mod.glob.keeps I.bk) hm h) hd
theorem zT{E:Value->Shared->Prop}{s:Shared}{σ:St}{H:Hp}{x:Str}{u:Value}{Q:Value->Shared->Prop}(I:Inv X ak σ H s)(hg:Gl X x)(hm:X.mg x=none)(hv:bootBuiltins x=some u)(h:Q u s)
  (hn:x≠"__name__":=by decide) (hd:(x == ("__debug__":Str))=false:=by decide):wpAny (model X.prog X.w) X.A (eval (.Name x pos) X.env) Q E s:=by
 obtain⟨mb,h1,h2⟩:=I.mod.blt;exact Calls.Name_function_global I.ok.kind hg (Calls.loadGlobal_builtin (by rw[I.ok.glob];exact I.mod.glob.keeps I.bk) hm (by rw[I.ok.blt];exact h1.keeps I.bk) ((h2 x hn).trans hv) h) hd
theorem Ma{x:Str}{v:V}{u:Value}(hg:Gl X x)(hm:X.mg x=some u)(r:RelV v u)(hd:(x == ("__debug__":Str))=false:=by decide):PE X (.Name x pos) (tC v) :=
 λ_ _ _ H _ I h=>wH I hg hm ⟨v,H,I,r,h⟩ hd
theorem Tj{x:Str}{v:V}{u:Value}(hg:Gl X x)(hm:X.mg x=none)(hv:bootBuiltins x=some u)(r:RelV v u)(hn:x≠"__name__":=by decide)(hd:(x == ("__debug__":Str))=false:=by decide):PE X (.Name x pos) (tC v) :=
 λ_ _ _ H _ I h=>zT I hg hm hv ⟨v,H,I,r,h⟩ hn hd
variable {a b:Expr} {ta tb:TE} {pos:Pos}
def PC(X:Cx)(op:CmpOp)(a b:Expr)(t:TE):Prop :=
 ∀ (ak:List (Addr × Obj)) (s:Shared) (σ:St) (H:Hp) (Q:VK),Inv X ak σ H s->t σ H Q->
  wpAny (model X.prog X.w) X.A (eval a X.env) (λv s₁=>wpAny (model X.prog X.w) X.A (eval b X.env) (λu s₂=>wpAny (model X.prog X.w) X.A (compareOp op v u) (EP X ak σ Q) X.xe s₂) X.xe s₁) X.xe s
theorem Hy(b:Expr){op:CmpOp}(h:op≠.In)(h2:op≠.NotIn):behindInMarks op b=false:=by
 have e1:(op == CmpOp.In)=false:=by cases op <;> first|rfl|exact absurd rfl h
 have e2:(op == CmpOp.NotIn)=false:=by cases op <;> first|rfl|exact absurd rfl h2
 cases b <;> simp[behindInMarks,e1,e2]
def acq(ta:TE):TE:=fun σ H Q=>ta σ H λx H1=>Q (.bl (decide (x=.iZ))) H1
def Zh(ta:TE):TE:=fun σ H Q=>ta σ H λx H1=>Q (.bl (!decide (x=.iZ))) H1
theorem RelV.Hz{x:V}{v:Value}(r:RelV x v):(v == Value.none)=decide (x=.iZ):=by
 cases x with
 | iZ=>cases r;rfl
 | bl _=>cases r;rfl
 | int _=>obtain⟨t,rfl⟩:=r;rfl
 | str _=>obtain⟨t,rfl⟩:=r;rfl
 | Ke _=>obtain⟨t,rfl⟩:=r;rfl
 | Vl _=>obtain⟨t,rfl⟩:=r;rfl
 | ref _=>cases r;rfl
 | ty _=>cases r;rfl
theorem Km{j mz}(ha:PE X a ta):PC X .Is a (.Constant .none j mz) (acq ta):=by
 intro ak s σ H Q I h;refine dD (ha ak s σ H _ I h) λv s1 DX=>?_;obtain⟨x,H1,I1,r1,q1⟩:=DX;exact Constant_none (is_none_gen ⟨.bl _,H1,I1,by rw[r1.Hz];rfl,q1⟩)
theorem Tn{j mz}(ha:PE X a ta):PC X .IsNot a (.Constant .none j mz) (Zh ta):=by
 intro ak s σ H Q I h;refine dD (ha ak s σ H _ I h) λv s1 HC=>?_;obtain⟨x,H1,I1,r1,q1⟩:=HC;exact Constant_none (isnot_none_gen ⟨.bl _,H1,I1,by rw[r1.Hz];rfl,q1⟩)
def tB(t:TE):TT:=fun σ H Q=>t σ H λx H1=>isB x H1 Q
theorem Px{op:CmpOp}{t:TE}(h:PC X op a b t)(h1:behindInMarks op b=false:=by first|exact Hy _ (by decide) (by decide)|rfl):PE X (.Compare a [op] [b] pos) t:=λak s σ H Q I hw=>wpAny_Compare1 (h ak s σ H Q I hw) h1
theorem FQ{op:CmpOp}{t:TE}(h:PC X op a b t)(h1:behindInMarks op b=false:=by first|exact Hy _ (by decide) (by decide)|rfl):PT X (.Compare a [op] [b] pos) (tB t):=by
 intro ak s σ H Q I hw;refine wpAny_isTrue_Compare1 (dD (h ak s σ H _ I hw) λv s1 h1=>dD h1 λu s2 h2=>dD h2 λc s3 ⟨x,H1,I1,r1,q1⟩=>?_) h1;obtain⟨d,rfl,q⟩:=q1;cases r1;exact wpAny_truthy_bool ⟨H1,I1,q⟩
theorem tR{e:Expr}{t:TE}(h:PE X e t)(he:∀ Cc,isTrue e X.env Cc=(do let v ← Cc;standAt e.pos;holding [v] (truthy v)):=by intro _;rfl):PT X e (tB t):=by
 intro ak s σ H Q I hw;refine isTrue_plain (dD (h ak s σ H _ I hw) λv s1 ⟨x,H1,I1,r1,q1⟩=>?_) (he _);obtain⟨d,rfl,q⟩:=q1;cases r1;exact wpAny_truthy_bool ⟨H1,I1,q⟩
variable {tA tB':TT} {vO:List Expr}
def acr(t u:TT):TT:=fun σ H Q=>t σ H λc H1=>if c=true then u σ H1 Q else Q false H1
def tOr(t u:TT):TT:=fun σ H Q=>t σ H λc H1=>if c=true then Q true H1 else u σ H1 Q
def acs(t:TT):TT:=fun σ H Q=>t σ H λc H1=>Q (!c) H1
theorem yV(ha:PT X a tA):PW X (.BoolOp .And [a] pos) tA:=by
 intro wh ak s σ H Q I h;refine isTrue_and (dD (ha ak s σ H Q I h) λc s1 e=>?_)
 cases c with
 | true=>exact isTrue_and_nil e
 | false=>exact e
theorem FT(ha:PT X a tA):PW X (.BoolOp .Or [a] pos) tA:=by
 intro wh ak s σ H Q I h;refine isTrue_or (dD (ha ak s σ H Q I h) λc s1 e=>?_)
 cases c with
 | false=>exact isTrue_or_nil e
 | true=>exact e
theorem Cd(ha:PT X a tA)(hb:PW X (.BoolOp .And (b::vO) pos) tB'):PW X (.BoolOp .And (a::b::vO) pos) (acr tA tB'):=by
 intro wh ak s σ H Q I h;refine isTrue_and (dD (ha ak s σ H _ I h) λc s1 DY=>?_);obtain⟨H1,I1,q1⟩:=DY
 cases c with
 | true=>exact hb wh ak s1 σ H1 Q I1 q1
 | false=>exact⟨H1,I1,q1⟩
theorem HF(ha:PT X a tA)(hb:PW X (.BoolOp .Or (b::vO) pos) tB'):PW X (.BoolOp .Or (a::b::vO) pos) (tOr tA tB'):=by
 intro wh ak s σ H Q I h;refine isTrue_or (dD (ha ak s σ H _ I h) λc s1 HG=>?_);obtain⟨H1,I1,q1⟩:=HG
 cases c with
 | true=>exact⟨H1,I1,q1⟩
 | false=>exact hb wh ak s1 σ H1 Q I1 q1
theorem qq(ha:PT X a tA):PT X (.UnaryOp .Not a pos) (acs tA):=by
 intro ak s σ H Q I h;exact isTrue_not (ha ak s σ H (λc H1=>Q (!c) H1) I h)
def Zi(ta tb:TE):TE:=fun σ H Q=>ta σ H λx H1=>isB x H1 λc H1=>if c=true then tb σ H1 Q else Q (.bl false) H1
def Zj(ta:TE):TE:=fun σ H Q=>ta σ H λx H1=>isB x H1 λc H1=>Q (.bl (!c)) H1
theorem ya{op}{t:TE}(h:PE X a t):PE X (.BoolOp op [a] pos) t:=λak s σ H Q I hw=>BoolOp_one (h ak s σ H Q I hw)
theorem vP(ha:PE X a ta)(hb:PE X (.BoolOp .And (b::vO) pos) tb):PE X (.BoolOp .And (a::b::vO) pos) (Zi ta tb):=by
 intro ak s σ H Q I h;refine BoolOp_and (dD (ha ak s σ H _ I h) λv s1 HH=>?_);obtain⟨x,H1,I1,r1,q1⟩:=HH;obtain⟨c,rfl,q1⟩:=q1;cases r1;refine wpAny_truthy_bool ?_
 cases c with
 | true=>exact hb ak s1 σ H1 Q I1 q1
 | false=>exact⟨.bl false,H1,I1,rfl,q1⟩
theorem WQ(ha:PE X a ta):PE X (.UnaryOp .Not a pos) (Zj ta):=by
 intro ak s σ H Q I h;refine UnaryOp_ (dD (ha ak s σ H _ I h) λv s1 Kn=>?_);obtain⟨x,H1,I1,r1,q1⟩:=Kn;obtain⟨c,rfl,q1⟩:=q1;cases r1;exact not_of (wpAny_truthy_bool ⟨.bl (!c),H1,I1,rfl,q1⟩)
def tIf(t:TT)(ta tb:TE):TE:=fun σ H Q=>t σ H λc H1=>if c=true then ta σ H1 Q else tb σ H1 Q
theorem Py{c:Expr}(hc:PT X c tA)(ha:PE X a ta)(hb:PE X b tb):PE X (.IfExp c a b pos) (tIf tA ta tb):=by
 intro ak s σ H Q I h;refine wpAny_IfExp (dD (hc ak s σ H _ I h) λd s1 DX=>?_);obtain⟨H1,I1,q1⟩:=DX
 cases d with
 | true=>exact ha ak s1 σ H1 Q I1 q1
 | false=>exact hb ak s1 σ H1 Q I1 q1
end
end L2
namespace L2
open Spec Rows
def bQ(K:PySem.W.Frag)(H:Hp)(a:Addr)(xs:List V):Prop :=
 Rd H a (.lst xs)\/
  ∃ (o:Obj) (aQ:Array Value) (n:Nat),K.lookup a=some o/\o.cls=.type "list"/\o.dict=none/\o.data=.seq aQ n/\aQ.size<=sizeLine/\cF xs aQ.toList
def eL(K:PySem.W.Frag)(H:Hp)(a:Addr)(xs:List V):Prop :=
 Rd H a (.tup xs)\/
  ∃ (o:Obj) (aQ:Array Value) (n:Nat),K.lookup a=some o/\o.cls=.type "tuple"/\o.data=.seq aQ n/\aQ.size<=sizeLine/\cF xs aQ.toList
def acu:Value->Option V
 | .none=>some .iZ
 | .bool b=>some (.bl b)
 | .int i _=>some (.int i)
 | .str x _=>some (.str x)
 | .bytes b _=>some (.Ke b)
 | .float b _=>some (.Vl b)
 | .ref a=>some (.ref a)
 | .type n=>some (.ty n)
 | _=>none
theorem RelV.abs{x:V}{u:Value}(r:RelV x u):acu u=some x:=by
 cases x with
 | iZ=>cases r;rfl
 | bl _=>cases r;rfl
 | int _=>obtain⟨t,rfl⟩:=r;rfl
 | str _=>obtain⟨t,rfl⟩:=r;rfl
 | Ke _=>obtain⟨t,rfl⟩:=r;rfl
 | Vl _=>obtain⟨t,rfl⟩:=r;rfl
 | ref _=>cases r;rfl
 | ty _=>cases r;rfl
theorem RelV.inj{x y:V}{u:Value}(r:RelV x u)(q:RelV y u):x=y:=vM (r.abs.symm.trans q.abs)
theorem cF.inj:∀ {xs ys:List V} {us:List Value},cF xs us->cF ys us->xs=ys
 | _,_,_,.nil,.nil=>rfl
 | _,_,_,.cons r t,.cons r' t'=>by rw[r.inj r',cF.inj t t']
section
variable {X:Cx} {ak:List (Addr × Obj)} {σ:St} {H:Hp} {s:Shared} {a:Addr} {xs ys:List V}
theorem bQ.of{K:PySem.W.Frag}(h:H a=some (.lst xs)):bQ K H a xs:=.inl (.inl h)
theorem eL.of{K:PySem.W.Frag}(h:H a=some (.tup xs)):eL K H a xs:=.inl (.inl h)
theorem Inv.list(I:Inv X ak σ H s)(h:bQ X.K H a xs):∃ aQ:List Value,cF xs aQ/\PlainL s.heap a aQ.toArray/\xs.length<=sizeLine:=by
 rcases h with h|⟨o,aQ,n,hk,hc,hd,hs,hz,r⟩
 ·obtain⟨z,aQ,n,r,e⟩:=h.ok I.hok;exact⟨aQ,r,⟨_,n,e,rfl,rfl,rfl⟩,z⟩
 ·refine⟨aQ.toList,r,⟨o,n,I.yS a o hk,hc,hd,by simpa using hs⟩,?_⟩;have e:=r.length;simp only[Array.length_toList]at e;lia
theorem Inv.tuple(I:Inv X ak σ H s)(h:eL X.K H a xs):∃ aQ:List Value,cF xs aQ/\IsTup s.heap a aQ.toArray/\xs.length<=sizeLine:=by
 rcases h with h|⟨o,aQ,n,hk,hc,hs,hz,r⟩
 ·obtain⟨z,aQ,r,p⟩:=h.ok I.hok;exact⟨aQ,r,p,z⟩
 ·refine⟨aQ.toList,r,⟨o,I.yS a o hk,hc,n,by simpa using hs⟩,?_⟩;have e:=r.length;simp only[Array.length_toList]at e;lia
theorem Inv.Ce(I:Inv X ak σ H s)(h:bQ X.K H a xs)(h':bQ X.K H a ys):xs=ys:=by
 obtain⟨aQ,r,⟨o,n,e,_,_,d⟩,_⟩:=I.list h;obtain⟨its',r',⟨o',n',e',_,_,d'⟩,_⟩:=I.list h';rw[e]at e';cases e';rw[d]at d';injection d' with d1 _;have:aQ=its':=by simpa using congrArg Array.toList d1
 subst this;exact r.inj r'
theorem Inv.Ez(I:Inv X ak σ H s)(h:eL X.K H a xs)(h':eL X.K H a ys):xs=ys:=by
 obtain⟨aQ,r,⟨o,e,_,n,d⟩,_⟩:=I.tuple h;obtain⟨its',r',⟨o',e',_,n',d'⟩,_⟩:=I.tuple h';rw[e]at e';cases e';rw[d]at d';injection d' with d1 _;have:aQ=its':=by simpa using congrArg Array.toList d1
 subst this;exact r.inj r'
end
abbrev Cx.Bs(X:Cx)(E:Value->Shared->Prop):Cx:={ X with xe:=E }
abbrev Cx.HJ(X:Cx):Cx:=X.Bs λ_ _=>False
theorem Cx.Ok.Bs{X:Cx}(ok:X.Ok)(E:Value->Shared->Prop):(X.Bs E).Ok :=
 ⟨ok.mod,ok.kind,ok.glob,ok.blt,ok.above,ok.inj,ok.has,ok.WK,ok.hd,ok.frames,ok.stk,ok.exf,ok.bs,ok.Sx,ok.Kh,ok.NH,ok.xx,ok.Ti⟩
theorem Cx.Ok.rm{X:Cx}{E:Value->Shared->Prop}(ok:(X.Bs E).Ok):X.Ok :=
 ⟨ok.mod,ok.kind,ok.glob,ok.blt,ok.above,ok.inj,ok.has,ok.WK,ok.hd,ok.frames,ok.stk,ok.exf,ok.bs,ok.Sx,ok.Kh,ok.NH,ok.xx,ok.Ti⟩
section
variable {X:Cx} {ak:List (Addr × Obj)} {σ:St} {H:Hp} {s:Shared} {E:Value->Shared->Prop}
theorem Inv.Bs(I:Inv X ak σ H s)(E:Value->Shared->Prop):Inv (X.Bs E) ak σ H s:=⟨I.ok.Bs E,I.os,I.bare,I.zt,I.loc,I.cell,I.free,I.sM,I.pin,I.hok,I.len⟩
theorem Inv.rm(I:Inv (X.Bs E) ak σ H s):Inv X ak σ H s:=⟨I.ok.rm,I.os,I.bare,I.zt,I.loc,I.cell,I.free,I.sM,I.pin,I.hok,I.len⟩
theorem SP.rm{D:Ends}{f:Flow}{s':Shared}(h:SP (X.Bs E) ak D f s'):SP X ak D f s':=by
 cases f with
 | next=>obtain⟨σ',H',I,q⟩:=h;exact⟨σ',H',I.rm,q⟩
 | brk=>obtain⟨σ',H',I,q⟩:=h;exact⟨σ',H',I.rm,q⟩
 | cont=>obtain⟨σ',H',I,q⟩:=h;exact⟨σ',H',I.rm,q⟩
 | ret u=>obtain⟨v,σ',H',I,r,q⟩:=h;exact⟨v,σ',H',I.rm,r,q⟩
theorem Hg.HJ{st:List Stmt}{t:TS}(h:Hg X.HJ st t):Hg X st t:=λak s σ H D I hw =>
 wpAny_mono (h ak s σ H D (I.Bs _) hw) (λ_ _ q=>q.rm) λ_ _ z=>False.elim z
end
section
variable {X:Cx} {st:Stmt} {vO:List Stmt} {t u:TS} {e:Expr} {te:TE} {pos:Pos}
def Zk:TS:=λD σ H=>D.nx σ H
def acv(t u:TS):TS:=λD σ H=>t { D with nx:=u D } σ H
theorem br:Hg X [] Zk:=λ_ _ σ H _ I h=>wpAny_execs_nil ⟨σ,H,I,h⟩
theorem aj(h1:PS X st t)(h2:Hg X vO u):Hg X (st::vO) (acv t u):=by
 intro ak s σ H D I h;refine wpAny_execs_cons (dD (h1 ak s σ H { D with nx:=u D } I h) λf s1 q=>?_)
 cases f with
 | next =>
  obtain⟨σ',H',I',q⟩:=q;exact h2 ak s1 σ' H' D I' q
 | ret v=>exact q
 | brk=>exact q
 | cont=>exact q
theorem au(h1:PS X st t):Hg X [st] t:=by
 intro ak s σ H D I h;refine wpAny_execs_cons (dD (h1 ak s σ H D I h) λf s1 q=>?_)
 cases f with
 | next=>exact wpAny_execs_nil q
 | ret v=>exact q
 | brk=>exact q
 | cont=>exact q
def Zl:TS:=λD σ H=>D.ct σ H
theorem HK:PS X (.Continue pos) Zl:=λ_ _ σ H _ I h=>wpAny_Continue ⟨σ,H,I,h⟩
theorem Inv.quiet{σ:St}{H:Hp}{s:Shared}(I:Inv X ak σ H s):interactive X.env=false:=by simp[interactive,I.ok.kind]
def Zm(te:TE):TS:=λD σ H=>te σ H λ_ H1=>D.nx σ H1
theorem bu(he:PE X e te)(hs:swapsWith e none pos.line X.env=pure false:=by rfl):PS X (.Expr e pos) (Zm te):=by
 intro ak s σ H D I h;exact wpAny_Expr_any (dD (he ak s σ H _ I h) λv s1 ⟨x,H1,I1,r1,q1⟩=>⟨σ,H1,I1,q1⟩) I.quiet hs
def acw(te:TE):TS:=λD σ H=>te σ H D.rt
theorem aN(he:PE X e te):PS X (.Return (some e) pos) (acw te):=by
 intro ak s σ H D I h;exact wpAny_Return_some (dD (he ak s σ H _ I h) λv s1 ⟨x,H1,I1,r1,q1⟩=>⟨x,σ,H1,I1,r1,q1⟩)
def acy(c:TT)(t u:TS):TS:=λD σ H=>c σ H λb H1=>if b=true then t D σ H1 else u D σ H1
theorem bU{c:Expr}{a b:List Stmt}{tc:TT}(hc:PT X c tc)(ha:Hg X a t)(hb:Hg X b u):PS X (.If c a b pos) (acy tc t u):=by
 intro ak s σ H D I h;refine wpAny_If (dD (hc ak s σ H _ I h) λd s1 HC=>?_);obtain⟨H1,I1,q1⟩:=HC
 cases d with
 | true=>exact ha ak s1 σ H1 D I1 q1
 | false=>exact hb ak s1 σ H1 D I1 q1
def WR:TS:=λ_ _ _=>False
theorem nL:PS X st WR:=λ_ _ _ _ _ _ h=>h.elim
end
abbrev TG:=V->St->Hp->(St->Hp->Prop)->Prop
abbrev WS:=List V->St->Hp->(St->Hp->Prop)->Prop
def PG(X:Cx)(zU:Expr)(t:TG):Prop :=
 ∀ (ak:List (Addr × Obj)) (s:Shared) (σ:St) (H:Hp) (v:V) (u:Value) (Q:St->Hp->Prop),Inv X ak σ H s->RelV v u->t v σ H Q->
  wpAny (model X.prog X.w) X.A (assign zU X.env u) (λ_ s'=>∃ σ' H',Inv X ak σ' H' s'/\Q σ' H') X.xe s
def Zn(X:Cx)(ts:List Expr)(t:WS):Prop :=
 ∀ (ak:List (Addr × Obj)) (s:Shared) (σ:St) (H:Hp) (vs:List V) (us:List Value) (Q:St->Hp->Prop),Inv X ak σ H s->cF vs us->t vs σ H Q->
  wpAny (model X.prog X.w) X.A (assignInOrder ((assignEach ts X.env).map (·.2)) us) (λ_ s'=>∃ σ' H',Inv X ak σ' H' s'/\Q σ' H') X.xe s
abbrev WT:=V->V->V->Hp->(Hp->Prop)->Prop
def Zo(X:Cx)(t:WT):Prop :=
 ∀ (ak:List (Addr × Obj)) (s:Shared) (σ:St) (H:Hp) (o i v:V) (ov iv u:Value) (Q:Hp->Prop),Inv X ak σ H s->RelV o ov->RelV i iv->RelV v u->t o i v H Q->
  wpAny (model X.prog X.w) X.A (setItem ov iv u) (λ_ s'=>∃ H',Inv X ak σ H' s'/\Q H') X.xe s
abbrev TIp:=V->V->Hp->VK->Prop
def PIp(X:Cx)(op:Operator)(t:TIp):Prop :=
 ∀ (ak:List (Addr × Obj)) (s:Shared) (σ:St) (H:Hp) (x y:V) (v u:Value) (Q:VK),Inv X ak σ H s->RelV x v->RelV y u->t x y H Q->
  wpAny (model X.prog X.w) X.A (inplaceOp op v u) (EP X ak σ Q) X.xe s
section
variable {X:Cx} {pos:Pos}
def xF(i:Nat):TG:=λv σ H Q=>Q (σ.set i (some v)) H
theorem To{i:Nat}{x:Str}(hN:X.N.Nodup)(hi:X.N[i]?=some x)(hx:Loc X.env.scope x)(hf:X.fn x=true\/X.env.scope.names.lookup x=some .local:=by first|exact .inl rfl|exact .inr rfl|assumption):PG X (.Name x pos) (xF i):=by
 intro ak s σ H v u Q I r h;exact wpAny_assign_Name (yU I hN hi hx r (λs' I'=>⟨_,H,I',h⟩) hf)
def acA:WS:=λvs σ H Q=>vs=[]/\Q σ H
inductive Zp(t:TG)(u:WS)(vs:List V)(σ:St)(H:Hp)(Q:St->Hp->Prop):Prop
 | mk (v:V) (r:List V) (_:vs=v::r) (_:t v σ H fun σ' H'=>u r σ' H' Q)
theorem jO:Zn X [] acA:=by
 intro ak s σ H vs us Q I r h;obtain⟨e,h⟩:=h;subst e;cases r;exact assignInOrder_nil ⟨σ,H,I,h⟩
theorem bZ{e:Expr}{es:List Expr}{t:TG}{u:WS}(h1:PG X e t)(h2:Zn X es u)
  (hs:(assignEach (e::es) X.env).map (·.2)=assign e X.env::(assignEach es X.env).map (·.2):=by rfl):Zn X (e::es) (Zp t u):=by
 intro ak s σ H vs us Q I r h;obtain⟨v,vr,e1,h⟩:=h;subst e1
 cases r with
 | cons r rr =>
  rw[hs];refine assignInOrder_cons (dD (h1 ak s σ H _ _ _ I r h) λ_ s1 DY=>?_);obtain⟨σ1,H1,I1,q1⟩:=DY;exact h2 ak s1 σ1 H1 _ _ Q I1 rr q1
inductive WU(K:PySem.W.Frag)(n:Nat)(t:WS)(v:V)(σ:St)(H:Hp)(Q:St->Hp->Prop):Prop
 | mk (a:Addr) (xs:List V) (_:v=.ref a) (_:eL K H a xs) (_:xs.length=n) (_:t xs σ H Q):WU K n t v σ H Q
theorem rA{es:List Expr}{k:Nat}{t:WS}{n:Nat}(hc:X.calm=true)(h:Zn X es t)
  (hn:(assignEach es X.env).length=n:=by rfl) (zV:(assignEach es X.env).findIdx? (·.1)=none:=by rfl):PG X (.Tuple es k pos) (WU X.K n t):=by
 intro ak s σ H v u Q I r hw;obtain⟨a,xs,e1,hq,hl,hw⟩:=hw;subst e1;cases r;obtain⟨aQ,rv,ht,hz⟩:=I.tuple hq;refine assign_Tuple_tuple (I.ok.hd hc) ht (by simp[hn,← hl,rv.length]) zV λh' hx=>?_;have I1:Inv X ak σ H { s with heap:=h' }:=I.kept (t':=s.toks) λb o e=>hx b o (pR (Heap.lt_size e)) e;exact h ak _ σ H xs _ Q I1 (by simpa using rv) hw
def acB(to ti:TE)(t:WT):TG:=λv σ H Q=>to σ H λo H1=>ti σ H1 λi H2=>t o i v H2 λH3=>Q σ H3
theorem yb{i:Expr}{to ti:TE}{t:WT}(ho:PE X o to)(hi:PE X i ti)(hs:Zo X t)
  (ha:∀ v,assign (.Subscript o i pos) X.env v=(do
   let ov ← holding [v] (eval o X.env)
   let iv ← holding [v,ov] (eval i X.env)
   standAt pos
   holding [v,ov,iv] (setItem ov iv v)
   release [v,ov,iv] []):=by intro _;rfl):PG X (.Subscript o i pos) (acB to ti t):=by
 intro ak s σ H v u Q I r h;rw[ha];refine wpAny_bind (wpAny_holding (dD (ho ak s σ H _ I h) λov s1 HG=>?_));obtain⟨x,H1,I1,r1,q1⟩:=HG;refine wpAny_bind (wpAny_holding (dD (hi ak s1 σ H1 _ I1 q1) λiv s2 HH=>?_));obtain⟨y,H2,I2,r2,q2⟩:=HH;refine wpAny_bind (wpAny_standAt (wpAny_bind (wpAny_holding (dD (hs ak s2 σ H2 x y v ov iv u _ I2 r1 r2 r q2) λ_ s3 Ko=>?_))));obtain⟨H3,I3,q3⟩:=Ko;exact wpAny_release ⟨σ,H3,I3,q3⟩
def Pz(te:TE)(g:TG):TS:=λD σ H=>te σ H λx H1=>g x σ H1 D.nx
theorem uI{e:Expr}{te:TE}{g:TG}(he:PE X e te)(hg:PG X tg g)(hs:swapsWithSole [tg] e pos.line X.env=pure false:=by rfl)(hw:swappedStores [tg] e X.env=pure none:=by rfl)
  (h1:(assignEach [tg] X.env).map (·.2)=[assign tg X.env]:=by rfl):PS X (.Assign [tg] e pos) (Pz te g):=by
 intro ak s σ H D I h;refine wpAny_Assign_stores (dD (he ak s σ H _ I h) λv s1 ⟨x,H1,I1,r1,q1⟩=>?_) hs hw;rw[h1];exact dD (hg ak s1 σ H1 x v _ I1 r1 q1) λ_ s2 q=>q
theorem WV{i:Nat}{x:Str}{e:Expr}{te:TE}(hN:X.N.Nodup)(hi:X.N[i]?=some x)(hx:Loc X.env.scope x)(he:PE X e te)(hs:swapsWith e (some (.Name x mz)) pos.line X.env=pure false:=by rfl)(hf:X.fn x=true\/X.env.scope.names.lookup x=some .local:=by first|exact .inl rfl|exact .inr rfl|assumption) :
  PS X (.Assign [.Name x mz] e pos) (Pz te (xF i)):=by
 intro ak s σ H D I h;refine wpAny_Assign_Name (dD (he ak s σ H _ I h) λv s1 ⟨y,H1,I1,r1,q1⟩=>?_) hs;exact yU I1 hN hi hx r1 (λs2 I2=>⟨_,H1,I2,q1⟩) hf
def acC(i:Nat)(te:TE)(ti:TIp):TS:=λD σ H=>∃ x,σ[i]?=some (some x)/\te σ H λy H1=>ti x y H1 λz H2=>D.nx (σ.set i (some z)) H2
theorem yc{i:Nat}{x:Str}{e:Expr}{te:TE}{op:Operator}{ti:TIp}{mz:Pos}(hN:X.N.Nodup)(hi:X.N[i]?=some x)(hx:Loc X.env.scope x)(he:PE X e te)(ho:PIp X op ti)(hf:X.fn x=true\/X.env.scope.names.lookup x=some .local:=by first|exact .inl rfl|exact .inr rfl|assumption) :
  PS X (.AugAssign (.Name x mz) op e pos) (acC i te ti):=by
 intro ak s σ H D I h;obtain⟨v,e1,h⟩:=h;obtain⟨m,hn,hl⟩:=I.loc;have vis:Vis X.env.scope x:=by rcases hx with k|k;exact .inl k;exact .inr (.inl k)
 obtain⟨u,r,l⟩:=hl i x v hi e1 vis;refine wpAny_AugAssign_Name ?_
 have go:wpAny (model X.prog X.w) X.A (eval e X.env) (λw s₂=>wpAny (model X.prog X.w) X.A (inplaceOp op u w) (λr s₃=>wpAny (model X.prog X.w) X.A (storeName X.env x r) (λ_=>SP X ak D .next) X.xe s₃) X.xe s₂) X.xe s:=by
  refine dD (he ak s σ H _ I h) λw s1 DX=>?_;obtain⟨y,H1,I1,r1,q1⟩:=DX;refine dD (ho ak s1 σ H1 v y u w _ I1 r r1 q1) λz s2 HC=>?_;obtain⟨zv,H2,I2,r2,q2⟩:=HC;exact yU I2 hN hi hx r2 (λs3 I3=>⟨_,H2,I3,q2⟩) hf
 rcases l with ⟨hk,hm⟩|⟨hk,c,hc,hcell⟩
 ·exact wpAny_loadName_local I.ok.kind hk hn hm go
 ·rcases hk with hk|hk
  ·exact wpAny_loadName_cell I.ok.kind hk hc hcell go
  ·rcases hx with k|k
   ·have:X.env.scope.names.lookup x=some .free:=hk;rw[k]at this;cases this
   ·have:X.env.scope.names.lookup x=some .free:=hk;rw[k]at this;cases this
def ipI(f:Int->Int->Int):TIp:=λx y H Q=>∃ i j,x=.int i/\y=.int j/\Q (.int (f i j)) H
theorem PB:PIp X .Add (ipI λi j=>i+j):=by
 intro ak s σ H x y v u Q I r1 r2 h;obtain⟨i,j,e1,e2,q⟩:=h;subst e1;subst e2;obtain⟨t,rfl⟩:=r1;obtain⟨t',rfl⟩:=r2;exact iadd_int ⟨.int _,H,I.tok _,⟨_,rfl⟩,q⟩
end
section
variable {X:Cx} {pos:Pos}
def WW(c:TT)(tb:TS):TS:=λD σ H=>∃ W:Nat->St->Hp->Prop,(∃ m,W m σ H)/\∀ m σ H,W m σ H->
 c σ H λb H1=>if b=true then ∃ N:St->Hp->Prop,(∀ σ' H',N σ' H'->∃ m',m'<m/\W m' σ' H')/\tb { D with nx:=N,ct:=N,bk:=D.nx } σ H1 else D.nx σ H1
theorem Cf{c:Expr}{tc:TT}{tb:TS}(hp:PassesOwn (model X.prog X.w) X.A X.env X.xe)(hc:PT X c tc)(hb:Hg X body tb):PS X (.While c body [] pos) (WW tc tb):=by
 intro ak s σ H D I h;obtain⟨W,⟨m0,w0⟩,yd⟩:=h;refine wpAny_While (codeAny_whileLoop (λn s'=>∃ σ' H',Inv X ak σ' H' s'/\W n σ' H') ?_ m0 ⟨σ,H,I,w0⟩);rintro n s1 ⟨σ1,H1,I1,w1⟩;refine wpAny_passesOwn hp (dD (hc ak s1 σ1 H1 _ I1 (yd n σ1 H1 w1)) λb s2 Kn=>?_);obtain⟨H2,I2,q2⟩:=Kn
 cases b with
 | true =>
  obtain⟨N,hN,q2⟩:=q2;rw[if_pos rfl];refine wpAny_passesOwn hp (dD (hb ak s2 σ1 H2 _ I2 q2) λf s3 q3=>?_)
  cases f with
  | next =>
   obtain⟨σ3,H3,I3,n3⟩:=q3;obtain⟨m',hm,w3⟩:=hN σ3 H3 n3;exact⟨m',hm,σ3,H3,I3,w3⟩
  | cont =>
   obtain⟨σ3,H3,I3,n3⟩:=q3;obtain⟨m',hm,w3⟩:=hN σ3 H3 n3;exact⟨m',hm,σ3,H3,I3,w3⟩
  | brk=>exact q3
  | ret v=>exact q3
 | false =>
  rw[if_neg vg];exact wpAny_execs_nil ⟨σ1,H2,I2,q2⟩
end
structure It where
 go:Nat->Hp->Prop
 Sz:Nat->Hp->V->Hp->Prop
 stop:Nat->Hp->Prop
def vB(X:Cx)(ak:List (Addr × Obj))(H:Hp)(b:Addr):Prop :=
 H b=none/\b≠X.env.locals/\b∉X.fs/\(b∈X.ex\/X.s₀.heap.objs.size<=b)/\(∀ x c,X.env.cells.lookup x=some c->c≠b)/\∀ p∈X.pn++ak,p.1≠b
theorem Inv.NJ{X:Cx}{σ:St}{H H':Hp}{s:Shared}{b:Addr}(I:Inv X ak σ H s)(hb:s.heap.objs.size<=b)(hn:H' b=none):vB X ak H' b:=by
 refine⟨hn,Nat.ne_of_gt (vA I.lt hb),I.acn hb,.inr (lJ I.sz hb),λx c e z=>?_,λp hp z=>?_⟩
 ·obtain⟨v,q⟩:=I.cell x c e;exact absurd (vA q.lt (by rw[z];exact hb)) (Nat.lt_irrefl _)
 ·exact absurd (vA (Heap.lt_size (I.pin p hp).1) (by rw[z];exact hb)) (Nat.lt_irrefl _)
structure Kp(P:Program)(w:World)(K:PySem.W.Frag)(tg:Expr)(J:It)(fp:List Addr)(it:Addr)(tn:Nat->Heap->Prop):Prop where
 mem:it∈fp
 obj:∀ i h,tn i h->∀ b∈fp,∃ o,h.get? b=some o/\∀ v,o.data≠.cell v
 keep:∀ i h h',tn i h->(∀ b∈fp,∀ o,h.get? b=some o->h'.get? b=some o)->tn i h'
 item:∀ (X:Cx),X.prog=P->X.w=w->X.K=K->X.calm=true->∀ (i:Nat) (ak:List (Addr × Obj)) (s:Shared) (σ:St) (H:Hp) (E:Value->Shared->Prop),Inv X ak σ H s->(∀ b∈fp,vB X ak H b)->tn i s.heap->J.go i H->
  wpAny (model P w) X.A (pyNext (.ref it)) (λr s1=>∃ u,r=some u/\
   wpAny (model P w) X.A (letOwnedTupleGo tg (.ref it) u) (λ_ s2=>∃ x H',Inv X ak σ H' s2/\RelV x u/\J.Sz i H x H'/\tn (i+1) s2.heap/\∀ b∈fp,H' b=none) E s1) E s
 done:∀ (X:Cx),X.prog=P->X.w=w->X.K=K->X.calm=true->∀ (i:Nat) (ak:List (Addr × Obj)) (s:Shared) (σ:St) (H:Hp) (E:Value->Shared->Prop),Inv X ak σ H s->(∀ b∈fp,vB X ak H b)->tn i s.heap->J.stop i H->
  wpAny (model P w) X.A (pyNext (.ref it)) (λr s1=>r=none/\Inv X ak σ H s1) E s
 self:∀ (A:Around) (i:Nat) (s:Shared) (Q:Value->Shared->Prop) (E:Value->Shared->Prop),tn i s.heap->Q (.ref it) s->wpAny (model P w) A (pyIter (.ref it)) Q E s
abbrev TI:=St->Hp->(It->Hp->Prop)->Prop
def PIE(X:Cx)(ak:List (Addr × Obj))(σ:St)(tg:Expr)(R:It->Hp->Prop)(Zq:Value)(s2:Shared):Prop :=
 ∃ (it:Addr) (fp:List Addr) (tn:Nat->Heap->Prop) (J:It) (H':Hp),Zq=.ref it/\Inv X ak σ H' s2/\Kp X.prog X.w X.K tg J fp it tn/\tn 0 s2.heap/\(∀ b∈fp,vB X ak H' b)/\R J H'
def PI(X:Cx)(tg iter:Expr)(wi:TI):Prop :=
 ∀ (ak:List (Addr × Obj)) (s:Shared) (σ:St) (H:Hp) (R:It->Hp->Prop),Inv X ak σ H s->wi σ H R->
  wpAny (model X.prog X.w) X.A (eval iter X.env) (λv s1=>wpAny (model X.prog X.w) X.A (pyIter v) (PIE X ak σ tg R) X.xe s1) X.xe s
theorem Mb{M:Model}{A:Around}{E:Value->Shared->Prop}{s:Shared}{it:Addr}{u:Value}{o:Obj}{n:String}{vs:Array Value}{Q:Unit->Shared->Prop}(ho:s.heap.get? it=some o)(hc:o.cls=.type n)(hd:o.data=.fields vs)
  (hn:["enumerate","zip","dict_itemiterator","dict_reverseitemiterator","odict_iterator","itertools.zip_longest","itertools.pairwise"].contains n=false) (hQ:Q () s):wpAny M A (letOwnedTupleGo tg (.ref it) u) Q E s:=by
 unfold letOwnedTupleGo
 cases tg <;> first
  | exact wpAny_pure hQ
  | (cases u <;> first
    | exact wpAny_pure hQ
    | (refine wpAny_bind (wpAny_load ho ?_);rw[hc,hd];show wpAny M A (if (["enumerate","zip","dict_itemiterator","dict_reverseitemiterator","odict_iterator","itertools.zip_longest","itertools.pairwise"].contains n&&vs[0]? == some (rawInt _))=true then _ else _) Q E s;rw[if_neg (by intro h;rw[hn,Bool.false_and]at h;cases h)];exact wpAny_pure hQ))
def SD(K:PySem.W.Frag)(a:Addr):It :=
 ⟨λi H=>∃ xs x,bQ K H a xs/\xs[i]?=some x,λi H x H'=>H'=H/\∀ xs,bQ K H a xs->xs[i]?=some x,λi H=>∃ xs,bQ K H a xs/\xs.length<=i⟩
def Zr(K:PySem.W.Frag)(a:Addr):It :=
 ⟨λi H=>∃ xs x,eL K H a xs/\xs[i]?=some x,λi H x H'=>H'=H/\∀ xs,eL K H a xs->xs[i]?=some x,λi H=>∃ xs,eL K H a xs/\xs.length<=i⟩
def WX(lo:Int)(n:Nat):It:=⟨λi _=>i<n,λi H x H'=>H'=H/\x=.int (lo+i),λi _=>n<=i⟩
theorem NK{P:Program}{w:World}{K:PySem.W.Frag}(a it:Addr):Kp P w K tg (SD K a) [it] it (λi h=>h.IsListIter it a i) where
 mem:=by simp
 obj:=λi h st b hb=>by
  have e:b=it:=by simpa using hb
  subst e;obtain⟨o,e,c,d⟩:=st;exact⟨o,e,λv z=>by rw[d]at z;cases z⟩
 keep:=λi h h' st k=>st.at λo e=>k it (by simp) o e
 item:=by
  intro X hP hw hK hc i ak s σ H E I hf st hg;subst hP hw hK;obtain⟨xs,x,hq,hx⟩:=hg;obtain⟨aQ,rv,p,hz⟩:=I.list hq;obtain⟨u,hu,ru⟩:=rv.get hx;obtain⟨f0,f1,f2,f3,f4,f5⟩:=hf it (by simp);refine wpAny_pyNext_list_item st p.isList (x:=u) (by simpa using hu) λh' J4 sb=>?_;have I1:Inv X ak σ H { s with heap:=h' }:=I.turned (t':=s.toks) (λb o hb e=>(sb.2 b hb).trans e) f0 f1 f3 f4 f5;obtain⟨o,e,c,d⟩:=id J4;exact⟨u,rfl,Mb (s:={ s with heap:=h' }) e c d (by decide) ⟨x,H,I1,ru,⟨rfl,λys hy=>by rw[I.Ce hy hq];exact hx⟩,J4,λb hb=>(hf b hb).1⟩⟩
 done:=by
  intro X hP hw hK hc i ak s σ H E I hf st hg;subst hP hw hK;obtain⟨xs,hq,hx⟩:=hg;obtain⟨aQ,rv,p,hz⟩:=I.list hq;obtain⟨f0,f1,f2,f3,f4,f5⟩:=hf it (by simp);have hl:=rv.length;exact wpAny_pyNext_list_end (I.ok.hd hc) st p.isList (by simp;lia) λh' eb=>⟨rfl,I.turned (t':=s.toks) (λb o hb e=>eb b o hb e) f0 f1 f3 f4 f5⟩
 self:=λ_ _ _ _ _ st h=>wpAny_pyIter_listiter st h
theorem Kq{P:Program}{w:World}{K:PySem.W.Frag}(a it:Addr):Kp P w K tg (Zr K a) [it] it (λi h=>h.IsTupleIter it a i) where
 mem:=by simp
 obj:=λi h st b hb=>by
  have e:b=it:=by simpa using hb
  subst e;obtain⟨o,e,c,d⟩:=st;exact⟨o,e,λv z=>by rw[d]at z;cases z⟩
 keep:=λi h h' st k=>st.at λo e=>k it (by simp) o e
 item:=by
  intro X hP hw hK hc i ak s σ H E I hf st hg;subst hP hw hK;obtain⟨xs,x,hq,hx⟩:=hg;obtain⟨aQ,rv,p,hz⟩:=I.tuple hq;obtain⟨u,hu,ru⟩:=rv.get hx;obtain⟨f0,f1,f2,f3,f4,f5⟩:=hf it (by simp);refine wpAny_pyNext_tuple_item st (show s.heap.IsTuple a aQ.toArray from p) (x:=u) (by simpa using hu) λh' J4 sb=>?_;have I1:Inv X ak σ H { s with heap:=h' }:=I.turned (t':=s.toks) (λb o hb e=>(sb.2 b hb).trans e) f0 f1 f3 f4 f5;obtain⟨o,e,c,d⟩:=id J4;exact⟨u,rfl,Mb (s:={ s with heap:=h' }) e c d (by decide) ⟨x,H,I1,ru,⟨rfl,λys hy=>by rw[I.Ez hy hq];exact hx⟩,J4,λb hb=>(hf b hb).1⟩⟩
 done:=by
  intro X hP hw hK hc i ak s σ H E I hf st hg;subst hP hw hK;obtain⟨xs,hq,hx⟩:=hg;obtain⟨aQ,rv,p,hz⟩:=I.tuple hq;obtain⟨f0,f1,f2,f3,f4,f5⟩:=hf it (by simp);have hl:=rv.length;exact wpAny_pyNext_tuple_end (I.ok.hd hc) st (show s.heap.IsTuple a aQ.toArray from p) (by simp;lia) λh' eb=>⟨rfl,I.turned (t':=s.toks) (λb o hb e=>eb b o hb e) f0 f1 f3 f4 f5⟩
 self:=λ_ _ _ _ _ st h=>wpAny_pyIter_tupleiter st h
theorem Kr{P:Program}{w:World}{K:PySem.W.Frag}(it:Addr)(lo:Int)(n:Nat):Kp P w K tg (WX lo n) [it] it (λi h=>IsRangeIter h it (lo+(i:Nat)*1) ((n:Int)-(i:Nat)) 1) where
 mem:=by simp
 obj:=λi h st b hb=>by
  have e:b=it:=by simpa using hb
  subst e
  exact⟨_,st,λv z=>by
   have z':Data.fields _=Data.cell v:=z
   cases z'⟩
 keep:=λi h h' st k=>k it (by simp) _ st
 item:=by
  intro X hP hw hK hc i ak s σ H E I hf st hg;subst hP hw hK;obtain⟨f0,f1,f2,f3,f4,f5⟩:=hf it (by simp);have W:=Walks.range (prog:=X.prog) (w:=X.w) (I.ok.hd hc) it lo 1 n;refine W.item i s _ _ hg st λv h' tk hv J4 kk=>?_;obtain⟨t,rfl⟩:=hv;have I1:Inv X ak σ H { s with heap:=h',toks:=tk }:=I.turned (λb o hb e=>kk b o (by simpa using hb) e) f0 f1 f3 f4 f5;refine⟨_,rfl,Mb (s:={ s with heap:=h',toks:=tk }) (n:="range_iterator") J4 rfl rfl (by decide) ⟨.int (lo+i),H,I1,⟨t,?_⟩,⟨rfl,rfl⟩,J4,λb hb=>(hf b hb).1⟩⟩;rw[Int.mul_one]
 done:=by
  intro X hP hw hK hc i ak s σ H E I hf st hg;subst hP hw hK;obtain⟨f0,f1,f2,f3,f4,f5⟩:=hf it (by simp);exact wpAny_pyNext_range_end (I.ok.hd hc) st (by have:n<=i:=hg;lia) λh' eb=>⟨rfl,I.turned (t':=s.toks) (λb o hb e=>eb b o hb e) f0 f1 f3 f4 f5⟩
 self:=λ_ _ _ _ _ st h=>wpAny_pyIter_rangeiter st h
end L2
namespace L2
open Spec Rows
section
variable {X:Cx} {tg:Expr}
inductive isL(K:PySem.W.Frag)(x:V)(H:Hp)(R:It->Hp->Prop):Prop
 | mk (a:Addr) (_:x=.ref a) (_:∃ xs,bQ K H a xs) (_:R (SD K a) H)
def Vp(K:PySem.W.Frag)(tl:TE):TI:=fun σ H R=>tl σ H λx H1=>isL K x H1 R
def acD(K:PySem.W.Frag)(tl:TE):TI:=fun σ H R=>tl σ H λx H1=>∃ a,x=.ref a/\(∃ xs,eL K H1 a xs)/\R (Zr K a) H1
theorem dc{l:Expr}{tl:TE}(hl:PE X l tl):PI X tg l (Vp X.K tl):=by
 intro ak s σ H R I h;refine dD (hl ak s σ H _ I h) λv s1 DX=>?_;obtain⟨x,H1,I1,r1,q1⟩:=DX;obtain⟨a,e,⟨xs,hq⟩,q⟩:=q1;subst e;cases r1;obtain⟨aQ,rv,p,hz⟩:=I1.list hq;refine wpAny_pyIter_list p.isList ?_;refine⟨s1.heap.objs.size,[s1.heap.objs.size],_,_,H1,rfl,I1.kept (t':=s1.toks) λb o e=>Heap.get?_push_of_some _ e,NK a _,⟨_,Heap.get?_push_size _ rfl,rfl,rfl⟩,λb hb=>?_,q⟩;have e:b=s1.heap.objs.size:=by simpa using hb
 subst e;exact I1.NJ (ja _) (I1.hok.fresh (ja _))
theorem WY{l:Expr}{tl:TE}(hl:PE X l tl):PI X tg l (acD X.K tl):=by
 intro ak s σ H R I h;refine dD (hl ak s σ H _ I h) λv s1 HC=>?_;obtain⟨x,H1,I1,r1,q1⟩:=HC;obtain⟨a,e,⟨xs,hq⟩,q⟩:=q1;subst e;cases r1;obtain⟨aQ,rv,p,hz⟩:=I1.tuple hq;refine wpAny_pyIter_tuple (show s1.heap.IsTuple a aQ.toArray from p) ?_;refine⟨s1.heap.objs.size,[s1.heap.objs.size],_,_,H1,rfl,I1.kept (t':=s1.toks) λb o e=>Heap.get?_push_of_some _ e,Kq a _,⟨_,Heap.get?_push_size _ rfl,rfl,rfl⟩,λb hb=>?_,q⟩;have e:b=s1.heap.objs.size:=by simpa using hb
 subst e;exact I1.NJ (ja _) (I1.hok.fresh (ja _))
theorem PD{σ:St}{H:Hp}{s:Shared}{R:It->Hp->Prop}{E:Value->Shared->Prop}{lo hi:Int}{t u v:Tok}{tk:Nat}(I:Inv X ak σ H s)(h1:-(2^62)<=lo)(h2:lo<2^62)(h3:-(2^62)<=hi)(h4:hi<2^62)
  (q:R (WX lo (hi-lo).toNat) H):wpAny (model X.prog X.w) X.A (pyIter (.ref s.heap.objs.size)) (PIE X ak σ tg R) E { s with heap:=s.heap.push { cls:=.type "range",data:=.fields #[.int lo t,.int hi u,.int 1 v] },toks:=tk }:=by
 refine wpAny_pyIter_range (IsRange.new ..) (small_one h1 h2 h3 h4) ?_;have I1:Inv X ak σ H { s with heap:=s.heap.push { cls:=.type "range",data:=.fields #[.int lo t,.int hi u,.int 1 v] },toks:=tk }:=I.kept λb o e=>Heap.get?_push_of_some _ e;refine⟨(s.heap.push { cls:=.type "range",data:=.fields #[.int lo t,.int hi u,.int 1 v] }).objs.size,[(s.heap.push { cls:=.type "range",data:=.fields #[.int lo t,.int hi u,.int 1 v] }).objs.size],_,_,H,rfl, I1.kept (t':=tk) λb o e=>Heap.get?_push_of_some _ e,Kr _ lo (hi-lo).toNat,?_,λb hb=>?_,q⟩
 ·have e1:lo+((0:Nat):Int)*1=lo:=by simp
  have e2:(((hi-lo).toNat:Nat):Int)-((0:Nat):Int)=Builtin.Range.rangeSize lo hi 1:=by rw[rangeSize_one];split <;> lia
  show IsRangeIter _ _ (lo+((0:Nat):Int)*1) ((((hi-lo).toNat:Nat):Int)-((0:Nat):Int)) 1;rw[e1,e2];exact Heap.get?_push_size _ rfl
 ·have e:b=(s.heap.push { cls:=.type "range",data:=.fields #[.int lo t,.int hi u,.int 1 v] }).objs.size:=by simpa using hb
  subst e;exact I1.NJ (ja _) (I1.hok.fresh (ja _))
inductive isR(vs:List V)(H:Hp)(R:It->Hp->Prop):Prop
 | mk (j:Int) (_:vs=[.int j]) (_:-(2^62)<=j) (_:j<2^62) (_:R (WX 0 j.toNat) H)
def Zs(ta:TA):TI:=fun σ H R=>ta σ H λvs H1=>isR vs H1 R
theorem lK{a:Expr}{ta:TA}{p:Pos}(hg:Gl X "range")(hm:X.mg "range"=none)(ha:PA X [a] ta)(hs:starEach [a] X.env=[(false,eval a X.env)]:=by rfl):PI X tg (.Call (.Name "range" p) [a] [] pos) (Zs ta):=by
 intro ak s σ H R I h;refine Call_ (zT I hg hm boot_range (PyProof.Rows.callWith_type1 (dD (ha pos ak s σ H _ I h) λus s1 ⟨vs,H1,I1,r1,q1⟩=>?_) hs rfl));obtain⟨j,e,q1,q2,q⟩:=q1;subst e
 cases r1 with
 | cons r rr =>
  cases rr;obtain⟨t,rfl⟩:=r;exact call_range_1 (PD I1 (by lia) (by lia) q1 q2 (by simpa using q))
def acE(wi:TI)(g:TG)(tb:TS):TS:=λD σ H=>wi σ H λJ H1=>∃ W:Nat->Nat->St->Hp->Prop,(∃ m,W 0 m σ H1)/\∀ i m σ H,W i m σ H->
 (J.stop i H/\D.nx σ H)\/(J.go i H/\∃ N:St->Hp->Prop,(∀ σ' H',N σ' H'->∃ m',m'<m/\W (i+1) m' σ' H')/\∀ x H',J.Sz i H x H'->g x σ H' fun σ2 H2=>tb { D with nx:=N,ct:=N,bk:=D.nx } σ2 H2)
def ye(fp:List Addr)(h:Heap):List (Addr × Obj):=fp.filterMap λb=>(h.get? b).map λo=>(b,o)
theorem kG{fp:List Addr}{h:Heap}{b:Addr}{o:Obj}(hb:b∈fp)(e:h.get? b=some o):(b,o)∈ye fp h:=List.mem_filterMap.mpr ⟨b,hb,by rw[e];rfl⟩
theorem NL{fp:List Addr}{h:Heap}{p:Addr × Obj}(hp:p∈ye fp h):p.1∈fp/\h.get? p.1=some p.2:=by
 obtain⟨b,hb,e⟩:=List.mem_filterMap.mp hp
 cases q:h.get? b with
 | none=>rw[q]at e;cases e
 | some o =>
  rw[q]at e;have e':(b,o)=p:=vM e;subst e';exact⟨hb,q⟩
theorem Inv.pinned{σ:St}{H:Hp}{s:Shared}{fp:List Addr}(I:Inv X ak σ H s)(hf:∀ b∈fp,vB X ak H b)(ho:∀ b∈fp,∃ o,s.heap.get? b=some o/\∀ v,o.data≠.cell v):Inv X (ak++ye fp s.heap) σ H s :=
 I.L4 λp hp=>(List.mem_append.mp hp).elim (λz=>I.pin p (uH _ z)) λz=>by
  obtain⟨hb,e⟩:=NL z;obtain⟨f0,f1,f2,_⟩:=hf p.1 hb;obtain⟨o,e',d⟩:=ho p.1 hb;rw[e]at e';cases e';exact⟨e,f0,f1,f2,d⟩
theorem Inv.ud{pl:List (Addr × Obj)}{σ:St}{H:Hp}{s:Shared}(I:Inv X (ak++pl) σ H s):Inv X ak σ H s:=I.L4 λp hp=>I.pin p (uH _ (xY _ hp))
theorem ie{iter:Expr}{wi:TI}{g:TG}{tb:TS}(hp:PassesOwn (model X.prog X.w) X.A X.env X.xe)(hc:X.calm=true)(hi:PI X tg iter wi)(hg:PG X tg g)(hb:Hg X body tb)
  (hs:∀ x,foldedSetIterable iter X.env x=pure x:=by intro _;rfl):PS X (.For tg iter body [] pos) (acE wi g tb):=by
 intro ak s σ H D I h;refine wpAny_For (dD (hi ak s σ H _ I h) λv s1 h1=>dD h1 λZq s2 h2=>?_) hs;obtain⟨it,fp,tn,J,H2,e,I2,T,st2,f2,W,⟨m0,w0⟩,yd⟩:=h2;subst e;have yf:∀ {H':Hp},(∀ b∈fp,H' b=none)->∀ b∈fp,vB X ak H' b:=λhn b hb=>⟨hn b hb,(f2 b hb).2⟩;refine codeAny_forLoop_any (λn s'=>∃ i σ' H',Inv X ak σ' H' s'/\tn i s'.heap/\(∀ b∈fp,H' b=none)/\W i n σ' H') ?_ m0 ⟨0,σ,H2,I2,st2,λb hb=>(f2 b hb).1,w0⟩;rintro n s3 ⟨i,σ3,H3,I3,st3,fr3,w3⟩;rcases yd i n σ3 H3 w3 with ⟨stop,qn⟩|⟨go,N,hN,step⟩
 ·refine wpAny_passesOwn hp (dD (T.done X rfl rfl rfl hc i ak s3 σ3 H3 X.xe I3 (yf fr3) st3 stop) λr s4 DY=>?_);obtain⟨hr,I4⟩:=DY;subst hr;exact wpAny_execs_nil ⟨σ3,H3,I4,qn⟩
 ·refine wpAny_passesOwn hp (dD (T.item X rfl rfl rfl hc i ak s3 σ3 H3 X.xe I3 (yf fr3) st3 go) λr s4 HG=>?_);obtain⟨u,hr,h4⟩:=HG;subst hr;refine wpAny_passesOwn hp (dD h4 λ_ s5 HH=>?_);obtain⟨x,H5,I5,r5,y5,YK,Vq⟩:=HH;have I5':=I5.pinned (yf Vq) (T.obj _ _ YK);refine wpAny_passesOwn hp (dD (hg _ s5 σ3 H5 x u _ I5' r5 (step x H5 y5)) λ_ s6 Ko=>?_);obtain⟨σ6,H6,I6,q6⟩:=Ko;refine wpAny_passesOwn hp (dD (hb _ s6 σ6 H6 _ I6 q6) λf s7 q7=>?_)
  have again:∀ {σ7:St} {H7:Hp},Inv X (ak++ye fp s5.heap) σ7 H7 s7->N σ7 H7->∃ m,m<n/\∃ i σ' H',Inv X ak σ' H' s7/\tn i s7.heap/\(∀ b∈fp,H' b=none)/\W i m σ' H':=λ{σ7 H7} I7 n7=>by
   obtain⟨m',hm,w7⟩:=hN σ7 H7 n7;refine⟨m',hm,i+1,σ7,H7,I7.ud,T.keep _ _ _ YK λb hb o e=>(I7.pin (b,o) (uH _ (uH _ (kG hb e)))).1,λb hb=>?_,w7⟩;obtain⟨o,e,d⟩:=T.obj _ _ YK b hb;exact (I7.pin (b,o) (uH _ (uH _ (kG hb e)))).2.1
  cases f with
  | next=>obtain⟨σ7,H7,I7,n7⟩:=q7;exact again I7 n7
  | cont=>obtain⟨σ7,H7,I7,n7⟩:=q7;exact again I7 n7
  | brk=>obtain⟨σ7,H7,I7,q7⟩:=q7;exact⟨σ7,H7,I7.ud,q7⟩
  | ret v=>obtain⟨x7,σ7,H7,I7,r7,q7⟩:=q7;exact⟨x7,σ7,H7,I7.ud,r7,q7⟩
end
theorem gB{K:PySem.W.Frag}{a:Addr}{xs:List V}{g:TG}{tb:TS}{D:Ends}{σ:St}{H:Hp}(Pv:Nat->St->Hp->Prop)(h0:Pv 0 σ H)(hl:∀ i σ H,i<=xs.length->Pv i σ H->bQ K H a xs)
  (hs:∀ i x σ H,xs[i]?=some x->Pv i σ H->g x σ H fun σ2 H2=>tb { D with nx:=Pv (i+1),ct:=Pv (i+1),bk:=D.nx } σ2 H2) (hd:∀ σ H,Pv xs.length σ H->D.nx σ H) :
  ∃ W:Nat->Nat->St->Hp->Prop,(∃ m,W 0 m σ H)/\∀ i m σ H,W i m σ H->
   ((SD K a).stop i H/\D.nx σ H)\/((SD K a).go i H/\∃ N:St->Hp->Prop,(∀ σ' H',N σ' H'->∃ m',m'<m/\W (i+1) m' σ' H')/\∀ x H',(SD K a).Sz i H x H'->g x σ H' fun σ2 H2=>tb { D with nx:=N,ct:=N,bk:=D.nx } σ2 H2):=by
 refine⟨λi m σ H=>m=xs.length-i/\i<=xs.length/\Pv i σ H,⟨xs.length,by simp,Nat.zero_le _,h0⟩,?_⟩;rintro i m σ H ⟨rfl,hi,p⟩;have q:=hl i σ H hi p;by_cases vQ:i<xs.length
 ·refine .inr ⟨⟨xs,xs[i],q,by simp[vQ]⟩,Pv (i+1),fun σ' H' p'=>⟨xs.length-(i+1),by lia,rfl,vQ,p'⟩,λx H' y=>?_⟩;obtain⟨e,y⟩:=y;subst e;exact hs i x σ _ (y xs q) p
 ·have e:i=xs.length:=by lia
  subst e;exact .inl ⟨⟨xs,q,ja _⟩,hd σ H p⟩
theorem Tp{K:PySem.W.Frag}{a:Addr}{xs:List V}{g:TG}{tb:TS}{D:Ends}{σ:St}{H:Hp}(Pv:Nat->St->Hp->Prop)(h0:Pv 0 σ H)(hl:∀ i σ H,i<=xs.length->Pv i σ H->eL K H a xs)
  (hs:∀ i x σ H,xs[i]?=some x->Pv i σ H->g x σ H fun σ2 H2=>tb { D with nx:=Pv (i+1),ct:=Pv (i+1),bk:=D.nx } σ2 H2) (hd:∀ σ H,Pv xs.length σ H->D.nx σ H) :
  ∃ W:Nat->Nat->St->Hp->Prop,(∃ m,W 0 m σ H)/\∀ i m σ H,W i m σ H->
   ((Zr K a).stop i H/\D.nx σ H)\/((Zr K a).go i H/\∃ N:St->Hp->Prop,(∀ σ' H',N σ' H'->∃ m',m'<m/\W (i+1) m' σ' H')/\∀ x H',(Zr K a).Sz i H x H'->g x σ H' fun σ2 H2=>tb { D with nx:=N,ct:=N,bk:=D.nx } σ2 H2):=by
 refine⟨λi m σ H=>m=xs.length-i/\i<=xs.length/\Pv i σ H,⟨xs.length,by simp,Nat.zero_le _,h0⟩,?_⟩;rintro i m σ H ⟨rfl,hi,p⟩;have q:=hl i σ H hi p;by_cases vQ:i<xs.length
 ·refine .inr ⟨⟨xs,xs[i],q,by simp[vQ]⟩,Pv (i+1),fun σ' H' p'=>⟨xs.length-(i+1),by lia,rfl,vQ,p'⟩,λx H' y=>?_⟩;obtain⟨e,y⟩:=y;subst e;exact hs i x σ _ (y xs q) p
 ·have e:i=xs.length:=by lia
  subst e;exact .inl ⟨⟨xs,q,ja _⟩,hd σ H p⟩
theorem qU{lo:Int}{n:Nat}{g:TG}{tb:TS}{D:Ends}{σ:St}{H:Hp}(Pv:Nat->St->Hp->Prop)(h0:Pv 0 σ H)
  (hs:∀ i σ H,i<n->Pv i σ H->g (.int (lo+i)) σ H fun σ2 H2=>tb { D with nx:=Pv (i+1),ct:=Pv (i+1),bk:=D.nx } σ2 H2) (hd:∀ σ H,Pv n σ H->D.nx σ H) :
  ∃ W:Nat->Nat->St->Hp->Prop,(∃ m,W 0 m σ H)/\∀ i m σ H,W i m σ H->
   ((WX lo n).stop i H/\D.nx σ H)\/((WX lo n).go i H/\∃ N:St->Hp->Prop,(∀ σ' H',N σ' H'->∃ m',m'<m/\W (i+1) m' σ' H')/\∀ x H',(WX lo n).Sz i H x H'->g x σ H' fun σ2 H2=>tb { D with nx:=N,ct:=N,bk:=D.nx } σ2 H2):=by
 refine⟨λi m σ H=>m=n-i/\i<=n/\Pv i σ H,⟨n,by simp,Nat.zero_le _,h0⟩,?_⟩;rintro i m σ H ⟨rfl,hi,p⟩;by_cases vQ:i<n
 ·refine .inr ⟨vQ,Pv (i+1),fun σ' H' p'=>⟨n-(i+1),by lia,rfl,vQ,p'⟩,λx H' y=>?_⟩;obtain⟨e,y⟩:=y;subst e y;exact hs i σ _ vQ p
 ·have e:i=n:=by lia
  subst e;exact .inl ⟨Nat.le_refl _,hd σ H p⟩
end L2
namespace L2
open Spec Rows
abbrev R2:=V->V->Hp->VK->Prop
def yM(X:Cx)(f:Value->Value->Sem Value)(r:R2):Prop :=
 ∀ (ak:List (Addr × Obj)) (s:Shared) (σ:St) (H:Hp) (x y:V) (v u:Value) (Q:VK),Inv X ak σ H s->RelV x v->RelV y u->r x y H Q->
  wpAny (model X.prog X.w) X.A (f v u) (EP X ak σ Q) X.xe s
def UnR(X:Cx)(f:Value->Sem Value)(r:V->Hp->VK->Prop):Prop :=
 ∀ (ak:List (Addr × Obj)) (s:Shared) (σ:St) (H:Hp) (x:V) (v:Value) (Q:VK),Inv X ak σ H s->RelV x v->r x H Q->
  wpAny (model X.prog X.w) X.A (f v) (EP X ak σ Q) X.xe s
def pS(X:Cx)(f:Value)(r:List V->Hp->VK->Prop):Prop :=
 ∀ (ak:List (Addr × Obj)) (s:Shared) (σ:St) (H:Hp) (xs:List V) (us:List Value) (Q:VK),Inv X ak σ H s->cF xs us->r xs H Q->
  wpAny (model X.prog X.w) X.A (call f us) (EP X ak σ Q) X.xe s
def acG(X:Cx)(r:V->Hp->(Bool->Hp->Prop)->Prop):Prop :=
 ∀ (ak:List (Addr × Obj)) (s:Shared) (σ:St) (H:Hp) (x:V) (v:Value) (Q:Bool->Hp->Prop),Inv X ak σ H s->RelV x v->r x H Q->
  wpAny (model X.prog X.w) X.A (truthy v) (TP X ak σ Q) X.xe s
def Zt(r:R2)(ta tb:TE):TE:=fun σ H Q=>ta σ H λx H1=>tb σ H1 λy H2=>r x y H2 Q
def tUn(r:V->Hp->VK->Prop)(ta:TE):TE:=fun σ H Q=>ta σ H λx H1=>r x H1 Q
inductive rI(C:Int->Int->Prop)(g:Int->Int->V)(x y:V)(H:Hp)(Q:VK):Prop
 | mk (i j:Int) (_:x=.int i) (_:y=.int j) (_:C i j) (_:Q (g i j) H):rI C g x y H Q
inductive Vr(g:Int->Int->V)(x y:V)(H:Hp)(Q:VK):Prop
 | mk (i j:Int) (_:x=.int i) (_:y=.int j) (_:Q (g i j) H)
def rU(g:Int->V):V->Hp->VK->Prop:=λx H Q=>∃ i,x=.int i/\Q (g i) H
section
variable {X:Cx} {a b c:Expr} {ta tb tc:TE} {pos:Pos}
theorem WZ(ha:PE X a ta)(hb:PE X b tb){ak:List (Addr × Obj)}{s:Shared}{σ:St}{H:Hp}{R:V->V->Hp->Prop}(I:Inv X ak σ H s)
  (h:ta σ H λx H1=>tb σ H1 λy H2=>R x y H2) {Q:Value->Shared->Prop} {f:Value->Value->Sem Value}
  (hf:∀ v u s2 x y H2,Inv X ak σ H2 s2->RelV x v->RelV y u->R x y H2->wpAny (model X.prog X.w) X.A (f v u) Q X.xe s2) :
  wpAny (model X.prog X.w) X.A (eval a X.env) (λv s₁=>wpAny (model X.prog X.w) X.A (eval b X.env) (λu s₂=>wpAny (model X.prog X.w) X.A (f v u) Q X.xe s₂) X.xe s₁) X.xe s:=by
 refine dD (ha ak s σ H _ I h) λv s1 Kn=>?_;obtain⟨x,H1,I1,r1,q1⟩:=Kn;refine dD (hb ak s1 σ H1 _ I1 q1) λu s2 DX=>?_;obtain⟨y,H2,I2,r2,q2⟩:=DX;exact hf v u s2 x y H2 I2 r1 r2 q2
theorem bz{op:Operator}{r:R2}(ho:yM X (binaryOp op) r)(ha:PE X a ta)(hb:PE X b tb):PE X (.BinOp a op b pos) (Zt r ta tb):=by
 intro ak s σ H Q I h;exact wpAny_BinOp (WZ ha hb I h λv u s2 x y H2 I2 rx ry q=>ho ak s2 σ H2 x y v u Q I2 rx ry q)
theorem oO{op:UnaryOp}{r:V->Hp->VK->Prop}(ho:UnR X (unaryOp op) r)(ha:PE X a ta):PE X (.UnaryOp op a pos) (tUn r ta):=by
 intro ak s σ H Q I h;exact UnaryOp_ (dD (ha ak s σ H _ I h) λv s1 ⟨x,H1,I1,r1,q1⟩=>ho ak s1 σ H1 x v Q I1 r1 q1)
theorem opI{f:Value->Value->Sem Value}{C:Int->Int->Prop}{g:Int->Int->Int}
  (rule:∀ (i j:Int) (t u:Tok) (s:Shared) (Q:Value->Shared->Prop) (E:Value->Shared->Prop),C i j->Q (.int (g i j) s.toks) { s with toks:=s.toks+1 }->wpAny (model X.prog X.w) X.A (f (.int i t) (.int j u)) Q E s) :
  yM X f (rI C λi j=>.int (g i j)):=by
 intro ak s σ H x y v u Q I rx ry h;obtain⟨i,j,rfl,rfl,hc,q⟩:=h;obtain⟨t,rfl⟩:=rx;obtain⟨t',rfl⟩:=ry;exact rule i j t t' s _ _ hc ⟨.int (g i j),H,I.tok _,⟨_,rfl⟩,q⟩
theorem Zu{f:Value->Value->Sem Value}{g:Int->Int->Int}
  (rule:∀ (i j:Int) (t u:Tok) (s:Shared) (Q:Value->Shared->Prop) (E:Value->Shared->Prop),Q (.int (g i j) s.toks) { s with toks:=s.toks+1 }->wpAny (model X.prog X.w) X.A (f (.int i t) (.int j u)) Q E s) :
  yM X f (Vr λi j=>.int (g i j)):=by
 intro ak s σ H x y v u Q I rx ry h;obtain⟨i,j,rfl,rfl,q⟩:=h;obtain⟨t,rfl⟩:=rx;obtain⟨t',rfl⟩:=ry;exact rule i j t t' s _ _ ⟨.int (g i j),H,I.tok _,⟨_,rfl⟩,q⟩
theorem Tq{f:Value->Value->Sem Value}{g:Int->Int->Bool}
  (rule:∀ (i j:Int) (t u:Tok) (s:Shared) (Q:Value->Shared->Prop) (E:Value->Shared->Prop),Q (.bool (g i j)) s->wpAny (model X.prog X.w) X.A (f (.int i t) (.int j u)) Q E s) :
  yM X f (Vr λi j=>.bl (g i j)):=by
 intro ak s σ H x y v u Q I rx ry h;obtain⟨i,j,rfl,rfl,q⟩:=h;obtain⟨t,rfl⟩:=rx;obtain⟨t',rfl⟩:=ry;exact rule i j t t' s _ _ ⟨.bl (g i j),H,I,rfl,q⟩
def acH(i j:Int):Prop:=0<=j/\j<=1000000/\i.natAbs<2^64
def W0(i j:Int):Prop:=(-(2^64)<i/\i<2^64)\/(-(2^64)<j/\j<2^64)
theorem W0.ok{i j:Int}(h:W0 i j):IntMulOk i j:=by
 rcases h with ⟨h1,h2⟩|⟨h1,h2⟩
 ·exact .of_left (intBits_le_64 h1 h2)
 ·exact .of_right (intBits_le_64 h1 h2)
theorem eT:yM X (binaryOp .Add) (Vr λi j=>.int (i+j)):=Zu λ_ _ _ _ _ _ _ q=>add_int q
theorem cY:yM X (binaryOp .Sub) (Vr λi j=>.int (i-j)):=Zu λ_ _ _ _ _ _ _ q=>sub_int q
theorem Ks:yM X (binaryOp .Mult) (rI W0 λi j=>.int (i*j)):=opI λ_ _ _ _ _ _ _ hc q=>mul_int q hc.ok
theorem Cg:yM X (binaryOp .Mod) (rI (λ_ j=>0<j) λi j=>.int (i % j)):=opI λi j _ _ _ _ _ hc q=>by
 have h1:(0:Int)<j:=hc;exact mod_int' (by lia) (by rw[Int.fmod_eq_emod_of_nonneg i (by lia)];exact q)
theorem PF:yM X (binaryOp .Pow) (rI acH λi j=>.int (i^j.toNat)):=opI λ_ _ _ _ _ _ _ hc q=>pow_int_small hc.1 hc.2.1 hc.2.2 q
theorem unI{f:Value->Sem Value}{g:Int->Int}
  (rule:∀ (i:Int) (t:Tok) (s:Shared) (Q:Value->Shared->Prop) (E:Value->Shared->Prop),Q (.int (g i) s.toks) { s with toks:=s.toks+1 }->wpAny (model X.prog X.w) X.A (f (.int i t)) Q E s) :
  UnR X f (rU λi=>.int (g i)):=by
 intro ak s σ H x v Q I rx h;obtain⟨i,rfl,q⟩:=h;obtain⟨t,rfl⟩:=rx;exact rule i t s _ _ ⟨.int (g i),H,I.tok _,⟨_,rfl⟩,q⟩
theorem kg:UnR X (unaryOp .USub) (rU λi=>.int (-i)):=unI λ_ _ _ _ _ q=>neg_int q
end
def Zv:V->V->Bool
 | .iZ,.iZ=>true | .iZ,.int _=>true | .int _,.iZ=>true | .iZ,.bl _=>true | .bl _,.iZ=>true | .iZ,.str _=>true | .str _,.iZ=>true
 | .int _,.int _=>true | .bl _,.bl _=>true | .str _,.str _=>true | .Ke _,.Ke _=>true
 | .int _,.str _=>true | .str _,.int _=>true | .bl _,.str _=>true | .str _,.bl _=>true
 | _,_=>false
def rEq:R2:=λx y H Q=>Zv x y=true/\Q (.bl (decide (x=y))) H
def rNe:R2:=λx y H Q=>Zv x y=true/\Q (.bl (!decide (x=y))) H
theorem Mc{i j:Int}:decide (V.int i=V.int j)=(i == j):=by
 rw[Bool.eq_iff_iff];simp
theorem PK{i j:Bool}:decide (V.bl i=V.bl j)=(i == j):=by
 rw[Bool.eq_iff_iff];simp
theorem Me{i j:Str}:decide (V.str i=V.str j)=(i == j):=by
 rw[Bool.eq_iff_iff];simp
theorem Mf{i j:Array UInt8}:decide (V.Ke i=V.Ke j)=(i.toList == j.toList):=by
 rw[Bool.eq_iff_iff];cases i;cases j;simp
section
variable {X:Cx} {a b c:Expr} {ta tb tc:TE} {pos:Pos}
theorem eE{σ:St}{H:Hp}{s:Shared}{Q:VK}{k k':Bool}(I:Inv X ak σ H s)(q:Q (.bl k) H)(e:k=k'):EP X ak σ Q (.bool k') s:=by
 subst e;exact⟨.bl k,H,I,rfl,q⟩
theorem ig:yM X (compareOp .Eq) rEq:=by
 intro ak s σ H x y v u Q I rx ry h;obtain⟨hs,q⟩:=h
 cases x with
 | iZ =>
  cases rx
  cases y with
  | iZ=>cases ry;exact PySem.EqNone.eq_none_none (eE I q (by simp))
  | bl j=>cases ry;exact PySem.EqNone.eq_none_bool (eE I q (by simp))
  | int j=>obtain⟨t',rfl⟩:=ry;exact PySem.EqNone.eq_none_int (eE I q (by simp))
  | str j=>obtain⟨t',rfl⟩:=ry;exact PySem.EqNone.eq_none_str (eE I q (by simp))
  | _=>exact absurd (show false=true from hs) vg
 | bl i =>
  cases rx
  cases y with
  | iZ=>cases ry;exact PySem.EqNone.eq_bool_none (eE I q (by simp))
  | bl j=>cases ry;exact eq_bool (eE I q PK)
  | str j=>obtain⟨t',rfl⟩:=ry;exact PySem.EqMixed.eq_bool_str (eE I q (by simp))
  | _=>exact absurd (show false=true from hs) vg
 | int i =>
  obtain⟨t,rfl⟩:=rx
  cases y with
  | iZ=>cases ry;exact PySem.EqNone.eq_int_none (eE I q (by simp))
  | int j=>obtain⟨t',rfl⟩:=ry;exact eq_int (eE I q Mc)
  | str j=>obtain⟨t',rfl⟩:=ry;exact PySem.EqMixed.eq_int_str (eE I q (by simp))
  | _=>exact absurd (show false=true from hs) vg
 | str i =>
  obtain⟨t,rfl⟩:=rx
  cases y with
  | iZ=>cases ry;exact PySem.EqNone.eq_str_none (eE I q (by simp))
  | bl j=>cases ry;exact PySem.EqMixed.eq_str_bool (eE I q (by simp))
  | int j=>obtain⟨t',rfl⟩:=ry;exact PySem.EqMixed.eq_str_int (eE I q (by simp))
  | str j=>obtain⟨t',rfl⟩:=ry;exact eq_str (eE I q Me)
  | _=>exact absurd (show false=true from hs) vg
 | Ke i =>
  obtain⟨t,rfl⟩:=rx
  cases y with
  | Ke j=>obtain⟨t',rfl⟩:=ry;exact PySem.W.eq_bytes (eE I q Mf)
  | _=>exact absurd (show false=true from hs) vg
 | _=>cases y <;> exact absurd (show false=true from hs) vg
theorem PL:yM X (compareOp .NotEq) rNe:=by
 intro ak s σ H x y v u Q I rx ry h;obtain⟨hs,q⟩:=h
 cases x with
 | iZ =>
  cases rx
  cases y with
  | iZ=>cases ry;exact PySem.EqNone.ne_none_none (eE I q (by simp))
  | bl j=>cases ry;exact PySem.EqNone.ne_none_bool (eE I q (by simp))
  | int j=>obtain⟨t',rfl⟩:=ry;exact PySem.EqNone.ne_none_int (eE I q (by simp))
  | str j=>obtain⟨t',rfl⟩:=ry;exact PySem.EqNone.ne_none_str (eE I q (by simp))
  | _=>exact absurd (show false=true from hs) vg
 | bl i =>
  cases rx
  cases y with
  | iZ=>cases ry;exact PySem.EqNone.ne_bool_none (eE I q (by simp))
  | bl j=>cases ry;exact ne_bool (eE I q (congrArg not PK))
  | str j=>obtain⟨t',rfl⟩:=ry;exact PySem.EqMixed.ne_bool_str (eE I q (by simp))
  | _=>exact absurd (show false=true from hs) vg
 | int i =>
  obtain⟨t,rfl⟩:=rx
  cases y with
  | iZ=>cases ry;exact PySem.EqNone.ne_int_none (eE I q (by simp))
  | int j=>obtain⟨t',rfl⟩:=ry;exact ne_int (eE I q (congrArg not Mc))
  | str j=>obtain⟨t',rfl⟩:=ry;exact PySem.EqMixed.ne_int_str (eE I q (by simp))
  | _=>exact absurd (show false=true from hs) vg
 | str i =>
  obtain⟨t,rfl⟩:=rx
  cases y with
  | iZ=>cases ry;exact PySem.EqNone.ne_str_none (eE I q (by simp))
  | bl j=>cases ry;exact PySem.EqMixed.ne_str_bool (eE I q (by simp))
  | int j=>obtain⟨t',rfl⟩:=ry;exact PySem.EqMixed.ne_str_int (eE I q (by simp))
  | str j=>obtain⟨t',rfl⟩:=ry;exact ne_str (eE I q (congrArg not Me))
  | _=>exact absurd (show false=true from hs) vg
 | Ke i =>
  obtain⟨t,rfl⟩:=rx
  cases y with
  | Ke j=>obtain⟨t',rfl⟩:=ry;exact PySem.W.ne_bytes (eE I q (congrArg not Mf))
  | _=>exact absurd (show false=true from hs) vg
 | _=>cases y <;> exact absurd (show false=true from hs) vg
theorem rB:yM X (compareOp .Lt) (Vr λi j=>.bl (decide (i<j))):=Tq λ_ _ _ _ _ _ _ q=>lt_int q
theorem jz:yM X (compareOp .LtE) (Vr λi j=>.bl (decide (i<=j))):=Tq λ_ _ _ _ _ _ _ q=>le_int q
theorem PM:yM X (compareOp .Gt) (Vr λi j=>.bl (decide (j<i))):=Tq λ_ _ _ _ _ _ _ q=>gt_int q
theorem PN:yM X (compareOp .GtE) (Vr λi j=>.bl (decide (j<=i))):=Tq λ_ _ _ _ _ _ _ q=>ge_int q
theorem bC(b:Expr){op:CmpOp}(h:op≠.In:=by decide)(h2:op≠.NotIn:=by decide):behindInMarks op b=false:=by
 have e1:(op == CmpOp.In)=false:=by cases op <;> first|rfl|exact absurd rfl h
 have e2:(op == CmpOp.NotIn)=false:=by cases op <;> first|rfl|exact absurd rfl h2
 cases b <;> simp[behindInMarks,e1,e2]
theorem sN{op:CmpOp}{r:R2}(ho:yM X (compareOp op) r)(ha:PE X a ta)(hb:PE X b tb)(hm:behindInMarks op b=false):PE X (.Compare a [op] [b] pos) (Zt r ta tb):=by
 intro ak s σ H Q I h;exact wpAny_Compare1 (WZ ha hb I h λv u s2 x y H2 I2 rx ry q=>ho ak s2 σ H2 x y v u Q I2 rx ry q) hm
def Vs(t:TE):TT:=fun σ H Q=>t σ H λx H'=>isB x H' Q
theorem bq{op:CmpOp}{r:R2}(ho:yM X (compareOp op) r)(ha:PE X a ta)(hb:PE X b tb)(hm:behindInMarks op b=false):PT X (.Compare a [op] [b] pos) (Vs (Zt r ta tb)):=by
 intro ak s σ H Q I h
 refine wpAny_isTrue_Compare1 (dD (ha ak s σ H _ I h) λv s1 ⟨x,H1,I1,r1,q1⟩=>dD (hb ak s1 σ H1 _ I1 q1) λu s2 ⟨y,H2,I2,r2,q2⟩ =>
  dD (ho ak s2 σ H2 x y v u _ I2 r1 r2 q2) λc s3 ⟨z,H3,I3,r3,k,e,q3⟩=>?_) hm
 subst e;cases r3;exact wpAny_truthy_bool ⟨H3,I3,q3⟩
def Xa(r r':R2)(ta tb tc:TE):TE:=fun σ H Q=>ta σ H λx H1=>tb σ H1 λy H2=>r x y H2 λz H3=>∃ k,z=.bl k/\
 (if k=true then tc σ H3 λw' H4=>r' y w' H4 Q else Q (.bl false) H3)
theorem ue{op J5:CmpOp}{r r':R2}(ho:yM X (compareOp op) r)(Kl:yM X (compareOp J5) r')(ha:PE X a ta)(hb:PE X b tb)(hc:PE X c tc)
  (hm:lastMarks [op,J5] [b,c]=false:=by with_unfolding_all rfl):PT X (.Compare a [op,J5] [b,c] pos) (Vs (Xa r r' ta tb tc)):=by
 intro ak s σ H Q I h
 refine isTrue_chain (dD (ha ak s σ H _ I h) λv s1 ⟨x,H1,I1,r1,q1⟩=>test_link (dD (hb ak s1 σ H1 _ I1 q1) λu s2 ⟨y,H2,I2,r2,q2⟩ =>
  dD (ho ak s2 σ H2 x y v u _ I2 r1 r2 q2) λd s3 ⟨z,H3,I3,r3,k,e,q3⟩=>?_)) hm
 subst e;cases r3;refine wpAny_truthy_bool ?_
 cases k with
 | false =>
  obtain⟨k',e',q'⟩:=q3;cases e';exact ite_ff ⟨H3,I3,q'⟩
 | true =>
  refine ite_tt (test_last (dD (hc ak s3 σ H3 _ I3 q3) λw' s4 ⟨z',H4,I4,r4,q4⟩=>dD (Kl ak s4 σ H4 y z' u w' _ I4 r2 r4 q4) λd' s5 HC=>?_));obtain⟨z2,H5,I5,r5,k2,e2,q5⟩:=HC;subst e2;cases r5;exact wpAny_truthy_bool ⟨H5,I5,q5⟩
def Zw(K:PySem.W.Frag)(x:V)(H:Hp)(k:Bool):Prop :=
 match x with
 | .iZ=>k=false
 | .bl b=>k=b
 | .int i=>k=(i != 0)
 | .str y=>y.length<=sizeLine/\k=((y.length:Int) != 0)
 | .Ke y=>y.size<=sizeLine/\k=((y.size:Int) != 0)
 | .ref p=>(∃ xs,bQ K H p xs/\k=!xs.isEmpty)\/(∃ xs,eL K H p xs/\k=!xs.isEmpty)\/∃ kvs,H p=some (.dK kvs)/\k=!kvs.isEmpty
 | _=>False
theorem Ku{κ:Type}{kvs:List (κ × V)}{vs:List (κ × Value)}(r:KV kvs vs):(!vs.isEmpty)=!kvs.isEmpty:=by
 cases r <;> rfl
theorem Ci{xs:List V}{aQ:List Value}(r:cF xs aQ):(!aQ.toArray.isEmpty)=!xs.isEmpty:=by
 cases r <;> simp
theorem yg:(sizeLine:Nat)<2^63:=by rw[sizeLine_eq];decide
theorem Xb:acG X (λx H Q=>∃ k,Zw X.K x H k/\Q k H):=by
 intro ak s σ H x v Q I rx h;obtain⟨k,e,q⟩:=h;have hl:=yg;have hs:sizeLine=16777216:=sizeLine_eq
 cases x with
 | iZ =>
  cases rx;have e':k=false:=e;subst e';exact truthy_none ⟨H,I,q⟩
 | bl b =>
  cases rx;have e':k=b:=e;subst e';exact wpAny_truthy_bool ⟨H,I,q⟩
 | int i =>
  obtain⟨t,rfl⟩:=rx;have e':k=(i != 0):=e;subst e';exact PySem.P.truthy_int ⟨H,I,q⟩
 | str y =>
  obtain⟨t,rfl⟩:=rx;obtain⟨hy,e'⟩:y.length<=sizeLine/\k=((y.length:Int) != 0):=e;subst e';exact PySem.P.truthy_str (by lia) ⟨H,I.tok _,q⟩
 | Ke y =>
  obtain⟨t,rfl⟩:=rx;obtain⟨hy,e'⟩:y.size<=sizeLine/\k=((y.size:Int) != 0):=e;subst e';exact PySem.W.truthy_bytes (by lia) ⟨H,I.tok _,q⟩
 | ref p =>
  cases rx;have e':(∃ xs,bQ X.K H p xs/\k=!xs.isEmpty)\/(∃ xs,eL X.K H p xs/\k=!xs.isEmpty)\/∃ kvs,H p=some (.dK kvs)/\k=!kvs.isEmpty:=e;rcases e' with ⟨xs,hx,e'⟩|⟨xs,hx,e'⟩|⟨kvs,hx,e'⟩
  ·subst e';obtain⟨aQ,r,pl,hz⟩:=I.list hx;have gj:=r.length;exact wpAny_truthy_list pl.isList (by simp only[kC];lia) ⟨H,I.tok _,by rw[Ci r];exact q⟩
  ·subst e';obtain⟨aQ,r,pl,hz⟩:=I.tuple hx;have gj:=r.length;exact truthy_tuple pl (by simp only[kC];lia) ⟨H,I.tok _,by rw[Ci r];exact q⟩
  ·subst e';obtain⟨hz,hS,vs,r,m⟩:kvs.length<=sizeLine/\(p == sysModules)=false/\∃ vs,KV kvs vs/\s.heap.DictOf (jb X.prog X.w) p vs:=I.hok p _ hx;have gj:kvs.length=vs.length:=Paired.length r;exact wpAny_truthy_dict hS m (by lia) ⟨H,I.tok _,by rw[Ku r];exact q⟩
 | _=>exact (show False from e).elim
theorem rC(ha:PE X a ta)(he:∀ Cc,isTrue a X.env Cc=(do let v ← Cc;standAt a.pos;holding [v] (truthy v))) :
  PT X a (fun σ H Q=>ta σ H λx H'=>∃ k,Zw X.K x H' k/\Q k H'):=by
 intro ak s σ H Q I h;exact isTrue_plain (dD (ha ak s σ H _ I h) λv s1 ⟨x,H1,I1,r1,q1⟩=>Xb ak s1 σ H1 x v Q I1 r1 q1) (he _)
theorem vals1{x:V}{us:List Value}(r:cF [x] us):∃ u,us=[u]/\RelV x u:=by
 cases r with
 | cons r1 r2=>cases r2;exact⟨_,rfl,r1⟩
theorem vals2{x y:V}{us:List Value}(r:cF [x,y] us):∃ u w',us=[u,w']/\RelV x u/\RelV y w':=by
 cases r with
 | cons r1 r2 =>
  cases r2 with
  | cons r3 r4=>cases r4;exact⟨_,_,rfl,r1,r3⟩
theorem uf(hc:X.calm=true):pS X (.builtin "max") (λxs H Q=>∃ i j,xs=[.int i,.int j]/\Q (.int (if j > i then j else i)) H):=by
 intro ak s σ H xs us Q I r h;obtain⟨i,j,rfl,q⟩:=h;obtain⟨u,w',rfl,⟨t,rfl⟩,⟨t',rfl⟩⟩:=vals2 r;refine max_two_ints (I.ok.hd hc) λh' tk k=>⟨_,H,I.kept k,?_,q⟩;by_cases hj:j > i
 ·rw[if_pos hj,if_pos hj];exact⟨_,rfl⟩
 ·rw[if_neg hj,if_neg hj];exact⟨_,rfl⟩
theorem wI(hc:X.calm=true):pS X (.builtin "min") (λxs H Q=>∃ i j,xs=[.int i,.int j]/\Q (.int (if j<i then j else i)) H):=by
 intro ak s σ H xs us Q I r h;obtain⟨i,j,rfl,q⟩:=h;obtain⟨u,w',rfl,⟨t,rfl⟩,⟨t',rfl⟩⟩:=vals2 r;refine min_two_ints (I.ok.hd hc) λh' tk k=>⟨_,H,I.kept k,?_,q⟩;by_cases hj:j<i
 ·rw[if_pos hj,if_pos hj];exact⟨_,rfl⟩
 ·rw[if_neg hj,if_neg hj];exact⟨_,rfl⟩
end
end L2
namespace L2
open Spec Rows
structure Kv(h:Heap)(x dx C:Addr)(mA:Str->Option Value):Prop where
 obj:h.get? x=some (instObj C dx)
 ns:h.Ns1 dx mA
 ne:dx≠x
theorem NN{h:Heap}{mA:Str->Option Value}(n:h.Ns1 dx mA):∃ od,h.get? dx=some od/\∀ name,lookIn name od=some (mA name):=by
 obtain⟨o,es,ep,ho,hd,hk,_,hm⟩:=n;refine⟨o,ho,λname=>?_⟩;have e:=hm name;unfold nsFind findBy at e;rw[← Array.find?_toList]at e;unfold lookIn;rw[hd];dsimp only;split
 ·rename_i y q;rw[q]at e;exact congrArg some e
 ·rename_i q;rw[q]at e
  have a:es.toList.any (·.refKey)=false:=by
   rw[List.any_eq_false];intro y hy;obtain⟨z,t,hkey⟩:=hk y (Array.mem_toList_iff.mp hy);simp[DictEntry.refKey,hkey]
  have a':¬ es.toList.any (·.refKey)=true:=by rw[a];exact vg
  rw[if_neg a'];exact congrArg some e
theorem Kv.look{h:Heap}{x:Addr}{mA:Str->Option Value}(I:Kv h x dx C mA):∃ od,InstAt h x (instObj C dx) C (some od)/\∀ name,lookIn name od=some (mA name) :=
 let ⟨od,ho,hl⟩:=NN I.ns
 ⟨od,⟨I.obj,rfl,rfl,ho⟩,hl⟩
section
variable {prog:Program} {w:World} {A:Around} {E:Value->Shared->Prop} {s:Shared} {K:PySem.W.Frag} {x dx C f:Addr} {mA:Str->Option Value} {name:Str} {v:Value}
theorem Tr{acI:Bool}{Q:Value->Shared->Prop}(X:K.In s.heap)(I:Kv s.heap x dx C mA)(hg:plainGet K C name=true)(hh:hasDictIn K C=true)
  (ha:findIn K (.ref C) name=some none) (hv:mA name=some v) (hv':handedIn v=true) (h:Q v { s with toks:=s.toks+1 }) :
  wpAny (model prog w) A (getAttr (.ref x) name acI) Q E s:=by
 obtain⟨od,J,hl⟩:=I.look;exact PySem.W.get_value X J (plainGet_of hg).1 (PySem.W.findObj_own hh ha rfl (by rw[hl,hv])) hv' h
theorem PR{pl:Sem Bool}{Q:Value × List Value->Shared->Prop}(X:K.In s.heap)(I:Kv s.heap x dx C mA)(hg:plainGet K C name=true)
  (hf:findIn K (.ref C) name=some (some (.ref f))) (ht:isFn K (.ref f)=true) (hv:mA name=none) (h:Q (.ref f,[.ref x]) s) :
  wpAny (model prog w) A (getMethod (.ref x) name pl) Q E s:=by
 obtain⟨od,J,hl⟩:=I.look;exact PySem.W.method_fn X J (plainGet_of hg).1 (plainGet_of hg).2 hf (beq_iff_eq.mp ht) (by show (lookIn name od).map (·.isSome)=some false;rw[hl,hv];rfl) h
theorem Tt{ns:List Str}{Q:Unit->Shared->Prop}(X:K.In s.heap)(I:Kv s.heap x dx C mA)
  (hs:findIn K (.ref C) "__setattr__"=some (some (.builtin "object.__setattr__"))) (hp:plainOver K C=true) (ht:takerIn K C name=some none) (hh:hasDictIn K C=true)
  (hw:PySem.Within mA ns) (hsz:ns.length<=sizeLine)
  (h:∀ h',Kv h' x dx C (λy=>if y=name then some v else mA y)->Heap.SameBut dx s.heap h'->Q () { s with heap:=h',toks:=s.toks+2 }) :
  wpAny (model prog w) A (setAttr (.ref x) name v) Q E s:=by
 obtain⟨od,J,hl⟩:=I.look;refine PySem.W.set_plain X J hs (PySem.W.osa_open (s:={ s with toks:=s.toks+1 }) (r:=none) X J hp ht λb=>?_);obtain⟨cd,hc,WM⟩:=PySem.W.any_some hh;have hx:s.heap.get? x=some ⟨.ref C,some dx,.plain,#[]⟩:=I.obj;refine wpAny_bind (wpAny_pure (wpAny_bind (wpAny_bind (wpAny_loadPart hx (wpAny_bind (PySem.W.Looks.here (s:={ s with toks:=s.toks+1 }) (PySem.W.looks_clsIn X hc) ?_))))));rw[WM];refine wpAny_pure (a:=some dx) (wpAny_bind (wpAny_pure (wpAny_bind ?_)));refine wpAny_nsSet1 (s:={ s with toks:=s.toks+1 }) I.ns λh' hn2 Kw=>?_;obtain⟨oD,esD,epD,hoD,hdD,hcD⟩:=hn2.count (PySem.Within.cons name v hw);refine wpAny_bind (wpAny_lookBehind hoD (by rw[hdD];exact pastItsLine_dict (lJ hcD (by rw[qE];lia))) ?_);exact wpAny_pure (h _ ⟨(Kw.2 _ (Ne.symm I.ne)).trans I.obj,hn2,I.ne⟩ Kw)
theorem PU{R:Result->Shared->Prop}{vs:List Value}{kw:List (Str × Value)}(X:K.In s.heap)(hm:makesIn K C=true)
  (hi:findIn K (.ref C) "__init__"=some (some (.ref f))) (hf:typeIn K (.ref f)=some (.type "function"))
  (h:codeAny (model prog w) (A.under (.builtin "type.__call__" ⟨.ref C::vs,kw⟩)) (.call (.ref f) ⟨.ref (s.heap.objs.size+1)::vs,kw⟩) (PySem.W.InitBack (s.heap.objs.size+1) R)
   { s with heap:=(s.heap.push emptyDict).push (instObj C s.heap.objs.size) }) :
  codeAny (model prog w) A (.call (.ref C) ⟨vs,kw⟩) R s:=by
 obtain⟨hh,g,d,t,os⟩:=s;exact PySem.W.make_core (PySem.W.makes_of X hm) (PySem.W.looks_findIn X hi) (λself=>PySem.W.bind_fn X self hf) (.inl rfl) h
end
def gx(f:Str)(v:V):List (Str × V)->List (Str × V)
 | []=>[(f,v)]
 | (g,x)::r=>if g=f then (g,v)::r else (g,x)::gx f v r
theorem AV(f g:Str)(v:V):∀ fs:List (Str × V),(gx f v fs).lookup g=if g=f then some v else fs.lookup g
 | []=>by
  show List.lookup g [(f,v)]=_;by_cases h:g=f
  ·have hb:(g == f)=true:=beq_iff_eq.mpr h;simp only[List.lookup,hb,if_pos h]
  ·have hb:(g == f)=false:=beq_eq_false_iff_ne.mpr h;simp only[List.lookup,hb,if_neg h]
 | (k,x)::r=>by
  have ih:=AV f g v r;rw[show gx f v ((k,x)::r)=(if k=f then (k,v)::r else (k,x)::gx f v r) from rfl];by_cases hk:k=f
  ·rw[if_pos hk];by_cases h:g=k
   ·have hb:(g == k)=true:=beq_iff_eq.mpr h;simp only[List.lookup,hb,if_pos (h.trans hk)]
   ·have hb:(g == k)=false:=beq_eq_false_iff_ne.mpr h;simp only[List.lookup,hb,if_neg (λe:g=f=>h (e.trans hk.symm))]
  ·rw[if_neg hk];by_cases h:g=k
   ·have hb:(g == k)=true:=beq_iff_eq.mpr h;simp only[List.lookup,hb,if_neg (λe:g=f=>hk (h.symm.trans e))]
   ·have hb:(g == k)=false:=beq_eq_false_iff_ne.mpr h;simp only[List.lookup,hb];exact ih
theorem zW(f:Str)(v:V):∀ fs:List (Str × V),f∈(gx f v fs).map (·.1)/\∀ g,g∈fs.map (·.1)->g∈(gx f v fs).map (·.1)
 | []=>⟨by simp[gx],λg h=>by simp at h⟩
 | (k,x)::r=>by
  obtain⟨i1,i2⟩:=zW f v r;rw[show gx f v ((k,x)::r)=(if k=f then (k,v)::r else (k,x)::gx f v r) from rfl];by_cases hk:k=f
  ·rw[if_pos hk];subst hk;exact⟨by simp,λg h=>by simpa using h⟩
  ·rw[if_neg hk];refine⟨?_,λg h=>?_⟩
   ·rw[oJ];exact sH _ i1
   ·rw[oJ]at h ⊢;rcases List.mem_cons.mp h with e|e
    ·exact List.mem_cons.mpr (.inl e)
    ·exact sH _ (i2 g e)
theorem AW(f:Str)(v:V):∀ fs:List (Str × V),(gx f v fs).length<=fs.length+1
 | []=>by simp[gx]
 | (k,x)::r=>by
  have ih:=AW f v r;rw[show gx f v ((k,x)::r)=(if k=f then (k,v)::r else (k,x)::gx f v r) from rfl];by_cases hk:k=f
  ·rw[if_pos hk,qE,qE];lia
  ·rw[if_neg hk,qE,qE];lia
theorem xu.some_of{v:V}{o:Option Value}(r:xu (some v) o):∃ u,o=some u/\RelV v u:=by
 cases o with
 | none=>exact (show False from r).elim
 | some u=>exact⟨u,rfl,r⟩
theorem xu.none_of{o:Option Value}(r:xu none o):o=none:=by
 cases o with
 | none=>rfl
 | some u=>exact (show False from r).elim
theorem NO{v:V}{u:Value}(r:RelV v u):handedIn u=true:=by
 cases v with
 | iZ=>cases (show u=Value.none from r);rfl
 | bl b=>cases (show u=Value.bool b from r);rfl
 | int i=>obtain⟨t,e⟩:=(show ∃ t,u=Value.int i t from r);cases e;rfl
 | str x=>obtain⟨t,e⟩:=(show ∃ t,u=Value.str x t from r);cases e;rfl
 | Ke b=>obtain⟨t,e⟩:=(show ∃ t,u=Value.bytes b t from r);cases e;rfl
 | Vl b=>obtain⟨t,e⟩:=(show ∃ t,u=Value.float b t from r);cases e;rfl
 | ref a=>cases (show u=Value.ref a from r);rfl
 | ty n=>cases (show u=Value.type n from r);rfl
section
variable {P:Program} {w:World} {H H':Hp} {h h':Heap} {a C dx:Addr} {fs YI:List (Str × V)}
theorem BO(hok:vN P w H h)(e:H a=some (.ins C dx fs)):∃ mA,Kv h a dx C mA/\(∀ f,xu (fs.lookup f) (mA f))/\PySem.Within mA (fs.map (·.1))/\fs.length<=1000/\H dx=some (.own a):=by
 obtain⟨d,z,ne,ob,mA,n,r,q⟩:=(show jc P w H h a (.ins C dx fs) from hok a _ e);exact⟨mA,⟨ob,n,ne⟩,r,q,z,d⟩
end
structure DQ(K:PySem.W.Frag)(C:Addr):Prop where
 pg:plainGet K C Str.empty=true
 hd:hasDictIn K C=true
 po:plainOver K C=true
 sa:findIn K (.ref C) "__setattr__"=some (some (.builtin "object.__setattr__"))
theorem DQ.get{K:PySem.W.Frag}(c:DQ K C)(f:Str):plainGet K C f=true:=c.pg
def cG(K:PySem.W.Frag)(C:Addr)(f:Str):Prop:=findIn K (.ref C) f=some none
theorem cG.Zx{K:PySem.W.Frag}{f:Str}(n:cG K C f):takerIn K C f=some none:=by
 unfold takerIn;rw[show findIn K (.ref C) f=some none from n];rfl
structure Kx(K:PySem.W.Frag)(C:Addr)(m:Str)(f:Addr):Prop where
 at_:findIn K (.ref C) m=some (some (.ref f))
 fn:isFn K (.ref f)=true
 kp:keepIn K (.ref f)=true
section
variable {X:Cx} {ak:List (Addr × Obj)} {σ:St} {H:Hp} {s:Shared} {a C dx:Addr} {fs:List (Str × V)} {f:Str} {v:V} {A:Around} {E:Value->Shared->Prop}
theorem Cj{b:Bool}{Q:Value->Shared->Prop}(I:Inv X ak σ H s)(e:H a=some (.ins C dx fs))(c:DQ X.K C)(n:cG X.K C f)(l:fs.lookup f=some v)
  (h:∀ u s',Inv X ak σ H s'->RelV v u->Q u s'):wpAny (model X.prog X.w) A (getAttr (.ref a) f b) Q E s:=by
 obtain⟨mA,O,r,_,_,_⟩:=BO I.hok e;obtain⟨u,hu,ru⟩:=xu.some_of (v:=v) (o:=mA f) (by rw[← l];exact r f);exact Tr I.yS O (c.get f) c.hd n hu (NO ru) (h u _ (I.tok _) ru)
theorem yh{m:Str}{g:Addr}{pl:Sem Bool}{Q:Value × List Value->Shared->Prop}(I:Inv X ak σ H s)(e:H a=some (.ins C dx fs))(c:DQ X.K C)(k:Kx X.K C m g)(l:fs.lookup m=none)
  (h:Q (.ref g,[.ref a]) s):wpAny (model X.prog X.w) A (getMethod (.ref a) m pl) Q E s:=by
 obtain⟨mA,O,r,_,_,_⟩:=BO I.hok e;have hn:mA m=none:=xu.none_of (by rw[← l];exact r m);exact PR I.yS O (c.get m) k.at_ k.fn hn h
theorem Ck{y:V}{u:Value}{Q:Unit->Shared->Prop}(I:Inv X ak σ H s)(e:H a=some (.ins C dx fs))(c:DQ X.K C)(n:cG X.K C f)(hl:fs.length<1000)(ry:RelV y u)
  (h:∀ s',Inv X ak σ (aO H a (.ins C dx (gx f y fs))) s'->Q () s'):wpAny (model X.prog X.w) A (setAttr (.ref a) f u) Q E s:=by
 obtain⟨mA,O,r,wi,_,ho⟩:=BO I.hok e;have hz:(fs.map (·.1)).length<=sizeLine:=by rw[cR,sizeLine_eq];lia
 refine Tt I.yS O c.sa c.po n.Zx c.hd wi hz λh' O' sb=>h _ ?_;have hd:∃ o,h'.get? dx=some o:=let ⟨o,_,_,e',_⟩:=O'.ns;⟨o,e'⟩;refine I.write (x:=a) (e:=dx) (by rw[e];exact True.intro) (.inr ho) (λb q hb z=>(sb.2 b hb).trans z) hd ?_;refine⟨by rw[aK O.ne];exact ho,?_,O.ne,O'.obj,_,O'.ns,λg=>?_,λg hg=>?_⟩
 ·have:=AW f y fs;lia
 ·show xu ((gx f y fs).lookup g) (if g=f then some u else mA g);rw[AV];by_cases q:g=f
  ·rw[if_pos q,if_pos q];exact ry
  ·rw[if_neg q,if_neg q];exact r g
 ·by_cases q:g=f
  ·rw[q];exact (zW f y fs).1
  ·refine (zW f y fs).2 g (wi g λz=>hg ?_);show (if g=f then some u else mA g)=none;rw[if_neg q];exact z
theorem Inv.made(I:Inv X ak σ H s):Inv X ak σ (aO (aO H s.heap.objs.size (.own (s.heap.objs.size+1))) (s.heap.objs.size+1) (.ins C s.heap.objs.size []))
  { s with heap:=(s.heap.push emptyDict).push (instObj C s.heap.objs.size) }:=by
 have e1:(s.heap.push emptyDict).get? s.heap.objs.size=some emptyDict:=Heap.get?_push_size s.heap rfl
 have e2:((s.heap.push emptyDict).push (instObj C s.heap.objs.size)).get? (s.heap.objs.size+1)=some (instObj C s.heap.objs.size):=by
  have:=Heap.get?_push_size (s.heap.push emptyDict) (o:=instObj C s.heap.objs.size) rfl;rwa [Heap.size_push]at this
 have e3:(s.heap.push emptyDict).Ns s.heap.objs.size (λ_=>none):=⟨emptyDict,#[],_,e1,rfl,(λe he=>absurd he (by simp)),λ_=>rfl⟩;have I1:=I.laid (a:=s.heap.objs.size) (o:=.own (s.heap.objs.size+1)) (h':=s.heap.push emptyDict) (t':=s.toks) (λb u q=>Heap.get?_push_of_some _ q) (ja _) ⟨_,e1⟩;refine I1.laid (a:=s.heap.objs.size+1) (o:=.ins C s.heap.objs.size []) (t':=s.toks) (λb u q=>Heap.get?_push_of_some _ q) (Nat.le_of_eq (Heap.size_push _ _)) ?_;have ne:s.heap.objs.size≠s.heap.objs.size+1:=pR (Nat.lt_succ_self _);refine⟨by rw[aK ne,af],Nat.zero_le _,ne,e2,λ_=>none,(Heap.Ns1.of_empty e3).at λo q=>Heap.get?_push_of_some _ q,λ_=>True.intro,λy hy=>absurd rfl hy⟩
theorem Tu{prog:Program}{w:World}{env:Env}{e:Expr}{f:Str}{s:Shared}{Q:Value->Shared->Prop}(hb:attributeBase e f env (eval e env)=eval e env)
  (h:wpAny (model prog w) A (eval e env) (λo s₁=>wpAny (model prog w) A (getAttr o f true) Q E s₁) E s):wpAny (model prog w) A (eval (.Attribute e f pos) env) Q E s :=
 Attribute_any_ h (by rw[arm_eval_Attribute,hb])
end
inductive Zy(K:PySem.W.Frag)(f:Str)(x:V)(H:Hp)(Q:VK):Prop
 | mk (a C dx:Addr) (fs:List (Str × V)) (v:V) (_:x=.ref a) (_:H a=some (.ins C dx fs)) (_:DQ K C) (_:cG K C f) (_:fs.lookup f=some v) (_:Q v H):Zy K f x H Q
def acJ(K:PySem.W.Frag)(ta:TE)(f:Str):TE:=fun σ H Q=>ta σ H λx H1=>Zy K f x H1 Q
def acK(K:PySem.W.Frag)(ta tv:TE)(f:Str):TS:=λD σ H=>tv σ H λy H1=>ta σ H1 λx H2=>∃ a C dx fs,x=.ref a/\H2 a=some (.ins C dx fs)/\DQ K C/\cG K C f/\fs.length<1000/\
 D.nx σ (aO H2 a (.ins C dx (gx f y fs)))
def Zz(X:Cx)(op:Operator)(rd:V->V->Hp->VK->Prop):Prop :=
 ∀ (ak:List (Addr × Obj)) (s:Shared) (σ:St) (H:Hp) (x y:V) (u v:Value) (Q:VK),Inv X ak σ H s->RelV x u->RelV y v->rd x y H Q->wpAny (model X.prog X.w) X.A (inplaceOp op u v) (EP X ak σ Q) X.xe s
def Tv(K:PySem.W.Frag)(ta tv:TE)(rd:V->V->Hp->VK->Prop)(f:Str):TS:=λD σ H=>ta σ H λx H1=>∃ a C dx fs v,x=.ref a/\H1 a=some (.ins C dx fs)/\DQ K C/\cG K C f/\fs.lookup f=some v/\
 tv σ H1 λy H2=>rd v y H2 λz H3=>∃ dx' YI,H3 a=some (.ins C dx' YI)/\YI.length<1000/\D.nx σ (aO H3 a (.ins C dx' (gx f z YI)))
section
variable {X:Cx} {o e value:Expr} {f:Str} {pos mz DZ:Pos} {ta tv:TE}
theorem eG(he:PE X e ta)(hb:attributeBase e f X.env (eval e X.env)=eval e X.env):PE X (.Attribute e f pos) (acJ X.K ta f):=by
 intro ak s σ H Q I h;refine Tu hb (dD (he ak s σ H _ I h) λu s1 DY=>?_);obtain⟨x,H1,I1,rx,a,C,dx,fs,v,ex,ea,c,n,l,q⟩:=DY;subst ex;obtain rfl:u=Value.ref a:=rx;exact Cj I1 ea c n l λu' s2 I2 ru=>⟨v,H1,I2,ru,q⟩
theorem mX(ha:PE X o ta)(hv:PE X value tv)(hs:swapsWith value (some (.Attribute o f mz)) pos.line X.env=pure false):PS X (.Assign [.Attribute o f mz] value pos) (acK X.K ta tv f):=by
 intro ak s σ H D I h;refine plainObj_wpAny_Assign_Attribute (dD (hv ak s σ H _ I h) λu s1 h1=>?_) hs;obtain⟨y,H1,I1,ry,q⟩:=h1;refine dD (ha ak s1 σ H1 _ I1 q) λov s2 h2=>?_;obtain⟨x,H2,I2,rx,a,C,dx,fs,ex,ea,c,n,l,q2⟩:=h2;subst ex;obtain rfl:ov=Value.ref a:=rx;exact Ck I2 ea c n l ry λs3 I3=>⟨σ,_,I3,q2⟩
theorem zX{op:Operator}{rd:V->V->Hp->VK->Prop}(ha:PE X o ta)(hv:PE X value tv)(SE:Zz X op rd):PS X (.AugAssign (.Attribute o f DZ) op value pos) (Tv X.K ta tv rd f):=by
 intro ak s σ H D I h;refine wpAny_AugAssign_AttributeAny (dD (ha ak s σ H _ I h) λov s1 h1=>?_);obtain⟨x,H1,I1,rx,a,C,dx,fs,v,ex,ea,c,n,l,q⟩:=h1;subst ex;obtain rfl:ov=Value.ref a:=rx;refine Cj I1 ea c n l λu s2 I2 ru=>dD (hv ak s2 σ H1 _ I2 q) λw3 s3 ⟨y,H2,I3,ry,q3⟩=>dD (SE ak s3 σ H2 v y u w3 _ I3 ru ry q3) λw4 s4 HH=>?_;obtain⟨z,H3,I4,rz,dx',YI,ea',l',q4⟩:=HH;exact Ck I4 ea' c n l' rz λs5 I5=>⟨σ,_,I5,q4⟩
end
section
variable {X:Cx} {ak:List (Addr × Obj)} {σ:St} {H:Hp} {s:Shared} {A:Around} {E:Value->Shared->Prop} {Q:Value->Shared->Prop} {c:Value} {b:Bool}
inductive pT(K:PySem.W.Frag)(H:Hp):V->Value->Prop where
 | iZ:pT K H .iZ (.type "NoneType")
 | bl (x:Bool):pT K H (.bl x) (.type "bool")
 | int (i:Int):pT K H (.int i) (.type "int")
 | str (x:Str):pT K H (.str x) (.type "str")
 | Vl (x:UInt64):pT K H (.Vl x) (.type "float")
 | lst {a:Addr} {xs:List V} (e:H a=some (.lst xs)):pT K H (.ref a) (.type "list")
 | Kf {a:Addr} {o:Obj} {xs:List V} (e:H a=some (.Kf o (.lst xs))):pT K H (.ref a) (.type "list")
 | tup {a:Addr} {xs:List V} (e:H a=some (.tup xs)):pT K H (.ref a) (.type "tuple")
 | dK {a:Addr} {kvs:List (iL × V)} (e:H a=some (.dK kvs)):pT K H (.ref a) (.type "dict")
 | dT {a:Addr} {kvs:List (List iL × V)} (e:H a=some (.dT kvs)):pT K H (.ref a) (.type "dict")
 | ins {a C dx:Addr} {fs:List (Str × V)} (e:H a=some (.ins C dx fs)) (cl:DQ K C) (ha:findIn K (.ref C) "__class__"=some (some (.builtin "object.__class__")))
   (hn:PySem.W.specialIn K (.builtin "object.__class__") "__get__"=some (some (.builtin "getset_descriptor.__get__"))) (htk:PySem.W.takesIn K (.builtin "object.__class__")=some true)
   (hm:mroIn K C (.type "object")=some true):pT K H (.ref a) (.ref C)
theorem NP{x:V}{u t:Value}(I:Inv X ak σ H s)(rx:RelV x u)(ty:pT X.K H x t)(e:kitOne X.K t c=some b)(h:∀ tk,Q (.bool b) { s with toks:=tk }) :
  wpAny (model X.prog X.w) A (call (.builtin "isinstance") [u,c]) Q E s:=by
 cases ty with
 | iZ=>cases (show u=Value.none from rx);exact kia_one PySem.W.kitx_none I.yS True.intro e (λz=>nomatch z) h
 | bl y=>cases (show u=Value.bool y from rx);exact kia_one PySem.W.kitx_bool I.yS True.intro e (λz=>nomatch z) h
 | int i=>obtain⟨t,q⟩:=(show ∃ t,u=Value.int i t from rx);cases q;exact kia_one PySem.W.kitx_int I.yS True.intro e (λz=>nomatch z) h
 | str y=>obtain⟨t,q⟩:=(show ∃ t,u=Value.str y t from rx);cases q;exact kia_one PySem.W.kitx_str I.yS True.intro e (λz=>nomatch z) h
 | Vl y=>obtain⟨t,q⟩:=(show ∃ t,u=Value.float y t from rx);cases q;exact kia_one PySem.W.kitx_float I.yS True.intro e (λz=>nomatch z) h
 | @lst a xs ea =>
  cases (show u=Value.ref a from rx);obtain⟨_,_,n,_,h1⟩:=(show jc X.prog X.w H s.heap a (.lst xs) from I.hok a _ ea);exact kia_one kitx_list I.yS ⟨_,h1,rfl⟩ e (λz=>nomatch z) h
 | @Kf a ob xs ea =>
  cases (show u=Value.ref a from rx);obtain⟨_,_,_,n,_,h1⟩:=(show jc X.prog X.w H s.heap a (.Kf ob (.lst xs)) from I.hok a _ ea);exact kia_one kitx_list I.yS ⟨_,h1,rfl⟩ e (λz=>nomatch z) h
 | @tup a xs ea =>
  cases (show u=Value.ref a from rx);obtain⟨_,_,_,p⟩:=(show jc X.prog X.w H s.heap a (.tup xs) from I.hok a _ ea);obtain⟨o,h1,h2,_⟩:=p;exact kia_one PySem.W.kitx_tuple I.yS ⟨o,h1,h2⟩ e (λz=>nomatch z) h
 | @dK a kvs ea =>
  cases (show u=Value.ref a from rx);obtain⟨_,_,vs,_,p⟩:=(show jc X.prog X.w H s.heap a (.dK kvs) from I.hok a _ ea);obtain⟨o,es,ep,h1,h2,_⟩:=p;exact kia_one kitx_dict I.yS ⟨o,h1,h2.1⟩ e (λz=>nomatch z) h
 | @dT a kvs ea =>
  cases (show u=Value.ref a from rx);obtain⟨_,_,xs,_,o,es,ep,h1,h2,_⟩:=(show jc X.prog X.w H s.heap a (.dT kvs) from I.hok a _ ea);exact kia_one kitx_dict I.yS ⟨o,h1,h2.1⟩ e (λz=>nomatch z) h
 | @ins a C dx fs ea cl ha hn htk hm =>
  cases (show u=Value.ref a from rx);obtain⟨mA,O,_⟩:=BO I.hok ea;obtain⟨od,J,_⟩:=O.look;exact kia_one (PySem.W.kitx_own (cl.get _) cl.hd ha hn htk hm) I.yS J e (λz=>nomatch z) h
end
end L2
namespace L2
open Spec Rows
structure kH(k:Nat)(A:Around):Prop where
 hd:A.handled=none
 dp:A.depth+3*k+5<recursionLimit
 un:A.units+16*k+200<cLine
theorem kH.mono{j k:Nat}{A:Around}(r:kH k A)(h:j<=k):kH j A:=⟨r.hd,by have:=r.dp;lia,by have:=r.un;lia⟩
theorem kH.deeper{k:Nat}{A:Around}(r:kH (k+1) A)(env:Env):kH k (A.deeper env) :=
 ⟨r.hd,by have:=r.dp;show A.depth+1+3*k+5<_;lia,by have:=r.un;show A.units+3+16*k+200<_;lia⟩
theorem Ky{A:Around}{us:List Value}{kw:List (Str × Value)}:(A.under (.builtin "type.__call__" ⟨.ref C::us,kw⟩)).depth=A.depth+1:=by
 first|rfl|simp[Around.under,Code.weight,Code.isCreation,Code.isGuard,Code.isCaller,Code.frames,Code.isFrame,guardIds]
theorem Kz{A:Around}{us:List Value}{kw:List (Str × Value)}:(A.under (.builtin "type.__call__" ⟨.ref C::us,kw⟩)).units=A.units+1:=by
 first|rfl|simp[Around.under,Code.cUnits,Code.frames,Code.isFrame]
theorem kH.make{k:Nat}{A:Around}(r:kH (k+1) A)(C:Addr)(us:List Value)(kw:List (Str × Value)):kH k (A.under (.builtin "type.__call__" ⟨.ref C::us,kw⟩)) :=
 ⟨r.hd,by have:=r.dp;rw[Ky];lia,by have:=r.un;rw[Kz];lia⟩
theorem kH.depth{k:Nat}{A:Around}(r:kH k A):A.depth<recursionLimit:=by have:=r.dp;lia
theorem kH.units{k:Nat}{A:Around}(r:kH k A):A.units+64<cLine:=by have:=r.un;lia
def Cm:TA:=λ_ H Q=>Q [] H
def PV(ta:TE)(tr:TA):TA:=fun σ H Q=>ta σ H λx H1=>tr σ H1 λxs H2=>Q (x::xs) H2
section
variable {X:Cx} {e:Expr} {es:List Expr} {te:TE} {t:TA} {pos:Pos}
theorem ah:PA X [] Cm:=λ_ _ _ _ H Q I h=>Calls.spliced_nil ⟨[],H,I,.nil,h⟩
theorem aa(ha:PE X e te)(hr:PA X es t)(hs:starEach (e::es) X.env=(false,eval e X.env)::starEach es X.env:=by rfl):PA X (e::es) (PV te t):=by
 intro pos ak s σ H Q I h;rw[hs];show wpAny _ _ (spliced ((false,eval e X.env)::backTo pos (starEach es X.env))) _ _ s;refine Calls.spliced_cons (dD (ha ak s σ H _ I h) λu s1 Ko=>?_);obtain⟨x,H1,I1,r1,q1⟩:=Ko;exact dD (hr pos ak s1 σ H1 _ I1 q1) λus s2 ⟨xs,H2,I2,r2,q2⟩=>⟨x::xs,H2,I2,.cons r1 r2,q2⟩
def acM(t:TA):TE:=fun σ H Q=>t σ H λxs H1=>xs.length<=sizeLine/\∀ p,H1 p=none->Q (.ref p) (aO H1 p (.tup xs))
def NQ(t:TA):TE:=fun σ H Q=>t σ H λxs H1=>xs.length<=sizeLine/\∀ p,H1 p=none->Q (.ref p) (aO H1 p (.lst xs))
theorem dX{x1}(h:PA X es t):PE X (.Tuple es x1 pos) (acM t):=by
 intro ak s σ H Q I hq;refine wpAny_Tuple_spliced (dD (h pos ak s σ H _ I hq) λus s1 ⟨xs,H1,I1,r,z,q⟩=>⟨by rw[← r.length];exact z,?_⟩);have hf:H1 s1.heap.objs.size=none:=I1.hok.fresh (ja _);refine⟨.ref s1.heap.objs.size,aO H1 s1.heap.objs.size (.tup xs),I1.laid (t':=s1.toks) (λb u e=>Heap.get?_push_of_some _ e) (ja _) ?_,rfl,q _ hf⟩;exact⟨z,us,r,⟨_,Heap.get?_push_size _ rfl,rfl,_,rfl⟩⟩
theorem bO(h:PA X es t):PE X (.List es pos) (NQ t):=by
 intro ak s σ H Q I hq;refine wpAny_List_spliced (dD (h pos ak s σ H _ I hq) λus s1 ⟨xs,H1,I1,r,z,q⟩=>⟨by rw[← r.length];exact z,?_⟩);have hf:H1 s1.heap.objs.size=none:=I1.hok.fresh (ja _);refine⟨.ref s1.heap.objs.size,aO H1 s1.heap.objs.size (.lst xs),I1.laid (t':=s1.toks) (λb u e=>Heap.get?_push_of_some _ e) (ja _) ?_,rfl,q _ hf⟩;exact⟨z,us,0,r,Heap.get?_push_size _ rfl⟩
end
abbrev Sp:=List V->Hp->VK->XK->Prop
abbrev O2:=List Env->Hp->Shared->XK->Value->Shared->Prop
structure KA(P:Program)(w:World)(K:PySem.W.Frag)(mg:Str->Option Value)(zt:Heap)(A:Around)(zn:List Env)(s:Shared)(H:Hp):Prop where
 frames:A.frames=some zn
 mod:Mod K mg zt
 bs:∀ b o,zt.get? b=some o->s.heap.get? b=some o/\H b=none
 Sx:zt.objs.size<=s.heap.objs.size
 xx:s.heap.FunFrames zt zn
 Ti:∀ b∈vI zn,H b=none
 hok:vN P w H s.heap
 bare:AllBare s.gens
def CE(zn:List Env)(P:Program)(w:World)(H:Hp)(s:Shared)(Q:VK)(u:Value)(s':Shared):Prop :=
 ∃ v H',s'.os=s.os/\AllBare s'.gens/\Un (vI zn) [] H H' s.heap s'.heap/\vN P w H' s'.heap/\RelV v u/\Q v H'
def CR(CX:O2)(zn:List Env)(P:Program)(w:World)(H:Hp)(s:Shared)(Q:VK)(E:XK)(r:Result)(s':Shared):Prop :=
 match r with
 | .ok (.ret u)=>CE zn P w H s Q u s'
 | .ok _=>False
 | .error e=>CX zn H s E e s'
structure aF(P:Program)(w:World)(K:PySem.W.Frag)(mg:Str->Option Value)(zt:Heap)(CX:O2)(k:Nat)(f:Addr)(fd:FuncData)(ps:List Str)(sp:Sp):Prop where
 len:∀ vs H Q E,sp vs H Q E->vs.length=ps.length
 run:∀ (A:Around) (zn:List Env) (s:Shared) (H:Hp) (args:Args) (us:List Value) (vs:List V) (Q:VK) (E:XK),kH k A->KA P w K mg zt A zn s H->BindsTo s fd args (ps.zip us)->cF vs us->sp vs H Q E->
  codeAny (model P w) A (.call (.ref f) args) (CR CX zn P w H s Q E) s
theorem KA.make{P:Program}{w:World}{K:PySem.W.Frag}{mg:Str->Option Value}{zt:Heap}{A:Around}{zn:List Env}{s:Shared}{H:Hp}(e:KA P w K mg zt A zn s H)(C:Addr)(us:List Value)(kw:List (Str × Value)) :
  KA P w K mg zt (A.under (.builtin "type.__call__" ⟨.ref C::us,kw⟩)) zn s H:=⟨by first|exact e.frames|(simpa [Around.under,Code.envs,Code.isFrame,pushEnvs] using e.frames),e.mod,e.bs,e.Sx,e.xx,e.Ti,e.hok,e.bare⟩
section
variable {X:Cx} {ak:List (Addr × Obj)} {σ:St} {H:Hp} {s s':Shared}
theorem Inv.Xc(I:Inv X ak σ H s):KA X.prog X.w X.K X.mg X.zt X.A X.stack s H :=
 ⟨I.ok.frames,I.ok.mod,I.bs,lJ I.ok.Sx I.sz,I.stack,I.yT,I.hok,I.bare⟩
theorem Inv.after{Q:VK}{u:Value}(I:Inv X ak σ H s)(h:CE X.stack X.prog X.w H s Q u s'):EP X ak σ Q u s':=by
 obtain⟨v,H',os,bare,un,hok,r,q⟩:=h;obtain⟨hh,g,d,t,os'⟩:=s';obtain rfl:os'=s.os:=os;exact⟨v,H',I.call (h':=hh) (g':=g) (d':=d) (t':=t) (ch:=[]) un hok bare (λb z=>absurd z (by simp)),r,q⟩
end
def Mg(sp:Sp)(Cn:List V)(E:XK)(t:TA):TE:=fun σ H Q=>t σ H λvs H1=>sp (vs++Cn) H1 Q E
inductive ZA(C:Addr)(m:Str)(x:V)(H:Hp)(N:Prop):Prop
 | mk (a dx:Addr) (fs:List (Str × V)) (_:x=.ref a) (_:H a=some (.ins C dx fs)) (_:fs.lookup m=none) (_:N):ZA C m x H N
def Mh(C:Addr)(m:Str)(sp:Sp)(Cn:List V)(E:XK)(ta:TE)(t:TA):TE:=fun σ H Q=>ta σ H λx H1=>ZA C m x H1 (t σ H1 λvs H2=>sp (x::(vs++Cn)) H2 Q E)
def ZC(C:Addr)(sp:Sp)(Cn:List V)(E:XK)(t:TA):TE:=fun σ H Q=>t σ H λvs H1=>∀ x dx,H1 x=none->H1 dx=none->dx≠x->
 sp (.ref x::(vs++Cn)) (aO (aO H1 dx (.own x)) x (.ins C dx [])) (λv H2=>v=.iZ/\Q (.ref x) H2) E
def Binds(K:PySem.W.Frag)(fd:FuncData)(ps:List Str)(ds:List Value):Prop :=
 ∀ (s:Shared) (us:List Value),K.In s.heap->(us++ds).length=ps.length->BindsTo s fd ⟨us,[]⟩ (ps.zip (us++ds))
theorem Binds.all{K:PySem.W.Frag}{ps:List Str}(h:∀ us:List Value,us.length=ps.length->bindArgs fd ⟨us,[]⟩=pure (ps.zip us)):Binds K fd ps []:=λs us _ hl=>by
 rw[jo]at hl ⊢;exact .of_eq (h us hl)
def rD(CX:O2)(X:Cx)(E:XK):Prop:=∀ (ak:List (Addr × Obj)) (σ:St) (H:Hp) (s:Shared) (e:Value) (s':Shared),Inv X ak σ H s->CX X.stack H s E e s'->X.xe e s'
section
variable {X:Cx} {CX:O2} {k:Nat} {f C:Addr} {fd:FuncData} {ps:List Str} {sp:Sp} {Cn:List V} {ds:List Value} {E:XK} {x m:Str} {p pos mq:Pos} {e o:Expr} {es:List Expr} {ta:TE} {t:TA}
theorem FU{σ:St}{H:Hp}{s:Shared}{Q:VK}{us:List Value}{vs:List V}(F:aF X.prog X.w X.K X.mg X.zt CX k f fd ps sp)(hr:kH k X.A)(hb:Binds X.K fd ps ds)(hd:cF Cn ds)(hx:rD CX X E)
  (I:Inv X ak σ H s) (r:cF vs us) (h:sp (vs++Cn) H Q E):wpAny (model X.prog X.w) X.A (call (.ref f) us) (EP X ak σ Q) X.xe s:=by
 have r2:cF (vs++Cn) (us++ds):=r.append hd;have hl:(us++ds).length=ps.length:=by rw[← r2.length];exact F.len _ _ _ _ h
 refine wpAny_call (codeAny_mono (F.run X.A X.stack s H ⟨us,[]⟩ (us++ds) (vs++Cn) Q E hr I.Xc (hb s us I.yS hl) r2 h) λr s' hq=>?_)
 cases r with
 | error e=>exact hx ak σ H s e s' I hq
 | ok fl =>
  cases fl with
  | ret u=>exact I.after hq
  | next=>exact False.elim hq
  | brk=>exact False.elim hq
  | cont=>exact False.elim hq
theorem Mi(F:aF X.prog X.w X.K X.mg X.zt CX k f fd ps sp)(hr:kH k X.A)(hg:Gl X x)(hm:X.mg x=some (.ref f))(hk:keepIn X.K (.ref f)=true)(hb:Binds X.K fd ps ds)(hd:cF Cn ds)(hx:rD CX X E)
  (ha:PA X (e::es) t) (HL:(x == ("__debug__":Str))=false:=by decide) (he:starEach (e::es) X.env=(false,eval e X.env)::starEach es X.env:=by rfl) (BP:(backTo pos (starEach es X.env)).any (·.1)=false:=by rfl) :
  PE X (.Call (.Name x p) (e::es) [] pos) (Mg sp Cn E t):=by
 intro ak s σ H Q I h;refine wpAny_Call_Name_kw (wH I hg hm ?_ HL);refine callWith_K (h₀:=X.zt) I.ok.mod.YJ hk (dD (ha pos ak s σ H _ I h) λus s1 ⟨vs,H1,I1,r,q⟩=>⟨I1.yS,?_⟩) he BP;exact FU F hr hb hd hx I1 r q
theorem PX(F:aF X.prog X.w X.K X.mg X.zt CX k f fd ps sp)(hr:kH k X.A)(hg:Gl X x)(hm:X.mg x=some (.ref f))(hk:keepIn X.K (.ref f)=true)(hb:Binds X.K fd ps ds)(hd:cF Cn ds)(hx:rD CX X E)
  (HL:(x == ("__debug__":Str))=false:=by decide):PE X (.Call (.Name x p) [] [] pos) (Mg sp Cn E Cm):=by
 intro ak s σ H Q I h;refine wpAny_Call_Name_kw (wH I hg hm ?_ HL);exact callWith_K0 I.yS hk (FU (us:=[]) F hr hb hd hx I .nil h)
theorem Tw{pl:Sem Bool}(he:PE X o ta)(c:DQ X.K C)(hm:Kx X.K C m f)(F:aF X.prog X.w X.K X.mg X.zt CX k f fd ps sp)(hr:kH k X.A)(hb:Binds X.K fd ps ds)(hd:cF Cn ds)(hx:rD CX X E)(ha:PA X (e::es) t)
  (zV:starEach (e::es) X.env=(false,eval e X.env)::starEach es X.env:=by rfl) (BP:(backTo pos (starEach es X.env)).any (·.1)=false:=by rfl)
  (ht:eval (.Call (.Attribute o m mq) (e::es) [] pos) X.env=(do
   let ov ← eval o X.env
   standAt mq.atName
   let (f,first) ← holding [ov] (getMethod ov m pl)
   callWith pos f first (backTo pos (starEach (e::es) X.env)) (backToKw pos (keywordEach [] X.env))):=by rfl) :
  PE X (.Call (.Attribute o m mq) (e::es) [] pos) (Mh C m sp Cn E ta t):=by
 intro ak s σ H Q I h;refine methodCall_KW (pl:=pl) (dD (he ak s σ H _ I h) λu s1 ⟨x,H1,I1,rx,a,dx,fs,ex,ea,l,q⟩=>?_) ht;subst ex;obtain rfl:u=Value.ref a:=rx;refine yh I1 ea c hm l ?_
 refine callWith_K (first:=[.ref a]) (h₀:=X.zt) I.ok.mod.YJ hm.kp (dD (ha pos ak s1 σ H1 _ I1 q) λus s2 ⟨vs,H2,I2,r,q2⟩=>⟨I2.yS,?_⟩) zV BP
 exact FU (us:=.ref a::us) (vs:=.ref a::vs) F hr hb hd hx I2 (.cons rfl r) q2
theorem PY{pl:Sem Bool}(he:PE X o ta)(c:DQ X.K C)(hm:Kx X.K C m f)(F:aF X.prog X.w X.K X.mg X.zt CX k f fd ps sp)(hr:kH k X.A)(hb:Binds X.K fd ps ds)(hd:cF Cn ds)(hx:rD CX X E)
  (ht:eval (.Call (.Attribute o m mq) [] [] pos) X.env=(do
   let ov ← eval o X.env
   standAt mq.atName
   let (f,first) ← holding [ov] (getMethod ov m pl)
   callWith pos f first (backTo pos (starEach [] X.env)) (backToKw pos (keywordEach [] X.env))):=by rfl) :
  PE X (.Call (.Attribute o m mq) [] [] pos) (Mh C m sp Cn E ta Cm):=by
 intro ak s σ H Q I h;refine methodCall_KW (pl:=pl) (dD (he ak s σ H _ I h) λu s1 ⟨x,H1,I1,rx,a,dx,fs,ex,ea,l,q⟩=>?_) ht;subst ex;obtain rfl:u=Value.ref a:=rx;refine yh I1 ea c hm l ?_
 exact callWith_K0 (first:=[.ref a]) I1.yS hm.kp (FU (us:=[.ref a]) (vs:=[.ref a]) F hr hb hd hx I1 (.cons rfl .nil) q)
structure Mk(K:PySem.W.Frag)(C f:Addr):Prop where
 makes:makesIn K C=true
 init:findIn K (.ref C) "__init__"=some (some (.ref f))
 fn:isFn K (.ref f)=true
 kp:keepIn K (.ref C)=true
theorem PZ{σ:St}{H:Hp}{s:Shared}{Q:VK}{us:List Value}{vs:List V}(M:Mk X.K C f)(F:aF X.prog X.w X.K X.mg X.zt CX k f fd ps sp)(hr:kH (k+1) X.A)(hb:Binds X.K fd ps ds)(hd:cF Cn ds)
  (hx:rD CX X E) (I:Inv X ak σ H s) (r:cF vs us)
  (h:∀ x dx,H x=none->H dx=none->dx≠x->sp (.ref x::(vs++Cn)) (aO (aO H dx (.own x)) x (.ins C dx [])) (λv H2=>v=.iZ/\Q (.ref x) H2) E) :
  wpAny (model X.prog X.w) X.A (call (.ref C) us) (EP X ak σ Q) X.xe s:=by
 have hq:=h (s.heap.objs.size+1) s.heap.objs.size (I.hok.fresh (Nat.le_succ _)) (I.hok.fresh (ja _)) (pR (Nat.lt_succ_self _));have I2:=Inv.made (C:=C) I;have r2:cF (V.ref (s.heap.objs.size+1)::(vs++Cn)) (Value.ref (s.heap.objs.size+1)::(us++ds)):=.cons rfl (r.append hd)
 have hl:(Value.ref (s.heap.objs.size+1)::us++ds).length=ps.length:=by
  have e:=r2.length;rw[F.len _ _ _ _ hq]at e;exact e.symm
 refine wpAny_call (PU (f:=f) I.yS M.makes M.init (beq_iff_eq.mp M.fn) (codeAny_mono (F.run _ X.stack _ _ ⟨Value.ref (s.heap.objs.size+1)::us,[]⟩ (Value.ref (s.heap.objs.size+1)::(us++ds)) _ _ E (hr.make C us []) (I2.Xc.make C us []) (hb _ (Value.ref (s.heap.objs.size+1)::us) I2.yS hl) r2 hq) λr s' Xd=>?_))
 cases r with
 | error e=>exact hx ak σ _ _ e s' I2 Xd
 | ok fl =>
  cases fl with
  | ret u =>
   obtain⟨v,H',I3,rv,ev,q3⟩:=I2.after Xd;subst ev;exact⟨rv,⟨V.ref (s.heap.objs.size+1),H',I3,rfl,q3⟩⟩
  | next=>exact False.elim Xd
  | brk=>exact False.elim Xd
  | cont=>exact False.elim Xd
theorem ug(M:Mk X.K C f)(F:aF X.prog X.w X.K X.mg X.zt CX k f fd ps sp)(hr:kH (k+1) X.A)(hg:Gl X x)(hm:X.mg x=some (.ref C))(hb:Binds X.K fd ps ds)(hd:cF Cn ds)(hx:rD CX X E)
  (HL:(x == ("__debug__":Str))=false:=by decide):PE X (.Call (.Name x p) [] [] pos) (ZC C sp Cn E Cm):=by
 intro ak s σ H Q I h;refine wpAny_Call_Name_kw (wH I hg hm ?_ HL);exact callWith_K0 I.yS M.kp (PZ (us:=[]) M F hr hb hd hx I .nil h)
end
structure aH(N P:List Str)(sc:Scope):Prop where
 kind:sc.kind=.function
 co:sc.isCoroutine=false
 gen:sc.isGenerator=false
 nd:N.Nodup
 pre:N.take P.length=P
 par:∀ x∈P,sc.names.lookup x=some .local\/sc.names.lookup x=some .cell
 Xe:∀ y∈sc.names,y.2≠.free
theorem EA{kindOf:Str->Option NameKind}{x:Str}:∀ {binds:List (Str × Value)} {m:Str->Option Value},(∀ v,(x,v)∉binds)->bindL kindOf binds m x=m x
 | [],_,_=>rfl
 | (n,v)::r,m,h=>by
  unfold bindL;rw[EA λw hw=>h w (sH _ hw)];split
  ·have:x≠n:=by rintro rfl;exact h v yR
   simp[this]
  ·rfl
theorem EB{kindOf:Str->Option NameKind}{x:Str}:∀ {binds:List (Str × Value)} {m:Str->Option Value},(∀ v,(x,v)∉binds)->bindC kindOf binds m x=m x
 | [],_,_=>rfl
 | (n,v)::r,m,h=>by
  unfold bindC;rw[EB λw hw=>h w (sH _ hw)];split
  ·rfl
  ·have:x≠n:=by rintro rfl;exact h v yR
   simp[this]
theorem EC{kindOf:Str->Option NameKind}{x:Str}{v:Value}:∀ {P:List Str} {vs:List Value} {i:Nat} {m:Str->Option Value},P.Nodup->P[i]?=some x->vs[i]?=some v->kindOf x=some .local->
  bindL kindOf (P.zip vs) m x=some v
 | [],_,_,_,_,h,_,_=>by simp at h
 | _::_,[],_,_,_,_,h,_=>by simp at h
 | p::P,w::vs,0,m,nd,h1,h2,hk=>by
  simp at h1 h2;subst h1;subst h2;show bindL kindOf ((p,w)::P.zip vs) m p=_;unfold bindL;rw[EA λv hv=>(List.nodup_cons.mp nd).1 (List.of_mem_zip hv).1,if_pos hk];simp
 | p::P,w::vs,i+1,m,nd,h1,h2,hk=>by
  show bindL kindOf ((p,w)::P.zip vs) m x=_;unfold bindL;exact EC (i:=i) (List.nodup_cons.mp nd).2 (by simpa using h1) (by simpa using h2) hk
theorem ED{kindOf:Str->Option NameKind}{x:Str}{v:Value}:∀ {P:List Str} {vs:List Value} {i:Nat} {m:Str->Option Value},P.Nodup->P[i]?=some x->vs[i]?=some v->kindOf x≠some .local->
  bindC kindOf (P.zip vs) m x=some v
 | [],_,_,_,_,h,_,_=>by simp at h
 | _::_,[],_,_,_,_,h,_=>by simp at h
 | p::P,w::vs,0,m,nd,h1,h2,hk=>by
  simp at h1 h2;subst h1;subst h2;show bindC kindOf ((p,w)::P.zip vs) m p=_;unfold bindC;rw[EB λv hv=>(List.nodup_cons.mp nd).1 (List.of_mem_zip hv).1,if_neg hk];simp
 | p::P,w::vs,i+1,m,nd,h1,h2,hk=>by
  show bindC kindOf ((p,w)::P.zip vs) m x=_;unfold bindC;exact ED (i:=i) (List.nodup_cons.mp nd).2 (by simpa using h1) (by simpa using h2) hk
def start(N:List Str)(vs:List V):St:=vs.map some++List.replicate (N.length-vs.length) none
def HM(CX:O2)(P:Program)(w:World)(K:PySem.W.Frag)(mg:Str->Option Value)(zt:Heap)(N:List Str)(dG:Str)(scope:Scope)(f:Addr)(cd:Value)(A:Around)(zn:List Env)(s:Shared)(H:Hp)(E:XK):Cx where
 prog:=P
 w:=w
 K:=K
 mg:=mg
 zt:=zt
 A:=A.deeper (envOfC dG scope s.heap.objs.size f cd)
 N:=N
 s₀:=s
 H₀:=H
 env:=envOfC dG scope s.heap.objs.size f cd
 zn:=zn
 stack:=envOfC dG scope s.heap.objs.size f cd::zn
 ex:=[]
 calm:=true
 fn:=λ_=>true
 pn:=[]
 xe:=λe s'=>wpAny (model P w) (A.deeper (envOfC dG scope s.heap.objs.size f cd)) (leaving (envOfC dG scope s.heap.objs.size f cd) e) (λ_ s''=>CX zn H s E e s'') (λe' s''=>CX zn H s E e' s'') s'
theorem HN{sc:Scope}{n:Nat}{x:Str}(h:sc.names.lookup x=some .cell):∃ c,(cellsFrom n sc.names []).lookup x=some c:=by
 have q:=cellsFrom_some sc.names n [] (.inl h);exact Option.isSome_iff_exists.mp q
theorem NR{CX:O2}{P:Program}{w:World}{K:PySem.W.Frag}{mg:Str->Option Value}{zt:Heap}{N ps:List Str}{dG:Str}{scope:Scope}{f:Addr}{cd:Value}{A:Around}{zn:List Env}{s s1:Shared}{H:Hp}{E:XK}{us:List Value}{vs:List V}
  (S:aH N ps scope) (hd:A.handled=none) (e0:KA P w K mg zt A zn s H) (hl:vs.length=ps.length) (r:cF vs us)
  (x:InCallC s s.heap.objs.size (bindL (envOfC dG scope s.heap.objs.size f cd).kindOf (ps.zip us) λ_=>none) (cellsFrom (s.heap.objs.size+1) scope.names []) (bindC (envOfC dG scope s.heap.objs.size f cd).kindOf (ps.zip us) λ_=>none) s1) :
  Inv (HM CX P w K mg zt N dG scope f cd A zn s H E) [] (start N vs) H s1:=by
 have BP:ps.length<=N.length:=by have:=congrArg List.length S.pre;rw[jV]at this;lia
 obtain⟨h1,tk,rfl,hk⟩:=x.done;have ZD:∀ b:Addr,b∉(HM CX P w K mg zt N dG scope f cd A zn s H E).ex:=λb z=>absurd (show b∈([]:List Addr) from z) (by simp)
 refine⟨⟨e0.mod,S.kind,rfl,rfl,ja _,λy z c h1 h2=>?_,λy hy=>?_,λy c _ h=>?_,λ_=>hd,Around.frames_deeper e0.frames,.inr ⟨rfl,rfl⟩,λb z=>absurd z (ZD b),e0.bs,e0.Sx,λb _ _=>ZD b,λb z=>absurd z (ZD b),e0.xx,e0.Ti⟩,
  rfl,e0.bare,Un.kept hk,⟨_,x.toInCall.ns,λi y v h1 h2 h3=>?_⟩,λy c h=>⟨_,x.cell y c h⟩,e0.hok.fresh (ja _),λy c h=>?_,λp hp=>absurd (show p∈([]:List (Addr × Obj)) from hp) (by simp),e0.hok.kept hk,?_⟩
 ·exact name_of_addr x.apart (PySem.mem_of_lookup h1) (PySem.mem_of_lookup h2)
 ·have hy:scope.names.lookup y=some .cell\/scope.names.lookup y=some .free:=hy;rcases hy with hy|hy
  ·exact HN hy
  ·exact absurd rfl (S.Xe _ (PySem.mem_of_lookup hy))
 ·exact j9 (x.above y c (PySem.mem_of_lookup h))
 ·have hi:i<vs.length:=by
   unfold start at h2;by_cases hi:i<vs.length
   ·exact hi
   ·rw[List.getElem?_append_right (by simpa using hi)]at h2;rw[List.getElem?_replicate]at h2
    split at h2 <;> cases h2
  have ha:vs[i]?=some v:=by
   unfold start at h2;rw[List.getElem?_append_left (by simpa using hi),kF]at h2
   cases e:vs[i]? with
   | none=>rw[e]at h2;cases h2
   | some a=>rw[e]at h2;cases h2;rfl
  obtain⟨u,hu,rv⟩:=r.get ha
  have hp:ps[i]?=some y:=by
   rw[← S.pre,List.getElem?_take_of_lt (by lia)];exact h1
  have ndP:ps.Nodup:=by rw[← S.pre];exact S.nd.sublist (List.take_sublist _ _)
  refine⟨u,rv,?_⟩;rcases S.par y (vf hp) with k|k
  ·exact .inl ⟨k,EC ndP hp hu k⟩
  ·obtain⟨c,e⟩:=HN (n:=s.heap.objs.size+1) k;refine .inr ⟨.inl k,c,e,?_⟩;have q:=x.cell y c e;rw[ED ndP hp hu (by show scope.names.lookup y≠_;rw[k];decide)]at q;exact q
 ·exact e0.hok.fresh (j9 (x.above y c (PySem.mem_of_lookup h)))
 ·unfold start;show _=N.length;rw[dM,cR,Ca];lia
theorem Vt{CX:O2}{P:Program}{w:World}{K:PySem.W.Frag}{mg:Str->Option Value}{zt:Heap}{k:Nat}{f:Addr}{name dG:Str}{params:Arguments}{scope:Scope}{dV kV zY pm dH ct oc:Value}{an od:Option Addr}
  {NS:Array (Option Value)} {N ps:List Str} {sp:Sp} (lk:K.lookup f=some ⟨oc,od,.func (fnOf name dG params body scope dV kV zY pm an dH ct),NS⟩) (NI:codeIn K dH dG=true) (S:aH N ps scope)
  (len:∀ vs H Q E,sp vs H Q E->vs.length=ps.length)
  (yW:∀ (A:Around) (zn:List Env) (s:Shared) (H:Hp) (vs:List V) (Q:VK) (E:XK),kH k (A.deeper (envOfC dG scope s.heap.objs.size f dH))->sp vs H Q E->
   ∃ t,Hg (HM CX P w K mg zt N dG scope f dH A zn s H E) body t/\t { nx:=λ_ H'=>Q .iZ H',rt:=Q } (start N vs) H) :
  aF P w K mg zt CX (k+1) f (fnOf name dG params body scope dV kV zY pm an dH ct) ps sp:=by
 refine⟨len,λA zn s H args us vs Q E hr e0 hb r KC=>?_⟩;have hl:=len _ _ _ _ KC;have KX:K.In s.heap:=e0.mod.YJ.keeps λb o e=>(e0.bs b o e).1;have lim:s.heap.NoLimit:=e0.mod.nolimit.keeps λb o e=>(e0.bs b o e).1
 have hkind:∀ y∈ps.zip us,scope.names.lookup y.1=some .local\/(scope.names.lookup y.1=some .cell/\((cellsFrom (s.heap.objs.size+1) scope.names []).lookup y.1).isSome=true):=λ⟨n,v⟩ hy=>by
  rcases S.par n (List.of_mem_zip hy).1 with q|q
  ·exact .inl q
  ·exact .inr ⟨q,cellsFrom_some _ _ _ (.inl q)⟩
 refine codeAny_call_function hr.depth (KX _ _ lk) rfl S.co S.gen rfl (PySem.W.codeRec_of KX NI) (hb _ _ _ _ ?_);refine wpAny_newFunctionEnv_cells S.kind hkind λenv he s1 x=>?_;subst he;refine⟨lim.keeps x.toInCall.keep,codeAny_func ?_⟩;obtain⟨t,ht,hq⟩:=yW A zn s H vs Q E (hr.deeper _) KC;have I:Inv (HM CX P w K mg zt N dG scope f dH A zn s H E) [] (start N vs) H s1:=NR S hr.hd e0 hl r x;refine wpAny_mono (ht [] s1 (start N vs) H _ I hq) (λfl s' hs=>?_) λe s' hs=>hs;have qo:∀ {σ':St} {H':Hp} {v:V} {u:Value},Inv (HM CX P w K mg zt N dG scope f dH A zn s H E) [] σ' H' s'->RelV v u->Q v H'->CE zn P w H s Q u s' := λ{σ' H' v u} J rv q=>⟨v,H',J.os,J.bare,J.zt,J.hok,rv,q⟩
 cases fl with
 | ret u =>
  obtain⟨v,σ',H',J,rv,q⟩:=hs;exact qo J rv q
 | next =>
  obtain⟨σ',H',J,q⟩:=hs;exact qo (v:=V.iZ) (u:=Value.none) J rfl q
 | brk =>
  obtain⟨_,_,_,q⟩:=hs;exact False.elim q
 | cont =>
  obtain⟨_,_,_,q⟩:=hs;exact False.elim q
end L2
namespace L2
open Spec Rows
section
variable {X:Cx} {x:Str} {p pos:Pos} {e:Expr} {es:List Expr} {t:TA} {id T:String} {r:List V->Hp->VK->Prop}
def tCB(r:List V->Hp->VK->Prop)(t:TA):TE:=fun σ H Q=>t σ H λvs H1=>r vs H1 Q
theorem cL(hc:pS X (.builtin id) r)(hg:Gl X x)(hm:X.mg x=none)(hv:bootBuiltins x=some (.builtin id))(ha:PA X (e::es) t)(hn:x≠"__name__":=by decide)(HL:(x == ("__debug__":Str))=false:=by decide)
  (he:starEach (e::es) X.env=(false,eval e X.env)::starEach es X.env:=by rfl) (BP:(backTo pos (starEach es X.env)).any (·.1)=false:=by rfl):PE X (.Call (.Name x p) (e::es) [] pos) (tCB r t):=by
 intro ak s σ H Q I h;refine wpAny_Call_Name_kw (zT I hg hm hv ?_ hn HL);exact PyProof.Rows.callWith_builtin1 (dD (ha pos ak s σ H _ I h) λus s1 ⟨vs,H1,I1,r1,q1⟩=>hc ak s1 σ H1 vs us Q I1 r1 q1) he BP
theorem gJ(hc:pS X (.type T) r)(hg:Gl X x)(hm:X.mg x=none)(hv:bootBuiltins x=some (.type T))(ha:PA X (e::es) t)(hn:x≠"__name__":=by decide)(HL:(x == ("__debug__":Str))=false:=by decide)
  (he:starEach (e::es) X.env=(false,eval e X.env)::starEach es X.env:=by rfl) (BP:(backTo pos (starEach es X.env)).any (·.1)=false:=by rfl):PE X (.Call (.Name x p) (e::es) [] pos) (tCB r t):=by
 intro ak s σ H Q I h;refine wpAny_Call_Name_kw (zT I hg hm hv ?_ hn HL);exact PyProof.Rows.callWith_type1 (dD (ha pos ak s σ H _ I h) λus s1 ⟨vs,H1,I1,r1,q1⟩=>hc ak s1 σ H1 vs us Q I1 r1 q1) he BP
end
end L2
namespace HT
open Rows
section
variable {prog:Program} {w:World} {A:Around} {E:Value->Shared->Prop} {s:Shared}
def mK(n d:Nat):Option Int->Nat
 | none=>d
 | some v=>if v<0 then (v+(n:Int)).toNat else min v.toNat n
theorem Mj(n d k:Nat):mK n d (some (k:Int))=min k n:=by
 show (if (k:Int)<0 then ((k:Int)+(n:Int)).toNat else min (k:Int).toNat n)=min k n;rw[if_neg (by lia),Int.toNat_natCast]
theorem Xf(n d:Nat)(hd:d<=n)(o:Option Int):mK n d o<=n:=by
 cases o with
 | none=>exact hd
 | some v =>
  show (if v<0 then (v+(n:Int)).toNat else min v.toNat n)<=n;by_cases hv:v<0
  ·rw[if_pos hv];lia
  ·rw[if_neg hv];exact Nat.min_le_right _ _
theorem Ml(v:Int)(n d:Nat):(if v<0 then max (v+(n:Int)) 0 else min v (n:Int))=((mK n d (some v):Nat):Int):=by
 show (if v<0 then max (v+(n:Int)) 0 else min v (n:Int))=(((if v<0 then (v+(n:Int)).toNat else min v.toNat n):Nat):Int);by_cases hv:v<0
 ·simp only[if_pos hv];lia
 ·simp only[if_neg hv];lia
theorem KD(lo hi:Option Int)(n:Nat):Builtin.Slice.sliceAdjust lo hi 1 (n:Int)=(((mK n 0 lo:Nat):Int),((mK n n hi:Nat):Int)):=by
 have h1:¬ ((1:Int)<0):=by lia
 unfold Builtin.Slice.sliceAdjust;simp only[h1,if_false];refine Prod.ext ?_ ?_
 ·cases lo with
  | none=>rfl
  | some v=>exact Ml v n 0
 ·cases hi with
  | none=>rfl
  | some v=>exact Ml v n n
theorem KG(i j:Nat):Builtin.Slice.slicePlaces (i:Int) (j:Int) 1=j-i:=by
 unfold Builtin.Slice.slicePlaces;have h1:(1:Int) > 0:=by lia
 simp only[h1,if_true,Int.ediv_one]
 split <;> lia
theorem Co{v:Value}{o:Option Int}{Q:Option Int->Shared->Prop}(p:IsPart v o)(h:Q o s):wpAny (model prog w) A (Builtin.Slice.slicePartIndex v) Q E s:=by
 cases p with
 | none=>exact slicePart_none h
 | int i t=>exact slicePart_int h
theorem zZ{sl:Addr}{vl vu:Value}{lo hi:Option Int}{n:Nat}{Q:Int × Int × Nat->Shared->Prop}(hs:s.heap.IsSliceOf sl vl vu .none)(pl:IsPart vl lo)(pu:IsPart vu hi)
  (h:Q (((mK n 0 lo:Nat):Int),1,mK n n hi-mK n 0 lo) s):wpAny (model prog w) A (Builtin.Slice.sliceApplied (.ref sl) (pure (n:Int))) Q E s:=by
 obtain⟨os,hos,Tz,Mm⟩:=id hs;unfold Builtin.Slice.sliceApplied Builtin.Slice.sliceFields;refine wpAny_bind (wpAny_bind (wpAny_field hos Mm (x:=vl) rfl (wpAny_bind (wpAny_field hos Mm (x:=vu) rfl (wpAny_bind (wpAny_field hos Mm (x:=.none) rfl (wpAny_pure ?_)))))));refine wpAny_bind (slicePart_none ?_);show wpAny _ _ (if ((1:Int) == 0)=true then _ else _) _ _ s;rw[if_neg (by decide)];refine wpAny_bind (Co pl (wpAny_bind (Co pu (wpAny_bind (wpAny_pure ?_)))));show wpAny _ _ (match Builtin.Slice.sliceAdjust lo hi 1 (n:Int) with|(lo,hi)=>pure (lo,(1:Int),Builtin.Slice.slicePlaces lo hi 1)) _ _ s;rw[KD lo hi n];show wpAny _ _ (pure (((mK n 0 lo:Nat):Int),(1:Int),Builtin.Slice.slicePlaces ((mK n 0 lo:Nat):Int) ((mK n n hi:Nat):Int) 1)) _ _ s;rw[KG];exact wpAny_pure h
theorem P0(xs:Array Value)(i k:Nat):((List.range k).filterMap λ(m:Nat)=>xs[((i:Int)+(m:Int)*1).toNat]?).toArray=((xs.toList.drop i).take k).toArray:=by
 have e:(λ(m:Nat)=>xs[((i:Int)+(m:Int)*1).toNat]?)=λm=>xs[i+m]?:=by
  funext m;have:((i:Int)+(m:Int)*1).toNat=i+m:=by lia
  rw[this]
 rw[e];have:=pick_run xs i k;rw[List.filterMap_map]at this;have e2:((λx=>xs[x]?) ∘ λx=>i+x)=λm=>xs[i+m]?:=rfl;rw[e2]at this;rw[this]
theorem yX{t sl:Addr}{items:Array Value}{vl vu:Value}{lo hi:Option Int}{Q:Value->Shared->Prop}(ht:IsTup s.heap t items)(hs:s.heap.IsSliceOf sl vl vu .none)(pl:IsPart vl lo)(pu:IsPart vu hi)
  (hw:¬ (mK items.size 0 lo=0/\mK items.size items.size hi=items.size))
  (h:Q (.ref s.heap.objs.size) { s with heap:=s.heap.push { cls:=.type "tuple",data:=.seq ((items.toList.drop (mK items.size 0 lo)).take (mK items.size items.size hi-mK items.size 0 lo)).toArray } })
  (hsz:items.size<=sizeLine):wpAny (model prog w) A (getItem (.ref t) (.ref sl)) Q E s:=by
 have Mn:sizeOk (.seq ((items.toList.drop (mK items.size 0 lo)).take (mK items.size items.size hi-mK items.size 0 lo)).toArray):=by
  show ((items.toList.drop (mK items.size 0 lo)).take (mK items.size items.size hi-mK items.size 0 lo)).toArray.size<=sizeLine;rw[kC,jV,xq,Array.length_toList];lia
 have hj:mK items.size items.size hi<=items.size:=Xf _ _ (ja _) hi;obtain⟨os,hos,Tz,Mm⟩:=id hs;have hTs:s.TypeIs (.ref sl) "slice":=⟨os,hos,Tz⟩;unfold getItem
 try with_reducible refine wpAny_holding ?_
 first|refine wpAny_bind (wpAny_pure ?_)|skip
 refine wpAny_bind (wpAny_sequenceKey ht.typeIs (by decide) ?_);refine wpAny_bind (wpAny_callSpecial?_slot (name:=Str.ofString "__getitem__") ht.typeIs PyProof.Rows.slot_tuple_getitem (wpAny_call_entry PyProof.Rows.slot_tuple_getitem ht.typeIs entry_tuple_getitem ?_ (args_tuple_getitem _ _)));show wpAny _ _ (Builtin.Tuple.tupleItemsOf (.ref t) >>= _) _ _ s;refine wpAny_bind (tupleItemsOf_ ht ?_);refine wpAny_bind (wpAny_typeOf hTs ?_);rw[if_pos (by decide)];refine wpAny_bind (zZ hs pl pu ?_)
 have Vu:¬ ((((mK items.size 0 lo:Nat):Int) == 0&&(1:Int) == 1&&(mK items.size items.size hi-mK items.size 0 lo) == items.size)=true):=by
  intro q;rw[Bool.and_eq_true,Bool.and_eq_true]at q;have q1:((mK items.size 0 lo:Nat):Int)=0:=eq_of_beq q.1.1;have q2:mK items.size items.size hi-mK items.size 0 lo=items.size:=eq_of_beq q.2;exact hw ⟨by lia,by lia⟩
 show wpAny _ _ (if (((mK items.size 0 lo:Nat):Int) == 0&&(1:Int) == 1&&(mK items.size items.size hi-mK items.size 0 lo) == items.size)=true then _ else _) _ _ s;rw[if_neg Vu,P0]
 first
  | exact wpAny_bind (m:=Builtin.Tuple.tupleExact _) (wpAny_newObj_type (wpAny_pure ⟨_,rfl,wpAny_pure h⟩) Mn)
  | exact wpAny_bind (m:=Builtin.Tuple.tupleExact _) (wpAny_newObj_type (wpAny_bind (wpAny_pure (wpAny_pure ⟨_,rfl,wpAny_pure h⟩))) Mn)
  | exact wpAny_bind (wpAny_bind (m:=Builtin.Tuple.tupleExact _) (wpAny_newObj_type (wpAny_pure (wpAny_pure ⟨_,rfl,wpAny_pure h⟩)) Mn))
  | exact wpAny_bind (wpAny_bind (m:=Builtin.Tuple.tupleExact _) (wpAny_newObj_type (wpAny_pure ⟨_,rfl,wpAny_pure h⟩) Mn))
end
end HT
namespace L2
open Spec Rows
abbrev TO:=St->Hp->(Option Int->Hp->Prop)->Prop
def PO(X:Cx)(e:Option Expr)(t:TO):Prop :=
 ∀ (ak:List (Addr × Obj)) (s:Shared) (σ:St) (H:Hp) (Q:Option Int->Hp->Prop),Inv X ak σ H s->t σ H Q->
  wpAny (model X.prog X.w) X.A (evalPart e X.env) (λu s'=>∃ o H',Inv X ak σ H' s'/\IsPart u o/\Q o H') X.xe s
def TF:TO:=λ_ H Q=>Q none H
def ZE(t:TE):TO:=fun σ H Q=>t σ H λx H1=>isI x H1 Q
theorem intsAre_of{ns:List Int}:∀ {us:List Value},cF (ns.map V.int) us->IntsAre us ns:=by
 induction ns with
 | nil=>intro us r;rw[List.map_nil]at r;cases r;exact .nil
 | cons n ns ih =>
  intro us r;rw[oJ]at r
  cases r with
  | cons r1 r2 =>
   obtain⟨t,e⟩:=r1;subst e;exact .cons n t (ih r2)
section
variable {X:Cx} {e:Expr} {te:TE} {lo hi:Option Expr} {tl th:TO} {pos p2:Pos}
theorem sO:PO X none TF:=by
 intro ak s σ H Q I h;rw[evalPart_none];exact wpAny_pure ⟨none,H,I,.none,h⟩
theorem mL(h:PE X e te):PO X (some e) (ZE te):=by
 intro ak s σ H Q I hw;rw[evalPart_some];refine dD (h ak s σ H _ I hw) λu s1 Kn=>?_;obtain⟨x,H1,I1,r1,q1⟩:=Kn;obtain⟨i,rfl,q⟩:=q1;obtain⟨t,rfl⟩:=r1;exact⟨some i,H1,I1,.int i t,q⟩
def SlR(X:Cx)(r:V->Option Int->Option Int->Hp->VK->Prop):Prop :=
 ∀ (ak:List (Addr × Obj)) (s:Shared) (σ:St) (H:Hp) (x:V) (v vl vu:Value) (lo hi:Option Int) (sl:Addr) (Q:VK),Inv X ak σ H s->RelV x v->s.heap.IsSliceOf sl vl vu .none->IsPart vl lo->IsPart vu hi->r x lo hi H Q->
  ∃ T id,typeLookup (.type T) "__getitem__"=pure (some (.builtin id))/\s.TypeIs v T/\wpAny (model X.prog X.w) X.A (getItem v (.ref sl)) (EP X ak σ Q) X.xe s
def tSl(r:V->Option Int->Option Int->Hp->VK->Prop)(te:TE)(tl th:TO):TE:=fun σ H Q=>te σ H λx H1=>tl σ H1 λl H2=>th σ H2 λu H3=>r x l u H3 Q
theorem mC{r:V->Option Int->Option Int->Hp->VK->Prop}(hr:SlR X r)(he:PE X e te)(hl:PO X lo tl)(hu:PO X hi th):PE X (.Subscript e (.Slice lo hi none p2) pos) (tSl r te tl th):=by
 intro ak s σ H Q I h;refine Subscript_ (dD (he ak s σ H _ I h) λv s1 DX=>?_);obtain⟨x,H1,I1,r1,q1⟩:=DX;refine wpAny_Slice (dD (hl ak s1 σ H1 _ I1 q1) λvl s2 ⟨l,H2,I2,pl,q2⟩=>dD (hu ak s2 σ H2 _ I2 q2) λvu s3 HC=>?_);obtain⟨u,H3,I3,pu,q3⟩:=HC;rw[evalPart_none];refine wpAny_pure ?_;have I4:Inv X ak σ H3 { s3 with heap:=s3.heap.push { cls:=.type "slice",data:=.fields #[vl,vu,.none] } }:=I3.kept (t':=s3.toks) λb ob q=>Heap.get?_push_of_some _ q;obtain⟨T,id,hT,ht,hg⟩:=hr ak { s3 with heap:=s3.heap.push { cls:=.type "slice",data:=.fields #[vl,vu,.none] } } σ H3 x v vl vu l u s3.heap.objs.size Q I4 r1 (Heap.IsSliceOf.new ..) pl pu q3;show wpAny (model X.prog X.w) X.A (subscriptTail e (.Slice lo hi none p2) v (.ref s3.heap.objs.size)) (EP X ak σ Q) X.xe { s3 with heap:=s3.heap.push { cls:=.type "slice",data:=.fields #[vl,vu,.none] } };exact tail_any (ops:=[.ref s3.heap.objs.size,v]) ht hT hg (by with_unfolding_all rfl)
def pU(xs:List V)(lo hi:Option Int):List V:=(xs.drop (HT.mK xs.length 0 lo)).take (HT.mK xs.length xs.length hi-HT.mK xs.length 0 lo)
theorem AX(xs:List V)(lo hi:Option Int):(pU xs lo hi).length<=xs.length:=by
 unfold pU;rw[jV,xq];lia
def acR(K:PySem.W.Frag):V->Option Int->Option Int->Hp->VK->Prop:=λx lo hi H Q=>∃ a xs,x=.ref a/\eL K H a xs/\
 ¬ (HT.mK xs.length 0 lo=0/\HT.mK xs.length xs.length hi=xs.length)/\∀ p,H p=none->Q (.ref p) (aO H p (.tup (pU xs lo hi)))
theorem Xg:SlR X (acR X.K):=by
 intro ak s σ H x v vl vu lo hi sl Q I rx hs pl pu h;obtain⟨a,xs,rfl,hx,hw,q⟩:=h;cases rx;obtain⟨aQ,r,ht,hz⟩:=I.tuple hx;have gj:aQ.toArray.size=xs.length:=by rw[kC];exact r.length.symm
 refine⟨"tuple",_,PyProof.Rows.slot_tuple_getitem.lookup,ht.typeIs,?_⟩;refine HT.yX ht hs pl pu (by rw[gj];exact hw) ?_ (by rw[gj];exact hz);rw[gj];refine⟨.ref s.heap.objs.size,_,I.laid (t':=s.toks) (o:=.tup (pU xs lo hi)) (λb ob q=>Heap.get?_push_of_some _ q) (ja _) ?_,rfl,q _ (I.hok.fresh (ja _))⟩;exact⟨Nat.le_trans (AX xs lo hi) hz,_,(r.drop (HT.mK xs.length 0 lo)).take (HT.mK xs.length xs.length hi-HT.mK xs.length 0 lo),IsTup.new _ _⟩
end
end L2
namespace L2
open Spec Rows
def Mp(n:Nat)(i:Int):Option Nat:=if 0<=i then (if i<n then some i.toNat else none) else if -(n:Int)<=i then some (i+n).toNat else none
def vC{α:Type}(xs:List α)(i:Int):Option α:=(Mp xs.length i).bind λj=>xs[j]?
theorem Mq{n:Nat}{i:Int}{j:Nat}(h:Mp n i=some j):seqIndex? i n=some j/\j<n/\-(n:Int)<=i/\i<n:=by
 unfold Mp at h;by_cases h0:0<=i
 ·rw[if_pos h0]at h;by_cases h1:i<n
  ·rw[if_pos h1]at h;have e:i.toNat=j:=vM h;exact⟨by rw[seqIndex_of h0 h1,e],by lia,by lia,h1⟩
  ·rw[if_neg h1]at h;cases h
 ·rw[if_neg h0]at h;by_cases h1:-(n:Int)<=i
  ·rw[if_pos h1]at h;have e:(i+n).toNat=j:=vM h;exact⟨by rw[seqIndex_neg (by lia) h1,e],by lia,h1,by lia⟩
  ·rw[if_neg h1]at h;cases h
theorem FW{α:Type}{xs:List α}{i:Int}{v:α}(h:vC xs i=some v):∃ j,seqIndex? i xs.length=some j/\xs[j]?=some v/\j<xs.length/\-(xs.length:Int)<=i/\i<xs.length:=by
 unfold vC at h
 cases e:Mp xs.length i with
 | none=>rw[e]at h;cases h
 | some j =>
  rw[e]at h;obtain⟨h1,h2,h3,h4⟩:=Mq e;exact⟨j,h1,h,h2,h3,h4⟩
theorem gz{α:Type}{xs:List α}{j:Nat}{v:α}(h:xs[j]?=some v):vC xs (j:Int)=some v:=by
 have hj:j<xs.length:=(List.getElem?_eq_some_iff.mp h).1
 have e:Mp xs.length (j:Int)=some j:=by
  unfold Mp;rw[if_pos (by lia),if_pos (by lia)];simp
 unfold vC;rw[e];exact h
theorem P1{α:Type}(xs:List α)(v:α):vC (xs++[v]) (-1)=some v:=by
 have hl:(xs++[v]).length=xs.length+1:=by simp
 have e:Mp (xs++[v]).length (-1)=some xs.length:=by
  unfold Mp;rw[hl,if_neg (by decide),if_pos (by lia)];congr 1;lia
 unfold vC;rw[e];show (xs++[v])[xs.length]?=some v;simp
def Mr(b:Expr):Prop:=∀ o i,subscripted b false o i=operate [o,i] (getItem o i)
def Xh(X:Cx)(r:R2):Prop :=
 ∀ (value xG:Expr) (ak:List (Addr × Obj)) (s:Shared) (σ:St) (H:Hp) (x y:V) (v u:Value) (Q:VK),Inv X ak σ H s->RelV x v->RelV y u->r x y H Q->
  subscripted xG false v u=operate [v,u] (getItem v u)->wpAny (model X.prog X.w) X.A (subscriptTail value xG v u) (EP X ak σ Q) X.xe s
def MtR(X:Cx)(id:String)(r:V->List V->Hp->VK->Prop):Prop :=
 ∀ (ak:List (Addr × Obj)) (s:Shared) (σ:St) (H:Hp) (x:V) (xs:List V) (v:Value) (us:List Value) (Q:VK),Inv X ak σ H s->RelV x v->cF xs us->r x xs H Q->
  wpAny (model X.prog X.w) X.A (call (.builtin id) (v::us)) (EP X ak σ Q) X.xe s
section
variable {X:Cx} {a b:Expr} {ta tb:TE} {pos:Pos}
theorem ZF{r:R2}(hr:Xh X r)(ha:PE X a ta)(hb:PE X b tb)(hs:Mr b):PE X (.Subscript a b pos) (Zt r ta tb):=by
 intro ak s σ H Q I h;exact Subscript_ (WZ ha hb I h λv u s2 x y H2 I2 rx ry q=>hr a b ak s2 σ H2 x y v u Q I2 rx ry q (hs _ _))
inductive ZG(K:PySem.W.Frag)(x y:V)(H:Hp)(Q:VK):Prop
 | mk (p:Addr) (xs:List V) (i:Int) (v:V) (_:x=.ref p) (_:y=.int i) (_:bQ K H p xs) (_:vC xs i=some v) (_:Q v H)
inductive ZH(K:PySem.W.Frag)(x y:V)(H:Hp)(Q:VK):Prop
 | mk (p:Addr) (xs:List V) (i:Int) (v:V) (_:x=.ref p) (_:y=.int i) (_:eL K H p xs) (_:vC xs i=some v) (_:Q v H)
def acS:R2:=λx y H Q=>∃ z i c,x=.str z/\y=.int i/\z.length<=sizeLine/\vC z.cps.toList i=some c/\Q (.str ⟨#[c]⟩) H
theorem bW:Xh X (ZG X.K):=by
 intro value xG ak s σ H x y v u Q I rx ry h hs;obtain⟨p,xs,i,z,rfl,rfl,hq,he,q⟩:=h;cases rx;obtain⟨t,rfl⟩:=ry;obtain⟨aQ,r,pl,hz⟩:=I.list hq;obtain⟨j,h1,h2,h3,h4,h5⟩:=FW he;obtain⟨w,ew,rE⟩:=r.get h2;have hl:=r.length;have hn:=yg;have qo:EP X ak σ Q w s:=⟨z,H,I,rE,q⟩;by_cases h0:0<=i
 ·have hj:i.toNat=j:=by
   rw[seqIndex_of h0 h5]at h1;exact vM h1
  exact item_listR pl.isList h0 (by lia) (by rw[hj];simpa using ew) qo hs
 ·have hj:(i+(aQ.toArray.size:Int)).toNat=j:=by
   rw[seqIndex_neg (by lia) h4]at h1;rw[kC,← hl];exact vM h1
  exact subscriptTail_builtinR (x:=w) pl.isList.typeIs slot_list_getitem.lookup
   (wpAny_getItem_list_neg (Q:=λr s'=>r=w/\EP X ak σ Q r s') pl.isList (by lia) (by rw[kC] <;> lia) (by lia) (by rw[hj];simpa using ew) ⟨rfl,qo⟩) hs
theorem bw:Xh X (ZH X.K):=by
 intro value xG ak s σ H x y v u Q I rx ry h hs;obtain⟨p,xs,i,z,rfl,rfl,hq,he,q⟩:=h;cases rx;obtain⟨t,rfl⟩:=ry;obtain⟨aQ,r,pl,hz⟩:=I.tuple hq;obtain⟨j,h1,h2,h3,h4,h5⟩:=FW he;obtain⟨w,ew,rE⟩:=r.get h2;have hl:=r.length;have hn:=yg;have qo:EP X ak σ Q w s:=⟨z,H,I,rE,q⟩;exact subscriptTail_builtinR (x:=w) pl.typeIs slot_tuple_getitem.lookup (getItem_tuple (j:=j) (Q:=λr s'=>r=w/\EP X ak σ Q r s') pl (by lia) (by lia) (by rw[kC,← hl];exact h1) (by simpa using ew) ⟨rfl,qo⟩) hs
theorem P4:Xh X acS:=by
 intro value xG ak s σ H x y v u Q I rx ry h hs;obtain⟨z,i,c,rfl,rfl,hz,he,q⟩:=h;obtain⟨t,rfl⟩:=rx;obtain⟨t',rfl⟩:=ry;obtain⟨j,h1,h2,h3,h4,h5⟩:=FW he;have hl:z.cps.toList.length=z.length:=by simp[Str.length]
 rw[hl]at h1 h4 h5;have hn:=yg
 exact tail_any (typeIs_str s z t) slot_str_getitem.lookup (getItem_str (c:=c) (by
  have e1:decide (i < -(2^63:Int))=false:=decide_eq_false (by lia);have e2:decide (i>=2^63)=false:=decide_eq_false (by lia)
  rw[e1,e2,Bool.or_false]) (by rw[h1];simpa using h2) ⟨.str ⟨#[c]⟩,H,I.tok _,⟨_,rfl⟩,q⟩) hs
theorem KH(aQ:List Value)(n j:Nat)(u:Value):Obj.mapSeq (·.setIfInBounds j u) { cls:=.type "list",data:=.seq aQ.toArray n }={ cls:=.type "list",data:=.seq (aQ.set j u).toArray n }:=by
 simp[Obj.mapSeq]
theorem Inv.lst{ak:List (Addr × Obj)}{σ:St}{H:Hp}{s:Shared}{p:Addr}{xs:List V}(I:Inv X ak σ H s)(h:H p=some (.lst xs)) :
  ∃ (aQ:List Value) (n:Nat),cF xs aQ/\s.heap.get? p=some { cls:=.type "list",data:=.seq aQ.toArray n }/\xs.length<=sizeLine:=by
 obtain⟨z,aQ,n,r,e⟩:=I.hok p _ h;exact⟨aQ,n,r,e,z⟩
theorem Inv.Xi{σ:St}{H:Hp}{s:Shared}{p:Addr}{xs ys:List V}{aQ its':List Value}{n n':Nat}{f:Obj->Obj}(I:Inv X ak σ H s)(h:H p=some (.lst xs))
  (ho:s.heap.get? p=some { cls:=.type "list",data:=.seq aQ.toArray n }) (hf:f { cls:=.type "list",data:=.seq aQ.toArray n }={ cls:=.type "list",data:=.seq its'.toArray n' }) (r:cF ys its') (hz:ys.length<=sizeLine) (t:Nat) :
  Inv X ak σ (aO H p (.lst ys)) { s with heap:=s.heap.update p f,toks:=t }:=by
 have e:(s.heap.update p f).get? p=some { cls:=.type "list",data:=.seq its'.toArray n' }:=by
  rw[Heap.get?_update_self f ho (by rw[hf] <;> rfl),hf]
 refine I.write (x:=p) (e:=p) (by rw[h];trivial) (.inl rfl) (λb u hb q=>(Heap.get?_update_other _ _ (Ne.symm hb)).trans q) ⟨_,e⟩ ?_;exact⟨hz,its',n',r,e⟩
inductive ZI(o i v:V)(H:Hp)(Q:Hp->Prop):Prop
 | mk (p:Addr) (xs:List V) (k:Int) (j:Nat) (_:o=.ref p) (_:i=.int k) (_:H p=some (.lst xs)) (_:Mp xs.length k=some j) (_:Q (aO H p (.lst (xs.set j v))))
theorem rF:Zo X ZI:=by
 intro ak s σ H o i v ov iv u Q I ro ri rv h;obtain⟨p,xs,k,j,rfl,rfl,hp,hj,q⟩:=h;cases ro;obtain⟨t,rfl⟩:=ri;obtain⟨aQ,n,r,ho,hz⟩:=I.lst hp;obtain⟨h1,h2,h3,h4⟩:=Mq hj;have hl:=r.length;have hn:=yg;have I':Inv X ak σ (aO H p (.lst (xs.set j v))) { s with heap:=s.heap.update p (Obj.mapSeq (·.setIfInBounds j u)) } := I.Xi hp ho (KH aQ n j u) (r.set rv j) (by rw[List.length_set];exact hz) s.toks;by_cases h0:0<=k
 ·have hk:k.toNat=j:=by
   rw[seqIndex_of h0 h4]at h1;exact vM h1
  exact PySem.W.ki_setAt ho h0 (by lia) (by rw[kC,← hl];exact h4) (by rw[hk];exact⟨_,I',q⟩)
 ·have hk:(k+(aQ.toArray.size:Int)).toNat=j:=by
   rw[seqIndex_neg (by lia) h3]at h1;rw[kC,← hl];exact vM h1
  exact PySem.W.ki_setBack ho (by lia) (by rw[kC,← hl];exact h3) (by lia) (by rw[hk];exact⟨_,I',q⟩)
theorem FY(lo hi:Option Int)(n:Nat):(sliceBounds lo hi none n).1=((HT.mK n 0 lo:Nat):Int)/\(sliceBounds lo hi none n).2.1=((HT.mK n n hi:Nat):Int)/\(sliceBounds lo hi none n).2.2=1:=by
 refine⟨?_,?_,rfl⟩
 ·cases lo with
  | none=>simp[sliceBounds,HT.mK]
  | some i =>
   simp only[sliceBounds,HT.mK,Option.getD_none,show (1:Int) > 0 by decide,if_true];by_cases h:i<0
   ·simp only[h,if_true] <;> lia
   ·simp only[h,if_false] <;> lia
 ·cases hi with
  | none=>simp[sliceBounds,HT.mK]
  | some i =>
   simp only[sliceBounds,HT.mK,Option.getD_none,show (1:Int) > 0 by decide,if_true];by_cases h:i<0
   ·simp only[h,if_true] <;> lia
   ·simp only[h,if_false] <;> lia
theorem D0(aQ:List Value)(lo hi:Option Int):slicePick aQ.toArray lo hi none=((aQ.drop (HT.mK aQ.length 0 lo)).take (HT.mK aQ.length aQ.length hi-HT.mK aQ.length 0 lo)).toArray:=by
 obtain⟨h1,h2,h3⟩:=FY lo hi aQ.toArray.size;unfold slicePick;rw[h1,h2,h3]
 simp only[sliceRange_one,pick_run,kC] <;> rfl
inductive ZJ(K:PySem.W.Frag)(x:V)(lo hi:Option Int)(H:Hp)(Q:VK):Prop
 | mk (a:Addr) (xs:List V) (_:x=.ref a) (_:bQ K H a xs) (_:∀ p,H p=none->Q (.ref p) (aO H p (.lst (pU xs lo hi)))):ZJ K x lo hi H Q
theorem qF:SlR X (ZJ X.K):=by
 intro ak s σ H x v vl vu lo hi sl Q I rx hs pl pu h;obtain⟨a,xs,rfl,hx,q⟩:=h;cases rx;obtain⟨aQ,r,ht,hz⟩:=I.list hx;have gj:=r.length;refine⟨"list",_,slot_list_getitem.lookup,ht.isList.typeIs,?_⟩
 refine wpAny_getItem_list_slice ht.isList hs pl pu .none (by simp) ?_ (by rw[kC] <;> lia)
 rw[D0,← gj];refine⟨.ref s.heap.objs.size,_,I.laid (t':=s.toks) (o:=.lst (pU xs lo hi)) (λb ob q=>Heap.get?_push_of_some _ q) (ja _) ?_,rfl,q _ (I.hok.fresh (ja _))⟩;exact⟨Nat.le_trans (AX xs lo hi) hz,_,0,(r.drop (HT.mK xs.length 0 lo)).take (HT.mK xs.length xs.length hi-HT.mK xs.length 0 lo),Heap.get?_push_size _ rfl⟩
def yY:V->Bool
 | .iZ=>true
 | .bl _=>true
 | .int _=>true
 | .str _=>true
 | _=>false
def Vv:V->V->Bool
 | .iZ,.iZ=>true
 | .bl a,.bl b=>a == b
 | .bl a,.int b=>(if a then 1 else 0) == b
 | .int a,.bl b=>a == (if b then 1 else 0)
 | .int a,.int b=>a == b
 | .str a,.str b=>a == b
 | _,_=>false
theorem Xj{A:Around}{s:Shared}{y x:V}{u v:Value}(ry:RelV y u)(rx:RelV x v)(fy:yY y=true)(fx:yY x=true):SeqAt.EqAt A s u v (Vv y x):=by
 cases y with
 | iZ =>
  cases ry
  cases x with
  | iZ=>cases rx;exact SeqAt.EqAt.same _
  | bl b=>cases rx;exact SeqAt.EqAt.none_bool b
  | int b=>obtain⟨t,rfl⟩:=rx;exact SeqAt.EqAt.none_int b t
  | str b=>obtain⟨t,rfl⟩:=rx;exact SeqAt.EqAt.none_str b t
  | _=>exact absurd (show false=true from fx) vg
 | bl a =>
  cases ry
  cases x with
  | iZ=>cases rx;exact SeqAt.EqAt.bool_none a
  | bl b=>cases rx;exact SeqAt.EqAt.bool_bool a b
  | int b=>obtain⟨t,rfl⟩:=rx;exact SeqAt.EqAt.bool_int a b t
  | str b=>obtain⟨t,rfl⟩:=rx;exact SeqAt.EqAt.bool_str a b t
  | _=>exact absurd (show false=true from fx) vg
 | int a =>
  obtain⟨t',rfl⟩:=ry
  cases x with
  | iZ=>cases rx;exact SeqAt.EqAt.int_none a t'
  | bl b=>cases rx;exact SeqAt.EqAt.int_bool a t' b
  | int b=>obtain⟨t,rfl⟩:=rx;exact SeqAt.EqAt.int_int a t' b t
  | str b=>obtain⟨t,rfl⟩:=rx;exact SeqAt.EqAt.int_str a t' b t
  | _=>exact absurd (show false=true from fx) vg
 | str a =>
  obtain⟨t',rfl⟩:=ry
  cases x with
  | iZ=>cases rx;exact SeqAt.EqAt.str_none a t'
  | bl b=>cases rx;exact SeqAt.EqAt.str_bool a t' b
  | int b=>obtain⟨t,rfl⟩:=rx;exact SeqAt.EqAt.str_int a t' b t
  | str b=>obtain⟨t,rfl⟩:=rx;exact SeqAt.EqAt.str_str a t' b t
  | _=>exact absurd (show false=true from fx) vg
 | _=>exact absurd (show false=true from fy) vg
def KI(x:V)(u:Value):Bool:=match u with
 | .none=>Vv .iZ x
 | .bool b=>Vv (.bl b) x
 | .int i _=>Vv (.int i) x
 | .str z _=>Vv (.str z) x
 | _=>false
theorem P5{x y:V}{u:Value}(r:RelV y u)(f:yY y=true):KI x u=Vv y x:=by
 cases y with
 | iZ=>cases r;rfl
 | bl b=>cases r;rfl
 | int i=>obtain⟨t,rfl⟩:=r;rfl
 | str z=>obtain⟨t,rfl⟩:=r;rfl
 | _=>exact absurd (show false=true from f) vg
theorem yZ{x:V}:∀ {xs:List V} {us:List Value},cF xs us->xs.all yY=true->us.any (KI x)=xs.any λy=>Vv y x
 | _,_,.nil,_=>rfl
 | y::xs,u::us,.cons r t,f=>by
  rw[List.all_cons,Bool.and_eq_true]at f;rw[List.any_cons,List.any_cons,P5 r f.1,yZ t f.2]
theorem vR{A:Around}{s:Shared}{x:V}{v:Value}(rx:RelV x v)(fx:yY x=true):∀ {xs:List V} {us:List Value},cF xs us->xs.all yY=true->∀ u∈us,SeqAt.EqAt A s u v (KI x u)
 | _,_,.nil,_=>λu hu=>by cases hu
 | y::xs,u::us,.cons r t,f=>λu' hu=>by
  rw[List.all_cons,Bool.and_eq_true]at f;rcases List.mem_cons.mp hu with rfl|hu
  ·rw[P5 r f.1];exact Xj r rx f.1 fx
  ·exact vR rx fx t f.2 u' hu
def inV(x:V)(xs:List V):Bool:=xs.any λy=>Vv y x
inductive Xk(K:PySem.W.Frag)(xs:List V)(H:Hp)(Q:VK):Prop
 | mk (p:Addr) (ys:List V) (_:xs=[.ref p]) (_:bQ K H p ys\/eL K H p ys) (_:Q (.int ys.length) H):Xk K xs H Q
inductive ZK(K:PySem.W.Frag)(xs:List V)(H:Hp)(Q:VK):Prop
 | mk (p:Addr) (ys:List V) (_:xs=[.ref p]) (_:bQ K H p ys\/eL K H p ys) (_:∀ l,H l=none->Q (.ref l) (aO H l (.lst ys)))
def rIn(K:PySem.W.Frag)(neg:Bool):R2:=λx y H Q=>∃ p xs,y=.ref p/\(bQ K H p xs\/eL K H p xs)/\yY x=true/\xs.all yY=true/\Q (.bl (if neg then !inV x xs else inV x xs)) H
theorem NT:yM X (compareOp .In) (rIn X.K false):=by
 intro ak s σ H x y v u Q I rx ry h;obtain⟨p,xs,rfl,hq,fx,fs,q⟩:=h;cases ry;rcases hq with hq|hq
 ·obtain⟨aQ,r,pl,hz⟩:=I.list hq;refine SeqAt.in_listAt (KI x) pl.isList (λw hw=>vR rx fx r fs w (by simpa using hw)) ⟨.bl _,H,I,rfl,?_⟩;rw[show aQ.toArray.any (KI x)=aQ.any (KI x) by simp,yZ r fs];exact q
 ·obtain⟨aQ,r,pl,hz⟩:=I.tuple hq;refine SeqAt.in_tupleAt (KI x) pl (λw hw=>vR rx fx r fs w (by simpa using hw)) ⟨.bl _,H,I,rfl,?_⟩;rw[show aQ.toArray.any (KI x)=aQ.any (KI x) by simp,yZ r fs];exact q
theorem FZ:yM X (compareOp .NotIn) (rIn X.K true):=by
 intro ak s σ H x y v u Q I rx ry h;obtain⟨p,xs,rfl,hq,fx,fs,q⟩:=h;cases ry;rcases hq with hq|hq
 ·obtain⟨aQ,r,pl,hz⟩:=I.list hq;refine SeqAt.notIn_listAt (KI x) pl.isList (λw hw=>vR rx fx r fs w (by simpa using hw)) ⟨.bl _,H,I,rfl,?_⟩;rw[show aQ.toArray.any (KI x)=aQ.any (KI x) by simp,yZ r fs];exact q
 ·obtain⟨aQ,r,pl,hz⟩:=I.tuple hq;refine SeqAt.notIn_tupleAt (KI x) pl (λw hw=>vR rx fx r fs w (by simpa using hw)) ⟨.bl _,H,I,rfl,?_⟩;rw[show aQ.toArray.any (KI x)=aQ.any (KI x) by simp,yZ r fs];exact q
theorem F0:pS X (.builtin "len") (Xk X.K):=by
 intro ak s σ H xs us Q I r h;obtain⟨p,ys,rfl,hq,q⟩:=h;obtain⟨u,rfl,rx⟩:=vals1 r;cases rx;have hn:=yg;rcases hq with hq|hq
 ·obtain⟨aQ,r',pl,hz⟩:=I.list hq;have gj:=r'.length
  exact Calls.call_len_list pl.isList (by simp only[kC] <;> lia) ⟨.int ys.length,H,I.tok _,⟨s.toks+1,by rw[kC,gj]⟩,q⟩
 ·obtain⟨aQ,r',pl,hz⟩:=I.tuple hq;have gj:=r'.length
  exact len_tuple pl (by simp only[kC] <;> lia) ⟨.int ys.length,H,I.tok _,⟨s.toks+1,by rw[kC,gj]⟩,q⟩
theorem y9:pS X (.builtin "len") (λxs H Q=>∃ z,xs=[.str z]/\z.length<=sizeLine/\Q (.int z.length) H):=by
 intro ak s σ H xs us Q I r h;obtain⟨z,rfl,hz,q⟩:=h;obtain⟨u,rfl,t,rfl⟩:=vals1 r;have hn:=yg;exact len_str (by lia) ⟨.int z.length,H,I.tok _,⟨_,rfl⟩,q⟩
theorem jP:pS X (.type "list") (ZK X.K):=by
 intro ak s σ H xs us Q I r h;obtain⟨p,ys,rfl,hq,q⟩:=h;obtain⟨u,rfl,rx⟩:=vals1 r;cases rx
 have qo:∀ (aQ:List Value),cF ys aQ->ys.length<=sizeLine->∀ (h':Heap) (c':Nat),(∀ b o',s.heap.get? b=some o'->h'.get? b=some o')->
   h'.get? s.heap.objs.size=some { cls:=.type "list",dict:=none,data:=.seq aQ.toArray c',slots:=#[] }->EP X ak σ Q (.ref s.heap.objs.size) { s with heap:=h' }:=λaQ r' hz h' c' kp e =>
  ⟨.ref s.heap.objs.size,_,I.laid (t':=s.toks) kp (ja _) (show jc X.prog X.w _ h' _ (.lst ys) from ⟨hz,aQ,c',r',e⟩),rfl,q _ (I.hok.fresh (ja _))⟩
 rcases hq with hq|hq
 ·obtain⟨aQ,r',pl,hz⟩:=I.list hq;have gj:=r'.length;obtain⟨o,ho,hc,n,hd⟩:=pl.isList
  exact call_list_seq p (.inl rfl) ho hc hd (λh' c' kp e=>qo aQ r' hz h' c' kp e) (by simp only[kC] <;> lia)
 ·obtain⟨aQ,r',pl,hz⟩:=I.tuple hq;have gj:=r'.length;obtain⟨o,ho,hc,n,hd⟩:=pl
  exact call_list_seq p (.inr rfl) ho hc hd (λh' c' kp e=>qo aQ r' hz h' c' kp e) (by simp only[kC] <;> lia)
def tyV(K:PySem.W.Frag)(T:String)(x:V)(H:Hp):Prop:=match x with
 | .str _=>T="str"
 | .int _=>T="int"
 | .ref p=>(T="list"/\∃ xs,bQ K H p xs)\/(T="tuple"/\∃ o,K.lookup p=some o/\o.cls=.type "tuple"/\o.dict=none)\/
   (T="dict"/\((∃ kvs,H p=some (.dK kvs))\/∃ kvs,H p=some (.dT kvs)))\/(T="set"/\∃ S n,H p=some (.set S n))
 | _=>False
theorem P6{σ:St}{H:Hp}{s:Shared}{T:String}{x:V}{v:Value}(I:Inv X ak σ H s)(r:RelV x v)(ty:tyV X.K T x H) :
  s.TypeIs v T/\∀ a,v=.ref a->∃ ob,s.heap.get? a=some ob/\ob.dict=none:=by
 cases x with
 | str z =>
  obtain⟨t,rfl⟩:=r;cases (show T="str" from ty);exact⟨typeIs_str s z t,λ_ e=>nomatch e⟩
 | int i =>
  obtain⟨t,rfl⟩:=r;cases (show T="int" from ty);exact⟨typeIs_int s i t,λ_ e=>nomatch e⟩
 | ref p =>
  cases r;rcases ty with ⟨rfl,xs,hq⟩|⟨rfl,o,hk,hc,hd⟩|⟨rfl,hk⟩|⟨rfl,S,n,hk⟩
  ·obtain⟨aQ,_,pl,_⟩:=I.list hq;refine⟨pl.isList.typeIs,λa e=>?_⟩;cases e;obtain⟨o,n,e,c,hd,_⟩:=pl;exact⟨o,e,hd⟩
  ·refine⟨⟨o,I.yS p o hk,hc⟩,λa e=>?_⟩;cases e;exact⟨o,I.yS _ o hk,hd⟩
  ·have z:∃ o,s.heap.get? p=some o/\o.ExactDict:=by
    rcases hk with ⟨kvs,hk⟩|⟨kvs,hk⟩
    ·obtain⟨_,_,_,_,o,_,_,e,ex,_⟩:=I.hok p _ hk;exact⟨o,e,ex⟩
    ·obtain⟨_,_,_,_,o,_,_,e,ex,_⟩:=I.hok p _ hk;exact⟨o,e,ex⟩
   obtain⟨o,e,ex⟩:=z;refine⟨⟨o,e,ex.1⟩,λa e2=>?_⟩;cases e2;exact⟨o,e,ex.2.1⟩
  ·obtain⟨o,_,_,_,e,ex,_⟩:=I.hok p _ hk;refine⟨⟨o,e,ex.1⟩,λa e2=>?_⟩;cases e2;exact⟨o,e,ex.2.1⟩
 | _=>exact False.elim ty
def acU(K:PySem.W.Frag)(T:String)(r:V->List V->Hp->VK->Prop)(to:TE):TE:=fun σ H Q=>to σ H λx H1=>tyV K T x H1/\r x [] H1 Q
def tBM(K:PySem.W.Frag)(T:String)(r:V->List V->Hp->VK->Prop)(to:TE)(t:TA):TE:=fun σ H Q=>to σ H λx H1=>tyV K T x H1/\t σ H1 λxs H2=>r x xs H2 Q
variable {o e:Expr} {es:List Expr} {to:TE} {t:TA} {name:Str} {mq sI:Pos} {T id:String} {r:V->List V->Hp->VK->Prop}
theorem P7(pa:PlainAttrs T)(slot:Slot T name id)(hty:typeOf (.builtin id)=pure (.type "method_descriptor"))(hm:MtR X id r)(ho:PE X o to)
  (P8:attributeBase o name X.env (eval o X.env)=eval o X.env:=by rfl) (P9:(mq.endLine == sI.line)=true:=by rfl):PE X (.Call (.Attribute o name mq) [] [] sI) (acU X.K T r to):=by
 intro ak s σ H Q I h;refine wpAny_Call_method0_late P8 P9 (dD (ho ak s σ H _ I h) λv s1 DY=>?_);obtain⟨x,H1,I1,r1,ty,q1⟩:=DY;obtain⟨h1,h2⟩:=P6 I1 r1 ty;exact⟨T,id,pa,slot,hty,h1,h2,Calls.callWith_builtin rfl (PySem.evalArgs_none (hm ak s1 σ H1 x [] v [] Q I1 r1 .nil q1))⟩
theorem iu(pa:PlainAttrs T)(slot:Slot T name id)(hty:typeOf (.builtin id)=pure (.type "method_descriptor"))(hm:MtR X id r)(ho:PE X o to)(ha:PA X (e::es) t)
  (P8:attributeBase o name X.env (eval o X.env)=eval o X.env:=by rfl)
  (acW:((backTo sI (starEach (e::es) X.env)).all (λx=>!x.1)&&(backToKw sI (keywordEach [] X.env)).all (λx=>x.1.isSome)
   && decide ((e::es).length+([]:List Keyword).length+(if ([]:List Keyword).isEmpty then 0 else 1)<30))=true:=by rfl)
  (P9:(mq.endLine == sI.line)=true:=by rfl) (hs:starEach (e::es) X.env=(false,eval e X.env)::starEach es X.env:=by rfl) (Xl:(backTo sI (starEach es X.env)).any (·.1)=false:=by rfl) :
  PE X (.Call (.Attribute o name mq) (e::es) [] sI) (tBM X.K T r to t):=by
 intro ak s σ H Q I h;refine wpAny_Call_method_late P8 acW P9 rfl (dD (ho ak s σ H _ I h) λv s1 HG=>?_);obtain⟨x,H1,I1,r1,ty,q1⟩:=HG;obtain⟨h1,h2⟩:=P6 I1 r1 ty;refine⟨T,id,pa,slot,hty,h1,h2,?_⟩;have hA:=ha sI ak s1 σ H1 _ I1 q1;rw[hs]at hA ⊢
 refine Calls.callWith_builtin (by show (false || (backTo sI (starEach es X.env)).any (·.1))=false;rw[Xl] <;> rfl) (Calls.evalArgs_plain ?_)
 exact dD hA λus s2 ⟨vs,H2,I2,r2,q2⟩=>hm ak s2 σ H2 x vs v us Q I2 r1 r2 q2
end
end L2
namespace L2
open Spec Rows
def YL(X:Cx)(id:String)(r:V->List V->Hp->VK->Prop):Prop :=
 ∀ (ak:List (Addr × Obj)) (s:Shared) (σ:St) (H:Hp) (x:V) (xs:List V) (v:Value) (us:List Value) (Q:VK),Inv X ak σ H s->RelV x v->cF xs us->r x xs H Q->
  wpAny (model X.prog X.w) X.A (call (.builtin id) (v::us)) (EP X ak σ Q) X.xe s
theorem cF.one{x:V}{us:List Value}(h:cF [x] us):∃ u,us=[u]/\RelV x u:=by
 cases h with
 | cons r t=>cases t;exact⟨_,rfl,r⟩
theorem cF.two{x y:V}{us:List Value}(h:cF [x,y] us):∃ u v,us=[u,v]/\RelV x u/\RelV y v:=by
 cases h with
 | cons r t =>
  obtain⟨_,rfl,q⟩:=cF.one t;exact⟨_,_,rfl,r,q⟩
theorem cF.zero:∀ {us:List Value},cF [] us->us=[]
 | _,.nil=>rfl
theorem cF.dropLast{xs:List V}{us:List Value}(h:cF xs us):cF xs.dropLast us.dropLast:=by
 induction h with
 | nil=>exact .nil
 | cons r t ih =>
  cases t with
  | nil=>exact .nil
  | cons q t'=>exact .cons r ih
theorem cF.eraseIdx:∀ {xs:List V} {us:List Value} (i:Nat),cF xs us->cF (xs.eraseIdx i) (us.eraseIdx i)
 | _,_,_,.nil=>.nil
 | _,_,0,.cons _ t=>t
 | _,_,i+1,.cons r t=>.cons r (cF.eraseIdx i t)
theorem cF.rep{xs:List V}{us:List Value}(h:cF xs us):∀ k:Nat,cF (List.replicate k xs).flatten (List.replicate k us).flatten
 | 0=>.nil
 | k+1=>by
  rw[List.replicate_succ,List.replicate_succ,List.flatten_cons,List.flatten_cons];exact cF.append h (cF.rep h k)
theorem KJ{α:Type}(l:List α):l.eraseIdx (l.length-1)=l.dropLast:=by
 induction l with
 | nil=>rfl
 | cons a r ih =>
  cases r with
  | nil=>rfl
  | cons b r =>
   have e:(a::b::r).length-1=((b::r).length-1)+1:=by
    have h1:(a::b::r).length=r.length+2:=rfl;have h2:(b::r).length=r.length+1:=rfl;lia
   rw[e,List.eraseIdx_cons_succ,ih]
   all_goals rfl
theorem EE{α:Type}:∀ (l:List α) (i:Nat),(l.eraseIdx i).length<=l.length
 | [],_=>ja _
 | _::_,0=>Nat.le_succ _
 | _::r,i+1=>Nat.succ_le_succ (EE r i)
theorem foldl_rep(aQ:List Value):∀ (k:Nat) (acc:List Value),
  List.foldl (λx1 x2=>x1++x2) acc.toArray (List.replicate k aQ.toArray)=(acc++(List.replicate k aQ).flatten).toArray
 | 0,acc=>by simp
 | k+1,acc=>by
  have e:acc.toArray++aQ.toArray=(acc++aQ).toArray:=by simp
  have e2:(acc++aQ)++(List.replicate k aQ).flatten=acc++(List.replicate (k+1) aQ).flatten:=by
   rw[List.replicate_succ,List.flatten_cons,pQ]
  rw[← e2,← foldl_rep aQ k (acc++aQ),← e,List.replicate_succ,rj]
section
variable {X:Cx} {ak:List (Addr × Obj)} {σ:St} {H:Hp} {s:Shared} {l b:Addr} {xs ys zs:List V}
theorem Inv.Qa{aQ its':List Value}{n:Nat}{f:Array Value->Array Value}{t':Nat}(I:Inv X ak σ H s)(hH:H l=some (.lst xs))
  (e:s.heap.get? l=some { cls:=.type "list",data:=.seq aQ.toArray n }) (hf:f aQ.toArray=its'.toArray) (hv:cF ys its') (hz:ys.length<=sizeLine) :
  Inv X ak σ (aO H l (.lst ys)) { s with heap:=s.heap.update l (Obj.mapSeq f),toks:=t' }:=by
 have q:=PySem.IsL.update e f;rw[hf]at q;refine I.write (x:=l) (e:=l) (by rw[hH];exact trivial) (.inl rfl) (λb' u hb hu=>(Heap.get?_update_other s.heap (Obj.mapSeq f) (Ne.symm hb)).trans hu) ⟨_,q⟩ ?_;exact⟨hz,its',_,hv,q⟩
theorem Inv.TH{aQ:List Value}{t':Nat}(I:Inv X ak σ H s)(hv:cF ys aQ)(hz:ys.length<=sizeLine) :
  Inv X ak σ (aO H s.heap.objs.size (.lst ys)) { s with heap:=s.heap.push { cls:=.type "list",data:=.seq aQ.toArray },toks:=t' } :=
 I.laid (λ_ _ q=>Heap.get?_push_of_some _ q) (ja _) ⟨hz,aQ,0,hv,Heap.get?_push_size _ rfl⟩
theorem Inv.fresh(I:Inv X ak σ H s):H s.heap.objs.size=none:=I.hok.fresh (ja _)
theorem Inv.D3(I:Inv X ak σ H s)(hH:H l=some (.lst xs)):xs.length<=sizeLine/\∃ (aQ:List Value) (n:Nat),cF xs aQ/\xs.length=aQ.length/\s.heap.get? l=some { cls:=.type "list",data:=.seq aQ.toArray n }:=by
 obtain⟨z,aQ,n,r,e⟩:=I.hok l _ hH;exact⟨z,aQ,n,r,r.length,e⟩
theorem Cp{n:Nat}(h:n<=sizeLine):Builtin.List.listTooLong n=false:=by
 unfold Builtin.List.listTooLong;exact decide_eq_false (by lia)
end
section
variable {X:Cx}
inductive TL(x:V)(vs:List V)(H:Hp)(Q:VK):Prop
 | mk (l:Addr) (xs:List V) (y:V) (_:x=.ref l) (_:vs=[y]) (_:H l=some (.lst xs)) (_:xs.length<sizeLine) (_:Q .iZ (aO H l (.lst (xs++[y]))))
theorem cH:YL X "list.append" TL:=by
 intro ak s σ H x vs v us Q I rx rv h;obtain⟨l,xs,y,rfl,rfl,hH,hz,q⟩:=h;cases rx;obtain⟨u,rfl,ru⟩:=rv.one;obtain⟨z,aQ,n,r,hl,e⟩:=I.D3 hH;refine call_meets F.slot_list_append ⟨_,e,rfl⟩ F.entry_list_append (F.args_list_append_2 _ _) (PySem.list_append l aQ.toArray n u (by rw[kC];lia)) ⟨e,?_⟩;refine⟨.iZ,_,I.Qa (its':=aQ++[u]) hH e (by simp) (r.append (.cons ru .nil)) ?_,rfl,q⟩;rw[dM,vK];lia
inductive TM(x:V)(vs:List V)(H:Hp)(Q:VK):Prop
 | mk (l b:Addr) (xs zs:List V) (_:x=.ref l) (_:vs=[.ref b]) (_:H l=some (.lst xs)) (_:H b=some (.lst zs)) (_:xs.length+zs.length<=sizeLine) (_:Q .iZ (aO H l (.lst (xs++zs))))
theorem nA:YL X "list.extend" TM:=by
 intro ak s σ H x vs v us Q I rx rv h;obtain⟨l,b,xs,zs,rfl,rfl,hH,hB,hz,q⟩:=h;cases rx;obtain⟨u,rfl,ru⟩:=rv.one;cases ru;obtain⟨z,aQ,n,r,hl,e⟩:=I.D3 hH;obtain⟨z2,its2,n2,r2,EF,e2⟩:=I.D3 hB;have hsz:aQ.toArray.size+its2.toArray.size<=sizeLine:=by rw[kC,kC];lia
 have HP:¬ (!aQ.toArray.isEmpty&&Builtin.List.listTooLong (aQ.toArray.size+its2.toArray.size))=true:=by
  rw[Cp hsz,Bool.and_false];exact vg
 refine call_meets F.slot_list_extend ⟨_,e,rfl⟩ F.entry_list_extend (F.args_list_extend_2 _ _) (AutoSeq1.list_extend_list_list_0 l aQ.toArray n b its2.toArray n2 HP (by rw[kC];lia) (by lia)) ⟨e,e2,?_⟩;refine⟨.iZ,_,I.Qa (its':=aQ++its2) hH e (by simp) (r.append r2) ?_,rfl,q⟩;rw[dM];lia
def acX:V->List V->Hp->VK->Prop:=λx vs H Q=>∃ l xs y,x=.ref l/\vs=[]/\H l=some (.lst xs)/\xs[xs.length-1]?=some y/\Q y (aO H l (.lst xs.dropLast))
theorem Qc:YL X "list.pop" acX:=by
 intro ak s σ H x vs v us Q I rx rv h;obtain⟨l,xs,y,rfl,rfl,hH,hy,q⟩:=h;cases rx;have hus:=rv.zero;subst hus;obtain⟨z,aQ,n,r,hl,e⟩:=I.D3 hH;obtain⟨u,hu,ru⟩:=r.get hy
 have hy':aQ.toArray[aQ.toArray.size-1]?=some u:=by
  show aQ.toArray[aQ.length-1]?=some u;rw[← Array.getElem?_toList,← hl];exact hu
 refine call_meets F.slot_list_pop ⟨_,e,rfl⟩ F.entry_list_pop (F.args_list_pop_1 _) (MeetsSeq.list_pop_last l aQ.toArray n u hy' (by rw[kC];lia)) ⟨e,?_⟩;refine⟨y,_,I.Qa (its':=aQ.dropLast) hH e ?_ r.dropLast ?_,ru,q⟩
 ·show aQ.toArray.eraseIdxIfInBounds (aQ.toArray.size-1)=aQ.dropLast.toArray;rw[kC,List.eraseIdxIfInBounds_toArray,KJ]
 ·rw[List.length_dropLast];lia
def Xm:V->List V->Hp->VK->Prop:=λx vs H Q=>∃ l xs i k y,x=.ref l/\vs=[.int i]/\H l=some (.lst xs)/\-(2^63)<=i/\i<2^63/\seqIndex? i xs.length=some k/\xs[k]?=some y/\Q y (aO H l (.lst (xs.eraseIdx k)))
theorem Qd:YL X "list.pop" Xm:=by
 intro ak s σ H x vs v us Q I rx rv h;obtain⟨l,xs,i,k,y,rfl,rfl,hH,h1,h2,hk,hy,q⟩:=h;cases rx;obtain⟨u,rfl,ru⟩:=rv.one;obtain⟨t,rfl⟩:=ru;obtain⟨z,aQ,n,r,hl,e⟩:=I.D3 hH;obtain⟨w,hw,rE⟩:=r.get hy;refine call_meets F.slot_list_pop ⟨_,e,rfl⟩ F.entry_list_pop (F.args_list_pop_2 _ _) (MeetsSeq.list_pop_at l aQ.toArray n i t k w (fitsIndex_both h1 h2) (by rw[kC,← hl];exact hk) (by rw[← Array.getElem?_toList];exact hw) (by rw[kC];lia)) ⟨e,?_⟩;refine⟨y,_,I.Qa (its':=aQ.eraseIdx k) hH e ?_ (r.eraseIdx k) ?_,rE,q⟩
 ·show aQ.toArray.eraseIdxIfInBounds k=(aQ.eraseIdx k).toArray;rw[List.eraseIdxIfInBounds_toArray]
 ·have:=EE xs k;lia
inductive ZL(x y:V)(H:Hp)(Q:VK):Prop
 | mk (l b:Addr) (xs zs:List V) (_:x=.ref l) (_:y=.ref b) (_:H l=some (.lst xs)) (_:H b=some (.lst zs)) (_:xs.length+zs.length<=sizeLine) (_:∀ p,H p=none->Q (.ref p) (aO H p (.lst (xs++zs))))
theorem nM:yM X (binaryOp .Add) ZL:=by
 intro ak s σ H x y v u Q I rx ry h;obtain⟨l,b,xs,zs,rfl,rfl,hH,hB,hz,q⟩:=h;cases rx;cases ry;obtain⟨z,aQ,n,r,hl,e⟩:=I.D3 hH;obtain⟨z2,its2,n2,r2,EF,e2⟩:=I.D3 hB;refine PySem.P.add_list e e2 ?_ (by rw[kC,kC];lia);have ea:aQ.toArray++its2.toArray=(aQ++its2).toArray:=by simp
 rw[ea];exact⟨.ref _,_,I.TH (t':=s.toks) (r.append r2) (by rw[dM];lia),rfl,q _ I.fresh⟩
def ZM:R2:=λx y H Q=>∃ l k xs,x=.ref l/\y=.int k/\H l=some (.lst xs)/\-(2^63)<=k/\k<2^63/\xs.length*k.toNat<=sizeLine/\
 ∀ p,H p=none->Q (.ref p) (aO H p (.lst (List.replicate k.toNat xs).flatten))
theorem TN{α:Type}(xs:List α)(k:Nat):(List.replicate k xs).flatten.length=k*xs.length:=by
 induction k with
 | zero=>simp
 | succ k ih=>rw[List.replicate_succ,List.flatten_cons,dM,ih,Nat.succ_mul,Nat.add_comm]
theorem Qe:yM X (binaryOp .Mult) ZM:=by
 intro ak s σ H x y v u Q I rx ry h;obtain⟨l,k,xs,rfl,rfl,hH,h1,h2,hz,q⟩:=h;cases rx;obtain⟨t,rfl⟩:=ry;obtain⟨z,aQ,n,r,hl,e⟩:=I.D3 hH;have gj:aQ.toArray.size*k.toNat<=sizeLine:=by rw[kC,← hl];exact hz
 have hcap:¬ aQ.toArray.size*k.toNat > (2^63-1) / 8:=by
  have:(sizeLine:Nat)<=(2^63-1) / 8:=by decide
  lia
 have hfit:¬ (!Builtin.List.listFitsIndex k)=true:=by
  rw[fitsIndex_both h1 h2];exact vg
 have HP:¬ Builtin.List.listTooLong (aQ.toArray.size*k.toNat)=true:=by
  rw[Cp gj];exact vg
 have hnew:List.foldl (λx1 x2=>x1++x2) #[] (List.replicate (if aQ.toArray.isEmpty=true then 0 else k.toNat) aQ.toArray)=(List.replicate k.toNat aQ).flatten.toArray:=by
  have f0:∀ m:Nat,List.foldl (λx1 x2=>x1++x2) #[] (List.replicate m aQ.toArray)=(List.replicate m aQ).flatten.toArray:=λm=>by
   have:=foldl_rep aQ m [];rw[List.nil_append]at this;exact this
  rw[f0]
  cases aQ with
  | nil=>simp
  | cons a r'=>rw[if_neg (by simp)]
 refine wpAny_binaryOp_repeat_ref (T:="list") (U:="int") (by decide) ⟨_,e,rfl⟩ (λs'=>typeIs_int s' k t) noFill_list_mul F.fills_int_mul F.slot_int_rmul repeat_list F.slot_int_index.lookup (call_meets F.slot_int_rmul (typeIs_int s k t) F.entry_int_rmul (F.args_int_rmul_2 _ _) (int___rmul___int_list k t l aQ.toArray n) ⟨e,rfl,⟨_,e,rfl⟩,call_meets F.slot_list_mul ⟨_,e,rfl⟩ F.entry_list_mul (F.args_list_mul_2 _ _) (AutoListH.list___mul___list_int_3 l aQ.toArray n k t hfit hcap HP) ⟨e,?_⟩⟩);rw[hnew];exact⟨.ref _,_,I.TH (t':=s.toks) (r.rep k.toNat) (by rw[TN,Nat.mul_comm];exact hz),rfl,q _ I.fresh⟩
end
end L2
namespace Att
open PySem.W Calls Rows
theorem Bt{P:Params}{h:Heap}:∀ (ns:List Int) (vs:List Value),WellAll P h vs (ns.map WData.int)->IntsAre vs ns:=by
 intro ns
 induction ns with
 | nil =>
  intro vs w;rw[List.map_nil]at w;cases w;exact .nil
 | cons n ns ih =>
  intro vs w;rw[oJ]at w
  cases w with
  | cons a b =>
   cases a;exact .cons _ _ (ih _ b)
theorem NU{l:OpenLaw}{n:Nat}(hn:l.most=some n){P:Params}{h:Heap}{args:List WData}{Xn:List Value}
  (TQ:l.row.toRowW.claim.pre args=true) (hwl:WellAll P h Xn args) :
  ∃ a vs ns,Xn=[Value.ref a]/\args=[WData.list (ns.map WData.int)]/\h.get? a=some { cls:=.type "list",data:=.seq vs.toArray }/\IntsAre vs ns/\ns.length<=n:=by
 have AY:WShape.hasAll [] args [.list .int]=true:=(pre_splitW TQ).1;have hc:l.pre.holds [] { args:=args }=true:=(pre_splitW TQ).2;obtain⟨d,r,rfl,h1,h2⟩:=hasAllW_cons AY;obtain rfl:=hasAllW_nil h2;obtain⟨xs,rfl,h3⟩:=hasW_list h1;obtain⟨ns,rfl⟩:=items_int h3
 have gj:ns.length<=n:=by
  unfold OpenLaw.pre at hc
  have h4:(WTm.not (.lt (.lit (.int (n:Int))) (.len (.arg 0)))).holds [] { args:=[.list (ns.map .int)] }=true:=by
   have h4:=(holds_andW hc).1;rw[hn]at h4;exact h4
  have h5:=condW_of h4 (w_not (w_lt w_lit (w_len_list (w_arg rfl))));rw[cR]at h5;refine Nat.le_of_not_lt λq=>?_;have q':(n:Int)<((ns.length:Nat):Int):=by lia
  first
   | (rw[decide_eq_true q']at h5;exact absurd h5 (by decide))
   | (simp at h5;lia)
 cases hwl with
 | cons w1 w2 =>
  cases w2
  cases w1 with
  | list ho Qf=>exact⟨_,_,ns,rfl,rfl,ho,Bt ns _ Qf,gj⟩
theorem NV(l:OpenLaw)(args:List WData):l.row.toRowW.claim.post args (.bool true) args=true :=
 postW_of (r:=l.row.toRowW) (X:=(true == true))
  (show WShape.has [] (.bool true) .bool=true by first|rfl|decide|simp[WShape.has,WShape.arms,WShape.armsAll])
  (show (WTm.eq .res (.lit (.bool true))).value [] { args:=args,res:=some (.bool true),after:=args }=some (.bool (true == true)) from w_eq_bool (w_res rfl) w_lit) rfl
theorem HQ{l:OpenLaw}{n:Nat}{q:Program}{EG:List Str}{XP:(Str->Option Value)->Heap->Prop}{YP:World->Heap->Prop}{d:DefRec}
  (hn:l.most=some n) (ZN:d.params.defaults=[])
  (call:∀ (w:World) (s₀ s₁:Shared) (mg mb:Str->Option Value) (fa:Addr) (o:Obj) (pm cd zY:Value) (a:Addr) (vs:List Value) (ns:List Int),
   Ground q EG [] XP w s₀ mg mb s₁.heap->YP w s₁.heap->
   s₁.heap.get? fa=some o->o.data=.func (docDef d.name d.params d.body d.scope pm cd zY)->s₁.heap.CodeRec cd d.name->mg d.name=some (.ref fa)->
   s₁.heap.get? a=some { cls:=.type "list",data:=.seq vs.toArray }->IntsAre vs ns->ns.length<=n->s₁.gens=#[]->
   codeAny (model l.prog w) callerA (.call (.ref fa) ⟨[.ref a],[]⟩) (λr s'=>r=.ok (.ret (.bool true))/\OldK s₁.heap s'.heap/\s'.os=s₁.os/\AllBare s'.gens) s₁) :
  WalkO q EG XP YP l.row.toRowW d [] (λf vs=>PySem.call f vs):=by
 intro w s₀ s₁ mg mb G Y fa o pm cd zY dV kV ho hd NI hD ZO hg args Xn as TQ aiy hrd hwl hlo;obtain rfl:dV=.none:=Dflts.none hD ZN;obtain rfl:kV=.none:=Dflts.noKw hD;obtain⟨a,vs,ns,rfl,rfl,Xo,Qg,gj⟩:=NU hn TQ hwl;refine enter_call (codeAny_mono (call w s₀ s₁ mg mb fa o pm cd zY a vs ns G Y ho (fd_plain hd) NI ZO Xo Qg gj hg) λr s' hq=>?_);obtain⟨rfl,h2,h3,h4⟩:=hq;exact⟨.inl ⟨.bool true,.bool true,[],rfl,λ_=>rfl,.bool true,NV l _,λ_=>⟨List.Pairwise.nil,λ_ hm=>(nomatch hm)⟩⟩,h2,h3,h4⟩
end Att
namespace L2
open Spec Rows
theorem EH:∀ {vs:List Value} {ns:List Int},IntsAre vs ns->cF (ns.map V.int) vs
 | _,_,.nil=>.nil
 | _,_,.cons n t h=>.cons ⟨t,rfl⟩ (EH h)
def Xp(H:Hp):Prop:=∀ b,H b=none\/∃ o xs,H b=some (.Kf o (.lst xs))
theorem Qh{P:Program}{w:World}{K:PySem.W.Frag}{mg mb:Str->Option Value}{CX:O2}{k:Nat}{fa a:Addr}{fd:FuncData}{x:Str}{sp:Sp}{s₁:Shared}{vs:List Value}{ns:List Int}
  (KX:K.In s₁.heap) (O5:s₁.heap.Ns mainGlobals mg) (hb:s₁.heap.Ns builtinsNs mb) (hbb:∀ x:Str,x≠"__name__"->mb x=bootBuiltins x) (acZ:s₁.heap.NoLimit) (hg:s₁.gens=#[])
  (ha:s₁.heap.get? a=some { cls:=.type "list",data:=.seq vs.toArray }) (hi:IntsAre vs ns) (hl:ns.length<=sizeLine) (hr:kH k callerA)
  (F:∀ zt:Heap,K.In zt->zt.Ns mainGlobals mg->aF P w K mg zt CX k fa fd [x] sp) (ZP:∀ (s:Shared) (u:Value),BindsTo s fd ⟨[u],[]⟩ [(x,u)])
  (KC:∀ H:Hp,Xp H->bQ K H a (ns.map V.int)->sp [.ref a] H (λv _=>v=.bl true) λ_ _ _=>False)
  (hCX:∀ H e s',CX [] H s₁ (λ_ _ _=>False) e s'->False) :
  codeAny (model P w) callerA (.call (.ref fa) ⟨[.ref a],[]⟩) (λr s'=>r=.ok (.ret (.bool true))/\OldK s₁.heap s'.heap/\s'.os=s₁.os/\AllBare s'.gens) s₁:=by
 have rv:=EH hi;have ac1:=hi.length
 have core:∀ H:Hp,Xp H->bQ K H a (ns.map V.int)->vN P w H s₁.heap->(∀ b,H b≠none->b=a)->(H a≠none->K.lookup a=none)->
   codeAny (model P w) callerA (.call (.ref fa) ⟨[.ref a],[]⟩) (λr s'=>r=.ok (.ret (.bool true))/\OldK s₁.heap s'.heap/\s'.os=s₁.os/\AllBare s'.gens) s₁:=by
  intro H hO hS hok hA hK;have Ms:∀ {b:Addr} {o:Obj},s₁.heap.get? b=some o->H b=none->(FO s₁.heap H).get? b=some o:=λe n=>Pu e n
  have ZD:∀ {b:Addr} {o:Obj} {es:Array DictEntry} {ep:Nat},s₁.heap.get? b=some o->o.data=.dict es ep->H b=none:=λ{b o es ep} e d=>by
   cases q:H b with
   | none=>rfl
   | some u =>
    have e':b=a:=hA b (by rw[q];simp);subst e';rw[ha]at e;cases e;have d':Data.seq vs.toArray _=Data.dict es ep:=d;cases d'
  have nsK:∀ {b:Addr} {m:Str->Option Value},s₁.heap.Ns b m->(FO s₁.heap H).Ns b m:=λ{b m} ⟨o,es,ep,e,d,r⟩=>⟨o,es,ep,Ms e (ZD e d),d,r⟩
  have hKb:K.In (FO s₁.heap H):=λb o e=>Ms (KX b o e) (by
   cases q:H b with
   | none=>rfl
   | some u =>
    have e':b=a:=hA b (by rw[q];simp);subst e'
    rw[hK (by rw[q];simp)]at e;cases e)
  have hM:Mod K mg (FO s₁.heap H):=⟨hKb,nsK O5,⟨mb,nsK hb,hbb⟩,let ⟨mc,h1,h2⟩:=acZ;⟨mc,nsK h1,h2⟩⟩;have e0:KA P w K mg (FO s₁.heap H) callerA [] s₁ H:=⟨rfl,hM,λb o e=>Th e,Nat.le_of_eq (NG _ _),trivial,λb hb=>absurd (show b∈([]:List Addr) from hb) (by simp),hok,.of_eq hg⟩;refine codeAny_mono ((F _ hKb (nsK O5)).run callerA [] s₁ H ⟨[.ref a],[]⟩ [.ref a] [.ref a] _ _ hr e0 (ZP s₁ (.ref a)) (.cons rfl .nil) (KC H hO hS)) λr s' h=>?_
  cases r with
  | error e=>exact (hCX H e s' h).elim
  | ok fl =>
   cases fl with
   | next=>exact False.elim h
   | brk=>exact False.elim h
   | cont=>exact False.elim h
   | ret u =>
    obtain⟨v,H',os,bare,un,KL,r',q⟩:=h;have q':v=.bl true:=q;subst q';obtain rfl:u=Value.bool true:=r';refine⟨rfl,OldK.of_keep λb o e=>?_,os,bare⟩
    cases q:H b with
    | none=>exact un.keep b o e q (by intro z;exact absurd (show b∈([]:List Addr) from z) (by simp)) (by simp)
    | some u =>
     rcases hO b with z|⟨ob,xs,z⟩
     ·rw[q]at z;cases z
     ·have z2:=un.DW b ob _ z;obtain⟨e1,_⟩:=hok b _ z;obtain⟨e2,_⟩:=KL b _ z2;rw[e]at e1;cases e1;exact e2
 cases hk:K.lookup a with
 | some o =>
  have e:=KX a o hk;rw[ha]at e;cases e;refine core (λ_=>none) (λ_=>.inl rfl) (.inr ⟨_,vs.toArray,_,hk,rfl,rfl,rfl,by rw[kC,ac1];exact hl,by simpa using rv⟩) (λb u z=>by have z':(none:Option HO)=some u:=z;cases z') (λb z=>absurd rfl z) λz=>absurd rfl z
 | none =>
  refine core (λb=>if b=a then some (.Kf { cls:=.type "list",data:=.seq vs.toArray } (.lst (ns.map V.int))) else none) (λb=>?_) (.inl (.inr ⟨{ cls:=.type "list",data:=.seq vs.toArray },if_pos rfl⟩)) (λb u z=>?_) (λb z=>?_) λ_=>hk
  ·by_cases hb:b=a
   ·exact .inr ⟨_,_,if_pos hb⟩
   ·exact .inl (if_neg hb)
  ·by_cases hb:b=a
   ·have z':=(if_pos hb).symm.trans z;cases z';subst hb;exact⟨ha,by rw[cR];exact hl,vs,_,rv,ha⟩
   ·have z':=(if_neg hb).symm.trans z;cases z'
  ·by_cases hb:b=a
   ·exact hb
   ·exact absurd (if_neg hb) z
end L2
namespace L2
open Spec Rows
theorem TR{l:PySem.W.OpenLaw}{n k:Nat}{q:Program}{EG:List Str}{XP:(Str->Option Value)->Heap->Prop}{YP:World->Heap->Prop}{d:DefRec}{K:Params->PySem.W.Frag}{CX:World->O2}{sp:World->Sp}{x:Str}
  (hn:l.most=some n) (hn2:n<=sizeLine) (ZN:d.params.defaults=[]) (hr:kH k callerA)
  (hY:∀ (w:World) (h:Heap),YP w h->(K w.params).In h)
  (F:∀ (w:World) (mg:Str->Option Value) (fa:Addr) (h:Heap),(K w.params).In h->h.Ns mainGlobals mg->mg d.name=some (.ref fa)->
   ∃ fd:FuncData,(∀ (s:Shared) (u:Value),BindsTo s fd ⟨[u],[]⟩ [(x,u)])/\
    ∀ zt:Heap,(K w.params).In zt->zt.Ns mainGlobals mg->aF l.prog w (K w.params) mg zt (CX w) k fa fd [x] (sp w))
  (KC:∀ (w:World) (H:Hp) (a:Addr) (ns:List Int),ns.length<=n->Xp H->bQ (K w.params) H a (ns.map V.int)->sp w [.ref a] H (λv _=>v=.bl true) λ_ _ _=>False)
  (hCX:∀ (w:World) (H:Hp) (s:Shared) (e:Value) (s':Shared),CX w [] H s (λ_ _ _=>False) e s'->False) :
  PySem.W.WalkO q EG XP YP l.row.toRowW d [] (λf vs=>PySem.call f vs):=by
 refine Att.HQ hn ZN λw s₀ s₁ mg mb fa o pm cd zY a vs ns G Y ho hd NI ZO Xo Qg gj hg=>?_;have KX:=hY w _ Y;obtain⟨fd,hb,hF⟩:=F w mg fa _ KX G.T.g ZO;exact Qh KX G.T.g G.T.b G.T.builtins G.T.nolimit hg Xo Qg (lJ gj hn2) hr hF hb (λH hO hS=>KC w H a ns gj hO hS) λH e s'=>hCX w H s₁ e s'
end L2
namespace L2
open Spec Rows
def sP(s:Stmt):Arguments:=match s with
 | .FunctionDef _ a _ _ _ _ _ _ _ _=>a
 | _=>{ posonlyargs:=[],args:=[],vararg:=none,kwonlyargs:=[],kw_defaults:=[],kwarg:=none,defaults:=[] }
def lM(s:Stmt):List Stmt:=match s with
 | .FunctionDef _ _ b _ _ _ _ _ _ _=>b
 | _=>[]
def aA(s:Stmt):Scope:=match s with
 | .FunctionDef _ _ _ _ _ _ sc _ _ _=>sc
 | _=>{ kind:=.function,names:=[],isGenerator:=false,isCoroutine:=false }
abbrev bI:O2:=λ_ _ _ _ _ _=>False
abbrev E0:XK:=λ_ _ _=>False
theorem ck{X:Cx}:rD bI X E0:=λ_ _ _ _ _ _ _ h=>h.elim
structure iH(K:PySem.W.Frag)(x dG:Str)(st:Stmt)(f:Addr)(fd:FuncData):Prop where
 ex:∃ (oc:Value) (od:Option Addr) (kV zY pm:Value) (an:Option Addr) (dH ct:Value) (NS:Array (Option Value)),
  fd=fnOf x dG (sP st) (lM st) (aA st) .none kV zY pm an dH ct/\K.lookup f=some ⟨oc,od,.func fd,NS⟩/\codeIn K dH dG=true
 kp:keepIn K (.ref f)=true
section
variable {P:Program} {w:World} {K:PySem.W.Frag} {mg:Str->Option Value} {zt:Heap}
theorem iH.ok{x dG:Str}{st:Stmt}{f:Addr}{N ps:List Str}{k:Nat}{sp:Sp}(F:iH K x dG st f fd)(S:aH N ps (aA st))(len:∀ vs H Q E,sp vs H Q E->vs.length=ps.length)
  (yW:∀ (dH:Value) (A:Around) (zn:List Env) (s:Shared) (H:Hp) (vs:List V) (Q:VK) (E:XK),kH k (A.deeper (envOfC dG (aA st) s.heap.objs.size f dH))->sp vs H Q E->
   ∃ t,Hg (HM bI P w K mg zt N dG (aA st) f dH A zn s H E).HJ (lM st) t/\t { nx:=λ_ H'=>Q .iZ H',rt:=Q } (start N vs) H):aF P w K mg zt bI (k+1) f fd ps sp:=by
 obtain⟨oc,od,kV,zY,pm,an,dH,ct,NS,rfl,lk,NI⟩:=F.ex;refine Vt lk NI S len λA zn s H vs Q E hr KC=>?_;obtain⟨t,h,q⟩:=yW dH A zn s H vs Q E hr KC;exact⟨t,h.HJ,q⟩
theorem iH.binds{x dG:Str}{st:Stmt}{f:Addr}{ps:List Str}(F:iH K x dG st f fd)
  (h:∀ (kV zY pm:Value) (an:Option Addr) (dH ct:Value) (us:List Value),us.length=ps.length->bindArgs (fnOf x dG (sP st) (lM st) (aA st) .none kV zY pm an dH ct) ⟨us,[]⟩=pure (ps.zip us)):Binds K fd ps []:=by
 obtain⟨oc,od,kV,zY,pm,an,dH,ct,NS,rfl,lk,NI⟩:=F.ex;exact .all (h kV zY pm an dH ct)
theorem KN{x dG:Str}{st:Stmt}{f:Addr}{oc:Value}{od an:Option Addr}{NS:Array (Option Value)}{kV zY pm dH ct:Value}(l:K.lookup f=some ⟨oc,od,.func (fnOf x dG (sP st) (lM st) (aA st) .none kV zY pm an dH ct),NS⟩)
  (c:codeIn K dH dG=true) (k:keepIn K (.ref f)=true):iH K x dG st f (fnOf x dG (sP st) (lM st) (aA st) .none kV zY pm an dH ct):=⟨⟨oc,od,kV,zY,pm,an,dH,ct,NS,rfl,l,c⟩,k⟩
end
theorem kj{A:Around}{k:Nat}(hr:kH k A):A.units+1<cLine:=Nat.lt_of_le_of_lt (Nat.add_le_add_left (by decide:1<=64) _) hr.units
section
variable {X:Cx}
theorem pv(i:Nat){x:Str}{pos:Pos}(hN:X.N[i]?=some x:=by rfl)(hv:Vis X.env.scope x:=by first|exact Or.inl rfl|exact Or.inr (Or.inl rfl)|exact Or.inr (Or.inr rfl))(hd:(x == ("__debug__":Str))=false:=by decide)
  (NI:(x == ("__classdict__":Str))=false:=by decide):PE X (.Name x pos) (WN i):=WO hN hv hd NI
end
theorem jK{A B:Prop}(h:B):if false=true then A else B:=by
 rw[if_neg vg];exact h
theorem mD{A B:Prop}(h:A):if true=true then A else B:=by
 rw[if_pos rfl];exact h
theorem dN{c A B:Prop} [Decidable c] (h1:c->A) (h2:¬ c->B):if c then A else B:=by
 by_cases h:c
 ·rw[if_pos h];exact h1 h
 ·rw[if_neg h];exact h2 h
theorem Qi{c A B:Prop} [Decidable c] (hc:c) (h:B):if (!decide c)=true then A else B:=by
 rw[decide_eq_true hc];exact jK h
def aM(H H':Hp):Prop:=∀ b o,H b=some o->H' b=some o
theorem aM.refl(H:Hp):aM H H:=λ_ _ h=>h
theorem aM.trans{H H1 H2:Hp}(a:aM H H1)(b:aM H1 H2):aM H H2:=λc o h=>b c o (a c o h)
theorem aM.free{H H':Hp}(e:aM H H'){l:Addr}(h:H' l=Option.none):H l=Option.none:=by
 cases q:H l with
 | none=>rfl
 | some o =>
  rw[e l o q]at h;cases h
end L2
namespace jL
open L2
def top(i:Nat):Stmt:=PySem.Challenge.pw_inkroot_k50_whole_places.main.body.getD i (.Pass ⟨0,0,0,0⟩)
def TU:Stmt->List Stmt
 | .ClassDef (body:=b) ..=>b
 | _=>[]
def kJ(i j:Nat):Stmt:=(TU (top i)).getD j (.Pass ⟨0,0,0,0⟩)
inductive DI(K:PySem.W.Frag)(x:Str)(st:Stmt)(f:Addr):Prop
 | mk {oc:Value} {od an:Option Addr} {NS:Array (Option Value)} {kV zY pm dH ct:Value} (_:nsIn K mainGlobals x=some (some (.ref f))) (_:K.lookup f=some ⟨oc,od,.func (fnOf x x (sP st) (lM st) (aA st) .none kV zY pm an dH ct),NS⟩) (_:codeIn K dH x=true) (_:keepIn K (.ref f)=true)
inductive MI(K:PySem.W.Frag)(C:Addr)(x dG:Str)(st:Stmt)(f:Addr):Prop
 | mk {oc:Value} {od an:Option Addr} {NS:Array (Option Value)} {kV zY pm dH ct:Value} (_:findIn K (.ref C) x=some (some (.ref f))) (_:isFn K (.ref f)=true) (_:K.lookup f=some ⟨oc,od,.func (fnOf x dG (sP st) (lM st) (aA st) .none kV zY pm an dH ct),NS⟩) (_:codeIn K dH dG=true) (_:keepIn K (.ref f)=true)
inductive CI(K:PySem.W.Frag)(x:Str)(C:Addr):Prop
 | mk (_:nsIn K mainGlobals x=some (some (.ref C))) (_:plainGet K C Str.empty=true) (_:hasDictIn K C=true) (_:plainOver K C=true) (_:findIn K (.ref C) "__setattr__"=some (some (.builtin "object.__setattr__"))) (_:makesIn K C=true) (_:keepIn K (.ref C)=true)
inductive XI(K:PySem.W.Frag)(x:Str)(C:Addr):Prop
 | mk (_:nsIn K mainGlobals x=some (some (.ref C))) (_:PySem.W.excIn K C [.type "ValueError",.type "Exception",.type "BaseException",.type "object"] "ValueError.__new__"=true) (_:PySem.W.exmOne K (.ref C) (.ref C)=some true)
inductive Qj(K:PySem.W.Frag)(vs:List V)(H:Hp)(Q:VK)(E:XK):Prop
 | mk (a:Addr) (ns:List Int) (_:vs=[.ref a]) (_:bQ K H a (ns.map V.int)) (_:ns.length<=63) (_: ∀ H',Q (.bl true) H')
abbrev Aa:Stmt:=top 69
abbrev jq:Stmt:=top 70
abbrev jM:Stmt:=top 71
abbrev mY:Stmt:=top 72
abbrev mZ:Stmt:=top 11
abbrev sQ:Stmt:=top 12
abbrev iN:Stmt:=top 14
abbrev pC:Stmt:=top 15
abbrev HR:Stmt:=top 16
abbrev mO:Stmt:=kJ 27 0
abbrev BQ:Stmt:=top 18
abbrev gH:Stmt:=top 31
abbrev m6:Stmt:=top 32
abbrev lN:Stmt:=top 39
abbrev HS:Stmt:=top 40
abbrev lO:Stmt:=top 37
abbrev jD:Stmt:=top 38
abbrev iA:Stmt:=top 33
abbrev eU:Stmt:=top 34
abbrev yi:Stmt:=top 35
abbrev nO:Stmt:=top 42
abbrev jd:Stmt:=top 43
abbrev rG:Stmt:=top 44
abbrev uJ:Stmt:=top 45
abbrev oU:Stmt:=top 46
abbrev uK:Stmt:=top 48
abbrev sR:Stmt:=top 47
abbrev rH:Stmt:=top 49
abbrev nP:Stmt:=top 50
abbrev nQ:Stmt:=top 51
abbrev m7:Stmt:=top 53
abbrev pV:Stmt:=top 54
abbrev uh:Stmt:=top 56
abbrev mP:Stmt:=kJ 57 0
abbrev jQ:Stmt:=kJ 57 3
abbrev nB:Stmt:=kJ 57 2
abbrev pW:Stmt:=kJ 57 1
abbrev jR:Stmt:=kJ 57 4
abbrev ff:Stmt:=kJ 57 5
abbrev iQ:Stmt:=kJ 57 10
abbrev sS:Stmt:=kJ 57 9
abbrev nR:Stmt:=kJ 59 0
abbrev nU:Stmt:=kJ 29 0
abbrev nV:Stmt:=kJ 61 0
abbrev kK:Stmt:=kJ 61 2
abbrev uL:Stmt:=kJ 61 1
abbrev jB:Stmt:=kJ 61 5
abbrev pX:Stmt:=kJ 61 6
abbrev qG:Stmt:=top 66
abbrev cC:Stmt:=kJ 67 1
abbrev j6:Stmt:=kJ 67 26
abbrev cU:Stmt:=kJ 67 2
abbrev nX:Stmt:=kJ 67 3
abbrev jE:Stmt:=kJ 67 7
abbrev jF:Stmt:=kJ 67 30
abbrev j7:Stmt:=kJ 67 6
abbrev lP:Stmt:=kJ 67 27
abbrev iF:Stmt:=kJ 67 4
abbrev qH:Stmt:=kJ 67 8
abbrev nY:Stmt:=kJ 67 0
abbrev qI:Stmt:=kJ 67 9
abbrev nZ:Stmt:=kJ 67 11
abbrev mQ:Stmt:=kJ 67 12
abbrev qJ:Stmt:=kJ 67 13
abbrev pD:Stmt:=kJ 67 10
abbrev kL:Stmt:=kJ 67 22
abbrev jW:Stmt:=kJ 67 37
abbrev oV:Stmt:=top 91
abbrev oW:Stmt:=top 92
abbrev sU:Stmt:=top 80
abbrev m8:Stmt:=top 81
abbrev rJ:Stmt:=top 82
abbrev sV:Stmt:=top 73
abbrev jr:Stmt:=top 75
abbrev pF:Stmt:=top 76
abbrev lQ:Stmt:=top 77
abbrev wJ:Stmt:=top 78
abbrev wK:Stmt:=top 79
abbrev mE:Stmt:=top 83
abbrev rK:Stmt:=top 84
abbrev sW:Stmt:=top 85
abbrev xH:Stmt:=kJ 67 14
abbrev uM:Stmt:=top 86
abbrev pG:Stmt:=top 87
abbrev pH:Stmt:=top 88
abbrev uN:Stmt:=top 89
abbrev yk:Stmt:=top 90
abbrev rL:Stmt:=top 93
abbrev sX:Stmt:=top 94
abbrev vS:Stmt:=top 95
abbrev qt:Stmt:=top 96
abbrev lR:Stmt:=top 97
abbrev TV:Stmt:=top 98
end jL
namespace jL
open L2
inductive Pm(K:PySem.W.Frag)(mg:Str->Option Value)(fa:Addr):Prop
 | mk {h:Heap} {D4 D5 Qk:Tok} (jt oQ qu HU Mt bV EI:Addr) (X:K.In h) (G:h.Ns mainGlobals mg) (hfa:mg "law"=some (.ref fa))
  (Mu:CI K "Shelf" jt)
  (Mw:findIn K (.ref jt) "states"=some none)
  (EJ:findIn K (.ref jt) "openings"=some none)
  (Ql:CI K "Well" oQ)
  (KO:findIn K (.ref oQ) "signs"=some none)
  (F1:findIn K (.ref oQ) "owners"=some none)
  (Ab:findIn K (.ref oQ) "pourings"=some none)
  (Mx:CI K "Blots" qu)
  (F2:findIn K (.ref qu) "stains"=some none)
  (Qm:CI K "Ties" HU)
  (Qn:findIn K (.ref HU) "given"=some none)
  (Qo:findIn K (.ref HU) "pairs"=some none)
  (Qp:CI K "Dues" Mt)
  (Vw:findIn K (.ref Mt) "sums"=some none)
  (EK:CI K "Library" bV)
  (Vx:findIn K (.ref bV) "well"=some none)
  (Qq:findIn K (.ref bV) "shelf"=some none)
  (Qs:findIn K (.ref bV) "blots"=some none)
  (Qt:findIn K (.ref bV) "knots"=some none)
  (Vy:findIn K (.ref bV) "dues"=some none)
  (Vz:findIn K (.ref bV) "book"=some none)
  (q0:DI K "_law_src" Aa f0)
  (q1:DI K "_law_next" jq f1)
  (q2:DI K "_law_whole" jM f2)
  (q3:DI K "_law_same" mY f3)
  (q4:DI K "plain" mZ f4)
  (q5:DI K "size" sQ f5)
  (q6:DI K "check_places" iN f6)
  (q7:DI K "pieces" pC f7)
  (q8:DI K "part" HR f8)
  (q9:MI K qu "__init__" "Blots.__init__" mO f9)
  (EL:DI K "places" BQ f10)
  (q11:DI K "windows" gH f11)
  (q12:DI K "below" m6 f12)
  (q13:DI K "way_between" lN f13)
  (q14:DI K "ring" HS f14)
  (q15:DI K "item_weight" lO f15)
  (q16:DI K "weights_below" jD f16)
  (q17:DI K "item_row" iA f17)
  (q18:DI K "views_below" eU f18)
  (q19:DI K "shown" yi f19)
  (q20:DI K "goes_on" nO f20)
  (q21:DI K "plain_items" jd f21)
  (q22:DI K "inked" rG f22)
  (q23:DI K "dealt" uJ f23)
  (q24:DI K "put_among" oU f24)
  (q25:DI K "put_items" uK f25)
  (q26:DI K "parted" sR f26)
  (q27:DI K "cut_items" rH f27)
  (q28:DI K "moved_items" nP f28)
  (q29:DI K "fixed_items" nQ f29)
  (q30:DI K "ink_words" m7 f30)
  (q31:DI K "shown_deed" pV f31)
  (q32:DI K "changed" uh f32)
  (q33:MI K jt "__init__" "Shelf.__init__" mP f33)
  (q34:MI K jt "now" "Shelf.now" jQ f34)
  (q35:MI K jt "many" "Shelf.many" nB f35)
  (q36:MI K jt "step" "Shelf.step" pW f36)
  (q37:MI K jt "check_sheet" "Shelf.check_sheet" jR f37)
  (q38:MI K jt "check_moment" "Shelf.check_moment" ff f38)
  (q39:MI K jt "rows_then" "Shelf.rows_then" iQ f39)
  (q40:MI K jt "rows" "Shelf.rows" sS f40)
  (q41:MI K HU "__init__" "Ties.__init__" nR f41)
  (q42:MI K Mt "__init__" "Dues.__init__" nU f42)
  (q43:MI K oQ "__init__" "Well.__init__" nV f43)
  (q44:MI K oQ "size" "Well.size" kK f44)
  (q45:MI K oQ "pour" "Well.pour" uL f45)
  (q46:MI K oQ "check_address" "Well.check_address" jB f46)
  (q47:MI K oQ "holds" "Well.holds" pX f47)
  (q48:DI K "check_weave" qG f48)
  (q49:MI K bV "__init__" "Library.__init__" nY f49)
  (q50:MI K bV "enter" "Library.enter" cC f50)
  (q51:MI K bV "change" "Library.change" cU f51)
  (q52:MI K bV "many" "Library.many" j6 f52)
  (q53:MI K bV "begin" "Library.begin" nX f53)
  (q54:MI K bV "fresh" "Library.fresh" jE f54)
  (q55:MI K bV "ink" "Library.ink" lP f55)
  (q56:MI K bV "check_held" "Library.check_held" iF f56)
  (q57:MI K bV "pour" "Library.pour" j7 f57)
  (q58:MI K bV "put" "Library.put" qH f58)
  (q59:MI K bV "shown" "Library.shown" jF f59)
  (q60:MI K bV "cut" "Library.cut" qI f60)
  (q61:MI K bV "quote" "Library.quote" nZ f61)
  (q62:MI K bV "window" "Library.window" mQ f62)
  (q63:MI K bV "fix" "Library.fix" qJ f63)
  (q64:MI K bV "move" "Library.move" pD f64)
  (q65:MI K bV "views" "Library.views" kL f65)
  (q66:MI K bV "places" "Library.places" jW f66)
  (q67:DI K "_law_sign" oV f67)
  (q68:DI K "_law_text" oW f68)
  (q69:DI K "_law_world" sU f69)
  (q70:DI K "_law_keep" m8 f70)
  (q71:DI K "_law_swap" rJ f71)
  (q72:DI K "_law_spell" sV f72)
  (q73:DI K "_law_show" jr f73)
  (q74:DI K "_law_reached" pF f74)
  (q75:DI K "_law_pieces" lQ f75)
  (q76:DI K "_law_put" wJ f76)
  (q77:DI K "_law_cut" wK f77)
  (q78:DI K "_law_weighed" mE f78)
  (q79:DI K "_law_fits" rK f79)
  (q80:DI K "_law_after" sW f80)
  (q81:MI K bV "back" "Library.back" xH f81)
  (q82:DI K "_law_done" uM f82)
  (q83:DI K "_law_ink_row" pG f83)
  (q84:DI K "_law_move_by" pH f84)
  (q85:DI K "_law_draw" uN f85)
  (q86:DI K "_law_deed" yk f86)
  (q87:DI K "_law_pour" rL f87)
  (q88:DI K "_law_fresh" sX f88)
  (q89:DI K "_law_begin" vS f89)
  (q90:DI K "_law_places_or" qt f90)
  (q91:DI K "_law_places_due" lR f91)
  (q92:DI K "law" TV f92)
  (z0:nsIn K mainGlobals "len"=some none)
  (z1:nsIn K mainGlobals "list"=some none)
  (z2:nsIn K mainGlobals "tuple"=some none)
  (z3:nsIn K mainGlobals "int"=some none)
  (z4:nsIn K mainGlobals "bool"=some none)
  (z5:nsIn K mainGlobals "str"=some none)
  (z6:nsIn K mainGlobals "range"=some none)
  (z7:nsIn K mainGlobals "zip"=some none)
  (z8:nsIn K mainGlobals "isinstance"=some none)
  (z9:nsIn K mainGlobals "sum"=some none)
  (z10:nsIn K mainGlobals "min"=some none)
  (z11:nsIn K mainGlobals "max"=some none)
  (z12:nsIn K mainGlobals "all"=some none)
  (z13:nsIn K mainGlobals "enumerate"=some none)
  (EM:XI K "OutOfInk" EI)
  (xJ:nsIn K mainGlobals "MOST_SHEETS"=some (some (.int 40 D4)))
  (xK:nsIn K mainGlobals "MOST_WEIGHT"=some (some (.int 200 D5)))
  (HV:nsIn K mainGlobals "HIDDEN"=some (some (.str "#" Qk)))
  (za:nsIn K mainGlobals "size_spans"=some (some (.ref f5)))
  (xM:nsIn K mainGlobals "shown_weave"=some (some (.ref f19)))
  (vU:nsIn K mainGlobals "places_spans"=some (some (.ref f10)))
def VA:Prop:=∀ {P:Program} {w:World} {K:PySem.W.Frag} {mg:Str->Option Value} {fa:Addr},Pm K mg fa->∃ fd:FuncData,(∀ (s:Shared) (v:Value),BindsTo s fd ⟨[v],[]⟩ [("_law_script",v)])/\∀ zt:Heap,K.In zt->zt.Ns mainGlobals mg->aF P w K mg zt bI 47 fa fd ["_law_script"] (Qj K)
theorem walk{l:PySem.W.OpenLaw}{q:Program}{EG:List Str}{XP:(Str->Option Value)->Heap->Prop}{YP:World->Heap->Prop}{d:DefRec}{K:Params->PySem.W.Frag}(hn:l.most=some 63)(ZN:d.params.defaults=[])
  (hY:∀ (w:World) (h:Heap),YP w h->(K w.params).In h)
  (F:∀ (w:World) (mg:Str->Option Value) (fa:Addr) (h:Heap),(K w.params).In h->h.Ns mainGlobals mg->mg d.name=some (.ref fa)->
   ∃ fd:FuncData,(∀ (s:Shared) (u:Value),BindsTo s fd ⟨[u],[]⟩ [("_law_script",u)])/\∀ zt:Heap,(K w.params).In zt->zt.Ns mainGlobals mg->aF l.prog w (K w.params) mg zt bI 47 fa fd ["_law_script"] (Qj (K w.params))) :
  PySem.W.WalkO q EG XP YP l.row.toRowW d [] (λf vs=>PySem.call f vs) :=
 L2.TR (n:=63) (k:=47) (x:="_law_script") (CX:=λ_=>bI) (sp:=λw=>Qj (K w.params)) hn (by decide) ZN ⟨rfl,by decide,by decide⟩ hY F (λ_ _ a ns hl _ hS=>⟨a,ns,rfl,hS,hl,λ_=>rfl⟩) λ_ _ _ _ _ z=>z
end jL
namespace InkHd
open PySem.W Rows
set_option maxRecDepth 100000 in
set_option maxHeartbeats 0 in
theorem hd2(A:jL.VA):PySem.Challenge.rw_inkroot_k50_whole_places.Holds:=by
 refine hd_k50 ?_
 k_fill
 refine jL.walk (l:=PySem.Challenge.rw_inkroot_k50_whole_places) rfl rfl (λw h Y=>kIn_of Y) ?F
 case F =>
  intro w mg fa h KX G ZO
  refine' A (.mk _ _ _ _ _ _ _ KX G ZO (.mk ..) _ _ (.mk ..) _ _ _ (.mk ..) _ (.mk ..) _ _ (.mk ..) _ (.mk ..) _ _ _ _ _ _ (.mk ..) (.mk ..) (.mk ..) (.mk ..) (.mk ..) (.mk ..) (.mk ..) (.mk ..) (.mk ..) (.mk ..) (.mk ..) (.mk ..) (.mk ..) (.mk ..) (.mk ..) (.mk ..) (.mk ..) (.mk ..) (.mk ..) (.mk ..) (.mk ..) (.mk ..) (.mk ..) (.mk ..) (.mk ..) (.mk ..) (.mk ..) (.mk ..) (.mk ..) (.mk ..) (.mk ..) (.mk ..) (.mk ..) (.mk ..) (.mk ..) (.mk ..) (.mk ..) (.mk ..) (.mk ..) (.mk ..) (.mk ..) (.mk ..) (.mk ..) (.mk ..) (.mk ..) (.mk ..) (.mk ..) (.mk ..) (.mk ..) (.mk ..) (.mk ..) (.mk ..) (.mk ..) (.mk ..) (.mk ..) (.mk ..) (.mk ..) (.mk ..) (.mk ..) (.mk ..) (.mk ..) (.mk ..) (.mk ..) (.mk ..) (.mk ..) (.mk ..) (.mk ..) (.mk ..) (.mk ..) (.mk ..) (.mk ..) (.mk ..) (.mk ..) (.mk ..) (.mk ..) (.mk ..) (.mk ..) (.mk ..) (.mk ..) (.mk ..) (.mk ..) (.mk ..) (.mk ..) (.mk ..) (.mk ..) (.mk ..) (.mk ..) (.mk ..) (.mk ..) (.mk ..) (.mk ..) (.mk ..) (.mk ..) _ _ _ _ _ _ _ _ _ _ _ _ _ _ (.mk ..) _ _ _ _ _ _)
  all_goals try first|k_is|k_exc|kts_exm
end InkHd
namespace dI
open Spec Rows L2
section
variable {X:Cx}
theorem gf:pS X (.builtin "isinstance") (λxs H Q=>∃ x T t b,xs=[x,.ty T]/\pT X.K H x t/\kitOne X.K t (.type T)=some b/\Q (.bl b) H):=by
 intro ak s σ H xs us Q I r h;obtain⟨x,T,t,b,rfl,ty,e,q⟩:=h;obtain⟨u,v,rfl,rx,rv⟩:=r.two;cases (show v=Value.type T from rv);exact NP I rx ty e λtk=>⟨.bl b,H,I.tok tk,rfl,q⟩
theorem vj{x:Str}{T:String}(hg:Gl X x)(hm:X.mg x=none)(hv:bootBuiltins x=some (.type T))(hn:x≠"__name__":=by decide)(hd:(x == ("__debug__":Str))=false:=by decide):PE X (.Name x pos) (tC (.ty T)) :=
 Tj hg hm hv rfl hn hd
end
theorem My{X:Cx}{σ:L2.St}{H:Hp}{s:Shared}{h':Heap}{t':Nat}{ch:List Addr}(I:Inv X ak σ H s)(k:∀ b o,b∉ch->s.heap.get? b=some o->h'.get? b=some o)
  (hf:∀ b∈ch,vB X ak H b):Inv X ak σ H { s with heap:=h',toks:=t' }:=by
 have Vn:∀ b u,H b=some u->b∉ch:=λb u e z=>by rw[(hf b z).1]at e;cases e
 refine I.step (g':=s.gens) (d':=s.drawn) (ch:=ch) (λb hb=>?_) (λb o _ _ hc e _=>k b o hc e) (λb o _ _ hc e _=>⟨o.slots,k b o hc e⟩) (λ_ _ _ _ n=>n) (λb o hc e=>⟨o,k b o hc e⟩) (λ_ _ e=>e) (λ_ _ _ e=>e) (λb ps e=>⟨#[],by rw[e];simp⟩) (λm hm=>?_) (λb u e=>?_) I.bare
 ·obtain⟨_,f1,_,f3,f4,f5⟩:=hf b hb;exact⟨f3,f1,f4,f5⟩
 ·obtain⟨o,es,ep,ho,r⟩:=hm;exact⟨o,es,ep,k _ o (λz=>(hf _ z).2.1 rfl) ho,r⟩
 ·refine (I.hok b u e).stay (λc v hc q=>k c v ?_ q) (λ_ q=>q) λ_ _ q=>q;rcases hc with z|z
  ·rw[z];exact Vn b u e
  ·exact Vn c _ z
theorem VB{X:Cx}{σ:L2.St}{H:Hp}{s:Shared}{h':Heap}{t':Nat}{ch:List Addr}{p:Addr}{xs:List V}{us:List Value}(I:Inv X ak σ H s)(k:∀ b o,b∉ch->s.heap.get? b=some o->h'.get? b=some o)
  (hf:∀ b∈ch,vB X ak H b) (hp:s.heap.objs.size<=p) (hz:xs.length<=sizeLine) (rv:cF xs us) (ht:IsTup h' p us.toArray):Inv X ak σ (aO H p (.tup xs)) { s with heap:=h',toks:=t' }:=by
 have hn:H p=none:=I.hok.fresh hp;have Vn:∀ b u,H b=some u->b∉ch:=λb u e z=>by rw[(hf b z).1]at e;cases e
 have nep:∀ b o,s.heap.get? b=some o->b≠p:=λb o e z=>by subst z;exact absurd (vA (Heap.lt_size e) hp) (Nat.lt_irrefl _)
 refine I.step (g':=s.gens) (d':=s.drawn) (ch:=ch) (λb hb=>?_) (λb o _ _ hc e _=>k b o hc e) (λb o _ _ hc e _=>⟨o.slots,k b o hc e⟩) (λb o _ e n=>by rw[aK (nep b o e)];exact n) (λb o hc e=>⟨o,k b o hc e⟩) (λb ys e=>by rw[aK (az e hn)];exact e) (λb _ _ e=>by rw[aK (az e hn)];exact e) (λb ps e=>⟨#[],by rw[aK (az e hn),e];simp⟩) (λm hm=>?_) (λb u e=>?_) I.bare
 ·obtain⟨_,f1,_,f3,f4,f5⟩:=hf b hb;exact⟨f3,f1,f4,f5⟩
 ·obtain⟨o,es,ep,ho,r⟩:=hm;exact⟨o,es,ep,k _ o (λz=>(hf _ z).2.1 rfl) ho,r⟩
 ·by_cases hb:b=p
  ·subst hb;rw[af]at e;cases e;exact⟨hz,us,rv,ht⟩
  ·rw[aK hb]at e;refine (I.hok b u e).stay (λc v hc q=>k c v ?_ q) (λc q=>by rw[aK (az q hn)];exact q) λc ys q=>by rw[aK (az q hn)];exact q
   rcases hc with z|z
   ·rw[z];exact Vn b u e
   ·exact Vn c _ z
def J6(k:Bool)(h:Heap)(i a:Addr)(n:Nat):Prop:=match k with
 | true=>h.IsListIter i a n
 | false=>h.IsTupleIter i a n
def DR(k:Bool)(h:Heap)(a:Addr)(xs:Array Value):Prop:=match k with
 | true=>h.IsList a xs
 | false=>h.IsTuple a xs
theorem J6.at{k:Bool}{h h':Heap}{i a:Addr}{n:Nat}(x:J6 k h i a n)(e:∀ o,h.get? i=some o->h'.get? i=some o):J6 k h' i a n:=by
 cases k
 ·obtain⟨o,ho,r⟩:=x;exact⟨o,e o ho,r⟩
 ·obtain⟨o,ho,r⟩:=x;exact⟨o,e o ho,r⟩
theorem DR.at{k:Bool}{h h':Heap}{a:Addr}{xs:Array Value}(x:DR k h a xs)(e:∀ o,h.get? a=some o->h'.get? a=some o):DR k h' a xs:=by
 cases k
 ·obtain⟨o,ho,r⟩:=x;exact⟨o,e o ho,r⟩
 ·obtain⟨o,ho,r⟩:=x;exact⟨o,e o ho,r⟩
theorem J6.obj{k:Bool}{h:Heap}{i a:Addr}{n:Nat}(x:J6 k h i a n):∃ o,h.get? i=some o/\∀ v,o.data≠.cell v:=by
 cases k
 ·obtain⟨o,ho,_,d⟩:=x;exact⟨o,ho,λv z=>by rw[d]at z;cases z⟩
 ·obtain⟨o,ho,_,d⟩:=x;exact⟨o,ho,λv z=>by rw[d]at z;cases z⟩
section
variable {prog:Program} {w:World} {A:Around} {E:Value->Shared->Prop} {s:Shared}
theorem KP{it t:Addr}{i:Nat}{items:Array Value}{x:Value}{Q:Value->Shared->Prop}(uG:s.heap.IsTupleIter it t i)(ht:s.heap.IsTuple t items)(hx:items[i]?=some x)
  (hQ:∀ h',h'.IsTupleIter it t (i+1)->Heap.SameBut it s.heap h'->Q x { s with heap:=h' }):wpAny (model prog w) A (Builtin.SmallTypes.nextOf (.ref it)) Q E s:=by
 obtain⟨o,ho,hc,hd⟩:=id uG;obtain⟨ol,hol,_,nl,TX⟩:=ht;unfold Builtin.SmallTypes.nextOf;refine wpAny_bind (wpAny_callSpecial?_slot (name:=Str.ofString "__next__") uG.typeIs F.slot_tuple_iterator_next (wpAny_call_entry F.slot_tuple_iterator_next uG.typeIs F.entry_tuple_iterator_next ?_ (F.args_tuple_iterator_next_1 _)));show wpAny _ _ (field (.ref it) 0 >>= _) _ _ s;refine wpAny_bind (wpAny_field ho hd (x:=.ref t) rfl ?_);show wpAny _ _ (if (Value.ref t == Value.none)=true then _ else _) _ _ s;rw[if_neg (show ¬ ((Value.ref t == Value.none)=true) from vg)];show wpAny _ _ (field (.ref it) 1 >>= _) _ _ s;refine wpAny_bind (wpAny_field ho hd (x:=.int i 0) rfl ?_);show wpAny _ _ (seqItems? (.ref t) >>= _) _ _ s;refine wpAny_bind (wpAny_seqItems hol TX ?_);simp only[Int.toNat_natCast,hx];refine wpAny_bind (wpAny_setField ho hd (by simp) (wpAny_pure ⟨x,rfl,wpAny_pure (hQ _ ?_ (Heap.SameBut.update ..))⟩));refine⟨_,Heap.get?_update_self _ ho (Obj.isFreed_of_fields (Obj.data_mapFields hd _)),(Obj.cls_mapFields ..).trans hc,?_⟩;rw[Obj.data_mapFields hd];simp[rawInt]
theorem NW{it t:Addr}{i:Nat}{items:Array Value}{Q:Value->Shared->Prop}(hh:A.handled=none)(uG:s.heap.IsTupleIter it t i)(ht:s.heap.IsTuple t items)(hx:items[i]?=none)
  (hE:∀ h' e,Heap.ExtBut it s.heap h'->(∃ o,h'.get? e=some o/\o.cls=.type "StopIteration")->E (.ref e) { s with heap:=h' }):wpAny (model prog w) A (Builtin.SmallTypes.nextOf (.ref it)) Q E s:=by
 obtain⟨o,ho,hc,hd⟩:=id uG;obtain⟨ol,hol,_,nl,TX⟩:=ht;unfold Builtin.SmallTypes.nextOf;refine wpAny_bind (wpAny_callSpecial?_slot (name:=Str.ofString "__next__") uG.typeIs F.slot_tuple_iterator_next (wpAny_call_entry F.slot_tuple_iterator_next uG.typeIs F.entry_tuple_iterator_next ?_ (F.args_tuple_iterator_next_1 _)));show wpAny _ _ (field (.ref it) 0 >>= _) _ _ s;refine wpAny_bind (wpAny_field ho hd (x:=.ref t) rfl ?_);show wpAny _ _ (if (Value.ref t == Value.none)=true then _ else _) _ _ s;rw[if_neg (show ¬ ((Value.ref t == Value.none)=true) from vg)];show wpAny _ _ (field (.ref it) 1 >>= _) _ _ s;refine wpAny_bind (wpAny_field ho hd (x:=.int i 0) rfl ?_);show wpAny _ _ (seqItems? (.ref t) >>= _) _ _ s;refine wpAny_bind (wpAny_seqItems hol TX ?_);simp only[Int.toNat_natCast,hx];refine wpAny_bind (wpAny_rule (wpAny_bind (wpAny_setField ho hd (by simp) ?_)));show wpAny _ _ (newExc (.type "StopIteration") [] >>= _) _ _ _;refine wpAny_bind ?_;simp only[newExc,newTuple];refine wpAny_bind (wpAny_newObj_type ?_ (by size_fits))
 refine wpAny_bind (m:=firstArgMember _ _) (wpAny_of_eq (a:=Value.none) (by first|rfl|(simp only[firstArgMember];rfl)) ?_)
 refine wpAny_newObj_type ?_ (by size_fits);simp only[raiseNew];refine wpAny_bind (wpAny_handled ?_)
 first|rw[show A.in1.handled=none from hh]|rw[hh]
 refine wpAny_bind (wpAny_pure (wpAny_throw ?_));exact hE _ _ (((Heap.SameBut.update ..).extBut.push _).push _) ⟨_,Heap.get?_push_size _ rfl,rfl⟩
theorem yo{k:Bool}{it t:Addr}{i:Nat}{items:Array Value}{x:Value}{Q:Value->Shared->Prop}(uG:J6 k s.heap it t i)(ht:DR k s.heap t items)(hx:items[i]?=some x)
  (hQ:∀ h',J6 k h' it t (i+1)->Heap.SameBut it s.heap h'->Q x { s with heap:=h' }):wpAny (model prog w) A (Builtin.SmallTypes.nextOf (.ref it)) Q E s:=by
 cases k
 ·exact KP uG ht hx hQ
 ·exact wpAny_nextOf_list_item uG ht hx hQ
theorem EN{k:Bool}{it t:Addr}{i:Nat}{items:Array Value}{Q:Value->Shared->Prop}(hh:A.handled=none)(uG:J6 k s.heap it t i)(ht:DR k s.heap t items)(hx:items[i]?=none)
  (hE:∀ h' e,Heap.ExtBut it s.heap h'->(∃ o,h'.get? e=some o/\o.cls=.type "StopIteration")->E (.ref e) { s with heap:=h' }):wpAny (model prog w) A (Builtin.SmallTypes.nextOf (.ref it)) Q E s:=by
 cases k
 ·exact NW hh uG ht hx hE
 ·exact wpAny_nextOf_list_end hh uG ht hx hE
abbrev EO(k:Bool)(l:Addr):Obj:={ cls:=.type (if k then "list_iterator" else "tuple_iterator"),data:=.fields #[.ref l,.int 0 0] }
theorem VC{k:Bool}{l:Addr}{xs:Array Value}{Q:Value->Shared->Prop}(h:DR k s.heap l xs)(hQ:Q (.ref s.heap.objs.size) { s with heap:=s.heap.push (EO k l) }):wpAny (model prog w) A (pyIter (.ref l)) Q E s:=by
 cases k
 ·exact wpAny_pyIter_tuple h hQ
 ·exact wpAny_pyIter_list h hQ
structure ER(k:Bool)(h:Heap)(z TI TO i1 i2 l1 l2:Addr)(n:Nat):Prop where
 z:IsZip h z TI TO .none
 ti:IsPair h TI (.ref i1) (.ref i2)
 to:∃ a b,IsPair h TO a b
 i1:J6 k h i1 l1 n
 i2:J6 k h i2 l2 n
theorem NY{k:Bool}{z TI TO i1 i2 l1 l2:Addr}{n:Nat}{xs ys:Array Value}{x y:Value}{Q:Value->Shared->Prop}(D:ZipApart z TI TO i1 i2 l1 l2)(st:ER k s.heap z TI TO i1 i2 l1 l2 n)
  (KQ:DR k s.heap l1 xs) (EF:DR k s.heap l2 ys) (hx:xs[n]?=some x) (hy:ys[n]?=some y)
  (hQ:∀ h',IsZip h' z TI TO (rawInt s.heap.objs.size)->IsPair h' TO x y->J6 k h' i1 l1 (n+1)->J6 k h' i2 l2 (n+1)->IsPair h' s.heap.objs.size x y->
   (∀ c o,c≠z->c≠TO->c≠i1->c≠i2->s.heap.get? c=some o->h'.get? c=some o)->Q (.ref s.heap.objs.size) { s with heap:=h' }) :
  wpAny (model prog w) A (Builtin.«zip.__next__» ⟨[.ref z],[]⟩) (λqo s'=>∃ v,qo=.done (.ret v)/\Q v s') E s:=by
 obtain⟨hz,hTI,⟨a,b,hTO⟩,h1,h2⟩:=st;show wpAny _ _ (field (.ref z) 2 >>= _) _ _ _;refine wpAny_bind (wpAny_field hz rfl (x:=.bool false) rfl ?_);show wpAny _ _ (field (.ref z) 3 >>= _) _ _ _;refine wpAny_bind (wpAny_field hz rfl (x:=.ref TI) rfl (wpAny_bind (wpAny_seqItems hTI rfl ?_)));show wpAny _ _ (Builtin.SmallTypes.ownedTupleIsFree (.ref z) >>= _) _ _ _;refine wpAny_bind ?_;unfold Builtin.SmallTypes.ownedTupleIsFree;refine wpAny_bind (wpAny_field hz rfl (x:=.none) rfl (wpAny_pure ?_));simp only[if_true];refine wpAny_bind (wpAny_rule (wpAny_bind (wpAny_field hz rfl (x:=.ref TO) rfl (wpAny_bind (wpAny_setField_rec hz (by simp) λg1 z1 c1=>?_)))))
 replace z1:IsZip g1 z TI TO .ellipsis:=z1
 refine wpAny_bind ?_;simp only[List.zipIdx_cons,List.zipIdx_nil,List.forIn_cons,List.forIn_nil];refine wpAny_bind (wpAny_bind (wpAny_onRaise ?_));show wpAny _ _ (Builtin.SmallTypes.nextOf (.ref i1) >>= _) _ _ _;refine wpAny_bind (yo (h1.at λo e=>c1.extBut _ _ D.i1z e) (KQ.at λo e=>c1.extBut _ _ D.l1z e) hx λg2 h12 c2=>wpAny_pure ?_);have o2:IsPair g2 TO a b:=c2.extBut _ _ D.TOi1 (c1.extBut _ _ D.TOz hTO);refine wpAny_bind (wpAny_seqItems o2 rfl (wpAny_bind (wpAny_updateSeq_pair o2 λg3 o3 c3=>?_)))
 replace o3:IsPair g3 TO x b:=o3
 refine wpAny_bind (wpAny_letGo (wpAny_pure (wpAny_bind (wpAny_bind (wpAny_onRaise ?_)))));show wpAny _ _ (Builtin.SmallTypes.nextOf (.ref i2) >>= _) _ _ _;refine wpAny_bind (yo (((h2.at λo e=>c1.extBut _ _ D.i2z e).at λo e=>c2.extBut _ _ D.i12.symm e).at λo e=>c3.extBut _ _ D.TOi2.symm e) (((EF.at λo e=>c1.extBut _ _ D.l2z e).at λo e=>c2.extBut _ _ D.l2i1 e).at λo e=>c3.extBut _ _ D.l2TO e) hy λg4 h24 c4=>wpAny_pure ?_);have o4:IsPair g4 TO x b:=c4.extBut _ _ D.TOi2 o3;refine wpAny_bind (wpAny_seqItems o4 rfl (wpAny_bind (wpAny_updateSeq_pair o4 λg5 o5 c5=>?_)))
 replace o5:IsPair g5 TO x y:=o5
 refine wpAny_bind (wpAny_letGo (wpAny_pure (wpAny_pure (wpAny_bind (wpAny_seqItems o5 rfl (wpAny_bind (wpAny_newTuple ?_)))))));have sz:g5.objs.size=s.heap.objs.size:=by rw[c5.1,c4.1,c3.1,c2.1,c1.1]
 have z5:IsZip g5 z TI TO .ellipsis:=c5.extBut _ _ D.TOz.symm (c4.extBut _ _ D.i2z.symm (c3.extBut _ _ D.TOz.symm (c2.extBut _ _ D.i1z.symm z1)));have k5:∀ c o,c≠z->c≠TO->c≠i1->c≠i2->s.heap.get? c=some o->g5.get? c=some o:=λc o n1 n2 n3 n4 e=>c5.extBut _ _ n2 (c4.extBut _ _ n4 (c3.extBut _ _ n2 (c2.extBut _ _ n3 (c1.extBut _ _ n1 e))));have h15:J6 k g5 i1 l1 (n+1):=((h12.at λo e=>c3.extBut _ _ D.TOi1.symm e).at λo e=>c4.extBut _ _ D.i12 e).at λo e=>c5.extBut _ _ D.TOi1.symm e;have h25:J6 k g5 i2 l2 (n+1):=h24.at λo e=>c5.extBut _ _ D.TOi2.symm e;have zlt:z<g5.objs.size:=Heap.lt_size z5;show wpAny _ _ (Builtin.SmallTypes.ownedTupleHandOut (.ref z) (.ref g5.objs.size) >>= _) _ _ _;refine wpAny_bind ?_;unfold Builtin.SmallTypes.ownedTupleHandOut;have z6:IsZip (g5.push { cls:=.type "tuple",data:=.seq #[x,y] }) z TI TO .ellipsis:=Heap.get?_push_of_some _ z5;refine wpAny_bind (wpAny_setField_rec z6 (by simp) λg7 z7 c7=>?_)
 replace z7:IsZip g7 z TI TO (rawInt g5.objs.size):=z7
 refine wpAny_setField_rec z7 (by simp) λg8 z8 c8=>?_
 replace z8:IsZip g8 z TI TO (rawInt g5.objs.size):=z8
 have up:∀ c o,c≠z->g5.get? c=some o->g8.get? c=some o:=λc o n1 e=>c8.extBut _ _ n1 (c7.extBut _ _ n1 (Heap.get?_push_of_some _ e));have t8:IsPair g8 g5.objs.size x y:=c8.extBut _ _ (Nat.ne_of_gt zlt) (c7.extBut _ _ (Nat.ne_of_gt zlt) (Heap.get?_push_size _ rfl));rw[sz]at z8 t8;refine wpAny_pure ⟨_,rfl,?_⟩;show Q (.ref g5.objs.size) _;rw[sz];exact hQ g8 z8 (up _ _ D.TOz o5) (h15.at λo e=>up _ o D.i1z e) (h25.at λo e=>up _ o D.i2z e) t8 λc o n1 n2 n3 n4 e=>up c o n1 (k5 c o n1 n2 n3 n4 e)
theorem Qu{k:Bool}{z TI TO i1 i2 l1 l2:Addr}{n:Nat}{xs ys:Array Value}{Q:Fin->Shared->Prop}(hh:A.handled=none)(D:ZipApart z TI TO i1 i2 l1 l2)(st:ER k s.heap z TI TO i1 i2 l1 l2 n)
  (KQ:DR k s.heap l1 xs) (EF:DR k s.heap l2 ys) (Xq:xs[n]?=none\/ys[n]?=none)
  (hE:∀ h' e,(∀ c o,c≠z->c≠TO->c≠i1->c≠i2->s.heap.get? c=some o->h'.get? c=some o)->(∃ o,h'.get? e=some o/\o.cls=.type "StopIteration")->E (.ref e) { s with heap:=h' }) :
  wpAny (model prog w) A (Builtin.«zip.__next__» ⟨[.ref z],[]⟩) Q E s:=by
 obtain⟨hz,hTI,⟨a,b,hTO⟩,h1,h2⟩:=st;show wpAny _ _ (field (.ref z) 2 >>= _) _ _ _;refine wpAny_bind (wpAny_field hz rfl (x:=.bool false) rfl ?_);show wpAny _ _ (field (.ref z) 3 >>= _) _ _ _;refine wpAny_bind (wpAny_field hz rfl (x:=.ref TI) rfl (wpAny_bind (wpAny_seqItems hTI rfl ?_)));show wpAny _ _ (Builtin.SmallTypes.ownedTupleIsFree (.ref z) >>= _) _ _ _;refine wpAny_bind ?_;unfold Builtin.SmallTypes.ownedTupleIsFree;refine wpAny_bind (wpAny_field hz rfl (x:=.none) rfl (wpAny_pure ?_));simp only[if_true];refine wpAny_bind (wpAny_rule (wpAny_bind (wpAny_field hz rfl (x:=.ref TO) rfl (wpAny_bind (wpAny_setField_rec hz (by simp) λg1 z1 c1=>?_)))))
 replace z1:IsZip g1 z TI TO .ellipsis:=z1
 refine wpAny_bind ?_;simp only[List.zipIdx_cons,List.zipIdx_nil,List.forIn_cons,List.forIn_nil];refine wpAny_bind (wpAny_bind (wpAny_onRaise ?_));show wpAny _ _ (Builtin.SmallTypes.nextOf (.ref i1) >>= _) _ _ _
 cases hx:xs[n]? with
 | none =>
  refine wpAny_bind (EN hh (h1.at λo e=>c1.extBut _ _ D.i1z e) (KQ.at λo e=>c1.extBut _ _ D.l1z e) hx λg2 e c2 he=>?_);obtain⟨oe,Xr,hce⟩:=he;have z2:IsZip g2 z TI TO .ellipsis:=c2 _ _ D.i1z.symm z1;have hez:e≠z:=λx=>by subst x;rw[z2]at Xr;cases Xr;simp at hce
  exact wpAny_setField_rec z2 (by simp) λg3 _ c3=>hE g3 e (λc o n1 _ n3 _ x=>c3.extBut _ _ n1 (c2 _ _ n3 (c1.extBut _ _ n1 x))) ⟨oe,c3.extBut _ _ hez Xr,hce⟩
 | some x =>
  have hy:ys[n]?=none:=by rcases Xq with h|h;(rw[hx]at h;cases h);exact h
  refine wpAny_bind (yo (h1.at λo e=>c1.extBut _ _ D.i1z e) (KQ.at λo e=>c1.extBut _ _ D.l1z e) hx λg2 h12 c2=>wpAny_pure ?_);have o2:IsPair g2 TO a b:=c2.extBut _ _ D.TOi1 (c1.extBut _ _ D.TOz hTO);refine wpAny_bind (wpAny_seqItems o2 rfl (wpAny_bind (wpAny_updateSeq_pair o2 λg3 o3 c3=>?_)));refine wpAny_bind (wpAny_letGo (wpAny_pure (wpAny_bind (wpAny_bind (wpAny_onRaise ?_)))));show wpAny _ _ (Builtin.SmallTypes.nextOf (.ref i2) >>= _) _ _ _;refine wpAny_bind (EN hh (((h2.at λo e=>c1.extBut _ _ D.i2z e).at λo e=>c2.extBut _ _ D.i12.symm e).at λo e=>c3.extBut _ _ D.TOi2.symm e) (((EF.at λo e=>c1.extBut _ _ D.l2z e).at λo e=>c2.extBut _ _ D.l2i1 e).at λo e=>c3.extBut _ _ D.l2TO e) hy λg4 e c4 he=>?_);obtain⟨oe,Xr,hce⟩:=he;have z4:IsZip g4 z TI TO .ellipsis:=c4 _ _ D.i2z.symm (c3.extBut _ _ D.TOz.symm (c2.extBut _ _ D.i1z.symm z1));have hez:e≠z:=λx=>by subst x;rw[z4]at Xr;cases Xr;simp at hce
  exact wpAny_setField_rec z4 (by simp) λg5 _ c5=>hE g5 e (λc o n1 n2 n3 n4 x=>c5.extBut _ _ n1 (c4 _ _ n4 (c3.extBut _ _ n2 (c2.extBut _ _ n3 (c1.extBut _ _ n1 x))))) ⟨oe,c5.extBut _ _ hez Xr,hce⟩
theorem KR{k:Bool}{z TI TO i1 i2 l1 l2:Addr}{n:Nat}{xs ys:Array Value}{x y:Value}{Q:Option Value->Shared->Prop}(D:ZipApart z TI TO i1 i2 l1 l2)(st:ER k s.heap z TI TO i1 i2 l1 l2 n)
  (KQ:DR k s.heap l1 xs) (EF:DR k s.heap l2 ys) (hx:xs[n]?=some x) (hy:ys[n]?=some y)
  (hQ:∀ h',IsZip h' z TI TO (rawInt s.heap.objs.size)->IsPair h' TO x y->J6 k h' i1 l1 (n+1)->J6 k h' i2 l2 (n+1)->IsPair h' s.heap.objs.size x y->
   (∀ c o,c≠z->c≠TO->c≠i1->c≠i2->s.heap.get? c=some o->h'.get? c=some o)->Q (some (.ref s.heap.objs.size)) { s with heap:=h' }):wpAny (model prog w) A (pyNext (.ref z)) Q E s:=by
 have hT:s.TypeIs (.ref z) "zip":=⟨_,st.z,rfl⟩;unfold pyNext;exact wpAny_bind (wpAny_attempt (wpAny_callSpecial?_slot (name:=Str.ofString "__next__") hT F.slot_zip_next (wpAny_call_entry F.slot_zip_next hT F.entry_zip_next (NY D st KQ EF hx hy λh' a1 a2 a3 a4 a5 a7=>wpAny_pure (hQ h' a1 a2 a3 a4 a5 a7)) (F.args_zip_next_1 _))))
theorem NZ{k:Bool}{z TI TO i1 i2 l1 l2:Addr}{n:Nat}{xs ys:Array Value}{Q:Option Value->Shared->Prop}(hh:A.handled=none)(D:ZipApart z TI TO i1 i2 l1 l2)(st:ER k s.heap z TI TO i1 i2 l1 l2 n)
  (KQ:DR k s.heap l1 xs) (EF:DR k s.heap l2 ys) (Xq:xs[n]?=none\/ys[n]?=none)
  (hQ:∀ h',(∀ c o,c≠z->c≠TO->c≠i1->c≠i2->s.heap.get? c=some o->h'.get? c=some o)->Q none { s with heap:=h' }):wpAny (model prog w) A (pyNext (.ref z)) Q E s:=by
 have hT:s.TypeIs (.ref z) "zip":=⟨_,st.z,rfl⟩;unfold pyNext;refine wpAny_bind (wpAny_attempt (wpAny_callSpecial?_slot (name:=Str.ofString "__next__") hT F.slot_zip_next (wpAny_call_entry F.slot_zip_next hT F.entry_zip_next (Qu hh D st KQ EF Xq λh' e hk he=>?_) (F.args_zip_next_1 _))));obtain⟨o,ho,hc⟩:=he;exact wpAny_bind (wpAny_isInstance (T:="StopIteration") (b:=true) ⟨o,ho,hc⟩ isSubtype_stop (wpAny_pure (hQ _ hk)))
end
abbrev zH1(k:Bool)(h:Heap)(l1:Addr):Heap:=h.push (EO k l1)
abbrev zH2(k:Bool)(h:Heap)(l1 l2:Addr):Heap:=(zH1 k h l1).push (EO k l2)
abbrev zH3(k:Bool)(h:Heap)(l1 l2:Addr):Heap:=(zH2 k h l1 l2).push { cls:=.type "tuple",data:=.seq #[.ref h.objs.size,.ref (zH1 k h l1).objs.size] }
abbrev zH4(k:Bool)(h:Heap)(l1 l2:Addr):Heap:=(zH3 k h l1 l2).push { cls:=.type "tuple",data:=.seq #[.none,.none] }
abbrev YM(k:Bool)(h:Heap)(l1 l2:Addr):Heap:=(zH4 k h l1 l2).push { cls:=.type "zip",data:=.fields #[.none,.bool false,.bool false,.ref (zH2 k h l1 l2).objs.size,.ref (zH3 k h l1 l2).objs.size] }
theorem KS(k:Bool)(l1 l2:Addr)(xs ys:Array Value) :
  Meets (Builtin.«zip.__new__» ⟨[.type "zip",.ref l1,.ref l2],[]⟩) (λ_ R s=>DR k s.heap l1 xs/\DR k s.heap l2 ys/\R (.ok (.ret (.ref (zH4 k s.heap l1 l2).objs.size))) { s with heap:=YM k s.heap l1 l2 }) :=
 .of_wp λprog w A R s h=>by
  obtain⟨hp,g,d,tk,os⟩:=s;obtain⟨KQ,EF,h⟩:=h;have hsub:=sub_zip;have hL1:DR k (Shared.heap ⟨hp,g,d,tk,os⟩) l1 xs:=KQ;have hL2:DR k (Shared.heap ⟨hp.push (EO k l1),g,d,tk,os⟩) l2 ys:=EF.at λo e=>Heap.get?_push_of_some _ e
  wp_walk using VC hL1,VC hL2
  exact⟨_,rfl,h⟩
section
variable {prog:Program} {w:World} {A:Around} {E:Value->Shared->Prop} {s:Shared}
theorem N1{k:Bool}{l1 l2:Addr}{xs ys:Array Value}{Q:Value->Shared->Prop}(KQ:DR k s.heap l1 xs)(EF:DR k s.heap l2 ys)
  (h:∀ h',ER k h' (s.heap.objs.size+4) (s.heap.objs.size+2) (s.heap.objs.size+3) s.heap.objs.size (s.heap.objs.size+1) l1 l2 0->(∀ c o,s.heap.get? c=some o->h'.get? c=some o)->Q (.ref (s.heap.objs.size+4)) { s with heap:=h' }) :
  wpAny (model prog w) A (call (.type "zip") [.ref l1,.ref l2]) Q E s:=by
 refine callType_new F.called_zip (by decide) (F.typeCall_zip_2 _ _) (F.newCall_zip_2 _ _) (λobj=>F.args_object_init_3 obj _ _) F.entry_zip_new (KS k l1 l2 xs ys) ⟨KQ,EF,?_⟩;have z1:(zH1 k s.heap l1).objs.size=s.heap.objs.size+1:=Heap.size_push ..;have z2:(zH2 k s.heap l1 l2).objs.size=s.heap.objs.size+2:=by rw[Heap.size_push,z1]
 have z3:(zH3 k s.heap l1 l2).objs.size=s.heap.objs.size+3:=by rw[Heap.size_push,z2]
 have z4:(zH4 k s.heap l1 l2).objs.size=s.heap.objs.size+4:=by rw[Heap.size_push,z3]
 have g5:(YM k s.heap l1 l2).get? (zH4 k s.heap l1 l2).objs.size=some _:=Heap.get?_push_size _ rfl;have g4:(YM k s.heap l1 l2).get? (zH3 k s.heap l1 l2).objs.size=some _:=Heap.get?_push_of_some _ (Heap.get?_push_size _ rfl);have g3:(YM k s.heap l1 l2).get? (zH2 k s.heap l1 l2).objs.size=some _:=Heap.get?_push_of_some _ (Heap.get?_push_of_some _ (Heap.get?_push_size _ rfl));have g2:(YM k s.heap l1 l2).get? (zH1 k s.heap l1).objs.size=some (EO k l2):=Heap.get?_push_of_some _ (Heap.get?_push_of_some _ (Heap.get?_push_of_some _ (Heap.get?_push_size _ rfl)));have g1:(YM k s.heap l1 l2).get? s.heap.objs.size=some (EO k l1):=Heap.get?_push_of_some _ (Heap.get?_push_of_some _ (Heap.get?_push_of_some _ (Heap.get?_push_of_some _ (Heap.get?_push_size _ rfl))));show _/\_;rw[z2,z3,z4]at g5;rw[z1,z2]at g3;rw[z3]at g4;rw[z1]at g2;rw[z4];refine⟨⟨_,g5,rfl⟩,h _ ⟨g5,g3,⟨_,_,g4⟩,?_,?_⟩ λc o x=>Heap.get?_push_of_some _ (Heap.get?_push_of_some _ (Heap.get?_push_of_some _ (Heap.get?_push_of_some _ (Heap.get?_push_of_some _ x))))⟩
 ·cases k
  ·exact⟨_,g1,rfl,rfl⟩
  ·exact⟨_,g1,rfl,rfl⟩
 ·cases k
  ·exact⟨_,g2,rfl,rfl⟩
  ·exact⟨_,g2,rfl,rfl⟩
end
def Mz(K:PySem.W.Frag)(k:Bool)(H:Hp)(a:Addr)(xs:List V):Prop:=match k with
 | true=>bQ K H a xs
 | false=>eL K H a xs
theorem Ac{X:Cx}{σ:L2.St}{H:Hp}{s:Shared}{k:Bool}{a:Addr}{xs:List V}(I:Inv X ak σ H s)(h:Mz X.K k H a xs):∃ aQ:List Value,cF xs aQ/\DR k s.heap a aQ.toArray/\xs.length<=sizeLine:=by
 cases k
 ·obtain⟨aQ,r,p,z⟩:=I.tuple h;exact⟨aQ,r,p,z⟩
 ·obtain⟨aQ,r,p,z⟩:=I.list h;exact⟨aQ,r,p.isList,z⟩
theorem MA{X:Cx}{σ:L2.St}{H:Hp}{s:Shared}{k:Bool}{a:Addr}{xs ys:List V}(I:Inv X ak σ H s)(h:Mz X.K k H a xs)(h':Mz X.K k H a ys):xs=ys:=by
 cases k
 ·exact I.Ez h h'
 ·exact I.Ce h h'
theorem Qv{k:Bool}{h:Heap}{a:Addr}{xs:Array Value}(x:DR k h a xs):a<h.objs.size:=by
 cases k
 ·obtain⟨o,ho,_⟩:=x;exact Heap.lt_size ho
 ·obtain⟨o,ho,_⟩:=x;exact Heap.lt_size ho
def ZQ(K:PySem.W.Frag)(k:Bool)(a1 a2:Addr):It :=
 ⟨λi H=>∃ xs ys x y,Mz K k H a1 xs/\Mz K k H a2 ys/\xs[i]?=some x/\ys[i]?=some y,λi H v H'=>∃ p x y,H p=none/\v=.ref p/\H'=aO H p (.tup [x,y])/\(∀ xs,Mz K k H a1 xs->xs[i]?=some x)/\∀ ys,Mz K k H a2 ys->ys[i]?=some y,λi H=>∃ xs ys,Mz K k H a1 xs/\Mz K k H a2 ys/\(xs.length<=i\/ys.length<=i)⟩
theorem Qw{P:Program}{w:World}{K:PySem.W.Frag}{x1:Nat}{k:Bool}{z TI TO i1 i2 l1 l2:Addr}(D:ZipApart z TI TO i1 i2 l1 l2) :
  Kp P w K (.Tuple KU x1 DZ) (ZQ K k l1 l2) [z,TI,TO,i1,i2] z (λi h=>ER k h z TI TO i1 i2 l1 l2 i) where
 mem:=by simp
 obj:=λi h st b hb=>by
  obtain⟨hz,hTI,⟨a,c,hTO⟩,h1,h2⟩:=st;simp only[List.mem_cons,List.not_mem_nil,or_false]at hb;rcases hb with rfl|rfl|rfl|rfl|rfl
  ·exact⟨_,hz,λv e=>by cases e⟩
  ·exact⟨_,hTI,λv e=>by cases e⟩
  ·exact⟨_,hTO,λv e=>by cases e⟩
  ·exact h1.obj
  ·exact h2.obj
 keep:=λi h h' st kk=>by
  obtain⟨hz,hTI,⟨a,c,hTO⟩,h1,h2⟩:=st;exact⟨kk z (by simp) _ hz,kk TI (by simp) _ hTI,⟨a,c,kk TO (by simp) _ hTO⟩,h1.at λo e=>kk i1 (by simp) o e,h2.at λo e=>kk i2 (by simp) o e⟩
 item:=by
  intro X hP hw hK hc i ak s σ H E I hf st hg;subst hP hw hK;obtain⟨xs,ys,x,y,q1,q2,e1,e2⟩:=hg;obtain⟨us,r1,p1,_⟩:=Ac I q1;obtain⟨vs,r2,p2,_⟩:=Ac I q2;obtain⟨u,eu,ru⟩:=r1.get e1;obtain⟨v,ev,rv⟩:=r2.get e2;refine KR (x:=u) (y:=v) D st p1 p2 (by simpa using eu) (by simpa using ev) λh' g1 g2 g3 g4 g5 g7=>?_;refine⟨_,rfl,wpAny_letOwnedTupleGo_zip g1 λh2 hz2 c2=>?_⟩;have ne:∀ {b o},s.heap.get? b=some o->s.heap.objs.size≠b:=λe=>Nat.ne_of_gt (Heap.lt_size e)
  have k2:∀ b o,b∉[z,TI,TO,i1,i2]->s.heap.get? b=some o->h2.get? b=some o:=λb o hb e=>by
   simp only[List.mem_cons,List.not_mem_nil,or_false,not_or]at hb;exact c2.extBut _ _ hb.1 (g7 b o hb.1 hb.2.2.1 hb.2.2.2.1 hb.2.2.2.2 e)
  have I2:Inv X ak σ (aO H s.heap.objs.size (.tup [x,y])) { s with heap:=h2,toks:=s.toks } := VB I k2 hf (ja _) (by show 2<=sizeLine;decide) (.cons ru (.cons rv .nil)) ⟨_,c2.extBut _ _ (ne st.z) g5,rfl,_,rfl⟩;refine⟨.ref s.heap.objs.size,_,I2,rfl,⟨_,x,y,I.hok.fresh (ja _),rfl,rfl,λxs' q=>?_,λys' q=>?_⟩,?_,λb hb=>?_⟩
  ·rw[MA I q q1];exact e1
  ·rw[MA I q q2];exact e2
  ·exact⟨hz2,c2.extBut _ _ D.TIz (g7 _ _ D.TIz D.TITO D.TIi1 D.TIi2 st.ti),⟨u,v,c2.extBut _ _ D.TOz g2⟩,g3.at λo e=>c2.extBut _ _ D.i1z e,g4.at λo e=>c2.extBut _ _ D.i2z e⟩
  ·have vQ:∃ o,s.heap.get? b=some o:=by
    obtain⟨hz,hTI,⟨a,c,hTO⟩,h1,h2⟩:=st;simp only[List.mem_cons,List.not_mem_nil,or_false]at hb;rcases hb with rfl|rfl|rfl|rfl|rfl
    ·exact⟨_,hz⟩
    ·exact⟨_,hTI⟩
    ·exact⟨_,hTO⟩
    ·exact h1.obj.imp λ_ e=>e.1
    ·exact h2.obj.imp λ_ e=>e.1
   obtain⟨o,e⟩:=vQ;rw[aK (ne e).symm];exact (hf b hb).1
 done:=by
  intro X hP hw hK hc i ak s σ H E I hf st hg;subst hP hw hK;obtain⟨xs,ys,q1,q2,e⟩:=hg;obtain⟨us,r1,p1,_⟩:=Ac I q1;obtain⟨vs,r2,p2,_⟩:=Ac I q2;have l1:=r1.length;have l2:=r2.length;refine NZ (I.ok.hd hc) D st p1 p2 (e.imp (λe=>by simp;lia) (λe=>by simp;lia)) λh' kk=>⟨rfl,My (t':=s.toks) (ch:=[z,TI,TO,i1,i2]) I (λb o hb e=>?_) hf⟩;simp only[List.mem_cons,List.not_mem_nil,or_false,not_or]at hb;exact kk b o hb.1 hb.2.2.1 hb.2.2.2.1 hb.2.2.2.2 e
 self:=λ_ _ _ _ _ st h=>wpAny_pyIter_zip st.z h
def ac6(K:PySem.W.Frag)(ta:TA):TI:=fun σ H R=>ta σ H λvs H1=>∃ k a1 a2 xs ys,vs=[.ref a1,.ref a2]/\Mz K k H1 a1 xs/\Mz K k H1 a2 ys/\R (ZQ K k a1 a2) H1
theorem Xs{X:Cx}{x1:Nat}{a b:Expr}{ta:TA}{p:Pos}(hg:Gl X "zip")(hm:X.mg "zip"=none)(ha:PA X [a,b] ta)
  (hs:starEach [a,b] X.env=[(false,eval a X.env),(false,eval b X.env)]:=by rfl) (Kw:starEach [b] X.env=[(false,eval b X.env)]:=by rfl):PI X (.Tuple KU x1 DZ) (.Call (.Name "zip" p) [a,b] [] pos) (ac6 X.K ta):=by
 intro ak s σ H R I h;refine Call_ (zT I hg hm boot_zip (PyProof.Rows.callWith_type1 (dD (ha pos ak s σ H _ I h) λus s1 ⟨vs,H1,I1,r1,q1⟩=>?_) (by rw[hs,Kw]) (by rw[Kw];rfl)));obtain⟨k,a1,a2,xs,ys,e,q1,q2,q⟩:=q1;subst e;obtain⟨u1,u2,rfl,e1,e2⟩:=r1.two;cases (show u1=Value.ref a1 from e1);cases (show u2=Value.ref a2 from e2);obtain⟨us,rr1,p1,_⟩:=Ac I1 q1;obtain⟨ws,rr2,p2,_⟩:=Ac I1 q2;have b1:=Qv p1;have b2:=Qv p2;refine N1 p1 p2 λh' st kk=>wpAny_pyIter_zip st.z ?_;have I2:Inv X ak σ H1 { s1 with heap:=h',toks:=s1.toks }:=I1.kept kk;refine⟨_,_,_,_,H1,rfl,I2,Qw (zipApart_new b1 b2),st,λb hb=>?_,q⟩
 have hb':s1.heap.objs.size<=b:=by
  simp only[List.mem_cons,List.not_mem_nil,or_false]at hb;rcases hb with rfl|rfl|rfl|rfl|rfl
  ·exact Nat.le_add_right _ _
  ·exact Nat.le_add_right _ _
  ·exact Nat.le_add_right _ _
  ·exact ja _
  ·exact Nat.le_add_right _ _
 exact I1.NJ hb' (I1.hok.fresh hb')
theorem TY{K:PySem.W.Frag}{k:Bool}{a1:Addr}{xs ys:List V}{g:TG}{tb:TS}{D:Ends}{σ:L2.St}{H:Hp}(Pv:Nat->L2.St->Hp->Prop)(hn:xs.length=ys.length)(h0:Pv 0 σ H)
  (hl:∀ i σ H,i<=xs.length->Pv i σ H->Mz K k H a1 xs/\Mz K k H a2 ys)
  (hs:∀ i x y p σ H,xs[i]?=some x->ys[i]?=some y->H p=none->Pv i σ H->g (.ref p) σ (aO H p (.tup [x,y])) fun σ2 H2=>tb { D with nx:=Pv (i+1),ct:=Pv (i+1),bk:=D.nx } σ2 H2) (hd:∀ σ H,Pv xs.length σ H->D.nx σ H) :
  ∃ W:Nat->Nat->L2.St->Hp->Prop,(∃ m,W 0 m σ H)/\∀ i m σ H,W i m σ H->
   ((ZQ K k a1 a2).stop i H/\D.nx σ H)\/((ZQ K k a1 a2).go i H/\∃ N:L2.St->Hp->Prop,(∀ σ' H',N σ' H'->∃ m',m'<m/\W (i+1) m' σ' H')/\∀ x H',(ZQ K k a1 a2).Sz i H x H'->g x σ H' fun σ2 H2=>tb { D with nx:=N,ct:=N,bk:=D.nx } σ2 H2):=by
 refine⟨λi m σ H=>m=xs.length-i/\i<=xs.length/\Pv i σ H,⟨xs.length,by simp,Nat.zero_le _,h0⟩,?_⟩;rintro i m σ H ⟨rfl,hi,p⟩;obtain⟨q1,q2⟩:=hl i σ H hi p;by_cases vQ:i<xs.length
 ·have ac7:i<ys.length:=by lia
  refine .inr ⟨⟨xs,ys,xs[i],ys[i],q1,q2,by simp[vQ],by simp[ac7]⟩,Pv (i+1),fun σ' H' p'=>⟨xs.length-(i+1),by lia,rfl,vQ,p'⟩,λx H' y=>?_⟩;obtain⟨a,x',y',Ze,rfl,rfl,e1,e2⟩:=y;exact hs i x' y' a σ _ (e1 xs q1) (e2 ys q2) Ze p
 ·have e:i=xs.length:=by lia
  subst e;exact .inl ⟨⟨xs,ys,q1,q2,.inl (ja _)⟩,hd σ H p⟩
def zb(lo:Int)(n:Nat):List V:=(List.range n).map λi:Nat=>V.int (lo+i)
section
variable {X:Cx}
theorem HW:pS X (.type "range") (λxs H Q=>∃ i j:Int,xs=[.int i,.int j]/\∀ p,H p=none->Q (.ref p) (aO H p (.DV i j))):=by
 intro ak s σ H xs us Q I r h;obtain⟨i,j,rfl,q⟩:=h;obtain⟨u1,u2,rfl,⟨t,rfl⟩,⟨t',rfl⟩⟩:=r.two;refine call_range_2 ⟨.ref s.heap.objs.size,_,I.laid (o:=.DV i j) (λb o e=>Heap.get?_push_of_some _ e) (ja _) ⟨t,t',s.toks,Heap.get?_push_size _ rfl⟩,rfl,q _ (I.hok.fresh (ja _))⟩
theorem tS(hc:X.calm=true):pS X (.type "list") (λxs H Q=>∃ p i j,xs=[.ref p]/\H p=some (.DV i j)/\(-(2^62)<=i/\i<2^62/\-(2^62)<=j/\j<2^62)/\(j-i).toNat<=sizeLine/\
  ∀ l,H l=none->Q (.ref l) (aO H l (.lst (zb i (j-i).toNat)))):=by
 intro ak s σ H xs us Q I r h;obtain⟨p,i,j,rfl,hp,⟨b1,b2,b3,b4⟩,hz,q⟩:=h;obtain⟨u,rfl,rx⟩:=r.one;cases (show u=Value.ref p from rx);obtain⟨t,u,v,e⟩:=(show jc X.prog X.w H s.heap p (.DV i j) from I.hok p _ hp)
 have e2:Builtin.Range.rangeSize i j 1=(((j-i).toNat:Nat):Int):=by rw[rangeSize_one];split <;> lia
 have hz':(j-i).toNat<=2^24:=by have:=sizeLine_eq;lia
 refine call_list_range (I.ok.hd hc) e (small_one b1 b2 b3 b4) e2 hz' λh' tk vD c' hk hS dh=>?_;refine⟨.ref s.heap.objs.size,_,I.laid (o:=.lst (zb i (j-i).toNat)) (t':=tk) hk (ja _) ⟨?_,vD.toList,c',?_,by simpa using hS⟩,rfl,q _ (I.hok.fresh (ja _))⟩
 ·unfold zb;simpa using hz
 ·have hl:vD.toList.length=(j-i).toNat:=by simpa using dh.1
  have key:∀ (n:Nat) (us:List Value) (lo:Int),us.length=n->(∀ k v,us[k]?=some v->∃ t,v=Value.int (lo+(k:Nat)*1) t)->cF ((List.range n).map λi:Nat=>V.int (lo+i)) us:=by
   intro n
   induction n with
   | zero=>intro us lo hl _;cases us with
    | nil=>exact .nil
    | cons=>simp at hl
   | succ n ih =>
    intro us lo hl hv
    cases us with
    | nil=>simp at hl
    | cons u us =>
     rw[List.range_succ_eq_map,oJ,List.map_map];refine .cons ?_ ?_
     ·obtain⟨t,e⟩:=hv 0 u rfl;exact⟨t,by rw[e];simp⟩
     ·have:=ih us (lo+1) (by simpa using hl) λk v e=>by
       obtain⟨t,e'⟩:=hv (k+1) v (by simpa using e);refine⟨t,?_⟩;rw[e'];have:lo+((k+1:Nat):Int)*1=lo+1+(k:Int)*1:=by lia
       rw[this]
      have e3:((λi:Nat=>V.int (lo+i)) ∘ Nat.succ)=λi:Nat=>V.int (lo+1+i):=by
       funext i;simp only[Function.comp,Nat.succ_eq_add_one];have:lo+((i+1:Nat):Int)=lo+1+(i:Int):=by lia
       rw[this]
      rw[e3];exact this
  exact key _ _ i hl λk v e=>dh.2 k v (by simpa using e)
end
section
variable {X:Cx}
theorem Qx{j:Int}(h0:0<j)(h1:j<10^70):j.natAbs.log2<9000:=by
 have h:j.natAbs<2^9000:=Nat.lt_trans (show j.natAbs<10^70 by lia) (by decide +kernel);exact (Nat.log2_lt (by lia)).mpr h
theorem HX:yM X (binaryOp .FloorDiv) (rI (λ_ j=>0<j/\j<10^70) λi j=>.int (i / j)):=opI λi j _ _ _ _ _ hc q=>by
 have h1:(0:Int)<j:=hc.1;exact floordiv_int (by lia) (by rw[Int.fdiv_eq_ediv_of_nonneg i (by lia)];exact q) (.inl (PyProof.noPylong_of_log2 (Qx hc.1 hc.2)))
theorem HY(hc:X.calm=true):pS X (.builtin "sum") (λxs H Q=>∃ (p:Addr) (ns:List Int),xs=[.ref p]/\bQ X.K H p (ns.map V.int)/\Q (.int ns.sum) H):=by
 intro ak s σ H xs us Q I r h;obtain⟨p,ns,rfl,hq,q⟩:=h;obtain⟨u,rfl,rx⟩:=r.one;cases (show u=Value.ref p from rx);obtain⟨aQ,rv,pl,hz⟩:=I.list hq;have hi:IntsAre aQ ns:=intsAre_of rv;have Qf:AllInts aQ.toArray:=hi.allInts;obtain⟨zs,ez⟩:=Qf.items;have hl:=pl.isList;have es:(numsOf aQ.toArray.toList).sum=ns.sum:=by rw[show aQ.toArray.toList=aQ from rfl,hi.numsOf]
 rw[ez]at hl es;rw[nums_intItems]at es;refine PySem.sum_intListG (I.ok.hd hc) hl λh' tk t' hk=>⟨.int ns.sum,H,I.kept hk,⟨t',?_⟩,q⟩;rw[preSum_eq,yQ (by simp),es]
end
end dI
namespace jL
abbrev Row:=List (Int × Int)
def nH(t:Row)(s e:Int):Row :=
 match t.getLast? with
 | some p=>if p.2=s then t.dropLast++[(p.1,e)] else t++[(s,e)]
 | none=>t++[(s,e)]
def gQ(t:Row)(p:Int × Int):Row:=if p.1=p.2 then t else nH t p.1 p.2
def cJ(r:Row):Row:=r.foldl gQ []
def run(s:Int):Nat->List Int
 | 0=>[]
 | n+1=>s::run (s+1) n
def oK(p:Int × Int):List Int:=run p.1 (p.2-p.1).toNat
def bS(r:Row):List Int:=r.flatMap oK
def cV(ns:List Int):Row:=ns.foldl (λt n=>nH t n (n+1)) []
theorem gR(s:Int)(n:Nat):(run s n).length=n:=by
 induction n generalizing s with
 | zero=>rfl
 | succ n ih=>simp[run,ih]
theorem um(s e:Int):nH [] s e=[(s,e)]:=rfl
theorem uo(t:Row){q:Int × Int}{s:Int}{e:Int}(h:q.2=s):nH (t++[q]) s e=t++[(q.1,e)]:=by
 simp[nH,h]
theorem uq(t:Row){q:Int × Int}{s:Int}{e:Int}(h:¬ q.2=s):nH (t++[q]) s e=t++[q]++[(s,e)]:=by
 simp[nH,h]
theorem N3(t:Row)(a s e:Int):nH (t++[(a,s)]) s e=t++[(a,e)]:=by
 simp[nH]
theorem Cq(t:Row)(a s:Int)(n:Nat):(run s n).foldl (λt n=>nH t n (n+1)) (t++[(a,s)])=t++[(a,s+n)]:=by
 induction n generalizing s with
 | zero=>simp[run]
 | succ n ih =>
  rw[run,rj,N3,ih];have:s+1+(n:Int)=s+((n+1:Nat):Int):=by lia
  rw[this]
theorem Qy(t:Row)(p:Int × Int)(h:p.1<=p.2):gQ t p=(oK p).foldl (λt n=>nH t n (n+1)) t:=by
 obtain⟨s,e⟩:=p;simp only at h;unfold gQ oK;by_cases he:s=e
 ·subst he;simp[run]
 ·obtain⟨n,hn⟩:∃ n:Nat,e=s+1+n:=⟨(e-s-1).toNat,by lia⟩;subst hn;rw[if_neg he];have h2:((s,s+1+(n:Int)).2-(s,s+1+(n:Int)).1).toNat=n+1:=by simp only;lia
  rw[h2,run,rj];simp only;rcases vL t with rfl|⟨u,q,rfl⟩
  ·rw[um,um];exact (Cq [] s (s+1) n).symm
  ·by_cases hq:q.2=s
   ·rw[uc,uo u hq,uo u hq,Cq]
   ·rw[uc,uq u hq,uq u hq,Cq]
theorem rM{α β γ:Type}(f:γ->β->γ)(g:α->List β):∀ (l:List α) (c:γ),(l.flatMap g).foldl f c=l.foldl (λc a=>(g a).foldl f c) c
 | [],_=>rfl
 | a::l,c=>by rw[mW,List.foldl_append,rj,rM f g l]
theorem Cr(r:Row)(h:∀ p∈r,p.1<=p.2):cJ r=cV (bS r):=by
 unfold cJ cV bS;rw[rM]
 have key:∀ (r:Row),(∀ p∈r,p.1<=p.2)->∀ t:Row,r.foldl gQ t=r.foldl (λc a=>(oK a).foldl (λt n=>nH t n (n+1)) c) t:=by
  intro r
  induction r with
  | nil=>intro _ t;rfl
  | cons p r ih =>
   intro h t;rw[rj,rj,Qy t p (h p (yR ..))];exact ih (λq hq=>h q (sH _ hq)) _
 exact key r h []
theorem AZ(t:Row)(s e:Int):(nH t s e).length<=t.length+1:=by
 rcases vL t with rfl|⟨u,q,rfl⟩
 ·rw[um];simp
 ·by_cases hq:q.2=s
  ·rw[uc,uo u hq];simp
  ·rw[uc,uq u hq];simp
theorem foldl_take_succ{α β:Type}(f:β->α->β)(l:List α)(b:β)(i:Nat)(x:α)(h:l[i]?=some x):(l.take (i+1)).foldl f b=f ((l.take i).foldl f b) x:=by
 rw[List.take_add_one,h,List.foldl_append];rfl
end jL
namespace jL
def lS(r:Row):Int:=(r.map λp=>p.2-p.1).sum
theorem MB:lS []=0:=rfl
theorem Cs(p:Int × Int)(r:Row):lS (p::r)=(p.2-p.1)+lS r:=by simp[lS]
theorem HZ(r:Row)(p:Int × Int):lS (r++[p])=lS r+(p.2-p.1):=by simp[lS]
theorem Ct(r q:Row):lS (r++q)=lS r+lS q:=by simp[lS]
theorem take_snoc{α:Type}{l:List α}{i:Nat}{x:α}(h:l[i]?=some x):l.take (i+1)=l.take i++[x]:=by rw[List.take_add_one,h];rfl
def KW(a:Int):Int->Row->List Int
 | _,[]=>[]
 | c,p::r=>(if p.1<=a/\a<p.2 then [c+a-p.1] else [])++KW a (c+(p.2-p.1)) r
theorem Ia(a:Int)(p:Int × Int):∀ (r:Row) (c:Int),KW a c (r++[p])=KW a c r++(if p.1<=a/\a<p.2 then [c+lS r+a-p.1] else [])
 | [],c=>by simp[KW,MB]
 | q::r,c=>by
  have e:c+(q.2-q.1)+lS r=c+lS (q::r):=by rw[Cs];lia
  rw[List.cons_append,KW,Ia a p r,KW,e,pQ]
theorem Qz(a:Int):∀ (r:Row) (c:Int),(KW a c r).length<=r.length
 | [],_=>ja _
 | q::r,c=>by
  have ih:=Qz a r (c+(q.2-q.1));rw[KW,dM,qE]
  split <;> simp <;> lia
end jL
namespace jL
theorem Cu(s:Int)(n:Nat):run s (n+1)=run s n++[s+n]:=by
 induction n generalizing s with
 | zero=>simp[run]
 | succ n ih =>
  rw[run,ih,run];have:s+1+(n:Int)=s+((n+1:Nat):Int):=by lia
  rw[this];rfl
theorem ES{a n:Int}(h:a<=n):oK (a,n+1)=oK (a,n)++[n]:=by
 unfold oK;have e:((a,n+1).2-(a,n+1).1).toNat=((a,n).2-(a,n).1).toNat+1:=by simp only;lia
 rw[e,Cu];have:a+((((a,n).2-(a,n).1).toNat:Nat):Int)=n:=by simp only;lia
 simp only at this ⊢;rw[this]
theorem Ib(n:Int):oK (n,n+1)=[n]:=by
 have:=ES (a:=n) (n:=n) (Int.le_refl _);rw[this];have e:oK (n,n)=[]:=by unfold oK;simp[run]
 rw[e];rfl
theorem dF(r q:Row):bS (r++q)=bS r++bS q:=by unfold bS;rw[List.flatMap_append]
theorem jG(p:Int × Int):bS [p]=oK p:=by simp[bS]
theorem KY(t:Row)(n:Int)(h:∀ p∈t,p.1<=p.2):bS (nH t n (n+1))=bS t++[n]:=by
 rcases vL t with rfl|⟨u,q,rfl⟩
 ·rw[um,jG,Ib];rfl
 ·rw[uc]at h ⊢;by_cases hq:q.2=n
  ·obtain⟨a,b⟩:=q;simp only at hq;subst hq;have hb:a<=b:=h (a,b) (by simp);rw[uo u rfl,dF,dF,jG,jG,ES hb,pQ]
  ·rw[uq u hq,dF,jG,Ib]
theorem MC(t:Row)(n:Int)(h:∀ p∈t,p.1<=p.2):∀ p∈nH t n (n+1),p.1<=p.2:=by
 rcases vL t with rfl|⟨u,q,rfl⟩
 ·rw[um];intro p hp;simp at hp;subst hp;show n<=n+1;lia
 ·rw[uc]at h ⊢;by_cases hq:q.2=n
  ·rw[uo u hq];intro p hp;rcases List.mem_append.mp hp with z|z
   ·exact h p (xY _ z)
   ·simp at z;subst z;have:=h q (by simp);show q.1<=n+1;lia
  ·rw[uq u hq];intro p hp;rcases List.mem_append.mp hp with z|z
   ·exact h p z
   ·simp at z;subst z;show n<=n+1;lia
theorem je(ns:List Int):bS (cV ns)=ns:=by
 have key:∀ (ns:List Int) (t:Row),(∀ p∈t,p.1<=p.2)->bS (ns.foldl (λt n=>nH t n (n+1)) t)=bS t++ns:=by
  intro ns
  induction ns with
  | nil=>intro t _;simp
  | cons n ns ih =>
   intro t h;rw[rj,ih _ (MC t n h),KY t n h,pQ];rfl
 have:=key ns [] (λp hp=>by cases hp);simpa [cV,bS] using this
theorem rN(ns:List Int):∀ p∈cV ns,p.1<=p.2:=by
 have key:∀ (ns:List Int) (t:Row),(∀ p∈t,p.1<=p.2)->∀ p∈ns.foldl (λt n=>nH t n (n+1)) t,p.1<=p.2:=by
  intro ns
  induction ns with
  | nil=>intro t h;exact h
  | cons n ns ih=>intro t h;exact ih _ (MC t n h)
 exact key ns [] (λp hp=>by cases hp)
end jL
namespace jL
theorem A0(p:Int × Int)(h:p.1<=p.2):((oK p).length:Int)=p.2-p.1:=by
 unfold oK;rw[gR];lia
theorem wL:∀ (r:Row),(∀ p∈r,p.1<=p.2)->((bS r).length:Int)=lS r
 | [],_=>rfl
 | p::r,h=>by
  have ih:=wL r λq hq=>h q (sH _ hq);have hp:=A0 p (h p (yR ..));have e:bS (p::r)=oK p++bS r:=rfl;rw[e,dM,Cs];lia
end jL
namespace jL
open L2 dI
structure aC(K:PySem.W.Frag)(mg:Str->Option Value)(x:Str)(st:Stmt)(ps:List Str)(a:Addr)(d:FuncData):Prop where
 F:iH K x x st a d
 b:Binds K d ps []
 m:mg x=some (.ref a)
section
variable {X:Cx}
theorem aG{x:Str}{st:Stmt}{ps:List Str}{f:Addr}{j k:Nat}{sp:Sp}{e:Expr}{es:List Expr}{t:TA}{p pos:Pos}(d:aC X.K X.mg x st ps f fd)(G:aF X.prog X.w X.K X.mg X.zt bI k f fd ps sp)(hr:kH j X.A)
  (ha:PA X (e::es) t) (Xu:k<=j:=by first|decide|lia) (hg:Gl X x:=by rfl) (HL:(x == ("__debug__":Str))=false:=by decide) (he:starEach (e::es) X.env=(false,eval e X.env)::starEach es X.env:=by rfl)
  (BP:(backTo pos (starEach es X.env)).any (·.1)=false:=by rfl):PE X (.Call (.Name x p) (e::es) [] pos) (Mg sp [] E0 t) :=
 Mi G (hr.mono Xu) hg d.m d.F.kp d.b .nil ck ha HL he BP
theorem KZ{st:Stmt}{t t':TS}(h:PS X st t)(hi:∀ D σ H,t' D σ H->t D σ H):PS X st t':=λak s σ H D I q=>h ak s σ H D I (hi D σ H q)
end
def cT(l:Addr)(H H':Hp):Prop:=∀ a o,H a=some o->a≠l->H' a=some o
theorem aM.keep{l:Addr}{H H':Hp}(s:aM H H'):cT l H H':=λa o e _=>s a o e
theorem cT.trans{l:Addr}{H H1 H2:Hp}(a:cT l H H1)(b:cT l H1 H2):cT l H H2:=λc o e n=>b c o (a c o e n) n
theorem aL(l:Addr)(H:Hp)(o:HO):cT l H (aO H l o):=λa u e n=>by rw[aK n];exact e
theorem bX{l:Addr}{H H1 H2:Hp}(h:H l=none)(a:aM H H1)(b:cT l H1 H2):aM H H2:=λc o e=>b c o (a c o e) (az e h)
theorem ao{H:Hp}{p:Addr}(h:H p=none)(o:HO):aM H (aO H p o):=λb u q=>by rw[aK (az q h)];exact q
theorem lT{l a:Addr}{H H':Hp}(k:cT l H H')(n:a≠l)(h:H' a=none):H a=none:=by
 cases q:H a with
 | none=>rfl
 | some o=>rw[k a o q n]at h;cases h
def d8(H:Hp)(l c:Addr):Prop:=c≠l/\∃ (ns:List Int) (i d r:Int),H l=some (.lst [.ref c,.int i,.int d,.int r])/\H c=some (.lst (ns.map V.int))/\0<=i/\0<=r/\r<2147483647
theorem d8.same{H H':Hp}{l c:Addr}(s:d8 H l c)(k:aM H H'):d8 H' l c:=by
 obtain⟨n,ns,i,d,r,h1,h2,h3⟩:=s;exact⟨n,ns,i,d,r,k _ _ h1,k _ _ h2,h3⟩
theorem d8.keep{H H':Hp}{l c m:Addr}(s:d8 H l c)(k:cT m H H')(h1:l≠m)(h2:c≠m):d8 H' l c:=by
 obtain⟨n,ns,i,d,r,e1,e2,h3⟩:=s;exact⟨n,ns,i,d,r,k _ _ e1 h1,k _ _ e2 h2,h3⟩
theorem d8.ne{H:Hp}{l c a:Addr}(s:d8 H l c)(h:H a=none):l≠a/\c≠a:=by
 obtain⟨n,ns,i,d,r,e1,e2,h3⟩:=s;exact⟨az e1 h,az e2 h⟩
theorem ZR{a b c d:V}:vC [a,b,c,d] 0=some a:=rfl
theorem Xv{a b c d:V}:vC [a,b,c,d] 1=some b:=rfl
theorem TZ{a b c d:V}:vC [a,b,c,d] 2=some c:=rfl
theorem ZS{a b c d:V}:vC [a,b,c,d] 3=some d:=rfl
theorem ac8{a b:V}:vC [a,b] 0=some a:=rfl
theorem ac9{a b:V}:vC [a,b] 1=some b:=rfl
inductive tT(vs:List V)(H:Hp)(Q:VK)(E:XK):Prop
 | mk (l c:Addr) (b:Int) (_:vs=[.ref l,.int b]) (_:d8 H l c) (_:0<b) (_:b<10^70) (_ :
 ∀ (v:Int) (H':Hp),0<=v->v<b->d8 H' l c->(∀ a,a≠l->H' a=H a)->Q (.int v) H'):tT vs H Q E
inductive VD(K:PySem.W.Frag)(vs:List V)(H:Hp)(Q:VK)(E:XK):Prop
 | mk (a:Addr) (ns:List Int) (_:vs=[.ref a]) (_:bQ K H a (ns.map V.int)) (_ :
 ∀ (l c:Addr) (H':Hp),d8 H' l c->aM H H'->H l=none->H c=none->Q (.ref l) H')
def ada:V->Bool
 | .int _ | .bl _ | .str _ | .iZ=>true
 | _=>false
def QA(k:Bool)(H:Hp)(a:Addr)(xs:List V):Prop:=match k with
 | true=>H a=some (.lst xs)
 | false=>H a=some (.tup xs)
theorem QA.same{k:Bool}{H H':Hp}{a:Addr}{xs:List V}(h:QA k H a xs)(s:aM H H'):QA k H' a xs:=by
 cases k
 ·exact s _ _ h
 ·exact s _ _ h
theorem QA.sq{K:PySem.W.Frag}{k:Bool}{H:Hp}{a:Addr}{xs:List V}(h:QA k H a xs):Mz K k H a xs:=by
 cases k
 ·exact eL.of h
 ·exact bQ.of h
def Eqv(H:Hp):Nat->V->V->Prop
 | 0,_,_=>False
 | n+1,x,y=>(ada x=true/\x=y)\/∃ (k:Bool) (a b:Addr) (xs ys:List V),x=.ref a/\y=.ref b/\QA k H a xs/\QA k H b ys/\xs.length=ys.length/\
   ∀ (i:Nat) (u v:V),xs[i]?=some u->ys[i]?=some v->Eqv H n u v
theorem Eqv.same{H H':Hp}(s:aM H H'):∀ {n:Nat} {x y:V},Eqv H n x y->Eqv H' n x y
 | 0,_,_,h=>h
 | n+1,x,y,h=>by
  rcases h with h|⟨k,a,b,xs,ys,e1,e2,h1,h2,hl,hi⟩
  ·exact .inl h
  ·exact .inr ⟨k,a,b,xs,ys,e1,e2,h1.same s,h2.same s,hl,λi u v eu ev=>Eqv.same s (hi i u v eu ev)⟩
theorem Eqv.int{H:Hp}{n:Nat}(i:Int):Eqv H (n+1) (.int i) (.int i):=.inl ⟨rfl,rfl⟩
def yp(n:Nat):Sp:=λvs H Q _=>∃ x y,vs=[x,y]/\Eqv H n x y/\∀ H',aM H H'->Q (.bl true) H'
inductive MD(vs:List V)(H:Hp)(Q:VK)(E:XK):Prop
 | mk (i:Int) (_:vs=[.int i]) (_:Q (.bl true) H)
section
variable (K:PySem.W.Frag)
theorem ZT:kitOne K (.type "bool") (.type "bool")=some true:=by rfl
theorem ZU:kitOne K (.type "int") (.type "bool")=some false:=by kernel_rfl
theorem ZV:kitOne K (.type "int") (.type "int")=some true:=by rfl
theorem adb:kitOne K (.type "str") (.type "bool")=some false:=by kernel_rfl
theorem ade:kitOne K (.type "str") (.type "int")=some false:=by kernel_rfl
theorem ZW:kitOne K (.type "str") (.type "str")=some true:=by rfl
theorem adf:kitOne K (.type "list") (.type "bool")=some false:=by kernel_rfl
theorem adg:kitOne K (.type "list") (.type "int")=some false:=by kernel_rfl
theorem adh:kitOne K (.type "list") (.type "str")=some false:=by kernel_rfl
theorem ZX:kitOne K (.type "list") (.type "list")=some true:=by rfl
theorem k_lt:kitOne K (.type "list") (.type "tuple")=some false:=by kernel_rfl
theorem adi:kitOne K (.type "tuple") (.type "bool")=some false:=by kernel_rfl
theorem adj:kitOne K (.type "tuple") (.type "int")=some false:=by kernel_rfl
theorem adk:kitOne K (.type "tuple") (.type "str")=some false:=by kernel_rfl
theorem adl:kitOne K (.type "tuple") (.type "list")=some false:=by kernel_rfl
theorem adm:kitOne K (.type "tuple") (.type "tuple")=some true:=by rfl
end
def YN(k:Bool):Value:=.type (if k then "list" else "tuple")
theorem QA.ty{K:PySem.W.Frag}{k:Bool}{H:Hp}{a:Addr}{xs:List V}(h:QA k H a xs):pT K H (.ref a) (YN k):=by
 cases k
 ·exact pT.tup h
 ·exact pT.lst h
theorem adn(K:PySem.W.Frag)(k:Bool):kitOne K (YN k) (.type "bool")=some false:=by cases k;exact adi K;exact adf K
theorem ado(K:PySem.W.Frag)(k:Bool):kitOne K (YN k) (.type "int")=some false:=by cases k;exact adj K;exact adg K
theorem adp(K:PySem.W.Frag)(k:Bool):kitOne K (YN k) (.type "str")=some false:=by cases k;exact adk K;exact adh K
theorem ZY(K:PySem.W.Frag)(k:Bool):kitOne K (YN k) (.type "list")=some k:=by cases k;exact adl K;exact ZX K
theorem ZZ(K:PySem.W.Frag)(k:Bool):kitOne K (YN k) (.type "tuple")=some (!k):=by cases k;exact adm K;exact k_lt K
def Ad(H:Hp)(a:Addr)(p:Int × Int):Prop:=H a=some (.tup [.int p.1,.int p.2])
abbrev bL(H:Hp):List Addr->Row->Prop:=Paired (Ad H)
inductive cM(H:Hp)(r:Addr)(row:Row):Prop
 | mk (as:List Addr) (_:H r=some (.lst (as.map V.ref))) (_:bL H as row)
theorem bL.tups{H H':Hp}{as:List Addr}{row:Row}(h:bL H as row)(t:∀ a xs,H a=some (.tup xs)->H' a=some (.tup xs)):bL H' as row:=Paired.Kg h λa p e=>t a _ e
theorem bL.same{H H':Hp}{as:List Addr}{row:Row}(h:bL H as row)(s:aM H H'):bL H' as row:=h.tups λa xs e=>s a _ e
theorem cM.same{H H':Hp}{r:Addr}{row:Row}(h:cM H r row)(s:aM H H'):cM H' r row:=by
 obtain⟨as,h1,h2⟩:=h;exact⟨as,s _ _ h1,h2.same s⟩
theorem bL.keep{H H':Hp}{as:List Addr}{row:Row}{l:Addr}{xs:List V}(h:bL H as row)(hl:H l=some (.lst xs))(s:cT l H H'):bL H' as row :=
 h.tups λa ys e=>s a _ e (eS e hl)
theorem cM.keep{H H':Hp}{r:Addr}{row:Row}{l:Addr}{xs:List V}(h:cM H r row)(hl:H l=some (.lst xs))(n:r≠l)(s:cT l H H'):cM H' r row:=by
 obtain⟨as,h1,h2⟩:=h;exact⟨as,s _ _ h1 n,h2.keep hl s⟩
theorem bL.get{H:Hp}:∀ {as:List Addr} {row:Row} {i:Nat} {a:Addr},bL H as row->as[i]?=some a->∃ p,row[i]?=some p/\Ad H a p
 | _,_,_,_,.nil,e=>by simp at e
 | _,_,0,_,.cons r _,e=>by simp at e;subst e;exact⟨_,rfl,r⟩
 | _,_,i+1,a,.cons _ t,e=>by
  obtain⟨p,h1,h2⟩:=bL.get (i:=i) (a:=a) t (by simpa using e);exact⟨p,by simpa using h1,h2⟩
theorem bL.snoc{H:Hp}{as:List Addr}{row:Row}{a:Addr}{p:Int × Int}(h:bL H as row)(e:Ad H a p):bL H (as++[a]) (row++[p]):=by
 induction h with
 | nil=>exact .cons e .nil
 | cons r _ ih=>exact .cons r ih
theorem bL.split{H:Hp}:∀ {as:List Addr} {row:Row} {p:Int × Int},bL H as (row++[p])->∃ bs a,as=bs++[a]/\bL H bs row/\Ad H a p
 | as,[],p,h=>by
  cases h with
  | cons r t=>cases t;exact⟨[],_,rfl,.nil,r⟩
 | as,q::row,p,h=>by
  cases h with
  | cons r t =>
   obtain⟨bs,a,rfl,h1,h2⟩:=bL.split (row:=row) (p:=p) t;exact⟨_::bs,a,rfl,.cons r h1,h2⟩
theorem bL.len{H:Hp}{as:List Addr}{row:Row}(h:bL H as row):as.length=row.length:=Paired.length h
theorem cM.eqv{H:Hp}{r q:Addr}{row:Row}(h:cM H r row)(g:cM H q row)(n:Nat):Eqv H (n+3) (.ref r) (.ref q):=by
 obtain⟨as,h1,h2⟩:=h;obtain⟨bs,g1,g2⟩:=g;refine .inr ⟨true,r,q,_,_,rfl,rfl,h1,g1,by rw[cR,cR,h2.len,g2.len],λi u v eu ev=>?_⟩;rw[kF]at eu ev;obtain⟨a,ea,rfl⟩:=Option.map_eq_some_iff.mp eu;obtain⟨b,eb,rfl⟩:=Option.map_eq_some_iff.mp ev;obtain⟨p,e1,k1⟩:=h2.get ea;obtain⟨p',e2,k2⟩:=g2.get eb;rw[e1]at e2;cases e2;refine .inr ⟨false,a,b,_,_,rfl,rfl,k1,k2,rfl,λj u v eu ev=>?_⟩;rw[eu]at ev;cases ev
 match j,eu with
 | 0,eu=>cases eu;exact Eqv.int _
 | 1,eu=>cases eu;exact Eqv.int _
theorem pY{α:Type}(xs:List α)(v:α):vC (xs++[v]) (-1)=some v:=P1 xs v
theorem Ic(n:Nat):Mp (n+1) (-1)=some n:=by
 unfold Mp;rw[if_neg (by decide),if_pos (by lia)];congr 1;lia
theorem Ie{α:Type}(xs:List α)(a b:α):(xs++[a]).set xs.length b=xs++[b]:=by
 simp
theorem zc(lo:Int)(n:Nat):zb lo n=(run lo n).map V.int:=by
 unfold zb
 induction n generalizing lo with
 | zero=>rfl
 | succ n ih =>
  rw[List.range_succ_eq_map,oJ,List.map_map,run,oJ,← ih (lo+1)];congr 1
  ·simp
  ·apply List.map_congr_left;intro i _;simp only[Function.comp,Nat.succ_eq_add_one];congr 1;lia
inductive ME(lim:Nat)(vs:List V)(H:Hp)(Q:VK)(E:XK):Prop
 | mk (r:Addr) (row:Row) (_:vs=[.ref r]) (_:cM H r row) (_:(∀ p∈row,0<=p.1/\p.1<=p.2/\p.2<2^62)) (_:(bS row).length<=1000000) (_:row.length<=lim) (_ :
 ∀ (n:Addr) (H':Hp),H' n=some (.lst ((bS row).map V.int))->aM H H'->H n=none->Q (.ref n) H')
inductive BR(vs:List V)(H:Hp)(Q:VK)(E:XK):Prop
 | mk (r:Addr) (row:Row) (_:vs=[.ref r]) (_:cM H r row) (_:row.length<=1000000) (_ :
 ∀ (q:Addr) (H':Hp),cM H' q (cJ row)->aM H H'->H q=none->Q (.ref q) H')
theorem aU{n:Nat}(h:n<=1000001):n<sizeLine:=Nat.lt_of_le_of_lt h (by decide)
end jL
namespace jL
open L2 dI
def Xw:TS:=λD σ H=>∃ (l c:Addr) (b:Int),σ=[some (.ref l),some (.int b),none,none]/\d8 H l c/\
 ∀ (cell:Option V) (H':Hp),d8 H' l c->(∀ a,a≠l->H' a=H a)->D.nx [some (.ref l),some (.int b),cell,none] H'
def Xx:TS:=λD σ H=>∃ (l c:Addr) (b:Int),σ=[some (.ref l),some (.int b),some (.int 7),none]/\d8 H l c/\
 ∀ (cell:Int) (H':Hp),d8 H' l c->(∀ a,a≠l->H' a=H a)->D.nx [some (.ref l),some (.int b),some (.int cell),none] H'
theorem T3{ns:List Int}{i:Int}(h0:0<=i)(h1:i<(ns.length:Int)):∃ v:Int,vC (ns.map V.int) i=some (.int v):=by
 have hk:i.toNat<ns.length:=by lia
 refine⟨ns[i.toNat],?_⟩
 have q:vC (ns.map V.int) ((i.toNat:Nat):Int)=some (.int ns[i.toNat]):=gz (by rw[kF,pP hk] <;> rfl)
 have ei:((i.toNat:Nat):Int)=i:=by lia
 rw[ei]at q;exact q
theorem QB(ns:List Int)(lo hi:Option Int):∃ ms:List Int,pU (ns.map V.int) lo hi=ms.map V.int:=by
 unfold pU;refine⟨(ns.drop (HT.mK (ns.map V.int).length 0 lo)).take (HT.mK (ns.map V.int).length (ns.map V.int).length hi-HT.mK (ns.map V.int).length 0 lo),?_⟩;rw[List.map_take,List.map_drop]
theorem tt{p:Prop} [Decidable p] {Q:V->Hp->Prop} {H:Hp} (hp:p) (h:Q (.bl true) H):Q (.bl (decide p)) H:=by
 rw[decide_eq_true hp];exact h
theorem QA.or{K:PySem.W.Frag}{k:Bool}{H:Hp}{a:Addr}{xs:List V}(h:QA k H a xs):bQ K H a xs\/eL K H a xs:=by
 cases k
 ·exact .inr (eL.of h)
 ·exact .inl (bQ.of h)
theorem dm{l:Addr}{H H':Hp}(k:∀ a,a≠l->H' a=H a):cT l H H':=λa o e n=>by rw[k a n];exact e
end jL
namespace jL
open L2 dI
inductive Ig(vs:List V)(H:Hp)(Q:VK)(E:XK):Prop
 | mk (r:Addr) (row:Row) (a:Int) (_:vs=[.ref r,.int a]) (_:cM H r row) (_:row.length<=1000000) (_ :
 ∀ (q:Addr) (H':Hp),H' q=some (.lst ((KW a 0 row).map V.int))->aM H H'->H q=none->Q (.ref q) H')
theorem d8.lst{H:Hp}{l c:Addr}(s:d8 H l c):∃ xs,H l=some (.lst xs):=by
 obtain⟨n,ns,i,d,r,e1,_⟩:=s;exact⟨_,e1⟩
end jL
namespace dI
open Spec Rows L2
section
variable {prog:Program} {w:World} {A:Around} {R:Result->Shared->Prop} {s:Shared}
def wM(oM:List Expr)(env:Env):Sem Bool:=forIn oM true λc r=>if r=true then do let ok ← isTrue c env (eval c env);pure (ForInStep.yield ok) else pure (ForInStep.yield r)
theorem N4{iter:Expr}{scope:Scope}{it acc:Value}{env:Env}(I:Nat->Shared->Prop)
  (yd:∀ n s,I n s->wpAny (model prog w) A (pyNext it) (λr s₁=>match r with
   | none=>R (.ok .next) s₁
   | some v=>wpAny (model prog w) A (letOwnedTupleGo zU it v) (λ_ s₂=>wpAny (model prog w) A (assign zU env v) (λ_ s₃ =>
     wpAny (model prog w) A (wM oM env) (λok s₄ =>
      if ok=true then wpAny (model prog w) A (eval pI env) (λx s₅=>wpAny (model prog w) A (call (.builtin "list.append") [acc,x]) (λ_ s₆=>∃ m,m<n/\I m s₆) (λ_ _=>False) s₅) (λ_ _=>False) s₄
      else ∃ m,m<n/\I m s₄) (λ_ _=>False) s₃) (λ_ _=>False) s₂) (λ_ _=>False) s₁) (λ_ _=>False) s)
  (n:Nat) (h:I n s):codeAny (model prog w) A (.compLoop (.ListComp pI [⟨zU,iter,oM,0⟩] scope pos) 0 it acc env) R s:=by
 refine codeAny_loop rfl I (λn s hI=>?_) n h;show wpAny _ A ((compTurn (.ListComp pI [⟨zU,iter,oM,0⟩] scope pos) 0 it acc env).onRaise (λx=>do noteFrame x env;theTreesLotGoes x)) _ _ s;refine wpAny_noted ?_;rw[compTurn_list];refine wpAny_bind (wpAny_standAt (wpAny_bind (wpAny_mono (yd n s hI) (λr s₁ h₁=>?_) λ_ _ h'=>h'.elim)))
 cases r with
 | none=>exact wpAny_pure h₁
 | some v =>
  refine wpAny_bind (wpAny_mono h₁ (λ_ s₂ h₂=>wpAny_bind (wpAny_mono h₂ (λ_ s₃ h₃=>wpAny_bind (wpAny_mono h₃ (λok s₄ h₄=>?_) λ_ _ h'=>h'.elim)) λ_ _ h'=>h'.elim)) λ_ _ h'=>h'.elim)
  cases ok with
  | false=>exact wpAny_pure ⟨rfl,h₄⟩
  | true=>exact wpAny_bind (wpAny_bind (wpAny_mono h₄ (λx s₅ h₅=>wpAny_bind (wpAny_mono h₅ (λ_ s₆ h₆=>wpAny_pure (wpAny_pure ⟨rfl,h₆⟩)) λ_ _ h'=>h'.elim)) λ_ _ h'=>h'.elim))
end
section
variable {X:Cx} {N:List Str} {scope:Scope}
def N5(X:Cx)(oM:List Expr)(t:TT):Prop :=
 ∀ (ak:List (Addr × Obj)) (s:Shared) (σ:L2.St) (H:Hp) (Q:Bool->Hp->Prop),Inv X ak σ H s->t σ H Q->wpAny (model X.prog X.w) X.A (wM oM X.env) (TP X ak σ Q) X.xe s
def QC:TT:=λ_ H Q=>Q true H
theorem ko:N5 X [] QC:=λak s σ H Q I h=>wpAny_tests_nil ⟨H,I,h⟩
theorem F3{c:Expr}{t:TT}(h:PT X c t):N5 X [c] t:=λak s σ H Q I q=>wpAny_tests_one (h ak s σ H Q I q)
end
end dI
namespace dI
open Spec Rows L2
end dI
namespace dI
open Spec Rows L2
section
variable {prog:Program} {w:World} {A:Around} {R:Result->Shared->Prop} {s:Shared}
theorem T4(pI tg iter vJ eV:Expr)(oM m9:List Expr)(scope:Scope)(pos:Pos)(it acc:Value)(env:Env) :
  compTurn (.ListComp pI [⟨tg,iter,oM,0⟩,⟨vJ,eV,m9,0⟩] scope pos) 1 it acc env=(do
   standAt eV.pos
   match ← pyNext it with
   | none=>pure (.done .next)
   | some v =>
    letOwnedTupleGo vJ it v
    assign vJ env v
    let ok ← wM m9 env
    if ok then (do let _ ← call (.builtin "list.append") [acc,← eval pI env])
    again (.compLoop (.ListComp pI [⟨tg,iter,oM,0⟩,⟨vJ,eV,m9,0⟩] scope pos) 1 it acc env)):=by rfl
theorem QD(pI tg iter vJ eV:Expr)(oM m9:List Expr)(scope:Scope)(pos:Pos)(it acc:Value)(env:Env) :
  compTurn (.ListComp pI [⟨tg,iter,oM,0⟩,⟨vJ,eV,m9,0⟩] scope pos) 0 it acc env=(do
   standAt iter.pos
   match ← pyNext it with
   | none=>pure (.done .next)
   | some v =>
    letOwnedTupleGo tg it v
    assign tg env v
    let ok ← wM oM env
    if ok then
     let x ← eval eV env
     standAt eV.pos
     let x ← foldedSetIterable eV env x
     let _ ← runOwn (.compStart (.ListComp pI [⟨tg,iter,oM,0⟩,⟨vJ,eV,m9,0⟩] scope pos) 1 (← holding [x] (pyIter x)) acc env) env
    again (.compLoop (.ListComp pI [⟨tg,iter,oM,0⟩,⟨vJ,eV,m9,0⟩] scope pos) 0 it acc env)):=by rfl
theorem Xy{iter:Expr}{scope:Scope}{it acc:Value}{env:Env}(I:Nat->Shared->Prop)
  (yd:∀ n s,I n s->wpAny (model prog w) A (pyNext it) (λr s₁=>match r with
   | none=>R (.ok .next) s₁
   | some v=>wpAny (model prog w) A (letOwnedTupleGo vJ it v) (λ_ s₂=>wpAny (model prog w) A (assign vJ env v) (λ_ s₃ =>
     wpAny (model prog w) A (wM m9 env) (λok s₄ =>
      if ok=true then wpAny (model prog w) A (eval pI env) (λx s₅=>wpAny (model prog w) A (call (.builtin "list.append") [acc,x]) (λ_ s₆=>∃ m,m<n/\I m s₆) (λ_ _=>False) s₅) (λ_ _=>False) s₄
      else ∃ m,m<n/\I m s₄) (λ_ _=>False) s₃) (λ_ _=>False) s₂) (λ_ _=>False) s₁) (λ_ _=>False) s)
  (n:Nat) (h:I n s):codeAny (model prog w) A (.compLoop (.ListComp pI [⟨tg,iter,oM,0⟩,⟨vJ,eV,m9,0⟩] scope pos) 1 it acc env) R s:=by
 refine codeAny_loop rfl I (λn s hI=>?_) n h;show wpAny _ A ((compTurn (.ListComp pI [⟨tg,iter,oM,0⟩,⟨vJ,eV,m9,0⟩] scope pos) 1 it acc env).onRaise (λx=>do noteFrame x env;theTreesLotGoes x)) _ _ s;refine wpAny_noted ?_;rw[T4];refine wpAny_bind (wpAny_standAt (wpAny_bind (wpAny_mono (yd n s hI) (λr s₁ h₁=>?_) λ_ _ h'=>h'.elim)))
 cases r with
 | none=>exact wpAny_pure h₁
 | some v =>
  refine wpAny_bind (wpAny_mono h₁ (λ_ s₂ h₂=>wpAny_bind (wpAny_mono h₂ (λ_ s₃ h₃=>wpAny_bind (wpAny_mono h₃ (λok s₄ h₄=>?_) λ_ _ h'=>h'.elim)) λ_ _ h'=>h'.elim)) λ_ _ h'=>h'.elim)
  cases ok with
  | false=>exact wpAny_pure ⟨rfl,h₄⟩
  | true=>exact wpAny_bind (wpAny_bind (wpAny_mono h₄ (λx s₅ h₅=>wpAny_bind (wpAny_mono h₅ (λ_ s₆ h₆=>wpAny_pure (wpAny_pure ⟨rfl,h₆⟩)) λ_ _ h'=>h'.elim)) λ_ _ h'=>h'.elim))
theorem T5{iter:Expr}{scope:Scope}{it acc:Value}{env:Env}
  (h0:codeAny (model prog w) A (.compLoop (.ListComp pI [⟨tg,iter,oM,0⟩,⟨vJ,eV,m9,0⟩] scope pos) 1 it acc env) R s)
  (h:wpAny (model prog w) A (pyIter it) (λT6 s'=>codeAny (model prog w) A (.compLoop (.ListComp pI [⟨tg,iter,oM,0⟩,⟨vJ,eV,m9,0⟩] scope pos) 1 T6 acc env) R s') (λ_ _=>False) s) :
  codeAny (model prog w) A (.compStart (.ListComp pI [⟨tg,iter,oM,0⟩,⟨vJ,eV,m9,0⟩] scope pos) 1 it acc env) R s:=by
 refine codeAny_of_tree ?_;show wpAny _ _ ((compStart (.ListComp pI [⟨tg,iter,oM,0⟩,⟨vJ,eV,m9,0⟩] scope pos) 1 it acc env).onRaise (λx=>do noteFrame x env;standAt theWindowsPlace)) _ _ s;refine wpAny_notedAt ?_;unfold compStart;show wpAny _ _ (ask >>= _) _ _ s;refine wpAny_bind (wpAny_askSetting (wpAny_ite ?_));split
 ·first
   | exact wpAny_bind (wpAny_pure (wpAny_pure (And.intro rfl h0)))
   | exact wpAny_pure (And.intro rfl h0)
 ·first
   | exact wpAny_bind (wpAny_rule (wpAny_bind (wpAny_standAt (wpAny_bind (wpAny_mono h (λT6 s' h'=>wpAny_pure (And.intro rfl h')) λ_ _ x=>x.elim)))))
   | (refine wpAny_bind (wpAny_rule ?_);show wpAny _ _ (standAt eV.pos >>= _) _ _ s;exact wpAny_bind (wpAny_standAt (wpAny_bind (wpAny_mono h (λT6 s' h'=>wpAny_pure (And.intro rfl h')) λ_ _ x=>x.elim))))
theorem T7{iter:Expr}{scope:Scope}{it acc:Value}{env:Env}(I:Nat->Shared->Prop)
  (Kw:∀ x,foldedSetIterable eV env x=pure x)
  (yd:∀ n s,I n s->wpAny (model prog w) A (pyNext it) (λr s₁=>match r with
   | none=>R (.ok .next) s₁
   | some v=>wpAny (model prog w) A (letOwnedTupleGo tg it v) (λ_ s₂=>wpAny (model prog w) A (assign tg env v) (λ_ s₃ =>
     wpAny (model prog w) A (wM oM env) (λok s₄ =>
      if ok=true then wpAny (model prog w) A (eval eV env) (λx s₅=>wpAny (model prog w) A (pyIter x) (λZ0 s₆ =>
       codeAny (model prog w) A (.compStart (.ListComp pI [⟨tg,iter,oM,0⟩,⟨vJ,eV,m9,0⟩] scope pos) 1 Z0 acc env) (λr s₇=>(∃ f,r=.ok f)/\∃ m,m<n/\I m s₇) s₆) (λ_ _=>False) s₅) (λ_ _=>False) s₄
      else ∃ m,m<n/\I m s₄) (λ_ _=>False) s₃) (λ_ _=>False) s₂) (λ_ _=>False) s₁) (λ_ _=>False) s)
  (n:Nat) (h:I n s):codeAny (model prog w) A (.compLoop (.ListComp pI [⟨tg,iter,oM,0⟩,⟨vJ,eV,m9,0⟩] scope pos) 0 it acc env) R s:=by
 refine codeAny_loop rfl I (λn s hI=>?_) n h;show wpAny _ A ((compTurn (.ListComp pI [⟨tg,iter,oM,0⟩,⟨vJ,eV,m9,0⟩] scope pos) 0 it acc env).onRaise (λx=>do noteFrame x env;theTreesLotGoes x)) _ _ s;refine wpAny_noted ?_;rw[QD];refine wpAny_bind (wpAny_standAt (wpAny_bind (wpAny_mono (yd n s hI) (λr s₁ h₁=>?_) λ_ _ h'=>h'.elim)))
 cases r with
 | none=>exact wpAny_pure h₁
 | some v =>
  refine wpAny_bind (wpAny_mono h₁ (λ_ s₂ h₂=>wpAny_bind (wpAny_mono h₂ (λ_ s₃ h₃=>wpAny_bind (wpAny_mono h₃ (λok s₄ h₄=>?_) λ_ _ h'=>h'.elim)) λ_ _ h'=>h'.elim)) λ_ _ h'=>h'.elim)
  cases ok with
  | false=>exact wpAny_pure ⟨rfl,h₄⟩
  | true =>
   refine wpAny_bind (wpAny_mono h₄ (λx s₅ h₅=>wpAny_bind (wpAny_standAt (wpAny_bind (wpAny_of_eq (Kw x) (wpAny_bind (wpAny_holding (wpAny_mono h₅ (λZ0 s₆ h₆=>?_) λ_ _ h'=>h'.elim))))))) λ_ _ h'=>h'.elim);refine wpAny_bind (wpAny_runOwn (codeAny_mono h₆ λr s₇ HH=>?_));obtain⟨⟨f,hf⟩,hm⟩:=HH;subst hf;exact wpAny_pure ⟨rfl,hm⟩
end
section
variable {X:Cx} {N:List Str} {scope:Scope}
def F4(wi:TI)(acc:Addr)(g:TG)(tt:TT)(te:TE):L2.St->Hp->(L2.St->Hp->Prop)->Prop:=fun σ H Nx=>wi σ H λJ H1 =>
 ∃ W:Nat->Nat->L2.St->Hp->Prop,(∃ m,W 0 m σ H1)/\∀ i m σ H,W i m σ H->
  (J.stop i H/\Nx σ H)\/(J.go i H/\∃ N2:L2.St->Hp->Prop,(∀ σ' H',N2 σ' H'->∃ m',m'<m/\W (i+1) m' σ' H')/\∀ x H',J.Sz i H x H'->g x σ H' fun σ2 H2=>tt σ2 H2 λb H3 =>
   if b=true then te σ2 H3 λv H4=>∃ xs,H4 acc=some (.lst xs)/\xs.length<sizeLine/\N2 σ2 (aO H4 acc (.lst (xs++[v]))) else N2 σ2 H3)
theorem N6{Y:Cx}{iter:Expr}{Hh:TI}{g2:TG}{Hi:TT}{te:TE}(hc:Y.calm=true)(hxe:Y.xe=λ_ _=>False)(hi:PI Y vJ eV Hh)(hg:PG Y vJ g2)(ht:N5 Y m9 Hi)(he:PE Y pI te)
  {ak:List (Addr × Obj)} {s:Shared} {σ:L2.St} {H:Hp} {Nx:L2.St->Hp->Prop} (I:Inv Y ak σ H s) (h:F4 Hh acc g2 Hi te σ H Nx) :
  wpAny (model Y.prog Y.w) Y.A (eval eV Y.env) (λx s₅=>wpAny (model Y.prog Y.w) Y.A (pyIter x) (λZ0 s₆ =>
   codeAny (model Y.prog Y.w) Y.A (.compStart (.ListComp pI [⟨tg,iter,oM,0⟩,⟨vJ,eV,m9,0⟩] scope pos) 1 Z0 (.ref acc) Y.env) (λr s₇=>(∃ f,r=.ok f)/\∃ σ' H',Inv Y ak σ' H' s₇/\Nx σ' H') s₆) (λ_ _=>False) s₅) (λ_ _=>False) s:=by
 have hi':=hi ak s σ H _ I h;have hg':=hg;have ht':=ht;have MF:=he;unfold PG at hg';unfold N5 at ht';unfold PE at MF;rw[hxe]at hi' hg' ht' MF;refine dD hi' λv s1 h1=>dD h1 λZq s2 h2=>?_;obtain⟨it,fp,tn,J,H2,e,I2,T,st2,f2,W,⟨m0,w0⟩,yd⟩:=h2;subst e;have yf:∀ {H':Hp},(∀ b∈fp,H' b=none)->∀ b∈fp,vB Y ak H' b:=λhn b hb=>⟨hn b hb,(f2 b hb).2⟩
 have loop:codeAny (model Y.prog Y.w) Y.A (.compLoop (.ListComp pI [⟨tg,iter,oM,0⟩,⟨vJ,eV,m9,0⟩] scope pos) 1 (.ref it) (.ref acc) Y.env) (λr s₇=>(∃ f,r=.ok f)/\∃ σ' H',Inv Y ak σ' H' s₇/\Nx σ' H') s2:=by
  refine Xy (λn s'=>∃ i σ' H',Inv Y ak σ' H' s'/\tn i s'.heap/\(∀ b∈fp,H' b=none)/\W i n σ' H') ?_ m0 ⟨0,σ,H2,I2,st2,λb hb=>(f2 b hb).1,w0⟩;rintro n s6 ⟨i,σ6,H6,I6,VE,O6,w6⟩;rcases yd i n σ6 H6 w6 with ⟨stop,qn⟩|⟨go,N2,hN,step⟩
  ·refine dD (T.done Y rfl rfl rfl hc i ak s6 σ6 H6 _ I6 (yf O6) VE stop) λr s7 Ko=>?_;obtain⟨hr,I7⟩:=Ko;subst hr;exact⟨⟨_,rfl⟩,σ6,H6,I7,qn⟩
  ·refine dD (T.item Y rfl rfl rfl hc i ak s6 σ6 H6 _ I6 (yf O6) VE go) λr s7 Kn=>?_;obtain⟨u,hr,h7⟩:=Kn;subst hr;refine dD h7 λ_ s8 DX=>?_;obtain⟨x,H8,I8,r8,y8,QE,Ih⟩:=DX;have Z1:=I8.pinned (yf Ih) (T.obj _ _ QE);refine dD (hg' _ s8 σ6 H8 x u _ Z1 r8 (step x H8 y8)) λ_ s9 HC=>?_;obtain⟨σ9,H9,I9,q9⟩:=HC;refine dD (ht' _ s9 σ9 H9 _ I9 q9) λok s10 DY=>?_;obtain⟨O7,VF,EL⟩:=DY
   have again:∀ {σ7:L2.St} {H7:Hp} {zO:Shared},Inv Y (ak++ye fp s8.heap) σ7 H7 zO->N2 σ7 H7->∃ m,m<n/\∃ i σ' H',Inv Y ak σ' H' zO/\tn i zO.heap/\(∀ b∈fp,H' b=none)/\W i m σ' H':=λ{σ7 H7 zO} I7 n7=>by
    obtain⟨m',hm,w7⟩:=hN σ7 H7 n7;refine⟨m',hm,i+1,σ7,H7,I7.ud,T.keep _ _ _ QE λb hb o e=>(I7.pin (b,o) (uH _ (uH _ (kG hb e)))).1,λb hb=>?_,w7⟩;obtain⟨o,e,d⟩:=T.obj _ _ QE b hb;exact (I7.pin (b,o) (uH _ (uH _ (kG hb e)))).2.1
   cases ok with
   | false =>
    rw[if_neg vg]at EL;exact again VF EL
   | true =>
    rw[if_pos rfl]at EL;refine dD (MF _ s10 σ9 O7 _ VF EL) λv zO HG=>?_;obtain⟨y,H11,I11,r11,xs,hx,hz,n11⟩:=HG;have ap:=cH _ zO σ9 H11 (.ref acc) [y] (.ref acc) [v] (λ_ H'=>N2 σ9 H') I11 rfl (.cons r11 .nil) ⟨_,xs,y,rfl,rfl,hx,hz,n11⟩;rw[hxe]at ap;exact dD ap λ_ sJ ⟨_,Z2,I12,_,Xz⟩=>again I12 Xz
 exact T5 loop (T.self _ _ _ _ _ st2 loop)
end
theorem T8{i:Nat}{v:V}{σ:L2.St}{H:Hp}{Q:L2.St->Bool->Hp->Prop}(h:Q (σ.set i (some v)) true H):xF i v σ H (fun σ2 H2=>QC σ2 H2 (Q σ2)):=h
theorem yes{σ:L2.St}{H:Hp}{Q:Bool->Hp->Prop}(h:Q true H):QC σ H Q:=h
end dI
namespace jL
open L2 dI
theorem K0{row:Row}{i:Nat}{p:Int × Int}(h:row[i]?=some p):bS (row.take (i+1))=bS (row.take i)++oK p:=by
 rw[take_snoc h,dF,jG]
theorem D6(row:Row)(i:Nat):(bS (row.take i)).length<=(bS row).length:=by
 conv=>rhs;rw[← List.take_append_drop i row,dF,dM]
 lia
theorem QF{H0 H2:Hp}{q t:Addr}{bs:List Addr}{row:Row}{st en:Int}(Z3:H0 q=none)(s:aM H0 H2)(jA:H2 q=some (.lst (bs.map V.ref)))(hb:bL H2 bs row)(ht:H2 t=none) :
  (aO (aO H2 t (.tup [.int st,.int en])) q (.lst (bs.map V.ref++[.ref t]))) q=some (.lst ((bs++[t]).map V.ref))/\
  bL (aO (aO H2 t (.tup [.int st,.int en])) q (.lst (bs.map V.ref++[.ref t]))) (bs++[t]) (row++[(st,en)])/\aM H0 (aO (aO H2 t (.tup [.int st,.int en])) q (.lst (bs.map V.ref++[.ref t]))):=by
 have XA:q≠t:=az jA ht;have s1:aM H2 (aO H2 t (.tup [.int st,.int en])):=ao ht _;refine⟨by rw[af,j5];rfl,?_,bX Z3 (s.trans s1) (aL q _ _)⟩;refine bL.snoc ((hb.same s1).keep (s1 _ _ jA) (aL q _ _)) ?_;show aO _ q _ t=_;rw[aK XA.symm,af]
theorem turned{H0 H2:Hp}{q t a:Addr}{bs:List Addr}{row:Row}{st en:Int}(Z3:H0 q=none)(s:aM H0 H2)(jA:H2 q=some (.lst (bs.map V.ref++[.ref a])))(hb:bL H2 bs row)(ht:H2 t=none) :
  (aO (aO H2 t (.tup [.int st,.int en])) q (.lst ((bs.map V.ref++[V.ref a]).set bs.length (V.ref t)))) q=some (.lst ((bs++[t]).map V.ref))/\
  bL (aO (aO H2 t (.tup [.int st,.int en])) q (.lst ((bs.map V.ref++[V.ref a]).set bs.length (V.ref t)))) (bs++[t]) (row++[(st,en)])/\aM H0 (aO (aO H2 t (.tup [.int st,.int en])) q (.lst ((bs.map V.ref++[V.ref a]).set bs.length (V.ref t)))):=by
 have XA:q≠t:=az jA ht;have s1:aM H2 (aO H2 t (.tup [.int st,.int en])):=ao ht _
 have e:(bs.map V.ref++[V.ref a]).set bs.length (V.ref t)=(bs++[t]).map V.ref:=by
  have z:=Ie (bs.map V.ref) (V.ref a) (V.ref t);rw[cR]at z;rw[z,j5];rfl
 rw[e];refine⟨af,?_,bX Z3 (s.trans s1) (aL q _ _)⟩;refine bL.snoc ((hb.same s1).keep (s1 _ _ jA) (aL q _ _)) ?_;show aO _ q _ t=_;rw[aK XA.symm,af]
theorem XC(bs:List Addr)(a:Addr):Mp (bs.map V.ref++[V.ref a]).length (-1)=some bs.length:=by
 rw[dM,cR,vK];exact Ic _
theorem N7{f:Row->Int × Int->Row}{row:Row}{i:Nat}{p:Int × Int}(h:row[i]?=some p):(row.take (i+1)).foldl f []=f ((row.take i).foldl f []) p:=foldl_take_succ f row [] i p h
theorem Ii(row:Row):∀ t:Row,(row.foldl gQ t).length<=t.length+row.length:=by
 induction row with
 | nil=>intro t;simp
 | cons p row ih =>
  intro t;have h1:=ih (gQ t p)
  have h2:(gQ t p).length<=t.length+1:=by
   unfold gQ;split
   ·lia
   ·exact AZ _ _ _
  rw[rj,qE];lia
theorem Ij(ns:List Int):∀ t:Row,(ns.foldl (λt n=>nH t n (n+1)) t).length<=t.length+ns.length:=by
 induction ns with
 | nil=>intro t;simp
 | cons n ns ih =>
  intro t;have h1:=ih (nH t n (n+1));have h2:=AZ t n (n+1);rw[rj,qE];lia
end jL
namespace jL
open Spec Rows L2 dI
inductive F5(vs:List V)(H:Hp)(Q:VK)(E:XK):Prop
 | mk (r:Addr) (row:Row) (_:vs=[.ref r]) (_:cM H r row) (_:row.length<=1000000) (_: ∀ H',aM H H'->Q (.int (lS row)) H')
end jL
namespace iV
open Spec Rows PySem.W L2
section
variable {P:Program} {w:World} {H H':Hp} {h h0 g:Heap} {a T:Addr} {C a0:Value} {o:HO}
theorem T9(x:jc P w H h a o):∃ u,h.get? a=some u:=by
 cases o with
 | lst xs=>obtain⟨_,_,_,_,e⟩:=x;exact⟨_,e⟩
 | tup xs=>obtain⟨_,_,_,_,e,_⟩:=x;exact⟨_,e⟩
 | dK kvs=>obtain⟨_,_,_,_,_,_,_,e,_⟩:=x;exact⟨_,e⟩
 | dT kvs=>obtain⟨_,_,_,_,_,_,_,e,_⟩:=x;exact⟨_,e⟩
 | set S n=>obtain⟨_,_,_,_,e,_⟩:=x;exact⟨_,e⟩
 | ins C dx fs=>obtain⟨_,_,_,e,_⟩:=x;exact⟨_,e⟩
 | own y=>exact x
 | xd fs=>obtain⟨_,⟨_,_,_,e,_⟩,_⟩:=x;exact⟨_,e⟩
 | DV lo hi=>obtain⟨_,_,_,e⟩:=x;exact⟨_,e⟩
 | Kf ob u=>exact⟨_,x.1⟩
 | Tg ps=>exact⟨_,x⟩
 | met f y=>exact⟨_,x⟩
 | ext φ=>exact x.2.1
theorem MG(x:vN P w H h){b:Addr}(e:h.get? b=none):H b=none:=by
 cases q:H b with
 | none=>rfl
 | some u =>
  obtain⟨z,hz⟩:=T9 (x b u q);rw[e]at hz;cases hz
theorem ET{l:List Addr}{b:Addr}(e:(hideAll h l).get? b=none):b∈l\/h.get? b=none:=by
 by_cases hb:b∈l
 ·exact .inl hb
 ·right
  cases q:h.get? b with
  | none=>rfl
  | some u=>rw[hideAll_get l q hb]at e;cases e
def Fly(h0:Heap)(H:Hp)(h:Heap)(a T:Addr)(C a0:Value):Prop :=
 (∃ oe vs oT ts,h.get? a=some oe/\(oe.cls=C/\vs[0]?=some a0)/\oe.data=.fields vs/\vs[1]?=some (.ref T)/\T≠a/\h.get? T=some oT/\oT.data=.fields ts/\ts[3]?=some .none)/\(H a=none/\H T=none)/\h0.get? a=none/\h0.get? T=none
theorem Cv{fs hd:List Addr}{l':List Env}(u:Un fs [] H H' h0 h)(hok:vN P w H' h)(h1:∀ b o,h0.get? b=some o->b∉fs->b∉hd)(h2:∀ b∈hd,H' b=none)
  (h3:∀ b∈fs,∃ o,h.get? b=some o/\∀ vs,o.data≠.fields vs) (h4:∀ b∈hd,h0.get? b=none\/∃ o,h.get? b=some o/\∀ vs,o.data≠.fields vs)
  (ha:h0.get? a=none) (ha':H' a=none) (f:Heap.FlyingW (hideAll h hd) l' a C a0 g) (k:h.UpToSlots g) :
  Un fs [] H H' h0 g/\vN P w H' g/\∃ T,Fly h0 H' g a T C a0:=by
 have nil:∀ b:Addr,b∉([]:List Addr):=λb=>List.not_mem_nil;have kp:∀ b o,h.get? b=some o->b∉hd->g.get? b=some o:=λb o e n=>f.1 b o (hideAll_get hd e n);refine⟨⟨λb o e n hb _=>kp b o (u.keep b o e n hb (nil b)) (h1 b o e hb),λb o e n hb _=>?_,λb o e n _=>u.free b o e n (nil b),λb o e _=>?_,u.tups,u.DW,u.FN⟩,λb o e=>?_,?_⟩
 ·obtain⟨sl,e1⟩:=u.slot b o e n hb (nil b);obtain⟨o',e2,nf⟩:=h3 b hb;obtain⟨sl',e3⟩:=k b o' e2 nf;rw[e1]at e2;cases e2;exact⟨sl',e3⟩
 ·by_cases hb:b∈fs
  ·obtain⟨o',e2,nf⟩:=h3 b hb;obtain⟨sl',e3⟩:=k b o' e2 nf;exact⟨_,e3⟩
  ·obtain⟨o',e1⟩:=u.there b o e (nil b);exact⟨o',kp b o' e1 (h1 b o e hb)⟩
 ·refine (hok b o e).stay (λc v hc q=>kp c v q λhm=>?_) (λ_ q=>q) λ_ _ q=>q;have hn:=h2 c hm;rcases hc with rfl|hc
  ·rw[e]at hn;cases hn
  ·rw[hc]at hn;cases hn
 ·obtain⟨_,_,_,oe,vs,T,oT,ts,e1,e2,e3,e4,e5,e6,e7,e8,e9⟩:=f;refine⟨T,⟨oe,vs,oT,ts,e1,e2,e3,e4,e6,e7,e8,e9⟩,⟨ha',?_⟩,ha,?_⟩
  ·rcases ET e5 with hm|hn
   ·exact h2 T hm
   ·exact MG hok hn
  ·rcases ET e5 with hm|hn
   ·rcases h4 T hm with z|⟨o,eo,nf⟩
    ·exact z
    ·obtain⟨sl,eg⟩:=k T o eo nf;rw[e7]at eg;cases eg;exact absurd e8 (nf ts)
   ·cases q:h0.get? T with
    | none=>rfl
    | some o =>
     obtain⟨o',eo⟩:=u.there T o q (nil T);rw[hn]at eo;cases eo
theorem Cw{zt:Heap}{l:List Env}(F:Fly h0 H h a T C a0)(S:h.FunFrames zt l):Heap.FlyingW (hideAll h (a::T::vI l)) l a C a0 h:=by
 obtain⟨⟨oe,vs,oT,ts,e1,e2,e3,e4,e5,e6,e7,e8⟩,_,_⟩:=F;refine⟨λb o e=>of_hideAll _ e,hideAll_none _ (yR),funFrames_hide S λenv he b hb=>?_,oe,vs,T,oT,ts,e1,e2,e3,e4,?_,e5,e6,e7,e8⟩
 ·exact sH _ (sH _ (List.mem_filterMap.mpr ⟨env,he,hb⟩))
 ·exact hideAll_none _ (sH _ yR)
end
def O8(P:Program)(w:World):O2:=λzn H s E e s'=>∃ a T C a0 H',e=.ref a/\(s'.os=s.os/\AllBare s'.gens)/\Un (vI zn) [] H H' s.heap s'.heap/\vN P w H' s'.heap/\Fly s.heap H' s'.heap a T C a0/\E C none H'
section
variable {X:Cx} {ak:List (Addr × Obj)} {σ:L2.St} {H H1:Hp} {s s':Shared} {a T:Addr} {C a0:Value}
theorem QG(zV:X.stack=X.env::X.zn)(hf:X.env.frame=some X.env.locals):vI X.stack=X.env.locals::X.fs:=by
 rw[zV];unfold vI;rw[List.filterMap_cons,hf];rfl
theorem wN(I:Inv X ak σ H s):∀ b∈vI X.stack,∃ o,s.heap.get? b=some o/\∀ vs,o.data≠.fields vs:=λb hb=>(I.stack.mem hb).2
theorem Ik{l':List Env}{g:Heap}(I:Inv X ak σ H s)(os:s'.os=s.os)(bare:AllBare s'.gens)(u:Un (vI X.stack) [] H H1 s.heap s'.heap)(hok:vN X.prog X.w H1 s'.heap)(F:Fly s.heap H1 s'.heap a T C a0)
  (f:Heap.FlyingW (hideAll s'.heap (a::T::vI X.stack)) l' a C a0 g) (k:s'.heap.UpToSlots g):Inv X ak σ H1 { s' with heap:=g }:=by
 have I1:Inv X ak σ H1 s':=I.Hx (ch:=[]) os u hok bare (λb z=>absurd z (by simp));obtain⟨_,⟨na,nT⟩,sa,sT⟩:=id F
 have p1:∀ b o,s.heap.get? b=some o->b∉vI X.stack->b∉a::T::vI X.stack:=λb o e hb hm=>by
  rcases List.mem_cons.mp hm with rfl|hm
  ·rw[sa]at e;cases e
  rcases List.mem_cons.mp hm with rfl|hm
  ·rw[sT]at e;cases e
  ·exact hb hm
 have p2:∀ b∈a::T::vI X.stack,H1 b=none:=λb hm=>by
  rcases List.mem_cons.mp hm with rfl|hm
  ·exact na
  rcases List.mem_cons.mp hm with rfl|hm
  ·exact nT
  ·exact I1.yT b hm
 have p4:∀ b∈a::T::vI X.stack,s.heap.get? b=none\/∃ o,s'.heap.get? b=some o/\∀ vs,o.data≠.fields vs:=λb hm=>by
  rcases List.mem_cons.mp hm with rfl|hm
  ·exact .inl sa
  rcases List.mem_cons.mp hm with rfl|hm
  ·exact .inl sT
  ·exact .inr (wN I1 b hm)
 obtain⟨u',KL,_⟩:=Cv (hd:=a::T::vI X.stack) u hok p1 p2 (wN I1) p4 sa na f k;exact I.Hx (s':={ s' with heap:=g }) (ch:=[]) os u' KL bare (λb z=>absurd z (by simp))
end
section
variable {P:Program} {w:World} {K:PySem.W.Frag} {mg:Str->Option Value} {zt:Heap} {N:List Str} {dG:Str} {scope:Scope} {f:Addr} {cd:Value} {A:Around} {zn:List Env} {s:Shared} {H:Hp} {E:XK}
abbrev N8(P:Program)(w:World)(K:PySem.W.Frag)(mg:Str->Option Value)(zt:Heap)(N:List Str)(dG:Str)(scope:Scope)(f:Addr)(cd:Value)(A:Around)(zn:List Env)(s:Shared)(H:Hp)(E:XK):Cx :=
 HM (O8 P w) P w K mg zt N dG scope f cd A zn s H E
theorem Z4:rD (O8 P w) (N8 P w K mg zt N dG scope f cd A zn s H E) E:=by
 intro ak σ H1 s1 e s' I h;obtain⟨a,T,C,a0,H',rfl,⟨os,bare⟩,u,hok,F,q⟩:=h;have I1:Inv (N8 P w K mg zt N dG scope f cd A zn s H E) ak σ H' s':=I.Hx (ch:=[]) os u hok bare (λb z=>absurd z (by simp));obtain⟨_,⟨na,nT⟩,sa,sT⟩:=id F
 have old:∀ b,s1.heap.get? b=none->s.heap.get? b=none:=λb e=>by
  cases z:s.heap.get? b with
  | none=>rfl
  | some o =>
   obtain⟨o',e'⟩:=I.zt.there b o z (λm=>absurd (show b∈([]:List Addr) from m) (by simp));rw[e]at e';cases e'
 refine wpAny_leaves_onW (base:=hideAll s'.heap (a::T::vI (N8 P w K mg zt N dG scope f cd A zn s H E).stack)) I.ok.frames rfl (Cw F I1.stack) λg fl k=>?_
 have p1:∀ b o,s.heap.get? b=some o->b∉vI zn->b∉a::T::vI (N8 P w K mg zt N dG scope f cd A zn s H E).stack:=λb o e hb hm=>by
  rcases List.mem_cons.mp hm with rfl|hm
  ·rw[old b sa]at e;cases e
  rcases List.mem_cons.mp hm with rfl|hm
  ·rw[old b sT]at e;cases e
  ·rw[QG rfl rfl]at hm;rcases List.mem_cons.mp hm with rfl|hm
   ·exact absurd (Heap.lt_size e) (Nat.not_lt.mpr I.ok.above)
   ·exact hb hm
 have p2:∀ b∈a::T::vI (N8 P w K mg zt N dG scope f cd A zn s H E).stack,H' b=none:=λb hm=>by
  rcases List.mem_cons.mp hm with rfl|hm
  ·exact na
  rcases List.mem_cons.mp hm with rfl|hm
  ·exact nT
  ·exact I1.yT b hm
 have p4:∀ b∈a::T::vI (N8 P w K mg zt N dG scope f cd A zn s H E).stack,s.heap.get? b=none\/∃ o,s'.heap.get? b=some o/\∀ vs,o.data≠.fields vs:=λb hm=>by
  rcases List.mem_cons.mp hm with rfl|hm
  ·exact .inl (old b sa)
  rcases List.mem_cons.mp hm with rfl|hm
  ·exact .inl (old b sT)
  ·exact .inr (wN I1 b hm)
 obtain⟨u',KL,T',F'⟩:=Cv (h0:=s.heap) (fs:=vI zn) (hd:=a::T::vI (N8 P w K mg zt N dG scope f cd A zn s H E).stack) I1.zt hok p1 p2 (λb hb=>(I1.xx.mem hb).2) p4 (old a sa) na fl k;exact⟨a,T',C,a0,H',rfl,⟨I1.os,bare⟩,u',KL,F',q⟩
def QH(X:Cx)(E:XK):Prop:=∀ (ak:List (Addr × Obj)) (σ:L2.St) (H:Hp) (s:Shared) (h':Heap) (e:Addr) (C:Value) (args:List Value),Inv X ak σ H s->Heap.MadeExcOf s.heap h' e C args->E C none H->X.xe (.ref e) { s with heap:=h' }
theorem XD:QH (N8 P w K mg zt N dG scope f cd A zn s H E) E:=by
 intro ak σ H1 s1 h' e C args I M q
 have old:∀ b,s1.heap.get? b=none->s.heap.get? b=none:=λb e=>by
  cases z:s.heap.get? b with
  | none=>rfl
  | some o =>
   obtain⟨o',e'⟩:=I.zt.there b o z (λm=>absurd (show b∈([]:List Addr) from m) (by simp));rw[e]at e';cases e'
 refine wpAny_leaves_madeW (base:=hideAll s1.heap (vI (N8 P w K mg zt N dG scope f cd A zn s H E).stack)) (h:=s1.heap) I.ok.frames rfl (λb o e=>of_hideAll _ e) (funFrames_hide I.stack λenv he b hb=>List.mem_filterMap.mpr ⟨env,he,hb⟩) M λg t fl _ _ k=>?_;have k1:s1.heap.UpToSlots g:=(Heap.UpToSlots.of_keeps M.keeps).trans k
 have p1:∀ b o,s.heap.get? b=some o->b∉vI zn->b∉vI (N8 P w K mg zt N dG scope f cd A zn s H E).stack:=λb o e hb hm=>by
  rw[QG rfl rfl]at hm;rcases List.mem_cons.mp hm with rfl|hm
  ·exact absurd (Heap.lt_size e) (Nat.not_lt.mpr I.ok.above)
  ·exact hb hm
 obtain⟨u',KL,T',F'⟩:=Cv (h0:=s.heap) (fs:=vI zn) (hd:=vI (N8 P w K mg zt N dG scope f cd A zn s H E).stack) I.zt I.hok p1 (λb hm=>I.yT b hm) (λb hb=>(I.xx.mem hb).2) (λb hm=>.inr (wN I b hm)) (old e M.new) (MG I.hok M.new) fl k1;exact⟨e,T',C,.ref t,H1,rfl,⟨I.os,I.bare⟩,u',KL,F',q⟩
theorem okX{x dG:Str}{st:Stmt}{f:Addr}{N ps:List Str}{k:Nat}{sp:Sp}(F:iH K x dG st f fd)(S:aH N ps (aA st))(len:∀ vs H Q E,sp vs H Q E->vs.length=ps.length)
  (yW:∀ (dH:Value) (A:Around) (zn:List Env) (s:Shared) (H:Hp) (vs:List V) (Q:VK) (E:XK),kH k (A.deeper (envOfC dG (aA st) s.heap.objs.size f dH))->sp vs H Q E->
   ∃ t,Hg (N8 P w K mg zt N dG (aA st) f dH A zn s H E) (lM st) t/\t { nx:=λ_ H'=>Q .iZ H',rt:=Q } (start N vs) H):aF P w K mg zt (O8 P w) (k+1) f fd ps sp:=by
 obtain⟨oc,od,kV,zY,pm,an,dH,ct,NS,rfl,lk,NI⟩:=F.ex;exact Vt lk NI S len λA zn s H vs Q E hr KC=>yW dH A zn s H vs Q E hr KC
end
section
variable {X:Cx}
theorem Ua{K:Frag}{h:Heap}{Z5:List Value}{EU:String}{x:Str}{mg:Str->Option Value}(I:K.In h)(m:mg x=some (.ref C))(q:excIn K C Z5 EU=true):OwnCls x C Z5 EU mg h:=by
 refine⟨m,?_⟩;unfold excIn at q;split at q
 case h_2=>cases q
 rename_i dd cd sl ho;split at q
 case h_2=>cases q
 rename_i c1 bm k0 k1 k2 k3 n k5 hm hs;simp only[Bool.and_eq_true,beq_iff_eq,Bool.not_eq_true']at q;obtain⟨⟨⟨⟨⟨e1,e2⟩,adx⟩,ht⟩,Vu⟩,hni⟩:=q;cases e1;cases e2
 cases cd with
 | mk nm bs mro ns qn hd sn sub ab col del =>
  cases hm;cases adx
  cases sl with
  | mk l =>
   have hs':l=[k0,k1,k2,k3,some (.builtin EU),k5]:=hs;subst hs';exact⟨bm,ns,nm,qn,bs,hd,sn,sub,ab,col,dd,k0,k1,k2,k3,k5,_,I _ _ ho,.of_isNs (isNs_of_in I Vu),nsMap_none_of_in I Vu hni,tail_of_in I ht⟩
def XE(C:Addr)(E:XK)(t:TA):TS:=λ_ σ H=>t σ H λvs H1=>vs.length<=sizeLine/\E (.ref C) none H1
theorem QI{E:XK}{x:Str}{Z5:List Value}{EU XF B:String}{e:Expr}{es:List Expr}{t:TA}{np pos:Pos}(FB:ExcBaseFacts B EU XF Z5)(hx:excIn X.K C Z5 EU=true)(hm:X.mg x=some (.ref C))(hc:X.calm=true)(hr:QH X E)
  (ha:PA X (e::es) t) (hg:Gl X x:=by rfl) (HL:(x == ("__debug__":Str))=false:=by decide) (he:starEach (e::es) X.env=(false,eval e X.env)::starEach es X.env:=by rfl) (BP:(backTo sI (starEach es X.env)).any (·.1)=false:=by rfl) :
  PS X (.Raise (some (.Call (.Name x np) (e::es) [] sI)) none pos) (XE C E t):=by
 intro ak s σ H D I h;obtain⟨tl,Nd,c1,c2,c3,c4,c5,c6,c7,c8,c9,d0,d1,d2,d3,d5,mN,hC,hN,hni,T⟩:=(Ua I.mod.YJ hm hx).obj;refine wpAny_Raise_call_subT (nm:=c1) (q:=c2) (N:=Nd) (bs:=c3) (hdct:=c4) (sn:=c5) (sub:=c6) (ab:=c7) (col:=c8) (dd:=c9) (k0:=d0) (k1:=d1) (k2:=d2) (k3:=d3) (k5:=d5) FB (T.hasType FB.hasBase) (I.ok.hd hc) (by rw[he];show (false || (backTo sI (starEach es X.env)).any (·.1))=false;rw[BP];rfl) hni (wH I hg hm ⟨rfl,?_⟩ HL);rw[he];have hw:=ha sI ak s σ H _ I h;rw[he]at hw;refine Calls.evalArgs_plain (dD hw λus s1 DY=>?_);obtain⟨vs,H1,I1,r,q1,q2⟩:=DY;exact⟨rfl,by rw[← r.length];exact q1,I1.bk _ _ hC,hN.keeps I1.bk,T.keeps I1.bk,λh' e M=>hr ak σ H1 s1 h' e _ _ I1 M q2⟩
end
abbrev XG(X:Cx)(a:Addr):Cx:={ X with A:=X.A.mark (some (.ref a)),calm:=false,xe:=λ_ _=>False }
section
variable {X:Cx} {ak:List (Addr × Obj)} {σ:L2.St} {H:Hp} {s:Shared} {a:Addr}
theorem okH(ok:X.Ok)(a:Addr):(XG X a).Ok :=
 { mod:=ok.mod,kind:=ok.kind,glob:=ok.glob,blt:=ok.blt,above:=ok.above,inj:=ok.inj,has:=ok.has,WK:=ok.WK,hd:=λz=>(vg z).elim,frames:=ok.frames,stk:=ok.stk,exf:=ok.exf,bs:=ok.bs,Sx:=ok.Sx,Kh:=ok.Kh,NH:=ok.NH,xx:=ok.xx,Ti:=ok.Ti }
theorem inH(I:Inv X ak σ H s)(a:Addr):Inv (XG X a) ak σ H s:={ ok:=okH I.ok a,os:=I.os,bare:=I.bare,zt:=I.zt,loc:=I.loc,cell:=I.cell,free:=I.free,sM:=I.sM,pin:=I.pin,hok:=I.hok,len:=I.len }
theorem Ub(ok:X.Ok)(I:Inv (XG X a) ak σ H s):Inv X ak σ H s:={ ok:=ok,os:=I.os,bare:=I.bare,zt:=I.zt,loc:=I.loc,cell:=I.cell,free:=I.free,sM:=I.sM,pin:=I.pin,hok:=I.hok,len:=I.len }
theorem spH(ok:X.Ok){D:Ends}{f:Flow}{s':Shared}(h:SP (XG X a) ak D f s'):SP X ak D f s':=by
 cases f with
 | next=>obtain⟨σ',H',I,q⟩:=h;exact⟨σ',H',Ub ok I,q⟩
 | brk=>obtain⟨σ',H',I,q⟩:=h;exact⟨σ',H',Ub ok I,q⟩
 | cont=>obtain⟨σ',H',I,q⟩:=h;exact⟨σ',H',Ub ok I,q⟩
 | ret u=>obtain⟨v,σ',H',I,r,q⟩:=h;exact⟨v,σ',H',Ub ok I,r,q⟩
theorem XH{y:Str}{tb:TS}{D:Ends}{e:Value}{s':Shared}(zV:X.stack=X.env::X.zn)(hf:X.env.frame=some X.env.locals)(hmy:X.mg y=some (.ref Cy))(hx:exmOne X.K (.ref C) (.ref Cy)=some true)
  (hb:∀ a,Hg (XG X a) (b0::EV) tb) (hg:Gl X y) (HL:(y == ("__debug__":Str))=false) (I:Inv X ak σ H s) (h:O8 X.prog X.w X.stack H s (λc _ H2=>c=.ref C/\tb D σ H2) e s') :
  wpAny (model X.prog X.w) X.A (noteFrame e X.env) (λ_ s₂=>wpAny (model X.prog X.w) X.A (setFlight e none) (λ_ s₃=>wpAny (model X.prog X.w) X.A (handleBy e X.env [.ExceptHandler (some (.Name y np)) none (b0::EV) Uc]) (SP X ak D) X.xe s₃) X.xe s₂) X.xe s':=by
 obtain⟨a,T,c,a0,H2,rfl,⟨os,bare⟩,u,hok,F,rfl,q⟩:=h;have I1:Inv X ak σ H2 s':=I.Hx (ch:=[]) os u hok bare (λb z=>absurd z (by simp));have G0:=Cw F I1.stack
 have G0':Heap.FlyingW (hideAll s'.heap (a::T::vI X.stack)) (X.env::X.zn) a (.ref C) a0 s'.heap:=by
  have z:=G0;rw[zV]at z;rw[zV];exact z
 refine wpAny_looks_onW (I.ok.frames.trans (by rw[zV])) hf G0' λh4 adA k4=>wpAny_landsW adA λh5 fl5 k5=>?_;have I5:Inv X ak σ H2 { s' with heap:=h5 }:=Ik I os bare u hok F fl5 (k4.trans k5);obtain⟨ob,hob,hcl⟩:=fl5.there;have LT:Looks (model X.prog X.w) h5 (typeOf (.ref a)) (.ref C):=hcl ▸ (Looks.ld hob).andThen .now;refine wpAny_handleBy_cons (codeAny_handlers_test (wH (X:=XG X a) (inH I5 a) hg hmy ?_ HL)) (by intro z;cases z);refine (exm_one (M:=model X.prog X.w) I5.yS LT hx).here ?_;refine codeAny_handlers_suite (lands_againW fl5 λh6 fl6 k6=>?_);have I6:Inv X ak σ H2 { s' with heap:=h6 }:=Ik I os bare u hok F fl6 ((k4.trans k5).trans k6);exact wpAny_mono (hb a ak _ σ H2 D (inH I6 a) q) (λfl s2 z=>spH I6.ok z) λ_ _ z=>False.elim z
variable {x y:Str} {st:Stmt} {ps:List Str} {f:Addr} {fd:FuncData} {j k:Nat} {sp:Sp} {e:Expr} {es:List Expr} {t:TA} {p pos XJ Il XM np Uc:Pos} {C Cy:Addr} {b0:Stmt} {EV:List Stmt} {tb:TS}
end
end iV
namespace iV
open Spec Rows L2
section
variable {X:Cx}
abbrev TJ:=L2.St->Hp->(Hp->Prop)->Prop
def PJ(X:Cx)(es:List Expr)(m:Nat)(t:TJ):Prop:=∀ (ak:List (Addr × Obj)) (s:Shared) (σ:L2.St) (H:Hp) (Bu:Str) (Q:Hp->Prop),L2.Inv X ak σ H s->t σ H Q->Bu.length+m<=1000000->
 wpAny (model X.prog X.w) X.A (joinParts Bu (evalEach es X.env)) (λu s'=>∃ x tk H',u=.str x tk/\L2.Inv X ak σ H' s'/\Q H') X.xe s
theorem XO:PJ X [] 0 (λ_ H Q=>Q H):=λak s σ H Bu Q I h hl =>
 joinParts_nil ⟨Bu,_,H,rfl,I.tok _,h⟩ (j9 (Nat.lt_of_le_of_lt hl (by decide)))
theorem BS{Bu y:Str}{m n:Nat}(h:Bu.length+(n+m)<=1000000)(hy:y.length<=n):(Bu++y).length<=sizeLine/\(Bu++y).length+m<=1000000:=by
 rw[PySem.strLen_append];refine⟨Nat.le_of_lt (Nat.lt_of_le_of_lt (show Bu.length+y.length<=1000000 by lia) (by decide)),by lia⟩
theorem QJ{x:Str}{j:Nat}{es:List Expr}{m:Nat}{t:TJ}(h:PJ X es m t):PJ X (.Constant (.str x) j pos::es) (x.length+m) t:=by
 intro ak s σ H Bu Q I q hl;refine joinParts_consE (joinParts_cons (Calls.Constant_str ?_));have z:=BS (y:=x) hl (ja _);exact⟨z.1,h ak _ σ H _ Q (I.tok _) q z.2⟩
theorem QK{e:Expr}{te:TE}{es:List Expr}{m:Nat}{t:TJ}(he:PE X e te)(h:PJ X es m t):PJ X (.FormattedValue e (-1) none pos::es) (1921+m) (fun σ H Q=>te σ H λv H1=>∃ i:Int,v=.int i/\i.natAbs.log2<1920/\t σ H1 Q):=by
 intro ak s σ H Bu Q I q hl;refine joinParts_consE (joinParts_cons (FormattedValue_plain (dD (he ak s σ H _ I q) λv s1 HG=>?_)));obtain⟨x,H1,I1,r1,i,e1,hi,q1⟩:=HG;subst e1;obtain⟨tk,rfl⟩:=r1;refine formatField_int_small hi ?_;have z:=BS (y:=Str.ofString (toString i)) hl (int_text_len_1921 hi);exact⟨z.1,h ak _ σ H1 _ Q (I1.tok _) q1 z.2⟩
theorem Ud{vO:List Expr}{m:Nat}{t:TJ}(h:PJ X (v1::v2::vO) m t)(hm:m<=1000000:=by decide +kernel):PE X (.JoinedStr (v1::v2::vO) pos) (fun σ H Q=>t σ H λH1=>∀ x,Q (.str x) H1):=by
 intro ak s σ H Q I q;refine JoinedStr_many (dD (h ak s σ H Str.empty _ I q (by show 0+m<=_;lia)) λu s1 HH=>?_);obtain⟨x,tk,H1,e,I1,q1⟩:=HH;subst e;exact⟨.str x,H1,I1,⟨_,rfl⟩,q1 x⟩
def Ue(r r' r2:R2)(ta tb tc td:TE):TT:=fun σ H Q=>ta σ H λx H1=>tb σ H1 λy H2=>r x y H2 λz H3=>∃ k,z=.bl k/\
 (if k=true then tc σ H3 λu H4=>r' y u H4 λz' H5=>∃ k',z'=.bl k'/\(if k'=true then td σ H5 λv H6=>r2 u v H6 λz2 H7=>∃ k2,z2=.bl k2/\Q k2 H7 else Q false H5) else Q false H3)
theorem N9{op J5 XQ:CmpOp}{r r' r2:R2}{a b c d:Expr}{ta tb tc td:TE}(ho:yM X (compareOp op) r)(Kl:yM X (compareOp J5) r')(ho2:yM X (compareOp XQ) r2)(ha:PE X a ta)(hb:PE X b tb)(hc:PE X c tc)(hd:PE X d td)
  (hm:lastMarks [op,J5,XQ] [b,c,d]=false:=by with_unfolding_all rfl):PT X (.Compare a [op,J5,XQ] [b,c,d] pos) (Ue r r' r2 ta tb tc td):=by
 intro ak s σ H Q I h
 refine isTrue_chain (dD (ha ak s σ H _ I h) λv s1 ⟨x,H1,I1,r1,q1⟩=>test_link (dD (hb ak s1 σ H1 _ I1 q1) λu s2 ⟨y,H2,I2,r2',q2⟩ =>
  dD (ho ak s2 σ H2 x y v u _ I2 r1 r2' q2) λz s3 ⟨z',H3,I3,r3,k,e,q3⟩=>?_)) hm
 subst e;cases r3;refine wpAny_truthy_bool ?_
 cases k with
 | false=>exact ite_ff ⟨H3,I3,q3⟩
 | true =>
  refine ite_tt (test_link (dD (hc ak s3 σ H3 _ I3 q3) λv4 s4 ⟨x4,H4,I4,r4,q4⟩=>dD (Kl ak s4 σ H4 y x4 u v4 _ I4 r2' r4 q4) λz5 s5 Ko=>?_));obtain⟨x5,H5,I5,r5,k5,e5,q5⟩:=Ko;subst e5;cases r5;refine wpAny_truthy_bool ?_
  cases k5 with
  | false=>exact ite_ff ⟨H5,I5,q5⟩
  | true =>
   refine ite_tt (test_last (dD (hd ak s5 σ H5 _ I5 q5) λv6 s6 ⟨x6,H6,I6,r6,q6⟩=>dD (ho2 ak s6 σ H6 x4 x6 v4 v6 _ I6 r4 r6 q6) λz7 s7 Kn=>?_));obtain⟨x7,H7,I7,r7,k7,e7,q7⟩:=Kn;subst e7;cases r7;exact wpAny_truthy_bool ⟨H7,I7,q7⟩
end
end iV
namespace jL
open L2 dI iV
theorem aZ{H H':Hp}{a:Addr}(s:aM H H')(h:H' a=none):H a=none:=by
 cases q:H a with
 | none=>rfl
 | some o=>rw[s a o q]at h;cases h
def wO(i:Int):Prop:=-(10^60)<i/\i<10^60
theorem wO.log{i:Int}(h:wO i):i.natAbs.log2<1920:=by
 have h1:i.natAbs<2^1920:=by
  have:i.natAbs<10^60:=by
   obtain⟨a,b⟩:=h;have e:((10:Int)^60)=(((10:Nat)^60:Nat):Int):=by norm_cast
   rw[e]at a b;lia
  exact vA this (by decide +kernel)
 by_cases h0:i.natAbs=0
 ·rw[h0];decide
 ·exact (Nat.log2_lt h0).mpr h1
def QL(a b h:Int)(p:Int × Int):Row:=if max (a-h) 0<min (b-h) (p.2-p.1) then [(p.1+max (a-h) 0,p.1+min (b-h) (p.2-p.1))] else []
def qp(a b:Int):Int->Row->Row
 | _,[]=>[]
 | h,p::r=>QL a b h p++qp a b (h+(p.2-p.1)) r
theorem Im(a b:Int)(p:Int × Int):∀ (r:Row) (c:Int),qp a b c (r++[p])=qp a b c r++QL a b (c+lS r) p
 | [],c=>by simp[qp,MB]
 | q::r,c=>by
  have e:c+(q.2-q.1)+lS r=c+lS (q::r):=by rw[Cs];lia
  rw[List.cons_append,qp,Im a b p r,qp,e,pQ]
theorem XR(a b h:Int)(p:Int × Int):(QL a b h p).length<=1:=by
 unfold QL
 split <;> simp
theorem oX(a b:Int):∀ (r:Row) (c:Int),(qp a b c r).length<=r.length
 | [],_=>ja _
 | q::r,c=>by
  have ih:=oX a b r (c+(q.2-q.1));have z:=XR a b c q;rw[qp,dM,qE];lia
theorem QM(a b h:Int)(p:Int × Int):∀ q∈QL a b h p,q.1<=q.2:=by
 unfold QL;split
 ·intro q hq;simp only[List.mem_singleton]at hq;subst hq;simp only;lia
 ·intro q hq;cases hq
theorem F6(a b:Int):∀ (r:Row) (c:Int),∀ q∈qp a b c r,q.1<=q.2
 | [],_=>λq hq=>by cases hq
 | p::r,c=>λq hq=>by
  rw[qp]at hq;rcases List.mem_append.mp hq with z|z
  ·exact QM a b c p q z
  ·exact F6 a b r _ q z
theorem Io(s:Int):∀ (n k:Nat),(run s n).drop k=run (s+k) (n-k)
 | n,0=>by simp
 | 0,k+1=>by simp[run]
 | n+1,k+1=>by
  rw[run,List.drop_succ_cons,Io (s+1) n k];have e1:s+1+(k:Int)=s+((k+1:Nat):Int):=by lia
  have e2:n+1-(k+1)=n-k:=by lia
  rw[e1,e2]
theorem Ip(s:Int):∀ (n k:Nat),(run s n).take k=run s (min k n)
 | n,0=>by simp[run]
 | 0,k+1=>by simp[run]
 | n+1,k+1=>by
  rw[run,List.take_succ_cons,Ip (s+1) n k];have e2:min (k+1) (n+1)=min k n+1:=by lia
  rw[e2,run]
theorem Oa(a b h:Int)(p:Int × Int)(hp:p.1<=p.2):bS (QL a b h p)=((oK p).take (b-h).toNat).drop (a-h).toNat:=by
 obtain⟨s,e⟩:=p;simp only at hp;unfold QL oK;simp only;rw[Ip,Io,← Int.ofNat_toNat (a-h)];generalize (a-h).toNat=n;generalize b-h=x;have y0:0<=e-s:=by lia
 generalize e-s=y at y0
 have em:min x.toNat y.toNat=(min x y).toNat:=by
  rcases Int.le_total x y with c|c
  ·rw[Int.min_eq_left c,Nat.min_eq_left (Int.toNat_le_toNat c)]
  ·rw[Int.min_eq_right c,Nat.min_eq_right (Int.toNat_le_toNat c)]
 rw[em];generalize min x y=m;clear em y0 hp;by_cases c:(n:Int)<m
 ·rw[if_pos c,jG,oK];simp only;rw[Int.add_sub_add_left,Int.toNat_sub']
 ·rw[if_neg c,Nat.sub_eq_zero_of_le (Int.toNat_le.mpr (Int.not_lt.mp c))];rfl
theorem CA(b h:Int)(L:Nat):(b-(h+L)).toNat=(b-h).toNat-L:=by rw[← Int.sub_sub,Int.toNat_sub']
theorem wQ(a b:Int):∀ (r:Row) (h:Int),(∀ p∈r,p.1<=p.2)->bS (qp a b h r)=((bS r).take (b-h).toNat).drop (a-h).toNat
 | [],h,_=>by simp[qp,bS]
 | p::r,h,ok=>by
  have hp:=ok p (yR ..);have ih:=wQ a b r (h+(p.2-p.1)) λq hq=>ok q (sH _ hq);have e:bS (p::r)=oK p++bS r:=rfl;have hl:=A0 p hp;rw[qp,dF,Oa a b h p hp,ih,e,List.take_append,List.drop_append,jV];congr 1;rw[← hl,CA,CA];by_cases hb:(oK p).length<=(b-h).toNat
  ·rw[Nat.min_eq_right hb]
  ·rw[Nat.sub_eq_zero_of_le (Nat.le_of_not_le hb)];simp
def O9(a b t:Int):Prop:=0<=a/\a<=b/\b<=t
inductive zd(vs:List V)(H:Hp)(Q:VK)(E:XK):Prop
 | mk (r:Addr) (row:Row) (a b:Int) (_:vs=[.ref r,.int a,.int b]) (_:cM H r row) (_:row.length<=1000000) (_ :
 ∀ (q:Addr) (H':Hp),cM H' q (qp a b 0 row)->aM H H'->H q=none->Q (.ref q) H')
end jL
namespace jL
open L2 dI iV
end jL
namespace jL
open L2 dI iV
theorem sY(r:Row)(ok:∀ p∈r,p.1<=p.2):bS (cJ r)=bS r:=by rw[Cr r ok,je]
theorem uO(a b:Int)(row:Row)(ok:∀ p∈row,p.1<=p.2):bS (cJ (qp a b 0 row))=((bS row).take b.toNat).drop a.toNat:=by
 rw[sY _ (F6 a b row 0),wQ a b row 0 ok,Int.sub_zero,Int.sub_zero]
theorem F7(s:Int):∀ (n k:Nat),k<n->(run s n)[k]?=some (s+k)
 | 0,k,h=>by lia
 | n+1,0,_=>by simp[run]
 | n+1,k+1,h=>by
  rw[run,List.getElem?_cons_succ,F7 (s+1) n k (by lia)];congr 1;lia
theorem qV(r:Row):(cJ r).length<=r.length:=by
 have z:=Ii r [];simpa [cJ] using z
end jL
namespace jL
open Spec Rows L2 dI iV
theorem bL.append{H:Hp}{as bs:List Addr}{r q:Row}(h:bL H as r)(t:bL H bs q):bL H (as++bs) (r++q):=by
 induction h with
 | nil=>exact t
 | cons e _ ih=>exact .cons e ih
theorem XS{r q:Row}(h:∀ p∈r,p.1<=p.2)(g:∀ p∈q,p.1<=p.2):∀ p∈r++q,p.1<=p.2:=λp hp=>(List.mem_append.mp hp).elim (h p) (g p)
end jL
namespace L2
open Spec Rows
section
variable {κ:Type} [DecidableEq κ]
def cW(kvs:List (κ × V))(k:κ):Option V:=(kvs.find? λkv=>decide (kv.1=k)).map (·.2)
def iC(kvs:List (κ × V))(k:κ)(v:V):List (κ × V) :=
 if (kvs.any λkv=>decide (kv.1=k))=true then kvs.map (λkv=>if kv.1=k then (kv.1,v) else kv) else kvs++[(k,v)]
theorem kM{p:κ × V}{r:List (κ × V)}{k:κ}(e:p.1=k):cW (p::r) k=some p.2:=by simp[cW,List.find?_cons,e]
theorem kO{p:κ × V}{r:List (κ × V)}{k:κ}(e:¬ p.1=k):cW (p::r) k=cW r k:=by simp[cW,List.find?_cons,e]
theorem rO(k:κ):∀ kvs:List (κ × V),(kvs.any λkv=>decide (kv.1=k))=(cW kvs k).isSome
 | []=>rfl
 | p::r=>by
  rw[List.any_cons];by_cases e:p.1=k
  ·simp only[kM e,decide_eq_true e,Bool.true_or,Option.isSome_some]
  ·rw[kO e,decide_eq_false e,Bool.false_or];exact rO k r
theorem Iq(k j:κ)(y:V):∀ kvs:List (κ × V),cW (kvs.map λkv=>if kv.1=k then (kv.1,y) else kv) j=(cW kvs j).map λx=>if j=k then y else x
 | []=>rfl
 | p::r=>by
  have ih:=Iq k j y r;rw[oJ];by_cases h:p.1=k
  ·rw[if_pos h];by_cases e:p.1=j
   ·rw[kM (p:=(p.1,y)) e,kM e,Option.map_some,if_pos (e.symm.trans h)]
   ·rw[kO (p:=(p.1,y)) e,kO e,ih]
  ·rw[if_neg h];by_cases e:p.1=j
   ·rw[kM (p:=p) e,kM e,Option.map_some,if_neg (λz=>h (e.trans z))]
   ·rw[kO (p:=p) e,kO e,ih]
theorem EW(k j:κ)(y:V):∀ kvs:List (κ × V),cW kvs k=none->cW (kvs++[(k,y)]) j=if j=k then some y else cW kvs j
 | [],_=>by
  by_cases e:k=j
  ·rw[if_pos e.symm];exact kM (p:=(k,y)) e
  ·rw[if_neg (λz=>e z.symm)];exact kO (p:=(k,y)) e
 | p::r,hn=>by
  rw[List.cons_append];have hk:¬ p.1=k:=λz=>by rw[kM z]at hn;cases hn
  rw[kO hk]at hn;have ih:=EW k j y r hn;by_cases e:p.1=j
  ·rw[kM e,kM e,if_neg (λz=>hk (e.trans z))]
  ·rw[kO e,kO e,ih]
theorem pZ(kvs:List (κ × V))(k j:κ)(y:V):cW (iC kvs k y) j=if j=k then some y else cW kvs j:=by
 unfold iC;by_cases a:(kvs.any λkv=>decide (kv.1=k))=true
 ·rw[if_pos a,Iq];rw[rO]at a;by_cases e:j=k
  ·obtain⟨x,hx⟩:=Option.isSome_iff_exists.mp a;rw[if_pos e,e,hx,Option.map_some,if_pos rfl]
  ·rw[if_neg e]
   cases cW kvs j with
   | none=>rfl
   | some x=>rw[Option.map_some,if_neg e]
 ·rw[if_neg a];refine EW k j y kvs ?_;rw[rO]at a
  cases q:cW kvs k with
  | none=>rfl
  | some x=>rw[q]at a;exact (a rfl).elim
theorem kQ(kvs:List (κ × V))(k:κ)(v:V):(iC kvs k v).length<=kvs.length+1:=by
 unfold iC;split
 ·rw[cR];lia
 ·rw[dM,qE,xr];lia
theorem CC{kvs:List (κ × V)}{k:κ}(v:V)(h:cW kvs k=none):iC kvs k v=kvs++[(k,v)]:=by
 unfold iC;rw[rO,h];exact if_neg (by decide)
theorem xu.Ae{o:Option V}{u:Option Value}(r:xu o u):o.isSome=u.isSome:=by
 cases o with
 | none=>cases u with
  | none=>rfl
  | some _=>exact (show False from r).elim
 | some _=>cases u with
  | none=>exact (show False from r).elim
  | some _=>rfl
theorem KV.val{kvs:List (κ × V)}{vs:List (κ × Value)}(r:KV kvs vs)(k:κ):xu (cW kvs k) (valueAt vs k):=by
 unfold KV at r
 induction r with
 | nil=>exact True.intro
 | @cons p q ps qs h t ih =>
  obtain⟨h1,h2⟩:=h;by_cases e:p.1=k
  ·have e':q.1=k:=h1.symm.trans e;have b:valueAt (q::qs) k=some q.2:=by simp[valueAt,List.find?_cons,e']
   rw[kM e,b];exact h2
  ·have e':¬ q.1=k:=λz=>e (h1.trans z);have b:valueAt (q::qs) k=valueAt qs k:=by simp[valueAt,List.find?_cons,e']
   rw[kO e,b];exact ih
theorem KV.any{kvs:List (κ × V)}{vs:List (κ × Value)}(r:KV kvs vs)(k:κ):(kvs.any λkv=>decide (kv.1=k))=vs.any λkv=>decide (kv.1=k):=by
 unfold KV at r
 induction r with
 | nil=>rfl
 | cons h t ih=>rw[List.any_cons,List.any_cons,ih,h.1]
theorem KV.repl{kvs:List (κ × V)}{vs:List (κ × Value)}(r:KV kvs vs)(k:κ){y:V}{u:Value}(ry:RelV y u) :
  KV (kvs.map λkv=>if kv.1=k then (kv.1,y) else kv) (vs.map λkv=>if kv.1=k then (kv.1,u) else kv):=by
 unfold KV at r ⊢
 induction r with
 | nil=>exact .nil
 | @cons p q ps qs h t ih =>
  rw[oJ,oJ];refine .cons ?_ ih;obtain⟨h1,h2⟩:=h;by_cases e:p.1=k
  ·rw[if_pos e,if_pos (h1.symm.trans e)];exact⟨h1,ry⟩
  ·rw[if_neg e,if_neg (λz=>e (h1.trans z))];exact⟨h1,h2⟩
theorem KV.put{kvs:List (κ × V)}{vs:List (κ × Value)}(r:KV kvs vs)(k:κ){y:V}{u:Value}(ry:RelV y u):KV (iC kvs k y) (stored vs k u):=by
 unfold iC stored;rw[r.any k];by_cases e:(vs.any λkv=>decide (kv.1=k))=true
 ·rw[if_pos e,if_pos e];exact r.repl k ry
 ·rw[if_neg e,if_neg e];exact Paired.snoc r ⟨rfl,ry⟩
theorem KV.length{kvs:List (κ × V)}{vs:List (κ × Value)}(r:KV kvs vs):kvs.length=vs.length:=Paired.length r
end
theorem EX{P:Program}{w:World}{k:iL}{u:Value}(r:RelV (kV k) u):(jb P w).is k u=true:=by
 cases k with
 | inl i=>obtain⟨t,e⟩:=(show ∃ t,u=Value.int i t from r);subst e;exact Hu P w i t
 | inr x=>obtain⟨t,e⟩:=(show ∃ t,u=Value.str x t from r);subst e;exact Hv P w x t
theorem EY{P:Program}{w:World}:∀ {ks:List iL} {us:List Value},cF (ks.map kV) us->ItemsAre (jb P w) ks us
 | [],_,r=>by rw[List.map_nil]at r;cases r;exact .nil
 | k::ks,_,r=>by
  rw[oJ]at r
  cases r with
  | cons h t=>exact .cons (EX h) (EY t)
abbrev KT(H:Hp):List (List iL × V)->List (List iL × Addr × Value)->Prop:=Paired λp q=>p.1=q.1/\H q.2.1=some (.tup (p.1.map kV))/\RelV p.2 q.2.2
theorem KT.val{H:Hp}{kvs:List (List iL × V)}{xs:List (List iL × Addr × Value)}(r:KT H kvs xs)(k:List iL):xu (cW kvs k) ((atKey xs k).map (·.2)):=by
 induction r with
 | nil=>exact True.intro
 | @cons p q ps qs h t ih =>
  obtain⟨h1,_,h2⟩:=h;by_cases e:p.1=k
  ·have e':q.1=k:=h1.symm.trans e;have b:atKey (q::qs) k=some q.2:=by simp[atKey,List.find?_cons,e']
   rw[kM e,b];exact h2
  ·have e':¬ q.1=k:=λz=>e (h1.trans z);have b:atKey (q::qs) k=atKey qs k:=by simp[atKey,List.find?_cons,e']
   rw[kO e,b];exact ih
theorem KT.repl{H:Hp}{kvs:List (List iL × V)}{xs:List (List iL × Addr × Value)}(r:KT H kvs xs)(k:List iL){y:V}{u:Value}(ry:RelV y u) :
  KT H (kvs.map λkv=>if kv.1=k then (kv.1,y) else kv) (xs.map (putAt k u)):=by
 induction r with
 | nil=>exact .nil
 | @cons p q ps qs h t ih =>
  rw[oJ,oJ];refine .cons ?_ ih;obtain⟨h1,h2,h3⟩:=h;unfold putAt;by_cases e:p.1=k
  ·rw[if_pos e,if_pos (h1.symm.trans e)];exact⟨h1,h2,ry⟩
  ·rw[if_neg e,if_neg (λz=>e (h1.trans z))];exact⟨h1,h2,h3⟩
theorem KT.put{H:Hp}{kvs:List (List iL × V)}{xs:List (List iL × Addr × Value)}(r:KT H kvs xs)(k:List iL){b:Addr}{y:V}{u:Value}(hb:H b=some (.tup (k.map kV)))(ry:RelV y u) :
  KT H (iC kvs k y) (storedH xs k b u):=by
 have e:(kvs.any λkv=>decide (kv.1=k))=(atKey xs k).isSome:=by
  rw[rO,(r.val k).Ae,Option.isSome_map]
 unfold iC storedH;rw[e];by_cases q:(atKey xs k).isSome=true
 ·rw[if_pos q,if_pos q];exact r.repl k ry
 ·rw[if_neg q,if_neg q];exact Paired.snoc r ⟨rfl,hb,ry⟩
theorem KT.keeps{H H':Hp}{kvs:List (List iL × V)}{xs:List (List iL × Addr × Value)}(r:KT H kvs xs)(ht:∀ b ys,H b=some (.tup ys)->H' b=some (.tup ys)):KT H' kvs xs :=
 Paired.Kg r λ_ _ z=>⟨z.1,ht _ _ z.2.1,z.2.2⟩
section
variable {P:Program} {w:World} {H:Hp} {h:Heap} {a:Addr}
theorem VG{u:HO}(ok:vN P w H h)(e:Rd H a u):jc P w H h a u:=e.ok ok
theorem Ir{kvs:List (iL × V)}(ok:vN P w H h)(e:Rd H a (.dK kvs)):kvs.length<=sizeLine/\(a == sysModules)=false/\∃ vs,KV kvs vs/\h.DictOf (jb P w) a vs :=
 show jc P w H h a (.dK kvs) from VG ok e
theorem QN{kvs:List (iL × V)}(ok:vN P w H h)(e:H a=some (.dK kvs)):kvs.length<=sizeLine/\(a == sysModules)=false/\∃ vs,KV kvs vs/\h.DictOf (jb P w) a vs:=Ir ok (.inl e)
theorem F8{ks:List iL}(ok:vN P w H h)(e:H a=some (.tup (ks.map kV))):(tupleKind (jb P w)).is h ks a:=by
 obtain⟨_,aQ,r,o,h1,h2,n,h3⟩:=(show jc P w H h a (.tup (ks.map kV)) from ok a _ e);exact⟨o,aQ.toArray,n,h1,h2,h3,by simpa using EY r⟩
theorem Iu{kvs:List (List iL × V)}(ok:vN P w H h)(e:Rd H a (.dT kvs)):kvs.length<=sizeLine/\(a == sysModules)=false/\
  ∃ xs,KT H kvs xs/\h.DictOfH (tupleKind (jb P w)) a xs:=by
 obtain⟨z,y,xs,r,o,es,ep,h1,h2,h3,h4,h5⟩:=(show jc P w H h a (.dT kvs) from VG ok e);refine⟨z,y,xs,r,o,es,ep,h1,h2,h3,h4,λx hx=>?_,h5⟩
 have all:∀ {l:List (List iL × V)} {m:List (List iL × Addr × Value)},KT H l m->∀ x∈m,(tupleKind (jb P w)).is h x.1 x.2.1:=by
  intro l m q
  induction q with
  | nil=>intro x hx;exact nomatch hx
  | @cons p q ps qs hq t ih =>
   intro x hx;rcases List.mem_cons.mp hx with e|hx
   ·subst e;exact F8 ok (by rw[← hq.1];exact hq.2.1)
   ·exact ih x hx
 exact all r x hx
theorem Z6{kvs:List (List iL × V)}(ok:vN P w H h)(e:H a=some (.dT kvs)):kvs.length<=sizeLine/\(a == sysModules)=false/\
  ∃ xs,KT H kvs xs/\h.DictOfH (tupleKind (jb P w)) a xs:=Iu ok (.inl e)
end
def ng(H:Hp)(a:Addr)(y:V)(r:Option V):Prop :=
 (∃ kvs k,Rd H a (.dK kvs)/\y=kV k/\r=cW kvs k)\/∃ kvs k b,Rd H a (.dT kvs)/\y=.ref b/\H b=some (.tup (k.map kV))/\r=cW kvs k
def F9(H:Hp)(a:Addr)(y v:V)(H':Hp):Prop :=
 (∃ kvs k,H a=some (.dK kvs)/\y=kV k/\kvs.length<sizeLine/\H'=aO H a (.dK (iC kvs k v)))\/
 ∃ kvs k b,H a=some (.dT kvs)/\y=.ref b/\H b=some (.tup (k.map kV))/\kvs.length<sizeLine/\H'=aO H a (.dT (iC kvs k v))
theorem ng.k{H:Hp}{a:Addr}{kvs:List (iL × V)}{k:iL}(e:H a=some (.dK kvs)):ng H a (kV k) (cW kvs k):=.inl ⟨kvs,k,.inl e,rfl,rfl⟩
theorem F9.k{H:Hp}{a:Addr}{kvs:List (iL × V)}{k:iL}{v:V}(e:H a=some (.dK kvs))(hl:kvs.length<sizeLine):F9 H a (kV k) v (aO H a (.dK (iC kvs k v))):=.inl ⟨kvs,k,e,rfl,hl,rfl⟩
section
variable {X:Cx} {ak:List (Addr × Obj)} {σ:St} {H:Hp} {s:Shared} {a:Addr} {y v:V} {u r:Value} {o:Option V} {A:Around} {E:Value->Shared->Prop}
theorem Inv.big(I:Inv X ak σ H s):sysModules<s.heap.objs.size:=by
 have h:mainGlobals<s.heap.objs.size:=(I.mod.glob.keeps I.bk).lt;exact Nat.lt_trans (by decide) h
theorem Ob{Q:Value->Shared->Prop}(hu:A.units+1<cLine)(I:Inv X ak σ H s)(g:ng H a y (some v))(ry:RelV y u)(h:∀ w' s',Inv X ak σ H s'->RelV v w'->Q w' s') :
  wpAny (model X.prog X.w) A (getItem (.ref a) u) Q E s:=by
 rcases g with ⟨kvs,k,e,ey,l⟩|⟨kvs,k,b,e,ey,eb,l⟩
 ·subst ey;obtain⟨z,hd,vs,A7,dd⟩:=Ir I.hok e;obtain⟨w',hw,rE⟩:=xu.some_of (v:=v) (o:=valueAt vs k) (by rw[l];exact A7.val k);exact wpAny_getItem_of (EX ry) dd.mapOf hw (h w' _ (I.tok _) rE)
 ·subst ey;cases (show u=Value.ref b from ry);obtain⟨z,hd,xs,A7,dd⟩:=Iu I.hok e;obtain⟨w',hw,rE⟩:=xu.some_of (v:=v) (o:=(atKey xs k).map (·.2)) (by rw[l];exact A7.val k);obtain⟨p,hp,VH⟩:=Option.map_eq_some_iff.mp hw;refine wpAny_getItem_heap (tupleKind_room_in1 hu) (F8 I.hok eb) dd hp ?_;rw[VH];exact h w' _ (I.tok _) rE
theorem Ug{Q:Value->Shared->Prop}(hu:A.units+1<cLine)(I:Inv X ak σ H s)(g:ng H a y o)(ry:RelV y u)(h:∀ s',Inv X ak σ H s'->Q (.bool (!o.isSome)) s') :
  wpAny (model X.prog X.w) A (compareOp .NotIn u (.ref a)) Q E s:=by
 rcases g with ⟨kvs,k,e,ey,l⟩|⟨kvs,k,b,e,ey,eb,l⟩
 ·subst ey;obtain⟨z,hd,vs,A7,dd⟩:=Ir I.hok e;refine wpAny_notIn_of (EX ry) hd dd.mapOf ?_;rw[← (A7.val k).Ae,← l];exact h _ (I.tok _)
 ·subst ey;cases (show u=Value.ref b from ry);obtain⟨z,hd,xs,A7,dd⟩:=Iu I.hok e;refine wpAny_notIn_heap (tupleKind_room_in1 hu) (F8 I.hok eb) hd dd ?_;have q:=(A7.val k).Ae;rw[Option.isSome_map]at q;rw[← q,← l];exact h _ (I.tok _)
theorem BU{h':Heap}{t':Nat}{ob:HO}(I:Inv X ak σ H s)(mu:Zb (H a))(hs:Heap.SameBut a s.heap h')(he:∃ q,h'.get? a=some q)(new:jc X.prog X.w (aO H a ob) h' a ob) :
  Inv X ak σ (aO H a ob) { s with heap:=h',toks:=t' } :=
 I.write (x:=a) (e:=a) mu (.inl rfl) (λb q hb z=>(hs.2 b hb).trans z) he new
theorem K9{P:Program}{w:World}{H':Hp}{h':Heap}{kvs:List (iL × V)}{vs:List (iL × Value)}(z:kvs.length<=sizeLine)(hd:(a == sysModules)=false)(A7:KV kvs vs)(dd:h'.DictOf (jb P w) a vs) :
  jc P w H' h' a (.dK kvs):=⟨z,hd,vs,A7,dd⟩
theorem Oc{H':Hp}{Q:Unit->Shared->Prop}(hu:A.units+1<cLine)(I:Inv X ak σ H s)(g:F9 H a y v H')(ry:RelV y u)(rv:RelV v r)(h:∀ s',Inv X ak σ H' s'->Q () s') :
  wpAny (model X.prog X.w) A (setItem (.ref a) u r) Q E s:=by
 rcases g with ⟨kvs,k,e,ey,l,eH⟩|⟨kvs,k,b,e,ey,eb,l,eH⟩
 ·subst ey eH;obtain⟨z,hd,vs,A7,dd⟩:=QN I.hok e;have hz:vs.length<=sizeLine:=by rw[← A7.length];exact z
  have hl:(iC kvs k v).length<=sizeLine:=by have:=kQ kvs k v;lia
  refine wpAny_setItem_pairs (hsz:=hz) (EX ry) dd λh' SG hs=>h _ ?_;have he:∃ q,h'.get? a=some q:=let ⟨q,_,_,hq,_⟩:=SG;⟨q,hq⟩;exact BU I (by rw[e];exact True.intro) hs he (K9 hl hd (A7.put k rv) SG)
 ·subst ey eH;cases (show u=Value.ref b from ry);obtain⟨z,hd,xs,A7,dd⟩:=Z6 I.hok e;have hz:xs.length<=sizeLine:=by rw[← Paired.length A7];exact z
  have hl:(iC kvs k v).length<=sizeLine:=by have:=kQ kvs k v;lia
  refine wpAny_setItem_heap (hsz:=hz) (tupleKind_room_in1 hu) (F8 I.hok eb) dd λh' SG hs=>h _ ?_;obtain⟨q,es,ep,hq,h2,h3,h4,_,h5⟩:=SG;refine BU I (by rw[e];exact True.intro) hs ⟨q,hq⟩ ⟨hl,hd,_,(A7.put k eb rv).keeps λc ys ec=>?_,q,es,ep,hq,h2,h3,h4,h5⟩;rw[aK (eS ec e (λz=>nomatch z))];exact ec
end
def XT(i:Expr):Prop:=∀ ov iv,subscripted i false ov iv=operate [ov,iv] (getItem ov iv)
theorem Uh{prog:Program}{w:World}{A:Around}{E:Value->Shared->Prop}{s:Shared}{env:Env}{T id:String}{Q:Value->Shared->Prop}
  (hl:typeLookup (.type T) "__getitem__"=pure (some (.builtin id))) (hs:XT xG)
  (h:wpAny (model prog w) A (eval value env) (λo s₁=>wpAny (model prog w) A (eval xG env) (λi s₂=>s₂.TypeIs o T/\wpAny (model prog w) A (getItem o i) Q E s₂) E s₁) E s) :
  wpAny (model prog w) A (eval (.Subscript value xG pos) env) Q E s:=by
 refine Subscript_ (wpAny_mono h (λo s₁ h₁=>wpAny_mono h₁ (λi s₂ h₂=>?_) λ_ _ x=>x) λ_ _ x=>x);obtain⟨hT,h₂⟩:=h₂;unfold subscriptTail;refine wpAny_bind ?_;rw[getitemInPython_of_ne hT.not_modules];refine wpAny_bind (wpAny_specialOf hT hl ?_)
 have qo:wpAny (model prog w) A (subscripted xG false o i) (λr s₃=>wpAny (model prog w) A (letTemporaryGo value o r >>= λ_=>pure r) Q E s₃) E s₂:=by
  rw[hs o i];exact wpAny_operating (wpAny_mono h₂ (λr s₃ h₃=>wpAny_bind (wpAny_letTemporaryGo (wpAny_pure h₃))) λ_ _ x=>x)
 first
  | exact wpAny_pure (wpAny_bind qo)
  | exact wpAny_bind (wpAny_pure (wpAny_bind qo))
  | exact wpAny_bind qo
theorem Iv{X:Cx}{σ:St}{H:Hp}{s:Shared}{a:Addr}{y:V}{o:Option V}(I:Inv X ak σ H s)(g:ng H a y o):s.TypeIs (.ref a) "dict":=by
 rcases g with ⟨kvs,k,e,_,_⟩|⟨kvs,k,b,e,_,_,_⟩
 ·obtain⟨_,_,vs,_,dd⟩:=Ir I.hok e;exact dd.typeIs
 ·obtain⟨_,_,xs,_,dd⟩:=Iu I.hok e;exact dd.typeIs
inductive Z7(x y:V)(H:Hp)(Q:VK):Prop
 | mk (a:Addr) (v:V) (_:x=.ref a) (_:ng H a y (some v)) (_:Q v H):Z7 x y H Q
def VI(td ty:TE):TE:=fun σ H Q=>td σ H λx H1=>ty σ H1 λy H2=>Z7 x y H2 Q
def Ui(ty td:TE):TE:=fun σ H Q=>ty σ H λy H1=>td σ H1 λx H2=>∃ a o,x=.ref a/\ng H2 a y o/\Q (.bl (!o.isSome)) H2
def Z8(td ty tv:TE):TS:=λD σ H=>tv σ H λv H1=>td σ H1 λx H2=>ty σ H2 λy H3=>∃ a H4,x=.ref a/\F9 H3 a y v H4/\D.nx σ H4
section
variable {X:Cx} {o i e value:Expr} {pos mz DZ:Pos} {td ty tv:TE}
theorem Uj(hu:X.A.units+1<cLine)(ho:PE X o td)(hi:PE X i ty)(hs:XT i):PE X (.Subscript o i pos) (VI td ty):=by
 intro ak s σ H Q I h;refine Uh PySem.F.slot_dict_getitem.lookup hs (dD (ho ak s σ H _ I h) λu s1 ⟨x,H1,I1,rx,q1⟩=>dD (hi ak s1 σ H1 _ I1 q1) λiv s2 DX=>?_);obtain⟨y,H2,I2,ry,a,v,ex,g,q2⟩:=DX;subst ex;obtain rfl:u=Value.ref a:=rx;exact⟨Iv I2 g,Ob hu I2 g ry λw' s3 I3 rE=>⟨v,H2,I3,rE,q2⟩⟩
theorem EZ(hu:X.A.units+1<cLine)(hi:PE X i ty)(ho:PE X o td):PC X .NotIn i o (Ui ty td):=by
 intro ak s σ H Q I h;refine dD (hi ak s σ H _ I h) λiv s1 ⟨y,H1,I1,ry,q1⟩=>dD (ho ak s1 σ H1 _ I1 q1) λu s2 DY=>?_;obtain⟨x,H2,I2,rx,a,ov,ex,g,q2⟩:=DY;subst ex;obtain rfl:u=Value.ref a:=rx;exact Ug hu I2 g ry λs3 I3=>⟨.bl (!ov.isSome),H2,I3,rfl,q2⟩
theorem ze(hu:X.A.units+1<cLine)(ho:PE X o td)(hi:PE X i ty)(hv:PE X value tv)(hs:swapsWith value (some (.Subscript o i mz)) pos.line X.env=pure false) :
  PS X (.Assign [.Subscript o i mz] value pos) (Z8 td ty tv):=by
 intro ak s σ H D I h;refine wpAny_Assign_Subscript (dD (hv ak s σ H _ I h) λr s1 ⟨v,H1,I1,rv,q1⟩=>dD (ho ak s1 σ H1 _ I1 q1) λu s2 ⟨x,H2,I2,rx,q2⟩=>dD (hi ak s2 σ H2 _ I2 q2) λiv s3 ⟨y,H3,I3,ry,a,H4,ex,g,q3⟩=>?_) hs;subst ex;obtain rfl:u=Value.ref a:=rx;exact Oc hu I3 g ry rv λs4 I4=>⟨σ,H4,I4,q3⟩
end
theorem Iw{P:Program}{w:World}{H:Hp}(h:Heap)(hb:sysModules<h.objs.size):jc P w H (h.push { cls:=.type "dict",data:=.dict #[] }) h.objs.size (.dK []) :=
 ⟨Nat.zero_le _,beq_eq_false_iff_ne.mpr (Ne.symm (pR hb)),[],.nil,Heap.DictOf.new h⟩
def XU:TE:=λ_ H Q=>∀ p,H p=none->Q (.ref p) (aO H p (.dK []))
section
variable {X:Cx} {pos:Pos}
theorem rP:PE X (.Dict [] [] pos) XU:=λak s σ H Q I h =>
 wpAny_Dict_empty ⟨.ref s.heap.objs.size,_,I.laid (a:=s.heap.objs.size) (o:=.dK []) (t':=s.toks) (λ_ _ q=>Heap.get?_push_of_some _ q) (ja _) (Iw s.heap I.big),rfl,h _ (I.hok.fresh (ja _))⟩
end
def La:List (TE × TE)->St->Hp->(List (V × V)->Hp->Prop)->Prop
 | [],_,H,Q=>Q [] H
 | (tk,tv)::r,σ,H,Q=>tk σ H λx H1=>tv σ H1 λy H2=>La r σ H2 λps H3=>Q ((x,y)::ps) H3
abbrev VV:List (V × V)->List (Value × Value)->Prop:=Paired λp q=>RelV p.1 q.1/\RelV p.2 q.2
def PPs(X:Cx)(pos:Pos)(Iz:List (Option Expr))(CF:List Expr)(Uk:List (TE × TE)):Prop :=
 ∀ (ak:List (Addr × Obj)) (s:Shared) (σ:St) (H:Hp) (Q:List (V × V)->Hp->Prop),Inv X ak σ H s->La Uk σ H Q->
  wpAny (model X.prog X.w) X.A (evalPairs (pairTrees Iz CF X.env pos)) (λvs s'=>∃ ps H',Inv X ak σ H' s'/\VV ps vs/\Q ps H') X.xe s
theorem Ul{X:Cx}:PPs X pos [] [] []:=λak s σ H Q I h=>pairTrees_nil_walk ⟨[],H,I,.nil,h⟩
theorem zf{X:Cx}{k:Expr}{ks:List (Option Expr)}{tk tv:TE}{Uk:List (TE × TE)}(hk:PE X k tk)(hv:PE X v tv)(hr:PPs X pos ks vs Uk) :
  PPs X pos (some k::ks) (v::vs) ((tk,tv)::Uk):=λak s σ H Q I h =>
 pairTrees_cons_walk (dD (hk ak s σ H _ I h) λu s1 ⟨x,H1,I1,rx,q1⟩=>dD (hv ak s1 σ H1 _ I1 q1) λw2 s2 ⟨y,H2,I2,ry,q2⟩ =>
  dD (hr ak s2 σ H2 _ I2 q2) λws s3 ⟨ps,H3,I3,A7,q3⟩=>⟨(x,y)::ps,H3,I3,.cons ⟨rx,ry⟩ A7,q3⟩)
def Af(kvs Br:List (iL × V)):List (iL × V):=Br.foldl (λacc kv=>iC acc kv.1 kv.2) kvs
theorem KV.merge:∀ {Br:List (iL × V)} {rs:List (iL × Value)} {kvs:List (iL × V)} {vs:List (iL × Value)},KV Br rs->KV kvs vs->KV (Af kvs Br) (merged vs rs):=by
 intro Br rs kvs vs r;unfold KV at r
 induction r generalizing kvs vs with
 | nil=>intro q;exact q
 | @cons p q ps qs h t ih =>
  intro r0
  have e:KV (iC kvs p.1 p.2) (stored vs q.1 q.2):=by
   have:=r0.put p.1 h.2;rw[← h.1];exact this
  exact ih e
theorem xN:∀ (Br kvs:List (iL × V)),(Af kvs Br).length<=kvs.length+Br.length
 | [],kvs=>by show kvs.length<=kvs.length+0;lia
 | p::r,kvs=>by
  have h1:=xN r (iC kvs p.1 p.2);have h2:=kQ kvs p.1 p.2;show (Af (iC kvs p.1 p.2) r).length<=_;rw[qE];lia
theorem CG{P:Program}{w:World}:∀ {kvs:List (iL × V)} {ws:List (Value × Value)},VV (kvs.map λkv=>(kV kv.1,kv.2)) ws->∃ rs,Carries (jb P w) ws rs/\KV kvs rs
 | [],_,r=>by rw[List.map_nil]at r;cases r;exact⟨[],True.intro,.nil⟩
 | p::kvs,_,r=>by
  rw[oJ]at r
  cases r with
  | @cons a b as bs h t =>
   obtain⟨rs,c,q⟩:=CG (P:=P) (w:=w) t;obtain⟨b1,b2⟩:=b;exact⟨(p.1,b2)::rs,⟨EX h.1,rfl,c⟩,.cons ⟨rfl,h.2⟩ q⟩
def QO(Uk:List (TE × TE)):TE:=fun σ H Q=>∀ p,H p=none->La Uk σ (aO H p (.dK [])) λps H2=>H2 p=some (.dK [])/\∃ kvs:List (iL × V),ps=kvs.map (λkv=>(kV kv.1,kv.2))/\kvs.length<=15/\Q (.ref p) (aO H2 p (.dK (Af [] kvs)))
theorem Um{X:Cx}{Iz:List (Option Expr)}{CF:List Expr}{Uk:List (TE × TE)}(h:PPs X pos Iz CF Uk)(Qf:Iz.all (·.isSome)=true)(hl:Iz.length=CF.length)(h0:Iz≠[])
  (h15:Iz.length<=15):PE X (.Dict Iz CF pos) (QO Uk):=by
 intro ak s σ H Q I q;have hn:=I.hok.fresh (ja s.heap.objs.size);have I1:=I.laid (a:=s.heap.objs.size) (o:=.dK []) (h':=s.heap.push { cls:=.type "dict",data:=.dict #[] }) (t':=s.toks) (λ_ _ q=>Heap.get?_push_of_some _ q) (ja _) (Iw s.heap I.big);refine wpAny_Dict_walk (knd:=jb X.prog X.w) Qf hl h0 h15 (dD (h ak _ σ _ _ I1 (q _ hn)) λws s2 Ko=>?_);obtain⟨ps,H2,I2,A7,e,kvs,ep,lk,q2⟩:=Ko;subst ep;obtain⟨rs,c,rk⟩:=CG (P:=X.prog) (w:=X.w) A7;obtain⟨z,hd,vs0,r0,dd⟩:=QN I2.hok e;cases r0;refine⟨rs,c,dd,λh' SG hs=>⟨.ref s.heap.objs.size,_,?_,rfl,q2⟩⟩
 have hz:(Af [] kvs).length<=sizeLine:=by
  have h1:=xN kvs [];rw[xr]at h1;rw[sizeLine_eq];lia
 have he:∃ q,h'.get? s.heap.objs.size=some q:=let ⟨q,_,_,hq,_⟩:=SG;⟨q,hq⟩;exact BU I2 (by rw[e];exact True.intro) hs he (K9 hz hd (rk.merge .nil) SG)
structure M2(X:Cx)(o:Expr)(m:Str)(mq:Pos)(e f:Expr)(sI:Pos):Prop where
 zt:attributeBase o m X.env (eval o X.env)=eval o X.env
 few:((backTo sI (starEach [e,f] X.env)).all (λx=>!x.1)&&(backToKw sI (keywordEach [] X.env)).all (λx=>x.1.isSome)
  && decide (([e,f]:List Expr).length+([]:List Keyword).length+(if ([]:List Keyword).isEmpty then 0 else 1)<30))=true
 line:(mq.endLine == sI.line)=true
 trees:backTo sI (starEach [e,f] X.env)=[(false,eval e X.env),(false,eval f X.env)]
def IsD(H:Hp)(a:Addr):Prop:=(∃ kvs,Rd H a (.dK kvs))\/∃ kvs,Rd H a (.dT kvs)
theorem XW{X:Cx}{σ:St}{H:Hp}{s:Shared}{a:Addr}(I:Inv X ak σ H s)(d:IsD H a) :
  s.TypeIs (.ref a) "dict"/\(∀ b,Value.ref a=.ref b->∃ ob,s.heap.get? b=some ob/\ob.dict=none)/\(a == sysModules)=false:=by
 rcases d with ⟨kvs,e⟩|⟨kvs,e⟩
 ·obtain⟨_,hd,vs,_,dd⟩:=Ir I.hok e;refine⟨dd.typeIs,λb q=>?_,hd⟩;cases q;obtain⟨ob,_,_,h1,h2,_⟩:=dd;exact⟨ob,h1,h2.2.1⟩
 ·obtain⟨_,hd,xs,_,dd⟩:=Iu I.hok e;refine⟨dd.typeIs,λb q=>?_,hd⟩;cases q;obtain⟨ob,_,_,h1,h2,_⟩:=dd;exact⟨ob,h1,h2.2.1⟩
end L2
namespace dI
open Spec Rows L2
def n8(X:Cx)(N:List Str)(scope:Scope)(cl:List (Str × Addr))(C:Addr)(s₀:Shared)(H₀:Hp)(ex:List Addr)(pn:List (Addr × Obj)):Cx where
 prog:=X.prog
 w:=X.w
 K:=X.K
 mg:=X.mg
 zt:=X.zt
 A:=X.A
 N:=N
 s₀:=s₀
 H₀:=H₀
 env:=compEnvC scope cl C X.env
 zn:=X.stack
 stack:=X.stack
 ex:=ex
 fn:=λ_=>false
 calm:=X.calm
 pn:=pn
 xe:=λ_ _=>False
structure E1(X:Cx)(N:List Str)(scope:Scope)(cl:List (Str × Addr))(jx:List (Option Nat)):Prop where
 kind:scope.kind=.function
 cell:∀ x∈scope.names,x.2≠.cell
 names:∀ x∈scope.names,x.2=.local->scope.names.lookup x.1=some .local
 clos:closureFor scope X.env=pure cl
 sub:∀ x c,cl.lookup x=some c->X.env.cells.lookup x=some c
 has:∀ x,((relabel scope X.env).names.lookup x=some .cell\/(relabel scope X.env).names.lookup x=some .free)->∃ c,cl.lookup x=some c
 len:jx.length=N.length
 free:∀ (i j:Nat) (x:Str),jx[i]?=some (some j)->N[i]?=some x->X.N[j]?=some x/\X.env.scope.names.lookup x=some .cell/\(relabel scope X.env).names.lookup x=some .cell
def yq(jx:List (Option Nat))(σ:L2.St):L2.St:=jx.map λo=>o.bind λj=>(σ[j]?).join
section
variable {X:Cx} {N:List Str} {scope:Scope} {cl:List (Str × Addr)} {jx:List (Option Nat)}
theorem A8{σ:L2.St}{H:Hp}{s:Shared}{fp:List Addr}{h₁:Heap}{t:Nat}(cs:E1 X N scope cl jx)(I:Inv X ak σ H s)(hf:∀ b∈fp,vB X ak H b)(vQ:∀ b∈fp,b<s.heap.objs.size)
  (O5:h₁.Ns s.heap.objs.size λ_=>none) (hk:∀ b o,s.heap.get? b=some o->h₁.get? b=some o) :
  Inv (n8 X N scope cl s.heap.objs.size s H fp (X.pn++ak)) [] (yq jx σ) H { s with heap:=h₁,toks:=t }:=by
 have sub:∀ {x c},(n8 X N scope cl s.heap.objs.size s H fp (X.pn++ak)).env.cells.lookup x=some c->X.env.cells.lookup x=some c:=λ{x c} e=>cs.sub x c e
 refine⟨⟨I.ok.mod,cs.kind,I.ok.glob,I.ok.blt,ja _,λx y c e e'=>I.ok.inj x y c (sub e) (sub e'),λx hx=>cs.has x hx,λx c z _=>(by cases z),I.ok.hd,I.ok.frames,.inl rfl,λb hb=>⟨Nat.ne_of_lt (vQ b hb),λx c e=>(hf b hb).2.2.2.2.1 x c (sub e)⟩,I.bs,lJ I.ok.Sx I.sz,λb o e hb=>?_,λb hb z=>?_,I.stack,I.yT⟩,
  rfl,I.bare,Un.kept hk,⟨_,O5,λi x v e1 e2 _=>?_⟩,λx c e=>?_,I.hok.fresh (ja _),λx c e=>I.sM x c (sub e),λp hp=>?_,I.hok.kept hk,by unfold yq;rw[cR];exact cs.len⟩
 ·rcases (hf b hb).2.2.2.1 with z|z
  ·exact I.ok.Kh b o e z
  ·exact absurd (vA (Heap.lt_size (I.ok.bs b o e).1) z) (Nat.lt_irrefl _)
 ·rcases List.mem_cons.mp (I.zS b z) with e|e
  ·exact (hf b hb).2.1 e
  ·exact (hf b hb).2.2.1 e
 ·unfold yq at e2;rw[kF]at e2
  cases ej:jx[i]? with
  | none=>rw[ej]at e2;cases e2
  | some o =>
   rw[ej]at e2
   cases o with
   | none=>cases e2
   | some j =>
    have e3:σ[j]?=some (some v):=by
     have z:((σ[j]?).join)=some v:=vM e2
     cases hs:σ[j]? with
     | none=>rw[hs]at z;cases z
     | some q=>rw[hs]at z;exact congrArg some z
    obtain⟨f1,f2,f3⟩:=cs.free i j x ej e1;obtain⟨m,hn,hl⟩:=I.loc;obtain⟨u,ru,look⟩:=hl j x v f1 e3 (.inr (.inl f2));refine⟨u,ru,?_⟩;rcases look with ⟨k,_⟩|⟨_,c,hc,o,ho,hd⟩
    ·have k':X.env.scope.names.lookup x=some .local:=k;rw[f2]at k';cases k'
    ·obtain⟨c',Zg⟩:=cs.has x (.inl f3);have z:=cs.sub x c' Zg;rw[hc]at z;cases z;exact .inr ⟨.inl f3,c,Zg,o,hk _ _ ho,hd⟩
 ·obtain⟨v,o,ho,hd⟩:=I.cell x c (sub e);exact⟨v,o,hk _ _ ho,hd⟩
 ·have VJ:p∈X.pn++ak:=by
   have z:p∈(X.pn++ak)++[]:=hp;simpa using z
  obtain⟨e,n,nl,nf,d⟩:=I.pin p VJ;refine⟨hk _ _ e,n,pR (Heap.lt_size e),λz=>?_,d⟩;rcases List.mem_cons.mp (I.zS p.1 z) with e|e
  ·exact nl e
  ·exact nf e
theorem Ag{σ σ':L2.St}{H H':Hp}{s s':Shared}{fp:List Addr}(I:Inv X ak σ H s)(hf:∀ b∈fp,vB X ak H b)(J:Inv (n8 X N scope cl s.heap.objs.size s H fp (X.pn++ak)) [] σ' H' s'):Inv X ak σ H' s' :=
 I.Hx (ch:=fp) J.os J.zt J.hok J.bare λb hb=>⟨(hf b hb).2.2.2.1,(hf b hb).2.1,(hf b hb).2.2.2.2.1,(hf b hb).2.2.2.2.2⟩
theorem Ah{σ σ2:L2.St}{H H':Hp}{s s':Shared}{h':Heap}(I:Inv X ak σ H s)(I4:Inv X ak σ2 H' s')(L7:H' s.heap.objs.size=none)(hs:Heap.SameBut s.heap.objs.size s'.heap h'):Inv X ak σ2 H' { s' with heap:=h' }:=by
 refine I4.turned (t':=s'.toks) (it:=s.heap.objs.size) (λb o hb e=>hs.extBut _ _ hb e) L7 (Nat.ne_of_gt I.lt) (.inr I.sz) (λx c e z=>?_) λp hp z=>?_
 ·obtain⟨v,o,ho,_⟩:=I.cell x c e;exact absurd (Heap.lt_size ho) (by rw[z];exact Nat.lt_irrefl _)
 ·exact absurd (Heap.lt_size (I.pin p hp).1) (by rw[z];exact Nat.lt_irrefl _)
def BV(J:It)(acc:Addr)(g:TG)(tt:TT)(te:TE)(σ0:L2.St)(H:Hp)(Q:VK):Prop :=
 ∃ W:Nat->Nat->L2.St->Hp->Prop,(∃ m,W 0 m σ0 H)/\∀ i m σ H,W i m σ H->
  (J.stop i H/\Q (.ref acc) H)\/(J.go i H/\∃ Nx:L2.St->Hp->Prop,(∀ σ' H',Nx σ' H'->∃ m',m'<m/\W (i+1) m' σ' H')/\∀ x H',J.Sz i H x H'->g x σ H' fun σ2 H2=>tt σ2 H2 λb H3 =>
   if b=true then te σ2 H3 λv H4=>∃ xs,H4 acc=some (.lst xs)/\xs.length<sizeLine/\Nx σ2 (aO H4 acc (.lst (xs++[v]))) else Nx σ2 H3)
def Ai(jx:List (Option Nat))(wi:TI)(g:TG)(tt:TT)(te:TE):TE:=fun σ H Q=>wi σ H λJ H1=>∀ acc,H1 acc=none->BV J acc g tt te (yq jx σ) (aO H1 acc (.lst [])) Q
theorem E2{iter:Expr}{wi:TI}{g:TG}{tt:TT}{te:TE}(cs:E1 X N scope cl jx)(hc:X.calm=true)(hi:PI X tg iter wi)
  (hg:∀ C s₀ H₀ ex pn,PG (n8 X N scope cl C s₀ H₀ ex pn) tg g) (ht:∀ C s₀ H₀ ex pn,N5 (n8 X N scope cl C s₀ H₀ ex pn) oM tt) (he:∀ C s₀ H₀ ex pn,PE (n8 X N scope cl C s₀ H₀ ex pn) pI te)
  (hs:∀ x,foldedSetIterable iter X.env x=pure x) {use:Option (Value->Sem Unit)} {Q':Value->Shared->Prop} {Q:VK} {ak:List (Addr × Obj)} {s:Shared} {σ:L2.St} {H:Hp} (I:Inv X ak σ H s) (h:Ai jx wi g tt te σ H Q)
  (qo:∀ (s3:Shared) (H3:Hp) (fp:List Addr) (acc:Addr) (σ6:L2.St) (H6:Hp) (s7:Shared),Inv X ak σ H3 s3->(∀ b∈fp,vB X ak H3 b)->Inv (n8 X N scope cl s3.heap.objs.size s3 H3 fp (X.pn++ak)) [] σ6 H6 s7->Q (.ref acc) H6->
   compPost (model X.prog X.w) X.A X.xe use Q' (.ref acc) s3.heap.objs.size (.ok .next) s7) :
  wpAny (model X.prog X.w) X.A (comprehension (.ListComp pI [⟨tg,iter,oM,0⟩] scope pos) scope X.env mz (newList []) false (eval iter X.env) use) Q' X.xe s:=by
 refine wpAny_comprehension_free (use:=use) rfl hs cs.clos cs.kind cs.names (dD (hi ak s σ H _ I h) λv s1 h1=>dD h1 λZq s2 h2=>?_);obtain⟨it,fp,tn,J,H2,e,I2,T,st2,f2,q⟩:=h2;subst e;refine wpAny_newObj_type (hd:=by size_fits) ?_;have dh:H2 s2.heap.objs.size=none:=I2.hok.fresh (ja _);have I3:Inv X ak σ (aO H2 s2.heap.objs.size (.lst [])) { s2 with heap:=s2.heap.push { cls:=.type "list",data:=.seq ([]:List Value).toArray },toks:=s2.toks }:=I2.TH (ys:=[]) .nil (Nat.zero_le _)
 have Z9:∀ b∈fp,b<s2.heap.objs.size:=λb hb=>by
  obtain⟨o,ho,_⟩:=T.obj _ _ st2 b hb;exact Heap.lt_size ho
 have f3:∀ b∈fp,vB X ak (aO H2 s2.heap.objs.size (.lst [])) b:=λb hb=>⟨by rw[aK (pR (Z9 b hb))];exact (f2 b hb).1,(f2 b hb).2⟩;have k3:∀ b o,s2.heap.get? b=some o->(s2.heap.push { cls:=.type "list",data:=.seq ([]:List Value).toArray }).get? b=some o:=λb o e=>Heap.get?_push_of_some _ e;have q3:=q _ dh;generalize hs3:({ s2 with heap:=s2.heap.push { cls:=.type "list",data:=.seq ([]:List Value).toArray },toks:=s2.toks }:Shared)=s3 at I3;generalize hH3:aO H2 s2.heap.objs.size (.lst [])=H3 at I3 f3 q3;have hh3:s3.heap=s2.heap.push { cls:=.type "list",data:=.seq ([]:List Value).toArray }:=by rw[← hs3]
 have MH:∀ b∈fp,b<s3.heap.objs.size:=λb hb=>by rw[hh3,Heap.size_push];exact Nat.lt_succ_of_lt (Z9 b hb)
 have st3:tn 0 s3.heap:=T.keep _ _ _ st2 λb _ o e=>by rw[hh3];exact k3 b o e
 show wpAny _ _ _ _ _ s3;refine wpAny_newFunctionEnv cs.cell (λy hy=>by simp at hy) (λh₁ O5 Uo=>?_) cs.kind;have kh:∀ b o,s3.heap.get? b=some o->h₁.get? b=some o:=λb o e=>Uo.extBut _ _ (pR (Heap.lt_size e)) (Heap.get?_push_of_some _ e);have J0:Inv (n8 X N scope cl s3.heap.objs.size s3 H3 fp (X.pn++ak)) [] (yq jx σ) H3 { s3 with heap:=h₁,toks:=s3.toks+([]:List (Str × Value)).length }:=A8 cs I3 f3 MH O5 kh;have st4:tn 0 h₁:=T.keep _ _ _ st3 λb _ o e=>kh b o e;obtain⟨W,⟨m0,w0⟩,yd⟩:=q3
 have yf:∀ {H':Hp},(∀ b∈fp,H' b=none)->∀ b∈fp,vB (n8 X N scope cl s3.heap.objs.size s3 H3 fp (X.pn++ak)) [] H' b:=λhn b hb=>by
  refine⟨hn b hb,pR (MH b hb),λz=>?_,.inl hb,λx c e=>(f3 b hb).2.2.2.2.1 x c (cs.sub x c e),λp hp=>?_⟩
  ·rcases List.mem_cons.mp (I3.zS b z) with e|e
   ·exact (f3 b hb).2.1 e
   ·exact (f3 b hb).2.2.1 e
  ·have VJ:p∈X.pn++ak:=by
    have z:p∈(X.pn++ak)++[]:=hp;simpa using z
   exact (f3 b hb).2.2.2.2.2 p VJ
 have loop:∀ s5:Shared,s5={ s3 with heap:=h₁,toks:=s3.toks+([]:List (Str × Value)).length }->codeAny (model X.prog X.w) X.A (.compLoop (.ListComp pI [⟨tg,iter,oM,0⟩] scope pos) 0 (.ref it) (.ref s2.heap.objs.size) (n8 X N scope cl s3.heap.objs.size s3 H3 fp (X.pn++ak)).env)
   (compPost (model X.prog X.w) X.A X.xe use Q' (.ref s2.heap.objs.size) s3.heap.objs.size) s5:=by
  rintro s5 rfl;refine N4 (λn s'=>∃ i σ' H',Inv (n8 X N scope cl s3.heap.objs.size s3 H3 fp (X.pn++ak)) [] σ' H' s'/\tn i s'.heap/\(∀ b∈fp,H' b=none)/\W i n σ' H') ?_ m0 ⟨0,_,H3,J0,st4,λb hb=>(f3 b hb).1,w0⟩;rintro n s6 ⟨i,σ6,H6,I6,VE,O6,w6⟩;rcases yd i n σ6 H6 w6 with ⟨stop,qn⟩|⟨go,Nx,hN,step⟩
  ·refine dD (T.done (n8 X N scope cl s3.heap.objs.size s3 H3 fp (X.pn++ak)) rfl rfl rfl hc i [] s6 σ6 H6 _ I6 (yf O6) VE stop) λr s7 HG=>?_;obtain⟨hr,I7⟩:=HG;subst hr;exact qo s3 H3 fp _ σ6 H6 s7 I3 f3 I7 qn
  ·refine dD (T.item (n8 X N scope cl s3.heap.objs.size s3 H3 fp (X.pn++ak)) rfl rfl rfl hc i [] s6 σ6 H6 _ I6 (yf O6) VE go) λr s7 HH=>?_;obtain⟨u,hr,h7⟩:=HH;subst hr;refine dD h7 λ_ s8 Ko=>?_;obtain⟨x,H8,I8,r8,y8,QE,Ih⟩:=Ko;have Z1:=I8.pinned (yf Ih) (T.obj _ _ QE);refine dD (hg _ _ _ _ _ _ s8 σ6 H8 x u _ Z1 r8 (step x H8 y8)) λ_ s9 Kn=>?_;obtain⟨σ9,H9,I9,q9⟩:=Kn;refine dD (ht _ _ _ _ _ _ s9 σ9 H9 _ I9 q9) λok s10 DX=>?_;obtain⟨O7,VF,EL⟩:=DX
   have again:∀ {σ7:L2.St} {H7:Hp} {zO:Shared},Inv (n8 X N scope cl s3.heap.objs.size s3 H3 fp (X.pn++ak)) ([]++ye fp s8.heap) σ7 H7 zO->Nx σ7 H7->∃ m,m<n/\∃ i σ' H',Inv (n8 X N scope cl s3.heap.objs.size s3 H3 fp (X.pn++ak)) [] σ' H' zO/\tn i zO.heap/\(∀ b∈fp,H' b=none)/\W i m σ' H':=λ{σ7 H7 zO} I7 n7=>by
    obtain⟨m',hm,w7⟩:=hN σ7 H7 n7;refine⟨m',hm,i+1,σ7,H7,I7.ud,T.keep _ _ _ QE λb hb o e=>(I7.pin (b,o) (uH _ (uH _ (kG hb e)))).1,λb hb=>?_,w7⟩;obtain⟨o,e,d⟩:=T.obj _ _ QE b hb;exact (I7.pin (b,o) (uH _ (uH _ (kG hb e)))).2.1
   cases ok with
   | false =>
    rw[if_neg vg]at EL;exact again VF EL
   | true =>
    rw[if_pos rfl]at EL;refine dD (he _ _ _ _ _ _ s10 σ9 O7 _ VF EL) λv zO HC=>?_;obtain⟨y,H11,I11,r11,xs,hx,hz,n11⟩:=HC;refine dD (cH _ zO σ9 H11 (.ref s2.heap.objs.size) [y] (.ref s2.heap.objs.size) [v] (λ_ H'=>Nx σ9 H') I11 rfl (.cons r11 .nil) ⟨_,xs,y,rfl,rfl,hx,hz,n11⟩) λ_ sJ DY=>?_;obtain⟨_,Z2,I12,_,Xz⟩:=DY;exact again I12 Xz
 exact codeAny_compStart_list (loop _ rfl) (T.self _ _ _ _ _ st4 (loop _ rfl))
theorem QS{iter:Expr}{wi:TI}{g:TG}{tt:TT}{te:TE}(cs:E1 X N scope cl jx)(hc:X.calm=true)(hi:PI X tg iter wi)
  (hg:∀ C s₀ H₀ ex pn,PG (n8 X N scope cl C s₀ H₀ ex pn) tg g) (ht:∀ C s₀ H₀ ex pn,N5 (n8 X N scope cl C s₀ H₀ ex pn) oM tt) (he:∀ C s₀ H₀ ex pn,PE (n8 X N scope cl C s₀ H₀ ex pn) pI te)
  (hs:∀ x,foldedSetIterable iter X.env x=pure x:=by intro _;rfl):PE X (.ListComp pI [⟨tg,iter,oM,0⟩] scope pos) (Ai jx wi g tt te):=by
 intro ak s σ H Q I h;rw[eval_ListComp];refine E2 (use:=none) cs hc hi hg ht he hs I h λs3 H3 fp acc σ6 H6 s7 I3 f3 I7 qn=>?_;obtain⟨m,hm,_⟩:=I7.loc;exact⟨m,hm,λh' Uo=>⟨.ref acc,H6,Ah I3 (Ag I3 f3 I7) I7.free Uo,rfl,qn⟩⟩
theorem Up{iter:Expr}{Il:Pos}{wi:TI}{g:TG}{tt:TT}{te:TE}{i:Nat}{x:Str}(cs:E1 X N scope cl jx)(hc:X.calm=true)(hN:X.N.Nodup)(hix:X.N[i]?=some x)(hx:X.env.scope.names.lookup x=some .local)(hi:PI X tg iter wi)
  (hg:∀ C s₀ H₀ ex pn,PG (n8 X N scope cl C s₀ H₀ ex pn) tg g) (ht:∀ C s₀ H₀ ex pn,N5 (n8 X N scope cl C s₀ H₀ ex pn) oM tt) (he:∀ C s₀ H₀ ex pn,PE (n8 X N scope cl C s₀ H₀ ex pn) pI te)
  (hsw:swapsWith (.ListComp pI [⟨tg,iter,oM,0⟩] scope pos) (some (.Name x mz)) Il.line X.env=pure true:=by rfl)
  (hs:∀ x,foldedSetIterable iter X.env x=pure x:=by intro _;rfl):PS X (.Assign [.Name x mz] (.ListComp pI [⟨tg,iter,oM,0⟩] scope pos) Il) (Pz (Ai jx wi g tt te) (xF i)):=by
 intro ak s σ H D I h;rw[exec_Assign_Name_used _ _ _ _ hsw];refine wpAny_bind (wpAny_standAt (wpAny_bind ?_));show wpAny _ X.A (do let _ ← comprehension (.ListComp pI [⟨tg,iter,oM,0⟩] scope pos) scope X.env _ (newList []) false (eval iter X.env) (some (assign (.Name x mz) X.env))) _ _ s;have h':Ai jx wi g tt te σ H (λv H'=>xF i v σ H' D.nx):=h;refine wpAny_bind (dD (E2 (use:=some (assign (.Name x mz) X.env)) (Q':=λ_ s'=>∃ σ' H',Inv X ak σ' H' s'/\D.nx σ' H') cs hc hi hg ht he hs I h' λs3 H3 fp acc σ6 H6 s7 I3 f3 I7 qn=>?_) λ_ s' q=>?_)
 ·have I4:=Ag I3 f3 I7;obtain⟨m,hm,_⟩:=I7.loc;refine wpAny_assign_Name (Ey I4 hN hix (.inl hx) (v:=.ref acc) rfl (λs8 I8 ⟨a,Uo,ha⟩=>?_) (.inr hx))
  have na:s3.heap.objs.size≠a:=by
   rcases ha with rfl|ha
   ·exact Nat.ne_of_gt I3.lt
   ·intro z;obtain⟨v,o,ho,_⟩:=I3.cell x a ha;exact absurd (Heap.lt_size ho) (by rw[z];exact Nat.lt_irrefl _)
  refine⟨m,hm.at' λo e=>Uo.extBut _ o na e,λh' hs'=>⟨_,H6,Ah I3 I8 I7.free hs',qn⟩⟩
 ·exact wpAny_pure (wpAny_pure q)
theorem jS{K:PySem.W.Frag}{a:Addr}{xs:List V}{g:TG}{tt:TT}{te:TE}{σ0:L2.St}{H:Hp}{Q:VK}(Pv:Nat->L2.St->Hp->Prop)(h0:Pv 0 σ0 H)(hl:∀ i σ H,i<=xs.length->Pv i σ H->bQ K H a xs)
  (hs:∀ i x σ H,xs[i]?=some x->Pv i σ H->g x σ H fun σ2 H2=>tt σ2 H2 λb H3=>if b=true then te σ2 H3 λv H4=>∃ ys,H4 acc=some (.lst ys)/\ys.length<sizeLine/\Pv (i+1) σ2 (aO H4 acc (.lst (ys++[v]))) else Pv (i+1) σ2 H3)
  (hd:∀ σ H,Pv xs.length σ H->Q (.ref acc) H):BV (SD K a) acc g tt te σ0 H Q:=by
 refine⟨λi m σ H=>m=xs.length-i/\i<=xs.length/\Pv i σ H,⟨xs.length,by simp,Nat.zero_le _,h0⟩,?_⟩;rintro i m σ H ⟨rfl,hi,p⟩;have q:=hl i σ H hi p;by_cases vQ:i<xs.length
 ·refine .inr ⟨⟨xs,xs[i],q,by simp[vQ]⟩,Pv (i+1),fun σ' H' p'=>⟨xs.length-(i+1),by lia,rfl,vQ,p'⟩,λx H' y=>?_⟩;obtain⟨e,y⟩:=y;subst e;exact hs i x σ _ (y xs q) p
 ·have e:i=xs.length:=by lia
  subst e;exact .inl ⟨⟨xs,q,ja _⟩,hd σ H p⟩
theorem vV{lo:Int}{k:Nat}{g:TG}{tt:TT}{te:TE}{σ0:L2.St}{H:Hp}{Q:VK}(Pv:Nat->L2.St->Hp->Prop)(h0:Pv 0 σ0 H)
  (hs:∀ i σ H,i<k->Pv i σ H->g (.int (lo+i)) σ H fun σ2 H2=>tt σ2 H2 λb H3=>if b=true then te σ2 H3 λv H4=>∃ ys,H4 acc=some (.lst ys)/\ys.length<sizeLine/\Pv (i+1) σ2 (aO H4 acc (.lst (ys++[v]))) else Pv (i+1) σ2 H3)
  (hd:∀ σ H,Pv k σ H->Q (.ref acc) H):BV (WX lo k) acc g tt te σ0 H Q:=by
 refine⟨λi m σ H=>m=k-i/\i<=k/\Pv i σ H,⟨k,by simp,Nat.zero_le _,h0⟩,?_⟩;rintro i m σ H ⟨rfl,hi,p⟩;by_cases vQ:i<k
 ·refine .inr ⟨vQ,Pv (i+1),fun σ' H' p'=>⟨k-(i+1),by lia,rfl,vQ,p'⟩,λx H' y=>?_⟩;obtain⟨e,y⟩:=y;subst e y;exact hs i σ _ vQ p
 ·have e:i=k:=by lia
  subst e;exact .inl ⟨Nat.le_refl _,hd σ H p⟩
end
section
variable {X:Cx} {N:List Str} {scope:Scope} {cl:List (Str × Addr)} {C:Addr} {s₀:Shared} {H₀:Hp} {ex:List Addr} {pn:List (Addr × Obj)}
theorem zg{es:List Expr}{k:Nat}{t:WS}{n:Nat}(hc:X.calm=true)(h:Zn (n8 X N scope cl C s₀ H₀ ex pn) es t)
  (hn:(assignEach es (n8 X N scope cl C s₀ H₀ ex pn).env).length=n:=by rfl) (zV:(assignEach es (n8 X N scope cl C s₀ H₀ ex pn).env).findIdx? (·.1)=none:=by rfl):PG (n8 X N scope cl C s₀ H₀ ex pn) (.Tuple es k pos) (WU X.K n t):=rA (X:=n8 X N scope cl C s₀ H₀ ex pn) hc h hn zV
theorem IA{l:Expr}{tl:TE}(hl:PE (n8 X N scope cl C s₀ H₀ ex pn) l tl):PI (n8 X N scope cl C s₀ H₀ ex pn) tg l (Vp X.K tl):=dc hl
theorem QT:Xh (n8 X N scope cl C s₀ H₀ ex pn) (ZG X.K):=bW
theorem MJ:Xh (n8 X N scope cl C s₀ H₀ ex pn) (ZH X.K):=bw
end
theorem zh{X:Cx}:pS X (.type "range") (λxs H Q=>∃ j:Int,xs=[.int j]/\∀ p,H p=none->Q (.ref p) (aO H p (.DV 0 j))):=by
 intro ak s σ H xs us Q I r h;obtain⟨j,rfl,q⟩:=h;obtain⟨u1,rfl,⟨t,rfl⟩⟩:=r.one;refine call_range_1 ⟨.ref s.heap.objs.size,_,I.laid (o:=.DV 0 j) (λb o e=>Heap.get?_push_of_some _ e) (ja _) ⟨_,_,_,Heap.get?_push_size _ rfl⟩,rfl,q _ (I.hok.fresh (ja _))⟩
theorem Aj{scope:Scope}{env:Env}(h:∀ p∈scope.names,p.2=.free->∃ c,env.cells.lookup p.1=some c) :
  ∃ cl,closureFor scope env=pure cl/\(∀ x c,cl.lookup x=some c->env.cells.lookup x=some c)/\(∀ p∈scope.names,p.2=.free->∃ c,cl.lookup p.1=some c):=by
 unfold closureFor
 have key:∀ (l:List (Str × NameKind)) (cs:List (Str × Addr)),(∀ p∈l,p.2=.free->∃ c,env.cells.lookup p.1=some c)->(∀ x c,cs.lookup x=some c->env.cells.lookup x=some c)->
   ∃ cl,(forIn l cs (λp r=>if (p.2 == NameKind.free)=true then do let c ← cellOf env p.1;pure (ForInStep.yield ((p.1,c)::r)) else pure (ForInStep.yield r)):Sem (List (Str × Addr)))=pure cl/\(∀ x c,cl.lookup x=some c->env.cells.lookup x=some c)/\(∀ p∈l,p.2=.free->∃ c,cl.lookup p.1=some c)/\(∀ x c,cs.lookup x=some c->∃ c,cl.lookup x=some c):=by
  intro l
  induction l with
  | nil=>intro cs _ Tz;exact⟨cs,rfl,Tz,(λp hp=>by cases hp),λx c e=>⟨c,e⟩⟩
  | cons p l ih =>
   intro cs hl Tz;rw[List.forIn_cons];by_cases hp:p.2=.free
   ·obtain⟨c,hc⟩:=hl p yR hp;have e1:(p.2 == NameKind.free)=true:=by rw[hp];rfl
    have e2:cellOf env p.1=pure c:=by
     unfold cellOf;rw[hc]
    rw[if_pos e1,e2];simp only[pure_bind]
    obtain⟨cl,h1,h2,h3,h4⟩:=ih ((p.1,c)::cs) (λq hq=>hl q (sH _ hq)) (λx d e=>by
     rw[List.lookup_cons]at e
     cases hx:x == p.1 with
     | true =>
      rw[hx]at e;cases e;rw[eq_of_beq hx];exact hc
     | false =>
      rw[hx]at e
      exact Tz x d e)
    refine⟨cl,h1,h2,λq hq hf=>?_,λx d e=>?_⟩
    ·rcases List.mem_cons.mp hq with rfl|hq
     ·exact h4 q.1 c (by rw[List.lookup_cons];simp)
     ·exact h3 q hq hf
    ·cases hx:x == p.1 with
     | true=>exact h4 x c (by rw[List.lookup_cons,hx])
     | false=>exact h4 x d (by rw[List.lookup_cons,hx];exact e)
   ·have e1:¬ (p.2 == NameKind.free)=true:=λz=>hp (eq_of_beq z);rw[if_neg e1];simp only[pure_bind];obtain⟨cl,h1,h2,h3,h4⟩:=ih cs (λq hq=>hl q (sH _ hq)) Tz;refine⟨cl,h1,h2,λq hq hf=>?_,h4⟩;rcases List.mem_cons.mp hq with rfl|hq
    ·exact absurd hf hp
    ·exact h3 q hq hf
 obtain⟨cl,h1,h2,h3,_⟩:=key scope.names [] h (λx c e=>by cases e);refine⟨cl,?_,h2,h3⟩;rw[← h1];simp only[bind_pure]
theorem rQ{env:Env}:∀ {names:List (Str × NameKind)} {x:Str} {k:NameKind},names.lookup x=some k->
  (names.map λ(n,k)=>if (k == NameKind.free&&env.scope.kind == .function&&env.kindOf n == some .cell) then (n,NameKind.cell) else (n,k)).lookup x=some (if (k == NameKind.free&&env.scope.kind == .function&&env.kindOf x == some .cell) then NameKind.cell else k)
 | [],_,_,h=>by cases h
 | (n,k')::r,x,k,h=>by
  rw[oJ];by_cases hx:(x == n)=true
  ·have e:x=n:=eq_of_beq hx;subst e;rw[List.lookup_cons,hx]at h;cases h;by_cases hc:(k' == NameKind.free&&env.scope.kind == .function&&env.kindOf x == some .cell)=true
   ·show List.lookup x ((if (k' == NameKind.free&&env.scope.kind == .function&&env.kindOf x == some .cell)=true then (x,NameKind.cell) else (x,k'))::_)=_;rw[if_pos hc,if_pos hc,List.lookup_cons,hx]
   ·show List.lookup x ((if (k' == NameKind.free&&env.scope.kind == .function&&env.kindOf x == some .cell)=true then (x,NameKind.cell) else (x,k'))::_)=_;rw[if_neg hc,if_neg hc,List.lookup_cons,hx]
  ·have hf:(x == n)=false:=by simpa using hx
   rw[List.lookup_cons,hf]at h;have ih:=rQ (env:=env) h;show List.lookup x ((if (k' == NameKind.free&&env.scope.kind == .function&&env.kindOf n == some .cell)=true then (n,NameKind.cell) else (n,k'))::_)=_;by_cases hc:(k' == NameKind.free&&env.scope.kind == .function&&env.kindOf n == some .cell)=true
   ·rw[if_pos hc,List.lookup_cons,hf];exact ih
   ·rw[if_neg hc,List.lookup_cons,hf];exact ih
theorem qA{env:Env}:∀ {names:List (Str × NameKind)} {x:Str},names.lookup x=none->
  (names.map λ(n,k)=>if (k == NameKind.free&&env.scope.kind == .function&&env.kindOf n == some .cell) then (n,NameKind.cell) else (n,k)).lookup x=none
 | [],_,_=>rfl
 | (n,k')::r,x,h=>by
  rw[oJ]
  have hf:(x == n)=false:=by
   cases hx:x == n with
   | false=>rfl
   | true=>rw[List.lookup_cons,hx]at h;cases h
  rw[List.lookup_cons,hf]at h;have ih:=qA (env:=env) h;show List.lookup x ((if (k' == NameKind.free&&env.scope.kind == .function&&env.kindOf n == some .cell)=true then (n,NameKind.cell) else (n,k'))::_)=_;by_cases hc:(k' == NameKind.free&&env.scope.kind == .function&&env.kindOf n == some .cell)=true
  ·rw[if_pos hc,List.lookup_cons,hf];exact ih
  ·rw[if_neg hc,List.lookup_cons,hf];exact ih
structure E3(X:Cx)(N:List Str)(scope:Scope)(jx:List (Option Nat)):Prop where
 kind:scope.kind=.function
 cell:∀ x∈scope.names,x.2≠.cell
 names:∀ x∈scope.names,x.2=.local->scope.names.lookup x.1=some .local
 xk:X.env.scope.kind=.function
 fr:∀ x∈scope.names,x.2=.free->X.env.scope.names.lookup x.1=some .cell
 len:jx.length=N.length
 free:∀ (i j:Nat) (x:Str),jx[i]?=some (some j)->N[i]?=some x->X.N[j]?=some x/\scope.names.lookup x=some .free
def QU(NX N:List Str)(scope:Scope)(jx:List (Option Nat)):Bool:=(jx.zip N).all λp=>match p.1 with
 | none=>true
 | some j=>decide (NX[j]?=some p.2)&&decide (scope.names.lookup p.2=some .free)
theorem rR{X:Cx}{N NX:List Str}{scope sc:Scope}{jx:List (Option Nat)}(e1:X.env.scope=sc)(e2:X.N=NX)(k:scope.kind=.function)(h1:∀ x∈scope.names,x.2≠.cell)(h2:∀ x∈scope.names,x.2=.local->scope.names.lookup x.1=some .local)
  (h3:sc.kind=.function) (h4:∀ x∈scope.names,x.2=.free->sc.names.lookup x.1=some .cell) (h5:jx.length=N.length) (h6:QU NX N scope jx=true):E3 X N scope jx:=by
 refine⟨k,h1,h2,by rw[e1];exact h3,by rw[e1];exact h4,h5,λi j x a b=>?_⟩;rw[e2];unfold QU at h6;rw[List.all_eq_true]at h6;have z:=h6 (some j,x) (vf (i:=i) (by rw[List.getElem?_zip_eq_some];exact⟨a,b⟩));simp only[Bool.and_eq_true,decide_eq_true_eq]at z;exact z
section
variable {X:Cx} {N:List Str} {scope:Scope} {jx:List (Option Nat)}
theorem E3.toF{σ:L2.St}{H:Hp}{s:Shared}(cg:E3 X N scope jx)(I:Inv X ak σ H s):∃ cl,E1 X N scope cl jx:=by
 obtain⟨cl,h1,h2,h3⟩:=Aj (scope:=scope) (env:=X.env) λp hp hf=>I.ok.has p.1 (.inl (cg.fr p hp hf))
 have A7:∀ x,scope.names.lookup x=some .free->(relabel scope X.env).names.lookup x=some .cell:=λx hx=>by
  have z:=rQ (env:=X.env) hx
  have c:(NameKind.free == NameKind.free&&X.env.scope.kind == .function&&X.env.kindOf x == some .cell)=true:=by
   have q:X.env.kindOf x=some .cell:=cg.fr (x,.free) (PySem.mem_of_lookup hx) rfl;rw[cg.xk,q];rfl
  rw[if_pos c]at z;exact z
 refine⟨cl,cg.kind,cg.cell,cg.names,h1,h2,λx hx=>?_,cg.len,λi j x a b=>?_⟩
 ·cases e:scope.names.lookup x with
  | none =>
   have z:(relabel scope X.env).names.lookup x=none:=qA (env:=X.env) e;rw[z]at hx
   rcases hx with q|q <;> cases q
  | some k =>
   by_cases hk:k=.free
   ·subst hk;exact h3 (x,.free) (PySem.mem_of_lookup e) rfl
   ·have z:(relabel scope X.env).names.lookup x=some (if (k == NameKind.free&&X.env.scope.kind == .function&&X.env.kindOf x == some .cell) then NameKind.cell else k):=rQ (env:=X.env) e
    have c:(k == NameKind.free)=false:=by
     cases q:k == NameKind.free with
     | false=>rfl
     | true=>exact absurd (eq_of_beq q) hk
    rw[c]at z;simp only[Bool.false_and,Bool.false_eq_true,if_false]at z;rw[z]at hx;rcases hx with q|q
    ·cases q;exact absurd rfl (cg.cell (x,.cell) (PySem.mem_of_lookup e))
    ·cases q;exact absurd rfl hk
 ·obtain⟨f1,f2⟩:=cg.free i j x a b;exact⟨f1,cg.fr (x,.free) (PySem.mem_of_lookup f2) rfl,A7 x f2⟩
theorem jX{iter:Expr}{wi:TI}{g:TG}{tt:TT}{te:TE}(cg:E3 X N scope jx)(hc:X.calm=true)(hi:PI X tg iter wi)
  (hg:∀ cl C s₀ H₀ ex pn,PG (n8 X N scope cl C s₀ H₀ ex pn) tg g) (ht:∀ cl C s₀ H₀ ex pn,N5 (n8 X N scope cl C s₀ H₀ ex pn) oM tt) (he:∀ cl C s₀ H₀ ex pn,PE (n8 X N scope cl C s₀ H₀ ex pn) pI te)
  (hs:∀ x,foldedSetIterable iter X.env x=pure x:=by intro _;rfl):PE X (.ListComp pI [⟨tg,iter,oM,0⟩] scope pos) (Ai jx wi g tt te):=by
 intro ak s σ H Q I h;obtain⟨cl,cs⟩:=cg.toF I;exact QS cs hc hi (hg cl) (ht cl) (he cl) hs ak s σ H Q I h
theorem Uq{iter:Expr}{Il:Pos}{wi:TI}{g:TG}{tt:TT}{te:TE}{i:Nat}{x:Str}(cg:E3 X N scope jx)(hc:X.calm=true)(hN:X.N.Nodup)(hix:X.N[i]?=some x)(hx:X.env.scope.names.lookup x=some .local)(hi:PI X tg iter wi)
  (hg:∀ cl C s₀ H₀ ex pn,PG (n8 X N scope cl C s₀ H₀ ex pn) tg g) (ht:∀ cl C s₀ H₀ ex pn,N5 (n8 X N scope cl C s₀ H₀ ex pn) oM tt) (he:∀ cl C s₀ H₀ ex pn,PE (n8 X N scope cl C s₀ H₀ ex pn) pI te)
  (hsw:swapsWith (.ListComp pI [⟨tg,iter,oM,0⟩] scope pos) (some (.Name x mz)) Il.line X.env=pure true:=by rfl)
  (hs:∀ x,foldedSetIterable iter X.env x=pure x:=by intro _;rfl):PS X (.Assign [.Name x mz] (.ListComp pI [⟨tg,iter,oM,0⟩] scope pos) Il) (Pz (Ai jx wi g tt te) (xF i)):=by
 intro ak s σ H D I h;obtain⟨cl,cs⟩:=cg.toF I;exact Up cs hc hN hix hx hi (hg cl) (ht cl) (he cl) hsw hs ak s σ H D I h
end
end dI
namespace dI
open Spec Rows L2
section
variable {X:Cx} {N:List Str} {scope:Scope} {cl:List (Str × Addr)} {jx:List (Option Nat)}
def CH(J:It)(acc:Addr)(g:TG)(tt:TT)(Hh:TI)(g2:TG)(Hi:TT)(te:TE)(σ0:L2.St)(H:Hp)(Q:VK):Prop :=
 ∃ W:Nat->Nat->L2.St->Hp->Prop,(∃ m,W 0 m σ0 H)/\∀ i m σ H,W i m σ H->
  (J.stop i H/\Q (.ref acc) H)\/(J.go i H/\∃ Nx:L2.St->Hp->Prop,(∀ σ' H',Nx σ' H'->∃ m',m'<m/\W (i+1) m' σ' H')/\∀ x H',J.Sz i H x H'->g x σ H' fun σ2 H2=>tt σ2 H2 λb H3 =>
   if b=true then F4 Hh acc g2 Hi te σ2 H3 Nx else Nx σ2 H3)
def MK(jx:List (Option Nat))(wi:TI)(g:TG)(tt:TT)(Hh:TI)(g2:TG)(Hi:TT)(te:TE):TE:=fun σ H Q=>wi σ H λJ H1=>∀ acc,H1 acc=none->CH J acc g tt Hh g2 Hi te (yq jx σ) (aO H1 acc (.lst [])) Q
theorem Lb{iter:Expr}{wi Hh:TI}{g g2:TG}{tt Hi:TT}{te:TE}(cs:E1 X N scope cl jx)(hc:X.calm=true)(hi:PI X tg iter wi)
  (hg:∀ C s₀ H₀ ex pn,PG (n8 X N scope cl C s₀ H₀ ex pn) tg g) (ht:∀ C s₀ H₀ ex pn,N5 (n8 X N scope cl C s₀ H₀ ex pn) oM tt) (hi2:∀ C s₀ H₀ ex pn,PI (n8 X N scope cl C s₀ H₀ ex pn) vJ eV Hh) (hg2:∀ C s₀ H₀ ex pn,PG (n8 X N scope cl C s₀ H₀ ex pn) vJ g2) (Lc:∀ C s₀ H₀ ex pn,N5 (n8 X N scope cl C s₀ H₀ ex pn) m9 Hi) (he:∀ C s₀ H₀ ex pn,PE (n8 X N scope cl C s₀ H₀ ex pn) pI te)
  (hs:∀ x,foldedSetIterable iter X.env x=pure x) (Kw:∀ (env:Env) x,foldedSetIterable eV env x=pure x) {use:Option (Value->Sem Unit)} {Q':Value->Shared->Prop} {Q:VK} {ak:List (Addr × Obj)} {s:Shared} {σ:L2.St} {H:Hp} (I:Inv X ak σ H s) (h:MK jx wi g tt Hh g2 Hi te σ H Q)
  (qo:∀ (s3:Shared) (H3:Hp) (fp:List Addr) (acc:Addr) (σ6:L2.St) (H6:Hp) (s7:Shared),Inv X ak σ H3 s3->(∀ b∈fp,vB X ak H3 b)->Inv (n8 X N scope cl s3.heap.objs.size s3 H3 fp (X.pn++ak)) [] σ6 H6 s7->Q (.ref acc) H6->
   compPost (model X.prog X.w) X.A X.xe use Q' (.ref acc) s3.heap.objs.size (.ok .next) s7) :
  wpAny (model X.prog X.w) X.A (comprehension (.ListComp pI [⟨tg,iter,oM,0⟩,⟨vJ,eV,m9,0⟩] scope pos) scope X.env mz (newList []) false (eval iter X.env) use) Q' X.xe s:=by
 refine wpAny_comprehension_free (use:=use) rfl hs cs.clos cs.kind cs.names (dD (hi ak s σ H _ I h) λv s1 h1=>dD h1 λZq s2 h2=>?_);obtain⟨it,fp,tn,J,H2,e,I2,T,st2,f2,q⟩:=h2;subst e;refine wpAny_newObj_type (hd:=by size_fits) ?_;have dh:H2 s2.heap.objs.size=none:=I2.hok.fresh (ja _);have I3:Inv X ak σ (aO H2 s2.heap.objs.size (.lst [])) { s2 with heap:=s2.heap.push { cls:=.type "list",data:=.seq ([]:List Value).toArray },toks:=s2.toks }:=I2.TH (ys:=[]) .nil (Nat.zero_le _)
 have Z9:∀ b∈fp,b<s2.heap.objs.size:=λb hb=>by
  obtain⟨o,ho,_⟩:=T.obj _ _ st2 b hb;exact Heap.lt_size ho
 have f3:∀ b∈fp,vB X ak (aO H2 s2.heap.objs.size (.lst [])) b:=λb hb=>⟨by rw[aK (pR (Z9 b hb))];exact (f2 b hb).1,(f2 b hb).2⟩;have k3:∀ b o,s2.heap.get? b=some o->(s2.heap.push { cls:=.type "list",data:=.seq ([]:List Value).toArray }).get? b=some o:=λb o e=>Heap.get?_push_of_some _ e;have q3:=q _ dh;generalize hs3:({ s2 with heap:=s2.heap.push { cls:=.type "list",data:=.seq ([]:List Value).toArray },toks:=s2.toks }:Shared)=s3 at I3;generalize hH3:aO H2 s2.heap.objs.size (.lst [])=H3 at I3 f3 q3;have hh3:s3.heap=s2.heap.push { cls:=.type "list",data:=.seq ([]:List Value).toArray }:=by rw[← hs3]
 have MH:∀ b∈fp,b<s3.heap.objs.size:=λb hb=>by rw[hh3,Heap.size_push];exact Nat.lt_succ_of_lt (Z9 b hb)
 have st3:tn 0 s3.heap:=T.keep _ _ _ st2 λb _ o e=>by rw[hh3];exact k3 b o e
 show wpAny _ _ _ _ _ s3;refine wpAny_newFunctionEnv cs.cell (λy hy=>by simp at hy) (λh₁ O5 Uo=>?_) cs.kind;have kh:∀ b o,s3.heap.get? b=some o->h₁.get? b=some o:=λb o e=>Uo.extBut _ _ (pR (Heap.lt_size e)) (Heap.get?_push_of_some _ e);have J0:Inv (n8 X N scope cl s3.heap.objs.size s3 H3 fp (X.pn++ak)) [] (yq jx σ) H3 { s3 with heap:=h₁,toks:=s3.toks+([]:List (Str × Value)).length }:=A8 cs I3 f3 MH O5 kh;have st4:tn 0 h₁:=T.keep _ _ _ st3 λb _ o e=>kh b o e;obtain⟨W,⟨m0,w0⟩,yd⟩:=q3
 have yf:∀ {H':Hp},(∀ b∈fp,H' b=none)->∀ b∈fp,vB (n8 X N scope cl s3.heap.objs.size s3 H3 fp (X.pn++ak)) [] H' b:=λhn b hb=>by
  refine⟨hn b hb,pR (MH b hb),λz=>?_,.inl hb,λx c e=>(f3 b hb).2.2.2.2.1 x c (cs.sub x c e),λp hp=>?_⟩
  ·rcases List.mem_cons.mp (I3.zS b z) with e|e
   ·exact (f3 b hb).2.1 e
   ·exact (f3 b hb).2.2.1 e
  ·have VJ:p∈X.pn++ak:=by
    have z:p∈(X.pn++ak)++[]:=hp;simpa using z
   exact (f3 b hb).2.2.2.2.2 p VJ
 have loop:∀ s5:Shared,s5={ s3 with heap:=h₁,toks:=s3.toks+([]:List (Str × Value)).length }->codeAny (model X.prog X.w) X.A (.compLoop (.ListComp pI [⟨tg,iter,oM,0⟩,⟨vJ,eV,m9,0⟩] scope pos) 0 (.ref it) (.ref s2.heap.objs.size) (n8 X N scope cl s3.heap.objs.size s3 H3 fp (X.pn++ak)).env)
   (compPost (model X.prog X.w) X.A X.xe use Q' (.ref s2.heap.objs.size) s3.heap.objs.size) s5:=by
  rintro s5 rfl;refine T7 (λn s'=>∃ i σ' H',Inv (n8 X N scope cl s3.heap.objs.size s3 H3 fp (X.pn++ak)) [] σ' H' s'/\tn i s'.heap/\(∀ b∈fp,H' b=none)/\W i n σ' H') (Kw _) ?_ m0 ⟨0,_,H3,J0,st4,λb hb=>(f3 b hb).1,w0⟩;rintro n s6 ⟨i,σ6,H6,I6,VE,O6,w6⟩;rcases yd i n σ6 H6 w6 with ⟨stop,qn⟩|⟨go,Nx,hN,step⟩
  ·refine dD (T.done (n8 X N scope cl s3.heap.objs.size s3 H3 fp (X.pn++ak)) rfl rfl rfl hc i [] s6 σ6 H6 _ I6 (yf O6) VE stop) λr s7 HG=>?_;obtain⟨hr,I7⟩:=HG;subst hr;exact qo s3 H3 fp _ σ6 H6 s7 I3 f3 I7 qn
  ·refine dD (T.item (n8 X N scope cl s3.heap.objs.size s3 H3 fp (X.pn++ak)) rfl rfl rfl hc i [] s6 σ6 H6 _ I6 (yf O6) VE go) λr s7 HH=>?_;obtain⟨u,hr,h7⟩:=HH;subst hr;refine dD h7 λ_ s8 Ko=>?_;obtain⟨x,H8,I8,r8,y8,QE,Ih⟩:=Ko;have Z1:=I8.pinned (yf Ih) (T.obj _ _ QE);refine dD (hg _ _ _ _ _ _ s8 σ6 H8 x u _ Z1 r8 (step x H8 y8)) λ_ s9 Kn=>?_;obtain⟨σ9,H9,I9,q9⟩:=Kn;refine dD (ht _ _ _ _ _ _ s9 σ9 H9 _ I9 q9) λok s10 DX=>?_;obtain⟨O7,VF,EL⟩:=DX
   have again:∀ {σ7:L2.St} {H7:Hp} {zO:Shared},Inv (n8 X N scope cl s3.heap.objs.size s3 H3 fp (X.pn++ak)) ([]++ye fp s8.heap) σ7 H7 zO->Nx σ7 H7->∃ m,m<n/\∃ i σ' H',Inv (n8 X N scope cl s3.heap.objs.size s3 H3 fp (X.pn++ak)) [] σ' H' zO/\tn i zO.heap/\(∀ b∈fp,H' b=none)/\W i m σ' H':=λ{σ7 H7 zO} I7 n7=>by
    obtain⟨m',hm,w7⟩:=hN σ7 H7 n7;refine⟨m',hm,i+1,σ7,H7,I7.ud,T.keep _ _ _ QE λb hb o e=>(I7.pin (b,o) (uH _ (uH _ (kG hb e)))).1,λb hb=>?_,w7⟩;obtain⟨o,e,d⟩:=T.obj _ _ QE b hb;exact (I7.pin (b,o) (uH _ (uH _ (kG hb e)))).2.1
   cases ok with
   | false =>
    rw[if_neg vg]at EL;exact again VF EL
   | true =>
    rw[if_pos rfl]at EL;refine dD (N6 (Y:=n8 X N scope cl s3.heap.objs.size s3 H3 fp (X.pn++ak)) hc rfl (hi2 _ _ _ _ _) (hg2 _ _ _ _ _) (Lc _ _ _ _ _) (he _ _ _ _ _) VF EL) λx zO h11=>dD h11 λZ0 sJ h12=>codeAny_mono h12 λr zP ⟨hr,σ',H',I13,n13⟩=>⟨hr,again I13 n13⟩
 exact codeAny_compStart_list (loop _ rfl) (T.self _ _ _ _ _ st4 (loop _ rfl))
theorem E4{iter:Expr}{pos:Pos}{wi Hh:TI}{g g2:TG}{tt Hi:TT}{te:TE}(cg:E3 X N scope jx)(hc:X.calm=true)(hi:PI X tg iter wi)
  (hg:∀ cl C s₀ H₀ ex pn,PG (n8 X N scope cl C s₀ H₀ ex pn) tg g) (ht:∀ cl C s₀ H₀ ex pn,N5 (n8 X N scope cl C s₀ H₀ ex pn) oM tt)
  (hi2:∀ cl C s₀ H₀ ex pn,PI (n8 X N scope cl C s₀ H₀ ex pn) vJ eV Hh) (hg2:∀ cl C s₀ H₀ ex pn,PG (n8 X N scope cl C s₀ H₀ ex pn) vJ g2) (Lc:∀ cl C s₀ H₀ ex pn,N5 (n8 X N scope cl C s₀ H₀ ex pn) m9 Hi) (he:∀ cl C s₀ H₀ ex pn,PE (n8 X N scope cl C s₀ H₀ ex pn) pI te)
  (hs:∀ x,foldedSetIterable iter X.env x=pure x:=by intro _;rfl) (Kw:∀ (env:Env) x,foldedSetIterable eV env x=pure x:=by intro _ _;rfl) :
  PE X (.ListComp pI [⟨tg,iter,oM,0⟩,⟨vJ,eV,m9,0⟩] scope pos) (MK jx wi g tt Hh g2 Hi te):=by
 intro ak s σ H Q I h;obtain⟨cl,cs⟩:=cg.toF I;rw[eval_ListComp];refine Lb (use:=none) cs hc hi (hg cl) (ht cl) (hi2 cl) (hg2 cl) (Lc cl) (he cl) hs Kw I h λs3 H3 fp acc σ6 H6 s7 I3 f3 I7 qn=>?_;obtain⟨m,hm,_⟩:=I7.loc;exact⟨m,hm,λh' Uo=>⟨.ref acc,H6,Ah I3 (Ag I3 f3 I7) I7.free Uo,rfl,qn⟩⟩
theorem IB{K:PySem.W.Frag}{a:Addr}{xs:List V}{g:TG}{tt:TT}{Hh:TI}{g2:TG}{Hi:TT}{te:TE}{σ0:L2.St}{H:Hp}{Q:VK}(Pv:Nat->L2.St->Hp->Prop)(h0:Pv 0 σ0 H)(hl:∀ i σ H,i<=xs.length->Pv i σ H->bQ K H a xs)
  (hs:∀ i x σ H,xs[i]?=some x->Pv i σ H->g x σ H fun σ2 H2=>tt σ2 H2 λb H3=>if b=true then F4 Hh acc g2 Hi te σ2 H3 (Pv (i+1)) else Pv (i+1) σ2 H3)
  (hd:∀ σ H,Pv xs.length σ H->Q (.ref acc) H):CH (SD K a) acc g tt Hh g2 Hi te σ0 H Q:=by
 refine⟨λi m σ H=>m=xs.length-i/\i<=xs.length/\Pv i σ H,⟨xs.length,by simp,Nat.zero_le _,h0⟩,?_⟩;rintro i m σ H ⟨rfl,hi,p⟩;have q:=hl i σ H hi p;by_cases vQ:i<xs.length
 ·refine .inr ⟨⟨xs,xs[i],q,by simp[vQ]⟩,Pv (i+1),fun σ' H' p'=>⟨xs.length-(i+1),by lia,rfl,vQ,p'⟩,λx H' y=>?_⟩;obtain⟨e,y⟩:=y;subst e;exact hs i x σ _ (y xs q) p
 ·have e:i=xs.length:=by lia
  subst e;exact .inl ⟨⟨xs,q,ja _⟩,hd σ H p⟩
theorem CJ{K:PySem.W.Frag}{a:Addr}{xs:List V}{g:TG}{tt:TT}{te:TE}{σ:L2.St}{H:Hp}{Nx:L2.St->Hp->Prop}(Pv:Nat->L2.St->Hp->Prop)(h0:Pv 0 σ H)(hl:∀ i σ H,i<=xs.length->Pv i σ H->bQ K H a xs)
  (hs:∀ i x σ H,xs[i]?=some x->Pv i σ H->g x σ H fun σ2 H2=>tt σ2 H2 λb H3=>if b=true then te σ2 H3 λv H4=>∃ ys,H4 acc=some (.lst ys)/\ys.length<sizeLine/\Pv (i+1) σ2 (aO H4 acc (.lst (ys++[v]))) else Pv (i+1) σ2 H3)
  (hd:∀ σ H,Pv xs.length σ H->Nx σ H):∃ W:Nat->Nat->L2.St->Hp->Prop,(∃ m,W 0 m σ H)/\∀ i m σ H,W i m σ H->
  ((SD K a).stop i H/\Nx σ H)\/((SD K a).go i H/\∃ N2:L2.St->Hp->Prop,(∀ σ' H',N2 σ' H'->∃ m',m'<m/\W (i+1) m' σ' H')/\∀ x H',(SD K a).Sz i H x H'->g x σ H' fun σ2 H2=>tt σ2 H2 λb H3 =>
   if b=true then te σ2 H3 λv H4=>∃ xs,H4 acc=some (.lst xs)/\xs.length<sizeLine/\N2 σ2 (aO H4 acc (.lst (xs++[v]))) else N2 σ2 H3):=by
 refine⟨λi m σ H=>m=xs.length-i/\i<=xs.length/\Pv i σ H,⟨xs.length,by simp,Nat.zero_le _,h0⟩,?_⟩;rintro i m σ H ⟨rfl,hi,p⟩;have q:=hl i σ H hi p;by_cases vQ:i<xs.length
 ·refine .inr ⟨⟨xs,xs[i],q,by simp[vQ]⟩,Pv (i+1),fun σ' H' p'=>⟨xs.length-(i+1),by lia,rfl,vQ,p'⟩,λx H' y=>?_⟩;obtain⟨e,y⟩:=y;subst e;exact hs i x σ _ (y xs q) p
 ·have e:i=xs.length:=by lia
  subst e;exact .inl ⟨⟨xs,q,ja _⟩,hd σ H p⟩
end
end dI
namespace dI
open Spec Rows L2
open AutoSeq1 (wpAny_loadPart')
section
variable {prog:Program} {w:World} {A:Around} {E:Value->Shared->Prop} {s:Shared} {κ:Type} [DecidableEq κ] {knd:KeyKind prog w κ}
theorem Od{d:Addr}{Q:Bool->Shared->Prop}(hT:s.TypeIs (.ref d) "dict")(h:Q false s):wpAny (model prog w) A (Builtin.List.listLengthHint (.ref d)) Q E s:=by
 unfold Builtin.List.listLengthHint;refine wpAny_bind (wpAny_specialOf hT F.slot_dict_len.lookup ?_);generalize hid:("dict.__len__":String)=id0
 wp_delta
 rw[show splitId id0=some ("dict","__len__") by subst hid;decide +kernel];subst hid;refine wpAny_bind (wpAny_isInstance (T:="dict") (b:=true) hT (by rw[isSubtype_type];kernel_rfl) ?_);refine wpAny_ite_split (λq=>absurd q (by decide)) λ_=>?_;refine wpAny_ite_split (λ_=>?_) λq=>absurd (by decide +kernel) q;exact wpAny_bind (wpAny_typeOf hT (wpAny_pure h))
theorem IC{R:Result->Shared->Prop}{d:Addr}{kvs:List (κ × Value)}{ep:Nat}(hh:A.handled=none)(hs:(d == sysModules)=false)(hd:s.heap.DictAt knd d kvs ep)(gj:kvs.length<=sizeLine)(S:Addr)(res:Value)(c₀:Nat)(hS:s.heap.get? S=some { cls:=.type "list",data:=.seq #[] c₀ })
  (hR:∀ h' tk vD c',(∀ b o,b≠S->s.heap.get? b=some o->h'.get? b=some o)->h'.get? S=some { cls:=.type "list",dict:=none,data:=.seq vD c',slots:=#[] }->
   ItemsOf (λi v=>∃ k x,kvs[i]?=some (k,x)/\knd.is k v=true) vD kvs.length->R (.ok (.ret res)) { s with heap:=h',toks:=tk }) :
  wpAny (model prog w) A.in1 (Builtin.List.listExtendWith (.ref S) (.ref d) res)
   (λqo s'=>match qo with|.done f=>R (.ok f) s'|.again c'=>c'.quiet=true/\codeAny (model prog w) A c' R s') (λe s'=>R (.error e) s') s:=by
 have hT:s.TypeIs (.ref d) "dict":=by
  obtain⟨o,es,ho,hx,_⟩:=hd;exact⟨o,ho,hx.1⟩
 have hSd:S≠d:=λe=>by
  obtain⟨o,es,ho,hx,hda,_⟩:=hd;rw[← e,hS]at ho;cases ho;cases hda
 have adI:S<s.heap.objs.size:=Heap.lt_size hS
 have adJ:d<s.heap.objs.size:=by
  obtain⟨o,es,ho,_⟩:=hd;exact Heap.lt_size ho
 have hSI:S≠s.heap.objs.size:=pR adI;have hdI:d≠s.heap.objs.size:=pR adJ;have W:=(Walks.dictKeys (prog:=prog) (w:=w) (A:=A.in1) (knd:=knd) hh s.heap.objs.size d hdI kvs ep).toS;unfold Builtin.List.listExtendWith;refine wpAny_bind (wpAny_typeOf hT ?_);have h1:Builtin.List.listSameRef (.ref S) (.ref d)=false:=by simp[Builtin.List.listSameRef,hSd]
 have h2:(Value.type "dict" == Value.type "list")=false:=by decide
 have h3:(Value.type "dict" == Value.type "tuple")=false:=by decide
 simp only[h1,h2,h3,Bool.or_false,Bool.false_eq_true,if_false];refine wpAny_bind (wpAny_pyIter_dict hs hd ?_);have uG:(s.heap.push { cls:=.type "dict_keyiterator",data:=.fields #[.ref d,.int 0 0,.int kvs.length 0,.int ep 0] }).IsKeyIter s.heap.objs.size d 0 kvs.length ep:=⟨_,Heap.get?_push_size _ rfl,rfl,rfl⟩;have nH:∀ b o,s.heap.get? b=some o->(s.heap.push { cls:=.type "dict_keyiterator",data:=.fields #[.ref d,.int 0 0,.int kvs.length 0,.int ep 0] }).get? b=some o:=λb o e=>Heap.get?_push_of_some _ e;generalize s.heap.push { cls:=.type "dict_keyiterator",data:=.fields #[.ref d,.int 0 0,.int kvs.length 0,.int ep 0] }=g1 at uG nH
 have hT1:({ s with heap:=g1 }:Shared).TypeIs (.ref d) "dict":=by
  obtain⟨o,ho,hc⟩:=hT;exact⟨o,nH _ _ ho,hc⟩
 refine wpAny_bind (wpAny_holding (Od hT1 ?_));refine wpAny_ite_split (λ_=>?_) λq=>absurd (by decide +kernel) q;refine wpAny_bind (wpAny_rule (wpAny_bind ?_));show wpAny _ A.in1 (updateSeq S (λz=>z.push .none) >>= λ_=>updateSeq S λz=>z.pop) _ _ _;have g1S:=nH _ _ hS;refine wpAny_bind (wpAny_updateSeq g1S rfl ?_);have g2S:=Heap.get?_update_self (Obj.mapSeq λz=>z.push Value.none) g1S rfl;refine wpAny_updateSeq (hz:=by seq_fits) g2S rfl ?_;have g3S:=Heap.get?_update_self (Obj.mapSeq λz=>z.pop) g2S rfl
 have Pa:∀ b o,b≠S->g1.get? b=some o->((g1.update S (Obj.mapSeq λz=>z.push Value.none)).update S (Obj.mapSeq λz=>z.pop)).get? b=some o:=λb o nb e =>
  (Heap.get?_update_other _ _ nb.symm).trans ((Heap.get?_update_other _ _ nb.symm).trans e)
 refine wpAny_pure ⟨plainId_quiet F.plain_extend_loop _,codeAny_extend_loopS W gj S (λhm=>?_) res kvs.length 0 _ #[] _ rfl (Nat.zero_le _) ⟨uG.at λo e=>Pa _ o hSI.symm e,(hd.at' λo e=>Pa _ o hSd.symm (nH _ o e))⟩ g3S (ItemsOf.nil _) λs' vD c' hm hS' dh=>?_⟩
 ·rcases List.mem_cons.mp hm with e|e
  ·exact hSI e
  ·exact hSd (List.mem_singleton.mp e)
 ·rw[Moved.eq_with hm];refine hR s'.heap s'.toks vD c' (λb o nb e=>hm.heap b o (λq=>?_) (Pa b o nb (nH b o e))) hS' dh;rcases List.mem_cons.mp q with z|z
  ·exact nb z
  ·exact absurd (Heap.lt_size e) (by rw[List.mem_singleton.mp z];exact Nat.lt_irrefl _)
theorem CK{Q:Value->Shared->Prop}{d:Addr}{kvs:List (κ × Value)}{ep:Nat}(hh:A.handled=none)(hs:(d == sysModules)=false)(hd:s.heap.DictAt knd d kvs ep)(gj:kvs.length<=sizeLine)
  (hQ:∀ h' tk vD c',(∀ b o,s.heap.get? b=some o->h'.get? b=some o)->h'.get? s.heap.objs.size=some { cls:=.type "list",dict:=none,data:=.seq vD c',slots:=#[] }->
   ItemsOf (λi v=>∃ k x,kvs[i]?=some (k,x)/\knd.is k v=true) vD kvs.length->Q (.ref s.heap.objs.size) { s with heap:=h',toks:=tk }) :
  wpAny (model prog w) A (call (.type "list") [.ref d]) Q E s:=by
 refine callType_codes (Q₁:=λu s1=>u=.ref s.heap.objs.size/\s1={ s with heap:=s.heap.push { cls:=.type "list",data:=.seq #[] } }) F.called_list (F.typeCall_list_1 _) F.entry_list_init (code_list_new _ ⟨rfl,rfl⟩) λu s1 e1=>?_;obtain⟨rfl,rfl⟩:=e1;have hS:(s.heap.push { cls:=.type "list",data:=.seq #[] }).get? s.heap.objs.size=some { cls:=.type "list",data:=.seq #[] }:=Heap.get?_push_size _ rfl;have Oe:(s.heap.push { cls:=.type "list",data:=.seq #[] }).DictAt knd d kvs ep:=hd.at' λo e=>Heap.get?_push_of_some _ e
 have VL:d≠s.heap.objs.size:=by
  obtain⟨o,es,ho,_⟩:=hd;exact pR (Heap.lt_size ho)
 refine⟨⟨_,hS,rfl⟩,F.args_list_init_2 _ _,?_⟩;show wpAny _ _ (do let old ← Builtin.List.listItems (.ref s.heap.objs.size);Builtin.List.listUpdate (.ref s.heap.objs.size) (λ_=>#[]);letGo old.toList.reverse;Builtin.List.listExtendWith (.ref s.heap.objs.size) (.ref d) .none) _ _ _;refine wpAny_bind ?_;unfold Builtin.List.listItems;refine wpAny_bind (wpAny_seqItems hS rfl (wpAny_pure ?_));show wpAny _ _ (updateSeq s.heap.objs.size (λ_=>#[]) >>= λ_=>letGo (#[]:Array Value).toList.reverse >>= λ_=>Builtin.List.listExtendWith (.ref s.heap.objs.size) (.ref d) .none) _ _ _;refine wpAny_bind (wpAny_updateSeq hS rfl ?_);have XX:=Heap.get?_update_self (Obj.mapSeq λ_=>(#[]:Array Value)) hS rfl;have Pa:∀ b o,b≠s.heap.objs.size->(s.heap.push { cls:=.type "list",data:=.seq #[] }).get? b=some o->((s.heap.push { cls:=.type "list",data:=.seq #[] }).update s.heap.objs.size (Obj.mapSeq λ_=>(#[]:Array Value))).get? b=some o:=λb o nb e=>(Heap.get?_update_other _ _ nb.symm).trans e;refine wpAny_bind (wpAny_letGo ?_);refine IC (A:=A.in1) (knd:=knd) hh hs (Oe.at' λo e=>Pa _ o VL e) gj s.heap.objs.size .none _ XX λh' tk vD c' hk hS' dh=>?_;exact⟨rfl,hQ h' tk vD c' (λb o e=>hk b o (pR (Heap.lt_size e)) (Pa b o (pR (Heap.lt_size e)) (Heap.get?_push_of_some _ e))) hS' dh⟩
end
theorem Ld{X:Cx}(hc:X.calm=true):pS X (.type "list") (λxs H Q=>∃ (d:Addr) (kvs:List (iL × V)),xs=[.ref d]/\H d=some (.dK kvs)/\∀ l,H l=none->Q (.ref l) (aO H l (.lst (kvs.map λp=>kV p.1)))):=by
 intro ak s σ H xs us Q I r h;obtain⟨d,kvs,rfl,hd,q⟩:=h;obtain⟨u,rfl,rx⟩:=r.one;cases (show u=Value.ref d from rx);obtain⟨hz,hs,vs,kv,o,es,ep,ho,hx⟩:=(show jc X.prog X.w H s.heap d (.dK kvs) from I.hok d _ hd);have len:=kv.length;refine CK (I.ok.hd hc) hs ⟨o,es,ho,hx⟩ (by lia) λh' tk vD c' hk hS dh=>?_;refine⟨.ref s.heap.objs.size,_,I.laid (o:=.lst (kvs.map λp=>kV p.1)) (t':=tk) hk (ja _) ⟨by rw[cR];exact hz,vD.toList,c',?_,by simpa using hS⟩,rfl,q _ (I.hok.fresh (ja _))⟩
 have key:∀ (kvs:List (iL × V)) (vs:List (iL × Value)) (us:List Value),KV kvs vs->us.length=vs.length->(∀ (j:Nat) (v:Value),us[j]?=some v->∃ k x,vs[j]?=some (k,x)/\Cb k v=true)->cF (kvs.map λp=>kV p.1) us:=by
  intro kvs
  induction kvs with
  | nil =>
   intro vs us kv hl _;cases kv
   cases us with
   | nil=>exact .nil
   | cons=>simp at hl
  | cons p r ih =>
   intro vs us kv hl hp
   cases kv with
   | @cons _ q _ Ga h1 h2 =>
   cases us with
   | nil=>simp at hl
   | cons u us =>
    obtain⟨k,x,e1,e2⟩:=hp 0 u rfl;have e3:q=(k,x):=by simpa using e1
    subst e3;refine .cons ?_ (ih Ga us h2 (by simpa using hl) λj v e=>?_)
    ·show L2.RelV (kV p.1) u;rw[show p.1=k from h1.1];rcases iM e2 with ⟨i,t,rfl,rfl⟩|⟨i,t,rfl,rfl⟩
     ·exact⟨t,rfl⟩
     ·exact⟨t,rfl⟩
    ·obtain⟨k',x',e4,e5⟩:=hp (j+1) v (by simpa using e);exact⟨k',x',by simpa using e4,e5⟩
 exact key kvs vs vD.toList kv (by simpa using dh.1) λj v e=>dh.2 j v (by simpa using e)
end dI
namespace CL
open Spec Rows L2 dI jL
end CL
namespace jL
open Spec Rows L2 dI iV CL
inductive cE{α β:Type}(R:α->β->Prop):List α->List β->Prop
 | nil:cE R [] []
 | cons {a:α} {b:β} {as:List α} {bs:List β}:R a b->cE R as bs->cE R (a::as) (b::bs)
section
variable {α β:Type} {R R':α->β->Prop} {as:List α} {bs:List β} {a:α} {b:β}
theorem cE.len{as:List α}{bs:List β}(h:cE R as bs):as.length=bs.length:=by
 induction h with
 | nil=>rfl
 | cons _ _ ih=>rw[qE,qE,ih]
theorem cE.get:∀ {as:List α} {bs:List β} {i:Nat},cE R as bs->as[i]?=some a->∃ b,bs[i]?=some b/\R a b
 | _,_,_,.nil,h=>by simp at h
 | _,_,0,.cons r _,h=>by simp at h;subst h;exact⟨_,rfl,r⟩
 | _,_,i+1,.cons _ t,h=>by simp at h;simpa using t.get h
theorem cE.get':∀ {as:List α} {bs:List β} {i:Nat},cE R as bs->bs[i]?=some b->∃ a,as[i]?=some a/\R a b
 | _,_,_,.nil,h=>by simp at h
 | _,_,0,.cons r _,h=>by simp at h;subst h;exact⟨_,rfl,r⟩
 | _,_,i+1,.cons _ t,h=>by simp at h;simpa using t.get' h
theorem cE.snoc{as:List α}{bs:List β}(t:cE R as bs)(h:R a b):cE R (as++[a]) (bs++[b]):=by
 induction t with
 | nil=>exact .cons h .nil
 | cons r _ ih=>exact .cons r ih
theorem cE.mono{as:List α}{bs:List β}(h:∀ a b,R a b->R' a b)(t:cE R as bs):cE R' as bs:=by
 induction t with
 | nil=>exact .nil
 | cons r _ ih=>exact .cons (h _ _ r) ih
theorem cE.set:∀ {as:List α} {bs:List β} (i:Nat),cE R as bs->R a b->cE R (as.set i a) (bs.set i b)
 | _,_,_,.nil,_=>.nil
 | _,_,0,.cons _ t,h=>.cons h t
 | _,_,i+1,.cons r t,h=>.cons r (t.set i h)
theorem cE.split:∀ {as:List α} {bs:List β},cE R as (bs++[b])->∃ SH a,as=SH++[a]/\cE R SH bs/\R a b
 | _,[],.cons r .nil=>⟨[],_,rfl,.nil,r⟩
 | _,c::bs,.cons r t=>by
  obtain⟨SH,a,rfl,t',r'⟩:=t.split;exact⟨_::SH,a,rfl,.cons r t',r'⟩
end
inductive aV where
 | win (n:Int)
 | aP (a b:Int)
def Le:aV->List V
 | .win n=>[.str "win",.int n]
 | .aP a b=>[.str "ink",.int a,.int b]
def dO(H:Hp)(v:V)(it:aV):Prop:=∃ a,v=.ref a/\H a=some (.tup (Le it))
theorem dO.same{H H':Hp}{v:V}{it:aV}(s:aM H H'):dO H v it->dO H' v it:=λ⟨a,e,h⟩=>⟨a,e,s _ _ h⟩
theorem dO.keep{H H':Hp}{v:V}{it:aV}{q:Addr}{xs:List V}(hq:H q=some (.lst xs))(k:cT q H H'):dO H v it->dO H' v it:=λ⟨a,e,h⟩=>⟨a,e,k a _ h (by
 intro z;rw[z,hq]at h
 cases h)⟩
def bR(H:Hp)(v:V)(aQ:List aV):Prop:=∃ a vs,v=.ref a/\H a=some (.lst vs)/\cE (dO H) vs aQ
theorem bR.same{H H':Hp}{v:V}{aQ:List aV}(s:aM H H'):bR H v aQ->bR H' v aQ:=λ⟨a,vs,e,h,t⟩=>⟨a,vs,e,s _ _ h,t.mono λ_ _=>dO.same s⟩
def jf(H:Hp)(r:Addr)(rows:List (List aV)):Prop:=∃ vs,H r=some (.lst vs)/\cE (bR H) vs rows
theorem jf.same{H H':Hp}{r:Addr}{rows:List (List aV)}(s:aM H H'):jf H r rows->jf H' r rows:=λ⟨vs,h,t⟩=>⟨vs,s _ _ h,t.mono λ_ _=>bR.same s⟩
def bG(t:List aV)(e:Int):List aV :=
 if e<0 then t++[.win (-1-e)] else
 match t.getLast? with
 | some (.aP a b)=>if b=e then t.dropLast++[.aP a (e+1)] else t++[.aP e (e+1)]
 | _=>t++[.aP e (e+1)]
def aI(es:List Int):List aV:=es.foldl bG []
def iI(aQ:List aV):List Int:=aQ.filterMap λit=>match it with|.win n=>some n|.aP _ _=>none
def gh(es:List Int):List Int:=es.filterMap λe=>if e<0 then some (-1-e) else none
theorem ju(a b:List aV):iI (a++b)=iI a++iI b:=by unfold iI;rw[List.filterMap_append]
theorem Of(t:List aV)(e:Int):iI (bG t e)=iI t++(if e<0 then [-1-e] else []):=by
 unfold bG;by_cases h:e<0
 ·rw[if_pos h,if_pos h,ju];rfl
 ·rw[if_neg h,if_neg h,jo];rcases vL t with rfl|⟨t',l,rfl⟩
  ·rfl
  ·rw[uc,xZ]
   cases l with
   | win n=>simp[ju,iI]
   | aP a b =>
    show iI (if b=e then (t'++[aV.aP a b]).dropLast++[.aP a (e+1)] else (t'++[aV.aP a b])++[.aP e (e+1)])=_;by_cases hb:b=e
    ·rw[if_pos hb,List.dropLast_concat,ju,ju];rfl
    ·rw[if_neg hb,ju,ju];simp[iI]
theorem Og(es:List Int):∀ t:List aV,iI (es.foldl bG t)=iI t++gh es:=by
 induction es with
 | nil=>intro t;simp[gh]
 | cons e es ih =>
  intro t;rw[rj,ih,Of,pQ];unfold gh;rw[List.filterMap_cons];by_cases h:e<0
  ·simp[h]
  ·simp[h]
theorem lU(es:List Int):iI (aI es)=gh es:=by
 unfold aI;rw[Og];rfl
theorem cK{es:List Int}{y:Int}:y∈gh es↔0<=y/\-1-y∈es:=by
 unfold gh;rw[List.mem_filterMap];constructor
 ·rintro⟨e,he,h⟩;by_cases h0:e<0
  ·rw[if_pos h0]at h;cases h;exact⟨by lia,by rw[show -1-(-1-e)=e by lia];exact he⟩
  ·rw[if_neg h0]at h;cases h
 ·rintro⟨h0,h1⟩;refine⟨-1-y,h1,?_⟩;rw[if_pos (by lia)];congr 1;lia
theorem wR(es:List Int):∀ t:List aV,(es.foldl bG t).length<=t.length+es.length:=by
 induction es with
 | nil=>intro t;simp
 | cons e es ih =>
  intro t;rw[rj];have z:=ih (bG t e)
  have z2:(bG t e).length<=t.length+1:=by
   unfold bG;split
   ·simp
   ·split
    ·split
     ·rw[dM,List.length_dropLast,vK];lia
     ·simp
    ·simp
  rw[qE];lia
def oR(rows:dJ)(x y:Int):Prop:=0<=x/\∃ es,rows[x.toNat]?=some es/\y∈gh es
inductive Reach(E:Int->Int->Prop)(s:Int):Int->Prop
 | one {y:Int}:E s y->Reach E s y
 | step {y z:Int}:Reach E s y->E y z->Reach E s z
theorem Reach.closed{E:Int->Int->Prop}{s:Int}{S:Int->Prop}(h0:∀ y,E s y->S y)(h1:∀ x y,S x->E x y->S y):∀ {g:Int},Reach E s g->S g
 | _,.one h=>h0 _ h
 | _,.step r h=>h1 _ _ (Reach.closed h0 h1 r) h
def jH(rows:dJ):Prop:=∀ es∈rows,∀ y∈gh es,y<rows.length
theorem jH.Hj{rows:dJ}(h:jH rows){x y:Int}(e:oR rows x y):0<=y/\y<rows.length:=by
 obtain⟨_,es,he,hy⟩:=e;exact⟨(cK.mp hy).1,h es (vf he) y hy⟩
def cnt(n:Nat)(p:Nat->Bool):Nat:=((List.range n).filter p).length
theorem QV(n:Nat){p q:Nat->Bool}(h:∀ i,i<n->p i=q i):cnt n p=cnt n q:=by
 unfold cnt;rw[List.filter_congr λi hi=>h i (List.mem_range.mp hi)]
theorem zj(n:Nat)(p:Nat->Bool):cnt (n+1) p=cnt n p+(if p n=true then 1 else 0):=by
 unfold cnt;rw[List.range_succ,List.filter_append,dM];congr 1;by_cases h:p n=true
 ·rw[if_pos h];simp[h]
 ·rw[if_neg h];simp[h]
theorem zk(j:Nat):∀ (n:Nat) {p q:Nat->Bool},j<n->p j=true->(∀ i,q i=(p i&&decide (i≠j)))->cnt n q+1=cnt n p
 | 0,_,_,h,_,_=>by lia
 | n+1,p,q,h,hj,hq=>by
  rw[zj,zj];by_cases e:j=n
  ·subst e
   have z:cnt j q=cnt j p:=QV j λi hi=>by
    rw[hq i];have:decide (i≠j)=true:=by simp;lia
    rw[this,Bool.and_true]
   have z2:q j=false:=by rw[hq j];simp
   rw[z,z2,if_pos hj];simp
  ·have ih:=zk j n (p:=p) (q:=q) (by lia) hj hq
   have z:q n=p n:=by
    rw[hq n];have:decide (n≠j)=true:=by simp;lia
    rw[this,Bool.and_true]
   rw[z];lia
theorem CM(n:Nat)(p:Nat->Bool):cnt n p<=n:=by
 unfold cnt;have:=List.length_filter_le p (List.range n);rw[List.length_range]at this;exact this
def iR(av:Addr->Prop)(H:Hp)(v:V)(es:List Int):Prop:=∃ a,v=.ref a/\¬ av a/\H a=some (.lst (es.map V.int))
def kT(av:Addr->Prop)(H:Hp)(r:Addr)(rows:dJ):Prop:=∃ vs,H r=some (.lst vs)/\cE (iR av H) vs rows
theorem iR.keep{av:Addr->Prop}{H H':Hp}{v:V}{es:List Int}(k:∀ a o,¬ av a->H a=some o->H' a=some o):iR av H v es->iR av H' v es:=λ⟨a,e,n,h⟩=>⟨a,e,n,k a _ n h⟩
theorem kT.same{av:Addr->Prop}{H H':Hp}{r:Addr}{rows:dJ}(s:aM H H'):kT av H r rows->kT av H' r rows:=λ⟨vs,h,t⟩=>⟨vs,s _ _ h,t.mono λ_ _=>iR.keep λa o _ e=>s a o e⟩
theorem kT.get{av:Addr->Prop}{H:Hp}{r:Addr}{rows:dJ}{i:Nat}{es:List Int}(h:kT av H r rows)(e:rows[i]?=some es):∃ vs a,H r=some (.lst vs)/\vs[i]?=some (.ref a)/\H a=some (.lst (es.map V.int))/\vs.length=rows.length:=by
 obtain⟨vs,hr,t⟩:=h;obtain⟨v,ev,a,rfl,_,ha⟩:=t.get' e;exact⟨vs,a,hr,ev,ha,t.len⟩
theorem ML(x:Int)(xs:List Int):inV (.int x) (xs.map V.int)=decide (x∈xs):=by
 unfold inV
 induction xs with
 | nil=>rfl
 | cons y ys ih =>
  rw[oJ,List.any_cons,ih];show ((y == x) || decide (x∈ys))=_;by_cases h:y=x
  ·simp[h]
  ·have h2:¬ x=y:=λz=>h z.symm;simp[h,h2]
theorem E5(xs:List Int):(xs.map V.int).all yY=true:=by
 rw[List.all_eq_true];intro v hv;obtain⟨i,_,rfl⟩:=List.mem_map.mp hv;rfl
def Gb(rows:dJ):Prop:=∃ rk:Int->Nat,(∀ x,rk x<=40)/\∀ x y,oR rows x y->rk y<rk x
theorem iR.at{av:Addr->Prop}{H:Hp}{v:V}{es:List Int}{q:Addr}(o:HO)(hq:av q):iR av H v es->iR av (aO H q o) v es:=iR.keep λa u n e=>by
 rw[aK (λz=>n (by rw[z];exact hq))];exact e
theorem iR.same{av:Addr->Prop}{H H':Hp}{v:V}{es:List Int}(s:aM H H'):iR av H v es->iR av H' v es:=iR.keep λa u _ e=>s a u e
def seen(kvs:List (iL × V))(x:Int):Prop:=(cW kvs (Sum.inl x)).isSome=true
def tU(n:Nat)(kvs:List (iL × V)):Nat:=cnt n λi=>(cW kvs (Sum.inl (i:Int))).isNone
theorem ID{kvs:List (iL × V)}{y x:Int}(v:V):seen (iC kvs (Sum.inl y) v) x↔x=y\/seen kvs x:=by
 unfold seen;rw[pZ];by_cases h:x=y
 ·rw[if_pos (by rw[h]),h];simp
 ·rw[if_neg (λz=>h (Sum.inl.inj z))];simp[h]
theorem IE{n:Nat}{kvs:List (iL × V)}{y:Int}(v:V)(h0:0<=y)(h1:y<n)(hn:cW kvs (Sum.inl y)=none):tU n (iC kvs (Sum.inl y) v)+1=tU n kvs:=by
 refine zk y.toNat n (by lia) ?_ λi=>?_
 ·show (cW kvs (Sum.inl (y.toNat:Int))).isNone=true;rw[show ((y.toNat:Nat):Int)=y by lia,hn];rfl
 ·show (cW (iC kvs (Sum.inl y) v) (Sum.inl (i:Int))).isNone=((cW kvs (Sum.inl (i:Int))).isNone&&decide (i≠y.toNat));rw[pZ];by_cases h:(i:Int)=y
  ·rw[if_pos (by rw[h])];have:decide (i≠y.toNat)=false:=by simp;lia
   rw[this,Bool.and_false];rfl
  ·rw[if_neg (λz=>h (Sum.inl.inj z))];have:decide (i≠y.toNat)=true:=by simp;lia
   rw[this,Bool.and_true]
theorem MM(lo:Int)(n:Nat):(run lo n).length=n:=by
 induction n generalizing lo with
 | zero=>rfl
 | succ n ih=>rw[run,qE,ih]
theorem QW:∀ {n:Nat} {lo y:Int},y∈run lo n->lo<=y/\y<lo+n
 | 0,_,_,h=>by cases h
 | n+1,lo,y,h=>by
  rcases List.mem_cons.mp h with rfl|z
  ·lia
  ·have:=QW z;lia
theorem cE.new{H2:Hp}{q t:Addr}{vs:List V}{aQ:List aV}{it:aV}{ys:List V}(jA:H2 q=some (.lst ys))(hb:cE (dO H2) vs aQ)(ht:H2 t=none)(zs:List V) :
  cE (dO (aO (aO H2 t (.tup (Le it))) q (.lst zs))) (vs++[.ref t]) (aQ++[it]):=by
 have XA:q≠t:=az jA ht;have s1:aM H2 (aO H2 t (.tup (Le it))):=ao ht _;refine cE.snoc (hb.mono λv i h=>(h.same s1).keep (s1 _ _ jA) (aL q _ _)) ⟨t,rfl,?_⟩;rw[aK XA.symm,af]
end jL
namespace XY
open Spec Rows L2 dI
section
variable {M:Model} {A:Around} {E:Value->Shared->Prop} {s:Shared}
theorem Ge{a b:Value}{Q:Value->Shared->Prop}(ha:s.TypeIs a "list")(hb:s.TypeIs b "list")(hc:wpAny M A (call (.builtin "list.__iadd__") [a,b]) Q E s):wpAny M A (inplaceOp .Add a b) Q E s:=by
 unfold inplaceOp;refine wpAny_holding ?_;have hq:isSeqSlot (some (.builtin "list.__iadd__"))=true:=by decide +kernel
 have hfi:fillsInplaceSlot (.type "list") "add" (Operator.Add == .Add)=pure false:=by
  unfold fillsInplaceSlot;show (typeLookup (.type "list") (dunderI "add") >>= λfi=>pure (fi.isSome&&!isSeqSlot fi))=pure false;rw[PySem.F.slot_list_iadd.lookup,pure_bind,hq];rfl
 have hsi:seqSlot? (.type "list") (dunderI "add")=pure (some (.builtin "list.__iadd__")):=PySem.seqSlot_of PySem.F.slot_list_iadd.lookup hq;refine wpAny_bind (wpAny_typeOf ha (wpAny_bind (wpAny_of_eq hfi ?_)));show wpAny M A (if false=true then _ else _) Q E s;rw[if_neg vg];refine wpAny_bind (binaryOp1_none (nm:="add") ha hb PySem.noFill_list_add ?_);refine wpAny_bind (wpAny_of_eq hsi ?_);exact wpAny_bind (wpAny_rule hc)
end
section
variable {X:Cx}
def VM:V->V->Hp->VK->Prop:=λx y H Q=>∃ l b xs zs,x=.ref l/\y=.ref b/\H l=some (.lst xs)/\H b=some (.lst zs)/\xs.length+zs.length<=sizeLine/\Q (.ref l) (aO H l (.lst (xs++zs)))
theorem Ak:PIp X .Add VM:=by
 intro ak s σ H x y v u Q I rx ry h;obtain⟨l,b,xs,zs,rfl,rfl,hH,hB,hz,q⟩:=h;cases rx;cases ry;obtain⟨z,aQ,n,r,hl,e⟩:=I.D3 hH;obtain⟨z2,its2,n2,r2,EF,e2⟩:=I.D3 hB;have hsz:aQ.toArray.size+its2.toArray.size<=sizeLine:=by rw[kC,kC];lia
 have HP:¬ (!aQ.toArray.isEmpty&&Builtin.List.listTooLong (aQ.toArray.size+its2.toArray.size))=true:=by
  rw[Cp hsz,Bool.and_false];exact vg
 refine Ge ⟨_,e,rfl⟩ ⟨_,e2,rfl⟩ ?_;refine call_meets PySem.F.slot_list_iadd ⟨_,e,rfl⟩ PySem.F.entry_list_iadd (PySem.F.args_list_iadd_2 _ _) (AutoSeq1.list___iadd___list_list_0 l aQ.toArray n b its2.toArray n2 HP (by rw[kC];lia) (by lia)) ⟨e,e2,?_⟩;refine⟨.ref l,_,I.Qa (its':=aQ++its2) hH e (by simp) (r.append r2) ?_,rfl,q⟩;rw[dM];lia
section
variable {N:List Str} {scope:Scope} {cl:List (Str × Addr)} {C:Addr} {s₀:Shared} {H₀:Hp} {ex:List Addr} {pn:List (Addr × Obj)}
theorem Lf:pS (n8 X N scope cl C s₀ H₀ ex pn) (.type "list") (ZK X.K):=jP
end
theorem Lg:Zz X .Add VM:=λak s σ H x y u v Q I rx ry h=>Ak ak s σ H x y u v Q I rx ry h
end
theorem Ur{p q A B T:Prop} [Decidable p] [Decidable q] (w:p->(if decide q=true then A else B)->T) (h1:p/\q->A) (h2:¬ (p/\q)->B):if decide p=true then T else (if false=true then A else B):=by
 by_cases a:p
 ·rw[if_pos (decide_eq_true a)];by_cases b:q
  ·exact w a (by rw[if_pos (decide_eq_true b)];exact h1 ⟨a,b⟩)
  ·exact w a (by rw[decide_eq_false b,if_neg vg];exact h2 λz=>b z.2)
 ·rw[decide_eq_false a,if_neg vg,if_neg vg];exact h2 λz=>a z.1
theorem QX{p q A B T:Prop} [Decidable p] [Decidable q] (w:(if decide q=true then A else B)->T) (h1:p/\q->A) (h2:¬ (p/\q)->B):if decide p=true then T else (if false=true then A else B):=Ur (λ_=>w) h1 h2
end XY
namespace jL
open Spec Rows L2 dI iV CL
def qB(r:Row):Prop:=∀ p∈r,0<=p.1/\p.1<=p.2
def n9(r:Row):Prop:=∀ p∈r,0<=p.1/\p.1<p.2
theorem E6{t:Row}{s e:Int}(h:n9 t)(h0:0<=s)(h1:s<e):n9 (nH t s e):=by
 have add:n9 (t++[(s,e)]):=λp hp=>by
  rcases List.mem_append.mp hp with z|z
  ·exact h p z
  ·rw[List.mem_singleton.mp z];exact⟨h0,h1⟩
 unfold nH;rcases vL t with rfl|⟨t',l,rfl⟩
 ·exact add
 ·rw[uc]at h add ⊢;rw[xZ];show n9 (if l.2=s then (t'++[l]).dropLast++[(l.1,e)] else t'++[l]++[(s,e)]);by_cases c:l.2=s
  ·rw[if_pos c,List.dropLast_concat];intro p hp;rcases List.mem_append.mp hp with z|z
   ·exact h p (xY _ z)
   ·have:=h l (by simp);rw[List.mem_singleton.mp z];exact⟨this.1,by show l.1<e;lia⟩
  ·rw[if_neg c];exact add
theorem ur{r:Row}(h:qB r):n9 (cJ r):=by
 have z:∀ (r t:Row),qB r->n9 t->n9 (r.foldl gQ t):=by
  intro r
  induction r with
  | nil=>intro t _ g;exact g
  | cons p r ih =>
   intro t h g;rw[rj];refine ih _ (λq hq=>h q (sH _ hq)) ?_;unfold gQ;have hp:=h p (by simp);by_cases c:p.1=p.2
   ·rw[if_pos c];exact g
   ·rw[if_neg c];exact E6 g hp.1 (by lia)
 exact z r [] h λp hp=>by cases hp
theorem E7{ns:List Int}(h:∀ x∈ns,0<=x):n9 (cV ns):=by
 have z:∀ (ns:List Int) (t:Row),(∀ x∈ns,0<=x)->n9 t->n9 (ns.foldl (λt n=>nH t n (n+1)) t):=by
  intro ns
  induction ns with
  | nil=>intro t _ g;exact g
  | cons n ns ih =>
   intro t h g;rw[rj];exact ih _ (λx hx=>h x (sH _ hx)) (E6 g (h n (by simp)) (by lia))
 exact z ns [] h λp hp=>by cases hp
theorem n9.nn{r:Row}(h:n9 r):qB r:=λp hp=>⟨(h p hp).1,by have:=(h p hp).2;lia⟩
theorem CN(a b:Int):∀ (r:Row) (h:Int),qB r->qB (qp a b h r)
 | [],_,_=>λp hp=>by cases hp
 | q::r,h,g=>by
  intro p hp;rw[qp]at hp;rcases List.mem_append.mp hp with z|z
  ·have gq:=g q (by simp);refine⟨?_,QM a b h q p z⟩;unfold QL at z;split at z
   ·rw[List.mem_singleton.mp z];show 0<=q.1+max (a-h) 0;lia
   ·cases z
  ·exact CN a b r _ (λx hx=>g x (sH _ hx)) p z
end jL
namespace Us
open Spec Rows L2 dI
end Us
namespace jL
open Spec Rows L2 dI iV CL Us
end jL
namespace jL
open Spec Rows L2 dI iV CL Us
theorem Gf:∀ {n:Nat} {s x:Int},x∈run s n↔s<=x/\x<s+n
 | 0,s,x=>by simp[run]
 | n+1,s,x=>by
  rw[run,List.mem_cons,Gf];lia
def Ris(r:Row):Prop:=r.Pairwise (λp q=>p.2<q.1)/\∀ p∈r,p.1<p.2
end jL
namespace jL
open Spec Rows L2 dI iV CL Us
end jL
namespace jL
open Spec Rows L2 dI iV CL XY
structure bN(K:PySem.W.Frag)(C:Addr)(m dG:Str)(st:Stmt)(ps:List Str)(a:Addr)(d:FuncData):Prop where
 F:iH K m dG st a d
 b:Binds K d ps []
 mt:Kx K C m a
structure ClsAt(K:PySem.W.Frag)(mg:Str->Option Value)(x:Str)(C fi:Addr):Prop where
 cl:DQ K C
 m:mg x=some (.ref C)
 YO:Mk K C fi
structure Ut(K:PySem.W.Frag)(mg:Str->Option Value)(x:Str)(C:Addr):Prop where
 m:mg x=some (.ref C)
 x:PySem.W.excIn K C [.type "ValueError",.type "Exception",.type "BaseException",.type "object"] "ValueError.__new__"=true
 h:PySem.W.exmOne K (.ref C) (.ref C)=some true
end jL
namespace jL
open L2 dI iV
section
variable {p:List Value->Prop}
theorem us0(h:p []):∀ us:List Value,us.length=0->p us:=λus e=>by rw[List.length_eq_zero_iff.mp e];exact h
theorem YQ{n:Nat}(h:∀ a (us:List Value),us.length=n->p (a::us)):∀ us:List Value,us.length=n+1->p us:=by
 intro us e
 cases us with
 | nil=>cases e
 | cons a us=>exact h a us (Nat.succ.inj e)
theorem us1(h:∀ a,p [a]):∀ us:List Value,us.length=1->p us:=YQ λa=>us0 (p:=λus=>p (a::us)) (h a)
theorem us2(h:∀ a b,p [a,b]):∀ us:List Value,us.length=2->p us:=YQ λa=>us1 (p:=λus=>p (a::us)) (h a)
theorem us3(h:∀ a b c,p [a,b,c]):∀ us:List Value,us.length=3->p us:=YQ λa=>us2 (p:=λus=>p (a::us)) (h a)
theorem us4(h:∀ a b c d,p [a,b,c,d]):∀ us:List Value,us.length=4->p us:=YQ λa=>us3 (p:=λus=>p (a::us)) (h a)
theorem us5(h:∀ a b c d e,p [a,b,c,d,e]):∀ us:List Value,us.length=5->p us:=YQ λa=>us4 (p:=λus=>p (a::us)) (h a)
theorem us6(h:∀ a b c d e f,p [a,b,c,d,e,f]):∀ us:List Value,us.length=6->p us:=YQ λa=>us5 (p:=λus=>p (a::us)) (h a)
end
section
variable {K:PySem.W.Frag} {mg:Str->Option Value} {h:Heap} {x dG:Str} {st:Stmt} {f C:Addr} {ps:List Str}
theorem DI.d(q:DI K x st f)(X:K.In h)(G:h.Ns mainGlobals mg)(b:∀ (kV zY pm:Value) (an:Option Addr) (dH ct:Value) (us:List Value),us.length=ps.length->bindArgs (fnOf x x (sP st) (lM st) (aA st) .none kV zY pm an dH ct) ⟨us,[]⟩=pure (ps.zip us):=by intro _ _ _ _ _ _;first|exact us1 λ_=>rfl|exact us2 λ_ _=>rfl|exact us3 λ_ _ _=>rfl|exact us4 λ_ _ _ _=>rfl|exact us5 λ_ _ _ _ _=>rfl|exact us6 λ_ _ _ _ _ _=>rfl|exact us0 rfl):∃ fd,aC K mg x st ps f fd:=by
 obtain⟨a,l,c,k⟩:=q;have F:=KN l c k;exact⟨_,F,F.binds b,mg_of X G a⟩
theorem MI.d(q:MI K C x dG st f)(b:∀ (kV zY pm:Value) (an:Option Addr) (dH ct:Value) (us:List Value),us.length=ps.length->bindArgs (fnOf x dG (sP st) (lM st) (aA st) .none kV zY pm an dH ct) ⟨us,[]⟩=pure (ps.zip us):=by intro _ _ _ _ _ _;first|exact us1 λ_=>rfl|exact us2 λ_ _=>rfl|exact us3 λ_ _ _=>rfl|exact us4 λ_ _ _ _=>rfl|exact us5 λ_ _ _ _ _=>rfl|exact us6 λ_ _ _ _ _ _=>rfl|exact us0 rfl):∃ fd,bN K C x dG st ps f fd:=by
 obtain⟨a,i,l,c,k⟩:=q;have F:=KN l c k;exact⟨_,F,F.binds b,⟨a,i,k⟩⟩
theorem CI.d(q:CI K x C)(X:K.In h)(G:h.Ns mainGlobals mg)(m:Kx K C "__init__" fi):ClsAt K mg x C fi:=by
 obtain⟨a,pg,hd,po,sa,mk,kc⟩:=q;obtain⟨a1,i1,k1⟩:=m;exact⟨⟨pg,hd,po,sa⟩,mg_of X G a,⟨mk,a1,i1,kc⟩⟩
theorem XI.d(q:XI K x C)(X:K.In h)(G:h.Ns mainGlobals mg):Ut K mg x C:=by
 obtain⟨a,b,c⟩:=q;exact⟨mg_of X G a,b,c⟩
end
end jL
namespace dI
open Spec Rows L2
theorem CO{α β:Type}{F:α->β->Prop}:∀ {xs:List α} {ys:List β} {i:Nat} {x:α},Paired F xs ys->xs[i]?=some x->∃ y,ys[i]?=some y/\F x y
 | _,_,_,_,.nil,e=>by simp at e
 | _,_,0,_,.cons r _,e=>by simp at e;subst e;exact⟨_,rfl,r⟩
 | _,_,i+1,x,.cons _ t,e=>by
  obtain⟨y,h1,h2⟩:=CO (i:=i) (x:=x) t (by simpa using e);exact⟨y,by simpa using h1,h2⟩
theorem A9{α β:Type}{F:α->β->Prop}:∀ {xs:List α} {ys:List β} {i:Nat} {y:β},Paired F xs ys->ys[i]?=some y->∃ x,xs[i]?=some x/\F x y
 | _,_,_,_,.nil,e=>by simp at e
 | _,_,0,_,.cons r _,e=>by simp at e;subst e;exact⟨_,rfl,r⟩
 | _,_,i+1,y,.cons _ t,e=>by
  obtain⟨x,h1,h2⟩:=A9 (i:=i) (y:=y) t (by simpa using e);exact⟨x,by simpa using h1,h2⟩
end dI
namespace dI
open Spec Rows L2 jL CL
def Ite(K:PySem.W.Frag)(a:Addr):It :=
 ⟨λi H=>∃ xs x,bQ K H a xs/\xs[i]?=some x,λi H v H'=>∃ p x,H p=none/\v=.ref p/\H'=aO H p (.tup [.int i,x])/\∀ xs,bQ K H a xs->xs[i]?=some x,λi H=>∃ xs,bQ K H a xs/\xs.length<=i⟩
theorem Oh{P:Program}{w:World}{K:PySem.W.Frag}{x1:Nat}(a e it:Addr)(ne:e≠it):Kp P w K (.Tuple KU x1 DZ) (Ite K a) [e,it] e (λi h=>∃ old,IsEnum h e it i old/\h.IsListIter it a i) where
 mem:=by simp
 obj:=λi h st b hb=>by
  obtain⟨old,he,o,ho,c,d⟩:=st;simp only[List.mem_cons,List.not_mem_nil,or_false]at hb;rcases hb with rfl|rfl
  ·exact⟨_,he,λv z=>by cases z⟩
  ·exact⟨o,ho,λv z=>by rw[d]at z;cases z⟩
 keep:=λi h h' st k=>by
  obtain⟨old,he,uG⟩:=st;exact⟨old,k e (by simp) _ he,uG.at λo x=>k it (by simp) o x⟩
 item:=by
  intro X hP hw hK hc i ak s σ H E I hf st hg;subst hP hw hK;obtain⟨xs,x,hq,hx⟩:=hg;obtain⟨old,he,uG⟩:=st;obtain⟨aQ,rv,p,hz⟩:=I.list hq;obtain⟨u,hu,ru⟩:=rv.get hx;obtain⟨oi,XZ,_⟩:=id uG;refine wpAny_pyNext_enum_item he uG p.isList (x:=u) (by simpa using hu) ne λh' Vm adS ht hz' hk=>?_;refine⟨_,rfl,wpAny_letOwnedTupleGo_enum Vm λh2 he2 Kw=>?_⟩;have c2:=Kw.extBut;have nE:s.heap.objs.size≠e:=Nat.ne_of_gt (Heap.lt_size he)
  have k2:∀ b o,b∉[e,it]->s.heap.get? b=some o->h2.get? b=some o:=λb o hb ho=>by
   simp only[List.mem_cons,List.not_mem_nil,or_false,not_or]at hb;exact c2 _ _ hb.1 (hk b o hb.1 hb.2 ho)
  have I2:Inv X ak σ (aO H s.heap.objs.size (.tup [.int i,x])) { s with heap:=h2,toks:=s.toks+1 } := VB I k2 hf (ja _) (by show 2<=sizeLine;decide) (.cons ⟨s.toks,rfl⟩ (.cons ru .nil)) ⟨_,c2 _ _ nE ht,rfl,_,rfl⟩;refine⟨.ref s.heap.objs.size,_,I2,rfl,⟨_,x,I.hok.fresh (ja _),rfl,rfl,λys q=>by rw[I.Ce q hq];exact hx⟩,⟨u,he2,adS.at λo x=>c2 _ _ ne.symm x⟩,λb hb=>?_⟩
  have nb:b≠s.heap.objs.size:=by
   simp only[List.mem_cons,List.not_mem_nil,or_false]at hb;rcases hb with rfl|rfl
   ·exact nE.symm
   ·exact pR (Heap.lt_size XZ)
  rw[aK nb];exact (hf b hb).1
 done:=by
  intro X hP hw hK hc i ak s σ H E I hf st hg;subst hP hw hK;obtain⟨xs,hq,hx⟩:=hg;obtain⟨old,he,uG⟩:=st;obtain⟨aQ,rv,p,hz⟩:=I.list hq;have hl:=rv.length;refine wpAny_pyNext_enum_end (I.ok.hd hc) he uG p.isList (by simp;lia) λh' kk=>⟨rfl,My (t':=s.toks) (ch:=[e,it]) I (λb o hb x=>?_) hf⟩;simp only[List.mem_cons,List.not_mem_nil,or_false,not_or]at hb;exact kk b o hb.2 x
 self:=λ_ _ _ _ _ ⟨_,he,_⟩ h=>wpAny_pyIter_enum he h
theorem Oi:bootBuiltins "enumerate"=some (.type "enumerate"):=by decide +kernel
def aac(K:PySem.W.Frag)(ta:TA):TI:=fun σ H R=>ta σ H λvs H1=>∃ (a:Addr) (xs:List V),vs=[.ref a]/\bQ K H1 a xs/\R (Ite K a) H1
theorem Uu{X:Cx}{KU:List Expr}{x1:Nat}{DZ:Pos}{a:Expr}{ta:TA}{p pos:Pos}(hg:Gl X "enumerate")(hm:X.mg "enumerate"=none)(ha:PA X [a] ta)(hs:starEach [a] X.env=[(false,eval a X.env)]:=by rfl) :
  PI X (.Tuple KU x1 DZ) (.Call (.Name "enumerate" p) [a] [] pos) (aac X.K ta):=by
 intro ak s σ H R I h;refine Call_ (zT I hg hm Oi (PyProof.Rows.callWith_type1 (dD (ha pos ak s σ H _ I h) λus s1 ⟨vs,H1,I1,r1,q1⟩=>?_) hs rfl));obtain⟨l,xs,e,hq,q⟩:=q1;subst e;obtain⟨u,rfl,rx⟩:=r1.one;cases (show u=Value.ref l from rx);obtain⟨aQ,rv,pl,hz⟩:=I1.list hq;refine call_enumerate_list pl.isList λh' he uG hsz hk=>wpAny_pyIter_enum he ?_;have I2:Inv X ak σ H1 { s1 with heap:=h',toks:=s1.toks }:=I1.kept hk;refine⟨_,_,_,_,H1,rfl,I2,Oh l _ _ (Nat.succ_ne_self _),⟨_,he,uG⟩,λb hb=>?_,q⟩
 have hb':s1.heap.objs.size<=b:=by
  simp only[List.mem_cons,List.not_mem_nil,or_false]at hb;rcases hb with rfl|rfl
  ·exact Nat.le_succ _
  ·exact ja _
 exact I1.NJ hb' (I1.hok.fresh hb')
def X0(td ty tx:TE):TE:=fun σ H Q=>td σ H λx H1=>∃ a,x=.ref a/\IsD H1 a/\ty σ H1 λy H2=>tx σ H2 λz H3=>∃ kvs k,H3 a=some (.dK kvs)/\y=kV k/\kvs.length<sizeLine/\
 (∀ v,cW kvs k=some v->Q v H3)/\(cW kvs k=none->Q z (aO H3 a (.dK (iC kvs k z))))
theorem QY{X:Cx}{e f:Expr}{td ty tx:TE}(ho:PE X o td)(he:PE X e ty)(hf:PE X f tx)(m:M2 X o "setdefault" mq e f sI):PE X (.Call (.Attribute o "setdefault" mq) [e,f] [] sI) (X0 td ty tx):=by
 intro ak s σ H Q I h;refine wpAny_Call_method m.zt m.few m.line PySem.F.plainAttrs_dict PySem.F.slot_dict_setdefault PySem.F.type_dict_setdefault (dD (ho ak s σ H _ I h) λu s1 DY=>?_);obtain⟨x,H1,I1,rx,a,ex,d,q1⟩:=DY;subst ex;obtain rfl:u=Value.ref a:=rx;obtain⟨t1,t2,_⟩:=XW I1 d;refine⟨t1,t2,?_⟩;rw[m.trees]
 refine Calls.callWith_builtin rfl (Calls.evalArgs_plain (Calls.spliced_cons (dD (he ak s1 σ H1 _ I1 q1) λiv s2 ⟨y,H2,I2,ry,q2⟩ =>
  Calls.spliced_cons (dD (hf ak s2 σ H2 _ I2 q2) λfv s3 ⟨z,H3,I3,rz,kvs,k,ea,ey,gj,g1,g2⟩=>Calls.spliced_nil ?_))))
 subst ey;obtain⟨hz,hd,vs,A7,dd⟩:=QN I3.hok ea;have len:=A7.length;refine call_meetsIn PySem.F.slot_dict_setdefault dd.typeIs PySem.F.entry_dict_setdefault (PySem.F.args_dict_setdefault_3 _ _ _) (kt_meets_setdefault (jb X.prog X.w) a (EX ry) hd fv) ⟨vs,dd,by lia,λv hv=>?_,λhn h' SG hs=>?_⟩
 ·have r:=A7.val k;rw[hv]at r
  cases ev:cW kvs k with
  | none=>rw[ev]at r;exact (show False from r).elim
  | some w =>
   rw[ev]at r;exact⟨w,H3,I3.tok _,r,g1 w ev⟩
 ·have r:=A7.val k;rw[hn]at r
  cases ev:cW kvs k with
  | some w=>rw[ev]at r;exact (show False from r).elim
  | none =>
   have hl:(iC kvs k z).length<=sizeLine:=by have:=kQ kvs k z;lia
   have MF:∃ q,h'.get? a=some q:=let ⟨q,_,_,hq,_⟩:=SG;⟨q,hq⟩;exact⟨z,_,BU I3 (by rw[ea];exact True.intro) hs MF (K9 hl hd (A7.put k rz) SG),rz,g2 ev⟩
end dI
namespace dI
open Spec Rows L2
end dI
namespace dI
open Spec Rows L2 jL CL
end dI
namespace iV
open Spec Rows PySem.W L2
section
variable {X:Cx} {o:Expr} {m:Str} {ps:List Str} {f C:Addr} {fd:FuncData} {k:Nat} {sp:Sp} {e:Expr} {es:List Expr} {ta:TE} {t:TA} {mq pos:Pos} {E:XK} {pl:Sem Bool}
theorem QZ{σ:L2.St}{H:Hp}{s:Shared}{Q:VK}{E':Value->Shared->Prop}(ho:PE X.HJ o ta)(c:DQ X.K C)(hm:Kx X.K C m f)(hb:Binds X.K fd ps [])(G:aF X.prog X.w X.K X.mg X.zt (O8 X.prog X.w) k f fd ps sp)(hr:kH k X.A)(ha:PA X.HJ (e::es) t)(I:Inv X ak σ H s)
  (h:ta σ H λx H1=>∃ a dx fs,x=.ref a/\H1 a=some (.ins C dx fs)/\fs.lookup m=none/\t σ H1 λvs H2=>sp (x::vs) H2 Q E) (hE:∀ H1 s1 e s',Inv X ak σ H1 s1->O8 X.prog X.w X.stack H1 s1 E e s'->E' e s')
  (he:starEach (e::es) X.env=(false,eval e X.env)::starEach es X.env) (BP:(backTo pos (starEach es X.env)).any (·.1)=false)
  (ht:eval (.Call (.Attribute o m mq) (e::es) [] pos) X.env=(do
   let ov ← eval o X.env
   standAt mq.atName
   let (f,first) ← holding [ov] (getMethod ov m pl)
   callWith pos f first (backTo pos (starEach (e::es) X.env)) (backToKw pos (keywordEach [] X.env)))):wpAny (model X.prog X.w) X.A (eval (.Call (.Attribute o m mq) (e::es) [] pos) X.env) (EP X ak σ Q) E' s:=by
 refine methodCall_KW (pl:=pl) (wpAny_mono (ho ak s σ H _ (I.Bs _) h) (λu s1 ⟨x,H1,I1,rx,a,dx,fs,ex,ea,l,q⟩=>?_) λ_ _ z=>False.elim z) ht;subst ex;obtain rfl:u=Value.ref a:=rx;have I1:=I1.rm;refine yh I1 ea c hm l ?_
 refine callWith_K (first:=[.ref a]) (h₀:=X.zt) I.ok.mod.YJ hm.kp (wpAny_mono (ha pos ak s1 σ H1 _ (I1.Bs _) q) (λus s2 ⟨vs,H2,I2,r,q2⟩=>⟨I2.rm.yS,?_⟩) λ_ _ z=>False.elim z) he BP
 have I2:=I2.rm;have r2:cF (.ref a::vs) (Value.ref a::us):=.cons rfl r;have hl:((Value.ref a::us)++[]).length=ps.length:=by rw[jo,← r2.length];exact G.len _ _ _ _ q2
 have B:=hb s2 (.ref a::us) I2.yS hl;rw[jo]at B;refine wpAny_call (codeAny_mono (G.run X.A X.stack s2 H2 ⟨.ref a::us,[]⟩ (.ref a::us) (.ref a::vs) Q E hr I2.Xc B r2 q2) λr s' hq=>?_)
 cases r with
 | error e=>exact hE H2 s2 e s' I2 hq
 | ok fl =>
  cases fl with
  | ret u=>exact I2.after hq
  | next=>exact False.elim hq
  | brk=>exact False.elim hq
  | cont=>exact False.elim hq
end
section
variable {X:Cx} {ak:List (Addr × Obj)} {σ:L2.St} {H:Hp} {s:Shared} {a:Addr}
def aad(i:Nat)(B:Addr)(m:Str)(sp:Sp)(ta:TE)(t:TA)(C:Addr)(tb:TS):TS:=λD σ H=>ta σ H λx H1=>∃ a dx fs,x=.ref a/\H1 a=some (.ins B dx fs)/\fs.lookup m=none/\t σ H1 λvs H2=>sp (x::vs) H2 (λv H3=>D.nx (σ.set i (some v)) H3) (λc _ H3=>c=.ref C/\tb D σ H3)
variable {o:Expr} {m y y2:Str} {ps:List Str} {f B:Addr} {fd:FuncData} {k:Nat} {sp:Sp} {e:Expr} {es:List Expr} {ta:TE} {t:TA} {mq pos XJ Il XM np Uc nq aiX:Pos} {C C1 C2 Cy Cz:Addr} {b0 c0:Stmt} {EV adT:List Stmt} {tb tc:TS} {pl:Sem Bool}
theorem Uv{i:Nat}{z:Str}(hN:X.N.Nodup)(hi:X.N[i]?=some z)(hz:Loc X.env.scope z)(ho:PE X.HJ o ta)(c:DQ X.K B)(hm:Kx X.K B m f)(E8:Binds X.K fd ps [])(G:aF X.prog X.w X.K X.mg X.zt (O8 X.prog X.w) k f fd ps sp)(hr:kH k X.A)(ha:PA X.HJ (e::es) t)(hmy:X.mg y=some (.ref Cy))(hx:exmOne X.K (.ref C) (.ref Cy)=some true)
  (hb:∀ a,Hg (XG X a) (b0::EV) tb) (zV:X.stack=X.env::X.zn:=by rfl) (hf:X.env.frame=some X.env.locals:=by rfl) (hgy:Gl X y:=by rfl) (hdy:(y == ("__debug__":Str))=false:=by decide)
  (he:starEach (e::es) X.env=(false,eval e X.env)::starEach es X.env:=by rfl) (BP:(backTo pos (starEach es X.env)).any (·.1)=false:=by rfl)
  (ht:eval (.Call (.Attribute o m mq) (e::es) [] pos) X.env=(do
   let ov ← eval o X.env
   standAt mq.atName
   let (f,first) ← holding [ov] (getMethod ov m pl)
   callWith pos f first (backTo pos (starEach (e::es) X.env)) (backToKw pos (keywordEach [] X.env))):=by rfl)
  (hs:swapsWith (.Call (.Attribute o m mq) (e::es) [] pos) (some (.Name z XM)) XJ.line X.env=pure false:=by rfl) (Zf:X.fn z=true\/X.env.scope.names.lookup z=some .local:=by first|exact .inl rfl|exact .inr rfl) :
  PS X (.Try [.Assign [.Name z XM] (.Call (.Attribute o m mq) (e::es) [] pos) XJ] [.ExceptHandler (some (.Name y np)) none (b0::EV) Uc] [] [] Il) (aad i B m sp ta t C tb):=by
 intro ak s σ H D I h;refine wpAny_Try_except (wpAny_execs_cons (wpAny_Assign_Name (dD (QZ (pl:=pl) ho c hm E8 G hr ha I h (λH1 s1 e s' I1 z=>?_) he BP ht) λv s1 ⟨y,H1,I1,r1,q1⟩=>?_) hs))
 ·exact XH zV hf hmy hx hb hgy hdy I1 z
 ·exact yU I1 hN hi hz r1 (λs2 I2=>wpAny_execs_nil (wpAny_execs_nil ⟨_,H1,I2,q1⟩)) Zf
end
end iV
namespace dI
open Spec Rows L2 iV
def E9(c:Nat):V:=.str ⟨#[c]⟩
def iU(cs:List Nat):Str:=⟨cs.toArray⟩
theorem yr(x:Str):iU x.cps.toList=x:=by cases x;rfl
theorem uP(cs:List Nat):(iU cs).length=cs.length:=by show (cs.toArray).size=_;simp
theorem Uw{a b:List Nat}(h:iU a=iU b):a=b:=by
 have e:=congrArg (λx:Str=>x.cps.toList) h;simpa [iU] using e
theorem MN:∀ {cs:List Nat} {us:List Value},cF (cs.map E9) us->StrsAre us (cs.map λc=>(⟨#[c]⟩:Str))
 | [],_,.nil=>.nil
 | c::cs,_,.cons ⟨t,e⟩ r=>by
  subst e;exact .cons _ t (MN r)
theorem Lh(cs:List Nat):Txt.join (Str.ofString "") (cs.map λc=>(⟨#[c]⟩:Str))=iU cs:=by
 have e:Txt.join (Str.ofString "") (cs.map λc=>(⟨#[c]⟩:Str))=Str.join (Str.ofString "") (cs.map λc=>(⟨#[c]⟩:Str)):=by
  have z:=join_plain_closes (Str.ofString "") (cs.map λc=>(⟨#[c]⟩:Str));exact beq_iff_eq.mp z
 rw[e];have em:(Str.ofString "")=(⟨#[]⟩:Str):=by decide +kernel
 rw[em];clear e em
 induction cs with
 | nil=>rfl
 | cons c cs ih =>
  cases cs with
  | nil=>rfl
  | cons d cs =>
   rw[oJ]at ih;have s:Str.join ⟨#[]⟩ ((c::d::cs).map λc=>(⟨#[c]⟩:Str))=Str.append (Str.append ⟨#[c]⟩ ⟨#[]⟩) (Str.join ⟨#[]⟩ ((⟨#[d]⟩:Str)::cs.map λc=>(⟨#[c]⟩:Str))):=rfl;rw[s,ih];show (⟨(#[c]++#[])++(d::cs).toArray⟩:Str)=⟨(c::d::cs).toArray⟩;simp
theorem Fb:∀ cs:List Nat,(cs.map ((λx:Str=>x.length) ∘ λc=>(⟨#[c]⟩:Str))).sum=cs.length
 | []=>rfl
 | c::cs=>by rw[oJ,List.sum_cons,Fb cs,qE];show 1+_=_;lia
theorem all_range:∀ bs:List Bool,(List.range bs.length).all (λi=>bs.getD i false)=bs.all id
 | []=>rfl
 | b::bs=>by
  rw[qE,List.range_succ_eq_map,List.all_cons,List.all_map,List.all_cons,← all_range bs];rfl
section
variable {X:Cx}
theorem D7(hc:X.calm=true):pS X (.type "list") (λxs H Q=>∃ cs:List Nat,xs=[.str (iU cs)]/\cs.length<=sizeLine/\∀ l,H l=none->Q (.ref l) (aO H l (.lst (cs.map E9)))):=by
 intro ak s σ H xs us Q I r h;obtain⟨cs,rfl,hz,q⟩:=h;obtain⟨u,rfl,t,rfl⟩:=r.one;refine call_list_str (I.ok.hd hc) (iU cs) t (hn:=by show cs.toArray.size<=_;simpa using hz) λh' tk vD c' hk hS dh=>?_;refine⟨.ref s.heap.objs.size,_,I.laid (o:=.lst (cs.map E9)) (t':=tk) hk (ja _) ⟨by rw[cR];exact hz,vD.toList,c',?_,by simpa using hS⟩,rfl,q _ (I.hok.fresh (ja _))⟩
 have key:∀ (cs:List Nat) (us:List Value),us.length=cs.length->(∀ (j:Nat) (v:Value),us[j]?=some v->∃ c u,cs[j]?=some c/\v=Value.str ⟨#[c]⟩ u)->cF (cs.map E9) us:=by
  intro cs
  induction cs with
  | nil=>intro us hl _;cases us with
   | nil=>exact .nil
   | cons=>simp at hl
  | cons c cs ih=>intro us hl hp;cases us with
   | nil=>simp at hl
   | cons u us =>
    obtain⟨c',t',e1,e2⟩:=hp 0 u rfl;refine .cons ?_ (ih us (by simpa using hl) λj v e=>by simpa using hp (j+1) v (by simpa using e));have:c=c':=by simpa using e1
    subst this;exact⟨t',e2⟩
 refine key cs vD.toList (by have:=dh.1;simpa [iU] using this) λj v e=>?_;obtain⟨c,u,e1,e2⟩:=dh.2 j v (by simpa using e);exact⟨c,u,by simpa [iU] using e1,e2⟩
theorem Q0:YL X "str.join" (λx xs H Q=>∃ (l:Addr) (cs:List Nat),x=.str ""/\xs=[.ref l]/\H l=some (.lst (cs.map E9))/\cs.length<=1000000/\Q (.str (iU cs)) H):=by
 intro ak s σ H x xs v us Q I rx rs h;obtain⟨l,cs,rfl,rfl,hl,hz,q⟩:=h;obtain⟨t,rfl⟩:=rx;obtain⟨u,rfl,ru⟩:=rs.one;cases (show u=Value.ref l from ru);obtain⟨aQ,rv,pl,_⟩:=I.list (bQ.of (K:=X.K) hl);refine join_list pl.isList (MN rv) ?_ λt' k=>?_
 ·rw[List.map_map];have e1:(Str.ofString "").length=0:=by decide +kernel
  have e2:=Fb cs;rw[e1,e2];lia
 ·rw[Lh];exact⟨.str (iU cs),H,I.tok _,⟨t',rfl⟩,q⟩
theorem Oj(hc:X.calm=true):pS X (.builtin "all") (λxs H Q=>∃ (p:Addr) (bs:List Bool),xs=[.ref p]/\bQ X.K H p (bs.map V.bl)/\Q (.bl (bs.all id)) H):=by
 intro ak s σ H xs us Q I r h;obtain⟨p,bs,rfl,hq,q⟩:=h;obtain⟨u,rfl,rx⟩:=r.one;cases (show u=Value.ref p from rx);obtain⟨aQ,rv,pl,hz⟩:=I.list hq;have len:=rv.length;rw[cR]at len;have BP:=pl.isList
 have plt:p<s.heap.objs.size:=by
  obtain⟨o,ho,_⟩:=BP;exact Heap.lt_size ho
 refine call_all_walk (wpAny_pyIter_list BP ?_);refine⟨s.heap.objs.size,[s.heap.objs.size,p],[s.heap.objs.size],aQ.toArray.size,_,_,λi=>bs.getD i false,rfl,Walks.list (A:=X.A.in1) (I.ok.hd hc) s.heap.objs.size p (pR plt) aQ.toArray,⟨⟨_,Heap.get?_push_size _ rfl,rfl,rfl⟩,BP.at λo e=>Heap.get?_push_of_some _ e⟩,λi v s' Q' E' hP hQ=>?_,λh' tk hk=>?_⟩
 ·have hv:aQ[i]?=some v:=by simpa using hP
  obtain⟨x,ex,er⟩:=A9 rv hv;rw[kF]at ex;obtain⟨b,eb,rfl⟩:=Option.map_eq_some_iff.mp ex;cases (show v=Value.bool b from er);refine wpAny_truthy_bool ?_;have e:bs.getD i false=b:=by rw[List.getD_eq_getElem?_getD,eb];rfl
  have hQ':Q' (bs.getD i false) s':=hQ;rw[e]at hQ';exact hQ'
 ·have e:(List.range aQ.toArray.size).all (λi=>bs.getD i false)=bs.all id:=by
   rw[kC,← len];exact all_range bs
  rw[e];exact⟨.bl (bs.all id),H,I.kept λb o e=>hk b o (λz=>by rw[List.mem_singleton.mp z]at e;exact absurd (Heap.lt_size e) (Nat.lt_irrefl _)) (Heap.get?_push_of_some _ e),rfl,q⟩
def Q2(r r' r2:R2)(ta tb tc td:TE):TE:=fun σ H Q=>ta σ H λx H1=>tb σ H1 λy H2=>r x y H2 λz H3=>∃ k,z=.bl k/\
 (if k=true then tc σ H3 λu H4=>r' y u H4 λz' H5=>∃ k',z'=.bl k'/\(if k'=true then td σ H5 λv H6=>r2 u v H6 Q else Q (.bl false) H5) else Q (.bl false) H3)
theorem Ol{op J5 XQ:CmpOp}{r r' r2:R2}{a b c d:Expr}{ta tb tc td:TE}(ho:yM X (compareOp op) r)(Kl:yM X (compareOp J5) r')(ho2:yM X (compareOp XQ) r2)(ha:PE X a ta)(hb:PE X b tb)(hc:PE X c tc)(hd:PE X d td)
  (hm:lastMarks [op,J5,XQ] [b,c,d]=false:=by with_unfolding_all rfl):PE X (.Compare a [op,J5,XQ] [b,c,d] pos) (Q2 r r' r2 ta tb tc td):=by
 intro ak s σ H Q I h
 refine Compare_chain (dD (ha ak s σ H _ I h) λv s1 ⟨x,H1,I1,r1,q1⟩=>chain_link (dD (hb ak s1 σ H1 _ I1 q1) λu s2 ⟨y,H2,I2,r2',q2⟩ =>
  dD (ho ak s2 σ H2 x y v u _ I2 r1 r2' q2) λz s3 ⟨z',H3,I3,r3,k,e,q3⟩=>?_)) hm
 subst e;cases r3;refine wpAny_truthy_bool ?_
 cases k with
 | false=>exact ite_ff ⟨.bl false,H3,I3,rfl,q3⟩
 | true =>
  refine ite_tt (chain_link (dD (hc ak s3 σ H3 _ I3 q3) λv4 s4 ⟨x4,H4,I4,r4,q4⟩=>dD (Kl ak s4 σ H4 y x4 u v4 _ I4 r2' r4 q4) λz5 s5 HG=>?_));obtain⟨x5,H5,I5,r5,k5,e5,q5⟩:=HG;subst e5;cases r5;refine wpAny_truthy_bool ?_
  cases k5 with
  | false=>exact ite_ff ⟨.bl false,H5,I5,rfl,q5⟩
  | true=>exact ite_tt (chain_last (dD (hd ak s5 σ H5 _ I5 q5) λv6 s6 ⟨x6,H6,I6,r6,q6⟩=>ho2 ak s6 σ H6 x4 x6 v4 v6 Q I6 r4 r6 q6))
end
def Its(cs:List Nat):It:=⟨λi _=>i<cs.length,λi H x H'=>H'=H/\∃ c,cs[i]?=some c/\x=E9 c,λi _=>i=cs.length⟩
theorem IF{P:Program}{w:World}{K:PySem.W.Frag}{it:Addr}{cs:List Nat}{t:Tok}{ty:String}(W:∀ A':Around,A'.handled=none->Walks P w A' it [it] [it] (iU cs).cps.size (SignAt (iU cs)) (λi h=>h.IsStrIter it ty (iU cs) t i))
  (hs:∀ (A:Around) (i:Nat) (s:Shared) (Q:Value->Shared->Prop) (E:Value->Shared->Prop),s.heap.IsStrIter it ty (iU cs) t i->Q (.ref it) s->wpAny (model P w) A (pyIter (.ref it)) Q E s)
  (hn:["enumerate","zip","dict_itemiterator","dict_reverseitemiterator","odict_iterator","itertools.zip_longest","itertools.pairwise"].contains ty=false):Kp P w K tg (Its cs) [it] it (λi h=>h.IsStrIter it ty (iU cs) t i) where
 mem:=by simp
 obj:=λi h st b hb=>by
  have e:b=it:=by simpa using hb
  subst e;obtain⟨o,e,c,d⟩:=st;exact⟨o,e,λv z=>by rw[d]at z;cases z⟩
 keep:=λi h h' st k=>by
  obtain⟨o,e,r⟩:=st;exact⟨o,k it (by simp) o e,r⟩
 item:=by
  intro X hP hw hK hc i ak s σ H E I hf st hg;subst hP hw hK;obtain⟨f0,f1,f2,f3,f4,f5⟩:=hf it (by simp)
  have hi:i<(iU cs).cps.size:=by
   show i<cs.toArray.size;rw[kC];exact hg
  refine (W X.A (I.ok.hd hc)).item i s _ _ hi st λv h' tk hv J4 kk=>?_;obtain⟨c,u,ec,rfl⟩:=hv;have I1:Inv X ak σ H { s with heap:=h',toks:=tk }:=I.turned (λb o hb e=>kk b o (by simpa using hb) e) f0 f1 f3 f4 f5;obtain⟨oi,ei,ci,di⟩:=id J4;exact⟨_,rfl,Mb (s:={ s with heap:=h',toks:=tk }) ei ci di hn ⟨E9 c,H,I1,⟨u,rfl⟩,⟨rfl,c,by simpa [iU] using ec,rfl⟩,J4,λb hb=>(hf b hb).1⟩⟩
 done:=by
  intro X hP hw hK hc i ak s σ H E I hf st hg;subst hP hw hK;obtain⟨f0,f1,f2,f3,f4,f5⟩:=hf it (by simp)
  have e:i=(iU cs).cps.size:=by
   show i=cs.toArray.size;rw[kC];exact hg
  rw[e]at st;exact (W X.A (I.ok.hd hc)).done s _ _ st λh' tk kk=>⟨rfl,I.turned (λb o hb e=>kk b o (by simpa using hb) e) f0 f1 f3 f4 f5⟩
 self:=hs
def adV(tl:TE):TI:=fun σ H R=>tl σ H λx H1=>∃ cs,x=.str (iU cs)/\R (Its cs) H1
theorem X3{X:Cx}{l:Expr}{tl:TE}(hl:PE X l tl):PI X tg l (adV tl):=by
 intro ak s σ H R I h;refine dD (hl ak s σ H _ I h) λv s1 HH=>?_;obtain⟨x,H1,I1,r1,q1⟩:=HH;obtain⟨cs,e,q⟩:=q1;subst e;obtain⟨t,rfl⟩:=r1
 have fp:∀ b∈[s1.heap.objs.size],vB X ak H1 b:=λb hb=>by
  have e:b=s1.heap.objs.size:=by simpa using hb
  subst e;exact I1.NJ (ja _) (I1.hok.fresh (ja _))
 cases ha:(iU cs).cps.all (·<128) with
 | true=>exact wpAny_pyIter_ascii ha ⟨s1.heap.objs.size,[s1.heap.objs.size],_,_,H1,rfl,I1.kept (t':=s1.toks) λb o e=>Heap.get?_push_of_some _ e,IF (t:=t) (λA' hA=>Walks.strAscii hA _ _ t) (λ_ _ _ _ _ st h=>wpAny_pyIter_striter_ascii st h) (by decide),⟨_,Heap.get?_push_size _ rfl,rfl,rfl⟩,fp,q⟩
 | false=>exact wpAny_pyIter_wide ha ⟨s1.heap.objs.size,[s1.heap.objs.size],_,_,H1,rfl,I1.kept (t':=s1.toks) λb o e=>Heap.get?_push_of_some _ e,IF (t:=t) (λA' hA=>Walks.strWide hA _ _ t) (λ_ _ _ _ _ st h=>wpAny_pyIter_striter_wide st h) (by decide),⟨_,Heap.get?_push_size _ rfl,rfl,rfl⟩,fp,q⟩
theorem Om{cs:List Nat}{g:TG}{tt:TT}{te:TE}{σ0:L2.St}{H:Hp}{Q:VK}(Pv:Nat->L2.St->Hp->Prop)(h0:Pv 0 σ0 H)
  (hs:∀ (i:Nat) c σ H,cs[i]?=some c->Pv i σ H->g (E9 c) σ H fun σ2 H2=>tt σ2 H2 λb H3=>if b=true then te σ2 H3 λv H4=>∃ ys,H4 acc=some (.lst ys)/\ys.length<sizeLine/\Pv (i+1) σ2 (aO H4 acc (.lst (ys++[v]))) else Pv (i+1) σ2 H3)
  (hd:∀ σ H,Pv cs.length σ H->Q (.ref acc) H):BV (Its cs) acc g tt te σ0 H Q:=by
 refine⟨λi m σ H=>m=cs.length-i/\i<=cs.length/\Pv i σ H,⟨cs.length,by simp,Nat.zero_le _,h0⟩,?_⟩;rintro i m σ H ⟨rfl,hi,p⟩;by_cases vQ:i<cs.length
 ·refine .inr ⟨vQ,Pv (i+1),fun σ' H' p'=>⟨cs.length-(i+1),by lia,rfl,vQ,p'⟩,λx H' y=>?_⟩;obtain⟨e,c,y,ex⟩:=y;subst e ex;exact hs i c σ _ y p
 ·have e:i=cs.length:=by lia
  subst e;exact .inl ⟨rfl,hd σ H p⟩
end dI
namespace dI
open Spec Rows L2 iV jL
section
variable {X:Cx}
theorem Gg(a b:List Nat):iU a++iU b=iU (a++b):=by
 show (⟨a.toArray++b.toArray⟩:Str)=⟨(a++b).toArray⟩;simp
end
end dI
namespace yt
end yt
namespace yt
open Spec Rows
end yt
namespace yt
open Spec Rows
end yt
namespace yt
open Spec Rows
end yt
namespace yt
open Spec Rows
end yt
namespace yt
open Spec Rows
end yt
namespace yt
open Spec Rows
end yt
namespace yt
open Spec Rows L2
end yt
namespace mw
open Spec Rows L2 dI Builtin Builtin.Str
theorem zl(cs:List Nat):(iU cs).cps.toList=cs:=by simp[iU]
def jn(c:Nat):nJ->List Nat
 | []=>[]
 | [x]=>x
 | x::y::r=>x++c::jn c (y::r)
theorem Q3(c:Nat):∀ ps:nJ,Str.join ⟨#[c]⟩ (ps.map iU)=iU (jn c ps)
 | []=>rfl
 | [x]=>rfl
 | x::y::r=>by
  show iU x++⟨#[c]⟩++Str.join ⟨#[c]⟩ ((y::r).map iU)=_;rw[Q3 c (y::r)];refine ext_toList ?_;rw[zl];show ((iU x).cps++#[c]++(iU (jn c (y::r))).cps).toList=_;rw[Array.toList_append,Array.toList_append,zl,zl];simp[jn]
end mw
namespace mw
open Spec Rows L2 dI Builtin Builtin.Str
section
variable {X:Cx}
theorem Fc:∀ {ys:List Str} {us:List Value},cF (ys.map V.str) us->StrsAre us ys
 | [],_,.nil=>.nil
 | _::_,_,.cons r t=>by
  obtain⟨t',rfl⟩:=r;exact .cons _ t' (Fc t)
theorem IG:YL X "str.join" (λx xs H Q=>∃ (l:Addr) (c:Nat) (ps:nJ),x=.str ⟨#[c]⟩/\xs=[.ref l]/\H l=some (.lst (ps.map λw=>V.str (iU w)))/\(ps.map List.length).sum+ps.length<=1000000/\Q (.str (iU (jn c ps))) H):=by
 intro ak s σ H x xs v us Q I rx rs h;obtain⟨l,c,ps,rfl,rfl,hl,hz,q⟩:=h;obtain⟨t,rfl⟩:=rx;obtain⟨u,rfl,ru⟩:=rs.one;cases (show u=Value.ref l from ru);obtain⟨aQ,rv,pl,_⟩:=I.list (bQ.of (K:=X.K) hl);have rv':cF ((ps.map iU).map V.str) aQ:=by rw[List.map_map];exact rv
 refine join_list pl.isList (Fc rv') ?_ λt' k=>?_
 ·rw[List.map_map,cR];have e1:(⟨#[c]⟩:Str).length=1:=rfl;have e2:ps.map ((λx:Str=>x.length) ∘ iU)=ps.map List.length:=List.map_congr_left λp _=>uP p;rw[e1,e2];lia
 ·have e:Txt.join ⟨#[c]⟩ (ps.map iU)=iU (jn c ps):=by
   show glued _ _=_;rw[StrLaws.glued_eq_join,Q3]
  rw[e];exact⟨.str (iU (jn c ps)),H,I.tok _,⟨t',rfl⟩,q⟩
abbrev TJV:=L2.St->Hp->Str->(Str->Hp->Prop)->Prop
def YR(X:Cx)(es:List Expr)(m:Nat)(t:TJV):Prop:=∀ (ak:List (Addr × Obj)) (s:Shared) (σ:L2.St) (H:Hp) (Bu:Str) (Q:Str->Hp->Prop),L2.Inv X ak σ H s->t σ H Bu Q->Bu.length+m<=1000000->
 wpAny (model X.prog X.w) X.A (joinParts Bu (evalEach es X.env)) (λu s'=>∃ x tk H',u=.str x tk/\L2.Inv X ak σ H' s'/\Q x H') X.xe s
theorem Ux:YR X [] 0 (λ_ H Bu Q=>Q Bu H):=λak s σ H Bu Q I h hl =>
 joinParts_nil ⟨Bu,_,H,rfl,I.tok _,h⟩ (j9 (Nat.lt_of_le_of_lt hl (by decide)))
theorem Uy{x:Str}{j:Nat}{es:List Expr}{m:Nat}{t:TJV}(h:YR X es m t):YR X (.Constant (.str x) j pos::es) (x.length+m) (fun σ H Bu Q=>t σ H (Bu++x) Q):=by
 intro ak s σ H Bu Q I q hl;refine joinParts_consE (joinParts_cons (Calls.Constant_str ?_));have z:=iV.BS (y:=x) hl (ja _);exact⟨z.1,h ak _ σ H _ Q (I.tok _) q z.2⟩
theorem MO{e:Expr}{te:TE}{es:List Expr}{m:Nat}{t:TJV}(he:PE X e te)(h:YR X es m t):YR X (.FormattedValue e (-1) none pos::es) (1921+m) (fun σ H Bu Q=>te σ H λv H1=>∃ i:Int,v=.int i/\i.natAbs.log2<1920/\t σ H1 (Bu++Str.ofString (toString i)) Q):=by
 intro ak s σ H Bu Q I q hl;refine joinParts_consE (joinParts_cons (FormattedValue_plain (dD (he ak s σ H _ I q) λv s1 DX=>?_)));obtain⟨x,H1,I1,r1,i,e1,hi,q1⟩:=DX;subst e1;obtain⟨tk,rfl⟩:=r1;refine formatField_int_small hi ?_;have z:=iV.BS (y:=Str.ofString (toString i)) hl (int_text_len_1921 hi);exact⟨z.1,h ak _ σ H1 _ Q (I1.tok _) q1 z.2⟩
theorem Q4{vO:List Expr}{m:Nat}{t:TJV}(h:YR X (v1::v2::vO) m t)(hm:m<=1000000:=by decide +kernel):PE X (.JoinedStr (v1::v2::vO) pos) (fun σ H Q=>t σ H Str.empty λx H1=>Q (.str x) H1):=by
 intro ak s σ H Q I q;refine JoinedStr_many (dD (h ak s σ H Str.empty _ I q (by show 0+m<=_;lia)) λu s1 HC=>?_);obtain⟨x,tk,H1,e,I1,q1⟩:=HC;subst e;exact⟨.str x,H1,I1,⟨_,rfl⟩,q1⟩
end
end mw
namespace mw
open Spec Rows L2 dI Builtin Builtin.Str
end mw
namespace mw
open Spec Rows L2 dI Builtin Builtin.Str jL
def dg(n:Int):List Nat:=(Nat.toDigits 10 n.toNat).map Char.toNat
theorem BW{n:Int}(h:0<=n):Str.ofString (toString n)=iU (dg n):=by
 refine ext_toList ?_;rw[zl];obtain⟨m,rfl⟩:∃ m:Nat,n=(m:Int):=⟨n.toNat,by lia⟩;exact PySem.W.KIN.signs_num m
theorem Li{n:Int}(h0:0<=n)(h1:n<10^60):(dg n).length<=60:=by
 have:=toString_length_le h0 (k:=60) (by decide) h1;rw[BW h0,uP]at this;exact this
end mw
namespace Q5
open Spec Rows PySem.W L2 dI iV
end Q5
namespace Q5
open Spec Rows PySem.W L2 dI iV
end Q5
namespace mw
open Spec Rows L2 dI Builtin Builtin.Str jL
end mw
namespace Q5
open Spec Rows PySem.W L2 dI iV
end Q5
namespace II
open Spec Rows L2 dI iV jL
end II
namespace II
open Spec Rows L2 dI iV jL PySem.W
section
variable {X:Cx}
theorem aae{e:Expr}{te:TE}(he:PE X e te):PE X (.JoinedStr [.FormattedValue e (-1) none pos] mz) (fun σ H Q=>te σ H λv H1=>(∃ i:Int,v=.int i/\i.natAbs.log2<1920/\Q (.str (Str.ofString (toString i))) H1)\/∃ cs:List Nat,v=.str (iU cs)/\cs.length<=100000/\Q (.str (iU cs)) H1):=by
 intro ak s σ H Q I q;refine JoinedStr_one (FormattedValue_plain (dD (he ak s σ H _ I q) λv s1 DY=>?_));obtain⟨x,H1,I1,r1,h1⟩:=DY;rcases h1 with ⟨i,rfl,hi,q1⟩|⟨cs,rfl,hc,q1⟩
 ·obtain⟨tk,rfl⟩:=r1;exact formatField_int_small hi ⟨.str _,H1,I1.tok _,⟨_,rfl⟩,q1⟩
 ·obtain⟨tk,rfl⟩:=r1;exact formatField_str (λt' k=>⟨.str _,H1,I1.tok _,⟨_,rfl⟩,q1⟩) (by rw[uP];exact lJ hc (by decide))
end
end II
namespace II
open Spec Rows L2 dI iV jL mw Builtin Builtin.Str
end II
namespace II
open Spec Rows L2 dI Builtin Builtin.Str jL
end II
namespace iV
open Spec Rows PySem.W L2
section
variable {X:Cx} {ak:List (Addr × Obj)} {σ:L2.St} {H:Hp} {s:Shared} {a:Addr}
variable {x m:Str} {st:Stmt} {ps:List Str} {f C:Addr} {fd:FuncData} {j k:Nat} {sp:Sp} {e o:Expr} {es:List Expr} {ta:TE} {t:TA} {p mq pos:Pos} {pl:Sem Bool}
variable {te:TEx} {i:Nat} {z:Str} {mz:Pos} {c:Expr} {tc:TT} {tx ty:TSx} {a b:Stmt} {hs:List Hd}
theorem wU{y:Str}(d:jL.aC X.K X.mg x st ps f fd)(hm:X.mg y=some (.ref f))(G:aF X.prog X.w X.K X.mg X.zt bI k f fd ps sp)(hr:kH j X.A)
  (ha:PA X (e::es) t) (Xu:k<=j:=by first|decide|lia) (hg:Gl X y:=by rfl) (HL:(y == ("__debug__":Str))=false:=by decide) (he:starEach (e::es) X.env=(false,eval e X.env)::starEach es X.env:=by rfl)
  (BP:(backTo pos (starEach es X.env)).any (·.1)=false:=by rfl):PE X (.Call (.Name y p) (e::es) [] pos) (Mg sp [] E0 t) :=
 Mi G (hr.mono Xu) hg hm d.F.kp d.b .nil ck ha HL he BP
end
end iV
namespace uQ
open Spec Rows PySem.W L2 dI iV
end uQ
namespace uQ
open Spec Rows PySem.W L2 dI iV
open Builtin Builtin.ObjectAttr
end uQ
namespace uQ
open Spec Rows PySem.W L2 dI iV
open Builtin Builtin.ObjectAttr
end uQ
namespace uQ
open Spec Rows PySem.W L2 dI iV
end uQ
namespace uQ
open Spec Rows PySem.W L2 dI iV
open Builtin Builtin.ObjectAttr
end uQ
namespace uQ
open Spec Rows PySem.W L2 dI iV
end uQ
namespace uQ
open Spec Rows PySem.W L2 dI iV
end uQ
namespace uQ
open Spec Rows PySem.W L2 dI iV
end uQ
namespace uQ
open Spec Rows PySem.W L2 dI iV
end uQ
namespace uQ
open Spec Rows PySem.W L2 dI iV
end uQ
namespace jL
open Spec Rows L2 dI iV CL
theorem iW{N P:List Str}{sc:Scope}(a:sc.kind=.function:=by rfl)(b:sc.isCoroutine=false:=by rfl)(c:sc.isGenerator=false:=by rfl)(d:N.Nodup:=by decide +kernel)(e:N.take P.length=P:=by rfl)(f:∀ x∈P,sc.names.lookup x=some .local\/sc.names.lookup x=some .cell:=by decide +kernel)(g:∀ y∈sc.names,y.2≠.free:=by decide +kernel):aH N P sc:=⟨a,b,c,d,e,f,g⟩
section
variable {P:Program} {w:World} {K:PySem.W.Frag} {mg:Str->Option Value} {zt:Heap}
theorem jg{x dG:Str}{st:Stmt}{f:Addr}{N ps:List Str}{k:Nat}{sp:Sp}(F:iH K x dG st f fd)(S:aH N ps (aA st))
  (yW:∀ (dH:Value) (A:Around) (zn:List Env) (s:Shared) (H:Hp) (vs:List V) (Q:VK) (E:XK),kH k (A.deeper (envOfC dG (aA st) s.heap.objs.size f dH))->sp vs H Q E->
   ∃ t,Hg (HM bI P w K mg zt N dG (aA st) f dH A zn s H E).HJ (lM st) t/\t { nx:=λ_ H'=>Q .iZ H',rt:=Q } (L2.start N vs) H) (len:∀ vs H Q E,sp vs H Q E->vs.length=ps.length:=by intro _ _ _ _ h;cases h;subst_vars;rfl):aF P w K mg zt bI (k+1) f fd ps sp:=F.ok S len yW
theorem okY{x dG:Str}{st:Stmt}{f:Addr}{N ps:List Str}{k:Nat}{sp:Sp}(F:iH K x dG st f fd)(S:aH N ps (aA st))
  (yW:∀ (dH:Value) (A:Around) (zn:List Env) (s:Shared) (H:Hp) (vs:List V) (Q:VK) (E:XK),kH k (A.deeper (envOfC dG (aA st) s.heap.objs.size f dH))->sp vs H Q E->
   ∃ t,Hg (N8 P w K mg zt N dG (aA st) f dH A zn s H E) (lM st) t/\t { nx:=λ_ H'=>Q .iZ H',rt:=Q } (L2.start N vs) H) (len:∀ vs H Q E,sp vs H Q E->vs.length=ps.length:=by intro _ _ _ _ h;cases h;subst_vars;rfl):aF P w K mg zt (O8 P w) (k+1) f fd ps sp:=okX F S len yW
end
section
variable {X:Cx}
theorem bh{i:Nat}{x:Str}{e:Expr}{te:TE}{pos:Pos}(hN:X.N.Nodup)(he:PE X e te)(hi:X.N[i]?=some x:=by rfl)(hx:Loc X.env.scope x:=by first|exact Or.inl rfl|exact Or.inr rfl)(hs:swapsWith e (some (.Name x mz)) pos.line X.env=pure false:=by rfl)(hf:X.fn x=true\/X.env.scope.names.lookup x=some .local:=by first|exact .inl rfl|exact .inr rfl|assumption) :
  PS X (.Assign [.Name x mz] e pos) (Pz te (xF i)):=WV hN hi hx he hs hf
theorem cB{i:Nat}{x:Str}(hN:X.N.Nodup)(hi:X.N[i]?=some x:=by rfl)(hx:Loc X.env.scope x:=by first|exact Or.inl rfl|exact Or.inr rfl)(hf:X.fn x=true\/X.env.scope.names.lookup x=some .local:=by first|exact .inl rfl|exact .inr rfl|assumption):PG X (.Name x pos) (xF i):=To hN hi hx hf
theorem aX{r:R2}{a b:Expr}{ta tb:TE}(hr:Xh X r)(ha:PE X a ta)(hb:PE X b tb)(hs:Mr b:=by exact λ_ _=>rfl):PE X (.Subscript a b pos) (Zt r ta tb):=ZF hr ha hb hs
theorem kq{i:Expr}{td ty:TE}(hu:X.A.units+1<cLine)(ho:PE X o td)(hi:PE X i ty)(hs:XT i:=by exact λ_ _=>rfl):PE X (.Subscript o i pos) (VI td ty):=Uj hu ho hi hs
theorem jI{e:Expr}{te:TE}{p:Pos}(hm:X.mg "len"=none)(he:PE X e te)(hg:Gl X "len":=by rfl)(zV:starEach [e] X.env=(false,eval e X.env)::starEach [] X.env:=by rfl):PE X (.Call (.Name "len" p) [e] [] pos) (tCB (Xk X.K) (PV te Cm)):=cL F0 hg hm PySem.boot_len (aa he ah (hs:=zV)) (by decide) (by decide) zV rfl
variable {CX:O2} {j k:Nat} {f C fi:Addr} {fd:FuncData} {ps:List Str} {sp:Sp} {E:XK} {m cn q:Str} {st:Stmt} {pos mq:Pos} {e o:Expr} {es:List Expr} {ta:TE} {t:TA} {pl:Sem Bool}
theorem iy(he:PE X o ta)(c:ClsAt X.K X.mg cn C fi)(d:bN X.K C m q st ps f fd)(F:aF X.prog X.w X.K X.mg X.zt CX k f fd ps sp)(hr:kH j X.A)(hx:rD CX X E)(ha:PA X (e::es) t)(Xu:k<=j:=by first|decide|lia)
  (zV:starEach (e::es) X.env=(false,eval e X.env)::starEach es X.env:=by rfl) (BP:(backTo pos (starEach es X.env)).any (·.1)=false:=by rfl)
  (ht:eval (.Call (.Attribute o m mq) (e::es) [] pos) X.env=(do
   let ov ← eval o X.env
   standAt mq.atName
   let (f,first) ← holding [ov] (getMethod ov m pl)
   callWith pos f first (backTo pos (starEach (e::es) X.env)) (backToKw pos (keywordEach [] X.env))):=by rfl) :
  PE X (.Call (.Attribute o m mq) (e::es) [] pos) (Mh C m sp [] E ta t):=Tw he c.cl d.mt F (hr.mono Xu) d.b .nil hx ha zV BP ht
theorem iD(he:PE X o ta)(c:ClsAt X.K X.mg cn C fi)(d:bN X.K C m q st ps f fd)(F:aF X.prog X.w X.K X.mg X.zt CX k f fd ps sp)(hr:kH j X.A)(hx:rD CX X E)(Xu:k<=j:=by first|decide|lia)
  (ht:eval (.Call (.Attribute o m mq) [] [] pos) X.env=(do
   let ov ← eval o X.env
   standAt mq.atName
   let (f,first) ← holding [ov] (getMethod ov m pl)
   callWith pos f first (backTo pos (starEach [] X.env)) (backToKw pos (keywordEach [] X.env))):=by rfl) :
  PE X (.Call (.Attribute o m mq) [] [] pos) (Mh C m sp [] E ta Cm):=PY he c.cl d.mt F (hr.mono Xu) d.b .nil hx ht
end
theorem mF:0<=sizeLine:=by decide
theorem qv:1<=sizeLine:=by decide
theorem vW:2<=sizeLine:=by decide
theorem X4:3<=sizeLine:=by decide
theorem D8:4<=sizeLine:=by decide
theorem X5:5<=sizeLine:=by decide
theorem aaf:6<=sizeLine:=by decide
theorem yu{x:V}{r:List V}:vC (x::r) 0=some x:=gz (j:=0) rfl
theorem zm{x y:V}{r:List V}:vC (x::y::r) 1=some y:=gz (j:=1) rfl
theorem D9{x y z:V}{r:List V}:vC (x::y::z::r) 2=some z:=gz (j:=2) rfl
theorem Ea{x y z u:V}{r:List V}:vC (x::y::z::u::r) 3=some u:=gz (j:=3) rfl
theorem Uz{x y z u v:V}{r:List V}:vC (x::y::z::u::v::r) 4=some v:=gz (j:=4) rfl
theorem aag{x y z u v w:V}{r:List V}:vC (x::y::z::u::v::w::r) 5=some w:=gz (j:=5) rfl
end jL
set_option Elab.async false
set_option linter.all false
set_option maxRecDepth 100000
namespace jL
open L2 dI iV CL XY
structure nI(mg:Str->Option Value):Prop where
 jh:mg "len"=none
 nh:mg "list"=none
 MP:mg "tuple"=none
 VN:mg "int"=none
 Lj:mg "bool"=none
 VO:mg "str"=none
 mR:mg "range"=none
 aah:mg "zip"=none
 dR:mg "isinstance"=none
 VP:mg "sum"=none
 MQ:mg "min"=none
 Fd:mg "max"=none
 aai:mg "all"=none
 IJ:mg "enumerate"=none
 tV:∀ f,mg "size"=some (.ref f)->mg "size_spans"=some (.ref f)
 vX:∀ f,mg "shown"=some (.ref f)->mg "shown_weave"=some (.ref f)
 Bv:∀ f,mg "places"=some (.ref f)->mg "places_spans"=some (.ref f)
section
variable {P:Program} {w:World} {K:PySem.W.Frag} {mg:Str->Option Value} {zt:Heap}
theorem Lk:aH ["_law_script"] ["_law_script"] (aA Aa):=iW
theorem Ll{f:Addr}(F:iH K "_law_src" "_law_src" Aa f fd)(T:nI mg):aF P w K mg zt bI 1 f fd ["_law_script"] (VD K):=by
 refine jg F Lk λdH A zn s H vs Q E hr h=>?_;obtain⟨a,ns,rfl,hS,k⟩:=h;refine⟨_,(au (aN (bO (aa (gJ jP rfl T.nh xX (aa (mC qF (pv 0) sO (mL ay)) ah)) (aa ay (aa ay (aa ay ah))))))),?_⟩;refine⟨_,rfl,_,rfl,a,_,rfl,hS,λp hp=>?_⟩;refine⟨p,_,rfl,.inl (bQ.of af),λc hc=>?_⟩;refine⟨D8,λl hl=>?_⟩;obtain⟨ms,em⟩:=QB ns none (some 63);have J7:c≠l:=az (H:=aO (aO H p _) c _) af hl;have s1:aM H (aO H p (.lst (pU (ns.map V.int) none (some 63)))):=ao hp _;have s2:=s1.trans (ao hc (.lst (pU (ns.map V.int) none (some 63))));refine k l c _ ⟨J7,ms,0,0,1,af,?_,by decide,by decide,by decide⟩ (s2.trans (ao hl _)) (s2.free hl) (s1.free hc);rw[aK J7,af,em]
theorem sZ:aH ["_law_src_here","_law_base","_law_cell","_law_digit"] ["_law_src_here","_law_base"] (aA jq):=iW
theorem jN{f:Addr}(F:iH K "_law_next" "_law_next" jq f fd)(T:nI mg):aF P w K mg zt bI 1 f fd xo tT:=by
 refine jg F sZ λdH A zn s H vs Q E hr h=>?_;obtain⟨l,c,b,rfl,S,hb0,MR,k⟩:=h;refine⟨_,(aj (KZ (t':=Xw) (bU (bq jz (aX bW (pv 0) ay) ay (bC _)) (aj (bh (i:=2) sZ.nd ay) (aj (KZ (t':=Xx) (bU (bq rB (aX bW (pv 0) ay) (jI T.jh (aX bW (pv 0) ay)) (bC _)) (aj (bh (i:=2) sZ.nd (aX bW (aX bW (pv 0) ay) (aX bW (pv 0) ay))) (au (uI (bz eT (aX bW (pv 0) ay) ay) (yb (pv 0) ay rF)))) br) ?b2) (aj (uI (bz Cg (bz eT (bz eT (bz Ks (aX bW (pv 0) ay) ay) (bz Cg (pv 2) ay)) ay) ay) (yb (pv 0) ay rF)) (au (bU (bq PN (pv 2) (bz PF ay ay) (bC _)) (au (uI (pv 2) (yb (pv 0) ay rF))) br))))) br) ?b1) (aj (bU (bq PM (aX bW (pv 0) ay) ay (bC _)) (aj (bh (i:=3) sZ.nd (bz Cg (aX bW (pv 0) ay) (pv 1))) (aj (uI (bz HX (aX bW (pv 0) ay) (pv 1)) (yb (pv 0) ay rF)) (au (aN (pv 3))))) br) (au (aN (bz Cg (bz HX (bz Cg (bz Ks (aX bW (pv 0) ay) ay) ay) ay) (pv 1)))))),?_⟩
 case b2 =>
  rintro D σ H ⟨l,c,b,rfl,⟨J7,ns,i,d,r,hl,hc,hi,Ba,hr1⟩,k⟩;refine⟨_,rfl,l,_,_,_,rfl,rfl,bQ.of hl,Xv,_,rfl,l,_,_,_,rfl,rfl,bQ.of hl,ZR,c,_,rfl,.inl (bQ.of hc),_,_,rfl,rfl,_,rfl,?_⟩;refine dN (λc2=>?_) (λc2=>?_)
  ·have c3:i<(ns.length:Int):=by
    have z:=of_decide_eq_true c2;rwa [cR]at z
   obtain⟨v,hv⟩:=T3 hi c3;refine⟨_,rfl,l,_,_,_,rfl,rfl,bQ.of hl,ZR,_,rfl,l,_,_,_,rfl,rfl,bQ.of hl,Xv,c,_,_,_,rfl,rfl,bQ.of hc,hv,?_⟩;refine⟨_,rfl,l,_,_,_,rfl,rfl,bQ.of hl,Xv,_,_,rfl,rfl,_,rfl,l,_,_,1,rfl,rfl,hl,rfl,?_⟩;exact k v _ ⟨J7,ns,i+1,d,r,af,by rw[aK J7];exact hc,by lia,Ba,hr1⟩ λa ha=>aK ha
  ·exact k 7 H ⟨J7,ns,i,d,r,hl,hc,hi,Ba,hr1⟩ λa _=>rfl
 case b1 =>
  rintro D σ H ⟨l,c,b,rfl,S,k⟩;obtain⟨J7,ns,i,d,r,hl,hc,hi,Ba,hr1⟩:=id S;refine⟨_,rfl,l,_,_,_,rfl,rfl,bQ.of hl,TZ,_,_,rfl,rfl,_,rfl,?_⟩;refine dN (λc1=>?_) (λc1=>?_)
  ·refine⟨l,c,b,rfl,S,λcell H1 S1 k1=>?_⟩;obtain⟨_,ns1,i1,d1,r1,KQ,YS,hi1,MS,Oo⟩:=id S1;refine⟨_,rfl,l,_,_,_,rfl,rfl,bQ.of KQ,ZS,_,_,rfl,rfl,.inl ⟨by lia,by lia⟩,_,rfl,_,_,rfl,rfl,(by show (0:Int)<998244353;decide),_,_,rfl,rfl,_,_,rfl,rfl,_,_,rfl,rfl,(by show (0:Int)<2147483647;decide),_,rfl,l,_,_,3,rfl,rfl,KQ,rfl,?_⟩;refine⟨_,rfl,_,_,rfl,rfl,⟨by decide,by decide,by decide⟩,_,_,rfl,rfl,_,rfl,?_⟩;have b0:0<=(r1*48271+cell % 998244353+1) % 2147483647:=Int.emod_nonneg _ (by decide);have b1:(r1*48271+cell % 998244353+1) % 2147483647<2147483647:=Int.emod_lt_of_pos _ (by decide);refine dN (λc2=>?_) (λc2=>?_)
   ·refine⟨_,rfl,_,rfl,l,_,_,2,rfl,rfl,af,rfl,?_⟩;refine k _ _ ⟨J7,ns1,i1,cell,_,af,?_,hi1,b0,b1⟩ λa ha=>?_
    ·rw[aK J7,aK J7];exact YS
    ·rw[aK ha,aK ha];exact k1 a ha
   ·refine k _ _ ⟨J7,ns1,i1,d1,_,af,?_,hi1,b0,b1⟩ λa ha=>?_
    ·rw[aK J7];exact YS
    ·rw[aK ha];exact k1 a ha
  ·exact k none H S λa _=>rfl
 refine⟨l,c,b,rfl,S,λcell H1 S1 k1=>?_⟩;obtain⟨J7,ns,i,d,r,hl,hc,hi,Ba,hr1⟩:=S1;refine⟨_,rfl,l,_,_,_,rfl,rfl,bQ.of hl,TZ,_,_,rfl,rfl,_,rfl,?_⟩;refine dN (λc1=>?_) (λc1=>?_)
 ·refine⟨_,rfl,l,_,_,_,rfl,rfl,bQ.of hl,TZ,_,rfl,_,_,rfl,rfl,hb0,?_⟩;refine⟨_,rfl,l,_,_,_,rfl,rfl,bQ.of hl,TZ,_,rfl,_,_,rfl,rfl,⟨hb0,MR⟩,_,rfl,l,_,_,2,rfl,rfl,hl,rfl,?_⟩;refine⟨_,rfl,?_⟩;refine k (d % b) _ (Int.emod_nonneg _ (by lia)) (Int.emod_lt_of_pos _ hb0) ⟨J7,ns,i,d / b,r,af,?_,hi,Ba,hr1⟩ λa ha=>?_
  ·rw[aK J7];exact hc
  ·rw[aK ha];exact k1 a ha
 ·refine⟨_,rfl,l,_,_,_,rfl,rfl,bQ.of hl,ZS,_,_,rfl,rfl,.inl ⟨by lia,by lia⟩,_,_,rfl,rfl,(by show (0:Int)<2147483399;decide),_,_,rfl,rfl,⟨by decide,by decide⟩,_,rfl,_,_,rfl,rfl,hb0,?_⟩;exact k _ _ (Int.emod_nonneg _ (by lia)) (Int.emod_lt_of_pos _ hb0) ⟨J7,ns,i,d,r,hl,hc,hi,Ba,hr1⟩ k1
theorem Gh:aH ["_law_found"] ["_law_found"] (aA jM):=iW
theorem vY:aH ["_law_found","_law_due","_law_one","_law_other"] ["_law_found","_law_due"] (aA mY):=iW
theorem Gi{f:Addr}(F:iH K "_law_whole" "_law_whole" jM f fd)(T:nI mg):aF P w K mg zt bI 1 f fd Kc MD:=by
 refine jg F Gh λdH A zn s H vs Q E hr h=>?_;obtain⟨i,rfl,k⟩:=h;refine⟨_,(au (aN (vP (cL gf rfl T.dR Bq (aa (pv 0) (aa (vj rfl T.VN PyProof.Rows.boot_int) ah))) (ya (WQ (cL gf rfl T.dR Bq (aa (pv 0) (aa (vj rfl T.Lj PyProof.Rows.boot_bool) ah)))))))),?_⟩;exact⟨_,rfl,_,_,_,_,rfl,pT.int i,ZV K,_,rfl,mD ⟨_,rfl,_,_,_,_,rfl,pT.int i,ZU K,_,rfl,k⟩⟩
theorem Eb{f fW:Addr}{n:Nat}(T:nI mg)(dz:aC K mg "_law_whole" jM Kc fW MT)(IK:aF P w K mg zt bI 1 fW MT Kc MD)
  (cZ:aC K mg "_law_same" mY B3 f fd) (nj:aF P w K mg zt bI (n+1) f fd B3 (yp n)):aF P w K mg zt bI (n+2) f fd B3 (yp (n+1)):=by
 refine cZ.F.ok vY (λvs H Q E h=>?_) (λdH A zn s H vs Q E hr h=>?_)
 ·obtain⟨x,y,rfl,_⟩:=h;rfl
 obtain⟨x,y,rfl,h,k⟩:=h;refine⟨_,(aj (bU (FQ (Km (pv 1))) (au (aN (Px (Km (pv 0))))) br) (aj (bU (tR (cL gf rfl T.dR Bq (aa (pv 1) (aa (vj rfl T.Lj PyProof.Rows.boot_bool) ah)))) (au (aN (vP (cL gf rfl T.dR Bq (aa (pv 0) (aa (vj rfl T.Lj PyProof.Rows.boot_bool) ah))) (ya (sN ig (pv 0) (pv 1) (bC _)))))) br) (aj (bU (tR (cL gf rfl T.dR Bq (aa (pv 1) (aa (vj rfl T.VN PyProof.Rows.boot_int) ah)))) (au (aN (vP (aG dz IK hr (aa (pv 0) ah)) (ya (sN ig (pv 0) (pv 1) (bC _)))))) br) (aj (bU (tR (cL gf rfl T.dR Bq (aa (pv 1) (aa (vj rfl T.VO PyProof.Rows.boot_str) ah)))) (au (aN (vP (cL gf rfl T.dR Bq (aa (pv 0) (aa (vj rfl T.VO PyProof.Rows.boot_str) ah))) (ya (sN ig (pv 0) (pv 1) (bC _)))))) br) (aj (bU (PW.pt (HF (bq PL (cL gf rfl T.dR Bq (aa (pv 1) (aa (vj rfl T.nh xX) ah))) (cL gf rfl T.dR Bq (aa (pv 0) (aa (vj rfl T.nh xX) ah))) (bC _)) (FT (bq PL (cL gf rfl T.dR Bq (aa (pv 1) (aa (vj rfl T.MP PyProof.Rows.boot_tuple) ah))) (cL gf rfl T.dR Bq (aa (pv 0) (aa (vj rfl T.MP PyProof.Rows.boot_tuple) ah))) (bC _))))) (au (aN vh)) br) (aj (bU (bq PL (jI T.jh (pv 0)) (jI T.jh (pv 1)) (bC _)) (au (aN vh)) br) (aj (ie PassesOwn.never rfl (Xs rfl T.aah (aa (pv 0) (aa (pv 1) ah))) (rA (n:=2) rfl (bZ (cB (i:=2) vY.nd) (bZ (cB (i:=3) vY.nd) jO))) (au (bU (qq (tR (aG cZ nj hr (aa (pv 2) (aa (pv 3) ah))))) (au (aN vh)) br))) (au (aN vh))))))))),?_⟩;have kk:=k H (aM.refl H);rcases h with ⟨hf,rfl⟩|⟨kd,a,b,xs,ys,rfl,rfl,h1,h2,hl,hi⟩
 ·cases x with
  | iZ =>
   refine⟨_,rfl,_,rfl,dN (λ_=>?_) (λc=>absurd (decide_eq_true rfl) c)⟩;exact⟨_,rfl,tt rfl kk⟩
  | bl v =>
   refine⟨_,rfl,_,rfl,dN (λc=>absurd (of_decide_eq_true c) (λz=>nomatch z)) (λ_=>?_)⟩;refine⟨_,rfl,_,_,_,_,rfl,pT.bl v,ZT K,_,rfl,mD ?_⟩;exact⟨_,rfl,_,_,_,_,rfl,pT.bl v,ZT K,_,rfl,mD ⟨_,rfl,_,rfl,rfl,tt rfl kk⟩⟩
  | int i =>
   refine⟨_,rfl,_,rfl,dN (λc=>absurd (of_decide_eq_true c) (λz=>nomatch z)) (λ_=>?_)⟩;refine⟨_,rfl,_,_,_,_,rfl,pT.int i,ZU K,_,rfl,jK ?_⟩;refine⟨_,rfl,_,_,_,_,rfl,pT.int i,ZV K,_,rfl,mD ?_⟩;exact⟨_,rfl,i,rfl,_,rfl,mD ⟨_,rfl,_,rfl,rfl,tt rfl kk⟩⟩
  | str v =>
   refine⟨_,rfl,_,rfl,dN (λc=>absurd (of_decide_eq_true c) (λz=>nomatch z)) (λ_=>?_)⟩;refine⟨_,rfl,_,_,_,_,rfl,pT.str v,adb K,_,rfl,jK ?_⟩;refine⟨_,rfl,_,_,_,_,rfl,pT.str v,ade K,_,rfl,jK ?_⟩;refine⟨_,rfl,_,_,_,_,rfl,pT.str v,ZW K,_,rfl,mD ?_⟩;exact⟨_,rfl,_,_,_,_,rfl,pT.str v,ZW K,_,rfl,mD ⟨_,rfl,_,rfl,rfl,tt rfl kk⟩⟩
  | _=>cases hf
 ·refine⟨_,rfl,_,rfl,dN (λc=>absurd (of_decide_eq_true c) (λz=>nomatch z)) (λ_=>?_)⟩;refine⟨_,rfl,_,_,_,_,rfl,h2.ty,adn K kd,_,rfl,jK ?_⟩;refine⟨_,rfl,_,_,_,_,rfl,h2.ty,ado K kd,_,rfl,jK ?_⟩;refine⟨_,rfl,_,_,_,_,rfl,h2.ty,adp K kd,_,rfl,jK ?_⟩;refine⟨_,rfl,_,_,_,_,rfl,h2.ty,ZY K kd,_,rfl,_,_,_,_,rfl,h1.ty,ZY K kd,rfl,_,rfl,Qi rfl ?_⟩;refine⟨_,rfl,_,_,_,_,rfl,h2.ty,ZZ K kd,_,rfl,_,_,_,_,rfl,h1.ty,ZZ K kd,rfl,_,rfl,Qi rfl ?_⟩;refine⟨_,rfl,a,_,rfl,h1.or,_,rfl,b,_,rfl,h2.or,rfl,_,rfl,Qi (by rw[hl]) ?_⟩;refine⟨_,rfl,_,rfl,kd,a,b,xs,ys,rfl,h1.sq,h2.sq,TY (λi σ H2=>∃ u v,σ=[some (.ref a),some (.ref b),u,v]/\aM H H2) hl ⟨none,none,rfl,aM.refl H⟩ (by rintro i σ H2 _ ⟨_,_,_,s⟩;exact⟨(h1.same s).sq,(h2.same s).sq⟩) ?_ ?_⟩
  ·rintro i u v p σ H2 eu ev hp ⟨_,_,rfl,s⟩;refine⟨p,_,rfl,eL.of af,rfl,u,[v],rfl,v,[],rfl,rfl,?_⟩;have s2:=s.trans (ao hp (.tup [u,v]));refine⟨_,rfl,_,rfl,u,v,rfl,Eqv.same s2 (hi i u v eu ev),λH4 s4=>⟨_,rfl,jK ?_⟩⟩;exact⟨_,_,rfl,s2.trans s4⟩
  ·rintro σ H2 ⟨_,_,rfl,s⟩;exact k H2 s
theorem tw{f fW:Addr}(T:nI mg)(dz:aC K mg "_law_whole" jM Kc fW MT)(cZ:aC K mg "_law_same" mY B3 f fd):∀ n:Nat,aF P w K mg zt bI (n+1) f fd B3 (yp n)
 | 0=>by
  have no:∀ vs H Q E,¬ yp 0 vs H Q E:=λvs H Q E h=>by
   obtain⟨x,y,_,h,_⟩:=h;exact h
  exact⟨λvs H Q E h=>absurd h (no vs H Q E),λA zn s H args us vs Q E _ _ _ _ h=>absurd h (no vs H Q E)⟩
 | n+1=>Eb T dz (Gi dz.F T) cZ (tw T dz cZ n)
theorem BX:aH ["row","told","start","stop"] ["row"] (aA mZ):=iW
theorem CP{f:Addr}(F:iH K "plain" "plain" mZ f fd):aF P w K mg zt bI 1 f fd iP BR:=by
 refine jg F BX λdH A zn s H vs Q E hr h=>?_;obtain⟨r,row,rfl,⟨as,hr1,hp⟩,gj,k⟩:=h;refine⟨_,(aj (bh (i:=1) BX.nd (bO ah)) (aj (ie PassesOwn.never rfl (dc (pv 0)) (rA (n:=2) rfl (bZ (cB (i:=2) BX.nd) (bZ (cB (i:=3) BX.nd) jO))) (aj (bU (bq ig (pv 2) (pv 3) (bC _)) (au HK) br) (au (bU (PW.pt (Cd (rC (pv 1) (λ_=>rfl)) (yV (bq ig (aX bw (aX bW (pv 1) (oO kg ay)) ay) (pv 2) (bC _))))) (au (uI (dX (aa (aX bw (aX bW (pv 1) (oO kg ay)) ay) (aa (pv 3) ah))) (yb (pv 1) (oO kg ay) rF))) (au (bu (iu wG qZ rf cH (pv 1) (aa (dX (aa (pv 2) (aa (pv 3) ah))) ah)))))))) (au (aN (pv 1))))),?_⟩;refine⟨mF,λq hq=>?_⟩;have s0:aM H (aO H q (.lst [])):=ao hq _;refine⟨_,rfl,r,rfl,⟨_,bQ.of (s0 _ _ hr1)⟩,gB (K:=K) (a:=r) (xs:=as.map V.ref) (λi σ H2=>∃ (bs:List Addr) (u v:Option V),σ=[some (.ref r),some (.ref q),u,v]/\H2 q=some (.lst (bs.map V.ref))/\bL H2 bs ((row.take i).foldl gQ [])/\aM H H2) ⟨[],none,none,rfl,af,.nil,s0⟩ (by rintro i σ H2 _ ⟨_,_,_,_,_,_,s⟩;exact bQ.of (s _ _ hr1)) ?_ ?_⟩
 ·rintro i x σ H2 hi ⟨bs,u,v,rfl,jA,hb,s⟩;rw[kF]at hi;obtain⟨a,ea,rfl⟩:=Option.map_eq_some_iff.mp hi;obtain⟨⟨st,en⟩,ep,ha⟩:=hp.get ea;have step:=N7 (f:=gQ) ep
  have bl:bs.length<sizeLine:=by
   have z:=hb.len;have z2:=Ii (row.take i) [];rw[jV]at z2;exact aU (by simp only[xr]at z2;lia)
  refine⟨a,_,rfl,eL.of (s _ _ ha),rfl,_,_,rfl,_,_,rfl,rfl,?_⟩;refine⟨_,rfl,_,rfl,rfl,_,rfl,dN (λc=>?_) (λc=>?_)⟩
  ·have e:st=en:=V.int.inj (of_decide_eq_true c);refine⟨bs,_,_,rfl,jA,?_,s⟩;rw[step,gQ,if_pos e];exact hb
  ·have e:¬ st=en:=λz=>c (decide_eq_true (congrArg V.int z));rw[gQ,if_neg e]at step;rcases vL ((row.take i).foldl gQ []) with hn|⟨rw0,q0,hn⟩
   ·rw[hn]at hb step;have hbs:bs=[]:=List.eq_nil_of_length_eq_zero hb.len;subst hbs;refine⟨_,rfl,false,.inl ⟨_,bQ.of jA,rfl⟩,jK (jK ?_)⟩;refine⟨_,rfl,.inl ⟨rfl,_,bQ.of jA⟩,_,rfl,_,rfl,vW,λt ht=>⟨q,_,_,rfl,rfl,ao ht _ _ _ jA,(by show 0<sizeLine;decide),?_⟩⟩;obtain⟨g1,g2,g3⟩:=QF (st:=st) (en:=en) hq s jA hb ht;refine⟨[]++[t],_,_,rfl,g1,?_,g3⟩;rw[step,um];exact g2
   ·rw[uc]at hn;rw[hn]at hb step;obtain⟨cs,a0,rfl,hc,VQ⟩:=hb.split;have Q6:H2 q=some (.lst (cs.map V.ref++[.ref a0])):=by rw[jA,j5];rfl
    refine⟨_,rfl,true,.inl ⟨_,bQ.of Q6,by simp⟩,mD ?_⟩;refine⟨_,rfl,_,rfl,q,_,_,_,rfl,rfl,bQ.of Q6,pY _ _,a0,_,_,_,rfl,rfl,eL.of VQ,ac9,_,rfl,rfl,_,rfl,dN (λc2=>?_) (λc2=>?_)⟩
    ·have e2:q0.2=st:=V.int.inj (of_decide_eq_true c2);refine⟨_,rfl,_,rfl,q,_,_,_,rfl,rfl,bQ.of Q6,pY _ _,a0,_,_,_,rfl,rfl,eL.of VQ,ac8,_,rfl,vW,λt ht=>?_⟩;refine⟨_,rfl,_,rfl,q,_,_,cs.length,rfl,rfl,ao ht _ _ _ Q6,XC cs a0,?_⟩;obtain⟨g1,g2,g3⟩:=turned (st:=q0.1) (en:=en) hq s Q6 hc ht;refine⟨cs++[t],_,_,rfl,g1,?_,g3⟩;rw[step,uo _ e2];exact g2
    ·have e2:¬ q0.2=st:=λz=>c2 (decide_eq_true (congrArg V.int z));refine⟨_,rfl,.inl ⟨rfl,_,bQ.of jA⟩,_,rfl,_,rfl,vW,λt ht=>⟨q,_,_,rfl,rfl,ao ht _ _ _ jA,(by rw[cR];exact bl),?_⟩⟩;obtain⟨g1,g2,g3⟩:=QF (st:=st) (en:=en) hq s jA hb ht;refine⟨cs++[a0]++[t],_,_,rfl,g1,?_,g3⟩;rw[step,uq _ e2];exact g2
 ·rintro σ H2 ⟨bs,u,v,rfl,jA,hb,s⟩;refine⟨_,rfl,k q H2 ⟨bs,jA,?_⟩ s hq⟩;rw[cR,hp.len,lI]at hb;exact hb
theorem X6:aH ["row"] ["row"] (aA sQ):=iW
theorem Gj{f:Addr}(F:iH K "size" "size" sQ f fd)(T:nI mg):aF P w K mg zt bI 1 f fd iP F5:=by
 refine jg F X6 λdH A zn s H vs Q E hr h=>?_;obtain⟨r,row,rfl,⟨as,hr1,hp⟩,gj,k⟩:=h;refine⟨_,(au (aN (cL (HY rfl) rfl T.VP PyProof.Rows.boot_sum (aa (jX (N:=["start","stop"]) (rR (sc:=aA sQ) (NX:=["row"]) (jx:=[none,none]) rfl rfl rfl (by decide +kernel) (by decide +kernel) rfl (by decide +kernel) rfl (by decide +kernel)) rfl (dc (pv 0)) (λ_ _ _ _ _ _=>(zg (n:=2) rfl (bZ (cB (i:=0) (show List.Nodup (["start","stop"]:List Str) by decide +kernel)) (bZ (cB (i:=1) (show List.Nodup (["start","stop"]:List Str) by decide +kernel)) jO)))) (λ_ _ _ _ _ _=>ko) (λ_ _ _ _ _ _=>(bz cY (pv 1) (pv 0)))) ah)))),?_⟩;refine⟨_,rfl,r,rfl,⟨_,bQ.of hr1⟩,λacc dh=>jS (K:=K) (a:=r) (xs:=as.map V.ref) (λi σ H2=>∃ u v:Option V,σ=[u,v]/\H2 acc=some (.lst (((row.take i).map λp=>p.2-p.1).map V.int))/\aM H H2) ⟨none,none,rfl,af,ao dh _⟩ (by rintro i σ H2 _ ⟨_,_,_,_,s⟩;exact bQ.of (s _ _ hr1)) ?_ ?_⟩
 ·rintro i x σ H2 hi ⟨u,v,rfl,ha,s⟩;rw[kF]at hi;obtain⟨a,ea,rfl⟩:=Option.map_eq_some_iff.mp hi;obtain⟨⟨st,en⟩,ep,hpa⟩:=hp.get ea;refine⟨a,_,rfl,eL.of (s _ _ hpa),rfl,_,_,rfl,_,_,rfl,rfl,yes (mD ?_)⟩;refine⟨_,rfl,_,rfl,_,_,rfl,rfl,_,ha,?_,_,_,rfl,?_,bX dh s (aL acc _ _)⟩
  ·rw[cR,cR,jV];exact aU (by lia)
  ·rw[af,take_snoc ep,j5,j5];rfl
 ·rintro σ H2 ⟨u,v,rfl,ha,s⟩;rw[cR,hp.len,lI]at ha;exact⟨acc,_,rfl,bQ.of ha,k H2 s⟩
inductive uu(vs:List V)(H:Hp)(Q:VK)(E:XK):Prop
 | mk (r:Addr) (row:Row) (a b:Int) (_:vs=[.ref r,.int a,.int b]) (_:cM H r row) (_:row.length<=1000000) (_:O9 a b (lS row)) (_:∀ H',aM H H'->Q .iZ H')
theorem CQ:aH ["row","start","stop"] ["row","start","stop"] (aA iN):=iW
theorem jY{f fS:Addr}(F:iH K "check_places" "check_places" iN f fd)(T:nI mg)(iX:aC K mg "size" sQ iP fS Oq):aF P w K mg zt bI 2 f fd pO uu:=by
 have IL:aF P w K mg zt bI 1 fS Oq iP F5:=Gj iX.F T;refine jg F CQ λdH A zn s H vs Q E hr h=>?_;obtain⟨r,row,a,b,rfl,R,hl,z,k⟩:=h;refine⟨_,(au (bU (qq (N9 jz jz jz ay (pv 1) (pv 2) (iV.wU iX (T.tV _ iX.m) IL hr (aa (pv 0) ah)))) (au nL) br)),?_⟩;refine⟨_,rfl,_,_,rfl,rfl,_,rfl,?_⟩;rw[decide_eq_true z.1];refine dN (λ_=>?_) (λc=>absurd rfl c);refine⟨_,rfl,_,_,rfl,rfl,_,rfl,?_⟩;rw[decide_eq_true z.2.1];refine dN (λ_=>?_) (λc=>absurd rfl c);refine⟨_,rfl,r,row,rfl,R,hl,λH1 s1=>⟨_,_,rfl,rfl,_,rfl,?_⟩⟩;rw[decide_eq_true z.2.2];exact jK (k H1 s1)
theorem qb:aH ["row","start","stop","told","ahead","first","last","low","high"] ["row","start","stop"] (aA pC):=iW
theorem Al{f:Addr}(F:iH K "pieces" "pieces" pC f fd)(T:nI mg):aF P w K mg zt bI 1 f fd pO zd:=by
 refine jg F qb λdH A zn s H vs Q E hr h=>?_;obtain⟨r,row,a,b,rfl,⟨as,hr1,hp⟩,gj,k⟩:=h;refine⟨_,(aj (bh (i:=3) qb.nd (bO ah)) (aj (bh (i:=4) qb.nd ay) (aj (ie PassesOwn.never rfl (dc (pv 0)) (rA (n:=2) rfl (bZ (cB (i:=5) qb.nd) (bZ (cB (i:=6) qb.nd) jO))) (aj (bh (i:=7) qb.nd (cL (uf rfl) rfl T.Fd PyProof.Rows.boot_max (aa (bz cY (pv 1) (pv 4)) (aa ay ah)))) (aj (bh (i:=8) qb.nd (cL (wI rfl) rfl T.MQ PyProof.Rows.boot_min (aa (bz cY (pv 2) (pv 4)) (aa (bz cY (pv 6) (pv 5)) ah)))) (aj (bU (bq rB (pv 7) (pv 8) (bC _)) (au (bu (iu wG qZ rf cH (pv 3) (aa (dX (aa (bz eT (pv 5) (pv 7)) (aa (bz eT (pv 5) (pv 8)) ah))) ah)))) br) (au (yc (i:=4) qb.nd rfl (Or.inl rfl) (bz cY (pv 6) (pv 5)) PB)))))) (au (aN (pv 3)))))),?_⟩;refine⟨mF,λq hq=>?_⟩;have s0:aM H (aO H q (.lst [])):=ao hq _;refine⟨_,rfl,r,rfl,⟨_,bQ.of (s0 _ _ hr1)⟩,gB (K:=K) (a:=r) (xs:=as.map V.ref) (λi σ H2=>∃ (bs:List Addr) (t:Int) (u v x y:Option V),σ=[some (.ref r),some (.int a),some (.int b),some (.ref q),some (.int t),u,v,x,y]/\t=lS (row.take i)/\H2 q=some (.lst (bs.map V.ref))/\bL H2 bs (qp a b 0 (row.take i))/\aM H H2) ⟨[],0,none,none,none,none,rfl,rfl,af,.nil,s0⟩ (by rintro i σ H2 _ ⟨_,_,_,_,_,_,_,_,_,_,s⟩;exact bQ.of (s _ _ hr1)) ?_ ?_⟩
 ·rintro i x σ H2 hi ⟨bs,t,u,v,x1,y1,rfl,et,jA,hb,s⟩;rw[kF]at hi;obtain⟨ad,ea,rfl⟩:=Option.map_eq_some_iff.mp hi;obtain⟨⟨st,en⟩,ep,ha⟩:=hp.get ea;have step:=Im a b (st,en) (row.take i) 0;rw[← take_snoc ep,Int.zero_add,← et]at step;have YT:t+(en-st)=lS (row.take (i+1)):=by rw[take_snoc ep,HZ,et]
  have bl:bs.length<sizeLine:=by
   have z:=hb.len;have z2:=oX a b (row.take i) 0;rw[jV]at z2;exact aU (by lia)
  have e1:(if (0:Int) > a-t then (0:Int) else a-t)=max (a-t) 0:=by split <;> lia
  have e2:(if en-st<b-t then en-st else b-t)=min (b-t) (en-st):=by split <;> lia
  refine⟨ad,_,rfl,eL.of (s _ _ ha),rfl,_,_,rfl,_,_,rfl,rfl,?_⟩;refine⟨_,rfl,_,rfl,_,_,rfl,rfl,_,_,rfl,?_⟩;refine⟨_,rfl,_,rfl,_,_,rfl,rfl,_,rfl,_,rfl,_,_,rfl,rfl,_,_,rfl,?_⟩;rw[e1,e2];refine⟨_,rfl,_,rfl,_,_,rfl,rfl,_,rfl,dN (λc=>?_) (λc=>?_)⟩
  ·have c':max (a-t) 0<min (b-t) (en-st):=of_decide_eq_true c;unfold QL at step;rw[if_pos c']at step;refine⟨_,rfl,.inl ⟨rfl,_,bQ.of jA⟩,_,rfl,_,rfl,_,_,rfl,rfl,_,rfl,_,rfl,_,_,rfl,rfl,vW,λtu htu=>⟨q,_,_,rfl,rfl,ao htu _ _ _ jA,(by rw[cR];exact bl),?_⟩⟩;obtain⟨g1,g2,g3⟩:=QF (st:=st+max (a-t) 0) (en:=st+min (b-t) (en-st)) hq s jA hb htu;refine⟨_,rfl,_,rfl,_,rfl,_,_,rfl,rfl,_,_,rfl,rfl,?_⟩;refine⟨bs++[tu],_,_,_,_,_,rfl,YT,g1,?_,g3⟩;rw[step];exact g2
  ·have c':¬ max (a-t) 0<min (b-t) (en-st):=λz=>c (decide_eq_true z);unfold QL at step;rw[if_neg c',jo]at step;refine⟨_,rfl,_,rfl,_,rfl,_,_,rfl,rfl,_,_,rfl,rfl,?_⟩;refine⟨bs,_,_,_,_,_,rfl,YT,jA,?_,s⟩;rw[step];exact hb
 ·rintro σ H2 ⟨bs,t,u,v,x1,y1,rfl,et,jA,hb,s⟩;rw[cR,hp.len,lI]at hb;exact⟨_,rfl,k q H2 ⟨bs,jA,hb⟩ s hq⟩
inductive MU(vs:List V)(H:Hp)(Q:VK)(E:XK):Prop
 | mk (r:Addr) (row:Row) (a b:Int) (_:vs=[.ref r,.int a,.int b]) (_:cM H r row) (_:row.length<=1000000) (_:O9 a b (lS row)) (_:∀ (q:Addr) (H':Hp),cM H' q (cJ (qp a b 0 row))->aM H H'->H q=none->Q (.ref q) H')
theorem X7:aH ["row","start","stop"] ["row","start","stop"] (aA HR):=iW
theorem UA{f fS:Addr}(F:iH K "part" "part" HR f fd)(T:nI mg)(iX:aC K mg "size" sQ iP fS Oq)(cA:aC K mg "check_places" iN pO fC fdC)
  (eK:aC K mg "plain" mZ iP fP Ot) (iB:aC K mg "pieces" pC pO fQ fdQ):aF P w K mg zt bI 3 f fd pO MU:=by
 have gU:aF P w K mg zt bI 2 _ _ pO uu:=jY cA.F T iX;have CU:aF P w K mg zt bI 1 _ _ iP BR:=CP eK.F;have tF:aF P w K mg zt bI 1 _ _ pO zd:=Al iB.F T;refine jg F X7 λdH A zn s H vs Q E hr h=>?_;obtain⟨r,row,a,b,rfl,R,hl,z,k⟩:=h;refine⟨_,(aj (bu (aG cA gU hr (aa (pv 0) (aa (pv 1) (aa (pv 2) ah))))) (au (aN (aG eK CU hr (aa (aG iB tF hr (aa (pv 0) (aa (pv 1) (aa (pv 2) ah)))) ah))))),?_⟩;refine⟨_,rfl,_,rfl,_,rfl,r,row,a,b,rfl,R,hl,z,λH1 s1=>?_⟩;refine⟨_,rfl,_,rfl,_,rfl,r,row,a,b,rfl,R.same s1,hl,λq H2 R2 s2 hq=>?_⟩;refine⟨q,_,rfl,R2,lJ (oX a b row 0) hl,λq3 H3 R3 s3 Q6=>?_⟩;exact k q3 H3 R3 (s1.trans (s2.trans s3)) (aZ (s1.trans s2) Q6)
def Bl(CB:Addr)(H:Hp)(x d t:Addr):Prop:=H x=some (.ins CB d [("stains",.ref t)])
inductive MV(CB:Addr)(vs:List V)(H:Hp)(Q:VK)(E:XK):Prop
 | mk (x d:Addr) (_:vs=[.ref x]) (_:H x=some (.ins CB d [])) (_: ∀ (t:Addr) (H':Hp),Bl CB H' x d t->cM H' t []->cT x H H'->H t=none->Q .iZ H')
theorem Am:aH ["self"] ["self"] (aA mO):=iW
theorem zo{f:Addr}(F:iH K "__init__" "Blots.__init__" mO f fd)(cl:DQ K C)(ns:cG K C "stains"):aF P w K mg zt bI 1 f fd ki (MV C):=by
 refine jg F Am λdH A zn s H vs Q E hr h=>?_;obtain⟨x,d,rfl,hx,k⟩:=h;refine⟨_,(au (mX (pv 0) (bO ah) rfl)),?_⟩;refine⟨mF,λt ht=>?_⟩;have nt:t≠x:=(az hx ht).symm;refine⟨_,rfl,x,C,d,_,rfl,ao ht _ _ _ hx,cl,ns,by decide,?_⟩;exact k t _ af ⟨[],by rw[aK nt,af];rfl,.nil⟩ (λa o e n=>by rw[aK n];exact ao ht _ a o e) ht
theorem uv:aH ["row","address","told","ahead","start","stop"] ["row","address"] (aA BQ):=iW
theorem Ou{f:Addr}(F:iH K "places" "places" BQ f fd):aF P w K mg zt bI 1 f fd ["row","address"] Ig:=by
 refine jg F uv λdH A zn s H vs Q E hr h=>?_;obtain⟨r,row,b,rfl,⟨as,hr1,hp⟩,gj,k⟩:=h;refine⟨_,(aj (bh (i:=2) uv.nd (bO ah)) (aj (bh (i:=3) uv.nd ay) (aj (ie PassesOwn.never rfl (dc (pv 0)) (rA (n:=2) rfl (bZ (cB (i:=4) uv.nd) (bZ (cB (i:=5) uv.nd) jO))) (aj (bU (ue jz rB (pv 4) (pv 1) (pv 5)) (au (bu (iu wG qZ rf cH (pv 2) (aa (bz cY (bz eT (pv 3) (pv 1)) (pv 4)) ah)))) br) (au (yc (i:=3) uv.nd rfl (Or.inl rfl) (bz cY (pv 5) (pv 4)) PB)))) (au (aN (pv 2)))))),?_⟩;refine⟨mF,λq hq=>?_⟩;have s0:aM H (aO H q (.lst [])):=ao hq _;refine⟨_,rfl,r,rfl,⟨_,bQ.of (s0 _ _ hr1)⟩,gB (K:=K) (a:=r) (xs:=as.map V.ref) (λi σ H2=>∃ (t:Int) (u v:Option V),σ=[some (.ref r),some (.int b),some (.ref q),some (.int t),u,v]/\t=lS (row.take i)/\H2 q=some (.lst ((KW b 0 (row.take i)).map V.int))/\aM H H2) ⟨0,none,none,rfl,rfl,af,s0⟩ (by rintro i σ H2 _ ⟨_,_,_,_,_,_,s⟩;exact bQ.of (s _ _ hr1)) ?_ ?_⟩
 ·rintro i x σ H2 hi ⟨t,u,v,rfl,et,jA,s⟩;rw[kF]at hi;obtain⟨a,ea,rfl⟩:=Option.map_eq_some_iff.mp hi;obtain⟨⟨st,en⟩,ep,ha⟩:=hp.get ea;have step:=Ia b (st,en) (row.take i) 0;rw[← take_snoc ep]at step;have YT:t+(en-st)=lS (row.take (i+1)):=by rw[take_snoc ep,HZ,et]
  have bl:(KW b 0 (row.take i)).length<sizeLine:=by
   have z:=Qz b (row.take i) 0;rw[jV]at z;exact aU (by lia)
  have no:¬ (st<=b/\b<en)->H2 q=some (.lst ((KW b 0 (row.take (i+1))).map V.int)):=λc=>by
   rw[step,if_neg c,jo];exact jA
  refine⟨a,_,rfl,eL.of (s _ _ ha),rfl,_,_,rfl,_,_,rfl,rfl,?_⟩;refine⟨_,rfl,_,rfl,_,_,rfl,rfl,_,rfl,dN (λc1=>?_) (λc1=>?_)⟩
  ·have SI:st<=b:=of_decide_eq_true c1;refine⟨_,rfl,_,_,rfl,rfl,_,rfl,dN (λc2=>?_) (λc2=>?_)⟩
   ·have Lm:b<en:=of_decide_eq_true c2;refine⟨_,rfl,.inl ⟨rfl,_,bQ.of jA⟩,_,rfl,_,rfl,_,_,rfl,rfl,_,rfl,_,_,rfl,rfl,q,_,_,rfl,rfl,jA,(by rw[cR];exact bl),?_⟩;refine⟨_,rfl,_,rfl,_,rfl,_,_,rfl,rfl,_,_,rfl,rfl,?_⟩;refine⟨_,_,_,rfl,YT,?_,bX hq s (aL q _ _)⟩;rw[af,step,if_pos ⟨SI,Lm⟩,j5,et];simp
   ·refine⟨_,rfl,_,rfl,_,rfl,_,_,rfl,rfl,_,_,rfl,rfl,?_⟩;exact⟨_,_,_,rfl,YT,no (λz=>c2 (decide_eq_true z.2)),s⟩
  ·refine⟨_,rfl,jK ?_⟩;refine⟨_,rfl,_,rfl,_,rfl,_,_,rfl,rfl,_,_,rfl,rfl,?_⟩;exact⟨_,_,_,rfl,YT,no (λz=>c1 (decide_eq_true z.1)),s⟩
 ·rintro σ H2 ⟨t,u,v,rfl,et,jA,s⟩;refine⟨_,rfl,k q H2 ?_ s hq⟩;rw[cR,hp.len,lI]at jA;exact jA
def DS(a:Int):Int->List Int->List Int
 | _,[]=>[]
 | c,x::r=>(if x=a then [c] else [])++DS a (c+1) r
theorem Gk(a:Int):∀ (xs ys:List Int) (c:Int),DS a c (xs++ys)=DS a c xs++DS a (c+xs.length) ys
 | [],ys,c=>by rw[List.nil_append,DS,List.nil_append,xr,Int.natCast_zero,Int.add_zero]
 | x::r,ys,c=>by rw[List.cons_append,DS,DS,Gk a r ys,pQ,qE,show c+1+(r.length:Int)=c+((r.length+1:Nat):Int) by lia]
theorem MW(a:Int):∀ (n:Nat) (s c:Int),DS a c (run s n)=if s<=a/\a<s+n then [c+a-s] else []
 | 0,s,c=>by rw[run,DS,if_neg (by lia)]
 | n+1,s,c=>by
  rw[run,DS,MW a n];by_cases e:s=a
  ·rw[if_pos e,if_neg (by lia),if_pos (by lia),jo,show c+a-s=c by lia]
  ·rw[if_neg e,List.nil_append];by_cases z:s+1<=a/\a<s+1+n
   ·rw[if_pos z,if_pos (by lia),show c+1+a-(s+1)=c+a-s by lia]
   ·rw[if_neg z,if_neg (by lia)]
theorem MX(a:Int):∀ (r:Row) (c:Int),(∀ p∈r,p.1<=p.2)->KW a c r=DS a c (bS r)
 | [],_,_=>rfl
 | p::r,c,h=>by
  have hp:=h p (yR ..);have e:bS (p::r)=run p.1 (p.2-p.1).toNat++bS r:=by unfold bS;rw[mW];rfl
  have q:(((p.2-p.1).toNat:Nat):Int)=p.2-p.1:=by lia
  rw[KW,MX a r _ λq hq=>h q (sH _ hq),e,Gk,MW,gR,q,show p.1+(p.2-p.1)=p.2 by lia]
theorem Ov(a:Int)(ns:List Int):KW a 0 (cV ns)=DS a 0 ns:=by rw[MX _ _ _ (rN ns),je]
theorem zp(a:Int):∀ (xs:List Int) (c:Int),(DS a c xs).length<=xs.length
 | [],_=>ja _
 | x::r,c=>by
  have ih:=zp a r (c+1);rw[DS,dM,qE];split
  ·rw[vK];lia
  ·rw[xr];lia
def onS(a:Int)(f:Int->List Int)(s:Nat):Row:=(DS a 0 (f s)).map λp=>((s:Int),p)
def CV(a:Int)(f:Int->List Int)(n:Nat):Row:=(List.range n).flatMap (onS a f)
theorem An{a:Int}{f:Int->List Int}{n:Nat}:CV a f (n+1)=CV a f n++onS a f n:=by
 unfold CV;rw[List.range_succ,List.flatMap_append,List.flatMap_singleton]
theorem UB{a:Int}{f:Int->List Int}{s m:Nat}(h:(f s).length<=m):(onS a f s).length<=m:=by
 unfold onS;rw[cR];exact lJ (zp ..) h
theorem CY{a:Int}{f:Int->List Int}{m:Nat}:∀ {n:Nat},(∀ s:Nat,s<n->(f s).length<=m)->(CV a f n).length<=n*m
 | 0,_=>Nat.zero_le _
 | n+1,h=>by
  have ih:=CY (a:=a) (n:=n) λs hs=>h s (by lia);have:=UB (a:=a) (h n (by lia));rw[An,dM,Nat.succ_mul];lia
theorem Ow(aQ:List aV):(iI aQ).length<=aQ.length:=List.length_filterMap_le _ aQ
inductive Ln(vs:List V)(H:Hp)(Q:VK)(E:XK):Prop
 | mk (r:Addr) (aQ:List aV) (_:vs=[.ref r]) (_:bR H (.ref r) aQ) (_:aQ.length<=100000) (_ :
 ∀ (o:Addr) (H':Hp),H' o=some (.lst ((iI aQ).map V.int))->aM H H'->H o=none->Q (.ref o) H')
theorem Ox:aH ["items"] ["items"] (aA gH):=iW
theorem CZ{f:Addr}(F:iH K "windows" "windows" gH f fd)(T:nI mg):aF P w K mg zt bI 1 f fd oS Ln:=by
 refine jg F Ox λdH A zn s H vs Q E hr h=>?_;obtain⟨r,aQ,rfl,⟨a,vs,e,hr1,hp⟩,gj,k⟩:=h;cases e;refine⟨_,(au (aN (jX (N:=["item"]) (rR (sc:=aA gH) (NX:=["items"]) (jx:=[none]) rfl rfl rfl (by decide +kernel) (by decide +kernel) rfl (by decide +kernel) rfl (by decide +kernel)) rfl (dc (pv 0)) (λ_ _ _ _ _ _=>(cB (i:=0) (show List.Nodup (["item"]:List Str) by decide +kernel))) (λ_ _ _ _ _ _=>F3 (bq ig (aX MJ (pv 0) ay) bK (bC _))) (λ_ _ _ _ _ _=>(aX MJ (pv 0) ay))))),?_⟩;refine⟨_,rfl,r,rfl,⟨_,bQ.of hr1⟩,λacc dh=>jS (K:=K) (a:=r) (xs:=vs) (λi σ H2=>∃ u:Option V,σ=[u]/\H2 acc=some (.lst ((iI (aQ.take i)).map V.int))/\aM H H2) ⟨none,rfl,af,ao dh _⟩ (by rintro i σ H2 _ ⟨_,_,_,s⟩;exact bQ.of (s _ _ hr1)) ?_ ?_⟩
 ·rintro i x σ H2 hi ⟨u,rfl,ha,s⟩;obtain⟨it,ei,b,rfl,hb⟩:=hp.get hi;have step:iI (aQ.take (i+1))=iI (aQ.take i)++iI [it]:=by rw[take_snoc ei,ju]
  have bl:(iI (aQ.take i)).length<=100000:=by
   have z:=Ow (aQ.take i);rw[jV]at z;lia
  cases it with
  | win n =>
   refine⟨_,rfl,b,_,_,_,rfl,rfl,eL.of (s _ _ hb),rfl,rfl,_,rfl,dN (λ_=>?_) (λz=>absurd (by decide) z)⟩;refine⟨_,rfl,b,_,_,_,rfl,rfl,eL.of (s _ _ hb),rfl,_,ha,(by rw[cR];exact aU (by lia)),_,rfl,?_,bX dh s (aL acc _ _)⟩;rw[af,step,j5];rfl
  | aP p q =>
   refine⟨_,rfl,b,_,_,_,rfl,rfl,eL.of (s _ _ hb),rfl,rfl,_,rfl,dN (λz=>absurd z (by decide)) (λ_=>?_)⟩;refine⟨_,rfl,?_,s⟩;rw[ha,step];show _=some (HO.lst ((iI (aQ.take i)++[]).map V.int));rw[jo]
 ·rintro σ H2 ⟨u,rfl,ha,s⟩;rw[hp.len,lI]at ha;exact k acc H2 ha s dh
structure Oz(rows:dJ)(ks:List Int):Prop where
 DV:∀ x∈ks,0<=x/\x<rows.length
 dn:∀ (i:Nat) (x:Int),ks[i]?=some x->∀ y,oR rows x y->y∈ks.take i
inductive Gm(vs:List V)(H:Hp)(Q:VK)(E:XK):Prop
 | mk (r L:Addr) (rows:dJ) (ss:List Int) (_:vs=[.ref r,.ref L]) (_:jf H r (rows.map aI)) (_:H L=some (.lst (ss.map V.int))) (_:ss.length<=1000) (_:rows.length<=1000) (_:(∀ es∈rows,es.length<=1000)) (_:jH rows) (_:Gb rows) (_:(∀ s∈ss,0<=s/\s<rows.length)) (_ :
 ∀ (ks:List Int) (o:Addr) (H':Hp),H' o=some (.lst (ks.map V.int))->aM H H'->Oz rows ks->(∀ s∈ss,s∈ks)->ks.length<=1000->H o=none->Q (.ref o) H')
theorem Oz.snoc{rows:dJ}{ks:List Int}{x:Int}(h:Oz rows ks)(h0:0<=x)(h1:x<rows.length)(hx:∀ y,oR rows x y->y∈ks):Oz rows (ks++[x]):=by
 refine⟨λy hy=>?_,λi y hi z hz=>?_⟩
 ·rcases List.mem_append.mp hy with q|q
  ·exact h.DV y q
  ·have:y=x:=by simpa using q
   lia
 ·by_cases c:i<ks.length
  ·rw[List.getElem?_append_left c]at hi;rw[List.take_append_of_le_length (by lia)];exact h.dn i y hi z hz
  ·have c2:i=ks.length:=by
    rcases Nat.lt_or_ge i (ks++[x]).length with q|q
    ·rw[dM,vK]at q;lia
    ·rw[List.getElem?_eq_none q]at hi;cases hi
   subst c2;rw[List.getElem?_append_right (ja _),Nat.sub_self]at hi;cases hi;rw[List.take_append_of_le_length (ja _),lI];exact hx z hz
theorem Fe{kvs:List (iL × V)}{ks:List Int}(h:kvs.map (·.1)=ks.map Sum.inl)(x:Int):seen kvs x↔x∈ks:=by
 unfold seen;rw[← rO,List.any_eq_true];constructor
 ·rintro⟨p,hp,e⟩;have e':p.1=Sum.inl x:=of_decide_eq_true e;have:p.1∈ks.map (Sum.inl:Int->iL):=by rw[← h];exact List.mem_map_of_mem hp
  rw[e',List.mem_map]at this;obtain⟨y,hy,ey⟩:=this;rw[Sum.inl.inj ey]at hy;exact hy
 ·intro hx;have:(Sum.inl x:iL)∈kvs.map (·.1):=by rw[h];exact List.mem_map_of_mem hx
  obtain⟨p,hp,e⟩:=List.mem_map.mp this;exact⟨p,hp,decide_eq_true e⟩
structure Bel(rows:dJ)(rk:Int->Nat)(H:Hp)(W S:Addr)(ss:List Int)(H2:Hp)(bs ps ks:List Int)(kvs:List (iL × V)):Prop where
 hW:H2 W=some (.lst ((bs++ps).map V.int))
 hS:H2 S=some (.dK kvs)
 sm:aM H H2
 ky:kvs.map (·.1)=ks.map Sum.inl
 tp:Oz rows ks
 rg:∀ x∈bs++ps,0<=x/\x<rows.length
 ns:∀ x∈ps,¬ seen kvs x
 pw:ps.Pairwise λa b=>rk b<rk a
 rb:∀ (i:Nat) (x:Int),ps[i]?=some x->rk x+i<=40
 st:∀ s∈ss,s∈bs\/s∈ks
 kl:kvs.length+tU rows.length kvs<=rows.length
 bl:bs.length<=1000
theorem Ff{kvs:List (iL × V)}{k:iL}(v:V)(h:(cW kvs k).isSome=true):(iC kvs k v).map (·.1)=kvs.map (·.1):=by
 unfold iC;rw[if_pos (by rw[rO];exact h),List.map_map];refine List.map_congr_left λp _=>?_;show (if p.1=k then (p.1,v) else p).1=p.1
 split <;> rfl
theorem Lo{rk:Int->Nat}{ps:List Int}(rb:∀ (i:Nat) (x:Int),ps[i]?=some x->rk x+i<=40):ps.length<=41:=by
 rcases vL ps with rfl|⟨p',n,rfl⟩
 ·simp
 ·rw[uc]at rb ⊢;have:=rb p'.length n (by rw[List.getElem?_append_right (ja _),Nat.sub_self];rfl);rw[dM,vK];lia
structure Top(rk:Int->Nat)(ss bs ps ks:List Int)(kvs:List (iL × V))(Ec zQ:List Int)(n:Int):Prop where
 eq:bs++ps=Ec++zQ++[n]
 ns:∀ x∈zQ,¬ seen kvs x/\x≠n
 pw:zQ.Pairwise λa b=>rk b<rk a
 rb:∀ (i:Nat) (x:Int),zQ[i]?=some x->rk x+i<=40
 st:∀ s∈ss,s∈Ec\/s=n\/s∈ks
 old:seen kvs n->Ec.length+50-zQ.length<bs.length+50-ps.length
 le:Ec.length+50-zQ.length<=bs.length+51-ps.length
 bl:Ec.length<=bs.length
 up:∀ y:Int,rk y<=40->rk y<rk n->(ps++[y]).Pairwise (λa b=>rk b<rk a)/\∀ (i:Nat) (x:Int),(ps++[y])[i]?=some x->rk x+i<=40
theorem Bel.top{rows:dJ}{rk:Int->Nat}{H:Hp}{W S:Addr}{ss:List Int}{H2:Hp}{bs ps ks:List Int}{kvs:List (iL × V)}(B:Bel rows rk H W S ss H2 bs ps ks kvs):bs++ps=[]\/∃ Ec zQ n,Top rk ss bs ps ks kvs Ec zQ n:=by
 have Q7:∀ (qs:List Int) (y:Int),(∀ (i:Nat) (x:Int),qs[i]?=some x->rk x+i<=40)->rk y+qs.length<=40->∀ (i:Nat) (x:Int),(qs++[y])[i]?=some x->rk x+i<=40:=by
  intro qs y h1 h2 i x hx;rcases Nat.lt_or_ge i qs.length with q|q
  ·rw[List.getElem?_append_left q]at hx;exact h1 i x hx
  ·have qi:i=qs.length:=by
    rcases Nat.lt_or_ge i (qs++[y]).length with w|w
    ·rw[dM,vK]at w;lia
    ·rw[List.getElem?_eq_none w]at hx;cases hx
   subst qi;rw[List.getElem?_append_right (ja _),Nat.sub_self]at hx;cases hx;exact h2
 rcases vL ps with rfl|⟨zQ,n,rfl⟩
 ·rcases vL bs with rfl|⟨Ec,n,rfl⟩
  ·exact .inl rfl
  ·rw[uc]at B ⊢;refine .inr ⟨Ec,[],n,by simp,by simp,by simp,by simp,λs hs=>?_,λ_=>?_,?_,?_,λy h1 h2=>⟨by simp,Q7 [] y (by simp) (by simpa using h1)⟩⟩
   ·rcases B.st s hs with z|z
    ·rcases List.mem_append.mp z with z|z
     ·exact .inl z
     ·exact .inr (.inl (by simpa using z))
    ·exact .inr (.inr z)
   ·rw[dM,vK];simp only[xr];lia
   ·rw[dM,vK];simp only[xr];lia
   ·rw[dM,vK];lia
 ·rw[uc]at B ⊢;have pwd:=List.pairwise_append.mp B.pw;have rbn:=B.rb zQ.length n (by rw[List.getElem?_append_right (ja _),Nat.sub_self];rfl);refine .inr ⟨bs,zQ,n,by rw[pQ],λx hx=>⟨B.ns x (xY _ hx),λe=>?_⟩,pwd.1,λi x hx=>?_,λs hs=>(B.st s hs).elim .inl λz=>.inr (.inr z),λz=>absurd z (B.ns n (by simp)),?_,ja _,λy h1 h2=>⟨?_,Q7 _ y B.rb ?_⟩⟩
  ·subst e;exact Nat.lt_irrefl _ (pwd.2.2 x hx x (by simp))
  ·refine B.rb i x ?_;rw[List.getElem?_append_left]
   ·exact hx
   ·rcases Nat.lt_or_ge i zQ.length with q|q
    ·exact q
    ·rw[List.getElem?_eq_none q]at hx;cases hx
  ·rw[dM,vK];lia
  ·rw[List.pairwise_append];refine⟨B.pw,by simp,λa ha c hc=>?_⟩;have:c=y:=by simpa using hc
   subst this;rcases List.mem_append.mp ha with q|q
   ·have:=pwd.2.2 a q n (by simp);lia
   ·have:a=n:=by simpa using q
    subst this;exact h2
  ·rw[dM,vK];lia
def VR(rows:dJ)(rk:Int->Nat)(H:Hp)(r L W S:Addr)(ss:List Int)(m:Nat)(σ:L2.St)(H2:Hp):Prop:=∃ (bs ps ks:List Int) (kvs:List (iL × V)) (u v:Option V),σ=[some (.ref r),some (.ref L),some (.ref S),some (.ref W),u,v]/\Bel rows rk H W S ss H2 bs ps ks kvs/\m=100*tU rows.length kvs+(bs.length+50-ps.length)
theorem zq:aH ["rows","sheets","told","waiting","number","missing"] ["rows","sheets"] (aA m6):=iW
theorem IM{f:Addr}(F:iH K "below" "below" m6 f fd)(T:nI mg)(cN:aC K mg "windows" gH oS fI DT):aF P w K mg zt bI 2 f fd mU Gm:=by
 have C0:aF P w K mg zt bI 1 fI DT oS Ln:=CZ cN.F T;refine jg F zq λdH A zn s0 H vs Q E hr h=>?_;obtain⟨r,L,rows,ss,rfl,hR,hL,hsl,gj,hes,vm,⟨rk,hrb,Bw⟩,hin,k⟩:=h;have hu:=kj hr;refine⟨_,(aj (bh (i:=2) zq.nd rP) (aj (bh (i:=3) zq.nd (gJ jP rfl T.nh xX (aa (pv 1) ah))) (aj (Cf PassesOwn.never (rC (pv 3) (λ_=>rfl)) (aj (bh (i:=4) zq.nd (aX bW (pv 3) (oO kg ay))) (aj (Uq (N:=["other","told"]) (i:=5) (rR (sc:=aA m6) (NX:=["rows","sheets","told","waiting","number","missing"]) (jx:=[none,some 2]) rfl rfl rfl (by decide +kernel) (by decide +kernel) rfl (by decide +kernel) rfl (by decide +kernel)) rfl zq.nd rfl rfl (dc (aG cN C0 hr (aa (aX bW (pv 0) (pv 4)) ah))) (λ_ _ _ _ _ _=>(cB (i:=0) (show List.Nodup (["other","told"]:List Str) by decide +kernel))) (λ_ _ _ _ _ _=>F3 (FQ (EZ hu (pv 0) (pv 1)))) (λ_ _ _ _ _ _=>(pv 0))) (au (bU (rC (pv 5) (λ_=>rfl)) (au (bu (iu wG qZ rf cH (pv 3) (aa (aX bW (pv 5) ay) ah)))) (aj (ze hu (pv 2) (pv 4) vh rfl) (au (bu (P7 wG PySem.F.slot_list_pop PySem.F.type_list_pop Qc (pv 3)))))))))) (au (aN (gJ (Ld rfl) rfl T.nh xX (aa (pv 2) ah))))))),?_⟩;intro S hS;have s1:aM H (aO H S (.dK [])):=ao hS _;refine⟨_,rfl,L,_,rfl,.inl (bQ.of (s1 _ _ hL)),λW hW=>?_⟩;have s2:=s1.trans (ao hW (.lst (ss.map V.int)))
 have UC:H W=none:=by
  cases e:H W with
  | none=>rfl
  | some o=>exact absurd ((s1 _ _ e).symm.trans hW) (by simp)
 have VS:W≠S:=(az af hW).symm;refine⟨VR rows rk H r L W S ss,⟨_,ss,[],[],[],none,none,rfl,⟨(by rw[af,jo]),ao hW _ _ _ af,s2,rfl,⟨(λx hx=>by cases hx),λi x hi=>by simp at hi⟩,(λx hx=>hin x (by simpa using hx)),by simp,by simp,by simp,(λs hs=>.inl hs),?_,hsl⟩,rfl⟩,?_⟩
 ·have:=CM rows.length (λi=>(cW ([]:List (iL × V)) (Sum.inl (i:Int))).isNone);show 0+cnt rows.length _<=_;lia
 rintro m σ H2 ⟨bs,ps,ks,kvs,u,v,rfl,B,rfl⟩;refine⟨_,rfl,!((bs++ps).map V.int).isEmpty,.inl ⟨_,bQ.of B.hW,rfl⟩,?_⟩;rcases B.top with en|⟨Ec,zQ,n,t⟩
 ·have e2:(!((bs++ps).map V.int).isEmpty)=false:=by rw[en];rfl
  rw[e2];refine jK ?_
  have ek:kvs.map (λp=>kV p.1)=ks.map V.int:=by
   have z:kvs.map (λp=>kV p.1)=(kvs.map (·.1)).map kV:=by rw[List.map_map];rfl
   rw[z,B.ky,List.map_map];rfl
  have kl:ks.length=kvs.length:=by
   have z:=congrArg List.length B.ky;rw[cR,cR]at z;exact z.symm
  have kll:=B.kl;refine⟨_,rfl,S,kvs,rfl,B.hS,λl hl=>?_⟩;refine k ks l _ (by rw[af,ek]) (B.sm.trans (ao hl _)) B.tp (λs hs=>(B.st s hs).elim (λz=>?_) id) (by lia) ?_
  ·rw[(List.append_eq_nil_iff.mp en).1]at z;cases z
  cases e:H l with
  | none=>rfl
  | some o=>exact absurd ((B.sm _ _ e).symm.trans hl) (by simp)
 have eW:=B.hW;rw[t.eq]at eW;rw[t.eq];refine dN (λ_=>?_) (λz=>absurd (by simp) z);refine⟨fun σ' H'=>∃ m',m'<100*tU rows.length kvs+(bs.length+50-ps.length)/\VR rows rk H r L W S ss m' σ' H',fun σ' H' z=>z,?_⟩;have an:vC ((Ec++zQ++[n]).map V.int) (-1)=some (.int n):=by rw[j5];exact pY _ _
 obtain⟨n0,n1⟩:=B.rg n (by rw[t.eq];simp);have tl:=t.le;have Tg:=t.bl;have pl:=Lo B.rb;have pl':=Lo t.rb;have bbl:=B.bl;obtain⟨es,iJ⟩:∃ es,rows[n.toNat]?=some es:=⟨_,pP (by lia)⟩;have X8:=hes es (vf iJ);obtain⟨Bx,MS,zu⟩:=hR.same B.sm;obtain⟨vi,Gn,hI⟩:=zu.get' (i:=n.toNat) (b:=aI es) (by rw[kF,iJ];rfl);obtain⟨b,SJ,rfl,hb,uG⟩:=id hI;have hil:=wR es []
 have zw:vC Bx n=some (.ref b):=by
  have z:=gz Gn;rw[show ((n.toNat:Nat):Int)=n by lia]at z;exact z
 refine⟨_,rfl,_,rfl,W,_,_,_,rfl,rfl,bQ.of eW,an,?_⟩;refine⟨_,rfl,_,rfl,r,_,_,_,rfl,rfl,bQ.of MS,zw,b,aI es,rfl,hI,?_,λz H4 hz s4 nz=>?_⟩
 ·show (es.foldl bG []).length<=_;simp only[xr]at hil;lia
 rw[lU]at hz;have adY:(gh es).length<=es.length:=List.length_filterMap_le _ es;have hS4:=s4 _ _ B.hS;have hW4:=s4 _ _ eW;refine⟨z,rfl,⟨_,bQ.of hz⟩,λacc dh=>jS (K:=K) (a:=z) (xs:=(gh es).map V.int) (λi σ H5=>∃ u:Option V,σ=[u,some (.ref S)]/\H5 acc=some (.lst ((((gh es).take i).filter (λy=>(cW kvs (Sum.inl y)).isNone)).map V.int))/\aM H4 H5) ⟨none,rfl,af,ao dh _⟩ (by rintro i σ H5 _ ⟨_,_,_,s5⟩;exact bQ.of (s5 _ _ hz)) ?_ ?_⟩
 ·rintro i x σ H5 hi ⟨u,rfl,h5,s5⟩;rw[kF]at hi;obtain⟨y,ey,rfl⟩:=Option.map_eq_some_iff.mp hi;have st:=take_snoc ey
  have bl:(((gh es).take i).filter (λy=>(cW kvs (Sum.inl y)).isNone)).length<=1000:=by
   have z:=List.length_filter_le (λy=>(cW kvs (Sum.inl y)).isNone) ((gh es).take i);rw[jV]at z;lia
  refine⟨_,rfl,_,rfl,S,_,rfl,ng.k (k:=Sum.inl y) (s5 _ _ hS4),_,rfl,?_⟩
  cases ev:cW kvs (Sum.inl y) with
  | none =>
   refine mD ⟨_,rfl,_,h5,(by rw[cR];exact aU (by lia)),_,rfl,?_,bX dh s5 (aL acc _ _)⟩;rw[af,st,List.filter_append,List.filter_cons_of_pos (p:=λy=>(cW kvs (Sum.inl y)).isNone) (by rw[ev];rfl),j5];rfl
  | some o =>
   refine jK ⟨_,rfl,?_,s5⟩;rw[st,List.filter_append,List.filter_cons_of_neg (p:=λy=>(cW kvs (Sum.inl y)).isNone) (by rw[ev];exact vg),List.filter_nil,jo];exact h5
 rintro σ H5 ⟨u,rfl,h5,s5⟩;rw[cR,lI]at h5;have hS5:=s5 _ _ hS4;have hW5:=s5 _ _ hW4;have sm5:=B.sm.trans (s4.trans s5);have kll:=B.kl;refine⟨_,rfl,_,.inl ⟨_,bQ.of h5,rfl⟩,?_⟩
 cases em:(gh es).filter (λy=>(cW kvs (Sum.inl y)).isNone) with
 | nil =>
  refine jK ?_
  have ad1:∀ y,oR rows n y->y∈ks:=by
   rintro y ⟨_,zN,MF,hy⟩;rw[iJ]at MF;cases MF;rw[← Fe B.ky];have z:=List.filter_eq_nil_iff.mp em y hy;unfold seen
   cases q:cW kvs (Sum.inl y) with
   | none=>rw[q]at z;exact absurd rfl z
   | some o=>rfl
  refine⟨_,rfl,_,rfl,S,_,rfl,F9.k (k:=Sum.inl n) hS5 (aU (by lia)),?_⟩;have SK:(aO H5 S (.dK (iC kvs (Sum.inl n) (.bl true)))) W=some (.lst ((Ec++zQ++[n]).map V.int)):=by rw[aK VS];exact hW5
  refine⟨_,rfl,.inl ⟨rfl,_,bQ.of SK⟩,W,_,.int n,rfl,rfl,SK,(by simp),?_⟩;have ee:((Ec++zQ++[n]).map V.int).dropLast=(Ec++zQ).map V.int:=by rw[j5 (l₁:=Ec++zQ),List.map_singleton,List.dropLast_concat]
  rw[ee];have rg':∀ x∈Ec++zQ,0<=x/\x<rows.length:=λx hx=>B.rg x (by rw[t.eq];exact xY _ hx)
  cases en:cW kvs (Sum.inl n) with
  | none =>
   have mp:=IE (n:=rows.length) (.bl true) n0 n1 en;refine⟨100*tU rows.length (iC kvs (Sum.inl n) (.bl true))+(Ec.length+50-zQ.length),by lia,Ec,zQ,ks++[n],iC kvs (Sum.inl n) (.bl true),_,_,rfl,⟨af,(by rw[aK VS.symm,af]),bX UC (bX hS sm5 (aL S _ _)) (aL W _ _),?_,B.tp.snoc n0 n1 ad1,rg',λx hx=>?_,t.pw,t.rb,λs hs=>?_,?_,by lia⟩,rfl⟩
   ·rw[CC _ en,j5,B.ky,j5];rfl
   ·intro q;rcases (ID _).mp q with e|e
    ·exact (t.ns x hx).2 e
    ·exact (t.ns x hx).1 e
   ·rcases t.st s hs with q|q|q
    ·exact .inl q
    ·exact .inr (by rw[q];simp)
    ·exact .inr (xY _ q)
   ·rw[CC _ en,dM,vK]at *;lia
  | some o =>
   have sn:seen kvs n:=by unfold seen;rw[en];rfl
   have so:=t.old sn
   have sp:∀ x,seen (iC kvs (Sum.inl n) (.bl true)) x↔seen kvs x:=λx=>by
    rw[ID];exact⟨λz=>z.elim (λe=>by rw[e];exact sn) id,.inr⟩
   have ms:tU rows.length (iC kvs (Sum.inl n) (.bl true))=tU rows.length kvs:=by
    refine QV _ λi _=>?_;have z:=sp (i:Int);unfold seen at z
    cases q1:cW (iC kvs (Sum.inl n) (.bl true)) (Sum.inl (i:Int)) with
    | none =>
     cases q2:cW kvs (Sum.inl (i:Int)) with
     | none=>rfl
     | some o2=>rw[q1,q2]at z;exact absurd (z.mpr rfl) vg
    | some o1 =>
     cases q2:cW kvs (Sum.inl (i:Int)) with
     | none=>rw[q1,q2]at z;exact absurd (z.mp rfl) vg
     | some o2=>rfl
   have kn:n∈ks:=(Fe B.ky n).mp sn;refine⟨100*tU rows.length (iC kvs (Sum.inl n) (.bl true))+(Ec.length+50-zQ.length),by rw[ms];lia,Ec,zQ,ks,iC kvs (Sum.inl n) (.bl true),_,_,rfl,⟨af,(by rw[aK VS.symm,af]),bX UC (bX hS sm5 (aL S _ _)) (aL W _ _),?_,B.tp,rg',λx hx q=>(t.ns x hx).1 ((sp x).mp q),t.pw,t.rb,λs hs=>?_,?_,by lia⟩,rfl⟩
   ·rw[Ff _ (by rw[en];rfl),B.ky]
   ·rcases t.st s hs with q|q|q
    ·exact .inl q
    ·exact .inr (by rw[q];exact kn)
    ·exact .inr q
   ·have z:=congrArg List.length (Ff (kvs:=kvs) (k:=Sum.inl n) (.bl true) (by rw[en];rfl));rw[cR,cR]at z;rw[z,ms];exact kll
 | cons y ts =>
  refine mD ?_;rw[em]at h5;have ym:y∈(gh es).filter (λy=>(cW kvs (Sum.inl y)).isNone):=by rw[em];simp
  obtain⟨yw,yn⟩:=List.mem_filter.mp ym;have J8:oR rows n y:=⟨n0,es,iJ,yw⟩;obtain⟨y0,y1⟩:=vm.Hj J8;obtain⟨up1,up2⟩:=t.up y (hrb y) (Bw n y J8);have wl:=congrArg List.length t.eq;rw[dM]at wl;refine⟨_,rfl,.inl ⟨rfl,_,bQ.of hW5⟩,_,rfl,acc,_,_,_,rfl,rfl,bQ.of h5,gz (xs:=V.int y::ts.map V.int) (j:=0) rfl,W,_,_,rfl,rfl,hW5,(by rw[cR,← wl];exact aU (by lia)),?_⟩;have pl2:=Lo up2;rw[dM,vK]at pl2;refine⟨100*tU rows.length kvs+(bs.length+50-(ps++[y]).length),?_,bs,ps++[y],ks,kvs,_,_,rfl,⟨(by rw[af,← pQ,t.eq,j5 (l₁:=Ec++zQ++[n])];rfl),(by rw[aK VS.symm];exact hS5),bX UC sm5 (aL W _ _),B.ky,B.tp,λx hx=>?_,λx hx=>?_,up1,up2,B.st,kll,bbl⟩,rfl⟩
  ·rw[dM,vK];lia
  ·rw[← pQ]at hx;rcases List.mem_append.mp hx with q|q
   ·exact B.rg x q
   ·have:x=y:=by simpa using q
    subst this;exact⟨y0,y1⟩
  ·rcases List.mem_append.mp hx with q|q
   ·exact B.ns x q
   ·have:x=y:=by simpa using q
    subst this;intro q;unfold seen at q
    cases w:cW kvs (Sum.inl x) with
    | none=>rw[w]at q;cases q
    | some o=>rw[w]at yn;cases yn
structure Bfs(rows:dJ)(H:Hp)(W S:Addr)(s:Int)(H2:Hp)(vs:List V)(wl:dJ)(kvs:List (iL × V)):Prop where
 hW:H2 W=some (.lst vs)
 hl:cE (iR (λa=>a=W\/a=S) H2) vs wl
 hS:H2 S=some (.dK kvs)
 sm:aM H H2
 wk:∀ w∈wl,w.length<=kvs.length+1/\∃ e,w.getLast?=some e/\0<=e/\e<rows.length/\(e=s\/Reach (oR rows) s e)
 kl:kvs.length+tU rows.length kvs<=rows.length
inductive Q8(vs:List V)(H:Hp)(Q:VK)(E:XK):Prop
 | mk (r:Addr) (rows:dJ) (s g:Int) (_:vs=[.ref r,.int s,.int g]) (_:jf H r (rows.map aI)) (_:rows.length<=1000) (_:(∀ es∈rows,es.length<=1000)) (_:jH rows) (_:0<=s) (_:s<rows.length) (_:¬ Reach (oR rows) s g) (_:∀ H',aM H H'->Q .iZ H')
theorem mG:aH ["rows","start","goal","ways","seen","way","number"] ["rows","start","goal"] (aA lN):=iW
def muW(n:Nat)(W S:Addr):L2.St->Hp->Nat:=λ_ H=>match H W,H S with
 | some (.lst vs),some (.dK kvs)=>2*tU n kvs+vs.length
 | _,_=>0
theorem Q9{n:Nat}{W S:Addr}{σ:L2.St}{H:Hp}{vs:List V}{kvs:List (iL × V)}(h1:H W=some (.lst vs))(h2:H S=some (.dK kvs)):muW n W S σ H=2*tU n kvs+vs.length:=by
 unfold muW;rw[h1,h2]
def VT(rows:dJ)(H:Hp)(r W S:Addr)(s g:Int)(σ:L2.St)(H2:Hp):Prop:=∃ (vs:List V) (wl:dJ) (kvs:List (iL × V)) (u v:Option V),σ=[some (.ref r),some (.int s),some (.int g),some (.ref W),some (.ref S),u,v]/\Bfs rows H W S s H2 vs wl kvs/\vs.length+2*tU rows.length kvs<=2*rows.length+1
theorem C3{f:Addr}(F:iH K "way_between" "way_between" lN f fd)(T:nI mg)(cN:aC K mg "windows" gH oS fI DT):aF P w K mg zt bI 2 f fd Pn Q8:=by
 have C0:aF P w K mg zt bI 1 fI DT oS Ln:=CZ cN.F T;refine jg F mG λdH A zn s0 H vs Q E hr h=>?_;obtain⟨r,rows,s,g,rfl,hR,gj,hes,vm,h0,h1,nr,kN⟩:=h;have hu:=kj hr;refine⟨_,(aj (bh (i:=3) mG.nd (bO (aa (bO (aa (pv 1) ah)) ah))) (aj (bh (i:=4) mG.nd rP) (aj (Cf PassesOwn.never (rC (pv 3) (λ_=>rfl)) (aj (bh (i:=5) mG.nd (iu wG PySem.F.slot_list_pop PySem.F.type_list_pop Qd (pv 3) (aa ay ah))) (au (ie PassesOwn.never rfl (dc (aG cN C0 hr (aa (aX bW (pv 0) (aX bW (pv 5) (oO kg ay))) ah))) (cB (i:=6) mG.nd) (aj (bU (bq ig (pv 6) (pv 2) (bC _)) (au (aN (bz nM (pv 5) (bO (aa (pv 2) ah))))) br) (au (bU (FQ (EZ hu (pv 6) (pv 4))) (aj (ze hu (pv 4) (pv 6) vh rfl) (au (bu (iu wG qZ rf cH (pv 3) (aa (bz nM (pv 5) (bO (aa (pv 6) ah))) ah))))) br))))))) (au (aN FP))))),?_⟩;refine⟨_,rfl,qv,λa0 VQ=>⟨qv,λW hW=>?_⟩⟩;intro S hS;have s1:aM H (aO H a0 (.lst [.int s])):=ao VQ _;have s2:=s1.trans (ao hW (.lst [.ref a0]));have s3:=s2.trans (ao hS (.dK []))
 have UC:H W=none:=by
  cases e:H W with
  | none=>rfl
  | some o=>exact absurd ((s1 _ _ e).symm.trans hW) (by simp)
 have H0S:H S=none:=by
  cases e:H S with
  | none=>rfl
  | some o=>exact absurd ((s2 _ _ e).symm.trans hS) (by simp)
 have VS:W≠S:=az af hS;have n0W:a0≠W:=az af hW;have n0S:a0≠S:=az (ao hW _ _ _ af) hS;refine⟨λm σ H2=>m=muW rows.length W S σ H2/\VT rows H r W S s g σ H2,⟨_,rfl,?_⟩,?_⟩
 ·have cl:=CM rows.length (λi=>(cW ([]:List (iL × V)) (Sum.inl (i:Int))).isNone);refine⟨[.ref a0],[[s]],[],none,none,rfl,⟨ao hS _ _ _ af,.cons ⟨a0,rfl,(λz=>z.elim n0W n0S),ao hS _ _ _ (ao hW _ _ _ af)⟩ .nil,af,s3,?_,?_⟩,?_⟩
  ·intro w hw;have:w=[s]:=by simpa using hw
   subst this;exact⟨by simp,s,rfl,h0,h1,.inl rfl⟩
  ·show 0+tU rows.length []<=rows.length;unfold tU;lia
  ·show 1+2*tU rows.length []<=_;unfold tU;lia
 ·rintro m σ H2 ⟨rfl,vs,wl,kvs,u,v,rfl,B,hml⟩;rw[Q9 B.hW B.hS];refine⟨_,rfl,!vs.isEmpty,.inl ⟨vs,bQ.of B.hW,rfl⟩,?_⟩
  cases vs with
  | nil =>
   exact jK (kN H2 B.sm)
  | cons v0 Ga =>
   refine mD ⟨fun σ' H'=>VT rows H r W S s g σ' H'/\muW rows.length W S σ' H'<2*tU rows.length kvs+(v0::Ga).length,fun σ' H' ⟨p,l⟩=>⟨_,l,rfl,p⟩,?_⟩;obtain⟨hW2,EF,XX,sm2,wk2,kl2⟩:=id B
   cases EF with
   | @cons _ w0 _ YU hv0 ad4 =>
   obtain⟨wa,rfl,nwa,hwa⟩:=id hv0;obtain⟨wlw,e,hle,e0,e1,es0⟩:=wk2 w0 (by simp)
   have wal:∃ w1,w0=w1++[e]:=by
    rw[List.getLast?_eq_some_iff]at hle;exact hle
   obtain⟨w1,rfl⟩:=wal;obtain⟨es,iJ⟩:∃ es,rows[e.toNat]?=some es:=⟨_,pP (by lia)⟩;have ad5:es∈rows:=vf iJ;have X8:=hes es ad5;refine⟨_,rfl,.inl ⟨rfl,_,bQ.of hW2⟩,W,_,0,0,.ref wa,rfl,rfl,hW2,by decide,by decide,(by simp[seqIndex?]),rfl,?_⟩;have ee:(V.ref wa::Ga).eraseIdx 0=Ga:=rfl;rw[ee];have aan:∀ {v:V} {ns:List Int},iR (λa=>a=W\/a=S) H2 v ns->iR (λa=>a=W\/a=S) (aO H2 W (.lst Ga)) v ns:=λh=>h.at _ (.inl rfl);have Rc:aM H (aO H2 W (.lst Ga)):=bX UC sm2 (aL W _ _);obtain⟨Bx,Oo,zu⟩:=hR.same Rc;obtain⟨vi,Gn,hI⟩:=zu.get' (i:=e.toNat) (b:=aI es) (by rw[kF,iJ];rfl);obtain⟨b,SJ,rfl,hb,uG⟩:=id hI
   have ad6:(aO H2 W (.lst Ga)) wa=some (.lst (w1.map V.int++[.int e])):=by
    rw[aK (λz=>nwa (.inl z)),hwa,j5];rfl
   have hil:=wR es [];refine⟨_,rfl,_,rfl,_,rfl,wa,_,_,_,rfl,rfl,bQ.of ad6,pY _ _,r,_,_,_,rfl,rfl,bQ.of Oo,?_,b,aI es,rfl,hI,?_,λz H4 hz s4 nz=>?_⟩
   ·have z:=gz Gn;rw[show ((e.toNat:Nat):Int)=e by lia]at z;exact z
   ·show (es.foldl bG []).length<=_;simp only[xr]at hil;lia
   rw[lU]at hz;have hW3:(aO H2 W (.lst Ga)) W=some (.lst Ga):=af;have OA:(aO H2 W (.lst Ga)) S=some (.dK kvs):=by rw[aK VS.symm];exact XX
   have nzW:z≠W:=(az hW3 nz).symm;have nzS:z≠S:=(az OA nz).symm;have adY:(gh es).length<=es.length:=List.length_filterMap_le _ es;refine⟨z,rfl,⟨_,bQ.of hz⟩,gB (K:=K) (a:=z) (xs:=(gh es).map V.int) (λi σ H5=>∃ (SM:List V) (YV:dJ) (vE:List (iL × V)) (v:Option V),σ=[some (.ref r),some (.int s),some (.int g),some (.ref W),some (.ref S),some (.ref wa),v]/\ Bfs rows H W S s H5 SM YV vE/\iR (λa=>a=W\/a=S) H5 (.ref wa) (w1++[e])/\iR (λa=>a=W\/a=S) H5 (.ref z) (gh es)/\SM.length+2*tU rows.length vE<=Ga.length+2*tU rows.length kvs/\kvs.length<=vE.length) ?_ ?_ ?_ ?_⟩
   ·refine⟨Ga,YU,kvs,_,rfl,⟨s4 _ _ hW3,ad4.mono λ_ _ h=>(aan h).same s4,s4 _ _ OA,Rc.trans s4,λw hw=>wk2 w (sH _ hw),kl2⟩,(aan hv0).same s4,⟨z,rfl,λq=>q.elim nzW nzS,hz⟩,ja _,ja _⟩
   ·rintro i σ H5 _ ⟨_,_,_,_,_,_,_,⟨a,ea,_,ha⟩,_⟩;cases ea;exact bQ.of ha
   ·rintro i x σ H5 hi ⟨SM,YV,vE,v,rfl,B5,UD,hz5,YW,hk5⟩;rw[kF]at hi;obtain⟨y,ey,rfl⟩:=Option.map_eq_some_iff.mp hi;have J8:oR rows e y:=⟨e0,es,iJ,vf ey⟩;obtain⟨y0,y1⟩:=vm.Hj J8
    have sy:Reach (oR rows) s y:=by
     rcases es0 with rfl|q
     ·exact .one J8
     ·exact .step q J8
    obtain⟨wa',ewa,ad8,aao⟩:=id UD;cases ewa;have wl0:(w1++[e]).length<=2000:=by have:=B5.kl;lia
    refine⟨_,rfl,_,rfl,rfl,_,rfl,dN (λc=>?_) (λc=>?_)⟩
    ·have eg:y=g:=V.int.inj (of_decide_eq_true c);exact absurd (eg ▸ sy) nr
    ·refine⟨_,rfl,_,rfl,S,_,rfl,ng.k (k:=Sum.inl y) B5.hS,_,rfl,?_⟩
     cases ev:cW vE (Sum.inl y) with
     | some o1 =>
      refine jK ?_;exact⟨SM,YV,vE,_,rfl,B5,UD,hz5,YW,hk5⟩
     | none =>
      refine mD ?_;have kll:=B5.kl;refine⟨_,rfl,_,rfl,S,_,rfl,F9.k (k:=Sum.inl y) B5.hS (aU (by lia)),?_⟩;have e6:∀ {v:V} {ns:List Int},iR (λa=>a=W\/a=S) H5 v ns->iR (λa=>a=W\/a=S) (aO H5 S (.dK (iC vE (Sum.inl y) (.bl true)))) v ns:=λh=>h.at _ (.inr rfl);have s6:aM H (aO H5 S (.dK (iC vE (Sum.inl y) (.bl true)))):=bX H0S B5.sm (aL S _ _);have SK:(aO H5 S (.dK (iC vE (Sum.inl y) (.bl true)))) W=some (.lst SM):=by rw[aK VS];exact B5.hW
      have aap:(aO H5 S (.dK (iC vE (Sum.inl y) (.bl true)))) wa=some (.lst ((w1++[e]).map V.int)):=by rw[aK (λq=>ad8 (.inr q))];exact aao
      have X9:(aO H5 S (.dK (iC vE (Sum.inl y) (.bl true)))) S=some (.dK (iC vE (Sum.inl y) (.bl true))):=af;generalize aO H5 S (.dK (iC vE (Sum.inl y) (.bl true)))=H6 at e6 s6 SK aap X9;have vl:SM.length<sizeLine:=aU (by simp only[qE]at hml;lia);refine⟨_,rfl,.inl ⟨rfl,_,bQ.of SK⟩,_,rfl,_,rfl,qv,λb1 MR=>⟨wa,b1,_,_,rfl,rfl,ao MR _ _ _ aap,af,j9 (aU (by rw[cR];simp at wl0 ⊢;lia)),λo ho=>⟨W,_,_,rfl,rfl,ao ho _ _ _ (ao MR _ _ _ SK),vl,?_⟩⟩⟩;have s7:aM H6 (aO H6 b1 (.lst [.int y])):=ao MR _;have s8:=s7.trans (ao ho (.lst ((w1++[e]).map V.int++[.int y])));have noW:o≠W:=(az (s7 _ _ SK) ho).symm;have noS:o≠S:=(az (s7 _ _ X9) ho).symm;have e9:∀ {v:V} {ns:List Int},iR (λa=>a=W\/a=S) H5 v ns->iR (λa=>a=W\/a=S) (aO (aO (aO H6 b1 (.lst [.int y])) o (.lst ((w1++[e]).map V.int++[.int y]))) W (.lst (SM++[.ref o]))) v ns:=λh=>((e6 h).same s8).at _ (.inl rfl);have mp:=IE (n:=rows.length) (.bl true) y0 y1 ev;have pl:(iC vE (Sum.inl y) (.bl true)).length=vE.length+1:=by rw[CC _ ev];simp
      refine⟨SM++[.ref o],YV++[w1++[e]++[y]],iC vE (Sum.inl y) (.bl true),_,rfl,⟨af,cE.snoc (B5.hl.mono λ_ _ h=>e9 h) ⟨o,rfl,λq=>q.elim noW noS,?_⟩,?_,bX UC (s6.trans s8) (aL W _ _),?_,?_⟩,e9 UD,e9 hz5,?_,?_⟩
      ·rw[aK noW,af,j5 (l₁:=w1++[e])];rfl
      ·rw[aK VS.symm];exact s8 _ _ X9
      ·intro w hw;rcases List.mem_append.mp hw with q|q
       ·obtain⟨q2,q3⟩:=B5.wk w q;exact⟨by lia,q3⟩
       ·have:w=w1++[e]++[y]:=by simpa using q
        subst this;refine⟨?_,y,by simp,y0,y1,.inr sy⟩;rw[dM,vK,pl];lia
      ·lia
      ·rw[dM,vK];lia
      ·lia
   ·rintro σ H5 ⟨SM,YV,vE,v,rfl,B5,UD,hz5,YW,hk5⟩;simp only[qE]at hml;refine⟨⟨SM,YV,vE,_,_,rfl,B5,by lia⟩,?_⟩;rw[Q9 B5.hW B5.hS,qE];lia
inductive Rf(vs:List V)(H:Hp)(Q:VK)(E:XK):Prop
 | mk (r:Addr) (s:Int) (_:vs=[.ref r,.int s]) (_:Q8 [.ref r,.int s,.int s] H Q E)
theorem Yb:aH ["rows","sheet"] ["rows","sheet"] (aA HS):=iW
theorem UE{f:Addr}(F:iH K "ring" "ring" HS f fd)(T:nI mg)(cN:aC K mg "windows" gH oS fI DT)(lV:aC K mg "way_between" lN Pn fJ fdJ):aF P w K mg zt bI 3 f fd vz Rf:=by
 have Gp:aF P w K mg zt bI 2 fJ fdJ Pn Q8:=C3 lV.F T cN;refine jg F Yb λdH A zn s H vs Q E hr h=>?_;obtain⟨r,s,rfl,h⟩:=h;refine⟨_,(au (aN (aG lV Gp hr (aa (pv 0) (aa (pv 1) (aa (pv 1) ah)))))),?_⟩;refine⟨_,rfl,_,rfl,_,rfl,?_⟩;obtain⟨r',rows,s',g,e,h1,h2,h3,h4,h5,h6,nr,kN⟩:=h;cases e;exact⟨r,rows,s,s,rfl,h1,h2,h3,h4,h5,h6,nr,kN⟩
def qc(f:Int->Int)(es:List Int):Int:=(es.map λe=>if e<0 then 1+f (-1-e) else 1).sum
def Gq(f:Int->Int):aV->Int
 | .win n=>1+f n
 | .aP a b=>b-a
def IP(f:Int->Int)(aQ:List aV):Int:=(aQ.map (Gq f)).sum
theorem rS(f:Int->Int)(a b:List aV):IP f (a++b)=IP f a+IP f b:=by unfold IP;rw[j5,List.sum_append]
theorem Rg(f:Int->Int)(t:List aV)(e:Int):IP f (bG t e)=IP f t+(if e<0 then 1+f (-1-e) else 1):=by
 unfold bG;by_cases h:e<0
 ·rw[if_pos h,if_pos h,rS];simp[IP,Gq]
 ·rw[if_neg h,if_neg h];rcases vL t with rfl|⟨t',l,rfl⟩
  ·simp[IP,Gq];lia
  ·rw[uc,xZ]
   cases l with
   | win n =>
    show IP f (t'++[aV.win n]++[.aP e (e+1)])=_;rw[rS];simp[IP,Gq];lia
   | aP a b =>
    show IP f (if b=e then (t'++[aV.aP a b]).dropLast++[.aP a (e+1)] else (t'++[aV.aP a b])++[.aP e (e+1)])=_;by_cases hb:b=e
    ·rw[if_pos hb,List.dropLast_concat,rS,rS];simp[IP,Gq];lia
    ·rw[if_neg hb,rS];simp[IP,Gq];lia
theorem OB(f:Int->Int)(es:List Int):IP f (aI es)=qc f es:=by
 have z:∀ t:List aV,IP f (es.foldl bG t)=IP f t+qc f es:=by
  induction es with
  | nil=>intro t;simp[qc]
  | cons e es ih =>
   intro t;rw[rj,ih,Rg];unfold qc;rw[oJ,List.sum_cons];lia
 have:=z [];unfold aI;rw[this];simp[IP]
def Weighs(rows:dJ)(f:Int->Int):Prop:=∀ (x:Int) (es:List Int),0<=x->rows[x.toNat]?=some es->f x=qc f es
def wF(rows:dJ):Nat->Int->Int
 | 0,_=>0
 | k+1,x=>match rows[x.toNat]? with
  | some es=>qc (wF rows k) es
  | none=>0
theorem Lp{f g:Int->Int}{es:List Int}(h:∀ y∈gh es,f y=g y):qc f es=qc g es:=by
 unfold qc;congr 1;refine List.map_congr_left λe he=>?_;by_cases c:e<0
 ·rw[if_pos c,if_pos c,h (-1-e) (cK.mpr ⟨by lia,by rw[show -1-(-1-e)=e by lia];exact he⟩)]
 ·rw[if_neg c,if_neg c]
theorem OC{rows:dJ}(h:Gb rows):∃ f,Weighs rows f:=by
 obtain⟨rk,hb,hd⟩:=h
 have key:∀ (k:Nat) (x:Int),0<=x->rk x<k->wF rows k x=wF rows (k+1) x:=by
  intro k
  induction k with
  | zero=>intro x _ h;lia
  | succ k ih =>
   intro x x0 hx
   cases e:rows[x.toNat]? with
   | none=>simp[wF,e]
   | some es =>
    have e1:wF rows (k+1) x=qc (wF rows k) es:=by simp[wF,e]
    have e2:wF rows (k+1+1) x=qc (wF rows (k+1)) es:=by
     show (match rows[x.toNat]? with|some es=>qc (wF rows (k+1)) es|none=>0)=_;rw[e]
    rw[e1,e2];refine Lp λy hy=>ih y (cK.mp hy).1 ?_;have:=hd x y ⟨x0,es,e,hy⟩;lia
 refine⟨wF rows 41,λx es x0 he=>?_⟩;rw[key 41 x x0 (by have:=hb x;lia)];show (match rows[x.toNat]? with|some es=>qc (wF rows 41) es|none=>0)=_;rw[he]
inductive aar(vs:List V)(H:Hp)(Q:VK)(E:XK):Prop
 | mk (v:V) (it:aV) (S:Addr) (kvs:List (iL × V)) (f:Int->Int) (_:vs=[v,.ref S]) (_:dO H v it) (_:H S=some (.dK kvs)) (_:(∀ n,it=.win n->cW kvs (Sum.inl n)=some (.int (f n)))) (_:Q (.int (Gq f it)) H)
theorem Ed:aH ["item","weights"] ["item","weights"] (aA lO):=iW
theorem C4{g:Addr}(F:iH K "item_weight" "item_weight" lO g fd)(T:nI mg):aF P w K mg zt bI 1 g fd Po aar:=by
 refine jg F Ed λdH A zn s H vs Q E hr h=>?_;obtain⟨v,it,S,kvs,f,rfl,⟨a,rfl,ha⟩,hS,hw,k⟩:=h;have hu:=kj hr;refine⟨_,(aj (bU (bq ig (aX bw (pv 0) ay) bK (bC _)) (au (aN (bz eT ay (kq hu (pv 1) (aX bw (pv 0) ay))))) br) (au (aN (bz cY (aX bw (pv 0) ay) (aX bw (pv 0) ay))))),?_⟩
 cases it with
 | win n =>
  refine⟨_,rfl,a,_,_,_,rfl,rfl,eL.of ha,rfl,rfl,_,rfl,dN (λ_=>?_) (λz=>absurd (by decide) z)⟩;have z:=ng.k (k:=Sum.inl n) hS;rw[hw n rfl]at z;exact⟨_,rfl,_,rfl,a,_,_,_,rfl,rfl,eL.of ha,rfl,S,_,rfl,z,_,_,rfl,rfl,k⟩
 | aP p q =>
  refine⟨_,rfl,a,_,_,_,rfl,rfl,eL.of ha,rfl,rfl,_,rfl,dN (λz=>absurd z (by decide)) (λ_=>?_)⟩;exact⟨_,rfl,a,_,_,_,rfl,rfl,eL.of ha,rfl,_,rfl,a,_,_,_,rfl,rfl,eL.of ha,rfl,_,_,rfl,rfl,k⟩
inductive C5(vs:List V)(H:Hp)(Q:VK)(E:XK):Prop
 | mk (r L:Addr) (rows:dJ) (ss:List Int) (f:Int->Int) (_:vs=[.ref r,.ref L]) (_:jf H r (rows.map aI)) (_:H L=some (.lst (ss.map V.int))) (_:ss.length<=1000) (_:rows.length<=1000) (_:(∀ es∈rows,es.length<=1000)) (_:jH rows) (_:Gb rows) (_:(∀ s∈ss,0<=s/\s<rows.length)) (_:Weighs rows f) (_ :
 ∀ (S:Addr) (kvs:List (iL × V)) (H':Hp),H' S=some (.dK kvs)->(∀ s∈ss,cW kvs (Sum.inl s)=some (.int (f s)))->aM H H'->H S=none->Q (.ref S) H')
theorem qw:aH ["rows","sheets","weights","number"] ["rows","sheets"] (aA jD):=iW
theorem Ao{g fW:Addr}(F:iH K "weights_below" "weights_below" jD g fd)(T:nI mg)(cN:aC K mg "windows" gH oS fI DT)(jv:aC K mg "below" m6 mU fB UG)(lW:aC K mg "item_weight" lO Po fW MT):aF P w K mg zt bI 3 g fd mU C5:=by
 have Lq:aF P w K mg zt bI 2 fB UG mU Gm:=IM jv.F T cN;have Gr:aF P w K mg zt bI 1 fW MT Po aar:=C4 lW.F T;refine jg F qw λdH A zn s0 H vs Q E hr h=>?_;obtain⟨r,L,rows,ss,f,rfl,hR,hL,hsl,gj,hes,vm,Bw,hin,hf,k⟩:=h;have hu:=kj hr;refine⟨_,(aj (bh (i:=2) qw.nd rP) (aj (ie PassesOwn.never rfl (dc (aG jv Lq hr (aa (pv 0) (aa (pv 1) ah)))) (cB (i:=3) qw.nd) (au (ze hu (pv 2) (pv 3) (cL (HY rfl) rfl T.VP PyProof.Rows.boot_sum (aa (jX (N:=["item","weights"]) (rR (sc:=aA jD) (NX:=["rows","sheets","weights","number"]) (jx:=[none,some 2]) rfl rfl rfl (by decide +kernel) (by decide +kernel) rfl (by decide +kernel) rfl (by decide +kernel)) rfl (dc (aX bW (pv 0) (pv 3))) (λ_ _ _ _ _ _=>(cB (i:=0) (show List.Nodup (["item","weights"]:List Str) by decide +kernel))) (λ_ _ _ _ _ _=>ko) (λ_ _ _ _ _ _=>(aG lW Gr hr (aa (pv 0) (aa (pv 1) ah))))) ah)) rfl))) (au (aN (pv 2))))),?_⟩;intro S hS;have s1:aM H (aO H S (.dK [])):=ao hS _;refine⟨_,rfl,_,rfl,r,L,rows,ss,rfl,hR.same s1,s1 _ _ hL,hsl,gj,hes,vm,Bw,hin,λks o H2 ho s2 tp sk kl Vu=>?_⟩;have XX:=s2 _ _ (af (H:=H) (a:=S) (o:=.dK []));have noS:o≠S:=(az af Vu).symm;refine⟨o,rfl,⟨_,bQ.of ho⟩,gB (K:=K) (a:=o) (xs:=ks.map V.int) (λi σ H3=>∃ (kvs:List (iL × V)) (u:Option V),σ=[some (.ref r),some (.ref L),some (.ref S),u]/\H3 S=some (.dK kvs)/\(∀ y∈ks.take i,cW kvs (Sum.inl y)=some (.int (f y)))/\kvs.length<=i/\(∀ a ob,a≠S->H2 a=some ob->H3 a=some ob)) ⟨[],none,rfl,XX,(λy hy=>by simp at hy),ja _,λ_ _ _ e=>e⟩ ?_ ?_ ?_⟩
 ·rintro i σ H3 _ ⟨_,_,_,_,_,_,k3⟩;exact bQ.of (k3 o _ noS ho)
 ·rintro i x σ H3 hi ⟨kvs,u,rfl,OA,Pb,hk3,k3⟩;rw[kF]at hi;obtain⟨x,ex,rfl⟩:=Option.map_eq_some_iff.mp hi;obtain⟨x0,x1⟩:=tp.DV x (vf ex);obtain⟨es,iJ⟩:∃ es,rows[x.toNat]?=some es:=⟨_,pP (by lia)⟩;have X8:=hes es (vf iJ);have Rc:aM H H3:=λa ob e=>k3 a ob (az e hS) (s2 _ _ (s1 _ _ e));obtain⟨Bx,Oo,zu⟩:=hR.same Rc;obtain⟨vi,Gn,hI⟩:=zu.get' (i:=x.toNat) (b:=aI es) (by rw[kF,iJ];rfl);obtain⟨b,SJ,rfl,hb,uG⟩:=id hI;have hil:=wR es []
  have ajj:(aI es).length<=1000:=by
   show (es.foldl bG []).length<=_;simp only[xr]at hil;lia
  have zw:vC Bx x=some (.ref b):=by
   have z:=gz Gn;rw[show ((x.toNat:Nat):Int)=x by lia]at z;exact z
  refine⟨_,rfl,_,rfl,r,_,_,_,rfl,rfl,bQ.of Oo,zw,b,rfl,⟨_,bQ.of hb⟩,λacc dh=>jS (K:=K) (a:=b) (xs:=SJ) (λj σ H5=>∃ u:Option V,σ=[u,some (.ref S)]/\H5 acc=some (.lst ((((aI es).take j).map (Gq f)).map V.int))/\aM H3 H5) ⟨none,rfl,af,ao dh _⟩ (λj σ H5 _ ⟨_,_,_,s5⟩=>bQ.of (s5 _ _ hb)) ?_ ?_⟩
  ·rintro j v σ H5 hj ⟨u,rfl,h5,s5⟩;obtain⟨it,ei,hiv⟩:=uG.get hj;have st:=take_snoc ei;unfold xF QC;refine mD ⟨_,rfl,_,rfl,v,it,S,kvs,f,rfl,hiv.same s5,s5 _ _ OA,λn hn=>?_,?_⟩
   ·subst hn;refine Pb n (tp.dn i x ex n ⟨x0,es,iJ,?_⟩);rw[← lU];unfold iI;rw[List.mem_filterMap];exact⟨.win n,vf ei,rfl⟩
   ·refine⟨_,h5,(by rw[cR,cR,jV];exact aU (by lia)),_,rfl,?_,bX dh s5 (aL acc _ _)⟩;rw[af,st,j5,j5];rfl
  ·rintro σ H5 ⟨u,rfl,h5,s5⟩;rw[uG.len,lI]at h5;have es1:((aI es).map (Gq f)).sum=f x:=by rw[hf x es x0 iJ];exact OB f es
   have hS5:=s5 _ _ OA
   have kvl:i<ks.length:=by
    rcases Nat.lt_or_ge i ks.length with q|q
    ·exact q
    ·rw[List.getElem?_eq_none q]at ex;cases ex
   refine⟨acc,_,rfl,bQ.of h5,?_⟩;rw[es1];refine⟨_,rfl,_,rfl,S,_,rfl,F9.k (k:=Sum.inl x) hS5 (aU (by lia)),?_⟩;refine⟨iC kvs (Sum.inl x) (.int (f x)),_,rfl,af,λy hy=>?_,?_,λa ob n e=>?_⟩
   ·rw[pZ];rw[take_snoc ex]at hy;by_cases c:y=x
    ·rw[if_pos (by rw[c]),c]
    ·rw[if_neg (λz=>c (Sum.inl.inj z))];rcases List.mem_append.mp hy with q|q
     ·exact Pb y q
     ·exact absurd (by simpa using q) c
   ·have:=kQ kvs (Sum.inl x) (V.int (f x));lia
   ·rw[aK n];exact s5 _ _ (k3 a ob n e)
 ·rintro σ H3 ⟨kvs,u,rfl,OA,Pb,hk3,k3⟩;rw[cR,lI]at Pb;exact⟨_,rfl,k S kvs H3 OA (λs hs=>Pb s (sk s hs)) (λa ob e=>k3 a ob (az e hS) (s2 _ _ (s1 _ _ e))) hS⟩
def vn(g:Int->Row):aV->Row
 | .win n=>g n
 | .aP a b=>[(a,b)]
def aY(sh:Int->List Int)(e:Int):List Int:=if e<0 then sh (-1-e) else [e]
def aW(sh:Int->List Int)(es:List Int):List Int:=es.flatMap (aY sh)
def rT(rows:dJ)(sh:Int->List Int):Prop:=∀ (x:Int) (es:List Int),0<=x->rows[x.toNat]?=some es->sh x=aW sh es
def bx(sh:Int->List Int)(aQ:List aV):Row:=aQ.flatMap (vn λn=>cV (sh n))
def xO(t:List aV):Prop:=∀ a b,aV.aP a b∈t->a<b
theorem gX(sh:Int->List Int)(a b:List aV):bx sh (a++b)=bx sh a++bx sh b:=by unfold bx;rw[List.flatMap_append]
theorem nu(sh:Int->List Int)(it:aV):bx sh [it]=vn (λn=>cV (sh n)) it:=by simp[bx]
theorem OD(sh:Int->List Int)(t:List aV)(e:Int)(ok:xO t):bS (bx sh (bG t e))=bS (bx sh t)++aY sh e/\xO (bG t e):=by
 have add:∀ it:aV,(∀ a b,it=.aP a b->a<b)->xO (t++[it]):=λit h a b hm=>by
  rcases List.mem_append.mp hm with z|z
  ·exact ok a b z
  ·exact h a b (List.mem_singleton.mp z).symm
 unfold bG;by_cases h:e<0
 ·rw[if_pos h];refine⟨?_,add _ λa b z=>by cases z⟩;rw[gX,dF,nu];show _++bS (cV (sh (-1-e)))=_;rw[je];unfold aY;rw[if_pos h]
 ·rw[if_neg h]
  have one:bS [(e,e+1)]=[e]:=by
   rw[jG];unfold oK;have:(e+1-e).toNat=1:=by lia
   show run e (e+1-e).toNat=_;rw[this];rfl
  have es1:aY sh e=[e]:=by unfold aY;rw[if_neg h]
  have zx:bS (bx sh (t++[.aP e (e+1)]))=bS (bx sh t)++aY sh e/\xO (t++[.aP e (e+1)]):=by
   refine⟨?_,add _ λa b z=>by cases z;lia⟩;rw[gX,dF,nu,es1];show _++bS [(e,e+1)]=_;rw[one]
  rcases vL t with rfl|⟨t',l,rfl⟩
  ·exact zx
  ·rw[uc]at ok add zx ⊢;rw[xZ]
   cases l with
   | win n=>exact zx
   | aP a b =>
    show bS (bx sh (if b=e then (t'++[aV.aP a b]).dropLast++[.aP a (e+1)] else (t'++[aV.aP a b])++[.aP e (e+1)]))=_/\xO (if b=e then (t'++[aV.aP a b]).dropLast++[.aP a (e+1)] else (t'++[aV.aP a b])++[.aP e (e+1)]);by_cases hb:b=e
    ·subst hb;have ab:=ok a b (by simp);rw[if_pos rfl,List.dropLast_concat];refine⟨?_,λp q hm=>?_⟩
     ·rw[gX,gX,dF,dF,nu,nu,es1,pQ];congr 1;show bS [(a,b+1)]=bS [(a,b)]++[b];rw[jG,jG];unfold oK;show run a (b+1-a).toNat=run a (b-a).toNat++[b];have:(b+1-a).toNat=(b-a).toNat+1:=by lia
      rw[this,Cu];congr 2;lia
     ·rcases List.mem_append.mp hm with z|z
      ·exact ok p q (xY _ z)
      ·have z':aV.aP p q=aV.aP a (b+1):=by simpa using z
       cases z';lia
    ·rw[if_neg hb];exact zx
theorem C6(sh:Int->List Int)(es:List Int):bS (bx sh (aI es))=aW sh es/\xO (aI es):=by
 have z:∀ t:List aV,xO t->bS (bx sh (es.foldl bG t))=bS (bx sh t)++aW sh es/\xO (es.foldl bG t):=by
  induction es with
  | nil=>intro t ok;exact⟨by simp[aW],ok⟩
  | cons e es ih =>
   intro t ok;obtain⟨h1,h2⟩:=OD sh t e ok;obtain⟨h3,h4⟩:=ih _ h2;refine⟨?_,h4⟩;rw[rj,h3,h1,pQ];unfold aW;rw[mW]
 have q:=z [] (λa b h=>by cases h);refine⟨?_,q.2⟩;unfold aI;rw[q.1];rfl
theorem OE(sh:Int->List Int)(it:aV)(h:∀ a b,it=.aP a b->a<b):(vn (λn=>cV (sh n)) it).length<=(bS (vn (λn=>cV (sh n)) it)).length:=by
 cases it with
 | win n =>
  show (cV (sh n)).length<=(bS (cV (sh n))).length;rw[je];have z:=Ij (sh n) [];simpa [cV] using z
 | aP a b =>
  have ab:=h a b rfl;show 1<=(bS [(a,b)]).length;rw[jG];unfold oK;show 1<=(run a (b-a).toNat).length;rw[MM];lia
theorem yv(sh:Int->List Int):∀ aQ:List aV,xO aQ->(bx sh aQ).length<=(bS (bx sh aQ)).length
 | [],_=>by simp[bx]
 | it::aQ,h=>by
  have e:bx sh (it::aQ)=vn (λn=>cV (sh n)) it++bx sh aQ:=by unfold bx;rw[mW]
  rw[e,dF,dM,dM];have a:=OE sh it (λa b z=>h a b (by rw[← z];simp));have b:=yv sh aQ (λa b z=>h a b (sH _ z));lia
theorem OF(sh:Int->List Int)(aQ:List aV)(h:xO aQ):∀ p∈bx sh aQ,p.1<=p.2:=by
 intro p hp;unfold bx at hp;obtain⟨it,hi,hm⟩:=List.mem_flatMap.mp hp
 cases it with
 | win n=>exact rN _ p hm
 | aP a b =>
  have:p=(a,b):=by simpa [vn] using hm
  subst this;have:=h a b hi;show a<=b;lia
inductive Aq(vs:List V)(H:Hp)(Q:VK)(E:XK):Prop
 | mk (v:V) (it:aV) (S:Addr) (kvs:List (iL × V)) (g:Int->Row) (_:vs=[v,.ref S]) (_:dO H v it) (_:H S=some (.dK kvs)) (_:(∀ n,it=.win n->∃ a,cW kvs (Sum.inl n)=some (.ref a)/\cM H a (g n))) (_ :
 ∀ (a:Addr) (H':Hp),cM H' a (vn g it)->aM H H'->((∃ n,it=.win n/\cW kvs (Sum.inl n)=some (.ref a))\/H a=none)->Q (.ref a) H')
theorem Lr:aH ["item","views"] ["item","views"] (aA iA):=iW
theorem Bb{f:Addr}(F:iH K "item_row" "item_row" iA f fd)(T:nI mg):aF P w K mg zt bI 1 f fd yP Aq:=by
 refine jg F Lr λdH A zn s H vs Q E hr h=>?_;obtain⟨v,it,S,kvs,g,rfl,⟨a,rfl,ha⟩,hS,hw,k⟩:=h;have hu:=kj hr;refine⟨_,(aj (bU (bq ig (aX bw (pv 0) ay) bK (bC _)) (au (aN (kq hu (pv 1) (aX bw (pv 0) ay)))) br) (au (aN (bO (aa (dX (aa (aX bw (pv 0) ay) (aa (aX bw (pv 0) ay) ah))) ah))))),?_⟩
 cases it with
 | win n =>
  refine⟨_,rfl,a,_,_,_,rfl,rfl,eL.of ha,rfl,rfl,_,rfl,dN (λ_=>?_) (λz=>absurd (by decide) z)⟩;obtain⟨b,hb,Rb⟩:=hw n rfl;have z:=ng.k (k:=Sum.inl n) hS;rw[hb]at z;exact⟨_,rfl,_,rfl,a,_,_,_,rfl,rfl,eL.of ha,rfl,S,_,rfl,z,k b H Rb (aM.refl H) (.inl ⟨n,rfl,hb⟩)⟩
 | aP p q =>
  refine⟨_,rfl,a,_,_,_,rfl,rfl,eL.of ha,rfl,rfl,_,rfl,dN (λz=>absurd z (by decide)) (λ_=>?_)⟩;refine⟨_,rfl,a,_,_,_,rfl,rfl,eL.of ha,rfl,_,rfl,a,_,_,_,rfl,rfl,eL.of ha,rfl,vW,λt ht=>⟨qv,λl hl=>?_⟩⟩;have s1:aM H (aO H t (.tup [.int p,.int q])):=ao ht _;have s2:=s1.trans (ao hl (.lst [.ref t]));refine k l _ ⟨[t],af,.cons ?_ .nil⟩ s2 (.inr ?_)
  ·exact ao hl _ _ _ af
  ·cases e:H l with
   | none=>rfl
   | some o=>exact absurd ((s1 _ _ e).symm.trans hl) (by simp)
theorem bL.IQ{H H':Hp}{S:Addr}{kvs:List (iL × V)}(hS:H S=some (.dK kvs))(k:∀ a ob,a≠S->H a=some ob->H' a=some ob):∀ {as:List Addr} {r:Row},bL H as r->bL H' as r
 | _,_,.nil=>.nil
 | _,_,.cons r t=>.cons (k _ _ (λz=>by
   have r':=r;unfold Ad at r';rw[z,hS]at r'
   cases r') r) (bL.IQ hS k t)
theorem cM.IQ{H H':Hp}{S a:Addr}{kvs:List (iL × V)}{row:Row}(hS:H S=some (.dK kvs))(n:a≠S)(k:∀ a ob,a≠S->H a=some ob->H' a=some ob)(R:cM H a row):cM H' a row:=by
 obtain⟨as,h,p⟩:=R;exact⟨as,k _ _ n h,p.IQ hS k⟩
def MY(H:Hp)(kvs:List (iL × V))(sh:Int->List Int)(xs:List Int):Prop:=∀ x∈xs,∃ a,cW kvs (Sum.inl x)=some (.ref a)/\cM H a (cV (sh x))
inductive wV(vs:List V)(H:Hp)(Q:VK)(E:XK):Prop
 | mk (r L:Addr) (rows:dJ) (ss:List Int) (sh:Int->List Int) (_:vs=[.ref r,.ref L]) (_:jf H r (rows.map aI)) (_:H L=some (.lst (ss.map V.int))) (_:ss.length<=1000) (_:rows.length<=1000) (_:(∀ es∈rows,es.length<=1000)) (_:jH rows) (_:Gb rows) (_:(∀ s∈ss,0<=s/\s<rows.length)) (_:rT rows sh) (_:(∀ x:Int,0<=x->x<rows.length->(sh x).length<=10000)) (_ :
 ∀ (S:Addr) (kvs:List (iL × V)) (ks:List Int) (H':Hp),H' S=some (.dK kvs)->MY H' kvs sh ks->Oz rows ks->(∀ s∈ss,s∈ks)->(∀ x∈ks,∀ a,cW kvs (Sum.inl x)=some (.ref a)->H a=none)->aM H H'->H S=none->Q (.ref S) H')
theorem tW:aH ["rows","sheets","views","number"] ["rows","sheets"] (aA eU):=iW
theorem kU{g fW:Addr}(F:iH K "views_below" "views_below" eU g fd)(T:nI mg)(cN:aC K mg "windows" gH oS fI DT)(jv:aC K mg "below" m6 mU fB UG)(cD:aC K mg "item_row" iA yP fW MT)(eK:aC K mg "plain" mZ iP fP Ot):aF P w K mg zt bI 3 g fd mU wV:=by
 have Lq:aF P w K mg zt bI 2 fB UG mU Gm:=IM jv.F T cN;have Ar:aF P w K mg zt bI 1 fW MT yP Aq:=Bb cD.F T;have CU:aF P w K mg zt bI 1 fP Ot iP BR:=CP eK.F;refine jg F tW λdH A zn s0 H vs Q E hr h=>?_;obtain⟨r,L,rows,ss,sh,rfl,hR,hL,hsl,gj,hes,vm,Bw,hin,AY,E8,k⟩:=h;have hu:=kj hr;refine⟨_,(aj (bh (i:=2) tW.nd rP) (aj (ie PassesOwn.never rfl (dc (aG jv Lq hr (aa (pv 0) (aa (pv 1) ah)))) (cB (i:=3) tW.nd) (au (ze hu (pv 2) (pv 3) (aG eK CU hr (aa (E4 (N:=["item","stretch","views"]) (rR (sc:=aA eU) (NX:=["rows","sheets","views","number"]) (jx:=[none,none,some 2]) rfl rfl rfl (by decide +kernel) (by decide +kernel) rfl (by decide +kernel) rfl (by decide +kernel)) rfl (dc (aX bW (pv 0) (pv 3))) (λ_ _ _ _ _ _=>(cB (i:=0) (show List.Nodup (["item","stretch","views"]:List Str) by decide +kernel))) (λ_ _ _ _ _ _=>ko) (λ_ _ _ _ _ _=>(IA (aG cD Ar hr (aa (pv 0) (aa (pv 2) ah))))) (λ_ _ _ _ _ _=>(cB (i:=1) (show List.Nodup (["item","stretch","views"]:List Str) by decide +kernel))) (λ_ _ _ _ _ _=>ko) (λ_ _ _ _ _ _=>(pv 1))) ah)) rfl))) (au (aN (pv 2))))),?_⟩;intro S hS;have s1:aM H (aO H S (.dK [])):=ao hS _;refine⟨_,rfl,_,rfl,r,L,rows,ss,rfl,hR.same s1,s1 _ _ hL,hsl,gj,hes,vm,Bw,hin,λks o H2 ho s2 tp sk kl Vu=>?_⟩;have XX:=s2 _ _ (af (H:=H) (a:=S) (o:=.dK []));have noS:o≠S:=(az af Vu).symm;refine⟨o,rfl,⟨_,bQ.of ho⟩,gB (K:=K) (a:=o) (xs:=ks.map V.int) (λi σ H3=>∃ (kvs:List (iL × V)) (u:Option V),σ=[some (.ref r),some (.ref L),some (.ref S),u]/\H3 S=some (.dK kvs)/\MY H3 kvs sh (ks.take i)/\kvs.length<=i/\(∀ x a,cW kvs (Sum.inl x)=some (.ref a)->H a=none/\a≠S)/\(∀ a ob,a≠S->H2 a=some ob->H3 a=some ob)) ⟨[],none,rfl,XX,(λy hy=>by simp at hy),ja _,(λx a e=>by cases e),λ_ _ _ e=>e⟩ ?_ ?_ ?_⟩
 ·rintro i σ H3 _ ⟨_,_,_,_,_,_,_,k3⟩;exact bQ.of (k3 o _ noS ho)
 ·rintro i x σ H3 hi ⟨kvs,u,rfl,OA,Pb,hk3,hn3,k3⟩;rw[kF]at hi;obtain⟨x,ex,rfl⟩:=Option.map_eq_some_iff.mp hi;obtain⟨x0,x1⟩:=tp.DV x (vf ex);obtain⟨es,iJ⟩:∃ es,rows[x.toNat]?=some es:=⟨_,pP (by lia)⟩;have Rc:aM H H3:=λa ob e=>k3 a ob (az e hS) (s2 _ _ (s1 _ _ e));obtain⟨Bx,Oo,zu⟩:=hR.same Rc;obtain⟨vi,Gn,hI⟩:=zu.get' (i:=x.toNat) (b:=aI es) (by rw[kF,iJ];rfl);obtain⟨b,SJ,rfl,hb,uG⟩:=id hI;obtain⟨KC,hok⟩:=C6 sh es;have shx:=AY x es x0 iJ
  have lS:(bx sh (aI es)).length<=10000:=by
   have z:=yv sh (aI es) hok;rw[KC,← shx]at z;have:=E8 x x0 x1;lia
  have part:∀ j,(bx sh ((aI es).take j)).length<=10000:=λj=>by
   have e:bx sh (aI es)=bx sh ((aI es).take j)++bx sh ((aI es).drop j):=by rw[← gX,List.take_append_drop]
   rw[e,dM]at lS;lia
  have zw:vC Bx x=some (.ref b):=by
   have z:=gz Gn;rw[show ((x.toNat:Nat):Int)=x by lia]at z;exact z
  refine⟨_,rfl,_,rfl,r,_,_,_,rfl,rfl,bQ.of Oo,zw,b,rfl,⟨_,bQ.of hb⟩,λacc dh=>IB (K:=K) (a:=b) (xs:=SJ) (λj σ H5=>∃ (u v:Option V) (as:List Addr),σ=[u,v,some (.ref S)]/\H5 acc=some (.lst (as.map V.ref))/\bL H5 as (bx sh ((aI es).take j))/\aM H3 H5) ⟨none,none,[],rfl,af,.nil,ao dh _⟩ (λj σ H5 _ ⟨_,_,_,_,_,_,s5⟩=>bQ.of (s5 _ _ hb)) ?_ ?_⟩
  ·rintro j v σ H5 hj ⟨u,u2,as,rfl,h5,p5,s5⟩;obtain⟨it,ei,hiv⟩:=uG.get hj;have st:bx sh ((aI es).take (j+1))=bx sh ((aI es).take j)++vn (λn=>cV (sh n)) it:=by rw[take_snoc ei,gX,nu]
   refine T8 ?_;refine mD ?_;refine⟨_,rfl,_,rfl,v,it,S,kvs,(λn=>cV (sh n)),rfl,hiv.same s5,s5 _ _ OA,λn hn=>?_,λa2 H6 R6 s6 hor=>?_⟩
   ·subst hn
    obtain⟨a,ha,Ra⟩:=Pb n (tp.dn i x ex n ⟨x0,es,iJ,by
     rw[← lU];unfold iI;rw[List.mem_filterMap]
     exact⟨.win n,vf ei,rfl⟩⟩)
    exact⟨a,ha,Ra.same s5⟩
   obtain⟨Yc,h6a,p6⟩:=id R6
   have na2:a2≠acc:=by
    rcases hor with ⟨n,hn,hv⟩|hn
    ·subst hn
     obtain⟨a,ha,as0,h0',_⟩:=Pb n (tp.dn i x ex n ⟨x0,es,iJ,by
      rw[← lU];unfold iI;rw[List.mem_filterMap]
      exact⟨.win n,vf ei,rfl⟩⟩)
     rw[hv]at ha;cases ha;exact az h0' dh
    ·exact (az h5 hn).symm
   have h6:=s6 _ _ h5;have pl:=part (j+1);rw[st,dM]at pl;have al:=p5.len;have al2:=p6.len;refine⟨a2,rfl,⟨_,bQ.of h6a⟩,CJ (K:=K) (a:=a2) (acc:=acc) (g:=xF 1) (tt:=QC) (te:=WN 1) (xs:=Yc.map V.ref) (λl σ H7=>∃ v2:Option V,σ=[some v,v2,some (.ref S)]/\H7 acc=some (.lst ((as++Yc.take l).map V.ref))/\bL H7 (as++Yc.take l) (bx sh ((aI es).take j)++(vn (λn=>cV (sh n)) it).take l)/\cT acc H6 H7/\aM H3 H7) ?_ ?_ ?_ ?_⟩
   ·exact⟨u2,rfl,(by simpa using h6),(by simpa using p5.same s6),(λ_ _ e _=>e),s5.trans s6⟩
   ·rintro l σ H7 _ ⟨_,_,_,_,K7,_⟩;exact bQ.of (K7 a2 _ h6a na2)
   ·rintro l y σ H7 hl ⟨v2,rfl,h7,p7,K7,s7⟩;rw[kF]at hl;obtain⟨t,et,rfl⟩:=Option.map_eq_some_iff.mp hl;obtain⟨pr,epr,hpr⟩:=p6.get et
    have ll:l<Yc.length:=by
     rcases Nat.lt_or_ge l Yc.length with q|q
     ·exact q
     ·rw[List.getElem?_eq_none q]at et;cases et
    have aat:Ad H7 t pr:=K7 t _ hpr (λz=>by
     have q:H6 acc=some (.tup [.int pr.1,.int pr.2]):=by rw[← z];exact hpr
     rw[h6]at q
     cases q)
    have K8:cT acc H7 (aO H7 acc (.lst ((as++Yc.take l).map V.ref++[.ref t]))):=aL acc _ _;refine T8 ?_;refine mD ?_;refine⟨_,rfl,_,h7,?_,_,rfl,?_,?_,?_,bX dh s7 K8⟩
    ·rw[cR,dM,jV];exact aU (by lia)
    ·rw[af,take_snoc et,← pQ,j5 (l₁:=as++Yc.take l)];rfl
    ·rw[take_snoc et,take_snoc epr,← pQ,← pQ]
     exact bL.snoc (p7.keep h7 K8) (K8 t _ aat (λz=>by
      have q:H7 acc=some (.tup [.int pr.1,.int pr.2]):=by rw[← z];exact aat
      rw[h7]at q
      cases q))
    ·exact λa ob e n=>K8 a ob (K7 a ob e n) n
   ·rintro σ H7 ⟨v2,rfl,h7,p7,K7,s7⟩;rw[cR,lI]at h7 p7;rw[al2,lI]at p7;exact⟨_,_,_,rfl,h7,(by rw[st];exact p7),s7⟩
  ·rintro σ H5 ⟨u,u2,as,rfl,h5,p5,s5⟩;rw[uG.len,lI]at p5
   have kvl:i<ks.length:=by
    rcases Nat.lt_or_ge i ks.length with q|q
    ·exact q
    ·rw[List.getElem?_eq_none q]at ex;cases ex
   refine⟨acc,_,rfl,⟨as,h5,p5⟩,by lia,λq H6 R6 s6 hq=>?_⟩;have X9:=s6 _ _ (s5 _ _ OA);have nqS:q≠S:=(az (s5 _ _ OA) hq).symm;have er:cJ (bx sh (aI es))=cV (sh x):=by rw[Cr _ (OF sh _ hok),KC,shx]
   rw[er]at R6;have k7:∀ a ob,a≠S->H6 a=some ob->aO H6 S (.dK (iC kvs (Sum.inl x) (.ref q))) a=some ob:=λa ob n e=>by rw[aK n];exact e
   refine⟨_,rfl,_,rfl,S,_,rfl,F9.k (k:=Sum.inl x) X9 (aU (by lia)),?_⟩;refine⟨iC kvs (Sum.inl x) (.ref q),_,rfl,af,λy hy=>?_,?_,λy a e=>?_,λa ob n e=>k7 a ob n (s6 _ _ (s5 _ _ (k3 a ob n e)))⟩
   ·rw[pZ];by_cases c:y=x
    ·rw[if_pos (by rw[c]),c];exact⟨q,rfl,R6.IQ X9 nqS k7⟩
    ·rw[if_neg (λz=>c (Sum.inl.inj z))];rw[take_snoc ex]at hy;rcases List.mem_append.mp hy with z|z
     ·obtain⟨a,ha,Ra⟩:=Pb y z;exact⟨a,ha,((Ra.same s5).same s6).IQ X9 (hn3 y a ha).2 k7⟩
     ·exact absurd (by simpa using z) c
   ·have:=kQ kvs (Sum.inl x) (V.ref q);lia
   ·rw[pZ]at e;by_cases c:y=x
    ·rw[if_pos (by rw[c])]at e;cases e;refine⟨?_,nqS⟩
     cases z:H q with
     | none=>rfl
     | some ob=>exact absurd ((s5 _ _ (Rc _ _ z)).symm.trans hq) (by simp)
    ·rw[if_neg (λz=>c (Sum.inl.inj z))]at e;exact hn3 y a e
 ·rintro σ H3 ⟨kvs,u,rfl,OA,Pb,hk3,hn3,k3⟩;rw[cR,lI]at Pb;exact⟨_,rfl,k S kvs ks H3 OA Pb tp sk (λx _ a e=>(hn3 x a e).1) (λa ob e=>k3 a ob (az e hS) (s2 _ _ (s1 _ _ e))) hS⟩
inductive Gs(vs:List V)(H:Hp)(Q:VK)(E:XK):Prop
 | mk (r:Addr) (rows:dJ) (s:Int) (sh:Int->List Int) (_:vs=[.ref r,.int s]) (_:jf H r (rows.map aI)) (_:rows.length<=1000) (_:(∀ es∈rows,es.length<=1000)) (_:jH rows) (_:Gb rows) (_:0<=s) (_:s<rows.length) (_:rT rows sh) (_:(∀ x:Int,0<=x->x<rows.length->(sh x).length<=10000)) (_ :
 ∀ (o:Addr) (H':Hp),cM H' o (cV (sh s))->aM H H'->H o=none->Q (.ref o) H')
theorem UH:aH ["rows","sheet"] ["rows","sheet"] (aA yi):=iW
theorem IS{g fW:Addr}(F:iH K "shown" "shown" yi g fd)(T:nI mg)(cN:aC K mg "windows" gH oS fI DT)(jv:aC K mg "below" m6 mU fB UG)(cD:aC K mg "item_row" iA yP fW MT)(eK:aC K mg "plain" mZ iP fP Ot)(cy:aC K mg "views_below" eU mU fV fdV):aF P w K mg zt bI 4 g fd vz Gs:=by
 have iK:aF P w K mg zt bI 3 fV fdV mU wV:=kU cy.F T cN jv cD eK;refine jg F UH λdH A zn s0 H vs Q E hr h=>?_;obtain⟨r,rows,s,sh,rfl,hR,gj,hes,vm,Bw,h0,h1,AY,E8,k⟩:=h;have hu:=kj hr;refine⟨_,(au (aN (kq hu (aG cy iK hr (aa (pv 0) (aa (bO (aa (pv 1) ah)) ah))) (pv 1)))),?_⟩;refine⟨_,rfl,_,rfl,qv,λL hL=>?_⟩;have s1:aM H (aO H L (.lst [.int s])):=ao hL _;refine⟨r,L,rows,[s],sh,rfl,hR.same s1,af,(by simp),gj,hes,vm,Bw,(λx hx=>by rw[List.mem_singleton.mp hx];exact⟨h0,h1⟩),AY,E8,λS kvs ks H' hS hv tp sk hn s' _=>?_⟩;have sk:=sk s (by simp);obtain⟨a,ha,Ra⟩:=hv s sk;have z:=ng.k (k:=Sum.inl s) hS;rw[ha]at z;exact⟨_,rfl,S,_,rfl,z,k a H' Ra (s1.trans s') (aZ s1 (hn s sk a ha))⟩
def Yd:aV->aV->Bool
 | .aP _ b,.aP c _=>decide (b=c)
 | _,_=>false
inductive Rh(vs:List V)(H:Hp)(Q:VK)(E:XK):Prop
 | mk (x y:V) (i j:aV) (_:vs=[x,y]) (_:dO H x i) (_:dO H y j) (_:Q (.bl (Yd i j)) H)
theorem OG:aH ["one","other"] ["one","other"] (aA nO):=iW
theorem Ls{f:Addr}(F:iH K "goes_on" "goes_on" nO f fd)(T:nI mg):aF P w K mg zt bI 1 f fd Hr Rh:=by
 refine jg F OG λdH A zn s H vs Q E hr h=>?_;obtain⟨x,y,i,j,rfl,⟨a,rfl,ha⟩,⟨b,rfl,hb⟩,k⟩:=h;refine⟨_,(au (aN (vP (sN ig (aX bw (pv 0) ay) bK (bC _)) (vP (sN ig (aX bw (pv 1) ay) bK (bC _)) (ya (sN ig (aX bw (pv 0) ay) (aX bw (pv 1) ay) (bC _))))))),?_⟩
 cases i with
 | win n=>exact⟨_,rfl,a,_,_,_,rfl,rfl,eL.of ha,rfl,rfl,_,rfl,dN (λz=>absurd z (by decide)) (λ_=>k)⟩
 | aP p q =>
  refine⟨_,rfl,a,_,_,_,rfl,rfl,eL.of ha,rfl,rfl,_,rfl,dN (λ_=>?_) (λz=>absurd (by decide) z)⟩
  cases j with
  | win n=>exact⟨_,rfl,b,_,_,_,rfl,rfl,eL.of hb,rfl,rfl,_,rfl,dN (λz=>absurd z (by decide)) (λ_=>k)⟩
  | aP u v =>
   refine⟨_,rfl,b,_,_,_,rfl,rfl,eL.of hb,rfl,rfl,_,rfl,dN (λ_=>?_) (λz=>absurd (by decide) z)⟩;refine⟨_,rfl,a,_,_,_,rfl,rfl,eL.of ha,rfl,_,rfl,b,_,_,_,rfl,rfl,eL.of hb,rfl,rfl,?_⟩
   have e:decide (V.int q=V.int u)=decide (q=u):=by
    by_cases c:q=u
    ·rw[c];simp
    ·have c2:¬ V.int q=V.int u:=λz=>c (V.int.inj z);rw[decide_eq_false c,decide_eq_false c2]
   rw[e];exact k
def b8(t:List aV)(it:aV):List aV :=
 match t.getLast?,it with
 | some (.aP a b),.aP c d=>if b=c then t.dropLast++[.aP a d] else t++[it]
 | _,_=>t++[it]
def Lu(aQ:List aV):List aV:=aQ.foldl b8 []
theorem Lv(aQ:List aV):∀ t:List aV,(aQ.foldl b8 t).length<=t.length+aQ.length:=by
 induction aQ with
 | nil=>intro t;simp
 | cons e aQ ih =>
  intro t;rw[rj];have z:=ih (b8 t e)
  have z2:(b8 t e).length<=t.length+1:=by
   unfold b8;split
   ·split
    ·rw[dM,List.length_dropLast,vK];lia
    ·simp
   ·simp
  rw[qE];lia
inductive oh(vs:List V)(H:Hp)(Q:VK)(E:XK):Prop
 | mk (r:Addr) (aQ:List aV) (_:vs=[.ref r]) (_:bR H (.ref r) aQ) (_:aQ.length<=1000000) (_ :
 ∀ (o:Addr) (H':Hp),bR H' (.ref o) (Lu aQ)->aM H H'->H o=none->Q (.ref o) H')
theorem tX:aH ["items","told","item"] ["items"] (aA jd):=iW
theorem oj{f:Addr}(F:iH K "plain_items" "plain_items" jd f fd)(T:nI mg)(ji:aC K mg "goes_on" nO Hr fG fdG):aF P w K mg zt bI 2 f fd oS oh:=by
 have Ri:aF P w K mg zt bI 1 fG fdG Hr Rh:=Ls ji.F T;refine jg F tX λdH A zn s H vs Q E hr h=>?_;obtain⟨r,aQ,rfl,⟨a,SJ,e,hr1,uG⟩,gj,k⟩:=h;cases e;refine⟨_,(aj (bh (i:=1) tX.nd (bO ah)) (aj (ie PassesOwn.never rfl (dc (pv 0)) (cB (i:=2) tX.nd) (au (bU (PW.pt (Cd (rC (pv 1) (λ_=>rfl)) (yV (tR (aG ji Ri hr (aa (aX bW (pv 1) (oO kg ay)) (aa (pv 2) ah))))))) (au (uI (dX (aa bK (aa (aX bw (aX bW (pv 1) (oO kg ay)) ay) (aa (aX bw (pv 2) ay) ah)))) (yb (pv 1) (oO kg ay) rF))) (au (bu (iu wG qZ rf cH (pv 1) (aa (pv 2) ah))))))) (au (aN (pv 1))))),?_⟩;refine⟨mF,λq hq=>?_⟩;have s0:aM H (aO H q (.lst [])):=ao hq _;refine⟨_,rfl,r,rfl,⟨_,bQ.of (s0 _ _ hr1)⟩,gB (K:=K) (a:=r) (xs:=SJ) (λi σ H2=>∃ (vs:List V) (u:Option V),σ=[some (.ref r),some (.ref q),u]/\H2 q=some (.lst vs)/\cE (dO H2) vs ((aQ.take i).foldl b8 [])/\aM H H2) ⟨[],none,rfl,af,.nil,s0⟩ (by rintro i σ H2 _ ⟨_,_,_,_,_,s⟩;exact bQ.of (s _ _ hr1)) ?_ ?_⟩
 ·rintro i x σ H2 hi ⟨vs,u,rfl,jA,hb,s⟩;obtain⟨it,ei,hiv⟩:=uG.get hi;have hx2:=hiv.same s;have step:(aQ.take (i+1)).foldl b8 []=b8 ((aQ.take i).foldl b8 []) it:=by rw[take_snoc ei,List.foldl_append];rfl
  have bl:vs.length<sizeLine:=by
   have z:=hb.len;have z2:=Lv (aQ.take i) [];rw[jV,xr]at z2;exact aU (by lia)
  have app:b8 ((aQ.take i).foldl b8 []) it=(aQ.take i).foldl b8 []++[it]->∃ (Ga:List V) (u':Option V),[some (V.ref r),some (.ref q),some x]=[some (.ref r),some (.ref q),u']/\(aO H2 q (.lst (vs++[x]))) q=some (.lst Ga)/\cE (dO (aO H2 q (.lst (vs++[x])))) Ga ((aQ.take (i+1)).foldl b8 [])/\aM H (aO H2 q (.lst (vs++[x]))):=λe=>by
   refine⟨_,_,rfl,af,?_,bX hq s (aL q _ _)⟩;rw[step,e];exact cE.snoc (hb.mono λv i h=>h.keep jA (aL q _ _)) (hx2.keep jA (aL q _ _))
  rcases vL ((aQ.take i).foldl b8 []) with hn|⟨t0,l0,hn⟩
  ·have hvs:vs=[]:=by
    rw[hn]at hb;exact List.eq_nil_of_length_eq_zero hb.len
   subst hvs;refine⟨_,rfl,false,.inl ⟨_,bQ.of jA,rfl⟩,jK (jK ?_)⟩;refine⟨_,rfl,.inl ⟨rfl,_,bQ.of jA⟩,_,rfl,q,_,_,rfl,rfl,jA,bl,app ?_⟩;rw[hn];rfl
  ·rw[uc]at hn;have hb':=hb;rw[hn]at hb';obtain⟨us,v0,rfl,hb0,hv0⟩:=hb'.split;obtain⟨a0,rfl,VQ⟩:=id hv0;refine⟨_,rfl,true,.inl ⟨_,bQ.of jA,by simp⟩,mD ?_⟩;refine⟨_,rfl,_,rfl,q,_,_,_,rfl,rfl,bQ.of jA,pY _ _,_,rfl,_,_,l0,it,rfl,hv0,hx2,_,rfl,?_⟩
   cases l0 with
   | win n =>
    refine jK ?_;refine⟨_,rfl,.inl ⟨rfl,_,bQ.of jA⟩,_,rfl,q,_,_,rfl,rfl,jA,bl,app ?_⟩;rw[hn];unfold b8;rw[xZ]
   | aP p1 p2 =>
    cases it with
    | win n =>
     refine jK ?_;refine⟨_,rfl,.inl ⟨rfl,_,bQ.of jA⟩,_,rfl,q,_,_,rfl,rfl,jA,bl,app ?_⟩;rw[hn];unfold b8;rw[xZ]
    | aP c d =>
     refine dN (λz=>?_) (λz=>?_)
     ·have e2:p2=c:=of_decide_eq_true z;obtain⟨ax,rfl,hax⟩:=id hx2;refine⟨_,rfl,_,rfl,q,_,_,_,rfl,rfl,bQ.of jA,pY _ _,a0,_,_,_,rfl,rfl,eL.of VQ,rfl,_,rfl,ax,_,_,_,rfl,rfl,eL.of hax,rfl,X4,λt ht=>?_⟩;refine⟨_,rfl,_,rfl,q,_,_,us.length,rfl,rfl,ao ht _ _ _ jA,(by rw[dM];exact Ic _),?_⟩;rw[Ie];refine⟨_,_,rfl,af,?_,bX hq (s.trans (ao ht _)) (aL q _ _)⟩
      have e3:(aQ.take (i+1)).foldl b8 []=t0++[.aP p1 d]:=by
       rw[step,hn];unfold b8;rw[xZ,List.dropLast_concat];show (if p2=c then t0++[aV.aP p1 d] else _)=_;rw[if_pos e2]
      rw[e3];exact cE.new (it:=.aP p1 d) jA hb0 ht _
     ·have e2:¬ p2=c:=λw=>z (decide_eq_true w);refine⟨_,rfl,.inl ⟨rfl,_,bQ.of jA⟩,_,rfl,q,_,_,rfl,rfl,jA,bl,app ?_⟩;rw[hn];unfold b8;rw[xZ];show (if p2=c then _ else t0++[aV.aP p1 p2]++[aV.aP c d])=_;rw[if_neg e2]
 ·rintro σ H2 ⟨vs,u,rfl,jA,hb,s⟩;rw[uG.len,lI]at hb;exact⟨_,rfl,k q H2 ⟨q,vs,rfl,jA,hb⟩ s hq⟩
def cX(r:Row):List aV:=r.map λp=>.aP p.1 p.2
inductive wW(vs:List V)(H:Hp)(Q:VK)(E:XK):Prop
 | mk (r:Addr) (row:Row) (_:vs=[.ref r]) (_:cM H r row) (_:row.length<=100000) (_ :
 ∀ (o:Addr) (H':Hp),bR H' (.ref o) (cX (cJ row))->aM H H'->H o=none->Q (.ref o) H')
theorem UI:aH ["row"] ["row"] (aA rG):=iW
theorem vZ{f:Addr}(F:iH K "inked" "inked" rG f fd)(T:nI mg)(eK:aC K mg "plain" mZ iP fP Ot):aF P w K mg zt bI 2 f fd iP wW:=by
 have CU:aF P w K mg zt bI 1 fP Ot iP BR:=CP eK.F;refine jg F UI λdH A zn s H vs Q E hr h=>?_;obtain⟨r,row,rfl,R,gj,k⟩:=h;refine⟨_,(au (aN (jX (N:=["start","stop"]) (rR (sc:=aA rG) (NX:=["row"]) (jx:=[none,none]) rfl rfl rfl (by decide +kernel) (by decide +kernel) rfl (by decide +kernel) rfl (by decide +kernel)) rfl (dc (aG eK CU hr (aa (pv 0) ah))) (λ_ _ _ _ _ _=>(zg (n:=2) rfl (bZ (cB (i:=0) (show List.Nodup (["start","stop"]:List Str) by decide +kernel)) (bZ (cB (i:=1) (show List.Nodup (["start","stop"]:List Str) by decide +kernel)) jO)))) (λ_ _ _ _ _ _=>ko) (λ_ _ _ _ _ _=>(dX (aa bK (aa (pv 0) (aa (pv 1) ah)))))))),?_⟩;refine⟨_,rfl,r,row,rfl,R,by lia,λq H1 R1 s1 hq=>?_⟩;obtain⟨as,h1,p1⟩:=id R1;have pl:=qV row;refine⟨q,rfl,⟨_,bQ.of h1⟩,λacc dh=>jS (K:=K) (a:=q) (xs:=as.map V.ref) (λi σ H2=>∃ (u v:Option V) (vs:List V),σ=[u,v]/\H2 acc=some (.lst vs)/\cE (dO H2) vs (cX ((cJ row).take i))/\aM H1 H2) ⟨none,none,[],rfl,af,.nil,ao dh _⟩ (by rintro i σ H2 _ ⟨_,_,_,_,_,_,s⟩;exact bQ.of (s _ _ h1)) ?_ ?_⟩
 ·rintro i x σ H2 hi ⟨u,v,vs,rfl,ha,t2,s⟩;rw[kF]at hi;obtain⟨a,ea,rfl⟩:=Option.map_eq_some_iff.mp hi;obtain⟨⟨st,en⟩,ep,hpa⟩:=p1.get ea;have bl:=t2.len;unfold cX at bl;rw[cR,jV]at bl;refine⟨a,_,rfl,eL.of (s _ _ hpa),rfl,_,_,rfl,_,_,rfl,rfl,yes (mD ?_)⟩;refine⟨_,rfl,_,rfl,X4,λt ht=>?_⟩;refine⟨vs,ao ht _ _ _ ha,aU (by lia),_,_,_,rfl,af,?_,bX dh (s.trans (ao ht _)) (aL acc _ _)⟩
  have e:cX ((cJ row).take (i+1))=cX ((cJ row).take i)++[.aP st en]:=by
   rw[take_snoc ep];unfold cX;rw[j5];rfl
  rw[e];exact cE.new (it:=.aP st en) ha t2 ht _
 ·rintro σ H2 ⟨u,v,vs,rfl,ha,t2,s⟩;rw[cR,p1.len,lI]at t2;refine k acc H2 ⟨acc,vs,rfl,ha,t2⟩ (s1.trans s) ?_
  cases e:H acc with
  | none=>rfl
  | some o=>exact absurd ((s1 _ _ e).symm.trans dh) (by simp)
def iS:aV->List Int
 | .win n=>[-1-n]
 | .aP a b=>run a (b-a).toNat
def dP(aQ:List aV):List Int:=aQ.flatMap iS
def qC:aV->Prop
 | .win n=>0<=n
 | .aP a b=>0<=a/\a<b
def iY(aQ:List aV):Prop:=∀ it∈aQ,qC it
theorem iO(a b:List aV):dP (a++b)=dP a++dP b:=by unfold dP;rw[List.flatMap_append]
theorem qd(a:aV):dP [a]=iS a:=by simp[dP]
theorem iY.append{a b:List aV}(h:iY a)(g:iY b):iY (a++b):=λit hm=>(List.mem_append.mp hm).elim (h it) (g it)
theorem iY.one{a:aV}(h:qC a):iY [a]:=λit hm=>by rw[List.mem_singleton.mp hm];exact h
theorem Rj(t:List aV){n:Int}(h:0<=n):bG t (-1-n)=t++[.win n]:=by
 unfold bG;rw[if_pos (by lia)];congr 3;lia
theorem OH(t:List aV)(p s:Int)(h:0<=s):bG (t++[.aP p s]) s=t++[.aP p (s+1)]:=by
 unfold bG;rw[if_neg (by lia),xZ];show (if s=s then (t++[aV.aP p s]).dropLast++[.aP p (s+1)] else _)=_;rw[if_pos rfl,List.dropLast_concat]
theorem Fg(t:List aV)(p:Int):∀ (n:Nat) (s:Int),0<=s->(run s n).foldl bG (t++[.aP p s])=t++[.aP p (s+n)]
 | 0,s,_=>by simp[run]
 | n+1,s,h=>by
  rw[run,rj,OH t p s h,Fg t p n (s+1) (by lia)];congr 3;lia
theorem Lw(t:List aV)(it:aV)(h:qC it):b8 t it=(iS it).foldl bG t:=by
 cases it with
 | win n =>
  show b8 t (.win n)=bG t (-1-n);rw[Rj t h];unfold b8
  cases t.getLast? with
  | none=>rfl
  | some l=>cases l <;> rfl
 | aP a b =>
  obtain⟨a0,ab⟩:=h;have e:(b-a).toNat=(b-(a+1)).toNat+1:=by lia
  show b8 t (.aP a b)=(run a (b-a).toNat).foldl bG t;rw[e,run,rj]
  have qo:∀ (u:List aV) (p:Int),(run (a+1) (b-(a+1)).toNat).foldl bG (u++[.aP p (a+1)])=u++[.aP p b]:=λu p=>by
   rw[Fg u p _ _ (by lia)];congr 3;lia
  unfold b8 bG;rw[if_neg (by lia)]
  cases t.getLast? with
  | none=>exact (qo t a).symm
  | some l =>
   cases l with
   | win n=>exact (qo t a).symm
   | aP p q =>
    show (if q=a then t.dropLast++[aV.aP p b] else t++[aV.aP a b])=List.foldl bG (if q=a then t.dropLast++[aV.aP p (a+1)] else t++[aV.aP a (a+1)]) _;by_cases c:q=a
    ·rw[if_pos c,if_pos c,qo]
    ·rw[if_neg c,if_neg c,qo]
theorem qe(aQ:List aV)(h:iY aQ):Lu aQ=aI (dP aQ):=by
 unfold Lu aI dP;rw[rM]
 have z:∀ (aQ:List aV) (t:List aV),iY aQ->aQ.foldl b8 t=aQ.foldl (λc a=>(iS a).foldl bG c) t:=by
  intro aQ
  induction aQ with
  | nil=>intro t _;rfl
  | cons it aQ ih =>
   intro t h;rw[rj,rj,Lw t it (h it (by simp))];exact ih _ λi hi=>h i (sH _ hi)
 exact z aQ [] h
theorem OI(t:List aV)(e:Int)(h:iY t):dP (bG t e)=dP t++[e]/\iY (bG t e):=by
 unfold bG;by_cases c:e<0
 ·rw[if_pos c,iO,qd];refine⟨?_,h.append (iY.one (by show 0<=-1-e;lia))⟩;show dP t++[-1-(-1-e)]=_;rw[show -1-(-1-e)=e by lia]
 ·rw[if_neg c]
  have pl:dP (t++[.aP e (e+1)])=dP t++[e]/\iY (t++[.aP e (e+1)]):=by
   refine⟨?_,h.append (iY.one ⟨by lia,by lia⟩)⟩;rw[iO,qd];show _++run e (e+1-e).toNat=_;rw[show (e+1-e).toNat=1 by lia];rfl
  rcases vL t with rfl|⟨t',l,rfl⟩
  ·exact pl
  ·rw[uc]at h pl ⊢;rw[xZ]
   cases l with
   | win n=>exact pl
   | aP a b =>
    show dP (if b=e then (t'++[aV.aP a b]).dropLast++[.aP a (e+1)] else (t'++[aV.aP a b])++[.aP e (e+1)])=_/\iY (if b=e then (t'++[aV.aP a b]).dropLast++[.aP a (e+1)] else (t'++[aV.aP a b])++[.aP e (e+1)]);by_cases hb:b=e
    ·subst hb;obtain⟨a0,ab⟩:0<=a/\a<b:=h (.aP a b) (by simp);rw[if_pos rfl,List.dropLast_concat];refine⟨?_,iY.append (λi hi=>h i (xY _ hi)) (iY.one ⟨a0,by lia⟩)⟩;rw[iO,iO,qd,qd,pQ];congr 1;show run a (b+1-a).toNat=run a (b-a).toNat++[b];rw[show (b+1-a).toNat=(b-a).toNat+1 by lia,Cu];congr 2;lia
    ·rw[if_neg hb];exact pl
theorem rV(es:List Int):dP (aI es)=es/\iY (aI es):=by
 have z:∀ (es:List Int) (t:List aV),iY t->dP (es.foldl bG t)=dP t++es/\iY (es.foldl bG t):=by
  intro es
  induction es with
  | nil=>intro t h;exact⟨by simp,h⟩
  | cons e es ih =>
   intro t h;obtain⟨h1,h2⟩:=OI t e h;obtain⟨h3,h4⟩:=ih _ h2;exact⟨by rw[rj,h3,h1,pQ];rfl,h4⟩
 obtain⟨h1,h2⟩:=z es [] (λi hi=>by cases hi);exact⟨by unfold aI;rw[h1];rfl,h2⟩
theorem ux(r:Row):dP (cX r)=bS r:=by
 unfold dP cX bS;rw[List.flatMap_map];rfl
theorem zy{r:Row}(h:n9 r):iY (cX r):=by
 intro it hm;unfold cX at hm;obtain⟨p,hp,rfl⟩:=List.mem_map.mp hm;exact h p hp
theorem OJ{ns:List Int}(h:∀ x∈ns,0<=x):cX (cV ns)=aI ns:=by
 have z:∀ (ns:List Int) (t:Row),(∀ x∈ns,0<=x)->cX (ns.foldl (λt n=>nH t n (n+1)) t)=ns.foldl bG (cX t):=by
  intro ns
  induction ns with
  | nil=>intro t _;rfl
  | cons n ns ih =>
   intro t h;rw[rj,rj,ih _ λx hx=>h x (sH _ hx)];congr 1;have n0:=h n (by simp);unfold nH bG;rw[if_neg (by lia)];rcases vL t with rfl|⟨t',l,rfl⟩
   ·rfl
   ·rw[uc,xZ];have e:(cX (t'++[l])).getLast?=some (.aP l.1 l.2):=by unfold cX;rw[j5];exact xZ
    rw[e];show cX (if l.2=n then (t'++[l]).dropLast++[(l.1,n+1)] else t'++[l]++[(n,n+1)])=if l.2=n then (cX (t'++[l])).dropLast++[.aP l.1 (n+1)] else cX (t'++[l])++[.aP n (n+1)];by_cases c:l.2=n
    ·rw[if_pos c,if_pos c,List.dropLast_concat];unfold cX;rw[j5,j5];simp
    ·rw[if_neg c,if_neg c];unfold cX;rw[j5];rfl
 exact z ns [] h
abbrev sL:=aV × Row × Int × Int
def dB(sh:Int->List Int)(it:aV):Row:=vn (λn=>cV (sh n)) it
def cu(sh:Int->List Int):Int->List aV->List sL
 | _,[]=>[]
 | f,it::r=>(it,dB sh it,f,f+lS (dB sh it))::cu sh (f+lS (dB sh it)) r
theorem zz(sh:Int->List Int)(b:List aV):∀ (a:List aV) (f:Int),cu sh f (a++b)=cu sh f a++cu sh (f+lS (bx sh a)) b
 | [],f=>by simp[cu,bx,lS]
 | it::a,f=>by
  rw[List.cons_append,cu,cu,zz sh b a,List.cons_append];have e:bx sh (it::a)=dB sh it++bx sh a:=by unfold bx;rw[mW];rfl
  rw[e,Ct,Int.add_assoc]
theorem Fi(sh:Int->List Int):∀ (a:List aV) (f:Int),(cu sh f a).length=a.length
 | [],_=>rfl
 | _::a,f=>by rw[cu,qE,qE,Fi sh a]
def rW(N:Addr->Prop)(H:Hp)(v:V)(d:sL):Prop:=∃ (a ra:Addr) (x:V),v=.ref a/\H a=some (.tup [x,.ref ra,.int d.2.2.1,.int d.2.2.2])/\dO H x d.1/\cM H ra d.2.1/\N ra
theorem rW.same{N:Addr->Prop}{H H':Hp}{v:V}{d:sL}(s:aM H H'):rW N H v d->rW N H' v d:=λ⟨a,ra,x,e,h,i,r,n⟩=>⟨a,ra,x,e,s _ _ h,i.same s,r.same s,n⟩
theorem rW.keep{N:Addr->Prop}{H H':Hp}{v:V}{d:sL}{q:Addr}{xs:List V}(hq:H q=some (.lst xs))(nq:∀ a,N a->a≠q)(k:cT q H H'):rW N H v d->rW N H' v d:=λ⟨a,ra,x,e,h,i,r,n⟩=>⟨a,ra,x,e,k a _ h (by
 intro z;rw[z,hq]at h
 cases h),i.keep hq k,r.keep hq (nq ra n) k,n⟩
def As(H:Hp)(kvs:List (iL × V))(sh:Int->List Int)(aQ:List aV):Prop:=∀ n,aV.win n∈aQ->∃ a,cW kvs (Sum.inl n)=some (.ref a)/\cM H a (cV (sh n))
theorem As.same{H H':Hp}{kvs:List (iL × V)}{sh:Int->List Int}{aQ:List aV}(s:aM H H')(h:As H kvs sh aQ):As H' kvs sh aQ:=λn hn=>by
 obtain⟨a,e,r⟩:=h n hn;exact⟨a,e,r.same s⟩
def aD(p:Int)(d:sL):List aV:=if d.2.2.2<=p then [d.1] else if p<=d.2.2.1 then [] else cX (cJ (qp 0 (p-d.2.2.1) 0 d.2.1))
def bD(p:Int)(d:sL):List aV:=if d.2.2.2<=p then [] else if p<=d.2.2.1 then [d.1] else cX (cJ (qp (p-d.2.2.1) (d.2.2.2-d.2.2.1) 0 d.2.1))
def aE(sh:Int->List Int)(p:Int):Int->List Int->List Int
 | _,[]=>[]
 | f,e::r=>(if f+(aY sh e).length<=p then [e] else if p<=f then [] else (aY sh e).take (p-f).toNat)++aE sh p (f+(aY sh e).length) r
def bE(sh:Int->List Int)(p:Int):Int->List Int->List Int
 | _,[]=>[]
 | f,e::r=>(if f+(aY sh e).length<=p then [] else if p<=f then [e] else (aY sh e).drop (p-f).toNat)++bE sh p (f+(aY sh e).length) r
theorem cz(sh:Int->List Int)(e:Int)(r:List Int):aW sh (e::r)=aY sh e++aW sh r:=by unfold aW;rw[mW]
theorem om(sh:Int->List Int)(a b:List Int):aW sh (a++b)=aW sh a++aW sh b:=by unfold aW;rw[List.flatMap_append]
theorem Au(sh:Int->List Int)(p:Int)(y:List Int):∀ (x:List Int) (f:Int),aE sh p f (x++y)=aE sh p f x++aE sh p (f+(aW sh x).length) y
 | [],f=>by simp[aE,aW]
 | e::x,f=>by
  rw[List.cons_append,aE,aE,Au sh p y x,pQ,cz,dM,Int.add_assoc]
  push_cast
  rfl
theorem Av(sh:Int->List Int)(p:Int)(y:List Int):∀ (x:List Int) (f:Int),bE sh p f (x++y)=bE sh p f x++bE sh p (f+(aW sh x).length) y
 | [],f=>by simp[bE,aW]
 | e::x,f=>by
  rw[List.cons_append,bE,bE,Av sh p y x,pQ,cz,dM,Int.add_assoc]
  push_cast
  rfl
theorem wX(sh:Int->List Int){e:Int}(h:0<=e):aY sh e=[e]:=by unfold aY;rw[if_neg (by lia)]
theorem qW(sh:Int->List Int):∀ (n:Nat) (a:Int),0<=a->aW sh (run a n)=run a n
 | 0,_,_=>rfl
 | n+1,a,h=>by rw[run,cz,wX sh h,qW sh n (a+1) (by lia)];rfl
theorem Rk(sh:Int->List Int)(p:Int):∀ (n:Nat) (a f:Int),0<=a->aE sh p f (run a n)=(run a n).take (p-f).toNat
 | 0,_,_,_=>by simp[run,aE]
 | n+1,a,f,h=>by
  rw[run,aE,Rk sh p n (a+1) _ (by lia),wX sh h];show (if f+1<=p then [a] else if p<=f then [] else _)++(run (a+1) n).take (p-(f+1)).toNat=_;by_cases c:f+1<=p
  ·rw[if_pos c,show (p-f).toNat=(p-(f+1)).toNat+1 by lia];rfl
  ·rw[if_neg c,if_pos (by lia),show (p-f).toNat=0 by lia,show (p-(f+1)).toNat=0 by lia];rfl
theorem Rl(sh:Int->List Int)(p:Int):∀ (n:Nat) (a f:Int),0<=a->bE sh p f (run a n)=(run a n).drop (p-f).toNat
 | 0,_,_,_=>by simp[run,bE]
 | n+1,a,f,h=>by
  rw[run,bE,Rl sh p n (a+1) _ (by lia),wX sh h];show (if f+1<=p then [] else if p<=f then [a] else _)++(run (a+1) n).drop (p-(f+1)).toNat=_;by_cases c:f+1<=p
  ·rw[if_pos c,show (p-f).toNat=(p-(f+1)).toNat+1 by lia];rfl
  ·rw[if_neg c,if_pos (by lia),show (p-f).toNat=0 by lia,show (p-(f+1)).toNat=0 by lia];rfl
theorem Rm(sh:Int->List Int){n:Int}(h:0<=n):aY sh (-1-n)=sh n:=by
 unfold aY;rw[if_pos (by lia),show -1-(-1-n)=n by lia]
theorem zA(sh:Int->List Int)(it:aV)(h:qC it):∀ q∈dB sh it,q.1<=q.2:=by
 cases it with
 | win n=>exact rN _
 | aP a b =>
  intro q hq;have:q=(a,b):=by simpa [dB,vn] using hq
  subst this;have:=h.2;show a<=b;lia
theorem oY(sh:Int->List Int)(it:aV)(h:qC it):bS (dB sh it)=aW sh (iS it):=by
 cases it with
 | win n =>
  show bS (cV (sh n))=aW sh [-1-n];rw[je,cz,Rm sh h];simp[aW]
 | aP a b =>
  show bS [(a,b)]=aW sh (run a (b-a).toNat);rw[jG,qW sh _ _ h.1];rfl
theorem qf(sh:Int->List Int)(it:aV)(h:qC it):lS (dB sh it)=(aW sh (iS it)).length:=by
 rw[← oY sh it h,wL _ (zA sh it h)]
theorem aav(sh:Int->List Int)(p f:Int)(it:aV)(h:qC it):dP (aD p (it,dB sh it,f,f+lS (dB sh it)))=aE sh p f (iS it):=by
 have tt:=qf sh it h
 have sp:dP (cX (cJ (qp 0 (p-f) 0 (dB sh it))))=(aW sh (iS it)).take (p-f).toNat:=by
  rw[ux,uO _ _ _ (zA sh it h),oY sh it h];rfl
 unfold aD;show dP (if f+lS (dB sh it)<=p then [it] else if p<=f then [] else cX (cJ (qp 0 (p-f) 0 (dB sh it))))=_;rw[tt]
 cases it with
 | win n =>
  have e1:aW sh (iS (.win n))=aY sh (-1-n):=by show aW sh [-1-n]=_;rw[cz];simp[aW]
  rw[e1]at sp ⊢;show _=aE sh p f [-1-n];rw[aE,aE,jo];split
  ·rfl
  ·split
   ·rfl
   ·exact sp
 | aP a b =>
  have e1:aW sh (iS (.aP a b))=run a (b-a).toNat:=qW sh _ _ h.1;rw[e1]at sp ⊢;show _=aE sh p f (run a (b-a).toNat);rw[Rk sh p _ _ _ h.1];have rl:=gR a (b-a).toNat;split
  ·rename_i c;rw[qd,yQ (by lia)];rfl
  ·split
   ·rename_i c;rw[show (p-f).toNat=0 by lia];rfl
   ·exact sp
theorem aaw(sh:Int->List Int)(p f:Int)(it:aV)(h:qC it):dP (bD p (it,dB sh it,f,f+lS (dB sh it)))=bE sh p f (iS it):=by
 have tt:=qf sh it h
 have sp:dP (cX (cJ (qp (p-f) (f+lS (dB sh it)-f) 0 (dB sh it))))=(aW sh (iS it)).drop (p-f).toNat:=by
  rw[ux,uO _ _ _ (zA sh it h),oY sh it h,yQ (by rw[tt];lia)]
 unfold bD;show dP (if f+lS (dB sh it)<=p then [] else if p<=f then [it] else cX (cJ (qp (p-f) (f+lS (dB sh it)-f) 0 (dB sh it))))=_;have c1:(f+lS (dB sh it)<=p)=(f+(aW sh (iS it)).length<=p):=by rw[tt]
 simp only[c1]
 cases it with
 | win n =>
  have e1:aW sh (iS (.win n))=aY sh (-1-n):=by show aW sh [-1-n]=_;rw[cz];simp[aW]
  rw[e1]at sp ⊢;show _=bE sh p f [-1-n];rw[bE,bE,jo];split
  ·rfl
  ·split
   ·rfl
   ·exact sp
 | aP a b =>
  have e1:aW sh (iS (.aP a b))=run a (b-a).toNat:=qW sh _ _ h.1;rw[e1]at sp ⊢;show _=bE sh p f (run a (b-a).toNat);rw[Rl sh p _ _ _ h.1];have rl:=gR a (b-a).toNat;split
  ·rename_i c;rw[B4 (by lia)];rfl
  ·split
   ·rename_i c;rw[qd,show (p-f).toNat=0 by lia];rfl
   ·exact sp
theorem IT(sh:Int->List Int)(p:Int):∀ (aQ:List aV) (f:Int),iY aQ->dP ((cu sh f aQ).flatMap (aD p))=aE sh p f (dP aQ)
 | [],f,_=>rfl
 | it::r,f,h=>by
  have h1:=h it (by simp);rw[cu,mW,iO,aav sh p f it h1,IT sh p r _ λi hi=>h i (sH _ hi)];have e:dP (it::r)=iS it++dP r:=by unfold dP;rw[mW]
  rw[e,Au,qf sh it h1]
theorem Fj(sh:Int->List Int)(p:Int):∀ (aQ:List aV) (f:Int),iY aQ->dP ((cu sh f aQ).flatMap (bD p))=bE sh p f (dP aQ)
 | [],f,_=>rfl
 | it::r,f,h=>by
  have h1:=h it (by simp);rw[cu,mW,iO,aaw sh p f it h1,Fj sh p r _ λi hi=>h i (sH _ hi)];have e:dP (it::r)=iS it++dP r:=by unfold dP;rw[mW]
  rw[e,Av,qf sh it h1]
def UJ(sh:Int->List Int)(aQ:List aV):Prop:=∀ n,aV.win n∈aQ->∀ x∈sh n,0<=x
theorem UK(sh:Int->List Int)(it:aV)(h:qC it)(g:∀ n,it=.win n->∀ x∈sh n,0<=x):qB (dB sh it):=by
 cases it with
 | win n=>exact (E7 (g n rfl)).nn
 | aP a b =>
  intro q hq;have:q=(a,b):=by simpa [dB,vn] using hq
  subst this;exact⟨h.1,by have:=h.2;show a<=b;lia⟩
theorem BY(sh:Int->List Int):∀ (aQ:List aV) (f:Int),iY aQ->UJ sh aQ->∀ d∈cu sh f aQ,qC d.1/\qB d.2.1
 | [],_,_,_=>λd hd=>by cases hd
 | it::r,f,h,g=>by
  intro d hd;rw[cu]at hd;rcases List.mem_cons.mp hd with rfl|z
  ·exact⟨h it (by simp),UK sh it (h it (by simp)) λn e=>g n (by rw[e];simp)⟩
  ·exact BY sh r _ (λi hi=>h i (sH _ hi)) (λn hn=>g n (sH _ hn)) d z
theorem C7{a b:Int}{r:Row}(h:qB r):iY (cX (cJ (qp a b 0 r))):=zy (ur (CN a b r 0 h))
theorem aax{p:Int}{d:sL}(h:qC d.1)(g:qB d.2.1):iY (aD p d):=by
 unfold aD;split
 ·exact iY.one h
 ·split
  ·exact λi hi=>by cases hi
  ·exact C7 g
theorem aay{p:Int}{d:sL}(h:qC d.1)(g:qB d.2.1):iY (bD p d):=by
 unfold bD;split
 ·exact λi hi=>by cases hi
 ·split
  ·exact iY.one h
  ·exact C7 g
theorem zB{g:sL->List aV}{l:List sL}(h:∀ d∈l,iY (g d)):iY (l.flatMap g):=λit hm=>by
 obtain⟨d,hd,hm⟩:=List.mem_flatMap.mp hm;exact h d hd it hm
theorem BZ(r:Row):(cX r).length=r.length:=by unfold cX;rw[cR]
theorem wY(a b:Int)(r:Row):(cX (cJ (qp a b 0 r))).length<=r.length:=by
 rw[BZ];exact lJ (qV _) (oX a b r 0)
theorem C8(sh:Int->List Int){g:sL->List aV}(hg:∀ d,(g d).length<=d.2.1.length+1):∀ (aQ:List aV) (f:Int),((cu sh f aQ).flatMap g).length<=(bx sh aQ).length+aQ.length
 | [],_=>by simp[cu]
 | it::r,f=>by
  rw[cu,mW,dM];have a:=hg (it,dB sh it,f,f+lS (dB sh it));have b:=C8 sh hg r (f+lS (dB sh it));have e:bx sh (it::r)=dB sh it++bx sh r:=by unfold bx;rw[mW];rfl
  rw[e,dM,qE];simp only at a;lia
theorem Ye(p:Int)(d:sL):(aD p d).length<=d.2.1.length+1:=by
 unfold aD;split
 ·simp
 ·split
  ·simp
  ·exact lJ (wY _ _ _) (by lia)
theorem Yg(p:Int)(d:sL):(bD p d).length<=d.2.1.length+1:=by
 unfold bD;split
 ·simp
 ·split
  ·simp
  ·exact lJ (wY _ _ _) (by lia)
theorem lX{α β:Type}(g:α->List β)(l:List α)(i:Nat):((l.take i).flatMap g).length<=(l.flatMap g).length:=by
 have e:l.flatMap g=(l.take i).flatMap g++(l.drop i).flatMap g:=by rw[← List.flatMap_append,List.take_append_drop]
 rw[e,dM];lia
theorem wZ{α β:Type}(g:α->List β){l:List α}{i:Nat}{a:α}(h:l[i]?=some a):(l.take (i+1)).flatMap g=(l.take i).flatMap g++g a:=by
 rw[take_snoc h,List.flatMap_append];simp
theorem zC(sh:Int->List Int){aQ:List aV}{it:aV}(h:it∈aQ):(dB sh it).length<=(bx sh aQ).length:=by
 obtain⟨a,b,rfl⟩:=List.append_of_mem h;rw[gX];have e:bx sh (it::b)=dB sh it++bx sh b:=by unfold bx;rw[mW];rfl
 rw[e,dM,dM];lia
def MZ(A B:Addr)(H H':Hp):Prop:=∀ a o,H a=some o->a≠A->a≠B->H' a=some o
theorem MZ.tup{A B:Addr}{H H':Hp}{xs ys:List V}(k:MZ A B H H')(hA:H A=some (.lst xs))(hB:H B=some (.lst ys)):∀ a zs,H a=some (.tup zs)->H' a=some (.tup zs):=λa zs h=>k a _ h (λz=>by
 rw[z,hA]at h;cases h) (λz=>by
 rw[z,hB]at h
 cases h)
theorem dO.tups{H H':Hp}{v:V}{it:aV}(t:∀ a xs,H a=some (.tup xs)->H' a=some (.tup xs)):dO H v it->dO H' v it:=λ⟨a,e,h⟩=>⟨a,e,t a _ h⟩
theorem rW.VU{N:Addr->Prop}{A B:Addr}{H H':Hp}{v:V}{d:sL}{xs ys:List V}(hA:H A=some (.lst xs))(hB:H B=some (.lst ys))(n:∀ a,N a->a≠A/\a≠B)(k:MZ A B H H'):rW N H v d->rW N H' v d:=λ⟨a,ra,x,e,h,i,⟨as,hr,hp⟩,hn⟩ =>
 ⟨a,ra,x,e,k.tup hA hB _ _ h,i.tups (k.tup hA hB),⟨as,k _ _ hr (n ra hn).1 (n ra hn).2,hp.tups (k.tup hA hB)⟩,hn⟩
theorem cE.app{α β:Type}{R:α->β->Prop}{as cs:List α}{bs ds:List β}(h:cE R as bs)(t:cE R cs ds):cE R (as++cs) (bs++ds):=by
 induction h with
 | nil=>exact t
 | cons e _ ih=>exact .cons e ih
structure qD(H1:Hp)(A B:Addr)(l1 l2:List aV)(H2:Hp):Prop where
 a:∃ vs,H2 A=some (.lst vs)/\cE (dO H2) vs l1
 b:∃ vs,H2 B=some (.lst vs)/\cE (dO H2) vs l2
 k:MZ A B H1 H2
theorem qD.same{H1 H2 H3:Hp}{A B:Addr}{l1 l2:List aV}(p:qD H1 A B l1 l2 H2)(s:aM H2 H3):qD H1 A B l1 l2 H3:=by
 obtain⟨⟨v1,h1,t1⟩,⟨v2,h2,t2⟩,k⟩:=p;exact⟨⟨v1,s _ _ h1,t1.mono λ_ _ h=>h.same s⟩,⟨v2,s _ _ h2,t2.mono λ_ _ h=>h.same s⟩,λa o e n m=>s _ _ (k a o e n m)⟩
theorem qD.M0{H1 H2:Hp}{A B:Addr}{l1 l2 l3:List aV}{v1 v3:List V}(p:qD H1 A B l1 l2 H2)(n:A≠B)(h1:H2 A=some (.lst v1))(t3:cE (dO H2) v3 l3):qD H1 A B (l1++l3) l2 (aO H2 A (.lst (v1++v3))):=by
 obtain⟨⟨v1',h1',t1⟩,⟨v2,h2,t2⟩,k⟩:=p;rw[h1]at h1';cases h1';have kp:∀ v i,dO H2 v i->dO (aO H2 A (.lst (v1++v3))) v i:=λv i h=>h.keep h1 (aL A _ _);refine⟨⟨_,af,(t1.mono kp).app (t3.mono kp)⟩,⟨v2,by rw[aK n.symm];exact h2,t2.mono kp⟩,λa o e m1 m2=>?_⟩;rw[aK m1];exact k a o e m1 m2
theorem qD.M4{H1 H2:Hp}{A B:Addr}{l1 l2 l3:List aV}{v2 v3:List V}(p:qD H1 A B l1 l2 H2)(n:A≠B)(h2:H2 B=some (.lst v2))(t3:cE (dO H2) v3 l3):qD H1 A B l1 (l2++l3) (aO H2 B (.lst (v2++v3))):=by
 obtain⟨⟨v1,h1,t1⟩,⟨v2',h2',t2⟩,k⟩:=p;rw[h2]at h2';cases h2';have kp:∀ v i,dO H2 v i->dO (aO H2 B (.lst (v2++v3))) v i:=λv i h=>h.keep h2 (aL B _ _);refine⟨⟨v1,by rw[aK n];exact h1,t1.mono kp⟩,⟨_,af,(t2.mono kp).app (t3.mono kp)⟩,λa o e m1 m2=>?_⟩;rw[aK m2];exact k a o e m1 m2
theorem uy{rows:dJ}{sh:Int->List Int}(vm:jH rows)(Bw:Gb rows)(AY:rT rows sh):∀ x:Int,0<=x->x<rows.length->∀ y∈sh x,0<=y:=by
 obtain⟨rk,hb,hd⟩:=Bw
 have key:∀ (k:Nat) (x:Int),rk x<k->0<=x->x<rows.length->∀ y∈sh x,0<=y:=by
  intro k
  induction k with
  | zero=>intro x h;lia
  | succ k ih =>
   intro x hx x0 x1 y hy;have he:rows[x.toNat]?=some rows[x.toNat]:=pP (by lia);rw[AY x _ x0 he]at hy;unfold aW at hy;obtain⟨e,hm,hy⟩:=List.mem_flatMap.mp hy;unfold aY at hy;by_cases c:e<0
   ·rw[if_pos c]at hy;have nx:oR rows x (-1-e):=⟨x0,_,he,cK.mpr ⟨by lia,by rw[show -1-(-1-e)=e by lia];exact hm⟩⟩;obtain⟨a,b⟩:=vm.Hj nx;have:=hd _ _ nx;exact ih _ (by lia) a b y hy
   ·rw[if_neg c]at hy;rw[List.mem_singleton.mp hy];lia
 exact λx=>key (rk x+1) x (Nat.lt_succ_self _)
theorem xg{rows:dJ}{s n:Int}{es:List Int}(h0:0<=s)(he:rows[s.toNat]?=some es)(h:aV.win n∈aI es):oR rows s n:=by
 refine⟨h0,es,he,?_⟩;rw[← lU];unfold iI;rw[List.mem_filterMap];exact⟨.win n,h,rfl⟩
structure uR(H:Hp)(r:Addr)(rows:dJ)(sh:Int->List Int):Prop where
 at_:jf H r (rows.map aI)
 len:rows.length<=1000
 ents:∀ es∈rows,es.length<=1000
 snd:jH rows
 rk:Gb rows
 Rn:rT rows sh
 bd:∀ x:Int,0<=x->x<rows.length->(sh x).length<=10000
theorem uR.same{H H':Hp}{r:Addr}{rows:dJ}{sh:Int->List Int}(s:aM H H')(h:uR H r rows sh):uR H' r rows sh:={ h with at_:=h.at_.same s }
structure aaz(H:Hp)(r:Addr)(rows:dJ)(sh:Int->List Int)(s:Int)(es:List Int)(Bx:List V)(b:Addr):Prop where
 he:rows[s.toNat]?=some es
 hr:H r=some (.lst Bx)
 ix:vC Bx s=some (.ref b)
 it:bR H (.ref b) (aI es)
 il:(aI es).length<=1000
 rl:(bx sh (aI es)).length<=10000
 tt:lS (cV (sh s))=(sh s).length
 se:sh s=aW sh es
theorem uR.one{H:Hp}{r:Addr}{rows:dJ}{sh:Int->List Int}{s:Int}(h:uR H r rows sh)(h0:0<=s)(h1:s<rows.length):∃ es Bx b,aaz H r rows sh s es Bx b:=by
 have iJ:rows[s.toNat]?=some rows[s.toNat]:=pP (by lia);obtain⟨Bx,MS,zu⟩:=h.at_;obtain⟨vi,Gn,hI⟩:=zu.get' (i:=s.toNat) (b:=aI rows[s.toNat]) (by rw[kF,iJ];rfl);obtain⟨b,SJ,rfl,hb,uG⟩:=id hI;have z:=gz Gn;rw[show ((s.toNat:Nat):Int)=s by lia]at z;have hil:=wR rows[s.toNat] [];have hel:=h.ents _ (vf iJ);obtain⟨KC,hok⟩:=C6 sh rows[s.toNat];have se:=h.Rn s _ h0 iJ;refine⟨_,Bx,b,iJ,MS,z,hI,?_,?_,?_,se⟩
 ·show (rows[s.toNat].foldl bG []).length<=_;simp only[xr]at hil;lia
 ·have q:=yv sh (aI rows[s.toNat]) hok;rw[KC,← se]at q;have:=h.bd s h0 h1;lia
 ·rw[← wL _ (rN _),je]
theorem oZ(ns:List Int):(cV ns).length<=ns.length:=by
 have z:=Ij ns [];simpa [cV] using z
def iT(sh:Int->List Int)(p:Int)(es new:List Int):List Int:=if new=[] then es else aE sh p 0 es++new++bE sh p 0 es
inductive Gu(vs:List V)(H:Hp)(Q:VK)(E:XK):Prop
 | mk (r S:Addr) (aQ:List aV) (kvs:List (iL × V)) (sh:Int->List Int) (N:Addr->Prop) (_:vs=[.ref r,.ref S]) (_:bR H (.ref r) aQ) (_:H S=some (.dK kvs)) (_:As H kvs sh aQ) (_:aQ.length<=100000) (_:(∀ it∈aQ,(dB sh it).length<=100000)) (_:(∀ n a,aV.win n∈aQ->cW kvs (Sum.inl n)=some (.ref a)->N a)) (_:(∀ a,H a=none->N a)) (_ :
 ∀ (o:Addr) (Ga:List V) (H':Hp),H' o=some (.lst Ga)->cE (rW N H') Ga (cu sh 0 aQ)->aM H H'->H o=none->Q (.ref o) H')
theorem uS:aH ["items","views","told","first","item","row","last"] ["items","views"] (aA uJ):=iW
theorem IU{f:Addr}(F:iH K "dealt" "dealt" uJ f fd)(T:nI mg)(cD:aC K mg "item_row" iA yP fI DT)(iX:aC K mg "size" sQ iP fZ YX):aF P w K mg zt bI 2 f fd FL Gu:=by
 have Ar:aF P w K mg zt bI 1 fI DT yP Aq:=Bb cD.F T;have IL:aF P w K mg zt bI 1 fZ YX iP F5:=Gj iX.F T;refine jg F uS λdH A zn s H vs Q E hr h=>?_;obtain⟨r,S,aQ,kvs,sh,N,rfl,⟨r',SJ,e,hr1,uG⟩,hS,hW,gj,hrl,nW,nN,k⟩:=h;cases e;refine⟨_,(aj (bh (i:=2) uS.nd (bO ah)) (aj (bh (i:=3) uS.nd ay) (aj (ie PassesOwn.never rfl (dc (pv 0)) (cB (i:=4) uS.nd) (aj (bh (i:=5) uS.nd (aG cD Ar hr (aa (pv 4) (aa (pv 1) ah)))) (aj (bh (i:=6) uS.nd (bz eT (pv 3) (iV.wU iX (T.tV _ iX.m) IL hr (aa (pv 5) ah)))) (aj (bu (iu wG qZ rf cH (pv 2) (aa (dX (aa (pv 4) (aa (pv 5) (aa (pv 3) (aa (pv 6) ah))))) ah))) (au (bh (i:=3) uS.nd (pv 6))))))) (au (aN (pv 2)))))),?_⟩;refine⟨mF,λq hq=>?_⟩;have s0:aM H (aO H q (.lst [])):=ao hq _;refine⟨_,rfl,r,rfl,⟨_,bQ.of (s0 _ _ hr1)⟩,gB (K:=K) (a:=r) (xs:=SJ) (λi σ H2=>∃ (vs:List V) (u1 u2 u3:Option V),σ=[some (.ref r),some (.ref S),some (.ref q),some (.int (0+lS (bx sh (aQ.take i)))),u1,u2,u3]/\H2 q=some (.lst vs)/\cE (rW (λa=>N a/\a≠q) H2) vs (cu sh 0 (aQ.take i))/\aM H H2) ⟨[],none,none,none,rfl,af,.nil,s0⟩ (by rintro i σ H2 _ ⟨_,_,_,_,_,_,_,s⟩;exact bQ.of (s _ _ hr1)) ?_ ?_⟩
 ·rintro i x σ H2 hi ⟨vs,u1,u2,u3,rfl,jA,hb,s⟩;obtain⟨it,ei,hiv⟩:=uG.get hi;have im:=vf ei;have bl:=hb.len;rw[Fi,jV]at bl;refine⟨_,rfl,_,rfl,x,it,S,kvs,λn=>cV (sh n),rfl,hiv.same s,s _ _ hS,λn hn=>(hW.same s) n (by rw[← hn];exact im),λa H3 R3 s3 w3=>?_⟩
  have na:N a/\a≠q:=by
   rcases w3 with ⟨n,rfl,hv⟩|h0
   ·refine⟨nW n a im hv,?_⟩;obtain⟨b,MR,⟨as,Yh,_⟩⟩:=hW n im;rw[hv]at MR;cases MR;exact az Yh hq
   ·exact⟨nN a (aZ s h0),(az jA h0).symm⟩
  refine⟨_,rfl,_,rfl,a,dB sh it,rfl,R3,lJ (hrl it im) (by decide),λH4 s4=>⟨_,_,rfl,rfl,?_⟩⟩;have UL:=s4 _ _ (s3 _ _ jA);refine⟨_,rfl,.inl ⟨rfl,_,bQ.of UL⟩,_,rfl,_,rfl,_,rfl,_,rfl,D8,λt ht=>?_⟩;have hq5:=ao ht (.tup [x,.ref a,.int (0+lS (bx sh (aQ.take i))),.int (0+lS (bx sh (aQ.take i))+lS (dB sh it))]) _ _ UL;refine⟨q,_,_,rfl,rfl,hq5,aU (by lia),?_⟩;refine⟨_,rfl,_,some x,some (.ref a),some (.int (0+lS (bx sh (aQ.take i))+lS (dB sh it))),?_,af,?_,bX hq (s.trans (s3.trans (s4.trans (ao ht _)))) (aL q _ _)⟩
  ·have e:bx sh (aQ.take (i+1))=bx sh (aQ.take i)++dB sh it:=by rw[take_snoc ei,gX,nu];rfl
   rw[e,Ct,← Int.add_assoc];rfl
  ·have e:cu sh 0 (aQ.take (i+1))=cu sh 0 (aQ.take i)++[(it,dB sh it,0+lS (bx sh (aQ.take i)),0+lS (bx sh (aQ.take i))+lS (dB sh it))]:=by rw[take_snoc ei,zz];rfl
   rw[e];have XA:t≠q:=(az UL ht).symm;refine cE.snoc (hb.mono λv d h=>(((h.same s3).same s4).same (ao ht _)).keep hq5 (λa h=>h.2) (aL q _ _)) ⟨t,a,x,rfl,?_,?_,?_,na⟩
   ·rw[aK XA,af]
   ·exact ((((hiv.same s).same s3).same s4).same (ao ht _)).keep hq5 (aL q _ _)
   ·exact (((R3.same s4).same (ao ht _))).keep hq5 na.2 (aL q _ _)
 ·rintro σ H2 ⟨vs,u1,u2,u3,rfl,jA,hb,s⟩;rw[uG.len,lI]at hb;exact⟨_,rfl,k q vs H2 jA (hb.mono λv d ⟨a,ra,x,e,h,i,r,n⟩=>⟨a,ra,x,e,h,i,r,n.1⟩) s hq⟩
inductive yx(vs:List V)(H:Hp)(Q:VK)(E:XK):Prop
 | mk (r S o:Addr) (p:Int) (aQ Pa:List aV) (kvs:List (iL × V)) (sh:Int->List Int) (_:vs=[.ref r,.ref S,.int p,.ref o]) (_:bR H (.ref r) aQ) (_:H S=some (.dK kvs)) (_:As H kvs sh aQ) (_:bR H (.ref o) Pa) (_:iY aQ) (_:iY Pa) (_:UJ sh aQ) (_:aQ.length<=50000) (_:(bx sh aQ).length<=50000) (_:Pa.length<=50000) (_ :
 ∀ (q:Addr) (H':Hp),bR H' (.ref q) (aI (aE sh p 0 (dP aQ)++dP Pa++bE sh p 0 (dP aQ)))->aM H H'->H q=none->Q (.ref q) H')
theorem jj:aH ["items","views","place","others","ahead","behind","item","row","first","last"] ["items","views","place","others"] (aA oU):=iW
theorem zD{f fS:Addr}(F:iH K "put_among" "put_among" oU f fd)(T:nI mg)(cD:aC K mg "item_row" iA yP fI DT)(iX:aC K mg "size" sQ iP fZ YX)(eK:aC K mg "plain" mZ iP fP Ot)(iB:aC K mg "pieces" pC pO fS Oq)(ji:aC K mg "goes_on" nO Hr fG fdG)(cP:aC K mg "plain_items" jd oS fK fdK)(oq:aC K mg "dealt" uJ FL fD fdD){fN:Addr}{Ro:FuncData}(dY:aC K mg "inked" rG iP fN Ro):aF P w K mg zt bI 3 f fd Ny yx:=by
 have Lx:aF P w K mg zt bI 2 fD fdD FL Gu:=IU oq.F T cD iX;have tF:aF P w K mg zt bI 1 fS Oq pO zd:=Al iB.F T;have rX:aF P w K mg zt bI 2 fN Ro iP wW:=vZ dY.F T eK;have jk:aF P w K mg zt bI 2 fK fdK oS oh:=oj cP.F T ji;refine jg F jj λdH A zn s H vs Q E hr h=>?_;obtain⟨r,S,o,p,aQ,Pa,kvs,sh,rfl,hI,hS,hW,hO,ok1,ok2,nn,l1,l2,l3,k⟩:=h;refine⟨_,(aj (bh (i:=4) jj.nd (bO ah)) (aj (bh (i:=5) jj.nd (bO ah)) (aj (ie PassesOwn.never rfl (dc (aG oq Lx hr (aa (pv 0) (aa (pv 1) ah)))) (rA (n:=4) rfl (bZ (cB (i:=6) jj.nd) (bZ (cB (i:=7) jj.nd) (bZ (cB (i:=8) jj.nd) (bZ (cB (i:=9) jj.nd) jO))))) (au (bU (bq jz (pv 9) (pv 2) (bC _)) (au (bu (iu wG qZ rf cH (pv 4) (aa (pv 6) ah)))) (au (bU (bq jz (pv 2) (pv 8) (bC _)) (au (bu (iu wG qZ rf cH (pv 5) (aa (pv 6) ah)))) (aj (yc (i:=4) jj.nd rfl (Or.inl rfl) (aG dY rX hr (aa (aG iB tF hr (aa (pv 7) (aa ay (aa (bz cY (pv 2) (pv 8)) ah)))) ah)) Ak) (au (yc (i:=5) jj.nd rfl (Or.inl rfl) (aG dY rX hr (aa (aG iB tF hr (aa (pv 7) (aa (bz cY (pv 2) (pv 8)) (aa (bz cY (pv 9) (pv 8)) ah)))) ah)) Ak)))))))) (au (aN (aG cP jk hr (aa (bz nM (bz nM (pv 4) (pv 3)) (pv 5)) ah))))))),?_⟩;refine⟨mF,λA hA=>⟨mF,λB hB=>?_⟩⟩;have sA:aM H (aO H A (.lst [])):=ao hA _;have sB:aM _ (aO (aO H A (.lst [])) B (.lst [])):=ao hB _;have s0:=sA.trans sB;have DU:A≠B:=az af hB;have Pc:=aZ sA hB;refine⟨_,rfl,_,rfl,r,S,aQ,kvs,sh,λa=>a≠A/\a≠B,rfl,hI.same s0,s0 _ _ hS,hW.same s0,by lia,(λit hi=>by have:=zC sh hi;lia),?_,?_,λD dv H1 hD TX s1 _=>?_⟩
 ·intro n a hn hv;obtain⟨b,e,as,hb,_⟩:=hW n hn;rw[hv]at e;cases e;exact⟨az hb hA,az hb Pc⟩
 ·intro a ha;exact⟨(az (sB _ _ af) ha).symm,(az af ha).symm⟩
 have hA1:=s1 _ _ (sB _ _ (af (H:=H) (a:=A) (o:=.lst [])));have hB1:=s1 _ _ (af (H:=aO H A (.lst [])) (a:=B) (o:=.lst []))
 have nD:D≠A/\D≠B:=by
  rename_i hD0;exact⟨(az (sB _ _ af) hD0).symm,(az af hD0).symm⟩
 have aeb:=C8 sh (Ye p) aQ 0;have aec:=C8 sh (Yg p) aQ 0;have Pd:=BY sh aQ 0 ok1 nn;refine⟨D,rfl,⟨_,bQ.of hD⟩,gB (K:=K) (a:=D) (xs:=dv) (λi σ H2=>∃ u1 u2 u3 u4:Option V,σ=[some (.ref r),some (.ref S),some (.int p),some (.ref o),some (.ref A),some (.ref B),u1,u2,u3,u4]/\qD H1 A B (((cu sh 0 aQ).take i).flatMap (aD p)) (((cu sh 0 aQ).take i).flatMap (bD p)) H2) ⟨none,none,none,none,rfl,⟨_,hA1,.nil⟩,⟨_,hB1,.nil⟩,λ_ _ e _ _=>e⟩ (by rintro i σ H2 _ ⟨_,_,_,_,_,pv⟩;exact bQ.of (pv.k _ _ hD nD.1 nD.2)) ?_ ?_⟩
 ·rintro i x σ H2 hi ⟨u1,u2,u3,u4,rfl,pv⟩;obtain⟨d,ed,Oe⟩:=TX.get hi;have hd2:=Oe.VU hA1 hB1 (λa h=>h) pv.k;obtain⟨a,ra,xi,rfl,hta,hxi,YY,nra⟩:=hd2;have eA:=wZ (aD p) ed;have eB:=wZ (bD p) ed;have bA:=lX (aD p) (cu sh 0 aQ) i;have bB:=lX (bD p) (cu sh 0 aQ) i;have bA1:=lX (aD p) (cu sh 0 aQ) (i+1);have bB1:=lX (bD p) (cu sh 0 aQ) (i+1);obtain⟨v1,hv1,t1⟩:=pv.a;obtain⟨v2,hv2,t2⟩:=pv.b;have z1:=t1.len;have z2:=t2.len;obtain⟨it,row,fi,la⟩:=d
  have rl:row.length<=50000:=by
   have z:=vf ed
   have:∃ T6∈aQ,row=dB sh T6:=by
    have q:∀ (aQ:List aV) (f:Int),(it,row,fi,la)∈cu sh f aQ->∃ T6∈aQ,row=dB sh T6:=by
     intro aQ
     induction aQ with
     | nil=>intro f h;cases h
     | cons i0 r0 ih =>
      intro f h;rw[cu]at h;rcases List.mem_cons.mp h with e|e
      ·cases e;exact⟨it,by simp,rfl⟩
      ·obtain⟨i1,m1,e1⟩:=ih _ e;exact⟨i1,sH _ m1,e1⟩
    exact q aQ 0 z
   obtain⟨i1,m1,rfl⟩:=this;have:=zC sh m1;lia
  refine⟨a,_,rfl,eL.of hta,rfl,_,_,rfl,_,_,rfl,_,_,rfl,_,_,rfl,rfl,?_⟩;refine⟨_,rfl,_,rfl,_,_,rfl,rfl,_,rfl,dN (λc=>?_) (λc=>?_)⟩
  ·have c':la<=p:=of_decide_eq_true c;refine⟨_,rfl,.inl ⟨rfl,_,bQ.of hv1⟩,_,rfl,A,_,_,rfl,rfl,hv1,aU (by lia),?_⟩;refine⟨_,_,_,_,rfl,?_⟩;rw[eA,eB];have e1:aD p (it,row,fi,la)=[it]:=by unfold aD;rw[if_pos c']
   have e2:bD p (it,row,fi,la)=[]:=by unfold bD;rw[if_pos c']
   rw[e1,e2,jo];exact pv.M0 DU hv1 (.cons hxi .nil)
  ·have c':¬ la<=p:=λz=>c (decide_eq_true z);refine⟨_,rfl,_,rfl,_,_,rfl,rfl,_,rfl,dN (λc2=>?_) (λc2=>?_)⟩
   ·have Lm:p<=fi:=of_decide_eq_true c2;refine⟨_,rfl,.inl ⟨rfl,_,bQ.of hv2⟩,_,rfl,B,_,_,rfl,rfl,hv2,aU (by lia),?_⟩;refine⟨_,_,_,_,rfl,?_⟩;rw[eA,eB];have e1:aD p (it,row,fi,la)=[]:=by unfold aD;rw[if_neg c',if_pos Lm]
    have e2:bD p (it,row,fi,la)=[it]:=by unfold bD;rw[if_neg c',if_pos Lm]
    rw[e1,e2,jo];exact pv.M4 DU hv2 (.cons hxi .nil)
   ·have Lm:¬ p<=fi:=λz=>c2 (decide_eq_true z);have e1:aD p (it,row,fi,la)=cX (cJ (qp 0 (p-fi) 0 row)):=by unfold aD;rw[if_neg c',if_neg Lm]
    have e2:bD p (it,row,fi,la)=cX (cJ (qp (p-fi) (la-fi) 0 row)):=by unfold bD;rw[if_neg c',if_neg Lm]
    rw[eA,e1,dM]at bA1;rw[eB,e2,dM]at bB1;refine⟨_,rfl,_,rfl,_,rfl,_,rfl,_,_,rfl,rfl,ra,row,0,p-fi,rfl,YY,by lia,λq1 H3 R3 s3 UM=>⟨q1,_,rfl,R3,lJ (oX _ _ _ _) (by lia),λq2 H4 I4 s4 jA=>?_⟩⟩;obtain⟨q2',v3,e3,h3,t3⟩:=I4;cases e3;have z3:=t3.len;have OL:=s4 _ _ (s3 _ _ hv1);refine⟨A,q2,_,_,rfl,rfl,OL,h3,j9 (aU (by lia)),?_⟩;have pv5:=((pv.same s3).same s4).M0 DU OL t3;have aei:cM (aO H4 A (.lst (v1++v3))) ra row:=((YY.same s3).same s4).keep OL nra.1 (aL A _ _);have aej:(aO H4 A (.lst (v1++v3))) B=some (.lst v2):=by rw[aK DU.symm];exact s4 _ _ (s3 _ _ hv2)
    refine⟨_,rfl,_,rfl,_,rfl,_,rfl,_,_,rfl,rfl,_,rfl,_,rfl,_,_,rfl,rfl,ra,row,p-fi,la-fi,rfl,aei,by lia,λq3 H6 R6 s6 Q6=>⟨q3,_,rfl,R6,lJ (oX _ _ _ _) (by lia),λq4 H7 I7 s7 UL=>?_⟩⟩;obtain⟨q4',v4,e4,h4,t4⟩:=I7;cases e4;have z4:=t4.len;have VW:=s7 _ _ (s6 _ _ aej);refine⟨B,q4,_,_,rfl,rfl,VW,h4,j9 (aU (by lia)),?_⟩;refine⟨_,_,_,_,rfl,?_⟩;rw[eA,eB,e1,e2];exact ((pv5.same s6).same s7).M4 DU VW t4
 ·rintro σ H2 ⟨u1,u2,u3,u4,rfl,pv⟩;have dl:=TX.len;rw[dl,lI]at pv;obtain⟨v1,hv1,t1⟩:=pv.a;obtain⟨v2,hv2,t2⟩:=pv.b;have z1:=t1.len;have z2:=t2.len;have sm:aM H H2:=λa ob e=>pv.k a ob (s1 _ _ (s0 _ _ e)) (az e hA) (az e Pc);obtain⟨o',v3,e3,h3,t3⟩:=hO.same sm;cases e3;have z3:=t3.len;refine⟨_,rfl,_,rfl,A,o,_,_,rfl,rfl,hv1,h3,j9 (aU (by lia)),λc1 YS=>?_⟩;have n1:aM H2 (aO H2 c1 (.lst (v1++v3))):=ao YS _;refine⟨_,rfl,c1,B,_,_,rfl,rfl,af,n1 _ _ hv2,j9 (aU (by rw[dM];lia)),λc2 Yi=>?_⟩;have n2:aM _ (aO (aO H2 c1 (.lst (v1++v3))) c2 (.lst (v1++v3++v2))):=ao Yi _;have Xz:=n1.trans n2;refine⟨c2,_,rfl,⟨c2,_,rfl,af,((t1.app t3).app t2).mono λv i h=>h.same Xz⟩,by rw[dM,dM];lia,λq H9 I9 s9 hq9=>?_⟩;have okA:iY ((cu sh 0 aQ).flatMap (aD p)):=zB λd hd=>aax (Pd d hd).1 (Pd d hd).2;have okB:iY ((cu sh 0 aQ).flatMap (bD p)):=zB λd hd=>aay (Pd d hd).1 (Pd d hd).2;rw[qe _ ((okA.append ok2).append okB),iO,iO,IT sh p aQ 0 ok1,Fj sh p aQ 0 ok1]at I9;exact k q H9 I9 (sm.trans (Xz.trans s9)) (aZ (sm.trans Xz) hq9)
inductive qg(vs:List V)(H:Hp)(Q:VK)(E:XK):Prop
 | mk (r o:Addr) (rows:dJ) (s p:Int) (aQ:List aV) (sh:Int->List Int) (_:vs=[.ref r,.int s,.int p,.ref o]) (_:uR H r rows sh) (_:0<=s) (_:s<rows.length) (_:bR H (.ref o) aQ) (_:iY aQ) (_:aQ.length<=10000) (_:0<=p/\p<=(sh s).length) (_:(∀ (es:List Int) (q:Addr) (H':Hp),rows[s.toNat]?=some es->bR H' (.ref q) (aI (iT sh p es (dP aQ)))->aM H H'->H q=none->Q (.ref q) H'))
theorem Rp{aQ:List aV}(h:iY aQ):dP aQ=[]↔aQ=[]:=by
 refine⟨λe=>?_,λe=>by rw[e];rfl⟩
 cases aQ with
 | nil=>rfl
 | cons it r =>
  have e1:dP (it::r)=iS it++dP r:=by unfold dP;rw[mW]
  rw[e1]at e;have e2:=(List.append_eq_nil_iff.mp e).1
  cases it with
  | win n=>cases e2
  | aP a b =>
   have ab:a<b:=(h (.aP a b) (by simp)).2;have:=gR a (b-a).toNat;have e3:run a (b-a).toNat=[]:=e2;rw[e3]at this;simp only[xr]at this;lia
theorem Bc:aH ["rows","sheet","place","items","views"] ["rows","sheet","place","items"] (aA uK):=iW
theorem uT{f fp fs fn:Addr}(F:iH K "put_items" "put_items" uK f fd)(T:nI mg)
  (cN:aC K mg "windows" gH oS fw gw) (jv:aC K mg "below" m6 mU fb gb) (cD:aC K mg "item_row" iA yP fi gi) (eK:aC K mg "plain" mZ iP fp gp) (cy:aC K mg "views_below" eU mU fv gv) (iX:aC K mg "size" sQ iP fs gs) (cA:aC K mg "check_places" iN pO fc gc)
  (ji:aC K mg "goes_on" nO Hr fg gg) (cP:aC K mg "plain_items" jd oS fk gk) (oq:aC K mg "dealt" uJ FL fd' gd) (iB:aC K mg "pieces" pC pO fq gq) (dY:aC K mg "inked" rG iP fn gn) (nv:aC K mg "put_among" oU Ny fa ga):aF P w K mg zt bI 4 f fd Pp qg:=by
 have gU:aF P w K mg zt bI 2 _ _ pO uu:=jY cA.F T iX;have iK:aF P w K mg zt bI 3 _ _ mU wV:=kU cy.F T cN jv cD eK;have jk:aF P w K mg zt bI 2 _ _ oS oh:=oj cP.F T ji;have yz:aF P w K mg zt bI 3 _ _ Ny yx:=zD nv.F T cD iX eK iB ji cP oq dY;refine jg F Bc λdH A zn s0 H vs Q E hr h=>?_;obtain⟨r,o,rows,s,p,aQ,sh,rfl,R,h0,h1,hO,ok,ol,hp,k1⟩:=h;have hu:=kj hr;refine⟨_,(aj (bh (i:=4) Bc.nd (aG cy iK hr (aa (pv 0) (aa (bO (aa (pv 1) ah)) ah)))) (aj (bu (aG cA gU hr (aa (kq hu (pv 4) (pv 1)) (aa (pv 2) (aa (pv 2) ah))))) (aj (bU (qq (rC (pv 3) (λ_=>rfl))) (au (aN (aG cP jk hr (aa (aX bW (pv 0) (pv 1)) ah)))) br) (au (aN (aG nv yz hr (aa (aX bW (pv 0) (pv 1)) (aa (pv 4) (aa (pv 2) (aa (pv 3) ah)))))))))),?_⟩;refine⟨_,rfl,_,rfl,qv,λL hL=>?_⟩;have s1:aM H (aO H L (.lst [.int s])):=ao hL _;refine⟨r,L,rows,[s],sh,rfl,R.at_.same s1,af,by simp,R.len,R.ents,R.snd,R.rk,(λx hx=>by rw[List.mem_singleton.mp hx];exact⟨h0,h1⟩),R.Rn,R.bd,λS kvs ks H2 hS hv tp sk hn s2 hS0=>?_⟩;have VX:=sk s (by simp);obtain⟨a,ha,Ra⟩:=hv s VX;have z:=ng.k (k:=Sum.inl s) hS;rw[ha]at z;have sJ:=s1.trans s2;have shl:=R.bd s h0 h1;have rol:=oZ (sh s);obtain⟨es,Bx,b,O⟩:=(R.same sJ).one h0 h1;refine⟨_,rfl,_,rfl,S,_,rfl,z,_,rfl,_,rfl,a,cV (sh s),p,p,rfl,Ra,by lia,⟨hp.1,Int.le_refl _,by rw[O.tt];exact hp.2⟩,λH3 s3=>?_⟩
 ·obtain⟨zN,aaG,b',O3⟩:=(R.same (sJ.trans s3)).one h0 h1;have ee:es=zN:=vM (O.he.symm.trans O3.he);subst ee;have hO3:=hO.same (sJ.trans s3);obtain⟨o',ovs,eo,ho,to⟩:=id hO3;cases eo;refine⟨_,rfl,!ovs.isEmpty,.inl ⟨_,bQ.of ho,rfl⟩,?_⟩;have el:=to.len
  cases aQ with
  | nil =>
   have:ovs=[]:=List.eq_nil_of_length_eq_zero (by simpa using el);subst this;refine mD ?_;refine⟨_,rfl,_,rfl,r,_,_,_,rfl,rfl,bQ.of O3.hr,O3.ix,b',aI es,rfl,O3.it,lJ O3.il (by decide),λq H4 I4 s4 hq=>?_⟩;refine k1 es q H4 O.he ?_ (sJ.trans (s3.trans s4)) (aZ (sJ.trans s3) hq);obtain⟨e1,e2⟩:=rV es;rw[qe _ e2,e1]at I4;exact I4
  | cons it r0 =>
   have:(!ovs.isEmpty)=true:=by
    cases ovs with
    | nil=>simp at el
    | cons _ _=>rfl
   rw[this];refine jK ?_;refine⟨_,rfl,_,rfl,r,_,_,_,rfl,rfl,bQ.of O3.hr,O3.ix,_,rfl,_,rfl,_,rfl,b',S,o,p,aI es,it::r0,kvs,sh,rfl,O3.it,s3 _ _ hS,λn hn=>?_,hO3,(rV es).2,ok,λn hn=>?_,lJ O3.il (by decide),lJ O3.rl (by decide),lJ ol (by decide),λq H4 I4 s4 hq=>?_⟩
   ·have nx:=xg h0 O.he hn;obtain⟨i,hi⟩:=List.getElem?_of_mem VX;obtain⟨a2,e2,R2⟩:=hv n (List.mem_of_mem_take (tp.dn i s hi n nx));exact⟨a2,e2,R2.same s3⟩
   ·have nx:=xg h0 O.he hn;obtain⟨n0,n1⟩:=R.snd.Hj nx;exact uy R.snd R.rk R.Rn n n0 n1
   ·refine k1 es q H4 O.he ?_ (sJ.trans (s3.trans s4)) (aZ (sJ.trans s3) hq);rw[(rV es).1]at I4;unfold iT;rw[if_neg (λz=>by cases (Rp ok).mp z)];exact I4
def kD(a b:Int)(d:sL):List aV:=if d.2.2.2<=a\/b<=d.2.2.1 then [d.1] else if a<=d.2.2.1/\d.2.2.2<=b then [] else cX (cJ (qp 0 (a-d.2.2.1) 0 d.2.1++qp (b-d.2.2.1) (d.2.2.2-d.2.2.1) 0 d.2.1))
def tD(a b:Int)(d:sL):List aV:=if d.2.2.2<=a\/b<=d.2.2.1 then [] else if a<=d.2.2.1/\d.2.2.2<=b then [d.1] else cX (cJ (qp (a-d.2.2.1) (b-d.2.2.1) 0 d.2.1))
def M5(sh:Int->List Int)(a b f e:Int):List Int:=if f+(aY sh e).length<=a\/b<=f then [e] else if a<=f/\f+(aY sh e).length<=b then [] else (aY sh e).take (a-f).toNat++(aY sh e).drop (b-f).toNat
def Pe(sh:Int->List Int)(a b f e:Int):List Int:=if f+(aY sh e).length<=a\/b<=f then [] else if a<=f/\f+(aY sh e).length<=b then [e] else ((aY sh e).take (b-f).toNat).drop (a-f).toNat
def kE(sh:Int->List Int)(a b:Int):Int->List Int->List Int
 | _,[]=>[]
 | f,e::r=>M5 sh a b f e++kE sh a b (f+(aY sh e).length) r
def tE(sh:Int->List Int)(a b:Int):Int->List Int->List Int
 | _,[]=>[]
 | f,e::r=>Pe sh a b f e++tE sh a b (f+(aY sh e).length) r
theorem Aw(sh:Int->List Int)(a b:Int)(y:List Int):∀ (x:List Int) (f:Int),kE sh a b f (x++y)=kE sh a b f x++kE sh a b (f+(aW sh x).length) y
 | [],f=>by simp[kE,aW]
 | e::x,f=>by
  rw[List.cons_append,kE,kE,Aw sh a b y x,pQ,cz,dM,Int.add_assoc]
  push_cast
  rfl
theorem Ax(sh:Int->List Int)(a b:Int)(y:List Int):∀ (x:List Int) (f:Int),tE sh a b f (x++y)=tE sh a b f x++tE sh a b (f+(aW sh x).length) y
 | [],f=>by simp[tE,aW]
 | e::x,f=>by
  rw[List.cons_append,tE,tE,Ax sh a b y x,pQ,cz,dM,Int.add_assoc]
  push_cast
  rfl
theorem YZ{a f:Int}(h:f<a):(a-f).toNat=(a-(f+1)).toNat+1:=by lia
theorem Pf{a f:Int}(h:a<=f):(a-f).toNat=0:=Int.toNat_of_nonpos (Int.sub_nonpos_of_le h)
theorem Y0{a f:Int}(h:a<=f):(a-(f+1)).toNat=0:=Pf (Int.le_trans h (Int.le_of_lt (Int.lt_succ f)))
theorem nS{a f:Int}(h:¬ f+1<=a):a<=f:=Int.not_lt.mp h
theorem Rq(sh:Int->List Int){a b:Int}(ab:a<b):∀ (n:Nat) (x f:Int),0<=x->kE sh a b f (run x n)=(run x n).take (a-f).toNat++(run x n).drop (b-f).toNat
 | 0,_,_,_=>by simp[run,kE]
 | n+1,x,f,h=>by
  rw[run,kE,Rq sh ab n (x+1) _ (by lia)];unfold M5;rw[wX sh h];show (if f+1<=a\/b<=f then [x] else if a<=f/\f+1<=b then [] else _)++((run (x+1) n).take (a-(f+1)).toNat++(run (x+1) n).drop (b-(f+1)).toNat)=_;by_cases c1:f+1<=a
  ·rw[if_pos (.inl c1),YZ c1,YZ (Int.lt_trans c1 ab)];rfl
  ·by_cases c2:b<=f
   ·rw[if_pos (.inr c2),Pf (nS c1),Pf c2,Y0 (nS c1),Y0 c2];rfl
   ·rw[if_neg (λz=>z.elim c1 c2),if_pos ⟨nS c1,Int.not_le.mp c2⟩,Pf (nS c1),YZ (Int.not_le.mp c2),Y0 (nS c1)];rfl
theorem Rt(sh:Int->List Int){a b:Int}(ab:a<b):∀ (n:Nat) (x f:Int),0<=x->tE sh a b f (run x n)=((run x n).take (b-f).toNat).drop (a-f).toNat
 | 0,_,_,_=>by simp[run,tE]
 | n+1,x,f,h=>by
  rw[run,tE,Rt sh ab n (x+1) _ (by lia)];unfold Pe;rw[wX sh h];show (if f+1<=a\/b<=f then [] else if a<=f/\f+1<=b then [x] else _)++((run (x+1) n).take (b-(f+1)).toNat).drop (a-(f+1)).toNat=_;by_cases c1:f+1<=a
  ·rw[if_pos (.inl c1),YZ c1,YZ (Int.lt_trans c1 ab)];rfl
  ·by_cases c2:b<=f
   ·rw[if_pos (.inr c2),Pf c2,Y0 c2];simp
   ·rw[if_neg (λz=>z.elim c1 c2),if_pos ⟨nS c1,Int.not_le.mp c2⟩,Pf (nS c1),YZ (Int.not_le.mp c2),Y0 (nS c1)];rfl
theorem OM{a b t:Int}{r:Row}(ok:∀ p∈r,p.1<=p.2)(h:(bS r).length<=t.toNat):bS (cJ (qp 0 a 0 r++qp b t 0 r))=(bS r).take a.toNat++(bS r).drop b.toNat:=by
 rw[sY _ (XS (F6 _ _ _ _) (F6 _ _ _ _)),dF,wQ _ _ _ _ ok,wQ _ _ _ _ ok];show ((bS r).take (a-0).toNat).drop 0++((bS r).take (t-0).toNat).drop (b-0).toNat=_;rw[Int.sub_zero,Int.sub_zero,Int.sub_zero,yQ h];rfl
theorem aaH(sh:Int->List Int){a b:Int}(ab:a<b)(f:Int)(it:aV)(h:qC it):dP (kD a b (it,dB sh it,f,f+lS (dB sh it)))=kE sh a b f (iS it):=by
 have tt:=qf sh it h
 have sp:dP (cX (cJ (qp 0 (a-f) 0 (dB sh it)++qp (b-f) (f+lS (dB sh it)-f) 0 (dB sh it))))=(aW sh (iS it)).take (a-f).toNat++(aW sh (iS it)).drop (b-f).toNat:=by
  rw[ux,OM (zA sh it h) (by rw[oY sh it h,tt];lia),oY sh it h]
 unfold kD;show dP (if f+lS (dB sh it)<=a\/b<=f then [it] else if a<=f/\f+lS (dB sh it)<=b then [] else cX (cJ (qp 0 (a-f) 0 (dB sh it)++qp (b-f) (f+lS (dB sh it)-f) 0 (dB sh it))))=_;have c1:(f+lS (dB sh it)<=a\/b<=f)=(f+(aW sh (iS it)).length<=a\/b<=f):=by rw[tt]
 have c2:(a<=f/\f+lS (dB sh it)<=b)=(a<=f/\f+(aW sh (iS it)).length<=b):=by rw[tt]
 simp only[c1,c2]
 cases it with
 | win n =>
  have e1:aW sh (iS (.win n))=aY sh (-1-n):=by show aW sh [-1-n]=_;rw[cz];simp[aW]
  rw[e1]at sp ⊢;show _=kE sh a b f [-1-n];rw[kE,kE,jo];unfold M5;split
  ·rfl
  ·split
   ·rfl
   ·exact sp
 | aP x y =>
  have e1:aW sh (iS (.aP x y))=run x (y-x).toNat:=qW sh _ _ h.1;rw[e1]at sp ⊢;show _=kE sh a b f (run x (y-x).toNat);rw[Rq sh ab _ _ _ h.1];have rl:=gR x (y-x).toNat;split
  ·rename_i c;rw[qd];rcases c with c|c
   ·rw[yQ (by lia),B4 (by lia),jo];rfl
   ·rw[Pf (Int.le_trans (Int.le_of_lt ab) c),Pf c];rfl
  ·split
   ·rename_i c;rw[Pf c.1,B4 (by lia)];rfl
   ·exact sp
theorem aaI(sh:Int->List Int){a b:Int}(ab:a<b)(f:Int)(it:aV)(h:qC it):dP (tD a b (it,dB sh it,f,f+lS (dB sh it)))=tE sh a b f (iS it):=by
 have tt:=qf sh it h
 have sp:dP (cX (cJ (qp (a-f) (b-f) 0 (dB sh it))))=((aW sh (iS it)).take (b-f).toNat).drop (a-f).toNat:=by
  rw[ux,uO _ _ _ (zA sh it h),oY sh it h]
 unfold tD;show dP (if f+lS (dB sh it)<=a\/b<=f then [] else if a<=f/\f+lS (dB sh it)<=b then [it] else cX (cJ (qp (a-f) (b-f) 0 (dB sh it))))=_;rw[tt]
 cases it with
 | win n =>
  have e1:aW sh (iS (.win n))=aY sh (-1-n):=by show aW sh [-1-n]=_;rw[cz];simp[aW]
  rw[e1]at sp ⊢;show _=tE sh a b f [-1-n];rw[tE,tE,jo];unfold Pe;split
  ·rfl
  ·split
   ·rfl
   ·exact sp
 | aP x y =>
  have e1:aW sh (iS (.aP x y))=run x (y-x).toNat:=qW sh _ _ h.1;rw[e1]at sp ⊢;show _=tE sh a b f (run x (y-x).toNat);rw[Rt sh ab _ _ _ h.1];have rl:=gR x (y-x).toNat;split
  ·rename_i c;rcases c with c|c
   ·rw[B4 (by rw[jV];lia)];rfl
   ·rw[Pf c];simp[dP]
  ·split
   ·rename_i c;rw[qd,Pf c.1,yQ (by lia)];rfl
   ·exact sp
theorem Gv(sh:Int->List Int){a b:Int}(ab:a<b):∀ (aQ:List aV) (f:Int),iY aQ->dP ((cu sh f aQ).flatMap (kD a b))=kE sh a b f (dP aQ)
 | [],f,_=>rfl
 | it::r,f,h=>by
  have h1:=h it (by simp);rw[cu,mW,iO,aaH sh ab f it h1,Gv sh ab r _ λi hi=>h i (sH _ hi)];have e:dP (it::r)=iS it++dP r:=by unfold dP;rw[mW]
  rw[e,Aw,qf sh it h1]
theorem IV(sh:Int->List Int){a b:Int}(ab:a<b):∀ (aQ:List aV) (f:Int),iY aQ->dP ((cu sh f aQ).flatMap (tD a b))=tE sh a b f (dP aQ)
 | [],f,_=>rfl
 | it::r,f,h=>by
  have h1:=h it (by simp);rw[cu,mW,iO,aaI sh ab f it h1,IV sh ab r _ λi hi=>h i (sH _ hi)];have e:dP (it::r)=iS it++dP r:=by unfold dP;rw[mW]
  rw[e,Ax,qf sh it h1]
theorem VY{a b:Int}{d:sL}(h:qC d.1)(g:qB d.2.1):iY (kD a b d):=by
 unfold kD;split
 ·exact iY.one h
 ·split
  ·exact λi hi=>by cases hi
  ·exact zy (ur λp hp=>(List.mem_append.mp hp).elim (CN _ _ _ _ g p) (CN _ _ _ _ g p))
theorem aaJ{a b:Int}{d:sL}(h:qC d.1)(g:qB d.2.1):iY (tD a b d):=by
 unfold tD;split
 ·exact λi hi=>by cases hi
 ·split
  ·exact iY.one h
  ·exact C7 g
theorem Ly(a b:Int)(d:sL):(kD a b d).length<=d.2.1.length+d.2.1.length+1:=by
 unfold kD;split
 ·simp
 ·split
  ·simp
  ·rw[BZ];refine lJ (qV _) ?_;rw[dM];have:=oX 0 (a-d.2.2.1) d.2.1 0;have:=oX (b-d.2.2.1) (d.2.2.2-d.2.2.1) d.2.1 0;lia
theorem Ru(a b:Int)(d:sL):(tD a b d).length<=d.2.1.length+d.2.1.length+1:=by
 unfold tD;split
 ·simp
 ·split
  ·simp
  ·exact lJ (wY _ _ _) (by lia)
theorem qX(sh:Int->List Int){g:sL->List aV}(hg:∀ d,(g d).length<=d.2.1.length+d.2.1.length+1):∀ (aQ:List aV) (f:Int),((cu sh f aQ).flatMap g).length<=(bx sh aQ).length+(bx sh aQ).length+aQ.length
 | [],_=>by simp[cu]
 | it::r,f=>by
  rw[cu,mW,dM];have a:=hg (it,dB sh it,f,f+lS (dB sh it));have b:=qX sh hg r (f+lS (dB sh it));have e:bx sh (it::r)=dB sh it++bx sh r:=by unfold bx;rw[mW];rfl
  rw[e,dM,qE];simp only at a;lia
theorem IW(sh:Int->List Int)(it:aV)(row:Row)(fi la:Int):∀ (aQ:List aV) (f:Int),(it,row,fi,la)∈cu sh f aQ->∃ T6∈aQ,row=dB sh T6
 | [],_,h=>by cases h
 | i0::r0,f,h=>by
  rw[cu]at h;rcases List.mem_cons.mp h with e|e
  ·cases e;exact⟨it,by simp,rfl⟩
  ·obtain⟨i1,m1,e1⟩:=IW sh it row fi la r0 _ e;exact⟨i1,sH _ m1,e1⟩
theorem Fl(sh:Int->List Int):∀ (aQ:List aV) (f:Int) (d:sL),d∈cu sh f aQ->d.1∈aQ
 | [],_,_,h=>by cases h
 | i0::r0,f,d,h=>by
  rw[cu]at h;rcases List.mem_cons.mp h with e|e
  ·subst e;simp
  ·exact sH _ (Fl sh r0 _ d e)
theorem IX(sh:Int->List Int){a b n:Int}{aQ:List aV}(h:aV.win n∈(cu sh 0 aQ).flatMap (kD a b)):aV.win n∈aQ:=by
 obtain⟨d,hd,hm⟩:=List.mem_flatMap.mp h;unfold kD at hm;split at hm
 ·rw[List.mem_singleton.mp hm];exact Fl sh aQ 0 d hd
 ·split at hm
  ·cases hm
  ·unfold cX at hm;obtain⟨p,_,e⟩:=List.mem_map.mp hm;cases e
theorem Fo{H:Hp}{A:Addr}{l:List aV}{vs:List V}(h:H A=some (.lst vs))(t:cE (dO H) vs l):bR H (.ref A) l:=⟨A,vs,rfl,h,t⟩
def bY(sh:Int->List Int)(a b:Int)(es:List Int):List Int:=if a=b then es else kE sh a b 0 es
def kW(sh:Int->List Int)(a b:Int)(es:List Int):List Int:=if a=b then [] else tE sh a b 0 es
inductive C9(vs:List V)(H:Hp)(Q:VK)(E:XK):Prop
 | mk (r S:Addr) (a b:Int) (aQ:List aV) (kvs:List (iL × V)) (sh:Int->List Int) (_:vs=[.ref r,.ref S,.int a,.int b]) (_:bR H (.ref r) aQ) (_:H S=some (.dK kvs)) (_:As H kvs sh aQ) (_:aQ.length<=10000) (_:(bx sh aQ).length<=20000) (_ :
 ∀ (t L M:Addr) (H':Hp),H' t=some (.tup [.ref L,.ref M])->bR H' (.ref L) ((cu sh 0 aQ).flatMap (kD a b))->bR H' (.ref M) ((cu sh 0 aQ).flatMap (tD a b))->aM H H'->Q (.ref t) H')
theorem ou:aH ["items","views","start","stop","left","taken","item","row","first","last"] ["items","views","start","stop"] (aA sR):=iW
theorem Fp{f fS:Addr}(F:iH K "parted" "parted" sR f fd)(T:nI mg)(cD:aC K mg "item_row" iA yP fI DT)(iX:aC K mg "size" sQ iP fZ YX)(eK:aC K mg "plain" mZ iP fP Ot)(iB:aC K mg "pieces" pC pO fS Oq)(oq:aC K mg "dealt" uJ FL fD fdD)(dY:aC K mg "inked" rG iP fN Ro):aF P w K mg zt bI 3 f fd Hs C9:=by
 have Lx:aF P w K mg zt bI 2 fD fdD FL Gu:=IU oq.F T cD iX;have tF:aF P w K mg zt bI 1 fS Oq pO zd:=Al iB.F T;have rX:aF P w K mg zt bI 2 fN Ro iP wW:=vZ dY.F T eK;refine jg F ou λdH A zn s H vs Q E hr h=>?_;obtain⟨r,S,p,q,aQ,kvs,sh,rfl,hI,hS,hW,l1,l2,k⟩:=h;refine⟨_,(aj (bh (i:=4) ou.nd (bO ah)) (aj (bh (i:=5) ou.nd (bO ah)) (aj (ie PassesOwn.never rfl (dc (aG oq Lx hr (aa (pv 0) (aa (pv 1) ah)))) (rA (n:=4) rfl (bZ (cB (i:=6) ou.nd) (bZ (cB (i:=7) ou.nd) (bZ (cB (i:=8) ou.nd) (bZ (cB (i:=9) ou.nd) jO))))) (au (bU (PW.pt (HF (bq jz (pv 9) (pv 2) (bC _)) (FT (bq jz (pv 3) (pv 8) (bC _))))) (au (bu (iu wG qZ rf cH (pv 4) (aa (pv 6) ah)))) (au (bU (PW.pt (Cd (bq jz (pv 2) (pv 8) (bC _)) (yV (bq jz (pv 9) (pv 3) (bC _))))) (au (bu (iu wG qZ rf cH (pv 5) (aa (pv 6) ah)))) (aj (yc (i:=4) ou.nd rfl (Or.inl rfl) (aG dY rX hr (aa (bz nM (aG iB tF hr (aa (pv 7) (aa ay (aa (bz cY (pv 2) (pv 8)) ah)))) (aG iB tF hr (aa (pv 7) (aa (bz cY (pv 3) (pv 8)) (aa (bz cY (pv 9) (pv 8)) ah))))) ah)) Ak) (au (yc (i:=5) ou.nd rfl (Or.inl rfl) (aG dY rX hr (aa (aG iB tF hr (aa (pv 7) (aa (bz cY (pv 2) (pv 8)) (aa (bz cY (pv 3) (pv 8)) ah)))) ah)) Ak)))))))) (au (aN (dX (aa (pv 4) (aa (pv 5) ah)))))))),?_⟩;refine⟨mF,λA hA=>⟨mF,λB hB=>?_⟩⟩;have sA:aM H (aO H A (.lst [])):=ao hA _;have sB:aM _ (aO (aO H A (.lst [])) B (.lst [])):=ao hB _;have s0:=sA.trans sB;have DU:A≠B:=az af hB;have Pc:=aZ sA hB;refine⟨_,rfl,_,rfl,r,S,aQ,kvs,sh,λa=>a≠A/\a≠B,rfl,hI.same s0,s0 _ _ hS,hW.same s0,by lia,(λit hi=>by have:=zC sh hi;lia),?_,?_,λD dv H1 hD TX s1 _=>?_⟩
 ·intro n a hn hv;obtain⟨b,e,as,hb,_⟩:=hW n hn;rw[hv]at e;cases e;exact⟨az hb hA,az hb Pc⟩
 ·intro a ha;exact⟨(az (sB _ _ af) ha).symm,(az af ha).symm⟩
 have hA1:=s1 _ _ (sB _ _ (af (H:=H) (a:=A) (o:=.lst [])));have hB1:=s1 _ _ (af (H:=aO H A (.lst [])) (a:=B) (o:=.lst []))
 have nD:D≠A/\D≠B:=by
  rename_i hD0;exact⟨(az (sB _ _ af) hD0).symm,(az af hD0).symm⟩
 have aeb:=qX sh (Ly p q) aQ 0;have aec:=qX sh (Ru p q) aQ 0;refine⟨D,rfl,⟨_,bQ.of hD⟩,gB (K:=K) (a:=D) (xs:=dv) (λi σ H2=>∃ u1 u2 u3 u4:Option V,σ=[some (.ref r),some (.ref S),some (.int p),some (.int q),some (.ref A),some (.ref B),u1,u2,u3,u4]/\qD H1 A B (((cu sh 0 aQ).take i).flatMap (kD p q)) (((cu sh 0 aQ).take i).flatMap (tD p q)) H2) ⟨none,none,none,none,rfl,⟨_,hA1,.nil⟩,⟨_,hB1,.nil⟩,λ_ _ e _ _=>e⟩ (by rintro i σ H2 _ ⟨_,_,_,_,_,pv⟩;exact bQ.of (pv.k _ _ hD nD.1 nD.2)) ?_ ?_⟩
 ·rintro i x σ H2 hi ⟨u1,u2,u3,u4,rfl,pv⟩;obtain⟨d,ed,Oe⟩:=TX.get hi;have hd2:=Oe.VU hA1 hB1 (λa h=>h) pv.k;obtain⟨a,ra,xi,rfl,hta,hxi,YY,nra⟩:=hd2;have eA:=wZ (kD p q) ed;have eB:=wZ (tD p q) ed;have bA:=lX (kD p q) (cu sh 0 aQ) i;have bB:=lX (tD p q) (cu sh 0 aQ) i;have bA1:=lX (kD p q) (cu sh 0 aQ) (i+1);have bB1:=lX (tD p q) (cu sh 0 aQ) (i+1);obtain⟨v1,hv1,t1⟩:=pv.a;obtain⟨v2,hv2,t2⟩:=pv.b;have z1:=t1.len;have z2:=t2.len;obtain⟨it,row,fi,la⟩:=d
  have rl:row.length<=20000:=by
   obtain⟨i1,m1,rfl⟩:=IW sh it row fi la aQ 0 (vf ed);have:=zC sh m1;lia
  have mV:v1.length<sizeLine:=aU (by lia)
  have Dc:(la<=p\/q<=fi)->qD H1 A B (((cu sh 0 aQ).take (i+1)).flatMap (kD p q)) (((cu sh 0 aQ).take (i+1)).flatMap (tD p q)) (aO H2 A (.lst (v1++[xi]))):=λc=>by
   rw[eA,eB];have e1:kD p q (it,row,fi,la)=[it]:=by unfold kD;rw[if_pos c]
   have e2:tD p q (it,row,fi,la)=[]:=by unfold tD;rw[if_pos c]
   rw[e1,e2,jo];exact pv.M0 DU hv1 (.cons hxi .nil)
  refine⟨a,_,rfl,eL.of hta,rfl,_,_,rfl,_,_,rfl,_,_,rfl,_,_,rfl,rfl,?_⟩;refine⟨_,rfl,_,rfl,_,_,rfl,rfl,_,rfl,dN (λc=>mD ?_) (λc=>?_)⟩
  ·exact⟨_,rfl,.inl ⟨rfl,_,bQ.of hv1⟩,_,rfl,A,_,_,rfl,rfl,hv1,mV,_,_,_,_,rfl,Dc (.inl (of_decide_eq_true c))⟩
  have c':¬ la<=p:=λz=>c (decide_eq_true z);refine⟨_,rfl,_,rfl,_,_,rfl,rfl,_,rfl,dN (λc2=>?_) (λc2=>?_)⟩
  ·exact⟨_,rfl,.inl ⟨rfl,_,bQ.of hv1⟩,_,rfl,A,_,_,rfl,rfl,hv1,mV,_,_,_,_,rfl,Dc (.inr (of_decide_eq_true c2))⟩
  have Lm:¬ q<=fi:=λz=>c2 (decide_eq_true z);have n1:¬ (la<=p\/q<=fi):=λz=>z.elim c' Lm
  have part:¬ (p<=fi/\la<=q)->qD H1 A B (((cu sh 0 aQ).take i).flatMap (kD p q)) (((cu sh 0 aQ).take i).flatMap (tD p q)) H2->kD p q (it,row,fi,la)=cX (cJ (qp 0 (p-fi) 0 row++qp (q-fi) (la-fi) 0 row))/\tD p q (it,row,fi,la)=cX (cJ (qp (p-fi) (q-fi) 0 row)):=λc3 _=>by
   refine⟨?_,?_⟩
   ·unfold kD;rw[if_neg n1,if_neg c3]
   ·unfold tD;rw[if_neg n1,if_neg c3]
  have go:¬ (p<=fi/\la<=q)->∀ (q1 q2:Addr) (v3:List V) (H4:Hp),H4 q2=some (.lst v3)->cE (dO H4) v3 (cX (cJ (qp 0 (p-fi) 0 row++qp (q-fi) (la-fi) 0 row)))->aM H2 H4->v1.length+v3.length<=sizeLine/\qD H1 A B (((cu sh 0 aQ).take (i+1)).flatMap (kD p q)) (((cu sh 0 aQ).take i).flatMap (tD p q)) (aO H4 A (.lst (v1++v3)))/\cM (aO H4 A (.lst (v1++v3))) ra row/\(aO H4 A (.lst (v1++v3))) B=some (.lst v2):=λc3 q1 q2 v3 H4 h3 t3 s4=>by
   obtain⟨e1,e2⟩:=part c3 pv;have z3:=t3.len;rw[eA,e1,dM]at bA1;have OL:=s4 _ _ hv1;refine⟨Nat.le_of_lt (aU (by lia)),?_,(YY.same s4).keep OL nra.1 (aL A _ _),by rw[aK DU.symm];exact s4 _ _ hv2⟩;rw[eA,e1];exact (pv.same s4).M0 DU OL t3
  have go2:¬ (p<=fi/\la<=q)->∀ (v4:List V) (H5 H7:Hp),qD H1 A B (((cu sh 0 aQ).take (i+1)).flatMap (kD p q)) (((cu sh 0 aQ).take i).flatMap (tD p q)) H5->H5 B=some (.lst v2)->cE (dO H7) v4 (cX (cJ (qp (p-fi) (q-fi) 0 row)))->aM H5 H7->v2.length+v4.length<=sizeLine/\qD H1 A B (((cu sh 0 aQ).take (i+1)).flatMap (kD p q)) (((cu sh 0 aQ).take (i+1)).flatMap (tD p q)) (aO H7 B (.lst (v2++v4))):=λc3 v4 H5 H7 pv5 h5 t4 s7=>by
   obtain⟨e1,e2⟩:=part c3 pv;have z4:=t4.len;rw[eB,e2,dM]at bB1;refine⟨Nat.le_of_lt (aU (by lia)),?_⟩;rw[eB,e2];exact (pv5.same s7).M4 DU (s7 _ _ h5) t4
  have pl1:=oX 0 (p-fi) row 0;have pl2:=oX (q-fi) (la-fi) row 0;have pl3:=oX (p-fi) (q-fi) row 0;refine⟨_,rfl,_,rfl,_,_,rfl,rfl,_,rfl,QX (λz=>⟨_,rfl,_,rfl,_,_,rfl,rfl,_,rfl,z⟩) (λc5=>?_) (λc5=>?_)⟩
  ·refine⟨_,rfl,.inl ⟨rfl,_,bQ.of hv2⟩,_,rfl,B,_,_,rfl,rfl,hv2,aU (by lia),_,_,_,_,rfl,?_⟩;rw[eA,eB];have e1:kD p q (it,row,fi,la)=[]:=by unfold kD;rw[if_neg n1,if_pos c5]
   have e2:tD p q (it,row,fi,la)=[it]:=by unfold tD;rw[if_neg n1,if_pos c5]
   rw[e1,e2,jo];exact pv.M4 DU hv2 (.cons hxi .nil)
  ·refine⟨_,rfl,_,rfl,_,rfl,_,rfl,_,_,rfl,rfl,ra,row,0,p-fi,rfl,YY,by lia,λq1 H3 R3 s3 UM=>?_⟩;obtain⟨as3,ha3,pa3⟩:=id R3;have n3:=pa3.len;refine⟨_,rfl,_,rfl,_,rfl,_,_,rfl,rfl,_,rfl,_,rfl,_,_,rfl,rfl,ra,row,q-fi,la-fi,rfl,YY.same s3,by lia,λq2 H4 R4 s4 jA=>?_⟩;obtain⟨as4,ha4,pa4⟩:=id R4;have n4:=pa4.len;refine⟨q1,q2,_,_,rfl,rfl,s4 _ _ ha3,ha4,(by rw[cR,cR];exact j9 (aU (by lia))),λm hm=>?_⟩;have s5:aM H4 (aO H4 m (.lst (as3.map V.ref++as4.map V.ref))):=ao hm _;refine⟨m,qp 0 (p-fi) 0 row++qp (q-fi) (la-fi) 0 row,rfl,⟨as3++as4,by rw[af,j5],bL.append ((pa3.same s4).same s5) (pa4.same s5)⟩,by rw[dM];lia,λq3 H6 I6 s6 Q6=>?_⟩;obtain⟨q3',v3,e3,h3,t3⟩:=I6;cases e3;have s26:=s3.trans (s4.trans (s5.trans s6));obtain⟨g1,g2,g3,g4⟩:=go c5 q1 q3 v3 H6 h3 t3 s26;refine⟨A,q3,_,_,rfl,rfl,s26 _ _ hv1,h3,g1,?_⟩;refine⟨_,rfl,_,rfl,_,rfl,_,rfl,_,_,rfl,rfl,_,rfl,_,rfl,_,_,rfl,rfl,ra,row,p-fi,q-fi,rfl,g3,by lia,λq4 H7 R7 s7 UL=>⟨q4,_,rfl,R7,by lia,λq5 H8 I8 s8 hq5=>?_⟩⟩;obtain⟨q5',v4,e4,h4,t4⟩:=I8;cases e4;obtain⟨f1,f2⟩:=go2 c5 v4 _ H8 g2 g4 t4 (s7.trans s8);exact⟨B,q5,_,_,rfl,rfl,(s7.trans s8) _ _ g4,h4,f1,_,_,_,_,rfl,f2⟩
 ·rintro σ H2 ⟨u1,u2,u3,u4,rfl,pv⟩;have dl:=TX.len;rw[dl,lI]at pv;obtain⟨v1,hv1,t1⟩:=pv.a;obtain⟨v2,hv2,t2⟩:=pv.b;have sm:aM H H2:=λa ob e=>pv.k a ob (s1 _ _ (s0 _ _ e)) (az e hA) (az e Pc);refine⟨_,rfl,_,rfl,vW,λt ht=>k t A B _ af ?_ ?_ (sm.trans (ao ht _))⟩
  ·exact (Fo hv1 t1).same (ao ht _)
  ·exact (Fo hv2 t2).same (ao ht _)
inductive Bd(vs:List V)(H:Hp)(Q:VK)(E:XK):Prop
 | mk (r:Addr) (rows:dJ) (s a b:Int) (sh:Int->List Int) (_:vs=[.ref r,.int s,.int a,.int b]) (_:uR H r rows sh) (_:0<=s) (_:s<rows.length) (_:O9 a b (sh s).length) (_:(∀ (es:List Int) (q:Addr) (H':Hp),rows[s.toNat]?=some es->bR H' (.ref q) (aI (bY sh a b es))->aM H H'->H q=none->Q (.ref q) H'))
theorem Be:aH ["rows","sheet","start","stop","views"] ["rows","sheet","start","stop"] (aA rH):=iW
theorem Gw{f fp fs fn:Addr}(F:iH K "cut_items" "cut_items" rH f fd)(T:nI mg)
  (cN:aC K mg "windows" gH oS fw gw) (jv:aC K mg "below" m6 mU fb gb) (cD:aC K mg "item_row" iA yP fi gi) (eK:aC K mg "plain" mZ iP fp gp) (cy:aC K mg "views_below" eU mU fv gv) (iX:aC K mg "size" sQ iP fs gs) (cA:aC K mg "check_places" iN pO fc gc)
  (ji:aC K mg "goes_on" nO Hr fg gg) (cP:aC K mg "plain_items" jd oS fk gk) (oq:aC K mg "dealt" uJ FL fd' gd) (iB:aC K mg "pieces" pC pO fq gq) (dY:aC K mg "inked" rG iP fn gn) (ku:aC K mg "parted" sR Hs fa ga):aF P w K mg zt bI 4 f fd Td Bd:=by
 have gU:aF P w K mg zt bI 2 _ _ pO uu:=jY cA.F T iX;have iK:aF P w K mg zt bI 3 _ _ mU wV:=kU cy.F T cN jv cD eK;have jk:aF P w K mg zt bI 2 _ _ oS oh:=oj cP.F T ji;have Gx:aF P w K mg zt bI 3 _ _ Hs C9:=Fp ku.F T cD iX eK iB oq dY;refine jg F Be λdH A zn s0 H vs Q E hr h=>?_;obtain⟨r,rows,s,p,q,sh,rfl,R,h0,h1,hp,k1⟩:=h;have hu:=kj hr;refine⟨_,(aj (bh (i:=4) Be.nd (aG cy iK hr (aa (pv 0) (aa (bO (aa (pv 1) ah)) ah)))) (aj (bu (aG cA gU hr (aa (kq hu (pv 4) (pv 1)) (aa (pv 2) (aa (pv 3) ah))))) (aj (bU (bq ig (pv 2) (pv 3) (bC _)) (au (aN (aG cP jk hr (aa (aX bW (pv 0) (pv 1)) ah)))) br) (au (aN (aG cP jk hr (aa (aX bw (aG ku Gx hr (aa (aX bW (pv 0) (pv 1)) (aa (pv 4) (aa (pv 2) (aa (pv 3) ah))))) ay) ah))))))),?_⟩;refine⟨_,rfl,_,rfl,qv,λL hL=>?_⟩;have s1:aM H (aO H L (.lst [.int s])):=ao hL _;refine⟨r,L,rows,[s],sh,rfl,R.at_.same s1,af,by simp,R.len,R.ents,R.snd,R.rk,(λx hx=>by rw[List.mem_singleton.mp hx];exact⟨h0,h1⟩),R.Rn,R.bd,λS kvs ks H2 hS hv tp sk hn s2 hS0=>?_⟩;have VX:=sk s (by simp);obtain⟨a,ha,Ra⟩:=hv s VX;have z:=ng.k (k:=Sum.inl s) hS;rw[ha]at z;have sJ:=s1.trans s2;have shl:=R.bd s h0 h1;have rol:=oZ (sh s);obtain⟨es,Bx,b,O⟩:=(R.same sJ).one h0 h1;refine⟨_,rfl,_,rfl,S,_,rfl,z,_,rfl,_,rfl,a,cV (sh s),p,q,rfl,Ra,by lia,by rw[O.tt];exact hp,λH3 s3=>?_⟩
 ·obtain⟨zN,aaG,b',O3⟩:=(R.same (sJ.trans s3)).one h0 h1;have ee:es=zN:=vM (O.he.symm.trans O3.he);subst ee;obtain⟨e1,e2⟩:=rV es;refine⟨_,rfl,_,rfl,rfl,_,rfl,dN (λc=>?_) (λc=>?_)⟩
  ·have c':p=q:=V.int.inj (of_decide_eq_true c);refine⟨_,rfl,_,rfl,r,_,_,_,rfl,rfl,bQ.of O3.hr,O3.ix,b',aI es,rfl,O3.it,lJ O3.il (by decide),λo H4 I4 s4 ho=>?_⟩;refine k1 es o H4 O.he ?_ (sJ.trans (s3.trans s4)) (aZ (sJ.trans s3) ho);rw[qe _ e2,e1]at I4;unfold bY;rw[if_pos c'];exact I4
  ·have c':¬ p=q:=λz=>c (by rw[z];exact decide_eq_true rfl);have pq:p<q:=by have:=hp.2.1;lia
   refine⟨_,rfl,_,rfl,r,_,_,_,rfl,rfl,bQ.of O3.hr,O3.ix,_,rfl,_,rfl,_,rfl,b',S,p,q,aI es,kvs,sh,rfl,O3.it,s3 _ _ hS,λn hn=>?_,lJ O3.il (by decide),lJ O3.rl (by decide),λt L M H4 ht hL4 hM4 s4=>?_⟩
   ·have nx:=xg h0 O.he hn;obtain⟨i,hi⟩:=List.getElem?_of_mem VX;obtain⟨a2,e2,R2⟩:=hv n (List.mem_of_mem_take (tp.dn i s hi n nx));exact⟨a2,e2,R2.same s3⟩
   have nn:UJ sh (aI es):=λn hn=>by
    have nx:=xg h0 O.he hn;obtain⟨n0,n1⟩:=R.snd.Hj nx;exact uy R.snd R.rk R.Rn n n0 n1
   have Pd:=BY sh (aI es) 0 e2 nn;have lk:iY ((cu sh 0 (aI es)).flatMap (kD p q)):=zB λd hd=>VY (Pd d hd).1 (Pd d hd).2;have ll:=qX sh (Ly p q) (aI es) 0;have oil:=O3.il;have orl:=O3.rl;refine⟨t,_,_,_,rfl,rfl,eL.of ht,rfl,L,_,rfl,hL4,by lia,λo H5 I5 s5 ho=>?_⟩;refine k1 es o H5 O.he ?_ (sJ.trans (s3.trans (s4.trans s5))) (aZ (sJ.trans (s3.trans s4)) ho);rw[qe _ lk,Gv sh pq _ _ e2,e1]at I5;unfold bY;rw[if_neg c'];exact I5
def qK(sh:Int->List Int)(a b to:Int)(es:List Int):List Int:=if a=b then es else aE sh to 0 (kE sh a b 0 es)++tE sh a b 0 es++bE sh to 0 (kE sh a b 0 es)
def Mv(a b to n:Int):Prop:=O9 a b n/\0<=to/\to<=n-(b-a)
theorem Rv(sh:Int->List Int)(r:Row):bx sh (cX r)=r:=by
 unfold bx cX;rw[List.flatMap_map]
 induction r with
 | nil=>rfl
 | cons p r ih=>rw[mW,ih];rfl
theorem Fq(sh:Int->List Int)(a b:Int):∀ (aQ:List aV) (f:Int),(bx sh ((cu sh f aQ).flatMap (kD a b))).length<=(bx sh aQ).length+(bx sh aQ).length
 | [],_=>by simp[cu,bx]
 | it::r,f=>by
  have ih:=Fq sh a b r (f+lS (dB sh it));have e:bx sh (it::r)=dB sh it++bx sh r:=by unfold bx;rw[mW];rfl
  have one:(bx sh (kD a b (it,dB sh it,f,f+lS (dB sh it)))).length<=(dB sh it).length+(dB sh it).length:=by
   unfold kD;split
   ·rw[nu];show (dB sh it).length<=_;lia
   ·split
    ·simp[bx]
    ·rw[Rv];refine lJ (qV _) ?_;rw[dM];have:=oX 0 (a-f) (dB sh it) 0;have:=oX (b-f) (f+lS (dB sh it)-f) (dB sh it) 0;simp only;lia
  rw[cu,mW,gX,dM,e,dM];lia
inductive xP(vs:List V)(H:Hp)(Q:VK)(E:XK):Prop
 | mk (r:Addr) (rows:dJ) (s a b to:Int) (sh:Int->List Int) (_:vs=[.ref r,.int s,.int a,.int b,.int to]) (_:uR H r rows sh) (_:0<=s) (_:s<rows.length) (_:Mv a b to (sh s).length) (_:(∀ (es:List Int) (q:Addr) (H':Hp),rows[s.toNat]?=some es->bR H' (.ref q) (aI (qK sh a b to es))->aM H H'->H q=none->Q (.ref q) H'))
theorem wO.mid{i:Int}(h0:-300000<i)(h1:i<300000):wO i:=by
 have a:(300000:Int)<10^60:=by decide
 exact⟨by lia,by lia⟩
theorem wO.Yj{i:Int}(h:-100000<i/\i<100000):wO i:=wO.mid (by lia) (by lia)
theorem mH:aH ["rows","sheet","start","stop","to","views","rest","left","taken"] ["rows","sheet","start","stop","to"] (aA nP):=iW
theorem Dd{f fp fs fn:Addr}(F:iH K "moved_items" "moved_items" nP f fd)(T:nI mg)
  (cN:aC K mg "windows" gH oS fw gw) (jv:aC K mg "below" m6 mU fb gb) (cD:aC K mg "item_row" iA yP fi gi) (eK:aC K mg "plain" mZ iP fp gp) (cy:aC K mg "views_below" eU mU fv gv) (iX:aC K mg "size" sQ iP fs gs) (cA:aC K mg "check_places" iN pO fc gc)
  (ji:aC K mg "goes_on" nO Hr fg gg) (cP:aC K mg "plain_items" jd oS fk gk) (oq:aC K mg "dealt" uJ FL fd' gd) (iB:aC K mg "pieces" pC pO fq gq) (dY:aC K mg "inked" rG iP fn gn) (ku:aC K mg "parted" sR Hs fa ga) (nv:aC K mg "put_among" oU Ny fu gu):aF P w K mg zt bI 4 f fd Te xP:=by
 have gU:aF P w K mg zt bI 2 _ _ pO uu:=jY cA.F T iX;have iK:aF P w K mg zt bI 3 _ _ mU wV:=kU cy.F T cN jv cD eK;have jk:aF P w K mg zt bI 2 _ _ oS oh:=oj cP.F T ji;have Gx:aF P w K mg zt bI 3 _ _ Hs C9:=Fp ku.F T cD iX eK iB oq dY;have yz:aF P w K mg zt bI 3 _ _ Ny yx:=zD nv.F T cD iX eK iB ji cP oq dY;have IL:aF P w K mg zt bI 1 _ _ iP F5:=Gj iX.F T;refine jg F mH λdH A zn s0 H vs Q E hr h=>?_;obtain⟨r,rows,s,p,q,to,sh,rfl,R,h0,h1,mv,k1⟩:=h;have hu:=kj hr;refine⟨_,(aj (bh (i:=5) mH.nd (aG cy iK hr (aa (pv 0) (aa (bO (aa (pv 1) ah)) ah)))) (aj (bu (aG cA gU hr (aa (kq hu (pv 5) (pv 1)) (aa (pv 2) (aa (pv 3) ah))))) (aj (bh (i:=6) mH.nd (bz cY (iV.wU iX (T.tV _ iX.m) IL hr (aa (kq hu (pv 5) (pv 1)) ah)) (bz cY (pv 3) (pv 2)))) (aj (bU (qq (ue jz jz ay (pv 4) (pv 6))) (au nL) br) (aj (bU (bq ig (pv 2) (pv 3) (bC _)) (au (aN (aG cP jk hr (aa (aX bW (pv 0) (pv 1)) ah)))) br) (aj (uI (aG ku Gx hr (aa (aX bW (pv 0) (pv 1)) (aa (pv 5) (aa (pv 2) (aa (pv 3) ah))))) (rA (n:=2) rfl (bZ (cB (i:=7) mH.nd) (bZ (cB (i:=8) mH.nd) jO)))) (au (aN (aG nv yz hr (aa (pv 7) (aa (pv 5) (aa (pv 4) (aa (pv 8) ah))))))))))))),?_⟩;refine⟨_,rfl,_,rfl,qv,λL hL=>?_⟩;have s1:aM H (aO H L (.lst [.int s])):=ao hL _;refine⟨r,L,rows,[s],sh,rfl,R.at_.same s1,af,by simp,R.len,R.ents,R.snd,R.rk,(λx hx=>by rw[List.mem_singleton.mp hx];exact⟨h0,h1⟩),R.Rn,R.bd,λS kvs ks H2 hS hv tp sk hn s2 hS0=>?_⟩;have VX:=sk s (by simp);obtain⟨a,ha,Ra⟩:=hv s VX;have z:=ng.k (k:=Sum.inl s) hS;rw[ha]at z;have sJ:=s1.trans s2;have shl:=R.bd s h0 h1;have rol:=oZ (sh s);obtain⟨es,Bx,b,O⟩:=(R.same sJ).one h0 h1;refine⟨_,rfl,_,rfl,S,_,rfl,z,_,rfl,_,rfl,a,cV (sh s),p,q,rfl,Ra,by lia,by rw[O.tt];exact mv.1,λH3 s3=>?_⟩
 ·have hp:=mv.1;obtain⟨zN,aaG,b',O3⟩:=(R.same (sJ.trans s3)).one h0 h1;have ee:es=zN:=vM (O.he.symm.trans O3.he);subst ee;obtain⟨e1,e2⟩:=rV es;have z3:=ng.k (k:=Sum.inl s) (s3 _ _ hS);rw[ha]at z3;refine⟨_,rfl,_,rfl,S,_,rfl,z3,a,cV (sh s),rfl,Ra.same s3,by lia,λH4 s4=>?_⟩;rw[O.tt];refine⟨_,rfl,_,rfl,_,_,rfl,rfl,_,_,rfl,rfl,?_⟩;refine⟨_,rfl,_,_,rfl,rfl,_,rfl,?_⟩;rw[decide_eq_true mv.2.1];refine dN (λ_=>?_) (λc=>absurd rfl c);refine⟨_,rfl,_,_,rfl,rfl,_,rfl,?_⟩;rw[decide_eq_true mv.2.2];refine jK ?_;have O4:bR H4 (.ref b') (aI es):=O3.it.same s4;have hr4:=s4 _ _ O3.hr;refine⟨_,rfl,_,rfl,rfl,_,rfl,dN (λc=>?_) (λc=>?_)⟩
  ·have c':p=q:=V.int.inj (of_decide_eq_true c);refine⟨_,rfl,_,rfl,r,_,_,_,rfl,rfl,bQ.of hr4,O3.ix,b',aI es,rfl,O4,lJ O3.il (by decide),λo H5 I5 s5 ho=>?_⟩;refine k1 es o H5 O.he ?_ (sJ.trans (s3.trans (s4.trans s5))) (aZ (sJ.trans (s3.trans s4)) ho);rw[qe _ e2,e1]at I5;unfold qK;rw[if_pos c'];exact I5
  ·have c':¬ p=q:=λz=>c (by rw[z];exact decide_eq_true rfl);have pq:p<q:=by have:=hp.2.1;lia
   have aaK:∀ n,aV.win n∈aI es->∃ a2,cW kvs (Sum.inl n)=some (.ref a2)/\cM H4 a2 (cV (sh n)):=λn hn=>by
    have nx:=xg h0 O.he hn;obtain⟨i,hi⟩:=List.getElem?_of_mem VX;obtain⟨a2,e2,R2⟩:=hv n (List.mem_of_mem_take (tp.dn i s hi n nx));exact⟨a2,e2,(R2.same s3).same s4⟩
   refine⟨_,rfl,_,rfl,r,_,_,_,rfl,rfl,bQ.of hr4,O3.ix,_,rfl,_,rfl,_,rfl,b',S,p,q,aI es,kvs,sh,rfl,O4,s4 _ _ (s3 _ _ hS),aaK,lJ O3.il (by decide),lJ O3.rl (by decide),λt L M H5 ht hL5 hM5 s5=>?_⟩
   have nn:UJ sh (aI es):=λn hn=>by
    have nx:=xg h0 O.he hn;obtain⟨n0,n1⟩:=R.snd.Hj nx;exact uy R.snd R.rk R.Rn n n0 n1
   have Pd:=BY sh (aI es) 0 e2 nn;have lk:iY ((cu sh 0 (aI es)).flatMap (kD p q)):=zB λd hd=>VY (Pd d hd).1 (Pd d hd).2;have tk:iY ((cu sh 0 (aI es)).flatMap (tD p q)):=zB λd hd=>aaJ (Pd d hd).1 (Pd d hd).2;have ll:=qX sh (Ly p q) (aI es) 0;have tl:=qX sh (Ru p q) (aI es) 0;have lr:=Fq sh p q (aI es) 0;have oil:=O3.il;have orl:=O3.rl;refine⟨t,_,rfl,eL.of ht,rfl,_,_,rfl,_,_,rfl,rfl,?_⟩;refine⟨_,rfl,_,rfl,_,rfl,_,rfl,L,S,M,to,_,_,kvs,sh,rfl,hL5,s5 _ _ (s4 _ _ (s3 _ _ hS)),(λn hn=>?_),hM5,lk,tk,(λn hn=>nn n (IX sh hn)),by lia,by lia,by lia,λo H6 I6 s6 ho=>?_⟩
   ·obtain⟨a2,e3,R2⟩:=aaK n (IX sh hn);exact⟨a2,e3,R2.same s5⟩
   refine k1 es o H6 O.he ?_ (sJ.trans (s3.trans (s4.trans (s5.trans s6)))) (aZ (sJ.trans (s3.trans (s4.trans s5))) ho);rw[Gv sh pq _ _ e2,IV sh pq _ _ e2,e1]at I6;unfold qK;rw[if_neg c'];exact I6
inductive M6(vs:List V)(H:Hp)(Q:VK)(E:XK):Prop
 | mk (r:Addr) (rows:dJ) (s:Int) (sh:Int->List Int) (_:vs=[.ref r,.int s]) (_:uR H r rows sh) (_:0<=s) (_:s<rows.length) (_ :
 ∀ (o:Addr) (H':Hp),bR H' (.ref o) (aI (sh s))->aM H H'->H o=none->Q (.ref o) H')
theorem Ef:aH ["rows","sheet"] ["rows","sheet"] (aA nQ):=iW
theorem De{f fp fs fn:Addr}(F:iH K "fixed_items" "fixed_items" nQ f fd)(T:nI mg)
  (cN:aC K mg "windows" gH oS fw gw) (jv:aC K mg "below" m6 mU fb gb) (cD:aC K mg "item_row" iA yP fi gi) (eK:aC K mg "plain" mZ iP fp gp) (cy:aC K mg "views_below" eU mU fv gv) (ny:aC K mg "shown" yi vz fs gs) (dY:aC K mg "inked" rG iP fn gn):aF P w K mg zt bI 5 f fd vz M6:=by
 have Lz:aF P w K mg zt bI 4 _ _ vz Gs:=IS ny.F T cN jv cD eK cy;have rX:aF P w K mg zt bI 2 _ _ iP wW:=vZ dY.F T eK;refine jg F Ef λdH A zn s0 H vs Q E hr h=>?_;obtain⟨r,rows,s,sh,rfl,R,h0,h1,k⟩:=h;refine⟨_,(au (aN (aG dY rX hr (aa (iV.wU ny (T.vX _ ny.m) Lz hr (aa (pv 0) (aa (pv 1) ah))) ah)))),?_⟩;have shl:=R.bd s h0 h1;have rol:=oZ (sh s);refine⟨_,rfl,_,rfl,r,rows,s,sh,rfl,R.at_,R.len,R.ents,R.snd,R.rk,h0,h1,R.Rn,R.bd,λo H1 R1 s1 ho=>?_⟩;refine⟨o,cV (sh s),rfl,R1,by lia,λq H2 I2 s2 hq=>k q H2 ?_ (s1.trans s2) (aZ s1 hq)⟩;rw[Cr _ (rN _),je,OJ (uy R.snd R.rk R.Rn s h0 h1)]at I2;exact I2
abbrev qx(ws:nJ):HO:=.lst (ws.map λw=>V.str (iU w))
abbrev UN:List (Str × Int):=[(Str.ofString "fresh",0),(Str.ofString "cut",3),(Str.ofString "move",4),(Str.ofString "quote",5),(Str.ofString "window",3),(Str.ofString "fix",1),(Str.ofString "back",2),(Str.ofString "fork",2),(Str.ofString "untie",1),(Str.ofString "read",1)]
abbrev AHD:List (Str × Int):=[(Str.ofString "put",2),(Str.ofString "strike",0),(Str.ofString "blot",1),(Str.ofString "lift",1)]
def rY(D:List (Str × Int))(n:List Nat):Option Int:=(D.find? λp=>decide (iU n=p.1)).map (·.2)
theorem Df{D:List (Str × Int)}{n:List Nat}{i:Int}(h:rY D n=some i):(D.find? λp=>decide (iU n=p.1))=some (iU n,i):=by
 unfold rY at h;obtain⟨⟨x,j⟩,e,rfl⟩:=Option.map_eq_some_iff.mp h;have z:=List.find?_some e;have:iU n=x:=of_decide_eq_true z;rw[e,this]
abbrev IY:List Nat:=[116,105,101]
inductive oN where
 | Eg (h:Int) (t:List Nat)
 | plain (n:List Nat) (ns:List Int)
 | xQ (n:List Nat) (ns:List Int) (r:Row)
def oN.At(H:Hp)(p:Addr):oN->Prop
 | .Eg h t=>H p=some (.tup [.str "pour",.int h,.str (iU t)])
 | .plain n ns=>H p=some (.tup (.str (iU n)::ns.map V.int))
 | .xQ n ns r=>∃ q,H p=some (.tup (.str (iU n)::ns.map V.int++[.ref q]))/\cM H q r
def zE(n:Int):Prop:=0<=n/\n<10^60
def Rw(r:Row):Prop:=r.length<=29/\∀ p∈r,zE p.1/\zE p.2
def oN.Ok:oN->Prop
 | .Eg h t=>zE h/\t.length<=200
 | .plain n ns=>rY UN n=some (ns.length:Int)/\∀ x∈ns,zE x
 | .xQ n ns r=>rY AHD n=some (ns.length:Int)/\(∀ x∈ns,zE x)/\Rw r
abbrev zF(p:Int × Int):List Nat:=mw.dg p.1++45::mw.dg p.2
theorem ON{p:Int × Int}(h:zE p.1/\zE p.2):(zF p).length<=121:=by
 rw[dM,qE];have a:=mw.Li h.1.1 h.1.2;have b:=mw.Li h.2.1 h.2.2;lia
theorem Gy{n:Int}(h:zE n):n.natAbs.log2<1920:=by
 obtain⟨h0,h1⟩:=h;by_cases z:n.natAbs=0
 ·rw[z];decide
 ·rw[Nat.log2_lt z];have a:n.natAbs<10^60:=by lia
  exact vA a (lJ (show (10:Nat)^60<=2^200 by decide) (Nat.pow_le_pow_right (by decide) (by decide)))
inductive kX where
 | num (x:Int)
 | tx (t:List Nat)
 | row (r:Row)
def kX.At(H:Hp)(v:V):kX->Prop
 | .num x=>v=.int x
 | .tx t=>v=.str (iU t)
 | .row r=>∃ q,v=.ref q/\cM H q r
def kX.Ok:kX->Prop
 | .num x=>zE x
 | .tx t=>t.length<=200
 | .row r=>Rw r
abbrev IZ(r:Row):List Nat:=r.flatMap λp=>32::zF p
def kX.line:kX->List Nat
 | .num x=>32::mw.dg x
 | .tx t=>32::t
 | .row r=>IZ r
theorem Rx{r:Row}(h:Rw r):(IZ r).length<=4000:=by
 have key:∀ l:Row,(∀ p∈l,zE p.1/\zE p.2)->(IZ l).length<=122*l.length:=by
  intro l
  induction l with
  | nil=>intro _;exact ja _
  | cons p l ih =>
   intro g;have z:=ih λq hq=>g q (sH _ hq);have z2:=ON (g p yR);show ((32::zF p)++IZ l).length<=_;rw[dM,qE,qE];lia
 have:=key r h.2;have:=h.1;lia
theorem kX.I0{p:kX}(h:p.Ok):p.line.length<=4000:=by
 cases p with
 | num x=>have:=mw.Li h.1 h.2;show (32::mw.dg x).length<=_;rw[qE];lia
 | tx t=>have h':t.length<=200:=h;show (32::t).length<=_;rw[qE];lia
 | row r=>exact Rx h
def oN.nm:oN->List Nat
 | .Eg _ _=>[112,111,117,114]
 | .plain n _=>n
 | .xQ n _ _=>n
def oN.parts:oN->List kX
 | .Eg h t=>[.num h,.tx t]
 | .plain _ ns=>ns.map .num
 | .xQ _ ns r=>ns.map .num++[.row r]
def oN.line:oN->List Nat
 | d=>d.nm++d.parts.flatMap kX.line
theorem Ry{H:Hp}{p:Addr}{d:oN}(h:d.At H p):∃ vs,H p=some (.tup (.str (iU d.nm)::vs))/\cE (λv q=>kX.At H v q) vs d.parts:=by
 have nums:∀ ns:List Int,cE (λv q=>kX.At H v q) (ns.map V.int) (ns.map kX.num):=λns=>by
  induction ns with
  | nil=>exact .nil
  | cons x ns ih=>exact .cons rfl ih
 cases d with
 | Eg x t=>exact⟨_,by rw[h,show Str.ofString "pour"=iU [112,111,117,114] by decide +kernel];rfl,.cons rfl (.cons rfl .nil)⟩
 | plain n ns=>exact⟨_,h,nums ns⟩
 | xQ n ns r =>
  obtain⟨q,e,z⟩:=h;exact⟨ns.map V.int++[.ref q],by rw[e];rfl,(nums ns).snoc ⟨q,rfl,z⟩⟩
theorem OO{d:oN}(h:d.Ok):∀ q∈d.parts,q.Ok:=by
 cases d with
 | Eg x t =>
  intro q hq;rcases List.mem_cons.mp hq with z|z
  ·rw[z];exact h.1
  ·rw[List.mem_singleton.mp z];exact h.2
 | plain n ns =>
  intro q hq;obtain⟨x,hx,rfl⟩:=List.mem_map.mp hq;exact h.2 x hx
 | xQ n ns r =>
  intro q hq;rcases List.mem_append.mp hq with z|z
  ·obtain⟨x,hx,rfl⟩:=List.mem_map.mp z;exact h.2.1 x hx
  ·rw[List.mem_singleton.mp z];exact h.2.2
theorem Ja{H:Hp}:∀ {vs:List V} {ps:List kX} {i:Nat} {v:V},cE (λv q=>kX.At H v q) vs ps->vs[i]?=some v->∃ q,ps[i]?=some q/\q.At H v
 | _,_,_,_,.nil,h=>by simp at h
 | _,_,0,_,.cons o t,h=>by
  have e:=vM h;subst e;exact⟨_,rfl,o⟩
 | _,_,i+1,_,.cons o t,h=>by
  obtain⟨q,e,z⟩:=Ja (i:=i) t (by simpa using h);exact⟨q,by simpa using e,z⟩
theorem Ft{ps:List kX}(h:∀ q∈ps,q.Ok):(ps.flatMap kX.line).length<=4000*ps.length:=by
 induction ps with
 | nil=>exact Nat.zero_le _
 | cons p ps ih =>
  have z:=ih λq hq=>h q (sH _ hq);have z2:=kX.I0 (h p yR);rw[mW,dM,qE,Nat.mul_add,Nat.mul_one];lia
theorem UO(n:List Nat):∀ ws:nJ,mw.jn 32 (n::ws)=n++ws.flatMap (λw=>32::w):=by
 intro ws
 induction ws generalizing n with
 | nil=>show n=_;simp
 | cons w ws ih =>
  show n++32::mw.jn 32 (w::ws)=_;rw[ih w,mW];simp
theorem Jb{D:List (Str × Int)}{n:List Nat}{k:Int}(hD:∀ p∈D,32∉p.1.cps.toList/\p.1.cps.toList≠[112,111,117,114]/\p.1.cps.toList≠IY/\p.1.cps.toList.length<=10)(h:rY D n=some k):32∉n/\n≠[112,111,117,114]/\n≠IY/\n.length<=10:=by
 have z:=hD _ (List.mem_of_find?_eq_some (Df h));have e:(iU n).cps.toList=n:=mw.zl n;rw[show ((iU n,k):Str × Int).1=iU n from rfl,e]at z;exact z
theorem Rz{n:List Nat}{k:Int}(h:rY UN n=some k):32∉n/\n≠[112,111,117,114]/\n≠IY/\n.length<=10:=Jb (by decide +kernel) h
theorem RA{n:List Nat}{k:Int}(h:rY AHD n=some k):32∉n/\n≠[112,111,117,114]/\n≠IY/\n.length<=10:=Jb (by decide +kernel) h
theorem RB(r:Row):IZ r=(r.map zF).flatMap λw=>32::w:=by
 induction r with
 | nil=>rfl
 | cons x r ih=>rw[oJ,mW,← ih];rfl
theorem oN.At.same{H H':Hp}{p:Addr}{d:oN}(h:d.At H p)(s:aM H H'):d.At H' p:=by
 cases d with
 | Eg x t=>exact s _ _ h
 | plain n ns=>exact s _ _ h
 | xQ n ns r=>obtain⟨q,e,r1⟩:=h;exact⟨q,s _ _ e,r1.same s⟩
theorem OP{n:List Nat}{k:Int}(h:rY UN n=some k):k<=5:=by
 have z:∀ p∈UN,p.2<=5:=by decide +kernel
 exact z _ (List.mem_of_find?_eq_some (Df h))
theorem OQ{n:List Nat}{k:Int}(h:rY AHD n=some k):k<=5:=by
 have z:∀ p∈AHD,p.2<=5:=by decide +kernel
 exact z _ (List.mem_of_find?_eq_some (Df h))
theorem LA{d:oN}(ok:d.Ok):d.nm≠IY/\d.nm.length<=10/\d.parts.length<=10:=by
 cases d with
 | Eg x t=>exact⟨by show [112,111,117,114]≠IY;decide,by show 4<=10;decide,by show 2<=10;decide⟩
 | plain n ns =>
  obtain⟨_,_,f3,f4⟩:=Rz ok.1;have:=OP ok.1;exact⟨f3,f4,by show (ns.map kX.num).length<=10;rw[cR];lia⟩
 | xQ n ns r =>
  obtain⟨_,_,f3,f4⟩:=RA ok.1;have:=OQ ok.1;exact⟨f3,f4,by show (ns.map kX.num++[kX.row r]).length<=10;rw[dM,cR];show ns.length+1<=10;lia⟩
inductive Dg(vs:List V)(H:Hp)(Q:VK)(E:XK):Prop
 | mk (q:Addr) (r:Row) (_:vs=[.ref q]) (_:cM H q r) (_:Rw r) (_: ∀ (a:Addr) (H':Hp),H' a=some (qx (r.map zF))->aM H H'->H a=none->Q (.ref a) H')
theorem Jc:aH ["row"] ["row"] (aA m7):=iW
theorem RC{a b:Int}(ha:0<=a)(hb:0<=b):(Str.empty++Str.ofString (toString a)++Str.ofString "-"++Str.ofString (toString b))=iU (zF (a,b)):=by
 rw[mw.BW ha,mw.BW hb,show Str.ofString "-"=iU [45] by decide +kernel,show Str.empty=iU [] from rfl,Gg,Gg,Gg];simp
theorem Gz{f:Addr}(F:iH K "ink_words" "ink_words" m7 f fd)(T:nI mg):aF P w K mg zt bI 1 f fd iP Dg:=by
 refine jg F Jc λdH A zn s H vs Q E hr h=>?_;obtain⟨q,r,rfl,⟨as,hq,pa⟩,⟨lr,fr⟩,k⟩:=h;refine⟨_,(au (aN (jX (N:=["start","stop"]) (rR (sc:=aA m7) (NX:=["row"]) (jx:=[none,none]) rfl rfl rfl (by decide +kernel) (by decide +kernel) rfl (by decide +kernel) rfl (by decide +kernel)) rfl (dc (pv 0)) (λ_ _ _ _ _ _=>(zg (n:=2) rfl (bZ (cB (i:=0) (show List.Nodup (["start","stop"]:List Str) by decide +kernel)) (bZ (cB (i:=1) (show List.Nodup (["start","stop"]:List Str) by decide +kernel)) jO)))) (λ_ _ _ _ _ _=>ko) (λ_ _ _ _ _ _=>(mw.Q4 (mw.MO (pv 0) (mw.Uy (mw.MO (pv 1) mw.Ux)))))))),?_⟩;have lp:=Paired.length pa;refine⟨_,rfl,q,rfl,⟨_,bQ.of hq⟩,λacc dh=>jS (K:=K) (a:=q) (xs:=as.map V.ref) (λi σ H2=>∃ u0 u1:Option V,σ=[u0,u1]/\H2 acc=some (qx ((r.take i).map zF))/\aM H H2) ⟨none,none,rfl,af,ao dh _⟩ (by rintro i σ H2 _ ⟨_,_,_,_,s2⟩;exact bQ.of (s2 _ _ hq)) ?_ ?_⟩
 ·rintro i y σ H2 hi ⟨u0,u1,rfl,h2,s2⟩;rw[kF]at hi;obtain⟨a,ei,rfl⟩:=Option.map_eq_some_iff.mp hi;obtain⟨p,ep,hp⟩:=pa.get ei;have fp:=fr p (vf ep);have il:=(List.getElem?_eq_some_iff.mp ep).1;refine⟨a,_,rfl,eL.of (s2 _ _ hp),rfl,_,_,rfl,_,_,rfl,rfl,?_⟩;refine⟨_,rfl,_,rfl,Gy fp.1,_,rfl,_,rfl,Gy fp.2,_,h2,aU (by rw[cR,cR,jV];lia),_,_,rfl,?_,bX dh s2 (aL acc _ _)⟩;rw[af,take_snoc ep,j5,oJ,List.map_nil,RC fp.1.1 fp.2.1];show some (HO.lst _)=some (HO.lst _);rw[j5];rfl
 ·rintro σ H2 ⟨u0,u1,rfl,h2,s2⟩;rw[cR,lp,lI]at h2;exact k acc H2 h2 s2 dh
def kX.words:kX->nJ
 | .num x=>[mw.dg x]
 | .tx t=>[t]
 | .row r=>r.map zF
theorem yC(ps:List kX):(ps.flatMap kX.words).flatMap (λw=>32::w)=ps.flatMap kX.line:=by
 induction ps with
 | nil=>rfl
 | cons p ps ih =>
  rw[mW,mW,List.flatMap_append,ih];congr 1
  cases p with
  | num x=>show (32::mw.dg x)++[]=32::mw.dg x;rw[jo]
  | tx t=>show (32::t)++[]=32::t;rw[jo]
  | row r=>exact (RB r).symm
inductive Jd(vs:List V)(H:Hp)(Q:VK)(E:XK):Prop
 | mk (p:Addr) (d:oN) (_:vs=[.ref p]) (_:d.At H p) (_:d.Ok) (_:d.nm≠IY/\d.nm.length<=10/\d.parts.length<=10) (_: ∀ H',aM H H'->Q (.str (iU d.line)) H')
theorem qL:aH ["deed","words","thing"] ["deed"] (aA pV):=iW
theorem Je(W:nJ):(W.map List.length).sum+W.length=(W.flatMap λw=>32::w).length:=by
 induction W with
 | nil=>rfl
 | cons x W ih =>
  rw[oJ,List.sum_cons,qE,mW,dM,qE,← ih];lia
theorem OR(a b:nJ):(a.map λw=>V.str (iU w))++(b.map λw=>V.str (iU w))=(a++b).map λw=>V.str (iU w):=List.map_append.symm
theorem Eh{f:Addr}(F:iH K "shown_deed" "shown_deed" pV f fd)(T:nI mg)(kY:aC K mg "ink_words" m7 iP fI gI):aF P w K mg zt bI 2 f fd ["deed"] Jd:=by
 have yD:aF P w K mg zt bI 1 _ _ iP Dg:=Gz kY.F T;refine jg F qL λdH A zn s H vs Q E hr h=>?_;obtain⟨p,d,rfl,hd,ok,nn,k⟩:=h;refine⟨_,(aj (bU (bq ig (aX bw (pv 0) ay) bK (bC _)) (au (aN (iu PySem.F.plainAttrs_str PySem.F.slot_str_join PySem.F.type_str_join mw.IG bK (aa (bz nM (bz nM (bz nM (bO (aa bK ah)) (aG kY yD hr (aa (aX bw (pv 0) ay) ah))) (bO (aa bK ah))) (aG kY yD hr (aa (aX bw (pv 0) ay) ah))) ah)))) br) (aj (bh (i:=1) qL.nd (bO (aa (aX bw (pv 0) ay) ah))) (aj (ie PassesOwn.never rfl (WY (mC Xg (pv 0) (mL ay) sO)) (cB (i:=2) qL.nd) (au (yc (i:=1) qL.nd rfl (Or.inl rfl) (Py (tR (cL gf rfl T.dR Bq (aa (pv 2) (aa (vj rfl T.nh xX) ah)))) (aG kY yD hr (aa (pv 2) ah)) (bO (aa (II.aae (pv 2)) ah))) Ak))) (au (aN (iu PySem.F.plainAttrs_str PySem.F.slot_str_join PySem.F.type_str_join mw.IG bK (aa (pv 1) ah))))))),?_⟩;have tt:Str.ofString "tie"=iU IY:=by decide +kernel
 have kil:kitOne K (.type "int") (.type "list")=some false:=by kernel_rfl
 have ksl:kitOne K (.type "str") (.type "list")=some false:=by kernel_rfl
 obtain⟨vs,hp,al⟩:=Ry hd;obtain⟨n1,n2,n3⟩:=nn;have pk:=OO ok;have lv:=al.len;have ln:d.line=d.nm++d.parts.flatMap kX.line:=rfl;refine⟨_,rfl,p,_,_,_,rfl,rfl,eL.of hp,yu,?_⟩;refine⟨rfl,_,rfl,dN (λc=>absurd (of_decide_eq_true c) (by rw[tt];intro z;exact n1 (Uw (V.str.inj z)))) (λ_=>?_)⟩;refine⟨_,rfl,p,_,_,_,rfl,rfl,eL.of hp,yu,qv,λwl fwl=>?_⟩;have s0:=ao fwl (.lst [.str (iU d.nm)]);have h0:(aO H wl (.lst [.str (iU d.nm)])) wl=some (qx [d.nm]):=af;refine⟨_,rfl,_,rfl,p,_,rfl,eL.of (s0 _ _ hp),?_,λtp htp=>?_⟩
 ·rintro⟨z,_⟩;have e:HT.mK (V.str (iU d.nm)::vs).length 0 (some 1)=min 1 (V.str (iU d.nm)::vs).length:=HT.Mj _ _ 1;have z':HT.mK (V.str (iU d.nm)::vs).length 0 (some 1)=0:=z;rw[e,qE]at z';lia
 have ec:pU (V.str (iU d.nm)::vs) (some 1) none=vs:=by
  unfold pU;have e:HT.mK (V.str (iU d.nm)::vs).length 0 (some 1)=1:=(HT.Mj _ _ 1).trans (by rw[qE];lia);have e2:HT.mK (V.str (iU d.nm)::vs).length (V.str (iU d.nm)::vs).length none=vs.length+1:=rfl;rw[e,e2];show vs.take (vs.length+1-1)=vs;exact yQ (by lia)
 rw[ec];change (aO H wl (.lst [.str (iU d.nm)])) tp=none at htp;have s1':=ao htp (.tup vs);have h1:(aO (aO H wl (.lst [.str (iU d.nm)])) tp (.tup vs)) tp=some (.tup vs):=af;have h1w:=s1' _ _ h0;have s1:=s0.trans s1';have nwt:wl≠tp:=az h0 htp;generalize aO (aO H wl (.lst [.str (iU d.nm)])) tp (.tup vs)=H1 at s1 h1 h1w;refine⟨tp,rfl,⟨_,eL.of h1⟩,Tp (K:=K) (a:=tp) (xs:=vs) (λi σ H2=>∃ u:Option V,σ=[some (.ref p),some (.ref wl),u]/\H2 wl=some (qx (d.nm::(d.parts.take i).flatMap kX.words))/\H2 tp=some (.tup vs)/\aM H H2) ⟨none,rfl,by rw[List.take_zero,List.flatMap_nil];exact h1w,h1,s1⟩ (by rintro i σ H2 _ ⟨_,_,_,h2,_⟩;exact eL.of h2) ?_ ?_⟩
 ·rintro i v σ H2 hi ⟨u,rfl,h2,h2t,s2⟩;obtain⟨q,eq,hq⟩:=Ja al hi;have qk:=pk q (vf eq);have ql:=kX.I0 qk;have fl:=Ft (ps:=d.parts.take i) λq hq=>pk q (List.mem_of_mem_take hq);have ft:(d.parts.take i).length<=10:=by rw[jV];lia
  have fs:=Je ((d.parts.take i).flatMap kX.words);rw[yC]at fs
  have nx:d.nm::(d.parts.take (i+1)).flatMap kX.words=(d.nm::(d.parts.take i).flatMap kX.words)++q.words:=by
   rw[take_snoc eq,List.flatMap_append,mW,List.flatMap_nil,jo,List.cons_append]
  have lB:(d.nm::(d.parts.take i).flatMap kX.words).length<=50000:=by rw[qE];lia
  have lq:q.words.length<=29:=by
   cases q with
   | num x=>show 1<=29;decide
   | tx t=>show 1<=29;decide
   | row r=>show (r.map zF).length<=29;rw[cR];exact qk.1
  have qo:∀ (t:Addr) (H3:Hp) (v':V),aM H2 H3->H2 t=none->H3 t=some (qx q.words)->∃ (l b:Addr) (xs zs:List V),V.ref wl=.ref l/\V.ref t=.ref b/\H3 l=some (.lst xs)/\H3 b=some (.lst zs)/\xs.length+zs.length<=sizeLine/\∃ u:Option V,([some (.ref p),some (.ref wl),some v']:List (Option V)).set 1 (some (.ref l))=[some (.ref p),some (.ref wl),u]/\(aO H3 l (.lst (xs++zs))) wl=some (qx (d.nm::(d.parts.take (i+1)).flatMap kX.words))/\(aO H3 l (.lst (xs++zs))) tp=some (.tup vs)/\aM H (aO H3 l (.lst (xs++zs))):=by
   intro t H3 v' s3 MH h3;refine⟨wl,t,_,_,rfl,rfl,s3 _ _ h2,h3,j9 (aU (by rw[cR,cR];lia)),_,rfl,?_,?_,?_⟩
   ·rw[OR,af,nx]
   ·rw[aK nwt.symm];exact s3 _ _ h2t
   ·exact bX fwl (s2.trans s3) (aL wl _ _)
  cases q with
  | num x =>
   cases (show v=.int x from hq);refine⟨_,rfl,_,rfl,_,"list",_,_,rfl,.int x,kil,_,rfl,jK ⟨_,rfl,.inl ⟨x,rfl,Gy qk,?_⟩⟩⟩;rw[mw.BW qk.1];exact⟨qv,λt MH=>qo t _ (.int x) (ao MH _) MH af⟩
  | tx t =>
   cases (show v=.str (iU t) from hq);have lt:t.length<=200:=qk;refine⟨_,rfl,_,rfl,_,"list",_,_,rfl,.str _,ksl,_,rfl,jK ⟨_,rfl,.inr ⟨t,rfl,by lia,?_⟩⟩⟩;exact⟨qv,λt' MH=>qo t' _ (.str (iU t)) (ao MH _) MH af⟩
  | row r =>
   obtain⟨qa,rfl,hr⟩:=hq;have MS:=hr.same s2;obtain⟨as,has,_⟩:=id MS;refine⟨_,rfl,_,rfl,_,"list",_,_,rfl,.lst has,ZX K,_,rfl,mD ?_⟩;exact⟨_,rfl,qa,r,rfl,MS,qk,λt H3 h3 s3 MH=>qo t H3 (.ref qa) s3 MH h3⟩
 ·rintro σ H2 ⟨u,rfl,h2,h2t,s2⟩;rw[lv,lI]at h2;have fs:=Je (d.parts.flatMap kX.words);rw[yC]at fs;have fl:=Ft (ps:=d.parts) pk;refine⟨rfl,_,rfl,wl,32,_,by rw[show Str.ofString " "=⟨#[32]⟩ by decide +kernel],rfl,h2,?_,?_⟩
  ·rw[oJ,List.sum_cons,qE];lia
  rw[UO,yC,← ln];exact k H2 s2
structure aaM(S:Addr->Prop)(H:Hp)(st op r:Addr)(aQ:List aV):Prop where
 own:S r
 ne:r≠st/\r≠op
 at':bR H (.ref r) aQ
def LC(S:Addr->Prop)(H:Hp)(st op a:Addr)(rows:List (List aV)):Prop:=S a/\a≠st/\a≠op/\∃ rs:List Addr,H a=some (.lst (rs.map V.ref))/\cE (aaM S H st op) rs rows
abbrev qM:=List (List (List aV))
structure Opn(bP:qM)(ops:List Int):Prop where
 Fv:∃ last,bP.getLast?=some last/\ops.length=last.length
 fit:∀ (s:Nat) (o:Int),ops[s]?=some o->0<=o/\o<bP.length/\∀ (m:Nat) (rows:List (List aV)),bP[m]?=some rows->(o<=m↔s<rows.length)
 less:∀ (m:Nat) (rows:List (List aV)),bP[m]?=some rows->rows.length<=ops.length
structure Sh(C:Addr)(S:Addr->Prop)(H:Hp)(x d st op:Addr)(bP:qM)(ops:List Int):Prop where
 sx:S x
 ss:S st
 so:S op
 al:∀ a,S a->∃ ob,H a=some ob
 hx:H x=some (.ins C d [("states",.ref st),("openings",.ref op)])
 hs:∃ as:List Addr,H st=some (.lst (as.map V.ref))/\cE (LC S H st op) as bP
 ho:H op=some (.lst (ops.map V.int))
 ne:st≠op
 SN:Opn bP ops
theorem bR.fr{H H':Hp}{r:Addr}{aQ:List aV}(h:bR H (.ref r) aQ)(k:∀ xs,H r=some (.lst xs)->H' r=some (.lst xs))(t:∀ a xs,H a=some (.tup xs)->H' a=some (.tup xs)):bR H' (.ref r) aQ:=by
 obtain⟨a,vs,e,h1,h2⟩:=h;cases e;exact⟨r,vs,rfl,k _ h1,h2.mono λv it ⟨b,e,hb⟩=>⟨b,e,t _ _ hb⟩⟩
theorem LC.fr{S S':Addr->Prop}{H H':Hp}{st a:Addr}{rows:List (List aV)}(h:LC S H st op a rows)(sub:∀ a,S a->S' a)(k:∀ a ob,H a=some ob->S a->a≠st->a≠op->H' a=some ob)(t:∀ a xs,H a=some (.tup xs)->H' a=some (.tup xs)):LC S' H' st op a rows:=by
 obtain⟨sa,n1,n2,rs,hr,al⟩:=h;exact⟨sub _ sa,n1,n2,rs,k _ _ hr sa n1 n2,al.mono λr aQ q=>⟨sub _ q.own,q.ne,q.at'.fr (λxs e=>k _ _ e q.own q.ne.1 q.ne.2) t⟩⟩
theorem Sh.fr{S:Addr->Prop}{H H':Hp}{x d st:Addr}{bP:qM}{ops:List Int}(h:Sh C S H x d st op bP ops)(k:∀ a ob,H a=some ob->S a->H' a=some ob)(t:∀ a xs,H a=some (.tup xs)->H' a=some (.tup xs)):Sh C S H' x d st op bP ops:=by
 obtain⟨sx,ss,so,al,hx,⟨as,hs,a2⟩,ho,ne,SN⟩:=h;refine⟨sx,ss,so,λa z=>?_,k _ _ hx sx,⟨as,k _ _ hs ss,a2.mono λa rows q=>q.fr (λ_ z=>z) (λa ob e z _ _=>k _ _ e z) t⟩,k _ _ ho so,ne,SN⟩;obtain⟨ob,e⟩:=al a z;exact⟨ob,k _ _ e z⟩
theorem Sh.same{S:Addr->Prop}{H H':Hp}{x d st:Addr}{bP:qM}{ops:List Int}(h:Sh C S H x d st op bP ops)(k:aM H H'):Sh C S H' x d st op bP ops:=h.fr (λa ob e _=>k a ob e) (λa xs e=>k _ _ e)
theorem Sh.keep{S:Addr->Prop}{H H':Hp}{x d st l:Addr}{bP:qM}{ops:List Int}{ls:List V}(h:Sh C S H x d st op bP ops)(hl:H l=some (.lst ls))(nl:¬ S l)(k:cT l H H'):Sh C S H' x d st op bP ops :=
 h.fr (λa ob e z=>k a ob e (λq=>nl (by rw[← q];exact z))) (λa xs e=>k _ _ e (eS e hl))
theorem Dh:∀ {as bs:List Addr},as.map V.ref=bs.map V.ref->as=bs
 | [],[],_=>rfl
 | [],_::_,h=>by cases h
 | _::_,[],h=>by cases h
 | a::as,b::bs,h=>by
  rw[oJ,oJ]at h;injection h with h1 h2;cases h1;rw[Dh h2]
theorem Sh.last{S:Addr->Prop}{H:Hp}{x d st:Addr}{bP:qM}{ops:List Int}(h:Sh C S H x d st op bP ops){as:List Addr}(ha:H st=some (.lst (as.map V.ref))):∃ SH a,as=SH++[a]/\∀ last,bP.getLast?=some last->LC S H st op a last:=by
 obtain⟨bs,hb,a2⟩:=h.hs
 have e:as=bs:=by
  rw[ha]at hb;have:=HO.lst.inj (vM hb);exact Dh this
 subst e;obtain⟨last,hl,_⟩:=h.SN.Fv
 obtain⟨p',rfl⟩:∃ p',bP=p'++[last]:=by
  rcases vL bP with rfl|⟨p',l,rfl⟩
  ·cases hl
  ·rw[uc,xZ]at hl;cases hl;exact⟨p',uc⟩
 obtain⟨SH,a,rfl,_,r⟩:=a2.split;refine⟨SH,a,rfl,λl e=>?_⟩;rw[hl]at e;cases e;exact r
theorem yE(xs:List V){p:Int}(h:0<=p):pU xs none (some p)=xs.take p.toNat:=by
 unfold pU;have e1:HT.mK xs.length 0 none=0:=rfl
 have e2:HT.mK xs.length xs.length (some p)=min p.toNat xs.length:=by
  show (if p<0 then (p+(xs.length:Int)).toNat else min p.toNat xs.length)=_;rw[if_neg (by lia)]
 rw[e1,e2,List.drop_zero,Nat.sub_zero];rcases Nat.le_total p.toNat xs.length with z|z
 ·rw[Nat.min_eq_left z]
 ·rw[Nat.min_eq_right z,yQ (ja _),yQ z]
theorem Ay(xs:List V){p:Int}(h:0<=p):pU xs (some p) none=xs.drop p.toNat:=by
 unfold pU;have e1:HT.mK xs.length xs.length none=xs.length:=rfl
 have e2:HT.mK xs.length 0 (some p)=min p.toNat xs.length:=by
  show (if p<0 then (p+(xs.length:Int)).toNat else min p.toNat xs.length)=_;rw[if_neg (by lia)]
 rw[e1,e2];rcases Nat.le_total p.toNat xs.length with z|z
 ·rw[Nat.min_eq_left z,yQ (by rw[xq];lia)]
 ·rw[Nat.min_eq_right z,B4 (ja _),B4 z];simp
inductive Az(vs:List V)(H:Hp)(Q:VK)(E:XK):Prop
 | mk (a r:Addr) (rs:List V) (s:Nat) (_:vs=[.ref a,.int (s:Nat),.ref r]) (_:H a=some (.lst rs)) (_:s<=rs.length) (_:rs.length<=1000) (_: ∀ (p:Addr) (H':Hp),H' p=some (.lst (rs.take s++[.ref r]++rs.drop (s+1)))->aM H H'->H p=none->Q (.ref p) H')
inductive M7(C:Addr)(vs:List V)(H:Hp)(Q:VK)(E:XK):Prop
 | mk (x d:Addr) (_:vs=[.ref x]) (_:H x=some (.ins C d [])) (_: ∀ (st op z:Addr) (H':Hp),Sh C (λa=>a=x\/a=st\/a=op\/a=z) H' x d st op [[]] []->cT x H H'->H st=none->H op=none->H z=none->Q .iZ H')
inductive M8(C:Addr)(vs:List V)(H:Hp)(Q:VK)(E:XK):Prop
 | mk (x d st op:Addr) (as:List V) (_:vs=[.ref x]) (_:H x=some (.ins C d [("states",.ref st),("openings",.ref op)])) (_:H st=some (.lst as)) (_:Q (.int ((as.length:Nat)-1)) H)
inductive LF(C:Addr)(vs:List V)(H:Hp)(Q:VK)(E:XK):Prop
 | mk (S:Addr->Prop) (x d st op:Addr) (bP:qM) (ops:List Int) (_:vs=[.ref x]) (_:Sh C S H x d st op bP ops) (_:Q (.int (ops.length:Nat)) H)
theorem OS:aH ["state","sheet","items"] ["state","sheet","items"] (aA uh):=iW
theorem AA:aH ["self"] ["self"] (aA mP):=iW
theorem Jf:aH ["self"] ["self"] (aA jQ):=iW
theorem GA:aH ["self"] ["self"] (aA nB):=iW
theorem Di{f:Addr}(F:iH K "changed" "changed" uh f fd)(T:nI mg):aF P w K mg zt bI 1 f fd Nz Az:=by
 refine jg F OS λdH A zn s H vs Q E hr h=>?_;obtain⟨a,r,rs,s,rfl,ha,sl,l1,k⟩:=h;refine⟨_,(aj (bU (qq (ue jz jz ay (pv 1) (jI T.jh (pv 0)))) (au nL) br) (au (aN (bz nM (bz nM (mC qF (pv 0) sO (mL (pv 1))) (bO (aa (pv 2) ah))) (mC qF (pv 0) (mL (bz eT (pv 1) ay)) sO))))),?_⟩;refine⟨_,rfl,_,_,rfl,rfl,_,rfl,dN (λc0=>?_) (λc0=>absurd (decide_eq_true (by lia)) c0)⟩;refine⟨_,rfl,a,_,rfl,.inl (bQ.of ha),_,_,rfl,rfl,_,rfl,?_⟩;rw[decide_eq_true (show ((s:Nat):Int)<=((rs.length:Nat):Int) by lia)];refine jK ?_;refine⟨_,rfl,_,rfl,_,rfl,a,_,rfl,bQ.of ha,λp1 Y3=>?_⟩;rw[yE _ (by lia),Int.toNat_natCast];have s1:aM H (aO H p1 (.lst (rs.take s))):=ao Y3 _;have h1:(aO H p1 (.lst (rs.take s))) p1=some (.lst (rs.take s)):=af;generalize aO H p1 (.lst (rs.take s))=H1 at s1 h1;refine⟨_,rfl,qv,λp2 VH=>?_⟩;have s2:aM H1 (aO H1 p2 (.lst [.ref r])):=ao VH _;have h2:(aO H1 p2 (.lst [.ref r])) p2=some (.lst [.ref r]):=af;generalize aO H1 p2 (.lst [.ref r])=H2 at s2 h2;refine⟨p1,p2,_,_,rfl,rfl,s2 _ _ h1,h2,(by rw[jV];exact j9 (aU (by simp only[vK];lia))),λp3 hp3=>?_⟩;have s3:aM H2 (aO H2 p3 (.lst (rs.take s++[.ref r]))):=ao hp3 _;have h3:(aO H2 p3 (.lst (rs.take s++[.ref r]))) p3=some (.lst (rs.take s++[.ref r])):=af;generalize aO H2 p3 (.lst (rs.take s++[.ref r]))=H3 at s3 h3;have RD:=s1.trans (s2.trans s3);refine⟨_,rfl,_,rfl,_,_,rfl,rfl,_,rfl,a,_,rfl,bQ.of (RD _ _ ha),λp4 hp4=>?_⟩;rw[Ay _ (by lia),show (((s:Nat):Int)+1).toNat=s+1 by lia];have s4:aM H3 (aO H3 p4 (.lst (rs.drop (s+1)))):=ao hp4 _;have h4:(aO H3 p4 (.lst (rs.drop (s+1)))) p4=some (.lst (rs.drop (s+1))):=af;generalize aO H3 p4 (.lst (rs.drop (s+1)))=H4 at s4 h4;refine⟨p3,p4,_,_,rfl,rfl,s4 _ _ h3,h4,(by rw[dM,jV,xq];exact j9 (aU (by simp only[vK];lia))),λp5 hp5=>?_⟩;have s04:=RD.trans s4;exact k p5 _ af (s04.trans (ao hp5 _)) (aZ s04 hp5)
theorem zG{f:Addr}(F:iH K "__init__" "Shelf.__init__" mP f fd)(cl:DQ K C)(n1:cG K C "states")(n2:cG K C "openings"):aF P w K mg zt bI 1 f fd ki (M7 C):=by
 refine jg F AA λdH A zn s H vs Q E hr h=>?_;obtain⟨x,d,rfl,hx,k⟩:=h;refine⟨_,(aj (mX (pv 0) (bO (aa (bO ah) ah)) rfl) (au (mX (pv 0) (bO ah) rfl))),?_⟩;refine⟨mF,λz hz=>?_⟩;have a0:aM H (aO H z (.lst [])):=ao hz _;have z0:(aO H z (.lst [])) z=some (.lst []):=af;generalize aO H z (.lst [])=H0 at a0 z0;refine⟨qv,λst zV=>?_⟩;have a1:aM H0 (aO H0 st (.lst [.ref z])):=ao zV _;have b1:(aO H0 st (.lst [.ref z])) st=some (.lst [.ref z]):=af;generalize aO H0 st (.lst [.ref z])=H1 at a1 b1;have a01:=a0.trans a1;refine⟨_,rfl,x,C,d,_,rfl,a01 _ _ hx,cl,n1,by decide,?_⟩;have k2:cT x H1 (aO H1 x (.ins C d (L2.gx "states" (.ref st) []))):=aL x _ _;have h2:(aO H1 x (.ins C d (L2.gx "states" (.ref st) []))) x=some (.ins C d [("states",.ref st)]):=af;generalize aO H1 x (.ins C d (L2.gx "states" (.ref st) []))=H2 at k2 h2;have Yk:st≠x:=(az (a0 _ _ hx) zV).symm;have nzx:z≠x:=(az hx hz).symm;have nzs:z≠st:=az z0 zV;have b2:=k2 _ _ b1 Yk;have z2:=k2 _ _ (a1 _ _ z0) nzx;refine⟨mF,λop SE=>?_⟩;have HJ:op≠x:=(az h2 SE).symm;have nso:st≠op:=az b2 SE;have nzo:z≠op:=az z2 SE;refine⟨_,rfl,x,C,d,_,rfl,ao SE _ _ _ h2,cl,n2,(by show 1<1000;decide),?_⟩
 have k5:cT x H (aO (aO H2 op (.lst [])) x (.ins C d (L2.gx "openings" (.ref op) [("states",.ref st)]))):=λa ob e n=>by
  rw[aK n];exact ao SE _ _ _ (k2 _ _ (a01 _ _ e) n)
 have z5:(aO (aO H2 op (.lst [])) x (.ins C d (L2.gx "openings" (.ref op) [("states",.ref st)]))) z=some (.lst []):=by rw[aK nzx];exact ao SE _ _ _ z2
 have s5:(aO (aO H2 op (.lst [])) x (.ins C d (L2.gx "openings" (.ref op) [("states",.ref st)]))) st=some (.lst [.ref z]):=by rw[aK Yk];exact ao SE _ _ _ b2
 have o5:(aO (aO H2 op (.lst [])) x (.ins C d (L2.gx "openings" (.ref op) [("states",.ref st)]))) op=some (.lst []):=by rw[aK HJ];exact af
 have x5:(aO (aO H2 op (.lst [])) x (.ins C d (L2.gx "openings" (.ref op) [("states",.ref st)]))) x=some (.ins C d [("states",.ref st),("openings",.ref op)]):=af;generalize aO (aO H2 op (.lst [])) x (.ins C d (L2.gx "openings" (.ref op) [("states",.ref st)]))=H5 at k5 z5 s5 o5 x5
 refine k st op z _ ⟨.inl rfl,.inr (.inl rfl),.inr (.inr (.inl rfl)),λa w=>?_,x5,⟨[z],s5,.cons ⟨.inr (.inr (.inr rfl)),nzs,nzo,[],z5,.nil⟩ .nil⟩,o5,nso,⟨⟨[],rfl,rfl⟩,λs o e=>(by cases s <;> cases e),λm rows e=>?_⟩⟩ k5 (aZ a0 zV) ?_ hz
 ·rcases w with rfl|rfl|rfl|rfl
  ·exact⟨_,x5⟩
  ·exact⟨_,s5⟩
  ·exact⟨_,o5⟩
  ·exact⟨_,z5⟩
 ·match m,e with
  | 0,e=>cases e;exact ja _
  | m+1,e=>cases e
 ·exact aZ a01 (lT k2 HJ SE)
theorem uU{f:Addr}(F:iH K "now" "Shelf.now" jQ f fd)(T:nI mg)(cl:DQ K C)(n1:cG K C "states"):aF P w K mg zt bI 1 f fd ki (M8 C):=by
 refine jg F Jf λdH A zn s H vs Q E hr h=>?_;obtain⟨x,d,st,op,as,rfl,hx,hs,k⟩:=h;refine⟨_,(au (aN (bz cY (jI T.jh (eG (pv 0) rfl)) ay))),?_⟩;exact⟨_,rfl,x,C,d,_,.ref st,rfl,hx,cl,n1,rfl,st,_,rfl,.inl (bQ.of hs),_,_,rfl,rfl,k⟩
theorem xR{f:Addr}(F:iH K "many" "Shelf.many" nB f fd)(T:nI mg)(cl:DQ K C)(n1:cG K C "states"):aF P w K mg zt bI 1 f fd ki (LF C):=by
 refine jg F GA λdH A zn s H vs Q E hr h=>?_;obtain⟨S,x,d,st,op,bP,ops,rfl,W,k⟩:=h;obtain⟨as,hs,a2⟩:=W.hs;obtain⟨last,hl,ol⟩:=W.SN.Fv;refine⟨_,(au (aN (jI T.jh (aX bW (eG (pv 0) rfl) (oO kg ay))))),?_⟩;obtain⟨SH,a,rfl,r⟩:=W.last hs;refine⟨_,rfl,x,C,d,_,.ref st,rfl,W.hx,cl,n1,rfl,_,rfl,st,_,_,.ref a,rfl,rfl,bQ.of hs,(by rw[j5];exact pY _ _),?_⟩;obtain⟨_,_,_,rs,ha,al⟩:=r last hl;refine⟨a,_,rfl,.inl (bQ.of ha),?_⟩;rw[cR,al.len,← ol];exact k
def ap1(rows:List (List aV))(ch:Nat × List aV):List (List aV):=rows.take ch.1++[ch.2]++rows.drop (ch.1+1)
def uV(rows:List (List aV))(vo:List (Nat × List aV)):List (List aV):=vo.foldl ap1 rows
def Yl(rows:List (List aV))(vo:List (Nat × List aV)):Prop:=∀ (i:Nat) (ch:Nat × List aV),vo[i]?=some ch->ch.1<=(uV rows (vo.take i)).length
theorem UP{rows:List (List aV)}{ch:Nat × List aV}(h:ch.1<=rows.length):rows.length<=(ap1 rows ch).length/\(ap1 rows ch).length<=rows.length+1:=by
 unfold ap1;rw[dM,dM,jV,xq];simp only[vK];lia
theorem Fw{rows:List (List aV)}{vo:List (Nat × List aV)}{i:Nat}{ch:Nat × List aV}(h:vo[i]?=some ch):uV rows (vo.take (i+1))=ap1 (uV rows (vo.take i)) ch:=by
 unfold uV;rw[take_snoc h,List.foldl_append];rfl
theorem Dj{rows:List (List aV)}{vo:List (Nat × List aV)}(ok:Yl rows vo):∀ i,i<=vo.length->rows.length<=(uV rows (vo.take i)).length/\(uV rows (vo.take i)).length<=rows.length+i
 | 0,_=>⟨Nat.le_refl _,ja _⟩
 | i+1,h=>by
  have e:vo[i]?=some vo[i]:=pP (by lia);have a:=Dj ok i (by lia);have b:=UP (ok i _ e);rw[Fw e];lia
theorem Opn.step{bP:qM}{ops:List Int}{last rows:List (List aV)}(h:Opn bP ops)(hl:bP.getLast?=some last)(le:last.length<=rows.length):Opn (bP++[rows]) (ops++List.replicate (rows.length-last.length) ((bP.length:Nat):Int)):=by
 obtain⟨⟨l',hl',ol⟩,fit,less⟩:=h;rw[hl]at hl';cases hl'
 have get:∀ (m:Nat) (r:List (List aV)),(bP++[rows])[m]?=some r->bP[m]?=some r/\m<bP.length\/m=bP.length/\r=rows:=λm r e=>by
  by_cases c:m<bP.length
  ·rw[List.getElem?_append_left c]at e;exact .inl ⟨e,c⟩
  ·rw[List.getElem?_append_right (by lia)]at e
   match hm:m-bP.length,e with
   | 0,e=>cases e;exact .inr ⟨by lia,rfl⟩
   | k+1,e=>cases e
 refine⟨⟨rows,xZ,by rw[dM,Ca];lia⟩,λs o e=>?_,λm r e=>?_⟩
 ·by_cases c:s<ops.length
  ·rw[List.getElem?_append_left c]at e;obtain⟨f0,f1,f2⟩:=fit s o e;refine⟨f0,by rw[dM];simp only[vK];lia,λm r em=>?_⟩;rcases get m r em with ⟨q,_⟩|⟨rfl,rfl⟩
   ·exact f2 m r q
   ·constructor
    ·intro _;lia
    ·intro _;lia
  ·rw[List.getElem?_append_right (by lia),List.getElem?_replicate]at e;split at e
   ·cases e;refine⟨by lia,by rw[dM];simp only[vK];lia,λm r em=>?_⟩;rcases get m r em with ⟨q,lt⟩|⟨rfl,rfl⟩
    ·have:=less m r q;constructor
     ·intro z;lia
     ·intro z;lia
    ·constructor
     ·intro _;lia
     ·intro _;lia
   ·cases e
 ·rw[dM,Ca];rcases get m r e with ⟨q,_⟩|⟨rfl,rfl⟩
  ·have:=less m r q;lia
  ·lia
theorem cE.take{α β:Type}{R:α->β->Prop}:∀ {as:List α} {bs:List β} (n:Nat),cE R as bs->cE R (as.take n) (bs.take n)
 | _,_,0,_=>by rw[List.take_zero,List.take_zero];exact .nil
 | _,_,n+1,.nil=>.nil
 | _,_,n+1,.cons e r=>.cons e (r.take n)
theorem cE.drop{α β:Type}{R:α->β->Prop}:∀ {as:List α} {bs:List β} (n:Nat),cE R as bs->cE R (as.drop n) (bs.drop n)
 | _,_,0,h=>h
 | _,_,n+1,.nil=>.nil
 | _,_,n+1,.cons _ r=>r.drop n
theorem Jg(v:V):∀ n:Nat,(List.replicate n [v]).flatten=List.replicate n v
 | 0=>rfl
 | n+1=>by rw[List.replicate_succ,List.flatten_cons,Jg v n,List.replicate_succ];rfl
theorem UQ{H:Hp}{a:Addr}{ob:HO}(h:H a=some ob):aO H a ob=H:=by
 funext b;by_cases e:b=a
 ·rw[e,af,h]
 ·rw[aK e]
def LG(H:Hp)(a:Addr)(ch:Nat × List aV):Prop:=∃ r:Addr,H a=some (.tup [.int (ch.1:Nat),.ref r])/\bR H (.ref r) ch.2
theorem LG.same{H H':Hp}{a:Addr}{ch:Nat × List aV}(s:aM H H'):LG H a ch->LG H' a ch:=λ⟨r,h1,h2⟩=>⟨r,s _ _ h1,h2.same s⟩
inductive Jh(C:Addr)(vs:List V)(H:Hp)(Q:VK)(E:XK):Prop
 | mk (S:Addr->Prop) (x d st op c:Addr) (bP:qM) (ops:List Int) (cs:List Addr) (vo:List (Nat × List aV)) (last:List (List aV)) (_:vs=[.ref x,.ref c]) (_:Sh C S H x d st op bP ops) (_:H c=some (.lst (cs.map V.ref))) (_:cE (LG H) cs vo) (_:bP.getLast?=some last) (_:Yl last vo) (_:vo.length<=200) (_:last.length<=500) (_:bP.length<=1000) (_ :
 ∀ (S':Addr->Prop) (H':Hp),Sh C S' H' x d st op (bP++[uV last vo]) (ops++List.replicate ((uV last vo).length-last.length) ((bP.length:Nat):Int))->(∀ a,S' a->S a\/H a=none)->(∀ a ob,H a=some ob->¬ S a->H' a=some ob)->(∀ a xs,H a=some (.tup xs)->H' a=some (.tup xs))->Q .iZ H')
theorem lY:aH ["self","changes","state","ahead","sheet","items"] ["self","changes"] (aA pW):=iW
theorem Ei{f:Addr}{gN:FuncData}(F:iH K "step" "Shelf.step" pW f fd)(T:nI mg)(bT:ClsAt K mg "Shelf" C fi)(n1:cG K C "states")(n2:cG K C "openings")(jZ:aC K mg "changed" uh Nz fC gC)(dZ:bN K C "now" "Shelf.now" jQ ki fN gN):aF P w K mg zt bI 2 f fd zl2 (Jh C):=by
 have Dk:aF P w K mg zt bI 1 _ _ Nz Az:=Di jZ.F T;have rZ:aF P w K mg zt bI 1 _ _ ki (M8 C):=uU dZ.F T bT.cl n1;refine jg F lY λdH A zn s H vs Q E hr h=>?_;obtain⟨S,x,d,st,op,c,bP,ops,cs,vo,last,rfl,W,hc,a2,hl,okc,lc,ll,lp,k⟩:=h;refine⟨_,(aj (bh (i:=2) lY.nd (aX bW (eG (pv 0) rfl) (oO kg ay))) (aj (bh (i:=3) lY.nd (jI T.jh (pv 2))) (aj (ie PassesOwn.never rfl (dc (pv 1)) (rA (n:=2) rfl (bZ (cB (i:=4) lY.nd) (bZ (cB (i:=5) lY.nd) jO))) (au (bh (i:=2) lY.nd (aG jZ Dk hr (aa (pv 2) (aa (pv 4) (aa (gJ jP rfl T.nh xX (aa (pv 5) ah)) ah))))))) (aj (bu (iu wG qZ rf cH (eG (pv 0) rfl) (aa (pv 2) ah))) (au (zX (pv 0) (bz Qe (bO (aa (iD (pv 0) bT dZ rZ hr ck) ah)) (bz cY (jI T.jh (pv 2)) (pv 3))) Lg)))))),?_⟩;obtain⟨as,hs,al⟩:=id W.hs;obtain⟨SH,a,ea,r⟩:=W.last hs;obtain⟨Sa,na1,na2,rs,ha,ar⟩:=r last hl;have lal:=al.len;refine⟨_,rfl,x,C,d,_,.ref st,rfl,W.hx,bT.cl,n1,rfl,_,rfl,st,_,_,.ref a,rfl,rfl,bQ.of hs,(by rw[ea,j5];exact pY _ _),?_⟩;refine⟨_,rfl,a,_,rfl,.inl (bQ.of ha),?_⟩;rw[cR,ar.len];have zV:∀ q,H q=none->q≠st/\q≠op:=λq hq=>⟨λz=>(by rw[z,hs]at hq;cases hq),λz=>(by rw[z,W.ho]at hq;cases hq)⟩;refine⟨_,rfl,c,rfl,⟨_,bQ.of hc⟩,gB (K:=K) (a:=c) (xs:=cs.map V.ref) (λi σ H1=>∃ (u4 u5:Option V) (S1:Addr->Prop) (ai:Addr),σ=[some (.ref x),some (.ref c),some (.ref ai),some (.int (last.length:Nat)),u4,u5]/\aM H H1/\(∀ q,S q->S1 q)/\(∀ q,S1 q->S q\/H q=none)/\(∀ q,S1 q->∃ ob,H1 q=some ob)/\LC S1 H1 st op ai (uV last (vo.take i))) ⟨none,none,S,a,rfl,aM.refl _,λ_ z=>z,λ_ z=>.inl z,W.al,r last hl⟩ (by rintro i σ H1 _ ⟨_,_,_,_,_,s,_⟩;exact bQ.of (s _ _ hc)) ?_ ?_⟩
 ·rintro i y σ H1 hi ⟨u4,u5,S1,ai,rfl,s1,up,sub,al1,sa1⟩;rw[kF]at hi;obtain⟨t,et,rfl⟩:=Option.map_eq_some_iff.mp hi;obtain⟨ch,ech,q⟩:=a2.get et;have il:=(List.getElem?_eq_some_iff.mp ech).1;obtain⟨ri,ht,hri⟩:=q.same s1;obtain⟨b,vs,eb,hb,itb⟩:=id hri;cases eb;obtain⟨Sai,aaP,aeq,rsi,hai,ari⟩:=id sa1;refine⟨t,_,rfl,eL.of ht,rfl,_,_,rfl,_,_,rfl,rfl,?_⟩;refine⟨_,rfl,_,rfl,_,rfl,ri,_,rfl,.inl (bQ.of hb),λz hz=>?_⟩;have s2:aM H1 (aO H1 z (.lst vs)):=ao hz _;have z2:(aO H1 z (.lst vs)) z=some (.lst vs):=af;generalize aO H1 z (.lst vs)=H2 at s2 z2;have lens:=Dj okc i (by lia);have aer:=okc i ch ech;have lri:=ari.len;refine⟨ai,z,_,ch.1,rfl,s2 _ _ hai,by rw[cR,lri];exact aer,by rw[cR,lri];lia,λp H3 hp3 s3 fp=>?_⟩;have s23:=s2.trans s3;have fz:H z=none:=aZ s1 hz;have fp':H p=none:=aZ (s1.trans s2) fp;refine⟨_,_,λq=>S1 q\/q=z\/q=p,p,rfl,s1.trans s23,λq z=>.inl (up q z),λq w=>?_,λq w=>?_,.inr (.inr rfl),(zV p fp').1,(zV p fp').2,rsi.take ch.1++[z]++rsi.drop (ch.1+1),?_,?_⟩
  ·rcases w with w|rfl|rfl
   ·exact sub q w
   ·exact .inr fz
   ·exact .inr fp'
  ·rcases w with w|rfl|rfl
   ·obtain⟨ob,e⟩:=al1 q w;exact⟨ob,s23 _ _ e⟩
   ·exact⟨_,s3 _ _ z2⟩
   ·exact⟨_,hp3⟩
  ·rw[hp3];simp only[j5,List.map_take,List.map_drop,oJ,List.map_nil]
  ·rw[Fw ech];have mv:cE (aaM (λq=>S1 q\/q=z\/q=p) H3 st op) rsi (uV last (vo.take i)):=ari.mono λr aQ q=>⟨.inl q.own,q.ne,q.at'.same s23⟩;refine ((mv.take ch.1).app (.cons ⟨.inr (.inl rfl),zV z fz,⟨z,vs,rfl,s3 _ _ z2,itb.mono λv it q=>q.same s23⟩⟩ .nil)).app (mv.drop (ch.1+1))
 ·rintro σ H1 ⟨u4,u5,S1,ai,rfl,s1,up,sub,al1,sa1⟩;have lcs:(cs.map V.ref).length=vo.length:=by rw[cR,a2.len]
  rw[lcs,lI]at sa1;have lens:=Dj okc vo.length (ja _);rw[lI]at lens;obtain⟨Sai,aaP,aeq,rsi,hai,ari⟩:=id sa1;have lri:=ari.len;have W1:=W.same s1;have Ym:=s1 _ _ hs;refine⟨_,rfl,x,C,d,_,.ref st,rfl,W1.hx,bT.cl,n1,rfl,.inl ⟨rfl,_,bQ.of Ym⟩,_,rfl,st,_,_,rfl,rfl,Ym,(by rw[cR];exact aU (by lia)),?_⟩;rw[show as.map V.ref++[.ref ai]=(as++[ai]).map V.ref by rw[j5];rfl];have k2:cT st H1 (aO H1 st (.lst ((as++[ai]).map V.ref))):=aL st _ _;have st2:(aO H1 st (.lst ((as++[ai]).map V.ref))) st=some (.lst ((as++[ai]).map V.ref)):=af;generalize aO H1 st (.lst ((as++[ai]).map V.ref))=H2 at k2 st2;have nxs:x≠st:=eS W1.hx Ym;have nxo:x≠op:=eS W1.hx W1.ho;have x2:=k2 _ _ W1.hx nxs;have o2:=k2 _ _ W1.ho W.ne.symm;have ai2:=k2 _ _ hai aaP
  have lmn:(((as++[ai]).map V.ref).length:Int)-1=((bP.length:Nat):Int):=by
   rw[cR,dM,lal];simp only[vK];lia
  refine⟨_,rfl,x,C,d,_,.ref op,rfl,x2,bT.cl,n2,rfl,_,rfl,x,d,_,rfl,x2,rfl,x,d,st,op,_,rfl,x2,st2,?_⟩;rw[lmn];refine⟨qv,λt2 Lc=>?_⟩;have s3:aM H2 (aO H2 t2 (.lst [.int (bP.length:Nat)])):=ao Lc _;have b3:(aO H2 t2 (.lst [.int (bP.length:Nat)])) t2=some (.lst [.int (bP.length:Nat)]):=af;generalize aO H2 t2 (.lst [.int (bP.length:Nat)])=H3 at s3 b3;refine⟨_,rfl,ai,_,rfl,.inl (bQ.of (s3 _ _ ai2)),_,rfl,_,_,rfl,rfl,?_⟩;rw[cR,lri];have ek:(((uV last vo).length:Nat):Int)-((last.length:Nat):Int)=(((uV last vo).length-last.length:Nat):Int):=by lia
  show ZM _ (V.int ((((uV last vo).length:Nat):Int)-((last.length:Nat):Int))) _ _;rw[ek];refine⟨t2,_,_,rfl,rfl,b3,by lia,by lia,(by simp only[vK];exact j9 (aU (by lia))),λt3 UR=>?_⟩;rw[Int.toNat_natCast,Jg];generalize hk:(uV last vo).length-last.length=kk;have s4:aM H3 (aO H3 t3 (.lst (List.replicate kk (V.int (bP.length:Nat))))):=ao UR _;have b4:(aO H3 t3 (.lst (List.replicate kk (V.int (bP.length:Nat))))) t3=some (.lst (List.replicate kk (V.int (bP.length:Nat)))):=af;generalize aO H3 t3 (.lst (List.replicate kk (V.int (bP.length:Nat))))=H4 at s4 b4;have s24:=s3.trans s4
  have lo:ops.length<=700:=by
   obtain⟨l',hl',ol⟩:=W.SN.Fv;rw[hl]at hl';cases hl';lia
  refine⟨op,t3,_,_,rfl,rfl,s24 _ _ o2,b4,(by rw[cR,Ca];exact j9 (aU (by lia))),?_⟩;rw[show ops.map V.int++List.replicate kk (V.int (bP.length:Nat))=(ops++List.replicate kk ((bP.length:Nat):Int)).map V.int by rw[j5,List.map_replicate]];have k5:cT op H4 (aO H4 op (.lst ((ops++List.replicate kk ((bP.length:Nat):Int)).map V.int))):=aL op _ _;have o5:(aO H4 op (.lst ((ops++List.replicate kk ((bP.length:Nat):Int)).map V.int))) op=some (.lst ((ops++List.replicate kk ((bP.length:Nat):Int)).map V.int)):=af;generalize aO H4 op (.lst ((ops++List.replicate kk ((bP.length:Nat):Int)).map V.int))=H5 at k5 o5;have x5:=k5 _ _ (s24 _ _ x2) nxo;refine⟨d,_,x5,(by show 2<1000;decide),?_⟩;have e5:aO H5 x (.ins C d (L2.gx "openings" (.ref op) ([("states",.ref st),("openings",.ref op)]:List (Str × V))))=H5:=UQ x5;rw[e5];have k15:∀ q ob,H1 q=some ob->q≠st->q≠op->H5 q=some ob:=λq ob e m1 m2=>k5 _ _ (s24 _ _ (k2 _ _ e m1)) m2;have t15:∀ q xs,H1 q=some (.tup xs)->H5 q=some (.tup xs):=λq xs e=>k15 _ _ e (eS e Ym) (eS e W1.ho);have YK:=k5 _ _ (s24 _ _ st2) W.ne;refine k S1 H5 ⟨up _ W.sx,up _ W.ss,up _ W.so,λq w=>?_,x5,⟨as++[ai],YK,?_⟩,by rw[hk];exact o5,W.ne,W.SN.step hl lens.1⟩ sub (λq ob e n=>?_) (λq xs e=>t15 _ _ (s1 _ _ e))
  ·by_cases z1:q=st
   ·rw[z1];exact⟨_,YK⟩
   by_cases z2:q=op
   ·rw[z2];exact⟨_,o5⟩
   obtain⟨ob,e⟩:=al1 q w;exact⟨ob,k15 _ _ e z1 z2⟩
  ·refine (cE.mono (λa rows q=>?_) al).app (.cons (sa1.fr (λ_ z=>z) (λq ob e _ m1 m2=>k15 _ _ e m1 m2) t15) .nil);exact q.fr up (λq ob e _ m1 m2=>k15 _ _ (s1 _ _ e) m1 m2) (λq xs e=>t15 _ _ (s1 _ _ e))
  ·exact k15 _ _ (s1 _ _ e) (λz=>n (by rw[z];exact W.ss)) (λz=>n (by rw[z];exact W.so))
def yN(n:Nat)(a:Int):Prop:=0<=a/\a<(n:Nat)
theorem yN.get{n:Nat}{a:Int}(h:yN n a):∃ j:Nat,a=j/\j<n:=by
 obtain⟨h0,h1⟩:=h;exact⟨a.toNat,by lia,by lia⟩
def LH(bP:qM)(ops:List Int):Prop:=bP.length<=1000/\ops.length<=1000
inductive o6(C:Addr)(vs:List V)(H:Hp)(Q:VK)(E:XK):Prop
 | mk (S:Addr->Prop) (x d st op:Addr) (bP:qM) (ops:List Int) (s:Int) (_:vs=[.ref x,.int s]) (_:Sh C S H x d st op bP ops) (_:yN ops.length s) (_:Q .iZ H)
inductive Fx(C:Addr)(vs:List V)(H:Hp)(Q:VK)(E:XK):Prop
 | mk (S:Addr->Prop) (x d st op:Addr) (bP:qM) (ops:List Int) (m:Int) (_:vs=[.ref x,.int m]) (_:Sh C S H x d st op bP ops) (_:yN bP.length m) (_:Q .iZ H)
def US(H H':Hp)(q:Addr)(rows:List (List aV)):Prop:=H q=none/\∃ rs:List Addr,H' q=some (.lst (rs.map V.ref))/\cE (λr aQ=>H r=none/\r≠q/\bR H' (.ref r) aQ) rs rows
inductive Bf(C:Addr)(vs:List V)(H:Hp)(Q:VK)(E:XK):Prop
 | mk (S:Addr->Prop) (x d st op:Addr) (bP:qM) (ops:List Int) (m:Int) (_:vs=[.ref x,.int m]) (_:Sh C S H x d st op bP ops) (_:LH bP ops) (_:yN bP.length m) (_:(∀ (mi:Nat) (rows:List (List aV)),m=mi->bP[mi]?=some rows->∀ (q:Addr) (H':Hp),US H H' q rows->aM H H'->Q (.ref q) H'))
inductive tY(C:Addr)(vs:List V)(H:Hp)(Q:VK)(E:XK):Prop
 | mk (S:Addr->Prop) (x d st op:Addr) (bP:qM) (ops:List Int) (_:vs=[.ref x]) (_:Sh C S H x d st op bP ops) (_:LH bP ops) (_:(∀ (rows:List (List aV)),bP.getLast?=some rows->∀ (q:Addr) (H':Hp),US H H' q rows->aM H H'->Q (.ref q) H'))
theorem xy:aH ["self","sheet"] ["self","sheet"] (aA jR):=iW
theorem v7:aH ["self","moment"] ["self","moment"] (aA ff):=iW
theorem zH:aH ["self","moment"] ["self","moment"] (aA iQ):=iW
theorem GB:aH ["self"] ["self"] (aA sS):=iW
structure ShM(K:PySem.W.Frag)(mg:Str->Option Value)(C:Addr):Prop where
 T:nI mg
 c:∃ fi,ClsAt K mg "Shelf" C fi
 n1:cG K C "states"
 n2:cG K C "openings"
theorem ef{f:Addr}(F:iH K "check_sheet" "Shelf.check_sheet" jR f fd)(M:ShM K mg C)(kZ:bN K C "many" "Shelf.many" nB ki fM gM):aF P w K mg zt bI 2 f fd Hq (o6 C):=by
 obtain⟨T,⟨fi,bT⟩,n1,n2⟩:=M;have v8:aF P w K mg zt bI 1 _ _ ki (LF C):=xR kZ.F T bT.cl n1;refine jg F xy λdH A zn s H vs Q E hr h=>?_;obtain⟨S,x,d,st,op,bP,ops,a,rfl,W,iw,k1⟩:=h;refine⟨_,(au (bU (qq (ue jz rB ay (pv 1) (iD (pv 0) bT kZ v8 hr ck))) (au nL) br)),?_⟩;refine⟨_,rfl,_,_,rfl,rfl,_,rfl,?_⟩;rw[decide_eq_true iw.1];refine dN (λ_=>?_) (λc=>absurd rfl c);refine⟨_,rfl,x,d,_,rfl,W.hx,rfl,S,x,d,st,op,bP,ops,rfl,W,_,_,rfl,rfl,_,rfl,?_⟩;rw[decide_eq_true iw.2];exact jK k1
theorem vF{f:Addr}{gN:FuncData}(F:iH K "check_moment" "Shelf.check_moment" ff f fd)(M:ShM K mg C)(dZ:bN K C "now" "Shelf.now" jQ ki fN gN):aF P w K mg zt bI 2 f fd S0 (Fx C):=by
 obtain⟨T,⟨fi,bT⟩,n1,n2⟩:=M;have rZ:aF P w K mg zt bI 1 _ _ ki (M8 C):=uU dZ.F T bT.cl n1;refine jg F v7 λdH A zn s H vs Q E hr h=>?_;obtain⟨S,x,d,st,op,bP,ops,a,rfl,W,iw,k1⟩:=h;obtain⟨as,hs,al⟩:=W.hs;refine⟨_,(au (bU (qq (ue jz jz ay (pv 1) (iD (pv 0) bT dZ rZ hr ck))) (au nL) br)),?_⟩;refine⟨_,rfl,_,_,rfl,rfl,_,rfl,?_⟩;rw[decide_eq_true iw.1];refine dN (λ_=>?_) (λc=>absurd rfl c);refine⟨_,rfl,x,d,_,rfl,W.hx,rfl,x,d,st,op,_,rfl,W.hx,hs,_,_,rfl,rfl,_,rfl,?_⟩;rw[decide_eq_true (show a<=((as.map V.ref).length:Int)-1 by rw[cR,al.len];exact Int.le_sub_one_of_lt iw.2)];exact jK k1
theorem Sh.at'{S:Addr->Prop}{H:Hp}{x d st:Addr}{bP:qM}{ops:List Int}(h:Sh C S H x d st op bP ops){as:List Addr}(ha:H st=some (.lst (as.map V.ref))){i:Nat}{rows:List (List aV)}(e:bP[i]?=some rows):∃ a,as[i]?=some a/\LC S H st op a rows:=by
 obtain⟨bs,hb,a2⟩:=h.hs
 have e':as=bs:=by
  rw[ha]at hb;exact Dh (HO.lst.inj (vM hb))
 subst e';exact a2.get' e
theorem Sh.aaS{S:Addr->Prop}{H:Hp}{x d st:Addr}{bP:qM}{ops:List Int}(h:Sh C S H x d st op bP ops):∃ last,bP.getLast?=some last/\bP[bP.length-1]?=some last/\ops.length=last.length:=by
 obtain⟨last,hl,ol⟩:=h.SN.Fv;refine⟨last,hl,?_,ol⟩;rw[List.getLast?_eq_getElem?]at hl;exact hl
theorem yF{f:Addr}{gN:FuncData}(F:iH K "rows_then" "Shelf.rows_then" iQ f fd)(M:ShM K mg C)(dZ:bN K C "now" "Shelf.now" jQ ki fN gN)(fH:bN K C "check_moment" "Shelf.check_moment" ff S0 fm gm):aF P w K mg zt bI 3 f fd S0 (Bf C):=by
 have xA:aF P w K mg zt bI 2 _ _ S0 (Fx C):=vF fH.F M dZ;obtain⟨T,⟨fi,bT⟩,n1,n2⟩:=M;refine jg F zH λdH A zn s H vs Q E hr h=>?_;obtain⟨S,x,d,st,op,bP,ops,m,rfl,W,ok,im,k1⟩:=h;obtain⟨as,hs,al⟩:=id W.hs;refine⟨_,(aj (bu (iy (pv 0) bT fH xA hr ck (aa (pv 1) ah))) (au (aN (jX (N:=["items"]) (rR (sc:=aA iQ) (NX:=["self","moment"]) (jx:=[none]) rfl rfl rfl (by decide +kernel) (by decide +kernel) rfl (by decide +kernel) rfl (by decide +kernel)) rfl (dc (aX bW (eG (pv 0) rfl) (pv 1))) (λ_ _ _ _ _ _=>(cB (i:=0) (show List.Nodup (["items"]:List Str) by decide +kernel))) (λ_ _ _ _ _ _=>ko) (λ_ _ _ _ _ _=>(gJ Lf rfl T.nh xX (aa (pv 0) ah))))))),?_⟩;refine⟨_,rfl,x,d,_,rfl,W.hx,rfl,_,rfl,S,x,d,st,op,bP,ops,m,rfl,W,im,?_⟩;obtain⟨i,rfl,il⟩:=im.get;have er:bP[i]?=some bP[i]:=pP il;generalize bP[i]=rows at er;obtain⟨b,eb,_,_,_,rs,hb,ar⟩:=W.at' hs er;have lr:=ar.len;have lo:=W.SN.less i rows er;have ok2:=ok.2;refine⟨_,rfl,x,C,d,_,.ref st,rfl,W.hx,bT.cl,n1,rfl,_,rfl,st,_,_,.ref b,rfl,rfl,bQ.of hs,gz (by rw[kF,eb];rfl),?_⟩;refine⟨b,rfl,⟨_,bQ.of hb⟩,λacc dh=>jS (K:=K) (a:=b) (xs:=rs.map V.ref) (λj σ H1=>∃ (u:Option V) (qs:List Addr),σ=[u]/\H1 acc=some (.lst (qs.map V.ref))/\aM H H1/\cE (λr aQ=>H r=none/\r≠acc/\bR H1 (.ref r) aQ) qs (rows.take j)) ⟨none,[],rfl,af,ao dh _,by rw[List.take_zero];exact .nil⟩ (λj σ H1 _ ⟨_,_,_,_,s,_⟩=>bQ.of (s _ _ hb)) ?_ ?_⟩
 ·rintro j y σ H1 hj ⟨u,qs,rfl,ha,s1,aq⟩;rw[kF]at hj;obtain⟨ri,eri,rfl⟩:=Option.map_eq_some_iff.mp hj;obtain⟨aQ,aeu,rE⟩:=ar.get eri;obtain⟨c,vs,ec,hc,it⟩:=rE.at';cases ec;refine⟨_,rfl,ri,_,rfl,.inl (bQ.of (s1 _ _ hc)),λz hz=>⟨_,ao hz _ _ _ ha,?_,_,qs++[z],rfl,?_,?_,?_⟩⟩
  ·have:=aq.len;rw[jV]at this;rw[cR];exact aU (by lia)
  ·rw[af,j5];rfl
  ·intro q ob e;rw[aK (az e dh)];exact ao hz _ _ _ (s1 _ _ e)
  ·have nza:z≠acc:=(az ha hz).symm
   have fr:∀ q ob,H1 q=some ob->q≠acc->(aO (aO H1 z (.lst vs)) acc (.lst (qs.map V.ref++[.ref z]))) q=some ob:=λq ob e n=>by
    rw[aK n];exact ao hz _ _ _ e
   have tu:∀ q xs,H1 q=some (.tup xs)->(aO (aO H1 z (.lst vs)) acc (.lst (qs.map V.ref++[.ref z]))) q=some (.tup xs):=λq xs e=>fr _ _ e (eS e ha (by intro w;cases w));rw[take_snoc aeu];refine cE.snoc (aq.mono λr aQ ⟨h1,h2,h3⟩=>⟨h1,h2,h3.fr (λxs e=>fr _ _ e h2) tu⟩) ⟨aZ s1 hz,nza,z,vs,rfl,?_,it.mono λv i ⟨q,e,hq⟩=>⟨q,e,tu _ _ (s1 _ _ hq)⟩⟩;rw[aK nza];exact af
 ·rintro σ H1 ⟨u,qs,rfl,ha,s1,aq⟩;rw[cR,lr,lI]at aq;exact k1 i rows rfl er acc H1 ⟨dh,qs,ha,aq⟩ s1
theorem gY{f fr:Addr}{gN:FuncData}(F:iH K "rows" "Shelf.rows" sS f fd)(M:ShM K mg C)(dZ:bN K C "now" "Shelf.now" jQ ki fN gN)(fH:bN K C "check_moment" "Shelf.check_moment" ff S0 fm gm)(lZ:bN K C "rows_then" "Shelf.rows_then" iQ S0 fr gr):aF P w K mg zt bI 4 f fd ki (tY C):=by
 have AB:aF P w K mg zt bI 3 _ _ S0 (Bf C):=yF lZ.F M dZ fH;obtain⟨T,⟨fi,bT⟩,n1,n2⟩:=M;have rZ:aF P w K mg zt bI 1 _ _ ki (M8 C):=uU dZ.F T bT.cl n1;refine jg F GB λdH A zn s H vs Q E hr h=>?_;obtain⟨S,x,d,st,op,bP,ops,rfl,W,ok,k⟩:=h;obtain⟨as,hs,al⟩:=id W.hs;obtain⟨last,hl,EF,_⟩:=W.aaS;have lp:bP.length-1<bP.length:=(List.getElem?_eq_some_iff.mp EF).1;have ok1:=ok.1;have la:(((as.map V.ref).length:Nat):Int)-1=((bP.length-1:Nat):Int):=by rw[cR,al.len];lia
 refine⟨_,(au (aN (iy (pv 0) bT lZ AB hr ck (aa (iD (pv 0) bT dZ rZ hr ck) ah)))),?_⟩;refine⟨_,rfl,x,d,_,rfl,W.hx,rfl,_,rfl,x,d,_,rfl,W.hx,rfl,x,d,st,op,_,rfl,W.hx,hs,?_⟩;rw[la];refine⟨S,x,d,st,op,bP,ops,_,rfl,W,ok,⟨by lia,by lia⟩,λmi rows em er q H1 fs s1=>?_⟩;have:mi=bP.length-1:=by lia
 subst this;rw[EF]at er;cases er;exact k last hl q H1 fs s1
inductive B0(C:Addr)(vs:List V)(H:Hp)(Q:VK)(E:XK):Prop
 | mk (x d:Addr) (_:vs=[.ref x]) (_:H x=some (.ins C d [])) (_: ∀ (fs:List (Str × V)) (H':Hp),H' x=some (.ins C d fs)->cT x H H'->Q .iZ H')
theorem By:aH ["self"] ["self"] (aA nR):=iW
theorem BA:aH ["self"] ["self"] (aA nU):=iW
theorem Ji{x z:Addr}{H:Hp}{o o':HO}(hz:H z=none):cT x H (aO (aO H z o) x o'):=λa ob e n=>by
 rw[aK n];exact ao hz o a ob e
theorem AD{f:Addr}(F:iH K "__init__" "Dues.__init__" nU f fd)(cl:DQ K C)(n1:cG K C "sums"):aF P w K mg zt bI 1 f fd ki (B0 C):=by
 refine jg F BA λdH A zn s H vs Q E hr h=>?_;obtain⟨x,d,rfl,hx,k⟩:=h;refine⟨_,(au (mX (pv 0) rP rfl)),?_⟩;intro z hz;exact⟨_,rfl,x,C,d,_,rfl,ao hz _ _ _ hx,cl,n1,by decide,k _ _ af (Ji hz)⟩
theorem AE{f:Addr}(F:iH K "__init__" "Ties.__init__" nR f fd)(cl:DQ K C)(n1:cG K C "given")(n2:cG K C "pairs"):aF P w K mg zt bI 1 f fd ki (B0 C):=by
 refine jg F By λdH A zn s H vs Q E hr h=>?_;obtain⟨x,d,rfl,hx,k⟩:=h;refine⟨_,(aj (mX (pv 0) ay rfl) (au (mX (pv 0) rP rfl))),?_⟩;refine⟨_,rfl,x,C,d,_,rfl,hx,cl,n1,by decide,?_⟩;have k1:cT x H (aO H x (.ins C d (L2.gx "given" (.int 0) []))):=aL x _ _;have h1:(aO H x (.ins C d (L2.gx "given" (.int 0) []))) x=some (.ins C d (L2.gx "given" (.int 0) [])):=af;generalize aO H x (.ins C d (L2.gx "given" (.int 0) []))=H1 at k1 h1;intro z hz;exact⟨_,rfl,x,C,d,_,rfl,ao hz _ _ _ h1,cl,n2,(by show 1<1000;decide),k _ _ af (k1.trans (Ji hz))⟩
def SO(aP:mj):List V:=aP.map λp=>E9 p.2
def Mm(aP:mj):List V:=aP.map λp=>V.int p.1
def uW(h:Int)(cs:List Nat):mj:=cs.map λc=>(h,c)
theorem xh(h:Int)(cs:List Nat):(uW h cs).length=cs.length:=cR ..
theorem UT(aP:mj)(h:Int)(cs:List Nat):SO (aP++uW h cs)=SO aP++cs.map E9:=by
 unfold SO uW;rw[j5,List.map_map];rfl
theorem GC(v:V):∀ n:Nat,(List.replicate n [v]).flatten=List.replicate n v
 | 0=>rfl
 | n+1=>by rw[List.replicate_succ,List.flatten_cons,GC v n,List.replicate_succ];rfl
theorem UU(aP:mj)(h:Int)(cs:List Nat):Mm (aP++uW h cs)=Mm aP++(List.replicate cs.length [V.int h]).flatten:=by
 rw[GC];unfold Mm uW;rw[j5,List.map_map];congr 1;exact List.map_eq_replicate_iff.mpr λc _=>rfl
def yG(h:Int):Nat->mj->List Int
 | _,[]=>[]
 | i,p::r=>if p.1=h then (i:Int)::yG h (i+1) r else yG h (i+1) r
theorem r9(h:Int):∀ (a b:mj) (i:Nat),yG h i (a++b)=yG h i a++yG h (i+a.length) b
 | [],b,i=>rfl
 | p::a,b,i=>by
  rw[List.cons_append,yG,yG,qE,r9 h a b (i+1),show i+1+a.length=i+(a.length+1) by lia]
  split <;> rfl
theorem AF(h:Int):∀ (cs:List Nat) (i:Nat),yG h i (uW h cs)=run (i:Int) cs.length
 | [],i=>rfl
 | c::cs,i=>by
  show yG h i ((h,c)::uW h cs)=_;rw[yG,if_pos rfl,AF h cs (i+1),qE,run,show ((i+1:Nat):Int)=(i:Int)+1 by lia]
theorem sf{h g:Int}(n:g≠h):∀ (cs:List Nat) (i:Nat),yG h i (uW g cs)=[]
 | [],i=>rfl
 | c::cs,i=>by
  show yG h i ((g,c)::uW g cs)=_;rw[yG,if_neg n,sf n cs (i+1)]
theorem Dl(a b:Int)(k:Nat)(e:b=a+k):bS [(a,b)]=run a k:=by
 show oK (a,b)++[]=_;rw[jo];show run a (b-a).toNat=_;rw[show (b-a).toNat=k by lia]
structure Pw(S:Addr->Prop)(H:Hp)(s o:Addr)(n:Nat)(kvs:List (iL × V))(aP:mj):Prop where
 got:∀ h v,cW kvs (Sum.inl h)=some v->∃ (l:Addr) (row:Row),v=.ref l/\S l/\l≠s/\l≠o/\cM H l row/\(∀ p∈row,p.1<=p.2)/\bS row=yG h 0 aP/\row.length<=n
 iZ:∀ h,cW kvs (Sum.inl h)=none->yG h 0 aP=[]
 one:∀ h g v,cW kvs (Sum.inl h)=some v->cW kvs (Sum.inl g)=some v->h=g
 len:kvs.length<=n
structure We(C:Addr)(S:Addr->Prop)(H:Hp)(x d s o p:Addr)(n:Nat)(aP:mj):Prop where
 sx:S x
 ss:S s
 so:S o
 sp:S p
 al:∀ a,S a->∃ ob,H a=some ob
 hx:H x=some (.ins C d [("signs",.ref s),("owners",.ref o),("pourings",.ref p)])
 hs:H s=some (.lst (SO aP))
 ho:H o=some (.lst (Mm aP))
 ne:s≠o
 dk:∃ kvs,H p=some (.dK kvs)/\Pw S H s o n kvs aP
theorem cM.two{H H':Hp}{r:Addr}{row:Row}(h:cM H r row)(k:∀ xs,H r=some (.lst xs)->H' r=some (.lst xs))(t:∀ a xs,H a=some (.tup xs)->H' a=some (.tup xs)):cM H' r row:=by
 obtain⟨as,h1,h2⟩:=h;exact⟨as,k _ h1,h2.tups t⟩
theorem We.fr{S:Addr->Prop}{H H':Hp}{x d s p:Addr}{n:Nat}{aP:mj}(h:We C S H x d s o p n aP)(k:∀ a ob,H a=some ob->S a->H' a=some ob)(t:∀ a xs,H a=some (.tup xs)->H' a=some (.tup xs)):We C S H' x d s o p n aP:=by
 obtain⟨sx,ss,so,sp,al,hx,hs,ho,ne,kvs,hp,pw⟩:=h;refine⟨sx,ss,so,sp,λa z=>?_,k _ _ hx sx,k _ _ hs ss,k _ _ ho so,ne,kvs,k _ _ hp sp,λh v e=>?_,pw.iZ,pw.one,pw.len⟩
 ·obtain⟨ob,e⟩:=al a z;exact⟨ob,k _ _ e z⟩
 ·obtain⟨l,row,e1,e2,e3,e4,e5,r⟩:=pw.got h v e;exact⟨l,row,e1,e2,e3,e4,e5.two (λxs q=>k _ _ q e2) t,r⟩
theorem We.same{S:Addr->Prop}{H H':Hp}{x d s p:Addr}{n:Nat}{aP:mj}(h:We C S H x d s o p n aP)(k:aM H H'):We C S H' x d s o p n aP:=h.fr (λa ob e _=>k a ob e) (λa xs e=>k _ _ e)
theorem M9(aP:mj):(SO aP).length=aP.length:=cR ..
theorem UW(aP:mj):(Mm aP).length=aP.length:=cR ..
theorem RE{H:Hp}{a:Addr}{ob:HO}(h:H a=some ob):aO H a ob=H:=by
 funext b;by_cases e:b=a
 ·rw[e,af,h]
 ·rw[aK e]
inductive Na(C:Addr)(vs:List V)(H:Hp)(Q:VK)(E:XK):Prop
 | mk (x d:Addr) (_:vs=[.ref x]) (_:H x=some (.ins C d [])) (_: ∀ (s o p:Addr) (H':Hp),We C (λa=>a=x\/a=s\/a=o\/a=p) H' x d s o p 0 []->cT x H H'->H s=none->H o=none->H p=none->Q .iZ H')
inductive zI(C:Addr)(vs:List V)(H:Hp)(Q:VK)(E:XK):Prop
 | mk (x d s o p:Addr) (aP:mj) (_:vs=[.ref x]) (_:H x=some (.ins C d [("signs",.ref s),("owners",.ref o),("pourings",.ref p)])) (_:H s=some (.lst (SO aP))) (_:Q (.int (aP.length:Nat)) H)
inductive RG(C:Addr)(vs:List V)(H:Hp)(Q:VK)(E:XK):Prop
 | mk (S:Addr->Prop) (x d s o p:Addr) (n:Nat) (aP:mj) (h:Int) (cs:List Nat) (_:vs=[.ref x,.int h,.str (iU cs)]) (_:We C S H x d s o p n aP) (_:aP.length+cs.length<=100000) (_:n<=1000) (_ :
 ∀ (S':Addr->Prop) (q:Addr) (H':Hp),We C S' H' x d s o p (n+1) (aP++uW h cs)->H' q=some (.tup [.int (aP.length:Nat),.int ((aP++uW h cs).length:Nat)])->(∀ a,S' a->S a\/H a=none)->(∀ a ob,H a=some ob->¬ S a->H' a=some ob)->(∀ a xs,H a=some (.tup xs)->H' a=some (.tup xs))->Q (.ref q) H')
theorem BB:aH ["self"] ["self"] (aA nV):=iW
theorem Jj:aH ["self"] ["self"] (aA kK):=iW
theorem wc:aH ["self","hand","text","start","stretch"] ["self","hand","text"] (aA uL):=iW
theorem AG{f:Addr}(F:iH K "__init__" "Well.__init__" nV f fd)(cl:DQ K C)(n1:cG K C "signs")(n2:cG K C "owners")(n3:cG K C "pourings"):aF P w K mg zt bI 1 f fd ki (Na C):=by
 refine jg F BB λdH A zn s H vs Q E hr h=>?_;obtain⟨x,d,rfl,hx,k⟩:=h;refine⟨_,(aj (mX (pv 0) (bO ah) rfl) (aj (mX (pv 0) (bO ah) rfl) (au (mX (pv 0) rP rfl)))),?_⟩;refine⟨mF,λs hs=>?_⟩;have a1:aM H (aO H s (.lst [])):=ao hs _;have b1:(aO H s (.lst [])) s=some (.lst []):=af;generalize aO H s (.lst [])=H1 at a1 b1;refine⟨_,rfl,x,C,d,_,rfl,a1 _ _ hx,cl,n1,by decide,?_⟩;have k2:cT x H1 (aO H1 x (.ins C d (L2.gx "signs" (.ref s) []))):=aL x _ _;have h2:(aO H1 x (.ins C d (L2.gx "signs" (.ref s) []))) x=some (.ins C d [("signs",.ref s)]):=af;generalize aO H1 x (.ins C d (L2.gx "signs" (.ref s) []))=H2 at k2 h2;have Yk:s≠x:=(az hx hs).symm;have b2:=k2 _ _ b1 Yk;refine⟨mF,λo ho=>?_⟩;have a3:aM H2 (aO H2 o (.lst [])):=ao ho _;have c3:(aO H2 o (.lst [])) o=some (.lst []):=af;generalize aO H2 o (.lst [])=H3 at a3 c3;refine⟨_,rfl,x,C,d,_,rfl,a3 _ _ h2,cl,n2,(by show 1<1000;decide),?_⟩;have k4:cT x H3 (aO H3 x (.ins C d (L2.gx "owners" (.ref o) [("signs",.ref s)]))):=aL x _ _;have h4:(aO H3 x (.ins C d (L2.gx "owners" (.ref o) [("signs",.ref s)]))) x=some (.ins C d [("signs",.ref s),("owners",.ref o)]):=af;generalize aO H3 x (.ins C d (L2.gx "owners" (.ref o) [("signs",.ref s)]))=H4 at k4 h4;have HJ:o≠x:=(az h2 ho).symm;have c4:=k4 _ _ c3 HJ;have b4:=k4 _ _ (a3 _ _ b2) Yk;intro p hp;have npx:p≠x:=(az h4 hp).symm;refine⟨_,rfl,x,C,d,_,rfl,ao hp _ _ _ h4,cl,n3,(by show 2<1000;decide),?_⟩
 have k5:cT x H (aO (aO H4 p (.dK [])) x (.ins C d (L2.gx "pourings" (.ref p) [("signs",.ref s),("owners",.ref o)]))):=λa ob e n=>by
  rw[aK n];exact ao hp _ _ _ (k4 _ _ (a3 _ _ (k2 _ _ (a1 _ _ e) n)) n)
 refine k s o p _ ⟨.inl rfl,.inr (.inl rfl),.inr (.inr (.inl rfl)),.inr (.inr (.inr rfl)),λa z=>?_,af,?_,?_,az b2 ho,[],?_,?_⟩ k5 hs ?_ ?_
 ·rcases z with rfl|rfl|rfl|rfl
  ·exact⟨_,af⟩
  ·exact⟨_,by rw[aK Yk];exact ao hp _ _ _ b4⟩
  ·exact⟨_,by rw[aK HJ];exact ao hp _ _ _ c4⟩
  ·exact⟨_,by rw[aK npx];exact af⟩
 ·rw[aK Yk];exact ao hp _ _ _ b4
 ·rw[aK HJ];exact ao hp _ _ _ c4
 ·rw[aK npx];exact af
 ·exact⟨λh v e=>(by cases e),λh e=>rfl,λh g v e=>(by cases e),ja _⟩
 ·exact aZ a1 (lT k2 HJ ho)
 ·exact aZ a1 (lT k2 npx (aZ a3 (lT k4 npx hp)))
theorem qN{f:Addr}(F:iH K "size" "Well.size" kK f fd)(T:nI mg)(cl:DQ K C)(n1:cG K C "signs"):aF P w K mg zt bI 1 f fd ki (zI C):=by
 refine jg F Jj λdH A zn s H vs Q E hr h=>?_;obtain⟨x,d,s,o,p,aP,rfl,hx,hs,k⟩:=h;refine⟨_,(au (aN (jI T.jh (eG (pv 0) rfl)))),?_⟩;refine⟨_,rfl,x,C,d,_,.ref s,rfl,hx,cl,n1,rfl,s,_,rfl,.inl (bQ.of hs),?_⟩;rw[M9];exact k
theorem GD{f fs:Addr}(F:iH K "pour" "Well.pour" uL f fd)(T:nI mg)(iG:ClsAt K mg "Well" C fi)(n1:cG K C "signs")(n2:cG K C "owners")(n3:cG K C "pourings")(cQ:bN K C "size" "Well.size" kK ki fs gs):aF P w K mg zt bI 2 f fd Tc (RG C):=by
 have jT:aF P w K mg zt bI 1 fs gs ki (zI C):=qN cQ.F T iG.cl n1;refine jg F wc λdH A zn s H vs Q E hr h=>?_;obtain⟨S,x,d,s,o,p,n,aP,h,cs,rfl,W,len,nn,k⟩:=h;have hu:=kj hr;refine⟨_,(aj (bh (i:=3) wc.nd (iD (pv 0) iG cQ jT hr ck)) (aj (zX (pv 0) (gJ (D7 rfl) rfl T.nh xX (aa (pv 2) ah)) Lg) (aj (zX (pv 0) (bz Qe (bO (aa (pv 1) ah)) (cL y9 rfl T.jh PySem.boot_len (aa (pv 2) ah))) Lg) (aj (bh (i:=4) wc.nd (dX (aa (pv 3) (aa (iD (pv 0) iG cQ jT hr ck) ah)))) (aj (bu (iu wG qZ rf cH (QY (eG (pv 0) rfl) (pv 1) (bO ah) ⟨rfl,rfl,rfl,rfl⟩) (aa (pv 4) ah))) (au (aN (pv 4)))))))),?_⟩;refine⟨_,rfl,x,d,_,rfl,W.hx,rfl,x,d,s,o,p,aP,rfl,W.hx,W.hs,?_⟩;obtain⟨sx,ss,so,sp,al,hx,hs,ho,ne,kvs,hp,pw⟩:=id W;have nxs:x≠s:=eS hx hs;have nxo:x≠o:=eS hx ho;have nxp:x≠p:=eS hx hp;have nps:p≠s:=eS hp hs;have npo:p≠o:=eS hp ho;refine⟨_,rfl,x,C,d,_,.ref s,rfl,hx,iG.cl,n1,rfl,_,rfl,cs,rfl,j9 (aU (by lia)),λt ht=>?_⟩;have a1:aM H (aO H t (.lst (cs.map E9))):=ao ht _;have b1:(aO H t (.lst (cs.map E9))) t=some (.lst (cs.map E9)):=af;generalize aO H t (.lst (cs.map E9))=H1 at a1 b1;refine⟨s,t,_,_,rfl,rfl,a1 _ _ hs,b1,(by rw[M9,cR];exact j9 (aU (by lia))),?_⟩;rw[← UT aP h cs];have k2:cT s H1 (aO H1 s (.lst (SO (aP++uW h cs)))):=aL s _ _;have s2:(aO H1 s (.lst (SO (aP++uW h cs)))) s=some (.lst (SO (aP++uW h cs))):=af;generalize aO H1 s (.lst (SO (aP++uW h cs)))=H2 at k2 s2;have k02:cT s H H2:=λa ob e m=>k2 _ _ (a1 _ _ e) m;have x2:=k02 _ _ hx nxs;refine⟨d,_,x2,(by show 3<1000;decide),?_⟩;have e3:aO H2 x (.ins C d (L2.gx "signs" (.ref s) ([("signs",.ref s),("owners",.ref o),("pourings",.ref p)]:List (Str × V))))=H2:=RE x2;rw[e3];refine⟨_,rfl,x,C,d,_,.ref o,rfl,x2,iG.cl,n2,rfl,_,rfl,qv,λt2 Lc=>?_⟩;have a3:aM H2 (aO H2 t2 (.lst [.int h])):=ao Lc _;have b3:(aO H2 t2 (.lst [.int h])) t2=some (.lst [.int h]):=af;generalize aO H2 t2 (.lst [.int h])=H3 at a3 b3;refine⟨_,rfl,iU cs,rfl,(by rw[uP];exact j9 (aU (by lia))),?_⟩;rw[uP];refine⟨t2,_,_,rfl,rfl,b3,by lia,by lia,(by simp only[vK];exact j9 (aU (by lia))),λt3 UR=>?_⟩;rw[Int.toNat_natCast];have a4:aM H3 (aO H3 t3 (.lst (List.replicate cs.length [V.int h]).flatten)):=ao UR _;have b4:(aO H3 t3 (.lst (List.replicate cs.length [V.int h]).flatten)) t3=some (.lst (List.replicate cs.length [V.int h]).flatten):=af;generalize aO H3 t3 (.lst (List.replicate cs.length [V.int h]).flatten)=H4 at a4 b4;have Y4:cT s H H4:=λa ob e m=>a4 _ _ (a3 _ _ (k02 _ _ e m));refine⟨o,t3,_,_,rfl,rfl,Y4 _ _ ho ne.symm,b4,(by rw[UW,GC,Ca];exact j9 (aU (by lia))),?_⟩;rw[← UU aP h cs];have k5:cT o H4 (aO H4 o (.lst (Mm (aP++uW h cs)))):=aL o _ _;have o5:(aO H4 o (.lst (Mm (aP++uW h cs)))) o=some (.lst (Mm (aP++uW h cs))):=af;generalize aO H4 o (.lst (Mm (aP++uW h cs)))=H5 at k5 o5;have k05:∀ a ob,H a=some ob->a≠s->a≠o->H5 a=some ob:=λa ob e m m2=>k5 _ _ (Y4 _ _ e m) m2;have x5:=k05 _ _ hx nxs nxo;have s5:=k5 _ _ (a4 _ _ (a3 _ _ s2)) ne;refine⟨d,_,x5,(by show 3<1000;decide),?_⟩;have e5:aO H5 x (.ins C d (L2.gx "owners" (.ref o) ([("signs",.ref s),("owners",.ref o),("pourings",.ref p)]:List (Str × V))))=H5:=RE x5;rw[e5]
 have Vq:∀ q,H5 q=none->H q=none:=λq hq=>by
  cases e:H q with
  | none=>rfl
  | some ob =>
   by_cases z1:q=s
   ·rw[z1,s5]at hq;cases hq
   by_cases z2:q=o
   ·rw[z2,o5]at hq;cases hq
   rw[k05 _ _ e z1 z2]at hq;cases hq
 refine⟨_,rfl,_,rfl,x,d,_,rfl,x5,rfl,x,d,s,o,p,_,rfl,x5,s5,?_⟩;refine⟨vW,λq hq=>?_⟩;have a6:aM H5 (aO H5 q (.tup [.int (aP.length:Nat),.int ((aP++uW h cs).length:Nat)])):=ao hq _;have b6:(aO H5 q (.tup [.int (aP.length:Nat),.int ((aP++uW h cs).length:Nat)])) q=some (.tup [.int (aP.length:Nat),.int ((aP++uW h cs).length:Nat)]):=af;generalize aO H5 q (.tup [.int (aP.length:Nat),.int ((aP++uW h cs).length:Nat)])=H6 at a6 b6;have p6:=a6 _ _ (k05 _ _ hp nps npo);have O6:∀ q,H6 q=none->H q=none:=λq hq=>Vq q (aZ a6 hq);refine⟨_,rfl,x,C,d,_,.ref p,rfl,a6 _ _ x5,iG.cl,n3,rfl,p,rfl,.inl ⟨_,.inl p6⟩,_,rfl,mF,λz hz=>?_⟩;have a7:aM H6 (aO H6 z (.lst [])):=ao hz _;have b7:(aO H6 z (.lst [])) z=some (.lst []):=af;generalize aO H6 z (.lst [])=H7 at a7 b7;have lp:=pw.len;refine⟨kvs,Sum.inl h,a7 _ _ p6,rfl,aU (by lia),λv hv=>?_,λhv=>?_⟩
 ·obtain⟨l,row,rfl,Sl,ls,lo,⟨as,hl,pa⟩,ok,sp1,rl⟩:=pw.got h v hv;have k07:∀ a ob,H a=some ob->a≠s->a≠o->H7 a=some ob:=λa ob e m m2=>a7 _ _ (a6 _ _ (k05 _ _ e m m2));have l7:=k07 _ _ hl ls lo;have nxl:x≠l:=eS hx hl;have npl:p≠l:=eS hp hl;have la:=pa.len;refine⟨.inl ⟨rfl,_,bQ.of l7⟩,_,rfl,l,_,_,rfl,rfl,l7,(by rw[cR];exact aU (by lia)),?_⟩;have k8:cT l H7 (aO H7 l (.lst (as.map V.ref++[.ref q]))):=aL l _ _;have l8:(aO H7 l (.lst (as.map V.ref++[.ref q]))) l=some (.lst (as.map V.ref++[.ref q])):=af;generalize aO H7 l (.lst (as.map V.ref++[.ref q]))=H8 at k8 l8;have t07:∀ a xs,H a=some (.tup xs)->H7 a=some (.tup xs):=λa xs e=>k07 _ _ e (eS e hs) (eS e ho);have Yn:∀ a xs,H7 a=some (.tup xs)->H8 a=some (.tup xs):=λa xs e=>k8 _ _ e (eS e l7);have s8:=k8 _ _ (a7 _ _ (a6 _ _ s5)) ls.symm;have o8:=k8 _ _ (a7 _ _ (a6 _ _ o5)) lo.symm;refine⟨_,rfl,k S q H8 ⟨sx,ss,so,sp,λa z=>?_,k8 _ _ (a7 _ _ (a6 _ _ x5)) nxl,s8,o8,ne,kvs,k8 _ _ (a7 _ _ p6) npl,λg v e=>?_,λg e=>?_,pw.one,by lia⟩ (Yn _ _ (a7 _ _ b6)) (λa z=>.inl z) (λa ob e m=>?_) (λa xs e=>Yn _ _ (t07 _ _ e))⟩
  ·by_cases z1:a=s
   ·rw[z1];exact⟨_,s8⟩
   by_cases z2:a=o
   ·rw[z2];exact⟨_,o8⟩
   by_cases z3:a=l
   ·rw[z3];exact⟨_,l8⟩
   obtain⟨ob,e⟩:=al a z;exact⟨ob,k8 _ _ (k07 _ _ e z1 z2) z3⟩
  ·by_cases c:g=h
   ·subst c;rw[hv]at e;cases e;refine⟨l,row++([(((aP.length:Nat):Int),(((aP++uW g cs).length:Nat):Int))]:Row),rfl,Sl,ls,lo,⟨as++[q],by rw[j5];exact l8,?_⟩,?_,?_,?_⟩
    ·exact bL.append (pa.tups λa xs e=>Yn _ _ (t07 _ _ e)) (.cons (b:=(((aP.length:Nat):Int),(((aP++uW g cs).length:Nat):Int))) (Yn _ _ (a7 _ _ b6)) .nil)
    ·intro r hr;rcases List.mem_append.mp hr with z|z
     ·exact ok r z
     ·rw[List.mem_singleton.mp z];show ((aP.length:Nat):Int)<=((aP++uW g cs).length:Nat);rw[dM];lia
    ·rw[dF,sp1,r9,AF,Nat.zero_add];congr 1;refine Dl _ _ _ ?_;rw[dM,xh];lia
    ·rw[dM];simp only[vK];lia
   ·obtain⟨l',UX,e1,e2,e3,e4,e5,e6,e7,e8⟩:=pw.got g v e;subst e1;have nl:l'≠l:=λz=>c (pw.one g h _ e (by rw[z];exact hv));refine⟨l',UX,rfl,e2,e3,e4,e5.two (λxs q=>k8 _ _ (k07 _ _ q e3 e4) nl) (λa xs e=>Yn _ _ (t07 _ _ e)),e6,?_,by lia⟩;rw[e7,r9,sf (λz=>c z.symm),jo]
  ·have c:g≠h:=λz=>by rw[z,hv]at e;cases e
   rw[r9,pw.iZ g e,sf (λz=>c z.symm),jo]
  ·have z1:a≠s:=λz=>m (by rw[z];exact ss);have z2:a≠o:=λz=>m (by rw[z];exact so);have z3:a≠l:=λz=>m (by rw[z];exact Sl);exact k8 _ _ (k07 _ _ e z1 z2) z3
 ·have fz:H z=none:=O6 z hz;have p7:=a7 _ _ p6;have k8:cT p H7 (aO H7 p (.dK (iC kvs (Sum.inl h) (.ref z)))):=aL p _ _;have p8:(aO H7 p (.dK (iC kvs (Sum.inl h) (.ref z)))) p=some (.dK (iC kvs (Sum.inl h) (.ref z))):=af;generalize aO H7 p (.dK (iC kvs (Sum.inl h) (.ref z)))=H8 at k8 p8;have z8:=k8 _ _ b7 (eS b7 p7);refine⟨.inl ⟨rfl,_,bQ.of z8⟩,_,rfl,z,_,_,rfl,rfl,z8,(by show 0<sizeLine;decide),?_⟩;have k9:cT z H8 (aO H8 z (.lst ([]++[.ref q]))):=aL z _ _;have z9:(aO H8 z (.lst ([]++[.ref q]))) z=some (.lst ([]++[.ref q])):=af;generalize aO H8 z (.lst ([]++[.ref q]))=H9 at k9 z9;have k69:∀ a ob,H6 a=some ob->a≠p->H9 a=some ob:=λa ob e m=>k9 _ _ (k8 _ _ (a7 _ _ e) m) (az e hz);have k09:∀ a ob,H a=some ob->a≠s->a≠o->a≠p->H9 a=some ob:=λa ob e m m2 m3=>k69 _ _ (a6 _ _ (k05 _ _ e m m2)) m3;have t69:∀ a xs,H6 a=some (.tup xs)->H9 a=some (.tup xs):=λa xs e=>k69 _ _ e (eS e p6);have t09:∀ a xs,H a=some (.tup xs)->H9 a=some (.tup xs):=λa xs e=>k09 _ _ e (eS e hs) (eS e ho) (eS e hp);have s9:=k69 _ _ (a6 _ _ s5) nps.symm;have o9:=k69 _ _ (a6 _ _ o5) npo.symm;have p9:=k9 _ _ p8 (eS p7 b7)
  have nz:∀ a,S a->a≠z:=λa sa=>by
   obtain⟨ob,e⟩:=al a sa;exact az e fz
  refine⟨_,rfl,k (λa=>S a\/a=z) q H9 ⟨.inl sx,.inl ss,.inl so,.inl sp,λa w=>?_,k69 _ _ (a6 _ _ x5) nxp,s9,o9,ne,_,p9,λg v e=>?_,λg e=>?_,λg g' v e e'=>?_,(by have:=kQ kvs (Sum.inl h:iL) (V.ref z);lia)⟩ (t69 _ _ b6) (λa w=>w.imp id λy=>by rw[y];exact fz) (λa ob e m=>?_) (λa xs e=>t09 _ _ e)⟩
  ·rcases w with w|w
   ·by_cases z1:a=s
    ·rw[z1];exact⟨_,s9⟩
    by_cases z2:a=o
    ·rw[z2];exact⟨_,o9⟩
    by_cases z3:a=p
    ·rw[z3];exact⟨_,p9⟩
    obtain⟨ob,e⟩:=al a w;exact⟨ob,k09 _ _ e z1 z2 z3⟩
   ·rw[w];exact⟨_,z9⟩
  ·rw[pZ]at e;by_cases c:g=h
   ·subst c;rw[if_pos rfl]at e;cases e;refine⟨z,([(((aP.length:Nat):Int),(((aP++uW g cs).length:Nat):Int))]:Row),rfl,.inr rfl,(nz _ ss).symm,(nz _ so).symm,⟨[q],z9,.cons (t69 _ _ b6) .nil⟩,?_,?_,?_⟩
    ·intro r hr;rw[List.mem_singleton.mp hr];show ((aP.length:Nat):Int)<=((aP++uW g cs).length:Nat);rw[dM];lia
    ·rw[r9,pw.iZ g hv,AF,Nat.zero_add,List.nil_append];refine Dl _ _ _ ?_;rw[dM,xh];lia
    ·simp only[vK];lia
   ·rw[if_neg (λz=>c (Sum.inl.inj z))]at e;obtain⟨l',UX,e1,e2,e3,e4,e5,e6,e7,e8⟩:=pw.got g v e;subst e1;refine⟨l',UX,rfl,.inl e2,e3,e4,e5.two (λxs q=>k09 _ _ q e3 e4 (eS q hp)) (λa xs e=>t09 _ _ e),e6,?_,by lia⟩;rw[e7,r9,sf (λz=>c z.symm),jo]
  ·rw[pZ]at e;have c:g≠h:=λz=>by rw[z,if_pos rfl]at e;cases e
   rw[if_neg (λz=>c (Sum.inl.inj z))]at e;rw[r9,pw.iZ g e,sf (λz=>c z.symm),jo]
  ·have other:∀ g v,g≠h->cW kvs (Sum.inl g)=some v->v≠.ref z:=λg v c e y=>by
    obtain⟨l',UX,e1,e2,_⟩:=pw.got g v e;rw[e1]at y;cases y;exact nz _ e2 rfl
   rw[pZ]at e e';by_cases c:g=h
   ·by_cases c':g'=h
    ·rw[c,c']
    ·rw[c,if_pos rfl]at e;rw[if_neg (λz=>c' (Sum.inl.inj z))]at e';cases e;exact absurd rfl (other _ _ c' e')
   ·rw[if_neg (λz=>c (Sum.inl.inj z))]at e;by_cases c':g'=h
    ·rw[c',if_pos rfl]at e';cases e';exact absurd rfl (other _ _ c e)
    ·rw[if_neg (λz=>c' (Sum.inl.inj z))]at e';exact pw.one _ _ _ e e'
  ·have z1:a≠s:=λz=>m (by rw[z];exact ss);have z2:a≠o:=λz=>m (by rw[z];exact so);have z3:a≠p:=λz=>m (by rw[z];exact sp);exact k09 _ _ e z1 z2 z3
def SQ(aP:mj)(a:Int):Prop:=0<=a/\a<(aP.length:Nat)
inductive Jk(C XN:Addr)(vs:List V)(H:Hp)(Q:VK)(E:XK):Prop
 | mk (S:Addr->Prop) (x d s o p:Addr) (n:Nat) (aP:mj) (a:Int) (_:vs=[.ref x,.int a]) (_:We C S H x d s o p n aP) (_:wO a) (_:aP.length<=100000) (_:(SQ aP a->Q .iZ H)) (_:(¬ SQ aP a->E (.ref XN) none H))
theorem we:aH ["self","address"] ["self","address"] (aA jB):=iW
theorem vG{f fs:Addr}(F:iH K "check_address" "Well.check_address" jB f fd)(T:nI mg)(iG:ClsAt K mg "Well" C fi)(n1:cG K C "signs")(j8:Ut K mg "OutOfInk" XN)(cQ:bN K C "size" "Well.size" kK ki fs gs):aF P w K mg zt (O8 P w) 2 f fd YH (Jk C XN):=by
 have jT:aF P w K mg zt bI 1 fs gs ki (zI C):=qN cQ.F T iG.cl n1;refine okY F we λdH A zn s H vs Q E hr h=>?_;obtain⟨S,x,d,s,o,p,n,aP,a,rfl,W,fa,len,k1,k2⟩:=h;refine⟨_,(au (bU (qq (ue jz rB ay (pv 1) (iD (pv 0) iG cQ jT hr ck))) (au (QI PySem.F.excBase_ValueError j8.x j8.m rfl XD (aa (Ud (QJ (QK (pv 1) (QJ (QK (iD (pv 0) iG cQ jT hr ck) XO))))) ah))) br)),?_⟩;have fl:wO ((aP.length:Nat):Int):=⟨by lia,by lia⟩;refine⟨_,rfl,_,_,rfl,rfl,_,rfl,dN (λc0=>?_) (λc0=>⟨_,rfl,mD ⟨_,rfl,a,rfl,fa.log,_,rfl,x,d,_,rfl,W.hx,rfl,x,d,s,o,p,aP,rfl,W.hx,W.hs,_,rfl,fl.log,λy=>⟨qv,k2 λiw=>c0 (decide_eq_true iw.1)⟩⟩⟩)⟩;refine⟨_,rfl,x,d,_,rfl,W.hx,rfl,x,d,s,o,p,aP,rfl,W.hx,W.hs,_,_,rfl,rfl,_,rfl,?_⟩;by_cases iw:SQ aP a
 ·rw[decide_eq_true iw.2];exact jK (k1 iw)
 ·rw[decide_eq_false (λz=>iw ⟨of_decide_eq_true c0,z⟩)];exact mD ⟨_,rfl,a,rfl,fa.log,_,rfl,x,d,_,rfl,W.hx,rfl,x,d,s,o,p,aP,rfl,W.hx,W.hs,_,rfl,fl.log,λy=>⟨qv,k2 iw⟩⟩
theorem Jl(xs:List V){p q:Int}(h:0<=p)(g:0<=q):pU xs (some p) (some q)=(xs.take q.toNat).drop p.toNat:=by
 unfold pU
 have e:∀ r:Int,0<=r->∀ d,HT.mK xs.length d (some r)=min r.toNat xs.length:=λr hr d=>by
  show (if r<0 then (r+(xs.length:Int)).toNat else min r.toNat xs.length)=_;rw[if_neg (by lia)]
 rw[e p h,e q g,List.drop_take];rcases Nat.le_total p.toNat xs.length with z|z
 ·rw[Nat.min_eq_left z];rcases Nat.le_total q.toNat xs.length with y|y
  ·rw[Nat.min_eq_left y]
  ·rw[Nat.min_eq_right y,yQ (by rw[xq];lia),yQ (by rw[xq];lia)]
 ·rw[Nat.min_eq_right z,B4 (ja _),B4 z];simp
def SR(n:Nat)(p:Int × Int):Bool:=decide (0<=p.1)&&decide (p.1<p.2)&&decide (p.2<=(n:Int))
def yH(n:Nat)(row:Row):Bool:=row.all (SR n)
inductive Nb(C:Addr)(vs:List V)(H:Hp)(Q:VK)(E:XK):Prop
 | mk (S:Addr->Prop) (x d s o p r:Addr) (n:Nat) (aP:mj) (row:Row) (_:vs=[.ref x,.ref r]) (_:We C S H x d s o p n aP) (_:cM H r row) (_:row.length<=1000) (_: ∀ H',aM H H'->Q (.bl (yH aP.length row)) H')
theorem GF:aH ["self","row"] ["self","row"] (aA pX):=iW
theorem Ej{f fs:Addr}(F:iH K "holds" "Well.holds" pX f fd)(T:nI mg)(iG:ClsAt K mg "Well" C fi)(n1:cG K C "signs")(cQ:bN K C "size" "Well.size" kK ki fs gs):aF P w K mg zt bI 2 f fd Wr (Nb C):=by
 have jT:aF P w K mg zt bI 1 fs gs ki (zI C):=qN cQ.F T iG.cl n1;refine jg F GF λdH A zn s H vs Q E hr h=>?_;obtain⟨S,x,d,s,o,p,r,n,aP,row,rfl,W,R,len,k⟩:=h;refine⟨_,(au (aN (cL (Oj rfl) rfl T.aai PyProof.Rows.boot_all (aa (jX (N:=["start","stop","self"]) (rR (sc:=aA pX) (NX:=["self","row"]) (jx:=[none,none,some 0]) rfl rfl rfl (by decide +kernel) (by decide +kernel) rfl (by decide +kernel) rfl (by decide +kernel)) rfl (dc (pv 1)) (λ_ _ _ _ _ _=>(zg (n:=2) rfl (bZ (cB (i:=0) (show List.Nodup (["start","stop","self"]:List Str) by decide +kernel)) (bZ (cB (i:=1) (show List.Nodup (["start","stop","self"]:List Str) by decide +kernel)) jO)))) (λ_ _ _ _ _ _=>ko) (λ_ _ _ _ _ _=>(Ol jz rB jz ay (pv 0) (pv 1) (iD (pv 2) iG cQ jT hr ck)))) ah)))),?_⟩;obtain⟨as,hr1,pa⟩:=id R;have la:=pa.len;refine⟨_,rfl,r,rfl,⟨_,bQ.of hr1⟩,λacc dh=>jS (K:=K) (a:=r) (xs:=as.map V.ref) (λi σ H1=>∃ u w:Option V,σ=[u,w,some (.ref x)]/\H1 acc=some (.lst (((row.take i).map (SR aP.length)).map V.bl))/\aM H H1) ⟨none,none,rfl,af,ao dh _⟩ (by rintro i σ H1 _ ⟨_,_,_,_,s⟩;exact bQ.of (s _ _ hr1)) ?_ ?_⟩
 ·rintro i y σ H1 hi ⟨u,w,rfl,ha,s1⟩;rw[kF]at hi;obtain⟨t,et,rfl⟩:=Option.map_eq_some_iff.mp hi;obtain⟨q,eq,ht⟩:=CO pa et;have W1:=W.same s1;refine⟨t,_,rfl,eL.of (s1 _ _ ht),rfl,_,_,rfl,_,_,rfl,rfl,?_⟩
  have qo:∀ v:Bool,SR aP.length q=v->∃ ys,H1 acc=some (.lst ys)/\ys.length<sizeLine/\∃ u w:Option V,[some (V.int q.1),some (V.int q.2),some (.ref x)]=[u,w,some (.ref x)]/\(aO H1 acc (.lst (ys++[.bl v]))) acc=some (.lst (((row.take (i+1)).map (SR aP.length)).map V.bl))/\aM H (aO H1 acc (.lst (ys++[.bl v]))):=λv hv=>by
   refine⟨_,ha,?_,_,_,rfl,?_,?_⟩
   ·rw[cR,cR,jV];exact aU (by lia)
   ·rw[af,take_snoc eq,j5,j5,← hv];rfl
   ·intro b ob e;rw[aK (az e dh)];exact s1 _ _ e
  refine⟨_,rfl,_,_,rfl,rfl,_,rfl,dN (λc1=>?_) (λc1=>qo false ?_)⟩
  ·refine⟨_,rfl,_,_,rfl,rfl,_,rfl,dN (λc2=>?_) (λc2=>qo false ?_)⟩
   ·refine⟨_,rfl,x,d,_,rfl,W1.hx,rfl,x,d,s,o,p,aP,rfl,W1.hx,W1.hs,_,_,rfl,rfl,qo _ ?_⟩;unfold SR;rw[c1,c2];rfl
   ·unfold SR;rw[c1,Bool.eq_false_iff.mpr c2];rfl
  ·unfold SR;rw[Bool.eq_false_iff.mpr c1];rfl
 ·rintro σ H1 ⟨u,w,rfl,ha,s1⟩;rw[cR,la,lI]at ha;refine⟨acc,_,rfl,bQ.of ha,?_⟩
  have e:(row.map (SR aP.length)).all id=yH aP.length row:=by
   unfold yH;rw[List.all_map];rfl
  rw[e];exact k H1 s1
structure Gbs(mg:Str->Option Value):Prop where
 s:∃ t,mg "MOST_SHEETS"=some (.int 40 t)
 w:∃ t,mg "MOST_WEIGHT"=some (.int 200 t)
 h:∃ t,mg "HIDDEN"=some (.str "#" t)
theorem Gb.irr{rows:dJ}(h:Gb rows){s:Int}:¬ Reach (oR rows) s s:=by
 obtain⟨rk,_,hr⟩:=h
 have key:∀ g,Reach (oR rows) s g->rk g<rk s:=by
  intro g r
  induction r with
  | one e=>exact hr _ _ e
  | step _ e ih=>exact Nat.lt_trans (hr _ _ e) ih
 exact λz=>Nat.lt_irrefl _ (key s z)
structure tG(rows:dJ)(f:Int->Int):Prop where
 len:rows.length<=100
 es:∀ es∈rows,es.length<=1000
 sd:jH rows
 rk:Gb rows
 wt:Weighs rows f
 most:∀ x:Int,0<=x->x<rows.length->f x<=200
inductive Jm(vs:List V)(H:Hp)(Q:VK)(E:XK):Prop
 | mk (r:Addr) (rows:dJ) (s:Int) (f:Int->Int) (_:vs=[.ref r,.int s]) (_:jf H r (rows.map aI)) (_:tG rows f) (_:0<=s) (_:s<rows.length) (_: ∀ H',aM H H'->Q .iZ H')
theorem pJ:aH ["rows","sheet","way","weights","number"] ["rows","sheet"] (aA qG):=iW
theorem Dm{g fW:Addr}(F:iH K "check_weave" "check_weave" qG g fd)(T:nI mg)(G:Gbs mg)(cN:aC K mg "windows" gH oS fI DT)(jv:aC K mg "below" m6 mU fB UG)(lW:aC K mg "item_weight" lO Po fW MT)(oz:aC K mg "weights_below" jD mU fV fdV)(lV:aC K mg "way_between" lN Pn fY fdY)(Nc:aC K mg "ring" HS vz fR fdR):aF P w K mg zt bI 4 g fd vz Jm:=by
 have Dn:aF P w K mg zt bI 3 fV fdV mU C5:=Ao oz.F T cN jv lW;have aaW:aF P w K mg zt bI 3 fR fdR vz Rf:=UE Nc.F T cN lV;refine jg F pJ λdH A zn s0 H vs Q E hr h=>?_;obtain⟨r,rows,s,f,rfl,hR,B,h0,h1,k⟩:=h;have hu:=kj hr;obtain⟨GG,GH⟩:=G.w;have bl:=B.len;refine⟨_,(aj (bh (i:=2) pJ.nd (aG Nc aaW hr (aa (pv 0) (aa (pv 1) ah)))) (aj (bU (FQ (Tn (pv 2))) (au nL) br) (aj (bh (i:=3) pJ.nd (aG oz Dn hr (aa (pv 0) (aa (gJ (tS rfl) rfl T.nh xX (aa (gJ zh rfl T.mR PyProof.Rows.boot_range (aa (jI T.jh (pv 0)) ah)) ah)) ah)))) (au (ie PassesOwn.never rfl (lK rfl T.mR (aa (jI T.jh (pv 0)) ah)) (cB (i:=4) pJ.nd) (au (bU (bq PM (kq hu (pv 3) (pv 4)) (Ma (v:=.int 200) rfl GH ⟨GG,rfl⟩) (bC _)) (au nL) br))))))),?_⟩;refine⟨_,rfl,_,rfl,r,s,rfl,r,rows,s,s,rfl,hR,by lia,B.es,B.sd,h0,h1,B.rk.irr,λH1 s1=>?_⟩;refine⟨_,rfl,false,rfl,jK ?_⟩;have hR1:=hR.same s1;obtain⟨vs,hr1,al⟩:=id hR1;have lv:vs.length=rows.length:=by rw[al.len,cR]
 refine⟨_,rfl,_,rfl,r,_,rfl,.inl (bQ.of hr1),_,rfl,λp1 Y3=>⟨p1,_,_,rfl,af,⟨by lia,by lia,by lia,by lia⟩,j9 (aU (by lia)),λL hL=>?_⟩⟩;rw[zc,lv,show ((rows.length:Int)-0).toNat=rows.length by lia];rw[lv]at hL;have s2:=s1.trans ((ao Y3 (.DV 0 ((rows.length:Nat):Int))).trans (ao hL (.lst ((run 0 rows.length).map V.int))));have hL2:(aO (aO H1 p1 (.DV 0 ((rows.length:Nat):Int))) L (.lst ((run 0 rows.length).map V.int))) L=some (.lst ((run 0 rows.length).map V.int)):=af;generalize aO (aO H1 p1 (.DV 0 ((rows.length:Nat):Int))) L (.lst ((run 0 rows.length).map V.int))=H2 at s2 hL2;refine⟨r,L,rows,run 0 rows.length,f,rfl,hR.same s2,hL2,by rw[MM];lia,by lia,B.es,B.sd,B.rk,(λx hx=>by have:=QW hx;lia),B.wt,λS kvs H3 hS hv s3 _=>?_⟩;have RD:=s2.trans s3;obtain⟨vs3,Oo,al3⟩:=hR.same RD;have lv3:vs3.length=rows.length:=by rw[al3.len,cR]
 refine⟨_,rfl,r,_,rfl,.inl (bQ.of Oo),_,rfl,by lia,by lia,?_⟩;refine qU (lo:=0) (n:=((vs3.length:Nat):Int).toNat) (λi σ H4=>∃ u:Option V,σ=[some (.ref r),some (.int s),some .iZ,some (.ref S),u]/\aM H H4/\H4 S=some (.dK kvs)) ⟨none,rfl,RD,hS⟩ ?_ ?_
 ·rintro i σ H4 hi ⟨u,rfl,s4,hS4⟩;have il:i<rows.length:=by lia
  have z:=ng.k (k:=Sum.inl (0+(i:Int))) hS4;rw[hv (0+(i:Int)) (by rw[show (0:Int)+(i:Int)=0+i from rfl];exact vf (F7 0 rows.length i il))]at z;refine⟨_,rfl,_,rfl,S,_,rfl,z,_,_,rfl,rfl,_,rfl,?_⟩;rw[decide_eq_false (show ¬ f (0+(i:Int)) > 200 from λy=>by have:=B.most (0+(i:Int)) (by lia) (by lia);lia)];exact jK ⟨_,rfl,s4,hS4⟩
 ·rintro σ H4 ⟨u,rfl,s4,_⟩;exact k H4 s4
structure lg(C CS:Addr)(S:Addr->Prop)(H:Hp)(x d wl sh bl kn du bk dS st op:Addr)(bP:qM)(ops:List Int)(aB:nJ):Prop where
 hx:H x=some (.ins C d [("well",.ref wl),("shelf",.ref sh),("blots",.ref bl),("knots",.ref kn),("dues",.ref du),("book",.ref bk)])
 W:Sh CS S H sh dS st op bP ops
 hb:H bk=some (qx aB)
 nx:¬ S x
 nb:¬ S bk
structure Ek(K:PySem.W.Frag)(mg:Str->Option Value)(C CS:Addr):Prop where
 M:ShM K mg CS
 c:∃ fi,ClsAt K mg "Library" C fi
 nw:cG K C "well"
 ns:cG K C "shelf"
 Hl:cG K C "blots"
 nk:cG K C "knots"
 nd:cG K C "dues"
 GI:cG K C "book"
 G:Gbs mg
def Fr(S S':Addr->Prop)(bk:Addr)(H H':Hp):Prop:=(∀ a,S' a->S a\/H a=none)/\(∀ a ob,H a=some ob->¬ S a->a≠bk->H' a=some ob)/\∀ a xs,H a=some (.tup xs)->H' a=some (.tup xs)
theorem Fr.same{S S':Addr->Prop}{bk:Addr}{H0 H H':Hp}(s:aM H0 H)(f:Fr S S' bk H H'):Fr S S' bk H0 H' :=
 ⟨λa z=>(f.1 a z).imp id λy=>aZ s y,λa ob e n1 n2=>f.2.1 a ob (s _ _ e) n1 n2,λa xs e=>f.2.2 a xs (s _ _ e)⟩
theorem lg.same{S:Addr->Prop}{H H':Hp}{x d wl sh bl du bk st:Addr}{bP:qM}{ops:List Int}{aB:nJ}(L:lg C CS S H x d wl sh bl kn du bk dS st op bP ops aB)(s:aM H H'):lg C CS S H' x d wl sh bl kn du bk dS st op bP ops aB :=
 ⟨s _ _ L.hx,L.W.same s,s _ _ L.hb,L.nx,L.nb⟩
theorem lg.neb{S:Addr->Prop}{H:Hp}{x d wl sh bl du bk st:Addr}{bP:qM}{ops:List Int}{aB:nJ}(L:lg C CS S H x d wl sh bl kn du bk dS st op bP ops aB):x≠bk:=λe=>by
 have z:=L.hx;rw[e,L.hb]at z;cases z
inductive GJ(C CS:Addr)(vs:List V)(H:Hp)(Q:VK)(E:XK):Prop
 | mk (S:Addr->Prop) (x d wl sh bl kn du bk dS st op:Addr) (bP:qM) (ops:List Int) (aB:nJ) (_:vs=[.ref x]) (_:lg C CS S H x d wl sh bl kn du bk dS st op bP ops aB) (_:Q (.int (ops.length:Nat)) H)
inductive GK(C CS:Addr)(vs:List V)(H:Hp)(Q:VK)(E:XK):Prop
 | mk (S:Addr->Prop) (x d wl sh bl kn du bk dS st op:Addr) (bP:qM) (ops:List Int) (aB:nJ) (dd c:Addr) (e:oN) (cs:List Addr) (vo:List (Nat × List aV)) (last:List (List aV)) (_:vs=[.ref x,.ref dd,.ref c]) (_:lg C CS S H x d wl sh bl kn du bk dS st op bP ops aB) (_:e.At H dd) (_:e.Ok) (_:H c=some (.lst (cs.map V.ref))) (_:c≠bk) (_:cE (LG H) cs vo) (_:(∀ a∈cs,∀ (s:Int) (r:Addr),H a=some (.tup [.int s,.ref r])->r≠bk)) (_:bP.getLast?=some last) (_:Yl last vo) (_:vo.length<=200) (_:last.length<=500) (_:bP.length<=1000) (_:aB.length<=1000) (_ :
 ∀ (S':Addr->Prop) (H':Hp),lg C CS S' H' x d wl sh bl kn du bk dS st op (bP++[uV last vo]) (ops++List.replicate ((uV last vo).length-last.length) ((bP.length:Nat):Int)) (aB++[e.line])->Fr S S' bk H H'->Q .iZ H')
theorem BC:aH ["self","deed","changes"] ["self","deed","changes"] (aA cC):=iW
theorem Dp:aH ["self"] ["self"] (aA j6):=iW
theorem vp{f:Addr}(F:iH K "many" "Library.many" j6 f fd)(L:Ek K mg C CS)(kZ:bN K CS "many" "Shelf.many" nB ki fM gM):aF P w K mg zt bI 2 f fd ki (GJ C CS):=by
 obtain⟨M,⟨fi,aJ⟩,nw,ns,Hl,nk,nd,GI,G⟩:=L;obtain⟨T,⟨fj,bT⟩,n1,n2⟩:=M;have v8:aF P w K mg zt bI 1 _ _ ki (LF CS):=xR kZ.F T bT.cl n1;refine jg F Dp λdH A zn s H vs Q E hr h=>?_;obtain⟨S,x,d,wl,sh,bl,kn,du,bk,dS,st,op,bP,ops,aB,rfl,L,k⟩:=h;refine⟨_,(au (aN (iD (eG (pv 0) rfl) bT kZ v8 hr ck))),?_⟩;exact⟨_,rfl,x,C,d,_,.ref sh,rfl,L.hx,aJ.cl,ns,rfl,sh,dS,_,rfl,L.W.hx,rfl,S,sh,dS,st,op,bP,ops,rfl,L.W,k⟩
theorem uz{f:Addr}{gN:FuncData}(F:iH K "enter" "Library.enter" cC f fd)(L:Ek K mg C CS)(kY:aC K mg "ink_words" m7 iP fI gI)(tH:aC K mg "shown_deed" pV ["deed"] fD gD)(jZ:aC K mg "changed" uh Nz fC gC)(dZ:bN K CS "now" "Shelf.now" jQ ki fN gN)(tK:bN K CS "step" "Shelf.step" pW zl2 fT gT):aF P w K mg zt bI 3 f fd Ka (GK C CS):=by
 obtain⟨M,⟨fi,aJ⟩,nw,ns,Hl,nk,nd,GI,G⟩:=L;obtain⟨T,⟨fj,bT⟩,n1,n2⟩:=M;have Jo:aF P w K mg zt bI 2 _ _ ["deed"] Jd:=Eh tH.F T kY;have Jp:aF P w K mg zt bI 2 _ _ zl2 (Jh CS):=Ei tK.F T bT n1 n2 jZ dZ;refine jg F BC λdH A zn s H vs Q E hr h=>?_;obtain⟨S,x,d,wl,sh,bl,kn,du,bk,dS,st,op,bP,ops,aB,dd,c,e,cs,vo,last,rfl,L,de,ok,hc,ncb,al,nr,hl,oc,l1,l2,l3,l4,k⟩:=h;refine⟨_,(aj (bu (iu wG qZ rf cH (eG (pv 0) rfl) (aa (aG tH Jo hr (aa (pv 1) ah)) ah))) (au (bu (iy (eG (pv 0) rfl) bT tK Jp hr ck (aa (pv 2) ah))))),?_⟩;refine⟨_,rfl,x,C,d,_,.ref bk,rfl,L.hx,aJ.cl,GI,rfl,.inl ⟨rfl,_,bQ.of L.hb⟩,_,rfl,dd,e,rfl,de,ok,LA ok,λH1 s1=>?_⟩;refine⟨bk,_,_,rfl,rfl,s1 _ _ L.hb,aU (by rw[cR];lia),?_⟩;have e2:(aB.map λw=>V.str (iU w))++[V.str (iU e.line)]=(aB++[e.line]).map λw=>V.str (iU w):=by rw[j5];rfl
 rw[e2]
 have k2:cT bk H (aO H1 bk (qx (aB++[e.line]))):=λa o q n=>by
  rw[aK n];exact s1 _ _ q
 have Yh:(aO H1 bk (qx (aB++[e.line]))) bk=some (qx (aB++[e.line])):=af
 have fr2:∀ a,(aO H1 bk (qx (aB++[e.line]))) a=none->H a=none:=λa q=>by
  by_cases z:a=bk
  ·rw[z,af]at q;cases q
  ·rw[aK z]at q;exact aZ s1 q
 generalize aO H1 bk (qx (aB++[e.line]))=H2 at k2 Yh fr2;have t2:∀ a xs,H a=some (.tup xs)->H2 a=some (.tup xs):=λa xs q=>k2 _ _ q (eS q L.hb);have W2:Sh CS S H2 sh dS st op bP ops:=L.W.keep L.hb L.nb k2;have x2:=k2 _ _ L.hx L.neb;refine⟨_,rfl,x,C,d,_,.ref sh,rfl,x2,aJ.cl,ns,rfl,sh,dS,_,rfl,W2.hx,rfl,_,rfl,S,sh,dS,st,op,c,bP,ops,cs,vo,last,rfl,W2,k2 _ _ hc ncb,?_,hl,oc,l1,l2,l3,λS' H3 W3 sub fr tp=>?_⟩
 ·have key:∀ {as:List Addr} {ds:List (Nat × List aV)},cE (LG H) as ds->(∀ a∈as,a∈cs)->cE (LG H2) as ds:=by
   intro as ds q
   induction q with
   | nil=>intro _;exact .nil
   | cons o t ih =>
    intro sub;refine .cons ?_ (ih λa ha=>sub a (sH _ ha));obtain⟨r,ha,it⟩:=o;have nrb:=nr _ (sub _ yR) _ r ha;exact⟨r,t2 _ _ ha,it.fr (λxs q=>k2 _ _ q nrb) t2⟩
  exact key al λ_ z=>z
 ·refine k S' H3 ⟨fr _ _ x2 L.nx,W3,fr _ _ Yh L.nb,λz=>?_,λz=>?_⟩ ⟨λa z=>(sub a z).imp id λq=>fr2 a q,λa ob q n n'=>fr _ _ (k2 _ _ q n') n,λa xs q=>tp _ _ (t2 _ _ q)⟩
  ·rcases sub _ z with q|q
   ·exact L.nx q
   ·rw[x2]at q;cases q
  ·rcases sub _ z with q|q
   ·exact L.nb q
   ·rw[Yh]at q;cases q
abbrev qh(pe:nG):qM:=pe.map λrows=>rows.map aI
def mJ(rows:dJ)(s:Nat)(es:List Int):dJ:=rows.take s++[es]++rows.drop (s+1)
theorem UY(rows:dJ)(s:Nat)(es:List Int):uV (rows.map aI) [(s,aI es)]=(mJ rows s es).map aI:=by
 show (rows.map aI).take s++[aI es]++(rows.map aI).drop (s+1)=_;unfold mJ;rw[j5,j5,List.map_take,List.map_drop];rfl
theorem Jq{rows:dJ}{s:Nat}{es:List Int}(h:s<=rows.length):(mJ rows s es).length=if s=rows.length then rows.length+1 else rows.length:=by
 unfold mJ;rw[dM,dM,jV,xq];show min s rows.length+1+_=_
 split <;> lia
def RH(ops:List Int)(n s m:Nat):List Int:=ops++if s=n then [(m:Int)] else []
theorem Yo{rows:dJ}{s:Nat}{es:List Int}{ops:List Int}{m:Nat}(h:s<=rows.length):ops++List.replicate (((mJ rows s es).map aI).length-(rows.map aI).length) (m:Int)=RH ops rows.length s m:=by
 rw[cR,cR,Jq h];unfold RH;by_cases c:s=rows.length
 ·rw[if_pos c,if_pos c,show rows.length+1-rows.length=1 by lia];rfl
 ·rw[if_neg c,if_neg c,Nat.sub_self];rfl
inductive qj(C CS:Addr)(vs:List V)(H:Hp)(Q:VK)(E:XK):Prop
 | mk (S:Addr->Prop) (x d wl sh bl kn du bk dS st op:Addr) (pe:nG) (ops:List Int) (aB:nJ) (dd r:Addr) (e:oN) (s:Nat) (es:List Int) (rows:dJ) (f:Int->Int) (_:vs=[.ref x,.ref dd,.int (s:Nat),.ref r]) (_:lg C CS S H x d wl sh bl kn du bk dS st op (qh pe) ops aB) (_:e.At H dd) (_:e.Ok) (_:bR H (.ref r) (aI es)) (_:r≠bk) (_:pe.getLast?=some rows) (_:s<=rows.length) (_:rows.length<=50) (_:pe.length<=900) (_:aB.length<=900) (_:tG (mJ rows s es) f) (_ :
 ∀ (S':Addr->Prop) (H':Hp),lg C CS S' H' x d wl sh bl kn du bk dS st op (qh (pe++[mJ rows s es])) (RH ops rows.length s pe.length) (aB++[e.line])->Fr S S' bk H H'->Q .iZ H')
theorem AH:aH ["self","deed","sheet","items"] ["self","deed","sheet","items"] (aA cU):=iW
structure Ho(K:PySem.W.Frag)(mg:Str->Option Value)(CS:Addr):Prop where
 many:∃ f g,bN K CS "many" "Shelf.many" nB ki f g
 now:∃ f g,bN K CS "now" "Shelf.now" jQ ki f g
 cs:∃ f g,bN K CS "check_sheet" "Shelf.check_sheet" jR Hq f g
 cm:∃ f g,bN K CS "check_moment" "Shelf.check_moment" ff S0 f g
 rst:∃ f g,bN K CS "rows_then" "Shelf.rows_then" iQ S0 f g
 rs:∃ f g,bN K CS "rows" "Shelf.rows" sS ki f g
 stp:∃ f g,bN K CS "step" "Shelf.step" pW zl2 f g
structure LI(K:PySem.W.Frag)(mg:Str->Option Value):Prop where
 win:∃ f g,aC K mg "windows" gH oS f g
 bel:∃ f g,aC K mg "below" m6 mU f g
 iw:∃ f g,aC K mg "item_weight" lO Po f g
 wb:∃ f g,aC K mg "weights_below" jD mU f g
 wy:∃ f g,aC K mg "way_between" lN Pn f g
 rg:∃ f g,aC K mg "ring" HS vz f g
 cw:∃ f g,aC K mg "check_weave" qG vz f g
 ch:∃ f g,aC K mg "changed" uh Nz f g
 ik:∃ f g,aC K mg "ink_words" m7 iP f g
 sd:∃ f g,aC K mg "shown_deed" pV ["deed"] f g
theorem iz{pe:nG}{rows:dJ}(h:pe.getLast?=some rows):(qh pe).getLast?=some (rows.map aI):=by
 rw[List.getLast?_map,h];rfl
theorem RI{H H':Hp}{rs:List Addr}{rows:List (List aV)}{r:Addr}{aQ:List aV}{s:Nat}(al:cE (λq i=>bR H' (.ref q) i) rs rows)(it:bR H' (.ref r) aQ):cE (bR H') ((rs.map V.ref).take s++[.ref r]++(rs.map V.ref).drop (s+1)) (rows.take s++[aQ]++rows.drop (s+1)):=by
 have key:cE (bR H') (rs.map V.ref) rows:=by
  induction al with
  | nil=>exact .nil
  | cons o t ih=>exact .cons o ih
 exact ((key.take s).app (.cons it .nil)).app (key.drop (s+1))
theorem eX{f:Addr}(F:iH K "change" "Library.change" cU f fd)(L:Ek K mg C CS)(A1:Ho K mg CS)(A2:LI K mg)(aT:bN K C "enter" "Library.enter" cC Ka fE gE):aF P w K mg zt bI 5 f fd J3 (qj C CS):=by
 obtain⟨⟨_,_,d1⟩,⟨_,_,d2⟩,⟨_,_,d3⟩,⟨_,_,d4⟩,⟨_,_,d7⟩,⟨_,_,bJ⟩,⟨_,_,d9⟩⟩:=A1;obtain⟨⟨_,_,w1⟩,⟨_,_,w2⟩,⟨_,_,w3⟩,⟨_,_,w4⟩,⟨_,_,w5⟩,⟨_,_,w6⟩,⟨_,_,qO⟩,⟨_,_,jZ⟩,⟨_,_,w9⟩,⟨_,_,w10⟩⟩:=A2;have sj:aF P w K mg zt bI 3 _ _ Ka (GK C CS):=uz aT.F L w9 w10 jZ d2 d9;obtain⟨M,⟨fi,aJ⟩,nw,ns,Hl,nk,nd,GI,G⟩:=L;have cS:aF P w K mg zt bI 4 _ _ ki (tY CS):=gY bJ.F M d2 d4 d7;obtain⟨T,⟨fj,bT⟩,n1,n2⟩:=M;have Dk:aF P w K mg zt bI 1 _ _ Nz Az:=Di jZ.F T;have GL:aF P w K mg zt bI 4 _ _ vz Jm:=Dm qO.F T G w1 w2 w3 w4 w5 w6;refine jg F AH λdH A zn s H vs Q E hr h=>?_;obtain⟨S,x,d,wl,sh,bl,kn,du,bk,dS,st,op,pe,ops,aB,dd,r,e,s,es,rows,f,rfl,L,de,ok,hi,nrb,hl,sl,l1,l2,l3,B,k⟩:=h;have hl':=iz hl;have lp:(qh pe).length=pe.length:=cR _
 have lo:ops.length=rows.length:=by
  obtain⟨last,z1,z2⟩:=L.W.SN.Fv;rw[hl']at z1;cases z1;rw[z2,cR]
 refine⟨_,(aj (bu (aG qO GL hr (aa (aG jZ Dk hr (aa (iD (eG (pv 0) rfl) bT bJ cS hr ck) (aa (pv 2) (aa (pv 3) ah)))) (aa (pv 2) ah)))) (au (bu (iy (pv 0) aJ aT sj hr ck (aa (pv 1) (aa (bO (aa (dX (aa (pv 2) (aa (pv 3) ah))) ah)) ah)))))),?_⟩;refine⟨_,rfl,x,C,d,_,.ref sh,rfl,L.hx,aJ.cl,ns,rfl,sh,dS,_,rfl,L.W.hx,rfl,S,sh,dS,st,op,qh pe,ops,rfl,L.W,⟨by lia,by lia⟩,λVZ el q H1 fs s1=>?_⟩;rw[hl']at el;cases el;obtain⟨fq,rs,hq,al⟩:=fs;have lr:rs.length=rows.length:=by rw[al.len,cR]
 have hi1:=hi.same s1;have L1:=L.same s1;refine⟨_,rfl,_,rfl,q,r,_,s,rfl,hq,by rw[cR,lr];exact sl,by rw[cR,lr];lia,λp2 H2 VH s2 f2=>?_⟩
 refine⟨_,rfl,p2,mJ rows s es,(s:Int),f,rfl,⟨_,VH,?_⟩,B,by lia,by rw[Jq sl];split <;> lia,λH3 s3=>?_⟩
 ·have z:=RI (H:=H) (H':=H2) (s:=s) (al.mono λq' i' w'=>(w'.2.2).same s2) (hi1.same s2)
  have e':(rows.map aI).take s++[aI es]++(rows.map aI).drop (s+1)=(mJ rows s es).map aI:=by
   unfold mJ;rw[j5,j5,List.map_take,List.map_drop];rfl
  rw[e']at z;exact z
 have zP:=s1.trans (s2.trans s3);have L3:=L.same zP;refine⟨_,rfl,x,d,_,rfl,L3.hx,rfl,_,rfl,_,rfl,_,rfl,vW,λt ht=>⟨qv,λc hc=>?_⟩⟩;have s4:aM H3 (aO (aO H3 t (.tup [.int (s:Nat),.ref r])) c (.lst [.ref t])):=(ao ht _).trans (ao hc _);have ht4:(aO (aO H3 t (.tup [.int (s:Nat),.ref r])) c (.lst [.ref t])) t=some (.tup [.int (s:Nat),.ref r]):=ao hc _ _ _ af;have hc4:(aO (aO H3 t (.tup [.int (s:Nat),.ref r])) c (.lst [.ref t])) c=some (.lst ([t].map V.ref)):=af
 have nc:c≠bk:=λz=>by
  have:=ao ht (.tup [.int (s:Nat),.ref r]) _ _ L3.hb;rw[← z,hc]at this;cases this
 generalize aO (aO H3 t (.tup [.int (s:Nat),.ref r])) c (.lst [.ref t])=H4 at s4 ht4 hc4;have OT:=zP.trans s4;refine⟨S,x,d,wl,sh,bl,kn,du,bk,dS,st,op,qh pe,ops,aB,dd,c,e,[t],[(s,aI es)],rows.map aI,rfl,L.same OT,de.same OT,ok,hc4,nc,.cons ⟨r,ht4,hi.same OT⟩ .nil,?_,hl',?_,(by show 1<=200;decide),by rw[cR];lia,by lia,by lia,λS' H' L' fr=>?_⟩
 ·intro a ha s' r' e';rw[List.mem_singleton.mp ha,ht4]at e';cases e';exact nrb
 ·intro i ch ei
  match i,ei with
  | 0,ei =>
   cases ei;show s<=(rows.map aI).length;rw[cR];exact sl
  | i+1,ei=>cases ei
 ·rw[UY,Yo sl,lp]at L';refine k S' H' ?_ (fr.same OT)
  have ep:qh (pe++[mJ rows s es])=qh pe++[(mJ rows s es).map aI]:=by
   show (pe++[mJ rows s es]).map _=_;rw[j5];rfl
  rw[ep];exact L'
inductive Nf(C CS:Addr)(vs:List V)(H:Hp)(Q:VK)(E:XK):Prop
 | mk (S:Addr->Prop) (x d wl sh bl kn du bk dS st op:Addr) (pe:nG) (ops:List Int) (aB:nJ) (dd r:Addr) (e:oN) (es:List Int) (rows:dJ) (_:vs=[.ref x,.ref dd,.ref r]) (_:lg C CS S H x d wl sh bl kn du bk dS st op (qh pe) ops aB) (_:e.At H dd) (_:e.Ok) (_:bR H (.ref r) (aI es)) (_:r≠bk) (_:pe.getLast?=some rows) (_:rows.length<=50) (_:pe.length<=900) (_:aB.length<=900) (_:rows.length<40) (_:((∃ f,tG (rows++[es]) f)/\∀ (S':Addr->Prop) (H':Hp),lg C CS S' H' x d wl sh bl kn du bk dS st op (qh (pe++[rows++[es]])) (ops++[((pe.length:Nat):Int)]) (aB++[e.line])->Fr S S' bk H H'->Q (.int (rows.length:Nat)) H'))
theorem vq:aH ["self","deed","items","sheet"] ["self","deed","items"] (aA nX):=iW
theorem Jr(rows:dJ)(es:List Int):mJ rows rows.length es=rows++[es]:=by
 unfold mJ;rw[lI,B4 (by lia),jo]
structure LbF(K:PySem.W.Frag)(mg:Str->Option Value)(C:Addr):Prop where
 en:∃ f g,bN K C "enter" "Library.enter" cC Ka f g
 ch:∃ f g,bN K C "change" "Library.change" cU J3 f g
 many:∃ f g,bN K C "many" "Library.many" j6 ki f g
 bg:∃ f g,bN K C "begin" "Library.begin" nX zl6 f g
theorem qP{S:Addr->Prop}{H:Hp}{x d wl sh bl du bk st:Addr}{pe:nG}{ops:List Int}{aB:nJ}{rows:dJ}(L:lg C CS S H x d wl sh bl kn du bk dS st op (qh pe) ops aB)(hl:pe.getLast?=some rows):ops.length=rows.length:=by
 obtain⟨last,z1,z2⟩:=L.W.SN.Fv;rw[iz hl]at z1;cases z1;rw[z2,cR]
theorem AI{f:Addr}(F:iH K "begin" "Library.begin" nX f fd)(L:Ek K mg C CS)(A1:Ho K mg CS)(A2:LI K mg)(A3:LbF K mg C):aF P w K mg zt bI 6 f fd zl6 (Nf C CS):=by
 obtain⟨⟨_,_,e1⟩,⟨_,_,aR⟩,⟨_,_,eN⟩,_⟩:=A3;have cI:aF P w K mg zt bI 5 _ _ J3 (qj C CS):=eX aR.F L A1 A2 e1;obtain⟨⟨_,_,d1⟩,_⟩:=A1;have tZ:aF P w K mg zt bI 2 _ _ ki (GJ C CS):=vp eN.F L d1;obtain⟨M,⟨fi,aJ⟩,nw,ns,Hl,nk,nd,GI,G⟩:=L;obtain⟨GN,GO⟩:=G.s;refine jg F vq λdH A zn s H vs Q E hr h=>?_;obtain⟨S,x,d,wl,sh,bl,kn,du,bk,dS,st,op,pe,ops,aB,dd,r,e,es,rows,rfl,L,de,ok,hi,nrb,hl,l1,l2,l3,lt,k2⟩:=h;have lo:=qP L hl;refine⟨_,(aj (bh (i:=3) vq.nd (iD (pv 0) aJ eN tZ hr ck)) (aj (bU (bq PN (pv 3) (Ma (v:=.int 40) rfl GO ⟨GN,rfl⟩) (bC _)) (au nL) br) (aj (bu (iy (pv 0) aJ aR cI hr ck (aa (pv 1) (aa (pv 3) (aa (pv 2) ah))))) (au (aN (pv 3)))))),?_⟩;refine⟨_,rfl,x,d,_,rfl,L.hx,rfl,S,x,d,wl,sh,bl,kn,du,bk,dS,st,op,qh pe,ops,aB,rfl,L,?_⟩;rw[lo];refine⟨_,rfl,_,_,rfl,rfl,_,rfl,dN (λc=>?_) (λc=>?_)⟩
 ·exact absurd (of_decide_eq_true c) (by lia)
 ·obtain⟨⟨f,B⟩,k3⟩:=k2;refine⟨_,rfl,x,d,_,rfl,L.hx,rfl,_,rfl,_,rfl,_,rfl,S,x,d,wl,sh,bl,kn,du,bk,dS,st,op,pe,ops,aB,dd,r,e,rows.length,es,rows,f,rfl,L,de,ok,hi,nrb,hl,ja _,l1,l2,l3,by rw[Jr];exact B,λS' H' L' fr=>?_⟩;rw[Jr]at L';have eo:RH ops rows.length rows.length pe.length=ops++[((pe.length:Nat):Int)]:=by unfold RH;rw[if_pos rfl]
  rw[eo]at L';exact⟨_,rfl,k3 S' H' L' fr⟩
abbrev frW:List Nat:=(Str.ofString "fresh").cps.toList
theorem RJ:(oN.plain frW []).Ok:=⟨by decide +kernel,λ_ z=>by cases z⟩
inductive Ng(C CS:Addr)(vs:List V)(H:Hp)(Q:VK)(E:XK):Prop
 | mk (S:Addr->Prop) (x d wl sh bl kn du bk dS st op:Addr) (pe:nG) (ops:List Int) (aB:nJ) (rows:dJ) (_:vs=[.ref x]) (_:lg C CS S H x d wl sh bl kn du bk dS st op (qh pe) ops aB) (_:pe.getLast?=some rows) (_:rows.length<=50) (_:pe.length<=900) (_:aB.length<=900) (_:rows.length<40) (_:((∃ f,tG (rows++[[]]) f)/\∀ (S':Addr->Prop) (H':Hp),lg C CS S' H' x d wl sh bl kn du bk dS st op (qh (pe++[rows++[[]]])) (ops++[((pe.length:Nat):Int)]) (aB++[(oN.plain frW []).line])->Fr S S' bk H H'->Q (.int (rows.length:Nat)) H'))
theorem BD:aH ["self"] ["self"] (aA jE):=iW
theorem AJ{f:Addr}(F:iH K "fresh" "Library.fresh" jE f fd)(L:Ek K mg C CS)(A1:Ho K mg CS)(A2:LI K mg)(A3:LbF K mg C):aF P w K mg zt bI 7 f fd ki (Ng C CS):=by
 obtain⟨_,_,oA⟩:=A3.bg;have Dq:aF P w K mg zt bI 6 _ _ zl6 (Nf C CS):=AI oA.F L A1 A2 A3;obtain⟨M,⟨fi,aJ⟩,nw,ns,Hl,nk,nd,GI,G⟩:=L;refine jg F BD λdH A zn s H vs Q E hr h=>?_;obtain⟨S,x,d,wl,sh,bl,kn,du,bk,dS,st,op,pe,ops,aB,rows,rfl,L,hl,l1,l2,l3,lt,k2⟩:=h;refine⟨_,(au (aN (iy (pv 0) aJ oA Dq hr ck (aa (dX (aa bK ah)) (aa (bO ah) ah))))),?_⟩;refine⟨_,rfl,x,d,_,rfl,L.hx,rfl,qv,λt ht=>⟨mF,λr Ba=>?_⟩⟩;have s1:aM H (aO (aO H t (.tup [.str "fresh"])) r (.lst [])):=(ao ht _).trans (ao Ba _);have ht1:(aO (aO H t (.tup [.str "fresh"])) r (.lst [])) t=some (.tup [.str "fresh"]):=ao Ba _ _ _ af;have hr1:(aO (aO H t (.tup [.str "fresh"])) r (.lst [])) r=some (.lst []):=af
 have nr:r≠bk:=λz=>by
  have:=ao ht (.tup [.str "fresh"]) _ _ L.hb;rw[← z,Ba]at this;cases this
 generalize aO (aO H t (.tup [.str "fresh"])) r (.lst [])=H1 at s1 ht1 hr1;refine⟨S,x,d,wl,sh,bl,kn,du,bk,dS,st,op,pe,ops,aB,t,r,.plain frW [],[],rows,rfl,L.same s1,by show H1 t=_;rw[ht1,yr];rfl,RJ,⟨r,[],rfl,hr1,.nil⟩,nr,hl,l1,l2,l3,lt,?_⟩;obtain⟨B,k3⟩:=k2;exact⟨B,λS' H' L' fr=>k3 S' H' L' (fr.same s1)⟩
theorem qY{H H1:Hp}{dw:Addr}{o:HO}(h1:H xw=none)(h2:H dw=none)(k:cT xw (aO (aO H dw (.own xw)) xw o) H1):aM H H1:=λa ob e=>k a ob (by rw[aK (az e h1),aK (az e h2)];exact e) (az e h1)
theorem Sh.qm{S:Addr->Prop}{H H':Hp}{x d st l:Addr}{bP:qM}{ops:List Int}{fs:List (Str × V)}(h:Sh C S H x d st op bP ops)(hl:H l=some (.ins C' d' fs))(nl:¬ S l)(k:cT l H H'):Sh C S H' x d st op bP ops :=
 h.fr (λa ob e z=>k a ob e (λq=>nl (by rw[← q];exact z))) (λa xs e=>k _ _ e (eS e hl))
structure Yp(K:PySem.W.Frag)(mg:Str->Option Value)(fS fZ:Addr):Prop where
 win:∃ f g,aC K mg "windows" gH oS f g
 bel:∃ f g,aC K mg "below" m6 mU f g
 ir:∃ f g,aC K mg "item_row" iA yP f g
 pl:∃ f g,aC K mg "plain" mZ iP f g
 vb:∃ f g,aC K mg "views_below" eU mU f g
 sh:∃ g,aC K mg "shown" yi vz fS g
 sz:∃ g,aC K mg "size" sQ iP fZ g
structure Seen(rows:dJ)(sh:Int->List Int):Prop where
 es:∀ es∈rows,es.length<=1000
 sd:jH rows
 rk:Gb rows
 ss:rT rows sh
 ln:∀ x:Int,0<=x->x<rows.length->(sh x).length<=10000
inductive Dr(C CS:Addr)(vs:List V)(H:Hp)(Q:VK)(E:XK):Prop
 | mk (S:Addr->Prop) (x d wl sh bl kn du bk dS st op:Addr) (pe:nG) (ops:List Int) (aB:nJ) (rows:dJ) (s:Int) (_:vs=[.ref x,.int s]) (_:lg C CS S H x d wl sh bl kn du bk dS st op (qh pe) ops aB) (_:pe.getLast?=some rows) (_:rows.length<=50) (_:pe.length<=900) (_:yN rows.length s) (_:(∃ f,Seen rows f/\∀ (o:Addr) (H':Hp),cM H' o (cV (f s))->aM H H'->H o=none->Q (.ref o) H'))
theorem BE:aH ["self","sheet"] ["self","sheet"] (aA jF):=iW
theorem uA{f fS:Addr}(F:iH K "shown" "Library.shown" jF f fd)(L:Ek K mg C CS)(A1:Ho K mg CS)(A4:Yp K mg fS fZ):aF P w K mg zt bI 5 f fd Hq (Dr C CS):=by
 obtain⟨⟨_,_,d1⟩,⟨_,_,d2⟩,⟨_,_,bf⟩,⟨_,_,d4⟩,⟨_,_,d7⟩,⟨_,_,bJ⟩,_⟩:=A1;obtain⟨⟨_,_,w1⟩,⟨_,_,w2⟩,⟨_,_,w3⟩,⟨_,_,w4⟩,⟨_,_,w5⟩,⟨_,ny⟩,_⟩:=A4;obtain⟨M,⟨fi,aJ⟩,nw,ns,Hl,nk,nd,GI,G⟩:=L;have cS:aF P w K mg zt bI 4 _ _ ki (tY CS):=gY bJ.F M d2 d4 d7;have b9:aF P w K mg zt bI 2 _ _ Hq (o6 CS):=ef bf.F M d1;obtain⟨T,⟨fj,bT⟩,n1,n2⟩:=M;have Lz:aF P w K mg zt bI 4 _ _ vz Gs:=IS ny.F T w1 w2 w3 w4 w5;refine jg F BE λdH A zn s H vs Q E hr h=>?_;obtain⟨S,x,d,wl,sh,bl,kn,du,bk,dS,st,op,pe,ops,aB,rows,s,rfl,L,hl,l1,l2,ia,k2⟩:=h;have lo:=qP L hl;have lp:(qh pe).length=pe.length:=cR _;have hl':=iz hl;refine⟨_,(aj (bu (iy (eG (pv 0) rfl) bT bf b9 hr ck (aa (pv 1) ah))) (au (aN (iV.wU ny (T.vX _ ny.m) Lz hr (aa (iD (eG (pv 0) rfl) bT bJ cS hr ck) (aa (pv 1) ah)))))),?_⟩;refine⟨_,rfl,x,C,d,_,.ref sh,rfl,L.hx,aJ.cl,ns,rfl,sh,dS,_,rfl,L.W.hx,rfl,_,rfl,S,sh,dS,st,op,qh pe,ops,s,rfl,L.W,by rw[lo];exact ia,?_⟩;obtain⟨f0,sn,k3⟩:=k2;refine⟨_,rfl,x,C,d,_,.ref sh,rfl,L.hx,aJ.cl,ns,rfl,sh,dS,_,rfl,L.W.hx,rfl,S,sh,dS,st,op,qh pe,ops,rfl,L.W,⟨by lia,by lia⟩,λVZ el q H1 UZ s1=>?_⟩;rw[hl']at el;cases el;obtain⟨fq,rs,hq,al⟩:=UZ
 have hR:jf H1 q (rows.map aI):=by
  refine⟨rs.map V.ref,hq,?_⟩
  have key:∀ {as:List Addr} {ds:List (List aV)},cE (λr aQ=>H r=none/\r≠q/\bR H1 (.ref r) aQ) as ds->cE (bR H1) (as.map V.ref) ds:=by
   intro as ds z
   induction z with
   | nil=>exact .nil
   | cons o t ih=>exact .cons o.2.2 ih
  exact key al
 exact⟨_,rfl,q,rows,s,f0,rfl,hR,by lia,sn.es,sn.sd,sn.rk,ia.1,ia.2,sn.ss,sn.ln,λo H2 ho s2 fo=>k3 o H2 ho (s1.trans s2) (aZ s1 fo)⟩
theorem lg.fr{S:Addr->Prop}{H H':Hp}{x d wl sh bl du bk st:Addr}{bP:qM}{ops:List Int}{aB:nJ}(L:lg C CS S H x d wl sh bl kn du bk dS st op bP ops aB)(k:∀ a ob,H a=some ob->(S a\/a=bk\/a=x)->H' a=some ob)(t:∀ a xs,H a=some (.tup xs)->H' a=some (.tup xs)):lg C CS S H' x d wl sh bl kn du bk dS st op bP ops aB :=
 ⟨k _ _ L.hx (.inr (.inr rfl)),L.W.fr (λa ob e z=>k a ob e (.inl z)) t,k _ _ L.hb (.inr (.inl rfl)),L.nx,L.nb⟩
structure El(C CS CW CB:Addr)(U S SW:Addr->Prop)(H:Hp)(x d wl sh bl kn du bk dS st op dw sg ow pw db tb:Addr)(pe:nG)(ops:List Int)(aB:nJ)(aP:mj)(nW:Nat)(cj:Row):Prop where
 L:lg C CS S H x d wl sh bl kn du bk dS st op (qh pe) ops aB
 W:We CW SW H wl dw sg ow pw nW aP
 B:Bl CB H bl db tb
 R:cM H tb cj
 Yq:Ris cj
 dj:∀ a,SW a->¬ S a/\a≠bk/\a≠x
 db:¬ S bl/\¬ SW bl/\bl≠bk
 dt:¬ S tb/\¬ SW tb/\tb≠bk
 u:∀ a,U a↔S a\/SW a\/a=bk\/a=x\/a=bl\/a=tb
inductive xS(C CS CW CB:Addr)(U:Addr->Prop)(H:Hp)(x:Addr)(pe:nG)(aB:nJ)(aP:mj)(nW:Nat)(cj:Row):Prop
 | mk (S SW:Addr->Prop) (d wl sh bl kn du bk dS st op dw sg ow pw db tb:Addr) (ops:List Int) (_:El C CS CW CB U S SW H x d wl sh bl kn du bk dS st op dw sg ow pw db tb pe ops aB aP nW cj)
def Nh(U U':Addr->Prop)(H H':Hp):Prop:=(∀ a,U' a->U a\/H a=none)/\(∀ a ob,H a=some ob->¬ U a->H' a=some ob)/\∀ a xs,H a=some (.tup xs)->H' a=some (.tup xs)
theorem Nh.pre{U U':Addr->Prop}{H0 H H':Hp}(s:aM H0 H)(f:Nh U U' H H'):Nh U U' H0 H':=⟨λa z=>(f.1 a z).imp id λy=>aZ s y,λa ob e n=>f.2.1 a ob (s _ _ e) n,λa xs e=>f.2.2 a xs (s _ _ e)⟩
theorem El.fr{U S SW:Addr->Prop}{H H':Hp}{x d wl sh bl du bk st dw pw db:Addr}{pe:nG}{ops:List Int}{aB:nJ}{aP:mj}{nW:Nat}{cj:Row}(h:El C CS CW CB U S SW H x d wl sh bl kn du bk dS st op dw sg ow pw db tb pe ops aB aP nW cj)(k:∀ a ob,H a=some ob->U a->H' a=some ob)(t:∀ a xs,H a=some (.tup xs)->H' a=some (.tup xs)):El C CS CW CB U S SW H' x d wl sh bl kn du bk dS st op dw sg ow pw db tb pe ops aB aP nW cj:=by
 obtain⟨L,W,B,R,Yq,dj,db',dt,u⟩:=h;refine⟨L.fr (λa ob e z=>k a ob e ((u a).mpr ?_)) t,W.fr (λa ob e z=>k a ob e ((u a).mpr (.inr (.inl z)))) t,k _ _ B ((u _).mpr (.inr (.inr (.inr (.inr (.inl rfl)))))),R.two (λxs e=>k _ _ e ((u _).mpr (.inr (.inr (.inr (.inr (.inr rfl))))))) t,Yq,dj,db',dt,u⟩;rcases z with z|z|z
 ·exact .inl z
 ·exact .inr (.inr (.inl z))
 ·exact .inr (.inr (.inr (.inl z)))
theorem El.same{U S SW:Addr->Prop}{H H':Hp}{x d wl sh bl du bk st dw pw db:Addr}{pe:nG}{ops:List Int}{aB:nJ}{aP:mj}{nW:Nat}{cj:Row}(h:El C CS CW CB U S SW H x d wl sh bl kn du bk dS st op dw sg ow pw db tb pe ops aB aP nW cj)(s:aM H H'):El C CS CW CB U S SW H' x d wl sh bl kn du bk dS st op dw sg ow pw db tb pe ops aB aP nW cj:=h.fr (λa ob e _=>s a ob e) λa xs e=>s _ _ e
theorem xS.fr{U:Addr->Prop}{H H':Hp}{x:Addr}{pe:nG}{aB:nJ}{aP:mj}{nW:Nat}{cj:Row}(h:xS C CS CW CB U H x pe aB aP nW cj)(k:∀ a ob,H a=some ob->U a->H' a=some ob)(t:∀ a xs,H a=some (.tup xs)->H' a=some (.tup xs)):xS C CS CW CB U H' x pe aB aP nW cj:=by
 obtain⟨S,SW,d,wl,sh,bl,kn,du,bk,dS,st,op,dw,sg,ow,pw,db,tb,ops,z⟩:=h;exact⟨S,SW,d,wl,sh,bl,kn,du,bk,dS,st,op,dw,sg,ow,pw,db,tb,ops,z.fr k t⟩
theorem xS.same{U:Addr->Prop}{H H':Hp}{x:Addr}{pe:nG}{aB:nJ}{aP:mj}{nW:Nat}{cj:Row}(h:xS C CS CW CB U H x pe aB aP nW cj)(s:aM H H'):xS C CS CW CB U H' x pe aB aP nW cj:=h.fr (λa ob e _=>s a ob e) λa xs e=>s _ _ e
theorem El.tL{U S S' SW:Addr->Prop}{H H':Hp}{x d wl sh bl du bk st dw pw db:Addr}{pe LJ:nG}{ops LK:List Int}{aB gy:nJ}{aP:mj}{nW:Nat}{cj:Row}(h:El C CS CW CB U S SW H x d wl sh bl kn du bk dS st op dw sg ow pw db tb pe ops aB aP nW cj)(L':lg C CS S' H' x d wl sh bl kn du bk dS st op (qh LJ) LK gy)(fr:Fr S S' bk H H'):∃ U',xS C CS CW CB U' H' x LJ gy aP nW cj/\Nh U U' H H':=by
 obtain⟨L,W,B,R,Yq,dj,db',dt,u⟩:=h;obtain⟨as,hR,_⟩:=id R
 have nS':∀ a ob,H a=some ob->¬ S a->¬ S' a:=λa ob e n z=>by
  rcases fr.1 a z with y|y
  ·exact n y
  ·rw[e]at y;cases y
 refine⟨λa=>S' a\/SW a\/a=bk\/a=x\/a=bl\/a=tb,⟨S',SW,d,wl,sh,bl,kn,du,bk,dS,st,op,dw,sg,ow,pw,db,tb,LK,L',W.fr (λa ob e z=>fr.2.1 _ _ e (dj a z).1 (dj a z).2.1) fr.2.2,fr.2.1 _ _ B db'.1 db'.2.2,R.two (λxs e=>fr.2.1 _ _ e dt.1 dt.2.2) fr.2.2,Yq,λa z=>?_,⟨nS' _ _ B db'.1,db'.2⟩,⟨nS' _ _ hR dt.1,dt.2⟩,λa=>Iff.rfl⟩,λa z=>?_,λa ob e n=>?_,fr.2.2⟩
 ·obtain⟨ob,e⟩:=W.al a z;exact⟨nS' _ _ e (dj a z).1,(dj a z).2⟩
 ·rcases z with z|z
  ·exact (fr.1 a z).imp (λy=>(u a).mpr (.inl y)) id
  ·exact .inl ((u a).mpr (.inr z))
 ·exact fr.2.1 a ob e (λz=>n ((u a).mpr (.inl z))) (λz=>n ((u a).mpr (.inr (.inr (.inl z)))))
structure xB(K:PySem.W.Frag)(mg:Str->Option Value)(C CS CW CB:Addr):Prop where
 M:Ek K mg C CS
 cw:∃ f,ClsAt K mg "Well" CW f
 w1:cG K CW "signs"
 w2:cG K CW "owners"
 w3:cG K CW "pourings"
 cb:∃ f,ClsAt K mg "Blots" CB f
 b1:cG K CB "stains"
structure V0(K:PySem.W.Frag)(mg:Str->Option Value)(CW CB:Addr):Prop where
 sz:∃ f g,bN K CW "size" "Well.size" kK ki f g
 pr:∃ f g,bN K CW "pour" "Well.pour" uL Tc f g
 hl:∃ f g,bN K CW "holds" "Well.holds" pX Wr f g
inductive Ni(C CS CW CB:Addr)(vs:List V)(H:Hp)(Q:VK)(E:XK):Prop
 | mk (U:Addr->Prop) (x:Addr) (pe:nG) (aB:nJ) (aP:mj) (nW:Nat) (cj:Row) (h:Int) (cs:List Nat) (rows:dJ) (_:vs=[.ref x,.int h,.str (iU cs)]) (_:xS C CS CW CB U H x pe aB aP nW cj) (_:zE h) (_:cs.length<=200) (_:aP.length<=90000) (_:nW<=900) (_:pe.getLast?=some rows) (_:rows.length<=50) (_:pe.length<=900) (_:aB.length<=900) (_ :
 ∀ (U':Addr->Prop) (q:Addr) (H':Hp),xS C CS CW CB U' H' x (pe++[rows]) (aB++[(oN.Eg h cs).line]) (aP++uW h cs) (nW+1) cj->Nh U U' H H'->H' q=some (.tup [.int (aP.length:Nat),.int ((aP++uW h cs).length:Nat)])->Q (.ref q) H')
theorem wg:aH ["self","hand","text","stretch"] ["self","hand","text"] (aA j7):=iW
theorem BF{f:Addr}(F:iH K "pour" "Library.pour" j7 f fd)(X:xB K mg C CS CW CB)(A1:Ho K mg CS)(A2:LI K mg)(A5:V0 K mg CW CB)(aT:bN K C "enter" "Library.enter" cC Ka fE gE):aF P w K mg zt bI 4 f fd Tc (Ni C CS CW CB):=by
 obtain⟨LM,⟨_,iG⟩,w1,w2,w3,⟨_,t6⟩,b1⟩:=X;obtain⟨_,⟨_,_,d2⟩,_,_,_,_,⟨_,_,d9⟩⟩:=A1;obtain⟨_,_,_,_,_,_,_,⟨_,_,jZ⟩,⟨_,_,v9⟩,⟨_,_,v10⟩⟩:=A2;have sj:aF P w K mg zt bI 3 _ _ Ka (GK C CS):=uz aT.F LM v9 v10 jZ d2 d9;obtain⟨⟨_,_,s1⟩,⟨_,_,uX⟩,_⟩:=A5;obtain⟨⟨T,_⟩,⟨fi,aJ⟩,nw,ns,Hl,nk,nd,GI,G⟩:=LM;have LL:aF P w K mg zt bI 2 _ _ Tc (RG CW):=GD uX.F T iG w1 w2 w3 s1;refine jg F wg λdH A zn s H vs Q E hr h=>?_;obtain⟨U,x,pe,aB,aP,nW,cj,h,cs,rows,rfl,⟨S,SW,d,wl,sh,bl,kn,du,bk,dS,st,op,dw,sg,ow,pw,db,tb,ops,LU⟩,fh,lc,li,ln,hl,l1,l2,l3,k⟩:=h;obtain⟨L,W,B,R,Yq,dj,db',dt,u⟩:=id LU;refine⟨_,(aj (bh (i:=3) wg.nd (iy (eG (pv 0) rfl) iG uX LL hr ck (aa (pv 1) (aa (pv 2) ah)))) (aj (bu (iy (pv 0) aJ aT sj hr ck (aa (dX (aa bK (aa (pv 1) (aa (pv 2) ah)))) (aa (bO ah) ah)))) (au (aN (pv 3))))),?_⟩;refine⟨_,rfl,x,C,d,_,.ref wl,rfl,L.hx,aJ.cl,nw,rfl,wl,dw,_,rfl,W.hx,rfl,_,rfl,_,rfl,SW,wl,dw,sg,ow,pw,nW,aP,h,cs,rfl,W,by lia,by lia,λYr q H1 W1 hq sub fr tp=>?_⟩
 have nSW:∀ a ob,H a=some ob->¬ SW a->¬ Yr a:=λa ob e n z=>by
  rcases sub a z with y|y
  ·exact n y
  ·rw[e]at y;cases y
 have nk1:∀ a ob,H a=some ob->(S a\/a=bk\/a=x)->¬ SW a:=λa ob e z y=>by
  obtain⟨y1,y2,y3⟩:=dj a y;rcases z with z|z|z
  ·exact y1 z
  ·exact y2 z
  ·exact y3 z
 have L1:lg C CS S H1 x d wl sh bl kn du bk dS st op (qh pe) ops aB:=L.fr (λa ob e z=>fr _ _ e (nk1 a ob e z)) tp;obtain⟨as,hR,_⟩:=id R
 have LU1:El C CS CW CB (λa=>S a\/Yr a\/a=bk\/a=x\/a=bl\/a=tb) S Yr H1 x d wl sh bl kn du bk dS st op dw sg ow pw db tb pe ops aB (aP++uW h cs) (nW+1) cj:=by
  refine⟨L1,W1,fr _ _ B db'.2.1,R.two (λxs e=>fr _ _ e dt.2.1) tp,Yq,λa z=>?_,⟨db'.1,nSW _ _ B db'.2.1,db'.2.2⟩,⟨dt.1,nSW _ _ hR dt.2.1,dt.2.2⟩,λa=>Iff.rfl⟩;rcases sub a z with y|y
  ·exact dj a y
  ·refine⟨λq'=>?_,λq'=>?_,λq'=>?_⟩
   ·obtain⟨ob,e⟩:=L.W.al a q';rw[y]at e;cases e
   ·rw[q',L.hb]at y;cases y
   ·rw[q',L.hx]at y;cases y
 refine⟨_,rfl,x,d,_,rfl,L1.hx,rfl,_,rfl,_,rfl,X4,λt ht=>⟨mF,λc hc=>?_⟩⟩;have s2:aM H1 (aO (aO H1 t (.tup [.str "pour",.int h,.str (iU cs)])) c (.lst [])):=(ao ht _).trans (ao hc _);have Lc:(aO (aO H1 t (.tup [.str "pour",.int h,.str (iU cs)])) c (.lst [])) t=some (.tup [.str "pour",.int h,.str (iU cs)]):=ao hc _ _ _ af;have Yi:(aO (aO H1 t (.tup [.str "pour",.int h,.str (iU cs)])) c (.lst [])) c=some (.lst (([]:List Addr).map V.ref)):=af
 have nc:c≠bk:=λz=>by
  have:=ao ht (.tup [.str "pour",.int h,.str (iU cs)]) _ _ L1.hb;rw[← z,hc]at this;cases this
 generalize aO (aO H1 t (.tup [.str "pour",.int h,.str (iU cs)])) c (.lst [])=H2 at s2 Lc Yi;have lp:(qh pe).length=pe.length:=cR _;have Pg:=LU1.same s2;refine⟨S,x,d,wl,sh,bl,kn,du,bk,dS,st,op,qh pe,ops,aB,t,c,.Eg h cs,[],[],rows.map aI,rfl,Pg.L,Lc,⟨fh,lc⟩,Yi,nc,.nil,(λ_ z=>by cases z),iz hl,(λi ch e=>by cases e),(by show 0<=200;decide),by rw[cR];lia,by lia,by lia,λS' H3 L3 fr3=>?_⟩
 have ep:qh pe++[uV (rows.map aI) []]=qh (pe++[rows]):=by
  show _=(pe++[rows]).map _;rw[j5];rfl
 have eo:ops++List.replicate ((uV (rows.map aI) []).length-(rows.map aI).length) (((qh pe).length:Nat):Int)=ops:=by
  show ops++List.replicate ((rows.map aI).length-(rows.map aI).length) _=ops;rw[Nat.sub_self];exact jo _
 rw[ep,eo]at L3;obtain⟨U',hL',f'⟩:=Pg.tL L3 fr3;refine⟨_,rfl,k U' q H3 hL' ⟨λa z=>?_,λa ob e n=>?_,λa xs e=>f'.2.2 _ _ (s2 _ _ (tp _ _ e))⟩ (f'.2.2 _ _ (s2 _ _ hq))⟩
 ·rcases f'.1 a z with y|y
  ·rcases y with y|y|y
   ·exact .inl ((u a).mpr (.inl y))
   ·exact (sub a y).imp (λw=>(u a).mpr (.inr (.inl w))) id
   ·exact .inl ((u a).mpr (.inr (.inr y)))
  ·have y1:=aZ s2 y
   cases e:H a with
   | none=>exact .inr rfl
   | some ob =>
    by_cases z2:SW a
    ·exact .inl ((u a).mpr (.inr (.inl z2)))
    ·rw[fr _ _ e z2]at y1;cases y1
 ·have n1:¬ SW a:=λz=>n ((u a).mpr (.inr (.inl z)));refine f'.2.1 a ob (s2 _ _ (fr _ _ e n1)) λz=>?_;rcases z with z|z|z
  ·exact n ((u a).mpr (.inl z))
  ·exact nSW _ _ e n1 z
  ·exact n ((u a).mpr (.inr (.inr z)))
inductive Js(C CS CW CB:Addr)(vs:List V)(H:Hp)(Q:VK)(E:XK):Prop
 | mk (U:Addr->Prop) (x:Addr) (pe:nG) (aB:nJ) (aP:mj) (nW:Nat) (cj:Row) (_:vs=[.ref x]) (_:xS C CS CW CB U H x pe aB aP nW cj) (_:Q (.int (aP.length:Nat)) H)
inductive Bg(C CS CW CB:Addr)(vs:List V)(H:Hp)(Q:VK)(E:XK):Prop
 | mk (U:Addr->Prop) (x r:Addr) (pe:nG) (aB:nJ) (aP:mj) (nW:Nat) (cj row:Row) (_:vs=[.ref x,.ref r]) (_:xS C CS CW CB U H x pe aB aP nW cj) (_:cM H r row) (_:row.length<=1000) (_:yH aP.length row=true) (_:∀ H',aM H H'->Q .iZ H')
theorem Em:aH ["self"] ["self"] (aA lP):=iW
theorem wj:aH ["self","row"] ["self","row"] (aA iF):=iW
theorem Ds{f:Addr}(F:iH K "ink" "Library.ink" lP f fd)(X:xB K mg C CS CW CB)(A5:V0 K mg CW CB):aF P w K mg zt bI 2 f fd ki (Js C CS CW CB):=by
 obtain⟨LM,⟨_,iG⟩,w1,w2,w3,⟨_,t6⟩,b1⟩:=X;obtain⟨⟨T,_⟩,⟨fi,aJ⟩,nw,ns,Hl,nk,nd,GI,G⟩:=LM;obtain⟨_,_,cQ⟩:=A5.sz;have jT:aF P w K mg zt bI 1 _ _ ki (zI CW):=qN cQ.F T iG.cl w1;refine jg F Em λdH A zn s H vs Q E hr h=>?_;obtain⟨U,x,pe,aB,aP,nW,cj,rfl,⟨S,SW,d,wl,sh,bl,kn,du,bk,dS,st,op,dw,sg,ow,pw,db,tb,ops,LU⟩,k⟩:=h;refine⟨_,(au (aN (iD (eG (pv 0) rfl) iG cQ jT hr ck))),?_⟩;exact⟨_,rfl,x,C,d,_,.ref wl,rfl,LU.L.hx,aJ.cl,nw,rfl,wl,dw,_,rfl,LU.W.hx,rfl,wl,dw,sg,ow,pw,aP,rfl,LU.W.hx,LU.W.hs,k⟩
theorem vH{f:Addr}(F:iH K "check_held" "Library.check_held" iF f fd)(X:xB K mg C CS CW CB)(A5:V0 K mg CW CB)(jU:bN K C "ink" "Library.ink" lP ki fI gI):aF P w K mg zt bI 3 f fd Wr (Bg C CS CW CB):=by
 have U0:aF P w K mg zt bI 2 _ _ ki (Js C CS CW CB):=Ds jU.F X A5;obtain⟨LM,⟨_,iG⟩,w1,w2,w3,⟨_,t6⟩,b1⟩:=X;obtain⟨⟨T,_⟩,⟨fi,aJ⟩,nw,ns,Hl,nk,nd,GI,G⟩:=LM;obtain⟨⟨_,_,cQ⟩,_,⟨_,_,tM⟩⟩:=A5;have Jt:aF P w K mg zt bI 2 _ _ Wr (Nb CW):=Ej tM.F T iG w1 cQ;refine jg F wj λdH A zn s H vs Q E hr h=>?_;obtain⟨U,x,r,pe,aB,aP,nW,cj,row,rfl,LB,hr1,lr,g,k1⟩:=h;obtain⟨S,SW,d,wl,sh,bl,kn,du,bk,dS,st,op,dw,sg,ow,pw,db,tb,ops,LU⟩:=id LB;refine⟨_,(au (bU (qq (tR (iy (eG (pv 0) rfl) iG tM Jt hr ck (aa (pv 1) ah)))) (au nL) br)),?_⟩;refine⟨_,rfl,x,C,d,_,.ref wl,rfl,LU.L.hx,aJ.cl,nw,rfl,wl,dw,_,rfl,LU.W.hx,rfl,_,rfl,SW,wl,dw,sg,ow,pw,r,nW,aP,row,rfl,LU.W,hr1,lr,λH1 s1=>⟨_,rfl,?_⟩⟩;rw[g];exact jK (k1 H1 s1)
structure Wa(K:PySem.W.Frag)(mg:Str->Option Value):Prop where
 win:∃ f g,aC K mg "windows" gH oS f g
 bel:∃ f g,aC K mg "below" m6 mU f g
 ir:∃ f g,aC K mg "item_row" iA yP f g
 pl:∃ f g,aC K mg "plain" mZ iP f g
 vb:∃ f g,aC K mg "views_below" eU mU f g
 sz:∃ f g,aC K mg "size" sQ iP f g
 cp:∃ f g,aC K mg "check_places" iN pO f g
 go:∃ f g,aC K mg "goes_on" nO Hr f g
 pi:∃ f g,aC K mg "plain_items" jd oS f g
 de:∃ f g,aC K mg "dealt" uJ FL f g
 pc:∃ f g,aC K mg "pieces" pC pO f g
 ik:∃ f g,aC K mg "inked" rG iP f g
 pa:∃ f g,aC K mg "put_among" oU Ny f g
 pu:∃ f g,aC K mg "put_items" uK Pp f g
abbrev ptW:List Nat:=(Str.ofString "put").cps.toList
inductive Nj(C CS CW CB:Addr)(vs:List V)(H:Hp)(Q:VK)(E:XK):Prop
 | mk (U:Addr->Prop) (x r:Addr) (pe:nG) (aB:nJ) (aP:mj) (nW:Nat) (cj row:Row) (s p:Int) (rows:dJ) (_:vs=[.ref x,.int s,.int p,.ref r]) (_:xS C CS CW CB U H x pe aB aP nW cj) (_:cM H r row) (_:Rw row) (_:aP.length<=100000) (_:pe.getLast?=some rows) (_:rows.length<=50) (_:pe.length<=900) (_:aB.length<=900) (_:wO s) (_:wO p) (_:yN rows.length s) (_:yH aP.length row=true) (_:(∃ sh,Seen rows sh/\(0<=p/\p<=(sh s).length)/\((∀ es,rows[s.toNat]?=some es->(∃ f,tG (mJ rows s.toNat (iT sh p es (dP (cX (cJ row))))) f)/\
  ∀ (U':Addr->Prop) (H':Hp),xS C CS CW CB U' H' x (pe++[mJ rows s.toNat (iT sh p es (dP (cX (cJ row))))]) (aB++[(oN.xQ ptW [s,p] row).line]) aP nW cj->Nh U U' H H'->Q .iZ H'))))
theorem xT:aH ["self","sheet","place","row","items"] ["self","sheet","place","row"] (aA qH):=iW
theorem Fy(ns:List Int):lS (cV ns)=(ns.length:Int):=by rw[← wL _ (rN _),je]
theorem OU{n:Nat}{row:Row}(h:yH n row=true):∀ p∈row,0<=p.1/\p.1<p.2/\p.2<=n:=λp hp=>by
 have z:=List.all_eq_true.mp h p hp;unfold SR at z;simpa [and_assoc] using z
theorem wO.big{s:Int}(h:wO s):s<10^60:=by
 obtain⟨_,h1⟩:=h;lia
theorem Dt{f fS f3:Addr}{g1 g2 g3 g4 g5:FuncData}(F:iH K "put" "Library.put" qH f fd)(X:xB K mg C CS CW CB)(A1:Ho K mg CS)(A2:LI K mg)(A4:Yp K mg fS fZ)(A5:V0 K mg CW CB)(A6:Wa K mg)(aT:bN K C "enter" "Library.enter" cC Ka f1 g1)(aR:bN K C "change" "Library.change" cU J3 f2 g2)(dQ:bN K C "shown" "Library.shown" jF Hq f3 g3)(jU:bN K C "ink" "Library.ink" lP ki f4 g4)(fX:bN K C "check_held" "Library.check_held" iF Wr f5 g5):aF P w K mg zt bI 6 f fd Ws (Nj C CS CW CB):=by
 have xC:aF P w K mg zt bI 3 _ _ Wr (Bg C CS CW CB):=vH fX.F X A5 jU;obtain⟨LM,⟨_,iG⟩,w1,w2,w3,⟨_,t6⟩,b1⟩:=X;have cI:aF P w K mg zt bI 5 _ _ J3 (qj C CS):=eX aR.F LM A1 A2 aT;have sr:aF P w K mg zt bI 5 _ _ Hq (Dr C CS):=uA dQ.F LM A1 A4;obtain⟨M,⟨fi,aJ⟩,nw,ns,Hl,nk,nd,GI,G⟩:=LM;obtain⟨⟨_,_,d1⟩,⟨_,_,d2⟩,⟨_,_,d3⟩,⟨_,_,d4⟩,⟨_,_,d7⟩,⟨_,_,bJ⟩,⟨_,_,d9⟩⟩:=A1;have cS:aF P w K mg zt bI 4 _ _ ki (tY CS):=gY bJ.F M d2 d4 d7;obtain⟨T,⟨fj,bT⟩,n1,n2⟩:=M;obtain⟨⟨_,_,i1⟩,⟨_,_,i2⟩,⟨_,_,i3⟩,⟨_,_,i4⟩,⟨_,_,i5⟩,⟨_,_,i6⟩,⟨_,_,cA⟩,⟨_,_,i8⟩,⟨_,_,i9⟩,⟨_,_,SS⟩,⟨_,_,RK⟩,⟨_,_,dY⟩,⟨_,_,U6⟩,⟨_,_,jw⟩⟩:=A6;have gU:aF P w K mg zt bI 2 _ _ pO uu:=jY cA.F T i6;have rX:aF P w K mg zt bI 2 _ _ iP wW:=vZ dY.F T i4;have su:aF P w K mg zt bI 4 _ _ Pp qg:=uT jw.F T i1 i2 i3 i4 i5 i6 cA i8 i9 SS RK dY U6;refine jg F xT λdH A zn s0 H vs Q E hr h=>?_;obtain⟨U,x,r,pe,aB,aP,nW,cj,row,s,p,rows,rfl,LB,hr1,fr,li,hl,l1,l2,l3,fs,fp,ia,g,k2⟩:=h;obtain⟨S,SW,d,wl,sh,bl,kn,du,bk,dS,st,op,dw,sg,ow,pw,db,tb,ops,LU⟩:=id LB;have lo:=qP LU.L hl;have hl':=iz hl;have lp:(qh pe).length=pe.length:=cR _;refine⟨_,(aj (bu (aG cA gU hr (aa (iy (pv 0) aJ dQ sr hr ck (aa (pv 1) ah)) (aa (pv 2) (aa (pv 2) ah))))) (aj (bu (iy (pv 0) aJ fX xC hr ck (aa (pv 3) ah))) (aj (bh (i:=4) xT.nd (aG jw su hr (aa (iD (eG (pv 0) rfl) bT bJ cS hr ck) (aa (pv 1) (aa (pv 2) (aa (aG dY rX hr (aa (pv 3) ah)) ah)))))) (au (bu (iy (pv 0) aJ aR cI hr ck (aa (dX (aa bK (aa (pv 1) (aa (pv 2) (aa (pv 3) ah))))) (aa (pv 1) (aa (pv 4) ah))))))))),?_⟩;refine⟨_,rfl,x,d,_,rfl,LU.L.hx,rfl,_,rfl,S,x,d,wl,sh,bl,kn,du,bk,dS,st,op,pe,ops,aB,rows,s,rfl,LU.L,hl,l1,l2,ia,?_⟩;obtain⟨f0,sn,hpp,k6⟩:=k2;have ls:(f0 s).length<=10000:=sn.ln s ia.1 ia.2;have lr0:=oZ (f0 s);refine⟨f0,sn,λo H1 ho s1 fo=>?_⟩;have z:O9 p p (lS (cV (f0 s))):=by rw[Fy];exact⟨hpp.1,Int.le_refl _,hpp.2⟩
 refine⟨_,rfl,_,rfl,o,cV (f0 s),p,p,rfl,ho,by lia,z,λH2 s2=>?_⟩;have sJ:=s1.trans s2;have Pg:=LU.same sJ;have MS:=hr1.same sJ;refine⟨_,rfl,x,d,_,rfl,Pg.L.hx,rfl,_,rfl,U,x,r,pe,aB,aP,nW,cj,row,rfl,LB.same sJ,MS,by have:=fr.1;lia,g,λH3 s3=>?_⟩;have zP:=sJ.trans s3;have U7:=LU.same zP;have Oo:=hr1.same zP;have hp:=OU g;have sl:s.toNat<rows.length:=by have:=ia.1;have:=ia.2;lia
 obtain⟨es,es1⟩:∃ es,rows[s.toNat]?=some es:=⟨_,pP sl⟩;obtain⟨⟨fB,B⟩,k7⟩:=k6 _ es1;refine⟨_,rfl,x,C,d,_,.ref sh,rfl,U7.L.hx,aJ.cl,ns,rfl,sh,dS,_,rfl,U7.L.W.hx,rfl,S,sh,dS,st,op,qh pe,ops,rfl,U7.L.W,⟨by lia,by lia⟩,λVZ el q H4 fs4 s4=>?_⟩;rw[hl']at el;cases el;obtain⟨fq,rs,hq,al⟩:=fs4
 have hR:jf H4 q (rows.map aI):=by
  refine⟨rs.map V.ref,hq,?_⟩
  have key:∀ {as:List Addr} {ds:List (List aV)},cE (λr aQ=>H3 r=none/\r≠q/\bR H4 (.ref r) aQ) as ds->cE (bR H4) (as.map V.ref) ds:=by
   intro as ds z
   induction z with
   | nil=>exact .nil
   | cons o t ih=>exact .cons o.2.2 ih
  exact key al
 have hr4:=Oo.same s4;refine⟨_,rfl,_,rfl,_,rfl,r,row,rfl,hr4,by have:=fr.1;lia,λoi H5 XZ s5 foi=>?_⟩;have nn:qB row:=λp' VJ=>⟨(hp p' VJ).1,by have:=(hp p' VJ).2.1;lia⟩;refine⟨q,oi,rows,s,p,_,f0,rfl,⟨hR.same s5,by lia,sn.es,sn.sd,sn.rk,sn.ss,sn.ln⟩,ia.1,ia.2,XZ,zy (ur nn),?_,hpp,λes q2 H6 vt jA s6 RL=>?_⟩
 ·unfold cX;rw[cR];have:=qV row;have:=fr.1;lia
 rw[es1]at vt;cases vt;have Wb:aM H H6:=zP.trans (s4.trans (s5.trans s6));have RM:=LU.same Wb
 have RN:q2≠bk:=λe=>by
  have y:=(LU.same (zP.trans (s4.trans s5))).L.hb;rw[← e,RL]at y;cases y
 refine⟨_,rfl,x,d,_,rfl,RM.L.hx,rfl,_,rfl,_,rfl,_,rfl,D8,λt ht=>?_⟩;have s7:=ao ht (.tup [.str "put",.int s,.int p,.ref r]);have ht7:(aO H6 t (.tup [.str "put",.int s,.int p,.ref r])) t=some (.tup [.str "put",.int s,.int p,.ref r]):=af;generalize aO H6 t (.tup [.str "put",.int s,.int p,.ref r])=H7 at s7 ht7;have s17:=Wb.trans s7;have LU7:=LU.same s17;have ss:((s.toNat:Nat):Int)=s:=by have:=ia.1;lia
 refine⟨_,rfl,_,rfl,S,x,d,wl,sh,bl,kn,du,bk,dS,st,op,pe,ops,aB,t,q2,.xQ ptW [s,p] row,s.toNat,_,rows,fB,by rw[ss];rfl,LU7.L,⟨r,by rw[ht7,yr];rfl,hr1.same s17⟩,⟨(by show rY AHD ptW=some 2;decide +kernel),?_,fr⟩,jA.same s7,RN,hl,by have:=ia.2;have:=ia.1;lia,l1,l2,l3,B,λS' H8 L8 Ih=>?_⟩
 ·intro y hy;have b1:=ia.1;have b2:=hpp.1;rcases List.mem_cons.mp hy with e|e
  ·rw[e];exact⟨b1,fs.big⟩
  ·rw[List.mem_singleton.mp e];exact⟨b2,fp.big⟩
 ·obtain⟨U',hL',f'⟩:=LU7.tL L8 Ih;exact k7 U' H8 hL' (f'.pre s17)
theorem We.qm{S:Addr->Prop}{H H':Hp}{x d s p l:Addr}{n:Nat}{aP:mj}{fs:List (Str × V)}(h:We C S H x d s o p n aP)(hl:H l=some (.ins C' d' fs))(nl:¬ S l)(k:cT l H H'):We C S H' x d s o p n aP :=
 h.fr (λa ob e z=>k a ob e (λq=>nl (by rw[← q];exact z))) (λa xs e=>k _ _ e (eS e hl))
theorem cM.qm{H H':Hp}{r l:Addr}{row:Row}{fs:List (Str × V)}(h:cM H r row)(hl:H l=some (.ins C' d' fs))(k:cT l H H'):cM H' r row :=
 h.two (λxs e=>k _ _ e (eS e hl)) (λa xs e=>k _ _ e (eS e hl))
theorem uB{H:Hp}{dw a:Addr}{o:HO}(e:(aO (aO H dw (.own xw)) xw o) a=none):H a=none:=by
 by_cases z1:a=xw
 ·rw[z1,af]at e;cases e
 rw[aK z1]at e;by_cases z2:a=dw
 ·rw[z2,af]at e;cases e
 rw[aK z2]at e;exact e
inductive Fz(C CS CW CB:Addr)(vs:List V)(H:Hp)(Q:VK)(E:XK):Prop
 | mk (x d:Addr) (_:vs=[.ref x]) (_:H x=some (.ins C d [])) (_: ∀ (U:Addr->Prop) (H':Hp),xS C CS CW CB U H' x [[]] [] [] 0 []->(∀ a,U a->a=x\/H a=none)->cT x H H'->Q .iZ H')
theorem yI:aH ["self"] ["self"] (aA nY):=iW
theorem xD{f f3:Addr}{g1 g2 g3 g4 g5:FuncData}(F:iH K "__init__" "Library.__init__" nY f fd)(L:Ek K mg C CS)(bT:ClsAt K mg "Shelf" CS f1)(j0:bN K CS "__init__" "Shelf.__init__" mP ki f1 g1)
  (iG:ClsAt K mg "Well" CW f2) (lu:bN K CW "__init__" "Well.__init__" nV ki f2 g2) (w1:cG K CW "signs") (w2:cG K CW "owners") (w3:cG K CW "pourings")
  (t6:ClsAt K mg "Blots" CB f3) (j3:bN K CB "__init__" "Blots.__init__" mO ki f3 g3) (b1:cG K CB "stains")
  (Ju:ClsAt K mg "Ties" CT f4) (ly:bN K CT "__init__" "Ties.__init__" nR ki f4 g4) (t1:cG K CT "given") (t2:cG K CT "pairs")
  (Jv:ClsAt K mg "Dues" CD f5) (lC:bN K CD "__init__" "Dues.__init__" nU ki f5 g5) (u1:cG K CD "sums"):aF P w K mg zt bI 3 f fd ki (Fz C CS CW CB):=by
 obtain⟨M,⟨fi,aJ⟩,nw,ns,Hl,nk,nd,GI,G⟩:=L;obtain⟨T,_,n1,n2⟩:=M;have BG:aF P w K mg zt bI 1 _ _ ki (M7 CS):=zG j0.F bT.cl n1 n2;have Du:aF P w K mg zt bI 1 _ _ ki (Na CW):=AG lu.F iG.cl w1 w2 w3;have BH:aF P w K mg zt bI 1 _ _ ki (MV CB):=zo j3.F t6.cl b1;have Dv:aF P w K mg zt bI 1 _ _ ki (B0 CT):=AE ly.F Ju.cl t1 t2;have Dw:aF P w K mg zt bI 1 _ _ ki (B0 CD):=AD lC.F Jv.cl u1;refine jg F yI λdH A zn s H vs Q E hr h=>?_;obtain⟨x,d,rfl,hx,k⟩:=h;refine⟨_,(aj (mX (pv 0) (ug iG.YO Du (hr.mono (by decide)) rfl iG.m lu.b .nil ck) rfl) (aj (mX (pv 0) (ug bT.YO BG (hr.mono (by decide)) rfl bT.m j0.b .nil ck) rfl) (aj (mX (pv 0) (ug t6.YO BH (hr.mono (by decide)) rfl t6.m j3.b .nil ck) rfl) (aj (mX (pv 0) (ug Ju.YO Dv (hr.mono (by decide)) rfl Ju.m ly.b .nil ck) rfl) (aj (mX (pv 0) (ug Jv.YO Dw (hr.mono (by decide)) rfl Jv.m lC.b .nil ck) rfl) (au (mX (pv 0) (bO ah) rfl))))))),?_⟩;intro wl dw hw1 hw2 _;refine⟨wl,dw,rfl,af,λsg ow pw H1 V1 k1 fsg fow fpw=>⟨rfl,?_⟩⟩;have s1:=qY hw1 hw2 k1
 have fW:∀ a,(a=wl\/a=sg\/a=ow\/a=pw)->H a=none:=λa e=>by
  rcases e with rfl|rfl|rfl|rfl
  ·exact hw1
  ·exact uB fsg
  ·exact uB fow
  ·exact uB fpw
 have Ys:¬ (x=wl\/x=sg\/x=ow\/x=pw):=λe=>by
  have:=fW x e;rw[hx]at this;cases this
 refine⟨_,rfl,x,C,d,_,rfl,s1 _ _ hx,aJ.cl,nw,by decide,?_⟩;have q2:cT x H (aO H1 x (.ins C d (L2.gx "well" (.ref wl) []))):=cT.trans (jL.aM.keep s1) (aL x _ _);have x2:(aO H1 x (.ins C d (L2.gx "well" (.ref wl) []))) x=some (.ins C d [("well",.ref wl)]):=af;have kx2:cT x H1 (aO H1 x (.ins C d (L2.gx "well" (.ref wl) []))):=aL x _ _;generalize aO H1 x (.ins C d (L2.gx "well" (.ref wl) []))=H2 at q2 x2 kx2;have V2:=V1.qm (s1 _ _ hx) Ys kx2;intro sh dS Ym Kw _;refine⟨sh,dS,rfl,af,λst op z H3 W3 k3 fst fop fz=>⟨rfl,?_⟩⟩;have s3:=qY Ym Kw k3
 have up:∀ a,(aO (aO H2 dS (.own sh)) sh (.ins CS dS [])) a=none->H2 a=none:=λa e=>by
  by_cases z1:a=sh
  ·rw[z1,af]at e;cases e
  rw[aK z1]at e;by_cases z2:a=dS
  ·rw[z2,af]at e;cases e
  rw[aK z2]at e;exact e
 have fS:∀ a,(a=sh\/a=st\/a=op\/a=z)->H2 a=none:=λa e=>by
  rcases e with rfl|rfl|rfl|rfl
  ·exact Ym
  ·exact up _ fst
  ·exact up _ fop
  ·exact up _ fz
 have Yt:¬ (x=sh\/x=st\/x=op\/x=z):=λe=>by
  have:=fS x e;rw[x2]at this;cases this
 have x3:=s3 _ _ x2;have V3:=V2.same s3;refine⟨_,rfl,x,C,d,_,rfl,x3,aJ.cl,ns,(by show 1<1000;decide),?_⟩;have k4:cT x H3 (aO H3 x (.ins C d (L2.gx "shelf" (.ref sh) [("well",.ref wl)]))):=aL x _ _;have x4:(aO H3 x (.ins C d (L2.gx "shelf" (.ref sh) [("well",.ref wl)]))) x=some (.ins C d [("well",.ref wl),("shelf",.ref sh)]):=af;generalize aO H3 x (.ins C d (L2.gx "shelf" (.ref sh) [("well",.ref wl)]))=H4 at k4 x4;have W4:=W3.qm x3 Yt k4;have V4:=V3.qm x3 Ys k4;have q4:cT x H H4:=(q2.trans (jL.aM.keep s3)).trans k4;intro bl db MR Yh _;refine⟨bl,db,rfl,af,λtb H5 B5 R5 k5 ftb=>⟨rfl,?_⟩⟩;have s5:=qY MR Yh k5;have Yu:=uB ftb;have x5:=s5 _ _ x4;have W5:=W4.same s5;have V5:=V4.same s5;have RO:bl≠x:=(az x4 MR).symm;refine⟨_,rfl,x,C,d,_,rfl,x5,aJ.cl,Hl,(by show 2<1000;decide),?_⟩;have k6:cT x H5 (aO H5 x (.ins C d (L2.gx "blots" (.ref bl) [("well",.ref wl),("shelf",.ref sh)]))):=aL x _ _;have x6:(aO H5 x (.ins C d (L2.gx "blots" (.ref bl) [("well",.ref wl),("shelf",.ref sh)]))) x=some (.ins C d [("well",.ref wl),("shelf",.ref sh),("blots",.ref bl)]):=af;generalize aO H5 x (.ins C d (L2.gx "blots" (.ref bl) [("well",.ref wl),("shelf",.ref sh)]))=H6 at k6 x6;have W6:=W5.qm x5 Yt k6;have V6:=V5.qm x5 Ys k6;have B6:Bl CB H6 bl db tb:=k6 _ _ B5 RO;have R6:=R5.qm x5 k6;have q6:cT x H H6:=(q4.trans (jL.aM.keep s5)).trans k6;intro kn dk hk1 hk2 _;refine⟨kn,dk,rfl,af,λfs7 H7 _ k7=>⟨rfl,?_⟩⟩;have s7:=qY hk1 hk2 k7;have x7:=s7 _ _ x6;have W7:=W6.same s7;have V7:=V6.same s7;have B7:Bl CB H7 bl db tb:=s7 _ _ B6;have R7:=R6.same s7;refine⟨_,rfl,x,C,d,_,rfl,x7,aJ.cl,nk,(by show 3<1000;decide),?_⟩;have k8:cT x H7 (aO H7 x (.ins C d (L2.gx "knots" (.ref kn) [("well",.ref wl),("shelf",.ref sh),("blots",.ref bl)]))):=aL x _ _;have x8:(aO H7 x (.ins C d (L2.gx "knots" (.ref kn) [("well",.ref wl),("shelf",.ref sh),("blots",.ref bl)]))) x=some (.ins C d [("well",.ref wl),("shelf",.ref sh),("blots",.ref bl),("knots",.ref kn)]):=af;generalize aO H7 x (.ins C d (L2.gx "knots" (.ref kn) [("well",.ref wl),("shelf",.ref sh),("blots",.ref bl)]))=H8 at k8 x8;have W8:=W7.qm x7 Yt k8;have V8:=V7.qm x7 Ys k8;have B8:Bl CB H8 bl db tb:=k8 _ _ B7 RO;have R8:=R7.qm x7 k8;have q8:cT x H H8:=(q6.trans (jL.aM.keep s7)).trans k8;intro du dd Oe hd2 _;refine⟨du,dd,rfl,af,λfs9 H9 _ k9=>⟨rfl,?_⟩⟩;have s9:=qY Oe hd2 k9;have x9:=s9 _ _ x8;have W9:=W8.same s9;have V9:=V8.same s9;have B9:Bl CB H9 bl db tb:=s9 _ _ B8;have R9:=R8.same s9;refine⟨_,rfl,x,C,d,_,rfl,x9,aJ.cl,nd,(by show 4<1000;decide),?_⟩;have Y5:cT x H9 (aO H9 x (.ins C d (L2.gx "dues" (.ref du) [("well",.ref wl),("shelf",.ref sh),("blots",.ref bl),("knots",.ref kn)]))):=aL x _ _;have Y6:(aO H9 x (.ins C d (L2.gx "dues" (.ref du) [("well",.ref wl),("shelf",.ref sh),("blots",.ref bl),("knots",.ref kn)]))) x=some (.ins C d [("well",.ref wl),("shelf",.ref sh),("blots",.ref bl),("knots",.ref kn),("dues",.ref du)]):=af;generalize aO H9 x (.ins C d (L2.gx "dues" (.ref du) [("well",.ref wl),("shelf",.ref sh),("blots",.ref bl),("knots",.ref kn)]))=O7 at Y5 Y6;have W10:=W9.qm x9 Yt Y5;have V10:=V9.qm x9 Ys Y5;have B10:Bl CB O7 bl db tb:=Y5 _ _ B9 RO;have R10:=R9.qm x9 Y5;have EL:cT x H O7:=(q8.trans (jL.aM.keep s9)).trans Y5;refine⟨mF,λbk Wc=>⟨_,rfl,x,C,d,_,rfl,ao Wc _ _ _ Y6,aJ.cl,GI,(by show 5<1000;decide),?_⟩⟩;have nbx:bk≠x:=(az Y6 Wc).symm
 have nSb:¬ (bk=sh\/bk=st\/bk=op\/bk=z):=λe=>by
  obtain⟨ob,w⟩:=W10.al bk e;rw[Wc]at w;cases w
 have zO:=ao Wc (.lst []);have k12:cT x (aO O7 bk (.lst [])) (aO (aO O7 bk (.lst [])) x (.ins C d (L2.gx "book" (.ref bk) [("well",.ref wl),("shelf",.ref sh),("blots",.ref bl),("knots",.ref kn),("dues",.ref du)]))):=aL x _ _;have W12:=(W10.same zO).qm (zO _ _ Y6) Yt k12;have V12:=(V10.same zO).qm (zO _ _ Y6) Ys k12;have B12:=k12 _ _ (zO _ _ B10) RO;have R12:=(R10.same zO).qm (zO _ _ Y6) k12;obtain⟨as5,hR5,_⟩:=id R5;have aa0:∀ a,(a=sh\/a=st\/a=op\/a=z)->a=x\/H a=none:=λa e=>.inr (lT q2 (λe'=>by rw[e']at e;exact Yt e) (fS a e));refine k (λa=>(a=sh\/a=st\/a=op\/a=z)\/(a=wl\/a=sg\/a=ow\/a=pw)\/a=bk\/a=x\/a=bl\/a=tb) _ ⟨_,_,d,wl,sh,bl,kn,du,bk,dS,st,op,dw,sg,ow,pw,db,tb,[],⟨af,W12,?_,Yt,nSb⟩,V12,B12,R12,?_,?_,?_,?_,λa=>Iff.rfl⟩ ?_ ((EL.trans (jL.aM.keep zO)).trans k12)
 ·rw[aK nbx];exact af
 ·exact⟨.nil,λ_ z=>by cases z⟩
 ·intro a ea;obtain⟨ob,hob⟩:=V2.al a ea;refine⟨λes=>?_,λeb=>?_,λex=>?_⟩
  ·rw[fS a es]at hob;cases hob
  ·obtain⟨ob',w⟩:=V10.al a ea;rw[eb,Wc]at w;cases w
  ·rw[ex]at ea;exact Ys ea
 ·refine⟨λes=>?_,λew=>?_,λeb=>?_⟩
  ·obtain⟨ob,w⟩:=W4.al bl es;rw[MR]at w;cases w
  ·obtain⟨ob,w⟩:=V4.al bl ew;rw[MR]at w;cases w
  ·rw[eb]at B10;have aa1:O7 bk=some _:=B10;rw[Wc]at aa1;cases aa1
 ·refine⟨λes=>?_,λew=>?_,λeb=>?_⟩
  ·obtain⟨ob,w⟩:=W4.al tb es;rw[Yu]at w;cases w
  ·obtain⟨ob,w⟩:=V4.al tb ew;rw[Yu]at w;cases w
  ·obtain⟨as,hR,_⟩:=id R10;rw[eb,Wc]at hR;cases hR
 ·intro a ea;rcases ea with ea|ea|ea|ea|ea|ea
  ·exact aa0 a ea
  ·exact .inr (fW a ea)
  ·rw[ea];exact .inr (lT EL nbx Wc)
  ·exact .inl ea
  ·rw[ea];exact .inr (lT q4 RO MR)
  ·by_cases ex:a=x
   ·exact .inl ex
   ·rw[ea]at ex ⊢;exact .inr (lT q4 ex Yu)
theorem US.at_{H H':Hp}{q:Addr}{rows:List (List aV)}(h:US H H' q rows):jf H' q rows:=by
 obtain⟨_,rs,hq,al⟩:=h;refine⟨rs.map V.ref,hq,?_⟩
 have key:∀ {as:List Addr} {ds:List (List aV)},cE (λr aQ=>H r=none/\r≠q/\bR H' (.ref r) aQ) as ds->cE (bR H') (as.map V.ref) ds:=by
  intro as ds z
  induction z with
  | nil=>exact .nil
  | cons o t ih=>exact .cons o.2.2 ih
 exact key al
abbrev ctW:List Nat:=(Str.ofString "cut").cps.toList
abbrev qtW:List Nat:=(Str.ofString "quote").cps.toList
inductive Nk(C CS CW CB:Addr)(vs:List V)(H:Hp)(Q:VK)(E:XK):Prop
 | mk (U:Addr->Prop) (x:Addr) (pe:nG) (aB:nJ) (aP:mj) (nW:Nat) (cj:Row) (s a b:Int) (rows:dJ) (_:vs=[.ref x,.int s,.int a,.int b]) (_:xS C CS CW CB U H x pe aB aP nW cj) (_:pe.getLast?=some rows) (_:rows.length<=50) (_:pe.length<=900) (_:aB.length<=900) (_:wO s) (_:wO a) (_:wO b)
  (_:yN rows.length s) (_:∃ sh,Seen rows sh/\O9 a b (sh s).length/\(∀ es,rows[s.toNat]?=some es->(∃ f,tG (mJ rows s.toNat (bY sh a b es)) f)/\
  ∀ (U':Addr->Prop) (H':Hp),xS C CS CW CB U' H' x (pe++[mJ rows s.toNat (bY sh a b es)]) (aB++[(oN.plain ctW [s,a,b]).line]) aP nW cj->Nh U U' H H'->Q .iZ H'))
inductive FA(C CS CW CB:Addr)(vs:List V)(H:Hp)(Q:VK)(E:XK):Prop
 | mk (U:Addr->Prop) (x:Addr) (pe:nG) (aB:nJ) (aP:mj) (nW:Nat) (cj:Row) (t p s a b:Int) (rows:dJ) (_:vs=[.ref x,.int t,.int p,.int s,.int a,.int b]) (_:xS C CS CW CB U H x pe aB aP nW cj) (_:pe.getLast?=some rows) (_:rows.length<=50) (_:pe.length<=900) (_:aB.length<=900) (_:wO t) (_:wO p) (_:wO s) (_:wO a) (_:wO b)
  (_:yN rows.length t) (_:yN rows.length s) (_:(∃ sh,Seen rows sh/\O9 a b (sh s).length/\((0<=p/\p<=(sh t).length)/\(∀ es,rows[t.toNat]?=some es->(∃ f,tG (mJ rows t.toNat (iT sh p es (((sh s).take b.toNat).drop a.toNat))) f)/\
  ∀ (U':Addr->Prop) (H':Hp),xS C CS CW CB U' H' x (pe++[mJ rows t.toNat (iT sh p es (((sh s).take b.toNat).drop a.toNat))]) (aB++[(oN.plain qtW [t,p,s,a,b]).line]) aP nW cj->Nh U U' H H'->Q .iZ H'))))
theorem xU:aH ["self","sheet","start","stop","items"] ["self","sheet","start","stop"] (aA qI):=iW
theorem Dy{f fp:Addr}{g1 g2:FuncData}(F:iH K "cut" "Library.cut" qI f fd)(X:xB K mg C CS CW CB)(A1:Ho K mg CS)(A2:LI K mg)(A6:Wa K mg)(aT:bN K C "enter" "Library.enter" cC Ka f1 g1)(aR:bN K C "change" "Library.change" cU J3 f2 g2)(o7:aC K mg "cut_items" rH Td fc gc)(ku:aC K mg "parted" sR Hs fp gp):aF P w K mg zt bI 6 f fd Wu (Nk C CS CW CB):=by
 obtain⟨LM,_⟩:=X;have cI:aF P w K mg zt bI 5 _ _ J3 (qj C CS):=eX aR.F LM A1 A2 aT;obtain⟨M,⟨fi,aJ⟩,nw,ns,Hl,nk,nd,GI,G⟩:=LM;obtain⟨⟨_,_,d1⟩,⟨_,_,d2⟩,⟨_,_,bf⟩,⟨_,_,d4⟩,⟨_,_,d7⟩,⟨_,_,bJ⟩,⟨_,_,d9⟩⟩:=A1;have cS:aF P w K mg zt bI 4 _ _ ki (tY CS):=gY bJ.F M d2 d4 d7;have b9:aF P w K mg zt bI 2 _ _ Hq (o6 CS):=ef bf.F M d1;obtain⟨T,⟨fj,bT⟩,n1,n2⟩:=M;obtain⟨⟨_,_,i1⟩,⟨_,_,i2⟩,⟨_,_,i3⟩,⟨_,_,i4⟩,⟨_,_,i5⟩,⟨_,_,i6⟩,⟨_,_,i7⟩,⟨_,_,i8⟩,⟨_,_,i9⟩,⟨_,_,SS⟩,⟨_,_,RK⟩,⟨_,_,i12⟩,⟨_,_,U6⟩,⟨_,_,i14⟩⟩:=A6;have LN:aF P w K mg zt bI 4 _ _ Td Bd:=Gw o7.F T i1 i2 i3 i4 i5 i6 i7 i8 i9 SS RK i12 ku;refine jg F xU λdH A zn s0 H vs Q E hr h=>?_;obtain⟨U,x,pe,aB,aP,nW,cj,s,a,b,rows,rfl,LB,hl,l1,l2,l3,fs,fa,fb,ia,k2⟩:=h;obtain⟨S,SW,d,wl,sh,bl,kn,du,bk,dS,st,op,dw,sg,ow,pw,db,tb,ops,LU⟩:=id LB;have lo:=qP LU.L hl;have hl':=iz hl;have lp:(qh pe).length=pe.length:=cR _;have ok:LH (qh pe) ops:=⟨by lia,by lia⟩;refine⟨_,(aj (bu (iy (eG (pv 0) rfl) bT bf b9 hr ck (aa (pv 1) ah))) (aj (bh (i:=4) xU.nd (aG o7 LN hr (aa (iD (eG (pv 0) rfl) bT bJ cS hr ck) (aa (pv 1) (aa (pv 2) (aa (pv 3) ah)))))) (au (bu (iy (pv 0) aJ aR cI hr ck (aa (dX (aa bK (aa (pv 1) (aa (pv 2) (aa (pv 3) ah))))) (aa (pv 1) (aa (pv 4) ah)))))))),?_⟩;refine⟨_,rfl,x,C,d,_,.ref sh,rfl,LU.L.hx,aJ.cl,ns,rfl,sh,dS,_,rfl,LU.L.W.hx,rfl,_,rfl,S,sh,dS,st,op,qh pe,ops,s,rfl,LU.L.W,by rw[lo];exact ia,?_⟩;obtain⟨f0,sn,i3,k4⟩:=k2;refine⟨_,rfl,x,C,d,_,.ref sh,rfl,LU.L.hx,aJ.cl,ns,rfl,sh,dS,_,rfl,LU.L.W.hx,rfl,S,sh,dS,st,op,qh pe,ops,rfl,LU.L.W,ok,λVZ el q H1 UZ s1=>?_⟩;rw[hl']at el;cases el;have sl:s.toNat<rows.length:=by have:=ia.1;have:=ia.2;lia
 obtain⟨es,es1⟩:∃ es,rows[s.toNat]?=some es:=⟨_,pP sl⟩;refine⟨_,rfl,_,rfl,_,rfl,q,rows,s,a,b,f0,rfl,⟨UZ.at_,by lia,sn.es,sn.sd,sn.rk,sn.ss,sn.ln⟩,ia.1,ia.2,i3,λzN q2 H2 vt jA s2 RL=>?_⟩;rw[es1]at vt;cases vt;obtain⟨⟨fB,B⟩,k5⟩:=k4 es es1;have sJ:=s1.trans s2;have Pg:=LU.same sJ
 have RN:q2≠bk:=λe=>by
  have y:=(LU.same s1).L.hb;rw[← e,RL]at y;cases y
 refine⟨_,rfl,x,d,_,rfl,Pg.L.hx,rfl,_,rfl,_,rfl,_,rfl,D8,λt ht=>?_⟩;have s3:=ao ht (.tup [.str "cut",.int s,.int a,.int b]);have UR:(aO H2 t (.tup [.str "cut",.int s,.int a,.int b])) t=some (.tup [.str "cut",.int s,.int a,.int b]):=af;generalize aO H2 t (.tup [.str "cut",.int s,.int a,.int b])=H3 at s3 UR;have zP:=sJ.trans s3;have U7:=LU.same zP;have ss:((s.toNat:Nat):Int)=s:=by have:=ia.1;lia
 refine⟨_,rfl,_,rfl,S,x,d,wl,sh,bl,kn,du,bk,dS,st,op,pe,ops,aB,t,q2,.plain ctW [s,a,b],s.toNat,_,rows,fB,by rw[ss];rfl,U7.L,(by show H3 t=_;rw[UR,yr];rfl),⟨(by show rY UN ctW=some 3;decide +kernel),?_⟩,jA.same s3,RN,hl,by lia,l1,l2,l3,B,λS' H8 L8 Ih=>?_⟩
 ·intro y hy;have b1:=ia.1;unfold O9 at i3;rcases List.mem_cons.mp hy with e|hy
  ·rw[e];exact⟨b1,fs.big⟩
  rcases List.mem_cons.mp hy with e|hy
  ·rw[e];exact⟨by lia,fa.big⟩
  ·rw[List.mem_singleton.mp hy];exact⟨by lia,fb.big⟩
 ·obtain⟨U',hL',f'⟩:=U7.tL L8 Ih;exact k5 U' H8 hL' (f'.pre zP)
theorem qy:aH ["self","target","place","source","start","stop","row","items"] ["self","target","place","source","start","stop"] (aA nZ):=iW
theorem AK{f fS f3 fp:Addr}{g1 g2 g3:FuncData}(F:iH K "quote" "Library.quote" nZ f fd)(X:xB K mg C CS CW CB)(A1:Ho K mg CS)(A2:LI K mg)(A4:Yp K mg fS fZ)(A6:Wa K mg)(aT:bN K C "enter" "Library.enter" cC Ka f1 g1)(aR:bN K C "change" "Library.change" cU J3 f2 g2)(dQ:bN K C "shown" "Library.shown" jF Hq f3 g3)(FD:aC K mg "part" HR pO fp gp):aF P w K mg zt bI 6 f fd Ww (FA C CS CW CB):=by
 obtain⟨LM,_⟩:=X;have cI:aF P w K mg zt bI 5 _ _ J3 (qj C CS):=eX aR.F LM A1 A2 aT;have sr:aF P w K mg zt bI 5 _ _ Hq (Dr C CS):=uA dQ.F LM A1 A4;obtain⟨M,⟨fi,aJ⟩,nw,ns,Hl,nk,nd,GI,G⟩:=LM;obtain⟨⟨_,_,d1⟩,⟨_,_,d2⟩,⟨_,_,bf⟩,⟨_,_,d4⟩,⟨_,_,d7⟩,⟨_,_,bJ⟩,⟨_,_,d9⟩⟩:=A1;have cS:aF P w K mg zt bI 4 _ _ ki (tY CS):=gY bJ.F M d2 d4 d7;have b9:aF P w K mg zt bI 2 _ _ Hq (o6 CS):=ef bf.F M d1;obtain⟨T,⟨fj,bT⟩,n1,n2⟩:=M;obtain⟨⟨_,_,i1⟩,⟨_,_,i2⟩,⟨_,_,i3⟩,⟨_,_,i4⟩,⟨_,_,i5⟩,⟨_,_,i6⟩,⟨_,_,i7⟩,⟨_,_,i8⟩,⟨_,_,i9⟩,⟨_,_,SS⟩,⟨_,_,RK⟩,⟨_,_,dY⟩,⟨_,_,U6⟩,⟨_,_,jw⟩⟩:=A6;have aa2:aF P w K mg zt bI 3 _ _ pO MU:=UA FD.F T i6 i7 i4 RK;have rX:aF P w K mg zt bI 2 _ _ iP wW:=vZ dY.F T i4;have su:aF P w K mg zt bI 4 _ _ Pp qg:=uT jw.F T i1 i2 i3 i4 i5 i6 i7 i8 i9 SS RK dY U6;refine jg F qy λdH A zn s0 H vs Q E hr h=>?_;obtain⟨U,x,pe,aB,aP,nW,cj,t,p,s,a,b,rows,rfl,LB,hl,l1,l2,l3,ft,fp,fs,fa,fb,it,ia,k4⟩:=h;obtain⟨S,SW,d,wl,sh,bl,kn,du,bk,dS,st,op,dw,sg,ow,pw,db,tb,ops,LU⟩:=id LB;have lo:=qP LU.L hl;have hl':=iz hl;have lp:(qh pe).length=pe.length:=cR _;have ok:LH (qh pe) ops:=⟨by lia,by lia⟩;refine⟨_,(aj (bu (iy (eG (pv 0) rfl) bT bf b9 hr ck (aa (pv 1) ah))) (aj (bh (i:=6) qy.nd (aG FD aa2 hr (aa (iy (pv 0) aJ dQ sr hr ck (aa (pv 3) ah)) (aa (pv 4) (aa (pv 5) ah))))) (aj (bh (i:=7) qy.nd (aG jw su hr (aa (iD (eG (pv 0) rfl) bT bJ cS hr ck) (aa (pv 1) (aa (pv 2) (aa (aG dY rX hr (aa (pv 6) ah)) ah)))))) (au (bu (iy (pv 0) aJ aR cI hr ck (aa (dX (aa bK (aa (pv 1) (aa (pv 2) (aa (pv 3) (aa (pv 4) (aa (pv 5) ah))))))) (aa (pv 1) (aa (pv 7) ah))))))))),?_⟩;refine⟨_,rfl,x,C,d,_,.ref sh,rfl,LU.L.hx,aJ.cl,ns,rfl,sh,dS,_,rfl,LU.L.W.hx,rfl,_,rfl,S,sh,dS,st,op,qh pe,ops,t,rfl,LU.L.W,by rw[lo];exact it,?_⟩;refine⟨_,rfl,x,d,_,rfl,LU.L.hx,rfl,_,rfl,S,x,d,wl,sh,bl,kn,du,bk,dS,st,op,pe,ops,aB,rows,s,rfl,LU.L,hl,l1,l2,ia,?_⟩;obtain⟨f0,sn,i3,ip,k8⟩:=k4;refine⟨f0,sn,λo H1 ho s1 fo=>?_⟩;have ls:(f0 s).length<=10000:=sn.ln s ia.1 ia.2;have lr0:=oZ (f0 s);have tt:lS (cV (f0 s))=(f0 s).length:=Fy _;refine⟨_,rfl,_,rfl,o,cV (f0 s),a,b,rfl,ho,by lia,by rw[tt];exact i3,λq0 H2 Z3 s2 fq0=>?_⟩;have sJ:=s1.trans s2;have Pg:=LU.same sJ;refine⟨_,rfl,x,C,d,_,.ref sh,rfl,Pg.L.hx,aJ.cl,ns,rfl,sh,dS,_,rfl,Pg.L.W.hx,rfl,S,sh,dS,st,op,qh pe,ops,rfl,Pg.L.W,ok,λVZ el q H3 fs3 s3=>?_⟩;rw[hl']at el;cases el;have zP:=sJ.trans s3;have tl:t.toNat<rows.length:=by have:=it.1;have:=it.2;lia
 obtain⟨es,es1⟩:∃ es,rows[t.toNat]?=some es:=⟨_,pP tl⟩;have nnp:∀ {r:Row},n9 r->qB r:=λh p hp=>⟨(h p hp).1,by have:=(h p hp).2;lia⟩;have nn0:qB (cV (f0 s)):=nnp (E7 (uy sn.sd sn.rk sn.ss s ia.1 ia.2));have nn1:qB (cJ (qp a b 0 (cV (f0 s)))):=nnp (ur (CN a b _ 0 nn0))
 have lpl:(cJ (qp a b 0 (cV (f0 s)))).length<=10000:=by
  have:=wY a b (cV (f0 s));rw[BZ]at this;lia
 have epl:dP (cX (cJ (cJ (qp a b 0 (cV (f0 s))))))=((f0 s).take b.toNat).drop a.toNat:=by
  rw[ux,sY _ λq hq=>(nn1 q hq).2,uO _ _ _ (rN _),je]
 refine⟨_,rfl,_,rfl,_,rfl,q0,_,rfl,Z3.same s3,by lia,λoi H4 XZ s4 foi=>?_⟩;have OT:=zP.trans s4;refine⟨q,oi,rows,t,p,_,f0,rfl,⟨fs3.at_.same s4,by lia,sn.es,sn.sd,sn.rk,sn.ss,sn.ln⟩,it.1,it.2,XZ,zy (ur nn1),?_,ip,λzN q2 H5 vt jA s5 RL=>?_⟩
 ·rw[BZ];have:=qV (cJ (qp a b 0 (cV (f0 s))));lia
 rw[es1]at vt;cases vt;rw[epl]at jA;obtain⟨⟨fB,B⟩,k9⟩:=k8 es es1;have RP:=OT.trans s5;have Y7:=LU.same RP
 have RN:q2≠bk:=λe=>by
  have y:=(LU.same OT).L.hb;rw[← e,RL]at y;cases y
 refine⟨_,rfl,x,d,_,rfl,Y7.L.hx,rfl,_,rfl,_,rfl,_,rfl,_,rfl,_,rfl,aaf,λt' ht=>?_⟩;have s6:=ao ht (.tup [.str "quote",.int t,.int p,.int s,.int a,.int b]);have Wd:(aO H5 t' (.tup [.str "quote",.int t,.int p,.int s,.int a,.int b])) t'=some (.tup [.str "quote",.int t,.int p,.int s,.int a,.int b]):=af;generalize aO H5 t' (.tup [.str "quote",.int t,.int p,.int s,.int a,.int b])=H6 at s6 Wd;have Wb:=RP.trans s6;have RM:=LU.same Wb;have ss:((t.toNat:Nat):Int)=t:=by have:=it.1;lia
 refine⟨_,rfl,_,rfl,S,x,d,wl,sh,bl,kn,du,bk,dS,st,op,pe,ops,aB,t',q2,.plain qtW [t,p,s,a,b],t.toNat,_,rows,fB,by rw[ss];rfl,RM.L,(by show H6 t'=_;rw[Wd,yr];rfl),⟨(by show rY UN qtW=some 5;decide +kernel),?_⟩,jA.same s6,RN,hl,by lia,l1,l2,l3,B,λS' H8 L8 Ih=>?_⟩
 ·intro y hy;have b1:=ia.1;have b2:=it.1;unfold O9 at i3;rcases List.mem_cons.mp hy with e|hy
  ·rw[e];exact⟨b2,ft.big⟩
  rcases List.mem_cons.mp hy with e|hy
  ·rw[e];exact⟨ip.1,fp.big⟩
  rcases List.mem_cons.mp hy with e|hy
  ·rw[e];exact⟨b1,fs.big⟩
  rcases List.mem_cons.mp hy with e|hy
  ·rw[e];exact⟨by lia,fa.big⟩
  ·rw[List.mem_singleton.mp hy];exact⟨by lia,fb.big⟩
 ·obtain⟨U',hL',f'⟩:=RM.tL L8 Ih;exact k9 U' H8 hL' (f'.pre Wb)
abbrev wnW:List Nat:=(Str.ofString "window").cps.toList
inductive Jw(C CS CW CB:Addr)(vs:List V)(H:Hp)(Q:VK)(E:XK):Prop
 | mk (U:Addr->Prop) (x:Addr) (pe:nG) (aB:nJ) (aP:mj) (nW:Nat) (cj:Row) (t p s:Int) (rows:dJ) (_:vs=[.ref x,.int t,.int p,.int s]) (_:xS C CS CW CB U H x pe aB aP nW cj) (_:pe.getLast?=some rows) (_:rows.length<=50) (_:pe.length<=900) (_:aB.length<=900) (_:wO t) (_:wO p) (_:wO s)
  (_:yN rows.length t) (_:yN rows.length s) (_:(∃ sh,Seen rows sh/\(0<=p/\p<=(sh t).length)/\(∀ es,rows[t.toNat]?=some es->(∃ f,tG (mJ rows t.toNat (iT sh p es [-1-s])) f)/\
  ∀ (U':Addr->Prop) (H':Hp),xS C CS CW CB U' H' x (pe++[mJ rows t.toNat (iT sh p es [-1-s])]) (aB++[(oN.plain wnW [t,p,s]).line]) aP nW cj->Nh U U' H H'->Q .iZ H')))
theorem uC:aH ["self","target","place","source","items"] ["self","target","place","source"] (aA mQ):=iW
theorem zJ{f:Addr}{g1 g2:FuncData}(F:iH K "window" "Library.window" mQ f fd)(X:xB K mg C CS CW CB)(A1:Ho K mg CS)(A2:LI K mg)(A6:Wa K mg)(aT:bN K C "enter" "Library.enter" cC Ka f1 g1)(aR:bN K C "change" "Library.change" cU J3 f2 g2):aF P w K mg zt bI 6 f fd Wx (Jw C CS CW CB):=by
 obtain⟨LM,_⟩:=X;have cI:aF P w K mg zt bI 5 _ _ J3 (qj C CS):=eX aR.F LM A1 A2 aT;obtain⟨M,⟨fi,aJ⟩,nw,ns,Hl,nk,nd,GI,G⟩:=LM;obtain⟨⟨_,_,d1⟩,⟨_,_,d2⟩,⟨_,_,bf⟩,⟨_,_,d4⟩,⟨_,_,d7⟩,⟨_,_,bJ⟩,⟨_,_,d9⟩⟩:=A1;have cS:aF P w K mg zt bI 4 _ _ ki (tY CS):=gY bJ.F M d2 d4 d7;have b9:aF P w K mg zt bI 2 _ _ Hq (o6 CS):=ef bf.F M d1;obtain⟨T,⟨fj,bT⟩,n1,n2⟩:=M;obtain⟨⟨_,_,i1⟩,⟨_,_,i2⟩,⟨_,_,i3⟩,⟨_,_,i4⟩,⟨_,_,i5⟩,⟨_,_,i6⟩,⟨_,_,i7⟩,⟨_,_,i8⟩,⟨_,_,i9⟩,⟨_,_,SS⟩,⟨_,_,RK⟩,⟨_,_,dY⟩,⟨_,_,U6⟩,⟨_,_,jw⟩⟩:=A6;have su:aF P w K mg zt bI 4 _ _ Pp qg:=uT jw.F T i1 i2 i3 i4 i5 i6 i7 i8 i9 SS RK dY U6;refine jg F uC λdH A zn s0 H vs Q E hr h=>?_;obtain⟨U,x,pe,aB,aP,nW,cj,t,p,s,rows,rfl,LB,hl,l1,l2,l3,ft,fp,fs,it,ia,k4⟩:=h;obtain⟨S,SW,d,wl,sh,bl,kn,du,bk,dS,st,op,dw,sg,ow,pw,db,tb,ops,LU⟩:=id LB;have lo:=qP LU.L hl;have hl':=iz hl;have lp:(qh pe).length=pe.length:=cR _;have ok:LH (qh pe) ops:=⟨by lia,by lia⟩;refine⟨_,(aj (bu (iy (eG (pv 0) rfl) bT bf b9 hr ck (aa (pv 1) ah))) (aj (bu (iy (eG (pv 0) rfl) bT bf b9 hr ck (aa (pv 3) ah))) (aj (bh (i:=4) uC.nd (aG jw su hr (aa (iD (eG (pv 0) rfl) bT bJ cS hr ck) (aa (pv 1) (aa (pv 2) (aa (bO (aa (dX (aa bK (aa (pv 3) ah))) ah)) ah)))))) (au (bu (iy (pv 0) aJ aR cI hr ck (aa (dX (aa bK (aa (pv 1) (aa (pv 2) (aa (pv 3) ah))))) (aa (pv 1) (aa (pv 4) ah))))))))),?_⟩;refine⟨_,rfl,x,C,d,_,.ref sh,rfl,LU.L.hx,aJ.cl,ns,rfl,sh,dS,_,rfl,LU.L.W.hx,rfl,_,rfl,S,sh,dS,st,op,qh pe,ops,t,rfl,LU.L.W,by rw[lo];exact it,?_⟩;refine⟨_,rfl,x,C,d,_,.ref sh,rfl,LU.L.hx,aJ.cl,ns,rfl,sh,dS,_,rfl,LU.L.W.hx,rfl,_,rfl,S,sh,dS,st,op,qh pe,ops,s,rfl,LU.L.W,by rw[lo];exact ia,?_⟩;obtain⟨f0,sn,ip,k8⟩:=k4;refine⟨_,rfl,x,C,d,_,.ref sh,rfl,LU.L.hx,aJ.cl,ns,rfl,sh,dS,_,rfl,LU.L.W.hx,rfl,S,sh,dS,st,op,qh pe,ops,rfl,LU.L.W,ok,λVZ el q H1 UZ s1=>?_⟩;rw[hl']at el;cases el;have tl:t.toNat<rows.length:=by have:=it.1;have:=it.2;lia
 obtain⟨es,es1⟩:∃ es,rows[t.toNat]?=some es:=⟨_,pP tl⟩;refine⟨_,rfl,_,rfl,_,rfl,vW,λt2 Lc=>⟨qv,λo ho=>?_⟩⟩;have s2:=ao Lc (.tup [.str "win",.int s]);have t2':(aO H1 t2 (.tup [.str "win",.int s])) t2=some (.tup [.str "win",.int s]):=af;generalize aO H1 t2 (.tup [.str "win",.int s])=H2 at s2 t2' ho;have s3:=ao ho (.lst [.ref t2]);have o3:(aO H2 o (.lst [.ref t2])) o=some (.lst [.ref t2]):=af;show qg _ (aO H2 o (.lst [.ref t2])) _ _;generalize aO H2 o (.lst [.ref t2])=H3 at s3 o3;have zP:=s1.trans (s2.trans s3);have XZ:bR H3 (.ref o) [.win s]:=⟨o,_,rfl,o3,.cons ⟨t2,rfl,s3 _ _ t2'⟩ .nil⟩;refine⟨q,o,rows,t,p,[.win s],f0,rfl,⟨UZ.at_.same (s2.trans s3),by lia,sn.es,sn.sd,sn.rk,sn.ss,sn.ln⟩,it.1,it.2,XZ,.one ia.1,(by show 1<=10000;decide),ip,λzN q2 H5 vt jA s5 RL=>?_⟩;rw[es1]at vt;cases vt;rw[show dP [aV.win s]=[-1-s] from rfl]at jA;obtain⟨⟨fB,B⟩,k9⟩:=k8 es es1;have RP:=zP.trans s5;have Y7:=LU.same RP
 have RN:q2≠bk:=λe=>by
  have y:=(LU.same zP).L.hb;rw[← e,RL]at y;cases y
 refine⟨_,rfl,x,d,_,rfl,Y7.L.hx,rfl,_,rfl,_,rfl,_,rfl,D8,λt' ht=>?_⟩;have s6:=ao ht (.tup [.str "window",.int t,.int p,.int s]);have Wd:(aO H5 t' (.tup [.str "window",.int t,.int p,.int s])) t'=some (.tup [.str "window",.int t,.int p,.int s]):=af;generalize aO H5 t' (.tup [.str "window",.int t,.int p,.int s])=H6 at s6 Wd;have Wb:=RP.trans s6;have RM:=LU.same Wb;have ss:((t.toNat:Nat):Int)=t:=by have:=it.1;lia
 refine⟨_,rfl,_,rfl,S,x,d,wl,sh,bl,kn,du,bk,dS,st,op,pe,ops,aB,t',q2,.plain wnW [t,p,s],t.toNat,_,rows,fB,by rw[ss];rfl,RM.L,(by show H6 t'=_;rw[Wd,yr];rfl),⟨(by show rY UN wnW=some 3;decide +kernel),?_⟩,jA.same s6,RN,hl,by lia,l1,l2,l3,B,λS' H8 L8 Ih=>?_⟩
 ·intro y hy;have b1:=ia.1;have b2:=it.1;rcases List.mem_cons.mp hy with e|hy
  ·rw[e];exact⟨b2,ft.big⟩
  rcases List.mem_cons.mp hy with e|hy
  ·rw[e];exact⟨ip.1,fp.big⟩
  ·rw[List.mem_singleton.mp hy];exact⟨b1,fs.big⟩
 ·obtain⟨U',hL',f'⟩:=RM.tL L8 Ih;exact k9 U' H8 hL' (f'.pre Wb)
abbrev fxW:List Nat:=(Str.ofString "fix").cps.toList
inductive Wf(C CS CW CB:Addr)(vs:List V)(H:Hp)(Q:VK)(E:XK):Prop
 | mk (U:Addr->Prop) (x:Addr) (pe:nG) (aB:nJ) (aP:mj) (nW:Nat) (cj:Row) (t:Int) (rows:dJ) (_:vs=[.ref x,.int t]) (_:xS C CS CW CB U H x pe aB aP nW cj) (_:pe.getLast?=some rows) (_:rows.length<=50) (_:pe.length<=900) (_:aB.length<=900) (_:wO t)
  (_:yN rows.length t) (_:∃ sh,Seen rows sh/\(∃ f,tG (mJ rows t.toNat (sh t)) f)/\
  ∀ (U':Addr->Prop) (H':Hp),xS C CS CW CB U' H' x (pe++[mJ rows t.toNat (sh t)]) (aB++[(oN.plain fxW [t]).line]) aP nW cj->Nh U U' H H'->Q .iZ H')
theorem En:aH ["self","sheet"] ["self","sheet"] (aA qJ):=iW
theorem Dz{f f3:Addr}{g1 g2 g3 g4:FuncData}(F:iH K "fix" "Library.fix" qJ f fd)(X:xB K mg C CS CW CB)(A1:Ho K mg CS)(A2:LI K mg)(A6:Wa K mg)(aT:bN K C "enter" "Library.enter" cC Ka f1 g1)(aR:bN K C "change" "Library.change" cU J3 f2 g2)(l5:aC K mg "fixed_items" nQ vz f3 g3)(ny:aC K mg "shown" yi vz f4 g4):aF P w K mg zt bI 6 f fd Hq (Wf C CS CW CB):=by
 obtain⟨LM,_⟩:=X;have cI:aF P w K mg zt bI 5 _ _ J3 (qj C CS):=eX aR.F LM A1 A2 aT;obtain⟨M,⟨fi,aJ⟩,nw,ns,Hl,nk,nd,GI,G⟩:=LM;obtain⟨⟨_,_,d1⟩,⟨_,_,d2⟩,⟨_,_,bf⟩,⟨_,_,d4⟩,⟨_,_,d7⟩,⟨_,_,bJ⟩,⟨_,_,d9⟩⟩:=A1;have cS:aF P w K mg zt bI 4 _ _ ki (tY CS):=gY bJ.F M d2 d4 d7;have b9:aF P w K mg zt bI 2 _ _ Hq (o6 CS):=ef bf.F M d1;obtain⟨T,⟨fj,bT⟩,n1,n2⟩:=M;have A6':=A6;obtain⟨⟨_,_,i1⟩,⟨_,_,i2⟩,⟨_,_,i3⟩,⟨_,_,i4⟩,⟨_,_,i5⟩,⟨_,_,i6⟩,⟨_,_,i7⟩,⟨_,_,i8⟩,⟨_,_,i9⟩,⟨_,_,SS⟩,⟨_,_,RK⟩,⟨_,_,dY⟩,⟨_,_,U6⟩,⟨_,_,i14⟩⟩:=A6;have GP:aF P w K mg zt bI 5 _ _ vz M6:=De l5.F T i1 i2 i3 i4 i5 ny dY;refine jg F En λdH A zn s0 H vs Q E hr h=>?_;obtain⟨U,x,pe,aB,aP,nW,cj,t,rows,rfl,LB,hl,l1,l2,l3,ft,it,k2⟩:=h;obtain⟨S,SW,d,wl,sh,bl,kn,du,bk,dS,st,op,dw,sg,ow,pw,db,tb,ops,LU⟩:=id LB;have lo:=qP LU.L hl;have hl':=iz hl;have lp:(qh pe).length=pe.length:=cR _;have ok:LH (qh pe) ops:=⟨by lia,by lia⟩;refine⟨_,(aj (bu (iy (eG (pv 0) rfl) bT bf b9 hr ck (aa (pv 1) ah))) (au (bu (iy (pv 0) aJ aR cI hr ck (aa (dX (aa bK (aa (pv 1) ah))) (aa (pv 1) (aa (aG l5 GP hr (aa (iD (eG (pv 0) rfl) bT bJ cS hr ck) (aa (pv 1) ah))) ah))))))),?_⟩;refine⟨_,rfl,x,C,d,_,.ref sh,rfl,LU.L.hx,aJ.cl,ns,rfl,sh,dS,_,rfl,LU.L.W.hx,rfl,_,rfl,S,sh,dS,st,op,qh pe,ops,t,rfl,LU.L.W,by rw[lo];exact it,?_⟩;obtain⟨f0,sn,⟨fB,B⟩,k9⟩:=k2;refine⟨_,rfl,x,d,_,rfl,LU.L.hx,rfl,_,rfl,vW,λt' ht=>?_⟩;have s6:=ao ht (.tup [.str "fix",.int t]);have Wd:(aO H t' (.tup [.str "fix",.int t])) t'=some (.tup [.str "fix",.int t]):=af;generalize aO H t' (.tup [.str "fix",.int t])=H6 at s6 Wd;have RM:=LU.same s6;refine⟨_,rfl,_,rfl,x,C,d,_,.ref sh,rfl,RM.L.hx,aJ.cl,ns,rfl,sh,dS,_,rfl,RM.L.W.hx,rfl,S,sh,dS,st,op,qh pe,ops,rfl,RM.L.W,ok,λVZ el q H1 UZ s1=>?_⟩;rw[hl']at el;cases el;refine⟨_,rfl,q,rows,t,f0,rfl,⟨UZ.at_,by lia,sn.es,sn.sd,sn.rk,sn.ss,sn.ln⟩,it.1,it.2,λq2 H5 jA s5 RL=>?_⟩;have RP:=s6.trans (s1.trans s5);have Y7:=LU.same RP
 have RN:q2≠bk:=λe=>by
  have y:=(LU.same (s6.trans s1)).L.hb;rw[← e,RL]at y;cases y
 have ss:((t.toNat:Nat):Int)=t:=by have:=it.1;lia
 have tl:t.toNat<rows.length:=by have:=it.1;have:=it.2;lia
 refine⟨S,x,d,wl,sh,bl,kn,du,bk,dS,st,op,pe,ops,aB,t',q2,.plain fxW [t],t.toNat,_,rows,fB,by rw[ss];rfl,Y7.L,(by show H5 t'=_;rw[s5 _ _ (s1 _ _ Wd),yr];rfl),⟨(by show rY UN fxW=some 1;decide +kernel),?_⟩,jA,RN,hl,by lia,l1,l2,l3,B,λS' H8 L8 Ih=>?_⟩
 ·intro y hy;rw[List.mem_singleton.mp hy];exact⟨it.1,ft.big⟩
 ·obtain⟨U',hL',f'⟩:=Y7.tL L8 Ih;exact k9 U' H8 hL' (f'.pre RP)
abbrev mvW:List Nat:=(Str.ofString "move").cps.toList
inductive RQ(C CS CW CB:Addr)(vs:List V)(H:Hp)(Q:VK)(E:XK):Prop
 | mk (U:Addr->Prop) (x:Addr) (pe:nG) (aB:nJ) (aP:mj) (nW:Nat) (cj:Row) (s a b to:Int) (rows:dJ) (_:vs=[.ref x,.int s,.int a,.int b,.int to]) (_:xS C CS CW CB U H x pe aB aP nW cj) (_:pe.getLast?=some rows) (_:rows.length<=50) (_:pe.length<=900) (_:aB.length<=900) (_:wO s) (_:(-100000<a/\a<100000)) (_:(-100000<b/\b<100000)) (_:(-100000<to/\to<100000))
  (_:yN rows.length s) (_:∃ sh,Seen rows sh/\Mv a b to (sh s).length/\(∀ es,rows[s.toNat]?=some es->(∃ f,tG (mJ rows s.toNat (qK sh a b to es)) f)/\
  ∀ (U':Addr->Prop) (H':Hp),xS C CS CW CB U' H' x (pe++[mJ rows s.toNat (qK sh a b to es)]) (aB++[(oN.plain mvW [s,a,b,to]).line]) aP nW cj->Nh U U' H H'->Q .iZ H'))
theorem wm:aH ["self","sheet","start","stop","to","items"] ["self","sheet","start","stop","to"] (aA pD):=iW
theorem BI{f fp:Addr}{g1 g2:FuncData}(F:iH K "move" "Library.move" pD f fd)(X:xB K mg C CS CW CB)(A1:Ho K mg CS)(A2:LI K mg)(A6:Wa K mg)(aT:bN K C "enter" "Library.enter" cC Ka f1 g1)(aR:bN K C "change" "Library.change" cU J3 f2 g2)(l6:aC K mg "moved_items" nP Te fc gc)(ku:aC K mg "parted" sR Hs fp gp):aF P w K mg zt bI 6 f fd Wv (RQ C CS CW CB):=by
 obtain⟨LM,_⟩:=X;have cI:aF P w K mg zt bI 5 _ _ J3 (qj C CS):=eX aR.F LM A1 A2 aT;obtain⟨M,⟨fi,aJ⟩,nw,ns,Hl,nk,nd,GI,G⟩:=LM;obtain⟨⟨_,_,d1⟩,⟨_,_,d2⟩,⟨_,_,bf⟩,⟨_,_,d4⟩,⟨_,_,d7⟩,⟨_,_,bJ⟩,⟨_,_,d9⟩⟩:=A1;have cS:aF P w K mg zt bI 4 _ _ ki (tY CS):=gY bJ.F M d2 d4 d7;have b9:aF P w K mg zt bI 2 _ _ Hq (o6 CS):=ef bf.F M d1;obtain⟨T,⟨fj,bT⟩,n1,n2⟩:=M;obtain⟨⟨_,_,i1⟩,⟨_,_,i2⟩,⟨_,_,i3⟩,⟨_,_,i4⟩,⟨_,_,i5⟩,⟨_,_,i6⟩,⟨_,_,i7⟩,⟨_,_,i8⟩,⟨_,_,i9⟩,⟨_,_,SS⟩,⟨_,_,RK⟩,⟨_,_,i12⟩,⟨_,_,U6⟩,⟨_,_,i14⟩⟩:=A6;have GQ:aF P w K mg zt bI 4 _ _ Te xP:=Dd l6.F T i1 i2 i3 i4 i5 i6 i7 i8 i9 SS RK i12 ku U6;refine jg F wm λdH A zn s0 H vs Q E hr h=>?_;obtain⟨U,x,pe,aB,aP,nW,cj,s,a,b,to,rows,rfl,LB,hl,l1,l2,l3,fs,fa,fb,fo,ia,k2⟩:=h;obtain⟨S,SW,d,wl,sh,bl,kn,du,bk,dS,st,op,dw,sg,ow,pw,db,tb,ops,LU⟩:=id LB;have lo:=qP LU.L hl;have hl':=iz hl;have lp:(qh pe).length=pe.length:=cR _;have ok:LH (qh pe) ops:=⟨by lia,by lia⟩;refine⟨_,(aj (bu (iy (eG (pv 0) rfl) bT bf b9 hr ck (aa (pv 1) ah))) (aj (bh (i:=5) wm.nd (aG l6 GQ hr (aa (iD (eG (pv 0) rfl) bT bJ cS hr ck) (aa (pv 1) (aa (pv 2) (aa (pv 3) (aa (pv 4) ah))))))) (au (bu (iy (pv 0) aJ aR cI hr ck (aa (dX (aa bK (aa (pv 1) (aa (pv 2) (aa (pv 3) (aa (pv 4) ah)))))) (aa (pv 1) (aa (pv 5) ah)))))))),?_⟩;refine⟨_,rfl,x,C,d,_,.ref sh,rfl,LU.L.hx,aJ.cl,ns,rfl,sh,dS,_,rfl,LU.L.W.hx,rfl,_,rfl,S,sh,dS,st,op,qh pe,ops,s,rfl,LU.L.W,by rw[lo];exact ia,?_⟩;obtain⟨f0,sn,i3,k4⟩:=k2;refine⟨_,rfl,x,C,d,_,.ref sh,rfl,LU.L.hx,aJ.cl,ns,rfl,sh,dS,_,rfl,LU.L.W.hx,rfl,S,sh,dS,st,op,qh pe,ops,rfl,LU.L.W,ok,λVZ el q H1 UZ s1=>?_⟩;rw[hl']at el;cases el;have sl:s.toNat<rows.length:=by have:=ia.1;have:=ia.2;lia
 obtain⟨es,es1⟩:∃ es,rows[s.toNat]?=some es:=⟨_,pP sl⟩;refine⟨_,rfl,_,rfl,_,rfl,_,rfl,q,rows,s,a,b,to,f0,rfl,⟨UZ.at_,by lia,sn.es,sn.sd,sn.rk,sn.ss,sn.ln⟩,ia.1,ia.2,i3,λzN q2 H2 vt jA s2 RL=>?_⟩;rw[es1]at vt;cases vt;obtain⟨⟨fB,B⟩,k5⟩:=k4 es es1;have sJ:=s1.trans s2;have Pg:=LU.same sJ
 have RN:q2≠bk:=λe=>by
  have y:=(LU.same s1).L.hb;rw[← e,RL]at y;cases y
 refine⟨_,rfl,x,d,_,rfl,Pg.L.hx,rfl,_,rfl,_,rfl,_,rfl,_,rfl,X5,λt ht=>?_⟩;have s3:=ao ht (.tup [.str "move",.int s,.int a,.int b,.int to]);have UR:(aO H2 t (.tup [.str "move",.int s,.int a,.int b,.int to])) t=some (.tup [.str "move",.int s,.int a,.int b,.int to]):=af;generalize aO H2 t (.tup [.str "move",.int s,.int a,.int b,.int to])=H3 at s3 UR;have zP:=sJ.trans s3;have U7:=LU.same zP;have ss:((s.toNat:Nat):Int)=s:=by have:=ia.1;lia
 refine⟨_,rfl,_,rfl,S,x,d,wl,sh,bl,kn,du,bk,dS,st,op,pe,ops,aB,t,q2,.plain mvW [s,a,b,to],s.toNat,_,rows,fB,by rw[ss];rfl,U7.L,(by show H3 t=_;rw[UR,yr];rfl),⟨(by show rY UN mvW=some 4;decide +kernel),?_⟩,jA.same s3,RN,hl,by lia,l1,l2,l3,B,λS' H8 L8 Ih=>?_⟩
 ·intro y hy;have b1:=ia.1;have i4:=i3.1;have i5:=i3.2;unfold O9 at i4;rcases List.mem_cons.mp hy with e|hy
  ·rw[e];exact⟨b1,fs.big⟩
  rcases List.mem_cons.mp hy with e|hy
  ·rw[e];exact⟨by lia,(wO.Yj fa).big⟩
  rcases List.mem_cons.mp hy with e|hy
  ·rw[e];exact⟨by lia,(wO.Yj fb).big⟩
  ·rw[List.mem_singleton.mp hy];exact⟨by lia,(wO.Yj fo).big⟩
 ·obtain⟨U',hL',f'⟩:=U7.tL L8 Ih;exact k5 U' H8 hL' (f'.pre zP)
theorem Jx{K:PySem.W.Frag}{a:Addr}{xs:List V}{g:TG}{tt:TT}{Hh:TI}{g2:TG}{Hi:TT}{te:TE}{σ0:L2.St}{H:Hp}{Q:VK}(Pv:Nat->L2.St->Hp->Prop)(h0:Pv 0 σ0 H)(hl:∀ i σ H,i<=xs.length->Pv i σ H->bQ K H a xs)
  (hs:∀ (i:Nat) x p σ H,xs[i]?=some x->H p=none->Pv i σ H->g (.ref p) σ (aO H p (.tup [.int i,x])) fun σ2 H2=>tt σ2 H2 λb H3=>if b=true then F4 Hh acc g2 Hi te σ2 H3 (Pv (i+1)) else Pv (i+1) σ2 H3)
  (hd:∀ σ H,Pv xs.length σ H->Q (.ref acc) H):CH (Ite K a) acc g tt Hh g2 Hi te σ0 H Q:=by
 refine⟨λi m σ H=>m=xs.length-i/\i<=xs.length/\Pv i σ H,⟨xs.length,by simp,Nat.zero_le _,h0⟩,?_⟩;rintro i m σ H ⟨rfl,hi,p⟩;have q:=hl i σ H hi p;by_cases vQ:i<xs.length
 ·refine .inr ⟨⟨xs,xs[i],q,by simp[vQ]⟩,Pv (i+1),fun σ' H' p'=>⟨xs.length-(i+1),by lia,rfl,vQ,p'⟩,λx H' y=>?_⟩;obtain⟨b,x',Ze,rfl,rfl,e1⟩:=y;exact hs i x' b σ _ (e1 xs q) Ze p
 ·have e:i=xs.length:=by lia
  subst e;exact .inl ⟨⟨xs,q,ja _⟩,hd σ H p⟩
inductive Jy(C CS:Addr)(vs:List V)(H:Hp)(Q:VK)(E:XK):Prop
 | mk (S:Addr->Prop) (x d wl sh bl kn du bk dS st op:Addr) (pe:nG) (ops:List Int) (aB:nJ) (rows:dJ) (f:Int->List Int) (_:vs=[.ref x]) (_:lg C CS S H x d wl sh bl kn du bk dS st op (qh pe) ops aB) (_:pe.getLast?=some rows) (_:rows.length<=50) (_:pe.length<=900) (_:Seen rows f) (_:∀ (o:Addr) (qs:List Addr) (H':Hp),H' o=some (.lst (qs.map V.ref))->qs.length=rows.length->(∀ (i:Nat) (a:Addr),qs[i]?=some a->cM H' a (cV (f i)))->aM H H'->H o=none->Q (.ref o) H')
theorem qz:aH ["self","sheets","told"] ["self"] (aA kL):=iW
theorem AL{f fS:Addr}(F:iH K "views" "Library.views" kL f fd)(L:Ek K mg C CS)(A1:Ho K mg CS)(A4:Yp K mg fS fZ)(eN:bN K C "many" "Library.many" j6 ki fM gM):aF P w K mg zt bI 5 f fd ki (Jy C CS):=by
 obtain⟨⟨_,_,d1⟩,⟨_,_,d2⟩,_,⟨_,_,d4⟩,⟨_,_,d7⟩,⟨_,_,bJ⟩,_⟩:=A1;obtain⟨⟨_,_,w1⟩,⟨_,_,w2⟩,⟨_,_,w3⟩,⟨_,_,w4⟩,⟨_,_,cy⟩,_⟩:=A4;have tZ:aF P w K mg zt bI 2 _ _ ki (GJ C CS):=vp eN.F L d1;obtain⟨M,⟨fi,aJ⟩,nw,ns,Hl,nk,nd,GI,G⟩:=L;have cS:aF P w K mg zt bI 4 _ _ ki (tY CS):=gY bJ.F M d2 d4 d7;obtain⟨T,⟨fj,bT⟩,n1,n2⟩:=M;have iK:aF P w K mg zt bI 3 _ _ mU wV:=kU cy.F T w1 w2 w3 w4;refine jg F qz λdH A zn s H vs Q E hr h=>?_;obtain⟨S,x,d,wl,sh,bl,kn,du,bk,dS,st,op,pe,ops,aB,rows,f0,rfl,L,hl,l1,l2,sn,k⟩:=h;have hu:=kj hr;have lo:=qP L hl;have lp:(qh pe).length=pe.length:=cR _;have hl':=iz hl;refine⟨_,(aj (bh (i:=1) qz.nd (gJ (tS rfl) rfl T.nh xX (aa (gJ zh rfl T.mR PyProof.Rows.boot_range (aa (iD (pv 0) aJ eN tZ hr ck) ah)) ah))) (aj (bh (i:=2) qz.nd (aG cy iK hr (aa (iD (eG (pv 0) rfl) bT bJ cS hr ck) (aa (pv 1) ah)))) (au (aN (jX (N:=["sheet","told"]) (rR (sc:=aA kL) (NX:=["self","sheets","told"]) (jx:=[none,some 2]) rfl rfl rfl (by decide +kernel) (by decide +kernel) rfl (by decide +kernel) rfl (by decide +kernel)) rfl (dc (pv 1)) (λ_ _ _ _ _ _=>(cB (i:=0) (show List.Nodup (["sheet","told"]:List Str) by decide +kernel))) (λ_ _ _ _ _ _=>ko) (λ_ _ _ _ _ _=>(kq hu (pv 1) (pv 0)))))))),?_⟩;refine⟨_,rfl,x,d,_,rfl,L.hx,rfl,S,x,d,wl,sh,bl,kn,du,bk,dS,st,op,qh pe,ops,aB,rfl,L,?_⟩;rw[lo];refine⟨_,rfl,λp hp=>⟨p,_,_,rfl,af,⟨by lia,by lia,by lia,by lia⟩,j9 (aU (by lia)),λm hm=>?_⟩⟩;have s1:aM H (aO (aO H p (.DV 0 (rows.length:Nat))) m (.lst (zb 0 (((rows.length:Nat):Int)-0).toNat))):=(ao hp _).trans (ao hm _)
 have h1:(aO (aO H p (.DV 0 (rows.length:Nat))) m (.lst (zb 0 (((rows.length:Nat):Int)-0).toNat))) m=some (.lst ((run 0 rows.length).map V.int)):=by
  rw[af,zc,show (((rows.length:Nat):Int)-0).toNat=rows.length by lia]
 generalize aO (aO H p (.DV 0 (rows.length:Nat))) m (.lst (zb 0 (((rows.length:Nat):Int)-0).toNat))=H1 at s1 h1;have L1:=L.same s1;refine⟨_,rfl,x,C,d,_,.ref sh,rfl,L1.hx,aJ.cl,ns,rfl,sh,dS,_,rfl,L1.W.hx,rfl,S,sh,dS,st,op,qh pe,ops,rfl,L1.W,⟨by lia,by lia⟩,λVZ el q H2 fs2 s2=>?_⟩;rw[hl']at el;cases el;obtain⟨fq,rs,hq,al⟩:=fs2
 have hR:jf H2 q (rows.map aI):=by
  refine⟨rs.map V.ref,hq,?_⟩
  have key:∀ {as:List Addr} {ds:List (List aV)},cE (λr aQ=>H1 r=none/\r≠q/\bR H2 (.ref r) aQ) as ds->cE (bR H2) (as.map V.ref) ds:=by
   intro as ds z
   induction z with
   | nil=>exact .nil
   | cons o t ih=>exact .cons o.2.2 ih
  exact key al
 have rin:∀ y∈run 0 rows.length,0<=y/\y<(rows.length:Nat):=λy hy=>by
  have:=Gf.mp hy;lia
 refine⟨_,rfl,q,m,rows,run 0 rows.length,f0,rfl,hR,s2 _ _ h1,by rw[gR];lia,by lia,sn.es,sn.sd,sn.rk,rin,sn.ss,sn.ln,λD kvs ks H3 hD hv tp sk hn s3 _=>?_⟩;have zP:=s2.trans s3;refine⟨_,rfl,m,rfl,⟨_,bQ.of (zP _ _ h1)⟩,λacc dh=>jS (K:=K) (a:=m) (xs:=(run 0 rows.length).map V.int) (λj σ H4=>∃ (u:Option V) (qs:List Addr),σ=[u,some (.ref D)]/\H4 acc=some (.lst (qs.map V.ref))/\qs.length=j/\(∀ (i:Nat) (a:Addr),qs[i]?=some a->cM H3 a (cV (f0 i)))/\aM H3 H4) ⟨none,[],rfl,af,rfl,(λi a e=>by cases e),ao dh _⟩ (λi σ H4 _ h=>by obtain⟨_,_,_,_,_,_,s4⟩:=h;exact bQ.of (s4 _ _ (zP _ _ h1))) ?_ ?_⟩
 ·rintro j v σ H4 hj ⟨u,qs,rfl,h4,l4,r4,s4⟩;rw[kF]at hj;obtain⟨y,ey,rfl⟩:=Option.map_eq_some_iff.mp hj;have jl:=(List.getElem?_eq_some_iff.mp ey).1;rw[gR]at jl
  have yj:y=j:=by
   have z:=F7 0 rows.length j jl;rw[ey]at z;cases z;lia
  obtain⟨a,ha,Ra⟩:=hv y (sk y (vf ey));have z:=ng.k (k:=Sum.inl y) (s4 _ _ hD);rw[ha]at z;refine T8 (mD ⟨_,rfl,_,rfl,D,_,rfl,z,_,h4,(by rw[cR];exact aU (by lia)),_,qs++[a],rfl,?_,?_,?_,bX dh s4 (aL acc _ _)⟩)
  ·rw[af,j5];rfl
  ·rw[dM,l4];rfl
  ·intro i b e;by_cases c:i<qs.length
   ·rw[List.getElem?_append_left c]at e;exact r4 i b e
   ·rw[List.getElem?_append_right (by lia)]at e;have i0:=(List.getElem?_eq_some_iff.mp e).1;rw[vK]at i0;rw[show i-qs.length=0 by lia]at e;cases e;rw[yj]at Ra;rw[show i=j by lia];exact Ra
 ·rintro σ H4 ⟨u,qs,rfl,h4,l4,r4,s4⟩;rw[cR,gR]at l4;exact k acc qs H4 h4 l4 (λi a e=>(r4 i a e).same s4) (s1.trans (zP.trans s4)) (aZ s1 (aZ zP dh))
inductive FE(C CS CW CB XN:Addr)(vs:List V)(H:Hp)(Q:VK)(E:XK):Prop
 | mk (U:Addr->Prop) (x:Addr) (pe:nG) (aB:nJ) (aP:mj) (nW:Nat) (cj:Row) (rows:dJ) (f:Int->List Int) (a:Int) (_:vs=[.ref x,.int a]) (_:xS C CS CW CB U H x pe aB aP nW cj) (_:pe.getLast?=some rows) (_:rows.length<=50) (_:pe.length<=900) (_:aP.length<=100000) (_:wO a) (_:Seen rows f) (_:∀ s:Nat,s<rows.length->(f s).length<=200) (_:SQ aP a->∀ (o:Addr) (H':Hp),cM H' o (CV a f rows.length)->aM H H'->Q (.ref o) H') (_:¬ SQ aP a->E (.ref XN) none H)
theorem AM:aH ["self","address"] ["self","address"] (aA jW):=iW
theorem zK{f fS fW:Addr}(F:iH K "places" "Library.places" jW f fd)(X:xB K mg C CS CW CB)(A1:Ho K mg CS)(A4:Yp K mg fS fZ)(j8:Ut K mg "OutOfInk" XN)(eN:bN K C "many" "Library.many" j6 ki fM gM)(oB:bN K C "views" "Library.views" kL ki fV gV)(xj:aC K mg "places" BQ ["row","address"] fP gP)(cQ:bN K CW "size" "Well.size" kK ki fW gW)(jC:bN K CW "check_address" "Well.check_address" jB YH fA gA):aF P w K mg zt (O8 P w) 6 f fd YH (FE C CS CW CB XN):=by
 have DA:aF P w K mg zt bI 5 _ _ ki (Jy C CS):=AL oB.F X.1 A1 A4 eN;obtain⟨⟨⟨T,_⟩,⟨fi,aJ⟩,nw,_⟩,⟨_,iG⟩,w1,_⟩:=X;have xE:aF P w K mg zt (O8 P w) 2 _ _ YH (Jk CW XN):=vG jC.F T iG w1 j8 cQ;have U8:aF P w K mg zt bI 1 _ _ ["row","address"] Ig:=Ou xj.F;refine okY F AM λdH A zn s H vs Q E hr h=>?_;obtain⟨U,x,pe,aB,aP,nW,cj,rows,f0,a,rfl,⟨S,SW,d,wl,sh,bl,kn,du,bk,dS,st,op,dw,sg,ow,pw,db,tb,ops,LU⟩,hl,l1,l2,li,fa,sn,sl,k1,k2⟩:=h;refine⟨_,(aj (bu (iy (eG (pv 0) rfl) iG jC xE hr Z4 (aa (pv 1) ah))) (au (aN (E4 (N:=["sheet","row","place","address"]) (rR (sc:=aA jW) (NX:=["self","address"]) (jx:=[none,none,none,some 1]) rfl rfl rfl (by decide +kernel) (by decide +kernel) rfl (by decide +kernel) rfl (by decide +kernel)) rfl (Uu rfl T.IJ (aa (iD (pv 0) aJ oB DA hr ck) ah)) (λ_ _ _ _ _ _=>(zg (n:=2) rfl (bZ (cB (i:=0) (show List.Nodup (["sheet","row","place","address"]:List Str) by decide +kernel)) (bZ (cB (i:=1) (show List.Nodup (["sheet","row","place","address"]:List Str) by decide +kernel)) jO)))) (λ_ _ _ _ _ _=>ko) (λ_ _ _ _ _ _=>(IA (iV.wU xj (T.Bv _ xj.m) U8 hr (aa (pv 1) (aa (pv 3) ah))))) (λ_ _ _ _ _ _=>(cB (i:=2) (show List.Nodup (["sheet","row","place","address"]:List Str) by decide +kernel))) (λ_ _ _ _ _ _=>ko) (λ_ _ _ _ _ _=>(dX (aa (pv 0) (aa (pv 2) ah)))))))),?_⟩;refine⟨_,rfl,x,C,d,_,.ref wl,rfl,LU.L.hx,aJ.cl,nw,rfl,wl,dw,_,rfl,LU.W.hx,rfl,_,rfl,SW,wl,dw,sg,ow,pw,nW,aP,a,rfl,LU.W,fa,li,λiw=>?_,k2⟩;refine⟨_,rfl,x,d,_,rfl,LU.L.hx,rfl,S,x,d,wl,sh,bl,kn,du,bk,dS,st,op,pe,ops,aB,rows,f0,rfl,LU.L,hl,l1,l2,sn,λo qs H1 ho lq rq s1 fo=>?_⟩;have tl:∀ n:Nat,n<=rows.length->(CV a f0 n).length<=10000:=λn hn=>lJ (CY (m:=200) λs hs=>sl s (by lia)) (by lia);refine⟨o,_,rfl,bQ.of ho,λacc dh=>Jx (K:=K) (a:=o) (xs:=qs.map V.ref) (λj σ H2=>∃ (u0 u1 u2:Option V) (bs:List Addr),σ=[u0,u1,u2,some (.int a)]/\H2 acc=some (.lst (bs.map V.ref))/\bL H2 bs (CV a f0 j)/\aM H1 H2) ⟨none,none,none,[],rfl,af,.nil,ao dh _⟩ (λi σ H2 _ h=>by obtain⟨_,_,_,_,_,_,_,s2⟩:=h;exact bQ.of (s2 _ _ ho)) ?_ ?_⟩
 ·rintro j v p σ H2 hj hp ⟨u0,u1,u2,bs,rfl,h2,p2,s2⟩;rw[kF]at hj;obtain⟨q,eq,rfl⟩:=Option.map_eq_some_iff.mp hj;have jl:=(List.getElem?_eq_some_iff.mp eq).1;have s3:=ao hp (.tup [.int j,.ref q]);refine⟨p,_,rfl,eL.of af,rfl,_,_,rfl,_,_,rfl,rfl,yes (mD ?_)⟩;generalize aO H2 p (.tup [.int j,.ref q])=H3 at s3;have h3:=s3 _ _ h2;have rq3:=(rq j q eq).same (s2.trans s3);have lr:=oZ (f0 j);have fl:=sl j (by lia);refine⟨_,rfl,_,rfl,q,cV (f0 j),a,rfl,rq3,by lia,λm H4 hm s4 fm=>?_⟩;rw[Ov]at hm;have h4:=s4 _ _ h3;have nm:m≠acc:=(az h3 fm).symm;have il:=zp a (f0 j) 0;have tj:=tl j (by lia);have lb:=p2.len;refine⟨m,rfl,⟨_,bQ.of hm⟩,CJ (K:=K) (a:=m) (acc:=acc) (xs:=(DS a 0 (f0 j)).map V.int) (λi σ H5=>∃ (u2:Option V) (cs:List Addr),σ=[some (.int (j:Nat)),some (.ref q),u2,some (.int a)]/\H5 acc=some (.lst ((bs++cs).map V.ref))/\bL H5 (bs++cs) (CV a f0 j++((DS a 0 (f0 j)).take i).map λp=>((j:Int),p))/\cs.length=i/\cT acc H4 H5/\aM H1 H5) ⟨u2,[],rfl,by rw[jo];exact h4,by rw[jo,List.take_zero,List.map_nil,jo];exact (p2.same s3).same s4,rfl,λ_ _ e _=>e,s2.trans (s3.trans s4)⟩ ?_ ?_ ?_⟩
  ·rintro i σ H5 _ ⟨_,_,_,_,_,_,K5,_⟩;exact bQ.of (K5 m _ hm nm)
  ·rintro i y σ H5 hi ⟨u2,cs,rfl,h5,p5,lc,K5,s5⟩;rw[kF]at hi;obtain⟨y,ey,rfl⟩:=Option.map_eq_some_iff.mp hi;have yl:=(List.getElem?_eq_some_iff.mp ey).1;refine T8 (mD ⟨_,rfl,_,rfl,vW,λt ht=>⟨_,ao ht _ _ _ h5,?_,_,cs++[t],rfl,?_,?_,?_,?_,?_⟩⟩)
   ·rw[cR,dM];exact aU (by lia)
   ·rw[af,← pQ,j5 (l₁:=bs++cs)];rfl
   ·have h6:=ao ht (.tup [.int (j:Nat),.int y]) _ _ h5;have K6:=aL acc (aO H5 t (.tup [.int (j:Nat),.int y])) (.lst ((bs++cs).map V.ref++[.ref t]));rw[take_snoc ey,j5 (f:=λp=>((j:Int),p)),← pQ,← pQ];exact bL.snoc ((p5.same (ao ht _)).keep h6 K6) (K6 t _ af (az h5 ht).symm)
   ·rw[dM,lc];rfl
   ·exact λb ob e n=>by rw[aK n];exact ao ht _ _ _ (K5 b ob e n)
   ·exact bX dh (s5.trans (ao ht _)) (aL acc _ _)
  ·rintro σ H5 ⟨u2,cs,rfl,h5,p5,lc,K5,s5⟩;rw[cR,lI]at p5;exact⟨_,_,_,_,rfl,h5,(by rw[An];exact p5),s5⟩
 ·rintro σ H2 ⟨u0,u1,u2,bs,rfl,h2,p2,s2⟩;rw[cR,lq]at p2;exact k1 iw acc H2 ⟨bs,h2,p2⟩ (s1.trans s2)
theorem RS{z:Str}{i:Int}{n:Nat}(hn:z.length=n)(h0:0<=i)(h1:i<n):∃ c,vC z.cps.toList i=some c:=by
 have hl:i.toNat<z.cps.toList.length:=by
  have:z.cps.toList.length=z.length:=by show _=z.cps.size;simp
  lia
 refine⟨z.cps.toList[i.toNat],?_⟩;have e:vC z.cps.toList ((i.toNat:Nat):Int)=some z.cps.toList[i.toNat]:=gz (by simp);rw[Int.toNat_of_nonneg h0]at e;exact e
inductive Nl(vs:List V)(H:Hp)(Q:VK)(E:XK):Prop
 | mk (l c:Addr) (b:Bool) (_:vs=[.ref l,.bl b]) (_:d8 H l c) (_: ∀ (ch:Nat) (H':Hp),d8 H' l c->(∀ a,a≠l->H' a=H a)->Q (E9 ch) H')
inductive Nm(vs:List V)(H:Hp)(Q:VK)(E:XK):Prop
 | mk (l c:Addr) (m:Nat) (_:vs=[.ref l,.int (m:Nat)]) (_:d8 H l c) (_:m<=1000) (_: ∀ (cs:List Nat) (H':Hp),cs.length=m->d8 H' l c->cT l H H'->Q (.str (iU cs)) H')
theorem Bh:aH ["_law_src_here","_law_few","_law_some"] ["_law_src_here","_law_few"] (aA oV):=iW
theorem Bj:aH ["_law_src_here","_law_many","_law_few"] ["_law_src_here","_law_many"] (aA oW):=iW
theorem Jz{f:Addr}(F:iH K "_law_sign" "_law_sign" oV f fd)(T:nI mg)(aS:aC K mg "_law_next" jq xo fN Ro):aF P w K mg zt bI 2 f fd Pq Nl:=by
 have bH:aF P w K mg zt bI 1 fN Ro xo tT:=jN aS.F T;refine jg F Bh λdH A zn s H vs Q E hr h=>?_;obtain⟨l,c,b,rfl,S,k⟩:=h;refine⟨_,(aj (bh (i:=2) Bh.nd bK) (aj (bU (rC (pv 1) (λ_=>rfl)) (au (aN (aX P4 bK (aG aS bH hr (aa (pv 0) (aa ay ah)))))) br) (au (aN (aX P4 (pv 2) (aG aS bH hr (aa (pv 0) (aa ay ah)))))))),?_⟩;refine⟨_,rfl,b,rfl,dN (λ_=>?_) (λ_=>?_)⟩
 ·refine⟨_,rfl,l,c,4,rfl,S,by decide,by decide,λv H1 a0 a1 S1 k1=>?_⟩;obtain⟨ch,e⟩:=RS (z:=Str.ofString "a# b") (n:=4) (by decide +kernel) a0 a1;exact⟨_,_,ch,rfl,rfl,(by decide +kernel),e,k ch H1 S1 k1⟩
 ·refine⟨_,rfl,_,rfl,l,c,94,rfl,S,by decide,by decide,λv H1 a0 a1 S1 k1=>?_⟩;obtain⟨ch,e⟩:=RS (z:=Str.ofString " !\"#$&'()*+,-./0123456789:;<=>?@ABCDEFGHIJKLMNOPQRSTUVWXYZ[\\]^_`abcdefghijklmnopqrstuvwxyz{|}~") (n:=94) (by decide +kernel) a0 a1;exact⟨_,_,ch,rfl,rfl,(by decide +kernel),e,k ch H1 S1 k1⟩
theorem JA{f fS:Addr}(F:iH K "_law_text" "_law_text" oW f fd)(T:nI mg)(aS:aC K mg "_law_next" jq xo fN Ro)(lD:aC K mg "_law_sign" oV Pq fS Oq):aF P w K mg zt bI 3 f fd Tf Nm:=by
 have bH:aF P w K mg zt bI 1 fN Ro xo tT:=jN aS.F T;have LO:aF P w K mg zt bI 2 fS Oq Pq Nl:=Jz lD.F T aS;refine jg F Bj λdH A zn s H vs Q E hr h=>?_;obtain⟨l,c,m,rfl,S,hm,k⟩:=h;refine⟨_,(aj (bh (i:=2) Bj.nd (sN ig (aG aS bH hr (aa (pv 0) (aa ay ah))) ay (bC _))) (au (aN (iu PySem.F.plainAttrs_str PySem.F.slot_str_join PySem.F.type_str_join Q0 bK (aa (jX (N:=["_law_k","_law_src_here","_law_few"]) (rR (sc:=aA oW) (NX:=["_law_src_here","_law_many","_law_few"]) (jx:=[none,some 0,some 2]) rfl rfl rfl (by decide +kernel) (by decide +kernel) rfl (by decide +kernel) rfl (by decide +kernel)) rfl (lK rfl T.mR (aa (pv 1) ah)) (λ_ _ _ _ _ _=>(cB (i:=0) (show List.Nodup (["_law_k","_law_src_here","_law_few"]:List Str) by decide +kernel))) (λ_ _ _ _ _ _=>ko) (λ_ _ _ _ _ _=>(aG lD LO hr (aa (pv 1) (aa (pv 2) ah))))) ah))))),?_⟩;refine⟨_,rfl,l,c,2,rfl,S,by decide,by decide,λv H1 _ _ S1 k1=>⟨rfl,?_⟩⟩;have K1:cT l H H1:=λb o e m=>(k1 b m).trans e;refine⟨rfl,_,rfl,(m:Nat),rfl,by lia,by lia,λacc dh=>vV (lo:=0) (k:=((m:Nat):Int).toNat) (λi σ H2=>∃ (u:Option V) (cs:List Nat),σ=[u,some (.ref l),some (.bl (decide (V.int v=V.int 0)))]/\H2 acc=some (.lst (cs.map E9))/\cs.length=i/\d8 H2 l c/\cT l H H2) ⟨none,[],rfl,af,rfl,S1.same (ao dh _),λb o e m=>ao dh _ _ _ (K1 _ _ e m)⟩ ?_ ?_⟩
 ·rintro i σ H2 hi ⟨u,cs,rfl,ha,hl,S2,K2⟩;have na:acc≠l:=(S1.ne dh).1.symm;have nc:acc≠c:=(S1.ne dh).2.symm;refine⟨_,rfl,_,rfl,l,c,_,rfl,S2,λch H3 S3 k3=>⟨_,by rw[k3 acc na];exact ha,(by rw[cR];exact aU (by lia)),_,cs++[ch],rfl,?_,?_,?_,?_⟩⟩
  ·rw[af,j5];rfl
  ·rw[dM,hl];rfl
  ·exact S3.keep (aL acc _ _) na.symm nc.symm
  ·intro b o e m;by_cases z:b=acc
   ·rw[z]at e;have:=lT K1 na dh;rw[this]at e;cases e
   rw[aK z,k3 b m];exact K2 _ _ e m
 ·rintro σ H2 ⟨u,cs,rfl,ha,hl,S2,K2⟩;have hl':cs.length=m:=by lia
  exact⟨acc,cs,rfl,rfl,ha,by lia,k cs H2 hl' S2 K2⟩
theorem GR{α β:Type}{F:α->β->Prop}{xs:List α}{ys:List β}{x:α}{y:β}(h:Paired F xs ys)(e:F x y):Paired F (xs++[x]) (ys++[y]):=by
 induction h with
 | nil=>exact .cons e .nil
 | cons r _ ih=>exact .cons r ih
theorem Eo{α β:Type}{F:α->β->Prop}{xs xs':List α}{ys ys':List β}(h:Paired F xs ys)(t:Paired F xs' ys'):Paired F (xs++xs') (ys++ys'):=by
 induction h with
 | nil=>exact t
 | cons e _ ih=>exact .cons e ih
def Nn(H:Hp)(a:Addr)(q:Int × Nat):Prop:=H a=some (.tup [.int q.1,E9 q.2])
inductive GS(H:Hp)(v:Addr)(aP:mj):Prop
 | mk (as:List Addr) (_:H v=some (.lst (as.map V.ref))) (_:Paired (Nn H) as aP)
abbrev kI:iL:=.inr (Str.ofString "ink")
abbrev kR:iL:=.inr (Str.ofString "rows")
abbrev kP:iL:=.inr (Str.ofString "past")
abbrev kVl:iL:=.inr (Str.ofString "veil")
abbrev yO(ik rw ps vl:Addr):List (iL × V):=[(kI,.ref ik),(kR,.ref rw),(kP,.ref ps),(kVl,.ref vl)]
def Wg(W:Addr->Prop)(ik ps:Addr)(H:Hp)(v:V)(es:List Int):Prop:=∃ b,v=.ref b/\W b/\b≠ik/\b≠ps/\H b=some (.lst (es.map V.int))
def Ph(W:Addr->Prop)(ik ps:Addr)(H:Hp)(a:Addr)(rows:dJ):Prop:=W a/\a≠ik/\a≠ps/\∃ vs,H a=some (.lst vs)/\cE (Wg W ik ps H) vs rows
structure OV(W:Addr->Prop)(H:Hp)(w ik rw ps vl:Addr)(aP:mj)(pe:nG)(rows:dJ):Prop where
 ww:W w
 wi:W ik
 wp:W ps
 wv:W vl
 al:∀ a,W a->∃ ob,H a=some ob
 hw:H w=some (.dK (yO ik rw ps vl))
 hi:GS H ik aP
 hr:Ph W ik ps H rw rows
 hp:∃ vs,H ps=some (.lst vs)/\cE (λv rs=>∃ a,v=.ref a/\Ph W ik ps H a rs) vs pe
 ne:ik≠ps
 lst:pe.getLast?=some rows
def Wo(W:Addr->Prop)(H:Hp)(w:Addr)(aP:mj)(pe:nG)(rows:dJ):Prop:=∃ ik rw ps vl,OV W H w ik rw ps vl aP pe rows
theorem Wg.fr{W W':Addr->Prop}{ik:Addr}{H H':Hp}{v:V}{es:List Int}(s:∀ a,W a->W' a)(k:∀ a xs,H a=some (.lst xs)->W a->a≠ik->a≠ps->H' a=some (.lst xs)):Wg W ik ps H v es->Wg W' ik ps H' v es:=λ⟨b,e,w,n1,n2,h⟩=>⟨b,e,s _ w,n1,n2,k _ _ h w n1 n2⟩
theorem Ph.fr{W W':Addr->Prop}{ik:Addr}{H H':Hp}{a:Addr}{rows:dJ}(s:∀ a,W a->W' a)(k:∀ a xs,H a=some (.lst xs)->W a->a≠ik->a≠ps->H' a=some (.lst xs)):Ph W ik ps H a rows->Ph W' ik ps H' a rows:=λ⟨w,n1,n2,vs,h,al⟩=>⟨s _ w,n1,n2,vs,k _ _ h w n1 n2,al.mono λ_ _=>Wg.fr s k⟩
theorem GS.two{H H':Hp}{aP:mj}(h:GS H v aP)(k:∀ xs,H v=some (.lst xs)->H' v=some (.lst xs))(t:∀ a xs,H a=some (.tup xs)->H' a=some (.tup xs)):GS H' v aP:=by
 obtain⟨as,hv,pa⟩:=h;exact⟨as,k _ hv,Paired.Kg pa λa q e=>t _ _ e⟩
theorem OV.fr{W:Addr->Prop}{H H':Hp}{w ik rw:Addr}{aP:mj}{pe:nG}{rows:dJ}(h:OV W H w ik rw ps vl aP pe rows)(k:∀ a ob,H a=some ob->W a->H' a=some ob)(t:∀ a xs,H a=some (.tup xs)->H' a=some (.tup xs)):OV W H' w ik rw ps vl aP pe rows:=by
 obtain⟨ww,wi,wp,wv,al,hw,hi,hr,⟨vs,hp,a2⟩,ne,lst⟩:=h;refine⟨ww,wi,wp,wv,λa z=>?_,k _ _ hw ww,hi.two (λxs e=>k _ _ e wi) t,hr.fr (λ_ z=>z) (λa xs e z _ _=>k _ _ e z),⟨vs,k _ _ hp wp,a2.mono λv rs ⟨a,e,z⟩=>⟨a,e,z.fr (λ_ y=>y) (λa xs e y _ _=>k _ _ e y)⟩⟩,ne,lst⟩;obtain⟨ob,e⟩:=al a z;exact⟨ob,k _ _ e z⟩
theorem Wo.fr{W:Addr->Prop}{H H':Hp}{w:Addr}{aP:mj}{pe:nG}{rows:dJ}(h:Wo W H w aP pe rows)(k:∀ a ob,H a=some ob->W a->H' a=some ob)(t:∀ a xs,H a=some (.tup xs)->H' a=some (.tup xs)):Wo W H' w aP pe rows:=by
 obtain⟨ik,rw,ps,vl,z⟩:=h;exact⟨ik,rw,ps,vl,z.fr k t⟩
theorem Wo.same{W:Addr->Prop}{H H':Hp}{w:Addr}{aP:mj}{pe:nG}{rows:dJ}(h:Wo W H w aP pe rows)(s:aM H H'):Wo W H' w aP pe rows:=h.fr (λa ob e _=>s a ob e) λa xs e=>s _ _ e
def Np:Sp:=λvs H Q _=>vs=[]/\∀ (W:Addr->Prop) (w:Addr) (H':Hp),Wo W H' w [] [[]] []->(∀ a,W a->H a=none)->aM H H'->Q (.ref w) H'
theorem GU:aH [] [] (aA sU):=iW
theorem aa3{X:Cx}{s1 s2 s3 s4:Str}{a1 a2 a3 a4:Nat}{p1 p2 p3 p4 pos:Pos}{v1 v2 v3 v4:Expr}{t1 t2 t3 t4:TE}(h1:PE X v1 t1)(h2:PE X v2 t2)(h3:PE X v3 t3)(h4:PE X v4 t4) :
  PE X (.Dict [some (.Constant (.str s1) a1 p1),some (.Constant (.str s2) a2 p2),some (.Constant (.str s3) a3 p3),some (.Constant (.str s4) a4 p4)] [v1,v2,v3,v4] pos) (QO [(tC (.str s1),t1),(tC (.str s2),t2),(tC (.str s3),t3),(tC (.str s4),t4)]) :=
 Um (zf bK h1 (zf bK h2 (zf bK h3 (zf bK h4 Ul)))) rfl rfl (by simp) (by show 4<=15;decide)
abbrev tWo:TE:=QO [(tC (.str "ink"),NQ Cm),(tC (.str "rows"),NQ Cm),(tC (.str "past"),NQ (PV (NQ Cm) Cm)),(tC (.str "veil"),NQ Cm)]
theorem RT:∃ (e:Expr) (p:Pos),lM sU=[.Return (some e) p]/\∀ X:Cx,PE X e tWo :=
 ⟨_,_,rfl,λX=>@aa3 X _ _ _ _ _ _ _ _ _ _ _ _ _ _ _ _ _ _ _ _ _ (bO ah) (bO ah) (bO (aa (bO ah) ah)) (bO ah)⟩
theorem GV{f:Addr}(F:iH K "_law_world" "_law_world" sU f fd):aF P w K mg zt bI 1 f fd [] Np:=by
 refine jg F GU λdH A zn s H vs Q E hr h=>?_;obtain⟨rfl,k⟩:=h;obtain⟨e,p,he,pw⟩:=RT;rw[he];refine⟨_,au (aN (pw _)),?_⟩;intro w hw;refine⟨mF,λik GW=>⟨mF,λrw hrw=>⟨mF,λz hz=>⟨qv,λps Pj=>⟨mF,λvl Yv=>?_⟩⟩⟩⟩⟩;have s0:=ao hw (.dK []);have w0:(aO H w (.dK [])) w=some (.dK []):=af;generalize aO H w (.dK [])=H0 at s0 w0 GW hrw hz Pj Yv;have s1:=ao GW (.lst []);have i1:(aO H0 ik (.lst [])) ik=some (.lst []):=af;generalize aO H0 ik (.lst [])=H1 at s1 i1 hrw hz Pj Yv;have s2:=ao hrw (.lst []);have r2:(aO H1 rw (.lst [])) rw=some (.lst []):=af;generalize aO H1 rw (.lst [])=H2 at s2 r2 hz Pj Yv;have s3:=ao hz (.lst []);have z3:(aO H2 z (.lst [])) z=some (.lst []):=af;generalize aO H2 z (.lst [])=H3 at s3 z3 Pj Yv;have s4:=ao Pj (.lst [.ref z]);have p4:(aO H3 ps (.lst [.ref z])) ps=some (.lst [.ref z]):=af;generalize aO H3 ps (.lst [.ref z])=H4 at s4 p4 Yv;have s5:=ao Yv (.lst []);have v5:(aO H4 vl (.lst [])) vl=some (.lst []):=af;generalize aO H4 vl (.lst [])=H5 at s5 v5;have RP:aM H1 H5:=s2.trans (s3.trans (s4.trans s5));have s05:aM H0 H5:=s1.trans RP;have w5:=s05 _ _ w0;have i5:=RP _ _ i1;have r5:=(s3.trans (s4.trans s5)) _ _ r2;have z5:=(s4.trans s5) _ _ z3;have p5:=s5 _ _ p4;have nl:∀ {a:Addr} {xs:List V},H5 a=some (.lst xs)->a≠w:=λ{a xs} e q=>by rw[q,w5]at e;cases e
 have n1:rw≠ik:=(az i1 hrw).symm;have n2:rw≠ps:=az (s3 _ _ r2) Pj;have n3:z≠ik:=(az (s2 _ _ i1) hz).symm;have n4:z≠ps:=az z3 Pj;have n5:ik≠ps:=az ((s2.trans s3) _ _ i1) Pj;refine⟨w5,yO ik rw ps vl,rfl,(by show 4<=15;decide),?_⟩;rw[show Af [] (yO ik rw ps vl)=yO ik rw ps vl by kernel_rfl];have up:∀ {a:Addr} {xs:List V},H5 a=some (.lst xs)->(aO H5 w (.dK (yO ik rw ps vl))) a=some (.lst xs):=λ{a xs} e=>by rw[aK (nl e)];exact e
 have f0:∀ a,H0 a=none->H a=none:=λa e=>aZ s0 e;refine k (λa=>a=w\/a=ik\/a=rw\/a=z\/a=ps\/a=vl) w _ ⟨ik,rw,ps,vl,.inl rfl,.inr (.inl rfl),.inr (.inr (.inr (.inr (.inl rfl)))),.inr (.inr (.inr (.inr (.inr rfl)))),λa e=>?_,af,⟨[],up i5,.nil⟩,⟨.inr (.inr (.inl rfl)),n1,n2,[],up r5,.nil⟩,⟨[.ref z],up p5,.cons ⟨z,rfl,.inr (.inr (.inr (.inl rfl))),n3,n4,[],up z5,.nil⟩ .nil⟩,n5,rfl⟩ (λa e=>?_) (bX hw (s0.trans s05) (aL w _ _))
 ·rcases e with rfl|rfl|rfl|rfl|rfl|rfl
  ·exact⟨_,af⟩
  ·exact⟨_,up i5⟩
  ·exact⟨_,up r5⟩
  ·exact⟨_,up z5⟩
  ·exact⟨_,up p5⟩
  ·exact⟨_,up v5⟩
 ·rcases e with rfl|rfl|rfl|rfl|rfl|rfl
  ·exact hw
  ·exact f0 _ GW
  ·exact f0 _ (aZ s1 hrw)
  ·exact f0 _ (aZ s1 (aZ s2 hz))
  ·exact f0 _ (aZ s1 (aZ s2 (aZ s3 Pj)))
  ·exact f0 _ (aZ s1 (aZ s2 (aZ s3 (aZ s4 Yv))))
inductive GX(vs:List V)(H:Hp)(Q:VK)(E:XK):Prop
 | mk (W:Addr->Prop) (w r:Addr) (aP:mj) (pe:nG) (rows rows':dJ) (_:vs=[.ref w,.ref r]) (_:Wo W H w aP pe rows) (_:pe.length<=1000) (_:(∀ ik ps,(∃ rw vl,H w=some (.dK (yO ik rw ps vl)))->Ph W ik ps H r rows')) (_: ∀ (H':Hp),Wo W H' w aP (pe++[rows']) rows'->(∀ a ob,H a=some ob->¬ W a->H' a=some ob)->(∀ a xs,H a=some (.tup xs)->H' a=some (.tup xs))->(∀ ik rw ps vl,H w=some (.dK (yO ik rw ps vl))->∀ a xs,H a=some (.lst xs)->a≠ps->H' a=some (.lst xs))->Q .iZ H')
theorem JB:aH ["_law_world_here","_law_rows"] ["_law_world_here","_law_rows"] (aA m8):=iW
theorem wz{f:Addr}(F:iH K "_law_keep" "_law_keep" m8 f fd):aF P w K mg zt bI 1 f fd Ht GX:=by
 refine jg F JB λdH A zn s H vs Q E hr h=>?_;obtain⟨W,w,r,aP,pe,rows,rows',rfl,⟨ik,rw,ps,vl,h⟩,lp,hr',k⟩:=h;have hu:=kj hr;refine⟨_,(aj (ze hu (pv 0) bK (pv 1) rfl) (au (bu (iu wG qZ rf cH (kq hu (pv 0) bK) (aa (pv 1) ah))))),?_⟩;have MS:=hr' ik ps ⟨rw,vl,h.hw⟩;refine⟨_,rfl,_,rfl,w,_,rfl,F9.k (k:=kR) h.hw (by show 4<sizeLine;decide),?_⟩;rw[show iC (yO ik rw ps vl) kR (.ref r)=yO ik r ps vl by kernel_rfl];obtain⟨Yw,hp,al⟩:=h.hp;have k1:=aL w H (.dK (yO ik r ps vl));have w1:(aO H w (.dK (yO ik r ps vl))) w=some (.dK (yO ik r ps vl)):=af;have nw:∀ {a:Addr} {o:HO},H a=some o->(∀ kvs,o≠.dK kvs)->a≠w:=λ{a o} e n q=>by rw[q,h.hw]at e;cases e;exact n _ rfl
 generalize aO H w (.dK (yO ik r ps vl))=H1 at k1 w1;have Y3:=k1 _ _ hp (nw hp (λ_ z=>by cases z));have z:=ng.k (k:=kP) w1;rw[show cW (yO ik r ps vl) kP=some (.ref ps) by kernel_rfl]at z;have lpv:Yw.length=pe.length:=al.len;refine⟨_,rfl,w,_,rfl,z,.inl ⟨rfl,_,bQ.of Y3⟩,_,rfl,ps,_,_,rfl,rfl,Y3,aU (by lia),?_⟩;have nps:w≠ps:=(nw hp (λ_ z=>by cases z)).symm
 have ls:∀ a xs,H a=some (.lst xs)->a≠ps->(aO H1 ps (.lst (Yw++[.ref r]))) a=some (.lst xs):=λa xs e n=>by
  rw[aK n];exact k1 _ _ e (nw e (λ_ z=>by cases z))
 have tp:∀ a xs,H a=some (.tup xs)->(aO H1 ps (.lst (Yw++[.ref r]))) a=some (.tup xs):=λa xs e=>by
  rw[aK (eS e hp)];exact k1 _ _ e (nw e (λ_ z=>by cases z))
 have rwf:∀ {a:Addr} {rs:dJ},Ph W ik ps H a rs->Ph W ik ps (aO H1 ps (.lst (Yw++[.ref r]))) a rs:=λ{a rs} q=>q.fr (λ_ y=>y) λa xs e _ _ n=>ls a xs e n;have Oo:=rwf MS
 refine k _ ⟨ik,r,ps,vl,h.ww,h.wi,h.wp,h.wv,λa wa=>?_,?_,h.hi.two (λxs e=>ls _ _ e h.ne) tp,Oo,⟨_,af,(al.mono λv rs ⟨a,e,q⟩=>⟨a,e,rwf q⟩).app (.cons ⟨r,rfl,Oo⟩ .nil)⟩,h.ne,xZ⟩ (λa ob e n=>?_) tp λik' rw2 zQ vl' ee a xs e n=>ls a xs e (by
  rw[h.hw]at ee;simp only[Option.some.injEq,HO.dK.injEq,yO,List.cons.injEq,Prod.mk.injEq,V.ref.injEq,true_and,and_true]at ee;rw[ee.2.2.1]
  exact n)
 ·by_cases e1:a=ps
  ·rw[e1];exact⟨_,af⟩
  rw[aK e1];by_cases e2:a=w
  ·rw[e2];exact⟨_,w1⟩
  ·obtain⟨ob,e⟩:=h.al a wa;exact⟨ob,k1 _ _ e e2⟩
 ·rw[aK nps];exact w1
 ·rw[aK (λq=>n (by rw[q];exact h.wp))];exact k1 _ _ e (λq=>n (by rw[q];exact h.ww))
theorem xS.al{U:Addr->Prop}{H:Hp}{x:Addr}{pe:nG}{aB:nJ}{aP:mj}{nW:Nat}{cj:Row}(h:xS C CS CW CB U H x pe aB aP nW cj){a:Addr}(z:U a):∃ ob,H a=some ob:=by
 obtain⟨S,SW,d,wl,sh,bl,kn,du,bk,dS,st,op,dw,sg,ow,pw,db,tb,ops,L,W,B,R,Yq,dj,db',dt,u⟩:=h;obtain⟨as,hR,_⟩:=R;rcases (u a).mp z with y|y|y|y|y|y
 ·exact L.W.al a y
 ·exact W.al a y
 ·rw[y];exact⟨_,L.hb⟩
 ·rw[y];exact⟨_,L.hx⟩
 ·rw[y];exact⟨_,B⟩
 ·rw[y];exact⟨_,hR⟩
theorem Wo.al{W:Addr->Prop}{H:Hp}{w:Addr}{aP:mj}{pe:nG}{rows:dJ}(h:Wo W H w aP pe rows){a:Addr}(z:W a):∃ ob,H a=some ob:=by
 obtain⟨ik,rw,ps,vl,y⟩:=h;exact y.al a z
structure yJ(C CS CW CB:Addr)(H:Hp)(l c w x:Addr)(U W:Addr->Prop)(pe:nG)(rows:dJ)(pq:nG)(rq:dJ)(aB:nJ)(aP:mj)(nW:Nat)(cj:Row):Prop where
 src:d8 H l c
 Wh:xS C CS CW CB U H x pe aB aP nW cj
 lst:pe.getLast?=some rows
 wo:Wo W H w aP pq rq
 du:∀ a,U a->¬ W a/\a≠l/\a≠c
 dw:∀ a,W a->a≠l/\a≠c
def FrS(l:Addr)(U W U' W':Addr->Prop)(H H':Hp):Prop:=(∀ a,U' a\/W' a->U a\/W a\/H a=none)/\(∀ a ob,H a=some ob->a≠l->¬ U a->¬ W a->H' a=some ob)/\∀ a xs,H a=some (.tup xs)->H' a=some (.tup xs)
theorem yJ.mv{H H':Hp}{l c w x:Addr}{U W:Addr->Prop}{pe:nG}{rows:dJ}{pq:nG}{rq:dJ}{aB:nJ}{aP:mj}{nW:Nat}{cj:Row}(h:yJ C CS CW CB H l c w x U W pe rows pq rq aB aP nW cj)(k:cT l H H')(s:d8 H' l c):yJ C CS CW CB H' l c w x U W pe rows pq rq aB aP nW cj:=by
 obtain⟨ls,hl⟩:=h.src.lst;have t:∀ a xs,H a=some (.tup xs)->H' a=some (.tup xs):=λa xs e=>k _ _ e (eS e hl);exact⟨s,h.Wh.fr (λa ob e z=>k _ _ e (h.du a z).2.1) t,h.lst,h.wo.fr (λa ob e z=>k _ _ e (h.dw a z).1) t,h.du,h.dw⟩
theorem yJ.same{H H':Hp}{l c w x:Addr}{U W:Addr->Prop}{pe:nG}{rows:dJ}{pq:nG}{rq:dJ}{aB:nJ}{aP:mj}{nW:Nat}{cj:Row}(h:yJ C CS CW CB H l c w x U W pe rows pq rq aB aP nW cj)(s:aM H H'):yJ C CS CW CB H' l c w x U W pe rows pq rq aB aP nW cj:=h.mv (λa o e _=>s a o e) (h.src.same s)
theorem JC{α:Type}{xs:List α}{v:Int}(v0:0<=v)(v1:v<xs.length):∃ x∈xs,vC xs v=some x:=by
 obtain⟨j,rfl⟩:∃ j:Nat,v=j:=⟨v.toNat,by lia⟩;have hj:j<xs.length:=by lia
 exact⟨xs[j],List.getElem_mem hj,gz (pP hj)⟩
theorem yJ.Wi{W W':Addr->Prop}{H:Hp}{w ik rw:Addr}{aP:mj}{pe:nG}{rows:dJ}(h:OV W H w ik rw ps vl aP pe rows)(s:∀ a,W a->W' a)(al:∀ a,W' a->∃ ob,H a=some ob):OV W' H w ik rw ps vl aP pe rows:=by
 obtain⟨ww,wi,wp,wv,_,hw,hi,hr,⟨vs,hp,a2⟩,ne,lst⟩:=h;exact⟨s _ ww,s _ wi,s _ wp,s _ wv,al,hw,hi,hr.fr s (λa xs e _ _ _=>e),⟨vs,hp,a2.mono λv rs ⟨a,e,z⟩=>⟨a,e,z.fr s (λa xs e _ _ _=>e)⟩⟩,ne,lst⟩
theorem d8.fru{U U':Addr->Prop}{H H':Hp}{l c:Addr}(S:d8 H l c)(fr:Nh U U' H H')(nl:¬ U l)(nc:¬ U c):d8 H' l c:=by
 obtain⟨n,ns,i,d,r,e1,e2,h3⟩:=S;exact⟨n,ns,i,d,r,fr.2.1 _ _ e1 nl,fr.2.1 _ _ e2 nc,h3⟩
theorem yJ.aeM{H H':Hp}{l c w x:Addr}{U U' W:Addr->Prop}{pe LJ:nG}{rows rows':dJ}{pq:nG}{rq:dJ}{aB gy:nJ}{aP:mj}{nW nW':Nat}{cj Wj:Row}(St:yJ C CS CW CB H l c w x U W pe rows pq rq aB aP nW cj)(L':xS C CS CW CB U' H' x LJ gy aP nW' Wj)(hl:LJ.getLast?=some rows')(fr:Nh U U' H H'):yJ C CS CW CB H' l c w x U' W LJ rows' pq rq gy aP nW' Wj/\FrS l U W U' W H H':=by
 refine⟨⟨St.src.fru fr (λz=>(St.du l z).2.1 rfl) (λz=>(St.du c z).2.2 rfl),L',hl,St.wo.fr (λa ob e z=>fr.2.1 _ _ e (λy=>(St.du a y).1 z)) fr.2.2,λa z=>?_,St.dw⟩,λa z=>z.elim (λz=>(fr.1 a z).elim .inl λy=>.inr (.inr y)) (λz=>.inr (.inl z)),λa ob e _ u _=>fr.2.1 a ob e u,fr.2.2⟩;rcases fr.1 a z with y|y
 ·exact St.du a y
 ·have n:=St.src.ne y;refine⟨λz=>?_,n.1.symm,n.2.symm⟩;obtain⟨ob,e⟩:=St.wo.al z;rw[y]at e;cases e
theorem yJ.kept{H H':Hp}{l c w x:Addr}{U W W':Addr->Prop}{pe:nG}{rows:dJ}{pq pq':nG}{rq rq':dJ}{aB:nJ}{aP:mj}{nW:Nat}{cj:Row}(St:yJ C CS CW CB H l c w x U W pe rows pq rq aB aP nW cj)(wo:Wo W' H' w aP pq' rq')(dU:∀ a,U a->¬ W' a)(dW:∀ a,W' a->a≠l/\a≠c)(fr:∀ a ob,H a=some ob->¬ W' a->H' a=some ob)(tp:∀ a xs,H a=some (.tup xs)->H' a=some (.tup xs)):yJ C CS CW CB H' l c w x U W' pe rows pq' rq' aB aP nW cj:=by
 refine⟨?_,St.Wh.fr (λa ob e z=>fr _ _ e (dU a z)) tp,St.lst,wo,λa z=>⟨dU a z,(St.du a z).2⟩,dW⟩;obtain⟨n,ns,i,d,r,e1,e2,h3⟩:=St.src;exact⟨n,ns,i,d,r,fr _ _ e1 (λz=>(dW l z).1 rfl),fr _ _ e2 (λz=>(dW c z).2 rfl),h3⟩
theorem yJ.new{H:Hp}{l c w x a:Addr}{U W:Addr->Prop}{pe:nG}{rows:dJ}{pq:nG}{rq:dJ}{aB:nJ}{aP:mj}{nW:Nat}{cj:Row}(St:yJ C CS CW CB H l c w x U W pe rows pq rq aB aP nW cj)(h:H a=none):¬ U a/\¬ W a/\a≠l/\a≠c:=by
 have n:=St.src.ne h;refine⟨λz=>?_,λz=>?_,n.1.symm,n.2.symm⟩
 ·obtain⟨ob,e⟩:=St.Wh.al z;rw[h]at e;cases e
 ·obtain⟨ob,e⟩:=St.wo.al z;rw[h]at e;cases e
def own(rows:dJ)(x:Int):List Int:=(rows[x.toNat]?).getD []
theorem JD{rows:dJ}{s:Nat}(es:List Int)(h:s<rows.length):mJ rows s es=rows.set s es:=by
 unfold mJ;rw[List.set_eq_take_append_cons_drop,if_pos h,pQ];rfl
theorem JE{k:Nat}:∀ {row:Row},(∀ p∈row,p.2<=p.1+(k:Nat))->(bS row).length<=k*row.length
 | [],_=>Nat.zero_le _
 | p::r,h=>by
  have ih:=JE (row:=r) λq hq=>h q (sH _ hq);have hp:=h p (yR ..);have e:bS (p::r)=oK p++bS r:=by unfold bS;rw[mW]
  rw[e,dM,qE,Nat.mul_add,Nat.mul_one];have:(oK p).length<=k:=by unfold oK;rw[gR];lia
  lia
theorem RU{n:Nat}{row:Row}(h:∀ p∈row,0<=p.1/\p.1<p.2/\p.2<=(n:Nat)){e:Int}(he:e∈bS row):0<=e/\e<(n:Nat):=by
 unfold bS at he;obtain⟨p,hp,hm⟩:=List.mem_flatMap.mp he;have b:=h p hp;have m:=Gf.mp hm;lia
inductive LP(vs:List V)(H:Hp)(Q:VK)(E:XK):Prop
 | mk (r e:Addr) (s:Nat) (xs:List V) (_:vs=[.ref r,.int (s:Nat),.ref e]) (_:H r=some (.lst xs)) (_:s<xs.length) (_:xs.length<=1000) (_:∀ (q:Addr) (H':Hp),H' q=some (.lst (xs.set s (.ref e)))->aM H H'->H q=none->Q (.ref q) H')
theorem Bk:aH ["_law_rows","_law_sheet","_law_entries","_law_found"] ["_law_rows","_law_sheet","_law_entries"] (aA rJ):=iW
theorem U9{n:Nat}{i:Nat}(h1:i<n):Mp n ((i:Nat):Int)=some i:=by
 unfold Mp;rw[if_pos (by lia),Int.toNat_natCast,if_pos (by lia)]
theorem Bm{f:Addr}(F:iH K "_law_swap" "_law_swap" rJ f fd)(T:nI mg):aF P w K mg zt bI 1 f fd Pr LP:=by
 refine jg F Bk λdH A zn s0 H vs Q E hr h=>?_;obtain⟨r,e,s,xs,rfl,hr1,hs,lx,k⟩:=h;refine⟨_,(aj (bh (i:=3) Bk.nd (gJ jP rfl T.nh xX (aa (pv 0) ah))) (aj (uI (pv 2) (yb (pv 3) (pv 1) rF)) (au (aN (pv 3))))),?_⟩;refine⟨_,rfl,r,_,rfl,.inl (bQ.of hr1),λq hq=>?_⟩;refine⟨_,rfl,_,rfl,_,rfl,q,_,_,s,rfl,rfl,af,U9 hs,_,rfl,k q _ af (bX hq (ao hq _) (aL q _ _)) hq⟩
theorem Wo.swap{W:Addr->Prop}{H:Hp}{w ik rw q e:Addr}{aP:mj}{pq:nG}{rq:dJ}{xs:List V}{s:Nat}{es:List Int}(wu:OV W H w ik rw ps vl aP pq rq)(hx:H rw=some (.lst xs))(hq:H q=some (.lst (xs.set s (.ref e))))(he:H e=some (.lst (es.map V.int)))(nq:¬ W q)(ne:¬ W e):OV (λa=>W a\/a=e\/a=q) H w ik rw ps vl aP pq rq/\Ph (λa=>W a\/a=e\/a=q) ik ps H q (rq.set s es):=by
 have Y8:OV (λa=>W a\/a=e\/a=q) H w ik rw ps vl aP pq rq:=yJ.Wi wu (λa z=>.inl z) (by
  rintro a (z|z|z)
  ·exact wu.al a z
  ·rw[z];exact⟨_,he⟩
  ·rw[z];exact⟨_,hq⟩)
 obtain⟨_,_,_,vs,hvs,al⟩:=id Y8.hr;rw[hx]at hvs;cases hvs;have ne':∀ {a b:Addr},W a->¬ W b->b≠a:=λwa nb z=>nb (by rw[z];exact wa);refine⟨Y8,.inr (.inr rfl),ne' wu.wi nq,ne' wu.wp nq,_,hq,?_⟩
 have key:∀ {vs:List V} {rs:dJ} (s:Nat),cE (Wg (λa=>W a\/a=e\/a=q) ik ps H) vs rs->cE (Wg (λa=>W a\/a=e\/a=q) ik ps H) (vs.set s (.ref e)) (rs.set s es):=by
  intro vs rs s z
  induction z generalizing s with
  | nil=>exact .nil
  | cons o t ih =>
   cases s with
   | zero=>exact .cons ⟨e,rfl,.inr (.inl rfl),ne' wu.wi ne,ne' wu.wp ne,he⟩ t
   | succ n=>exact .cons o (ih n)
 exact key s al
theorem qQ:aH ["_law_row","_law_numbers","_law_start","_law_stop"] ["_law_row"] (aA sV):=iW
theorem GY{f:Addr}(F:iH K "_law_spell" "_law_spell" sV f fd)(T:nI mg):aF P w K mg zt bI 1 f fd ["_law_row"] (ME 1000000):=by
 refine jg F qQ λdH A zn s H vs Q E hr h=>?_;obtain⟨r,row,rfl,⟨as,hr1,hp⟩,E8,gj,hrl,k⟩:=h;refine⟨_,(aj (bh (i:=1) qQ.nd (bO ah)) (aj (ie PassesOwn.never rfl (dc (pv 0)) (rA (n:=2) rfl (bZ (cB (i:=2) qQ.nd) (bZ (cB (i:=3) qQ.nd) jO))) (au (bu (iu wG PySem.F.slot_list_extend PySem.F.type_list_extend nA (pv 1) (aa (gJ (tS rfl) rfl T.nh xX (aa (gJ HW rfl T.mR PyProof.Rows.boot_range (aa (pv 2) (aa (pv 3) ah))) ah)) ah))))) (au (aN (pv 1))))),?_⟩;refine⟨mF,λq hq=>?_⟩;have s0:aM H (aO H q (.lst [])):=ao hq _;refine⟨_,rfl,r,rfl,⟨_,bQ.of (s0 _ _ hr1)⟩,gB (K:=K) (a:=r) (xs:=as.map V.ref) (λi σ H2=>∃ (u v:Option V),σ=[some (.ref r),some (.ref q),u,v]/\H2 q=some (.lst ((bS (row.take i)).map V.int))/\aM H H2) ⟨none,none,rfl,af,s0⟩ (by rintro i σ H2 _ ⟨_,_,_,_,s⟩;exact bQ.of (s _ _ hr1)) ?_ ?_⟩
 ·rintro i x σ H2 hi ⟨u,v,rfl,jA,s⟩;rw[kF]at hi;obtain⟨a,ea,rfl⟩:=Option.map_eq_some_iff.mp hi;obtain⟨⟨st,en⟩,ep,ha⟩:=hp.get ea;obtain⟨b1,b2,b3⟩:=E8 _ (vf ep);simp only at b1 b2 b3;have step:=K0 ep
  have lz:(bS (row.take i)).length+(en-st).toNat<=1000000:=by
   have z:=D6 row (i+1);rw[step,dM,oK,gR]at z;exact lJ z gj
  refine⟨a,_,rfl,eL.of (s _ _ ha),rfl,_,_,rfl,_,_,rfl,rfl,?_⟩;refine⟨_,rfl,.inl ⟨rfl,_,bQ.of jA⟩,_,rfl,_,rfl,_,_,rfl,λp hp=>⟨p,_,_,rfl,af,⟨by lia,by lia,by lia,by lia⟩,j9 (aU (by lia)),λm hm=>?_⟩⟩;have s1:aM H2 (aO H2 p (.DV st en)):=ao hp _;have s2:=s1.trans (ao hm (.lst (zb st (en-st).toNat)));refine⟨q,m,_,_,rfl,rfl,s2 _ _ jA,af,?_,?_⟩
  ·rw[cR,zc,cR,gR];exact j9 (aU (by lia))
  ·refine⟨_,_,rfl,?_,bX hq (s.trans s2) (aL q _ _)⟩;rw[af,step,j5,zc];rfl
 ·rintro σ H2 ⟨u,v,rfl,jA,s⟩;refine⟨_,rfl,k q H2 ?_ s hq⟩;rw[cR,hp.len,lI]at jA;exact jA
inductive uY(d:Nat)(vs:List V)(H:Hp)(Q:VK)(E:XK):Prop
 | mk (av:Addr->Prop) (r:Addr) (rows:dJ) (x:Int) (sh:Int->List Int) (rk:Int->Nat) (_:vs=[.ref r,.int x]) (_:kT av H r rows) (_:rows.length<=1000) (_:jH rows) (_:0<=x) (_:x<rows.length) (_:rT rows sh) (_:(∀ x:Int,0<=x->x<rows.length->(sh x).length<=10000)) (_:(∀ x y,oR rows x y->rk y<rk x)) (_:rk x<d) (_ :
 ∀ (o:Addr) (H':Hp),H' o=some (.lst ((sh x).map V.int))->aM H H'->H o=none->Q (.ref o) H')
theorem wA:aH ["_law_rows","_law_sheet","_law_numbers","_law_entry"] ["_law_rows","_law_sheet"] (aA jr):=iW
theorem Ep{g:Addr}{n:Nat}(T:nI mg)(bM:aC K mg "_law_show" jr nK g fd)(iE:aF P w K mg zt bI (n+1) g fd nK (uY n)):aF P w K mg zt bI (n+2) g fd nK (uY (n+1)):=by
 refine jg bM.F wA λdH A zn s H vs Q E hr h=>?_;obtain⟨av,r,rows,x,sh,rk,rfl,R,gj,vm,x0,x1,AY,E8,Bw,hd,k⟩:=h;obtain⟨es,iJ⟩:∃ es,rows[x.toNat]?=some es:=⟨_,pP (by lia)⟩;obtain⟨Bx,b,Ba,Gn,hb0,hrl⟩:=R.get iJ
 have zw:vC Bx x=some (.ref b):=by
  have z:=gz Gn;rw[show ((x.toNat:Nat):Int)=x by lia]at z;exact z
 have shx:=AY x es x0 iJ
 have part:∀ i,(aW sh (es.take i)).length<=10000:=λi=>by
  have z:=E8 x x0 x1
  have e:aW sh es=aW sh (es.take i)++aW sh (es.drop i):=by
   unfold aW;rw[← List.flatMap_append,List.take_append_drop]
  rw[shx,e,dM]at z;lia
 refine⟨_,(aj (bh (i:=2) wA.nd (bO ah)) (aj (ie PassesOwn.never rfl (dc (aX bW (pv 0) (pv 1))) (cB (i:=3) wA.nd) (au (bU (bq rB (pv 3) ay (bC _)) (au (bu (iu wG PySem.F.slot_list_extend PySem.F.type_list_extend nA (pv 2) (aa (aG bM iE hr (aa (pv 0) (aa (bz cY (oO kg ay) (pv 3)) ah))) ah)))) (au (bu (iu wG qZ rf cH (pv 2) (aa (pv 3) ah))))))) (au (aN (pv 2))))),?_⟩;refine⟨mF,λq hq=>?_⟩;have s0:aM H (aO H q (.lst [])):=ao hq _;refine⟨_,rfl,_,rfl,r,_,_,_,rfl,rfl,bQ.of (s0 _ _ Ba),zw,b,rfl,⟨_,bQ.of (s0 _ _ hb0)⟩,gB (K:=K) (a:=b) (xs:=es.map V.int) (λi σ H2=>∃ u:Option V,σ=[some (.ref r),some (.int x),some (.ref q),u]/\H2 q=some (.lst ((aW sh (es.take i)).map V.int))/\aM H H2) ⟨none,rfl,af,s0⟩ (by rintro i σ H2 _ ⟨_,_,_,s2⟩;exact bQ.of (s2 _ _ hb0)) ?_ ?_⟩
 ·rintro i e σ H2 hi ⟨u,rfl,h2,s2⟩;rw[kF]at hi;obtain⟨e,ex,rfl⟩:=Option.map_eq_some_iff.mp hi
  have st:aW sh (es.take (i+1))=aW sh (es.take i)++aY sh e:=by
   rw[take_snoc ex];unfold aW;rw[List.flatMap_append];simp
  have pl:=part (i+1);rw[st,dM]at pl;refine⟨_,rfl,_,_,rfl,rfl,_,rfl,dN (λc=>?_) (λc=>?_)⟩
  ·have c':e<0:=of_decide_eq_true c;have ee:aY sh e=sh (-1-e):=by unfold aY;rw[if_pos c']
   rw[ee]at st pl;have J8:oR rows x (-1-e):=⟨x0,es,iJ,cK.mpr ⟨by lia,by rw[show -1-(-1-e)=e by lia];exact vf ex⟩⟩;obtain⟨y0,y1⟩:=vm.Hj J8;have rky:=Bw _ _ J8;refine⟨_,rfl,.inl ⟨rfl,_,bQ.of h2⟩,_,rfl,_,rfl,_,rfl,_,_,rfl,rfl,av,r,rows,-1-e,sh,rk,rfl,R.same s2,gj,vm,y0,y1,AY,E8,Bw,by lia,λo H3 h3 s3 ho=>?_⟩;refine⟨q,o,_,_,rfl,rfl,s3 _ _ h2,h3,j9 (aU (by rw[cR,cR];lia)),?_⟩;refine⟨_,rfl,?_,bX hq (s2.trans s3) (aL q _ _)⟩;rw[af,st,j5]
  ·have c':¬ e<0:=λz=>c (decide_eq_true z);have ee:aY sh e=[e]:=by unfold aY;rw[if_neg c']
   rw[ee]at st pl;refine⟨_,rfl,.inl ⟨rfl,_,bQ.of h2⟩,_,rfl,q,_,_,rfl,rfl,h2,(by rw[cR];exact aU (by lia)),?_⟩;refine⟨_,rfl,?_,bX hq s2 (aL q _ _)⟩;rw[af,st,j5];rfl
 ·rintro σ H2 ⟨u,rfl,h2,s2⟩;rw[cR,lI,← shx]at h2;exact⟨_,rfl,k q H2 h2 s2 hq⟩
theorem nC{g:Addr}(T:nI mg)(bM:aC K mg "_law_show" jr nK g fd):∀ n:Nat,aF P w K mg zt bI (n+1) g fd nK (uY n)
 | 0=>by
  have no:∀ vs H Q E,¬ uY 0 vs H Q E:=λvs H Q E h=>by
   obtain⟨_,_,_,_,_,_,_,_,_,_,_,_,_,_,_,h,_⟩:=h;exact Nat.not_lt_zero _ h
  exact⟨λvs H Q E h=>absurd h (no vs H Q E),λA zn s H args us vs Q E _ _ _ _ h=>absurd h (no vs H Q E)⟩
 | n+1=>Ep T bM (nC T bM n)
def Pk(rows:dJ):Nat->Int->List Int
 | 0,_=>[]
 | k+1,x=>match rows[x.toNat]? with
  | some es=>aW (Pk rows k) es
  | none=>[]
theorem wB{f g:Int->List Int}{es:List Int}(h:∀ y∈gh es,f y=g y):aW f es=aW g es:=by
 unfold aW;rw[List.flatMap_def,List.flatMap_def];congr 1;refine List.map_congr_left λe he=>?_;unfold aY;by_cases c:e<0
 ·rw[if_pos c,if_pos c,h (-1-e) (cK.mpr ⟨by lia,by rw[show -1-(-1-e)=e by lia];exact he⟩)]
 ·rw[if_neg c,if_neg c]
theorem DB{rows:dJ}(h:Gb rows):∃ sh,rT rows sh:=by
 obtain⟨rk,hb,hd⟩:=h
 have key:∀ (k:Nat) (x:Int),0<=x->rk x<k->Pk rows k x=Pk rows (k+1) x:=by
  intro k
  induction k with
  | zero=>intro x _ h;lia
  | succ k ih =>
   intro x x0 hx
   cases e:rows[x.toNat]? with
   | none=>simp[Pk,e]
   | some es =>
    have e1:Pk rows (k+1) x=aW (Pk rows k) es:=by simp[Pk,e]
    have e2:Pk rows (k+1+1) x=aW (Pk rows (k+1)) es:=by
     show (match rows[x.toNat]? with|some es=>aW (Pk rows (k+1)) es|none=>[])=_;rw[e]
    rw[e1,e2];refine wB λy hy=>ih y (cK.mp hy).1 ?_;have:=hd x y ⟨x0,es,e,hy⟩;lia
 refine⟨Pk rows 41,λx es x0 he=>?_⟩;rw[key 41 x x0 (by have:=hb x;lia)];show (match rows[x.toNat]? with|some es=>aW (Pk rows 41) es|none=>[])=_;rw[he]
def DC(n:Nat)(L:List Int):Nat:=cnt n λi=>decide ((i:Int)∉L)
theorem OW{n:Nat}{L:List Int}{y:Int}(h0:0<=y)(h1:y<n)(hn:y∉L):DC n (L++[y])+1=DC n L:=by
 refine zk y.toNat n (by lia) ?_ λi=>?_
 ·show decide (((y.toNat:Nat):Int)∉L)=true;rw[show ((y.toNat:Nat):Int)=y by lia];exact decide_eq_true hn
 ·show decide ((i:Int)∉L++[y])=(decide ((i:Int)∉L)&&decide (i≠y.toNat));rw[← Bool.decide_and];congr 1;rw[List.mem_append,List.mem_singleton];apply propext;constructor
  ·intro h;exact⟨λq=>h (.inl q),λq=>h (.inr (by lia))⟩
  ·rintro⟨a,b⟩ (q|q)
   ·exact a q
   ·exact b (by lia)
theorem GZ(a b:List Int):gh (a++b)=gh a++gh b:=by unfold gh;rw[List.filterMap_append]
structure Dfs(rows:dJ)(H:Hp)(Rr Wt:Addr)(s:Int)(aa6:Int->Prop)(H2:Hp)(L ws:List Int):Prop where
 hR:H2 Rr=some (.lst (L.map V.int))
 hW:H2 Wt=some (.lst (ws.map V.int))
 sm:aM H H2
 rc:∀ x∈L,Reach (oR rows) s x
 wr:∀ x∈ws,(x=s\/x∈L)/\0<=x/\x<rows.length
 kl:L.length+DC rows.length L<=rows.length
 cl:∀ x,(x=s\/x∈L)->x∈ws\/aa6 x\/∀ y,oR rows x y->y∈L
inductive FF(vs:List V)(H:Hp)(Q:VK)(E:XK):Prop
 | mk (av:Addr->Prop) (r:Addr) (rows:dJ) (s:Int) (_:vs=[.ref r,.int s]) (_:kT av H r rows) (_:rows.length<=1000) (_:(∀ es∈rows,es.length<=100000)) (_:jH rows) (_:0<=s) (_:s<rows.length) (_ :
 ∀ (L:List Int) (o:Addr) (H':Hp),H' o=some (.lst (L.map V.int))->aM H H'->(∀ x,x∈L↔Reach (oR rows) s x)->Q (.ref o) H')
theorem lE:aH ["_law_rows","_law_sheet","_law_reached_here","_law_waiting","_law_here","_law_entry"] ["_law_rows","_law_sheet"] (aA pF):=iW
def muR(n:Nat)(L ws:List Int):Nat:=2*DC n L+ws.length
def Wk(rows:dJ)(H:Hp)(r Rr Wt:Addr)(s:Int)(m:Nat)(σ:L2.St)(H2:Hp):Prop:=∃ (L ws:List Int) (u v:Option V),σ=[some (.ref r),some (.int s),some (.ref Rr),some (.ref Wt),u,v]/\Dfs rows H Rr Wt s (λ_=>False) H2 L ws/\ws.length+2*DC rows.length L<=2*rows.length+1/\m=muR rows.length L ws
theorem DE{f:Addr}(F:iH K "_law_reached" "_law_reached" pF f fd)(T:nI mg):aF P w K mg zt bI 1 f fd nK FF:=by
 refine jg F lE λdH A zn s0 H vs Q E hr h=>?_;obtain⟨av,r,rows,s,rfl,hRw,gj,hes,vm,h0,h1,k⟩:=h;have hu:=kj hr;refine⟨_,(aj (bh (i:=2) lE.nd (bO ah)) (aj (bh (i:=3) lE.nd (bO (aa (pv 1) ah))) (aj (Cf PassesOwn.never (bq PM (jI T.jh (pv 3)) ay (bC _)) (aj (bh (i:=4) lE.nd (P7 wG PySem.F.slot_list_pop PySem.F.type_list_pop Qc (pv 3))) (au (ie PassesOwn.never rfl (dc (aX bW (pv 0) (pv 4))) (cB (i:=5) lE.nd) (au (bU (PW.pt (Cd (bq rB (pv 5) ay (bC _)) (yV (bq FZ (bz cY (oO kg ay) (pv 5)) (pv 2) rfl)))) (aj (bu (iu wG qZ rf cH (pv 2) (aa (bz cY (oO kg ay) (pv 5)) ah))) (au (bu (iu wG qZ rf cH (pv 3) (aa (bz cY (oO kg ay) (pv 5)) ah))))) br)))))) (au (aN (pv 2)))))),?_⟩;refine⟨mF,λRr hRr=>?_⟩;refine⟨_,rfl,qv,λWt hWt=>?_⟩;have s1:aM H (aO H Rr (.lst [])):=ao hRr _;have s2:=s1.trans (ao hWt (.lst [.int s]))
 have UC:H Wt=none:=by
  cases e:H Wt with
  | none=>rfl
  | some o=>exact absurd ((s1 _ _ e).symm.trans hWt) (by simp)
 have nRW:Rr≠Wt:=az af hWt;refine⟨Wk rows H r Rr Wt s,⟨_,[],[s],none,none,rfl,⟨ao hWt _ _ _ af,af,s2,?_,?_,?_,?_⟩,?_,rfl⟩,?_⟩
 ·intro x hx;cases hx
 ·intro x hx;have:x=s:=by simpa using hx
  exact⟨.inl this,by lia,by lia⟩
 ·have:=CM rows.length (λi=>decide ((i:Int)∉([]:List Int)));show 0+cnt rows.length _<=_;lia
 ·rintro x (rfl|hx)
  ·exact .inl (by simp)
  ·cases hx
 ·have:=CM rows.length (λi=>decide ((i:Int)∉([]:List Int)));show 1+2*cnt rows.length _<=_;lia
 rintro m σ H2 ⟨L,ws,u,v,rfl,B,hml,rfl⟩;refine⟨_,rfl,Wt,_,rfl,.inl (bQ.of B.hW),_,_,rfl,rfl,_,rfl,?_⟩;rcases vL ws with rfl|⟨Y9,h,rfl⟩
 ·refine jK ⟨_,rfl,k L Rr H2 B.hR B.sm λx=>⟨λhx=>B.rc x hx,λhx=>?_⟩⟩
  have zt:∀ x,(x=s\/x∈L)->∀ y,oR rows x y->y∈L:=λx hx=>by
   rcases B.cl x hx with z|z|z
   ·cases z
   ·exact z.elim
   ·exact z
  exact Reach.closed (S:=λy=>y∈L) (zt s (.inl rfl)) (λx y hx=>zt x (.inr hx) y) hx
 rw[uc]at B hml ⊢;refine dN (λ_=>?_) (λz=>absurd (decide_eq_true (by simp)) z);obtain⟨hR2,hW2,sm2,rc2,wr2,kl2,cl2⟩:=id B;obtain⟨hh,e0,e1⟩:=wr2 h (by simp);obtain⟨es,iJ⟩:∃ es,rows[h.toNat]?=some es:=⟨_,pP (by lia)⟩;have X8:=hes es (vf iJ);refine⟨fun σ' H'=>∃ m',m'<muR rows.length L (Y9++[h])/\Wk rows H r Rr Wt s m' σ' H',fun σ' H' z=>z,?_⟩;refine⟨_,rfl,.inl ⟨rfl,_,bQ.of hW2⟩,Wt,_,.int h,rfl,rfl,hW2,(by simp),?_⟩;have ee:((Y9++[h]).map V.int).dropLast=Y9.map V.int:=by simp
 rw[ee];have Rc:aM H (aO H2 Wt (.lst (Y9.map V.int))):=bX UC sm2 (aL Wt _ _);obtain⟨Bx,b,Ba,Gn,hb0,hrl⟩:=hRw.get iJ;have hb3:=Rc _ _ hb0;refine⟨_,rfl,_,rfl,r,_,_,_,rfl,rfl,bQ.of (Rc _ _ Ba),?_,b,rfl,⟨_,bQ.of hb3⟩,gB (K:=K) (a:=b) (xs:=es.map V.int) (λi σ H5=>∃ (L2 Va:List Int) (v:Option V),σ=[some (.ref r),some (.int s),some (.ref Rr),some (.ref Wt),some (.int h),v]/\ Dfs rows H Rr Wt s (λx=>x=h) H5 L2 Va/\(∀ y∈gh (es.take i),y∈L2)/\(∀ y∈L,y∈L2)/\Va.length+2*DC rows.length L2<=Y9.length+2*DC rows.length L) ?_ ?_ ?_ ?_⟩
 ·have z:=gz Gn;rw[show ((h.toNat:Nat):Int)=h by lia]at z;exact z
 ·refine⟨L,Y9,_,rfl,⟨(by rw[aK nRW];exact hR2),af,Rc,rc2,λx hx=>wr2 x (xY _ hx),kl2,λx hx=>?_⟩,(λy hy=>by simp[gh]at hy),λ_ q=>q,ja _⟩;rcases cl2 x hx with z|z|z
  ·rcases List.mem_append.mp z with q|q
   ·exact .inl q
   ·exact .inr (.inl (by simpa using q))
  ·exact z.elim
  ·exact .inr (.inr z)
 ·rintro i σ H5 _ ⟨_,_,_,_,B5,_⟩;exact bQ.of (B5.sm _ _ hb0)
 ·rintro i x σ H5 hi ⟨L2,Va,v,rfl,B5,FG,hsub,YW⟩;rw[kF]at hi;obtain⟨x,ex,rfl⟩:=Option.map_eq_some_iff.mp hi;have step:gh (es.take (i+1))=gh (es.take i)++gh [x]:=by rw[take_snoc ex,GZ]
  refine⟨_,rfl,_,_,rfl,rfl,_,rfl,dN (λc=>?_) (λc=>jK ?_)⟩
  ·have c':x<0:=of_decide_eq_true c;have wx:gh [x]=[-1-x]:=by simp[gh,c']
   have J8:oR rows h (-1-x):=⟨e0,es,iJ,by
    rw[cK]
    exact⟨by lia,by rw[show -1-(-1-x)=x by lia];exact vf ex⟩⟩
   obtain⟨y0,y1⟩:=vm.Hj J8;refine⟨_,rfl,_,rfl,_,_,rfl,rfl,_,rfl,Rr,_,rfl,.inl (bQ.of B5.hR),rfl,E5 L2,_,rfl,?_⟩;rw[ML];by_cases hm:-1-x∈L2
   ·rw[decide_eq_true hm];refine jK ?_;refine⟨L2,Va,_,rfl,B5,(λy hy=>?_),hsub,YW⟩;rw[step,wx]at hy;rcases List.mem_append.mp hy with q|q
    ·exact FG y q
    ·have:y=-1-x:=by simpa using q
     rw[this];exact hm
   ·rw[decide_eq_false hm];refine mD ?_;have kll:=B5.kl;have mp:=OW y0 y1 hm;refine⟨_,rfl,.inl ⟨rfl,_,bQ.of B5.hR⟩,_,rfl,_,rfl,_,_,rfl,rfl,Rr,_,_,rfl,rfl,B5.hR,(by rw[cR];exact aU (by lia)),?_⟩;have SK:(aO H5 Rr (.lst (L2.map V.int++[.int (-1-x)]))) Wt=some (.lst (Va.map V.int)):=by rw[aK nRW.symm];exact B5.hW
    refine⟨_,rfl,.inl ⟨rfl,_,bQ.of SK⟩,_,rfl,_,rfl,_,_,rfl,rfl,Wt,_,_,rfl,rfl,SK,(by rw[cR];rw[dM,vK]at hml;exact aU (by lia)),?_⟩;refine⟨L2++[-1-x],Va++[-1-x],_,rfl,⟨?_,?_,bX UC (bX hRr B5.sm (aL Rr _ _)) (aL Wt _ _),?_,?_,?_,?_⟩,?_,λy q=>xY _ (hsub y q),?_⟩
    ·rw[aK nRW,af,j5];rfl
    ·rw[af,j5];rfl
    ·intro y hy;rcases List.mem_append.mp hy with q|q
     ·exact B5.rc y q
     ·have:y=-1-x:=by simpa using q
      subst this;rcases hh with rfl|hh
      ·exact .one J8
      ·exact .step (B.rc h hh) J8
    ·intro y hy;rcases List.mem_append.mp hy with q|q
     ·obtain⟨q1,q2⟩:=B5.wr y q;exact⟨q1.imp id (xY _),q2⟩
     ·have:y=-1-x:=by simpa using q
      subst this;exact⟨.inr (by simp),y0,y1⟩
    ·rw[dM,vK];lia
    ·intro y hy;by_cases e:y=-1-x
     ·exact .inl (by rw[e];simp)
     ·have hy':y=s\/y∈L2:=hy.imp id λq=>by
       rcases List.mem_append.mp q with z|z
       ·exact z
       ·exact absurd (by simpa using z) e
      rcases B5.cl y hy' with q|q|q
      ·exact .inl (xY _ q)
      ·exact .inr (.inl q)
      ·exact .inr (.inr λz hz=>xY _ (q z hz))
    ·intro y hy;rw[step,wx]at hy;rcases List.mem_append.mp hy with q|q
     ·exact xY _ (FG y q)
     ·exact uH _ q
    ·rw[dM,vK];lia
  ·have c':¬ x<0:=λz=>c (decide_eq_true z);have wx:gh [x]=[]:=by simp[gh,c']
   exact⟨L2,Va,_,rfl,B5,(by rw[step,wx,jo];exact FG),hsub,YW⟩
 ·rintro σ H5 ⟨L2,Va,v,rfl,B5,FG,hsub,YW⟩;rw[cR,lI]at FG;refine⟨_,?_,L2,Va,_,_,rfl,⟨B5.hR,B5.hW,B5.sm,B5.rc,B5.wr,B5.kl,λx hx=>?_⟩,?_,rfl⟩
  ·unfold muR;rw[dM,vK];lia
  ·rcases B5.cl x hx with q|rfl|q
   ·exact .inl q
   ·refine .inr (.inr λy hy=>FG y ?_);obtain⟨_,zN,MF,hy'⟩:=hy;rw[iJ]at MF;cases MF;exact hy'
   ·exact .inr (.inr q)
  ·rw[dM,vK]at hml;lia
theorem uZ(sh:Int->List Int)(es:List Int)(i:Nat):(aW sh (es.take i)).length<=(aW sh es).length:=lX (aY sh) es i
inductive AN(d:Nat)(vs:List V)(H:Hp)(Q:VK)(E:XK):Prop
 | mk (av:Addr->Prop) (r:Addr) (rows:dJ) (e:Int) (sh:Int->List Int) (rk:Int->Nat) (_:vs=[.ref r,.int e]) (_:kT av H r rows) (_:rows.length<=1000) (_:jH rows) (_:rT rows sh) (_:(∀ x:Int,0<=x->x<rows.length->(sh x).length<=10000)) (_:(∀ x y,oR rows x y->rk y<rk x)) (_:(e<0->-1-e<rows.length/\rk (-1-e)<d)) (_ :
 ∀ (o:Addr) (H':Hp),H' o=some (.lst ((aY sh e).map V.int))->aM H H'->H o=none->Q (.ref o) H')
theorem Er:aH ["_law_rows","_law_entry"] ["_law_rows","_law_entry"] (aA lQ):=iW
theorem xV{f g:Addr}{d:Nat}(F:iH K "_law_pieces" "_law_pieces" lQ f fd)(T:nI mg)(bM:aC K mg "_law_show" jr nK g gd):aF P w K mg zt bI (d+2) f fd NB (AN d):=by
 have iE:aF P w K mg zt bI (d+1) _ _ nK (uY d):=nC T bM d;refine jg F Er λdH A zn s H vs Q E hr h=>?_;obtain⟨av,r,rows,e,sh,rk,rfl,R,gj,vm,AY,E8,Bw,hd,k⟩:=h;refine⟨_,(aj (bU (bq rB (pv 1) ay (bC _)) (au (aN (aG bM iE hr (aa (pv 0) (aa (bz cY (oO kg ay) (pv 1)) ah))))) br) (au (aN (bO (aa (pv 1) ah))))),?_⟩;refine⟨_,rfl,_,_,rfl,rfl,_,rfl,dN (λc=>?_) (λc=>?_)⟩
 ·have c':e<0:=of_decide_eq_true c;obtain⟨d1,d2⟩:=hd c';refine⟨_,rfl,_,rfl,_,rfl,_,_,rfl,rfl,av,r,rows,-1-e,sh,rk,rfl,R,gj,vm,by lia,d1,AY,E8,Bw,d2,λo H' h s ho=>k o H' ?_ s ho⟩;unfold aY;rw[if_pos c'];exact h
 ·have c':¬ e<0:=λz=>c (decide_eq_true z);refine⟨_,rfl,qv,λo ho=>k o _ ?_ (ao ho _) ho⟩;unfold aY;rw[if_neg c',af];rfl
theorem G1(sh:Int->List Int)(p:Int):∀ (es:List Int) (f:Int),(aE sh p f es).length<=es.length+(aW sh es).length
 | [],_=>by simp[aE]
 | e::r,f=>by
  rw[aE,cz,dM,dM,qE];have a:=G1 sh p r (f+(aY sh e).length)
  have b:(if f+(aY sh e).length<=p then [e] else if p<=f then [] else (aY sh e).take (p-f).toNat).length<=1+(aY sh e).length:=by
   split
   ·simp
   ·split
    ·simp
    ·rw[jV];lia
  lia
theorem G2(sh:Int->List Int)(p:Int):∀ (es:List Int) (f:Int),(bE sh p f es).length<=es.length+(aW sh es).length
 | [],_=>by simp[bE]
 | e::r,f=>by
  rw[bE,cz,dM,dM,qE];have a:=G2 sh p r (f+(aY sh e).length)
  have b:(if f+(aY sh e).length<=p then [] else if p<=f then [e] else (aY sh e).drop (p-f).toNat).length<=1+(aY sh e).length:=by
   split
   ·simp
   ·split
    ·simp
    ·rw[xq];lia
  lia
inductive LQ(d:Nat)(vs:List V)(H:Hp)(Q:VK)(E:XK):Prop
 | mk (av:Addr->Prop) (r n:Addr) (rows:dJ) (s p:Int) (new:List Int) (sh:Int->List Int) (rk:Int->Nat) (_:vs=[.ref r,.int s,.int p,.ref n]) (_:kT av H r rows) (_:rows.length<=1000) (_:(∀ es∈rows,es.length<=25000)) (_:jH rows) (_:rT rows sh) (_:(∀ x:Int,0<=x->x<rows.length->(sh x).length<=10000)) (_:(∀ x y,oR rows x y->rk y<rk x)) (_:0<=s) (_:s<rows.length) (_:rk s<=d) (_:H n=some (.lst (new.map V.int))) (_:new.length<=25000) (_ :
 ∀ (es:List Int) (o:Addr) (H':Hp),rows[s.toNat]?=some es->H' o=some (.lst ((iT sh p es new).map V.int))->(iT sh p es new).length<=100000->aM H H'->H o=none->Q (.ref o) H')
theorem lF:aH ["_law_rows","_law_sheet","_law_place","_law_new","_law_ahead","_law_behind","_law_first","_law_entry","_law_pieces_here","_law_last"] ["_law_rows","_law_sheet","_law_place","_law_new"] (aA wJ):=iW
theorem LR{f g h':Addr}{d:Nat}(F:iH K "_law_put" "_law_put" wJ f fd)(T:nI mg)(bM:aC K mg "_law_show" jr nK g gd)(gZ:aC K mg "_law_pieces" lQ NB h' WM):aF P w K mg zt bI (d+3) f fd Wy (LQ d):=by
 have u7:aF P w K mg zt bI (d+2) _ _ NB (AN d):=xV gZ.F T bM;refine jg F lF λdH A zn s0 H vs Q E hr h=>?_;obtain⟨av,r,n,rows,s,p,new,sh,rk,rfl,R,gj,hes,vm,AY,E8,Bw,h0,h1,hd,hn,nl,k⟩:=h;obtain⟨es,iJ⟩:∃ es,rows[s.toNat]?=some es:=⟨_,pP (by lia)⟩;have esl:=hes es (vf iJ);have shs:=AY s es h0 iJ;have shl:=E8 s h0 h1;rw[shs]at shl;obtain⟨Bx,b,Ba,Gn,hb0,hrl⟩:=R.get iJ
 have zw:vC Bx s=some (.ref b):=by
  have z:=gz Gn;rw[show ((s.toNat:Nat):Int)=s by lia]at z;exact z
 refine⟨_,(aj (bU (bq ig (jI T.jh (pv 3)) ay (bC _)) (au (aN (gJ jP rfl T.nh xX (aa (aX bW (pv 0) (pv 1)) ah)))) br) (aj (bh (i:=4) lF.nd (bO ah)) (aj (bh (i:=5) lF.nd (bO ah)) (aj (bh (i:=6) lF.nd ay) (aj (ie PassesOwn.never rfl (dc (aX bW (pv 0) (pv 1))) (cB (i:=7) lF.nd) (aj (bh (i:=8) lF.nd (aG gZ u7 hr (aa (pv 0) (aa (pv 7) ah)))) (aj (bh (i:=9) lF.nd (bz eT (pv 6) (jI T.jh (pv 8)))) (aj (bU (bq jz (pv 9) (pv 2) (bC _)) (au (bu (iu wG qZ rf cH (pv 4) (aa (pv 7) ah)))) (au (bU (bq jz (pv 2) (pv 6) (bC _)) (au (bu (iu wG qZ rf cH (pv 5) (aa (pv 7) ah)))) (aj (bu (iu wG PySem.F.slot_list_extend PySem.F.type_list_extend nA (pv 4) (aa (mC qF (pv 8) sO (mL (bz cY (pv 2) (pv 6)))) ah))) (au (bu (iu wG PySem.F.slot_list_extend PySem.F.type_list_extend nA (pv 5) (aa (mC qF (pv 8) (mL (bz cY (pv 2) (pv 6))) sO) ah)))))))) (au (bh (i:=6) lF.nd (pv 9))))))) (au (aN (bz nM (bz nM (pv 4) (pv 3)) (pv 5))))))))),?_⟩;refine⟨_,rfl,n,_,rfl,.inl (bQ.of hn),rfl,_,rfl,dN (λc=>?_) (λc=>?_)⟩
 ·have c':new=[]:=by
   have z:V.int ((new.map V.int).length:Int)=V.int 0:=of_decide_eq_true c;have z2:=V.int.inj z;rw[cR]at z2;exact List.eq_nil_of_length_eq_zero (by lia)
  refine⟨_,rfl,_,rfl,r,_,_,_,rfl,rfl,bQ.of Ba,zw,b,_,rfl,.inl (bQ.of hb0),λo ho=>k es o _ iJ ?_ ?_ (ao ho _) ho⟩
  ·rw[af];unfold iT;rw[if_pos c']
  ·unfold iT;rw[if_pos c'];lia
 have c':¬ new=[]:=λz=>c (by rw[z];rfl);refine⟨mF,λA hA=>⟨mF,λB hB=>?_⟩⟩;have sA:aM H (aO H A (.lst [])):=ao hA _;have sB:aM _ (aO (aO H A (.lst [])) B (.lst [])):=ao hB _;have s1:=sA.trans sB;have DU:A≠B:=az af hB;have Pc:=aZ sA hB;refine⟨_,rfl,_,rfl,r,_,_,_,rfl,rfl,bQ.of (s1 _ _ Ba),zw,b,rfl,⟨_,bQ.of (s1 _ _ hb0)⟩,gB (K:=K) (a:=b) (xs:=es.map V.int) (λi σ H2=>∃ u1 u2 u3:Option V,σ=[some (.ref r),some (.int s),some (.int p),some (.ref n),some (.ref A),some (.ref B),some (.int (0+((aW sh (es.take i)).length:Int))),u1,u2,u3]/\H2 A=some (.lst ((aE sh p 0 (es.take i)).map V.int))/\H2 B=some (.lst ((bE sh p 0 (es.take i)).map V.int))/\aM H H2) ⟨none,none,none,rfl,sB _ _ af,af,s1⟩ (by rintro i σ H2 _ ⟨_,_,_,_,_,_,s2⟩;exact bQ.of (s2 _ _ hb0)) ?_ ?_⟩
 ·rintro i x σ H2 hi ⟨u1,u2,u3,rfl,RV,hB2,s2⟩;rw[kF]at hi;obtain⟨e,ex,rfl⟩:=Option.map_eq_some_iff.mp hi;have st:=take_snoc ex
  have eA:aE sh p 0 (es.take (i+1))=aE sh p 0 (es.take i)++(if 0+((aW sh (es.take i)).length:Int)+(aY sh e).length<=p then [e] else if p<=0+((aW sh (es.take i)).length:Int) then [] else (aY sh e).take (p-(0+((aW sh (es.take i)).length:Int))).toNat):=by
   rw[st,Au,aE,aE,jo]
  have eB:bE sh p 0 (es.take (i+1))=bE sh p 0 (es.take i)++(if 0+((aW sh (es.take i)).length:Int)+(aY sh e).length<=p then [] else if p<=0+((aW sh (es.take i)).length:Int) then [e] else (aY sh e).drop (p-(0+((aW sh (es.take i)).length:Int))).toNat):=by
   rw[st,Av,bE,bE,jo]
  have eF:(0+((aW sh (es.take (i+1))).length:Int))=0+((aW sh (es.take i)).length:Int)+(aY sh e).length:=by
   rw[st,om,cz,dM,dM];simp[aW]
  have lA:=G1 sh p (es.take (i+1)) 0;have lB:=G2 sh p (es.take (i+1)) 0;have lA0:=G1 sh p (es.take i) 0;have lB0:=G2 sh p (es.take i) 0;have l1:=uZ sh es (i+1);have l0:=uZ sh es i;have t1:(es.take (i+1)).length<=es.length:=by rw[jV];lia
  have t0:(es.take i).length<=es.length:=by rw[jV];lia
  refine⟨_,rfl,_,rfl,av,r,rows,e,sh,rk,rfl,R.same s2,gj,vm,AY,E8,Bw,λaeP=>?_,λo H3 h3 s3 ho=>?_⟩
  ·have nx:oR rows s (-1-e):=⟨h0,es,iJ,cK.mpr ⟨by lia,by rw[show -1-(-1-e)=e by lia];exact vf ex⟩⟩;have:=Bw _ _ nx;exact⟨(vm.Hj nx).2,by lia⟩
  have J9:=s3 _ _ RV;have Vb:=s3 _ _ hB2;refine⟨_,rfl,_,rfl,o,_,rfl,.inl (bQ.of h3),_,_,rfl,rfl,?_⟩;rw[cR];refine⟨_,rfl,_,rfl,_,_,rfl,rfl,_,rfl,dN (λc1=>?_) (λc1=>?_)⟩
  ·have SI:0+((aW sh (es.take i)).length:Int)+((aY sh e).length:Int)<=p:=of_decide_eq_true c1;rw[if_pos SI]at eA eB;refine⟨_,rfl,.inl ⟨rfl,_,bQ.of J9⟩,_,rfl,A,_,_,rfl,rfl,J9,aU (by rw[cR];lia),?_⟩;refine⟨_,rfl,some (.int e),some (.ref o),some (.int (0+((aW sh (es.take i)).length:Int)+((aY sh e).length:Int))),?_,?_,?_,bX hA (s2.trans s3) (aL A _ _)⟩
   ·rw[eF];rfl
   ·rw[af,eA,j5];rfl
   ·rw[aK DU.symm,eB,jo];exact Vb
  ·have SI:¬ 0+((aW sh (es.take i)).length:Int)+((aY sh e).length:Int)<=p:=λz=>c1 (decide_eq_true z);rw[if_neg SI]at eA eB;refine⟨_,rfl,_,rfl,_,_,rfl,rfl,_,rfl,dN (λc2=>?_) (λc2=>?_)⟩
   ·have Lm:p<=0+((aW sh (es.take i)).length:Int):=of_decide_eq_true c2;rw[if_pos Lm]at eA eB;refine⟨_,rfl,.inl ⟨rfl,_,bQ.of Vb⟩,_,rfl,B,_,_,rfl,rfl,Vb,aU (by rw[cR];lia),?_⟩;refine⟨_,rfl,some (.int e),some (.ref o),some (.int (0+((aW sh (es.take i)).length:Int)+((aY sh e).length:Int))),?_,?_,?_,bX Pc (s2.trans s3) (aL B _ _)⟩
    ·rw[eF];rfl
    ·rw[aK DU,eA,jo];exact J9
    ·rw[af,eB,j5];rfl
   ·have Lm:¬ p<=0+((aW sh (es.take i)).length:Int):=λz=>c2 (decide_eq_true z);rw[if_neg Lm]at eA eB;rw[eA,dM]at lA;rw[eB,dM]at lB;refine⟨_,rfl,.inl ⟨rfl,_,bQ.of J9⟩,_,rfl,_,rfl,_,rfl,_,_,rfl,rfl,_,rfl,o,_,rfl,bQ.of h3,λq1 UM=>?_⟩;have n1:aM H3 (aO H3 q1 (.lst (pU ((aY sh e).map V.int) none (some (p-(0+((aW sh (es.take i)).length:Int))))))):=ao UM _;have e1:pU ((aY sh e).map V.int) none (some (p-(0+((aW sh (es.take i)).length:Int))))=((aY sh e).take (p-(0+((aW sh (es.take i)).length:Int))).toNat).map V.int:=by rw[yE _ (by lia),List.map_take]
    refine⟨A,q1,_,_,rfl,rfl,n1 _ _ J9,af,j9 (aU (by rw[e1,cR,cR];lia)),?_⟩;have k4:cT A H3 (aO (aO H3 q1 (.lst (pU ((aY sh e).map V.int) none (some (p-(0+((aW sh (es.take i)).length:Int))))))) A (.lst ((aE sh p 0 (es.take i)).map V.int++pU ((aY sh e).map V.int) none (some (p-(0+((aW sh (es.take i)).length:Int))))))):=cT.trans (aM.keep n1) (aL A _ _);have no:o≠A:=(az RV ho).symm;have nqA:q1≠A:=(az J9 UM).symm;have hB4:=k4 _ _ Vb DU.symm;refine⟨_,rfl,.inl ⟨rfl,_,bQ.of hB4⟩,_,rfl,_,rfl,_,rfl,_,_,rfl,rfl,_,rfl,o,_,rfl,bQ.of (k4 _ _ h3 no),λq2 jA=>?_⟩;have e2:pU ((aY sh e).map V.int) (some (p-(0+((aW sh (es.take i)).length:Int)))) none=((aY sh e).drop (p-(0+((aW sh (es.take i)).length:Int))).toNat).map V.int:=by rw[Ay _ (by lia),List.map_drop]
    refine⟨B,q2,_,_,rfl,rfl,ao jA _ _ _ hB4,af,j9 (aU (by rw[e2,cR,cR];lia)),?_⟩;refine⟨_,rfl,some (.int e),some (.ref o),some (.int (0+((aW sh (es.take i)).length:Int)+((aY sh e).length:Int))),?_,?_,?_,?_⟩
    ·rw[eF];rfl
    ·rw[aK DU,ao jA _ _ _ af,eA,j5,e1]
    ·rw[af,eB,j5,e2]
    ·exact bX Pc ((bX hA (s2.trans s3) k4).trans (ao jA _)) (aL B _ _)
 ·rintro σ H2 ⟨u1,u2,u3,rfl,RV,hB2,s2⟩;rw[cR,lI]at RV hB2;have lA:=G1 sh p es 0;have lB:=G2 sh p es 0;refine⟨_,rfl,_,rfl,A,n,_,_,rfl,rfl,RV,s2 _ _ hn,j9 (aU (by rw[cR,cR];lia)),λc1 YS=>?_⟩;have n1:aM H2 (aO H2 c1 (.lst ((aE sh p 0 es).map V.int++new.map V.int))):=ao YS _;refine⟨_,rfl,c1,B,_,_,rfl,rfl,af,n1 _ _ hB2,j9 (aU (by rw[dM,cR,cR,cR];lia)),λc2 Yi=>?_⟩;refine k es c2 _ iJ ?_ ?_ (s2.trans (n1.trans (ao Yi _))) (aZ (s2.trans n1) Yi)
  ·rw[af];unfold iT;rw[if_neg c',j5,j5]
  ·unfold iT;rw[if_neg c',dM,dM];lia
def SV(sh:Int->List Int)(a b f e:Int):List Int:=if a=b then [e] else M5 sh a b f e
def SX(sh:Int->List Int)(a b f e:Int):List Int:=if a=b then [] else Pe sh a b f e
theorem JF(sh:Int->List Int)(a b:Int)(es:List Int)(e:Int):bY sh a b (es++[e])=bY sh a b es++SV sh a b (0+((aW sh es).length:Int)) e:=by
 unfold bY SV;split
 ·rfl
 ·rw[Aw,kE,kE,jo]
theorem JG(sh:Int->List Int)(a b:Int)(es:List Int)(e:Int):kW sh a b (es++[e])=kW sh a b es++SX sh a b (0+((aW sh es).length:Int)) e:=by
 unfold kW SX;split
 ·rfl
 ·rw[Ax,tE,tE,jo]
theorem Vc(sh:Int->List Int)(a b f e:Int):(SV sh a b f e).length<=1+2*(aY sh e).length:=by
 unfold SV M5;split
 ·simp
 ·split
  ·simp
  ·split
   ·simp
   ·rw[dM,jV,xq];lia
theorem Vd(sh:Int->List Int)(a b f e:Int):(SX sh a b f e).length<=1+2*(aY sh e).length:=by
 unfold SX Pe;split
 ·simp
 ·split
  ·simp
  ·split
   ·simp
   ·rw[xq,jV];lia
theorem RW(sh:Int->List Int)(a b:Int):∀ (es:List Int) (f:Int),(kE sh a b f es).length<=es.length+2*(aW sh es).length
 | [],_=>by simp[kE]
 | e::r,f=>by
  rw[kE,cz,dM,dM,qE];have x:=RW sh a b r (f+(aY sh e).length)
  have y:(M5 sh a b f e).length<=1+2*(aY sh e).length:=by
   unfold M5;split
   ·simp
   ·split
    ·simp
    ·rw[dM,jV,xq];lia
  lia
theorem RX(sh:Int->List Int)(a b:Int):∀ (es:List Int) (f:Int),(tE sh a b f es).length<=es.length+2*(aW sh es).length
 | [],_=>by simp[tE]
 | e::r,f=>by
  rw[tE,cz,dM,dM,qE];have x:=RX sh a b r (f+(aY sh e).length)
  have y:(Pe sh a b f e).length<=1+2*(aY sh e).length:=by
   unfold Pe;split
   ·simp
   ·split
    ·simp
    ·rw[xq,jV];lia
  lia
theorem yK(sh:Int->List Int)(a b:Int)(es:List Int):(bY sh a b es).length<=es.length+2*(aW sh es).length:=by
 unfold bY;split
 ·lia
 ·exact RW sh a b es 0
theorem DF(sh:Int->List Int)(a b:Int)(es:List Int):(kW sh a b es).length<=es.length+2*(aW sh es).length:=by
 unfold kW;split
 ·simp
 ·exact RX sh a b es 0
inductive RY(d:Nat)(vs:List V)(H:Hp)(Q:VK)(E:XK):Prop
 | mk (av:Addr->Prop) (r:Addr) (rows:dJ) (s a b:Int) (sh:Int->List Int) (rk:Int->Nat) (_:vs=[.ref r,.int s,.int a,.int b]) (_:kT av H r rows) (_:rows.length<=1000) (_:(∀ es∈rows,es.length<=1000)) (_:jH rows) (_:rT rows sh) (_:(∀ x:Int,0<=x->x<rows.length->(sh x).length<=10000)) (_:(∀ x y,oR rows x y->rk y<rk x)) (_:0<=s) (_:s<rows.length) (_:rk s<=d) (_:a<=b) (_ :
 ∀ (es:List Int) (t L M:Addr) (H':Hp),rows[s.toNat]?=some es->H' t=some (.tup [.ref L,.ref M])->H' L=some (.lst ((bY sh a b es).map V.int))->H' M=some (.lst ((kW sh a b es).map V.int))->aM H H'->H L=none->H M=none->L≠M->Q (.ref t) H')
theorem jy:aH ["_law_rows","_law_sheet","_law_start","_law_stop","_law_kept","_law_taken","_law_first","_law_entry","_law_pieces_here","_law_last","_law_low","_law_high"] ["_law_rows","_law_sheet","_law_start","_law_stop"] (aA wK):=iW
theorem LS{f g h':Addr}{d:Nat}(F:iH K "_law_cut" "_law_cut" wK f fd)(T:nI mg)(bM:aC K mg "_law_show" jr nK g gd)(gZ:aC K mg "_law_pieces" lQ NB h' WM):aF P w K mg zt bI (d+3) f fd Wz (RY d):=by
 have u7:aF P w K mg zt bI (d+2) _ _ NB (AN d):=xV gZ.F T bM;refine jg F jy λdH A zn s0 H vs Q E hr h=>?_;obtain⟨av,r,rows,s,p,q,sh,rk,rfl,R,gj,hes,vm,AY,E8,Bw,h0,h1,hd,hpq,k⟩:=h;obtain⟨es,iJ⟩:∃ es,rows[s.toNat]?=some es:=⟨_,pP (by lia)⟩;have esl:=hes es (vf iJ);have shs:=AY s es h0 iJ;have shl:=E8 s h0 h1;rw[shs]at shl;obtain⟨Bx,b,Ba,Gn,hb0,hrl⟩:=R.get iJ
 have zw:vC Bx s=some (.ref b):=by
  have z:=gz Gn;rw[show ((s.toNat:Nat):Int)=s by lia]at z;exact z
 refine⟨_,(aj (bh (i:=4) jy.nd (bO ah)) (aj (bh (i:=5) jy.nd (bO ah)) (aj (bh (i:=6) jy.nd ay) (aj (ie PassesOwn.never rfl (dc (aX bW (pv 0) (pv 1))) (cB (i:=7) jy.nd) (aj (bh (i:=8) jy.nd (aG gZ u7 hr (aa (pv 0) (aa (pv 7) ah)))) (aj (bh (i:=9) jy.nd (bz eT (pv 6) (jI T.jh (pv 8)))) (aj (bh (i:=10) jy.nd (cL (uf rfl) rfl T.Fd PyProof.Rows.boot_max (aa ay (aa (bz cY (pv 2) (pv 6)) ah)))) (aj (bh (i:=11) jy.nd (bz cY (cL (wI rfl) rfl T.MQ PyProof.Rows.boot_min (aa (pv 9) (aa (pv 3) ah))) (pv 6))) (aj (bU (PW.pt (HF (bq ig (pv 2) (pv 3) (bC _)) (HF (bq jz (pv 9) (pv 2) (bC _)) (FT (bq jz (pv 3) (pv 6) (bC _)))))) (au (bu (iu wG qZ rf cH (pv 4) (aa (pv 7) ah)))) (au (bU (PW.pt (Cd (bq jz (pv 2) (pv 6) (bC _)) (yV (bq jz (pv 9) (pv 3) (bC _))))) (au (bu (iu wG qZ rf cH (pv 5) (aa (pv 7) ah)))) (aj (bu (iu wG PySem.F.slot_list_extend PySem.F.type_list_extend nA (pv 4) (aa (bz nM (mC qF (pv 8) sO (mL (pv 10))) (mC qF (pv 8) (mL (pv 11)) sO)) ah))) (au (bu (iu wG PySem.F.slot_list_extend PySem.F.type_list_extend nA (pv 5) (aa (mC qF (pv 8) (mL (pv 10)) (mL (pv 11))) ah)))))))) (au (bh (i:=6) jy.nd (pv 9))))))))) (au (aN (dX (aa (pv 4) (aa (pv 5) ah))))))))),?_⟩;refine⟨mF,λA hA=>⟨mF,λB hB=>?_⟩⟩;have sA:aM H (aO H A (.lst [])):=ao hA _;have sB:aM _ (aO (aO H A (.lst [])) B (.lst [])):=ao hB _;have s1:=sA.trans sB;have DU:A≠B:=az af hB;have Pc:=aZ sA hB
 have z0:bY sh p q []=[]/\kW sh p q []=[]:=by
  unfold bY kW
  constructor <;> split <;> rfl
 refine⟨_,rfl,_,rfl,r,_,_,_,rfl,rfl,bQ.of (s1 _ _ Ba),zw,b,rfl,⟨_,bQ.of (s1 _ _ hb0)⟩,gB (K:=K) (a:=b) (xs:=es.map V.int) (λi σ H2=>∃ u1 u2 u3 u4 u5:Option V,σ=[some (.ref r),some (.int s),some (.int p),some (.int q),some (.ref A),some (.ref B),some (.int (0+((aW sh (es.take i)).length:Int))),u1,u2,u3,u4,u5]/\H2 A=some (.lst ((bY sh p q (es.take i)).map V.int))/\H2 B=some (.lst ((kW sh p q (es.take i)).map V.int))/\aM H H2) ⟨none,none,none,none,none,rfl,(by rw[List.take_zero,z0.1];exact sB _ _ af),(by rw[List.take_zero,z0.2];exact af),s1⟩ (by rintro i σ H2 _ ⟨_,_,_,_,_,_,_,_,s2⟩;exact bQ.of (s2 _ _ hb0)) ?_ ?_⟩
 ·rintro i x σ H2 hi ⟨u1,u2,u3,u4,u5,rfl,RV,hB2,s2⟩;rw[kF]at hi;obtain⟨e,ex,rfl⟩:=Option.map_eq_some_iff.mp hi;have st:=take_snoc ex;have eA:=JF sh p q (es.take i) e;have eB:=JG sh p q (es.take i) e;rw[← st]at eA eB
  have eF:(0+((aW sh (es.take (i+1))).length:Int))=0+((aW sh (es.take i)).length:Int)+(aY sh e).length:=by
   rw[st,om,cz,dM,dM];simp[aW]
  have lA0:=yK sh p q (es.take i);have lB0:=DF sh p q (es.take i);have l1:=uZ sh es (i+1);have l0:=uZ sh es i
  have le:(aY sh e).length<=(aW sh (es.take (i+1))).length:=by
   rw[st,om,cz,dM,dM];lia
  have lkk:=Vc sh p q (0+((aW sh (es.take i)).length:Int)) e;have ltt:=Vd sh p q (0+((aW sh (es.take i)).length:Int)) e;have t0:(es.take i).length<=es.length:=by rw[jV];lia
  generalize hf:0+((aW sh (es.take i)).length:Int)=fi at *;refine⟨_,rfl,_,rfl,av,r,rows,e,sh,rk,rfl,R.same s2,gj,vm,AY,E8,Bw,λaeP=>?_,λo H3 h3 s3 ho=>?_⟩
  ·have nx:oR rows s (-1-e):=⟨h0,es,iJ,cK.mpr ⟨by lia,by rw[show -1-(-1-e)=e by lia];exact vf ex⟩⟩;have:=Bw _ _ nx;exact⟨(vm.Hj nx).2,by lia⟩
  have J9:=s3 _ _ RV;have Vb:=s3 _ _ hB2;refine⟨_,rfl,_,rfl,o,_,rfl,.inl (bQ.of h3),_,_,rfl,rfl,?_⟩;rw[cR];refine⟨_,rfl,_,rfl,_,_,rfl,rfl,_,_,rfl,?_⟩;refine⟨_,rfl,_,rfl,_,_,rfl,_,rfl,_,_,rfl,rfl,?_⟩
  have lo0:(if p-fi > 0 then p-fi else 0).toNat=(p-fi).toNat/\0<=(if p-fi > 0 then p-fi else 0):=by
   split <;> lia
  have Dc:(p=q\/(fi+((aY sh e).length:Int))<=p\/q<=fi)->(aO H3 A (.lst ((bY sh p q (es.take i)).map V.int++[.int e]))) A=some (.lst ((bY sh p q (es.take (i+1))).map V.int))/\(aO H3 A (.lst ((bY sh p q (es.take i)).map V.int++[.int e]))) B=some (.lst ((kW sh p q (es.take (i+1))).map V.int)):=λc=>by
   have e1:SV sh p q fi e=[e]:=by
    unfold SV M5;rcases c with c|c
    ·rw[if_pos c]
    ·rw[if_pos c];split <;> rfl
   have e2:SX sh p q fi e=[]:=by
    unfold SX Pe;rcases c with c|c
    ·rw[if_pos c]
    ·rw[if_pos c];split <;> rfl
   rw[af,aK DU.symm,eA,eB,e1,e2,jo,j5];exact⟨rfl,Vb⟩
  have stf:∀ y:Option V,[some (V.ref r),some (.int s),some (.int p),some (.int q),some (.ref A),some (.ref B),some (.int (fi+((aY sh e).length:Int))),some (.int e),some (.ref o),some (.int (fi+((aY sh e).length:Int))),some (.int (if p-fi > 0 then p-fi else 0)),y]=[some (.ref r),some (.int s),some (.int p),some (.int q),some (.ref A),some (.ref B),some (.int (0+((aW sh (es.take (i+1))).length:Int))),some (.int e),some (.ref o),some (.int (fi+((aY sh e).length:Int))),some (.int (if p-fi > 0 then p-fi else 0)),y]:=λy=>by rw[eF]
  have keepR:∀ c:(p=q\/(fi+((aY sh e).length:Int))<=p\/q<=fi),∃ u1 u2 u3 u4 u5:Option V,[some (V.ref r),some (.int s),some (.int p),some (.int q),some (.ref A),some (.ref B),some (.int (fi+((aY sh e).length:Int))),some (.int e),some (.ref o),some (.int (fi+((aY sh e).length:Int))),some (.int (if p-fi > 0 then p-fi else 0)),some (.int ((if q<(fi+((aY sh e).length:Int)) then q else (fi+((aY sh e).length:Int)))-fi))]=[some (.ref r),some (.int s),some (.int p),some (.int q),some (.ref A),some (.ref B),some (.int (0+((aW sh (es.take (i+1))).length:Int))),u1,u2,u3,u4,u5]/\(aO H3 A (.lst ((bY sh p q (es.take i)).map V.int++[.int e]))) A=some (.lst ((bY sh p q (es.take (i+1))).map V.int))/\(aO H3 A (.lst ((bY sh p q (es.take i)).map V.int++[.int e]))) B=some (.lst ((kW sh p q (es.take (i+1))).map V.int))/\aM H (aO H3 A (.lst ((bY sh p q (es.take i)).map V.int++[.int e]))):=λc =>
   ⟨_,_,_,_,_,stf _,(Dc c).1,(Dc c).2,bX hA (s2.trans s3) (aL A _ _)⟩
  have mA:((bY sh p q (es.take i)).map V.int).length<sizeLine:=aU (by rw[cR];lia);refine⟨_,rfl,_,rfl,rfl,_,rfl,dN (λc1=>mD ?_) (λc1=>?_)⟩
  ·exact⟨_,rfl,.inl ⟨rfl,_,bQ.of J9⟩,_,rfl,A,_,_,rfl,rfl,J9,mA,_,rfl,keepR (.inl (V.int.inj (of_decide_eq_true c1)))⟩
  have SI:¬ p=q:=λz=>c1 (by rw[z];exact decide_eq_true rfl);refine⟨_,rfl,_,rfl,_,_,rfl,rfl,_,rfl,dN (λc2=>mD ?_) (λc2=>?_)⟩
  ·exact⟨_,rfl,.inl ⟨rfl,_,bQ.of J9⟩,_,rfl,A,_,_,rfl,rfl,J9,mA,_,rfl,keepR (.inr (.inl (of_decide_eq_true c2)))⟩
  have Lm:¬ (fi+((aY sh e).length:Int))<=p:=λz=>c2 (decide_eq_true z);refine⟨_,rfl,_,rfl,_,_,rfl,rfl,_,rfl,dN (λc3=>?_) (λc3=>?_)⟩
  ·exact⟨_,rfl,.inl ⟨rfl,_,bQ.of J9⟩,_,rfl,A,_,_,rfl,rfl,J9,mA,_,rfl,keepR (.inr (.inr (of_decide_eq_true c3)))⟩
  have c3':¬ q<=fi:=λz=>c3 (decide_eq_true z);have n1:¬ ((fi+((aY sh e).length:Int))<=p\/q<=fi):=λz=>z.elim Lm c3'
  have hh:((if q<(fi+((aY sh e).length:Int)) then q else (fi+((aY sh e).length:Int)))-fi).toNat=min (aY sh e).length (q-fi).toNat/\0<=(if q<(fi+((aY sh e).length:Int)) then q else (fi+((aY sh e).length:Int)))-fi:=by
   split <;> lia
  have pq:p<q:=by lia
  have vO:¬ (p<=fi/\(fi+((aY sh e).length:Int))<=q)->SV sh p q fi e=(aY sh e).take (if p-fi > 0 then p-fi else 0).toNat++(aY sh e).drop ((if q<(fi+((aY sh e).length:Int)) then q else (fi+((aY sh e).length:Int)))-fi).toNat/\SX sh p q fi e=((aY sh e).take ((if q<(fi+((aY sh e).length:Int)) then q else (fi+((aY sh e).length:Int)))-fi).toNat).drop (if p-fi > 0 then p-fi else 0).toNat:=λc4=>by
   unfold SV SX M5 Pe;rw[if_neg SI,if_neg SI,if_neg n1,if_neg n1,if_neg c4,if_neg c4,lo0.1,hh.1];rcases Nat.le_total (q-fi).toNat (aY sh e).length with z|z
   ·rw[Nat.min_eq_right z];exact⟨rfl,rfl⟩
   ·rw[Nat.min_eq_left z,B4 z,B4 (ja _),yQ z,yQ (ja _)];exact⟨rfl,rfl⟩
  refine⟨_,rfl,_,rfl,_,_,rfl,rfl,_,rfl,QX (λz=>⟨_,rfl,_,rfl,_,_,rfl,rfl,_,rfl,z⟩) (λc6=>?_) (λc6=>?_)⟩
  ·have e1:SV sh p q fi e=[]:=by unfold SV M5;rw[if_neg SI,if_neg n1,if_pos c6]
   have e2:SX sh p q fi e=[e]:=by unfold SX Pe;rw[if_neg SI,if_neg n1,if_pos c6]
   refine⟨_,rfl,.inl ⟨rfl,_,bQ.of Vb⟩,_,rfl,B,_,_,rfl,rfl,Vb,aU (by rw[cR];lia),_,rfl,_,_,_,_,_,stf _,?_,?_,bX Pc (s2.trans s3) (aL B _ _)⟩
   ·rw[aK DU,eA,e1,jo];exact J9
   ·rw[af,eB,e2,j5];rfl
  ·obtain⟨r1,r2⟩:=vO c6;rw[r1,dM]at lkk;rw[r2]at ltt;refine⟨_,rfl,.inl ⟨rfl,_,bQ.of J9⟩,_,rfl,_,rfl,_,rfl,o,_,rfl,bQ.of h3,λq1 UM=>?_⟩;rw[yE _ lo0.2,← List.map_take];have n4:aM H3 (aO H3 q1 (.lst (((aY sh e).take (if p-fi > 0 then p-fi else 0).toNat).map V.int))):=ao UM _;refine⟨_,rfl,_,rfl,_,rfl,o,_,rfl,bQ.of (n4 _ _ h3),λq2 jA=>?_⟩;rw[Ay _ hh.2,← List.map_drop];have n5:aM _ (aO (aO H3 q1 (.lst (((aY sh e).take (if p-fi > 0 then p-fi else 0).toNat).map V.int))) q2 (.lst (((aY sh e).drop ((if q<(fi+((aY sh e).length:Int)) then q else (fi+((aY sh e).length:Int)))-fi).toNat).map V.int))):=ao jA _;refine⟨q1,q2,_,_,rfl,rfl,n5 _ _ af,af,(by rw[cR,cR];exact j9 (aU (by lia))),λq3 Q6=>?_⟩;have n6:aM _ (aO (aO (aO H3 q1 (.lst (((aY sh e).take (if p-fi > 0 then p-fi else 0).toNat).map V.int))) q2 (.lst (((aY sh e).drop ((if q<(fi+((aY sh e).length:Int)) then q else (fi+((aY sh e).length:Int)))-fi).toNat).map V.int))) q3 (.lst (((aY sh e).take (if p-fi > 0 then p-fi else 0).toNat).map V.int++((aY sh e).drop ((if q<(fi+((aY sh e).length:Int)) then q else (fi+((aY sh e).length:Int)))-fi).toNat).map V.int))):=ao Q6 _;have n46:=n4.trans (n5.trans n6);have h63:(aO (aO (aO H3 q1 (.lst (((aY sh e).take (if p-fi > 0 then p-fi else 0).toNat).map V.int))) q2 (.lst (((aY sh e).drop ((if q<(fi+((aY sh e).length:Int)) then q else (fi+((aY sh e).length:Int)))-fi).toNat).map V.int))) q3 (.lst (((aY sh e).take (if p-fi > 0 then p-fi else 0).toNat).map V.int++((aY sh e).drop ((if q<(fi+((aY sh e).length:Int)) then q else (fi+((aY sh e).length:Int)))-fi).toNat).map V.int))) q3=some (.lst (((aY sh e).take (if p-fi > 0 then p-fi else 0).toNat).map V.int++((aY sh e).drop ((if q<(fi+((aY sh e).length:Int)) then q else (fi+((aY sh e).length:Int)))-fi).toNat).map V.int)):=af;generalize aO (aO (aO H3 q1 (.lst (((aY sh e).take (if p-fi > 0 then p-fi else 0).toNat).map V.int))) q2 (.lst (((aY sh e).drop ((if q<(fi+((aY sh e).length:Int)) then q else (fi+((aY sh e).length:Int)))-fi).toNat).map V.int))) q3 (.lst (((aY sh e).take (if p-fi > 0 then p-fi else 0).toNat).map V.int++((aY sh e).drop ((if q<(fi+((aY sh e).length:Int)) then q else (fi+((aY sh e).length:Int)))-fi).toNat).map V.int))=H6 at n46 h63;refine⟨A,q3,_,_,rfl,rfl,n46 _ _ J9,h63,(by rw[dM,cR,cR,cR];exact j9 (aU (by lia))),?_⟩;have k7:cT A H6 (aO H6 A (.lst ((bY sh p q (es.take i)).map V.int++(((aY sh e).take (if p-fi > 0 then p-fi else 0).toNat).map V.int++((aY sh e).drop ((if q<(fi+((aY sh e).length:Int)) then q else (fi+((aY sh e).length:Int)))-fi).toNat).map V.int)))):=aL A _ _;have hA7:(aO H6 A (.lst ((bY sh p q (es.take i)).map V.int++(((aY sh e).take (if p-fi > 0 then p-fi else 0).toNat).map V.int++((aY sh e).drop ((if q<(fi+((aY sh e).length:Int)) then q else (fi+((aY sh e).length:Int)))-fi).toNat).map V.int)))) A=some (.lst ((bY sh p q (es.take (i+1))).map V.int)):=by rw[af,eA,r1,j5,j5]
   have no:o≠A:=(az RV ho).symm;have h37:=k7 _ _ (n46 _ _ h3) no;have hB7:=k7 _ _ (n46 _ _ Vb) DU.symm;have sm7:=bX hA (s2.trans (s3.trans n46)) k7;generalize aO H6 A (.lst ((bY sh p q (es.take i)).map V.int++(((aY sh e).take (if p-fi > 0 then p-fi else 0).toNat).map V.int++((aY sh e).drop ((if q<(fi+((aY sh e).length:Int)) then q else (fi+((aY sh e).length:Int)))-fi).toNat).map V.int)))=H7 at k7 hA7 h37 hB7 sm7;refine⟨_,rfl,.inl ⟨rfl,_,bQ.of hB7⟩,_,rfl,_,rfl,_,rfl,_,rfl,_,rfl,o,_,rfl,bQ.of h37,λq4 UL=>?_⟩;rw[Jl _ lo0.2 hh.2,← List.map_take,← List.map_drop];refine⟨B,q4,_,_,rfl,rfl,ao UL _ _ _ hB7,af,(by rw[cR,cR];exact j9 (aU (by lia))),?_⟩;refine⟨_,rfl,_,_,_,_,_,stf _,?_,?_,bX Pc (sm7.trans (ao UL _)) (aL B _ _)⟩
   ·rw[aK DU];exact ao UL _ _ _ hA7
   ·rw[af,eB,r2,j5]
 ·rintro σ H2 ⟨u1,u2,u3,u4,u5,rfl,RV,hB2,s2⟩;rw[cR,lI]at RV hB2;refine⟨_,rfl,_,rfl,vW,λt ht=>k es t A B _ iJ af (ao ht _ _ _ RV) (ao ht _ _ _ hB2) (s2.trans (ao ht _)) hA Pc DU⟩
inductive uD(d:Nat)(vs:List V)(H:Hp)(Q:VK)(E:XK):Prop
 | mk (av:Addr->Prop) (r:Addr) (rows:dJ) (x:Int) (f:Int->Int) (rk:Int->Nat) (_:vs=[.ref r,.int x]) (_:kT av H r rows) (_:rows.length<=1000) (_:jH rows) (_:0<=x) (_:x<rows.length) (_:Weighs rows f) (_:(∀ x y,oR rows x y->rk y<rk x)) (_:rk x<d) (_:Q (.int (f x)) H)
theorem lG:aH ["_law_rows","_law_sheet","_law_total","_law_entry"] ["_law_rows","_law_sheet"] (aA mE):=iW
theorem AO{g:Addr}{n:Nat}(T:nI mg)(eO:aC K mg "_law_weighed" mE nK g fd)(t7:aF P w K mg zt bI (n+1) g fd nK (uD n)):aF P w K mg zt bI (n+2) g fd nK (uD (n+1)):=by
 refine jg eO.F lG λdH A zn s H vs Q E hr h=>?_;obtain⟨av,r,rows,x,f,rk,rfl,R,gj,vm,x0,x1,hf,Bw,hd,k⟩:=h;obtain⟨es,iJ⟩:∃ es,rows[x.toNat]?=some es:=⟨_,pP (by lia)⟩;obtain⟨Bx,b,Ba,Gn,hb0,hrl⟩:=R.get iJ
 have zw:vC Bx x=some (.ref b):=by
  have z:=gz Gn;rw[show ((x.toNat:Nat):Int)=x by lia]at z;exact z
 refine⟨_,(aj (bh (i:=2) lG.nd ay) (aj (ie PassesOwn.never rfl (dc (aX bW (pv 0) (pv 1))) (cB (i:=3) lG.nd) (aj (bh (i:=2) lG.nd (bz eT (pv 2) ay)) (au (bU (bq rB (pv 3) ay (bC _)) (au (bh (i:=2) lG.nd (bz eT (pv 2) (aG eO t7 hr (aa (pv 0) (aa (bz cY (oO kg ay) (pv 3)) ah)))))) br)))) (au (aN (pv 2))))),?_⟩;refine⟨_,rfl,_,rfl,r,_,_,_,rfl,rfl,bQ.of Ba,zw,b,rfl,⟨_,bQ.of hb0⟩,gB (K:=K) (a:=b) (xs:=es.map V.int) (λi σ H2=>∃ u:Option V,σ=[some (.ref r),some (.int x),some (.int (qc f (es.take i))),u]/\H2=H) ⟨none,rfl,rfl⟩ (λi σ H2 _ ⟨_,_,e⟩=>by rw[e];exact bQ.of hb0) ?_ ?_⟩
 ·rintro i e σ H2 hi ⟨u,rfl,rfl⟩;rw[kF]at hi;obtain⟨e,ex,rfl⟩:=Option.map_eq_some_iff.mp hi
  have st:qc f (es.take (i+1))=qc f (es.take i)+(if e<0 then 1+f (-1-e) else 1):=by
   rw[take_snoc ex];unfold qc;rw[j5,List.sum_append];simp
  refine⟨_,rfl,_,_,rfl,rfl,?_⟩;refine⟨_,rfl,_,_,rfl,rfl,_,rfl,dN (λc=>?_) (λc=>?_)⟩
  ·have c':e<0:=of_decide_eq_true c;have J8:oR rows x (-1-e):=⟨x0,es,iJ,cK.mpr ⟨by lia,by rw[show -1-(-1-e)=e by lia];exact vf ex⟩⟩;obtain⟨y0,y1⟩:=vm.Hj J8;have rky:=Bw _ _ J8;refine⟨_,rfl,_,rfl,_,rfl,_,rfl,_,_,rfl,rfl,av,r,rows,-1-e,f,rk,rfl,R,gj,vm,y0,y1,hf,Bw,by lia,_,_,rfl,rfl,?_⟩;refine⟨some (.int e),?_,rfl⟩;rw[st,if_pos c'];show [some (V.ref r),some (V.int x),some (V.int (qc f (es.take i)+1+f (-1-e))),some (V.int e)]=_;rw[show qc f (es.take i)+1+f (-1-e)=qc f (es.take i)+(1+f (-1-e)) by lia]
  ·have c':¬ e<0:=λz=>c (decide_eq_true z);refine⟨some (.int e),?_,rfl⟩;rw[st,if_neg c'];rfl
 ·rintro σ H2 ⟨u,rfl,rfl⟩;rw[cR,lI,← hf x es x0 iJ];exact⟨_,rfl,k⟩
theorem wC{g:Addr}(T:nI mg)(eO:aC K mg "_law_weighed" mE nK g fd):∀ n:Nat,aF P w K mg zt bI (n+1) g fd nK (uD n)
 | 0=>by
  have no:∀ vs H Q E,¬ uD 0 vs H Q E:=λvs H Q E h=>by
   obtain⟨_,_,_,_,_,_,_,_,_,_,_,_,_,_,h,_⟩:=h;exact Nat.not_lt_zero _ h
  exact⟨λvs H Q E h=>absurd h (no vs H Q E),λA zn s H args us vs Q E _ _ _ _ h=>absurd h (no vs H Q E)⟩
 | n+1=>AO T eO (wC T eO n)
theorem Reach.trans{E:Int->Int->Prop}{a b c:Int}(h:Reach E a b)(g:Reach E b c):Reach E a c:=by
 induction g with
 | one e=>exact .step h e
 | step _ e ih=>exact .step ih e
theorem JH{p q:Nat->Bool}(h:∀ i,p i=true->q i=true):∀ n,cnt n p<=cnt n q
 | 0=>ja _
 | n+1=>by
  rw[zj,zj];have ih:=JH h n;by_cases c:p n=true
  ·rw[if_pos c,if_pos (h n c)];lia
  ·rw[if_neg c];lia
open Classical in
theorem Yx{rows:dJ}(sd:jH rows)(l:rows.length<=40)(h:∀ x,¬ Reach (oR rows) x x):Gb rows:=by
 refine⟨λx=>cnt rows.length λi=>decide (Reach (oR rows) x (i:Int)),λx=>lJ (CM _ _) l,λx y n=>?_⟩;obtain⟨y0,y1⟩:=sd.Hj n;have yy:((y.toNat:Nat):Int)=y:=by lia
 have a:=JH (p:=λi=>decide (Reach (oR rows) y (i:Int))) (q:=λi=>decide (Reach (oR rows) x (i:Int))&&decide (i≠y.toNat)) (λi hi=>by
  have r:=of_decide_eq_true hi;rw[Bool.and_eq_true];refine⟨decide_eq_true ((Reach.one n).trans r),decide_eq_true λz=>?_⟩;rw[z,yy]at r
  exact h _ r) rows.length
 have b:=zk y.toNat rows.length (p:=λi=>decide (Reach (oR rows) x (i:Int))) (q:=λi=>decide (Reach (oR rows) x (i:Int))&&decide (i≠y.toNat)) (by lia) (decide_eq_true (by rw[yy];exact .one n)) (λ_=>rfl);show cnt _ _<cnt _ _;lia
theorem Nq{rows:dJ}{s:Nat}{es:List Int}{x y:Int}(h:oR (rows.set s es) x y)(ne:x.toNat≠s):oR rows x y:=by
 obtain⟨x0,zN,e,hy⟩:=h;rw[List.getElem?_set_ne (λz=>ne z.symm)]at e;exact⟨x0,zN,e,hy⟩
theorem RZ{rows:dJ}{s:Int}{es:List Int}(s0:0<=s)(R:Gb rows)(n:¬ Reach (oR (rows.set s.toNat es)) s s):∀ x,¬ Reach (oR (rows.set s.toNat es)) x x:=by
 have key:∀ {a b:Int},Reach (oR (rows.set s.toNat es)) a b->Reach (oR rows) a b\/((a=s\/Reach (oR (rows.set s.toNat es)) a s)/\Reach (oR (rows.set s.toNat es)) s b):=by
  intro a b r
  induction r with
  | one e =>
   by_cases c:a.toNat=s.toNat
   ·have q:a=s:=by have:=e.1;lia
    rw[q]at e;exact .inr ⟨.inl q,.one e⟩
   ·exact .inl (.one (Nq e c))
  | @step y z r e ih =>
   by_cases c:y.toNat=s.toNat
   ·have q:y=s:=by have:=e.1;lia
    rw[q]at r e;exact .inr ⟨.inr r,.one e⟩
   ·rcases ih with i|i
    ·exact .inl (.step i (Nq e c))
    ·exact .inr ⟨i.1,.step i.2 e⟩
 intro x r;rcases key r with z|⟨z|z,y⟩
 ·exact R.irr z
 ·rw[z]at y;exact n y
 ·exact n (y.trans z)
theorem OX(f:Int->Int)(e:Int)(r:List Int):qc f (e::r)=(if e<0 then 1+f (-1-e) else 1)+qc f r:=by unfold qc;rw[oJ,List.sum_cons]
theorem Nr{sh:Int->List Int}{f:Int->Int}:∀ {es:List Int},(∀ y∈gh es,((sh y).length:Int)<=f y)->(es.length:Int)<=qc f es/\((aW sh es).length:Int)<=qc f es
 | [],_=>by simp[qc,aW]
 | e::r,h=>by
  have ih:=Nr (es:=r) λy hy=>h y (cK.mpr ⟨(cK.mp hy).1,sH _ (cK.mp hy).2⟩);rw[OX,cz,dM,qE];unfold aY;by_cases c:e<0
  ·have z:=h (-1-e) (cK.mpr ⟨by lia,by rw[show -1-(-1-e)=e by lia];simp⟩);rw[if_pos c,if_pos c];lia
  ·rw[if_neg c,if_neg c,vK];lia
theorem JI{rows:dJ}{sh:Int->List Int}{f:Int->Int}(sd:jH rows)(R:Gb rows)(hs:rT rows sh)(hw:Weighs rows f):∀ x:Int,0<=x->∀ es,rows[x.toNat]?=some es->(es.length:Int)<=f x/\((sh x).length:Int)<=f x:=by
 obtain⟨rk,_,hd⟩:=R
 have key:∀ (k:Nat) (x:Int),rk x<k->0<=x->∀ es,rows[x.toNat]?=some es->(es.length:Int)<=f x/\((sh x).length:Int)<=f x:=by
  intro k
  induction k with
  | zero=>intro x h;lia
  | succ k ih =>
   intro x hx x0 es he;rw[hw x es x0 he,hs x es x0 he];refine Nr λy hy=>?_;have n:oR rows x y:=⟨x0,es,he,hy⟩;obtain⟨y0,y1⟩:=sd.Hj n;have:=hd _ _ n;exact (ih y (by lia) y0 _ (pP (by lia))).2
 exact λx=>key (rk x+1) x (Nat.lt_succ_self _)
theorem R0{rows:dJ}{sh:Int->List Int}{N:Int->Prop}(vm:jH rows)(Bw:Gb rows)(AY:rT rows sh)(hN:∀ es∈rows,∀ e∈es,0<=e->N e):∀ x:Int,0<=x->x<rows.length->∀ y∈sh x,N y:=by
 obtain⟨rk,hb,hd⟩:=Bw
 have key:∀ (k:Nat) (x:Int),rk x<k->0<=x->x<rows.length->∀ y∈sh x,N y:=by
  intro k
  induction k with
  | zero=>intro x h;lia
  | succ k ih =>
   intro x hx x0 x1 y hy;have he:rows[x.toNat]?=some rows[x.toNat]:=pP (by lia);rw[AY x _ x0 he]at hy;unfold aW at hy;obtain⟨e,hm,hy⟩:=List.mem_flatMap.mp hy;unfold aY at hy;by_cases c:e<0
   ·rw[if_pos c]at hy;have nx:oR rows x (-1-e):=⟨x0,_,he,cK.mpr ⟨by lia,by rw[show -1-(-1-e)=e by lia];exact hm⟩⟩;obtain⟨a,b⟩:=vm.Hj nx;have:=hd _ _ nx;exact ih _ (by lia) a b y hy
   ·rw[if_neg c]at hy;rw[List.mem_singleton.mp hy];exact hN _ (vf he) e hm (by lia)
 exact λx=>key (rk x+1) x (Nat.lt_succ_self _)
def xW(n m:Nat)(e:Int):Prop:=(0<=e/\e<(n:Nat))\/(e<0/\-1-e<(m:Nat))
structure Good(n:Nat)(rows:dJ):Prop where
 en:∀ es∈rows,∀ e∈es,xW n rows.length e
 rk:Gb rows
 ln:rows.length<=40
 wt:∃ f,Weighs rows f/\∀ x:Int,0<=x->x<rows.length->f x<=200
theorem G3{n:Nat}{rows:dJ}(h:∀ es∈rows,∀ e∈es,xW n rows.length e):jH rows:=λes he y hy=>by
 obtain⟨y0,hm⟩:=cK.mp hy;rcases h es he _ hm with z|z
 ·lia
 ·have:=z.2;lia
structure Gd(n:Nat)(rows:dJ)(sh:Int->List Int):Prop where
 sn:Seen rows sh
 in_:∀ x:Int,0<=x->x<rows.length->∀ a∈sh x,0<=a/\a<(n:Nat)
 sl:∀ x:Int,0<=x->x<rows.length->(sh x).length<=200
 es:∀ es∈rows,es.length<=200
 en:∀ es∈rows,∀ e∈es,xW n rows.length e
 ln:rows.length<=40
theorem Good.es{n:Nat}{rows:dJ}(h:Good n rows):∀ es∈rows,es.length<=200:=by
 obtain⟨en,rk,ln,f,hw,hm⟩:=h;obtain⟨sh,hs⟩:=DB rk;intro es he;obtain⟨i,hi⟩:=List.mem_iff_getElem?.mp he;have il:=(List.getElem?_eq_some_iff.mp hi).1;have a:=JI (G3 en) rk hs hw (i:Int) (by lia) es (by rw[Int.toNat_natCast];exact hi);have:=hm (i:Int) (by lia) (by lia);lia
theorem Good.Wl{n:Nat}{rows:dJ}(h:Good n rows):∃ sh,Gd n rows sh:=by
 have hes:=h.es;obtain⟨en,rk,ln,f,hw,hm⟩:=h;obtain⟨sh,hs⟩:=DB rk;have sd:=G3 en
 have sl:∀ x:Int,0<=x->x<rows.length->(sh x).length<=200:=λx x0 x1=>by
  have a:=JI sd rk hs hw x x0 _ (pP (by lia));have:=hm x x0 x1;lia
 refine⟨sh,⟨λes he=>by have:=hes es he;lia,sd,rk,hs,λx x0 x1=>by have:=sl x x0 x1;lia⟩,R0 sd rk hs (λes he e hm e0=>?_),sl,hes,en,ln⟩;rcases en es he e hm with z|z
 ·exact z
 ·lia
theorem Good.bears{n:Nat}{rows:dJ}(h:Good n rows):∃ f,tG rows f:=by
 have hes:=h.es;obtain⟨en,rk,ln,f,hw,hm⟩:=h;exact⟨f,by lia,λes he=>by have:=hes es he;lia,G3 en,rk,hw,hm⟩
theorem Sb{n:Nat}{rows:dJ}{s:Nat}{es:List Int}(h:∀ es∈rows,∀ e∈es,xW n rows.length e)(g:∀ e∈es,xW n rows.length e):∀ zN∈rows.set s es,∀ e∈zN,xW n (rows.set s es).length e:=by
 intro zN hm;rw[List.length_set];rcases List.mem_or_eq_of_mem_set hm with z|z
 ·exact h zN z
 ·rw[z];exact g
theorem JJ{sh:Int->List Int}{N:Int->Prop}(hs:∀ e,N e->∀ x∈aY sh e,N x)(p:Int):∀ (es:List Int) (f:Int),(∀ e∈es,N e)->∀ x,x∈aE sh p f es\/x∈bE sh p f es->N x
 | [],_,_=>λx hx=>by rcases hx with z | z <;> cases z
 | e::r,f,h=>by
  intro x hx;rw[aE,bE,List.mem_append,List.mem_append]at hx;have he:=hs e (h e (by simp));have ih:=JJ hs p r (f+(aY sh e).length) (λy hy=>h y (sH _ hy)) x;rcases hx with (z|z)|(z|z)
  ·split at z
   ·rw[List.mem_singleton.mp z];exact h e (by simp)
   ·split at z
    ·cases z
    ·exact he x (List.mem_of_mem_take z)
  ·exact ih (.inl z)
  ·split at z
   ·cases z
   ·split at z
    ·rw[List.mem_singleton.mp z];exact h e (by simp)
    ·exact he x (List.mem_of_mem_drop z)
  ·exact ih (.inr z)
theorem Sd{sh:Int->List Int}{N:Int->Prop}(hs:∀ e,N e->∀ x∈aY sh e,N x)(a b:Int):∀ (es:List Int) (f:Int),(∀ e∈es,N e)->∀ x,x∈kE sh a b f es\/x∈tE sh a b f es->N x
 | [],_,_=>λx hx=>by rcases hx with z | z <;> cases z
 | e::r,f,h=>by
  intro x hx;rw[kE,tE,List.mem_append,List.mem_append]at hx;have he:=hs e (h e (by simp));have ih:=Sd hs a b r (f+(aY sh e).length) (λy hy=>h y (sH _ hy)) x;unfold M5 Pe at hx;rcases hx with (z|z)|(z|z)
  ·split at z
   ·rw[List.mem_singleton.mp z];exact h e (by simp)
   ·split at z
    ·cases z
    ·rcases List.mem_append.mp z with z|z
     ·exact he x (List.mem_of_mem_take z)
     ·exact he x (List.mem_of_mem_drop z)
  ·exact ih (.inl z)
  ·split at z
   ·cases z
   ·split at z
    ·rw[List.mem_singleton.mp z];exact h e (by simp)
    ·exact he x (List.mem_of_mem_take (List.mem_of_mem_drop z))
  ·exact ih (.inr z)
theorem AQ{sh:Int->List Int}{N:Int->Prop}(hs:∀ e,N e->∀ x∈aY sh e,N x){p:Int}{es new:List Int}(h:∀ e∈es,N e)(g:∀ e∈new,N e):∀ e∈iT sh p es new,N e:=by
 intro x hx;unfold iT at hx;split at hx
 ·exact h x hx
 ·rw[List.mem_append,List.mem_append]at hx;rcases hx with (z|z)|z
  ·exact JJ hs p es 0 h x (.inl z)
  ·exact g x z
  ·exact JJ hs p es 0 h x (.inr z)
theorem Gd.cl{n:Nat}{rows:dJ}{sh:Int->List Int}(h:Gd n rows sh):∀ e,xW n rows.length e->∀ x∈aY sh e,xW n rows.length x:=by
 intro e he x hx;unfold aY at hx;rcases he with z|z
 ·rw[if_neg (by lia)]at hx;rw[List.mem_singleton.mp hx];exact .inl z
 ·rw[if_pos z.1]at hx;exact .inl (h.in_ _ (by lia) z.2 x hx)
theorem Gd.own{n:Nat}{rows:dJ}{sh:Int->List Int}(h:Gd n rows sh)(s:Int):∀ e∈jL.own rows s,xW n rows.length e:=by
 unfold jL.own
 cases e:rows[s.toNat]? with
 | none=>exact λ_ z=>nomatch z
 | some es=>exact h.en es (vf e)
inductive LD
 | put (s p:Int) (r:Addr) (row:Row)
 | cut (s a b:Int)
 | Ve (s a b t:Int)
 | Wm (t p s a b:Int)
 | win (t p s:Int)
 | fix (s:Int)
def LD.sh:LD->Int
 | .put s _ _ _=>s
 | .cut s _ _=>s
 | .Ve s _ _ _=>s
 | .Wm t _ _ _ _=>t
 | .win t _ _=>t
 | .fix s=>s
def LD.At(H:Hp)(d:Addr):LD->Prop
 | .put s p r row=>H d=some (.tup [.str "put",.int s,.int p,.ref r])/\cM H r row
 | .cut s a b=>H d=some (.tup [.str "cut",.int s,.int a,.int b])
 | .Ve s a b t=>H d=some (.tup [.str "move",.int s,.int a,.int b,.int t])
 | .Wm t p s a b=>H d=some (.tup [.str "quote",.int t,.int p,.int s,.int a,.int b])
 | .win t p s=>H d=some (.tup [.str "window",.int t,.int p,.int s])
 | .fix s=>H d=some (.tup [.str "fix",.int s])
def LD.Ok(n m:Nat)(sh:Int->List Int):LD->Prop
 | .put s p _ row=>yN m s/\(0<=p/\p<=(sh s).length)/\row.length<=2/\∀ q∈row,0<=q.1/\q.1<q.2/\q.2<=(n:Nat)/\q.2<=q.1+40
 | .cut s a b=>yN m s/\O9 a b (sh s).length
 | .Ve s a b t=>yN m s/\Mv a b t (sh s).length
 | .Wm t p s a b=>yN m t/\(0<=p/\p<=(sh t).length)/\yN m s/\O9 a b (sh s).length
 | .win t p s=>yN m t/\(0<=p/\p<=(sh t).length)/\yN m s
 | .fix s=>yN m s
def LD.res(sh:Int->List Int)(rows:dJ):LD->List Int
 | .put s p _ row=>iT sh p (own rows s) (bS row)
 | .cut s a b=>bY sh a b (own rows s)
 | .Ve s a b t=>qK sh a b t (own rows s)
 | .Wm t p s a b=>iT sh p (own rows t) (((sh s).take b.toNat).drop a.toNat)
 | .win t p s=>iT sh p (own rows t) [-1-s]
 | .fix s=>sh s
theorem LD.in_{n m:Nat}{sh:Int->List Int}{dd:LD}(h:dd.Ok n m sh):yN m dd.sh:=by
 cases dd with
 | fix=>exact h
 | _=>exact h.1
theorem LD.Yy{n:Nat}{rows:dJ}{sh:Int->List Int}(g:Gd n rows sh){dd:LD}(h:dd.Ok n rows.length sh):∀ e∈dd.res sh rows,xW n rows.length e:=by
 have cl:=g.cl
 cases dd with
 | put s p r row =>
  refine AQ cl (g.own s) λe he=>.inl (RU (λq hq=>?_) he);have:=h.2.2.2 q hq;exact⟨this.1,this.2.1,this.2.2.1⟩
 | cut s a b =>
  intro e he;unfold LD.res bY at he;dsimp only at he;split at he
  ·exact g.own s e he
  ·exact Sd cl a b _ 0 (g.own s) e (.inl he)
 | Ve s a b t =>
  intro e he;unfold LD.res qK at he;dsimp only at he;split at he
  ·exact g.own s e he
  ·have kk:=Sd cl a b (own rows s) 0 (g.own s);rw[List.mem_append,List.mem_append]at he;rcases he with (z|z)|z
   ·exact JJ cl t _ 0 (λy hy=>kk y (.inl hy)) e (.inl z)
   ·exact kk e (.inr z)
   ·exact JJ cl t _ 0 (λy hy=>kk y (.inl hy)) e (.inr z)
 | Wm t p s a b =>
  refine AQ cl (g.own t) λe he=>.inl (g.in_ s h.2.2.1.1 h.2.2.1.2 e (List.mem_of_mem_take (List.mem_of_mem_drop he)))
 | win t p s =>
  refine AQ cl (g.own t) λe he=>.inr ?_;rw[List.mem_singleton.mp he];have:=h.2.2;unfold yN at this;lia
 | fix s=>exact λe he=>.inl (g.in_ s h.1 h.2 e he)
theorem LD.At.same{H H':Hp}{d:Addr}{dd:LD}(s:aM H H')(h:dd.At H d):dd.At H' d:=by
 cases dd with
 | put=>exact⟨s _ _ h.1,h.2.same s⟩
 | _=>exact s _ _ h
theorem Se(sh:Int->List Int){a b:Int}{N:Int->Prop}:∀ (es:List Int) (f:Int),(∀ e∈es,∀ x∈aY sh e,N x)->∀ x∈kE sh a b f es,x∈es\/N x
 | [],_,_=>λx hx=>by cases hx
 | e::r,f,h=>by
  intro x hx;rw[kE]at hx;rcases List.mem_append.mp hx with z|z
  ·unfold M5 at z;split at z
   ·rw[List.mem_singleton.mp z];exact .inl (by simp)
   ·split at z
    ·cases z
    ·rcases List.mem_append.mp z with y|y
     ·exact .inr (h e (by simp) x (List.mem_of_mem_take y))
     ·exact .inr (h e (by simp) x (List.mem_of_mem_drop y))
  ·rcases Se sh r _ (λe he=>h e (sH _ he)) x z with y|y
   ·exact .inl (sH _ y)
   ·exact .inr y
theorem DG(sh:Int->List Int):∀ (xs:List Int),(∀ x∈xs,0<=x)->aW sh xs=xs
 | [],_=>rfl
 | x::xs,h=>by rw[cz,wX sh (h x (by simp)),DG sh xs λy hy=>h y (sH _ hy)];rfl
theorem Nt(sh:Int->List Int){a b:Int}(ab:a<=b):∀ (es:List Int) (f:Int),(∀ e∈es,∀ x∈aY sh e,0<=x)->(aW sh (kE sh a b f es)).length<=(aW sh es).length
 | [],_,_=>by simp[kE]
 | e::r,f,h=>by
  rw[kE,om,cz,dM,dM];have ih:=Nt sh ab r (f+(aY sh e).length) (λe he=>h e (sH _ he))
  have one:(aW sh (M5 sh a b f e)).length<=(aY sh e).length:=by
   unfold M5;split
   ·rw[cz];simp[aW]
   ·split
    ·simp[aW]
    ·rename_i c1 c2;have h1:=h e (by simp);rw[om,DG sh _ λx hx=>h1 x (List.mem_of_mem_take hx),DG sh _ λx hx=>h1 x (List.mem_of_mem_drop hx),dM,jV,xq];lia
  lia
theorem Wn(sh:Int->List Int){a b:Int}(ab:a<b):∀ (es:List Int) (f:Int),f<=a->a<f+(aW sh es).length->tE sh a b f es≠[]
 | [],f,h,g=>by simp[aW]at g;lia
 | e::r,f,h,g=>by
  rw[cz,dM]at g;rw[tE];intro z;obtain⟨z1,z2⟩:=List.append_eq_nil_iff.mp z;by_cases c1:f+(aY sh e).length<=a
  ·exact Wn sh ab r (f+(aY sh e).length) c1 (by lia) z2
  ·unfold Pe at z1;rw[if_neg (λy=>y.elim c1 (by lia))]at z1;split at z1
   ·cases z1
   ·rename_i c2;have q:=congrArg List.length z1;rw[xq,jV,xr]at q;lia
theorem JK{sh sg:Int->List Int}(p:Int):∀ (es:List Int) (f:Int),(∀ e∈es,aY sh e=aY sg e)->aE sh p f es=aE sg p f es
 | [],_,_=>rfl
 | e::r,f,h=>by rw[aE,aE,h e (by simp),JK p r _ λx hx=>h x (sH _ hx)]
theorem JL{sh sg:Int->List Int}(p:Int):∀ (es:List Int) (f:Int),(∀ e∈es,aY sh e=aY sg e)->bE sh p f es=bE sg p f es
 | [],_,_=>rfl
 | e::r,f,h=>by rw[bE,bE,h e (by simp),JL p r _ λx hx=>h x (sH _ hx)]
theorem JM{sh sg:Int->List Int}:∀ (es:List Int),(∀ y∈gh es,(sg y).length<=(sh y).length)->(aW sg es).length<=(aW sh es).length
 | [],_=>by simp[aW]
 | e::r,h=>by
  rw[cz,cz,dM,dM]
  have ih:=JM (sh:=sh) (sg:=sg) r λy hy=>h y (by
   obtain⟨a,b⟩:=cK.mp hy
   exact cK.mpr ⟨a,sH _ b⟩)
  have one:(aY sg e).length<=(aY sh e).length:=by
   unfold aY;by_cases c:e<0
   ·rw[if_pos c,if_pos c];exact h _ (cK.mpr ⟨by lia,by rw[show -1-(-1-e)=e by lia];simp⟩)
   ·rw[if_neg c,if_neg c];exact ja _
  lia
structure aa9(rows:dJ)(sh:Int->List Int)(rk:Int->Nat)(s a b:Int)(es:List Int)(rs:dJ)(sg:Int->List Int):Prop where
 snd:jH rs
 nx:∀ x y,oR rs x y->oR rows x y
 Rn:rT rs sg
 bd:∀ x:Int,0<=x->x<rs.length->(sg x).length<=10000
 eq:∀ n,rk n<rk s->0<=n->n<rows.length->sg n=sh n
theorem Sf{rows:dJ}{sh:Int->List Int}{rk:Int->Nat}{s a b:Int}{es:List Int}(vm:jH rows)(hrb:∀ x,rk x<=40)(VL:∀ x y,oR rows x y->rk y<rk x)(AY:rT rows sh)(E8:∀ x:Int,0<=x->x<rows.length->(sh x).length<=10000)(h0:0<=s)(h1:s<rows.length)(he:rows[s.toNat]?=some es)(ab:a<=b):∃ sg,aa9 rows sh rk s a b es (rows.set s.toNat (bY sh a b es)) sg:=by
 have hnn:=uy vm ⟨rk,hrb,VL⟩ AY
 have ent:∀ e∈es,∀ x∈aY sh e,0<=x:=λe hm x hx=>by
  unfold aY at hx;by_cases c:e<0
  ·rw[if_pos c]at hx;have nx:oR rows s (-1-e):=⟨h0,es,he,cK.mpr ⟨by lia,by rw[show -1-(-1-e)=e by lia];exact hm⟩⟩;obtain⟨p,q⟩:=vm.Hj nx;exact hnn _ p q x hx
  ·rw[if_neg c]at hx;rw[List.mem_singleton.mp hx];lia
 have win:∀ y∈gh (bY sh a b es),y∈gh es:=λy hy=>by
  obtain⟨y0,hm⟩:=cK.mp hy;refine cK.mpr ⟨y0,?_⟩;unfold bY at hm;split at hm
  ·exact hm
  ·rcases Se sh es 0 ent _ hm with z|z
   ·exact z
   ·lia
 have nx:∀ x y,oR (rows.set s.toNat (bY sh a b es)) x y->oR rows x y:=by
  rintro x y ⟨x0,zN,hx,hy⟩;by_cases c:x.toNat=s.toNat
  ·rw[c,List.getElem?_set,if_pos rfl]at hx;split at hx
   ·cases hx;exact⟨x0,es,by rw[c];exact he,win y hy⟩
   ·cases hx
  ·rw[List.getElem?_set_ne (λz=>c z.symm)]at hx;exact⟨x0,zN,hx,hy⟩
 have snd:jH (rows.set s.toNat (bY sh a b es)):=λzN hm y hy=>by
  rw[List.length_set];rcases List.mem_or_eq_of_mem_set hm with z|z
  ·exact vm zN z y hy
  ·subst z;exact vm es (vf he) y (win y hy)
 obtain⟨sg,hsg⟩:=DB (rows:=rows.set s.toNat (bY sh a b es)) ⟨rk,hrb,λx y h=>VL x y (nx x y h)⟩
 have Vf:(rows.set s.toNat (bY sh a b es))[s.toNat]?=some (bY sh a b es):=by
  rw[List.getElem?_set,if_pos rfl,if_pos (by lia)]
 have key:∀ (k:Nat) (x:Int),rk x<k->0<=x->x<rows.length->(rk x<rk s->sg x=sh x)/\(sg x).length<=(sh x).length:=by
  intro k
  induction k with
  | zero=>intro x h;lia
  | succ k ih =>
   intro x hx x0 x1;by_cases c:x.toNat=s.toNat
   ·have xs:x=s:=by lia
    subst xs;refine⟨λz=>by lia,?_⟩;have e1:=hsg x _ x0 Vf
    have e2:aW sg (bY sh a b es)=aW sh (bY sh a b es):=wB λy hy=>by
     have n:=VL x y ⟨x0,es,he,win y hy⟩;obtain⟨p,q⟩:=vm.Hj ⟨x0,es,he,win y hy⟩;exact (ih y (by lia) p q).1 n
    rw[e1,e2,AY x es x0 he];unfold bY;split
    ·exact ja _
    ·exact Nt sh ab es 0 ent
   ·have hx1:rows[x.toNat]?=some rows[x.toNat]:=pP (by lia);have e1:=hsg x _ x0 (by rw[List.getElem?_set_ne (λz=>c z.symm)];exact hx1);have e2:=AY x _ x0 hx1
    have low:∀ y∈gh rows[x.toNat],rk y<rk x/\0<=y/\y<rows.length:=λy hy=>by
     have n:oR rows x y:=⟨x0,_,hx1,hy⟩;exact⟨VL x y n,vm.Hj n⟩
    refine⟨λz=>?_,?_⟩
    ·rw[e1,e2];exact wB λy hy=>(ih y (by have:=(low y hy).1;lia) (low y hy).2.1 (low y hy).2.2).1 (by have:=(low y hy).1;lia)
    ·rw[e1,e2];exact JM _ λy hy=>(ih y (by have:=(low y hy).1;lia) (low y hy).2.1 (low y hy).2.2).2
 refine⟨sg,snd,nx,hsg,λx x0 x1=>?_,λn h n0 n1=>(key (rk n+1) n (Nat.lt_succ_self _) n0 n1).1 h⟩;rw[List.length_set]at x1;have:=(key (rk x+1) x (Nat.lt_succ_self _) x0 x1).2;have:=E8 x x0 x1;lia
theorem Vg{rows:dJ}{sh sg:Int->List Int}{rk:Int->Nat}{s a b to:Int}{es:List Int}(vm:jH rows)(hrb:∀ x,rk x<=40)(VL:∀ x y,oR rows x y->rk y<rk x)(AY:rT rows sh)(h0:0<=s)(he:rows[s.toNat]?=some es)(a0:0<=a)(ab:a<=b)(bn:b<=(sh s).length)(R:aa9 rows sh rk s a b es (rows.set s.toNat (bY sh a b es)) sg)(hk:(rows.set s.toNat (bY sh a b es))[s.toNat]?=some (bY sh a b es)):iT sg to (bY sh a b es) (kW sh a b es)=qK sh a b to es:=by
 unfold qK;by_cases c:a=b
 ·have e1:kW sh a b es=[]:=by unfold kW;rw[if_pos c]
  have e2:bY sh a b es=es:=by unfold bY;rw[if_pos c]
  rw[if_pos c,e1,e2];rfl
 ·rw[if_neg c];have e1:kW sh a b es=tE sh a b 0 es:=by unfold kW;rw[if_neg c]
  have e2:bY sh a b es=kE sh a b 0 es:=by unfold bY;rw[if_neg c]
  have ne:tE sh a b 0 es≠[]:=Wn sh (by lia) es 0 a0 (by rw[← AY s es h0 he];lia)
  have ag:∀ e∈bY sh a b es,aY sg e=aY sh e:=λe hm=>by
   unfold aY;by_cases d:e<0
   ·rw[if_pos d,if_pos d];have n:oR (rows.set s.toNat (bY sh a b es)) s (-1-e):=⟨h0,_,hk,cK.mpr ⟨by lia,by rw[show -1-(-1-e)=e by lia];exact hm⟩⟩;have n':=R.nx _ _ n;obtain⟨p,q⟩:=vm.Hj n';exact R.eq _ (VL _ _ n') p q
   ·rw[if_neg d,if_neg d]
  unfold iT;rw[e1,if_neg ne,JK to _ 0 ag,JL to _ 0 ag,e2]
theorem OY{X:Cx}(hc:X.calm=true):pS X (.builtin "max") (λxs H Q=>∃ (p:Addr) (ns:List Int),xs=[.ref p]/\bQ X.K H p (ns.map V.int)/\0<ns.length/\∀ M,M∈ns->(∀ a∈ns,a<=M)->Q (.int M) H):=by
 intro ak s σ H xs us Q I r h;obtain⟨p,ns,rfl,hq,ne,q⟩:=h;obtain⟨u,rfl,rx⟩:=r.one;cases (show u=Value.ref p from rx);obtain⟨aQ,rv,pl,hz⟩:=I.list hq;have hi:PyProof.Rows.IntsAre aQ ns:=intsAre_of rv;obtain⟨xs,e⟩:=hi.allInts.items;have hl:=pl.isList
 have O5:ns=xs.toList.map (·.1):=by
  rw[← hi.numsOf,← PySem.nums_intItems,← e]
 have hsz:0<xs.size:=by
  have h3:=ne;rw[O5,cR,Array.length_toList]at h3;exact h3
 rw[e]at hl;refine PySem.max_intList (I.ok.hd hc) hl hsz λv h' tk hv hk=>?_;obtain⟨t,rfl⟩:=PySem.intItems_at hv;obtain⟨h1,h2⟩:=PySem.argBest_gt (PySem.numAt xs) (xs.size-1);refine⟨.int _,H,I.kept hk,⟨t,rfl⟩,q _ ?_ λa ha=>?_⟩
 ·rw[O5,PySem.numAt_eq];exact PySem.getD_mem (by rw[cR,Array.length_toList];lia)
 ·rw[O5]at ha;obtain⟨j,hj,rfl⟩:=PySem.mem_getD ha;rw[cR,Array.length_toList]at hj;rw[← PySem.numAt_eq];exact h2 j (by lia)
inductive Sg(vs:List V)(H:Hp)(Q:VK)(E:XK):Prop
 | mk (av:Addr->Prop) (r:Addr) (rows:dJ) (s:Int) (_:vs=[.ref r,.int s]) (_:kT av H r rows) (_:rows.length<=40) (_:∀ es∈rows,es.length<=100000) (_:jH rows) (_:0<=s) (_:s<rows.length) (_:¬ Reach (oR rows) s s->∀ x,¬ Reach (oR rows) x x) (_:∀ (b:Bool) (H':Hp),aM H H'->(b=true->Gb rows/\∃ f,Weighs rows f/\∀ x:Int,0<=x->x<rows.length->f x<=200)->Q (.bl b) H')
theorem JN:aH ["_law_rows","_law_sheet"] ["_law_rows","_law_sheet"] (aA rK):=iW
theorem JO{f fr:Addr}(F:iH K "_law_fits" "_law_fits" rK f fd)(T:nI mg)(pK:aC K mg "_law_reached" pF nK fr gr)(eO:aC K mg "_law_weighed" mE nK fw gw):aF P w K mg zt bI 43 f fd nK Sg:=by
 have Es:aF P w K mg zt bI 1 _ _ nK FF:=DE pK.F T;have t7:aF P w K mg zt bI 42 _ _ nK (uD 41):=wC T eO 41;refine jg F JN λdH A zn s0 H vs Q E hr h=>?_;obtain⟨av,r,rows,s,rfl,R,ln,he,sd,s0,s1,rg,k⟩:=h;refine⟨_,(aj (bU (bq NT (pv 1) (aG pK Es hr (aa (pv 0) (aa (pv 1) ah))) rfl) (au (aN vh)) br) (au (aN (sN jz (cL (OY rfl) rfl T.Fd PyProof.Rows.boot_max (aa (jX (N:=["_law_other","_law_rows"]) (rR (sc:=aA rK) (NX:=["_law_rows","_law_sheet"]) (jx:=[none,some 0]) rfl rfl rfl (by decide +kernel) (by decide +kernel) rfl (by decide +kernel) rfl (by decide +kernel)) rfl (lK rfl T.mR (aa (jI T.jh (pv 0)) ah)) (λ_ _ _ _ _ _=>(cB (i:=0) (show List.Nodup (["_law_other","_law_rows"]:List Str) by decide +kernel))) (λ_ _ _ _ _ _=>ko) (λ_ _ _ _ _ _=>(aG eO t7 hr (aa (pv 1) (aa (pv 0) ah))))) ah)) ay (bC _))))),?_⟩;refine⟨_,rfl,_,rfl,_,rfl,av,r,rows,s,rfl,R,by lia,he,sd,s0,s1,λL o H1 ho sm iff=>?_⟩;refine⟨o,_,rfl,.inl (bQ.of ho),rfl,E5 L,_,rfl,?_⟩;rw[ML];by_cases hm:s∈L
 ·rw[decide_eq_true hm];exact mD (k false H1 sm λz=>nomatch z)
 rw[decide_eq_false hm];refine jK ?_;have R1:=Yx sd ln (rg λz=>hm ((iff s).mpr z));obtain⟨f,hf⟩:=OC R1;obtain⟨rk,rb,dn⟩:=id R1;have Rs:=R.same sm;obtain⟨vs,hr1,al⟩:=id Rs;have lv:=al.len;have gN:∀ i:Nat,((List.range i).map λj:Nat=>f (j:Int)).length=i:=λi=>by rw[cR,List.length_range]
 refine⟨_,rfl,r,_,rfl,.inl (bQ.of hr1),_,rfl,by lia,by lia,λacc dh=>vV (lo:=0) (k:=((vs.length:Nat):Int).toNat) (λi σ H2=>∃ u:Option V,σ=[u,some (.ref r)]/\H2 acc=some (.lst (((List.range i).map λj:Nat=>f (j:Int)).map V.int))/\aM H1 H2) ⟨none,rfl,af,ao dh _⟩ ?_ ?_⟩
 ·rintro i σ H2 hi ⟨u,rfl,ha,s2⟩;have il:i<rows.length:=by lia
  refine⟨_,rfl,_,rfl,av,r,rows,0+(i:Int),f,rk,rfl,Rs.same s2,by lia,sd,by lia,by lia,hf,dn,by have:=rb (0+(i:Int));lia,_,ha,(by rw[cR,gN];exact aU (by lia)),_,rfl,?_,bX dh s2 (aL acc _ _)⟩;rw[af,List.range_succ,j5,j5,Int.zero_add];rfl
 ·rintro σ H2 ⟨u,rfl,ha,s2⟩;refine⟨acc,_,rfl,bQ.of ha,by rw[gN];lia,λM _ hM=>⟨_,_,rfl,rfl,?_⟩⟩;refine k _ H2 (sm.trans s2) λz=>⟨R1,f,hf,λx x0 x1=>?_⟩;have y:=hM (f x) (List.mem_map.mpr ⟨x.toNat,List.mem_range.mpr (by lia),by rw[show ((x.toNat:Nat):Int)=x by lia]⟩);have:=of_decide_eq_true z;lia
theorem cO{a b:Str}(h:a≠b){A B:Prop}(z:B):if decide (V.str a=V.str b)=true then A else B:=by
 rw[if_neg λy=>h (V.str.inj (of_decide_eq_true y))];exact z
theorem mS{a:Str}{A B:Prop}(z:A):if decide (V.str a=V.str a)=true then A else B:=by
 rw[if_pos (decide_eq_true rfl)];exact z
theorem Ph.at_{W:Addr->Prop}{ik:Addr}{H:Hp}{a:Addr}{rows:dJ}(h:Ph W ik ps H a rows):kT (λ_=>False) H a rows:=by
 obtain⟨_,_,_,vs,hv,al⟩:=h;exact⟨vs,hv,al.mono λv es ⟨b,e,_,_,_,hb⟩=>⟨b,e,λz=>z,hb⟩⟩
theorem oE{rows:dJ}{s:Int}(h:yN rows.length s):rows[s.toNat]?=some (own rows s):=by
 have:s.toNat<rows.length:=by have:=h.1;have:=h.2;lia
 unfold own;rw[pP this];rfl
inductive Nu(vs:List V)(H:Hp)(Q:VK)(E:XK):Prop
 | mk (W:Addr->Prop) (w d:Addr) (aP:mj) (pq:nG) (rows:dJ) (n:Nat) (sh:Int->List Int) (dd:LD) (_:vs=[.ref w,.ref d]) (_:Wo W H w aP pq rows) (_:dd.At H d) (_:Gd n rows sh) (_:dd.Ok n rows.length sh) (_:n<=10000) (_:∀ (o:Addr) (H':Hp),H' o=some (.lst ((dd.res sh rows).map V.int))->(dd.res sh rows).length<=100000->aM H H'->H o=none->Q (.ref o) H')
theorem oF:aH ["_law_world_here","_law_deed_here","_law_rows","_law_name","_law_kept","_law_taken"] ["_law_world_here","_law_deed_here"] (aA sW):=iW
theorem G4{f f3:Addr}{g1 g2 g3 g4 g5:FuncData}(F:iH K "_law_after" "_law_after" sW f fd)(T:nI mg)(bM:aC K mg "_law_show" jr nK f1 g1)(gZ:aC K mg "_law_pieces" lQ NB f2 g2)(pA:aC K mg "_law_put" wJ Wy f3 g3)(uE:aC K mg "_law_cut" wK Wz f4 g4)(lH:aC K mg "_law_swap" rJ Pr f5 g5)(tN:aC K mg "_law_spell" sV ["_law_row"] f6 g6):aF P w K mg zt bI 45 f fd WB Nu:=by
 have iE:aF P w K mg zt bI 42 _ _ nK (uY 41):=nC T bM 41;have xm:aF P w K mg zt bI 44 _ _ Wy (LQ 41):=LR pA.F T bM gZ;have FH:aF P w K mg zt bI 44 _ _ Wz (RY 41):=LS uE.F T bM gZ;have yL:aF P w K mg zt bI 1 _ _ Pr LP:=Bm lH.F T;have JP:aF P w K mg zt bI 1 _ _ ["_law_row"] (ME 1000000):=GY tN.F T;refine jg F oF λdH A zn s0 H vs Q E hr h=>?_;obtain⟨W,w,d,aP,pq,rows,n,sh,dd,rfl,wo,hd,g,ok,n10,k⟩:=h;have hu:=kj hr;refine⟨_,(aj (bh (i:=2) oF.nd (kq hu (pv 0) bK)) (aj (bh (i:=3) oF.nd (aX bw (pv 1) ay)) (aj (bU (bq ig (pv 3) bK (bC _)) (au (aN (aG pA xm hr (aa (pv 2) (aa (aX bw (pv 1) ay) (aa (aX bw (pv 1) ay) (aa (aG tN JP hr (aa (aX bw (pv 1) ay) ah)) ah))))))) br) (aj (bU (bq ig (pv 3) bK (bC _)) (au (aN (aX bw (aG uE FH hr (aa (pv 2) (aa (aX bw (pv 1) ay) (aa (aX bw (pv 1) ay) (aa (aX bw (pv 1) ay) ah))))) ay))) br) (aj (bU (bq ig (pv 3) bK (bC _)) (aj (uI (aG uE FH hr (aa (pv 2) (aa (aX bw (pv 1) ay) (aa (aX bw (pv 1) ay) (aa (aX bw (pv 1) ay) ah))))) (rA (n:=2) rfl (bZ (cB (i:=4) oF.nd) (bZ (cB (i:=5) oF.nd) jO)))) (au (aN (aG pA xm hr (aa (aG lH yL hr (aa (pv 2) (aa (aX bw (pv 1) ay) (aa (pv 4) ah)))) (aa (aX bw (pv 1) ay) (aa (aX bw (pv 1) ay) (aa (pv 5) ah)))))))) br) (aj (bU (bq ig (pv 3) bK (bC _)) (au (aN (aG pA xm hr (aa (pv 2) (aa (aX bw (pv 1) ay) (aa (aX bw (pv 1) ay) (aa (mC qF (aG bM iE hr (aa (pv 2) (aa (aX bw (pv 1) ay) ah))) (mL (aX bw (pv 1) ay)) (mL (aX bw (pv 1) ay))) ah))))))) br) (aj (bU (bq ig (pv 3) bK (bC _)) (au (aN (aG pA xm hr (aa (pv 2) (aa (aX bw (pv 1) ay) (aa (aX bw (pv 1) ay) (aa (bO (aa (bz cY (oO kg ay) (aX bw (pv 1) ay)) ah)) ah))))))) br) (aj (bU (bq ig (pv 3) bK (bC _)) (au (aN (aG bM iE hr (aa (pv 2) (aa (aX bw (pv 1) ay) ah))))) br) (au (aN (aX bW (aX bW (kq hu (pv 0) bK) (aX bw (pv 1) ay)) (aX bw (pv 1) ay)))))))))))),?_⟩;obtain⟨ik,rE,ps,vl,wu⟩:=id wo;have zr:=ng.k (k:=kR) wu.hw;rw[show cW (yO ik rE ps vl) kR=some (.ref rE) by kernel_rfl]at zr;have R:=wu.hr.at_;obtain⟨rk,rb,dn⟩:=g.sn.rk;have l40:=g.ln;have lr:rows.length<=1000:=by lia
 have rb':∀ s,rk s<=41:=λs=>by have:=rb s;lia
 have e25:∀ es∈rows,es.length<=25000:=λes he=>by have:=g.es es he;lia
 refine⟨_,rfl,w,_,rfl,zr,?_⟩
 have qo:∀ {s p:Int} {new:List Int} {q o:Addr} {H1:Hp} {Q:VK} {E:XK},yN rows.length s->kT (λ_=>False) H1 q rows->H1 o=some (.lst (new.map V.int))->new.length<=25000->aM H H1->(∀ (o:Addr) (H':Hp),H' o=some (.lst ((iT sh p (own rows s) new).map V.int))->(iT sh p (own rows s) new).length<=100000->aM H H'->H o=none->Q (.ref o) H')->LQ 41 [.ref q,.int s,.int p,.ref o] H1 Q E:=by
  intro s p new q o H1 Q E is R1 ho ln s1 k1;refine⟨_,q,o,rows,s,p,new,sh,rk,rfl,R1,lr,e25,g.sn.sd,g.sn.ss,g.sn.ln,dn,is.1,is.2,rb' s,ho,ln,λes o2 H2 vt h2 l2 s2 f2=>?_⟩;rw[oE is]at vt;cases vt;exact k1 o2 H2 h2 l2 (s1.trans s2) (aZ s1 f2)
 cases dd with
 | put s p r row =>
  obtain⟨hd,Si⟩:=hd;obtain⟨is,ip,l2,hq⟩:=ok;refine⟨_,rfl,d,_,_,_,rfl,rfl,eL.of hd,yu,?_⟩;refine⟨_,rfl,rfl,_,rfl,mS ?_⟩;have bd:=JE (k:=40) (row:=row) λq h=>by have:=hq q h;lia
  refine⟨_,rfl,_,rfl,d,_,_,_,rfl,rfl,eL.of hd,zm,_,rfl,d,_,_,_,rfl,rfl,eL.of hd,D9,_,rfl,d,_,_,_,rfl,rfl,eL.of hd,Ea,r,row,rfl,Si,λq h=>by have:=hq q h;lia,by lia,by lia,λo1 H1 h1 s1 f1=>?_⟩;exact qo is (R.same s1) h1 (by lia) s1 k
 | cut s a b =>
  obtain⟨is,i3⟩:=ok;refine⟨_,rfl,d,_,_,_,rfl,rfl,eL.of hd,yu,?_⟩;refine⟨_,rfl,rfl,_,rfl,cO (by decide +kernel) ⟨_,rfl,rfl,_,rfl,mS ?_⟩⟩;refine⟨_,rfl,_,rfl,d,_,_,_,rfl,rfl,eL.of hd,zm,_,rfl,d,_,_,_,rfl,rfl,eL.of hd,D9,_,rfl,d,_,_,_,rfl,rfl,eL.of hd,Ea,_,rE,rows,s,a,b,sh,rk,rfl,R,lr,(λes he=>by have:=g.es es he;lia),g.sn.sd,g.sn.ss,g.sn.ln,dn,is.1,is.2,rb' s,i3.2.1,λes tu L M H1 vt ht hL hM s1 fL fM nLM=>?_⟩;rw[oE is]at vt;cases vt;refine⟨tu,_,_,_,rfl,rfl,eL.of ht,yu,k L H1 hL ?_ s1 fL⟩;have cl:=yK sh a b (own rows s);have ls:=g.sl s is.1 is.2;rw[g.sn.ss s _ is.1 (oE is)]at ls;have:=g.es _ (vf (oE is));show (bY sh a b (own rows s)).length<=_;lia
 | Ve s a b t =>
  obtain⟨is,mv⟩:=ok;have i3:=mv.1;have lo:=g.es _ (vf (oE is));have e:=g.sn.ss s _ is.1 (oE is);have ls:=g.sl s is.1 is.2;rw[e]at ls;have cl:=yK sh a b (own rows s);have tl:=DF sh a b (own rows s);refine⟨_,rfl,d,_,_,_,rfl,rfl,eL.of hd,yu,?_⟩;refine⟨_,rfl,rfl,_,rfl,cO (by decide +kernel) ⟨_,rfl,rfl,_,rfl,cO (by decide +kernel) ⟨_,rfl,rfl,_,rfl,mS ?_⟩⟩⟩;refine⟨_,rfl,_,rfl,d,_,_,_,rfl,rfl,eL.of hd,zm,_,rfl,d,_,_,_,rfl,rfl,eL.of hd,D9,_,rfl,d,_,_,_,rfl,rfl,eL.of hd,Ea,_,rE,rows,s,a,b,sh,rk,rfl,R,lr,(λes he=>by have:=g.es es he;lia),g.sn.sd,g.sn.ss,g.sn.ln,dn,is.1,is.2,rb' s,i3.2.1,λes tu L M H1 vt ht hL hM s1 fL fM nLM=>?_⟩;rw[oE is]at vt;cases vt;obtain⟨vs,hr1,al⟩:=R.same s1;have lv:=al.len;have is1:=is.1;have is2:=is.2;have Oe:=s1 _ _ hd;refine⟨tu,_,rfl,eL.of ht,rfl,_,_,rfl,_,_,rfl,rfl,?_⟩;refine⟨_,rfl,_,rfl,d,_,_,_,rfl,rfl,eL.of Oe,zm,_,rfl,rE,L,s.toNat,vs,(by rw[show ((s.toNat:Nat):Int)=s by lia];rfl),hr1,by lia,by lia,λq H2 hq s2 fq=>?_⟩;have hd2:=s2 _ _ Oe;obtain⟨sg,RR⟩:=Sf (a:=a) (b:=b) g.sn.sd rb dn g.sn.ss g.sn.ln is.1 is.2 (oE is) i3.2.1
  have Vf:(rows.set s.toNat (bY sh a b (own rows s)))[s.toNat]?=some (bY sh a b (own rows s)):=by
   rw[List.getElem?_set,if_pos rfl,if_pos (by lia)]
  have R2:kT (λ_=>False) H2 q (rows.set s.toNat (bY sh a b (own rows s))):=⟨_,hq,cE.set _ (al.mono λv es z=>iR.same s2 z) ⟨L,rfl,λz=>z,s2 _ _ hL⟩⟩
  refine⟨_,rfl,d,_,_,_,rfl,rfl,eL.of hd2,zm,_,rfl,d,_,_,_,rfl,rfl,eL.of hd2,Uz,_,rfl,_,q,M,_,s,t,kW sh a b (own rows s),sg,rk,rfl,R2,by rw[List.length_set];lia,(λzN hm=>by
   rcases List.mem_or_eq_of_mem_set hm with z|z
   ·exact e25 zN z
   ·rw[z];lia),RR.snd,RR.Rn,RR.bd,(λx y h=>dn x y (RR.nx x y h)),is.1,by rw[List.length_set];exact is.2,rb' s,s2 _ _ hM,by lia,λzN o H3 MF h3 l3 s3 f3=>?_⟩
  rw[Vf]at MF;cases MF;rw[Vg g.sn.sd rb dn g.sn.ss is.1 (oE is) i3.1 i3.2.1 i3.2.2 RR Vf]at h3 l3;exact k o H3 h3 l3 (s1.trans (s2.trans s3)) (aZ (s1.trans s2) f3)
 | Wm t p s a b =>
  obtain⟨it,ip,is,i3⟩:=ok;refine⟨_,rfl,d,_,_,_,rfl,rfl,eL.of hd,yu,?_⟩;refine⟨_,rfl,rfl,_,rfl,cO (by decide +kernel) ⟨_,rfl,rfl,_,rfl,cO (by decide +kernel) ⟨_,rfl,rfl,_,rfl,cO (by decide +kernel) ⟨_,rfl,rfl,_,rfl,mS ?_⟩⟩⟩⟩;have ls:=g.sl s is.1 is.2;refine⟨_,rfl,_,rfl,d,_,_,_,rfl,rfl,eL.of hd,zm,_,rfl,d,_,_,_,rfl,rfl,eL.of hd,D9,_,rfl,_,rfl,d,_,_,_,rfl,rfl,eL.of hd,Ea,_,rE,rows,s,sh,rk,rfl,R,lr,g.sn.sd,is.1,is.2,g.sn.ss,g.sn.ln,dn,by have:=rb s;lia,λo1 H1 h1 s1 f1=>?_⟩;have Oe:=s1 _ _ hd;refine⟨_,rfl,d,_,_,_,rfl,rfl,eL.of Oe,Uz,_,rfl,_,rfl,d,_,_,_,rfl,rfl,eL.of Oe,aag,_,rfl,o1,_,rfl,bQ.of h1,λq hq=>?_⟩;have s2:=ao hq (.lst (pU ((sh s).map V.int) (some a) (some b)));have h2:(aO H1 q (.lst (pU ((sh s).map V.int) (some a) (some b)))) q=some (.lst ((((sh s).take b.toNat).drop a.toNat).map V.int)):=by rw[af,Jl _ i3.1 (by have:=i3.1;have:=i3.2.1;lia),List.map_drop,List.map_take]
  generalize aO H1 q (.lst (pU ((sh s).map V.int) (some a) (some b)))=H2 at s2 h2;exact qo it (R.same (s1.trans s2)) h2 (by rw[xq,jV];lia) (s1.trans s2) k
 | win t p s =>
  obtain⟨it,ip,is⟩:=ok;refine⟨_,rfl,d,_,_,_,rfl,rfl,eL.of hd,yu,?_⟩;refine⟨_,rfl,rfl,_,rfl,cO (by decide +kernel) ⟨_,rfl,rfl,_,rfl,cO (by decide +kernel) ⟨_,rfl,rfl,_,rfl,cO (by decide +kernel) ⟨_,rfl,rfl,_,rfl,cO (by decide +kernel) ⟨_,rfl,rfl,_,rfl,mS ?_⟩⟩⟩⟩⟩;refine⟨_,rfl,_,rfl,d,_,_,_,rfl,rfl,eL.of hd,zm,_,rfl,d,_,_,_,rfl,rfl,eL.of hd,D9,_,rfl,_,rfl,d,_,_,_,rfl,rfl,eL.of hd,Ea,_,_,rfl,rfl,qv,λq hq=>?_⟩;exact qo it (R.same (ao hq _)) af (by show 1<=25000;decide) (ao hq _) k
 | fix s =>
  refine⟨_,rfl,d,_,_,_,rfl,rfl,eL.of hd,yu,?_⟩;refine⟨_,rfl,rfl,_,rfl,cO (by decide +kernel) ⟨_,rfl,rfl,_,rfl,cO (by decide +kernel) ⟨_,rfl,rfl,_,rfl,cO (by decide +kernel) ⟨_,rfl,rfl,_,rfl,cO (by decide +kernel) ⟨_,rfl,rfl,_,rfl,cO (by decide +kernel) ⟨_,rfl,rfl,_,rfl,mS ?_⟩⟩⟩⟩⟩⟩;exact⟨_,rfl,_,rfl,d,_,_,_,rfl,rfl,eL.of hd,zm,_,rE,rows,s,sh,rk,rfl,R,lr,g.sn.sd,ok.1,ok.2,g.sn.ss,g.sn.ln,dn,by have:=rb s;lia,λo1 H1 h1 s1 f1=>k o1 H1 h1 (by have:=g.sl s ok.1 ok.2;show (sh s).length<=_;lia) s1 f1⟩
theorem Sj{n:Nat}{row:Row}(h:∀ z∈row,0<=z.1/\z.1<z.2/\z.2<=(n:Nat)):yH n row=true:=List.all_eq_true.mpr λq hq=>by
 have:=h q hq;unfold SR;simp only[Bool.and_eq_true,decide_eq_true_eq];lia
def Vh:Sp:=λ_ _ _ _=>False
theorem Sk{k:Nat}{f:Addr}{ps:List Str}:aF P w K mg zt bI k f fd ps Vh:=⟨λvs H Q E h=>h.elim,λA zn s H args us vs Q E _ _ _ _ h=>h.elim⟩
theorem aba{i:Int}(h0:0<=i)(h1:i<=20000):wO i:=by
 have a:(20000:Int)<10^60:=by decide
 exact⟨by lia,by lia⟩
inductive Sm(C CS CW CB:Addr)(vs:List V)(H:Hp)(Q:VK)(E:XK):Prop
 | mk (U:Addr->Prop) (x d:Addr) (pe:nG) (aB:nJ) (aP:mj) (nW:Nat) (cj:Row) (rows:dJ) (sh:Int->List Int) (dd:LD) (_:vs=[.ref x,.ref d]) (_:xS C CS CW CB U H x pe aB aP nW cj) (_:pe.getLast?=some rows) (_:pe.length<=900) (_:aB.length<=900) (_:aP.length<=10000) (_:dd.At H d) (_:Gd aP.length rows sh) (_:dd.Ok aP.length rows.length sh) (_:∃ f,tG (mJ rows dd.sh.toNat (dd.res sh rows)) f) (_:∀ (U':Addr->Prop) (H':Hp) (gy:nJ),gy.length=aB.length+1->xS C CS CW CB U' H' x (pe++[mJ rows dd.sh.toNat (dd.res sh rows)]) gy aP nW cj->Nh U U' H H'->Q .iZ H')
theorem Bo:aH ["_law_house","_law_deed_here","_law_name"] ["_law_house","_law_deed_here"] (aA uM):=iW
theorem JQ{f fS f3 h1 h2 h3 h4 h5 i1:Addr}{g1 g2 g3 g4 g5 k1 k2 k3 k4 k5 k6 k8 k9:FuncData}(F:iH K "_law_done" "_law_done" uM f fd)(X:xB K mg C CS CW CB)(A1:Ho K mg CS)(A2:LI K mg)(A4:Yp K mg fS fZ)(A5:V0 K mg CW CB)(A6:Wa K mg)(aT:bN K C "enter" "Library.enter" cC Ka f1 g1)(aR:bN K C "change" "Library.change" cU J3 f2 g2)(dQ:bN K C "shown" "Library.shown" jF Hq f3 g3)(jU:bN K C "ink" "Library.ink" lP ki f4 g4)(fX:bN K C "check_held" "Library.check_held" iF Wr f5 g5)(ic:bN K C "pour" "Library.pour" j7 Tc f6 g6)(eY:bN K C "fresh" "Library.fresh" jE ki f7 g7)(qR:bN K C "put" "Library.put" qH Ws f8 g8)(qS:bN K C "cut" "Library.cut" qI Wu f9 g9)(pL:bN K C "move" "Library.move" pD Wv h1 k1)(oG:bN K C "quote" "Library.quote" nZ Ww h2 k2)(mT:bN K C "window" "Library.window" mQ Wx h3 k3)(qT:bN K C "fix" "Library.fix" qJ Hq h4 k4)(t9:bN K C "back" "Library.back" xH ["self","sheet","moment"] h5 k5)(o7:aC K mg "cut_items" rH Td h6 k6)(ku:aC K mg "parted" sR Hs h7 k7)(l6:aC K mg "moved_items" nP Te h8 k8)(l5:aC K mg "fixed_items" nQ vz h9 k9)(ny:aC K mg "shown" yi vz fS j1)(FD:aC K mg "part" HR pO i1 j2):aF P w K mg zt bI 7 f fd WC (Sm C CS CW CB):=by
 have ua:aF P w K mg zt bI 4 f6 g6 Tc Vh:=Sk;have sC:aF P w K mg zt bI 4 f7 g7 ki Vh:=Sk;have Et:aF P w K mg zt bI 4 h5 k5 ["self","sheet","moment"] Vh:=Sk;have G5:aF P w K mg zt bI 6 _ _ Ws (Nj C CS CW CB):=Dt qR.F X A1 A2 A4 A5 A6 aT aR dQ jU fX;have G6:aF P w K mg zt bI 6 _ _ Wu (Nk C CS CW CB):=Dy qS.F X A1 A2 A6 aT aR o7 ku;have Eu:aF P w K mg zt bI 6 _ _ Wv (RQ C CS CW CB):=BI pL.F X A1 A2 A6 aT aR l6 ku;have DH:aF P w K mg zt bI 6 _ _ Ww (FA C CS CW CB):=AK oG.F X A1 A2 A4 A6 aT aR dQ FD;have BJ:aF P w K mg zt bI 6 _ _ Wx (Jw C CS CW CB):=zJ mT.F X A1 A2 A6 aT aR;have G7:aF P w K mg zt bI 6 _ _ Hq (Wf C CS CW CB):=Dz qT.F X A1 A2 A6 aT aR l5 ny;obtain⟨⟨⟨T,_⟩,⟨fi,aJ⟩,_⟩,_⟩:=X;refine jg F Bo λdH A zn s0 H vs Q E hr h=>?_;obtain⟨U,x,d,pe,aB,aP,nW,cj,rows,sh,dd,rfl,LB,hl,l2,l3,l4,hd,g,ok,B,k⟩:=h;refine⟨_,(aj (bh (i:=2) Bo.nd (aX bw (pv 1) ay)) (aj (bU (bq ig (pv 2) bK (bC _)) (au (aN (iy (pv 0) aJ ic ua hr ck (aa (aX bw (pv 1) ay) (aa (aX bw (pv 1) ay) ah))))) br) (aj (bU (bq ig (pv 2) bK (bC _)) (au (aN (iD (pv 0) aJ eY sC hr ck))) br) (aj (bU (bq ig (pv 2) bK (bC _)) (au (aN (iy (pv 0) aJ qR G5 hr ck (aa (aX bw (pv 1) ay) (aa (aX bw (pv 1) ay) (aa (gJ jP rfl T.nh xX (aa (aX bw (pv 1) ay) ah)) ah)))))) br) (aj (bU (bq ig (pv 2) bK (bC _)) (au (aN (iy (pv 0) aJ qS G6 hr ck (aa (aX bw (pv 1) ay) (aa (aX bw (pv 1) ay) (aa (aX bw (pv 1) ay) ah)))))) br) (aj (bU (bq ig (pv 2) bK (bC _)) (au (aN (iy (pv 0) aJ pL Eu hr ck (aa (aX bw (pv 1) ay) (aa (aX bw (pv 1) ay) (aa (aX bw (pv 1) ay) (aa (aX bw (pv 1) ay) ah))))))) br) (aj (bU (bq ig (pv 2) bK (bC _)) (au (aN (iy (pv 0) aJ oG DH hr ck (aa (aX bw (pv 1) ay) (aa (aX bw (pv 1) ay) (aa (aX bw (pv 1) ay) (aa (aX bw (pv 1) ay) (aa (aX bw (pv 1) ay) ah)))))))) br) (aj (bU (bq ig (pv 2) bK (bC _)) (au (aN (iy (pv 0) aJ mT BJ hr ck (aa (aX bw (pv 1) ay) (aa (aX bw (pv 1) ay) (aa (aX bw (pv 1) ay) ah)))))) br) (aj (bU (bq ig (pv 2) bK (bC _)) (au (aN (iy (pv 0) aJ qT G7 hr ck (aa (aX bw (pv 1) ay) ah)))) br) (au (aN (iy (pv 0) aJ t9 Et hr ck (aa (aX bw (pv 1) ay) (aa (aX bw (pv 1) ay) ah)))))))))))))),?_⟩;have l40:=g.ln;have l1:rows.length<=50:=by lia
 have sn:=g.sn;have one:∀ {l:List Nat},(aB++[l]).length=aB.length+1:=λ{l}=>by rw[dM];rfl
 have qo:∀ {s:Int},yN rows.length s->wO s:=λz=>aba z.1 (by have:=z.2;lia);have Yz:∀ {s p:Int},yN rows.length s->0<=p->p<=(sh s).length->wO p:=λz p0 p1=>aba p0 (by have:=g.sl _ z.1 z.2;lia);obtain⟨S',Yr,d',YU,sh',bl',kn',du',bk',dS',J4,J5,dw',sg',ow',pw',db',tb',LK,LU⟩:=id LB;have hx:=LU.L.hx
 cases dd with
 | put s p r row =>
  obtain⟨hd,Si⟩:=hd;obtain⟨is,ip,r2,hq⟩:=ok;have hh:=Sj (n:=aP.length) (row:=row) λz h=>by have:=hq z h;exact⟨this.1,this.2.1,this.2.2.1⟩
  obtain⟨as,ha,pa⟩:=id Si;refine⟨_,rfl,d,_,_,_,rfl,rfl,eL.of hd,yu,?_⟩;refine⟨_,rfl,rfl,_,rfl,cO (by decide +kernel) ⟨_,rfl,rfl,_,rfl,cO (by decide +kernel) ⟨_,rfl,rfl,_,rfl,mS ?_⟩⟩⟩;refine⟨_,rfl,x,d',_,rfl,hx,rfl,_,rfl,d,_,_,_,rfl,rfl,eL.of hd,zm,_,rfl,d,_,_,_,rfl,rfl,eL.of hd,D9,_,rfl,d,_,_,_,rfl,rfl,eL.of hd,Ea,r,_,rfl,.inl (bQ.of ha),λq Xd=>?_⟩;have s1:=ao Xd (.lst (as.map V.ref));have UM:cM (aO H q (.lst (as.map V.ref))) q row:=⟨as,af,pa.same s1⟩;generalize aO H q (.lst (as.map V.ref))=H1 at s1 UM;refine⟨U,x,q,pe,aB,aP,nW,cj,row,s,p,rows,rfl,LB.same s1,UM,⟨by lia,λz h=>by have:=hq z h;exact⟨⟨by lia,by lia⟩,⟨by lia,by lia⟩⟩⟩,by lia,hl,l1,l2,l3,qo is,Yz is ip.1 ip.2,is,hh,⟨sh,sn,ip,λes vt=>?_⟩⟩;rw[oE is]at vt;cases vt
  have ee:dP (cX (cJ row))=bS row:=by
   rw[ux,sY _ λq h=>by have:=hq q h;lia]
  rw[ee];exact⟨B,λU' H' L' fr=>k U' H' _ one L' (fr.pre s1)⟩
 | cut s a b =>
  obtain⟨is,i3⟩:=ok;refine⟨_,rfl,d,_,_,_,rfl,rfl,eL.of hd,yu,?_⟩;refine⟨_,rfl,rfl,_,rfl,cO (by decide +kernel) ⟨_,rfl,rfl,_,rfl,cO (by decide +kernel) ⟨_,rfl,rfl,_,rfl,cO (by decide +kernel) ⟨_,rfl,rfl,_,rfl,mS ?_⟩⟩⟩⟩;refine⟨_,rfl,x,d',_,rfl,hx,rfl,_,rfl,d,_,_,_,rfl,rfl,eL.of hd,zm,_,rfl,d,_,_,_,rfl,rfl,eL.of hd,D9,_,rfl,d,_,_,_,rfl,rfl,eL.of hd,Ea,U,x,pe,aB,aP,nW,cj,s,a,b,rows,rfl,LB,hl,l1,l2,l3,qo is,Yz is i3.1 (by have:=i3.2.1;have:=i3.2.2;lia),Yz is (by have:=i3.2.1;have:=i3.1;lia) i3.2.2,is,⟨sh,sn,i3,λes vt=>?_⟩⟩;rw[oE is]at vt;cases vt;exact⟨B,λU' H' L' fr=>k U' H' _ one L' fr⟩
 | Ve s a b t =>
  obtain⟨is,mv⟩:=ok;have i3:=mv.1;have i1:=i3.1;have i2:=i3.2.1;have i4:=i3.2.2;have i5:=mv.2;have sl:=g.sl s is.1 is.2;refine⟨_,rfl,d,_,_,_,rfl,rfl,eL.of hd,yu,?_⟩;refine⟨_,rfl,rfl,_,rfl,cO (by decide +kernel) ⟨_,rfl,rfl,_,rfl,cO (by decide +kernel) ⟨_,rfl,rfl,_,rfl,cO (by decide +kernel) ⟨_,rfl,rfl,_,rfl,cO (by decide +kernel) ⟨_,rfl,rfl,_,rfl,mS ?_⟩⟩⟩⟩⟩;refine⟨_,rfl,x,d',_,rfl,hx,rfl,_,rfl,d,_,_,_,rfl,rfl,eL.of hd,zm,_,rfl,d,_,_,_,rfl,rfl,eL.of hd,D9,_,rfl,d,_,_,_,rfl,rfl,eL.of hd,Ea,_,rfl,d,_,_,_,rfl,rfl,eL.of hd,Uz,U,x,pe,aB,aP,nW,cj,s,a,b,t,rows,rfl,LB,hl,l1,l2,l3,qo is,⟨by lia,by lia⟩,⟨by lia,by lia⟩,⟨by lia,by lia⟩,is,⟨sh,sn,mv,λes vt=>?_⟩⟩;rw[oE is]at vt;cases vt;exact⟨B,λU' H' L' fr=>k U' H' _ one L' fr⟩
 | Wm t p s a b =>
  obtain⟨it,ip,is,i3⟩:=ok;refine⟨_,rfl,d,_,_,_,rfl,rfl,eL.of hd,yu,?_⟩;refine⟨_,rfl,rfl,_,rfl,cO (by decide +kernel) ⟨_,rfl,rfl,_,rfl,cO (by decide +kernel) ⟨_,rfl,rfl,_,rfl,cO (by decide +kernel) ⟨_,rfl,rfl,_,rfl,cO (by decide +kernel) ⟨_,rfl,rfl,_,rfl,cO (by decide +kernel) ⟨_,rfl,rfl,_,rfl,mS ?_⟩⟩⟩⟩⟩⟩;refine⟨_,rfl,x,d',_,rfl,hx,rfl,_,rfl,d,_,_,_,rfl,rfl,eL.of hd,zm,_,rfl,d,_,_,_,rfl,rfl,eL.of hd,D9,_,rfl,d,_,_,_,rfl,rfl,eL.of hd,Ea,_,rfl,d,_,_,_,rfl,rfl,eL.of hd,Uz,_,rfl,d,_,_,_,rfl,rfl,eL.of hd,aag,U,x,pe,aB,aP,nW,cj,t,p,s,a,b,rows,rfl,LB,hl,l1,l2,l3,qo it,Yz it ip.1 ip.2,qo is,Yz is i3.1 (by have:=i3.2.1;have:=i3.2.2;lia),Yz is (by have:=i3.2.1;have:=i3.1;lia) i3.2.2,it,is,⟨sh,sn,i3,⟨ip,λes vt=>?_⟩⟩⟩;rw[oE it]at vt;cases vt;exact⟨B,λU' H' L' fr=>k U' H' _ one L' fr⟩
 | win t p s =>
  obtain⟨it,ip,is⟩:=ok;refine⟨_,rfl,d,_,_,_,rfl,rfl,eL.of hd,yu,?_⟩;refine⟨_,rfl,rfl,_,rfl,cO (by decide +kernel) ⟨_,rfl,rfl,_,rfl,cO (by decide +kernel) ⟨_,rfl,rfl,_,rfl,cO (by decide +kernel) ⟨_,rfl,rfl,_,rfl,cO (by decide +kernel) ⟨_,rfl,rfl,_,rfl,cO (by decide +kernel) ⟨_,rfl,rfl,_,rfl,cO (by decide +kernel) ⟨_,rfl,rfl,_,rfl,mS ?_⟩⟩⟩⟩⟩⟩⟩;refine⟨_,rfl,x,d',_,rfl,hx,rfl,_,rfl,d,_,_,_,rfl,rfl,eL.of hd,zm,_,rfl,d,_,_,_,rfl,rfl,eL.of hd,D9,_,rfl,d,_,_,_,rfl,rfl,eL.of hd,Ea,U,x,pe,aB,aP,nW,cj,t,p,s,rows,rfl,LB,hl,l1,l2,l3,qo it,Yz it ip.1 ip.2,qo is,it,is,⟨sh,sn,ip,λes vt=>?_⟩⟩;rw[oE it]at vt;cases vt;exact⟨B,λU' H' L' fr=>k U' H' _ one L' fr⟩
 | fix s =>
  refine⟨_,rfl,d,_,_,_,rfl,rfl,eL.of hd,yu,?_⟩;refine⟨_,rfl,rfl,_,rfl,cO (by decide +kernel) ⟨_,rfl,rfl,_,rfl,cO (by decide +kernel) ⟨_,rfl,rfl,_,rfl,cO (by decide +kernel) ⟨_,rfl,rfl,_,rfl,cO (by decide +kernel) ⟨_,rfl,rfl,_,rfl,cO (by decide +kernel) ⟨_,rfl,rfl,_,rfl,cO (by decide +kernel) ⟨_,rfl,rfl,_,rfl,cO (by decide +kernel) ⟨_,rfl,rfl,_,rfl,mS ?_⟩⟩⟩⟩⟩⟩⟩⟩;refine⟨_,rfl,x,d',_,rfl,hx,rfl,_,rfl,d,_,_,_,rfl,rfl,eL.of hd,zm,U,x,pe,aB,aP,nW,cj,s,rows,rfl,LB,hl,l1,l2,l3,qo ok,ok,⟨sh,sn,B,λU' H' L' fr=>k U' H' _ one L' fr⟩⟩
inductive JR(vs:List V)(H:Hp)(Q:VK)(E:XK):Prop
 | mk (l c w:Addr) (W:Addr->Prop) (aP:mj) (pq:nG) (rq:dJ) (_:vs=[.ref l,.ref w]) (_:d8 H l c) (_:Wo W H w aP pq rq) (_:(∀ a,W a->a≠l/\a≠c)) (_:aP.length<=50000) (_ :
 ∀ (r:Addr) (row:Row) (H':Hp),row.length<=2->cM H' r row->(∀ p∈row,0<=p.1/\p.1<p.2/\p.2<=aP.length/\p.2<=p.1+40)->H r=none->d8 H' l c->cT l H H'->Q (.ref r) H')
theorem jJ:aH ["_law_src_here","_law_world_here","_law_many","_law_row","_law_k","_law_start","_law_span"] ["_law_src_here","_law_world_here"] (aA pG):=iW
theorem DJ{f:Addr}{gN:FuncData}(F:iH K "_law_ink_row" "_law_ink_row" pG f fd)(T:nI mg)(aS:aC K mg "_law_next" jq xo fN gN):aF P w K mg zt bI 2 f fd NC JR:=by
 have bH:aF P w K mg zt bI 1 _ _ xo tT:=jN aS.F T;refine jg F jJ λdH A zn s H vs Q E hr h=>?_;obtain⟨l,c,w,W,aP,pq,rq,rfl,S,wo,dw,b1,k⟩:=h;have hu:=kj hr;refine⟨_,(aj (bh (i:=2) jJ.nd (jI T.jh (kq hu (pv 1) bK))) (aj (bh (i:=3) jJ.nd (bO ah)) (aj (ie PassesOwn.never rfl (lK rfl T.mR (aa (bz Ks (aG aS bH hr (aa (pv 0) (aa ay ah))) (cL (wI rfl) rfl T.MQ PyProof.Rows.boot_min (aa ay (aa (pv 2) ah)))) ah)) (cB (i:=4) jJ.nd) (aj (bh (i:=5) jJ.nd (aG aS bH hr (aa (pv 0) (aa (cL (uf rfl) rfl T.Fd PyProof.Rows.boot_max (aa ay (aa (pv 2) ah))) ah)))) (aj (bh (i:=6) jJ.nd (bz eT ay (aG aS bH hr (aa (pv 0) (aa (cL (uf rfl) rfl T.Fd PyProof.Rows.boot_max (aa ay (aa (cL (wI rfl) rfl T.MQ PyProof.Rows.boot_min (aa (aX bW (bO (aa ay (aa ay (aa ay (aa ay ah))))) (aG aS bH hr (aa (pv 0) (aa ay ah)))) (aa (bz cY (pv 2) (pv 5)) ah))) ah))) ah))))) (au (bu (iu wG qZ rf cH (pv 3) (aa (dX (aa (pv 5) (aa (bz eT (pv 5) (pv 6)) ah))) ah))))))) (au (aN (pv 3)))))),?_⟩;obtain⟨ik,rw,ps,vl,wu⟩:=id wo;obtain⟨as,GW,pa⟩:=id wu.hi;have la:=Paired.length pa;have zi:=ng.k (k:=kI) wu.hw;rw[show cW (yO ik rw ps vl) kI=some (.ref ik) by kernel_rfl]at zi;refine⟨_,rfl,w,_,rfl,zi,ik,_,rfl,.inl (bQ.of GW),?_⟩;refine⟨mF,λr Ba=>?_⟩;have s1:=ao Ba (.lst []);have r1:(aO H r (.lst [])) r=some (.lst []):=af;have nr:=S.ne Ba;have S1:=S.same s1;generalize aO H r (.lst [])=H1 at s1 r1 S1;refine⟨_,rfl,l,c,3,rfl,S1,by decide,by decide,λv H2 v0 v1 S2 k2=>?_⟩;rw[show (as.map V.ref).length=aP.length by rw[cR,la]];refine⟨_,rfl,_,_,rfl,_,_,rfl,rfl,.inl ⟨by lia,by lia⟩,?_⟩
 have hm:∃ n:Nat,(v*(if (aP.length:Int)<1 then (aP.length:Int) else 1))=n/\n<=2/\(0<n->1<=aP.length):=by
  split
  ·rename_i z;refine⟨0,?_,by lia,by lia⟩;rw[show (aP.length:Int)=0 by lia];exact Int.mul_zero _
  ·exact⟨v.toNat,by rw[Int.mul_one];lia,by lia,λ_=>by lia⟩
 obtain⟨n,en,n2,n1⟩:=hm
 have hM:(if (aP.length:Int) > 1 then (aP.length:Int) else 1)=if 1<=aP.length then (aP.length:Int) else 1:=by split <;> split <;> lia
 refine⟨n,congrArg (λz=>[V.int z]) en,by lia,by lia,qU (lo:=0) (n:=((n:Nat):Int).toNat) (λj σ H3=>∃ (u4 u5 u6:Option V) (row:Row),σ=[some (.ref l),some (.ref w),some (.int (aP.length:Nat)),some (.ref r),u4,u5,u6]/\cM H3 r row/\row.length=j/\(∀ p∈row,0<=p.1/\p.1<p.2/\p.2<=aP.length/\p.2<=p.1+40)/\d8 H3 l c/\cT l H H3) ⟨none,none,none,[],rfl,⟨[],(k2 r nr.1.symm).trans r1,.nil⟩,rfl,(λp hp=>nomatch hp),S2,(jL.aM.keep s1).trans (dm k2)⟩ ?_ ?_⟩
 ·rintro j σ H3 hj ⟨u4,u5,u6,row,rfl,R3,lr,hp,S3,K3⟩;have hk:1<=aP.length:=n1 (by lia);rw[if_pos hk]at hM;refine⟨_,rfl,_,rfl,_,_,rfl,l,c,_,rfl,S3,(by rw[hM];lia),(by rw[hM];lia),λa H4 a0 a1 S4 k4=>?_⟩;rw[hM]at a1;refine⟨_,rfl,D8,λt ht=>?_⟩;have s5:=ao ht (.lst [.int 4,.int 4,.int 4,.int 40]);have h5:(aO H4 t (.lst [.int 4,.int 4,.int 4,.int 40])) t=some (.lst [.int 4,.int 4,.int 4,.int 40]):=af;have nt:=S4.ne ht;have S5:=S4.same s5;generalize aO H4 t (.lst [.int 4,.int 4,.int 4,.int 40])=H5 at s5 h5 S5;refine⟨_,rfl,l,c,4,rfl,S5,by decide,by decide,λi H6 i0 i1 S6 k6=>?_⟩;obtain⟨z,hz,ez⟩:=JC (xs:=[V.int 4,.int 4,.int 4,.int 40]) i0 (by show i<4;lia)
  obtain⟨q,rfl,q0,q1⟩:∃ q:Int,z=.int q/\4<=q/\q<=40:=by
   rcases List.mem_cons.mp hz with y|hz
   ·exact⟨4,y,by decide,by decide⟩
   rcases List.mem_cons.mp hz with y|hz
   ·exact⟨4,y,by decide,by decide⟩
   rcases List.mem_cons.mp hz with y|hz
   ·exact⟨4,y,by decide,by decide⟩
   ·exact⟨40,List.mem_singleton.mp hz,by decide,by decide⟩
  refine⟨t,_,_,_,rfl,rfl,bQ.of ((k6 t nt.1.symm).trans h5),ez,?_⟩
  have hX:∃ x:Int,(if (if (aP.length:Int)-a<q then (aP.length:Int)-a else q) > 1 then (if (aP.length:Int)-a<q then (aP.length:Int)-a else q) else 1)=x/\1<=x/\x<=aP.length-a/\x<=40:=⟨_,rfl,by split <;> split <;> lia,by split <;> split <;> lia,by split <;> split <;> lia⟩
  obtain⟨M,eM,M1,M2,M3⟩:=hX;refine⟨_,rfl,_,rfl,_,_,rfl,rfl,_,_,rfl,_,_,rfl,l,c,_,rfl,S6,(by rw[eM];lia),(by rw[eM];lia),λb H7 b0 b1 S7 k7=>⟨_,_,rfl,rfl,?_⟩⟩;rw[eM]at b1;have K7:cT l H3 H7:=(((dm k4).trans (jL.aM.keep s5)).trans (dm k6)).trans (dm k7);obtain⟨bs,hb,pb⟩:=R3;obtain⟨ls,hl⟩:=S3.lst;have hb7:=K7 _ _ hb nr.1.symm;have pb7:bL H7 bs row:=pb.tups λa xs e=>K7 _ _ e (eS e hl);have lb:=Paired.length pb;refine⟨_,rfl,.inl ⟨rfl,_,bQ.of hb7⟩,_,rfl,_,rfl,_,rfl,_,_,rfl,rfl,vW,λp VH=>⟨r,_,_,rfl,rfl,ao VH _ _ _ hb7,(by rw[cR];exact aU (by lia)),?_⟩⟩;have sp:=ao VH (.tup [.int a,.int (a+(1+b))]);have p8:(aO H7 p (.tup [.int a,.int (a+(1+b))])) p=some (.tup [.int a,.int (a+(1+b))]):=af;have hb8:=sp _ _ hb7;have S8:=S7.same sp;have K8:cT l H (aO H7 p (.tup [.int a,.int (a+(1+b))])):=(K3.trans K7).trans (jL.aM.keep sp);have pb8:=bL.snoc (p:=(a,a+(1+b))) (pb7.same sp) p8;refine⟨_,_,_,row++[(a,a+(1+b))],rfl,⟨bs++[p],by rw[j5];exact af,pb8.tups λy xs e=>?_⟩,by rw[dM,lr];rfl,λy hy=>?_,?_,λy ob e n=>?_⟩
  ·exact (aK (eS e hb8)).trans e
  ·rcases List.mem_append.mp hy with hy|hy
   ·exact hp y hy
   ·rw[List.mem_singleton.mp hy];exact⟨a0,by show a<a+(1+b);lia,by show a+(1+b)<=_;lia,by show a+(1+b)<=a+40;lia⟩
  ·obtain⟨n,ns,i,d,r',e1,e2,h3⟩:=S8;exact⟨n,ns,i,d,r',(aK nr.1).trans e1,(aK nr.2).trans e2,h3⟩
  ·exact (aK (az e Ba)).trans (K8 _ _ e n)
 rintro σ H3 ⟨u4,u5,u6,row,rfl,R3,lr,hp,S3,K3⟩;exact⟨_,rfl,k r row H3 (by lia) R3 hp Ba S3 K3⟩
inductive JS(vs:List V)(H:Hp)(Q:VK)(E:XK):Prop
 | mk (l c:Addr) (s m:Int) (_:vs=[.ref l,.int s,.int m]) (_:d8 H l c) (_:0<=m) (_:m<=10000) (_:∀ (a b u:Int) (t:Addr) (dd:LD) (H':Hp),Mv a b u m->(dd=.cut s a b\/dd=.Ve s a b u)->dd.At H' t->d8 H' l c->cT l H H'->Q (.ref t) H')
theorem sF:aH ["_law_src_here","_law_sheet","_law_room","_law_start","_law_stop"] ["_law_src_here","_law_sheet","_law_room"] (aA pH):=iW
theorem DK{f:Addr}{gN:FuncData}(F:iH K "_law_move_by" "_law_move_by" pH f fd)(T:nI mg)(aS:aC K mg "_law_next" jq xo fN gN):aF P w K mg zt bI 2 f fd WA JS:=by
 have bH:aF P w K mg zt bI 1 _ _ xo tT:=jN aS.F T;refine jg F sF λdH A zn s0 H vs Q E hr h=>?_;obtain⟨l,c,s,m,rfl,S,m0,m1,k⟩:=h;refine⟨_,(aj (bh (i:=3) sF.nd (aG aS bH hr (aa (pv 0) (aa (bz eT (pv 2) ay) ah)))) (aj (bh (i:=4) sF.nd (bz eT (pv 3) (aG aS bH hr (aa (pv 0) (aa (bz eT (bz cY (pv 2) (pv 3)) ay) ah))))) (aj (bU (bq ig (aG aS bH hr (aa (pv 0) (aa ay ah))) ay (bC _)) (au (aN (dX (aa bK (aa (pv 1) (aa (pv 3) (aa (pv 4) ah))))))) br) (au (aN (dX (aa bK (aa (pv 1) (aa (pv 3) (aa (pv 4) (aa (aG aS bH hr (aa (pv 0) (aa (bz eT (bz eT (bz cY (pv 2) (pv 4)) (pv 3)) ay) ah))) ah))))))))))),?_⟩;refine⟨_,rfl,_,rfl,_,_,rfl,rfl,l,c,_,rfl,S,by lia,by lia,λa H1 a0 a1 S1 k1=>?_⟩;refine⟨_,rfl,_,rfl,_,rfl,_,rfl,_,_,rfl,rfl,_,_,rfl,rfl,l,c,_,rfl,S1,by lia,by lia,λv H2 v0 v1 S2 k2=>⟨_,_,rfl,rfl,?_⟩⟩;refine⟨_,rfl,l,c,2,rfl,S2,by decide,by decide,λz H3 _ _ S3 k3=>⟨rfl,_,rfl,?_⟩⟩;have K3:cT l H H3:=((dm k1).trans (dm k2)).trans (dm k3);refine dN (λ_=>?_) (λ_=>?_)
 ·refine⟨_,rfl,_,rfl,_,rfl,D8,λt ht=>?_⟩;exact k a (a+v) 0 t (.cut s a (a+v)) _ ⟨⟨by lia,by lia,by lia⟩,by lia,by lia⟩ (.inl rfl) af (S3.same (ao ht _)) (K3.trans (jL.aM.keep (ao ht _)))
 ·refine⟨_,rfl,_,rfl,_,rfl,_,rfl,_,rfl,_,rfl,_,_,rfl,rfl,_,rfl,_,_,rfl,rfl,_,_,rfl,rfl,l,c,_,rfl,S3,by lia,by lia,λu H4 u0 u1 S4 k4=>⟨X5,λt ht=>?_⟩⟩;exact k a (a+v) u t (.Ve s a (a+v) u) _ ⟨⟨by lia,by lia,by lia⟩,by lia,by lia⟩ (.inr rfl) af (S4.same (ao ht _)) ((K3.trans (dm k4)).trans (jL.aM.keep (ao ht _)))
def LD.New(H:Hp):LD->Prop
 | .put _ _ r _=>H r=none
 | _=>True
inductive Sn(vs:List V)(H:Hp)(Q:VK)(E:XK):Prop
 | mk (W:Addr->Prop) (l c w:Addr) (aP:mj) (pq:nG) (rows:dJ) (sh:Int->List Int) (_:vs=[.ref l,.ref w]) (_:d8 H l c) (_:Wo W H w aP pq rows) (_:∀ a,W a->a≠l/\a≠c) (_:Gd aP.length rows sh) (_:1<=rows.length) (_:aP.length<=10000) (_:∀ (t:Addr) (dd:LD) (H':Hp),dd.At H' t->dd.Ok aP.length rows.length sh->dd.New H->d8 H' l c->cT l H H'->Q (.ref t) H')
theorem jm:aH ["_law_src_here","_law_world_here","_law_rows","_law_way","_law_sheet","_law_other","_law_room","_law_place","_law_start"] ["_law_src_here","_law_world_here"] (aA uN):=iW
theorem JT{f f3:Addr}{gN g1 g2 g3:FuncData}(F:iH K "_law_draw" "_law_draw" uN f fd)(T:nI mg)(aS:aC K mg "_law_next" jq xo fN gN)(bM:aC K mg "_law_show" jr nK f1 g1)(pM:aC K mg "_law_ink_row" pG NC f2 g2)(pN:aC K mg "_law_move_by" pH WA f3 g3):aF P w K mg zt bI 43 f fd NC Sn:=by
 have bH:aF P w K mg zt bI 1 _ _ xo tT:=jN aS.F T;have iE:aF P w K mg zt bI 42 _ _ nK (uY 41):=nC T bM 41;have Ew:aF P w K mg zt bI 2 _ _ NC JR:=DJ pM.F T aS;have Ex:aF P w K mg zt bI 2 _ _ WA JS:=DK pN.F T aS;refine jg F jm λdH A zn s0 H vs Q E hr h=>?_;obtain⟨W,l,c,w,aP,pq,rows,sh,rfl,S,wo,dw,g,r1,i1,k⟩:=h;have hu:=kj hr;refine⟨_,(aj (bh (i:=2) jm.nd (kq hu (pv 1) bK)) (aj (bh (i:=3) jm.nd (aG aS bH hr (aa (pv 0) (aa ay ah)))) (aj (bh (i:=4) jm.nd (aG aS bH hr (aa (pv 0) (aa (jI T.jh (pv 2)) ah)))) (aj (bh (i:=5) jm.nd (aG aS bH hr (aa (pv 0) (aa (jI T.jh (pv 2)) ah)))) (aj (bh (i:=6) jm.nd (jI T.jh (aG bM iE hr (aa (pv 2) (aa (pv 4) ah))))) (aj (bh (i:=7) jm.nd (aG aS bH hr (aa (pv 0) (aa (bz eT (pv 6) ay) ah)))) (aj (bU (bq rB (pv 3) ay (bC _)) (au (aN (dX (aa bK (aa (pv 4) (aa (pv 7) (aa (aG pM Ew hr (aa (pv 0) (aa (pv 1) ah))) ah))))))) br) (aj (bU (bq rB (pv 3) ay (bC _)) (au (aN (aG pN Ex hr (aa (pv 0) (aa (pv 4) (aa (pv 6) ah)))))) br) (aj (bU (bq rB (pv 3) ay (bC _)) (aj (bh (i:=6) jm.nd (jI T.jh (aG bM iE hr (aa (pv 2) (aa (pv 5) ah))))) (aj (bh (i:=8) jm.nd (aG aS bH hr (aa (pv 0) (aa (bz eT (pv 6) ay) ah)))) (au (aN (dX (aa bK (aa (pv 4) (aa (pv 7) (aa (pv 5) (aa (pv 8) (aa (bz eT (pv 8) (aG aS bH hr (aa (pv 0) (aa (bz eT (bz cY (pv 6) (pv 8)) ay) ah)))) ah))))))))))) br) (aj (bU (bq rB (pv 3) ay (bC _)) (au (aN (dX (aa bK (aa (pv 4) (aa (pv 7) (aa (pv 5) ah))))))) br) (au (aN (dX (aa bK (aa (pv 4) ah))))))))))))))),?_⟩;obtain⟨ik,rE,ps,vl,wu⟩:=id wo;have zr:=ng.k (k:=kR) wu.hw;rw[show cW (yO ik rE ps vl) kR=some (.ref rE) by kernel_rfl]at zr;have l40:=g.ln;obtain⟨rk,rb,dn⟩:=id g.sn.rk;obtain⟨ls,hls⟩:=S.lst;have kp:∀ {H1:Hp},cT l H H1->kT (λ_=>False) H1 rE rows/\Wo W H1 w aP pq rows:=λ{H1} K1=>⟨(wu.hr.fr (λ_ z=>z) λa xs e wa _ _=>K1 _ _ e (dw a wa).1).at_,wo.fr (λa ob e z=>K1 _ _ e (dw a z).1) λa xs e=>K1 _ _ e (eS e hls)⟩
 have lv:∀ {H1:Hp},cT l H H1->∃ xs,H1 rE=some (.lst xs)/\xs.length=rows.length:=λ{H1} K1=>by
  obtain⟨xs,e,al⟩:=(kp K1).1;exact⟨xs,e,al.len⟩
 refine⟨_,rfl,w,_,rfl,zr,?_⟩;refine⟨_,rfl,l,c,13,rfl,S,by decide,by decide,λy H1 y0 y1 S1 k1=>?_⟩;have K1:cT l H H1:=dm k1;obtain⟨x1,e1,n1⟩:=lv K1;refine⟨_,rfl,_,rfl,rE,_,rfl,.inl (bQ.of e1),l,c,_,rfl,S1,by lia,by lia,λs H2 a0 a1 S2 k2=>?_⟩;have K2:cT l H H2:=K1.trans (dm k2);obtain⟨x2,e2,n2⟩:=lv K2;refine⟨_,rfl,_,rfl,rE,_,rfl,.inl (bQ.of e2),l,c,_,rfl,S2,by lia,by lia,λo H3 o0 o1 S3 k3=>?_⟩;have K3:cT l H H3:=K2.trans (dm k3);have is:yN rows.length s:=⟨a0,by lia⟩;have io:yN rows.length o:=⟨o0,by lia⟩;have ls:=g.sl s is.1 is.2;have lo:=g.sl o io.1 io.2;refine⟨_,rfl,_,rfl,_,rE,rows,s,sh,rk,rfl,(kp K3).1,by lia,g.sn.sd,is.1,is.2,g.sn.ss,g.sn.ln,dn,by have:=rb s;lia,λq H4 hq s4 fq=>⟨q,_,rfl,.inl (bQ.of hq),?_⟩⟩;rw[cR];have K4:cT l H H4:=K3.trans (jL.aM.keep s4);refine⟨_,rfl,_,rfl,_,_,rfl,rfl,l,c,_,rfl,S3.same s4,by lia,by lia,λp H5 p0 p1 S5 k5=>?_⟩;have K5:cT l H H5:=K4.trans (dm k5);have ip:0<=p/\p<=(sh s).length:=⟨p0,by lia⟩;refine⟨_,rfl,_,_,rfl,rfl,_,rfl,dN (λ_=>?_) (λ_=>?_)⟩
 ·refine⟨_,rfl,_,rfl,_,rfl,_,rfl,l,c,w,W,aP,pq,rows,rfl,S5,(kp K5).2,dw,by lia,λr row H6 r2 Si hq fr S6 K6=>⟨D8,λt ht=>?_⟩⟩;have st:=ao ht (.tup [.str "put",.int s,.int p,.ref r]);refine k t (.put s p r row) _ ⟨af,Si.same st⟩ ⟨is,ip,r2,hq⟩ ?_ (S6.same st) ((K5.trans K6).trans (jL.aM.keep st));show H r=none
  cases e:H r with
  | none=>rfl
  | some ob =>
   exfalso;by_cases n:r=l
   ·obtain⟨_,hl5⟩:=S5.lst;rw[n,hl5]at fr;cases fr
   ·rw[K5 _ _ e n]at fr;cases fr
 refine⟨_,rfl,_,_,rfl,rfl,_,rfl,dN (λ_=>?_) (λ_=>?_)⟩
 ·refine⟨_,rfl,_,rfl,_,rfl,l,c,s,_,rfl,S5,by lia,by lia,λa b u t dd H6 mv hdd YA S6 K6=>k t dd H6 YA ?_ ?_ S6 (K5.trans K6)⟩
  ·rcases hdd with rfl|rfl
   ·exact⟨is,mv.1⟩
   ·exact⟨is,mv⟩
  ·rcases hdd with rfl|rfl <;> trivial
 refine⟨_,rfl,_,_,rfl,rfl,_,rfl,dN (λ_=>?_) (λ_=>?_)⟩
 ·refine⟨_,rfl,_,rfl,_,rE,rows,o,sh,rk,rfl,(kp K5).1,by lia,g.sn.sd,io.1,io.2,g.sn.ss,g.sn.ln,dn,by have:=rb o;lia,λq6 H6 hq6 s6 fq6=>⟨q6,_,rfl,.inl (bQ.of hq6),?_⟩⟩;rw[cR];refine⟨_,rfl,_,rfl,_,_,rfl,rfl,l,c,_,rfl,S5.same s6,by lia,by lia,λa H7 b0 b1 S7 k7=>?_⟩;refine⟨_,rfl,_,rfl,_,rfl,_,rfl,_,rfl,_,rfl,_,rfl,_,rfl,_,_,rfl,rfl,_,_,rfl,rfl,l,c,_,rfl,S7,by lia,by lia,λv H8 v0 v1 S8 k8=>⟨_,_,rfl,rfl,aaf,λt ht=>?_⟩⟩;have st:=ao ht (.tup [.str "quote",.int s,.int p,.int o,.int a,.int (a+v)]);exact k t (.Wm s p o a (a+v)) _ af ⟨is,ip,io,by lia,by lia,by lia⟩ trivial (S8.same st) ((((K5.trans (jL.aM.keep s6)).trans (dm k7)).trans (dm k8)).trans (jL.aM.keep st))
 refine⟨_,rfl,_,_,rfl,rfl,_,rfl,dN (λ_=>?_) (λ_=>?_)⟩
 ·refine⟨_,rfl,_,rfl,_,rfl,D8,λt ht=>?_⟩;have st:=ao ht (.tup [.str "window",.int s,.int p,.int o]);exact k t (.win s p o) _ af ⟨is,ip,io⟩ trivial (S5.same st) (K5.trans (jL.aM.keep st))
 ·refine⟨_,rfl,vW,λt ht=>?_⟩;have st:=ao ht (.tup [.str "fix",.int s]);exact k t (.fix s) _ af is trivial (S5.same st) (K5.trans (jL.aM.keep st))
theorem LD.At.tup{H:Hp}{t:Addr}{dd:LD}(h:dd.At H t):∃ vs,H t=some (.tup vs)/\vC vs 1=some (.int dd.sh):=by
 cases dd with
 | put=>exact⟨_,h.1,rfl⟩
 | _=>exact⟨_,h,rfl⟩
theorem LD.At.kept{H H':Hp}{t:Addr}{dd:LD}(h:dd.At H t)(tp:∀ a xs,H a=some (.tup xs)->H' a=some (.tup xs))(kr:∀ s p r row,dd=.put s p r row->∀ xs,H r=some (.lst xs)->H' r=some (.lst xs)):dd.At H' t:=by
 cases dd with
 | put s p r row =>
  obtain⟨h1,as,ha,pa⟩:=h;exact⟨tp _ _ h1,as,kr _ _ _ _ rfl _ ha,pa.tups tp⟩
 | _=>exact tp _ _ h
inductive JU(C CS CW CB:Addr)(vs:List V)(H:Hp)(Q:VK)(E:XK):Prop
 | mk (l c w x:Addr) (U W:Addr->Prop) (pe:nG) (rows:dJ) (aB:nJ) (aP:mj) (nW:Nat) (cj:Row) (_:vs=[.ref l,.ref w,.ref x]) (_:yJ C CS CW CB H l c w x U W pe rows pe rows aB aP nW cj) (_:1<=rows.length) (_:pe.length<=800) (_:aB.length<=800) (_:aP.length<=10000) (_:Good aP.length rows) (_:∀ (U' W':Addr->Prop) (LJ:nG) (rows':dJ) (gy:nJ) (H':Hp),yJ C CS CW CB H' l c w x U' W' LJ rows' LJ rows' gy aP nW cj->rows'.length=rows.length->LJ.length<=pe.length+1->gy.length<=aB.length+1->Good aP.length rows'->Q (.bl true) H')
theorem wD:aH ["_law_src_here","_law_world_here","_law_house","_law_deed_here","_law_rows"] ["_law_src_here","_law_world_here","_law_house"] (aA yk):=iW
theorem JV{f f3:Addr}{g1 g2 g3 g4 g5:FuncData}(F:iH K "_law_deed" "_law_deed" yk f fd)(T:nI mg)(u9:aC K mg "_law_draw" uN NC f1 g1)(lH:aC K mg "_law_swap" rJ Pr f2 g2)(tO:aC K mg "_law_after" sW WB f3 g3)(vc:aC K mg "_law_fits" rK nK f4 g4)(eZ:aC K mg "_law_keep" m8 Ht f5 g5)(vd:aC K mg "_law_done" uM WC f6 g6)
  (LV:aF P w K mg zt bI 43 f1 g1 NC Sn) (JW:aF P w K mg zt bI 45 f3 g3 WB Nu) (LW:aF P w K mg zt bI 43 f4 g4 nK Sg) (LX:aF P w K mg zt bI 7 f6 g6 WC (Sm C CS CW CB)):aF P w K mg zt bI 46 f fd Kd (JU C CS CW CB):=by
 have yL:aF P w K mg zt bI 1 _ _ Pr LP:=Bm lH.F T;have sG:aF P w K mg zt bI 1 _ _ Ht GX:=wz eZ.F;refine jg F wD λdH A zn s0 H vs Q E hr h=>?_;obtain⟨l,c,w,x,U,W,pe,rows,aB,aP,nW,cj,rfl,St,r1,b1,b2,b3,gd,k⟩:=h;have hu:=kj hr;refine⟨_,(aj (bh (i:=3) wD.nd (aG u9 LV hr (aa (pv 0) (aa (pv 1) ah)))) (aj (bh (i:=4) wD.nd (aG lH yL hr (aa (kq hu (pv 1) bK) (aa (aX bw (pv 3) ay) (aa (aG tO JW hr (aa (pv 1) (aa (pv 3) ah))) ah))))) (aj (bU (qq (tR (aG vc LW hr (aa (pv 4) (aa (aX bw (pv 3) ay) ah))))) (au (aN vh)) br) (aj (bu (aG eZ sG hr (aa (pv 1) (aa (pv 4) ah)))) (au (aN (Px (Km (aG vd LX hr (aa (pv 2) (aa (pv 3) ah))))))))))),?_⟩;obtain⟨sh,g⟩:=gd.Wl;have l40:=g.ln;refine⟨_,rfl,_,rfl,W,l,c,w,aP,pe,rows,sh,rfl,St.src,St.wo,St.dw,g,r1,by lia,λt dd H1 YA ok nw S1 K1=>?_⟩;have OZ:=St.mv K1 S1;obtain⟨ik,rE,ps,vl,wu⟩:=id OZ.wo;have zr:=ng.k (k:=kR) wu.hw;rw[show cW (yO ik rE ps vl) kR=some (.ref rE) by kernel_rfl]at zr;obtain⟨_,_,_,xs,hxs,al⟩:=id wu.hr;have lv:=cE.len al;obtain⟨tv,ht,ht1⟩:=YA.tup;have is:=LD.in_ ok;have is1:=is.1;have is2:=is.2;have ss:((dd.sh.toNat:Nat):Int)=dd.sh:=by lia
 refine⟨_,rfl,w,_,rfl,zr,_,rfl,t,_,_,_,rfl,rfl,eL.of ht,ht1,_,rfl,_,rfl,W,w,t,aP,pe,rows,aP.length,sh,dd,rfl,OZ.wo,YA,g,ok,by lia,λo H2 ho lo s2 fo=>?_⟩;refine⟨rE,o,dd.sh.toNat,xs,by rw[ss];rfl,s2 _ _ hxs,by lia,by lia,λq H3 hq s3 fq=>?_⟩;have zP:=s2.trans s3;have fq1:=aZ s2 fq;have ne:=LD.Yy g ok;have en':=Sb (s:=dd.sh.toNat) g.en ne;have R3:kT (λ_=>False) H3 q (rows.set dd.sh.toNat (dd.res sh rows)):=⟨_,hq,cE.set _ (al.mono λv es ⟨b,e,_,_,_,hb⟩=>⟨b,e,λz=>z,zP _ _ hb⟩) ⟨o,rfl,λz=>z,s3 _ _ ho⟩⟩;have hl3:(rows.set dd.sh.toNat (dd.res sh rows)).length=rows.length:=List.length_set
 refine⟨_,rfl,_,rfl,t,_,_,_,rfl,rfl,eL.of (zP _ _ ht),ht1,_,q,_,dd.sh,rfl,R3,by lia,(λes he=>by
  rcases List.mem_or_eq_of_mem_set he with z|z
  ·have:=g.es es z;lia
  ·rw[z];exact lo),G3 en',is1,by lia,RZ is1 g.sn.rk,λb H4 s4 hb=>⟨b,rfl,?_⟩⟩
 have OT:=zP.trans s4;have SY:=OZ.same OT
 cases b with
 | false=>exact mD (k U W pe rows aB H4 SY rfl (by lia) (by lia) gd)
 | true =>
  refine jK ?_;obtain⟨R5,f5,w5,m5⟩:=hb rfl;have gd':Good aP.length (rows.set dd.sh.toNat (dd.res sh rows)):=⟨en',R5,by lia,f5,w5,m5⟩;have wu4:OV W H4 w ik rE ps vl aP pe rows:=wu.fr (λa ob e _=>OT _ _ e) λa xs e=>OT _ _ e;have nq:=OZ.new fq1;have no:=OZ.new fo;obtain⟨Y8,rv⟩:=Wo.swap wu4 (OT _ _ hxs) (s4 _ _ hq) (s4 _ _ (s3 _ _ ho)) nq.2.1 no.2.1;refine⟨_,rfl,_,rfl,_,w,q,aP,pe,rows,rows.set dd.sh.toNat (dd.res sh rows),rfl,⟨ik,rE,ps,vl,Y8⟩,by lia,λik' zQ ⟨rw2,vl',ee⟩=>?_,λH5 wo5 Vq tp5 _=>?_⟩
  ·rw[wu4.hw]at ee;simp only[Option.some.injEq,HO.dK.injEq,yO,List.cons.injEq,Prod.mk.injEq,V.ref.injEq,true_and,and_true]at ee;obtain⟨rfl,rfl,rfl,rfl⟩:=ee;exact rv
  have St5:=SY.kept wo5 (λa z y=>by
   rcases y with y|y|y
   ·exact (St.du a z).1 y
   ·exact no.1 (by rw[← y];exact z)
   ·exact nq.1 (by rw[← y];exact z)) (λa y=>by
   rcases y with y|y|y
   ·exact St.dw a y
   ·rw[y];exact no.2.2
   ·rw[y];exact nq.2.2) Vq tp5
  have ae0:dd.At H5 t:=(YA.same OT).kept tp5 λs p r row ed xs' hr'=>by
   rw[ed]at nw YA;have nr:=St.new (show H r=none from nw);obtain⟨_,as,ha,_⟩:=YA;refine Vq _ _ hr' λy=>?_;rcases y with y|y|y
   ·exact nr.2.1 y
   ·rw[y,fo]at ha;cases ha
   ·rw[y,fq1]at ha;cases ha
  refine⟨_,rfl,_,rfl,U,x,t,pe,aB,aP,nW,cj,rows,sh,dd,rfl,St5.Wh,St5.lst,by lia,by lia,b3,ae0,g,ok,by rw[JD _ (by lia)];exact gd'.bears,λU' H6 gy ll L6 O6=>?_⟩;obtain⟨JX,_⟩:=St5.aeM L6 (rows':=mJ rows dd.sh.toNat (dd.res sh rows)) (by simp) O6;rw[JD _ (by lia)]at JX;show Q (.bl (decide (V.iZ=V.iZ))) H6;rw[decide_eq_true rfl];exact k U' _ _ _ gy H6 JX hl3 (by rw[dM];exact ja _) (by lia) gd'
theorem Vi{H3 H7:Hp}{t:Addr}{h:Int}{cs:List Nat}{i ch:Nat}{bs:List Addr}(dh:H3 acc=none)(hi:cs[i]?=some ch)(hb:H7 acc=some (.lst (bs.map V.ref)))(pb:Paired (Nn H7) bs (uW h (cs.take i)))(s7:aM H3 H7)(ht:H7 t=none):(aO (aO H7 t (.tup [.int h,E9 ch])) acc (.lst (bs.map V.ref++[.ref t]))) acc=some (.lst ((bs++[t]).map V.ref))/\Paired (Nn (aO (aO H7 t (.tup [.int h,E9 ch])) acc (.lst (bs.map V.ref++[.ref t])))) (bs++[t]) (uW h (cs.take (i+1)))/\aM H3 (aO (aO H7 t (.tup [.int h,E9 ch])) acc (.lst (bs.map V.ref++[.ref t]))):=by
 refine⟨?_,?_,λb ob e=>?_⟩
 ·rw[af,j5];rfl
 ·have nta:t≠acc:=(az hb ht).symm;rw[take_snoc hi];unfold uW;rw[j5];refine GR (Paired.Kg pb λa q e=>?_) ?_
  ·show aO _ acc _ a=_;rw[aK (eS e hb)];exact ao ht _ _ _ e
  ·show aO _ acc _ t=_;rw[aK nta];exact af
 ·rw[aK (az e dh)];exact ao ht _ _ _ (s7 _ _ e)
inductive FI(C CS CW CB:Addr)(vs:List V)(H:Hp)(Q:VK)(E:XK):Prop
 | mk (l c w x:Addr) (U W:Addr->Prop) (pe:nG) (rows:dJ) (pq:nG) (rq:dJ) (aB:nJ) (aP:mj) (nW:Nat) (cj:Row) (_:vs=[.ref l,.ref w,.ref x]) (_:yJ C CS CW CB H l c w x U W pe rows pq rq aB aP nW cj) (_:pe.length<=800) (_:pq.length<=800) (_:rows.length<=50) (_:aB.length<=800) (_:aP.length<=50000) (_:nW<=800) (_ :
 ∀ (U':Addr->Prop) (H':Hp) (h:Int) (cs:List Nat) (gy:nJ),cs.length<=60->gy.length=aB.length+1->yJ C CS CW CB H' l c w x U' W (pe++[rows]) rows (pq++[rq]) rq gy (aP++uW h cs) (nW+1) cj->Q (.bl true) H')
def lpT:TS:=λD σ H=>∃ (l c:Addr) (s1 s2 s3 s4 s6:Option V) (h:Int),σ=[some (.ref l),s1,s2,s3,s4,some (.int h),s6]/\d8 H l c/\zE h/\∀ (h':Int) (H':Hp),zE h'->d8 H' l c->(∀ a,a≠l->H' a=H a)->D.nx [some (.ref l),s1,s2,s3,s4,some (.int h'),s6] H'
theorem nF:aH ["_law_src_here","_law_world_here","_law_house","_law_many","_law_text_here","_law_hand","_law_start"] ["_law_src_here","_law_world_here","_law_house"] (aA rL):=iW
theorem JY{f:Addr}{g1 g2 gN:FuncData}(F:iH K "_law_pour" "_law_pour" rL f fd)(X:xB K mg C CS CW CB)(A1:Ho K mg CS)(A2:LI K mg)(A5:V0 K mg CW CB)(aT:bN K C "enter" "Library.enter" cC Ka f1 g1)(ic:bN K C "pour" "Library.pour" j7 Tc f2 g2)(aS:aC K mg "_law_next" jq xo fN gN)(pB:aC K mg "_law_text" oW Tf fT gT)(lD:aC K mg "_law_sign" oV Pq fG gG)(eZ:aC K mg "_law_keep" m8 Ht fK gK)(cZ:aC K mg "_law_same" mY B3 fM gM)(dz:aC K mg "_law_whole" jM Kc fO gO):aF P w K mg zt bI 5 f fd Kd (FI C CS CW CB):=by
 have ua:aF P w K mg zt bI 4 _ _ Tc (Ni C CS CW CB):=BF ic.F X A1 A2 A5 aT;obtain⟨⟨⟨T,_⟩,⟨fi,aJ⟩,_⟩,_⟩:=X;have bH:aF P w K mg zt bI 1 _ _ xo tT:=jN aS.F T;have LY:aF P w K mg zt bI 3 _ _ Tf Nm:=JA pB.F T aS lD;have sG:aF P w K mg zt bI 1 _ _ Ht GX:=wz eZ.F;have nj:aF P w K mg zt bI 3 _ _ B3 (yp 2):=tw T dz cZ 2;refine jg F nF λdH A zn s H vs Q E hr h=>?_;obtain⟨l,c,w,x,U,W,pe,rows,pq,rq,aB,aP,nW,cj,rfl,St,b1,b1',b2,b3,b4,b5,k⟩:=h;have hu:=kj hr;refine⟨_,(aj (bh (i:=3) nF.nd (aX bW (bO (aa ay (aa ay (aa ay (aa ay (aa ay ah)))))) (aG aS bH hr (aa (pv 0) (aa ay ah))))) (aj (bh (i:=4) nF.nd (aG pB LY hr (aa (pv 0) (aa (aG aS bH hr (aa (pv 0) (aa (bz eT (pv 3) ay) ah))) ah)))) (aj (bh (i:=5) nF.nd (aG aS bH hr (aa (pv 0) (aa ay ah)))) (aj (KZ (t':=lpT) (bU (bq ig (aG aS bH hr (aa (pv 0) (aa ay ah))) ay (bC _)) (au (bh (i:=5) nF.nd (aG aS bH hr (aa (pv 0) (aa (bz PF ay ay) ah))))) br) ?b3) (aj (bh (i:=6) nF.nd (jI T.jh (kq hu (pv 1) bK))) (aj (bu (iu wG PySem.F.slot_list_extend PySem.F.type_list_extend nA (kq hu (pv 1) bK) (aa (jX (N:=["_law_sign_here","_law_hand"]) (rR (sc:=aA rL) (NX:=["_law_src_here","_law_world_here","_law_house","_law_many","_law_text_here","_law_hand","_law_start"]) (jx:=[none,some 5]) rfl rfl rfl (by decide +kernel) (by decide +kernel) rfl (by decide +kernel) rfl (by decide +kernel)) rfl (X3 (pv 4)) (λ_ _ _ _ _ _=>(cB (i:=0) (show List.Nodup (["_law_sign_here","_law_hand"]:List Str) by decide +kernel))) (λ_ _ _ _ _ _=>ko) (λ_ _ _ _ _ _=>(dX (aa (pv 1) (aa (pv 0) ah))))) ah))) (aj (bu (aG eZ sG hr (aa (pv 1) (aa (kq hu (pv 1) bK) ah)))) (au (aN (aG cZ nj hr (aa (iy (pv 2) aJ ic ua hr ck (aa (pv 5) (aa (pv 4) ah))) (aa (dX (aa (pv 6) (aa (bz eT (pv 6) (cL y9 rfl T.jh PySem.boot_len (aa (pv 4) ah))) ah))) ah)))))))))))),?_⟩
 case b3 =>
  rintro D σ H ⟨l,c,s1,s2,s3,s4,s6,h,rfl,S,fh,k⟩;refine⟨_,rfl,l,c,4,rfl,S,by decide,by decide,λv H1 v0 v1 S1 k1=>⟨rfl,_,rfl,dN (λ_=>?_) (λ_=>k h H1 fh S1 k1)⟩⟩;refine⟨_,rfl,_,_,rfl,rfl,⟨by decide,by decide,by decide⟩,l,c,_,rfl,S1,by decide,by decide,λv2 H2 q0 q1 S2 k2=>?_⟩;rw[show (10:Int)^(59:Int).toNat=10^59 from rfl]at q1;exact k v2 H2 ⟨q0,Int.lt_trans q1 (by decide)⟩ S2 λy hy=>(k2 y hy).trans (k1 y hy)
 refine⟨X5,λt ht=>?_⟩;have s1:=ao ht (.lst [.int 1,.int 3,.int 5,.int 8,.int 60]);have h1:(aO H t (.lst [.int 1,.int 3,.int 5,.int 8,.int 60])) t=some (.lst [.int 1,.int 3,.int 5,.int 8,.int 60]):=af;have nt:=St.src.ne ht;generalize aO H t (.lst [.int 1,.int 3,.int 5,.int 8,.int 60])=H1 at s1 h1;have OZ:=St.same s1;refine⟨_,rfl,l,c,5,rfl,OZ.src,by decide,by decide,λi H2 i0 i1 S2 k2=>?_⟩;have Za:=OZ.mv (dm k2) S2;obtain⟨z,hz,ez⟩:=JC (xs:=[V.int 1,.int 3,.int 5,.int 8,.int 60]) i0 (by show i<5;lia)
 obtain⟨tn,rfl,Pf,Y0⟩:∃ j:Int,z=.int j/\0<=j/\j<=60:=by
  have key:∀ y∈[V.int 1,.int 3,.int 5,.int 8,.int 60],∃ j:Int,y=.int j/\0<=j/\j<=60:=by
   intro y hy;rcases List.mem_cons.mp hy with q|hy
   ·exact⟨1,q,by decide,by decide⟩
   rcases List.mem_cons.mp hy with q|hy
   ·exact⟨3,q,by decide,by decide⟩
   rcases List.mem_cons.mp hy with q|hy
   ·exact⟨5,q,by decide,by decide⟩
   rcases List.mem_cons.mp hy with q|hy
   ·exact⟨8,q,by decide,by decide⟩
   ·exact⟨60,List.mem_singleton.mp hy,by decide,by decide⟩
  exact key z hz
 refine⟨t,_,_,_,rfl,rfl,bQ.of ((k2 t nt.1.symm).trans h1),ez,?_⟩;refine⟨_,rfl,_,rfl,_,rfl,_,_,rfl,rfl,l,c,_,rfl,S2,by lia,by lia,λm H3 m0 m1 S3 k3=>?_⟩;have YB:=Za.mv (dm k3) S3;refine⟨l,c,m.toNat,by rw[show ((m.toNat:Nat):Int)=m by lia];rfl,S3,by lia,λcs H4 Tz S4 K4=>?_⟩;have SY:=YB.mv K4 S4;refine⟨_,rfl,l,c,3,rfl,S4,by decide,by decide,λh0 H5 p0 p1 S5 k5=>?_⟩;have St5:=SY.mv (dm k5) S5;refine⟨l,c,_,_,_,_,_,h0,rfl,S5,⟨p0,by lia⟩,λh H6 fh S6 k6=>?_⟩;have JX:=St5.mv (dm k6) S6;obtain⟨ik,rw,ps,vl,wu⟩:=id JX.wo;obtain⟨as,GW,pa⟩:=id wu.hi;have la:=Paired.length pa;have zi:=ng.k (k:=kI) wu.hw;rw[show cW (yO ik rw ps vl) kI=some (.ref ik) by kernel_rfl]at zi;refine⟨_,rfl,w,_,rfl,zi,ik,_,rfl,.inl (bQ.of GW),?_⟩;refine⟨_,rfl,w,_,rfl,zi,.inl ⟨rfl,_,bQ.of GW⟩,_,rfl,cs,rfl,λacc dh=>Om (λj σ H7=>∃ (u:Option V) (bs:List Addr),σ=[u,some (.int h)]/\H7 acc=some (.lst (bs.map V.ref))/\Paired (Nn H7) bs (uW h (cs.take j))/\aM H6 H7) ⟨none,[],rfl,af,.nil,ao dh _⟩ ?_ ?_⟩
 ·rintro j ch σ H7 hj ⟨u,bs,rfl,ha,pb,s7⟩;have lb:=Paired.length pb;rw[xh,jV]at lb;refine⟨_,rfl,_,rfl,vW,λt ht=>⟨_,ao ht _ _ _ ha,(by rw[cR];exact aU (by lia)),_,bs++[t],rfl,Vi dh hj ha pb s7 ht⟩⟩
 rintro σ H7 ⟨u,bs,rfl,ha,pb,s7⟩;rw[lI]at pb;have lb:=Paired.length pb;rw[xh]at lb;have abd:=s7 _ _ GW;refine⟨ik,acc,_,_,rfl,rfl,abd,ha,(by rw[cR,cR];exact j9 (aU (by lia))),?_⟩;rw[← j5];have k8:cT ik H7 (aO H7 ik (.lst ((as++bs).map V.ref))):=aL ik _ _;have i8:(aO H7 ik (.lst ((as++bs).map V.ref))) ik=some (.lst ((as++bs).map V.ref)):=af;generalize aO H7 ik (.lst ((as++bs).map V.ref))=H8 at k8 i8;have Vj:∀ a ob,H6 a=some ob->a≠ik->H8 a=some ob:=λa ob e n=>k8 _ _ (s7 _ _ e) n;have t68:∀ a xs,H6 a=some (.tup xs)->H8 a=some (.tup xs):=λa xs e=>Vj _ _ e (eS e GW);have Yn:∀ a xs,H7 a=some (.tup xs)->H8 a=some (.tup xs):=λa xs e=>k8 _ _ e (eS e abd);have w8:H8 w=some (.dK (yO ik rw ps vl)):=Vj _ _ wu.hw (eS wu.hw GW);have hr8:Ph W ik ps H8 rw rq:=wu.hr.fr (λ_ z=>z) λa xs e _ n _=>Vj _ _ e n
 have wo8:OV W H8 w ik rw ps vl (aP++uW h cs) pq rq:=by
  obtain⟨Yw,hp,al⟩:=wu.hp;refine⟨wu.ww,wu.wi,wu.wp,wu.wv,λa z=>?_,w8,⟨as++bs,i8,Eo (Paired.Kg pa λa q e=>t68 _ _ e) (Paired.Kg pb λa q e=>Yn _ _ e)⟩,hr8,⟨Yw,Vj _ _ hp wu.ne.symm,al.mono λv rs ⟨a,e,q⟩=>⟨a,e,q.fr (λ_ y=>y) λa xs e _ n _=>Vj _ _ e n⟩⟩,wu.ne,wu.lst⟩;by_cases e:a=ik
  ·rw[e];exact⟨_,i8⟩
  ·obtain⟨ob,e2⟩:=wu.al a z;exact⟨ob,Vj _ _ e2 e⟩
 have ae1:=JX.Wh.fr (λa ob e z=>Vj _ _ e (λq=>(JX.du a z).1 (by rw[q];exact wu.wi))) t68
 have ae2:d8 H8 l c:=by
  obtain⟨n,ns,i,d,r,e1,e2,h3⟩:=S6;exact⟨n,ns,i,d,r,Vj _ _ e1 (λq=>(JX.dw ik wu.wi).1 q.symm),Vj _ _ e2 (λq=>(JX.dw ik wu.wi).2 q.symm),h3⟩
 have zr:=ng.k (k:=kR) w8;rw[show cW (yO ik rw ps vl) kR=some (.ref rw) by kernel_rfl]at zr;refine⟨_,rfl,_,rfl,w,_,rfl,zr,W,w,rw,aP++uW h cs,pq,rq,rq,rfl,⟨ik,rw,ps,vl,wo8⟩,by lia,λik' zQ ⟨rE,vl',e⟩=>?_,λH9 wo9 fr9 tp9 _=>?_⟩
 ·rw[w8]at e;simp only[Option.some.injEq,HO.dK.injEq,yO,List.cons.injEq,Prod.mk.injEq,V.ref.injEq,true_and,and_true]at e;obtain⟨rfl,rfl,rfl,rfl⟩:=e;exact hr8
 have abe:=ae1.fr (λa ob e z=>fr9 _ _ e (JX.du a z).1) tp9
 have YC:d8 H9 l c:=by
  obtain⟨n,ns,i,d,r,e1,e2,h3⟩:=ae2;exact⟨n,ns,i,d,r,fr9 _ _ e1 (λq=>(JX.dw l q).1 rfl),fr9 _ _ e2 (λq=>(JX.dw c q).2 rfl),h3⟩
 obtain⟨S',Yr,d',YU,sh',bl',kn',du',bk',dS',J4,J5,dw',sg',ow',pw',db',tb',LK,LU⟩:=id abe;refine⟨_,rfl,x,d',_,rfl,LU.L.hx,rfl,_,rfl,_,rfl,U,x,pe,aB,aP,nW,cj,h,cs,rows,rfl,abe,fh,by lia,by lia,by lia,JX.lst,b2,by lia,by lia,λU' q O7 abf So hq=>?_⟩;refine⟨_,rfl,_,rfl,_,rfl,iU cs,rfl,(by rw[uP];exact j9 (aU (by lia))),_,_,rfl,rfl,vW,λt2 Lc=>?_⟩;refine⟨_,_,rfl,.inr ⟨false,q,t2,_,_,rfl,rfl,ao Lc _ _ _ hq,af,rfl,λi u v eu ev=>?_⟩,λZ2 ae4=>?_⟩
 ·match i,eu,ev with
  | 0,eu,ev =>
   cases eu;cases ev;rw[show (as.map V.ref).length=aP.length by rw[cR,la]];exact Eqv.int _
  | 1,eu,ev =>
   cases eu;cases ev;rw[show ((aP++uW h cs).length:Int)=((as.map V.ref).length:Int)+((iU cs).length:Int) by rw[cR,la,uP,dM,xh];lia];exact Eqv.int _
 have sJ:aM O7 Z2:=λa ob e=>ae4 _ _ (ao Lc _ _ _ e)
 have abg:d8 Z2 l c:=by
  obtain⟨n,ns,i,d,r,e1,e2,h3⟩:=YC;exact⟨n,ns,i,d,r,sJ _ _ (So.2.1 _ _ e1 (λq=>(JX.du l q).2.1 rfl)),sJ _ _ (So.2.1 _ _ e2 (λq=>(JX.du c q).2.2 rfl)),h3⟩
 refine k U' Z2 h cs _ (by lia) (by rw[dM];rfl) ⟨abg,abf.fr (λa ob e _=>sJ _ _ e) (λa xs e=>sJ _ _ e),(by simp),wo9.fr (λa ob e z=>sJ _ _ (So.2.1 _ _ e (λy=>(JX.du a y).1 z))) (λa xs e=>sJ _ _ (So.2.2 _ _ e)),λa z=>?_,JX.dw⟩
 ·rcases So.1 a z with y|y
  ·exact JX.du a y
  ·refine⟨λz=>?_,λq=>?_,λq=>?_⟩
   ·obtain⟨ob,e2⟩:=wo9.al z;rw[e2]at y;cases y
   ·obtain⟨_,ns,i,d,r,e1,_⟩:=YC;rw[q,e1]at y;cases y
   ·obtain⟨_,ns,i,d,r,_,e1,_⟩:=YC;rw[q,e1]at y;cases y
inductive DL(C CS CW CB:Addr)(vs:List V)(H:Hp)(Q:VK)(E:XK):Prop
 | mk (l c w x:Addr) (U W:Addr->Prop) (pe:nG) (rows:dJ) (pq:nG) (rq:dJ) (aB:nJ) (aP:mj) (nW:Nat) (cj:Row) (_:vs=[.ref w,.ref x]) (_:yJ C CS CW CB H l c w x U W pe rows pq rq aB aP nW cj) (_:pe.length<=800) (_:pq.length<=800) (_:rows.length<40) (_:rq.length=rows.length) (_:aB.length<=800) (_:(∃ f,tG (rows++[[]]) f)) (_ :
 ∀ (U' W':Addr->Prop) (H':Hp) (gy:nJ),gy.length=aB.length+1->yJ C CS CW CB H' l c w x U' W' (pe++[rows++[[]]]) (rows++[[]]) (pq++[rq++[[]]]) (rq++[[]]) gy aP nW cj->Q (.bl true) H')
theorem G8:aH ["_law_world_here","_law_house"] ["_law_world_here","_law_house"] (aA sX):=iW
theorem G9{f:Addr}{g1:FuncData}(F:iH K "_law_fresh" "_law_fresh" sX f fd)(X:xB K mg C CS CW CB)(A1:Ho K mg CS)(A2:LI K mg)(A3:LbF K mg C)(eY:bN K C "fresh" "Library.fresh" jE ki f1 g1)(eZ:aC K mg "_law_keep" m8 Ht fK gK)(cZ:aC K mg "_law_same" mY B3 fM gM)(dz:aC K mg "_law_whole" jM Kc fO gO):aF P w K mg zt bI 8 f fd WD (DL C CS CW CB):=by
 have LM:=X.1;have sC:aF P w K mg zt bI 7 _ _ ki (Ng C CS):=AJ eY.F LM A1 A2 A3;obtain⟨⟨⟨T,_⟩,⟨fi,aJ⟩,_⟩,_⟩:=X;have sG:aF P w K mg zt bI 1 _ _ Ht GX:=wz eZ.F;have nj:aF P w K mg zt bI 2 _ _ B3 (yp 1):=tw T dz cZ 1;refine jg F G8 λdH A zn s H vs Q E hr h=>?_;obtain⟨l,c,w,x,U,W,pe,rows,pq,rq,aB,aP,nW,cj,rfl,St,b1,b1',b2,b2',b3,B,k⟩:=h;have hu:=kj hr;refine⟨_,(aj (bu (aG eZ sG hr (aa (pv 0) (aa (bz nM (kq hu (pv 0) bK) (bO (aa (bO ah) ah))) ah)))) (au (aN (aG cZ nj hr (aa (iD (pv 1) aJ eY sC hr ck) (aa (bz cY (jI T.jh (kq hu (pv 0) bK)) ay) ah)))))),?_⟩;obtain⟨ik,rw,ps,vl,wu⟩:=id St.wo;have zr:=ng.k (k:=kR) wu.hw;rw[show cW (yO ik rw ps vl) kR=some (.ref rw) by kernel_rfl]at zr;refine⟨_,rfl,_,rfl,w,_,rfl,zr,?_⟩;obtain⟨wrw,n1,n2,vs,hvs,al⟩:=id wu.hr;have lv:=cE.len al;refine⟨mF,λe he=>⟨qv,λo ho=>?_⟩⟩;have s1:=ao he (.lst []);have e1:(aO H e (.lst [])) e=some (.lst []):=af;generalize aO H e (.lst [])=H1 at s1 e1 ho;have s2:=ao ho (.lst [.ref e]);have o2:(aO H1 o (.lst [.ref e])) o=some (.lst [.ref e]):=af;show ZL _ _ (aO H1 o (.lst [.ref e])) _;generalize aO H1 o (.lst [.ref e])=H2 at s2 o2;have s02:=s1.trans s2;refine⟨rw,o,_,_,rfl,rfl,s02 _ _ hvs,o2,(by rw[lv];exact j9 (aU (by simp only[qE,xr];lia))),λr MS=>?_⟩;have s3:=ao MS (.lst (vs++[.ref e]));have r3:(aO H2 r (.lst (vs++[.ref e]))) r=some (.lst (vs++[.ref e])):=af;generalize aO H2 r (.lst (vs++[.ref e]))=H3 at s3 r3;have RD:=s02.trans s3;have fr:=aZ s02 MS;obtain⟨as,GW,_⟩:=id wu.hi;obtain⟨Yw,Pj,_⟩:=id wu.hp;have e3:=s3 _ _ (s2 _ _ e1);have wu3:OV W H3 w ik rw ps vl aP pq rq:=wu.fr (λa ob e _=>RD _ _ e) (λa xs e=>RD _ _ e)
 have Y8:OV (λa=>W a\/a=e\/a=r) H3 w ik rw ps vl aP pq rq:=yJ.Wi wu3 (λa z=>.inl z) (by
  rintro a (z|z|z)
  ·exact wu3.al a z
  ·rw[z];exact⟨_,e3⟩
  ·rw[z];exact⟨_,r3⟩)
 have nW':∀ a ob,H a=some ob->¬ W a->¬ (W a\/a=e\/a=r):=by
  rintro a ob h0 n (z|z|z)
  ·exact n z
  ·rw[z,he]at h0;cases h0
  ·rw[z,fr]at h0;cases h0
 refine⟨λa=>W a\/a=e\/a=r,w,r,aP,pq,rq,rq++[[]],rfl,⟨ik,rw,ps,vl,Y8⟩,by lia,λik' zQ ⟨rE,vl',ee⟩=>?_,λH4 wo4 fr4 tp4 _=>?_⟩
 ·rw[wu3.hw]at ee;simp only[Option.some.injEq,HO.dK.injEq,yO,List.cons.injEq,Prod.mk.injEq,V.ref.injEq,true_and,and_true]at ee;obtain⟨rfl,rfl,rfl,rfl⟩:=ee;exact⟨.inr (.inr rfl),(az GW fr).symm,(az Pj fr).symm,_,r3,cE.snoc (al.mono λ_ _=>Wg.fr (λa z=>.inl z) (λa xs e _ _ _=>RD _ _ e)) ⟨e,rfl,.inr (.inl rfl),(az GW he).symm,(az Pj he).symm,e3⟩⟩
 have Y4:∀ a ob,H a=some ob->¬ W a->H4 a=some ob:=λa ob e n=>fr4 _ _ (RD _ _ e) (nW' _ _ e n);have t04:∀ a xs,H a=some (.tup xs)->H4 a=some (.tup xs):=λa xs e=>tp4 _ _ (RD _ _ e);have ae7:=St.Wh.fr (λa ob e z=>Y4 _ _ e (St.du a z).1) t04
 have YD:d8 H4 l c:=by
  obtain⟨n,ns,i,d,r,e1,e2,h3⟩:=St.src;exact⟨n,ns,i,d,r,Y4 _ _ e1 (λq=>(St.dw l q).1 rfl),Y4 _ _ e2 (λq=>(St.dw c q).2 rfl),h3⟩
 have uw:∀ a,U a->¬ (W a\/a=e\/a=r):=λa z=>by
  obtain⟨ob,h0⟩:=St.Wh.al z;exact nW' _ _ h0 (St.du a z).1
 obtain⟨S',Yr,d',YU,sh',bl',kn',du',bk',dS',J4,J5,dw',sg',ow',pw',db',tb',LK,LU⟩:=id ae7;refine⟨_,rfl,x,d',_,rfl,LU.L.hx,rfl,S',x,d',YU,sh',bl',kn',du',bk',dS',J4,J5,pe,LK,aB,rows,rfl,LU.L,St.lst,by lia,by lia,by lia,by lia,⟨B,λS'' H5 L5 Vq=>?_⟩⟩;obtain⟨U',ae8,fu⟩:=LU.tL L5 Vq;have wo5:=wo4.fr (λa ob e z=>fu.2.1 _ _ e (λy=>uw a y z)) fu.2.2;obtain⟨ik5,rw5,ps5,vl5,wu5⟩:=id wo5;obtain⟨_,_,_,vs5,afa,al5⟩:=id wu5.hr;have lv5:=cE.len al5;rw[dM]at lv5;have zr5:=ng.k (k:=kR) wu5.hw;rw[show cW (yO ik5 rw5 ps5 vl5) kR=some (.ref rw5) by kernel_rfl]at zr5;refine⟨_,rfl,w,_,rfl,zr5,rw5,_,rfl,.inl (bQ.of afa),_,_,rfl,rfl,_,_,rfl,.inl ⟨rfl,?_⟩,λH6 s6=>?_⟩
 ·rw[lv5];simp only[qE,xr];congr 1;lia
 have afb:d8 H6 l c:=by
  obtain⟨n,ns,i,d,r,e1,e2,h3⟩:=YD;exact⟨n,ns,i,d,r,s6 _ _ (fu.2.1 _ _ e1 (λq=>(St.du l q).2.1 rfl)),s6 _ _ (fu.2.1 _ _ e2 (λq=>(St.du c q).2.2 rfl)),h3⟩
 refine k U' (λa=>W a\/a=e\/a=r) H6 _ (by rw[dM];rfl) ⟨afb,ae8.same s6,by simp,wo5.same s6,λa z=>?_,λa z=>?_⟩
 ·rcases fu.1 a z with y|y
  ·exact⟨uw a y,(St.du a y).2⟩
  ·change H4 a=none at y;refine⟨λz=>?_,λq=>?_,λq=>?_⟩
   ·obtain⟨ob,e2⟩:=wo4.al z;rw[e2]at y;cases y
   ·obtain⟨_,ns,i,d,r,e1,_⟩:=YD;rw[q,e1]at y;cases y
   ·obtain⟨_,ns,i,d,r,_,e1,_⟩:=YD;rw[q,e1]at y;cases y
 ·have ne:=St.src.ne he;have nr:=St.src.ne fr;rcases z with z|z|z
  ·exact St.dw a z
  ·rw[z];exact⟨ne.1.symm,ne.2.symm⟩
  ·rw[z];exact⟨nr.1.symm,nr.2.symm⟩
abbrev e0(n:Nat):dJ:=List.replicate n []
theorem Nv(n:Nat):e0 n++[[]]=e0 (n+1):=(List.replicate_succ').symm
theorem AR{n:Nat}{es:List Int}(h:es∈e0 n):es=[]:=(List.mem_replicate.mp h).2
theorem YE{n:Nat}{x y:Int}:¬ oR (e0 n) x y:=λ⟨_,es,he,hy⟩=>by
 rw[AR (vf he)]at hy;cases hy
theorem Sq(n:Nat):jH (e0 n):=λes he y hy=>by
 rw[AR he]at hy;cases hy
theorem Ss(n:Nat):Gb (e0 n):=⟨λ_=>0,λ_=>Nat.zero_le _,λ_ _ z=>absurd z YE⟩
theorem Su{n:Nat}(h:n<=100):tG (e0 n) λ_=>0:=by
 refine⟨by rw[Ca];exact h,λes he=>by rw[AR he];exact Nat.zero_le _,Sq n,Ss n,λx es _ he=>?_,λ_ _ _=>by decide⟩;rw[AR (vf he)];rfl
def BK(n:Nat):nG:=[[],[],[]]++(List.range n).map λk=>e0 (k+1)
theorem O0(n:Nat):BK (n+1)=BK n++[e0 (n+1)]:=by
 unfold BK;rw[List.range_succ,j5,pQ];rfl
theorem DM(n:Nat):(BK n).length=n+3:=by
 unfold BK;rw[dM,cR,List.length_range];show 3+n=_;lia
inductive DN(C CS CW CB:Addr)(vs:List V)(H:Hp)(Q:VK)(E:XK):Prop
 | mk (l c w x:Addr) (U W:Addr->Prop) (_:vs=[.ref l,.ref w,.ref x]) (_:yJ C CS CW CB H l c w x U W [[]] [] [[]] [] [] [] 0 []) (_ :
 ∀ (U' W':Addr->Prop) (H':Hp) (n:Nat) (aP:mj) (aB:nJ),2<=n->n<=4->aP.length<=120->aB.length=n+2->yJ C CS CW CB H' l c w x U' W' (BK n) (e0 n) (BK n) (e0 n) aB aP 2 []->Q (.bl true) H')
theorem l9:aH ["_law_src_here","_law_world_here","_law_house","_law_good","_law_k"] ["_law_src_here","_law_world_here","_law_house"] (aA vS):=iW
theorem Hf{f f3:Addr}{g1 g2 g3 gN:FuncData}(F:iH K "_law_begin" "_law_begin" vS f fd)(X:xB K mg C CS CW CB)(A1:Ho K mg CS)(A2:LI K mg)(A3:LbF K mg C)(A5:V0 K mg CW CB)(aT:bN K C "enter" "Library.enter" cC Ka f1 g1)(ic:bN K C "pour" "Library.pour" j7 Tc f2 g2)(eY:bN K C "fresh" "Library.fresh" jE ki f3 g3)(aS:aC K mg "_law_next" jq xo fN gN)(pB:aC K mg "_law_text" oW Tf fT gT)(lD:aC K mg "_law_sign" oV Pq fG gG)(eZ:aC K mg "_law_keep" m8 Ht fK gK)(cZ:aC K mg "_law_same" mY B3 fM gM)(dz:aC K mg "_law_whole" jM Kc fO gO)(ve:aC K mg "_law_pour" rL Kd fP gP)(tP:aC K mg "_law_fresh" sX WD fF gF):aF P w K mg zt bI 9 f fd Kd (DN C CS CW CB):=by
 have LZ:aF P w K mg zt bI 5 _ _ Kd (FI C CS CW CB):=JY ve.F X A1 A2 A5 aT ic aS pB lD eZ cZ dz;have JZ:aF P w K mg zt bI 8 _ _ WD (DL C CS CW CB):=G9 tP.F X A1 A2 A3 eY eZ cZ dz;obtain⟨⟨⟨T,_⟩,_⟩,_⟩:=X;have bH:aF P w K mg zt bI 1 _ _ xo tT:=jN aS.F T;refine jg F l9 λdH A zn s H vs Q E hr h=>?_;obtain⟨l,c,w,x,U,W,rfl,St,k⟩:=h;have hu:=kj hr;refine⟨_,(aj (bh (i:=3) l9.nd vh) (aj (ie PassesOwn.never rfl (lK rfl T.mR (aa ay ah)) (cB (i:=4) l9.nd) (au (bh (i:=3) l9.nd (vP (aG ve LZ hr (aa (pv 0) (aa (pv 1) (aa (pv 2) ah)))) (ya (pv 3)))))) (aj (ie PassesOwn.never rfl (lK rfl T.mR (aa (bz eT ay (aG aS bH hr (aa (pv 0) (aa ay ah)))) ah)) (cB (i:=4) l9.nd) (au (bh (i:=3) l9.nd (vP (aG tP JZ hr (aa (pv 1) (aa (pv 2) ah))) (ya (pv 3)))))) (au (aN (pv 3)))))),?_⟩;refine⟨2,rfl,by decide,by decide,?_⟩;refine qU (lo:=0) (n:=(2:Int).toNat) (λj σ H1=>∃ (u4:Option V) (U1 W1:Addr->Prop) (aP:mj) (aB:nJ),σ=[some (.ref l),some (.ref w),some (.ref x),some (.bl true),u4]/\yJ C CS CW CB H1 l c w x U1 W1 (List.replicate (j+1) []) [] (List.replicate (j+1) []) [] aB aP j []/\aP.length<=60*j/\aB.length=j) ⟨none,U,W,[],[],rfl,St,ja _,rfl⟩ ?_ ?_
 ·rintro j σ H1 hj ⟨u4,U1,W1,aP,aB,rfl,OZ,li,ll⟩;have hj2:j<2:=hj;refine⟨_,rfl,_,rfl,_,rfl,l,c,w,x,U1,W1,_,_,_,_,aB,aP,j,[],rfl,OZ,(by rw[Ca];lia),(by rw[Ca];lia),(by show 0<=50;decide),by lia,by lia,by lia,λU2 H2 h cs YF Tz EF Za=>?_⟩;rw[← List.replicate_succ']at Za;have g:∃ (u4:Option V) (U3 W3:Addr->Prop) (abh:mj) (gy:nJ),[some (.ref l),some (.ref w),some (.ref x),some (.bl true),some (V.int (0+(j:Int)))]=[some (.ref l),some (.ref w),some (.ref x),some (V.bl true),u4]/\yJ C CS CW CB H2 l c w x U3 W3 (List.replicate (j+1+1) []) [] (List.replicate (j+1+1) []) [] gy abh (j+1) []/\abh.length<=60*(j+1)/\gy.length=j+1:=⟨_,U2,W1,_,YF,rfl,Za,(by rw[dM,xh];lia),by lia⟩;refine⟨true,rfl,?_⟩;rw[if_pos rfl];exact⟨_,rfl,g⟩
 rintro σ H1 ⟨u4,U1,W1,aP,aB,rfl,OZ,li,ll⟩;refine⟨_,rfl,l,c,3,rfl,OZ.src,by decide,by decide,λv H2 v0 v1 S2 k2=>⟨_,_,rfl,rfl,2+v,rfl,by lia,by lia,?_⟩⟩;have Za:=OZ.mv (dm k2) S2;refine qU (lo:=0) (n:=(2+v).toNat) (λj σ H3=>∃ (u4:Option V) (U3 W3:Addr->Prop) (aB:nJ),σ=[some (.ref l),some (.ref w),some (.ref x),some (.bl true),u4]/\yJ C CS CW CB H3 l c w x U3 W3 (BK j) (e0 j) (BK j) (e0 j) aB aP 2 []/\aB.length=j+2) ⟨u4,U1,W1,aB,rfl,Za,ll⟩ ?_ ?_
 ·rintro j σ H3 hj ⟨u4,U3,W3,aB,rfl,YB,ll⟩;have hj2:j<4:=by lia
  refine⟨_,rfl,_,rfl,l,c,w,x,U3,W3,_,_,_,_,aB,aP,2,[],rfl,YB,(by rw[DM];lia),(by rw[DM];lia),(by rw[Ca];lia),rfl,by lia,⟨_,by rw[Nv];exact Su (by lia)⟩,λU4 W4 H4 YG hl4 SY=>?_⟩;rw[Nv,← O0]at SY;have g:∃ (u4:Option V) (U5 W5:Addr->Prop) (gy:nJ),[some (.ref l),some (.ref w),some (.ref x),some (.bl true),some (V.int (0+(j:Int)))]=[some (.ref l),some (.ref w),some (.ref x),some (V.bl true),u4]/\yJ C CS CW CB H4 l c w x U5 W5 (BK (j+1)) (e0 (j+1)) (BK (j+1)) (e0 (j+1)) gy aP 2 []/\gy.length=j+1+2:=⟨_,U4,W4,YG,rfl,SY,by lia⟩;refine⟨true,rfl,?_⟩;rw[if_pos rfl];exact⟨_,rfl,g⟩
 rintro σ H3 ⟨u4,U3,W3,aB,rfl,YB,ll⟩;exact⟨_,rfl,k U3 W3 H3 (2+v).toNat aP aB (by lia) (by lia) (by have:(2:Int).toNat=2:=rfl;lia) ll YB⟩
inductive Wq(C CS CW CB:Addr)(vs:List V)(H:Hp)(Q:VK)(E:XK):Prop
 | mk (U:Addr->Prop) (x:Addr) (pe:nG) (aB:nJ) (aP:mj) (nW:Nat) (cj:Row) (rows:dJ) (f:Int->List Int) (a:Int) (_:vs=[.ref x,.int a]) (_:xS C CS CW CB U H x pe aB aP nW cj) (_:pe.getLast?=some rows) (_:pe.length<=900) (_:aP.length<=10000) (_:wO a) (_:Gd aP.length rows f) (_:SQ aP a->∀ (o:Addr) (H':Hp),cM H' o (CV a f rows.length)->aM H H'->Q (.ref o) H') (_:¬ SQ aP a->Q .iZ H)
theorem mh:aH ["_law_house","_law_address","_law_told"] ["_law_house","_law_address"] (aA qt):=iW
theorem AS{f:Addr}(F:iH K "_law_places_or" "_law_places_or" qt f fd)(X:xB K mg C CS CW CB)(j8:Ut K mg "OutOfInk" XN)(j4:bN K C "places" "Library.places" jW YH fe ge)(BL:aF P w K mg zt (O8 P w) 6 fe ge YH (FE C CS CW CB XN)):aF P w K mg zt bI 7 f fd ["_law_house","_law_address"] (Wq C CS CW CB):=by
 obtain⟨⟨_,⟨fi,aJ⟩,_⟩,_⟩:=X;refine jg F mh λdH A zn s H vs Q E hr h=>?_;obtain⟨U,x,pe,aB,aP,nW,cj,rows,f,a,rfl,LB,hl,l2,li,fa,g,k1,k2⟩:=h;have l40:=g.ln;obtain⟨S',Yr,d',YU,sh',bl',kn',du',bk',dS',J4,J5,dw',sg',ow',pw',db',tb',LK,LU⟩:=id LB;refine⟨_,(aj (bh (i:=2) mh.nd FP) (aj (Uv (i:=2) mh.nd rfl (Or.inl rfl) (pv 0) aJ.cl j4.mt j4.b BL (hr.mono (by decide)) (aa (pv 1) ah) j8.m j8.h (λ_=>(au (bh (i:=2) mh.nd FP)))) (au (aN (pv 2))))),?_⟩;refine⟨_,rfl,x,d',_,rfl,LU.L.hx,rfl,_,rfl,U,x,pe,aB,aP,nW,cj,rows,f,a,rfl,LB,hl,by lia,l2,by lia,fa,g.sn,(λs hs=>g.sl s (by lia) (by lia)),λiw o H1 ho s1=>⟨_,rfl,k1 iw o H1 ho s1⟩,λnl=>⟨rfl,?_⟩⟩;exact⟨_,rfl,k2 nl⟩
theorem Sv{a:Int}{xs:List Int}{i:Nat}{y:Int}(h:xs[i]?=some y):DS a 0 (xs.take (i+1))=DS a 0 (xs.take i)++if y=a then [(i:Int)] else []:=by
 have l:=(List.getElem?_eq_some_iff.mp h).1;rw[take_snoc h,Gk,DS,DS,jo,jV,Nat.min_eq_left (by lia),Int.zero_add]
inductive Sw(vs:List V)(H:Hp)(Q:VK)(E:XK):Prop
 | mk (W:Addr->Prop) (w:Addr) (aP:mj) (pe:nG) (rows:dJ) (sh:Int->List Int) (a:Int) (_:vs=[.ref w,.int a]) (_:Wo W H w aP pe rows) (_:Gd aP.length rows sh) (_:SQ aP a->∀ (o:Addr) (H':Hp),cM H' o (CV a sh rows.length)->aM H H'->Q (.ref o) H') (_:¬ SQ aP a->Q .iZ H)
theorem kB:aH ["_law_world_here","_law_address","_law_due","_law_sheet","_law_numbers"] ["_law_world_here","_law_address"] (aA lR):=iW
theorem zL{f fS:Addr}(F:iH K "_law_places_due" "_law_places_due" lR f fd)(T:nI mg)(bM:aC K mg "_law_show" jr nK fS gS):aF P w K mg zt bI 43 f fd ["_law_world_here","_law_address"] Sw:=by
 have iE:aF P w K mg zt bI 42 _ _ nK (uY 41):=nC T bM 41;refine jg F kB λdH A zn s0 H vs Q E hr h=>?_;obtain⟨W,w,aP,pe,rows,sh,a,rfl,wo,g,k1,k2⟩:=h;have hu:=kj hr;refine⟨_,(aj (bU (PW.pt (HF (bq rB (pv 1) ay (bC _)) (FT (bq PN (pv 1) (jI T.jh (kq hu (pv 0) bK)) (bC _))))) (au (aN FP)) br) (aj (bh (i:=2) kB.nd (bO ah)) (aj (ie PassesOwn.never rfl (lK rfl T.mR (aa (jI T.jh (kq hu (pv 0) bK)) ah)) (cB (i:=3) kB.nd) (aj (bh (i:=4) kB.nd (aG bM iE hr (aa (kq hu (pv 0) bK) (aa (pv 3) ah)))) (au (bu (iu wG PySem.F.slot_list_extend PySem.F.type_list_extend nA (pv 2) (aa (jX (N:=["_law_place","_law_address","_law_sheet","_law_numbers"]) (rR (sc:=aA lR) (NX:=["_law_world_here","_law_address","_law_due","_law_sheet","_law_numbers"]) (jx:=[none,some 1,some 3,some 4]) rfl rfl rfl (by decide +kernel) (by decide +kernel) rfl (by decide +kernel) rfl (by decide +kernel)) rfl (lK rfl T.mR (aa (jI T.jh (pv 4)) ah)) (λ_ _ _ _ _ _=>(cB (i:=0) (show List.Nodup (["_law_place","_law_address","_law_sheet","_law_numbers"]:List Str) by decide +kernel))) (λ_ _ _ _ _ _=>F3 (bq ig (aX QT (pv 3) (pv 0)) (pv 1) (bC _))) (λ_ _ _ _ _ _=>(dX (aa (pv 2) (aa (pv 0) ah))))) ah)))))) (au (aN (pv 2)))))),?_⟩;obtain⟨ik,rE,ps,vl,wu⟩:=id wo;obtain⟨as0,GW,pa0⟩:=id wu.hi;have la:=Paired.length pa0;have zi:=ng.k (k:=kI) wu.hw;rw[show cW (yO ik rE ps vl) kI=some (.ref ik) by kernel_rfl]at zi
 have zr:∀ {H1:Hp},aM H H1->ng H1 w (kV kR) (some (.ref rE)):=λ{H1} s=>by
  have z:=ng.k (k:=kR) (s _ _ wu.hw);rwa [show cW (yO ik rE ps vl) kR=some (.ref rE) by kernel_rfl]at z
 have R:=wu.hr.at_;obtain⟨xs,hxs,al⟩:=id R;have lx:=cE.len al;have ln:=g.ln;obtain⟨rk,rb,dn⟩:=id g.sn.rk;refine⟨_,rfl,_,_,rfl,rfl,_,rfl,dN (λc1=>mD (k2 λz=>?_)) (λc1=>?_)⟩
 ·have:=of_decide_eq_true c1;have:=z.1;lia
 refine⟨_,rfl,_,rfl,w,_,rfl,zi,ik,_,rfl,.inl (bQ.of GW),_,_,rfl,rfl,_,rfl,?_⟩;rw[cR,la];refine dN (λc2=>k2 λz=>?_) (λc2=>?_)
 ·have:=of_decide_eq_true c2;have:=z.2;lia
 have iw:SQ aP a:=⟨Int.not_lt.mp λz=>c1 (decide_eq_true z),Int.not_le.mp λz=>c2 (decide_eq_true z)⟩;refine⟨mF,λdue abj=>?_⟩;have s1:=ao abj (.lst []);refine⟨_,rfl,w,_,rfl,zr s1,rE,_,rfl,.inl (bQ.of (s1 _ _ hxs)),((xs.length:Nat):Int),rfl,by lia,by lia,?_⟩;refine qU (lo:=0) (n:=((xs.length:Nat):Int).toNat) (λj σ H2=>∃ (u3 u4:Option V) (bs:List Addr),σ=[some (.ref w),some (.int a),some (.ref due),u3,u4]/\H2 due=some (.lst (bs.map V.ref))/\bL H2 bs (CV a sh j)/\aM H H2) ⟨none,none,[],rfl,af,.nil,s1⟩ ?_ ?_
 ·rintro j σ H2 hj ⟨u3,u4,bs,rfl,h2,p2,s2⟩;have jl:j<rows.length:=by lia
  rw[Int.zero_add];refine⟨_,rfl,w,_,rfl,zr s2,_,rfl,_,rE,rows,(j:Nat),sh,rk,rfl,R.same s2,by lia,g.sn.sd,by lia,by lia,g.sn.ss,g.sn.ln,dn,by have:=rb j;lia,λo H3 ho s3 fo=>?_⟩;have sl:=g.sl j (by lia) (by lia);have h3:=s3 _ _ h2;have lb:=p2.len;have tl:=CY (a:=a) (m:=200) (n:=j) λs hs=>g.sl s (by lia) (by lia);refine⟨_,rfl,.inl ⟨rfl,_,bQ.of h3⟩,_,rfl,o,_,rfl,.inl (bQ.of ho),_,rfl,by lia,(by rw[cR];lia),λacc dh=>vV (lo:=0) (k:=((((sh j).map V.int).length:Nat):Int).toNat) (λi σ H5=>∃ (u:Option V) (cs:List Addr),σ=[u,some (.int a),some (.int (j:Nat)),some (.ref o)]/\H5 acc=some (.lst (cs.map V.ref))/\bL H5 cs ((DS a 0 ((sh j).take i)).map λp=>((j:Int),p))/\aM H3 H5) ⟨none,[],rfl,af,.nil,ao dh _⟩ ?_ ?_⟩
  ·rintro i σ H5 hi ⟨u,cs,rfl,h5,p5,s5⟩;rw[Int.toNat_natCast,cR]at hi;obtain⟨y,ey⟩:∃ y,(sh j)[i]?=some y:=⟨_,pP hi⟩;have st:=Sv (a:=a) ey;have lc:=p5.len;rw[cR]at lc;have il:=zp a ((sh j).take i) 0;rw[jV]at il;rw[Int.zero_add];refine⟨_,rfl,_,rfl,o,_,_,_,rfl,rfl,bQ.of (s5 _ _ ho),(gz (by rw[kF,ey];rfl):_=some (.int y)),_,rfl,rfl,_,rfl,dN (λc=>?_) (λc=>?_)⟩
   ·have e:y=a:=V.int.inj (of_decide_eq_true c);rw[if_pos e]at st;refine⟨_,rfl,_,rfl,vW,λt ht=>⟨_,ao ht _ _ _ h5,(by rw[cR];exact aU (by lia)),_,cs++[t],rfl,?_,?_,bX dh (s5.trans (ao ht _)) (aL acc _ _)⟩⟩
    ·rw[af,j5];rfl
    ·rw[st,j5 (f:=λp=>((j:Int),p))];have K6:=aL acc (aO H5 t (.tup [.int (j:Nat),.int (i:Nat)])) (.lst (cs.map V.ref++[.ref t]));exact bL.snoc ((p5.same (ao ht _)).keep (ao ht _ _ _ h5) K6) (K6 t _ af (az h5 ht).symm)
   ·rw[if_neg (λe=>c (by rw[e];exact decide_eq_true rfl)),jo]at st;exact⟨_,cs,rfl,h5,by rw[st];exact p5,s5⟩
  ·rintro σ H5 ⟨u,cs,rfl,h5,p5,s5⟩;rw[Int.toNat_natCast,cR,lI]at p5;have lc:=p5.len;rw[cR]at lc;have il:=zp a (sh j) 0;have h5':=s5 _ _ h3;refine⟨due,acc,_,_,rfl,rfl,h5',h5,(by rw[cR,cR];exact j9 (aU (by lia))),?_⟩;rw[← j5];have K8:=aL due H5 (.lst ((bs++cs).map V.ref));refine⟨_,_,bs++cs,rfl,af,?_,bX abj (s2.trans (s3.trans s5)) K8⟩;rw[An];exact (((p2.same s3).same s5).append p5).keep h5' K8
 ·rintro σ H2 ⟨u3,u4,bs,rfl,h2,p2,s2⟩;rw[Int.toNat_natCast,lx]at p2;exact⟨_,rfl,k1 iw due H2 ⟨bs,h2,p2⟩ s2⟩
theorem Vk{n m:Nat}(h:m<=40):Good n (e0 m):=by
 refine⟨λes he e hm=>?_,Ss m,by rw[Ca];exact h,λ_=>0,λx es _ he=>?_,λ_ _ _=>(by decide:(0:Int)<=200)⟩
 ·rw[AR he]at hm;cases hm
 ·rw[AR (vf he)];rfl
inductive I50(C CS CW CB l c x w:Addr)(j:Nat)(H:Hp):Prop
 | mk (U W:Addr->Prop) (pe:nG) (rows:dJ) (aB:nJ) (aP:mj) (_:yJ C CS CW CB H l c w x U W pe rows pe rows aB aP 2 []) (_:2<=rows.length) (_:pe.length<=20+j) (_:aB.length<=20+j) (_:aP.length<=120) (_:Good aP.length rows)
theorem DO:aH ["_law_script","_law_src_here","_law_house","_law_world_here","_law_k","_law_many","_law_address"] ["_law_script"] (aA TV):=iW
theorem all_mk:VA:=by
 intro P w K mg fa q;obtain⟨jt,oQ,qu,HU,Mt,bV,EI,X,G,hfa,Mu,Mw,EJ,Ql,KO,F1,Ab,Mx,F2,Qm,Qn,Qo,Qp,Vw,EK,Vx,Qq,Qs,Qt,Vy,Vz,q0,q1,q2,q3,q4,q5,q6,q7,q8,q9,EL,q11,q12,q13,q14,q15,q16,q17,q18,q19,q20,q21,q22,q23,q24,q25,q26,q27,q28,q29,q30,q31,q32,q33,q34,q35,q36,q37,q38,q39,q40,q41,q42,q43,q44,q45,q46,q47,q48,q49,q50,q51,q52,q53,q54,q55,q56,q57,q58,q59,q60,q61,q62,q63,q64,q65,q66,q67,q68,q69,q70,q71,q72,q73,q74,q75,q76,q77,q78,q79,q80,q81,q82,q83,q84,q85,q86,q87,q88,q89,q90,q91,q92,z0,z1,z2,z3,z4,z5,z6,z7,z8,z9,z10,z11,z12,z13,EM,xJ,xK,HV,za,xM,vU⟩:=q;obtain⟨al,ll,cl,kl⟩:=q92;have e:=hfa.symm.trans (mg_of X G al);cases e;obtain⟨fd,F,bF⟩:∃ fd,iH K "law" "law" TV fa fd/\∀ (s:Shared) (v:Value),BindsTo s fd ⟨[v],[]⟩ [("_law_script",v)]:=⟨_,KN (st:=TV) ll cl kl,λs v=>.of_eq rfl⟩;obtain⟨_,FJ⟩:=q0.d (ps:=["_law_script"]) X G;obtain⟨_,aS⟩:=q1.d (ps:=["_law_src_here","_law_base"]) X G;obtain⟨_,dz⟩:=q2.d (ps:=["_law_found"]) X G;obtain⟨_,cZ⟩:=q3.d (ps:=["_law_found","_law_due"]) X G;obtain⟨_,eK⟩:=q4.d (ps:=["row"]) X G;obtain⟨_,iX⟩:=q5.d (ps:=["row"]) X G;obtain⟨_,cA⟩:=q6.d (ps:=["row","start","stop"]) X G;obtain⟨_,iB⟩:=q7.d (ps:=["row","start","stop"]) X G;obtain⟨_,FD⟩:=q8.d (ps:=["row","start","stop"]) X G;obtain⟨_,j3⟩:=q9.d (ps:=["self"]);obtain⟨_,xj⟩:=EL.d (ps:=["row","address"]) X G;obtain⟨_,cN⟩:=q11.d (ps:=["items"]) X G;obtain⟨_,jv⟩:=q12.d (ps:=["rows","sheets"]) X G;obtain⟨_,lV⟩:=q13.d (ps:=["rows","start","goal"]) X G;obtain⟨_,Nc⟩:=q14.d (ps:=["rows","sheet"]) X G;obtain⟨_,lW⟩:=q15.d (ps:=["item","weights"]) X G;obtain⟨_,oz⟩:=q16.d (ps:=["rows","sheets"]) X G;obtain⟨_,cD⟩:=q17.d (ps:=["item","views"]) X G;obtain⟨_,cy⟩:=q18.d (ps:=["rows","sheets"]) X G;obtain⟨_,ny⟩:=q19.d (ps:=["rows","sheet"]) X G;obtain⟨_,ji⟩:=q20.d (ps:=["one","other"]) X G;obtain⟨_,cP⟩:=q21.d (ps:=["items"]) X G;obtain⟨_,dY⟩:=q22.d (ps:=["row"]) X G;obtain⟨_,oq⟩:=q23.d (ps:=["items","views"]) X G;obtain⟨_,nv⟩:=q24.d (ps:=["items","views","place","others"]) X G;obtain⟨_,jw⟩:=q25.d (ps:=["rows","sheet","place","items"]) X G;obtain⟨_,ku⟩:=q26.d (ps:=["items","views","start","stop"]) X G;obtain⟨_,o7⟩:=q27.d (ps:=["rows","sheet","start","stop"]) X G;obtain⟨_,l6⟩:=q28.d (ps:=["rows","sheet","start","stop","to"]) X G;obtain⟨_,l5⟩:=q29.d (ps:=["rows","sheet"]) X G;obtain⟨_,kY⟩:=q30.d (ps:=["row"]) X G;obtain⟨_,tH⟩:=q31.d (ps:=["deed"]) X G;obtain⟨_,jZ⟩:=q32.d (ps:=["state","sheet","items"]) X G;obtain⟨_,j0⟩:=q33.d (ps:=["self"]);obtain⟨_,dZ⟩:=q34.d (ps:=["self"]);obtain⟨_,kZ⟩:=q35.d (ps:=["self"]);obtain⟨_,tK⟩:=q36.d (ps:=["self","changes"]);obtain⟨_,bf⟩:=q37.d (ps:=["self","sheet"]);obtain⟨_,fH⟩:=q38.d (ps:=["self","moment"]);obtain⟨_,lZ⟩:=q39.d (ps:=["self","moment"]);obtain⟨_,bJ⟩:=q40.d (ps:=["self"]);obtain⟨_,ly⟩:=q41.d (ps:=["self"]);obtain⟨_,lC⟩:=q42.d (ps:=["self"]);obtain⟨_,lu⟩:=q43.d (ps:=["self"]);obtain⟨_,cQ⟩:=q44.d (ps:=["self"]);obtain⟨_,uX⟩:=q45.d (ps:=["self","hand","text"]);obtain⟨_,jC⟩:=q46.d (ps:=["self","address"]);obtain⟨_,tM⟩:=q47.d (ps:=["self","row"]);obtain⟨_,qO⟩:=q48.d (ps:=["rows","sheet"]) X G;obtain⟨_,oH⟩:=q49.d (ps:=["self"]);obtain⟨_,aT⟩:=q50.d (ps:=["self","deed","changes"]);obtain⟨_,aR⟩:=q51.d (ps:=["self","deed","sheet","items"]);obtain⟨_,eN⟩:=q52.d (ps:=["self"]);obtain⟨_,oA⟩:=q53.d (ps:=["self","deed","items"]);obtain⟨_,eY⟩:=q54.d (ps:=["self"]);obtain⟨_,jU⟩:=q55.d (ps:=["self"]);obtain⟨_,fX⟩:=q56.d (ps:=["self","row"]);obtain⟨_,ic⟩:=q57.d (ps:=["self","hand","text"]);obtain⟨_,qR⟩:=q58.d (ps:=["self","sheet","place","row"]);obtain⟨_,dQ⟩:=q59.d (ps:=["self","sheet"]);obtain⟨_,qS⟩:=q60.d (ps:=["self","sheet","start","stop"]);obtain⟨_,oG⟩:=q61.d (ps:=["self","target","place","source","start","stop"]);obtain⟨_,mT⟩:=q62.d (ps:=["self","target","place","source"]);obtain⟨_,qT⟩:=q63.d (ps:=["self","sheet"]);obtain⟨_,pL⟩:=q64.d (ps:=["self","sheet","start","stop","to"]);obtain⟨_,oB⟩:=q65.d (ps:=["self"]);obtain⟨_,j4⟩:=q66.d (ps:=["self","address"]);obtain⟨_,lD⟩:=q67.d (ps:=["_law_src_here","_law_few"]) X G;obtain⟨_,pB⟩:=q68.d (ps:=["_law_src_here","_law_many"]) X G;obtain⟨_,tQ⟩:=q69.d (ps:=[]) X G;obtain⟨_,eZ⟩:=q70.d (ps:=["_law_world_here","_law_rows"]) X G;obtain⟨_,lH⟩:=q71.d (ps:=["_law_rows","_law_sheet","_law_entries"]) X G;obtain⟨_,tN⟩:=q72.d (ps:=["_law_row"]) X G;obtain⟨_,bM⟩:=q73.d (ps:=["_law_rows","_law_sheet"]) X G;obtain⟨_,pK⟩:=q74.d (ps:=["_law_rows","_law_sheet"]) X G;obtain⟨_,gZ⟩:=q75.d (ps:=["_law_rows","_law_entry"]) X G;obtain⟨_,pA⟩:=q76.d (ps:=["_law_rows","_law_sheet","_law_place","_law_new"]) X G;obtain⟨_,uE⟩:=q77.d (ps:=["_law_rows","_law_sheet","_law_start","_law_stop"]) X G;obtain⟨_,eO⟩:=q78.d (ps:=["_law_rows","_law_sheet"]) X G;obtain⟨_,vc⟩:=q79.d (ps:=["_law_rows","_law_sheet"]) X G;obtain⟨_,tO⟩:=q80.d (ps:=["_law_world_here","_law_deed_here"]) X G;obtain⟨_,t9⟩:=q81.d (ps:=["self","sheet","moment"]);obtain⟨_,vd⟩:=q82.d (ps:=["_law_house","_law_deed_here"]) X G;obtain⟨_,pM⟩:=q83.d (ps:=["_law_src_here","_law_world_here"]) X G;obtain⟨_,pN⟩:=q84.d (ps:=["_law_src_here","_law_sheet","_law_room"]) X G;obtain⟨_,u9⟩:=q85.d (ps:=["_law_src_here","_law_world_here"]) X G;obtain⟨_,DP⟩:=q86.d (ps:=["_law_src_here","_law_world_here","_law_house"]) X G;obtain⟨_,ve⟩:=q87.d (ps:=["_law_src_here","_law_world_here","_law_house"]) X G;obtain⟨_,tP⟩:=q88.d (ps:=["_law_world_here","_law_house"]) X G;obtain⟨_,Bp⟩:=q89.d (ps:=["_law_src_here","_law_world_here","_law_house"]) X G;obtain⟨_,vv⟩:=q90.d (ps:=["_law_house","_law_address"]) X G;obtain⟨_,uF⟩:=q91.d (ps:=["_law_world_here","_law_address"]) X G;have T:nI mg:=⟨PySem.W.mg_none_of X G z0,zR X G z1,zR X G z2,zR X G z3,zR X G z4,zR X G z5,zR X G z6,zR X G z7,zR X G z8,zR X G z9,zR X G z10,zR X G z11,zR X G z12,zR X G z13,λf e=>(iX.m).symm.trans e ▸ mg_of X G za,λf e=>(ny.m).symm.trans e ▸ mg_of X G xM,λf e=>(xj.m).symm.trans e ▸ mg_of X G vU⟩;have G_:Gbs mg:=⟨⟨_,mg_of X G xJ⟩,⟨_,mg_of X G xK⟩,⟨_,mg_of X G HV⟩⟩;have j8:=EM.d X G;have bT:=Mu.d X G j0.mt;have iG:=Ql.d X G lu.mt;have t6:=Mx.d X G j3.mt;have Ju:=Qm.d X G ly.mt;have Jv:=Qp.d X G lC.mt;have aJ:=EK.d X G oH.mt;have G:=G_;refine⟨fd,bF,λzt _ _=>?_⟩;have O1:aF P w K mg zt bI 1 _ _ ["_law_script"] (VD K):=Ll FJ.F T;have bH:aF P w K mg zt bI 1 _ _ xo tT:=jN aS.F T;have LM:Ek K mg bV jt:=⟨⟨T,⟨_,bT⟩,Mw,EJ⟩,⟨_,aJ⟩,Vx,Qq,Qs,Qt,Vy,Vz,G⟩;have X:xB K mg bV jt oQ qu:=⟨LM,⟨_,iG⟩,KO,F1,Ab,⟨_,t6⟩,F2⟩;have A1:Ho K mg jt:=⟨⟨_,_,kZ⟩,⟨_,_,dZ⟩,⟨_,_,bf⟩,⟨_,_,fH⟩,⟨_,_,lZ⟩,⟨_,_,bJ⟩,⟨_,_,tK⟩⟩;have A2:LI K mg:=⟨⟨_,_,cN⟩,⟨_,_,jv⟩,⟨_,_,lW⟩,⟨_,_,oz⟩,⟨_,_,lV⟩,⟨_,_,Nc⟩,⟨_,_,qO⟩,⟨_,_,jZ⟩,⟨_,_,kY⟩,⟨_,_,tH⟩⟩;have A3:LbF K mg bV:=⟨⟨_,_,aT⟩,⟨_,_,aR⟩,⟨_,_,eN⟩,⟨_,_,oA⟩⟩;have A4:Yp K mg _ _:=⟨⟨_,_,cN⟩,⟨_,_,jv⟩,⟨_,_,cD⟩,⟨_,_,eK⟩,⟨_,_,cy⟩,⟨_,ny⟩,⟨_,iX⟩⟩;have A5:V0 K mg oQ qu:=⟨⟨_,_,cQ⟩,⟨_,_,uX⟩,⟨_,_,tM⟩⟩;have A6:Wa K mg:=⟨⟨_,_,cN⟩,⟨_,_,jv⟩,⟨_,_,cD⟩,⟨_,_,eK⟩,⟨_,_,cy⟩,⟨_,_,iX⟩,⟨_,_,cA⟩,⟨_,_,ji⟩,⟨_,_,cP⟩,⟨_,_,oq⟩,⟨_,_,iB⟩,⟨_,_,dY⟩,⟨_,_,nv⟩,⟨_,_,jw⟩⟩;have zM:aF P w K mg zt bI 3 _ _ ki (Fz bV jt oQ qu):=xD oH.F LM bT j0 iG lu KO F1 Ab t6 j3 F2 Ju ly Qn Qo Jv lC Vw;have J1:aF P w K mg zt bI 1 _ _ [] Np:=GV tQ.F;have iE:aF P w K mg zt bI 42 _ _ nK (uY 41):=nC T bM 41;have nj:aF P w K mg zt bI 5 _ _ B3 (yp 4):=tw T dz cZ 4;have J2:aF P w K mg zt bI 9 _ _ Kd (DN bV jt oQ qu):=Hf Bp.F X A1 A2 A3 A5 aT ic eY aS pB lD eZ cZ dz ve tP;have L0:aF P w K mg zt bI 46 _ _ Kd (JU bV jt oQ qu):=JV DP.F T u9 lH tO vc eZ vd (JT u9.F T aS bM pM pN) (G4 tO.F T bM gZ pA uE lH tN) (JO vc.F T pK eO) (JQ vd.F X A1 A2 A4 A5 A6 aT aR dQ jU fX ic eY qR qS pL oG mT qT t9 o7 ku l6 l5 ny FD);have BN:aF P w K mg zt bI 7 _ _ ["_law_house","_law_address"] (Wq bV jt oQ qu):=AS vv.F X j8 j4 (zK j4.F X A1 A4 j8 eN oB xj cQ jC);have AU:aF P w K mg zt bI 43 _ _ ["_law_world_here","_law_address"] Sw:=zL uF.F T bM;refine jg F DO λdH A zn s H vs Q E hr h=>?_;obtain⟨a,ns,rfl,hS,h63,k⟩:=h;have hu:=kj hr;refine⟨_,(aj (bh (i:=1) DO.nd (aG FJ O1 hr (aa (pv 0) ah))) (aj (bh (i:=2) DO.nd (ug aJ.YO zM (hr.mono (by decide)) rfl aJ.m oH.b .nil ck)) (aj (bh (i:=3) DO.nd (PX J1 (hr.mono (by decide)) rfl tQ.m tQ.F.kp tQ.b .nil ck)) (aj (bu (aG Bp J2 hr (aa (pv 1) (aa (pv 3) (aa (pv 2) ah))))) (aj (ie PassesOwn.never rfl (lK rfl T.mR (aa (aG aS bH hr (aa (pv 1) (aa ay ah))) ah)) (cB (i:=4) DO.nd) (aj (bU (qq (tR (aG DP L0 hr (aa (pv 1) (aa (pv 3) (aa (pv 2) ah)))))) (au (aN vh)) br) (aj (bh (i:=5) DO.nd (jI T.jh (kq hu (pv 3) bK))) (au (ie PassesOwn.never rfl (dc (bO (aa (aG aS bH hr (aa (pv 1) (aa (cL (uf rfl) rfl T.Fd PyProof.Rows.boot_max (aa ay (aa (pv 5) ah))) ah))) (aa (bz cY (aG aS bH hr (aa (pv 1) (aa (bz eT (pv 5) ay) ah))) ay) (aa (bz eT (pv 5) (aG aS bH hr (aa (pv 1) (aa ay ah)))) (aa (oO kg ay) ah)))))) (cB (i:=6) DO.nd) (au (bU (qq (tR (aG cZ nj hr (aa (aG vv BN hr (aa (pv 2) (aa (pv 6) ah))) (aa (aG uF AU hr (aa (pv 3) (aa (pv 6) ah))) ah))))) (au (aN vh)) br))))))) (au (aN vh))))))),?_⟩;refine⟨_,rfl,a,ns,rfl,hS,λl c H1 S1 s1 _ _=>?_⟩;intro x dx fx fdx _;refine⟨x,dx,rfl,af,λU H2 L2 fU k2=>⟨rfl,?_⟩⟩;have s2:=qY fx fdx k2;have S2:=S1.same s2
 have fU':∀ a,U a->H1 a=none:=λa z=>by
  rcases fU a z with y|y
  ·rw[y];exact fx
  ·exact uB y
 refine⟨rfl,λW w H3 wo3 fW s3=>?_⟩
 have YB:yJ bV jt oQ qu H3 l c w x U W [[]] [] [[]] [] [] [] 0 []:=by
  refine⟨S2.same s3,L2.same s3,rfl,wo3,λa z=>⟨λy=>?_,?_⟩,λa z=>?_⟩
  ·obtain⟨ob,e⟩:=L2.al z;rw[fW a y]at e;cases e
  ·have n:=S1.ne (fU' a z);exact⟨n.1.symm,n.2.symm⟩
  ·have n:=S2.ne (fW a z);exact⟨n.1.symm,n.2.symm⟩
 refine⟨_,rfl,_,rfl,_,rfl,l,c,w,x,U,W,rfl,YB,λU4 W4 H4 n aP ln4 n2 n4 li ll4 SY=>?_⟩;have lb:=DM n;refine⟨_,rfl,l,c,10,rfl,SY.src,by decide,by decide,λv H6 v0 v1 S6 k6=>⟨v,rfl,by lia,by lia,?_⟩⟩;refine qU (lo:=0) (n:=v.toNat) (λj σ H6=>∃ u4 u5 u6:Option V,σ=[some (.ref a),some (.ref l),some (.ref x),some (.ref w),u4,u5,u6]/\I50 bV jt oQ qu l c x w j H6) ⟨none,none,none,rfl,U4,W4,BK n,e0 n,ln4,aP,SY.mv (dm k6) S6,by rw[Ca];lia,by lia,by lia,li,Vk (by lia)⟩ ?_ ?_
 ·rintro j σ H6 hj ⟨u4,u5,u6,rfl,U,W,pe,rows,aB,aP,St,r2,lp,ll,li,gd⟩;have j10:j<10:=by lia
  refine⟨_,rfl,_,rfl,_,rfl,l,c,w,x,U,W,pe,rows,aB,aP,2,[],rfl,St,by lia,by lia,by lia,by lia,gd,λU' W' LJ rows' gy H7 St7 rl' lp' ll' gd'=>⟨true,rfl,jK ?_⟩⟩;clear St gd;obtain⟨sh,g⟩:=gd'.Wl;obtain⟨ik,rE,ps,vl,wu⟩:=id St7.wo;obtain⟨as0,GW,pa0⟩:=id wu.hi;have la:=Paired.length pa0;have zi:=ng.k (k:=kI) wu.hw;rw[show cW (yO ik rE ps vl) kI=some (.ref ik) by kernel_rfl]at zi;refine⟨_,rfl,w,_,rfl,zi,ik,_,rfl,.inl (bQ.of GW),?_⟩;rw[cR,la];clear wu GW pa0 zi la
  obtain⟨m,em,m1,m2⟩:∃ m:Int,(if ((aP.length:Nat):Int) > 1 then ((aP.length:Nat):Int) else 1)=m/\1<=m/\m<=121:=⟨_,rfl,by split <;> lia,by split <;> lia⟩
  refine⟨_,rfl,_,rfl,_,_,rfl,?_⟩;rw[em];refine⟨l,c,m,rfl,St7.src,by lia,by lia,λv1 H8 p0 p1 S8 k8=>⟨_,rfl,_,rfl,_,_,rfl,rfl,l,c,_,rfl,S8,by lia,by lia,λv2 H9 q0 q1 S9 k9=>⟨_,_,rfl,rfl,_,rfl,_,rfl,l,c,3,rfl,S9,by decide,by decide,λv3 HA r0 r1 SA kA=>⟨_,_,rfl,rfl,_,rfl,D8,λa0 VQ=>?_⟩⟩⟩⟩;have StA:=((St7.mv (dm k8) S8).mv (dm k9) S9).mv (dm kA) SA;clear St7 S8 S9 SA k8 k9 kA
  have hys:∀ v'∈[V.int v1,.int (v2-1),.int ((aP.length:Nat)+v3),.int (-1)],∃ y:Int,v'=.int y/\-1<=y/\y<=200:=by
   intro v' h;rcases List.mem_cons.mp h with z|h
   ·exact⟨_,z,by lia,by lia⟩
   rcases List.mem_cons.mp h with z|h
   ·exact⟨_,z,by lia,by lia⟩
   rcases List.mem_cons.mp h with z|h
   ·exact⟨_,z,by lia,by lia⟩
   ·exact⟨_,List.mem_singleton.mp h,by lia,by lia⟩
  have sB:=ao VQ (.lst [.int v1,.int (v2-1),.int ((aP.length:Nat)+v3),.int (-1)]);have hB:(aO HA a0 (.lst [.int v1,.int (v2-1),.int ((aP.length:Nat)+v3),.int (-1)])) a0=some (.lst [.int v1,.int (v2-1),.int ((aP.length:Nat)+v3),.int (-1)]):=af;generalize [V.int v1,.int (v2-1),.int ((aP.length:Nat)+v3),.int (-1)]=ys at hys sB hB ⊢;show isL _ (V.ref a0) (aO HA a0 (.lst ys)) _;generalize aO HA a0 (.lst ys)=HB at sB hB ⊢;have StB:=StA.same sB;refine⟨a0,rfl,⟨_,bQ.of hB⟩,gB (K:=K) (a:=a0) (xs:=ys) (λi σ H8=>∃ u6:Option V,σ=[some (.ref a),some (.ref l),some (.ref x),some (.ref w),some (.int (0+(j:Int))),some (.int (aP.length:Nat)),u6]/\aM HB H8) ⟨_,rfl,λ_ _ e=>e⟩ (λi σ H8 _ h=>by obtain⟨_,_,s8⟩:=h;exact bQ.of (s8 _ _ hB)) ?_ ?_⟩
  ·rintro i v' σ H8 hi ⟨u6,rfl,s8⟩;obtain⟨y,rfl,y0,y1⟩:=hys v' (vf hi);have St8:=StB.same s8;refine⟨_,rfl,_,rfl,U',x,LJ,gy,aP,2,[],rows',sh,y,rfl,St8.Wh,St8.lst,by lia,by lia,⟨by lia,by lia⟩,g,λiw o H9 ho s9=>?_,λni=>?_⟩
   ·exact⟨_,rfl,_,rfl,W',w,aP,LJ,rows',sh,y,rfl,(St8.same s9).wo,g,λ_ o' HD Kl sD=>⟨_,_,rfl,(ho.same sD).eqv Kl 1,λHE sE=>⟨true,rfl,jK ⟨_,rfl,s8.trans (s9.trans (sD.trans sE))⟩⟩⟩,λni=>absurd iw ni⟩
   ·exact⟨_,rfl,_,rfl,W',w,aP,LJ,rows',sh,y,rfl,St8.wo,g,λiw=>absurd iw ni,λ_=>⟨_,_,rfl,.inl ⟨rfl,rfl⟩,λHE sE=>⟨true,rfl,jK ⟨_,rfl,s8.trans sE⟩⟩⟩⟩
  ·rintro σ H8 ⟨u6,rfl,s8⟩;exact⟨_,_,_,rfl,U',W',LJ,rows',gy,aP,StB.same s8,by lia,by lia,by lia,li,gd'⟩
 ·rintro σ H6 ⟨u4,u5,u6,rfl,_⟩;exact k H6
end
end jL
theorem PySem.Challenge.cw_inkroot_k50_whole_places_holds : PySem.Challenge.rw_inkroot_k50_whole_places.Holds :=
 InkHd.hd2 jL.all_mk
