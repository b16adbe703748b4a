import PyProof.Rows.All
import KE.KIntText
import KE.KTryMore
import KE.KDictLaws
import KE.KItem
import Open.Pieces
import KE.RegKTryMore
import OpenK.KOwn
import Lean
import PyProof.EqAt
import PyProof.EqKinds
import PyProof.TupleCall
import PySem.Challenge.RW_inkroot_k47_fix
set_option Elab.async false
set_option linter.all false
set_option maxRecDepth 100000
set_option maxHeartbeats 4000000
abbrev ou:=List (List (List Int))
abbrev dM:=List (List Int)
abbrev pP:=List (List Nat)
abbrev m7:=List (Int × Nat)
abbrev lZ:List PySem.Str:=["self"]
abbrev xO:List PySem.Str:=["self","sheet"]
abbrev Ss:List PySem.Str:=["self","moment"]
abbrev zl3:List PySem.Str:=["self","changes"]
abbrev Lg:List PySem.Str:=["self","deed","changes"]
abbrev Jz:List PySem.Str:=["self","deed","sheet","items"]
abbrev zl6:List PySem.Str:=["self","deed","items"]
abbrev UC:List PySem.Str:=["self","hand","text"]
abbrev VD:List PySem.Str:=["self","row"]
abbrev zl9:List PySem.Str:=["self","sheet","place","row"]
abbrev VE:List PySem.Str:=["self","sheet","start","stop"]
abbrev VF:List PySem.Str:=["self","sheet","start","stop","to"]
abbrev VG:List PySem.Str:=["self","target","place","source","start","stop"]
abbrev VH:List PySem.Str:=["self","target","place","source"]
abbrev OP:List PySem.Str:=["_law_found"]
abbrev GZ:List PySem.Str:=["_law_found","_law_due"]
abbrev iH:List PySem.Str:=["row"]
abbrev pQ:List PySem.Str:=["row","start","stop"]
abbrev oA:List PySem.Str:=["items"]
abbrev OQ:List PySem.Str:=["rows","start","goal"]
abbrev lQ:List PySem.Str:=["rows","sheets"]
abbrev MR:List PySem.Str:=["item","weights"]
abbrev yz:List PySem.Str:=["item","views"]
abbrev G0:List PySem.Str:=["one","other"]
abbrev Fy:List PySem.Str:=["items","views"]
abbrev MS:List PySem.Str:=["items","views","place","others"]
abbrev G1:List PySem.Str:=["items","views","start","stop"]
abbrev tL:List PySem.Str:=["rows","sheet"]
abbrev MT:List PySem.Str:=["state","sheet","items"]
abbrev OR:List PySem.Str:=["rows","sheet","place","items"]
abbrev Su:List PySem.Str:=["rows","sheet","start","stop"]
abbrev Sv:List PySem.Str:=["rows","sheet","start","stop","to"]
abbrev m8:List PySem.Str:=["_law_rows","_law_sheet"]
abbrev MU:List PySem.Str:=["_law_rows","_law_entry"]
abbrev VI:List PySem.Str:=["_law_rows","_law_sheet","_law_place","_law_new"]
abbrev VJ:List PySem.Str:=["_law_rows","_law_sheet","_law_start","_law_stop"]
abbrev MV:List PySem.Str:=["_law_rows","_law_sheet","_law_entries"]
abbrev DE:List PySem.Str:=["_law_src_here","_law_base"]
abbrev MW:List PySem.Str:=["_law_src_here","_law_world_here"]
abbrev VL:List PySem.Str:=["_law_src_here","_law_sheet","_law_room"]
abbrev VM:List PySem.Str:=["_law_world_here","_law_deed_here"]
abbrev MX:List PySem.Str:=["_law_world_here","_law_rows"]
abbrev VN:List PySem.Str:=["_law_house","_law_deed_here"]
abbrev Sw:List PySem.Str:=["_law_src_here","_law_world_here","_law_house"]
abbrev dX:=@List.length_append.{0}
abbrev cS:=@List.length_map.{0,0}
abbrev kT:=@List.map_append.{0,0}
abbrev jz:=@Nat.le_refl
abbrev sF:=@List.mem_cons_of_mem.{0}
abbrev vE:=@PySem.F.plainAttrs_list
abbrev qC:=@List.length_cons.{0}
abbrev vn:=@List.mem_of_getElem?.{0}
abbrev vF:=@List.length_singleton.{0}
abbrev vo:=@Bool.false_ne_true
abbrev oJ:=@List.getElem?_eq_getElem.{0}
abbrev jV:=@List.size_toArray.{0}
abbrev jK:=@List.length_take.{0}
abbrev qj:=@PySem.F.slot_list_append
abbrev qm:=@PySem.F.type_list_append
abbrev j3:=@List.getElem?_map.{0,0}
abbrev lR:=@List.take_length.{0}
abbrev kW:=@List.append_nil.{0}
abbrev mZ:=@List.flatMap_cons.{0,0}
abbrev sG:=@List.concat_eq_append.{0}
abbrev kX:=@Nat.le_of_lt
abbrev uy:=@List.mem_append_right.{0}
abbrev uz:=@List.eq_nil_or_concat.{0}
abbrev lS:=@Nat.le_trans
abbrev oK:=@List.map_cons.{0,0}
abbrev qZ:=@List.foldl_cons.{0,0}
abbrev tX:=@List.append_assoc.{0}
abbrev A9:=@PyProof.Rows.boot_isinstance
abbrev xP:=@List.take_of_length_le.{0}
abbrev xQ:=@PyProof.Rows.boot_list
abbrev vp:=@Nat.lt_of_lt_of_le
abbrev wY:=@List.getLast?_concat.{0}
abbrev qo:=@Nat.ne_of_lt
abbrev xR:=@List.mem_append_left.{0}
abbrev vq:=@List.length_drop.{0}
abbrev uA:=@List.length_nil.{0}
abbrev vG:=@Option.some.inj.{0}
abbrev yC:=@List.mem_cons_self.{0}
abbrev BR:=@List.drop_of_length_le.{0}
noncomputable section
namespace PySem.W.Fast
def tw3681141718901969160:=0
def tw17971701629339505586:=0
def tw9679217975633492021:=0
def tw16523690386139292237:=0
def tw15878064904667606481:=0
def tw11406587336567252409:=0
def tw486643635413599626:=0
def tw13537918655675785919:=0
def tw15257924024925493544:=0
def tw2248121727641138065:=0
def tw16935553520897422031:=0
def tw15021208330342006440:=0
def tw9583698134411137657:=0
def tw3305803798474628208:=0
def tw5337853614239429748:=0
def tw6661176203065192739:=0
def tw16504354643887261035:=0
def tw11233262722323583417:=0
def tw7103674883729219591:=0
def tw17663408380035048373:=0
def tw9583881811928259845:=0
def tw13711575685192322816:=0
def tw14265302109704278562:=0
def tw11874410677890609107:=0
def tw9357777829980145376:=0
def tw13247118446583850093:=0
def tw4778715139187059307:=0
def tw16080287518857839200:=0
def tw14035361511054295952:=0
def tw9082661043782455852:=0
def tw1939493194272138250:=0
def tw3626207134555128637:=0
def tw4270913489339947819:=0
def tw11324438949086162132:=0
def tw17485035549384000168:=0
def tw6325619944651333398:=0
def tw9786106904368861128:=0
def tw3618558661637227955:=0
def tw1821584995042164580:=0
def tw10584843611361494522:=0
def tw181182282883265558:=0
def tw6934829526705712456:=0
def tw12684838176659874157:=0
def tw4443117160079827724:=0
def tw14539108037427665811:=0
def tw5472838003150148386:=0
def tw17660973785680936105:=0
def tw11266741105107745266:=0
def tw17815740081171152234:=0
def tw3873208292034757420:=0
def tw17773595097747994267:=0
def tw3401223322477371481:=0
def tw11148011411123410506:=0
def tw14392000992394283496:=0
def tw2943989483064463308:=0
def tw8471519396292025573:=0
def tw1371448347617244549:=0
def tw16140844229425229809:=0
def tw3048377022086288803:=0
def tw1272939017259245581:=0
def tw16123563788219913842:=0
def tw5081421273487983251:=0
def tw150657693843008845:=0
def tw17362398959314226899:=0
def tw1458985123815398347:=0
def tw4943620467301912199:=0
def tw5300430566888086249:=0
def tw16446948524215942408:=0
def tw4982706475389852765:=0
def tw15613710127349508782:=0
def tw12466440029582231566:=0
def tw3255543725967348656:=0
def tw3157417898462994929:=0
def tw9374027448684445628:=0
def tw7549774626871174750:=0
def tw15162167464899546332:=0
def tw17781617388389415127:=0
def tw3012785083925168960:=0
def tw10070838844868526678:=0
def tw1263885014210596711:=0
def tw588854697797505445:=0
def tw17026184507603492878:=0
def tw15026575461410505818:=0
def tw2480303820513453352:=0
def tw9520636621564348028:=0
def tw10534059345430556294:=0
def tw6510747715860624866:=0
def tw13927563582549464807:=0
def tw9378522735981671233:=0
def tw13890815233959649808:=0
def tw10752298794730574309:=0
def tw12478868269347147162:=0
def tw8336077641425002638:=0
def tw12327873055397080578:=0
def tw14590268415879051219:=0
def tw15690301451948106239:=0
def tw5707946730476670226:=0
def tw15347503050800136705:=0
def tw2443589555702338109:=0
def tw2270765536928411805:=0
def tw621212537815284769:=0
def tw137289599102619347:=0
def tw8758589163940976887:=0
def tw6549033123901834439:=0
def tw12462423761795315664:=0
def tw1530923989829865057:=0
def tw15254588530494299382:=0
def tw8691242624539617766:=0
def tw4662768429977635496:=0
def tw7301247894306744697:=0
def tw5098772203333823533:=0
def tw1483452137529805298:=0
def tw1934413754344101107:=0
def tw17737459353361538576:=0
def tw12455742439818226650:=0
def tw17817791032465981767:=0
def tw833426703037592722:=0
def tw14938694915871853723:=0
def tw3402144309072210626:=0
def tw6235428617688348570:=0
def tw16422394771969011970:=0
def tw11598915068576188830:=0
def tw10292417032744158796:=0
def tw1390156903307092605:=0
def tw6330787325567664532:=0
def tw3563861766802854114:=0
def tw12461876228497356127:=0
def tw2372761291890433620:=0
def tw2718519350886878769:=0
def tw18108202753031113234:=0
def tw12610626121212398899:=0
def tw4179024053790492318:=0
def tw11353104769978410283:=0
def tw16442110735797121281:=0
def tw5101654472841930293:=0
def tw8603673012410113118:=0
def tw15327373969421646470:=0
def tw14004853259596317497:=0
def tw2116578911436887058:=0
def tw5010251903388290534:=0
def tw16469613022936365387:=0
def tw821401257368021803:=0
def tw877497594262259120:=0
def tw18259245517106393215:=0
def tw17014600601232176557:=0
def tw14168630157703678958:=0
def tw7024380567329411582:=0
def tw13833420050531072257:=0
def tw557434383667568023:=0
def tw4446178581404165846:=0
def tw14686607360370952634:=0
def tw2393830521273664915:=0
def tw3233857287453410835:=0
def tw14527945689071545966:=0
def tw16764318353751519960:=0
def tw9471508364856200098:=0
def tw4789501060392832179:=0
def tw10729954185237123200:=0
def tw8549708754348007567:=0
def tw14559717355608813832:=0
def tw12130635919749393276:=0
def tw17261715029205119992:=0
def tw2905840003513370374:=0
def tw7493129644480083913:=0
def tw1543805180294726405:=0
def tw1052022001464727377:=0
def tw18285078001565612013:=0
def tw6651838890324223887:=0
def tw9335908215620337985:=0
def tw865497752331297072:=0
def tw3839724797953349143:=0
def tw5420138640663456375:=0
def tw11106002822517307139:=0
def tw1796540192248565102:=0
def tw5008075864944273531:=0
def tw11963869835180182990:=0
def tw14138413651651318697:=0
def tw9931385627645309215:=0
def tw17896981669385557132:=0
def tw714161912018392161:=0
def tw5979088815975157215:=0
def tw6888689852811303696:=0
def tw15816567047413522180:=0
def tw14265072506689818688:=0
def tw13022994627685144013:=0
def tw16239973357311466533:=0
def tw12696165243067183974:=0
def tw5757357713519739032:=0
def tw1870782431839290302:=0
def tw14197171831250962898:=0
def tw9226504640700716363:=0
def tw18441892965539793928:=0
def tw17696657307889948873:=0
def tw3069525356707234668:=0
def tw6528917039350920083:=0
def tw9766998475222746281:=0
def tw8249775040878771773:=0
def tw14473339328964365105:=0
def tw14476935189066859911:=0
def tw695341578554025252:=0
def tw3067544577856680607:=0
def tw11594782546092714889:=0
def tw2931044878773560793:=0
def tw8297771752963685882:=0
def tw7616027554068141115:=0
def tw6226354806521624884:=0
def tw14338006810032034837:=0
def tw4954774739729077274:=0
def tw4401362913865352554:=0
def tw13266575981429162284:=0
def tw10998186739180571194:=0
def tw13138417892606462220:=0
def tw2647085082144845542:=0
def tw14936838842064265880:=0
def tw9442969730726206337:=0
def tw10829039902688998795:=0
def tw4285817135076105407:=0
def tw11555945103982554404:=0
def tw14115856893717339551:=0
def tw3868999345909748885:=0
def tw10748836043794165018:=0
def tw18224836937130157243:=0
def tw11409700934435867026:=0
def tw6446880827369312997:=0
def tw2934706550004733224:=0
def tw14732991053709530473:=0
def tw12993387674629670523:=0
def tw10614074482028105958:=0
def tw11738317629332639984:=0
def tw2796922948386906021:=0
def tw11779250024458641596:=0
def tw9133678097311993894:=0
def tw8250149225712989590:=0
def tw15938123819381978389:=0
def tw8724515480385535504:=0
def tw7609255886746526576:=0
def tw10381968300893419696:=0
def tw13626090475516938388:=0
def tw7604789404619219327:=0
def tw16848626052669359734:=0
def tw7630197426762275673:=0
def tw6151610175790909077:=0
def tw511673368380784139:=0
def tw6251508187806659226:=0
def tw17382968956554867442:=0
def tw980461995159861324:=0
def tw10287539008984198337:=0
def tw7321298735565751797:=0
def tw18351556307095382740:=0
def tw1117282224592664627:=0
def tw423791477368663032:=0
def tw15770687357128402116:=0
def tw3587478375175506653:=0
def tw9196032523730592861:=0
def tw12043386474287775567:=0
def tw7211154848569250945:=0
def tw5638012659653063609:=0
def tw403575183557151482:=0
def tw3982874120216209576:=0
def tw17342444177691477266:=0
def tw11912723874982899310:=0
def tw7445025830805246685:=0
def tw9577309068655544864:=0
def tw4563450456773553944:=0
def tw16324025950266198454:=0
def tw16956490644590486093:=0
def tw14720991743980594537:=0
def tw1559896285942686822:=0
def tw15492936742018496987:=0
def tw5375299226030032776:=0
def tw15294659557553587669:=0
def tw5790514149597703151:=0
def tw6443403509351528677:=0
def tw6988379613789957482:=0
def tw96804447208704635:=0
def tw15547582976568192528:=0
def tw9848373085882210094:=0
def tw61117712695092505:=0
def tw446560328673660824:=0
def tw13110224562822807945:=0
def tw13544803846488995221:=0
def tw2398210115770147191:=0
def tw8354576565887018003:=0
def tw9208842171974982452:=0
def tw7928215928097077660:=0
def tw8159921421868134745:=0
def tw13974361072228499933:=0
def tw13938934984658816349:=0
def tw14807351842877980305:=0
def tw2465376936099177462:=0
def tw13593625096832333018:=0
def tw7650558436065529813:=0
def tw13014985459688525686:=0
def tw6627252772515314549:=0
def tw1798612947967371453:=0
def tw16157738783625197030:=0
def tw935088352732975786:=0
def tw8115184245431964503:=0
def tw6207605978686822797:=0
def tw8193786042275848880:=0
def tw166074736111528627:=0
def tw15876001367291335349:=0
def tw15612686598641313603:=0
def tw14355624581554711391:=0
def tw9356403931712060433:=0
def tw14118130080492701533:=0
def tw6673395885969331660:=0
def tw18384117929643543574:=0
def tw4684629206338429668:=0
def tw9042169553183965709:=0
def tw1620832853331334566:=0
def tw86039376326653849:=0
def tw17556643644093427520:=0
def tw15177777576437104748:=0
def tw17054503410370241516:=0
def tw3882981330004415265:=0
def tw14276185369154496856:=0
def tw16033287240948282177:=0
def tw14033123303051261022:=0
def tw6527973367319284857:=0
def tw3183188714273814482:=0
def tw7696337784487927762:=0
def tw11839255184246488104:=0
def tw3059095215457592826:=0
def tw6255559803139771640:=0
def tw17786652445120150558:=0
def tw7610399870975969528:=0
def tw12958702377207684581:=0
def tw7267823056293350514:=0
def tw17474355543583155856:=0
def tw3003119282355888537:=0
def tw13511598005266768843:=0
def tw2225072183787667922:=0
def tw12867950062435541047:=0
def tw9759953101104233599:=0
def tw12541861951269883290:=0
def tw10700944253187285217:=0
def tw1408403386407919039:=0
def tw659991974826413378:=0
def tw8595291312216242794:=0
def tw18352339943961740775:=0
def tw5660192862522673706:=0
def tw9846838060301704965:=0
def tw17193266816365850873:=0
def tw1718679931446375004:=0
def tw10132329306956202558:=0
def tw11552926741517647838:=0
def tw18441465945947357990:=0
def tw7538842295981458265:=0
def tw17244408234559086661:=0
def tw12939755828912064301:=0
def tw1080935387304240526:=0
def tw4648405046403235034:=0
def tw14287952409156219576:=0
def tw13616244512808284210:=0
def tw240690762616102555:=0
def tw10291013698773103075:=0
def tw13681872390682223678:=0
def tw18033070636032975332:=0
def tw14440128132990125514:=0
def tw4940061156339078571:=0
def tw12327596623489067319:=0
def tw3989846930278089781:=0
def tw11382469855511891324:=0
def tw7691139860532408436:=0
def tw10633393656234470880:=0
def tw17712167202549319510:=0
def tw17745956922577065044:=0
def tw3983636037441868825:=0
def tw3875849321687649482:=0
def tw9011884888503634034:=0
def tw4487812623278460831:=0
def tw1425037619735250411:=0
def tw5371202115564093242:=0
def tw12281884844894132319:=0
def tw4451246908237844651:=0
def tw13646575041372034524:=0
def tw10576951010109352674:=0
def tw1526303940152795842:=0
def tw15851274525868036998:=0
def tw16555450085504206801:=0
def tw10959430670199585970:=0
def tw6594627723224136542:=0
def tw7390848558790047740:=0
def tw12842284071840684559:=0
def tw4343314722826481339:=0
def tw341967187593825639:=0
def tw7851651366173412966:=0
def tw16312398041997776248:=0
def tw4306186831438839164:=0
def tw5164585012672129747:=0
def tw17756967792257813898:=0
def tw16676095703127561634:=0
def tw6300769974762946917:=0
def tw10294441911595711805:=0
def tw2967124856781268019:=0
def tw10610022338321924511:=0
def tw4093952551093766043:=0
def tw15532821076507265024:=0
def tw17373510586233310107:=0
def tw11510126728440587883:=0
def tw4403403696585589028:=0
def tw17485405920996894277:=0
def tw5241575402935391333:=0
def tw1196006876912536390:=0
def tw15893258788157858339:=0
def tw8168733037772349279:=0
def tw5041100082660690665:=0
def tw15118426645705666536:=0
def tw565699577377336192:=0
def tw5263344294606949690:=0
def tw15500126244182117635:=0
def tw609913654784007992:=0
def tw9859758010198181224:=0
def tw1321728317028897177:=0
def tw6737895659625663098:=0
def tw8585014365149035981:=0
def tw13208740889866141135:=0
def tw6978441787362838610:=0
def tw17984202854481209092:=0
def tw15948601933432177860:=0
def tw17811457573856236749:=0
def tw8484247601691397106:=0
def tw16231505656219939540:=0
def tw3329251794168973471:=0
def tw2372387780884657801:=0
def tw10323168870418163343:=0
def tw6812994374532299204:=0
def tw15176166873415267632:=0
def tw11373793953121561258:=0
def tw17478942797854344098:=0
def tw12818625225823230697:=0
def tw16479516606875227394:=0
def tw5121746812760101317:=0
def tw17861252323218042136:=0
def tw11882780331259483856:=0
def tw8275700051270541068:=0
def tw3314780075659137004:=0
def tw1537858552806787621:=0
def tw11796785886886726084:=0
def tw15666558809308680556:=0
def tw7281783558156989089:=0
def tw11891673905494806410:=0
def tw10279982059737008102:=0
def tw15609106596148556348:=0
def tw13642647903892309559:=0
def tw10341270147295836107:=0
def tw8649991917042582098:=0
def tw9777451128684797028:=0
def tw1771396985220464859:=0
def tw12547686629196937814:=0
def tw12935686507559426998:=0
def tw4786427169921381218:=0
def tw5394590173931838817:=0
def tw3761245737412857498:=0
def tw613400893356792508:=0
def tw11822780203358173552:=0
def tw8531325360171228569:=0
def tw551670339357225128:=0
def tw17545537293709897099:=0
def tw13908851011463345709:=0
def tw8409460483816983123:=0
def tw5884231131235586661:=0
def tw14806487253782586316:=0
def tw16268983522026096026:=0
def tw11328369113543474824:=0
def tw7647448323270834791:=0
def tw8676076343408680673:=0
def tw1153350605592734514:=0
def tw10492659120199132629:=0
def tw7067961512820363498:=0
def tw7761543534348303427:=0
def tw10837810268802627469:=0
def tw14789109143447797892:=0
def tw14506170253058532278:=0
def tw8467067527463272115:=0
def tw3287849876012492693:=0
def tw16089011913194018104:=0
def tw7110541764243003281:=0
def tw8340961659139184024:=0
def tw8497875411950443554:=0
def tw7499341251520432436:=0
def tw9596326100875780189:=0
def tw18034521298901153210:=0
def tw4933925832389284784:=0
def tw1474974116984919176:=0
def tw536673381836210093:=0
def tw14815611828837684226:=0
def tw1962040046161604388:=0
def tw14401291804182093713:=0
def tw10370746342144878536:=0
def tw5502455474421790660:=0
def tw11173354580077970516:=0
def tw13221557452779130630:=0
def tw3997991628244334931:=0
def tw6976180528421072290:=0
def tw12616770578493376336:=0
def tw12128952439658591360:=0
def tw17127305715282340758:=0
def tw3511955736752646052:=0
def tw6292663018689815662:=0
def tw6873312898131539158:=0
def tw5930944391924522088:=0
def tw1003691898822163656:=0
def tw14207160048590139685:=0
def tw17792139196598420292:=0
def tw1602063606578814292:=0
def tw13548327434474601967:=0
def tw17558637035750819414:=0
def tw15604023586720510227:=0
def tw14512796770222285286:=0
def tw16702190944002770768:=0
def tw4699873579580485151:=0
def tw14066467792367878856:=0
def tw17033153015779720063:=0
def tw2898226049073671332:=0
def tw7788848787533413816:=0
def tw11502327274901286432:=0
def tw13795617146341244884:=0
def tw9894221064179167946:=0
def tw12351462485633441192:=0
def tw6432307995883066624:=0
def tw1241860239687736326:=0
def tw13674660704688686948:=0
def tw11937822171340518563:=0
def tw8845699277353024163:=0
def tw10858472027302903279:=0
def tw17299657687127803787:=0
def tw6001016353942059607:=0
def tw6982086929903136634:=0
def tw18274700834469220407:=0
def tw1087347841686660132:=0
def tw10470207817513809328:=0
def tw9520985478348772420:=0
def tw779967682136564310:=0
def tw6989149875762172436:=0
def tw12321931114330696823:=0
def tw871869762158730695:=0
def tw13157841781671144568:=0
def tw16325410281642382203:=0
def tw15683461259885378491:=0
def tw16064891171002392487:=0
def tw2345165775865400151:=0
def tw11295130902659736531:=0
def tw14254250448531675599:=0
def tw10313147955249818825:=0
def tw15407113010248131703:=0
def tw1607698722192808811:=0
def tw12571225357890544504:=0
def tw16564433381226431509:=0
def tw299065315566601781:=0
def tw15529292114255975851:=0
def tw9588614630784365727:=0
def tw4091837855350438178:=0
def tw4204609462820224986:=0
def tw1726530144699314942:=0
def tw11258562392647208122:=0
def tw2333511112156178036:=0
def tw17240848002723997233:=0
def tw6873875434404923321:=0
end PySem.W.Fast
end
namespace InkHd
open PySem PySem.W PyProof.Rows
set_option maxRecDepth 100000 in
set_option maxHeartbeats 0 in
open_top hd_k47 for PySem.Challenge.rw_inkroot_k47_fix
end InkHd
open PySem
namespace L2
open PySem.Spec PyProof.Rows
abbrev iz:=Sum Int Str
def BS:iz->Value->Bool
 | .inl k,v=>Value.isInt k v
 | .inr x,v=>Value.isStrOf x v
def abC(w:World):iz->Int
 | .inl k=>hashInt k
 | .inr x=>hashStr w x
theorem iA:∀ {k:iz} {v:Value},BS k v=true->(∃ i t,k=Sum.inl i/\v=Value.int i t)\/(∃ x t,k=Sum.inr x/\v=Value.str x t)
 | .inl i,v,h=>by
  obtain⟨t,e⟩:=Value.isInt_shape (k:=i) (v:=v) h;exact .inl ⟨i,t,rfl,e⟩
 | .inr x,v,h=>by
  obtain⟨t,e⟩:=Value.isStrOf_shape (x:=x) (v:=v) h;exact .inr ⟨x,t,rfl,e⟩
theorem MY(i:Int)(t:Tok):BS (.inl i) (.int i t)=true:=by simp[BS,Value.isInt]
theorem MZ(x:Str)(t:Tok):BS (.inr x) (.str x t)=true:=by simp[BS,Value.isStrOf]
theorem VO(a b:Int):decide ((Sum.inl a:iz)=Sum.inl b)=(a == b):=by
 by_cases e:a=b
 ·subst e;simp
 ·have h:¬ (Sum.inl a:iz)=Sum.inl b:=λq=>e (Sum.inl.inj q);rw[decide_eq_false h];exact (beq_eq_false_iff_ne.mpr e).symm
theorem VP(a b:Str):decide ((Sum.inr a:iz)=Sum.inr b)=decide (a=b):=by
 by_cases e:a=b
 ·subst e;simp
 ·have h:¬ (Sum.inr a:iz)=Sum.inr b:=λq=>e (Sum.inr.inj q);rw[decide_eq_false h,decide_eq_false e]
theorem VQ(a:Int)(b:Str):decide ((Sum.inl a:iz)=Sum.inr b)=false:=decide_eq_false (λq=>nomatch q)
theorem VR(a:Str)(b:Int):decide ((Sum.inr a:iz)=Sum.inl b)=false:=decide_eq_false (λq=>nomatch q)
def iY(prog:Program)(w:World):PySem.KeyKind prog w iz where
 is:=BS
 hash:=abC w
 inj:=λv a b ha hb=>by
  rcases iA ha with ⟨i,t,rfl,rfl⟩|⟨x,t,rfl,rfl⟩
  ·rcases iA hb with ⟨j,u,rfl,e⟩|⟨y,u,rfl,e⟩
   ·injection e with e1 _;rw[e1]
   ·exact nomatch e
  ·rcases iA hb with ⟨j,u,rfl,e⟩|⟨y,u,rfl,e⟩
   ·exact nomatch e
   ·injection e with e1 _;rw[e1]
 byValue:=λk v h=>by
  rcases iA h with ⟨i,t,rfl,rfl⟩|⟨x,t,rfl,rfl⟩ <;> rfl
 pyHash:=λhv h=>by
  rcases iA hv with ⟨i,t,rfl,rfl⟩|⟨x,t,rfl,rfl⟩
  ·exact wpAny_pyHash_int h
  ·exact wpAny_pyHash_str h
 eqBool:=λhu hv h=>by
  rcases iA hu with ⟨i,t,rfl,rfl⟩|⟨x,t,rfl,rfl⟩
  ·rcases iA hv with ⟨j,u,rfl,rfl⟩|⟨y,u,rfl,rfl⟩
   ·rw[VO]at h;exact wpAny_eqBool_int h
   ·rw[VQ]at h;exact SeqAt.EqAt.int_str i t y u _ _ _ _ h
  ·rcases iA hv with ⟨j,u,rfl,rfl⟩|⟨y,u,rfl,rfl⟩
   ·rw[VR]at h;exact SeqAt.EqAt.str_int x t j u _ _ _ _ h
   ·rw[VP]at h;exact wpAny_eqBool_str h
 «strs»:=λk x t v h=>by
  rcases iA h with ⟨i,u,rfl,e⟩|⟨y,u,rfl,e⟩
  ·exact nomatch e
  ·injection e with e1 _;subst e1
   cases v <;> rfl
theorem G2(prog:Program)(w:World)(i:Int)(t:Tok):(iY prog w).is (.inl i) (.int i t)=true:=MY i t
theorem G3(prog:Program)(w:World)(x:Str)(t:Tok):(iY prog w).is (.inr x) (.str x t)=true:=MZ x t
end L2
namespace L2
open PySem.Spec PyProof.Rows
inductive V where
 | jm | bl (b:Bool) | int (i:Int) | str (x:Str) | JK (b:Array UInt8) | UD (b:UInt64) | ref (a:Addr) | ty (n:String)
 deriving DecidableEq
def RelV:V->Value->Prop
 | .jm,u=>u=Value.none
 | .bl b,u=>u=Value.bool b
 | .int i,u=>∃ t,u=Value.int i t
 | .str x,u=>∃ t,u=Value.str x t
 | .JK b,u=>∃ t,u=Value.bytes b t
 | .UD b,u=>∃ t,u=Value.float b t
 | .ref a,u=>u=Value.ref a
 | .ty n,u=>u=Value.type n
abbrev cG:List V->List Value->Prop:=Paired RelV
theorem cG.length{xs:List V}{us:List Value}(r:cG xs us):xs.length=us.length:=Paired.length r
theorem cG.get:∀ {xs:List V} {us:List Value} {i:Nat} {x:V},cG xs us->xs[i]?=some x->∃ u,us[i]?=some u/\RelV x u
 | _,_,_,_,.nil,e=>by simp at e
 | _,_,0,_,.cons r _,e=>by simp at e;subst e;exact⟨_,rfl,r⟩
 | _,_,i+1,x,.cons _ t,e=>by
  obtain⟨u,h1,h2⟩:=cG.get (i:=i) (x:=x) t (by simpa using e);exact⟨u,by simpa using h1,h2⟩
theorem cG.set{x:V}{u:Value}(r:RelV x u):∀ {xs:List V} {us:List Value} (i:Nat),cG xs us->cG (xs.set i x) (us.set i u)
 | _,_,_,.nil=>.nil
 | _,_,0,.cons _ t=>.cons r t
 | _,_,i+1,.cons q t=>.cons q (cG.set r i t)
theorem cG.append{xs ys:List V}{us ws:List Value}(h:cG xs us)(s:cG ys ws):cG (xs++ys) (us++ws):=by
 induction h with
 | nil=>exact s
 | cons r _ ih=>exact .cons r ih
theorem cG.take:∀ {xs:List V} {us:List Value} (n:Nat),cG xs us->cG (xs.take n) (us.take n)
 | _,_,0,_=>.nil
 | _,_,_+1,.nil=>.nil
 | _,_,n+1,.cons r t=>.cons r (cG.take n t)
theorem cG.drop:∀ {xs:List V} {us:List Value} (n:Nat),cG xs us->cG (xs.drop n) (us.drop n)
 | _,_,0,r=>r
 | _,_,_+1,.nil=>.nil
 | _,_,n+1,.cons _ t=>cG.drop n t
def wZ:Option V->Option Value->Prop
 | some v,some u=>RelV v u
 | none,none=>True
 | _,_=>False
def KV{κ:Type}:List (κ × V)->List (κ × Value)->Prop:=Paired λ(p:κ × V) (q:κ × Value)=>p.1=q.1/\RelV p.2 q.2
def kV:iz->V
 | .inl i=>.int i
 | .inr x=>.str x
inductive HO where
 | lst (xs:List V)
 | tup (xs:List V)
 | dK (kvs:List (iz × V)) | dT (kvs:List (List iz × V))
 | set (S:Int->Bool) (n:Nat)
 | ins (C dx:Addr) (fs:List (Str × V))
 | own (x:Addr)
 | xd (fs:List (Str × V))
 | met (f x:Addr)
 | GX (lo hi:Int)
 | JL (o:Obj) (u:HO)
 | Sx (ps:Array Value)
 | ext (φ:Heap->Prop)
abbrev Hp:=Addr->Option HO
def aQ(H:Hp)(a:Addr)(o:HO):Hp:=λb=>if b=a then some o else H b
theorem af{H:Hp}{a:Addr}{o:HO}:aQ H a o a=some o:=by unfold aQ;rw[if_pos rfl]
theorem aL{H:Hp}{a b:Addr}{o:HO}(h:b≠a):aQ H a o b=H b:=by unfold aQ;rw[if_neg h]
theorem eL{H:Hp}{a b:Addr}{o u:HO}(h:H a=some o)(h':H b=some u)(d:o≠u:=by intro z;cases z):a≠b:=by
 intro e;subst e;rw[h]at h';exact d (vG h')
theorem az{H:Hp}{a b:Addr}{o:HO}(h:H a=some o)(h':H b=none):a≠b:=by
 intro e;subst e;rw[h]at h';cases h'
section
variable (P:Program) (w:World)
def iZ(H:Hp)(h:Heap)(a:Addr):HO->Prop
 | .lst xs=>xs.length<=sizeLine/\∃ (aP:List Value) (n:Nat),cG xs aP/\h.get? a=some { cls:=.type "list",data:=.seq aP.toArray n }
 | .tup xs=>xs.length<=sizeLine/\∃ aP:List Value,cG xs aP/\IsTup h a aP.toArray
 | .dK kvs=>kvs.length<=sizeLine/\(a == sysModules)=false/\∃ vs,KV kvs vs/\h.DictOf (iY P w) a vs
 | .dT kvs=>kvs.length<=sizeLine/\(a == sysModules)=false/\∃ xs:List (List iz × Addr × Value),
   Paired (λ(p:List iz × V) (q:List iz × Addr × Value)=>p.1=q.1/\H q.2.1=some (.tup (p.1.map kV))/\RelV p.2 q.2.2) kvs xs/\
   ∃ o es ep,h.get? a=some o/\o.ExactDict/\o.data=.dict es ep/\es.toList=xs.map (entryOfKey (tupleKind (iY P w)))/\(xs.map (·.1)).Nodup
 | .set S n=>h.SetOf (intKind P w) a S n
 | .ins C dx fs=>H dx=some (.own a)/\fs.length<=1000/\dx≠a/\h.get? a=some (PySem.W.instObj C dx)/\
   ∃ mA,h.Ns1 dx mA/\(∀ f,wZ (fs.lookup f) (mA f))/\PySem.Within mA (fs.map (·.1))
 | .own _=>∃ o,h.get? a=some o
 | .xd fs=>∃ mA,h.Ns1 a mA/\∀ f,wZ (fs.lookup f) (mA f)
 | .GX lo hi=>∃ t u v,h.get? a=some { cls:=.type "range",data:=.fields #[.int lo t,.int hi u,.int 1 v] }
 | .JL o u=>h.get? a=some o/\iZ H h a u
 | .Sx ps=>h.get? a=some { cls:=.none,data:=.fields ps }
 | .met f x=>h.get? a=some (PySem.W.methodObj (.ref f) (.ref x))
 | .ext φ=>φ h/\(∃ o,h.get? a=some o)/\∀ h1 h2:Heap,φ h1->(∀ o,h1.get? a=some o->h2.get? a=some o)->φ h2
def wz(H:Hp)(h:Heap):Prop:=∀ a o,H a=some o->iZ P w H h a o
end
section
variable {P:Program} {w:World} {H H':Hp} {h h':Heap} {a:Addr} {o:HO}
theorem iZ.lt(x:iZ P w H h a o):a<h.objs.size:=by
 cases o with
 | lst xs=>obtain⟨_,_,_,_,e⟩:=x;exact Heap.lt_size e
 | tup xs=>obtain⟨_,_,_,p⟩:=x;exact p.lt
 | dK kvs=>obtain⟨_,_,_,_,o,_,_,e,_⟩:=x;exact Heap.lt_size e
 | dT kvs=>obtain⟨_,_,_,_,o,_,_,e,_⟩:=x;exact Heap.lt_size e
 | set S n=>obtain⟨o,_,_,_,e,_⟩:=x;exact Heap.lt_size e
 | ins C dx fs=>obtain⟨_,_,_,e,_⟩:=x;exact Heap.lt_size e
 | own y=>obtain⟨_,e⟩:=x;exact Heap.lt_size e
 | xd fs=>obtain⟨_,⟨_,_,_,e,_⟩,_⟩:=x;exact Heap.lt_size e
 | GX lo hi=>obtain⟨_,_,_,e⟩:=x;exact Heap.lt_size e
 | JL ob u=>obtain⟨e,_⟩:=x;exact Heap.lt_size e
 | Sx ps=>exact Heap.lt_size (show h.get? a=some _ from x)
 | met f y=>exact Heap.lt_size (show h.get? a=some _ from x)
 | ext φ=>obtain⟨_,⟨_,e⟩,_⟩:=x;exact Heap.lt_size e
theorem Paired.JM{α β:Type}{F G:α->β->Prop}{l₁:List α}{l₂:List β}(h:Paired F l₁ l₂)(f:∀ a b,F a b->G a b):Paired G l₁ l₂:=by
 induction h with
 | nil=>exact .nil
 | cons r _ ih=>exact .cons (f _ _ r) ih
theorem iZ.stay(x:iZ P w H h a o)(k:∀ b u,(b=a\/H b=some (.own a))->h.get? b=some u->h'.get? b=some u)
  (ho:∀ b,H b=some (.own a)->H' b=some (.own a)) (ht:∀ b xs,H b=some (.tup xs)->H' b=some (.tup xs)):iZ P w H' h' a o:=by
 induction o with
 | lst xs=>obtain⟨z,aP,n,r,e⟩:=x;exact⟨z,aP,n,r,k _ _ (.inl rfl) e⟩
 | tup xs=>obtain⟨z,aP,r,ob,e,c⟩:=x;exact⟨z,aP,r,ob,k _ _ (.inl rfl) e,c⟩
 | dK kvs=>obtain⟨z,y,vs,r,ob,es,ep,e,c⟩:=x;exact⟨z,y,vs,r,ob,es,ep,k _ _ (.inl rfl) e,c⟩
 | dT kvs =>
  obtain⟨z,y,xs,r,ob,es,ep,e,c⟩:=x;exact⟨z,y,xs,Paired.JM r λp q z=>⟨z.1,ht _ _ z.2.1,z.2.2⟩,ob,es,ep,k _ _ (.inl rfl) e,c⟩
 | set S n=>obtain⟨ob,es,ep,t,e,c⟩:=x;exact⟨ob,es,ep,t,k _ _ (.inl rfl) e,c⟩
 | ins C dx fs =>
  obtain⟨d,z,ne,e,mA,⟨od,es,ep,e2,c⟩,r⟩:=x;exact⟨ho _ d,z,ne,k _ _ (.inl rfl) e,mA,⟨od,es,ep,k _ _ (.inr d) e2,c⟩,r⟩
 | own y=>obtain⟨ob,e⟩:=x;exact⟨ob,k _ _ (.inl rfl) e⟩
 | xd fs=>obtain⟨mA,⟨od,es,ep,e,c⟩,r⟩:=x;exact⟨mA,⟨od,es,ep,k _ _ (.inl rfl) e,c⟩,r⟩
 | GX lo hi=>obtain⟨t,u,v,e⟩:=x;exact⟨t,u,v,k _ _ (.inl rfl) e⟩
 | JL ob u ih=>obtain⟨e,q⟩:=x;exact⟨k _ _ (.inl rfl) e,ih q⟩
 | Sx ps =>
  have e:h.get? a=some { cls:=.none,data:=.fields ps }:=x;show h'.get? a=some { cls:=.none,data:=.fields ps };exact k a _ (.inl rfl) e
 | met f y =>
  have e:h.get? a=some (PySem.W.methodObj (.ref f) (.ref y)):=x;show h'.get? a=some (PySem.W.methodObj (.ref f) (.ref y));exact k a _ (.inl rfl) e
 | ext φ=>obtain⟨p,⟨o,e⟩,st⟩:=x;exact⟨st _ _ p λo q=>k _ _ (.inl rfl) q,⟨o,k _ _ (.inl rfl) e⟩,st⟩
theorem wz.lt(x:wz P w H h)(e:H a=some o):a<h.objs.size:=(x a o e).lt
theorem wz.fresh(x:wz P w H h)(e:h.objs.size<=a):H a=none:=by
 cases q:H a with
 | none=>rfl
 | some u=>exact absurd (vp (x.lt q) e) (Nat.lt_irrefl _)
theorem wz.kept(x:wz P w H h)(k:∀ b u,h.get? b=some u->h'.get? b=some u):wz P w H h':=λa o e =>
 (x a o e).stay (λb u _ q=>k b u q) (λ_ q=>q) λ_ _ q=>q
theorem wz.laid(x:wz P w H h)(k:∀ b u,h.get? b=some u->h'.get? b=some u)(hp:h.objs.size<=a)(new:iZ P w (aQ H a o) h' a o):wz P w (aQ H a o) h':=λb u e=>by
 have hn:=x.fresh hp;by_cases hb:b=a
 ·subst hb;rw[af]at e;cases e;exact new
 ·rw[aL hb]at e;exact (x b u e).stay (λc v _ q=>k c v q) (λc q=>by rw[aL (az q hn)];exact q) λc xs q=>by rw[aL (az q hn)];exact q
end
def Rd(H:Hp)(a:Addr)(u:HO):Prop:=H a=some u\/∃ o,H a=some (.JL o u)
theorem Rd.ok{P:Program}{w:World}{H:Hp}{h:Heap}{a:Addr}{u:HO}(r:Rd H a u)(x:wz P w H h):iZ P w H h a u:=by
 rcases r with r|⟨o,r⟩
 ·exact x a u r
 ·obtain⟨_,q⟩:=x a _ r;exact q
def Yu:Option HO->Prop
 | some (.lst _)=>True
 | some (.dK _)=>True
 | some (.dT _)=>True
 | some (.set _ _)=>True
 | some (.ins _ _ _)=>True
 | some (.ext _)=>True
 | _=>False
section
variable {P:Program} {w:World} {H:Hp} {h h':Heap} {x e:Addr} {o':HO}
theorem wz.write(ok:wz P w H h)(mu:Yu (H x))(he:e=x\/H e=some (.own x))(k:∀ b u,b≠e->h.get? b=some u->h'.get? b=some u)(X0:∃ u,h'.get? e=some u)
  (new:iZ P w (aQ H x o') h' x o'):wz P w (aQ H x o') h':=λb u q=>by
 have Yv:∀ c y,H c=some (.own y)->c≠x:=λc y r z=>by subst z;rw[r]at mu;exact mu
 have abD:∀ c xs,H c=some (.tup xs)->c≠x:=λc xs r z=>by subst z;rw[r]at mu;exact mu
 by_cases hb:b=x
 ·subst hb;rw[af]at q;cases q;exact new
 ·rw[aL hb]at q;by_cases VS:b=e
  ·have q':H b=some (.own x):=by
    rcases he with z|z
    ·exact absurd (VS.trans z) hb
    ·rw[VS];exact z
   rw[q]at q';cases q';obtain⟨v,hv⟩:=X0;exact⟨v,by rw[VS];exact hv⟩
  ·refine (ok b u q).stay (λc v hc r=>k c v ?_ r) (λc r=>by rw[aL (Yv c b r)];exact r) λc xs r=>by rw[aL (abD c xs r)];exact r
   rcases hc with rfl|hc
   ·exact VS
   ·rintro rfl;rcases he with z|z
    ·exact Yv c b hc z
    ·rw[hc]at z;cases z;exact hb rfl
end
structure Un(fs ex:List Addr)(H H':Hp)(h h':Heap):Prop where
 keep:∀ b o,h.get? b=some o->H b=none->b∉fs->b∉ex->h'.get? b=some o
 slot:∀ b o,h.get? b=some o->H b=none->b∈fs->b∉ex->∃ sl,h'.get? b=some { o with slots:=sl }
 free:∀ b o,h.get? b=some o->H b=none->b∉ex->H' b=none
 there:∀ b o,h.get? b=some o->b∉ex->∃ o',h'.get? b=some o'
 tups:∀ b xs,H b=some (.tup xs)->H' b=some (.tup xs)
 DF:∀ b o u,H b=some (.JL o u)->H' b=some (.JL o u)
 Fz:∀ b ps,H b=some (.Sx ps)->∃ Ba,H' b=some (.Sx (ps++Ba))
section
variable {fs X3 ex ex':List Addr} {H H1 H2:Hp} {h h1 h2 h':Heap} {a x e:Addr} {o:HO}
theorem Un.any(u:Un fs ex H H1 h h1){b:Addr}{ob:Obj}(q:h.get? b=some ob)(n:H b=none)(hx:b∉ex):∃ sl,h1.get? b=some { ob with slots:=sl }:=by
 by_cases hb:b∈fs
 ·exact u.slot b ob q n hb hx
 ·exact⟨ob.slots,u.keep b ob q n hb hx⟩
theorem Un.kept(k:∀ b u,h.get? b=some u->h'.get? b=some u):Un fs ex H H h h' :=
 ⟨λb ob q _ _ _=>k b ob q,λb ob q _ _ _=>⟨ob.slots,k b ob q⟩,λ_ _ _ n _=>n,λb ob q _=>⟨ob,k b ob q⟩,λ_ _ q=>q,λ_ _ _ q=>q,λ_ ps q=>⟨#[],by rw[q];simp⟩⟩
theorem Un.refl:Un fs ex H H h h:=Un.kept λ_ _ q=>q
theorem Un.laid(k:∀ b u,h.get? b=some u->h'.get? b=some u)(hp:h.objs.size<=a)(hn:H a=none):Un fs ex H (aQ H a o) h h' where
 keep:=λb u q _ _ _=>k b u q
 slot:=λb u q _ _ _=>⟨u.slots,k b u q⟩
 free:=λb u q n _=>by rw[aL (qo (vp (Heap.lt_size q) hp))];exact n
 there:=λb u q _=>⟨u,k b u q⟩
 tups:=λb xs q=>by rw[aL (az q hn)];exact q
 DF:=λb u xs q=>by rw[aL (az q hn)];exact q
 Fz:=λb ps q=>⟨#[],by rw[aL (az q hn),q];simp⟩
theorem Un.write(mu:Yu (H x))(he:e=x\/H e=some (.own x))(k:∀ b u,b≠e->h.get? b=some u->h'.get? b=some u)(X0:∃ u,h'.get? e=some u):Un fs ex H (aQ H x o) h h':=by
 have hx:∀ b,H b=none->b≠x:=λb n z=>by subst z;rw[n]at mu;exact mu
 have hb:∀ b,H b=none->b≠e:=λb n z=>by
  subst z;rcases he with r|r
  ·exact hx b n r
  ·rw[n]at r;cases r
 have hm:∀ b u,H b=some u->¬ Yu (some u)->b≠x:=λb u q nm z=>by subst z;rw[q]at mu;exact nm mu
 refine⟨λb u q n _ _=>k b u (hb b n) q,λb u q n _ _=>⟨u.slots,k b u (hb b n) q⟩,λb u q n _=>by rw[aL (hx b n)];exact n,λb u q _=>?_, λb xs q=>by rw[aL (hm b _ q λz=>z)];exact q,λb u xs q=>by rw[aL (hm b _ q λz=>z)];exact q,λb ps q=>⟨#[],by rw[aL (hm b _ q λz=>z),q];simp⟩⟩;by_cases VS:b=e
 ·subst VS;exact X0
 ·exact⟨u,k b u VS q⟩
end
def trk(h:Heap)(H:Hp):List Addr:=(List.range h.objs.size).filter λa=>(H a).isSome
def FA(h:Heap)(H:Hp):Heap:=PySem.W.hideAll h (trk h H)
theorem M0(h:Heap)(H:Hp):(FA h H).objs.size=h.objs.size:=PySem.W.hideAll_size _ _
theorem OS{h:Heap}{H:Hp}{b:Addr}{o:Obj}(e:h.get? b=some o)(n:H b=none):(FA h H).get? b=some o :=
 PySem.W.hideAll_get _ e λhm=>by
  have q:(H b).isSome=true:=(List.mem_filter.mp hm).2;rw[n]at q;simp at q
theorem Sy{h:Heap}{H:Hp}{b:Addr}{o:Obj}(e:(FA h H).get? b=some o):h.get? b=some o/\H b=none:=by
 have e':h.get? b=some o:=PySem.W.of_hideAll (trk h H) e;refine⟨e',?_⟩
 cases q:H b with
 | none=>rfl
 | some x =>
  have hm:b∈trk h H:=List.mem_filter.mpr ⟨List.mem_range.mpr (Heap.lt_size e'),by simp[q]⟩;have z:(FA h H).get? b=none:=PySem.W.hideAll_none (trk h H) hm;rw[z]at e;cases e
end L2
namespace L2
open PySem.Spec PyProof.Rows
structure Mod(K:PySem.W.Frag)(mg:Str->Option Value)(base:Heap):Prop where
 Yw:K.In base
 glob:base.Ns mainGlobals mg
 blt:∃ mb,base.Ns builtinsNs mb/\∀ x:Str,x≠"__name__"->mb x=bootBuiltins x
 nolimit:base.NoLimit
structure Cx where
 prog:Program
 w:World
 K:PySem.W.Frag
 mg:Str->Option Value
 base:Heap
 A:Around
 N:List Str
 s₀:Shared
 H₀:Hp
 env:Env
 outer:List Env
 stack:List Env
 ex:List Addr
 fn:Str->Bool
 calm:Bool
 pn:List (Addr × Obj)
 xe:Value->Shared->Prop
def zA(l:List Env):List Addr:=l.filterMap (·.frame)
abbrev Cx.fs(X:Cx):List Addr:=zA X.outer
def Vis(sc:Scope)(x:Str):Prop:=sc.names.lookup x=some .local\/sc.names.lookup x=some .cell\/sc.names.lookup x=some .free
def Loc(sc:Scope)(x:Str):Prop:=sc.names.lookup x=some .local\/sc.names.lookup x=some .cell
def Look(env:Env)(h:Heap)(m:Str->Option Value)(x:Str)(u:Value):Prop :=
 (env.kindOf x=some .local/\m x=some u)\/((env.kindOf x=some .cell\/env.kindOf x=some .free)/\∃ c,env.cells.lookup x=some c/\h.IsCell c (some u))
structure Cx.Ok(X:Cx):Prop where
 mod:Mod X.K X.mg X.base
 kind:X.env.scope.kind=.function
 glob:X.env.globals=mainGlobals
 blt:X.env.builtins=builtinsNs
 above:X.s₀.heap.objs.size<=X.env.locals
 inj:∀ x y c,X.env.cells.lookup x=some c->X.env.cells.lookup y=some c->x=y
 has:∀ x,(X.env.kindOf x=some .cell\/X.env.kindOf x=some .free)->∃ c,X.env.cells.lookup x=some c
 Yx:∀ x c,X.fn x=true->X.env.cells.lookup x=some c->X.s₀.heap.objs.size<=c
 hd:X.calm=true->X.A.handled=none
 frames:X.A.frames=some X.stack
 stk:X.stack=X.outer\/(X.stack=X.env::X.outer/\X.env.frame=some X.env.locals)
 exf:∀ b∈X.ex,b≠X.env.locals/\∀ x c,X.env.cells.lookup x=some c->c≠b
 bs:∀ b o,X.base.get? b=some o->X.s₀.heap.get? b=some o/\X.H₀ b=none
 UE:X.base.objs.size<=X.s₀.heap.objs.size
 OT:∀ b o,X.base.get? b=some o->b∉X.ex
 Sz:∀ b∈X.ex,b∉X.fs
 yD:X.s₀.heap.FunFrames X.base X.outer
 VT:∀ b∈X.fs,X.H₀ b=none
structure Inv(X:Cx)(ao:List (Addr × Obj))(σ:List (Option V))(H:Hp)(s:Shared):Prop where
 ok:X.Ok
 os:s.os=X.s₀.os
 bare:AllBare s.gens
 base:Un X.fs X.ex X.H₀ H X.s₀.heap s.heap
 loc:∃ m,s.heap.Ns X.env.locals m/\∀ (i:Nat) (x:Str) (v:V),X.N[i]?=some x->σ[i]?=some (some v)->Vis X.env.scope x->∃ u,RelV v u/\Look X.env s.heap m x u
 cell:∀ x c,X.env.cells.lookup x=some c->∃ v,s.heap.IsCell c v
 free:H X.env.locals=none
 xo:∀ x c,X.env.cells.lookup x=some c->H c=none
 pin:∀ p∈X.pn++ao,s.heap.get? p.1=some p.2/\H p.1=none/\p.1≠X.env.locals/\p.1∉X.fs/\∀ v,p.2.data≠.cell v
 hok:wz X.prog X.w H s.heap
 len:σ.length=X.N.length
section
variable {X:Cx} {ao:List (Addr × Obj)} {σ:List (Option V)} {H H':Hp} {s:Shared} {h':Heap}
theorem Cx.Ok.abE(ok:X.Ok){b:Addr}{o:Obj}(e:X.base.get? b=some o):b∉X.fs:=λhb=>by
 have:=(ok.yD.mem hb).1;rw[e]at this;cases this
theorem Inv.bs(I:Inv X ao σ H s):∀ b o,X.base.get? b=some o->s.heap.get? b=some o/\H b=none:=λb o e =>
 ⟨I.base.keep b o (I.ok.bs b o e).1 (I.ok.bs b o e).2 (I.ok.abE e) (I.ok.OT b o e),I.base.free b o (I.ok.bs b o e).1 (I.ok.bs b o e).2 (I.ok.OT b o e)⟩
theorem Inv.bk(I:Inv X ao σ H s):∀ b o,X.base.get? b=some o->s.heap.get? b=some o:=λb o e=>(I.bs b o e).1
theorem Inv.mod(I:Inv X ao σ H s):Mod X.K X.mg X.base:=I.ok.mod
theorem Inv.AJ(I:Inv X ao σ H s):X.K.In s.heap:=I.ok.mod.Yw.keeps I.bk
theorem Inv.lt(I:Inv X ao σ H s):X.env.locals<s.heap.objs.size:=let ⟨_,hn,_⟩:=I.loc;hn.lt
theorem Inv.sz(I:Inv X ao σ H s):X.s₀.heap.objs.size<=s.heap.objs.size:=lS I.ok.above (kX I.lt)
theorem Inv.abF(I:Inv X ao σ H s){a:Addr}(h:s.heap.objs.size<=a):a∉X.fs:=λhb=>by
 obtain⟨_,o,ho,_⟩:=I.ok.yD.mem hb;exact absurd (vp (Heap.lt_size ho) (lS I.sz h)) (Nat.lt_irrefl _)
theorem Inv.VU(I:Inv X ao σ H s):∀ x c,X.env.cells.lookup x=some c->c≠X.env.locals:=λx c e z=>by
 obtain⟨v,o,ho,hd⟩:=I.cell x c e;obtain⟨m,⟨o',es,ep,M4,VW,_⟩,_⟩:=I.loc;rw[z,M4]at ho;cases ho;rw[VW]at hd;cases hd
theorem Inv.yD(I:Inv X ao σ H s):s.heap.FunFrames X.base X.outer:=by
 have all:∀ (l:List Env),(∀ b∈zA l,b∈X.fs)->X.s₀.heap.FunFrames X.base l->s.heap.FunFrames X.base l:=by
  intro l
  induction l with
  | nil=>intro _ _;trivial
  | cons env r ih =>
   intro hs hl;obtain⟨hk,⟨L,o,hf,hn,ho,hd⟩,hr⟩:=hl;have hL:L∈X.fs:=hs L (by unfold zA;rw[List.filterMap_cons,hf];exact yC);obtain⟨sl,e⟩:=I.base.slot L o ho (I.ok.VT L hL) hL λz=>I.ok.Sz L z hL;exact⟨hk,⟨L,_,hf,hn,e,hd⟩,ih (λb hb=>hs b (by unfold zA;rw[List.filterMap_cons,hf];exact sF _ hb)) hr⟩
 exact all X.outer (λ_ hb=>hb) I.ok.yD
theorem Inv.stack(I:Inv X ao σ H s):s.heap.FunFrames X.base X.stack:=by
 rcases I.ok.stk with e|⟨e,hf⟩
 ·rw[e];exact I.yD
 ·rw[e];obtain⟨m,hn,_⟩:=I.loc;refine .cons (by rw[I.ok.kind];decide) hf hn ?_ I.yD;exact Heap.get?_none_of_le (lS I.ok.UE I.ok.above)
theorem Inv.zB(I:Inv X ao σ H s):∀ b∈zA X.stack,b∈X.env.locals::X.fs:=λb hb=>by
 rcases I.ok.stk with e|⟨e,hf⟩
 ·rw[e]at hb;exact sF _ hb
 ·rw[e]at hb;unfold zA at hb;rw[List.filterMap_cons,hf]at hb;exact hb
theorem Inv.Bx(I:Inv X ao σ H s):∀ b∈zA X.stack,H b=none:=λb hb=>by
 rcases List.mem_cons.mp (I.zB b hb) with e|hb
 ·rw[e];exact I.free
 ·obtain⟨_,o,ho,_⟩:=I.ok.yD.mem hb;exact I.base.free b o ho (I.ok.VT b hb) λz=>I.ok.Sz b z hb
theorem Inv.step{g':Array GenState}{t':Nat}{d':Drawn}{ch:List Addr}(I:Inv X ao σ H s)
  (RQ:∀ b∈ch,(b∈X.ex\/X.s₀.heap.objs.size<=b)/\b≠X.env.locals/\(∀ x c,X.env.cells.lookup x=some c->c≠b)/\∀ p∈X.pn++ao,p.1≠b)
  (keep:∀ b o,b≠X.env.locals->b∉X.fs->b∉ch->s.heap.get? b=some o->H b=none->h'.get? b=some o)
  (slot:∀ b o,b≠X.env.locals->b∈X.fs->b∉ch->s.heap.get? b=some o->H b=none->∃ sl,h'.get? b=some { o with slots:=sl }) (free:∀ b o,b∉ch->s.heap.get? b=some o->H b=none->H' b=none)
  (there:∀ b o,b∉ch->s.heap.get? b=some o->∃ o',h'.get? b=some o')
  (tups:∀ b xs,H b=some (.tup xs)->H' b=some (.tup xs)) (DF:∀ b o u,H b=some (.JL o u)->H' b=some (.JL o u)) (Fz:∀ b ps,H b=some (.Sx ps)->∃ Ba,H' b=some (.Sx (ps++Ba)))
  (ns:∀ m,s.heap.Ns X.env.locals m->h'.Ns X.env.locals m) (hok:wz X.prog X.w H' h') (hg:AllBare g') :
  Inv X ao σ H' { s with heap:=h',gens:=g',drawn:=d',toks:=t' }:=by
 have neL:∀ b o,X.s₀.heap.get? b=some o->b≠X.env.locals:=λb o e=>qo (vp (Heap.lt_size e) I.ok.above)
 have neC:∀ b o,X.s₀.heap.get? b=some o->b∉X.ex->b∉ch:=λb o e hx hb=>by
  rcases (RQ b hb).1 with z|z
  ·exact hx z
  ·exact absurd (vp (Heap.lt_size e) z) (Nat.lt_irrefl _)
 have cellK:∀ x c,X.env.cells.lookup x=some c->∀ v,s.heap.IsCell c v->h'.IsCell c v:=λx c e v ⟨o,ho,hd⟩=>by
  have Yy:c∉ch:=λz=>(RQ c z).2.2.1 x c e rfl;by_cases hc:c∈X.fs
  ·obtain⟨sl,q⟩:=slot c o (I.VU x c e) hc Yy ho (I.xo x c e);exact⟨_,q,hd⟩
  ·exact⟨o,keep c o (I.VU x c e) hc Yy ho (I.xo x c e),hd⟩
 refine⟨I.ok,I.os,hg,⟨λb o e n hb hx=>?_,λb o e n hb hx=>?_,λb o e n hx=>?_,λb o e hx=>?_,λb xs e=>tups b xs (I.base.tups b xs e),λb o xs e=>DF b o xs (I.base.DF b o xs e),λb ps e=>?_⟩,?_,λx c e=>?_,?_,λx c e=>?_,λp hp=>?_,hok,I.len⟩
 ·exact keep b o (neL b o e) hb (neC b o e hx) (I.base.keep b o e n hb hx) (I.base.free b o e n hx)
 ·obtain⟨sl,e1⟩:=I.base.slot b o e n hb hx;obtain⟨UG,e2⟩:=slot b _ (neL b o e) hb (neC b o e hx) e1 (I.base.free b o e n hx);exact⟨UG,e2⟩
 ·obtain⟨o',e1⟩:=I.base.there b o e hx;exact free b o' (neC b o e hx) e1 (I.base.free b o e n hx)
 ·obtain⟨o',e1⟩:=I.base.there b o e hx;exact there b o' (neC b o e hx) e1
 ·obtain⟨m1,e1⟩:=I.base.Fz b ps e;obtain⟨m2,e2⟩:=Fz b _ e1;exact⟨m1++m2,by rw[e2,Array.append_assoc]⟩
 ·obtain⟨m,hn,hl⟩:=I.loc;refine⟨m,ns m hn,λi x v e1 e2 e3=>?_⟩;obtain⟨u,r,l⟩:=hl i x v e1 e2 e3;refine⟨u,r,?_⟩;rcases l with l|⟨k,c,e,z⟩
  ·exact .inl l
  ·exact .inr ⟨k,c,e,cellK x c e _ z⟩
 ·obtain⟨v,z⟩:=I.cell x c e;exact⟨v,cellK x c e v z⟩
 ·obtain⟨m,⟨o,_,_,ho,_⟩,_⟩:=I.loc;exact free _ o (λz=>(RQ _ z).2.1 rfl) ho I.free
 ·obtain⟨v,o,ho,hd⟩:=I.cell x c e;exact free c o (λz=>(RQ c z).2.2.1 x c e rfl) ho (I.xo x c e)
 ·obtain⟨e,n,ne,nf,d⟩:=I.pin p hp;have Yy:p.1∉ch:=λz=>(RQ p.1 z).2.2.2 p hp rfl;exact⟨keep p.1 p.2 ne nf Yy e n,free p.1 p.2 Yy e n,ne,nf,d⟩
theorem Inv.un{t':Nat}(I:Inv X ao σ H s)(u:Un X.fs [] H H' s.heap h')(hok:wz X.prog X.w H' h'):Inv X ao σ H' { s with heap:=h',toks:=t' }:=by
 obtain⟨m,⟨o,es,ep,ho,r⟩,_⟩:=id I.loc;obtain⟨sl,hL⟩:=u.any ho I.free (by simp)
 exact I.step (g':=s.gens) (d':=s.drawn) (ch:=[]) (λ_ z=>nomatch z) (λb o _ hb _ e n=>u.keep b o e n hb (by simp)) (λb o _ hb _ e n=>u.slot b o e n hb (by simp)) (λb o _ e n=>u.free b o e n (by simp)) (λb o _ e=>u.there b o e (by simp)) u.tups u.DF u.Fz (λm' hm=>by
  obtain⟨o',xq,ep',M4,r'⟩:=hm;rw[ho]at M4;cases M4
  exact⟨_,xq,ep',hL,r'⟩) hok I.bare
theorem Inv.call{g':Array GenState}{t':Nat}{d':Drawn}{ch:List Addr}(I:Inv X ao σ H s)(u:Un (zA X.stack) ch H H' s.heap h')(hok:wz X.prog X.w H' h')(hg:AllBare g')
  (RQ:∀ b∈ch,(b∈X.ex\/X.s₀.heap.objs.size<=b)/\b≠X.env.locals/\(∀ x c,X.env.cells.lookup x=some c->c≠b)/\∀ p∈X.pn++ao,p.1≠b) :
  Inv X ao σ H' { s with heap:=h',gens:=g',drawn:=d',toks:=t' }:=by
 obtain⟨m,⟨o,es,ep,ho,r⟩,_⟩:=id I.loc;obtain⟨sl,hL⟩:=u.any ho I.free λz=>(RQ _ z).2.1 rfl
 exact I.step (ch:=ch) RQ (λb o hL hb hc e n=>u.keep b o e n (λz=>(List.mem_cons.mp (I.zB b z)).elim hL hb) hc) (λb o _ _ hc e n=>u.any e n hc) (λb o hc e n=>u.free b o e n hc) (λb o hc e=>u.there b o e hc) u.tups u.DF u.Fz (λm' hm=>by
  obtain⟨o',xq,ep',M4,r'⟩:=hm;rw[ho]at M4;cases M4
  exact⟨_,xq,ep',hL,r'⟩) hok hg
theorem Inv.turned{t':Nat}{it:Addr}(I:Inv X ao σ H s)(k:∀ b o,b≠it->s.heap.get? b=some o->h'.get? b=some o)(hn:H it=none)(hL:it≠X.env.locals)
  (h1:it∈X.ex\/X.s₀.heap.objs.size<=it) (h2:∀ x c,X.env.cells.lookup x=some c->c≠it) (h3:∀ p∈X.pn++ao,p.1≠it):Inv X ao σ H { s with heap:=h',toks:=t' }:=by
 have UH:∀ b u,H b=some u->b≠it:=λb u e z=>by rw[z,hn]at e;cases e
 refine I.step (g':=s.gens) (d':=s.drawn) (ch:=[it]) (λb hb=>?_) (λb o _ _ hc e _=>k b o (λz=>hc (by simp[z])) e) (λb o _ _ hc e _=>⟨o.slots,k b o (λz=>hc (by simp[z])) e⟩) (λ_ _ _ _ n=>n) (λb o hc e=>⟨o,k b o (λz=>hc (by simp[z])) e⟩) (λ_ _ e=>e) (λ_ _ _ e=>e) (λb ps e=>⟨#[],by rw[e];simp⟩) (λm hm=>?_) (λb u e=>?_) I.bare
 ·have e:b=it:=by simpa using hb
  subst e;exact⟨h1,hL,h2,h3⟩
 ·obtain⟨o,es,ep,ho,r⟩:=hm;exact⟨o,es,ep,k _ o (Ne.symm hL) ho,r⟩
 ·refine (I.hok b u e).stay (λc v hc q=>k c v ?_ q) (λ_ q=>q) λ_ _ q=>q;rcases hc with z|z
  ·rw[z];exact UH b u e
  ·exact UH c _ z
theorem Inv.tok(I:Inv X ao σ H s)(t:Nat):Inv X ao σ H { s with toks:=t }:=I.un (h':=s.heap) (t':=t) Un.refl I.hok
theorem Inv.kept{t':Nat}(I:Inv X ao σ H s)(k:∀ b u,s.heap.get? b=some u->h'.get? b=some u):Inv X ao σ H { s with heap:=h',toks:=t' }:=I.un (Un.kept k) (I.hok.kept k)
theorem Inv.laid{a:Addr}{o:HO}{t':Nat}(I:Inv X ao σ H s)(k:∀ b u,s.heap.get? b=some u->h'.get? b=some u)(hp:s.heap.objs.size<=a)(new:iZ X.prog X.w (aQ H a o) h' a o) :
  Inv X ao σ (aQ H a o) { s with heap:=h',toks:=t' }:=I.un (Un.laid k hp (I.hok.fresh hp)) (I.hok.laid k hp new)
theorem Inv.write{x e:Addr}{o:HO}{t':Nat}(I:Inv X ao σ H s)(mu:Yu (H x))(he:e=x\/H e=some (.own x))(k:∀ b u,b≠e->s.heap.get? b=some u->h'.get? b=some u)(X0:∃ u,h'.get? e=some u)
  (new:iZ X.prog X.w (aQ H x o) h' x o):Inv X ao σ (aQ H x o) { s with heap:=h',toks:=t' }:=I.un (Un.write mu he k X0) (I.hok.write mu he k X0 new)
theorem Inv.Lh(I:Inv X ao σ H s)(h:∀ p∈UI,s.heap.get? p.1=some p.2/\H p.1=none/\p.1≠X.env.locals/\p.1∉X.fs/\∀ v,p.2.data≠.cell v):Inv X UI σ H s :=
 ⟨I.ok,I.os,I.bare,I.base,I.loc,I.cell,I.free,I.xo,λp hp=>(List.mem_append.mp hp).elim (λz=>I.pin p (xR _ z)) (h p),I.hok,I.len⟩
theorem G4{N:List Str}(hN:N.Nodup){i j:Nat}{x:Str}(a:N[i]?=some x)(b:N[j]?=some x):i=j:=by
 obtain⟨h1,e1⟩:=List.getElem?_eq_some_iff.mp a;obtain⟨h2,e2⟩:=List.getElem?_eq_some_iff.mp b;exact (List.getElem_inj hN).mp (e1.trans e2.symm)
theorem Eo{M:Model}{A:Around}{E:Value->Shared->Prop}{i:Nat}{x:Str}{v:V}{u:Value}{Q:Unit->Shared->Prop}(I:Inv X ao σ H s)(hN:X.N.Nodup)(hi:X.N[i]?=some x)(hx:Loc X.env.scope x)(r:RelV v u)
  (h:∀ s',Inv X ao (σ.set i (some v)) H s'->(∃ a,Heap.SameBut a s.heap s'.heap/\(a=X.env.locals\/X.env.cells.lookup x=some a))->Q () s') (hf:X.fn x=true\/X.env.scope.names.lookup x=some .local:=by first|exact .inl rfl|exact .inr rfl|assumption):wpAny M A (storeName X.env x u) Q E s:=by
 obtain⟨m,hn,hl⟩:=id I.loc;have hcls:(X.env.scope.kind == .class || (X.env.scope.kind == .module&&X.env.locals != X.env.globals))=false:=by rw[I.ok.kind];rfl
 have hiσ:i<σ.length:=by rw[I.len];exact (List.getElem?_eq_some_iff.mp hi).1
 have VU:=I.VU
 have tracked:∀ {a:Addr} {h':Heap},(∃ o,s.heap.get? a=some o/\H a=none)->Heap.SameBut a s.heap h'->wz X.prog X.w H h':=λ{a h'} ha hs b ob e=>by
  obtain⟨_,_,Li⟩:=ha;refine (I.hok b ob e).stay (λc w' hc q=>(hs.2 c ?_).trans q) (λ_ q=>q) λ_ _ q=>q;rintro rfl;rcases hc with rfl|hc
  ·rw[Li]at e;cases e
  ·rw[Li]at hc;cases hc
 rcases hx with hk|hk
 ·refine wpAny_storeName_local hk hn (λh' hn' hs=>?_) hcls;obtain⟨oL,_,_,hoL,_⟩:=id hn;refine h _ ⟨I.ok,I.os,I.bare,⟨λb o e n hb hx=>?_,λb o e n hb hx=>?_,I.base.free,λb o e hx=>?_,I.base.tups,I.base.DF,I.base.Fz⟩,⟨_,hn',λj y v' e1 e2 e3=>?_⟩,λy c e=>?_,I.free,I.xo,λp hp=>?_,tracked ⟨oL,hoL,I.free⟩ hs,by simpa using I.len⟩ ⟨_,hs,.inl rfl⟩
  ·exact (hs.2 b (qo (vp (Heap.lt_size e) I.ok.above))).trans (I.base.keep b o e n hb hx)
  ·obtain⟨sl,e1⟩:=I.base.slot b o e n hb hx;exact⟨sl,(hs.2 b (qo (vp (Heap.lt_size e) I.ok.above))).trans e1⟩
  ·obtain⟨o',e1⟩:=I.base.there b o e hx;exact⟨o',(hs.2 b (qo (vp (Heap.lt_size e) I.ok.above))).trans e1⟩
  ·by_cases hj:j=i
   ·subst hj;rw[hi]at e1;cases e1;rw[List.getElem?_set_self hiσ]at e2;cases e2;exact⟨u,r,.inl ⟨hk,by simp⟩⟩
   ·rw[List.getElem?_set_ne (Ne.symm hj)]at e2;obtain⟨u',r',q⟩:=hl j y v' e1 e2 e3;refine⟨u',r',?_⟩;rcases q with ⟨k,e⟩|⟨k,c,e,z⟩
    ·refine .inl ⟨k,?_⟩;have:y≠x:=λe=>hj (G4 hN e1 (e ▸ hi));simp[this,e]
    ·exact .inr ⟨k,c,e,z.sameBut hs (VU y c e)⟩
  ·obtain⟨w',z⟩:=I.cell y c e;exact⟨w',z.sameBut hs (VU y c e)⟩
  ·obtain⟨e,n,ne,nf,d⟩:=I.pin p hp;exact⟨(hs.2 p.1 ne).trans e,n,ne,nf,d⟩
 ·have hfn:X.fn x=true:=by
   rcases hf with z|z
   ·exact z
   ·rw[z]at hk;cases hk
  obtain⟨c,hc⟩:=I.ok.has x (.inl hk);obtain⟨w',z⟩:=I.cell x c hc;refine wpAny_storeName_cell I.ok.kind hk hc z (λh' Yz hs=>?_);obtain⟨oc,hoc,abI⟩:=id z;refine h { s with heap:=h' } ⟨I.ok,I.os,I.bare,⟨λb o e n hb hx=>?_,λb o e n hb hx=>?_,I.base.free,λb o e hx=>?_,I.base.tups,I.base.DF,I.base.Fz⟩,⟨m,hn.sameBut hs (Ne.symm (VU x c hc)),λj y v' e1 e2 e3=>?_⟩,λy c' e=>?_,I.free,I.xo,λp hp=>?_,tracked ⟨oc,hoc,I.xo x c hc⟩ hs,by simpa using I.len⟩ ⟨c,hs,.inr hc⟩
  ·exact (hs.2 b (qo (vp (Heap.lt_size e) (I.ok.Yx x c hfn hc)))).trans (I.base.keep b o e n hb hx)
  ·obtain⟨sl,e1⟩:=I.base.slot b o e n hb hx;exact⟨sl,(hs.2 b (qo (vp (Heap.lt_size e) (I.ok.Yx x c hfn hc)))).trans e1⟩
  ·obtain⟨o',e1⟩:=I.base.there b o e hx;exact⟨o',(hs.2 b (qo (vp (Heap.lt_size e) (I.ok.Yx x c hfn hc)))).trans e1⟩
  ·by_cases hj:j=i
   ·subst hj;rw[hi]at e1;cases e1;rw[List.getElem?_set_self hiσ]at e2;cases e2;exact⟨u,r,.inr ⟨.inl hk,c,hc,Yz⟩⟩
   ·rw[List.getElem?_set_ne (Ne.symm hj)]at e2;obtain⟨u',r',q⟩:=hl j y v' e1 e2 e3;refine⟨u',r',?_⟩;rcases q with q|⟨k,c',e,z'⟩
    ·exact .inl q
    ·refine .inr ⟨k,c',e,z'.sameBut hs ?_⟩;rintro rfl;exact hj (G4 hN e1 (I.ok.inj _ _ _ e hc ▸ hi))
  ·by_cases hcc:c'=c
   ·subst hcc;exact⟨_,Yz⟩
   ·obtain⟨w2,z2⟩:=I.cell y c' e;exact⟨w2,z2.sameBut hs hcc⟩
  ·obtain⟨e,n,ne,nf,d⟩:=I.pin p hp;refine⟨(hs.2 p.1 ?_).trans e,n,ne,nf,d⟩;intro q;rw[q,hoc]at e;have q':oc=p.2:=vG e;exact d w' (by rw[← q'];exact abI)
theorem BU{M:Model}{A:Around}{E:Value->Shared->Prop}{i:Nat}{x:Str}{v:V}{u:Value}{Q:Unit->Shared->Prop}(I:Inv X ao σ H s)(hN:X.N.Nodup)(hi:X.N[i]?=some x)(hx:Loc X.env.scope x)(r:RelV v u)
  (h:∀ s',Inv X ao (σ.set i (some v)) H s'->Q () s') (hf:X.fn x=true\/X.env.scope.names.lookup x=some .local:=by first|exact .inl rfl|exact .inr rfl|assumption):wpAny M A (storeName X.env x u) Q E s :=
 Eo I hN hi hx r (λs' I' _=>h s' I') hf
theorem Inv.UJ{s':Shared}{ch:List Addr}(I:Inv X ao σ H s)(ho:s'.os=s.os)(u:Un (zA X.stack) ch H H' s.heap s'.heap)(hok:wz X.prog X.w H' s'.heap)(hg:AllBare s'.gens)
  (RQ:∀ b∈ch,(b∈X.ex\/X.s₀.heap.objs.size<=b)/\b≠X.env.locals/\(∀ x c,X.env.cells.lookup x=some c->c≠b)/\∀ p∈X.pn++ao,p.1≠b):Inv X ao σ H' s':=by
 obtain⟨h',g',d',t',o'⟩:=s';have e:o'=s.os:=ho;subst e;exact I.call (g':=g') (t':=t') (d':=d') u hok hg RQ
end
abbrev XK:=Value->Option Addr->Hp->Prop
abbrev St:=List (Option V)
abbrev VK:=V->Hp->Prop
abbrev TE:=St->Hp->VK->Prop
abbrev TT:=St->Hp->(Bool->Hp->Prop)->Prop
abbrev TA:=St->Hp->(List V->Hp->Prop)->Prop
structure Ends where
 nx:St->Hp->Prop
 rt:VK
 bk:St->Hp->Prop:=λ_ _=>False
 ct:St->Hp->Prop:=λ_ _=>False
abbrev TS:=Ends->St->Hp->Prop
inductive EP(X:Cx)(ao:List (Addr × Obj))(σ:St)(Q:VK)(u:Value)(s':Shared):Prop
 | mk (v:V) (H':Hp) (_:Inv X ao σ H' s') (_:RelV v u) (_:Q v H')
def TP(X:Cx)(ao:List (Addr × Obj))(σ:St)(Q:Bool->Hp->Prop)(b:Bool)(s':Shared):Prop:=∃ H',Inv X ao σ H' s'/\Q b H'
inductive AP(X:Cx)(ao:List (Addr × Obj))(σ:St)(Q:List V->Hp->Prop)(us:List Value)(s':Shared):Prop
 | mk (vs:List V) (H':Hp) (_:Inv X ao σ H' s') (_:cG vs us) (_:Q vs H')
def SP(X:Cx)(ao:List (Addr × Obj))(D:Ends)(f:Flow)(s':Shared):Prop :=
 match f with
 | .next=>∃ σ' H',Inv X ao σ' H' s'/\D.nx σ' H'
 | .brk=>∃ σ' H',Inv X ao σ' H' s'/\D.bk σ' H'
 | .cont=>∃ σ' H',Inv X ao σ' H' s'/\D.ct σ' H'
 | .ret u=>∃ v σ' H',Inv X ao σ' H' s'/\RelV v u/\D.rt v H'
def PE(X:Cx)(e:Expr)(t:TE):Prop :=
 ∀ (ao:List (Addr × Obj)) (s:Shared) (σ:St) (H:Hp) (Q:VK),Inv X ao σ H s->t σ H Q->wpAny (model X.prog X.w) X.A (eval e X.env) (EP X ao σ Q) X.xe s
def PT(X:Cx)(e:Expr)(t:TT):Prop :=
 ∀ (ao:List (Addr × Obj)) (s:Shared) (σ:St) (H:Hp) (Q:Bool->Hp->Prop),Inv X ao σ H s->t σ H Q->wpAny (model X.prog X.w) X.A (isTrue e X.env (eval e X.env)) (TP X ao σ Q) X.xe s
def PW(X:Cx)(e:Expr)(t:TT):Prop :=
 ∀ (BV:Sem Value) (ao:List (Addr × Obj)) (s:Shared) (σ:St) (H:Hp) (Q:Bool->Hp->Prop),Inv X ao σ H s->t σ H Q->wpAny (model X.prog X.w) X.A (isTrue e X.env BV) (TP X ao σ Q) X.xe s
theorem PW.pt{X:Cx}{e:Expr}{t:TT}(h:PW X e t):PT X e t:=h _
def PA(X:Cx)(es:List Expr)(t:TA):Prop :=
 ∀ (pos:Pos) (ao:List (Addr × Obj)) (s:Shared) (σ:St) (H:Hp) (Q:List V->Hp->Prop),Inv X ao σ H s->t σ H Q->wpAny (model X.prog X.w) X.A (spliced (backTo pos (starEach es X.env))) (AP X ao σ Q) X.xe s
def PS(X:Cx)(st:Stmt)(t:TS):Prop :=
 ∀ (ao:List (Addr × Obj)) (s:Shared) (σ:St) (H:Hp) (D:Ends),Inv X ao σ H s->t D σ H->wpAny (model X.prog X.w) X.A (exec st X.env) (SP X ao D) X.xe s
def JA(X:Cx)(st:List Stmt)(t:TS):Prop :=
 ∀ (ao:List (Addr × Obj)) (s:Shared) (σ:St) (H:Hp) (D:Ends),Inv X ao σ H s->t D σ H->wpAny (model X.prog X.w) X.A (execs st X.env) (SP X ao D) X.xe s
theorem dB{α:Type}{t:Sem α}{Q Q':α->Shared->Prop}{M:Model}{A:Around}{E:Value->Shared->Prop}{s:Shared}(h:wpAny M A t Q E s)(hQ:∀ a s,Q a s->Q' a s):wpAny M A t Q' E s:=wpAny_mono h hQ λ_ _ x=>x
end L2
namespace L2
open PySem.Spec PyProof.Rows
section
variable {X:Cx}
inductive VX(i:Nat)(σ:St)(H:Hp)(Q:VK):Prop
 | mk (v:V) (_:σ[i]?=some (some v)) (_:Q v H)
inductive isB(x:V)(H:Hp)(Q:Bool->Hp->Prop):Prop
 | mk (c:Bool) (_:x=.bl c) (_:Q c H)
inductive isI(x:V)(H:Hp)(Q:Option Int->Hp->Prop):Prop
 | mk (i:Int) (_:x=.int i) (_:Q (some i) H)
def tC(v:V):TE:=λ_ H Q=>Q v H
theorem VY{i:Nat}{x:Str}(hN:X.N[i]?=some x)(hv:Vis X.env.scope x)(hd:(x == ("__debug__":Str))=false:=by decide)(M5:(x == ("__classdict__":Str))=false:=by decide):PE X (.Name x pos) (VX i):=by
 intro ao s σ H Q I h;obtain⟨v,e,h⟩:=h;obtain⟨m,hn,hl⟩:=I.loc;obtain⟨u,r,l⟩:=hl i x v hN e hv;have oB:EP X ao σ Q u s:=⟨v,H,I,r,h⟩;rcases l with ⟨hk,hm⟩|⟨hk,c,hc,hcell⟩
 ·exact wpAny_Name (wpAny_loadName_local I.ok.kind hk hn hm oB) hd
 ·rcases hk with hk|hk
  ·exact wpAny_Name (wpAny_loadName_cell I.ok.kind hk hc hcell oB) hd
  ·exact wpAny_Name (wpAny_loadName_free I.ok.kind hk hc hcell oB M5) hd
theorem ay{i j pos}:PE X (.Constant (.int i) j pos) (tC (.int i)):=λ_ _ _ H _ I h=>wpAny_Constant_int ⟨.int i,H,I.tok _,⟨_,rfl⟩,h⟩
theorem oG{b j pos}:PE X (.Constant (.bool b) j pos) (tC (.bl b)):=λ_ _ _ H _ I h=>Constant_bool ⟨.bl b,H,I,rfl,h⟩
theorem VZ{j pos}:PE X (.Constant .none j pos) (tC .jm):=λ_ _ _ H _ I h=>Constant_none ⟨.jm,H,I,rfl,h⟩
theorem bG{x j pos}:PE X (.Constant (.str x) j pos) (tC (.str x)):=λ_ _ _ H _ I h=>Calls.Constant_str ⟨.str x,H,I.tok _,⟨_,rfl⟩,h⟩
def Gl(X:Cx)(x:Str):Prop:=X.env.kindOf x=some .globalImplicit
theorem yE{E:Value->Shared->Prop}{s:Shared}{σ:St}{H:Hp}{x:Str}{u:Value}{Q:Value->Shared->Prop}(I:Inv X ao σ H s)(hg:Gl X x)(hm:X.mg x=some u)(h:Q u s)
  (hd:(x == ("__debug__":Str))=false:=by decide):wpAny (model X.prog X.w) X.A (eval (.Name x pos) X.env) Q E s :=
 Calls.Name_function_global I.ok.kind hg (Calls.loadGlobal_global (by rw[I.ok.glob];exact I.mod.glob.keeps I.bk) hm h) hd
theorem BW{E:Value->Shared->Prop}{s:Shared}{σ:St}{H:Hp}{x:Str}{u:Value}{Q:Value->Shared->Prop}(I:Inv X ao σ H s)(hg:Gl X x)(hm:X.mg x=none)(hv:bootBuiltins x=some u)(h:Q u s)
  (hn:x≠"__name__":=by decide) (hd:(x == ("__debug__":Str))=false:=by decide):wpAny (model X.prog X.w) X.A (eval (.Name x pos) X.env) Q E s:=by
 obtain⟨mb,h1,h2⟩:=I.mod.blt;exact Calls.Name_function_global I.ok.kind hg (Calls.loadGlobal_builtin (by rw[I.ok.glob];exact I.mod.glob.keeps I.bk) hm (by rw[I.ok.blt];exact h1.keeps I.bk) ((h2 x hn).trans hv) h) hd
theorem Lj{x:Str}{v:V}{u:Value}(hg:Gl X x)(hm:X.mg x=some u)(r:RelV v u)(hd:(x == ("__debug__":Str))=false:=by decide):PE X (.Name x pos) (tC v) :=
 λ_ _ _ H _ I h=>yE I hg hm ⟨v,H,I,r,h⟩ hd
theorem SA{x:Str}{v:V}{u:Value}(hg:Gl X x)(hm:X.mg x=none)(hv:bootBuiltins x=some u)(r:RelV v u)(hn:x≠"__name__":=by decide)(hd:(x == ("__debug__":Str))=false:=by decide):PE X (.Name x pos) (tC v) :=
 λ_ _ _ H _ I h=>BW I hg hm hv ⟨v,H,I,r,h⟩ hn hd
variable {a b:Expr} {ta tb:TE} {pos:Pos}
def PC(X:Cx)(op:CmpOp)(a b:Expr)(t:TE):Prop :=
 ∀ (ao:List (Addr × Obj)) (s:Shared) (σ:St) (H:Hp) (Q:VK),Inv X ao σ H s->t σ H Q->
  wpAny (model X.prog X.w) X.A (eval a X.env) (λv s₁=>wpAny (model X.prog X.w) X.A (eval b X.env) (λu s₂=>wpAny (model X.prog X.w) X.A (compareOp op v u) (EP X ao σ Q) X.xe s₂) X.xe s₁) X.xe s
theorem G5(b:Expr){op:CmpOp}(h:op≠.In)(h2:op≠.NotIn):behindInMarks op b=false:=by
 have e1:(op == CmpOp.In)=false:=by cases op <;> first|rfl|exact absurd rfl h
 have e2:(op == CmpOp.NotIn)=false:=by cases op <;> first|rfl|exact absurd rfl h2
 cases b <;> simp[behindInMarks,e1,e2]
def abJ(ta:TE):TE:=fun σ H Q=>ta σ H λx H1=>Q (.bl (decide (x=.jm))) H1
def YA(ta:TE):TE:=fun σ H Q=>ta σ H λx H1=>Q (.bl (!decide (x=.jm))) H1
theorem RelV.G6{x:V}{v:Value}(r:RelV x v):(v == Value.none)=decide (x=.jm):=by
 cases x with
 | jm=>cases r;rfl
 | bl _=>cases r;rfl
 | int _=>obtain⟨t,rfl⟩:=r;rfl
 | str _=>obtain⟨t,rfl⟩:=r;rfl
 | JK _=>obtain⟨t,rfl⟩:=r;rfl
 | UD _=>obtain⟨t,rfl⟩:=r;rfl
 | ref _=>cases r;rfl
 | ty _=>cases r;rfl
theorem JN{j l5}(ha:PE X a ta):PC X .Is a (.Constant .none j l5) (abJ ta):=by
 intro ao s σ H Q I h;refine dB (ha ao s σ H _ I h) λv s1 DG=>?_;obtain⟨x,H1,I1,r1,q1⟩:=DG;exact Constant_none (is_none_gen ⟨.bl _,H1,I1,by rw[r1.G6];rfl,q1⟩)
theorem Lk{j l5}(ha:PE X a ta):PC X .IsNot a (.Constant .none j l5) (YA ta):=by
 intro ao s σ H Q I h;refine dB (ha ao s σ H _ I h) λv s1 G7=>?_;obtain⟨x,H1,I1,r1,q1⟩:=G7;exact Constant_none (isnot_none_gen ⟨.bl _,H1,I1,by rw[r1.G6];rfl,q1⟩)
def tB(t:TE):TT:=fun σ H Q=>t σ H λx H1=>isB x H1 Q
theorem OU{op:CmpOp}{t:TE}(h:PC X op a b t)(h1:behindInMarks op b=false:=by first|exact G5 _ (by decide) (by decide)|rfl):PE X (.Compare a [op] [b] pos) t:=λao s σ H Q I hw=>wpAny_Compare1 (h ao s σ H Q I hw) h1
theorem BX{op:CmpOp}{t:TE}(h:PC X op a b t)(h1:behindInMarks op b=false:=by first|exact G5 _ (by decide) (by decide)|rfl):PT X (.Compare a [op] [b] pos) (tB t):=by
 intro ao s σ H Q I hw;refine wpAny_isTrue_Compare1 (dB (h ao s σ H _ I hw) λv s1 h1=>dB h1 λu s2 h2=>dB h2 λc s3 ⟨x,H1,I1,r1,q1⟩=>?_) h1;obtain⟨d,rfl,q⟩:=q1;cases r1;exact wpAny_truthy_bool ⟨H1,I1,q⟩
theorem lT{e:Expr}{t:TE}(h:PE X e t)(he:∀ BV,isTrue e X.env BV=(do let v ← BV;standAt e.pos;holding [v] (truthy v)):=by intro _;rfl):PT X e (tB t):=by
 intro ao s σ H Q I hw;refine isTrue_plain (dB (h ao s σ H _ I hw) λv s1 ⟨x,H1,I1,r1,q1⟩=>?_) (he _);obtain⟨d,rfl,q⟩:=q1;cases r1;exact wpAny_truthy_bool ⟨H1,I1,q⟩
variable {tA tB':TT} {vH:List Expr}
def abK(t u:TT):TT:=fun σ H Q=>t σ H λc H1=>if c=true then u σ H1 Q else Q false H1
def tOr(t u:TT):TT:=fun σ H Q=>t σ H λc H1=>if c=true then Q true H1 else u σ H1 Q
def abL(t:TT):TT:=fun σ H Q=>t σ H λc H1=>Q (!c) H1
theorem uB(ha:PT X a tA):PW X (.BoolOp .And [a] pos) tA:=by
 intro wh ao s σ H Q I h;refine isTrue_and (dB (ha ao s σ H Q I h) λc s1 e=>?_)
 cases c with
 | true=>exact isTrue_and_nil e
 | false=>exact e
theorem BY(ha:PT X a tA):PW X (.BoolOp .Or [a] pos) tA:=by
 intro wh ao s σ H Q I h;refine isTrue_or (dB (ha ao s σ H Q I h) λc s1 e=>?_)
 cases c with
 | false=>exact isTrue_or_nil e
 | true=>exact e
theorem vI(ha:PT X a tA)(hb:PW X (.BoolOp .And (b::vH) pos) tB'):PW X (.BoolOp .And (a::b::vH) pos) (abK tA tB'):=by
 intro wh ao s σ H Q I h;refine isTrue_and (dB (ha ao s σ H _ I h) λc s1 DH=>?_);obtain⟨H1,I1,q1⟩:=DH
 cases c with
 | true=>exact hb wh ao s1 σ H1 Q I1 q1
 | false=>exact⟨H1,I1,q1⟩
theorem Ep(ha:PT X a tA)(hb:PW X (.BoolOp .Or (b::vH) pos) tB'):PW X (.BoolOp .Or (a::b::vH) pos) (tOr tA tB'):=by
 intro wh ao s σ H Q I h;refine isTrue_or (dB (ha ao s σ H _ I h) λc s1 G8=>?_);obtain⟨H1,I1,q1⟩:=G8
 cases c with
 | true=>exact⟨H1,I1,q1⟩
 | false=>exact hb wh ao s1 σ H1 Q I1 q1
theorem j5(ha:PT X a tA):PT X (.UnaryOp .Not a pos) (abL tA):=by
 intro ao s σ H Q I h;exact isTrue_not (ha ao s σ H (λc H1=>Q (!c) H1) I h)
def YB(ta tb:TE):TE:=fun σ H Q=>ta σ H λx H1=>isB x H1 λc H1=>if c=true then tb σ H1 Q else Q (.bl false) H1
def YC(ta:TE):TE:=fun σ H Q=>ta σ H λx H1=>isB x H1 λc H1=>Q (.bl (!c)) H1
theorem BZ{op}{t:TE}(h:PE X a t):PE X (.BoolOp op [a] pos) t:=λao s σ H Q I hw=>BoolOp_one (h ao s σ H Q I hw)
theorem zC(ha:PE X a ta)(hb:PE X (.BoolOp .And (b::vH) pos) tb):PE X (.BoolOp .And (a::b::vH) pos) (YB ta tb):=by
 intro ao s σ H Q I h;refine BoolOp_and (dB (ha ao s σ H _ I h) λv s1 G9=>?_);obtain⟨x,H1,I1,r1,q1⟩:=G9;obtain⟨c,rfl,q1⟩:=q1;cases r1;refine wpAny_truthy_bool ?_
 cases c with
 | true=>exact hb ao s1 σ H1 Q I1 q1
 | false=>exact⟨.bl false,H1,I1,rfl,q1⟩
theorem V0(ha:PE X a ta):PE X (.UnaryOp .Not a pos) (YC ta):=by
 intro ao s σ H Q I h;refine UnaryOp_ (dB (ha ao s σ H _ I h) λv s1 JO=>?_);obtain⟨x,H1,I1,r1,q1⟩:=JO;obtain⟨c,rfl,q1⟩:=q1;cases r1;exact not_of (wpAny_truthy_bool ⟨.bl (!c),H1,I1,rfl,q1⟩)
def tIf(t:TT)(ta tb:TE):TE:=fun σ H Q=>t σ H λc H1=>if c=true then ta σ H1 Q else tb σ H1 Q
theorem OV{c:Expr}(hc:PT X c tA)(ha:PE X a ta)(hb:PE X b tb):PE X (.IfExp c a b pos) (tIf tA ta tb):=by
 intro ao s σ H Q I h;refine wpAny_IfExp (dB (hc ao s σ H _ I h) λd s1 DG=>?_);obtain⟨H1,I1,q1⟩:=DG
 cases d with
 | true=>exact ha ao s1 σ H1 Q I1 q1
 | false=>exact hb ao s1 σ H1 Q I1 q1
end
end L2
namespace L2
open PySem.Spec PyProof.Rows
def bR(K:PySem.W.Frag)(H:Hp)(a:Addr)(xs:List V):Prop :=
 Rd H a (.lst xs)\/
  ∃ (o:Obj) (aP:Array Value) (n:Nat),K.lookup a=some o/\o.cls=.type "list"/\o.dict=none/\o.data=.seq aP n/\aP.size<=sizeLine/\cG xs aP.toList
def ef(K:PySem.W.Frag)(H:Hp)(a:Addr)(xs:List V):Prop :=
 Rd H a (.tup xs)\/
  ∃ (o:Obj) (aP:Array Value) (n:Nat),K.lookup a=some o/\o.cls=.type "tuple"/\o.data=.seq aP n/\aP.size<=sizeLine/\cG xs aP.toList
def abM:Value->Option V
 | .none=>some .jm
 | .bool b=>some (.bl b)
 | .int i _=>some (.int i)
 | .str x _=>some (.str x)
 | .bytes b _=>some (.JK b)
 | .float b _=>some (.UD b)
 | .ref a=>some (.ref a)
 | .type n=>some (.ty n)
 | _=>none
theorem RelV.abs{x:V}{u:Value}(r:RelV x u):abM u=some x:=by
 cases x with
 | jm=>cases r;rfl
 | bl _=>cases r;rfl
 | int _=>obtain⟨t,rfl⟩:=r;rfl
 | str _=>obtain⟨t,rfl⟩:=r;rfl
 | JK _=>obtain⟨t,rfl⟩:=r;rfl
 | UD _=>obtain⟨t,rfl⟩:=r;rfl
 | ref _=>cases r;rfl
 | ty _=>cases r;rfl
theorem RelV.inj{x y:V}{u:Value}(r:RelV x u)(q:RelV y u):x=y:=vG (r.abs.symm.trans q.abs)
theorem cG.inj:∀ {xs ys:List V} {us:List Value},cG xs us->cG ys us->xs=ys
 | _,_,_,.nil,.nil=>rfl
 | _,_,_,.cons r t,.cons r' t'=>by rw[r.inj r',cG.inj t t']
section
variable {X:Cx} {ao:List (Addr × Obj)} {σ:St} {H:Hp} {s:Shared} {a:Addr} {xs ys:List V}
theorem bR.of{K:PySem.W.Frag}(h:H a=some (.lst xs)):bR K H a xs:=.inl (.inl h)
theorem ef.of{K:PySem.W.Frag}(h:H a=some (.tup xs)):ef K H a xs:=.inl (.inl h)
theorem Inv.list(I:Inv X ao σ H s)(h:bR X.K H a xs):∃ aP:List Value,cG xs aP/\PlainL s.heap a aP.toArray/\xs.length<=sizeLine:=by
 rcases h with h|⟨o,aP,n,hk,hc,hd,hs,hz,r⟩
 ·obtain⟨z,aP,n,r,e⟩:=h.ok I.hok;exact⟨aP,r,⟨_,n,e,rfl,rfl,rfl⟩,z⟩
 ·refine⟨aP.toList,r,⟨o,n,I.AJ a o hk,hc,hd,by simpa using hs⟩,?_⟩;have e:=r.length;simp only[Array.length_toList]at e;omega
theorem Inv.tuple(I:Inv X ao σ H s)(h:ef X.K H a xs):∃ aP:List Value,cG xs aP/\IsTup s.heap a aP.toArray/\xs.length<=sizeLine:=by
 rcases h with h|⟨o,aP,n,hk,hc,hs,hz,r⟩
 ·obtain⟨z,aP,r,p⟩:=h.ok I.hok;exact⟨aP,r,p,z⟩
 ·refine⟨aP.toList,r,⟨o,I.AJ a o hk,hc,n,by simpa using hs⟩,?_⟩;have e:=r.length;simp only[Array.length_toList]at e;omega
theorem Inv.Hf(I:Inv X ao σ H s)(h:bR X.K H a xs)(h':bR X.K H a ys):xs=ys:=by
 obtain⟨aP,r,⟨o,n,e,_,_,d⟩,_⟩:=I.list h;obtain⟨its',r',⟨o',n',e',_,_,d'⟩,_⟩:=I.list h';rw[e]at e';cases e';rw[d]at d';injection d' with d1 _;have:aP=its':=by simpa using congrArg Array.toList d1
 subst this;exact r.inj r'
theorem Inv.Er(I:Inv X ao σ H s)(h:ef X.K H a xs)(h':ef X.K H a ys):xs=ys:=by
 obtain⟨aP,r,⟨o,e,_,n,d⟩,_⟩:=I.tuple h;obtain⟨its',r',⟨o',e',_,n',d'⟩,_⟩:=I.tuple h';rw[e]at e';cases e';rw[d]at d';injection d' with d1 _;have:aP=its':=by simpa using congrArg Array.toList d1
 subst this;exact r.inj r'
end
abbrev Cx.DJ(X:Cx)(E:Value->Shared->Prop):Cx:={ X with xe:=E }
abbrev Cx.M6(X:Cx):Cx:=X.DJ λ_ _=>False
theorem Cx.Ok.DJ{X:Cx}(ok:X.Ok)(E:Value->Shared->Prop):(X.DJ E).Ok :=
 ⟨ok.mod,ok.kind,ok.glob,ok.blt,ok.above,ok.inj,ok.has,ok.Yx,ok.hd,ok.frames,ok.stk,ok.exf,ok.bs,ok.UE,ok.OT,ok.Sz,ok.yD,ok.VT⟩
theorem Cx.Ok.vJ{X:Cx}{E:Value->Shared->Prop}(ok:(X.DJ E).Ok):X.Ok :=
 ⟨ok.mod,ok.kind,ok.glob,ok.blt,ok.above,ok.inj,ok.has,ok.Yx,ok.hd,ok.frames,ok.stk,ok.exf,ok.bs,ok.UE,ok.OT,ok.Sz,ok.yD,ok.VT⟩
section
variable {X:Cx} {ao:List (Addr × Obj)} {σ:St} {H:Hp} {s:Shared} {E:Value->Shared->Prop}
theorem Inv.DJ(I:Inv X ao σ H s)(E:Value->Shared->Prop):Inv (X.DJ E) ao σ H s:=⟨I.ok.DJ E,I.os,I.bare,I.base,I.loc,I.cell,I.free,I.xo,I.pin,I.hok,I.len⟩
theorem Inv.vJ(I:Inv (X.DJ E) ao σ H s):Inv X ao σ H s:=⟨I.ok.vJ,I.os,I.bare,I.base,I.loc,I.cell,I.free,I.xo,I.pin,I.hok,I.len⟩
theorem SP.vJ{D:Ends}{f:Flow}{s':Shared}(h:SP (X.DJ E) ao D f s'):SP X ao D f s':=by
 cases f with
 | next=>obtain⟨σ',H',I,q⟩:=h;exact⟨σ',H',I.vJ,q⟩
 | brk=>obtain⟨σ',H',I,q⟩:=h;exact⟨σ',H',I.vJ,q⟩
 | cont=>obtain⟨σ',H',I,q⟩:=h;exact⟨σ',H',I.vJ,q⟩
 | ret u=>obtain⟨v,σ',H',I,r,q⟩:=h;exact⟨v,σ',H',I.vJ,r,q⟩
theorem JA.M6{st:List Stmt}{t:TS}(h:JA X.M6 st t):JA X st t:=λao s σ H D I hw =>
 wpAny_mono (h ao s σ H D (I.DJ _) hw) (λ_ _ q=>q.vJ) λ_ _ z=>False.elim z
end
section
variable {X:Cx} {st:Stmt} {vH:List Stmt} {t u:TS} {e:Expr} {te:TE} {pos:Pos}
def YD:TS:=λD σ H=>D.nx σ H
def abN(t u:TS):TS:=λD σ H=>t { D with nx:=u D } σ H
theorem bu:JA X [] YD:=λ_ _ σ H _ I h=>wpAny_execs_nil ⟨σ,H,I,h⟩
theorem aj(h1:PS X st t)(h2:JA X vH u):JA X (st::vH) (abN t u):=by
 intro ao s σ H D I h;refine wpAny_execs_cons (dB (h1 ao s σ H { D with nx:=u D } I h) λf s1 q=>?_)
 cases f with
 | next =>
  obtain⟨σ',H',I',q⟩:=q;exact h2 ao s1 σ' H' D I' q
 | ret v=>exact q
 | brk=>exact q
 | cont=>exact q
theorem au(h1:PS X st t):JA X [st] t:=by
 intro ao s σ H D I h;refine wpAny_execs_cons (dB (h1 ao s σ H D I h) λf s1 q=>?_)
 cases f with
 | next=>exact wpAny_execs_nil q
 | ret v=>exact q
 | brk=>exact q
 | cont=>exact q
def YE:TS:=λD σ H=>D.ct σ H
theorem Hg:PS X (.Continue pos) YE:=λ_ _ σ H _ I h=>wpAny_Continue ⟨σ,H,I,h⟩
theorem Inv.quiet{σ:St}{H:Hp}{s:Shared}(I:Inv X ao σ H s):interactive X.env=false:=by simp[interactive,I.ok.kind]
def YF(te:TE):TS:=λD σ H=>te σ H λ_ H1=>D.nx σ H1
theorem bf(he:PE X e te)(hs:swapsWith e none pos.line X.env=pure false:=by rfl):PS X (.Expr e pos) (YF te):=by
 intro ao s σ H D I h;exact wpAny_Expr_any (dB (he ao s σ H _ I h) λv s1 ⟨x,H1,I1,r1,q1⟩=>⟨σ,H1,I1,q1⟩) I.quiet hs
def abO(te:TE):TS:=λD σ H=>te σ H D.rt
theorem aO(he:PE X e te):PS X (.Return (some e) pos) (abO te):=by
 intro ao s σ H D I h;exact wpAny_Return_some (dB (he ao s σ H _ I h) λv s1 ⟨x,H1,I1,r1,q1⟩=>⟨x,σ,H1,I1,r1,q1⟩)
def abP(c:TT)(t u:TS):TS:=λD σ H=>c σ H λb H1=>if b=true then t D σ H1 else u D σ H1
theorem bT{c:Expr}{a b:List Stmt}{tc:TT}(hc:PT X c tc)(ha:JA X a t)(hb:JA X b u):PS X (.If c a b pos) (abP tc t u):=by
 intro ao s σ H D I h;refine wpAny_If (dB (hc ao s σ H _ I h) λd s1 G7=>?_);obtain⟨H1,I1,q1⟩:=G7
 cases d with
 | true=>exact ha ao s1 σ H1 D I1 q1
 | false=>exact hb ao s1 σ H1 D I1 q1
def Wa:TS:=λ_ _ _=>False
theorem B0:PS X st Wa:=λ_ _ _ _ _ _ h=>h.elim
end
abbrev TG:=V->St->Hp->(St->Hp->Prop)->Prop
abbrev Wb:=List V->St->Hp->(St->Hp->Prop)->Prop
def PG(X:Cx)(zD:Expr)(t:TG):Prop :=
 ∀ (ao:List (Addr × Obj)) (s:Shared) (σ:St) (H:Hp) (v:V) (u:Value) (Q:St->Hp->Prop),Inv X ao σ H s->RelV v u->t v σ H Q->
  wpAny (model X.prog X.w) X.A (assign zD X.env u) (λ_ s'=>∃ σ' H',Inv X ao σ' H' s'/\Q σ' H') X.xe s
def YG(X:Cx)(ts:List Expr)(t:Wb):Prop :=
 ∀ (ao:List (Addr × Obj)) (s:Shared) (σ:St) (H:Hp) (vs:List V) (us:List Value) (Q:St->Hp->Prop),Inv X ao σ H s->cG vs us->t vs σ H Q->
  wpAny (model X.prog X.w) X.A (assignInOrder ((assignEach ts X.env).map (·.2)) us) (λ_ s'=>∃ σ' H',Inv X ao σ' H' s'/\Q σ' H') X.xe s
abbrev Wc:=V->V->V->Hp->(Hp->Prop)->Prop
def YH(X:Cx)(t:Wc):Prop :=
 ∀ (ao:List (Addr × Obj)) (s:Shared) (σ:St) (H:Hp) (o i v:V) (ov iv u:Value) (Q:Hp->Prop),Inv X ao σ H s->RelV o ov->RelV i iv->RelV v u->t o i v H Q->
  wpAny (model X.prog X.w) X.A (setItem ov iv u) (λ_ s'=>∃ H',Inv X ao σ H' s'/\Q H') X.xe s
abbrev TIp:=V->V->Hp->VK->Prop
def PIp(X:Cx)(op:Operator)(t:TIp):Prop :=
 ∀ (ao:List (Addr × Obj)) (s:Shared) (σ:St) (H:Hp) (x y:V) (v u:Value) (Q:VK),Inv X ao σ H s->RelV x v->RelV y u->t x y H Q->
  wpAny (model X.prog X.w) X.A (inplaceOp op v u) (EP X ao σ Q) X.xe s
section
variable {X:Cx} {pos:Pos}
def xr(i:Nat):TG:=λv σ H Q=>Q (σ.set i (some v)) H
theorem SD{i:Nat}{x:Str}(hN:X.N.Nodup)(hi:X.N[i]?=some x)(hx:Loc X.env.scope x)(hf:X.fn x=true\/X.env.scope.names.lookup x=some .local:=by first|exact .inl rfl|exact .inr rfl|assumption):PG X (.Name x pos) (xr i):=by
 intro ao s σ H v u Q I r h;exact wpAny_assign_Name (BU I hN hi hx r (λs' I'=>⟨_,H,I',h⟩) hf)
def abR:Wb:=λvs σ H Q=>vs=[]/\Q σ H
inductive YI(t:TG)(u:Wb)(vs:List V)(σ:St)(H:Hp)(Q:St->Hp->Prop):Prop
 | mk (v:V) (r:List V) (_:vs=v::r) (_:t v σ H fun σ' H'=>u r σ' H' Q)
theorem kY:YG X [] abR:=by
 intro ao s σ H vs us Q I r h;obtain⟨e,h⟩:=h;subst e;cases r;exact assignInOrder_nil ⟨σ,H,I,h⟩
theorem cB{e:Expr}{es:List Expr}{t:TG}{u:Wb}(h1:PG X e t)(h2:YG X es u)
  (hs:(assignEach (e::es) X.env).map (·.2)=assign e X.env::(assignEach es X.env).map (·.2):=by rfl):YG X (e::es) (YI t u):=by
 intro ao s σ H vs us Q I r h;obtain⟨v,vr,e1,h⟩:=h;subst e1
 cases r with
 | cons r rr =>
  rw[hs];refine assignInOrder_cons (dB (h1 ao s σ H _ _ _ I r h) λ_ s1 DH=>?_);obtain⟨σ1,H1,I1,q1⟩:=DH;exact h2 ao s1 σ1 H1 _ _ Q I1 rr q1
inductive Wd(K:PySem.W.Frag)(n:Nat)(t:Wb)(v:V)(σ:St)(H:Hp)(Q:St->Hp->Prop):Prop
 | mk (a:Addr) (xs:List V) (_:v=.ref a) (_:ef K H a xs) (_:xs.length=n) (_:t xs σ H Q):Wd K n t v σ H Q
theorem tM{es:List Expr}{k:Nat}{t:Wb}{n:Nat}(hc:X.calm=true)(h:YG X es t)
  (hn:(assignEach es X.env).length=n:=by rfl) (DK:(assignEach es X.env).findIdx? (·.1)=none:=by rfl):PG X (.Tuple es k pos) (Wd X.K n t):=by
 intro ao s σ H v u Q I r hw;obtain⟨a,xs,e1,hq,hl,hw⟩:=hw;subst e1;cases r;obtain⟨aP,rv,ht,hz⟩:=I.tuple hq;refine assign_Tuple_tuple (I.ok.hd hc) ht (by simp[hn,← hl,rv.length]) DK λh' hx=>?_;have I1:Inv X ao σ H { s with heap:=h' }:=I.kept (t':=s.toks) λb o e=>hx b o (qo (Heap.lt_size e)) e;exact h ao _ σ H xs _ Q I1 (by simpa using rv) hw
def abS(to ti:TE)(t:Wc):TG:=λv σ H Q=>to σ H λo H1=>ti σ H1 λi H2=>t o i v H2 λH3=>Q σ H3
theorem uC{i:Expr}{to ti:TE}{t:Wc}(ho:PE X o to)(hi:PE X i ti)(hs:YH X t)
  (ha:∀ v,assign (.Subscript o i pos) X.env v=(do
   let ov ← holding [v] (eval o X.env)
   let iv ← holding [v,ov] (eval i X.env)
   standAt pos
   holding [v,ov,iv] (setItem ov iv v)
   release [v,ov,iv] []):=by intro _;rfl):PG X (.Subscript o i pos) (abS to ti t):=by
 intro ao s σ H v u Q I r h;rw[ha];refine wpAny_bind (wpAny_holding (dB (ho ao s σ H _ I h) λov s1 G8=>?_));obtain⟨x,H1,I1,r1,q1⟩:=G8;refine wpAny_bind (wpAny_holding (dB (hi ao s1 σ H1 _ I1 q1) λiv s2 G9=>?_));obtain⟨y,H2,I2,r2,q2⟩:=G9;refine wpAny_bind (wpAny_standAt (wpAny_bind (wpAny_holding (dB (hs ao s2 σ H2 x y v ov iv u _ I2 r1 r2 r q2) λ_ s3 JP=>?_))));obtain⟨H3,I3,q3⟩:=JP;exact wpAny_release ⟨σ,H3,I3,q3⟩
def OW(te:TE)(g:TG):TS:=λD σ H=>te σ H λx H1=>g x σ H1 D.nx
theorem rf{e:Expr}{te:TE}{g:TG}(he:PE X e te)(hg:PG X tg g)(hs:swapsWithSole [tg] e pos.line X.env=pure false:=by rfl)(hw:swappedStores [tg] e X.env=pure none:=by rfl)
  (h1:(assignEach [tg] X.env).map (·.2)=[assign tg X.env]:=by rfl):PS X (.Assign [tg] e pos) (OW te g):=by
 intro ao s σ H D I h;refine wpAny_Assign_stores (dB (he ao s σ H _ I h) λv s1 ⟨x,H1,I1,r1,q1⟩=>?_) hs hw;rw[h1];exact dB (hg ao s1 σ H1 x v _ I1 r1 q1) λ_ s2 q=>q
theorem Wf{i:Nat}{x:Str}{e:Expr}{te:TE}(hN:X.N.Nodup)(hi:X.N[i]?=some x)(hx:Loc X.env.scope x)(he:PE X e te)(hs:swapsWith e (some (.Name x l5)) pos.line X.env=pure false:=by rfl)(hf:X.fn x=true\/X.env.scope.names.lookup x=some .local:=by first|exact .inl rfl|exact .inr rfl|assumption) :
  PS X (.Assign [.Name x l5] e pos) (OW te (xr i)):=by
 intro ao s σ H D I h;refine wpAny_Assign_Name (dB (he ao s σ H _ I h) λv s1 ⟨y,H1,I1,r1,q1⟩=>?_) hs;exact BU I1 hN hi hx r1 (λs2 I2=>⟨_,H1,I2,q1⟩) hf
def abT(i:Nat)(te:TE)(ti:TIp):TS:=λD σ H=>∃ x,σ[i]?=some (some x)/\te σ H λy H1=>ti x y H1 λz H2=>D.nx (σ.set i (some z)) H2
theorem zE{i:Nat}{x:Str}{e:Expr}{te:TE}{op:Operator}{ti:TIp}{l5:Pos}(hN:X.N.Nodup)(hi:X.N[i]?=some x)(hx:Loc X.env.scope x)(he:PE X e te)(ho:PIp X op ti)(hf:X.fn x=true\/X.env.scope.names.lookup x=some .local:=by first|exact .inl rfl|exact .inr rfl|assumption) :
  PS X (.AugAssign (.Name x l5) op e pos) (abT i te ti):=by
 intro ao s σ H D I h;obtain⟨v,e1,h⟩:=h;obtain⟨m,hn,hl⟩:=I.loc;have vis:Vis X.env.scope x:=by rcases hx with k|k;exact .inl k;exact .inr (.inl k)
 obtain⟨u,r,l⟩:=hl i x v hi e1 vis;refine wpAny_AugAssign_Name ?_
 have go:wpAny (model X.prog X.w) X.A (eval e X.env) (λw s₂=>wpAny (model X.prog X.w) X.A (inplaceOp op u w) (λr s₃=>wpAny (model X.prog X.w) X.A (storeName X.env x r) (λ_=>SP X ao D .next) X.xe s₃) X.xe s₂) X.xe s:=by
  refine dB (he ao s σ H _ I h) λw s1 DG=>?_;obtain⟨y,H1,I1,r1,q1⟩:=DG;refine dB (ho ao s1 σ H1 v y u w _ I1 r r1 q1) λz s2 G7=>?_;obtain⟨zv,H2,I2,r2,q2⟩:=G7;exact BU I2 hN hi hx r2 (λs3 I3=>⟨_,H2,I3,q2⟩) hf
 rcases l with ⟨hk,hm⟩|⟨hk,c,hc,hcell⟩
 ·exact wpAny_loadName_local I.ok.kind hk hn hm go
 ·rcases hk with hk|hk
  ·exact wpAny_loadName_cell I.ok.kind hk hc hcell go
  ·rcases hx with k|k
   ·have:X.env.scope.names.lookup x=some .free:=hk;rw[k]at this;cases this
   ·have:X.env.scope.names.lookup x=some .free:=hk;rw[k]at this;cases this
def ipI(f:Int->Int->Int):TIp:=λx y H Q=>∃ i j,x=.int i/\y=.int j/\Q (.int (f i j)) H
theorem Wg:PIp X .Add (ipI λi j=>i+j):=by
 intro ao s σ H x y v u Q I r1 r2 h;obtain⟨i,j,e1,e2,q⟩:=h;subst e1;subst e2;obtain⟨t,rfl⟩:=r1;obtain⟨t',rfl⟩:=r2;exact iadd_int ⟨.int _,H,I.tok _,⟨_,rfl⟩,q⟩
end
section
variable {X:Cx} {pos:Pos}
def Wh(c:TT)(tb:TS):TS:=λD σ H=>∃ W:Nat->St->Hp->Prop,(∃ m,W m σ H)/\∀ m σ H,W m σ H->
 c σ H λb H1=>if b=true then ∃ N:St->Hp->Prop,(∀ σ' H',N σ' H'->∃ m',m'<m/\W m' σ' H')/\tb { D with nx:=N,ct:=N,bk:=D.nx } σ H1 else D.nx σ H1
theorem B3{c:Expr}{tc:TT}{tb:TS}(hp:PassesOwn (model X.prog X.w) X.A X.env X.xe)(hc:PT X c tc)(hb:JA X body tb):PS X (.While c body [] pos) (Wh tc tb):=by
 intro ao s σ H D I h;obtain⟨W,⟨m0,w0⟩,xS⟩:=h;refine wpAny_While (codeAny_whileLoop (λn s'=>∃ σ' H',Inv X ao σ' H' s'/\W n σ' H') ?_ m0 ⟨σ,H,I,w0⟩);rintro n s1 ⟨σ1,H1,I1,w1⟩;refine wpAny_passesOwn hp (dB (hc ao s1 σ1 H1 _ I1 (xS n σ1 H1 w1)) λb s2 JO=>?_);obtain⟨H2,I2,q2⟩:=JO
 cases b with
 | true =>
  obtain⟨N,hN,q2⟩:=q2;rw[if_pos rfl];refine wpAny_passesOwn hp (dB (hb ao s2 σ1 H2 _ I2 q2) λf s3 q3=>?_)
  cases f with
  | next =>
   obtain⟨σ3,H3,I3,n3⟩:=q3;obtain⟨m',hm,w3⟩:=hN σ3 H3 n3;exact⟨m',hm,σ3,H3,I3,w3⟩
  | cont =>
   obtain⟨σ3,H3,I3,n3⟩:=q3;obtain⟨m',hm,w3⟩:=hN σ3 H3 n3;exact⟨m',hm,σ3,H3,I3,w3⟩
  | brk=>exact q3
  | ret v=>exact q3
 | false =>
  rw[if_neg vo];exact wpAny_execs_nil ⟨σ1,H2,I2,q2⟩
end
structure It where
 go:Nat->Hp->Prop
 RS:Nat->Hp->V->Hp->Prop
 stop:Nat->Hp->Prop
def vt(X:Cx)(ao:List (Addr × Obj))(H:Hp)(b:Addr):Prop :=
 H b=none/\b≠X.env.locals/\b∉X.fs/\(b∈X.ex\/X.s₀.heap.objs.size<=b)/\(∀ x c,X.env.cells.lookup x=some c->c≠b)/\∀ p∈X.pn++ao,p.1≠b
theorem Inv.OX{X:Cx}{σ:St}{H H':Hp}{s:Shared}{b:Addr}(I:Inv X ao σ H s)(hb:s.heap.objs.size<=b)(hn:H' b=none):vt X ao H' b:=by
 refine⟨hn,Nat.ne_of_gt (vp I.lt hb),I.abF hb,.inr (lS I.sz hb),λx c e z=>?_,λp hp z=>?_⟩
 ·obtain⟨v,q⟩:=I.cell x c e;exact absurd (vp q.lt (by rw[z];exact hb)) (Nat.lt_irrefl _)
 ·exact absurd (vp (Heap.lt_size (I.pin p hp).1) (by rw[z];exact hb)) (Nat.lt_irrefl _)
structure M7(P:Program)(w:World)(K:PySem.W.Frag)(tg:Expr)(J:It)(fp:List Addr)(it:Addr)(tn:Nat->Heap->Prop):Prop where
 mem:it∈fp
 obj:∀ i h,tn i h->∀ b∈fp,∃ o,h.get? b=some o/\∀ v,o.data≠.cell v
 keep:∀ i h h',tn i h->(∀ b∈fp,∀ o,h.get? b=some o->h'.get? b=some o)->tn i h'
 item:∀ (X:Cx),X.prog=P->X.w=w->X.K=K->X.calm=true->∀ (i:Nat) (ao:List (Addr × Obj)) (s:Shared) (σ:St) (H:Hp) (E:Value->Shared->Prop),Inv X ao σ H s->(∀ b∈fp,vt X ao H b)->tn i s.heap->J.go i H->
  wpAny (model P w) X.A (pyNext (.ref it)) (λr s1=>∃ u,r=some u/\
   wpAny (model P w) X.A (letOwnedTupleGo tg (.ref it) u) (λ_ s2=>∃ x H',Inv X ao σ H' s2/\RelV x u/\J.RS i H x H'/\tn (i+1) s2.heap/\∀ b∈fp,H' b=none) E s1) E s
 done:∀ (X:Cx),X.prog=P->X.w=w->X.K=K->X.calm=true->∀ (i:Nat) (ao:List (Addr × Obj)) (s:Shared) (σ:St) (H:Hp) (E:Value->Shared->Prop),Inv X ao σ H s->(∀ b∈fp,vt X ao H b)->tn i s.heap->J.stop i H->
  wpAny (model P w) X.A (pyNext (.ref it)) (λr s1=>r=none/\Inv X ao σ H s1) E s
 self:∀ (A:Around) (i:Nat) (s:Shared) (Q:Value->Shared->Prop) (E:Value->Shared->Prop),tn i s.heap->Q (.ref it) s->wpAny (model P w) A (pyIter (.ref it)) Q E s
abbrev TI:=St->Hp->(It->Hp->Prop)->Prop
def PIE(X:Cx)(ao:List (Addr × Obj))(σ:St)(tg:Expr)(R:It->Hp->Prop)(YJ:Value)(s2:Shared):Prop :=
 ∃ (it:Addr) (fp:List Addr) (tn:Nat->Heap->Prop) (J:It) (H':Hp),YJ=.ref it/\Inv X ao σ H' s2/\M7 X.prog X.w X.K tg J fp it tn/\tn 0 s2.heap/\(∀ b∈fp,vt X ao H' b)/\R J H'
def PI(X:Cx)(tg iter:Expr)(wi:TI):Prop :=
 ∀ (ao:List (Addr × Obj)) (s:Shared) (σ:St) (H:Hp) (R:It->Hp->Prop),Inv X ao σ H s->wi σ H R->
  wpAny (model X.prog X.w) X.A (eval iter X.env) (λv s1=>wpAny (model X.prog X.w) X.A (pyIter v) (PIE X ao σ tg R) X.xe s1) X.xe s
theorem Ll{M:Model}{A:Around}{E:Value->Shared->Prop}{s:Shared}{it:Addr}{u:Value}{o:Obj}{n:String}{vs:Array Value}{Q:Unit->Shared->Prop}(ho:s.heap.get? it=some o)(hc:o.cls=.type n)(hd:o.data=.fields vs)
  (hn:["enumerate","zip","dict_itemiterator","dict_reverseitemiterator","odict_iterator","itertools.zip_longest","itertools.pairwise"].contains n=false) (hQ:Q () s):wpAny M A (letOwnedTupleGo tg (.ref it) u) Q E s:=by
 unfold letOwnedTupleGo
 cases tg <;> first
  | exact wpAny_pure hQ
  | (cases u <;> first
    | exact wpAny_pure hQ
    | (refine wpAny_bind (wpAny_load ho ?_);rw[hc,hd];show wpAny M A (if (["enumerate","zip","dict_itemiterator","dict_reverseitemiterator","odict_iterator","itertools.zip_longest","itertools.pairwise"].contains n&&vs[0]? == some (rawInt _))=true then _ else _) Q E s;rw[if_neg (by intro h;rw[hn,Bool.false_and]at h;cases h)];exact wpAny_pure hQ))
def RT(K:PySem.W.Frag)(a:Addr):It :=
 ⟨λi H=>∃ xs x,bR K H a xs/\xs[i]?=some x,λi H x H'=>H'=H/\∀ xs,bR K H a xs->xs[i]?=some x,λi H=>∃ xs,bR K H a xs/\xs.length<=i⟩
def YK(K:PySem.W.Frag)(a:Addr):It :=
 ⟨λi H=>∃ xs x,ef K H a xs/\xs[i]?=some x,λi H x H'=>H'=H/\∀ xs,ef K H a xs->xs[i]?=some x,λi H=>∃ xs,ef K H a xs/\xs.length<=i⟩
def Wi(lo:Int)(n:Nat):It:=⟨λi _=>i<n,λi H x H'=>H'=H/\x=.int (lo+i),λi _=>n<=i⟩
theorem M8{P:Program}{w:World}{K:PySem.W.Frag}(a it:Addr):M7 P w K tg (RT K a) [it] it (λi h=>h.IsListIter it a i) where
 mem:=by simp
 obj:=λi h st b hb=>by
  have e:b=it:=by simpa using hb
  subst e;obtain⟨o,e,c,d⟩:=st;exact⟨o,e,λv z=>by rw[d]at z;cases z⟩
 keep:=λi h h' st k=>st.at λo e=>k it (by simp) o e
 item:=by
  intro X hP hw hK hc i ao s σ H E I hf st hg;subst hP hw hK;obtain⟨xs,x,hq,hx⟩:=hg;obtain⟨aP,rv,p,hz⟩:=I.list hq;obtain⟨u,hu,ru⟩:=rv.get hx;obtain⟨f0,f1,f2,f3,f4,f5⟩:=hf it (by simp);refine wpAny_pyNext_list_item st p.isList (x:=u) (by simpa using hu) λh' By sb=>?_;have I1:Inv X ao σ H { s with heap:=h' }:=I.turned (t':=s.toks) (λb o hb e=>(sb.2 b hb).trans e) f0 f1 f3 f4 f5;obtain⟨o,e,c,d⟩:=id By;exact⟨u,rfl,Ll (s:={ s with heap:=h' }) e c d (by decide) ⟨x,H,I1,ru,⟨rfl,λys hy=>by rw[I.Hf hy hq];exact hx⟩,By,λb hb=>(hf b hb).1⟩⟩
 done:=by
  intro X hP hw hK hc i ao s σ H E I hf st hg;subst hP hw hK;obtain⟨xs,hq,hx⟩:=hg;obtain⟨aP,rv,p,hz⟩:=I.list hq;obtain⟨f0,f1,f2,f3,f4,f5⟩:=hf it (by simp);have hl:=rv.length;exact wpAny_pyNext_list_end (I.ok.hd hc) st p.isList (by simp;omega) λh' eb=>⟨rfl,I.turned (t':=s.toks) (λb o hb e=>eb b o hb e) f0 f1 f3 f4 f5⟩
 self:=λ_ _ _ _ _ st h=>wpAny_pyIter_listiter st h
theorem JQ{P:Program}{w:World}{K:PySem.W.Frag}(a it:Addr):M7 P w K tg (YK K a) [it] it (λi h=>h.IsTupleIter it a i) where
 mem:=by simp
 obj:=λi h st b hb=>by
  have e:b=it:=by simpa using hb
  subst e;obtain⟨o,e,c,d⟩:=st;exact⟨o,e,λv z=>by rw[d]at z;cases z⟩
 keep:=λi h h' st k=>st.at λo e=>k it (by simp) o e
 item:=by
  intro X hP hw hK hc i ao s σ H E I hf st hg;subst hP hw hK;obtain⟨xs,x,hq,hx⟩:=hg;obtain⟨aP,rv,p,hz⟩:=I.tuple hq;obtain⟨u,hu,ru⟩:=rv.get hx;obtain⟨f0,f1,f2,f3,f4,f5⟩:=hf it (by simp);refine wpAny_pyNext_tuple_item st (show s.heap.IsTuple a aP.toArray from p) (x:=u) (by simpa using hu) λh' By sb=>?_;have I1:Inv X ao σ H { s with heap:=h' }:=I.turned (t':=s.toks) (λb o hb e=>(sb.2 b hb).trans e) f0 f1 f3 f4 f5;obtain⟨o,e,c,d⟩:=id By;exact⟨u,rfl,Ll (s:={ s with heap:=h' }) e c d (by decide) ⟨x,H,I1,ru,⟨rfl,λys hy=>by rw[I.Er hy hq];exact hx⟩,By,λb hb=>(hf b hb).1⟩⟩
 done:=by
  intro X hP hw hK hc i ao s σ H E I hf st hg;subst hP hw hK;obtain⟨xs,hq,hx⟩:=hg;obtain⟨aP,rv,p,hz⟩:=I.tuple hq;obtain⟨f0,f1,f2,f3,f4,f5⟩:=hf it (by simp);have hl:=rv.length;exact wpAny_pyNext_tuple_end (I.ok.hd hc) st (show s.heap.IsTuple a aP.toArray from p) (by simp;omega) λh' eb=>⟨rfl,I.turned (t':=s.toks) (λb o hb e=>eb b o hb e) f0 f1 f3 f4 f5⟩
 self:=λ_ _ _ _ _ st h=>wpAny_pyIter_tupleiter st h
theorem JR{P:Program}{w:World}{K:PySem.W.Frag}(it:Addr)(lo:Int)(n:Nat):M7 P w K tg (Wi lo n) [it] it (λi h=>IsRangeIter h it (lo+(i:Nat)*1) ((n:Int)-(i:Nat)) 1) where
 mem:=by simp
 obj:=λi h st b hb=>by
  have e:b=it:=by simpa using hb
  subst e
  exact⟨_,st,λv z=>by
   have z':Data.fields _=Data.cell v:=z
   cases z'⟩
 keep:=λi h h' st k=>k it (by simp) _ st
 item:=by
  intro X hP hw hK hc i ao s σ H E I hf st hg;subst hP hw hK;obtain⟨f0,f1,f2,f3,f4,f5⟩:=hf it (by simp);have W:=Walks.range (prog:=X.prog) (w:=X.w) (I.ok.hd hc) it lo 1 n;refine W.item i s _ _ hg st λv h' tk hv By kk=>?_;obtain⟨t,rfl⟩:=hv;have I1:Inv X ao σ H { s with heap:=h',toks:=tk }:=I.turned (λb o hb e=>kk b o (by simpa using hb) e) f0 f1 f3 f4 f5;refine⟨_,rfl,Ll (s:={ s with heap:=h',toks:=tk }) (n:="range_iterator") By rfl rfl (by decide) ⟨.int (lo+i),H,I1,⟨t,?_⟩,⟨rfl,rfl⟩,By,λb hb=>(hf b hb).1⟩⟩;rw[Int.mul_one]
 done:=by
  intro X hP hw hK hc i ao s σ H E I hf st hg;subst hP hw hK;obtain⟨f0,f1,f2,f3,f4,f5⟩:=hf it (by simp);exact wpAny_pyNext_range_end (I.ok.hd hc) st (by have:n<=i:=hg;omega) λh' eb=>⟨rfl,I.turned (t':=s.toks) (λb o hb e=>eb b o hb e) f0 f1 f3 f4 f5⟩
 self:=λ_ _ _ _ _ st h=>wpAny_pyIter_rangeiter st h
end L2
namespace L2
open PySem.Spec PyProof.Rows
section
variable {X:Cx} {tg:Expr}
inductive isL(K:PySem.W.Frag)(x:V)(H:Hp)(R:It->Hp->Prop):Prop
 | mk (a:Addr) (_:x=.ref a) (_:∃ xs,bR K H a xs) (_:R (RT K a) H)
def UK(K:PySem.W.Frag)(tl:TE):TI:=fun σ H R=>tl σ H λx H1=>isL K x H1 R
def abU(K:PySem.W.Frag)(tl:TE):TI:=fun σ H R=>tl σ H λx H1=>∃ a,x=.ref a/\(∃ xs,ef K H1 a xs)/\R (YK K a) H1
theorem cX{tl:TE}(hl:PE X l tl):PI X tg l (UK X.K tl):=by
 intro ao s σ H R I h;refine dB (hl ao s σ H _ I h) λv s1 DG=>?_;obtain⟨x,H1,I1,r1,q1⟩:=DG;obtain⟨a,e,⟨xs,hq⟩,q⟩:=q1;subst e;cases r1;obtain⟨aP,rv,p,hz⟩:=I1.list hq;refine wpAny_pyIter_list p.isList ?_;refine⟨s1.heap.objs.size,[s1.heap.objs.size],_,_,H1,rfl,I1.kept (t':=s1.toks) λb o e=>Heap.get?_push_of_some _ e,M8 a _,⟨_,Heap.get?_push_size _ rfl,rfl,rfl⟩,λb hb=>?_,q⟩;have e:b=s1.heap.objs.size:=by simpa using hb
 subst e;exact I1.OX (jz _) (I1.hok.fresh (jz _))
theorem Wj{tl:TE}(hl:PE X l tl):PI X tg l (abU X.K tl):=by
 intro ao s σ H R I h;refine dB (hl ao s σ H _ I h) λv s1 G7=>?_;obtain⟨x,H1,I1,r1,q1⟩:=G7;obtain⟨a,e,⟨xs,hq⟩,q⟩:=q1;subst e;cases r1;obtain⟨aP,rv,p,hz⟩:=I1.tuple hq;refine wpAny_pyIter_tuple (show s1.heap.IsTuple a aP.toArray from p) ?_;refine⟨s1.heap.objs.size,[s1.heap.objs.size],_,_,H1,rfl,I1.kept (t':=s1.toks) λb o e=>Heap.get?_push_of_some _ e,JQ a _,⟨_,Heap.get?_push_size _ rfl,rfl,rfl⟩,λb hb=>?_,q⟩;have e:b=s1.heap.objs.size:=by simpa using hb
 subst e;exact I1.OX (jz _) (I1.hok.fresh (jz _))
theorem OY{σ:St}{H:Hp}{s:Shared}{R:It->Hp->Prop}{E:Value->Shared->Prop}{lo hi:Int}{t u v:Tok}{tk:Nat}(I:Inv X ao σ H s)(h1:-(2^62)<=lo)(h2:lo<2^62)(h3:-(2^62)<=hi)(h4:hi<2^62)
  (q:R (Wi lo (hi-lo).toNat) H):wpAny (model X.prog X.w) X.A (pyIter (.ref s.heap.objs.size)) (PIE X ao σ tg R) E { s with heap:=s.heap.push { cls:=.type "range",data:=.fields #[.int lo t,.int hi u,.int 1 v] },toks:=tk }:=by
 refine wpAny_pyIter_range (IsRange.new ..) (small_one h1 h2 h3 h4) ?_;have I1:Inv X ao σ H { s with heap:=s.heap.push { cls:=.type "range",data:=.fields #[.int lo t,.int hi u,.int 1 v] },toks:=tk }:=I.kept λb o e=>Heap.get?_push_of_some _ e;refine⟨(s.heap.push { cls:=.type "range",data:=.fields #[.int lo t,.int hi u,.int 1 v] }).objs.size,[(s.heap.push { cls:=.type "range",data:=.fields #[.int lo t,.int hi u,.int 1 v] }).objs.size],_,_,H,rfl, I1.kept (t':=tk) λb o e=>Heap.get?_push_of_some _ e,JR _ lo (hi-lo).toNat,?_,λb hb=>?_,q⟩
 ·have e1:lo+((0:Nat):Int)*1=lo:=by simp
  have e2:(((hi-lo).toNat:Nat):Int)-((0:Nat):Int)=Builtin.Range.rangeSize lo hi 1:=by rw[rangeSize_one];split <;> omega
  show IsRangeIter _ _ (lo+((0:Nat):Int)*1) ((((hi-lo).toNat:Nat):Int)-((0:Nat):Int)) 1;rw[e1,e2];exact Heap.get?_push_size _ rfl
 ·have e:b=(s.heap.push { cls:=.type "range",data:=.fields #[.int lo t,.int hi u,.int 1 v] }).objs.size:=by simpa using hb
  subst e;exact I1.OX (jz _) (I1.hok.fresh (jz _))
inductive isR(vs:List V)(H:Hp)(R:It->Hp->Prop):Prop
 | mk (j:Int) (_:vs=[.int j]) (_:-(2^62)<=j) (_:j<2^62) (_:R (Wi 0 j.toNat) H)
def YL(ta:TA):TI:=fun σ H R=>ta σ H λvs H1=>isR vs H1 R
theorem kZ{a:Expr}{ta:TA}{p:Pos}(hg:Gl X "range")(hm:X.mg "range"=none)(ha:PA X [a] ta)(hs:starEach [a] X.env=[(false,eval a X.env)]:=by rfl):PI X tg (.Call (.Name "range" p) [a] [] pos) (YL ta):=by
 intro ao s σ H R I h;refine Call_ (BW I hg hm boot_range (PyProof.Rows.callWith_type1 (dB (ha pos ao s σ H _ I h) λus s1 ⟨vs,H1,I1,r1,q1⟩=>?_) hs rfl));obtain⟨j,e,q1,q2,q⟩:=q1;subst e
 cases r1 with
 | cons r rr =>
  cases rr;obtain⟨t,rfl⟩:=r;exact call_range_1 (OY I1 (by omega) (by omega) q1 q2 (by simpa using q))
def abV(wi:TI)(g:TG)(tb:TS):TS:=λD σ H=>wi σ H λJ H1=>∃ W:Nat->Nat->St->Hp->Prop,(∃ m,W 0 m σ H1)/\∀ i m σ H,W i m σ H->
 (J.stop i H/\D.nx σ H)\/(J.go i H/\∃ N:St->Hp->Prop,(∀ σ' H',N σ' H'->∃ m',m'<m/\W (i+1) m' σ' H')/\∀ x H',J.RS i H x H'->g x σ H' fun σ2 H2=>tb { D with nx:=N,ct:=N,bk:=D.nx } σ2 H2)
def xT(fp:List Addr)(h:Heap):List (Addr × Obj):=fp.filterMap λb=>(h.get? b).map λo=>(b,o)
theorem j6{fp:List Addr}{h:Heap}{b:Addr}{o:Obj}(hb:b∈fp)(e:h.get? b=some o):(b,o)∈xT fp h:=List.mem_filterMap.mpr ⟨b,hb,by rw[e];rfl⟩
theorem M9{fp:List Addr}{h:Heap}{p:Addr × Obj}(hp:p∈xT fp h):p.1∈fp/\h.get? p.1=some p.2:=by
 obtain⟨b,hb,e⟩:=List.mem_filterMap.mp hp
 cases q:h.get? b with
 | none=>rw[q]at e;cases e
 | some o =>
  rw[q]at e;have e':(b,o)=p:=vG e;subst e';exact⟨hb,q⟩
theorem Inv.pinned{σ:St}{H:Hp}{s:Shared}{fp:List Addr}(I:Inv X ao σ H s)(hf:∀ b∈fp,vt X ao H b)(ho:∀ b∈fp,∃ o,s.heap.get? b=some o/\∀ v,o.data≠.cell v):Inv X (ao++xT fp s.heap) σ H s :=
 I.Lh λp hp=>(List.mem_append.mp hp).elim (λz=>I.pin p (uy _ z)) λz=>by
  obtain⟨hb,e⟩:=M9 z;obtain⟨f0,f1,f2,_⟩:=hf p.1 hb;obtain⟨o,e',d⟩:=ho p.1 hb;rw[e]at e';cases e';exact⟨e,f0,f1,f2,d⟩
theorem Inv.tY{pl:List (Addr × Obj)}{σ:St}{H:Hp}{s:Shared}(I:Inv X (ao++pl) σ H s):Inv X ao σ H s:=I.Lh λp hp=>I.pin p (uy _ (xR _ hp))
theorem gz{iter:Expr}{wi:TI}{g:TG}{tb:TS}(hp:PassesOwn (model X.prog X.w) X.A X.env X.xe)(hc:X.calm=true)(hi:PI X tg iter wi)(hg:PG X tg g)(hb:JA X body tb)
  (hs:∀ x,foldedSetIterable iter X.env x=pure x:=by intro _;rfl):PS X (.For tg iter body [] pos) (abV wi g tb):=by
 intro ao s σ H D I h;refine wpAny_For (dB (hi ao s σ H _ I h) λv s1 h1=>dB h1 λYJ s2 h2=>?_) hs;obtain⟨it,fp,tn,J,H2,e,I2,T,st2,f2,W,⟨m0,w0⟩,xS⟩:=h2;subst e;have xU:∀ {H':Hp},(∀ b∈fp,H' b=none)->∀ b∈fp,vt X ao H' b:=λhn b hb=>⟨hn b hb,(f2 b hb).2⟩;refine codeAny_forLoop_any (λn s'=>∃ i σ' H',Inv X ao σ' H' s'/\tn i s'.heap/\(∀ b∈fp,H' b=none)/\W i n σ' H') ?_ m0 ⟨0,σ,H2,I2,st2,λb hb=>(f2 b hb).1,w0⟩;rintro n s3 ⟨i,σ3,H3,I3,st3,OZ,w3⟩;rcases xS i n σ3 H3 w3 with ⟨stop,qn⟩|⟨go,N,hN,step⟩
 ·refine wpAny_passesOwn hp (dB (T.done X rfl rfl rfl hc i ao s3 σ3 H3 X.xe I3 (xU OZ) st3 stop) λr s4 DH=>?_);obtain⟨hr,I4⟩:=DH;subst hr;exact wpAny_execs_nil ⟨σ3,H3,I4,qn⟩
 ·refine wpAny_passesOwn hp (dB (T.item X rfl rfl rfl hc i ao s3 σ3 H3 X.xe I3 (xU OZ) st3 go) λr s4 G8=>?_);obtain⟨u,hr,h4⟩:=G8;subst hr;refine wpAny_passesOwn hp (dB h4 λ_ s5 G9=>?_);obtain⟨x,H5,I5,r5,y5,X4,X5⟩:=G9;have I5':=I5.pinned (xU X5) (T.obj _ _ X4);refine wpAny_passesOwn hp (dB (hg _ s5 σ3 H5 x u _ I5' r5 (step x H5 y5)) λ_ s6 JP=>?_);obtain⟨σ6,H6,I6,q6⟩:=JP;refine wpAny_passesOwn hp (dB (hb _ s6 σ6 H6 _ I6 q6) λf s7 q7=>?_)
  have again:∀ {σ7:St} {H7:Hp},Inv X (ao++xT fp s5.heap) σ7 H7 s7->N σ7 H7->∃ m,m<n/\∃ i σ' H',Inv X ao σ' H' s7/\tn i s7.heap/\(∀ b∈fp,H' b=none)/\W i m σ' H':=λ{σ7 H7} I7 n7=>by
   obtain⟨m',hm,w7⟩:=hN σ7 H7 n7;refine⟨m',hm,i+1,σ7,H7,I7.tY,T.keep _ _ _ X4 λb hb o e=>(I7.pin (b,o) (uy _ (uy _ (j6 hb e)))).1,λb hb=>?_,w7⟩;obtain⟨o,e,d⟩:=T.obj _ _ X4 b hb;exact (I7.pin (b,o) (uy _ (uy _ (j6 hb e)))).2.1
  cases f with
  | next=>obtain⟨σ7,H7,I7,n7⟩:=q7;exact again I7 n7
  | cont=>obtain⟨σ7,H7,I7,n7⟩:=q7;exact again I7 n7
  | brk=>obtain⟨σ7,H7,I7,q7⟩:=q7;exact⟨σ7,H7,I7.tY,q7⟩
  | ret v=>obtain⟨x7,σ7,H7,I7,r7,q7⟩:=q7;exact⟨x7,σ7,H7,I7.tY,r7,q7⟩
end
theorem eS{K:PySem.W.Frag}{a:Addr}{xs:List V}{g:TG}{tb:TS}{D:Ends}{σ:St}{H:Hp}(Pv:Nat->St->Hp->Prop)(h0:Pv 0 σ H)(hl:∀ i σ H,i<=xs.length->Pv i σ H->bR K H a xs)
  (hs:∀ i x σ H,xs[i]?=some x->Pv i σ H->g x σ H fun σ2 H2=>tb { D with nx:=Pv (i+1),ct:=Pv (i+1),bk:=D.nx } σ2 H2) (hd:∀ σ H,Pv xs.length σ H->D.nx σ H) :
  ∃ W:Nat->Nat->St->Hp->Prop,(∃ m,W 0 m σ H)/\∀ i m σ H,W i m σ H->
   ((RT K a).stop i H/\D.nx σ H)\/((RT K a).go i H/\∃ N:St->Hp->Prop,(∀ σ' H',N σ' H'->∃ m',m'<m/\W (i+1) m' σ' H')/\∀ x H',(RT K a).RS i H x H'->g x σ H' fun σ2 H2=>tb { D with nx:=N,ct:=N,bk:=D.nx } σ2 H2):=by
 refine⟨λi m σ H=>m=xs.length-i/\i<=xs.length/\Pv i σ H,⟨xs.length,by simp,Nat.zero_le _,h0⟩,?_⟩;rintro i m σ H ⟨rfl,hi,p⟩;have q:=hl i σ H hi p;by_cases xu:i<xs.length
 ·refine .inr ⟨⟨xs,xs[i],q,by simp[xu]⟩,Pv (i+1),fun σ' H' p'=>⟨xs.length-(i+1),by omega,rfl,xu,p'⟩,λx H' y=>?_⟩;obtain⟨e,y⟩:=y;subst e;exact hs i x σ _ (y xs q) p
 ·have e:i=xs.length:=by omega
  subst e;exact .inl ⟨⟨xs,q,jz _⟩,hd σ H p⟩
theorem SE{K:PySem.W.Frag}{a:Addr}{xs:List V}{g:TG}{tb:TS}{D:Ends}{σ:St}{H:Hp}(Pv:Nat->St->Hp->Prop)(h0:Pv 0 σ H)(hl:∀ i σ H,i<=xs.length->Pv i σ H->ef K H a xs)
  (hs:∀ i x σ H,xs[i]?=some x->Pv i σ H->g x σ H fun σ2 H2=>tb { D with nx:=Pv (i+1),ct:=Pv (i+1),bk:=D.nx } σ2 H2) (hd:∀ σ H,Pv xs.length σ H->D.nx σ H) :
  ∃ W:Nat->Nat->St->Hp->Prop,(∃ m,W 0 m σ H)/\∀ i m σ H,W i m σ H->
   ((YK K a).stop i H/\D.nx σ H)\/((YK K a).go i H/\∃ N:St->Hp->Prop,(∀ σ' H',N σ' H'->∃ m',m'<m/\W (i+1) m' σ' H')/\∀ x H',(YK K a).RS i H x H'->g x σ H' fun σ2 H2=>tb { D with nx:=N,ct:=N,bk:=D.nx } σ2 H2):=by
 refine⟨λi m σ H=>m=xs.length-i/\i<=xs.length/\Pv i σ H,⟨xs.length,by simp,Nat.zero_le _,h0⟩,?_⟩;rintro i m σ H ⟨rfl,hi,p⟩;have q:=hl i σ H hi p;by_cases xu:i<xs.length
 ·refine .inr ⟨⟨xs,xs[i],q,by simp[xu]⟩,Pv (i+1),fun σ' H' p'=>⟨xs.length-(i+1),by omega,rfl,xu,p'⟩,λx H' y=>?_⟩;obtain⟨e,y⟩:=y;subst e;exact hs i x σ _ (y xs q) p
 ·have e:i=xs.length:=by omega
  subst e;exact .inl ⟨⟨xs,q,jz _⟩,hd σ H p⟩
theorem qT{lo:Int}{n:Nat}{g:TG}{tb:TS}{D:Ends}{σ:St}{H:Hp}(Pv:Nat->St->Hp->Prop)(h0:Pv 0 σ H)
  (hs:∀ i σ H,i<n->Pv i σ H->g (.int (lo+i)) σ H fun σ2 H2=>tb { D with nx:=Pv (i+1),ct:=Pv (i+1),bk:=D.nx } σ2 H2) (hd:∀ σ H,Pv n σ H->D.nx σ H) :
  ∃ W:Nat->Nat->St->Hp->Prop,(∃ m,W 0 m σ H)/\∀ i m σ H,W i m σ H->
   ((Wi lo n).stop i H/\D.nx σ H)\/((Wi lo n).go i H/\∃ N:St->Hp->Prop,(∀ σ' H',N σ' H'->∃ m',m'<m/\W (i+1) m' σ' H')/\∀ x H',(Wi lo n).RS i H x H'->g x σ H' fun σ2 H2=>tb { D with nx:=N,ct:=N,bk:=D.nx } σ2 H2):=by
 refine⟨λi m σ H=>m=n-i/\i<=n/\Pv i σ H,⟨n,by simp,Nat.zero_le _,h0⟩,?_⟩;rintro i m σ H ⟨rfl,hi,p⟩;by_cases xu:i<n
 ·refine .inr ⟨xu,Pv (i+1),fun σ' H' p'=>⟨n-(i+1),by omega,rfl,xu,p'⟩,λx H' y=>?_⟩;obtain⟨e,y⟩:=y;subst e y;exact hs i σ _ xu p
 ·have e:i=n:=by omega
  subst e;exact .inl ⟨Nat.le_refl _,hd σ H p⟩
end L2
namespace L2
open PySem.Spec PyProof.Rows
abbrev R2:=V->V->Hp->VK->Prop
def yv(X:Cx)(f:Value->Value->Sem Value)(r:R2):Prop :=
 ∀ (ao:List (Addr × Obj)) (s:Shared) (σ:St) (H:Hp) (x y:V) (v u:Value) (Q:VK),Inv X ao σ H s->RelV x v->RelV y u->r x y H Q->
  wpAny (model X.prog X.w) X.A (f v u) (EP X ao σ Q) X.xe s
def UnR(X:Cx)(f:Value->Sem Value)(r:V->Hp->VK->Prop):Prop :=
 ∀ (ao:List (Addr × Obj)) (s:Shared) (σ:St) (H:Hp) (x:V) (v:Value) (Q:VK),Inv X ao σ H s->RelV x v->r x H Q->
  wpAny (model X.prog X.w) X.A (f v) (EP X ao σ Q) X.xe s
def pR(X:Cx)(f:Value)(r:List V->Hp->VK->Prop):Prop :=
 ∀ (ao:List (Addr × Obj)) (s:Shared) (σ:St) (H:Hp) (xs:List V) (us:List Value) (Q:VK),Inv X ao σ H s->cG xs us->r xs H Q->
  wpAny (model X.prog X.w) X.A (call f us) (EP X ao σ Q) X.xe s
def abX(X:Cx)(r:V->Hp->(Bool->Hp->Prop)->Prop):Prop :=
 ∀ (ao:List (Addr × Obj)) (s:Shared) (σ:St) (H:Hp) (x:V) (v:Value) (Q:Bool->Hp->Prop),Inv X ao σ H s->RelV x v->r x H Q->
  wpAny (model X.prog X.w) X.A (truthy v) (TP X ao σ Q) X.xe s
def YM(r:R2)(ta tb:TE):TE:=fun σ H Q=>ta σ H λx H1=>tb σ H1 λy H2=>r x y H2 Q
def tUn(r:V->Hp->VK->Prop)(ta:TE):TE:=fun σ H Q=>ta σ H λx H1=>r x H1 Q
inductive rI(C:Int->Int->Prop)(g:Int->Int->V)(x y:V)(H:Hp)(Q:VK):Prop
 | mk (i j:Int) (_:x=.int i) (_:y=.int j) (_:C i j) (_:Q (g i j) H):rI C g x y H Q
inductive UL(g:Int->Int->V)(x y:V)(H:Hp)(Q:VK):Prop
 | mk (i j:Int) (_:x=.int i) (_:y=.int j) (_:Q (g i j) H)
def rU(g:Int->V):V->Hp->VK->Prop:=λx H Q=>∃ i,x=.int i/\Q (g i) H
section
variable {X:Cx} {a b c:Expr} {ta tb tc:TE} {pos:Pos}
theorem Wk(ha:PE X a ta)(hb:PE X b tb){ao:List (Addr × Obj)}{s:Shared}{σ:St}{H:Hp}{R:V->V->Hp->Prop}(I:Inv X ao σ H s)
  (h:ta σ H λx H1=>tb σ H1 λy H2=>R x y H2) {Q:Value->Shared->Prop} {f:Value->Value->Sem Value}
  (hf:∀ v u s2 x y H2,Inv X ao σ H2 s2->RelV x v->RelV y u->R x y H2->wpAny (model X.prog X.w) X.A (f v u) Q X.xe s2) :
  wpAny (model X.prog X.w) X.A (eval a X.env) (λv s₁=>wpAny (model X.prog X.w) X.A (eval b X.env) (λu s₂=>wpAny (model X.prog X.w) X.A (f v u) Q X.xe s₂) X.xe s₁) X.xe s:=by
 refine dB (ha ao s σ H _ I h) λv s1 JO=>?_;obtain⟨x,H1,I1,r1,q1⟩:=JO;refine dB (hb ao s1 σ H1 _ I1 q1) λu s2 DG=>?_;obtain⟨y,H2,I2,r2,q2⟩:=DG;exact hf v u s2 x y H2 I2 r1 r2 q2
theorem bC{op:Operator}{r:R2}(ho:yv X (binaryOp op) r)(ha:PE X a ta)(hb:PE X b tb):PE X (.BinOp a op b pos) (YM r ta tb):=by
 intro ao s σ H Q I h;exact wpAny_BinOp (Wk ha hb I h λv u s2 x y H2 I2 rx ry q=>ho ao s2 σ H2 x y v u Q I2 rx ry q)
theorem jF{op:UnaryOp}{r:V->Hp->VK->Prop}(ho:UnR X (unaryOp op) r)(ha:PE X a ta):PE X (.UnaryOp op a pos) (tUn r ta):=by
 intro ao s σ H Q I h;exact UnaryOp_ (dB (ha ao s σ H _ I h) λv s1 ⟨x,H1,I1,r1,q1⟩=>ho ao s1 σ H1 x v Q I1 r1 q1)
theorem opI{f:Value->Value->Sem Value}{C:Int->Int->Prop}{g:Int->Int->Int}
  (rule:∀ (i j:Int) (t u:Tok) (s:Shared) (Q:Value->Shared->Prop) (E:Value->Shared->Prop),C i j->Q (.int (g i j) s.toks) { s with toks:=s.toks+1 }->wpAny (model X.prog X.w) X.A (f (.int i t) (.int j u)) Q E s) :
  yv X f (rI C λi j=>.int (g i j)):=by
 intro ao s σ H x y v u Q I rx ry h;obtain⟨i,j,rfl,rfl,hc,q⟩:=h;obtain⟨t,rfl⟩:=rx;obtain⟨t',rfl⟩:=ry;exact rule i j t t' s _ _ hc ⟨.int (g i j),H,I.tok _,⟨_,rfl⟩,q⟩
theorem YN{f:Value->Value->Sem Value}{g:Int->Int->Int}
  (rule:∀ (i j:Int) (t u:Tok) (s:Shared) (Q:Value->Shared->Prop) (E:Value->Shared->Prop),Q (.int (g i j) s.toks) { s with toks:=s.toks+1 }->wpAny (model X.prog X.w) X.A (f (.int i t) (.int j u)) Q E s) :
  yv X f (UL λi j=>.int (g i j)):=by
 intro ao s σ H x y v u Q I rx ry h;obtain⟨i,j,rfl,rfl,q⟩:=h;obtain⟨t,rfl⟩:=rx;obtain⟨t',rfl⟩:=ry;exact rule i j t t' s _ _ ⟨.int (g i j),H,I.tok _,⟨_,rfl⟩,q⟩
theorem SG{f:Value->Value->Sem Value}{g:Int->Int->Bool}
  (rule:∀ (i j:Int) (t u:Tok) (s:Shared) (Q:Value->Shared->Prop) (E:Value->Shared->Prop),Q (.bool (g i j)) s->wpAny (model X.prog X.w) X.A (f (.int i t) (.int j u)) Q E s) :
  yv X f (UL λi j=>.bl (g i j)):=by
 intro ao s σ H x y v u Q I rx ry h;obtain⟨i,j,rfl,rfl,q⟩:=h;obtain⟨t,rfl⟩:=rx;obtain⟨t',rfl⟩:=ry;exact rule i j t t' s _ _ ⟨.bl (g i j),H,I,rfl,q⟩
def abY(i j:Int):Prop:=0<=j/\j<=1000000/\i.natAbs<2^64
def Wl(i j:Int):Prop:=(-(2^64)<i/\i<2^64)\/(-(2^64)<j/\j<2^64)
theorem Wl.ok{i j:Int}(h:Wl i j):IntMulOk i j:=by
 rcases h with ⟨h1,h2⟩|⟨h1,h2⟩
 ·exact .of_left (intBits_le_64 h1 h2)
 ·exact .of_right (intBits_le_64 h1 h2)
theorem gj:yv X (binaryOp .Add) (UL λi j=>.int (i+j)):=YN λ_ _ _ _ _ _ _ q=>add_int q
theorem dm:yv X (binaryOp .Sub) (UL λi j=>.int (i-j)):=YN λ_ _ _ _ _ _ _ q=>sub_int q
theorem JS:yv X (binaryOp .Mult) (rI Wl λi j=>.int (i*j)):=opI λ_ _ _ _ _ _ _ hc q=>mul_int q hc.ok
theorem B4:yv X (binaryOp .Mod) (rI (λ_ j=>0<j) λi j=>.int (i % j)):=opI λi j _ _ _ _ _ hc q=>by
 have h1:(0:Int)<j:=hc;exact mod_int' (by omega) (by rw[Int.fmod_eq_emod_of_nonneg i (by omega)];exact q)
theorem O0:yv X (binaryOp .Pow) (rI abY λi j=>.int (i^j.toNat)):=opI λ_ _ _ _ _ _ _ hc q=>pow_int_small hc.1 hc.2.1 hc.2.2 q
theorem unI{f:Value->Sem Value}{g:Int->Int}
  (rule:∀ (i:Int) (t:Tok) (s:Shared) (Q:Value->Shared->Prop) (E:Value->Shared->Prop),Q (.int (g i) s.toks) { s with toks:=s.toks+1 }->wpAny (model X.prog X.w) X.A (f (.int i t)) Q E s) :
  UnR X f (rU λi=>.int (g i)):=by
 intro ao s σ H x v Q I rx h;obtain⟨i,rfl,q⟩:=h;obtain⟨t,rfl⟩:=rx;exact rule i t s _ _ ⟨.int (g i),H,I.tok _,⟨_,rfl⟩,q⟩
theorem gS:UnR X (unaryOp .USub) (rU λi=>.int (-i)):=unI λ_ _ _ _ _ q=>neg_int q
end
def YO:V->V->Bool
 | .jm,.jm=>true | .jm,.int _=>true | .int _,.jm=>true | .jm,.bl _=>true | .bl _,.jm=>true | .jm,.str _=>true | .str _,.jm=>true
 | .int _,.int _=>true | .bl _,.bl _=>true | .str _,.str _=>true | .JK _,.JK _=>true
 | .int _,.str _=>true | .str _,.int _=>true | .bl _,.str _=>true | .str _,.bl _=>true
 | _,_=>false
def rEq:R2:=λx y H Q=>YO x y=true/\Q (.bl (decide (x=y))) H
def rNe:R2:=λx y H Q=>YO x y=true/\Q (.bl (!decide (x=y))) H
theorem Lm{i j:Int}:decide (V.int i=V.int j)=(i == j):=by
 rw[Bool.eq_iff_iff];simp
theorem O1{i j:Bool}:decide (V.bl i=V.bl j)=(i == j):=by
 rw[Bool.eq_iff_iff];simp
theorem Ln{i j:Str}:decide (V.str i=V.str j)=(i == j):=by
 rw[Bool.eq_iff_iff];simp
theorem Lo{i j:Array UInt8}:decide (V.JK i=V.JK j)=(i.toList == j.toList):=by
 rw[Bool.eq_iff_iff];cases i;cases j;simp
section
variable {X:Cx} {a b c:Expr} {ta tb tc:TE} {pos:Pos}
theorem eG{σ:St}{H:Hp}{s:Shared}{Q:VK}{k k':Bool}(I:Inv X ao σ H s)(q:Q (.bl k) H)(e:k=k'):EP X ao σ Q (.bool k') s:=by
 subst e;exact⟨.bl k,H,I,rfl,q⟩
theorem gU:yv X (compareOp .Eq) rEq:=by
 intro ao s σ H x y v u Q I rx ry h;obtain⟨hs,q⟩:=h
 cases x with
 | jm =>
  cases rx
  cases y with
  | jm=>cases ry;exact PySem.EqNone.eq_none_none (eG I q (by simp))
  | bl j=>cases ry;exact PySem.EqNone.eq_none_bool (eG I q (by simp))
  | int j=>obtain⟨t',rfl⟩:=ry;exact PySem.EqNone.eq_none_int (eG I q (by simp))
  | str j=>obtain⟨t',rfl⟩:=ry;exact PySem.EqNone.eq_none_str (eG I q (by simp))
  | _=>exact absurd (show false=true from hs) vo
 | bl i =>
  cases rx
  cases y with
  | jm=>cases ry;exact PySem.EqNone.eq_bool_none (eG I q (by simp))
  | bl j=>cases ry;exact eq_bool (eG I q O1)
  | str j=>obtain⟨t',rfl⟩:=ry;exact PySem.EqMixed.eq_bool_str (eG I q (by simp))
  | _=>exact absurd (show false=true from hs) vo
 | int i =>
  obtain⟨t,rfl⟩:=rx
  cases y with
  | jm=>cases ry;exact PySem.EqNone.eq_int_none (eG I q (by simp))
  | int j=>obtain⟨t',rfl⟩:=ry;exact eq_int (eG I q Lm)
  | str j=>obtain⟨t',rfl⟩:=ry;exact PySem.EqMixed.eq_int_str (eG I q (by simp))
  | _=>exact absurd (show false=true from hs) vo
 | str i =>
  obtain⟨t,rfl⟩:=rx
  cases y with
  | jm=>cases ry;exact PySem.EqNone.eq_str_none (eG I q (by simp))
  | bl j=>cases ry;exact PySem.EqMixed.eq_str_bool (eG I q (by simp))
  | int j=>obtain⟨t',rfl⟩:=ry;exact PySem.EqMixed.eq_str_int (eG I q (by simp))
  | str j=>obtain⟨t',rfl⟩:=ry;exact eq_str (eG I q Ln)
  | _=>exact absurd (show false=true from hs) vo
 | JK i =>
  obtain⟨t,rfl⟩:=rx
  cases y with
  | JK j=>obtain⟨t',rfl⟩:=ry;exact PySem.W.eq_bytes (eG I q Lo)
  | _=>exact absurd (show false=true from hs) vo
 | _=>cases y <;> exact absurd (show false=true from hs) vo
theorem O2:yv X (compareOp .NotEq) rNe:=by
 intro ao s σ H x y v u Q I rx ry h;obtain⟨hs,q⟩:=h
 cases x with
 | jm =>
  cases rx
  cases y with
  | jm=>cases ry;exact PySem.EqNone.ne_none_none (eG I q (by simp))
  | bl j=>cases ry;exact PySem.EqNone.ne_none_bool (eG I q (by simp))
  | int j=>obtain⟨t',rfl⟩:=ry;exact PySem.EqNone.ne_none_int (eG I q (by simp))
  | str j=>obtain⟨t',rfl⟩:=ry;exact PySem.EqNone.ne_none_str (eG I q (by simp))
  | _=>exact absurd (show false=true from hs) vo
 | bl i =>
  cases rx
  cases y with
  | jm=>cases ry;exact PySem.EqNone.ne_bool_none (eG I q (by simp))
  | bl j=>cases ry;exact ne_bool (eG I q (congrArg not O1))
  | str j=>obtain⟨t',rfl⟩:=ry;exact PySem.EqMixed.ne_bool_str (eG I q (by simp))
  | _=>exact absurd (show false=true from hs) vo
 | int i =>
  obtain⟨t,rfl⟩:=rx
  cases y with
  | jm=>cases ry;exact PySem.EqNone.ne_int_none (eG I q (by simp))
  | int j=>obtain⟨t',rfl⟩:=ry;exact ne_int (eG I q (congrArg not Lm))
  | str j=>obtain⟨t',rfl⟩:=ry;exact PySem.EqMixed.ne_int_str (eG I q (by simp))
  | _=>exact absurd (show false=true from hs) vo
 | str i =>
  obtain⟨t,rfl⟩:=rx
  cases y with
  | jm=>cases ry;exact PySem.EqNone.ne_str_none (eG I q (by simp))
  | bl j=>cases ry;exact PySem.EqMixed.ne_str_bool (eG I q (by simp))
  | int j=>obtain⟨t',rfl⟩:=ry;exact PySem.EqMixed.ne_str_int (eG I q (by simp))
  | str j=>obtain⟨t',rfl⟩:=ry;exact ne_str (eG I q (congrArg not Ln))
  | _=>exact absurd (show false=true from hs) vo
 | JK i =>
  obtain⟨t,rfl⟩:=rx
  cases y with
  | JK j=>obtain⟨t',rfl⟩:=ry;exact PySem.W.ne_bytes (eG I q (congrArg not Lo))
  | _=>exact absurd (show false=true from hs) vo
 | _=>cases y <;> exact absurd (show false=true from hs) vo
theorem tZ:yv X (compareOp .Lt) (UL λi j=>.bl (decide (i<j))):=SG λ_ _ _ _ _ _ _ q=>lt_int q
theorem jG:yv X (compareOp .LtE) (UL λi j=>.bl (decide (i<=j))):=SG λ_ _ _ _ _ _ _ q=>le_int q
theorem Hh:yv X (compareOp .Gt) (UL λi j=>.bl (decide (j<i))):=SG λ_ _ _ _ _ _ _ q=>gt_int q
theorem UM:yv X (compareOp .GtE) (UL λi j=>.bl (decide (j<=i))):=SG λ_ _ _ _ _ _ _ q=>ge_int q
theorem bz(b:Expr){op:CmpOp}(h:op≠.In:=by decide)(h2:op≠.NotIn:=by decide):behindInMarks op b=false:=by
 have e1:(op == CmpOp.In)=false:=by cases op <;> first|rfl|exact absurd rfl h
 have e2:(op == CmpOp.NotIn)=false:=by cases op <;> first|rfl|exact absurd rfl h2
 cases b <;> simp[behindInMarks,e1,e2]
theorem uD{op:CmpOp}{r:R2}(ho:yv X (compareOp op) r)(ha:PE X a ta)(hb:PE X b tb)(hm:behindInMarks op b=false):PE X (.Compare a [op] [b] pos) (YM r ta tb):=by
 intro ao s σ H Q I h;exact wpAny_Compare1 (Wk ha hb I h λv u s2 x y H2 I2 rx ry q=>ho ao s2 σ H2 x y v u Q I2 rx ry q) hm
def UN(t:TE):TT:=fun σ H Q=>t σ H λx H'=>isB x H' Q
theorem bh{op:CmpOp}{r:R2}(ho:yv X (compareOp op) r)(ha:PE X a ta)(hb:PE X b tb)(hm:behindInMarks op b=false):PT X (.Compare a [op] [b] pos) (UN (YM r ta tb)):=by
 intro ao s σ H Q I h
 refine wpAny_isTrue_Compare1 (dB (ha ao s σ H _ I h) λv s1 ⟨x,H1,I1,r1,q1⟩=>dB (hb ao s1 σ H1 _ I1 q1) λu s2 ⟨y,H2,I2,r2,q2⟩ =>
  dB (ho ao s2 σ H2 x y v u _ I2 r1 r2 q2) λc s3 ⟨z,H3,I3,r3,k,e,q3⟩=>?_) hm
 subst e;cases r3;exact wpAny_truthy_bool ⟨H3,I3,q3⟩
def Wm(r r':R2)(ta tb tc:TE):TE:=fun σ H Q=>ta σ H λx H1=>tb σ H1 λy H2=>r x y H2 λz H3=>∃ k,z=.bl k/\
 (if k=true then tc σ H3 λw' H4=>r' y w' H4 Q else Q (.bl false) H3)
theorem yF{op BA:CmpOp}{r r':R2}(ho:yv X (compareOp op) r)(M4:yv X (compareOp BA) r')(ha:PE X a ta)(hb:PE X b tb)(hc:PE X c tc)
  (hm:lastMarks [op,BA] [b,c]=false:=by with_unfolding_all rfl):PT X (.Compare a [op,BA] [b,c] pos) (UN (Wm r r' ta tb tc)):=by
 intro ao s σ H Q I h
 refine isTrue_chain (dB (ha ao s σ H _ I h) λv s1 ⟨x,H1,I1,r1,q1⟩=>test_link (dB (hb ao s1 σ H1 _ I1 q1) λu s2 ⟨y,H2,I2,r2,q2⟩ =>
  dB (ho ao s2 σ H2 x y v u _ I2 r1 r2 q2) λd s3 ⟨z,H3,I3,r3,k,e,q3⟩=>?_)) hm
 subst e;cases r3;refine wpAny_truthy_bool ?_
 cases k with
 | false =>
  obtain⟨k',e',q'⟩:=q3;cases e';exact ite_ff ⟨H3,I3,q'⟩
 | true =>
  refine ite_tt (test_last (dB (hc ao s3 σ H3 _ I3 q3) λw' s4 ⟨z',H4,I4,r4,q4⟩=>dB (M4 ao s4 σ H4 y z' u w' _ I4 r2 r4 q4) λd' s5 G7=>?_));obtain⟨z2,H5,I5,r5,k2,e2,q5⟩:=G7;subst e2;cases r5;exact wpAny_truthy_bool ⟨H5,I5,q5⟩
def YQ(K:PySem.W.Frag)(x:V)(H:Hp)(k:Bool):Prop :=
 match x with
 | .jm=>k=false
 | .bl b=>k=b
 | .int i=>k=(i != 0)
 | .str y=>y.length<=sizeLine/\k=((y.length:Int) != 0)
 | .JK y=>y.size<=sizeLine/\k=((y.size:Int) != 0)
 | .ref p=>(∃ xs,bR K H p xs/\k=!xs.isEmpty)\/(∃ xs,ef K H p xs/\k=!xs.isEmpty)\/∃ kvs,H p=some (.dK kvs)/\k=!kvs.isEmpty
 | _=>False
theorem JT{κ:Type}{kvs:List (κ × V)}{vs:List (κ × Value)}(r:KV kvs vs):(!vs.isEmpty)=!kvs.isEmpty:=by
 cases r <;> rfl
theorem Ca{xs:List V}{aP:List Value}(r:cG xs aP):(!aP.toArray.isEmpty)=!xs.isEmpty:=by
 cases r <;> simp
theorem zF:(sizeLine:Nat)<2^63:=by rw[sizeLine_eq];decide
theorem Wn:abX X (λx H Q=>∃ k,YQ X.K x H k/\Q k H):=by
 intro ao s σ H x v Q I rx h;obtain⟨k,e,q⟩:=h;have hl:=zF;have hs:sizeLine=16777216:=sizeLine_eq
 cases x with
 | jm =>
  cases rx;have e':k=false:=e;subst e';exact truthy_none ⟨H,I,q⟩
 | bl b =>
  cases rx;have e':k=b:=e;subst e';exact wpAny_truthy_bool ⟨H,I,q⟩
 | int i =>
  obtain⟨t,rfl⟩:=rx;have e':k=(i != 0):=e;subst e';exact PySem.P.truthy_int ⟨H,I,q⟩
 | str y =>
  obtain⟨t,rfl⟩:=rx;obtain⟨hy,e'⟩:y.length<=sizeLine/\k=((y.length:Int) != 0):=e;subst e';exact PySem.P.truthy_str (by omega) ⟨H,I.tok _,q⟩
 | JK y =>
  obtain⟨t,rfl⟩:=rx;obtain⟨hy,e'⟩:y.size<=sizeLine/\k=((y.size:Int) != 0):=e;subst e';exact PySem.W.truthy_bytes (by omega) ⟨H,I.tok _,q⟩
 | ref p =>
  cases rx;have e':(∃ xs,bR X.K H p xs/\k=!xs.isEmpty)\/(∃ xs,ef X.K H p xs/\k=!xs.isEmpty)\/∃ kvs,H p=some (.dK kvs)/\k=!kvs.isEmpty:=e;rcases e' with ⟨xs,hx,e'⟩|⟨xs,hx,e'⟩|⟨kvs,hx,e'⟩
  ·subst e';obtain⟨aP,r,pl,hz⟩:=I.list hx;have eN:=r.length;exact wpAny_truthy_list pl.isList (by simp only[jV];omega) ⟨H,I.tok _,by rw[Ca r];exact q⟩
  ·subst e';obtain⟨aP,r,pl,hz⟩:=I.tuple hx;have eN:=r.length;exact truthy_tuple pl (by simp only[jV];omega) ⟨H,I.tok _,by rw[Ca r];exact q⟩
  ·subst e';obtain⟨hz,hS,vs,r,m⟩:kvs.length<=sizeLine/\(p == sysModules)=false/\∃ vs,KV kvs vs/\s.heap.DictOf (iY X.prog X.w) p vs:=I.hok p _ hx;have eN:kvs.length=vs.length:=Paired.length r;exact wpAny_truthy_dict hS m (by omega) ⟨H,I.tok _,by rw[JT r];exact q⟩
 | _=>exact (show False from e).elim
theorem t6(ha:PE X a ta)(he:∀ BV,isTrue a X.env BV=(do let v ← BV;standAt a.pos;holding [v] (truthy v))) :
  PT X a (fun σ H Q=>ta σ H λx H'=>∃ k,YQ X.K x H' k/\Q k H'):=by
 intro ao s σ H Q I h;exact isTrue_plain (dB (ha ao s σ H _ I h) λv s1 ⟨x,H1,I1,r1,q1⟩=>Wn ao s1 σ H1 x v Q I1 r1 q1) (he _)
theorem vals1{x:V}{us:List Value}(r:cG [x] us):∃ u,us=[u]/\RelV x u:=by
 cases r with
 | cons r1 r2=>cases r2;exact⟨_,rfl,r1⟩
theorem vals2{x y:V}{us:List Value}(r:cG [x,y] us):∃ u w',us=[u,w']/\RelV x u/\RelV y w':=by
 cases r with
 | cons r1 r2 =>
  cases r2 with
  | cons r3 r4=>cases r4;exact⟨_,_,rfl,r1,r3⟩
theorem wA(hc:X.calm=true):pR X (.builtin "max") (λxs H Q=>∃ i j,xs=[.int i,.int j]/\Q (.int (if j > i then j else i)) H):=by
 intro ao s σ H xs us Q I r h;obtain⟨i,j,rfl,q⟩:=h;obtain⟨u,w',rfl,⟨t,rfl⟩,⟨t',rfl⟩⟩:=vals2 r;refine max_two_ints (I.ok.hd hc) λh' tk k=>⟨_,H,I.kept k,?_,q⟩;by_cases hj:j > i
 ·rw[if_pos hj,if_pos hj];exact⟨_,rfl⟩
 ·rw[if_neg hj,if_neg hj];exact⟨_,rfl⟩
theorem wB(hc:X.calm=true):pR X (.builtin "min") (λxs H Q=>∃ i j,xs=[.int i,.int j]/\Q (.int (if j<i then j else i)) H):=by
 intro ao s σ H xs us Q I r h;obtain⟨i,j,rfl,q⟩:=h;obtain⟨u,w',rfl,⟨t,rfl⟩,⟨t',rfl⟩⟩:=vals2 r;refine min_two_ints (I.ok.hd hc) λh' tk k=>⟨_,H,I.kept k,?_,q⟩;by_cases hj:j<i
 ·rw[if_pos hj,if_pos hj];exact⟨_,rfl⟩
 ·rw[if_neg hj,if_neg hj];exact⟨_,rfl⟩
end
end L2
namespace L2
open PySem.Spec PyProof.Rows
structure JU(h:Heap)(x dx C:Addr)(mA:Str->Option Value):Prop where
 obj:h.get? x=some (PySem.W.instObj C dx)
 ns:h.Ns1 dx mA
 ne:dx≠x
theorem Na{h:Heap}{mA:Str->Option Value}(n:h.Ns1 dx mA):∃ od,h.get? dx=some od/\∀ name,PySem.W.lookIn name od=some (mA name):=by
 obtain⟨o,es,ep,ho,hd,hk,_,hm⟩:=n;refine⟨o,ho,λname=>?_⟩;have e:=hm name;unfold nsFind findBy at e;rw[← Array.find?_toList]at e;unfold PySem.W.lookIn;rw[hd];dsimp only;split
 ·rename_i y q;rw[q]at e;exact congrArg some e
 ·rename_i q;rw[q]at e
  have a:es.toList.any (·.refKey)=false:=by
   rw[List.any_eq_false];intro y hy;obtain⟨z,t,hkey⟩:=hk y (Array.mem_toList_iff.mp hy);simp[DictEntry.refKey,hkey]
  have a':¬ es.toList.any (·.refKey)=true:=by rw[a];exact vo
  rw[if_neg a'];exact congrArg some e
theorem JU.look{h:Heap}{x:Addr}{mA:Str->Option Value}(I:JU h x dx C mA):∃ od,PySem.W.InstAt h x (PySem.W.instObj C dx) C (some od)/\∀ name,PySem.W.lookIn name od=some (mA name) :=
 let ⟨od,ho,hl⟩:=Na I.ns
 ⟨od,⟨I.obj,rfl,rfl,ho⟩,hl⟩
section
variable {prog:Program} {w:World} {A:Around} {E:Value->Shared->Prop} {s:Shared} {K:PySem.W.Frag} {x dx C f:Addr} {mA:Str->Option Value} {name:Str} {v:Value}
theorem SH{abZ:Bool}{Q:Value->Shared->Prop}(X:K.In s.heap)(I:JU s.heap x dx C mA)(hg:PySem.W.plainGet K C name=true)(hh:PySem.W.hasDictIn K C=true)
  (ha:PySem.W.findIn K (.ref C) name=some none) (hv:mA name=some v) (hv':PySem.W.handedIn v=true) (h:Q v { s with toks:=s.toks+1 }) :
  wpAny (model prog w) A (getAttr (.ref x) name abZ) Q E s:=by
 obtain⟨od,J,hl⟩:=I.look;exact PySem.W.get_value X J (PySem.W.plainGet_of hg).1 (PySem.W.findObj_own hh ha rfl (by rw[hl,hv])) hv' h
theorem O5{pl:Sem Bool}{Q:Value × List Value->Shared->Prop}(X:K.In s.heap)(I:JU s.heap x dx C mA)(hg:PySem.W.plainGet K C name=true)
  (hf:PySem.W.findIn K (.ref C) name=some (some (.ref f))) (ht:PySem.W.isFn K (.ref f)=true) (hv:mA name=none) (h:Q (.ref f,[.ref x]) s) :
  wpAny (model prog w) A (getMethod (.ref x) name pl) Q E s:=by
 obtain⟨od,J,hl⟩:=I.look;exact PySem.W.method_fn X J (PySem.W.plainGet_of hg).1 (PySem.W.plainGet_of hg).2 hf (beq_iff_eq.mp ht) (by show (PySem.W.lookIn name od).map (·.isSome)=some false;rw[hl,hv];rfl) h
theorem SI{ns:List Str}{Q:Unit->Shared->Prop}(X:K.In s.heap)(I:JU s.heap x dx C mA)
  (hs:PySem.W.findIn K (.ref C) "__setattr__"=some (some (.builtin "object.__setattr__"))) (hp:PySem.W.plainOver K C=true) (ht:PySem.W.takerIn K C name=some none) (hh:PySem.W.hasDictIn K C=true)
  (hw:PySem.Within mA ns) (hsz:ns.length<=sizeLine)
  (h:∀ h',JU h' x dx C (λy=>if y=name then some v else mA y)->Heap.SameBut dx s.heap h'->Q () { s with heap:=h',toks:=s.toks+2 }) :
  wpAny (model prog w) A (setAttr (.ref x) name v) Q E s:=by
 obtain⟨od,J,hl⟩:=I.look;refine PySem.W.set_plain X J hs (PySem.W.osa_open (s:={ s with toks:=s.toks+1 }) (r:=none) X J hp ht λb=>?_);obtain⟨cd,hc,VW⟩:=PySem.W.any_some hh;have hx:s.heap.get? x=some ⟨.ref C,some dx,.plain,#[]⟩:=I.obj;refine wpAny_bind (wpAny_pure (wpAny_bind (wpAny_bind (wpAny_loadPart hx (wpAny_bind (PySem.W.Looks.here (s:={ s with toks:=s.toks+1 }) (PySem.W.looks_clsIn X hc) ?_))))));rw[VW];refine wpAny_pure (a:=some dx) (wpAny_bind (wpAny_pure (wpAny_bind ?_)));refine wpAny_nsSet1 (s:={ s with toks:=s.toks+1 }) I.ns λh' hn2 Nb=>?_;obtain⟨oD,esD,epD,hoD,hdD,hcD⟩:=hn2.count (PySem.Within.cons name v hw);refine wpAny_bind (wpAny_lookBehind hoD (by rw[hdD];exact pastItsLine_dict (lS hcD (by rw[qC];omega))) ?_);exact wpAny_pure (h _ ⟨(Nb.2 _ (Ne.symm I.ne)).trans I.obj,hn2,I.ne⟩ Nb)
theorem O6{R:Result->Shared->Prop}{vs:List Value}{kw:List (Str × Value)}(X:K.In s.heap)(hm:PySem.W.makesIn K C=true)
  (hi:PySem.W.findIn K (.ref C) "__init__"=some (some (.ref f))) (hf:PySem.W.typeIn K (.ref f)=some (.type "function"))
  (h:codeAny (model prog w) (A.under (.builtin "type.__call__" ⟨.ref C::vs,kw⟩)) (.call (.ref f) ⟨.ref (s.heap.objs.size+1)::vs,kw⟩) (PySem.W.InitBack (s.heap.objs.size+1) R)
   { s with heap:=(s.heap.push PySem.W.emptyDict).push (PySem.W.instObj C s.heap.objs.size) }) :
  codeAny (model prog w) A (.call (.ref C) ⟨vs,kw⟩) R s:=by
 obtain⟨hh,g,d,t,os⟩:=s;exact PySem.W.make_core (PySem.W.makes_of X hm) (PySem.W.looks_findIn X hi) (λself=>PySem.W.bind_fn X self hf) (.inl rfl) h
end
def gx(f:Str)(v:V):List (Str × V)->List (Str × V)
 | []=>[(f,v)]
 | (g,x)::r=>if g=f then (g,v)::r else (g,x)::gx f v r
theorem AK(f g:Str)(v:V):∀ fs:List (Str × V),(gx f v fs).lookup g=if g=f then some v else fs.lookup g
 | []=>by
  show List.lookup g [(f,v)]=_;by_cases h:g=f
  ·have hb:(g == f)=true:=beq_iff_eq.mpr h;simp only[List.lookup,hb,if_pos h]
  ·have hb:(g == f)=false:=beq_eq_false_iff_ne.mpr h;simp only[List.lookup,hb,if_neg h]
 | (k,x)::r=>by
  have ih:=AK f g v r;rw[show gx f v ((k,x)::r)=(if k=f then (k,v)::r else (k,x)::gx f v r) from rfl];by_cases hk:k=f
  ·rw[if_pos hk];by_cases h:g=k
   ·have hb:(g == k)=true:=beq_iff_eq.mpr h;simp only[List.lookup,hb,if_pos (h.trans hk)]
   ·have hb:(g == k)=false:=beq_eq_false_iff_ne.mpr h;simp only[List.lookup,hb,if_neg (λe:g=f=>h (e.trans hk.symm))]
  ·rw[if_neg hk];by_cases h:g=k
   ·have hb:(g == k)=true:=beq_iff_eq.mpr h;simp only[List.lookup,hb,if_neg (λe:g=f=>hk (h.symm.trans e))]
   ·have hb:(g == k)=false:=beq_eq_false_iff_ne.mpr h;simp only[List.lookup,hb];exact ih
theorem zG(f:Str)(v:V):∀ fs:List (Str × V),f∈(gx f v fs).map (·.1)/\∀ g,g∈fs.map (·.1)->g∈(gx f v fs).map (·.1)
 | []=>⟨by simp[gx],λg h=>by simp at h⟩
 | (k,x)::r=>by
  obtain⟨i1,i2⟩:=zG f v r;rw[show gx f v ((k,x)::r)=(if k=f then (k,v)::r else (k,x)::gx f v r) from rfl];by_cases hk:k=f
  ·rw[if_pos hk];subst hk;exact⟨by simp,λg h=>by simpa using h⟩
  ·rw[if_neg hk];refine⟨?_,λg h=>?_⟩
   ·rw[oK];exact sF _ i1
   ·rw[oK]at h ⊢;rcases List.mem_cons.mp h with e|e
    ·exact List.mem_cons.mpr (.inl e)
    ·exact sF _ (i2 g e)
theorem AL(f:Str)(v:V):∀ fs:List (Str × V),(gx f v fs).length<=fs.length+1
 | []=>by simp[gx]
 | (k,x)::r=>by
  have ih:=AL f v r;rw[show gx f v ((k,x)::r)=(if k=f then (k,v)::r else (k,x)::gx f v r) from rfl];by_cases hk:k=f
  ·rw[if_pos hk,qC,qC];omega
  ·rw[if_neg hk,qC,qC];omega
theorem wZ.some_of{v:V}{o:Option Value}(r:wZ (some v) o):∃ u,o=some u/\RelV v u:=by
 cases o with
 | none=>exact (show False from r).elim
 | some u=>exact⟨u,rfl,r⟩
theorem wZ.none_of{o:Option Value}(r:wZ none o):o=none:=by
 cases o with
 | none=>rfl
 | some u=>exact (show False from r).elim
theorem Nc{v:V}{u:Value}(r:RelV v u):PySem.W.handedIn u=true:=by
 cases v with
 | jm=>cases (show u=Value.none from r);rfl
 | bl b=>cases (show u=Value.bool b from r);rfl
 | int i=>obtain⟨t,e⟩:=(show ∃ t,u=Value.int i t from r);cases e;rfl
 | str x=>obtain⟨t,e⟩:=(show ∃ t,u=Value.str x t from r);cases e;rfl
 | JK b=>obtain⟨t,e⟩:=(show ∃ t,u=Value.bytes b t from r);cases e;rfl
 | UD b=>obtain⟨t,e⟩:=(show ∃ t,u=Value.float b t from r);cases e;rfl
 | ref a=>cases (show u=Value.ref a from r);rfl
 | ty n=>cases (show u=Value.type n from r);rfl
section
variable {P:Program} {w:World} {H H':Hp} {h h':Heap} {a C dx:Addr} {fs X3:List (Str × V)}
theorem BB(hok:wz P w H h)(e:H a=some (.ins C dx fs)):∃ mA,JU h a dx C mA/\(∀ f,wZ (fs.lookup f) (mA f))/\PySem.Within mA (fs.map (·.1))/\fs.length<=1000/\H dx=some (.own a):=by
 obtain⟨d,z,ne,ob,mA,n,r,q⟩:=(show iZ P w H h a (.ins C dx fs) from hok a _ e);exact⟨mA,⟨ob,n,ne⟩,r,q,z,d⟩
end
structure Es(K:PySem.W.Frag)(C:Addr):Prop where
 pg:PySem.W.plainGet K C Str.empty=true
 hd:PySem.W.hasDictIn K C=true
 po:PySem.W.plainOver K C=true
 sa:PySem.W.findIn K (.ref C) "__setattr__"=some (some (.builtin "object.__setattr__"))
theorem Es.get{K:PySem.W.Frag}(c:Es K C)(f:Str):PySem.W.plainGet K C f=true:=c.pg
def cH(K:PySem.W.Frag)(C:Addr)(f:Str):Prop:=PySem.W.findIn K (.ref C) f=some none
theorem cH.YR{K:PySem.W.Frag}{f:Str}(n:cH K C f):PySem.W.takerIn K C f=some none:=by
 unfold PySem.W.takerIn;rw[show PySem.W.findIn K (.ref C) f=some none from n];rfl
structure O7(K:PySem.W.Frag)(C:Addr)(m:Str)(f:Addr):Prop where
 at_:PySem.W.findIn K (.ref C) m=some (some (.ref f))
 fn:PySem.W.isFn K (.ref f)=true
 kp:PySem.W.keepIn K (.ref f)=true
section
variable {X:Cx} {ao:List (Addr × Obj)} {σ:St} {H:Hp} {s:Shared} {a C dx:Addr} {fs:List (Str × V)} {f:Str} {v:V} {A:Around} {E:Value->Shared->Prop}
theorem Cb{b:Bool}{Q:Value->Shared->Prop}(I:Inv X ao σ H s)(e:H a=some (.ins C dx fs))(c:Es X.K C)(n:cH X.K C f)(l:fs.lookup f=some v)
  (h:∀ u s',Inv X ao σ H s'->RelV v u->Q u s'):wpAny (model X.prog X.w) A (getAttr (.ref a) f b) Q E s:=by
 obtain⟨mA,O,r,_,_,_⟩:=BB I.hok e;obtain⟨u,hu,ru⟩:=wZ.some_of (v:=v) (o:=mA f) (by rw[← l];exact r f);exact SH I.AJ O (c.get f) c.hd n hu (Nc ru) (h u _ (I.tok _) ru)
theorem Cc{m:Str}{g:Addr}{pl:Sem Bool}{Q:Value × List Value->Shared->Prop}(I:Inv X ao σ H s)(e:H a=some (.ins C dx fs))(c:Es X.K C)(k:O7 X.K C m g)(l:fs.lookup m=none)
  (h:Q (.ref g,[.ref a]) s):wpAny (model X.prog X.w) A (getMethod (.ref a) m pl) Q E s:=by
 obtain⟨mA,O,r,_,_,_⟩:=BB I.hok e;have hn:mA m=none:=wZ.none_of (by rw[← l];exact r m);exact O5 I.AJ O (c.get m) k.at_ k.fn hn h
theorem Cd{y:V}{u:Value}{Q:Unit->Shared->Prop}(I:Inv X ao σ H s)(e:H a=some (.ins C dx fs))(c:Es X.K C)(n:cH X.K C f)(hl:fs.length<1000)(ry:RelV y u)
  (h:∀ s',Inv X ao σ (aQ H a (.ins C dx (gx f y fs))) s'->Q () s'):wpAny (model X.prog X.w) A (setAttr (.ref a) f u) Q E s:=by
 obtain⟨mA,O,r,wi,_,ho⟩:=BB I.hok e;have hz:(fs.map (·.1)).length<=sizeLine:=by rw[cS,sizeLine_eq];omega
 refine SI I.AJ O c.sa c.po n.YR c.hd wi hz λh' O' sb=>h _ ?_;have hd:∃ o,h'.get? dx=some o:=let ⟨o,_,_,e',_⟩:=O'.ns;⟨o,e'⟩;refine I.write (x:=a) (e:=dx) (by rw[e];exact True.intro) (.inr ho) (λb q hb z=>(sb.2 b hb).trans z) hd ?_;refine⟨by rw[aL O.ne];exact ho,?_,O.ne,O'.obj,_,O'.ns,λg=>?_,λg hg=>?_⟩
 ·have:=AL f y fs;omega
 ·show wZ ((gx f y fs).lookup g) (if g=f then some u else mA g);rw[AK];by_cases q:g=f
  ·rw[if_pos q,if_pos q];exact ry
  ·rw[if_neg q,if_neg q];exact r g
 ·by_cases q:g=f
  ·rw[q];exact (zG f y fs).1
  ·refine (zG f y fs).2 g (wi g λz=>hg ?_);show (if g=f then some u else mA g)=none;rw[if_neg q];exact z
theorem Inv.made(I:Inv X ao σ H s):Inv X ao σ (aQ (aQ H s.heap.objs.size (.own (s.heap.objs.size+1))) (s.heap.objs.size+1) (.ins C s.heap.objs.size []))
  { s with heap:=(s.heap.push PySem.W.emptyDict).push (PySem.W.instObj C s.heap.objs.size) }:=by
 have e1:(s.heap.push PySem.W.emptyDict).get? s.heap.objs.size=some PySem.W.emptyDict:=Heap.get?_push_size s.heap rfl
 have e2:((s.heap.push PySem.W.emptyDict).push (PySem.W.instObj C s.heap.objs.size)).get? (s.heap.objs.size+1)=some (PySem.W.instObj C s.heap.objs.size):=by
  have:=Heap.get?_push_size (s.heap.push PySem.W.emptyDict) (o:=PySem.W.instObj C s.heap.objs.size) rfl;rwa [Heap.size_push]at this
 have e3:(s.heap.push PySem.W.emptyDict).Ns s.heap.objs.size (λ_=>none):=⟨PySem.W.emptyDict,#[],_,e1,rfl,(λe he=>absurd he (by simp)),λ_=>rfl⟩;have I1:=I.laid (a:=s.heap.objs.size) (o:=.own (s.heap.objs.size+1)) (h':=s.heap.push PySem.W.emptyDict) (t':=s.toks) (λb u q=>Heap.get?_push_of_some _ q) (jz _) ⟨_,e1⟩;refine I1.laid (a:=s.heap.objs.size+1) (o:=.ins C s.heap.objs.size []) (t':=s.toks) (λb u q=>Heap.get?_push_of_some _ q) (Nat.le_of_eq (Heap.size_push _ _)) ?_;have ne:s.heap.objs.size≠s.heap.objs.size+1:=qo (Nat.lt_succ_self _);refine⟨by rw[aL ne,af],Nat.zero_le _,ne,e2,λ_=>none,(Heap.Ns1.of_empty e3).at λo q=>Heap.get?_push_of_some _ q,λ_=>True.intro,λy hy=>absurd rfl hy⟩
theorem SJ{prog:Program}{w:World}{env:Env}{e:Expr}{f:Str}{s:Shared}{Q:Value->Shared->Prop}(hb:attributeBase e f env (eval e env)=eval e env)
  (h:wpAny (model prog w) A (eval e env) (λo s₁=>wpAny (model prog w) A (getAttr o f true) Q E s₁) E s):wpAny (model prog w) A (eval (.Attribute e f pos) env) Q E s :=
 Attribute_any_ h (by rw[arm_eval_Attribute,hb])
end
inductive YS(K:PySem.W.Frag)(f:Str)(x:V)(H:Hp)(Q:VK):Prop
 | mk (a C dx:Addr) (fs:List (Str × V)) (v:V) (_:x=.ref a) (_:H a=some (.ins C dx fs)) (_:Es K C) (_:cH K C f) (_:fs.lookup f=some v) (_:Q v H):YS K f x H Q
def ab0(K:PySem.W.Frag)(ta:TE)(f:Str):TE:=fun σ H Q=>ta σ H λx H1=>YS K f x H1 Q
def ab1(K:PySem.W.Frag)(ta tv:TE)(f:Str):TS:=λD σ H=>tv σ H λy H1=>ta σ H1 λx H2=>∃ a C dx fs,x=.ref a/\H2 a=some (.ins C dx fs)/\Es K C/\cH K C f/\fs.length<1000/\
 D.nx σ (aQ H2 a (.ins C dx (gx f y fs)))
def YT(X:Cx)(op:Operator)(rd:V->V->Hp->VK->Prop):Prop :=
 ∀ (ao:List (Addr × Obj)) (s:Shared) (σ:St) (H:Hp) (x y:V) (u v:Value) (Q:VK),Inv X ao σ H s->RelV x u->RelV y v->rd x y H Q->wpAny (model X.prog X.w) X.A (inplaceOp op u v) (EP X ao σ Q) X.xe s
def SK(K:PySem.W.Frag)(ta tv:TE)(rd:V->V->Hp->VK->Prop)(f:Str):TS:=λD σ H=>ta σ H λx H1=>∃ a C dx fs v,x=.ref a/\H1 a=some (.ins C dx fs)/\Es K C/\cH K C f/\fs.lookup f=some v/\
 tv σ H1 λy H2=>rd v y H2 λz H3=>∃ dx' X3,H3 a=some (.ins C dx' X3)/\X3.length<1000/\D.nx σ (aQ H3 a (.ins C dx' (gx f z X3)))
section
variable {X:Cx} {o e value:Expr} {f:Str} {pos l5 Nf:Pos} {ta tv:TE}
theorem dN(he:PE X e ta)(hb:attributeBase e f X.env (eval e X.env)=eval e X.env):PE X (.Attribute e f pos) (ab0 X.K ta f):=by
 intro ao s σ H Q I h;refine SJ hb (dB (he ao s σ H _ I h) λu s1 DH=>?_);obtain⟨x,H1,I1,rx,a,C,dx,fs,v,ex,ea,c,n,l,q⟩:=DH;subst ex;obtain rfl:u=Value.ref a:=rx;exact Cb I1 ea c n l λu' s2 I2 ru=>⟨v,H1,I2,ru,q⟩
theorem mJ(ha:PE X o ta)(hv:PE X value tv)(hs:swapsWith value (some (.Attribute o f l5)) pos.line X.env=pure false):PS X (.Assign [.Attribute o f l5] value pos) (ab1 X.K ta tv f):=by
 intro ao s σ H D I h;refine plainObj_wpAny_Assign_Attribute (dB (hv ao s σ H _ I h) λu s1 h1=>?_) hs;obtain⟨y,H1,I1,ry,q⟩:=h1;refine dB (ha ao s1 σ H1 _ I1 q) λov s2 h2=>?_;obtain⟨x,H2,I2,rx,a,C,dx,fs,ex,ea,c,n,l,q2⟩:=h2;subst ex;obtain rfl:ov=Value.ref a:=rx;exact Cd I2 ea c n l ry λs3 I3=>⟨σ,_,I3,q2⟩
theorem zH{op:Operator}{rd:V->V->Hp->VK->Prop}(ha:PE X o ta)(hv:PE X value tv)(RU:YT X op rd):PS X (.AugAssign (.Attribute o f Nf) op value pos) (SK X.K ta tv rd f):=by
 intro ao s σ H D I h;refine wpAny_AugAssign_AttributeAny (dB (ha ao s σ H _ I h) λov s1 h1=>?_);obtain⟨x,H1,I1,rx,a,C,dx,fs,v,ex,ea,c,n,l,q⟩:=h1;subst ex;obtain rfl:ov=Value.ref a:=rx;refine Cb I1 ea c n l λu s2 I2 ru=>dB (hv ao s2 σ H1 _ I2 q) λw3 s3 ⟨y,H2,I3,ry,q3⟩=>dB (RU ao s3 σ H2 v y u w3 _ I3 ru ry q3) λw4 s4 G9=>?_;obtain⟨z,H3,I4,rz,dx',X3,ea',l',q4⟩:=G9;exact Cd I4 ea' c n l' rz λs5 I5=>⟨σ,_,I5,q4⟩
end
section
variable {X:Cx} {ao:List (Addr × Obj)} {σ:St} {H:Hp} {s:Shared} {A:Around} {E:Value->Shared->Prop} {Q:Value->Shared->Prop} {c:Value} {b:Bool}
inductive pS(K:PySem.W.Frag)(H:Hp):V->Value->Prop where
 | jm:pS K H .jm (.type "NoneType")
 | bl (x:Bool):pS K H (.bl x) (.type "bool")
 | int (i:Int):pS K H (.int i) (.type "int")
 | str (x:Str):pS K H (.str x) (.type "str")
 | UD (x:UInt64):pS K H (.UD x) (.type "float")
 | lst {a:Addr} {xs:List V} (e:H a=some (.lst xs)):pS K H (.ref a) (.type "list")
 | JL {a:Addr} {o:Obj} {xs:List V} (e:H a=some (.JL o (.lst xs))):pS K H (.ref a) (.type "list")
 | tup {a:Addr} {xs:List V} (e:H a=some (.tup xs)):pS K H (.ref a) (.type "tuple")
 | dK {a:Addr} {kvs:List (iz × V)} (e:H a=some (.dK kvs)):pS K H (.ref a) (.type "dict")
 | dT {a:Addr} {kvs:List (List iz × V)} (e:H a=some (.dT kvs)):pS K H (.ref a) (.type "dict")
 | ins {a C dx:Addr} {fs:List (Str × V)} (e:H a=some (.ins C dx fs)) (cl:Es K C) (ha:PySem.W.findIn K (.ref C) "__class__"=some (some (.builtin "object.__class__")))
   (hn:PySem.W.specialIn K (.builtin "object.__class__") "__get__"=some (some (.builtin "getset_descriptor.__get__"))) (htk:PySem.W.takesIn K (.builtin "object.__class__")=some true)
   (hm:PySem.W.mroIn K C (.type "object")=some true):pS K H (.ref a) (.ref C)
theorem Ng{x:V}{u t:Value}(I:Inv X ao σ H s)(rx:RelV x u)(ty:pS X.K H x t)(e:PySem.W.kitOne X.K t c=some b)(h:∀ tk,Q (.bool b) { s with toks:=tk }) :
  wpAny (model X.prog X.w) A (call (.builtin "isinstance") [u,c]) Q E s:=by
 cases ty with
 | jm=>cases (show u=Value.none from rx);exact PySem.W.kia_one PySem.W.kitx_none I.AJ True.intro e (λz=>nomatch z) h
 | bl y=>cases (show u=Value.bool y from rx);exact PySem.W.kia_one PySem.W.kitx_bool I.AJ True.intro e (λz=>nomatch z) h
 | int i=>obtain⟨t,q⟩:=(show ∃ t,u=Value.int i t from rx);cases q;exact PySem.W.kia_one PySem.W.kitx_int I.AJ True.intro e (λz=>nomatch z) h
 | str y=>obtain⟨t,q⟩:=(show ∃ t,u=Value.str y t from rx);cases q;exact PySem.W.kia_one PySem.W.kitx_str I.AJ True.intro e (λz=>nomatch z) h
 | UD y=>obtain⟨t,q⟩:=(show ∃ t,u=Value.float y t from rx);cases q;exact PySem.W.kia_one PySem.W.kitx_float I.AJ True.intro e (λz=>nomatch z) h
 | @lst a xs ea =>
  cases (show u=Value.ref a from rx);obtain⟨_,_,n,_,h1⟩:=(show iZ X.prog X.w H s.heap a (.lst xs) from I.hok a _ ea);exact PySem.W.kia_one PySem.W.kitx_list I.AJ ⟨_,h1,rfl⟩ e (λz=>nomatch z) h
 | @JL a ob xs ea =>
  cases (show u=Value.ref a from rx);obtain⟨_,_,_,n,_,h1⟩:=(show iZ X.prog X.w H s.heap a (.JL ob (.lst xs)) from I.hok a _ ea);exact PySem.W.kia_one PySem.W.kitx_list I.AJ ⟨_,h1,rfl⟩ e (λz=>nomatch z) h
 | @tup a xs ea =>
  cases (show u=Value.ref a from rx);obtain⟨_,_,_,p⟩:=(show iZ X.prog X.w H s.heap a (.tup xs) from I.hok a _ ea);obtain⟨o,h1,h2,_⟩:=p;exact PySem.W.kia_one PySem.W.kitx_tuple I.AJ ⟨o,h1,h2⟩ e (λz=>nomatch z) h
 | @dK a kvs ea =>
  cases (show u=Value.ref a from rx);obtain⟨_,_,vs,_,p⟩:=(show iZ X.prog X.w H s.heap a (.dK kvs) from I.hok a _ ea);obtain⟨o,es,ep,h1,h2,_⟩:=p;exact PySem.W.kia_one PySem.W.kitx_dict I.AJ ⟨o,h1,h2.1⟩ e (λz=>nomatch z) h
 | @dT a kvs ea =>
  cases (show u=Value.ref a from rx);obtain⟨_,_,xs,_,o,es,ep,h1,h2,_⟩:=(show iZ X.prog X.w H s.heap a (.dT kvs) from I.hok a _ ea);exact PySem.W.kia_one PySem.W.kitx_dict I.AJ ⟨o,h1,h2.1⟩ e (λz=>nomatch z) h
 | @ins a C dx fs ea cl ha hn htk hm =>
  cases (show u=Value.ref a from rx);obtain⟨mA,O,_⟩:=BB I.hok ea;obtain⟨od,J,_⟩:=O.look;exact PySem.W.kia_one (PySem.W.kitx_own (cl.get _) cl.hd ha hn htk hm) I.AJ J e (λz=>nomatch z) h
end
end L2
namespace L2
open PySem.Spec PyProof.Rows
structure lg(k:Nat)(A:Around):Prop where
 hd:A.handled=none
 dp:A.depth+3*k+5<recursionLimit
 un:A.units+16*k+200<cLine
theorem lg.mono{j k:Nat}{A:Around}(r:lg k A)(h:j<=k):lg j A:=⟨r.hd,by have:=r.dp;omega,by have:=r.un;omega⟩
theorem lg.deeper{k:Nat}{A:Around}(r:lg (k+1) A)(env:Env):lg k (A.deeper env) :=
 ⟨r.hd,by have:=r.dp;show A.depth+1+3*k+5<_;omega,by have:=r.un;show A.units+3+16*k+200<_;omega⟩
theorem JV{A:Around}{us:List Value}{kw:List (Str × Value)}:(A.under (.builtin "type.__call__" ⟨.ref C::us,kw⟩)).depth=A.depth+1:=by
 first|rfl|simp[Around.under,Code.weight,Code.isCreation,Code.isGuard,Code.isCaller,Code.frames,Code.isFrame,guardIds]
theorem JW{A:Around}{us:List Value}{kw:List (Str × Value)}:(A.under (.builtin "type.__call__" ⟨.ref C::us,kw⟩)).units=A.units+1:=by
 first|rfl|simp[Around.under,Code.cUnits,Code.frames,Code.isFrame]
theorem lg.make{k:Nat}{A:Around}(r:lg (k+1) A)(C:Addr)(us:List Value)(kw:List (Str × Value)):lg k (A.under (.builtin "type.__call__" ⟨.ref C::us,kw⟩)) :=
 ⟨r.hd,by have:=r.dp;rw[JV];omega,by have:=r.un;rw[JW];omega⟩
theorem lg.depth{k:Nat}{A:Around}(r:lg k A):A.depth<recursionLimit:=by have:=r.dp;omega
theorem lg.units{k:Nat}{A:Around}(r:lg k A):A.units+64<cLine:=by have:=r.un;omega
def Ce:TA:=λ_ H Q=>Q [] H
def O8(ta:TE)(tr:TA):TA:=fun σ H Q=>ta σ H λx H1=>tr σ H1 λxs H2=>Q (x::xs) H2
section
variable {X:Cx} {e:Expr} {es:List Expr} {te:TE} {t:TA} {pos:Pos}
theorem ah:PA X [] Ce:=λ_ _ _ _ H Q I h=>Calls.spliced_nil ⟨[],H,I,.nil,h⟩
theorem aa(ha:PE X e te)(hr:PA X es t)(hs:starEach (e::es) X.env=(false,eval e X.env)::starEach es X.env:=by rfl):PA X (e::es) (O8 te t):=by
 intro pos ao s σ H Q I h;rw[hs];show wpAny _ _ (spliced ((false,eval e X.env)::backTo pos (starEach es X.env))) _ _ s;refine Calls.spliced_cons (dB (ha ao s σ H _ I h) λu s1 JP=>?_);obtain⟨x,H1,I1,r1,q1⟩:=JP;exact dB (hr pos ao s1 σ H1 _ I1 q1) λus s2 ⟨xs,H2,I2,r2,q2⟩=>⟨x::xs,H2,I2,.cons r1 r2,q2⟩
def ab3(t:TA):TE:=fun σ H Q=>t σ H λxs H1=>xs.length<=sizeLine/\∀ p,H1 p=none->Q (.ref p) (aQ H1 p (.tup xs))
def Nh(t:TA):TE:=fun σ H Q=>t σ H λxs H1=>xs.length<=sizeLine/\∀ p,H1 p=none->Q (.ref p) (aQ H1 p (.lst xs))
theorem dH{x1}(h:PA X es t):PE X (.Tuple es x1 pos) (ab3 t):=by
 intro ao s σ H Q I hq;refine wpAny_Tuple_spliced (dB (h pos ao s σ H _ I hq) λus s1 ⟨xs,H1,I1,r,z,q⟩=>⟨by rw[← r.length];exact z,?_⟩);have hf:H1 s1.heap.objs.size=none:=I1.hok.fresh (jz _);refine⟨.ref s1.heap.objs.size,aQ H1 s1.heap.objs.size (.tup xs),I1.laid (t':=s1.toks) (λb u e=>Heap.get?_push_of_some _ e) (jz _) ?_,rfl,q _ hf⟩;exact⟨z,us,r,⟨_,Heap.get?_push_size _ rfl,rfl,_,rfl⟩⟩
theorem bQ(h:PA X es t):PE X (.List es pos) (Nh t):=by
 intro ao s σ H Q I hq;refine wpAny_List_spliced (dB (h pos ao s σ H _ I hq) λus s1 ⟨xs,H1,I1,r,z,q⟩=>⟨by rw[← r.length];exact z,?_⟩);have hf:H1 s1.heap.objs.size=none:=I1.hok.fresh (jz _);refine⟨.ref s1.heap.objs.size,aQ H1 s1.heap.objs.size (.lst xs),I1.laid (t':=s1.toks) (λb u e=>Heap.get?_push_of_some _ e) (jz _) ?_,rfl,q _ hf⟩;exact⟨z,us,0,r,Heap.get?_push_size _ rfl⟩
end
abbrev Sp:=List V->Hp->VK->XK->Prop
abbrev Ou:=List Env->Hp->Shared->XK->Value->Shared->Prop
structure JX(P:Program)(w:World)(K:PySem.W.Frag)(mg:Str->Option Value)(base:Heap)(A:Around)(outer:List Env)(s:Shared)(H:Hp):Prop where
 frames:A.frames=some outer
 mod:Mod K mg base
 bs:∀ b o,base.get? b=some o->s.heap.get? b=some o/\H b=none
 UE:base.objs.size<=s.heap.objs.size
 yD:s.heap.FunFrames base outer
 VT:∀ b∈zA outer,H b=none
 hok:wz P w H s.heap
 bare:AllBare s.gens
def CE(outer:List Env)(P:Program)(w:World)(H:Hp)(s:Shared)(Q:VK)(u:Value)(s':Shared):Prop :=
 ∃ v H',s'.os=s.os/\AllBare s'.gens/\Un (zA outer) [] H H' s.heap s'.heap/\wz P w H' s'.heap/\RelV v u/\Q v H'
def CR(CX:Ou)(outer:List Env)(P:Program)(w:World)(H:Hp)(s:Shared)(Q:VK)(E:XK)(r:Result)(s':Shared):Prop :=
 match r with
 | .ok (.ret u)=>CE outer P w H s Q u s'
 | .ok _=>False
 | .error e=>CX outer H s E e s'
structure aC(P:Program)(w:World)(K:PySem.W.Frag)(mg:Str->Option Value)(base:Heap)(CX:Ou)(k:Nat)(f:Addr)(fd:FuncData)(ps:List Str)(sp:Sp):Prop where
 len:∀ vs H Q E,sp vs H Q E->vs.length=ps.length
 run:∀ (A:Around) (outer:List Env) (s:Shared) (H:Hp) (args:Args) (us:List Value) (vs:List V) (Q:VK) (E:XK),lg k A->JX P w K mg base A outer s H->BindsTo s fd args (ps.zip us)->cG vs us->sp vs H Q E->
  codeAny (model P w) A (.call (.ref f) args) (CR CX outer P w H s Q E) s
theorem JX.make{P:Program}{w:World}{K:PySem.W.Frag}{mg:Str->Option Value}{base:Heap}{A:Around}{outer:List Env}{s:Shared}{H:Hp}(e:JX P w K mg base A outer s H)(C:Addr)(us:List Value)(kw:List (Str × Value)) :
  JX P w K mg base (A.under (.builtin "type.__call__" ⟨.ref C::us,kw⟩)) outer s H:=⟨by first|exact e.frames|(simpa [Around.under,Code.envs,Code.isFrame,pushEnvs] using e.frames),e.mod,e.bs,e.UE,e.yD,e.VT,e.hok,e.bare⟩
section
variable {X:Cx} {ao:List (Addr × Obj)} {σ:St} {H:Hp} {s s':Shared}
theorem Inv.YU(I:Inv X ao σ H s):JX X.prog X.w X.K X.mg X.base X.A X.stack s H :=
 ⟨I.ok.frames,I.ok.mod,I.bs,lS I.ok.UE I.sz,I.stack,I.Bx,I.hok,I.bare⟩
theorem Inv.after{Q:VK}{u:Value}(I:Inv X ao σ H s)(h:CE X.stack X.prog X.w H s Q u s'):EP X ao σ Q u s':=by
 obtain⟨v,H',os,bare,un,hok,r,q⟩:=h;obtain⟨hh,g,d,t,os'⟩:=s';obtain rfl:os'=s.os:=os;exact⟨v,H',I.call (h':=hh) (g':=g) (d':=d) (t':=t) (ch:=[]) un hok bare (λb z=>absurd z (by simp)),r,q⟩
end
def Hl(sp:Sp)(Cf:List V)(E:XK)(t:TA):TE:=fun σ H Q=>t σ H λvs H1=>sp (vs++Cf) H1 Q E
inductive YV(C:Addr)(m:Str)(x:V)(H:Hp)(N:Prop):Prop
 | mk (a dx:Addr) (fs:List (Str × V)) (_:x=.ref a) (_:H a=some (.ins C dx fs)) (_:fs.lookup m=none) (_:N):YV C m x H N
def Lp(C:Addr)(m:Str)(sp:Sp)(Cf:List V)(E:XK)(ta:TE)(t:TA):TE:=fun σ H Q=>ta σ H λx H1=>YV C m x H1 (t σ H1 λvs H2=>sp (x::(vs++Cf)) H2 Q E)
def YW(C:Addr)(sp:Sp)(Cf:List V)(E:XK)(t:TA):TE:=fun σ H Q=>t σ H λvs H1=>∀ x dx,H1 x=none->H1 dx=none->dx≠x->
 sp (.ref x::(vs++Cf)) (aQ (aQ H1 dx (.own x)) x (.ins C dx [])) (λv H2=>v=.jm/\Q (.ref x) H2) E
def Binds(K:PySem.W.Frag)(fd:FuncData)(ps:List Str)(ds:List Value):Prop :=
 ∀ (s:Shared) (us:List Value),K.In s.heap->(us++ds).length=ps.length->BindsTo s fd ⟨us,[]⟩ (ps.zip (us++ds))
theorem Binds.all{K:PySem.W.Frag}{ps:List Str}(h:∀ us:List Value,us.length=ps.length->bindArgs fd ⟨us,[]⟩=pure (ps.zip us)):Binds K fd ps []:=λs us _ hl=>by
 rw[kW]at hl ⊢;exact .of_eq (h us hl)
def oM(CX:Ou)(X:Cx)(E:XK):Prop:=∀ (ao:List (Addr × Obj)) (σ:St) (H:Hp) (s:Shared) (e:Value) (s':Shared),Inv X ao σ H s->CX X.stack H s E e s'->X.xe e s'
section
variable {X:Cx} {CX:Ou} {k:Nat} {f C:Addr} {fd:FuncData} {ps:List Str} {sp:Sp} {Cf:List V} {ds:List Value} {E:XK} {x m:Str} {p pos qD:Pos} {e o:Expr} {es:List Expr} {ta:TE} {t:TA}
theorem FD{σ:St}{H:Hp}{s:Shared}{Q:VK}{us:List Value}{vs:List V}(F:aC X.prog X.w X.K X.mg X.base CX k f fd ps sp)(hr:lg k X.A)(hb:Binds X.K fd ps ds)(hd:cG Cf ds)(hx:oM CX X E)
  (I:Inv X ao σ H s) (r:cG vs us) (h:sp (vs++Cf) H Q E):wpAny (model X.prog X.w) X.A (call (.ref f) us) (EP X ao σ Q) X.xe s:=by
 have r2:cG (vs++Cf) (us++ds):=r.append hd;have hl:(us++ds).length=ps.length:=by rw[← r2.length];exact F.len _ _ _ _ h
 refine wpAny_call (codeAny_mono (F.run X.A X.stack s H ⟨us,[]⟩ (us++ds) (vs++Cf) Q E hr I.YU (hb s us I.AJ hl) r2 h) λr s' hq=>?_)
 cases r with
 | error e=>exact hx ao σ H s e s' I hq
 | ok fl =>
  cases fl with
  | ret u=>exact I.after hq
  | next=>exact False.elim hq
  | brk=>exact False.elim hq
  | cont=>exact False.elim hq
theorem FE(F:aC X.prog X.w X.K X.mg X.base CX k f fd ps sp)(hr:lg k X.A)(hg:Gl X x)(hm:X.mg x=some (.ref f))(hk:PySem.W.keepIn X.K (.ref f)=true)(hb:Binds X.K fd ps ds)(hd:cG Cf ds)(hx:oM CX X E)
  (ha:PA X (e::es) t) (Ho:(x == ("__debug__":Str))=false:=by decide) (he:starEach (e::es) X.env=(false,eval e X.env)::starEach es X.env:=by rfl) (DA:(backTo pos (starEach es X.env)).any (·.1)=false:=by rfl) :
  PE X (.Call (.Name x p) (e::es) [] pos) (Hl sp Cf E t):=by
 intro ao s σ H Q I h;refine wpAny_Call_Name_kw (yE I hg hm ?_ Ho);refine PySem.W.callWith_K (h₀:=X.base) I.ok.mod.Yw hk (dB (ha pos ao s σ H _ I h) λus s1 ⟨vs,H1,I1,r,q⟩=>⟨I1.AJ,?_⟩) he DA;exact FD F hr hb hd hx I1 r q
theorem O9(F:aC X.prog X.w X.K X.mg X.base CX k f fd ps sp)(hr:lg k X.A)(hg:Gl X x)(hm:X.mg x=some (.ref f))(hk:PySem.W.keepIn X.K (.ref f)=true)(hb:Binds X.K fd ps ds)(hd:cG Cf ds)(hx:oM CX X E)
  (Ho:(x == ("__debug__":Str))=false:=by decide):PE X (.Call (.Name x p) [] [] pos) (Hl sp Cf E Ce):=by
 intro ao s σ H Q I h;refine wpAny_Call_Name_kw (yE I hg hm ?_ Ho);exact PySem.W.callWith_K0 I.AJ hk (FD (us:=[]) F hr hb hd hx I .nil h)
theorem SM{pl:Sem Bool}(he:PE X o ta)(c:Es X.K C)(hm:O7 X.K C m f)(F:aC X.prog X.w X.K X.mg X.base CX k f fd ps sp)(hr:lg k X.A)(hb:Binds X.K fd ps ds)(hd:cG Cf ds)(hx:oM CX X E)(ha:PA X (e::es) t)
  (DK:starEach (e::es) X.env=(false,eval e X.env)::starEach es X.env:=by rfl) (DA:(backTo pos (starEach es X.env)).any (·.1)=false:=by rfl)
  (ht:eval (.Call (.Attribute o m qD) (e::es) [] pos) X.env=(do
   let ov ← eval o X.env
   standAt qD.atName
   let (f,first) ← holding [ov] (getMethod ov m pl)
   callWith pos f first (backTo pos (starEach (e::es) X.env)) (backToKw pos (keywordEach [] X.env))):=by rfl) :
  PE X (.Call (.Attribute o m qD) (e::es) [] pos) (Lp C m sp Cf E ta t):=by
 intro ao s σ H Q I h;refine PySem.W.methodCall_KW (pl:=pl) (dB (he ao s σ H _ I h) λu s1 ⟨x,H1,I1,rx,a,dx,fs,ex,ea,l,q⟩=>?_) ht;subst ex;obtain rfl:u=Value.ref a:=rx;refine Cc I1 ea c hm l ?_
 refine PySem.W.callWith_K (first:=[.ref a]) (h₀:=X.base) I.ok.mod.Yw hm.kp (dB (ha pos ao s1 σ H1 _ I1 q) λus s2 ⟨vs,H2,I2,r,q2⟩=>⟨I2.AJ,?_⟩) DK DA
 exact FD (us:=.ref a::us) (vs:=.ref a::vs) F hr hb hd hx I2 (.cons rfl r) q2
theorem Pa{pl:Sem Bool}(he:PE X o ta)(c:Es X.K C)(hm:O7 X.K C m f)(F:aC X.prog X.w X.K X.mg X.base CX k f fd ps sp)(hr:lg k X.A)(hb:Binds X.K fd ps ds)(hd:cG Cf ds)(hx:oM CX X E)
  (ht:eval (.Call (.Attribute o m qD) [] [] pos) X.env=(do
   let ov ← eval o X.env
   standAt qD.atName
   let (f,first) ← holding [ov] (getMethod ov m pl)
   callWith pos f first (backTo pos (starEach [] X.env)) (backToKw pos (keywordEach [] X.env))):=by rfl) :
  PE X (.Call (.Attribute o m qD) [] [] pos) (Lp C m sp Cf E ta Ce):=by
 intro ao s σ H Q I h;refine PySem.W.methodCall_KW (pl:=pl) (dB (he ao s σ H _ I h) λu s1 ⟨x,H1,I1,rx,a,dx,fs,ex,ea,l,q⟩=>?_) ht;subst ex;obtain rfl:u=Value.ref a:=rx;refine Cc I1 ea c hm l ?_
 exact PySem.W.callWith_K0 (first:=[.ref a]) I1.AJ hm.kp (FD (us:=[.ref a]) (vs:=[.ref a]) F hr hb hd hx I1 (.cons rfl .nil) q)
structure Mk(K:PySem.W.Frag)(C f:Addr):Prop where
 makes:PySem.W.makesIn K C=true
 init:PySem.W.findIn K (.ref C) "__init__"=some (some (.ref f))
 fn:PySem.W.isFn K (.ref f)=true
 kp:PySem.W.keepIn K (.ref C)=true
theorem Pb{σ:St}{H:Hp}{s:Shared}{Q:VK}{us:List Value}{vs:List V}(M:Mk X.K C f)(F:aC X.prog X.w X.K X.mg X.base CX k f fd ps sp)(hr:lg (k+1) X.A)(hb:Binds X.K fd ps ds)(hd:cG Cf ds)
  (hx:oM CX X E) (I:Inv X ao σ H s) (r:cG vs us)
  (h:∀ x dx,H x=none->H dx=none->dx≠x->sp (.ref x::(vs++Cf)) (aQ (aQ H dx (.own x)) x (.ins C dx [])) (λv H2=>v=.jm/\Q (.ref x) H2) E) :
  wpAny (model X.prog X.w) X.A (call (.ref C) us) (EP X ao σ Q) X.xe s:=by
 have hq:=h (s.heap.objs.size+1) s.heap.objs.size (I.hok.fresh (Nat.le_succ _)) (I.hok.fresh (jz _)) (qo (Nat.lt_succ_self _));have I2:=Inv.made (C:=C) I;have r2:cG (V.ref (s.heap.objs.size+1)::(vs++Cf)) (Value.ref (s.heap.objs.size+1)::(us++ds)):=.cons rfl (r.append hd)
 have hl:(Value.ref (s.heap.objs.size+1)::us++ds).length=ps.length:=by
  have e:=r2.length;rw[F.len _ _ _ _ hq]at e;exact e.symm
 refine wpAny_call (O6 (f:=f) I.AJ M.makes M.init (beq_iff_eq.mp M.fn) (codeAny_mono (F.run _ X.stack _ _ ⟨Value.ref (s.heap.objs.size+1)::us,[]⟩ (Value.ref (s.heap.objs.size+1)::(us++ds)) _ _ E (hr.make C us []) (I2.YU.make C us []) (hb _ (Value.ref (s.heap.objs.size+1)::us) I2.AJ hl) r2 hq) λr s' Wq=>?_))
 cases r with
 | error e=>exact hx ao σ _ _ e s' I2 Wq
 | ok fl =>
  cases fl with
  | ret u =>
   obtain⟨v,H',I3,rv,ev,q3⟩:=I2.after Wq;subst ev;exact⟨rv,⟨V.ref (s.heap.objs.size+1),H',I3,rfl,q3⟩⟩
  | next=>exact False.elim Wq
  | brk=>exact False.elim Wq
  | cont=>exact False.elim Wq
theorem t7(M:Mk X.K C f)(F:aC X.prog X.w X.K X.mg X.base CX k f fd ps sp)(hr:lg (k+1) X.A)(hg:Gl X x)(hm:X.mg x=some (.ref C))(hb:Binds X.K fd ps ds)(hd:cG Cf ds)(hx:oM CX X E)
  (Ho:(x == ("__debug__":Str))=false:=by decide):PE X (.Call (.Name x p) [] [] pos) (YW C sp Cf E Ce):=by
 intro ao s σ H Q I h;refine wpAny_Call_Name_kw (yE I hg hm ?_ Ho);exact PySem.W.callWith_K0 I.AJ M.kp (Pb (us:=[]) M F hr hb hd hx I .nil h)
end
structure aJ(N P:List Str)(sc:Scope):Prop where
 kind:sc.kind=.function
 co:sc.isCoroutine=false
 gen:sc.isGenerator=false
 nd:N.Nodup
 pre:N.take P.length=P
 par:∀ x∈P,sc.names.lookup x=some .local\/sc.names.lookup x=some .cell
 Wr:∀ y∈sc.names,y.2≠.free
theorem Et{kindOf:Str->Option NameKind}{x:Str}:∀ {binds:List (Str × Value)} {m:Str->Option Value},(∀ v,(x,v)∉binds)->bindL kindOf binds m x=m x
 | [],_,_=>rfl
 | (n,v)::r,m,h=>by
  unfold bindL;rw[Et λw hw=>h w (sF _ hw)];split
  ·have:x≠n:=by rintro rfl;exact h v yC
   simp[this]
  ·rfl
theorem Eu{kindOf:Str->Option NameKind}{x:Str}:∀ {binds:List (Str × Value)} {m:Str->Option Value},(∀ v,(x,v)∉binds)->bindC kindOf binds m x=m x
 | [],_,_=>rfl
 | (n,v)::r,m,h=>by
  unfold bindC;rw[Eu λw hw=>h w (sF _ hw)];split
  ·rfl
  ·have:x≠n:=by rintro rfl;exact h v yC
   simp[this]
theorem Ew{kindOf:Str->Option NameKind}{x:Str}{v:Value}:∀ {P:List Str} {vs:List Value} {i:Nat} {m:Str->Option Value},P.Nodup->P[i]?=some x->vs[i]?=some v->kindOf x=some .local->
  bindL kindOf (P.zip vs) m x=some v
 | [],_,_,_,_,h,_,_=>by simp at h
 | _::_,[],_,_,_,_,h,_=>by simp at h
 | p::P,w::vs,0,m,nd,h1,h2,hk=>by
  simp at h1 h2;subst h1;subst h2;show bindL kindOf ((p,w)::P.zip vs) m p=_;unfold bindL;rw[Et λv hv=>(List.nodup_cons.mp nd).1 (List.of_mem_zip hv).1,if_pos hk];simp
 | p::P,w::vs,i+1,m,nd,h1,h2,hk=>by
  show bindL kindOf ((p,w)::P.zip vs) m x=_;unfold bindL;exact Ew (i:=i) (List.nodup_cons.mp nd).2 (by simpa using h1) (by simpa using h2) hk
theorem Ex{kindOf:Str->Option NameKind}{x:Str}{v:Value}:∀ {P:List Str} {vs:List Value} {i:Nat} {m:Str->Option Value},P.Nodup->P[i]?=some x->vs[i]?=some v->kindOf x≠some .local->
  bindC kindOf (P.zip vs) m x=some v
 | [],_,_,_,_,h,_,_=>by simp at h
 | _::_,[],_,_,_,_,h,_=>by simp at h
 | p::P,w::vs,0,m,nd,h1,h2,hk=>by
  simp at h1 h2;subst h1;subst h2;show bindC kindOf ((p,w)::P.zip vs) m p=_;unfold bindC;rw[Eu λv hv=>(List.nodup_cons.mp nd).1 (List.of_mem_zip hv).1,if_neg hk];simp
 | p::P,w::vs,i+1,m,nd,h1,h2,hk=>by
  show bindC kindOf ((p,w)::P.zip vs) m x=_;unfold bindC;exact Ex (i:=i) (List.nodup_cons.mp nd).2 (by simpa using h1) (by simpa using h2) hk
def start(N:List Str)(vs:List V):St:=vs.map some++List.replicate (N.length-vs.length) none
def Hq(CX:Ou)(P:Program)(w:World)(K:PySem.W.Frag)(mg:Str->Option Value)(base:Heap)(N:List Str)(dD:Str)(scope:Scope)(f:Addr)(cd:Value)(A:Around)(outer:List Env)(s:Shared)(H:Hp)(E:XK):Cx where
 prog:=P
 w:=w
 K:=K
 mg:=mg
 base:=base
 A:=A.deeper (envOfC dD scope s.heap.objs.size f cd)
 N:=N
 s₀:=s
 H₀:=H
 env:=envOfC dD scope s.heap.objs.size f cd
 outer:=outer
 stack:=envOfC dD scope s.heap.objs.size f cd::outer
 ex:=[]
 calm:=true
 fn:=λ_=>true
 pn:=[]
 xe:=λe s'=>wpAny (model P w) (A.deeper (envOfC dD scope s.heap.objs.size f cd)) (leaving (envOfC dD scope s.heap.objs.size f cd) e) (λ_ s''=>CX outer H s E e s'') (λe' s''=>CX outer H s E e' s'') s'
theorem Hr{sc:Scope}{n:Nat}{x:Str}(h:sc.names.lookup x=some .cell):∃ c,(cellsFrom n sc.names []).lookup x=some c:=by
 have q:=PySem.W.cellsFrom_some sc.names n [] (.inl h);exact Option.isSome_iff_exists.mp q
theorem Ni{CX:Ou}{P:Program}{w:World}{K:PySem.W.Frag}{mg:Str->Option Value}{base:Heap}{N ps:List Str}{dD:Str}{scope:Scope}{f:Addr}{cd:Value}{A:Around}{outer:List Env}{s s1:Shared}{H:Hp}{E:XK}{us:List Value}{vs:List V}
  (S:aJ N ps scope) (hd:A.handled=none) (e0:JX P w K mg base A outer s H) (hl:vs.length=ps.length) (r:cG vs us)
  (x:InCallC s s.heap.objs.size (bindL (envOfC dD scope s.heap.objs.size f cd).kindOf (ps.zip us) λ_=>none) (cellsFrom (s.heap.objs.size+1) scope.names []) (bindC (envOfC dD scope s.heap.objs.size f cd).kindOf (ps.zip us) λ_=>none) s1) :
  Inv (Hq CX P w K mg base N dD scope f cd A outer s H E) [] (start N vs) H s1:=by
 have DA:ps.length<=N.length:=by have:=congrArg List.length S.pre;rw[jK]at this;omega
 obtain⟨h1,tk,rfl,hk⟩:=x.done;have YX:∀ b:Addr,b∉(Hq CX P w K mg base N dD scope f cd A outer s H E).ex:=λb z=>absurd (show b∈([]:List Addr) from z) (by simp)
 refine⟨⟨e0.mod,S.kind,rfl,rfl,jz _,λy z c h1 h2=>?_,λy hy=>?_,λy c _ h=>?_,λ_=>hd,Around.frames_deeper e0.frames,.inr ⟨rfl,rfl⟩,λb z=>absurd z (YX b),e0.bs,e0.UE,λb _ _=>YX b,λb z=>absurd z (YX b),e0.yD,e0.VT⟩,
  rfl,e0.bare,Un.kept hk,⟨_,x.toInCall.ns,λi y v h1 h2 h3=>?_⟩,λy c h=>⟨_,x.cell y c h⟩,e0.hok.fresh (jz _),λy c h=>?_,λp hp=>absurd (show p∈([]:List (Addr × Obj)) from hp) (by simp),e0.hok.kept hk,?_⟩
 ·exact name_of_addr x.apart (PySem.mem_of_lookup h1) (PySem.mem_of_lookup h2)
 ·have hy:scope.names.lookup y=some .cell\/scope.names.lookup y=some .free:=hy;rcases hy with hy|hy
  ·exact Hr hy
  ·exact absurd rfl (S.Wr _ (PySem.mem_of_lookup hy))
 ·exact kX (x.above y c (PySem.mem_of_lookup h))
 ·have hi:i<vs.length:=by
   unfold start at h2;by_cases hi:i<vs.length
   ·exact hi
   ·rw[List.getElem?_append_right (by simpa using hi)]at h2;rw[List.getElem?_replicate]at h2
    split at h2 <;> cases h2
  have ha:vs[i]?=some v:=by
   unfold start at h2;rw[List.getElem?_append_left (by simpa using hi),j3]at h2
   cases e:vs[i]? with
   | none=>rw[e]at h2;cases h2
   | some a=>rw[e]at h2;cases h2;rfl
  obtain⟨u,hu,rv⟩:=r.get ha
  have hp:ps[i]?=some y:=by
   rw[← S.pre,List.getElem?_take_of_lt (by omega)];exact h1
  have ndP:ps.Nodup:=by rw[← S.pre];exact S.nd.sublist (List.take_sublist _ _)
  refine⟨u,rv,?_⟩;rcases S.par y (vn hp) with k|k
  ·exact .inl ⟨k,Ew ndP hp hu k⟩
  ·obtain⟨c,e⟩:=Hr (n:=s.heap.objs.size+1) k;refine .inr ⟨.inl k,c,e,?_⟩;have q:=x.cell y c e;rw[Ex ndP hp hu (by show scope.names.lookup y≠_;rw[k];decide)]at q;exact q
 ·exact e0.hok.fresh (kX (x.above y c (PySem.mem_of_lookup h)))
 ·unfold start;show _=N.length;rw[dX,cS,List.length_replicate];omega
theorem UO{CX:Ou}{P:Program}{w:World}{K:PySem.W.Frag}{mg:Str->Option Value}{base:Heap}{k:Nat}{f:Addr}{name dD:Str}{params:Arguments}{scope:Scope}{dV kV zI pm dJ ct oc:Value}{an od:Option Addr}
  {Nj:Array (Option Value)} {N ps:List Str} {sp:Sp} (lk:K.lookup f=some ⟨oc,od,.func (PySem.W.fnOf name dD params body scope dV kV zI pm an dJ ct),Nj⟩) (M5:PySem.W.codeIn K dJ dD=true) (S:aJ N ps scope)
  (len:∀ vs H Q E,sp vs H Q E->vs.length=ps.length)
  (yG:∀ (A:Around) (outer:List Env) (s:Shared) (H:Hp) (vs:List V) (Q:VK) (E:XK),lg k (A.deeper (envOfC dD scope s.heap.objs.size f dJ))->sp vs H Q E->
   ∃ t,JA (Hq CX P w K mg base N dD scope f dJ A outer s H E) body t/\t { nx:=λ_ H'=>Q .jm H',rt:=Q } (start N vs) H) :
  aC P w K mg base CX (k+1) f (PySem.W.fnOf name dD params body scope dV kV zI pm an dJ ct) ps sp:=by
 refine⟨len,λA outer s H args us vs Q E hr e0 hb r JY=>?_⟩;have hl:=len _ _ _ _ JY;have KX:K.In s.heap:=e0.mod.Yw.keeps λb o e=>(e0.bs b o e).1;have lim:s.heap.NoLimit:=e0.mod.nolimit.keeps λb o e=>(e0.bs b o e).1
 have hkind:∀ y∈ps.zip us,scope.names.lookup y.1=some .local\/(scope.names.lookup y.1=some .cell/\((cellsFrom (s.heap.objs.size+1) scope.names []).lookup y.1).isSome=true):=λ⟨n,v⟩ hy=>by
  rcases S.par n (List.of_mem_zip hy).1 with q|q
  ·exact .inl q
  ·exact .inr ⟨q,PySem.W.cellsFrom_some _ _ _ (.inl q)⟩
 refine codeAny_call_function hr.depth (KX _ _ lk) rfl S.co S.gen rfl (PySem.W.codeRec_of KX M5) (hb _ _ _ _ ?_);refine wpAny_newFunctionEnv_cells S.kind hkind λenv he s1 x=>?_;subst he;refine⟨lim.keeps x.toInCall.keep,codeAny_func ?_⟩;obtain⟨t,ht,hq⟩:=yG A outer s H vs Q E (hr.deeper _) JY;have I:Inv (Hq CX P w K mg base N dD scope f dJ A outer s H E) [] (start N vs) H s1:=Ni S hr.hd e0 hl r x;refine wpAny_mono (ht [] s1 (start N vs) H _ I hq) (λfl s' hs=>?_) λe s' hs=>hs;have oB:∀ {σ':St} {H':Hp} {v:V} {u:Value},Inv (Hq CX P w K mg base N dD scope f dJ A outer s H E) [] σ' H' s'->RelV v u->Q v H'->CE outer P w H s Q u s' := λ{σ' H' v u} J rv q=>⟨v,H',J.os,J.bare,J.base,J.hok,rv,q⟩
 cases fl with
 | ret u =>
  obtain⟨v,σ',H',J,rv,q⟩:=hs;exact oB J rv q
 | next =>
  obtain⟨σ',H',J,q⟩:=hs;exact oB (v:=V.jm) (u:=Value.none) J rfl q
 | brk =>
  obtain⟨_,_,_,q⟩:=hs;exact False.elim q
 | cont =>
  obtain⟨_,_,_,q⟩:=hs;exact False.elim q
end L2
namespace L2
open PySem.Spec PyProof.Rows
section
variable {X:Cx} {x:Str} {p pos:Pos} {e:Expr} {es:List Expr} {t:TA} {id T:String} {r:List V->Hp->VK->Prop}
def tCB(r:List V->Hp->VK->Prop)(t:TA):TE:=fun σ H Q=>t σ H λvs H1=>r vs H1 Q
theorem cO(hc:pR X (.builtin id) r)(hg:Gl X x)(hm:X.mg x=none)(hv:bootBuiltins x=some (.builtin id))(ha:PA X (e::es) t)(hn:x≠"__name__":=by decide)(Ho:(x == ("__debug__":Str))=false:=by decide)
  (he:starEach (e::es) X.env=(false,eval e X.env)::starEach es X.env:=by rfl) (DA:(backTo pos (starEach es X.env)).any (·.1)=false:=by rfl):PE X (.Call (.Name x p) (e::es) [] pos) (tCB r t):=by
 intro ao s σ H Q I h;refine wpAny_Call_Name_kw (BW I hg hm hv ?_ hn Ho);exact PyProof.Rows.callWith_builtin1 (dB (ha pos ao s σ H _ I h) λus s1 ⟨vs,H1,I1,r1,q1⟩=>hc ao s1 σ H1 vs us Q I1 r1 q1) he DA
theorem gX(hc:pR X (.type T) r)(hg:Gl X x)(hm:X.mg x=none)(hv:bootBuiltins x=some (.type T))(ha:PA X (e::es) t)(hn:x≠"__name__":=by decide)(Ho:(x == ("__debug__":Str))=false:=by decide)
  (he:starEach (e::es) X.env=(false,eval e X.env)::starEach es X.env:=by rfl) (DA:(backTo pos (starEach es X.env)).any (·.1)=false:=by rfl):PE X (.Call (.Name x p) (e::es) [] pos) (tCB r t):=by
 intro ao s σ H Q I h;refine wpAny_Call_Name_kw (BW I hg hm hv ?_ hn Ho);exact PyProof.Rows.callWith_type1 (dB (ha pos ao s σ H _ I h) λus s1 ⟨vs,H1,I1,r1,q1⟩=>hc ao s1 σ H1 vs us Q I1 r1 q1) he DA
end
end L2
namespace HT
open PyProof.Rows
section
variable {prog:Program} {w:World} {A:Around} {E:Value->Shared->Prop} {s:Shared}
def jD(n d:Nat):Option Int->Nat
 | none=>d
 | some v=>if v<0 then (v+(n:Int)).toNat else min v.toNat n
theorem Lq(n d k:Nat):jD n d (some (k:Int))=min k n:=by
 show (if (k:Int)<0 then ((k:Int)+(n:Int)).toNat else min (k:Int).toNat n)=min k n;rw[if_neg (by omega),Int.toNat_natCast]
theorem Ws(n d:Nat)(hd:d<=n)(o:Option Int):jD n d o<=n:=by
 cases o with
 | none=>exact hd
 | some v =>
  show (if v<0 then (v+(n:Int)).toNat else min v.toNat n)<=n;by_cases hv:v<0
  ·rw[if_pos hv];omega
  ·rw[if_neg hv];exact Nat.min_le_right _ _
theorem Lr(v:Int)(n d:Nat):(if v<0 then max (v+(n:Int)) 0 else min v (n:Int))=((jD n d (some v):Nat):Int):=by
 show (if v<0 then max (v+(n:Int)) 0 else min v (n:Int))=(((if v<0 then (v+(n:Int)).toNat else min v.toNat n):Nat):Int);by_cases hv:v<0
 ·simp only[if_pos hv];omega
 ·simp only[if_neg hv];omega
theorem JZ(lo hi:Option Int)(n:Nat):Builtin.Slice.sliceAdjust lo hi 1 (n:Int)=(((jD n 0 lo:Nat):Int),((jD n n hi:Nat):Int)):=by
 have h1:¬ ((1:Int)<0):=by omega
 unfold Builtin.Slice.sliceAdjust;simp only[h1,if_false];refine Prod.ext ?_ ?_
 ·cases lo with
  | none=>rfl
  | some v=>exact Lr v n 0
 ·cases hi with
  | none=>rfl
  | some v=>exact Lr v n n
theorem J1(i j:Nat):Builtin.Slice.slicePlaces (i:Int) (j:Int) 1=j-i:=by
 unfold Builtin.Slice.slicePlaces;have h1:(1:Int) > 0:=by omega
 simp only[h1,if_true,Int.ediv_one]
 split <;> omega
theorem Cg{v:Value}{o:Option Int}{Q:Option Int->Shared->Prop}(p:IsPart v o)(h:Q o s):wpAny (model prog w) A (Builtin.Slice.slicePartIndex v) Q E s:=by
 cases p with
 | none=>exact slicePart_none h
 | int i t=>exact slicePart_int h
theorem zJ{sl:Addr}{vl vu:Value}{lo hi:Option Int}{n:Nat}{Q:Int × Int × Nat->Shared->Prop}(hs:s.heap.IsSliceOf sl vl vu .none)(pl:IsPart vl lo)(pu:IsPart vu hi)
  (h:Q (((jD n 0 lo:Nat):Int),1,jD n n hi-jD n 0 lo) s):wpAny (model prog w) A (Builtin.Slice.sliceApplied (.ref sl) (pure (n:Int))) Q E s:=by
 obtain⟨os,hos,Wu,Ls⟩:=id hs;unfold Builtin.Slice.sliceApplied Builtin.Slice.sliceFields;refine wpAny_bind (wpAny_bind (wpAny_field hos Ls (x:=vl) rfl (wpAny_bind (wpAny_field hos Ls (x:=vu) rfl (wpAny_bind (wpAny_field hos Ls (x:=.none) rfl (wpAny_pure ?_)))))));refine wpAny_bind (slicePart_none ?_);show wpAny _ _ (if ((1:Int) == 0)=true then _ else _) _ _ s;rw[if_neg (by decide)];refine wpAny_bind (Cg pl (wpAny_bind (Cg pu (wpAny_bind (wpAny_pure ?_)))));show wpAny _ _ (match Builtin.Slice.sliceAdjust lo hi 1 (n:Int) with|(lo,hi)=>pure (lo,(1:Int),Builtin.Slice.slicePlaces lo hi 1)) _ _ s;rw[JZ lo hi n];show wpAny _ _ (pure (((jD n 0 lo:Nat):Int),(1:Int),Builtin.Slice.slicePlaces ((jD n 0 lo:Nat):Int) ((jD n n hi:Nat):Int) 1)) _ _ s;rw[J1];exact wpAny_pure h
theorem Pc(xs:Array Value)(i k:Nat):((List.range k).filterMap λ(m:Nat)=>xs[((i:Int)+(m:Int)*1).toNat]?).toArray=((xs.toList.drop i).take k).toArray:=by
 have e:(λ(m:Nat)=>xs[((i:Int)+(m:Int)*1).toNat]?)=λm=>xs[i+m]?:=by
  funext m;have:((i:Int)+(m:Int)*1).toNat=i+m:=by omega
  rw[this]
 rw[e];have:=pick_run xs i k;rw[List.filterMap_map]at this;have e2:((λx=>xs[x]?) ∘ λx=>i+x)=λm=>xs[i+m]?:=rfl;rw[e2]at this;rw[this]
theorem yH{t sl:Addr}{items:Array Value}{vl vu:Value}{lo hi:Option Int}{Q:Value->Shared->Prop}(ht:IsTup s.heap t items)(hs:s.heap.IsSliceOf sl vl vu .none)(pl:IsPart vl lo)(pu:IsPart vu hi)
  (hw:¬ (jD items.size 0 lo=0/\jD items.size items.size hi=items.size))
  (h:Q (.ref s.heap.objs.size) { s with heap:=s.heap.push { cls:=.type "tuple",data:=.seq ((items.toList.drop (jD items.size 0 lo)).take (jD items.size items.size hi-jD items.size 0 lo)).toArray } })
  (hsz:items.size<=sizeLine):wpAny (model prog w) A (getItem (.ref t) (.ref sl)) Q E s:=by
 have Lu:sizeOk (.seq ((items.toList.drop (jD items.size 0 lo)).take (jD items.size items.size hi-jD items.size 0 lo)).toArray):=by
  show ((items.toList.drop (jD items.size 0 lo)).take (jD items.size items.size hi-jD items.size 0 lo)).toArray.size<=sizeLine;rw[jV,jK,vq,Array.length_toList];omega
 have hj:jD items.size items.size hi<=items.size:=Ws _ _ (jz _) hi;obtain⟨os,hos,Wu,Ls⟩:=id hs;have hTs:s.TypeIs (.ref sl) "slice":=⟨os,hos,Wu⟩;unfold getItem
 try with_reducible refine wpAny_holding ?_
 first|refine wpAny_bind (wpAny_pure ?_)|skip
 refine wpAny_bind (wpAny_sequenceKey ht.typeIs (by decide) ?_);refine wpAny_bind (wpAny_callSpecial?_slot (name:=Str.ofString "__getitem__") ht.typeIs PyProof.Rows.slot_tuple_getitem (wpAny_call_entry PyProof.Rows.slot_tuple_getitem ht.typeIs entry_tuple_getitem ?_ (args_tuple_getitem _ _)));show wpAny _ _ (Builtin.Tuple.tupleItemsOf (.ref t) >>= _) _ _ s;refine wpAny_bind (tupleItemsOf_ ht ?_);refine wpAny_bind (wpAny_typeOf hTs ?_);rw[if_pos (by decide)];refine wpAny_bind (zJ hs pl pu ?_)
 have UP:¬ ((((jD items.size 0 lo:Nat):Int) == 0&&(1:Int) == 1&&(jD items.size items.size hi-jD items.size 0 lo) == items.size)=true):=by
  intro q;rw[Bool.and_eq_true,Bool.and_eq_true]at q;have q1:((jD items.size 0 lo:Nat):Int)=0:=eq_of_beq q.1.1;have q2:jD items.size items.size hi-jD items.size 0 lo=items.size:=eq_of_beq q.2;exact hw ⟨by omega,by omega⟩
 show wpAny _ _ (if (((jD items.size 0 lo:Nat):Int) == 0&&(1:Int) == 1&&(jD items.size items.size hi-jD items.size 0 lo) == items.size)=true then _ else _) _ _ s;rw[if_neg UP,Pc]
 first
  | exact wpAny_bind (m:=Builtin.Tuple.tupleExact _) (wpAny_newObj_type (wpAny_pure ⟨_,rfl,wpAny_pure h⟩) Lu)
  | exact wpAny_bind (m:=Builtin.Tuple.tupleExact _) (wpAny_newObj_type (wpAny_bind (wpAny_pure (wpAny_pure ⟨_,rfl,wpAny_pure h⟩))) Lu)
  | exact wpAny_bind (wpAny_bind (m:=Builtin.Tuple.tupleExact _) (wpAny_newObj_type (wpAny_pure (wpAny_pure ⟨_,rfl,wpAny_pure h⟩)) Lu))
  | exact wpAny_bind (wpAny_bind (m:=Builtin.Tuple.tupleExact _) (wpAny_newObj_type (wpAny_pure ⟨_,rfl,wpAny_pure h⟩) Lu))
end
end HT
namespace L2
open PySem.Spec PyProof.Rows
abbrev TO:=St->Hp->(Option Int->Hp->Prop)->Prop
def PO(X:Cx)(e:Option Expr)(t:TO):Prop :=
 ∀ (ao:List (Addr × Obj)) (s:Shared) (σ:St) (H:Hp) (Q:Option Int->Hp->Prop),Inv X ao σ H s->t σ H Q->
  wpAny (model X.prog X.w) X.A (evalPart e X.env) (λu s'=>∃ o H',Inv X ao σ H' s'/\IsPart u o/\Q o H') X.xe s
def SN:TO:=λ_ H Q=>Q none H
def YY(t:TE):TO:=fun σ H Q=>t σ H λx H1=>isI x H1 Q
theorem intsAre_of{ns:List Int}:∀ {us:List Value},cG (ns.map V.int) us->IntsAre us ns:=by
 induction ns with
 | nil=>intro us r;rw[List.map_nil]at r;cases r;exact .nil
 | cons n ns ih =>
  intro us r;rw[oK]at r
  cases r with
  | cons r1 r2 =>
   obtain⟨t,e⟩:=r1;subst e;exact .cons n t (ih r2)
section
variable {X:Cx} {e:Expr} {te:TE} {lo hi:Option Expr} {tl th:TO} {pos p2:Pos}
theorem qE:PO X none SN:=by
 intro ao s σ H Q I h;rw[evalPart_none];exact wpAny_pure ⟨none,H,I,.none,h⟩
theorem lu(h:PE X e te):PO X (some e) (YY te):=by
 intro ao s σ H Q I hw;rw[evalPart_some];refine dB (h ao s σ H _ I hw) λu s1 JO=>?_;obtain⟨x,H1,I1,r1,q1⟩:=JO;obtain⟨i,rfl,q⟩:=q1;obtain⟨t,rfl⟩:=r1;exact⟨some i,H1,I1,.int i t,q⟩
def SlR(X:Cx)(r:V->Option Int->Option Int->Hp->VK->Prop):Prop :=
 ∀ (ao:List (Addr × Obj)) (s:Shared) (σ:St) (H:Hp) (x:V) (v vl vu:Value) (lo hi:Option Int) (sl:Addr) (Q:VK),Inv X ao σ H s->RelV x v->s.heap.IsSliceOf sl vl vu .none->IsPart vl lo->IsPart vu hi->r x lo hi H Q->
  ∃ T id,typeLookup (.type T) "__getitem__"=pure (some (.builtin id))/\s.TypeIs v T/\wpAny (model X.prog X.w) X.A (getItem v (.ref sl)) (EP X ao σ Q) X.xe s
def tSl(r:V->Option Int->Option Int->Hp->VK->Prop)(te:TE)(tl th:TO):TE:=fun σ H Q=>te σ H λx H1=>tl σ H1 λl H2=>th σ H2 λu H3=>r x l u H3 Q
theorem j7{r:V->Option Int->Option Int->Hp->VK->Prop}(hr:SlR X r)(he:PE X e te)(hl:PO X lo tl)(hu:PO X hi th):PE X (.Subscript e (.Slice lo hi none p2) pos) (tSl r te tl th):=by
 intro ao s σ H Q I h;refine Subscript_ (dB (he ao s σ H _ I h) λv s1 DG=>?_);obtain⟨x,H1,I1,r1,q1⟩:=DG;refine wpAny_Slice (dB (hl ao s1 σ H1 _ I1 q1) λvl s2 ⟨l,H2,I2,pl,q2⟩=>dB (hu ao s2 σ H2 _ I2 q2) λvu s3 G7=>?_);obtain⟨u,H3,I3,pu,q3⟩:=G7;rw[evalPart_none];refine wpAny_pure ?_;have I4:Inv X ao σ H3 { s3 with heap:=s3.heap.push { cls:=.type "slice",data:=.fields #[vl,vu,.none] } }:=I3.kept (t':=s3.toks) λb ob q=>Heap.get?_push_of_some _ q;obtain⟨T,id,hT,ht,hg⟩:=hr ao { s3 with heap:=s3.heap.push { cls:=.type "slice",data:=.fields #[vl,vu,.none] } } σ H3 x v vl vu l u s3.heap.objs.size Q I4 r1 (Heap.IsSliceOf.new ..) pl pu q3;show wpAny (model X.prog X.w) X.A (subscriptTail e (.Slice lo hi none p2) v (.ref s3.heap.objs.size)) (EP X ao σ Q) X.xe { s3 with heap:=s3.heap.push { cls:=.type "slice",data:=.fields #[vl,vu,.none] } };exact tail_any (ops:=[.ref s3.heap.objs.size,v]) ht hT hg (by with_unfolding_all rfl)
def pT(xs:List V)(lo hi:Option Int):List V:=(xs.drop (HT.jD xs.length 0 lo)).take (HT.jD xs.length xs.length hi-HT.jD xs.length 0 lo)
theorem AM(xs:List V)(lo hi:Option Int):(pT xs lo hi).length<=xs.length:=by
 unfold pT;rw[jK,vq];omega
def ab7(K:PySem.W.Frag):V->Option Int->Option Int->Hp->VK->Prop:=λx lo hi H Q=>∃ a xs,x=.ref a/\ef K H a xs/\
 ¬ (HT.jD xs.length 0 lo=0/\HT.jD xs.length xs.length hi=xs.length)/\∀ p,H p=none->Q (.ref p) (aQ H p (.tup (pT xs lo hi)))
theorem Wv:SlR X (ab7 X.K):=by
 intro ao s σ H x v vl vu lo hi sl Q I rx hs pl pu h;obtain⟨a,xs,rfl,hx,hw,q⟩:=h;cases rx;obtain⟨aP,r,ht,hz⟩:=I.tuple hx;have eN:aP.toArray.size=xs.length:=by rw[jV];exact r.length.symm
 refine⟨"tuple",_,PyProof.Rows.slot_tuple_getitem.lookup,ht.typeIs,?_⟩;refine HT.yH ht hs pl pu (by rw[eN];exact hw) ?_ (by rw[eN];exact hz);rw[eN];refine⟨.ref s.heap.objs.size,_,I.laid (t':=s.toks) (o:=.tup (pT xs lo hi)) (λb ob q=>Heap.get?_push_of_some _ q) (jz _) ?_,rfl,q _ (I.hok.fresh (jz _))⟩;exact⟨Nat.le_trans (AM xs lo hi) hz,_,(r.drop (HT.jD xs.length 0 lo)).take (HT.jD xs.length xs.length hi-HT.jD xs.length 0 lo),IsTup.new _ _⟩
end
end L2
namespace L2
open PySem.Spec PyProof.Rows
def Lv(n:Nat)(i:Int):Option Nat:=if 0<=i then (if i<n then some i.toNat else none) else if -(n:Int)<=i then some (i+n).toNat else none
def wC{α:Type}(xs:List α)(i:Int):Option α:=(Lv xs.length i).bind λj=>xs[j]?
theorem Lw{n:Nat}{i:Int}{j:Nat}(h:Lv n i=some j):seqIndex? i n=some j/\j<n/\-(n:Int)<=i/\i<n:=by
 unfold Lv at h;by_cases h0:0<=i
 ·rw[if_pos h0]at h;by_cases h1:i<n
  ·rw[if_pos h1]at h;have e:i.toNat=j:=vG h;exact⟨by rw[seqIndex_of h0 h1,e],by omega,by omega,h1⟩
  ·rw[if_neg h1]at h;cases h
 ·rw[if_neg h0]at h;by_cases h1:-(n:Int)<=i
  ·rw[if_pos h1]at h;have e:(i+n).toNat=j:=vG h;exact⟨by rw[seqIndex_neg (by omega) h1,e],by omega,h1,by omega⟩
  ·rw[if_neg h1]at h;cases h
theorem Lx{α:Type}{xs:List α}{i:Int}{v:α}(h:wC xs i=some v):∃ j,seqIndex? i xs.length=some j/\xs[j]?=some v/\j<xs.length/\-(xs.length:Int)<=i/\i<xs.length:=by
 unfold wC at h
 cases e:Lv xs.length i with
 | none=>rw[e]at h;cases h
 | some j =>
  rw[e]at h;obtain⟨h1,h2,h3,h4⟩:=Lw e;exact⟨j,h1,h,h2,h3,h4⟩
theorem gH{α:Type}{xs:List α}{j:Nat}{v:α}(h:xs[j]?=some v):wC xs (j:Int)=some v:=by
 have hj:j<xs.length:=(List.getElem?_eq_some_iff.mp h).1
 have e:Lv xs.length (j:Int)=some j:=by
  unfold Lv;rw[if_pos (by omega),if_pos (by omega)];simp
 unfold wC;rw[e];exact h
theorem Pd{α:Type}(xs:List α)(v:α):wC (xs++[v]) (-1)=some v:=by
 have hl:(xs++[v]).length=xs.length+1:=by simp
 have e:Lv (xs++[v]).length (-1)=some xs.length:=by
  unfold Lv;rw[hl,if_neg (by decide),if_pos (by omega)];congr 1;omega
 unfold wC;rw[e];show (xs++[v])[xs.length]?=some v;simp
def Ly(b:Expr):Prop:=∀ o i,subscripted b false o i=operate [o,i] (getItem o i)
def YZ(X:Cx)(r:R2):Prop :=
 ∀ (value yI:Expr) (ao:List (Addr × Obj)) (s:Shared) (σ:St) (H:Hp) (x y:V) (v u:Value) (Q:VK),Inv X ao σ H s->RelV x v->RelV y u->r x y H Q->
  subscripted yI false v u=operate [v,u] (getItem v u)->wpAny (model X.prog X.w) X.A (subscriptTail value yI v u) (EP X ao σ Q) X.xe s
def MtR(X:Cx)(id:String)(r:V->List V->Hp->VK->Prop):Prop :=
 ∀ (ao:List (Addr × Obj)) (s:Shared) (σ:St) (H:Hp) (x:V) (xs:List V) (v:Value) (us:List Value) (Q:VK),Inv X ao σ H s->RelV x v->cG xs us->r x xs H Q->
  wpAny (model X.prog X.w) X.A (call (.builtin id) (v::us)) (EP X ao σ Q) X.xe s
section
variable {X:Cx} {a b:Expr} {ta tb:TE} {pos:Pos}
theorem Y0{r:R2}(hr:YZ X r)(ha:PE X a ta)(hb:PE X b tb)(hs:Ly b):PE X (.Subscript a b pos) (YM r ta tb):=by
 intro ao s σ H Q I h;exact Subscript_ (Wk ha hb I h λv u s2 x y H2 I2 rx ry q=>hr a b ao s2 σ H2 x y v u Q I2 rx ry q (hs _ _))
inductive ab8(K:PySem.W.Frag)(x y:V)(H:Hp)(Q:VK):Prop
 | mk (p:Addr) (xs:List V) (i:Int) (v:V) (_:x=.ref p) (_:y=.int i) (_:bR K H p xs) (_:wC xs i=some v) (_:Q v H)
inductive Y3(K:PySem.W.Frag)(x y:V)(H:Hp)(Q:VK):Prop
 | mk (p:Addr) (xs:List V) (i:Int) (v:V) (_:x=.ref p) (_:y=.int i) (_:ef K H p xs) (_:wC xs i=some v) (_:Q v H)
theorem bP:YZ X (ab8 X.K):=by
 intro value yI ao s σ H x y v u Q I rx ry h hs;obtain⟨p,xs,i,z,rfl,rfl,hq,he,q⟩:=h;cases rx;obtain⟨t,rfl⟩:=ry;obtain⟨aP,r,pl,hz⟩:=I.list hq;obtain⟨j,h1,h2,h3,h4,h5⟩:=Lx he;obtain⟨w,ew,jW⟩:=r.get h2;have hl:=r.length;have hn:=zF;have oB:EP X ao σ Q w s:=⟨z,H,I,jW,q⟩;by_cases h0:0<=i
 ·have hj:i.toNat=j:=by
   rw[seqIndex_of h0 h5]at h1;exact vG h1
  exact item_listR pl.isList h0 (by omega) (by rw[hj];simpa using ew) oB hs
 ·have hj:(i+(aP.toArray.size:Int)).toNat=j:=by
   rw[seqIndex_neg (by omega) h4]at h1;rw[jV,← hl];exact vG h1
  exact subscriptTail_builtinR (x:=w) pl.isList.typeIs slot_list_getitem.lookup
   (wpAny_getItem_list_neg (Q:=λr s'=>r=w/\EP X ao σ Q r s') pl.isList (by omega) (by rw[jV] <;> omega) (by omega) (by rw[hj];simpa using ew) ⟨rfl,oB⟩) hs
theorem br:YZ X (Y3 X.K):=by
 intro value yI ao s σ H x y v u Q I rx ry h hs;obtain⟨p,xs,i,z,rfl,rfl,hq,he,q⟩:=h;cases rx;obtain⟨t,rfl⟩:=ry;obtain⟨aP,r,pl,hz⟩:=I.tuple hq;obtain⟨j,h1,h2,h3,h4,h5⟩:=Lx he;obtain⟨w,ew,jW⟩:=r.get h2;have hl:=r.length;have hn:=zF;have oB:EP X ao σ Q w s:=⟨z,H,I,jW,q⟩;exact subscriptTail_builtinR (x:=w) pl.typeIs slot_tuple_getitem.lookup (getItem_tuple (j:=j) (Q:=λr s'=>r=w/\EP X ao σ Q r s') pl (by omega) (by omega) (by rw[jV,← hl];exact h1) (by simpa using ew) ⟨rfl,oB⟩) hs
theorem J2(aP:List Value)(n j:Nat)(u:Value):Obj.mapSeq (·.setIfInBounds j u) { cls:=.type "list",data:=.seq aP.toArray n }={ cls:=.type "list",data:=.seq (aP.set j u).toArray n }:=by
 simp[Obj.mapSeq]
theorem Inv.lst{ao:List (Addr × Obj)}{σ:St}{H:Hp}{s:Shared}{p:Addr}{xs:List V}(I:Inv X ao σ H s)(h:H p=some (.lst xs)) :
  ∃ (aP:List Value) (n:Nat),cG xs aP/\s.heap.get? p=some { cls:=.type "list",data:=.seq aP.toArray n }/\xs.length<=sizeLine:=by
 obtain⟨z,aP,n,r,e⟩:=I.hok p _ h;exact⟨aP,n,r,e,z⟩
theorem Inv.Ww{σ:St}{H:Hp}{s:Shared}{p:Addr}{xs ys:List V}{aP its':List Value}{n n':Nat}{f:Obj->Obj}(I:Inv X ao σ H s)(h:H p=some (.lst xs))
  (ho:s.heap.get? p=some { cls:=.type "list",data:=.seq aP.toArray n }) (hf:f { cls:=.type "list",data:=.seq aP.toArray n }={ cls:=.type "list",data:=.seq its'.toArray n' }) (r:cG ys its') (hz:ys.length<=sizeLine) (t:Nat) :
  Inv X ao σ (aQ H p (.lst ys)) { s with heap:=s.heap.update p f,toks:=t }:=by
 have e:(s.heap.update p f).get? p=some { cls:=.type "list",data:=.seq its'.toArray n' }:=by
  rw[Heap.get?_update_self f ho (by rw[hf] <;> rfl),hf]
 refine I.write (x:=p) (e:=p) (by rw[h];trivial) (.inl rfl) (λb u hb q=>(Heap.get?_update_other _ _ (Ne.symm hb)).trans q) ⟨_,e⟩ ?_;exact⟨hz,its',n',r,e⟩
inductive Y4(o i v:V)(H:Hp)(Q:Hp->Prop):Prop
 | mk (p:Addr) (xs:List V) (k:Int) (j:Nat) (_:o=.ref p) (_:i=.int k) (_:H p=some (.lst xs)) (_:Lv xs.length k=some j) (_:Q (aQ H p (.lst (xs.set j v))))
theorem m9:YH X Y4:=by
 intro ao s σ H o i v ov iv u Q I ro ri rv h;obtain⟨p,xs,k,j,rfl,rfl,hp,hj,q⟩:=h;cases ro;obtain⟨t,rfl⟩:=ri;obtain⟨aP,n,r,ho,hz⟩:=I.lst hp;obtain⟨h1,h2,h3,h4⟩:=Lw hj;have hl:=r.length;have hn:=zF;have I':Inv X ao σ (aQ H p (.lst (xs.set j v))) { s with heap:=s.heap.update p (Obj.mapSeq (·.setIfInBounds j u)) } := I.Ww hp ho (J2 aP n j u) (r.set rv j) (by rw[List.length_set];exact hz) s.toks;by_cases h0:0<=k
 ·have hk:k.toNat=j:=by
   rw[seqIndex_of h0 h4]at h1;exact vG h1
  exact PySem.W.ki_setAt ho h0 (by omega) (by rw[jV,← hl];exact h4) (by rw[hk];exact⟨_,I',q⟩)
 ·have hk:(k+(aP.toArray.size:Int)).toNat=j:=by
   rw[seqIndex_neg (by omega) h3]at h1;rw[jV,← hl];exact vG h1
  exact PySem.W.ki_setBack ho (by omega) (by rw[jV,← hl];exact h3) (by omega) (by rw[hk];exact⟨_,I',q⟩)
theorem yJ(lo hi:Option Int)(n:Nat):(sliceBounds lo hi none n).1=((HT.jD n 0 lo:Nat):Int)/\(sliceBounds lo hi none n).2.1=((HT.jD n n hi:Nat):Int)/\(sliceBounds lo hi none n).2.2=1:=by
 refine⟨?_,?_,rfl⟩
 ·cases lo with
  | none=>simp[sliceBounds,HT.jD]
  | some i =>
   simp only[sliceBounds,HT.jD,Option.getD_none,show (1:Int) > 0 by decide,if_true];by_cases h:i<0
   ·simp only[h,if_true] <;> omega
   ·simp only[h,if_false] <;> omega
 ·cases hi with
  | none=>simp[sliceBounds,HT.jD]
  | some i =>
   simp only[sliceBounds,HT.jD,Option.getD_none,show (1:Int) > 0 by decide,if_true];by_cases h:i<0
   ·simp only[h,if_true] <;> omega
   ·simp only[h,if_false] <;> omega
theorem DL(aP:List Value)(lo hi:Option Int):slicePick aP.toArray lo hi none=((aP.drop (HT.jD aP.length 0 lo)).take (HT.jD aP.length aP.length hi-HT.jD aP.length 0 lo)).toArray:=by
 obtain⟨h1,h2,h3⟩:=yJ lo hi aP.toArray.size;unfold slicePick;rw[h1,h2,h3]
 simp only[sliceRange_one,pick_run,jV] <;> rfl
inductive Y5(K:PySem.W.Frag)(x:V)(lo hi:Option Int)(H:Hp)(Q:VK):Prop
 | mk (a:Addr) (xs:List V) (_:x=.ref a) (_:bR K H a xs) (_:∀ p,H p=none->Q (.ref p) (aQ H p (.lst (pT xs lo hi)))):Y5 K x lo hi H Q
theorem qF:SlR X (Y5 X.K):=by
 intro ao s σ H x v vl vu lo hi sl Q I rx hs pl pu h;obtain⟨a,xs,rfl,hx,q⟩:=h;cases rx;obtain⟨aP,r,ht,hz⟩:=I.list hx;have eN:=r.length;refine⟨"list",_,slot_list_getitem.lookup,ht.isList.typeIs,?_⟩
 refine wpAny_getItem_list_slice ht.isList hs pl pu .none (by simp) ?_ (by rw[jV] <;> omega)
 rw[DL,← eN];refine⟨.ref s.heap.objs.size,_,I.laid (t':=s.toks) (o:=.lst (pT xs lo hi)) (λb ob q=>Heap.get?_push_of_some _ q) (jz _) ?_,rfl,q _ (I.hok.fresh (jz _))⟩;exact⟨Nat.le_trans (AM xs lo hi) hz,_,0,(r.drop (HT.jD xs.length 0 lo)).take (HT.jD xs.length xs.length hi-HT.jD xs.length 0 lo),Heap.get?_push_size _ rfl⟩
def yK:V->Bool
 | .jm=>true
 | .bl _=>true
 | .int _=>true
 | .str _=>true
 | _=>false
def UQ:V->V->Bool
 | .jm,.jm=>true
 | .bl a,.bl b=>a == b
 | .bl a,.int b=>(if a then 1 else 0) == b
 | .int a,.bl b=>a == (if b then 1 else 0)
 | .int a,.int b=>a == b
 | .str a,.str b=>a == b
 | _,_=>false
theorem Wx{A:Around}{s:Shared}{y x:V}{u v:Value}(ry:RelV y u)(rx:RelV x v)(fy:yK y=true)(fx:yK x=true):SeqAt.EqAt A s u v (UQ y x):=by
 cases y with
 | jm =>
  cases ry
  cases x with
  | jm=>cases rx;exact SeqAt.EqAt.same _
  | bl b=>cases rx;exact SeqAt.EqAt.none_bool b
  | int b=>obtain⟨t,rfl⟩:=rx;exact SeqAt.EqAt.none_int b t
  | str b=>obtain⟨t,rfl⟩:=rx;exact SeqAt.EqAt.none_str b t
  | _=>exact absurd (show false=true from fx) vo
 | bl a =>
  cases ry
  cases x with
  | jm=>cases rx;exact SeqAt.EqAt.bool_none a
  | bl b=>cases rx;exact SeqAt.EqAt.bool_bool a b
  | int b=>obtain⟨t,rfl⟩:=rx;exact SeqAt.EqAt.bool_int a b t
  | str b=>obtain⟨t,rfl⟩:=rx;exact SeqAt.EqAt.bool_str a b t
  | _=>exact absurd (show false=true from fx) vo
 | int a =>
  obtain⟨t',rfl⟩:=ry
  cases x with
  | jm=>cases rx;exact SeqAt.EqAt.int_none a t'
  | bl b=>cases rx;exact SeqAt.EqAt.int_bool a t' b
  | int b=>obtain⟨t,rfl⟩:=rx;exact SeqAt.EqAt.int_int a t' b t
  | str b=>obtain⟨t,rfl⟩:=rx;exact SeqAt.EqAt.int_str a t' b t
  | _=>exact absurd (show false=true from fx) vo
 | str a =>
  obtain⟨t',rfl⟩:=ry
  cases x with
  | jm=>cases rx;exact SeqAt.EqAt.str_none a t'
  | bl b=>cases rx;exact SeqAt.EqAt.str_bool a t' b
  | int b=>obtain⟨t,rfl⟩:=rx;exact SeqAt.EqAt.str_int a t' b t
  | str b=>obtain⟨t,rfl⟩:=rx;exact SeqAt.EqAt.str_str a t' b t
  | _=>exact absurd (show false=true from fx) vo
 | _=>exact absurd (show false=true from fy) vo
def J3(x:V)(u:Value):Bool:=match u with
 | .none=>UQ .jm x
 | .bool b=>UQ (.bl b) x
 | .int i _=>UQ (.int i) x
 | .str z _=>UQ (.str z) x
 | _=>false
theorem Pe{x y:V}{u:Value}(r:RelV y u)(f:yK y=true):J3 x u=UQ y x:=by
 cases y with
 | jm=>cases r;rfl
 | bl b=>cases r;rfl
 | int i=>obtain⟨t,rfl⟩:=r;rfl
 | str z=>obtain⟨t,rfl⟩:=r;rfl
 | _=>exact absurd (show false=true from f) vo
theorem yL{x:V}:∀ {xs:List V} {us:List Value},cG xs us->xs.all yK=true->us.any (J3 x)=xs.any λy=>UQ y x
 | _,_,.nil,_=>rfl
 | y::xs,u::us,.cons r t,f=>by
  rw[List.all_cons,Bool.and_eq_true]at f;rw[List.any_cons,List.any_cons,Pe r f.1,yL t f.2]
theorem vK{A:Around}{s:Shared}{x:V}{v:Value}(rx:RelV x v)(fx:yK x=true):∀ {xs:List V} {us:List Value},cG xs us->xs.all yK=true->∀ u∈us,SeqAt.EqAt A s u v (J3 x u)
 | _,_,.nil,_=>λu hu=>by cases hu
 | y::xs,u::us,.cons r t,f=>λu' hu=>by
  rw[List.all_cons,Bool.and_eq_true]at f;rcases List.mem_cons.mp hu with rfl|hu
  ·rw[Pe r f.1];exact Wx r rx f.1 fx
  ·exact vK rx fx t f.2 u' hu
def inV(x:V)(xs:List V):Bool:=xs.any λy=>UQ y x
inductive Wy(K:PySem.W.Frag)(xs:List V)(H:Hp)(Q:VK):Prop
 | mk (p:Addr) (ys:List V) (_:xs=[.ref p]) (_:bR K H p ys\/ef K H p ys) (_:Q (.int ys.length) H):Wy K xs H Q
inductive Y6(K:PySem.W.Frag)(xs:List V)(H:Hp)(Q:VK):Prop
 | mk (p:Addr) (ys:List V) (_:xs=[.ref p]) (_:bR K H p ys\/ef K H p ys) (_:∀ l,H l=none->Q (.ref l) (aQ H l (.lst ys)))
def rIn(K:PySem.W.Frag)(neg:Bool):R2:=λx y H Q=>∃ p xs,y=.ref p/\(bR K H p xs\/ef K H p xs)/\yK x=true/\xs.all yK=true/\Q (.bl (if neg then !inV x xs else inV x xs)) H
theorem Nk:yv X (compareOp .In) (rIn X.K false):=by
 intro ao s σ H x y v u Q I rx ry h;obtain⟨p,xs,rfl,hq,fx,fs,q⟩:=h;cases ry;rcases hq with hq|hq
 ·obtain⟨aP,r,pl,hz⟩:=I.list hq;refine SeqAt.in_listAt (J3 x) pl.isList (λw hw=>vK rx fx r fs w (by simpa using hw)) ⟨.bl _,H,I,rfl,?_⟩;rw[show aP.toArray.any (J3 x)=aP.any (J3 x) by simp,yL r fs];exact q
 ·obtain⟨aP,r,pl,hz⟩:=I.tuple hq;refine SeqAt.in_tupleAt (J3 x) pl (λw hw=>vK rx fx r fs w (by simpa using hw)) ⟨.bl _,H,I,rfl,?_⟩;rw[show aP.toArray.any (J3 x)=aP.any (J3 x) by simp,yL r fs];exact q
theorem FF:yv X (compareOp .NotIn) (rIn X.K true):=by
 intro ao s σ H x y v u Q I rx ry h;obtain⟨p,xs,rfl,hq,fx,fs,q⟩:=h;cases ry;rcases hq with hq|hq
 ·obtain⟨aP,r,pl,hz⟩:=I.list hq;refine SeqAt.notIn_listAt (J3 x) pl.isList (λw hw=>vK rx fx r fs w (by simpa using hw)) ⟨.bl _,H,I,rfl,?_⟩;rw[show aP.toArray.any (J3 x)=aP.any (J3 x) by simp,yL r fs];exact q
 ·obtain⟨aP,r,pl,hz⟩:=I.tuple hq;refine SeqAt.notIn_tupleAt (J3 x) pl (λw hw=>vK rx fx r fs w (by simpa using hw)) ⟨.bl _,H,I,rfl,?_⟩;rw[show aP.toArray.any (J3 x)=aP.any (J3 x) by simp,yL r fs];exact q
theorem FG:pR X (.builtin "len") (Wy X.K):=by
 intro ao s σ H xs us Q I r h;obtain⟨p,ys,rfl,hq,q⟩:=h;obtain⟨u,rfl,rx⟩:=vals1 r;cases rx;have hn:=zF;rcases hq with hq|hq
 ·obtain⟨aP,r',pl,hz⟩:=I.list hq;have eN:=r'.length
  exact Calls.call_len_list pl.isList (by simp only[jV] <;> omega) ⟨.int ys.length,H,I.tok _,⟨s.toks+1,by rw[jV,eN]⟩,q⟩
 ·obtain⟨aP,r',pl,hz⟩:=I.tuple hq;have eN:=r'.length
  exact len_tuple pl (by simp only[jV] <;> omega) ⟨.int ys.length,H,I.tok _,⟨s.toks+1,by rw[jV,eN]⟩,q⟩
theorem FH:pR X (.builtin "len") (λxs H Q=>∃ z,xs=[.str z]/\z.length<=sizeLine/\Q (.int z.length) H):=by
 intro ao s σ H xs us Q I r h;obtain⟨z,rfl,hz,q⟩:=h;obtain⟨u,rfl,t,rfl⟩:=vals1 r;have hn:=zF;exact len_str (by omega) ⟨.int z.length,H,I.tok _,⟨_,rfl⟩,q⟩
theorem ja:pR X (.type "list") (Y6 X.K):=by
 intro ao s σ H xs us Q I r h;obtain⟨p,ys,rfl,hq,q⟩:=h;obtain⟨u,rfl,rx⟩:=vals1 r;cases rx
 have oB:∀ (aP:List Value),cG ys aP->ys.length<=sizeLine->∀ (h':Heap) (c':Nat),(∀ b o',s.heap.get? b=some o'->h'.get? b=some o')->
   h'.get? s.heap.objs.size=some { cls:=.type "list",dict:=none,data:=.seq aP.toArray c',slots:=#[] }->EP X ao σ Q (.ref s.heap.objs.size) { s with heap:=h' }:=λaP r' hz h' c' kp e =>
  ⟨.ref s.heap.objs.size,_,I.laid (t':=s.toks) kp (jz _) (show iZ X.prog X.w _ h' _ (.lst ys) from ⟨hz,aP,c',r',e⟩),rfl,q _ (I.hok.fresh (jz _))⟩
 rcases hq with hq|hq
 ·obtain⟨aP,r',pl,hz⟩:=I.list hq;have eN:=r'.length;obtain⟨o,ho,hc,n,hd⟩:=pl.isList
  exact call_list_seq p (.inl rfl) ho hc hd (λh' c' kp e=>oB aP r' hz h' c' kp e) (by simp only[jV] <;> omega)
 ·obtain⟨aP,r',pl,hz⟩:=I.tuple hq;have eN:=r'.length;obtain⟨o,ho,hc,n,hd⟩:=pl
  exact call_list_seq p (.inr rfl) ho hc hd (λh' c' kp e=>oB aP r' hz h' c' kp e) (by simp only[jV] <;> omega)
def tyV(K:PySem.W.Frag)(T:String)(x:V)(H:Hp):Prop:=match x with
 | .str _=>T="str"
 | .int _=>T="int"
 | .ref p=>(T="list"/\∃ xs,bR K H p xs)\/(T="tuple"/\∃ o,K.lookup p=some o/\o.cls=.type "tuple"/\o.dict=none)\/
   (T="dict"/\((∃ kvs,H p=some (.dK kvs))\/∃ kvs,H p=some (.dT kvs)))\/(T="set"/\∃ S n,H p=some (.set S n))
 | _=>False
theorem Pf{σ:St}{H:Hp}{s:Shared}{T:String}{x:V}{v:Value}(I:Inv X ao σ H s)(r:RelV x v)(ty:tyV X.K T x H) :
  s.TypeIs v T/\∀ a,v=.ref a->∃ ob,s.heap.get? a=some ob/\ob.dict=none:=by
 cases x with
 | str z =>
  obtain⟨t,rfl⟩:=r;cases (show T="str" from ty);exact⟨typeIs_str s z t,λ_ e=>nomatch e⟩
 | int i =>
  obtain⟨t,rfl⟩:=r;cases (show T="int" from ty);exact⟨typeIs_int s i t,λ_ e=>nomatch e⟩
 | ref p =>
  cases r;rcases ty with ⟨rfl,xs,hq⟩|⟨rfl,o,hk,hc,hd⟩|⟨rfl,hk⟩|⟨rfl,S,n,hk⟩
  ·obtain⟨aP,_,pl,_⟩:=I.list hq;refine⟨pl.isList.typeIs,λa e=>?_⟩;cases e;obtain⟨o,n,e,c,hd,_⟩:=pl;exact⟨o,e,hd⟩
  ·refine⟨⟨o,I.AJ p o hk,hc⟩,λa e=>?_⟩;cases e;exact⟨o,I.AJ _ o hk,hd⟩
  ·have z:∃ o,s.heap.get? p=some o/\o.ExactDict:=by
    rcases hk with ⟨kvs,hk⟩|⟨kvs,hk⟩
    ·obtain⟨_,_,_,_,o,_,_,e,ex,_⟩:=I.hok p _ hk;exact⟨o,e,ex⟩
    ·obtain⟨_,_,_,_,o,_,_,e,ex,_⟩:=I.hok p _ hk;exact⟨o,e,ex⟩
   obtain⟨o,e,ex⟩:=z;refine⟨⟨o,e,ex.1⟩,λa e2=>?_⟩;cases e2;exact⟨o,e,ex.2.1⟩
  ·obtain⟨o,_,_,_,e,ex,_⟩:=I.hok p _ hk;refine⟨⟨o,e,ex.1⟩,λa e2=>?_⟩;cases e2;exact⟨o,e,ex.2.1⟩
 | _=>exact False.elim ty
def acd(K:PySem.W.Frag)(T:String)(r:V->List V->Hp->VK->Prop)(to:TE):TE:=fun σ H Q=>to σ H λx H1=>tyV K T x H1/\r x [] H1 Q
def tBM(K:PySem.W.Frag)(T:String)(r:V->List V->Hp->VK->Prop)(to:TE)(t:TA):TE:=fun σ H Q=>to σ H λx H1=>tyV K T x H1/\t σ H1 λxs H2=>r x xs H2 Q
variable {o e:Expr} {es:List Expr} {to:TE} {t:TA} {name:Str} {qD sH:Pos} {T id:String} {r:V->List V->Hp->VK->Prop}
theorem Pg(pa:PlainAttrs T)(slot:Slot T name id)(hty:typeOf (.builtin id)=pure (.type "method_descriptor"))(hm:MtR X id r)(ho:PE X o to)
  (Ph:attributeBase o name X.env (eval o X.env)=eval o X.env:=by rfl) (Pj:(qD.endLine == sH.line)=true:=by rfl):PE X (.Call (.Attribute o name qD) [] [] sH) (acd X.K T r to):=by
 intro ao s σ H Q I h;refine wpAny_Call_method0_late Ph Pj (dB (ho ao s σ H _ I h) λv s1 DH=>?_);obtain⟨x,H1,I1,r1,ty,q1⟩:=DH;obtain⟨h1,h2⟩:=Pf I1 r1 ty;exact⟨T,id,pa,slot,hty,h1,h2,Calls.callWith_builtin rfl (PySem.evalArgs_none (hm ao s1 σ H1 x [] v [] Q I1 r1 .nil q1))⟩
theorem gV(pa:PlainAttrs T)(slot:Slot T name id)(hty:typeOf (.builtin id)=pure (.type "method_descriptor"))(hm:MtR X id r)(ho:PE X o to)(ha:PA X (e::es) t)
  (Ph:attributeBase o name X.env (eval o X.env)=eval o X.env:=by rfl)
  (acf:((backTo sH (starEach (e::es) X.env)).all (λx=>!x.1)&&(backToKw sH (keywordEach [] X.env)).all (λx=>x.1.isSome)
   && decide ((e::es).length+([]:List Keyword).length+(if ([]:List Keyword).isEmpty then 0 else 1)<30))=true:=by rfl)
  (Pj:(qD.endLine == sH.line)=true:=by rfl) (hs:starEach (e::es) X.env=(false,eval e X.env)::starEach es X.env:=by rfl) (Wz:(backTo sH (starEach es X.env)).any (·.1)=false:=by rfl) :
  PE X (.Call (.Attribute o name qD) (e::es) [] sH) (tBM X.K T r to t):=by
 intro ao s σ H Q I h;refine wpAny_Call_method_late Ph acf Pj rfl (dB (ho ao s σ H _ I h) λv s1 G8=>?_);obtain⟨x,H1,I1,r1,ty,q1⟩:=G8;obtain⟨h1,h2⟩:=Pf I1 r1 ty;refine⟨T,id,pa,slot,hty,h1,h2,?_⟩;have hA:=ha sH ao s1 σ H1 _ I1 q1;rw[hs]at hA ⊢
 refine Calls.callWith_builtin (by show (false || (backTo sH (starEach es X.env)).any (·.1))=false;rw[Wz] <;> rfl) (Calls.evalArgs_plain ?_)
 exact dB hA λus s2 ⟨vs,H2,I2,r2,q2⟩=>hm ao s2 σ H2 x vs v us Q I2 r1 r2 q2
end
end L2
namespace L2
open PySem.Spec PyProof.Rows
def Y7(X:Cx)(id:String)(r:V->List V->Hp->VK->Prop):Prop :=
 ∀ (ao:List (Addr × Obj)) (s:Shared) (σ:St) (H:Hp) (x:V) (xs:List V) (v:Value) (us:List Value) (Q:VK),Inv X ao σ H s->RelV x v->cG xs us->r x xs H Q->
  wpAny (model X.prog X.w) X.A (call (.builtin id) (v::us)) (EP X ao σ Q) X.xe s
theorem cG.one{x:V}{us:List Value}(h:cG [x] us):∃ u,us=[u]/\RelV x u:=by
 cases h with
 | cons r t=>cases t;exact⟨_,rfl,r⟩
theorem cG.two{x y:V}{us:List Value}(h:cG [x,y] us):∃ u v,us=[u,v]/\RelV x u/\RelV y v:=by
 cases h with
 | cons r t =>
  obtain⟨_,rfl,q⟩:=cG.one t;exact⟨_,_,rfl,r,q⟩
theorem cG.zero:∀ {us:List Value},cG [] us->us=[]
 | _,.nil=>rfl
theorem cG.dropLast{xs:List V}{us:List Value}(h:cG xs us):cG xs.dropLast us.dropLast:=by
 induction h with
 | nil=>exact .nil
 | cons r t ih =>
  cases t with
  | nil=>exact .nil
  | cons q t'=>exact .cons r ih
theorem cG.eraseIdx:∀ {xs:List V} {us:List Value} (i:Nat),cG xs us->cG (xs.eraseIdx i) (us.eraseIdx i)
 | _,_,_,.nil=>.nil
 | _,_,0,.cons _ t=>t
 | _,_,i+1,.cons r t=>.cons r (cG.eraseIdx i t)
theorem cG.rep{xs:List V}{us:List Value}(h:cG xs us):∀ k:Nat,cG (List.replicate k xs).flatten (List.replicate k us).flatten
 | 0=>.nil
 | k+1=>by
  rw[List.replicate_succ,List.replicate_succ,List.flatten_cons,List.flatten_cons];exact cG.append h (cG.rep h k)
theorem J4{α:Type}(l:List α):l.eraseIdx (l.length-1)=l.dropLast:=by
 induction l with
 | nil=>rfl
 | cons a r ih =>
  cases r with
  | nil=>rfl
  | cons b r =>
   have e:(a::b::r).length-1=((b::r).length-1)+1:=by
    have h1:(a::b::r).length=r.length+2:=rfl;have h2:(b::r).length=r.length+1:=rfl;omega
   rw[e,List.eraseIdx_cons_succ,ih]
   all_goals rfl
theorem Ey{α:Type}:∀ (l:List α) (i:Nat),(l.eraseIdx i).length<=l.length
 | [],_=>jz _
 | _::_,0=>Nat.le_succ _
 | _::r,i+1=>Nat.succ_le_succ (Ey r i)
theorem foldl_rep(aP:List Value):∀ (k:Nat) (acc:List Value),
  List.foldl (λx1 x2=>x1++x2) acc.toArray (List.replicate k aP.toArray)=(acc++(List.replicate k aP).flatten).toArray
 | 0,acc=>by simp
 | k+1,acc=>by
  have e:acc.toArray++aP.toArray=(acc++aP).toArray:=by simp
  have e2:(acc++aP)++(List.replicate k aP).flatten=acc++(List.replicate (k+1) aP).flatten:=by
   rw[List.replicate_succ,List.flatten_cons,tX]
  rw[← e2,← foldl_rep aP k (acc++aP),← e,List.replicate_succ,qZ]
section
variable {X:Cx} {ao:List (Addr × Obj)} {σ:St} {H:Hp} {s:Shared} {l b:Addr} {xs ys zs:List V}
theorem Inv.FI{aP its':List Value}{n:Nat}{f:Array Value->Array Value}{t':Nat}(I:Inv X ao σ H s)(hH:H l=some (.lst xs))
  (e:s.heap.get? l=some { cls:=.type "list",data:=.seq aP.toArray n }) (hf:f aP.toArray=its'.toArray) (hv:cG ys its') (hz:ys.length<=sizeLine) :
  Inv X ao σ (aQ H l (.lst ys)) { s with heap:=s.heap.update l (Obj.mapSeq f),toks:=t' }:=by
 have q:=PySem.IsL.update e f;rw[hf]at q;refine I.write (x:=l) (e:=l) (by rw[hH];exact trivial) (.inl rfl) (λb' u hb hu=>(Heap.get?_update_other s.heap (Obj.mapSeq f) (Ne.symm hb)).trans hu) ⟨_,q⟩ ?_;exact⟨hz,its',_,hv,q⟩
theorem Inv.SO{aP:List Value}{t':Nat}(I:Inv X ao σ H s)(hv:cG ys aP)(hz:ys.length<=sizeLine) :
  Inv X ao σ (aQ H s.heap.objs.size (.lst ys)) { s with heap:=s.heap.push { cls:=.type "list",data:=.seq aP.toArray },toks:=t' } :=
 I.laid (λ_ _ q=>Heap.get?_push_of_some _ q) (jz _) ⟨hz,aP,0,hv,Heap.get?_push_size _ rfl⟩
theorem Inv.fresh(I:Inv X ao σ H s):H s.heap.objs.size=none:=I.hok.fresh (jz _)
theorem Inv.DM(I:Inv X ao σ H s)(hH:H l=some (.lst xs)):xs.length<=sizeLine/\∃ (aP:List Value) (n:Nat),cG xs aP/\xs.length=aP.length/\s.heap.get? l=some { cls:=.type "list",data:=.seq aP.toArray n }:=by
 obtain⟨z,aP,n,r,e⟩:=I.hok l _ hH;exact⟨z,aP,n,r,r.length,e⟩
theorem Ci{n:Nat}(h:n<=sizeLine):Builtin.List.listTooLong n=false:=by
 unfold Builtin.List.listTooLong;exact decide_eq_false (by omega)
end
section
variable {X:Cx}
inductive SQ(x:V)(vs:List V)(H:Hp)(Q:VK):Prop
 | mk (l:Addr) (xs:List V) (y:V) (_:x=.ref l) (_:vs=[y]) (_:H l=some (.lst xs)) (_:xs.length<sizeLine) (_:Q .jm (aQ H l (.lst (xs++[y]))))
theorem cy:Y7 X "list.append" SQ:=by
 intro ao s σ H x vs v us Q I rx rv h;obtain⟨l,xs,y,rfl,rfl,hH,hz,q⟩:=h;cases rx;obtain⟨u,rfl,ru⟩:=rv.one;obtain⟨z,aP,n,r,hl,e⟩:=I.DM hH;refine call_meets F.slot_list_append ⟨_,e,rfl⟩ F.entry_list_append (F.args_list_append_2 _ _) (PySem.list_append l aP.toArray n u (by rw[jV];omega)) ⟨e,?_⟩;refine⟨.jm,_,I.FI (its':=aP++[u]) hH e (by simp) (r.append (.cons ru .nil)) ?_,rfl,q⟩;rw[dX,vF];omega
inductive SR(x:V)(vs:List V)(H:Hp)(Q:VK):Prop
 | mk (l b:Addr) (xs zs:List V) (_:x=.ref l) (_:vs=[.ref b]) (_:H l=some (.lst xs)) (_:H b=some (.lst zs)) (_:xs.length+zs.length<=sizeLine) (_:Q .jm (aQ H l (.lst (xs++zs))))
theorem oN:Y7 X "list.extend" SR:=by
 intro ao s σ H x vs v us Q I rx rv h;obtain⟨l,b,xs,zs,rfl,rfl,hH,hB,hz,q⟩:=h;cases rx;obtain⟨u,rfl,ru⟩:=rv.one;cases ru;obtain⟨z,aP,n,r,hl,e⟩:=I.DM hH;obtain⟨z2,its2,n2,r2,FJ,e2⟩:=I.DM hB;have hsz:aP.toArray.size+its2.toArray.size<=sizeLine:=by rw[jV,jV];omega
 have Hs:¬ (!aP.toArray.isEmpty&&Builtin.List.listTooLong (aP.toArray.size+its2.toArray.size))=true:=by
  rw[Ci hsz,Bool.and_false];exact vo
 refine call_meets F.slot_list_extend ⟨_,e,rfl⟩ F.entry_list_extend (F.args_list_extend_2 _ _) (AutoSeq1.list_extend_list_list_0 l aP.toArray n b its2.toArray n2 Hs (by rw[jV];omega) (by omega)) ⟨e,e2,?_⟩;refine⟨.jm,_,I.FI (its':=aP++its2) hH e (by simp) (r.append r2) ?_,rfl,q⟩;rw[dX];omega
def acg:V->List V->Hp->VK->Prop:=λx vs H Q=>∃ l xs y,x=.ref l/\vs=[]/\H l=some (.lst xs)/\xs[xs.length-1]?=some y/\Q y (aQ H l (.lst xs.dropLast))
theorem Pk:Y7 X "list.pop" acg:=by
 intro ao s σ H x vs v us Q I rx rv h;obtain⟨l,xs,y,rfl,rfl,hH,hy,q⟩:=h;cases rx;have hus:=rv.zero;subst hus;obtain⟨z,aP,n,r,hl,e⟩:=I.DM hH;obtain⟨u,hu,ru⟩:=r.get hy
 have hy':aP.toArray[aP.toArray.size-1]?=some u:=by
  show aP.toArray[aP.length-1]?=some u;rw[← Array.getElem?_toList,← hl];exact hu
 refine call_meets F.slot_list_pop ⟨_,e,rfl⟩ F.entry_list_pop (F.args_list_pop_1 _) (MeetsSeq.list_pop_last l aP.toArray n u hy' (by rw[jV];omega)) ⟨e,?_⟩;refine⟨y,_,I.FI (its':=aP.dropLast) hH e ?_ r.dropLast ?_,ru,q⟩
 ·show aP.toArray.eraseIdxIfInBounds (aP.toArray.size-1)=aP.dropLast.toArray;rw[jV,List.eraseIdxIfInBounds_toArray,J4]
 ·rw[List.length_dropLast];omega
def WA:V->List V->Hp->VK->Prop:=λx vs H Q=>∃ l xs i k y,x=.ref l/\vs=[.int i]/\H l=some (.lst xs)/\-(2^63)<=i/\i<2^63/\seqIndex? i xs.length=some k/\xs[k]?=some y/\Q y (aQ H l (.lst (xs.eraseIdx k)))
theorem Pn:Y7 X "list.pop" WA:=by
 intro ao s σ H x vs v us Q I rx rv h;obtain⟨l,xs,i,k,y,rfl,rfl,hH,h1,h2,hk,hy,q⟩:=h;cases rx;obtain⟨u,rfl,ru⟩:=rv.one;obtain⟨t,rfl⟩:=ru;obtain⟨z,aP,n,r,hl,e⟩:=I.DM hH;obtain⟨w,hw,jW⟩:=r.get hy;refine call_meets F.slot_list_pop ⟨_,e,rfl⟩ F.entry_list_pop (F.args_list_pop_2 _ _) (MeetsSeq.list_pop_at l aP.toArray n i t k w (fitsIndex_both h1 h2) (by rw[jV,← hl];exact hk) (by rw[← Array.getElem?_toList];exact hw) (by rw[jV];omega)) ⟨e,?_⟩;refine⟨y,_,I.FI (its':=aP.eraseIdx k) hH e ?_ (r.eraseIdx k) ?_,jW,q⟩
 ·show aP.toArray.eraseIdxIfInBounds k=(aP.eraseIdx k).toArray;rw[List.eraseIdxIfInBounds_toArray]
 ·have:=Ey xs k;omega
inductive Y8(x y:V)(H:Hp)(Q:VK):Prop
 | mk (l b:Addr) (xs zs:List V) (_:x=.ref l) (_:y=.ref b) (_:H l=some (.lst xs)) (_:H b=some (.lst zs)) (_:xs.length+zs.length<=sizeLine) (_:∀ p,H p=none->Q (.ref p) (aQ H p (.lst (xs++zs))))
theorem ng:yv X (binaryOp .Add) Y8:=by
 intro ao s σ H x y v u Q I rx ry h;obtain⟨l,b,xs,zs,rfl,rfl,hH,hB,hz,q⟩:=h;cases rx;cases ry;obtain⟨z,aP,n,r,hl,e⟩:=I.DM hH;obtain⟨z2,its2,n2,r2,FJ,e2⟩:=I.DM hB;refine PySem.P.add_list e e2 ?_ (by rw[jV,jV];omega);have ea:aP.toArray++its2.toArray=(aP++its2).toArray:=by simp
 rw[ea];exact⟨.ref _,_,I.SO (t':=s.toks) (r.append r2) (by rw[dX];omega),rfl,q _ I.fresh⟩
def Y9:R2:=λx y H Q=>∃ l k xs,x=.ref l/\y=.int k/\H l=some (.lst xs)/\-(2^63)<=k/\k<2^63/\xs.length*k.toNat<=sizeLine/\
 ∀ p,H p=none->Q (.ref p) (aQ H p (.lst (List.replicate k.toNat xs).flatten))
theorem SS{α:Type}(xs:List α)(k:Nat):(List.replicate k xs).flatten.length=k*xs.length:=by
 induction k with
 | zero=>simp
 | succ k ih=>rw[List.replicate_succ,List.flatten_cons,dX,ih,Nat.succ_mul,Nat.add_comm]
theorem Po:yv X (binaryOp .Mult) Y9:=by
 intro ao s σ H x y v u Q I rx ry h;obtain⟨l,k,xs,rfl,rfl,hH,h1,h2,hz,q⟩:=h;cases rx;obtain⟨t,rfl⟩:=ry;obtain⟨z,aP,n,r,hl,e⟩:=I.DM hH;have eN:aP.toArray.size*k.toNat<=sizeLine:=by rw[jV,← hl];exact hz
 have hcap:¬ aP.toArray.size*k.toNat > (2^63-1) / 8:=by
  have:(sizeLine:Nat)<=(2^63-1) / 8:=by decide
  omega
 have hfit:¬ (!Builtin.List.listFitsIndex k)=true:=by
  rw[fitsIndex_both h1 h2];exact vo
 have Hs:¬ Builtin.List.listTooLong (aP.toArray.size*k.toNat)=true:=by
  rw[Ci eN];exact vo
 have hnew:List.foldl (λx1 x2=>x1++x2) #[] (List.replicate (if aP.toArray.isEmpty=true then 0 else k.toNat) aP.toArray)=(List.replicate k.toNat aP).flatten.toArray:=by
  have f0:∀ m:Nat,List.foldl (λx1 x2=>x1++x2) #[] (List.replicate m aP.toArray)=(List.replicate m aP).flatten.toArray:=λm=>by
   have:=foldl_rep aP m [];rw[List.nil_append]at this;exact this
  rw[f0]
  cases aP with
  | nil=>simp
  | cons a r'=>rw[if_neg (by simp)]
 refine wpAny_binaryOp_repeat_ref (T:="list") (U:="int") (by decide) ⟨_,e,rfl⟩ (λs'=>typeIs_int s' k t) noFill_list_mul F.fills_int_mul F.slot_int_rmul repeat_list F.slot_int_index.lookup (call_meets F.slot_int_rmul (typeIs_int s k t) F.entry_int_rmul (F.args_int_rmul_2 _ _) (int___rmul___int_list k t l aP.toArray n) ⟨e,rfl,⟨_,e,rfl⟩,call_meets F.slot_list_mul ⟨_,e,rfl⟩ F.entry_list_mul (F.args_list_mul_2 _ _) (AutoListH.list___mul___list_int_3 l aP.toArray n k t hfit hcap Hs) ⟨e,?_⟩⟩);rw[hnew];exact⟨.ref _,_,I.SO (t':=s.toks) (r.rep k.toNat) (by rw[SS,Nat.mul_comm];exact hz),rfl,q _ I.fresh⟩
end
end L2
namespace Att
open PySem.W PySem.Calls PyProof.Rows
theorem Bb{P:Params}{h:Heap}:∀ (ns:List Int) (vs:List Value),WellAll P h vs (ns.map WData.int)->IntsAre vs ns:=by
 intro ns
 induction ns with
 | nil =>
  intro vs w;rw[List.map_nil]at w;cases w;exact .nil
 | cons n ns ih =>
  intro vs w;rw[oK]at w
  cases w with
  | cons a b =>
   cases a;exact .cons _ _ (ih _ b)
theorem Nl{l:OpenLaw}{n:Nat}(hn:l.most=some n){P:Params}{h:Heap}{args:List WData}{WB:List Value}
  (SV:l.row.toRowW.claim.pre args=true) (hwl:WellAll P h WB args) :
  ∃ a vs ns,WB=[Value.ref a]/\args=[WData.list (ns.map WData.int)]/\h.get? a=some { cls:=.type "list",data:=.seq vs.toArray }/\IntsAre vs ns/\ns.length<=n:=by
 have AN:WShape.hasAll [] args [.list .int]=true:=(pre_splitW SV).1;have hc:l.pre.holds [] { args:=args }=true:=(pre_splitW SV).2;obtain⟨d,r,rfl,h1,h2⟩:=hasAllW_cons AN;obtain rfl:=hasAllW_nil h2;obtain⟨xs,rfl,h3⟩:=hasW_list h1;obtain⟨ns,rfl⟩:=items_int h3
 have eN:ns.length<=n:=by
  unfold OpenLaw.pre at hc
  have h4:(WTm.not (.lt (.lit (.int (n:Int))) (.len (.arg 0)))).holds [] { args:=[.list (ns.map .int)] }=true:=by
   have h4:=(holds_andW hc).1;rw[hn]at h4;exact h4
  have h5:=condW_of h4 (w_not (w_lt w_lit (w_len_list (w_arg rfl))));rw[cS]at h5;refine Nat.le_of_not_lt λq=>?_;have q':(n:Int)<((ns.length:Nat):Int):=by omega
  first
   | (rw[decide_eq_true q']at h5;exact absurd h5 (by decide))
   | (simp at h5;omega)
 cases hwl with
 | cons w1 w2 =>
  cases w2
  cases w1 with
  | list ho Pp=>exact⟨_,_,ns,rfl,rfl,ho,Bb ns _ Pp,eN⟩
theorem Nm(l:OpenLaw)(args:List WData):l.row.toRowW.claim.post args (.bool true) args=true :=
 postW_of (r:=l.row.toRowW) (X:=(true == true))
  (show WShape.has [] (.bool true) .bool=true by first|rfl|decide|simp[WShape.has,WShape.arms,WShape.armsAll])
  (show (WTm.eq .res (.lit (.bool true))).value [] { args:=args,res:=some (.bool true),after:=args }=some (.bool (true == true)) from w_eq_bool (w_res rfl) w_lit) rfl
theorem Ht{l:OpenLaw}{n:Nat}{q:Program}{Ez:List Str}{XP:(Str->Option Value)->Heap->Prop}{YP:World->Heap->Prop}{d:DefRec}
  (hn:l.most=some n) (Za:d.params.defaults=[])
  (call:∀ (w:World) (s₀ s₁:Shared) (mg mb:Str->Option Value) (fa:Addr) (o:Obj) (pm cd zI:Value) (a:Addr) (vs:List Value) (ns:List Int),
   Ground q Ez [] XP w s₀ mg mb s₁.heap->YP w s₁.heap->
   s₁.heap.get? fa=some o->o.data=.func (docDef d.name d.params d.body d.scope pm cd zI)->s₁.heap.CodeRec cd d.name->mg d.name=some (.ref fa)->
   s₁.heap.get? a=some { cls:=.type "list",data:=.seq vs.toArray }->IntsAre vs ns->ns.length<=n->s₁.gens=#[]->
   codeAny (model l.prog w) callerA (.call (.ref fa) ⟨[.ref a],[]⟩) (λr s'=>r=.ok (.ret (.bool true))/\OldK s₁.heap s'.heap/\s'.os=s₁.os/\AllBare s'.gens) s₁) :
  WalkO q Ez XP YP l.row.toRowW d [] (λf vs=>PySem.call f vs):=by
 intro w s₀ s₁ mg mb G Y fa o pm cd zI dV kV ho hd M5 hD Zb hg args WB as SV ahQ hrd hwl hlo;obtain rfl:dV=.none:=Dflts.none hD Za;obtain rfl:kV=.none:=Dflts.noKw hD;obtain⟨a,vs,ns,rfl,rfl,WC,Pq,eN⟩:=Nl hn SV hwl;refine enter_call (codeAny_mono (call w s₀ s₁ mg mb fa o pm cd zI a vs ns G Y ho (fd_plain hd) M5 Zb WC Pq eN hg) λr s' hq=>?_);obtain⟨rfl,h2,h3,h4⟩:=hq;exact⟨.inl ⟨.bool true,.bool true,[],rfl,λ_=>rfl,.bool true,Nm l _,λ_=>⟨List.Pairwise.nil,λ_ hm=>(nomatch hm)⟩⟩,h2,h3,h4⟩
end Att
namespace L2
open PySem.Spec PyProof.Rows
theorem EA:∀ {vs:List Value} {ns:List Int},IntsAre vs ns->cG (ns.map V.int) vs
 | _,_,.nil=>.nil
 | _,_,.cons n t h=>.cons ⟨t,rfl⟩ (EA h)
def WD(H:Hp):Prop:=∀ b,H b=none\/∃ o xs,H b=some (.JL o (.lst xs))
theorem Pr{P:Program}{w:World}{K:PySem.W.Frag}{mg mb:Str->Option Value}{CX:Ou}{k:Nat}{fa a:Addr}{fd:FuncData}{x:Str}{sp:Sp}{s₁:Shared}{vs:List Value}{ns:List Int}
  (KX:K.In s₁.heap) (Ov:s₁.heap.Ns mainGlobals mg) (hb:s₁.heap.Ns builtinsNs mb) (hbb:∀ x:Str,x≠"__name__"->mb x=bootBuiltins x) (aci:s₁.heap.NoLimit) (hg:s₁.gens=#[])
  (ha:s₁.heap.get? a=some { cls:=.type "list",data:=.seq vs.toArray }) (hi:IntsAre vs ns) (hl:ns.length<=sizeLine) (hr:lg k callerA)
  (F:∀ base:Heap,K.In base->base.Ns mainGlobals mg->aC P w K mg base CX k fa fd [x] sp) (Zc:∀ (s:Shared) (u:Value),BindsTo s fd ⟨[u],[]⟩ [(x,u)])
  (JY:∀ H:Hp,WD H->bR K H a (ns.map V.int)->sp [.ref a] H (λv _=>v=.bl true) λ_ _ _=>False)
  (hCX:∀ H e s',CX [] H s₁ (λ_ _ _=>False) e s'->False) :
  codeAny (model P w) callerA (.call (.ref fa) ⟨[.ref a],[]⟩) (λr s'=>r=.ok (.ret (.bool true))/\OldK s₁.heap s'.heap/\s'.os=s₁.os/\AllBare s'.gens) s₁:=by
 have rv:=EA hi;have ack:=hi.length
 have core:∀ H:Hp,WD H->bR K H a (ns.map V.int)->wz P w H s₁.heap->(∀ b,H b≠none->b=a)->(H a≠none->K.lookup a=none)->
   codeAny (model P w) callerA (.call (.ref fa) ⟨[.ref a],[]⟩) (λr s'=>r=.ok (.ret (.bool true))/\OldK s₁.heap s'.heap/\s'.os=s₁.os/\AllBare s'.gens) s₁:=by
  intro H hO hS hok hA hK;have Lz:∀ {b:Addr} {o:Obj},s₁.heap.get? b=some o->H b=none->(FA s₁.heap H).get? b=some o:=λe n=>OS e n
  have YX:∀ {b:Addr} {o:Obj} {es:Array DictEntry} {ep:Nat},s₁.heap.get? b=some o->o.data=.dict es ep->H b=none:=λ{b o es ep} e d=>by
   cases q:H b with
   | none=>rfl
   | some u =>
    have e':b=a:=hA b (by rw[q];simp);subst e';rw[ha]at e;cases e;have d':Data.seq vs.toArray _=Data.dict es ep:=d;cases d'
  have nsK:∀ {b:Addr} {m:Str->Option Value},s₁.heap.Ns b m->(FA s₁.heap H).Ns b m:=λ{b m} ⟨o,es,ep,e,d,r⟩=>⟨o,es,ep,Lz e (YX e d),d,r⟩
  have hKb:K.In (FA s₁.heap H):=λb o e=>Lz (KX b o e) (by
   cases q:H b with
   | none=>rfl
   | some u =>
    have e':b=a:=hA b (by rw[q];simp);subst e'
    rw[hK (by rw[q];simp)]at e;cases e)
  have hM:Mod K mg (FA s₁.heap H):=⟨hKb,nsK Ov,⟨mb,nsK hb,hbb⟩,let ⟨mc,h1,h2⟩:=aci;⟨mc,nsK h1,h2⟩⟩;have e0:JX P w K mg (FA s₁.heap H) callerA [] s₁ H:=⟨rfl,hM,λb o e=>Sy e,Nat.le_of_eq (M0 _ _),trivial,λb hb=>absurd (show b∈([]:List Addr) from hb) (by simp),hok,.of_eq hg⟩;refine codeAny_mono ((F _ hKb (nsK Ov)).run callerA [] s₁ H ⟨[.ref a],[]⟩ [.ref a] [.ref a] _ _ hr e0 (Zc s₁ (.ref a)) (.cons rfl .nil) (JY H hO hS)) λr s' h=>?_
  cases r with
  | error e=>exact (hCX H e s' h).elim
  | ok fl =>
   cases fl with
   | next=>exact False.elim h
   | brk=>exact False.elim h
   | cont=>exact False.elim h
   | ret u =>
    obtain⟨v,H',os,bare,un,Pu,r',q⟩:=h;have q':v=.bl true:=q;subst q';obtain rfl:u=Value.bool true:=r';refine⟨rfl,OldK.of_keep λb o e=>?_,os,bare⟩
    cases q:H b with
    | none=>exact un.keep b o e q (by intro z;exact absurd (show b∈([]:List Addr) from z) (by simp)) (by simp)
    | some u =>
     rcases hO b with z|⟨ob,xs,z⟩
     ·rw[q]at z;cases z
     ·have z2:=un.DF b ob _ z;obtain⟨e1,_⟩:=hok b _ z;obtain⟨e2,_⟩:=Pu b _ z2;rw[e]at e1;cases e1;exact e2
 cases hk:K.lookup a with
 | some o =>
  have e:=KX a o hk;rw[ha]at e;cases e;refine core (λ_=>none) (λ_=>.inl rfl) (.inr ⟨_,vs.toArray,_,hk,rfl,rfl,rfl,by rw[jV,ack];exact hl,by simpa using rv⟩) (λb u z=>by have z':(none:Option HO)=some u:=z;cases z') (λb z=>absurd rfl z) λz=>absurd rfl z
 | none =>
  refine core (λb=>if b=a then some (.JL { cls:=.type "list",data:=.seq vs.toArray } (.lst (ns.map V.int))) else none) (λb=>?_) (.inl (.inr ⟨{ cls:=.type "list",data:=.seq vs.toArray },if_pos rfl⟩)) (λb u z=>?_) (λb z=>?_) λ_=>hk
  ·by_cases hb:b=a
   ·exact .inr ⟨_,_,if_pos hb⟩
   ·exact .inl (if_neg hb)
  ·by_cases hb:b=a
   ·have z':=(if_pos hb).symm.trans z;cases z';subst hb;exact⟨ha,by rw[cS];exact hl,vs,_,rv,ha⟩
   ·have z':=(if_neg hb).symm.trans z;cases z'
  ·by_cases hb:b=a
   ·exact hb
   ·exact absurd (if_neg hb) z
end L2
namespace L2
open PySem.Spec PyProof.Rows
theorem SX{l:PySem.W.OpenLaw}{n k:Nat}{q:Program}{Ez:List Str}{XP:(Str->Option Value)->Heap->Prop}{YP:World->Heap->Prop}{d:DefRec}{K:Params->PySem.W.Frag}{CX:World->Ou}{sp:World->Sp}{x:Str}
  (hn:l.most=some n) (hn2:n<=sizeLine) (Za:d.params.defaults=[]) (hr:lg k callerA)
  (hY:∀ (w:World) (h:Heap),YP w h->(K w.params).In h)
  (F:∀ (w:World) (mg:Str->Option Value) (fa:Addr) (h:Heap),(K w.params).In h->h.Ns mainGlobals mg->mg d.name=some (.ref fa)->
   ∃ fd:FuncData,(∀ (s:Shared) (u:Value),BindsTo s fd ⟨[u],[]⟩ [(x,u)])/\
    ∀ base:Heap,(K w.params).In base->base.Ns mainGlobals mg->aC l.prog w (K w.params) mg base (CX w) k fa fd [x] (sp w))
  (JY:∀ (w:World) (H:Hp) (a:Addr) (ns:List Int),ns.length<=n->WD H->bR (K w.params) H a (ns.map V.int)->sp w [.ref a] H (λv _=>v=.bl true) λ_ _ _=>False)
  (hCX:∀ (w:World) (H:Hp) (s:Shared) (e:Value) (s':Shared),CX w [] H s (λ_ _ _=>False) e s'->False) :
  PySem.W.WalkO q Ez XP YP l.row.toRowW d [] (λf vs=>PySem.call f vs):=by
 refine Att.Ht hn Za λw s₀ s₁ mg mb fa o pm cd zI a vs ns G Y ho hd M5 Zb WC Pq eN hg=>?_;have KX:=hY w _ Y;obtain⟨fd,hb,hF⟩:=F w mg fa _ KX G.T.g Zb;exact Pr KX G.T.g G.T.b G.T.builtins G.T.nolimit hg WC Pq (lS eN hn2) hr hF hb (λH hO hS=>JY w H a ns eN hO hS) λH e s'=>hCX w H s₁ e s'
end L2
namespace L2
open PySem.Spec PyProof.Rows
def sJ(s:Stmt):Arguments:=match s with
 | .FunctionDef _ a _ _ _ _ _ _ _ _=>a
 | _=>{ posonlyargs:=[],args:=[],vararg:=none,kwonlyargs:=[],kw_defaults:=[],kwarg:=none,defaults:=[] }
def ly(s:Stmt):List Stmt:=match s with
 | .FunctionDef _ _ b _ _ _ _ _ _ _=>b
 | _=>[]
def aA(s:Stmt):Scope:=match s with
 | .FunctionDef _ _ _ _ _ _ sc _ _ _=>sc
 | _=>{ kind:=.function,names:=[],isGenerator:=false,isCoroutine:=false }
abbrev bZ:Ou:=λ_ _ _ _ _ _=>False
abbrev E0:XK:=λ_ _ _=>False
theorem dh{X:Cx}:oM bZ X E0:=λ_ _ _ _ _ _ _ h=>h.elim
structure iK(K:PySem.W.Frag)(x dD:Str)(st:Stmt)(f:Addr)(fd:FuncData):Prop where
 ex:∃ (oc:Value) (od:Option Addr) (kV zI pm:Value) (an:Option Addr) (dJ ct:Value) (Nj:Array (Option Value)),
  fd=PySem.W.fnOf x dD (sJ st) (ly st) (aA st) .none kV zI pm an dJ ct/\K.lookup f=some ⟨oc,od,.func fd,Nj⟩/\PySem.W.codeIn K dJ dD=true
 kp:PySem.W.keepIn K (.ref f)=true
section
variable {P:Program} {w:World} {K:PySem.W.Frag} {mg:Str->Option Value} {base:Heap}
theorem iK.ok{x dD:Str}{st:Stmt}{f:Addr}{N ps:List Str}{k:Nat}{sp:Sp}(F:iK K x dD st f fd)(S:aJ N ps (aA st))(len:∀ vs H Q E,sp vs H Q E->vs.length=ps.length)
  (yG:∀ (dJ:Value) (A:Around) (outer:List Env) (s:Shared) (H:Hp) (vs:List V) (Q:VK) (E:XK),lg k (A.deeper (envOfC dD (aA st) s.heap.objs.size f dJ))->sp vs H Q E->
   ∃ t,JA (Hq bZ P w K mg base N dD (aA st) f dJ A outer s H E).M6 (ly st) t/\t { nx:=λ_ H'=>Q .jm H',rt:=Q } (start N vs) H):aC P w K mg base bZ (k+1) f fd ps sp:=by
 obtain⟨oc,od,kV,zI,pm,an,dJ,ct,Nj,rfl,lk,M5⟩:=F.ex;refine UO lk M5 S len λA outer s H vs Q E hr JY=>?_;obtain⟨t,h,q⟩:=yG dJ A outer s H vs Q E hr JY;exact⟨t,h.M6,q⟩
theorem iK.binds{x dD:Str}{st:Stmt}{f:Addr}{ps:List Str}(F:iK K x dD st f fd)
  (h:∀ (kV zI pm:Value) (an:Option Addr) (dJ ct:Value) (us:List Value),us.length=ps.length->bindArgs (PySem.W.fnOf x dD (sJ st) (ly st) (aA st) .none kV zI pm an dJ ct) ⟨us,[]⟩=pure (ps.zip us)):Binds K fd ps []:=by
 obtain⟨oc,od,kV,zI,pm,an,dJ,ct,Nj,rfl,lk,M5⟩:=F.ex;exact .all (h kV zI pm an dJ ct)
theorem J5{x dD:Str}{st:Stmt}{f:Addr}{oc:Value}{od an:Option Addr}{Nj:Array (Option Value)}{kV zI pm dJ ct:Value}(l:K.lookup f=some ⟨oc,od,.func (PySem.W.fnOf x dD (sJ st) (ly st) (aA st) .none kV zI pm an dJ ct),Nj⟩)
  (c:PySem.W.codeIn K dJ dD=true) (k:PySem.W.keepIn K (.ref f)=true):iK K x dD st f (PySem.W.fnOf x dD (sJ st) (ly st) (aA st) .none kV zI pm an dJ ct):=⟨⟨oc,od,kV,zI,pm,an,dJ,ct,Nj,rfl,l,c⟩,k⟩
end
theorem lO{A:Around}{k:Nat}(hr:lg k A):A.units+1<cLine:=Nat.lt_of_le_of_lt (Nat.add_le_add_left (by decide:1<=64) _) hr.units
section
variable {X:Cx}
theorem pv(i:Nat){x:Str}{pos:Pos}(hN:X.N[i]?=some x:=by rfl)(hv:Vis X.env.scope x:=by first|exact Or.inl rfl|exact Or.inr (Or.inl rfl)|exact Or.inr (Or.inr rfl))(hd:(x == ("__debug__":Str))=false:=by decide)
  (M5:(x == ("__classdict__":Str))=false:=by decide):PE X (.Name x pos) (VX i):=VY hN hv hd M5
end
theorem iI{A B:Prop}(h:B):if false=true then A else B:=by
 rw[if_neg vo];exact h
theorem j9{A B:Prop}(h:A):if true=true then A else B:=by
 rw[if_pos rfl];exact h
theorem dO{c A B:Prop} [Decidable c] (h1:c->A) (h2:¬ c->B):if c then A else B:=by
 by_cases h:c
 ·rw[if_pos h];exact h1 h
 ·rw[if_neg h];exact h2 h
theorem Px{c A B:Prop} [Decidable c] (hc:c) (h:B):if (!decide c)=true then A else B:=by
 rw[decide_eq_true hc];exact iI h
def aG(H H':Hp):Prop:=∀ b o,H b=some o->H' b=some o
theorem aG.refl(H:Hp):aG H H:=λ_ _ h=>h
theorem aG.trans{H H1 H2:Hp}(a:aG H H1)(b:aG H1 H2):aG H H2:=λc o h=>b c o (a c o h)
theorem aG.free{H H':Hp}(e:aG H H'){l:Addr}(h:H' l=Option.none):H l=Option.none:=by
 cases q:H l with
 | none=>rfl
 | some o =>
  rw[e l o q]at h;cases h
end L2
namespace jE
open L2
def top(i:Nat):Stmt:=PySem.Challenge.pw_inkroot_k47_fix.main.body.getD i (.Pass ⟨0,0,0,0⟩)
def SY:Stmt->List Stmt
 | .ClassDef (body:=b) ..=>b
 | _=>[]
def kg(i j:Nat):Stmt:=(SY (top i)).getD j (.Pass ⟨0,0,0,0⟩)
inductive DI(K:PySem.W.Frag)(x:Str)(st:Stmt)(f:Addr):Prop
 | mk {oc:Value} {od an:Option Addr} {Nj:Array (Option Value)} {kV zI pm dJ ct:Value} (_:PySem.W.nsIn K mainGlobals x=some (some (.ref f))) (_:K.lookup f=some ⟨oc,od,.func (PySem.W.fnOf x x (sJ st) (ly st) (aA st) .none kV zI pm an dJ ct),Nj⟩) (_:PySem.W.codeIn K dJ x=true) (_:PySem.W.keepIn K (.ref f)=true)
inductive MI(K:PySem.W.Frag)(C:Addr)(x dD:Str)(st:Stmt)(f:Addr):Prop
 | mk {oc:Value} {od an:Option Addr} {Nj:Array (Option Value)} {kV zI pm dJ ct:Value} (_:PySem.W.findIn K (.ref C) x=some (some (.ref f))) (_:PySem.W.isFn K (.ref f)=true) (_:K.lookup f=some ⟨oc,od,.func (PySem.W.fnOf x dD (sJ st) (ly st) (aA st) .none kV zI pm an dJ ct),Nj⟩) (_:PySem.W.codeIn K dJ dD=true) (_:PySem.W.keepIn K (.ref f)=true)
inductive CI(K:PySem.W.Frag)(x:Str)(C:Addr):Prop
 | mk (_:PySem.W.nsIn K mainGlobals x=some (some (.ref C))) (_:PySem.W.plainGet K C Str.empty=true) (_:PySem.W.hasDictIn K C=true) (_:PySem.W.plainOver K C=true) (_:PySem.W.findIn K (.ref C) "__setattr__"=some (some (.builtin "object.__setattr__"))) (_:PySem.W.makesIn K C=true) (_:PySem.W.keepIn K (.ref C)=true)
inductive XI(K:PySem.W.Frag)(x:Str)(C:Addr):Prop
 | mk (_:PySem.W.nsIn K mainGlobals x=some (some (.ref C))) (_:PySem.W.excIn K C [.type "ValueError",.type "Exception",.type "BaseException",.type "object"] "ValueError.__new__"=true) (_:PySem.W.exmOne K (.ref C) (.ref C)=some true)
inductive Py(K:PySem.W.Frag)(vs:List V)(H:Hp)(Q:VK)(E:XK):Prop
 | mk (a:Addr) (ns:List Int) (_:vs=[.ref a]) (_:bR K H a (ns.map V.int)) (_:ns.length<=63) (_: ∀ H',Q (.bl true) H')
abbrev zK:Stmt:=top 71
abbrev mK:Stmt:=top 72
abbrev mW:Stmt:=top 73
abbrev rj:Stmt:=top 74
abbrev mL:Stmt:=top 11
abbrev sL:Stmt:=top 12
abbrev iB:Stmt:=top 14
abbrev o7:Stmt:=top 15
abbrev Hu:Stmt:=top 16
abbrev mC:Stmt:=kg 27 0
abbrev eT:Stmt:=top 31
abbrev lU:Stmt:=top 32
abbrev lC:Stmt:=top 41
abbrev Hv:Stmt:=top 42
abbrev jL:Stmt:=top 37
abbrev iL:Stmt:=top 38
abbrev BC:Stmt:=top 39
abbrev gY:Stmt:=top 33
abbrev eU:Stmt:=top 34
abbrev xV:Stmt:=top 35
abbrev nh:Stmt:=top 44
abbrev jb:Stmt:=top 45
abbrev rm:Stmt:=top 46
abbrev uE:Stmt:=top 47
abbrev oO:Stmt:=top 48
abbrev uF:Stmt:=top 50
abbrev sM:Stmt:=top 49
abbrev rA:Stmt:=top 51
abbrev ni:Stmt:=top 52
abbrev nj:Stmt:=top 53
abbrev mO:Stmt:=top 55
abbrev pU:Stmt:=top 56
abbrev t9:Stmt:=top 58
abbrev mD:Stmt:=kg 59 0
abbrev jM:Stmt:=kg 59 3
abbrev ki:Stmt:=kg 59 2
abbrev pV:Stmt:=kg 59 1
abbrev iM:Stmt:=kg 59 4
abbrev eZ:Stmt:=kg 59 5
abbrev uG:Stmt:=kg 59 7
abbrev iJ:Stmt:=kg 59 10
abbrev sN:Stmt:=kg 59 9
abbrev nu:Stmt:=kg 61 0
abbrev nv:Stmt:=kg 29 0
abbrev ny:Stmt:=kg 63 0
abbrev oQ:Stmt:=kg 63 2
abbrev uH:Stmt:=kg 63 1
abbrev pW:Stmt:=kg 63 6
abbrev qG:Stmt:=top 68
abbrev cI:Stmt:=kg 69 1
abbrev pA:Stmt:=kg 69 26
abbrev cR:Stmt:=kg 69 2
abbrev nA:Stmt:=kg 69 3
abbrev kj:Stmt:=kg 69 7
abbrev iN:Stmt:=kg 69 30
abbrev l6:Stmt:=kg 69 6
abbrev lD:Stmt:=kg 69 27
abbrev ie:Stmt:=kg 69 4
abbrev qH:Stmt:=kg 69 8
abbrev nB:Stmt:=kg 69 0
abbrev qI:Stmt:=kg 69 9
abbrev nC:Stmt:=kg 69 11
abbrev uI:Stmt:=kg 69 28
abbrev mE:Stmt:=kg 69 12
abbrev qJ:Stmt:=kg 69 13
abbrev pB:Stmt:=kg 69 10
abbrev qp:Stmt:=kg 69 35
abbrev sO:Stmt:=top 82
abbrev rB:Stmt:=top 83
abbrev rC:Stmt:=top 84
abbrev sP:Stmt:=top 75
abbrev jo:Stmt:=top 77
abbrev pC:Stmt:=top 78
abbrev lE:Stmt:=top 79
abbrev wD:Stmt:=top 80
abbrev wG:Stmt:=top 81
abbrev l9:Stmt:=top 85
abbrev qK:Stmt:=top 76
abbrev rD:Stmt:=top 93
abbrev rE:Stmt:=top 86
abbrev sQ:Stmt:=top 87
abbrev xx:Stmt:=kg 69 14
abbrev uJ:Stmt:=top 88
abbrev pD:Stmt:=top 89
abbrev pF:Stmt:=top 90
abbrev uK:Stmt:=top 91
abbrev xW:Stmt:=top 92
abbrev sR:Stmt:=top 94
abbrev nE:Stmt:=top 95
abbrev Nn:Stmt:=top 96
end jE
namespace jE
open L2
inductive Pm(K:PySem.W.Frag)(mg:Str->Option Value)(fa:Addr):Prop
 | mk {h:Heap} {DN DO Pz:Tok} (gA nF nG Hw LA bO C rF wH zL yM:Addr) (X:K.In h) (G:h.Ns mainGlobals mg) (hfa:mg "law"=some (.ref fa))
  (LC:CI K "Shelf" gA)
  (LF:PySem.W.findIn K (.ref gA) "states"=some none)
  (EB:PySem.W.findIn K (.ref gA) "openings"=some none)
  (PB:CI K "Well" nF)
  (J6:PySem.W.findIn K (.ref nF) "signs"=some none)
  (FL:PySem.W.findIn K (.ref nF) "owners"=some none)
  (zM:PySem.W.findIn K (.ref nF) "pourings"=some none)
  (LG:CI K "Blots" nG)
  (FN:PySem.W.findIn K (.ref nG) "stains"=some none)
  (PD:CI K "Ties" Hw)
  (PF:PySem.W.findIn K (.ref Hw) "given"=some none)
  (PK:PySem.W.findIn K (.ref Hw) "pairs"=some none)
  (PL:CI K "Dues" LA)
  (UR:PySem.W.findIn K (.ref LA) "sums"=some none)
  (EC:CI K "Library" bO)
  (US:PySem.W.findIn K (.ref bO) "well"=some none)
  (PM:PySem.W.findIn K (.ref bO) "shelf"=some none)
  (PN:PySem.W.findIn K (.ref bO) "blots"=some none)
  (PR:PySem.W.findIn K (.ref bO) "knots"=some none)
  (UT:PySem.W.findIn K (.ref bO) "dues"=some none)
  (UU:PySem.W.findIn K (.ref bO) "book"=some none)
  (q0:DI K "_law_src" zK f0)
  (q1:DI K "_law_next" mK f1)
  (q2:DI K "_law_whole" mW f2)
  (q3:DI K "_law_same" rj f3)
  (q4:DI K "plain" mL f4)
  (q5:DI K "size" sL f5)
  (q6:DI K "check_places" iB f6)
  (q7:DI K "pieces" o7 f7)
  (q8:DI K "part" Hu f8)
  (q9:MI K nG "__init__" "Blots.__init__" mC f9)
  (ED:DI K "windows" eT f10)
  (q11:DI K "below" lU f11)
  (q12:DI K "way_between" lC f12)
  (q13:DI K "ring" Hv f13)
  (q14:DI K "item_weight" jL f14)
  (q15:DI K "weights_below" iL f15)
  (q16:DI K "weight" BC f16)
  (q17:DI K "item_row" gY f17)
  (q18:DI K "views_below" eU f18)
  (q19:DI K "shown" xV f19)
  (q20:DI K "goes_on" nh f20)
  (q21:DI K "plain_items" jb f21)
  (q22:DI K "inked" rm f22)
  (q23:DI K "dealt" uE f23)
  (q24:DI K "put_among" oO f24)
  (q25:DI K "put_items" uF f25)
  (q26:DI K "parted" sM f26)
  (q27:DI K "cut_items" rA f27)
  (q28:DI K "moved_items" ni f28)
  (q29:DI K "fixed_items" nj f29)
  (q30:DI K "ink_words" mO f30)
  (q31:DI K "shown_deed" pU f31)
  (q32:DI K "changed" t9 f32)
  (q33:MI K gA "__init__" "Shelf.__init__" mD f33)
  (q34:MI K gA "now" "Shelf.now" jM f34)
  (q35:MI K gA "many" "Shelf.many" ki f35)
  (q36:MI K gA "step" "Shelf.step" pV f36)
  (q37:MI K gA "check_sheet" "Shelf.check_sheet" iM f37)
  (q38:MI K gA "check_moment" "Shelf.check_moment" eZ f38)
  (q39:MI K gA "rows_then" "Shelf.rows_then" iJ f39)
  (q40:MI K gA "rows" "Shelf.rows" sN f40)
  (q41:MI K gA "row" "Shelf.row" uG f41)
  (q42:MI K Hw "__init__" "Ties.__init__" nu f42)
  (q43:MI K LA "__init__" "Dues.__init__" nv f43)
  (q44:MI K nF "__init__" "Well.__init__" ny f44)
  (q45:MI K nF "size" "Well.size" oQ f45)
  (q46:MI K nF "pour" "Well.pour" uH f46)
  (q47:MI K nF "holds" "Well.holds" pW f47)
  (q48:DI K "check_weave" qG f48)
  (q49:MI K bO "__init__" "Library.__init__" nB f49)
  (q50:MI K bO "enter" "Library.enter" cI f50)
  (q51:MI K bO "change" "Library.change" cR f51)
  (q52:MI K bO "many" "Library.many" pA f52)
  (q53:MI K bO "begin" "Library.begin" nA f53)
  (q54:MI K bO "fresh" "Library.fresh" kj f54)
  (q55:MI K bO "ink" "Library.ink" lD f55)
  (q56:MI K bO "check_held" "Library.check_held" ie f56)
  (q57:MI K bO "pour" "Library.pour" l6 f57)
  (q58:MI K bO "put" "Library.put" qH f58)
  (q59:MI K bO "shown" "Library.shown" iN f59)
  (q60:MI K bO "cut" "Library.cut" qI f60)
  (q61:MI K bO "quote" "Library.quote" nC f61)
  (q62:MI K bO "row" "Library.row" uI f62)
  (q63:MI K bO "window" "Library.window" mE f63)
  (q64:MI K bO "fix" "Library.fix" qJ f64)
  (q65:MI K bO "move" "Library.move" pB f65)
  (q66:MI K bO "weight" "Library.weight" qp f66)
  (q67:DI K "_law_world" sO f67)
  (q68:DI K "_law_keep" rB f68)
  (q69:DI K "_law_swap" rC f69)
  (q70:DI K "_law_spell" sP f70)
  (q71:DI K "_law_show" jo f71)
  (q72:DI K "_law_reached" pC f72)
  (q73:DI K "_law_pieces" lE f73)
  (q74:DI K "_law_put" wD f74)
  (q75:DI K "_law_cut" wG f75)
  (q76:DI K "_law_weighed" l9 f76)
  (q77:DI K "_law_row_of" qK f77)
  (q78:DI K "_law_items_of" rD f78)
  (q79:DI K "_law_fits" rE f79)
  (q80:DI K "_law_after" sQ f80)
  (q81:MI K bO "back" "Library.back" xx f81)
  (q82:DI K "_law_done" uJ f82)
  (q83:DI K "_law_ink_row" pD f83)
  (q84:DI K "_law_move_by" pF f84)
  (q85:DI K "_law_draw" uK f85)
  (q86:DI K "_law_deed" xW f86)
  (q87:DI K "_law_begin" sR f87)
  (q88:DI K "_law_shown_right" nE f88)
  (q89:DI K "law" Nn f89)
  (z0:PySem.W.nsIn K mainGlobals "len"=some none)
  (z1:PySem.W.nsIn K mainGlobals "list"=some none)
  (z2:PySem.W.nsIn K mainGlobals "tuple"=some none)
  (z3:PySem.W.nsIn K mainGlobals "int"=some none)
  (z4:PySem.W.nsIn K mainGlobals "bool"=some none)
  (z5:PySem.W.nsIn K mainGlobals "str"=some none)
  (z6:PySem.W.nsIn K mainGlobals "range"=some none)
  (z7:PySem.W.nsIn K mainGlobals "zip"=some none)
  (z8:PySem.W.nsIn K mainGlobals "isinstance"=some none)
  (z9:PySem.W.nsIn K mainGlobals "sum"=some none)
  (z10:PySem.W.nsIn K mainGlobals "min"=some none)
  (z11:PySem.W.nsIn K mainGlobals "max"=some none)
  (z12:PySem.W.nsIn K mainGlobals "all"=some none)
  (xE0:XI K "OutOfPlace" C)
  (Hx:XI K "NoSheet" rF)
  (EE:XI K "NoMoment" wH)
  (EF:XI K "OutOfInk" zL)
  (Hy:XI K "TooMany" yM)
  (xy:PySem.W.nsIn K mainGlobals "MOST_SHEETS"=some (some (.int 40 DN)))
  (xA:PySem.W.nsIn K mainGlobals "MOST_WEIGHT"=some (some (.int 200 DO)))
  (Hz:PySem.W.nsIn K mainGlobals "HIDDEN"=some (some (.str "#" Pz)))
  (yN:PySem.W.nsIn K mainGlobals "size_spans"=some (some (.ref f5)))
  (xB:PySem.W.nsIn K mainGlobals "shown_weave"=some (some (.ref f19)))
  (vL:PySem.W.nsIn K mainGlobals "weight_weave"=some (some (.ref f16)))
def UW:Prop:=∀ {P:Program} {w:World} {K:PySem.W.Frag} {mg:Str->Option Value} {fa:Addr},Pm K mg fa->∃ fd:FuncData,(∀ (s:Shared) (v:Value),BindsTo s fd ⟨[v],[]⟩ [("_law_script",v)])/\∀ base:Heap,K.In base->base.Ns mainGlobals mg->aC P w K mg base bZ 47 fa fd ["_law_script"] (Py K)
theorem walk{l:PySem.W.OpenLaw}{q:Program}{Ez:List Str}{XP:(Str->Option Value)->Heap->Prop}{YP:World->Heap->Prop}{d:DefRec}{K:Params->PySem.W.Frag}(hn:l.most=some 63)(Za:d.params.defaults=[])
  (hY:∀ (w:World) (h:Heap),YP w h->(K w.params).In h)
  (F:∀ (w:World) (mg:Str->Option Value) (fa:Addr) (h:Heap),(K w.params).In h->h.Ns mainGlobals mg->mg d.name=some (.ref fa)->
   ∃ fd:FuncData,(∀ (s:Shared) (u:Value),BindsTo s fd ⟨[u],[]⟩ [("_law_script",u)])/\∀ base:Heap,(K w.params).In base->base.Ns mainGlobals mg->aC l.prog w (K w.params) mg base bZ 47 fa fd ["_law_script"] (Py (K w.params))) :
  PySem.W.WalkO q Ez XP YP l.row.toRowW d [] (λf vs=>PySem.call f vs) :=
 L2.SX (n:=63) (k:=47) (x:="_law_script") (CX:=λ_=>bZ) (sp:=λw=>Py (K w.params)) hn (by decide) Za ⟨rfl,by decide,by decide⟩ hY F (λ_ _ a ns hl _ hS=>⟨a,ns,rfl,hS,hl,λ_=>rfl⟩) λ_ _ _ _ _ z=>z
end jE
namespace InkHd
open PySem.W PyProof.Rows
set_option maxRecDepth 100000 in
set_option maxHeartbeats 0 in
theorem hd2(A:jE.UW):PySem.Challenge.rw_inkroot_k47_fix.Holds:=by
 refine hd_k47 ?_
 k_fill
 refine jE.walk (l:=PySem.Challenge.rw_inkroot_k47_fix) rfl rfl (λw h Y=>PySem.W.kIn_of Y) ?F
 case F =>
  intro w mg fa h KX G Zb
  refine' A (.mk _ _ _ _ _ _ _ _ _ _ _ KX G Zb (.mk ..) _ _ (.mk ..) _ _ _ (.mk ..) _ (.mk ..) _ _ (.mk ..) _ (.mk ..) _ _ _ _ _ _ (.mk ..) (.mk ..) (.mk ..) (.mk ..) (.mk ..) (.mk ..) (.mk ..) (.mk ..) (.mk ..) (.mk ..) (.mk ..) (.mk ..) (.mk ..) (.mk ..) (.mk ..) (.mk ..) (.mk ..) (.mk ..) (.mk ..) (.mk ..) (.mk ..) (.mk ..) (.mk ..) (.mk ..) (.mk ..) (.mk ..) (.mk ..) (.mk ..) (.mk ..) (.mk ..) (.mk ..) (.mk ..) (.mk ..) (.mk ..) (.mk ..) (.mk ..) (.mk ..) (.mk ..) (.mk ..) (.mk ..) (.mk ..) (.mk ..) (.mk ..) (.mk ..) (.mk ..) (.mk ..) (.mk ..) (.mk ..) (.mk ..) (.mk ..) (.mk ..) (.mk ..) (.mk ..) (.mk ..) (.mk ..) (.mk ..) (.mk ..) (.mk ..) (.mk ..) (.mk ..) (.mk ..) (.mk ..) (.mk ..) (.mk ..) (.mk ..) (.mk ..) (.mk ..) (.mk ..) (.mk ..) (.mk ..) (.mk ..) (.mk ..) (.mk ..) (.mk ..) (.mk ..) (.mk ..) (.mk ..) (.mk ..) (.mk ..) (.mk ..) (.mk ..) (.mk ..) (.mk ..) (.mk ..) (.mk ..) (.mk ..) (.mk ..) (.mk ..) (.mk ..) (.mk ..) _ _ _ _ _ _ _ _ _ _ _ _ _ (.mk ..) (.mk ..) (.mk ..) (.mk ..) (.mk ..) _ _ _ _ _ _)
  all_goals try first|k_is|k_exc|kts_exm
end InkHd
namespace dF
open PySem.Spec PyProof.Rows L2
section
variable {X:Cx}
theorem fX:pR X (.builtin "isinstance") (λxs H Q=>∃ x T t b,xs=[x,.ty T]/\pS X.K H x t/\PySem.W.kitOne X.K t (.type T)=some b/\Q (.bl b) H):=by
 intro ao s σ H xs us Q I r h;obtain⟨x,T,t,b,rfl,ty,e,q⟩:=h;obtain⟨u,v,rfl,rx,rv⟩:=r.two;cases (show v=Value.type T from rv);exact Ng I rx ty e λtk=>⟨.bl b,H,I.tok tk,rfl,q⟩
theorem vf{x:Str}{T:String}(hg:Gl X x)(hm:X.mg x=none)(hv:bootBuiltins x=some (.type T))(hn:x≠"__name__":=by decide)(hd:(x == ("__debug__":Str))=false:=by decide):PE X (.Name x pos) (tC (.ty T)) :=
 SA hg hm hv rfl hn hd
end
theorem S0{X:Cx}{σ:L2.St}{H:Hp}{s:Shared}{h':Heap}{t':Nat}{ch:List Addr}(I:Inv X ao σ H s)(k:∀ b o,b∉ch->s.heap.get? b=some o->h'.get? b=some o)
  (hf:∀ b∈ch,vt X ao H b):Inv X ao σ H { s with heap:=h',toks:=t' }:=by
 have UH:∀ b u,H b=some u->b∉ch:=λb u e z=>by rw[(hf b z).1]at e;cases e
 refine I.step (g':=s.gens) (d':=s.drawn) (ch:=ch) (λb hb=>?_) (λb o _ _ hc e _=>k b o hc e) (λb o _ _ hc e _=>⟨o.slots,k b o hc e⟩) (λ_ _ _ _ n=>n) (λb o hc e=>⟨o,k b o hc e⟩) (λ_ _ e=>e) (λ_ _ _ e=>e) (λb ps e=>⟨#[],by rw[e];simp⟩) (λm hm=>?_) (λb u e=>?_) I.bare
 ·obtain⟨_,f1,_,f3,f4,f5⟩:=hf b hb;exact⟨f3,f1,f4,f5⟩
 ·obtain⟨o,es,ep,ho,r⟩:=hm;exact⟨o,es,ep,k _ o (λz=>(hf _ z).2.1 rfl) ho,r⟩
 ·refine (I.hok b u e).stay (λc v hc q=>k c v ?_ q) (λ_ q=>q) λ_ _ q=>q;rcases hc with z|z
  ·rw[z];exact UH b u e
  ·exact UH c _ z
theorem Zd{X:Cx}{σ:L2.St}{H:Hp}{s:Shared}{h':Heap}{t':Nat}{ch:List Addr}{p:Addr}{xs:List V}{us:List Value}(I:Inv X ao σ H s)(k:∀ b o,b∉ch->s.heap.get? b=some o->h'.get? b=some o)
  (hf:∀ b∈ch,vt X ao H b) (hp:s.heap.objs.size<=p) (hz:xs.length<=sizeLine) (rv:cG xs us) (ht:IsTup h' p us.toArray):Inv X ao σ (aQ H p (.tup xs)) { s with heap:=h',toks:=t' }:=by
 have hn:H p=none:=I.hok.fresh hp;have UH:∀ b u,H b=some u->b∉ch:=λb u e z=>by rw[(hf b z).1]at e;cases e
 have nep:∀ b o,s.heap.get? b=some o->b≠p:=λb o e z=>by subst z;exact absurd (vp (Heap.lt_size e) hp) (Nat.lt_irrefl _)
 refine I.step (g':=s.gens) (d':=s.drawn) (ch:=ch) (λb hb=>?_) (λb o _ _ hc e _=>k b o hc e) (λb o _ _ hc e _=>⟨o.slots,k b o hc e⟩) (λb o _ e n=>by rw[aL (nep b o e)];exact n) (λb o hc e=>⟨o,k b o hc e⟩) (λb ys e=>by rw[aL (az e hn)];exact e) (λb _ _ e=>by rw[aL (az e hn)];exact e) (λb ps e=>⟨#[],by rw[aL (az e hn),e];simp⟩) (λm hm=>?_) (λb u e=>?_) I.bare
 ·obtain⟨_,f1,_,f3,f4,f5⟩:=hf b hb;exact⟨f3,f1,f4,f5⟩
 ·obtain⟨o,es,ep,ho,r⟩:=hm;exact⟨o,es,ep,k _ o (λz=>(hf _ z).2.1 rfl) ho,r⟩
 ·by_cases hb:b=p
  ·subst hb;rw[af]at e;cases e;exact⟨hz,us,rv,ht⟩
  ·rw[aL hb]at e;refine (I.hok b u e).stay (λc v hc q=>k c v ?_ q) (λc q=>by rw[aL (az q hn)];exact q) λc ys q=>by rw[aL (az q hn)];exact q
   rcases hc with z|z
   ·rw[z];exact UH b u e
   ·exact UH c _ z
def JB(k:Bool)(h:Heap)(i a:Addr)(n:Nat):Prop:=match k with
 | true=>h.IsListIter i a n
 | false=>h.IsTupleIter i a n
def DB(k:Bool)(h:Heap)(a:Addr)(xs:Array Value):Prop:=match k with
 | true=>h.IsList a xs
 | false=>h.IsTuple a xs
theorem JB.at{k:Bool}{h h':Heap}{i a:Addr}{n:Nat}(x:JB k h i a n)(e:∀ o,h.get? i=some o->h'.get? i=some o):JB k h' i a n:=by
 cases k
 ·obtain⟨o,ho,r⟩:=x;exact⟨o,e o ho,r⟩
 ·obtain⟨o,ho,r⟩:=x;exact⟨o,e o ho,r⟩
theorem DB.at{k:Bool}{h h':Heap}{a:Addr}{xs:Array Value}(x:DB k h a xs)(e:∀ o,h.get? a=some o->h'.get? a=some o):DB k h' a xs:=by
 cases k
 ·obtain⟨o,ho,r⟩:=x;exact⟨o,e o ho,r⟩
 ·obtain⟨o,ho,r⟩:=x;exact⟨o,e o ho,r⟩
theorem JB.obj{k:Bool}{h:Heap}{i a:Addr}{n:Nat}(x:JB k h i a n):∃ o,h.get? i=some o/\∀ v,o.data≠.cell v:=by
 cases k
 ·obtain⟨o,ho,_,d⟩:=x;exact⟨o,ho,λv z=>by rw[d]at z;cases z⟩
 ·obtain⟨o,ho,_,d⟩:=x;exact⟨o,ho,λv z=>by rw[d]at z;cases z⟩
section
variable {prog:Program} {w:World} {A:Around} {E:Value->Shared->Prop} {s:Shared}
theorem J7{it t:Addr}{i:Nat}{items:Array Value}{x:Value}{Q:Value->Shared->Prop}(xX:s.heap.IsTupleIter it t i)(ht:s.heap.IsTuple t items)(hx:items[i]?=some x)
  (hQ:∀ h',h'.IsTupleIter it t (i+1)->Heap.SameBut it s.heap h'->Q x { s with heap:=h' }):wpAny (model prog w) A (Builtin.SmallTypes.nextOf (.ref it)) Q E s:=by
 obtain⟨o,ho,hc,hd⟩:=id xX;obtain⟨ol,hol,_,nl,S9⟩:=ht;unfold Builtin.SmallTypes.nextOf;refine wpAny_bind (wpAny_callSpecial?_slot (name:=Str.ofString "__next__") xX.typeIs F.slot_tuple_iterator_next (wpAny_call_entry F.slot_tuple_iterator_next xX.typeIs F.entry_tuple_iterator_next ?_ (F.args_tuple_iterator_next_1 _)));show wpAny _ _ (field (.ref it) 0 >>= _) _ _ s;refine wpAny_bind (wpAny_field ho hd (x:=.ref t) rfl ?_);show wpAny _ _ (if (Value.ref t == Value.none)=true then _ else _) _ _ s;rw[if_neg (show ¬ ((Value.ref t == Value.none)=true) from vo)];show wpAny _ _ (field (.ref it) 1 >>= _) _ _ s;refine wpAny_bind (wpAny_field ho hd (x:=.int i 0) rfl ?_);show wpAny _ _ (seqItems? (.ref t) >>= _) _ _ s;refine wpAny_bind (wpAny_seqItems hol S9 ?_);simp only[Int.toNat_natCast,hx];refine wpAny_bind (wpAny_setField ho hd (by simp) (wpAny_pure ⟨x,rfl,wpAny_pure (hQ _ ?_ (Heap.SameBut.update ..))⟩));refine⟨_,Heap.get?_update_self _ ho (Obj.isFreed_of_fields (Obj.data_mapFields hd _)),(Obj.cls_mapFields ..).trans hc,?_⟩;rw[Obj.data_mapFields hd];simp[rawInt]
theorem Np{it t:Addr}{i:Nat}{items:Array Value}{Q:Value->Shared->Prop}(hh:A.handled=none)(xX:s.heap.IsTupleIter it t i)(ht:s.heap.IsTuple t items)(hx:items[i]?=none)
  (hE:∀ h' e,Heap.ExtBut it s.heap h'->(∃ o,h'.get? e=some o/\o.cls=.type "StopIteration")->E (.ref e) { s with heap:=h' }):wpAny (model prog w) A (Builtin.SmallTypes.nextOf (.ref it)) Q E s:=by
 obtain⟨o,ho,hc,hd⟩:=id xX;obtain⟨ol,hol,_,nl,S9⟩:=ht;unfold Builtin.SmallTypes.nextOf;refine wpAny_bind (wpAny_callSpecial?_slot (name:=Str.ofString "__next__") xX.typeIs F.slot_tuple_iterator_next (wpAny_call_entry F.slot_tuple_iterator_next xX.typeIs F.entry_tuple_iterator_next ?_ (F.args_tuple_iterator_next_1 _)));show wpAny _ _ (field (.ref it) 0 >>= _) _ _ s;refine wpAny_bind (wpAny_field ho hd (x:=.ref t) rfl ?_);show wpAny _ _ (if (Value.ref t == Value.none)=true then _ else _) _ _ s;rw[if_neg (show ¬ ((Value.ref t == Value.none)=true) from vo)];show wpAny _ _ (field (.ref it) 1 >>= _) _ _ s;refine wpAny_bind (wpAny_field ho hd (x:=.int i 0) rfl ?_);show wpAny _ _ (seqItems? (.ref t) >>= _) _ _ s;refine wpAny_bind (wpAny_seqItems hol S9 ?_);simp only[Int.toNat_natCast,hx];refine wpAny_bind (wpAny_rule (wpAny_bind (wpAny_setField ho hd (by simp) ?_)));show wpAny _ _ (newExc (.type "StopIteration") [] >>= _) _ _ _;refine wpAny_bind ?_;simp only[newExc,newTuple];refine wpAny_bind (wpAny_newObj_type ?_ (by size_fits))
 refine wpAny_bind (m:=firstArgMember _ _) (wpAny_of_eq (a:=Value.none) (by first|rfl|(simp only[firstArgMember];rfl)) ?_)
 refine wpAny_newObj_type ?_ (by size_fits);simp only[raiseNew];refine wpAny_bind (wpAny_handled ?_)
 first|rw[show A.in1.handled=none from hh]|rw[hh]
 refine wpAny_bind (wpAny_pure (wpAny_throw ?_));exact hE _ _ (((Heap.SameBut.update ..).extBut.push _).push _) ⟨_,Heap.get?_push_size _ rfl,rfl⟩
theorem xY{k:Bool}{it t:Addr}{i:Nat}{items:Array Value}{x:Value}{Q:Value->Shared->Prop}(xX:JB k s.heap it t i)(ht:DB k s.heap t items)(hx:items[i]?=some x)
  (hQ:∀ h',JB k h' it t (i+1)->Heap.SameBut it s.heap h'->Q x { s with heap:=h' }):wpAny (model prog w) A (Builtin.SmallTypes.nextOf (.ref it)) Q E s:=by
 cases k
 ·exact J7 xX ht hx hQ
 ·exact wpAny_nextOf_list_item xX ht hx hQ
theorem EG{k:Bool}{it t:Addr}{i:Nat}{items:Array Value}{Q:Value->Shared->Prop}(hh:A.handled=none)(xX:JB k s.heap it t i)(ht:DB k s.heap t items)(hx:items[i]?=none)
  (hE:∀ h' e,Heap.ExtBut it s.heap h'->(∃ o,h'.get? e=some o/\o.cls=.type "StopIteration")->E (.ref e) { s with heap:=h' }):wpAny (model prog w) A (Builtin.SmallTypes.nextOf (.ref it)) Q E s:=by
 cases k
 ·exact Np hh xX ht hx hE
 ·exact wpAny_nextOf_list_end hh xX ht hx hE
abbrev EH(k:Bool)(l:Addr):Obj:={ cls:=.type (if k then "list_iterator" else "tuple_iterator"),data:=.fields #[.ref l,.int 0 0] }
theorem UX{k:Bool}{xs:Array Value}{Q:Value->Shared->Prop}(h:DB k s.heap l xs)(hQ:Q (.ref s.heap.objs.size) { s with heap:=s.heap.push (EH k l) }):wpAny (model prog w) A (pyIter (.ref l)) Q E s:=by
 cases k
 ·exact wpAny_pyIter_tuple h hQ
 ·exact wpAny_pyIter_list h hQ
structure EI(k:Bool)(h:Heap)(z TI TO i1 i2 l1 l2:Addr)(n:Nat):Prop where
 z:IsZip h z TI TO .none
 ti:IsPair h TI (.ref i1) (.ref i2)
 to:∃ a b,IsPair h TO a b
 i1:JB k h i1 l1 n
 i2:JB k h i2 l2 n
theorem Nq{k:Bool}{z TI TO i1 i2 l1 l2:Addr}{n:Nat}{xs ys:Array Value}{x y:Value}{Q:Value->Shared->Prop}(D:ZipApart z TI TO i1 i2 l1 l2)(st:EI k s.heap z TI TO i1 i2 l1 l2 n)
  (J8:DB k s.heap l1 xs) (FJ:DB k s.heap l2 ys) (hx:xs[n]?=some x) (hy:ys[n]?=some y)
  (hQ:∀ h',IsZip h' z TI TO (rawInt s.heap.objs.size)->IsPair h' TO x y->JB k h' i1 l1 (n+1)->JB k h' i2 l2 (n+1)->IsPair h' s.heap.objs.size x y->
   (∀ c o,c≠z->c≠TO->c≠i1->c≠i2->s.heap.get? c=some o->h'.get? c=some o)->Q (.ref s.heap.objs.size) { s with heap:=h' }) :
  wpAny (model prog w) A (Builtin.«zip.__next__» ⟨[.ref z],[]⟩) (λoB s'=>∃ v,oB=.done (.ret v)/\Q v s') E s:=by
 obtain⟨hz,hTI,⟨a,b,hTO⟩,h1,h2⟩:=st;show wpAny _ _ (field (.ref z) 2 >>= _) _ _ _;refine wpAny_bind (wpAny_field hz rfl (x:=.bool false) rfl ?_);show wpAny _ _ (field (.ref z) 3 >>= _) _ _ _;refine wpAny_bind (wpAny_field hz rfl (x:=.ref TI) rfl (wpAny_bind (wpAny_seqItems hTI rfl ?_)));show wpAny _ _ (Builtin.SmallTypes.ownedTupleIsFree (.ref z) >>= _) _ _ _;refine wpAny_bind ?_;unfold Builtin.SmallTypes.ownedTupleIsFree;refine wpAny_bind (wpAny_field hz rfl (x:=.none) rfl (wpAny_pure ?_));simp only[if_true];refine wpAny_bind (wpAny_rule (wpAny_bind (wpAny_field hz rfl (x:=.ref TO) rfl (wpAny_bind (wpAny_setField_rec hz (by simp) λg1 z1 c1=>?_)))))
 replace z1:IsZip g1 z TI TO .ellipsis:=z1
 refine wpAny_bind ?_;simp only[List.zipIdx_cons,List.zipIdx_nil,List.forIn_cons,List.forIn_nil];refine wpAny_bind (wpAny_bind (wpAny_onRaise ?_));show wpAny _ _ (Builtin.SmallTypes.nextOf (.ref i1) >>= _) _ _ _;refine wpAny_bind (xY (h1.at λo e=>c1.extBut _ _ D.i1z e) (J8.at λo e=>c1.extBut _ _ D.l1z e) hx λg2 h12 c2=>wpAny_pure ?_);have o2:IsPair g2 TO a b:=c2.extBut _ _ D.TOi1 (c1.extBut _ _ D.TOz hTO);refine wpAny_bind (wpAny_seqItems o2 rfl (wpAny_bind (wpAny_updateSeq_pair o2 λg3 o3 c3=>?_)))
 replace o3:IsPair g3 TO x b:=o3
 refine wpAny_bind (wpAny_letGo (wpAny_pure (wpAny_bind (wpAny_bind (wpAny_onRaise ?_)))));show wpAny _ _ (Builtin.SmallTypes.nextOf (.ref i2) >>= _) _ _ _;refine wpAny_bind (xY (((h2.at λo e=>c1.extBut _ _ D.i2z e).at λo e=>c2.extBut _ _ D.i12.symm e).at λo e=>c3.extBut _ _ D.TOi2.symm e) (((FJ.at λo e=>c1.extBut _ _ D.l2z e).at λo e=>c2.extBut _ _ D.l2i1 e).at λo e=>c3.extBut _ _ D.l2TO e) hy λg4 h24 c4=>wpAny_pure ?_);have o4:IsPair g4 TO x b:=c4.extBut _ _ D.TOi2 o3;refine wpAny_bind (wpAny_seqItems o4 rfl (wpAny_bind (wpAny_updateSeq_pair o4 λg5 o5 c5=>?_)))
 replace o5:IsPair g5 TO x y:=o5
 refine wpAny_bind (wpAny_letGo (wpAny_pure (wpAny_pure (wpAny_bind (wpAny_seqItems o5 rfl (wpAny_bind (wpAny_newTuple ?_)))))));have sz:g5.objs.size=s.heap.objs.size:=by rw[c5.1,c4.1,c3.1,c2.1,c1.1]
 have z5:IsZip g5 z TI TO .ellipsis:=c5.extBut _ _ D.TOz.symm (c4.extBut _ _ D.i2z.symm (c3.extBut _ _ D.TOz.symm (c2.extBut _ _ D.i1z.symm z1)));have k5:∀ c o,c≠z->c≠TO->c≠i1->c≠i2->s.heap.get? c=some o->g5.get? c=some o:=λc o n1 n2 n3 n4 e=>c5.extBut _ _ n2 (c4.extBut _ _ n4 (c3.extBut _ _ n2 (c2.extBut _ _ n3 (c1.extBut _ _ n1 e))));have h15:JB k g5 i1 l1 (n+1):=((h12.at λo e=>c3.extBut _ _ D.TOi1.symm e).at λo e=>c4.extBut _ _ D.i12 e).at λo e=>c5.extBut _ _ D.TOi1.symm e;have h25:JB k g5 i2 l2 (n+1):=h24.at λo e=>c5.extBut _ _ D.TOi2.symm e;have zlt:z<g5.objs.size:=Heap.lt_size z5;show wpAny _ _ (Builtin.SmallTypes.ownedTupleHandOut (.ref z) (.ref g5.objs.size) >>= _) _ _ _;refine wpAny_bind ?_;unfold Builtin.SmallTypes.ownedTupleHandOut;have z6:IsZip (g5.push { cls:=.type "tuple",data:=.seq #[x,y] }) z TI TO .ellipsis:=Heap.get?_push_of_some _ z5;refine wpAny_bind (wpAny_setField_rec z6 (by simp) λg7 z7 c7=>?_)
 replace z7:IsZip g7 z TI TO (rawInt g5.objs.size):=z7
 refine wpAny_setField_rec z7 (by simp) λg8 z8 c8=>?_
 replace z8:IsZip g8 z TI TO (rawInt g5.objs.size):=z8
 have up:∀ c o,c≠z->g5.get? c=some o->g8.get? c=some o:=λc o n1 e=>c8.extBut _ _ n1 (c7.extBut _ _ n1 (Heap.get?_push_of_some _ e));have t8:IsPair g8 g5.objs.size x y:=c8.extBut _ _ (Nat.ne_of_gt zlt) (c7.extBut _ _ (Nat.ne_of_gt zlt) (Heap.get?_push_size _ rfl));rw[sz]at z8 t8;refine wpAny_pure ⟨_,rfl,?_⟩;show Q (.ref g5.objs.size) _;rw[sz];exact hQ g8 z8 (up _ _ D.TOz o5) (h15.at λo e=>up _ o D.i1z e) (h25.at λo e=>up _ o D.i2z e) t8 λc o n1 n2 n3 n4 e=>up c o n1 (k5 c o n1 n2 n3 n4 e)
theorem PU{k:Bool}{z TI TO i1 i2 l1 l2:Addr}{n:Nat}{xs ys:Array Value}{Q:Fin->Shared->Prop}(hh:A.handled=none)(D:ZipApart z TI TO i1 i2 l1 l2)(st:EI k s.heap z TI TO i1 i2 l1 l2 n)
  (J8:DB k s.heap l1 xs) (FJ:DB k s.heap l2 ys) (WE:xs[n]?=none\/ys[n]?=none)
  (hE:∀ h' e,(∀ c o,c≠z->c≠TO->c≠i1->c≠i2->s.heap.get? c=some o->h'.get? c=some o)->(∃ o,h'.get? e=some o/\o.cls=.type "StopIteration")->E (.ref e) { s with heap:=h' }) :
  wpAny (model prog w) A (Builtin.«zip.__next__» ⟨[.ref z],[]⟩) Q E s:=by
 obtain⟨hz,hTI,⟨a,b,hTO⟩,h1,h2⟩:=st;show wpAny _ _ (field (.ref z) 2 >>= _) _ _ _;refine wpAny_bind (wpAny_field hz rfl (x:=.bool false) rfl ?_);show wpAny _ _ (field (.ref z) 3 >>= _) _ _ _;refine wpAny_bind (wpAny_field hz rfl (x:=.ref TI) rfl (wpAny_bind (wpAny_seqItems hTI rfl ?_)));show wpAny _ _ (Builtin.SmallTypes.ownedTupleIsFree (.ref z) >>= _) _ _ _;refine wpAny_bind ?_;unfold Builtin.SmallTypes.ownedTupleIsFree;refine wpAny_bind (wpAny_field hz rfl (x:=.none) rfl (wpAny_pure ?_));simp only[if_true];refine wpAny_bind (wpAny_rule (wpAny_bind (wpAny_field hz rfl (x:=.ref TO) rfl (wpAny_bind (wpAny_setField_rec hz (by simp) λg1 z1 c1=>?_)))))
 replace z1:IsZip g1 z TI TO .ellipsis:=z1
 refine wpAny_bind ?_;simp only[List.zipIdx_cons,List.zipIdx_nil,List.forIn_cons,List.forIn_nil];refine wpAny_bind (wpAny_bind (wpAny_onRaise ?_));show wpAny _ _ (Builtin.SmallTypes.nextOf (.ref i1) >>= _) _ _ _
 cases hx:xs[n]? with
 | none =>
  refine wpAny_bind (EG hh (h1.at λo e=>c1.extBut _ _ D.i1z e) (J8.at λo e=>c1.extBut _ _ D.l1z e) hx λg2 e c2 he=>?_);obtain⟨oe,WG,hce⟩:=he;have z2:IsZip g2 z TI TO .ellipsis:=c2 _ _ D.i1z.symm z1;have hez:e≠z:=λx=>by subst x;rw[z2]at WG;cases WG;simp at hce
  exact wpAny_setField_rec z2 (by simp) λg3 _ c3=>hE g3 e (λc o n1 _ n3 _ x=>c3.extBut _ _ n1 (c2 _ _ n3 (c1.extBut _ _ n1 x))) ⟨oe,c3.extBut _ _ hez WG,hce⟩
 | some x =>
  have hy:ys[n]?=none:=by rcases WE with h|h;(rw[hx]at h;cases h);exact h
  refine wpAny_bind (xY (h1.at λo e=>c1.extBut _ _ D.i1z e) (J8.at λo e=>c1.extBut _ _ D.l1z e) hx λg2 h12 c2=>wpAny_pure ?_);have o2:IsPair g2 TO a b:=c2.extBut _ _ D.TOi1 (c1.extBut _ _ D.TOz hTO);refine wpAny_bind (wpAny_seqItems o2 rfl (wpAny_bind (wpAny_updateSeq_pair o2 λg3 o3 c3=>?_)));refine wpAny_bind (wpAny_letGo (wpAny_pure (wpAny_bind (wpAny_bind (wpAny_onRaise ?_)))));show wpAny _ _ (Builtin.SmallTypes.nextOf (.ref i2) >>= _) _ _ _;refine wpAny_bind (EG hh (((h2.at λo e=>c1.extBut _ _ D.i2z e).at λo e=>c2.extBut _ _ D.i12.symm e).at λo e=>c3.extBut _ _ D.TOi2.symm e) (((FJ.at λo e=>c1.extBut _ _ D.l2z e).at λo e=>c2.extBut _ _ D.l2i1 e).at λo e=>c3.extBut _ _ D.l2TO e) hy λg4 e c4 he=>?_);obtain⟨oe,WG,hce⟩:=he;have z4:IsZip g4 z TI TO .ellipsis:=c4 _ _ D.i2z.symm (c3.extBut _ _ D.TOz.symm (c2.extBut _ _ D.i1z.symm z1));have hez:e≠z:=λx=>by subst x;rw[z4]at WG;cases WG;simp at hce
  exact wpAny_setField_rec z4 (by simp) λg5 _ c5=>hE g5 e (λc o n1 n2 n3 n4 x=>c5.extBut _ _ n1 (c4 _ _ n4 (c3.extBut _ _ n2 (c2.extBut _ _ n3 (c1.extBut _ _ n1 x))))) ⟨oe,c5.extBut _ _ hez WG,hce⟩
theorem J9{k:Bool}{z TI TO i1 i2 l1 l2:Addr}{n:Nat}{xs ys:Array Value}{x y:Value}{Q:Option Value->Shared->Prop}(D:ZipApart z TI TO i1 i2 l1 l2)(st:EI k s.heap z TI TO i1 i2 l1 l2 n)
  (J8:DB k s.heap l1 xs) (FJ:DB k s.heap l2 ys) (hx:xs[n]?=some x) (hy:ys[n]?=some y)
  (hQ:∀ h',IsZip h' z TI TO (rawInt s.heap.objs.size)->IsPair h' TO x y->JB k h' i1 l1 (n+1)->JB k h' i2 l2 (n+1)->IsPair h' s.heap.objs.size x y->
   (∀ c o,c≠z->c≠TO->c≠i1->c≠i2->s.heap.get? c=some o->h'.get? c=some o)->Q (some (.ref s.heap.objs.size)) { s with heap:=h' }):wpAny (model prog w) A (pyNext (.ref z)) Q E s:=by
 have hT:s.TypeIs (.ref z) "zip":=⟨_,st.z,rfl⟩;unfold pyNext;exact wpAny_bind (wpAny_attempt (wpAny_callSpecial?_slot (name:=Str.ofString "__next__") hT F.slot_zip_next (wpAny_call_entry F.slot_zip_next hT F.entry_zip_next (Nq D st J8 FJ hx hy λh' a1 a2 a3 a4 a5 a7=>wpAny_pure (hQ h' a1 a2 a3 a4 a5 a7)) (F.args_zip_next_1 _))))
theorem Nr{k:Bool}{z TI TO i1 i2 l1 l2:Addr}{n:Nat}{xs ys:Array Value}{Q:Option Value->Shared->Prop}(hh:A.handled=none)(D:ZipApart z TI TO i1 i2 l1 l2)(st:EI k s.heap z TI TO i1 i2 l1 l2 n)
  (J8:DB k s.heap l1 xs) (FJ:DB k s.heap l2 ys) (WE:xs[n]?=none\/ys[n]?=none)
  (hQ:∀ h',(∀ c o,c≠z->c≠TO->c≠i1->c≠i2->s.heap.get? c=some o->h'.get? c=some o)->Q none { s with heap:=h' }):wpAny (model prog w) A (pyNext (.ref z)) Q E s:=by
 have hT:s.TypeIs (.ref z) "zip":=⟨_,st.z,rfl⟩;unfold pyNext;refine wpAny_bind (wpAny_attempt (wpAny_callSpecial?_slot (name:=Str.ofString "__next__") hT F.slot_zip_next (wpAny_call_entry F.slot_zip_next hT F.entry_zip_next (PU hh D st J8 FJ WE λh' e hk he=>?_) (F.args_zip_next_1 _))));obtain⟨o,ho,hc⟩:=he;exact wpAny_bind (wpAny_isInstance (T:="StopIteration") (b:=true) ⟨o,ho,hc⟩ isSubtype_stop (wpAny_pure (hQ _ hk)))
end
abbrev zH1(k:Bool)(h:Heap)(l1:Addr):Heap:=h.push (EH k l1)
abbrev zH2(k:Bool)(h:Heap)(l1 l2:Addr):Heap:=(zH1 k h l1).push (EH k l2)
abbrev zH3(k:Bool)(h:Heap)(l1 l2:Addr):Heap:=(zH2 k h l1 l2).push { cls:=.type "tuple",data:=.seq #[.ref h.objs.size,.ref (zH1 k h l1).objs.size] }
abbrev zH4(k:Bool)(h:Heap)(l1 l2:Addr):Heap:=(zH3 k h l1 l2).push { cls:=.type "tuple",data:=.seq #[.none,.none] }
abbrev X6(k:Bool)(h:Heap)(l1 l2:Addr):Heap:=(zH4 k h l1 l2).push { cls:=.type "zip",data:=.fields #[.none,.bool false,.bool false,.ref (zH2 k h l1 l2).objs.size,.ref (zH3 k h l1 l2).objs.size] }
theorem Ka(k:Bool)(l1 l2:Addr)(xs ys:Array Value) :
  Meets (Builtin.«zip.__new__» ⟨[.type "zip",.ref l1,.ref l2],[]⟩) (λ_ R s=>DB k s.heap l1 xs/\DB k s.heap l2 ys/\R (.ok (.ret (.ref (zH4 k s.heap l1 l2).objs.size))) { s with heap:=X6 k s.heap l1 l2 }) :=
 .of_wp λprog w A R s h=>by
  obtain⟨hp,g,d,tk,os⟩:=s;obtain⟨J8,FJ,h⟩:=h;have hsub:=sub_zip;have hL1:DB k (Shared.heap ⟨hp,g,d,tk,os⟩) l1 xs:=J8;have hL2:DB k (Shared.heap ⟨hp.push (EH k l1),g,d,tk,os⟩) l2 ys:=FJ.at λo e=>Heap.get?_push_of_some _ e
  wp_walk using UX hL1,UX hL2
  exact⟨_,rfl,h⟩
section
variable {prog:Program} {w:World} {A:Around} {E:Value->Shared->Prop} {s:Shared}
theorem Nt{k:Bool}{l1 l2:Addr}{xs ys:Array Value}{Q:Value->Shared->Prop}(J8:DB k s.heap l1 xs)(FJ:DB k s.heap l2 ys)
  (h:∀ h',EI k h' (s.heap.objs.size+4) (s.heap.objs.size+2) (s.heap.objs.size+3) s.heap.objs.size (s.heap.objs.size+1) l1 l2 0->(∀ c o,s.heap.get? c=some o->h'.get? c=some o)->Q (.ref (s.heap.objs.size+4)) { s with heap:=h' }) :
  wpAny (model prog w) A (call (.type "zip") [.ref l1,.ref l2]) Q E s:=by
 refine callType_new F.called_zip (by decide) (F.typeCall_zip_2 _ _) (F.newCall_zip_2 _ _) (λobj=>F.args_object_init_3 obj _ _) F.entry_zip_new (Ka k l1 l2 xs ys) ⟨J8,FJ,?_⟩;have z1:(zH1 k s.heap l1).objs.size=s.heap.objs.size+1:=Heap.size_push ..;have z2:(zH2 k s.heap l1 l2).objs.size=s.heap.objs.size+2:=by rw[Heap.size_push,z1]
 have z3:(zH3 k s.heap l1 l2).objs.size=s.heap.objs.size+3:=by rw[Heap.size_push,z2]
 have z4:(zH4 k s.heap l1 l2).objs.size=s.heap.objs.size+4:=by rw[Heap.size_push,z3]
 have g5:(X6 k s.heap l1 l2).get? (zH4 k s.heap l1 l2).objs.size=some _:=Heap.get?_push_size _ rfl;have g4:(X6 k s.heap l1 l2).get? (zH3 k s.heap l1 l2).objs.size=some _:=Heap.get?_push_of_some _ (Heap.get?_push_size _ rfl);have g3:(X6 k s.heap l1 l2).get? (zH2 k s.heap l1 l2).objs.size=some _:=Heap.get?_push_of_some _ (Heap.get?_push_of_some _ (Heap.get?_push_size _ rfl));have g2:(X6 k s.heap l1 l2).get? (zH1 k s.heap l1).objs.size=some (EH k l2):=Heap.get?_push_of_some _ (Heap.get?_push_of_some _ (Heap.get?_push_of_some _ (Heap.get?_push_size _ rfl)));have g1:(X6 k s.heap l1 l2).get? s.heap.objs.size=some (EH k l1):=Heap.get?_push_of_some _ (Heap.get?_push_of_some _ (Heap.get?_push_of_some _ (Heap.get?_push_of_some _ (Heap.get?_push_size _ rfl))));show _/\_;rw[z2,z3,z4]at g5;rw[z1,z2]at g3;rw[z3]at g4;rw[z1]at g2;rw[z4];refine⟨⟨_,g5,rfl⟩,h _ ⟨g5,g3,⟨_,_,g4⟩,?_,?_⟩ λc o x=>Heap.get?_push_of_some _ (Heap.get?_push_of_some _ (Heap.get?_push_of_some _ (Heap.get?_push_of_some _ (Heap.get?_push_of_some _ x))))⟩
 ·cases k
  ·exact⟨_,g1,rfl,rfl⟩
  ·exact⟨_,g1,rfl,rfl⟩
 ·cases k
  ·exact⟨_,g2,rfl,rfl⟩
  ·exact⟨_,g2,rfl,rfl⟩
end
def LH(K:PySem.W.Frag)(k:Bool)(H:Hp)(a:Addr)(xs:List V):Prop:=match k with
 | true=>bR K H a xs
 | false=>ef K H a xs
theorem zN{X:Cx}{σ:L2.St}{H:Hp}{s:Shared}{k:Bool}{a:Addr}{xs:List V}(I:Inv X ao σ H s)(h:LH X.K k H a xs):∃ aP:List Value,cG xs aP/\DB k s.heap a aP.toArray/\xs.length<=sizeLine:=by
 cases k
 ·obtain⟨aP,r,p,z⟩:=I.tuple h;exact⟨aP,r,p,z⟩
 ·obtain⟨aP,r,p,z⟩:=I.list h;exact⟨aP,r,p.isList,z⟩
theorem LI{X:Cx}{σ:L2.St}{H:Hp}{s:Shared}{k:Bool}{a:Addr}{xs ys:List V}(I:Inv X ao σ H s)(h:LH X.K k H a xs)(h':LH X.K k H a ys):xs=ys:=by
 cases k
 ·exact I.Er h h'
 ·exact I.Hf h h'
theorem PV{k:Bool}{h:Heap}{a:Addr}{xs:Array Value}(x:DB k h a xs):a<h.objs.size:=by
 cases k
 ·obtain⟨o,ho,_⟩:=x;exact Heap.lt_size ho
 ·obtain⟨o,ho,_⟩:=x;exact Heap.lt_size ho
def Ze(K:PySem.W.Frag)(k:Bool)(a1 a2:Addr):It :=
 ⟨λi H=>∃ xs ys x y,LH K k H a1 xs/\LH K k H a2 ys/\xs[i]?=some x/\ys[i]?=some y,λi H v H'=>∃ p x y,H p=none/\v=.ref p/\H'=aQ H p (.tup [x,y])/\(∀ xs,LH K k H a1 xs->xs[i]?=some x)/\∀ ys,LH K k H a2 ys->ys[i]?=some y,λi H=>∃ xs ys,LH K k H a1 xs/\LH K k H a2 ys/\(xs.length<=i\/ys.length<=i)⟩
theorem PX{P:Program}{w:World}{K:PySem.W.Frag}{x1:Nat}{k:Bool}{z TI TO i1 i2 l1 l2:Addr}(D:ZipApart z TI TO i1 i2 l1 l2) :
  M7 P w K (.Tuple WH x1 Nf) (Ze K k l1 l2) [z,TI,TO,i1,i2] z (λi h=>EI k h z TI TO i1 i2 l1 l2 i) where
 mem:=by simp
 obj:=λi h st b hb=>by
  obtain⟨hz,hTI,⟨a,c,hTO⟩,h1,h2⟩:=st;simp only[List.mem_cons,List.not_mem_nil,or_false]at hb;rcases hb with rfl|rfl|rfl|rfl|rfl
  ·exact⟨_,hz,λv e=>by cases e⟩
  ·exact⟨_,hTI,λv e=>by cases e⟩
  ·exact⟨_,hTO,λv e=>by cases e⟩
  ·exact h1.obj
  ·exact h2.obj
 keep:=λi h h' st kk=>by
  obtain⟨hz,hTI,⟨a,c,hTO⟩,h1,h2⟩:=st;exact⟨kk z (by simp) _ hz,kk TI (by simp) _ hTI,⟨a,c,kk TO (by simp) _ hTO⟩,h1.at λo e=>kk i1 (by simp) o e,h2.at λo e=>kk i2 (by simp) o e⟩
 item:=by
  intro X hP hw hK hc i ao s σ H E I hf st hg;subst hP hw hK;obtain⟨xs,ys,x,y,q1,q2,e1,e2⟩:=hg;obtain⟨us,r1,p1,_⟩:=zN I q1;obtain⟨vs,r2,p2,_⟩:=zN I q2;obtain⟨u,eu,ru⟩:=r1.get e1;obtain⟨v,ev,rv⟩:=r2.get e2;refine J9 (x:=u) (y:=v) D st p1 p2 (by simpa using eu) (by simpa using ev) λh' g1 g2 g3 g4 g5 g7=>?_;refine⟨_,rfl,wpAny_letOwnedTupleGo_zip g1 λh2 hz2 c2=>?_⟩;have ne:∀ {b o},s.heap.get? b=some o->s.heap.objs.size≠b:=λe=>Nat.ne_of_gt (Heap.lt_size e)
  have k2:∀ b o,b∉[z,TI,TO,i1,i2]->s.heap.get? b=some o->h2.get? b=some o:=λb o hb e=>by
   simp only[List.mem_cons,List.not_mem_nil,or_false,not_or]at hb;exact c2.extBut _ _ hb.1 (g7 b o hb.1 hb.2.2.1 hb.2.2.2.1 hb.2.2.2.2 e)
  have I2:Inv X ao σ (aQ H s.heap.objs.size (.tup [x,y])) { s with heap:=h2,toks:=s.toks } := Zd I k2 hf (jz _) (by show 2<=sizeLine;decide) (.cons ru (.cons rv .nil)) ⟨_,c2.extBut _ _ (ne st.z) g5,rfl,_,rfl⟩;refine⟨.ref s.heap.objs.size,_,I2,rfl,⟨_,x,y,I.hok.fresh (jz _),rfl,rfl,λxs' q=>?_,λys' q=>?_⟩,?_,λb hb=>?_⟩
  ·rw[LI I q q1];exact e1
  ·rw[LI I q q2];exact e2
  ·exact⟨hz2,c2.extBut _ _ D.TIz (g7 _ _ D.TIz D.TITO D.TIi1 D.TIi2 st.ti),⟨u,v,c2.extBut _ _ D.TOz g2⟩,g3.at λo e=>c2.extBut _ _ D.i1z e,g4.at λo e=>c2.extBut _ _ D.i2z e⟩
  ·have xu:∃ o,s.heap.get? b=some o:=by
    obtain⟨hz,hTI,⟨a,c,hTO⟩,h1,h2⟩:=st;simp only[List.mem_cons,List.not_mem_nil,or_false]at hb;rcases hb with rfl|rfl|rfl|rfl|rfl
    ·exact⟨_,hz⟩
    ·exact⟨_,hTI⟩
    ·exact⟨_,hTO⟩
    ·exact h1.obj.imp λ_ e=>e.1
    ·exact h2.obj.imp λ_ e=>e.1
   obtain⟨o,e⟩:=xu;rw[aL (ne e).symm];exact (hf b hb).1
 done:=by
  intro X hP hw hK hc i ao s σ H E I hf st hg;subst hP hw hK;obtain⟨xs,ys,q1,q2,e⟩:=hg;obtain⟨us,r1,p1,_⟩:=zN I q1;obtain⟨vs,r2,p2,_⟩:=zN I q2;have l1:=r1.length;have l2:=r2.length;refine Nr (I.ok.hd hc) D st p1 p2 (e.imp (λe=>by simp;omega) (λe=>by simp;omega)) λh' kk=>⟨rfl,S0 (t':=s.toks) (ch:=[z,TI,TO,i1,i2]) I (λb o hb e=>?_) hf⟩;simp only[List.mem_cons,List.not_mem_nil,or_false,not_or]at hb;exact kk b o hb.1 hb.2.2.1 hb.2.2.2.1 hb.2.2.2.2 e
 self:=λ_ _ _ _ _ st h=>wpAny_pyIter_zip st.z h
def acr(K:PySem.W.Frag)(ta:TA):TI:=fun σ H R=>ta σ H λvs H1=>∃ k a1 a2 xs ys,vs=[.ref a1,.ref a2]/\LH K k H1 a1 xs/\LH K k H1 a2 ys/\R (Ze K k a1 a2) H1
theorem WI{X:Cx}{x1:Nat}{a b:Expr}{ta:TA}{p:Pos}(hg:Gl X "zip")(hm:X.mg "zip"=none)(ha:PA X [a,b] ta)
  (hs:starEach [a,b] X.env=[(false,eval a X.env),(false,eval b X.env)]:=by rfl) (Nb:starEach [b] X.env=[(false,eval b X.env)]:=by rfl):PI X (.Tuple WH x1 Nf) (.Call (.Name "zip" p) [a,b] [] pos) (acr X.K ta):=by
 intro ao s σ H R I h;refine Call_ (BW I hg hm boot_zip (PyProof.Rows.callWith_type1 (dB (ha pos ao s σ H _ I h) λus s1 ⟨vs,H1,I1,r1,q1⟩=>?_) (by rw[hs,Nb]) (by rw[Nb];rfl)));obtain⟨k,a1,a2,xs,ys,e,q1,q2,q⟩:=q1;subst e;obtain⟨u1,u2,rfl,e1,e2⟩:=r1.two;cases (show u1=Value.ref a1 from e1);cases (show u2=Value.ref a2 from e2);obtain⟨us,rr1,p1,_⟩:=zN I1 q1;obtain⟨ws,rr2,p2,_⟩:=zN I1 q2;have b1:=PV p1;have b2:=PV p2;refine Nt p1 p2 λh' st kk=>wpAny_pyIter_zip st.z ?_;have I2:Inv X ao σ H1 { s1 with heap:=h',toks:=s1.toks }:=I1.kept kk;refine⟨_,_,_,_,H1,rfl,I2,PX (zipApart_new b1 b2),st,λb hb=>?_,q⟩
 have hb':s1.heap.objs.size<=b:=by
  simp only[List.mem_cons,List.not_mem_nil,or_false]at hb;rcases hb with rfl|rfl|rfl|rfl|rfl
  ·exact Nat.le_add_right _ _
  ·exact Nat.le_add_right _ _
  ·exact Nat.le_add_right _ _
  ·exact jz _
  ·exact Nat.le_add_right _ _
 exact I1.OX hb' (I1.hok.fresh hb')
theorem Tc{K:PySem.W.Frag}{k:Bool}{a1:Addr}{xs ys:List V}{g:TG}{tb:TS}{D:Ends}{σ:L2.St}{H:Hp}(Pv:Nat->L2.St->Hp->Prop)(hn:xs.length=ys.length)(h0:Pv 0 σ H)
  (hl:∀ i σ H,i<=xs.length->Pv i σ H->LH K k H a1 xs/\LH K k H a2 ys)
  (hs:∀ i x y p σ H,xs[i]?=some x->ys[i]?=some y->H p=none->Pv i σ H->g (.ref p) σ (aQ H p (.tup [x,y])) fun σ2 H2=>tb { D with nx:=Pv (i+1),ct:=Pv (i+1),bk:=D.nx } σ2 H2) (hd:∀ σ H,Pv xs.length σ H->D.nx σ H) :
  ∃ W:Nat->Nat->L2.St->Hp->Prop,(∃ m,W 0 m σ H)/\∀ i m σ H,W i m σ H->
   ((Ze K k a1 a2).stop i H/\D.nx σ H)\/((Ze K k a1 a2).go i H/\∃ N:L2.St->Hp->Prop,(∀ σ' H',N σ' H'->∃ m',m'<m/\W (i+1) m' σ' H')/\∀ x H',(Ze K k a1 a2).RS i H x H'->g x σ H' fun σ2 H2=>tb { D with nx:=N,ct:=N,bk:=D.nx } σ2 H2):=by
 refine⟨λi m σ H=>m=xs.length-i/\i<=xs.length/\Pv i σ H,⟨xs.length,by simp,Nat.zero_le _,h0⟩,?_⟩;rintro i m σ H ⟨rfl,hi,p⟩;obtain⟨q1,q2⟩:=hl i σ H hi p;by_cases xu:i<xs.length
 ·have acs:i<ys.length:=by omega
  refine .inr ⟨⟨xs,ys,xs[i],ys[i],q1,q2,by simp[xu],by simp[acs]⟩,Pv (i+1),fun σ' H' p'=>⟨xs.length-(i+1),by omega,rfl,xu,p'⟩,λx H' y=>?_⟩;obtain⟨a,x',y',hn',rfl,rfl,e1,e2⟩:=y;exact hs i x' y' a σ _ (e1 xs q1) (e2 ys q2) hn' p
 ·have e:i=xs.length:=by omega
  subst e;exact .inl ⟨⟨xs,ys,q1,q2,.inl (jz _)⟩,hd σ H p⟩
def EJ(lo:Int)(n:Nat):List V:=(List.range n).map λi:Nat=>V.int (lo+i)
section
variable {X:Cx}
theorem HA:pR X (.type "range") (λxs H Q=>∃ i j:Int,xs=[.int i,.int j]/\∀ p,H p=none->Q (.ref p) (aQ H p (.GX i j))):=by
 intro ao s σ H xs us Q I r h;obtain⟨i,j,rfl,q⟩:=h;obtain⟨u1,u2,rfl,⟨t,rfl⟩,⟨t',rfl⟩⟩:=r.two;refine call_range_2 ⟨.ref s.heap.objs.size,_,I.laid (o:=.GX i j) (λb o e=>Heap.get?_push_of_some _ e) (jz _) ⟨t,t',s.toks,Heap.get?_push_size _ rfl⟩,rfl,q _ (I.hok.fresh (jz _))⟩
theorem xC(hc:X.calm=true):pR X (.type "list") (λxs H Q=>∃ p i j,xs=[.ref p]/\H p=some (.GX i j)/\(-(2^62)<=i/\i<2^62/\-(2^62)<=j/\j<2^62)/\(j-i).toNat<=sizeLine/\
  ∀ l,H l=none->Q (.ref l) (aQ H l (.lst (EJ i (j-i).toNat)))):=by
 intro ao s σ H xs us Q I r h;obtain⟨p,i,j,rfl,hp,⟨b1,b2,b3,b4⟩,hz,q⟩:=h;obtain⟨u,rfl,rx⟩:=r.one;cases (show u=Value.ref p from rx);obtain⟨t,u,v,e⟩:=(show iZ X.prog X.w H s.heap p (.GX i j) from I.hok p _ hp)
 have e2:Builtin.Range.rangeSize i j 1=(((j-i).toNat:Nat):Int):=by rw[rangeSize_one];split <;> omega
 have hz':(j-i).toNat<=2^24:=by have:=sizeLine_eq;omega
 refine call_list_range (I.ok.hd hc) e (small_one b1 b2 b3 b4) e2 hz' λh' tk vv c' hk hS fH=>?_;refine⟨.ref s.heap.objs.size,_,I.laid (o:=.lst (EJ i (j-i).toNat)) (t':=tk) hk (jz _) ⟨?_,vv.toList,c',?_,by simpa using hS⟩,rfl,q _ (I.hok.fresh (jz _))⟩
 ·unfold EJ;simpa using hz
 ·have hl:vv.toList.length=(j-i).toNat:=by simpa using fH.1
  have key:∀ (n:Nat) (us:List Value) (lo:Int),us.length=n->(∀ k v,us[k]?=some v->∃ t,v=Value.int (lo+(k:Nat)*1) t)->cG ((List.range n).map λi:Nat=>V.int (lo+i)) us:=by
   intro n
   induction n with
   | zero=>intro us lo hl _;cases us with
    | nil=>exact .nil
    | cons=>simp at hl
   | succ n ih =>
    intro us lo hl hv
    cases us with
    | nil=>simp at hl
    | cons u us =>
     rw[List.range_succ_eq_map,oK,List.map_map];refine .cons ?_ ?_
     ·obtain⟨t,e⟩:=hv 0 u rfl;exact⟨t,by rw[e];simp⟩
     ·have:=ih us (lo+1) (by simpa using hl) λk v e=>by
       obtain⟨t,e'⟩:=hv (k+1) v (by simpa using e);refine⟨t,?_⟩;rw[e'];have:lo+((k+1:Nat):Int)*1=lo+1+(k:Int)*1:=by omega
       rw[this]
      have e3:((λi:Nat=>V.int (lo+i)) ∘ Nat.succ)=λi:Nat=>V.int (lo+1+i):=by
       funext i;simp only[Function.comp,Nat.succ_eq_add_one];have:lo+((i+1:Nat):Int)=lo+1+(i:Int):=by omega
       rw[this]
      rw[e3];exact this
  exact key _ _ i hl λk v e=>fH.2 k v (by simpa using e)
end
section
variable {X:Cx}
theorem PY{j:Int}(h0:0<j)(h1:j<10^70):j.natAbs.log2<9000:=by
 have h:j.natAbs<2^9000:=Nat.lt_trans (show j.natAbs<10^70 by omega) (by decide +kernel);exact (Nat.log2_lt (by omega)).mpr h
theorem HB:yv X (binaryOp .FloorDiv) (rI (λ_ j=>0<j/\j<10^70) λi j=>.int (i / j)):=opI λi j _ _ _ _ _ hc q=>by
 have h1:(0:Int)<j:=hc.1;exact floordiv_int (by omega) (by rw[Int.fdiv_eq_ediv_of_nonneg i (by omega)];exact q) (.inl (PyProof.noPylong_of_log2 (PY hc.1 hc.2)))
theorem HC(hc:X.calm=true):pR X (.builtin "sum") (λxs H Q=>∃ (p:Addr) (ns:List Int),xs=[.ref p]/\bR X.K H p (ns.map V.int)/\Q (.int ns.sum) H):=by
 intro ao s σ H xs us Q I r h;obtain⟨p,ns,rfl,hq,q⟩:=h;obtain⟨u,rfl,rx⟩:=r.one;cases (show u=Value.ref p from rx);obtain⟨aP,rv,pl,hz⟩:=I.list hq;have hi:IntsAre aP ns:=intsAre_of rv;have Pp:AllInts aP.toArray:=hi.allInts;obtain⟨zs,ez⟩:=Pp.items;have hl:=pl.isList;have es:(numsOf aP.toArray.toList).sum=ns.sum:=by rw[show aP.toArray.toList=aP from rfl,hi.numsOf]
 rw[ez]at hl es;rw[nums_intItems]at es;refine PySem.sum_intListG (I.ok.hd hc) hl λh' tk t' hk=>⟨.int ns.sum,H,I.kept hk,⟨t',?_⟩,q⟩;rw[preSum_eq,xP (by simp),es]
end
end dF
namespace jE
abbrev Row:=List (Int × Int)
def lV(t:Row)(s e:Int):Row :=
 match t.getLast? with
 | some p=>if p.2=s then t.dropLast++[(p.1,e)] else t++[(s,e)]
 | none=>t++[(s,e)]
def gB(t:Row)(p:Int × Int):Row:=if p.1=p.2 then t else lV t p.1 p.2
def cJ(r:Row):Row:=r.foldl gB []
def run(s:Int):Nat->List Int
 | 0=>[]
 | n+1=>s::run (s+1) n
def oE(p:Int × Int):List Int:=run p.1 (p.2-p.1).toNat
def bW(r:Row):List Int:=r.flatMap oE
def cU(ns:List Int):Row:=ns.foldl (λt n=>lV t n (n+1)) []
theorem jN(s:Int)(n:Nat):(run s n).length=n:=by
 induction n generalizing s with
 | zero=>rfl
 | succ n ih=>simp[run,ih]
theorem rG(s e:Int):lV [] s e=[(s,e)]:=rfl
theorem rH(t:Row){q:Int × Int}{s:Int}{e:Int}(h:q.2=s):lV (t++[q]) s e=t++[(q.1,e)]:=by
 simp[lV,h]
theorem rJ(t:Row){q:Int × Int}{s:Int}{e:Int}(h:¬ q.2=s):lV (t++[q]) s e=t++[q]++[(s,e)]:=by
 simp[lV,h]
theorem Nu(t:Row)(a s e:Int):lV (t++[(a,s)]) s e=t++[(a,e)]:=by
 simp[lV]
theorem Cj(t:Row)(a s:Int)(n:Nat):(run s n).foldl (λt n=>lV t n (n+1)) (t++[(a,s)])=t++[(a,s+n)]:=by
 induction n generalizing s with
 | zero=>simp[run]
 | succ n ih =>
  rw[run,qZ,Nu,ih];have:s+1+(n:Int)=s+((n+1:Nat):Int):=by omega
  rw[this]
theorem PZ(t:Row)(p:Int × Int)(h:p.1<=p.2):gB t p=(oE p).foldl (λt n=>lV t n (n+1)) t:=by
 obtain⟨s,e⟩:=p;simp only at h;unfold gB oE;by_cases he:s=e
 ·subst he;simp[run]
 ·obtain⟨n,hn⟩:∃ n:Nat,e=s+1+n:=⟨(e-s-1).toNat,by omega⟩;subst hn;rw[if_neg he];have h2:((s,s+1+(n:Int)).2-(s,s+1+(n:Int)).1).toNat=n+1:=by simp only;omega
  rw[h2,run,qZ];simp only;rcases uz t with rfl|⟨u,q,rfl⟩
  ·rw[rG,rG];exact (Cj [] s (s+1) n).symm
  ·by_cases hq:q.2=s
   ·rw[sG,rH u hq,rH u hq,Cj]
   ·rw[sG,rJ u hq,rJ u hq,Cj]
theorem rK{α β γ:Type}(f:γ->β->γ)(g:α->List β):∀ (l:List α) (c:γ),(l.flatMap g).foldl f c=l.foldl (λc a=>(g a).foldl f c) c
 | [],_=>rfl
 | a::l,c=>by rw[mZ,List.foldl_append,qZ,rK f g l]
theorem Ck(r:Row)(h:∀ p∈r,p.1<=p.2):cJ r=cU (bW r):=by
 unfold cJ cU bW;rw[rK]
 have key:∀ (r:Row),(∀ p∈r,p.1<=p.2)->∀ t:Row,r.foldl gB t=r.foldl (λc a=>(oE a).foldl (λt n=>lV t n (n+1)) c) t:=by
  intro r
  induction r with
  | nil=>intro _ t;rfl
  | cons p r ih =>
   intro h t;rw[qZ,qZ,PZ t p (h p (yC ..))];exact ih (λq hq=>h q (sF _ hq)) _
 exact key r h []
theorem AO(t:Row)(s e:Int):(lV t s e).length<=t.length+1:=by
 rcases uz t with rfl|⟨u,q,rfl⟩
 ·rw[rG];simp
 ·by_cases hq:q.2=s
  ·rw[sG,rH u hq];simp
  ·rw[sG,rJ u hq];simp
theorem foldl_take_succ{α β:Type}(f:β->α->β)(l:List α)(b:β)(i:Nat)(x:α)(h:l[i]?=some x):(l.take (i+1)).foldl f b=f ((l.take i).foldl f b) x:=by
 rw[List.take_add_one,h,List.foldl_append];rfl
end jE
namespace jE
def kU(r:Row):Int:=(r.map λp=>p.2-p.1).sum
theorem Td:kU []=0:=rfl
theorem HD(p:Int × Int)(r:Row):kU (p::r)=(p.2-p.1)+kU r:=by simp[kU]
theorem P0(r:Row)(p:Int × Int):kU (r++[p])=kU r+(p.2-p.1):=by simp[kU]
theorem Cm(r q:Row):kU (r++q)=kU r+kU q:=by simp[kU]
theorem take_snoc{α:Type}{l:List α}{i:Nat}{x:α}(h:l[i]?=some x):l.take (i+1)=l.take i++[x]:=by rw[List.take_add_one,h];rfl
end jE
namespace jE
theorem Cn(s:Int)(n:Nat):run s (n+1)=run s n++[s+n]:=by
 induction n generalizing s with
 | zero=>simp[run]
 | succ n ih =>
  rw[run,ih,run];have:s+1+(n:Int)=s+((n+1:Nat):Int):=by omega
  rw[this];rfl
theorem EK{a n:Int}(h:a<=n):oE (a,n+1)=oE (a,n)++[n]:=by
 unfold oE;have e:((a,n+1).2-(a,n+1).1).toNat=((a,n).2-(a,n).1).toNat+1:=by simp only;omega
 rw[e,Cn];have:a+((((a,n).2-(a,n).1).toNat:Nat):Int)=n:=by simp only;omega
 simp only at this ⊢;rw[this]
theorem HE(n:Int):oE (n,n+1)=[n]:=by
 have:=EK (a:=n) (n:=n) (Int.le_refl _);rw[this];have e:oE (n,n)=[]:=by unfold oE;simp[run]
 rw[e];rfl
theorem dz(r q:Row):bW (r++q)=bW r++bW q:=by unfold bW;rw[List.flatMap_append]
theorem jA(p:Int × Int):bW [p]=oE p:=by simp[bW]
theorem Kc(t:Row)(n:Int)(h:∀ p∈t,p.1<=p.2):bW (lV t n (n+1))=bW t++[n]:=by
 rcases uz t with rfl|⟨u,q,rfl⟩
 ·rw[rG,jA,HE];rfl
 ·rw[sG]at h ⊢;by_cases hq:q.2=n
  ·obtain⟨a,b⟩:=q;simp only at hq;subst hq;have hb:a<=b:=h (a,b) (by simp);rw[rH u rfl,dz,dz,jA,jA,EK hb,tX]
  ·rw[rJ u hq,dz,jA,HE]
theorem LJ(t:Row)(n:Int)(h:∀ p∈t,p.1<=p.2):∀ p∈lV t n (n+1),p.1<=p.2:=by
 rcases uz t with rfl|⟨u,q,rfl⟩
 ·rw[rG];intro p hp;simp at hp;subst hp;show n<=n+1;omega
 ·rw[sG]at h ⊢;by_cases hq:q.2=n
  ·rw[rH u hq];intro p hp;rcases List.mem_append.mp hp with z|z
   ·exact h p (xR _ z)
   ·simp at z;subst z;have:=h q (by simp);show q.1<=n+1;omega
  ·rw[rJ u hq];intro p hp;rcases List.mem_append.mp hp with z|z
   ·exact h p z
   ·simp at z;subst z;show n<=n+1;omega
theorem jH(ns:List Int):bW (cU ns)=ns:=by
 have key:∀ (ns:List Int) (t:Row),(∀ p∈t,p.1<=p.2)->bW (ns.foldl (λt n=>lV t n (n+1)) t)=bW t++ns:=by
  intro ns
  induction ns with
  | nil=>intro t _;simp
  | cons n ns ih =>
   intro t h;rw[qZ,ih _ (LJ t n h),Kc t n h,tX];rfl
 have:=key ns [] (λp hp=>by cases hp);simpa [cU,bW] using this
theorem ua(ns:List Int):∀ p∈cU ns,p.1<=p.2:=by
 have key:∀ (ns:List Int) (t:Row),(∀ p∈t,p.1<=p.2)->∀ p∈ns.foldl (λt n=>lV t n (n+1)) t,p.1<=p.2:=by
  intro ns
  induction ns with
  | nil=>intro t h;exact h
  | cons n ns ih=>intro t h;exact ih _ (LJ t n h)
 exact key ns [] (λp hp=>by cases hp)
end jE
namespace jE
theorem AQ(p:Int × Int)(h:p.1<=p.2):((oE p).length:Int)=p.2-p.1:=by
 unfold oE;rw[jN];omega
theorem wI:∀ (r:Row),(∀ p∈r,p.1<=p.2)->((bW r).length:Int)=kU r
 | [],_=>rfl
 | p::r,h=>by
  have ih:=wI r λq hq=>h q (sF _ hq);have hp:=AQ p (h p (yC ..));have e:bW (p::r)=oE p++bW r:=rfl;rw[e,dX,HD];omega
end jE
namespace jE
open L2 dF
structure aF(K:PySem.W.Frag)(mg:Str->Option Value)(x:Str)(st:Stmt)(ps:List Str)(a:Addr)(d:FuncData):Prop where
 F:iK K x x st a d
 b:Binds K d ps []
 m:mg x=some (.ref a)
section
variable {X:Cx}
theorem aK{x:Str}{st:Stmt}{ps:List Str}{f:Addr}{j k:Nat}{sp:Sp}{e:Expr}{es:List Expr}{t:TA}{p pos:Pos}(d:aF X.K X.mg x st ps f fd)(G:aC X.prog X.w X.K X.mg X.base bZ k f fd ps sp)(hr:lg j X.A)
  (ha:PA X (e::es) t) (Te:k<=j:=by first|decide|omega) (hg:Gl X x:=by rfl) (Ho:(x == ("__debug__":Str))=false:=by decide) (he:starEach (e::es) X.env=(false,eval e X.env)::starEach es X.env:=by rfl)
  (DA:(backTo pos (starEach es X.env)).any (·.1)=false:=by rfl):PE X (.Call (.Name x p) (e::es) [] pos) (Hl sp [] E0 t) :=
 FE G (hr.mono Te) hg d.m d.F.kp d.b .nil dh ha Ho he DA
theorem Kd{st:Stmt}{t t':TS}(h:PS X st t)(hi:∀ D σ H,t' D σ H->t D σ H):PS X st t':=λao s σ H D I q=>h ao s σ H D I (hi D σ H q)
end
def cY(l:Addr)(H H':Hp):Prop:=∀ a o,H a=some o->a≠l->H' a=some o
theorem aG.keep{H H':Hp}(s:aG H H'):cY l H H':=λa o e _=>s a o e
theorem cY.trans{H H1 H2:Hp}(a:cY l H H1)(b:cY l H1 H2):cY l H H2:=λc o e n=>b c o (a c o e n) n
theorem aN(l:Addr)(H:Hp)(o:HO):cY l H (aQ H l o):=λa u e n=>by rw[aL n];exact e
theorem bV{H H1 H2:Hp}(h:H l=none)(a:aG H H1)(b:cY l H1 H2):aG H H2:=λc o e=>b c o (a c o e) (az e h)
theorem ak{H:Hp}{p:Addr}(h:H p=none)(o:HO):aG H (aQ H p o):=λb u q=>by rw[aL (az q h)];exact q
theorem mX{a:Addr}{H H':Hp}(k:cY l H H')(n:a≠l)(h:H' a=none):H a=none:=by
 cases q:H a with
 | none=>rfl
 | some o=>rw[k a o q n]at h;cases h
def jB(H:Hp)(l c:Addr):Prop:=c≠l/\∃ (ns:List Int) (i d r:Int),H l=some (.lst [.ref c,.int i,.int d,.int r])/\H c=some (.lst (ns.map V.int))/\0<=i/\0<=r/\r<2147483647
theorem jB.same{H H':Hp}{c:Addr}(s:jB H l c)(k:aG H H'):jB H' l c:=by
 obtain⟨n,ns,i,d,r,h1,h2,h3⟩:=s;exact⟨n,ns,i,d,r,k _ _ h1,k _ _ h2,h3⟩
theorem jB.ne{H:Hp}{c a:Addr}(s:jB H l c)(h:H a=none):l≠a/\c≠a:=by
 obtain⟨n,ns,i,d,r,e1,e2,h3⟩:=s;exact⟨az e1 h,az e2 h⟩
theorem Zf{a b c d:V}:wC [a,b,c,d] 0=some a:=rfl
theorem WJ{a b c d:V}:wC [a,b,c,d] 1=some b:=rfl
theorem Tf{a b c d:V}:wC [a,b,c,d] 2=some c:=rfl
theorem Zg{a b c d:V}:wC [a,b,c,d] 3=some d:=rfl
theorem Zh{a b:V}:wC [a,b] 0=some a:=rfl
theorem Zi{a b:V}:wC [a,b] 1=some b:=rfl
inductive xZ(vs:List V)(H:Hp)(Q:VK)(E:XK):Prop
 | mk (l c:Addr) (b:Int) (_:vs=[.ref l,.int b]) (_:jB H l c) (_:0<b) (_:b<10^70) (_ :
 ∀ (v:Int) (H':Hp),0<=v->v<b->jB H' l c->(∀ a,a≠l->H' a=H a)->Q (.int v) H'):xZ vs H Q E
inductive UY(K:PySem.W.Frag)(vs:List V)(H:Hp)(Q:VK)(E:XK):Prop
 | mk (a:Addr) (ns:List Int) (_:vs=[.ref a]) (_:bR K H a (ns.map V.int)) (_ :
 ∀ (l c:Addr) (H':Hp),jB H' l c->aG H H'->H l=none->H c=none->Q (.ref l) H')
def acu:V->Bool
 | .int _ | .bl _ | .str _ | .jm=>true
 | _=>false
def P1(k:Bool)(H:Hp)(a:Addr)(xs:List V):Prop:=match k with
 | true=>H a=some (.lst xs)
 | false=>H a=some (.tup xs)
theorem P1.same{k:Bool}{H H':Hp}{a:Addr}{xs:List V}(h:P1 k H a xs)(s:aG H H'):P1 k H' a xs:=by
 cases k
 ·exact s _ _ h
 ·exact s _ _ h
theorem P1.sq{K:PySem.W.Frag}{k:Bool}{H:Hp}{a:Addr}{xs:List V}(h:P1 k H a xs):LH K k H a xs:=by
 cases k
 ·exact ef.of h
 ·exact bR.of h
def Eqv(H:Hp):Nat->V->V->Prop
 | 0,_,_=>False
 | n+1,x,y=>(acu x=true/\x=y)\/∃ (k:Bool) (a b:Addr) (xs ys:List V),x=.ref a/\y=.ref b/\P1 k H a xs/\P1 k H b ys/\xs.length=ys.length/\
   ∀ (i:Nat) (u v:V),xs[i]?=some u->ys[i]?=some v->Eqv H n u v
theorem Eqv.same{H H':Hp}(s:aG H H'):∀ {n:Nat} {x y:V},Eqv H n x y->Eqv H' n x y
 | 0,_,_,h=>h
 | n+1,x,y,h=>by
  rcases h with h|⟨k,a,b,xs,ys,e1,e2,h1,h2,hl,hi⟩
  ·exact .inl h
  ·exact .inr ⟨k,a,b,xs,ys,e1,e2,h1.same s,h2.same s,hl,λi u v eu ev=>Eqv.same s (hi i u v eu ev)⟩
theorem Eqv.int{H:Hp}{n:Nat}(i:Int):Eqv H (n+1) (.int i) (.int i):=.inl ⟨rfl,rfl⟩
def zO(n:Nat):Sp:=λvs H Q _=>∃ x y,vs=[x,y]/\Eqv H n x y/\∀ H',aG H H'->Q (.bl true) H'
inductive LK(vs:List V)(H:Hp)(Q:VK)(E:XK):Prop
 | mk (i:Int) (_:vs=[.int i]) (_:Q (.bl true) H)
section
variable (K:PySem.W.Frag)
theorem Zj:PySem.W.kitOne K (.type "bool") (.type "bool")=some true:=by rfl
theorem Zk:PySem.W.kitOne K (.type "int") (.type "bool")=some false:=by kernel_rfl
theorem Zl:PySem.W.kitOne K (.type "int") (.type "int")=some true:=by rfl
theorem acv:PySem.W.kitOne K (.type "str") (.type "bool")=some false:=by kernel_rfl
theorem acw:PySem.W.kitOne K (.type "str") (.type "int")=some false:=by kernel_rfl
theorem Zm:PySem.W.kitOne K (.type "str") (.type "str")=some true:=by rfl
theorem acy:PySem.W.kitOne K (.type "list") (.type "bool")=some false:=by kernel_rfl
theorem acz:PySem.W.kitOne K (.type "list") (.type "int")=some false:=by kernel_rfl
theorem acA:PySem.W.kitOne K (.type "list") (.type "str")=some false:=by kernel_rfl
theorem Zn:PySem.W.kitOne K (.type "list") (.type "list")=some true:=by rfl
theorem k_lt:PySem.W.kitOne K (.type "list") (.type "tuple")=some false:=by kernel_rfl
theorem acB:PySem.W.kitOne K (.type "tuple") (.type "bool")=some false:=by kernel_rfl
theorem acC:PySem.W.kitOne K (.type "tuple") (.type "int")=some false:=by kernel_rfl
theorem acD:PySem.W.kitOne K (.type "tuple") (.type "str")=some false:=by kernel_rfl
theorem acE:PySem.W.kitOne K (.type "tuple") (.type "list")=some false:=by kernel_rfl
theorem acF:PySem.W.kitOne K (.type "tuple") (.type "tuple")=some true:=by rfl
end
def X7(k:Bool):Value:=.type (if k then "list" else "tuple")
theorem P1.ty{K:PySem.W.Frag}{k:Bool}{H:Hp}{a:Addr}{xs:List V}(h:P1 k H a xs):pS K H (.ref a) (X7 k):=by
 cases k
 ·exact pS.tup h
 ·exact pS.lst h
theorem acG(K:PySem.W.Frag)(k:Bool):PySem.W.kitOne K (X7 k) (.type "bool")=some false:=by cases k;exact acB K;exact acy K
theorem acH(K:PySem.W.Frag)(k:Bool):PySem.W.kitOne K (X7 k) (.type "int")=some false:=by cases k;exact acC K;exact acz K
theorem acI(K:PySem.W.Frag)(k:Bool):PySem.W.kitOne K (X7 k) (.type "str")=some false:=by cases k;exact acD K;exact acA K
theorem Zo(K:PySem.W.Frag)(k:Bool):PySem.W.kitOne K (X7 k) (.type "list")=some k:=by cases k;exact acE K;exact Zn K
theorem Zp(K:PySem.W.Frag)(k:Bool):PySem.W.kitOne K (X7 k) (.type "tuple")=some (!k):=by cases k;exact acF K;exact k_lt K
def zP(H:Hp)(a:Addr)(p:Int × Int):Prop:=H a=some (.tup [.int p.1,.int p.2])
abbrev bS(H:Hp):List Addr->Row->Prop:=Paired (zP H)
inductive cL(H:Hp)(r:Addr)(row:Row):Prop
 | mk (as:List Addr) (_:H r=some (.lst (as.map V.ref))) (_:bS H as row)
theorem bS.tups{H H':Hp}{as:List Addr}{row:Row}(h:bS H as row)(t:∀ a xs,H a=some (.tup xs)->H' a=some (.tup xs)):bS H' as row:=Paired.JM h λa p e=>t a _ e
theorem bS.same{H H':Hp}{as:List Addr}{row:Row}(h:bS H as row)(s:aG H H'):bS H' as row:=h.tups λa xs e=>s a _ e
theorem cL.same{H H':Hp}{r:Addr}{row:Row}(h:cL H r row)(s:aG H H'):cL H' r row:=by
 obtain⟨as,h1,h2⟩:=h;exact⟨as,s _ _ h1,h2.same s⟩
theorem bS.keep{H H':Hp}{as:List Addr}{row:Row}{xs:List V}(h:bS H as row)(hl:H l=some (.lst xs))(s:cY l H H'):bS H' as row :=
 h.tups λa ys e=>s a _ e (eL e hl)
theorem cL.keep{H H':Hp}{r:Addr}{row:Row}{xs:List V}(h:cL H r row)(hl:H l=some (.lst xs))(n:r≠l)(s:cY l H H'):cL H' r row:=by
 obtain⟨as,h1,h2⟩:=h;exact⟨as,s _ _ h1 n,h2.keep hl s⟩
theorem bS.get{H:Hp}:∀ {as:List Addr} {row:Row} {i:Nat} {a:Addr},bS H as row->as[i]?=some a->∃ p,row[i]?=some p/\zP H a p
 | _,_,_,_,.nil,e=>by simp at e
 | _,_,0,_,.cons r _,e=>by simp at e;subst e;exact⟨_,rfl,r⟩
 | _,_,i+1,a,.cons _ t,e=>by
  obtain⟨p,h1,h2⟩:=bS.get (i:=i) (a:=a) t (by simpa using e);exact⟨p,by simpa using h1,h2⟩
theorem bS.snoc{H:Hp}{as:List Addr}{row:Row}{a:Addr}{p:Int × Int}(h:bS H as row)(e:zP H a p):bS H (as++[a]) (row++[p]):=by
 induction h with
 | nil=>exact .cons e .nil
 | cons r _ ih=>exact .cons r ih
theorem bS.split{H:Hp}:∀ {as:List Addr} {row:Row} {p:Int × Int},bS H as (row++[p])->∃ bs a,as=bs++[a]/\bS H bs row/\zP H a p
 | as,[],p,h=>by
  cases h with
  | cons r t=>cases t;exact⟨[],_,rfl,.nil,r⟩
 | as,q::row,p,h=>by
  cases h with
  | cons r t =>
   obtain⟨bs,a,rfl,h1,h2⟩:=bS.split (row:=row) (p:=p) t;exact⟨_::bs,a,rfl,.cons r h1,h2⟩
theorem bS.len{H:Hp}{as:List Addr}{row:Row}(h:bS H as row):as.length=row.length:=Paired.length h
theorem cL.eqv{H:Hp}{r q:Addr}{row:Row}(h:cL H r row)(g:cL H q row)(n:Nat):Eqv H (n+3) (.ref r) (.ref q):=by
 obtain⟨as,h1,h2⟩:=h;obtain⟨bs,g1,g2⟩:=g;refine .inr ⟨true,r,q,_,_,rfl,rfl,h1,g1,by rw[cS,cS,h2.len,g2.len],λi u v eu ev=>?_⟩;rw[j3]at eu ev;obtain⟨a,ea,rfl⟩:=Option.map_eq_some_iff.mp eu;obtain⟨b,eb,rfl⟩:=Option.map_eq_some_iff.mp ev;obtain⟨p,e1,k1⟩:=h2.get ea;obtain⟨p',e2,k2⟩:=g2.get eb;rw[e1]at e2;cases e2;refine .inr ⟨false,a,b,_,_,rfl,rfl,k1,k2,rfl,λj u v eu ev=>?_⟩;rw[eu]at ev;cases ev
 match j,eu with
 | 0,eu=>cases eu;exact Eqv.int _
 | 1,eu=>cases eu;exact Eqv.int _
theorem iO{α:Type}(xs:List α)(v:α):wC (xs++[v]) (-1)=some v:=Pd xs v
theorem Co(n:Nat):Lv (n+1) (-1)=some n:=by
 unfold Lv;rw[if_neg (by decide),if_pos (by omega)];congr 1;omega
theorem Cp{α:Type}(xs:List α)(a b:α):(xs++[a]).set xs.length b=xs++[b]:=by
 simp
theorem Cq(lo:Int)(n:Nat):EJ lo n=(run lo n).map V.int:=by
 unfold EJ
 induction n generalizing lo with
 | zero=>rfl
 | succ n ih =>
  rw[List.range_succ_eq_map,oK,List.map_map,run,oK,← ih (lo+1)];congr 1
  ·simp
  ·apply List.map_congr_left;intro i _;simp only[Function.comp,Nat.succ_eq_add_one];congr 1;omega
inductive LL(lim:Nat)(vs:List V)(H:Hp)(Q:VK)(E:XK):Prop
 | mk (r:Addr) (row:Row) (_:vs=[.ref r]) (_:cL H r row) (_:(∀ p∈row,0<=p.1/\p.1<=p.2/\p.2<2^62)) (_:(bW row).length<=1000000) (_:row.length<=lim) (_ :
 ∀ (n:Addr) (H':Hp),H' n=some (.lst ((bW row).map V.int))->aG H H'->H n=none->Q (.ref n) H')
inductive LN(vs:List V)(H:Hp)(Q:VK)(E:XK):Prop
 | mk (n:Addr) (ns:List Int) (_:vs=[.ref n]) (_:H n=some (.lst (ns.map V.int))) (_:ns.length<=1000000) (_ :
 ∀ (r:Addr) (H':Hp),cL H' r (cU ns)->aG H H'->H r=none->Q (.ref r) H')
inductive BD(vs:List V)(H:Hp)(Q:VK)(E:XK):Prop
 | mk (r:Addr) (row:Row) (_:vs=[.ref r]) (_:cL H r row) (_:row.length<=1000000) (_ :
 ∀ (q:Addr) (H':Hp),cL H' q (cJ row)->aG H H'->H q=none->Q (.ref q) H')
theorem aX{n:Nat}(h:n<=1000001):n<sizeLine:=Nat.lt_of_le_of_lt h (by decide)
end jE
namespace jE
open L2 dF
def WK:TS:=λD σ H=>∃ (l c:Addr) (b:Int),σ=[some (.ref l),some (.int b),none,none]/\jB H l c/\
 ∀ (cell:Option V) (H':Hp),jB H' l c->(∀ a,a≠l->H' a=H a)->D.nx [some (.ref l),some (.int b),cell,none] H'
def WL:TS:=λD σ H=>∃ (l c:Addr) (b:Int),σ=[some (.ref l),some (.int b),some (.int 7),none]/\jB H l c/\
 ∀ (cell:Int) (H':Hp),jB H' l c->(∀ a,a≠l->H' a=H a)->D.nx [some (.ref l),some (.int b),some (.int cell),none] H'
theorem Tg{ns:List Int}{i:Int}(h0:0<=i)(h1:i<(ns.length:Int)):∃ v:Int,wC (ns.map V.int) i=some (.int v):=by
 have hk:i.toNat<ns.length:=by omega
 refine⟨ns[i.toNat],?_⟩
 have q:wC (ns.map V.int) ((i.toNat:Nat):Int)=some (.int ns[i.toNat]):=gH (by rw[j3,oJ hk] <;> rfl)
 have ei:((i.toNat:Nat):Int)=i:=by omega
 rw[ei]at q;exact q
theorem P4(ns:List Int)(lo hi:Option Int):∃ ms:List Int,pT (ns.map V.int) lo hi=ms.map V.int:=by
 unfold pT;refine⟨(ns.drop (HT.jD (ns.map V.int).length 0 lo)).take (HT.jD (ns.map V.int).length (ns.map V.int).length hi-HT.jD (ns.map V.int).length 0 lo),?_⟩;rw[List.map_take,List.map_drop]
theorem tt{p:Prop} [Decidable p] {Q:V->Hp->Prop} {H:Hp} (hp:p) (h:Q (.bl true) H):Q (.bl (decide p)) H:=by
 rw[decide_eq_true hp];exact h
theorem P1.or{K:PySem.W.Frag}{k:Bool}{H:Hp}{a:Addr}{xs:List V}(h:P1 k H a xs):bR K H a xs\/ef K H a xs:=by
 cases k
 ·exact .inr (ef.of h)
 ·exact .inl (bR.of h)
theorem eE{H H':Hp}(k:∀ a,a≠l->H' a=H a):cY l H H':=λa o e n=>by rw[k a n];exact e
end jE
namespace jE
open L2 dF
theorem jB.lst{H:Hp}{l c:Addr}(s:jB H l c):∃ xs,H l=some (.lst xs):=by
 obtain⟨n,ns,i,d,r,e1,_⟩:=s;exact⟨_,e1⟩
end jE
namespace dF
open PySem.Spec PyProof.Rows L2
section
variable {prog:Program} {w:World} {A:Around} {R:Result->Shared->Prop} {s:Shared}
def wJ(oF:List Expr)(env:Env):Sem Bool:=forIn oF true λc r=>if r=true then do let ok ← isTrue c env (eval c env);pure (ForInStep.yield ok) else pure (ForInStep.yield r)
theorem Nv{iter:Expr}{scope:Scope}{it acc:Value}{env:Env}(I:Nat->Shared->Prop)
  (xS:∀ n s,I n s->wpAny (model prog w) A (pyNext it) (λr s₁=>match r with
   | none=>R (.ok .next) s₁
   | some v=>wpAny (model prog w) A (letOwnedTupleGo zD it v) (λ_ s₂=>wpAny (model prog w) A (assign zD env v) (λ_ s₃ =>
     wpAny (model prog w) A (wJ oF env) (λok s₄ =>
      if ok=true then wpAny (model prog w) A (eval pG env) (λx s₅=>wpAny (model prog w) A (call (.builtin "list.append") [acc,x]) (λ_ s₆=>∃ m,m<n/\I m s₆) (λ_ _=>False) s₅) (λ_ _=>False) s₄
      else ∃ m,m<n/\I m s₄) (λ_ _=>False) s₃) (λ_ _=>False) s₂) (λ_ _=>False) s₁) (λ_ _=>False) s)
  (n:Nat) (h:I n s):codeAny (model prog w) A (.compLoop (.ListComp pG [⟨zD,iter,oF,0⟩] scope pos) 0 it acc env) R s:=by
 refine codeAny_loop rfl I (λn s hI=>?_) n h;show wpAny _ A ((compTurn (.ListComp pG [⟨zD,iter,oF,0⟩] scope pos) 0 it acc env).onRaise (λx=>do noteFrame x env;theTreesLotGoes x)) _ _ s;refine wpAny_noted ?_;rw[compTurn_list];refine wpAny_bind (wpAny_standAt (wpAny_bind (wpAny_mono (xS n s hI) (λr s₁ h₁=>?_) λ_ _ h'=>h'.elim)))
 cases r with
 | none=>exact wpAny_pure h₁
 | some v =>
  refine wpAny_bind (wpAny_mono h₁ (λ_ s₂ h₂=>wpAny_bind (wpAny_mono h₂ (λ_ s₃ h₃=>wpAny_bind (wpAny_mono h₃ (λok s₄ h₄=>?_) λ_ _ h'=>h'.elim)) λ_ _ h'=>h'.elim)) λ_ _ h'=>h'.elim)
  cases ok with
  | false=>exact wpAny_pure ⟨rfl,h₄⟩
  | true=>exact wpAny_bind (wpAny_bind (wpAny_mono h₄ (λx s₅ h₅=>wpAny_bind (wpAny_mono h₅ (λ_ s₆ h₆=>wpAny_pure (wpAny_pure ⟨rfl,h₆⟩)) λ_ _ h'=>h'.elim)) λ_ _ h'=>h'.elim))
end
section
variable {X:Cx} {N:List Str} {scope:Scope}
def Ny(X:Cx)(oF:List Expr)(t:TT):Prop :=
 ∀ (ao:List (Addr × Obj)) (s:Shared) (σ:L2.St) (H:Hp) (Q:Bool->Hp->Prop),Inv X ao σ H s->t σ H Q->wpAny (model X.prog X.w) X.A (wJ oF X.env) (TP X ao σ Q) X.xe s
def P5:TT:=λ_ H Q=>Q true H
theorem mF:Ny X [] P5:=λao s σ H Q I h=>wpAny_tests_nil ⟨H,I,h⟩
theorem LO{c:Expr}{t:TT}(h:PT X c t):Ny X [c] t:=λao s σ H Q I q=>wpAny_tests_one (h ao s σ H Q I q)
end
end dF
namespace dF
open PySem.Spec PyProof.Rows L2
end dF
namespace dF
open PySem.Spec PyProof.Rows L2
section
variable {prog:Program} {w:World} {A:Around} {R:Result->Shared->Prop} {s:Shared}
theorem Th(pG tg iter vC eV:Expr)(oF mP:List Expr)(scope:Scope)(pos:Pos)(it acc:Value)(env:Env) :
  compTurn (.ListComp pG [⟨tg,iter,oF,0⟩,⟨vC,eV,mP,0⟩] scope pos) 1 it acc env=(do
   standAt eV.pos
   match ← pyNext it with
   | none=>pure (.done .next)
   | some v =>
    letOwnedTupleGo vC it v
    assign vC env v
    let ok ← wJ mP env
    if ok then (do let _ ← call (.builtin "list.append") [acc,← eval pG env])
    again (.compLoop (.ListComp pG [⟨tg,iter,oF,0⟩,⟨vC,eV,mP,0⟩] scope pos) 1 it acc env)):=by rfl
theorem P6(pG tg iter vC eV:Expr)(oF mP:List Expr)(scope:Scope)(pos:Pos)(it acc:Value)(env:Env) :
  compTurn (.ListComp pG [⟨tg,iter,oF,0⟩,⟨vC,eV,mP,0⟩] scope pos) 0 it acc env=(do
   standAt iter.pos
   match ← pyNext it with
   | none=>pure (.done .next)
   | some v =>
    letOwnedTupleGo tg it v
    assign tg env v
    let ok ← wJ oF env
    if ok then
     let x ← eval eV env
     standAt eV.pos
     let x ← foldedSetIterable eV env x
     let _ ← runOwn (.compStart (.ListComp pG [⟨tg,iter,oF,0⟩,⟨vC,eV,mP,0⟩] scope pos) 1 (← holding [x] (pyIter x)) acc env) env
    again (.compLoop (.ListComp pG [⟨tg,iter,oF,0⟩,⟨vC,eV,mP,0⟩] scope pos) 0 it acc env)):=by rfl
theorem WM{iter:Expr}{scope:Scope}{it acc:Value}{env:Env}(I:Nat->Shared->Prop)
  (xS:∀ n s,I n s->wpAny (model prog w) A (pyNext it) (λr s₁=>match r with
   | none=>R (.ok .next) s₁
   | some v=>wpAny (model prog w) A (letOwnedTupleGo vC it v) (λ_ s₂=>wpAny (model prog w) A (assign vC env v) (λ_ s₃ =>
     wpAny (model prog w) A (wJ mP env) (λok s₄ =>
      if ok=true then wpAny (model prog w) A (eval pG env) (λx s₅=>wpAny (model prog w) A (call (.builtin "list.append") [acc,x]) (λ_ s₆=>∃ m,m<n/\I m s₆) (λ_ _=>False) s₅) (λ_ _=>False) s₄
      else ∃ m,m<n/\I m s₄) (λ_ _=>False) s₃) (λ_ _=>False) s₂) (λ_ _=>False) s₁) (λ_ _=>False) s)
  (n:Nat) (h:I n s):codeAny (model prog w) A (.compLoop (.ListComp pG [⟨tg,iter,oF,0⟩,⟨vC,eV,mP,0⟩] scope pos) 1 it acc env) R s:=by
 refine codeAny_loop rfl I (λn s hI=>?_) n h;show wpAny _ A ((compTurn (.ListComp pG [⟨tg,iter,oF,0⟩,⟨vC,eV,mP,0⟩] scope pos) 1 it acc env).onRaise (λx=>do noteFrame x env;theTreesLotGoes x)) _ _ s;refine wpAny_noted ?_;rw[Th];refine wpAny_bind (wpAny_standAt (wpAny_bind (wpAny_mono (xS n s hI) (λr s₁ h₁=>?_) λ_ _ h'=>h'.elim)))
 cases r with
 | none=>exact wpAny_pure h₁
 | some v =>
  refine wpAny_bind (wpAny_mono h₁ (λ_ s₂ h₂=>wpAny_bind (wpAny_mono h₂ (λ_ s₃ h₃=>wpAny_bind (wpAny_mono h₃ (λok s₄ h₄=>?_) λ_ _ h'=>h'.elim)) λ_ _ h'=>h'.elim)) λ_ _ h'=>h'.elim)
  cases ok with
  | false=>exact wpAny_pure ⟨rfl,h₄⟩
  | true=>exact wpAny_bind (wpAny_bind (wpAny_mono h₄ (λx s₅ h₅=>wpAny_bind (wpAny_mono h₅ (λ_ s₆ h₆=>wpAny_pure (wpAny_pure ⟨rfl,h₆⟩)) λ_ _ h'=>h'.elim)) λ_ _ h'=>h'.elim))
theorem Ti{iter:Expr}{scope:Scope}{it acc:Value}{env:Env}
  (h0:codeAny (model prog w) A (.compLoop (.ListComp pG [⟨tg,iter,oF,0⟩,⟨vC,eV,mP,0⟩] scope pos) 1 it acc env) R s)
  (h:wpAny (model prog w) A (pyIter it) (λTj s'=>codeAny (model prog w) A (.compLoop (.ListComp pG [⟨tg,iter,oF,0⟩,⟨vC,eV,mP,0⟩] scope pos) 1 Tj acc env) R s') (λ_ _=>False) s) :
  codeAny (model prog w) A (.compStart (.ListComp pG [⟨tg,iter,oF,0⟩,⟨vC,eV,mP,0⟩] scope pos) 1 it acc env) R s:=by
 refine codeAny_of_tree ?_;show wpAny _ _ ((compStart (.ListComp pG [⟨tg,iter,oF,0⟩,⟨vC,eV,mP,0⟩] scope pos) 1 it acc env).onRaise (λx=>do noteFrame x env;standAt theWindowsPlace)) _ _ s;refine wpAny_notedAt ?_;unfold compStart;show wpAny _ _ (ask >>= _) _ _ s;refine wpAny_bind (wpAny_askSetting (wpAny_ite ?_));split
 ·first
   | exact wpAny_bind (wpAny_pure (wpAny_pure (And.intro rfl h0)))
   | exact wpAny_pure (And.intro rfl h0)
 ·first
   | exact wpAny_bind (wpAny_rule (wpAny_bind (wpAny_standAt (wpAny_bind (wpAny_mono h (λTj s' h'=>wpAny_pure (And.intro rfl h')) λ_ _ x=>x.elim)))))
   | (refine wpAny_bind (wpAny_rule ?_);show wpAny _ _ (standAt eV.pos >>= _) _ _ s;exact wpAny_bind (wpAny_standAt (wpAny_bind (wpAny_mono h (λTj s' h'=>wpAny_pure (And.intro rfl h')) λ_ _ x=>x.elim))))
theorem Tn{iter:Expr}{scope:Scope}{it acc:Value}{env:Env}(I:Nat->Shared->Prop)
  (Nb:∀ x,foldedSetIterable eV env x=pure x)
  (xS:∀ n s,I n s->wpAny (model prog w) A (pyNext it) (λr s₁=>match r with
   | none=>R (.ok .next) s₁
   | some v=>wpAny (model prog w) A (letOwnedTupleGo tg it v) (λ_ s₂=>wpAny (model prog w) A (assign tg env v) (λ_ s₃ =>
     wpAny (model prog w) A (wJ oF env) (λok s₄ =>
      if ok=true then wpAny (model prog w) A (eval eV env) (λx s₅=>wpAny (model prog w) A (pyIter x) (λZq s₆ =>
       codeAny (model prog w) A (.compStart (.ListComp pG [⟨tg,iter,oF,0⟩,⟨vC,eV,mP,0⟩] scope pos) 1 Zq acc env) (λr s₇=>(∃ f,r=.ok f)/\∃ m,m<n/\I m s₇) s₆) (λ_ _=>False) s₅) (λ_ _=>False) s₄
      else ∃ m,m<n/\I m s₄) (λ_ _=>False) s₃) (λ_ _=>False) s₂) (λ_ _=>False) s₁) (λ_ _=>False) s)
  (n:Nat) (h:I n s):codeAny (model prog w) A (.compLoop (.ListComp pG [⟨tg,iter,oF,0⟩,⟨vC,eV,mP,0⟩] scope pos) 0 it acc env) R s:=by
 refine codeAny_loop rfl I (λn s hI=>?_) n h;show wpAny _ A ((compTurn (.ListComp pG [⟨tg,iter,oF,0⟩,⟨vC,eV,mP,0⟩] scope pos) 0 it acc env).onRaise (λx=>do noteFrame x env;theTreesLotGoes x)) _ _ s;refine wpAny_noted ?_;rw[P6];refine wpAny_bind (wpAny_standAt (wpAny_bind (wpAny_mono (xS n s hI) (λr s₁ h₁=>?_) λ_ _ h'=>h'.elim)))
 cases r with
 | none=>exact wpAny_pure h₁
 | some v =>
  refine wpAny_bind (wpAny_mono h₁ (λ_ s₂ h₂=>wpAny_bind (wpAny_mono h₂ (λ_ s₃ h₃=>wpAny_bind (wpAny_mono h₃ (λok s₄ h₄=>?_) λ_ _ h'=>h'.elim)) λ_ _ h'=>h'.elim)) λ_ _ h'=>h'.elim)
  cases ok with
  | false=>exact wpAny_pure ⟨rfl,h₄⟩
  | true =>
   refine wpAny_bind (wpAny_mono h₄ (λx s₅ h₅=>wpAny_bind (wpAny_standAt (wpAny_bind (wpAny_of_eq (Nb x) (wpAny_bind (wpAny_holding (wpAny_mono h₅ (λZq s₆ h₆=>?_) λ_ _ h'=>h'.elim))))))) λ_ _ h'=>h'.elim);refine wpAny_bind (wpAny_runOwn (codeAny_mono h₆ λr s₇ G9=>?_));obtain⟨⟨f,hf⟩,hm⟩:=G9;subst hf;exact wpAny_pure ⟨rfl,hm⟩
end
section
variable {X:Cx} {N:List Str} {scope:Scope}
def Ke(wi:TI)(acc:Addr)(g:TG)(tt:TT)(te:TE):L2.St->Hp->(L2.St->Hp->Prop)->Prop:=fun σ H Nx=>wi σ H λJ H1 =>
 ∃ W:Nat->Nat->L2.St->Hp->Prop,(∃ m,W 0 m σ H1)/\∀ i m σ H,W i m σ H->
  (J.stop i H/\Nx σ H)\/(J.go i H/\∃ N2:L2.St->Hp->Prop,(∀ σ' H',N2 σ' H'->∃ m',m'<m/\W (i+1) m' σ' H')/\∀ x H',J.RS i H x H'->g x σ H' fun σ2 H2=>tt σ2 H2 λb H3 =>
   if b=true then te σ2 H3 λv H4=>∃ xs,H4 acc=some (.lst xs)/\xs.length<sizeLine/\N2 σ2 (aQ H4 acc (.lst (xs++[v]))) else N2 σ2 H3)
theorem Nz{Y:Cx}{iter:Expr}{Kf:TI}{g2:TG}{Kg:TT}{te:TE}(hc:Y.calm=true)(hxe:Y.xe=λ_ _=>False)(hi:PI Y vC eV Kf)(hg:PG Y vC g2)(ht:Ny Y mP Kg)(he:PE Y pG te)
  {ao:List (Addr × Obj)} {s:Shared} {σ:L2.St} {H:Hp} {Nx:L2.St->Hp->Prop} (I:Inv Y ao σ H s) (h:Ke Kf acc g2 Kg te σ H Nx) :
  wpAny (model Y.prog Y.w) Y.A (eval eV Y.env) (λx s₅=>wpAny (model Y.prog Y.w) Y.A (pyIter x) (λZq s₆ =>
   codeAny (model Y.prog Y.w) Y.A (.compStart (.ListComp pG [⟨tg,iter,oF,0⟩,⟨vC,eV,mP,0⟩] scope pos) 1 Zq (.ref acc) Y.env) (λr s₇=>(∃ f,r=.ok f)/\∃ σ' H',Inv Y ao σ' H' s₇/\Nx σ' H') s₆) (λ_ _=>False) s₅) (λ_ _=>False) s:=by
 have hi':=hi ao s σ H _ I h;have hg':=hg;have ht':=ht;have LP:=he;unfold PG at hg';unfold Ny at ht';unfold PE at LP;rw[hxe]at hi' hg' ht' LP;refine dB hi' λv s1 h1=>dB h1 λYJ s2 h2=>?_;obtain⟨it,fp,tn,J,H2,e,I2,T,st2,f2,W,⟨m0,w0⟩,xS⟩:=h2;subst e;have xU:∀ {H':Hp},(∀ b∈fp,H' b=none)->∀ b∈fp,vt Y ao H' b:=λhn b hb=>⟨hn b hb,(f2 b hb).2⟩
 have loop:codeAny (model Y.prog Y.w) Y.A (.compLoop (.ListComp pG [⟨tg,iter,oF,0⟩,⟨vC,eV,mP,0⟩] scope pos) 1 (.ref it) (.ref acc) Y.env) (λr s₇=>(∃ f,r=.ok f)/\∃ σ' H',Inv Y ao σ' H' s₇/\Nx σ' H') s2:=by
  refine WM (λn s'=>∃ i σ' H',Inv Y ao σ' H' s'/\tn i s'.heap/\(∀ b∈fp,H' b=none)/\W i n σ' H') ?_ m0 ⟨0,σ,H2,I2,st2,λb hb=>(f2 b hb).1,w0⟩;rintro n s6 ⟨i,σ6,H6,I6,UZ,Ow,w6⟩;rcases xS i n σ6 H6 w6 with ⟨stop,qn⟩|⟨go,N2,hN,step⟩
  ·refine dB (T.done Y rfl rfl rfl hc i ao s6 σ6 H6 _ I6 (xU Ow) UZ stop) λr s7 JP=>?_;obtain⟨hr,I7⟩:=JP;subst hr;exact⟨⟨_,rfl⟩,σ6,H6,I7,qn⟩
  ·refine dB (T.item Y rfl rfl rfl hc i ao s6 σ6 H6 _ I6 (xU Ow) UZ go) λr s7 JO=>?_;obtain⟨u,hr,h7⟩:=JO;subst hr;refine dB h7 λ_ s8 DG=>?_;obtain⟨x,H8,I8,r8,y8,P7,FO⟩:=DG;have Zr:=I8.pinned (xU FO) (T.obj _ _ P7);refine dB (hg' _ s8 σ6 H8 x u _ Zr r8 (step x H8 y8)) λ_ s9 G7=>?_;obtain⟨σ9,H9,I9,q9⟩:=G7;refine dB (ht' _ s9 σ9 H9 _ I9 q9) λok RV DH=>?_;obtain⟨P8,U0,ED⟩:=DH
   have again:∀ {σ7:L2.St} {H7:Hp} {xD:Shared},Inv Y (ao++xT fp s8.heap) σ7 H7 xD->N2 σ7 H7->∃ m,m<n/\∃ i σ' H',Inv Y ao σ' H' xD/\tn i xD.heap/\(∀ b∈fp,H' b=none)/\W i m σ' H':=λ{σ7 H7 xD} I7 n7=>by
    obtain⟨m',hm,w7⟩:=hN σ7 H7 n7;refine⟨m',hm,i+1,σ7,H7,I7.tY,T.keep _ _ _ P7 λb hb o e=>(I7.pin (b,o) (uy _ (uy _ (j6 hb e)))).1,λb hb=>?_,w7⟩;obtain⟨o,e,d⟩:=T.obj _ _ P7 b hb;exact (I7.pin (b,o) (uy _ (uy _ (j6 hb e)))).2.1
   cases ok with
   | false =>
    rw[if_neg vo]at ED;exact again U0 ED
   | true =>
    rw[if_pos rfl]at ED;refine dB (LP _ RV σ9 P8 _ U0 ED) λv xD G8=>?_;obtain⟨y,Zs,I11,r11,xs,hx,hz,n11⟩:=G8;have ap:=cy _ xD σ9 Zs (.ref acc) [y] (.ref acc) [v] (λ_ H'=>N2 σ9 H') I11 rfl (.cons r11 .nil) ⟨_,xs,y,rfl,rfl,hx,hz,n11⟩;rw[hxe]at ap;exact dB ap λ_ rL ⟨_,X8,I12,_,WN⟩=>again I12 WN
 exact Ti loop (T.self _ _ _ _ _ st2 loop)
end
theorem Zt{i:Nat}{v:V}{σ:L2.St}{H:Hp}{Q:L2.St->Bool->Hp->Prop}(h:Q (σ.set i (some v)) true H):xr i v σ H (fun σ2 H2=>P5 σ2 H2 (Q σ2)):=h
theorem yes{σ:L2.St}{H:Hp}{Q:Bool->Hp->Prop}(h:Q true H):P5 σ H Q:=h
end dF
namespace jE
open L2 dF
theorem Kh{row:Row}{i:Nat}{p:Int × Int}(h:row[i]?=some p):bW (row.take (i+1))=bW (row.take i)++oE p:=by
 rw[take_snoc h,dz,jA]
theorem DP(row:Row)(i:Nat):(bW (row.take i)).length<=(bW row).length:=by
 conv=>rhs;rw[← List.take_append_drop i row,dz,dX]
 omega
theorem HF{H0 H2:Hp}{q t:Addr}{bs:List Addr}{row:Row}{st en:Int}(Zu:H0 q=none)(s:aG H0 H2)(gy:H2 q=some (.lst (bs.map V.ref)))(hb:bS H2 bs row)(ht:H2 t=none) :
  (aQ (aQ H2 t (.tup [.int st,.int en])) q (.lst (bs.map V.ref++[.ref t]))) q=some (.lst ((bs++[t]).map V.ref))/\
  bS (aQ (aQ H2 t (.tup [.int st,.int en])) q (.lst (bs.map V.ref++[.ref t]))) (bs++[t]) (row++[(st,en)])/\aG H0 (aQ (aQ H2 t (.tup [.int st,.int en])) q (.lst (bs.map V.ref++[.ref t]))):=by
 have WO:q≠t:=az gy ht;have s1:aG H2 (aQ H2 t (.tup [.int st,.int en])):=ak ht _;refine⟨by rw[af,kT];rfl,?_,bV Zu (s.trans s1) (aN q _ _)⟩;refine bS.snoc ((hb.same s1).keep (s1 _ _ gy) (aN q _ _)) ?_;show aQ _ q _ t=_;rw[aL WO.symm,af]
theorem turned{H0 H2:Hp}{q t a:Addr}{bs:List Addr}{row:Row}{st en:Int}(Zu:H0 q=none)(s:aG H0 H2)(gy:H2 q=some (.lst (bs.map V.ref++[.ref a])))(hb:bS H2 bs row)(ht:H2 t=none) :
  (aQ (aQ H2 t (.tup [.int st,.int en])) q (.lst ((bs.map V.ref++[V.ref a]).set bs.length (V.ref t)))) q=some (.lst ((bs++[t]).map V.ref))/\
  bS (aQ (aQ H2 t (.tup [.int st,.int en])) q (.lst ((bs.map V.ref++[V.ref a]).set bs.length (V.ref t)))) (bs++[t]) (row++[(st,en)])/\aG H0 (aQ (aQ H2 t (.tup [.int st,.int en])) q (.lst ((bs.map V.ref++[V.ref a]).set bs.length (V.ref t)))):=by
 have WO:q≠t:=az gy ht;have s1:aG H2 (aQ H2 t (.tup [.int st,.int en])):=ak ht _
 have e:(bs.map V.ref++[V.ref a]).set bs.length (V.ref t)=(bs++[t]).map V.ref:=by
  have z:=Cp (bs.map V.ref) (V.ref a) (V.ref t);rw[cS]at z;rw[z,kT];rfl
 rw[e];refine⟨af,?_,bV Zu (s.trans s1) (aN q _ _)⟩;refine bS.snoc ((hb.same s1).keep (s1 _ _ gy) (aN q _ _)) ?_;show aQ _ q _ t=_;rw[aL WO.symm,af]
theorem P9(bs:List Addr)(a:Addr):Lv (bs.map V.ref++[V.ref a]).length (-1)=some bs.length:=by
 rw[dX,cS,vF];exact Co _
theorem NB{f:Row->Int × Int->Row}{row:Row}{i:Nat}{p:Int × Int}(h:row[i]?=some p):(row.take (i+1)).foldl f []=f ((row.take i).foldl f []) p:=foldl_take_succ f row [] i p h
theorem HG(row:Row):∀ t:Row,(row.foldl gB t).length<=t.length+row.length:=by
 induction row with
 | nil=>intro t;simp
 | cons p row ih =>
  intro t;have h1:=ih (gB t p)
  have h2:(gB t p).length<=t.length+1:=by
   unfold gB;split
   ·omega
   ·exact AO _ _ _
  rw[qZ,qC];omega
theorem Cr(ns:List Int):∀ t:Row,(ns.foldl (λt n=>lV t n (n+1)) t).length<=t.length+ns.length:=by
 induction ns with
 | nil=>intro t;simp
 | cons n ns ih =>
  intro t;have h1:=ih (lV t n (n+1));have h2:=AO t n (n+1);rw[qZ,qC];omega
end jE
namespace jE
open PySem.Spec PyProof.Rows L2 dF
inductive FP(vs:List V)(H:Hp)(Q:VK)(E:XK):Prop
 | mk (r:Addr) (row:Row) (_:vs=[.ref r]) (_:cL H r row) (_:row.length<=1000000) (_: ∀ H',aG H H'->Q (.int (kU row)) H')
end jE
namespace iP
open PySem.Spec PyProof.Rows PySem.W L2
section
variable {P:Program} {w:World} {H H':Hp} {h h0 g:Heap} {a T:Addr} {C a0:Value} {o:HO}
theorem To(x:iZ P w H h a o):∃ u,h.get? a=some u:=by
 cases o with
 | lst xs=>obtain⟨_,_,_,_,e⟩:=x;exact⟨_,e⟩
 | tup xs=>obtain⟨_,_,_,_,e,_⟩:=x;exact⟨_,e⟩
 | dK kvs=>obtain⟨_,_,_,_,_,_,_,e,_⟩:=x;exact⟨_,e⟩
 | dT kvs=>obtain⟨_,_,_,_,_,_,_,e,_⟩:=x;exact⟨_,e⟩
 | set S n=>obtain⟨_,_,_,_,e,_⟩:=x;exact⟨_,e⟩
 | ins C dx fs=>obtain⟨_,_,_,e,_⟩:=x;exact⟨_,e⟩
 | own y=>exact x
 | xd fs=>obtain⟨_,⟨_,_,_,e,_⟩,_⟩:=x;exact⟨_,e⟩
 | GX lo hi=>obtain⟨_,_,_,e⟩:=x;exact⟨_,e⟩
 | JL ob u=>exact⟨_,x.1⟩
 | Sx ps=>exact⟨_,x⟩
 | met f y=>exact⟨_,x⟩
 | ext φ=>exact x.2.1
theorem LQ(x:wz P w H h){b:Addr}(e:h.get? b=none):H b=none:=by
 cases q:H b with
 | none=>rfl
 | some u =>
  obtain⟨z,hz⟩:=To (x b u q);rw[e]at hz;cases hz
theorem EL{l:List Addr}{b:Addr}(e:(hideAll h l).get? b=none):b∈l\/h.get? b=none:=by
 by_cases hb:b∈l
 ·exact .inl hb
 ·right
  cases q:h.get? b with
  | none=>rfl
  | some u=>rw[hideAll_get l q hb]at e;cases e
def Fly(h0:Heap)(H:Hp)(h:Heap)(a T:Addr)(C a0:Value):Prop :=
 (∃ oe vs oT ts,h.get? a=some oe/\(oe.cls=C/\vs[0]?=some a0)/\oe.data=.fields vs/\vs[1]?=some (.ref T)/\T≠a/\h.get? T=some oT/\oT.data=.fields ts/\ts[3]?=some .none)/\(H a=none/\H T=none)/\h0.get? a=none/\h0.get? T=none
theorem HH{fs hd:List Addr}{l':List Env}(u:Un fs [] H H' h0 h)(hok:wz P w H' h)(h1:∀ b o,h0.get? b=some o->b∉fs->b∉hd)(h2:∀ b∈hd,H' b=none)
  (h3:∀ b∈fs,∃ o,h.get? b=some o/\∀ vs,o.data≠.fields vs) (h4:∀ b∈hd,h0.get? b=none\/∃ o,h.get? b=some o/\∀ vs,o.data≠.fields vs)
  (ha:h0.get? a=none) (ha':H' a=none) (f:Heap.FlyingW (hideAll h hd) l' a C a0 g) (k:h.UpToSlots g) :
  Un fs [] H H' h0 g/\wz P w H' g/\∃ T,Fly h0 H' g a T C a0:=by
 have nil:∀ b:Addr,b∉([]:List Addr):=λb=>List.not_mem_nil;have kp:∀ b o,h.get? b=some o->b∉hd->g.get? b=some o:=λb o e n=>f.1 b o (hideAll_get hd e n);refine⟨⟨λb o e n hb _=>kp b o (u.keep b o e n hb (nil b)) (h1 b o e hb),λb o e n hb _=>?_,λb o e n _=>u.free b o e n (nil b),λb o e _=>?_,u.tups,u.DF,u.Fz⟩,λb o e=>?_,?_⟩
 ·obtain⟨sl,e1⟩:=u.slot b o e n hb (nil b);obtain⟨o',e2,nf⟩:=h3 b hb;obtain⟨UG,e3⟩:=k b o' e2 nf;rw[e1]at e2;cases e2;exact⟨UG,e3⟩
 ·by_cases hb:b∈fs
  ·obtain⟨o',e2,nf⟩:=h3 b hb;obtain⟨UG,e3⟩:=k b o' e2 nf;exact⟨_,e3⟩
  ·obtain⟨o',e1⟩:=u.there b o e (nil b);exact⟨o',kp b o' e1 (h1 b o e hb)⟩
 ·refine (hok b o e).stay (λc v hc q=>kp c v q λhm=>?_) (λ_ q=>q) λ_ _ q=>q;have hn:=h2 c hm;rcases hc with rfl|hc
  ·rw[e]at hn;cases hn
  ·rw[hc]at hn;cases hn
 ·obtain⟨_,_,_,oe,vs,T,oT,ts,e1,e2,e3,e4,e5,e6,e7,e8,e9⟩:=f;refine⟨T,⟨oe,vs,oT,ts,e1,e2,e3,e4,e6,e7,e8,e9⟩,⟨ha',?_⟩,ha,?_⟩
  ·rcases EL e5 with hm|hn
   ·exact h2 T hm
   ·exact LQ hok hn
  ·rcases EL e5 with hm|hn
   ·rcases h4 T hm with z|⟨o,eo,nf⟩
    ·exact z
    ·obtain⟨sl,eg⟩:=k T o eo nf;rw[e7]at eg;cases eg;exact absurd e8 (nf ts)
   ·cases q:h0.get? T with
    | none=>rfl
    | some o =>
     obtain⟨o',eo⟩:=u.there T o q (nil T);rw[hn]at eo;cases eo
theorem Kl{base:Heap}{l:List Env}(F:Fly h0 H h a T C a0)(S:h.FunFrames base l):Heap.FlyingW (hideAll h (a::T::zA l)) l a C a0 h:=by
 obtain⟨⟨oe,vs,oT,ts,e1,e2,e3,e4,e5,e6,e7,e8⟩,_,_⟩:=F;refine⟨λb o e=>of_hideAll _ e,hideAll_none _ (yC),funFrames_hide S λenv he b hb=>?_,oe,vs,T,oT,ts,e1,e2,e3,e4,?_,e5,e6,e7,e8⟩
 ·exact sF _ (sF _ (List.mem_filterMap.mpr ⟨env,he,hb⟩))
 ·exact hideAll_none _ (sF _ yC)
end
def lP(P:Program)(w:World):Ou:=λouter H s E e s'=>∃ a T C a0 H',e=.ref a/\(s'.os=s.os/\AllBare s'.gens)/\Un (zA outer) [] H H' s.heap s'.heap/\wz P w H' s'.heap/\Fly s.heap H' s'.heap a T C a0/\E C none H'
section
variable {X:Cx} {ao:List (Addr × Obj)} {σ:L2.St} {H H1:Hp} {s s':Shared} {a T:Addr} {C a0:Value}
theorem Qa(DK:X.stack=X.env::X.outer)(hf:X.env.frame=some X.env.locals):zA X.stack=X.env.locals::X.fs:=by
 rw[DK];unfold zA;rw[List.filterMap_cons,hf];rfl
theorem EM(I:Inv X ao σ H s):∀ b∈zA X.stack,∃ o,s.heap.get? b=some o/\∀ vs,o.data≠.fields vs:=λb hb=>(I.stack.mem hb).2
end
section
variable {P:Program} {w:World} {K:PySem.W.Frag} {mg:Str->Option Value} {base:Heap} {N:List Str} {dD:Str} {scope:Scope} {f:Addr} {cd:Value} {A:Around} {outer:List Env} {s:Shared} {H:Hp} {E:XK}
abbrev NC(P:Program)(w:World)(K:PySem.W.Frag)(mg:Str->Option Value)(base:Heap)(N:List Str)(dD:Str)(scope:Scope)(f:Addr)(cd:Value)(A:Around)(outer:List Env)(s:Shared)(H:Hp)(E:XK):Cx :=
 Hq (lP P w) P w K mg base N dD scope f cd A outer s H E
theorem jI:oM (lP P w) (NC P w K mg base N dD scope f cd A outer s H E) E:=by
 intro ao σ H1 s1 e s' I h;obtain⟨a,T,C,a0,H',rfl,⟨os,bare⟩,u,hok,F,q⟩:=h;have I1:Inv (NC P w K mg base N dD scope f cd A outer s H E) ao σ H' s':=I.UJ (ch:=[]) os u hok bare (λb z=>absurd z (by simp));obtain⟨_,⟨na,nT⟩,sa,sT⟩:=id F
 have old:∀ b,s1.heap.get? b=none->s.heap.get? b=none:=λb e=>by
  cases z:s.heap.get? b with
  | none=>rfl
  | some o =>
   obtain⟨o',e'⟩:=I.base.there b o z (λm=>absurd (show b∈([]:List Addr) from m) (by simp));rw[e]at e';cases e'
 refine wpAny_leaves_onW (base:=hideAll s'.heap (a::T::zA (NC P w K mg base N dD scope f cd A outer s H E).stack)) I.ok.frames rfl (Kl F I1.stack) λg fl k=>?_
 have p1:∀ b o,s.heap.get? b=some o->b∉zA outer->b∉a::T::zA (NC P w K mg base N dD scope f cd A outer s H E).stack:=λb o e hb hm=>by
  rcases List.mem_cons.mp hm with rfl|hm
  ·rw[old b sa]at e;cases e
  rcases List.mem_cons.mp hm with rfl|hm
  ·rw[old b sT]at e;cases e
  ·rw[Qa rfl rfl]at hm;rcases List.mem_cons.mp hm with rfl|hm
   ·exact absurd (Heap.lt_size e) (Nat.not_lt.mpr I.ok.above)
   ·exact hb hm
 have p2:∀ b∈a::T::zA (NC P w K mg base N dD scope f cd A outer s H E).stack,H' b=none:=λb hm=>by
  rcases List.mem_cons.mp hm with rfl|hm
  ·exact na
  rcases List.mem_cons.mp hm with rfl|hm
  ·exact nT
  ·exact I1.Bx b hm
 have p4:∀ b∈a::T::zA (NC P w K mg base N dD scope f cd A outer s H E).stack,s.heap.get? b=none\/∃ o,s'.heap.get? b=some o/\∀ vs,o.data≠.fields vs:=λb hm=>by
  rcases List.mem_cons.mp hm with rfl|hm
  ·exact .inl (old b sa)
  rcases List.mem_cons.mp hm with rfl|hm
  ·exact .inl (old b sT)
  ·exact .inr (EM I1 b hm)
 obtain⟨u',Pu,T',F'⟩:=HH (h0:=s.heap) (fs:=zA outer) (hd:=a::T::zA (NC P w K mg base N dD scope f cd A outer s H E).stack) I1.base hok p1 p2 (λb hb=>(I1.yD.mem hb).2) p4 (old a sa) na fl k;exact⟨a,T',C,a0,H',rfl,⟨I1.os,bare⟩,u',Pu,F',q⟩
def Qc(X:Cx)(E:XK):Prop:=∀ (ao:List (Addr × Obj)) (σ:L2.St) (H:Hp) (s:Shared) (h':Heap) (e:Addr) (C:Value) (args:List Value),Inv X ao σ H s->Heap.MadeExcOf s.heap h' e C args->E C none H->X.xe (.ref e) { s with heap:=h' }
theorem zQ:Qc (NC P w K mg base N dD scope f cd A outer s H E) E:=by
 intro ao σ H1 s1 h' e C args I M q
 have old:∀ b,s1.heap.get? b=none->s.heap.get? b=none:=λb e=>by
  cases z:s.heap.get? b with
  | none=>rfl
  | some o =>
   obtain⟨o',e'⟩:=I.base.there b o z (λm=>absurd (show b∈([]:List Addr) from m) (by simp));rw[e]at e';cases e'
 refine wpAny_leaves_madeW (base:=hideAll s1.heap (zA (NC P w K mg base N dD scope f cd A outer s H E).stack)) (h:=s1.heap) I.ok.frames rfl (λb o e=>of_hideAll _ e) (funFrames_hide I.stack λenv he b hb=>List.mem_filterMap.mpr ⟨env,he,hb⟩) M λg t fl _ _ k=>?_;have k1:s1.heap.UpToSlots g:=(Heap.UpToSlots.of_keeps M.keeps).trans k
 have p1:∀ b o,s.heap.get? b=some o->b∉zA outer->b∉zA (NC P w K mg base N dD scope f cd A outer s H E).stack:=λb o e hb hm=>by
  rw[Qa rfl rfl]at hm;rcases List.mem_cons.mp hm with rfl|hm
  ·exact absurd (Heap.lt_size e) (Nat.not_lt.mpr I.ok.above)
  ·exact hb hm
 obtain⟨u',Pu,T',F'⟩:=HH (h0:=s.heap) (fs:=zA outer) (hd:=zA (NC P w K mg base N dD scope f cd A outer s H E).stack) I.base I.hok p1 (λb hm=>I.Bx b hm) (λb hb=>(I.yD.mem hb).2) (λb hm=>.inr (EM I b hm)) (old e M.new) (LQ I.hok M.new) fl k1;exact⟨e,T',C,.ref t,H1,rfl,⟨I.os,I.bare⟩,u',Pu,F',q⟩
theorem okX{x dD:Str}{st:Stmt}{f:Addr}{N ps:List Str}{k:Nat}{sp:Sp}(F:iK K x dD st f fd)(S:aJ N ps (aA st))(len:∀ vs H Q E,sp vs H Q E->vs.length=ps.length)
  (yG:∀ (dJ:Value) (A:Around) (outer:List Env) (s:Shared) (H:Hp) (vs:List V) (Q:VK) (E:XK),lg k (A.deeper (envOfC dD (aA st) s.heap.objs.size f dJ))->sp vs H Q E->
   ∃ t,JA (NC P w K mg base N dD (aA st) f dJ A outer s H E) (ly st) t/\t { nx:=λ_ H'=>Q .jm H',rt:=Q } (start N vs) H):aC P w K mg base (lP P w) (k+1) f fd ps sp:=by
 obtain⟨oc,od,kV,zI,pm,an,dJ,ct,Nj,rfl,lk,M5⟩:=F.ex;exact UO lk M5 S len λA outer s H vs Q E hr JY=>yG dJ A outer s H vs Q E hr JY
end
section
variable {X:Cx}
theorem Tp{K:Frag}{h:Heap}{Zv:List Value}{EN:String}{x:Str}{mg:Str->Option Value}(I:K.In h)(m:mg x=some (.ref C))(q:excIn K C Zv EN=true):OwnCls x C Zv EN mg h:=by
 refine⟨m,?_⟩;unfold excIn at q;split at q
 case h_2=>cases q
 rename_i dd cd sl ho;split at q
 case h_2=>cases q
 rename_i c1 bm k0 k1 k2 k3 n k5 hm hs;simp only[Bool.and_eq_true,beq_iff_eq,Bool.not_eq_true']at q;obtain⟨⟨⟨⟨⟨e1,e2⟩,acO⟩,ht⟩,UP⟩,hni⟩:=q;cases e1;cases e2
 cases cd with
 | mk nm bs mro ns qn hd sn sub ab col del =>
  cases hm;cases acO
  cases sl with
  | mk l =>
   have hs':l=[k0,k1,k2,k3,some (.builtin EN),k5]:=hs;subst hs';exact⟨bm,ns,nm,qn,bs,hd,sn,sub,ab,col,dd,k0,k1,k2,k3,k5,_,I _ _ ho,.of_isNs (isNs_of_in I UP),nsMap_none_of_in I UP hni,tail_of_in I ht⟩
def WQ(C:Addr)(E:XK)(t:TA):TS:=λ_ σ H=>t σ H λvs H1=>vs.length<=sizeLine/\E (.ref C) none H1
theorem uc{E:XK}{x:Str}{Zv:List Value}{EN WR B:String}{e:Expr}{es:List Expr}{t:TA}{np pos:Pos}(FB:ExcBaseFacts B EN WR Zv)(hx:excIn X.K C Zv EN=true)(hm:X.mg x=some (.ref C))(hc:X.calm=true)(hr:Qc X E)
  (ha:PA X (e::es) t) (hg:Gl X x:=by rfl) (Ho:(x == ("__debug__":Str))=false:=by decide) (he:starEach (e::es) X.env=(false,eval e X.env)::starEach es X.env:=by rfl) (DA:(backTo sH (starEach es X.env)).any (·.1)=false:=by rfl) :
  PS X (.Raise (some (.Call (.Name x np) (e::es) [] sH)) none pos) (WQ C E t):=by
 intro ao s σ H D I h;obtain⟨tl,Nd,c1,c2,c3,c4,c5,c6,c7,c8,c9,d0,d1,d2,d3,d5,mN,hC,hN,hni,T⟩:=(Tp I.mod.Yw hm hx).obj;refine wpAny_Raise_call_subT (nm:=c1) (q:=c2) (N:=Nd) (bs:=c3) (hdct:=c4) (sn:=c5) (sub:=c6) (ab:=c7) (col:=c8) (dd:=c9) (k0:=d0) (k1:=d1) (k2:=d2) (k3:=d3) (k5:=d5) FB (T.hasType FB.hasBase) (I.ok.hd hc) (by rw[he];show (false || (backTo sH (starEach es X.env)).any (·.1))=false;rw[DA];rfl) hni (yE I hg hm ⟨rfl,?_⟩ Ho);rw[he];have hw:=ha sH ao s σ H _ I h;rw[he]at hw;refine Calls.evalArgs_plain (dB hw λus s1 DH=>?_);obtain⟨vs,H1,I1,r,q1,q2⟩:=DH;exact⟨rfl,by rw[← r.length];exact q1,I1.bk _ _ hC,hN.keeps I1.bk,T.keeps I1.bk,λh' e M=>hr ao σ H1 s1 h' e _ _ I1 M q2⟩
end
section
variable {X:Cx} {x:Str} {st:Stmt} {ps:List Str} {f:Addr} {fd:FuncData} {j k:Nat} {sp:Sp} {e:Expr} {es:List Expr} {t:TA} {p pos:Pos} {E:XK}
theorem nH(d:jE.aF X.K X.mg x st ps f fd)(G:aC X.prog X.w X.K X.mg X.base (lP X.prog X.w) k f fd ps sp)(hr:lg j X.A)(hx:oM (lP X.prog X.w) X E)
  (ha:PA X (e::es) t) (Te:k<=j:=by first|decide|omega) (hg:Gl X x:=by rfl) (Ho:(x == ("__debug__":Str))=false:=by decide) (he:starEach (e::es) X.env=(false,eval e X.env)::starEach es X.env:=by rfl)
  (DA:(backTo pos (starEach es X.env)).any (·.1)=false:=by rfl):PE X (.Call (.Name x p) (e::es) [] pos) (Hl sp [] E t) :=
 FE G (hr.mono Te) hg d.m d.F.kp d.b .nil hx ha Ho he DA
end
end iP
namespace iP
open PySem.Spec PyProof.Rows L2
section
variable {X:Cx}
abbrev TJ:=L2.St->Hp->(Hp->Prop)->Prop
def PJ(X:Cx)(es:List Expr)(m:Nat)(t:TJ):Prop:=∀ (ao:List (Addr × Obj)) (s:Shared) (σ:L2.St) (H:Hp) (Bc:Str) (Q:Hp->Prop),L2.Inv X ao σ H s->t σ H Q->Bc.length+m<=1000000->
 wpAny (model X.prog X.w) X.A (joinParts Bc (evalEach es X.env)) (λu s'=>∃ x tk H',u=.str x tk/\L2.Inv X ao σ H' s'/\Q H') X.xe s
theorem zR:PJ X [] 0 (λ_ H Q=>Q H):=λao s σ H Bc Q I h hl =>
 joinParts_nil ⟨Bc,_,H,rfl,I.tok _,h⟩ (kX (Nat.lt_of_le_of_lt hl (by decide)))
theorem BE{Bc y:Str}{m n:Nat}(h:Bc.length+(n+m)<=1000000)(hy:y.length<=n):(Bc++y).length<=sizeLine/\(Bc++y).length+m<=1000000:=by
 rw[PySem.strLen_append];refine⟨Nat.le_of_lt (Nat.lt_of_le_of_lt (show Bc.length+y.length<=1000000 by omega) (by decide)),by omega⟩
theorem oR{x:Str}{j:Nat}{es:List Expr}{m:Nat}{t:TJ}(h:PJ X es m t):PJ X (.Constant (.str x) j pos::es) (x.length+m) t:=by
 intro ao s σ H Bc Q I q hl;refine joinParts_consE (joinParts_cons (Calls.Constant_str ?_));have z:=BE (y:=x) hl (jz _);exact⟨z.1,h ao _ σ H _ Q (I.tok _) q z.2⟩
theorem rM{e:Expr}{te:TE}{es:List Expr}{m:Nat}{t:TJ}(he:PE X e te)(h:PJ X es m t):PJ X (.FormattedValue e (-1) none pos::es) (1921+m) (fun σ H Q=>te σ H λv H1=>∃ i:Int,v=.int i/\i.natAbs.log2<1920/\t σ H1 Q):=by
 intro ao s σ H Bc Q I q hl;refine joinParts_consE (joinParts_cons (FormattedValue_plain (dB (he ao s σ H _ I q) λv s1 G8=>?_)));obtain⟨x,H1,I1,r1,i,e1,hi,q1⟩:=G8;subst e1;obtain⟨tk,rfl⟩:=r1;refine formatField_int_small hi ?_;have z:=BE (y:=Str.ofString (toString i)) hl (int_text_len_1921 hi);exact⟨z.1,h ao _ σ H1 _ Q (I1.tok _) q1 z.2⟩
theorem wK{vH:List Expr}{m:Nat}{t:TJ}(h:PJ X (v1::v2::vH) m t)(hm:m<=1000000:=by decide +kernel):PE X (.JoinedStr (v1::v2::vH) pos) (fun σ H Q=>t σ H λH1=>∀ x,Q (.str x) H1):=by
 intro ao s σ H Q I q;refine JoinedStr_many (dB (h ao s σ H Str.empty _ I q (by show 0+m<=_;omega)) λu s1 G9=>?_);obtain⟨x,tk,H1,e,I1,q1⟩:=G9;subst e;exact⟨.str x,H1,I1,⟨_,rfl⟩,q1 x⟩
def Tq(r r' r2:R2)(ta tb tc td:TE):TT:=fun σ H Q=>ta σ H λx H1=>tb σ H1 λy H2=>r x y H2 λz H3=>∃ k,z=.bl k/\
 (if k=true then tc σ H3 λu H4=>r' y u H4 λz' H5=>∃ k',z'=.bl k'/\(if k'=true then td σ H5 λv H6=>r2 u v H6 λz2 H7=>∃ k2,z2=.bl k2/\Q k2 H7 else Q false H5) else Q false H3)
theorem ND{op BA WS:CmpOp}{r r' r2:R2}{a b c d:Expr}{ta tb tc td:TE}(ho:yv X (compareOp op) r)(M4:yv X (compareOp BA) r')(ho2:yv X (compareOp WS) r2)(ha:PE X a ta)(hb:PE X b tb)(hc:PE X c tc)(hd:PE X d td)
  (hm:lastMarks [op,BA,WS] [b,c,d]=false:=by with_unfolding_all rfl):PT X (.Compare a [op,BA,WS] [b,c,d] pos) (Tq r r' r2 ta tb tc td):=by
 intro ao s σ H Q I h
 refine isTrue_chain (dB (ha ao s σ H _ I h) λv s1 ⟨x,H1,I1,r1,q1⟩=>test_link (dB (hb ao s1 σ H1 _ I1 q1) λu s2 ⟨y,H2,I2,r2',q2⟩ =>
  dB (ho ao s2 σ H2 x y v u _ I2 r1 r2' q2) λz s3 ⟨z',H3,I3,r3,k,e,q3⟩=>?_)) hm
 subst e;cases r3;refine wpAny_truthy_bool ?_
 cases k with
 | false=>exact ite_ff ⟨H3,I3,q3⟩
 | true =>
  refine ite_tt (test_link (dB (hc ao s3 σ H3 _ I3 q3) λv4 s4 ⟨x4,H4,I4,r4,q4⟩=>dB (M4 ao s4 σ H4 y x4 u v4 _ I4 r2' r4 q4) λz5 s5 JP=>?_));obtain⟨x5,H5,I5,r5,k5,e5,q5⟩:=JP;subst e5;cases r5;refine wpAny_truthy_bool ?_
  cases k5 with
  | false=>exact ite_ff ⟨H5,I5,q5⟩
  | true =>
   refine ite_tt (test_last (dB (hd ao s5 σ H5 _ I5 q5) λv6 s6 ⟨x6,H6,I6,r6,q6⟩=>dB (ho2 ao s6 σ H6 x4 x6 v4 v6 _ I6 r4 r6 q6) λz7 s7 JO=>?_));obtain⟨x7,H7,I7,r7,k7,e7,q7⟩:=JO;subst e7;cases r7;exact wpAny_truthy_bool ⟨H7,I7,q7⟩
end
end iP
namespace jE
open L2 dF iP
theorem aY{H H':Hp}{a:Addr}(s:aG H H')(h:H' a=none):H a=none:=by
 cases q:H a with
 | none=>rfl
 | some o=>rw[s a o q]at h;cases h
def m6(i:Int):Prop:=-(10^60)<i/\i<10^60
theorem m6.log{i:Int}(h:m6 i):i.natAbs.log2<1920:=by
 have h1:i.natAbs<2^1920:=by
  have:i.natAbs<10^60:=by
   obtain⟨a,b⟩:=h;have e:((10:Int)^60)=(((10:Nat)^60:Nat):Int):=by norm_cast
   rw[e]at a b;omega
  exact vp this (by decide +kernel)
 by_cases h0:i.natAbs=0
 ·rw[h0];decide
 ·exact (Nat.log2_lt h0).mpr h1
def Qd(a b h:Int)(p:Int × Int):Row:=if max (a-h) 0<min (b-h) (p.2-p.1) then [(p.1+max (a-h) 0,p.1+min (b-h) (p.2-p.1))] else []
def qg(a b:Int):Int->Row->Row
 | _,[]=>[]
 | h,p::r=>Qd a b h p++qg a b (h+(p.2-p.1)) r
theorem HJ(a b:Int)(p:Int × Int):∀ (r:Row) (c:Int),qg a b c (r++[p])=qg a b c r++Qd a b (c+kU r) p
 | [],c=>by simp[qg,Td]
 | q::r,c=>by
  have e:c+(q.2-q.1)+kU r=c+kU (q::r):=by rw[HD];omega
  rw[List.cons_append,qg,HJ a b p r,qg,e,tX]
theorem WT(a b h:Int)(p:Int × Int):(Qd a b h p).length<=1:=by
 unfold Qd
 split <;> simp
theorem oS(a b:Int):∀ (r:Row) (c:Int),(qg a b c r).length<=r.length
 | [],_=>jz _
 | q::r,c=>by
  have ih:=oS a b r (c+(q.2-q.1));have z:=WT a b c q;rw[qg,dX,qC];omega
theorem Qe(a b h:Int)(p:Int × Int):∀ q∈Qd a b h p,q.1<=q.2:=by
 unfold Qd;split
 ·intro q hq;simp only[List.mem_singleton]at hq;subst hq;simp only;omega
 ·intro q hq;cases hq
theorem FQ(a b:Int):∀ (r:Row) (c:Int),∀ q∈qg a b c r,q.1<=q.2
 | [],_=>λq hq=>by cases hq
 | p::r,c=>λq hq=>by
  rw[qg]at hq;rcases List.mem_append.mp hq with z|z
  ·exact Qe a b c p q z
  ·exact FQ a b r _ q z
theorem HK(s:Int):∀ (n k:Nat),(run s n).drop k=run (s+k) (n-k)
 | n,0=>by simp
 | 0,k+1=>by simp[run]
 | n+1,k+1=>by
  rw[run,List.drop_succ_cons,HK (s+1) n k];have e1:s+1+(k:Int)=s+((k+1:Nat):Int):=by omega
  have e2:n+1-(k+1)=n-k:=by omega
  rw[e1,e2]
theorem HL(s:Int):∀ (n k:Nat),(run s n).take k=run s (min k n)
 | n,0=>by simp[run]
 | 0,k+1=>by simp[run]
 | n+1,k+1=>by
  rw[run,List.take_succ_cons,HL (s+1) n k];have e2:min (k+1) (n+1)=min k n+1:=by omega
  rw[e2,run]
theorem NF(a b h:Int)(p:Int × Int)(hp:p.1<=p.2):bW (Qd a b h p)=((oE p).take (b-h).toNat).drop (a-h).toNat:=by
 obtain⟨s,e⟩:=p;simp only at hp;unfold Qd oE;simp only;rw[HL,HK,← Int.ofNat_toNat (a-h)];generalize (a-h).toNat=n;generalize b-h=x;have y0:0<=e-s:=by omega
 generalize e-s=y at y0
 have em:min x.toNat y.toNat=(min x y).toNat:=by
  rcases Int.le_total x y with c|c
  ·rw[Int.min_eq_left c,Nat.min_eq_left (Int.toNat_le_toNat c)]
  ·rw[Int.min_eq_right c,Nat.min_eq_right (Int.toNat_le_toNat c)]
 rw[em];generalize min x y=m;clear em y0 hp;by_cases c:(n:Int)<m
 ·rw[if_pos c,jA,oE];simp only;rw[Int.add_sub_add_left,Int.toNat_sub']
 ·rw[if_neg c,Nat.sub_eq_zero_of_le (Int.toNat_le.mpr (Int.not_lt.mp c))];rfl
theorem Cs(b h:Int)(L:Nat):(b-(h+L)).toNat=(b-h).toNat-L:=by rw[← Int.sub_sub,Int.toNat_sub']
theorem wL(a b:Int):∀ (r:Row) (h:Int),(∀ p∈r,p.1<=p.2)->bW (qg a b h r)=((bW r).take (b-h).toNat).drop (a-h).toNat
 | [],h,_=>by simp[qg,bW]
 | p::r,h,ok=>by
  have hp:=ok p (yC ..);have ih:=wL a b r (h+(p.2-p.1)) λq hq=>ok q (sF _ hq);have e:bW (p::r)=oE p++bW r:=rfl;have hl:=AQ p hp;rw[qg,dz,NF a b h p hp,ih,e,List.take_append,List.drop_append,jK];congr 1;rw[← hl,Cs,Cs];by_cases hb:(oE p).length<=(b-h).toNat
  ·rw[Nat.min_eq_right hb]
  ·rw[Nat.sub_eq_zero_of_le (Nat.le_of_not_le hb)];simp
def DQ(a b t:Int):Prop:=0<=a/\a<=b/\b<=t
inductive wM(C:Addr)(vs:List V)(H:Hp)(Q:VK)(E:XK):Prop
 | mk (r:Addr) (row:Row) (a b:Int) (_:vs=[.ref r,.int a,.int b]) (_:cL H r row) (_:row.length<=1000000) (_:m6 a) (_:m6 b) (_:m6 (kU row)) (_:(DQ a b (kU row)->∀ H',aG H H'->Q .jm H')) (_:(¬ DQ a b (kU row)->∀ H',aG H H'->E (.ref C) none H'))
inductive yO(vs:List V)(H:Hp)(Q:VK)(E:XK):Prop
 | mk (r:Addr) (row:Row) (a b:Int) (_:vs=[.ref r,.int a,.int b]) (_:cL H r row) (_:row.length<=1000000) (_ :
 ∀ (q:Addr) (H':Hp),cL H' q (qg a b 0 row)->aG H H'->H q=none->Q (.ref q) H')
inductive Qf(C:Addr)(vs:List V)(H:Hp)(Q:VK)(E:XK):Prop
 | mk (r:Addr) (row:Row) (a b:Int) (_:vs=[.ref r,.int a,.int b]) (_:cL H r row) (_:row.length<=1000000) (_:m6 a) (_:m6 b) (_:m6 (kU row)) (_:(DQ a b (kU row)->∀ (q:Addr) (H':Hp),cL H' q (cJ (qg a b 0 row))->aG H H'->H q=none->Q (.ref q) H')) (_:(¬ DQ a b (kU row)->∀ H',aG H H'->E (.ref C) none H'))
structure Ct(K:PySem.W.Frag)(mg:Str->Option Value)(C:Addr):Prop where
 m:mg "OutOfPlace"=some (.ref C)
 x:PySem.W.excIn K C [.type "ValueError",.type "Exception",.type "BaseException",.type "object"] "ValueError.__new__"=true
 h:PySem.W.exmOne K (.ref C) (.ref C)=some true
end jE
namespace jE
open L2 dF iP
theorem rN{P:Program}{w:World}{X:Cx}:oM (lP P w) X (λ_ _ _=>False):=λ_ _ _ _ _ _ _ h=>by
 obtain⟨_,_,_,_,_,_,_,_,_,_,z⟩:=h;exact z.elim
end jE
namespace jE
open L2 dF iP
theorem sS(r:Row)(ok:∀ p∈r,p.1<=p.2):bW (cJ r)=bW r:=by rw[Ck r ok,jH]
theorem uL(a b:Int)(row:Row)(ok:∀ p∈row,p.1<=p.2):bW (cJ (qg a b 0 row))=((bW row).take b.toNat).drop a.toNat:=by
 rw[sS _ (FQ a b row 0),wL a b row 0 ok,Int.sub_zero,Int.sub_zero]
theorem LR(s:Int):∀ (n k:Nat),k<n->(run s n)[k]?=some (s+k)
 | 0,k,h=>by omega
 | n+1,0,_=>by simp[run]
 | n+1,k+1,h=>by
  rw[run,List.getElem?_cons_succ,LR (s+1) n k (by omega)];congr 1;omega
theorem qU(r:Row):(cJ r).length<=r.length:=by
 have z:=HG r [];simpa [cJ] using z
end jE
namespace jE
open PySem.Spec PyProof.Rows L2 dF iP
theorem bS.append{H:Hp}{as bs:List Addr}{r q:Row}(h:bS H as r)(t:bS H bs q):bS H (as++bs) (r++q):=by
 induction h with
 | nil=>exact t
 | cons e _ ih=>exact .cons e ih
theorem WU{r q:Row}(h:∀ p∈r,p.1<=p.2)(g:∀ p∈q,p.1<=p.2):∀ p∈r++q,p.1<=p.2:=λp hp=>(List.mem_append.mp hp).elim (h p) (g p)
end jE
namespace L2
open PySem.Spec PyProof.Rows
section
variable {κ:Type} [DecidableEq κ]
def cW(kvs:List (κ × V))(k:κ):Option V:=(kvs.find? λkv=>decide (kv.1=k)).map (·.2)
def ic(kvs:List (κ × V))(k:κ)(v:V):List (κ × V) :=
 if (kvs.any λkv=>decide (kv.1=k))=true then kvs.map (λkv=>if kv.1=k then (kv.1,v) else kv) else kvs++[(k,v)]
theorem ko{p:κ × V}{r:List (κ × V)}{k:κ}(e:p.1=k):cW (p::r) k=some p.2:=by simp[cW,List.find?_cons,e]
theorem kq{p:κ × V}{r:List (κ × V)}{k:κ}(e:¬ p.1=k):cW (p::r) k=cW r k:=by simp[cW,List.find?_cons,e]
theorem rO(k:κ):∀ kvs:List (κ × V),(kvs.any λkv=>decide (kv.1=k))=(cW kvs k).isSome
 | []=>rfl
 | p::r=>by
  rw[List.any_cons];by_cases e:p.1=k
  ·simp only[ko e,decide_eq_true e,Bool.true_or,Option.isSome_some]
  ·rw[kq e,decide_eq_false e,Bool.false_or];exact rO k r
theorem HM(k j:κ)(y:V):∀ kvs:List (κ × V),cW (kvs.map λkv=>if kv.1=k then (kv.1,y) else kv) j=(cW kvs j).map λx=>if j=k then y else x
 | []=>rfl
 | p::r=>by
  have ih:=HM k j y r;rw[oK];by_cases h:p.1=k
  ·rw[if_pos h];by_cases e:p.1=j
   ·rw[ko (p:=(p.1,y)) e,ko e,Option.map_some,if_pos (e.symm.trans h)]
   ·rw[kq (p:=(p.1,y)) e,kq e,ih]
  ·rw[if_neg h];by_cases e:p.1=j
   ·rw[ko (p:=p) e,ko e,Option.map_some,if_neg (λz=>h (e.trans z))]
   ·rw[kq (p:=p) e,kq e,ih]
theorem EO(k j:κ)(y:V):∀ kvs:List (κ × V),cW kvs k=none->cW (kvs++[(k,y)]) j=if j=k then some y else cW kvs j
 | [],_=>by
  by_cases e:k=j
  ·rw[if_pos e.symm];exact ko (p:=(k,y)) e
  ·rw[if_neg (λz=>e z.symm)];exact kq (p:=(k,y)) e
 | p::r,hn=>by
  rw[List.cons_append];have hk:¬ p.1=k:=λz=>by rw[ko z]at hn;cases hn
  rw[kq hk]at hn;have ih:=EO k j y r hn;by_cases e:p.1=j
  ·rw[ko e,ko e,if_neg (λz=>hk (e.trans z))]
  ·rw[kq e,kq e,ih]
theorem pX(kvs:List (κ × V))(k j:κ)(y:V):cW (ic kvs k y) j=if j=k then some y else cW kvs j:=by
 unfold ic;by_cases a:(kvs.any λkv=>decide (kv.1=k))=true
 ·rw[if_pos a,HM];rw[rO]at a;by_cases e:j=k
  ·obtain⟨x,hx⟩:=Option.isSome_iff_exists.mp a;rw[if_pos e,e,hx,Option.map_some,if_pos rfl]
  ·rw[if_neg e]
   cases cW kvs j with
   | none=>rfl
   | some x=>rw[Option.map_some,if_neg e]
 ·rw[if_neg a];refine EO k j y kvs ?_;rw[rO]at a
  cases q:cW kvs k with
  | none=>rfl
  | some x=>rw[q]at a;exact (a rfl).elim
theorem ku(kvs:List (κ × V))(k:κ)(v:V):(ic kvs k v).length<=kvs.length+1:=by
 unfold ic;split
 ·rw[cS];omega
 ·rw[dX,qC,uA];omega
theorem Cu{kvs:List (κ × V)}{k:κ}(v:V)(h:cW kvs k=none):ic kvs k v=kvs++[(k,v)]:=by
 unfold ic;rw[rO,h];exact if_neg (by decide)
theorem wZ.zS{o:Option V}{u:Option Value}(r:wZ o u):o.isSome=u.isSome:=by
 cases o with
 | none=>cases u with
  | none=>rfl
  | some _=>exact (show False from r).elim
 | some _=>cases u with
  | none=>exact (show False from r).elim
  | some _=>rfl
theorem KV.val{kvs:List (κ × V)}{vs:List (κ × Value)}(r:KV kvs vs)(k:κ):wZ (cW kvs k) (valueAt vs k):=by
 unfold KV at r
 induction r with
 | nil=>exact True.intro
 | @cons p q ps qs h t ih =>
  obtain⟨h1,h2⟩:=h;by_cases e:p.1=k
  ·have e':q.1=k:=h1.symm.trans e;have b:valueAt (q::qs) k=some q.2:=by simp[valueAt,List.find?_cons,e']
   rw[ko e,b];exact h2
  ·have e':¬ q.1=k:=λz=>e (h1.trans z);have b:valueAt (q::qs) k=valueAt qs k:=by simp[valueAt,List.find?_cons,e']
   rw[kq e,b];exact ih
theorem KV.any{kvs:List (κ × V)}{vs:List (κ × Value)}(r:KV kvs vs)(k:κ):(kvs.any λkv=>decide (kv.1=k))=vs.any λkv=>decide (kv.1=k):=by
 unfold KV at r
 induction r with
 | nil=>rfl
 | cons h t ih=>rw[List.any_cons,List.any_cons,ih,h.1]
theorem KV.repl{kvs:List (κ × V)}{vs:List (κ × Value)}(r:KV kvs vs)(k:κ){y:V}{u:Value}(ry:RelV y u) :
  KV (kvs.map λkv=>if kv.1=k then (kv.1,y) else kv) (vs.map λkv=>if kv.1=k then (kv.1,u) else kv):=by
 unfold KV at r ⊢
 induction r with
 | nil=>exact .nil
 | @cons p q ps qs h t ih =>
  rw[oK,oK];refine .cons ?_ ih;obtain⟨h1,h2⟩:=h;by_cases e:p.1=k
  ·rw[if_pos e,if_pos (h1.symm.trans e)];exact⟨h1,ry⟩
  ·rw[if_neg e,if_neg (λz=>e (h1.trans z))];exact⟨h1,h2⟩
theorem KV.put{kvs:List (κ × V)}{vs:List (κ × Value)}(r:KV kvs vs)(k:κ){y:V}{u:Value}(ry:RelV y u):KV (ic kvs k y) (stored vs k u):=by
 unfold ic stored;rw[r.any k];by_cases e:(vs.any λkv=>decide (kv.1=k))=true
 ·rw[if_pos e,if_pos e];exact r.repl k ry
 ·rw[if_neg e,if_neg e];exact Paired.snoc r ⟨rfl,ry⟩
theorem KV.length{kvs:List (κ × V)}{vs:List (κ × Value)}(r:KV kvs vs):kvs.length=vs.length:=Paired.length r
end
theorem ER{P:Program}{w:World}{k:iz}{u:Value}(r:RelV (kV k) u):(iY P w).is k u=true:=by
 cases k with
 | inl i=>obtain⟨t,e⟩:=(show ∃ t,u=Value.int i t from r);subst e;exact G2 P w i t
 | inr x=>obtain⟨t,e⟩:=(show ∃ t,u=Value.str x t from r);subst e;exact G3 P w x t
theorem ES{P:Program}{w:World}:∀ {ks:List iz} {us:List Value},cG (ks.map kV) us->ItemsAre (iY P w) ks us
 | [],_,r=>by rw[List.map_nil]at r;cases r;exact .nil
 | k::ks,_,r=>by
  rw[oK]at r
  cases r with
  | cons h t=>exact .cons (ER h) (ES t)
abbrev KT(H:Hp):List (List iz × V)->List (List iz × Addr × Value)->Prop:=Paired λp q=>p.1=q.1/\H q.2.1=some (.tup (p.1.map kV))/\RelV p.2 q.2.2
theorem KT.val{H:Hp}{kvs:List (List iz × V)}{xs:List (List iz × Addr × Value)}(r:KT H kvs xs)(k:List iz):wZ (cW kvs k) ((atKey xs k).map (·.2)):=by
 induction r with
 | nil=>exact True.intro
 | @cons p q ps qs h t ih =>
  obtain⟨h1,_,h2⟩:=h;by_cases e:p.1=k
  ·have e':q.1=k:=h1.symm.trans e;have b:atKey (q::qs) k=some q.2:=by simp[atKey,List.find?_cons,e']
   rw[ko e,b];exact h2
  ·have e':¬ q.1=k:=λz=>e (h1.trans z);have b:atKey (q::qs) k=atKey qs k:=by simp[atKey,List.find?_cons,e']
   rw[kq e,b];exact ih
theorem KT.repl{H:Hp}{kvs:List (List iz × V)}{xs:List (List iz × Addr × Value)}(r:KT H kvs xs)(k:List iz){y:V}{u:Value}(ry:RelV y u) :
  KT H (kvs.map λkv=>if kv.1=k then (kv.1,y) else kv) (xs.map (putAt k u)):=by
 induction r with
 | nil=>exact .nil
 | @cons p q ps qs h t ih =>
  rw[oK,oK];refine .cons ?_ ih;obtain⟨h1,h2,h3⟩:=h;unfold putAt;by_cases e:p.1=k
  ·rw[if_pos e,if_pos (h1.symm.trans e)];exact⟨h1,h2,ry⟩
  ·rw[if_neg e,if_neg (λz=>e (h1.trans z))];exact⟨h1,h2,h3⟩
theorem KT.put{H:Hp}{kvs:List (List iz × V)}{xs:List (List iz × Addr × Value)}(r:KT H kvs xs)(k:List iz){b:Addr}{y:V}{u:Value}(hb:H b=some (.tup (k.map kV)))(ry:RelV y u) :
  KT H (ic kvs k y) (storedH xs k b u):=by
 have e:(kvs.any λkv=>decide (kv.1=k))=(atKey xs k).isSome:=by
  rw[rO,(r.val k).zS,Option.isSome_map]
 unfold ic storedH;rw[e];by_cases q:(atKey xs k).isSome=true
 ·rw[if_pos q,if_pos q];exact r.repl k ry
 ·rw[if_neg q,if_neg q];exact Paired.snoc r ⟨rfl,hb,ry⟩
theorem KT.keeps{H H':Hp}{kvs:List (List iz × V)}{xs:List (List iz × Addr × Value)}(r:KT H kvs xs)(ht:∀ b ys,H b=some (.tup ys)->H' b=some (.tup ys)):KT H' kvs xs :=
 Paired.JM r λ_ _ z=>⟨z.1,ht _ _ z.2.1,z.2.2⟩
section
variable {P:Program} {w:World} {H:Hp} {h:Heap} {a:Addr}
theorem U5{u:HO}(ok:wz P w H h)(e:Rd H a u):iZ P w H h a u:=e.ok ok
theorem HN{kvs:List (iz × V)}(ok:wz P w H h)(e:Rd H a (.dK kvs)):kvs.length<=sizeLine/\(a == sysModules)=false/\∃ vs,KV kvs vs/\h.DictOf (iY P w) a vs :=
 show iZ P w H h a (.dK kvs) from U5 ok e
theorem Qg{kvs:List (iz × V)}(ok:wz P w H h)(e:H a=some (.dK kvs)):kvs.length<=sizeLine/\(a == sysModules)=false/\∃ vs,KV kvs vs/\h.DictOf (iY P w) a vs:=HN ok (.inl e)
theorem FT{ks:List iz}(ok:wz P w H h)(e:H a=some (.tup (ks.map kV))):(tupleKind (iY P w)).is h ks a:=by
 obtain⟨_,aP,r,o,h1,h2,n,h3⟩:=(show iZ P w H h a (.tup (ks.map kV)) from ok a _ e);exact⟨o,aP.toArray,n,h1,h2,h3,by simpa using ES r⟩
theorem HP{kvs:List (List iz × V)}(ok:wz P w H h)(e:Rd H a (.dT kvs)):kvs.length<=sizeLine/\(a == sysModules)=false/\
  ∃ xs,KT H kvs xs/\h.DictOfH (tupleKind (iY P w)) a xs:=by
 obtain⟨z,y,xs,r,o,es,ep,h1,h2,h3,h4,h5⟩:=(show iZ P w H h a (.dT kvs) from U5 ok e);refine⟨z,y,xs,r,o,es,ep,h1,h2,h3,h4,λx hx=>?_,h5⟩
 have all:∀ {l:List (List iz × V)} {m:List (List iz × Addr × Value)},KT H l m->∀ x∈m,(tupleKind (iY P w)).is h x.1 x.2.1:=by
  intro l m q
  induction q with
  | nil=>intro x hx;exact nomatch hx
  | @cons p q ps qs hq t ih =>
   intro x hx;rcases List.mem_cons.mp hx with e|hx
   ·subst e;exact FT ok (by rw[← hq.1];exact hq.2.1)
   ·exact ih x hx
 exact all r x hx
theorem Zw{kvs:List (List iz × V)}(ok:wz P w H h)(e:H a=some (.dT kvs)):kvs.length<=sizeLine/\(a == sysModules)=false/\
  ∃ xs,KT H kvs xs/\h.DictOfH (tupleKind (iY P w)) a xs:=HP ok (.inl e)
end
def nI(H:Hp)(a:Addr)(y:V)(r:Option V):Prop :=
 (∃ kvs k,Rd H a (.dK kvs)/\y=kV k/\r=cW kvs k)\/∃ kvs k b,Rd H a (.dT kvs)/\y=.ref b/\H b=some (.tup (k.map kV))/\r=cW kvs k
def FU(H:Hp)(a:Addr)(y v:V)(H':Hp):Prop :=
 (∃ kvs k,H a=some (.dK kvs)/\y=kV k/\kvs.length<sizeLine/\H'=aQ H a (.dK (ic kvs k v)))\/
 ∃ kvs k b,H a=some (.dT kvs)/\y=.ref b/\H b=some (.tup (k.map kV))/\kvs.length<sizeLine/\H'=aQ H a (.dT (ic kvs k v))
theorem nI.k{H:Hp}{a:Addr}{kvs:List (iz × V)}{k:iz}(e:H a=some (.dK kvs)):nI H a (kV k) (cW kvs k):=.inl ⟨kvs,k,.inl e,rfl,rfl⟩
theorem FU.k{H:Hp}{a:Addr}{kvs:List (iz × V)}{k:iz}{v:V}(e:H a=some (.dK kvs))(hl:kvs.length<sizeLine):FU H a (kV k) v (aQ H a (.dK (ic kvs k v))):=.inl ⟨kvs,k,e,rfl,hl,rfl⟩
section
variable {X:Cx} {ao:List (Addr × Obj)} {σ:St} {H:Hp} {s:Shared} {a:Addr} {y v:V} {u r:Value} {o:Option V} {A:Around} {E:Value->Shared->Prop}
theorem Inv.big(I:Inv X ao σ H s):sysModules<s.heap.objs.size:=by
 have h:mainGlobals<s.heap.objs.size:=(I.mod.glob.keeps I.bk).lt;exact Nat.lt_trans (by decide) h
theorem NG{Q:Value->Shared->Prop}(hu:A.units+1<cLine)(I:Inv X ao σ H s)(g:nI H a y (some v))(ry:RelV y u)(h:∀ w' s',Inv X ao σ H s'->RelV v w'->Q w' s') :
  wpAny (model X.prog X.w) A (getItem (.ref a) u) Q E s:=by
 rcases g with ⟨kvs,k,e,ey,l⟩|⟨kvs,k,b,e,ey,eb,l⟩
 ·subst ey;obtain⟨z,hd,vs,AR,dd⟩:=HN I.hok e;obtain⟨w',hw,jW⟩:=wZ.some_of (v:=v) (o:=valueAt vs k) (by rw[l];exact AR.val k);exact wpAny_getItem_of (ER ry) dd.mapOf hw (h w' _ (I.tok _) jW)
 ·subst ey;cases (show u=Value.ref b from ry);obtain⟨z,hd,xs,AR,dd⟩:=HP I.hok e;obtain⟨w',hw,jW⟩:=wZ.some_of (v:=v) (o:=(atKey xs k).map (·.2)) (by rw[l];exact AR.val k);obtain⟨p,hp,U6⟩:=Option.map_eq_some_iff.mp hw;refine wpAny_getItem_heap (tupleKind_room_in1 hu) (FT I.hok eb) dd hp ?_;rw[U6];exact h w' _ (I.tok _) jW
theorem Tr{Q:Value->Shared->Prop}(hu:A.units+1<cLine)(I:Inv X ao σ H s)(g:nI H a y o)(ry:RelV y u)(h:∀ s',Inv X ao σ H s'->Q (.bool (!o.isSome)) s') :
  wpAny (model X.prog X.w) A (compareOp .NotIn u (.ref a)) Q E s:=by
 rcases g with ⟨kvs,k,e,ey,l⟩|⟨kvs,k,b,e,ey,eb,l⟩
 ·subst ey;obtain⟨z,hd,vs,AR,dd⟩:=HN I.hok e;refine wpAny_notIn_of (ER ry) hd dd.mapOf ?_;rw[← (AR.val k).zS,← l];exact h _ (I.tok _)
 ·subst ey;cases (show u=Value.ref b from ry);obtain⟨z,hd,xs,AR,dd⟩:=HP I.hok e;refine wpAny_notIn_heap (tupleKind_room_in1 hu) (FT I.hok eb) hd dd ?_;have q:=(AR.val k).zS;rw[Option.isSome_map]at q;rw[← q,← l];exact h _ (I.tok _)
theorem BF{h':Heap}{t':Nat}{ob:HO}(I:Inv X ao σ H s)(mu:Yu (H a))(hs:Heap.SameBut a s.heap h')(he:∃ q,h'.get? a=some q)(new:iZ X.prog X.w (aQ H a ob) h' a ob) :
  Inv X ao σ (aQ H a ob) { s with heap:=h',toks:=t' } :=
 I.write (x:=a) (e:=a) mu (.inl rfl) (λb q hb z=>(hs.2 b hb).trans z) he new
theorem Km{P:Program}{w:World}{H':Hp}{h':Heap}{kvs:List (iz × V)}{vs:List (iz × Value)}(z:kvs.length<=sizeLine)(hd:(a == sysModules)=false)(AR:KV kvs vs)(dd:h'.DictOf (iY P w) a vs) :
  iZ P w H' h' a (.dK kvs):=⟨z,hd,vs,AR,dd⟩
theorem NH{H':Hp}{Q:Unit->Shared->Prop}(hu:A.units+1<cLine)(I:Inv X ao σ H s)(g:FU H a y v H')(ry:RelV y u)(rv:RelV v r)(h:∀ s',Inv X ao σ H' s'->Q () s') :
  wpAny (model X.prog X.w) A (setItem (.ref a) u r) Q E s:=by
 rcases g with ⟨kvs,k,e,ey,l,eH⟩|⟨kvs,k,b,e,ey,eb,l,eH⟩
 ·subst ey eH;obtain⟨z,hd,vs,AR,dd⟩:=Qg I.hok e;have hz:vs.length<=sizeLine:=by rw[← AR.length];exact z
  have hl:(ic kvs k v).length<=sizeLine:=by have:=ku kvs k v;omega
  refine wpAny_setItem_pairs (hsz:=hz) (ER ry) dd λh' RW hs=>h _ ?_;have he:∃ q,h'.get? a=some q:=let ⟨q,_,_,hq,_⟩:=RW;⟨q,hq⟩;exact BF I (by rw[e];exact True.intro) hs he (Km hl hd (AR.put k rv) RW)
 ·subst ey eH;cases (show u=Value.ref b from ry);obtain⟨z,hd,xs,AR,dd⟩:=Zw I.hok e;have hz:xs.length<=sizeLine:=by rw[← Paired.length AR];exact z
  have hl:(ic kvs k v).length<=sizeLine:=by have:=ku kvs k v;omega
  refine wpAny_setItem_heap (hsz:=hz) (tupleKind_room_in1 hu) (FT I.hok eb) dd λh' RW hs=>h _ ?_;obtain⟨q,es,ep,hq,h2,h3,h4,_,h5⟩:=RW;refine BF I (by rw[e];exact True.intro) hs ⟨q,hq⟩ ⟨hl,hd,_,(AR.put k eb rv).keeps λc ys ec=>?_,q,es,ep,hq,h2,h3,h4,h5⟩;rw[aL (eL ec e (λz=>nomatch z))];exact ec
end
def WV(i:Expr):Prop:=∀ ov iv,subscripted i false ov iv=operate [ov,iv] (getItem ov iv)
theorem Tt{prog:Program}{w:World}{A:Around}{E:Value->Shared->Prop}{s:Shared}{env:Env}{T id:String}{Q:Value->Shared->Prop}
  (hl:typeLookup (.type T) "__getitem__"=pure (some (.builtin id))) (hs:WV yI)
  (h:wpAny (model prog w) A (eval value env) (λo s₁=>wpAny (model prog w) A (eval yI env) (λi s₂=>s₂.TypeIs o T/\wpAny (model prog w) A (getItem o i) Q E s₂) E s₁) E s) :
  wpAny (model prog w) A (eval (.Subscript value yI pos) env) Q E s:=by
 refine Subscript_ (wpAny_mono h (λo s₁ h₁=>wpAny_mono h₁ (λi s₂ h₂=>?_) λ_ _ x=>x) λ_ _ x=>x);obtain⟨hT,h₂⟩:=h₂;unfold subscriptTail;refine wpAny_bind ?_;rw[getitemInPython_of_ne hT.not_modules];refine wpAny_bind (wpAny_specialOf hT hl ?_)
 have oB:wpAny (model prog w) A (subscripted yI false o i) (λr s₃=>wpAny (model prog w) A (letTemporaryGo value o r >>= λ_=>pure r) Q E s₃) E s₂:=by
  rw[hs o i];exact wpAny_operating (wpAny_mono h₂ (λr s₃ h₃=>wpAny_bind (wpAny_letTemporaryGo (wpAny_pure h₃))) λ_ _ x=>x)
 first
  | exact wpAny_pure (wpAny_bind oB)
  | exact wpAny_bind (wpAny_pure (wpAny_bind oB))
  | exact wpAny_bind oB
theorem HQ{X:Cx}{σ:St}{H:Hp}{s:Shared}{a:Addr}{y:V}{o:Option V}(I:Inv X ao σ H s)(g:nI H a y o):s.TypeIs (.ref a) "dict":=by
 rcases g with ⟨kvs,k,e,_,_⟩|⟨kvs,k,b,e,_,_,_⟩
 ·obtain⟨_,_,vs,_,dd⟩:=HN I.hok e;exact dd.typeIs
 ·obtain⟨_,_,xs,_,dd⟩:=HP I.hok e;exact dd.typeIs
inductive Zx(x y:V)(H:Hp)(Q:VK):Prop
 | mk (a:Addr) (v:V) (_:x=.ref a) (_:nI H a y (some v)) (_:Q v H):Zx x y H Q
def U7(td ty:TE):TE:=fun σ H Q=>td σ H λx H1=>ty σ H1 λy H2=>Zx x y H2 Q
def Tu(ty td:TE):TE:=fun σ H Q=>ty σ H λy H1=>td σ H1 λx H2=>∃ a o,x=.ref a/\nI H2 a y o/\Q (.bl (!o.isSome)) H2
def Zy(td ty tv:TE):TS:=λD σ H=>tv σ H λv H1=>td σ H1 λx H2=>ty σ H2 λy H3=>∃ a H4,x=.ref a/\FU H3 a y v H4/\D.nx σ H4
section
variable {X:Cx} {o i e value:Expr} {pos l5 Nf:Pos} {td ty tv:TE}
theorem Tv(hu:X.A.units+1<cLine)(ho:PE X o td)(hi:PE X i ty)(hs:WV i):PE X (.Subscript o i pos) (U7 td ty):=by
 intro ao s σ H Q I h;refine Tt PySem.F.slot_dict_getitem.lookup hs (dB (ho ao s σ H _ I h) λu s1 ⟨x,H1,I1,rx,q1⟩=>dB (hi ao s1 σ H1 _ I1 q1) λiv s2 DG=>?_);obtain⟨y,H2,I2,ry,a,v,ex,g,q2⟩:=DG;subst ex;obtain rfl:u=Value.ref a:=rx;exact⟨HQ I2 g,NG hu I2 g ry λw' s3 I3 jW=>⟨v,H2,I3,jW,q2⟩⟩
theorem ET(hu:X.A.units+1<cLine)(hi:PE X i ty)(ho:PE X o td):PC X .NotIn i o (Tu ty td):=by
 intro ao s σ H Q I h;refine dB (hi ao s σ H _ I h) λiv s1 ⟨y,H1,I1,ry,q1⟩=>dB (ho ao s1 σ H1 _ I1 q1) λu s2 DH=>?_;obtain⟨x,H2,I2,rx,a,ov,ex,g,q2⟩:=DH;subst ex;obtain rfl:u=Value.ref a:=rx;exact Tr hu I2 g ry λs3 I3=>⟨.bl (!ov.isSome),H2,I3,rfl,q2⟩
theorem yP(hu:X.A.units+1<cLine)(ho:PE X o td)(hi:PE X i ty)(hv:PE X value tv)(hs:swapsWith value (some (.Subscript o i l5)) pos.line X.env=pure false) :
  PS X (.Assign [.Subscript o i l5] value pos) (Zy td ty tv):=by
 intro ao s σ H D I h;refine wpAny_Assign_Subscript (dB (hv ao s σ H _ I h) λr s1 ⟨v,H1,I1,rv,q1⟩=>dB (ho ao s1 σ H1 _ I1 q1) λu s2 ⟨x,H2,I2,rx,q2⟩=>dB (hi ao s2 σ H2 _ I2 q2) λiv s3 ⟨y,H3,I3,ry,a,H4,ex,g,q3⟩=>?_) hs;subst ex;obtain rfl:u=Value.ref a:=rx;exact NH hu I3 g ry rv λs4 I4=>⟨σ,H4,I4,q3⟩
end
theorem HR{P:Program}{w:World}{H:Hp}(h:Heap)(hb:sysModules<h.objs.size):iZ P w H (h.push { cls:=.type "dict",data:=.dict #[] }) h.objs.size (.dK []) :=
 ⟨Nat.zero_le _,beq_eq_false_iff_ne.mpr (Ne.symm (qo hb)),[],.nil,Heap.DictOf.new h⟩
def WW:TE:=λ_ H Q=>∀ p,H p=none->Q (.ref p) (aQ H p (.dK []))
section
variable {X:Cx} {pos:Pos}
theorem rP:PE X (.Dict [] [] pos) WW:=λao s σ H Q I h =>
 wpAny_Dict_empty ⟨.ref s.heap.objs.size,_,I.laid (a:=s.heap.objs.size) (o:=.dK []) (t':=s.toks) (λ_ _ q=>Heap.get?_push_of_some _ q) (jz _) (HR s.heap I.big),rfl,h _ (I.hok.fresh (jz _))⟩
end
def Kn:List (TE × TE)->St->Hp->(List (V × V)->Hp->Prop)->Prop
 | [],_,H,Q=>Q [] H
 | (tk,tv)::r,σ,H,Q=>tk σ H λx H1=>tv σ H1 λy H2=>Kn r σ H2 λps H3=>Q ((x,y)::ps) H3
abbrev VV:List (V × V)->List (Value × Value)->Prop:=Paired λp q=>RelV p.1 q.1/\RelV p.2 q.2
def PPs(X:Cx)(pos:Pos)(HS:List (Option Expr))(Cv:List Expr)(Tw:List (TE × TE)):Prop :=
 ∀ (ao:List (Addr × Obj)) (s:Shared) (σ:St) (H:Hp) (Q:List (V × V)->Hp->Prop),Inv X ao σ H s->Kn Tw σ H Q->
  wpAny (model X.prog X.w) X.A (evalPairs (pairTrees HS Cv X.env pos)) (λvs s'=>∃ ps H',Inv X ao σ H' s'/\VV ps vs/\Q ps H') X.xe s
theorem Tz{X:Cx}:PPs X pos [] [] []:=λao s σ H Q I h=>pairTrees_nil_walk ⟨[],H,I,.nil,h⟩
theorem yQ{X:Cx}{k:Expr}{ks:List (Option Expr)}{tk tv:TE}{Tw:List (TE × TE)}(hk:PE X k tk)(hv:PE X v tv)(hr:PPs X pos ks vs Tw) :
  PPs X pos (some k::ks) (v::vs) ((tk,tv)::Tw):=λao s σ H Q I h =>
 pairTrees_cons_walk (dB (hk ao s σ H _ I h) λu s1 ⟨x,H1,I1,rx,q1⟩=>dB (hv ao s1 σ H1 _ I1 q1) λw2 s2 ⟨y,H2,I2,ry,q2⟩ =>
  dB (hr ao s2 σ H2 _ I2 q2) λws s3 ⟨ps,H3,I3,AR,q3⟩=>⟨(x,y)::ps,H3,I3,.cons ⟨rx,ry⟩ AR,q3⟩)
def zT(kvs Ba:List (iz × V)):List (iz × V):=Ba.foldl (λacc kv=>ic acc kv.1 kv.2) kvs
theorem KV.merge:∀ {Ba:List (iz × V)} {rs:List (iz × Value)} {kvs:List (iz × V)} {vs:List (iz × Value)},KV Ba rs->KV kvs vs->KV (zT kvs Ba) (merged vs rs):=by
 intro Ba rs kvs vs r;unfold KV at r
 induction r generalizing kvs vs with
 | nil=>intro q;exact q
 | @cons p q ps qs h t ih =>
  intro r0
  have e:KV (ic kvs p.1 p.2) (stored vs q.1 q.2):=by
   have:=r0.put p.1 h.2;rw[← h.1];exact this
  exact ih e
theorem xE:∀ (Ba kvs:List (iz × V)),(zT kvs Ba).length<=kvs.length+Ba.length
 | [],kvs=>by show kvs.length<=kvs.length+0;omega
 | p::r,kvs=>by
  have h1:=xE r (ic kvs p.1 p.2);have h2:=ku kvs p.1 p.2;show (zT (ic kvs p.1 p.2) r).length<=_;rw[qC];omega
theorem Cw{P:Program}{w:World}:∀ {kvs:List (iz × V)} {ws:List (Value × Value)},VV (kvs.map λkv=>(kV kv.1,kv.2)) ws->∃ rs,Carries (iY P w) ws rs/\KV kvs rs
 | [],_,r=>by rw[List.map_nil]at r;cases r;exact⟨[],True.intro,.nil⟩
 | p::kvs,_,r=>by
  rw[oK]at r
  cases r with
  | @cons a b as bs h t =>
   obtain⟨rs,c,q⟩:=Cw (P:=P) (w:=w) t;obtain⟨b1,b2⟩:=b;exact⟨(p.1,b2)::rs,⟨ER h.1,rfl,c⟩,.cons ⟨rfl,h.2⟩ q⟩
def Qh(Tw:List (TE × TE)):TE:=fun σ H Q=>∀ p,H p=none->Kn Tw σ (aQ H p (.dK [])) λps H2=>H2 p=some (.dK [])/\∃ kvs:List (iz × V),ps=kvs.map (λkv=>(kV kv.1,kv.2))/\kvs.length<=15/\Q (.ref p) (aQ H2 p (.dK (zT [] kvs)))
theorem TF{X:Cx}{HS:List (Option Expr)}{Cv:List Expr}{Tw:List (TE × TE)}(h:PPs X pos HS Cv Tw)(Pp:HS.all (·.isSome)=true)(hl:HS.length=Cv.length)(h0:HS≠[])
  (h15:HS.length<=15):PE X (.Dict HS Cv pos) (Qh Tw):=by
 intro ao s σ H Q I q;have hn:=I.hok.fresh (jz s.heap.objs.size);have I1:=I.laid (a:=s.heap.objs.size) (o:=.dK []) (h':=s.heap.push { cls:=.type "dict",data:=.dict #[] }) (t':=s.toks) (λ_ _ q=>Heap.get?_push_of_some _ q) (jz _) (HR s.heap I.big);refine wpAny_Dict_walk (knd:=iY X.prog X.w) Pp hl h0 h15 (dB (h ao _ σ _ _ I1 (q _ hn)) λws s2 JP=>?_);obtain⟨ps,H2,I2,AR,e,kvs,ep,lk,q2⟩:=JP;subst ep;obtain⟨rs,c,rk⟩:=Cw (P:=X.prog) (w:=X.w) AR;obtain⟨z,hd,vs0,r0,dd⟩:=Qg I2.hok e;cases r0;refine⟨rs,c,dd,λh' RW hs=>⟨.ref s.heap.objs.size,_,?_,rfl,q2⟩⟩
 have hz:(zT [] kvs).length<=sizeLine:=by
  have h1:=xE kvs [];rw[uA]at h1;rw[sizeLine_eq];omega
 have he:∃ q,h'.get? s.heap.objs.size=some q:=let ⟨q,_,_,hq,_⟩:=RW;⟨q,hq⟩;exact BF I2 (by rw[e];exact True.intro) hs he (Km hz hd (rk.merge .nil) RW)
structure M2(X:Cx)(o:Expr)(m:Str)(qD:Pos)(e f:Expr)(sH:Pos):Prop where
 base:attributeBase o m X.env (eval o X.env)=eval o X.env
 few:((backTo sH (starEach [e,f] X.env)).all (λx=>!x.1)&&(backToKw sH (keywordEach [] X.env)).all (λx=>x.1.isSome)
  && decide (([e,f]:List Expr).length+([]:List Keyword).length+(if ([]:List Keyword).isEmpty then 0 else 1)<30))=true
 line:(qD.endLine == sH.line)=true
 trees:backTo sH (starEach [e,f] X.env)=[(false,eval e X.env),(false,eval f X.env)]
def IsD(H:Hp)(a:Addr):Prop:=(∃ kvs,Rd H a (.dK kvs))\/∃ kvs,Rd H a (.dT kvs)
theorem WX{X:Cx}{σ:St}{H:Hp}{s:Shared}{a:Addr}(I:Inv X ao σ H s)(d:IsD H a) :
  s.TypeIs (.ref a) "dict"/\(∀ b,Value.ref a=.ref b->∃ ob,s.heap.get? b=some ob/\ob.dict=none)/\(a == sysModules)=false:=by
 rcases d with ⟨kvs,e⟩|⟨kvs,e⟩
 ·obtain⟨_,hd,vs,_,dd⟩:=HN I.hok e;refine⟨dd.typeIs,λb q=>?_,hd⟩;cases q;obtain⟨ob,_,_,h1,h2,_⟩:=dd;exact⟨ob,h1,h2.2.1⟩
 ·obtain⟨_,hd,xs,_,dd⟩:=HP I.hok e;refine⟨dd.typeIs,λb q=>?_,hd⟩;cases q;obtain⟨ob,_,_,h1,h2,_⟩:=dd;exact⟨ob,h1,h2.2.1⟩
end L2
namespace dF
open PySem.Spec PyProof.Rows L2
def oz(X:Cx)(N:List Str)(scope:Scope)(cl:List (Str × Addr))(C:Addr)(s₀:Shared)(H₀:Hp)(ex:List Addr)(pn:List (Addr × Obj)):Cx where
 prog:=X.prog
 w:=X.w
 K:=X.K
 mg:=X.mg
 base:=X.base
 A:=X.A
 N:=N
 s₀:=s₀
 H₀:=H₀
 env:=compEnvC scope cl C X.env
 outer:=X.stack
 stack:=X.stack
 ex:=ex
 fn:=λ_=>false
 calm:=X.calm
 pn:=pn
 xe:=λ_ _=>False
structure EU(X:Cx)(N:List Str)(scope:Scope)(cl:List (Str × Addr))(jx:List (Option Nat)):Prop where
 kind:scope.kind=.function
 cell:∀ x∈scope.names,x.2≠.cell
 names:∀ x∈scope.names,x.2=.local->scope.names.lookup x.1=some .local
 clos:closureFor scope X.env=pure cl
 sub:∀ x c,cl.lookup x=some c->X.env.cells.lookup x=some c
 has:∀ x,((relabel scope X.env).names.lookup x=some .cell\/(relabel scope X.env).names.lookup x=some .free)->∃ c,cl.lookup x=some c
 len:jx.length=N.length
 free:∀ (i j:Nat) (x:Str),jx[i]?=some (some j)->N[i]?=some x->X.N[j]?=some x/\X.env.scope.names.lookup x=some .cell/\(relabel scope X.env).names.lookup x=some .cell
def ya(jx:List (Option Nat))(σ:L2.St):L2.St:=jx.map λo=>o.bind λj=>(σ[j]?).join
section
variable {X:Cx} {N:List Str} {scope:Scope} {cl:List (Str × Addr)} {jx:List (Option Nat)}
theorem AS{σ:L2.St}{H:Hp}{s:Shared}{fp:List Addr}{h₁:Heap}{t:Nat}(cs:EU X N scope cl jx)(I:Inv X ao σ H s)(hf:∀ b∈fp,vt X ao H b)(xu:∀ b∈fp,b<s.heap.objs.size)
  (Ov:h₁.Ns s.heap.objs.size λ_=>none) (hk:∀ b o,s.heap.get? b=some o->h₁.get? b=some o) :
  Inv (oz X N scope cl s.heap.objs.size s H fp (X.pn++ao)) [] (ya jx σ) H { s with heap:=h₁,toks:=t }:=by
 have sub:∀ {x c},(oz X N scope cl s.heap.objs.size s H fp (X.pn++ao)).env.cells.lookup x=some c->X.env.cells.lookup x=some c:=λ{x c} e=>cs.sub x c e
 refine⟨⟨I.ok.mod,cs.kind,I.ok.glob,I.ok.blt,jz _,λx y c e e'=>I.ok.inj x y c (sub e) (sub e'),λx hx=>cs.has x hx,λx c z _=>(by cases z),I.ok.hd,I.ok.frames,.inl rfl,λb hb=>⟨Nat.ne_of_lt (xu b hb),λx c e=>(hf b hb).2.2.2.2.1 x c (sub e)⟩,I.bs,lS I.ok.UE I.sz,λb o e hb=>?_,λb hb z=>?_,I.stack,I.Bx⟩,
  rfl,I.bare,Un.kept hk,⟨_,Ov,λi x v e1 e2 _=>?_⟩,λx c e=>?_,I.hok.fresh (jz _),λx c e=>I.xo x c (sub e),λp hp=>?_,I.hok.kept hk,by unfold ya;rw[cS];exact cs.len⟩
 ·rcases (hf b hb).2.2.2.1 with z|z
  ·exact I.ok.OT b o e z
  ·exact absurd (vp (Heap.lt_size (I.ok.bs b o e).1) z) (Nat.lt_irrefl _)
 ·rcases List.mem_cons.mp (I.zB b z) with e|e
  ·exact (hf b hb).2.1 e
  ·exact (hf b hb).2.2.1 e
 ·unfold ya at e2;rw[j3]at e2
  cases ej:jx[i]? with
  | none=>rw[ej]at e2;cases e2
  | some o =>
   rw[ej]at e2
   cases o with
   | none=>cases e2
   | some j =>
    have e3:σ[j]?=some (some v):=by
     have z:((σ[j]?).join)=some v:=vG e2
     cases hs:σ[j]? with
     | none=>rw[hs]at z;cases z
     | some q=>rw[hs]at z;exact congrArg some z
    obtain⟨f1,f2,f3⟩:=cs.free i j x ej e1;obtain⟨m,hn,hl⟩:=I.loc;obtain⟨u,ru,look⟩:=hl j x v f1 e3 (.inr (.inl f2));refine⟨u,ru,?_⟩;rcases look with ⟨k,_⟩|⟨_,c,hc,o,ho,hd⟩
    ·have k':X.env.scope.names.lookup x=some .local:=k;rw[f2]at k';cases k'
    ·obtain⟨c',Yz⟩:=cs.has x (.inl f3);have z:=cs.sub x c' Yz;rw[hc]at z;cases z;exact .inr ⟨.inl f3,c,Yz,o,hk _ _ ho,hd⟩
 ·obtain⟨v,o,ho,hd⟩:=I.cell x c (sub e);exact⟨v,o,hk _ _ ho,hd⟩
 ·have U8:p∈X.pn++ao:=by
   have z:p∈(X.pn++ao)++[]:=hp;simpa using z
  obtain⟨e,n,nl,nf,d⟩:=I.pin p U8;refine⟨hk _ _ e,n,qo (Heap.lt_size e),λz=>?_,d⟩;rcases List.mem_cons.mp (I.zB p.1 z) with e|e
  ·exact nl e
  ·exact nf e
theorem zU{σ σ':L2.St}{H H':Hp}{s s':Shared}{fp:List Addr}(I:Inv X ao σ H s)(hf:∀ b∈fp,vt X ao H b)(J:Inv (oz X N scope cl s.heap.objs.size s H fp (X.pn++ao)) [] σ' H' s'):Inv X ao σ H' s' :=
 I.UJ (ch:=fp) J.os J.base J.hok J.bare λb hb=>⟨(hf b hb).2.2.2.1,(hf b hb).2.1,(hf b hb).2.2.2.2.1,(hf b hb).2.2.2.2.2⟩
theorem zV{σ σ2:L2.St}{H H':Hp}{s s':Shared}{h':Heap}(I:Inv X ao σ H s)(I4:Inv X ao σ2 H' s')(Li:H' s.heap.objs.size=none)(hs:Heap.SameBut s.heap.objs.size s'.heap h'):Inv X ao σ2 H' { s' with heap:=h' }:=by
 refine I4.turned (t':=s'.toks) (it:=s.heap.objs.size) (λb o hb e=>hs.extBut _ _ hb e) Li (Nat.ne_of_gt I.lt) (.inr I.sz) (λx c e z=>?_) λp hp z=>?_
 ·obtain⟨v,o,ho,_⟩:=I.cell x c e;exact absurd (Heap.lt_size ho) (by rw[z];exact Nat.lt_irrefl _)
 ·exact absurd (Heap.lt_size (I.pin p hp).1) (by rw[z];exact Nat.lt_irrefl _)
def BG(J:It)(acc:Addr)(g:TG)(tt:TT)(te:TE)(σ0:L2.St)(H:Hp)(Q:VK):Prop :=
 ∃ W:Nat->Nat->L2.St->Hp->Prop,(∃ m,W 0 m σ0 H)/\∀ i m σ H,W i m σ H->
  (J.stop i H/\Q (.ref acc) H)\/(J.go i H/\∃ Nx:L2.St->Hp->Prop,(∀ σ' H',Nx σ' H'->∃ m',m'<m/\W (i+1) m' σ' H')/\∀ x H',J.RS i H x H'->g x σ H' fun σ2 H2=>tt σ2 H2 λb H3 =>
   if b=true then te σ2 H3 λv H4=>∃ xs,H4 acc=some (.lst xs)/\xs.length<sizeLine/\Nx σ2 (aQ H4 acc (.lst (xs++[v]))) else Nx σ2 H3)
def zW(jx:List (Option Nat))(wi:TI)(g:TG)(tt:TT)(te:TE):TE:=fun σ H Q=>wi σ H λJ H1=>∀ acc,H1 acc=none->BG J acc g tt te (ya jx σ) (aQ H1 acc (.lst [])) Q
theorem EV{iter:Expr}{wi:TI}{g:TG}{tt:TT}{te:TE}(cs:EU X N scope cl jx)(hc:X.calm=true)(hi:PI X tg iter wi)
  (hg:∀ C s₀ H₀ ex pn,PG (oz X N scope cl C s₀ H₀ ex pn) tg g) (ht:∀ C s₀ H₀ ex pn,Ny (oz X N scope cl C s₀ H₀ ex pn) oF tt) (he:∀ C s₀ H₀ ex pn,PE (oz X N scope cl C s₀ H₀ ex pn) pG te)
  (hs:∀ x,foldedSetIterable iter X.env x=pure x) {use:Option (Value->Sem Unit)} {Q':Value->Shared->Prop} {Q:VK} {ao:List (Addr × Obj)} {s:Shared} {σ:L2.St} {H:Hp} (I:Inv X ao σ H s) (h:zW jx wi g tt te σ H Q)
  (oB:∀ (s3:Shared) (H3:Hp) (fp:List Addr) (acc:Addr) (σ6:L2.St) (H6:Hp) (s7:Shared),Inv X ao σ H3 s3->(∀ b∈fp,vt X ao H3 b)->Inv (oz X N scope cl s3.heap.objs.size s3 H3 fp (X.pn++ao)) [] σ6 H6 s7->Q (.ref acc) H6->
   compPost (model X.prog X.w) X.A X.xe use Q' (.ref acc) s3.heap.objs.size (.ok .next) s7) :
  wpAny (model X.prog X.w) X.A (comprehension (.ListComp pG [⟨tg,iter,oF,0⟩] scope pos) scope X.env l5 (newList []) false (eval iter X.env) use) Q' X.xe s:=by
 refine wpAny_comprehension_free (use:=use) rfl hs cs.clos cs.kind cs.names (dB (hi ao s σ H _ I h) λv s1 h1=>dB h1 λYJ s2 h2=>?_);obtain⟨it,fp,tn,J,H2,e,I2,T,st2,f2,q⟩:=h2;subst e;refine wpAny_newObj_type (hd:=by size_fits) ?_;have fH:H2 s2.heap.objs.size=none:=I2.hok.fresh (jz _);have I3:Inv X ao σ (aQ H2 s2.heap.objs.size (.lst [])) { s2 with heap:=s2.heap.push { cls:=.type "list",data:=.seq ([]:List Value).toArray },toks:=s2.toks }:=I2.SO (ys:=[]) .nil (Nat.zero_le _)
 have Zz:∀ b∈fp,b<s2.heap.objs.size:=λb hb=>by
  obtain⟨o,ho,_⟩:=T.obj _ _ st2 b hb;exact Heap.lt_size ho
 have f3:∀ b∈fp,vt X ao (aQ H2 s2.heap.objs.size (.lst [])) b:=λb hb=>⟨by rw[aL (qo (Zz b hb))];exact (f2 b hb).1,(f2 b hb).2⟩;have k3:∀ b o,s2.heap.get? b=some o->(s2.heap.push { cls:=.type "list",data:=.seq ([]:List Value).toArray }).get? b=some o:=λb o e=>Heap.get?_push_of_some _ e;have q3:=q _ fH;generalize hs3:({ s2 with heap:=s2.heap.push { cls:=.type "list",data:=.seq ([]:List Value).toArray },toks:=s2.toks }:Shared)=s3 at I3;generalize hH3:aQ H2 s2.heap.objs.size (.lst [])=H3 at I3 f3 q3;have ZA:s3.heap=s2.heap.push { cls:=.type "list",data:=.seq ([]:List Value).toArray }:=by rw[← hs3]
 have LS:∀ b∈fp,b<s3.heap.objs.size:=λb hb=>by rw[ZA,Heap.size_push];exact Nat.lt_succ_of_lt (Zz b hb)
 have st3:tn 0 s3.heap:=T.keep _ _ _ st2 λb _ o e=>by rw[ZA];exact k3 b o e
 show wpAny _ _ _ _ _ s3;refine wpAny_newFunctionEnv cs.cell (λy hy=>by simp at hy) (λh₁ Ov TH=>?_) cs.kind;have kh:∀ b o,s3.heap.get? b=some o->h₁.get? b=some o:=λb o e=>TH.extBut _ _ (qo (Heap.lt_size e)) (Heap.get?_push_of_some _ e);have J0:Inv (oz X N scope cl s3.heap.objs.size s3 H3 fp (X.pn++ao)) [] (ya jx σ) H3 { s3 with heap:=h₁,toks:=s3.toks+([]:List (Str × Value)).length }:=AS cs I3 f3 LS Ov kh;have ZC:tn 0 h₁:=T.keep _ _ _ st3 λb _ o e=>kh b o e;obtain⟨W,⟨m0,w0⟩,xS⟩:=q3
 have xU:∀ {H':Hp},(∀ b∈fp,H' b=none)->∀ b∈fp,vt (oz X N scope cl s3.heap.objs.size s3 H3 fp (X.pn++ao)) [] H' b:=λhn b hb=>by
  refine⟨hn b hb,qo (LS b hb),λz=>?_,.inl hb,λx c e=>(f3 b hb).2.2.2.2.1 x c (cs.sub x c e),λp hp=>?_⟩
  ·rcases List.mem_cons.mp (I3.zB b z) with e|e
   ·exact (f3 b hb).2.1 e
   ·exact (f3 b hb).2.2.1 e
  ·have U8:p∈X.pn++ao:=by
    have z:p∈(X.pn++ao)++[]:=hp;simpa using z
   exact (f3 b hb).2.2.2.2.2 p U8
 have loop:∀ s5:Shared,s5={ s3 with heap:=h₁,toks:=s3.toks+([]:List (Str × Value)).length }->codeAny (model X.prog X.w) X.A (.compLoop (.ListComp pG [⟨tg,iter,oF,0⟩] scope pos) 0 (.ref it) (.ref s2.heap.objs.size) (oz X N scope cl s3.heap.objs.size s3 H3 fp (X.pn++ao)).env)
   (compPost (model X.prog X.w) X.A X.xe use Q' (.ref s2.heap.objs.size) s3.heap.objs.size) s5:=by
  rintro s5 rfl;refine Nv (λn s'=>∃ i σ' H',Inv (oz X N scope cl s3.heap.objs.size s3 H3 fp (X.pn++ao)) [] σ' H' s'/\tn i s'.heap/\(∀ b∈fp,H' b=none)/\W i n σ' H') ?_ m0 ⟨0,_,H3,J0,ZC,λb hb=>(f3 b hb).1,w0⟩;rintro n s6 ⟨i,σ6,H6,I6,UZ,Ow,w6⟩;rcases xS i n σ6 H6 w6 with ⟨stop,qn⟩|⟨go,Nx,hN,step⟩
  ·refine dB (T.done (oz X N scope cl s3.heap.objs.size s3 H3 fp (X.pn++ao)) rfl rfl rfl hc i [] s6 σ6 H6 _ I6 (xU Ow) UZ stop) λr s7 G8=>?_;obtain⟨hr,I7⟩:=G8;subst hr;exact oB s3 H3 fp _ σ6 H6 s7 I3 f3 I7 qn
  ·refine dB (T.item (oz X N scope cl s3.heap.objs.size s3 H3 fp (X.pn++ao)) rfl rfl rfl hc i [] s6 σ6 H6 _ I6 (xU Ow) UZ go) λr s7 G9=>?_;obtain⟨u,hr,h7⟩:=G9;subst hr;refine dB h7 λ_ s8 JP=>?_;obtain⟨x,H8,I8,r8,y8,P7,FO⟩:=JP;have Zr:=I8.pinned (xU FO) (T.obj _ _ P7);refine dB (hg _ _ _ _ _ _ s8 σ6 H8 x u _ Zr r8 (step x H8 y8)) λ_ s9 JO=>?_;obtain⟨σ9,H9,I9,q9⟩:=JO;refine dB (ht _ _ _ _ _ _ s9 σ9 H9 _ I9 q9) λok RV DG=>?_;obtain⟨P8,U0,ED⟩:=DG
   have again:∀ {σ7:L2.St} {H7:Hp} {xD:Shared},Inv (oz X N scope cl s3.heap.objs.size s3 H3 fp (X.pn++ao)) ([]++xT fp s8.heap) σ7 H7 xD->Nx σ7 H7->∃ m,m<n/\∃ i σ' H',Inv (oz X N scope cl s3.heap.objs.size s3 H3 fp (X.pn++ao)) [] σ' H' xD/\tn i xD.heap/\(∀ b∈fp,H' b=none)/\W i m σ' H':=λ{σ7 H7 xD} I7 n7=>by
    obtain⟨m',hm,w7⟩:=hN σ7 H7 n7;refine⟨m',hm,i+1,σ7,H7,I7.tY,T.keep _ _ _ P7 λb hb o e=>(I7.pin (b,o) (uy _ (uy _ (j6 hb e)))).1,λb hb=>?_,w7⟩;obtain⟨o,e,d⟩:=T.obj _ _ P7 b hb;exact (I7.pin (b,o) (uy _ (uy _ (j6 hb e)))).2.1
   cases ok with
   | false =>
    rw[if_neg vo]at ED;exact again U0 ED
   | true =>
    rw[if_pos rfl]at ED;refine dB (he _ _ _ _ _ _ RV σ9 P8 _ U0 ED) λv xD G7=>?_;obtain⟨y,Zs,I11,r11,xs,hx,hz,n11⟩:=G7;refine dB (cy _ xD σ9 Zs (.ref s2.heap.objs.size) [y] (.ref s2.heap.objs.size) [v] (λ_ H'=>Nx σ9 H') I11 rfl (.cons r11 .nil) ⟨_,xs,y,rfl,rfl,hx,hz,n11⟩) λ_ rL DH=>?_;obtain⟨_,X8,I12,_,WN⟩:=DH;exact again I12 WN
 exact codeAny_compStart_list (loop _ rfl) (T.self _ _ _ _ _ ZC (loop _ rfl))
theorem Qi{iter:Expr}{wi:TI}{g:TG}{tt:TT}{te:TE}(cs:EU X N scope cl jx)(hc:X.calm=true)(hi:PI X tg iter wi)
  (hg:∀ C s₀ H₀ ex pn,PG (oz X N scope cl C s₀ H₀ ex pn) tg g) (ht:∀ C s₀ H₀ ex pn,Ny (oz X N scope cl C s₀ H₀ ex pn) oF tt) (he:∀ C s₀ H₀ ex pn,PE (oz X N scope cl C s₀ H₀ ex pn) pG te)
  (hs:∀ x,foldedSetIterable iter X.env x=pure x:=by intro _;rfl):PE X (.ListComp pG [⟨tg,iter,oF,0⟩] scope pos) (zW jx wi g tt te):=by
 intro ao s σ H Q I h;rw[eval_ListComp];refine EV (use:=none) cs hc hi hg ht he hs I h λs3 H3 fp acc σ6 H6 s7 I3 f3 I7 qn=>?_;obtain⟨m,hm,_⟩:=I7.loc;exact⟨m,hm,λh' TH=>⟨.ref acc,H6,zV I3 (zU I3 f3 I7) I7.free TH,rfl,qn⟩⟩
theorem TL{iter:Expr}{Qj:Pos}{wi:TI}{g:TG}{tt:TT}{te:TE}{i:Nat}{x:Str}(cs:EU X N scope cl jx)(hc:X.calm=true)(hN:X.N.Nodup)(hix:X.N[i]?=some x)(hx:X.env.scope.names.lookup x=some .local)(hi:PI X tg iter wi)
  (hg:∀ C s₀ H₀ ex pn,PG (oz X N scope cl C s₀ H₀ ex pn) tg g) (ht:∀ C s₀ H₀ ex pn,Ny (oz X N scope cl C s₀ H₀ ex pn) oF tt) (he:∀ C s₀ H₀ ex pn,PE (oz X N scope cl C s₀ H₀ ex pn) pG te)
  (hsw:swapsWith (.ListComp pG [⟨tg,iter,oF,0⟩] scope pos) (some (.Name x l5)) Qj.line X.env=pure true:=by rfl)
  (hs:∀ x,foldedSetIterable iter X.env x=pure x:=by intro _;rfl):PS X (.Assign [.Name x l5] (.ListComp pG [⟨tg,iter,oF,0⟩] scope pos) Qj) (OW (zW jx wi g tt te) (xr i)):=by
 intro ao s σ H D I h;rw[exec_Assign_Name_used _ _ _ _ hsw];refine wpAny_bind (wpAny_standAt (wpAny_bind ?_));show wpAny _ X.A (do let _ ← comprehension (.ListComp pG [⟨tg,iter,oF,0⟩] scope pos) scope X.env _ (newList []) false (eval iter X.env) (some (assign (.Name x l5) X.env))) _ _ s;have h':zW jx wi g tt te σ H (λv H'=>xr i v σ H' D.nx):=h;refine wpAny_bind (dB (EV (use:=some (assign (.Name x l5) X.env)) (Q':=λ_ s'=>∃ σ' H',Inv X ao σ' H' s'/\D.nx σ' H') cs hc hi hg ht he hs I h' λs3 H3 fp acc σ6 H6 s7 I3 f3 I7 qn=>?_) λ_ s' q=>?_)
 ·have I4:=zU I3 f3 I7;obtain⟨m,hm,_⟩:=I7.loc;refine wpAny_assign_Name (Eo I4 hN hix (.inl hx) (v:=.ref acc) rfl (λs8 I8 ⟨a,TH,ha⟩=>?_) (.inr hx))
  have na:s3.heap.objs.size≠a:=by
   rcases ha with rfl|ha
   ·exact Nat.ne_of_gt I3.lt
   ·intro z;obtain⟨v,o,ho,_⟩:=I3.cell x a ha;exact absurd (Heap.lt_size ho) (by rw[z];exact Nat.lt_irrefl _)
  refine⟨m,hm.at' λo e=>TH.extBut _ o na e,λh' hs'=>⟨_,H6,zV I3 I8 I7.free hs',qn⟩⟩
 ·exact wpAny_pure (wpAny_pure q)
theorem kB{K:PySem.W.Frag}{a:Addr}{xs:List V}{g:TG}{tt:TT}{te:TE}{σ0:L2.St}{H:Hp}{Q:VK}(Pv:Nat->L2.St->Hp->Prop)(h0:Pv 0 σ0 H)(hl:∀ i σ H,i<=xs.length->Pv i σ H->bR K H a xs)
  (hs:∀ i x σ H,xs[i]?=some x->Pv i σ H->g x σ H fun σ2 H2=>tt σ2 H2 λb H3=>if b=true then te σ2 H3 λv H4=>∃ ys,H4 acc=some (.lst ys)/\ys.length<sizeLine/\Pv (i+1) σ2 (aQ H4 acc (.lst (ys++[v]))) else Pv (i+1) σ2 H3)
  (hd:∀ σ H,Pv xs.length σ H->Q (.ref acc) H):BG (RT K a) acc g tt te σ0 H Q:=by
 refine⟨λi m σ H=>m=xs.length-i/\i<=xs.length/\Pv i σ H,⟨xs.length,by simp,Nat.zero_le _,h0⟩,?_⟩;rintro i m σ H ⟨rfl,hi,p⟩;have q:=hl i σ H hi p;by_cases xu:i<xs.length
 ·refine .inr ⟨⟨xs,xs[i],q,by simp[xu]⟩,Pv (i+1),fun σ' H' p'=>⟨xs.length-(i+1),by omega,rfl,xu,p'⟩,λx H' y=>?_⟩;obtain⟨e,y⟩:=y;subst e;exact hs i x σ _ (y xs q) p
 ·have e:i=xs.length:=by omega
  subst e;exact .inl ⟨⟨xs,q,jz _⟩,hd σ H p⟩
theorem vM{lo:Int}{k:Nat}{g:TG}{tt:TT}{te:TE}{σ0:L2.St}{H:Hp}{Q:VK}(Pv:Nat->L2.St->Hp->Prop)(h0:Pv 0 σ0 H)
  (hs:∀ i σ H,i<k->Pv i σ H->g (.int (lo+i)) σ H fun σ2 H2=>tt σ2 H2 λb H3=>if b=true then te σ2 H3 λv H4=>∃ ys,H4 acc=some (.lst ys)/\ys.length<sizeLine/\Pv (i+1) σ2 (aQ H4 acc (.lst (ys++[v]))) else Pv (i+1) σ2 H3)
  (hd:∀ σ H,Pv k σ H->Q (.ref acc) H):BG (Wi lo k) acc g tt te σ0 H Q:=by
 refine⟨λi m σ H=>m=k-i/\i<=k/\Pv i σ H,⟨k,by simp,Nat.zero_le _,h0⟩,?_⟩;rintro i m σ H ⟨rfl,hi,p⟩;by_cases xu:i<k
 ·refine .inr ⟨xu,Pv (i+1),fun σ' H' p'=>⟨k-(i+1),by omega,rfl,xu,p'⟩,λx H' y=>?_⟩;obtain⟨e,y⟩:=y;subst e y;exact hs i σ _ xu p
 ·have e:i=k:=by omega
  subst e;exact .inl ⟨Nat.le_refl _,hd σ H p⟩
end
section
variable {X:Cx} {N:List Str} {scope:Scope} {cl:List (Str × Addr)} {C:Addr} {s₀:Shared} {H₀:Hp} {ex:List Addr} {pn:List (Addr × Obj)}
theorem BH{es:List Expr}{k:Nat}{t:Wb}{n:Nat}(hc:X.calm=true)(h:YG (oz X N scope cl C s₀ H₀ ex pn) es t)
  (hn:(assignEach es (oz X N scope cl C s₀ H₀ ex pn).env).length=n:=by rfl) (DK:(assignEach es (oz X N scope cl C s₀ H₀ ex pn).env).findIdx? (·.1)=none:=by rfl):PG (oz X N scope cl C s₀ H₀ ex pn) (.Tuple es k pos) (Wd X.K n t):=tM (X:=oz X N scope cl C s₀ H₀ ex pn) hc h hn DK
theorem Qk{tl:TE}(hl:PE (oz X N scope cl C s₀ H₀ ex pn) l tl):PI (oz X N scope cl C s₀ H₀ ex pn) tg l (UK X.K tl):=cX hl
theorem LV:YZ (oz X N scope cl C s₀ H₀ ex pn) (Y3 X.K):=br
end
theorem FW{X:Cx}:pR X (.type "range") (λxs H Q=>∃ j:Int,xs=[.int j]/\∀ p,H p=none->Q (.ref p) (aQ H p (.GX 0 j))):=by
 intro ao s σ H xs us Q I r h;obtain⟨j,rfl,q⟩:=h;obtain⟨u1,rfl,⟨t,rfl⟩⟩:=r.one;refine call_range_1 ⟨.ref s.heap.objs.size,_,I.laid (o:=.GX 0 j) (λb o e=>Heap.get?_push_of_some _ e) (jz _) ⟨_,_,_,Heap.get?_push_size _ rfl⟩,rfl,q _ (I.hok.fresh (jz _))⟩
theorem zX{scope:Scope}{env:Env}(h:∀ p∈scope.names,p.2=.free->∃ c,env.cells.lookup p.1=some c) :
  ∃ cl,closureFor scope env=pure cl/\(∀ x c,cl.lookup x=some c->env.cells.lookup x=some c)/\(∀ p∈scope.names,p.2=.free->∃ c,cl.lookup p.1=some c):=by
 unfold closureFor
 have key:∀ (l:List (Str × NameKind)) (cs:List (Str × Addr)),(∀ p∈l,p.2=.free->∃ c,env.cells.lookup p.1=some c)->(∀ x c,cs.lookup x=some c->env.cells.lookup x=some c)->
   ∃ cl,(forIn l cs (λp r=>if (p.2 == NameKind.free)=true then do let c ← cellOf env p.1;pure (ForInStep.yield ((p.1,c)::r)) else pure (ForInStep.yield r)):Sem (List (Str × Addr)))=pure cl/\(∀ x c,cl.lookup x=some c->env.cells.lookup x=some c)/\(∀ p∈l,p.2=.free->∃ c,cl.lookup p.1=some c)/\(∀ x c,cs.lookup x=some c->∃ c,cl.lookup x=some c):=by
  intro l
  induction l with
  | nil=>intro cs _ Wu;exact⟨cs,rfl,Wu,(λp hp=>by cases hp),λx c e=>⟨c,e⟩⟩
  | cons p l ih =>
   intro cs hl Wu;rw[List.forIn_cons];by_cases hp:p.2=.free
   ·obtain⟨c,hc⟩:=hl p yC hp;have e1:(p.2 == NameKind.free)=true:=by rw[hp];rfl
    have e2:cellOf env p.1=pure c:=by
     unfold cellOf;rw[hc]
    rw[if_pos e1,e2];simp only[pure_bind]
    obtain⟨cl,h1,h2,h3,h4⟩:=ih ((p.1,c)::cs) (λq hq=>hl q (sF _ hq)) (λx d e=>by
     rw[List.lookup_cons]at e
     cases hx:x == p.1 with
     | true =>
      rw[hx]at e;cases e;rw[eq_of_beq hx];exact hc
     | false =>
      rw[hx]at e
      exact Wu x d e)
    refine⟨cl,h1,h2,λq hq hf=>?_,λx d e=>?_⟩
    ·rcases List.mem_cons.mp hq with rfl|hq
     ·exact h4 q.1 c (by rw[List.lookup_cons];simp)
     ·exact h3 q hq hf
    ·cases hx:x == p.1 with
     | true=>exact h4 x c (by rw[List.lookup_cons,hx])
     | false=>exact h4 x d (by rw[List.lookup_cons,hx];exact e)
   ·have e1:¬ (p.2 == NameKind.free)=true:=λz=>hp (eq_of_beq z);rw[if_neg e1];simp only[pure_bind];obtain⟨cl,h1,h2,h3,h4⟩:=ih cs (λq hq=>hl q (sF _ hq)) Wu;refine⟨cl,h1,h2,λq hq hf=>?_,h4⟩;rcases List.mem_cons.mp hq with rfl|hq
    ·exact absurd hf hp
    ·exact h3 q hq hf
 obtain⟨cl,h1,h2,h3,_⟩:=key scope.names [] h (λx c e=>by cases e);refine⟨cl,?_,h2,h3⟩;rw[← h1];simp only[bind_pure]
theorem rQ{env:Env}:∀ {names:List (Str × NameKind)} {x:Str} {k:NameKind},names.lookup x=some k->
  (names.map λ(n,k)=>if (k == NameKind.free&&env.scope.kind == .function&&env.kindOf n == some .cell) then (n,NameKind.cell) else (n,k)).lookup x=some (if (k == NameKind.free&&env.scope.kind == .function&&env.kindOf x == some .cell) then NameKind.cell else k)
 | [],_,_,h=>by cases h
 | (n,k')::r,x,k,h=>by
  rw[oK];by_cases hx:(x == n)=true
  ·have e:x=n:=eq_of_beq hx;subst e;rw[List.lookup_cons,hx]at h;cases h;by_cases hc:(k' == NameKind.free&&env.scope.kind == .function&&env.kindOf x == some .cell)=true
   ·show List.lookup x ((if (k' == NameKind.free&&env.scope.kind == .function&&env.kindOf x == some .cell)=true then (x,NameKind.cell) else (x,k'))::_)=_;rw[if_pos hc,if_pos hc,List.lookup_cons,hx]
   ·show List.lookup x ((if (k' == NameKind.free&&env.scope.kind == .function&&env.kindOf x == some .cell)=true then (x,NameKind.cell) else (x,k'))::_)=_;rw[if_neg hc,if_neg hc,List.lookup_cons,hx]
  ·have hf:(x == n)=false:=by simpa using hx
   rw[List.lookup_cons,hf]at h;have ih:=rQ (env:=env) h;show List.lookup x ((if (k' == NameKind.free&&env.scope.kind == .function&&env.kindOf n == some .cell)=true then (n,NameKind.cell) else (n,k'))::_)=_;by_cases hc:(k' == NameKind.free&&env.scope.kind == .function&&env.kindOf n == some .cell)=true
   ·rw[if_pos hc,List.lookup_cons,hf];exact ih
   ·rw[if_neg hc,List.lookup_cons,hf];exact ih
theorem qx{env:Env}:∀ {names:List (Str × NameKind)} {x:Str},names.lookup x=none->
  (names.map λ(n,k)=>if (k == NameKind.free&&env.scope.kind == .function&&env.kindOf n == some .cell) then (n,NameKind.cell) else (n,k)).lookup x=none
 | [],_,_=>rfl
 | (n,k')::r,x,h=>by
  rw[oK]
  have hf:(x == n)=false:=by
   cases hx:x == n with
   | false=>rfl
   | true=>rw[List.lookup_cons,hx]at h;cases h
  rw[List.lookup_cons,hf]at h;have ih:=qx (env:=env) h;show List.lookup x ((if (k' == NameKind.free&&env.scope.kind == .function&&env.kindOf n == some .cell)=true then (n,NameKind.cell) else (n,k'))::_)=_;by_cases hc:(k' == NameKind.free&&env.scope.kind == .function&&env.kindOf n == some .cell)=true
  ·rw[if_pos hc,List.lookup_cons,hf];exact ih
  ·rw[if_neg hc,List.lookup_cons,hf];exact ih
structure EW(X:Cx)(N:List Str)(scope:Scope)(jx:List (Option Nat)):Prop where
 kind:scope.kind=.function
 cell:∀ x∈scope.names,x.2≠.cell
 names:∀ x∈scope.names,x.2=.local->scope.names.lookup x.1=some .local
 xk:X.env.scope.kind=.function
 fr:∀ x∈scope.names,x.2=.free->X.env.scope.names.lookup x.1=some .cell
 len:jx.length=N.length
 free:∀ (i j:Nat) (x:Str),jx[i]?=some (some j)->N[i]?=some x->X.N[j]?=some x/\scope.names.lookup x=some .free
def Ql(NX N:List Str)(scope:Scope)(jx:List (Option Nat)):Bool:=(jx.zip N).all λp=>match p.1 with
 | none=>true
 | some j=>decide (NX[j]?=some p.2)&&decide (scope.names.lookup p.2=some .free)
theorem ud{X:Cx}{N NX:List Str}{scope sc:Scope}{jx:List (Option Nat)}(e1:X.env.scope=sc)(e2:X.N=NX)(k:scope.kind=.function)(h1:∀ x∈scope.names,x.2≠.cell)(h2:∀ x∈scope.names,x.2=.local->scope.names.lookup x.1=some .local)
  (h3:sc.kind=.function) (h4:∀ x∈scope.names,x.2=.free->sc.names.lookup x.1=some .cell) (h5:jx.length=N.length) (h6:Ql NX N scope jx=true):EW X N scope jx:=by
 refine⟨k,h1,h2,by rw[e1];exact h3,by rw[e1];exact h4,h5,λi j x a b=>?_⟩;rw[e2];unfold Ql at h6;rw[List.all_eq_true]at h6;have z:=h6 (some j,x) (vn (i:=i) (by rw[List.getElem?_zip_eq_some];exact⟨a,b⟩));simp only[Bool.and_eq_true,decide_eq_true_eq]at z;exact z
section
variable {X:Cx} {N:List Str} {scope:Scope} {jx:List (Option Nat)}
theorem EW.toF{σ:L2.St}{H:Hp}{s:Shared}(cg:EW X N scope jx)(I:Inv X ao σ H s):∃ cl,EU X N scope cl jx:=by
 obtain⟨cl,h1,h2,h3⟩:=zX (scope:=scope) (env:=X.env) λp hp hf=>I.ok.has p.1 (.inl (cg.fr p hp hf))
 have AR:∀ x,scope.names.lookup x=some .free->(relabel scope X.env).names.lookup x=some .cell:=λx hx=>by
  have z:=rQ (env:=X.env) hx
  have c:(NameKind.free == NameKind.free&&X.env.scope.kind == .function&&X.env.kindOf x == some .cell)=true:=by
   have q:X.env.kindOf x=some .cell:=cg.fr (x,.free) (PySem.mem_of_lookup hx) rfl;rw[cg.xk,q];rfl
  rw[if_pos c]at z;exact z
 refine⟨cl,cg.kind,cg.cell,cg.names,h1,h2,λx hx=>?_,cg.len,λi j x a b=>?_⟩
 ·cases e:scope.names.lookup x with
  | none =>
   have z:(relabel scope X.env).names.lookup x=none:=qx (env:=X.env) e;rw[z]at hx
   rcases hx with q|q <;> cases q
  | some k =>
   by_cases hk:k=.free
   ·subst hk;exact h3 (x,.free) (PySem.mem_of_lookup e) rfl
   ·have z:(relabel scope X.env).names.lookup x=some (if (k == NameKind.free&&X.env.scope.kind == .function&&X.env.kindOf x == some .cell) then NameKind.cell else k):=rQ (env:=X.env) e
    have c:(k == NameKind.free)=false:=by
     cases q:k == NameKind.free with
     | false=>rfl
     | true=>exact absurd (eq_of_beq q) hk
    rw[c]at z;simp only[Bool.false_and,Bool.false_eq_true,if_false]at z;rw[z]at hx;rcases hx with q|q
    ·cases q;exact absurd rfl (cg.cell (x,.cell) (PySem.mem_of_lookup e))
    ·cases q;exact absurd rfl hk
 ·obtain⟨f1,f2⟩:=cg.free i j x a b;exact⟨f1,cg.fr (x,.free) (PySem.mem_of_lookup f2) rfl,AR x f2⟩
theorem mh{iter:Expr}{wi:TI}{g:TG}{tt:TT}{te:TE}(cg:EW X N scope jx)(hc:X.calm=true)(hi:PI X tg iter wi)
  (hg:∀ cl C s₀ H₀ ex pn,PG (oz X N scope cl C s₀ H₀ ex pn) tg g) (ht:∀ cl C s₀ H₀ ex pn,Ny (oz X N scope cl C s₀ H₀ ex pn) oF tt) (he:∀ cl C s₀ H₀ ex pn,PE (oz X N scope cl C s₀ H₀ ex pn) pG te)
  (hs:∀ x,foldedSetIterable iter X.env x=pure x:=by intro _;rfl):PE X (.ListComp pG [⟨tg,iter,oF,0⟩] scope pos) (zW jx wi g tt te):=by
 intro ao s σ H Q I h;obtain⟨cl,cs⟩:=cg.toF I;exact Qi cs hc hi (hg cl) (ht cl) (he cl) hs ao s σ H Q I h
theorem LW{iter:Expr}{Qj:Pos}{wi:TI}{g:TG}{tt:TT}{te:TE}{i:Nat}{x:Str}(cg:EW X N scope jx)(hc:X.calm=true)(hN:X.N.Nodup)(hix:X.N[i]?=some x)(hx:X.env.scope.names.lookup x=some .local)(hi:PI X tg iter wi)
  (hg:∀ cl C s₀ H₀ ex pn,PG (oz X N scope cl C s₀ H₀ ex pn) tg g) (ht:∀ cl C s₀ H₀ ex pn,Ny (oz X N scope cl C s₀ H₀ ex pn) oF tt) (he:∀ cl C s₀ H₀ ex pn,PE (oz X N scope cl C s₀ H₀ ex pn) pG te)
  (hsw:swapsWith (.ListComp pG [⟨tg,iter,oF,0⟩] scope pos) (some (.Name x l5)) Qj.line X.env=pure true:=by rfl)
  (hs:∀ x,foldedSetIterable iter X.env x=pure x:=by intro _;rfl):PS X (.Assign [.Name x l5] (.ListComp pG [⟨tg,iter,oF,0⟩] scope pos) Qj) (OW (zW jx wi g tt te) (xr i)):=by
 intro ao s σ H D I h;obtain⟨cl,cs⟩:=cg.toF I;exact TL cs hc hN hix hx hi (hg cl) (ht cl) (he cl) hsw hs ao s σ H D I h
end
end dF
namespace dF
open PySem.Spec PyProof.Rows L2
section
variable {X:Cx} {N:List Str} {scope:Scope} {cl:List (Str × Addr)} {jx:List (Option Nat)}
def HU(J:It)(acc:Addr)(g:TG)(tt:TT)(Kf:TI)(g2:TG)(Kg:TT)(te:TE)(σ0:L2.St)(H:Hp)(Q:VK):Prop :=
 ∃ W:Nat->Nat->L2.St->Hp->Prop,(∃ m,W 0 m σ0 H)/\∀ i m σ H,W i m σ H->
  (J.stop i H/\Q (.ref acc) H)\/(J.go i H/\∃ Nx:L2.St->Hp->Prop,(∀ σ' H',Nx σ' H'->∃ m',m'<m/\W (i+1) m' σ' H')/\∀ x H',J.RS i H x H'->g x σ H' fun σ2 H2=>tt σ2 H2 λb H3 =>
   if b=true then Ke Kf acc g2 Kg te σ2 H3 Nx else Nx σ2 H3)
def LX(jx:List (Option Nat))(wi:TI)(g:TG)(tt:TT)(Kf:TI)(g2:TG)(Kg:TT)(te:TE):TE:=fun σ H Q=>wi σ H λJ H1=>∀ acc,H1 acc=none->HU J acc g tt Kf g2 Kg te (ya jx σ) (aQ H1 acc (.lst [])) Q
theorem Ko{iter:Expr}{wi Kf:TI}{g g2:TG}{tt Kg:TT}{te:TE}(cs:EU X N scope cl jx)(hc:X.calm=true)(hi:PI X tg iter wi)
  (hg:∀ C s₀ H₀ ex pn,PG (oz X N scope cl C s₀ H₀ ex pn) tg g) (ht:∀ C s₀ H₀ ex pn,Ny (oz X N scope cl C s₀ H₀ ex pn) oF tt) (hi2:∀ C s₀ H₀ ex pn,PI (oz X N scope cl C s₀ H₀ ex pn) vC eV Kf) (hg2:∀ C s₀ H₀ ex pn,PG (oz X N scope cl C s₀ H₀ ex pn) vC g2) (Ox:∀ C s₀ H₀ ex pn,Ny (oz X N scope cl C s₀ H₀ ex pn) mP Kg) (he:∀ C s₀ H₀ ex pn,PE (oz X N scope cl C s₀ H₀ ex pn) pG te)
  (hs:∀ x,foldedSetIterable iter X.env x=pure x) (Nb:∀ (env:Env) x,foldedSetIterable eV env x=pure x) {use:Option (Value->Sem Unit)} {Q':Value->Shared->Prop} {Q:VK} {ao:List (Addr × Obj)} {s:Shared} {σ:L2.St} {H:Hp} (I:Inv X ao σ H s) (h:LX jx wi g tt Kf g2 Kg te σ H Q)
  (oB:∀ (s3:Shared) (H3:Hp) (fp:List Addr) (acc:Addr) (σ6:L2.St) (H6:Hp) (s7:Shared),Inv X ao σ H3 s3->(∀ b∈fp,vt X ao H3 b)->Inv (oz X N scope cl s3.heap.objs.size s3 H3 fp (X.pn++ao)) [] σ6 H6 s7->Q (.ref acc) H6->
   compPost (model X.prog X.w) X.A X.xe use Q' (.ref acc) s3.heap.objs.size (.ok .next) s7) :
  wpAny (model X.prog X.w) X.A (comprehension (.ListComp pG [⟨tg,iter,oF,0⟩,⟨vC,eV,mP,0⟩] scope pos) scope X.env l5 (newList []) false (eval iter X.env) use) Q' X.xe s:=by
 refine wpAny_comprehension_free (use:=use) rfl hs cs.clos cs.kind cs.names (dB (hi ao s σ H _ I h) λv s1 h1=>dB h1 λYJ s2 h2=>?_);obtain⟨it,fp,tn,J,H2,e,I2,T,st2,f2,q⟩:=h2;subst e;refine wpAny_newObj_type (hd:=by size_fits) ?_;have fH:H2 s2.heap.objs.size=none:=I2.hok.fresh (jz _);have I3:Inv X ao σ (aQ H2 s2.heap.objs.size (.lst [])) { s2 with heap:=s2.heap.push { cls:=.type "list",data:=.seq ([]:List Value).toArray },toks:=s2.toks }:=I2.SO (ys:=[]) .nil (Nat.zero_le _)
 have Zz:∀ b∈fp,b<s2.heap.objs.size:=λb hb=>by
  obtain⟨o,ho,_⟩:=T.obj _ _ st2 b hb;exact Heap.lt_size ho
 have f3:∀ b∈fp,vt X ao (aQ H2 s2.heap.objs.size (.lst [])) b:=λb hb=>⟨by rw[aL (qo (Zz b hb))];exact (f2 b hb).1,(f2 b hb).2⟩;have k3:∀ b o,s2.heap.get? b=some o->(s2.heap.push { cls:=.type "list",data:=.seq ([]:List Value).toArray }).get? b=some o:=λb o e=>Heap.get?_push_of_some _ e;have q3:=q _ fH;generalize hs3:({ s2 with heap:=s2.heap.push { cls:=.type "list",data:=.seq ([]:List Value).toArray },toks:=s2.toks }:Shared)=s3 at I3;generalize hH3:aQ H2 s2.heap.objs.size (.lst [])=H3 at I3 f3 q3;have ZA:s3.heap=s2.heap.push { cls:=.type "list",data:=.seq ([]:List Value).toArray }:=by rw[← hs3]
 have LS:∀ b∈fp,b<s3.heap.objs.size:=λb hb=>by rw[ZA,Heap.size_push];exact Nat.lt_succ_of_lt (Zz b hb)
 have st3:tn 0 s3.heap:=T.keep _ _ _ st2 λb _ o e=>by rw[ZA];exact k3 b o e
 show wpAny _ _ _ _ _ s3;refine wpAny_newFunctionEnv cs.cell (λy hy=>by simp at hy) (λh₁ Ov TH=>?_) cs.kind;have kh:∀ b o,s3.heap.get? b=some o->h₁.get? b=some o:=λb o e=>TH.extBut _ _ (qo (Heap.lt_size e)) (Heap.get?_push_of_some _ e);have J0:Inv (oz X N scope cl s3.heap.objs.size s3 H3 fp (X.pn++ao)) [] (ya jx σ) H3 { s3 with heap:=h₁,toks:=s3.toks+([]:List (Str × Value)).length }:=AS cs I3 f3 LS Ov kh;have ZC:tn 0 h₁:=T.keep _ _ _ st3 λb _ o e=>kh b o e;obtain⟨W,⟨m0,w0⟩,xS⟩:=q3
 have xU:∀ {H':Hp},(∀ b∈fp,H' b=none)->∀ b∈fp,vt (oz X N scope cl s3.heap.objs.size s3 H3 fp (X.pn++ao)) [] H' b:=λhn b hb=>by
  refine⟨hn b hb,qo (LS b hb),λz=>?_,.inl hb,λx c e=>(f3 b hb).2.2.2.2.1 x c (cs.sub x c e),λp hp=>?_⟩
  ·rcases List.mem_cons.mp (I3.zB b z) with e|e
   ·exact (f3 b hb).2.1 e
   ·exact (f3 b hb).2.2.1 e
  ·have U8:p∈X.pn++ao:=by
    have z:p∈(X.pn++ao)++[]:=hp;simpa using z
   exact (f3 b hb).2.2.2.2.2 p U8
 have loop:∀ s5:Shared,s5={ s3 with heap:=h₁,toks:=s3.toks+([]:List (Str × Value)).length }->codeAny (model X.prog X.w) X.A (.compLoop (.ListComp pG [⟨tg,iter,oF,0⟩,⟨vC,eV,mP,0⟩] scope pos) 0 (.ref it) (.ref s2.heap.objs.size) (oz X N scope cl s3.heap.objs.size s3 H3 fp (X.pn++ao)).env)
   (compPost (model X.prog X.w) X.A X.xe use Q' (.ref s2.heap.objs.size) s3.heap.objs.size) s5:=by
  rintro s5 rfl;refine Tn (λn s'=>∃ i σ' H',Inv (oz X N scope cl s3.heap.objs.size s3 H3 fp (X.pn++ao)) [] σ' H' s'/\tn i s'.heap/\(∀ b∈fp,H' b=none)/\W i n σ' H') (Nb _) ?_ m0 ⟨0,_,H3,J0,ZC,λb hb=>(f3 b hb).1,w0⟩;rintro n s6 ⟨i,σ6,H6,I6,UZ,Ow,w6⟩;rcases xS i n σ6 H6 w6 with ⟨stop,qn⟩|⟨go,Nx,hN,step⟩
  ·refine dB (T.done (oz X N scope cl s3.heap.objs.size s3 H3 fp (X.pn++ao)) rfl rfl rfl hc i [] s6 σ6 H6 _ I6 (xU Ow) UZ stop) λr s7 G8=>?_;obtain⟨hr,I7⟩:=G8;subst hr;exact oB s3 H3 fp _ σ6 H6 s7 I3 f3 I7 qn
  ·refine dB (T.item (oz X N scope cl s3.heap.objs.size s3 H3 fp (X.pn++ao)) rfl rfl rfl hc i [] s6 σ6 H6 _ I6 (xU Ow) UZ go) λr s7 G9=>?_;obtain⟨u,hr,h7⟩:=G9;subst hr;refine dB h7 λ_ s8 JP=>?_;obtain⟨x,H8,I8,r8,y8,P7,FO⟩:=JP;have Zr:=I8.pinned (xU FO) (T.obj _ _ P7);refine dB (hg _ _ _ _ _ _ s8 σ6 H8 x u _ Zr r8 (step x H8 y8)) λ_ s9 JO=>?_;obtain⟨σ9,H9,I9,q9⟩:=JO;refine dB (ht _ _ _ _ _ _ s9 σ9 H9 _ I9 q9) λok RV DG=>?_;obtain⟨P8,U0,ED⟩:=DG
   have again:∀ {σ7:L2.St} {H7:Hp} {xD:Shared},Inv (oz X N scope cl s3.heap.objs.size s3 H3 fp (X.pn++ao)) ([]++xT fp s8.heap) σ7 H7 xD->Nx σ7 H7->∃ m,m<n/\∃ i σ' H',Inv (oz X N scope cl s3.heap.objs.size s3 H3 fp (X.pn++ao)) [] σ' H' xD/\tn i xD.heap/\(∀ b∈fp,H' b=none)/\W i m σ' H':=λ{σ7 H7 xD} I7 n7=>by
    obtain⟨m',hm,w7⟩:=hN σ7 H7 n7;refine⟨m',hm,i+1,σ7,H7,I7.tY,T.keep _ _ _ P7 λb hb o e=>(I7.pin (b,o) (uy _ (uy _ (j6 hb e)))).1,λb hb=>?_,w7⟩;obtain⟨o,e,d⟩:=T.obj _ _ P7 b hb;exact (I7.pin (b,o) (uy _ (uy _ (j6 hb e)))).2.1
   cases ok with
   | false =>
    rw[if_neg vo]at ED;exact again U0 ED
   | true =>
    rw[if_pos rfl]at ED;refine dB (Nz (Y:=oz X N scope cl s3.heap.objs.size s3 H3 fp (X.pn++ao)) hc rfl (hi2 _ _ _ _ _) (hg2 _ _ _ _ _) (Ox _ _ _ _ _) (he _ _ _ _ _) U0 ED) λx xD h11=>dB h11 λZq rL h12=>codeAny_mono h12 λr zY ⟨hr,σ',H',I13,n13⟩=>⟨hr,again I13 n13⟩
 exact codeAny_compStart_list (loop _ rfl) (T.self _ _ _ _ _ ZC (loop _ rfl))
theorem NI{iter:Expr}{pos:Pos}{wi Kf:TI}{g g2:TG}{tt Kg:TT}{te:TE}(cg:EW X N scope jx)(hc:X.calm=true)(hi:PI X tg iter wi)
  (hg:∀ cl C s₀ H₀ ex pn,PG (oz X N scope cl C s₀ H₀ ex pn) tg g) (ht:∀ cl C s₀ H₀ ex pn,Ny (oz X N scope cl C s₀ H₀ ex pn) oF tt)
  (hi2:∀ cl C s₀ H₀ ex pn,PI (oz X N scope cl C s₀ H₀ ex pn) vC eV Kf) (hg2:∀ cl C s₀ H₀ ex pn,PG (oz X N scope cl C s₀ H₀ ex pn) vC g2) (Ox:∀ cl C s₀ H₀ ex pn,Ny (oz X N scope cl C s₀ H₀ ex pn) mP Kg) (he:∀ cl C s₀ H₀ ex pn,PE (oz X N scope cl C s₀ H₀ ex pn) pG te)
  (hs:∀ x,foldedSetIterable iter X.env x=pure x:=by intro _;rfl) (Nb:∀ (env:Env) x,foldedSetIterable eV env x=pure x:=by intro _ _;rfl) :
  PE X (.ListComp pG [⟨tg,iter,oF,0⟩,⟨vC,eV,mP,0⟩] scope pos) (LX jx wi g tt Kf g2 Kg te):=by
 intro ao s σ H Q I h;obtain⟨cl,cs⟩:=cg.toF I;rw[eval_ListComp];refine Ko (use:=none) cs hc hi (hg cl) (ht cl) (hi2 cl) (hg2 cl) (Ox cl) (he cl) hs Nb I h λs3 H3 fp acc σ6 H6 s7 I3 f3 I7 qn=>?_;obtain⟨m,hm,_⟩:=I7.loc;exact⟨m,hm,λh' TH=>⟨.ref acc,H6,zV I3 (zU I3 f3 I7) I7.free TH,rfl,qn⟩⟩
theorem HV{K:PySem.W.Frag}{a:Addr}{xs:List V}{g:TG}{tt:TT}{Kf:TI}{g2:TG}{Kg:TT}{te:TE}{σ0:L2.St}{H:Hp}{Q:VK}(Pv:Nat->L2.St->Hp->Prop)(h0:Pv 0 σ0 H)(hl:∀ i σ H,i<=xs.length->Pv i σ H->bR K H a xs)
  (hs:∀ i x σ H,xs[i]?=some x->Pv i σ H->g x σ H fun σ2 H2=>tt σ2 H2 λb H3=>if b=true then Ke Kf acc g2 Kg te σ2 H3 (Pv (i+1)) else Pv (i+1) σ2 H3)
  (hd:∀ σ H,Pv xs.length σ H->Q (.ref acc) H):HU (RT K a) acc g tt Kf g2 Kg te σ0 H Q:=by
 refine⟨λi m σ H=>m=xs.length-i/\i<=xs.length/\Pv i σ H,⟨xs.length,by simp,Nat.zero_le _,h0⟩,?_⟩;rintro i m σ H ⟨rfl,hi,p⟩;have q:=hl i σ H hi p;by_cases xu:i<xs.length
 ·refine .inr ⟨⟨xs,xs[i],q,by simp[xu]⟩,Pv (i+1),fun σ' H' p'=>⟨xs.length-(i+1),by omega,rfl,xu,p'⟩,λx H' y=>?_⟩;obtain⟨e,y⟩:=y;subst e;exact hs i x σ _ (y xs q) p
 ·have e:i=xs.length:=by omega
  subst e;exact .inl ⟨⟨xs,q,jz _⟩,hd σ H p⟩
theorem Kp{K:PySem.W.Frag}{a:Addr}{xs:List V}{g:TG}{tt:TT}{te:TE}{σ:L2.St}{H:Hp}{Nx:L2.St->Hp->Prop}(Pv:Nat->L2.St->Hp->Prop)(h0:Pv 0 σ H)(hl:∀ i σ H,i<=xs.length->Pv i σ H->bR K H a xs)
  (hs:∀ i x σ H,xs[i]?=some x->Pv i σ H->g x σ H fun σ2 H2=>tt σ2 H2 λb H3=>if b=true then te σ2 H3 λv H4=>∃ ys,H4 acc=some (.lst ys)/\ys.length<sizeLine/\Pv (i+1) σ2 (aQ H4 acc (.lst (ys++[v]))) else Pv (i+1) σ2 H3)
  (hd:∀ σ H,Pv xs.length σ H->Nx σ H):∃ W:Nat->Nat->L2.St->Hp->Prop,(∃ m,W 0 m σ H)/\∀ i m σ H,W i m σ H->
  ((RT K a).stop i H/\Nx σ H)\/((RT K a).go i H/\∃ N2:L2.St->Hp->Prop,(∀ σ' H',N2 σ' H'->∃ m',m'<m/\W (i+1) m' σ' H')/\∀ x H',(RT K a).RS i H x H'->g x σ H' fun σ2 H2=>tt σ2 H2 λb H3 =>
   if b=true then te σ2 H3 λv H4=>∃ xs,H4 acc=some (.lst xs)/\xs.length<sizeLine/\N2 σ2 (aQ H4 acc (.lst (xs++[v]))) else N2 σ2 H3):=by
 refine⟨λi m σ H=>m=xs.length-i/\i<=xs.length/\Pv i σ H,⟨xs.length,by simp,Nat.zero_le _,h0⟩,?_⟩;rintro i m σ H ⟨rfl,hi,p⟩;have q:=hl i σ H hi p;by_cases xu:i<xs.length
 ·refine .inr ⟨⟨xs,xs[i],q,by simp[xu]⟩,Pv (i+1),fun σ' H' p'=>⟨xs.length-(i+1),by omega,rfl,xu,p'⟩,λx H' y=>?_⟩;obtain⟨e,y⟩:=y;subst e;exact hs i x σ _ (y xs q) p
 ·have e:i=xs.length:=by omega
  subst e;exact .inl ⟨⟨xs,q,jz _⟩,hd σ H p⟩
end
end dF
namespace dF
open PySem.Spec PyProof.Rows L2
open AutoSeq1 (wpAny_loadPart')
section
variable {prog:Program} {w:World} {A:Around} {E:Value->Shared->Prop} {s:Shared} {κ:Type} [DecidableEq κ] {knd:KeyKind prog w κ}
theorem NJ{d:Addr}{Q:Bool->Shared->Prop}(hT:s.TypeIs (.ref d) "dict")(h:Q false s):wpAny (model prog w) A (Builtin.List.listLengthHint (.ref d)) Q E s:=by
 unfold Builtin.List.listLengthHint;refine wpAny_bind (wpAny_specialOf hT F.slot_dict_len.lookup ?_);generalize hid:("dict.__len__":String)=id0
 wp_delta
 rw[show splitId id0=some ("dict","__len__") by subst hid;decide +kernel];subst hid;refine wpAny_bind (wpAny_isInstance (T:="dict") (b:=true) hT (by rw[isSubtype_type];kernel_rfl) ?_);refine wpAny_ite_split (λq=>absurd q (by decide)) λ_=>?_;refine wpAny_ite_split (λ_=>?_) λq=>absurd (by decide +kernel) q;exact wpAny_bind (wpAny_typeOf hT (wpAny_pure h))
theorem HW{R:Result->Shared->Prop}{d:Addr}{kvs:List (κ × Value)}{ep:Nat}(hh:A.handled=none)(hs:(d == sysModules)=false)(hd:s.heap.DictAt knd d kvs ep)(eN:kvs.length<=sizeLine)(S:Addr)(res:Value)(c₀:Nat)(hS:s.heap.get? S=some { cls:=.type "list",data:=.seq #[] c₀ })
  (hR:∀ h' tk vv c',(∀ b o,b≠S->s.heap.get? b=some o->h'.get? b=some o)->h'.get? S=some { cls:=.type "list",dict:=none,data:=.seq vv c',slots:=#[] }->
   ItemsOf (λi v=>∃ k x,kvs[i]?=some (k,x)/\knd.is k v=true) vv kvs.length->R (.ok (.ret res)) { s with heap:=h',toks:=tk }) :
  wpAny (model prog w) A.in1 (Builtin.List.listExtendWith (.ref S) (.ref d) res)
   (λoB s'=>match oB with|.done f=>R (.ok f) s'|.again c'=>c'.quiet=true/\codeAny (model prog w) A c' R s') (λe s'=>R (.error e) s') s:=by
 have hT:s.TypeIs (.ref d) "dict":=by
  obtain⟨o,es,ho,hx,_⟩:=hd;exact⟨o,ho,hx.1⟩
 have hSd:S≠d:=λe=>by
  obtain⟨o,es,ho,hx,hda,_⟩:=hd;rw[← e,hS]at ho;cases ho;cases hda
 have acW:S<s.heap.objs.size:=Heap.lt_size hS
 have acX:d<s.heap.objs.size:=by
  obtain⟨o,es,ho,_⟩:=hd;exact Heap.lt_size ho
 have hSI:S≠s.heap.objs.size:=qo acW;have hdI:d≠s.heap.objs.size:=qo acX;have W:=(Walks.dictKeys (prog:=prog) (w:=w) (A:=A.in1) (knd:=knd) hh s.heap.objs.size d hdI kvs ep).toS;unfold Builtin.List.listExtendWith;refine wpAny_bind (wpAny_typeOf hT ?_);have h1:Builtin.List.listSameRef (.ref S) (.ref d)=false:=by simp[Builtin.List.listSameRef,hSd]
 have h2:(Value.type "dict" == Value.type "list")=false:=by decide
 have h3:(Value.type "dict" == Value.type "tuple")=false:=by decide
 simp only[h1,h2,h3,Bool.or_false,Bool.false_eq_true,if_false];refine wpAny_bind (wpAny_pyIter_dict hs hd ?_);have xX:(s.heap.push { cls:=.type "dict_keyiterator",data:=.fields #[.ref d,.int 0 0,.int kvs.length 0,.int ep 0] }).IsKeyIter s.heap.objs.size d 0 kvs.length ep:=⟨_,Heap.get?_push_size _ rfl,rfl,rfl⟩;have lV:∀ b o,s.heap.get? b=some o->(s.heap.push { cls:=.type "dict_keyiterator",data:=.fields #[.ref d,.int 0 0,.int kvs.length 0,.int ep 0] }).get? b=some o:=λb o e=>Heap.get?_push_of_some _ e;generalize s.heap.push { cls:=.type "dict_keyiterator",data:=.fields #[.ref d,.int 0 0,.int kvs.length 0,.int ep 0] }=g1 at xX lV
 have hT1:({ s with heap:=g1 }:Shared).TypeIs (.ref d) "dict":=by
  obtain⟨o,ho,hc⟩:=hT;exact⟨o,lV _ _ ho,hc⟩
 refine wpAny_bind (wpAny_holding (NJ hT1 ?_));refine wpAny_ite_split (λ_=>?_) λq=>absurd (by decide +kernel) q;refine wpAny_bind (wpAny_rule (wpAny_bind ?_));show wpAny _ A.in1 (updateSeq S (λz=>z.push .none) >>= λ_=>updateSeq S λz=>z.pop) _ _ _;have g1S:=lV _ _ hS;refine wpAny_bind (wpAny_updateSeq g1S rfl ?_);have g2S:=Heap.get?_update_self (Obj.mapSeq λz=>z.push Value.none) g1S rfl;refine wpAny_updateSeq (hz:=by seq_fits) g2S rfl ?_;have g3S:=Heap.get?_update_self (Obj.mapSeq λz=>z.pop) g2S rfl
 have Oz:∀ b o,b≠S->g1.get? b=some o->((g1.update S (Obj.mapSeq λz=>z.push Value.none)).update S (Obj.mapSeq λz=>z.pop)).get? b=some o:=λb o nb e =>
  (Heap.get?_update_other _ _ nb.symm).trans ((Heap.get?_update_other _ _ nb.symm).trans e)
 refine wpAny_pure ⟨plainId_quiet F.plain_extend_loop _,codeAny_extend_loopS W eN S (λhm=>?_) res kvs.length 0 _ #[] _ rfl (Nat.zero_le _) ⟨xX.at λo e=>Oz _ o hSI.symm e,(hd.at' λo e=>Oz _ o hSd.symm (lV _ o e))⟩ g3S (ItemsOf.nil _) λs' vv c' hm hS' fH=>?_⟩
 ·rcases List.mem_cons.mp hm with e|e
  ·exact hSI e
  ·exact hSd (List.mem_singleton.mp e)
 ·rw[Moved.eq_with hm];refine hR s'.heap s'.toks vv c' (λb o nb e=>hm.heap b o (λq=>?_) (Oz b o nb (lV b o e))) hS' fH;rcases List.mem_cons.mp q with z|z
  ·exact nb z
  ·exact absurd (Heap.lt_size e) (by rw[List.mem_singleton.mp z];exact Nat.lt_irrefl _)
theorem Cy{Q:Value->Shared->Prop}{d:Addr}{kvs:List (κ × Value)}{ep:Nat}(hh:A.handled=none)(hs:(d == sysModules)=false)(hd:s.heap.DictAt knd d kvs ep)(eN:kvs.length<=sizeLine)
  (hQ:∀ h' tk vv c',(∀ b o,s.heap.get? b=some o->h'.get? b=some o)->h'.get? s.heap.objs.size=some { cls:=.type "list",dict:=none,data:=.seq vv c',slots:=#[] }->
   ItemsOf (λi v=>∃ k x,kvs[i]?=some (k,x)/\knd.is k v=true) vv kvs.length->Q (.ref s.heap.objs.size) { s with heap:=h',toks:=tk }) :
  wpAny (model prog w) A (call (.type "list") [.ref d]) Q E s:=by
 refine callType_codes (Q₁:=λu s1=>u=.ref s.heap.objs.size/\s1={ s with heap:=s.heap.push { cls:=.type "list",data:=.seq #[] } }) F.called_list (F.typeCall_list_1 _) F.entry_list_init (code_list_new _ ⟨rfl,rfl⟩) λu s1 e1=>?_;obtain⟨rfl,rfl⟩:=e1;have hS:(s.heap.push { cls:=.type "list",data:=.seq #[] }).get? s.heap.objs.size=some { cls:=.type "list",data:=.seq #[] }:=Heap.get?_push_size _ rfl;have NK:(s.heap.push { cls:=.type "list",data:=.seq #[] }).DictAt knd d kvs ep:=hd.at' λo e=>Heap.get?_push_of_some _ e
 have U9:d≠s.heap.objs.size:=by
  obtain⟨o,es,ho,_⟩:=hd;exact qo (Heap.lt_size ho)
 refine⟨⟨_,hS,rfl⟩,F.args_list_init_2 _ _,?_⟩;show wpAny _ _ (do let old ← Builtin.List.listItems (.ref s.heap.objs.size);Builtin.List.listUpdate (.ref s.heap.objs.size) (λ_=>#[]);letGo old.toList.reverse;Builtin.List.listExtendWith (.ref s.heap.objs.size) (.ref d) .none) _ _ _;refine wpAny_bind ?_;unfold Builtin.List.listItems;refine wpAny_bind (wpAny_seqItems hS rfl (wpAny_pure ?_));show wpAny _ _ (updateSeq s.heap.objs.size (λ_=>#[]) >>= λ_=>letGo (#[]:Array Value).toList.reverse >>= λ_=>Builtin.List.listExtendWith (.ref s.heap.objs.size) (.ref d) .none) _ _ _;refine wpAny_bind (wpAny_updateSeq hS rfl ?_);have WY:=Heap.get?_update_self (Obj.mapSeq λ_=>(#[]:Array Value)) hS rfl;have Oz:∀ b o,b≠s.heap.objs.size->(s.heap.push { cls:=.type "list",data:=.seq #[] }).get? b=some o->((s.heap.push { cls:=.type "list",data:=.seq #[] }).update s.heap.objs.size (Obj.mapSeq λ_=>(#[]:Array Value))).get? b=some o:=λb o nb e=>(Heap.get?_update_other _ _ nb.symm).trans e;refine wpAny_bind (wpAny_letGo ?_);refine HW (A:=A.in1) (knd:=knd) hh hs (NK.at' λo e=>Oz _ o U9 e) eN s.heap.objs.size .none _ WY λh' tk vv c' hk hS' fH=>?_;exact⟨rfl,hQ h' tk vv c' (λb o e=>hk b o (qo (Heap.lt_size e)) (Oz b o (qo (Heap.lt_size e)) (Heap.get?_push_of_some _ e))) hS' fH⟩
end
theorem Kq{X:Cx}(hc:X.calm=true):pR X (.type "list") (λxs H Q=>∃ (d:Addr) (kvs:List (iz × V)),xs=[.ref d]/\H d=some (.dK kvs)/\∀ l,H l=none->Q (.ref l) (aQ H l (.lst (kvs.map λp=>kV p.1)))):=by
 intro ao s σ H xs us Q I r h;obtain⟨d,kvs,rfl,hd,q⟩:=h;obtain⟨u,rfl,rx⟩:=r.one;cases (show u=Value.ref d from rx);obtain⟨hz,hs,vs,kv,o,es,ep,ho,hx⟩:=(show iZ X.prog X.w H s.heap d (.dK kvs) from I.hok d _ hd);have len:=kv.length;refine Cy (I.ok.hd hc) hs ⟨o,es,ho,hx⟩ (by omega) λh' tk vv c' hk hS fH=>?_;refine⟨.ref s.heap.objs.size,_,I.laid (o:=.lst (kvs.map λp=>kV p.1)) (t':=tk) hk (jz _) ⟨by rw[cS];exact hz,vv.toList,c',?_,by simpa using hS⟩,rfl,q _ (I.hok.fresh (jz _))⟩
 have key:∀ (kvs:List (iz × V)) (vs:List (iz × Value)) (us:List Value),KV kvs vs->us.length=vs.length->(∀ (j:Nat) (v:Value),us[j]?=some v->∃ k x,vs[j]?=some (k,x)/\BS k v=true)->cG (kvs.map λp=>kV p.1) us:=by
  intro kvs
  induction kvs with
  | nil =>
   intro vs us kv hl _;cases kv
   cases us with
   | nil=>exact .nil
   | cons=>simp at hl
  | cons p r ih =>
   intro vs us kv hl hp
   cases kv with
   | @cons _ q _ FY h1 h2 =>
   cases us with
   | nil=>simp at hl
   | cons u us =>
    obtain⟨k,x,e1,e2⟩:=hp 0 u rfl;have e3:q=(k,x):=by simpa using e1
    subst e3;refine .cons ?_ (ih FY us h2 (by simpa using hl) λj v e=>?_)
    ·show L2.RelV (kV p.1) u;rw[show p.1=k from h1.1];rcases iA e2 with ⟨i,t,rfl,rfl⟩|⟨i,t,rfl,rfl⟩
     ·exact⟨t,rfl⟩
     ·exact⟨t,rfl⟩
    ·obtain⟨k',x',e4,e5⟩:=hp (j+1) v (by simpa using e);exact⟨k',x',by simpa using e4,e5⟩
 exact key kvs vs vv.toList kv (by simpa using fH.1) λj v e=>fH.2 j v (by simpa using e)
end dF
namespace Cz
open PySem.Spec PyProof.Rows L2 dF jE
end Cz
namespace jE
open PySem.Spec PyProof.Rows L2 dF iP Cz
inductive cj{α β:Type}(R:α->β->Prop):List α->List β->Prop
 | nil:cj R [] []
 | cons {a:α} {b:β} {as:List α} {bs:List β}:R a b->cj R as bs->cj R (a::as) (b::bs)
section
variable {α β:Type} {R R':α->β->Prop} {as:List α} {bs:List β} {a:α} {b:β}
theorem cj.len{as:List α}{bs:List β}(h:cj R as bs):as.length=bs.length:=by
 induction h with
 | nil=>rfl
 | cons _ _ ih=>rw[qC,qC,ih]
theorem cj.get:∀ {as:List α} {bs:List β} {i:Nat},cj R as bs->as[i]?=some a->∃ b,bs[i]?=some b/\R a b
 | _,_,_,.nil,h=>by simp at h
 | _,_,0,.cons r _,h=>by simp at h;subst h;exact⟨_,rfl,r⟩
 | _,_,i+1,.cons _ t,h=>by simp at h;simpa using t.get h
theorem cj.get':∀ {as:List α} {bs:List β} {i:Nat},cj R as bs->bs[i]?=some b->∃ a,as[i]?=some a/\R a b
 | _,_,_,.nil,h=>by simp at h
 | _,_,0,.cons r _,h=>by simp at h;subst h;exact⟨_,rfl,r⟩
 | _,_,i+1,.cons _ t,h=>by simp at h;simpa using t.get' h
theorem cj.snoc{as:List α}{bs:List β}(t:cj R as bs)(h:R a b):cj R (as++[a]) (bs++[b]):=by
 induction t with
 | nil=>exact .cons h .nil
 | cons r _ ih=>exact .cons r ih
theorem cj.mono{as:List α}{bs:List β}(h:∀ a b,R a b->R' a b)(t:cj R as bs):cj R' as bs:=by
 induction t with
 | nil=>exact .nil
 | cons r _ ih=>exact .cons (h _ _ r) ih
theorem cj.set:∀ {as:List α} {bs:List β} (i:Nat),cj R as bs->R a b->cj R (as.set i a) (bs.set i b)
 | _,_,_,.nil,_=>.nil
 | _,_,0,.cons _ t,h=>.cons h t
 | _,_,i+1,.cons r t,h=>.cons r (t.set i h)
theorem cj.split:∀ {as:List α} {bs:List β},cj R as (bs++[b])->∃ Qm a,as=Qm++[a]/\cj R Qm bs/\R a b
 | _,[],.cons r .nil=>⟨[],_,rfl,.nil,r⟩
 | _,c::bs,.cons r t=>by
  obtain⟨Qm,a,rfl,t',r'⟩:=t.split;exact⟨_::Qm,a,rfl,.cons r t',r'⟩
end
inductive aT where
 | win (n:Int)
 | aS (a b:Int)
def CA:aT->List V
 | .win n=>[.str "win",.int n]
 | .aS a b=>[.str "ink",.int a,.int b]
def cZ(H:Hp)(v:V)(it:aT):Prop:=∃ a,v=.ref a/\H a=some (.tup (CA it))
theorem cZ.same{H H':Hp}{v:V}{it:aT}(s:aG H H'):cZ H v it->cZ H' v it:=λ⟨a,e,h⟩=>⟨a,e,s _ _ h⟩
theorem cZ.keep{H H':Hp}{v:V}{it:aT}{q:Addr}{xs:List V}(hq:H q=some (.lst xs))(k:cY q H H'):cZ H v it->cZ H' v it:=λ⟨a,e,h⟩=>⟨a,e,k a _ h (by
 intro z;rw[z,hq]at h
 cases h)⟩
def bL(H:Hp)(v:V)(aP:List aT):Prop:=∃ a vs,v=.ref a/\H a=some (.lst vs)/\cj (cZ H) vs aP
theorem bL.same{H H':Hp}{v:V}{aP:List aT}(s:aG H H'):bL H v aP->bL H' v aP:=λ⟨a,vs,e,h,t⟩=>⟨a,vs,e,s _ _ h,t.mono λ_ _=>cZ.same s⟩
def jc(H:Hp)(r:Addr)(rows:List (List aT)):Prop:=∃ vs,H r=some (.lst vs)/\cj (bL H) vs rows
theorem jc.same{H H':Hp}{r:Addr}{rows:List (List aT)}(s:aG H H'):jc H r rows->jc H' r rows:=λ⟨vs,h,t⟩=>⟨vs,s _ _ h,t.mono λ_ _=>bL.same s⟩
theorem cZ.eqv{H:Hp}{x y:V}{it:aT}(n:Nat)(h1:cZ H x it)(h2:cZ H y it):Eqv H (n+2) x y:=by
 obtain⟨a,rfl,e1⟩:=h1;obtain⟨b,rfl,e2⟩:=h2;refine .inr ⟨false,a,b,_,_,rfl,rfl,e1,e2,rfl,λi u v eu ev=>?_⟩;rw[eu]at ev;cases ev
 cases it with
 | win n =>
  match i,eu with
  | 0,e=>cases e;exact .inl ⟨rfl,rfl⟩
  | 1,e=>cases e;exact .inl ⟨rfl,rfl⟩
  | k+2,e=>simp[CA]at e
 | aS p q =>
  match i,eu with
  | 0,e=>cases e;exact .inl ⟨rfl,rfl⟩
  | 1,e=>cases e;exact .inl ⟨rfl,rfl⟩
  | 2,e=>cases e;exact .inl ⟨rfl,rfl⟩
  | k+3,e=>simp[CA]at e
theorem bL.eqv{H:Hp}{x y:V}{aP:List aT}(n:Nat)(h1:bL H x aP)(h2:bL H y aP):Eqv H (n+3) x y:=by
 obtain⟨a,vs,rfl,e1,t1⟩:=h1;obtain⟨b,us,rfl,e2,t2⟩:=h2;refine .inr ⟨true,a,b,_,_,rfl,rfl,e1,e2,by rw[t1.len,t2.len],λi u v eu ev=>?_⟩;obtain⟨z,ez,r1⟩:=t1.get eu;obtain⟨z',ez',r2⟩:=t2.get ev;rw[ez]at ez';cases ez';exact r1.eqv n r2
def bq(t:List aT)(e:Int):List aT :=
 if e<0 then t++[.win (-1-e)] else
 match t.getLast? with
 | some (.aS a b)=>if b=e then t.dropLast++[.aS a (e+1)] else t++[.aS e (e+1)]
 | _=>t++[.aS e (e+1)]
def aI(es:List Int):List aT:=es.foldl bq []
def ig(aP:List aT):List Int:=aP.filterMap λit=>match it with|.win n=>some n|.aS _ _=>none
def dZ(es:List Int):List Int:=es.filterMap λe=>if e<0 then some (-1-e) else none
theorem jq(a b:List aT):ig (a++b)=ig a++ig b:=by unfold ig;rw[List.filterMap_append]
theorem NL(t:List aT)(e:Int):ig (bq t e)=ig t++(if e<0 then [-1-e] else []):=by
 unfold bq;by_cases h:e<0
 ·rw[if_pos h,if_pos h,jq];rfl
 ·rw[if_neg h,if_neg h,kW];rcases uz t with rfl|⟨t',l,rfl⟩
  ·rfl
  ·rw[sG,wY]
   cases l with
   | win n=>simp[jq,ig]
   | aS a b =>
    show ig (if b=e then (t'++[aT.aS a b]).dropLast++[.aS a (e+1)] else (t'++[aT.aS a b])++[.aS e (e+1)])=_;by_cases hb:b=e
    ·rw[if_pos hb,List.dropLast_concat,jq,jq];rfl
    ·rw[if_neg hb,jq,jq];simp[ig]
theorem NN(es:List Int):∀ t:List aT,ig (es.foldl bq t)=ig t++dZ es:=by
 induction es with
 | nil=>intro t;simp[dZ]
 | cons e es ih =>
  intro t;rw[qZ,ih,NL,tX];unfold dZ;rw[List.filterMap_cons];by_cases h:e<0
  ·simp[h]
  ·simp[h]
theorem lF(es:List Int):ig (aI es)=dZ es:=by
 unfold aI;rw[NN];rfl
theorem b9{es:List Int}{y:Int}:y∈dZ es↔0<=y/\-1-y∈es:=by
 unfold dZ;rw[List.mem_filterMap];constructor
 ·rintro⟨e,he,h⟩;by_cases h0:e<0
  ·rw[if_pos h0]at h;cases h;exact⟨by omega,by rw[show -1-(-1-e)=e by omega];exact he⟩
  ·rw[if_neg h0]at h;cases h
 ·rintro⟨h0,h1⟩;refine⟨-1-y,h1,?_⟩;rw[if_pos (by omega)];congr 1;omega
theorem ue(es:List Int):∀ t:List aT,(es.foldl bq t).length<=t.length+es.length:=by
 induction es with
 | nil=>intro t;simp
 | cons e es ih =>
  intro t;rw[qZ];have z:=ih (bq t e)
  have z2:(bq t e).length<=t.length+1:=by
   unfold bq;split
   ·simp
   ·split
    ·split
     ·rw[dX,List.length_dropLast,vF];omega
     ·simp
    ·simp
  rw[qC];omega
def nJ(rows:dM)(x y:Int):Prop:=0<=x/\∃ es,rows[x.toNat]?=some es/\y∈dZ es
inductive Reach(E:Int->Int->Prop)(s:Int):Int->Prop
 | one {y:Int}:E s y->Reach E s y
 | step {y z:Int}:Reach E s y->E y z->Reach E s z
theorem Reach.closed{E:Int->Int->Prop}{s:Int}{S:Int->Prop}(h0:∀ y,E s y->S y)(h1:∀ x y,S x->E x y->S y):∀ {g:Int},Reach E s g->S g
 | _,.one h=>h0 _ h
 | _,.step r h=>h1 _ _ (Reach.closed h0 h1 r) h
def jw(rows:dM):Prop:=∀ es∈rows,∀ y∈dZ es,y<rows.length
theorem jw.FZ{rows:dM}(h:jw rows){x y:Int}(e:nJ rows x y):0<=y/\y<rows.length:=by
 obtain⟨_,es,he,hy⟩:=e;exact⟨(b9.mp hy).1,h es (vn he) y hy⟩
def cnt(n:Nat)(p:Nat->Bool):Nat:=((List.range n).filter p).length
theorem Qn(n:Nat){p q:Nat->Bool}(h:∀ i,i<n->p i=q i):cnt n p=cnt n q:=by
 unfold cnt;rw[List.filter_congr λi hi=>h i (List.mem_range.mp hi)]
theorem yR(n:Nat)(p:Nat->Bool):cnt (n+1) p=cnt n p+(if p n=true then 1 else 0):=by
 unfold cnt;rw[List.range_succ,List.filter_append,dX];congr 1;by_cases h:p n=true
 ·rw[if_pos h];simp[h]
 ·rw[if_neg h];simp[h]
theorem yS(j:Nat):∀ (n:Nat) {p q:Nat->Bool},j<n->p j=true->(∀ i,q i=(p i&&decide (i≠j)))->cnt n q+1=cnt n p
 | 0,_,_,h,_,_=>by omega
 | n+1,p,q,h,hj,hq=>by
  rw[yR,yR];by_cases e:j=n
  ·subst e
   have z:cnt j q=cnt j p:=Qn j λi hi=>by
    rw[hq i];have:decide (i≠j)=true:=by simp;omega
    rw[this,Bool.and_true]
   have z2:q j=false:=by rw[hq j];simp
   rw[z,z2,if_pos hj];simp
  ·have ih:=yS j n (p:=p) (q:=q) (by omega) hj hq
   have z:q n=p n:=by
    rw[hq n];have:decide (n≠j)=true:=by simp;omega
    rw[this,Bool.and_true]
   rw[z];omega
theorem CC(n:Nat)(p:Nat->Bool):cnt n p<=n:=by
 unfold cnt;have:=List.length_filter_le p (List.range n);rw[List.length_range]at this;exact this
def iQ(av:Addr->Prop)(H:Hp)(v:V)(es:List Int):Prop:=∃ a,v=.ref a/\¬ av a/\H a=some (.lst (es.map V.int))
def kC(av:Addr->Prop)(H:Hp)(r:Addr)(rows:dM):Prop:=∃ vs,H r=some (.lst vs)/\cj (iQ av H) vs rows
theorem iQ.keep{av:Addr->Prop}{H H':Hp}{v:V}{es:List Int}(k:∀ a o,¬ av a->H a=some o->H' a=some o):iQ av H v es->iQ av H' v es:=λ⟨a,e,n,h⟩=>⟨a,e,n,k a _ n h⟩
theorem kC.same{av:Addr->Prop}{H H':Hp}{r:Addr}{rows:dM}(s:aG H H'):kC av H r rows->kC av H' r rows:=λ⟨vs,h,t⟩=>⟨vs,s _ _ h,t.mono λ_ _=>iQ.keep λa o _ e=>s a o e⟩
theorem kC.get{av:Addr->Prop}{H:Hp}{r:Addr}{rows:dM}{i:Nat}{es:List Int}(h:kC av H r rows)(e:rows[i]?=some es):∃ vs a,H r=some (.lst vs)/\vs[i]?=some (.ref a)/\H a=some (.lst (es.map V.int))/\vs.length=rows.length:=by
 obtain⟨vs,hr,t⟩:=h;obtain⟨v,ev,a,rfl,_,ha⟩:=t.get' e;exact⟨vs,a,hr,ev,ha,t.len⟩
theorem LY(x:Int)(xs:List Int):inV (.int x) (xs.map V.int)=decide (x∈xs):=by
 unfold inV
 induction xs with
 | nil=>rfl
 | cons y ys ih =>
  rw[oK,List.any_cons,ih];show ((y == x) || decide (x∈ys))=_;by_cases h:y=x
  ·simp[h]
  ·have h2:¬ x=y:=λz=>h z.symm;simp[h,h2]
theorem EX(xs:List Int):(xs.map V.int).all yK=true:=by
 rw[List.all_eq_true];intro v hv;obtain⟨i,_,rfl⟩:=List.mem_map.mp hv;rfl
def DR(rows:dM):Prop:=∃ rk:Int->Nat,(∀ x,rk x<=40)/\∀ x y,nJ rows x y->rk y<rk x
theorem iQ.at{av:Addr->Prop}{H:Hp}{v:V}{es:List Int}{q:Addr}(o:HO)(hq:av q):iQ av H v es->iQ av (aQ H q o) v es:=iQ.keep λa u n e=>by
 rw[aL (λz=>n (by rw[z];exact hq))];exact e
theorem iQ.same{av:Addr->Prop}{H H':Hp}{v:V}{es:List Int}(s:aG H H'):iQ av H v es->iQ av H' v es:=iQ.keep λa u _ e=>s a u e
def seen(kvs:List (iz × V))(x:Int):Prop:=(cW kvs (Sum.inl x)).isSome=true
def tN(n:Nat)(kvs:List (iz × V)):Nat:=cnt n λi=>(cW kvs (Sum.inl (i:Int))).isNone
theorem HX{kvs:List (iz × V)}{y x:Int}(v:V):seen (ic kvs (Sum.inl y) v) x↔x=y\/seen kvs x:=by
 unfold seen;rw[pX];by_cases h:x=y
 ·rw[if_pos (by rw[h]),h];simp
 ·rw[if_neg (λz=>h (Sum.inl.inj z))];simp[h]
theorem HY{n:Nat}{kvs:List (iz × V)}{y:Int}(v:V)(h0:0<=y)(h1:y<n)(hn:cW kvs (Sum.inl y)=none):tN n (ic kvs (Sum.inl y) v)+1=tN n kvs:=by
 refine yS y.toNat n (by omega) ?_ λi=>?_
 ·show (cW kvs (Sum.inl (y.toNat:Int))).isNone=true;rw[show ((y.toNat:Nat):Int)=y by omega,hn];rfl
 ·show (cW (ic kvs (Sum.inl y) v) (Sum.inl (i:Int))).isNone=((cW kvs (Sum.inl (i:Int))).isNone&&decide (i≠y.toNat));rw[pX];by_cases h:(i:Int)=y
  ·rw[if_pos (by rw[h])];have:decide (i≠y.toNat)=false:=by simp;omega
   rw[this,Bool.and_false];rfl
  ·rw[if_neg (λz=>h (Sum.inl.inj z))];have:decide (i≠y.toNat)=true:=by simp;omega
   rw[this,Bool.and_true]
theorem LZ(lo:Int)(n:Nat):(run lo n).length=n:=by
 induction n generalizing lo with
 | zero=>rfl
 | succ n ih=>rw[run,qC,ih]
theorem Qo:∀ {n:Nat} {lo y:Int},y∈run lo n->lo<=y/\y<lo+n
 | 0,_,_,h=>by cases h
 | n+1,lo,y,h=>by
  rcases List.mem_cons.mp h with rfl|z
  ·omega
  ·have:=Qo z;omega
theorem cj.new{H2:Hp}{q t:Addr}{vs:List V}{aP:List aT}{it:aT}{ys:List V}(gy:H2 q=some (.lst ys))(hb:cj (cZ H2) vs aP)(ht:H2 t=none)(zs:List V) :
  cj (cZ (aQ (aQ H2 t (.tup (CA it))) q (.lst zs))) (vs++[.ref t]) (aP++[it]):=by
 have WO:q≠t:=az gy ht;have s1:aG H2 (aQ H2 t (.tup (CA it))):=ak ht _;refine cj.snoc (hb.mono λv i h=>(h.same s1).keep (s1 _ _ gy) (aN q _ _)) ⟨t,rfl,?_⟩;rw[aL WO.symm,af]
end jE
namespace WZ
open PySem.Spec PyProof.Rows L2 dF
section
variable {M:Model} {A:Around} {E:Value->Shared->Prop} {s:Shared}
theorem F0{a b:Value}{Q:Value->Shared->Prop}(ha:s.TypeIs a "list")(hb:s.TypeIs b "list")(hc:wpAny M A (call (.builtin "list.__iadd__") [a,b]) Q E s):wpAny M A (inplaceOp .Add a b) Q E s:=by
 unfold inplaceOp;refine wpAny_holding ?_;have hq:isSeqSlot (some (.builtin "list.__iadd__"))=true:=by decide +kernel
 have hfi:fillsInplaceSlot (.type "list") "add" (Operator.Add == .Add)=pure false:=by
  unfold fillsInplaceSlot;show (typeLookup (.type "list") (dunderI "add") >>= λfi=>pure (fi.isSome&&!isSeqSlot fi))=pure false;rw[PySem.F.slot_list_iadd.lookup,pure_bind,hq];rfl
 have hsi:seqSlot? (.type "list") (dunderI "add")=pure (some (.builtin "list.__iadd__")):=PySem.seqSlot_of PySem.F.slot_list_iadd.lookup hq;refine wpAny_bind (wpAny_typeOf ha (wpAny_bind (wpAny_of_eq hfi ?_)));show wpAny M A (if false=true then _ else _) Q E s;rw[if_neg vo];refine wpAny_bind (binaryOp1_none (nm:="add") ha hb PySem.noFill_list_add ?_);refine wpAny_bind (wpAny_of_eq hsi ?_);exact wpAny_bind (wpAny_rule hc)
end
section
variable {X:Cx}
def Va:V->V->Hp->VK->Prop:=λx y H Q=>∃ l b xs zs,x=.ref l/\y=.ref b/\H l=some (.lst xs)/\H b=some (.lst zs)/\xs.length+zs.length<=sizeLine/\Q (.ref l) (aQ H l (.lst (xs++zs)))
theorem zZ:PIp X .Add Va:=by
 intro ao s σ H x y v u Q I rx ry h;obtain⟨l,b,xs,zs,rfl,rfl,hH,hB,hz,q⟩:=h;cases rx;cases ry;obtain⟨z,aP,n,r,hl,e⟩:=I.DM hH;obtain⟨z2,its2,n2,r2,FJ,e2⟩:=I.DM hB;have hsz:aP.toArray.size+its2.toArray.size<=sizeLine:=by rw[jV,jV];omega
 have Hs:¬ (!aP.toArray.isEmpty&&Builtin.List.listTooLong (aP.toArray.size+its2.toArray.size))=true:=by
  rw[Ci hsz,Bool.and_false];exact vo
 refine F0 ⟨_,e,rfl⟩ ⟨_,e2,rfl⟩ ?_;refine call_meets PySem.F.slot_list_iadd ⟨_,e,rfl⟩ PySem.F.entry_list_iadd (PySem.F.args_list_iadd_2 _ _) (AutoSeq1.list___iadd___list_list_0 l aP.toArray n b its2.toArray n2 Hs (by rw[jV];omega) (by omega)) ⟨e,e2,?_⟩;refine⟨.ref l,_,I.FI (its':=aP++its2) hH e (by simp) (r.append r2) ?_,rfl,q⟩;rw[dX];omega
section
variable {N:List Str} {scope:Scope} {cl:List (Str × Addr)} {C:Addr} {s₀:Shared} {H₀:Hp} {ex:List Addr} {pn:List (Addr × Obj)}
theorem Kr:pR (oz X N scope cl C s₀ H₀ ex pn) (.type "list") (Y6 X.K):=ja
end
theorem Ks:YT X .Add Va:=λao s σ H x y u v Q I rx ry h=>zZ ao s σ H x y u v Q I rx ry h
end
theorem TM{p q A B T:Prop} [Decidable p] [Decidable q] (w:p->(if decide q=true then A else B)->T) (h1:p/\q->A) (h2:¬ (p/\q)->B):if decide p=true then T else (if false=true then A else B):=by
 by_cases a:p
 ·rw[if_pos (decide_eq_true a)];by_cases b:q
  ·exact w a (by rw[if_pos (decide_eq_true b)];exact h1 ⟨a,b⟩)
  ·exact w a (by rw[decide_eq_false b,if_neg vo];exact h2 λz=>b z.2)
 ·rw[decide_eq_false a,if_neg vo,if_neg vo];exact h2 λz=>a z.1
theorem Qp{p q A B T:Prop} [Decidable p] [Decidable q] (w:(if decide q=true then A else B)->T) (h1:p/\q->A) (h2:¬ (p/\q)->B):if decide p=true then T else (if false=true then A else B):=TM (λ_=>w) h1 h2
end WZ
namespace jE
open PySem.Spec PyProof.Rows L2 dF iP Cz
def qy(r:Row):Prop:=∀ p∈r,0<=p.1/\p.1<=p.2
def nK(r:Row):Prop:=∀ p∈r,0<=p.1/\p.1<p.2
theorem EY{t:Row}{s e:Int}(h:nK t)(h0:0<=s)(h1:s<e):nK (lV t s e):=by
 have add:nK (t++[(s,e)]):=λp hp=>by
  rcases List.mem_append.mp hp with z|z
  ·exact h p z
  ·rw[List.mem_singleton.mp z];exact⟨h0,h1⟩
 unfold lV;rcases uz t with rfl|⟨t',l,rfl⟩
 ·exact add
 ·rw[sG]at h add ⊢;rw[wY];show nK (if l.2=s then (t'++[l]).dropLast++[(l.1,e)] else t'++[l]++[(s,e)]);by_cases c:l.2=s
  ·rw[if_pos c,List.dropLast_concat];intro p hp;rcases List.mem_append.mp hp with z|z
   ·exact h p (xR _ z)
   ·have:=h l (by simp);rw[List.mem_singleton.mp z];exact⟨this.1,by show l.1<e;omega⟩
  ·rw[if_neg c];exact add
theorem uf{r:Row}(h:qy r):nK (cJ r):=by
 have z:∀ (r t:Row),qy r->nK t->nK (r.foldl gB t):=by
  intro r
  induction r with
  | nil=>intro t _ g;exact g
  | cons p r ih =>
   intro t h g;rw[qZ];refine ih _ (λq hq=>h q (sF _ hq)) ?_;unfold gB;have hp:=h p (by simp);by_cases c:p.1=p.2
   ·rw[if_pos c];exact g
   ·rw[if_neg c];exact EY g hp.1 (by omega)
 exact z r [] h λp hp=>by cases hp
theorem EZ{ns:List Int}(h:∀ x∈ns,0<=x):nK (cU ns):=by
 have z:∀ (ns:List Int) (t:Row),(∀ x∈ns,0<=x)->nK t->nK (ns.foldl (λt n=>lV t n (n+1)) t):=by
  intro ns
  induction ns with
  | nil=>intro t _ g;exact g
  | cons n ns ih =>
   intro t h g;rw[qZ];exact ih _ (λx hx=>h x (sF _ hx)) (EY g (h n (by simp)) (by omega))
 exact z ns [] h λp hp=>by cases hp
theorem nK.nn{r:Row}(h:nK r):qy r:=λp hp=>⟨(h p hp).1,by have:=(h p hp).2;omega⟩
theorem CF(a b:Int):∀ (r:Row) (h:Int),qy r->qy (qg a b h r)
 | [],_,_=>λp hp=>by cases hp
 | q::r,h,g=>by
  intro p hp;rw[qg]at hp;rcases List.mem_append.mp hp with z|z
  ·have gq:=g q (by simp);refine⟨?_,Qe a b h q p z⟩;unfold Qd at z;split at z
   ·rw[List.mem_singleton.mp z];show 0<=q.1+max (a-h) 0;omega
   ·cases z
  ·exact CF a b r _ (λx hx=>g x (sF _ hx)) p z
end jE
namespace TN
open PySem.Spec PyProof.Rows L2 dF
end TN
namespace jE
open PySem.Spec PyProof.Rows L2 dF iP Cz TN
end jE
namespace jE
open PySem.Spec PyProof.Rows L2 dF iP Cz TN
theorem L0:∀ {n:Nat} {s x:Int},x∈run s n↔s<=x/\x<s+n
 | 0,s,x=>by simp[run]
 | n+1,s,x=>by
  rw[run,List.mem_cons,L0];omega
def Ris(r:Row):Prop:=r.Pairwise (λp q=>p.2<q.1)/\∀ p∈r,p.1<p.2
end jE
namespace jE
open PySem.Spec PyProof.Rows L2 dF iP Cz TN
end jE
namespace jE
open PySem.Spec PyProof.Rows L2 dF iP Cz WZ
structure bU(K:PySem.W.Frag)(C:Addr)(m dD:Str)(st:Stmt)(ps:List Str)(a:Addr)(d:FuncData):Prop where
 F:iK K m dD st a d
 b:Binds K d ps []
 mt:O7 K C m a
structure ClsAt(K:PySem.W.Frag)(mg:Str->Option Value)(x:Str)(C fi:Addr):Prop where
 cl:Es K C
 m:mg x=some (.ref C)
 X9:Mk K C fi
structure Qq(K:PySem.W.Frag)(mg:Str->Option Value)(x:Str)(C:Addr):Prop where
 m:mg x=some (.ref C)
 x:PySem.W.excIn K C [.type "ValueError",.type "Exception",.type "BaseException",.type "object"] "ValueError.__new__"=true
 h:PySem.W.exmOne K (.ref C) (.ref C)=some true
end jE
namespace jE
open L2 dF iP
section
variable {p:List Value->Prop}
theorem us0(h:p []):∀ us:List Value,us.length=0->p us:=λus e=>by rw[List.length_eq_zero_iff.mp e];exact h
theorem Yb{n:Nat}(h:∀ a (us:List Value),us.length=n->p (a::us)):∀ us:List Value,us.length=n+1->p us:=by
 intro us e
 cases us with
 | nil=>cases e
 | cons a us=>exact h a us (Nat.succ.inj e)
theorem us1(h:∀ a,p [a]):∀ us:List Value,us.length=1->p us:=Yb λa=>us0 (p:=λus=>p (a::us)) (h a)
theorem us2(h:∀ a b,p [a,b]):∀ us:List Value,us.length=2->p us:=Yb λa=>us1 (p:=λus=>p (a::us)) (h a)
theorem us3(h:∀ a b c,p [a,b,c]):∀ us:List Value,us.length=3->p us:=Yb λa=>us2 (p:=λus=>p (a::us)) (h a)
theorem us4(h:∀ a b c d,p [a,b,c,d]):∀ us:List Value,us.length=4->p us:=Yb λa=>us3 (p:=λus=>p (a::us)) (h a)
theorem us5(h:∀ a b c d e,p [a,b,c,d,e]):∀ us:List Value,us.length=5->p us:=Yb λa=>us4 (p:=λus=>p (a::us)) (h a)
theorem us6(h:∀ a b c d e f,p [a,b,c,d,e,f]):∀ us:List Value,us.length=6->p us:=Yb λa=>us5 (p:=λus=>p (a::us)) (h a)
end
section
variable {K:PySem.W.Frag} {mg:Str->Option Value} {h:Heap} {x dD:Str} {st:Stmt} {f C:Addr} {ps:List Str}
theorem DI.d(q:DI K x st f)(X:K.In h)(G:h.Ns mainGlobals mg)(b:∀ (kV zI pm:Value) (an:Option Addr) (dJ ct:Value) (us:List Value),us.length=ps.length->bindArgs (PySem.W.fnOf x x (sJ st) (ly st) (aA st) .none kV zI pm an dJ ct) ⟨us,[]⟩=pure (ps.zip us):=by intro _ _ _ _ _ _;first|exact us1 λ_=>rfl|exact us2 λ_ _=>rfl|exact us3 λ_ _ _=>rfl|exact us4 λ_ _ _ _=>rfl|exact us5 λ_ _ _ _ _=>rfl|exact us6 λ_ _ _ _ _ _=>rfl|exact us0 rfl):∃ fd,aF K mg x st ps f fd:=by
 obtain⟨a,l,c,k⟩:=q;have F:=J5 l c k;exact⟨_,F,F.binds b,PySem.W.mg_of X G a⟩
theorem MI.d(q:MI K C x dD st f)(b:∀ (kV zI pm:Value) (an:Option Addr) (dJ ct:Value) (us:List Value),us.length=ps.length->bindArgs (PySem.W.fnOf x dD (sJ st) (ly st) (aA st) .none kV zI pm an dJ ct) ⟨us,[]⟩=pure (ps.zip us):=by intro _ _ _ _ _ _;first|exact us1 λ_=>rfl|exact us2 λ_ _=>rfl|exact us3 λ_ _ _=>rfl|exact us4 λ_ _ _ _=>rfl|exact us5 λ_ _ _ _ _=>rfl|exact us6 λ_ _ _ _ _ _=>rfl|exact us0 rfl):∃ fd,bU K C x dD st ps f fd:=by
 obtain⟨a,i,l,c,k⟩:=q;have F:=J5 l c k;exact⟨_,F,F.binds b,⟨a,i,k⟩⟩
theorem CI.d(q:CI K x C)(X:K.In h)(G:h.Ns mainGlobals mg)(m:O7 K C "__init__" fi):ClsAt K mg x C fi:=by
 obtain⟨a,pg,hd,po,sa,mk,kc⟩:=q;obtain⟨a1,i1,k1⟩:=m;exact⟨⟨pg,hd,po,sa⟩,PySem.W.mg_of X G a,⟨mk,a1,i1,kc⟩⟩
theorem XI.d(q:XI K x C)(X:K.In h)(G:h.Ns mainGlobals mg):Qq K mg x C:=by
 obtain⟨a,b,c⟩:=q;exact⟨PySem.W.mg_of X G a,b,c⟩
end
end jE
namespace dF
open PySem.Spec PyProof.Rows L2
theorem CG{α β:Type}{F:α->β->Prop}:∀ {xs:List α} {ys:List β} {i:Nat} {x:α},Paired F xs ys->xs[i]?=some x->∃ y,ys[i]?=some y/\F x y
 | _,_,_,_,.nil,e=>by simp at e
 | _,_,0,_,.cons r _,e=>by simp at e;subst e;exact⟨_,rfl,r⟩
 | _,_,i+1,x,.cons _ t,e=>by
  obtain⟨y,h1,h2⟩:=CG (i:=i) (x:=x) t (by simpa using e);exact⟨y,by simpa using h1,h2⟩
theorem AU{α β:Type}{F:α->β->Prop}:∀ {xs:List α} {ys:List β} {i:Nat} {y:β},Paired F xs ys->ys[i]?=some y->∃ x,xs[i]?=some x/\F x y
 | _,_,_,_,.nil,e=>by simp at e
 | _,_,0,_,.cons r _,e=>by simp at e;subst e;exact⟨_,rfl,r⟩
 | _,_,i+1,y,.cons _ t,e=>by
  obtain⟨x,h1,h2⟩:=AU (i:=i) (y:=y) t (by simpa using e);exact⟨x,by simpa using h1,h2⟩
end dF
namespace dF
open PySem.Spec PyProof.Rows L2 jE Cz
def W0(td ty tx:TE):TE:=fun σ H Q=>td σ H λx H1=>∃ a,x=.ref a/\IsD H1 a/\ty σ H1 λy H2=>tx σ H2 λz H3=>∃ kvs k,H3 a=some (.dK kvs)/\y=kV k/\kvs.length<sizeLine/\
 (∀ v,cW kvs k=some v->Q v H3)/\(cW kvs k=none->Q z (aQ H3 a (.dK (ic kvs k z))))
theorem Qs{X:Cx}{e f:Expr}{td ty tx:TE}(ho:PE X o td)(he:PE X e ty)(hf:PE X f tx)(m:M2 X o "setdefault" qD e f sH):PE X (.Call (.Attribute o "setdefault" qD) [e,f] [] sH) (W0 td ty tx):=by
 intro ao s σ H Q I h;refine wpAny_Call_method m.base m.few m.line PySem.F.plainAttrs_dict PySem.F.slot_dict_setdefault PySem.F.type_dict_setdefault (dB (ho ao s σ H _ I h) λu s1 DH=>?_);obtain⟨x,H1,I1,rx,a,ex,d,q1⟩:=DH;subst ex;obtain rfl:u=Value.ref a:=rx;obtain⟨t1,t2,_⟩:=WX I1 d;refine⟨t1,t2,?_⟩;rw[m.trees]
 refine Calls.callWith_builtin rfl (Calls.evalArgs_plain (Calls.spliced_cons (dB (he ao s1 σ H1 _ I1 q1) λiv s2 ⟨y,H2,I2,ry,q2⟩ =>
  Calls.spliced_cons (dB (hf ao s2 σ H2 _ I2 q2) λfv s3 ⟨z,H3,I3,rz,kvs,k,ea,ey,eN,g1,g2⟩=>Calls.spliced_nil ?_))))
 subst ey;obtain⟨hz,hd,vs,AR,dd⟩:=Qg I3.hok ea;have len:=AR.length;refine call_meetsIn PySem.F.slot_dict_setdefault dd.typeIs PySem.F.entry_dict_setdefault (PySem.F.args_dict_setdefault_3 _ _ _) (kt_meets_setdefault (iY X.prog X.w) a (ER ry) hd fv) ⟨vs,dd,by omega,λv hv=>?_,λhn h' RW hs=>?_⟩
 ·have r:=AR.val k;rw[hv]at r
  cases ev:cW kvs k with
  | none=>rw[ev]at r;exact (show False from r).elim
  | some w =>
   rw[ev]at r;exact⟨w,H3,I3.tok _,r,g1 w ev⟩
 ·have r:=AR.val k;rw[hn]at r
  cases ev:cW kvs k with
  | some w=>rw[ev]at r;exact (show False from r).elim
  | none =>
   have hl:(ic kvs k z).length<=sizeLine:=by have:=ku kvs k z;omega
   have LP:∃ q,h'.get? a=some q:=let ⟨q,_,_,hq,_⟩:=RW;⟨q,hq⟩;exact⟨z,_,BF I3 (by rw[ea];exact True.intro) hs LP (Km hl hd (AR.put k rz) RW),rz,g2 ev⟩
end dF
namespace dF
open PySem.Spec PyProof.Rows L2
end dF
namespace dF
open PySem.Spec PyProof.Rows L2 jE Cz
end dF
namespace iP
open PySem.Spec PyProof.Rows PySem.W L2
end iP
namespace dF
open PySem.Spec PyProof.Rows L2 iP
def NO(c:Nat):V:=.str ⟨#[c]⟩
def iC(cs:List Nat):Str:=⟨cs.toArray⟩
theorem vN(x:Str):iC x.cps.toList=x:=by cases x;rfl
theorem uM(cs:List Nat):(iC cs).length=cs.length:=by show (cs.toArray).size=_;simp
theorem TQ{a b:List Nat}(h:iC a=iC b):a=b:=by
 have e:=congrArg (λx:Str=>x.cps.toList) h;simpa [iC] using e
theorem all_range:∀ bs:List Bool,(List.range bs.length).all (λi=>bs.getD i false)=bs.all id
 | []=>rfl
 | b::bs=>by
  rw[qC,List.range_succ_eq_map,List.all_cons,List.all_map,List.all_cons,← all_range bs];rfl
section
variable {X:Cx}
theorem DS(hc:X.calm=true):pR X (.type "list") (λxs H Q=>∃ cs:List Nat,xs=[.str (iC cs)]/\cs.length<=sizeLine/\∀ l,H l=none->Q (.ref l) (aQ H l (.lst (cs.map NO)))):=by
 intro ao s σ H xs us Q I r h;obtain⟨cs,rfl,hz,q⟩:=h;obtain⟨u,rfl,t,rfl⟩:=r.one;refine call_list_str (I.ok.hd hc) (iC cs) t (hn:=by show cs.toArray.size<=_;simpa using hz) λh' tk vv c' hk hS fH=>?_;refine⟨.ref s.heap.objs.size,_,I.laid (o:=.lst (cs.map NO)) (t':=tk) hk (jz _) ⟨by rw[cS];exact hz,vv.toList,c',?_,by simpa using hS⟩,rfl,q _ (I.hok.fresh (jz _))⟩
 have key:∀ (cs:List Nat) (us:List Value),us.length=cs.length->(∀ (j:Nat) (v:Value),us[j]?=some v->∃ c u,cs[j]?=some c/\v=Value.str ⟨#[c]⟩ u)->cG (cs.map NO) us:=by
  intro cs
  induction cs with
  | nil=>intro us hl _;cases us with
   | nil=>exact .nil
   | cons=>simp at hl
  | cons c cs ih=>intro us hl hp;cases us with
   | nil=>simp at hl
   | cons u us =>
    obtain⟨c',t',e1,e2⟩:=hp 0 u rfl;refine .cons ?_ (ih us (by simpa using hl) λj v e=>by simpa using hp (j+1) v (by simpa using e));have:c=c':=by simpa using e1
    subst this;exact⟨t',e2⟩
 refine key cs vv.toList (by have:=fH.1;simpa [iC] using this) λj v e=>?_;obtain⟨c,u,e1,e2⟩:=fH.2 j v (by simpa using e);exact⟨c,u,by simpa [iC] using e1,e2⟩
theorem NP(hc:X.calm=true):pR X (.builtin "all") (λxs H Q=>∃ (p:Addr) (bs:List Bool),xs=[.ref p]/\bR X.K H p (bs.map V.bl)/\Q (.bl (bs.all id)) H):=by
 intro ao s σ H xs us Q I r h;obtain⟨p,bs,rfl,hq,q⟩:=h;obtain⟨u,rfl,rx⟩:=r.one;cases (show u=Value.ref p from rx);obtain⟨aP,rv,pl,hz⟩:=I.list hq;have len:=rv.length;rw[cS]at len;have DA:=pl.isList
 have plt:p<s.heap.objs.size:=by
  obtain⟨o,ho,_⟩:=DA;exact Heap.lt_size ho
 refine call_all_walk (wpAny_pyIter_list DA ?_);refine⟨s.heap.objs.size,[s.heap.objs.size,p],[s.heap.objs.size],aP.toArray.size,_,_,λi=>bs.getD i false,rfl,Walks.list (A:=X.A.in1) (I.ok.hd hc) s.heap.objs.size p (qo plt) aP.toArray,⟨⟨_,Heap.get?_push_size _ rfl,rfl,rfl⟩,DA.at λo e=>Heap.get?_push_of_some _ e⟩,λi v s' Q' E' hP hQ=>?_,λh' tk hk=>?_⟩
 ·have hv:aP[i]?=some v:=by simpa using hP
  obtain⟨x,ex,er⟩:=AU rv hv;rw[j3]at ex;obtain⟨b,eb,rfl⟩:=Option.map_eq_some_iff.mp ex;cases (show v=Value.bool b from er);refine wpAny_truthy_bool ?_;have e:bs.getD i false=b:=by rw[List.getD_eq_getElem?_getD,eb];rfl
  have hQ':Q' (bs.getD i false) s':=hQ;rw[e]at hQ';exact hQ'
 ·have e:(List.range aP.toArray.size).all (λi=>bs.getD i false)=bs.all id:=by
   rw[jV,← len];exact all_range bs
  rw[e];exact⟨.bl (bs.all id),H,I.kept λb o e=>hk b o (λz=>by rw[List.mem_singleton.mp z]at e;exact absurd (Heap.lt_size e) (Nat.lt_irrefl _)) (Heap.get?_push_of_some _ e),rfl,q⟩
def Qt(r r' r2:R2)(ta tb tc td:TE):TE:=fun σ H Q=>ta σ H λx H1=>tb σ H1 λy H2=>r x y H2 λz H3=>∃ k,z=.bl k/\
 (if k=true then tc σ H3 λu H4=>r' y u H4 λz' H5=>∃ k',z'=.bl k'/\(if k'=true then td σ H5 λv H6=>r2 u v H6 Q else Q (.bl false) H5) else Q (.bl false) H3)
theorem NQ{op BA WS:CmpOp}{r r' r2:R2}{a b c d:Expr}{ta tb tc td:TE}(ho:yv X (compareOp op) r)(M4:yv X (compareOp BA) r')(ho2:yv X (compareOp WS) r2)(ha:PE X a ta)(hb:PE X b tb)(hc:PE X c tc)(hd:PE X d td)
  (hm:lastMarks [op,BA,WS] [b,c,d]=false:=by with_unfolding_all rfl):PE X (.Compare a [op,BA,WS] [b,c,d] pos) (Qt r r' r2 ta tb tc td):=by
 intro ao s σ H Q I h
 refine Compare_chain (dB (ha ao s σ H _ I h) λv s1 ⟨x,H1,I1,r1,q1⟩=>chain_link (dB (hb ao s1 σ H1 _ I1 q1) λu s2 ⟨y,H2,I2,r2',q2⟩ =>
  dB (ho ao s2 σ H2 x y v u _ I2 r1 r2' q2) λz s3 ⟨z',H3,I3,r3,k,e,q3⟩=>?_)) hm
 subst e;cases r3;refine wpAny_truthy_bool ?_
 cases k with
 | false=>exact ite_ff ⟨.bl false,H3,I3,rfl,q3⟩
 | true =>
  refine ite_tt (chain_link (dB (hc ao s3 σ H3 _ I3 q3) λv4 s4 ⟨x4,H4,I4,r4,q4⟩=>dB (M4 ao s4 σ H4 y x4 u v4 _ I4 r2' r4 q4) λz5 s5 G8=>?_));obtain⟨x5,H5,I5,r5,k5,e5,q5⟩:=G8;subst e5;cases r5;refine wpAny_truthy_bool ?_
  cases k5 with
  | false=>exact ite_ff ⟨.bl false,H5,I5,rfl,q5⟩
  | true=>exact ite_tt (chain_last (dB (hd ao s5 σ H5 _ I5 q5) λv6 s6 ⟨x6,H6,I6,r6,q6⟩=>ho2 ao s6 σ H6 x4 x6 v4 v6 Q I6 r4 r6 q6))
end
def Its(cs:List Nat):It:=⟨λi _=>i<cs.length,λi H x H'=>H'=H/\∃ c,cs[i]?=some c/\x=NO c,λi _=>i=cs.length⟩
theorem HZ{P:Program}{w:World}{K:PySem.W.Frag}{it:Addr}{cs:List Nat}{t:Tok}{ty:String}(W:∀ A':Around,A'.handled=none->Walks P w A' it [it] [it] (iC cs).cps.size (SignAt (iC cs)) (λi h=>h.IsStrIter it ty (iC cs) t i))
  (hs:∀ (A:Around) (i:Nat) (s:Shared) (Q:Value->Shared->Prop) (E:Value->Shared->Prop),s.heap.IsStrIter it ty (iC cs) t i->Q (.ref it) s->wpAny (model P w) A (pyIter (.ref it)) Q E s)
  (hn:["enumerate","zip","dict_itemiterator","dict_reverseitemiterator","odict_iterator","itertools.zip_longest","itertools.pairwise"].contains ty=false):M7 P w K tg (Its cs) [it] it (λi h=>h.IsStrIter it ty (iC cs) t i) where
 mem:=by simp
 obj:=λi h st b hb=>by
  have e:b=it:=by simpa using hb
  subst e;obtain⟨o,e,c,d⟩:=st;exact⟨o,e,λv z=>by rw[d]at z;cases z⟩
 keep:=λi h h' st k=>by
  obtain⟨o,e,r⟩:=st;exact⟨o,k it (by simp) o e,r⟩
 item:=by
  intro X hP hw hK hc i ao s σ H E I hf st hg;subst hP hw hK;obtain⟨f0,f1,f2,f3,f4,f5⟩:=hf it (by simp)
  have hi:i<(iC cs).cps.size:=by
   show i<cs.toArray.size;rw[jV];exact hg
  refine (W X.A (I.ok.hd hc)).item i s _ _ hi st λv h' tk hv By kk=>?_;obtain⟨c,u,ec,rfl⟩:=hv;have I1:Inv X ao σ H { s with heap:=h',toks:=tk }:=I.turned (λb o hb e=>kk b o (by simpa using hb) e) f0 f1 f3 f4 f5;obtain⟨oi,ei,ci,di⟩:=id By;exact⟨_,rfl,Ll (s:={ s with heap:=h',toks:=tk }) ei ci di hn ⟨NO c,H,I1,⟨u,rfl⟩,⟨rfl,c,by simpa [iC] using ec,rfl⟩,By,λb hb=>(hf b hb).1⟩⟩
 done:=by
  intro X hP hw hK hc i ao s σ H E I hf st hg;subst hP hw hK;obtain⟨f0,f1,f2,f3,f4,f5⟩:=hf it (by simp)
  have e:i=(iC cs).cps.size:=by
   show i=cs.toArray.size;rw[jV];exact hg
  rw[e]at st;exact (W X.A (I.ok.hd hc)).done s _ _ st λh' tk kk=>⟨rfl,I.turned (λb o hb e=>kk b o (by simpa using hb) e) f0 f1 f3 f4 f5⟩
 self:=hs
def ac6(tl:TE):TI:=fun σ H R=>tl σ H λx H1=>∃ cs,x=.str (iC cs)/\R (Its cs) H1
theorem Xa{X:Cx}{tl:TE}(hl:PE X l tl):PI X tg l (ac6 tl):=by
 intro ao s σ H R I h;refine dB (hl ao s σ H _ I h) λv s1 G9=>?_;obtain⟨x,H1,I1,r1,q1⟩:=G9;obtain⟨cs,e,q⟩:=q1;subst e;obtain⟨t,rfl⟩:=r1
 have fp:∀ b∈[s1.heap.objs.size],vt X ao H1 b:=λb hb=>by
  have e:b=s1.heap.objs.size:=by simpa using hb
  subst e;exact I1.OX (jz _) (I1.hok.fresh (jz _))
 cases ha:(iC cs).cps.all (·<128) with
 | true=>exact wpAny_pyIter_ascii ha ⟨s1.heap.objs.size,[s1.heap.objs.size],_,_,H1,rfl,I1.kept (t':=s1.toks) λb o e=>Heap.get?_push_of_some _ e,HZ (t:=t) (λA' hA=>Walks.strAscii hA _ _ t) (λ_ _ _ _ _ st h=>wpAny_pyIter_striter_ascii st h) (by decide),⟨_,Heap.get?_push_size _ rfl,rfl,rfl⟩,fp,q⟩
 | false=>exact wpAny_pyIter_wide ha ⟨s1.heap.objs.size,[s1.heap.objs.size],_,_,H1,rfl,I1.kept (t':=s1.toks) λb o e=>Heap.get?_push_of_some _ e,HZ (t:=t) (λA' hA=>Walks.strWide hA _ _ t) (λ_ _ _ _ _ st h=>wpAny_pyIter_striter_wide st h) (by decide),⟨_,Heap.get?_push_size _ rfl,rfl,rfl⟩,fp,q⟩
theorem NR{cs:List Nat}{g:TG}{tt:TT}{te:TE}{σ0:L2.St}{H:Hp}{Q:VK}(Pv:Nat->L2.St->Hp->Prop)(h0:Pv 0 σ0 H)
  (hs:∀ (i:Nat) c σ H,cs[i]?=some c->Pv i σ H->g (NO c) σ H fun σ2 H2=>tt σ2 H2 λb H3=>if b=true then te σ2 H3 λv H4=>∃ ys,H4 acc=some (.lst ys)/\ys.length<sizeLine/\Pv (i+1) σ2 (aQ H4 acc (.lst (ys++[v]))) else Pv (i+1) σ2 H3)
  (hd:∀ σ H,Pv cs.length σ H->Q (.ref acc) H):BG (Its cs) acc g tt te σ0 H Q:=by
 refine⟨λi m σ H=>m=cs.length-i/\i<=cs.length/\Pv i σ H,⟨cs.length,by simp,Nat.zero_le _,h0⟩,?_⟩;rintro i m σ H ⟨rfl,hi,p⟩;by_cases xu:i<cs.length
 ·refine .inr ⟨xu,Pv (i+1),fun σ' H' p'=>⟨cs.length-(i+1),by omega,rfl,xu,p'⟩,λx H' y=>?_⟩;obtain⟨e,c,y,ex⟩:=y;subst e ex;exact hs i c σ _ y p
 ·have e:i=cs.length:=by omega
  subst e;exact .inl ⟨rfl,hd σ H p⟩
end dF
namespace dF
open PySem.Spec PyProof.Rows L2 iP jE
section
variable {X:Cx}
theorem F1(a b:List Nat):iC a++iC b=iC (a++b):=by
 show (⟨a.toArray++b.toArray⟩:Str)=⟨(a++b).toArray⟩;simp
end
end dF
namespace yb
end yb
namespace yb
open PySem.Spec PyProof.Rows
end yb
namespace yb
open PySem.Spec PyProof.Rows
end yb
namespace yb
open PySem.Spec PyProof.Rows
end yb
namespace yb
open PySem.Spec PyProof.Rows
end yb
namespace yb
open PySem.Spec PyProof.Rows
end yb
namespace yb
open PySem.Spec PyProof.Rows
end yb
namespace yb
open PySem.Spec PyProof.Rows L2
end yb
namespace jX
open PySem.Spec PyProof.Rows L2 dF PySem.Builtin PySem.Builtin.Str
theorem wN(cs:List Nat):(iC cs).cps.toList=cs:=by simp[iC]
def jn(c:Nat):pP->List Nat
 | []=>[]
 | [x]=>x
 | x::y::r=>x++c::jn c (y::r)
theorem Qu(c:Nat):∀ ps:pP,Str.join ⟨#[c]⟩ (ps.map iC)=iC (jn c ps)
 | []=>rfl
 | [x]=>rfl
 | x::y::r=>by
  show iC x++⟨#[c]⟩++Str.join ⟨#[c]⟩ ((y::r).map iC)=_;rw[Qu c (y::r)];refine ext_toList ?_;rw[wN];show ((iC x).cps++#[c]++(iC (jn c (y::r))).cps).toList=_;rw[Array.toList_append,Array.toList_append,wN,wN];simp[jn]
end jX
namespace jX
open PySem.Spec PyProof.Rows L2 dF PySem.Builtin PySem.Builtin.Str
section
variable {X:Cx}
theorem E1:∀ {ys:List Str} {us:List Value},cG (ys.map V.str) us->StrsAre us ys
 | [],_,.nil=>.nil
 | _::_,_,.cons r t=>by
  obtain⟨t',rfl⟩:=r;exact .cons _ t' (E1 t)
theorem Ia:Y7 X "str.join" (λx xs H Q=>∃ (l:Addr) (c:Nat) (ps:pP),x=.str ⟨#[c]⟩/\xs=[.ref l]/\H l=some (.lst (ps.map λw=>V.str (iC w)))/\(ps.map List.length).sum+ps.length<=1000000/\Q (.str (iC (jn c ps))) H):=by
 intro ao s σ H x xs v us Q I rx rs h;obtain⟨l,c,ps,rfl,rfl,hl,hz,q⟩:=h;obtain⟨t,rfl⟩:=rx;obtain⟨u,rfl,ru⟩:=rs.one;cases (show u=Value.ref l from ru);obtain⟨aP,rv,pl,_⟩:=I.list (bR.of (K:=X.K) hl);have rv':cG ((ps.map iC).map V.str) aP:=by rw[List.map_map];exact rv
 refine join_list pl.isList (E1 rv') ?_ λt' k=>?_
 ·rw[List.map_map,cS];have e1:(⟨#[c]⟩:Str).length=1:=rfl;have e2:ps.map ((λx:Str=>x.length) ∘ iC)=ps.map List.length:=List.map_congr_left λp _=>uM p;rw[e1,e2];omega
 ·have e:Txt.join ⟨#[c]⟩ (ps.map iC)=iC (jn c ps):=by
   show glued _ _=_;rw[StrLaws.glued_eq_join,Qu]
  rw[e];exact⟨.str (iC (jn c ps)),H,I.tok _,⟨t',rfl⟩,q⟩
abbrev TJV:=L2.St->Hp->Str->(Str->Hp->Prop)->Prop
def Yc(X:Cx)(es:List Expr)(m:Nat)(t:TJV):Prop:=∀ (ao:List (Addr × Obj)) (s:Shared) (σ:L2.St) (H:Hp) (Bc:Str) (Q:Str->Hp->Prop),L2.Inv X ao σ H s->t σ H Bc Q->Bc.length+m<=1000000->
 wpAny (model X.prog X.w) X.A (joinParts Bc (evalEach es X.env)) (λu s'=>∃ x tk H',u=.str x tk/\L2.Inv X ao σ H' s'/\Q x H') X.xe s
theorem TR:Yc X [] 0 (λ_ H Bc Q=>Q Bc H):=λao s σ H Bc Q I h hl =>
 joinParts_nil ⟨Bc,_,H,rfl,I.tok _,h⟩ (kX (Nat.lt_of_le_of_lt hl (by decide)))
theorem TU{x:Str}{j:Nat}{es:List Expr}{m:Nat}{t:TJV}(h:Yc X es m t):Yc X (.Constant (.str x) j pos::es) (x.length+m) (fun σ H Bc Q=>t σ H (Bc++x) Q):=by
 intro ao s σ H Bc Q I q hl;refine joinParts_consE (joinParts_cons (Calls.Constant_str ?_));have z:=iP.BE (y:=x) hl (jz _);exact⟨z.1,h ao _ σ H _ Q (I.tok _) q z.2⟩
theorem L5{e:Expr}{te:TE}{es:List Expr}{m:Nat}{t:TJV}(he:PE X e te)(h:Yc X es m t):Yc X (.FormattedValue e (-1) none pos::es) (1921+m) (fun σ H Bc Q=>te σ H λv H1=>∃ i:Int,v=.int i/\i.natAbs.log2<1920/\t σ H1 (Bc++Str.ofString (toString i)) Q):=by
 intro ao s σ H Bc Q I q hl;refine joinParts_consE (joinParts_cons (FormattedValue_plain (dB (he ao s σ H _ I q) λv s1 DG=>?_)));obtain⟨x,H1,I1,r1,i,e1,hi,q1⟩:=DG;subst e1;obtain⟨tk,rfl⟩:=r1;refine formatField_int_small hi ?_;have z:=iP.BE (y:=Str.ofString (toString i)) hl (int_text_len_1921 hi);exact⟨z.1,h ao _ σ H1 _ Q (I1.tok _) q1 z.2⟩
theorem Qv{vH:List Expr}{m:Nat}{t:TJV}(h:Yc X (v1::v2::vH) m t)(hm:m<=1000000:=by decide +kernel):PE X (.JoinedStr (v1::v2::vH) pos) (fun σ H Q=>t σ H Str.empty λx H1=>Q (.str x) H1):=by
 intro ao s σ H Q I q;refine JoinedStr_many (dB (h ao s σ H Str.empty _ I q (by show 0+m<=_;omega)) λu s1 G7=>?_);obtain⟨x,tk,H1,e,I1,q1⟩:=G7;subst e;exact⟨.str x,H1,I1,⟨_,rfl⟩,q1⟩
end
end jX
namespace jX
open PySem.Spec PyProof.Rows L2 dF PySem.Builtin PySem.Builtin.Str
def DT(cs:List Nat)(lo hi:Option Int):List Nat:=(cs.drop (HT.jD cs.length 0 lo)).take (HT.jD cs.length cs.length hi-HT.jD cs.length 0 lo)
theorem Ib(lo hi:Option Int)(n:Nat):strSliceIndices lo hi 1 n=(List.range (HT.jD n n hi-HT.jD n 0 lo)).map (HT.jD n 0 lo+·):=by
 obtain⟨h1,h2,h3⟩:=yJ lo hi n;have e:strSliceIndices lo hi 1 n=sliceRange (sliceBounds lo hi none n).1 (sliceBounds lo hi none n).2.1 1:=rfl;rw[e,h1,h2,sliceRange_one]
theorem Xb{X:Cx}:SlR X (λx lo hi H Q=>∃ cs:List Nat,x=.str (iC cs)/\cs.length<=1000000/\Q (.str (iC (DT cs lo hi))) H):=by
 intro ao s σ H x v vl vu lo hi sl Q I rx hs pl pu h;obtain⟨cs,rfl,hz,q⟩:=h;obtain⟨t,rfl⟩:=rx;refine⟨"str",_,F.slot_str_getitem.lookup,typeIs_str _ _ _,?_⟩
 obtain⟨l,rfl,el⟩:∃ l:Option (Int × Tok),vl=partValue l/\l.map (·.1)=lo:=by
  cases pl with
  | none=>exact⟨none,rfl,rfl⟩
  | int i t=>exact⟨some (i,t),rfl,rfl⟩
 obtain⟨u,rfl,eu⟩:∃ u:Option (Int × Tok),vu=partValue u/\u.map (·.1)=hi:=by
  cases pu with
  | none=>exact⟨none,rfl,rfl⟩
  | int i t=>exact⟨some (i,t),rfl,rfl⟩
 refine wpAny_getItem_str_slice (l:=l) (u:=u) (st:=none) hs rfl ?_
 have ep:slicePicked (iC cs) l u none=(List.range (HT.jD cs.length cs.length hi-HT.jD cs.length 0 lo)).map (HT.jD cs.length 0 lo+·):=by
  unfold slicePicked;rw[el,eu,uM];exact Ib lo hi cs.length
 have ec:((slicePicked (iC cs) l u none).filterMap ((iC cs).cps[·]?))=DT cs lo hi:=by
  rw[ep];unfold DT;have:∀ i,(iC cs).cps[i]?=cs[i]?:=λi=>by rw[← Array.getElem?_toList,wN]
  simp only[this];have z:=pick_run cs.toArray (HT.jD cs.length 0 lo) (HT.jD cs.length cs.length hi-HT.jD cs.length 0 lo);simpa using z
 unfold sliceMade;split
 ·rename_i hc
  have e2:DT cs lo hi=cs:=by
   rw[ep]at hc;simp only[cS,List.length_range,Bool.and_eq_true,beq_iff_eq,uM]at hc;unfold DT;have:=hc.2
   have a1:HT.jD cs.length 0 lo=0:=by
    have:HT.jD cs.length cs.length hi<=cs.length:=by
     cases hi with
     | none=>exact jz _
     | some k =>
      simp only[HT.jD]
      split <;> omega
    have:HT.jD cs.length 0 lo<=cs.length:=by
     cases lo with
     | none=>exact Nat.zero_le _
     | some k =>
      simp only[HT.jD]
      split <;> omega
    omega
   rw[a1,List.drop_zero,xP (by omega)]
  rw[e2]at q;exact⟨.str (iC cs),H,I,⟨t,rfl⟩,q⟩
 ·refine⟨?_,?_⟩
  ·show (((slicePicked (iC cs) l u none).filterMap ((iC cs).cps[·]?)).toArray).size<=sizeLine;rw[ec,jV];unfold DT;rw[jK,vq];exact lS (show _<=1000000 by omega) (by decide)
  ·rw[ec];exact⟨.str (iC (DT cs lo hi)),H,I.tok _,⟨_,rfl⟩,q⟩
end jX
namespace jX
open PySem.Spec PyProof.Rows L2 dF PySem.Builtin PySem.Builtin.Str jE
def dg(n:Int):List Nat:=(Nat.toDigits 10 n.toNat).map Char.toNat
theorem BI{n:Int}(h:0<=n):Str.ofString (toString n)=iC (dg n):=by
 refine ext_toList ?_;rw[wN];obtain⟨m,rfl⟩:∃ m:Nat,n=(m:Int):=⟨n.toNat,by omega⟩;exact PySem.W.KIN.signs_num m
theorem Ku{n:Int}(h0:0<=n)(h1:n<10^60):(dg n).length<=60:=by
 have:=toString_length_le h0 (k:=60) (by decide) h1;rw[BI h0,uM]at this;exact this
end jX
namespace Qw
open PySem.Spec PyProof.Rows PySem.W L2 dF iP
end Qw
namespace Qw
open PySem.Spec PyProof.Rows PySem.W L2 dF iP
end Qw
namespace jX
open PySem.Spec PyProof.Rows L2 dF PySem.Builtin PySem.Builtin.Str jE
end jX
namespace Qw
open PySem.Spec PyProof.Rows PySem.W L2 dF iP
end Qw
namespace Ic
open PySem.Spec PyProof.Rows L2 dF iP jE
end Ic
namespace Ic
open PySem.Spec PyProof.Rows L2 dF iP jE PySem.W
section
variable {X:Cx}
theorem ZD{e:Expr}{te:TE}(he:PE X e te):PE X (.JoinedStr [.FormattedValue e (-1) none pos] l5) (fun σ H Q=>te σ H λv H1=>(∃ i:Int,v=.int i/\i.natAbs.log2<1920/\Q (.str (Str.ofString (toString i))) H1)\/∃ cs:List Nat,v=.str (iC cs)/\cs.length<=100000/\Q (.str (iC cs)) H1):=by
 intro ao s σ H Q I q;refine JoinedStr_one (FormattedValue_plain (dB (he ao s σ H _ I q) λv s1 DH=>?_));obtain⟨x,H1,I1,r1,h1⟩:=DH;rcases h1 with ⟨i,rfl,hi,q1⟩|⟨cs,rfl,hc,q1⟩
 ·obtain⟨tk,rfl⟩:=r1;exact formatField_int_small hi ⟨.str _,H1,I1.tok _,⟨_,rfl⟩,q1⟩
 ·obtain⟨tk,rfl⟩:=r1;exact formatField_str (λt' k=>⟨.str _,H1,I1.tok _,⟨_,rfl⟩,q1⟩) (by rw[uM];exact lS hc (by decide))
end
end Ic
namespace Ic
open PySem.Spec PyProof.Rows L2 dF iP jE jX PySem.Builtin PySem.Builtin.Str
end Ic
namespace Ic
open PySem.Spec PyProof.Rows L2 dF PySem.Builtin PySem.Builtin.Str jE
end Ic
namespace iP
open PySem.Spec PyProof.Rows PySem.W L2
section
variable {X:Cx} {ao:List (Addr × Obj)} {σ:L2.St} {H:Hp} {s:Shared} {a:Addr}
variable {x m:Str} {st:Stmt} {ps:List Str} {f C:Addr} {fd:FuncData} {j k:Nat} {sp:Sp} {e o:Expr} {es:List Expr} {ta:TE} {t:TA} {p qD pos:Pos} {pl:Sem Bool}
variable {te:TEx} {i:Nat} {z:Str} {l5:Pos} {c:Expr} {tc:TT} {tx ty:TSx} {a b:Stmt} {hs:List Hd}
theorem uN{y:Str}(d:jE.aF X.K X.mg x st ps f fd)(hm:X.mg y=some (.ref f))(G:aC X.prog X.w X.K X.mg X.base bZ k f fd ps sp)(hr:lg j X.A)
  (ha:PA X (e::es) t) (Te:k<=j:=by first|decide|omega) (hg:Gl X y:=by rfl) (Ho:(y == ("__debug__":Str))=false:=by decide) (he:starEach (e::es) X.env=(false,eval e X.env)::starEach es X.env:=by rfl)
  (DA:(backTo pos (starEach es X.env)).any (·.1)=false:=by rfl):PE X (.Call (.Name y p) (e::es) [] pos) (Hl sp [] E0 t) :=
 FE G (hr.mono Te) hg hm d.F.kp d.b .nil dh ha Ho he DA
end
end iP
namespace uO
open PySem.Spec PyProof.Rows PySem.W L2 dF iP
end uO
namespace uO
open PySem.Spec PyProof.Rows PySem.W L2 dF iP
open PySem.Builtin PySem.Builtin.ObjectAttr
end uO
namespace uO
open PySem.Spec PyProof.Rows PySem.W L2 dF iP
open PySem.Builtin PySem.Builtin.ObjectAttr
end uO
namespace uO
open PySem.Spec PyProof.Rows PySem.W L2 dF iP
end uO
namespace uO
open PySem.Spec PyProof.Rows PySem.W L2 dF iP
open PySem.Builtin PySem.Builtin.ObjectAttr
end uO
namespace uO
open PySem.Spec PyProof.Rows PySem.W L2 dF iP
end uO
namespace uO
open PySem.Spec PyProof.Rows PySem.W L2 dF iP
end uO
namespace uO
open PySem.Spec PyProof.Rows PySem.W L2 dF iP
end uO
namespace uO
open PySem.Spec PyProof.Rows PySem.W L2 dF iP
end uO
namespace uO
open PySem.Spec PyProof.Rows PySem.W L2 dF iP
end uO
namespace jE
open PySem.Spec PyProof.Rows L2 dF iP Cz
theorem jd{N P:List Str}{sc:Scope}(a:sc.kind=.function:=by rfl)(b:sc.isCoroutine=false:=by rfl)(c:sc.isGenerator=false:=by rfl)(d:N.Nodup:=by decide +kernel)(e:N.take P.length=P:=by rfl)(f:∀ x∈P,sc.names.lookup x=some .local\/sc.names.lookup x=some .cell:=by decide +kernel)(g:∀ y∈sc.names,y.2≠.free:=by decide +kernel):aJ N P sc:=⟨a,b,c,d,e,f,g⟩
section
variable {P:Program} {w:World} {K:PySem.W.Frag} {mg:Str->Option Value} {base:Heap}
theorem lW{x dD:Str}{st:Stmt}{f:Addr}{N ps:List Str}{k:Nat}{sp:Sp}(F:iK K x dD st f fd)(S:aJ N ps (aA st))
  (yG:∀ (dJ:Value) (A:Around) (outer:List Env) (s:Shared) (H:Hp) (vs:List V) (Q:VK) (E:XK),lg k (A.deeper (envOfC dD (aA st) s.heap.objs.size f dJ))->sp vs H Q E->
   ∃ t,JA (Hq bZ P w K mg base N dD (aA st) f dJ A outer s H E).M6 (ly st) t/\t { nx:=λ_ H'=>Q .jm H',rt:=Q } (L2.start N vs) H) (len:∀ vs H Q E,sp vs H Q E->vs.length=ps.length:=by intro _ _ _ _ h;cases h;subst_vars;rfl):aC P w K mg base bZ (k+1) f fd ps sp:=F.ok S len yG
theorem DU{x dD:Str}{st:Stmt}{f:Addr}{N ps:List Str}{k:Nat}{sp:Sp}(F:iK K x dD st f fd)(S:aJ N ps (aA st))
  (yG:∀ (dJ:Value) (A:Around) (outer:List Env) (s:Shared) (H:Hp) (vs:List V) (Q:VK) (E:XK),lg k (A.deeper (envOfC dD (aA st) s.heap.objs.size f dJ))->sp vs H Q E->
   ∃ t,JA (NC P w K mg base N dD (aA st) f dJ A outer s H E) (ly st) t/\t { nx:=λ_ H'=>Q .jm H',rt:=Q } (L2.start N vs) H) (len:∀ vs H Q E,sp vs H Q E->vs.length=ps.length:=by intro _ _ _ _ h;cases h;subst_vars;rfl):aC P w K mg base (lP P w) (k+1) f fd ps sp:=okX F S len yG
end
section
variable {X:Cx}
theorem bx{i:Nat}{x:Str}{e:Expr}{te:TE}{pos:Pos}(hN:X.N.Nodup)(he:PE X e te)(hi:X.N[i]?=some x:=by rfl)(hx:Loc X.env.scope x:=by first|exact Or.inl rfl|exact Or.inr rfl)(hs:swapsWith e (some (.Name x l5)) pos.line X.env=pure false:=by rfl)(hf:X.fn x=true\/X.env.scope.names.lookup x=some .local:=by first|exact .inl rfl|exact .inr rfl|assumption) :
  PS X (.Assign [.Name x l5] e pos) (OW te (xr i)):=Wf hN hi hx he hs hf
theorem cE{i:Nat}{x:Str}(hN:X.N.Nodup)(hi:X.N[i]?=some x:=by rfl)(hx:Loc X.env.scope x:=by first|exact Or.inl rfl|exact Or.inr rfl)(hf:X.fn x=true\/X.env.scope.names.lookup x=some .local:=by first|exact .inl rfl|exact .inr rfl|assumption):PG X (.Name x pos) (xr i):=SD hN hi hx hf
theorem aV{r:R2}{a b:Expr}{ta tb:TE}(hr:YZ X r)(ha:PE X a ta)(hb:PE X b tb)(hs:Ly b:=by exact λ_ _=>rfl):PE X (.Subscript a b pos) (YM r ta tb):=Y0 hr ha hb hs
theorem jQ{i:Expr}{td ty:TE}(hu:X.A.units+1<cLine)(ho:PE X o td)(hi:PE X i ty)(hs:WV i:=by exact λ_ _=>rfl):PE X (.Subscript o i pos) (U7 td ty):=Tv hu ho hi hs
theorem jy{e:Expr}{te:TE}{p:Pos}(hm:X.mg "len"=none)(he:PE X e te)(hg:Gl X "len":=by rfl)(DK:starEach [e] X.env=(false,eval e X.env)::starEach [] X.env:=by rfl):PE X (.Call (.Name "len" p) [e] [] pos) (tCB (Wy X.K) (O8 te Ce)):=cO FG hg hm PySem.boot_len (aa he ah (hs:=DK)) (by decide) (by decide) DK rfl
variable {CX:Ou} {j k:Nat} {f C fi:Addr} {fd:FuncData} {ps:List Str} {sp:Sp} {E:XK} {m cn q:Str} {st:Stmt} {pos qD:Pos} {e o:Expr} {es:List Expr} {ta:TE} {t:TA} {pl:Sem Bool}
theorem dP(he:PE X o ta)(c:ClsAt X.K X.mg cn C fi)(d:bU X.K C m q st ps f fd)(F:aC X.prog X.w X.K X.mg X.base CX k f fd ps sp)(hr:lg j X.A)(hx:oM CX X E)(ha:PA X (e::es) t)(Te:k<=j:=by first|decide|omega)
  (DK:starEach (e::es) X.env=(false,eval e X.env)::starEach es X.env:=by rfl) (DA:(backTo pos (starEach es X.env)).any (·.1)=false:=by rfl)
  (ht:eval (.Call (.Attribute o m qD) (e::es) [] pos) X.env=(do
   let ov ← eval o X.env
   standAt qD.atName
   let (f,first) ← holding [ov] (getMethod ov m pl)
   callWith pos f first (backTo pos (starEach (e::es) X.env)) (backToKw pos (keywordEach [] X.env))):=by rfl) :
  PE X (.Call (.Attribute o m qD) (e::es) [] pos) (Lp C m sp [] E ta t):=SM he c.cl d.mt F (hr.mono Te) d.b .nil hx ha DK DA ht
theorem iu(he:PE X o ta)(c:ClsAt X.K X.mg cn C fi)(d:bU X.K C m q st ps f fd)(F:aC X.prog X.w X.K X.mg X.base CX k f fd ps sp)(hr:lg j X.A)(hx:oM CX X E)(Te:k<=j:=by first|decide|omega)
  (ht:eval (.Call (.Attribute o m qD) [] [] pos) X.env=(do
   let ov ← eval o X.env
   standAt qD.atName
   let (f,first) ← holding [ov] (getMethod ov m pl)
   callWith pos f first (backTo pos (starEach [] X.env)) (backToKw pos (keywordEach [] X.env))):=by rfl) :
  PE X (.Call (.Attribute o m qD) [] [] pos) (Lp C m sp [] E ta Ce):=Pa he c.cl d.mt F (hr.mono Te) d.b .nil hx ht
end
theorem mj:0<=sizeLine:=by decide
theorem lX:1<=sizeLine:=by decide
theorem uP:2<=sizeLine:=by decide
theorem Kv:3<=sizeLine:=by decide
theorem F2:4<=sizeLine:=by decide
theorem ZE:5<=sizeLine:=by decide
theorem ZF:6<=sizeLine:=by decide
theorem yc{x:V}{r:List V}:wC (x::r) 0=some x:=gH (j:=0) rfl
theorem yT{x y:V}{r:List V}:wC (x::y::r) 1=some y:=gH (j:=1) rfl
theorem DV{x y z:V}{r:List V}:wC (x::y::z::r) 2=some z:=gH (j:=2) rfl
theorem DW{x y z u:V}{r:List V}:wC (x::y::z::u::r) 3=some u:=gH (j:=3) rfl
theorem TV{x y z u v:V}{r:List V}:wC (x::y::z::u::v::r) 4=some v:=gH (j:=4) rfl
theorem ZG{x y z u v w:V}{r:List V}:wC (x::y::z::u::v::w::r) 5=some w:=gH (j:=5) rfl
end jE
set_option Elab.async false
set_option linter.all false
set_option maxRecDepth 100000
namespace jE
open L2 dF iP Cz WZ
structure nL(mg:Str->Option Value):Prop where
 je:mg "len"=none
 mQ:mg "list"=none
 L7:mg "tuple"=none
 Vb:mg "int"=none
 Kw:mg "bool"=none
 Vc:mg "str"=none
 nM:mg "range"=none
 ZH:mg "zip"=none
 dY:mg "isinstance"=none
 Vd:mg "sum"=none
 Ma:mg "min"=none
 Ie:mg "max"=none
 ZI:mg "all"=none
 pH:∀ f,mg "size"=some (.ref f)->mg "size_spans"=some (.ref f)
 vO:∀ f,mg "shown"=some (.ref f)->mg "shown_weave"=some (.ref f)
 Bd:∀ f,mg "weight"=some (.ref f)->mg "weight_weave"=some (.ref f)
section
variable {P:Program} {w:World} {K:PySem.W.Frag} {mg:Str->Option Value} {base:Heap}
theorem Kx:aJ ["_law_script"] ["_law_script"] (aA zK):=jd
theorem Ky{f:Addr}(F:iK K "_law_src" "_law_src" zK f fd)(T:nL mg):aC P w K mg base bZ 1 f fd ["_law_script"] (UY K):=by
 refine lW F Kx λdJ A outer s H vs Q E hr h=>?_;obtain⟨a,ns,rfl,hS,k⟩:=h;refine⟨_,(au (aO (bQ (aa (gX ja rfl T.mQ xQ (aa (j7 qF (pv 0) qE (lu ay)) ah)) (aa ay (aa ay (aa ay ah))))))),?_⟩;refine⟨_,rfl,_,rfl,a,_,rfl,hS,λp hp=>?_⟩;refine⟨p,_,rfl,.inl (bR.of af),λc hc=>?_⟩;refine⟨F2,λl hl=>?_⟩;obtain⟨ms,em⟩:=P4 ns none (some 63);have JC:c≠l:=az (H:=aQ (aQ H p _) c _) af hl;have s1:aG H (aQ H p (.lst (pT (ns.map V.int) none (some 63)))):=ak hp _;have s2:=s1.trans (ak hc (.lst (pT (ns.map V.int) none (some 63))));refine k l c _ ⟨JC,ms,0,0,1,af,?_,by decide,by decide,by decide⟩ (s2.trans (ak hl _)) (s2.free hl) (s1.free hc);rw[aL JC,af,em]
theorem sU:aJ ["_law_src_here","_law_base","_law_cell","_law_digit"] ["_law_src_here","_law_base"] (aA mK):=jd
theorem pY{f:Addr}(F:iK K "_law_next" "_law_next" mK f fd)(T:nL mg):aC P w K mg base bZ 1 f fd DE xZ:=by
 refine lW F sU λdJ A outer s H vs Q E hr h=>?_;obtain⟨l,c,b,rfl,S,hb0,Mb,k⟩:=h;refine⟨_,(aj (Kd (t':=WK) (bT (bh jG (aV bP (pv 0) ay) ay (bz _)) (aj (bx (i:=2) sU.nd ay) (aj (Kd (t':=WL) (bT (bh tZ (aV bP (pv 0) ay) (jy T.je (aV bP (pv 0) ay)) (bz _)) (aj (bx (i:=2) sU.nd (aV bP (aV bP (pv 0) ay) (aV bP (pv 0) ay))) (au (rf (bC gj (aV bP (pv 0) ay) ay) (uC (pv 0) ay m9)))) bu) ?b2) (aj (rf (bC B4 (bC gj (bC gj (bC JS (aV bP (pv 0) ay) ay) (bC B4 (pv 2) ay)) ay) ay) (uC (pv 0) ay m9)) (au (bT (bh UM (pv 2) (bC O0 ay ay) (bz _)) (au (rf (pv 2) (uC (pv 0) ay m9))) bu))))) bu) ?b1) (aj (bT (bh Hh (aV bP (pv 0) ay) ay (bz _)) (aj (bx (i:=3) sU.nd (bC B4 (aV bP (pv 0) ay) (pv 1))) (aj (rf (bC HB (aV bP (pv 0) ay) (pv 1)) (uC (pv 0) ay m9)) (au (aO (pv 3))))) bu) (au (aO (bC B4 (bC HB (bC B4 (bC JS (aV bP (pv 0) ay) ay) ay) ay) (pv 1)))))),?_⟩
 case b2 =>
  rintro D σ H ⟨l,c,b,rfl,⟨JC,ns,i,d,r,hl,hc,hi,AV,hr1⟩,k⟩;refine⟨_,rfl,l,_,_,_,rfl,rfl,bR.of hl,WJ,_,rfl,l,_,_,_,rfl,rfl,bR.of hl,Zf,c,_,rfl,.inl (bR.of hc),_,_,rfl,rfl,_,rfl,?_⟩;refine dO (λc2=>?_) (λc2=>?_)
  ·have c3:i<(ns.length:Int):=by
    have z:=of_decide_eq_true c2;rwa [cS]at z
   obtain⟨v,hv⟩:=Tg hi c3;refine⟨_,rfl,l,_,_,_,rfl,rfl,bR.of hl,Zf,_,rfl,l,_,_,_,rfl,rfl,bR.of hl,WJ,c,_,_,_,rfl,rfl,bR.of hc,hv,?_⟩;refine⟨_,rfl,l,_,_,_,rfl,rfl,bR.of hl,WJ,_,_,rfl,rfl,_,rfl,l,_,_,1,rfl,rfl,hl,rfl,?_⟩;exact k v _ ⟨JC,ns,i+1,d,r,af,by rw[aL JC];exact hc,by omega,AV,hr1⟩ λa ha=>aL ha
  ·exact k 7 H ⟨JC,ns,i,d,r,hl,hc,hi,AV,hr1⟩ λa _=>rfl
 case b1 =>
  rintro D σ H ⟨l,c,b,rfl,S,k⟩;obtain⟨JC,ns,i,d,r,hl,hc,hi,AV,hr1⟩:=id S;refine⟨_,rfl,l,_,_,_,rfl,rfl,bR.of hl,Tf,_,_,rfl,rfl,_,rfl,?_⟩;refine dO (λc1=>?_) (λc1=>?_)
  ·refine⟨l,c,b,rfl,S,λcell H1 S1 k1=>?_⟩;obtain⟨_,ns1,i1,d1,r1,J8,Yd,hi1,Mc,NS⟩:=id S1;refine⟨_,rfl,l,_,_,_,rfl,rfl,bR.of J8,Zg,_,_,rfl,rfl,.inl ⟨by omega,by omega⟩,_,rfl,_,_,rfl,rfl,(by show (0:Int)<998244353;decide),_,_,rfl,rfl,_,_,rfl,rfl,_,_,rfl,rfl,(by show (0:Int)<2147483647;decide),_,rfl,l,_,_,3,rfl,rfl,J8,rfl,?_⟩;refine⟨_,rfl,_,_,rfl,rfl,⟨by decide,by decide,by decide⟩,_,_,rfl,rfl,_,rfl,?_⟩;have b0:0<=(r1*48271+cell % 998244353+1) % 2147483647:=Int.emod_nonneg _ (by decide);have b1:(r1*48271+cell % 998244353+1) % 2147483647<2147483647:=Int.emod_lt_of_pos _ (by decide);refine dO (λc2=>?_) (λc2=>?_)
   ·refine⟨_,rfl,_,rfl,l,_,_,2,rfl,rfl,af,rfl,?_⟩;refine k _ _ ⟨JC,ns1,i1,cell,_,af,?_,hi1,b0,b1⟩ λa ha=>?_
    ·rw[aL JC,aL JC];exact Yd
    ·rw[aL ha,aL ha];exact k1 a ha
   ·refine k _ _ ⟨JC,ns1,i1,d1,_,af,?_,hi1,b0,b1⟩ λa ha=>?_
    ·rw[aL JC];exact Yd
    ·rw[aL ha];exact k1 a ha
  ·exact k none H S λa _=>rfl
 refine⟨l,c,b,rfl,S,λcell H1 S1 k1=>?_⟩;obtain⟨JC,ns,i,d,r,hl,hc,hi,AV,hr1⟩:=S1;refine⟨_,rfl,l,_,_,_,rfl,rfl,bR.of hl,Tf,_,_,rfl,rfl,_,rfl,?_⟩;refine dO (λc1=>?_) (λc1=>?_)
 ·refine⟨_,rfl,l,_,_,_,rfl,rfl,bR.of hl,Tf,_,rfl,_,_,rfl,rfl,hb0,?_⟩;refine⟨_,rfl,l,_,_,_,rfl,rfl,bR.of hl,Tf,_,rfl,_,_,rfl,rfl,⟨hb0,Mb⟩,_,rfl,l,_,_,2,rfl,rfl,hl,rfl,?_⟩;refine⟨_,rfl,?_⟩;refine k (d % b) _ (Int.emod_nonneg _ (by omega)) (Int.emod_lt_of_pos _ hb0) ⟨JC,ns,i,d / b,r,af,?_,hi,AV,hr1⟩ λa ha=>?_
  ·rw[aL JC];exact hc
  ·rw[aL ha];exact k1 a ha
 ·refine⟨_,rfl,l,_,_,_,rfl,rfl,bR.of hl,Zg,_,_,rfl,rfl,.inl ⟨by omega,by omega⟩,_,_,rfl,rfl,(by show (0:Int)<2147483399;decide),_,_,rfl,rfl,⟨by decide,by decide⟩,_,rfl,_,_,rfl,rfl,hb0,?_⟩;exact k _ _ (Int.emod_nonneg _ (by omega)) (Int.emod_lt_of_pos _ hb0) ⟨JC,ns,i,d,r,hl,hc,hi,AV,hr1⟩ k1
theorem F3:aJ ["_law_found"] ["_law_found"] (aA mW):=jd
theorem vP:aJ ["_law_found","_law_due","_law_one","_law_other"] ["_law_found","_law_due"] (aA rj):=jd
theorem F4{f:Addr}(F:iK K "_law_whole" "_law_whole" mW f fd)(T:nL mg):aC P w K mg base bZ 1 f fd OP LK:=by
 refine lW F F3 λdJ A outer s H vs Q E hr h=>?_;obtain⟨i,rfl,k⟩:=h;refine⟨_,(au (aO (zC (cO fX rfl T.dY A9 (aa (pv 0) (aa (vf rfl T.Vb PyProof.Rows.boot_int) ah))) (BZ (V0 (cO fX rfl T.dY A9 (aa (pv 0) (aa (vf rfl T.Kw PyProof.Rows.boot_bool) ah)))))))),?_⟩;exact⟨_,rfl,_,_,_,_,rfl,pS.int i,Zl K,_,rfl,j9 ⟨_,rfl,_,_,_,_,rfl,pS.int i,Zk K,_,rfl,k⟩⟩
theorem DX{f fW:Addr}{n:Nat}(T:nL mg)(iD:aF K mg "_law_whole" mW OP fW JD)(Ig:aC P w K mg base bZ 1 fW JD OP LK)
  (eX:aF K mg "_law_same" rj GZ f fd) (mR:aC P w K mg base bZ (n+1) f fd GZ (zO n)):aC P w K mg base bZ (n+2) f fd GZ (zO (n+1)):=by
 refine eX.F.ok vP (λvs H Q E h=>?_) (λdJ A outer s H vs Q E hr h=>?_)
 ·obtain⟨x,y,rfl,_⟩:=h;rfl
 obtain⟨x,y,rfl,h,k⟩:=h;refine⟨_,(aj (bT (BX (JN (pv 1))) (au (aO (OU (JN (pv 0))))) bu) (aj (bT (lT (cO fX rfl T.dY A9 (aa (pv 1) (aa (vf rfl T.Kw PyProof.Rows.boot_bool) ah)))) (au (aO (zC (cO fX rfl T.dY A9 (aa (pv 0) (aa (vf rfl T.Kw PyProof.Rows.boot_bool) ah))) (BZ (uD gU (pv 0) (pv 1) (bz _)))))) bu) (aj (bT (lT (cO fX rfl T.dY A9 (aa (pv 1) (aa (vf rfl T.Vb PyProof.Rows.boot_int) ah)))) (au (aO (zC (aK iD Ig hr (aa (pv 0) ah)) (BZ (uD gU (pv 0) (pv 1) (bz _)))))) bu) (aj (bT (lT (cO fX rfl T.dY A9 (aa (pv 1) (aa (vf rfl T.Vc PyProof.Rows.boot_str) ah)))) (au (aO (zC (cO fX rfl T.dY A9 (aa (pv 0) (aa (vf rfl T.Vc PyProof.Rows.boot_str) ah))) (BZ (uD gU (pv 0) (pv 1) (bz _)))))) bu) (aj (bT (PW.pt (Ep (bh O2 (cO fX rfl T.dY A9 (aa (pv 1) (aa (vf rfl T.mQ xQ) ah))) (cO fX rfl T.dY A9 (aa (pv 0) (aa (vf rfl T.mQ xQ) ah))) (bz _)) (BY (bh O2 (cO fX rfl T.dY A9 (aa (pv 1) (aa (vf rfl T.L7 PyProof.Rows.boot_tuple) ah))) (cO fX rfl T.dY A9 (aa (pv 0) (aa (vf rfl T.L7 PyProof.Rows.boot_tuple) ah))) (bz _))))) (au (aO oG)) bu) (aj (bT (bh O2 (jy T.je (pv 0)) (jy T.je (pv 1)) (bz _)) (au (aO oG)) bu) (aj (gz PassesOwn.never rfl (WI rfl T.ZH (aa (pv 0) (aa (pv 1) ah))) (tM (n:=2) rfl (cB (cE (i:=2) vP.nd) (cB (cE (i:=3) vP.nd) kY))) (au (bT (j5 (lT (aK eX mR hr (aa (pv 2) (aa (pv 3) ah))))) (au (aO oG)) bu))) (au (aO oG))))))))),?_⟩;have kk:=k H (aG.refl H);rcases h with ⟨hf,rfl⟩|⟨kd,a,b,xs,ys,rfl,rfl,h1,h2,hl,hi⟩
 ·cases x with
  | jm =>
   refine⟨_,rfl,_,rfl,dO (λ_=>?_) (λc=>absurd (decide_eq_true rfl) c)⟩;exact⟨_,rfl,tt rfl kk⟩
  | bl v =>
   refine⟨_,rfl,_,rfl,dO (λc=>absurd (of_decide_eq_true c) (λz=>nomatch z)) (λ_=>?_)⟩;refine⟨_,rfl,_,_,_,_,rfl,pS.bl v,Zj K,_,rfl,j9 ?_⟩;exact⟨_,rfl,_,_,_,_,rfl,pS.bl v,Zj K,_,rfl,j9 ⟨_,rfl,_,rfl,rfl,tt rfl kk⟩⟩
  | int i =>
   refine⟨_,rfl,_,rfl,dO (λc=>absurd (of_decide_eq_true c) (λz=>nomatch z)) (λ_=>?_)⟩;refine⟨_,rfl,_,_,_,_,rfl,pS.int i,Zk K,_,rfl,iI ?_⟩;refine⟨_,rfl,_,_,_,_,rfl,pS.int i,Zl K,_,rfl,j9 ?_⟩;exact⟨_,rfl,i,rfl,_,rfl,j9 ⟨_,rfl,_,rfl,rfl,tt rfl kk⟩⟩
  | str v =>
   refine⟨_,rfl,_,rfl,dO (λc=>absurd (of_decide_eq_true c) (λz=>nomatch z)) (λ_=>?_)⟩;refine⟨_,rfl,_,_,_,_,rfl,pS.str v,acv K,_,rfl,iI ?_⟩;refine⟨_,rfl,_,_,_,_,rfl,pS.str v,acw K,_,rfl,iI ?_⟩;refine⟨_,rfl,_,_,_,_,rfl,pS.str v,Zm K,_,rfl,j9 ?_⟩;exact⟨_,rfl,_,_,_,_,rfl,pS.str v,Zm K,_,rfl,j9 ⟨_,rfl,_,rfl,rfl,tt rfl kk⟩⟩
  | _=>cases hf
 ·refine⟨_,rfl,_,rfl,dO (λc=>absurd (of_decide_eq_true c) (λz=>nomatch z)) (λ_=>?_)⟩;refine⟨_,rfl,_,_,_,_,rfl,h2.ty,acG K kd,_,rfl,iI ?_⟩;refine⟨_,rfl,_,_,_,_,rfl,h2.ty,acH K kd,_,rfl,iI ?_⟩;refine⟨_,rfl,_,_,_,_,rfl,h2.ty,acI K kd,_,rfl,iI ?_⟩;refine⟨_,rfl,_,_,_,_,rfl,h2.ty,Zo K kd,_,rfl,_,_,_,_,rfl,h1.ty,Zo K kd,rfl,_,rfl,Px rfl ?_⟩;refine⟨_,rfl,_,_,_,_,rfl,h2.ty,Zp K kd,_,rfl,_,_,_,_,rfl,h1.ty,Zp K kd,rfl,_,rfl,Px rfl ?_⟩;refine⟨_,rfl,a,_,rfl,h1.or,_,rfl,b,_,rfl,h2.or,rfl,_,rfl,Px (by rw[hl]) ?_⟩;refine⟨_,rfl,_,rfl,kd,a,b,xs,ys,rfl,h1.sq,h2.sq,Tc (λi σ H2=>∃ u v,σ=[some (.ref a),some (.ref b),u,v]/\aG H H2) hl ⟨none,none,rfl,aG.refl H⟩ (by rintro i σ H2 _ ⟨_,_,_,s⟩;exact⟨(h1.same s).sq,(h2.same s).sq⟩) ?_ ?_⟩
  ·rintro i u v p σ H2 eu ev hp ⟨_,_,rfl,s⟩;refine⟨p,_,rfl,ef.of af,rfl,u,[v],rfl,v,[],rfl,rfl,?_⟩;have s2:=s.trans (ak hp (.tup [u,v]));refine⟨_,rfl,_,rfl,u,v,rfl,Eqv.same s2 (hi i u v eu ev),λH4 s4=>⟨_,rfl,iI ?_⟩⟩;exact⟨_,_,rfl,s2.trans s4⟩
  ·rintro σ H2 ⟨_,_,rfl,s⟩;exact k H2 s
theorem vQ{f fW:Addr}(T:nL mg)(iD:aF K mg "_law_whole" mW OP fW JD)(eX:aF K mg "_law_same" rj GZ f fd):∀ n:Nat,aC P w K mg base bZ (n+1) f fd GZ (zO n)
 | 0=>by
  have no:∀ vs H Q E,¬ zO 0 vs H Q E:=λvs H Q E h=>by
   obtain⟨x,y,_,h,_⟩:=h;exact h
  exact⟨λvs H Q E h=>absurd h (no vs H Q E),λA outer s H args us vs Q E _ _ _ _ h=>absurd h (no vs H Q E)⟩
 | n+1=>DX T iD (F4 iD.F T) eX (vQ T iD eX n)
theorem BJ:aJ ["row","told","start","stop"] ["row"] (aA mL):=jd
theorem CH{f:Addr}(F:iK K "plain" "plain" mL f fd):aC P w K mg base bZ 1 f fd iH BD:=by
 refine lW F BJ λdJ A outer s H vs Q E hr h=>?_;obtain⟨r,row,rfl,⟨as,hr1,hp⟩,eN,k⟩:=h;refine⟨_,(aj (bx (i:=1) BJ.nd (bQ ah)) (aj (gz PassesOwn.never rfl (cX (pv 0)) (tM (n:=2) rfl (cB (cE (i:=2) BJ.nd) (cB (cE (i:=3) BJ.nd) kY))) (aj (bT (bh gU (pv 2) (pv 3) (bz _)) (au Hg) bu) (au (bT (PW.pt (vI (t6 (pv 1) (λ_=>rfl)) (uB (bh gU (aV br (aV bP (pv 1) (jF gS ay)) ay) (pv 2) (bz _))))) (au (rf (dH (aa (aV br (aV bP (pv 1) (jF gS ay)) ay) (aa (pv 3) ah))) (uC (pv 1) (jF gS ay) m9))) (au (bf (gV vE qj qm cy (pv 1) (aa (dH (aa (pv 2) (aa (pv 3) ah))) ah)))))))) (au (aO (pv 1))))),?_⟩;refine⟨mj,λq hq=>?_⟩;have s0:aG H (aQ H q (.lst [])):=ak hq _;refine⟨_,rfl,r,rfl,⟨_,bR.of (s0 _ _ hr1)⟩,eS (K:=K) (a:=r) (xs:=as.map V.ref) (λi σ H2=>∃ (bs:List Addr) (u v:Option V),σ=[some (.ref r),some (.ref q),u,v]/\H2 q=some (.lst (bs.map V.ref))/\bS H2 bs ((row.take i).foldl gB [])/\aG H H2) ⟨[],none,none,rfl,af,.nil,s0⟩ (by rintro i σ H2 _ ⟨_,_,_,_,_,_,s⟩;exact bR.of (s _ _ hr1)) ?_ ?_⟩
 ·rintro i x σ H2 hi ⟨bs,u,v,rfl,gy,hb,s⟩;rw[j3]at hi;obtain⟨a,ea,rfl⟩:=Option.map_eq_some_iff.mp hi;obtain⟨⟨st,en⟩,ep,ha⟩:=hp.get ea;have step:=NB (f:=gB) ep
  have bl:bs.length<sizeLine:=by
   have z:=hb.len;have z2:=HG (row.take i) [];rw[jK]at z2;exact aX (by simp only[uA]at z2;omega)
  refine⟨a,_,rfl,ef.of (s _ _ ha),rfl,_,_,rfl,_,_,rfl,rfl,?_⟩;refine⟨_,rfl,_,rfl,rfl,_,rfl,dO (λc=>?_) (λc=>?_)⟩
  ·have e:st=en:=V.int.inj (of_decide_eq_true c);refine⟨bs,_,_,rfl,gy,?_,s⟩;rw[step,gB,if_pos e];exact hb
  ·have e:¬ st=en:=λz=>c (decide_eq_true (congrArg V.int z));rw[gB,if_neg e]at step;rcases uz ((row.take i).foldl gB []) with hn|⟨rw0,q0,hn⟩
   ·rw[hn]at hb step;have hbs:bs=[]:=List.eq_nil_of_length_eq_zero hb.len;subst hbs;refine⟨_,rfl,false,.inl ⟨_,bR.of gy,rfl⟩,iI (iI ?_)⟩;refine⟨_,rfl,.inl ⟨rfl,_,bR.of gy⟩,_,rfl,_,rfl,uP,λt ht=>⟨q,_,_,rfl,rfl,ak ht _ _ _ gy,(by show 0<sizeLine;decide),?_⟩⟩;obtain⟨g1,g2,g3⟩:=HF (st:=st) (en:=en) hq s gy hb ht;refine⟨[]++[t],_,_,rfl,g1,?_,g3⟩;rw[step,rG];exact g2
   ·rw[sG]at hn;rw[hn]at hb step;obtain⟨cs,a0,rfl,hc,Ih⟩:=hb.split;have JE:H2 q=some (.lst (cs.map V.ref++[.ref a0])):=by rw[gy,kT];rfl
    refine⟨_,rfl,true,.inl ⟨_,bR.of JE,by simp⟩,j9 ?_⟩;refine⟨_,rfl,_,rfl,q,_,_,_,rfl,rfl,bR.of JE,iO _ _,a0,_,_,_,rfl,rfl,ef.of Ih,Zi,_,rfl,rfl,_,rfl,dO (λc2=>?_) (λc2=>?_)⟩
    ·have e2:q0.2=st:=V.int.inj (of_decide_eq_true c2);refine⟨_,rfl,_,rfl,q,_,_,_,rfl,rfl,bR.of JE,iO _ _,a0,_,_,_,rfl,rfl,ef.of Ih,Zh,_,rfl,uP,λt ht=>?_⟩;refine⟨_,rfl,_,rfl,q,_,_,cs.length,rfl,rfl,ak ht _ _ _ JE,P9 cs a0,?_⟩;obtain⟨g1,g2,g3⟩:=turned (st:=q0.1) (en:=en) hq s JE hc ht;refine⟨cs++[t],_,_,rfl,g1,?_,g3⟩;rw[step,rH _ e2];exact g2
    ·have e2:¬ q0.2=st:=λz=>c2 (decide_eq_true (congrArg V.int z));refine⟨_,rfl,.inl ⟨rfl,_,bR.of gy⟩,_,rfl,_,rfl,uP,λt ht=>⟨q,_,_,rfl,rfl,ak ht _ _ _ gy,(by rw[cS];exact bl),?_⟩⟩;obtain⟨g1,g2,g3⟩:=HF (st:=st) (en:=en) hq s gy hb ht;refine⟨cs++[a0]++[t],_,_,rfl,g1,?_,g3⟩;rw[step,rJ _ e2];exact g2
 ·rintro σ H2 ⟨bs,u,v,rfl,gy,hb,s⟩;refine⟨_,rfl,k q H2 ⟨bs,gy,?_⟩ s hq⟩;rw[cS,hp.len,lR]at hb;exact hb
theorem Xc:aJ ["row"] ["row"] (aA sL):=jd
theorem F5{f:Addr}(F:iK K "size" "size" sL f fd)(T:nL mg):aC P w K mg base bZ 1 f fd iH FP:=by
 refine lW F Xc λdJ A outer s H vs Q E hr h=>?_;obtain⟨r,row,rfl,⟨as,hr1,hp⟩,eN,k⟩:=h;refine⟨_,(au (aO (cO (HC rfl) rfl T.Vd PyProof.Rows.boot_sum (aa (mh (N:=["start","stop"]) (ud (sc:=aA sL) (NX:=["row"]) (jx:=[none,none]) rfl rfl rfl (by decide +kernel) (by decide +kernel) rfl (by decide +kernel) rfl (by decide +kernel)) rfl (cX (pv 0)) (λ_ _ _ _ _ _=>(BH (n:=2) rfl (cB (cE (i:=0) (show List.Nodup (["start","stop"]:List Str) by decide +kernel)) (cB (cE (i:=1) (show List.Nodup (["start","stop"]:List Str) by decide +kernel)) kY)))) (λ_ _ _ _ _ _=>mF) (λ_ _ _ _ _ _=>(bC dm (pv 1) (pv 0)))) ah)))),?_⟩;refine⟨_,rfl,r,rfl,⟨_,bR.of hr1⟩,λacc fH=>kB (K:=K) (a:=r) (xs:=as.map V.ref) (λi σ H2=>∃ u v:Option V,σ=[u,v]/\H2 acc=some (.lst (((row.take i).map λp=>p.2-p.1).map V.int))/\aG H H2) ⟨none,none,rfl,af,ak fH _⟩ (by rintro i σ H2 _ ⟨_,_,_,_,s⟩;exact bR.of (s _ _ hr1)) ?_ ?_⟩
 ·rintro i x σ H2 hi ⟨u,v,rfl,ha,s⟩;rw[j3]at hi;obtain⟨a,ea,rfl⟩:=Option.map_eq_some_iff.mp hi;obtain⟨⟨st,en⟩,ep,hpa⟩:=hp.get ea;refine⟨a,_,rfl,ef.of (s _ _ hpa),rfl,_,_,rfl,_,_,rfl,rfl,yes (j9 ?_)⟩;refine⟨_,rfl,_,rfl,_,_,rfl,rfl,_,ha,?_,_,_,rfl,?_,bV fH s (aN acc _ _)⟩
  ·rw[cS,cS,jK];exact aX (by omega)
  ·rw[af,take_snoc ep,kT,kT];rfl
 ·rintro σ H2 ⟨u,v,rfl,ha,s⟩;rw[cS,hp.len,lR]at ha;exact⟨acc,_,rfl,bR.of ha,k H2 s⟩
theorem CJ:aJ ["row","start","stop"] ["row","start","stop"] (aA iB):=jd
theorem jR{f fS:Addr}(F:iK K "check_places" "check_places" iB f fd)(T:nL mg)(Z:Ct K mg C)(iE:aF K mg "size" sL iH fS RX):aC P w K mg base (lP P w) 2 f fd pQ (wM C):=by
 have E2:aC P w K mg base bZ 1 fS RX iH FP:=F5 iE.F T;refine DU F CJ λdJ A outer s H vs Q E hr h=>?_;obtain⟨r,row,a,b,rfl,R,hl,fa,fb,ft,k1,k2⟩:=h;refine⟨_,(au (bT (j5 (ND jG jG jG ay (pv 1) (pv 2) (iP.uN iE (T.pH _ iE.m) E2 hr (aa (pv 0) ah)))) (au (Kd (t':=λ_ σ H'=>σ=[some (.ref r),some (.int a),some (.int b)]/\aG H H'/\¬ DQ a b (kU row)) (uc PySem.F.excBase_ValueError Z.x Z.m rfl zQ (aa (wK (oR (rM (pv 1) (oR (rM (pv 2) (oR (rM (iP.uN iE (T.pH _ iE.m) E2 hr (aa (pv 0) ah)) zR))))))) ah)) ?b1)) bu)),?_⟩
 case b1 =>
  rintro D σ H' ⟨rfl,s1,hn⟩;refine⟨_,rfl,a,rfl,fa.log,_,rfl,b,rfl,fb.log,_,rfl,r,row,rfl,R.same s1,hl,λH2 s2=>⟨_,rfl,ft.log,λx=>⟨lX,k2 hn H2 (s1.trans s2)⟩⟩⟩
 refine⟨_,rfl,_,_,rfl,rfl,_,rfl,dO (λc1=>?_) (λc1=>j9 ⟨rfl,aG.refl H,λz=>c1 (decide_eq_true z.1)⟩)⟩;refine⟨_,rfl,_,_,rfl,rfl,_,rfl,dO (λc2=>?_) (λc2=>j9 ⟨rfl,aG.refl H,λz=>c2 (decide_eq_true z.2.1)⟩)⟩;refine⟨_,rfl,r,row,rfl,R,hl,λH1 s1=>⟨_,_,rfl,rfl,_,rfl,dO (λc3=>?_) (λc3=>?_)⟩⟩
 ·refine⟨rfl,s1,λz=>?_⟩;rw[decide_eq_true z.2.2]at c3;cases c3
 ·refine k1 ⟨of_decide_eq_true c1,of_decide_eq_true c2,?_⟩ H1 s1;by_cases z:b<=kU row
  ·exact z
  ·rw[decide_eq_false z]at c3;exact absurd rfl c3
theorem pZ:aJ ["row","start","stop","told","ahead","first","last","low","high"] ["row","start","stop"] (aA o7):=jd
theorem Aa{f:Addr}(F:iK K "pieces" "pieces" o7 f fd)(T:nL mg):aC P w K mg base bZ 1 f fd pQ yO:=by
 refine lW F pZ λdJ A outer s H vs Q E hr h=>?_;obtain⟨r,row,a,b,rfl,⟨as,hr1,hp⟩,eN,k⟩:=h;refine⟨_,(aj (bx (i:=3) pZ.nd (bQ ah)) (aj (bx (i:=4) pZ.nd ay) (aj (gz PassesOwn.never rfl (cX (pv 0)) (tM (n:=2) rfl (cB (cE (i:=5) pZ.nd) (cB (cE (i:=6) pZ.nd) kY))) (aj (bx (i:=7) pZ.nd (cO (wA rfl) rfl T.Ie PyProof.Rows.boot_max (aa (bC dm (pv 1) (pv 4)) (aa ay ah)))) (aj (bx (i:=8) pZ.nd (cO (wB rfl) rfl T.Ma PyProof.Rows.boot_min (aa (bC dm (pv 2) (pv 4)) (aa (bC dm (pv 6) (pv 5)) ah)))) (aj (bT (bh tZ (pv 7) (pv 8) (bz _)) (au (bf (gV vE qj qm cy (pv 3) (aa (dH (aa (bC gj (pv 5) (pv 7)) (aa (bC gj (pv 5) (pv 8)) ah))) ah)))) bu) (au (zE (i:=4) pZ.nd rfl (Or.inl rfl) (bC dm (pv 6) (pv 5)) Wg)))))) (au (aO (pv 3)))))),?_⟩;refine⟨mj,λq hq=>?_⟩;have s0:aG H (aQ H q (.lst [])):=ak hq _;refine⟨_,rfl,r,rfl,⟨_,bR.of (s0 _ _ hr1)⟩,eS (K:=K) (a:=r) (xs:=as.map V.ref) (λi σ H2=>∃ (bs:List Addr) (t:Int) (u v x y:Option V),σ=[some (.ref r),some (.int a),some (.int b),some (.ref q),some (.int t),u,v,x,y]/\t=kU (row.take i)/\H2 q=some (.lst (bs.map V.ref))/\bS H2 bs (qg a b 0 (row.take i))/\aG H H2) ⟨[],0,none,none,none,none,rfl,rfl,af,.nil,s0⟩ (by rintro i σ H2 _ ⟨_,_,_,_,_,_,_,_,_,_,s⟩;exact bR.of (s _ _ hr1)) ?_ ?_⟩
 ·rintro i x σ H2 hi ⟨bs,t,u,v,x1,y1,rfl,et,gy,hb,s⟩;rw[j3]at hi;obtain⟨ad,ea,rfl⟩:=Option.map_eq_some_iff.mp hi;obtain⟨⟨st,en⟩,ep,ha⟩:=hp.get ea;have step:=HJ a b (st,en) (row.take i) 0;rw[← take_snoc ep,Int.zero_add,← et]at step;have et2:t+(en-st)=kU (row.take (i+1)):=by rw[take_snoc ep,P0,et]
  have bl:bs.length<sizeLine:=by
   have z:=hb.len;have z2:=oS a b (row.take i) 0;rw[jK]at z2;exact aX (by omega)
  have e1:(if (0:Int) > a-t then (0:Int) else a-t)=max (a-t) 0:=by split <;> omega
  have e2:(if en-st<b-t then en-st else b-t)=min (b-t) (en-st):=by split <;> omega
  refine⟨ad,_,rfl,ef.of (s _ _ ha),rfl,_,_,rfl,_,_,rfl,rfl,?_⟩;refine⟨_,rfl,_,rfl,_,_,rfl,rfl,_,_,rfl,?_⟩;refine⟨_,rfl,_,rfl,_,_,rfl,rfl,_,rfl,_,rfl,_,_,rfl,rfl,_,_,rfl,?_⟩;rw[e1,e2];refine⟨_,rfl,_,rfl,_,_,rfl,rfl,_,rfl,dO (λc=>?_) (λc=>?_)⟩
  ·have c':max (a-t) 0<min (b-t) (en-st):=of_decide_eq_true c;unfold Qd at step;rw[if_pos c']at step;refine⟨_,rfl,.inl ⟨rfl,_,bR.of gy⟩,_,rfl,_,rfl,_,_,rfl,rfl,_,rfl,_,rfl,_,_,rfl,rfl,uP,λtu htu=>⟨q,_,_,rfl,rfl,ak htu _ _ _ gy,(by rw[cS];exact bl),?_⟩⟩;obtain⟨g1,g2,g3⟩:=HF (st:=st+max (a-t) 0) (en:=st+min (b-t) (en-st)) hq s gy hb htu;refine⟨_,rfl,_,rfl,_,rfl,_,_,rfl,rfl,_,_,rfl,rfl,?_⟩;refine⟨bs++[tu],_,_,_,_,_,rfl,et2,g1,?_,g3⟩;rw[step];exact g2
  ·have c':¬ max (a-t) 0<min (b-t) (en-st):=λz=>c (decide_eq_true z);unfold Qd at step;rw[if_neg c',kW]at step;refine⟨_,rfl,_,rfl,_,rfl,_,_,rfl,rfl,_,_,rfl,rfl,?_⟩;refine⟨bs,_,_,_,_,_,rfl,et2,gy,?_,s⟩;rw[step];exact hb
 ·rintro σ H2 ⟨bs,t,u,v,x1,y1,rfl,et,gy,hb,s⟩;rw[cS,hp.len,lR]at hb;exact⟨_,rfl,k q H2 ⟨bs,gy,hb⟩ s hq⟩
theorem Xd:aJ ["row","start","stop"] ["row","start","stop"] (aA Hu):=jd
theorem TX{f fS:Addr}(F:iK K "part" "part" Hu f fd)(T:nL mg)(Z:Ct K mg C)(iE:aF K mg "size" sL iH fS RX)(cu:aF K mg "check_places" iB pQ fC fdC)
  (eK:aF K mg "plain" mL iH fP NT) (gZ:aF K mg "pieces" o7 pQ fQ fdQ):aC P w K mg base (lP P w) 3 f fd pQ (Qf C):=by
 have gJ:aC P w K mg base (lP P w) 2 _ _ pQ (wM C):=jR cu.F T Z iE;have CK:aC P w K mg base bZ 1 _ _ iH BD:=CH eK.F;have sV:aC P w K mg base bZ 1 _ _ pQ yO:=Aa gZ.F T;refine DU F Xd λdJ A outer s H vs Q E hr h=>?_;obtain⟨r,row,a,b,rfl,R,hl,fa,fb,ft,k1,k2⟩:=h;refine⟨_,(aj (bf (nH cu gJ hr jI (aa (pv 0) (aa (pv 1) (aa (pv 2) ah))))) (au (aO (aK eK CK hr (aa (aK gZ sV hr (aa (pv 0) (aa (pv 1) (aa (pv 2) ah)))) ah))))),?_⟩;refine⟨_,rfl,_,rfl,_,rfl,r,row,a,b,rfl,R,hl,fa,fb,ft,λBK H1 s1=>?_,k2⟩;refine⟨_,rfl,_,rfl,_,rfl,r,row,a,b,rfl,R.same s1,hl,λq H2 R2 s2 hq=>?_⟩;refine⟨q,_,rfl,R2,lS (oS a b row 0) hl,λq3 H3 R3 s3 JE=>?_⟩;exact k1 BK q3 H3 R3 (s1.trans (s2.trans s3)) (aY (s1.trans s2) JE)
def Bl(CB:Addr)(H:Hp)(x d t:Addr):Prop:=H x=some (.ins CB d [("stains",.ref t)])
inductive Me(CB:Addr)(vs:List V)(H:Hp)(Q:VK)(E:XK):Prop
 | mk (x d:Addr) (_:vs=[.ref x]) (_:H x=some (.ins CB d [])) (_: ∀ (t:Addr) (H':Hp),Bl CB H' x d t->cL H' t []->cY x H H'->H t=none->Q .jm H')
theorem Ab:aJ ["self"] ["self"] (aA mC):=jd
theorem yU{f:Addr}(F:iK K "__init__" "Blots.__init__" mC f fd)(cl:Es K C)(ns:cH K C "stains"):aC P w K mg base bZ 1 f fd lZ (Me C):=by
 refine lW F Ab λdJ A outer s H vs Q E hr h=>?_;obtain⟨x,d,rfl,hx,k⟩:=h;refine⟨_,(au (mJ (pv 0) (bQ ah) rfl)),?_⟩;refine⟨mj,λt ht=>?_⟩;have nt:t≠x:=(az hx ht).symm;refine⟨_,rfl,x,C,d,_,rfl,ak ht _ _ _ hx,cl,ns,by decide,?_⟩;exact k t _ af ⟨[],by rw[aL nt,af];rfl,.nil⟩ (λa o e n=>by rw[aL n];exact ak ht _ a o e) ht
theorem NU(aP:List aT):(ig aP).length<=aP.length:=List.length_filterMap_le _ aP
inductive Kz(vs:List V)(H:Hp)(Q:VK)(E:XK):Prop
 | mk (r:Addr) (aP:List aT) (_:vs=[.ref r]) (_:bL H (.ref r) aP) (_:aP.length<=100000) (_ :
 ∀ (o:Addr) (H':Hp),H' o=some (.lst ((ig aP).map V.int))->aG H H'->H o=none->Q (.ref o) H')
theorem NV:aJ ["items"] ["items"] (aA eT):=jd
theorem CL{f:Addr}(F:iK K "windows" "windows" eT f fd)(T:nL mg):aC P w K mg base bZ 1 f fd oA Kz:=by
 refine lW F NV λdJ A outer s H vs Q E hr h=>?_;obtain⟨r,aP,rfl,⟨a,vs,e,hr1,hp⟩,eN,k⟩:=h;cases e;refine⟨_,(au (aO (mh (N:=["item"]) (ud (sc:=aA eT) (NX:=["items"]) (jx:=[none]) rfl rfl rfl (by decide +kernel) (by decide +kernel) rfl (by decide +kernel) rfl (by decide +kernel)) rfl (cX (pv 0)) (λ_ _ _ _ _ _=>(cE (i:=0) (show List.Nodup (["item"]:List Str) by decide +kernel))) (λ_ _ _ _ _ _=>LO (bh gU (aV LV (pv 0) ay) bG (bz _))) (λ_ _ _ _ _ _=>(aV LV (pv 0) ay))))),?_⟩;refine⟨_,rfl,r,rfl,⟨_,bR.of hr1⟩,λacc fH=>kB (K:=K) (a:=r) (xs:=vs) (λi σ H2=>∃ u:Option V,σ=[u]/\H2 acc=some (.lst ((ig (aP.take i)).map V.int))/\aG H H2) ⟨none,rfl,af,ak fH _⟩ (by rintro i σ H2 _ ⟨_,_,_,s⟩;exact bR.of (s _ _ hr1)) ?_ ?_⟩
 ·rintro i x σ H2 hi ⟨u,rfl,ha,s⟩;obtain⟨it,ei,b,rfl,hb⟩:=hp.get hi;have step:ig (aP.take (i+1))=ig (aP.take i)++ig [it]:=by rw[take_snoc ei,jq]
  have bl:(ig (aP.take i)).length<=100000:=by
   have z:=NU (aP.take i);rw[jK]at z;omega
  cases it with
  | win n =>
   refine⟨_,rfl,b,_,_,_,rfl,rfl,ef.of (s _ _ hb),rfl,rfl,_,rfl,dO (λ_=>?_) (λz=>absurd (by decide) z)⟩;refine⟨_,rfl,b,_,_,_,rfl,rfl,ef.of (s _ _ hb),rfl,_,ha,(by rw[cS];exact aX (by omega)),_,rfl,?_,bV fH s (aN acc _ _)⟩;rw[af,step,kT];rfl
  | aS p q =>
   refine⟨_,rfl,b,_,_,_,rfl,rfl,ef.of (s _ _ hb),rfl,rfl,_,rfl,dO (λz=>absurd z (by decide)) (λ_=>?_)⟩;refine⟨_,rfl,?_,s⟩;rw[ha,step];show _=some (HO.lst ((ig (aP.take i)++[]).map V.int));rw[kW]
 ·rintro σ H2 ⟨u,rfl,ha,s⟩;rw[hp.len,lR]at ha;exact k acc H2 ha s fH
structure NW(rows:dM)(ks:List Int):Prop where
 GX:∀ x∈ks,0<=x/\x<rows.length
 dn:∀ (i:Nat) (x:Int),ks[i]?=some x->∀ y,nJ rows x y->y∈ks.take i
inductive F6(vs:List V)(H:Hp)(Q:VK)(E:XK):Prop
 | mk (r L:Addr) (rows:dM) (ss:List Int) (_:vs=[.ref r,.ref L]) (_:jc H r (rows.map aI)) (_:H L=some (.lst (ss.map V.int))) (_:ss.length<=1000) (_:rows.length<=1000) (_:(∀ es∈rows,es.length<=1000)) (_:jw rows) (_:DR rows) (_:(∀ s∈ss,0<=s/\s<rows.length)) (_ :
 ∀ (ks:List Int) (o:Addr) (H':Hp),H' o=some (.lst (ks.map V.int))->aG H H'->NW rows ks->(∀ s∈ss,s∈ks)->ks.length<=1000->H o=none->Q (.ref o) H')
theorem NW.snoc{rows:dM}{ks:List Int}{x:Int}(h:NW rows ks)(h0:0<=x)(h1:x<rows.length)(hx:∀ y,nJ rows x y->y∈ks):NW rows (ks++[x]):=by
 refine⟨λy hy=>?_,λi y hi z hz=>?_⟩
 ·rcases List.mem_append.mp hy with q|q
  ·exact h.GX y q
  ·have:y=x:=by simpa using q
   omega
 ·by_cases c:i<ks.length
  ·rw[List.getElem?_append_left c]at hi;rw[List.take_append_of_le_length (by omega)];exact h.dn i y hi z hz
  ·have c2:i=ks.length:=by
    rcases Nat.lt_or_ge i (ks++[x]).length with q|q
    ·rw[dX,vF]at q;omega
    ·rw[List.getElem?_eq_none q]at hi;cases hi
   subst c2;rw[List.getElem?_append_right (jz _),Nat.sub_self]at hi;cases hi;rw[List.take_append_of_le_length (jz _),lR];exact hx z hz
theorem E3{kvs:List (iz × V)}{ks:List Int}(h:kvs.map (·.1)=ks.map Sum.inl)(x:Int):seen kvs x↔x∈ks:=by
 unfold seen;rw[← rO,List.any_eq_true];constructor
 ·rintro⟨p,hp,e⟩;have e':p.1=Sum.inl x:=of_decide_eq_true e;have:p.1∈ks.map (Sum.inl:Int->iz):=by rw[← h];exact List.mem_map_of_mem hp
  rw[e',List.mem_map]at this;obtain⟨y,hy,ey⟩:=this;rw[Sum.inl.inj ey]at hy;exact hy
 ·intro hx;have:(Sum.inl x:iz)∈kvs.map (·.1):=by rw[h];exact List.mem_map_of_mem hx
  obtain⟨p,hp,e⟩:=List.mem_map.mp this;exact⟨p,hp,decide_eq_true e⟩
structure Bel(rows:dM)(rk:Int->Nat)(H:Hp)(W S:Addr)(ss:List Int)(H2:Hp)(bs ps ks:List Int)(kvs:List (iz × V)):Prop where
 hW:H2 W=some (.lst ((bs++ps).map V.int))
 hS:H2 S=some (.dK kvs)
 sm:aG H H2
 ky:kvs.map (·.1)=ks.map Sum.inl
 tp:NW rows ks
 rg:∀ x∈bs++ps,0<=x/\x<rows.length
 ns:∀ x∈ps,¬ seen kvs x
 pw:ps.Pairwise λa b=>rk b<rk a
 rb:∀ (i:Nat) (x:Int),ps[i]?=some x->rk x+i<=40
 st:∀ s∈ss,s∈bs\/s∈ks
 kl:kvs.length+tN rows.length kvs<=rows.length
 bl:bs.length<=1000
theorem E4{kvs:List (iz × V)}{k:iz}(v:V)(h:(cW kvs k).isSome=true):(ic kvs k v).map (·.1)=kvs.map (·.1):=by
 unfold ic;rw[if_pos (by rw[rO];exact h),List.map_map];refine List.map_congr_left λp _=>?_;show (if p.1=k then (p.1,v) else p).1=p.1
 split <;> rfl
theorem KA{rk:Int->Nat}{ps:List Int}(rb:∀ (i:Nat) (x:Int),ps[i]?=some x->rk x+i<=40):ps.length<=41:=by
 rcases uz ps with rfl|⟨p',n,rfl⟩
 ·simp
 ·rw[sG]at rb ⊢;have:=rb p'.length n (by rw[List.getElem?_append_right (jz _),Nat.sub_self];rfl);rw[dX,vF];omega
structure Top(rk:Int->Nat)(ss bs ps ks:List Int)(kvs:List (iz × V))(DY yV:List Int)(n:Int):Prop where
 eq:bs++ps=DY++yV++[n]
 ns:∀ x∈yV,¬ seen kvs x/\x≠n
 pw:yV.Pairwise λa b=>rk b<rk a
 rb:∀ (i:Nat) (x:Int),yV[i]?=some x->rk x+i<=40
 st:∀ s∈ss,s∈DY\/s=n\/s∈ks
 old:seen kvs n->DY.length+50-yV.length<bs.length+50-ps.length
 le:DY.length+50-yV.length<=bs.length+51-ps.length
 bl:DY.length<=bs.length
 up:∀ y:Int,rk y<=40->rk y<rk n->(ps++[y]).Pairwise (λa b=>rk b<rk a)/\∀ (i:Nat) (x:Int),(ps++[y])[i]?=some x->rk x+i<=40
theorem Bel.top{rows:dM}{rk:Int->Nat}{H:Hp}{W S:Addr}{ss:List Int}{H2:Hp}{bs ps ks:List Int}{kvs:List (iz × V)}(B:Bel rows rk H W S ss H2 bs ps ks kvs):bs++ps=[]\/∃ DY yV n,Top rk ss bs ps ks kvs DY yV n:=by
 have Qx:∀ (qs:List Int) (y:Int),(∀ (i:Nat) (x:Int),qs[i]?=some x->rk x+i<=40)->rk y+qs.length<=40->∀ (i:Nat) (x:Int),(qs++[y])[i]?=some x->rk x+i<=40:=by
  intro qs y h1 h2 i x hx;rcases Nat.lt_or_ge i qs.length with q|q
  ·rw[List.getElem?_append_left q]at hx;exact h1 i x hx
  ·have qi:i=qs.length:=by
    rcases Nat.lt_or_ge i (qs++[y]).length with w|w
    ·rw[dX,vF]at w;omega
    ·rw[List.getElem?_eq_none w]at hx;cases hx
   subst qi;rw[List.getElem?_append_right (jz _),Nat.sub_self]at hx;cases hx;exact h2
 rcases uz ps with rfl|⟨yV,n,rfl⟩
 ·rcases uz bs with rfl|⟨DY,n,rfl⟩
  ·exact .inl rfl
  ·rw[sG]at B ⊢;refine .inr ⟨DY,[],n,by simp,by simp,by simp,by simp,λs hs=>?_,λ_=>?_,?_,?_,λy h1 h2=>⟨by simp,Qx [] y (by simp) (by simpa using h1)⟩⟩
   ·rcases B.st s hs with z|z
    ·rcases List.mem_append.mp z with z|z
     ·exact .inl z
     ·exact .inr (.inl (by simpa using z))
    ·exact .inr (.inr z)
   ·rw[dX,vF];simp only[uA];omega
   ·rw[dX,vF];simp only[uA];omega
   ·rw[dX,vF];omega
 ·rw[sG]at B ⊢;have pwd:=List.pairwise_append.mp B.pw;have rbn:=B.rb yV.length n (by rw[List.getElem?_append_right (jz _),Nat.sub_self];rfl);refine .inr ⟨bs,yV,n,by rw[tX],λx hx=>⟨B.ns x (xR _ hx),λe=>?_⟩,pwd.1,λi x hx=>?_,λs hs=>(B.st s hs).elim .inl λz=>.inr (.inr z),λz=>absurd z (B.ns n (by simp)),?_,jz _,λy h1 h2=>⟨?_,Qx _ y B.rb ?_⟩⟩
  ·subst e;exact Nat.lt_irrefl _ (pwd.2.2 x hx x (by simp))
  ·refine B.rb i x ?_;rw[List.getElem?_append_left]
   ·exact hx
   ·rcases Nat.lt_or_ge i yV.length with q|q
    ·exact q
    ·rw[List.getElem?_eq_none q]at hx;cases hx
  ·rw[dX,vF];omega
  ·rw[List.pairwise_append];refine⟨B.pw,by simp,λa ha c hc=>?_⟩;have:c=y:=by simpa using hc
   subst this;rcases List.mem_append.mp ha with q|q
   ·have:=pwd.2.2 a q n (by simp);omega
   ·have:a=n:=by simpa using q
    subst this;exact h2
  ·rw[dX,vF];omega
def Ve(rows:dM)(rk:Int->Nat)(H:Hp)(r L W S:Addr)(ss:List Int)(m:Nat)(σ:L2.St)(H2:Hp):Prop:=∃ (bs ps ks:List Int) (kvs:List (iz × V)) (u v:Option V),σ=[some (.ref r),some (.ref L),some (.ref S),some (.ref W),u,v]/\Bel rows rk H W S ss H2 bs ps ks kvs/\m=100*tN rows.length kvs+(bs.length+50-ps.length)
theorem yW:aJ ["rows","sheets","told","waiting","number","missing"] ["rows","sheets"] (aA lU):=jd
theorem Ii{f:Addr}(F:iK K "below" "below" lU f fd)(T:nL mg)(cC:aF K mg "windows" eT oA fI BL):aC P w K mg base bZ 2 f fd lQ F6:=by
 have CM:aC P w K mg base bZ 1 fI BL oA Kz:=CL cC.F T;refine lW F yW λdJ A outer s0 H vs Q E hr h=>?_;obtain⟨r,L,rows,ss,rfl,hR,hL,hsl,eN,hes,ux,⟨rk,ZJ,Ac⟩,BK,k⟩:=h;have hu:=lO hr;refine⟨_,(aj (bx (i:=2) yW.nd rP) (aj (bx (i:=3) yW.nd (gX ja rfl T.mQ xQ (aa (pv 1) ah))) (aj (B3 PassesOwn.never (t6 (pv 3) (λ_=>rfl)) (aj (bx (i:=4) yW.nd (aV bP (pv 3) (jF gS ay))) (aj (LW (N:=["other","told"]) (i:=5) (ud (sc:=aA lU) (NX:=["rows","sheets","told","waiting","number","missing"]) (jx:=[none,some 2]) rfl rfl rfl (by decide +kernel) (by decide +kernel) rfl (by decide +kernel) rfl (by decide +kernel)) rfl yW.nd rfl rfl (cX (aK cC CM hr (aa (aV bP (pv 0) (pv 4)) ah))) (λ_ _ _ _ _ _=>(cE (i:=0) (show List.Nodup (["other","told"]:List Str) by decide +kernel))) (λ_ _ _ _ _ _=>LO (BX (ET hu (pv 0) (pv 1)))) (λ_ _ _ _ _ _=>(pv 0))) (au (bT (t6 (pv 5) (λ_=>rfl)) (au (bf (gV vE qj qm cy (pv 3) (aa (aV bP (pv 5) ay) ah)))) (aj (yP hu (pv 2) (pv 4) oG rfl) (au (bf (Pg vE PySem.F.slot_list_pop PySem.F.type_list_pop Pk (pv 3)))))))))) (au (aO (gX (Kq rfl) rfl T.mQ xQ (aa (pv 2) ah))))))),?_⟩;intro S hS;have s1:aG H (aQ H S (.dK [])):=ak hS _;refine⟨_,rfl,L,_,rfl,.inl (bR.of (s1 _ _ hL)),λW hW=>?_⟩;have s2:=s1.trans (ak hW (.lst (ss.map V.int)))
 have TY:H W=none:=by
  cases e:H W with
  | none=>rfl
  | some o=>exact absurd ((s1 _ _ e).symm.trans hW) (by simp)
 have Vf:W≠S:=(az af hW).symm;refine⟨Ve rows rk H r L W S ss,⟨_,ss,[],[],[],none,none,rfl,⟨(by rw[af,kW]),ak hW _ _ _ af,s2,rfl,⟨(λx hx=>by cases hx),λi x hi=>by simp at hi⟩,(λx hx=>BK x (by simpa using hx)),by simp,by simp,by simp,(λs hs=>.inl hs),?_,hsl⟩,rfl⟩,?_⟩
 ·have:=CC rows.length (λi=>(cW ([]:List (iz × V)) (Sum.inl (i:Int))).isNone);show 0+cnt rows.length _<=_;omega
 rintro m σ H2 ⟨bs,ps,ks,kvs,u,v,rfl,B,rfl⟩;refine⟨_,rfl,!((bs++ps).map V.int).isEmpty,.inl ⟨_,bR.of B.hW,rfl⟩,?_⟩;rcases B.top with en|⟨DY,yV,n,t⟩
 ·have e2:(!((bs++ps).map V.int).isEmpty)=false:=by rw[en];rfl
  rw[e2];refine iI ?_
  have ek:kvs.map (λp=>kV p.1)=ks.map V.int:=by
   have z:kvs.map (λp=>kV p.1)=(kvs.map (·.1)).map kV:=by rw[List.map_map];rfl
   rw[z,B.ky,List.map_map];rfl
  have kl:ks.length=kvs.length:=by
   have z:=congrArg List.length B.ky;rw[cS,cS]at z;exact z.symm
  have ZK:=B.kl;refine⟨_,rfl,S,kvs,rfl,B.hS,λl hl=>?_⟩;refine k ks l _ (by rw[af,ek]) (B.sm.trans (ak hl _)) B.tp (λs hs=>(B.st s hs).elim (λz=>?_) id) (by omega) ?_
  ·rw[(List.append_eq_nil_iff.mp en).1]at z;cases z
  cases e:H l with
  | none=>rfl
  | some o=>exact absurd ((B.sm _ _ e).symm.trans hl) (by simp)
 have eW:=B.hW;rw[t.eq]at eW;rw[t.eq];refine dO (λ_=>?_) (λz=>absurd (by simp) z);refine⟨fun σ' H'=>∃ m',m'<100*tN rows.length kvs+(bs.length+50-ps.length)/\Ve rows rk H r L W S ss m' σ' H',fun σ' H' z=>z,?_⟩;have an:wC ((DY++yV++[n]).map V.int) (-1)=some (.int n):=by rw[kT];exact iO _ _
 obtain⟨n0,n1⟩:=B.rg n (by rw[t.eq];simp);have tl:=t.le;have Sx:=t.bl;have pl:=KA B.rb;have pl':=KA t.rb;have bbl:=B.bl;obtain⟨es,iy⟩:∃ es,rows[n.toNat]?=some es:=⟨_,oJ (by omega)⟩;have Xe:=hes es (vn iy);obtain⟨Be,Mc,yX⟩:=hR.same B.sm;obtain⟨vi,F7,hI⟩:=yX.get' (i:=n.toNat) (b:=aI es) (by rw[j3,iy];rfl);obtain⟨b,RY,rfl,hb,xX⟩:=id hI;have hil:=ue es []
 have yY:wC Be n=some (.ref b):=by
  have z:=gH F7;rw[show ((n.toNat:Nat):Int)=n by omega]at z;exact z
 refine⟨_,rfl,_,rfl,W,_,_,_,rfl,rfl,bR.of eW,an,?_⟩;refine⟨_,rfl,_,rfl,r,_,_,_,rfl,rfl,bR.of Mc,yY,b,aI es,rfl,hI,?_,λz H4 hz s4 nz=>?_⟩
 ·show (es.foldl bq []).length<=_;simp only[uA]at hil;omega
 rw[lF]at hz;have ada:(dZ es).length<=es.length:=List.length_filterMap_le _ es;have ZL:=s4 _ _ B.hS;have hW4:=s4 _ _ eW;refine⟨z,rfl,⟨_,bR.of hz⟩,λacc fH=>kB (K:=K) (a:=z) (xs:=(dZ es).map V.int) (λi σ H5=>∃ u:Option V,σ=[u,some (.ref S)]/\H5 acc=some (.lst ((((dZ es).take i).filter (λy=>(cW kvs (Sum.inl y)).isNone)).map V.int))/\aG H4 H5) ⟨none,rfl,af,ak fH _⟩ (by rintro i σ H5 _ ⟨_,_,_,s5⟩;exact bR.of (s5 _ _ hz)) ?_ ?_⟩
 ·rintro i x σ H5 hi ⟨u,rfl,h5,s5⟩;rw[j3]at hi;obtain⟨y,ey,rfl⟩:=Option.map_eq_some_iff.mp hi;have st:=take_snoc ey
  have bl:(((dZ es).take i).filter (λy=>(cW kvs (Sum.inl y)).isNone)).length<=1000:=by
   have z:=List.length_filter_le (λy=>(cW kvs (Sum.inl y)).isNone) ((dZ es).take i);rw[jK]at z;omega
  refine⟨_,rfl,_,rfl,S,_,rfl,nI.k (k:=Sum.inl y) (s5 _ _ ZL),_,rfl,?_⟩
  cases ev:cW kvs (Sum.inl y) with
  | none =>
   refine j9 ⟨_,rfl,_,h5,(by rw[cS];exact aX (by omega)),_,rfl,?_,bV fH s5 (aN acc _ _)⟩;rw[af,st,List.filter_append,List.filter_cons_of_pos (p:=λy=>(cW kvs (Sum.inl y)).isNone) (by rw[ev];rfl),kT];rfl
  | some o =>
   refine iI ⟨_,rfl,?_,s5⟩;rw[st,List.filter_append,List.filter_cons_of_neg (p:=λy=>(cW kvs (Sum.inl y)).isNone) (by rw[ev];exact vo),List.filter_nil,kW];exact h5
 rintro σ H5 ⟨u,rfl,h5,s5⟩;rw[cS,lR]at h5;have hS5:=s5 _ _ ZL;have hW5:=s5 _ _ hW4;have sm5:=B.sm.trans (s4.trans s5);have ZK:=B.kl;refine⟨_,rfl,_,.inl ⟨_,bR.of h5,rfl⟩,?_⟩
 cases em:(dZ es).filter (λy=>(cW kvs (Sum.inl y)).isNone) with
 | nil =>
  refine iI ?_
  have adf:∀ y,nJ rows n y->y∈ks:=by
   rintro y ⟨_,xq,LP,hy⟩;rw[iy]at LP;cases LP;rw[← E3 B.ky];have z:=List.filter_eq_nil_iff.mp em y hy;unfold seen
   cases q:cW kvs (Sum.inl y) with
   | none=>rw[q]at z;exact absurd rfl z
   | some o=>rfl
  refine⟨_,rfl,_,rfl,S,_,rfl,FU.k (k:=Sum.inl n) hS5 (aX (by omega)),?_⟩;have RZ:(aQ H5 S (.dK (ic kvs (Sum.inl n) (.bl true)))) W=some (.lst ((DY++yV++[n]).map V.int)):=by rw[aL Vf];exact hW5
  refine⟨_,rfl,.inl ⟨rfl,_,bR.of RZ⟩,W,_,.int n,rfl,rfl,RZ,(by simp),?_⟩;have ee:((DY++yV++[n]).map V.int).dropLast=(DY++yV).map V.int:=by rw[kT (l₁:=DY++yV),List.map_singleton,List.dropLast_concat]
  rw[ee];have rg':∀ x∈DY++yV,0<=x/\x<rows.length:=λx hx=>B.rg x (by rw[t.eq];exact xR _ hx)
  cases en:cW kvs (Sum.inl n) with
  | none =>
   have mp:=HY (n:=rows.length) (.bl true) n0 n1 en;refine⟨100*tN rows.length (ic kvs (Sum.inl n) (.bl true))+(DY.length+50-yV.length),by omega,DY,yV,ks++[n],ic kvs (Sum.inl n) (.bl true),_,_,rfl,⟨af,(by rw[aL Vf.symm,af]),bV TY (bV hS sm5 (aN S _ _)) (aN W _ _),?_,B.tp.snoc n0 n1 adf,rg',λx hx=>?_,t.pw,t.rb,λs hs=>?_,?_,by omega⟩,rfl⟩
   ·rw[Cu _ en,kT,B.ky,kT];rfl
   ·intro q;rcases (HX _).mp q with e|e
    ·exact (t.ns x hx).2 e
    ·exact (t.ns x hx).1 e
   ·rcases t.st s hs with q|q|q
    ·exact .inl q
    ·exact .inr (by rw[q];simp)
    ·exact .inr (xR _ q)
   ·rw[Cu _ en,dX,vF]at *;omega
  | some o =>
   have sn:seen kvs n:=by unfold seen;rw[en];rfl
   have so:=t.old sn
   have sp:∀ x,seen (ic kvs (Sum.inl n) (.bl true)) x↔seen kvs x:=λx=>by
    rw[HX];exact⟨λz=>z.elim (λe=>by rw[e];exact sn) id,.inr⟩
   have ms:tN rows.length (ic kvs (Sum.inl n) (.bl true))=tN rows.length kvs:=by
    refine Qn _ λi _=>?_;have z:=sp (i:Int);unfold seen at z
    cases q1:cW (ic kvs (Sum.inl n) (.bl true)) (Sum.inl (i:Int)) with
    | none =>
     cases q2:cW kvs (Sum.inl (i:Int)) with
     | none=>rfl
     | some o2=>rw[q1,q2]at z;exact absurd (z.mpr rfl) vo
    | some o1 =>
     cases q2:cW kvs (Sum.inl (i:Int)) with
     | none=>rw[q1,q2]at z;exact absurd (z.mp rfl) vo
     | some o2=>rfl
   have kn:n∈ks:=(E3 B.ky n).mp sn;refine⟨100*tN rows.length (ic kvs (Sum.inl n) (.bl true))+(DY.length+50-yV.length),by rw[ms];omega,DY,yV,ks,ic kvs (Sum.inl n) (.bl true),_,_,rfl,⟨af,(by rw[aL Vf.symm,af]),bV TY (bV hS sm5 (aN S _ _)) (aN W _ _),?_,B.tp,rg',λx hx q=>(t.ns x hx).1 ((sp x).mp q),t.pw,t.rb,λs hs=>?_,?_,by omega⟩,rfl⟩
   ·rw[E4 _ (by rw[en];rfl),B.ky]
   ·rcases t.st s hs with q|q|q
    ·exact .inl q
    ·exact .inr (by rw[q];exact kn)
    ·exact .inr q
   ·have z:=congrArg List.length (E4 (kvs:=kvs) (k:=Sum.inl n) (.bl true) (by rw[en];rfl));rw[cS,cS]at z;rw[z,ms];exact ZK
 | cons y ts =>
  refine j9 ?_;rw[em]at h5;have ym:y∈(dZ es).filter (λy=>(cW kvs (Sum.inl y)).isNone):=by rw[em];simp
  obtain⟨yw,yn⟩:=List.mem_filter.mp ym;have JF:nJ rows n y:=⟨n0,es,iy,yw⟩;obtain⟨y0,y1⟩:=ux.FZ JF;obtain⟨up1,up2⟩:=t.up y (ZJ y) (Ac n y JF);have wl:=congrArg List.length t.eq;rw[dX]at wl;refine⟨_,rfl,.inl ⟨rfl,_,bR.of hW5⟩,_,rfl,acc,_,_,_,rfl,rfl,bR.of h5,gH (xs:=V.int y::ts.map V.int) (j:=0) rfl,W,_,_,rfl,rfl,hW5,(by rw[cS,← wl];exact aX (by omega)),?_⟩;have pl2:=KA up2;rw[dX,vF]at pl2;refine⟨100*tN rows.length kvs+(bs.length+50-(ps++[y]).length),?_,bs,ps++[y],ks,kvs,_,_,rfl,⟨(by rw[af,← tX,t.eq,kT (l₁:=DY++yV++[n])];rfl),(by rw[aL Vf.symm];exact hS5),bV TY sm5 (aN W _ _),B.ky,B.tp,λx hx=>?_,λx hx=>?_,up1,up2,B.st,ZK,bbl⟩,rfl⟩
  ·rw[dX,vF];omega
  ·rw[← tX]at hx;rcases List.mem_append.mp hx with q|q
   ·exact B.rg x q
   ·have:x=y:=by simpa using q
    subst this;exact⟨y0,y1⟩
  ·rcases List.mem_append.mp hx with q|q
   ·exact B.ns x q
   ·have:x=y:=by simpa using q
    subst this;intro q;unfold seen at q
    cases w:cW kvs (Sum.inl x) with
    | none=>rw[w]at q;cases q
    | some o=>rw[w]at yn;cases yn
structure Bfs(rows:dM)(H:Hp)(W S:Addr)(s:Int)(H2:Hp)(vs:List V)(wl:dM)(kvs:List (iz × V)):Prop where
 hW:H2 W=some (.lst vs)
 hl:cj (iQ (λa=>a=W\/a=S) H2) vs wl
 hS:H2 S=some (.dK kvs)
 sm:aG H H2
 wk:∀ w∈wl,w.length<=kvs.length+1/\∃ e,w.getLast?=some e/\0<=e/\e<rows.length/\(e=s\/Reach (nJ rows) s e)
 kl:kvs.length+tN rows.length kvs<=rows.length
inductive Qy(vs:List V)(H:Hp)(Q:VK)(E:XK):Prop
 | mk (r:Addr) (rows:dM) (s g:Int) (_:vs=[.ref r,.int s,.int g]) (_:jc H r (rows.map aI)) (_:rows.length<=1000) (_:(∀ es∈rows,es.length<=1000)) (_:jw rows) (_:0<=s) (_:s<rows.length) (_:¬ Reach (nJ rows) s g) (_:∀ H',aG H H'->Q .jm H')
theorem mq:aJ ["rows","start","goal","ways","seen","way","number"] ["rows","start","goal"] (aA lC):=jd
def muW(n:Nat)(W S:Addr):L2.St->Hp->Nat:=λ_ H=>match H W,H S with
 | some (.lst vs),some (.dK kvs)=>2*tN n kvs+vs.length
 | _,_=>0
theorem Qz{n:Nat}{W S:Addr}{σ:L2.St}{H:Hp}{vs:List V}{kvs:List (iz × V)}(h1:H W=some (.lst vs))(h2:H S=some (.dK kvs)):muW n W S σ H=2*tN n kvs+vs.length:=by
 unfold muW;rw[h1,h2]
def Vg(rows:dM)(H:Hp)(r W S:Addr)(s g:Int)(σ:L2.St)(H2:Hp):Prop:=∃ (vs:List V) (wl:dM) (kvs:List (iz × V)) (u v:Option V),σ=[some (.ref r),some (.int s),some (.int g),some (.ref W),some (.ref S),u,v]/\Bfs rows H W S s H2 vs wl kvs/\vs.length+2*tN rows.length kvs<=2*rows.length+1
theorem CN{f:Addr}(F:iK K "way_between" "way_between" lC f fd)(T:nL mg)(cC:aF K mg "windows" eT oA fI BL):aC P w K mg base bZ 2 f fd OQ Qy:=by
 have CM:aC P w K mg base bZ 1 fI BL oA Kz:=CL cC.F T;refine lW F mq λdJ A outer s0 H vs Q E hr h=>?_;obtain⟨r,rows,s,g,rfl,hR,eN,hes,ux,h0,h1,nr,kN⟩:=h;have hu:=lO hr;refine⟨_,(aj (bx (i:=3) mq.nd (bQ (aa (bQ (aa (pv 1) ah)) ah))) (aj (bx (i:=4) mq.nd rP) (aj (B3 PassesOwn.never (t6 (pv 3) (λ_=>rfl)) (aj (bx (i:=5) mq.nd (gV vE PySem.F.slot_list_pop PySem.F.type_list_pop Pn (pv 3) (aa ay ah))) (au (gz PassesOwn.never rfl (cX (aK cC CM hr (aa (aV bP (pv 0) (aV bP (pv 5) (jF gS ay))) ah))) (cE (i:=6) mq.nd) (aj (bT (bh gU (pv 6) (pv 2) (bz _)) (au (aO (bC ng (pv 5) (bQ (aa (pv 2) ah))))) bu) (au (bT (BX (ET hu (pv 6) (pv 4))) (aj (yP hu (pv 4) (pv 6) oG rfl) (au (bf (gV vE qj qm cy (pv 3) (aa (bC ng (pv 5) (bQ (aa (pv 6) ah))) ah))))) bu))))))) (au (aO VZ))))),?_⟩;refine⟨_,rfl,lX,λa0 Ih=>⟨lX,λW hW=>?_⟩⟩;intro S hS;have s1:aG H (aQ H a0 (.lst [.int s])):=ak Ih _;have s2:=s1.trans (ak hW (.lst [.ref a0]));have s3:=s2.trans (ak hS (.dK []))
 have TY:H W=none:=by
  cases e:H W with
  | none=>rfl
  | some o=>exact absurd ((s1 _ _ e).symm.trans hW) (by simp)
 have H0S:H S=none:=by
  cases e:H S with
  | none=>rfl
  | some o=>exact absurd ((s2 _ _ e).symm.trans hS) (by simp)
 have Vf:W≠S:=az af hS;have n0W:a0≠W:=az af hW;have n0S:a0≠S:=az (ak hW _ _ _ af) hS;refine⟨λm σ H2=>m=muW rows.length W S σ H2/\Vg rows H r W S s g σ H2,⟨_,rfl,?_⟩,?_⟩
 ·have cl:=CC rows.length (λi=>(cW ([]:List (iz × V)) (Sum.inl (i:Int))).isNone);refine⟨[.ref a0],[[s]],[],none,none,rfl,⟨ak hS _ _ _ af,.cons ⟨a0,rfl,(λz=>z.elim n0W n0S),ak hS _ _ _ (ak hW _ _ _ af)⟩ .nil,af,s3,?_,?_⟩,?_⟩
  ·intro w hw;have:w=[s]:=by simpa using hw
   subst this;exact⟨by simp,s,rfl,h0,h1,.inl rfl⟩
  ·show 0+tN rows.length []<=rows.length;unfold tN;omega
  ·show 1+2*tN rows.length []<=_;unfold tN;omega
 ·rintro m σ H2 ⟨rfl,vs,wl,kvs,u,v,rfl,B,hml⟩;rw[Qz B.hW B.hS];refine⟨_,rfl,!vs.isEmpty,.inl ⟨vs,bR.of B.hW,rfl⟩,?_⟩
  cases vs with
  | nil =>
   exact iI (kN H2 B.sm)
  | cons v0 FY =>
   refine j9 ⟨fun σ' H'=>Vg rows H r W S s g σ' H'/\muW rows.length W S σ' H'<2*tN rows.length kvs+(v0::FY).length,fun σ' H' ⟨p,l⟩=>⟨_,l,rfl,p⟩,?_⟩;obtain⟨ZM,FJ,WY,sm2,wk2,kl2⟩:=id B
   cases FJ with
   | @cons _ w0 _ Mf hv0 adi =>
   obtain⟨wa,rfl,nwa,hwa⟩:=id hv0;obtain⟨wlw,e,hle,e0,e1,es0⟩:=wk2 w0 (by simp)
   have wal:∃ w1,w0=w1++[e]:=by
    rw[List.getLast?_eq_some_iff]at hle;exact hle
   obtain⟨w1,rfl⟩:=wal;obtain⟨es,iy⟩:∃ es,rows[e.toNat]?=some es:=⟨_,oJ (by omega)⟩;have adj:es∈rows:=vn iy;have Xe:=hes es adj;refine⟨_,rfl,.inl ⟨rfl,_,bR.of ZM⟩,W,_,0,0,.ref wa,rfl,rfl,ZM,by decide,by decide,(by simp[seqIndex?]),rfl,?_⟩;have ee:(V.ref wa::FY).eraseIdx 0=FY:=rfl;rw[ee];have ZN:∀ {v:V} {ns:List Int},iQ (λa=>a=W\/a=S) H2 v ns->iQ (λa=>a=W\/a=S) (aQ H2 W (.lst FY)) v ns:=λh=>h.at _ (.inl rfl);have QA:aG H (aQ H2 W (.lst FY)):=bV TY sm2 (aN W _ _);obtain⟨Be,NS,yX⟩:=hR.same QA;obtain⟨vi,F7,hI⟩:=yX.get' (i:=e.toNat) (b:=aI es) (by rw[j3,iy];rfl);obtain⟨b,RY,rfl,hb,xX⟩:=id hI
   have adk:(aQ H2 W (.lst FY)) wa=some (.lst (w1.map V.int++[.int e])):=by
    rw[aL (λz=>nwa (.inl z)),hwa,kT];rfl
   have hil:=ue es [];refine⟨_,rfl,_,rfl,_,rfl,wa,_,_,_,rfl,rfl,bR.of adk,iO _ _,r,_,_,_,rfl,rfl,bR.of NS,?_,b,aI es,rfl,hI,?_,λz H4 hz s4 nz=>?_⟩
   ·have z:=gH F7;rw[show ((e.toNat:Nat):Int)=e by omega]at z;exact z
   ·show (es.foldl bq []).length<=_;simp only[uA]at hil;omega
   rw[lF]at hz;have hW3:(aQ H2 W (.lst FY)) W=some (.lst FY):=af;have NY:(aQ H2 W (.lst FY)) S=some (.dK kvs):=by rw[aL Vf.symm];exact WY
   have nzW:z≠W:=(az hW3 nz).symm;have nzS:z≠S:=(az NY nz).symm;have ada:(dZ es).length<=es.length:=List.length_filterMap_le _ es;refine⟨z,rfl,⟨_,bR.of hz⟩,eS (K:=K) (a:=z) (xs:=(dZ es).map V.int) (λi σ H5=>∃ (R0:List V) (Ye:dM) (vz:List (iz × V)) (v:Option V),σ=[some (.ref r),some (.int s),some (.int g),some (.ref W),some (.ref S),some (.ref wa),v]/\ Bfs rows H W S s H5 R0 Ye vz/\iQ (λa=>a=W\/a=S) H5 (.ref wa) (w1++[e])/\iQ (λa=>a=W\/a=S) H5 (.ref z) (dZ es)/\R0.length+2*tN rows.length vz<=FY.length+2*tN rows.length kvs/\kvs.length<=vz.length) ?_ ?_ ?_ ?_⟩
   ·refine⟨FY,Mf,kvs,_,rfl,⟨s4 _ _ hW3,adi.mono λ_ _ h=>(ZN h).same s4,s4 _ _ NY,QA.trans s4,λw hw=>wk2 w (sF _ hw),kl2⟩,(ZN hv0).same s4,⟨z,rfl,λq=>q.elim nzW nzS,hz⟩,jz _,jz _⟩
   ·rintro i σ H5 _ ⟨_,_,_,_,_,_,_,⟨a,ea,_,ha⟩,_⟩;cases ea;exact bR.of ha
   ·rintro i x σ H5 hi ⟨R0,Ye,vz,v,rfl,B5,TZ,hz5,Yg,hk5⟩;rw[j3]at hi;obtain⟨y,ey,rfl⟩:=Option.map_eq_some_iff.mp hi;have JF:nJ rows e y:=⟨e0,es,iy,vn ey⟩;obtain⟨y0,y1⟩:=ux.FZ JF
    have sy:Reach (nJ rows) s y:=by
     rcases es0 with rfl|q
     ·exact .one JF
     ·exact .step q JF
    obtain⟨wa',ewa,adm,ZO⟩:=id TZ;cases ewa;have wl0:(w1++[e]).length<=2000:=by have:=B5.kl;omega
    refine⟨_,rfl,_,rfl,rfl,_,rfl,dO (λc=>?_) (λc=>?_)⟩
    ·have eg:y=g:=V.int.inj (of_decide_eq_true c);exact absurd (eg ▸ sy) nr
    ·refine⟨_,rfl,_,rfl,S,_,rfl,nI.k (k:=Sum.inl y) B5.hS,_,rfl,?_⟩
     cases ev:cW vz (Sum.inl y) with
     | some o1 =>
      refine iI ?_;exact⟨R0,Ye,vz,_,rfl,B5,TZ,hz5,Yg,hk5⟩
     | none =>
      refine j9 ?_;have ZK:=B5.kl;refine⟨_,rfl,_,rfl,S,_,rfl,FU.k (k:=Sum.inl y) B5.hS (aX (by omega)),?_⟩;have e6:∀ {v:V} {ns:List Int},iQ (λa=>a=W\/a=S) H5 v ns->iQ (λa=>a=W\/a=S) (aQ H5 S (.dK (ic vz (Sum.inl y) (.bl true)))) v ns:=λh=>h.at _ (.inr rfl);have s6:aG H (aQ H5 S (.dK (ic vz (Sum.inl y) (.bl true)))):=bV H0S B5.sm (aN S _ _);have RZ:(aQ H5 S (.dK (ic vz (Sum.inl y) (.bl true)))) W=some (.lst R0):=by rw[aL Vf];exact B5.hW
      have ZP:(aQ H5 S (.dK (ic vz (Sum.inl y) (.bl true)))) wa=some (.lst ((w1++[e]).map V.int)):=by rw[aL (λq=>adm (.inr q))];exact ZO
      have Xf:(aQ H5 S (.dK (ic vz (Sum.inl y) (.bl true)))) S=some (.dK (ic vz (Sum.inl y) (.bl true))):=af;generalize aQ H5 S (.dK (ic vz (Sum.inl y) (.bl true)))=H6 at e6 s6 RZ ZP Xf;have vl:R0.length<sizeLine:=aX (by simp only[qC]at hml;omega);refine⟨_,rfl,.inl ⟨rfl,_,bR.of RZ⟩,_,rfl,_,rfl,lX,λb1 Mb=>⟨wa,b1,_,_,rfl,rfl,ak Mb _ _ _ ZP,af,kX (aX (by rw[cS];simp at wl0 ⊢;omega)),λo ho=>⟨W,_,_,rfl,rfl,ak ho _ _ _ (ak Mb _ _ _ RZ),vl,?_⟩⟩⟩;have s7:aG H6 (aQ H6 b1 (.lst [.int y])):=ak Mb _;have s8:=s7.trans (ak ho (.lst ((w1++[e]).map V.int++[.int y])));have noW:o≠W:=(az (s7 _ _ RZ) ho).symm;have ZQ:o≠S:=(az (s7 _ _ Xf) ho).symm;have e9:∀ {v:V} {ns:List Int},iQ (λa=>a=W\/a=S) H5 v ns->iQ (λa=>a=W\/a=S) (aQ (aQ (aQ H6 b1 (.lst [.int y])) o (.lst ((w1++[e]).map V.int++[.int y]))) W (.lst (R0++[.ref o]))) v ns:=λh=>((e6 h).same s8).at _ (.inl rfl);have mp:=HY (n:=rows.length) (.bl true) y0 y1 ev;have pl:(ic vz (Sum.inl y) (.bl true)).length=vz.length+1:=by rw[Cu _ ev];simp
      refine⟨R0++[.ref o],Ye++[w1++[e]++[y]],ic vz (Sum.inl y) (.bl true),_,rfl,⟨af,cj.snoc (B5.hl.mono λ_ _ h=>e9 h) ⟨o,rfl,λq=>q.elim noW ZQ,?_⟩,?_,bV TY (s6.trans s8) (aN W _ _),?_,?_⟩,e9 TZ,e9 hz5,?_,?_⟩
      ·rw[aL noW,af,kT (l₁:=w1++[e])];rfl
      ·rw[aL Vf.symm];exact s8 _ _ Xf
      ·intro w hw;rcases List.mem_append.mp hw with q|q
       ·obtain⟨q2,q3⟩:=B5.wk w q;exact⟨by omega,q3⟩
       ·have:w=w1++[e]++[y]:=by simpa using q
        subst this;refine⟨?_,y,by simp,y0,y1,.inr sy⟩;rw[dX,vF,pl];omega
      ·omega
      ·rw[dX,vF];omega
      ·omega
   ·rintro σ H5 ⟨R0,Ye,vz,v,rfl,B5,TZ,hz5,Yg,hk5⟩;simp only[qC]at hml;refine⟨⟨R0,Ye,vz,_,_,rfl,B5,by omega⟩,?_⟩;rw[Qz B5.hW B5.hS,qC];omega
inductive QB(vs:List V)(H:Hp)(Q:VK)(E:XK):Prop
 | mk (r:Addr) (s:Int) (_:vs=[.ref r,.int s]) (_:Qy [.ref r,.int s,.int s] H Q E)
theorem Xg:aJ ["rows","sheet"] ["rows","sheet"] (aA Hv):=jd
theorem T3{f:Addr}(F:iK K "ring" "ring" Hv f fd)(T:nL mg)(cC:aF K mg "windows" eT oA fI BL)(lG:aF K mg "way_between" lC OQ fJ fdJ):aC P w K mg base bZ 3 f fd tL QB:=by
 have F8:aC P w K mg base bZ 2 fJ fdJ OQ Qy:=CN lG.F T cC;refine lW F Xg λdJ A outer s H vs Q E hr h=>?_;obtain⟨r,s,rfl,h⟩:=h;refine⟨_,(au (aO (aK lG F8 hr (aa (pv 0) (aa (pv 1) (aa (pv 1) ah)))))),?_⟩;refine⟨_,rfl,_,rfl,_,rfl,?_⟩;obtain⟨r',rows,s',g,e,h1,h2,h3,h4,h5,h6,nr,kN⟩:=h;cases e;exact⟨r,rows,s,s,rfl,h1,h2,h3,h4,h5,h6,nr,kN⟩
def mS(f:Int->Int)(es:List Int):Int:=(es.map λe=>if e<0 then 1+f (-1-e) else 1).sum
def F9(f:Int->Int):aT->Int
 | .win n=>1+f n
 | .aS a b=>b-a
def Ij(f:Int->Int)(aP:List aT):Int:=(aP.map (F9 f)).sum
theorem rR(f:Int->Int)(a b:List aT):Ij f (a++b)=Ij f a+Ij f b:=by unfold Ij;rw[kT,List.sum_append]
theorem QC(f:Int->Int)(t:List aT)(e:Int):Ij f (bq t e)=Ij f t+(if e<0 then 1+f (-1-e) else 1):=by
 unfold bq;by_cases h:e<0
 ·rw[if_pos h,if_pos h,rR];simp[Ij,F9]
 ·rw[if_neg h,if_neg h];rcases uz t with rfl|⟨t',l,rfl⟩
  ·simp[Ij,F9];omega
  ·rw[sG,wY]
   cases l with
   | win n =>
    show Ij f (t'++[aT.win n]++[.aS e (e+1)])=_;rw[rR];simp[Ij,F9];omega
   | aS a b =>
    show Ij f (if b=e then (t'++[aT.aS a b]).dropLast++[.aS a (e+1)] else (t'++[aT.aS a b])++[.aS e (e+1)])=_;by_cases hb:b=e
    ·rw[if_pos hb,List.dropLast_concat,rR,rR];simp[Ij,F9];omega
    ·rw[if_neg hb,rR];simp[Ij,F9];omega
theorem NZ(f:Int->Int)(es:List Int):Ij f (aI es)=mS f es:=by
 have z:∀ t:List aT,Ij f (es.foldl bq t)=Ij f t+mS f es:=by
  induction es with
  | nil=>intro t;simp[mS]
  | cons e es ih =>
   intro t;rw[qZ,ih,QC];unfold mS;rw[oK,List.sum_cons];omega
 have:=z [];unfold aI;rw[this];simp[Ij]
def Weighs(rows:dM)(f:Int->Int):Prop:=∀ (x:Int) (es:List Int),0<=x->rows[x.toNat]?=some es->f x=mS f es
def wF(rows:dM):Nat->Int->Int
 | 0,_=>0
 | k+1,x=>match rows[x.toNat]? with
  | some es=>mS (wF rows k) es
  | none=>0
theorem KC{f g:Int->Int}{es:List Int}(h:∀ y∈dZ es,f y=g y):mS f es=mS g es:=by
 unfold mS;congr 1;refine List.map_congr_left λe he=>?_;by_cases c:e<0
 ·rw[if_pos c,if_pos c,h (-1-e) (b9.mpr ⟨by omega,by rw[show -1-(-1-e)=e by omega];exact he⟩)]
 ·rw[if_neg c,if_neg c]
theorem E5{rows:dM}(h:DR rows):∃ f,Weighs rows f:=by
 obtain⟨rk,hb,hd⟩:=h
 have key:∀ (k:Nat) (x:Int),0<=x->rk x<k->wF rows k x=wF rows (k+1) x:=by
  intro k
  induction k with
  | zero=>intro x _ h;omega
  | succ k ih =>
   intro x x0 hx
   cases e:rows[x.toNat]? with
   | none=>simp[wF,e]
   | some es =>
    have e1:wF rows (k+1) x=mS (wF rows k) es:=by simp[wF,e]
    have e2:wF rows (k+1+1) x=mS (wF rows (k+1)) es:=by
     show (match rows[x.toNat]? with|some es=>mS (wF rows (k+1)) es|none=>0)=_;rw[e]
    rw[e1,e2];refine KC λy hy=>ih y (b9.mp hy).1 ?_;have:=hd x y ⟨x0,es,e,hy⟩;omega
 refine⟨wF rows 41,λx es x0 he=>?_⟩;rw[key 41 x x0 (by have:=hb x;omega)];show (match rows[x.toNat]? with|some es=>mS (wF rows 41) es|none=>0)=_;rw[he]
inductive ZR(vs:List V)(H:Hp)(Q:VK)(E:XK):Prop
 | mk (v:V) (it:aT) (S:Addr) (kvs:List (iz × V)) (f:Int->Int) (_:vs=[v,.ref S]) (_:cZ H v it) (_:H S=some (.dK kvs)) (_:(∀ n,it=.win n->cW kvs (Sum.inl n)=some (.int (f n)))) (_:Q (.int (F9 f it)) H)
theorem DZ:aJ ["item","weights"] ["item","weights"] (aA jL):=jd
theorem CO{g:Addr}(F:iK K "item_weight" "item_weight" jL g fd)(T:nL mg):aC P w K mg base bZ 1 g fd MR ZR:=by
 refine lW F DZ λdJ A outer s H vs Q E hr h=>?_;obtain⟨v,it,S,kvs,f,rfl,⟨a,rfl,ha⟩,hS,hw,k⟩:=h;have hu:=lO hr;refine⟨_,(aj (bT (bh gU (aV br (pv 0) ay) bG (bz _)) (au (aO (bC gj ay (jQ hu (pv 1) (aV br (pv 0) ay))))) bu) (au (aO (bC dm (aV br (pv 0) ay) (aV br (pv 0) ay))))),?_⟩
 cases it with
 | win n =>
  refine⟨_,rfl,a,_,_,_,rfl,rfl,ef.of ha,rfl,rfl,_,rfl,dO (λ_=>?_) (λz=>absurd (by decide) z)⟩;have z:=nI.k (k:=Sum.inl n) hS;rw[hw n rfl]at z;exact⟨_,rfl,_,rfl,a,_,_,_,rfl,rfl,ef.of ha,rfl,S,_,rfl,z,_,_,rfl,rfl,k⟩
 | aS p q =>
  refine⟨_,rfl,a,_,_,_,rfl,rfl,ef.of ha,rfl,rfl,_,rfl,dO (λz=>absurd z (by decide)) (λ_=>?_)⟩;exact⟨_,rfl,a,_,_,_,rfl,rfl,ef.of ha,rfl,_,rfl,a,_,_,_,rfl,rfl,ef.of ha,rfl,_,_,rfl,rfl,k⟩
inductive yd(vs:List V)(H:Hp)(Q:VK)(E:XK):Prop
 | mk (r L:Addr) (rows:dM) (ss:List Int) (f:Int->Int) (_:vs=[.ref r,.ref L]) (_:jc H r (rows.map aI)) (_:H L=some (.lst (ss.map V.int))) (_:ss.length<=1000) (_:rows.length<=1000) (_:(∀ es∈rows,es.length<=1000)) (_:jw rows) (_:DR rows) (_:(∀ s∈ss,0<=s/\s<rows.length)) (_:Weighs rows f) (_ :
 ∀ (S:Addr) (kvs:List (iz × V)) (H':Hp),H' S=some (.dK kvs)->(∀ s∈ss,cW kvs (Sum.inl s)=some (.int (f s)))->aG H H'->H S=none->Q (.ref S) H')
theorem qq:aJ ["rows","sheets","weights","number"] ["rows","sheets"] (aA iL):=jd
theorem ug{g fW:Addr}(F:iK K "weights_below" "weights_below" iL g fd)(T:nL mg)(cC:aF K mg "windows" eT oA fI BL)(iR:aF K mg "below" lU lQ fB QD)(jf:aF K mg "item_weight" jL MR fW JD):aC P w K mg base bZ 3 g fd lQ yd:=by
 have KD:aC P w K mg base bZ 2 fB QD lQ F6:=Ii iR.F T cC;have Ga:aC P w K mg base bZ 1 fW JD MR ZR:=CO jf.F T;refine lW F qq λdJ A outer s0 H vs Q E hr h=>?_;obtain⟨r,L,rows,ss,f,rfl,hR,hL,hsl,eN,hes,ux,Ac,BK,hf,k⟩:=h;have hu:=lO hr;refine⟨_,(aj (bx (i:=2) qq.nd rP) (aj (gz PassesOwn.never rfl (cX (aK iR KD hr (aa (pv 0) (aa (pv 1) ah)))) (cE (i:=3) qq.nd) (au (yP hu (pv 2) (pv 3) (cO (HC rfl) rfl T.Vd PyProof.Rows.boot_sum (aa (mh (N:=["item","weights"]) (ud (sc:=aA iL) (NX:=["rows","sheets","weights","number"]) (jx:=[none,some 2]) rfl rfl rfl (by decide +kernel) (by decide +kernel) rfl (by decide +kernel) rfl (by decide +kernel)) rfl (cX (aV bP (pv 0) (pv 3))) (λ_ _ _ _ _ _=>(cE (i:=0) (show List.Nodup (["item","weights"]:List Str) by decide +kernel))) (λ_ _ _ _ _ _=>mF) (λ_ _ _ _ _ _=>(aK jf Ga hr (aa (pv 0) (aa (pv 1) ah))))) ah)) rfl))) (au (aO (pv 2))))),?_⟩;intro S hS;have s1:aG H (aQ H S (.dK [])):=ak hS _;refine⟨_,rfl,_,rfl,r,L,rows,ss,rfl,hR.same s1,s1 _ _ hL,hsl,eN,hes,ux,Ac,BK,λks o H2 ho s2 tp sk kl UP=>?_⟩;have WY:=s2 _ _ (af (H:=H) (a:=S) (o:=.dK []));have ZQ:o≠S:=(az af UP).symm;refine⟨o,rfl,⟨_,bR.of ho⟩,eS (K:=K) (a:=o) (xs:=ks.map V.int) (λi σ H3=>∃ (kvs:List (iz × V)) (u:Option V),σ=[some (.ref r),some (.ref L),some (.ref S),u]/\H3 S=some (.dK kvs)/\(∀ y∈ks.take i,cW kvs (Sum.inl y)=some (.int (f y)))/\kvs.length<=i/\(∀ a ob,a≠S->H2 a=some ob->H3 a=some ob)) ⟨[],none,rfl,WY,(λy hy=>by simp at hy),jz _,λ_ _ _ e=>e⟩ ?_ ?_ ?_⟩
 ·rintro i σ H3 _ ⟨_,_,_,_,_,_,k3⟩;exact bR.of (k3 o _ ZQ ho)
 ·rintro i x σ H3 hi ⟨kvs,u,rfl,NY,OA,hk3,k3⟩;rw[j3]at hi;obtain⟨x,ex,rfl⟩:=Option.map_eq_some_iff.mp hi;obtain⟨x0,x1⟩:=tp.GX x (vn ex);obtain⟨es,iy⟩:∃ es,rows[x.toNat]?=some es:=⟨_,oJ (by omega)⟩;have Xe:=hes es (vn iy);have QA:aG H H3:=λa ob e=>k3 a ob (az e hS) (s2 _ _ (s1 _ _ e));obtain⟨Be,NS,yX⟩:=hR.same QA;obtain⟨vi,F7,hI⟩:=yX.get' (i:=x.toNat) (b:=aI es) (by rw[j3,iy];rfl);obtain⟨b,RY,rfl,hb,xX⟩:=id hI;have hil:=ue es []
  have ais:(aI es).length<=1000:=by
   show (es.foldl bq []).length<=_;simp only[uA]at hil;omega
  have yY:wC Be x=some (.ref b):=by
   have z:=gH F7;rw[show ((x.toNat:Nat):Int)=x by omega]at z;exact z
  refine⟨_,rfl,_,rfl,r,_,_,_,rfl,rfl,bR.of NS,yY,b,rfl,⟨_,bR.of hb⟩,λacc fH=>kB (K:=K) (a:=b) (xs:=RY) (λj σ H5=>∃ u:Option V,σ=[u,some (.ref S)]/\H5 acc=some (.lst ((((aI es).take j).map (F9 f)).map V.int))/\aG H3 H5) ⟨none,rfl,af,ak fH _⟩ (λj σ H5 _ ⟨_,_,_,s5⟩=>bR.of (s5 _ _ hb)) ?_ ?_⟩
  ·rintro j v σ H5 hj ⟨u,rfl,h5,s5⟩;obtain⟨it,ei,hiv⟩:=xX.get hj;have st:=take_snoc ei;unfold xr P5;refine j9 ⟨_,rfl,_,rfl,v,it,S,kvs,f,rfl,hiv.same s5,s5 _ _ NY,λn hn=>?_,?_⟩
   ·subst hn;refine OA n (tp.dn i x ex n ⟨x0,es,iy,?_⟩);rw[← lF];unfold ig;rw[List.mem_filterMap];exact⟨.win n,vn ei,rfl⟩
   ·refine⟨_,h5,(by rw[cS,cS,jK];exact aX (by omega)),_,rfl,?_,bV fH s5 (aN acc _ _)⟩;rw[af,st,kT,kT];rfl
  ·rintro σ H5 ⟨u,rfl,h5,s5⟩;rw[xX.len,lR]at h5;have es1:((aI es).map (F9 f)).sum=f x:=by rw[hf x es x0 iy];exact NZ f es
   have hS5:=s5 _ _ NY
   have kvl:i<ks.length:=by
    rcases Nat.lt_or_ge i ks.length with q|q
    ·exact q
    ·rw[List.getElem?_eq_none q]at ex;cases ex
   refine⟨acc,_,rfl,bR.of h5,?_⟩;rw[es1];refine⟨_,rfl,_,rfl,S,_,rfl,FU.k (k:=Sum.inl x) hS5 (aX (by omega)),?_⟩;refine⟨ic kvs (Sum.inl x) (.int (f x)),_,rfl,af,λy hy=>?_,?_,λa ob n e=>?_⟩
   ·rw[pX];rw[take_snoc ex]at hy;by_cases c:y=x
    ·rw[if_pos (by rw[c]),c]
    ·rw[if_neg (λz=>c (Sum.inl.inj z))];rcases List.mem_append.mp hy with q|q
     ·exact OA y q
     ·exact absurd (by simpa using q) c
   ·have:=ku kvs (Sum.inl x) (V.int (f x));omega
   ·rw[aL n];exact s5 _ _ (k3 a ob n e)
 ·rintro σ H3 ⟨kvs,u,rfl,NY,OA,hk3,k3⟩;rw[cS,lR]at OA;exact⟨_,rfl,k S kvs H3 NY (λs hs=>OA s (sk s hs)) (λa ob e=>k3 a ob (az e hS) (s2 _ _ (s1 _ _ e))) hS⟩
inductive Ik(vs:List V)(H:Hp)(Q:VK)(E:XK):Prop
 | mk (r:Addr) (rows:dM) (s:Int) (f:Int->Int) (_:vs=[.ref r,.int s]) (_:jc H r (rows.map aI)) (_:rows.length<=1000) (_:(∀ es∈rows,es.length<=1000)) (_:jw rows) (_:DR rows) (_:0<=s) (_:s<rows.length) (_:Weighs rows f) (_ :
 ∀ H':Hp,aG H H'->Q (.int (f s)) H')
theorem QE:aJ ["rows","sheet"] ["rows","sheet"] (aA BC):=jd
theorem N1{g fW:Addr}(F:iK K "weight" "weight" BC g fd)(T:nL mg)(cC:aF K mg "windows" eT oA fI BL)(iR:aF K mg "below" lU lQ fB QD)(jf:aF K mg "item_weight" jL MR fW JD)(iS:aF K mg "weights_below" iL lQ fV Vh):aC P w K mg base bZ 4 g fd tL Ik:=by
 have rS:aC P w K mg base bZ 3 fV Vh lQ yd:=ug iS.F T cC iR jf;refine lW F QE λdJ A outer s0 H vs Q E hr h=>?_;obtain⟨r,rows,s,f,rfl,hR,eN,hes,ux,Ac,h0,h1,hf,k⟩:=h;have hu:=lO hr;refine⟨_,(au (aO (jQ hu (aK iS rS hr (aa (pv 0) (aa (bQ (aa (pv 1) ah)) ah))) (pv 1)))),?_⟩;refine⟨_,rfl,_,rfl,lX,λL hL=>?_⟩;have s1:aG H (aQ H L (.lst [.int s])):=ak hL _;refine⟨r,L,rows,[s],f,rfl,hR.same s1,af,(by simp),eN,hes,ux,Ac,(λx hx=>by rw[List.mem_singleton.mp hx];exact⟨h0,h1⟩),hf,λS kvs H' hS hv s' _=>?_⟩;have z:=nI.k (k:=Sum.inl s) hS;rw[hv s (by simp)]at z;exact⟨_,rfl,S,_,rfl,z,k H' (s1.trans s')⟩
def vg(g:Int->Row):aT->Row
 | .win n=>g n
 | .aS a b=>[(a,b)]
def aZ(sh:Int->List Int)(e:Int):List Int:=if e<0 then sh (-1-e) else [e]
def aU(sh:Int->List Int)(es:List Int):List Int:=es.flatMap (aZ sh)
def qz(rows:dM)(sh:Int->List Int):Prop:=∀ (x:Int) (es:List Int),0<=x->rows[x.toNat]?=some es->sh x=aU sh es
def bw(sh:Int->List Int)(aP:List aT):Row:=aP.flatMap (vg λn=>cU (sh n))
def xF(t:List aT):Prop:=∀ a b,aT.aS a b∈t->a<b
theorem gP(sh:Int->List Int)(a b:List aT):bw sh (a++b)=bw sh a++bw sh b:=by unfold bw;rw[List.flatMap_append]
theorem mT(sh:Int->List Int)(it:aT):bw sh [it]=vg (λn=>cU (sh n)) it:=by simp[bw]
theorem N3(sh:Int->List Int)(t:List aT)(e:Int)(ok:xF t):bW (bw sh (bq t e))=bW (bw sh t)++aZ sh e/\xF (bq t e):=by
 have add:∀ it:aT,(∀ a b,it=.aS a b->a<b)->xF (t++[it]):=λit h a b hm=>by
  rcases List.mem_append.mp hm with z|z
  ·exact ok a b z
  ·exact h a b (List.mem_singleton.mp z).symm
 unfold bq;by_cases h:e<0
 ·rw[if_pos h];refine⟨?_,add _ λa b z=>by cases z⟩;rw[gP,dz,mT];show _++bW (cU (sh (-1-e)))=_;rw[jH];unfold aZ;rw[if_pos h]
 ·rw[if_neg h]
  have one:bW [(e,e+1)]=[e]:=by
   rw[jA];unfold oE;have:(e+1-e).toNat=1:=by omega
   show run e (e+1-e).toNat=_;rw[this];rfl
  have es1:aZ sh e=[e]:=by unfold aZ;rw[if_neg h]
  have yZ:bW (bw sh (t++[.aS e (e+1)]))=bW (bw sh t)++aZ sh e/\xF (t++[.aS e (e+1)]):=by
   refine⟨?_,add _ λa b z=>by cases z;omega⟩;rw[gP,dz,mT,es1];show _++bW [(e,e+1)]=_;rw[one]
  rcases uz t with rfl|⟨t',l,rfl⟩
  ·exact yZ
  ·rw[sG]at ok add yZ ⊢;rw[wY]
   cases l with
   | win n=>exact yZ
   | aS a b =>
    show bW (bw sh (if b=e then (t'++[aT.aS a b]).dropLast++[.aS a (e+1)] else (t'++[aT.aS a b])++[.aS e (e+1)]))=_/\xF (if b=e then (t'++[aT.aS a b]).dropLast++[.aS a (e+1)] else (t'++[aT.aS a b])++[.aS e (e+1)]);by_cases hb:b=e
    ·subst hb;have ab:=ok a b (by simp);rw[if_pos rfl,List.dropLast_concat];refine⟨?_,λp q hm=>?_⟩
     ·rw[gP,gP,dz,dz,mT,mT,es1,tX];congr 1;show bW [(a,b+1)]=bW [(a,b)]++[b];rw[jA,jA];unfold oE;show run a (b+1-a).toNat=run a (b-a).toNat++[b];have:(b+1-a).toNat=(b-a).toNat+1:=by omega
      rw[this,Cn];congr 2;omega
     ·rcases List.mem_append.mp hm with z|z
      ·exact ok p q (xR _ z)
      ·have z':aT.aS p q=aT.aS a (b+1):=by simpa using z
       cases z';omega
    ·rw[if_neg hb];exact yZ
theorem CP(sh:Int->List Int)(es:List Int):bW (bw sh (aI es))=aU sh es/\xF (aI es):=by
 have z:∀ t:List aT,xF t->bW (bw sh (es.foldl bq t))=bW (bw sh t)++aU sh es/\xF (es.foldl bq t):=by
  induction es with
  | nil=>intro t ok;exact⟨by simp[aU],ok⟩
  | cons e es ih =>
   intro t ok;obtain⟨h1,h2⟩:=N3 sh t e ok;obtain⟨h3,h4⟩:=ih _ h2;refine⟨?_,h4⟩;rw[qZ,h3,h1,tX];unfold aU;rw[mZ]
 have q:=z [] (λa b h=>by cases h);refine⟨?_,q.2⟩;unfold aI;rw[q.1];rfl
theorem N4(sh:Int->List Int)(it:aT)(h:∀ a b,it=.aS a b->a<b):(vg (λn=>cU (sh n)) it).length<=(bW (vg (λn=>cU (sh n)) it)).length:=by
 cases it with
 | win n =>
  show (cU (sh n)).length<=(bW (cU (sh n))).length;rw[jH];have z:=Cr (sh n) [];simpa [cU] using z
 | aS a b =>
  have ab:=h a b rfl;show 1<=(bW [(a,b)]).length;rw[jA];unfold oE;show 1<=(run a (b-a).toNat).length;rw[LZ];omega
theorem ye(sh:Int->List Int):∀ aP:List aT,xF aP->(bw sh aP).length<=(bW (bw sh aP)).length
 | [],_=>by simp[bw]
 | it::aP,h=>by
  have e:bw sh (it::aP)=vg (λn=>cU (sh n)) it++bw sh aP:=by unfold bw;rw[mZ]
  rw[e,dz,dX,dX];have a:=N4 sh it (λa b z=>h a b (by rw[← z];simp));have b:=ye sh aP (λa b z=>h a b (sF _ z));omega
theorem N5(sh:Int->List Int)(aP:List aT)(h:xF aP):∀ p∈bw sh aP,p.1<=p.2:=by
 intro p hp;unfold bw at hp;obtain⟨it,hi,hm⟩:=List.mem_flatMap.mp hp
 cases it with
 | win n=>exact ua _ p hm
 | aS a b =>
  have:p=(a,b):=by simpa [vg] using hm
  subst this;have:=h a b hi;show a<=b;omega
inductive Ad(vs:List V)(H:Hp)(Q:VK)(E:XK):Prop
 | mk (v:V) (it:aT) (S:Addr) (kvs:List (iz × V)) (g:Int->Row) (_:vs=[v,.ref S]) (_:cZ H v it) (_:H S=some (.dK kvs)) (_:(∀ n,it=.win n->∃ a,cW kvs (Sum.inl n)=some (.ref a)/\cL H a (g n))) (_ :
 ∀ (a:Addr) (H':Hp),cL H' a (vg g it)->aG H H'->((∃ n,it=.win n/\cW kvs (Sum.inl n)=some (.ref a))\/H a=none)->Q (.ref a) H')
theorem KG:aJ ["item","views"] ["item","views"] (aA gY):=jd
theorem AW{f:Addr}(F:iK K "item_row" "item_row" gY f fd)(T:nL mg):aC P w K mg base bZ 1 f fd yz Ad:=by
 refine lW F KG λdJ A outer s H vs Q E hr h=>?_;obtain⟨v,it,S,kvs,g,rfl,⟨a,rfl,ha⟩,hS,hw,k⟩:=h;have hu:=lO hr;refine⟨_,(aj (bT (bh gU (aV br (pv 0) ay) bG (bz _)) (au (aO (jQ hu (pv 1) (aV br (pv 0) ay)))) bu) (au (aO (bQ (aa (dH (aa (aV br (pv 0) ay) (aa (aV br (pv 0) ay) ah))) ah))))),?_⟩
 cases it with
 | win n =>
  refine⟨_,rfl,a,_,_,_,rfl,rfl,ef.of ha,rfl,rfl,_,rfl,dO (λ_=>?_) (λz=>absurd (by decide) z)⟩;obtain⟨b,hb,Rb⟩:=hw n rfl;have z:=nI.k (k:=Sum.inl n) hS;rw[hb]at z;exact⟨_,rfl,_,rfl,a,_,_,_,rfl,rfl,ef.of ha,rfl,S,_,rfl,z,k b H Rb (aG.refl H) (.inl ⟨n,rfl,hb⟩)⟩
 | aS p q =>
  refine⟨_,rfl,a,_,_,_,rfl,rfl,ef.of ha,rfl,rfl,_,rfl,dO (λz=>absurd z (by decide)) (λ_=>?_)⟩;refine⟨_,rfl,a,_,_,_,rfl,rfl,ef.of ha,rfl,_,rfl,a,_,_,_,rfl,rfl,ef.of ha,rfl,uP,λt ht=>⟨lX,λl hl=>?_⟩⟩;have s1:aG H (aQ H t (.tup [.int p,.int q])):=ak ht _;have s2:=s1.trans (ak hl (.lst [.ref t]));refine k l _ ⟨[t],af,.cons ?_ .nil⟩ s2 (.inr ?_)
  ·exact ak hl _ _ _ af
  ·cases e:H l with
   | none=>rfl
   | some o=>exact absurd ((s1 _ _ e).symm.trans hl) (by simp)
theorem bS.Il{H H':Hp}{S:Addr}{kvs:List (iz × V)}(hS:H S=some (.dK kvs))(k:∀ a ob,a≠S->H a=some ob->H' a=some ob):∀ {as:List Addr} {r:Row},bS H as r->bS H' as r
 | _,_,.nil=>.nil
 | _,_,.cons r t=>.cons (k _ _ (λz=>by
   have r':=r;unfold zP at r';rw[z,hS]at r'
   cases r') r) (bS.Il hS k t)
theorem cL.Il{H H':Hp}{S a:Addr}{kvs:List (iz × V)}{row:Row}(hS:H S=some (.dK kvs))(n:a≠S)(k:∀ a ob,a≠S->H a=some ob->H' a=some ob)(R:cL H a row):cL H' a row:=by
 obtain⟨as,h,p⟩:=R;exact⟨as,k _ _ n h,p.Il hS k⟩
def Mg(H:Hp)(kvs:List (iz × V))(sh:Int->List Int)(xs:List Int):Prop:=∀ x∈xs,∃ a,cW kvs (Sum.inl x)=some (.ref a)/\cL H a (cU (sh x))
inductive y9(vs:List V)(H:Hp)(Q:VK)(E:XK):Prop
 | mk (r L:Addr) (rows:dM) (ss:List Int) (sh:Int->List Int) (_:vs=[.ref r,.ref L]) (_:jc H r (rows.map aI)) (_:H L=some (.lst (ss.map V.int))) (_:ss.length<=1000) (_:rows.length<=1000) (_:(∀ es∈rows,es.length<=1000)) (_:jw rows) (_:DR rows) (_:(∀ s∈ss,0<=s/\s<rows.length)) (_:qz rows sh) (_:(∀ x:Int,0<=x->x<rows.length->(sh x).length<=10000)) (_ :
 ∀ (S:Addr) (kvs:List (iz × V)) (ks:List Int) (H':Hp),H' S=some (.dK kvs)->Mg H' kvs sh ks->NW rows ks->(∀ s∈ss,s∈ks)->(∀ x∈ks,∀ a,cW kvs (Sum.inl x)=some (.ref a)->H a=none)->aG H H'->H S=none->Q (.ref S) H')
theorem tO:aJ ["rows","sheets","views","number"] ["rows","sheets"] (aA eU):=jd
theorem nO{g fW:Addr}(F:iK K "views_below" "views_below" eU g fd)(T:nL mg)(cC:aF K mg "windows" eT oA fI BL)(iR:aF K mg "below" lU lQ fB QD)(cA:aF K mg "item_row" gY yz fW JD)(eK:aF K mg "plain" mL iH fP NT):aC P w K mg base bZ 3 g fd lQ y9:=by
 have KD:aC P w K mg base bZ 2 fB QD lQ F6:=Ii iR.F T cC;have Ae:aC P w K mg base bZ 1 fW JD yz Ad:=AW cA.F T;have CK:aC P w K mg base bZ 1 fP NT iH BD:=CH eK.F;refine lW F tO λdJ A outer s0 H vs Q E hr h=>?_;obtain⟨r,L,rows,ss,sh,rfl,hR,hL,hsl,eN,hes,ux,Ac,BK,AN,GY,k⟩:=h;have hu:=lO hr;refine⟨_,(aj (bx (i:=2) tO.nd rP) (aj (gz PassesOwn.never rfl (cX (aK iR KD hr (aa (pv 0) (aa (pv 1) ah)))) (cE (i:=3) tO.nd) (au (yP hu (pv 2) (pv 3) (aK eK CK hr (aa (NI (N:=["item","stretch","views"]) (ud (sc:=aA eU) (NX:=["rows","sheets","views","number"]) (jx:=[none,none,some 2]) rfl rfl rfl (by decide +kernel) (by decide +kernel) rfl (by decide +kernel) rfl (by decide +kernel)) rfl (cX (aV bP (pv 0) (pv 3))) (λ_ _ _ _ _ _=>(cE (i:=0) (show List.Nodup (["item","stretch","views"]:List Str) by decide +kernel))) (λ_ _ _ _ _ _=>mF) (λ_ _ _ _ _ _=>(Qk (aK cA Ae hr (aa (pv 0) (aa (pv 2) ah))))) (λ_ _ _ _ _ _=>(cE (i:=1) (show List.Nodup (["item","stretch","views"]:List Str) by decide +kernel))) (λ_ _ _ _ _ _=>mF) (λ_ _ _ _ _ _=>(pv 1))) ah)) rfl))) (au (aO (pv 2))))),?_⟩;intro S hS;have s1:aG H (aQ H S (.dK [])):=ak hS _;refine⟨_,rfl,_,rfl,r,L,rows,ss,rfl,hR.same s1,s1 _ _ hL,hsl,eN,hes,ux,Ac,BK,λks o H2 ho s2 tp sk kl UP=>?_⟩;have WY:=s2 _ _ (af (H:=H) (a:=S) (o:=.dK []));have ZQ:o≠S:=(az af UP).symm;refine⟨o,rfl,⟨_,bR.of ho⟩,eS (K:=K) (a:=o) (xs:=ks.map V.int) (λi σ H3=>∃ (kvs:List (iz × V)) (u:Option V),σ=[some (.ref r),some (.ref L),some (.ref S),u]/\H3 S=some (.dK kvs)/\Mg H3 kvs sh (ks.take i)/\kvs.length<=i/\(∀ x a,cW kvs (Sum.inl x)=some (.ref a)->H a=none/\a≠S)/\(∀ a ob,a≠S->H2 a=some ob->H3 a=some ob)) ⟨[],none,rfl,WY,(λy hy=>by simp at hy),jz _,(λx a e=>by cases e),λ_ _ _ e=>e⟩ ?_ ?_ ?_⟩
 ·rintro i σ H3 _ ⟨_,_,_,_,_,_,_,k3⟩;exact bR.of (k3 o _ ZQ ho)
 ·rintro i x σ H3 hi ⟨kvs,u,rfl,NY,OA,hk3,hn3,k3⟩;rw[j3]at hi;obtain⟨x,ex,rfl⟩:=Option.map_eq_some_iff.mp hi;obtain⟨x0,x1⟩:=tp.GX x (vn ex);obtain⟨es,iy⟩:∃ es,rows[x.toNat]?=some es:=⟨_,oJ (by omega)⟩;have QA:aG H H3:=λa ob e=>k3 a ob (az e hS) (s2 _ _ (s1 _ _ e));obtain⟨Be,NS,yX⟩:=hR.same QA;obtain⟨vi,F7,hI⟩:=yX.get' (i:=x.toNat) (b:=aI es) (by rw[j3,iy];rfl);obtain⟨b,RY,rfl,hb,xX⟩:=id hI;obtain⟨JY,hok⟩:=CP sh es;have ZS:=AN x es x0 iy
  have kU:(bw sh (aI es)).length<=10000:=by
   have z:=ye sh (aI es) hok;rw[JY,← ZS]at z;have:=GY x x0 x1;omega
  have part:∀ j,(bw sh ((aI es).take j)).length<=10000:=λj=>by
   have e:bw sh (aI es)=bw sh ((aI es).take j)++bw sh ((aI es).drop j):=by rw[← gP,List.take_append_drop]
   rw[e,dX]at kU;omega
  have yY:wC Be x=some (.ref b):=by
   have z:=gH F7;rw[show ((x.toNat:Nat):Int)=x by omega]at z;exact z
  refine⟨_,rfl,_,rfl,r,_,_,_,rfl,rfl,bR.of NS,yY,b,rfl,⟨_,bR.of hb⟩,λacc fH=>HV (K:=K) (a:=b) (xs:=RY) (λj σ H5=>∃ (u v:Option V) (as:List Addr),σ=[u,v,some (.ref S)]/\H5 acc=some (.lst (as.map V.ref))/\bS H5 as (bw sh ((aI es).take j))/\aG H3 H5) ⟨none,none,[],rfl,af,.nil,ak fH _⟩ (λj σ H5 _ ⟨_,_,_,_,_,_,s5⟩=>bR.of (s5 _ _ hb)) ?_ ?_⟩
  ·rintro j v σ H5 hj ⟨u,u2,as,rfl,h5,p5,s5⟩;obtain⟨it,ei,hiv⟩:=xX.get hj;have st:bw sh ((aI es).take (j+1))=bw sh ((aI es).take j)++vg (λn=>cU (sh n)) it:=by rw[take_snoc ei,gP,mT]
   refine Zt ?_;refine j9 ?_;refine⟨_,rfl,_,rfl,v,it,S,kvs,(λn=>cU (sh n)),rfl,hiv.same s5,s5 _ _ NY,λn hn=>?_,λa2 H6 R6 s6 hor=>?_⟩
   ·subst hn
    obtain⟨a,ha,Ra⟩:=OA n (tp.dn i x ex n ⟨x0,es,iy,by
     rw[← lF];unfold ig;rw[List.mem_filterMap]
     exact⟨.win n,vn ei,rfl⟩⟩)
    exact⟨a,ha,Ra.same s5⟩
   obtain⟨Xh,h6a,p6⟩:=id R6
   have na2:a2≠acc:=by
    rcases hor with ⟨n,hn,hv⟩|hn
    ·subst hn
     obtain⟨a,ha,as0,h0',_⟩:=OA n (tp.dn i x ex n ⟨x0,es,iy,by
      rw[← lF];unfold ig;rw[List.mem_filterMap]
      exact⟨.win n,vn ei,rfl⟩⟩)
     rw[hv]at ha;cases ha;exact az h0' fH
    ·exact (az h5 hn).symm
   have h6:=s6 _ _ h5;have pl:=part (j+1);rw[st,dX]at pl;have al:=p5.len;have al2:=p6.len;refine⟨a2,rfl,⟨_,bR.of h6a⟩,Kp (K:=K) (a:=a2) (acc:=acc) (g:=xr 1) (tt:=P5) (te:=VX 1) (xs:=Xh.map V.ref) (λl σ H7=>∃ v2:Option V,σ=[some v,v2,some (.ref S)]/\H7 acc=some (.lst ((as++Xh.take l).map V.ref))/\bS H7 (as++Xh.take l) (bw sh ((aI es).take j)++(vg (λn=>cU (sh n)) it).take l)/\cY acc H6 H7/\aG H3 H7) ?_ ?_ ?_ ?_⟩
   ·exact⟨u2,rfl,(by simpa using h6),(by simpa using p5.same s6),(λ_ _ e _=>e),s5.trans s6⟩
   ·rintro l σ H7 _ ⟨_,_,_,_,K7,_⟩;exact bR.of (K7 a2 _ h6a na2)
   ·rintro l y σ H7 hl ⟨v2,rfl,h7,p7,K7,s7⟩;rw[j3]at hl;obtain⟨t,et,rfl⟩:=Option.map_eq_some_iff.mp hl;obtain⟨pr,epr,hpr⟩:=p6.get et
    have ll:l<Xh.length:=by
     rcases Nat.lt_or_ge l Xh.length with q|q
     ·exact q
     ·rw[List.getElem?_eq_none q]at et;cases et
    have ZT:zP H7 t pr:=K7 t _ hpr (λz=>by
     have q:H6 acc=some (.tup [.int pr.1,.int pr.2]):=by rw[← z];exact hpr
     rw[h6]at q
     cases q)
    have K8:cY acc H7 (aQ H7 acc (.lst ((as++Xh.take l).map V.ref++[.ref t]))):=aN acc _ _;refine Zt ?_;refine j9 ?_;refine⟨_,rfl,_,h7,?_,_,rfl,?_,?_,?_,bV fH s7 K8⟩
    ·rw[cS,dX,jK];exact aX (by omega)
    ·rw[af,take_snoc et,← tX,kT (l₁:=as++Xh.take l)];rfl
    ·rw[take_snoc et,take_snoc epr,← tX,← tX]
     exact bS.snoc (p7.keep h7 K8) (K8 t _ ZT (λz=>by
      have q:H7 acc=some (.tup [.int pr.1,.int pr.2]):=by rw[← z];exact ZT
      rw[h7]at q
      cases q))
    ·exact λa ob e n=>K8 a ob (K7 a ob e n) n
   ·rintro σ H7 ⟨v2,rfl,h7,p7,K7,s7⟩;rw[cS,lR]at h7 p7;rw[al2,lR]at p7;exact⟨_,_,_,rfl,h7,(by rw[st];exact p7),s7⟩
  ·rintro σ H5 ⟨u,u2,as,rfl,h5,p5,s5⟩;rw[xX.len,lR]at p5
   have kvl:i<ks.length:=by
    rcases Nat.lt_or_ge i ks.length with q|q
    ·exact q
    ·rw[List.getElem?_eq_none q]at ex;cases ex
   refine⟨acc,_,rfl,⟨as,h5,p5⟩,by omega,λq H6 R6 s6 hq=>?_⟩;have Xf:=s6 _ _ (s5 _ _ NY);have nqS:q≠S:=(az (s5 _ _ NY) hq).symm;have er:cJ (bw sh (aI es))=cU (sh x):=by rw[Ck _ (N5 sh _ hok),JY,ZS]
   rw[er]at R6;have k7:∀ a ob,a≠S->H6 a=some ob->aQ H6 S (.dK (ic kvs (Sum.inl x) (.ref q))) a=some ob:=λa ob n e=>by rw[aL n];exact e
   refine⟨_,rfl,_,rfl,S,_,rfl,FU.k (k:=Sum.inl x) Xf (aX (by omega)),?_⟩;refine⟨ic kvs (Sum.inl x) (.ref q),_,rfl,af,λy hy=>?_,?_,λy a e=>?_,λa ob n e=>k7 a ob n (s6 _ _ (s5 _ _ (k3 a ob n e)))⟩
   ·rw[pX];by_cases c:y=x
    ·rw[if_pos (by rw[c]),c];exact⟨q,rfl,R6.Il Xf nqS k7⟩
    ·rw[if_neg (λz=>c (Sum.inl.inj z))];rw[take_snoc ex]at hy;rcases List.mem_append.mp hy with z|z
     ·obtain⟨a,ha,Ra⟩:=OA y z;exact⟨a,ha,((Ra.same s5).same s6).Il Xf (hn3 y a ha).2 k7⟩
     ·exact absurd (by simpa using z) c
   ·have:=ku kvs (Sum.inl x) (V.ref q);omega
   ·rw[pX]at e;by_cases c:y=x
    ·rw[if_pos (by rw[c])]at e;cases e;refine⟨?_,nqS⟩
     cases z:H q with
     | none=>rfl
     | some ob=>exact absurd ((s5 _ _ (QA _ _ z)).symm.trans hq) (by simp)
    ·rw[if_neg (λz=>c (Sum.inl.inj z))]at e;exact hn3 y a e
 ·rintro σ H3 ⟨kvs,u,rfl,NY,OA,hk3,hn3,k3⟩;rw[cS,lR]at OA;exact⟨_,rfl,k S kvs ks H3 NY OA tp sk (λx _ a e=>(hn3 x a e).1) (λa ob e=>k3 a ob (az e hS) (s2 _ _ (s1 _ _ e))) hS⟩
inductive Gb(vs:List V)(H:Hp)(Q:VK)(E:XK):Prop
 | mk (r:Addr) (rows:dM) (s:Int) (sh:Int->List Int) (_:vs=[.ref r,.int s]) (_:jc H r (rows.map aI)) (_:rows.length<=1000) (_:(∀ es∈rows,es.length<=1000)) (_:jw rows) (_:DR rows) (_:0<=s) (_:s<rows.length) (_:qz rows sh) (_:(∀ x:Int,0<=x->x<rows.length->(sh x).length<=10000)) (_ :
 ∀ (o:Addr) (H':Hp),cL H' o (cU (sh s))->aG H H'->H o=none->Q (.ref o) H')
theorem T4:aJ ["rows","sheet"] ["rows","sheet"] (aA xV):=jd
theorem Im{g fW:Addr}(F:iK K "shown" "shown" xV g fd)(T:nL mg)(cC:aF K mg "windows" eT oA fI BL)(iR:aF K mg "below" lU lQ fB QD)(cA:aF K mg "item_row" gY yz fW JD)(eK:aF K mg "plain" mL iH fP NT)(cM:aF K mg "views_below" eU lQ fV Vh):aC P w K mg base bZ 4 g fd tL Gb:=by
 have jO:aC P w K mg base bZ 3 fV Vh lQ y9:=nO cM.F T cC iR cA eK;refine lW F T4 λdJ A outer s0 H vs Q E hr h=>?_;obtain⟨r,rows,s,sh,rfl,hR,eN,hes,ux,Ac,h0,h1,AN,GY,k⟩:=h;have hu:=lO hr;refine⟨_,(au (aO (jQ hu (aK cM jO hr (aa (pv 0) (aa (bQ (aa (pv 1) ah)) ah))) (pv 1)))),?_⟩;refine⟨_,rfl,_,rfl,lX,λL hL=>?_⟩;have s1:aG H (aQ H L (.lst [.int s])):=ak hL _;refine⟨r,L,rows,[s],sh,rfl,hR.same s1,af,(by simp),eN,hes,ux,Ac,(λx hx=>by rw[List.mem_singleton.mp hx];exact⟨h0,h1⟩),AN,GY,λS kvs ks H' hS hv tp sk hn s' _=>?_⟩;have sk:=sk s (by simp);obtain⟨a,ha,Ra⟩:=hv s sk;have z:=nI.k (k:=Sum.inl s) hS;rw[ha]at z;exact⟨_,rfl,S,_,rfl,z,k a H' Ra (s1.trans s') (aY s1 (hn s sk a ha))⟩
def Xi:aT->aT->Bool
 | .aS _ b,.aS c _=>decide (b=c)
 | _,_=>false
inductive QF(vs:List V)(H:Hp)(Q:VK)(E:XK):Prop
 | mk (x y:V) (i j:aT) (_:vs=[x,y]) (_:cZ H x i) (_:cZ H y j) (_:Q (.bl (Xi i j)) H)
theorem N6:aJ ["one","other"] ["one","other"] (aA nh):=jd
theorem KH{f:Addr}(F:iK K "goes_on" "goes_on" nh f fd)(T:nL mg):aC P w K mg base bZ 1 f fd G0 QF:=by
 refine lW F N6 λdJ A outer s H vs Q E hr h=>?_;obtain⟨x,y,i,j,rfl,⟨a,rfl,ha⟩,⟨b,rfl,hb⟩,k⟩:=h;refine⟨_,(au (aO (zC (uD gU (aV br (pv 0) ay) bG (bz _)) (zC (uD gU (aV br (pv 1) ay) bG (bz _)) (BZ (uD gU (aV br (pv 0) ay) (aV br (pv 1) ay) (bz _))))))),?_⟩
 cases i with
 | win n=>exact⟨_,rfl,a,_,_,_,rfl,rfl,ef.of ha,rfl,rfl,_,rfl,dO (λz=>absurd z (by decide)) (λ_=>k)⟩
 | aS p q =>
  refine⟨_,rfl,a,_,_,_,rfl,rfl,ef.of ha,rfl,rfl,_,rfl,dO (λ_=>?_) (λz=>absurd (by decide) z)⟩
  cases j with
  | win n=>exact⟨_,rfl,b,_,_,_,rfl,rfl,ef.of hb,rfl,rfl,_,rfl,dO (λz=>absurd z (by decide)) (λ_=>k)⟩
  | aS u v =>
   refine⟨_,rfl,b,_,_,_,rfl,rfl,ef.of hb,rfl,rfl,_,rfl,dO (λ_=>?_) (λz=>absurd (by decide) z)⟩;refine⟨_,rfl,a,_,_,_,rfl,rfl,ef.of ha,rfl,_,rfl,b,_,_,_,rfl,rfl,ef.of hb,rfl,rfl,?_⟩
   have e:decide (V.int q=V.int u)=decide (q=u):=by
    by_cases c:q=u
    ·rw[c];simp
    ·have c2:¬ V.int q=V.int u:=λz=>c (V.int.inj z);rw[decide_eq_false c,decide_eq_false c2]
   rw[e];exact k
def b5(t:List aT)(it:aT):List aT :=
 match t.getLast?,it with
 | some (.aS a b),.aS c d=>if b=c then t.dropLast++[.aS a d] else t++[it]
 | _,_=>t++[it]
def KI(aP:List aT):List aT:=aP.foldl b5 []
theorem KJ(aP:List aT):∀ t:List aT,(aP.foldl b5 t).length<=t.length+aP.length:=by
 induction aP with
 | nil=>intro t;simp
 | cons e aP ih =>
  intro t;rw[qZ];have z:=ih (b5 t e)
  have z2:(b5 t e).length<=t.length+1:=by
   unfold b5;split
   ·split
    ·rw[dX,List.length_dropLast,vF];omega
    ·simp
   ·simp
  rw[qC];omega
inductive nP(vs:List V)(H:Hp)(Q:VK)(E:XK):Prop
 | mk (r:Addr) (aP:List aT) (_:vs=[.ref r]) (_:bL H (.ref r) aP) (_:aP.length<=1000000) (_ :
 ∀ (o:Addr) (H':Hp),bL H' (.ref o) (KI aP)->aG H H'->H o=none->Q (.ref o) H')
theorem tP:aJ ["items","told","item"] ["items"] (aA jb):=jd
theorem nQ{f:Addr}(F:iK K "plain_items" "plain_items" jb f fd)(T:nL mg)(jg:aF K mg "goes_on" nh G0 fG fdG):aC P w K mg base bZ 2 f fd oA nP:=by
 have QG:aC P w K mg base bZ 1 fG fdG G0 QF:=KH jg.F T;refine lW F tP λdJ A outer s H vs Q E hr h=>?_;obtain⟨r,aP,rfl,⟨a,RY,e,hr1,xX⟩,eN,k⟩:=h;cases e;refine⟨_,(aj (bx (i:=1) tP.nd (bQ ah)) (aj (gz PassesOwn.never rfl (cX (pv 0)) (cE (i:=2) tP.nd) (au (bT (PW.pt (vI (t6 (pv 1) (λ_=>rfl)) (uB (lT (aK jg QG hr (aa (aV bP (pv 1) (jF gS ay)) (aa (pv 2) ah))))))) (au (rf (dH (aa bG (aa (aV br (aV bP (pv 1) (jF gS ay)) ay) (aa (aV br (pv 2) ay) ah)))) (uC (pv 1) (jF gS ay) m9))) (au (bf (gV vE qj qm cy (pv 1) (aa (pv 2) ah))))))) (au (aO (pv 1))))),?_⟩;refine⟨mj,λq hq=>?_⟩;have s0:aG H (aQ H q (.lst [])):=ak hq _;refine⟨_,rfl,r,rfl,⟨_,bR.of (s0 _ _ hr1)⟩,eS (K:=K) (a:=r) (xs:=RY) (λi σ H2=>∃ (vs:List V) (u:Option V),σ=[some (.ref r),some (.ref q),u]/\H2 q=some (.lst vs)/\cj (cZ H2) vs ((aP.take i).foldl b5 [])/\aG H H2) ⟨[],none,rfl,af,.nil,s0⟩ (by rintro i σ H2 _ ⟨_,_,_,_,_,s⟩;exact bR.of (s _ _ hr1)) ?_ ?_⟩
 ·rintro i x σ H2 hi ⟨vs,u,rfl,gy,hb,s⟩;obtain⟨it,ei,hiv⟩:=xX.get hi;have hx2:=hiv.same s;have step:(aP.take (i+1)).foldl b5 []=b5 ((aP.take i).foldl b5 []) it:=by rw[take_snoc ei,List.foldl_append];rfl
  have bl:vs.length<sizeLine:=by
   have z:=hb.len;have z2:=KJ (aP.take i) [];rw[jK,uA]at z2;exact aX (by omega)
  have app:b5 ((aP.take i).foldl b5 []) it=(aP.take i).foldl b5 []++[it]->∃ (FY:List V) (u':Option V),[some (V.ref r),some (.ref q),some x]=[some (.ref r),some (.ref q),u']/\(aQ H2 q (.lst (vs++[x]))) q=some (.lst FY)/\cj (cZ (aQ H2 q (.lst (vs++[x])))) FY ((aP.take (i+1)).foldl b5 [])/\aG H (aQ H2 q (.lst (vs++[x]))):=λe=>by
   refine⟨_,_,rfl,af,?_,bV hq s (aN q _ _)⟩;rw[step,e];exact cj.snoc (hb.mono λv i h=>h.keep gy (aN q _ _)) (hx2.keep gy (aN q _ _))
  rcases uz ((aP.take i).foldl b5 []) with hn|⟨t0,l0,hn⟩
  ·have hvs:vs=[]:=by
    rw[hn]at hb;exact List.eq_nil_of_length_eq_zero hb.len
   subst hvs;refine⟨_,rfl,false,.inl ⟨_,bR.of gy,rfl⟩,iI (iI ?_)⟩;refine⟨_,rfl,.inl ⟨rfl,_,bR.of gy⟩,_,rfl,q,_,_,rfl,rfl,gy,bl,app ?_⟩;rw[hn];rfl
  ·rw[sG]at hn;have hb':=hb;rw[hn]at hb';obtain⟨us,v0,rfl,hb0,hv0⟩:=hb'.split;obtain⟨a0,rfl,Ih⟩:=id hv0;refine⟨_,rfl,true,.inl ⟨_,bR.of gy,by simp⟩,j9 ?_⟩;refine⟨_,rfl,_,rfl,q,_,_,_,rfl,rfl,bR.of gy,iO _ _,_,rfl,_,_,l0,it,rfl,hv0,hx2,_,rfl,?_⟩
   cases l0 with
   | win n =>
    refine iI ?_;refine⟨_,rfl,.inl ⟨rfl,_,bR.of gy⟩,_,rfl,q,_,_,rfl,rfl,gy,bl,app ?_⟩;rw[hn];unfold b5;rw[wY]
   | aS p1 p2 =>
    cases it with
    | win n =>
     refine iI ?_;refine⟨_,rfl,.inl ⟨rfl,_,bR.of gy⟩,_,rfl,q,_,_,rfl,rfl,gy,bl,app ?_⟩;rw[hn];unfold b5;rw[wY]
    | aS c d =>
     refine dO (λz=>?_) (λz=>?_)
     ·have e2:p2=c:=of_decide_eq_true z;obtain⟨ax,rfl,hax⟩:=id hx2;refine⟨_,rfl,_,rfl,q,_,_,_,rfl,rfl,bR.of gy,iO _ _,a0,_,_,_,rfl,rfl,ef.of Ih,rfl,_,rfl,ax,_,_,_,rfl,rfl,ef.of hax,rfl,Kv,λt ht=>?_⟩;refine⟨_,rfl,_,rfl,q,_,_,us.length,rfl,rfl,ak ht _ _ _ gy,(by rw[dX];exact Co _),?_⟩;rw[Cp];refine⟨_,_,rfl,af,?_,bV hq (s.trans (ak ht _)) (aN q _ _)⟩
      have e3:(aP.take (i+1)).foldl b5 []=t0++[.aS p1 d]:=by
       rw[step,hn];unfold b5;rw[wY,List.dropLast_concat];show (if p2=c then t0++[aT.aS p1 d] else _)=_;rw[if_pos e2]
      rw[e3];exact cj.new (it:=.aS p1 d) gy hb0 ht _
     ·have e2:¬ p2=c:=λw=>z (decide_eq_true w);refine⟨_,rfl,.inl ⟨rfl,_,bR.of gy⟩,_,rfl,q,_,_,rfl,rfl,gy,bl,app ?_⟩;rw[hn];unfold b5;rw[wY];show (if p2=c then _ else t0++[aT.aS p1 p2]++[aT.aS c d])=_;rw[if_neg e2]
 ·rintro σ H2 ⟨vs,u,rfl,gy,hb,s⟩;rw[xX.len,lR]at hb;exact⟨_,rfl,k q H2 ⟨q,vs,rfl,gy,hb⟩ s hq⟩
def cV(r:Row):List aT:=r.map λp=>.aS p.1 p.2
inductive wO(vs:List V)(H:Hp)(Q:VK)(E:XK):Prop
 | mk (r:Addr) (row:Row) (_:vs=[.ref r]) (_:cL H r row) (_:row.length<=100000) (_ :
 ∀ (o:Addr) (H':Hp),bL H' (.ref o) (cV (cJ row))->aG H H'->H o=none->Q (.ref o) H')
theorem T5:aJ ["row"] ["row"] (aA rm):=jd
theorem vR{f:Addr}(F:iK K "inked" "inked" rm f fd)(T:nL mg)(eK:aF K mg "plain" mL iH fP NT):aC P w K mg base bZ 2 f fd iH wO:=by
 have CK:aC P w K mg base bZ 1 fP NT iH BD:=CH eK.F;refine lW F T5 λdJ A outer s H vs Q E hr h=>?_;obtain⟨r,row,rfl,R,eN,k⟩:=h;refine⟨_,(au (aO (mh (N:=["start","stop"]) (ud (sc:=aA rm) (NX:=["row"]) (jx:=[none,none]) rfl rfl rfl (by decide +kernel) (by decide +kernel) rfl (by decide +kernel) rfl (by decide +kernel)) rfl (cX (aK eK CK hr (aa (pv 0) ah))) (λ_ _ _ _ _ _=>(BH (n:=2) rfl (cB (cE (i:=0) (show List.Nodup (["start","stop"]:List Str) by decide +kernel)) (cB (cE (i:=1) (show List.Nodup (["start","stop"]:List Str) by decide +kernel)) kY)))) (λ_ _ _ _ _ _=>mF) (λ_ _ _ _ _ _=>(dH (aa bG (aa (pv 0) (aa (pv 1) ah)))))))),?_⟩;refine⟨_,rfl,r,row,rfl,R,by omega,λq H1 R1 s1 hq=>?_⟩;obtain⟨as,h1,p1⟩:=id R1;have pl:=qU row;refine⟨q,rfl,⟨_,bR.of h1⟩,λacc fH=>kB (K:=K) (a:=q) (xs:=as.map V.ref) (λi σ H2=>∃ (u v:Option V) (vs:List V),σ=[u,v]/\H2 acc=some (.lst vs)/\cj (cZ H2) vs (cV ((cJ row).take i))/\aG H1 H2) ⟨none,none,[],rfl,af,.nil,ak fH _⟩ (by rintro i σ H2 _ ⟨_,_,_,_,_,_,s⟩;exact bR.of (s _ _ h1)) ?_ ?_⟩
 ·rintro i x σ H2 hi ⟨u,v,vs,rfl,ha,t2,s⟩;rw[j3]at hi;obtain⟨a,ea,rfl⟩:=Option.map_eq_some_iff.mp hi;obtain⟨⟨st,en⟩,ep,hpa⟩:=p1.get ea;have bl:=t2.len;unfold cV at bl;rw[cS,jK]at bl;refine⟨a,_,rfl,ef.of (s _ _ hpa),rfl,_,_,rfl,_,_,rfl,rfl,yes (j9 ?_)⟩;refine⟨_,rfl,_,rfl,Kv,λt ht=>?_⟩;refine⟨vs,ak ht _ _ _ ha,aX (by omega),_,_,_,rfl,af,?_,bV fH (s.trans (ak ht _)) (aN acc _ _)⟩
  have e:cV ((cJ row).take (i+1))=cV ((cJ row).take i)++[.aS st en]:=by
   rw[take_snoc ep];unfold cV;rw[kT];rfl
  rw[e];exact cj.new (it:=.aS st en) ha t2 ht _
 ·rintro σ H2 ⟨u,v,vs,rfl,ha,t2,s⟩;rw[cS,p1.len,lR]at t2;refine k acc H2 ⟨acc,vs,rfl,ha,t2⟩ (s1.trans s) ?_
  cases e:H acc with
  | none=>rfl
  | some o=>exact absurd ((s1 _ _ e).symm.trans fH) (by simp)
def iT:aT->List Int
 | .win n=>[-1-n]
 | .aS a b=>run a (b-a).toNat
def dQ(aP:List aT):List Int:=aP.flatMap iT
def qA:aT->Prop
 | .win n=>0<=n
 | .aS a b=>0<=a/\a<b
def iX(aP:List aT):Prop:=∀ it∈aP,qA it
theorem iF(a b:List aT):dQ (a++b)=dQ a++dQ b:=by unfold dQ;rw[List.flatMap_append]
theorem qb(a:aT):dQ [a]=iT a:=by simp[dQ]
theorem iX.append{a b:List aT}(h:iX a)(g:iX b):iX (a++b):=λit hm=>(List.mem_append.mp hm).elim (h it) (g it)
theorem iX.one{a:aT}(h:qA a):iX [a]:=λit hm=>by rw[List.mem_singleton.mp hm];exact h
theorem QH(t:List aT){n:Int}(h:0<=n):bq t (-1-n)=t++[.win n]:=by
 unfold bq;rw[if_pos (by omega)];congr 3;omega
theorem N7(t:List aT)(p s:Int)(h:0<=s):bq (t++[.aS p s]) s=t++[.aS p (s+1)]:=by
 unfold bq;rw[if_neg (by omega),wY];show (if s=s then (t++[aT.aS p s]).dropLast++[.aS p (s+1)] else _)=_;rw[if_pos rfl,List.dropLast_concat]
theorem E6(t:List aT)(p:Int):∀ (n:Nat) (s:Int),0<=s->(run s n).foldl bq (t++[.aS p s])=t++[.aS p (s+n)]
 | 0,s,_=>by simp[run]
 | n+1,s,h=>by
  rw[run,qZ,N7 t p s h,E6 t p n (s+1) (by omega)];congr 3;omega
theorem KL(t:List aT)(it:aT)(h:qA it):b5 t it=(iT it).foldl bq t:=by
 cases it with
 | win n =>
  show b5 t (.win n)=bq t (-1-n);rw[QH t h];unfold b5
  cases t.getLast? with
  | none=>rfl
  | some l=>cases l <;> rfl
 | aS a b =>
  obtain⟨a0,ab⟩:=h;have e:(b-a).toNat=(b-(a+1)).toNat+1:=by omega
  show b5 t (.aS a b)=(run a (b-a).toNat).foldl bq t;rw[e,run,qZ]
  have oB:∀ (u:List aT) (p:Int),(run (a+1) (b-(a+1)).toNat).foldl bq (u++[.aS p (a+1)])=u++[.aS p b]:=λu p=>by
   rw[E6 u p _ _ (by omega)];congr 3;omega
  unfold b5 bq;rw[if_neg (by omega)]
  cases t.getLast? with
  | none=>exact (oB t a).symm
  | some l =>
   cases l with
   | win n=>exact (oB t a).symm
   | aS p q =>
    show (if q=a then t.dropLast++[aT.aS p b] else t++[aT.aS a b])=List.foldl bq (if q=a then t.dropLast++[aT.aS p (a+1)] else t++[aT.aS a (a+1)]) _;by_cases c:q=a
    ·rw[if_pos c,if_pos c,oB]
    ·rw[if_neg c,if_neg c,oB]
theorem qc(aP:List aT)(h:iX aP):KI aP=aI (dQ aP):=by
 unfold KI aI dQ;rw[rK]
 have z:∀ (aP:List aT) (t:List aT),iX aP->aP.foldl b5 t=aP.foldl (λc a=>(iT a).foldl bq c) t:=by
  intro aP
  induction aP with
  | nil=>intro t _;rfl
  | cons it aP ih =>
   intro t h;rw[qZ,qZ,KL t it (h it (by simp))];exact ih _ λi hi=>h i (sF _ hi)
 exact z aP [] h
theorem N8(t:List aT)(e:Int)(h:iX t):dQ (bq t e)=dQ t++[e]/\iX (bq t e):=by
 unfold bq;by_cases c:e<0
 ·rw[if_pos c,iF,qb];refine⟨?_,h.append (iX.one (by show 0<=-1-e;omega))⟩;show dQ t++[-1-(-1-e)]=_;rw[show -1-(-1-e)=e by omega]
 ·rw[if_neg c]
  have pl:dQ (t++[.aS e (e+1)])=dQ t++[e]/\iX (t++[.aS e (e+1)]):=by
   refine⟨?_,h.append (iX.one ⟨by omega,by omega⟩)⟩;rw[iF,qb];show _++run e (e+1-e).toNat=_;rw[show (e+1-e).toNat=1 by omega];rfl
  rcases uz t with rfl|⟨t',l,rfl⟩
  ·exact pl
  ·rw[sG]at h pl ⊢;rw[wY]
   cases l with
   | win n=>exact pl
   | aS a b =>
    show dQ (if b=e then (t'++[aT.aS a b]).dropLast++[.aS a (e+1)] else (t'++[aT.aS a b])++[.aS e (e+1)])=_/\iX (if b=e then (t'++[aT.aS a b]).dropLast++[.aS a (e+1)] else (t'++[aT.aS a b])++[.aS e (e+1)]);by_cases hb:b=e
    ·subst hb;obtain⟨a0,ab⟩:0<=a/\a<b:=h (.aS a b) (by simp);rw[if_pos rfl,List.dropLast_concat];refine⟨?_,iX.append (λi hi=>h i (xR _ hi)) (iX.one ⟨a0,by omega⟩)⟩;rw[iF,iF,qb,qb,tX];congr 1;show run a (b+1-a).toNat=run a (b-a).toNat++[b];rw[show (b+1-a).toNat=(b-a).toNat+1 by omega,Cn];congr 2;omega
    ·rw[if_neg hb];exact pl
theorem rT(es:List Int):dQ (aI es)=es/\iX (aI es):=by
 have z:∀ (es:List Int) (t:List aT),iX t->dQ (es.foldl bq t)=dQ t++es/\iX (es.foldl bq t):=by
  intro es
  induction es with
  | nil=>intro t h;exact⟨by simp,h⟩
  | cons e es ih =>
   intro t h;obtain⟨h1,h2⟩:=N8 t e h;obtain⟨h3,h4⟩:=ih _ h2;exact⟨by rw[qZ,h3,h1,tX];rfl,h4⟩
 obtain⟨h1,h2⟩:=z es [] (λi hi=>by cases hi);exact⟨by unfold aI;rw[h1];rfl,h2⟩
theorem uh(r:Row):dQ (cV r)=bW r:=by
 unfold dQ cV bW;rw[List.flatMap_map];rfl
theorem za{r:Row}(h:nK r):iX (cV r):=by
 intro it hm;unfold cV at hm;obtain⟨p,hp,rfl⟩:=List.mem_map.mp hm;exact h p hp
theorem N9{ns:List Int}(h:∀ x∈ns,0<=x):cV (cU ns)=aI ns:=by
 have z:∀ (ns:List Int) (t:Row),(∀ x∈ns,0<=x)->cV (ns.foldl (λt n=>lV t n (n+1)) t)=ns.foldl bq (cV t):=by
  intro ns
  induction ns with
  | nil=>intro t _;rfl
  | cons n ns ih =>
   intro t h;rw[qZ,qZ,ih _ λx hx=>h x (sF _ hx)];congr 1;have n0:=h n (by simp);unfold lV bq;rw[if_neg (by omega)];rcases uz t with rfl|⟨t',l,rfl⟩
   ·rfl
   ·rw[sG,wY];have e:(cV (t'++[l])).getLast?=some (.aS l.1 l.2):=by unfold cV;rw[kT];exact wY
    rw[e];show cV (if l.2=n then (t'++[l]).dropLast++[(l.1,n+1)] else t'++[l]++[(n,n+1)])=if l.2=n then (cV (t'++[l])).dropLast++[.aS l.1 (n+1)] else cV (t'++[l])++[.aS n (n+1)];by_cases c:l.2=n
    ·rw[if_pos c,if_pos c,List.dropLast_concat];unfold cV;rw[kT,kT];simp
    ·rw[if_neg c,if_neg c];unfold cV;rw[kT];rfl
 exact z ns [] h
abbrev sI:=aT × Row × Int × Int
def dc(sh:Int->List Int)(it:aT):Row:=vg (λn=>cU (sh n)) it
def b8(sh:Int->List Int):Int->List aT->List sI
 | _,[]=>[]
 | f,it::r=>(it,dc sh it,f,f+kU (dc sh it))::b8 sh (f+kU (dc sh it)) r
theorem zb(sh:Int->List Int)(b:List aT):∀ (a:List aT) (f:Int),b8 sh f (a++b)=b8 sh f a++b8 sh (f+kU (bw sh a)) b
 | [],f=>by simp[b8,bw,kU]
 | it::a,f=>by
  rw[List.cons_append,b8,b8,zb sh b a,List.cons_append];have e:bw sh (it::a)=dc sh it++bw sh a:=by unfold bw;rw[mZ];rfl
  rw[e,Cm,Int.add_assoc]
theorem E7(sh:Int->List Int):∀ (a:List aT) (f:Int),(b8 sh f a).length=a.length
 | [],_=>rfl
 | _::a,f=>by rw[b8,qC,qC,E7 sh a]
def rV(N:Addr->Prop)(H:Hp)(v:V)(d:sI):Prop:=∃ (a ra:Addr) (x:V),v=.ref a/\H a=some (.tup [x,.ref ra,.int d.2.2.1,.int d.2.2.2])/\cZ H x d.1/\cL H ra d.2.1/\N ra
theorem rV.same{N:Addr->Prop}{H H':Hp}{v:V}{d:sI}(s:aG H H'):rV N H v d->rV N H' v d:=λ⟨a,ra,x,e,h,i,r,n⟩=>⟨a,ra,x,e,s _ _ h,i.same s,r.same s,n⟩
theorem rV.keep{N:Addr->Prop}{H H':Hp}{v:V}{d:sI}{q:Addr}{xs:List V}(hq:H q=some (.lst xs))(nq:∀ a,N a->a≠q)(k:cY q H H'):rV N H v d->rV N H' v d:=λ⟨a,ra,x,e,h,i,r,n⟩=>⟨a,ra,x,e,k a _ h (by
 intro z;rw[z,hq]at h
 cases h),i.keep hq k,r.keep hq (nq ra n) k,n⟩
def Af(H:Hp)(kvs:List (iz × V))(sh:Int->List Int)(aP:List aT):Prop:=∀ n,aT.win n∈aP->∃ a,cW kvs (Sum.inl n)=some (.ref a)/\cL H a (cU (sh n))
theorem Af.same{H H':Hp}{kvs:List (iz × V)}{sh:Int->List Int}{aP:List aT}(s:aG H H')(h:Af H kvs sh aP):Af H' kvs sh aP:=λn hn=>by
 obtain⟨a,e,r⟩:=h n hn;exact⟨a,e,r.same s⟩
def aD(p:Int)(d:sI):List aT:=if d.2.2.2<=p then [d.1] else if p<=d.2.2.1 then [] else cV (cJ (qg 0 (p-d.2.2.1) 0 d.2.1))
def bD(p:Int)(d:sI):List aT:=if d.2.2.2<=p then [] else if p<=d.2.2.1 then [d.1] else cV (cJ (qg (p-d.2.2.1) (d.2.2.2-d.2.2.1) 0 d.2.1))
def aE(sh:Int->List Int)(p:Int):Int->List Int->List Int
 | _,[]=>[]
 | f,e::r=>(if f+(aZ sh e).length<=p then [e] else if p<=f then [] else (aZ sh e).take (p-f).toNat)++aE sh p (f+(aZ sh e).length) r
def bE(sh:Int->List Int)(p:Int):Int->List Int->List Int
 | _,[]=>[]
 | f,e::r=>(if f+(aZ sh e).length<=p then [] else if p<=f then [e] else (aZ sh e).drop (p-f).toNat)++bE sh p (f+(aZ sh e).length) r
theorem ck(sh:Int->List Int)(e:Int)(r:List Int):aU sh (e::r)=aZ sh e++aU sh r:=by unfold aU;rw[mZ]
theorem nR(sh:Int->List Int)(a b:List Int):aU sh (a++b)=aU sh a++aU sh b:=by unfold aU;rw[List.flatMap_append]
theorem Ag(sh:Int->List Int)(p:Int)(y:List Int):∀ (x:List Int) (f:Int),aE sh p f (x++y)=aE sh p f x++aE sh p (f+(aU sh x).length) y
 | [],f=>by simp[aE,aU]
 | e::x,f=>by
  rw[List.cons_append,aE,aE,Ag sh p y x,tX,ck,dX,Int.add_assoc]
  push_cast
  rfl
theorem Ah(sh:Int->List Int)(p:Int)(y:List Int):∀ (x:List Int) (f:Int),bE sh p f (x++y)=bE sh p f x++bE sh p (f+(aU sh x).length) y
 | [],f=>by simp[bE,aU]
 | e::x,f=>by
  rw[List.cons_append,bE,bE,Ah sh p y x,tX,ck,dX,Int.add_assoc]
  push_cast
  rfl
theorem wQ(sh:Int->List Int){e:Int}(h:0<=e):aZ sh e=[e]:=by unfold aZ;rw[if_neg (by omega)]
theorem qV(sh:Int->List Int):∀ (n:Nat) (a:Int),0<=a->aU sh (run a n)=run a n
 | 0,_,_=>rfl
 | n+1,a,h=>by rw[run,ck,wQ sh h,qV sh n (a+1) (by omega)];rfl
theorem QI(sh:Int->List Int)(p:Int):∀ (n:Nat) (a f:Int),0<=a->aE sh p f (run a n)=(run a n).take (p-f).toNat
 | 0,_,_,_=>by simp[run,aE]
 | n+1,a,f,h=>by
  rw[run,aE,QI sh p n (a+1) _ (by omega),wQ sh h];show (if f+1<=p then [a] else if p<=f then [] else _)++(run (a+1) n).take (p-(f+1)).toNat=_;by_cases c:f+1<=p
  ·rw[if_pos c,show (p-f).toNat=(p-(f+1)).toNat+1 by omega];rfl
  ·rw[if_neg c,if_pos (by omega),show (p-f).toNat=0 by omega,show (p-(f+1)).toNat=0 by omega];rfl
theorem QJ(sh:Int->List Int)(p:Int):∀ (n:Nat) (a f:Int),0<=a->bE sh p f (run a n)=(run a n).drop (p-f).toNat
 | 0,_,_,_=>by simp[run,bE]
 | n+1,a,f,h=>by
  rw[run,bE,QJ sh p n (a+1) _ (by omega),wQ sh h];show (if f+1<=p then [] else if p<=f then [a] else _)++(run (a+1) n).drop (p-(f+1)).toNat=_;by_cases c:f+1<=p
  ·rw[if_pos c,show (p-f).toNat=(p-(f+1)).toNat+1 by omega];rfl
  ·rw[if_neg c,if_pos (by omega),show (p-f).toNat=0 by omega,show (p-(f+1)).toNat=0 by omega];rfl
theorem QK(sh:Int->List Int){n:Int}(h:0<=n):aZ sh (-1-n)=sh n:=by
 unfold aZ;rw[if_pos (by omega),show -1-(-1-n)=n by omega]
theorem zc(sh:Int->List Int)(it:aT)(h:qA it):∀ q∈dc sh it,q.1<=q.2:=by
 cases it with
 | win n=>exact ua _
 | aS a b =>
  intro q hq;have:q=(a,b):=by simpa [dc,vg] using hq
  subst this;have:=h.2;show a<=b;omega
theorem oU(sh:Int->List Int)(it:aT)(h:qA it):bW (dc sh it)=aU sh (iT it):=by
 cases it with
 | win n =>
  show bW (cU (sh n))=aU sh [-1-n];rw[jH,ck,QK sh h];simp[aU]
 | aS a b =>
  show bW [(a,b)]=aU sh (run a (b-a).toNat);rw[jA,qV sh _ _ h.1];rfl
theorem qd(sh:Int->List Int)(it:aT)(h:qA it):kU (dc sh it)=(aU sh (iT it)).length:=by
 rw[← oU sh it h,wI _ (zc sh it h)]
theorem ZU(sh:Int->List Int)(p f:Int)(it:aT)(h:qA it):dQ (aD p (it,dc sh it,f,f+kU (dc sh it)))=aE sh p f (iT it):=by
 have tt:=qd sh it h
 have sp:dQ (cV (cJ (qg 0 (p-f) 0 (dc sh it))))=(aU sh (iT it)).take (p-f).toNat:=by
  rw[uh,uL _ _ _ (zc sh it h),oU sh it h];rfl
 unfold aD;show dQ (if f+kU (dc sh it)<=p then [it] else if p<=f then [] else cV (cJ (qg 0 (p-f) 0 (dc sh it))))=_;rw[tt]
 cases it with
 | win n =>
  have e1:aU sh (iT (.win n))=aZ sh (-1-n):=by show aU sh [-1-n]=_;rw[ck];simp[aU]
  rw[e1]at sp ⊢;show _=aE sh p f [-1-n];rw[aE,aE,kW];split
  ·rfl
  ·split
   ·rfl
   ·exact sp
 | aS a b =>
  have e1:aU sh (iT (.aS a b))=run a (b-a).toNat:=qV sh _ _ h.1;rw[e1]at sp ⊢;show _=aE sh p f (run a (b-a).toNat);rw[QI sh p _ _ _ h.1];have rl:=jN a (b-a).toNat;split
  ·rename_i c;rw[qb,xP (by omega)];rfl
  ·split
   ·rename_i c;rw[show (p-f).toNat=0 by omega];rfl
   ·exact sp
theorem ZV(sh:Int->List Int)(p f:Int)(it:aT)(h:qA it):dQ (bD p (it,dc sh it,f,f+kU (dc sh it)))=bE sh p f (iT it):=by
 have tt:=qd sh it h
 have sp:dQ (cV (cJ (qg (p-f) (f+kU (dc sh it)-f) 0 (dc sh it))))=(aU sh (iT it)).drop (p-f).toNat:=by
  rw[uh,uL _ _ _ (zc sh it h),oU sh it h,xP (by rw[tt];omega)]
 unfold bD;show dQ (if f+kU (dc sh it)<=p then [] else if p<=f then [it] else cV (cJ (qg (p-f) (f+kU (dc sh it)-f) 0 (dc sh it))))=_;have c1:(f+kU (dc sh it)<=p)=(f+(aU sh (iT it)).length<=p):=by rw[tt]
 simp only[c1]
 cases it with
 | win n =>
  have e1:aU sh (iT (.win n))=aZ sh (-1-n):=by show aU sh [-1-n]=_;rw[ck];simp[aU]
  rw[e1]at sp ⊢;show _=bE sh p f [-1-n];rw[bE,bE,kW];split
  ·rfl
  ·split
   ·rfl
   ·exact sp
 | aS a b =>
  have e1:aU sh (iT (.aS a b))=run a (b-a).toNat:=qV sh _ _ h.1;rw[e1]at sp ⊢;show _=bE sh p f (run a (b-a).toNat);rw[QJ sh p _ _ _ h.1];have rl:=jN a (b-a).toNat;split
  ·rename_i c;rw[BR (by omega)];rfl
  ·split
   ·rename_i c;rw[qb,show (p-f).toNat=0 by omega];rfl
   ·exact sp
theorem Io(sh:Int->List Int)(p:Int):∀ (aP:List aT) (f:Int),iX aP->dQ ((b8 sh f aP).flatMap (aD p))=aE sh p f (dQ aP)
 | [],f,_=>rfl
 | it::r,f,h=>by
  have h1:=h it (by simp);rw[b8,mZ,iF,ZU sh p f it h1,Io sh p r _ λi hi=>h i (sF _ hi)];have e:dQ (it::r)=iT it++dQ r:=by unfold dQ;rw[mZ]
  rw[e,Ag,qd sh it h1]
theorem E8(sh:Int->List Int)(p:Int):∀ (aP:List aT) (f:Int),iX aP->dQ ((b8 sh f aP).flatMap (bD p))=bE sh p f (dQ aP)
 | [],f,_=>rfl
 | it::r,f,h=>by
  have h1:=h it (by simp);rw[b8,mZ,iF,ZV sh p f it h1,E8 sh p r _ λi hi=>h i (sF _ hi)];have e:dQ (it::r)=iT it++dQ r:=by unfold dQ;rw[mZ]
  rw[e,Ah,qd sh it h1]
def T6(sh:Int->List Int)(aP:List aT):Prop:=∀ n,aT.win n∈aP->∀ x∈sh n,0<=x
theorem T7(sh:Int->List Int)(it:aT)(h:qA it)(g:∀ n,it=.win n->∀ x∈sh n,0<=x):qy (dc sh it):=by
 cases it with
 | win n=>exact (EZ (g n rfl)).nn
 | aS a b =>
  intro q hq;have:q=(a,b):=by simpa [dc,vg] using hq
  subst this;exact⟨h.1,by have:=h.2;show a<=b;omega⟩
theorem BN(sh:Int->List Int):∀ (aP:List aT) (f:Int),iX aP->T6 sh aP->∀ d∈b8 sh f aP,qA d.1/\qy d.2.1
 | [],_,_,_=>λd hd=>by cases hd
 | it::r,f,h,g=>by
  intro d hd;rw[b8]at hd;rcases List.mem_cons.mp hd with rfl|z
  ·exact⟨h it (by simp),T7 sh it (h it (by simp)) λn e=>g n (by rw[e];simp)⟩
  ·exact BN sh r _ (λi hi=>h i (sF _ hi)) (λn hn=>g n (sF _ hn)) d z
theorem CQ{a b:Int}{r:Row}(h:qy r):iX (cV (cJ (qg a b 0 r))):=za (uf (CF a b r 0 h))
theorem ZW{p:Int}{d:sI}(h:qA d.1)(g:qy d.2.1):iX (aD p d):=by
 unfold aD;split
 ·exact iX.one h
 ·split
  ·exact λi hi=>by cases hi
  ·exact CQ g
theorem ZX{p:Int}{d:sI}(h:qA d.1)(g:qy d.2.1):iX (bD p d):=by
 unfold bD;split
 ·exact λi hi=>by cases hi
 ·split
  ·exact iX.one h
  ·exact CQ g
theorem zd{g:sI->List aT}{l:List sI}(h:∀ d∈l,iX (g d)):iX (l.flatMap g):=λit hm=>by
 obtain⟨d,hd,hm⟩:=List.mem_flatMap.mp hm;exact h d hd it hm
theorem BO(r:Row):(cV r).length=r.length:=by unfold cV;rw[cS]
theorem wR(a b:Int)(r:Row):(cV (cJ (qg a b 0 r))).length<=r.length:=by
 rw[BO];exact lS (qU _) (oS a b r 0)
theorem CU(sh:Int->List Int){g:sI->List aT}(hg:∀ d,(g d).length<=d.2.1.length+1):∀ (aP:List aT) (f:Int),((b8 sh f aP).flatMap g).length<=(bw sh aP).length+aP.length
 | [],_=>by simp[b8]
 | it::r,f=>by
  rw[b8,mZ,dX];have a:=hg (it,dc sh it,f,f+kU (dc sh it));have b:=CU sh hg r (f+kU (dc sh it));have e:bw sh (it::r)=dc sh it++bw sh r:=by unfold bw;rw[mZ];rfl
  rw[e,dX,qC];simp only at a;omega
theorem Xj(p:Int)(d:sI):(aD p d).length<=d.2.1.length+1:=by
 unfold aD;split
 ·simp
 ·split
  ·simp
  ·exact lS (wR _ _ _) (by omega)
theorem Xk(p:Int)(d:sI):(bD p d).length<=d.2.1.length+1:=by
 unfold bD;split
 ·simp
 ·split
  ·simp
  ·exact lS (wR _ _ _) (by omega)
theorem lH{α β:Type}(g:α->List β)(l:List α)(i:Nat):((l.take i).flatMap g).length<=(l.flatMap g).length:=by
 have e:l.flatMap g=(l.take i).flatMap g++(l.drop i).flatMap g:=by rw[← List.flatMap_append,List.take_append_drop]
 rw[e,dX];omega
theorem wU{α β:Type}(g:α->List β){l:List α}{i:Nat}{a:α}(h:l[i]?=some a):(l.take (i+1)).flatMap g=(l.take i).flatMap g++g a:=by
 rw[take_snoc h,List.flatMap_append];simp
theorem ze(sh:Int->List Int){aP:List aT}{it:aT}(h:it∈aP):(dc sh it).length<=(bw sh aP).length:=by
 obtain⟨a,b,rfl⟩:=List.append_of_mem h;rw[gP];have e:bw sh (it::b)=dc sh it++bw sh b:=by unfold bw;rw[mZ];rfl
 rw[e,dX,dX];omega
def Mh(A B:Addr)(H H':Hp):Prop:=∀ a o,H a=some o->a≠A->a≠B->H' a=some o
theorem Mh.tup{A B:Addr}{H H':Hp}{xs ys:List V}(k:Mh A B H H')(hA:H A=some (.lst xs))(hB:H B=some (.lst ys)):∀ a zs,H a=some (.tup zs)->H' a=some (.tup zs):=λa zs h=>k a _ h (λz=>by
 rw[z,hA]at h;cases h) (λz=>by
 rw[z,hB]at h
 cases h)
theorem cZ.tups{H H':Hp}{v:V}{it:aT}(t:∀ a xs,H a=some (.tup xs)->H' a=some (.tup xs)):cZ H v it->cZ H' v it:=λ⟨a,e,h⟩=>⟨a,e,t a _ h⟩
theorem rV.Vi{N:Addr->Prop}{A B:Addr}{H H':Hp}{v:V}{d:sI}{xs ys:List V}(hA:H A=some (.lst xs))(hB:H B=some (.lst ys))(n:∀ a,N a->a≠A/\a≠B)(k:Mh A B H H'):rV N H v d->rV N H' v d:=λ⟨a,ra,x,e,h,i,⟨as,hr,hp⟩,hn⟩ =>
 ⟨a,ra,x,e,k.tup hA hB _ _ h,i.tups (k.tup hA hB),⟨as,k _ _ hr (n ra hn).1 (n ra hn).2,hp.tups (k.tup hA hB)⟩,hn⟩
theorem cj.app{α β:Type}{R:α->β->Prop}{as cs:List α}{bs ds:List β}(h:cj R as bs)(t:cj R cs ds):cj R (as++cs) (bs++ds):=by
 induction h with
 | nil=>exact t
 | cons e _ ih=>exact .cons e ih
structure qB(H1:Hp)(A B:Addr)(l1 l2:List aT)(H2:Hp):Prop where
 a:∃ vs,H2 A=some (.lst vs)/\cj (cZ H2) vs l1
 b:∃ vs,H2 B=some (.lst vs)/\cj (cZ H2) vs l2
 k:Mh A B H1 H2
theorem qB.same{H1 H2 H3:Hp}{A B:Addr}{l1 l2:List aT}(p:qB H1 A B l1 l2 H2)(s:aG H2 H3):qB H1 A B l1 l2 H3:=by
 obtain⟨⟨v1,h1,t1⟩,⟨v2,h2,t2⟩,k⟩:=p;exact⟨⟨v1,s _ _ h1,t1.mono λ_ _ h=>h.same s⟩,⟨v2,s _ _ h2,t2.mono λ_ _ h=>h.same s⟩,λa o e n m=>s _ _ (k a o e n m)⟩
theorem qB.Mi{H1 H2:Hp}{A B:Addr}{l1 l2 l3:List aT}{v1 v3:List V}(p:qB H1 A B l1 l2 H2)(n:A≠B)(h1:H2 A=some (.lst v1))(t3:cj (cZ H2) v3 l3):qB H1 A B (l1++l3) l2 (aQ H2 A (.lst (v1++v3))):=by
 obtain⟨⟨v1',h1',t1⟩,⟨v2,h2,t2⟩,k⟩:=p;rw[h1]at h1';cases h1';have kp:∀ v i,cZ H2 v i->cZ (aQ H2 A (.lst (v1++v3))) v i:=λv i h=>h.keep h1 (aN A _ _);refine⟨⟨_,af,(t1.mono kp).app (t3.mono kp)⟩,⟨v2,by rw[aL n.symm];exact h2,t2.mono kp⟩,λa o e m1 m2=>?_⟩;rw[aL m1];exact k a o e m1 m2
theorem qB.Mj{H1 H2:Hp}{A B:Addr}{l1 l2 l3:List aT}{v2 v3:List V}(p:qB H1 A B l1 l2 H2)(n:A≠B)(h2:H2 B=some (.lst v2))(t3:cj (cZ H2) v3 l3):qB H1 A B l1 (l2++l3) (aQ H2 B (.lst (v2++v3))):=by
 obtain⟨⟨v1,h1,t1⟩,⟨v2',h2',t2⟩,k⟩:=p;rw[h2]at h2';cases h2';have kp:∀ v i,cZ H2 v i->cZ (aQ H2 B (.lst (v2++v3))) v i:=λv i h=>h.keep h2 (aN B _ _);refine⟨⟨v1,by rw[aL n];exact h1,t1.mono kp⟩,⟨_,af,(t2.mono kp).app (t3.mono kp)⟩,λa o e m1 m2=>?_⟩;rw[aL m2];exact k a o e m1 m2
theorem um{rows:dM}{sh:Int->List Int}(ux:jw rows)(Ac:DR rows)(AN:qz rows sh):∀ x:Int,0<=x->x<rows.length->∀ y∈sh x,0<=y:=by
 obtain⟨rk,hb,hd⟩:=Ac
 have key:∀ (k:Nat) (x:Int),rk x<k->0<=x->x<rows.length->∀ y∈sh x,0<=y:=by
  intro k
  induction k with
  | zero=>intro x h;omega
  | succ k ih =>
   intro x hx x0 x1 y hy;have he:rows[x.toNat]?=some rows[x.toNat]:=oJ (by omega);rw[AN x _ x0 he]at hy;unfold aU at hy;obtain⟨e,hm,hy⟩:=List.mem_flatMap.mp hy;unfold aZ at hy;by_cases c:e<0
   ·rw[if_pos c]at hy;have nx:nJ rows x (-1-e):=⟨x0,_,he,b9.mpr ⟨by omega,by rw[show -1-(-1-e)=e by omega];exact hm⟩⟩;obtain⟨a,b⟩:=ux.FZ nx;have:=hd _ _ nx;exact ih _ (by omega) a b y hy
   ·rw[if_neg c]at hy;rw[List.mem_singleton.mp hy];omega
 exact λx=>key (rk x+1) x (Nat.lt_succ_self _)
theorem wV{rows:dM}{s n:Int}{es:List Int}(h0:0<=s)(he:rows[s.toNat]?=some es)(h:aT.win n∈aI es):nJ rows s n:=by
 refine⟨h0,es,he,?_⟩;rw[← lF];unfold ig;rw[List.mem_filterMap];exact⟨.win n,h,rfl⟩
structure uQ(H:Hp)(r:Addr)(rows:dM)(sh:Int->List Int):Prop where
 at_:jc H r (rows.map aI)
 len:rows.length<=1000
 ents:∀ es∈rows,es.length<=1000
 snd:jw rows
 rk:DR rows
 QL:qz rows sh
 bd:∀ x:Int,0<=x->x<rows.length->(sh x).length<=10000
theorem uQ.same{H H':Hp}{r:Addr}{rows:dM}{sh:Int->List Int}(s:aG H H')(h:uQ H r rows sh):uQ H' r rows sh:={ h with at_:=h.at_.same s }
structure ZY(H:Hp)(r:Addr)(rows:dM)(sh:Int->List Int)(s:Int)(es:List Int)(Be:List V)(b:Addr):Prop where
 he:rows[s.toNat]?=some es
 hr:H r=some (.lst Be)
 ix:wC Be s=some (.ref b)
 it:bL H (.ref b) (aI es)
 il:(aI es).length<=1000
 rl:(bw sh (aI es)).length<=10000
 tt:kU (cU (sh s))=(sh s).length
 se:sh s=aU sh es
theorem uQ.one{H:Hp}{r:Addr}{rows:dM}{sh:Int->List Int}{s:Int}(h:uQ H r rows sh)(h0:0<=s)(h1:s<rows.length):∃ es Be b,ZY H r rows sh s es Be b:=by
 have iy:rows[s.toNat]?=some rows[s.toNat]:=oJ (by omega);obtain⟨Be,Mc,yX⟩:=h.at_;obtain⟨vi,F7,hI⟩:=yX.get' (i:=s.toNat) (b:=aI rows[s.toNat]) (by rw[j3,iy];rfl);obtain⟨b,RY,rfl,hb,xX⟩:=id hI;have z:=gH F7;rw[show ((s.toNat:Nat):Int)=s by omega]at z;have hil:=ue rows[s.toNat] [];have hel:=h.ents _ (vn iy);obtain⟨JY,hok⟩:=CP sh rows[s.toNat];have se:=h.QL s _ h0 iy;refine⟨_,Be,b,iy,Mc,z,hI,?_,?_,?_,se⟩
 ·show (rows[s.toNat].foldl bq []).length<=_;simp only[uA]at hil;omega
 ·have q:=ye sh (aI rows[s.toNat]) hok;rw[JY,← se]at q;have:=h.bd s h0 h1;omega
 ·rw[← wI _ (ua _),jH]
theorem m6.small{i:Int}(h0:0<=i)(h1:i<=10000):m6 i:=by
 have a:(0:Int)<10^60:=by decide
 have b:(10000:Int)<10^60:=by decide
 exact⟨by omega,by omega⟩
theorem qW(ns:List Int):(cU ns).length<=ns.length:=by
 have z:=Cr ns [];simpa [cU] using z
def iU(sh:Int->List Int)(p:Int)(es new:List Int):List Int:=if new=[] then es else aE sh p 0 es++new++bE sh p 0 es
inductive Ge(vs:List V)(H:Hp)(Q:VK)(E:XK):Prop
 | mk (r S:Addr) (aP:List aT) (kvs:List (iz × V)) (sh:Int->List Int) (N:Addr->Prop) (_:vs=[.ref r,.ref S]) (_:bL H (.ref r) aP) (_:H S=some (.dK kvs)) (_:Af H kvs sh aP) (_:aP.length<=100000) (_:(∀ it∈aP,(dc sh it).length<=100000)) (_:(∀ n a,aT.win n∈aP->cW kvs (Sum.inl n)=some (.ref a)->N a)) (_:(∀ a,H a=none->N a)) (_ :
 ∀ (o:Addr) (FY:List V) (H':Hp),H' o=some (.lst FY)->cj (rV N H') FY (b8 sh 0 aP)->aG H H'->H o=none->Q (.ref o) H')
theorem uR:aJ ["items","views","told","first","item","row","last"] ["items","views"] (aA uE):=jd
theorem Ip{f:Addr}(F:iK K "dealt" "dealt" uE f fd)(T:nL mg)(cA:aF K mg "item_row" gY yz fI BL)(iE:aF K mg "size" sL iH fZ Yh):aC P w K mg base bZ 2 f fd Fy Ge:=by
 have Ae:aC P w K mg base bZ 1 fI BL yz Ad:=AW cA.F T;have E2:aC P w K mg base bZ 1 fZ Yh iH FP:=F5 iE.F T;refine lW F uR λdJ A outer s H vs Q E hr h=>?_;obtain⟨r,S,aP,kvs,sh,N,rfl,⟨r',RY,e,hr1,xX⟩,hS,hW,eN,hrl,nW,nN,k⟩:=h;cases e;refine⟨_,(aj (bx (i:=2) uR.nd (bQ ah)) (aj (bx (i:=3) uR.nd ay) (aj (gz PassesOwn.never rfl (cX (pv 0)) (cE (i:=4) uR.nd) (aj (bx (i:=5) uR.nd (aK cA Ae hr (aa (pv 4) (aa (pv 1) ah)))) (aj (bx (i:=6) uR.nd (bC gj (pv 3) (iP.uN iE (T.pH _ iE.m) E2 hr (aa (pv 5) ah)))) (aj (bf (gV vE qj qm cy (pv 2) (aa (dH (aa (pv 4) (aa (pv 5) (aa (pv 3) (aa (pv 6) ah))))) ah))) (au (bx (i:=3) uR.nd (pv 6))))))) (au (aO (pv 2)))))),?_⟩;refine⟨mj,λq hq=>?_⟩;have s0:aG H (aQ H q (.lst [])):=ak hq _;refine⟨_,rfl,r,rfl,⟨_,bR.of (s0 _ _ hr1)⟩,eS (K:=K) (a:=r) (xs:=RY) (λi σ H2=>∃ (vs:List V) (u1 u2 u3:Option V),σ=[some (.ref r),some (.ref S),some (.ref q),some (.int (0+kU (bw sh (aP.take i)))),u1,u2,u3]/\H2 q=some (.lst vs)/\cj (rV (λa=>N a/\a≠q) H2) vs (b8 sh 0 (aP.take i))/\aG H H2) ⟨[],none,none,none,rfl,af,.nil,s0⟩ (by rintro i σ H2 _ ⟨_,_,_,_,_,_,_,s⟩;exact bR.of (s _ _ hr1)) ?_ ?_⟩
 ·rintro i x σ H2 hi ⟨vs,u1,u2,u3,rfl,gy,hb,s⟩;obtain⟨it,ei,hiv⟩:=xX.get hi;have im:=vn ei;have bl:=hb.len;rw[E7,jK]at bl;refine⟨_,rfl,_,rfl,x,it,S,kvs,λn=>cU (sh n),rfl,hiv.same s,s _ _ hS,λn hn=>(hW.same s) n (by rw[← hn];exact im),λa H3 R3 s3 w3=>?_⟩
  have na:N a/\a≠q:=by
   rcases w3 with ⟨n,rfl,hv⟩|h0
   ·refine⟨nW n a im hv,?_⟩;obtain⟨b,Mb,⟨as,Xl,_⟩⟩:=hW n im;rw[hv]at Mb;cases Mb;exact az Xl hq
   ·exact⟨nN a (aY s h0),(az gy h0).symm⟩
  refine⟨_,rfl,_,rfl,a,dc sh it,rfl,R3,lS (hrl it im) (by decide),λH4 s4=>⟨_,_,rfl,rfl,?_⟩⟩;have T8:=s4 _ _ (s3 _ _ gy);refine⟨_,rfl,.inl ⟨rfl,_,bR.of T8⟩,_,rfl,_,rfl,_,rfl,_,rfl,F2,λt ht=>?_⟩;have ZZ:=ak ht (.tup [x,.ref a,.int (0+kU (bw sh (aP.take i))),.int (0+kU (bw sh (aP.take i))+kU (dc sh it))]) _ _ T8;refine⟨q,_,_,rfl,rfl,ZZ,aX (by omega),?_⟩;refine⟨_,rfl,_,some x,some (.ref a),some (.int (0+kU (bw sh (aP.take i))+kU (dc sh it))),?_,af,?_,bV hq (s.trans (s3.trans (s4.trans (ak ht _)))) (aN q _ _)⟩
  ·have e:bw sh (aP.take (i+1))=bw sh (aP.take i)++dc sh it:=by rw[take_snoc ei,gP,mT];rfl
   rw[e,Cm,← Int.add_assoc];rfl
  ·have e:b8 sh 0 (aP.take (i+1))=b8 sh 0 (aP.take i)++[(it,dc sh it,0+kU (bw sh (aP.take i)),0+kU (bw sh (aP.take i))+kU (dc sh it))]:=by rw[take_snoc ei,zb];rfl
   rw[e];have WO:t≠q:=(az T8 ht).symm;refine cj.snoc (hb.mono λv d h=>(((h.same s3).same s4).same (ak ht _)).keep ZZ (λa h=>h.2) (aN q _ _)) ⟨t,a,x,rfl,?_,?_,?_,na⟩
   ·rw[aL WO,af]
   ·exact ((((hiv.same s).same s3).same s4).same (ak ht _)).keep ZZ (aN q _ _)
   ·exact (((R3.same s4).same (ak ht _))).keep ZZ na.2 (aN q _ _)
 ·rintro σ H2 ⟨vs,u1,u2,u3,rfl,gy,hb,s⟩;rw[xX.len,lR]at hb;exact⟨_,rfl,k q vs H2 gy (hb.mono λv d ⟨a,ra,x,e,h,i,r,n⟩=>⟨a,ra,x,e,h,i,r,n.1⟩) s hq⟩
inductive yf(vs:List V)(H:Hp)(Q:VK)(E:XK):Prop
 | mk (r S o:Addr) (p:Int) (aP Oz:List aT) (kvs:List (iz × V)) (sh:Int->List Int) (_:vs=[.ref r,.ref S,.int p,.ref o]) (_:bL H (.ref r) aP) (_:H S=some (.dK kvs)) (_:Af H kvs sh aP) (_:bL H (.ref o) Oz) (_:iX aP) (_:iX Oz) (_:T6 sh aP) (_:aP.length<=50000) (_:(bw sh aP).length<=50000) (_:Oz.length<=50000) (_ :
 ∀ (q:Addr) (H':Hp),bL H' (.ref q) (aI (aE sh p 0 (dQ aP)++dQ Oz++bE sh p 0 (dQ aP)))->aG H H'->H q=none->Q (.ref q) H')
theorem jh:aJ ["items","views","place","others","ahead","behind","item","row","first","last"] ["items","views","place","others"] (aA oO):=jd
theorem zf{f fS:Addr}(F:iK K "put_among" "put_among" oO f fd)(T:nL mg)(cA:aF K mg "item_row" gY yz fI BL)(iE:aF K mg "size" sL iH fZ Yh)(eK:aF K mg "plain" mL iH fP NT)(gZ:aF K mg "pieces" o7 pQ fS RX)(jg:aF K mg "goes_on" nh G0 fG fdG)(cN:aF K mg "plain_items" jb oA fK fdK)(nV:aF K mg "dealt" uE Fy fD Z0){fN:Addr}{Z1:FuncData}(d8:aF K mg "inked" rm iH fN Z1):aC P w K mg base bZ 3 f fd MS yf:=by
 have KN:aC P w K mg base bZ 2 fD Z0 Fy Ge:=Ip nV.F T cA iE;have sV:aC P w K mg base bZ 1 fS RX pQ yO:=Aa gZ.F T;have rW:aC P w K mg base bZ 2 fN Z1 iH wO:=vR d8.F T eK;have ji:aC P w K mg base bZ 2 fK fdK oA nP:=nQ cN.F T jg;refine lW F jh λdJ A outer s H vs Q E hr h=>?_;obtain⟨r,S,o,p,aP,Oz,kvs,sh,rfl,hI,hS,hW,hO,ok1,ok2,nn,l1,l2,l3,k⟩:=h;refine⟨_,(aj (bx (i:=4) jh.nd (bQ ah)) (aj (bx (i:=5) jh.nd (bQ ah)) (aj (gz PassesOwn.never rfl (cX (aK nV KN hr (aa (pv 0) (aa (pv 1) ah)))) (tM (n:=4) rfl (cB (cE (i:=6) jh.nd) (cB (cE (i:=7) jh.nd) (cB (cE (i:=8) jh.nd) (cB (cE (i:=9) jh.nd) kY))))) (au (bT (bh jG (pv 9) (pv 2) (bz _)) (au (bf (gV vE qj qm cy (pv 4) (aa (pv 6) ah)))) (au (bT (bh jG (pv 2) (pv 8) (bz _)) (au (bf (gV vE qj qm cy (pv 5) (aa (pv 6) ah)))) (aj (zE (i:=4) jh.nd rfl (Or.inl rfl) (aK d8 rW hr (aa (aK gZ sV hr (aa (pv 7) (aa ay (aa (bC dm (pv 2) (pv 8)) ah)))) ah)) zZ) (au (zE (i:=5) jh.nd rfl (Or.inl rfl) (aK d8 rW hr (aa (aK gZ sV hr (aa (pv 7) (aa (bC dm (pv 2) (pv 8)) (aa (bC dm (pv 9) (pv 8)) ah)))) ah)) zZ)))))))) (au (aO (aK cN ji hr (aa (bC ng (bC ng (pv 4) (pv 3)) (pv 5)) ah))))))),?_⟩;refine⟨mj,λA hA=>⟨mj,λB hB=>?_⟩⟩;have sA:aG H (aQ H A (.lst [])):=ak hA _;have sB:aG _ (aQ (aQ H A (.lst [])) B (.lst [])):=ak hB _;have s0:=sA.trans sB;have DC:A≠B:=az af hB;have OB:=aY sA hB;refine⟨_,rfl,_,rfl,r,S,aP,kvs,sh,λa=>a≠A/\a≠B,rfl,hI.same s0,s0 _ _ hS,hW.same s0,by omega,(λit hi=>by have:=ze sh hi;omega),?_,?_,λD dv H1 hD S9 s1 _=>?_⟩
 ·intro n a hn hv;obtain⟨b,e,as,hb,_⟩:=hW n hn;rw[hv]at e;cases e;exact⟨az hb hA,az hb OB⟩
 ·intro a ha;exact⟨(az (sB _ _ af) ha).symm,(az af ha).symm⟩
 have Z2:=s1 _ _ (sB _ _ (af (H:=H) (a:=A) (o:=.lst [])));have Z3:=s1 _ _ (af (H:=aQ H A (.lst [])) (a:=B) (o:=.lst []))
 have nD:D≠A/\D≠B:=by
  rename_i Z4;exact⟨(az (sB _ _ af) Z4).symm,(az af Z4).symm⟩
 have adq:=CU sh (Xj p) aP 0;have ads:=CU sh (Xk p) aP 0;have OC:=BN sh aP 0 ok1 nn;refine⟨D,rfl,⟨_,bR.of hD⟩,eS (K:=K) (a:=D) (xs:=dv) (λi σ H2=>∃ u1 u2 u3 u4:Option V,σ=[some (.ref r),some (.ref S),some (.int p),some (.ref o),some (.ref A),some (.ref B),u1,u2,u3,u4]/\qB H1 A B (((b8 sh 0 aP).take i).flatMap (aD p)) (((b8 sh 0 aP).take i).flatMap (bD p)) H2) ⟨none,none,none,none,rfl,⟨_,Z2,.nil⟩,⟨_,Z3,.nil⟩,λ_ _ e _ _=>e⟩ (by rintro i σ H2 _ ⟨_,_,_,_,_,pv⟩;exact bR.of (pv.k _ _ hD nD.1 nD.2)) ?_ ?_⟩
 ·rintro i x σ H2 hi ⟨u1,u2,u3,u4,rfl,pv⟩;obtain⟨d,ed,NK⟩:=S9.get hi;have hd2:=NK.Vi Z2 Z3 (λa h=>h) pv.k;obtain⟨a,ra,xi,rfl,hta,hxi,Yi,nra⟩:=hd2;have eA:=wU (aD p) ed;have eB:=wU (bD p) ed;have bA:=lH (aD p) (b8 sh 0 aP) i;have bB:=lH (bD p) (b8 sh 0 aP) i;have bA1:=lH (aD p) (b8 sh 0 aP) (i+1);have bB1:=lH (bD p) (b8 sh 0 aP) (i+1);obtain⟨v1,hv1,t1⟩:=pv.a;obtain⟨v2,hv2,t2⟩:=pv.b;have z1:=t1.len;have z2:=t2.len;obtain⟨it,row,fi,la⟩:=d
  have rl:row.length<=50000:=by
   have z:=vn ed
   have:∃ Tj∈aP,row=dc sh Tj:=by
    have q:∀ (aP:List aT) (f:Int),(it,row,fi,la)∈b8 sh f aP->∃ Tj∈aP,row=dc sh Tj:=by
     intro aP
     induction aP with
     | nil=>intro f h;cases h
     | cons i0 r0 ih =>
      intro f h;rw[b8]at h;rcases List.mem_cons.mp h with e|e
      ·cases e;exact⟨it,by simp,rfl⟩
      ·obtain⟨i1,m1,e1⟩:=ih _ e;exact⟨i1,sF _ m1,e1⟩
    exact q aP 0 z
   obtain⟨i1,m1,rfl⟩:=this;have:=ze sh m1;omega
  refine⟨a,_,rfl,ef.of hta,rfl,_,_,rfl,_,_,rfl,_,_,rfl,_,_,rfl,rfl,?_⟩;refine⟨_,rfl,_,rfl,_,_,rfl,rfl,_,rfl,dO (λc=>?_) (λc=>?_)⟩
  ·have c':la<=p:=of_decide_eq_true c;refine⟨_,rfl,.inl ⟨rfl,_,bR.of hv1⟩,_,rfl,A,_,_,rfl,rfl,hv1,aX (by omega),?_⟩;refine⟨_,_,_,_,rfl,?_⟩;rw[eA,eB];have e1:aD p (it,row,fi,la)=[it]:=by unfold aD;rw[if_pos c']
   have e2:bD p (it,row,fi,la)=[]:=by unfold bD;rw[if_pos c']
   rw[e1,e2,kW];exact pv.Mi DC hv1 (.cons hxi .nil)
  ·have c':¬ la<=p:=λz=>c (decide_eq_true z);refine⟨_,rfl,_,rfl,_,_,rfl,rfl,_,rfl,dO (λc2=>?_) (λc2=>?_)⟩
   ·have Oa:p<=fi:=of_decide_eq_true c2;refine⟨_,rfl,.inl ⟨rfl,_,bR.of hv2⟩,_,rfl,B,_,_,rfl,rfl,hv2,aX (by omega),?_⟩;refine⟨_,_,_,_,rfl,?_⟩;rw[eA,eB];have e1:aD p (it,row,fi,la)=[]:=by unfold aD;rw[if_neg c',if_pos Oa]
    have e2:bD p (it,row,fi,la)=[it]:=by unfold bD;rw[if_neg c',if_pos Oa]
    rw[e1,e2,kW];exact pv.Mj DC hv2 (.cons hxi .nil)
   ·have Oa:¬ p<=fi:=λz=>c2 (decide_eq_true z);have e1:aD p (it,row,fi,la)=cV (cJ (qg 0 (p-fi) 0 row)):=by unfold aD;rw[if_neg c',if_neg Oa]
    have e2:bD p (it,row,fi,la)=cV (cJ (qg (p-fi) (la-fi) 0 row)):=by unfold bD;rw[if_neg c',if_neg Oa]
    rw[eA,e1,dX]at bA1;rw[eB,e2,dX]at bB1;refine⟨_,rfl,_,rfl,_,rfl,_,rfl,_,_,rfl,rfl,ra,row,0,p-fi,rfl,Yi,by omega,λq1 H3 R3 s3 T9=>⟨q1,_,rfl,R3,lS (oS _ _ _ _) (by omega),λq2 H4 I4 s4 gy=>?_⟩⟩;obtain⟨q2',v3,e3,h3,t3⟩:=I4;cases e3;have z3:=t3.len;have Ob:=s4 _ _ (s3 _ _ hv1);refine⟨A,q2,_,_,rfl,rfl,Ob,h3,kX (aX (by omega)),?_⟩;have pv5:=((pv.same s3).same s4).Mi DC Ob t3;have ady:cL (aQ H4 A (.lst (v1++v3))) ra row:=((Yi.same s3).same s4).keep Ob nra.1 (aN A _ _);have adz:(aQ H4 A (.lst (v1++v3))) B=some (.lst v2):=by rw[aL DC.symm];exact s4 _ _ (s3 _ _ hv2)
    refine⟨_,rfl,_,rfl,_,rfl,_,rfl,_,_,rfl,rfl,_,rfl,_,rfl,_,_,rfl,rfl,ra,row,p-fi,la-fi,rfl,ady,by omega,λq3 H6 R6 s6 JE=>⟨q3,_,rfl,R6,lS (oS _ _ _ _) (by omega),λq4 H7 I7 s7 T8=>?_⟩⟩;obtain⟨q4',v4,e4,h4,t4⟩:=I7;cases e4;have z4:=t4.len;have Vj:=s7 _ _ (s6 _ _ adz);refine⟨B,q4,_,_,rfl,rfl,Vj,h4,kX (aX (by omega)),?_⟩;refine⟨_,_,_,_,rfl,?_⟩;rw[eA,eB,e1,e2];exact ((pv5.same s6).same s7).Mj DC Vj t4
 ·rintro σ H2 ⟨u1,u2,u3,u4,rfl,pv⟩;have dl:=S9.len;rw[dl,lR]at pv;obtain⟨v1,hv1,t1⟩:=pv.a;obtain⟨v2,hv2,t2⟩:=pv.b;have z1:=t1.len;have z2:=t2.len;have sm:aG H H2:=λa ob e=>pv.k a ob (s1 _ _ (s0 _ _ e)) (az e hA) (az e OB);obtain⟨o',v3,e3,h3,t3⟩:=hO.same sm;cases e3;have z3:=t3.len;refine⟨_,rfl,_,rfl,A,o,_,_,rfl,rfl,hv1,h3,kX (aX (by omega)),λc1 Yd=>?_⟩;have n1:aG H2 (aQ H2 c1 (.lst (v1++v3))):=ak Yd _;refine⟨_,rfl,c1,B,_,_,rfl,rfl,af,n1 _ _ hv2,kX (aX (by rw[dX];omega)),λc2 Xm=>?_⟩;have n2:aG _ (aQ (aQ H2 c1 (.lst (v1++v3))) c2 (.lst (v1++v3++v2))):=ak Xm _;have WN:=n1.trans n2;refine⟨c2,_,rfl,⟨c2,_,rfl,af,((t1.app t3).app t2).mono λv i h=>h.same WN⟩,by rw[dX,dX];omega,λq H9 I9 s9 hq9=>?_⟩;have okA:iX ((b8 sh 0 aP).flatMap (aD p)):=zd λd hd=>ZW (OC d hd).1 (OC d hd).2;have okB:iX ((b8 sh 0 aP).flatMap (bD p)):=zd λd hd=>ZX (OC d hd).1 (OC d hd).2;rw[qc _ ((okA.append ok2).append okB),iF,iF,Io sh p aP 0 ok1,E8 sh p aP 0 ok1]at I9;exact k q H9 I9 (sm.trans (WN.trans s9)) (aY (sm.trans WN) hq9)
inductive rX(C:Addr)(vs:List V)(H:Hp)(Q:VK)(E:XK):Prop
 | mk (r o:Addr) (rows:dM) (s p:Int) (aP:List aT) (sh:Int->List Int) (_:vs=[.ref r,.int s,.int p,.ref o]) (_:uQ H r rows sh) (_:0<=s) (_:s<rows.length) (_:bL H (.ref o) aP) (_:iX aP) (_:aP.length<=10000) (_:m6 p) (_:(0<=p/\p<=(sh s).length->∀ (es:List Int) (q:Addr) (H':Hp),rows[s.toNat]?=some es->bL H' (.ref q) (aI (iU sh p es (dQ aP)))->aG H H'->H q=none->Q (.ref q) H')) (_:(¬ (0<=p/\p<=(sh s).length)->∀ H',aG H H'->E (.ref C) none H'))
theorem QM{aP:List aT}(h:iX aP):dQ aP=[]↔aP=[]:=by
 refine⟨λe=>?_,λe=>by rw[e];rfl⟩
 cases aP with
 | nil=>rfl
 | cons it r =>
  have e1:dQ (it::r)=iT it++dQ r:=by unfold dQ;rw[mZ]
  rw[e1]at e;have e2:=(List.append_eq_nil_iff.mp e).1
  cases it with
  | win n=>cases e2
  | aS a b =>
   have ab:a<b:=(h (.aS a b) (by simp)).2;have:=jN a (b-a).toNat;have e3:run a (b-a).toNat=[]:=e2;rw[e3]at this;simp only[uA]at this;omega
theorem AX:aJ ["rows","sheet","place","items","views"] ["rows","sheet","place","items"] (aA uF):=jd
theorem uS{f fp fs fn:Addr}(F:iK K "put_items" "put_items" uF f fd)(T:nL mg)(Z:Ct K mg C)
  (cC:aF K mg "windows" eT oA fw gw) (iR:aF K mg "below" lU lQ fb gb) (cA:aF K mg "item_row" gY yz fi gi) (eK:aF K mg "plain" mL iH fp gp) (cM:aF K mg "views_below" eU lQ fv gv) (iE:aF K mg "size" sL iH fs gs) (cu:aF K mg "check_places" iB pQ fc gc)
  (jg:aF K mg "goes_on" nh G0 fg gg) (cN:aF K mg "plain_items" jb oA fk gk) (nV:aF K mg "dealt" uE Fy Z5 gd) (gZ:aF K mg "pieces" o7 pQ fq gq) (d8:aF K mg "inked" rm iH fn gn) (mU:aF K mg "put_among" oO MS fa ga):aC P w K mg base (lP P w) 4 f fd OR (rX C):=by
 have gJ:aC P w K mg base (lP P w) 2 _ _ pQ (wM C):=jR cu.F T Z iE;have jO:aC P w K mg base bZ 3 _ _ lQ y9:=nO cM.F T cC iR cA eK;have ji:aC P w K mg base bZ 2 _ _ oA nP:=nQ cN.F T jg;have yg:aC P w K mg base bZ 3 _ _ MS yf:=zf mU.F T cA iE eK gZ jg cN nV d8;refine DU F AX λdJ A outer s0 H vs Q E hr h=>?_;obtain⟨r,o,rows,s,p,aP,sh,rfl,R,h0,h1,hO,ok,ol,fp,k1,k2⟩:=h;have hu:=lO hr;refine⟨_,(aj (bx (i:=4) AX.nd (aK cM jO hr (aa (pv 0) (aa (bQ (aa (pv 1) ah)) ah)))) (aj (bf (nH cu gJ hr jI (aa (jQ hu (pv 4) (pv 1)) (aa (pv 2) (aa (pv 2) ah))))) (aj (bT (j5 (t6 (pv 3) (λ_=>rfl))) (au (aO (aK cN ji hr (aa (aV bP (pv 0) (pv 1)) ah)))) bu) (au (aO (aK mU yg hr (aa (aV bP (pv 0) (pv 1)) (aa (pv 4) (aa (pv 2) (aa (pv 3) ah)))))))))),?_⟩;refine⟨_,rfl,_,rfl,lX,λL hL=>?_⟩;have s1:aG H (aQ H L (.lst [.int s])):=ak hL _;refine⟨r,L,rows,[s],sh,rfl,R.at_.same s1,af,by simp,R.len,R.ents,R.snd,R.rk,(λx hx=>by rw[List.mem_singleton.mp hx];exact⟨h0,h1⟩),R.QL,R.bd,λS kvs ks H2 hS hv tp sk hn s2 hS0=>?_⟩;have Vk:=sk s (by simp);obtain⟨a,ha,Ra⟩:=hv s Vk;have z:=nI.k (k:=Sum.inl s) hS;rw[ha]at z;have rL:=s1.trans s2;have shl:=R.bd s h0 h1;have rol:=qW (sh s);obtain⟨es,Be,b,O⟩:=(R.same rL).one h0 h1;refine⟨_,rfl,_,rfl,S,_,rfl,z,_,rfl,_,rfl,a,cU (sh s),p,p,rfl,Ra,by omega,fp,fp,(by rw[O.tt];exact m6.small (by omega) (by omega)),λBK H3 s3=>?_,λBK H3 s3=>?_⟩
 ·have hp:0<=p/\p<=(sh s).length:=⟨BK.1,by rw[← O.tt];exact BK.2.2⟩;obtain⟨xq,Z6,b',O3⟩:=(R.same (rL.trans s3)).one h0 h1;have ee:es=xq:=vG (O.he.symm.trans O3.he);subst ee;have hO3:=hO.same (rL.trans s3);obtain⟨o',ovs,eo,ho,to⟩:=id hO3;cases eo;refine⟨_,rfl,!ovs.isEmpty,.inl ⟨_,bR.of ho,rfl⟩,?_⟩;have el:=to.len
  cases aP with
  | nil =>
   have:ovs=[]:=List.eq_nil_of_length_eq_zero (by simpa using el);subst this;refine j9 ?_;refine⟨_,rfl,_,rfl,r,_,_,_,rfl,rfl,bR.of O3.hr,O3.ix,b',aI es,rfl,O3.it,lS O3.il (by decide),λq H4 I4 s4 hq=>?_⟩;refine k1 hp es q H4 O.he ?_ (rL.trans (s3.trans s4)) (aY (rL.trans s3) hq);obtain⟨e1,e2⟩:=rT es;rw[qc _ e2,e1]at I4;exact I4
  | cons it r0 =>
   have:(!ovs.isEmpty)=true:=by
    cases ovs with
    | nil=>simp at el
    | cons _ _=>rfl
   rw[this];refine iI ?_;refine⟨_,rfl,_,rfl,r,_,_,_,rfl,rfl,bR.of O3.hr,O3.ix,_,rfl,_,rfl,_,rfl,b',S,o,p,aI es,it::r0,kvs,sh,rfl,O3.it,s3 _ _ hS,λn hn=>?_,hO3,(rT es).2,ok,λn hn=>?_,lS O3.il (by decide),lS O3.rl (by decide),lS ol (by decide),λq H4 I4 s4 hq=>?_⟩
   ·have nx:=wV h0 O.he hn;obtain⟨i,hi⟩:=List.getElem?_of_mem Vk;obtain⟨a2,e2,R2⟩:=hv n (List.mem_of_mem_take (tp.dn i s hi n nx));exact⟨a2,e2,R2.same s3⟩
   ·have nx:=wV h0 O.he hn;obtain⟨n0,n1⟩:=R.snd.FZ nx;exact um R.snd R.rk R.QL n n0 n1
   ·refine k1 hp es q H4 O.he ?_ (rL.trans (s3.trans s4)) (aY (rL.trans s3) hq);rw[(rT es).1]at I4;unfold iU;rw[if_neg (λz=>by cases (QM ok).mp z)];exact I4
 ·exact k2 (λhp=>BK ⟨hp.1,Int.le_refl _,by rw[O.tt];exact hp.2⟩) H3 (rL.trans s3)
def kD(a b:Int)(d:sI):List aT:=if d.2.2.2<=a\/b<=d.2.2.1 then [d.1] else if a<=d.2.2.1/\d.2.2.2<=b then [] else cV (cJ (qg 0 (a-d.2.2.1) 0 d.2.1++qg (b-d.2.2.1) (d.2.2.2-d.2.2.1) 0 d.2.1))
def tD(a b:Int)(d:sI):List aT:=if d.2.2.2<=a\/b<=d.2.2.1 then [] else if a<=d.2.2.1/\d.2.2.2<=b then [d.1] else cV (cJ (qg (a-d.2.2.1) (b-d.2.2.1) 0 d.2.1))
def Ml(sh:Int->List Int)(a b f e:Int):List Int:=if f+(aZ sh e).length<=a\/b<=f then [e] else if a<=f/\f+(aZ sh e).length<=b then [] else (aZ sh e).take (a-f).toNat++(aZ sh e).drop (b-f).toNat
def OD(sh:Int->List Int)(a b f e:Int):List Int:=if f+(aZ sh e).length<=a\/b<=f then [] else if a<=f/\f+(aZ sh e).length<=b then [e] else ((aZ sh e).take (b-f).toNat).drop (a-f).toNat
def kE(sh:Int->List Int)(a b:Int):Int->List Int->List Int
 | _,[]=>[]
 | f,e::r=>Ml sh a b f e++kE sh a b (f+(aZ sh e).length) r
def tE(sh:Int->List Int)(a b:Int):Int->List Int->List Int
 | _,[]=>[]
 | f,e::r=>OD sh a b f e++tE sh a b (f+(aZ sh e).length) r
theorem Ai(sh:Int->List Int)(a b:Int)(y:List Int):∀ (x:List Int) (f:Int),kE sh a b f (x++y)=kE sh a b f x++kE sh a b (f+(aU sh x).length) y
 | [],f=>by simp[kE,aU]
 | e::x,f=>by
  rw[List.cons_append,kE,kE,Ai sh a b y x,tX,ck,dX,Int.add_assoc]
  push_cast
  rfl
theorem Aj(sh:Int->List Int)(a b:Int)(y:List Int):∀ (x:List Int) (f:Int),tE sh a b f (x++y)=tE sh a b f x++tE sh a b (f+(aU sh x).length) y
 | [],f=>by simp[tE,aU]
 | e::x,f=>by
  rw[List.cons_append,tE,tE,Aj sh a b y x,tX,ck,dX,Int.add_assoc]
  push_cast
  rfl
theorem Yj{a f:Int}(h:f<a):(a-f).toNat=(a-(f+1)).toNat+1:=by omega
theorem QN{a f:Int}(h:a<=f):(a-f).toNat=0:=Int.toNat_of_nonpos (Int.sub_nonpos_of_le h)
theorem Z7{a f:Int}(h:a<=f):(a-(f+1)).toNat=0:=QN (Int.le_trans h (Int.le_of_lt (Int.lt_succ f)))
theorem nS{a f:Int}(h:¬ f+1<=a):a<=f:=Int.not_lt.mp h
theorem QO(sh:Int->List Int){a b:Int}(ab:a<b):∀ (n:Nat) (x f:Int),0<=x->kE sh a b f (run x n)=(run x n).take (a-f).toNat++(run x n).drop (b-f).toNat
 | 0,_,_,_=>by simp[run,kE]
 | n+1,x,f,h=>by
  rw[run,kE,QO sh ab n (x+1) _ (by omega)];unfold Ml;rw[wQ sh h];show (if f+1<=a\/b<=f then [x] else if a<=f/\f+1<=b then [] else _)++((run (x+1) n).take (a-(f+1)).toNat++(run (x+1) n).drop (b-(f+1)).toNat)=_;by_cases c1:f+1<=a
  ·rw[if_pos (.inl c1),Yj c1,Yj (Int.lt_trans c1 ab)];rfl
  ·by_cases c2:b<=f
   ·rw[if_pos (.inr c2),QN (nS c1),QN c2,Z7 (nS c1),Z7 c2];rfl
   ·rw[if_neg (λz=>z.elim c1 c2),if_pos ⟨nS c1,Int.not_le.mp c2⟩,QN (nS c1),Yj (Int.not_le.mp c2),Z7 (nS c1)];rfl
theorem QS(sh:Int->List Int){a b:Int}(ab:a<b):∀ (n:Nat) (x f:Int),0<=x->tE sh a b f (run x n)=((run x n).take (b-f).toNat).drop (a-f).toNat
 | 0,_,_,_=>by simp[run,tE]
 | n+1,x,f,h=>by
  rw[run,tE,QS sh ab n (x+1) _ (by omega)];unfold OD;rw[wQ sh h];show (if f+1<=a\/b<=f then [] else if a<=f/\f+1<=b then [x] else _)++((run (x+1) n).take (b-(f+1)).toNat).drop (a-(f+1)).toNat=_;by_cases c1:f+1<=a
  ·rw[if_pos (.inl c1),Yj c1,Yj (Int.lt_trans c1 ab)];rfl
  ·by_cases c2:b<=f
   ·rw[if_pos (.inr c2),QN c2,Z7 c2];simp
   ·rw[if_neg (λz=>z.elim c1 c2),if_pos ⟨nS c1,Int.not_le.mp c2⟩,QN (nS c1),Yj (Int.not_le.mp c2),Z7 (nS c1)];rfl
theorem Oc{a b t:Int}{r:Row}(ok:∀ p∈r,p.1<=p.2)(h:(bW r).length<=t.toNat):bW (cJ (qg 0 a 0 r++qg b t 0 r))=(bW r).take a.toNat++(bW r).drop b.toNat:=by
 rw[sS _ (WU (FQ _ _ _ _) (FQ _ _ _ _)),dz,wL _ _ _ _ ok,wL _ _ _ _ ok];show ((bW r).take (a-0).toNat).drop 0++((bW r).take (t-0).toNat).drop (b-0).toNat=_;rw[Int.sub_zero,Int.sub_zero,Int.sub_zero,xP h];rfl
theorem Z8(sh:Int->List Int){a b:Int}(ab:a<b)(f:Int)(it:aT)(h:qA it):dQ (kD a b (it,dc sh it,f,f+kU (dc sh it)))=kE sh a b f (iT it):=by
 have tt:=qd sh it h
 have sp:dQ (cV (cJ (qg 0 (a-f) 0 (dc sh it)++qg (b-f) (f+kU (dc sh it)-f) 0 (dc sh it))))=(aU sh (iT it)).take (a-f).toNat++(aU sh (iT it)).drop (b-f).toNat:=by
  rw[uh,Oc (zc sh it h) (by rw[oU sh it h,tt];omega),oU sh it h]
 unfold kD;show dQ (if f+kU (dc sh it)<=a\/b<=f then [it] else if a<=f/\f+kU (dc sh it)<=b then [] else cV (cJ (qg 0 (a-f) 0 (dc sh it)++qg (b-f) (f+kU (dc sh it)-f) 0 (dc sh it))))=_;have c1:(f+kU (dc sh it)<=a\/b<=f)=(f+(aU sh (iT it)).length<=a\/b<=f):=by rw[tt]
 have c2:(a<=f/\f+kU (dc sh it)<=b)=(a<=f/\f+(aU sh (iT it)).length<=b):=by rw[tt]
 simp only[c1,c2]
 cases it with
 | win n =>
  have e1:aU sh (iT (.win n))=aZ sh (-1-n):=by show aU sh [-1-n]=_;rw[ck];simp[aU]
  rw[e1]at sp ⊢;show _=kE sh a b f [-1-n];rw[kE,kE,kW];unfold Ml;split
  ·rfl
  ·split
   ·rfl
   ·exact sp
 | aS x y =>
  have e1:aU sh (iT (.aS x y))=run x (y-x).toNat:=qV sh _ _ h.1;rw[e1]at sp ⊢;show _=kE sh a b f (run x (y-x).toNat);rw[QO sh ab _ _ _ h.1];have rl:=jN x (y-x).toNat;split
  ·rename_i c;rw[qb];rcases c with c|c
   ·rw[xP (by omega),BR (by omega),kW];rfl
   ·rw[QN (Int.le_trans (Int.le_of_lt ab) c),QN c];rfl
  ·split
   ·rename_i c;rw[QN c.1,BR (by omega)];rfl
   ·exact sp
theorem Z9(sh:Int->List Int){a b:Int}(ab:a<b)(f:Int)(it:aT)(h:qA it):dQ (tD a b (it,dc sh it,f,f+kU (dc sh it)))=tE sh a b f (iT it):=by
 have tt:=qd sh it h
 have sp:dQ (cV (cJ (qg (a-f) (b-f) 0 (dc sh it))))=((aU sh (iT it)).take (b-f).toNat).drop (a-f).toNat:=by
  rw[uh,uL _ _ _ (zc sh it h),oU sh it h]
 unfold tD;show dQ (if f+kU (dc sh it)<=a\/b<=f then [] else if a<=f/\f+kU (dc sh it)<=b then [it] else cV (cJ (qg (a-f) (b-f) 0 (dc sh it))))=_;rw[tt]
 cases it with
 | win n =>
  have e1:aU sh (iT (.win n))=aZ sh (-1-n):=by show aU sh [-1-n]=_;rw[ck];simp[aU]
  rw[e1]at sp ⊢;show _=tE sh a b f [-1-n];rw[tE,tE,kW];unfold OD;split
  ·rfl
  ·split
   ·rfl
   ·exact sp
 | aS x y =>
  have e1:aU sh (iT (.aS x y))=run x (y-x).toNat:=qV sh _ _ h.1;rw[e1]at sp ⊢;show _=tE sh a b f (run x (y-x).toNat);rw[QS sh ab _ _ _ h.1];have rl:=jN x (y-x).toNat;split
  ·rename_i c;rcases c with c|c
   ·rw[BR (by rw[jK];omega)];rfl
   ·rw[QN c];simp[dQ]
  ·split
   ·rename_i c;rw[qb,QN c.1,xP (by omega)];rfl
   ·exact sp
theorem Gf(sh:Int->List Int){a b:Int}(ab:a<b):∀ (aP:List aT) (f:Int),iX aP->dQ ((b8 sh f aP).flatMap (kD a b))=kE sh a b f (dQ aP)
 | [],f,_=>rfl
 | it::r,f,h=>by
  have h1:=h it (by simp);rw[b8,mZ,iF,Z8 sh ab f it h1,Gf sh ab r _ λi hi=>h i (sF _ hi)];have e:dQ (it::r)=iT it++dQ r:=by unfold dQ;rw[mZ]
  rw[e,Ai,qd sh it h1]
theorem Iq(sh:Int->List Int){a b:Int}(ab:a<b):∀ (aP:List aT) (f:Int),iX aP->dQ ((b8 sh f aP).flatMap (tD a b))=tE sh a b f (dQ aP)
 | [],f,_=>rfl
 | it::r,f,h=>by
  have h1:=h it (by simp);rw[b8,mZ,iF,Z9 sh ab f it h1,Iq sh ab r _ λi hi=>h i (sF _ hi)];have e:dQ (it::r)=iT it++dQ r:=by unfold dQ;rw[mZ]
  rw[e,Aj,qd sh it h1]
theorem Vl{a b:Int}{d:sI}(h:qA d.1)(g:qy d.2.1):iX (kD a b d):=by
 unfold kD;split
 ·exact iX.one h
 ·split
  ·exact λi hi=>by cases hi
  ·exact za (uf λp hp=>(List.mem_append.mp hp).elim (CF _ _ _ _ g p) (CF _ _ _ _ g p))
theorem aaa{a b:Int}{d:sI}(h:qA d.1)(g:qy d.2.1):iX (tD a b d):=by
 unfold tD;split
 ·exact λi hi=>by cases hi
 ·split
  ·exact iX.one h
  ·exact CQ g
theorem KO(a b:Int)(d:sI):(kD a b d).length<=d.2.1.length+d.2.1.length+1:=by
 unfold kD;split
 ·simp
 ·split
  ·simp
  ·rw[BO];refine lS (qU _) ?_;rw[dX];have:=oS 0 (a-d.2.2.1) d.2.1 0;have:=oS (b-d.2.2.1) (d.2.2.2-d.2.2.1) d.2.1 0;omega
theorem QT(a b:Int)(d:sI):(tD a b d).length<=d.2.1.length+d.2.1.length+1:=by
 unfold tD;split
 ·simp
 ·split
  ·simp
  ·exact lS (wR _ _ _) (by omega)
theorem qX(sh:Int->List Int){g:sI->List aT}(hg:∀ d,(g d).length<=d.2.1.length+d.2.1.length+1):∀ (aP:List aT) (f:Int),((b8 sh f aP).flatMap g).length<=(bw sh aP).length+(bw sh aP).length+aP.length
 | [],_=>by simp[b8]
 | it::r,f=>by
  rw[b8,mZ,dX];have a:=hg (it,dc sh it,f,f+kU (dc sh it));have b:=qX sh hg r (f+kU (dc sh it));have e:bw sh (it::r)=dc sh it++bw sh r:=by unfold bw;rw[mZ];rfl
  rw[e,dX,qC];simp only at a;omega
theorem Ir(sh:Int->List Int)(it:aT)(row:Row)(fi la:Int):∀ (aP:List aT) (f:Int),(it,row,fi,la)∈b8 sh f aP->∃ Tj∈aP,row=dc sh Tj
 | [],_,h=>by cases h
 | i0::r0,f,h=>by
  rw[b8]at h;rcases List.mem_cons.mp h with e|e
  ·cases e;exact⟨it,by simp,rfl⟩
  ·obtain⟨i1,m1,e1⟩:=Ir sh it row fi la r0 _ e;exact⟨i1,sF _ m1,e1⟩
theorem E9(sh:Int->List Int):∀ (aP:List aT) (f:Int) (d:sI),d∈b8 sh f aP->d.1∈aP
 | [],_,_,h=>by cases h
 | i0::r0,f,d,h=>by
  rw[b8]at h;rcases List.mem_cons.mp h with e|e
  ·subst e;simp
  ·exact sF _ (E9 sh r0 _ d e)
theorem Iu(sh:Int->List Int){a b n:Int}{aP:List aT}(h:aT.win n∈(b8 sh 0 aP).flatMap (kD a b)):aT.win n∈aP:=by
 obtain⟨d,hd,hm⟩:=List.mem_flatMap.mp h;unfold kD at hm;split at hm
 ·rw[List.mem_singleton.mp hm];exact E9 sh aP 0 d hd
 ·split at hm
  ·cases hm
  ·unfold cV at hm;obtain⟨p,_,e⟩:=List.mem_map.mp hm;cases e
theorem Fb{H:Hp}{A:Addr}{l:List aT}{vs:List V}(h:H A=some (.lst vs))(t:cj (cZ H) vs l):bL H (.ref A) l:=⟨A,vs,rfl,h,t⟩
def bX(sh:Int->List Int)(a b:Int)(es:List Int):List Int:=if a=b then es else kE sh a b 0 es
def kF(sh:Int->List Int)(a b:Int)(es:List Int):List Int:=if a=b then [] else tE sh a b 0 es
inductive CV(vs:List V)(H:Hp)(Q:VK)(E:XK):Prop
 | mk (r S:Addr) (a b:Int) (aP:List aT) (kvs:List (iz × V)) (sh:Int->List Int) (_:vs=[.ref r,.ref S,.int a,.int b]) (_:bL H (.ref r) aP) (_:H S=some (.dK kvs)) (_:Af H kvs sh aP) (_:aP.length<=10000) (_:(bw sh aP).length<=20000) (_ :
 ∀ (t L M:Addr) (H':Hp),H' t=some (.tup [.ref L,.ref M])->bL H' (.ref L) ((b8 sh 0 aP).flatMap (kD a b))->bL H' (.ref M) ((b8 sh 0 aP).flatMap (tD a b))->aG H H'->Q (.ref t) H')
theorem nX:aJ ["items","views","start","stop","left","taken","item","row","first","last"] ["items","views","start","stop"] (aA sM):=jd
theorem Fc{f fS:Addr}(F:iK K "parted" "parted" sM f fd)(T:nL mg)(cA:aF K mg "item_row" gY yz fI BL)(iE:aF K mg "size" sL iH fZ Yh)(eK:aF K mg "plain" mL iH fP NT)(gZ:aF K mg "pieces" o7 pQ fS RX)(nV:aF K mg "dealt" uE Fy fD Z0)(d8:aF K mg "inked" rm iH fN Z1):aC P w K mg base bZ 3 f fd G1 CV:=by
 have KN:aC P w K mg base bZ 2 fD Z0 Fy Ge:=Ip nV.F T cA iE;have sV:aC P w K mg base bZ 1 fS RX pQ yO:=Aa gZ.F T;have rW:aC P w K mg base bZ 2 fN Z1 iH wO:=vR d8.F T eK;refine lW F nX λdJ A outer s H vs Q E hr h=>?_;obtain⟨r,S,p,q,aP,kvs,sh,rfl,hI,hS,hW,l1,l2,k⟩:=h;refine⟨_,(aj (bx (i:=4) nX.nd (bQ ah)) (aj (bx (i:=5) nX.nd (bQ ah)) (aj (gz PassesOwn.never rfl (cX (aK nV KN hr (aa (pv 0) (aa (pv 1) ah)))) (tM (n:=4) rfl (cB (cE (i:=6) nX.nd) (cB (cE (i:=7) nX.nd) (cB (cE (i:=8) nX.nd) (cB (cE (i:=9) nX.nd) kY))))) (au (bT (PW.pt (Ep (bh jG (pv 9) (pv 2) (bz _)) (BY (bh jG (pv 3) (pv 8) (bz _))))) (au (bf (gV vE qj qm cy (pv 4) (aa (pv 6) ah)))) (au (bT (PW.pt (vI (bh jG (pv 2) (pv 8) (bz _)) (uB (bh jG (pv 9) (pv 3) (bz _))))) (au (bf (gV vE qj qm cy (pv 5) (aa (pv 6) ah)))) (aj (zE (i:=4) nX.nd rfl (Or.inl rfl) (aK d8 rW hr (aa (bC ng (aK gZ sV hr (aa (pv 7) (aa ay (aa (bC dm (pv 2) (pv 8)) ah)))) (aK gZ sV hr (aa (pv 7) (aa (bC dm (pv 3) (pv 8)) (aa (bC dm (pv 9) (pv 8)) ah))))) ah)) zZ) (au (zE (i:=5) nX.nd rfl (Or.inl rfl) (aK d8 rW hr (aa (aK gZ sV hr (aa (pv 7) (aa (bC dm (pv 2) (pv 8)) (aa (bC dm (pv 3) (pv 8)) ah)))) ah)) zZ)))))))) (au (aO (dH (aa (pv 4) (aa (pv 5) ah)))))))),?_⟩;refine⟨mj,λA hA=>⟨mj,λB hB=>?_⟩⟩;have sA:aG H (aQ H A (.lst [])):=ak hA _;have sB:aG _ (aQ (aQ H A (.lst [])) B (.lst [])):=ak hB _;have s0:=sA.trans sB;have DC:A≠B:=az af hB;have OB:=aY sA hB;refine⟨_,rfl,_,rfl,r,S,aP,kvs,sh,λa=>a≠A/\a≠B,rfl,hI.same s0,s0 _ _ hS,hW.same s0,by omega,(λit hi=>by have:=ze sh hi;omega),?_,?_,λD dv H1 hD S9 s1 _=>?_⟩
 ·intro n a hn hv;obtain⟨b,e,as,hb,_⟩:=hW n hn;rw[hv]at e;cases e;exact⟨az hb hA,az hb OB⟩
 ·intro a ha;exact⟨(az (sB _ _ af) ha).symm,(az af ha).symm⟩
 have Z2:=s1 _ _ (sB _ _ (af (H:=H) (a:=A) (o:=.lst [])));have Z3:=s1 _ _ (af (H:=aQ H A (.lst [])) (a:=B) (o:=.lst []))
 have nD:D≠A/\D≠B:=by
  rename_i Z4;exact⟨(az (sB _ _ af) Z4).symm,(az af Z4).symm⟩
 have adq:=qX sh (KO p q) aP 0;have ads:=qX sh (QT p q) aP 0;refine⟨D,rfl,⟨_,bR.of hD⟩,eS (K:=K) (a:=D) (xs:=dv) (λi σ H2=>∃ u1 u2 u3 u4:Option V,σ=[some (.ref r),some (.ref S),some (.int p),some (.int q),some (.ref A),some (.ref B),u1,u2,u3,u4]/\qB H1 A B (((b8 sh 0 aP).take i).flatMap (kD p q)) (((b8 sh 0 aP).take i).flatMap (tD p q)) H2) ⟨none,none,none,none,rfl,⟨_,Z2,.nil⟩,⟨_,Z3,.nil⟩,λ_ _ e _ _=>e⟩ (by rintro i σ H2 _ ⟨_,_,_,_,_,pv⟩;exact bR.of (pv.k _ _ hD nD.1 nD.2)) ?_ ?_⟩
 ·rintro i x σ H2 hi ⟨u1,u2,u3,u4,rfl,pv⟩;obtain⟨d,ed,NK⟩:=S9.get hi;have hd2:=NK.Vi Z2 Z3 (λa h=>h) pv.k;obtain⟨a,ra,xi,rfl,hta,hxi,Yi,nra⟩:=hd2;have eA:=wU (kD p q) ed;have eB:=wU (tD p q) ed;have bA:=lH (kD p q) (b8 sh 0 aP) i;have bB:=lH (tD p q) (b8 sh 0 aP) i;have bA1:=lH (kD p q) (b8 sh 0 aP) (i+1);have bB1:=lH (tD p q) (b8 sh 0 aP) (i+1);obtain⟨v1,hv1,t1⟩:=pv.a;obtain⟨v2,hv2,t2⟩:=pv.b;have z1:=t1.len;have z2:=t2.len;obtain⟨it,row,fi,la⟩:=d
  have rl:row.length<=20000:=by
   obtain⟨i1,m1,rfl⟩:=Ir sh it row fi la aP 0 (vn ed);have:=ze sh m1;omega
  have mV:v1.length<sizeLine:=aX (by omega)
  have CY:(la<=p\/q<=fi)->qB H1 A B (((b8 sh 0 aP).take (i+1)).flatMap (kD p q)) (((b8 sh 0 aP).take (i+1)).flatMap (tD p q)) (aQ H2 A (.lst (v1++[xi]))):=λc=>by
   rw[eA,eB];have e1:kD p q (it,row,fi,la)=[it]:=by unfold kD;rw[if_pos c]
   have e2:tD p q (it,row,fi,la)=[]:=by unfold tD;rw[if_pos c]
   rw[e1,e2,kW];exact pv.Mi DC hv1 (.cons hxi .nil)
  refine⟨a,_,rfl,ef.of hta,rfl,_,_,rfl,_,_,rfl,_,_,rfl,_,_,rfl,rfl,?_⟩;refine⟨_,rfl,_,rfl,_,_,rfl,rfl,_,rfl,dO (λc=>j9 ?_) (λc=>?_)⟩
  ·exact⟨_,rfl,.inl ⟨rfl,_,bR.of hv1⟩,_,rfl,A,_,_,rfl,rfl,hv1,mV,_,_,_,_,rfl,CY (.inl (of_decide_eq_true c))⟩
  have c':¬ la<=p:=λz=>c (decide_eq_true z);refine⟨_,rfl,_,rfl,_,_,rfl,rfl,_,rfl,dO (λc2=>?_) (λc2=>?_)⟩
  ·exact⟨_,rfl,.inl ⟨rfl,_,bR.of hv1⟩,_,rfl,A,_,_,rfl,rfl,hv1,mV,_,_,_,_,rfl,CY (.inr (of_decide_eq_true c2))⟩
  have Oa:¬ q<=fi:=λz=>c2 (decide_eq_true z);have n1:¬ (la<=p\/q<=fi):=λz=>z.elim c' Oa
  have part:¬ (p<=fi/\la<=q)->qB H1 A B (((b8 sh 0 aP).take i).flatMap (kD p q)) (((b8 sh 0 aP).take i).flatMap (tD p q)) H2->kD p q (it,row,fi,la)=cV (cJ (qg 0 (p-fi) 0 row++qg (q-fi) (la-fi) 0 row))/\tD p q (it,row,fi,la)=cV (cJ (qg (p-fi) (q-fi) 0 row)):=λc3 _=>by
   refine⟨?_,?_⟩
   ·unfold kD;rw[if_neg n1,if_neg c3]
   ·unfold tD;rw[if_neg n1,if_neg c3]
  have go:¬ (p<=fi/\la<=q)->∀ (q1 q2:Addr) (v3:List V) (H4:Hp),H4 q2=some (.lst v3)->cj (cZ H4) v3 (cV (cJ (qg 0 (p-fi) 0 row++qg (q-fi) (la-fi) 0 row)))->aG H2 H4->v1.length+v3.length<=sizeLine/\qB H1 A B (((b8 sh 0 aP).take (i+1)).flatMap (kD p q)) (((b8 sh 0 aP).take i).flatMap (tD p q)) (aQ H4 A (.lst (v1++v3)))/\cL (aQ H4 A (.lst (v1++v3))) ra row/\(aQ H4 A (.lst (v1++v3))) B=some (.lst v2):=λc3 q1 q2 v3 H4 h3 t3 s4=>by
   obtain⟨e1,e2⟩:=part c3 pv;have z3:=t3.len;rw[eA,e1,dX]at bA1;have Ob:=s4 _ _ hv1;refine⟨Nat.le_of_lt (aX (by omega)),?_,(Yi.same s4).keep Ob nra.1 (aN A _ _),by rw[aL DC.symm];exact s4 _ _ hv2⟩;rw[eA,e1];exact (pv.same s4).Mi DC Ob t3
  have go2:¬ (p<=fi/\la<=q)->∀ (v4:List V) (H5 H7:Hp),qB H1 A B (((b8 sh 0 aP).take (i+1)).flatMap (kD p q)) (((b8 sh 0 aP).take i).flatMap (tD p q)) H5->H5 B=some (.lst v2)->cj (cZ H7) v4 (cV (cJ (qg (p-fi) (q-fi) 0 row)))->aG H5 H7->v2.length+v4.length<=sizeLine/\qB H1 A B (((b8 sh 0 aP).take (i+1)).flatMap (kD p q)) (((b8 sh 0 aP).take (i+1)).flatMap (tD p q)) (aQ H7 B (.lst (v2++v4))):=λc3 v4 H5 H7 pv5 h5 t4 s7=>by
   obtain⟨e1,e2⟩:=part c3 pv;have z4:=t4.len;rw[eB,e2,dX]at bB1;refine⟨Nat.le_of_lt (aX (by omega)),?_⟩;rw[eB,e2];exact (pv5.same s7).Mj DC (s7 _ _ h5) t4
  have pl1:=oS 0 (p-fi) row 0;have pl2:=oS (q-fi) (la-fi) row 0;have pl3:=oS (p-fi) (q-fi) row 0;refine⟨_,rfl,_,rfl,_,_,rfl,rfl,_,rfl,Qp (λz=>⟨_,rfl,_,rfl,_,_,rfl,rfl,_,rfl,z⟩) (λc5=>?_) (λc5=>?_)⟩
  ·refine⟨_,rfl,.inl ⟨rfl,_,bR.of hv2⟩,_,rfl,B,_,_,rfl,rfl,hv2,aX (by omega),_,_,_,_,rfl,?_⟩;rw[eA,eB];have e1:kD p q (it,row,fi,la)=[]:=by unfold kD;rw[if_neg n1,if_pos c5]
   have e2:tD p q (it,row,fi,la)=[it]:=by unfold tD;rw[if_neg n1,if_pos c5]
   rw[e1,e2,kW];exact pv.Mj DC hv2 (.cons hxi .nil)
  ·refine⟨_,rfl,_,rfl,_,rfl,_,rfl,_,_,rfl,rfl,ra,row,0,p-fi,rfl,Yi,by omega,λq1 H3 R3 s3 T9=>?_⟩;obtain⟨as3,ha3,pa3⟩:=id R3;have n3:=pa3.len;refine⟨_,rfl,_,rfl,_,rfl,_,_,rfl,rfl,_,rfl,_,rfl,_,_,rfl,rfl,ra,row,q-fi,la-fi,rfl,Yi.same s3,by omega,λq2 H4 R4 s4 gy=>?_⟩;obtain⟨as4,ha4,pa4⟩:=id R4;have n4:=pa4.len;refine⟨q1,q2,_,_,rfl,rfl,s4 _ _ ha3,ha4,(by rw[cS,cS];exact kX (aX (by omega))),λm hm=>?_⟩;have s5:aG H4 (aQ H4 m (.lst (as3.map V.ref++as4.map V.ref))):=ak hm _;refine⟨m,qg 0 (p-fi) 0 row++qg (q-fi) (la-fi) 0 row,rfl,⟨as3++as4,by rw[af,kT],bS.append ((pa3.same s4).same s5) (pa4.same s5)⟩,by rw[dX];omega,λq3 H6 I6 s6 JE=>?_⟩;obtain⟨q3',v3,e3,h3,t3⟩:=I6;cases e3;have s26:=s3.trans (s4.trans (s5.trans s6));obtain⟨g1,g2,g3,g4⟩:=go c5 q1 q3 v3 H6 h3 t3 s26;refine⟨A,q3,_,_,rfl,rfl,s26 _ _ hv1,h3,g1,?_⟩;refine⟨_,rfl,_,rfl,_,rfl,_,rfl,_,_,rfl,rfl,_,rfl,_,rfl,_,_,rfl,rfl,ra,row,p-fi,q-fi,rfl,g3,by omega,λq4 H7 R7 s7 T8=>⟨q4,_,rfl,R7,by omega,λq5 H8 I8 s8 ZZ=>?_⟩⟩;obtain⟨q5',v4,e4,h4,t4⟩:=I8;cases e4;obtain⟨f1,f2⟩:=go2 c5 v4 _ H8 g2 g4 t4 (s7.trans s8);exact⟨B,q5,_,_,rfl,rfl,(s7.trans s8) _ _ g4,h4,f1,_,_,_,_,rfl,f2⟩
 ·rintro σ H2 ⟨u1,u2,u3,u4,rfl,pv⟩;have dl:=S9.len;rw[dl,lR]at pv;obtain⟨v1,hv1,t1⟩:=pv.a;obtain⟨v2,hv2,t2⟩:=pv.b;have sm:aG H H2:=λa ob e=>pv.k a ob (s1 _ _ (s0 _ _ e)) (az e hA) (az e OB);refine⟨_,rfl,_,rfl,uP,λt ht=>k t A B _ af ?_ ?_ (sm.trans (ak ht _))⟩
  ·exact (Fb hv1 t1).same (ak ht _)
  ·exact (Fb hv2 t2).same (ak ht _)
inductive CZ(C:Addr)(vs:List V)(H:Hp)(Q:VK)(E:XK):Prop
 | mk (r:Addr) (rows:dM) (s a b:Int) (sh:Int->List Int) (_:vs=[.ref r,.int s,.int a,.int b]) (_:uQ H r rows sh) (_:0<=s) (_:s<rows.length) (_:m6 a) (_:m6 b) (_:(DQ a b (sh s).length->∀ (es:List Int) (q:Addr) (H':Hp),rows[s.toNat]?=some es->bL H' (.ref q) (aI (bX sh a b es))->aG H H'->H q=none->Q (.ref q) H')) (_:(¬ DQ a b (sh s).length->∀ H',aG H H'->E (.ref C) none H'))
theorem AY:aJ ["rows","sheet","start","stop","views"] ["rows","sheet","start","stop"] (aA rA):=jd
theorem Gg{f fp fs fn:Addr}(F:iK K "cut_items" "cut_items" rA f fd)(T:nL mg)(Z:Ct K mg C)
  (cC:aF K mg "windows" eT oA fw gw) (iR:aF K mg "below" lU lQ fb gb) (cA:aF K mg "item_row" gY yz fi gi) (eK:aF K mg "plain" mL iH fp gp) (cM:aF K mg "views_below" eU lQ fv gv) (iE:aF K mg "size" sL iH fs gs) (cu:aF K mg "check_places" iB pQ fc gc)
  (jg:aF K mg "goes_on" nh G0 fg gg) (cN:aF K mg "plain_items" jb oA fk gk) (nV:aF K mg "dealt" uE Fy Z5 gd) (gZ:aF K mg "pieces" o7 pQ fq gq) (d8:aF K mg "inked" rm iH fn gn) (jZ:aF K mg "parted" sM G1 fa ga):aC P w K mg base (lP P w) 4 f fd Su (CZ C):=by
 have gJ:aC P w K mg base (lP P w) 2 _ _ pQ (wM C):=jR cu.F T Z iE;have jO:aC P w K mg base bZ 3 _ _ lQ y9:=nO cM.F T cC iR cA eK;have ji:aC P w K mg base bZ 2 _ _ oA nP:=nQ cN.F T jg;have Gh:aC P w K mg base bZ 3 _ _ G1 CV:=Fc jZ.F T cA iE eK gZ nV d8;refine DU F AY λdJ A outer s0 H vs Q E hr h=>?_;obtain⟨r,rows,s,p,q,sh,rfl,R,h0,h1,fp,fq,k1,k2⟩:=h;have hu:=lO hr;refine⟨_,(aj (bx (i:=4) AY.nd (aK cM jO hr (aa (pv 0) (aa (bQ (aa (pv 1) ah)) ah)))) (aj (bf (nH cu gJ hr jI (aa (jQ hu (pv 4) (pv 1)) (aa (pv 2) (aa (pv 3) ah))))) (aj (bT (bh gU (pv 2) (pv 3) (bz _)) (au (aO (aK cN ji hr (aa (aV bP (pv 0) (pv 1)) ah)))) bu) (au (aO (aK cN ji hr (aa (aV br (aK jZ Gh hr (aa (aV bP (pv 0) (pv 1)) (aa (pv 4) (aa (pv 2) (aa (pv 3) ah))))) ay) ah))))))),?_⟩;refine⟨_,rfl,_,rfl,lX,λL hL=>?_⟩;have s1:aG H (aQ H L (.lst [.int s])):=ak hL _;refine⟨r,L,rows,[s],sh,rfl,R.at_.same s1,af,by simp,R.len,R.ents,R.snd,R.rk,(λx hx=>by rw[List.mem_singleton.mp hx];exact⟨h0,h1⟩),R.QL,R.bd,λS kvs ks H2 hS hv tp sk hn s2 hS0=>?_⟩;have Vk:=sk s (by simp);obtain⟨a,ha,Ra⟩:=hv s Vk;have z:=nI.k (k:=Sum.inl s) hS;rw[ha]at z;have rL:=s1.trans s2;have shl:=R.bd s h0 h1;have rol:=qW (sh s);obtain⟨es,Be,b,O⟩:=(R.same rL).one h0 h1;refine⟨_,rfl,_,rfl,S,_,rfl,z,_,rfl,_,rfl,a,cU (sh s),p,q,rfl,Ra,by omega,fp,fq,(by rw[O.tt];exact m6.small (by omega) (by omega)),λBK H3 s3=>?_,λBK H3 s3=>?_⟩
 ·have hp:DQ p q (sh s).length:=⟨BK.1,BK.2.1,by rw[← O.tt];exact BK.2.2⟩;obtain⟨xq,Z6,b',O3⟩:=(R.same (rL.trans s3)).one h0 h1;have ee:es=xq:=vG (O.he.symm.trans O3.he);subst ee;obtain⟨e1,e2⟩:=rT es;refine⟨_,rfl,_,rfl,rfl,_,rfl,dO (λc=>?_) (λc=>?_)⟩
  ·have c':p=q:=V.int.inj (of_decide_eq_true c);refine⟨_,rfl,_,rfl,r,_,_,_,rfl,rfl,bR.of O3.hr,O3.ix,b',aI es,rfl,O3.it,lS O3.il (by decide),λo H4 I4 s4 ho=>?_⟩;refine k1 hp es o H4 O.he ?_ (rL.trans (s3.trans s4)) (aY (rL.trans s3) ho);rw[qc _ e2,e1]at I4;unfold bX;rw[if_pos c'];exact I4
  ·have c':¬ p=q:=λz=>c (by rw[z];exact decide_eq_true rfl);have pq:p<q:=by have:=hp.2.1;omega
   refine⟨_,rfl,_,rfl,r,_,_,_,rfl,rfl,bR.of O3.hr,O3.ix,_,rfl,_,rfl,_,rfl,b',S,p,q,aI es,kvs,sh,rfl,O3.it,s3 _ _ hS,λn hn=>?_,lS O3.il (by decide),lS O3.rl (by decide),λt L M H4 ht hL4 hM4 s4=>?_⟩
   ·have nx:=wV h0 O.he hn;obtain⟨i,hi⟩:=List.getElem?_of_mem Vk;obtain⟨a2,e2,R2⟩:=hv n (List.mem_of_mem_take (tp.dn i s hi n nx));exact⟨a2,e2,R2.same s3⟩
   have nn:T6 sh (aI es):=λn hn=>by
    have nx:=wV h0 O.he hn;obtain⟨n0,n1⟩:=R.snd.FZ nx;exact um R.snd R.rk R.QL n n0 n1
   have OC:=BN sh (aI es) 0 e2 nn;have lk:iX ((b8 sh 0 (aI es)).flatMap (kD p q)):=zd λd hd=>Vl (OC d hd).1 (OC d hd).2;have ll:=qX sh (KO p q) (aI es) 0;have oil:=O3.il;have orl:=O3.rl;refine⟨t,_,_,_,rfl,rfl,ef.of ht,rfl,L,_,rfl,hL4,by omega,λo H5 I5 s5 ho=>?_⟩;refine k1 hp es o H5 O.he ?_ (rL.trans (s3.trans (s4.trans s5))) (aY (rL.trans (s3.trans s4)) ho);rw[qc _ lk,Gf sh pq _ _ e2,e1]at I5;unfold bX;rw[if_neg c'];exact I5
 ·exact k2 (λhp=>BK ⟨hp.1,hp.2.1,by rw[O.tt];exact hp.2.2⟩) H3 (rL.trans s3)
def qL(sh:Int->List Int)(a b to:Int)(es:List Int):List Int:=if a=b then es else aE sh to 0 (kE sh a b 0 es)++tE sh a b 0 es++bE sh to 0 (kE sh a b 0 es)
def Mv(a b to n:Int):Prop:=DQ a b n/\0<=to/\to<=n-(b-a)
theorem QU(sh:Int->List Int)(r:Row):bw sh (cV r)=r:=by
 unfold bw cV;rw[List.flatMap_map]
 induction r with
 | nil=>rfl
 | cons p r ih=>rw[mZ,ih];rfl
theorem Fd(sh:Int->List Int)(a b:Int):∀ (aP:List aT) (f:Int),(bw sh ((b8 sh f aP).flatMap (kD a b))).length<=(bw sh aP).length+(bw sh aP).length
 | [],_=>by simp[b8,bw]
 | it::r,f=>by
  have ih:=Fd sh a b r (f+kU (dc sh it));have e:bw sh (it::r)=dc sh it++bw sh r:=by unfold bw;rw[mZ];rfl
  have one:(bw sh (kD a b (it,dc sh it,f,f+kU (dc sh it)))).length<=(dc sh it).length+(dc sh it).length:=by
   unfold kD;split
   ·rw[mT];show (dc sh it).length<=_;omega
   ·split
    ·simp[bw]
    ·rw[QU];refine lS (qU _) ?_;rw[dX];have:=oS 0 (a-f) (dc sh it) 0;have:=oS (b-f) (f+kU (dc sh it)-f) (dc sh it) 0;simp only;omega
  rw[b8,mZ,gP,dX,e,dX];omega
inductive zg(C:Addr)(vs:List V)(H:Hp)(Q:VK)(E:XK):Prop
 | mk (r:Addr) (rows:dM) (s a b to:Int) (sh:Int->List Int) (_:vs=[.ref r,.int s,.int a,.int b,.int to]) (_:uQ H r rows sh) (_:0<=s) (_:s<rows.length) (_:(-100000<a/\a<100000)) (_:(-100000<b/\b<100000)) (_:(-100000<to/\to<100000)) (_:(Mv a b to (sh s).length->∀ (es:List Int) (q:Addr) (H':Hp),rows[s.toNat]?=some es->bL H' (.ref q) (aI (qL sh a b to es))->aG H H'->H q=none->Q (.ref q) H')) (_:(¬ Mv a b to (sh s).length->∀ H',aG H H'->E (.ref C) none H'))
theorem m6.mid{i:Int}(h0:-300000<i)(h1:i<300000):m6 i:=by
 have a:(300000:Int)<10^60:=by decide
 exact⟨by omega,by omega⟩
theorem m6.Od{i:Int}(h:-100000<i/\i<100000):m6 i:=m6.mid (by omega) (by omega)
theorem mw:aJ ["rows","sheet","start","stop","to","views","rest","left","taken"] ["rows","sheet","start","stop","to"] (aA ni):=jd
theorem C0{f fp fs fn:Addr}(F:iK K "moved_items" "moved_items" ni f fd)(T:nL mg)(Z:Ct K mg C)
  (cC:aF K mg "windows" eT oA fw gw) (iR:aF K mg "below" lU lQ fb gb) (cA:aF K mg "item_row" gY yz fi gi) (eK:aF K mg "plain" mL iH fp gp) (cM:aF K mg "views_below" eU lQ fv gv) (iE:aF K mg "size" sL iH fs gs) (cu:aF K mg "check_places" iB pQ fc gc)
  (jg:aF K mg "goes_on" nh G0 fg gg) (cN:aF K mg "plain_items" jb oA fk gk) (nV:aF K mg "dealt" uE Fy Z5 gd) (gZ:aF K mg "pieces" o7 pQ fq gq) (d8:aF K mg "inked" rm iH fn gn) (jZ:aF K mg "parted" sM G1 fa ga) (mU:aF K mg "put_among" oO MS fu gu):aC P w K mg base (lP P w) 4 f fd Sv (zg C):=by
 have gJ:aC P w K mg base (lP P w) 2 _ _ pQ (wM C):=jR cu.F T Z iE;have jO:aC P w K mg base bZ 3 _ _ lQ y9:=nO cM.F T cC iR cA eK;have ji:aC P w K mg base bZ 2 _ _ oA nP:=nQ cN.F T jg;have Gh:aC P w K mg base bZ 3 _ _ G1 CV:=Fc jZ.F T cA iE eK gZ nV d8;have yg:aC P w K mg base bZ 3 _ _ MS yf:=zf mU.F T cA iE eK gZ jg cN nV d8;have E2:aC P w K mg base bZ 1 _ _ iH FP:=F5 iE.F T;refine DU F mw λdJ A outer s0 H vs Q E hr h=>?_;obtain⟨r,rows,s,p,q,to,sh,rfl,R,h0,h1,fp,fq,ft,k1,k2⟩:=h;have hu:=lO hr;refine⟨_,(aj (bx (i:=5) mw.nd (aK cM jO hr (aa (pv 0) (aa (bQ (aa (pv 1) ah)) ah)))) (aj (bf (nH cu gJ hr jI (aa (jQ hu (pv 5) (pv 1)) (aa (pv 2) (aa (pv 3) ah))))) (aj (bx (i:=6) mw.nd (bC dm (iP.uN iE (T.pH _ iE.m) E2 hr (aa (jQ hu (pv 5) (pv 1)) ah)) (bC dm (pv 3) (pv 2)))) (aj (bT (j5 (yF jG jG ay (pv 4) (pv 6))) (au (uc PySem.F.excBase_ValueError Z.x Z.m rfl zQ (aa (wK (oR (rM (pv 4) (oR (rM (pv 6) (oR zR)))))) ah))) bu) (aj (bT (bh gU (pv 2) (pv 3) (bz _)) (au (aO (aK cN ji hr (aa (aV bP (pv 0) (pv 1)) ah)))) bu) (aj (rf (aK jZ Gh hr (aa (aV bP (pv 0) (pv 1)) (aa (pv 5) (aa (pv 2) (aa (pv 3) ah))))) (tM (n:=2) rfl (cB (cE (i:=7) mw.nd) (cB (cE (i:=8) mw.nd) kY)))) (au (aO (aK mU yg hr (aa (pv 7) (aa (pv 5) (aa (pv 4) (aa (pv 8) ah))))))))))))),?_⟩;refine⟨_,rfl,_,rfl,lX,λL hL=>?_⟩;have s1:aG H (aQ H L (.lst [.int s])):=ak hL _;refine⟨r,L,rows,[s],sh,rfl,R.at_.same s1,af,by simp,R.len,R.ents,R.snd,R.rk,(λx hx=>by rw[List.mem_singleton.mp hx];exact⟨h0,h1⟩),R.QL,R.bd,λS kvs ks H2 hS hv tp sk hn s2 hS0=>?_⟩;have Vk:=sk s (by simp);obtain⟨a,ha,Ra⟩:=hv s Vk;have z:=nI.k (k:=Sum.inl s) hS;rw[ha]at z;have rL:=s1.trans s2;have shl:=R.bd s h0 h1;have rol:=qW (sh s);obtain⟨es,Be,b,O⟩:=(R.same rL).one h0 h1;refine⟨_,rfl,_,rfl,S,_,rfl,z,_,rfl,_,rfl,a,cU (sh s),p,q,rfl,Ra,by omega,m6.Od fp,m6.Od fq,(by rw[O.tt];exact m6.small (by omega) (by omega)),λBK H3 s3=>?_,λBK H3 s3=>?_⟩
 ·have hp:DQ p q (sh s).length:=⟨BK.1,BK.2.1,by rw[← O.tt];exact BK.2.2⟩;obtain⟨xq,Z6,b',O3⟩:=(R.same (rL.trans s3)).one h0 h1;have ee:es=xq:=vG (O.he.symm.trans O3.he);subst ee;obtain⟨e1,e2⟩:=rT es;have z3:=nI.k (k:=Sum.inl s) (s3 _ _ hS);rw[ha]at z3;refine⟨_,rfl,_,rfl,S,_,rfl,z3,a,cU (sh s),rfl,Ra.same s3,by omega,λH4 s4=>?_⟩;rw[O.tt];refine⟨_,rfl,_,rfl,_,_,rfl,rfl,_,_,rfl,rfl,?_⟩;have fto:=(m6.Od ft).log;have fr:m6 (((sh s).length:Int)-(q-p)):=m6.mid (by have:=hp.1;have:=hp.2.1;have:=hp.2.2;omega) (by have:=hp.1;have:=hp.2.1;omega);have no:¬ Mv p q to (sh s).length->E (.ref C) none H4:=λc=>k2 c H4 (rL.trans (s3.trans s4));refine⟨_,rfl,_,_,rfl,rfl,_,rfl,dO (λc1=>?_) (λc1=>?_)⟩
  rotate_left
  ·refine⟨_,rfl,j9 ?_⟩;exact⟨_,rfl,to,rfl,fto,_,rfl,_,rfl,fr.log,λx=>⟨lX,no λm=>c1 (decide_eq_true m.2.1)⟩⟩
  refine⟨_,rfl,_,_,rfl,rfl,_,rfl,?_⟩;by_cases c2:to<=((sh s).length:Int)-(q-p)
  rotate_left
  ·have d2:decide (to<=((sh s).length:Int)-(q-p))=false:=decide_eq_false c2;rw[d2];refine j9 ?_;exact⟨_,rfl,to,rfl,fto,_,rfl,_,rfl,fr.log,λx=>⟨lX,no λm=>c2 m.2.2⟩⟩
  have d2:decide (to<=((sh s).length:Int)-(q-p))=true:=decide_eq_true c2;rw[d2];refine iI ?_;have mv:Mv p q to (sh s).length:=⟨hp,of_decide_eq_true c1,c2⟩;have O4:bL H4 (.ref b') (aI es):=O3.it.same s4;have Yk:=s4 _ _ O3.hr;refine⟨_,rfl,_,rfl,rfl,_,rfl,dO (λc=>?_) (λc=>?_)⟩
  ·have c':p=q:=V.int.inj (of_decide_eq_true c);refine⟨_,rfl,_,rfl,r,_,_,_,rfl,rfl,bR.of Yk,O3.ix,b',aI es,rfl,O4,lS O3.il (by decide),λo H5 I5 s5 ho=>?_⟩;refine k1 mv es o H5 O.he ?_ (rL.trans (s3.trans (s4.trans s5))) (aY (rL.trans (s3.trans s4)) ho);rw[qc _ e2,e1]at I5;unfold qL;rw[if_pos c'];exact I5
  ·have c':¬ p=q:=λz=>c (by rw[z];exact decide_eq_true rfl);have pq:p<q:=by have:=hp.2.1;omega
   have aab:∀ n,aT.win n∈aI es->∃ a2,cW kvs (Sum.inl n)=some (.ref a2)/\cL H4 a2 (cU (sh n)):=λn hn=>by
    have nx:=wV h0 O.he hn;obtain⟨i,hi⟩:=List.getElem?_of_mem Vk;obtain⟨a2,e2,R2⟩:=hv n (List.mem_of_mem_take (tp.dn i s hi n nx));exact⟨a2,e2,(R2.same s3).same s4⟩
   refine⟨_,rfl,_,rfl,r,_,_,_,rfl,rfl,bR.of Yk,O3.ix,_,rfl,_,rfl,_,rfl,b',S,p,q,aI es,kvs,sh,rfl,O4,s4 _ _ (s3 _ _ hS),aab,lS O3.il (by decide),lS O3.rl (by decide),λt L M H5 ht hL5 hM5 s5=>?_⟩
   have nn:T6 sh (aI es):=λn hn=>by
    have nx:=wV h0 O.he hn;obtain⟨n0,n1⟩:=R.snd.FZ nx;exact um R.snd R.rk R.QL n n0 n1
   have OC:=BN sh (aI es) 0 e2 nn;have lk:iX ((b8 sh 0 (aI es)).flatMap (kD p q)):=zd λd hd=>Vl (OC d hd).1 (OC d hd).2;have tk:iX ((b8 sh 0 (aI es)).flatMap (tD p q)):=zd λd hd=>aaa (OC d hd).1 (OC d hd).2;have ll:=qX sh (KO p q) (aI es) 0;have tl:=qX sh (QT p q) (aI es) 0;have lr:=Fd sh p q (aI es) 0;have oil:=O3.il;have orl:=O3.rl;refine⟨t,_,rfl,ef.of ht,rfl,_,_,rfl,_,_,rfl,rfl,?_⟩;refine⟨_,rfl,_,rfl,_,rfl,_,rfl,L,S,M,to,_,_,kvs,sh,rfl,hL5,s5 _ _ (s4 _ _ (s3 _ _ hS)),(λn hn=>?_),hM5,lk,tk,(λn hn=>nn n (Iu sh hn)),by omega,by omega,by omega,λo H6 I6 s6 ho=>?_⟩
   ·obtain⟨a2,e3,R2⟩:=aab n (Iu sh hn);exact⟨a2,e3,R2.same s5⟩
   refine k1 mv es o H6 O.he ?_ (rL.trans (s3.trans (s4.trans (s5.trans s6)))) (aY (rL.trans (s3.trans (s4.trans s5))) ho);rw[Gf sh pq _ _ e2,Iq sh pq _ _ e2,e1]at I6;unfold qL;rw[if_neg c'];exact I6
 ·exact k2 (λhp=>BK ⟨hp.1.1,hp.1.2.1,by rw[O.tt];exact hp.1.2.2⟩) H3 (rL.trans s3)
inductive Mm(vs:List V)(H:Hp)(Q:VK)(E:XK):Prop
 | mk (r:Addr) (rows:dM) (s:Int) (sh:Int->List Int) (_:vs=[.ref r,.int s]) (_:uQ H r rows sh) (_:0<=s) (_:s<rows.length) (_ :
 ∀ (o:Addr) (H':Hp),bL H' (.ref o) (aI (sh s))->aG H H'->H o=none->Q (.ref o) H')
theorem D0:aJ ["rows","sheet"] ["rows","sheet"] (aA nj):=jd
theorem C1{f fp fs fn:Addr}(F:iK K "fixed_items" "fixed_items" nj f fd)(T:nL mg)
  (cC:aF K mg "windows" eT oA fw gw) (iR:aF K mg "below" lU lQ fb gb) (cA:aF K mg "item_row" gY yz fi gi) (eK:aF K mg "plain" mL iH fp gp) (cM:aF K mg "views_below" eU lQ fv gv) (lY:aF K mg "shown" xV tL fs gs) (d8:aF K mg "inked" rm iH fn gn):aC P w K mg base bZ 5 f fd tL Mm:=by
 have KP:aC P w K mg base bZ 4 _ _ tL Gb:=Im lY.F T cC iR cA eK cM;have rW:aC P w K mg base bZ 2 _ _ iH wO:=vR d8.F T eK;refine lW F D0 λdJ A outer s0 H vs Q E hr h=>?_;obtain⟨r,rows,s,sh,rfl,R,h0,h1,k⟩:=h;refine⟨_,(au (aO (aK d8 rW hr (aa (iP.uN lY (T.vO _ lY.m) KP hr (aa (pv 0) (aa (pv 1) ah))) ah)))),?_⟩;have shl:=R.bd s h0 h1;have rol:=qW (sh s);refine⟨_,rfl,_,rfl,r,rows,s,sh,rfl,R.at_,R.len,R.ents,R.snd,R.rk,h0,h1,R.QL,R.bd,λo H1 R1 s1 ho=>?_⟩;refine⟨o,cU (sh s),rfl,R1,by omega,λq H2 I2 s2 hq=>k q H2 ?_ (s1.trans s2) (aY s1 hq)⟩;rw[Ck _ (ua _),jH,N9 (um R.snd R.rk R.QL s h0 h1)]at I2;exact I2
abbrev qt(ws:pP):HO:=.lst (ws.map λw=>V.str (iC w))
abbrev Ua:List (Str × Int):=[(Str.ofString "fresh",0),(Str.ofString "cut",3),(Str.ofString "move",4),(Str.ofString "quote",5),(Str.ofString "window",3),(Str.ofString "fix",1),(Str.ofString "back",2),(Str.ofString "fork",2),(Str.ofString "untie",1),(Str.ofString "read",1)]
abbrev AHD:List (Str × Int):=[(Str.ofString "put",2),(Str.ofString "strike",0),(Str.ofString "blot",1),(Str.ofString "lift",1)]
def rY(D:List (Str × Int))(n:List Nat):Option Int:=(D.find? λp=>decide (iC n=p.1)).map (·.2)
theorem C2{D:List (Str × Int)}{n:List Nat}{i:Int}(h:rY D n=some i):(D.find? λp=>decide (iC n=p.1))=some (iC n,i):=by
 unfold rY at h;obtain⟨⟨x,j⟩,e,rfl⟩:=Option.map_eq_some_iff.mp h;have z:=List.find?_some e;have:iC n=x:=of_decide_eq_true z;rw[e,this]
abbrev Iv:List Nat:=[116,105,101]
inductive nY where
 | D3 (h:Int) (t:List Nat)
 | plain (n:List Nat) (ns:List Int)
 | xG (n:List Nat) (ns:List Int) (r:Row)
def nY.At(H:Hp)(p:Addr):nY->Prop
 | .D3 h t=>H p=some (.tup [.str "pour",.int h,.str (iC t)])
 | .plain n ns=>H p=some (.tup (.str (iC n)::ns.map V.int))
 | .xG n ns r=>∃ q,H p=some (.tup (.str (iC n)::ns.map V.int++[.ref q]))/\cL H q r
def Ak(n:Int):Prop:=0<=n/\n<10^60
def QV(r:Row):Prop:=r.length<=29/\∀ p∈r,Ak p.1/\Ak p.2
def nY.Ok:nY->Prop
 | .D3 h t=>Ak h/\t.length<=200
 | .plain n ns=>rY Ua n=some (ns.length:Int)/\∀ x∈ns,Ak x
 | .xG n ns r=>rY AHD n=some (ns.length:Int)/\(∀ x∈ns,Ak x)/\QV r
abbrev zh(p:Int × Int):List Nat:=jX.dg p.1++45::jX.dg p.2
theorem Oe{p:Int × Int}(h:Ak p.1/\Ak p.2):(zh p).length<=121:=by
 rw[dX,qC];have a:=jX.Ku h.1.1 h.1.2;have b:=jX.Ku h.2.1 h.2.2;omega
theorem Gi{n:Int}(h:Ak n):n.natAbs.log2<1920:=by
 obtain⟨h0,h1⟩:=h;by_cases z:n.natAbs=0
 ·rw[z];decide
 ·rw[Nat.log2_lt z];have a:n.natAbs<10^60:=by omega
  exact vp a (lS (show (10:Nat)^60<=2^200 by decide) (Nat.pow_le_pow_right (by decide) (by decide)))
inductive kG where
 | num (x:Int)
 | tx (t:List Nat)
 | row (r:Row)
def kG.At(H:Hp)(v:V):kG->Prop
 | .num x=>v=.int x
 | .tx t=>v=.str (iC t)
 | .row r=>∃ q,v=.ref q/\cL H q r
def kG.Ok:kG->Prop
 | .num x=>Ak x
 | .tx t=>t.length<=200
 | .row r=>QV r
abbrev Iw(r:Row):List Nat:=r.flatMap λp=>32::zh p
def kG.line:kG->List Nat
 | .num x=>32::jX.dg x
 | .tx t=>32::t
 | .row r=>Iw r
theorem QW{r:Row}(h:QV r):(Iw r).length<=4000:=by
 have key:∀ l:Row,(∀ p∈l,Ak p.1/\Ak p.2)->(Iw l).length<=122*l.length:=by
  intro l
  induction l with
  | nil=>intro _;exact jz _
  | cons p l ih =>
   intro g;have z:=ih λq hq=>g q (sF _ hq);have z2:=Oe (g p yC);show ((32::zh p)++Iw l).length<=_;rw[dX,qC,qC];omega
 have:=key r h.2;have:=h.1;omega
theorem kG.Iz{p:kG}(h:p.Ok):p.line.length<=4000:=by
 cases p with
 | num x=>have:=jX.Ku h.1 h.2;show (32::jX.dg x).length<=_;rw[qC];omega
 | tx t=>have h':t.length<=200:=h;show (32::t).length<=_;rw[qC];omega
 | row r=>exact QW h
def nY.nm:nY->List Nat
 | .D3 _ _=>[112,111,117,114]
 | .plain n _=>n
 | .xG n _ _=>n
def nY.parts:nY->List kG
 | .D3 h t=>[.num h,.tx t]
 | .plain _ ns=>ns.map .num
 | .xG _ ns r=>ns.map .num++[.row r]
def nY.line:nY->List Nat
 | d=>d.nm++d.parts.flatMap kG.line
theorem QX{H:Hp}{p:Addr}{d:nY}(h:d.At H p):∃ vs,H p=some (.tup (.str (iC d.nm)::vs))/\cj (λv q=>kG.At H v q) vs d.parts:=by
 have nums:∀ ns:List Int,cj (λv q=>kG.At H v q) (ns.map V.int) (ns.map kG.num):=λns=>by
  induction ns with
  | nil=>exact .nil
  | cons x ns ih=>exact .cons rfl ih
 cases d with
 | D3 x t=>exact⟨_,by rw[h,show Str.ofString "pour"=iC [112,111,117,114] by decide +kernel];rfl,.cons rfl (.cons rfl .nil)⟩
 | plain n ns=>exact⟨_,h,nums ns⟩
 | xG n ns r =>
  obtain⟨q,e,z⟩:=h;exact⟨ns.map V.int++[.ref q],by rw[e];rfl,(nums ns).snoc ⟨q,rfl,z⟩⟩
theorem Of{d:nY}(h:d.Ok):∀ q∈d.parts,q.Ok:=by
 cases d with
 | D3 x t =>
  intro q hq;rcases List.mem_cons.mp hq with z|z
  ·rw[z];exact h.1
  ·rw[List.mem_singleton.mp z];exact h.2
 | plain n ns =>
  intro q hq;obtain⟨x,hx,rfl⟩:=List.mem_map.mp hq;exact h.2 x hx
 | xG n ns r =>
  intro q hq;rcases List.mem_append.mp hq with z|z
  ·obtain⟨x,hx,rfl⟩:=List.mem_map.mp z;exact h.2.1 x hx
  ·rw[List.mem_singleton.mp z];exact h.2.2
theorem IA{H:Hp}:∀ {vs:List V} {ps:List kG} {i:Nat} {v:V},cj (λv q=>kG.At H v q) vs ps->vs[i]?=some v->∃ q,ps[i]?=some q/\q.At H v
 | _,_,_,_,.nil,h=>by simp at h
 | _,_,0,_,.cons o t,h=>by
  have e:=vG h;subst e;exact⟨_,rfl,o⟩
 | _,_,i+1,_,.cons o t,h=>by
  obtain⟨q,e,z⟩:=IA (i:=i) t (by simpa using h);exact⟨q,by simpa using e,z⟩
theorem Fe{ps:List kG}(h:∀ q∈ps,q.Ok):(ps.flatMap kG.line).length<=4000*ps.length:=by
 induction ps with
 | nil=>exact Nat.zero_le _
 | cons p ps ih =>
  have z:=ih λq hq=>h q (sF _ hq);have z2:=kG.Iz (h p yC);rw[mZ,dX,qC,Nat.mul_add,Nat.mul_one];omega
theorem Ub(n:List Nat):∀ ws:pP,jX.jn 32 (n::ws)=n++ws.flatMap (λw=>32::w):=by
 intro ws
 induction ws generalizing n with
 | nil=>show n=_;simp
 | cons w ws ih =>
  show n++32::jX.jn 32 (w::ws)=_;rw[ih w,mZ];simp
theorem IB{D:List (Str × Int)}{n:List Nat}{k:Int}(hD:∀ p∈D,32∉p.1.cps.toList/\p.1.cps.toList≠[112,111,117,114]/\p.1.cps.toList≠Iv/\p.1.cps.toList.length<=10)(h:rY D n=some k):32∉n/\n≠[112,111,117,114]/\n≠Iv/\n.length<=10:=by
 have z:=hD _ (List.mem_of_find?_eq_some (C2 h));have e:(iC n).cps.toList=n:=jX.wN n;rw[show ((iC n,k):Str × Int).1=iC n from rfl,e]at z;exact z
theorem QY{n:List Nat}{k:Int}(h:rY Ua n=some k):32∉n/\n≠[112,111,117,114]/\n≠Iv/\n.length<=10:=IB (by decide +kernel) h
theorem QZ{n:List Nat}{k:Int}(h:rY AHD n=some k):32∉n/\n≠[112,111,117,114]/\n≠Iv/\n.length<=10:=IB (by decide +kernel) h
theorem Q0(r:Row):Iw r=(r.map zh).flatMap λw=>32::w:=by
 induction r with
 | nil=>rfl
 | cons x r ih=>rw[oK,mZ,← ih];rfl
theorem nY.At.same{H H':Hp}{p:Addr}{d:nY}(h:d.At H p)(s:aG H H'):d.At H' p:=by
 cases d with
 | D3 x t=>exact s _ _ h
 | plain n ns=>exact s _ _ h
 | xG n ns r=>obtain⟨q,e,r1⟩:=h;exact⟨q,s _ _ e,r1.same s⟩
theorem Og{n:List Nat}{k:Int}(h:rY Ua n=some k):k<=5:=by
 have z:∀ p∈Ua,p.2<=5:=by decide +kernel
 exact z _ (List.mem_of_find?_eq_some (C2 h))
theorem Oh{n:List Nat}{k:Int}(h:rY AHD n=some k):k<=5:=by
 have z:∀ p∈AHD,p.2<=5:=by decide +kernel
 exact z _ (List.mem_of_find?_eq_some (C2 h))
theorem KQ{d:nY}(ok:d.Ok):d.nm≠Iv/\d.nm.length<=10/\d.parts.length<=10:=by
 cases d with
 | D3 x t=>exact⟨by show [112,111,117,114]≠Iv;decide,by show 4<=10;decide,by show 2<=10;decide⟩
 | plain n ns =>
  obtain⟨_,_,f3,f4⟩:=QY ok.1;have:=Og ok.1;exact⟨f3,f4,by show (ns.map kG.num).length<=10;rw[cS];omega⟩
 | xG n ns r =>
  obtain⟨_,_,f3,f4⟩:=QZ ok.1;have:=Oh ok.1;exact⟨f3,f4,by show (ns.map kG.num++[kG.row r]).length<=10;rw[dX,cS];show ns.length+1<=10;omega⟩
inductive C3(vs:List V)(H:Hp)(Q:VK)(E:XK):Prop
 | mk (q:Addr) (r:Row) (_:vs=[.ref q]) (_:cL H q r) (_:QV r) (_: ∀ (a:Addr) (H':Hp),H' a=some (qt (r.map zh))->aG H H'->H a=none->Q (.ref a) H')
theorem IC:aJ ["row"] ["row"] (aA mO):=jd
theorem Q2{a b:Int}(ha:0<=a)(hb:0<=b):(Str.empty++Str.ofString (toString a)++Str.ofString "-"++Str.ofString (toString b))=iC (zh (a,b)):=by
 rw[jX.BI ha,jX.BI hb,show Str.ofString "-"=iC [45] by decide +kernel,show Str.empty=iC [] from rfl,F1,F1,F1];simp
theorem Gj{f:Addr}(F:iK K "ink_words" "ink_words" mO f fd)(T:nL mg):aC P w K mg base bZ 1 f fd iH C3:=by
 refine lW F IC λdJ A outer s H vs Q E hr h=>?_;obtain⟨q,r,rfl,⟨as,hq,pa⟩,⟨lr,fr⟩,k⟩:=h;refine⟨_,(au (aO (mh (N:=["start","stop"]) (ud (sc:=aA mO) (NX:=["row"]) (jx:=[none,none]) rfl rfl rfl (by decide +kernel) (by decide +kernel) rfl (by decide +kernel) rfl (by decide +kernel)) rfl (cX (pv 0)) (λ_ _ _ _ _ _=>(BH (n:=2) rfl (cB (cE (i:=0) (show List.Nodup (["start","stop"]:List Str) by decide +kernel)) (cB (cE (i:=1) (show List.Nodup (["start","stop"]:List Str) by decide +kernel)) kY)))) (λ_ _ _ _ _ _=>mF) (λ_ _ _ _ _ _=>(jX.Qv (jX.L5 (pv 0) (jX.TU (jX.L5 (pv 1) jX.TR)))))))),?_⟩;have lp:=Paired.length pa;refine⟨_,rfl,q,rfl,⟨_,bR.of hq⟩,λacc fH=>kB (K:=K) (a:=q) (xs:=as.map V.ref) (λi σ H2=>∃ u0 u1:Option V,σ=[u0,u1]/\H2 acc=some (qt ((r.take i).map zh))/\aG H H2) ⟨none,none,rfl,af,ak fH _⟩ (by rintro i σ H2 _ ⟨_,_,_,_,s2⟩;exact bR.of (s2 _ _ hq)) ?_ ?_⟩
 ·rintro i y σ H2 hi ⟨u0,u1,rfl,h2,s2⟩;rw[j3]at hi;obtain⟨a,ei,rfl⟩:=Option.map_eq_some_iff.mp hi;obtain⟨p,ep,hp⟩:=pa.get ei;have fp:=fr p (vn ep);have il:=(List.getElem?_eq_some_iff.mp ep).1;refine⟨a,_,rfl,ef.of (s2 _ _ hp),rfl,_,_,rfl,_,_,rfl,rfl,?_⟩;refine⟨_,rfl,_,rfl,Gi fp.1,_,rfl,_,rfl,Gi fp.2,_,h2,aX (by rw[cS,cS,jK];omega),_,_,rfl,?_,bV fH s2 (aN acc _ _)⟩;rw[af,take_snoc ep,kT,oK,List.map_nil,Q2 fp.1.1 fp.2.1];show some (HO.lst _)=some (HO.lst _);rw[kT];rfl
 ·rintro σ H2 ⟨u0,u1,rfl,h2,s2⟩;rw[cS,lp,lR]at h2;exact k acc H2 h2 s2 fH
def kG.words:kG->pP
 | .num x=>[jX.dg x]
 | .tx t=>[t]
 | .row r=>r.map zh
theorem yh(ps:List kG):(ps.flatMap kG.words).flatMap (λw=>32::w)=ps.flatMap kG.line:=by
 induction ps with
 | nil=>rfl
 | cons p ps ih =>
  rw[mZ,mZ,List.flatMap_append,ih];congr 1
  cases p with
  | num x=>show (32::jX.dg x)++[]=32::jX.dg x;rw[kW]
  | tx t=>show (32::t)++[]=32::t;rw[kW]
  | row r=>exact (Q0 r).symm
inductive ID(vs:List V)(H:Hp)(Q:VK)(E:XK):Prop
 | mk (p:Addr) (d:nY) (_:vs=[.ref p]) (_:d.At H p) (_:d.Ok) (_:d.nm≠Iv/\d.nm.length<=10/\d.parts.length<=10) (_: ∀ H',aG H H'->Q (.str (iC d.line)) H')
theorem qM:aJ ["deed","words","thing"] ["deed"] (aA pU):=jd
theorem IE(W:pP):(W.map List.length).sum+W.length=(W.flatMap λw=>32::w).length:=by
 induction W with
 | nil=>rfl
 | cons x W ih =>
  rw[oK,List.sum_cons,qC,mZ,dX,qC,← ih];omega
theorem Oi(a b:pP):(a.map λw=>V.str (iC w))++(b.map λw=>V.str (iC w))=(a++b).map λw=>V.str (iC w):=List.map_append.symm
theorem D4{f:Addr}(F:iK K "shown_deed" "shown_deed" pU f fd)(T:nL mg)(kH:aF K mg "ink_words" mO iH fI gI):aC P w K mg base bZ 2 f fd ["deed"] ID:=by
 have yi:aC P w K mg base bZ 1 _ _ iH C3:=Gj kH.F T;refine lW F qM λdJ A outer s H vs Q E hr h=>?_;obtain⟨p,d,rfl,hd,ok,nn,k⟩:=h;refine⟨_,(aj (bT (bh gU (aV br (pv 0) ay) bG (bz _)) (au (aO (gV PySem.F.plainAttrs_str PySem.F.slot_str_join PySem.F.type_str_join jX.Ia bG (aa (bC ng (bC ng (bC ng (bQ (aa bG ah)) (aK kH yi hr (aa (aV br (pv 0) ay) ah))) (bQ (aa bG ah))) (aK kH yi hr (aa (aV br (pv 0) ay) ah))) ah)))) bu) (aj (bx (i:=1) qM.nd (bQ (aa (aV br (pv 0) ay) ah))) (aj (gz PassesOwn.never rfl (Wj (j7 Wv (pv 0) (lu ay) qE)) (cE (i:=2) qM.nd) (au (zE (i:=1) qM.nd rfl (Or.inl rfl) (OV (lT (cO fX rfl T.dY A9 (aa (pv 2) (aa (vf rfl T.mQ xQ) ah)))) (aK kH yi hr (aa (pv 2) ah)) (bQ (aa (Ic.ZD (pv 2)) ah))) zZ))) (au (aO (gV PySem.F.plainAttrs_str PySem.F.slot_str_join PySem.F.type_str_join jX.Ia bG (aa (pv 1) ah))))))),?_⟩;have tt:Str.ofString "tie"=iC Iv:=by decide +kernel
 have kil:PySem.W.kitOne K (.type "int") (.type "list")=some false:=by kernel_rfl
 have ksl:PySem.W.kitOne K (.type "str") (.type "list")=some false:=by kernel_rfl
 obtain⟨vs,hp,al⟩:=QX hd;obtain⟨n1,n2,n3⟩:=nn;have pk:=Of ok;have lv:=al.len;have ln:d.line=d.nm++d.parts.flatMap kG.line:=rfl;refine⟨_,rfl,p,_,_,_,rfl,rfl,ef.of hp,yc,?_⟩;refine⟨rfl,_,rfl,dO (λc=>absurd (of_decide_eq_true c) (by rw[tt];intro z;exact n1 (TQ (V.str.inj z)))) (λ_=>?_)⟩;refine⟨_,rfl,p,_,_,_,rfl,rfl,ef.of hp,yc,lX,λwl fwl=>?_⟩;have s0:=ak fwl (.lst [.str (iC d.nm)]);have h0:(aQ H wl (.lst [.str (iC d.nm)])) wl=some (qt [d.nm]):=af;refine⟨_,rfl,_,rfl,p,_,rfl,ef.of (s0 _ _ hp),?_,λtp htp=>?_⟩
 ·rintro⟨z,_⟩;have e:HT.jD (V.str (iC d.nm)::vs).length 0 (some 1)=min 1 (V.str (iC d.nm)::vs).length:=HT.Lq _ _ 1;have z':HT.jD (V.str (iC d.nm)::vs).length 0 (some 1)=0:=z;rw[e,qC]at z';omega
 have ec:pT (V.str (iC d.nm)::vs) (some 1) none=vs:=by
  unfold pT;have e:HT.jD (V.str (iC d.nm)::vs).length 0 (some 1)=1:=(HT.Lq _ _ 1).trans (by rw[qC];omega);have e2:HT.jD (V.str (iC d.nm)::vs).length (V.str (iC d.nm)::vs).length none=vs.length+1:=rfl;rw[e,e2];show vs.take (vs.length+1-1)=vs;exact xP (by omega)
 rw[ec];change (aQ H wl (.lst [.str (iC d.nm)])) tp=none at htp;have s1':=ak htp (.tup vs);have h1:(aQ (aQ H wl (.lst [.str (iC d.nm)])) tp (.tup vs)) tp=some (.tup vs):=af;have h1w:=s1' _ _ h0;have s1:=s0.trans s1';have nwt:wl≠tp:=az h0 htp;generalize aQ (aQ H wl (.lst [.str (iC d.nm)])) tp (.tup vs)=H1 at s1 h1 h1w;refine⟨tp,rfl,⟨_,ef.of h1⟩,SE (K:=K) (a:=tp) (xs:=vs) (λi σ H2=>∃ u:Option V,σ=[some (.ref p),some (.ref wl),u]/\H2 wl=some (qt (d.nm::(d.parts.take i).flatMap kG.words))/\H2 tp=some (.tup vs)/\aG H H2) ⟨none,rfl,by rw[List.take_zero,List.flatMap_nil];exact h1w,h1,s1⟩ (by rintro i σ H2 _ ⟨_,_,_,h2,_⟩;exact ef.of h2) ?_ ?_⟩
 ·rintro i v σ H2 hi ⟨u,rfl,h2,h2t,s2⟩;obtain⟨q,eq,hq⟩:=IA al hi;have qk:=pk q (vn eq);have ql:=kG.Iz qk;have fl:=Fe (ps:=d.parts.take i) λq hq=>pk q (List.mem_of_mem_take hq);have ft:(d.parts.take i).length<=10:=by rw[jK];omega
  have fs:=IE ((d.parts.take i).flatMap kG.words);rw[yh]at fs
  have nx:d.nm::(d.parts.take (i+1)).flatMap kG.words=(d.nm::(d.parts.take i).flatMap kG.words)++q.words:=by
   rw[take_snoc eq,List.flatMap_append,mZ,List.flatMap_nil,kW,List.cons_append]
  have lB:(d.nm::(d.parts.take i).flatMap kG.words).length<=50000:=by rw[qC];omega
  have lq:q.words.length<=29:=by
   cases q with
   | num x=>show 1<=29;decide
   | tx t=>show 1<=29;decide
   | row r=>show (r.map zh).length<=29;rw[cS];exact qk.1
  have oB:∀ (t:Addr) (H3:Hp) (v':V),aG H2 H3->H2 t=none->H3 t=some (qt q.words)->∃ (l b:Addr) (xs zs:List V),V.ref wl=.ref l/\V.ref t=.ref b/\H3 l=some (.lst xs)/\H3 b=some (.lst zs)/\xs.length+zs.length<=sizeLine/\∃ u:Option V,([some (.ref p),some (.ref wl),some v']:List (Option V)).set 1 (some (.ref l))=[some (.ref p),some (.ref wl),u]/\(aQ H3 l (.lst (xs++zs))) wl=some (qt (d.nm::(d.parts.take (i+1)).flatMap kG.words))/\(aQ H3 l (.lst (xs++zs))) tp=some (.tup vs)/\aG H (aQ H3 l (.lst (xs++zs))):=by
   intro t H3 v' s3 LS h3;refine⟨wl,t,_,_,rfl,rfl,s3 _ _ h2,h3,kX (aX (by rw[cS,cS];omega)),_,rfl,?_,?_,?_⟩
   ·rw[Oi,af,nx]
   ·rw[aL nwt.symm];exact s3 _ _ h2t
   ·exact bV fwl (s2.trans s3) (aN wl _ _)
  cases q with
  | num x =>
   cases (show v=.int x from hq);refine⟨_,rfl,_,rfl,_,"list",_,_,rfl,.int x,kil,_,rfl,iI ⟨_,rfl,.inl ⟨x,rfl,Gi qk,?_⟩⟩⟩;rw[jX.BI qk.1];exact⟨lX,λt LS=>oB t _ (.int x) (ak LS _) LS af⟩
  | tx t =>
   cases (show v=.str (iC t) from hq);have lt:t.length<=200:=qk;refine⟨_,rfl,_,rfl,_,"list",_,_,rfl,.str _,ksl,_,rfl,iI ⟨_,rfl,.inr ⟨t,rfl,by omega,?_⟩⟩⟩;exact⟨lX,λt' LS=>oB t' _ (.str (iC t)) (ak LS _) LS af⟩
  | row r =>
   obtain⟨qa,rfl,hr⟩:=hq;have Mc:=hr.same s2;obtain⟨as,has,_⟩:=id Mc;refine⟨_,rfl,_,rfl,_,"list",_,_,rfl,.lst has,Zn K,_,rfl,j9 ?_⟩;exact⟨_,rfl,qa,r,rfl,Mc,qk,λt H3 h3 s3 LS=>oB t H3 (.ref qa) s3 LS h3⟩
 ·rintro σ H2 ⟨u,rfl,h2,h2t,s2⟩;rw[lv,lR]at h2;have fs:=IE (d.parts.flatMap kG.words);rw[yh]at fs;have fl:=Fe (ps:=d.parts) pk;refine⟨rfl,_,rfl,wl,32,_,by rw[show Str.ofString " "=⟨#[32]⟩ by decide +kernel],rfl,h2,?_,?_⟩
  ·rw[oK,List.sum_cons,qC];omega
  rw[Ub,yh,← ln];exact k H2 s2
structure aad(S:Addr->Prop)(H:Hp)(st op r:Addr)(aP:List aT):Prop where
 own:S r
 ne:r≠st/\r≠op
 at':bL H (.ref r) aP
def KR(S:Addr->Prop)(H:Hp)(st op a:Addr)(rows:List (List aT)):Prop:=S a/\a≠st/\a≠op/\∃ rs:List Addr,H a=some (.lst (rs.map V.ref))/\cj (aad S H st op) rs rows
abbrev qu:=List (List (List aT))
structure Opn(bI:qu)(ops:List Int):Prop where
 Ff:∃ last,bI.getLast?=some last/\ops.length=last.length
 fit:∀ (s:Nat) (o:Int),ops[s]?=some o->0<=o/\o<bI.length/\∀ (m:Nat) (rows:List (List aT)),bI[m]?=some rows->(o<=m↔s<rows.length)
 less:∀ (m:Nat) (rows:List (List aT)),bI[m]?=some rows->rows.length<=ops.length
structure Sh(C:Addr)(S:Addr->Prop)(H:Hp)(x d st op:Addr)(bI:qu)(ops:List Int):Prop where
 sx:S x
 ss:S st
 so:S op
 al:∀ a,S a->∃ ob,H a=some ob
 hx:H x=some (.ins C d [("states",.ref st),("openings",.ref op)])
 hs:∃ as:List Addr,H st=some (.lst (as.map V.ref))/\cj (KR S H st op) as bI
 ho:H op=some (.lst (ops.map V.int))
 ne:st≠op
 Sb:Opn bI ops
theorem bL.fr{H H':Hp}{r:Addr}{aP:List aT}(h:bL H (.ref r) aP)(k:∀ xs,H r=some (.lst xs)->H' r=some (.lst xs))(t:∀ a xs,H a=some (.tup xs)->H' a=some (.tup xs)):bL H' (.ref r) aP:=by
 obtain⟨a,vs,e,h1,h2⟩:=h;cases e;exact⟨r,vs,rfl,k _ h1,h2.mono λv it ⟨b,e,hb⟩=>⟨b,e,t _ _ hb⟩⟩
theorem KR.fr{S S':Addr->Prop}{H H':Hp}{st a:Addr}{rows:List (List aT)}(h:KR S H st op a rows)(sub:∀ a,S a->S' a)(k:∀ a ob,H a=some ob->S a->a≠st->a≠op->H' a=some ob)(t:∀ a xs,H a=some (.tup xs)->H' a=some (.tup xs)):KR S' H' st op a rows:=by
 obtain⟨sa,n1,n2,rs,hr,al⟩:=h;exact⟨sub _ sa,n1,n2,rs,k _ _ hr sa n1 n2,al.mono λr aP q=>⟨sub _ q.own,q.ne,q.at'.fr (λxs e=>k _ _ e q.own q.ne.1 q.ne.2) t⟩⟩
theorem Sh.fr{S:Addr->Prop}{H H':Hp}{x d st:Addr}{bI:qu}{ops:List Int}(h:Sh C S H x d st op bI ops)(k:∀ a ob,H a=some ob->S a->H' a=some ob)(t:∀ a xs,H a=some (.tup xs)->H' a=some (.tup xs)):Sh C S H' x d st op bI ops:=by
 obtain⟨sx,ss,so,al,hx,⟨as,hs,a2⟩,ho,ne,Sb⟩:=h;refine⟨sx,ss,so,λa z=>?_,k _ _ hx sx,⟨as,k _ _ hs ss,a2.mono λa rows q=>q.fr (λ_ z=>z) (λa ob e z _ _=>k _ _ e z) t⟩,k _ _ ho so,ne,Sb⟩;obtain⟨ob,e⟩:=al a z;exact⟨ob,k _ _ e z⟩
theorem Sh.same{S:Addr->Prop}{H H':Hp}{x d st:Addr}{bI:qu}{ops:List Int}(h:Sh C S H x d st op bI ops)(k:aG H H'):Sh C S H' x d st op bI ops:=h.fr (λa ob e _=>k a ob e) (λa xs e=>k _ _ e)
theorem Sh.keep{S:Addr->Prop}{H H':Hp}{x d st:Addr}{bI:qu}{ops:List Int}{ls:List V}(h:Sh C S H x d st op bI ops)(hl:H l=some (.lst ls))(nl:¬ S l)(k:cY l H H'):Sh C S H' x d st op bI ops :=
 h.fr (λa ob e z=>k a ob e (λq=>nl (by rw[← q];exact z))) (λa xs e=>k _ _ e (eL e hl))
theorem C4:∀ {as bs:List Addr},as.map V.ref=bs.map V.ref->as=bs
 | [],[],_=>rfl
 | [],_::_,h=>by cases h
 | _::_,[],h=>by cases h
 | a::as,b::bs,h=>by
  rw[oK,oK]at h;injection h with h1 h2;cases h1;rw[C4 h2]
theorem Sh.last{S:Addr->Prop}{H:Hp}{x d st:Addr}{bI:qu}{ops:List Int}(h:Sh C S H x d st op bI ops){as:List Addr}(ha:H st=some (.lst (as.map V.ref))):∃ Qm a,as=Qm++[a]/\∀ last,bI.getLast?=some last->KR S H st op a last:=by
 obtain⟨bs,hb,a2⟩:=h.hs
 have e:as=bs:=by
  rw[ha]at hb;have:=HO.lst.inj (vG hb);exact C4 this
 subst e;obtain⟨last,hl,_⟩:=h.Sb.Ff
 obtain⟨p',rfl⟩:∃ p',bI=p'++[last]:=by
  rcases uz bI with rfl|⟨p',l,rfl⟩
  ·cases hl
  ·rw[sG,wY]at hl;cases hl;exact⟨p',sG⟩
 obtain⟨Qm,a,rfl,_,r⟩:=a2.split;refine⟨Qm,a,rfl,λl e=>?_⟩;rw[hl]at e;cases e;exact r
theorem yj(xs:List V){p:Int}(h:0<=p):pT xs none (some p)=xs.take p.toNat:=by
 unfold pT;have e1:HT.jD xs.length 0 none=0:=rfl
 have e2:HT.jD xs.length xs.length (some p)=min p.toNat xs.length:=by
  show (if p<0 then (p+(xs.length:Int)).toNat else min p.toNat xs.length)=_;rw[if_neg (by omega)]
 rw[e1,e2,List.drop_zero,Nat.sub_zero];rcases Nat.le_total p.toNat xs.length with z|z
 ·rw[Nat.min_eq_left z]
 ·rw[Nat.min_eq_right z,xP (jz _),xP z]
theorem Al(xs:List V){p:Int}(h:0<=p):pT xs (some p) none=xs.drop p.toNat:=by
 unfold pT;have e1:HT.jD xs.length xs.length none=xs.length:=rfl
 have e2:HT.jD xs.length 0 (some p)=min p.toNat xs.length:=by
  show (if p<0 then (p+(xs.length:Int)).toNat else min p.toNat xs.length)=_;rw[if_neg (by omega)]
 rw[e1,e2];rcases Nat.le_total p.toNat xs.length with z|z
 ·rw[Nat.min_eq_left z,xP (by rw[vq];omega)]
 ·rw[Nat.min_eq_right z,BR (jz _),BR z];simp
inductive Am(vs:List V)(H:Hp)(Q:VK)(E:XK):Prop
 | mk (a r:Addr) (rs:List V) (s:Nat) (_:vs=[.ref a,.int (s:Nat),.ref r]) (_:H a=some (.lst rs)) (_:s<=rs.length) (_:rs.length<=1000) (_: ∀ (p:Addr) (H':Hp),H' p=some (.lst (rs.take s++[.ref r]++rs.drop (s+1)))->aG H H'->H p=none->Q (.ref p) H')
inductive Mn(C:Addr)(vs:List V)(H:Hp)(Q:VK)(E:XK):Prop
 | mk (x d:Addr) (_:vs=[.ref x]) (_:H x=some (.ins C d [])) (_: ∀ (st op z:Addr) (H':Hp),Sh C (λa=>a=x\/a=st\/a=op\/a=z) H' x d st op [[]] []->cY x H H'->H st=none->H op=none->H z=none->Q .jm H')
inductive Mp(C:Addr)(vs:List V)(H:Hp)(Q:VK)(E:XK):Prop
 | mk (x d st op:Addr) (as:List V) (_:vs=[.ref x]) (_:H x=some (.ins C d [("states",.ref st),("openings",.ref op)])) (_:H st=some (.lst as)) (_:Q (.int ((as.length:Nat)-1)) H)
inductive KS(C:Addr)(vs:List V)(H:Hp)(Q:VK)(E:XK):Prop
 | mk (S:Addr->Prop) (x d st op:Addr) (bI:qu) (ops:List Int) (_:vs=[.ref x]) (_:Sh C S H x d st op bI ops) (_:Q (.int (ops.length:Nat)) H)
theorem Oj:aJ ["state","sheet","items"] ["state","sheet","items"] (aA t9):=jd
theorem An:aJ ["self"] ["self"] (aA mD):=jd
theorem IF:aJ ["self"] ["self"] (aA jM):=jd
theorem Gk:aJ ["self"] ["self"] (aA ki):=jd
theorem C5{f:Addr}(F:iK K "changed" "changed" t9 f fd)(T:nL mg):aC P w K mg base bZ 1 f fd MT Am:=by
 refine lW F Oj λdJ A outer s H vs Q E hr h=>?_;obtain⟨a,r,rs,s,rfl,ha,sl,l1,k⟩:=h;refine⟨_,(aj (bT (j5 (yF jG jG ay (pv 1) (jy T.je (pv 0)))) (au B0) bu) (au (aO (bC ng (bC ng (j7 qF (pv 0) qE (lu (pv 1))) (bQ (aa (pv 2) ah))) (j7 qF (pv 0) (lu (bC gj (pv 1) ay)) qE))))),?_⟩;refine⟨_,rfl,_,_,rfl,rfl,_,rfl,dO (λc0=>?_) (λc0=>absurd (decide_eq_true (by omega)) c0)⟩;refine⟨_,rfl,a,_,rfl,.inl (bR.of ha),_,_,rfl,rfl,_,rfl,?_⟩;rw[decide_eq_true (show ((s:Nat):Int)<=((rs.length:Nat):Int) by omega)];refine iI ?_;refine⟨_,rfl,_,rfl,_,rfl,a,_,rfl,bR.of ha,λp1 Yl=>?_⟩;rw[yj _ (by omega),Int.toNat_natCast];have s1:aG H (aQ H p1 (.lst (rs.take s))):=ak Yl _;have h1:(aQ H p1 (.lst (rs.take s))) p1=some (.lst (rs.take s)):=af;generalize aQ H p1 (.lst (rs.take s))=H1 at s1 h1;refine⟨_,rfl,lX,λp2 U6=>?_⟩;have s2:aG H1 (aQ H1 p2 (.lst [.ref r])):=ak U6 _;have h2:(aQ H1 p2 (.lst [.ref r])) p2=some (.lst [.ref r]):=af;generalize aQ H1 p2 (.lst [.ref r])=H2 at s2 h2;refine⟨p1,p2,_,_,rfl,rfl,s2 _ _ h1,h2,(by rw[jK];exact kX (aX (by simp only[vF];omega))),λp3 hp3=>?_⟩;have s3:aG H2 (aQ H2 p3 (.lst (rs.take s++[.ref r]))):=ak hp3 _;have h3:(aQ H2 p3 (.lst (rs.take s++[.ref r]))) p3=some (.lst (rs.take s++[.ref r])):=af;generalize aQ H2 p3 (.lst (rs.take s++[.ref r]))=H3 at s3 h3;have Sd:=s1.trans (s2.trans s3);refine⟨_,rfl,_,rfl,_,_,rfl,rfl,_,rfl,a,_,rfl,bR.of (Sd _ _ ha),λp4 hp4=>?_⟩;rw[Al _ (by omega),show (((s:Nat):Int)+1).toNat=s+1 by omega];have s4:aG H3 (aQ H3 p4 (.lst (rs.drop (s+1)))):=ak hp4 _;have h4:(aQ H3 p4 (.lst (rs.drop (s+1)))) p4=some (.lst (rs.drop (s+1))):=af;generalize aQ H3 p4 (.lst (rs.drop (s+1)))=H4 at s4 h4;refine⟨p3,p4,_,_,rfl,rfl,s4 _ _ h3,h4,(by rw[dX,jK,vq];exact kX (aX (by simp only[vF];omega))),λp5 hp5=>?_⟩;have s04:=Sd.trans s4;exact k p5 _ af (s04.trans (ak hp5 _)) (aY s04 hp5)
theorem zj{f:Addr}(F:iK K "__init__" "Shelf.__init__" mD f fd)(cl:Es K C)(n1:cH K C "states")(n2:cH K C "openings"):aC P w K mg base bZ 1 f fd lZ (Mn C):=by
 refine lW F An λdJ A outer s H vs Q E hr h=>?_;obtain⟨x,d,rfl,hx,k⟩:=h;refine⟨_,(aj (mJ (pv 0) (bQ (aa (bQ ah) ah)) rfl) (au (mJ (pv 0) (bQ ah) rfl))),?_⟩;refine⟨mj,λz hz=>?_⟩;have a0:aG H (aQ H z (.lst [])):=ak hz _;have z0:(aQ H z (.lst [])) z=some (.lst []):=af;generalize aQ H z (.lst [])=H0 at a0 z0;refine⟨lX,λst DK=>?_⟩;have a1:aG H0 (aQ H0 st (.lst [.ref z])):=ak DK _;have b1:(aQ H0 st (.lst [.ref z])) st=some (.lst [.ref z]):=af;generalize aQ H0 st (.lst [.ref z])=H1 at a1 b1;have a01:=a0.trans a1;refine⟨_,rfl,x,C,d,_,rfl,a01 _ _ hx,cl,n1,by decide,?_⟩;have k2:cY x H1 (aQ H1 x (.ins C d (L2.gx "states" (.ref st) []))):=aN x _ _;have h2:(aQ H1 x (.ins C d (L2.gx "states" (.ref st) []))) x=some (.ins C d [("states",.ref st)]):=af;generalize aQ H1 x (.ins C d (L2.gx "states" (.ref st) []))=H2 at k2 h2;have Xn:st≠x:=(az (a0 _ _ hx) DK).symm;have nzx:z≠x:=(az hx hz).symm;have nzs:z≠st:=az z0 DK;have b2:=k2 _ _ b1 Xn;have z2:=k2 _ _ (a1 _ _ z0) nzx;refine⟨mj,λop RU=>?_⟩;have M6:op≠x:=(az h2 RU).symm;have nso:st≠op:=az b2 RU;have nzo:z≠op:=az z2 RU;refine⟨_,rfl,x,C,d,_,rfl,ak RU _ _ _ h2,cl,n2,(by show 1<1000;decide),?_⟩
 have k5:cY x H (aQ (aQ H2 op (.lst [])) x (.ins C d (L2.gx "openings" (.ref op) [("states",.ref st)]))):=λa ob e n=>by
  rw[aL n];exact ak RU _ _ _ (k2 _ _ (a01 _ _ e) n)
 have z5:(aQ (aQ H2 op (.lst [])) x (.ins C d (L2.gx "openings" (.ref op) [("states",.ref st)]))) z=some (.lst []):=by rw[aL nzx];exact ak RU _ _ _ z2
 have s5:(aQ (aQ H2 op (.lst [])) x (.ins C d (L2.gx "openings" (.ref op) [("states",.ref st)]))) st=some (.lst [.ref z]):=by rw[aL Xn];exact ak RU _ _ _ b2
 have o5:(aQ (aQ H2 op (.lst [])) x (.ins C d (L2.gx "openings" (.ref op) [("states",.ref st)]))) op=some (.lst []):=by rw[aL M6];exact af
 have x5:(aQ (aQ H2 op (.lst [])) x (.ins C d (L2.gx "openings" (.ref op) [("states",.ref st)]))) x=some (.ins C d [("states",.ref st),("openings",.ref op)]):=af;generalize aQ (aQ H2 op (.lst [])) x (.ins C d (L2.gx "openings" (.ref op) [("states",.ref st)]))=H5 at k5 z5 s5 o5 x5
 refine k st op z _ ⟨.inl rfl,.inr (.inl rfl),.inr (.inr (.inl rfl)),λa w=>?_,x5,⟨[z],s5,.cons ⟨.inr (.inr (.inr rfl)),nzs,nzo,[],z5,.nil⟩ .nil⟩,o5,nso,⟨⟨[],rfl,rfl⟩,λs o e=>(by cases s <;> cases e),λm rows e=>?_⟩⟩ k5 (aY a0 DK) ?_ hz
 ·rcases w with rfl|rfl|rfl|rfl
  ·exact⟨_,x5⟩
  ·exact⟨_,s5⟩
  ·exact⟨_,o5⟩
  ·exact⟨_,z5⟩
 ·match m,e with
  | 0,e=>cases e;exact jz _
  | m+1,e=>cases e
 ·exact aY a01 (mX k2 M6 RU)
theorem uT{f:Addr}(F:iK K "now" "Shelf.now" jM f fd)(T:nL mg)(cl:Es K C)(n1:cH K C "states"):aC P w K mg base bZ 1 f fd lZ (Mp C):=by
 refine lW F IF λdJ A outer s H vs Q E hr h=>?_;obtain⟨x,d,st,op,as,rfl,hx,hs,k⟩:=h;refine⟨_,(au (aO (bC dm (jy T.je (dN (pv 0) rfl)) ay))),?_⟩;exact⟨_,rfl,x,C,d,_,.ref st,rfl,hx,cl,n1,rfl,st,_,rfl,.inl (bR.of hs),_,_,rfl,rfl,k⟩
theorem xH{f:Addr}(F:iK K "many" "Shelf.many" ki f fd)(T:nL mg)(cl:Es K C)(n1:cH K C "states"):aC P w K mg base bZ 1 f fd lZ (KS C):=by
 refine lW F Gk λdJ A outer s H vs Q E hr h=>?_;obtain⟨S,x,d,st,op,bI,ops,rfl,W,k⟩:=h;obtain⟨as,hs,a2⟩:=W.hs;obtain⟨last,hl,ol⟩:=W.Sb.Ff;refine⟨_,(au (aO (jy T.je (aV bP (dN (pv 0) rfl) (jF gS ay))))),?_⟩;obtain⟨Qm,a,rfl,r⟩:=W.last hs;refine⟨_,rfl,x,C,d,_,.ref st,rfl,W.hx,cl,n1,rfl,_,rfl,st,_,_,.ref a,rfl,rfl,bR.of hs,(by rw[kT];exact iO _ _),?_⟩;obtain⟨_,_,_,rs,ha,al⟩:=r last hl;refine⟨a,_,rfl,.inl (bR.of ha),?_⟩;rw[cS,al.len,← ol];exact k
def ap1(rows:List (List aT))(ch:Nat × List aT):List (List aT):=rows.take ch.1++[ch.2]++rows.drop (ch.1+1)
def uU(rows:List (List aT))(vh:List (Nat × List aT)):List (List aT):=vh.foldl ap1 rows
def Xo(rows:List (List aT))(vh:List (Nat × List aT)):Prop:=∀ (i:Nat) (ch:Nat × List aT),vh[i]?=some ch->ch.1<=(uU rows (vh.take i)).length
theorem Uc{rows:List (List aT)}{ch:Nat × List aT}(h:ch.1<=rows.length):rows.length<=(ap1 rows ch).length/\(ap1 rows ch).length<=rows.length+1:=by
 unfold ap1;rw[dX,dX,jK,vq];simp only[vF];omega
theorem Fg{rows:List (List aT)}{vh:List (Nat × List aT)}{i:Nat}{ch:Nat × List aT}(h:vh[i]?=some ch):uU rows (vh.take (i+1))=ap1 (uU rows (vh.take i)) ch:=by
 unfold uU;rw[take_snoc h,List.foldl_append];rfl
theorem C6{rows:List (List aT)}{vh:List (Nat × List aT)}(ok:Xo rows vh):∀ i,i<=vh.length->rows.length<=(uU rows (vh.take i)).length/\(uU rows (vh.take i)).length<=rows.length+i
 | 0,_=>⟨Nat.le_refl _,jz _⟩
 | i+1,h=>by
  have e:vh[i]?=some vh[i]:=oJ (by omega);have a:=C6 ok i (by omega);have b:=Uc (ok i _ e);rw[Fg e];omega
theorem Opn.step{bI:qu}{ops:List Int}{last rows:List (List aT)}(h:Opn bI ops)(hl:bI.getLast?=some last)(le:last.length<=rows.length):Opn (bI++[rows]) (ops++List.replicate (rows.length-last.length) ((bI.length:Nat):Int)):=by
 obtain⟨⟨l',hl',ol⟩,fit,less⟩:=h;rw[hl]at hl';cases hl'
 have get:∀ (m:Nat) (r:List (List aT)),(bI++[rows])[m]?=some r->bI[m]?=some r/\m<bI.length\/m=bI.length/\r=rows:=λm r e=>by
  by_cases c:m<bI.length
  ·rw[List.getElem?_append_left c]at e;exact .inl ⟨e,c⟩
  ·rw[List.getElem?_append_right (by omega)]at e
   match hm:m-bI.length,e with
   | 0,e=>cases e;exact .inr ⟨by omega,rfl⟩
   | k+1,e=>cases e
 refine⟨⟨rows,wY,by rw[dX,List.length_replicate];omega⟩,λs o e=>?_,λm r e=>?_⟩
 ·by_cases c:s<ops.length
  ·rw[List.getElem?_append_left c]at e;obtain⟨f0,f1,f2⟩:=fit s o e;refine⟨f0,by rw[dX];simp only[vF];omega,λm r em=>?_⟩;rcases get m r em with ⟨q,_⟩|⟨rfl,rfl⟩
   ·exact f2 m r q
   ·constructor
    ·intro _;omega
    ·intro _;omega
  ·rw[List.getElem?_append_right (by omega),List.getElem?_replicate]at e;split at e
   ·cases e;refine⟨by omega,by rw[dX];simp only[vF];omega,λm r em=>?_⟩;rcases get m r em with ⟨q,lt⟩|⟨rfl,rfl⟩
    ·have:=less m r q;constructor
     ·intro z;omega
     ·intro z;omega
    ·constructor
     ·intro _;omega
     ·intro _;omega
   ·cases e
 ·rw[dX,List.length_replicate];rcases get m r e with ⟨q,_⟩|⟨rfl,rfl⟩
  ·have:=less m r q;omega
  ·omega
theorem cj.take{α β:Type}{R:α->β->Prop}:∀ {as:List α} {bs:List β} (n:Nat),cj R as bs->cj R (as.take n) (bs.take n)
 | _,_,0,_=>by rw[List.take_zero,List.take_zero];exact .nil
 | _,_,n+1,.nil=>.nil
 | _,_,n+1,.cons e r=>.cons e (r.take n)
theorem cj.drop{α β:Type}{R:α->β->Prop}:∀ {as:List α} {bs:List β} (n:Nat),cj R as bs->cj R (as.drop n) (bs.drop n)
 | _,_,0,h=>h
 | _,_,n+1,.nil=>.nil
 | _,_,n+1,.cons _ r=>r.drop n
theorem IG(v:V):∀ n:Nat,(List.replicate n [v]).flatten=List.replicate n v
 | 0=>rfl
 | n+1=>by rw[List.replicate_succ,List.flatten_cons,IG v n,List.replicate_succ];rfl
theorem Ud{H:Hp}{a:Addr}{ob:HO}(h:H a=some ob):aQ H a ob=H:=by
 funext b;by_cases e:b=a
 ·rw[e,af,h]
 ·rw[aL e]
def KU(H:Hp)(a:Addr)(ch:Nat × List aT):Prop:=∃ r:Addr,H a=some (.tup [.int (ch.1:Nat),.ref r])/\bL H (.ref r) ch.2
theorem KU.same{H H':Hp}{a:Addr}{ch:Nat × List aT}(s:aG H H'):KU H a ch->KU H' a ch:=λ⟨r,h1,h2⟩=>⟨r,s _ _ h1,h2.same s⟩
inductive II(C:Addr)(vs:List V)(H:Hp)(Q:VK)(E:XK):Prop
 | mk (S:Addr->Prop) (x d st op c:Addr) (bI:qu) (ops:List Int) (cs:List Addr) (vh:List (Nat × List aT)) (last:List (List aT)) (_:vs=[.ref x,.ref c]) (_:Sh C S H x d st op bI ops) (_:H c=some (.lst (cs.map V.ref))) (_:cj (KU H) cs vh) (_:bI.getLast?=some last) (_:Xo last vh) (_:vh.length<=200) (_:last.length<=500) (_:bI.length<=1000) (_ :
 ∀ (S':Addr->Prop) (H':Hp),Sh C S' H' x d st op (bI++[uU last vh]) (ops++List.replicate ((uU last vh).length-last.length) ((bI.length:Nat):Int))->(∀ a,S' a->S a\/H a=none)->(∀ a ob,H a=some ob->¬ S a->H' a=some ob)->(∀ a xs,H a=some (.tup xs)->H' a=some (.tup xs))->Q .jm H')
theorem lI:aJ ["self","changes","state","ahead","sheet","items"] ["self","changes"] (aA pV):=jd
theorem D5{f:Addr}{gN:FuncData}(F:iK K "step" "Shelf.step" pV f fd)(T:nL mg)(bM:ClsAt K mg "Shelf" C fi)(n1:cH K C "states")(n2:cH K C "openings")(jS:aF K mg "changed" t9 MT fC gC)(dI:bU K C "now" "Shelf.now" jM lZ fN gN):aC P w K mg base bZ 2 f fd zl3 (II C):=by
 have C7:aC P w K mg base bZ 1 _ _ MT Am:=C5 jS.F T;have oV:aC P w K mg base bZ 1 _ _ lZ (Mp C):=uT dI.F T bM.cl n1;refine lW F lI λdJ A outer s H vs Q E hr h=>?_;obtain⟨S,x,d,st,op,c,bI,ops,cs,vh,last,rfl,W,hc,a2,hl,okc,lc,ll,lp,k⟩:=h;refine⟨_,(aj (bx (i:=2) lI.nd (aV bP (dN (pv 0) rfl) (jF gS ay))) (aj (bx (i:=3) lI.nd (jy T.je (pv 2))) (aj (gz PassesOwn.never rfl (cX (pv 1)) (tM (n:=2) rfl (cB (cE (i:=4) lI.nd) (cB (cE (i:=5) lI.nd) kY))) (au (bx (i:=2) lI.nd (aK jS C7 hr (aa (pv 2) (aa (pv 4) (aa (gX ja rfl T.mQ xQ (aa (pv 5) ah)) ah))))))) (aj (bf (gV vE qj qm cy (dN (pv 0) rfl) (aa (pv 2) ah))) (au (zH (pv 0) (bC Po (bQ (aa (iu (pv 0) bM dI oV hr dh) ah)) (bC dm (jy T.je (pv 2)) (pv 3))) Ks)))))),?_⟩;obtain⟨as,hs,al⟩:=id W.hs;obtain⟨Qm,a,ea,r⟩:=W.last hs;obtain⟨Sa,na1,na2,rs,ha,ar⟩:=r last hl;have lal:=al.len;refine⟨_,rfl,x,C,d,_,.ref st,rfl,W.hx,bM.cl,n1,rfl,_,rfl,st,_,_,.ref a,rfl,rfl,bR.of hs,(by rw[ea,kT];exact iO _ _),?_⟩;refine⟨_,rfl,a,_,rfl,.inl (bR.of ha),?_⟩;rw[cS,ar.len];have DK:∀ q,H q=none->q≠st/\q≠op:=λq hq=>⟨λz=>(by rw[z,hs]at hq;cases hq),λz=>(by rw[z,W.ho]at hq;cases hq)⟩;refine⟨_,rfl,c,rfl,⟨_,bR.of hc⟩,eS (K:=K) (a:=c) (xs:=cs.map V.ref) (λi σ H1=>∃ (u4 u5:Option V) (S1:Addr->Prop) (ai:Addr),σ=[some (.ref x),some (.ref c),some (.ref ai),some (.int (last.length:Nat)),u4,u5]/\aG H H1/\(∀ q,S q->S1 q)/\(∀ q,S1 q->S q\/H q=none)/\(∀ q,S1 q->∃ ob,H1 q=some ob)/\KR S1 H1 st op ai (uU last (vh.take i))) ⟨none,none,S,a,rfl,aG.refl _,λ_ z=>z,λ_ z=>.inl z,W.al,r last hl⟩ (by rintro i σ H1 _ ⟨_,_,_,_,_,s,_⟩;exact bR.of (s _ _ hc)) ?_ ?_⟩
 ·rintro i y σ H1 hi ⟨u4,u5,S1,ai,rfl,s1,up,sub,al1,sa1⟩;rw[j3]at hi;obtain⟨t,et,rfl⟩:=Option.map_eq_some_iff.mp hi;obtain⟨ch,ech,q⟩:=a2.get et;have il:=(List.getElem?_eq_some_iff.mp ech).1;obtain⟨ri,ht,hri⟩:=q.same s1;obtain⟨b,vs,eb,hb,itb⟩:=id hri;cases eb;obtain⟨Sai,aag,adH,rsi,hai,ari⟩:=id sa1;refine⟨t,_,rfl,ef.of ht,rfl,_,_,rfl,_,_,rfl,rfl,?_⟩;refine⟨_,rfl,_,rfl,_,rfl,ri,_,rfl,.inl (bR.of hb),λz hz=>?_⟩;have s2:aG H1 (aQ H1 z (.lst vs)):=ak hz _;have z2:(aQ H1 z (.lst vs)) z=some (.lst vs):=af;generalize aQ H1 z (.lst vs)=H2 at s2 z2;have lens:=C6 okc i (by omega);have adI:=okc i ch ech;have lri:=ari.len;refine⟨ai,z,_,ch.1,rfl,s2 _ _ hai,by rw[cS,lri];exact adI,by rw[cS,lri];omega,λp H3 hp3 s3 fp=>?_⟩;have s23:=s2.trans s3;have fz:H z=none:=aY s1 hz;have fp':H p=none:=aY (s1.trans s2) fp;refine⟨_,_,λq=>S1 q\/q=z\/q=p,p,rfl,s1.trans s23,λq z=>.inl (up q z),λq w=>?_,λq w=>?_,.inr (.inr rfl),(DK p fp').1,(DK p fp').2,rsi.take ch.1++[z]++rsi.drop (ch.1+1),?_,?_⟩
  ·rcases w with w|rfl|rfl
   ·exact sub q w
   ·exact .inr fz
   ·exact .inr fp'
  ·rcases w with w|rfl|rfl
   ·obtain⟨ob,e⟩:=al1 q w;exact⟨ob,s23 _ _ e⟩
   ·exact⟨_,s3 _ _ z2⟩
   ·exact⟨_,hp3⟩
  ·rw[hp3];simp only[kT,List.map_take,List.map_drop,oK,List.map_nil]
  ·rw[Fg ech];have mv:cj (aad (λq=>S1 q\/q=z\/q=p) H3 st op) rsi (uU last (vh.take i)):=ari.mono λr aP q=>⟨.inl q.own,q.ne,q.at'.same s23⟩;refine ((mv.take ch.1).app (.cons ⟨.inr (.inl rfl),DK z fz,⟨z,vs,rfl,s3 _ _ z2,itb.mono λv it q=>q.same s23⟩⟩ .nil)).app (mv.drop (ch.1+1))
 ·rintro σ H1 ⟨u4,u5,S1,ai,rfl,s1,up,sub,al1,sa1⟩;have lcs:(cs.map V.ref).length=vh.length:=by rw[cS,a2.len]
  rw[lcs,lR]at sa1;have lens:=C6 okc vh.length (jz _);rw[lR]at lens;obtain⟨Sai,aag,adH,rsi,hai,ari⟩:=id sa1;have lri:=ari.len;have W1:=W.same s1;have Xp:=s1 _ _ hs;refine⟨_,rfl,x,C,d,_,.ref st,rfl,W1.hx,bM.cl,n1,rfl,.inl ⟨rfl,_,bR.of Xp⟩,_,rfl,st,_,_,rfl,rfl,Xp,(by rw[cS];exact aX (by omega)),?_⟩;rw[show as.map V.ref++[.ref ai]=(as++[ai]).map V.ref by rw[kT];rfl];have k2:cY st H1 (aQ H1 st (.lst ((as++[ai]).map V.ref))):=aN st _ _;have st2:(aQ H1 st (.lst ((as++[ai]).map V.ref))) st=some (.lst ((as++[ai]).map V.ref)):=af;generalize aQ H1 st (.lst ((as++[ai]).map V.ref))=H2 at k2 st2;have nxs:x≠st:=eL W1.hx Xp;have nxo:x≠op:=eL W1.hx W1.ho;have x2:=k2 _ _ W1.hx nxs;have o2:=k2 _ _ W1.ho W.ne.symm;have ai2:=k2 _ _ hai aag
  have lmn:(((as++[ai]).map V.ref).length:Int)-1=((bI.length:Nat):Int):=by
   rw[cS,dX,lal];simp only[vF];omega
  refine⟨_,rfl,x,C,d,_,.ref op,rfl,x2,bM.cl,n2,rfl,_,rfl,x,d,_,rfl,x2,rfl,x,d,st,op,_,rfl,x2,st2,?_⟩;rw[lmn];refine⟨lX,λt2 Ox=>?_⟩;have s3:aG H2 (aQ H2 t2 (.lst [.int (bI.length:Nat)])):=ak Ox _;have b3:(aQ H2 t2 (.lst [.int (bI.length:Nat)])) t2=some (.lst [.int (bI.length:Nat)]):=af;generalize aQ H2 t2 (.lst [.int (bI.length:Nat)])=H3 at s3 b3;refine⟨_,rfl,ai,_,rfl,.inl (bR.of (s3 _ _ ai2)),_,rfl,_,_,rfl,rfl,?_⟩;rw[cS,lri];have ek:(((uU last vh).length:Nat):Int)-((last.length:Nat):Int)=(((uU last vh).length-last.length:Nat):Int):=by omega
  show Y9 _ (V.int ((((uU last vh).length:Nat):Int)-((last.length:Nat):Int))) _ _;rw[ek];refine⟨t2,_,_,rfl,rfl,b3,by omega,by omega,(by simp only[vF];exact kX (aX (by omega))),λt3 Ue=>?_⟩;rw[Int.toNat_natCast,IG];generalize hk:(uU last vh).length-last.length=kk;have s4:aG H3 (aQ H3 t3 (.lst (List.replicate kk (V.int (bI.length:Nat))))):=ak Ue _;have b4:(aQ H3 t3 (.lst (List.replicate kk (V.int (bI.length:Nat))))) t3=some (.lst (List.replicate kk (V.int (bI.length:Nat)))):=af;generalize aQ H3 t3 (.lst (List.replicate kk (V.int (bI.length:Nat))))=H4 at s4 b4;have s24:=s3.trans s4
  have lo:ops.length<=700:=by
   obtain⟨l',hl',ol⟩:=W.Sb.Ff;rw[hl]at hl';cases hl';omega
  refine⟨op,t3,_,_,rfl,rfl,s24 _ _ o2,b4,(by rw[cS,List.length_replicate];exact kX (aX (by omega))),?_⟩;rw[show ops.map V.int++List.replicate kk (V.int (bI.length:Nat))=(ops++List.replicate kk ((bI.length:Nat):Int)).map V.int by rw[kT,List.map_replicate]];have k5:cY op H4 (aQ H4 op (.lst ((ops++List.replicate kk ((bI.length:Nat):Int)).map V.int))):=aN op _ _;have o5:(aQ H4 op (.lst ((ops++List.replicate kk ((bI.length:Nat):Int)).map V.int))) op=some (.lst ((ops++List.replicate kk ((bI.length:Nat):Int)).map V.int)):=af;generalize aQ H4 op (.lst ((ops++List.replicate kk ((bI.length:Nat):Int)).map V.int))=H5 at k5 o5;have x5:=k5 _ _ (s24 _ _ x2) nxo;refine⟨d,_,x5,(by show 2<1000;decide),?_⟩;have e5:aQ H5 x (.ins C d (L2.gx "openings" (.ref op) ([("states",.ref st),("openings",.ref op)]:List (Str × V))))=H5:=Ud x5;rw[e5];have k15:∀ q ob,H1 q=some ob->q≠st->q≠op->H5 q=some ob:=λq ob e m1 m2=>k5 _ _ (s24 _ _ (k2 _ _ e m1)) m2;have t15:∀ q xs,H1 q=some (.tup xs)->H5 q=some (.tup xs):=λq xs e=>k15 _ _ e (eL e Xp) (eL e W1.ho);have X4:=k5 _ _ (s24 _ _ st2) W.ne;refine k S1 H5 ⟨up _ W.sx,up _ W.ss,up _ W.so,λq w=>?_,x5,⟨as++[ai],X4,?_⟩,by rw[hk];exact o5,W.ne,W.Sb.step hl lens.1⟩ sub (λq ob e n=>?_) (λq xs e=>t15 _ _ (s1 _ _ e))
  ·by_cases z1:q=st
   ·rw[z1];exact⟨_,X4⟩
   by_cases z2:q=op
   ·rw[z2];exact⟨_,o5⟩
   obtain⟨ob,e⟩:=al1 q w;exact⟨ob,k15 _ _ e z1 z2⟩
  ·refine (cj.mono (λa rows q=>?_) al).app (.cons (sa1.fr (λ_ z=>z) (λq ob e _ m1 m2=>k15 _ _ e m1 m2) t15) .nil);exact q.fr up (λq ob e _ m1 m2=>k15 _ _ (s1 _ _ e) m1 m2) (λq xs e=>t15 _ _ (s1 _ _ e))
  ·exact k15 _ _ (s1 _ _ e) (λz=>n (by rw[z];exact W.ss)) (λz=>n (by rw[z];exact W.so))
def qh(n:Nat)(a:Int):Prop:=0<=a/\a<(n:Nat)
theorem qh.get{n:Nat}{a:Int}(h:qh n a):∃ j:Nat,a=j/\j<n:=by
 obtain⟨h0,h1⟩:=h;exact⟨a.toNat,by omega,by omega⟩
def D6(bI:qu)(ops:List Int):Prop:=bI.length<=1000/\ops.length<=1000
inductive nZ(C XS:Addr)(vs:List V)(H:Hp)(Q:VK)(E:XK):Prop
 | mk (S:Addr->Prop) (x d st op:Addr) (bI:qu) (ops:List Int) (s:Int) (_:vs=[.ref x,.int s]) (_:Sh C S H x d st op bI ops) (_:D6 bI ops) (_:m6 s) (_:(qh ops.length s->Q .jm H)) (_:(¬ qh ops.length s->E (.ref XS) none H))
inductive IJ(C XM:Addr)(vs:List V)(H:Hp)(Q:VK)(E:XK):Prop
 | mk (S:Addr->Prop) (x d st op:Addr) (bI:qu) (ops:List Int) (m:Int) (_:vs=[.ref x,.int m]) (_:Sh C S H x d st op bI ops) (_:D6 bI ops) (_:m6 m) (_:(qh bI.length m->Q .jm H)) (_:(¬ qh bI.length m->E (.ref XM) none H))
def Told(H:Hp)(aP:List aT)(Q:V->Hp->Prop):Prop:=∀ (q:Addr) (H':Hp),bL H' (.ref q) aP->aG H H'->H q=none->Q (.ref q) H'
inductive Vm(C XS:Addr)(vs:List V)(H:Hp)(Q:VK)(E:XK):Prop
 | mk (S:Addr->Prop) (x d st op:Addr) (bI:qu) (ops:List Int) (s:Int) (_:vs=[.ref x,.int s]) (_:Sh C S H x d st op bI ops) (_:D6 bI ops) (_:m6 s) (_:(∀ (si:Nat) (last:List (List aT)) (aP:List aT),s=si->bI.getLast?=some last->last[si]?=some aP->Told H aP Q)) (_:(¬ qh ops.length s->E (.ref XS) none H))
def Ug(H H':Hp)(q:Addr)(rows:List (List aT)):Prop:=H q=none/\∃ rs:List Addr,H' q=some (.lst (rs.map V.ref))/\cj (λr aP=>H r=none/\r≠q/\bL H' (.ref r) aP) rs rows
inductive C8(C XM:Addr)(vs:List V)(H:Hp)(Q:VK)(E:XK):Prop
 | mk (S:Addr->Prop) (x d st op:Addr) (bI:qu) (ops:List Int) (m:Int) (_:vs=[.ref x,.int m]) (_:Sh C S H x d st op bI ops) (_:D6 bI ops) (_:m6 m) (_:(∀ (mi:Nat) (rows:List (List aT)),m=mi->bI[mi]?=some rows->∀ (q:Addr) (H':Hp),Ug H H' q rows->aG H H'->Q (.ref q) H')) (_:(¬ qh bI.length m->E (.ref XM) none H))
inductive tQ(C:Addr)(vs:List V)(H:Hp)(Q:VK)(E:XK):Prop
 | mk (S:Addr->Prop) (x d st op:Addr) (bI:qu) (ops:List Int) (_:vs=[.ref x]) (_:Sh C S H x d st op bI ops) (_:D6 bI ops) (_:(∀ (rows:List (List aT)),bI.getLast?=some rows->∀ (q:Addr) (H':Hp),Ug H H' q rows->aG H H'->Q (.ref q) H'))
theorem xg:aJ ["self","sheet"] ["self","sheet"] (aA iM):=jd
theorem vS:aJ ["self","moment"] ["self","moment"] (aA eZ):=jd
theorem IK:aJ ["self","sheet"] ["self","sheet"] (aA uG):=jd
theorem zk:aJ ["self","moment"] ["self","moment"] (aA iJ):=jd
theorem Gm:aJ ["self"] ["self"] (aA sN):=jd
structure Ym(K:PySem.W.Frag)(mg:Str->Option Value)(C XS XM:Addr):Prop where
 T:nL mg
 c:∃ fi,ClsAt K mg "Shelf" C fi
 n1:cH K C "states"
 n2:cH K C "openings"
 zs:Qq K mg "NoSheet" XS
 zm:Qq K mg "NoMoment" XM
theorem cP{f:Addr}(F:iK K "check_sheet" "Shelf.check_sheet" iM f fd)(M:Ym K mg C XS XM)(iG:bU K C "many" "Shelf.many" ki lZ fM gM):aC P w K mg base (lP P w) 2 f fd xO (nZ C XS):=by
 obtain⟨T,⟨fi,bM⟩,n1,n2,dR,cT⟩:=M;have sW:aC P w K mg base bZ 1 _ _ lZ (KS C):=xH iG.F T bM.cl n1;refine DU F xg λdJ A outer s H vs Q E hr h=>?_;obtain⟨S,x,d,st,op,bI,ops,a,rfl,W,ok,fa,k1,k2⟩:=h;refine⟨_,(au (bT (j5 (yF jG tZ ay (pv 1) (iu (pv 0) bM iG sW hr dh))) (au (uc PySem.F.excBase_ValueError dR.x dR.m rfl zQ (aa (wK (oR (rM (pv 1) (oR (rM (iu (pv 0) bM iG sW hr dh) zR))))) ah))) bu)),?_⟩;have fl:m6 ((ops.length:Nat):Int):=⟨by have:=ok.2;omega,by have:=ok.2;omega⟩;refine⟨_,rfl,_,_,rfl,rfl,_,rfl,dO (λc0=>?_) (λc0=>⟨_,rfl,j9 ⟨_,rfl,a,rfl,fa.log,_,rfl,x,d,_,rfl,W.hx,rfl,S,x,d,st,op,bI,ops,rfl,W,_,rfl,fl.log,λy=>⟨lX,k2 λiw=>c0 (decide_eq_true iw.1)⟩⟩⟩)⟩;refine⟨_,rfl,x,d,_,rfl,W.hx,rfl,S,x,d,st,op,bI,ops,rfl,W,_,_,rfl,rfl,_,rfl,?_⟩;by_cases iw:qh ops.length a
 ·rw[decide_eq_true iw.2];exact iI (k1 iw)
 ·rw[decide_eq_false (λz=>iw ⟨of_decide_eq_true c0,z⟩)];exact j9 ⟨_,rfl,a,rfl,fa.log,_,rfl,x,d,_,rfl,W.hx,rfl,S,x,d,st,op,bI,ops,rfl,W,_,rfl,fl.log,λy=>⟨lX,k2 iw⟩⟩
theorem vA{f:Addr}{gN:FuncData}(F:iK K "check_moment" "Shelf.check_moment" eZ f fd)(M:Ym K mg C XS XM)(dI:bU K C "now" "Shelf.now" jM lZ fN gN):aC P w K mg base (lP P w) 2 f fd Ss (IJ C XM):=by
 obtain⟨T,⟨fi,bM⟩,n1,n2,dR,cT⟩:=M;have oV:aC P w K mg base bZ 1 _ _ lZ (Mp C):=uT dI.F T bM.cl n1;refine DU F vS λdJ A outer s H vs Q E hr h=>?_;obtain⟨S,x,d,st,op,bI,ops,a,rfl,W,ok,fa,k1,k2⟩:=h;obtain⟨as,hs,al⟩:=W.hs;have la:(as.map V.ref).length=bI.length:=by rw[cS,al.len]
 refine⟨_,(au (bT (j5 (yF jG jG ay (pv 1) (iu (pv 0) bM dI oV hr dh))) (au (uc PySem.F.excBase_ValueError cT.x cT.m rfl zQ (aa (wK (oR (rM (pv 1) (oR (rM (iu (pv 0) bM dI oV hr dh) zR))))) ah))) bu)),?_⟩;have fl:m6 (((as.map V.ref).length:Int)-1):=⟨by rw[la];have:=ok.1;omega,by rw[la];have:=ok.1;omega⟩;refine⟨_,rfl,_,_,rfl,rfl,_,rfl,dO (λc0=>?_) (λc0=>⟨_,rfl,j9 ⟨_,rfl,a,rfl,fa.log,_,rfl,x,d,_,rfl,W.hx,rfl,x,d,st,op,_,rfl,W.hx,hs,_,rfl,fl.log,λy=>⟨lX,k2 λiw=>c0 (decide_eq_true iw.1)⟩⟩⟩)⟩;refine⟨_,rfl,x,d,_,rfl,W.hx,rfl,x,d,st,op,_,rfl,W.hx,hs,_,_,rfl,rfl,_,rfl,?_⟩;by_cases iw:qh bI.length a
 ·rw[decide_eq_true (show a<=((as.map V.ref).length:Int)-1 by rw[la];have:=iw.2;omega)];exact iI (k1 iw)
 ·rw[decide_eq_false (show ¬ a<=((as.map V.ref).length:Int)-1 by rw[la];exact λz=>iw ⟨of_decide_eq_true c0,by omega⟩)];exact j9 ⟨_,rfl,a,rfl,fa.log,_,rfl,x,d,_,rfl,W.hx,rfl,x,d,st,op,_,rfl,W.hx,hs,_,rfl,fl.log,λy=>⟨lX,k2 iw⟩⟩
theorem Sh.at'{S:Addr->Prop}{H:Hp}{x d st:Addr}{bI:qu}{ops:List Int}(h:Sh C S H x d st op bI ops){as:List Addr}(ha:H st=some (.lst (as.map V.ref))){i:Nat}{rows:List (List aT)}(e:bI[i]?=some rows):∃ a,as[i]?=some a/\KR S H st op a rows:=by
 obtain⟨bs,hb,a2⟩:=h.hs
 have e':as=bs:=by
  rw[ha]at hb;exact C4 (HO.lst.inj (vG hb))
 subst e';exact a2.get' e
theorem Sh.Vn{S:Addr->Prop}{H:Hp}{x d st:Addr}{bI:qu}{ops:List Int}(h:Sh C S H x d st op bI ops):∃ last,bI.getLast?=some last/\bI[bI.length-1]?=some last/\ops.length=last.length:=by
 obtain⟨last,hl,ol⟩:=h.Sb.Ff;refine⟨last,hl,?_,ol⟩;rw[List.getLast?_eq_getElem?]at hl;exact hl
theorem Gn{f fs:Addr}(F:iK K "row" "Shelf.row" uG f fd)(M:Ym K mg C XS XM)(iG:bU K C "many" "Shelf.many" ki lZ fM gM)(aM:bU K C "check_sheet" "Shelf.check_sheet" iM xO fs gs):aC P w K mg base (lP P w) 3 f fd xO (Vm C XS):=by
 have bH:aC P w K mg base (lP P w) 2 _ _ xO (nZ C XS):=cP aM.F M iG;obtain⟨T,⟨fi,bM⟩,n1,n2,dR,cT⟩:=M;refine DU F IK λdJ A outer s H vs Q E hr h=>?_;obtain⟨S,x,d,st,op,bI,ops,a,rfl,W,ok,fa,k1,k2⟩:=h;refine⟨_,(aj (bf (dP (pv 0) bM aM bH hr jI (aa (pv 1) ah))) (au (aO (gX ja rfl T.mQ xQ (aa (aV bP (aV bP (dN (pv 0) rfl) (jF gS ay)) (pv 1)) ah))))),?_⟩;refine⟨_,rfl,x,d,_,rfl,W.hx,rfl,_,rfl,S,x,d,st,op,bI,ops,a,rfl,W,ok,fa,λia=>?_,k2⟩;obtain⟨j,rfl,jl⟩:=ia.get;obtain⟨as,hs,al⟩:=id W.hs;obtain⟨Qm,b,ea,r⟩:=W.last hs;obtain⟨last,hl,_,ol⟩:=W.Vn;obtain⟨_,_,_,rs,hb,ar⟩:=r last hl;have el:last[j]?=some last[j]:=oJ (by omega);obtain⟨ri,eri,jW⟩:=ar.get' el;obtain⟨c,vs,ec,hc,it⟩:=jW.at';cases ec;refine⟨_,rfl,x,C,d,_,.ref st,rfl,W.hx,bM.cl,n1,rfl,_,rfl,st,_,_,.ref b,rfl,rfl,bR.of hs,(by rw[ea,kT];exact iO _ _),_,rfl,b,_,_,.ref ri,rfl,rfl,bR.of hb,gH (by rw[j3,eri];rfl),ri,_,rfl,.inl (bR.of hc),λq hq=>?_⟩;exact k1 j last _ rfl hl el q _ ⟨q,vs,rfl,af,it.mono λv i z=>z.same (ak hq _)⟩ (ak hq _) hq
theorem yk{f:Addr}{gN:FuncData}(F:iK K "rows_then" "Shelf.rows_then" iJ f fd)(M:Ym K mg C XS XM)(dI:bU K C "now" "Shelf.now" jM lZ fN gN)(ff:bU K C "check_moment" "Shelf.check_moment" eZ Ss fm gm):aC P w K mg base (lP P w) 3 f fd Ss (C8 C XM):=by
 have xh:aC P w K mg base (lP P w) 2 _ _ Ss (IJ C XM):=vA ff.F M dI;obtain⟨T,⟨fi,bM⟩,n1,n2,dR,cT⟩:=M;refine DU F zk λdJ A outer s H vs Q E hr h=>?_;obtain⟨S,x,d,st,op,bI,ops,m,rfl,W,ok,fm,k1,k2⟩:=h;obtain⟨as,hs,al⟩:=id W.hs;refine⟨_,(aj (bf (dP (pv 0) bM ff xh hr jI (aa (pv 1) ah))) (au (aO (mh (N:=["items"]) (ud (sc:=aA iJ) (NX:=["self","moment"]) (jx:=[none]) rfl rfl rfl (by decide +kernel) (by decide +kernel) rfl (by decide +kernel) rfl (by decide +kernel)) rfl (cX (aV bP (dN (pv 0) rfl) (pv 1))) (λ_ _ _ _ _ _=>(cE (i:=0) (show List.Nodup (["items"]:List Str) by decide +kernel))) (λ_ _ _ _ _ _=>mF) (λ_ _ _ _ _ _=>(gX Kr rfl T.mQ xQ (aa (pv 0) ah))))))),?_⟩;refine⟨_,rfl,x,d,_,rfl,W.hx,rfl,_,rfl,S,x,d,st,op,bI,ops,m,rfl,W,ok,fm,λim=>?_,k2⟩;obtain⟨i,rfl,il⟩:=im.get;have er:bI[i]?=some bI[i]:=oJ il;generalize bI[i]=rows at er;obtain⟨b,eb,_,_,_,rs,hb,ar⟩:=W.at' hs er;have lr:=ar.len;have lo:=W.Sb.less i rows er;have ok2:=ok.2;refine⟨_,rfl,x,C,d,_,.ref st,rfl,W.hx,bM.cl,n1,rfl,_,rfl,st,_,_,.ref b,rfl,rfl,bR.of hs,gH (by rw[j3,eb];rfl),?_⟩;refine⟨b,rfl,⟨_,bR.of hb⟩,λacc fH=>kB (K:=K) (a:=b) (xs:=rs.map V.ref) (λj σ H1=>∃ (u:Option V) (qs:List Addr),σ=[u]/\H1 acc=some (.lst (qs.map V.ref))/\aG H H1/\cj (λr aP=>H r=none/\r≠acc/\bL H1 (.ref r) aP) qs (rows.take j)) ⟨none,[],rfl,af,ak fH _,by rw[List.take_zero];exact .nil⟩ (λj σ H1 _ ⟨_,_,_,_,s,_⟩=>bR.of (s _ _ hb)) ?_ ?_⟩
 ·rintro j y σ H1 hj ⟨u,qs,rfl,ha,s1,aq⟩;rw[j3]at hj;obtain⟨ri,eri,rfl⟩:=Option.map_eq_some_iff.mp hj;obtain⟨aP,adM,jW⟩:=ar.get eri;obtain⟨c,vs,ec,hc,it⟩:=jW.at';cases ec;refine⟨_,rfl,ri,_,rfl,.inl (bR.of (s1 _ _ hc)),λz hz=>⟨_,ak hz _ _ _ ha,?_,_,qs++[z],rfl,?_,?_,?_⟩⟩
  ·have:=aq.len;rw[jK]at this;rw[cS];exact aX (by omega)
  ·rw[af,kT];rfl
  ·intro q ob e;rw[aL (az e fH)];exact ak hz _ _ _ (s1 _ _ e)
  ·have nza:z≠acc:=(az ha hz).symm
   have fr:∀ q ob,H1 q=some ob->q≠acc->(aQ (aQ H1 z (.lst vs)) acc (.lst (qs.map V.ref++[.ref z]))) q=some ob:=λq ob e n=>by
    rw[aL n];exact ak hz _ _ _ e
   have tu:∀ q xs,H1 q=some (.tup xs)->(aQ (aQ H1 z (.lst vs)) acc (.lst (qs.map V.ref++[.ref z]))) q=some (.tup xs):=λq xs e=>fr _ _ e (eL e ha (by intro w;cases w));rw[take_snoc adM];refine cj.snoc (aq.mono λr aP ⟨h1,h2,h3⟩=>⟨h1,h2,h3.fr (λxs e=>fr _ _ e h2) tu⟩) ⟨aY s1 hz,nza,z,vs,rfl,?_,it.mono λv i ⟨q,e,hq⟩=>⟨q,e,tu _ _ (s1 _ _ hq)⟩⟩;rw[aL nza];exact af
 ·rintro σ H1 ⟨u,qs,rfl,ha,s1,aq⟩;rw[cS,lr,lR]at aq;exact k1 i rows rfl er acc H1 ⟨fH,qs,ha,aq⟩ s1
theorem gQ{f fr:Addr}{gN:FuncData}(F:iK K "rows" "Shelf.rows" sN f fd)(M:Ym K mg C XS XM)(dI:bU K C "now" "Shelf.now" jM lZ fN gN)(ff:bU K C "check_moment" "Shelf.check_moment" eZ Ss fm gm)(lJ:bU K C "rows_then" "Shelf.rows_then" iJ Ss fr gr):aC P w K mg base bZ 4 f fd lZ (tQ C):=by
 have Ao:aC P w K mg base (lP P w) 3 _ _ Ss (C8 C XM):=yk lJ.F M dI ff;obtain⟨T,⟨fi,bM⟩,n1,n2,dR,cT⟩:=M;have oV:aC P w K mg base bZ 1 _ _ lZ (Mp C):=uT dI.F T bM.cl n1;refine lW F Gm λdJ A outer s H vs Q E hr h=>?_;obtain⟨S,x,d,st,op,bI,ops,rfl,W,ok,k⟩:=h;obtain⟨as,hs,al⟩:=id W.hs;obtain⟨last,hl,FJ,_⟩:=W.Vn;have lp:bI.length-1<bI.length:=(List.getElem?_eq_some_iff.mp FJ).1;have ok1:=ok.1;have la:(((as.map V.ref).length:Nat):Int)-1=((bI.length-1:Nat):Int):=by rw[cS,al.len];omega
 refine⟨_,(au (aO (dP (pv 0) bM lJ Ao hr rN (aa (iu (pv 0) bM dI oV hr dh) ah)))),?_⟩;refine⟨_,rfl,x,d,_,rfl,W.hx,rfl,_,rfl,x,d,_,rfl,W.hx,rfl,x,d,st,op,_,rfl,W.hx,hs,?_⟩;rw[la];refine⟨S,x,d,st,op,bI,ops,_,rfl,W,ok,⟨by omega,by omega⟩,λmi rows em er q H1 fs s1=>?_,λnm=>absurd ⟨by omega,by omega⟩ nm⟩;have:mi=bI.length-1:=by omega
 subst this;rw[FJ]at er;cases er;exact k last hl q H1 fs s1
inductive BP(C:Addr)(vs:List V)(H:Hp)(Q:VK)(E:XK):Prop
 | mk (x d:Addr) (_:vs=[.ref x]) (_:H x=some (.ins C d [])) (_: ∀ (fs:List (Str × V)) (H':Hp),H' x=some (.ins C d fs)->cY x H H'->Q .jm H')
theorem Bf:aJ ["self"] ["self"] (aA nu):=jd
theorem Bg:aJ ["self"] ["self"] (aA nv):=jd
theorem IL{x z:Addr}{H:Hp}{o o':HO}(hz:H z=none):cY x H (aQ (aQ H z o) x o'):=λa ob e n=>by
 rw[aL n];exact ak hz o a ob e
theorem Aq{f:Addr}(F:iK K "__init__" "Dues.__init__" nv f fd)(cl:Es K C)(n1:cH K C "sums"):aC P w K mg base bZ 1 f fd lZ (BP C):=by
 refine lW F Bg λdJ A outer s H vs Q E hr h=>?_;obtain⟨x,d,rfl,hx,k⟩:=h;refine⟨_,(au (mJ (pv 0) rP rfl)),?_⟩;intro z hz;exact⟨_,rfl,x,C,d,_,rfl,ak hz _ _ _ hx,cl,n1,by decide,k _ _ af (IL hz)⟩
theorem Ar{f:Addr}(F:iK K "__init__" "Ties.__init__" nu f fd)(cl:Es K C)(n1:cH K C "given")(n2:cH K C "pairs"):aC P w K mg base bZ 1 f fd lZ (BP C):=by
 refine lW F Bf λdJ A outer s H vs Q E hr h=>?_;obtain⟨x,d,rfl,hx,k⟩:=h;refine⟨_,(aj (mJ (pv 0) ay rfl) (au (mJ (pv 0) rP rfl))),?_⟩;refine⟨_,rfl,x,C,d,_,rfl,hx,cl,n1,by decide,?_⟩;have k1:cY x H (aQ H x (.ins C d (L2.gx "given" (.int 0) []))):=aN x _ _;have h1:(aQ H x (.ins C d (L2.gx "given" (.int 0) []))) x=some (.ins C d (L2.gx "given" (.int 0) [])):=af;generalize aQ H x (.ins C d (L2.gx "given" (.int 0) []))=H1 at k1 h1;intro z hz;exact⟨_,rfl,x,C,d,_,rfl,ak hz _ _ _ h1,cl,n2,(by show 1<1000;decide),k _ _ af (k1.trans (IL hz))⟩
def Se(aS:m7):List V:=aS.map λp=>NO p.2
def Ls(aS:m7):List V:=aS.map λp=>V.int p.1
def vD(h:Int)(cs:List Nat):m7:=cs.map λc=>(h,c)
theorem zl(h:Int)(cs:List Nat):(vD h cs).length=cs.length:=cS ..
theorem Uh(aS:m7)(h:Int)(cs:List Nat):Se (aS++vD h cs)=Se aS++cs.map NO:=by
 unfold Se vD;rw[kT,List.map_map];rfl
theorem Gp(v:V):∀ n:Nat,(List.replicate n [v]).flatten=List.replicate n v
 | 0=>rfl
 | n+1=>by rw[List.replicate_succ,List.flatten_cons,Gp v n,List.replicate_succ];rfl
theorem Ui(aS:m7)(h:Int)(cs:List Nat):Ls (aS++vD h cs)=Ls aS++(List.replicate cs.length [V.int h]).flatten:=by
 rw[Gp];unfold Ls vD;rw[kT,List.map_map];congr 1;exact List.map_eq_replicate_iff.mpr λc _=>rfl
def yl(h:Int):Nat->m7->List Int
 | _,[]=>[]
 | i,p::r=>if p.1=h then (i:Int)::yl h (i+1) r else yl h (i+1) r
theorem rZ(h:Int):∀ (a b:m7) (i:Nat),yl h i (a++b)=yl h i a++yl h (i+a.length) b
 | [],b,i=>rfl
 | p::a,b,i=>by
  rw[List.cons_append,yl,yl,qC,rZ h a b (i+1),show i+1+a.length=i+(a.length+1) by omega]
  split <;> rfl
theorem As(h:Int):∀ (cs:List Nat) (i:Nat),yl h i (vD h cs)=run (i:Int) cs.length
 | [],i=>rfl
 | c::cs,i=>by
  show yl h i ((h,c)::vD h cs)=_;rw[yl,if_pos rfl,As h cs (i+1),qC,run,show ((i+1:Nat):Int)=(i:Int)+1 by omega]
theorem r9{h g:Int}(n:g≠h):∀ (cs:List Nat) (i:Nat),yl h i (vD g cs)=[]
 | [],i=>rfl
 | c::cs,i=>by
  show yl h i ((g,c)::vD g cs)=_;rw[yl,if_neg n,r9 n cs (i+1)]
theorem C9(a b:Int)(k:Nat)(e:b=a+k):bW [(a,b)]=run a k:=by
 show oE (a,b)++[]=_;rw[kW];show run a (b-a).toNat=_;rw[show (b-a).toNat=k by omega]
structure Pw(S:Addr->Prop)(H:Hp)(s o:Addr)(n:Nat)(kvs:List (iz × V))(aS:m7):Prop where
 got:∀ h v,cW kvs (Sum.inl h)=some v->∃ (l:Addr) (row:Row),v=.ref l/\S l/\l≠s/\l≠o/\cL H l row/\(∀ p∈row,p.1<=p.2)/\bW row=yl h 0 aS/\row.length<=n
 jm:∀ h,cW kvs (Sum.inl h)=none->yl h 0 aS=[]
 one:∀ h g v,cW kvs (Sum.inl h)=some v->cW kvs (Sum.inl g)=some v->h=g
 len:kvs.length<=n
structure We(C:Addr)(S:Addr->Prop)(H:Hp)(x d s o p:Addr)(n:Nat)(aS:m7):Prop where
 sx:S x
 ss:S s
 so:S o
 sp:S p
 al:∀ a,S a->∃ ob,H a=some ob
 hx:H x=some (.ins C d [("signs",.ref s),("owners",.ref o),("pourings",.ref p)])
 hs:H s=some (.lst (Se aS))
 ho:H o=some (.lst (Ls aS))
 ne:s≠o
 dk:∃ kvs,H p=some (.dK kvs)/\Pw S H s o n kvs aS
theorem cL.two{H H':Hp}{r:Addr}{row:Row}(h:cL H r row)(k:∀ xs,H r=some (.lst xs)->H' r=some (.lst xs))(t:∀ a xs,H a=some (.tup xs)->H' a=some (.tup xs)):cL H' r row:=by
 obtain⟨as,h1,h2⟩:=h;exact⟨as,k _ h1,h2.tups t⟩
theorem We.fr{S:Addr->Prop}{H H':Hp}{x d s p:Addr}{n:Nat}{aS:m7}(h:We C S H x d s o p n aS)(k:∀ a ob,H a=some ob->S a->H' a=some ob)(t:∀ a xs,H a=some (.tup xs)->H' a=some (.tup xs)):We C S H' x d s o p n aS:=by
 obtain⟨sx,ss,so,sp,al,hx,hs,ho,ne,kvs,hp,pw⟩:=h;refine⟨sx,ss,so,sp,λa z=>?_,k _ _ hx sx,k _ _ hs ss,k _ _ ho so,ne,kvs,k _ _ hp sp,λh v e=>?_,pw.jm,pw.one,pw.len⟩
 ·obtain⟨ob,e⟩:=al a z;exact⟨ob,k _ _ e z⟩
 ·obtain⟨l,row,e1,e2,e3,e4,e5,r⟩:=pw.got h v e;exact⟨l,row,e1,e2,e3,e4,e5.two (λxs q=>k _ _ q e2) t,r⟩
theorem We.same{S:Addr->Prop}{H H':Hp}{x d s p:Addr}{n:Nat}{aS:m7}(h:We C S H x d s o p n aS)(k:aG H H'):We C S H' x d s o p n aS:=h.fr (λa ob e _=>k a ob e) (λa xs e=>k _ _ e)
theorem Mq(aS:m7):(Se aS).length=aS.length:=cS ..
theorem Uj(aS:m7):(Ls aS).length=aS.length:=cS ..
theorem Q3{H:Hp}{a:Addr}{ob:HO}(h:H a=some ob):aQ H a ob=H:=by
 funext b;by_cases e:b=a
 ·rw[e,af,h]
 ·rw[aL e]
inductive Mr(C:Addr)(vs:List V)(H:Hp)(Q:VK)(E:XK):Prop
 | mk (x d:Addr) (_:vs=[.ref x]) (_:H x=some (.ins C d [])) (_: ∀ (s o p:Addr) (H':Hp),We C (λa=>a=x\/a=s\/a=o\/a=p) H' x d s o p 0 []->cY x H H'->H s=none->H o=none->H p=none->Q .jm H')
inductive BQ(C:Addr)(vs:List V)(H:Hp)(Q:VK)(E:XK):Prop
 | mk (x d s o p:Addr) (aS:m7) (_:vs=[.ref x]) (_:H x=some (.ins C d [("signs",.ref s),("owners",.ref o),("pourings",.ref p)])) (_:H s=some (.lst (Se aS))) (_:Q (.int (aS.length:Nat)) H)
inductive Q4(C:Addr)(vs:List V)(H:Hp)(Q:VK)(E:XK):Prop
 | mk (S:Addr->Prop) (x d s o p:Addr) (n:Nat) (aS:m7) (h:Int) (cs:List Nat) (_:vs=[.ref x,.int h,.str (iC cs)]) (_:We C S H x d s o p n aS) (_:aS.length+cs.length<=100000) (_:n<=1000) (_ :
 ∀ (S':Addr->Prop) (q:Addr) (H':Hp),We C S' H' x d s o p (n+1) (aS++vD h cs)->H' q=some (.tup [.int (aS.length:Nat),.int ((aS++vD h cs).length:Nat)])->(∀ a,S' a->S a\/H a=none)->(∀ a ob,H a=some ob->¬ S a->H' a=some ob)->(∀ a xs,H a=some (.tup xs)->H' a=some (.tup xs))->Q (.ref q) H')
theorem Bh:aJ ["self"] ["self"] (aA ny):=jd
theorem IM:aJ ["self"] ["self"] (aA oQ):=jd
theorem vU:aJ ["self","hand","text","start","stretch"] ["self","hand","text"] (aA uH):=jd
theorem Au{f:Addr}(F:iK K "__init__" "Well.__init__" ny f fd)(cl:Es K C)(n1:cH K C "signs")(n2:cH K C "owners")(n3:cH K C "pourings"):aC P w K mg base bZ 1 f fd lZ (Mr C):=by
 refine lW F Bh λdJ A outer s H vs Q E hr h=>?_;obtain⟨x,d,rfl,hx,k⟩:=h;refine⟨_,(aj (mJ (pv 0) (bQ ah) rfl) (aj (mJ (pv 0) (bQ ah) rfl) (au (mJ (pv 0) rP rfl)))),?_⟩;refine⟨mj,λs hs=>?_⟩;have a1:aG H (aQ H s (.lst [])):=ak hs _;have b1:(aQ H s (.lst [])) s=some (.lst []):=af;generalize aQ H s (.lst [])=H1 at a1 b1;refine⟨_,rfl,x,C,d,_,rfl,a1 _ _ hx,cl,n1,by decide,?_⟩;have k2:cY x H1 (aQ H1 x (.ins C d (L2.gx "signs" (.ref s) []))):=aN x _ _;have h2:(aQ H1 x (.ins C d (L2.gx "signs" (.ref s) []))) x=some (.ins C d [("signs",.ref s)]):=af;generalize aQ H1 x (.ins C d (L2.gx "signs" (.ref s) []))=H2 at k2 h2;have Xn:s≠x:=(az hx hs).symm;have b2:=k2 _ _ b1 Xn;refine⟨mj,λo ho=>?_⟩;have a3:aG H2 (aQ H2 o (.lst [])):=ak ho _;have c3:(aQ H2 o (.lst [])) o=some (.lst []):=af;generalize aQ H2 o (.lst [])=H3 at a3 c3;refine⟨_,rfl,x,C,d,_,rfl,a3 _ _ h2,cl,n2,(by show 1<1000;decide),?_⟩;have k4:cY x H3 (aQ H3 x (.ins C d (L2.gx "owners" (.ref o) [("signs",.ref s)]))):=aN x _ _;have h4:(aQ H3 x (.ins C d (L2.gx "owners" (.ref o) [("signs",.ref s)]))) x=some (.ins C d [("signs",.ref s),("owners",.ref o)]):=af;generalize aQ H3 x (.ins C d (L2.gx "owners" (.ref o) [("signs",.ref s)]))=H4 at k4 h4;have M6:o≠x:=(az h2 ho).symm;have c4:=k4 _ _ c3 M6;have b4:=k4 _ _ (a3 _ _ b2) Xn;intro p hp;have npx:p≠x:=(az h4 hp).symm;refine⟨_,rfl,x,C,d,_,rfl,ak hp _ _ _ h4,cl,n3,(by show 2<1000;decide),?_⟩
 have k5:cY x H (aQ (aQ H4 p (.dK [])) x (.ins C d (L2.gx "pourings" (.ref p) [("signs",.ref s),("owners",.ref o)]))):=λa ob e n=>by
  rw[aL n];exact ak hp _ _ _ (k4 _ _ (a3 _ _ (k2 _ _ (a1 _ _ e) n)) n)
 refine k s o p _ ⟨.inl rfl,.inr (.inl rfl),.inr (.inr (.inl rfl)),.inr (.inr (.inr rfl)),λa z=>?_,af,?_,?_,az b2 ho,[],?_,?_⟩ k5 hs ?_ ?_
 ·rcases z with rfl|rfl|rfl|rfl
  ·exact⟨_,af⟩
  ·exact⟨_,by rw[aL Xn];exact ak hp _ _ _ b4⟩
  ·exact⟨_,by rw[aL M6];exact ak hp _ _ _ c4⟩
  ·exact⟨_,by rw[aL npx];exact af⟩
 ·rw[aL Xn];exact ak hp _ _ _ b4
 ·rw[aL M6];exact ak hp _ _ _ c4
 ·rw[aL npx];exact af
 ·exact⟨λh v e=>(by cases e),λh e=>rfl,λh g v e=>(by cases e),jz _⟩
 ·exact aY a1 (mX k2 M6 ho)
 ·exact aY a1 (mX k2 npx (aY a3 (mX k4 npx hp)))
theorem uV{f:Addr}(F:iK K "size" "Well.size" oQ f fd)(T:nL mg)(cl:Es K C)(n1:cH K C "signs"):aC P w K mg base bZ 1 f fd lZ (BQ C):=by
 refine lW F IM λdJ A outer s H vs Q E hr h=>?_;obtain⟨x,d,s,o,p,aS,rfl,hx,hs,k⟩:=h;refine⟨_,(au (aO (jy T.je (dN (pv 0) rfl)))),?_⟩;refine⟨_,rfl,x,C,d,_,.ref s,rfl,hx,cl,n1,rfl,s,_,rfl,.inl (bR.of hs),?_⟩;rw[Mq];exact k
theorem Gq{f fs:Addr}(F:iK K "pour" "Well.pour" uH f fd)(T:nL mg)(jJ:ClsAt K mg "Well" C fi)(n1:cH K C "signs")(n2:cH K C "owners")(n3:cH K C "pourings")(gF:bU K C "size" "Well.size" oQ lZ fs gs):aC P w K mg base bZ 2 f fd UC (Q4 C):=by
 have oW:aC P w K mg base bZ 1 fs gs lZ (BQ C):=uV gF.F T jJ.cl n1;refine lW F vU λdJ A outer s H vs Q E hr h=>?_;obtain⟨S,x,d,s,o,p,n,aS,h,cs,rfl,W,len,nn,k⟩:=h;have hu:=lO hr;refine⟨_,(aj (bx (i:=3) vU.nd (iu (pv 0) jJ gF oW hr dh)) (aj (zH (pv 0) (gX (DS rfl) rfl T.mQ xQ (aa (pv 2) ah)) Ks) (aj (zH (pv 0) (bC Po (bQ (aa (pv 1) ah)) (cO FH rfl T.je PySem.boot_len (aa (pv 2) ah))) Ks) (aj (bx (i:=4) vU.nd (dH (aa (pv 3) (aa (iu (pv 0) jJ gF oW hr dh) ah)))) (aj (bf (gV vE qj qm cy (Qs (dN (pv 0) rfl) (pv 1) (bQ ah) ⟨rfl,rfl,rfl,rfl⟩) (aa (pv 4) ah))) (au (aO (pv 4)))))))),?_⟩;refine⟨_,rfl,x,d,_,rfl,W.hx,rfl,x,d,s,o,p,aS,rfl,W.hx,W.hs,?_⟩;obtain⟨sx,ss,so,sp,al,hx,hs,ho,ne,kvs,hp,pw⟩:=id W;have nxs:x≠s:=eL hx hs;have nxo:x≠o:=eL hx ho;have nxp:x≠p:=eL hx hp;have nps:p≠s:=eL hp hs;have npo:p≠o:=eL hp ho;refine⟨_,rfl,x,C,d,_,.ref s,rfl,hx,jJ.cl,n1,rfl,_,rfl,cs,rfl,kX (aX (by omega)),λt ht=>?_⟩;have a1:aG H (aQ H t (.lst (cs.map NO))):=ak ht _;have b1:(aQ H t (.lst (cs.map NO))) t=some (.lst (cs.map NO)):=af;generalize aQ H t (.lst (cs.map NO))=H1 at a1 b1;refine⟨s,t,_,_,rfl,rfl,a1 _ _ hs,b1,(by rw[Mq,cS];exact kX (aX (by omega))),?_⟩;rw[← Uh aS h cs];have k2:cY s H1 (aQ H1 s (.lst (Se (aS++vD h cs)))):=aN s _ _;have s2:(aQ H1 s (.lst (Se (aS++vD h cs)))) s=some (.lst (Se (aS++vD h cs))):=af;generalize aQ H1 s (.lst (Se (aS++vD h cs)))=H2 at k2 s2;have k02:cY s H H2:=λa ob e m=>k2 _ _ (a1 _ _ e) m;have x2:=k02 _ _ hx nxs;refine⟨d,_,x2,(by show 3<1000;decide),?_⟩;have e3:aQ H2 x (.ins C d (L2.gx "signs" (.ref s) ([("signs",.ref s),("owners",.ref o),("pourings",.ref p)]:List (Str × V))))=H2:=Q3 x2;rw[e3];refine⟨_,rfl,x,C,d,_,.ref o,rfl,x2,jJ.cl,n2,rfl,_,rfl,lX,λt2 Ox=>?_⟩;have a3:aG H2 (aQ H2 t2 (.lst [.int h])):=ak Ox _;have b3:(aQ H2 t2 (.lst [.int h])) t2=some (.lst [.int h]):=af;generalize aQ H2 t2 (.lst [.int h])=H3 at a3 b3;refine⟨_,rfl,iC cs,rfl,(by rw[uM];exact kX (aX (by omega))),?_⟩;rw[uM];refine⟨t2,_,_,rfl,rfl,b3,by omega,by omega,(by simp only[vF];exact kX (aX (by omega))),λt3 Ue=>?_⟩;rw[Int.toNat_natCast];have a4:aG H3 (aQ H3 t3 (.lst (List.replicate cs.length [V.int h]).flatten)):=ak Ue _;have b4:(aQ H3 t3 (.lst (List.replicate cs.length [V.int h]).flatten)) t3=some (.lst (List.replicate cs.length [V.int h]).flatten):=af;generalize aQ H3 t3 (.lst (List.replicate cs.length [V.int h]).flatten)=H4 at a4 b4;have k04:cY s H H4:=λa ob e m=>a4 _ _ (a3 _ _ (k02 _ _ e m));refine⟨o,t3,_,_,rfl,rfl,k04 _ _ ho ne.symm,b4,(by rw[Uj,Gp,List.length_replicate];exact kX (aX (by omega))),?_⟩;rw[← Ui aS h cs];have k5:cY o H4 (aQ H4 o (.lst (Ls (aS++vD h cs)))):=aN o _ _;have o5:(aQ H4 o (.lst (Ls (aS++vD h cs)))) o=some (.lst (Ls (aS++vD h cs))):=af;generalize aQ H4 o (.lst (Ls (aS++vD h cs)))=H5 at k5 o5;have k05:∀ a ob,H a=some ob->a≠s->a≠o->H5 a=some ob:=λa ob e m m2=>k5 _ _ (k04 _ _ e m) m2;have x5:=k05 _ _ hx nxs nxo;have s5:=k5 _ _ (a4 _ _ (a3 _ _ s2)) ne;refine⟨d,_,x5,(by show 3<1000;decide),?_⟩;have e5:aQ H5 x (.ins C d (L2.gx "owners" (.ref o) ([("signs",.ref s),("owners",.ref o),("pourings",.ref p)]:List (Str × V))))=H5:=Q3 x5;rw[e5]
 have X5:∀ q,H5 q=none->H q=none:=λq hq=>by
  cases e:H q with
  | none=>rfl
  | some ob =>
   by_cases z1:q=s
   ·rw[z1,s5]at hq;cases hq
   by_cases z2:q=o
   ·rw[z2,o5]at hq;cases hq
   rw[k05 _ _ e z1 z2]at hq;cases hq
 refine⟨_,rfl,_,rfl,x,d,_,rfl,x5,rfl,x,d,s,o,p,_,rfl,x5,s5,?_⟩;refine⟨uP,λq hq=>?_⟩;have a6:aG H5 (aQ H5 q (.tup [.int (aS.length:Nat),.int ((aS++vD h cs).length:Nat)])):=ak hq _;have b6:(aQ H5 q (.tup [.int (aS.length:Nat),.int ((aS++vD h cs).length:Nat)])) q=some (.tup [.int (aS.length:Nat),.int ((aS++vD h cs).length:Nat)]):=af;generalize aQ H5 q (.tup [.int (aS.length:Nat),.int ((aS++vD h cs).length:Nat)])=H6 at a6 b6;have p6:=a6 _ _ (k05 _ _ hp nps npo);have Ow:∀ q,H6 q=none->H q=none:=λq hq=>X5 q (aY a6 hq);refine⟨_,rfl,x,C,d,_,.ref p,rfl,a6 _ _ x5,jJ.cl,n3,rfl,p,rfl,.inl ⟨_,.inl p6⟩,_,rfl,mj,λz hz=>?_⟩;have a7:aG H6 (aQ H6 z (.lst [])):=ak hz _;have b7:(aQ H6 z (.lst [])) z=some (.lst []):=af;generalize aQ H6 z (.lst [])=H7 at a7 b7;have lp:=pw.len;refine⟨kvs,Sum.inl h,a7 _ _ p6,rfl,aX (by omega),λv hv=>?_,λhv=>?_⟩
 ·obtain⟨l,row,rfl,Sl,ls,lo,⟨as,hl,pa⟩,ok,sp1,rl⟩:=pw.got h v hv;have k07:∀ a ob,H a=some ob->a≠s->a≠o->H7 a=some ob:=λa ob e m m2=>a7 _ _ (a6 _ _ (k05 _ _ e m m2));have l7:=k07 _ _ hl ls lo;have nxl:x≠l:=eL hx hl;have npl:p≠l:=eL hp hl;have la:=pa.len;refine⟨.inl ⟨rfl,_,bR.of l7⟩,_,rfl,l,_,_,rfl,rfl,l7,(by rw[cS];exact aX (by omega)),?_⟩;have k8:cY l H7 (aQ H7 l (.lst (as.map V.ref++[.ref q]))):=aN l _ _;have l8:(aQ H7 l (.lst (as.map V.ref++[.ref q]))) l=some (.lst (as.map V.ref++[.ref q])):=af;generalize aQ H7 l (.lst (as.map V.ref++[.ref q]))=H8 at k8 l8;have t07:∀ a xs,H a=some (.tup xs)->H7 a=some (.tup xs):=λa xs e=>k07 _ _ e (eL e hs) (eL e ho);have Xq:∀ a xs,H7 a=some (.tup xs)->H8 a=some (.tup xs):=λa xs e=>k8 _ _ e (eL e l7);have s8:=k8 _ _ (a7 _ _ (a6 _ _ s5)) ls.symm;have o8:=k8 _ _ (a7 _ _ (a6 _ _ o5)) lo.symm;refine⟨_,rfl,k S q H8 ⟨sx,ss,so,sp,λa z=>?_,k8 _ _ (a7 _ _ (a6 _ _ x5)) nxl,s8,o8,ne,kvs,k8 _ _ (a7 _ _ p6) npl,λg v e=>?_,λg e=>?_,pw.one,by omega⟩ (Xq _ _ (a7 _ _ b6)) (λa z=>.inl z) (λa ob e m=>?_) (λa xs e=>Xq _ _ (t07 _ _ e))⟩
  ·by_cases z1:a=s
   ·rw[z1];exact⟨_,s8⟩
   by_cases z2:a=o
   ·rw[z2];exact⟨_,o8⟩
   by_cases z3:a=l
   ·rw[z3];exact⟨_,l8⟩
   obtain⟨ob,e⟩:=al a z;exact⟨ob,k8 _ _ (k07 _ _ e z1 z2) z3⟩
  ·by_cases c:g=h
   ·subst c;rw[hv]at e;cases e;refine⟨l,row++([(((aS.length:Nat):Int),(((aS++vD g cs).length:Nat):Int))]:Row),rfl,Sl,ls,lo,⟨as++[q],by rw[kT];exact l8,?_⟩,?_,?_,?_⟩
    ·exact bS.append (pa.tups λa xs e=>Xq _ _ (t07 _ _ e)) (.cons (b:=(((aS.length:Nat):Int),(((aS++vD g cs).length:Nat):Int))) (Xq _ _ (a7 _ _ b6)) .nil)
    ·intro r hr;rcases List.mem_append.mp hr with z|z
     ·exact ok r z
     ·rw[List.mem_singleton.mp z];show ((aS.length:Nat):Int)<=((aS++vD g cs).length:Nat);rw[dX];omega
    ·rw[dz,sp1,rZ,As,Nat.zero_add];congr 1;refine C9 _ _ _ ?_;rw[dX,zl];omega
    ·rw[dX];simp only[vF];omega
   ·obtain⟨l',Uk,e1,e2,e3,e4,e5,e6,e7,e8⟩:=pw.got g v e;subst e1;have nl:l'≠l:=λz=>c (pw.one g h _ e (by rw[z];exact hv));refine⟨l',Uk,rfl,e2,e3,e4,e5.two (λxs q=>k8 _ _ (k07 _ _ q e3 e4) nl) (λa xs e=>Xq _ _ (t07 _ _ e)),e6,?_,by omega⟩;rw[e7,rZ,r9 (λz=>c z.symm),kW]
  ·have c:g≠h:=λz=>by rw[z,hv]at e;cases e
   rw[rZ,pw.jm g e,r9 (λz=>c z.symm),kW]
  ·have z1:a≠s:=λz=>m (by rw[z];exact ss);have z2:a≠o:=λz=>m (by rw[z];exact so);have z3:a≠l:=λz=>m (by rw[z];exact Sl);exact k8 _ _ (k07 _ _ e z1 z2) z3
 ·have fz:H z=none:=Ow z hz;have p7:=a7 _ _ p6;have k8:cY p H7 (aQ H7 p (.dK (ic kvs (Sum.inl h) (.ref z)))):=aN p _ _;have p8:(aQ H7 p (.dK (ic kvs (Sum.inl h) (.ref z)))) p=some (.dK (ic kvs (Sum.inl h) (.ref z))):=af;generalize aQ H7 p (.dK (ic kvs (Sum.inl h) (.ref z)))=H8 at k8 p8;have z8:=k8 _ _ b7 (eL b7 p7);refine⟨.inl ⟨rfl,_,bR.of z8⟩,_,rfl,z,_,_,rfl,rfl,z8,(by show 0<sizeLine;decide),?_⟩;have k9:cY z H8 (aQ H8 z (.lst ([]++[.ref q]))):=aN z _ _;have z9:(aQ H8 z (.lst ([]++[.ref q]))) z=some (.lst ([]++[.ref q])):=af;generalize aQ H8 z (.lst ([]++[.ref q]))=H9 at k9 z9;have k69:∀ a ob,H6 a=some ob->a≠p->H9 a=some ob:=λa ob e m=>k9 _ _ (k8 _ _ (a7 _ _ e) m) (az e hz);have k09:∀ a ob,H a=some ob->a≠s->a≠o->a≠p->H9 a=some ob:=λa ob e m m2 m3=>k69 _ _ (a6 _ _ (k05 _ _ e m m2)) m3;have t69:∀ a xs,H6 a=some (.tup xs)->H9 a=some (.tup xs):=λa xs e=>k69 _ _ e (eL e p6);have t09:∀ a xs,H a=some (.tup xs)->H9 a=some (.tup xs):=λa xs e=>k09 _ _ e (eL e hs) (eL e ho) (eL e hp);have s9:=k69 _ _ (a6 _ _ s5) nps.symm;have o9:=k69 _ _ (a6 _ _ o5) npo.symm;have p9:=k9 _ _ p8 (eL p7 b7)
  have nz:∀ a,S a->a≠z:=λa sa=>by
   obtain⟨ob,e⟩:=al a sa;exact az e fz
  refine⟨_,rfl,k (λa=>S a\/a=z) q H9 ⟨.inl sx,.inl ss,.inl so,.inl sp,λa w=>?_,k69 _ _ (a6 _ _ x5) nxp,s9,o9,ne,_,p9,λg v e=>?_,λg e=>?_,λg g' v e e'=>?_,(by have:=ku kvs (Sum.inl h:iz) (V.ref z);omega)⟩ (t69 _ _ b6) (λa w=>w.imp id λy=>by rw[y];exact fz) (λa ob e m=>?_) (λa xs e=>t09 _ _ e)⟩
  ·rcases w with w|w
   ·by_cases z1:a=s
    ·rw[z1];exact⟨_,s9⟩
    by_cases z2:a=o
    ·rw[z2];exact⟨_,o9⟩
    by_cases z3:a=p
    ·rw[z3];exact⟨_,p9⟩
    obtain⟨ob,e⟩:=al a w;exact⟨ob,k09 _ _ e z1 z2 z3⟩
   ·rw[w];exact⟨_,z9⟩
  ·rw[pX]at e;by_cases c:g=h
   ·subst c;rw[if_pos rfl]at e;cases e;refine⟨z,([(((aS.length:Nat):Int),(((aS++vD g cs).length:Nat):Int))]:Row),rfl,.inr rfl,(nz _ ss).symm,(nz _ so).symm,⟨[q],z9,.cons (t69 _ _ b6) .nil⟩,?_,?_,?_⟩
    ·intro r hr;rw[List.mem_singleton.mp hr];show ((aS.length:Nat):Int)<=((aS++vD g cs).length:Nat);rw[dX];omega
    ·rw[rZ,pw.jm g hv,As,Nat.zero_add,List.nil_append];refine C9 _ _ _ ?_;rw[dX,zl];omega
    ·simp only[vF];omega
   ·rw[if_neg (λz=>c (Sum.inl.inj z))]at e;obtain⟨l',Uk,e1,e2,e3,e4,e5,e6,e7,e8⟩:=pw.got g v e;subst e1;refine⟨l',Uk,rfl,.inl e2,e3,e4,e5.two (λxs q=>k09 _ _ q e3 e4 (eL q hp)) (λa xs e=>t09 _ _ e),e6,?_,by omega⟩;rw[e7,rZ,r9 (λz=>c z.symm),kW]
  ·rw[pX]at e;have c:g≠h:=λz=>by rw[z,if_pos rfl]at e;cases e
   rw[if_neg (λz=>c (Sum.inl.inj z))]at e;rw[rZ,pw.jm g e,r9 (λz=>c z.symm),kW]
  ·have other:∀ g v,g≠h->cW kvs (Sum.inl g)=some v->v≠.ref z:=λg v c e y=>by
    obtain⟨l',Uk,e1,e2,_⟩:=pw.got g v e;rw[e1]at y;cases y;exact nz _ e2 rfl
   rw[pX]at e e';by_cases c:g=h
   ·by_cases c':g'=h
    ·rw[c,c']
    ·rw[c,if_pos rfl]at e;rw[if_neg (λz=>c' (Sum.inl.inj z))]at e';cases e;exact absurd rfl (other _ _ c' e')
   ·rw[if_neg (λz=>c (Sum.inl.inj z))]at e;by_cases c':g'=h
    ·rw[c',if_pos rfl]at e';cases e';exact absurd rfl (other _ _ c e)
    ·rw[if_neg (λz=>c' (Sum.inl.inj z))]at e';exact pw.one _ _ _ e e'
  ·have z1:a≠s:=λz=>m (by rw[z];exact ss);have z2:a≠o:=λz=>m (by rw[z];exact so);have z3:a≠p:=λz=>m (by rw[z];exact sp);exact k09 _ _ e z1 z2 z3
theorem IP(xs:List V){p q:Int}(h:0<=p)(g:0<=q):pT xs (some p) (some q)=(xs.take q.toNat).drop p.toNat:=by
 unfold pT
 have e:∀ r:Int,0<=r->∀ d,HT.jD xs.length d (some r)=min r.toNat xs.length:=λr hr d=>by
  show (if r<0 then (r+(xs.length:Int)).toNat else min r.toNat xs.length)=_;rw[if_neg (by omega)]
 rw[e p h,e q g,List.drop_take];rcases Nat.le_total p.toNat xs.length with z|z
 ·rw[Nat.min_eq_left z];rcases Nat.le_total q.toNat xs.length with y|y
  ·rw[Nat.min_eq_left y]
  ·rw[Nat.min_eq_right y,xP (by rw[vq];omega),xP (by rw[vq];omega)]
 ·rw[Nat.min_eq_right z,BR (jz _),BR z];simp
def Sf(n:Nat)(p:Int × Int):Bool:=decide (0<=p.1)&&decide (p.1<p.2)&&decide (p.2<=(n:Int))
def tR(n:Nat)(row:Row):Bool:=row.all (Sf n)
inductive Ms(C:Addr)(vs:List V)(H:Hp)(Q:VK)(E:XK):Prop
 | mk (S:Addr->Prop) (x d s o p r:Addr) (n:Nat) (aS:m7) (row:Row) (_:vs=[.ref x,.ref r]) (_:We C S H x d s o p n aS) (_:cL H r row) (_:row.length<=1000) (_: ∀ H',aG H H'->Q (.bl (tR aS.length row)) H')
theorem Gr:aJ ["self","row"] ["self","row"] (aA pW):=jd
theorem D7{f fs:Addr}(F:iK K "holds" "Well.holds" pW f fd)(T:nL mg)(jJ:ClsAt K mg "Well" C fi)(n1:cH K C "signs")(gF:bU K C "size" "Well.size" oQ lZ fs gs):aC P w K mg base bZ 2 f fd VD (Ms C):=by
 have oW:aC P w K mg base bZ 1 fs gs lZ (BQ C):=uV gF.F T jJ.cl n1;refine lW F Gr λdJ A outer s H vs Q E hr h=>?_;obtain⟨S,x,d,s,o,p,r,n,aS,row,rfl,W,R,len,k⟩:=h;refine⟨_,(au (aO (cO (NP rfl) rfl T.ZI PyProof.Rows.boot_all (aa (mh (N:=["start","stop","self"]) (ud (sc:=aA pW) (NX:=["self","row"]) (jx:=[none,none,some 0]) rfl rfl rfl (by decide +kernel) (by decide +kernel) rfl (by decide +kernel) rfl (by decide +kernel)) rfl (cX (pv 1)) (λ_ _ _ _ _ _=>(BH (n:=2) rfl (cB (cE (i:=0) (show List.Nodup (["start","stop","self"]:List Str) by decide +kernel)) (cB (cE (i:=1) (show List.Nodup (["start","stop","self"]:List Str) by decide +kernel)) kY)))) (λ_ _ _ _ _ _=>mF) (λ_ _ _ _ _ _=>(NQ jG tZ jG ay (pv 0) (pv 1) (iu (pv 2) jJ gF oW hr dh)))) ah)))),?_⟩;obtain⟨as,hr1,pa⟩:=id R;have la:=pa.len;refine⟨_,rfl,r,rfl,⟨_,bR.of hr1⟩,λacc fH=>kB (K:=K) (a:=r) (xs:=as.map V.ref) (λi σ H1=>∃ u w:Option V,σ=[u,w,some (.ref x)]/\H1 acc=some (.lst (((row.take i).map (Sf aS.length)).map V.bl))/\aG H H1) ⟨none,none,rfl,af,ak fH _⟩ (by rintro i σ H1 _ ⟨_,_,_,_,s⟩;exact bR.of (s _ _ hr1)) ?_ ?_⟩
 ·rintro i y σ H1 hi ⟨u,w,rfl,ha,s1⟩;rw[j3]at hi;obtain⟨t,et,rfl⟩:=Option.map_eq_some_iff.mp hi;obtain⟨q,eq,ht⟩:=CG pa et;have W1:=W.same s1;refine⟨t,_,rfl,ef.of (s1 _ _ ht),rfl,_,_,rfl,_,_,rfl,rfl,?_⟩
  have oB:∀ v:Bool,Sf aS.length q=v->∃ ys,H1 acc=some (.lst ys)/\ys.length<sizeLine/\∃ u w:Option V,[some (V.int q.1),some (V.int q.2),some (.ref x)]=[u,w,some (.ref x)]/\(aQ H1 acc (.lst (ys++[.bl v]))) acc=some (.lst (((row.take (i+1)).map (Sf aS.length)).map V.bl))/\aG H (aQ H1 acc (.lst (ys++[.bl v]))):=λv hv=>by
   refine⟨_,ha,?_,_,_,rfl,?_,?_⟩
   ·rw[cS,cS,jK];exact aX (by omega)
   ·rw[af,take_snoc eq,kT,kT,← hv];rfl
   ·intro b ob e;rw[aL (az e fH)];exact s1 _ _ e
  refine⟨_,rfl,_,_,rfl,rfl,_,rfl,dO (λc1=>?_) (λc1=>oB false ?_)⟩
  ·refine⟨_,rfl,_,_,rfl,rfl,_,rfl,dO (λc2=>?_) (λc2=>oB false ?_)⟩
   ·refine⟨_,rfl,x,d,_,rfl,W1.hx,rfl,x,d,s,o,p,aS,rfl,W1.hx,W1.hs,_,_,rfl,rfl,oB _ ?_⟩;unfold Sf;rw[c1,c2];rfl
   ·unfold Sf;rw[c1,Bool.eq_false_iff.mpr c2];rfl
  ·unfold Sf;rw[Bool.eq_false_iff.mpr c1];rfl
 ·rintro σ H1 ⟨u,w,rfl,ha,s1⟩;rw[cS,la,lR]at ha;refine⟨acc,_,rfl,bR.of ha,?_⟩
  have e:(row.map (Sf aS.length)).all id=tR aS.length row:=by
   unfold tR;rw[List.all_map];rfl
  rw[e];exact k H1 s1
structure Gbs(mg:Str->Option Value):Prop where
 s:∃ t,mg "MOST_SHEETS"=some (.int 40 t)
 w:∃ t,mg "MOST_WEIGHT"=some (.int 200 t)
 h:∃ t,mg "HIDDEN"=some (.str "#" t)
theorem DR.irr{rows:dM}(h:DR rows){s:Int}:¬ Reach (nJ rows) s s:=by
 obtain⟨rk,_,hr⟩:=h
 have key:∀ g,Reach (nJ rows) s g->rk g<rk s:=by
  intro g r
  induction r with
  | one e=>exact hr _ _ e
  | step _ e ih=>exact Nat.lt_trans (hr _ _ e) ih
 exact λz=>Nat.lt_irrefl _ (key s z)
structure sf(rows:dM)(f:Int->Int):Prop where
 len:rows.length<=100
 es:∀ es∈rows,es.length<=1000
 sd:jw rows
 rk:DR rows
 wt:Weighs rows f
 most:∀ x:Int,0<=x->x<rows.length->f x<=200
inductive IQ(vs:List V)(H:Hp)(Q:VK)(E:XK):Prop
 | mk (r:Addr) (rows:dM) (s:Int) (f:Int->Int) (_:vs=[.ref r,.int s]) (_:jc H r (rows.map aI)) (_:sf rows f) (_:0<=s) (_:s<rows.length) (_: ∀ H',aG H H'->Q .jm H')
theorem pI:aJ ["rows","sheet","way","weights","number"] ["rows","sheet"] (aA qG):=jd
theorem Dc{g fW:Addr}(F:iK K "check_weave" "check_weave" qG g fd)(T:nL mg)(G:Gbs mg)(cC:aF K mg "windows" eT oA fI BL)(iR:aF K mg "below" lU lQ fB QD)(jf:aF K mg "item_weight" jL MR fW JD)(iS:aF K mg "weights_below" iL lQ fV Vh)(lG:aF K mg "way_between" lC OQ fY fdY)(Mt:aF K mg "ring" Hv tL fR fdR):aC P w K mg base bZ 4 g fd tL IQ:=by
 have rS:aC P w K mg base bZ 3 fV Vh lQ yd:=ug iS.F T cC iR jf;have aal:aC P w K mg base bZ 3 fR fdR tL QB:=T3 Mt.F T cC lG;refine lW F pI λdJ A outer s0 H vs Q E hr h=>?_;obtain⟨r,rows,s,f,rfl,hR,B,h0,h1,k⟩:=h;have hu:=lO hr;obtain⟨Gs,Gu⟩:=G.w;have bl:=B.len;refine⟨_,(aj (bx (i:=2) pI.nd (aK Mt aal hr (aa (pv 0) (aa (pv 1) ah)))) (aj (bT (BX (Lk (pv 2))) (au B0) bu) (aj (bx (i:=3) pI.nd (aK iS rS hr (aa (pv 0) (aa (gX (xC rfl) rfl T.mQ xQ (aa (gX FW rfl T.nM PyProof.Rows.boot_range (aa (jy T.je (pv 0)) ah)) ah)) ah)))) (au (gz PassesOwn.never rfl (kZ rfl T.nM (aa (jy T.je (pv 0)) ah)) (cE (i:=4) pI.nd) (au (bT (bh Hh (jQ hu (pv 3) (pv 4)) (Lj (v:=.int 200) rfl Gu ⟨Gs,rfl⟩) (bz _)) (au B0) bu))))))),?_⟩;refine⟨_,rfl,_,rfl,r,s,rfl,r,rows,s,s,rfl,hR,by omega,B.es,B.sd,h0,h1,B.rk.irr,λH1 s1=>?_⟩;refine⟨_,rfl,false,rfl,iI ?_⟩;have hR1:=hR.same s1;obtain⟨vs,hr1,al⟩:=id hR1;have lv:vs.length=rows.length:=by rw[al.len,cS]
 refine⟨_,rfl,_,rfl,r,_,rfl,.inl (bR.of hr1),_,rfl,λp1 Yl=>⟨p1,_,_,rfl,af,⟨by omega,by omega,by omega,by omega⟩,kX (aX (by omega)),λL hL=>?_⟩⟩;rw[Cq,lv,show ((rows.length:Int)-0).toNat=rows.length by omega];rw[lv]at hL;have s2:=s1.trans ((ak Yl (.GX 0 ((rows.length:Nat):Int))).trans (ak hL (.lst ((run 0 rows.length).map V.int))));have hL2:(aQ (aQ H1 p1 (.GX 0 ((rows.length:Nat):Int))) L (.lst ((run 0 rows.length).map V.int))) L=some (.lst ((run 0 rows.length).map V.int)):=af;generalize aQ (aQ H1 p1 (.GX 0 ((rows.length:Nat):Int))) L (.lst ((run 0 rows.length).map V.int))=H2 at s2 hL2;refine⟨r,L,rows,run 0 rows.length,f,rfl,hR.same s2,hL2,by rw[LZ];omega,by omega,B.es,B.sd,B.rk,(λx hx=>by have:=Qo hx;omega),B.wt,λS kvs H3 hS hv s3 _=>?_⟩;have Sd:=s2.trans s3;obtain⟨vs3,NS,al3⟩:=hR.same Sd;have lv3:vs3.length=rows.length:=by rw[al3.len,cS]
 refine⟨_,rfl,r,_,rfl,.inl (bR.of NS),_,rfl,by omega,by omega,?_⟩;refine qT (lo:=0) (n:=((vs3.length:Nat):Int).toNat) (λi σ H4=>∃ u:Option V,σ=[some (.ref r),some (.int s),some .jm,some (.ref S),u]/\aG H H4/\H4 S=some (.dK kvs)) ⟨none,rfl,Sd,hS⟩ ?_ ?_
 ·rintro i σ H4 hi ⟨u,rfl,s4,ZL⟩;have il:i<rows.length:=by omega
  have z:=nI.k (k:=Sum.inl (0+(i:Int))) ZL;rw[hv (0+(i:Int)) (by rw[show (0:Int)+(i:Int)=0+i from rfl];exact vn (LR 0 rows.length i il))]at z;refine⟨_,rfl,_,rfl,S,_,rfl,z,_,_,rfl,rfl,_,rfl,?_⟩;rw[decide_eq_false (show ¬ f (0+(i:Int)) > 200 from λy=>by have:=B.most (0+(i:Int)) (by omega) (by omega);omega)];exact iI ⟨_,rfl,s4,ZL⟩
 ·rintro σ H4 ⟨u,rfl,s4,_⟩;exact k H4 s4
structure j0(C CS:Addr)(S:Addr->Prop)(H:Hp)(x d wl sh bl kn du bk dS st op:Addr)(bI:qu)(ops:List Int)(aB:pP):Prop where
 hx:H x=some (.ins C d [("well",.ref wl),("shelf",.ref sh),("blots",.ref bl),("knots",.ref kn),("dues",.ref du),("book",.ref bk)])
 W:Sh CS S H sh dS st op bI ops
 hb:H bk=some (qt aB)
 nx:¬ S x
 nb:¬ S bk
structure Dd(K:PySem.W.Frag)(mg:Str->Option Value)(C CS XS XM XT:Addr):Prop where
 M:Ym K mg CS XS XM
 c:∃ fi,ClsAt K mg "Library" C fi
 nw:cH K C "well"
 ns:cH K C "shelf"
 Fi:cH K C "blots"
 nk:cH K C "knots"
 nd:cH K C "dues"
 D8:cH K C "book"
 zt:Qq K mg "TooMany" XT
 G:Gbs mg
def Fr(S S':Addr->Prop)(bk:Addr)(H H':Hp):Prop:=(∀ a,S' a->S a\/H a=none)/\(∀ a ob,H a=some ob->¬ S a->a≠bk->H' a=some ob)/\∀ a xs,H a=some (.tup xs)->H' a=some (.tup xs)
theorem Fr.same{S S':Addr->Prop}{bk:Addr}{H0 H H':Hp}(s:aG H0 H)(f:Fr S S' bk H H'):Fr S S' bk H0 H' :=
 ⟨λa z=>(f.1 a z).imp id λy=>aY s y,λa ob e n1 n2=>f.2.1 a ob (s _ _ e) n1 n2,λa xs e=>f.2.2 a xs (s _ _ e)⟩
theorem j0.same{S:Addr->Prop}{H H':Hp}{x d wl sh bl du bk st:Addr}{bI:qu}{ops:List Int}{aB:pP}(L:j0 C CS S H x d wl sh bl kn du bk dS st op bI ops aB)(s:aG H H'):j0 C CS S H' x d wl sh bl kn du bk dS st op bI ops aB :=
 ⟨s _ _ L.hx,L.W.same s,s _ _ L.hb,L.nx,L.nb⟩
theorem j0.neb{S:Addr->Prop}{H:Hp}{x d wl sh bl du bk st:Addr}{bI:qu}{ops:List Int}{aB:pP}(L:j0 C CS S H x d wl sh bl kn du bk dS st op bI ops aB):x≠bk:=λe=>by
 have z:=L.hx;rw[e,L.hb]at z;cases z
inductive Mu(C CS:Addr)(vs:List V)(H:Hp)(Q:VK)(E:XK):Prop
 | mk (S:Addr->Prop) (x d wl sh bl kn du bk dS st op:Addr) (bI:qu) (ops:List Int) (aB:pP) (_:vs=[.ref x]) (_:j0 C CS S H x d wl sh bl kn du bk dS st op bI ops aB) (_:Q (.int (ops.length:Nat)) H)
inductive Gv(C CS:Addr)(vs:List V)(H:Hp)(Q:VK)(E:XK):Prop
 | mk (S:Addr->Prop) (x d wl sh bl kn du bk dS st op:Addr) (bI:qu) (ops:List Int) (aB:pP) (dd c:Addr) (e:nY) (cs:List Addr) (vh:List (Nat × List aT)) (last:List (List aT)) (_:vs=[.ref x,.ref dd,.ref c]) (_:j0 C CS S H x d wl sh bl kn du bk dS st op bI ops aB) (_:e.At H dd) (_:e.Ok) (_:H c=some (.lst (cs.map V.ref))) (_:c≠bk) (_:cj (KU H) cs vh) (_:(∀ a∈cs,∀ (s:Int) (r:Addr),H a=some (.tup [.int s,.ref r])->r≠bk)) (_:bI.getLast?=some last) (_:Xo last vh) (_:vh.length<=200) (_:last.length<=500) (_:bI.length<=1000) (_:aB.length<=1000) (_ :
 ∀ (S':Addr->Prop) (H':Hp),j0 C CS S' H' x d wl sh bl kn du bk dS st op (bI++[uU last vh]) (ops++List.replicate ((uU last vh).length-last.length) ((bI.length:Nat):Int)) (aB++[e.line])->Fr S S' bk H H'->Q .jm H')
theorem Bj:aJ ["self","deed","changes"] ["self","deed","changes"] (aA cI):=jd
theorem De:aJ ["self"] ["self"] (aA pA):=jd
theorem Bk{f:Addr}(F:iK K "many" "Library.many" pA f fd)(L:Dd K mg C CS XS XM XT)(iG:bU K CS "many" "Shelf.many" ki lZ fM gM):aC P w K mg base bZ 2 f fd lZ (Mu C CS):=by
 obtain⟨M,⟨fi,aH⟩,nw,ns,Fi,nk,nd,D8,dG,G⟩:=L;obtain⟨T,⟨fj,bM⟩,n1,n2,dR,cT⟩:=M;have sW:aC P w K mg base bZ 1 _ _ lZ (KS CS):=xH iG.F T bM.cl n1;refine lW F De λdJ A outer s H vs Q E hr h=>?_;obtain⟨S,x,d,wl,sh,bl,kn,du,bk,dS,st,op,bI,ops,aB,rfl,L,k⟩:=h;refine⟨_,(au (aO (iu (dN (pv 0) rfl) bM iG sW hr dh))),?_⟩;exact⟨_,rfl,x,C,d,_,.ref sh,rfl,L.hx,aH.cl,ns,rfl,sh,dS,_,rfl,L.W.hx,rfl,S,sh,dS,st,op,bI,ops,rfl,L.W,k⟩
theorem uo{f:Addr}{gN:FuncData}(F:iK K "enter" "Library.enter" cI f fd)(L:Dd K mg C CS XS XM XT)(kH:aF K mg "ink_words" mO iH fI gI)(sX:aF K mg "shown_deed" pU ["deed"] fD gD)(jS:aF K mg "changed" t9 MT fC gC)(dI:bU K CS "now" "Shelf.now" jM lZ fN gN)(sY:bU K CS "step" "Shelf.step" pV zl3 fT gT):aC P w K mg base bZ 3 f fd Lg (Gv C CS):=by
 obtain⟨M,⟨fi,aH⟩,nw,ns,Fi,nk,nd,D8,dG,G⟩:=L;obtain⟨T,⟨fj,bM⟩,n1,n2,dR,cT⟩:=M;have IS:aC P w K mg base bZ 2 _ _ ["deed"] ID:=D4 sX.F T kH;have IT:aC P w K mg base bZ 2 _ _ zl3 (II CS):=D5 sY.F T bM n1 n2 jS dI;refine lW F Bj λdJ A outer s H vs Q E hr h=>?_;obtain⟨S,x,d,wl,sh,bl,kn,du,bk,dS,st,op,bI,ops,aB,dd,c,e,cs,vh,last,rfl,L,de,ok,hc,ncb,al,nr,hl,oc,l1,l2,l3,l4,k⟩:=h;refine⟨_,(aj (bf (gV vE qj qm cy (dN (pv 0) rfl) (aa (aK sX IS hr (aa (pv 1) ah)) ah))) (au (bf (dP (dN (pv 0) rfl) bM sY IT hr dh (aa (pv 2) ah))))),?_⟩;refine⟨_,rfl,x,C,d,_,.ref bk,rfl,L.hx,aH.cl,D8,rfl,.inl ⟨rfl,_,bR.of L.hb⟩,_,rfl,dd,e,rfl,de,ok,KQ ok,λH1 s1=>?_⟩;refine⟨bk,_,_,rfl,rfl,s1 _ _ L.hb,aX (by rw[cS];omega),?_⟩;have e2:(aB.map λw=>V.str (iC w))++[V.str (iC e.line)]=(aB++[e.line]).map λw=>V.str (iC w):=by rw[kT];rfl
 rw[e2]
 have k2:cY bk H (aQ H1 bk (qt (aB++[e.line]))):=λa o q n=>by
  rw[aL n];exact s1 _ _ q
 have Xl:(aQ H1 bk (qt (aB++[e.line]))) bk=some (qt (aB++[e.line])):=af
 have fr2:∀ a,(aQ H1 bk (qt (aB++[e.line]))) a=none->H a=none:=λa q=>by
  by_cases z:a=bk
  ·rw[z,af]at q;cases q
  ·rw[aL z]at q;exact aY s1 q
 generalize aQ H1 bk (qt (aB++[e.line]))=H2 at k2 Xl fr2;have t2:∀ a xs,H a=some (.tup xs)->H2 a=some (.tup xs):=λa xs q=>k2 _ _ q (eL q L.hb);have W2:Sh CS S H2 sh dS st op bI ops:=L.W.keep L.hb L.nb k2;have x2:=k2 _ _ L.hx L.neb;refine⟨_,rfl,x,C,d,_,.ref sh,rfl,x2,aH.cl,ns,rfl,sh,dS,_,rfl,W2.hx,rfl,_,rfl,S,sh,dS,st,op,c,bI,ops,cs,vh,last,rfl,W2,k2 _ _ hc ncb,?_,hl,oc,l1,l2,l3,λS' H3 W3 sub fr tp=>?_⟩
 ·have key:∀ {as:List Addr} {ds:List (Nat × List aT)},cj (KU H) as ds->(∀ a∈as,a∈cs)->cj (KU H2) as ds:=by
   intro as ds q
   induction q with
   | nil=>intro _;exact .nil
   | cons o t ih =>
    intro sub;refine .cons ?_ (ih λa ha=>sub a (sF _ ha));obtain⟨r,ha,it⟩:=o;have nrb:=nr _ (sub _ yC) _ r ha;exact⟨r,t2 _ _ ha,it.fr (λxs q=>k2 _ _ q nrb) t2⟩
  exact key al λ_ z=>z
 ·refine k S' H3 ⟨fr _ _ x2 L.nx,W3,fr _ _ Xl L.nb,λz=>?_,λz=>?_⟩ ⟨λa z=>(sub a z).imp id λq=>fr2 a q,λa ob q n n'=>fr _ _ (k2 _ _ q n') n,λa xs q=>tp _ _ (t2 _ _ q)⟩
  ·rcases sub _ z with q|q
   ·exact L.nx q
   ·rw[x2]at q;cases q
  ·rcases sub _ z with q|q
   ·exact L.nb q
   ·rw[Xl]at q;cases q
abbrev oH(pe:ou):qu:=pe.map λrows=>rows.map aI
def mz(rows:dM)(s:Nat)(es:List Int):dM:=rows.take s++[es]++rows.drop (s+1)
theorem Ul(rows:dM)(s:Nat)(es:List Int):uU (rows.map aI) [(s,aI es)]=(mz rows s es).map aI:=by
 show (rows.map aI).take s++[aI es]++(rows.map aI).drop (s+1)=_;unfold mz;rw[kT,kT,List.map_take,List.map_drop];rfl
theorem IU{rows:dM}{s:Nat}{es:List Int}(h:s<=rows.length):(mz rows s es).length=if s=rows.length then rows.length+1 else rows.length:=by
 unfold mz;rw[dX,dX,jK,vq];show min s rows.length+1+_=_
 split <;> omega
def Q5(ops:List Int)(n s m:Nat):List Int:=ops++if s=n then [(m:Int)] else []
theorem Xr{rows:dM}{s:Nat}{es:List Int}{ops:List Int}{m:Nat}(h:s<=rows.length):ops++List.replicate (((mz rows s es).map aI).length-(rows.map aI).length) (m:Int)=Q5 ops rows.length s m:=by
 rw[cS,cS,IU h];unfold Q5;by_cases c:s=rows.length
 ·rw[if_pos c,if_pos c,show rows.length+1-rows.length=1 by omega];rfl
 ·rw[if_neg c,if_neg c,Nat.sub_self];rfl
inductive qe(C CS:Addr)(vs:List V)(H:Hp)(Q:VK)(E:XK):Prop
 | mk (S:Addr->Prop) (x d wl sh bl kn du bk dS st op:Addr) (pe:ou) (ops:List Int) (aB:pP) (dd r:Addr) (e:nY) (s:Nat) (es:List Int) (rows:dM) (f:Int->Int) (_:vs=[.ref x,.ref dd,.int (s:Nat),.ref r]) (_:j0 C CS S H x d wl sh bl kn du bk dS st op (oH pe) ops aB) (_:e.At H dd) (_:e.Ok) (_:bL H (.ref r) (aI es)) (_:r≠bk) (_:pe.getLast?=some rows) (_:s<=rows.length) (_:rows.length<=50) (_:pe.length<=900) (_:aB.length<=900) (_:sf (mz rows s es) f) (_ :
 ∀ (S':Addr->Prop) (H':Hp),j0 C CS S' H' x d wl sh bl kn du bk dS st op (oH (pe++[mz rows s es])) (Q5 ops rows.length s pe.length) (aB++[e.line])->Fr S S' bk H H'->Q .jm H')
theorem Av:aJ ["self","deed","sheet","items"] ["self","deed","sheet","items"] (aA cR):=jd
structure IV(K:PySem.W.Frag)(mg:Str->Option Value)(CS:Addr):Prop where
 many:∃ f g,bU K CS "many" "Shelf.many" ki lZ f g
 now:∃ f g,bU K CS "now" "Shelf.now" jM lZ f g
 cs:∃ f g,bU K CS "check_sheet" "Shelf.check_sheet" iM xO f g
 cm:∃ f g,bU K CS "check_moment" "Shelf.check_moment" eZ Ss f g
 rst:∃ f g,bU K CS "rows_then" "Shelf.rows_then" iJ Ss f g
 rs:∃ f g,bU K CS "rows" "Shelf.rows" sN lZ f g
 stp:∃ f g,bU K CS "step" "Shelf.step" pV zl3 f g
structure Mw(K:PySem.W.Frag)(mg:Str->Option Value):Prop where
 win:∃ f g,aF K mg "windows" eT oA f g
 bel:∃ f g,aF K mg "below" lU lQ f g
 iw:∃ f g,aF K mg "item_weight" jL MR f g
 wb:∃ f g,aF K mg "weights_below" iL lQ f g
 wy:∃ f g,aF K mg "way_between" lC OQ f g
 rg:∃ f g,aF K mg "ring" Hv tL f g
 cw:∃ f g,aF K mg "check_weave" qG tL f g
 ch:∃ f g,aF K mg "changed" t9 MT f g
 ik:∃ f g,aF K mg "ink_words" mO iH f g
 sd:∃ f g,aF K mg "shown_deed" pU ["deed"] f g
theorem gf{pe:ou}{rows:dM}(h:pe.getLast?=some rows):(oH pe).getLast?=some (rows.map aI):=by
 rw[List.getLast?_map,h];rfl
theorem Q6{H H':Hp}{rs:List Addr}{rows:List (List aT)}{r:Addr}{aP:List aT}{s:Nat}(al:cj (λq i=>bL H' (.ref q) i) rs rows)(it:bL H' (.ref r) aP):cj (bL H') ((rs.map V.ref).take s++[.ref r]++(rs.map V.ref).drop (s+1)) (rows.take s++[aP]++rows.drop (s+1)):=by
 have key:cj (bL H') (rs.map V.ref) rows:=by
  induction al with
  | nil=>exact .nil
  | cons o t ih=>exact .cons o ih
 exact ((key.take s).app (.cons it .nil)).app (key.drop (s+1))
theorem eY{f:Addr}(F:iK K "change" "Library.change" cR f fd)(L:Dd K mg C CS XS XM XT)(A1:IV K mg CS)(A2:Mw K mg)(aW:bU K C "enter" "Library.enter" cI Lg fE gE):aC P w K mg base bZ 5 f fd Jz (qe C CS):=by
 obtain⟨⟨_,_,d1⟩,⟨_,_,d2⟩,⟨_,_,d3⟩,⟨_,_,d4⟩,⟨_,_,d7⟩,⟨_,_,bJ⟩,⟨_,_,d9⟩⟩:=A1;obtain⟨⟨_,_,w1⟩,⟨_,_,w2⟩,⟨_,_,w3⟩,⟨_,_,w4⟩,⟨_,_,w5⟩,⟨_,_,w6⟩,⟨_,_,qN⟩,⟨_,_,jS⟩,⟨_,_,w9⟩,⟨_,_,w10⟩⟩:=A2;have sj:aC P w K mg base bZ 3 _ _ Lg (Gv C CS):=uo aW.F L w9 w10 jS d2 d9;obtain⟨M,⟨fi,aH⟩,nw,ns,Fi,nk,nd,D8,dG,G⟩:=L;have cQ:aC P w K mg base bZ 4 _ _ lZ (tQ CS):=gQ bJ.F M d2 d4 d7;obtain⟨T,⟨fj,bM⟩,n1,n2,dR,cT⟩:=M;have C7:aC P w K mg base bZ 1 _ _ MT Am:=C5 jS.F T;have Gw:aC P w K mg base bZ 4 _ _ tL IQ:=Dc qN.F T G w1 w2 w3 w4 w5 w6;refine lW F Av λdJ A outer s H vs Q E hr h=>?_;obtain⟨S,x,d,wl,sh,bl,kn,du,bk,dS,st,op,pe,ops,aB,dd,r,e,s,es,rows,f,rfl,L,de,ok,hi,nrb,hl,sl,l1,l2,l3,B,k⟩:=h;have hl':=gf hl;have lp:(oH pe).length=pe.length:=cS _
 have lo:ops.length=rows.length:=by
  obtain⟨last,z1,z2⟩:=L.W.Sb.Ff;rw[hl']at z1;cases z1;rw[z2,cS]
 refine⟨_,(aj (bf (aK qN Gw hr (aa (aK jS C7 hr (aa (iu (dN (pv 0) rfl) bM bJ cQ hr dh) (aa (pv 2) (aa (pv 3) ah)))) (aa (pv 2) ah)))) (au (bf (dP (pv 0) aH aW sj hr dh (aa (pv 1) (aa (bQ (aa (dH (aa (pv 2) (aa (pv 3) ah))) ah)) ah)))))),?_⟩;refine⟨_,rfl,x,C,d,_,.ref sh,rfl,L.hx,aH.cl,ns,rfl,sh,dS,_,rfl,L.W.hx,rfl,S,sh,dS,st,op,oH pe,ops,rfl,L.W,⟨by omega,by omega⟩,λVo el q H1 fs s1=>?_⟩;rw[hl']at el;cases el;obtain⟨fq,rs,hq,al⟩:=fs;have lr:rs.length=rows.length:=by rw[al.len,cS]
 have hi1:=hi.same s1;have L1:=L.same s1;refine⟨_,rfl,_,rfl,q,r,_,s,rfl,hq,by rw[cS,lr];exact sl,by rw[cS,lr];omega,λp2 H2 U6 s2 f2=>?_⟩
 refine⟨_,rfl,p2,mz rows s es,(s:Int),f,rfl,⟨_,U6,?_⟩,B,by omega,by rw[IU sl];split <;> omega,λH3 s3=>?_⟩
 ·have z:=Q6 (H:=H) (H':=H2) (s:=s) (al.mono λq' i' w'=>(w'.2.2).same s2) (hi1.same s2)
  have e':(rows.map aI).take s++[aI es]++(rows.map aI).drop (s+1)=(mz rows s es).map aI:=by
   unfold mz;rw[kT,kT,List.map_take,List.map_drop];rfl
  rw[e']at z;exact z
 have zY:=s1.trans (s2.trans s3);have L3:=L.same zY;refine⟨_,rfl,x,d,_,rfl,L3.hx,rfl,_,rfl,_,rfl,_,rfl,uP,λt ht=>⟨lX,λc hc=>?_⟩⟩;have s4:aG H3 (aQ (aQ H3 t (.tup [.int (s:Nat),.ref r])) c (.lst [.ref t])):=(ak ht _).trans (ak hc _);have ht4:(aQ (aQ H3 t (.tup [.int (s:Nat),.ref r])) c (.lst [.ref t])) t=some (.tup [.int (s:Nat),.ref r]):=ak hc _ _ _ af;have hc4:(aQ (aQ H3 t (.tup [.int (s:Nat),.ref r])) c (.lst [.ref t])) c=some (.lst ([t].map V.ref)):=af
 have nc:c≠bk:=λz=>by
  have:=ak ht (.tup [.int (s:Nat),.ref r]) _ _ L3.hb;rw[← z,hc]at this;cases this
 generalize aQ (aQ H3 t (.tup [.int (s:Nat),.ref r])) c (.lst [.ref t])=H4 at s4 ht4 hc4;have JG:=zY.trans s4;refine⟨S,x,d,wl,sh,bl,kn,du,bk,dS,st,op,oH pe,ops,aB,dd,c,e,[t],[(s,aI es)],rows.map aI,rfl,L.same JG,de.same JG,ok,hc4,nc,.cons ⟨r,ht4,hi.same JG⟩ .nil,?_,hl',?_,(by show 1<=200;decide),by rw[cS];omega,by omega,by omega,λS' H' L' fr=>?_⟩
 ·intro a ha s' r' e';rw[List.mem_singleton.mp ha,ht4]at e';cases e';exact nrb
 ·intro i ch ei
  match i,ei with
  | 0,ei =>
   cases ei;show s<=(rows.map aI).length;rw[cS];exact sl
  | i+1,ei=>cases ei
 ·rw[Ul,Xr sl,lp]at L';refine k S' H' ?_ (fr.same JG)
  have ep:oH (pe++[mz rows s es])=oH pe++[(mz rows s es).map aI]:=by
   show (pe++[mz rows s es]).map _=_;rw[kT];rfl
  rw[ep];exact L'
theorem Mx{n:Nat}(h:n<=1000):m6 ((n:Nat):Int):=⟨by omega,by omega⟩
inductive My(C CS XT:Addr)(vs:List V)(H:Hp)(Q:VK)(E:XK):Prop
 | mk (S:Addr->Prop) (x d wl sh bl kn du bk dS st op:Addr) (pe:ou) (ops:List Int) (aB:pP) (dd r:Addr) (e:nY) (es:List Int) (rows:dM) (_:vs=[.ref x,.ref dd,.ref r]) (_:j0 C CS S H x d wl sh bl kn du bk dS st op (oH pe) ops aB) (_:e.At H dd) (_:e.Ok) (_:bL H (.ref r) (aI es)) (_:r≠bk) (_:pe.getLast?=some rows) (_:rows.length<=50) (_:pe.length<=900) (_:aB.length<=900) (_:(40<=rows.length->E (.ref XT) none H)) (_:(rows.length<40->(∃ f,sf (rows++[es]) f)/\∀ (S':Addr->Prop) (H':Hp),j0 C CS S' H' x d wl sh bl kn du bk dS st op (oH (pe++[rows++[es]])) (ops++[((pe.length:Nat):Int)]) (aB++[e.line])->Fr S S' bk H H'->Q (.int (rows.length:Nat)) H'))
theorem vj:aJ ["self","deed","items","sheet"] ["self","deed","items"] (aA nA):=jd
theorem IW(rows:dM)(es:List Int):mz rows rows.length es=rows++[es]:=by
 unfold mz;rw[lR,BR (by omega),kW]
structure LbF(K:PySem.W.Frag)(mg:Str->Option Value)(C:Addr):Prop where
 en:∃ f g,bU K C "enter" "Library.enter" cI Lg f g
 ch:∃ f g,bU K C "change" "Library.change" cR Jz f g
 many:∃ f g,bU K C "many" "Library.many" pA lZ f g
 bg:∃ f g,bU K C "begin" "Library.begin" nA zl6 f g
theorem pJ{S:Addr->Prop}{H:Hp}{x d wl sh bl du bk st:Addr}{pe:ou}{ops:List Int}{aB:pP}{rows:dM}(L:j0 C CS S H x d wl sh bl kn du bk dS st op (oH pe) ops aB)(hl:pe.getLast?=some rows):ops.length=rows.length:=by
 obtain⟨last,z1,z2⟩:=L.W.Sb.Ff;rw[gf hl]at z1;cases z1;rw[z2,cS]
theorem Aw{f:Addr}(F:iK K "begin" "Library.begin" nA f fd)(L:Dd K mg C CS XS XM XT)(A1:IV K mg CS)(A2:Mw K mg)(A3:LbF K mg C):aC P w K mg base (lP P w) 6 f fd zl6 (My C CS XT):=by
 obtain⟨⟨_,_,e1⟩,⟨_,_,aR⟩,⟨_,_,pK⟩,_⟩:=A3;have cF:aC P w K mg base bZ 5 _ _ Jz (qe C CS):=eY aR.F L A1 A2 e1;obtain⟨⟨_,_,d1⟩,_⟩:=A1;have D9:aC P w K mg base bZ 2 _ _ lZ (Mu C CS):=Bk pK.F L d1;obtain⟨M,⟨fi,aH⟩,nw,ns,Fi,nk,nd,D8,dG,G⟩:=L;obtain⟨Gx,Gy⟩:=G.s;refine DU F vj λdJ A outer s H vs Q E hr h=>?_;obtain⟨S,x,d,wl,sh,bl,kn,du,bk,dS,st,op,pe,ops,aB,dd,r,e,es,rows,rfl,L,de,ok,hi,nrb,hl,l1,l2,l3,k1,k2⟩:=h;have lo:=pJ L hl;refine⟨_,(aj (bx (i:=3) vj.nd (iu (pv 0) aH pK D9 hr dh)) (aj (bT (bh UM (pv 3) (Lj (v:=.int 40) rfl Gy ⟨Gx,rfl⟩) (bz _)) (au (uc PySem.F.excBase_ValueError dG.x dG.m rfl zQ (aa (wK (oR (rM (pv 3) (oR zR)))) ah))) bu) (aj (bf (dP (pv 0) aH aR cF hr dh (aa (pv 1) (aa (pv 3) (aa (pv 2) ah))))) (au (aO (pv 3)))))),?_⟩;refine⟨_,rfl,x,d,_,rfl,L.hx,rfl,S,x,d,wl,sh,bl,kn,du,bk,dS,st,op,oH pe,ops,aB,rfl,L,?_⟩;rw[lo];refine⟨_,rfl,_,_,rfl,rfl,_,rfl,dO (λc=>?_) (λc=>?_)⟩
 ·have c':=of_decide_eq_true c;exact⟨_,rfl,_,rfl,(Mx (by omega)).log,λy=>⟨lX,k1 (by omega)⟩⟩
 ·have c':¬ ((rows.length:Nat):Int)>=40:=λz=>c (decide_eq_true z);obtain⟨⟨f,B⟩,k3⟩:=k2 (by omega);refine⟨_,rfl,x,d,_,rfl,L.hx,rfl,_,rfl,_,rfl,_,rfl,S,x,d,wl,sh,bl,kn,du,bk,dS,st,op,pe,ops,aB,dd,r,e,rows.length,es,rows,f,rfl,L,de,ok,hi,nrb,hl,jz _,l1,l2,l3,by rw[IW];exact B,λS' H' L' fr=>?_⟩;rw[IW]at L';have eo:Q5 ops rows.length rows.length pe.length=ops++[((pe.length:Nat):Int)]:=by unfold Q5;rw[if_pos rfl]
  rw[eo]at L';exact⟨_,rfl,k3 S' H' L' fr⟩
abbrev frW:List Nat:=(Str.ofString "fresh").cps.toList
theorem Q7:(nY.plain frW []).Ok:=⟨by decide +kernel,λ_ z=>by cases z⟩
inductive Mz(C CS XT:Addr)(vs:List V)(H:Hp)(Q:VK)(E:XK):Prop
 | mk (S:Addr->Prop) (x d wl sh bl kn du bk dS st op:Addr) (pe:ou) (ops:List Int) (aB:pP) (rows:dM) (_:vs=[.ref x]) (_:j0 C CS S H x d wl sh bl kn du bk dS st op (oH pe) ops aB) (_:pe.getLast?=some rows) (_:rows.length<=50) (_:pe.length<=900) (_:aB.length<=900) (_:(40<=rows.length->∀ H',aG H H'->E (.ref XT) none H')) (_:(rows.length<40->(∃ f,sf (rows++[[]]) f)/\∀ (S':Addr->Prop) (H':Hp),j0 C CS S' H' x d wl sh bl kn du bk dS st op (oH (pe++[rows++[[]]])) (ops++[((pe.length:Nat):Int)]) (aB++[(nY.plain frW []).line])->Fr S S' bk H H'->Q (.int (rows.length:Nat)) H'))
theorem Bm:aJ ["self"] ["self"] (aA kj):=jd
theorem Ax{f:Addr}(F:iK K "fresh" "Library.fresh" kj f fd)(L:Dd K mg C CS XS XM XT)(A1:IV K mg CS)(A2:Mw K mg)(A3:LbF K mg C):aC P w K mg base (lP P w) 7 f fd lZ (Mz C CS XT):=by
 obtain⟨_,_,n8⟩:=A3.bg;have Df:aC P w K mg base (lP P w) 6 _ _ zl6 (My C CS XT):=Aw n8.F L A1 A2 A3;obtain⟨M,⟨fi,aH⟩,nw,ns,Fi,nk,nd,D8,dG,G⟩:=L;refine DU F Bm λdJ A outer s H vs Q E hr h=>?_;obtain⟨S,x,d,wl,sh,bl,kn,du,bk,dS,st,op,pe,ops,aB,rows,rfl,L,hl,l1,l2,l3,k1,k2⟩:=h;refine⟨_,(au (aO (dP (pv 0) aH n8 Df hr jI (aa (dH (aa bG ah)) (aa (bQ ah) ah))))),?_⟩;refine⟨_,rfl,x,d,_,rfl,L.hx,rfl,lX,λt ht=>⟨mj,λr AV=>?_⟩⟩;have s1:aG H (aQ (aQ H t (.tup [.str "fresh"])) r (.lst [])):=(ak ht _).trans (ak AV _);have ht1:(aQ (aQ H t (.tup [.str "fresh"])) r (.lst [])) t=some (.tup [.str "fresh"]):=ak AV _ _ _ af;have hr1:(aQ (aQ H t (.tup [.str "fresh"])) r (.lst [])) r=some (.lst []):=af
 have nr:r≠bk:=λz=>by
  have:=ak ht (.tup [.str "fresh"]) _ _ L.hb;rw[← z,AV]at this;cases this
 generalize aQ (aQ H t (.tup [.str "fresh"])) r (.lst [])=H1 at s1 ht1 hr1;refine⟨S,x,d,wl,sh,bl,kn,du,bk,dS,st,op,pe,ops,aB,t,r,.plain frW [],[],rows,rfl,L.same s1,by show H1 t=_;rw[ht1,vN];rfl,Q7,⟨r,[],rfl,hr1,.nil⟩,nr,hl,l1,l2,l3,λc=>k1 c H1 s1,λc=>?_⟩;obtain⟨B,k3⟩:=k2 c;exact⟨B,λS' H' L' fr=>k3 S' H' L' (fr.same s1)⟩
theorem qY{H H1:Hp}{dw:Addr}{o:HO}(h1:H xw=none)(h2:H dw=none)(k:cY xw (aQ (aQ H dw (.own xw)) xw o) H1):aG H H1:=λa ob e=>k a ob (by rw[aL (az e h1),aL (az e h2)];exact e) (az e h1)
theorem Sh.qf{S:Addr->Prop}{H H':Hp}{x d st:Addr}{bI:qu}{ops:List Int}{fs:List (Str × V)}(h:Sh C S H x d st op bI ops)(hl:H l=some (.ins C' d' fs))(nl:¬ S l)(k:cY l H H'):Sh C S H' x d st op bI ops :=
 h.fr (λa ob e z=>k a ob e (λq=>nl (by rw[← q];exact z))) (λa xs e=>k _ _ e (eL e hl))
structure Yn(K:PySem.W.Frag)(mg:Str->Option Value)(fS fZ:Addr):Prop where
 win:∃ f g,aF K mg "windows" eT oA f g
 bel:∃ f g,aF K mg "below" lU lQ f g
 ir:∃ f g,aF K mg "item_row" gY yz f g
 pl:∃ f g,aF K mg "plain" mL iH f g
 vb:∃ f g,aF K mg "views_below" eU lQ f g
 sh:∃ g,aF K mg "shown" xV tL fS g
 sz:∃ g,aF K mg "size" sL iH fZ g
structure Seen(rows:dM)(sh:Int->List Int):Prop where
 es:∀ es∈rows,es.length<=1000
 sd:jw rows
 rk:DR rows
 ss:qz rows sh
 ln:∀ x:Int,0<=x->x<rows.length->(sh x).length<=10000
inductive vV(C CS XS:Addr)(vs:List V)(H:Hp)(Q:VK)(E:XK):Prop
 | mk (S:Addr->Prop) (x d wl sh bl kn du bk dS st op:Addr) (pe:ou) (ops:List Int) (aB:pP) (rows:dM) (s:Int) (_:vs=[.ref x,.int s]) (_:j0 C CS S H x d wl sh bl kn du bk dS st op (oH pe) ops aB) (_:pe.getLast?=some rows) (_:rows.length<=50) (_:pe.length<=900) (_:m6 s) (_:(¬ qh rows.length s->E (.ref XS) none H)) (_:(qh rows.length s->∃ f,Seen rows f/\∀ (o:Addr) (H':Hp),cL H' o (cU (f s))->aG H H'->H o=none->Q (.ref o) H'))
theorem Bo:aJ ["self","sheet"] ["self","sheet"] (aA iN):=jd
theorem lK{f fS:Addr}(F:iK K "shown" "Library.shown" iN f fd)(L:Dd K mg C CS XS XM XT)(A1:IV K mg CS)(A4:Yn K mg fS fZ):aC P w K mg base (lP P w) 5 f fd xO (vV C CS XS):=by
 obtain⟨⟨_,_,d1⟩,⟨_,_,d2⟩,⟨_,_,aM⟩,⟨_,_,d4⟩,⟨_,_,d7⟩,⟨_,_,bJ⟩,_⟩:=A1;obtain⟨⟨_,_,w1⟩,⟨_,_,w2⟩,⟨_,_,w3⟩,⟨_,_,w4⟩,⟨_,_,w5⟩,⟨_,lY⟩,_⟩:=A4;obtain⟨M,⟨fi,aH⟩,nw,ns,Fi,nk,nd,D8,dG,G⟩:=L;have cQ:aC P w K mg base bZ 4 _ _ lZ (tQ CS):=gQ bJ.F M d2 d4 d7;have bH:aC P w K mg base (lP P w) 2 _ _ xO (nZ CS XS):=cP aM.F M d1;obtain⟨T,⟨fj,bM⟩,n1,n2,dR,cT⟩:=M;have KP:aC P w K mg base bZ 4 _ _ tL Gb:=Im lY.F T w1 w2 w3 w4 w5;refine DU F Bo λdJ A outer s H vs Q E hr h=>?_;obtain⟨S,x,d,wl,sh,bl,kn,du,bk,dS,st,op,pe,ops,aB,rows,s,rfl,L,hl,l1,l2,fs,k1,k2⟩:=h;have lo:=pJ L hl;have lp:(oH pe).length=pe.length:=cS _;have hl':=gf hl;refine⟨_,(aj (bf (dP (dN (pv 0) rfl) bM aM bH hr jI (aa (pv 1) ah))) (au (aO (iP.uN lY (T.vO _ lY.m) KP hr (aa (iu (dN (pv 0) rfl) bM bJ cQ hr dh) (aa (pv 1) ah)))))),?_⟩;refine⟨_,rfl,x,C,d,_,.ref sh,rfl,L.hx,aH.cl,ns,rfl,sh,dS,_,rfl,L.W.hx,rfl,_,rfl,S,sh,dS,st,op,oH pe,ops,s,rfl,L.W,⟨by omega,by omega⟩,fs,λia=>?_,λz=>k1 (by rw[← lo];exact z)⟩;rw[lo]at ia;obtain⟨f0,sn,k3⟩:=k2 ia;refine⟨_,rfl,x,C,d,_,.ref sh,rfl,L.hx,aH.cl,ns,rfl,sh,dS,_,rfl,L.W.hx,rfl,S,sh,dS,st,op,oH pe,ops,rfl,L.W,⟨by omega,by omega⟩,λVo el q H1 Q8 s1=>?_⟩;rw[hl']at el;cases el;obtain⟨fq,rs,hq,al⟩:=Q8
 have hR:jc H1 q (rows.map aI):=by
  refine⟨rs.map V.ref,hq,?_⟩
  have key:∀ {as:List Addr} {ds:List (List aT)},cj (λr aP=>H r=none/\r≠q/\bL H1 (.ref r) aP) as ds->cj (bL H1) (as.map V.ref) ds:=by
   intro as ds z
   induction z with
   | nil=>exact .nil
   | cons o t ih=>exact .cons o.2.2 ih
  exact key al
 exact⟨_,rfl,q,rows,s,f0,rfl,hR,by omega,sn.es,sn.sd,sn.rk,ia.1,ia.2,sn.ss,sn.ln,λo H2 ho s2 fo=>k3 o H2 ho (s1.trans s2) (aY s1 fo)⟩
theorem j0.fr{S:Addr->Prop}{H H':Hp}{x d wl sh bl du bk st:Addr}{bI:qu}{ops:List Int}{aB:pP}(L:j0 C CS S H x d wl sh bl kn du bk dS st op bI ops aB)(k:∀ a ob,H a=some ob->(S a\/a=bk\/a=x)->H' a=some ob)(t:∀ a xs,H a=some (.tup xs)->H' a=some (.tup xs)):j0 C CS S H' x d wl sh bl kn du bk dS st op bI ops aB :=
 ⟨k _ _ L.hx (.inr (.inr rfl)),L.W.fr (λa ob e z=>k a ob e (.inl z)) t,k _ _ L.hb (.inr (.inl rfl)),L.nx,L.nb⟩
structure Ea(C CS CW CB:Addr)(U S SW:Addr->Prop)(H:Hp)(x d wl sh bl kn du bk dS st op dw sg ow pw db tb:Addr)(pe:ou)(ops:List Int)(aB:pP)(aS:m7)(nW:Nat)(cD:Row):Prop where
 L:j0 C CS S H x d wl sh bl kn du bk dS st op (oH pe) ops aB
 W:We CW SW H wl dw sg ow pw nW aS
 B:Bl CB H bl db tb
 R:cL H tb cD
 Xs:Ris cD
 dj:∀ a,SW a->¬ S a/\a≠bk/\a≠x
 db:¬ S bl/\¬ SW bl/\bl≠bk
 dt:¬ S tb/\¬ SW tb/\tb≠bk
 u:∀ a,U a↔S a\/SW a\/a=bk\/a=x\/a=bl\/a=tb
inductive yo(C CS CW CB:Addr)(U:Addr->Prop)(H:Hp)(x:Addr)(pe:ou)(aB:pP)(aS:m7)(nW:Nat)(cD:Row):Prop
 | mk (S SW:Addr->Prop) (d wl sh bl kn du bk dS st op dw sg ow pw db tb:Addr) (ops:List Int) (_:Ea C CS CW CB U S SW H x d wl sh bl kn du bk dS st op dw sg ow pw db tb pe ops aB aS nW cD)
def MA(U U':Addr->Prop)(H H':Hp):Prop:=(∀ a,U' a->U a\/H a=none)/\(∀ a ob,H a=some ob->¬ U a->H' a=some ob)/\∀ a xs,H a=some (.tup xs)->H' a=some (.tup xs)
theorem MA.pre{U U':Addr->Prop}{H0 H H':Hp}(s:aG H0 H)(f:MA U U' H H'):MA U U' H0 H':=⟨λa z=>(f.1 a z).imp id λy=>aY s y,λa ob e n=>f.2.1 a ob (s _ _ e) n,λa xs e=>f.2.2 a xs (s _ _ e)⟩
theorem Ea.fr{U S SW:Addr->Prop}{H H':Hp}{x d wl sh bl du bk st dw pw db:Addr}{pe:ou}{ops:List Int}{aB:pP}{aS:m7}{nW:Nat}{cD:Row}(h:Ea C CS CW CB U S SW H x d wl sh bl kn du bk dS st op dw sg ow pw db tb pe ops aB aS nW cD)(k:∀ a ob,H a=some ob->U a->H' a=some ob)(t:∀ a xs,H a=some (.tup xs)->H' a=some (.tup xs)):Ea C CS CW CB U S SW H' x d wl sh bl kn du bk dS st op dw sg ow pw db tb pe ops aB aS nW cD:=by
 obtain⟨L,W,B,R,Xs,dj,db',dt,u⟩:=h;refine⟨L.fr (λa ob e z=>k a ob e ((u a).mpr ?_)) t,W.fr (λa ob e z=>k a ob e ((u a).mpr (.inr (.inl z)))) t,k _ _ B ((u _).mpr (.inr (.inr (.inr (.inr (.inl rfl)))))),R.two (λxs e=>k _ _ e ((u _).mpr (.inr (.inr (.inr (.inr (.inr rfl))))))) t,Xs,dj,db',dt,u⟩;rcases z with z|z|z
 ·exact .inl z
 ·exact .inr (.inr (.inl z))
 ·exact .inr (.inr (.inr (.inl z)))
theorem Ea.same{U S SW:Addr->Prop}{H H':Hp}{x d wl sh bl du bk st dw pw db:Addr}{pe:ou}{ops:List Int}{aB:pP}{aS:m7}{nW:Nat}{cD:Row}(h:Ea C CS CW CB U S SW H x d wl sh bl kn du bk dS st op dw sg ow pw db tb pe ops aB aS nW cD)(s:aG H H'):Ea C CS CW CB U S SW H' x d wl sh bl kn du bk dS st op dw sg ow pw db tb pe ops aB aS nW cD:=h.fr (λa ob e _=>s a ob e) λa xs e=>s _ _ e
theorem yo.fr{U:Addr->Prop}{H H':Hp}{x:Addr}{pe:ou}{aB:pP}{aS:m7}{nW:Nat}{cD:Row}(h:yo C CS CW CB U H x pe aB aS nW cD)(k:∀ a ob,H a=some ob->U a->H' a=some ob)(t:∀ a xs,H a=some (.tup xs)->H' a=some (.tup xs)):yo C CS CW CB U H' x pe aB aS nW cD:=by
 obtain⟨S,SW,d,wl,sh,bl,kn,du,bk,dS,st,op,dw,sg,ow,pw,db,tb,ops,z⟩:=h;exact⟨S,SW,d,wl,sh,bl,kn,du,bk,dS,st,op,dw,sg,ow,pw,db,tb,ops,z.fr k t⟩
theorem yo.same{U:Addr->Prop}{H H':Hp}{x:Addr}{pe:ou}{aB:pP}{aS:m7}{nW:Nat}{cD:Row}(h:yo C CS CW CB U H x pe aB aS nW cD)(s:aG H H'):yo C CS CW CB U H' x pe aB aS nW cD:=h.fr (λa ob e _=>s a ob e) λa xs e=>s _ _ e
theorem Ea.sZ{U S S' SW:Addr->Prop}{H H':Hp}{x d wl sh bl du bk st dw pw db:Addr}{pe JH:ou}{ops yp:List Int}{aB jY:pP}{aS:m7}{nW:Nat}{cD:Row}(h:Ea C CS CW CB U S SW H x d wl sh bl kn du bk dS st op dw sg ow pw db tb pe ops aB aS nW cD)(L':j0 C CS S' H' x d wl sh bl kn du bk dS st op (oH JH) yp jY)(fr:Fr S S' bk H H'):∃ U',yo C CS CW CB U' H' x JH jY aS nW cD/\MA U U' H H':=by
 obtain⟨L,W,B,R,Xs,dj,db',dt,u⟩:=h;obtain⟨as,hR,_⟩:=id R
 have nS':∀ a ob,H a=some ob->¬ S a->¬ S' a:=λa ob e n z=>by
  rcases fr.1 a z with y|y
  ·exact n y
  ·rw[e]at y;cases y
 refine⟨λa=>S' a\/SW a\/a=bk\/a=x\/a=bl\/a=tb,⟨S',SW,d,wl,sh,bl,kn,du,bk,dS,st,op,dw,sg,ow,pw,db,tb,yp,L',W.fr (λa ob e z=>fr.2.1 _ _ e (dj a z).1 (dj a z).2.1) fr.2.2,fr.2.1 _ _ B db'.1 db'.2.2,R.two (λxs e=>fr.2.1 _ _ e dt.1 dt.2.2) fr.2.2,Xs,λa z=>?_,⟨nS' _ _ B db'.1,db'.2⟩,⟨nS' _ _ hR dt.1,dt.2⟩,λa=>Iff.rfl⟩,λa z=>?_,λa ob e n=>?_,fr.2.2⟩
 ·obtain⟨ob,e⟩:=W.al a z;exact⟨nS' _ _ e (dj a z).1,(dj a z).2⟩
 ·rcases z with z|z
  ·exact (fr.1 a z).imp (λy=>(u a).mpr (.inl y)) id
  ·exact .inl ((u a).mpr (.inr z))
 ·exact fr.2.1 a ob e (λz=>n ((u a).mpr (.inl z))) (λz=>n ((u a).mpr (.inr (.inr (.inl z)))))
structure Ay(K:PySem.W.Frag)(mg:Str->Option Value)(C CS CW CB XS XM XT XO XP:Addr):Prop where
 M:Dd K mg C CS XS XM XT
 cw:∃ f,ClsAt K mg "Well" CW f
 w1:cH K CW "signs"
 w2:cH K CW "owners"
 w3:cH K CW "pourings"
 cb:∃ f,ClsAt K mg "Blots" CB f
 b1:cH K CB "stains"
 zo:Qq K mg "OutOfInk" XO
 zp:Ct K mg XP
structure Xu(K:PySem.W.Frag)(mg:Str->Option Value)(CW CB:Addr):Prop where
 sz:∃ f g,bU K CW "size" "Well.size" oQ lZ f g
 pr:∃ f g,bU K CW "pour" "Well.pour" uH UC f g
 hl:∃ f g,bU K CW "holds" "Well.holds" pW VD f g
inductive MB(C CS CW CB:Addr)(vs:List V)(H:Hp)(Q:VK)(E:XK):Prop
 | mk (U:Addr->Prop) (x:Addr) (pe:ou) (aB:pP) (aS:m7) (nW:Nat) (cD:Row) (h:Int) (cs:List Nat) (rows:dM) (_:vs=[.ref x,.int h,.str (iC cs)]) (_:yo C CS CW CB U H x pe aB aS nW cD) (_:Ak h) (_:cs.length<=200) (_:aS.length<=90000) (_:nW<=900) (_:pe.getLast?=some rows) (_:rows.length<=50) (_:pe.length<=900) (_:aB.length<=900) (_ :
 ∀ (U':Addr->Prop) (q:Addr) (H':Hp),yo C CS CW CB U' H' x (pe++[rows]) (aB++[(nY.D3 h cs).line]) (aS++vD h cs) (nW+1) cD->MA U U' H H'->H' q=some (.tup [.int (aS.length:Nat),.int ((aS++vD h cs).length:Nat)])->Q (.ref q) H')
theorem vW:aJ ["self","hand","text","stretch"] ["self","hand","text"] (aA l6):=jd
theorem Bp{f:Addr}(F:iK K "pour" "Library.pour" l6 f fd)(X:Ay K mg C CS CW CB XS XM XT XO XP)(A1:IV K mg CS)(A2:Mw K mg)(A5:Xu K mg CW CB)(aW:bU K C "enter" "Library.enter" cI Lg fE gE):aC P w K mg base bZ 4 f fd UC (MB C CS CW CB):=by
 obtain⟨LM,⟨_,jJ⟩,w1,w2,w3,⟨_,tS⟩,b1,oX,Z⟩:=X;obtain⟨_,⟨_,_,d2⟩,_,_,_,_,⟨_,_,d9⟩⟩:=A1;obtain⟨_,_,_,_,_,_,_,⟨_,_,jS⟩,⟨_,_,v9⟩,⟨_,_,v10⟩⟩:=A2;have sj:aC P w K mg base bZ 3 _ _ Lg (Gv C CS):=uo aW.F LM v9 v10 jS d2 d9;obtain⟨⟨_,_,s1⟩,⟨_,_,uW⟩,_⟩:=A5;obtain⟨⟨T,_,_,_,_,_⟩,⟨fi,aH⟩,nw,ns,Fi,nk,nd,D8,dG,G⟩:=LM;have KW:aC P w K mg base bZ 2 _ _ UC (Q4 CW):=Gq uW.F T jJ w1 w2 w3 s1;refine lW F vW λdJ A outer s H vs Q E hr h=>?_;obtain⟨U,x,pe,aB,aS,nW,cD,h,cs,rows,rfl,⟨S,SW,d,wl,sh,bl,kn,du,bk,dS,st,op,dw,sg,ow,pw,db,tb,ops,LU⟩,fh,lc,li,ln,hl,l1,l2,l3,k⟩:=h;obtain⟨L,W,B,R,Xs,dj,db',dt,u⟩:=id LU;refine⟨_,(aj (bx (i:=3) vW.nd (dP (dN (pv 0) rfl) jJ uW KW hr dh (aa (pv 1) (aa (pv 2) ah)))) (aj (bf (dP (pv 0) aH aW sj hr dh (aa (dH (aa bG (aa (pv 1) (aa (pv 2) ah)))) (aa (bQ ah) ah)))) (au (aO (pv 3))))),?_⟩;refine⟨_,rfl,x,C,d,_,.ref wl,rfl,L.hx,aH.cl,nw,rfl,wl,dw,_,rfl,W.hx,rfl,_,rfl,_,rfl,SW,wl,dw,sg,ow,pw,nW,aS,h,cs,rfl,W,by omega,by omega,λQ9 q H1 W1 hq sub fr tp=>?_⟩
 have nSW:∀ a ob,H a=some ob->¬ SW a->¬ Q9 a:=λa ob e n z=>by
  rcases sub a z with y|y
  ·exact n y
  ·rw[e]at y;cases y
 have nk1:∀ a ob,H a=some ob->(S a\/a=bk\/a=x)->¬ SW a:=λa ob e z y=>by
  obtain⟨y1,y2,y3⟩:=dj a y;rcases z with z|z|z
  ·exact y1 z
  ·exact y2 z
  ·exact y3 z
 have L1:j0 C CS S H1 x d wl sh bl kn du bk dS st op (oH pe) ops aB:=L.fr (λa ob e z=>fr _ _ e (nk1 a ob e z)) tp;obtain⟨as,hR,_⟩:=id R
 have LU1:Ea C CS CW CB (λa=>S a\/Q9 a\/a=bk\/a=x\/a=bl\/a=tb) S Q9 H1 x d wl sh bl kn du bk dS st op dw sg ow pw db tb pe ops aB (aS++vD h cs) (nW+1) cD:=by
  refine⟨L1,W1,fr _ _ B db'.2.1,R.two (λxs e=>fr _ _ e dt.2.1) tp,Xs,λa z=>?_,⟨db'.1,nSW _ _ B db'.2.1,db'.2.2⟩,⟨dt.1,nSW _ _ hR dt.2.1,dt.2.2⟩,λa=>Iff.rfl⟩;rcases sub a z with y|y
  ·exact dj a y
  ·refine⟨λq'=>?_,λq'=>?_,λq'=>?_⟩
   ·obtain⟨ob,e⟩:=L.W.al a q';rw[y]at e;cases e
   ·rw[q',L.hb]at y;cases y
   ·rw[q',L.hx]at y;cases y
 refine⟨_,rfl,x,d,_,rfl,L1.hx,rfl,_,rfl,_,rfl,Kv,λt ht=>⟨mj,λc hc=>?_⟩⟩;have s2:aG H1 (aQ (aQ H1 t (.tup [.str "pour",.int h,.str (iC cs)])) c (.lst [])):=(ak ht _).trans (ak hc _);have Ox:(aQ (aQ H1 t (.tup [.str "pour",.int h,.str (iC cs)])) c (.lst [])) t=some (.tup [.str "pour",.int h,.str (iC cs)]):=ak hc _ _ _ af;have Xm:(aQ (aQ H1 t (.tup [.str "pour",.int h,.str (iC cs)])) c (.lst [])) c=some (.lst (([]:List Addr).map V.ref)):=af
 have nc:c≠bk:=λz=>by
  have:=ak ht (.tup [.str "pour",.int h,.str (iC cs)]) _ _ L1.hb;rw[← z,hc]at this;cases this
 generalize aQ (aQ H1 t (.tup [.str "pour",.int h,.str (iC cs)])) c (.lst [])=H2 at s2 Ox Xm;have lp:(oH pe).length=pe.length:=cS _;have OE:=LU1.same s2;refine⟨S,x,d,wl,sh,bl,kn,du,bk,dS,st,op,oH pe,ops,aB,t,c,.D3 h cs,[],[],rows.map aI,rfl,OE.L,Ox,⟨fh,lc⟩,Xm,nc,.nil,(λ_ z=>by cases z),gf hl,(λi ch e=>by cases e),(by show 0<=200;decide),by rw[cS];omega,by omega,by omega,λS' H3 L3 OZ=>?_⟩
 have ep:oH pe++[uU (rows.map aI) []]=oH (pe++[rows]):=by
  show _=(pe++[rows]).map _;rw[kT];rfl
 have eo:ops++List.replicate ((uU (rows.map aI) []).length-(rows.map aI).length) (((oH pe).length:Nat):Int)=ops:=by
  show ops++List.replicate ((rows.map aI).length-(rows.map aI).length) _=ops;rw[Nat.sub_self];exact kW _
 rw[ep,eo]at L3;obtain⟨U',hL',f'⟩:=OE.sZ L3 OZ;refine⟨_,rfl,k U' q H3 hL' ⟨λa z=>?_,λa ob e n=>?_,λa xs e=>f'.2.2 _ _ (s2 _ _ (tp _ _ e))⟩ (f'.2.2 _ _ (s2 _ _ hq))⟩
 ·rcases f'.1 a z with y|y
  ·rcases y with y|y|y
   ·exact .inl ((u a).mpr (.inl y))
   ·exact (sub a y).imp (λw=>(u a).mpr (.inr (.inl w))) id
   ·exact .inl ((u a).mpr (.inr (.inr y)))
  ·have y1:=aY s2 y
   cases e:H a with
   | none=>exact .inr rfl
   | some ob =>
    by_cases z2:SW a
    ·exact .inl ((u a).mpr (.inr (.inl z2)))
    ·rw[fr _ _ e z2]at y1;cases y1
 ·have n1:¬ SW a:=λz=>n ((u a).mpr (.inr (.inl z)));refine f'.2.1 a ob (s2 _ _ (fr _ _ e n1)) λz=>?_;rcases z with z|z|z
  ·exact n ((u a).mpr (.inl z))
  ·exact nSW _ _ e n1 z
  ·exact n ((u a).mpr (.inr (.inr z)))
inductive IX(C CS CW CB:Addr)(vs:List V)(H:Hp)(Q:VK)(E:XK):Prop
 | mk (U:Addr->Prop) (x:Addr) (pe:ou) (aB:pP) (aS:m7) (nW:Nat) (cD:Row) (_:vs=[.ref x]) (_:yo C CS CW CB U H x pe aB aS nW cD) (_:Q (.int (aS.length:Nat)) H)
inductive AZ(C CS CW CB XO:Addr)(vs:List V)(H:Hp)(Q:VK)(E:XK):Prop
 | mk (U:Addr->Prop) (x r:Addr) (pe:ou) (aB:pP) (aS:m7) (nW:Nat) (cD row:Row) (_:vs=[.ref x,.ref r]) (_:yo C CS CW CB U H x pe aB aS nW cD) (_:cL H r row) (_:row.length<=1000) (_:aS.length<=100000) (_:(tR aS.length row=true->∀ H',aG H H'->Q .jm H')) (_:(tR aS.length row=false->∀ H',aG H H'->E (.ref XO) none H'))
theorem Eb:aJ ["self"] ["self"] (aA lD):=jd
theorem vX:aJ ["self","row"] ["self","row"] (aA ie):=jd
theorem Dg{f:Addr}(F:iK K "ink" "Library.ink" lD f fd)(X:Ay K mg C CS CW CB XS XM XT XO XP)(A5:Xu K mg CW CB):aC P w K mg base bZ 2 f fd lZ (IX C CS CW CB):=by
 obtain⟨LM,⟨_,jJ⟩,w1,w2,w3,⟨_,tS⟩,b1,oX,Z⟩:=X;obtain⟨⟨T,_,_,_,_,_⟩,⟨fi,aH⟩,nw,ns,Fi,nk,nd,D8,dG,G⟩:=LM;obtain⟨_,_,gF⟩:=A5.sz;have oW:aC P w K mg base bZ 1 _ _ lZ (BQ CW):=uV gF.F T jJ.cl w1;refine lW F Eb λdJ A outer s H vs Q E hr h=>?_;obtain⟨U,x,pe,aB,aS,nW,cD,rfl,⟨S,SW,d,wl,sh,bl,kn,du,bk,dS,st,op,dw,sg,ow,pw,db,tb,ops,LU⟩,k⟩:=h;refine⟨_,(au (aO (iu (dN (pv 0) rfl) jJ gF oW hr dh))),?_⟩;exact⟨_,rfl,x,C,d,_,.ref wl,rfl,LU.L.hx,aH.cl,nw,rfl,wl,dw,_,rfl,LU.W.hx,rfl,wl,dw,sg,ow,pw,aS,rfl,LU.W.hx,LU.W.hs,k⟩
theorem vB{f:Addr}(F:iK K "check_held" "Library.check_held" ie f fd)(X:Ay K mg C CS CW CB XS XM XT XO XP)(A5:Xu K mg CW CB)(jj:bU K C "ink" "Library.ink" lD lZ fI gI):aC P w K mg base (lP P w) 3 f fd VD (AZ C CS CW CB XO):=by
 have Gz:aC P w K mg base bZ 2 _ _ lZ (IX C CS CW CB):=Dg jj.F X A5;obtain⟨LM,⟨_,jJ⟩,w1,w2,w3,⟨_,tS⟩,b1,oX,Z⟩:=X;obtain⟨⟨T,_,_,_,_,_⟩,⟨fi,aH⟩,nw,ns,Fi,nk,nd,D8,dG,G⟩:=LM;obtain⟨⟨_,_,gF⟩,_,⟨_,_,tw⟩⟩:=A5;have IY:aC P w K mg base bZ 2 _ _ VD (Ms CW):=D7 tw.F T jJ w1 gF;refine DU F vX λdJ A outer s H vs Q E hr h=>?_;obtain⟨U,x,r,pe,aB,aS,nW,cD,row,rfl,LB,hr1,lr,li,k1,k2⟩:=h;obtain⟨S,SW,d,wl,sh,bl,kn,du,bk,dS,st,op,dw,sg,ow,pw,db,tb,ops,LU⟩:=id LB;refine⟨_,(au (bT (j5 (lT (dP (dN (pv 0) rfl) jJ tw IY hr dh (aa (pv 1) ah)))) (au (uc PySem.F.excBase_ValueError oX.x oX.m rfl zQ (aa (wK (oR (rM (iu (pv 0) aH jj Gz hr dh) zR))) ah))) bu)),?_⟩;refine⟨_,rfl,x,C,d,_,.ref wl,rfl,LU.L.hx,aH.cl,nw,rfl,wl,dw,_,rfl,LU.W.hx,rfl,_,rfl,SW,wl,dw,sg,ow,pw,r,nW,aS,row,rfl,LU.W,hr1,lr,λH1 s1=>⟨_,rfl,?_⟩⟩
 cases g:tR aS.length row with
 | true=>exact iI (k1 g H1 s1)
 | false =>
  have LB1:=LB.same s1;have LU1:=LU.same s1;have fl:m6 ((aS.length:Nat):Int):=⟨by omega,by omega⟩;exact j9 ⟨_,rfl,x,d,_,rfl,LU1.L.hx,rfl,U,x,pe,aB,aS,nW,cD,rfl,LB1,_,rfl,fl.log,λy=>⟨lX,k2 g H1 s1⟩⟩
structure Vp(K:PySem.W.Frag)(mg:Str->Option Value):Prop where
 win:∃ f g,aF K mg "windows" eT oA f g
 bel:∃ f g,aF K mg "below" lU lQ f g
 ir:∃ f g,aF K mg "item_row" gY yz f g
 pl:∃ f g,aF K mg "plain" mL iH f g
 vb:∃ f g,aF K mg "views_below" eU lQ f g
 sz:∃ f g,aF K mg "size" sL iH f g
 cp:∃ f g,aF K mg "check_places" iB pQ f g
 go:∃ f g,aF K mg "goes_on" nh G0 f g
 pi:∃ f g,aF K mg "plain_items" jb oA f g
 de:∃ f g,aF K mg "dealt" uE Fy f g
 pc:∃ f g,aF K mg "pieces" o7 pQ f g
 ik:∃ f g,aF K mg "inked" rm iH f g
 pa:∃ f g,aF K mg "put_among" oO MS f g
 pu:∃ f g,aF K mg "put_items" uF OR f g
abbrev ptW:List Nat:=(Str.ofString "put").cps.toList
inductive MC(C CS CW CB XS XO XP:Addr)(vs:List V)(H:Hp)(Q:VK)(E:XK):Prop
 | mk (U:Addr->Prop) (x r:Addr) (pe:ou) (aB:pP) (aS:m7) (nW:Nat) (cD row:Row) (s p:Int) (rows:dM) (_:vs=[.ref x,.int s,.int p,.ref r]) (_:yo C CS CW CB U H x pe aB aS nW cD) (_:cL H r row) (_:QV row) (_:aS.length<=100000) (_:pe.getLast?=some rows) (_:rows.length<=50) (_:pe.length<=900) (_:aB.length<=900) (_:m6 s) (_:m6 p) (_:(¬ qh rows.length s->∀ H',aG H H'->E (.ref XS) none H')) (_:(qh rows.length s->∃ sh,Seen rows sh/\(¬ (0<=p/\p<=(sh s).length)->∀ H',aG H H'->E (.ref XP) none H')/\(0<=p/\p<=(sh s).length->(tR aS.length row=false->∀ H',aG H H'->E (.ref XO) none H')/\(tR aS.length row=true->∀ es,rows[s.toNat]?=some es->(∃ f,sf (mz rows s.toNat (iU sh p es (dQ (cV (cJ row))))) f)/\
  ∀ (U':Addr->Prop) (H':Hp),yo C CS CW CB U' H' x (pe++[mz rows s.toNat (iU sh p es (dQ (cV (cJ row))))]) (aB++[(nY.xG ptW [s,p] row).line]) aS nW cD->MA U U' H H'->Q .jm H'))))
theorem xJ:aJ ["self","sheet","place","row","items"] ["self","sheet","place","row"] (aA qH):=jd
theorem Az(ns:List Int):kU (cU ns)=(ns.length:Int):=by rw[← wI _ (ua _),jH]
theorem MD{n:Nat}(h:n<=100000):m6 ((n:Nat):Int):=⟨by omega,by omega⟩
theorem Ol{n:Nat}{row:Row}(h:tR n row=true):∀ p∈row,0<=p.1/\p.1<p.2/\p.2<=n:=λp hp=>by
 have z:=List.all_eq_true.mp h p hp;unfold Sf at z;simpa [and_assoc] using z
theorem m6.big{s:Int}(h:m6 s):s<10^60:=by
 obtain⟨_,h1⟩:=h;omega
theorem Dh{f fS f3:Addr}{g1 g2 g3 g4 g5:FuncData}(F:iK K "put" "Library.put" qH f fd)(X:Ay K mg C CS CW CB XS XM XT XO XP)(A1:IV K mg CS)(A2:Mw K mg)(A4:Yn K mg fS fZ)(A5:Xu K mg CW CB)(A6:Vp K mg)(aW:bU K C "enter" "Library.enter" cI Lg f1 g1)(aR:bU K C "change" "Library.change" cR Jz f2 g2)(bY:bU K C "shown" "Library.shown" iN xO f3 g3)(jj:bU K C "ink" "Library.ink" lD lZ f4 g4)(fF:bU K C "check_held" "Library.check_held" ie VD f5 g5):aC P w K mg base (lP P w) 6 f fd zl9 (MC C CS CW CB XS XO XP):=by
 have xj:aC P w K mg base (lP P w) 3 _ _ VD (AZ C CS CW CB XO):=vB fF.F X A5 jj;obtain⟨LM,⟨_,jJ⟩,w1,w2,w3,⟨_,tS⟩,b1,oX,Z⟩:=X;have cF:aC P w K mg base bZ 5 _ _ Jz (qe C CS):=eY aR.F LM A1 A2 aW;have gW:aC P w K mg base (lP P w) 5 _ _ xO (vV C CS XS):=lK bY.F LM A1 A4;obtain⟨M,⟨fi,aH⟩,nw,ns,Fi,nk,nd,D8,dG,G⟩:=LM;obtain⟨⟨_,_,d1⟩,⟨_,_,d2⟩,⟨_,_,d3⟩,⟨_,_,d4⟩,⟨_,_,d7⟩,⟨_,_,bJ⟩,⟨_,_,d9⟩⟩:=A1;have cQ:aC P w K mg base bZ 4 _ _ lZ (tQ CS):=gQ bJ.F M d2 d4 d7;obtain⟨T,⟨fj,bM⟩,n1,n2,dR,cT⟩:=M;obtain⟨⟨_,_,i1⟩,⟨_,_,i2⟩,⟨_,_,i3⟩,⟨_,_,i4⟩,⟨_,_,i5⟩,⟨_,_,i6⟩,⟨_,_,cu⟩,⟨_,_,i8⟩,⟨_,_,i9⟩,⟨_,_,Sg⟩,⟨_,_,Rc⟩,⟨_,_,d8⟩,⟨_,_,Um⟩,⟨_,_,jr⟩⟩:=A6;have gJ:aC P w K mg base (lP P w) 2 _ _ pQ (wM XP):=jR cu.F T Z i6;have rW:aC P w K mg base bZ 2 _ _ iH wO:=vR d8.F T i4;have sr:aC P w K mg base (lP P w) 4 _ _ OR (rX XP):=uS jr.F T Z i1 i2 i3 i4 i5 i6 cu i8 i9 Sg Rc d8 Um;refine DU F xJ λdJ A outer s0 H vs Q E hr h=>?_;obtain⟨U,x,r,pe,aB,aS,nW,cD,row,s,p,rows,rfl,LB,hr1,fr,li,hl,l1,l2,l3,fs,fp,k1,k2⟩:=h;obtain⟨S,SW,d,wl,sh,bl,kn,du,bk,dS,st,op,dw,sg,ow,pw,db,tb,ops,LU⟩:=id LB;have lo:=pJ LU.L hl;have hl':=gf hl;have lp:(oH pe).length=pe.length:=cS _;refine⟨_,(aj (bf (nH cu gJ hr jI (aa (dP (pv 0) aH bY gW hr jI (aa (pv 1) ah)) (aa (pv 2) (aa (pv 2) ah))))) (aj (bf (dP (pv 0) aH fF xj hr jI (aa (pv 3) ah))) (aj (bx (i:=4) xJ.nd (nH jr sr hr jI (aa (iu (dN (pv 0) rfl) bM bJ cQ hr dh) (aa (pv 1) (aa (pv 2) (aa (aK d8 rW hr (aa (pv 3) ah)) ah)))))) (au (bf (dP (pv 0) aH aR cF hr dh (aa (dH (aa bG (aa (pv 1) (aa (pv 2) (aa (pv 3) ah))))) (aa (pv 1) (aa (pv 4) ah))))))))),?_⟩;refine⟨_,rfl,x,d,_,rfl,LU.L.hx,rfl,_,rfl,S,x,d,wl,sh,bl,kn,du,bk,dS,st,op,pe,ops,aB,rows,s,rfl,LU.L,hl,l1,l2,fs,λz=>k1 z H (aG.refl _),λia=>?_⟩;obtain⟨f0,sn,k3,k4⟩:=k2 ia;have ls:(f0 s).length<=10000:=sn.ln s ia.1 ia.2;have lr0:=qW (f0 s);refine⟨f0,sn,λo H1 ho s1 fo=>?_⟩
 have i3:DQ p p (kU (cU (f0 s)))↔(0<=p/\p<=(f0 s).length):=by
  rw[Az];unfold DQ;omega
 refine⟨_,rfl,_,rfl,o,cU (f0 s),p,p,rfl,ho,by omega,fp,fp,by rw[Az];exact MD (by omega),λz H2 s2=>?_,λz H2 s2=>k3 (λy=>z (i3.mpr y)) H2 (s1.trans s2)⟩;have rL:=s1.trans s2;obtain⟨k5,k6⟩:=k4 (i3.mp z);have OE:=LU.same rL;have Mc:=hr1.same rL;refine⟨_,rfl,x,d,_,rfl,OE.L.hx,rfl,_,rfl,U,x,r,pe,aB,aS,nW,cD,row,rfl,LB.same rL,Mc,by have:=fr.1;omega,li,λg H3 s3=>?_,λg H3 s3=>k5 g H3 (rL.trans s3)⟩;have zY:=rL.trans s3;have Uo:=LU.same zY;have NS:=hr1.same zY;have hp:=Ol g;have sl:s.toNat<rows.length:=by have:=ia.1;have:=ia.2;omega
 obtain⟨es,es1⟩:∃ es,rows[s.toNat]?=some es:=⟨_,oJ sl⟩;obtain⟨⟨fB,B⟩,k7⟩:=k6 g _ es1;refine⟨_,rfl,x,C,d,_,.ref sh,rfl,Uo.L.hx,aH.cl,ns,rfl,sh,dS,_,rfl,Uo.L.W.hx,rfl,S,sh,dS,st,op,oH pe,ops,rfl,Uo.L.W,⟨by omega,by omega⟩,λVo el q H4 fs4 s4=>?_⟩;rw[hl']at el;cases el;obtain⟨fq,rs,hq,al⟩:=fs4
 have hR:jc H4 q (rows.map aI):=by
  refine⟨rs.map V.ref,hq,?_⟩
  have key:∀ {as:List Addr} {ds:List (List aT)},cj (λr aP=>H3 r=none/\r≠q/\bL H4 (.ref r) aP) as ds->cj (bL H4) (as.map V.ref) ds:=by
   intro as ds z
   induction z with
   | nil=>exact .nil
   | cons o t ih=>exact .cons o.2.2 ih
  exact key al
 have Yk:=NS.same s4;refine⟨_,rfl,_,rfl,_,rfl,r,row,rfl,Yk,by have:=fr.1;omega,λoi H5 hoi s5 foi=>?_⟩;have nn:qy row:=λp' U8=>⟨(hp p' U8).1,by have:=(hp p' U8).2.1;omega⟩;refine⟨q,oi,rows,s,p,_,f0,rfl,⟨hR.same s5,by omega,sn.es,sn.sd,sn.rk,sn.ss,sn.ln⟩,ia.1,ia.2,hoi,za (uf nn),?_,fp,λ_ es q2 H6 uq gy s6 Rf=>?_,λy=>absurd (i3.mp z) y⟩
 ·unfold cV;rw[cS];have:=qU row;have:=fr.1;omega
 rw[es1]at uq;cases uq;have Rg:aG H H6:=zY.trans (s4.trans (s5.trans s6));have Rh:=LU.same Rg
 have Ri:q2≠bk:=λe=>by
  have y:=(LU.same (zY.trans (s4.trans s5))).L.hb;rw[← e,Rf]at y;cases y
 refine⟨_,rfl,x,d,_,rfl,Rh.L.hx,rfl,_,rfl,_,rfl,_,rfl,F2,λt ht=>?_⟩;have s7:=ak ht (.tup [.str "put",.int s,.int p,.ref r]);have ht7:(aQ H6 t (.tup [.str "put",.int s,.int p,.ref r])) t=some (.tup [.str "put",.int s,.int p,.ref r]):=af;generalize aQ H6 t (.tup [.str "put",.int s,.int p,.ref r])=H7 at s7 ht7;have s17:=Rg.trans s7;have LU7:=LU.same s17;have ss:((s.toNat:Nat):Int)=s:=by have:=ia.1;omega
 refine⟨_,rfl,_,rfl,S,x,d,wl,sh,bl,kn,du,bk,dS,st,op,pe,ops,aB,t,q2,.xG ptW [s,p] row,s.toNat,_,rows,fB,by rw[ss];rfl,LU7.L,⟨r,by rw[ht7,vN];rfl,hr1.same s17⟩,⟨(by show rY AHD ptW=some 2;decide +kernel),?_,fr⟩,gy.same s7,Ri,hl,by have:=ia.2;have:=ia.1;omega,l1,l2,l3,B,λS' H8 L8 FO=>?_⟩
 ·intro y hy;have b1:=ia.1;have b2:=(i3.mp z).1;rcases List.mem_cons.mp hy with e|e
  ·rw[e];exact⟨b1,fs.big⟩
  ·rw[List.mem_singleton.mp e];exact⟨b2,fp.big⟩
 ·obtain⟨U',hL',f'⟩:=LU7.sZ L8 FO;exact k7 U' H8 hL' (f'.pre s17)
theorem We.qf{S:Addr->Prop}{H H':Hp}{x d s p:Addr}{n:Nat}{aS:m7}{fs:List (Str × V)}(h:We C S H x d s o p n aS)(hl:H l=some (.ins C' d' fs))(nl:¬ S l)(k:cY l H H'):We C S H' x d s o p n aS :=
 h.fr (λa ob e z=>k a ob e (λq=>nl (by rw[← q];exact z))) (λa xs e=>k _ _ e (eL e hl))
theorem cL.qf{H H':Hp}{r:Addr}{row:Row}{fs:List (Str × V)}(h:cL H r row)(hl:H l=some (.ins C' d' fs))(k:cY l H H'):cL H' r row :=
 h.two (λxs e=>k _ _ e (eL e hl)) (λa xs e=>k _ _ e (eL e hl))
theorem ur{H:Hp}{dw a:Addr}{o:HO}(e:(aQ (aQ H dw (.own xw)) xw o) a=none):H a=none:=by
 by_cases z1:a=xw
 ·rw[z1,af]at e;cases e
 rw[aL z1]at e;by_cases z2:a=dw
 ·rw[z2,af]at e;cases e
 rw[aL z2]at e;exact e
inductive Fj(C CS CW CB:Addr)(vs:List V)(H:Hp)(Q:VK)(E:XK):Prop
 | mk (x d:Addr) (_:vs=[.ref x]) (_:H x=some (.ins C d [])) (_: ∀ (U:Addr->Prop) (H':Hp),yo C CS CW CB U H' x [[]] [] [] 0 []->(∀ a,U a->a=x\/H a=none)->cY x H H'->Q .jm H')
theorem yq:aJ ["self"] ["self"] (aA nB):=jd
theorem xm{f f3:Addr}{g1 g2 g3 g4 g5:FuncData}(F:iK K "__init__" "Library.__init__" nB f fd)(L:Dd K mg C CS XS XM XT)(bM:ClsAt K mg "Shelf" CS f1)(jT:bU K CS "__init__" "Shelf.__init__" mD lZ f1 g1)
  (jJ:ClsAt K mg "Well" CW f2) (kJ:bU K CW "__init__" "Well.__init__" ny lZ f2 g2) (w1:cH K CW "signs") (w2:cH K CW "owners") (w3:cH K CW "pourings")
  (tS:ClsAt K mg "Blots" CB f3) (jU:bU K CB "__init__" "Blots.__init__" mC lZ f3 g3) (b1:cH K CB "stains")
  (IZ:ClsAt K mg "Ties" CT f4) (kK:bU K CT "__init__" "Ties.__init__" nu lZ f4 g4) (t1:cH K CT "given") (t2:cH K CT "pairs")
  (I0:ClsAt K mg "Dues" CD f5) (kL:bU K CD "__init__" "Dues.__init__" nv lZ f5 g5) (u1:cH K CD "sums"):aC P w K mg base bZ 3 f fd lZ (Fj C CS CW CB):=by
 obtain⟨M,⟨fi,aH⟩,nw,ns,Fi,nk,nd,D8,dG,G⟩:=L;obtain⟨T,_,n1,n2,dR,cT⟩:=M;have Bq:aC P w K mg base bZ 1 _ _ lZ (Mn CS):=zj jT.F bM.cl n1 n2;have Di:aC P w K mg base bZ 1 _ _ lZ (Mr CW):=Au kJ.F jJ.cl w1 w2 w3;have Br:aC P w K mg base bZ 1 _ _ lZ (Me CB):=yU jU.F tS.cl b1;have Dj:aC P w K mg base bZ 1 _ _ lZ (BP CT):=Ar kK.F IZ.cl t1 t2;have Dk:aC P w K mg base bZ 1 _ _ lZ (BP CD):=Aq kL.F I0.cl u1;refine lW F yq λdJ A outer s H vs Q E hr h=>?_;obtain⟨x,d,rfl,hx,k⟩:=h;refine⟨_,(aj (mJ (pv 0) (t7 jJ.X9 Di (hr.mono (by decide)) rfl jJ.m kJ.b .nil dh) rfl) (aj (mJ (pv 0) (t7 bM.X9 Bq (hr.mono (by decide)) rfl bM.m jT.b .nil dh) rfl) (aj (mJ (pv 0) (t7 tS.X9 Br (hr.mono (by decide)) rfl tS.m jU.b .nil dh) rfl) (aj (mJ (pv 0) (t7 IZ.X9 Dj (hr.mono (by decide)) rfl IZ.m kK.b .nil dh) rfl) (aj (mJ (pv 0) (t7 I0.X9 Dk (hr.mono (by decide)) rfl I0.m kL.b .nil dh) rfl) (au (mJ (pv 0) (bQ ah) rfl))))))),?_⟩;intro wl dw hw1 hw2 _;refine⟨wl,dw,rfl,af,λsg ow pw H1 V1 k1 fsg fow fpw=>⟨rfl,?_⟩⟩;have s1:=qY hw1 hw2 k1
 have fW:∀ a,(a=wl\/a=sg\/a=ow\/a=pw)->H a=none:=λa e=>by
  rcases e with rfl|rfl|rfl|rfl
  ·exact hw1
  ·exact ur fsg
  ·exact ur fow
  ·exact ur fpw
 have Xv:¬ (x=wl\/x=sg\/x=ow\/x=pw):=λe=>by
  have:=fW x e;rw[hx]at this;cases this
 refine⟨_,rfl,x,C,d,_,rfl,s1 _ _ hx,aH.cl,nw,by decide,?_⟩;have q2:cY x H (aQ H1 x (.ins C d (L2.gx "well" (.ref wl) []))):=cY.trans (jE.aG.keep s1) (aN x _ _);have x2:(aQ H1 x (.ins C d (L2.gx "well" (.ref wl) []))) x=some (.ins C d [("well",.ref wl)]):=af;have kx2:cY x H1 (aQ H1 x (.ins C d (L2.gx "well" (.ref wl) []))):=aN x _ _;generalize aQ H1 x (.ins C d (L2.gx "well" (.ref wl) []))=H2 at q2 x2 kx2;have V2:=V1.qf (s1 _ _ hx) Xv kx2;intro sh dS Xp Nb _;refine⟨sh,dS,rfl,af,λst op z H3 W3 k3 fst fop fz=>⟨rfl,?_⟩⟩;have s3:=qY Xp Nb k3
 have up:∀ a,(aQ (aQ H2 dS (.own sh)) sh (.ins CS dS [])) a=none->H2 a=none:=λa e=>by
  by_cases z1:a=sh
  ·rw[z1,af]at e;cases e
  rw[aL z1]at e;by_cases z2:a=dS
  ·rw[z2,af]at e;cases e
  rw[aL z2]at e;exact e
 have fS:∀ a,(a=sh\/a=st\/a=op\/a=z)->H2 a=none:=λa e=>by
  rcases e with rfl|rfl|rfl|rfl
  ·exact Xp
  ·exact up _ fst
  ·exact up _ fop
  ·exact up _ fz
 have Xw:¬ (x=sh\/x=st\/x=op\/x=z):=λe=>by
  have:=fS x e;rw[x2]at this;cases this
 have x3:=s3 _ _ x2;have V3:=V2.same s3;refine⟨_,rfl,x,C,d,_,rfl,x3,aH.cl,ns,(by show 1<1000;decide),?_⟩;have k4:cY x H3 (aQ H3 x (.ins C d (L2.gx "shelf" (.ref sh) [("well",.ref wl)]))):=aN x _ _;have x4:(aQ H3 x (.ins C d (L2.gx "shelf" (.ref sh) [("well",.ref wl)]))) x=some (.ins C d [("well",.ref wl),("shelf",.ref sh)]):=af;generalize aQ H3 x (.ins C d (L2.gx "shelf" (.ref sh) [("well",.ref wl)]))=H4 at k4 x4;have W4:=W3.qf x3 Xw k4;have V4:=V3.qf x3 Xv k4;have q4:cY x H H4:=(q2.trans (jE.aG.keep s3)).trans k4;intro bl db Mb Xl _;refine⟨bl,db,rfl,af,λtb H5 B5 R5 k5 ftb=>⟨rfl,?_⟩⟩;have s5:=qY Mb Xl k5;have Xx:=ur ftb;have x5:=s5 _ _ x4;have W5:=W4.same s5;have V5:=V4.same s5;have Rj:bl≠x:=(az x4 Mb).symm;refine⟨_,rfl,x,C,d,_,rfl,x5,aH.cl,Fi,(by show 2<1000;decide),?_⟩;have k6:cY x H5 (aQ H5 x (.ins C d (L2.gx "blots" (.ref bl) [("well",.ref wl),("shelf",.ref sh)]))):=aN x _ _;have x6:(aQ H5 x (.ins C d (L2.gx "blots" (.ref bl) [("well",.ref wl),("shelf",.ref sh)]))) x=some (.ins C d [("well",.ref wl),("shelf",.ref sh),("blots",.ref bl)]):=af;generalize aQ H5 x (.ins C d (L2.gx "blots" (.ref bl) [("well",.ref wl),("shelf",.ref sh)]))=H6 at k6 x6;have W6:=W5.qf x5 Xw k6;have V6:=V5.qf x5 Xv k6;have B6:Bl CB H6 bl db tb:=k6 _ _ B5 Rj;have R6:=R5.qf x5 k6;have q6:cY x H H6:=(q4.trans (jE.aG.keep s5)).trans k6;intro kn dk hk1 hk2 _;refine⟨kn,dk,rfl,af,λfs7 H7 _ k7=>⟨rfl,?_⟩⟩;have s7:=qY hk1 hk2 k7;have x7:=s7 _ _ x6;have W7:=W6.same s7;have V7:=V6.same s7;have B7:Bl CB H7 bl db tb:=s7 _ _ B6;have R7:=R6.same s7;refine⟨_,rfl,x,C,d,_,rfl,x7,aH.cl,nk,(by show 3<1000;decide),?_⟩;have k8:cY x H7 (aQ H7 x (.ins C d (L2.gx "knots" (.ref kn) [("well",.ref wl),("shelf",.ref sh),("blots",.ref bl)]))):=aN x _ _;have x8:(aQ H7 x (.ins C d (L2.gx "knots" (.ref kn) [("well",.ref wl),("shelf",.ref sh),("blots",.ref bl)]))) x=some (.ins C d [("well",.ref wl),("shelf",.ref sh),("blots",.ref bl),("knots",.ref kn)]):=af;generalize aQ H7 x (.ins C d (L2.gx "knots" (.ref kn) [("well",.ref wl),("shelf",.ref sh),("blots",.ref bl)]))=H8 at k8 x8;have W8:=W7.qf x7 Xw k8;have V8:=V7.qf x7 Xv k8;have B8:Bl CB H8 bl db tb:=k8 _ _ B7 Rj;have R8:=R7.qf x7 k8;have q8:cY x H H8:=(q6.trans (jE.aG.keep s7)).trans k8;intro du dd NK hd2 _;refine⟨du,dd,rfl,af,λfs9 H9 _ k9=>⟨rfl,?_⟩⟩;have s9:=qY NK hd2 k9;have x9:=s9 _ _ x8;have W9:=W8.same s9;have V9:=V8.same s9;have B9:Bl CB H9 bl db tb:=s9 _ _ B8;have R9:=R8.same s9;refine⟨_,rfl,x,C,d,_,rfl,x9,aH.cl,nd,(by show 4<1000;decide),?_⟩;have Yo:cY x H9 (aQ H9 x (.ins C d (L2.gx "dues" (.ref du) [("well",.ref wl),("shelf",.ref sh),("blots",.ref bl),("knots",.ref kn)]))):=aN x _ _;have Yp:(aQ H9 x (.ins C d (L2.gx "dues" (.ref du) [("well",.ref wl),("shelf",.ref sh),("blots",.ref bl),("knots",.ref kn)]))) x=some (.ins C d [("well",.ref wl),("shelf",.ref sh),("blots",.ref bl),("knots",.ref kn),("dues",.ref du)]):=af;generalize aQ H9 x (.ins C d (L2.gx "dues" (.ref du) [("well",.ref wl),("shelf",.ref sh),("blots",.ref bl),("knots",.ref kn)]))=P8 at Yo Yp;have W10:=W9.qf x9 Xw Yo;have V10:=V9.qf x9 Xv Yo;have B10:Bl CB P8 bl db tb:=Yo _ _ B9 Rj;have R10:=R9.qf x9 Yo;have ED:cY x H P8:=(q8.trans (jE.aG.keep s9)).trans Yo;refine⟨mj,λbk Vq=>⟨_,rfl,x,C,d,_,rfl,ak Vq _ _ _ Yp,aH.cl,D8,(by show 5<1000;decide),?_⟩⟩;have nbx:bk≠x:=(az Yp Vq).symm
 have nSb:¬ (bk=sh\/bk=st\/bk=op\/bk=z):=λe=>by
  obtain⟨ob,w⟩:=W10.al bk e;rw[Vq]at w;cases w
 have xD:=ak Vq (.lst []);have k12:cY x (aQ P8 bk (.lst [])) (aQ (aQ P8 bk (.lst [])) x (.ins C d (L2.gx "book" (.ref bk) [("well",.ref wl),("shelf",.ref sh),("blots",.ref bl),("knots",.ref kn),("dues",.ref du)]))):=aN x _ _;have W12:=(W10.same xD).qf (xD _ _ Yp) Xw k12;have V12:=(V10.same xD).qf (xD _ _ Yp) Xv k12;have B12:=k12 _ _ (xD _ _ B10) Rj;have R12:=(R10.same xD).qf (xD _ _ Yp) k12;obtain⟨as5,hR5,_⟩:=id R5;have aaq:∀ a,(a=sh\/a=st\/a=op\/a=z)->a=x\/H a=none:=λa e=>.inr (mX q2 (λe'=>by rw[e']at e;exact Xw e) (fS a e));refine k (λa=>(a=sh\/a=st\/a=op\/a=z)\/(a=wl\/a=sg\/a=ow\/a=pw)\/a=bk\/a=x\/a=bl\/a=tb) _ ⟨_,_,d,wl,sh,bl,kn,du,bk,dS,st,op,dw,sg,ow,pw,db,tb,[],⟨af,W12,?_,Xw,nSb⟩,V12,B12,R12,?_,?_,?_,?_,λa=>Iff.rfl⟩ ?_ ((ED.trans (jE.aG.keep xD)).trans k12)
 ·rw[aL nbx];exact af
 ·exact⟨.nil,λ_ z=>by cases z⟩
 ·intro a ea;obtain⟨ob,hob⟩:=V2.al a ea;refine⟨λes=>?_,λeb=>?_,λex=>?_⟩
  ·rw[fS a es]at hob;cases hob
  ·obtain⟨ob',w⟩:=V10.al a ea;rw[eb,Vq]at w;cases w
  ·rw[ex]at ea;exact Xv ea
 ·refine⟨λes=>?_,λew=>?_,λeb=>?_⟩
  ·obtain⟨ob,w⟩:=W4.al bl es;rw[Mb]at w;cases w
  ·obtain⟨ob,w⟩:=V4.al bl ew;rw[Mb]at w;cases w
  ·rw[eb]at B10;have aar:P8 bk=some _:=B10;rw[Vq]at aar;cases aar
 ·refine⟨λes=>?_,λew=>?_,λeb=>?_⟩
  ·obtain⟨ob,w⟩:=W4.al tb es;rw[Xx]at w;cases w
  ·obtain⟨ob,w⟩:=V4.al tb ew;rw[Xx]at w;cases w
  ·obtain⟨as,hR,_⟩:=id R10;rw[eb,Vq]at hR;cases hR
 ·intro a ea;rcases ea with ea|ea|ea|ea|ea|ea
  ·exact aaq a ea
  ·exact .inr (fW a ea)
  ·rw[ea];exact .inr (mX ED nbx Vq)
  ·exact .inl ea
  ·rw[ea];exact .inr (mX q4 Rj Mb)
  ·by_cases ex:a=x
   ·exact .inl ex
   ·rw[ea]at ex ⊢;exact .inr (mX q4 ex Xx)
theorem Ug.at_{H H':Hp}{q:Addr}{rows:List (List aT)}(h:Ug H H' q rows):jc H' q rows:=by
 obtain⟨_,rs,hq,al⟩:=h;refine⟨rs.map V.ref,hq,?_⟩
 have key:∀ {as:List Addr} {ds:List (List aT)},cj (λr aP=>H r=none/\r≠q/\bL H' (.ref r) aP) as ds->cj (bL H') (as.map V.ref) ds:=by
  intro as ds z
  induction z with
  | nil=>exact .nil
  | cons o t ih=>exact .cons o.2.2 ih
 exact key al
abbrev ctW:List Nat:=(Str.ofString "cut").cps.toList
abbrev qtW:List Nat:=(Str.ofString "quote").cps.toList
inductive ME(C CS CW CB XS XP:Addr)(vs:List V)(H:Hp)(Q:VK)(E:XK):Prop
 | mk (U:Addr->Prop) (x:Addr) (pe:ou) (aB:pP) (aS:m7) (nW:Nat) (cD:Row) (s a b:Int) (rows:dM) (_:vs=[.ref x,.int s,.int a,.int b]) (_:yo C CS CW CB U H x pe aB aS nW cD) (_:pe.getLast?=some rows) (_:rows.length<=50) (_:pe.length<=900) (_:aB.length<=900) (_:m6 s) (_:m6 a) (_:m6 b)
  (_:¬ qh rows.length s->∀ H',aG H H'->E (.ref XS) none H') (_:qh rows.length s->∃ sh,Seen rows sh/\(¬ DQ a b (sh s).length->∀ H',aG H H'->E (.ref XP) none H')/\(DQ a b (sh s).length->∀ es,rows[s.toNat]?=some es->(∃ f,sf (mz rows s.toNat (bX sh a b es)) f)/\
  ∀ (U':Addr->Prop) (H':Hp),yo C CS CW CB U' H' x (pe++[mz rows s.toNat (bX sh a b es)]) (aB++[(nY.plain ctW [s,a,b]).line]) aS nW cD->MA U U' H H'->Q .jm H'))
inductive Fl(C CS CW CB XS XP:Addr)(vs:List V)(H:Hp)(Q:VK)(E:XK):Prop
 | mk (U:Addr->Prop) (x:Addr) (pe:ou) (aB:pP) (aS:m7) (nW:Nat) (cD:Row) (t p s a b:Int) (rows:dM) (_:vs=[.ref x,.int t,.int p,.int s,.int a,.int b]) (_:yo C CS CW CB U H x pe aB aS nW cD) (_:pe.getLast?=some rows) (_:rows.length<=50) (_:pe.length<=900) (_:aB.length<=900) (_:m6 t) (_:m6 p) (_:m6 s) (_:m6 a) (_:m6 b)
  (_:¬ qh rows.length t->∀ H',aG H H'->E (.ref XS) none H') (_:qh rows.length t->(¬ qh rows.length s->∀ H',aG H H'->E (.ref XS) none H')/\(qh rows.length s->∃ sh,Seen rows sh/\(¬ DQ a b (sh s).length->∀ H',aG H H'->E (.ref XP) none H')/\(DQ a b (sh s).length->(¬ (0<=p/\p<=(sh t).length)->∀ H',aG H H'->E (.ref XP) none H')/\(0<=p/\p<=(sh t).length->∀ es,rows[t.toNat]?=some es->(∃ f,sf (mz rows t.toNat (iU sh p es (((sh s).take b.toNat).drop a.toNat))) f)/\
  ∀ (U':Addr->Prop) (H':Hp),yo C CS CW CB U' H' x (pe++[mz rows t.toNat (iU sh p es (((sh s).take b.toNat).drop a.toNat))]) (aB++[(nY.plain qtW [t,p,s,a,b]).line]) aS nW cD->MA U U' H H'->Q .jm H'))))
inductive Rk(C CS XS:Addr)(vs:List V)(H:Hp)(Q:VK)(E:XK):Prop
 | mk (S:Addr->Prop) (x d wl sh bl kn du bk dS st op:Addr) (pe:ou) (ops:List Int) (aB:pP) (rows:dM) (s:Int) (_:vs=[.ref x,.int s]) (_:j0 C CS S H x d wl sh bl kn du bk dS st op (oH pe) ops aB) (_:pe.getLast?=some rows) (_:rows.length<=50) (_:pe.length<=900) (_:m6 s)
  (_:¬ qh rows.length s->E (.ref XS) none H) (_:qh rows.length s->∀ es,rows[s.toNat]?=some es->∀ (q:Addr) (H':Hp),bL H' (.ref q) (aI es)->aG H H'->H q=none->Q (.ref q) H')
theorem xK:aJ ["self","sheet","start","stop","items"] ["self","sheet","start","stop"] (aA qI):=jd
theorem Dl{f fp:Addr}{g1 g2:FuncData}(F:iK K "cut" "Library.cut" qI f fd)(X:Ay K mg C CS CW CB XS XM XT XO XP)(A1:IV K mg CS)(A2:Mw K mg)(A6:Vp K mg)(aW:bU K C "enter" "Library.enter" cI Lg f1 g1)(aR:bU K C "change" "Library.change" cR Jz f2 g2)(oY:aF K mg "cut_items" rA Su fc gc)(jZ:aF K mg "parted" sM G1 fp gp):aC P w K mg base (lP P w) 6 f fd VE (ME C CS CW CB XS XP):=by
 obtain⟨LM,_,_,_,_,_,_,_,Z⟩:=X;have cF:aC P w K mg base bZ 5 _ _ Jz (qe C CS):=eY aR.F LM A1 A2 aW;obtain⟨M,⟨fi,aH⟩,nw,ns,Fi,nk,nd,D8,dG,G⟩:=LM;obtain⟨⟨_,_,d1⟩,⟨_,_,d2⟩,⟨_,_,aM⟩,⟨_,_,d4⟩,⟨_,_,d7⟩,⟨_,_,bJ⟩,⟨_,_,d9⟩⟩:=A1;have cQ:aC P w K mg base bZ 4 _ _ lZ (tQ CS):=gQ bJ.F M d2 d4 d7;have bH:aC P w K mg base (lP P w) 2 _ _ xO (nZ CS XS):=cP aM.F M d1;obtain⟨T,⟨fj,bM⟩,n1,n2,dR,cT⟩:=M;obtain⟨⟨_,_,i1⟩,⟨_,_,i2⟩,⟨_,_,i3⟩,⟨_,_,i4⟩,⟨_,_,i5⟩,⟨_,_,i6⟩,⟨_,_,i7⟩,⟨_,_,i8⟩,⟨_,_,i9⟩,⟨_,_,Sg⟩,⟨_,_,Rc⟩,⟨_,_,i12⟩,⟨_,_,Um⟩,⟨_,_,i14⟩⟩:=A6;have KY:aC P w K mg base (lP P w) 4 _ _ Su (CZ XP):=Gg oY.F T Z i1 i2 i3 i4 i5 i6 i7 i8 i9 Sg Rc i12 jZ;refine DU F xK λdJ A outer s0 H vs Q E hr h=>?_;obtain⟨U,x,pe,aB,aS,nW,cD,s,a,b,rows,rfl,LB,hl,l1,l2,l3,fs,fa,fb,k1,k2⟩:=h;obtain⟨S,SW,d,wl,sh,bl,kn,du,bk,dS,st,op,dw,sg,ow,pw,db,tb,ops,LU⟩:=id LB;have lo:=pJ LU.L hl;have hl':=gf hl;have lp:(oH pe).length=pe.length:=cS _;have ok:D6 (oH pe) ops:=⟨by omega,by omega⟩;refine⟨_,(aj (bf (dP (dN (pv 0) rfl) bM aM bH hr jI (aa (pv 1) ah))) (aj (bx (i:=4) xK.nd (nH oY KY hr jI (aa (iu (dN (pv 0) rfl) bM bJ cQ hr dh) (aa (pv 1) (aa (pv 2) (aa (pv 3) ah)))))) (au (bf (dP (pv 0) aH aR cF hr dh (aa (dH (aa bG (aa (pv 1) (aa (pv 2) (aa (pv 3) ah))))) (aa (pv 1) (aa (pv 4) ah)))))))),?_⟩;refine⟨_,rfl,x,C,d,_,.ref sh,rfl,LU.L.hx,aH.cl,ns,rfl,sh,dS,_,rfl,LU.L.W.hx,rfl,_,rfl,S,sh,dS,st,op,oH pe,ops,s,rfl,LU.L.W,ok,fs,λia=>?_,λz=>k1 (by rw[← lo];exact z) H (aG.refl _)⟩;rw[lo]at ia;obtain⟨f0,sn,k3,k4⟩:=k2 ia;refine⟨_,rfl,x,C,d,_,.ref sh,rfl,LU.L.hx,aH.cl,ns,rfl,sh,dS,_,rfl,LU.L.W.hx,rfl,S,sh,dS,st,op,oH pe,ops,rfl,LU.L.W,ok,λVo el q H1 Q8 s1=>?_⟩;rw[hl']at el;cases el;have sl:s.toNat<rows.length:=by have:=ia.1;have:=ia.2;omega
 obtain⟨es,es1⟩:∃ es,rows[s.toNat]?=some es:=⟨_,oJ sl⟩;refine⟨_,rfl,_,rfl,_,rfl,q,rows,s,a,b,f0,rfl,⟨Q8.at_,by omega,sn.es,sn.sd,sn.rk,sn.ss,sn.ln⟩,ia.1,ia.2,fa,fb,λi3 xq q2 H2 uq gy s2 Rf=>?_,λn3 H2 s2=>k3 n3 H2 (s1.trans s2)⟩;rw[es1]at uq;cases uq;obtain⟨⟨fB,B⟩,k5⟩:=k4 i3 es es1;have rL:=s1.trans s2;have OE:=LU.same rL
 have Ri:q2≠bk:=λe=>by
  have y:=(LU.same s1).L.hb;rw[← e,Rf]at y;cases y
 refine⟨_,rfl,x,d,_,rfl,OE.L.hx,rfl,_,rfl,_,rfl,_,rfl,F2,λt ht=>?_⟩;have s3:=ak ht (.tup [.str "cut",.int s,.int a,.int b]);have Ue:(aQ H2 t (.tup [.str "cut",.int s,.int a,.int b])) t=some (.tup [.str "cut",.int s,.int a,.int b]):=af;generalize aQ H2 t (.tup [.str "cut",.int s,.int a,.int b])=H3 at s3 Ue;have zY:=rL.trans s3;have Uo:=LU.same zY;have ss:((s.toNat:Nat):Int)=s:=by have:=ia.1;omega
 refine⟨_,rfl,_,rfl,S,x,d,wl,sh,bl,kn,du,bk,dS,st,op,pe,ops,aB,t,q2,.plain ctW [s,a,b],s.toNat,_,rows,fB,by rw[ss];rfl,Uo.L,(by show H3 t=_;rw[Ue,vN];rfl),⟨(by show rY Ua ctW=some 3;decide +kernel),?_⟩,gy.same s3,Ri,hl,by omega,l1,l2,l3,B,λS' H8 L8 FO=>?_⟩
 ·intro y hy;have b1:=ia.1;unfold DQ at i3;rcases List.mem_cons.mp hy with e|hy
  ·rw[e];exact⟨b1,fs.big⟩
  rcases List.mem_cons.mp hy with e|hy
  ·rw[e];exact⟨by omega,fa.big⟩
  ·rw[List.mem_singleton.mp hy];exact⟨by omega,fb.big⟩
 ·obtain⟨U',hL',f'⟩:=Uo.sZ L8 FO;exact k5 U' H8 hL' (f'.pre zY)
theorem qv:aJ ["self","target","place","source","start","stop","row","items"] ["self","target","place","source","start","stop"] (aA nC):=jd
theorem AA{f fS f3 fp:Addr}{g1 g2 g3:FuncData}(F:iK K "quote" "Library.quote" nC f fd)(X:Ay K mg C CS CW CB XS XM XT XO XP)(A1:IV K mg CS)(A2:Mw K mg)(A4:Yn K mg fS fZ)(A6:Vp K mg)(aW:bU K C "enter" "Library.enter" cI Lg f1 g1)(aR:bU K C "change" "Library.change" cR Jz f2 g2)(bY:bU K C "shown" "Library.shown" iN xO f3 g3)(Fo:aF K mg "part" Hu pQ fp gp):aC P w K mg base (lP P w) 6 f fd VG (Fl C CS CW CB XS XP):=by
 obtain⟨LM,_,_,_,_,_,_,_,Z⟩:=X;have cF:aC P w K mg base bZ 5 _ _ Jz (qe C CS):=eY aR.F LM A1 A2 aW;have gW:aC P w K mg base (lP P w) 5 _ _ xO (vV C CS XS):=lK bY.F LM A1 A4;obtain⟨M,⟨fi,aH⟩,nw,ns,Fi,nk,nd,D8,dG,G⟩:=LM;obtain⟨⟨_,_,d1⟩,⟨_,_,d2⟩,⟨_,_,aM⟩,⟨_,_,d4⟩,⟨_,_,d7⟩,⟨_,_,bJ⟩,⟨_,_,d9⟩⟩:=A1;have cQ:aC P w K mg base bZ 4 _ _ lZ (tQ CS):=gQ bJ.F M d2 d4 d7;have bH:aC P w K mg base (lP P w) 2 _ _ xO (nZ CS XS):=cP aM.F M d1;obtain⟨T,⟨fj,bM⟩,n1,n2,dR,cT⟩:=M;obtain⟨⟨_,_,i1⟩,⟨_,_,i2⟩,⟨_,_,i3⟩,⟨_,_,i4⟩,⟨_,_,i5⟩,⟨_,_,i6⟩,⟨_,_,i7⟩,⟨_,_,i8⟩,⟨_,_,i9⟩,⟨_,_,Sg⟩,⟨_,_,Rc⟩,⟨_,_,d8⟩,⟨_,_,Um⟩,⟨_,_,jr⟩⟩:=A6;have aas:aC P w K mg base (lP P w) 3 _ _ pQ (Qf XP):=TX Fo.F T Z i6 i7 i4 Rc;have rW:aC P w K mg base bZ 2 _ _ iH wO:=vR d8.F T i4;have sr:aC P w K mg base (lP P w) 4 _ _ OR (rX XP):=uS jr.F T Z i1 i2 i3 i4 i5 i6 i7 i8 i9 Sg Rc d8 Um;refine DU F qv λdJ A outer s0 H vs Q E hr h=>?_;obtain⟨U,x,pe,aB,aS,nW,cD,t,p,s,a,b,rows,rfl,LB,hl,l1,l2,l3,ft,fp,fs,fa,fb,k1,k2⟩:=h;obtain⟨S,SW,d,wl,sh,bl,kn,du,bk,dS,st,op,dw,sg,ow,pw,db,tb,ops,LU⟩:=id LB;have lo:=pJ LU.L hl;have hl':=gf hl;have lp:(oH pe).length=pe.length:=cS _;have ok:D6 (oH pe) ops:=⟨by omega,by omega⟩;refine⟨_,(aj (bf (dP (dN (pv 0) rfl) bM aM bH hr jI (aa (pv 1) ah))) (aj (bx (i:=6) qv.nd (nH Fo aas hr jI (aa (dP (pv 0) aH bY gW hr jI (aa (pv 3) ah)) (aa (pv 4) (aa (pv 5) ah))))) (aj (bx (i:=7) qv.nd (nH jr sr hr jI (aa (iu (dN (pv 0) rfl) bM bJ cQ hr dh) (aa (pv 1) (aa (pv 2) (aa (aK d8 rW hr (aa (pv 6) ah)) ah)))))) (au (bf (dP (pv 0) aH aR cF hr dh (aa (dH (aa bG (aa (pv 1) (aa (pv 2) (aa (pv 3) (aa (pv 4) (aa (pv 5) ah))))))) (aa (pv 1) (aa (pv 7) ah))))))))),?_⟩;refine⟨_,rfl,x,C,d,_,.ref sh,rfl,LU.L.hx,aH.cl,ns,rfl,sh,dS,_,rfl,LU.L.W.hx,rfl,_,rfl,S,sh,dS,st,op,oH pe,ops,t,rfl,LU.L.W,ok,ft,λit=>?_,λz=>k1 (by rw[← lo];exact z) H (aG.refl _)⟩;rw[lo]at it;obtain⟨k3,k4⟩:=k2 it;refine⟨_,rfl,x,d,_,rfl,LU.L.hx,rfl,_,rfl,S,x,d,wl,sh,bl,kn,du,bk,dS,st,op,pe,ops,aB,rows,s,rfl,LU.L,hl,l1,l2,fs,λz=>k3 z H (aG.refl _),λia=>?_⟩;obtain⟨f0,sn,k5,k6⟩:=k4 ia;refine⟨f0,sn,λo H1 ho s1 fo=>?_⟩;have ls:(f0 s).length<=10000:=sn.ln s ia.1 ia.2;have lr0:=qW (f0 s);have tt:kU (cU (f0 s))=(f0 s).length:=Az _;refine⟨_,rfl,_,rfl,o,cU (f0 s),a,b,rfl,ho,by omega,fa,fb,by rw[tt];exact MD (by omega),λi3 q0 H2 Zu s2 fq0=>?_,λn3 H2 s2=>k5 (by rw[← tt];exact n3) H2 (s1.trans s2)⟩;rw[tt]at i3;have rL:=s1.trans s2;obtain⟨k7,k8⟩:=k6 i3;have OE:=LU.same rL;refine⟨_,rfl,x,C,d,_,.ref sh,rfl,OE.L.hx,aH.cl,ns,rfl,sh,dS,_,rfl,OE.L.W.hx,rfl,S,sh,dS,st,op,oH pe,ops,rfl,OE.L.W,ok,λVo el q H3 fs3 s3=>?_⟩;rw[hl']at el;cases el;have zY:=rL.trans s3;have tl:t.toNat<rows.length:=by have:=it.1;have:=it.2;omega
 obtain⟨es,es1⟩:∃ es,rows[t.toNat]?=some es:=⟨_,oJ tl⟩;have nnp:∀ {r:Row},nK r->qy r:=λh p hp=>⟨(h p hp).1,by have:=(h p hp).2;omega⟩;have nn0:qy (cU (f0 s)):=nnp (EZ (um sn.sd sn.rk sn.ss s ia.1 ia.2));have nn1:qy (cJ (qg a b 0 (cU (f0 s)))):=nnp (uf (CF a b _ 0 nn0))
 have lpl:(cJ (qg a b 0 (cU (f0 s)))).length<=10000:=by
  have:=wR a b (cU (f0 s));rw[BO]at this;omega
 have epl:dQ (cV (cJ (cJ (qg a b 0 (cU (f0 s))))))=((f0 s).take b.toNat).drop a.toNat:=by
  rw[uh,sS _ λq hq=>(nn1 q hq).2,uL _ _ _ (ua _),jH]
 refine⟨_,rfl,_,rfl,_,rfl,q0,_,rfl,Zu.same s3,by omega,λoi H4 hoi s4 foi=>?_⟩;have JG:=zY.trans s4;refine⟨q,oi,rows,t,p,_,f0,rfl,⟨fs3.at_.same s4,by omega,sn.es,sn.sd,sn.rk,sn.ss,sn.ln⟩,it.1,it.2,hoi,za (uf nn1),?_,fp,λip xq q2 H5 uq gy s5 Rf=>?_,λnp H5 s5=>k7 np H5 (JG.trans s5)⟩
 ·rw[BO];have:=qU (cJ (qg a b 0 (cU (f0 s))));omega
 rw[es1]at uq;cases uq;rw[epl]at gy;obtain⟨⟨fB,B⟩,k9⟩:=k8 ip es es1;have MF:=JG.trans s5;have Yq:=LU.same MF
 have Ri:q2≠bk:=λe=>by
  have y:=(LU.same JG).L.hb;rw[← e,Rf]at y;cases y
 refine⟨_,rfl,x,d,_,rfl,Yq.L.hx,rfl,_,rfl,_,rfl,_,rfl,_,rfl,_,rfl,ZF,λt' ht=>?_⟩;have s6:=ak ht (.tup [.str "quote",.int t,.int p,.int s,.int a,.int b]);have Vr:(aQ H5 t' (.tup [.str "quote",.int t,.int p,.int s,.int a,.int b])) t'=some (.tup [.str "quote",.int t,.int p,.int s,.int a,.int b]):=af;generalize aQ H5 t' (.tup [.str "quote",.int t,.int p,.int s,.int a,.int b])=H6 at s6 Vr;have Rg:=MF.trans s6;have Rh:=LU.same Rg;have ss:((t.toNat:Nat):Int)=t:=by have:=it.1;omega
 refine⟨_,rfl,_,rfl,S,x,d,wl,sh,bl,kn,du,bk,dS,st,op,pe,ops,aB,t',q2,.plain qtW [t,p,s,a,b],t.toNat,_,rows,fB,by rw[ss];rfl,Rh.L,(by show H6 t'=_;rw[Vr,vN];rfl),⟨(by show rY Ua qtW=some 5;decide +kernel),?_⟩,gy.same s6,Ri,hl,by omega,l1,l2,l3,B,λS' H8 L8 FO=>?_⟩
 ·intro y hy;have b1:=ia.1;have b2:=it.1;unfold DQ at i3;rcases List.mem_cons.mp hy with e|hy
  ·rw[e];exact⟨b2,ft.big⟩
  rcases List.mem_cons.mp hy with e|hy
  ·rw[e];exact⟨ip.1,fp.big⟩
  rcases List.mem_cons.mp hy with e|hy
  ·rw[e];exact⟨b1,fs.big⟩
  rcases List.mem_cons.mp hy with e|hy
  ·rw[e];exact⟨by omega,fa.big⟩
  ·rw[List.mem_singleton.mp hy];exact⟨by omega,fb.big⟩
 ·obtain⟨U',hL',f'⟩:=Rh.sZ L8 FO;exact k9 U' H8 hL' (f'.pre Rg)
theorem Ec:aJ ["self","sheet"] ["self","sheet"] (aA uI):=jd
theorem Dm{f fr:Addr}(F:iK K "row" "Library.row" uI f fd)(L:Dd K mg C CS XS XM XT)(A1:IV K mg CS)(uX:bU K CS "row" "Shelf.row" uG xO fr gr):aC P w K mg base (lP P w) 4 f fd xO (Rk C CS XS):=by
 obtain⟨⟨_,_,d1⟩,⟨_,_,d2⟩,⟨_,_,aM⟩,⟨_,_,d4⟩,⟨_,_,d7⟩,⟨_,_,bJ⟩,⟨_,_,d9⟩⟩:=A1;obtain⟨M,⟨fi,aH⟩,nw,ns,Fi,nk,nd,D8,dG,G⟩:=L;have KZ:aC P w K mg base (lP P w) 3 _ _ xO (Vm CS XS):=Gn uX.F M d1 aM;obtain⟨T,⟨fj,bM⟩,n1,n2,dR,cT⟩:=M;refine DU F Ec λdJ A outer s0 H vs Q E hr h=>?_;obtain⟨S,x,d,wl,sh,bl,kn,du,bk,dS,st,op,pe,ops,aB,rows,s,rfl,L,hl,l1,l2,fs,k1,k2⟩:=h;have lo:=pJ L hl;have hl':=gf hl;have lp:(oH pe).length=pe.length:=cS _;refine⟨_,(au (aO (dP (dN (pv 0) rfl) bM uX KZ hr jI (aa (pv 1) ah)))),?_⟩;refine⟨_,rfl,x,C,d,_,.ref sh,rfl,L.hx,aH.cl,ns,rfl,sh,dS,_,rfl,L.W.hx,rfl,_,rfl,S,sh,dS,st,op,oH pe,ops,s,rfl,L.W,⟨by omega,by omega⟩,fs,λsi last aP e1 e2 e3=>?_,λz=>k1 (by rw[← lo];exact z)⟩;rw[hl']at e2;cases e2;rw[j3]at e3;obtain⟨es,e4,rfl⟩:=Option.map_eq_some_iff.mp e3;have il:=(List.getElem?_eq_some_iff.mp e4).1;exact λq H' hq s1 fq=>k2 ⟨by omega,by omega⟩ es (by rw[e1,Int.toNat_natCast];exact e4) q H' hq s1 fq
abbrev wnW:List Nat:=(Str.ofString "window").cps.toList
inductive Ja(C CS CW CB XS XP:Addr)(vs:List V)(H:Hp)(Q:VK)(E:XK):Prop
 | mk (U:Addr->Prop) (x:Addr) (pe:ou) (aB:pP) (aS:m7) (nW:Nat) (cD:Row) (t p s:Int) (rows:dM) (_:vs=[.ref x,.int t,.int p,.int s]) (_:yo C CS CW CB U H x pe aB aS nW cD) (_:pe.getLast?=some rows) (_:rows.length<=50) (_:pe.length<=900) (_:aB.length<=900) (_:m6 t) (_:m6 p) (_:m6 s)
  (_:¬ qh rows.length t->∀ H',aG H H'->E (.ref XS) none H') (_:qh rows.length t->(¬ qh rows.length s->∀ H',aG H H'->E (.ref XS) none H')/\(qh rows.length s->∃ sh,Seen rows sh/\(¬ (0<=p/\p<=(sh t).length)->∀ H',aG H H'->E (.ref XP) none H')/\(0<=p/\p<=(sh t).length->∀ es,rows[t.toNat]?=some es->(∃ f,sf (mz rows t.toNat (iU sh p es [-1-s])) f)/\
  ∀ (U':Addr->Prop) (H':Hp),yo C CS CW CB U' H' x (pe++[mz rows t.toNat (iU sh p es [-1-s])]) (aB++[(nY.plain wnW [t,p,s]).line]) aS nW cD->MA U U' H H'->Q .jm H')))
theorem uu:aJ ["self","target","place","source","items"] ["self","target","place","source"] (aA mE):=jd
theorem zq{f:Addr}{g1 g2:FuncData}(F:iK K "window" "Library.window" mE f fd)(X:Ay K mg C CS CW CB XS XM XT XO XP)(A1:IV K mg CS)(A2:Mw K mg)(A6:Vp K mg)(aW:bU K C "enter" "Library.enter" cI Lg f1 g1)(aR:bU K C "change" "Library.change" cR Jz f2 g2):aC P w K mg base (lP P w) 6 f fd VH (Ja C CS CW CB XS XP):=by
 obtain⟨LM,_,_,_,_,_,_,_,Z⟩:=X;have cF:aC P w K mg base bZ 5 _ _ Jz (qe C CS):=eY aR.F LM A1 A2 aW;obtain⟨M,⟨fi,aH⟩,nw,ns,Fi,nk,nd,D8,dG,G⟩:=LM;obtain⟨⟨_,_,d1⟩,⟨_,_,d2⟩,⟨_,_,aM⟩,⟨_,_,d4⟩,⟨_,_,d7⟩,⟨_,_,bJ⟩,⟨_,_,d9⟩⟩:=A1;have cQ:aC P w K mg base bZ 4 _ _ lZ (tQ CS):=gQ bJ.F M d2 d4 d7;have bH:aC P w K mg base (lP P w) 2 _ _ xO (nZ CS XS):=cP aM.F M d1;obtain⟨T,⟨fj,bM⟩,n1,n2,dR,cT⟩:=M;obtain⟨⟨_,_,i1⟩,⟨_,_,i2⟩,⟨_,_,i3⟩,⟨_,_,i4⟩,⟨_,_,i5⟩,⟨_,_,i6⟩,⟨_,_,i7⟩,⟨_,_,i8⟩,⟨_,_,i9⟩,⟨_,_,Sg⟩,⟨_,_,Rc⟩,⟨_,_,d8⟩,⟨_,_,Um⟩,⟨_,_,jr⟩⟩:=A6;have sr:aC P w K mg base (lP P w) 4 _ _ OR (rX XP):=uS jr.F T Z i1 i2 i3 i4 i5 i6 i7 i8 i9 Sg Rc d8 Um;refine DU F uu λdJ A outer s0 H vs Q E hr h=>?_;obtain⟨U,x,pe,aB,aS,nW,cD,t,p,s,rows,rfl,LB,hl,l1,l2,l3,ft,fp,fs,k1,k2⟩:=h;obtain⟨S,SW,d,wl,sh,bl,kn,du,bk,dS,st,op,dw,sg,ow,pw,db,tb,ops,LU⟩:=id LB;have lo:=pJ LU.L hl;have hl':=gf hl;have lp:(oH pe).length=pe.length:=cS _;have ok:D6 (oH pe) ops:=⟨by omega,by omega⟩;refine⟨_,(aj (bf (dP (dN (pv 0) rfl) bM aM bH hr jI (aa (pv 1) ah))) (aj (bf (dP (dN (pv 0) rfl) bM aM bH hr jI (aa (pv 3) ah))) (aj (bx (i:=4) uu.nd (nH jr sr hr jI (aa (iu (dN (pv 0) rfl) bM bJ cQ hr dh) (aa (pv 1) (aa (pv 2) (aa (bQ (aa (dH (aa bG (aa (pv 3) ah))) ah)) ah)))))) (au (bf (dP (pv 0) aH aR cF hr dh (aa (dH (aa bG (aa (pv 1) (aa (pv 2) (aa (pv 3) ah))))) (aa (pv 1) (aa (pv 4) ah))))))))),?_⟩;refine⟨_,rfl,x,C,d,_,.ref sh,rfl,LU.L.hx,aH.cl,ns,rfl,sh,dS,_,rfl,LU.L.W.hx,rfl,_,rfl,S,sh,dS,st,op,oH pe,ops,t,rfl,LU.L.W,ok,ft,λit=>?_,λz=>k1 (by rw[← lo];exact z) H (aG.refl _)⟩;rw[lo]at it;obtain⟨k3,k4⟩:=k2 it;refine⟨_,rfl,x,C,d,_,.ref sh,rfl,LU.L.hx,aH.cl,ns,rfl,sh,dS,_,rfl,LU.L.W.hx,rfl,_,rfl,S,sh,dS,st,op,oH pe,ops,s,rfl,LU.L.W,ok,fs,λia=>?_,λz=>k3 (by rw[← lo];exact z) H (aG.refl _)⟩;rw[lo]at ia;obtain⟨f0,sn,k7,k8⟩:=k4 ia;refine⟨_,rfl,x,C,d,_,.ref sh,rfl,LU.L.hx,aH.cl,ns,rfl,sh,dS,_,rfl,LU.L.W.hx,rfl,S,sh,dS,st,op,oH pe,ops,rfl,LU.L.W,ok,λVo el q H1 Q8 s1=>?_⟩;rw[hl']at el;cases el;have tl:t.toNat<rows.length:=by have:=it.1;have:=it.2;omega
 obtain⟨es,es1⟩:∃ es,rows[t.toNat]?=some es:=⟨_,oJ tl⟩;refine⟨_,rfl,_,rfl,_,rfl,uP,λt2 Ox=>⟨lX,λo ho=>?_⟩⟩;have s2:=ak Ox (.tup [.str "win",.int s]);have t2':(aQ H1 t2 (.tup [.str "win",.int s])) t2=some (.tup [.str "win",.int s]):=af;generalize aQ H1 t2 (.tup [.str "win",.int s])=H2 at s2 t2' ho;have s3:=ak ho (.lst [.ref t2]);have o3:(aQ H2 o (.lst [.ref t2])) o=some (.lst [.ref t2]):=af;show rX _ _ (aQ H2 o (.lst [.ref t2])) _ _;generalize aQ H2 o (.lst [.ref t2])=H3 at s3 o3;have zY:=s1.trans (s2.trans s3);have hoi:bL H3 (.ref o) [.win s]:=⟨o,_,rfl,o3,.cons ⟨t2,rfl,s3 _ _ t2'⟩ .nil⟩;refine⟨q,o,rows,t,p,[.win s],f0,rfl,⟨Q8.at_.same (s2.trans s3),by omega,sn.es,sn.sd,sn.rk,sn.ss,sn.ln⟩,it.1,it.2,hoi,.one ia.1,(by show 1<=10000;decide),fp,λip xq q2 H5 uq gy s5 Rf=>?_,λnp H5 s5=>k7 np H5 (zY.trans s5)⟩;rw[es1]at uq;cases uq;rw[show dQ [aT.win s]=[-1-s] from rfl]at gy;obtain⟨⟨fB,B⟩,k9⟩:=k8 ip es es1;have MF:=zY.trans s5;have Yq:=LU.same MF
 have Ri:q2≠bk:=λe=>by
  have y:=(LU.same zY).L.hb;rw[← e,Rf]at y;cases y
 refine⟨_,rfl,x,d,_,rfl,Yq.L.hx,rfl,_,rfl,_,rfl,_,rfl,F2,λt' ht=>?_⟩;have s6:=ak ht (.tup [.str "window",.int t,.int p,.int s]);have Vr:(aQ H5 t' (.tup [.str "window",.int t,.int p,.int s])) t'=some (.tup [.str "window",.int t,.int p,.int s]):=af;generalize aQ H5 t' (.tup [.str "window",.int t,.int p,.int s])=H6 at s6 Vr;have Rg:=MF.trans s6;have Rh:=LU.same Rg;have ss:((t.toNat:Nat):Int)=t:=by have:=it.1;omega
 refine⟨_,rfl,_,rfl,S,x,d,wl,sh,bl,kn,du,bk,dS,st,op,pe,ops,aB,t',q2,.plain wnW [t,p,s],t.toNat,_,rows,fB,by rw[ss];rfl,Rh.L,(by show H6 t'=_;rw[Vr,vN];rfl),⟨(by show rY Ua wnW=some 3;decide +kernel),?_⟩,gy.same s6,Ri,hl,by omega,l1,l2,l3,B,λS' H8 L8 FO=>?_⟩
 ·intro y hy;have b1:=ia.1;have b2:=it.1;rcases List.mem_cons.mp hy with e|hy
  ·rw[e];exact⟨b2,ft.big⟩
  rcases List.mem_cons.mp hy with e|hy
  ·rw[e];exact⟨ip.1,fp.big⟩
  ·rw[List.mem_singleton.mp hy];exact⟨b1,fs.big⟩
 ·obtain⟨U',hL',f'⟩:=Rh.sZ L8 FO;exact k9 U' H8 hL' (f'.pre Rg)
abbrev fxW:List Nat:=(Str.ofString "fix").cps.toList
inductive Rl(C CS CW CB XS:Addr)(vs:List V)(H:Hp)(Q:VK)(E:XK):Prop
 | mk (U:Addr->Prop) (x:Addr) (pe:ou) (aB:pP) (aS:m7) (nW:Nat) (cD:Row) (t:Int) (rows:dM) (_:vs=[.ref x,.int t]) (_:yo C CS CW CB U H x pe aB aS nW cD) (_:pe.getLast?=some rows) (_:rows.length<=50) (_:pe.length<=900) (_:aB.length<=900) (_:m6 t)
  (_:¬ qh rows.length t->∀ H',aG H H'->E (.ref XS) none H') (_:qh rows.length t->∃ sh,Seen rows sh/\(∃ f,sf (mz rows t.toNat (sh t)) f)/\
  ∀ (U':Addr->Prop) (H':Hp),yo C CS CW CB U' H' x (pe++[mz rows t.toNat (sh t)]) (aB++[(nY.plain fxW [t]).line]) aS nW cD->MA U U' H H'->Q .jm H')
theorem Ed:aJ ["self","sheet"] ["self","sheet"] (aA qJ):=jd
theorem vY{f f3:Addr}{g1 g2 g3 g4:FuncData}(F:iK K "fix" "Library.fix" qJ f fd)(X:Ay K mg C CS CW CB XS XM XT XO XP)(A1:IV K mg CS)(A2:Mw K mg)(A6:Vp K mg)(aW:bU K C "enter" "Library.enter" cI Lg f1 g1)(aR:bU K C "change" "Library.change" cR Jz f2 g2)(jP:aF K mg "fixed_items" nj tL f3 g3)(lY:aF K mg "shown" xV tL f4 g4):aC P w K mg base (lP P w) 6 f fd xO (Rl C CS CW CB XS):=by
 obtain⟨LM,_,_,_,_,_,_,_,Z⟩:=X;have cF:aC P w K mg base bZ 5 _ _ Jz (qe C CS):=eY aR.F LM A1 A2 aW;obtain⟨M,⟨fi,aH⟩,nw,ns,Fi,nk,nd,D8,dG,G⟩:=LM;obtain⟨⟨_,_,d1⟩,⟨_,_,d2⟩,⟨_,_,aM⟩,⟨_,_,d4⟩,⟨_,_,d7⟩,⟨_,_,bJ⟩,⟨_,_,d9⟩⟩:=A1;have cQ:aC P w K mg base bZ 4 _ _ lZ (tQ CS):=gQ bJ.F M d2 d4 d7;have bH:aC P w K mg base (lP P w) 2 _ _ xO (nZ CS XS):=cP aM.F M d1;obtain⟨T,⟨fj,bM⟩,n1,n2,dR,cT⟩:=M;have A6':=A6;obtain⟨⟨_,_,i1⟩,⟨_,_,i2⟩,⟨_,_,i3⟩,⟨_,_,i4⟩,⟨_,_,i5⟩,⟨_,_,i6⟩,⟨_,_,i7⟩,⟨_,_,i8⟩,⟨_,_,i9⟩,⟨_,_,Sg⟩,⟨_,_,Rc⟩,⟨_,_,d8⟩,⟨_,_,Um⟩,⟨_,_,i14⟩⟩:=A6;have GA:aC P w K mg base bZ 5 _ _ tL Mm:=C1 jP.F T i1 i2 i3 i4 i5 lY d8;refine DU F Ed λdJ A outer s0 H vs Q E hr h=>?_;obtain⟨U,x,pe,aB,aS,nW,cD,t,rows,rfl,LB,hl,l1,l2,l3,ft,k1,k2⟩:=h;obtain⟨S,SW,d,wl,sh,bl,kn,du,bk,dS,st,op,dw,sg,ow,pw,db,tb,ops,LU⟩:=id LB;have lo:=pJ LU.L hl;have hl':=gf hl;have lp:(oH pe).length=pe.length:=cS _;have ok:D6 (oH pe) ops:=⟨by omega,by omega⟩;refine⟨_,(aj (bf (dP (dN (pv 0) rfl) bM aM bH hr jI (aa (pv 1) ah))) (au (bf (dP (pv 0) aH aR cF hr dh (aa (dH (aa bG (aa (pv 1) ah))) (aa (pv 1) (aa (aK jP GA hr (aa (iu (dN (pv 0) rfl) bM bJ cQ hr dh) (aa (pv 1) ah))) ah))))))),?_⟩;refine⟨_,rfl,x,C,d,_,.ref sh,rfl,LU.L.hx,aH.cl,ns,rfl,sh,dS,_,rfl,LU.L.W.hx,rfl,_,rfl,S,sh,dS,st,op,oH pe,ops,t,rfl,LU.L.W,ok,ft,λit=>?_,λz=>k1 (by rw[← lo];exact z) H (aG.refl _)⟩;rw[lo]at it;obtain⟨f0,sn,⟨fB,B⟩,k9⟩:=k2 it;refine⟨_,rfl,x,d,_,rfl,LU.L.hx,rfl,_,rfl,uP,λt' ht=>?_⟩;have s6:=ak ht (.tup [.str "fix",.int t]);have Vr:(aQ H t' (.tup [.str "fix",.int t])) t'=some (.tup [.str "fix",.int t]):=af;generalize aQ H t' (.tup [.str "fix",.int t])=H6 at s6 Vr;have Rh:=LU.same s6;refine⟨_,rfl,_,rfl,x,C,d,_,.ref sh,rfl,Rh.L.hx,aH.cl,ns,rfl,sh,dS,_,rfl,Rh.L.W.hx,rfl,S,sh,dS,st,op,oH pe,ops,rfl,Rh.L.W,ok,λVo el q H1 Q8 s1=>?_⟩;rw[hl']at el;cases el;refine⟨_,rfl,q,rows,t,f0,rfl,⟨Q8.at_,by omega,sn.es,sn.sd,sn.rk,sn.ss,sn.ln⟩,it.1,it.2,λq2 H5 gy s5 Rf=>?_⟩;have MF:=s6.trans (s1.trans s5);have Yq:=LU.same MF
 have Ri:q2≠bk:=λe=>by
  have y:=(LU.same (s6.trans s1)).L.hb;rw[← e,Rf]at y;cases y
 have ss:((t.toNat:Nat):Int)=t:=by have:=it.1;omega
 have tl:t.toNat<rows.length:=by have:=it.1;have:=it.2;omega
 refine⟨S,x,d,wl,sh,bl,kn,du,bk,dS,st,op,pe,ops,aB,t',q2,.plain fxW [t],t.toNat,_,rows,fB,by rw[ss];rfl,Yq.L,(by show H5 t'=_;rw[s5 _ _ (s1 _ _ Vr),vN];rfl),⟨(by show rY Ua fxW=some 1;decide +kernel),?_⟩,gy,Ri,hl,by omega,l1,l2,l3,B,λS' H8 L8 FO=>?_⟩
 ·intro y hy;rw[List.mem_singleton.mp hy];exact⟨it.1,ft.big⟩
 ·obtain⟨U',hL',f'⟩:=Yq.sZ L8 FO;exact k9 U' H8 hL' (f'.pre MF)
abbrev mvW:List Nat:=(Str.ofString "move").cps.toList
inductive Rm(C CS CW CB XS XP:Addr)(vs:List V)(H:Hp)(Q:VK)(E:XK):Prop
 | mk (U:Addr->Prop) (x:Addr) (pe:ou) (aB:pP) (aS:m7) (nW:Nat) (cD:Row) (s a b to:Int) (rows:dM) (_:vs=[.ref x,.int s,.int a,.int b,.int to]) (_:yo C CS CW CB U H x pe aB aS nW cD) (_:pe.getLast?=some rows) (_:rows.length<=50) (_:pe.length<=900) (_:aB.length<=900) (_:m6 s) (_:(-100000<a/\a<100000)) (_:(-100000<b/\b<100000)) (_:(-100000<to/\to<100000))
  (_:¬ qh rows.length s->∀ H',aG H H'->E (.ref XS) none H') (_:qh rows.length s->∃ sh,Seen rows sh/\(¬ Mv a b to (sh s).length->∀ H',aG H H'->E (.ref XP) none H')/\(Mv a b to (sh s).length->∀ es,rows[s.toNat]?=some es->(∃ f,sf (mz rows s.toNat (qL sh a b to es)) f)/\
  ∀ (U':Addr->Prop) (H':Hp),yo C CS CW CB U' H' x (pe++[mz rows s.toNat (qL sh a b to es)]) (aB++[(nY.plain mvW [s,a,b,to]).line]) aS nW cD->MA U U' H H'->Q .jm H'))
theorem vZ:aJ ["self","sheet","start","stop","to","items"] ["self","sheet","start","stop","to"] (aA pB):=jd
theorem Bs{f fp:Addr}{g1 g2:FuncData}(F:iK K "move" "Library.move" pB f fd)(X:Ay K mg C CS CW CB XS XM XT XO XP)(A1:IV K mg CS)(A2:Mw K mg)(A6:Vp K mg)(aW:bU K C "enter" "Library.enter" cI Lg f1 g1)(aR:bU K C "change" "Library.change" cR Jz f2 g2)(lM:aF K mg "moved_items" ni Sv fc gc)(jZ:aF K mg "parted" sM G1 fp gp):aC P w K mg base (lP P w) 6 f fd VF (Rm C CS CW CB XS XP):=by
 obtain⟨LM,_,_,_,_,_,_,_,Z⟩:=X;have cF:aC P w K mg base bZ 5 _ _ Jz (qe C CS):=eY aR.F LM A1 A2 aW;obtain⟨M,⟨fi,aH⟩,nw,ns,Fi,nk,nd,D8,dG,G⟩:=LM;obtain⟨⟨_,_,d1⟩,⟨_,_,d2⟩,⟨_,_,aM⟩,⟨_,_,d4⟩,⟨_,_,d7⟩,⟨_,_,bJ⟩,⟨_,_,d9⟩⟩:=A1;have cQ:aC P w K mg base bZ 4 _ _ lZ (tQ CS):=gQ bJ.F M d2 d4 d7;have bH:aC P w K mg base (lP P w) 2 _ _ xO (nZ CS XS):=cP aM.F M d1;obtain⟨T,⟨fj,bM⟩,n1,n2,dR,cT⟩:=M;obtain⟨⟨_,_,i1⟩,⟨_,_,i2⟩,⟨_,_,i3⟩,⟨_,_,i4⟩,⟨_,_,i5⟩,⟨_,_,i6⟩,⟨_,_,i7⟩,⟨_,_,i8⟩,⟨_,_,i9⟩,⟨_,_,Sg⟩,⟨_,_,Rc⟩,⟨_,_,i12⟩,⟨_,_,Um⟩,⟨_,_,i14⟩⟩:=A6;have GB:aC P w K mg base (lP P w) 4 _ _ Sv (zg XP):=C0 lM.F T Z i1 i2 i3 i4 i5 i6 i7 i8 i9 Sg Rc i12 jZ Um;refine DU F vZ λdJ A outer s0 H vs Q E hr h=>?_;obtain⟨U,x,pe,aB,aS,nW,cD,s,a,b,to,rows,rfl,LB,hl,l1,l2,l3,fs,fa,fb,fo,k1,k2⟩:=h;obtain⟨S,SW,d,wl,sh,bl,kn,du,bk,dS,st,op,dw,sg,ow,pw,db,tb,ops,LU⟩:=id LB;have lo:=pJ LU.L hl;have hl':=gf hl;have lp:(oH pe).length=pe.length:=cS _;have ok:D6 (oH pe) ops:=⟨by omega,by omega⟩;refine⟨_,(aj (bf (dP (dN (pv 0) rfl) bM aM bH hr jI (aa (pv 1) ah))) (aj (bx (i:=5) vZ.nd (nH lM GB hr jI (aa (iu (dN (pv 0) rfl) bM bJ cQ hr dh) (aa (pv 1) (aa (pv 2) (aa (pv 3) (aa (pv 4) ah))))))) (au (bf (dP (pv 0) aH aR cF hr dh (aa (dH (aa bG (aa (pv 1) (aa (pv 2) (aa (pv 3) (aa (pv 4) ah)))))) (aa (pv 1) (aa (pv 5) ah)))))))),?_⟩;refine⟨_,rfl,x,C,d,_,.ref sh,rfl,LU.L.hx,aH.cl,ns,rfl,sh,dS,_,rfl,LU.L.W.hx,rfl,_,rfl,S,sh,dS,st,op,oH pe,ops,s,rfl,LU.L.W,ok,fs,λia=>?_,λz=>k1 (by rw[← lo];exact z) H (aG.refl _)⟩;rw[lo]at ia;obtain⟨f0,sn,k3,k4⟩:=k2 ia;refine⟨_,rfl,x,C,d,_,.ref sh,rfl,LU.L.hx,aH.cl,ns,rfl,sh,dS,_,rfl,LU.L.W.hx,rfl,S,sh,dS,st,op,oH pe,ops,rfl,LU.L.W,ok,λVo el q H1 Q8 s1=>?_⟩;rw[hl']at el;cases el;have sl:s.toNat<rows.length:=by have:=ia.1;have:=ia.2;omega
 obtain⟨es,es1⟩:∃ es,rows[s.toNat]?=some es:=⟨_,oJ sl⟩;refine⟨_,rfl,_,rfl,_,rfl,_,rfl,q,rows,s,a,b,to,f0,rfl,⟨Q8.at_,by omega,sn.es,sn.sd,sn.rk,sn.ss,sn.ln⟩,ia.1,ia.2,fa,fb,fo,λi3 xq q2 H2 uq gy s2 Rf=>?_,λn3 H2 s2=>k3 n3 H2 (s1.trans s2)⟩;rw[es1]at uq;cases uq;obtain⟨⟨fB,B⟩,k5⟩:=k4 i3 es es1;have rL:=s1.trans s2;have OE:=LU.same rL
 have Ri:q2≠bk:=λe=>by
  have y:=(LU.same s1).L.hb;rw[← e,Rf]at y;cases y
 refine⟨_,rfl,x,d,_,rfl,OE.L.hx,rfl,_,rfl,_,rfl,_,rfl,_,rfl,ZE,λt ht=>?_⟩;have s3:=ak ht (.tup [.str "move",.int s,.int a,.int b,.int to]);have Ue:(aQ H2 t (.tup [.str "move",.int s,.int a,.int b,.int to])) t=some (.tup [.str "move",.int s,.int a,.int b,.int to]):=af;generalize aQ H2 t (.tup [.str "move",.int s,.int a,.int b,.int to])=H3 at s3 Ue;have zY:=rL.trans s3;have Uo:=LU.same zY;have ss:((s.toNat:Nat):Int)=s:=by have:=ia.1;omega
 refine⟨_,rfl,_,rfl,S,x,d,wl,sh,bl,kn,du,bk,dS,st,op,pe,ops,aB,t,q2,.plain mvW [s,a,b,to],s.toNat,_,rows,fB,by rw[ss];rfl,Uo.L,(by show H3 t=_;rw[Ue,vN];rfl),⟨(by show rY Ua mvW=some 4;decide +kernel),?_⟩,gy.same s3,Ri,hl,by omega,l1,l2,l3,B,λS' H8 L8 FO=>?_⟩
 ·intro y hy;have b1:=ia.1;have i4:=i3.1;have i5:=i3.2;unfold DQ at i4;rcases List.mem_cons.mp hy with e|hy
  ·rw[e];exact⟨b1,fs.big⟩
  rcases List.mem_cons.mp hy with e|hy
  ·rw[e];exact⟨by omega,(m6.Od fa).big⟩
  rcases List.mem_cons.mp hy with e|hy
  ·rw[e];exact⟨by omega,(m6.Od fb).big⟩
  ·rw[List.mem_singleton.mp hy];exact⟨by omega,(m6.Od fo).big⟩
 ·obtain⟨U',hL',f'⟩:=Uo.sZ L8 FO;exact k5 U' H8 hL' (f'.pre zY)
inductive Fp(C CS:Addr)(vs:List V)(H:Hp)(Q:VK)(E:XK):Prop
 | mk (S:Addr->Prop) (x d wl sh bl kn du bk dS st op:Addr) (pe:ou) (ops:List Int) (aB:pP) (rows:dM) (si:Nat) (f:Int->Int) (_:vs=[.ref x,.int (si:Nat)]) (_:j0 C CS S H x d wl sh bl kn du bk dS st op (oH pe) ops aB) (_:pe.getLast?=some rows) (_:rows.length<=50) (_:pe.length<=900) (_:si<rows.length) (_:sf rows f) (_:∀ H',aG H H'->Q (.int (f (si:Nat))) H')
theorem AB:aJ ["self","sheet"] ["self","sheet"] (aA qp):=jd
theorem zu{f:Addr}(F:iK K "weight" "Library.weight" qp f fd)(L:Dd K mg C CS XS XM XT)(A1:IV K mg CS)(A2:Mw K mg)(wW:aF K mg "weight" BC tL fw gw):aC P w K mg base (lP P w) 5 f fd xO (Fp C CS):=by
 obtain⟨⟨_,_,d1⟩,⟨_,_,d2⟩,⟨_,_,aM⟩,⟨_,_,d4⟩,⟨_,_,d7⟩,⟨_,_,bJ⟩,_⟩:=A1;obtain⟨⟨_,_,w1⟩,⟨_,_,w2⟩,⟨_,_,w3⟩,⟨_,_,w4⟩,_⟩:=A2;obtain⟨M,⟨fi,aH⟩,nw,ns,Fi,nk,nd,D8,dG,G⟩:=L;have cQ:aC P w K mg base bZ 4 _ _ lZ (tQ CS):=gQ bJ.F M d2 d4 d7;have bH:aC P w K mg base (lP P w) 2 _ _ xO (nZ CS XS):=cP aM.F M d1;obtain⟨T,⟨fj,bM⟩,n1,n2,dR,cT⟩:=M;have Up:aC P w K mg base bZ 4 _ _ tL Ik:=N1 wW.F T w1 w2 w3 w4;refine DU F AB λdJ A outer s H vs Q E hr h=>?_;obtain⟨S,x,d,wl,sh,bl,kn,du,bk,dS,st,op,pe,ops,aB,rows,si,f,rfl,L,hl,l1,l2,sl,B,k⟩:=h;have lo:=pJ L hl;have lp:(oH pe).length=pe.length:=cS _;have hl':=gf hl;refine⟨_,(aj (bf (dP (dN (pv 0) rfl) bM aM bH hr jI (aa (pv 1) ah))) (au (aO (iP.uN wW (T.Bd _ wW.m) Up hr (aa (iu (dN (pv 0) rfl) bM bJ cQ hr dh) (aa (pv 1) ah)))))),?_⟩;refine⟨_,rfl,x,C,d,_,.ref sh,rfl,L.hx,aH.cl,ns,rfl,sh,dS,_,rfl,L.W.hx,rfl,_,rfl,S,sh,dS,st,op,oH pe,ops,(si:Int),rfl,L.W,⟨by omega,by omega⟩,Mx (by omega),λia=>?_,λz=>absurd ⟨by omega,by omega⟩ z⟩;refine⟨_,rfl,x,C,d,_,.ref sh,rfl,L.hx,aH.cl,ns,rfl,sh,dS,_,rfl,L.W.hx,rfl,S,sh,dS,st,op,oH pe,ops,rfl,L.W,⟨by omega,by omega⟩,λVo el q H1 Q8 s1=>?_⟩;rw[hl']at el;cases el;exact⟨_,rfl,q,rows,(si:Int),f,rfl,Q8.at_,by omega,B.es,B.sd,B.rk,by omega,by omega,B.wt,λH2 s2=>k H2 (s1.trans s2)⟩
theorem GC{α β:Type}{F:α->β->Prop}{xs:List α}{ys:List β}{x:α}{y:β}(h:Paired F xs ys)(e:F x y):Paired F (xs++[x]) (ys++[y]):=by
 induction h with
 | nil=>exact .cons e .nil
 | cons r _ ih=>exact .cons r ih
theorem Ef{α β:Type}{F:α->β->Prop}{xs xs':List α}{ys ys':List β}(h:Paired F xs ys)(t:Paired F xs' ys'):Paired F (xs++xs') (ys++ys'):=by
 induction h with
 | nil=>exact t
 | cons e _ ih=>exact .cons e ih
def Vs(H:Hp)(a:Addr)(q:Int × Nat):Prop:=H a=some (.tup [.int q.1,NO q.2])
inductive GD(H:Hp)(v:Addr)(aS:m7):Prop
 | mk (as:List Addr) (_:H v=some (.lst (as.map V.ref))) (_:Paired (Vs H) as aS)
abbrev kI:iz:=.inr (Str.ofString "ink")
abbrev kR:iz:=.inr (Str.ofString "rows")
abbrev kP:iz:=.inr (Str.ofString "past")
abbrev kVl:iz:=.inr (Str.ofString "veil")
abbrev yx(ik rw ps vl:Addr):List (iz × V):=[(kI,.ref ik),(kR,.ref rw),(kP,.ref ps),(kVl,.ref vl)]
def Vt(W:Addr->Prop)(ik ps:Addr)(H:Hp)(v:V)(es:List Int):Prop:=∃ b,v=.ref b/\W b/\b≠ik/\b≠ps/\H b=some (.lst (es.map V.int))
def OF(W:Addr->Prop)(ik ps:Addr)(H:Hp)(a:Addr)(rows:dM):Prop:=W a/\a≠ik/\a≠ps/\∃ vs,H a=some (.lst vs)/\cj (Vt W ik ps H) vs rows
structure JI(W:Addr->Prop)(H:Hp)(w ik rw ps vl:Addr)(aS:m7)(pe:ou)(rows:dM):Prop where
 ww:W w
 wi:W ik
 wp:W ps
 wv:W vl
 al:∀ a,W a->∃ ob,H a=some ob
 hw:H w=some (.dK (yx ik rw ps vl))
 hi:GD H ik aS
 hr:OF W ik ps H rw rows
 hp:∃ vs,H ps=some (.lst vs)/\cj (λv rs=>∃ a,v=.ref a/\OF W ik ps H a rs) vs pe
 ne:ik≠ps
 lst:pe.getLast?=some rows
def Wo(W:Addr->Prop)(H:Hp)(w:Addr)(aS:m7)(pe:ou)(rows:dM):Prop:=∃ ik rw ps vl,JI W H w ik rw ps vl aS pe rows
theorem Vt.fr{W W':Addr->Prop}{ik:Addr}{H H':Hp}{v:V}{es:List Int}(s:∀ a,W a->W' a)(k:∀ a xs,H a=some (.lst xs)->W a->a≠ik->a≠ps->H' a=some (.lst xs)):Vt W ik ps H v es->Vt W' ik ps H' v es:=λ⟨b,e,w,n1,n2,h⟩=>⟨b,e,s _ w,n1,n2,k _ _ h w n1 n2⟩
theorem OF.fr{W W':Addr->Prop}{ik:Addr}{H H':Hp}{a:Addr}{rows:dM}(s:∀ a,W a->W' a)(k:∀ a xs,H a=some (.lst xs)->W a->a≠ik->a≠ps->H' a=some (.lst xs)):OF W ik ps H a rows->OF W' ik ps H' a rows:=λ⟨w,n1,n2,vs,h,al⟩=>⟨s _ w,n1,n2,vs,k _ _ h w n1 n2,al.mono λ_ _=>Vt.fr s k⟩
theorem GD.two{H H':Hp}{aS:m7}(h:GD H v aS)(k:∀ xs,H v=some (.lst xs)->H' v=some (.lst xs))(t:∀ a xs,H a=some (.tup xs)->H' a=some (.tup xs)):GD H' v aS:=by
 obtain⟨as,hv,pa⟩:=h;exact⟨as,k _ hv,Paired.JM pa λa q e=>t _ _ e⟩
theorem JI.fr{W:Addr->Prop}{H H':Hp}{w ik rw:Addr}{aS:m7}{pe:ou}{rows:dM}(h:JI W H w ik rw ps vl aS pe rows)(k:∀ a ob,H a=some ob->W a->H' a=some ob)(t:∀ a xs,H a=some (.tup xs)->H' a=some (.tup xs)):JI W H' w ik rw ps vl aS pe rows:=by
 obtain⟨ww,wi,wp,wv,al,hw,hi,hr,⟨vs,hp,a2⟩,ne,lst⟩:=h;refine⟨ww,wi,wp,wv,λa z=>?_,k _ _ hw ww,hi.two (λxs e=>k _ _ e wi) t,hr.fr (λ_ z=>z) (λa xs e z _ _=>k _ _ e z),⟨vs,k _ _ hp wp,a2.mono λv rs ⟨a,e,z⟩=>⟨a,e,z.fr (λ_ y=>y) (λa xs e y _ _=>k _ _ e y)⟩⟩,ne,lst⟩;obtain⟨ob,e⟩:=al a z;exact⟨ob,k _ _ e z⟩
theorem Wo.fr{W:Addr->Prop}{H H':Hp}{w:Addr}{aS:m7}{pe:ou}{rows:dM}(h:Wo W H w aS pe rows)(k:∀ a ob,H a=some ob->W a->H' a=some ob)(t:∀ a xs,H a=some (.tup xs)->H' a=some (.tup xs)):Wo W H' w aS pe rows:=by
 obtain⟨ik,rw,ps,vl,z⟩:=h;exact⟨ik,rw,ps,vl,z.fr k t⟩
def MG:Sp:=λvs H Q _=>vs=[]/\∀ (W:Addr->Prop) (w:Addr) (H':Hp),Wo W H' w [] [[]] []->(∀ a,W a->H a=none)->aG H H'->Q (.ref w) H'
theorem GF:aJ [] [] (aA sO):=jd
theorem aat{X:Cx}{s1 s2 s3 s4:Str}{a1 a2 a3 a4:Nat}{p1 p2 p3 p4 pos:Pos}{v1 v2 v3 v4:Expr}{t1 t2 t3 t4:TE}(h1:PE X v1 t1)(h2:PE X v2 t2)(h3:PE X v3 t3)(h4:PE X v4 t4) :
  PE X (.Dict [some (.Constant (.str s1) a1 p1),some (.Constant (.str s2) a2 p2),some (.Constant (.str s3) a3 p3),some (.Constant (.str s4) a4 p4)] [v1,v2,v3,v4] pos) (Qh [(tC (.str s1),t1),(tC (.str s2),t2),(tC (.str s3),t3),(tC (.str s4),t4)]) :=
 TF (yQ bG h1 (yQ bG h2 (yQ bG h3 (yQ bG h4 Tz)))) rfl rfl (by simp) (by show 4<=15;decide)
abbrev tWo:TE:=Qh [(tC (.str "ink"),Nh Ce),(tC (.str "rows"),Nh Ce),(tC (.str "past"),Nh (O8 (Nh Ce) Ce)),(tC (.str "veil"),Nh Ce)]
theorem Rn:∃ (e:Expr) (p:Pos),ly sO=[.Return (some e) p]/\∀ X:Cx,PE X e tWo :=
 ⟨_,_,rfl,λX=>@aat X _ _ _ _ _ _ _ _ _ _ _ _ _ _ _ _ _ _ _ _ _ (bQ ah) (bQ ah) (bQ (aa (bQ ah) ah)) (bQ ah)⟩
theorem GG{f:Addr}(F:iK K "_law_world" "_law_world" sO f fd):aC P w K mg base bZ 1 f fd [] MG:=by
 refine lW F GF λdJ A outer s H vs Q E hr h=>?_;obtain⟨rfl,k⟩:=h;obtain⟨e,p,he,pw⟩:=Rn;rw[he];refine⟨_,au (aO (pw _)),?_⟩;intro w hw;refine⟨mj,λik Si=>⟨mj,λrw hrw=>⟨mj,λz hz=>⟨lX,λps Uq=>⟨mj,λvl Xy=>?_⟩⟩⟩⟩⟩;have s0:=ak hw (.dK []);have w0:(aQ H w (.dK [])) w=some (.dK []):=af;generalize aQ H w (.dK [])=H0 at s0 w0 Si hrw hz Uq Xy;have s1:=ak Si (.lst []);have i1:(aQ H0 ik (.lst [])) ik=some (.lst []):=af;generalize aQ H0 ik (.lst [])=H1 at s1 i1 hrw hz Uq Xy;have s2:=ak hrw (.lst []);have r2:(aQ H1 rw (.lst [])) rw=some (.lst []):=af;generalize aQ H1 rw (.lst [])=H2 at s2 r2 hz Uq Xy;have s3:=ak hz (.lst []);have z3:(aQ H2 z (.lst [])) z=some (.lst []):=af;generalize aQ H2 z (.lst [])=H3 at s3 z3 Uq Xy;have s4:=ak Uq (.lst [.ref z]);have p4:(aQ H3 ps (.lst [.ref z])) ps=some (.lst [.ref z]):=af;generalize aQ H3 ps (.lst [.ref z])=H4 at s4 p4 Xy;have s5:=ak Xy (.lst []);have v5:(aQ H4 vl (.lst [])) vl=some (.lst []):=af;generalize aQ H4 vl (.lst [])=H5 at s5 v5;have MF:aG H1 H5:=s2.trans (s3.trans (s4.trans s5));have s05:aG H0 H5:=s1.trans MF;have w5:=s05 _ _ w0;have i5:=MF _ _ i1;have r5:=(s3.trans (s4.trans s5)) _ _ r2;have z5:=(s4.trans s5) _ _ z3;have p5:=s5 _ _ p4;have nl:∀ {a:Addr} {xs:List V},H5 a=some (.lst xs)->a≠w:=λ{a xs} e q=>by rw[q,w5]at e;cases e
 have n1:rw≠ik:=(az i1 hrw).symm;have n2:rw≠ps:=az (s3 _ _ r2) Uq;have n3:z≠ik:=(az (s2 _ _ i1) hz).symm;have n4:z≠ps:=az z3 Uq;have n5:ik≠ps:=az ((s2.trans s3) _ _ i1) Uq;refine⟨w5,yx ik rw ps vl,rfl,(by show 4<=15;decide),?_⟩;rw[show zT [] (yx ik rw ps vl)=yx ik rw ps vl by kernel_rfl];have up:∀ {a:Addr} {xs:List V},H5 a=some (.lst xs)->(aQ H5 w (.dK (yx ik rw ps vl))) a=some (.lst xs):=λ{a xs} e=>by rw[aL (nl e)];exact e
 have f0:∀ a,H0 a=none->H a=none:=λa e=>aY s0 e;refine k (λa=>a=w\/a=ik\/a=rw\/a=z\/a=ps\/a=vl) w _ ⟨ik,rw,ps,vl,.inl rfl,.inr (.inl rfl),.inr (.inr (.inr (.inr (.inl rfl)))),.inr (.inr (.inr (.inr (.inr rfl)))),λa e=>?_,af,⟨[],up i5,.nil⟩,⟨.inr (.inr (.inl rfl)),n1,n2,[],up r5,.nil⟩,⟨[.ref z],up p5,.cons ⟨z,rfl,.inr (.inr (.inr (.inl rfl))),n3,n4,[],up z5,.nil⟩ .nil⟩,n5,rfl⟩ (λa e=>?_) (bV hw (s0.trans s05) (aN w _ _))
 ·rcases e with rfl|rfl|rfl|rfl|rfl|rfl
  ·exact⟨_,af⟩
  ·exact⟨_,up i5⟩
  ·exact⟨_,up r5⟩
  ·exact⟨_,up z5⟩
  ·exact⟨_,up p5⟩
  ·exact⟨_,up v5⟩
 ·rcases e with rfl|rfl|rfl|rfl|rfl|rfl
  ·exact hw
  ·exact f0 _ Si
  ·exact f0 _ (aY s1 hrw)
  ·exact f0 _ (aY s1 (aY s2 hz))
  ·exact f0 _ (aY s1 (aY s2 (aY s3 Uq)))
  ·exact f0 _ (aY s1 (aY s2 (aY s3 (aY s4 Xy))))
inductive GH(vs:List V)(H:Hp)(Q:VK)(E:XK):Prop
 | mk (W:Addr->Prop) (w r:Addr) (aS:m7) (pe:ou) (rows rows':dM) (_:vs=[.ref w,.ref r]) (_:Wo W H w aS pe rows) (_:pe.length<=1000) (_:(∀ ik ps,(∃ rw vl,H w=some (.dK (yx ik rw ps vl)))->OF W ik ps H r rows')) (_: ∀ (H':Hp),Wo W H' w aS (pe++[rows']) rows'->(∀ a ob,H a=some ob->¬ W a->H' a=some ob)->(∀ a xs,H a=some (.tup xs)->H' a=some (.tup xs))->(∀ ik rw ps vl,H w=some (.dK (yx ik rw ps vl))->∀ a xs,H a=some (.lst xs)->a≠ps->H' a=some (.lst xs))->Q .jm H')
theorem Jb:aJ ["_law_world_here","_law_rows"] ["_law_world_here","_law_rows"] (aA rB):=jd
theorem v7{f:Addr}(F:iK K "_law_keep" "_law_keep" rB f fd):aC P w K mg base bZ 1 f fd MX GH:=by
 refine lW F Jb λdJ A outer s H vs Q E hr h=>?_;obtain⟨W,w,r,aS,pe,rows,rows',rfl,⟨ik,rw,ps,vl,h⟩,lp,hr',k⟩:=h;have hu:=lO hr;refine⟨_,(aj (yP hu (pv 0) bG (pv 1) rfl) (au (bf (gV vE qj qm cy (jQ hu (pv 0) bG) (aa (pv 1) ah))))),?_⟩;have Mc:=hr' ik ps ⟨rw,vl,h.hw⟩;refine⟨_,rfl,_,rfl,w,_,rfl,FU.k (k:=kR) h.hw (by show 4<sizeLine;decide),?_⟩;rw[show ic (yx ik rw ps vl) kR (.ref r)=yx ik r ps vl by kernel_rfl];obtain⟨Yr,hp,al⟩:=h.hp;have k1:=aN w H (.dK (yx ik r ps vl));have w1:(aQ H w (.dK (yx ik r ps vl))) w=some (.dK (yx ik r ps vl)):=af;have nw:∀ {a:Addr} {o:HO},H a=some o->(∀ kvs,o≠.dK kvs)->a≠w:=λ{a o} e n q=>by rw[q,h.hw]at e;cases e;exact n _ rfl
 generalize aQ H w (.dK (yx ik r ps vl))=H1 at k1 w1;have Yl:=k1 _ _ hp (nw hp (λ_ z=>by cases z));have z:=nI.k (k:=kP) w1;rw[show cW (yx ik r ps vl) kP=some (.ref ps) by kernel_rfl]at z;have lpv:Yr.length=pe.length:=al.len;refine⟨_,rfl,w,_,rfl,z,.inl ⟨rfl,_,bR.of Yl⟩,_,rfl,ps,_,_,rfl,rfl,Yl,aX (by omega),?_⟩;have nps:w≠ps:=(nw hp (λ_ z=>by cases z)).symm
 have ls:∀ a xs,H a=some (.lst xs)->a≠ps->(aQ H1 ps (.lst (Yr++[.ref r]))) a=some (.lst xs):=λa xs e n=>by
  rw[aL n];exact k1 _ _ e (nw e (λ_ z=>by cases z))
 have tp:∀ a xs,H a=some (.tup xs)->(aQ H1 ps (.lst (Yr++[.ref r]))) a=some (.tup xs):=λa xs e=>by
  rw[aL (eL e hp)];exact k1 _ _ e (nw e (λ_ z=>by cases z))
 have rwf:∀ {a:Addr} {rs:dM},OF W ik ps H a rs->OF W ik ps (aQ H1 ps (.lst (Yr++[.ref r]))) a rs:=λ{a rs} q=>q.fr (λ_ y=>y) λa xs e _ _ n=>ls a xs e n;have NS:=rwf Mc
 refine k _ ⟨ik,r,ps,vl,h.ww,h.wi,h.wp,h.wv,λa wa=>?_,?_,h.hi.two (λxs e=>ls _ _ e h.ne) tp,NS,⟨_,af,(al.mono λv rs ⟨a,e,q⟩=>⟨a,e,rwf q⟩).app (.cons ⟨r,rfl,NS⟩ .nil)⟩,h.ne,wY⟩ (λa ob e n=>?_) tp λik' Ys yV vl' ee a xs e n=>ls a xs e (by
  rw[h.hw]at ee;simp only[Option.some.injEq,HO.dK.injEq,yx,List.cons.injEq,Prod.mk.injEq,V.ref.injEq,true_and,and_true]at ee;rw[ee.2.2.1]
  exact n)
 ·by_cases e1:a=ps
  ·rw[e1];exact⟨_,af⟩
  rw[aL e1];by_cases e2:a=w
  ·rw[e2];exact⟨_,w1⟩
  ·obtain⟨ob,e⟩:=h.al a wa;exact⟨ob,k1 _ _ e e2⟩
 ·rw[aL nps];exact w1
 ·rw[aL (λq=>n (by rw[q];exact h.wp))];exact k1 _ _ e (λq=>n (by rw[q];exact h.ww))
theorem yo.al{U:Addr->Prop}{H:Hp}{x:Addr}{pe:ou}{aB:pP}{aS:m7}{nW:Nat}{cD:Row}(h:yo C CS CW CB U H x pe aB aS nW cD){a:Addr}(z:U a):∃ ob,H a=some ob:=by
 obtain⟨S,SW,d,wl,sh,bl,kn,du,bk,dS,st,op,dw,sg,ow,pw,db,tb,ops,L,W,B,R,Xs,dj,db',dt,u⟩:=h;obtain⟨as,hR,_⟩:=R;rcases (u a).mp z with y|y|y|y|y|y
 ·exact L.W.al a y
 ·exact W.al a y
 ·rw[y];exact⟨_,L.hb⟩
 ·rw[y];exact⟨_,L.hx⟩
 ·rw[y];exact⟨_,B⟩
 ·rw[y];exact⟨_,hR⟩
theorem Wo.al{W:Addr->Prop}{H:Hp}{w:Addr}{aS:m7}{pe:ou}{rows:dM}(h:Wo W H w aS pe rows){a:Addr}(z:W a):∃ ob,H a=some ob:=by
 obtain⟨ik,rw,ps,vl,y⟩:=h;exact y.al a z
structure Bt(C CS CW CB:Addr)(H:Hp)(l c w x:Addr)(U W:Addr->Prop)(pe:ou)(rows:dM)(pq:ou)(rq:dM)(aB:pP)(aS:m7)(nW:Nat)(cD:Row):Prop where
 src:jB H l c
 K0:yo C CS CW CB U H x pe aB aS nW cD
 lst:pe.getLast?=some rows
 wo:Wo W H w aS pq rq
 du:∀ a,U a->¬ W a/\a≠l/\a≠c
 dw:∀ a,W a->a≠l/\a≠c
def FrS(l:Addr)(U W U' W':Addr->Prop)(H H':Hp):Prop:=(∀ a,U' a\/W' a->U a\/W a\/H a=none)/\(∀ a ob,H a=some ob->a≠l->¬ U a->¬ W a->H' a=some ob)/\∀ a xs,H a=some (.tup xs)->H' a=some (.tup xs)
theorem Bt.mv{H H':Hp}{c w x:Addr}{U W:Addr->Prop}{pe:ou}{rows:dM}{pq:ou}{rq:dM}{aB:pP}{aS:m7}{nW:Nat}{cD:Row}(h:Bt C CS CW CB H l c w x U W pe rows pq rq aB aS nW cD)(k:cY l H H')(s:jB H' l c):Bt C CS CW CB H' l c w x U W pe rows pq rq aB aS nW cD:=by
 obtain⟨ls,hl⟩:=h.src.lst;have t:∀ a xs,H a=some (.tup xs)->H' a=some (.tup xs):=λa xs e=>k _ _ e (eL e hl);exact⟨s,h.K0.fr (λa ob e z=>k _ _ e (h.du a z).2.1) t,h.lst,h.wo.fr (λa ob e z=>k _ _ e (h.dw a z).1) t,h.du,h.dw⟩
theorem Bt.same{H H':Hp}{c w x:Addr}{U W:Addr->Prop}{pe:ou}{rows:dM}{pq:ou}{rq:dM}{aB:pP}{aS:m7}{nW:Nat}{cD:Row}(h:Bt C CS CW CB H l c w x U W pe rows pq rq aB aS nW cD)(s:aG H H'):Bt C CS CW CB H' l c w x U W pe rows pq rq aB aS nW cD:=h.mv (λa o e _=>s a o e) (h.src.same s)
theorem Ro{α:Type}{xs:List α}{v:Int}(v0:0<=v)(v1:v<xs.length):∃ x∈xs,wC xs v=some x:=by
 obtain⟨j,rfl⟩:∃ j:Nat,v=j:=⟨v.toNat,by omega⟩;have hj:j<xs.length:=by omega
 exact⟨xs[j],List.getElem_mem hj,gH (oJ hj)⟩
theorem Bt.Vu{W W':Addr->Prop}{H:Hp}{w ik rw:Addr}{aS:m7}{pe:ou}{rows:dM}(h:JI W H w ik rw ps vl aS pe rows)(s:∀ a,W a->W' a)(al:∀ a,W' a->∃ ob,H a=some ob):JI W' H w ik rw ps vl aS pe rows:=by
 obtain⟨ww,wi,wp,wv,_,hw,hi,hr,⟨vs,hp,a2⟩,ne,lst⟩:=h;exact⟨s _ ww,s _ wi,s _ wp,s _ wv,al,hw,hi,hr.fr s (λa xs e _ _ _=>e),⟨vs,hp,a2.mono λv rs ⟨a,e,z⟩=>⟨a,e,z.fr s (λa xs e _ _ _=>e)⟩⟩,ne,lst⟩
theorem jB.fru{U U':Addr->Prop}{H H':Hp}{c:Addr}(S:jB H l c)(fr:MA U U' H H')(nl:¬ U l)(nc:¬ U c):jB H' l c:=by
 obtain⟨n,ns,i,d,r,e1,e2,h3⟩:=S;exact⟨n,ns,i,d,r,fr.2.1 _ _ e1 nl,fr.2.1 _ _ e2 nc,h3⟩
theorem Bt.Xz{H H':Hp}{c w x:Addr}{U U' W:Addr->Prop}{pe JH:ou}{rows rows':dM}{pq:ou}{rq:dM}{aB jY:pP}{aS:m7}{nW nW':Nat}{cD Vv:Row}(St:Bt C CS CW CB H l c w x U W pe rows pq rq aB aS nW cD)(L':yo C CS CW CB U' H' x JH jY aS nW' Vv)(hl:JH.getLast?=some rows')(fr:MA U U' H H'):Bt C CS CW CB H' l c w x U' W JH rows' pq rq jY aS nW' Vv/\FrS l U W U' W H H':=by
 refine⟨⟨St.src.fru fr (λz=>(St.du l z).2.1 rfl) (λz=>(St.du c z).2.2 rfl),L',hl,St.wo.fr (λa ob e z=>fr.2.1 _ _ e (λy=>(St.du a y).1 z)) fr.2.2,λa z=>?_,St.dw⟩,λa z=>z.elim (λz=>(fr.1 a z).elim .inl λy=>.inr (.inr y)) (λz=>.inr (.inl z)),λa ob e _ u _=>fr.2.1 a ob e u,fr.2.2⟩;rcases fr.1 a z with y|y
 ·exact St.du a y
 ·have n:=St.src.ne y;refine⟨λz=>?_,n.1.symm,n.2.symm⟩;obtain⟨ob,e⟩:=St.wo.al z;rw[y]at e;cases e
theorem Bt.kept{H H':Hp}{c w x:Addr}{U W W':Addr->Prop}{pe:ou}{rows:dM}{pq pq':ou}{rq rq':dM}{aB:pP}{aS:m7}{nW:Nat}{cD:Row}(St:Bt C CS CW CB H l c w x U W pe rows pq rq aB aS nW cD)(wo:Wo W' H' w aS pq' rq')(dU:∀ a,U a->¬ W' a)(dW:∀ a,W' a->a≠l/\a≠c)(fr:∀ a ob,H a=some ob->¬ W' a->H' a=some ob)(tp:∀ a xs,H a=some (.tup xs)->H' a=some (.tup xs)):Bt C CS CW CB H' l c w x U W' pe rows pq' rq' aB aS nW cD:=by
 refine⟨?_,St.K0.fr (λa ob e z=>fr _ _ e (dU a z)) tp,St.lst,wo,λa z=>⟨dU a z,(St.du a z).2⟩,dW⟩;obtain⟨n,ns,i,d,r,e1,e2,h3⟩:=St.src;exact⟨n,ns,i,d,r,fr _ _ e1 (λz=>(dW l z).1 rfl),fr _ _ e2 (λz=>(dW c z).2 rfl),h3⟩
theorem Bt.new{H:Hp}{c w x a:Addr}{U W:Addr->Prop}{pe:ou}{rows:dM}{pq:ou}{rq:dM}{aB:pP}{aS:m7}{nW:Nat}{cD:Row}(St:Bt C CS CW CB H l c w x U W pe rows pq rq aB aS nW cD)(h:H a=none):¬ U a/\¬ W a/\a≠l/\a≠c:=by
 have n:=St.src.ne h;refine⟨λz=>?_,λz=>?_,n.1.symm,n.2.symm⟩
 ·obtain⟨ob,e⟩:=St.K0.al z;rw[h]at e;cases e
 ·obtain⟨ob,e⟩:=St.wo.al z;rw[h]at e;cases e
def own(rows:dM)(x:Int):List Int:=(rows[x.toNat]?).getD []
theorem Dn{rows:dM}{s:Nat}(es:List Int)(h:s<rows.length):mz rows s es=rows.set s es:=by
 unfold mz;rw[List.set_eq_take_append_cons_drop,if_pos h,tX];rfl
theorem Jc{k:Nat}:∀ {row:Row},(∀ p∈row,p.2<=p.1+(k:Nat))->(bW row).length<=k*row.length
 | [],_=>Nat.zero_le _
 | p::r,h=>by
  have ih:=Jc (row:=r) λq hq=>h q (sF _ hq);have hp:=h p (yC ..);have e:bW (p::r)=oE p++bW r:=by unfold bW;rw[mZ]
  rw[e,dX,qC,Nat.mul_add,Nat.mul_one];have:(oE p).length<=k:=by unfold oE;rw[jN];omega
  omega
theorem Rp{n:Nat}{row:Row}(h:∀ p∈row,0<=p.1/\p.1<p.2/\p.2<=(n:Nat)){e:Int}(he:e∈bW row):0<=e/\e<(n:Nat):=by
 unfold bW at he;obtain⟨p,hp,hm⟩:=List.mem_flatMap.mp he;have b:=h p hp;have m:=L0.mp hm;omega
inductive GI(vs:List V)(H:Hp)(Q:VK)(E:XK):Prop
 | mk (r e:Addr) (s:Nat) (xs:List V) (_:vs=[.ref r,.int (s:Nat),.ref e]) (_:H r=some (.lst xs)) (_:s<xs.length) (_:xs.length<=1000) (_:∀ (q:Addr) (H':Hp),H' q=some (.lst (xs.set s (.ref e)))->aG H H'->H q=none->Q (.ref q) H')
theorem A0:aJ ["_law_rows","_law_sheet","_law_entries","_law_found"] ["_law_rows","_law_sheet","_law_entries"] (aA rC):=jd
theorem Ur{n:Nat}{i:Nat}(h1:i<n):Lv n ((i:Nat):Int)=some i:=by
 unfold Lv;rw[if_pos (by omega),Int.toNat_natCast,if_pos (by omega)]
theorem v8{f:Addr}(F:iK K "_law_swap" "_law_swap" rC f fd)(T:nL mg):aC P w K mg base bZ 1 f fd MV GI:=by
 refine lW F A0 λdJ A outer s0 H vs Q E hr h=>?_;obtain⟨r,e,s,xs,rfl,hr1,hs,lx,k⟩:=h;refine⟨_,(aj (bx (i:=3) A0.nd (gX ja rfl T.mQ xQ (aa (pv 0) ah))) (aj (rf (pv 2) (uC (pv 3) (pv 1) m9)) (au (aO (pv 3))))),?_⟩;refine⟨_,rfl,r,_,rfl,.inl (bR.of hr1),λq hq=>?_⟩;refine⟨_,rfl,_,rfl,_,rfl,q,_,_,s,rfl,rfl,af,Ur hs,_,rfl,k q _ af (bV hq (ak hq _) (aN q _ _)) hq⟩
theorem Wo.swap{W:Addr->Prop}{H:Hp}{w ik rw q e:Addr}{aS:m7}{pq:ou}{rq:dM}{xs:List V}{s:Nat}{es:List Int}(wu:JI W H w ik rw ps vl aS pq rq)(hx:H rw=some (.lst xs))(hq:H q=some (.lst (xs.set s (.ref e))))(he:H e=some (.lst (es.map V.int)))(nq:¬ W q)(ne:¬ W e):JI (λa=>W a\/a=e\/a=q) H w ik rw ps vl aS pq rq/\OF (λa=>W a\/a=e\/a=q) ik ps H q (rq.set s es):=by
 have Vw:JI (λa=>W a\/a=e\/a=q) H w ik rw ps vl aS pq rq:=Bt.Vu wu (λa z=>.inl z) (by
  rintro a (z|z|z)
  ·exact wu.al a z
  ·rw[z];exact⟨_,he⟩
  ·rw[z];exact⟨_,hq⟩)
 obtain⟨_,_,_,vs,hvs,al⟩:=id Vw.hr;rw[hx]at hvs;cases hvs;have ne':∀ {a b:Addr},W a->¬ W b->b≠a:=λwa nb z=>nb (by rw[z];exact wa);refine⟨Vw,.inr (.inr rfl),ne' wu.wi nq,ne' wu.wp nq,_,hq,?_⟩
 have key:∀ {vs:List V} {rs:dM} (s:Nat),cj (Vt (λa=>W a\/a=e\/a=q) ik ps H) vs rs->cj (Vt (λa=>W a\/a=e\/a=q) ik ps H) (vs.set s (.ref e)) (rs.set s es):=by
  intro vs rs s z
  induction z generalizing s with
  | nil=>exact .nil
  | cons o t ih =>
   cases s with
   | zero=>exact .cons ⟨e,rfl,.inr (.inl rfl),ne' wu.wi ne,ne' wu.wp ne,he⟩ t
   | succ n=>exact .cons o (ih n)
 exact key s al
theorem qO:aJ ["_law_row","_law_numbers","_law_start","_law_stop"] ["_law_row"] (aA sP):=jd
theorem GJ{f:Addr}(F:iK K "_law_spell" "_law_spell" sP f fd)(T:nL mg):aC P w K mg base bZ 1 f fd ["_law_row"] (LL 1000000):=by
 refine lW F qO λdJ A outer s H vs Q E hr h=>?_;obtain⟨r,row,rfl,⟨as,hr1,hp⟩,GY,eN,hrl,k⟩:=h;refine⟨_,(aj (bx (i:=1) qO.nd (bQ ah)) (aj (gz PassesOwn.never rfl (cX (pv 0)) (tM (n:=2) rfl (cB (cE (i:=2) qO.nd) (cB (cE (i:=3) qO.nd) kY))) (au (bf (gV vE PySem.F.slot_list_extend PySem.F.type_list_extend oN (pv 1) (aa (gX (xC rfl) rfl T.mQ xQ (aa (gX HA rfl T.nM PyProof.Rows.boot_range (aa (pv 2) (aa (pv 3) ah))) ah)) ah))))) (au (aO (pv 1))))),?_⟩;refine⟨mj,λq hq=>?_⟩;have s0:aG H (aQ H q (.lst [])):=ak hq _;refine⟨_,rfl,r,rfl,⟨_,bR.of (s0 _ _ hr1)⟩,eS (K:=K) (a:=r) (xs:=as.map V.ref) (λi σ H2=>∃ (u v:Option V),σ=[some (.ref r),some (.ref q),u,v]/\H2 q=some (.lst ((bW (row.take i)).map V.int))/\aG H H2) ⟨none,none,rfl,af,s0⟩ (by rintro i σ H2 _ ⟨_,_,_,_,s⟩;exact bR.of (s _ _ hr1)) ?_ ?_⟩
 ·rintro i x σ H2 hi ⟨u,v,rfl,gy,s⟩;rw[j3]at hi;obtain⟨a,ea,rfl⟩:=Option.map_eq_some_iff.mp hi;obtain⟨⟨st,en⟩,ep,ha⟩:=hp.get ea;obtain⟨b1,b2,b3⟩:=GY _ (vn ep);simp only at b1 b2 b3;have step:=Kh ep
  have lz:(bW (row.take i)).length+(en-st).toNat<=1000000:=by
   have z:=DP row (i+1);rw[step,dX,oE,jN]at z;exact lS z eN
  refine⟨a,_,rfl,ef.of (s _ _ ha),rfl,_,_,rfl,_,_,rfl,rfl,?_⟩;refine⟨_,rfl,.inl ⟨rfl,_,bR.of gy⟩,_,rfl,_,rfl,_,_,rfl,λp hp=>⟨p,_,_,rfl,af,⟨by omega,by omega,by omega,by omega⟩,kX (aX (by omega)),λm hm=>?_⟩⟩;have s1:aG H2 (aQ H2 p (.GX st en)):=ak hp _;have s2:=s1.trans (ak hm (.lst (EJ st (en-st).toNat)));refine⟨q,m,_,_,rfl,rfl,s2 _ _ gy,af,?_,?_⟩
  ·rw[cS,Cq,cS,jN];exact kX (aX (by omega))
  ·refine⟨_,_,rfl,?_,bV hq (s.trans s2) (aN q _ _)⟩;rw[af,step,kT,Cq];rfl
 ·rintro σ H2 ⟨u,v,rfl,gy,s⟩;refine⟨_,rfl,k q H2 ?_ s hq⟩;rw[cS,hp.len,lR]at gy;exact gy
inductive uY(d:Nat)(vs:List V)(H:Hp)(Q:VK)(E:XK):Prop
 | mk (av:Addr->Prop) (r:Addr) (rows:dM) (x:Int) (sh:Int->List Int) (rk:Int->Nat) (_:vs=[.ref r,.int x]) (_:kC av H r rows) (_:rows.length<=1000) (_:jw rows) (_:0<=x) (_:x<rows.length) (_:qz rows sh) (_:(∀ x:Int,0<=x->x<rows.length->(sh x).length<=10000)) (_:(∀ x y,nJ rows x y->rk y<rk x)) (_:rk x<d) (_ :
 ∀ (o:Addr) (H':Hp),H' o=some (.lst ((sh x).map V.int))->aG H H'->H o=none->Q (.ref o) H')
theorem wc:aJ ["_law_rows","_law_sheet","_law_numbers","_law_entry"] ["_law_rows","_law_sheet"] (aA jo):=jd
theorem Eg{g:Addr}{n:Nat}(T:nL mg)(bN:aF K mg "_law_show" jo m8 g fd)(gG:aC P w K mg base bZ (n+1) g fd m8 (uY n)):aC P w K mg base bZ (n+2) g fd m8 (uY (n+1)):=by
 refine lW bN.F wc λdJ A outer s H vs Q E hr h=>?_;obtain⟨av,r,rows,x,sh,rk,rfl,R,eN,ux,x0,x1,AN,GY,Ac,hd,k⟩:=h;obtain⟨es,iy⟩:∃ es,rows[x.toNat]?=some es:=⟨_,oJ (by omega)⟩;obtain⟨Be,b,AV,F7,hb0,hrl⟩:=R.get iy
 have yY:wC Be x=some (.ref b):=by
  have z:=gH F7;rw[show ((x.toNat:Nat):Int)=x by omega]at z;exact z
 have ZS:=AN x es x0 iy
 have part:∀ i,(aU sh (es.take i)).length<=10000:=λi=>by
  have z:=GY x x0 x1
  have e:aU sh es=aU sh (es.take i)++aU sh (es.drop i):=by
   unfold aU;rw[← List.flatMap_append,List.take_append_drop]
  rw[ZS,e,dX]at z;omega
 refine⟨_,(aj (bx (i:=2) wc.nd (bQ ah)) (aj (gz PassesOwn.never rfl (cX (aV bP (pv 0) (pv 1))) (cE (i:=3) wc.nd) (au (bT (bh tZ (pv 3) ay (bz _)) (au (bf (gV vE PySem.F.slot_list_extend PySem.F.type_list_extend oN (pv 2) (aa (aK bN gG hr (aa (pv 0) (aa (bC dm (jF gS ay) (pv 3)) ah))) ah)))) (au (bf (gV vE qj qm cy (pv 2) (aa (pv 3) ah))))))) (au (aO (pv 2))))),?_⟩;refine⟨mj,λq hq=>?_⟩;have s0:aG H (aQ H q (.lst [])):=ak hq _;refine⟨_,rfl,_,rfl,r,_,_,_,rfl,rfl,bR.of (s0 _ _ AV),yY,b,rfl,⟨_,bR.of (s0 _ _ hb0)⟩,eS (K:=K) (a:=b) (xs:=es.map V.int) (λi σ H2=>∃ u:Option V,σ=[some (.ref r),some (.int x),some (.ref q),u]/\H2 q=some (.lst ((aU sh (es.take i)).map V.int))/\aG H H2) ⟨none,rfl,af,s0⟩ (by rintro i σ H2 _ ⟨_,_,_,s2⟩;exact bR.of (s2 _ _ hb0)) ?_ ?_⟩
 ·rintro i e σ H2 hi ⟨u,rfl,h2,s2⟩;rw[j3]at hi;obtain⟨e,ex,rfl⟩:=Option.map_eq_some_iff.mp hi
  have st:aU sh (es.take (i+1))=aU sh (es.take i)++aZ sh e:=by
   rw[take_snoc ex];unfold aU;rw[List.flatMap_append];simp
  have pl:=part (i+1);rw[st,dX]at pl;refine⟨_,rfl,_,_,rfl,rfl,_,rfl,dO (λc=>?_) (λc=>?_)⟩
  ·have c':e<0:=of_decide_eq_true c;have ee:aZ sh e=sh (-1-e):=by unfold aZ;rw[if_pos c']
   rw[ee]at st pl;have JF:nJ rows x (-1-e):=⟨x0,es,iy,b9.mpr ⟨by omega,by rw[show -1-(-1-e)=e by omega];exact vn ex⟩⟩;obtain⟨y0,y1⟩:=ux.FZ JF;have rky:=Ac _ _ JF;refine⟨_,rfl,.inl ⟨rfl,_,bR.of h2⟩,_,rfl,_,rfl,_,rfl,_,_,rfl,rfl,av,r,rows,-1-e,sh,rk,rfl,R.same s2,eN,ux,y0,y1,AN,GY,Ac,by omega,λo H3 h3 s3 ho=>?_⟩;refine⟨q,o,_,_,rfl,rfl,s3 _ _ h2,h3,kX (aX (by rw[cS,cS];omega)),?_⟩;refine⟨_,rfl,?_,bV hq (s2.trans s3) (aN q _ _)⟩;rw[af,st,kT]
  ·have c':¬ e<0:=λz=>c (decide_eq_true z);have ee:aZ sh e=[e]:=by unfold aZ;rw[if_neg c']
   rw[ee]at st pl;refine⟨_,rfl,.inl ⟨rfl,_,bR.of h2⟩,_,rfl,q,_,_,rfl,rfl,h2,(by rw[cS];exact aX (by omega)),?_⟩;refine⟨_,rfl,?_,bV hq s2 (aN q _ _)⟩;rw[af,st,kT];rfl
 ·rintro σ H2 ⟨u,rfl,h2,s2⟩;rw[cS,lR,← ZS]at h2;exact⟨_,rfl,k q H2 h2 s2 hq⟩
theorem mY{g:Addr}(T:nL mg)(bN:aF K mg "_law_show" jo m8 g fd):∀ n:Nat,aC P w K mg base bZ (n+1) g fd m8 (uY n)
 | 0=>by
  have no:∀ vs H Q E,¬ uY 0 vs H Q E:=λvs H Q E h=>by
   obtain⟨_,_,_,_,_,_,_,_,_,_,_,_,_,_,_,h,_⟩:=h;exact Nat.not_lt_zero _ h
  exact⟨λvs H Q E h=>absurd h (no vs H Q E),λA outer s H args us vs Q E _ _ _ _ h=>absurd h (no vs H Q E)⟩
 | n+1=>Eg T bN (mY T bN n)
def OG(rows:dM):Nat->Int->List Int
 | 0,_=>[]
 | k+1,x=>match rows[x.toNat]? with
  | some es=>aU (OG rows k) es
  | none=>[]
theorem we{f g:Int->List Int}{es:List Int}(h:∀ y∈dZ es,f y=g y):aU f es=aU g es:=by
 unfold aU;rw[List.flatMap_def,List.flatMap_def];congr 1;refine List.map_congr_left λe he=>?_;unfold aZ;by_cases c:e<0
 ·rw[if_pos c,if_pos c,h (-1-e) (b9.mpr ⟨by omega,by rw[show -1-(-1-e)=e by omega];exact he⟩)]
 ·rw[if_neg c,if_neg c]
theorem Dp{rows:dM}(h:DR rows):∃ sh,qz rows sh:=by
 obtain⟨rk,hb,hd⟩:=h
 have key:∀ (k:Nat) (x:Int),0<=x->rk x<k->OG rows k x=OG rows (k+1) x:=by
  intro k
  induction k with
  | zero=>intro x _ h;omega
  | succ k ih =>
   intro x x0 hx
   cases e:rows[x.toNat]? with
   | none=>simp[OG,e]
   | some es =>
    have e1:OG rows (k+1) x=aU (OG rows k) es:=by simp[OG,e]
    have e2:OG rows (k+1+1) x=aU (OG rows (k+1)) es:=by
     show (match rows[x.toNat]? with|some es=>aU (OG rows (k+1)) es|none=>[])=_;rw[e]
    rw[e1,e2];refine we λy hy=>ih y (b9.mp hy).1 ?_;have:=hd x y ⟨x0,es,e,hy⟩;omega
 refine⟨OG rows 41,λx es x0 he=>?_⟩;rw[key 41 x x0 (by have:=hb x;omega)];show (match rows[x.toNat]? with|some es=>aU (OG rows 41) es|none=>[])=_;rw[he]
def Dq(n:Nat)(L:List Int):Nat:=cnt n λi=>decide ((i:Int)∉L)
theorem Om{n:Nat}{L:List Int}{y:Int}(h0:0<=y)(h1:y<n)(hn:y∉L):Dq n (L++[y])+1=Dq n L:=by
 refine yS y.toNat n (by omega) ?_ λi=>?_
 ·show decide (((y.toNat:Nat):Int)∉L)=true;rw[show ((y.toNat:Nat):Int)=y by omega];exact decide_eq_true hn
 ·show decide ((i:Int)∉L++[y])=(decide ((i:Int)∉L)&&decide (i≠y.toNat));rw[← Bool.decide_and];congr 1;rw[List.mem_append,List.mem_singleton];apply propext;constructor
  ·intro h;exact⟨λq=>h (.inl q),λq=>h (.inr (by omega))⟩
  ·rintro⟨a,b⟩ (q|q)
   ·exact a q
   ·exact b (by omega)
theorem GK(a b:List Int):dZ (a++b)=dZ a++dZ b:=by unfold dZ;rw[List.filterMap_append]
structure Dfs(rows:dM)(H:Hp)(Rr Wt:Addr)(s:Int)(aav:Int->Prop)(H2:Hp)(L ws:List Int):Prop where
 hR:H2 Rr=some (.lst (L.map V.int))
 hW:H2 Wt=some (.lst (ws.map V.int))
 sm:aG H H2
 rc:∀ x∈L,Reach (nJ rows) s x
 wr:∀ x∈ws,(x=s\/x∈L)/\0<=x/\x<rows.length
 kl:L.length+Dq rows.length L<=rows.length
 cl:∀ x,(x=s\/x∈L)->x∈ws\/aav x\/∀ y,nJ rows x y->y∈L
inductive Fq(vs:List V)(H:Hp)(Q:VK)(E:XK):Prop
 | mk (av:Addr->Prop) (r:Addr) (rows:dM) (s:Int) (_:vs=[.ref r,.int s]) (_:kC av H r rows) (_:rows.length<=1000) (_:(∀ es∈rows,es.length<=100000)) (_:jw rows) (_:0<=s) (_:s<rows.length) (_ :
 ∀ (L:List Int) (o:Addr) (H':Hp),H' o=some (.lst (L.map V.int))->aG H H'->(∀ x,x∈L↔Reach (nJ rows) s x)->Q (.ref o) H')
theorem kM:aJ ["_law_rows","_law_sheet","_law_reached_here","_law_waiting","_law_here","_law_entry"] ["_law_rows","_law_sheet"] (aA pC):=jd
def muR(n:Nat)(L ws:List Int):Nat:=2*Dq n L+ws.length
def Vx(rows:dM)(H:Hp)(r Rr Wt:Addr)(s:Int)(m:Nat)(σ:L2.St)(H2:Hp):Prop:=∃ (L ws:List Int) (u v:Option V),σ=[some (.ref r),some (.int s),some (.ref Rr),some (.ref Wt),u,v]/\Dfs rows H Rr Wt s (λ_=>False) H2 L ws/\ws.length+2*Dq rows.length L<=2*rows.length+1/\m=muR rows.length L ws
theorem Dr{f:Addr}(F:iK K "_law_reached" "_law_reached" pC f fd)(T:nL mg):aC P w K mg base bZ 1 f fd m8 Fq:=by
 refine lW F kM λdJ A outer s0 H vs Q E hr h=>?_;obtain⟨av,r,rows,s,rfl,hRw,eN,hes,ux,h0,h1,k⟩:=h;have hu:=lO hr;refine⟨_,(aj (bx (i:=2) kM.nd (bQ ah)) (aj (bx (i:=3) kM.nd (bQ (aa (pv 1) ah))) (aj (B3 PassesOwn.never (bh Hh (jy T.je (pv 3)) ay (bz _)) (aj (bx (i:=4) kM.nd (Pg vE PySem.F.slot_list_pop PySem.F.type_list_pop Pk (pv 3))) (au (gz PassesOwn.never rfl (cX (aV bP (pv 0) (pv 4))) (cE (i:=5) kM.nd) (au (bT (PW.pt (vI (bh tZ (pv 5) ay (bz _)) (uB (bh FF (bC dm (jF gS ay) (pv 5)) (pv 2) rfl)))) (aj (bf (gV vE qj qm cy (pv 2) (aa (bC dm (jF gS ay) (pv 5)) ah))) (au (bf (gV vE qj qm cy (pv 3) (aa (bC dm (jF gS ay) (pv 5)) ah))))) bu)))))) (au (aO (pv 2)))))),?_⟩;refine⟨mj,λRr hRr=>?_⟩;refine⟨_,rfl,lX,λWt hWt=>?_⟩;have s1:aG H (aQ H Rr (.lst [])):=ak hRr _;have s2:=s1.trans (ak hWt (.lst [.int s]))
 have TY:H Wt=none:=by
  cases e:H Wt with
  | none=>rfl
  | some o=>exact absurd ((s1 _ _ e).symm.trans hWt) (by simp)
 have nRW:Rr≠Wt:=az af hWt;refine⟨Vx rows H r Rr Wt s,⟨_,[],[s],none,none,rfl,⟨ak hWt _ _ _ af,af,s2,?_,?_,?_,?_⟩,?_,rfl⟩,?_⟩
 ·intro x hx;cases hx
 ·intro x hx;have:x=s:=by simpa using hx
  exact⟨.inl this,by omega,by omega⟩
 ·have:=CC rows.length (λi=>decide ((i:Int)∉([]:List Int)));show 0+cnt rows.length _<=_;omega
 ·rintro x (rfl|hx)
  ·exact .inl (by simp)
  ·cases hx
 ·have:=CC rows.length (λi=>decide ((i:Int)∉([]:List Int)));show 1+2*cnt rows.length _<=_;omega
 rintro m σ H2 ⟨L,ws,u,v,rfl,B,hml,rfl⟩;refine⟨_,rfl,Wt,_,rfl,.inl (bR.of B.hW),_,_,rfl,rfl,_,rfl,?_⟩;rcases uz ws with rfl|⟨Yt,h,rfl⟩
 ·refine iI ⟨_,rfl,k L Rr H2 B.hR B.sm λx=>⟨λhx=>B.rc x hx,λhx=>?_⟩⟩
  have base:∀ x,(x=s\/x∈L)->∀ y,nJ rows x y->y∈L:=λx hx=>by
   rcases B.cl x hx with z|z|z
   ·cases z
   ·exact z.elim
   ·exact z
  exact Reach.closed (S:=λy=>y∈L) (base s (.inl rfl)) (λx y hx=>base x (.inr hx) y) hx
 rw[sG]at B hml ⊢;refine dO (λ_=>?_) (λz=>absurd (decide_eq_true (by simp)) z);obtain⟨hR2,ZM,sm2,rc2,wr2,kl2,cl2⟩:=id B;obtain⟨hh,e0,e1⟩:=wr2 h (by simp);obtain⟨es,iy⟩:∃ es,rows[h.toNat]?=some es:=⟨_,oJ (by omega)⟩;have Xe:=hes es (vn iy);refine⟨fun σ' H'=>∃ m',m'<muR rows.length L (Yt++[h])/\Vx rows H r Rr Wt s m' σ' H',fun σ' H' z=>z,?_⟩;refine⟨_,rfl,.inl ⟨rfl,_,bR.of ZM⟩,Wt,_,.int h,rfl,rfl,ZM,(by simp),?_⟩;have ee:((Yt++[h]).map V.int).dropLast=Yt.map V.int:=by simp
 rw[ee];have QA:aG H (aQ H2 Wt (.lst (Yt.map V.int))):=bV TY sm2 (aN Wt _ _);obtain⟨Be,b,AV,F7,hb0,hrl⟩:=hRw.get iy;have hb3:=QA _ _ hb0;refine⟨_,rfl,_,rfl,r,_,_,_,rfl,rfl,bR.of (QA _ _ AV),?_,b,rfl,⟨_,bR.of hb3⟩,eS (K:=K) (a:=b) (xs:=es.map V.int) (λi σ H5=>∃ (L2 Us:List Int) (v:Option V),σ=[some (.ref r),some (.int s),some (.ref Rr),some (.ref Wt),some (.int h),v]/\ Dfs rows H Rr Wt s (λx=>x=h) H5 L2 Us/\(∀ y∈dZ (es.take i),y∈L2)/\(∀ y∈L,y∈L2)/\Us.length+2*Dq rows.length L2<=Yt.length+2*Dq rows.length L) ?_ ?_ ?_ ?_⟩
 ·have z:=gH F7;rw[show ((h.toNat:Nat):Int)=h by omega]at z;exact z
 ·refine⟨L,Yt,_,rfl,⟨(by rw[aL nRW];exact hR2),af,QA,rc2,λx hx=>wr2 x (xR _ hx),kl2,λx hx=>?_⟩,(λy hy=>by simp[dZ]at hy),λ_ q=>q,jz _⟩;rcases cl2 x hx with z|z|z
  ·rcases List.mem_append.mp z with q|q
   ·exact .inl q
   ·exact .inr (.inl (by simpa using q))
  ·exact z.elim
  ·exact .inr (.inr z)
 ·rintro i σ H5 _ ⟨_,_,_,_,B5,_⟩;exact bR.of (B5.sm _ _ hb0)
 ·rintro i x σ H5 hi ⟨L2,Us,v,rfl,B5,Ft,hsub,Yg⟩;rw[j3]at hi;obtain⟨x,ex,rfl⟩:=Option.map_eq_some_iff.mp hi;have step:dZ (es.take (i+1))=dZ (es.take i)++dZ [x]:=by rw[take_snoc ex,GK]
  refine⟨_,rfl,_,_,rfl,rfl,_,rfl,dO (λc=>?_) (λc=>iI ?_)⟩
  ·have c':x<0:=of_decide_eq_true c;have wx:dZ [x]=[-1-x]:=by simp[dZ,c']
   have JF:nJ rows h (-1-x):=⟨e0,es,iy,by
    rw[b9]
    exact⟨by omega,by rw[show -1-(-1-x)=x by omega];exact vn ex⟩⟩
   obtain⟨y0,y1⟩:=ux.FZ JF;refine⟨_,rfl,_,rfl,_,_,rfl,rfl,_,rfl,Rr,_,rfl,.inl (bR.of B5.hR),rfl,EX L2,_,rfl,?_⟩;rw[LY];by_cases hm:-1-x∈L2
   ·rw[decide_eq_true hm];refine iI ?_;refine⟨L2,Us,_,rfl,B5,(λy hy=>?_),hsub,Yg⟩;rw[step,wx]at hy;rcases List.mem_append.mp hy with q|q
    ·exact Ft y q
    ·have:y=-1-x:=by simpa using q
     rw[this];exact hm
   ·rw[decide_eq_false hm];refine j9 ?_;have ZK:=B5.kl;have mp:=Om y0 y1 hm;refine⟨_,rfl,.inl ⟨rfl,_,bR.of B5.hR⟩,_,rfl,_,rfl,_,_,rfl,rfl,Rr,_,_,rfl,rfl,B5.hR,(by rw[cS];exact aX (by omega)),?_⟩;have RZ:(aQ H5 Rr (.lst (L2.map V.int++[.int (-1-x)]))) Wt=some (.lst (Us.map V.int)):=by rw[aL nRW.symm];exact B5.hW
    refine⟨_,rfl,.inl ⟨rfl,_,bR.of RZ⟩,_,rfl,_,rfl,_,_,rfl,rfl,Wt,_,_,rfl,rfl,RZ,(by rw[cS];rw[dX,vF]at hml;exact aX (by omega)),?_⟩;refine⟨L2++[-1-x],Us++[-1-x],_,rfl,⟨?_,?_,bV TY (bV hRr B5.sm (aN Rr _ _)) (aN Wt _ _),?_,?_,?_,?_⟩,?_,λy q=>xR _ (hsub y q),?_⟩
    ·rw[aL nRW,af,kT];rfl
    ·rw[af,kT];rfl
    ·intro y hy;rcases List.mem_append.mp hy with q|q
     ·exact B5.rc y q
     ·have:y=-1-x:=by simpa using q
      subst this;rcases hh with rfl|hh
      ·exact .one JF
      ·exact .step (B.rc h hh) JF
    ·intro y hy;rcases List.mem_append.mp hy with q|q
     ·obtain⟨q1,q2⟩:=B5.wr y q;exact⟨q1.imp id (xR _),q2⟩
     ·have:y=-1-x:=by simpa using q
      subst this;exact⟨.inr (by simp),y0,y1⟩
    ·rw[dX,vF];omega
    ·intro y hy;by_cases e:y=-1-x
     ·exact .inl (by rw[e];simp)
     ·have hy':y=s\/y∈L2:=hy.imp id λq=>by
       rcases List.mem_append.mp q with z|z
       ·exact z
       ·exact absurd (by simpa using z) e
      rcases B5.cl y hy' with q|q|q
      ·exact .inl (xR _ q)
      ·exact .inr (.inl q)
      ·exact .inr (.inr λz hz=>xR _ (q z hz))
    ·intro y hy;rw[step,wx]at hy;rcases List.mem_append.mp hy with q|q
     ·exact xR _ (Ft y q)
     ·exact uy _ q
    ·rw[dX,vF];omega
  ·have c':¬ x<0:=λz=>c (decide_eq_true z);have wx:dZ [x]=[]:=by simp[dZ,c']
   exact⟨L2,Us,_,rfl,B5,(by rw[step,wx,kW];exact Ft),hsub,Yg⟩
 ·rintro σ H5 ⟨L2,Us,v,rfl,B5,Ft,hsub,Yg⟩;rw[cS,lR]at Ft;refine⟨_,?_,L2,Us,_,_,rfl,⟨B5.hR,B5.hW,B5.sm,B5.rc,B5.wr,B5.kl,λx hx=>?_⟩,?_,rfl⟩
  ·unfold muR;rw[dX,vF];omega
  ·rcases B5.cl x hx with q|rfl|q
   ·exact .inl q
   ·refine .inr (.inr λy hy=>Ft y ?_);obtain⟨_,xq,LP,hy'⟩:=hy;rw[iy]at LP;cases LP;exact hy'
   ·exact .inr (.inr q)
  ·rw[dX,vF]at hml;omega
theorem uZ(sh:Int->List Int)(es:List Int)(i:Nat):(aU sh (es.take i)).length<=(aU sh es).length:=lH (aZ sh) es i
inductive AD(d:Nat)(vs:List V)(H:Hp)(Q:VK)(E:XK):Prop
 | mk (av:Addr->Prop) (r:Addr) (rows:dM) (e:Int) (sh:Int->List Int) (rk:Int->Nat) (_:vs=[.ref r,.int e]) (_:kC av H r rows) (_:rows.length<=1000) (_:jw rows) (_:qz rows sh) (_:(∀ x:Int,0<=x->x<rows.length->(sh x).length<=10000)) (_:(∀ x y,nJ rows x y->rk y<rk x)) (_:(e<0->-1-e<rows.length/\rk (-1-e)<d)) (_ :
 ∀ (o:Addr) (H':Hp),H' o=some (.lst ((aZ sh e).map V.int))->aG H H'->H o=none->Q (.ref o) H')
theorem Eh:aJ ["_law_rows","_law_entry"] ["_law_rows","_law_entry"] (aA lE):=jd
theorem xM{f g:Addr}{d:Nat}(F:iK K "_law_pieces" "_law_pieces" lE f fd)(T:nL mg)(bN:aF K mg "_law_show" jo m8 g gd):aC P w K mg base bZ (d+2) f fd MU (AD d):=by
 have gG:aC P w K mg base bZ (d+1) _ _ m8 (uY d):=mY T bN d;refine lW F Eh λdJ A outer s H vs Q E hr h=>?_;obtain⟨av,r,rows,e,sh,rk,rfl,R,eN,ux,AN,GY,Ac,hd,k⟩:=h;refine⟨_,(aj (bT (bh tZ (pv 1) ay (bz _)) (au (aO (aK bN gG hr (aa (pv 0) (aa (bC dm (jF gS ay) (pv 1)) ah))))) bu) (au (aO (bQ (aa (pv 1) ah))))),?_⟩;refine⟨_,rfl,_,_,rfl,rfl,_,rfl,dO (λc=>?_) (λc=>?_)⟩
 ·have c':e<0:=of_decide_eq_true c;obtain⟨d1,d2⟩:=hd c';refine⟨_,rfl,_,rfl,_,rfl,_,_,rfl,rfl,av,r,rows,-1-e,sh,rk,rfl,R,eN,ux,by omega,d1,AN,GY,Ac,d2,λo H' h s ho=>k o H' ?_ s ho⟩;unfold aZ;rw[if_pos c'];exact h
 ·have c':¬ e<0:=λz=>c (decide_eq_true z);refine⟨_,rfl,lX,λo ho=>k o _ ?_ (ak ho _) ho⟩;unfold aZ;rw[if_neg c',af];rfl
theorem GL(sh:Int->List Int)(p:Int):∀ (es:List Int) (f:Int),(aE sh p f es).length<=es.length+(aU sh es).length
 | [],_=>by simp[aE]
 | e::r,f=>by
  rw[aE,ck,dX,dX,qC];have a:=GL sh p r (f+(aZ sh e).length)
  have b:(if f+(aZ sh e).length<=p then [e] else if p<=f then [] else (aZ sh e).take (p-f).toNat).length<=1+(aZ sh e).length:=by
   split
   ·simp
   ·split
    ·simp
    ·rw[jK];omega
  omega
theorem GN(sh:Int->List Int)(p:Int):∀ (es:List Int) (f:Int),(bE sh p f es).length<=es.length+(aU sh es).length
 | [],_=>by simp[bE]
 | e::r,f=>by
  rw[bE,ck,dX,dX,qC];have a:=GN sh p r (f+(aZ sh e).length)
  have b:(if f+(aZ sh e).length<=p then [] else if p<=f then [e] else (aZ sh e).drop (p-f).toNat).length<=1+(aZ sh e).length:=by
   split
   ·simp
   ·split
    ·simp
    ·rw[vq];omega
  omega
inductive K9(d:Nat)(vs:List V)(H:Hp)(Q:VK)(E:XK):Prop
 | mk (av:Addr->Prop) (r n:Addr) (rows:dM) (s p:Int) (new:List Int) (sh:Int->List Int) (rk:Int->Nat) (_:vs=[.ref r,.int s,.int p,.ref n]) (_:kC av H r rows) (_:rows.length<=1000) (_:(∀ es∈rows,es.length<=25000)) (_:jw rows) (_:qz rows sh) (_:(∀ x:Int,0<=x->x<rows.length->(sh x).length<=10000)) (_:(∀ x y,nJ rows x y->rk y<rk x)) (_:0<=s) (_:s<rows.length) (_:rk s<=d) (_:H n=some (.lst (new.map V.int))) (_:new.length<=25000) (_ :
 ∀ (es:List Int) (o:Addr) (H':Hp),rows[s.toNat]?=some es->H' o=some (.lst ((iU sh p es new).map V.int))->(iU sh p es new).length<=100000->aG H H'->H o=none->Q (.ref o) H')
theorem kO:aJ ["_law_rows","_law_sheet","_law_place","_law_new","_law_ahead","_law_behind","_law_first","_law_entry","_law_pieces_here","_law_last"] ["_law_rows","_law_sheet","_law_place","_law_new"] (aA wD):=jd
theorem La{f g h':Addr}{d:Nat}(F:iK K "_law_put" "_law_put" wD f fd)(T:nL mg)(bN:aF K mg "_law_show" jo m8 g gd)(gR:aF K mg "_law_pieces" lE MU h' VW):aC P w K mg base bZ (d+3) f fd VI (K9 d):=by
 have u7:aC P w K mg base bZ (d+2) _ _ MU (AD d):=xM gR.F T bN;refine lW F kO λdJ A outer s0 H vs Q E hr h=>?_;obtain⟨av,r,n,rows,s,p,new,sh,rk,rfl,R,eN,hes,ux,AN,GY,Ac,h0,h1,hd,hn,nl,k⟩:=h;obtain⟨es,iy⟩:∃ es,rows[s.toNat]?=some es:=⟨_,oJ (by omega)⟩;have esl:=hes es (vn iy);have shs:=AN s es h0 iy;have shl:=GY s h0 h1;rw[shs]at shl;obtain⟨Be,b,AV,F7,hb0,hrl⟩:=R.get iy
 have yY:wC Be s=some (.ref b):=by
  have z:=gH F7;rw[show ((s.toNat:Nat):Int)=s by omega]at z;exact z
 refine⟨_,(aj (bT (bh gU (jy T.je (pv 3)) ay (bz _)) (au (aO (gX ja rfl T.mQ xQ (aa (aV bP (pv 0) (pv 1)) ah)))) bu) (aj (bx (i:=4) kO.nd (bQ ah)) (aj (bx (i:=5) kO.nd (bQ ah)) (aj (bx (i:=6) kO.nd ay) (aj (gz PassesOwn.never rfl (cX (aV bP (pv 0) (pv 1))) (cE (i:=7) kO.nd) (aj (bx (i:=8) kO.nd (aK gR u7 hr (aa (pv 0) (aa (pv 7) ah)))) (aj (bx (i:=9) kO.nd (bC gj (pv 6) (jy T.je (pv 8)))) (aj (bT (bh jG (pv 9) (pv 2) (bz _)) (au (bf (gV vE qj qm cy (pv 4) (aa (pv 7) ah)))) (au (bT (bh jG (pv 2) (pv 6) (bz _)) (au (bf (gV vE qj qm cy (pv 5) (aa (pv 7) ah)))) (aj (bf (gV vE PySem.F.slot_list_extend PySem.F.type_list_extend oN (pv 4) (aa (j7 qF (pv 8) qE (lu (bC dm (pv 2) (pv 6)))) ah))) (au (bf (gV vE PySem.F.slot_list_extend PySem.F.type_list_extend oN (pv 5) (aa (j7 qF (pv 8) (lu (bC dm (pv 2) (pv 6))) qE) ah)))))))) (au (bx (i:=6) kO.nd (pv 9))))))) (au (aO (bC ng (bC ng (pv 4) (pv 3)) (pv 5))))))))),?_⟩;refine⟨_,rfl,n,_,rfl,.inl (bR.of hn),rfl,_,rfl,dO (λc=>?_) (λc=>?_)⟩
 ·have c':new=[]:=by
   have z:V.int ((new.map V.int).length:Int)=V.int 0:=of_decide_eq_true c;have z2:=V.int.inj z;rw[cS]at z2;exact List.eq_nil_of_length_eq_zero (by omega)
  refine⟨_,rfl,_,rfl,r,_,_,_,rfl,rfl,bR.of AV,yY,b,_,rfl,.inl (bR.of hb0),λo ho=>k es o _ iy ?_ ?_ (ak ho _) ho⟩
  ·rw[af];unfold iU;rw[if_pos c']
  ·unfold iU;rw[if_pos c'];omega
 have c':¬ new=[]:=λz=>c (by rw[z];rfl);refine⟨mj,λA hA=>⟨mj,λB hB=>?_⟩⟩;have sA:aG H (aQ H A (.lst [])):=ak hA _;have sB:aG _ (aQ (aQ H A (.lst [])) B (.lst [])):=ak hB _;have s1:=sA.trans sB;have DC:A≠B:=az af hB;have OB:=aY sA hB;refine⟨_,rfl,_,rfl,r,_,_,_,rfl,rfl,bR.of (s1 _ _ AV),yY,b,rfl,⟨_,bR.of (s1 _ _ hb0)⟩,eS (K:=K) (a:=b) (xs:=es.map V.int) (λi σ H2=>∃ u1 u2 u3:Option V,σ=[some (.ref r),some (.int s),some (.int p),some (.ref n),some (.ref A),some (.ref B),some (.int (0+((aU sh (es.take i)).length:Int))),u1,u2,u3]/\H2 A=some (.lst ((aE sh p 0 (es.take i)).map V.int))/\H2 B=some (.lst ((bE sh p 0 (es.take i)).map V.int))/\aG H H2) ⟨none,none,none,rfl,sB _ _ af,af,s1⟩ (by rintro i σ H2 _ ⟨_,_,_,_,_,_,s2⟩;exact bR.of (s2 _ _ hb0)) ?_ ?_⟩
 ·rintro i x σ H2 hi ⟨u1,u2,u3,rfl,Rq,hB2,s2⟩;rw[j3]at hi;obtain⟨e,ex,rfl⟩:=Option.map_eq_some_iff.mp hi;have st:=take_snoc ex
  have eA:aE sh p 0 (es.take (i+1))=aE sh p 0 (es.take i)++(if 0+((aU sh (es.take i)).length:Int)+(aZ sh e).length<=p then [e] else if p<=0+((aU sh (es.take i)).length:Int) then [] else (aZ sh e).take (p-(0+((aU sh (es.take i)).length:Int))).toNat):=by
   rw[st,Ag,aE,aE,kW]
  have eB:bE sh p 0 (es.take (i+1))=bE sh p 0 (es.take i)++(if 0+((aU sh (es.take i)).length:Int)+(aZ sh e).length<=p then [] else if p<=0+((aU sh (es.take i)).length:Int) then [e] else (aZ sh e).drop (p-(0+((aU sh (es.take i)).length:Int))).toNat):=by
   rw[st,Ah,bE,bE,kW]
  have eF:(0+((aU sh (es.take (i+1))).length:Int))=0+((aU sh (es.take i)).length:Int)+(aZ sh e).length:=by
   rw[st,nR,ck,dX,dX];simp[aU]
  have lA:=GL sh p (es.take (i+1)) 0;have lB:=GN sh p (es.take (i+1)) 0;have lA0:=GL sh p (es.take i) 0;have lB0:=GN sh p (es.take i) 0;have l1:=uZ sh es (i+1);have l0:=uZ sh es i;have t1:(es.take (i+1)).length<=es.length:=by rw[jK];omega
  have t0:(es.take i).length<=es.length:=by rw[jK];omega
  refine⟨_,rfl,_,rfl,av,r,rows,e,sh,rk,rfl,R.same s2,eN,ux,AN,GY,Ac,λad3=>?_,λo H3 h3 s3 ho=>?_⟩
  ·have nx:nJ rows s (-1-e):=⟨h0,es,iy,b9.mpr ⟨by omega,by rw[show -1-(-1-e)=e by omega];exact vn ex⟩⟩;have:=Ac _ _ nx;exact⟨(ux.FZ nx).2,by omega⟩
  have JJ:=s3 _ _ Rq;have Ut:=s3 _ _ hB2;refine⟨_,rfl,_,rfl,o,_,rfl,.inl (bR.of h3),_,_,rfl,rfl,?_⟩;rw[cS];refine⟨_,rfl,_,rfl,_,_,rfl,rfl,_,rfl,dO (λc1=>?_) (λc1=>?_)⟩
  ·have Vy:0+((aU sh (es.take i)).length:Int)+((aZ sh e).length:Int)<=p:=of_decide_eq_true c1;rw[if_pos Vy]at eA eB;refine⟨_,rfl,.inl ⟨rfl,_,bR.of JJ⟩,_,rfl,A,_,_,rfl,rfl,JJ,aX (by rw[cS];omega),?_⟩;refine⟨_,rfl,some (.int e),some (.ref o),some (.int (0+((aU sh (es.take i)).length:Int)+((aZ sh e).length:Int))),?_,?_,?_,bV hA (s2.trans s3) (aN A _ _)⟩
   ·rw[eF];rfl
   ·rw[af,eA,kT];rfl
   ·rw[aL DC.symm,eB,kW];exact Ut
  ·have Vy:¬ 0+((aU sh (es.take i)).length:Int)+((aZ sh e).length:Int)<=p:=λz=>c1 (decide_eq_true z);rw[if_neg Vy]at eA eB;refine⟨_,rfl,_,rfl,_,_,rfl,rfl,_,rfl,dO (λc2=>?_) (λc2=>?_)⟩
   ·have Oa:p<=0+((aU sh (es.take i)).length:Int):=of_decide_eq_true c2;rw[if_pos Oa]at eA eB;refine⟨_,rfl,.inl ⟨rfl,_,bR.of Ut⟩,_,rfl,B,_,_,rfl,rfl,Ut,aX (by rw[cS];omega),?_⟩;refine⟨_,rfl,some (.int e),some (.ref o),some (.int (0+((aU sh (es.take i)).length:Int)+((aZ sh e).length:Int))),?_,?_,?_,bV OB (s2.trans s3) (aN B _ _)⟩
    ·rw[eF];rfl
    ·rw[aL DC,eA,kW];exact JJ
    ·rw[af,eB,kT];rfl
   ·have Oa:¬ p<=0+((aU sh (es.take i)).length:Int):=λz=>c2 (decide_eq_true z);rw[if_neg Oa]at eA eB;rw[eA,dX]at lA;rw[eB,dX]at lB;refine⟨_,rfl,.inl ⟨rfl,_,bR.of JJ⟩,_,rfl,_,rfl,_,rfl,_,_,rfl,rfl,_,rfl,o,_,rfl,bR.of h3,λq1 T9=>?_⟩;have n1:aG H3 (aQ H3 q1 (.lst (pT ((aZ sh e).map V.int) none (some (p-(0+((aU sh (es.take i)).length:Int))))))):=ak T9 _;have e1:pT ((aZ sh e).map V.int) none (some (p-(0+((aU sh (es.take i)).length:Int))))=((aZ sh e).take (p-(0+((aU sh (es.take i)).length:Int))).toNat).map V.int:=by rw[yj _ (by omega),List.map_take]
    refine⟨A,q1,_,_,rfl,rfl,n1 _ _ JJ,af,kX (aX (by rw[e1,cS,cS];omega)),?_⟩;have k4:cY A H3 (aQ (aQ H3 q1 (.lst (pT ((aZ sh e).map V.int) none (some (p-(0+((aU sh (es.take i)).length:Int))))))) A (.lst ((aE sh p 0 (es.take i)).map V.int++pT ((aZ sh e).map V.int) none (some (p-(0+((aU sh (es.take i)).length:Int))))))):=cY.trans (aG.keep n1) (aN A _ _);have no:o≠A:=(az Rq ho).symm;have nqA:q1≠A:=(az JJ T9).symm;have hB4:=k4 _ _ Ut DC.symm;refine⟨_,rfl,.inl ⟨rfl,_,bR.of hB4⟩,_,rfl,_,rfl,_,rfl,_,_,rfl,rfl,_,rfl,o,_,rfl,bR.of (k4 _ _ h3 no),λq2 gy=>?_⟩;have e2:pT ((aZ sh e).map V.int) (some (p-(0+((aU sh (es.take i)).length:Int)))) none=((aZ sh e).drop (p-(0+((aU sh (es.take i)).length:Int))).toNat).map V.int:=by rw[Al _ (by omega),List.map_drop]
    refine⟨B,q2,_,_,rfl,rfl,ak gy _ _ _ hB4,af,kX (aX (by rw[e2,cS,cS];omega)),?_⟩;refine⟨_,rfl,some (.int e),some (.ref o),some (.int (0+((aU sh (es.take i)).length:Int)+((aZ sh e).length:Int))),?_,?_,?_,?_⟩
    ·rw[eF];rfl
    ·rw[aL DC,ak gy _ _ _ af,eA,kT,e1]
    ·rw[af,eB,kT,e2]
    ·exact bV OB ((bV hA (s2.trans s3) k4).trans (ak gy _)) (aN B _ _)
 ·rintro σ H2 ⟨u1,u2,u3,rfl,Rq,hB2,s2⟩;rw[cS,lR]at Rq hB2;have lA:=GL sh p es 0;have lB:=GN sh p es 0;refine⟨_,rfl,_,rfl,A,n,_,_,rfl,rfl,Rq,s2 _ _ hn,kX (aX (by rw[cS,cS];omega)),λc1 Yd=>?_⟩;have n1:aG H2 (aQ H2 c1 (.lst ((aE sh p 0 es).map V.int++new.map V.int))):=ak Yd _;refine⟨_,rfl,c1,B,_,_,rfl,rfl,af,n1 _ _ hB2,kX (aX (by rw[dX,cS,cS,cS];omega)),λc2 Xm=>?_⟩;refine k es c2 _ iy ?_ ?_ (s2.trans (n1.trans (ak Xm _))) (aY (s2.trans n1) Xm)
  ·rw[af];unfold iU;rw[if_neg c',kT,kT]
  ·unfold iU;rw[if_neg c',dX,dX];omega
def Sj(sh:Int->List Int)(a b f e:Int):List Int:=if a=b then [e] else Ml sh a b f e
def Sk(sh:Int->List Int)(a b f e:Int):List Int:=if a=b then [] else OD sh a b f e
theorem Jd(sh:Int->List Int)(a b:Int)(es:List Int)(e:Int):bX sh a b (es++[e])=bX sh a b es++Sj sh a b (0+((aU sh es).length:Int)) e:=by
 unfold bX Sj;split
 ·rfl
 ·rw[Ai,kE,kE,kW]
theorem Je(sh:Int->List Int)(a b:Int)(es:List Int)(e:Int):kF sh a b (es++[e])=kF sh a b es++Sk sh a b (0+((aU sh es).length:Int)) e:=by
 unfold kF Sk;split
 ·rfl
 ·rw[Aj,tE,tE,kW]
theorem Uu(sh:Int->List Int)(a b f e:Int):(Sj sh a b f e).length<=1+2*(aZ sh e).length:=by
 unfold Sj Ml;split
 ·simp
 ·split
  ·simp
  ·split
   ·simp
   ·rw[dX,jK,vq];omega
theorem Uv(sh:Int->List Int)(a b f e:Int):(Sk sh a b f e).length<=1+2*(aZ sh e).length:=by
 unfold Sk OD;split
 ·simp
 ·split
  ·simp
  ·split
   ·simp
   ·rw[vq,jK];omega
theorem Rt(sh:Int->List Int)(a b:Int):∀ (es:List Int) (f:Int),(kE sh a b f es).length<=es.length+2*(aU sh es).length
 | [],_=>by simp[kE]
 | e::r,f=>by
  rw[kE,ck,dX,dX,qC];have x:=Rt sh a b r (f+(aZ sh e).length)
  have y:(Ml sh a b f e).length<=1+2*(aZ sh e).length:=by
   unfold Ml;split
   ·simp
   ·split
    ·simp
    ·rw[dX,jK,vq];omega
  omega
theorem Ru(sh:Int->List Int)(a b:Int):∀ (es:List Int) (f:Int),(tE sh a b f es).length<=es.length+2*(aU sh es).length
 | [],_=>by simp[tE]
 | e::r,f=>by
  rw[tE,ck,dX,dX,qC];have x:=Ru sh a b r (f+(aZ sh e).length)
  have y:(OD sh a b f e).length<=1+2*(aZ sh e).length:=by
   unfold OD;split
   ·simp
   ·split
    ·simp
    ·rw[vq,jK];omega
  omega
theorem yr(sh:Int->List Int)(a b:Int)(es:List Int):(bX sh a b es).length<=es.length+2*(aU sh es).length:=by
 unfold bX;split
 ·omega
 ·exact Rt sh a b es 0
theorem Ds(sh:Int->List Int)(a b:Int)(es:List Int):(kF sh a b es).length<=es.length+2*(aU sh es).length:=by
 unfold kF;split
 ·simp
 ·exact Ru sh a b es 0
inductive Rv(d:Nat)(vs:List V)(H:Hp)(Q:VK)(E:XK):Prop
 | mk (av:Addr->Prop) (r:Addr) (rows:dM) (s a b:Int) (sh:Int->List Int) (rk:Int->Nat) (_:vs=[.ref r,.int s,.int a,.int b]) (_:kC av H r rows) (_:rows.length<=1000) (_:(∀ es∈rows,es.length<=1000)) (_:jw rows) (_:qz rows sh) (_:(∀ x:Int,0<=x->x<rows.length->(sh x).length<=10000)) (_:(∀ x y,nJ rows x y->rk y<rk x)) (_:0<=s) (_:s<rows.length) (_:rk s<=d) (_:a<=b) (_ :
 ∀ (es:List Int) (t L M:Addr) (H':Hp),rows[s.toNat]?=some es->H' t=some (.tup [.ref L,.ref M])->H' L=some (.lst ((bX sh a b es).map V.int))->H' M=some (.lst ((kF sh a b es).map V.int))->aG H H'->H L=none->H M=none->L≠M->Q (.ref t) H')
theorem jt:aJ ["_law_rows","_law_sheet","_law_start","_law_stop","_law_kept","_law_taken","_law_first","_law_entry","_law_pieces_here","_law_last","_law_low","_law_high"] ["_law_rows","_law_sheet","_law_start","_law_stop"] (aA wG):=jd
theorem Lb{f g h':Addr}{d:Nat}(F:iK K "_law_cut" "_law_cut" wG f fd)(T:nL mg)(bN:aF K mg "_law_show" jo m8 g gd)(gR:aF K mg "_law_pieces" lE MU h' VW):aC P w K mg base bZ (d+3) f fd VJ (Rv d):=by
 have u7:aC P w K mg base bZ (d+2) _ _ MU (AD d):=xM gR.F T bN;refine lW F jt λdJ A outer s0 H vs Q E hr h=>?_;obtain⟨av,r,rows,s,p,q,sh,rk,rfl,R,eN,hes,ux,AN,GY,Ac,h0,h1,hd,hpq,k⟩:=h;obtain⟨es,iy⟩:∃ es,rows[s.toNat]?=some es:=⟨_,oJ (by omega)⟩;have esl:=hes es (vn iy);have shs:=AN s es h0 iy;have shl:=GY s h0 h1;rw[shs]at shl;obtain⟨Be,b,AV,F7,hb0,hrl⟩:=R.get iy
 have yY:wC Be s=some (.ref b):=by
  have z:=gH F7;rw[show ((s.toNat:Nat):Int)=s by omega]at z;exact z
 refine⟨_,(aj (bx (i:=4) jt.nd (bQ ah)) (aj (bx (i:=5) jt.nd (bQ ah)) (aj (bx (i:=6) jt.nd ay) (aj (gz PassesOwn.never rfl (cX (aV bP (pv 0) (pv 1))) (cE (i:=7) jt.nd) (aj (bx (i:=8) jt.nd (aK gR u7 hr (aa (pv 0) (aa (pv 7) ah)))) (aj (bx (i:=9) jt.nd (bC gj (pv 6) (jy T.je (pv 8)))) (aj (bx (i:=10) jt.nd (cO (wA rfl) rfl T.Ie PyProof.Rows.boot_max (aa ay (aa (bC dm (pv 2) (pv 6)) ah)))) (aj (bx (i:=11) jt.nd (bC dm (cO (wB rfl) rfl T.Ma PyProof.Rows.boot_min (aa (pv 9) (aa (pv 3) ah))) (pv 6))) (aj (bT (PW.pt (Ep (bh gU (pv 2) (pv 3) (bz _)) (Ep (bh jG (pv 9) (pv 2) (bz _)) (BY (bh jG (pv 3) (pv 6) (bz _)))))) (au (bf (gV vE qj qm cy (pv 4) (aa (pv 7) ah)))) (au (bT (PW.pt (vI (bh jG (pv 2) (pv 6) (bz _)) (uB (bh jG (pv 9) (pv 3) (bz _))))) (au (bf (gV vE qj qm cy (pv 5) (aa (pv 7) ah)))) (aj (bf (gV vE PySem.F.slot_list_extend PySem.F.type_list_extend oN (pv 4) (aa (bC ng (j7 qF (pv 8) qE (lu (pv 10))) (j7 qF (pv 8) (lu (pv 11)) qE)) ah))) (au (bf (gV vE PySem.F.slot_list_extend PySem.F.type_list_extend oN (pv 5) (aa (j7 qF (pv 8) (lu (pv 10)) (lu (pv 11))) ah)))))))) (au (bx (i:=6) jt.nd (pv 9))))))))) (au (aO (dH (aa (pv 4) (aa (pv 5) ah))))))))),?_⟩;refine⟨mj,λA hA=>⟨mj,λB hB=>?_⟩⟩;have sA:aG H (aQ H A (.lst [])):=ak hA _;have sB:aG _ (aQ (aQ H A (.lst [])) B (.lst [])):=ak hB _;have s1:=sA.trans sB;have DC:A≠B:=az af hB;have OB:=aY sA hB
 have z0:bX sh p q []=[]/\kF sh p q []=[]:=by
  unfold bX kF
  constructor <;> split <;> rfl
 refine⟨_,rfl,_,rfl,r,_,_,_,rfl,rfl,bR.of (s1 _ _ AV),yY,b,rfl,⟨_,bR.of (s1 _ _ hb0)⟩,eS (K:=K) (a:=b) (xs:=es.map V.int) (λi σ H2=>∃ u1 u2 u3 u4 u5:Option V,σ=[some (.ref r),some (.int s),some (.int p),some (.int q),some (.ref A),some (.ref B),some (.int (0+((aU sh (es.take i)).length:Int))),u1,u2,u3,u4,u5]/\H2 A=some (.lst ((bX sh p q (es.take i)).map V.int))/\H2 B=some (.lst ((kF sh p q (es.take i)).map V.int))/\aG H H2) ⟨none,none,none,none,none,rfl,(by rw[List.take_zero,z0.1];exact sB _ _ af),(by rw[List.take_zero,z0.2];exact af),s1⟩ (by rintro i σ H2 _ ⟨_,_,_,_,_,_,_,_,s2⟩;exact bR.of (s2 _ _ hb0)) ?_ ?_⟩
 ·rintro i x σ H2 hi ⟨u1,u2,u3,u4,u5,rfl,Rq,hB2,s2⟩;rw[j3]at hi;obtain⟨e,ex,rfl⟩:=Option.map_eq_some_iff.mp hi;have st:=take_snoc ex;have eA:=Jd sh p q (es.take i) e;have eB:=Je sh p q (es.take i) e;rw[← st]at eA eB
  have eF:(0+((aU sh (es.take (i+1))).length:Int))=0+((aU sh (es.take i)).length:Int)+(aZ sh e).length:=by
   rw[st,nR,ck,dX,dX];simp[aU]
  have lA0:=yr sh p q (es.take i);have lB0:=Ds sh p q (es.take i);have l1:=uZ sh es (i+1);have l0:=uZ sh es i
  have le:(aZ sh e).length<=(aU sh (es.take (i+1))).length:=by
   rw[st,nR,ck,dX,dX];omega
  have lkk:=Uu sh p q (0+((aU sh (es.take i)).length:Int)) e;have ltt:=Uv sh p q (0+((aU sh (es.take i)).length:Int)) e;have t0:(es.take i).length<=es.length:=by rw[jK];omega
  generalize hf:0+((aU sh (es.take i)).length:Int)=fi at *;refine⟨_,rfl,_,rfl,av,r,rows,e,sh,rk,rfl,R.same s2,eN,ux,AN,GY,Ac,λad3=>?_,λo H3 h3 s3 ho=>?_⟩
  ·have nx:nJ rows s (-1-e):=⟨h0,es,iy,b9.mpr ⟨by omega,by rw[show -1-(-1-e)=e by omega];exact vn ex⟩⟩;have:=Ac _ _ nx;exact⟨(ux.FZ nx).2,by omega⟩
  have JJ:=s3 _ _ Rq;have Ut:=s3 _ _ hB2;refine⟨_,rfl,_,rfl,o,_,rfl,.inl (bR.of h3),_,_,rfl,rfl,?_⟩;rw[cS];refine⟨_,rfl,_,rfl,_,_,rfl,rfl,_,_,rfl,?_⟩;refine⟨_,rfl,_,rfl,_,_,rfl,_,rfl,_,_,rfl,rfl,?_⟩
  have lo0:(if p-fi > 0 then p-fi else 0).toNat=(p-fi).toNat/\0<=(if p-fi > 0 then p-fi else 0):=by
   split <;> omega
  have CY:(p=q\/(fi+((aZ sh e).length:Int))<=p\/q<=fi)->(aQ H3 A (.lst ((bX sh p q (es.take i)).map V.int++[.int e]))) A=some (.lst ((bX sh p q (es.take (i+1))).map V.int))/\(aQ H3 A (.lst ((bX sh p q (es.take i)).map V.int++[.int e]))) B=some (.lst ((kF sh p q (es.take (i+1))).map V.int)):=λc=>by
   have e1:Sj sh p q fi e=[e]:=by
    unfold Sj Ml;rcases c with c|c
    ·rw[if_pos c]
    ·rw[if_pos c];split <;> rfl
   have e2:Sk sh p q fi e=[]:=by
    unfold Sk OD;rcases c with c|c
    ·rw[if_pos c]
    ·rw[if_pos c];split <;> rfl
   rw[af,aL DC.symm,eA,eB,e1,e2,kW,kT];exact⟨rfl,Ut⟩
  have stf:∀ y:Option V,[some (V.ref r),some (.int s),some (.int p),some (.int q),some (.ref A),some (.ref B),some (.int (fi+((aZ sh e).length:Int))),some (.int e),some (.ref o),some (.int (fi+((aZ sh e).length:Int))),some (.int (if p-fi > 0 then p-fi else 0)),y]=[some (.ref r),some (.int s),some (.int p),some (.int q),some (.ref A),some (.ref B),some (.int (0+((aU sh (es.take (i+1))).length:Int))),some (.int e),some (.ref o),some (.int (fi+((aZ sh e).length:Int))),some (.int (if p-fi > 0 then p-fi else 0)),y]:=λy=>by rw[eF]
  have keepR:∀ c:(p=q\/(fi+((aZ sh e).length:Int))<=p\/q<=fi),∃ u1 u2 u3 u4 u5:Option V,[some (V.ref r),some (.int s),some (.int p),some (.int q),some (.ref A),some (.ref B),some (.int (fi+((aZ sh e).length:Int))),some (.int e),some (.ref o),some (.int (fi+((aZ sh e).length:Int))),some (.int (if p-fi > 0 then p-fi else 0)),some (.int ((if q<(fi+((aZ sh e).length:Int)) then q else (fi+((aZ sh e).length:Int)))-fi))]=[some (.ref r),some (.int s),some (.int p),some (.int q),some (.ref A),some (.ref B),some (.int (0+((aU sh (es.take (i+1))).length:Int))),u1,u2,u3,u4,u5]/\(aQ H3 A (.lst ((bX sh p q (es.take i)).map V.int++[.int e]))) A=some (.lst ((bX sh p q (es.take (i+1))).map V.int))/\(aQ H3 A (.lst ((bX sh p q (es.take i)).map V.int++[.int e]))) B=some (.lst ((kF sh p q (es.take (i+1))).map V.int))/\aG H (aQ H3 A (.lst ((bX sh p q (es.take i)).map V.int++[.int e]))):=λc =>
   ⟨_,_,_,_,_,stf _,(CY c).1,(CY c).2,bV hA (s2.trans s3) (aN A _ _)⟩
  have mA:((bX sh p q (es.take i)).map V.int).length<sizeLine:=aX (by rw[cS];omega);refine⟨_,rfl,_,rfl,rfl,_,rfl,dO (λc1=>j9 ?_) (λc1=>?_)⟩
  ·exact⟨_,rfl,.inl ⟨rfl,_,bR.of JJ⟩,_,rfl,A,_,_,rfl,rfl,JJ,mA,_,rfl,keepR (.inl (V.int.inj (of_decide_eq_true c1)))⟩
  have Vy:¬ p=q:=λz=>c1 (by rw[z];exact decide_eq_true rfl);refine⟨_,rfl,_,rfl,_,_,rfl,rfl,_,rfl,dO (λc2=>j9 ?_) (λc2=>?_)⟩
  ·exact⟨_,rfl,.inl ⟨rfl,_,bR.of JJ⟩,_,rfl,A,_,_,rfl,rfl,JJ,mA,_,rfl,keepR (.inr (.inl (of_decide_eq_true c2)))⟩
  have Oa:¬ (fi+((aZ sh e).length:Int))<=p:=λz=>c2 (decide_eq_true z);refine⟨_,rfl,_,rfl,_,_,rfl,rfl,_,rfl,dO (λc3=>?_) (λc3=>?_)⟩
  ·exact⟨_,rfl,.inl ⟨rfl,_,bR.of JJ⟩,_,rfl,A,_,_,rfl,rfl,JJ,mA,_,rfl,keepR (.inr (.inr (of_decide_eq_true c3)))⟩
  have c3':¬ q<=fi:=λz=>c3 (decide_eq_true z);have n1:¬ ((fi+((aZ sh e).length:Int))<=p\/q<=fi):=λz=>z.elim Oa c3'
  have hh:((if q<(fi+((aZ sh e).length:Int)) then q else (fi+((aZ sh e).length:Int)))-fi).toNat=min (aZ sh e).length (q-fi).toNat/\0<=(if q<(fi+((aZ sh e).length:Int)) then q else (fi+((aZ sh e).length:Int)))-fi:=by
   split <;> omega
  have pq:p<q:=by omega
  have vH:¬ (p<=fi/\(fi+((aZ sh e).length:Int))<=q)->Sj sh p q fi e=(aZ sh e).take (if p-fi > 0 then p-fi else 0).toNat++(aZ sh e).drop ((if q<(fi+((aZ sh e).length:Int)) then q else (fi+((aZ sh e).length:Int)))-fi).toNat/\Sk sh p q fi e=((aZ sh e).take ((if q<(fi+((aZ sh e).length:Int)) then q else (fi+((aZ sh e).length:Int)))-fi).toNat).drop (if p-fi > 0 then p-fi else 0).toNat:=λc4=>by
   unfold Sj Sk Ml OD;rw[if_neg Vy,if_neg Vy,if_neg n1,if_neg n1,if_neg c4,if_neg c4,lo0.1,hh.1];rcases Nat.le_total (q-fi).toNat (aZ sh e).length with z|z
   ·rw[Nat.min_eq_right z];exact⟨rfl,rfl⟩
   ·rw[Nat.min_eq_left z,BR z,BR (jz _),xP z,xP (jz _)];exact⟨rfl,rfl⟩
  refine⟨_,rfl,_,rfl,_,_,rfl,rfl,_,rfl,Qp (λz=>⟨_,rfl,_,rfl,_,_,rfl,rfl,_,rfl,z⟩) (λc6=>?_) (λc6=>?_)⟩
  ·have e1:Sj sh p q fi e=[]:=by unfold Sj Ml;rw[if_neg Vy,if_neg n1,if_pos c6]
   have e2:Sk sh p q fi e=[e]:=by unfold Sk OD;rw[if_neg Vy,if_neg n1,if_pos c6]
   refine⟨_,rfl,.inl ⟨rfl,_,bR.of Ut⟩,_,rfl,B,_,_,rfl,rfl,Ut,aX (by rw[cS];omega),_,rfl,_,_,_,_,_,stf _,?_,?_,bV OB (s2.trans s3) (aN B _ _)⟩
   ·rw[aL DC,eA,e1,kW];exact JJ
   ·rw[af,eB,e2,kT];rfl
  ·obtain⟨r1,r2⟩:=vH c6;rw[r1,dX]at lkk;rw[r2]at ltt;refine⟨_,rfl,.inl ⟨rfl,_,bR.of JJ⟩,_,rfl,_,rfl,_,rfl,o,_,rfl,bR.of h3,λq1 T9=>?_⟩;rw[yj _ lo0.2,← List.map_take];have n4:aG H3 (aQ H3 q1 (.lst (((aZ sh e).take (if p-fi > 0 then p-fi else 0).toNat).map V.int))):=ak T9 _;refine⟨_,rfl,_,rfl,_,rfl,o,_,rfl,bR.of (n4 _ _ h3),λq2 gy=>?_⟩;rw[Al _ hh.2,← List.map_drop];have n5:aG _ (aQ (aQ H3 q1 (.lst (((aZ sh e).take (if p-fi > 0 then p-fi else 0).toNat).map V.int))) q2 (.lst (((aZ sh e).drop ((if q<(fi+((aZ sh e).length:Int)) then q else (fi+((aZ sh e).length:Int)))-fi).toNat).map V.int))):=ak gy _;refine⟨q1,q2,_,_,rfl,rfl,n5 _ _ af,af,(by rw[cS,cS];exact kX (aX (by omega))),λq3 JE=>?_⟩;have n6:aG _ (aQ (aQ (aQ H3 q1 (.lst (((aZ sh e).take (if p-fi > 0 then p-fi else 0).toNat).map V.int))) q2 (.lst (((aZ sh e).drop ((if q<(fi+((aZ sh e).length:Int)) then q else (fi+((aZ sh e).length:Int)))-fi).toNat).map V.int))) q3 (.lst (((aZ sh e).take (if p-fi > 0 then p-fi else 0).toNat).map V.int++((aZ sh e).drop ((if q<(fi+((aZ sh e).length:Int)) then q else (fi+((aZ sh e).length:Int)))-fi).toNat).map V.int))):=ak JE _;have n46:=n4.trans (n5.trans n6);have h63:(aQ (aQ (aQ H3 q1 (.lst (((aZ sh e).take (if p-fi > 0 then p-fi else 0).toNat).map V.int))) q2 (.lst (((aZ sh e).drop ((if q<(fi+((aZ sh e).length:Int)) then q else (fi+((aZ sh e).length:Int)))-fi).toNat).map V.int))) q3 (.lst (((aZ sh e).take (if p-fi > 0 then p-fi else 0).toNat).map V.int++((aZ sh e).drop ((if q<(fi+((aZ sh e).length:Int)) then q else (fi+((aZ sh e).length:Int)))-fi).toNat).map V.int))) q3=some (.lst (((aZ sh e).take (if p-fi > 0 then p-fi else 0).toNat).map V.int++((aZ sh e).drop ((if q<(fi+((aZ sh e).length:Int)) then q else (fi+((aZ sh e).length:Int)))-fi).toNat).map V.int)):=af;generalize aQ (aQ (aQ H3 q1 (.lst (((aZ sh e).take (if p-fi > 0 then p-fi else 0).toNat).map V.int))) q2 (.lst (((aZ sh e).drop ((if q<(fi+((aZ sh e).length:Int)) then q else (fi+((aZ sh e).length:Int)))-fi).toNat).map V.int))) q3 (.lst (((aZ sh e).take (if p-fi > 0 then p-fi else 0).toNat).map V.int++((aZ sh e).drop ((if q<(fi+((aZ sh e).length:Int)) then q else (fi+((aZ sh e).length:Int)))-fi).toNat).map V.int))=H6 at n46 h63;refine⟨A,q3,_,_,rfl,rfl,n46 _ _ JJ,h63,(by rw[dX,cS,cS,cS];exact kX (aX (by omega))),?_⟩;have k7:cY A H6 (aQ H6 A (.lst ((bX sh p q (es.take i)).map V.int++(((aZ sh e).take (if p-fi > 0 then p-fi else 0).toNat).map V.int++((aZ sh e).drop ((if q<(fi+((aZ sh e).length:Int)) then q else (fi+((aZ sh e).length:Int)))-fi).toNat).map V.int)))):=aN A _ _;have hA7:(aQ H6 A (.lst ((bX sh p q (es.take i)).map V.int++(((aZ sh e).take (if p-fi > 0 then p-fi else 0).toNat).map V.int++((aZ sh e).drop ((if q<(fi+((aZ sh e).length:Int)) then q else (fi+((aZ sh e).length:Int)))-fi).toNat).map V.int)))) A=some (.lst ((bX sh p q (es.take (i+1))).map V.int)):=by rw[af,eA,r1,kT,kT]
   have no:o≠A:=(az Rq ho).symm;have h37:=k7 _ _ (n46 _ _ h3) no;have hB7:=k7 _ _ (n46 _ _ Ut) DC.symm;have sm7:=bV hA (s2.trans (s3.trans n46)) k7;generalize aQ H6 A (.lst ((bX sh p q (es.take i)).map V.int++(((aZ sh e).take (if p-fi > 0 then p-fi else 0).toNat).map V.int++((aZ sh e).drop ((if q<(fi+((aZ sh e).length:Int)) then q else (fi+((aZ sh e).length:Int)))-fi).toNat).map V.int)))=H7 at k7 hA7 h37 hB7 sm7;refine⟨_,rfl,.inl ⟨rfl,_,bR.of hB7⟩,_,rfl,_,rfl,_,rfl,_,rfl,_,rfl,o,_,rfl,bR.of h37,λq4 T8=>?_⟩;rw[IP _ lo0.2 hh.2,← List.map_take,← List.map_drop];refine⟨B,q4,_,_,rfl,rfl,ak T8 _ _ _ hB7,af,(by rw[cS,cS];exact kX (aX (by omega))),?_⟩;refine⟨_,rfl,_,_,_,_,_,stf _,?_,?_,bV OB (sm7.trans (ak T8 _)) (aN B _ _)⟩
   ·rw[aL DC];exact ak T8 _ _ _ hA7
   ·rw[af,eB,r2,kT]
 ·rintro σ H2 ⟨u1,u2,u3,u4,u5,rfl,Rq,hB2,s2⟩;rw[cS,lR]at Rq hB2;refine⟨_,rfl,_,rfl,uP,λt ht=>k es t A B _ iy af (ak ht _ _ _ Rq) (ak ht _ _ _ hB2) (s2.trans (ak ht _)) hA OB DC⟩
inductive uv(d:Nat)(vs:List V)(H:Hp)(Q:VK)(E:XK):Prop
 | mk (av:Addr->Prop) (r:Addr) (rows:dM) (x:Int) (f:Int->Int) (rk:Int->Nat) (_:vs=[.ref r,.int x]) (_:kC av H r rows) (_:rows.length<=1000) (_:jw rows) (_:0<=x) (_:x<rows.length) (_:Weighs rows f) (_:(∀ x y,nJ rows x y->rk y<rk x)) (_:rk x<d) (_:Q (.int (f x)) H)
theorem kQ:aJ ["_law_rows","_law_sheet","_law_total","_law_entry"] ["_law_rows","_law_sheet"] (aA l9):=jd
theorem AE{g:Addr}{n:Nat}(T:nL mg)(eO:aF K mg "_law_weighed" l9 m8 g fd)(tT:aC P w K mg base bZ (n+1) g fd m8 (uv n)):aC P w K mg base bZ (n+2) g fd m8 (uv (n+1)):=by
 refine lW eO.F kQ λdJ A outer s H vs Q E hr h=>?_;obtain⟨av,r,rows,x,f,rk,rfl,R,eN,ux,x0,x1,hf,Ac,hd,k⟩:=h;obtain⟨es,iy⟩:∃ es,rows[x.toNat]?=some es:=⟨_,oJ (by omega)⟩;obtain⟨Be,b,AV,F7,hb0,hrl⟩:=R.get iy
 have yY:wC Be x=some (.ref b):=by
  have z:=gH F7;rw[show ((x.toNat:Nat):Int)=x by omega]at z;exact z
 refine⟨_,(aj (bx (i:=2) kQ.nd ay) (aj (gz PassesOwn.never rfl (cX (aV bP (pv 0) (pv 1))) (cE (i:=3) kQ.nd) (aj (bx (i:=2) kQ.nd (bC gj (pv 2) ay)) (au (bT (bh tZ (pv 3) ay (bz _)) (au (bx (i:=2) kQ.nd (bC gj (pv 2) (aK eO tT hr (aa (pv 0) (aa (bC dm (jF gS ay) (pv 3)) ah)))))) bu)))) (au (aO (pv 2))))),?_⟩;refine⟨_,rfl,_,rfl,r,_,_,_,rfl,rfl,bR.of AV,yY,b,rfl,⟨_,bR.of hb0⟩,eS (K:=K) (a:=b) (xs:=es.map V.int) (λi σ H2=>∃ u:Option V,σ=[some (.ref r),some (.int x),some (.int (mS f (es.take i))),u]/\H2=H) ⟨none,rfl,rfl⟩ (λi σ H2 _ ⟨_,_,e⟩=>by rw[e];exact bR.of hb0) ?_ ?_⟩
 ·rintro i e σ H2 hi ⟨u,rfl,rfl⟩;rw[j3]at hi;obtain⟨e,ex,rfl⟩:=Option.map_eq_some_iff.mp hi
  have st:mS f (es.take (i+1))=mS f (es.take i)+(if e<0 then 1+f (-1-e) else 1):=by
   rw[take_snoc ex];unfold mS;rw[kT,List.sum_append];simp
  refine⟨_,rfl,_,_,rfl,rfl,?_⟩;refine⟨_,rfl,_,_,rfl,rfl,_,rfl,dO (λc=>?_) (λc=>?_)⟩
  ·have c':e<0:=of_decide_eq_true c;have JF:nJ rows x (-1-e):=⟨x0,es,iy,b9.mpr ⟨by omega,by rw[show -1-(-1-e)=e by omega];exact vn ex⟩⟩;obtain⟨y0,y1⟩:=ux.FZ JF;have rky:=Ac _ _ JF;refine⟨_,rfl,_,rfl,_,rfl,_,rfl,_,_,rfl,rfl,av,r,rows,-1-e,f,rk,rfl,R,eN,ux,y0,y1,hf,Ac,by omega,_,_,rfl,rfl,?_⟩;refine⟨some (.int e),?_,rfl⟩;rw[st,if_pos c'];show [some (V.ref r),some (V.int x),some (V.int (mS f (es.take i)+1+f (-1-e))),some (V.int e)]=_;rw[show mS f (es.take i)+1+f (-1-e)=mS f (es.take i)+(1+f (-1-e)) by omega]
  ·have c':¬ e<0:=λz=>c (decide_eq_true z);refine⟨some (.int e),?_,rfl⟩;rw[st,if_neg c'];rfl
 ·rintro σ H2 ⟨u,rfl,rfl⟩;rw[cS,lR,← hf x es x0 iy];exact⟨_,rfl,k⟩
theorem wg{g:Addr}(T:nL mg)(eO:aF K mg "_law_weighed" l9 m8 g fd):∀ n:Nat,aC P w K mg base bZ (n+1) g fd m8 (uv n)
 | 0=>by
  have no:∀ vs H Q E,¬ uv 0 vs H Q E:=λvs H Q E h=>by
   obtain⟨_,_,_,_,_,_,_,_,_,_,_,_,_,_,h,_⟩:=h;exact Nat.not_lt_zero _ h
  exact⟨λvs H Q E h=>absurd h (no vs H Q E),λA outer s H args us vs Q E _ _ _ _ h=>absurd h (no vs H Q E)⟩
 | n+1=>AE T eO (wg T eO n)
theorem tU:aJ ["_law_numbers","_law_row","_law_number"] ["_law_numbers"] (aA qK):=jd
theorem Ei{f:Addr}(F:iK K "_law_row_of" "_law_row_of" qK f fd)(T:nL mg):aC P w K mg base bZ 1 f fd ["_law_numbers"] LN:=by
 refine lW F tU λdJ A outer s H vs Q E hr h=>?_;obtain⟨r,ns,rfl,hr1,eN,k⟩:=h;refine⟨_,(aj (bx (i:=1) tU.nd (bQ ah)) (aj (gz PassesOwn.never rfl (cX (pv 0)) (cE (i:=2) tU.nd) (au (bT (PW.pt (vI (bh Hh (jy T.je (pv 1)) ay (bz _)) (uB (bh gU (aV br (aV bP (pv 1) (jF gS ay)) ay) (pv 2) (bz _))))) (au (rf (dH (aa (aV br (aV bP (pv 1) (jF gS ay)) ay) (aa (bC gj (pv 2) ay) ah))) (uC (pv 1) (jF gS ay) m9))) (au (bf (gV vE qj qm cy (pv 1) (aa (dH (aa (pv 2) (aa (bC gj (pv 2) ay) ah))) ah))))))) (au (aO (pv 1))))),?_⟩;refine⟨mj,λq hq=>?_⟩;have s0:aG H (aQ H q (.lst [])):=ak hq _;refine⟨_,rfl,r,rfl,⟨_,bR.of (s0 _ _ hr1)⟩,eS (K:=K) (a:=r) (xs:=ns.map V.int) (λi σ H2=>∃ (bs:List Addr) (u:Option V),σ=[some (.ref r),some (.ref q),u]/\H2 q=some (.lst (bs.map V.ref))/\bS H2 bs ((ns.take i).foldl (λt n=>lV t n (n+1)) [])/\aG H H2) ⟨[],none,rfl,af,.nil,s0⟩ (by rintro i σ H2 _ ⟨_,_,_,_,_,s⟩;exact bR.of (s _ _ hr1)) ?_ ?_⟩
 ·rintro i x σ H2 hi ⟨bs,u,rfl,gy,hb,s⟩;rw[j3]at hi;obtain⟨m,em,rfl⟩:=Option.map_eq_some_iff.mp hi;have step:=foldl_take_succ (λt n=>lV t n (n+1)) ns [] i m em
  have bl:bs.length<sizeLine:=by
   have z:=hb.len;have z2:=Cr (ns.take i) [];rw[jK]at z2;exact aX (by simp only[uA]at z2;omega)
  refine⟨_,rfl,q,_,rfl,.inl (bR.of gy),_,_,rfl,rfl,_,rfl,?_⟩;rcases uz ((ns.take i).foldl (λt n=>lV t n (n+1)) []) with hn|⟨rw0,q0,hn⟩
  ·rw[hn]at hb step;have hbs:bs=[]:=List.eq_nil_of_length_eq_zero hb.len;subst hbs;refine iI (iI ?_);refine⟨_,rfl,.inl ⟨rfl,_,bR.of gy⟩,_,rfl,_,rfl,_,_,rfl,rfl,uP,λt ht=>⟨q,_,_,rfl,rfl,ak ht _ _ _ gy,(by show 0<sizeLine;decide),?_⟩⟩;obtain⟨g1,g2,g3⟩:=HF (st:=m) (en:=m+1) hq s gy hb ht;refine⟨[]++[t],_,rfl,g1,?_,g3⟩;rw[step,rG];exact g2
  ·rw[sG]at hn;rw[hn]at hb step;obtain⟨cs,a0,rfl,hc,Ih⟩:=hb.split;have JE:H2 q=some (.lst (cs.map V.ref++[.ref a0])):=by rw[gy,kT];rfl
   refine dO (λ_=>?_) (λc=>absurd (decide_eq_true (by rw[cS,dX,vF];omega)) c);refine⟨_,rfl,_,rfl,q,_,_,_,rfl,rfl,bR.of JE,iO _ _,a0,_,_,_,rfl,rfl,ef.of Ih,Zi,_,rfl,rfl,_,rfl,dO (λc2=>?_) (λc2=>?_)⟩
   ·have e2:q0.2=m:=V.int.inj (of_decide_eq_true c2);refine⟨_,rfl,_,rfl,q,_,_,_,rfl,rfl,bR.of JE,iO _ _,a0,_,_,_,rfl,rfl,ef.of Ih,Zh,_,rfl,_,_,rfl,rfl,uP,λt ht=>?_⟩;refine⟨_,rfl,_,rfl,q,_,_,cs.length,rfl,rfl,ak ht _ _ _ JE,P9 cs a0,?_⟩;obtain⟨g1,g2,g3⟩:=turned (st:=q0.1) (en:=m+1) hq s JE hc ht;refine⟨cs++[t],_,rfl,g1,?_,g3⟩;rw[step,rH _ e2];exact g2
   ·have e2:¬ q0.2=m:=λz=>c2 (decide_eq_true (congrArg V.int z));refine⟨_,rfl,.inl ⟨rfl,_,bR.of gy⟩,_,rfl,_,rfl,_,_,rfl,rfl,uP,λt ht=>⟨q,_,_,rfl,rfl,ak ht _ _ _ gy,(by rw[cS];exact bl),?_⟩⟩;obtain⟨g1,g2,g3⟩:=HF (st:=m) (en:=m+1) hq s gy hb ht;refine⟨cs++[a0]++[t],_,rfl,g1,?_,g3⟩;rw[step,rJ _ e2];exact g2
 ·rintro σ H2 ⟨bs,u,rfl,gy,hb,s⟩;refine⟨_,rfl,k q H2 ⟨bs,gy,?_⟩ s hq⟩;rw[cS,lR]at hb;exact hb
inductive MH(vs:List V)(H:Hp)(Q:VK)(E:XK):Prop
 | mk (e:Addr) (es:List Int) (_:vs=[.ref e]) (_:H e=some (.lst (es.map V.int))) (_:es.length<=100000) (_ :
 ∀ (o:Addr) (H':Hp),bL H' (.ref o) (aI es)->aG H H'->H o=none->Q (.ref o) H')
theorem qw:aJ ["_law_entries","_law_items","_law_entry"] ["_law_entries"] (aA rD):=jd
theorem Bu{f:Addr}(F:iK K "_law_items_of" "_law_items_of" rD f fd)(T:nL mg):aC P w K mg base bZ 1 f fd ["_law_entries"] MH:=by
 refine lW F qw λdJ A outer s H vs Q E hr h=>?_;obtain⟨e,es,rfl,he,eN,k⟩:=h;refine⟨_,(aj (bx (i:=1) qw.nd (bQ ah)) (aj (gz PassesOwn.never rfl (cX (pv 0)) (cE (i:=2) qw.nd) (au (bT (bh tZ (pv 2) ay (bz _)) (au (bf (gV vE qj qm cy (pv 1) (aa (dH (aa bG (aa (bC dm (jF gS ay) (pv 2)) ah))) ah)))) (au (bT (PW.pt (vI (bh Hh (jy T.je (pv 1)) ay (bz _)) (vI (bh gU (aV br (aV bP (pv 1) (jF gS ay)) ay) bG (bz _)) (uB (bh gU (aV br (aV bP (pv 1) (jF gS ay)) ay) (pv 2) (bz _)))))) (au (rf (dH (aa bG (aa (aV br (aV bP (pv 1) (jF gS ay)) ay) (aa (bC gj (pv 2) ay) ah)))) (uC (pv 1) (jF gS ay) m9))) (au (bf (gV vE qj qm cy (pv 1) (aa (dH (aa bG (aa (pv 2) (aa (bC gj (pv 2) ay) ah)))) ah))))))))) (au (aO (pv 1))))),?_⟩;refine⟨mj,λq hq=>?_⟩;have s0:aG H (aQ H q (.lst [])):=ak hq _;refine⟨_,rfl,e,rfl,⟨_,bR.of (s0 _ _ he)⟩,eS (K:=K) (a:=e) (xs:=es.map V.int) (λi σ H2=>∃ (vs:List V) (u:Option V),σ=[some (.ref e),some (.ref q),u]/\H2 q=some (.lst vs)/\cj (cZ H2) vs ((es.take i).foldl bq [])/\aG H H2) ⟨[],none,rfl,af,.nil,s0⟩ (by rintro i σ H2 _ ⟨_,_,_,_,_,s⟩;exact bR.of (s _ _ he)) ?_ ?_⟩
 ·rintro i x σ H2 hi ⟨vs,u,rfl,gy,hb,s⟩;rw[j3]at hi;obtain⟨x,ex,rfl⟩:=Option.map_eq_some_iff.mp hi;have step:(es.take (i+1)).foldl bq []=bq ((es.take i).foldl bq []) x:=by rw[take_snoc ex,List.foldl_append];rfl
  have bl:vs.length<sizeLine:=by
   have z:=hb.len;have z2:=ue (es.take i) [];rw[jK,uA]at z2;exact aX (by omega)
  refine⟨_,rfl,_,_,rfl,rfl,_,rfl,dO (λc=>?_) (λc=>?_)⟩
  ·have c':x<0:=of_decide_eq_true c;rw[bq,if_pos c']at step;refine⟨_,rfl,.inl ⟨rfl,_,bR.of gy⟩,_,rfl,_,rfl,_,_,rfl,rfl,uP,λt ht=>⟨q,_,_,rfl,rfl,ak ht _ _ _ gy,bl,?_⟩⟩;refine⟨vs++[.ref t],_,rfl,af,?_,bV hq (s.trans (ak ht _)) (aN q _ _)⟩;rw[step];exact cj.new (it:=.win (-1-x)) gy hb ht _
  ·have c':¬ x<0:=λz=>c (decide_eq_true z);rw[bq,if_neg c']at step;rcases uz ((es.take i).foldl bq []) with hn|⟨t0,l0,hn⟩
   ·rw[hn]at hb step;have hvs:vs=[]:=List.eq_nil_of_length_eq_zero hb.len;subst hvs;refine⟨_,rfl,q,_,rfl,.inl (bR.of gy),_,_,rfl,rfl,_,rfl,iI (iI ?_)⟩;refine⟨_,rfl,.inl ⟨rfl,_,bR.of gy⟩,_,rfl,_,rfl,_,_,rfl,rfl,Kv,λt ht=>⟨q,_,_,rfl,rfl,ak ht _ _ _ gy,bl,?_⟩⟩;refine⟨[]++[.ref t],_,rfl,af,?_,bV hq (s.trans (ak ht _)) (aN q _ _)⟩;rw[step];exact cj.new (it:=.aS x (x+1)) gy hb ht _
   ·rw[sG]at hn;rw[hn,wY,List.dropLast_concat]at step;rw[hn]at hb;obtain⟨us,v0,rfl,hb0,a0,rfl,Ih⟩:=hb.split;refine⟨_,rfl,q,_,rfl,.inl (bR.of gy),_,_,rfl,rfl,_,rfl,dO (λ_=>?_) (λz=>absurd (decide_eq_true (by simp)) z)⟩
    cases l0 with
    | win n =>
     refine⟨_,rfl,_,rfl,q,_,_,_,rfl,rfl,bR.of gy,iO _ _,a0,_,_,_,rfl,rfl,ef.of Ih,rfl,rfl,_,rfl,dO (λz=>absurd z (by decide)) (λ_=>iI ?_)⟩;refine⟨_,rfl,.inl ⟨rfl,_,bR.of gy⟩,_,rfl,_,rfl,_,_,rfl,rfl,Kv,λt ht=>⟨q,_,_,rfl,rfl,ak ht _ _ _ gy,bl,?_⟩⟩;refine⟨_,_,rfl,af,?_,bV hq (s.trans (ak ht _)) (aN q _ _)⟩;rw[step];exact cj.new (it:=.aS x (x+1)) gy hb ht _
    | aS p1 p2 =>
     refine⟨_,rfl,_,rfl,q,_,_,_,rfl,rfl,bR.of gy,iO _ _,a0,_,_,_,rfl,rfl,ef.of Ih,rfl,rfl,_,rfl,dO (λ_=>?_) (λz=>absurd (by decide) z)⟩;refine⟨_,rfl,_,rfl,q,_,_,_,rfl,rfl,bR.of gy,iO _ _,a0,_,_,_,rfl,rfl,ef.of Ih,rfl,_,rfl,rfl,_,rfl,dO (λc2=>?_) (λc2=>?_)⟩
     ·have e2:p2=x:=V.int.inj (of_decide_eq_true c2);refine⟨_,rfl,_,rfl,q,_,_,_,rfl,rfl,bR.of gy,iO _ _,a0,_,_,_,rfl,rfl,ef.of Ih,rfl,_,rfl,_,_,rfl,rfl,Kv,λt ht=>?_⟩;refine⟨_,rfl,_,rfl,q,_,_,us.length,rfl,rfl,ak ht _ _ _ gy,(by rw[dX];exact Co _),?_⟩;rw[Cp];refine⟨_,_,rfl,af,?_,bV hq (s.trans (ak ht _)) (aN q _ _)⟩;rw[step];show cj _ _ (if p2=x then t0++[aT.aS p1 (x+1)] else _);rw[if_pos e2];exact cj.new (it:=.aS p1 (x+1)) gy hb0 ht _
     ·have e2:¬ p2=x:=λz=>c2 (decide_eq_true (congrArg V.int z));refine⟨_,rfl,.inl ⟨rfl,_,bR.of gy⟩,_,rfl,_,rfl,_,_,rfl,rfl,Kv,λt ht=>⟨q,_,_,rfl,rfl,ak ht _ _ _ gy,bl,?_⟩⟩;refine⟨_,_,rfl,af,?_,bV hq (s.trans (ak ht _)) (aN q _ _)⟩;rw[step];show cj _ _ (if p2=x then _ else t0++[aT.aS p1 p2]++[aT.aS x (x+1)]);rw[if_neg e2];exact cj.new (it:=.aS x (x+1)) gy hb ht _
 ·rintro σ H2 ⟨vs,u,rfl,gy,hb,s⟩;rw[cS,lR]at hb;exact⟨_,rfl,k q H2 ⟨q,vs,rfl,gy,hb⟩ s hq⟩
theorem Reach.trans{E:Int->Int->Prop}{a b c:Int}(h:Reach E a b)(g:Reach E b c):Reach E a c:=by
 induction g with
 | one e=>exact .step h e
 | step _ e ih=>exact .step ih e
theorem Jf{p q:Nat->Bool}(h:∀ i,p i=true->q i=true):∀ n,cnt n p<=cnt n q
 | 0=>jz _
 | n+1=>by
  rw[yR,yR];have ih:=Jf h n;by_cases c:p n=true
  ·rw[if_pos c,if_pos (h n c)];omega
  ·rw[if_neg c];omega
open Classical in
theorem XA{rows:dM}(sd:jw rows)(l:rows.length<=40)(h:∀ x,¬ Reach (nJ rows) x x):DR rows:=by
 refine⟨λx=>cnt rows.length λi=>decide (Reach (nJ rows) x (i:Int)),λx=>lS (CC _ _) l,λx y n=>?_⟩;obtain⟨y0,y1⟩:=sd.FZ n;have yy:((y.toNat:Nat):Int)=y:=by omega
 have a:=Jf (p:=λi=>decide (Reach (nJ rows) y (i:Int))) (q:=λi=>decide (Reach (nJ rows) x (i:Int))&&decide (i≠y.toNat)) (λi hi=>by
  have r:=of_decide_eq_true hi;rw[Bool.and_eq_true];refine⟨decide_eq_true ((Reach.one n).trans r),decide_eq_true λz=>?_⟩;rw[z,yy]at r
  exact h _ r) rows.length
 have b:=yS y.toNat rows.length (p:=λi=>decide (Reach (nJ rows) x (i:Int))) (q:=λi=>decide (Reach (nJ rows) x (i:Int))&&decide (i≠y.toNat)) (by omega) (decide_eq_true (by rw[yy];exact .one n)) (λ_=>rfl);show cnt _ _<cnt _ _;omega
theorem MJ{rows:dM}{s:Nat}{es:List Int}{x y:Int}(h:nJ (rows.set s es) x y)(ne:x.toNat≠s):nJ rows x y:=by
 obtain⟨x0,xq,e,hy⟩:=h;rw[List.getElem?_set_ne (λz=>ne z.symm)]at e;exact⟨x0,xq,e,hy⟩
theorem Rw{rows:dM}{s:Int}{es:List Int}(s0:0<=s)(R:DR rows)(n:¬ Reach (nJ (rows.set s.toNat es)) s s):∀ x,¬ Reach (nJ (rows.set s.toNat es)) x x:=by
 have key:∀ {a b:Int},Reach (nJ (rows.set s.toNat es)) a b->Reach (nJ rows) a b\/((a=s\/Reach (nJ (rows.set s.toNat es)) a s)/\Reach (nJ (rows.set s.toNat es)) s b):=by
  intro a b r
  induction r with
  | one e =>
   by_cases c:a.toNat=s.toNat
   ·have q:a=s:=by have:=e.1;omega
    rw[q]at e;exact .inr ⟨.inl q,.one e⟩
   ·exact .inl (.one (MJ e c))
  | @step y z r e ih =>
   by_cases c:y.toNat=s.toNat
   ·have q:y=s:=by have:=e.1;omega
    rw[q]at r e;exact .inr ⟨.inr r,.one e⟩
   ·rcases ih with i|i
    ·exact .inl (.step i (MJ e c))
    ·exact .inr ⟨i.1,.step i.2 e⟩
 intro x r;rcases key r with z|⟨z|z,y⟩
 ·exact R.irr z
 ·rw[z]at y;exact n y
 ·exact n (y.trans z)
theorem AF(f:Int->Int)(e:Int)(r:List Int):mS f (e::r)=(if e<0 then 1+f (-1-e) else 1)+mS f r:=by unfold mS;rw[oK,List.sum_cons]
theorem MK{sh:Int->List Int}{f:Int->Int}:∀ {es:List Int},(∀ y∈dZ es,((sh y).length:Int)<=f y)->(es.length:Int)<=mS f es/\((aU sh es).length:Int)<=mS f es
 | [],_=>by simp[mS,aU]
 | e::r,h=>by
  have ih:=MK (es:=r) λy hy=>h y (b9.mpr ⟨(b9.mp hy).1,sF _ (b9.mp hy).2⟩);rw[AF,ck,dX,qC];unfold aZ;by_cases c:e<0
  ·have z:=h (-1-e) (b9.mpr ⟨by omega,by rw[show -1-(-1-e)=e by omega];simp⟩);rw[if_pos c,if_pos c];omega
  ·rw[if_neg c,if_neg c,vF];omega
theorem Dt{rows:dM}{sh:Int->List Int}{f:Int->Int}(sd:jw rows)(R:DR rows)(hs:qz rows sh)(hw:Weighs rows f):∀ x:Int,0<=x->∀ es,rows[x.toNat]?=some es->(es.length:Int)<=f x/\((sh x).length:Int)<=f x:=by
 obtain⟨rk,_,hd⟩:=R
 have key:∀ (k:Nat) (x:Int),rk x<k->0<=x->∀ es,rows[x.toNat]?=some es->(es.length:Int)<=f x/\((sh x).length:Int)<=f x:=by
  intro k
  induction k with
  | zero=>intro x h;omega
  | succ k ih =>
   intro x hx x0 es he;rw[hw x es x0 he,hs x es x0 he];refine MK λy hy=>?_;have n:nJ rows x y:=⟨x0,es,he,hy⟩;obtain⟨y0,y1⟩:=sd.FZ n;have:=hd _ _ n;exact (ih y (by omega) y0 _ (oJ (by omega))).2
 exact λx=>key (rk x+1) x (Nat.lt_succ_self _)
theorem Rx{rows:dM}{sh:Int->List Int}{N:Int->Prop}(ux:jw rows)(Ac:DR rows)(AN:qz rows sh)(hN:∀ es∈rows,∀ e∈es,0<=e->N e):∀ x:Int,0<=x->x<rows.length->∀ y∈sh x,N y:=by
 obtain⟨rk,hb,hd⟩:=Ac
 have key:∀ (k:Nat) (x:Int),rk x<k->0<=x->x<rows.length->∀ y∈sh x,N y:=by
  intro k
  induction k with
  | zero=>intro x h;omega
  | succ k ih =>
   intro x hx x0 x1 y hy;have he:rows[x.toNat]?=some rows[x.toNat]:=oJ (by omega);rw[AN x _ x0 he]at hy;unfold aU at hy;obtain⟨e,hm,hy⟩:=List.mem_flatMap.mp hy;unfold aZ at hy;by_cases c:e<0
   ·rw[if_pos c]at hy;have nx:nJ rows x (-1-e):=⟨x0,_,he,b9.mpr ⟨by omega,by rw[show -1-(-1-e)=e by omega];exact hm⟩⟩;obtain⟨a,b⟩:=ux.FZ nx;have:=hd _ _ nx;exact ih _ (by omega) a b y hy
   ·rw[if_neg c]at hy;rw[List.mem_singleton.mp hy];exact hN _ (vn he) e hm (by omega)
 exact λx=>key (rk x+1) x (Nat.lt_succ_self _)
def xN(n m:Nat)(e:Int):Prop:=(0<=e/\e<(n:Nat))\/(e<0/\-1-e<(m:Nat))
structure Good(n:Nat)(rows:dM):Prop where
 en:∀ es∈rows,∀ e∈es,xN n rows.length e
 rk:DR rows
 ln:rows.length<=40
 wt:∃ f,Weighs rows f/\∀ x:Int,0<=x->x<rows.length->f x<=200
theorem AG{n:Nat}{rows:dM}(h:∀ es∈rows,∀ e∈es,xN n rows.length e):jw rows:=λes he y hy=>by
 obtain⟨y0,hm⟩:=b9.mp hy;rcases h es he _ hm with z|z
 ·omega
 ·have:=z.2;omega
structure Gd(n:Nat)(rows:dM)(sh:Int->List Int):Prop where
 sn:Seen rows sh
 Sm:∀ x:Int,0<=x->x<rows.length->∀ a∈sh x,0<=a/\a<(n:Nat)
 sl:∀ x:Int,0<=x->x<rows.length->(sh x).length<=200
 es:∀ es∈rows,es.length<=200
 en:∀ es∈rows,∀ e∈es,xN n rows.length e
 ln:rows.length<=40
theorem Good.es{n:Nat}{rows:dM}(h:Good n rows):∀ es∈rows,es.length<=200:=by
 obtain⟨en,rk,ln,f,hw,hm⟩:=h;obtain⟨sh,hs⟩:=Dp rk;intro es he;obtain⟨i,hi⟩:=List.mem_iff_getElem?.mp he;have il:=(List.getElem?_eq_some_iff.mp hi).1;have a:=Dt (AG en) rk hs hw (i:Int) (by omega) es (by rw[Int.toNat_natCast];exact hi);have:=hm (i:Int) (by omega) (by omega);omega
theorem Good.Ry{n:Nat}{rows:dM}(h:Good n rows):∃ sh,Gd n rows sh:=by
 have hes:=h.es;obtain⟨en,rk,ln,f,hw,hm⟩:=h;obtain⟨sh,hs⟩:=Dp rk;have sd:=AG en
 have sl:∀ x:Int,0<=x->x<rows.length->(sh x).length<=200:=λx x0 x1=>by
  have a:=Dt sd rk hs hw x x0 _ (oJ (by omega));have:=hm x x0 x1;omega
 refine⟨sh,⟨λes he=>by have:=hes es he;omega,sd,rk,hs,λx x0 x1=>by have:=sl x x0 x1;omega⟩,Rx sd rk hs (λes he e hm e0=>?_),sl,hes,en,ln⟩;rcases en es he e hm with z|z
 ·exact z
 ·omega
theorem Good.bears{n:Nat}{rows:dM}(h:Good n rows):∃ f,sf rows f:=by
 have hes:=h.es;obtain⟨en,rk,ln,f,hw,hm⟩:=h;exact⟨f,by omega,λes he=>by have:=hes es he;omega,AG en,rk,hw,hm⟩
theorem Jg{n:Nat}{rows:dM}{s:Nat}{es:List Int}(h:∀ es∈rows,∀ e∈es,xN n rows.length e)(g:∀ e∈es,xN n rows.length e):∀ xq∈rows.set s es,∀ e∈xq,xN n (rows.set s es).length e:=by
 intro xq hm;rw[List.length_set];rcases List.mem_or_eq_of_mem_set hm with z|z
 ·exact h xq z
 ·rw[z];exact g
theorem Jh{sh:Int->List Int}{N:Int->Prop}(hs:∀ e,N e->∀ x∈aZ sh e,N x)(p:Int):∀ (es:List Int) (f:Int),(∀ e∈es,N e)->∀ x,x∈aE sh p f es\/x∈bE sh p f es->N x
 | [],_,_=>λx hx=>by rcases hx with z | z <;> cases z
 | e::r,f,h=>by
  intro x hx;rw[aE,bE,List.mem_append,List.mem_append]at hx;have he:=hs e (h e (by simp));have ih:=Jh hs p r (f+(aZ sh e).length) (λy hy=>h y (sF _ hy)) x;rcases hx with (z|z)|(z|z)
  ·split at z
   ·rw[List.mem_singleton.mp z];exact h e (by simp)
   ·split at z
    ·cases z
    ·exact he x (List.mem_of_mem_take z)
  ·exact ih (.inl z)
  ·split at z
   ·cases z
   ·split at z
    ·rw[List.mem_singleton.mp z];exact h e (by simp)
    ·exact he x (List.mem_of_mem_drop z)
  ·exact ih (.inr z)
theorem Rz{sh:Int->List Int}{N:Int->Prop}(hs:∀ e,N e->∀ x∈aZ sh e,N x)(a b:Int):∀ (es:List Int) (f:Int),(∀ e∈es,N e)->∀ x,x∈kE sh a b f es\/x∈tE sh a b f es->N x
 | [],_,_=>λx hx=>by rcases hx with z | z <;> cases z
 | e::r,f,h=>by
  intro x hx;rw[kE,tE,List.mem_append,List.mem_append]at hx;have he:=hs e (h e (by simp));have ih:=Rz hs a b r (f+(aZ sh e).length) (λy hy=>h y (sF _ hy)) x;unfold Ml OD at hx;rcases hx with (z|z)|(z|z)
  ·split at z
   ·rw[List.mem_singleton.mp z];exact h e (by simp)
   ·split at z
    ·cases z
    ·rcases List.mem_append.mp z with z|z
     ·exact he x (List.mem_of_mem_take z)
     ·exact he x (List.mem_of_mem_drop z)
  ·exact ih (.inl z)
  ·split at z
   ·cases z
   ·split at z
    ·rw[List.mem_singleton.mp z];exact h e (by simp)
    ·exact he x (List.mem_of_mem_take (List.mem_of_mem_drop z))
  ·exact ih (.inr z)
theorem AH{sh:Int->List Int}{N:Int->Prop}(hs:∀ e,N e->∀ x∈aZ sh e,N x){p:Int}{es new:List Int}(h:∀ e∈es,N e)(g:∀ e∈new,N e):∀ e∈iU sh p es new,N e:=by
 intro x hx;unfold iU at hx;split at hx
 ·exact h x hx
 ·rw[List.mem_append,List.mem_append]at hx;rcases hx with (z|z)|z
  ·exact Jh hs p es 0 h x (.inl z)
  ·exact g x z
  ·exact Jh hs p es 0 h x (.inr z)
theorem Gd.cl{n:Nat}{rows:dM}{sh:Int->List Int}(h:Gd n rows sh):∀ e,xN n rows.length e->∀ x∈aZ sh e,xN n rows.length x:=by
 intro e he x hx;unfold aZ at hx;rcases he with z|z
 ·rw[if_neg (by omega)]at hx;rw[List.mem_singleton.mp hx];exact .inl z
 ·rw[if_pos z.1]at hx;exact .inl (h.Sm _ (by omega) z.2 x hx)
theorem Gd.own{n:Nat}{rows:dM}{sh:Int->List Int}(h:Gd n rows sh)(s:Int):∀ e∈jE.own rows s,xN n rows.length e:=by
 unfold jE.own
 cases e:rows[s.toNat]? with
 | none=>exact λ_ z=>nomatch z
 | some es=>exact h.en es (vn e)
inductive LD
 | put (s p:Int) (r:Addr) (row:Row)
 | cut (s a b:Int)
 | Uw (s a b t:Int)
 | Vz (t p s a b:Int)
 | win (t p s:Int)
 | fix (s:Int)
def LD.sh:LD->Int
 | .put s _ _ _=>s
 | .cut s _ _=>s
 | .Uw s _ _ _=>s
 | .Vz t _ _ _ _=>t
 | .win t _ _=>t
 | .fix s=>s
def LD.At(H:Hp)(d:Addr):LD->Prop
 | .put s p r row=>H d=some (.tup [.str "put",.int s,.int p,.ref r])/\cL H r row
 | .cut s a b=>H d=some (.tup [.str "cut",.int s,.int a,.int b])
 | .Uw s a b t=>H d=some (.tup [.str "move",.int s,.int a,.int b,.int t])
 | .Vz t p s a b=>H d=some (.tup [.str "quote",.int t,.int p,.int s,.int a,.int b])
 | .win t p s=>H d=some (.tup [.str "window",.int t,.int p,.int s])
 | .fix s=>H d=some (.tup [.str "fix",.int s])
def LD.Ok(n m:Nat)(sh:Int->List Int):LD->Prop
 | .put s p _ row=>qh m s/\(0<=p/\p<=(sh s).length)/\row.length<=2/\∀ q∈row,0<=q.1/\q.1<q.2/\q.2<=(n:Nat)/\q.2<=q.1+40
 | .cut s a b=>qh m s/\DQ a b (sh s).length
 | .Uw s a b t=>qh m s/\Mv a b t (sh s).length
 | .Vz t p s a b=>qh m t/\(0<=p/\p<=(sh t).length)/\qh m s/\DQ a b (sh s).length
 | .win t p s=>qh m t/\(0<=p/\p<=(sh t).length)/\qh m s
 | .fix s=>qh m s
def LD.res(sh:Int->List Int)(rows:dM):LD->List Int
 | .put s p _ row=>iU sh p (own rows s) (bW row)
 | .cut s a b=>bX sh a b (own rows s)
 | .Uw s a b t=>qL sh a b t (own rows s)
 | .Vz t p s a b=>iU sh p (own rows t) (((sh s).take b.toNat).drop a.toNat)
 | .win t p s=>iU sh p (own rows t) [-1-s]
 | .fix s=>sh s
theorem LD.Sm{n m:Nat}{sh:Int->List Int}{dd:LD}(h:dd.Ok n m sh):qh m dd.sh:=by
 cases dd with
 | fix=>exact h
 | _=>exact h.1
theorem LD.XC{n:Nat}{rows:dM}{sh:Int->List Int}(g:Gd n rows sh){dd:LD}(h:dd.Ok n rows.length sh):∀ e∈dd.res sh rows,xN n rows.length e:=by
 have cl:=g.cl
 cases dd with
 | put s p r row =>
  refine AH cl (g.own s) λe he=>.inl (Rp (λq hq=>?_) he);have:=h.2.2.2 q hq;exact⟨this.1,this.2.1,this.2.2.1⟩
 | cut s a b =>
  intro e he;unfold LD.res bX at he;dsimp only at he;split at he
  ·exact g.own s e he
  ·exact Rz cl a b _ 0 (g.own s) e (.inl he)
 | Uw s a b t =>
  intro e he;unfold LD.res qL at he;dsimp only at he;split at he
  ·exact g.own s e he
  ·have kk:=Rz cl a b (own rows s) 0 (g.own s);rw[List.mem_append,List.mem_append]at he;rcases he with (z|z)|z
   ·exact Jh cl t _ 0 (λy hy=>kk y (.inl hy)) e (.inl z)
   ·exact kk e (.inr z)
   ·exact Jh cl t _ 0 (λy hy=>kk y (.inl hy)) e (.inr z)
 | Vz t p s a b =>
  refine AH cl (g.own t) λe he=>.inl (g.Sm s h.2.2.1.1 h.2.2.1.2 e (List.mem_of_mem_take (List.mem_of_mem_drop he)))
 | win t p s =>
  refine AH cl (g.own t) λe he=>.inr ?_;rw[List.mem_singleton.mp he];have:=h.2.2;unfold qh at this;omega
 | fix s=>exact λe he=>.inl (g.Sm s h.1 h.2 e he)
theorem LD.At.same{H H':Hp}{d:Addr}{dd:LD}(s:aG H H')(h:dd.At H d):dd.At H' d:=by
 cases dd with
 | put=>exact⟨s _ _ h.1,h.2.same s⟩
 | _=>exact s _ _ h
theorem RA(sh:Int->List Int){a b:Int}{N:Int->Prop}:∀ (es:List Int) (f:Int),(∀ e∈es,∀ x∈aZ sh e,N x)->∀ x∈kE sh a b f es,x∈es\/N x
 | [],_,_=>λx hx=>by cases hx
 | e::r,f,h=>by
  intro x hx;rw[kE]at hx;rcases List.mem_append.mp hx with z|z
  ·unfold Ml at z;split at z
   ·rw[List.mem_singleton.mp z];exact .inl (by simp)
   ·split at z
    ·cases z
    ·rcases List.mem_append.mp z with y|y
     ·exact .inr (h e (by simp) x (List.mem_of_mem_take y))
     ·exact .inr (h e (by simp) x (List.mem_of_mem_drop y))
  ·rcases RA sh r _ (λe he=>h e (sF _ he)) x z with y|y
   ·exact .inl (sF _ y)
   ·exact .inr y
theorem zw(sh:Int->List Int):∀ (xs:List Int),(∀ x∈xs,0<=x)->aU sh xs=xs
 | [],_=>rfl
 | x::xs,h=>by rw[ck,wQ sh (h x (by simp)),zw sh xs λy hy=>h y (sF _ hy)];rfl
theorem ML(sh:Int->List Int){a b:Int}(ab:a<=b):∀ (es:List Int) (f:Int),(∀ e∈es,∀ x∈aZ sh e,0<=x)->(aU sh (kE sh a b f es)).length<=(aU sh es).length
 | [],_,_=>by simp[kE]
 | e::r,f,h=>by
  rw[kE,nR,ck,dX,dX];have ih:=ML sh ab r (f+(aZ sh e).length) (λe he=>h e (sF _ he))
  have one:(aU sh (Ml sh a b f e)).length<=(aZ sh e).length:=by
   unfold Ml;split
   ·rw[ck];simp[aU]
   ·split
    ·simp[aU]
    ·rename_i c1 c2;have h1:=h e (by simp);rw[nR,zw sh _ λx hx=>h1 x (List.mem_of_mem_take hx),zw sh _ λx hx=>h1 x (List.mem_of_mem_drop hx),dX,jK,vq];omega
  omega
theorem VA(sh:Int->List Int){a b:Int}(ab:a<b):∀ (es:List Int) (f:Int),f<=a->a<f+(aU sh es).length->tE sh a b f es≠[]
 | [],f,h,g=>by simp[aU]at g;omega
 | e::r,f,h,g=>by
  rw[ck,dX]at g;rw[tE];intro z;obtain⟨z1,z2⟩:=List.append_eq_nil_iff.mp z;by_cases c1:f+(aZ sh e).length<=a
  ·exact VA sh ab r (f+(aZ sh e).length) c1 (by omega) z2
  ·unfold OD at z1;rw[if_neg (λy=>y.elim c1 (by omega))]at z1;split at z1
   ·cases z1
   ·rename_i c2;have q:=congrArg List.length z1;rw[vq,jK,uA]at q;omega
theorem Ji{sh sg:Int->List Int}(p:Int):∀ (es:List Int) (f:Int),(∀ e∈es,aZ sh e=aZ sg e)->aE sh p f es=aE sg p f es
 | [],_,_=>rfl
 | e::r,f,h=>by rw[aE,aE,h e (by simp),Ji p r _ λx hx=>h x (sF _ hx)]
theorem Jj{sh sg:Int->List Int}(p:Int):∀ (es:List Int) (f:Int),(∀ e∈es,aZ sh e=aZ sg e)->bE sh p f es=bE sg p f es
 | [],_,_=>rfl
 | e::r,f,h=>by rw[bE,bE,h e (by simp),Jj p r _ λx hx=>h x (sF _ hx)]
theorem Jk{sh sg:Int->List Int}:∀ (es:List Int),(∀ y∈dZ es,(sg y).length<=(sh y).length)->(aU sg es).length<=(aU sh es).length
 | [],_=>by simp[aU]
 | e::r,h=>by
  rw[ck,ck,dX,dX]
  have ih:=Jk (sh:=sh) (sg:=sg) r λy hy=>h y (by
   obtain⟨a,b⟩:=b9.mp hy
   exact b9.mpr ⟨a,sF _ b⟩)
  have one:(aZ sg e).length<=(aZ sh e).length:=by
   unfold aZ;by_cases c:e<0
   ·rw[if_pos c,if_pos c];exact h _ (b9.mpr ⟨by omega,by rw[show -1-(-1-e)=e by omega];simp⟩)
   ·rw[if_neg c,if_neg c];exact jz _
  omega
structure aax(rows:dM)(sh:Int->List Int)(rk:Int->Nat)(s a b:Int)(es:List Int)(rs:dM)(sg:Int->List Int):Prop where
 snd:jw rs
 nx:∀ x y,nJ rs x y->nJ rows x y
 QL:qz rs sg
 bd:∀ x:Int,0<=x->x<rs.length->(sg x).length<=10000
 eq:∀ n,rk n<rk s->0<=n->n<rows.length->sg n=sh n
theorem RB{rows:dM}{sh:Int->List Int}{rk:Int->Nat}{s a b:Int}{es:List Int}(ux:jw rows)(ZJ:∀ x,rk x<=40)(U9:∀ x y,nJ rows x y->rk y<rk x)(AN:qz rows sh)(GY:∀ x:Int,0<=x->x<rows.length->(sh x).length<=10000)(h0:0<=s)(h1:s<rows.length)(he:rows[s.toNat]?=some es)(ab:a<=b):∃ sg,aax rows sh rk s a b es (rows.set s.toNat (bX sh a b es)) sg:=by
 have hnn:=um ux ⟨rk,ZJ,U9⟩ AN
 have ent:∀ e∈es,∀ x∈aZ sh e,0<=x:=λe hm x hx=>by
  unfold aZ at hx;by_cases c:e<0
  ·rw[if_pos c]at hx;have nx:nJ rows s (-1-e):=⟨h0,es,he,b9.mpr ⟨by omega,by rw[show -1-(-1-e)=e by omega];exact hm⟩⟩;obtain⟨p,q⟩:=ux.FZ nx;exact hnn _ p q x hx
  ·rw[if_neg c]at hx;rw[List.mem_singleton.mp hx];omega
 have win:∀ y∈dZ (bX sh a b es),y∈dZ es:=λy hy=>by
  obtain⟨y0,hm⟩:=b9.mp hy;refine b9.mpr ⟨y0,?_⟩;unfold bX at hm;split at hm
  ·exact hm
  ·rcases RA sh es 0 ent _ hm with z|z
   ·exact z
   ·omega
 have nx:∀ x y,nJ (rows.set s.toNat (bX sh a b es)) x y->nJ rows x y:=by
  rintro x y ⟨x0,xq,hx,hy⟩;by_cases c:x.toNat=s.toNat
  ·rw[c,List.getElem?_set,if_pos rfl]at hx;split at hx
   ·cases hx;exact⟨x0,es,by rw[c];exact he,win y hy⟩
   ·cases hx
  ·rw[List.getElem?_set_ne (λz=>c z.symm)]at hx;exact⟨x0,xq,hx,hy⟩
 have snd:jw (rows.set s.toNat (bX sh a b es)):=λxq hm y hy=>by
  rw[List.length_set];rcases List.mem_or_eq_of_mem_set hm with z|z
  ·exact ux xq z y hy
  ·subst z;exact ux es (vn he) y (win y hy)
 obtain⟨sg,hsg⟩:=Dp (rows:=rows.set s.toNat (bX sh a b es)) ⟨rk,ZJ,λx y h=>U9 x y (nx x y h)⟩
 have GO:(rows.set s.toNat (bX sh a b es))[s.toNat]?=some (bX sh a b es):=by
  rw[List.getElem?_set,if_pos rfl,if_pos (by omega)]
 have key:∀ (k:Nat) (x:Int),rk x<k->0<=x->x<rows.length->(rk x<rk s->sg x=sh x)/\(sg x).length<=(sh x).length:=by
  intro k
  induction k with
  | zero=>intro x h;omega
  | succ k ih =>
   intro x hx x0 x1;by_cases c:x.toNat=s.toNat
   ·have xs:x=s:=by omega
    subst xs;refine⟨λz=>by omega,?_⟩;have e1:=hsg x _ x0 GO
    have e2:aU sg (bX sh a b es)=aU sh (bX sh a b es):=we λy hy=>by
     have n:=U9 x y ⟨x0,es,he,win y hy⟩;obtain⟨p,q⟩:=ux.FZ ⟨x0,es,he,win y hy⟩;exact (ih y (by omega) p q).1 n
    rw[e1,e2,AN x es x0 he];unfold bX;split
    ·exact jz _
    ·exact ML sh ab es 0 ent
   ·have hx1:rows[x.toNat]?=some rows[x.toNat]:=oJ (by omega);have e1:=hsg x _ x0 (by rw[List.getElem?_set_ne (λz=>c z.symm)];exact hx1);have e2:=AN x _ x0 hx1
    have low:∀ y∈dZ rows[x.toNat],rk y<rk x/\0<=y/\y<rows.length:=λy hy=>by
     have n:nJ rows x y:=⟨x0,_,hx1,hy⟩;exact⟨U9 x y n,ux.FZ n⟩
    refine⟨λz=>?_,?_⟩
    ·rw[e1,e2];exact we λy hy=>(ih y (by have:=(low y hy).1;omega) (low y hy).2.1 (low y hy).2.2).1 (by have:=(low y hy).1;omega)
    ·rw[e1,e2];exact Jk _ λy hy=>(ih y (by have:=(low y hy).1;omega) (low y hy).2.1 (low y hy).2.2).2
 refine⟨sg,snd,nx,hsg,λx x0 x1=>?_,λn h n0 n1=>(key (rk n+1) n (Nat.lt_succ_self _) n0 n1).1 h⟩;rw[List.length_set]at x1;have:=(key (rk x+1) x (Nat.lt_succ_self _) x0 x1).2;have:=GY x x0 x1;omega
theorem Ux{rows:dM}{sh sg:Int->List Int}{rk:Int->Nat}{s a b to:Int}{es:List Int}(ux:jw rows)(ZJ:∀ x,rk x<=40)(U9:∀ x y,nJ rows x y->rk y<rk x)(AN:qz rows sh)(h0:0<=s)(he:rows[s.toNat]?=some es)(a0:0<=a)(ab:a<=b)(bn:b<=(sh s).length)(R:aax rows sh rk s a b es (rows.set s.toNat (bX sh a b es)) sg)(hk:(rows.set s.toNat (bX sh a b es))[s.toNat]?=some (bX sh a b es)):iU sg to (bX sh a b es) (kF sh a b es)=qL sh a b to es:=by
 unfold qL;by_cases c:a=b
 ·have e1:kF sh a b es=[]:=by unfold kF;rw[if_pos c]
  have e2:bX sh a b es=es:=by unfold bX;rw[if_pos c]
  rw[if_pos c,e1,e2];rfl
 ·rw[if_neg c];have e1:kF sh a b es=tE sh a b 0 es:=by unfold kF;rw[if_neg c]
  have e2:bX sh a b es=kE sh a b 0 es:=by unfold bX;rw[if_neg c]
  have ne:tE sh a b 0 es≠[]:=VA sh (by omega) es 0 a0 (by rw[← AN s es h0 he];omega)
  have ag:∀ e∈bX sh a b es,aZ sg e=aZ sh e:=λe hm=>by
   unfold aZ;by_cases d:e<0
   ·rw[if_pos d,if_pos d];have n:nJ (rows.set s.toNat (bX sh a b es)) s (-1-e):=⟨h0,_,hk,b9.mpr ⟨by omega,by rw[show -1-(-1-e)=e by omega];exact hm⟩⟩;have n':=R.nx _ _ n;obtain⟨p,q⟩:=ux.FZ n';exact R.eq _ (U9 _ _ n') p q
   ·rw[if_neg d,if_neg d]
  unfold iU;rw[e1,if_neg ne,Ji to _ 0 ag,Jj to _ 0 ag,e2]
theorem Oo{X:Cx}(hc:X.calm=true):pR X (.builtin "max") (λxs H Q=>∃ (p:Addr) (ns:List Int),xs=[.ref p]/\bR X.K H p (ns.map V.int)/\0<ns.length/\∀ M,M∈ns->(∀ a∈ns,a<=M)->Q (.int M) H):=by
 intro ao s σ H xs us Q I r h;obtain⟨p,ns,rfl,hq,ne,q⟩:=h;obtain⟨u,rfl,rx⟩:=r.one;cases (show u=Value.ref p from rx);obtain⟨aP,rv,pl,hz⟩:=I.list hq;have hi:PyProof.Rows.IntsAre aP ns:=intsAre_of rv;obtain⟨xs,e⟩:=hi.allInts.items;have hl:=pl.isList
 have Ov:ns=xs.toList.map (·.1):=by
  rw[← hi.numsOf,← PySem.nums_intItems,← e]
 have hsz:0<xs.size:=by
  have h3:=ne;rw[Ov,cS,Array.length_toList]at h3;exact h3
 rw[e]at hl;refine PySem.max_intList (I.ok.hd hc) hl hsz λv h' tk hv hk=>?_;obtain⟨t,rfl⟩:=PySem.intItems_at hv;obtain⟨h1,h2⟩:=PySem.argBest_gt (PySem.numAt xs) (xs.size-1);refine⟨.int _,H,I.kept hk,⟨t,rfl⟩,q _ ?_ λa ha=>?_⟩
 ·rw[Ov,PySem.numAt_eq];exact PySem.getD_mem (by rw[cS,Array.length_toList];omega)
 ·rw[Ov]at ha;obtain⟨j,hj,rfl⟩:=PySem.mem_getD ha;rw[cS,Array.length_toList]at hj;rw[← PySem.numAt_eq];exact h2 j (by omega)
inductive RC(vs:List V)(H:Hp)(Q:VK)(E:XK):Prop
 | mk (av:Addr->Prop) (r:Addr) (rows:dM) (s:Int) (_:vs=[.ref r,.int s]) (_:kC av H r rows) (_:rows.length<=40) (_:∀ es∈rows,es.length<=100000) (_:jw rows) (_:0<=s) (_:s<rows.length) (_:¬ Reach (nJ rows) s s->∀ x,¬ Reach (nJ rows) x x) (_:∀ (b:Bool) (H':Hp),aG H H'->(b=true->DR rows/\∃ f,Weighs rows f/\∀ x:Int,0<=x->x<rows.length->f x<=200)->Q (.bl b) H')
theorem Jl:aJ ["_law_rows","_law_sheet"] ["_law_rows","_law_sheet"] (aA rE):=jd
theorem Jm{f fr:Addr}(F:iK K "_law_fits" "_law_fits" rE f fd)(T:nL mg)(pL:aF K mg "_law_reached" pC m8 fr gr)(eO:aF K mg "_law_weighed" l9 m8 fw gw):aC P w K mg base bZ 43 f fd m8 RC:=by
 have Ej:aC P w K mg base bZ 1 _ _ m8 Fq:=Dr pL.F T;have tT:aC P w K mg base bZ 42 _ _ m8 (uv 41):=wg T eO 41;refine lW F Jl λdJ A outer s0 H vs Q E hr h=>?_;obtain⟨av,r,rows,s,rfl,R,ln,he,sd,s0,s1,rg,k⟩:=h;refine⟨_,(aj (bT (bh Nk (pv 1) (aK pL Ej hr (aa (pv 0) (aa (pv 1) ah))) rfl) (au (aO oG)) bu) (au (aO (uD jG (cO (Oo rfl) rfl T.Ie PyProof.Rows.boot_max (aa (mh (N:=["_law_other","_law_rows"]) (ud (sc:=aA rE) (NX:=["_law_rows","_law_sheet"]) (jx:=[none,some 0]) rfl rfl rfl (by decide +kernel) (by decide +kernel) rfl (by decide +kernel) rfl (by decide +kernel)) rfl (kZ rfl T.nM (aa (jy T.je (pv 0)) ah)) (λ_ _ _ _ _ _=>(cE (i:=0) (show List.Nodup (["_law_other","_law_rows"]:List Str) by decide +kernel))) (λ_ _ _ _ _ _=>mF) (λ_ _ _ _ _ _=>(aK eO tT hr (aa (pv 1) (aa (pv 0) ah))))) ah)) ay (bz _))))),?_⟩;refine⟨_,rfl,_,rfl,_,rfl,av,r,rows,s,rfl,R,by omega,he,sd,s0,s1,λL o H1 ho sm iff=>?_⟩;refine⟨o,_,rfl,.inl (bR.of ho),rfl,EX L,_,rfl,?_⟩;rw[LY];by_cases hm:s∈L
 ·rw[decide_eq_true hm];exact j9 (k false H1 sm λz=>nomatch z)
 rw[decide_eq_false hm];refine iI ?_;have R1:=XA sd ln (rg λz=>hm ((iff s).mpr z));obtain⟨f,hf⟩:=E5 R1;obtain⟨rk,rb,dn⟩:=id R1;have Rs:=R.same sm;obtain⟨vs,hr1,al⟩:=id Rs;have lv:=al.len;have gN:∀ i:Nat,((List.range i).map λj:Nat=>f (j:Int)).length=i:=λi=>by rw[cS,List.length_range]
 refine⟨_,rfl,r,_,rfl,.inl (bR.of hr1),_,rfl,by omega,by omega,λacc fH=>vM (lo:=0) (k:=((vs.length:Nat):Int).toNat) (λi σ H2=>∃ u:Option V,σ=[u,some (.ref r)]/\H2 acc=some (.lst (((List.range i).map λj:Nat=>f (j:Int)).map V.int))/\aG H1 H2) ⟨none,rfl,af,ak fH _⟩ ?_ ?_⟩
 ·rintro i σ H2 hi ⟨u,rfl,ha,s2⟩;have il:i<rows.length:=by omega
  refine⟨_,rfl,_,rfl,av,r,rows,0+(i:Int),f,rk,rfl,Rs.same s2,by omega,sd,by omega,by omega,hf,dn,by have:=rb (0+(i:Int));omega,_,ha,(by rw[cS,gN];exact aX (by omega)),_,rfl,?_,bV fH s2 (aN acc _ _)⟩;rw[af,List.range_succ,kT,kT,Int.zero_add];rfl
 ·rintro σ H2 ⟨u,rfl,ha,s2⟩;refine⟨acc,_,rfl,bR.of ha,by rw[gN];omega,λM _ hM=>⟨_,_,rfl,rfl,?_⟩⟩;refine k _ H2 (sm.trans s2) λz=>⟨R1,f,hf,λx x0 x1=>?_⟩;have y:=hM (f x) (List.mem_map.mpr ⟨x.toNat,List.mem_range.mpr (by omega),by rw[show ((x.toNat:Nat):Int)=x by omega]⟩);have:=of_decide_eq_true z;omega
theorem cK{a b:Str}(h:a≠b){A B:Prop}(z:B):if decide (V.str a=V.str b)=true then A else B:=by
 rw[if_neg λy=>h (V.str.inj (of_decide_eq_true y))];exact z
theorem mG{a:Str}{A B:Prop}(z:A):if decide (V.str a=V.str a)=true then A else B:=by
 rw[if_pos (decide_eq_true rfl)];exact z
theorem OF.at_{W:Addr->Prop}{ik:Addr}{H:Hp}{a:Addr}{rows:dM}(h:OF W ik ps H a rows):kC (λ_=>False) H a rows:=by
 obtain⟨_,_,_,vs,hv,al⟩:=h;exact⟨vs,hv,al.mono λv es ⟨b,e,_,_,_,hb⟩=>⟨b,e,λz=>z,hb⟩⟩
theorem n9{rows:dM}{s:Int}(h:qh rows.length s):rows[s.toNat]?=some (own rows s):=by
 have:s.toNat<rows.length:=by have:=h.1;have:=h.2;omega
 unfold own;rw[oJ this];rfl
inductive MM(vs:List V)(H:Hp)(Q:VK)(E:XK):Prop
 | mk (W:Addr->Prop) (w d:Addr) (aS:m7) (pq:ou) (rows:dM) (n:Nat) (sh:Int->List Int) (dd:LD) (_:vs=[.ref w,.ref d]) (_:Wo W H w aS pq rows) (_:dd.At H d) (_:Gd n rows sh) (_:dd.Ok n rows.length sh) (_:n<=10000) (_:∀ (o:Addr) (H':Hp),H' o=some (.lst ((dd.res sh rows).map V.int))->(dd.res sh rows).length<=100000->aG H H'->H o=none->Q (.ref o) H')
theorem oh:aJ ["_law_world_here","_law_deed_here","_law_rows","_law_name","_law_kept","_law_taken"] ["_law_world_here","_law_deed_here"] (aA sQ):=jd
theorem GP{f f3:Addr}{g1 g2 g3 g4 g5:FuncData}(F:iK K "_law_after" "_law_after" sQ f fd)(T:nL mg)(bN:aF K mg "_law_show" jo m8 f1 g1)(gR:aF K mg "_law_pieces" lE MU f2 g2)(oZ:aF K mg "_law_put" wD VI f3 g3)(uw:aF K mg "_law_cut" wG VJ f4 g4)(ju:aF K mg "_law_swap" rC MV f5 g5)(tF:aF K mg "_law_spell" sP ["_law_row"] f6 g6):aC P w K mg base bZ 45 f fd VM MM:=by
 have gG:aC P w K mg base bZ 42 _ _ m8 (uY 41):=mY T bN 41;have wX:aC P w K mg base bZ 44 _ _ VI (K9 41):=La oZ.F T bN gR;have Fv:aC P w K mg base bZ 44 _ _ VJ (Rv 41):=Lb uw.F T bN gR;have su:aC P w K mg base bZ 1 _ _ MV GI:=v8 ju.F T;have Jo:aC P w K mg base bZ 1 _ _ ["_law_row"] (LL 1000000):=GJ tF.F T;refine lW F oh λdJ A outer s0 H vs Q E hr h=>?_;obtain⟨W,w,d,aS,pq,rows,n,sh,dd,rfl,wo,hd,g,ok,n10,k⟩:=h;have hu:=lO hr;refine⟨_,(aj (bx (i:=2) oh.nd (jQ hu (pv 0) bG)) (aj (bx (i:=3) oh.nd (aV br (pv 1) ay)) (aj (bT (bh gU (pv 3) bG (bz _)) (au (aO (aK oZ wX hr (aa (pv 2) (aa (aV br (pv 1) ay) (aa (aV br (pv 1) ay) (aa (aK tF Jo hr (aa (aV br (pv 1) ay) ah)) ah))))))) bu) (aj (bT (bh gU (pv 3) bG (bz _)) (au (aO (aV br (aK uw Fv hr (aa (pv 2) (aa (aV br (pv 1) ay) (aa (aV br (pv 1) ay) (aa (aV br (pv 1) ay) ah))))) ay))) bu) (aj (bT (bh gU (pv 3) bG (bz _)) (aj (rf (aK uw Fv hr (aa (pv 2) (aa (aV br (pv 1) ay) (aa (aV br (pv 1) ay) (aa (aV br (pv 1) ay) ah))))) (tM (n:=2) rfl (cB (cE (i:=4) oh.nd) (cB (cE (i:=5) oh.nd) kY)))) (au (aO (aK oZ wX hr (aa (aK ju su hr (aa (pv 2) (aa (aV br (pv 1) ay) (aa (pv 4) ah)))) (aa (aV br (pv 1) ay) (aa (aV br (pv 1) ay) (aa (pv 5) ah)))))))) bu) (aj (bT (bh gU (pv 3) bG (bz _)) (au (aO (aK oZ wX hr (aa (pv 2) (aa (aV br (pv 1) ay) (aa (aV br (pv 1) ay) (aa (j7 qF (aK bN gG hr (aa (pv 2) (aa (aV br (pv 1) ay) ah))) (lu (aV br (pv 1) ay)) (lu (aV br (pv 1) ay))) ah))))))) bu) (aj (bT (bh gU (pv 3) bG (bz _)) (au (aO (aK oZ wX hr (aa (pv 2) (aa (aV br (pv 1) ay) (aa (aV br (pv 1) ay) (aa (bQ (aa (bC dm (jF gS ay) (aV br (pv 1) ay)) ah)) ah))))))) bu) (aj (bT (bh gU (pv 3) bG (bz _)) (au (aO (aK bN gG hr (aa (pv 2) (aa (aV br (pv 1) ay) ah))))) bu) (au (aO (aV bP (aV bP (jQ hu (pv 0) bG) (aV br (pv 1) ay)) (aV br (pv 1) ay)))))))))))),?_⟩;obtain⟨ik,jW,ps,vl,wu⟩:=id wo;have zr:=nI.k (k:=kR) wu.hw;rw[show cW (yx ik jW ps vl) kR=some (.ref jW) by kernel_rfl]at zr;have R:=wu.hr.at_;obtain⟨rk,rb,dn⟩:=g.sn.rk;have l40:=g.ln;have lr:rows.length<=1000:=by omega
 have rb':∀ s,rk s<=41:=λs=>by have:=rb s;omega
 have e25:∀ es∈rows,es.length<=25000:=λes he=>by have:=g.es es he;omega
 refine⟨_,rfl,w,_,rfl,zr,?_⟩
 have oB:∀ {s p:Int} {new:List Int} {q o:Addr} {H1:Hp} {Q:VK} {E:XK},qh rows.length s->kC (λ_=>False) H1 q rows->H1 o=some (.lst (new.map V.int))->new.length<=25000->aG H H1->(∀ (o:Addr) (H':Hp),H' o=some (.lst ((iU sh p (own rows s) new).map V.int))->(iU sh p (own rows s) new).length<=100000->aG H H'->H o=none->Q (.ref o) H')->K9 41 [.ref q,.int s,.int p,.ref o] H1 Q E:=by
  intro s p new q o H1 Q E is R1 ho ln s1 k1;refine⟨_,q,o,rows,s,p,new,sh,rk,rfl,R1,lr,e25,g.sn.sd,g.sn.ss,g.sn.ln,dn,is.1,is.2,rb' s,ho,ln,λes o2 H2 uq h2 l2 s2 f2=>?_⟩;rw[n9 is]at uq;cases uq;exact k1 o2 H2 h2 l2 (s1.trans s2) (aY s1 f2)
 cases dd with
 | put s p r row =>
  obtain⟨hd,RD⟩:=hd;obtain⟨is,ip,l2,hq⟩:=ok;refine⟨_,rfl,d,_,_,_,rfl,rfl,ef.of hd,yc,?_⟩;refine⟨_,rfl,rfl,_,rfl,mG ?_⟩;have bd:=Jc (k:=40) (row:=row) λq h=>by have:=hq q h;omega
  refine⟨_,rfl,_,rfl,d,_,_,_,rfl,rfl,ef.of hd,yT,_,rfl,d,_,_,_,rfl,rfl,ef.of hd,DV,_,rfl,d,_,_,_,rfl,rfl,ef.of hd,DW,r,row,rfl,RD,λq h=>by have:=hq q h;omega,by omega,by omega,λo1 H1 h1 s1 f1=>?_⟩;exact oB is (R.same s1) h1 (by omega) s1 k
 | cut s a b =>
  obtain⟨is,i3⟩:=ok;refine⟨_,rfl,d,_,_,_,rfl,rfl,ef.of hd,yc,?_⟩;refine⟨_,rfl,rfl,_,rfl,cK (by decide +kernel) ⟨_,rfl,rfl,_,rfl,mG ?_⟩⟩;refine⟨_,rfl,_,rfl,d,_,_,_,rfl,rfl,ef.of hd,yT,_,rfl,d,_,_,_,rfl,rfl,ef.of hd,DV,_,rfl,d,_,_,_,rfl,rfl,ef.of hd,DW,_,jW,rows,s,a,b,sh,rk,rfl,R,lr,(λes he=>by have:=g.es es he;omega),g.sn.sd,g.sn.ss,g.sn.ln,dn,is.1,is.2,rb' s,i3.2.1,λes tu L M H1 uq ht hL hM s1 fL fM nLM=>?_⟩;rw[n9 is]at uq;cases uq;refine⟨tu,_,_,_,rfl,rfl,ef.of ht,yc,k L H1 hL ?_ s1 fL⟩;have cl:=yr sh a b (own rows s);have ls:=g.sl s is.1 is.2;rw[g.sn.ss s _ is.1 (n9 is)]at ls;have:=g.es _ (vn (n9 is));show (bX sh a b (own rows s)).length<=_;omega
 | Uw s a b t =>
  obtain⟨is,mv⟩:=ok;have i3:=mv.1;have lo:=g.es _ (vn (n9 is));have e:=g.sn.ss s _ is.1 (n9 is);have ls:=g.sl s is.1 is.2;rw[e]at ls;have cl:=yr sh a b (own rows s);have tl:=Ds sh a b (own rows s);refine⟨_,rfl,d,_,_,_,rfl,rfl,ef.of hd,yc,?_⟩;refine⟨_,rfl,rfl,_,rfl,cK (by decide +kernel) ⟨_,rfl,rfl,_,rfl,cK (by decide +kernel) ⟨_,rfl,rfl,_,rfl,mG ?_⟩⟩⟩;refine⟨_,rfl,_,rfl,d,_,_,_,rfl,rfl,ef.of hd,yT,_,rfl,d,_,_,_,rfl,rfl,ef.of hd,DV,_,rfl,d,_,_,_,rfl,rfl,ef.of hd,DW,_,jW,rows,s,a,b,sh,rk,rfl,R,lr,(λes he=>by have:=g.es es he;omega),g.sn.sd,g.sn.ss,g.sn.ln,dn,is.1,is.2,rb' s,i3.2.1,λes tu L M H1 uq ht hL hM s1 fL fM nLM=>?_⟩;rw[n9 is]at uq;cases uq;obtain⟨vs,hr1,al⟩:=R.same s1;have lv:=al.len;have is1:=is.1;have is2:=is.2;have NK:=s1 _ _ hd;refine⟨tu,_,rfl,ef.of ht,rfl,_,_,rfl,_,_,rfl,rfl,?_⟩;refine⟨_,rfl,_,rfl,d,_,_,_,rfl,rfl,ef.of NK,yT,_,rfl,jW,L,s.toNat,vs,(by rw[show ((s.toNat:Nat):Int)=s by omega];rfl),hr1,by omega,by omega,λq H2 hq s2 fq=>?_⟩;have hd2:=s2 _ _ NK;obtain⟨sg,RR⟩:=RB (a:=a) (b:=b) g.sn.sd rb dn g.sn.ss g.sn.ln is.1 is.2 (n9 is) i3.2.1
  have GO:(rows.set s.toNat (bX sh a b (own rows s)))[s.toNat]?=some (bX sh a b (own rows s)):=by
   rw[List.getElem?_set,if_pos rfl,if_pos (by omega)]
  have R2:kC (λ_=>False) H2 q (rows.set s.toNat (bX sh a b (own rows s))):=⟨_,hq,cj.set _ (al.mono λv es z=>iQ.same s2 z) ⟨L,rfl,λz=>z,s2 _ _ hL⟩⟩
  refine⟨_,rfl,d,_,_,_,rfl,rfl,ef.of hd2,yT,_,rfl,d,_,_,_,rfl,rfl,ef.of hd2,TV,_,rfl,_,q,M,_,s,t,kF sh a b (own rows s),sg,rk,rfl,R2,by rw[List.length_set];omega,(λxq hm=>by
   rcases List.mem_or_eq_of_mem_set hm with z|z
   ·exact e25 xq z
   ·rw[z];omega),RR.snd,RR.QL,RR.bd,(λx y h=>dn x y (RR.nx x y h)),is.1,by rw[List.length_set];exact is.2,rb' s,s2 _ _ hM,by omega,λxq o H3 LP h3 l3 s3 f3=>?_⟩
  rw[GO]at LP;cases LP;rw[Ux g.sn.sd rb dn g.sn.ss is.1 (n9 is) i3.1 i3.2.1 i3.2.2 RR GO]at h3 l3;exact k o H3 h3 l3 (s1.trans (s2.trans s3)) (aY (s1.trans s2) f3)
 | Vz t p s a b =>
  obtain⟨it,ip,is,i3⟩:=ok;refine⟨_,rfl,d,_,_,_,rfl,rfl,ef.of hd,yc,?_⟩;refine⟨_,rfl,rfl,_,rfl,cK (by decide +kernel) ⟨_,rfl,rfl,_,rfl,cK (by decide +kernel) ⟨_,rfl,rfl,_,rfl,cK (by decide +kernel) ⟨_,rfl,rfl,_,rfl,mG ?_⟩⟩⟩⟩;have ls:=g.sl s is.1 is.2;refine⟨_,rfl,_,rfl,d,_,_,_,rfl,rfl,ef.of hd,yT,_,rfl,d,_,_,_,rfl,rfl,ef.of hd,DV,_,rfl,_,rfl,d,_,_,_,rfl,rfl,ef.of hd,DW,_,jW,rows,s,sh,rk,rfl,R,lr,g.sn.sd,is.1,is.2,g.sn.ss,g.sn.ln,dn,by have:=rb s;omega,λo1 H1 h1 s1 f1=>?_⟩;have NK:=s1 _ _ hd;refine⟨_,rfl,d,_,_,_,rfl,rfl,ef.of NK,TV,_,rfl,_,rfl,d,_,_,_,rfl,rfl,ef.of NK,ZG,_,rfl,o1,_,rfl,bR.of h1,λq hq=>?_⟩;have s2:=ak hq (.lst (pT ((sh s).map V.int) (some a) (some b)));have h2:(aQ H1 q (.lst (pT ((sh s).map V.int) (some a) (some b)))) q=some (.lst ((((sh s).take b.toNat).drop a.toNat).map V.int)):=by rw[af,IP _ i3.1 (by have:=i3.1;have:=i3.2.1;omega),List.map_drop,List.map_take]
  generalize aQ H1 q (.lst (pT ((sh s).map V.int) (some a) (some b)))=H2 at s2 h2;exact oB it (R.same (s1.trans s2)) h2 (by rw[vq,jK];omega) (s1.trans s2) k
 | win t p s =>
  obtain⟨it,ip,is⟩:=ok;refine⟨_,rfl,d,_,_,_,rfl,rfl,ef.of hd,yc,?_⟩;refine⟨_,rfl,rfl,_,rfl,cK (by decide +kernel) ⟨_,rfl,rfl,_,rfl,cK (by decide +kernel) ⟨_,rfl,rfl,_,rfl,cK (by decide +kernel) ⟨_,rfl,rfl,_,rfl,cK (by decide +kernel) ⟨_,rfl,rfl,_,rfl,mG ?_⟩⟩⟩⟩⟩;refine⟨_,rfl,_,rfl,d,_,_,_,rfl,rfl,ef.of hd,yT,_,rfl,d,_,_,_,rfl,rfl,ef.of hd,DV,_,rfl,_,rfl,d,_,_,_,rfl,rfl,ef.of hd,DW,_,_,rfl,rfl,lX,λq hq=>?_⟩;exact oB it (R.same (ak hq _)) af (by show 1<=25000;decide) (ak hq _) k
 | fix s =>
  refine⟨_,rfl,d,_,_,_,rfl,rfl,ef.of hd,yc,?_⟩;refine⟨_,rfl,rfl,_,rfl,cK (by decide +kernel) ⟨_,rfl,rfl,_,rfl,cK (by decide +kernel) ⟨_,rfl,rfl,_,rfl,cK (by decide +kernel) ⟨_,rfl,rfl,_,rfl,cK (by decide +kernel) ⟨_,rfl,rfl,_,rfl,cK (by decide +kernel) ⟨_,rfl,rfl,_,rfl,mG ?_⟩⟩⟩⟩⟩⟩;exact⟨_,rfl,_,rfl,d,_,_,_,rfl,rfl,ef.of hd,yT,_,jW,rows,s,sh,rk,rfl,R,lr,g.sn.sd,ok.1,ok.2,g.sn.ss,g.sn.ln,dn,by have:=rb s;omega,λo1 H1 h1 s1 f1=>k o1 H1 h1 (by have:=g.sl s ok.1 ok.2;show (sh s).length<=_;omega) s1 f1⟩
theorem RE{n:Nat}{row:Row}(h:∀ z∈row,0<=z.1/\z.1<z.2/\z.2<=(n:Nat)):tR n row=true:=List.all_eq_true.mpr λq hq=>by
 have:=h q hq;unfold Sf;simp only[Bool.and_eq_true,decide_eq_true_eq];omega
def RG:Sp:=λ_ _ _ _=>False
theorem VB{k:Nat}{f:Addr}{ps:List Str}:aC P w K mg base bZ k f fd ps RG:=⟨λvs H Q E h=>h.elim,λA outer s H args us vs Q E _ _ _ _ h=>h.elim⟩
theorem XD{k:Nat}{f:Addr}{ps:List Str}:aC P w K mg base (lP P w) k f fd ps RG:=⟨λvs H Q E h=>h.elim,λA outer s H args us vs Q E _ _ _ _ h=>h.elim⟩
theorem XE{i:Int}(h0:0<=i)(h1:i<=20000):m6 i:=by
 have a:(20000:Int)<10^60:=by decide
 exact⟨by omega,by omega⟩
inductive RH(C CS CW CB:Addr)(vs:List V)(H:Hp)(Q:VK)(E:XK):Prop
 | mk (U:Addr->Prop) (x d:Addr) (pe:ou) (aB:pP) (aS:m7) (nW:Nat) (cD:Row) (rows:dM) (sh:Int->List Int) (dd:LD) (_:vs=[.ref x,.ref d]) (_:yo C CS CW CB U H x pe aB aS nW cD) (_:pe.getLast?=some rows) (_:pe.length<=900) (_:aB.length<=900) (_:aS.length<=10000) (_:dd.At H d) (_:Gd aS.length rows sh) (_:dd.Ok aS.length rows.length sh) (_:∃ f,sf (mz rows dd.sh.toNat (dd.res sh rows)) f) (_:∀ (U':Addr->Prop) (H':Hp) (jY:pP),jY.length=aB.length+1->yo C CS CW CB U' H' x (pe++[mz rows dd.sh.toNat (dd.res sh rows)]) jY aS nW cD->MA U U' H H'->Q .jm H')
theorem A7:aJ ["_law_house","_law_deed_here","_law_name"] ["_law_house","_law_deed_here"] (aA uJ):=jd
theorem Jp{f fS f3 h1 h2 h3 h4 h5 i1:Addr}{g1 g2 g3 g4 g5 k1 k2 k3 k4 k5 k6 k8 k9 j2:FuncData}(F:iK K "_law_done" "_law_done" uJ f fd)(X:Ay K mg C CS CW CB XS XM XT XO XP)(A1:IV K mg CS)(A2:Mw K mg)(A4:Yn K mg fS fZ)(A5:Xu K mg CW CB)(A6:Vp K mg)(aW:bU K C "enter" "Library.enter" cI Lg f1 g1)(aR:bU K C "change" "Library.change" cR Jz f2 g2)(bY:bU K C "shown" "Library.shown" iN xO f3 g3)(jj:bU K C "ink" "Library.ink" lD lZ f4 g4)(fF:bU K C "check_held" "Library.check_held" ie VD f5 g5)(jv:bU K C "pour" "Library.pour" l6 UC f6 g6)(iV:bU K C "fresh" "Library.fresh" kj lZ f7 g7)(qP:bU K C "put" "Library.put" qH zl9 f8 g8)(qQ:bU K C "cut" "Library.cut" qI VE f9 g9)(pM:bU K C "move" "Library.move" pB VF h1 k1)(oj:bU K C "quote" "Library.quote" nC VG h2 k2)(mH:bU K C "window" "Library.window" mE VH h3 k3)(lN:bU K C "fix" "Library.fix" qJ xO h4 k4)(tV:bU K C "back" "Library.back" xx ["self","sheet","moment"] h5 k5)(oY:aF K mg "cut_items" rA Su h6 k6)(jZ:aF K mg "parted" sM G1 h7 k7)(lM:aF K mg "moved_items" ni Sv h8 k8)(jP:aF K mg "fixed_items" nj tL h9 k9)(lY:aF K mg "shown" xV tL fS j1)(Fo:aF K mg "part" Hu pQ i1 j2):aC P w K mg base bZ 7 f fd VN (RH C CS CW CB):=by
 have tW:aC P w K mg base bZ 4 f6 g6 UC RG:=VB;have sC:aC P w K mg base (lP P w) 4 f7 g7 lZ RG:=XD;have Ek:aC P w K mg base bZ 4 h5 k5 ["self","sheet","moment"] RG:=VB;have GQ:aC P w K mg base (lP P w) 6 _ _ zl9 (MC C CS CW CB XS XO XP):=Dh qP.F X A1 A2 A4 A5 A6 aW aR bY jj fF;have GR:aC P w K mg base (lP P w) 6 _ _ VE (ME C CS CW CB XS XP):=Dl qQ.F X A1 A2 A6 aW aR oY jZ;have El:aC P w K mg base (lP P w) 6 _ _ VF (Rm C CS CW CB XS XP):=Bs pM.F X A1 A2 A6 aW aR lM jZ;have Du:aC P w K mg base (lP P w) 6 _ _ VG (Fl C CS CW CB XS XP):=AA oj.F X A1 A2 A4 A6 aW aR bY Fo;have Bv:aC P w K mg base (lP P w) 6 _ _ VH (Ja C CS CW CB XS XP):=zq mH.F X A1 A2 A6 aW aR;have u9:aC P w K mg base (lP P w) 6 _ _ xO (Rl C CS CW CB XS):=vY lN.F X A1 A2 A6 aW aR jP lY;obtain⟨⟨⟨T,_,_,_,_,_⟩,⟨fi,aH⟩,_,_,_,_,_,_,_,_⟩,_,_,_,_,_,_,_,_⟩:=X;refine lW F A7 λdJ A outer s0 H vs Q E hr h=>?_;obtain⟨U,x,d,pe,aB,aS,nW,cD,rows,sh,dd,rfl,LB,hl,l2,l3,l4,hd,g,ok,B,k⟩:=h;refine⟨_,(aj (bx (i:=2) A7.nd (aV br (pv 1) ay)) (aj (bT (bh gU (pv 2) bG (bz _)) (au (aO (dP (pv 0) aH jv tW hr dh (aa (aV br (pv 1) ay) (aa (aV br (pv 1) ay) ah))))) bu) (aj (bT (bh gU (pv 2) bG (bz _)) (au (aO (iu (pv 0) aH iV sC hr rN))) bu) (aj (bT (bh gU (pv 2) bG (bz _)) (au (aO (dP (pv 0) aH qP GQ hr rN (aa (aV br (pv 1) ay) (aa (aV br (pv 1) ay) (aa (gX ja rfl T.mQ xQ (aa (aV br (pv 1) ay) ah)) ah)))))) bu) (aj (bT (bh gU (pv 2) bG (bz _)) (au (aO (dP (pv 0) aH qQ GR hr rN (aa (aV br (pv 1) ay) (aa (aV br (pv 1) ay) (aa (aV br (pv 1) ay) ah)))))) bu) (aj (bT (bh gU (pv 2) bG (bz _)) (au (aO (dP (pv 0) aH pM El hr rN (aa (aV br (pv 1) ay) (aa (aV br (pv 1) ay) (aa (aV br (pv 1) ay) (aa (aV br (pv 1) ay) ah))))))) bu) (aj (bT (bh gU (pv 2) bG (bz _)) (au (aO (dP (pv 0) aH oj Du hr rN (aa (aV br (pv 1) ay) (aa (aV br (pv 1) ay) (aa (aV br (pv 1) ay) (aa (aV br (pv 1) ay) (aa (aV br (pv 1) ay) ah)))))))) bu) (aj (bT (bh gU (pv 2) bG (bz _)) (au (aO (dP (pv 0) aH mH Bv hr rN (aa (aV br (pv 1) ay) (aa (aV br (pv 1) ay) (aa (aV br (pv 1) ay) ah)))))) bu) (aj (bT (bh gU (pv 2) bG (bz _)) (au (aO (dP (pv 0) aH lN u9 hr rN (aa (aV br (pv 1) ay) ah)))) bu) (au (aO (dP (pv 0) aH tV Ek hr dh (aa (aV br (pv 1) ay) (aa (aV br (pv 1) ay) ah)))))))))))))),?_⟩;have l40:=g.ln;have l1:rows.length<=50:=by omega
 have sn:=g.sn;have one:∀ {l:List Nat},(aB++[l]).length=aB.length+1:=λ{l}=>by rw[dX];rfl
 have oB:∀ {s:Int},qh rows.length s->m6 s:=λz=>XE z.1 (by have:=z.2;omega);have XF:∀ {s p:Int},qh rows.length s->0<=p->p<=(sh s).length->m6 p:=λz p0 p1=>XE p0 (by have:=g.sl _ z.1 z.2;omega);obtain⟨S',Q9,d',Mf,MN,OH,OI,OJ,OL,OM,By,BA,XG,XH,XJ,XN,db',tb',yp,LU⟩:=id LB;have hx:=LU.L.hx
 cases dd with
 | put s p r row =>
  obtain⟨hd,RD⟩:=hd;obtain⟨is,ip,r2,hq⟩:=ok;have hh:=RE (n:=aS.length) (row:=row) λz h=>by have:=hq z h;exact⟨this.1,this.2.1,this.2.2.1⟩
  obtain⟨as,ha,pa⟩:=id RD;refine⟨_,rfl,d,_,_,_,rfl,rfl,ef.of hd,yc,?_⟩;refine⟨_,rfl,rfl,_,rfl,cK (by decide +kernel) ⟨_,rfl,rfl,_,rfl,cK (by decide +kernel) ⟨_,rfl,rfl,_,rfl,mG ?_⟩⟩⟩;refine⟨_,rfl,x,d',_,rfl,hx,rfl,_,rfl,d,_,_,_,rfl,rfl,ef.of hd,yT,_,rfl,d,_,_,_,rfl,rfl,ef.of hd,DV,_,rfl,d,_,_,_,rfl,rfl,ef.of hd,DW,r,_,rfl,.inl (bR.of ha),λq Wq=>?_⟩;have s1:=ak Wq (.lst (as.map V.ref));have T9:cL (aQ H q (.lst (as.map V.ref))) q row:=⟨as,af,pa.same s1⟩;generalize aQ H q (.lst (as.map V.ref))=H1 at s1 T9;refine⟨U,x,q,pe,aB,aS,nW,cD,row,s,p,rows,rfl,LB.same s1,T9,⟨by omega,λz h=>by have:=hq z h;exact⟨⟨by omega,by omega⟩,⟨by omega,by omega⟩⟩⟩,by omega,hl,l1,l2,l3,oB is,XF is ip.1 ip.2,λz=>absurd is z,λ_=>⟨sh,sn,λz=>absurd ip z,λ_=>⟨λhb=>absurd (hh.symm.trans hb) (by decide),λ_ es uq=>?_⟩⟩⟩;rw[n9 is]at uq;cases uq
  have ee:dQ (cV (cJ row))=bW row:=by
   rw[uh,sS _ λq h=>by have:=hq q h;omega]
  rw[ee];exact⟨B,λU' H' L' fr=>k U' H' _ one L' (fr.pre s1)⟩
 | cut s a b =>
  obtain⟨is,i3⟩:=ok;refine⟨_,rfl,d,_,_,_,rfl,rfl,ef.of hd,yc,?_⟩;refine⟨_,rfl,rfl,_,rfl,cK (by decide +kernel) ⟨_,rfl,rfl,_,rfl,cK (by decide +kernel) ⟨_,rfl,rfl,_,rfl,cK (by decide +kernel) ⟨_,rfl,rfl,_,rfl,mG ?_⟩⟩⟩⟩;refine⟨_,rfl,x,d',_,rfl,hx,rfl,_,rfl,d,_,_,_,rfl,rfl,ef.of hd,yT,_,rfl,d,_,_,_,rfl,rfl,ef.of hd,DV,_,rfl,d,_,_,_,rfl,rfl,ef.of hd,DW,U,x,pe,aB,aS,nW,cD,s,a,b,rows,rfl,LB,hl,l1,l2,l3,oB is,XF is i3.1 (by have:=i3.2.1;have:=i3.2.2;omega),XF is (by have:=i3.2.1;have:=i3.1;omega) i3.2.2,λz=>absurd is z,λ_=>⟨sh,sn,λz=>absurd i3 z,λ_ es uq=>?_⟩⟩;rw[n9 is]at uq;cases uq;exact⟨B,λU' H' L' fr=>k U' H' _ one L' fr⟩
 | Uw s a b t =>
  obtain⟨is,mv⟩:=ok;have i3:=mv.1;have i1:=i3.1;have i2:=i3.2.1;have i4:=i3.2.2;have i5:=mv.2;have sl:=g.sl s is.1 is.2;refine⟨_,rfl,d,_,_,_,rfl,rfl,ef.of hd,yc,?_⟩;refine⟨_,rfl,rfl,_,rfl,cK (by decide +kernel) ⟨_,rfl,rfl,_,rfl,cK (by decide +kernel) ⟨_,rfl,rfl,_,rfl,cK (by decide +kernel) ⟨_,rfl,rfl,_,rfl,cK (by decide +kernel) ⟨_,rfl,rfl,_,rfl,mG ?_⟩⟩⟩⟩⟩;refine⟨_,rfl,x,d',_,rfl,hx,rfl,_,rfl,d,_,_,_,rfl,rfl,ef.of hd,yT,_,rfl,d,_,_,_,rfl,rfl,ef.of hd,DV,_,rfl,d,_,_,_,rfl,rfl,ef.of hd,DW,_,rfl,d,_,_,_,rfl,rfl,ef.of hd,TV,U,x,pe,aB,aS,nW,cD,s,a,b,t,rows,rfl,LB,hl,l1,l2,l3,oB is,⟨by omega,by omega⟩,⟨by omega,by omega⟩,⟨by omega,by omega⟩,λz=>absurd is z,λ_=>⟨sh,sn,λz=>absurd mv z,λ_ es uq=>?_⟩⟩;rw[n9 is]at uq;cases uq;exact⟨B,λU' H' L' fr=>k U' H' _ one L' fr⟩
 | Vz t p s a b =>
  obtain⟨it,ip,is,i3⟩:=ok;refine⟨_,rfl,d,_,_,_,rfl,rfl,ef.of hd,yc,?_⟩;refine⟨_,rfl,rfl,_,rfl,cK (by decide +kernel) ⟨_,rfl,rfl,_,rfl,cK (by decide +kernel) ⟨_,rfl,rfl,_,rfl,cK (by decide +kernel) ⟨_,rfl,rfl,_,rfl,cK (by decide +kernel) ⟨_,rfl,rfl,_,rfl,cK (by decide +kernel) ⟨_,rfl,rfl,_,rfl,mG ?_⟩⟩⟩⟩⟩⟩;refine⟨_,rfl,x,d',_,rfl,hx,rfl,_,rfl,d,_,_,_,rfl,rfl,ef.of hd,yT,_,rfl,d,_,_,_,rfl,rfl,ef.of hd,DV,_,rfl,d,_,_,_,rfl,rfl,ef.of hd,DW,_,rfl,d,_,_,_,rfl,rfl,ef.of hd,TV,_,rfl,d,_,_,_,rfl,rfl,ef.of hd,ZG,U,x,pe,aB,aS,nW,cD,t,p,s,a,b,rows,rfl,LB,hl,l1,l2,l3,oB it,XF it ip.1 ip.2,oB is,XF is i3.1 (by have:=i3.2.1;have:=i3.2.2;omega),XF is (by have:=i3.2.1;have:=i3.1;omega) i3.2.2,λz=>absurd it z,λ_=>⟨λz=>absurd is z,λ_=>⟨sh,sn,λz=>absurd i3 z,λ_=>⟨λz=>absurd ip z,λ_ es uq=>?_⟩⟩⟩⟩;rw[n9 it]at uq;cases uq;exact⟨B,λU' H' L' fr=>k U' H' _ one L' fr⟩
 | win t p s =>
  obtain⟨it,ip,is⟩:=ok;refine⟨_,rfl,d,_,_,_,rfl,rfl,ef.of hd,yc,?_⟩;refine⟨_,rfl,rfl,_,rfl,cK (by decide +kernel) ⟨_,rfl,rfl,_,rfl,cK (by decide +kernel) ⟨_,rfl,rfl,_,rfl,cK (by decide +kernel) ⟨_,rfl,rfl,_,rfl,cK (by decide +kernel) ⟨_,rfl,rfl,_,rfl,cK (by decide +kernel) ⟨_,rfl,rfl,_,rfl,cK (by decide +kernel) ⟨_,rfl,rfl,_,rfl,mG ?_⟩⟩⟩⟩⟩⟩⟩;refine⟨_,rfl,x,d',_,rfl,hx,rfl,_,rfl,d,_,_,_,rfl,rfl,ef.of hd,yT,_,rfl,d,_,_,_,rfl,rfl,ef.of hd,DV,_,rfl,d,_,_,_,rfl,rfl,ef.of hd,DW,U,x,pe,aB,aS,nW,cD,t,p,s,rows,rfl,LB,hl,l1,l2,l3,oB it,XF it ip.1 ip.2,oB is,λz=>absurd it z,λ_=>⟨λz=>absurd is z,λ_=>⟨sh,sn,λz=>absurd ip z,λ_ es uq=>?_⟩⟩⟩;rw[n9 it]at uq;cases uq;exact⟨B,λU' H' L' fr=>k U' H' _ one L' fr⟩
 | fix s =>
  refine⟨_,rfl,d,_,_,_,rfl,rfl,ef.of hd,yc,?_⟩;refine⟨_,rfl,rfl,_,rfl,cK (by decide +kernel) ⟨_,rfl,rfl,_,rfl,cK (by decide +kernel) ⟨_,rfl,rfl,_,rfl,cK (by decide +kernel) ⟨_,rfl,rfl,_,rfl,cK (by decide +kernel) ⟨_,rfl,rfl,_,rfl,cK (by decide +kernel) ⟨_,rfl,rfl,_,rfl,cK (by decide +kernel) ⟨_,rfl,rfl,_,rfl,cK (by decide +kernel) ⟨_,rfl,rfl,_,rfl,mG ?_⟩⟩⟩⟩⟩⟩⟩⟩;refine⟨_,rfl,x,d',_,rfl,hx,rfl,_,rfl,d,_,_,_,rfl,rfl,ef.of hd,yT,U,x,pe,aB,aS,nW,cD,s,rows,rfl,LB,hl,l1,l2,l3,oB ok,λz=>absurd ok z,λ_=>⟨sh,sn,B,λU' H' L' fr=>k U' H' _ one L' fr⟩⟩
inductive Jq(vs:List V)(H:Hp)(Q:VK)(E:XK):Prop
 | mk (l c w:Addr) (W:Addr->Prop) (aS:m7) (pq:ou) (rq:dM) (_:vs=[.ref l,.ref w]) (_:jB H l c) (_:Wo W H w aS pq rq) (_:(∀ a,W a->a≠l/\a≠c)) (_:aS.length<=50000) (_ :
 ∀ (r:Addr) (row:Row) (H':Hp),row.length<=2->cL H' r row->(∀ p∈row,0<=p.1/\p.1<p.2/\p.2<=aS.length/\p.2<=p.1+40)->H r=none->jB H' l c->cY l H H'->Q (.ref r) H')
theorem jC:aJ ["_law_src_here","_law_world_here","_law_many","_law_row","_law_k","_law_start","_law_span"] ["_law_src_here","_law_world_here"] (aA pD):=jd
theorem Dv{f:Addr}{gN:FuncData}(F:iK K "_law_ink_row" "_law_ink_row" pD f fd)(T:nL mg)(bK:aF K mg "_law_next" mK DE fN gN):aC P w K mg base bZ 2 f fd MW Jq:=by
 have cz:aC P w K mg base bZ 1 _ _ DE xZ:=pY bK.F T;refine lW F jC λdJ A outer s H vs Q E hr h=>?_;obtain⟨l,c,w,W,aS,pq,rq,rfl,S,wo,dw,b1,k⟩:=h;have hu:=lO hr;refine⟨_,(aj (bx (i:=2) jC.nd (jy T.je (jQ hu (pv 1) bG))) (aj (bx (i:=3) jC.nd (bQ ah)) (aj (gz PassesOwn.never rfl (kZ rfl T.nM (aa (bC JS (aK bK cz hr (aa (pv 0) (aa ay ah))) (cO (wB rfl) rfl T.Ma PyProof.Rows.boot_min (aa ay (aa (pv 2) ah)))) ah)) (cE (i:=4) jC.nd) (aj (bx (i:=5) jC.nd (aK bK cz hr (aa (pv 0) (aa (cO (wA rfl) rfl T.Ie PyProof.Rows.boot_max (aa ay (aa (pv 2) ah))) ah)))) (aj (bx (i:=6) jC.nd (bC gj ay (aK bK cz hr (aa (pv 0) (aa (cO (wA rfl) rfl T.Ie PyProof.Rows.boot_max (aa ay (aa (cO (wB rfl) rfl T.Ma PyProof.Rows.boot_min (aa (aV bP (bQ (aa ay (aa ay (aa ay (aa ay ah))))) (aK bK cz hr (aa (pv 0) (aa ay ah)))) (aa (bC dm (pv 2) (pv 5)) ah))) ah))) ah))))) (au (bf (gV vE qj qm cy (pv 3) (aa (dH (aa (pv 5) (aa (bC gj (pv 5) (pv 6)) ah))) ah))))))) (au (aO (pv 3)))))),?_⟩;obtain⟨ik,rw,ps,vl,wu⟩:=id wo;obtain⟨as,Si,pa⟩:=id wu.hi;have la:=Paired.length pa;have zi:=nI.k (k:=kI) wu.hw;rw[show cW (yx ik rw ps vl) kI=some (.ref ik) by kernel_rfl]at zi;refine⟨_,rfl,w,_,rfl,zi,ik,_,rfl,.inl (bR.of Si),?_⟩;refine⟨mj,λr AV=>?_⟩;have s1:=ak AV (.lst []);have r1:(aQ H r (.lst [])) r=some (.lst []):=af;have nr:=S.ne AV;have S1:=S.same s1;generalize aQ H r (.lst [])=H1 at s1 r1 S1;refine⟨_,rfl,l,c,3,rfl,S1,by decide,by decide,λv H2 v0 v1 S2 k2=>?_⟩;rw[show (as.map V.ref).length=aS.length by rw[cS,la]];refine⟨_,rfl,_,_,rfl,_,_,rfl,rfl,.inl ⟨by omega,by omega⟩,?_⟩
 have hm:∃ n:Nat,(v*(if (aS.length:Int)<1 then (aS.length:Int) else 1))=n/\n<=2/\(0<n->1<=aS.length):=by
  split
  ·rename_i z;refine⟨0,?_,by omega,by omega⟩;rw[show (aS.length:Int)=0 by omega];exact Int.mul_zero _
  ·exact⟨v.toNat,by rw[Int.mul_one];omega,by omega,λ_=>by omega⟩
 obtain⟨n,en,n2,n1⟩:=hm
 have hM:(if (aS.length:Int) > 1 then (aS.length:Int) else 1)=if 1<=aS.length then (aS.length:Int) else 1:=by split <;> split <;> omega
 refine⟨n,congrArg (λz=>[V.int z]) en,by omega,by omega,qT (lo:=0) (n:=((n:Nat):Int).toNat) (λj σ H3=>∃ (u4 u5 u6:Option V) (row:Row),σ=[some (.ref l),some (.ref w),some (.int (aS.length:Nat)),some (.ref r),u4,u5,u6]/\cL H3 r row/\row.length=j/\(∀ p∈row,0<=p.1/\p.1<p.2/\p.2<=aS.length/\p.2<=p.1+40)/\jB H3 l c/\cY l H H3) ⟨none,none,none,[],rfl,⟨[],(k2 r nr.1.symm).trans r1,.nil⟩,rfl,(λp hp=>nomatch hp),S2,(jE.aG.keep s1).trans (eE k2)⟩ ?_ ?_⟩
 ·rintro j σ H3 hj ⟨u4,u5,u6,row,rfl,R3,lr,hp,S3,K3⟩;have hk:1<=aS.length:=n1 (by omega);rw[if_pos hk]at hM;refine⟨_,rfl,_,rfl,_,_,rfl,l,c,_,rfl,S3,(by rw[hM];omega),(by rw[hM];omega),λa H4 a0 a1 S4 k4=>?_⟩;rw[hM]at a1;refine⟨_,rfl,F2,λt ht=>?_⟩;have s5:=ak ht (.lst [.int 4,.int 4,.int 4,.int 40]);have h5:(aQ H4 t (.lst [.int 4,.int 4,.int 4,.int 40])) t=some (.lst [.int 4,.int 4,.int 4,.int 40]):=af;have nt:=S4.ne ht;have S5:=S4.same s5;generalize aQ H4 t (.lst [.int 4,.int 4,.int 4,.int 40])=H5 at s5 h5 S5;refine⟨_,rfl,l,c,4,rfl,S5,by decide,by decide,λi H6 i0 i1 S6 k6=>?_⟩;obtain⟨z,hz,ez⟩:=Ro (xs:=[V.int 4,.int 4,.int 4,.int 40]) i0 (by show i<4;omega)
  obtain⟨q,rfl,q0,q1⟩:∃ q:Int,z=.int q/\4<=q/\q<=40:=by
   rcases List.mem_cons.mp hz with y|hz
   ·exact⟨4,y,by decide,by decide⟩
   rcases List.mem_cons.mp hz with y|hz
   ·exact⟨4,y,by decide,by decide⟩
   rcases List.mem_cons.mp hz with y|hz
   ·exact⟨4,y,by decide,by decide⟩
   ·exact⟨40,List.mem_singleton.mp hz,by decide,by decide⟩
  refine⟨t,_,_,_,rfl,rfl,bR.of ((k6 t nt.1.symm).trans h5),ez,?_⟩
  have hX:∃ x:Int,(if (if (aS.length:Int)-a<q then (aS.length:Int)-a else q) > 1 then (if (aS.length:Int)-a<q then (aS.length:Int)-a else q) else 1)=x/\1<=x/\x<=aS.length-a/\x<=40:=⟨_,rfl,by split <;> split <;> omega,by split <;> split <;> omega,by split <;> split <;> omega⟩
  obtain⟨M,eM,M1,M2,M3⟩:=hX;refine⟨_,rfl,_,rfl,_,_,rfl,rfl,_,_,rfl,_,_,rfl,l,c,_,rfl,S6,(by rw[eM];omega),(by rw[eM];omega),λb H7 b0 b1 S7 k7=>⟨_,_,rfl,rfl,?_⟩⟩;rw[eM]at b1;have K7:cY l H3 H7:=(((eE k4).trans (jE.aG.keep s5)).trans (eE k6)).trans (eE k7);obtain⟨bs,hb,pb⟩:=R3;obtain⟨ls,hl⟩:=S3.lst;have hb7:=K7 _ _ hb nr.1.symm;have pb7:bS H7 bs row:=pb.tups λa xs e=>K7 _ _ e (eL e hl);have lb:=Paired.length pb;refine⟨_,rfl,.inl ⟨rfl,_,bR.of hb7⟩,_,rfl,_,rfl,_,rfl,_,_,rfl,rfl,uP,λp U6=>⟨r,_,_,rfl,rfl,ak U6 _ _ _ hb7,(by rw[cS];exact aX (by omega)),?_⟩⟩;have sp:=ak U6 (.tup [.int a,.int (a+(1+b))]);have p8:(aQ H7 p (.tup [.int a,.int (a+(1+b))])) p=some (.tup [.int a,.int (a+(1+b))]):=af;have hb8:=sp _ _ hb7;have S8:=S7.same sp;have K8:cY l H (aQ H7 p (.tup [.int a,.int (a+(1+b))])):=(K3.trans K7).trans (jE.aG.keep sp);have pb8:=bS.snoc (p:=(a,a+(1+b))) (pb7.same sp) p8;refine⟨_,_,_,row++[(a,a+(1+b))],rfl,⟨bs++[p],by rw[kT];exact af,pb8.tups λy xs e=>?_⟩,by rw[dX,lr];rfl,λy hy=>?_,?_,λy ob e n=>?_⟩
  ·exact (aL (eL e hb8)).trans e
  ·rcases List.mem_append.mp hy with hy|hy
   ·exact hp y hy
   ·rw[List.mem_singleton.mp hy];exact⟨a0,by show a<a+(1+b);omega,by show a+(1+b)<=_;omega,by show a+(1+b)<=a+40;omega⟩
  ·obtain⟨n,ns,i,d,r',e1,e2,h3⟩:=S8;exact⟨n,ns,i,d,r',(aL nr.1).trans e1,(aL nr.2).trans e2,h3⟩
  ·exact (aL (az e AV)).trans (K8 _ _ e n)
 rintro σ H3 ⟨u4,u5,u6,row,rfl,R3,lr,hp,S3,K3⟩;exact⟨_,rfl,k r row H3 (by omega) R3 hp AV S3 K3⟩
inductive Jr(vs:List V)(H:Hp)(Q:VK)(E:XK):Prop
 | mk (l c:Addr) (s m:Int) (_:vs=[.ref l,.int s,.int m]) (_:jB H l c) (_:0<=m) (_:m<=10000) (_:∀ (a b u:Int) (t:Addr) (dd:LD) (H':Hp),Mv a b u m->(dd=.cut s a b\/dd=.Uw s a b u)->dd.At H' t->jB H' l c->cY l H H'->Q (.ref t) H')
theorem sD:aJ ["_law_src_here","_law_sheet","_law_room","_law_start","_law_stop"] ["_law_src_here","_law_sheet","_law_room"] (aA pF):=jd
theorem Dw{f:Addr}{gN:FuncData}(F:iK K "_law_move_by" "_law_move_by" pF f fd)(T:nL mg)(bK:aF K mg "_law_next" mK DE fN gN):aC P w K mg base bZ 2 f fd VL Jr:=by
 have cz:aC P w K mg base bZ 1 _ _ DE xZ:=pY bK.F T;refine lW F sD λdJ A outer s0 H vs Q E hr h=>?_;obtain⟨l,c,s,m,rfl,S,m0,m1,k⟩:=h;refine⟨_,(aj (bx (i:=3) sD.nd (aK bK cz hr (aa (pv 0) (aa (bC gj (pv 2) ay) ah)))) (aj (bx (i:=4) sD.nd (bC gj (pv 3) (aK bK cz hr (aa (pv 0) (aa (bC gj (bC dm (pv 2) (pv 3)) ay) ah))))) (aj (bT (bh gU (aK bK cz hr (aa (pv 0) (aa ay ah))) ay (bz _)) (au (aO (dH (aa bG (aa (pv 1) (aa (pv 3) (aa (pv 4) ah))))))) bu) (au (aO (dH (aa bG (aa (pv 1) (aa (pv 3) (aa (pv 4) (aa (aK bK cz hr (aa (pv 0) (aa (bC gj (bC gj (bC dm (pv 2) (pv 4)) (pv 3)) ay) ah))) ah))))))))))),?_⟩;refine⟨_,rfl,_,rfl,_,_,rfl,rfl,l,c,_,rfl,S,by omega,by omega,λa H1 a0 a1 S1 k1=>?_⟩;refine⟨_,rfl,_,rfl,_,rfl,_,rfl,_,_,rfl,rfl,_,_,rfl,rfl,l,c,_,rfl,S1,by omega,by omega,λv H2 v0 v1 S2 k2=>⟨_,_,rfl,rfl,?_⟩⟩;refine⟨_,rfl,l,c,2,rfl,S2,by decide,by decide,λz H3 _ _ S3 k3=>⟨rfl,_,rfl,?_⟩⟩;have K3:cY l H H3:=((eE k1).trans (eE k2)).trans (eE k3);refine dO (λ_=>?_) (λ_=>?_)
 ·refine⟨_,rfl,_,rfl,_,rfl,F2,λt ht=>?_⟩;exact k a (a+v) 0 t (.cut s a (a+v)) _ ⟨⟨by omega,by omega,by omega⟩,by omega,by omega⟩ (.inl rfl) af (S3.same (ak ht _)) (K3.trans (jE.aG.keep (ak ht _)))
 ·refine⟨_,rfl,_,rfl,_,rfl,_,rfl,_,rfl,_,rfl,_,_,rfl,rfl,_,rfl,_,_,rfl,rfl,_,_,rfl,rfl,l,c,_,rfl,S3,by omega,by omega,λu H4 u0 u1 S4 k4=>⟨ZE,λt ht=>?_⟩⟩;exact k a (a+v) u t (.Uw s a (a+v) u) _ ⟨⟨by omega,by omega,by omega⟩,by omega,by omega⟩ (.inr rfl) af (S4.same (ak ht _)) ((K3.trans (eE k4)).trans (jE.aG.keep (ak ht _)))
def LD.New(H:Hp):LD->Prop
 | .put _ _ r _=>H r=none
 | _=>True
inductive RI(vs:List V)(H:Hp)(Q:VK)(E:XK):Prop
 | mk (W:Addr->Prop) (l c w:Addr) (aS:m7) (pq:ou) (rows:dM) (sh:Int->List Int) (_:vs=[.ref l,.ref w]) (_:jB H l c) (_:Wo W H w aS pq rows) (_:∀ a,W a->a≠l/\a≠c) (_:Gd aS.length rows sh) (_:1<=rows.length) (_:aS.length<=10000) (_:∀ (t:Addr) (dd:LD) (H':Hp),dd.At H' t->dd.Ok aS.length rows.length sh->dd.New H->jB H' l c->cY l H H'->Q (.ref t) H')
theorem jk:aJ ["_law_src_here","_law_world_here","_law_rows","_law_way","_law_sheet","_law_other","_law_room","_law_place","_law_start"] ["_law_src_here","_law_world_here"] (aA uK):=jd
theorem Js{f f3:Addr}{gN g1 g2 g3:FuncData}(F:iK K "_law_draw" "_law_draw" uK f fd)(T:nL mg)(bK:aF K mg "_law_next" mK DE fN gN)(bN:aF K mg "_law_show" jo m8 f1 g1)(pN:aF K mg "_law_ink_row" pD MW f2 g2)(pO:aF K mg "_law_move_by" pF VL f3 g3):aC P w K mg base bZ 43 f fd MW RI:=by
 have cz:aC P w K mg base bZ 1 _ _ DE xZ:=pY bK.F T;have gG:aC P w K mg base bZ 42 _ _ m8 (uY 41):=mY T bN 41;have Em:aC P w K mg base bZ 2 _ _ MW Jq:=Dv pN.F T bK;have En:aC P w K mg base bZ 2 _ _ VL Jr:=Dw pO.F T bK;refine lW F jk λdJ A outer s0 H vs Q E hr h=>?_;obtain⟨W,l,c,w,aS,pq,rows,sh,rfl,S,wo,dw,g,r1,i1,k⟩:=h;have hu:=lO hr;refine⟨_,(aj (bx (i:=2) jk.nd (jQ hu (pv 1) bG)) (aj (bx (i:=3) jk.nd (aK bK cz hr (aa (pv 0) (aa ay ah)))) (aj (bx (i:=4) jk.nd (aK bK cz hr (aa (pv 0) (aa (jy T.je (pv 2)) ah)))) (aj (bx (i:=5) jk.nd (aK bK cz hr (aa (pv 0) (aa (jy T.je (pv 2)) ah)))) (aj (bx (i:=6) jk.nd (jy T.je (aK bN gG hr (aa (pv 2) (aa (pv 4) ah))))) (aj (bx (i:=7) jk.nd (aK bK cz hr (aa (pv 0) (aa (bC gj (pv 6) ay) ah)))) (aj (bT (bh tZ (pv 3) ay (bz _)) (au (aO (dH (aa bG (aa (pv 4) (aa (pv 7) (aa (aK pN Em hr (aa (pv 0) (aa (pv 1) ah))) ah))))))) bu) (aj (bT (bh tZ (pv 3) ay (bz _)) (au (aO (aK pO En hr (aa (pv 0) (aa (pv 4) (aa (pv 6) ah)))))) bu) (aj (bT (bh tZ (pv 3) ay (bz _)) (aj (bx (i:=6) jk.nd (jy T.je (aK bN gG hr (aa (pv 2) (aa (pv 5) ah))))) (aj (bx (i:=8) jk.nd (aK bK cz hr (aa (pv 0) (aa (bC gj (pv 6) ay) ah)))) (au (aO (dH (aa bG (aa (pv 4) (aa (pv 7) (aa (pv 5) (aa (pv 8) (aa (bC gj (pv 8) (aK bK cz hr (aa (pv 0) (aa (bC gj (bC dm (pv 6) (pv 8)) ay) ah)))) ah))))))))))) bu) (aj (bT (bh tZ (pv 3) ay (bz _)) (au (aO (dH (aa bG (aa (pv 4) (aa (pv 7) (aa (pv 5) ah))))))) bu) (au (aO (dH (aa bG (aa (pv 4) ah))))))))))))))),?_⟩;obtain⟨ik,jW,ps,vl,wu⟩:=id wo;have zr:=nI.k (k:=kR) wu.hw;rw[show cW (yx ik jW ps vl) kR=some (.ref jW) by kernel_rfl]at zr;have l40:=g.ln;obtain⟨rk,rb,dn⟩:=id g.sn.rk;obtain⟨ls,hls⟩:=S.lst;have kp:∀ {H1:Hp},cY l H H1->kC (λ_=>False) H1 jW rows/\Wo W H1 w aS pq rows:=λ{H1} K1=>⟨(wu.hr.fr (λ_ z=>z) λa xs e wa _ _=>K1 _ _ e (dw a wa).1).at_,wo.fr (λa ob e z=>K1 _ _ e (dw a z).1) λa xs e=>K1 _ _ e (eL e hls)⟩
 have lv:∀ {H1:Hp},cY l H H1->∃ xs,H1 jW=some (.lst xs)/\xs.length=rows.length:=λ{H1} K1=>by
  obtain⟨xs,e,al⟩:=(kp K1).1;exact⟨xs,e,al.len⟩
 refine⟨_,rfl,w,_,rfl,zr,?_⟩;refine⟨_,rfl,l,c,13,rfl,S,by decide,by decide,λy H1 y0 y1 S1 k1=>?_⟩;have K1:cY l H H1:=eE k1;obtain⟨x1,e1,n1⟩:=lv K1;refine⟨_,rfl,_,rfl,jW,_,rfl,.inl (bR.of e1),l,c,_,rfl,S1,by omega,by omega,λs H2 a0 a1 S2 k2=>?_⟩;have K2:cY l H H2:=K1.trans (eE k2);obtain⟨x2,e2,n2⟩:=lv K2;refine⟨_,rfl,_,rfl,jW,_,rfl,.inl (bR.of e2),l,c,_,rfl,S2,by omega,by omega,λo H3 o0 o1 S3 k3=>?_⟩;have K3:cY l H H3:=K2.trans (eE k3);have is:qh rows.length s:=⟨a0,by omega⟩;have io:qh rows.length o:=⟨o0,by omega⟩;have ls:=g.sl s is.1 is.2;have lo:=g.sl o io.1 io.2;refine⟨_,rfl,_,rfl,_,jW,rows,s,sh,rk,rfl,(kp K3).1,by omega,g.sn.sd,is.1,is.2,g.sn.ss,g.sn.ln,dn,by have:=rb s;omega,λq H4 hq s4 fq=>⟨q,_,rfl,.inl (bR.of hq),?_⟩⟩;rw[cS];have K4:cY l H H4:=K3.trans (jE.aG.keep s4);refine⟨_,rfl,_,rfl,_,_,rfl,rfl,l,c,_,rfl,S3.same s4,by omega,by omega,λp H5 p0 p1 S5 k5=>?_⟩;have K5:cY l H H5:=K4.trans (eE k5);have ip:0<=p/\p<=(sh s).length:=⟨p0,by omega⟩;refine⟨_,rfl,_,_,rfl,rfl,_,rfl,dO (λ_=>?_) (λ_=>?_)⟩
 ·refine⟨_,rfl,_,rfl,_,rfl,_,rfl,l,c,w,W,aS,pq,rows,rfl,S5,(kp K5).2,dw,by omega,λr row H6 r2 RD hq fr S6 K6=>⟨F2,λt ht=>?_⟩⟩;have st:=ak ht (.tup [.str "put",.int s,.int p,.ref r]);refine k t (.put s p r row) _ ⟨af,RD.same st⟩ ⟨is,ip,r2,hq⟩ ?_ (S6.same st) ((K5.trans K6).trans (jE.aG.keep st));show H r=none
  cases e:H r with
  | none=>rfl
  | some ob =>
   exfalso;by_cases n:r=l
   ·obtain⟨_,hl5⟩:=S5.lst;rw[n,hl5]at fr;cases fr
   ·rw[K5 _ _ e n]at fr;cases fr
 refine⟨_,rfl,_,_,rfl,rfl,_,rfl,dO (λ_=>?_) (λ_=>?_)⟩
 ·refine⟨_,rfl,_,rfl,_,rfl,l,c,s,_,rfl,S5,by omega,by omega,λa b u t dd H6 mv hdd XQ S6 K6=>k t dd H6 XQ ?_ ?_ S6 (K5.trans K6)⟩
  ·rcases hdd with rfl|rfl
   ·exact⟨is,mv.1⟩
   ·exact⟨is,mv⟩
  ·rcases hdd with rfl|rfl <;> trivial
 refine⟨_,rfl,_,_,rfl,rfl,_,rfl,dO (λ_=>?_) (λ_=>?_)⟩
 ·refine⟨_,rfl,_,rfl,_,jW,rows,o,sh,rk,rfl,(kp K5).1,by omega,g.sn.sd,io.1,io.2,g.sn.ss,g.sn.ln,dn,by have:=rb o;omega,λq6 H6 hq6 s6 fq6=>⟨q6,_,rfl,.inl (bR.of hq6),?_⟩⟩;rw[cS];refine⟨_,rfl,_,rfl,_,_,rfl,rfl,l,c,_,rfl,S5.same s6,by omega,by omega,λa H7 b0 b1 S7 k7=>?_⟩;refine⟨_,rfl,_,rfl,_,rfl,_,rfl,_,rfl,_,rfl,_,rfl,_,rfl,_,_,rfl,rfl,_,_,rfl,rfl,l,c,_,rfl,S7,by omega,by omega,λv H8 v0 v1 S8 k8=>⟨_,_,rfl,rfl,ZF,λt ht=>?_⟩⟩;have st:=ak ht (.tup [.str "quote",.int s,.int p,.int o,.int a,.int (a+v)]);exact k t (.Vz s p o a (a+v)) _ af ⟨is,ip,io,by omega,by omega,by omega⟩ trivial (S8.same st) ((((K5.trans (jE.aG.keep s6)).trans (eE k7)).trans (eE k8)).trans (jE.aG.keep st))
 refine⟨_,rfl,_,_,rfl,rfl,_,rfl,dO (λ_=>?_) (λ_=>?_)⟩
 ·refine⟨_,rfl,_,rfl,_,rfl,F2,λt ht=>?_⟩;have st:=ak ht (.tup [.str "window",.int s,.int p,.int o]);exact k t (.win s p o) _ af ⟨is,ip,io⟩ trivial (S5.same st) (K5.trans (jE.aG.keep st))
 ·refine⟨_,rfl,uP,λt ht=>?_⟩;have st:=ak ht (.tup [.str "fix",.int s]);exact k t (.fix s) _ af is trivial (S5.same st) (K5.trans (jE.aG.keep st))
theorem LD.At.tup{H:Hp}{t:Addr}{dd:LD}(h:dd.At H t):∃ vs,H t=some (.tup vs)/\wC vs 1=some (.int dd.sh):=by
 cases dd with
 | put=>exact⟨_,h.1,rfl⟩
 | _=>exact⟨_,h,rfl⟩
theorem LD.At.kept{H H':Hp}{t:Addr}{dd:LD}(h:dd.At H t)(tp:∀ a xs,H a=some (.tup xs)->H' a=some (.tup xs))(kr:∀ s p r row,dd=.put s p r row->∀ xs,H r=some (.lst xs)->H' r=some (.lst xs)):dd.At H' t:=by
 cases dd with
 | put s p r row =>
  obtain⟨h1,as,ha,pa⟩:=h;exact⟨tp _ _ h1,as,kr _ _ _ _ rfl _ ha,pa.tups tp⟩
 | _=>exact tp _ _ h
inductive Jt(C CS CW CB:Addr)(vs:List V)(H:Hp)(Q:VK)(E:XK):Prop
 | mk (l c w x:Addr) (U W:Addr->Prop) (pe:ou) (rows:dM) (aB:pP) (aS:m7) (nW:Nat) (cD:Row) (_:vs=[.ref l,.ref w,.ref x]) (_:Bt C CS CW CB H l c w x U W pe rows pe rows aB aS nW cD) (_:1<=rows.length) (_:pe.length<=800) (_:aB.length<=800) (_:aS.length<=10000) (_:Good aS.length rows) (_:∀ (U' W':Addr->Prop) (JH:ou) (rows':dM) (jY:pP) (H':Hp),Bt C CS CW CB H' l c w x U' W' JH rows' JH rows' jY aS nW cD->rows'.length=rows.length->JH.length<=pe.length+1->jY.length<=aB.length+1->Good aS.length rows'->Q (.bl true) H')
theorem wj:aJ ["_law_src_here","_law_world_here","_law_house","_law_deed_here","_law_rows"] ["_law_src_here","_law_world_here","_law_house"] (aA xW):=jd
theorem Ju{f f3:Addr}{g1 g2 g3 g4 g5:FuncData}(F:iK K "_law_deed" "_law_deed" xW f fd)(T:nL mg)(vc:aF K mg "_law_draw" uK MW f1 g1)(ju:aF K mg "_law_swap" rC MV f2 g2)(tG:aF K mg "_law_after" sQ VM f3 g3)(vd:aF K mg "_law_fits" rE m8 f4 g4)(iW:aF K mg "_law_keep" rB MX f5 g5)(ve:aF K mg "_law_done" uJ VN f6 g6)
  (Lc:aC P w K mg base bZ 43 f1 g1 MW RI) (Jv:aC P w K mg base bZ 45 f3 g3 VM MM) (Ld:aC P w K mg base bZ 43 f4 g4 m8 RC) (Le:aC P w K mg base bZ 7 f6 g6 VN (RH C CS CW CB)):aC P w K mg base bZ 46 f fd Sw (Jt C CS CW CB):=by
 have su:aC P w K mg base bZ 1 _ _ MV GI:=v8 ju.F T;have o6:aC P w K mg base bZ 1 _ _ MX GH:=v7 iW.F;refine lW F wj λdJ A outer s0 H vs Q E hr h=>?_;obtain⟨l,c,w,x,U,W,pe,rows,aB,aS,nW,cD,rfl,St,r1,b1,b2,b3,gd,k⟩:=h;have hu:=lO hr;refine⟨_,(aj (bx (i:=3) wj.nd (aK vc Lc hr (aa (pv 0) (aa (pv 1) ah)))) (aj (bx (i:=4) wj.nd (aK ju su hr (aa (jQ hu (pv 1) bG) (aa (aV br (pv 3) ay) (aa (aK tG Jv hr (aa (pv 1) (aa (pv 3) ah))) ah))))) (aj (bT (j5 (lT (aK vd Ld hr (aa (pv 4) (aa (aV br (pv 3) ay) ah))))) (au (aO oG)) bu) (aj (bf (aK iW o6 hr (aa (pv 1) (aa (pv 4) ah)))) (au (aO (OU (JN (aK ve Le hr (aa (pv 2) (aa (pv 3) ah))))))))))),?_⟩;obtain⟨sh,g⟩:=gd.Ry;have l40:=g.ln;refine⟨_,rfl,_,rfl,W,l,c,w,aS,pe,rows,sh,rfl,St.src,St.wo,St.dw,g,r1,by omega,λt dd H1 XQ ok nw S1 K1=>?_⟩;have ON:=St.mv K1 S1;obtain⟨ik,jW,ps,vl,wu⟩:=id ON.wo;have zr:=nI.k (k:=kR) wu.hw;rw[show cW (yx ik jW ps vl) kR=some (.ref jW) by kernel_rfl]at zr;obtain⟨_,_,_,xs,hxs,al⟩:=id wu.hr;have lv:=cj.len al;obtain⟨tv,ht,ht1⟩:=XQ.tup;have is:=LD.Sm ok;have is1:=is.1;have is2:=is.2;have ss:((dd.sh.toNat:Nat):Int)=dd.sh:=by omega
 refine⟨_,rfl,w,_,rfl,zr,_,rfl,t,_,_,_,rfl,rfl,ef.of ht,ht1,_,rfl,_,rfl,W,w,t,aS,pe,rows,aS.length,sh,dd,rfl,ON.wo,XQ,g,ok,by omega,λo H2 ho lo s2 fo=>?_⟩;refine⟨jW,o,dd.sh.toNat,xs,by rw[ss];rfl,s2 _ _ hxs,by omega,by omega,λq H3 hq s3 fq=>?_⟩;have zY:=s2.trans s3;have fq1:=aY s2 fq;have ne:=LD.XC g ok;have XR:=Jg (s:=dd.sh.toNat) g.en ne;have R3:kC (λ_=>False) H3 q (rows.set dd.sh.toNat (dd.res sh rows)):=⟨_,hq,cj.set _ (al.mono λv es ⟨b,e,_,_,_,hb⟩=>⟨b,e,λz=>z,zY _ _ hb⟩) ⟨o,rfl,λz=>z,s3 _ _ ho⟩⟩;have hl3:(rows.set dd.sh.toNat (dd.res sh rows)).length=rows.length:=List.length_set
 refine⟨_,rfl,_,rfl,t,_,_,_,rfl,rfl,ef.of (zY _ _ ht),ht1,_,q,_,dd.sh,rfl,R3,by omega,(λes he=>by
  rcases List.mem_or_eq_of_mem_set he with z|z
  ·have:=g.es es z;omega
  ·rw[z];exact lo),AG XR,is1,by omega,Rw is1 g.sn.rk,λb H4 s4 hb=>⟨b,rfl,?_⟩⟩
 have JG:=zY.trans s4;have OO:=ON.same JG
 cases b with
 | false=>exact j9 (k U W pe rows aB H4 OO rfl (by omega) (by omega) gd)
 | true =>
  refine iI ?_;obtain⟨R5,f5,w5,m5⟩:=hb rfl;have Sn:Good aS.length (rows.set dd.sh.toNat (dd.res sh rows)):=⟨XR,R5,by omega,f5,w5,m5⟩;have wu4:JI W H4 w ik jW ps vl aS pe rows:=wu.fr (λa ob e _=>JG _ _ e) λa xs e=>JG _ _ e;have nq:=ON.new fq1;have no:=ON.new fo;obtain⟨Vw,rv⟩:=Wo.swap wu4 (JG _ _ hxs) (s4 _ _ hq) (s4 _ _ (s3 _ _ ho)) nq.2.1 no.2.1;refine⟨_,rfl,_,rfl,_,w,q,aS,pe,rows,rows.set dd.sh.toNat (dd.res sh rows),rfl,⟨ik,jW,ps,vl,Vw⟩,by omega,λik' yV ⟨Ys,vl',ee⟩=>?_,λH5 wo5 X5 tp5 _=>?_⟩
  ·rw[wu4.hw]at ee;simp only[Option.some.injEq,HO.dK.injEq,yx,List.cons.injEq,Prod.mk.injEq,V.ref.injEq,true_and,and_true]at ee;obtain⟨rfl,rfl,rfl,rfl⟩:=ee;exact rv
  have St5:=OO.kept wo5 (λa z y=>by
   rcases y with y|y|y
   ·exact (St.du a z).1 y
   ·exact no.1 (by rw[← y];exact z)
   ·exact nq.1 (by rw[← y];exact z)) (λa y=>by
   rcases y with y|y|y
   ·exact St.dw a y
   ·rw[y];exact no.2.2
   ·rw[y];exact nq.2.2) X5 tp5
  have aeb:dd.At H5 t:=(XQ.same JG).kept tp5 λs p r row ed xs' hr'=>by
   rw[ed]at nw XQ;have nr:=St.new (show H r=none from nw);obtain⟨_,as,ha,_⟩:=XQ;refine X5 _ _ hr' λy=>?_;rcases y with y|y|y
   ·exact nr.2.1 y
   ·rw[y,fo]at ha;cases ha
   ·rw[y,fq1]at ha;cases ha
  refine⟨_,rfl,_,rfl,U,x,t,pe,aB,aS,nW,cD,rows,sh,dd,rfl,St5.K0,St5.lst,by omega,by omega,b3,aeb,g,ok,by rw[Dn _ (by omega)];exact Sn.bears,λU' H6 jY ll L6 Ow=>?_⟩;obtain⟨Uy,_⟩:=St5.Xz L6 (rows':=mz rows dd.sh.toNat (dd.res sh rows)) (by simp) Ow;rw[Dn _ (by omega)]at Uy;show Q (.bl (decide (V.jm=V.jm))) H6;rw[decide_eq_true rfl];exact k U' _ _ _ jY H6 Uy hl3 (by rw[dX];exact jz _) (by omega) Sn
abbrev e0(n:Nat):dM:=List.replicate n []
theorem GS(n:Nat):e0 n++[[]]=e0 (n+1):=(List.replicate_succ').symm
theorem AI{n:Nat}{es:List Int}(h:es∈e0 n):es=[]:=(List.mem_replicate.mp h).2
theorem XU{n:Nat}{x y:Int}:¬ nJ (e0 n) x y:=λ⟨_,es,he,hy⟩=>by
 rw[AI (vn he)]at hy;cases hy
theorem RJ(n:Nat):jw (e0 n):=λes he y hy=>by
 rw[AI he]at hy;cases hy
theorem RK(n:Nat):DR (e0 n):=⟨λ_=>0,λ_=>Nat.zero_le _,λ_ _ z=>absurd z XU⟩
theorem RL{n:Nat}(h:n<=100):sf (e0 n) λ_=>0:=by
 refine⟨by rw[List.length_replicate];exact h,λes he=>by rw[AI he];exact Nat.zero_le _,RJ n,RK n,λx es _ he=>?_,λ_ _ _=>by decide⟩;rw[AI (vn he)];rfl
abbrev rtW:List Nat:=(Str.ofString "root ink#").cps.toList
inductive MO(C CS CW CB:Addr)(vs:List V)(H:Hp)(Q:VK)(E:XK):Prop
 | mk (l c w x:Addr) (U W:Addr->Prop) (_:vs=[.ref l,.ref w,.ref x]) (_:Bt C CS CW CB H l c w x U W [[]] [] [[]] [] [] [] 0 []) (_:∀ (U' W':Addr->Prop) (pe:ou) (n:Nat) (aS:m7) (aB:pP) (H':Hp),2<=n->n<=4->aS.length<=18->pe.length<=10->aB.length<=10->Bt C CS CW CB H' l c w x U' W' pe (e0 n) pe (e0 n) aB aS 2 []->Q (.bl true) H')
theorem qR:aJ ["_law_src_here","_law_world_here","_law_house","_law_hand","_law_text","_law_k"] ["_law_src_here","_law_world_here","_law_house"] (aA sR):=jd
theorem GU{f f3:Addr}{g1 g2 g3 gN:FuncData}(F:iK K "_law_begin" "_law_begin" sR f fd)(X:Ay K mg C CS CW CB XS XM XT XO XP)(A1:IV K mg CS)(A2:Mw K mg)(A3:LbF K mg C)(A5:Xu K mg CW CB)(aW:bU K C "enter" "Library.enter" cI Lg f1 g1)(jv:bU K C "pour" "Library.pour" l6 UC f2 g2)(iV:bU K C "fresh" "Library.fresh" kj lZ f3 g3)(bK:aF K mg "_law_next" mK DE fN gN)(iW:aF K mg "_law_keep" rB MX fK gK):aC P w K mg base bZ 8 f fd Sw (MO C CS CW CB):=by
 have tW:aC P w K mg base bZ 4 _ _ UC (MB C CS CW CB):=Bp jv.F X A1 A2 A5 aW;have sC:aC P w K mg base (lP P w) 7 _ _ lZ (Mz C CS XT):=Ax iV.F X.1 A1 A2 A3;obtain⟨⟨⟨T,_,_,_,_,_⟩,⟨fi,aH⟩,_,_,_,_,_,_,_,_⟩,_,_,_,_,_,_,_,_⟩:=X;have cz:aC P w K mg base bZ 1 _ _ DE xZ:=pY bK.F T;have o6:aC P w K mg base bZ 1 _ _ MX GH:=v7 iW.F;refine lW F qR λdJ A outer s H vs Q E hr h=>?_;obtain⟨l,c,w,x,U,W,rfl,St,k⟩:=h;have hu:=lO hr;refine⟨_,(aj (gz PassesOwn.never rfl (cX (bQ (aa ay (aa (bC O0 ay ay) ah)))) (cE (i:=3) qR.nd) (aj (bx (i:=4) qR.nd (j7 jX.Xb bG qE (lu (aK bK cz hr (aa (pv 0) (aa ay ah)))))) (aj (bf (dP (pv 2) aH jv tW hr dh (aa (pv 3) (aa (pv 4) ah)))) (aj (bf (gV vE PySem.F.slot_list_extend PySem.F.type_list_extend oN (jQ hu (pv 1) bG) (aa (mh (N:=["_law_sign","_law_hand"]) (ud (sc:=aA sR) (NX:=["_law_src_here","_law_world_here","_law_house","_law_hand","_law_text","_law_k"]) (jx:=[none,some 3]) rfl rfl rfl (by decide +kernel) (by decide +kernel) rfl (by decide +kernel) rfl (by decide +kernel)) rfl (Xa (pv 4)) (λ_ _ _ _ _ _=>(cE (i:=0) (show List.Nodup (["_law_sign","_law_hand"]:List Str) by decide +kernel))) (λ_ _ _ _ _ _=>mF) (λ_ _ _ _ _ _=>(dH (aa (pv 1) (aa (pv 0) ah))))) ah))) (au (bf (aK iW o6 hr (aa (pv 1) (aa (jQ hu (pv 1) bG) ah))))))))) (aj (gz PassesOwn.never rfl (kZ rfl T.nM (aa (bC gj ay (aK bK cz hr (aa (pv 0) (aa ay ah)))) ah)) (cE (i:=5) qR.nd) (aj (bf (iu (pv 2) aH iV sC hr rN)) (au (bf (aK iW o6 hr (aa (pv 1) (aa (bC ng (jQ hu (pv 1) bG) (bQ (aa (bQ ah) ah))) ah))))))) (au (aO oG)))),?_⟩;refine⟨_,_,rfl,rfl,⟨by decide,by decide,by decide⟩,uP,λa0 Ih=>⟨a0,rfl,⟨_,bR.of af⟩,?_⟩⟩;have n0:=St.new Ih;have St0:=St.same (ak Ih (.lst [.int 3,.int ((10:Int)^(50:Int).toNat)]));refine eS (K:=K) (a:=a0) (xs:=[.int 3,.int ((10:Int)^(50:Int).toNat)]) (λj σ H1=>∃ (u3 u4:Option V) (U1 W1:Addr->Prop) (pe:ou) (aS:m7) (aB:pP),σ=[some (.ref l),some (.ref w),some (.ref x),u3,u4,none]/\Bt C CS CW CB H1 l c w x U1 W1 pe [] pe [] aB aS j []/\pe.length=j+1/\aS.length<=9*j/\aB.length=j/\H1 a0=some (.lst [.int 3,.int ((10:Int)^(50:Int).toNat)])/\¬ U1 a0/\¬ W1 a0) ⟨none,none,U,W,_,_,_,rfl,St0,rfl,jz _,rfl,af,n0.1,n0.2.1⟩ (by rintro i σ H2 _ ⟨_,_,_,_,_,_,_,_,_,_,_,_,e,_⟩;exact bR.of e) ?_ ?_
 ·rintro j v σ H1 hj ⟨u3,u4,U1,W1,pe,aS,aB,rfl,ON,lp,li,ll,ha,nU,nW⟩;have j2:j<2:=(List.getElem?_eq_some_iff.mp hj).1
  obtain⟨h,rfl,fh⟩:∃ h:Int,v=.int h/\Ak h:=by
   rcases List.mem_cons.mp (vn hj) with e|e
   ·exact⟨3,e,by decide,by decide⟩
   ·exact⟨_,List.mem_singleton.mp e,by decide,by decide⟩
  refine⟨_,rfl,l,c,10,rfl,ON.src,by decide,by decide,λv H2 v0 v1 S2 k2=>⟨_,rfl,rtW,congrArg V.str (vN _).symm,(by decide +kernel),?_⟩⟩
  have lc:(jX.DT rtW none (some v)).length<=9:=by
   unfold jX.DT;rw[jK,vq,show rtW.length=9 by decide +kernel];omega
  generalize jX.DT rtW none (some v)=cs at lc;have Jw:=ON.mv (eE k2) S2;have ha2:=(k2 a0 n0.2.2.1).trans ha;obtain⟨S',Q9,d',Mf,MN,OH,OI,OJ,OL,OM,By,BA,XG,XH,XJ,XN,db',tb',yp,LU⟩:=id Jw.K0;refine⟨_,rfl,x,d',_,rfl,LU.L.hx,rfl,_,rfl,_,rfl,U1,x,pe,aB,aS,j,[],h,cs,[],rfl,Jw.K0,fh,by omega,by omega,by omega,Jw.lst,by decide,by omega,by omega,λU' q H3 aec OZ hq=>?_⟩;have aed:=Jw.src.fru OZ (λz=>(Jw.du l z).2.1 rfl) (λz=>(Jw.du c z).2.2 rfl);have wo3:=Jw.wo.fr (λa ob e z=>OZ.2.1 _ _ e (λy=>(Jw.du a y).1 z)) OZ.2.2;have ha3:=OZ.2.1 _ _ ha2 nU
  have du3:∀ a,U' a->¬ W1 a/\a≠l/\a≠c:=λa z=>by
   rcases OZ.1 a z with y|y
   ·exact Jw.du a y
   ·exact (Jw.new y).2
  have nU3:¬ U' a0:=λz=>by
   rcases OZ.1 a0 z with y|y
   ·exact nU y
   ·rw[y]at ha2;cases ha2
  obtain⟨ik,jW,ps,vl,wu⟩:=id wo3;obtain⟨as,Si,pa⟩:=id wu.hi;have la:=Paired.length pa;have zi:=nI.k (k:=kI) wu.hw;rw[show cW (yx ik jW ps vl) kI=some (.ref ik) by kernel_rfl]at zi;refine⟨_,rfl,w,_,rfl,zi,.inl ⟨rfl,_,bR.of Si⟩,_,rfl,cs,rfl,λacc fH=>NR (λj σ H7=>∃ (u:Option V) (bs:List Addr),σ=[u,some (.int h)]/\H7 acc=some (.lst (bs.map V.ref))/\Paired (Vs H7) bs (vD h (cs.take j))/\aG H3 H7) ⟨none,[],rfl,af,.nil,ak fH _⟩ ?_ ?_⟩
  ·rintro i ch σ H7 hi ⟨u,bs,rfl,hb,pb,s7⟩;have lb:=Paired.length pb;rw[zl,jK]at lb;refine⟨_,rfl,_,rfl,uP,λt ht=>⟨_,ak ht _ _ _ hb,(by rw[cS];exact aX (by omega)),_,bs++[t],rfl,?_,?_,?_⟩⟩
   ·rw[af,kT];rfl
   ·have nta:t≠acc:=(az hb ht).symm;rw[take_snoc hi];unfold vD;rw[kT];refine GC (Paired.JM pb λa q e=>?_) ?_
    ·show aQ _ acc _ a=_;rw[aL (eL e hb)];exact ak ht _ _ _ e
    ·show aQ _ acc _ t=_;rw[aL nta];exact af
   ·intro b ob e;rw[aL (az e fH)];exact ak ht _ _ _ (s7 _ _ e)
  rintro σ H7 ⟨u,bs,rfl,hb,pb,s7⟩;rw[lR]at pb;have lb:=Paired.length pb;rw[zl]at lb;have aaz:=s7 _ _ Si;refine⟨ik,acc,_,_,rfl,rfl,aaz,hb,(by rw[cS,cS];exact kX (aX (by omega))),?_⟩;rw[← kT];have k8:cY ik H7 (aQ H7 ik (.lst ((as++bs).map V.ref))):=aN ik _ _;have i8:(aQ H7 ik (.lst ((as++bs).map V.ref))) ik=some (.lst ((as++bs).map V.ref)):=af;generalize aQ H7 ik (.lst ((as++bs).map V.ref))=H8 at k8 i8;have So:∀ a ob,H3 a=some ob->a≠ik->H8 a=some ob:=λa ob e n=>k8 _ _ (s7 _ _ e) n;have t38:∀ a xs,H3 a=some (.tup xs)->H8 a=some (.tup xs):=λa xs e=>So _ _ e (eL e Si);have Xq:∀ a xs,H7 a=some (.tup xs)->H8 a=some (.tup xs):=λa xs e=>k8 _ _ e (eL e aaz);have w8:H8 w=some (.dK (yx ik jW ps vl)):=So _ _ wu.hw (eL wu.hw Si);have hr8:OF W1 ik ps H8 jW []:=wu.hr.fr (λ_ z=>z) λa xs e _ n _=>So _ _ e n
  have wo8:JI W1 H8 w ik jW ps vl (aS++vD h cs) pe []:=by
   obtain⟨Yr,hp,al⟩:=wu.hp;refine⟨wu.ww,wu.wi,wu.wp,wu.wv,λa z=>?_,w8,⟨as++bs,i8,Ef (Paired.JM pa λa q e=>t38 _ _ e) (Paired.JM pb λa q e=>Xq _ _ e)⟩,hr8,⟨Yr,So _ _ hp wu.ne.symm,al.mono λv rs ⟨a,e,q⟩=>⟨a,e,q.fr (λ_ y=>y) λa xs e _ n _=>So _ _ e n⟩⟩,wu.ne,wu.lst⟩;by_cases e:a=ik
   ·rw[e];exact⟨_,i8⟩
   ·obtain⟨ob,e2⟩:=wu.al a z;exact⟨ob,So _ _ e2 e⟩
  have aeh:=aec.fr (λa ob e z=>So _ _ e (λq=>(du3 a z).1 (by rw[q];exact wu.wi))) t38;have zr:=nI.k (k:=kR) w8;rw[show cW (yx ik jW ps vl) kR=some (.ref jW) by kernel_rfl]at zr;refine⟨_,rfl,_,rfl,w,_,rfl,zr,W1,w,jW,aS++vD h cs,pe,[],[],rfl,⟨ik,jW,ps,vl,wo8⟩,by omega,λik' yV ⟨Ys,vl',e⟩=>?_,λH9 wo9 RM tp9 _=>?_⟩
  ·rw[w8]at e;simp only[Option.some.injEq,HO.dK.injEq,yx,List.cons.injEq,Prod.mk.injEq,V.ref.injEq,true_and,and_true]at e;obtain⟨rfl,rfl,rfl,rfl⟩:=e;exact hr8
  have aei:jB H9 l c:=by
   obtain⟨n,ns,i,d,r,e1,e2,h3⟩:=aed;exact⟨n,ns,i,d,r,RM _ _ (So _ _ e1 (λq=>(Jw.dw ik wu.wi).1 q.symm)) (λq=>(Jw.dw l q).1 rfl),RM _ _ (So _ _ e2 (λq=>(Jw.dw ik wu.wi).2 q.symm)) (λq=>(Jw.dw c q).2 rfl),h3⟩
  refine⟨_,_,U',W1,pe++[[]],aS++vD h cs,_,rfl,⟨aei,aeh.fr (λa ob e z=>RM _ _ e (du3 a z).1) tp9,by simp,wo9,du3,Jw.dw⟩,by rw[dX];simp only[qC,uA];omega,by rw[dX,zl];omega,by rw[dX];simp only[qC,uA];omega,RM _ _ (So _ _ ha3 (λq=>nW (by rw[q];exact wu.wi))) nW,nU3,nW⟩
 rintro σ H1 ⟨u3,u4,U1,W1,pe,aS,aB,rfl,ON,lp,li,ll,_,_,_⟩;have lx:([V.int 3,.int ((10:Int)^(50:Int).toNat)]).length=2:=rfl;rw[lx]at ON lp li ll;refine⟨_,rfl,l,c,3,rfl,ON.src,by decide,by decide,λv H2 v0 v1 S2 k2=>⟨_,_,rfl,rfl,2+v,rfl,by omega,by omega,?_⟩⟩;have Jw:=ON.mv (eE k2) S2;refine qT (lo:=0) (n:=(2+v).toNat) (λj σ H3=>∃ (u5:Option V) (U3 W3:Addr->Prop) (pe:ou) (aB:pP),σ=[some (.ref l),some (.ref w),some (.ref x),u3,u4,u5]/\Bt C CS CW CB H3 l c w x U3 W3 pe (e0 j) pe (e0 j) aB aS 2 []/\pe.length=j+3/\aB.length=j+2) ⟨none,U1,W1,pe,aB,rfl,Jw,by omega,by omega⟩ ?_ ?_
 ·rintro j σ H3 hj ⟨u5,U3,W3,pe,aB,rfl,XW,lp,ll⟩;have j4:j<4:=by omega
  have l0:(e0 j).length=j:=List.length_replicate;obtain⟨S',Q9,d',Mf,MN,OH,OI,OJ,OL,OM,By,BA,XG,XH,XJ,XN,db',tb',yp,LU⟩:=id XW.K0;refine⟨_,rfl,x,d',_,rfl,LU.L.hx,rfl,S',x,d',Mf,MN,OH,OI,OJ,OL,OM,By,BA,pe,yp,aB,e0 j,rfl,LU.L,XW.lst,by omega,by omega,by omega,λc=>absurd c (by omega),λ_=>⟨⟨_,by rw[GS];exact RL (by omega)⟩,λS'' H4 L4 fr4=>?_⟩⟩;rw[GS]at L4;obtain⟨U',aej,fu⟩:=LU.sZ L4 fr4;obtain⟨OO,_⟩:=XW.Xz aej (rows':=e0 (j+1)) (by simp) fu;obtain⟨ik,jW,ps,vl,wu⟩:=id OO.wo;have zr:=nI.k (k:=kR) wu.hw;rw[show cW (yx ik jW ps vl) kR=some (.ref jW) by kernel_rfl]at zr;obtain⟨_,_,_,vs,hvs,al⟩:=id wu.hr;have lv:=cj.len al;refine⟨_,rfl,_,rfl,w,_,rfl,zr,mj,λe he=>⟨lX,λo ho=>?_⟩⟩;have s1:=ak he (.lst []);have e1:(aQ H4 e (.lst [])) e=some (.lst []):=af;generalize aQ H4 e (.lst [])=H5 at s1 e1 ho;have s2:=ak ho (.lst [.ref e]);have o2:(aQ H5 o (.lst [.ref e])) o=some (.lst [.ref e]):=af;show Y8 _ _ (aQ H5 o (.lst [.ref e])) _;generalize aQ H5 o (.lst [.ref e])=H6 at s2 o2;have s02:=s1.trans s2;refine⟨jW,o,_,_,rfl,rfl,s02 _ _ hvs,o2,(by rw[lv];exact kX (aX (by simp only[qC,uA];omega))),λr Mc=>?_⟩;have s3:=ak Mc (.lst (vs++[.ref e]));have r3:(aQ H6 r (.lst (vs++[.ref e]))) r=some (.lst (vs++[.ref e])):=af;generalize aQ H6 r (.lst (vs++[.ref e]))=H7 at s3 r3;have Sd:=s02.trans s3;have Sq:=OO.same Sd;have ne:=OO.new he;have nr:=OO.new (aY s02 Mc);have e3:=s3 _ _ (s2 _ _ e1);have wu3:JI W3 H7 w ik jW ps vl aS pe (e0 j):=wu.fr (λa ob e _=>Sd _ _ e) (λa xs e=>Sd _ _ e)
  have Vw:JI (λa=>W3 a\/a=e\/a=r) H7 w ik jW ps vl aS pe (e0 j):=Bt.Vu wu3 (λa z=>.inl z) (by
   rintro a (z|z|z)
   ·exact wu3.al a z
   ·rw[z];exact⟨_,e3⟩
   ·rw[z];exact⟨_,r3⟩)
  have nn:∀ {a b:Addr},W3 a->¬ W3 b->b≠a:=λwa nb z=>nb (by rw[z];exact wa);refine⟨λa=>W3 a\/a=e\/a=r,w,r,aS,pe,e0 j,e0 (j+1),rfl,⟨ik,jW,ps,vl,Vw⟩,by omega,λik' yV ⟨Ys,vl',ee⟩=>?_,λH8 wo8 FO tp8 _=>?_⟩
  ·rw[wu3.hw]at ee;simp only[Option.some.injEq,HO.dK.injEq,yx,List.cons.injEq,Prod.mk.injEq,V.ref.injEq,true_and,and_true]at ee;obtain⟨rfl,rfl,rfl,rfl⟩:=ee;refine⟨.inr (.inr rfl),nn wu.wi nr.2.1,nn wu.wp nr.2.1,_,r3,?_⟩;rw[← GS];exact cj.snoc (al.mono λ_ _=>Vt.fr (λa z=>.inl z) (λa xs e _ _ _=>Sd _ _ e)) ⟨e,rfl,.inr (.inl rfl),nn wu.wi ne.2.1,nn wu.wp ne.2.1,e3⟩
  refine⟨_,U',_,pe++[e0 (j+1)],_,rfl,Sq.kept wo8 (λa z y=>?_) (λa y=>?_) FO tp8,by rw[dX];simp only[qC,uA];omega,by rw[dX];simp only[qC,uA];omega⟩
  ·rcases y with y|y|y
   ·exact (OO.du a z).1 y
   ·exact ne.1 (by rw[← y];exact z)
   ·exact nr.1 (by rw[← y];exact z)
  ·rcases y with y|y|y
   ·exact OO.dw a y
   ·rw[y];exact ne.2.2
   ·rw[y];exact nr.2.2
 rintro σ H3 ⟨u5,U3,W3,pe,aB,rfl,XW,lp,ll⟩;exact k U3 W3 pe (2+v).toNat aS aB H3 (by omega) (by omega) (by omega) (by omega) (by omega) XW
theorem RN{es:List Int}(h:∀ e∈es,0<=e):dZ es=[]:=by
 unfold dZ;rw[List.filterMap_eq_nil_iff];intro e he;rw[if_neg (by have:=h e he;omega)]
theorem MP(f:Int->Int):∀ {es:List Int},(∀ e∈es,0<=e)->mS f es=(es.length:Int)
 | [],_=>rfl
 | e::r,h=>by
  have ih:=MP f (es:=r) λy hy=>h y (sF _ hy);have he:=h e (yC ..);unfold mS at ih ⊢;rw[oK,List.sum_cons,ih,if_neg (by omega),qC];omega
inductive MQ(C CS CW CB:Addr)(vs:List V)(H:Hp)(Q:VK)(E:XK):Prop
 | mk (U W:Addr->Prop) (x w:Addr) (pe:ou) (aB:pP) (aS:m7) (nW:Nat) (cD:Row) (rows:dM) (pq:ou) (sh:Int->List Int) (_:vs=[.ref w,.ref x]) (_:yo C CS CW CB U H x pe aB aS nW cD) (_:pe.getLast?=some rows) (_:pe.length<=900) (_:Wo W H w aS pq rows) (_:Gd aS.length rows sh) (_:∀ H',aG H H'->Q (.bl true) H')
theorem sE:aJ ["_law_world_here","_law_house","_law_sheet"] ["_law_world_here","_law_house"] (aA nE):=jd
theorem yt{f fS fr:Addr}{g1:FuncData}(F:iK K "_law_shown_right" "_law_shown_right" nE f fd)(X:Ay K mg C CS CW CB XS XM XT XO XP)(A1:IV K mg CS)(A4:Yn K mg fS fZ)(bY:bU K C "shown" "Library.shown" iN xO f1 g1)(eX:aF K mg "_law_same" rj GZ fM gM)(iD:aF K mg "_law_whole" mW OP fO gO)(qS:aF K mg "_law_row_of" qK ["_law_numbers"] fr gr)(bN:aF K mg "_law_show" jo m8 fh gh):aC P w K mg base bZ 43 f fd ["_law_world_here","_law_house"] (MQ C CS CW CB):=by
 obtain⟨LM,_,_,_,_,_,_,_,_⟩:=X;have gW:aC P w K mg base (lP P w) 5 _ _ xO (vV C CS XS):=lK bY.F LM A1 A4;obtain⟨⟨T,_,_,_,_,_⟩,⟨fi,aH⟩,nw,ns,Fi,nk,nd,D8,dG,G⟩:=LM;have mR:aC P w K mg base bZ 4 _ _ GZ (zO 3):=vQ T iD eX 3;have GV:aC P w K mg base bZ 1 _ _ ["_law_numbers"] LN:=Ei qS.F T;have gG:aC P w K mg base bZ 42 _ _ m8 (uY 41):=mY T bN 41;refine lW F sE λdJ A outer s0 H vs Q E hr h=>?_;obtain⟨U,W,x,w,pe,aB,aS,nW,cD,rows,pq,sh,rfl,LB,hl,l2,wo,g,k⟩:=h;have hu:=lO hr;have l40:=g.ln;refine⟨_,(aj (gz PassesOwn.never rfl (kZ rfl T.nM (aa (jy T.je (jQ hu (pv 0) bG)) ah)) (cE (i:=2) sE.nd) (au (bT (j5 (lT (aK eX mR hr (aa (dP (pv 1) aH bY gW hr rN (aa (pv 2) ah)) (aa (aK qS GV hr (aa (aK bN gG hr (aa (jQ hu (pv 0) bG) (aa (pv 2) ah))) ah)) ah))))) (au (aO oG)) bu))) (au (aO oG))),?_⟩;obtain⟨ik,jW,ps,vl,wu⟩:=id wo;have zr:∀ {H1:Hp},aG H H1->_:=λ{H1} s=>nI.k (k:=kR) (s _ _ wu.hw);rw[show cW (yx ik jW ps vl) kR=some (.ref jW) by kernel_rfl]at zr;have R:=wu.hr.at_;obtain⟨xs,hxs,al⟩:=id R;have lv:=cj.len al;obtain⟨rk,rb,dn⟩:=id g.sn.rk;refine⟨_,rfl,w,_,rfl,zr (aG.refl _),jW,_,rfl,.inl (bR.of hxs),_,rfl,by omega,by omega,?_⟩;refine qT (lo:=0) (n:=_) (λj σ H1=>∃ u:Option V,σ=[some (.ref w),some (.ref x),u]/\aG H H1) ⟨none,rfl,aG.refl _⟩ ?_ ?_
 ·rintro j σ H1 hj ⟨u,rfl,s1⟩;have ij:qh rows.length (0+(j:Int)):=⟨by omega,by omega⟩;have ls:=g.sl _ ij.1 ij.2;obtain⟨S,SW,d,wl,MN,bl,kn,du,bk,dS,st,op,dw,sg,ow,pw,db,tb,ops,LU⟩:=id (LB.same s1);refine⟨_,rfl,x,d,_,rfl,LU.L.hx,rfl,_,rfl,S,x,d,wl,MN,bl,kn,du,bk,dS,st,op,pe,ops,aB,rows,0+(j:Int),rfl,LU.L,hl,by omega,l2,⟨by omega,by omega⟩,λz=>absurd ij z,λ_=>⟨sh,g.sn,λo H2 ho s2 fo=>?_⟩⟩;have rL:=s1.trans s2;refine⟨_,rfl,w,_,rfl,zr rL,_,rfl,_,jW,rows,_,sh,rk,rfl,R.same rL,by omega,g.sn.sd,ij.1,ij.2,g.sn.ss,g.sn.ln,dn,by have:=rb (0+(j:Int));omega,λo3 H3 h3 s3 f3=>?_⟩;refine⟨o3,sh (0+(j:Int)),rfl,h3,by omega,λr H4 Yk s4 f4=>⟨_,_,rfl,cL.eqv (ho.same (s3.trans s4)) Yk 0,λH5 s5=>⟨true,rfl,iI ⟨_,rfl,rL.trans (s3.trans (s4.trans s5))⟩⟩⟩⟩
 ·rintro σ H1 ⟨u,rfl,s1⟩;exact k H1 s1
theorem Fw{f g:Int->Int}:∀ {es:List Int},(∀ y∈dZ es,g y<=f y)->mS g es<=mS f es
 | [],_=>by simp[mS]
 | e::r,h=>by
  have ih:=Fw (es:=r) λy hy=>h y (b9.mpr ⟨(b9.mp hy).1,sF _ (b9.mp hy).2⟩);rw[AF,AF];by_cases c:e<0
  ·have z:=h (-1-e) (b9.mpr ⟨by omega,by rw[show -1-(-1-e)=e by omega];simp⟩);rw[if_pos c,if_pos c];omega
  ·rw[if_neg c,if_neg c];omega
theorem RO{n:Nat}{rows:dM}{sh:Int->List Int}{s:Int}(h:Good n rows)(g:Gd n rows sh)(is:qh rows.length s):Gd n (rows.set s.toNat (sh s)) sh/\Good n (rows.set s.toNat (sh s))/\∃ f,sf (rows.set s.toNat (sh s)) f/\f s=((sh s).length:Int):=by
 have Sm:=g.Sm s is.1 is.2;have nn:∀ e∈sh s,0<=e:=λe he=>(Sm e he).1;have nw:dZ (sh s)=[]:=RN nn;have hl:(rows.set s.toNat (sh s)).length=rows.length:=List.length_set;have i1:=is.1;have i2:=is.2;have GO:(rows.set s.toNat (sh s))[s.toNat]?=some (sh s):=by rw[List.getElem?_set,if_pos rfl,if_pos (by omega)]
 have get:∀ {x:Int} {es:List Int},0<=x->(rows.set s.toNat (sh s))[x.toNat]?=some es->(x=s/\es=sh s)\/(x.toNat≠s.toNat/\rows[x.toNat]?=some es):=by
  intro x es x0 he;by_cases c:x.toNat=s.toNat
  ·rw[c,GO]at he;cases he;exact .inl ⟨by omega,rfl⟩
  ·rw[List.getElem?_set_ne (λz=>c z.symm)]at he;exact .inr ⟨c,he⟩
 have nx:∀ x y,nJ (rows.set s.toNat (sh s)) x y->nJ rows x y:=by
  rintro x y ⟨x0,es,he,hy⟩;rcases get x0 he with ⟨_,rfl⟩|⟨_,z⟩
  ·rw[nw]at hy;cases hy
  ·exact⟨x0,es,z,hy⟩
 obtain⟨rk,rb,dn⟩:=id h.rk;have R':DR (rows.set s.toNat (sh s)):=⟨rk,rb,λx y z=>dn x y (nx x y z)⟩;have XR:=Jg (s:=s.toNat) g.en (es:=sh s) λe he=>.inl (Sm e he)
 have ss':qz (rows.set s.toNat (sh s)) sh:=λx es x0 he=>by
  rcases get x0 he with ⟨rfl,rfl⟩|⟨_,z⟩
  ·exact (zw _ _ nn).symm
  ·exact g.sn.ss x es x0 z
 have xq:∀ es∈rows.set s.toNat (sh s),es.length<=200:=λes he=>by
  rcases List.mem_or_eq_of_mem_set he with z|z
  ·exact g.es es z
  ·rw[z];exact g.sl s is.1 is.2
 obtain⟨f,hw,hm⟩:=h.wt;obtain⟨f',hw'⟩:=E5 R';have fs:f' s=((sh s).length:Int):=by rw[hw' s _ is.1 GO];exact MP _ nn
 have key:∀ (k:Nat) (x:Int),rk x<k->0<=x->x<rows.length->f' x<=f x:=by
  intro k
  induction k with
  | zero=>intro x h;omega
  | succ k ih =>
   intro x hx x0 x1;have he:rows[x.toNat]?=some rows[x.toNat]:=oJ (by omega);by_cases c:x.toNat=s.toNat
   ·have e:x=s:=by omega
    rw[e,fs];exact (Dt g.sn.sd g.sn.rk g.sn.ss hw s is.1 _ (by rw[← e];exact he)).2
   ·rw[hw x _ x0 he,hw' x _ x0 (by rw[List.getElem?_set_ne (λz=>c z.symm)];exact he)];refine Fw λy hy=>?_;have n:nJ rows x y:=⟨x0,_,he,hy⟩;obtain⟨y0,y1⟩:=g.sn.sd.FZ n;have:=dn _ _ n;exact ih y (by omega) y0 y1
 have m':∀ x:Int,0<=x->x<(rows.set s.toNat (sh s)).length->f' x<=200:=λx x0 x1=>by
  have:=key (rk x+1) x (Nat.lt_succ_self _) x0 (by omega);have:=hm x x0 (by omega);omega
 have l40:=g.ln;refine⟨⟨⟨λes he=>by have:=xq es he;omega,AG XR,R',ss',λx x0 x1=>g.sn.ln x x0 (by omega)⟩,λx x0 x1=>g.Sm x x0 (by omega),λx x0 x1=>g.sl x x0 (by omega),xq,XR,by omega⟩,⟨XR,R',by omega,f',hw',m'⟩,f',⟨by omega,λes he=>by have:=xq es he;omega,AG XR,R',hw',m'⟩,fs⟩
inductive I47(C CS CW CB l c x w:Addr)(n j:Nat)(aS:m7)(H:Hp):Prop
 | mk (U W:Addr->Prop) (pe:ou) (rows:dM) (aB:pP) (_:Bt C CS CW CB H l c w x U W pe rows pe rows aB aS 2 []) (_:rows.length=n) (_:pe.length<=10+j) (_:aB.length<=10+j) (_:Good aS.length rows)
theorem Uz{n m:Nat}(h:m<=40):Good n (e0 m):=by
 refine⟨λes he e hm=>?_,RK m,by rw[List.length_replicate];exact h,λ_=>0,λx es _ he=>?_,λ_ _ _=>(by decide:(0:Int)<=200)⟩
 ·rw[AI he]at hm;cases hm
 ·rw[AI (vn he)];rfl
def Lf(H0 H:Hp)(acc:Addr)(n:Nat)(sh:Int->List Int):Prop:=∃ bs:List Addr,H acc=some (.lst (bs.map V.ref))/\bs.length=n/\∀ (i:Nat) (b:Addr),bs[i]?=some b->b≠acc/\H0 b=none/\cL H b (cU (sh (i:Int)))
theorem Lf.snoc{H0 H H1:Hp}{n:Nat}{sh:Int->List Int}(h:Lf H0 H acc n sh)(s0:aG H0 H)(f:H0 acc=none)(s:aG H H1)(fo:H o=none)(ho:cL H1 o (cU (sh (n:Int)))):∃ bs:List Addr,H1 acc=some (.lst (bs.map V.ref))/\bs.length=n/\aG H0 (aQ H1 acc (.lst (bs.map V.ref++[.ref o])))/\Lf H0 (aQ H1 acc (.lst (bs.map V.ref++[.ref o]))) acc (n+1) sh:=by
 obtain⟨bs,ha,hl,hb⟩:=h;have ha1:=s _ _ ha;have k:=aN acc H1 (.lst (bs.map V.ref++[.ref o]));refine⟨bs,ha1,hl,bV f (s0.trans s) k,bs++[o],by rw[kT];exact af,by rw[dX,hl];rfl,λi b e=>?_⟩;rw[List.getElem?_append]at e;split at e
 ·obtain⟨n1,n2,r⟩:=hb i b e;exact⟨n1,n2,(r.same s).keep ha1 n1 k⟩
 ·have i0:i-bs.length=0:=by
   have:=(List.getElem?_eq_some_iff.mp e).1;rw[vF]at this;omega
  rw[i0]at e;cases e;have ne:o≠acc:=(az ha fo).symm;refine⟨ne,aY s0 fo,?_⟩;rw[show i=n by omega];exact ho.keep ha1 ne k
theorem Lf.same{H0 H H1:Hp}{n:Nat}{sh:Int->List Int}(h:Lf H0 H acc n sh)(s:aG H H1):Lf H0 H1 acc n sh:=by
 obtain⟨bs,ha,hl,hb⟩:=h;exact⟨bs,s _ _ ha,hl,λi b e=>⟨(hb i b e).1,(hb i b e).2.1,(hb i b e).2.2.same s⟩⟩
theorem Lf.two{H0 H H1:Hp}{n:Nat}{sh:Int->List Int}(h:Lf H0 H acc n sh)(f:H0 acc=none)(k:∀ b xs,H0 b=none->H b=some (.lst xs)->H1 b=some (.lst xs))(t:∀ a xs,H a=some (.tup xs)->H1 a=some (.tup xs)):Lf H0 H1 acc n sh:=by
 obtain⟨bs,ha,hl,hb⟩:=h;exact⟨bs,k _ _ f ha,hl,λi b e=>⟨(hb i b e).1,(hb i b e).2.1,(hb i b e).2.2.two (λxs=>k b xs (hb i b e).2.1) t⟩⟩
theorem Lf.eqv{H0 H1 H:Hp}{a b:Addr}{n:Nat}{sh:Int->List Int}(h:Lf H0 H a n sh)(g:Lf H1 H b n sh):Eqv H 4 (.ref a) (.ref b):=by
 obtain⟨bs,ha,la,pa⟩:=h;obtain⟨cs,hb,lb,pb⟩:=g;refine .inr ⟨true,a,b,_,_,rfl,rfl,ha,hb,by rw[cS,cS,la,lb],λi u v eu ev=>?_⟩;rw[j3]at eu ev;obtain⟨x,ex,rfl⟩:=Option.map_eq_some_iff.mp eu;obtain⟨y,ey,rfl⟩:=Option.map_eq_some_iff.mp ev;exact cL.eqv (pa i x ex).2.2 (pb i y ey).2.2 0
theorem zx:aJ ["_law_script","_law_src_here","_law_house","_law_world_here","_law_k","_law_sheet","_law_ahead","_law_numbers"] ["_law_script"] (aA Nn):=jd
theorem all_mk:UW:=by
 intro P w K mg fa q;obtain⟨gA,nF,nG,Hw,LA,bO,C,rF,wH,zL,yM,X,G,hfa,LC,LF,EB,PB,J6,FL,zM,LG,FN,PD,PF,PK,PL,UR,EC,US,PM,PN,PR,UT,UU,q0,q1,q2,q3,q4,q5,q6,q7,q8,q9,ED,q11,q12,q13,q14,q15,q16,q17,q18,q19,q20,q21,q22,q23,q24,q25,q26,q27,q28,q29,q30,q31,q32,q33,q34,q35,q36,q37,q38,q39,q40,q41,q42,q43,q44,q45,q46,q47,q48,q49,q50,q51,q52,q53,q54,q55,q56,q57,q58,q59,q60,q61,q62,q63,q64,q65,q66,q67,q68,q69,q70,q71,q72,q73,q74,q75,q76,q77,q78,q79,q80,q81,q82,q83,q84,q85,q86,q87,q88,q89,z0,z1,z2,z3,z4,z5,z6,z7,z8,z9,z10,z11,z12,xE0,Hx,EE,EF,Hy,xy,xA,Hz,yN,xB,vL⟩:=q;obtain⟨al,ll,cl,kl⟩:=q89;have e:=hfa.symm.trans (PySem.W.mg_of X G al);cases e;obtain⟨fd,F,bF⟩:∃ fd,iK K "law" "law" Nn fa fd/\∀ (s:Shared) (v:Value),BindsTo s fd ⟨[v],[]⟩ [("_law_script",v)]:=⟨_,J5 (st:=Nn) ll cl kl,λs v=>.of_eq rfl⟩;obtain⟨_,Fx⟩:=q0.d (ps:=["_law_script"]) X G;obtain⟨_,bK⟩:=q1.d (ps:=["_law_src_here","_law_base"]) X G;obtain⟨_,iD⟩:=q2.d (ps:=["_law_found"]) X G;obtain⟨_,eX⟩:=q3.d (ps:=["_law_found","_law_due"]) X G;obtain⟨_,eK⟩:=q4.d (ps:=["row"]) X G;obtain⟨_,iE⟩:=q5.d (ps:=["row"]) X G;obtain⟨_,cu⟩:=q6.d (ps:=["row","start","stop"]) X G;obtain⟨_,gZ⟩:=q7.d (ps:=["row","start","stop"]) X G;obtain⟨_,Fo⟩:=q8.d (ps:=["row","start","stop"]) X G;obtain⟨_,jU⟩:=q9.d (ps:=["self"]);obtain⟨_,cC⟩:=ED.d (ps:=["items"]) X G;obtain⟨_,iR⟩:=q11.d (ps:=["rows","sheets"]) X G;obtain⟨_,lG⟩:=q12.d (ps:=["rows","start","goal"]) X G;obtain⟨_,Mt⟩:=q13.d (ps:=["rows","sheet"]) X G;obtain⟨_,jf⟩:=q14.d (ps:=["item","weights"]) X G;obtain⟨_,iS⟩:=q15.d (ps:=["rows","sheets"]) X G;obtain⟨_,wW⟩:=q16.d (ps:=["rows","sheet"]) X G;obtain⟨_,cA⟩:=q17.d (ps:=["item","views"]) X G;obtain⟨_,cM⟩:=q18.d (ps:=["rows","sheets"]) X G;obtain⟨_,lY⟩:=q19.d (ps:=["rows","sheet"]) X G;obtain⟨_,jg⟩:=q20.d (ps:=["one","other"]) X G;obtain⟨_,cN⟩:=q21.d (ps:=["items"]) X G;obtain⟨_,d8⟩:=q22.d (ps:=["row"]) X G;obtain⟨_,nV⟩:=q23.d (ps:=["items","views"]) X G;obtain⟨_,mU⟩:=q24.d (ps:=["items","views","place","others"]) X G;obtain⟨_,jr⟩:=q25.d (ps:=["rows","sheet","place","items"]) X G;obtain⟨_,jZ⟩:=q26.d (ps:=["items","views","start","stop"]) X G;obtain⟨_,oY⟩:=q27.d (ps:=["rows","sheet","start","stop"]) X G;obtain⟨_,lM⟩:=q28.d (ps:=["rows","sheet","start","stop","to"]) X G;obtain⟨_,jP⟩:=q29.d (ps:=["rows","sheet"]) X G;obtain⟨_,kH⟩:=q30.d (ps:=["row"]) X G;obtain⟨_,sX⟩:=q31.d (ps:=["deed"]) X G;obtain⟨_,jS⟩:=q32.d (ps:=["state","sheet","items"]) X G;obtain⟨_,jT⟩:=q33.d (ps:=["self"]);obtain⟨_,dI⟩:=q34.d (ps:=["self"]);obtain⟨_,iG⟩:=q35.d (ps:=["self"]);obtain⟨_,sY⟩:=q36.d (ps:=["self","changes"]);obtain⟨_,aM⟩:=q37.d (ps:=["self","sheet"]);obtain⟨_,ff⟩:=q38.d (ps:=["self","moment"]);obtain⟨_,lJ⟩:=q39.d (ps:=["self","moment"]);obtain⟨_,bJ⟩:=q40.d (ps:=["self"]);obtain⟨_,uX⟩:=q41.d (ps:=["self","sheet"]);obtain⟨_,kK⟩:=q42.d (ps:=["self"]);obtain⟨_,kL⟩:=q43.d (ps:=["self"]);obtain⟨_,kJ⟩:=q44.d (ps:=["self"]);obtain⟨_,gF⟩:=q45.d (ps:=["self"]);obtain⟨_,uW⟩:=q46.d (ps:=["self","hand","text"]);obtain⟨_,tw⟩:=q47.d (ps:=["self","row"]);obtain⟨_,qN⟩:=q48.d (ps:=["rows","sheet"]) X G;obtain⟨_,om⟩:=q49.d (ps:=["self"]);obtain⟨_,aW⟩:=q50.d (ps:=["self","deed","changes"]);obtain⟨_,aR⟩:=q51.d (ps:=["self","deed","sheet","items"]);obtain⟨_,pK⟩:=q52.d (ps:=["self"]);obtain⟨_,n8⟩:=q53.d (ps:=["self","deed","items"]);obtain⟨_,iV⟩:=q54.d (ps:=["self"]);obtain⟨_,jj⟩:=q55.d (ps:=["self"]);obtain⟨_,fF⟩:=q56.d (ps:=["self","row"]);obtain⟨_,jv⟩:=q57.d (ps:=["self","hand","text"]);obtain⟨_,qP⟩:=q58.d (ps:=["self","sheet","place","row"]);obtain⟨_,bY⟩:=q59.d (ps:=["self","sheet"]);obtain⟨_,qQ⟩:=q60.d (ps:=["self","sheet","start","stop"]);obtain⟨_,oj⟩:=q61.d (ps:=["self","target","place","source","start","stop"]);obtain⟨_,zy⟩:=q62.d (ps:=["self","sheet"]);obtain⟨_,mH⟩:=q63.d (ps:=["self","target","place","source"]);obtain⟨_,lN⟩:=q64.d (ps:=["self","sheet"]);obtain⟨_,pM⟩:=q65.d (ps:=["self","sheet","start","stop","to"]);obtain⟨_,vm⟩:=q66.d (ps:=["self","sheet"]);obtain⟨_,tH⟩:=q67.d (ps:=[]) X G;obtain⟨_,iW⟩:=q68.d (ps:=["_law_world_here","_law_rows"]) X G;obtain⟨_,ju⟩:=q69.d (ps:=["_law_rows","_law_sheet","_law_entries"]) X G;obtain⟨_,tF⟩:=q70.d (ps:=["_law_row"]) X G;obtain⟨_,bN⟩:=q71.d (ps:=["_law_rows","_law_sheet"]) X G;obtain⟨_,pL⟩:=q72.d (ps:=["_law_rows","_law_sheet"]) X G;obtain⟨_,gR⟩:=q73.d (ps:=["_law_rows","_law_entry"]) X G;obtain⟨_,oZ⟩:=q74.d (ps:=["_law_rows","_law_sheet","_law_place","_law_new"]) X G;obtain⟨_,uw⟩:=q75.d (ps:=["_law_rows","_law_sheet","_law_start","_law_stop"]) X G;obtain⟨_,eO⟩:=q76.d (ps:=["_law_rows","_law_sheet"]) X G;obtain⟨_,qS⟩:=q77.d (ps:=["_law_numbers"]) X G;obtain⟨_,wm⟩:=q78.d (ps:=["_law_entries"]) X G;obtain⟨_,vd⟩:=q79.d (ps:=["_law_rows","_law_sheet"]) X G;obtain⟨_,tG⟩:=q80.d (ps:=["_law_world_here","_law_deed_here"]) X G;obtain⟨_,tV⟩:=q81.d (ps:=["self","sheet","moment"]);obtain⟨_,ve⟩:=q82.d (ps:=["_law_house","_law_deed_here"]) X G;obtain⟨_,pN⟩:=q83.d (ps:=["_law_src_here","_law_world_here"]) X G;obtain⟨_,pO⟩:=q84.d (ps:=["_law_src_here","_law_sheet","_law_room"]) X G;obtain⟨_,vc⟩:=q85.d (ps:=["_law_src_here","_law_world_here"]) X G;obtain⟨_,yu⟩:=q86.d (ps:=["_law_src_here","_law_world_here","_law_house"]) X G;obtain⟨_,A8⟩:=q87.d (ps:=["_law_src_here","_law_world_here","_law_house"]) X G;obtain⟨_,oq⟩:=q88.d (ps:=["_law_world_here","_law_house"]) X G;have T:nL mg:=⟨PySem.W.mg_none_of X G z0,PySem.W.mg_none_of X G z1,PySem.W.mg_none_of X G z2,PySem.W.mg_none_of X G z3,PySem.W.mg_none_of X G z4,PySem.W.mg_none_of X G z5,PySem.W.mg_none_of X G z6,PySem.W.mg_none_of X G z7,PySem.W.mg_none_of X G z8,PySem.W.mg_none_of X G z9,PySem.W.mg_none_of X G z10,PySem.W.mg_none_of X G z11,PySem.W.mg_none_of X G z12,λf e=>(iE.m).symm.trans e ▸ PySem.W.mg_of X G yN,λf e=>(lY.m).symm.trans e ▸ PySem.W.mg_of X G xB,λf e=>(wW.m).symm.trans e ▸ PySem.W.mg_of X G vL⟩;have G_:Gbs mg:=⟨⟨_,PySem.W.mg_of X G xy⟩,⟨_,PySem.W.mg_of X G xA⟩,⟨_,PySem.W.mg_of X G Hz⟩⟩;obtain⟨ea,eb,ec⟩:=xE0;have Z:Ct K mg C:=⟨PySem.W.mg_of X G ea,eb,ec⟩;have dR:=Hx.d X G;have cT:=EE.d X G;have oX:=EF.d X G;have dG:=Hy.d X G;have bM:=LC.d X G jT.mt;have jJ:=PB.d X G kJ.mt;have tS:=LG.d X G jU.mt;have IZ:=PD.d X G kK.mt;have I0:=PL.d X G kL.mt;have aH:=EC.d X G om.mt;have G:=G_;refine⟨fd,bF,λbase _ _=>?_⟩;have Oq:aC P w K mg base bZ 1 _ _ ["_law_script"] (UY K):=Ky Fx.F T;have cz:aC P w K mg base bZ 1 _ _ DE xZ:=pY bK.F T;have LM:Dd K mg bO gA rF wH yM:=⟨⟨T,⟨_,bM⟩,LF,EB,dR,cT⟩,⟨_,aH⟩,US,PM,PN,PR,UT,UU,dG,G⟩;have X:Ay K mg bO gA nF nG rF wH yM zL C:=⟨LM,⟨_,jJ⟩,J6,FL,zM,⟨_,tS⟩,FN,oX,Z⟩;have A1:IV K mg gA:=⟨⟨_,_,iG⟩,⟨_,_,dI⟩,⟨_,_,aM⟩,⟨_,_,ff⟩,⟨_,_,lJ⟩,⟨_,_,bJ⟩,⟨_,_,sY⟩⟩;have A2:Mw K mg:=⟨⟨_,_,cC⟩,⟨_,_,iR⟩,⟨_,_,jf⟩,⟨_,_,iS⟩,⟨_,_,lG⟩,⟨_,_,Mt⟩,⟨_,_,qN⟩,⟨_,_,jS⟩,⟨_,_,kH⟩,⟨_,_,sX⟩⟩;have A3:LbF K mg bO:=⟨⟨_,_,aW⟩,⟨_,_,aR⟩,⟨_,_,pK⟩,⟨_,_,n8⟩⟩;have A4:Yn K mg _ _:=⟨⟨_,_,cC⟩,⟨_,_,iR⟩,⟨_,_,cA⟩,⟨_,_,eK⟩,⟨_,_,cM⟩,⟨_,lY⟩,⟨_,iE⟩⟩;have A5:Xu K mg nF nG:=⟨⟨_,_,gF⟩,⟨_,_,uW⟩,⟨_,_,tw⟩⟩;have A6:Vp K mg:=⟨⟨_,_,cC⟩,⟨_,_,iR⟩,⟨_,_,cA⟩,⟨_,_,eK⟩,⟨_,_,cM⟩,⟨_,_,iE⟩,⟨_,_,cu⟩,⟨_,_,jg⟩,⟨_,_,cN⟩,⟨_,_,nV⟩,⟨_,_,gZ⟩,⟨_,_,d8⟩,⟨_,_,mU⟩,⟨_,_,jr⟩⟩;have zz:aC P w K mg base bZ 3 _ _ lZ (Fj bO gA nF nG):=xm om.F LM bM jT jJ kJ J6 FL zM tS jU FN IZ kK PF PK I0 kL UR;have u9:aC P w K mg base (lP P w) 6 _ _ xO (Rl bO gA nF nG rF):=vY lN.F X A1 A2 A6 aW aR jP lY;have gW:aC P w K mg base (lP P w) 5 _ _ xO (vV bO gA rF):=lK bY.F LM A1 A4;have GW:aC P w K mg base (lP P w) 4 _ _ xO (Rk bO gA rF):=Dm zy.F LM A1 uX;have Bw:aC P w K mg base (lP P w) 5 _ _ xO (Fp bO gA):=zu vm.F LM A1 A2 wW;have Jx:aC P w K mg base bZ 1 _ _ [] MG:=GG tH.F;have o6:aC P w K mg base bZ 1 _ _ MX GH:=v7 iW.F;have su:aC P w K mg base bZ 1 _ _ MV GI:=v8 ju.F T;have gG:aC P w K mg base bZ 42 _ _ m8 (uY 41):=mY T bN 41;have Dy:aC P w K mg base bZ 1 _ _ ["_law_entries"] MH:=Bu wm.F T;have mR:aC P w K mg base bZ 5 _ _ GZ (zO 4):=vQ T iD eX 4;have Jy:aC P w K mg base bZ 8 _ _ Sw (MO bO gA nF nG):=GU A8.F X A1 A2 A3 A5 aW jv iV bK iW;have Dz:aC P w K mg base bZ 46 _ _ Sw (Jt bO gA nF nG):=Ju yu.F T vc ju tG vd iW ve (Js vc.F T bK bN pN pO) (GP tG.F T bN gR oZ uw ju tF) (Jm vd.F T pL eO) (Jp ve.F X A1 A2 A4 A5 A6 aW aR bY jj fF jv iV qP qQ pM oj mH lN tV oY jZ lM jP lY Fo);have tK:aC P w K mg base bZ 43 _ _ ["_law_world_here","_law_house"] (MQ bO gA nF nG):=yt oq.F X A1 A4 bY eX iD qS bN;refine lW F zx λdJ A outer s H vs Q E hr h=>?_;obtain⟨a,ns,rfl,hS,h63,k⟩:=h;have hu:=lO hr;refine⟨_,(aj (bx (i:=1) zx.nd (aK Fx Oq hr (aa (pv 0) ah))) (aj (bx (i:=2) zx.nd (t7 aH.X9 zz (hr.mono (by decide)) rfl aH.m om.b .nil dh)) (aj (bx (i:=3) zx.nd (O9 Jx (hr.mono (by decide)) rfl tH.m tH.F.kp tH.b .nil dh)) (aj (bf (aK A8 Jy hr (aa (pv 1) (aa (pv 3) (aa (pv 2) ah))))) (aj (gz PassesOwn.never rfl (kZ rfl T.nM (aa (aK bK cz hr (aa (pv 1) (aa ay ah))) ah)) (cE (i:=4) zx.nd) (au (bT (j5 (lT (aK yu Dz hr (aa (pv 1) (aa (pv 3) (aa (pv 2) ah)))))) (au (aO oG)) bu))) (aj (bx (i:=5) zx.nd (aK bK cz hr (aa (pv 1) (aa (jy T.je (jQ hu (pv 3) bG)) ah)))) (aj (LW (N:=["_law_other","_law_house"]) (i:=6) (ud (sc:=aA Nn) (NX:=["_law_script","_law_src_here","_law_house","_law_world_here","_law_k","_law_sheet","_law_ahead","_law_numbers"]) (jx:=[none,some 2]) rfl rfl rfl (by decide +kernel) (by decide +kernel) rfl (by decide +kernel) rfl (by decide +kernel)) rfl zx.nd rfl rfl (kZ rfl T.nM (aa (jy T.je (jQ hu (pv 3) bG)) ah)) (λ_ _ _ _ _ _=>(cE (i:=0) (show List.Nodup (["_law_other","_law_house"]:List Str) by decide +kernel))) (λ_ _ _ _ _ _=>mF) (λ_ _ _ _ _ _=>(dP (pv 1) aH bY gW hr rN (aa (pv 0) ah)))) (aj (bT (BX (Lk (dP (pv 2) aH lN u9 hr rN (aa (pv 5) ah)))) (au (aO oG)) bu) (aj (bx (i:=7) zx.nd (aK bN gG hr (aa (jQ hu (pv 3) bG) (aa (pv 5) ah)))) (aj (bf (aK iW o6 hr (aa (pv 3) (aa (aK ju su hr (aa (jQ hu (pv 3) bG) (aa (pv 5) (aa (pv 7) ah)))) ah)))) (aj (bT (j5 (lT (aK eX mR hr (aa (mh (N:=["_law_other","_law_house"]) (ud (sc:=aA Nn) (NX:=["_law_script","_law_src_here","_law_house","_law_world_here","_law_k","_law_sheet","_law_ahead","_law_numbers"]) (jx:=[none,some 2]) rfl rfl rfl (by decide +kernel) (by decide +kernel) rfl (by decide +kernel) rfl (by decide +kernel)) rfl (kZ rfl T.nM (aa (jy T.je (jQ hu (pv 3) bG)) ah)) (λ_ _ _ _ _ _=>(cE (i:=0) (show List.Nodup (["_law_other","_law_house"]:List Str) by decide +kernel))) (λ_ _ _ _ _ _=>mF) (λ_ _ _ _ _ _=>(dP (pv 1) aH bY gW hr rN (aa (pv 0) ah)))) (aa (pv 6) ah))))) (au (aO oG)) bu) (aj (bT (j5 (lT (aK eX mR hr (aa (dP (pv 2) aH zy GW hr rN (aa (pv 5) ah)) (aa (aK wm Dy hr (aa (pv 7) ah)) ah))))) (au (aO oG)) bu) (aj (bT (PW.pt (Ep (j5 (lT (aK eX mR hr (aa (dP (pv 2) aH vm Bw hr rN (aa (pv 5) ah)) (aa (jy T.je (pv 7)) ah))))) (BY (j5 (lT (aK oq tK hr (aa (pv 3) (aa (pv 2) ah)))))))) (au (aO oG)) bu) (aj (gz PassesOwn.never rfl (kZ rfl T.nM (aa (aK bK cz hr (aa (pv 1) (aa ay ah))) ah)) (cE (i:=4) zx.nd) (au (bT (PW.pt (Ep (j5 (lT (aK yu Dz hr (aa (pv 1) (aa (pv 3) (aa (pv 2) ah)))))) (BY (j5 (lT (aK oq tK hr (aa (pv 3) (aa (pv 2) ah)))))))) (au (aO oG)) bu))) (au (aO oG)))))))))))))))),?_⟩;refine⟨_,rfl,a,ns,rfl,hS,λl c H1 S1 s1 _ _=>?_⟩;intro x dx fx fdx _;refine⟨x,dx,rfl,af,λU H2 L2 fU k2=>⟨rfl,?_⟩⟩;have s2:=qY fx fdx k2;have S2:=S1.same s2
 have fU':∀ a,U a->H1 a=none:=λa z=>by
  rcases fU a z with y|y
  ·rw[y];exact fx
  ·exact ur y
 refine⟨rfl,λW w H3 wo3 fW s3=>?_⟩
 have XW:Bt bO gA nF nG H3 l c w x U W [[]] [] [[]] [] [] [] 0 []:=by
  refine⟨S2.same s3,L2.same s3,rfl,wo3,λa z=>⟨λy=>?_,?_⟩,λa z=>?_⟩
  ·obtain⟨ob,e⟩:=L2.al z;rw[fW a y]at e;cases e
  ·have n:=S1.ne (fU' a z);exact⟨n.1.symm,n.2.symm⟩
  ·have n:=S2.ne (fW a z);exact⟨n.1.symm,n.2.symm⟩
 refine⟨_,rfl,_,rfl,_,rfl,l,c,w,x,U,W,rfl,XW,λU4 W4 pe4 n aS ln4 H4 n2 n4 li lp4 ll4 OO=>?_⟩;refine⟨_,rfl,l,c,8,rfl,OO.src,by decide,by decide,λv H5 v0 v1 S5 k5=>⟨v,rfl,by omega,by omega,?_⟩⟩;refine qT (lo:=0) (n:=v.toNat) (λj σ H6=>∃ u:Option V,σ=[some (.ref a),some (.ref l),some (.ref x),some (.ref w),u,none,none,none]/\I47 bO gA nF nG l c x w n j aS H6) ⟨none,rfl,U4,W4,pe4,e0 n,ln4,OO.mv (eE k5) S5,List.length_replicate,by omega,by omega,Uz (by omega)⟩ ?_ ?_
 ·rintro j σ H6 hj ⟨u,rfl,U,W,pe,rows,aB,St,rl,lp,ll,gd⟩;have j8:j<8:=by omega
  exact⟨_,rfl,_,rfl,_,rfl,l,c,w,x,U,W,pe,rows,aB,aS,2,[],rfl,St,by omega,by omega,by omega,by omega,gd,λU' W' JH rows' jY H7 Sq rl' lp' ll' Sn=>⟨true,rfl,iI ⟨_,rfl,U',W',JH,rows',jY,Sq,by omega,by omega,by omega,Sn⟩⟩⟩
 rintro σ H6 ⟨u,rfl,U,W,pe,rows,aB,Uy,rl,lp,ll,gd⟩;obtain⟨sh,g⟩:=gd.Ry;obtain⟨rk,rb,dn⟩:=id g.sn.rk;have b4:rows.length<=4:=by omega
 have lp:pe.length<=20:=by omega
 have ll:aB.length<=20:=by omega
 have b50:rows.length<=50:=by omega
 have aaA:pe.length<=900:=by omega
 have oB:∀ {s:Int},qh rows.length s->m6 s:=λz=>XE z.1 (by have:=z.2;omega);obtain⟨ik,jW,ps,vl,wu⟩:=id Uy.wo
 have zr:∀ {ik jW ps vl:Addr} {H1:Hp},H1 w=some (.dK (yx ik jW ps vl))->nI H1 w (kV kR) (some (.ref jW)):=λ{ik jW ps vl H1} e=>by
  have z:=nI.k (k:=kR) e;rwa [show cW (yx ik jW ps vl) kR=some (.ref jW) by kernel_rfl]at z
 obtain⟨xs,hxs,al⟩:=id wu.hr.at_;have lv:=cj.len al;refine⟨_,rfl,_,rfl,w,_,rfl,zr wu.hw,jW,_,rfl,.inl (bR.of hxs),l,c,_,rfl,Uy.src,by omega,by omega,λs H7 s0 s1 S7 k7=>?_⟩;have is:qh rows.length s:=⟨s0,by omega⟩;have ss:((s.toNat:Nat):Int)=s:=by omega
 have ahp:=g.sl s is.1 is.2;have Sq:=Uy.mv (eE k7) S7;obtain⟨ls,hls⟩:=Uy.src.lst;have wu7:JI W H7 w ik jW ps vl aS pe rows:=wu.fr (λa ob e z=>(k7 _ (Uy.dw _ z).1).trans e) λa xs e=>eE k7 _ _ e (eL e hls);have aaB:H7 jW=some (.lst xs):=(k7 _ (Uy.dw _ wu.hr.1).1).trans hxs;refine⟨_,rfl,w,_,rfl,zr wu7.hw,jW,_,rfl,.inl (bR.of aaB),_,rfl,by omega,by omega,λacc fH=>vM (lo:=0) (k:=((xs.length:Nat):Int).toNat) (λi σ Hi=>∃ u:Option V,σ=[u,some (.ref x)]/\Lf H7 Hi acc i sh/\aG H7 Hi) ⟨none,rfl,⟨[],af,rfl,λi b e=>by cases e⟩,ak fH _⟩ ?_ ?_⟩
 ·rintro i σ Hi hi ⟨u,rfl,sl,si⟩;have il:i<rows.length:=by omega
  have ij:qh rows.length (0+(i:Int)):=⟨by omega,by omega⟩;obtain⟨S',Q9,d',Mf,MN,OH,OI,OJ,OL,OM,By,BA,XG,XH,XJ,XN,db',tb',yp,LU⟩:=id (Sq.K0.same si);refine⟨_,rfl,x,d',_,rfl,LU.L.hx,rfl,_,rfl,S',x,d',Mf,MN,OH,OI,OJ,OL,OM,By,BA,pe,yp,aB,rows,0+(i:Int),rfl,LU.L,Sq.lst,b50,aaA,oB ij,λz=>absurd ij z,λ_=>⟨sh,g.sn,λo Hk ho sk fo=>?_⟩⟩;obtain⟨bs,hb,lb,sm,UG⟩:=sl.snoc si fH sk fo (by rw[← Int.zero_add (i:Int)];exact ho);exact⟨_,hb,(by rw[cS];exact aX (by omega)),_,rfl,UG,sm⟩
 rintro σ H8 ⟨u8,rfl,sl,s8⟩;rw[show ((xs.length:Nat):Int).toNat=rows.length by omega]at sl;have St8:=Sq.same s8;obtain⟨g',Sn,f',B',fs⟩:=RO gd g is;have tl:s.toNat<rows.length:=by omega
 have FI:(rows.set s.toNat (sh s)).length=rows.length:=List.length_set;have aaC:=Dn (sh s) tl;obtain⟨S',Q9,d',Mf,MN,OH,OI,OJ,OL,OM,By,BA,XG,XH,XJ,XN,db',tb',yp,LU⟩:=id St8.K0;refine⟨_,rfl,x,d',_,rfl,LU.L.hx,rfl,_,rfl,U,x,pe,aB,aS,2,[],s,rows,rfl,St8.K0,St8.lst,b50,aaA,by omega,oB is,λz=>absurd is z,λ_=>⟨sh,g.sn,by rw[aaC];exact Sn.bears,λU' H9 L9 RM=>?_⟩⟩;rw[aaC]at L9;obtain⟨St9,_⟩:=St8.Xz L9 (rows':=rows.set s.toNat (sh s)) (by simp) RM;refine⟨false,congrArg V.bl (by simp),iI ?_⟩;have wu9:JI W H9 w ik jW ps vl aS pe rows:=wu7.fr (λa ob e z=>RM.2.1 _ _ (s8 _ _ e) (λy=>(Sq.du a y).1 z)) λa xs e=>RM.2.2 _ _ (s8 _ _ e);have aaE:=RM.2.1 _ _ (s8 _ _ aaB) λy=>(Sq.du _ y).1 wu.hr.1;refine⟨_,rfl,w,_,rfl,zr wu9.hw,_,rfl,_,jW,rows,s,sh,rk,rfl,wu9.hr.at_,by omega,g.sn.sd,is.1,is.2,g.sn.ss,g.sn.ln,dn,by have:=rb s;omega,λo P8 ho RV fo=>?_⟩;refine⟨_,rfl,_,rfl,w,_,rfl,zr (RV _ _ wu9.hw),_,rfl,_,rfl,jW,o,s.toNat,xs,by rw[ss];rfl,RV _ _ aaE,by omega,by omega,λq Zs hq xD fq=>?_⟩;have Ot:=RV.trans xD;have aen:=St9.same Ot;have XX:JI W Zs w ik jW ps vl aS pe rows:=wu9.fr (λa ob e _=>Ot _ _ e) λa xs e=>Ot _ _ e;have nq:=St9.new (aY RV fq);have no:=St9.new fo;obtain⟨Vw,rv⟩:=Wo.swap XX (Ot _ _ aaE) hq (xD _ _ ho) nq.2.1 no.2.1;refine⟨_,w,q,aS,pe,rows,rows.set s.toNat (sh s),rfl,⟨ik,jW,ps,vl,Vw⟩,by omega,λik' yV ⟨Ys,vl',ee⟩=>?_,λX8 aaF aaG aaH aeo=>?_⟩
 ·rw[XX.hw]at ee;simp only[Option.some.injEq,HO.dK.injEq,yx,List.cons.injEq,Prod.mk.injEq,V.ref.injEq,true_and,and_true]at ee;obtain⟨rfl,rfl,rfl,rfl⟩:=ee;exact rv
 have RP:=aen.kept aaF (λa z y=>by
  rcases y with y|y|y
  ·exact (St9.du a z).1 y
  ·exact no.1 (by rw[← y];exact z)
  ·exact nq.1 (by rw[← y];exact z)) (λa y=>by
  rcases y with y|y|y
  ·exact St9.dw a y
  ·rw[y];exact no.2.2
  ·rw[y];exact nq.2.2) aaG aaH
 have o12:X8 o=some (.lst ((sh s).map V.int)):=aeo _ _ _ _ XX.hw _ _ (xD _ _ ho) λz=>no.2.1 (by rw[z];exact wu.wp)
 have aep:Lf H7 X8 acc rows.length sh:=sl.two fH (λb xs fb e=>by
  have nb:=Sq.new fb;have e9:=RM.2.1 _ _ e nb.1;refine aaG _ _ (Ot _ _ e9) λy=>?_;rcases y with y|y|y
  ·exact nb.2.1 y
  ·rw[y,fo]at e9;cases e9
  ·rw[y,aY RV fq]at e9;cases e9) λa xs e=>aaH _ _ (Ot _ _ (RM.2.2 _ _ e))
 obtain⟨ik2,Ys,ps2,vl2,aaI⟩:=id aaF;obtain⟨xs2,aeq,al2⟩:=id aaI.hr.at_;have lv2:=cj.len al2;rw[FI]at lv2;have lpe:(pe++[rows.set s.toNat (sh s)]).length=pe.length+1:=by rw[dX];rfl
 have c50:(rows.set s.toNat (sh s)).length<=50:=by rw[FI];exact b50
 have UA:(pe++[rows.set s.toNat (sh s)]).length<=900:=by omega
 have lli:(aB++[(nY.plain fxW [s]).line]).length=aB.length+1:=by rw[dX];rfl
 refine⟨_,rfl,w,_,rfl,zr aaI.hw,Ys,_,rfl,.inl (bR.of aeq),_,rfl,by omega,by omega,λaes VC=>vM (lo:=0) (k:=((xs2.length:Nat):Int).toNat) (λi σ Hi=>∃ u:Option V,σ=[u,some (.ref x)]/\Lf X8 Hi aes i sh/\aG X8 Hi) ⟨none,rfl,⟨[],af,rfl,λi b e=>by cases e⟩,ak VC _⟩ ?_ ?_⟩
 ·rintro i σ Hi hi ⟨u,rfl,sl,si⟩;have il:i<rows.length:=by omega
  have ij:qh rows.length (0+(i:Int)):=⟨by omega,by omega⟩;obtain⟨S',Q9,d',Mf,MN,OH,OI,OJ,OL,OM,By,BA,XG,XH,XJ,XN,db',tb',yp,LU⟩:=id (RP.K0.same si);refine⟨_,rfl,x,d',_,rfl,LU.L.hx,rfl,_,rfl,S',x,d',Mf,MN,OH,OI,OJ,OL,OM,By,BA,_,yp,_,rows.set s.toNat (sh s),0+(i:Int),rfl,LU.L,RP.lst,c50,UA,oB ij,λz=>absurd (by rw[FI];exact ij) z,λ_=>⟨sh,g'.sn,λo Hk ho sk fo=>?_⟩⟩;obtain⟨bs,hb,lb,sm,UG⟩:=sl.snoc si VC sk fo (by rw[← Int.zero_add (i:Int)];exact ho);exact⟨_,hb,(by rw[cS];exact aX (by omega)),_,rfl,UG,sm⟩
 rintro σ H13 ⟨u13,rfl,sl2,zY⟩;rw[show ((xs2.length:Nat):Int).toNat=rows.length by omega]at sl2;refine⟨_,rfl,_,_,rfl,sl2.eqv (aep.same zY),λH14 JG=>⟨true,rfl,iI ?_⟩⟩;have XY:=zY.trans JG;have aaJ:=RP.same XY;have GO:(rows.set s.toNat (sh s))[s.toNat]?=some (sh s):=by rw[List.getElem?_set,if_pos rfl,if_pos tl]
 obtain⟨S',Q9,d',Mf,MN,OH,OI,OJ,OL,OM,By,BA,XG,XH,XJ,XN,db',tb',yp,LU⟩:=id aaJ.K0;refine⟨_,rfl,x,d',_,rfl,LU.L.hx,rfl,_,rfl,S',x,d',Mf,MN,OH,OI,OJ,OL,OM,By,BA,_,yp,_,_,s,rfl,LU.L,aaJ.lst,c50,UA,oB is,λz=>absurd ⟨s0,by omega⟩ z,λ_ es uq q15 H15 aet MF aj2=>?_⟩;rw[GO]at uq;cases uq;refine⟨_,rfl,o,sh s,rfl,(XY.trans MF) _ _ o12,by omega,λo16 H16 aeu Rg f16=>⟨_,_,rfl,bL.eqv 1 (aet.same Rg) aeu,λH17 s17=>⟨true,rfl,iI ?_⟩⟩⟩;have XZ:=XY.trans (MF.trans (Rg.trans s17));have aaK:=RP.same XZ;clear LU;obtain⟨S',Q9,d',Mf,MN,OH,OI,OJ,OL,OM,By,BA,XG,XH,XJ,XN,db',tb',yp,LU⟩:=id aaK.K0;refine⟨_,rfl,x,d',_,rfl,LU.L.hx,rfl,_,rfl,S',x,d',Mf,MN,OH,OI,OJ,OL,OM,By,BA,_,yp,_,_,s.toNat,f',by rw[ss];rfl,LU.L,aaK.lst,c50,UA,by omega,B',λH18 s18=>?_⟩;rw[ss,fs];refine⟨_,rfl,o,_,rfl,.inl (bR.of ((XZ.trans s18) _ _ o12)),_,_,rfl,.inl ⟨rfl,by rw[cS]⟩,λH19 s19=>?_⟩;have aaL:=XZ.trans (s18.trans s19);have UB:=RP.same aaL;refine⟨true,rfl,iI ?_⟩;refine⟨_,rfl,_,rfl,U',_,x,w,_,_,aS,2,[],_,_,sh,rfl,UB.K0,UB.lst,UA,UB.wo,g',λH20 s20=>⟨true,rfl,iI ?_⟩⟩;have aaM:=UB.same s20;refine⟨_,rfl,l,c,6,rfl,aaM.src,by decide,by decide,λy H21 y0 y1 S21 k21=>⟨y,rfl,by omega,by omega,?_⟩⟩;refine qT (lo:=0) (n:=y.toNat) (λj σ Hj=>∃ u:Option V,σ=[some (.ref a),some (.ref l),some (.ref x),some (.ref w),u,some (.int s),some (.ref acc),some (.ref o)]/\I47 bO gA nF nG l c x w n (j+10) aS Hj) ⟨_,rfl,U',_,_,_,_,aaM.mv (eE k21) S21,by omega,by omega,by omega,Sn⟩ ?_ ?_
 ·rintro j σ Hj hj ⟨u,rfl,U,W,pe,rows,aB,St,rl,lp,ll,gd⟩;have j8:j<6:=by omega
  refine⟨_,rfl,_,rfl,_,rfl,l,c,w,x,U,W,pe,rows,aB,aS,2,[],rfl,St,by omega,by omega,by omega,by omega,gd,λU' W' JH rows' jY Hk Stk rl' lp' ll' Sn=>⟨true,rfl,iI ?_⟩⟩;obtain⟨sh,g⟩:=Sn.Ry;exact⟨_,rfl,_,rfl,U',W',x,w,JH,jY,aS,2,[],rows',JH,sh,rfl,Stk.K0,Stk.lst,by omega,Stk.wo,g,λHm sm=>⟨true,rfl,iI ⟨_,rfl,U',W',JH,rows',jY,Stk.same sm,by omega,by omega,by omega,Sn⟩⟩⟩
 rintro σ Hj ⟨u,rfl,_⟩;exact k Hj
end
end jE
theorem PySem.Challenge.cw_inkroot_k47_fix_holds : PySem.Challenge.rw_inkroot_k47_fix.Holds :=
 InkHd.hd2 jE.all_mk
