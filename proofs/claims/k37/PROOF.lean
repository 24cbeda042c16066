import PyProof.Rows.All
import OpenK.KLine
import Wide.FinOn
import KE.KItem
import KE.KIsAll
import KE.KxBytes
import KE.KTryMore
import KE.KRevIter
import KE.KIntText
import KE.KDictSum
import KE.KDictList
import KE.KEqDict
import KE.KDictOf
import KE.KUnpack
import Lean
import PySem.Challenge.RW_moot_k37_whole_where_two_part
set_option Elab.async false
set_option linter.all false
set_option maxRecDepth 100000
set_option maxHeartbeats 4000000
structure PySem.W.Fast:Prop where(tw17558886519312180993 tw16667937524121566275 tw6953138203311097117 tw16010445338678590299 tw738962342233504738 tw13342595474641073200 tw7103901088158463082 tw861502493610598483 tw7849015676453855939 tw2259873961697373779 tw9755942006361983791 tw15150641518128501605 tw13717034501749206946 tw54319143688515733 tw7774113678449685934 tw12594988378385778876 tw2361496342566212426 tw16280658162054754363 tw9306511735689505906 tw7257460582837084246 tw9493307185956880263 tw7597207336037581707 tw13141224326027532124 tw8728042847472895959 tw1952406642789878711 tw10416115033411757899 tw14769054280063640981 tw1736905686312603939 tw7407744344239389898 tw10041932099767429965 tw7353485770183898095 tw6265987150890485897 tw17558320327384617127 tw11903097693493003620 tw13797355535440723964 tw15877578563576910732 tw1804834754348979943 tw3851428956369438258 tw5388589039460942527 tw5617726103321767126 tw2233547320038402401 tw1723517241395956516 tw2992238238014362344 tw7033543273419693189 tw4341293187932698999 tw11151835277377553703 tw9705477135408329381 tw8293125293789966914 tw14201004317487731011 tw463774138113389760 tw9266374589662076923 tw2756987226419365412 tw16547831721936604272 tw15888466755372326495 tw11526606772788702011 tw16724026331043363489 tw12809436989009611891 tw16003985067176294414 tw12041797014711123256 tw7403982271040965895 tw11272164335830466941 tw1624323068313547334 tw10833825939047706337 tw6596865962944208577 tw7985883749528016586 tw17348111734160510231 tw2480015634913765671 tw7792700002687035005 tw16753820520455620202 tw4026147355466621588 tw15214748959534726111 tw11207431853666184334 tw5725222548895626118 tw1207101557538958131 tw6030501089693204938 tw14520296925931582552 tw4991487270385306882 tw10151330197121100416 tw726351398001015727 tw10167646349310259628 tw12393862125047025020 tw15433366417846715934 tw3665444673518743966 tw3981977580325598530 tw3817596123196066256 tw15910123707662034135 tw14321067358777074657 tw18441984877410159329 tw7151132215420815488 tw646091604453992162 tw5263133172445716209 tw1825952489489211193 tw10953238642706405951 tw9530734954097333506 tw17890440400047909864 tw180266875558373844 tw577049184839899653 tw14398111036562950334 tw13465540834166320765 tw18060508904421208200 tw6325675986683464353 tw727553628536289456 tw17271881437230615512 tw10611411778653204182 tw12627051441459223148 tw14785633479632635281 tw16802631365582062104 tw4102176305081739490 tw10911716485165742097 tw13851515409511356469 tw6945566481307383155 tw7249310025045793396 tw6284410105664486691 tw17937168697417666835 tw7764699552788554220 tw13946496683202179788 tw376983999666122830 tw12550775161083096063 tw9719393640593047967 tw12917704675397863716 tw15932183184989994656 tw12549542988036985293 tw16109456028575089023 tw18352723725473834589 tw447263597446747957 tw12477129341811645039 tw10395332584310045583 tw5694767641087392711 tw6900931685637148767 tw5376530373609499990 tw506581581156960101 tw6191700953566675008 tw15969335453137586327 tw5994696166404524948 tw13257283266767686631 tw5622701340561072331 tw16232239604740543338 tw17508347553164502932 tw16005714805435085966 tw3652199383789512132 tw555815775780349263 tw17590876675597686902 tw5364010647548929812 tw12459912946257978736 tw3236729772642805936 tw3945831679567021610 tw12091442091272426231 tw18048741565030583774 tw12652081859355081885 tw12930229547647579594 tw13141587033338554882 tw17360015989920007124 tw1495895850433845275 tw15540911362017771936 tw4538635040379822027 tw7873786274422454737 tw8150244357695641675 tw10576836333797772347 tw4512776594637900181 tw11837218909656210887 tw4211115844707057057 tw8949853181751564097 tw2595618661548880785 tw14260533273033392520 tw15499940227032437249 tw13348088958985639553 tw16035376269474964883 tw17163426234232328066 tw3344036261162260069 tw6145912378217320015 tw10294118229990073760 tw14811107726043686439 tw8840235324560252208 tw11212356425047092601 tw2759284407945088205 tw14294133066467233204 tw9162645422354645296 tw12020253756985099128 tw16766484511958638138 tw13468011388731342839 tw14934011241717051027 tw12727641955093265886 tw17694573340227235524 tw14546174082565282566 tw10859743581388371069 tw5323960799030618294 tw11220919329744738794 tw8006371003960147343 tw2768188642542392010 tw1683588176727124409 tw15481805183316651443 tw17963105932079019327 tw14715273107921467267 tw16309811473084048462 tw11829361678007005 tw17397653436517662659 tw4091352561680426876 tw5449563278759341024 tw8428246938381088814 tw18333273249017474000 tw11107512795663914464 tw1442379640649564109 tw3328811466098603303 tw4884199854448574 tw5171440476677080432 tw12125097214300078407 tw9252304221032618942 tw11009225556382593827 tw18400553757987027518 tw5371794888043636658 tw16086907953836968628 tw4267111383703672358 tw8278001386518606062 tw15593559885672580101 tw13872120688422071045 tw10295913840692754127 tw16260866306193365299 tw2798354288661578230 tw14819390147424179368 tw15806707075529380192 tw2868442198168577507 tw639924544979245993 tw4946147512530127568 tw14637863174436434189 tw12441744018607269044 tw6984818610989830729 tw7478123994339007903 tw6508132753307246276 tw5832146486336120021 tw5483103596317574428 tw10026605065719503897 tw11095110211248682772 tw7053471978191194526 tw11907897558876765624 tw5008593111378822452 tw2424988045566436242 tw5239429619861171699 tw4860023922305330110 tw18146532975450069615 tw11859619671507778021 tw4598271963242535575 tw16822532161544500889 tw1840220198017710270 tw2135409205425526673 tw5002640475654186023 tw13769103115541136327 tw5960047855520388891 tw14284835775768690865 tw6880980288501444468 tw5086489192560080304 tw5404398260228975080 tw7372170664606466022 tw17871049288011112270 tw10387345722656961088 tw10159399881129095643 tw13073492499399858440 tw7998583776865276027 tw4772062507164038959 tw7828442866392281868 tw14940998509354871970 tw16104904000761663961 tw10284273198859499032 tw786537726763496527 tw2580195520493374949 tw17689344090056996911 tw12826555694032677247 tw14135006944967825841 tw5037459499596335280 tw13444670453868202053 tw14935156969734317764 tw2213964242967304950 tw6044648929357246223 tw13953587524928339648 tw7086961617601330827 tw3300257896294614128 tw17318462890700432884 tw4699756791338806529 tw13812277999558781770 tw9215358943560890414 tw16792556548410726896 tw1062514266329012355 tw12770481643036789091 tw855453113358079251 tw9553971096990549364 tw1932759071263863916 tw13215348057498601715 tw17346623794827051843 tw10312438410070409164 tw15060872555676474952 tw15171223727094530161 tw17082689572870858151 tw5920806927976990809 tw14441679199631801671 tw13459084325293418506 tw8622715204490130888 tw2846267367221353805 tw6128145076113358165 tw8565224436197482051 tw15590096980072825465 tw13394580363473044415 tw9689729476882780088 tw13160504802963445071 tw12738610918357793766 tw13813618637161013713 tw2785556982917274878 tw11024694936033576346 tw18384110700954362821 tw5137589814051832496 tw6657536258744368796 tw13669536469129627823 tw10988764466652934233 tw3538781236444307513 tw11824586356888161845 tw4565167180653195659 tw14219159868682941630 tw206757683497733573 tw16636501806038632012 tw10479991185640055810 tw2046362190076281809 tw5306753302271460952 tw12954591660760965231 tw14727194681476072466 tw4046790133079468173 tw10842938092177581297 tw11489344026974618541 tw18183970276198133131 tw12488014758255163090 tw15166322114958858414 tw16607193741793207195 tw699815216081779126 tw10228342955482612591 tw12461081396071149458 tw15418378422589880096 tw11373181179767321252 tw14341141199694864594 tw1866716027138748530 tw1922157984580058403 tw9757595895972200118 tw17760279517084355780 tw12269216009862288129 tw18031968618487185184 tw16902440903046159558 tw11564986514327137767 tw9592521066531166775 tw3713540243193553862 tw3897268976836264337 tw1979317910248211280 tw14993981098963755598 tw10186303709888756887 tw8185220541750880888 tw12670982853097334264 tw1599053048872161195 tw4290864757253303354 tw9931937742245647033 tw12138319994727072339 tw18095796173783872564 tw8997383693586321770 tw14170518179582410385 tw13303234937177203706 tw15792790952358468732 tw10826640976665885199 tw11308061921803828041 tw8915285831880473931 tw11063759124802658401 tw8498532028676091811 tw15763482434359817770 tw18402647697222807634 tw3543459598558145280 tw3239113980409921550 tw7424060955962978353 tw2261719852989239553 tw14904681115217272601 tw11401859456886640639 tw7220529860990300233 tw9113380124883318265 tw6798380500665416597 tw4480162626587320490 tw7480016910919988345 tw2107523057676978006 tw15127105006835628225 tw12903330217458380548 tw6690350156832105676 tw599730875272715187 tw1000662321505670351 tw3953844824629472508 tw16864618592142003386 tw6162269159774324313 tw6851275008772768644 tw1835071406663858368 tw6060609690816243450 tw6548459193220583526 tw16773468814595293053 tw14961746396406840608 tw8431482922422412695 tw14958820412457663293 tw9784134513789038367 tw15925456577456769635 tw16699271105357772698 tw4849480874435393781 tw18314875396610151526 tw10876078143196172821 tw9116068151291705539 tw14022695629967993375 tw4953865588907285216 tw4039707410889071942 tw2638924239945547994 tw6469784823511061222 tw11823594873375168262 tw4547051000311932777 tw2353497105660221152 tw18418582437962087742 tw11266997524610791606 tw140001813534094272 tw375148617187948888 tw2403389108928632939 tw5362036446546632119 tw14859695947638507448 tw6170744672141170255 tw16409965706819354750 tw1142673529048489019 tw15267169705364848929 tw11481637867367846703 tw5438652380644606353 tw18101783494082082527 tw9768259533172459722 tw18293242582946804979 tw3382625519597670723 tw12887044766017154078 tw18157406047293677543 tw3235425350174046738 tw11962351593759143498 tw11429584451438056573 tw9433028549170029634 tw2455152089536381482 tw140236481695663071 tw6229817132586351632 tw8002303944043701648 tw3641951560692057861 tw5344687154915797982 tw17260811203177919210 tw1158361714356455011 tw6751970477201280107 tw8535803893964050539 tw16728255500844073214 tw1864683662541468164 tw16626521671886133394 tw17691633702590694504 tw5338801713223979382 tw12528533614272120300 tw6408400580700104982 tw16873086082458093902 tw2244103112122482387 tw11434409910335936926 tw987426779421491659 tw3985964047577975286 tw15870398105094248349 tw1181674027530198351 tw13851971633180934007 tw5665240888008139550 tw7900394595670775223 tw3198059409981156222 tw4408816720484365081 tw13705283562680751584 tw424408320835691240 tw2708214617527550399 tw9619071485814978506 tw9678289623588505577 tw908480701973217441 tw17510684818845775701 tw12064304430848566033 tw11368310244458860372 tw4051853165826885262 tw12542895121996172375 tw16902085369446701243 tw8899516883271353254 tw1835201335921387983 tw11524815483048965402 tw7607420049574824106 tw14963028359598502718 tw4490611911172417597 tw16108870410212019532 tw15438627641174518403 tw6651725471809605288 tw12058884036946728934 tw14387916025512776202 tw7837367980739423823 tw6259241058660970061 tw1986786360949550309 tw1708089923452030704 tw3374319085511977134 tw14904287247971174143 tw6782663255696616371 tw15235614512728720 tw17862349074038704544 tw16203965252921439515 tw1402340071739887797 tw10236332898609347644 tw5805800948307579973 tw2172276787581067923 tw8432719020341155521 tw14074196154385387334 tw2474200967059427378 tw4524658085876675188 tw10988312798546598065 tw8185545411690514434 tw2392593158011319353 tw14196522196718054806 tw6084841979344569690 tw4309217394794523951 tw13956191218907399338 tw6542358382571353910 tw13343918040275786880 tw14391293386007564604 tw3475869608268796686 tw5010956058597451964 tw12921946191010883867 tw2399617604181995578 tw15554417296805563061 tw11263768400469242888 tw11408881796089955267 tw3075201292733833056 tw4334401890000744311 tw5845002605336314091 tw2041926188850086339 tw18310463660012746435 tw7181997581385953548 tw10198052994689861382 tw2275282789119773048 tw13164499291161521807 tw14607143338591219252 tw7942791058656714990 tw7770478706760583155 tw1149798457248472902 tw7766106395892283477 tw7592715696027808041 tw8908233856664302321 tw6208910965292489261 tw15565715512253457277 tw16859961878692490766 tw6331431999304432861 tw8919978131948313185 tw14540961386073393648 tw13571862603940711859 tw431221854992830470 tw761803264340522177 tw14664691819916384248 tw15254633091992210921 tw8546256303203405941 tw8521684928402303493 tw1537541725227008683 tw4163956849929007166 tw3456351732281881909 tw3208522521903949160 tw7484994123860896570 tw7188602182371822397 tw14710976976299594304 tw8210202977690762169 tw17817366049700826239 tw10293081186089767411 tw12901003280762261817 tw12858089460409395330 tw4514232752302053791 tw11078473246598507814 tw15138174406397646402 tw1045582712504079209 tw6921103065077540406 tw3801850119919557013 tw13508144021097492314 tw17680797132471856694 tw17184031218471190783 tw14061609134260724683 tw13053394406489344094 tw13205091638197436094 tw16116027297012810434 tw11205608169257636508 tw14454166528178196959 tw5812350808301622050 tw15627779663793561183 tw14154597600763967237 tw2167315655227761912 tw10282777137419654623 tw8122695690928665766 tw10921404820163398068 tw2333105410213810865 tw10539347186207431242 tw7387728532749555685 tw17410218998227585676 tw17261404542052806724 tw6828597562223498359 tw10164718903369591474 tw18003772858949239459 tw5395340147747708899 tw16522183678017940807 tw8833496514701923757 tw261171577418715137 tw1484650774730072618 tw18383651708701053236 tw622995879521568732 tw2310853497090360408 tw2400638427578300857 tw2983494736656345032 tw2576523973992343609 tw4766597723019941021 tw785946285636773999 tw4171853373547519906 tw16925712312323332580 tw16140922888777852060 tw10910644110388302437 tw16053306600634468012 tw3520257249291928256 tw9592300441314626372 tw17464319187374939960 tw16101134707931498060 tw12330612334027959195 tw8297923619242306668 tw2692750590507578028 tw6858818405166986180 tw17016834523296244275 tw7374399212775623666 tw3233987462203235646 tw17188069144378779261 tw17292613610259460706 tw2694234056635809718 tw8332346137001284160 tw4562827626845409882 tw1725486776273817318 tw16919654943277366748 tw5000232492035539693 tw2084650752826471497 tw16682895059504647277 tw2466311954974566718 tw4321966507151631593 tw6973427100653255629 tw9950792792127014553 tw1070438729232803039 tw256976265262469064 tw14261769069557060686 tw258204147387103276 tw14226173905949225808 tw9320515035125037321 tw8222940686941784037 tw14537775516033599862 tw12717557048674177747 tw12798174099139212305 tw10888863842102328177 tw4858918184162951299 tw16060203290454839817 tw578191462805490351 tw8752102160057688731 tw10551173667578312727 tw17339309145561079191 tw13384656265869573321 tw12747814925858328940 tw16860917588515726111 tw615563214671542189 tw3971525946579005399 tw15415318616479256277 tw11468729153070441980 tw523537741815420091 tw5369961537445033690 tw9615563845995560447 tw5522115075389312692 tw16583815154217966991 tw4944497897694004105 tw3350206127114907401 tw14202271707224943307 tw15052318979288761249 tw14671739901194505220 tw4333590680753393835 tw5610444585433571239 tw16145670418848962200 tw8413399678365625193 tw86012387029904805 tw6125853113672642322 tw13037224057902187189 tw12438396322939230373 tw11280630913190679075 tw15126001764536088292 tw3297117884562324255 tw7557421358154311045 tw4517560463748656503 tw6002674938131639716 tw11925974296885277660 tw14116014176715886054 tw7559987441671165661 tw14800370929953404514 tw17577329170770402720 tw8916268530333523031 tw938635154573522699 tw17614877247268290040 tw7882045510503734624 tw2087409540819079288 tw18367749455379333440 tw12936088452001202715 tw13861322856664149509 tw10470340158578859262 tw12132596417379514657 tw3997487885647526937 tw12315944733273679750 tw8757255369765604158 tw14594842627406614536 tw5992840812097835891 tw15764947353670896545 tw16120054744476736488 tw13135312941875745310 tw9630203353718772412 tw13421457143807847188 tw8950108695139179302 tw8981176238543900561 tw12715800853834201459 tw16531682779099013679 tw17986951261819808105 tw6714880395473160397 tw11033627544408312984 tw12099505692703838030 tw5449601097390414333 tw18335596039185421423 tw18220031379085947620 tw18105302477358141223 tw13055953723892786844 tw977512076041815475 tw8151759404152838978 tw10741264400317747893 tw7538781388859322016 tw12297992134047619483 tw3042748168174471775 tw9104974531708491489 tw9388066449989048879 tw5341297951324810720 tw1405720946626083897 tw3671519592330383864 tw6526287140368922620 tw13032259773685033708 tw4859391219904099992 tw14404928986312190071 tw13385558918117058561 tw3992765435912101610 tw9304451534382375720 tw28018229315631829 tw8331849164307833061 tw15240619367488684849 tw5285915839522022235 tw10550934584343373414 tw13622603851894308203 tw8191318114535113306 tw15685335758407661847 tw14703100239697439463 tw11066385474520676512 tw15227483606004533461 tw15621415185263527259 tw5444512763150141072 tw5217270863462422736 tw8972062959192195235 tw14172470266813156586 tw14243238205550065757 tw2827255003249426055 tw209982475168477708 tw16947231599799070506 tw643336161829623379 tw10374632558016547081 tw1887573119177674980 tw10956520680868813917 tw15125770126966510544 tw13367274342830030513 tw4096438862311573950 tw15831126876759372255 tw11161164713144168021 tw3215387988796971590 tw12431713363859531893 tw17155049476370652306 tw5459702643516471331 tw514280064592716601 tw9768418358887946270 tw17079817176256170043 tw1293241653719404408 tw539538531456391632 tw384561282630992784 tw2869065659524454656 tw9646623106273453227 tw3303267245142563540 tw172746767574481773 tw14479964200598819128 tw6216382948874008006 tw4483904966330829159 tw6278996535519779258 tw9510108024173832781 tw11717715558655726156 tw12003660372656728261 tw12147665669636231765 tw14036186469904095446 tw17382457898008728272 tw13861969467909019144 tw6472337539984862722 tw17852080271459398996 tw429539710256275620 tw6557801498797044033 tw12960429369202013873 tw13547939009206843870 tw5467331546851215429 tw17823556299335049440 tw14611616552423853409 tw866717566613908145 tw4635989785427082552 tw9969077435446430640 tw3419001889969749887 tw2931988195819169919 tw17351735930882485243 tw17013487888433625170 tw16493865465440409018 tw13053770412826190925 tw3099597729799864441 tw9977182230042388008 tw16670775579421159206 tw16298917771340976007 tw10146569101766770184 tw2015444344454546412 tw8157277791214410489 tw890339118813698166 tw4906484309439969231 tw17214186515701724070 tw8757050672659960515 tw4561898282857576226 tw13567515925198824819 tw1383625962624193546 tw2789304352393801511 tw2646887283097553488 tw18073898193381586223 tw17678831435119133177 tw10519837036962490867 tw11738243743197964597:True)
set_option maxRecDepth 100000 in
set_option maxHeartbeats 0 in
open_top hd for PySem.Challenge.rw_moot_k37_whole_where_two_part
local macro_rules|`(tactic|trivial)=>`(tactic|decide +kernel)
local macro_rules|`(tactic|omega)=>`(tactic|lia)
noncomputable section
theorem bG {p:Prop}[Decidable p](h:p):decide p=true:=decide_eq_true h
theorem bV {p:Prop}[Decidable p](h:¬p):decide p=false:=decide_eq_false h
theorem eM {p:Prop}[Decidable p](h:decide p=true):p:=of_decide_eq_true h
theorem aZ {c:Prop}{h:Decidable c}(hc:¬c){α:Sort _}{t e:α}:ite c t e=e:=if_neg hc
theorem bp {c:Prop}{h:Decidable c}(hc:c){α:Sort _}{t e:α}:ite c t e=t:=if_pos hc
open PySem.Str renaming ofString → ar, join → kx
open List renaming length_map → bo, mem_cons_self → eg, length_append → ki, map_append → kt, mem_cons_of_mem → ma, map_cons → rf, size_toArray → si, getElem?_map → sr, getElem?_eq_getElem → wa, length_cons → UQ, mem_singleton → UT, length_singleton → UY, mem_append_right → U1, mem_of_getElem? → U2, cons_ne_nil → U5, getD_eq_getElem?_getD → U7, length_take → Vf, eq_nil_or_concat → Vg, concat_eq_append → Vh, range' → Vm, getElem?_cons_zero → Vr, take_length → Vs, getElem?_cons_succ → Vt, length_range' → Vz, find?_cons → VB, mem_append_left → VD, lookup → VE, getLast?_concat → VF, map_nil → VH, take_succ → VJ, length_drop → VM, not_mem_nil → VN, append_assoc → VX, map_congr_left → VY, length_set → V0, length_zip → V1, any_cons → V2, mem_cons → V3, map_map → V4, dropLast_concat → V6, mem_range'_1 → V7, take_of_length_le → Wb, length → Wf, getElem_mem → Wh, getElem?_append_left → Wm, mem_append → Wq, take_add_one → Ws, mem_of_mem_take → Wt, range → Wu, Perm → WA
open PySem.W renaming Frag → de, findIn → Vp, emptyDict → Vq, instObj → Vv, callWith_K0 → Wy, keepIn → Wz
open PySem renaming sizeLine → fu, FuncData → gr, Program → wt, wpAny → UR, wpAny_bind → UX, Spec → U8, wpAny_pure → Vd, starEach → Vn, bootBuiltins → VO, compareOp → VP, keywordEach → VZ, mem_of_lookup → Wa, sysModules → Wj, wpAny_mono → Wl, binaryOp → WD, backToKw → WE
open PySem.Heap renaming get?_push_of_some → me, lt_size → U6, get?_push_size → U9
open Nat renaming le_refl → mv, lt_of_lt_of_le → Va, le_trans → Vc, ne_of_lt → Ve, le_succ_of_le → Vk, zero_le → Vl, le_succ → WB
open Sum renaming inl → om, inr → UU
open PySem.F renaming plainAttrs_list → tu, slot_list_append → UZ, type_list_append → U0, plainAttrs_str → Vj, slot_str_join → VU, type_str_join → VW, slot_str_split → Wc, type_str_split → We
open Option.some renaming inj → US
open Bool renaming false_ne_true → UW, and_eq_true → U3, eq_iff_iff → Vw, and_self → VC
open PySem.PyData renaming canLayAll0 → U4, canLay0 → Vb, depthAll → Vi, depth → Vo, strOk → Vu, eqv → Vy, str → VI, eqvAll → V5
open PySem.PassesOwn renaming never → Vx
open Int renaming emod_lt_of_pos → VA, emod_nonneg → VR, toNat_natCast → VT
open Ne renaming symm → VG
open PySem.Value renaming ref → VL, bool → Wi
open PySem.Builtin.Str renaming occurrences → VQ
open PySem.SeqAt renaming shaped → VS
open False renaming elim → V8
open PySem.Builtin.SmallTypes renaming fitsIndex → V9
open Prod.mk renaming injEq → Wg
open PySem.Builtin.Slice renaming slicePlaces → Wo
open PySem.Builtin.Tuple renaming tupleExact → Wv
open PySem.NameKind renaming free → Ww
open Array renaming length_toList → Wx
open True renaming intro → WC
namespace _L
open PySem PySem.Spec PyProof.Rows
abbrev Key:=Sum Int Str
noncomputable def xJ:Key->Value->Bool
 | .inl k,v=>Value.isInt k v
 | .inr x,v=>Value.isStrOf x v
noncomputable def S6 (w:World):Key->Int
 | .inl k=>hashInt k
 | .inr x=>hashStr w x
theorem dX:∀ {k:Key} {v:Value},xJ k v=true->(∃i t,k=om i/\v=Value.int i t)\/(∃x t,k=UU x/\v=Value.str x t)
 | .inl i,v,h=>by
  obtain⟨t,e⟩:=Value.isInt_shape (k:=i) (v:=v) h;exact .inl ⟨i,t,rfl,e⟩
 | .inr x,v,h=>by
  obtain⟨t,e⟩:=Value.isStrOf_shape (x:=x) (v:=v) h;exact .inr ⟨x,t,rfl,e⟩
theorem Jj (i:Int)(t:Tok):xJ (.inl i) (.int i t)=true:=by simp[xJ,Value.isInt]
theorem Jk (x:Str)(t:Tok):xJ (.inr x) (.str x t)=true:=by simp[xJ,Value.isStrOf]
theorem Pb (a b:Int):decide ((om a:Key)=om b)=(a == b):=by
 by_cases e:a=b
 ·subst e;simp
 have h:¬(om a:Key)=om b:=λq=>e (Sum.inl.inj q)
 rw[bV h];exact(beq_eq_false_iff_ne.mpr e).symm
theorem Pc (a b:Str):decide ((UU a:Key)=UU b)=decide (a=b):=by
 by_cases e:a=b
 ·subst e;simp
 have h:¬(UU a:Key)=UU b:=λq=>e (Sum.inr.inj q)
 rw[bV h,bV e]
theorem Pd (a:Int)(b:Str):decide ((om a:Key)=UU b)=false:=bV (λq=>nomatch q)
theorem Pe (a:Str)(b:Int):decide ((UU a:Key)=om b)=false:=bV (λq=>nomatch q)
def cU (prog:wt)(w:World):PySem.KeyKind prog w Key where
 is:=xJ
 hash:=S6 w
 inj:=λv a b ha hb=>by
  rcases dX ha with ⟨i,t,rfl,rfl⟩ | ⟨x,t,rfl,rfl⟩
  ·rcases dX hb with ⟨j,u,rfl,e⟩ | ⟨y,u,rfl,e⟩
   ·injection e with e1 _;rw[e1]
   exact nomatch e
  rcases dX hb with ⟨j,u,rfl,e⟩ | ⟨y,u,rfl,e⟩
  ·exact nomatch e
  injection e with e1 _;rw[e1]
 byValue:=λk v h=>by
  rcases dX h with ⟨i,t,rfl,rfl⟩ | ⟨x,t,rfl,rfl⟩ <;> rfl
 pyHash:=λhv h=>by
  rcases dX hv with ⟨i,t,rfl,rfl⟩ | ⟨x,t,rfl,rfl⟩
  ·exact wpAny_pyHash_int h
  exact wpAny_pyHash_str h
 eqBool:=λhu hv h=>by
  rcases dX hu with ⟨i,t,rfl,rfl⟩ | ⟨x,t,rfl,rfl⟩
  ·rcases dX hv with ⟨j,u,rfl,rfl⟩ | ⟨y,u,rfl,rfl⟩
   ·rw[Pb]at h;exact wpAny_eqBool_int h
   rw[Pd]at h;exact SeqAt.EqAt.int_str i t y u _ _ _ _ h
  rcases dX hv with ⟨j,u,rfl,rfl⟩ | ⟨y,u,rfl,rfl⟩
  ·rw[Pe]at h;exact SeqAt.EqAt.str_int x t j u _ _ _ _ h
  rw[Pc]at h;exact wpAny_eqBool_str h
 «strs»:=λk x t v h=>by
  rcases dX h with ⟨i,u,rfl,e⟩ | ⟨y,u,rfl,e⟩
  ·exact nomatch e
  injection e with e1 _
  subst e1;cases v <;> rfl
theorem DT (prog:wt)(w:World)(i:Int)(t:Tok):(cU prog w).is (.inl i) (.int i t)=true:=Jj i t
theorem DU (prog:wt)(w:World)(x:Str)(t:Tok):(cU prog w).is (.inr x) (.str x t)=true:=Jk x t
inductive V where
 |non | bl (b:Bool) | int (i:Int) | str (x:Str) | byt (b:Array UInt8) | flt (b:UInt64) | ref (a:Addr) | ty (n:String)
 deriving DecidableEq
def bE:V->Value->Prop
 | .non,u=>u=Value.none
 | .bl b,u=>u=Wi b
 | .int i,u=>∃t,u=Value.int i t
 | .str x,u=>∃t,u=Value.str x t
 | .byt b,u=>∃t,u=Value.bytes b t
 | .flt b,u=>∃t,u=Value.float b t
 | .ref a,u=>u=VL a
 | .ty n,u=>u=Value.type n
abbrev bg:List V->List Value->Prop:=Paired bE
theorem bg.length {xs:List V}{us:List Value}(r:bg xs us):xs.length=us.length:=Paired.length r
theorem bg.get:∀ {xs:List V} {us:List Value} {i:Nat} {x:V},bg xs us->xs[i]?=some x->∃u,us[i]?=some u/\bE x u
 |_,_,_,_,.nil,e=>by simp at e
 |_,_,0,_,.cons r _,e=>by simp at e;subst e;exact⟨_,rfl,r⟩
 |_,_,i+1,x,.cons _ t,e=>by
  obtain⟨u,h1,h2⟩:=bg.get (i:=i) (x:=x) t (by simpa using e)
  exact⟨u,by simpa using h1,h2⟩
theorem bg.set {x:V}{u:Value}(r:bE x u):∀ {xs:List V} {us:List Value} (i:Nat),bg xs us->bg (xs.set i x) (us.set i u)
 |_,_,_,.nil=>.nil
 |_,_,0,.cons _ t=>.cons r t
 |_,_,i+1,.cons q t=>.cons q (bg.set r i t)
theorem bg.append:∀ {xs ys:List V} {us ws:List Value},bg xs us->bg ys ws->bg (xs++ys) (us++ws)
 |_,_,_,_,.nil,s=>s
 |_,_,_,_,.cons r t,s=>.cons r (bg.append t s)
theorem bg.take:∀ {xs:List V} {us:List Value} (n:Nat),bg xs us->bg (xs.take n) (us.take n)
 |_,_,0,_=>.nil
 |_,_,_+1,.nil=>.nil
 |_,_,n+1,.cons r t=>.cons r (bg.take n t)
theorem bg.drop:∀ {xs:List V} {us:List Value} (n:Nat),bg xs us->bg (xs.drop n) (us.drop n)
 |_,_,0,r=>r
 |_,_,_+1,.nil=>.nil
 |_,_,n+1,.cons _ t=>bg.drop n t
def o8:Option V->Option Value->Prop
 |some v,some u=>bE v u
 |none,none=>True
 |_,_=>False
def KV {κ:Type}:List (κ×V)->List (κ×Value)->Prop:=Paired λ(p:κ×V) (q:κ×Value)=>p.1=q.1/\bE p.2 q.2
noncomputable def kV:Key->V
 | .inl i=>.int i
 | .inr x=>.str x
inductive HO where
 |lst (xs:List V)
 |tup (xs:List V)
 |dK (kvs:List (Key×V)) | dT (kvs:List (List Key×V))
 |set (S:Int->Bool) (n:Nat)
 |ins (C dx:Addr) (fs:List (Str×V))
 |own (x:Addr)
 |xd (fs:List (Str×V))
 |met (f x:Addr)
 |rng (lo hi:Int)
 |frz (o:Obj) (u:HO)
 |tbl (ps:Array Value)
 |ext (φ:Heap->Prop)
abbrev Hp:=Addr->Option HO
noncomputable def ag (H:Hp)(a:Addr)(o:HO):Hp:=λb=>if b=a then some o else H b
theorem ae {H:Hp}{a:Addr}{o:HO}:ag H a o a=some o:=by unfold ag;rw[bp rfl]
theorem ax {H:Hp}{a b:Addr}{o:HO}(h:b≠a):ag H a o b=H b:=by unfold ag;rw[aZ h]
theorem gM {H:Hp}{a:Addr}{o u:HO}:ag (ag H a o) a u=ag H a u:=by
 funext b;unfold ag;split <;> rfl
theorem A0 {H:Hp}{a b:Addr}{o u:HO}(h:H a=some o)(h':H b=some u)(d:o≠u):a≠b:=by
 intro e;subst e;rw[h]at h';exact d (US h')
theorem aQ {H:Hp}{a b:Addr}{o:HO}(h:H a=some o)(h':H b=none):a≠b:=by
 intro e;subst e;rw[h]at h';cases h'
section
variable(P:wt)(w:World)
def eN (H:Hp)(h:Heap)(a:Addr):HO->Prop
 | .lst xs=>xs.length<=fu/\∃(its:List Value) (n:Nat),bg xs its/\h.get? a=some { cls:=.type "list",data:=.seq its.toArray n }
 | .tup xs=>xs.length<=fu/\∃its:List Value,bg xs its/\IsTup h a its.toArray
 | .dK kvs=>kvs.length<=fu/\(a == Wj)=false/\∃vs,KV kvs vs/\h.DictOf (cU P w) a vs
 | .dT kvs=>kvs.length<=fu/\(a == Wj)=false/\∃xs:List (List Key×Addr×Value),
   Paired (λ(p:List Key×V) (q:List Key×Addr×Value)=>p.1=q.1/\H q.2.1=some (.tup (p.1.map kV))/\bE p.2 q.2.2) kvs xs /\
   ∃o es ep,h.get? a=some o/\o.ExactDict/\o.data=.dict es ep/\es.toList=xs.map (entryOfKey (tupleKind (cU P w)))/\(xs.map (·.1)).Nodup
 | .set S n=>h.SetOf (intKind P w) a S n
 | .ins C dx fs=>H dx=some (.own a)/\fs.length<=1000/\dx≠a/\h.get? a=some (Vv C dx) /\
   ∃mA,h.Ns1 dx mA/\(∀f,o8 (fs.lookup f) (mA f))/\PySem.Within mA (fs.map (·.1))
 | .own _=>∃o,h.get? a=some o
 | .xd fs=>∃mA,h.Ns1 a mA/\∀f,o8 (fs.lookup f) (mA f)
 | .rng lo hi=>∃t u v,h.get? a=some { cls:=.type "range",data:=.fields #[.int lo t,.int hi u,.int 1 v] }
 | .frz o u=>h.get? a=some o/\eN H h a u
 | .tbl ps=>h.get? a=some { cls:=.none,data:=.fields ps }
 | .met f x=>h.get? a=some (PySem.W.methodObj (.ref f) (.ref x))
 | .ext φ=>φ h/\(∃o,h.get? a=some o)/\∀h1 h2:Heap,φ h1->(∀o,h1.get? a=some o->h2.get? a=some o)->φ h2
def HOk (H:Hp)(h:Heap):Prop:=∀a o,H a=some o->eN P w H h a o
end
section
variable{P:wt}{w:World}{H H':Hp}{h h':Heap}{a:Addr}{o:HO}
theorem eN.lt (x:eN P w H h a o):a < h.objs.size:=by
 cases o with
 |lst xs=>obtain⟨_,_,_,_,e⟩:=x;exact U6 e
 |tup xs=>obtain⟨_,_,_,p⟩:=x;exact p.lt
 |dK kvs=>obtain⟨_,_,_,_,o,_,_,e,_⟩:=x;exact U6 e
 |dT kvs=>obtain⟨_,_,_,_,o,_,_,e,_⟩:=x;exact U6 e
 |set S n=>obtain⟨o,_,_,_,e,_⟩:=x;exact U6 e
 |ins C dx fs=>obtain⟨_,_,_,e,_⟩:=x;exact U6 e
 |own y=>obtain⟨_,e⟩:=x;exact U6 e
 |xd fs=>obtain⟨_,⟨_,_,_,e,_⟩,_⟩:=x;exact U6 e
 |rng lo hi=>obtain⟨_,_,_,e⟩:=x;exact U6 e
 |frz ob u=>obtain⟨e,_⟩:=x;exact U6 e
 |tbl ps=>exact U6 (show h.get? a=some _ from x)
 |met f y=>exact U6 (show h.get? a=some _ from x)
 |ext φ=>obtain⟨_,⟨_,e⟩,_⟩:=x;exact U6 e
theorem Paired.Pf {α β:Type}{F G:α->β->Prop}:∀ {l₁:List α} {l₂:List β},Paired F l₁ l₂->(∀a b,F a b->G a b)->Paired G l₁ l₂
 |_,_,.nil,_=>.nil
 |_,_,.cons r t,f=>.cons (f _ _ r) (Paired.Pf t f)
theorem eN.F3 (x:eN P w H h a o)(k:∀b u,(b=a\/H b=some (.own a))->h.get? b=some u->h'.get? b=some u)
  (ho:∀b,H b=some (.own a)->H' b=some (.own a)) (ht:∀b xs,H b=some (.tup xs)->H' b=some (.tup xs)):eN P w H' h' a o:=by
 induction o with
 |lst xs=>obtain⟨z,its,n,r,e⟩:=x;exact⟨z,its,n,r,k _ _ (.inl rfl) e⟩
 |tup xs=>obtain⟨z,its,r,ob,e,c⟩:=x;exact⟨z,its,r,ob,k _ _ (.inl rfl) e,c⟩
 |dK kvs=>obtain⟨z,y,vs,r,ob,es,ep,e,c⟩:=x;exact⟨z,y,vs,r,ob,es,ep,k _ _ (.inl rfl) e,c⟩
 |dT kvs =>
  obtain⟨z,y,xs,r,ob,es,ep,e,c⟩:=x;exact⟨z,y,xs,Paired.Pf r λp q z=>⟨z.1,ht _ _ z.2.1,z.2.2⟩,ob,es,ep,k _ _ (.inl rfl) e,c⟩
 |set S n=>obtain⟨ob,es,ep,t,e,c⟩:=x;exact⟨ob,es,ep,t,k _ _ (.inl rfl) e,c⟩
 |ins C dx fs =>
  obtain⟨d,z,ne,e,mA,⟨od,es,ep,e2,c⟩,r⟩:=x;exact⟨ho _ d,z,ne,k _ _ (.inl rfl) e,mA,⟨od,es,ep,k _ _ (.inr d) e2,c⟩,r⟩
 |own y=>obtain⟨ob,e⟩:=x;exact⟨ob,k _ _ (.inl rfl) e⟩
 |xd fs=>obtain⟨mA,⟨od,es,ep,e,c⟩,r⟩:=x;exact⟨mA,⟨od,es,ep,k _ _ (.inl rfl) e,c⟩,r⟩
 |rng lo hi=>obtain⟨t,u,v,e⟩:=x;exact⟨t,u,v,k _ _ (.inl rfl) e⟩
 |frz ob u ih=>obtain⟨e,q⟩:=x;exact⟨k _ _ (.inl rfl) e,ih q⟩
 |tbl ps =>
  have e:h.get? a=some { cls:=.none,data:=.fields ps }:=x;show h'.get? a=some { cls:=.none,data:=.fields ps };exact k a _ (.inl rfl) e
 |met f y =>
  have e:h.get? a=some (PySem.W.methodObj (.ref f) (.ref y)):=x;show h'.get? a=some (PySem.W.methodObj (.ref f) (.ref y));exact k a _ (.inl rfl) e
 |ext φ=>obtain⟨p,⟨o,e⟩,st⟩:=x;exact⟨st _ _ p λo q=>k _ _ (.inl rfl) q,⟨o,k _ _ (.inl rfl) e⟩,st⟩
theorem HOk.lt (x:HOk P w H h)(e:H a=some o):a < h.objs.size:=(x a o e).lt
theorem HOk.fresh (x:HOk P w H h)(e:h.objs.size<=a):H a=none:=by
 cases q:H a with
 |none=>rfl
 |some u=>exact absurd (Va (x.lt q) e) (Nat.lt_irrefl _)
theorem HOk.kept (x:HOk P w H h)(k:∀b u,h.get? b=some u->h'.get? b=some u):HOk P w H h':=λa o e =>
 (x a o e).F3 (λb u _ q=>k b u q) (λ_ q=>q) λ_ _ q=>q
theorem HOk.laid (x:HOk P w H h)(k:∀b u,h.get? b=some u->h'.get? b=some u)(hp:h.objs.size<=a)(new:eN P w (ag H a o) h' a o):HOk P w (ag H a o) h':=λb u e=>by
 have hn:=x.fresh hp
 by_cases hb:b=a
 ·subst hb;rw[ae]at e;cases e;exact new
 rw[ax hb]at e;exact(x b u e).F3 (λc v _ q=>k c v q) (λc q=>by rw[ax (aQ q hn)];exact q) λc xs q=>by rw[ax (aQ q hn)];exact q
end
def Rd (H:Hp)(a:Addr)(u:HO):Prop:=H a=some u\/∃o,H a=some (.frz o u)
theorem Rd.ok {P:wt}{w:World}{H:Hp}{h:Heap}{a:Addr}{u:HO}(r:Rd H a u)(x:HOk P w H h):eN P w H h a u:=by
 rcases r with r | ⟨o,r⟩
 ·exact x a u r
 obtain⟨_,q⟩:=x a _ r;exact q
def Mut:Option HO->Prop
 |some (.lst _)=>True
 |some (.dK _)=>True
 |some (.dT _)=>True
 |some (.set _ _)=>True
 |some (.ins _ _ _)=>True
 |some (.ext _)=>True
 |_=>False
section
variable{P:wt}{w:World}{H:Hp}{h h':Heap}{x e:Addr}{o':HO}
theorem HOk.write (ok:HOk P w H h)(mu:Mut (H x))(he:e=x\/H e=some (.own x))(k:∀b u,b≠e->h.get? b=some u->h'.get? b=some u)(heo:∃u,h'.get? e=some u)
  (new:eN P w (ag H x o') h' x o'):HOk P w (ag H x o') h':=λb u q=>by
 have Rr:∀c y,H c=some (.own y)->c≠x:=λc y r z=>by subst z;rw[r]at mu;exact mu
 have S7:∀c xs,H c=some (.tup xs)->c≠x:=λc xs r z=>by subst z;rw[r]at mu;exact mu
 by_cases hb:b=x
 ·subst hb;rw[ae]at q;cases q;exact new
 rw[ax hb]at q
 by_cases hbe:b=e
 ·have q':H b=some (.own x):=by
   rcases he with z | z
   ·exact absurd (hbe.trans z) hb
   rw[hbe];exact z
  rw[q]at q';cases q';obtain⟨v,hv⟩:=heo;exact⟨v,by rw[hbe];exact hv⟩
 refine(ok b u q).F3 (λc v hc r=>k c v ?_ r) (λc r=>by rw[ax (Rr c b r)];exact r) λc xs r=>by rw[ax (S7 c xs r)];exact r
 rcases hc with rfl | hc
 ·exact hbe
 rintro rfl;rcases he with z | z
 ·exact Rr c b hc z
 rw[hc]at z;cases z;exact hb rfl
end
structure Un (fs ex:List Addr)(H H':Hp)(h h':Heap):Prop where
 keep:∀b o,h.get? b=some o->H b=none->b∉fs->b∉ex->h'.get? b=some o
 slot:∀b o,h.get? b=some o->H b=none->b∈fs->b∉ex->∃sl,h'.get? b=some { o with slots:=sl }
 free:∀b o,h.get? b=some o->H b=none->b∉ex->H' b=none
 there:∀b o,h.get? b=some o->b∉ex->∃o',h'.get? b=some o'
 Cw:∀b xs,H b=some (.tup xs)->H' b=some (.tup xs)
 xK:∀b o u,H b=some (.frz o u)->H' b=some (.frz o u)
 Cy:∀b ps,H b=some (.tbl ps)->∃more,H' b=some (.tbl (ps++more))
section
variable{fs fs' ex ex':List Addr}{H H1 H2:Hp}{h h1 h2 h':Heap}{a x e:Addr}{o:HO}
theorem Un.any (u:Un fs ex H H1 h h1){b:Addr}{ob:Obj}(q:h.get? b=some ob)(n:H b=none)(hx:b∉ex):∃sl,h1.get? b=some { ob with slots:=sl }:=by
 by_cases hb:b∈fs
 ·exact u.slot b ob q n hb hx
 exact⟨ob.slots,u.keep b ob q n hb hx⟩
theorem Un.kept (k:∀b u,h.get? b=some u->h'.get? b=some u):Un fs ex H H h h' :=
 ⟨λb ob q _ _ _=>k b ob q,λb ob q _ _ _=>⟨ob.slots,k b ob q⟩,λ_ _ _ n _=>n,λb ob q _=>⟨ob,k b ob q⟩,λ_ _ q=>q,λ_ _ _ q=>q,λ_ ps q=>⟨#[],by rw[q];simp⟩⟩
theorem Un.refl:Un fs ex H H h h:=Un.kept λ_ _ q=>q
theorem Un.laid (k:∀b u,h.get? b=some u->h'.get? b=some u)(hp:h.objs.size<=a)(hn:H a=none):Un fs ex H (ag H a o) h h' where
 keep:=λb u q _ _ _=>k b u q
 slot:=λb u q _ _ _=>⟨u.slots,k b u q⟩
 free:=λb u q n _=>by rw[ax (Ve (Va (U6 q) hp))];exact n
 there:=λb u q _=>⟨u,k b u q⟩
 Cw:=λb xs q=>by rw[ax (aQ q hn)];exact q
 xK:=λb u xs q=>by rw[ax (aQ q hn)];exact q
 Cy:=λb ps q=>⟨#[],by rw[ax (aQ q hn),q];simp⟩
theorem Un.write (mu:Mut (H x))(he:e=x\/H e=some (.own x))(k:∀b u,b≠e->h.get? b=some u->h'.get? b=some u)(heo:∃u,h'.get? e=some u):Un fs ex H (ag H x o) h h':=by
 have hx:∀b,H b=none->b≠x:=λb n z=>by subst z;rw[n]at mu;exact mu
 have hb:∀b,H b=none->b≠e:=λb n z=>by
  subst z;rcases he with r | r
  ·exact hx b n r
  rw[n]at r;cases r
 have hm:∀b u,H b=some u->¬Mut (some u)->b≠x:=λb u q nm z=>by subst z;rw[q]at mu;exact nm mu
 refine⟨λb u q n _ _=>k b u (hb b n) q,λb u q n _ _=>⟨u.slots,k b u (hb b n) q⟩,λb u q n _=>by rw[ax (hx b n)];exact n,λb u q _=>?_,
  λb xs q=>by rw[ax (hm b _ q λz=>z)];exact q,λb u xs q=>by rw[ax (hm b _ q λz=>z)];exact q,λb ps q=>⟨#[],by rw[ax (hm b _ q λz=>z),q];simp⟩⟩
 by_cases hbe:b=e
 ·subst hbe;exact heo
 exact⟨u,k b u hbe q⟩
end
noncomputable def trk (h:Heap)(H:Hp):List Addr:=(Wu h.objs.size).filter λa=>(H a).isSome
def Cz (h:Heap)(H:Hp):Heap:=PySem.W.hideAll h (trk h H)
theorem Jl (h:Heap)(H:Hp):(Cz h H).objs.size=h.objs.size:=PySem.W.hideAll_size _ _
theorem Ka {h:Heap}{H:Hp}{b:Addr}{o:Obj}(e:h.get? b=some o)(n:H b=none):(Cz h H).get? b=some o :=
 PySem.W.hideAll_get _ e λhm=>by
  have q:(H b).isSome=true:=(List.mem_filter.mp hm).2;rw[n]at q;simp at q
theorem M3 {h:Heap}{H:Hp}{b:Addr}{o:Obj}(e:(Cz h H).get? b=some o):h.get? b=some o/\H b=none:=by
 have e':h.get? b=some o:=PySem.W.of_hideAll (trk h H) e;refine⟨e',?_⟩;cases q:H b with
 |none=>rfl
 |some x =>
  have hm:b∈trk h H:=List.mem_filter.mpr ⟨List.mem_range.mpr (U6 e'),by simp[q]⟩
  have z:(Cz h H).get? b=none:=PySem.W.hideAll_none (trk h H) hm;rw[z]at e;cases e
noncomputable def M4 (g h:Heap)(L:Addr):List (Addr×Obj):=(Wu h.objs.size).filterMap λa=>if a=L\/(g.get? a).isSome=true then none else (h.get? a).map λo=>(a,o)
def rest (g h:Heap)(L d:Addr):List (Addr×Obj):=(M4 g h L).filter λp=>decide (p.1≠d)
structure Mod (K:de)(mg:Str->Option Value)(base:Heap):Prop where
 kin:K.In base
 glob:base.Ns mainGlobals mg
 blt:∃mb,base.Ns builtinsNs mb/\∀x:Str,x≠"__name__"->mb x=VO x
 nolimit:base.NoLimit
structure Cx where
 prog:wt
 w:World
 K:de
 mg:Str->Option Value
 base:Heap
 A:Around
 N:List Str
 s₀:Shared
 H₀:Hp
 env:Env
 outer:List Env
 stack:List Env
 ex:List Addr
 fn:Str->Bool
 calm:Bool
 xc:Bool:=true
 xn:Bool:=false
 pn:List (Addr×Obj)
 xe:Value->Shared->Prop
noncomputable def frs (l:List Env):List Addr:=l.filterMap (·.frame)
abbrev Cx.fs (X:Cx):List Addr:=frs X.outer
def Vis (sc:Scope)(x:Str):Prop:=sc.names.lookup x=some .local\/sc.names.lookup x=some .cell\/sc.names.lookup x=some .free
def Loc (sc:Scope)(x:Str):Prop:=sc.names.lookup x=some .local\/sc.names.lookup x=some .cell
def Look (env:Env)(h:Heap)(m:Str->Option Value)(x:Str)(u:Value):Prop :=
 (env.kindOf x=some .local/\m x=some u)\/((env.kindOf x=some .cell\/env.kindOf x=some .free)/\∃c,env.cells.lookup x=some c/\h.IsCell c (some u))
structure Cx.Ok (X:Cx):Prop where
 mod:Mod X.K X.mg X.base
 kind:X.env.scope.kind=.function
 glob:X.env.globals=mainGlobals
 blt:X.env.builtins=builtinsNs
 above:X.s₀.heap.objs.size<=X.env.locals
 inj:∀x y c,X.env.cells.lookup x=some c->X.env.cells.lookup y=some c->x=y
 has:∀x,(X.env.kindOf x=some .cell\/X.env.kindOf x=some .free)->∃c,X.env.cells.lookup x=some c
 cab:∀x c,X.fn x=true->X.env.cells.lookup x=some c->X.s₀.heap.objs.size<=c
 hd:X.calm=true->X.A.handled=none
 frames:X.A.frames=some X.stack
 stk:X.stack=X.outer\/(X.stack=X.env::X.outer/\X.env.frame=some X.env.locals)
 exf:∀b∈X.ex,b≠X.env.locals/\∀x c,X.env.cells.lookup x=some c->c≠b
 bs:∀b o,X.base.get? b=some o->X.s₀.heap.get? b=some o/\X.H₀ b=none
 bsz:X.base.objs.size<=X.s₀.heap.objs.size
 Jm:∀b o,X.base.get? b=some o->b∉X.ex
 Jn:∀b∈X.ex,b∉X.fs
 uY:X.s₀.heap.FunFrames X.base X.outer
 frf:∀b∈X.fs,X.H₀ b=none
structure av (X:Cx)(af:List (Addr×Obj))(σ:List (Option V))(H:Hp)(s:Shared):Prop where
 ok:X.Ok
 os:s.os=X.s₀.os
 bare:AllBare s.gens
 base:Un X.fs X.ex X.H₀ H X.s₀.heap s.heap
 loc:∃m,s.heap.Ns X.env.locals m/\∀(i:Nat) (x:Str) (v:V),X.N[i]?=some x->σ[i]?=some (some v)->Vis X.env.scope x->∃u,bE v u/\Look X.env s.heap m x u
 cell:∀x c,X.env.cells.lookup x=some c->∃v,s.heap.IsCell c v
 free:H X.env.locals=none
 o9:∀x c,X.env.cells.lookup x=some c->H c=none
 pin:∀p∈X.pn++af,s.heap.get? p.1=some p.2/\H p.1=none/\p.1≠X.env.locals/\p.1∉X.fs/\∀v,p.2.data≠.cell v
 hok:HOk X.prog X.w H s.heap
 len:σ.length=X.N.length
section
variable{X:Cx}{af:List (Addr×Obj)}{σ:List (Option V)}{H H':Hp}{s:Shared}{h':Heap}
theorem Cx.Ok.S8 (ok:X.Ok){b:Addr}{o:Obj}(e:X.base.get? b=some o):b∉X.fs:=λhb=>by
 have:=(ok.uY.mem hb).1;rw[e]at this;cases this
theorem av.bs (I:av X af σ H s):∀b o,X.base.get? b=some o->s.heap.get? b=some o/\H b=none:=λb o e =>
 ⟨I.base.keep b o (I.ok.bs b o e).1 (I.ok.bs b o e).2 (I.ok.S8 e) (I.ok.Jm b o e),I.base.free b o (I.ok.bs b o e).1 (I.ok.bs b o e).2 (I.ok.Jm b o e)⟩
theorem av.bk (I:av X af σ H s):∀b o,X.base.get? b=some o->s.heap.get? b=some o:=λb o e=>(I.bs b o e).1
theorem av.mod (I:av X af σ H s):Mod X.K X.mg X.base:=I.ok.mod
theorem av.kIn (I:av X af σ H s):X.K.In s.heap:=I.ok.mod.kin.keeps I.bk
theorem av.lt (I:av X af σ H s):X.env.locals < s.heap.objs.size:=let ⟨_,hn,_⟩:=I.loc;hn.lt
theorem av.sz (I:av X af σ H s):X.s₀.heap.objs.size<=s.heap.objs.size:=Vc I.ok.above (Nat.le_of_lt I.lt)
theorem av.S9 (I:av X af σ H s){a:Addr}(h:s.heap.objs.size<=a):a∉X.fs:=λhb=>by
 obtain⟨_,o,ho,_⟩:=I.ok.uY.mem hb;exact absurd (Va (U6 ho) (Vc I.sz h)) (Nat.lt_irrefl _)
theorem av.cne (I:av X af σ H s):∀x c,X.env.cells.lookup x=some c->c≠X.env.locals:=λx c e z=>by
 obtain⟨v,o,ho,hd⟩:=I.cell x c e;obtain⟨m,⟨o',es,ep,ho',hd',_⟩,_⟩:=I.loc;rw[z,ho']at ho;cases ho;rw[hd']at hd;cases hd
theorem av.uY (I:av X af σ H s):s.heap.FunFrames X.base X.outer:=by
 have all:∀(l:List Env),(∀b∈frs l,b∈X.fs)->X.s₀.heap.FunFrames X.base l->s.heap.FunFrames X.base l:=by
  intro l
  induction l with
  |nil=>intro _ _;trivial
  |cons env r ih =>
   intro hs hl;obtain⟨hk,⟨L,o,hf,hn,ho,hd⟩,hr⟩:=hl;have hL:L∈X.fs:=hs L (by unfold frs;rw[List.filterMap_cons,hf];exact eg)
   obtain⟨sl,e⟩:=I.base.slot L o ho (I.ok.frf L hL) hL λz=>I.ok.Jn L z hL
   exact⟨hk,⟨L,_,hf,hn,e,hd⟩,ih (λb hb=>hs b (by unfold frs;rw[List.filterMap_cons,hf];exact ma _ hb)) hr⟩
 exact all X.outer (λ_ hb=>hb) I.ok.uY
theorem av.stack (I:av X af σ H s):s.heap.FunFrames X.base X.stack:=by
 rcases I.ok.stk with e | ⟨e,hf⟩
 ·rw[e];exact I.uY
 rw[e];obtain⟨m,hn,_⟩:=I.loc;refine .cons (by rw[I.ok.kind];decide) hf hn ?_ I.uY
 exact Heap.get?_none_of_le (Vc I.ok.bsz I.ok.above)
theorem av.F4 (I:av X af σ H s):∀b∈frs X.stack,b∈X.env.locals::X.fs:=λb hb=>by
 rcases I.ok.stk with e | ⟨e,hf⟩
 ·rw[e]at hb;exact ma _ hb
 rw[e]at hb;unfold frs at hb;rw[List.filterMap_cons,hf]at hb;exact hb
theorem av.HE (I:av X af σ H s):∀b∈frs X.stack,H b=none:=λb hb=>by
 rcases List.mem_cons.mp (I.F4 b hb) with e | hb
 ·rw[e];exact I.free
 obtain⟨_,o,ho,_⟩:=I.ok.uY.mem hb;exact I.base.free b o ho (I.ok.frf b hb) λz=>I.ok.Jn b z hb
theorem av.step {g':Array GenState}{t':Nat}{d':Drawn}{ch:List Addr}(I:av X af σ H s)
  (hch:∀b∈ch,(b∈X.ex\/X.s₀.heap.objs.size<=b)/\b≠X.env.locals/\(∀x c,X.env.cells.lookup x=some c->c≠b)/\∀p∈X.pn++af,p.1≠b)
  (keep:∀b o,b≠X.env.locals->b∉X.fs->b∉ch->s.heap.get? b=some o->H b=none->h'.get? b=some o)
  (slot:∀b o,b≠X.env.locals->b∈X.fs->b∉ch->s.heap.get? b=some o->H b=none->∃sl,h'.get? b=some { o with slots:=sl }) (free:∀b o,b∉ch->s.heap.get? b=some o->H b=none->H' b=none)
  (there:∀b o,b∉ch->s.heap.get? b=some o->∃o',h'.get? b=some o')
  (Cw:∀b xs,H b=some (.tup xs)->H' b=some (.tup xs)) (xK:∀b o u,H b=some (.frz o u)->H' b=some (.frz o u)) (Cy:∀b ps,H b=some (.tbl ps)->∃more,H' b=some (.tbl (ps++more)))
  (ns:∀m,s.heap.Ns X.env.locals m->h'.Ns X.env.locals m) (hok:HOk X.prog X.w H' h') (hg:AllBare g') :
  av X af σ H' { s with heap:=h',gens:=g',drawn:=d',toks:=t' }:=by
 have neL:∀b o,X.s₀.heap.get? b=some o->b≠X.env.locals:=λb o e=>Ve (Va (U6 e) I.ok.above)
 have neC:∀b o,X.s₀.heap.get? b=some o->b∉X.ex->b∉ch:=λb o e hx hb=>by
  rcases (hch b hb).1 with z | z
  ·exact hx z
  exact absurd (Va (U6 e) z) (Nat.lt_irrefl _)
 have cellK:∀x c,X.env.cells.lookup x=some c->∀v,s.heap.IsCell c v->h'.IsCell c v:=λx c e v ⟨o,ho,hd⟩=>by
  have nch:c∉ch:=λz=>(hch c z).2.2.1 x c e rfl
  by_cases hc:c∈X.fs
  ·obtain⟨sl,q⟩:=slot c o (I.cne x c e) hc nch ho (I.o9 x c e);exact⟨_,q,hd⟩
  exact⟨o,keep c o (I.cne x c e) hc nch ho (I.o9 x c e),hd⟩
 refine⟨I.ok,I.os,hg,⟨λb o e n hb hx=>?_,λb o e n hb hx=>?_,λb o e n hx=>?_,λb o e hx=>?_,λb xs e=>Cw b xs (I.base.Cw b xs e),λb o xs e=>xK b o xs (I.base.xK b o xs e),λb ps e=>?_⟩,?_,λx c e=>?_,?_,λx c e=>?_,λp hp=>?_,hok,I.len⟩
 ·exact keep b o (neL b o e) hb (neC b o e hx) (I.base.keep b o e n hb hx) (I.base.free b o e n hx)
 ·obtain⟨sl,e1⟩:=I.base.slot b o e n hb hx;obtain⟨sl',e2⟩:=slot b _ (neL b o e) hb (neC b o e hx) e1 (I.base.free b o e n hx);exact⟨sl',e2⟩
 ·obtain⟨o',e1⟩:=I.base.there b o e hx;exact free b o' (neC b o e hx) e1 (I.base.free b o e n hx)
 ·obtain⟨o',e1⟩:=I.base.there b o e hx;exact there b o' (neC b o e hx) e1
 ·obtain⟨m1,e1⟩:=I.base.Cy b ps e;obtain⟨m2,e2⟩:=Cy b _ e1;exact⟨m1++m2,by rw[e2,Array.append_assoc]⟩
 ·obtain⟨m,hn,hl⟩:=I.loc;refine⟨m,ns m hn,λi x v e1 e2 e3=>?_⟩
  obtain⟨u,r,l⟩:=hl i x v e1 e2 e3;refine⟨u,r,?_⟩;rcases l with l | ⟨k,c,e,z⟩
  ·exact .inl l
  exact .inr ⟨k,c,e,cellK x c e _ z⟩
 ·obtain⟨v,z⟩:=I.cell x c e;exact⟨v,cellK x c e v z⟩
 ·obtain⟨m,⟨o,_,_,ho,_⟩,_⟩:=I.loc;exact free _ o (λz=>(hch _ z).2.1 rfl) ho I.free
 ·obtain⟨v,o,ho,hd⟩:=I.cell x c e;exact free c o (λz=>(hch c z).2.2.1 x c e rfl) ho (I.o9 x c e)
 obtain⟨e,n,ne,nf,d⟩:=I.pin p hp;have nch:p.1∉ch:=λz=>(hch p.1 z).2.2.2 p hp rfl
 exact⟨keep p.1 p.2 ne nf nch e n,free p.1 p.2 nch e n,ne,nf,d⟩
theorem av.un {t':Nat}(I:av X af σ H s)(u:Un X.fs [] H H' s.heap h')(hok:HOk X.prog X.w H' h'):av X af σ H' { s with heap:=h',toks:=t' }:=by
 obtain⟨m,⟨o,es,ep,ho,r⟩,_⟩:=id I.loc;obtain⟨sl,hL⟩:=u.any ho I.free (by simp)
 exact I.step (g':=s.gens) (d':=s.drawn) (ch:=[]) (λ_ z=>nomatch z) (λb o _ hb _ e n=>u.keep b o e n hb (by simp)) (λb o _ hb _ e n=>u.slot b o e n hb (by simp)) (λb o _ e n=>u.free b o e n (by simp)) (λb o _ e=>u.there b o e (by simp)) u.Cw u.xK u.Cy (λm' hm=>by
  obtain⟨o',es',ep',ho',r'⟩:=hm;rw[ho]at ho';cases ho';exact⟨_,es',ep',hL,r'⟩) hok I.bare
theorem av.call {g':Array GenState}{t':Nat}{d':Drawn}{ch:List Addr}(I:av X af σ H s)(u:Un (frs X.stack) ch H H' s.heap h')(hok:HOk X.prog X.w H' h')(hg:AllBare g')
  (hch:∀b∈ch,(b∈X.ex\/X.s₀.heap.objs.size<=b)/\b≠X.env.locals/\(∀x c,X.env.cells.lookup x=some c->c≠b)/\∀p∈X.pn++af,p.1≠b) :
  av X af σ H' { s with heap:=h',gens:=g',drawn:=d',toks:=t' }:=by
 obtain⟨m,⟨o,es,ep,ho,r⟩,_⟩:=id I.loc;obtain⟨sl,hL⟩:=u.any ho I.free λz=>(hch _ z).2.1 rfl
 exact I.step (ch:=ch) hch (λb o hL hb hc e n=>u.keep b o e n (λz=>(List.mem_cons.mp (I.F4 b z)).elim hL hb) hc) (λb o _ _ hc e n=>u.any e n hc) (λb o hc e n=>u.free b o e n hc) (λb o hc e=>u.there b o e hc) u.Cw u.xK u.Cy (λm' hm=>by
  obtain⟨o',es',ep',ho',r'⟩:=hm;rw[ho]at ho';cases ho';exact⟨_,es',ep',hL,r'⟩) hok hg
theorem av.turned {t':Nat}{it:Addr}(I:av X af σ H s)(k:∀b o,b≠it->s.heap.get? b=some o->h'.get? b=some o)(hn:H it=none)(hL:it≠X.env.locals)
  (h1:it∈X.ex\/X.s₀.heap.objs.size<=it) (h2:∀x c,X.env.cells.lookup x=some c->c≠it) (h3:∀p∈X.pn++af,p.1≠it):av X af σ H { s with heap:=h',toks:=t' }:=by
 have nit:∀b u,H b=some u->b≠it:=λb u e z=>by rw[z,hn]at e;cases e
 refine I.step (g':=s.gens) (d':=s.drawn) (ch:=[it]) (λb hb=>?_) (λb o _ _ hc e _=>k b o (λz=>hc (by simp[z])) e) (λb o _ _ hc e _=>⟨o.slots,k b o (λz=>hc (by simp[z])) e⟩) (λ_ _ _ _ n=>n)
  (λb o hc e=>⟨o,k b o (λz=>hc (by simp[z])) e⟩) (λ_ _ e=>e) (λ_ _ _ e=>e) (λb ps e=>⟨#[],by rw[e];simp⟩) (λm hm=>?_) (λb u e=>?_) I.bare
 ·have e:b=it:=by simpa using hb
  subst e;exact⟨h1,hL,h2,h3⟩
 ·obtain⟨o,es,ep,ho,r⟩:=hm;exact⟨o,es,ep,k _ o (VG hL) ho,r⟩
 refine(I.hok b u e).F3 (λc v hc q=>k c v ?_ q) (λ_ q=>q) λ_ _ q=>q
 rcases hc with z | z
 ·rw[z];exact nit b u e
 exact nit c _ z
theorem av.tok (I:av X af σ H s)(t:Nat):av X af σ H { s with toks:=t }:=I.un (h':=s.heap) (t':=t) Un.refl I.hok
theorem av.kept {t':Nat}(I:av X af σ H s)(k:∀b u,s.heap.get? b=some u->h'.get? b=some u):av X af σ H { s with heap:=h',toks:=t' }:=I.un (Un.kept k) (I.hok.kept k)
theorem av.laid {a:Addr}{o:HO}{t':Nat}(I:av X af σ H s)(k:∀b u,s.heap.get? b=some u->h'.get? b=some u)(hp:s.heap.objs.size<=a)(new:eN X.prog X.w (ag H a o) h' a o) :
  av X af σ (ag H a o) { s with heap:=h',toks:=t' }:=I.un (Un.laid k hp (I.hok.fresh hp)) (I.hok.laid k hp new)
theorem av.write {x e:Addr}{o:HO}{t':Nat}(I:av X af σ H s)(mu:Mut (H x))(he:e=x\/H e=some (.own x))(k:∀b u,b≠e->s.heap.get? b=some u->h'.get? b=some u)(heo:∃u,h'.get? e=some u)
  (new:eN X.prog X.w (ag H x o) h' x o):av X af σ (ag H x o) { s with heap:=h',toks:=t' }:=I.un (Un.write mu he k heo) (I.hok.write mu he k heo new)
theorem av.CA {OL:List (Addr×Obj)}(I:av X af σ H s)(h:∀p∈OL,s.heap.get? p.1=some p.2/\H p.1=none/\p.1≠X.env.locals/\p.1∉X.fs/\∀v,p.2.data≠.cell v):av X OL σ H s :=
 ⟨I.ok,I.os,I.bare,I.base,I.loc,I.cell,I.free,I.o9,λp hp=>(List.mem_append.mp hp).elim (λz=>I.pin p (VD _ z)) (h p),I.hok,I.len⟩
theorem DW {N:List Str}(hN:N.Nodup){i j:Nat}{x:Str}(a:N[i]?=some x)(b:N[j]?=some x):i=j:=by
 obtain⟨h1,e1⟩:=List.getElem?_eq_some_iff.mp a;obtain⟨h2,e2⟩:=List.getElem?_eq_some_iff.mp b;exact(List.getElem_inj hN).mp (e1.trans e2.symm)
theorem Jo {M:Model}{A:Around}{E:Value->Shared->Prop}{i:Nat}{x:Str}{v:V}{u:Value}{Q:Unit->Shared->Prop}(I:av X af σ H s)(hN:X.N.Nodup)(hi:X.N[i]?=some x)(hx:Loc X.env.scope x)(r:bE v u)
  (h:∀s',av X af (σ.set i (some v)) H s'->(∃a,Heap.SameBut a s.heap s'.heap/\(a=X.env.locals\/X.env.cells.lookup x=some a))->Q () s') (hf:X.fn x=true\/X.env.scope.names.lookup x=some .local:=by first | exact .inl rfl | exact .inr rfl | assumption):wpAny M A (storeName X.env x u) Q E s:=by
 obtain⟨m,hn,hl⟩:=id I.loc;have Ta:(X.env.scope.kind == .class || (X.env.scope.kind == .module && X.env.locals != X.env.globals))=false:=by rw[I.ok.kind];rfl
 have hiσ:i < σ.length:=by rw[I.len];exact(List.getElem?_eq_some_iff.mp hi).1
 have cne:=I.cne;have tracked:∀ {a:Addr} {h':Heap},(∃o,s.heap.get? a=some o/\H a=none)->Heap.SameBut a s.heap h'->HOk X.prog X.w H h':=λ{a h'} ha hs b ob e=>by
  obtain⟨_,_,OM⟩:=ha;refine(I.hok b ob e).F3 (λc w' hc q=>(hs.2 c ?_).trans q) (λ_ q=>q) λ_ _ q=>q
  rintro rfl;rcases hc with rfl | hc
  ·rw[OM]at e;cases e
  rw[OM]at hc;cases hc
 rcases hx with hk | hk
 ·refine wpAny_storeName_local hk hn (λh' hn' hs=>?_) Ta
  obtain⟨oL,_,_,hoL,_⟩:=id hn;refine h _ ⟨I.ok,I.os,I.bare,⟨λb o e n hb hx=>?_,λb o e n hb hx=>?_,I.base.free,λb o e hx=>?_,I.base.Cw,I.base.xK,I.base.Cy⟩,⟨_,hn',λj y v' e1 e2 e3=>?_⟩,λy c e=>?_,I.free,I.o9,λp hp=>?_,tracked ⟨oL,hoL,I.free⟩ hs,by simpa using I.len⟩ ⟨_,hs,.inl rfl⟩
  ·exact(hs.2 b (Ve (Va (U6 e) I.ok.above))).trans (I.base.keep b o e n hb hx)
  ·obtain⟨sl,e1⟩:=I.base.slot b o e n hb hx;exact⟨sl,(hs.2 b (Ve (Va (U6 e) I.ok.above))).trans e1⟩
  ·obtain⟨o',e1⟩:=I.base.there b o e hx;exact⟨o',(hs.2 b (Ve (Va (U6 e) I.ok.above))).trans e1⟩
  ·by_cases hj:j=i
   ·subst hj;rw[hi]at e1;cases e1;rw[List.getElem?_set_self hiσ]at e2;cases e2;exact⟨u,r,.inl ⟨hk,by simp⟩⟩
   rw[List.getElem?_set_ne (VG hj)]at e2;obtain⟨u',r',q⟩:=hl j y v' e1 e2 e3;refine⟨u',r',?_⟩;rcases q with ⟨k,e⟩ | ⟨k,c,e,z⟩
   ·refine .inl ⟨k,?_⟩;have:y≠x:=λe=>hj (DW hN e1 (e▸hi))
    simp[this,e]
   exact .inr ⟨k,c,e,z.sameBut hs (cne y c e)⟩
  ·obtain⟨w',z⟩:=I.cell y c e;exact⟨w',z.sameBut hs (cne y c e)⟩
  obtain⟨e,n,ne,nf,d⟩:=I.pin p hp;exact⟨(hs.2 p.1 ne).trans e,n,ne,nf,d⟩
 have hfn:X.fn x=true:=by
  rcases hf with z | z
  ·exact z
  rw[z]at hk;cases hk
 obtain⟨c,hc⟩:=I.ok.has x (.inl hk);obtain⟨w',z⟩:=I.cell x c hc;refine wpAny_storeName_cell I.ok.kind hk hc z (λh' hc' hs=>?_)
 obtain⟨oc,hoc,Tb⟩:=id z;refine h { s with heap:=h' } ⟨I.ok,I.os,I.bare,⟨λb o e n hb hx=>?_,λb o e n hb hx=>?_,I.base.free,λb o e hx=>?_,I.base.Cw,I.base.xK,I.base.Cy⟩,⟨m,hn.sameBut hs (VG (cne x c hc)),λj y v' e1 e2 e3=>?_⟩,λy c' e=>?_,I.free,I.o9,λp hp=>?_,tracked ⟨oc,hoc,I.o9 x c hc⟩ hs,by simpa using I.len⟩ ⟨c,hs,.inr hc⟩
 ·exact(hs.2 b (Ve (Va (U6 e) (I.ok.cab x c hfn hc)))).trans (I.base.keep b o e n hb hx)
 ·obtain⟨sl,e1⟩:=I.base.slot b o e n hb hx;exact⟨sl,(hs.2 b (Ve (Va (U6 e) (I.ok.cab x c hfn hc)))).trans e1⟩
 ·obtain⟨o',e1⟩:=I.base.there b o e hx;exact⟨o',(hs.2 b (Ve (Va (U6 e) (I.ok.cab x c hfn hc)))).trans e1⟩
 ·by_cases hj:j=i
  ·subst hj;rw[hi]at e1;cases e1;rw[List.getElem?_set_self hiσ]at e2;cases e2;exact⟨u,r,.inr ⟨.inl hk,c,hc,hc'⟩⟩
  rw[List.getElem?_set_ne (VG hj)]at e2;obtain⟨u',r',q⟩:=hl j y v' e1 e2 e3;refine⟨u',r',?_⟩;rcases q with q | ⟨k,c',e,z'⟩
  ·exact .inl q
  refine .inr ⟨k,c',e,z'.sameBut hs ?_⟩;rintro rfl;exact hj (DW hN e1 (I.ok.inj _ _ _ e hc▸hi))
 ·by_cases hcc:c'=c
  ·subst hcc;exact⟨_,hc'⟩
  obtain⟨w2,z2⟩:=I.cell y c' e;exact⟨w2,z2.sameBut hs hcc⟩
 obtain⟨e,n,ne,nf,d⟩:=I.pin p hp;refine⟨(hs.2 p.1 ?_).trans e,n,ne,nf,d⟩;intro q;rw[q,hoc]at e;have q':oc=p.2:=US e;exact d w' (by rw[<-q'];exact Tb)
theorem tE {M:Model}{A:Around}{E:Value->Shared->Prop}{i:Nat}{x:Str}{v:V}{u:Value}{Q:Unit->Shared->Prop}(I:av X af σ H s)(hN:X.N.Nodup)(hi:X.N[i]?=some x)(hx:Loc X.env.scope x)(r:bE v u)
  (h:∀s',av X af (σ.set i (some v)) H s'->Q () s') (hf:X.fn x=true\/X.env.scope.names.lookup x=some .local:=by first | exact .inl rfl | exact .inr rfl | assumption):wpAny M A (storeName X.env x u) Q E s :=
 Jo I hN hi hx r (λs' I' _=>h s' I') hf
theorem av.Rt {s':Shared}{ch:List Addr}(I:av X af σ H s)(ho:s'.os=s.os)(u:Un (frs X.stack) ch H H' s.heap s'.heap)(hok:HOk X.prog X.w H' s'.heap)(hg:AllBare s'.gens)
  (hch:∀b∈ch,(b∈X.ex\/X.s₀.heap.objs.size<=b)/\b≠X.env.locals/\(∀x c,X.env.cells.lookup x=some c->c≠b)/\∀p∈X.pn++af,p.1≠b):av X af σ H' s':=by
 obtain⟨h',g',d',t',o'⟩:=s';have e:o'=s.os:=ho;subst e;exact I.call (g':=g') (t':=t') (d':=d') u hok hg hch
end
abbrev XK:=Value->Option Addr->Hp->Prop
abbrev St:=List (Option V)
abbrev VK:=V->Hp->Prop
abbrev TE:=St->Hp->VK->Prop
abbrev TT:=St->Hp->(Bool->Hp->Prop)->Prop
abbrev TA:=St->Hp->(List V->Hp->Prop)->Prop
structure Ends where
 nx:St->Hp->Prop
 rt:VK
 bk:St->Hp->Prop:=λ_ _=>False
 ct:St->Hp->Prop:=λ_ _=>False
abbrev TS:=Ends->St->Hp->Prop
def EP (X:Cx)(af:List (Addr×Obj))(σ:St)(Q:VK)(u:Value)(s':Shared):Prop:=∃v H',av X af σ H' s'/\bE v u/\Q v H'
def TP (X:Cx)(af:List (Addr×Obj))(σ:St)(Q:Bool->Hp->Prop)(b:Bool)(s':Shared):Prop:=∃H',av X af σ H' s'/\Q b H'
def AP (X:Cx)(af:List (Addr×Obj))(σ:St)(Q:List V->Hp->Prop)(us:List Value)(s':Shared):Prop:=∃vs H',av X af σ H' s'/\bg vs us/\Q vs H'
def SP (X:Cx)(af:List (Addr×Obj))(D:Ends)(f:Flow)(s':Shared):Prop :=
 match f with
 | .next=>∃σ' H',av X af σ' H' s'/\D.nx σ' H'
 | .brk=>∃σ' H',av X af σ' H' s'/\D.bk σ' H'
 | .cont=>∃σ' H',av X af σ' H' s'/\D.ct σ' H'
 | .ret u=>∃v σ' H',av X af σ' H' s'/\bE v u/\D.rt v H'
def PE (X:Cx)(e:Expr)(t:TE):Prop :=
 ∀(af:List (Addr×Obj)) (s:Shared) (σ:St) (H:Hp) (Q:VK),av X af σ H s->t σ H Q->wpAny (model X.prog X.w) X.A (eval e X.env) (EP X af σ Q) X.xe s
def PT (X:Cx)(e:Expr)(t:TT):Prop :=
 ∀(af:List (Addr×Obj)) (s:Shared) (σ:St) (H:Hp) (Q:Bool->Hp->Prop),av X af σ H s->t σ H Q->wpAny (model X.prog X.w) X.A (isTrue e X.env (eval e X.env)) (TP X af σ Q) X.xe s
def PW (X:Cx)(e:Expr)(t:TT):Prop :=
 ∀(whole:Sem Value) (af:List (Addr×Obj)) (s:Shared) (σ:St) (H:Hp) (Q:Bool->Hp->Prop),av X af σ H s->t σ H Q->wpAny (model X.prog X.w) X.A (isTrue e X.env whole) (TP X af σ Q) X.xe s
theorem PW.pt {X:Cx}{e:Expr}{t:TT}(h:PW X e t):PT X e t:=h _
def PA (X:Cx)(es:List Expr)(t:TA):Prop :=
 ∀(pos:Pos) (af:List (Addr×Obj)) (s:Shared) (σ:St) (H:Hp) (Q:List V->Hp->Prop),av X af σ H s->t σ H Q->wpAny (model X.prog X.w) X.A (spliced (backTo pos (Vn es X.env))) (AP X af σ Q) X.xe s
def PS (X:Cx)(st:Stmt)(t:TS):Prop :=
 ∀(af:List (Addr×Obj)) (s:Shared) (σ:St) (H:Hp) (D:Ends),av X af σ H s->t D σ H->wpAny (model X.prog X.w) X.A (exec st X.env) (SP X af D) X.xe s
def PSs (X:Cx)(st:List Stmt)(t:TS):Prop :=
 ∀(af:List (Addr×Obj)) (s:Shared) (σ:St) (H:Hp) (D:Ends),av X af σ H s->t D σ H->wpAny (model X.prog X.w) X.A (execs st X.env) (SP X af D) X.xe s
theorem thn {α:Type}{t:Sem α}{Q Q':α->Shared->Prop}{M:Model}{A:Around}{E:Value->Shared->Prop}{s:Shared}(h:wpAny M A t Q E s)(hQ:∀a s,Q a s->Q' a s):wpAny M A t Q' E s:=Wl h hQ λ_ _ x=>x
section
variable{X:Cx}
theorem bin {a b:Expr}{ta tb:TE}(ha:PE X a ta)(hb:PE X b tb){af:List (Addr×Obj)}{s:Shared}{σ:St}{H:Hp}{R:V->V->Hp->Prop}(I:av X af σ H s)(h:ta σ H λx H1=>tb σ H1 λy H2=>R x y H2)
  {α:Type} {Q:α->Shared->Prop} {f:Value->Value->Sem α}
  (hf:∀v u s2 x y H2,av X af σ H2 s2->bE x v->bE y u->R x y H2->wpAny (model X.prog X.w) X.A (f v u) Q X.xe s2) :
  wpAny (model X.prog X.w) X.A (eval a X.env) (λv s₁=>wpAny (model X.prog X.w) X.A (eval b X.env) (λu s₂=>wpAny (model X.prog X.w) X.A (f v u) Q X.xe s₂) X.xe s₁) X.xe s:=by
 refine thn (ha af s σ H _ I h) λv s1 ⟨x,H1,I1,r1,q1⟩=>?_
 refine thn (hb af s1 σ H1 _ I1 q1) λu s2 ⟨y,H2,I2,r2,q2⟩=>?_
 exact hf v u s2 x y H2 I2 r1 r2 q2
def Ru (i:Nat):TE:=λσ H Q=>∃v,σ[i]?=some (some v)/\Q v H
def tC (v:V):TE:=λ_ H Q=>Q v H
theorem Pg {i:Nat}{x:Str}{pos:Pos}(hN:X.N[i]?=some x)(hv:Vis X.env.scope x)(hd:(x == ("__debug__":Str))=false:=by decide)(hcd:(x == ("__classdict__":Str))=false:=by decide):PE X (.Name x pos) (Ru i):=by
 intro af s σ H Q I h;obtain⟨v,e,h⟩:=h;obtain⟨m,hn,hl⟩:=I.loc;obtain⟨u,r,l⟩:=hl i x v hN e hv;have fin:EP X af σ Q u s:=⟨v,H,I,r,h⟩;rcases l with ⟨hk,hm⟩ | ⟨hk,c,hc,tF⟩
 ·exact wpAny_Name (wpAny_loadName_local I.ok.kind hk hn hm fin) hd
 rcases hk with hk | hk
 ·exact wpAny_Name (wpAny_loadName_cell I.ok.kind hk hc tF fin) hd
 exact wpAny_Name (wpAny_loadName_free I.ok.kind hk hc tF fin hcd) hd
theorem aj {i j pos}:PE X (.Constant (.int i) j pos) (tC (.int i)):=λ_ _ _ H _ I h=>wpAny_Constant_int ⟨.int i,H,I.tok _,⟨_,rfl⟩,h⟩
theorem og {b j pos}:PE X (.Constant (.bool b) j pos) (tC (.bl b)):=λ_ _ _ H _ I h=>Constant_bool ⟨.bl b,H,I,rfl,h⟩
theorem rX {j pos}:PE X (.Constant .none j pos) (tC .non):=λ_ _ _ H _ I h=>Constant_none ⟨.non,H,I,rfl,h⟩
theorem au {x j pos}:PE X (.Constant (.str x) j pos) (tC (.str x)):=λ_ _ _ H _ I h=>Calls.Constant_str ⟨.str x,H,I.tok _,⟨_,rfl⟩,h⟩
def Gl (X:Cx)(x:Str):Prop:=X.env.kindOf x=some .globalImplicit
theorem qC {E:Value->Shared->Prop}{af:List (Addr×Obj)}{s:Shared}{σ:St}{H:Hp}{x:Str}{u:Value}{pos:Pos}{Q:Value->Shared->Prop}(I:av X af σ H s)(hg:Gl X x)(hm:X.mg x=some u)(h:Q u s)
  (hd:(x == ("__debug__":Str))=false:=by decide):wpAny (model X.prog X.w) X.A (eval (.Name x pos) X.env) Q E s :=
 Calls.Name_function_global I.ok.kind hg (Calls.loadGlobal_global (by rw[I.ok.glob];exact I.mod.glob.keeps I.bk) hm h) hd
theorem CB {E:Value->Shared->Prop}{af:List (Addr×Obj)}{s:Shared}{σ:St}{H:Hp}{x:Str}{u:Value}{pos:Pos}{Q:Value->Shared->Prop}(I:av X af σ H s)(hg:Gl X x)(hm:X.mg x=none)(hv:VO x=some u)(h:Q u s)
  (hn:x≠"__name__":=by decide) (hd:(x == ("__debug__":Str))=false:=by decide):wpAny (model X.prog X.w) X.A (eval (.Name x pos) X.env) Q E s:=by
 obtain⟨mb,h1,h2⟩:=I.mod.blt;exact Calls.Name_function_global I.ok.kind hg (Calls.loadGlobal_builtin (by rw[I.ok.glob];exact I.mod.glob.keeps I.bk) hm (by rw[I.ok.blt];exact h1.keeps I.bk) ((h2 x hn).trans hv) h) hd
theorem fU {x:Str}{v:V}{u:Value}{pos:Pos}(hg:Gl X x)(hm:X.mg x=some u)(r:bE v u)(hd:(x == ("__debug__":Str))=false:=by decide):PE X (.Name x pos) (tC v) :=
 λ_ _ _ H _ I h=>qC I hg hm ⟨v,H,I,r,h⟩ hd
variable{a b:Expr}{ta tb:TE}{pos:Pos}
def PC (X:Cx)(op:CmpOp)(a b:Expr)(t:TE):Prop :=
 ∀(af:List (Addr×Obj)) (s:Shared) (σ:St) (H:Hp) (Q:VK),av X af σ H s->t σ H Q ->
  wpAny (model X.prog X.w) X.A (eval a X.env) (λv s₁=>wpAny (model X.prog X.w) X.A (eval b X.env) (λu s₂=>wpAny (model X.prog X.w) X.A (VP op v u) (EP X af σ Q) X.xe s₂) X.xe s₁) X.xe s
theorem Kb (b:Expr){op:CmpOp}(h:op≠.In)(h2:op≠.NotIn):behindInMarks op b=false:=by
 have e1:(op == CmpOp.In)=false:=by cases op <;> first | rfl | exact absurd rfl h
 have e2:(op == CmpOp.NotIn)=false:=by cases op <;> first | rfl | exact absurd rfl h2
 cases b <;> simp[behindInMarks,e1,e2]
def tB (t:TE):TT:=λσ H Q=>t σ H λx H1=>∃c,x=.bl c/\Q c H1
theorem CC {op:CmpOp}{t:TE}(h:PC X op a b t)(h1:behindInMarks op b=false:=by first | exact Kb _ (by decide) (by decide) | rfl):PT X (.Compare a [op] [b] pos) (tB t):=by
 intro af s σ H Q I hw;refine wpAny_isTrue_Compare1 (thn (h af s σ H _ I hw) λv s1 h1=>thn h1 λu s2 h2=>thn h2 λc s3 ⟨x,H1,I1,r1,q1⟩=>?_) h1
 obtain⟨d,rfl,q⟩:=q1;cases r1;exact wpAny_truthy_bool ⟨H1,I1,q⟩
theorem lH {e:Expr}{t:TE}(h:PE X e t)(he:∀whole,isTrue e X.env whole=(do let v <-whole;standAt e.pos;holding [v] (truthy v)):=by intro _;rfl):PT X e (tB t):=by
 intro af s σ H Q I hw;refine isTrue_plain (thn (h af s σ H _ I hw) λv s1 ⟨x,H1,I1,r1,q1⟩=>?_) (he _)
 obtain⟨d,rfl,q⟩:=q1;cases r1;exact wpAny_truthy_bool ⟨H1,I1,q⟩
variable{tA tB':TT}{rest:List Expr}
def Tc (t u:TT):TT:=λσ H Q=>t σ H λc H1=>if c=true then u σ H1 Q else Q false H1
def tOr (t u:TT):TT:=λσ H Q=>t σ H λc H1=>if c=true then Q true H1 else u σ H1 Q
def Td (t:TT):TT:=λσ H Q=>t σ H λc H1=>Q (!c) H1
theorem pw_and1 (ha:PT X a tA):PW X (.BoolOp .And [a] pos) tA:=by
 intro wh af s σ H Q I h;refine isTrue_and (thn (ha af s σ H Q I h) λc s1 e=>?_)
 cases c with
 |true=>exact isTrue_and_nil e
 |false=>exact e
theorem pw_or1 (ha:PT X a tA):PW X (.BoolOp .Or [a] pos) tA:=by
 intro wh af s σ H Q I h;refine isTrue_or (thn (ha af s σ H Q I h) λc s1 e=>?_)
 cases c with
 |false=>exact isTrue_or_nil e
 |true=>exact e
theorem pw_and (ha:PT X a tA)(hb:PW X (.BoolOp .And (b::rest) pos) tB'):PW X (.BoolOp .And (a::b::rest) pos) (Tc tA tB'):=by
 intro wh af s σ H Q I h;refine isTrue_and (thn (ha af s σ H _ I h) λc s1 ⟨H1,I1,q1⟩=>?_)
 cases c with
 |true=>exact hb wh af s1 σ H1 Q I1 q1
 |false=>exact⟨H1,I1,q1⟩
theorem pw_or (ha:PT X a tA)(hb:PW X (.BoolOp .Or (b::rest) pos) tB'):PW X (.BoolOp .Or (a::b::rest) pos) (tOr tA tB'):=by
 intro wh af s σ H Q I h;refine isTrue_or (thn (ha af s σ H _ I h) λc s1 ⟨H1,I1,q1⟩=>?_)
 cases c with
 |true=>exact⟨H1,I1,q1⟩
 |false=>exact hb wh af s1 σ H1 Q I1 q1
theorem mT (ha:PT X a tA):PT X (.UnaryOp .Not a pos) (Td tA):=by
 intro af s σ H Q I h;exact isTrue_not (ha af s σ H (λc H1=>Q (!c) H1) I h)
def Rv (ta tb:TE):TE:=λσ H Q=>ta σ H λx H1=>∃c,x=.bl c/\if c=true then tb σ H1 Q else Q (.bl false) H1
def Te (ta tb:TE):TE:=λσ H Q=>ta σ H λx H1=>∃c,x=.bl c/\if c=true then Q (.bl true) H1 else tb σ H1 Q
theorem iw {op}{t:TE}(h:PE X a t):PE X (.BoolOp op [a] pos) t:=λaf s σ H Q I hw=>BoolOp_one (h af s σ H Q I hw)
theorem jZ (ha:PE X a ta)(hb:PE X (.BoolOp .And (b::rest) pos) tb):PE X (.BoolOp .And (a::b::rest) pos) (Rv ta tb):=by
 intro af s σ H Q I h;refine BoolOp_and (thn (ha af s σ H _ I h) λv s1 ⟨x,H1,I1,r1,q1⟩=>?_)
 obtain⟨c,rfl,q1⟩:=q1;cases r1;refine wpAny_truthy_bool ?_;cases c with
 |true=>exact hb af s1 σ H1 Q I1 q1
 |false=>exact⟨.bl false,H1,I1,rfl,q1⟩
theorem Kc (ha:PE X a ta)(hb:PE X (.BoolOp .Or (b::rest) pos) tb):PE X (.BoolOp .Or (a::b::rest) pos) (Te ta tb):=by
 intro af s σ H Q I h;refine BoolOp_or (thn (ha af s σ H _ I h) λv s1 ⟨x,H1,I1,r1,q1⟩=>?_)
 obtain⟨c,rfl,q1⟩:=q1;cases r1;refine wpAny_truthy_bool ?_;cases c with
 |false=>exact hb af s1 σ H1 Q I1 q1
 |true=>exact⟨.bl true,H1,I1,rfl,q1⟩
def tIf (t:TT)(ta tb:TE):TE:=λσ H Q=>t σ H λc H1=>if c=true then ta σ H1 Q else tb σ H1 Q
theorem xM {c:Expr}(hc:PT X c tA)(ha:PE X a ta)(hb:PE X b tb):PE X (.IfExp c a b pos) (tIf tA ta tb):=by
 intro af s σ H Q I h;refine wpAny_IfExp (thn (hc af s σ H _ I h) λd s1 ⟨H1,I1,q1⟩=>?_)
 cases d with
 |true=>exact ha af s1 σ H1 Q I1 q1
 |false=>exact hb af s1 σ H1 Q I1 q1
end
def ay (K:de)(H:Hp)(a:Addr)(xs:List V):Prop :=
 Rd H a (.lst xs) \/
  ∃(o:Obj) (its:Array Value) (n:Nat),K.lookup a=some o/\o.cls=.type "list"/\o.dict=none/\o.data=.seq its n/\its.size<=fu/\bg xs its.toList
def aW (K:de)(H:Hp)(a:Addr)(xs:List V):Prop :=
 Rd H a (.tup xs) \/
  ∃(o:Obj) (its:Array Value) (n:Nat),K.lookup a=some o/\o.cls=.type "tuple"/\o.data=.seq its n/\its.size<=fu/\bg xs its.toList
noncomputable def Tf:Value->Option V
 | .none=>some .non
 | .bool b=>some (.bl b)
 | .int i _=>some (.int i)
 | .str x _=>some (.str x)
 | .bytes b _=>some (.byt b)
 | .float b _=>some (.flt b)
 | .ref a=>some (.ref a)
 | .type n=>some (.ty n)
 |_=>none
theorem bE.abs {x:V}{u:Value}(r:bE x u):Tf u=some x:=by
 cases x with
 |non=>cases r;rfl
 |bl _=>cases r;rfl
 |int _=>obtain⟨t,rfl⟩:=r;rfl
 |str _=>obtain⟨t,rfl⟩:=r;rfl
 |byt _=>obtain⟨t,rfl⟩:=r;rfl
 |flt _=>obtain⟨t,rfl⟩:=r;rfl
 |ref _=>cases r;rfl
 |ty _=>cases r;rfl
theorem bE.inj {x y:V}{u:Value}(r:bE x u)(q:bE y u):x=y:=US (r.abs.symm.trans q.abs)
theorem bg.inj:∀ {xs ys:List V} {us:List Value},bg xs us->bg ys us->xs=ys
 |_,_,_,.nil,.nil=>rfl
 |_,_,_,.cons r t,.cons r' t'=>by rw[r.inj r',bg.inj t t']
section
variable{X:Cx}{af:List (Addr×Obj)}{σ:St}{H:Hp}{s:Shared}{a:Addr}{xs ys:List V}
theorem ay.of {K:de}(h:H a=some (.lst xs)):ay K H a xs:=.inl (.inl h)
theorem aW.of {K:de}(h:H a=some (.tup xs)):aW K H a xs:=.inl (.inl h)
theorem av.list (I:av X af σ H s)(h:ay X.K H a xs):∃its:List Value,bg xs its/\PlainL s.heap a its.toArray/\xs.length<=fu:=by
 rcases h with h | ⟨o,its,n,hk,hc,hd,hs,hz,r⟩
 ·obtain⟨z,its,n,r,e⟩:=h.ok I.hok;exact⟨its,r,⟨_,n,e,rfl,rfl,rfl⟩,z⟩
 refine⟨its.toList,r,⟨o,n,I.kIn a o hk,hc,hd,by simpa using hs⟩,?_⟩
 have e:=r.length;simp only[Wx]at e;omega
theorem av.tuple (I:av X af σ H s)(h:aW X.K H a xs):∃its:List Value,bg xs its/\IsTup s.heap a its.toArray/\xs.length<=fu:=by
 rcases h with h | ⟨o,its,n,hk,hc,hs,hz,r⟩
 ·obtain⟨z,its,r,p⟩:=h.ok I.hok;exact⟨its,r,p,z⟩
 refine⟨its.toList,r,⟨o,I.kIn a o hk,hc,n,by simpa using hs⟩,?_⟩
 have e:=r.length;simp only[Wx]at e;omega
theorem av.DX (I:av X af σ H s)(h:ay X.K H a xs)(h':ay X.K H a ys):xs=ys:=by
 obtain⟨its,r,⟨o,n,e,_,_,d⟩,_⟩:=I.list h;obtain⟨its',r',⟨o',n',e',_,_,d'⟩,_⟩:=I.list h';rw[e]at e';cases e';rw[d]at d';injection d' with d1 _
 have:its=its':=by simpa using congrArg Array.toList d1
 subst this;exact r.inj r'
theorem av.Jp (I:av X af σ H s)(h:aW X.K H a xs)(h':aW X.K H a ys):xs=ys:=by
 obtain⟨its,r,⟨o,e,_,n,d⟩,_⟩:=I.tuple h;obtain⟨its',r',⟨o',e',_,n',d'⟩,_⟩:=I.tuple h';rw[e]at e';cases e';rw[d]at d';injection d' with d1 _
 have:its=its':=by simpa using congrArg Array.toList d1
 subst this;exact r.inj r'
end
noncomputable abbrev Cx.Au (X:Cx)(E:Value->Shared->Prop):Cx:={ X with xe:=E }
abbrev Cx.nox (X:Cx):Cx:=X.Au λ_ _=>False
theorem Cx.Ok.Au {X:Cx}(ok:X.Ok)(E:Value->Shared->Prop):(X.Au E).Ok :=
 ⟨ok.mod,ok.kind,ok.glob,ok.blt,ok.above,ok.inj,ok.has,ok.cab,ok.hd,ok.frames,ok.stk,ok.exf,ok.bs,ok.bsz,ok.Jm,ok.Jn,ok.uY,ok.frf⟩
theorem Cx.Ok.pd {X:Cx}{E:Value->Shared->Prop}(ok:(X.Au E).Ok):X.Ok :=
 ⟨ok.mod,ok.kind,ok.glob,ok.blt,ok.above,ok.inj,ok.has,ok.cab,ok.hd,ok.frames,ok.stk,ok.exf,ok.bs,ok.bsz,ok.Jm,ok.Jn,ok.uY,ok.frf⟩
section
variable{X:Cx}{af:List (Addr×Obj)}{σ:St}{H:Hp}{s:Shared}{E:Value->Shared->Prop}
theorem av.Au (I:av X af σ H s)(E:Value->Shared->Prop):av (X.Au E) af σ H s:=⟨I.ok.Au E,I.os,I.bare,I.base,I.loc,I.cell,I.free,I.o9,I.pin,I.hok,I.len⟩
theorem av.pd (I:av (X.Au E) af σ H s):av X af σ H s:=⟨I.ok.pd,I.os,I.bare,I.base,I.loc,I.cell,I.free,I.o9,I.pin,I.hok,I.len⟩
theorem SP.pd {D:Ends}{f:Flow}{s':Shared}(h:SP (X.Au E) af D f s'):SP X af D f s':=by
 cases f with
 |next=>obtain⟨σ',H',I,q⟩:=h;exact⟨σ',H',I.pd,q⟩
 |brk=>obtain⟨σ',H',I,q⟩:=h;exact⟨σ',H',I.pd,q⟩
 |cont=>obtain⟨σ',H',I,q⟩:=h;exact⟨σ',H',I.pd,q⟩
 |ret u=>obtain⟨v,σ',H',I,r,q⟩:=h;exact⟨v,σ',H',I.pd,r,q⟩
theorem PSs.nox {st:List Stmt}{t:TS}(h:PSs X.nox st t):PSs X st t:=λaf s σ H D I hw =>
 Wl (h af s σ H D (I.Au _) hw) (λ_ _ q=>q.pd) λ_ _ z=>V8 z
end
section
variable{X:Cx}{st:Stmt}{rest:List Stmt}{t u:TS}{e:Expr}{te:TE}{pos:Pos}
def ON:TS:=λD σ H=>D.nx σ H
def DY (t u:TS):TS:=λD σ H=>t { D with nx:=u D } σ H
theorem aK:PSs X [] ON:=λ_ _ σ H _ I h=>wpAny_execs_nil ⟨σ,H,I,h⟩
theorem ah (h1:PS X st t)(h2:PSs X rest u):PSs X (st::rest) (DY t u):=by
 intro af s σ H D I h;refine wpAny_execs_cons (thn (h1 af s σ H { D with nx:=u D } I h) λf s1 q=>?_)
 cases f with
 |next =>
  obtain⟨σ',H',I',q⟩:=q;exact h2 af s1 σ' H' D I' q
 |ret v=>exact q
 |brk=>exact q
 |cont=>exact q
theorem ao (h1:PS X st t):PSs X [st] t:=by
 intro af s σ H D I h;refine wpAny_execs_cons (thn (h1 af s σ H D I h) λf s1 q=>?_)
 cases f with
 |next=>exact wpAny_execs_nil q
 |ret v=>exact q
 |brk=>exact q
 |cont=>exact q
theorem av.quiet {af:List (Addr×Obj)}{σ:St}{H:Hp}{s:Shared}(I:av X af σ H s):interactive X.env=false:=by simp[interactive,I.ok.kind]
def OO (te:TE):TS:=λD σ H=>te σ H λ_ H1=>D.nx σ H1
theorem bw (he:PE X e te)(hs:swapsWith e none pos.line X.env=pure false:=by rfl):PS X (.Expr e pos) (OO te):=by
 intro af s σ H D I h;exact wpAny_Expr_any (thn (he af s σ H _ I h) λv s1 ⟨x,H1,I1,r1,q1⟩=>⟨σ,H1,I1,q1⟩) I.quiet hs
def Tg (te:TE):TS:=λD σ H=>te σ H D.rt
theorem aG (he:PE X e te):PS X (.Return (some e) pos) (Tg te):=by
 intro af s σ H D I h;exact wpAny_Return_some (thn (he af s σ H _ I h) λv s1 ⟨x,H1,I1,r1,q1⟩=>⟨x,σ,H1,I1,r1,q1⟩)
def Th (c:TT)(t u:TS):TS:=λD σ H=>c σ H λb H1=>if b=true then t D σ H1 else u D σ H1
theorem bf {c:Expr}{a b:List Stmt}{tc:TT}(hc:PT X c tc)(ha:PSs X a t)(hb:PSs X b u):PS X (.If c a b pos) (Th tc t u):=by
 intro af s σ H D I h;refine wpAny_If (thn (hc af s σ H _ I h) λd s1 ⟨H1,I1,q1⟩=>?_)
 cases d with
 |true=>exact ha af s1 σ H1 D I1 q1
 |false=>exact hb af s1 σ H1 D I1 q1
end
abbrev TG:=V->St->Hp->(St->Hp->Prop)->Prop
abbrev TGs:=List V->St->Hp->(St->Hp->Prop)->Prop
def PG (X:Cx)(target:Expr)(t:TG):Prop :=
 ∀(af:List (Addr×Obj)) (s:Shared) (σ:St) (H:Hp) (v:V) (u:Value) (Q:St->Hp->Prop),av X af σ H s->bE v u->t v σ H Q ->
  wpAny (model X.prog X.w) X.A (assign target X.env u) (λ_ s'=>∃σ' H',av X af σ' H' s'/\Q σ' H') X.xe s
def PGs (X:Cx)(ts:List Expr)(t:TGs):Prop :=
 ∀(af:List (Addr×Obj)) (s:Shared) (σ:St) (H:Hp) (vs:List V) (us:List Value) (Q:St->Hp->Prop),av X af σ H s->bg vs us->t vs σ H Q ->
  wpAny (model X.prog X.w) X.A (assignInOrder ((assignEach ts X.env).map (·.2)) us) (λ_ s'=>∃σ' H',av X af σ' H' s'/\Q σ' H') X.xe s
abbrev Ph:=V->V->V->Hp->(Hp->Prop)->Prop
def Rw (X:Cx)(t:Ph):Prop :=
 ∀(af:List (Addr×Obj)) (s:Shared) (σ:St) (H:Hp) (o i v:V) (ov iv u:Value) (Q:Hp->Prop),av X af σ H s->bE o ov->bE i iv->bE v u->t o i v H Q ->
  wpAny (model X.prog X.w) X.A (setItem ov iv u) (λ_ s'=>∃H',av X af σ H' s'/\Q H') X.xe s
section
variable{X:Cx}{pos:Pos}
def cZ (i:Nat):TG:=λv σ H Q=>Q (σ.set i (some v)) H
theorem M5 {i:Nat}{x:Str}(hN:X.N.Nodup)(hi:X.N[i]?=some x)(hx:Loc X.env.scope x)(hf:X.fn x=true\/X.env.scope.names.lookup x=some .local:=by first | exact .inl rfl | exact .inr rfl | assumption):PG X (.Name x pos) (cZ i):=by
 intro af s σ H v u Q I r h;exact wpAny_assign_Name (tE I hN hi hx r (λs' I'=>⟨_,H,I',h⟩) hf)
def Rx:TGs:=λvs σ H Q=>vs=[]/\Q σ H
def Kd (t:TG)(u:TGs):TGs:=λvs σ H Q=>∃v r,vs=v::r/\t v σ H λσ' H'=>u r σ' H' Q
theorem mU:PGs X [] Rx:=by
 intro af s σ H vs us Q I r h;obtain⟨e,h⟩:=h;subst e;cases r;exact assignInOrder_nil ⟨σ,H,I,h⟩
theorem d0 {e:Expr}{es:List Expr}{t:TG}{u:TGs}(h1:PG X e t)(h2:PGs X es u)
  (hs:(assignEach (e::es) X.env).map (·.2)=assign e X.env::(assignEach es X.env).map (·.2):=by rfl):PGs X (e::es) (Kd t u):=by
 intro af s σ H vs us Q I r h;obtain⟨v,vr,e1,h⟩:=h;subst e1;cases r with
 |cons r rr =>
  rw[hs];refine assignInOrder_cons (thn (h1 af s σ H _ _ _ I r h) λ_ s1 ⟨σ1,H1,I1,q1⟩=>?_)
  exact h2 af s1 σ1 H1 _ _ Q I1 rr q1
def Ry (K:de)(n:Nat)(t:TGs):TG:=λv σ H Q=>∃a xs,v=.ref a/\aW K H a xs/\xs.length=n/\t xs σ H Q
theorem rY {es:List Expr}{k:Nat}{t:TGs}{n:Nat}(hc:X.calm=true)(h:PGs X es t)
  (hn:(assignEach es X.env).length=n:=by rfl) (hst:(assignEach es X.env).findIdx? (·.1)=none:=by rfl):PG X (.Tuple es k pos) (Ry X.K n t):=by
 intro af s σ H v u Q I r hw;obtain⟨a,xs,e1,hq,hl,hw⟩:=hw;subst e1;cases r;obtain⟨its,rv,ht,hz⟩:=I.tuple hq;refine assign_Tuple_tuple (I.ok.hd hc) ht (by simp[hn,<-hl,rv.length]) hst λh' hx=>?_
 have I1:av X af σ H { s with heap:=h' }:=I.kept (t':=s.toks) λb o e=>hx b o (Ve (U6 e)) e
 exact h af _ σ H xs _ Q I1 (by simpa using rv) hw
def Ti (to ti:TE)(t:Ph):TG:=λv σ H Q=>to σ H λo H1=>ti σ H1 λi H2=>t o i v H2 λH3=>Q σ H3
theorem F5 {o i:Expr}{to ti:TE}{t:Ph}(ho:PE X o to)(hi:PE X i ti)(hs:Rw X t)
  (ha:∀v,assign (.Subscript o i pos) X.env v=(do
   let ov <-holding [v] (eval o X.env)
   let iv <-holding [v,ov] (eval i X.env)
   standAt pos
   holding [v,ov,iv] (setItem ov iv v)
   release [v,ov,iv] []):=by intro _;rfl):PG X (.Subscript o i pos) (Ti to ti t):=by
 intro af s σ H v u Q I r h;rw[ha];refine UX (wpAny_holding (thn (ho af s σ H _ I h) λov s1 ⟨x,H1,I1,r1,q1⟩=>?_))
 refine UX (wpAny_holding (thn (hi af s1 σ H1 _ I1 q1) λiv s2 ⟨y,H2,I2,r2,q2⟩=>?_))
 refine UX (wpAny_standAt (UX (wpAny_holding (thn (hs af s2 σ H2 x y v ov iv u _ I2 r1 r2 r q2) λ_ s3 ⟨H3,I3,q3⟩=>?_))))
 exact wpAny_release ⟨σ,H3,I3,q3⟩
def Jq (te:TE)(g:TG):TS:=λD σ H=>te σ H λx H1=>g x σ H1 D.nx
theorem rZ {tg e:Expr}{te:TE}{g:TG}(he:PE X e te)(hg:PG X tg g)(hs:swapsWithSole [tg] e pos.line X.env=pure false:=by rfl)(hw:swappedStores [tg] e X.env=pure none:=by rfl)
  (h1:(assignEach [tg] X.env).map (·.2)=[assign tg X.env]:=by rfl):PS X (.Assign [tg] e pos) (Jq te g):=by
 intro af s σ H D I h;refine wpAny_Assign_stores (thn (he af s σ H _ I h) λv s1 ⟨x,H1,I1,r1,q1⟩=>?_) hs hw
 rw[h1];exact thn (hg af s1 σ H1 x v _ I1 r1 q1) λ_ s2 q=>q
theorem F6 {i:Nat}{x:Str}{e:Expr}{te:TE}{pos':Pos}(hN:X.N.Nodup)(hi:X.N[i]?=some x)(hx:Loc X.env.scope x)(he:PE X e te)(hs:swapsWith e (some (.Name x pos')) pos.line X.env=pure false:=by rfl)(hf:X.fn x=true\/X.env.scope.names.lookup x=some .local:=by first | exact .inl rfl | exact .inr rfl | assumption) :
  PS X (.Assign [.Name x pos'] e pos) (Jq te (cZ i)):=by
 intro af s σ H D I h;refine wpAny_Assign_Name (thn (he af s σ H _ I h) λv s1 ⟨y,H1,I1,r1,q1⟩=>?_) hs
 exact tE I1 hN hi hx r1 (λs2 I2=>⟨_,H1,I2,q1⟩) hf
end
structure It where
 go:Nat->Hp->Prop
 yld:Nat->Hp->V->Hp->Prop
 stop:Nat->Hp->Prop
def uZ (X:Cx)(af:List (Addr×Obj))(H:Hp)(b:Addr):Prop :=
 H b=none/\b≠X.env.locals/\b∉X.fs/\(b∈X.ex\/X.s₀.heap.objs.size<=b)/\(∀x c,X.env.cells.lookup x=some c->c≠b)/\∀p∈X.pn++af,p.1≠b
theorem av.F7 {X:Cx}{af:List (Addr×Obj)}{σ:St}{H H':Hp}{s:Shared}{b:Addr}(I:av X af σ H s)(hb:s.heap.objs.size<=b)(hn:H' b=none):uZ X af H' b:=by
 refine⟨hn,Nat.ne_of_gt (Va I.lt hb),I.S9 hb,.inr (Vc I.sz hb),λx c e z=>?_,λp hp z=>?_⟩
 ·obtain⟨v,q⟩:=I.cell x c e;exact absurd (Va q.lt (by rw[z];exact hb)) (Nat.lt_irrefl _)
 exact absurd (Va (U6 (I.pin p hp).1) (by rw[z];exact hb)) (Nat.lt_irrefl _)
structure Turn (P:wt)(w:World)(K:de)(tg:Expr)(J:It)(fp:List Addr)(it:Addr)(tn:Nat->Heap->Prop):Prop where
 mem:it∈fp
 obj:∀i h,tn i h->∀b∈fp,∃o,h.get? b=some o/\∀v,o.data≠.cell v
 keep:∀i h h',tn i h->(∀b∈fp,∀o,h.get? b=some o->h'.get? b=some o)->tn i h'
 item:∀(X:Cx),X.prog=P->X.w=w->X.K=K->X.calm=true->∀(i:Nat) (af:List (Addr×Obj)) (s:Shared) (σ:St) (H:Hp) (E:Value->Shared->Prop),av X af σ H s->(∀b∈fp,uZ X af H b)->tn i s.heap->J.go i H ->
  wpAny (model P w) X.A (pyNext (.ref it)) (λr s1=>∃u,r=some u /\
   wpAny (model P w) X.A (letOwnedTupleGo tg (.ref it) u) (λ_ s2=>∃x H',av X af σ H' s2/\bE x u/\J.yld i H x H'/\tn (i+1) s2.heap/\∀b∈fp,H' b=none) E s1) E s
 done:∀(X:Cx),X.prog=P->X.w=w->X.K=K->X.calm=true->∀(i:Nat) (af:List (Addr×Obj)) (s:Shared) (σ:St) (H:Hp) (E:Value->Shared->Prop),av X af σ H s->(∀b∈fp,uZ X af H b)->tn i s.heap->J.stop i H ->
  wpAny (model P w) X.A (pyNext (.ref it)) (λr s1=>r=none/\av X af σ H s1) E s
 self:∀(A:Around) (i:Nat) (s:Shared) (Q:Value->Shared->Prop) (E:Value->Shared->Prop),tn i s.heap->Q (.ref it) s->wpAny (model P w) A (pyIter (.ref it)) Q E s
abbrev TI:=St->Hp->(It->Hp->Prop)->Prop
def PIE (X:Cx)(af:List (Addr×Obj))(σ:St)(tg:Expr)(R:It->Hp->Prop)(itv:Value)(s2:Shared):Prop :=
 ∃(it:Addr) (fp:List Addr) (tn:Nat->Heap->Prop) (J:It) (H':Hp),itv=.ref it/\av X af σ H' s2/\Turn X.prog X.w X.K tg J fp it tn/\tn 0 s2.heap/\(∀b∈fp,uZ X af H' b)/\R J H'
def PI (X:Cx)(tg iter:Expr)(wi:TI):Prop :=
 ∀(af:List (Addr×Obj)) (s:Shared) (σ:St) (H:Hp) (R:It->Hp->Prop),av X af σ H s->wi σ H R ->
  wpAny (model X.prog X.w) X.A (eval iter X.env) (λv s1=>wpAny (model X.prog X.w) X.A (pyIter v) (PIE X af σ tg R) X.xe s1) X.xe s
theorem A1 {M:Model}{A:Around}{E:Value->Shared->Prop}{s:Shared}{tg:Expr}{it:Addr}{u:Value}{o:Obj}{n:String}{vs:Array Value}{Q:Unit->Shared->Prop}(ho:s.heap.get? it=some o)(hc:o.cls=.type n)(hd:o.data=.fields vs)
    (hn:["enumerate","zip","dict_itemiterator","dict_reverseitemiterator","odict_iterator","itertools.zip_longest","itertools.pairwise"].contains n=false) (hQ:Q () s):wpAny M A (letOwnedTupleGo tg (.ref it) u) Q E s:=by
  unfold letOwnedTupleGo
  cases tg <;> first
    |exact Vd hQ
    | (cases u <;> first
        |exact Vd hQ
        | (refine UX (wpAny_load ho ?_)
           rw[hc,hd]
           show wpAny M A (if (["enumerate","zip","dict_itemiterator","dict_reverseitemiterator","odict_iterator","itertools.zip_longest","itertools.pairwise"].contains n && vs[0]? == some (rawInt _))=true then _ else _) Q E s
           rw[aZ (by intro h;rw[hn,Bool.false_and]at h;cases h)]
           exact Vd hQ))
noncomputable def Itl (K:de)(a:Addr):It :=
 ⟨λi H=>∃xs x,ay K H a xs/\xs[i]?=some x,λi H x H'=>H'=H/\∀xs,ay K H a xs->xs[i]?=some x,λi H=>∃xs,ay K H a xs/\xs.length<=i⟩
noncomputable def Itt (K:de)(a:Addr):It :=
 ⟨λi H=>∃xs x,aW K H a xs/\xs[i]?=some x,λi H x H'=>H'=H/\∀xs,aW K H a xs->xs[i]?=some x,λi H=>∃xs,aW K H a xs/\xs.length<=i⟩
noncomputable def Itr (lo:Int)(n:Nat):It:=⟨λi _=>i < n,λi H x H'=>H'=H/\x=.int (lo+i),λi _=>n<=i⟩
theorem Jr {P:wt}{w:World}{K:de}{tg:Expr}(a it:Addr):Turn P w K tg (Itl K a) [it] it (λi h=>h.IsListIter it a i) where
 mem:=by simp
 obj:=λi h st b hb=>by
  have e:b=it:=by simpa using hb
  subst e;obtain⟨o,e,c,d⟩:=st;exact⟨o,e,λv z=>by rw[d]at z;cases z⟩
 keep:=λi h h' st k=>st.at λo e=>k it (by simp) o e
 item:=by
  intro X hP hw hK hc i af s σ H E I hf st hg;subst hP hw hK;obtain⟨xs,x,hq,hx⟩:=hg;obtain⟨its,rv,p,hz⟩:=I.list hq;obtain⟨u,hu,ru⟩:=rv.get hx;obtain⟨f0,f1,f2,f3,f4,f5⟩:=hf it (by simp)
  refine wpAny_pyNext_list_item st p.isList (x:=u) (by simpa using hu) λh' st' sb=>?_
  have I1:av X af σ H { s with heap:=h' }:=I.turned (t':=s.toks) (λb o hb e=>(sb.2 b hb).trans e) f0 f1 f3 f4 f5
  obtain⟨o,e,c,d⟩:=id st';exact⟨u,rfl,A1 (s:={ s with heap:=h' }) e c d (by decide) ⟨x,H,I1,ru,⟨rfl,λys hy=>by rw[I.DX hy hq];exact hx⟩,st',λb hb=>(hf b hb).1⟩⟩
 done:=by
  intro X hP hw hK hc i af s σ H E I hf st hg;subst hP hw hK;obtain⟨xs,hq,hx⟩:=hg;obtain⟨its,rv,p,hz⟩:=I.list hq;obtain⟨f0,f1,f2,f3,f4,f5⟩:=hf it (by simp)
  have hl:=rv.length;exact wpAny_pyNext_list_end (I.ok.hd hc) st p.isList (by simp;omega) λh' eb=>⟨rfl,I.turned (t':=s.toks) (λb o hb e=>eb b o hb e) f0 f1 f3 f4 f5⟩
 self:=λ_ _ _ _ _ st h=>wpAny_pyIter_listiter st h
theorem F8 {P:wt}{w:World}{K:de}{tg:Expr}(a it:Addr):Turn P w K tg (Itt K a) [it] it (λi h=>h.IsTupleIter it a i) where
 mem:=by simp
 obj:=λi h st b hb=>by
  have e:b=it:=by simpa using hb
  subst e;obtain⟨o,e,c,d⟩:=st;exact⟨o,e,λv z=>by rw[d]at z;cases z⟩
 keep:=λi h h' st k=>st.at λo e=>k it (by simp) o e
 item:=by
  intro X hP hw hK hc i af s σ H E I hf st hg;subst hP hw hK;obtain⟨xs,x,hq,hx⟩:=hg;obtain⟨its,rv,p,hz⟩:=I.tuple hq;obtain⟨u,hu,ru⟩:=rv.get hx;obtain⟨f0,f1,f2,f3,f4,f5⟩:=hf it (by simp)
  refine wpAny_pyNext_tuple_item st (show s.heap.IsTuple a its.toArray from p) (x:=u) (by simpa using hu) λh' st' sb=>?_
  have I1:av X af σ H { s with heap:=h' }:=I.turned (t':=s.toks) (λb o hb e=>(sb.2 b hb).trans e) f0 f1 f3 f4 f5
  obtain⟨o,e,c,d⟩:=id st';exact⟨u,rfl,A1 (s:={ s with heap:=h' }) e c d (by decide) ⟨x,H,I1,ru,⟨rfl,λys hy=>by rw[I.Jp hy hq];exact hx⟩,st',λb hb=>(hf b hb).1⟩⟩
 done:=by
  intro X hP hw hK hc i af s σ H E I hf st hg;subst hP hw hK;obtain⟨xs,hq,hx⟩:=hg;obtain⟨its,rv,p,hz⟩:=I.tuple hq;obtain⟨f0,f1,f2,f3,f4,f5⟩:=hf it (by simp)
  have hl:=rv.length;exact wpAny_pyNext_tuple_end (I.ok.hd hc) st (show s.heap.IsTuple a its.toArray from p) (by simp;omega) λh' eb=>⟨rfl,I.turned (t':=s.toks) (λb o hb e=>eb b o hb e) f0 f1 f3 f4 f5⟩
 self:=λ_ _ _ _ _ st h=>wpAny_pyIter_tupleiter st h
theorem F9 {P:wt}{w:World}{K:de}{tg:Expr}(it:Addr)(lo:Int)(n:Nat):Turn P w K tg (Itr lo n) [it] it (λi h=>IsRangeIter h it (lo+(i:Nat) * 1) ((n:Int) - (i:Nat)) 1) where
 mem:=by simp
 obj:=λi h st b hb=>by
  have e:b=it:=by simpa using hb
  subst e;exact⟨_,st,λv z=>by
   have z':Data.fields _=Data.cell v:=z;cases z'⟩
 keep:=λi h h' st k=>k it (by simp) _ st
 item:=by
  intro X hP hw hK hc i af s σ H E I hf st hg;subst hP hw hK;obtain⟨f0,f1,f2,f3,f4,f5⟩:=hf it (by simp)
  have W:=Walks.range (prog:=X.prog) (w:=X.w) (I.ok.hd hc) it lo 1 n;refine W.item i s _ _ hg st λv h' tk hv st' kk=>?_
  obtain⟨t,rfl⟩:=hv;have I1:av X af σ H { s with heap:=h',toks:=tk }:=I.turned (λb o hb e=>kk b o (by simpa using hb) e) f0 f1 f3 f4 f5
  refine⟨_,rfl,A1 (s:={ s with heap:=h',toks:=tk }) (n:="range_iterator") st' rfl rfl (by decide) ⟨.int (lo+i),H,I1,⟨t,?_⟩,⟨rfl,rfl⟩,st',λb hb=>(hf b hb).1⟩⟩
  rw[Int.mul_one]
 done:=by
  intro X hP hw hK hc i af s σ H E I hf st hg;subst hP hw hK;obtain⟨f0,f1,f2,f3,f4,f5⟩:=hf it (by simp)
  exact wpAny_pyNext_range_end (I.ok.hd hc) st (by have:n<=i:=hg;omega) λh' eb=>⟨rfl,I.turned (t':=s.toks) (λb o hb e=>eb b o hb e) f0 f1 f3 f4 f5⟩
 self:=λ_ _ _ _ _ st h=>wpAny_pyIter_rangeiter st h
section
variable{X:Cx}{tg:Expr}
def Rz (K:de)(tl:TE):TI:=λσ H R=>tl σ H λx H1=>∃a,x=.ref a/\(∃xs,ay K H1 a xs)/\R (Itl K a) H1
def Tj (K:de)(tl:TE):TI:=λσ H R=>tl σ H λx H1=>∃a,x=.ref a/\(∃xs,aW K H1 a xs)/\R (Itt K a) H1
theorem eW {l:Expr}{tl:TE}(hl:PE X l tl):PI X tg l (Rz X.K tl):=by
 intro af s σ H R I h;refine thn (hl af s σ H _ I h) λv s1 ⟨x,H1,I1,r1,q1⟩=>?_
 obtain⟨a,e,⟨xs,hq⟩,q⟩:=q1;subst e;cases r1;obtain⟨its,rv,p,hz⟩:=I1.list hq;refine wpAny_pyIter_list p.isList ?_;refine⟨s1.heap.objs.size,[s1.heap.objs.size],_,_,H1,rfl,I1.kept (t':=s1.toks) λb o e=>me _ e,Jr a _,⟨_,U9 _ rfl,rfl,rfl⟩,λb hb=>?_,q⟩
 have e:b=s1.heap.objs.size:=by simpa using hb
 subst e;exact I1.F7 (mv _) (I1.hok.fresh (mv _))
theorem Ke {l:Expr}{tl:TE}(hl:PE X l tl):PI X tg l (Tj X.K tl):=by
 intro af s σ H R I h;refine thn (hl af s σ H _ I h) λv s1 ⟨x,H1,I1,r1,q1⟩=>?_
 obtain⟨a,e,⟨xs,hq⟩,q⟩:=q1;subst e;cases r1;obtain⟨its,rv,p,hz⟩:=I1.tuple hq;refine wpAny_pyIter_tuple (show s1.heap.IsTuple a its.toArray from p) ?_
 refine⟨s1.heap.objs.size,[s1.heap.objs.size],_,_,H1,rfl,I1.kept (t':=s1.toks) λb o e=>me _ e,F8 a _,⟨_,U9 _ rfl,rfl,rfl⟩,λb hb=>?_,q⟩
 have e:b=s1.heap.objs.size:=by simpa using hb
 subst e;exact I1.F7 (mv _) (I1.hok.fresh (mv _))
theorem Kf {af:List (Addr×Obj)}{σ:St}{H:Hp}{s:Shared}{R:It->Hp->Prop}{E:Value->Shared->Prop}{lo hi:Int}{t u v:Tok}{tk:Nat}(I:av X af σ H s)(h1:-(2 ^ 62)<=lo)(h2:lo < 2 ^ 62)(h3:-(2 ^ 62)<=hi)(h4:hi < 2 ^ 62)
  (q:R (Itr lo (hi - lo).toNat) H):wpAny (model X.prog X.w) X.A (pyIter (.ref s.heap.objs.size)) (PIE X af σ tg R) E { s with heap:=s.heap.push { cls:=.type "range",data:=.fields #[.int lo t,.int hi u,.int 1 v] },toks:=tk }:=by
 refine wpAny_pyIter_range (IsRange.new ..) (small_one h1 h2 h3 h4) ?_;have I1:av X af σ H { s with heap:=s.heap.push { cls:=.type "range",data:=.fields #[.int lo t,.int hi u,.int 1 v] },toks:=tk }:=I.kept λb o e=>me _ e
 refine⟨(s.heap.push { cls:=.type "range",data:=.fields #[.int lo t,.int hi u,.int 1 v] }).objs.size,[(s.heap.push { cls:=.type "range",data:=.fields #[.int lo t,.int hi u,.int 1 v] }).objs.size],_,_,H,rfl,
  I1.kept (t':=tk) λb o e=>me _ e,F9 _ lo (hi - lo).toNat,?_,λb hb=>?_,q⟩
 ·have e1:lo+((0:Nat):Int) * 1=lo:=by simp
  have e2:(((hi - lo).toNat:Nat):Int) - ((0:Nat):Int)=Builtin.Range.rangeSize lo hi 1:=by rw[rangeSize_one];split <;> omega
  show IsRangeIter _ _ (lo+((0:Nat):Int) * 1) ((((hi - lo).toNat:Nat):Int) - ((0:Nat):Int)) 1;rw[e1,e2];exact U9 _ rfl
 have e:b=(s.heap.push { cls:=.type "range",data:=.fields #[.int lo t,.int hi u,.int 1 v] }).objs.size:=by simpa using hb
 subst e;exact I1.F7 (mv _) (I1.hok.fresh (mv _))
def RA (ta:TA):TI:=λσ H R=>ta σ H λvs H1=>∃j:Int,vs=[.int j]/\-(2 ^ 62)<=j/\j < 2 ^ 62/\R (Itr 0 j.toNat) H1
theorem jT {a:Expr}{ta:TA}{p pos:Pos}(hg:Gl X "range")(hm:X.mg "range"=none)(ha:PA X [a] ta)(hs:Vn [a] X.env=[(false,eval a X.env)]:=by rfl):PI X tg (.Call (.Name "range" p) [a] [] pos) (RA ta):=by
 intro af s σ H R I h;refine Call_ (CB I hg hm boot_range (PyProof.Rows.callWith_type1 (thn (ha pos af s σ H _ I h) λus s1 ⟨vs,H1,I1,r1,q1⟩=>?_) hs rfl))
 obtain⟨j,e,q1,q2,q⟩:=q1;subst e;cases r1 with
 |cons r rr =>
  cases rr;obtain⟨t,rfl⟩:=r;exact call_range_1 (Kf I1 (by omega) (by omega) q1 q2 (by simpa using q))
def Tl (wi:TI)(g:TG)(tb:TS):TS:=λD σ H=>wi σ H λJ H1=>∃W:Nat->Nat->St->Hp->Prop,(∃m,W 0 m σ H1)/\∀i m σ H,W i m σ H ->
 (J.stop i H/\D.nx σ H)\/(J.go i H/\∃N:St->Hp->Prop,(∀σ' H',N σ' H'->∃m',m' < m/\W (i+1) m' σ' H')/\∀x H',J.yld i H x H'->g x σ H' λσ2 H2=>tb { D with nx:=N,ct:=N,bk:=D.nx } σ2 H2)
noncomputable def CD (fp:List Addr)(h:Heap):List (Addr×Obj):=fp.filterMap λb=>(h.get? b).map λo=>(b,o)
theorem mV {fp:List Addr}{h:Heap}{b:Addr}{o:Obj}(hb:b∈fp)(e:h.get? b=some o):(b,o)∈CD fp h:=List.mem_filterMap.mpr ⟨b,hb,by rw[e];rfl⟩
theorem Js {fp:List Addr}{h:Heap}{p:Addr×Obj}(hp:p∈CD fp h):p.1∈fp/\h.get? p.1=some p.2:=by
 obtain⟨b,hb,e⟩:=List.mem_filterMap.mp hp;cases q:h.get? b with
 |none=>rw[q]at e;cases e
 |some o =>
  rw[q]at e;have e':(b,o)=p:=US e;subst e';exact⟨hb,q⟩
theorem av.pinned {af:List (Addr×Obj)}{σ:St}{H:Hp}{s:Shared}{fp:List Addr}(I:av X af σ H s)(hf:∀b∈fp,uZ X af H b)(ho:∀b∈fp,∃o,s.heap.get? b=some o/\∀v,o.data≠.cell v):av X (af++CD fp s.heap) σ H s :=
 I.CA λp hp=>(List.mem_append.mp hp).elim (λz=>I.pin p (U1 _ z)) λz=>by
  obtain⟨hb,e⟩:=Js z;obtain⟨f0,f1,f2,_⟩:=hf p.1 hb;obtain⟨o,e',d⟩:=ho p.1 hb;rw[e]at e';cases e';exact⟨e,f0,f1,f2,d⟩
theorem av.lQ {af pl:List (Addr×Obj)}{σ:St}{H:Hp}{s:Shared}(I:av X (af++pl) σ H s):av X af σ H s:=I.CA λp hp=>I.pin p (U1 _ (VD _ hp))
theorem gN {iter:Expr}{body:List Stmt}{wi:TI}{g:TG}{tb:TS}{pos:Pos}(hp:PassesOwn (model X.prog X.w) X.A X.env X.xe)(hc:X.calm=true)(hi:PI X tg iter wi)(hg:PG X tg g)(hb:PSs X body tb)
  (hs:∀x,foldedSetIterable iter X.env x=pure x:=by intro _;rfl):PS X (.For tg iter body [] pos) (Tl wi g tb):=by
 intro af s σ H D I h;refine wpAny_For (thn (hi af s σ H _ I h) λv s1 h1=>thn h1 λitv s2 h2=>?_) hs
 obtain⟨it,fp,tn,J,H2,e,I2,T,st2,f2,W,⟨m0,w0⟩,turn⟩:=h2;subst e;have stat:∀ {H':Hp},(∀b∈fp,H' b=none)->∀b∈fp,uZ X af H' b:=λhn b hb=>⟨hn b hb,(f2 b hb).2⟩
 refine codeAny_forLoop_any (λn s'=>∃i σ' H',av X af σ' H' s'/\tn i s'.heap/\(∀b∈fp,H' b=none)/\W i n σ' H') ?_ m0 ⟨0,σ,H2,I2,st2,λb hb=>(f2 b hb).1,w0⟩
 rintro n s3 ⟨i,σ3,H3,I3,st3,fr3,w3⟩;rcases turn i n σ3 H3 w3 with ⟨stop,qn⟩ | ⟨go,N,hN,step⟩
 ·refine wpAny_passesOwn hp (thn (T.done X rfl rfl rfl hc i af s3 σ3 H3 X.xe I3 (stat fr3) st3 stop) λr s4 ⟨hr,I4⟩=>?_)
  subst hr;exact wpAny_execs_nil ⟨σ3,H3,I4,qn⟩
 refine wpAny_passesOwn hp (thn (T.item X rfl rfl rfl hc i af s3 σ3 H3 X.xe I3 (stat fr3) st3 go) λr s4 ⟨u,hr,h4⟩=>?_)
 subst hr;refine wpAny_passesOwn hp (thn h4 λ_ s5 ⟨x,H5,I5,r5,y5,st5,fr5⟩=>?_)
 have I5':=I5.pinned (stat fr5) (T.obj _ _ st5);refine wpAny_passesOwn hp (thn (hg _ s5 σ3 H5 x u _ I5' r5 (step x H5 y5)) λ_ s6 ⟨σ6,H6,I6,q6⟩=>?_)
 refine wpAny_passesOwn hp (thn (hb _ s6 σ6 H6 _ I6 q6) λf s7 q7=>?_)
 have again:∀ {σ7:St} {H7:Hp},av X (af++CD fp s5.heap) σ7 H7 s7->N σ7 H7->∃m,m < n/\∃i σ' H',av X af σ' H' s7/\tn i s7.heap/\(∀b∈fp,H' b=none)/\W i m σ' H':=λ{σ7 H7} I7 n7=>by
  obtain⟨m',hm,w7⟩:=hN σ7 H7 n7;refine⟨m',hm,i+1,σ7,H7,I7.lQ,T.keep _ _ _ st5 λb hb o e=>(I7.pin (b,o) (U1 _ (U1 _ (mV hb e)))).1,λb hb=>?_,w7⟩
  obtain⟨o,e,d⟩:=T.obj _ _ st5 b hb;exact(I7.pin (b,o) (U1 _ (U1 _ (mV hb e)))).2.1
 cases f with
 |next=>obtain⟨σ7,H7,I7,n7⟩:=q7;exact again I7 n7
 |cont=>obtain⟨σ7,H7,I7,n7⟩:=q7;exact again I7 n7
 |brk=>obtain⟨σ7,H7,I7,q7⟩:=q7;exact⟨σ7,H7,I7.lQ,q7⟩
 |ret v=>obtain⟨x7,σ7,H7,I7,r7,q7⟩:=q7;exact⟨x7,σ7,H7,I7.lQ,r7,q7⟩
end
theorem pe {K:de}{a:Addr}{xs:List V}{g:TG}{tb:TS}{D:Ends}{σ:St}{H:Hp}(Pv:Nat->St->Hp->Prop)(h0:Pv 0 σ H)(hl:∀i σ H,i<=xs.length->Pv i σ H->ay K H a xs)
  (hs:∀i x σ H,xs[i]?=some x->Pv i σ H->g x σ H λσ2 H2=>tb { D with nx:=Pv (i+1),ct:=Pv (i+1),bk:=D.nx } σ2 H2) (hd:∀σ H,Pv xs.length σ H->D.nx σ H) :
  ∃W:Nat->Nat->St->Hp->Prop,(∃m,W 0 m σ H)/\∀i m σ H,W i m σ H ->
   ((Itl K a).stop i H/\D.nx σ H)\/((Itl K a).go i H/\∃N:St->Hp->Prop,(∀σ' H',N σ' H'->∃m',m' < m/\W (i+1) m' σ' H')/\∀x H',(Itl K a).yld i H x H'->g x σ H' λσ2 H2=>tb { D with nx:=N,ct:=N,bk:=D.nx } σ2 H2):=by
 refine⟨λi m σ H=>m=xs.length - i/\i<=xs.length/\Pv i σ H,⟨xs.length,by simp,Vl _,h0⟩,?_⟩
 rintro i m σ H ⟨rfl,hi,p⟩;have q:=hl i σ H hi p
 by_cases hlt:i < xs.length
 ·refine .inr ⟨⟨xs,xs[i],q,by simp[hlt]⟩,Pv (i+1),λσ' H' p'=>⟨xs.length - (i+1),by omega,rfl,hlt,p'⟩,λx H' y=>?_⟩
  obtain⟨e,y⟩:=y;subst e;exact hs i x σ _ (y xs q) p
 have e:i=xs.length:=by omega
 subst e;exact .inl ⟨⟨xs,q,mv _⟩,hd σ H p⟩
theorem qD {lo:Int}{n:Nat}{g:TG}{tb:TS}{D:Ends}{σ:St}{H:Hp}(Pv:Nat->St->Hp->Prop)(h0:Pv 0 σ H)
  (hs:∀i σ H,i < n->Pv i σ H->g (.int (lo+i)) σ H λσ2 H2=>tb { D with nx:=Pv (i+1),ct:=Pv (i+1),bk:=D.nx } σ2 H2) (hd:∀σ H,Pv n σ H->D.nx σ H) :
  ∃W:Nat->Nat->St->Hp->Prop,(∃m,W 0 m σ H)/\∀i m σ H,W i m σ H ->
   ((Itr lo n).stop i H/\D.nx σ H)\/((Itr lo n).go i H/\∃N:St->Hp->Prop,(∀σ' H',N σ' H'->∃m',m' < m/\W (i+1) m' σ' H')/\∀x H',(Itr lo n).yld i H x H'->g x σ H' λσ2 H2=>tb { D with nx:=N,ct:=N,bk:=D.nx } σ2 H2):=by
 refine⟨λi m σ H=>m=n - i/\i<=n/\Pv i σ H,⟨n,by simp,Vl _,h0⟩,?_⟩
 rintro i m σ H ⟨rfl,hi,p⟩
 by_cases hlt:i < n
 ·refine .inr ⟨hlt,Pv (i+1),λσ' H' p'=>⟨n - (i+1),by omega,rfl,hlt,p'⟩,λx H' y=>?_⟩
  obtain⟨e,y⟩:=y;subst e y;exact hs i σ _ hlt p
 have e:i=n:=by omega
 subst e;exact .inl ⟨mv _,hd σ H p⟩
abbrev R2:=V->V->Hp->VK->Prop
def OpR (X:Cx)(f:Value->Value->Sem Value)(r:R2):Prop :=
 ∀(af:List (Addr×Obj)) (s:Shared) (σ:St) (H:Hp) (x y:V) (v u:Value) (Q:VK),av X af σ H s->bE x v->bE y u->r x y H Q ->
  wpAny (model X.prog X.w) X.A (f v u) (EP X af σ Q) X.xe s
def UnR (X:Cx)(f:Value->Sem Value)(r:V->Hp->VK->Prop):Prop :=
 ∀(af:List (Addr×Obj)) (s:Shared) (σ:St) (H:Hp) (x:V) (v:Value) (Q:VK),av X af σ H s->bE x v->r x H Q ->
  wpAny (model X.prog X.w) X.A (f v) (EP X af σ Q) X.xe s
def j3 (X:Cx)(f:Value)(r:List V->Hp->VK->Prop):Prop :=
 ∀(af:List (Addr×Obj)) (s:Shared) (σ:St) (H:Hp) (xs:List V) (us:List Value) (Q:VK),av X af σ H s->bg xs us->r xs H Q ->
  wpAny (model X.prog X.w) X.A (call f us) (EP X af σ Q) X.xe s
def Tn (X:Cx)(r:V->Hp->(Bool->Hp->Prop)->Prop):Prop :=
 ∀(af:List (Addr×Obj)) (s:Shared) (σ:St) (H:Hp) (x:V) (v:Value) (Q:Bool->Hp->Prop),av X af σ H s->bE x v->r x H Q ->
  wpAny (model X.prog X.w) X.A (truthy v) (TP X af σ Q) X.xe s
def tOp (r:R2)(ta tb:TE):TE:=λσ H Q=>ta σ H λx H1=>tb σ H1 λy H2=>r x y H2 Q
def tUn (r:V->Hp->VK->Prop)(ta:TE):TE:=λσ H Q=>ta σ H λx H1=>r x H1 Q
def rI (C:Int->Int->Prop)(g:Int->Int->V):R2:=λx y H Q=>∃i j,x=.int i/\y=.int j/\C i j/\Q (g i j) H
def rI0 (g:Int->Int->V):R2:=λx y H Q=>∃i j,x=.int i/\y=.int j/\Q (g i j) H
def rU (g:Int->V):V->Hp->VK->Prop:=λx H Q=>∃i,x=.int i/\Q (g i) H
section
variable{X:Cx}{a b c:Expr}{ta tb tc:TE}{pos:Pos}
theorem Pj (ha:PE X a ta)(hb:PE X b tb){af:List (Addr×Obj)}{s:Shared}{σ:St}{H:Hp}{R:V->V->Hp->Prop}(I:av X af σ H s)
  (h:ta σ H λx H1=>tb σ H1 λy H2=>R x y H2) {Q:Value->Shared->Prop} {f:Value->Value->Sem Value}
  (hf:∀v u s2 x y H2,av X af σ H2 s2->bE x v->bE y u->R x y H2->wpAny (model X.prog X.w) X.A (f v u) Q X.xe s2) :
  wpAny (model X.prog X.w) X.A (eval a X.env) (λv s₁=>wpAny (model X.prog X.w) X.A (eval b X.env) (λu s₂=>wpAny (model X.prog X.w) X.A (f v u) Q X.xe s₂) X.xe s₁) X.xe s:=by
 refine thn (ha af s σ H _ I h) λv s1 ⟨x,H1,I1,r1,q1⟩=>?_
 refine thn (hb af s1 σ H1 _ I1 q1) λu s2 ⟨y,H2,I2,r2,q2⟩=>?_
 exact hf v u s2 x y H2 I2 r1 r2 q2
theorem bb {op:Operator}{r:R2}(ho:OpR X (WD op) r)(ha:PE X a ta)(hb:PE X b tb):PE X (.BinOp a op b pos) (tOp r ta tb):=by
 intro af s σ H Q I h;exact wpAny_BinOp (Pj ha hb I h λv u s2 x y H2 I2 rx ry q=>ho af s2 σ H2 x y v u Q I2 rx ry q)
theorem kQ {op:UnaryOp}{r:V->Hp->VK->Prop}(ho:UnR X (unaryOp op) r)(ha:PE X a ta):PE X (.UnaryOp op a pos) (tUn r ta):=by
 intro af s σ H Q I h;exact UnaryOp_ (thn (ha af s σ H _ I h) λv s1 ⟨x,H1,I1,r1,q1⟩=>ho af s1 σ H1 x v Q I1 r1 q1)
theorem opI {f:Value->Value->Sem Value}{C:Int->Int->Prop}{g:Int->Int->Int}
  (rule:∀(i j:Int) (t u:Tok) (s:Shared) (Q:Value->Shared->Prop) (E:Value->Shared->Prop),C i j->Q (.int (g i j) s.toks) { s with toks:=s.toks+1 }->wpAny (model X.prog X.w) X.A (f (.int i t) (.int j u)) Q E s) :
  OpR X f (rI C λi j=>.int (g i j)):=by
 intro af s σ H x y v u Q I rx ry h;obtain⟨i,j,rfl,rfl,hc,q⟩:=h;obtain⟨t,rfl⟩:=rx;obtain⟨t',rfl⟩:=ry;exact rule i j t t' s _ _ hc ⟨.int (g i j),H,I.tok _,⟨_,rfl⟩,q⟩
theorem RB {f:Value->Value->Sem Value}{g:Int->Int->Int}
  (rule:∀(i j:Int) (t u:Tok) (s:Shared) (Q:Value->Shared->Prop) (E:Value->Shared->Prop),Q (.int (g i j) s.toks) { s with toks:=s.toks+1 }->wpAny (model X.prog X.w) X.A (f (.int i t) (.int j u)) Q E s) :
  OpR X f (rI0 λi j=>.int (g i j)):=by
 intro af s σ H x y v u Q I rx ry h;obtain⟨i,j,rfl,rfl,q⟩:=h;obtain⟨t,rfl⟩:=rx;obtain⟨t',rfl⟩:=ry;exact rule i j t t' s _ _ ⟨.int (g i j),H,I.tok _,⟨_,rfl⟩,q⟩
theorem M6 {f:Value->Value->Sem Value}{g:Int->Int->Bool}
  (rule:∀(i j:Int) (t u:Tok) (s:Shared) (Q:Value->Shared->Prop) (E:Value->Shared->Prop),Q (.bool (g i j)) s->wpAny (model X.prog X.w) X.A (f (.int i t) (.int j u)) Q E s) :
  OpR X f (rI0 λi j=>.bl (g i j)):=by
 intro af s σ H x y v u Q I rx ry h;obtain⟨i,j,rfl,rfl,q⟩:=h;obtain⟨t,rfl⟩:=rx;obtain⟨t',rfl⟩:=ry;exact rule i j t t' s _ _ ⟨.bl (g i j),H,I,rfl,q⟩
def To (i j:Int):Prop:=0 < j/\j < 1073741824
def Tp (i j:Int):Prop:=0<=j/\j<=1000000/\i.natAbs < 2 ^ 64
def Pk (i j:Int):Prop:=(-(2 ^ 64) < i/\i < 2 ^ 64)\/(-(2 ^ 64) < j/\j < 2 ^ 64)
theorem Pk.ok {i j:Int}(h:Pk i j):IntMulOk i j:=by
 rcases h with ⟨h1,h2⟩ | ⟨h1,h2⟩
 ·exact .of_left (intBits_le_64 h1 h2)
 exact .of_right (intBits_le_64 h1 h2)
theorem cT:OpR X (WD .Add) (rI0 λi j=>.int (i+j)):=RB λ_ _ _ _ _ _ _ q=>add_int q
theorem jg:OpR X (WD .Sub) (rI0 λi j=>.int (i - j)):=RB λ_ _ _ _ _ _ _ q=>sub_int q
theorem r6:OpR X (WD .Mult) (rI Pk λi j=>.int (i * j)):=opI λ_ _ _ _ _ _ _ hc q=>mul_int q hc.ok
theorem cy:OpR X (WD .FloorDiv) (rI To λi j=>.int (i / j)):=opI λi j _ _ _ _ _ hc q=>by
 have h1:(0:Int) < j:=hc.1;have h2:j < 1073741824:=hc.2;exact floordiv_int (by omega) (by rw[Int.fdiv_eq_ediv_of_nonneg i (by omega)];exact q) (.inl (PyProof.noPylong_small (by omega)))
theorem bY:OpR X (WD .Mod) (rI (λ_ j=>0 < j) λi j=>.int (i % j)):=opI λi j _ _ _ _ _ hc q=>by
 have h1:(0:Int) < j:=hc;exact mod_int' (by omega) (by rw[Int.fmod_eq_emod_of_nonneg i (by omega)];exact q)
theorem Pl:OpR X (WD .Pow) (rI Tp λi j=>.int (i ^ j.toNat)):=opI λ_ _ _ _ _ _ _ hc q=>pow_int_small hc.1 hc.2.1 hc.2.2 q
theorem unI {f:Value->Sem Value}{g:Int->Int}
  (rule:∀(i:Int) (t:Tok) (s:Shared) (Q:Value->Shared->Prop) (E:Value->Shared->Prop),Q (.int (g i) s.toks) { s with toks:=s.toks+1 }->wpAny (model X.prog X.w) X.A (f (.int i t)) Q E s) :
  UnR X f (rU λi=>.int (g i)):=by
 intro af s σ H x v Q I rx h;obtain⟨i,rfl,q⟩:=h;obtain⟨t,rfl⟩:=rx;exact rule i t s _ _ ⟨.int (g i),H,I.tok _,⟨_,rfl⟩,q⟩
theorem gO:UnR X (unaryOp .USub) (rU λi=>.int (-i)):=unI λ_ _ _ _ _ q=>neg_int q
end
noncomputable def RC:V->V->Bool
 | .non,.non=>true | .non,.int _=>true | .int _,.non=>true | .non,.bl _=>true | .bl _,.non=>true | .non,.str _=>true | .str _,.non=>true
 | .int _,.int _=>true | .bl _,.bl _=>true | .str _,.str _=>true | .byt _,.byt _=>true
 | .int _,.str _=>true | .str _,.int _=>true | .bl _,.str _=>true | .str _,.bl _=>true
 |_,_=>false
def rEq:R2:=λx y H Q=>RC x y=true/\Q (.bl (decide (x=y))) H
def rNe:R2:=λx y H Q=>RC x y=true/\Q (.bl (!decide (x=y))) H
theorem HF {i j:Int}:decide (V.int i=V.int j)=(i == j):=by
 rw[Vw];simp
theorem Kg {i j:Bool}:decide (V.bl i=V.bl j)=(i == j):=by
 rw[Vw];simp
theorem HG {i j:Str}:decide (V.str i=V.str j)=(i == j):=by
 rw[Vw];simp
theorem HI {i j:Array UInt8}:decide (V.byt i=V.byt j)=(i.toList == j.toList):=by
 rw[Vw];cases i;cases j;simp
section
variable{X:Cx}{a b c:Expr}{ta tb tc:TE}{pos:Pos}
theorem cB {af:List (Addr×Obj)}{σ:St}{H:Hp}{s:Shared}{Q:VK}{k k':Bool}(I:av X af σ H s)(q:Q (.bl k) H)(e:k=k'):EP X af σ Q (.bool k') s:=by
 subst e;exact⟨.bl k,H,I,rfl,q⟩
theorem bz:OpR X (VP .Eq) rEq:=by
 intro af s σ H x y v u Q I rx ry h;obtain⟨hs,q⟩:=h;cases x with
 |non =>
  cases rx;cases y with
  |non=>cases ry;exact PySem.EqNone.eq_none_none (cB I q (by simp))
  |bl j=>cases ry;exact PySem.EqNone.eq_none_bool (cB I q (by simp))
  |int j=>obtain⟨t',rfl⟩:=ry;exact PySem.EqNone.eq_none_int (cB I q (by simp))
  |str j=>obtain⟨t',rfl⟩:=ry;exact PySem.EqNone.eq_none_str (cB I q (by simp))
  |_=>exact absurd (show false=true from hs) UW
 |bl i =>
  cases rx;cases y with
  |non=>cases ry;exact PySem.EqNone.eq_bool_none (cB I q (by simp))
  |bl j=>cases ry;exact eq_bool (cB I q Kg)
  |str j=>obtain⟨t',rfl⟩:=ry;exact PySem.EqMixed.eq_bool_str (cB I q (by simp))
  |_=>exact absurd (show false=true from hs) UW
 |int i =>
  obtain⟨t,rfl⟩:=rx;cases y with
  |non=>cases ry;exact PySem.EqNone.eq_int_none (cB I q (by simp))
  |int j=>obtain⟨t',rfl⟩:=ry;exact eq_int (cB I q HF)
  |str j=>obtain⟨t',rfl⟩:=ry;exact PySem.EqMixed.eq_int_str (cB I q (by simp))
  |_=>exact absurd (show false=true from hs) UW
 |str i =>
  obtain⟨t,rfl⟩:=rx;cases y with
  |non=>cases ry;exact PySem.EqNone.eq_str_none (cB I q (by simp))
  |bl j=>cases ry;exact PySem.EqMixed.eq_str_bool (cB I q (by simp))
  |int j=>obtain⟨t',rfl⟩:=ry;exact PySem.EqMixed.eq_str_int (cB I q (by simp))
  |str j=>obtain⟨t',rfl⟩:=ry;exact eq_str (cB I q HG)
  |_=>exact absurd (show false=true from hs) UW
 |byt i =>
  obtain⟨t,rfl⟩:=rx;cases y with
  |byt j=>obtain⟨t',rfl⟩:=ry;exact PySem.W.eq_bytes (cB I q HI)
  |_=>exact absurd (show false=true from hs) UW
 |_=>cases y <;> exact absurd (show false=true from hs) UW
theorem kR:OpR X (VP .NotEq) rNe:=by
 intro af s σ H x y v u Q I rx ry h;obtain⟨hs,q⟩:=h;cases x with
 |non =>
  cases rx;cases y with
  |non=>cases ry;exact PySem.EqNone.ne_none_none (cB I q (by simp))
  |bl j=>cases ry;exact PySem.EqNone.ne_none_bool (cB I q (by simp))
  |int j=>obtain⟨t',rfl⟩:=ry;exact PySem.EqNone.ne_none_int (cB I q (by simp))
  |str j=>obtain⟨t',rfl⟩:=ry;exact PySem.EqNone.ne_none_str (cB I q (by simp))
  |_=>exact absurd (show false=true from hs) UW
 |bl i =>
  cases rx;cases y with
  |non=>cases ry;exact PySem.EqNone.ne_bool_none (cB I q (by simp))
  |bl j=>cases ry;exact ne_bool (cB I q (congrArg not Kg))
  |str j=>obtain⟨t',rfl⟩:=ry;exact PySem.EqMixed.ne_bool_str (cB I q (by simp))
  |_=>exact absurd (show false=true from hs) UW
 |int i =>
  obtain⟨t,rfl⟩:=rx;cases y with
  |non=>cases ry;exact PySem.EqNone.ne_int_none (cB I q (by simp))
  |int j=>obtain⟨t',rfl⟩:=ry;exact ne_int (cB I q (congrArg not HF))
  |str j=>obtain⟨t',rfl⟩:=ry;exact PySem.EqMixed.ne_int_str (cB I q (by simp))
  |_=>exact absurd (show false=true from hs) UW
 |str i =>
  obtain⟨t,rfl⟩:=rx;cases y with
  |non=>cases ry;exact PySem.EqNone.ne_str_none (cB I q (by simp))
  |bl j=>cases ry;exact PySem.EqMixed.ne_str_bool (cB I q (by simp))
  |int j=>obtain⟨t',rfl⟩:=ry;exact PySem.EqMixed.ne_str_int (cB I q (by simp))
  |str j=>obtain⟨t',rfl⟩:=ry;exact ne_str (cB I q (congrArg not HG))
  |_=>exact absurd (show false=true from hs) UW
 |byt i =>
  obtain⟨t,rfl⟩:=rx;cases y with
  |byt j=>obtain⟨t',rfl⟩:=ry;exact PySem.W.ne_bytes (cB I q (congrArg not HI))
  |_=>exact absurd (show false=true from hs) UW
 |_=>cases y <;> exact absurd (show false=true from hs) UW
theorem oh:OpR X (VP .Lt) (rI0 λi j=>.bl (decide (i < j))):=M6 λ_ _ _ _ _ _ _ q=>lt_int q
theorem iU:OpR X (VP .LtE) (rI0 λi j=>.bl (decide (i<=j))):=M6 λ_ _ _ _ _ _ _ q=>le_int q
theorem A2:OpR X (VP .Gt) (rI0 λi j=>.bl (decide (j < i))):=M6 λ_ _ _ _ _ _ _ q=>gt_int q
theorem HJ:OpR X (VP .GtE) (rI0 λi j=>.bl (decide (j<=i))):=M6 λ_ _ _ _ _ _ _ q=>ge_int q
theorem Jt:OpR X (VP .In) (λx y H Q=>∃i j,x=.str i/\y=.str j/\Q (.bl (!(VQ j i 0 j.length 1).isEmpty)) H):=by
 intro af s σ H x y v u Q I rx ry h;obtain⟨i,j,rfl,rfl,q⟩:=h;obtain⟨t,rfl⟩:=rx;obtain⟨t',rfl⟩:=ry;exact in_str (cB I q rfl)
theorem Pm:OpR X (VP .Is) (λx y H Q=>y=.non/\Q (.bl (decide (x=.non))) H):=by
 intro af s σ H x y v u Q I rx ry h;obtain⟨rfl,q⟩:=h;cases ry;refine is_none_gen (cB I q ?_);cases x <;> first
  | (cases rx;rfl)
  | (obtain⟨t,rfl⟩:=rx;rfl)
theorem M7:OpR X (VP .IsNot) (λx y H Q=>y=.non/\Q (.bl (!decide (x=.non))) H):=by
 intro af s σ H x y v u Q I rx ry h;obtain⟨rfl,q⟩:=h;cases ry;refine isnot_none_gen (cB I q ?_);cases x <;> first
  | (cases rx;rfl)
  | (obtain⟨t,rfl⟩:=rx;rfl)
theorem aL (b:Expr){op:CmpOp}(h:op≠.In:=by decide)(h2:op≠.NotIn:=by decide):behindInMarks op b=false:=by
 have e1:(op == CmpOp.In)=false:=by cases op <;> first | rfl | exact absurd rfl h
 have e2:(op == CmpOp.NotIn)=false:=by cases op <;> first | rfl | exact absurd rfl h2
 cases b <;> simp[behindInMarks,e1,e2]
theorem b5 {op:CmpOp}{r:R2}(ho:OpR X (VP op) r)(ha:PE X a ta)(hb:PE X b tb)(hm:behindInMarks op b=false):PE X (.Compare a [op] [b] pos) (tOp r ta tb):=by
 intro af s σ H Q I h;exact wpAny_Compare1 (Pj ha hb I h λv u s2 x y H2 I2 rx ry q=>ho af s2 σ H2 x y v u Q I2 rx ry q) hm
def RD (t:TE):TT:=λσ H Q=>t σ H λx H'=>∃k,x=.bl k/\Q k H'
theorem aI {op:CmpOp}{r:R2}(ho:OpR X (VP op) r)(ha:PE X a ta)(hb:PE X b tb)(hm:behindInMarks op b=false):PT X (.Compare a [op] [b] pos) (RD (tOp r ta tb)):=by
 intro af s σ H Q I h;refine wpAny_isTrue_Compare1 (thn (ha af s σ H _ I h) λv s1 ⟨x,H1,I1,r1,q1⟩=>thn (hb af s1 σ H1 _ I1 q1) λu s2 ⟨y,H2,I2,r2,q2⟩ =>
  thn (ho af s2 σ H2 x y v u _ I2 r1 r2 q2) λc s3 ⟨z,H3,I3,r3,k,e,q3⟩=>?_) hm
 subst e;cases r3;exact wpAny_truthy_bool ⟨H3,I3,q3⟩
def Pn (r r':R2)(ta tb tc:TE):TE:=λσ H Q=>ta σ H λx H1=>tb σ H1 λy H2=>r x y H2 λz H3=>∃k,z=.bl k /\
 (if k=true then tc σ H3 λw' H4=>r' y w' H4 Q else Q (.bl false) H3)
theorem gP {op op':CmpOp}{r r':R2}(ho:OpR X (VP op) r)(ho':OpR X (VP op') r')(ha:PE X a ta)(hb:PE X b tb)(hc:PE X c tc)
  (hm:lastMarks [op,op'] [b,c]=false:=by with_unfolding_all rfl):PE X (.Compare a [op,op'] [b,c] pos) (Pn r r' ta tb tc):=by
 intro af s σ H Q I h;refine Compare_chain (thn (ha af s σ H _ I h) λv s1 ⟨x,H1,I1,r1,q1⟩=>chain_link (thn (hb af s1 σ H1 _ I1 q1) λu s2 ⟨y,H2,I2,r2,q2⟩ =>
  thn (ho af s2 σ H2 x y v u _ I2 r1 r2 q2) λd s3 ⟨z,H3,I3,r3,k,e,q3⟩=>?_)) hm
 subst e;cases r3;refine wpAny_truthy_bool ?_;cases k with
 |false=>exact ite_ff ⟨.bl false,H3,I3,rfl,q3⟩
 |true=>exact ite_tt (chain_last (thn (hc af s3 σ H3 _ I3 q3) λw' s4 ⟨z',H4,I4,r4,q4⟩=>ho' af s4 σ H4 y z' u w' Q I4 r2 r4 q4))
def RE (K:de)(x:V)(H:Hp)(k:Bool):Prop :=
 match x with
 | .non=>k=false
 | .bl b=>k=b
 | .int i=>k=(i != 0)
 | .str y=>y.length<=fu/\k=((y.length:Int) != 0)
 | .byt y=>y.size<=fu/\k=((y.size:Int) != 0)
 | .ref p=>(∃xs,ay K H p xs/\k=!xs.isEmpty)\/(∃xs,aW K H p xs/\k=!xs.isEmpty)\/∃kvs,H p=some (.dK kvs)/\k=!kvs.isEmpty
 |_=>False
theorem Gg {κ:Type}{kvs:List (κ×V)}{vs:List (κ×Value)}(r:KV kvs vs):(!vs.isEmpty)=!kvs.isEmpty:=by
 cases r <;> rfl
theorem xN {xs:List V}{its:List Value}(r:bg xs its):(!its.toArray.isEmpty)=!xs.isEmpty:=by
 cases r <;> simp
theorem pf:(fu:Nat) < 2 ^ 63:=by rw[sizeLine_eq];decide
theorem Po:Tn X (λx H Q=>∃k,RE X.K x H k/\Q k H):=by
 intro af s σ H x v Q I rx h;obtain⟨k,e,q⟩:=h;have hl:=pf;have hs:fu=16777216:=sizeLine_eq;cases x with
 |non =>
  cases rx;have e':k=false:=e;subst e';exact truthy_none ⟨H,I,q⟩
 |bl b =>
  cases rx;have e':k=b:=e;subst e';exact wpAny_truthy_bool ⟨H,I,q⟩
 |int i =>
  obtain⟨t,rfl⟩:=rx;have e':k=(i != 0):=e;subst e';exact PySem.P.truthy_int ⟨H,I,q⟩
 |str y =>
  obtain⟨t,rfl⟩:=rx;obtain⟨hy,e'⟩:y.length<=fu/\k=((y.length:Int) != 0):=e;subst e';exact PySem.P.truthy_str (by omega) ⟨H,I.tok _,q⟩
 |byt y =>
  obtain⟨t,rfl⟩:=rx;obtain⟨hy,e'⟩:y.size<=fu/\k=((y.size:Int) != 0):=e;subst e';exact PySem.W.truthy_bytes (by omega) ⟨H,I.tok _,q⟩
 |ref p =>
  cases rx;have e':(∃xs,ay X.K H p xs/\k=!xs.isEmpty)\/(∃xs,aW X.K H p xs/\k=!xs.isEmpty)\/∃kvs,H p=some (.dK kvs)/\k=!kvs.isEmpty:=e;rcases e' with ⟨xs,hx,e'⟩ | ⟨xs,hx,e'⟩ | ⟨kvs,hx,e'⟩
  ·subst e';obtain⟨its,r,pl,hz⟩:=I.list hx;have hlen:=r.length;exact wpAny_truthy_list pl.isList (by simp only[si];omega) ⟨H,I.tok _,by rw[xN r];exact q⟩
  ·subst e';obtain⟨its,r,pl,hz⟩:=I.tuple hx;have hlen:=r.length;exact truthy_tuple pl (by simp only[si];omega) ⟨H,I.tok _,by rw[xN r];exact q⟩
  subst e';obtain⟨hz,hS,vs,r,m⟩:kvs.length<=fu/\(p == Wj)=false/\∃vs,KV kvs vs/\s.heap.DictOf (cU X.prog X.w) p vs:=I.hok p _ hx;have hlen:kvs.length=vs.length:=Paired.length r;exact wpAny_truthy_dict hS m (by omega) ⟨H,I.tok _,by rw[Gg r];exact q⟩
 |_=>exact(show False from e).elim
theorem ph (ha:PE X a ta)(he:∀whole,isTrue a X.env whole=(do let v <-whole;standAt a.pos;holding [v] (truthy v))) :
  PT X a (λσ H Q=>ta σ H λx H'=>∃k,RE X.K x H' k/\Q k H'):=by
 intro af s σ H Q I h;exact isTrue_plain (thn (ha af s σ H _ I h) λv s1 ⟨x,H1,I1,r1,q1⟩=>Po af s1 σ H1 x v Q I1 r1 q1) (he _)
theorem cV:OpR X (WD .Add) (λx y H Q=>∃i j,x=.str i/\y=.str j/\i.length+j.length<=fu/\Q (.str (i++j)) H):=by
 intro af s σ H x y v u Q I rx ry h;obtain⟨i,j,rfl,rfl,hz,q⟩:=h;obtain⟨t,rfl⟩:=rx;obtain⟨t',rfl⟩:=ry;exact add_str (λt' tk=>⟨.str (i++j),H,I.tok _,⟨_,rfl⟩,q⟩) hz
theorem vals1 {x:V}{us:List Value}(r:bg [x] us):∃u,us=[u]/\bE x u:=by
 cases r with
 |cons r1 r2=>cases r2;exact⟨_,rfl,r1⟩
theorem vals2 {x y:V}{us:List Value}(r:bg [x,y] us):∃u w',us=[u,w']/\bE x u/\bE y w':=by
 cases r with
 |cons r1 r2 =>
  cases r2 with
  |cons r3 r4=>cases r4;exact⟨_,_,rfl,r1,r3⟩
theorem jU (hc:X.calm=true):j3 X (.builtin "max") (λxs H Q=>∃i j,xs=[.int i,.int j]/\Q (.int (if j > i then j else i)) H):=by
 intro af s σ H xs us Q I r h;obtain⟨i,j,rfl,q⟩:=h;obtain⟨u,w',rfl,⟨t,rfl⟩,⟨t',rfl⟩⟩:=vals2 r;refine max_two_ints (I.ok.hd hc) λh' tk k=>⟨_,H,I.kept k,?_,q⟩
 by_cases hj:j > i
 ·rw[bp hj,bp hj];exact⟨_,rfl⟩
 rw[aZ hj,aZ hj];exact⟨_,rfl⟩
theorem u0 (hc:X.calm=true):j3 X (.builtin "min") (λxs H Q=>∃i j,xs=[.int i,.int j]/\Q (.int (if j < i then j else i)) H):=by
 intro af s σ H xs us Q I r h;obtain⟨i,j,rfl,q⟩:=h;obtain⟨u,w',rfl,⟨t,rfl⟩,⟨t',rfl⟩⟩:=vals2 r;refine min_two_ints (I.ok.hd hc) λh' tk k=>⟨_,H,I.kept k,?_,q⟩
 by_cases hj:j < i
 ·rw[bp hj,bp hj];exact⟨_,rfl⟩
 rw[aZ hj,aZ hj];exact⟨_,rfl⟩
theorem A3:j3 X (.type "int") (λxs H Q=>(∃i,xs=[.int i]/\Q (.int i) H)\/∃k,xs=[.bl k]/\Q (.int (if k then 1 else 0)) H):=by
 intro af s σ H xs us Q I r h;rcases h with ⟨i,rfl,q⟩ | ⟨k,rfl,q⟩
 ·obtain⟨u,rfl,t,rfl⟩:=vals1 r;exact call_int_int ⟨.int i,H,I,⟨_,rfl⟩,q⟩
 obtain⟨u,rfl,r1⟩:=vals1 r;cases r1;exact call_int_bool ⟨.int (if k then 1 else 0),H,I.tok _,⟨_,rfl⟩,q⟩
theorem d9:j3 X (.type "str") (λxs H Q=>∃i,xs=[.int i]/\i.natAbs.log2 < 1920/\Q (.str (toString i)) H):=by
 intro af s σ H xs us Q I r h;obtain⟨i,rfl,hz,q⟩:=h;obtain⟨u,rfl,t,rfl⟩:=vals1 r;exact PySem.P.str_of_int hz ⟨.str _,H,I.tok _,⟨_,rfl⟩,q⟩
theorem Kh:j3 X (.builtin "ord") (λxs H Q=>∃x,xs=[.str x]/\x.length=1/\Q (.int (x.cps.getD 0 0:Nat)) H):=by
 intro af s σ H xs us Q I r h;obtain⟨x,rfl,hz,q⟩:=h;obtain⟨u,rfl,t,rfl⟩:=vals1 r;exact ord_of_one hz ⟨.int _,H,I.tok _,⟨_,rfl⟩,q⟩
end
structure Gm (h:Heap)(x dx C:Addr)(mA:Str->Option Value):Prop where
 obj:h.get? x=some (Vv C dx)
 ns:h.Ns1 dx mA
 ne:dx≠x
theorem Ju {h:Heap}{dx:Addr}{mA:Str->Option Value}(n:h.Ns1 dx mA):∃od,h.get? dx=some od/\∀name,PySem.W.lookIn name od=some (mA name):=by
 obtain⟨o,es,ep,ho,hd,hk,_,hm⟩:=n;refine⟨o,ho,λname=>?_⟩
 have e:=hm name;unfold nsFind findBy at e;rw[<-Array.find?_toList]at e;unfold PySem.W.lookIn;rw[hd];dsimp only;split
 ·rename_i y q;rw[q]at e;exact congrArg some e
 rename_i q;rw[q]at e;have a:es.toList.any (·.refKey)=false:=by
  rw[List.any_eq_false];intro y hy;obtain⟨z,t,Tq⟩:=hk y (Array.mem_toList_iff.mp hy);simp[DictEntry.refKey,Tq]
 have a':¬es.toList.any (·.refKey)=true:=by rw[a];exact UW
 rw[aZ a'];exact congrArg some e
theorem Gm.look {h:Heap}{x dx C:Addr}{mA:Str->Option Value}(I:Gm h x dx C mA):∃od,PySem.W.InstAt h x (Vv C dx) C (some od)/\∀name,PySem.W.lookIn name od=some (mA name) :=
 let ⟨od,ho,hl⟩:=Ju I.ns
 ⟨od,⟨I.obj,rfl,rfl,ho⟩,hl⟩
section
variable{prog:wt}{w:World}{A:Around}{E:Value->Shared->Prop}{s:Shared}{K:de}{x dx C f:Addr}{mA:Str->Option Value}{name:Str}{v:Value}
theorem get_map {expr:Bool}{Q:Value->Shared->Prop}(X:K.In s.heap)(I:Gm s.heap x dx C mA)(hg:PySem.W.plainGet K C name=true)(hh:PySem.W.hasDictIn K C=true)
  (ha:Vp K (.ref C) name=some none) (hv:mA name=some v) (hv':PySem.W.handedIn v=true) (h:Q v { s with toks:=s.toks+1 }) :
  wpAny (model prog w) A (getAttr (.ref x) name expr) Q E s:=by
 obtain⟨od,J,hl⟩:=I.look;exact PySem.W.get_value X J (PySem.W.plainGet_of hg).1 (PySem.W.findObj_own hh ha rfl (by rw[hl,hv])) hv' h
theorem Ki {pl:Sem Bool}{Q:Value×List Value->Shared->Prop}(X:K.In s.heap)(I:Gm s.heap x dx C mA)(hg:PySem.W.plainGet K C name=true)
  (hf:Vp K (.ref C) name=some (some (.ref f))) (ht:PySem.W.isFn K (.ref f)=true) (hv:mA name=none) (h:Q (.ref f,[.ref x]) s) :
  wpAny (model prog w) A (getMethod (.ref x) name pl) Q E s:=by
 obtain⟨od,J,hl⟩:=I.look;exact PySem.W.method_fn X J (PySem.W.plainGet_of hg).1 (PySem.W.plainGet_of hg).2 hf (beq_iff_eq.mp ht) (by show (PySem.W.lookIn name od).map (·.isSome)=some false;rw[hl,hv];rfl) h
theorem M8 {ns:List Str}{Q:Unit->Shared->Prop}(X:K.In s.heap)(I:Gm s.heap x dx C mA)
  (hs:Vp K (.ref C) "__setattr__"=some (some (.builtin "object.__setattr__"))) (hp:PySem.W.plainOver K C=true) (ht:PySem.W.takerIn K C name=some none) (hh:PySem.W.hasDictIn K C=true)
  (hw:PySem.Within mA ns) (hsz:ns.length<=fu)
  (h:∀h',Gm h' x dx C (λy=>if y=name then some v else mA y)->Heap.SameBut dx s.heap h'->Q () { s with heap:=h',toks:=s.toks+2 }) :
  wpAny (model prog w) A (setAttr (.ref x) name v) Q E s:=by
 obtain⟨od,J,hl⟩:=I.look;refine PySem.W.set_plain X J hs (PySem.W.osa_open (s:={ s with toks:=s.toks+1 }) (r:=none) X J hp ht λb=>?_)
 obtain⟨cd,hc,hd'⟩:=PySem.W.any_some hh;have hx:s.heap.get? x=some ⟨.ref C,some dx,.plain,#[]⟩:=I.obj;refine UX (Vd (UX (UX (wpAny_loadPart hx (UX (PySem.W.Looks.here (s:={ s with toks:=s.toks+1 }) (PySem.W.looks_clsIn X hc) ?_))))))
 rw[hd'];refine Vd (a:=some dx) (UX (Vd (UX ?_)));refine wpAny_nsSet1 (s:={ s with toks:=s.toks+1 }) I.ns λh' hn2 hs2=>?_
 obtain⟨oD,esD,epD,hoD,hdD,hcD⟩:=hn2.count (PySem.Within.cons name v hw);refine UX (wpAny_lookBehind hoD (by rw[hdD];exact pastItsLine_dict (Vc hcD (by rw[UQ];omega))) ?_)
 exact Vd (h _ ⟨(hs2.2 _ (VG I.ne)).trans I.obj,hn2,I.ne⟩ hs2)
theorem Kj {R:Result->Shared->Prop}{vs:List Value}{kw:List (Str×Value)}(X:K.In s.heap)(hm:PySem.W.makesIn K C=true)
  (hi:Vp K (.ref C) "__init__"=some (some (.ref f))) (hf:PySem.W.typeIn K (.ref f)=some (.type "function"))
  (h:codeAny (model prog w) (A.under (.builtin "type.__call__" ⟨.ref C::vs,kw⟩)) (.call (.ref f) ⟨.ref (s.heap.objs.size+1)::vs,kw⟩) (PySem.W.InitBack (s.heap.objs.size+1) R)
   { s with heap:=(s.heap.push Vq).push (Vv C s.heap.objs.size) }) :
  codeAny (model prog w) A (.call (.ref C) ⟨vs,kw⟩) R s:=by
 obtain⟨hh,g,d,t,os⟩:=s;exact PySem.W.make_core (PySem.W.makes_of X hm) (PySem.W.looks_findIn X hi) (λself=>PySem.W.bind_fn X self hf) (.inl rfl) h
end
noncomputable def jh (f:Str)(v:V):List (Str×V)->List (Str×V)
 |[]=>[(f,v)]
 | (g,x)::r=>if g=f then (g,v)::r else (g,x)::jh f v r
theorem vS (f g:Str)(v:V):∀fs:List (Str×V),(jh f v fs).lookup g=if g=f then some v else fs.lookup g
 |[]=>by
  show VE g [(f,v)]=_
  by_cases h:g=f
  ·have hb:(g == f)=true:=beq_iff_eq.mpr h;simp only[VE,hb,bp h]
  have hb:(g == f)=false:=beq_eq_false_iff_ne.mpr h;simp only[VE,hb,aZ h]
 | (k,x)::r=>by
  have ih:=vS f g v r;rw[show jh f v ((k,x)::r)=(if k=f then (k,v)::r else (k,x)::jh f v r) from rfl]
  by_cases hk:k=f
  ·rw[bp hk]
   by_cases h:g=k
   ·have hb:(g == k)=true:=beq_iff_eq.mpr h;simp only[VE,hb,bp (h.trans hk)]
   have hb:(g == k)=false:=beq_eq_false_iff_ne.mpr h;simp only[VE,hb,aZ (λe:g=f=>h (e.trans hk.symm))]
  rw[aZ hk]
  by_cases h:g=k
  ·have hb:(g == k)=true:=beq_iff_eq.mpr h;simp only[VE,hb,aZ (λe:g=f=>hk (h.symm.trans e))]
  have hb:(g == k)=false:=beq_eq_false_iff_ne.mpr h;simp only[VE,hb];exact ih
theorem u3 (f:Str)(v:V):∀fs:List (Str×V),f∈(jh f v fs).map (·.1)/\∀g,g∈fs.map (·.1)->g∈(jh f v fs).map (·.1)
 |[]=>⟨by simp[jh],λg h=>by simp at h⟩
 | (k,x)::r=>by
  obtain⟨i1,i2⟩:=u3 f v r;rw[show jh f v ((k,x)::r)=(if k=f then (k,v)::r else (k,x)::jh f v r) from rfl]
  by_cases hk:k=f
  ·rw[bp hk];subst hk;exact⟨by simp,λg h=>by simpa using h⟩
  rw[aZ hk];refine⟨?_,λg h=>?_⟩
  ·rw[rf];exact ma _ i1
  rw[rf]at h ⊢;rcases List.mem_cons.mp h with e | e
  ·exact List.mem_cons.mpr (.inl e)
  exact ma _ (i2 g e)
theorem vT (f:Str)(v:V):∀fs:List (Str×V),(jh f v fs).length<=fs.length+1
 |[]=>by simp[jh]
 | (k,x)::r=>by
  have ih:=vT f v r;rw[show jh f v ((k,x)::r)=(if k=f then (k,v)::r else (k,x)::jh f v r) from rfl]
  by_cases hk:k=f
  ·rw[bp hk,UQ,UQ];omega
  rw[aZ hk,UQ,UQ];omega
theorem o8.xw {v:V}{o:Option Value}(r:o8 (some v) o):∃u,o=some u/\bE v u:=by
 cases o with
 |none=>exact(show False from r).elim
 |some u=>exact⟨u,rfl,r⟩
theorem o8.none_of {o:Option Value}(r:o8 none o):o=none:=by
 cases o with
 |none=>rfl
 |some u=>exact(show False from r).elim
theorem Jv {v:V}{u:Value}(r:bE v u):PySem.W.handedIn u=true:=by
 cases v with
 |non=>cases (show u=Value.none from r);rfl
 |bl b=>cases (show u=Wi b from r);rfl
 |int i=>obtain⟨t,e⟩:=(show ∃t,u=Value.int i t from r);cases e;rfl
 |str x=>obtain⟨t,e⟩:=(show ∃t,u=Value.str x t from r);cases e;rfl
 |byt b=>obtain⟨t,e⟩:=(show ∃t,u=Value.bytes b t from r);cases e;rfl
 |flt b=>obtain⟨t,e⟩:=(show ∃t,u=Value.float b t from r);cases e;rfl
 |ref a=>cases (show u=VL a from r);rfl
 |ty n=>cases (show u=Value.type n from r);rfl
section
variable{P:wt}{w:World}{H H':Hp}{h h':Heap}{a C dx:Addr}{fs fs':List (Str×V)}
theorem CF (hok:HOk P w H h)(e:H a=some (.ins C dx fs)):∃mA,Gm h a dx C mA/\(∀f,o8 (fs.lookup f) (mA f))/\PySem.Within mA (fs.map (·.1))/\fs.length<=1000/\H dx=some (.own a):=by
 obtain⟨d,z,ne,ob,mA,n,r,q⟩:=(show eN P w H h a (.ins C dx fs) from hok a _ e)
 exact⟨mA,⟨ob,n,ne⟩,r,q,z,d⟩
end
structure Cls (K:de)(C:Addr):Prop where
 pg:PySem.W.plainGet K C Str.empty=true
 hd:PySem.W.hasDictIn K C=true
 po:PySem.W.plainOver K C=true
 sa:Vp K (.ref C) "__setattr__"=some (some (.builtin "object.__setattr__"))
theorem Cls.get {K:de}{C:Addr}(c:Cls K C)(f:Str):PySem.W.plainGet K C f=true:=c.pg
def dO (K:de)(C:Addr)(f:Str):Prop:=Vp K (.ref C) f=some none
theorem dO.RF {K:de}{C:Addr}{f:Str}(n:dO K C f):PySem.W.takerIn K C f=some none:=by
 unfold PySem.W.takerIn;rw[show Vp K (.ref C) f=some none from n]
 rfl
structure Con (K:de)(C:Addr)(f:Str)(v:V)(u:Value):Prop where
 at_:Vp K (.ref C) f=some (some u)
 rel:bE v u
 get:PySem.W.specialIn K u "__get__"=some none
 cp:PySem.W.copiedNames.contains f=false
structure gK (K:de)(C:Addr)(m:Str)(f:Addr):Prop where
 at_:Vp K (.ref C) m=some (some (.ref f))
 fn:PySem.W.isFn K (.ref f)=true
 kp:Wz K (.ref f)=true
section
variable{X:Cx}{af:List (Addr×Obj)}{σ:St}{H:Hp}{s:Shared}{a C dx:Addr}{fs:List (Str×V)}{f:Str}{v:V}{A:Around}{E:Value->Shared->Prop}
theorem Gn {b:Bool}{Q:Value->Shared->Prop}(I:av X af σ H s)(e:H a=some (.ins C dx fs))(c:Cls X.K C)(n:dO X.K C f)(l:fs.lookup f=some v)
  (h:∀u s',av X af σ H s'->bE v u->Q u s'):wpAny (model X.prog X.w) A (getAttr (.ref a) f b) Q E s:=by
 obtain⟨mA,O,r,_,_,_⟩:=CF I.hok e;obtain⟨u,hu,ru⟩:=o8.xw (v:=v) (o:=mA f) (by rw[<-l];exact r f)
 exact get_map I.kIn O (c.get f) c.hd n hu (Jv ru) (h u _ (I.tok _) ru)
theorem mW {m:Str}{g:Addr}{pl:Sem Bool}{Q:Value×List Value->Shared->Prop}(I:av X af σ H s)(e:H a=some (.ins C dx fs))(c:Cls X.K C)(k:gK X.K C m g)(l:fs.lookup m=none)
  (h:Q (.ref g,[.ref a]) s):wpAny (model X.prog X.w) A (getMethod (.ref a) m pl) Q E s:=by
 obtain⟨mA,O,r,_,_,_⟩:=CF I.hok e;have hn:mA m=none:=o8.none_of (by rw[<-l];exact r m)
 exact Ki I.kIn O (c.get m) k.at_ k.fn hn h
theorem Go {y:V}{u:Value}{Q:Unit->Shared->Prop}(I:av X af σ H s)(e:H a=some (.ins C dx fs))(c:Cls X.K C)(n:dO X.K C f)(hl:fs.length < 1000)(ry:bE y u)
  (h:∀s',av X af σ (ag H a (.ins C dx (jh f y fs))) s'->Q () s'):wpAny (model X.prog X.w) A (setAttr (.ref a) f u) Q E s:=by
 obtain⟨mA,O,r,wi,_,ho⟩:=CF I.hok e;have hz:(fs.map (·.1)).length<=fu:=by rw[bo,sizeLine_eq];omega
 refine M8 I.kIn O c.sa c.po n.RF c.hd wi hz λh' O' sb=>h _ ?_
 have hd:∃o,h'.get? dx=some o:=let ⟨o,_,_,e',_⟩:=O'.ns;⟨o,e'⟩
 refine I.write (x:=a) (e:=dx) (by rw[e];exact WC) (.inr ho) (λb q hb z=>(sb.2 b hb).trans z) hd ?_
 refine⟨by rw[ax O.ne];exact ho,?_,O.ne,O'.obj,_,O'.ns,λg=>?_,λg hg=>?_⟩
 ·have:=vT f y fs;omega
 ·show o8 ((jh f y fs).lookup g) (if g=f then some u else mA g)
  rw[vS]
  by_cases q:g=f
  ·rw[bp q,bp q];exact ry
  rw[aZ q,aZ q];exact r g
 by_cases q:g=f
 ·rw[q];exact(u3 f y fs).1
 refine(u3 f y fs).2 g (wi g λz=>hg ?_)
 show (if g=f then some u else mA g)=none
 rw[aZ q];exact z
theorem av.made (I:av X af σ H s):av X af σ (ag (ag H s.heap.objs.size (.own (s.heap.objs.size+1))) (s.heap.objs.size+1) (.ins C s.heap.objs.size []))
  { s with heap:=(s.heap.push Vq).push (Vv C s.heap.objs.size) }:=by
 have e1:(s.heap.push Vq).get? s.heap.objs.size=some Vq:=U9 s.heap rfl;have e2:((s.heap.push Vq).push (Vv C s.heap.objs.size)).get? (s.heap.objs.size+1)=some (Vv C s.heap.objs.size):=by
  have:=U9 (s.heap.push Vq) (o:=Vv C s.heap.objs.size) rfl
  rwa [Heap.size_push]at this
 have e3:(s.heap.push Vq).Ns s.heap.objs.size (λ_=>none):=⟨Vq,#[],_,e1,rfl,(λe he=>absurd he (by simp)),λ_=>rfl⟩
 have I1:=I.laid (a:=s.heap.objs.size) (o:=.own (s.heap.objs.size+1)) (h':=s.heap.push Vq) (t':=s.toks) (λb u q=>me _ q) (mv _) ⟨_,e1⟩
 refine I1.laid (a:=s.heap.objs.size+1) (o:=.ins C s.heap.objs.size []) (t':=s.toks) (λb u q=>me _ q) (Nat.le_of_eq (Heap.size_push _ _)) ?_
 have ne:s.heap.objs.size≠s.heap.objs.size+1:=Ve (Nat.lt_succ_self _);refine⟨by rw[ax ne,ae],Vl _,ne,e2,λ_=>none,(Heap.Ns1.of_empty e3).at λo q=>me _ q,λ_=>WC,λy hy=>absurd rfl hy⟩
theorem M9 {prog:wt}{w:World}{env:Env}{e:Expr}{f:Str}{pos:Pos}{s:Shared}{Q:Value->Shared->Prop}(hb:attributeBase e f env (eval e env)=eval e env)
  (h:wpAny (model prog w) A (eval e env) (λo s₁=>wpAny (model prog w) A (getAttr o f true) Q E s₁) E s):wpAny (model prog w) A (eval (.Attribute e f pos) env) Q E s :=
 Attribute_any_ h (by rw[arm_eval_Attribute,hb])
end
def RG (K:de)(ta:TE)(f:Str):TE:=λσ H Q=>ta σ H λx H1=>∃a C dx fs v,x=.ref a/\H1 a=some (.ins C dx fs)/\Cls K C/\dO K C f/\fs.lookup f=some v/\Q v H1
def Tr (K:de)(ta tv:TE)(f:Str):TS:=λD σ H=>tv σ H λy H1=>ta σ H1 λx H2=>∃a C dx fs,x=.ref a/\H2 a=some (.ins C dx fs)/\Cls K C/\dO K C f/\fs.length < 1000 /\
 D.nx σ (ag H2 a (.ins C dx (jh f y fs)))
section
variable{X:Cx}{o e value:Expr}{f:Str}{pos pos' Ts:Pos}{ta tv:TE}
theorem bH (he:PE X e ta)(hb:attributeBase e f X.env (eval e X.env)=eval e X.env):PE X (.Attribute e f pos) (RG X.K ta f):=by
 intro af s σ H Q I h;refine M9 hb (thn (he af s σ H _ I h) λu s1 ⟨x,H1,I1,rx,a,C,dx,fs,v,ex,ea,c,n,l,q⟩=>?_)
 subst ex;obtain rfl:u=VL a:=rx;exact Gn I1 ea c n l λu' s2 I2 ru=>⟨v,H1,I2,ru,q⟩
theorem eF (ha:PE X o ta)(hv:PE X value tv)(hs:swapsWith value (some (.Attribute o f pos')) pos.line X.env=pure false):PS X (.Assign [.Attribute o f pos'] value pos) (Tr X.K ta tv f):=by
 intro af s σ H D I h;refine plainObj_wpAny_Assign_Attribute (thn (hv af s σ H _ I h) λu s1 ⟨y,H1,I1,ry,q⟩=>thn (ha af s1 σ H1 _ I1 q) λov s2 ⟨x,H2,I2,rx,a,C,dx,fs,ex,ea,c,n,l,q2⟩=>?_) hs
 subst ex;obtain rfl:ov=VL a:=rx;exact Go I2 ea c n l ry λs3 I3=>⟨σ,_,I3,q2⟩
theorem OP {pl:Sem Bool}{m:Str}{apos:Pos}{args:List Expr}{af:List (Addr×Obj)}{s:Shared}{σ:St}{H:Hp}{Q:Value->Shared->Prop}{te:TE}(he:PE X e te)(I:av X af σ H s)
  (h:te σ H λx H1=>∃a C dx fs g,x=.ref a/\H1 a=some (.ins C dx fs)/\Cls X.K C/\gK X.K C m g/\fs.lookup m=none /\
   ∀s1,av X af σ H1 s1->wpAny (model X.prog X.w) X.A (callWith pos (.ref g) [.ref a] (backTo pos (Vn args X.env)) (WE pos (VZ [] X.env))) Q X.xe s1)
  (ht:eval (.Call (.Attribute e m apos) args [] pos) X.env=(do
   let ov <-eval e X.env
   standAt apos.atName
   let (f,first) <-holding [ov] (getMethod ov m pl)
   callWith pos f first (backTo pos (Vn args X.env)) (WE pos (VZ [] X.env)))) :
  wpAny (model X.prog X.w) X.A (eval (.Call (.Attribute e m apos) args [] pos) X.env) Q X.xe s:=by
 refine PySem.W.methodCall_KW (pl:=pl) (thn (he af s σ H _ I h) λu s1 ⟨x,H1,I1,rx,a,C,dx,fs,g,ex,ea,c,k,l,q⟩=>?_) ht
 subst ex;obtain rfl:u=VL a:=rx;exact mW I1 ea c k l (q s1 I1)
end
section
variable{X:Cx}{af:List (Addr×Obj)}{σ:St}{H:Hp}{s:Shared}{A:Around}{E:Value->Shared->Prop}{Q:Value->Shared->Prop}{c:Value}{b:Bool}
inductive xO (K:de)(H:Hp):V->Value->Prop where
 |non:xO K H .non (.type "NoneType")
 |bl (x:Bool):xO K H (.bl x) (.type "bool")
 |int (i:Int):xO K H (.int i) (.type "int")
 |str (x:Str):xO K H (.str x) (.type "str")
 |flt (x:UInt64):xO K H (.flt x) (.type "float")
 |lst {a:Addr} {xs:List V} (e:H a=some (.lst xs)):xO K H (.ref a) (.type "list")
 |frz {a:Addr} {o:Obj} {xs:List V} (e:H a=some (.frz o (.lst xs))):xO K H (.ref a) (.type "list")
 |tup {a:Addr} {xs:List V} (e:H a=some (.tup xs)):xO K H (.ref a) (.type "tuple")
 |dK {a:Addr} {kvs:List (Key×V)} (e:H a=some (.dK kvs)):xO K H (.ref a) (.type "dict")
 |dT {a:Addr} {kvs:List (List Key×V)} (e:H a=some (.dT kvs)):xO K H (.ref a) (.type "dict")
 |ins {a C dx:Addr} {fs:List (Str×V)} (e:H a=some (.ins C dx fs)) (cl:Cls K C) (ha:Vp K (.ref C) "__class__"=some (some (.builtin "object.__class__")))
   (hn:PySem.W.specialIn K (.builtin "object.__class__") "__get__"=some (some (.builtin "getset_descriptor.__get__"))) (htk:PySem.W.takesIn K (.builtin "object.__class__")=some true)
   (hm:PySem.W.mroIn K C (.type "object")=some true):xO K H (.ref a) (.ref C)
end
structure b7 (k:Nat)(A:Around):Prop where
 hd:A.handled=none
 dp:A.depth+3 * k+5 < recursionLimit
 un:A.units+16 * k+200 < cLine
 gd:A.guards=some []
theorem b7.mono {j k:Nat}{A:Around}(r:b7 k A)(h:j<=k:=by decide):b7 j A:=⟨r.hd,by have:=r.dp;omega,by have:=r.un;omega,r.gd⟩
theorem b7.deeper {k:Nat}{A:Around}(r:b7 (k+1) A)(env:Env):b7 k (A.deeper env) :=
 ⟨r.hd,by have:=r.dp;show A.depth+1+3 * k+5 < _;omega,by have:=r.un;show A.units+3+16 * k+200 < _;omega,r.gd⟩
theorem Gp {A:Around}{C:Addr}{us:List Value}{kw:List (Str×Value)}:(A.under (.builtin "type.__call__" ⟨.ref C::us,kw⟩)).depth=A.depth+1:=by
 first | rfl | simp[Around.under,Code.weight,Code.isCreation,Code.isGuard,Code.isCaller,Code.frames,Code.isFrame,guardIds]
theorem Gr {A:Around}{C:Addr}{us:List Value}{kw:List (Str×Value)}:(A.under (.builtin "type.__call__" ⟨.ref C::us,kw⟩)).units=A.units+1:=by
 first | rfl | simp[Around.under,Code.cUnits,Code.frames,Code.isFrame]
theorem b7.make {k:Nat}{A:Around}(r:b7 (k+1) A)(C:Addr)(us:List Value)(kw:List (Str×Value)):b7 k (A.under (.builtin "type.__call__" ⟨.ref C::us,kw⟩)) :=
 ⟨r.hd,by have:=r.dp;rw[Gp];omega,by have:=r.un;rw[Gr];omega,by
  have g:=r.gd
  first | exact g | simp[Around.under,Code.guards,Code.isGuard,guardIds,pushGuards,g]⟩
theorem b7.depth {k:Nat}{A:Around}(r:b7 k A):A.depth < recursionLimit:=by have:=r.dp;omega
theorem b7.units {k:Nat}{A:Around}(r:b7 k A):A.units+64 < cLine:=by have:=r.un;omega
def Kk:TA:=λ_ H Q=>Q [] H
def RH (ta:TE)(tr:TA):TA:=λσ H Q=>ta σ H λx H1=>tr σ H1 λxs H2=>Q (x::xs) H2
section
variable{X:Cx}{e:Expr}{es:List Expr}{te:TE}{t:TA}{pos:Pos}
theorem ai:PA X [] Kk:=λ_ _ _ _ H Q I h=>Calls.spliced_nil ⟨[],H,I,.nil,h⟩
theorem aa (ha:PE X e te)(hr:PA X es t)(hs:Vn (e::es) X.env=(false,eval e X.env)::Vn es X.env:=by rfl):PA X (e::es) (RH te t):=by
 intro pos af s σ H Q I h;rw[hs];show wpAny _ _ (spliced ((false,eval e X.env)::backTo pos (Vn es X.env))) _ _ s;refine Calls.spliced_cons (thn (ha af s σ H _ I h) λu s1 ⟨x,H1,I1,r1,q1⟩=>?_)
 exact thn (hr pos af s1 σ H1 _ I1 q1) λus s2 ⟨xs,H2,I2,r2,q2⟩=>⟨x::xs,H2,I2,.cons r1 r2,q2⟩
def Tt (t:TA):TE:=λσ H Q=>t σ H λxs H1=>xs.length<=fu/\∀p,H1 p=none->Q (.ref p) (ag H1 p (.tup xs))
def Tu (t:TA):TE:=λσ H Q=>t σ H λxs H1=>xs.length<=fu/\∀p,H1 p=none->Q (.ref p) (ag H1 p (.lst xs))
theorem bu {x1}(h:PA X es t):PE X (.Tuple es x1 pos) (Tt t):=by
 intro af s σ H Q I hq;refine wpAny_Tuple_spliced (thn (h pos af s σ H _ I hq) λus s1 ⟨xs,H1,I1,r,z,q⟩=>⟨by rw[<-r.length];exact z,?_⟩)
 have hf:H1 s1.heap.objs.size=none:=I1.hok.fresh (mv _);refine⟨.ref s1.heap.objs.size,ag H1 s1.heap.objs.size (.tup xs),I1.laid (t':=s1.toks) (λb u e=>me _ e) (mv _) ?_,rfl,q _ hf⟩
 exact⟨z,us,r,⟨_,U9 _ rfl,rfl,_,rfl⟩⟩
theorem bK (h:PA X es t):PE X (.List es pos) (Tu t):=by
 intro af s σ H Q I hq;refine wpAny_List_spliced (thn (h pos af s σ H _ I hq) λus s1 ⟨xs,H1,I1,r,z,q⟩=>⟨by rw[<-r.length];exact z,?_⟩)
 have hf:H1 s1.heap.objs.size=none:=I1.hok.fresh (mv _);refine⟨.ref s1.heap.objs.size,ag H1 s1.heap.objs.size (.lst xs),I1.laid (t':=s1.toks) (λb u e=>me _ e) (mv _) ?_,rfl,q _ hf⟩
 exact⟨z,us,0,r,U9 _ rfl⟩
end
abbrev Sp:=List V->Hp->VK->XK->Prop
abbrev CXT:=List Env->Hp->Shared->XK->Value->Shared->Prop
structure DZ (P:wt)(w:World)(K:de)(mg:Str->Option Value)(base:Heap)(A:Around)(outer:List Env)(s:Shared)(H:Hp):Prop where
 frames:A.frames=some outer
 mod:Mod K mg base
 bs:∀b o,base.get? b=some o->s.heap.get? b=some o/\H b=none
 bsz:base.objs.size<=s.heap.objs.size
 uY:s.heap.FunFrames base outer
 frf:∀b∈frs outer,H b=none
 hok:HOk P w H s.heap
 bare:AllBare s.gens
def CE (outer:List Env)(P:wt)(w:World)(H:Hp)(s:Shared)(Q:VK)(u:Value)(s':Shared):Prop :=
 ∃v H',s'.os=s.os/\AllBare s'.gens/\Un (frs outer) [] H H' s.heap s'.heap/\HOk P w H' s'.heap/\bE v u/\Q v H'
def CR (CX:CXT)(outer:List Env)(P:wt)(w:World)(H:Hp)(s:Shared)(Q:VK)(E:XK)(r:Result)(s':Shared):Prop :=
 match r with
 | .ok (.ret u)=>CE outer P w H s Q u s'
 | .ok _=>False
 | .error e=>CX outer H s E e s'
structure aC (P:wt)(w:World)(K:de)(mg:Str->Option Value)(base:Heap)(CX:CXT)(k:Nat)(f:Addr)(fd:gr)(ps:List Str)(sp:Sp):Prop where
 len:∀vs H Q E,sp vs H Q E->vs.length=ps.length
 run:∀(A:Around) (outer:List Env) (s:Shared) (H:Hp) (args:Args) (us:List Value) (vs:List V) (Q:VK) (E:XK),b7 k A->DZ P w K mg base A outer s H->BindsTo s fd args (ps.zip us)->bg vs us->sp vs H Q E ->
  codeAny (model P w) A (.call (.ref f) args) (CR CX outer P w H s Q E) s
theorem aC.mono {P:wt}{w:World}{K:de}{mg:Str->Option Value}{base:Heap}{CX:CXT}{j k:Nat}{f:Addr}{fd:gr}{ps:List Str}{sp:Sp}(F:aC P w K mg base CX j f fd ps sp)(h:j<=k) :
  aC P w K mg base CX k f fd ps sp:=⟨F.len,λA outer s H args us vs Q E hr=>F.run A outer s H args us vs Q E (hr.mono h)⟩
theorem aC.imp {P:wt}{w:World}{K:de}{mg:Str->Option Value}{base:Heap}{CX:CXT}{k:Nat}{f:Addr}{fd:gr}{ps:List Str}{sp sp':Sp}(F:aC P w K mg base CX k f fd ps sp)
  (h:∀vs H Q E,sp' vs H Q E->sp vs H Q E):aC P w K mg base CX k f fd ps sp' :=
 ⟨λvs H Q E q=>F.len vs H Q E (h _ _ _ _ q),λA outer s H args us vs Q E hr he hb hv hs=>F.run A outer s H args us vs Q E hr he hb hv (h _ _ _ _ hs)⟩
theorem DZ.make {P:wt}{w:World}{K:de}{mg:Str->Option Value}{base:Heap}{A:Around}{outer:List Env}{s:Shared}{H:Hp}(e:DZ P w K mg base A outer s H)(C:Addr)(us:List Value)(kw:List (Str×Value)) :
  DZ P w K mg base (A.under (.builtin "type.__call__" ⟨.ref C::us,kw⟩)) outer s H:=⟨by first | exact e.frames | (simpa [Around.under,Code.envs,Code.isFrame,pushEnvs] using e.frames),e.mod,e.bs,e.bsz,e.uY,e.frf,e.hok,e.bare⟩
section
variable{X:Cx}{af:List (Addr×Obj)}{σ:St}{H:Hp}{s s':Shared}
theorem av.RI (I:av X af σ H s):DZ X.prog X.w X.K X.mg X.base X.A X.stack s H :=
 ⟨I.ok.frames,I.ok.mod,I.bs,Vc I.ok.bsz I.sz,I.stack,I.HE,I.hok,I.bare⟩
theorem av.after {Q:VK}{u:Value}(I:av X af σ H s)(h:CE X.stack X.prog X.w H s Q u s'):EP X af σ Q u s':=by
 obtain⟨v,H',os,bare,un,hok,r,q⟩:=h;obtain⟨hh,g,d,t,os'⟩:=s';obtain rfl:os'=s.os:=os;exact⟨v,H',I.call (h':=hh) (g':=g) (d':=d) (t':=t) (ch:=[]) un hok bare (λb z=>absurd z (by simp)),r,q⟩
end
def Kl (sp:Sp)(dvs:List V)(E:XK)(t:TA):TE:=λσ H Q=>t σ H λvs H1=>sp (vs++dvs) H1 Q E
def OQ (C:Addr)(m:Str)(sp:Sp)(dvs:List V)(E:XK)(ta:TE)(t:TA):TE:=λσ H Q=>ta σ H λx H1=>∃a dx fs,x=.ref a/\H1 a=some (.ins C dx fs)/\fs.lookup m=none /\
 t σ H1 λvs H2=>sp (x::(vs++dvs)) H2 Q E
def OR (C:Addr)(sp:Sp)(dvs:List V)(E:XK)(t:TA):TE:=λσ H Q=>t σ H λvs H1=>∀x dx,H1 x=none->H1 dx=none->dx≠x ->
 sp (.ref x::(vs++dvs)) (ag (ag H1 dx (.own x)) x (.ins C dx [])) (λv H2=>v=.non/\Q (.ref x) H2) E
def bJ (K:de)(fd:gr)(ps:List Str)(ds:List Value):Prop :=
 ∀(s:Shared) (us:List Value),K.In s.heap->(us++ds).length=ps.length->BindsTo s fd ⟨us,[]⟩ (ps.zip (us++ds))
theorem bJ.all {K:de}{fd:gr}{ps:List Str}(h:∀us:List Value,us.length=ps.length->bindArgs fd ⟨us,[]⟩=pure (ps.zip us)):bJ K fd ps []:=λs us _ hl=>by
 rw[List.append_nil]at hl ⊢;exact .of_eq (h us hl)
def Passes (CX:CXT)(X:Cx)(E:XK):Prop:=∀(af:List (Addr×Obj)) (σ:St) (H:Hp) (s:Shared) (e:Value) (s':Shared),av X af σ H s->CX X.stack H s E e s'->X.xe e s'
section
variable{X:Cx}{CX:CXT}{k:Nat}{f C:Addr}{fd:gr}{ps:List Str}{sp:Sp}{dvs:List V}{ds:List Value}{E:XK}{x m:Str}{p pos apos:Pos}{e o:Expr}{es:List Expr}{ta:TE}{t:TA}
theorem xP {af:List (Addr×Obj)}{σ:St}{H:Hp}{s:Shared}{Q:VK}{us:List Value}{vs:List V}(F:aC X.prog X.w X.K X.mg X.base CX k f fd ps sp)(hr:b7 k X.A)(hb:bJ X.K fd ps ds)(hd:bg dvs ds)(hx:Passes CX X E)
  (I:av X af σ H s) (r:bg vs us) (h:sp (vs++dvs) H Q E):wpAny (model X.prog X.w) X.A (call (.ref f) us) (EP X af σ Q) X.xe s:=by
 have r2:bg (vs++dvs) (us++ds):=r.append hd;have hl:(us++ds).length=ps.length:=by rw[<-r2.length];exact F.len _ _ _ _ h
 refine wpAny_call (codeAny_mono (F.run X.A X.stack s H ⟨us,[]⟩ (us++ds) (vs++dvs) Q E hr I.RI (hb s us I.kIn hl) r2 h) λr s' hq=>?_)
 cases r with
 |error e=>exact hx af σ H s e s' I hq
 |ok fl =>
  cases fl with
  |ret u=>exact I.after hq
  |next=>exact V8 hq
  |brk=>exact V8 hq
  |cont=>exact V8 hq
theorem Na (F:aC X.prog X.w X.K X.mg X.base CX k f fd ps sp)(hr:b7 k X.A)(hg:Gl X x)(hm:X.mg x=some (.ref f))(hk:Wz X.K (.ref f)=true)(hb:bJ X.K fd ps ds)(hd:bg dvs ds)(hx:Passes CX X E)
  (ha:PA X (e::es) t) (hdb:(x == ("__debug__":Str))=false:=by decide) (he:Vn (e::es) X.env=(false,eval e X.env)::Vn es X.env:=by rfl) (hpl:(backTo pos (Vn es X.env)).any (·.1)=false:=by rfl) :
  PE X (.Call (.Name x p) (e::es) [] pos) (Kl sp dvs E t):=by
 intro af s σ H Q I h;refine wpAny_Call_Name_kw (qC I hg hm ?_ hdb);refine PySem.W.callWith_K (h₀:=X.base) I.ok.mod.kin hk (thn (ha pos af s σ H _ I h) λus s1 ⟨vs,H1,I1,r,q⟩=>⟨I1.kIn,?_⟩) he hpl
 exact xP F hr hb hd hx I1 r q
theorem D5 (F:aC X.prog X.w X.K X.mg X.base CX k f fd ps sp)(hr:b7 k X.A)(hg:Gl X x)(hm:X.mg x=some (.ref f))(hk:Wz X.K (.ref f)=true)(hb:bJ X.K fd ps ds)(hd:bg dvs ds)(hx:Passes CX X E)
  (hdb:(x == ("__debug__":Str))=false:=by decide):PE X (.Call (.Name x p) [] [] pos) (Kl sp dvs E Kk):=by
 intro af s σ H Q I h;refine wpAny_Call_Name_kw (qC I hg hm ?_ hdb);exact Wy I.kIn hk (xP (us:=[]) F hr hb hd hx I .nil h)
theorem dN {pl:Sem Bool}(he:PE X o ta)(c:Cls X.K C)(hm:gK X.K C m f)(F:aC X.prog X.w X.K X.mg X.base CX k f fd ps sp)(hr:b7 k X.A)(hb:bJ X.K fd ps ds)(hd:bg dvs ds)(hx:Passes CX X E)(ha:PA X (e::es) t)
  (hst:Vn (e::es) X.env=(false,eval e X.env)::Vn es X.env:=by rfl) (hpl:(backTo pos (Vn es X.env)).any (·.1)=false:=by rfl)
  (ht:eval (.Call (.Attribute o m apos) (e::es) [] pos) X.env=(do
   let ov <-eval o X.env
   standAt apos.atName
   let (f,first) <-holding [ov] (getMethod ov m pl)
   callWith pos f first (backTo pos (Vn (e::es) X.env)) (WE pos (VZ [] X.env))):=by rfl) :
  PE X (.Call (.Attribute o m apos) (e::es) [] pos) (OQ C m sp dvs E ta t):=by
 intro af s σ H Q I h;refine PySem.W.methodCall_KW (pl:=pl) (thn (he af s σ H _ I h) λu s1 ⟨x,H1,I1,rx,a,dx,fs,ex,ea,l,q⟩=>?_) ht
 subst ex;obtain rfl:u=VL a:=rx;refine mW I1 ea c hm l ?_;refine PySem.W.callWith_K (first:=[.ref a]) (h₀:=X.base) I.ok.mod.kin hm.kp (thn (ha pos af s1 σ H1 _ I1 q) λus s2 ⟨vs,H2,I2,r,q2⟩=>⟨I2.kIn,?_⟩) hst hpl
 exact xP (us:=.ref a::us) (vs:=.ref a::vs) F hr hb hd hx I2 (.cons rfl r) q2
theorem dI {pl:Sem Bool}(he:PE X o ta)(c:Cls X.K C)(hm:gK X.K C m f)(F:aC X.prog X.w X.K X.mg X.base CX k f fd ps sp)(hr:b7 k X.A)(hb:bJ X.K fd ps ds)(hd:bg dvs ds)(hx:Passes CX X E)
  (ht:eval (.Call (.Attribute o m apos) [] [] pos) X.env=(do
   let ov <-eval o X.env
   standAt apos.atName
   let (f,first) <-holding [ov] (getMethod ov m pl)
   callWith pos f first (backTo pos (Vn [] X.env)) (WE pos (VZ [] X.env))):=by rfl) :
  PE X (.Call (.Attribute o m apos) [] [] pos) (OQ C m sp dvs E ta Kk):=by
 intro af s σ H Q I h;refine PySem.W.methodCall_KW (pl:=pl) (thn (he af s σ H _ I h) λu s1 ⟨x,H1,I1,rx,a,dx,fs,ex,ea,l,q⟩=>?_) ht
 subst ex;obtain rfl:u=VL a:=rx;refine mW I1 ea c hm l ?_;exact Wy (first:=[.ref a]) I1.kIn hm.kp (xP (us:=[.ref a]) (vs:=[.ref a]) F hr hb hd hx I1 (.cons rfl .nil) q)
structure Mk (K:de)(C f:Addr):Prop where
 makes:PySem.W.makesIn K C=true
 init:Vp K (.ref C) "__init__"=some (some (.ref f))
 fn:PySem.W.isFn K (.ref f)=true
 kp:Wz K (.ref C)=true
theorem D8 {af:List (Addr×Obj)}{σ:St}{H:Hp}{s:Shared}{Q:VK}{us:List Value}{vs:List V}(M:Mk X.K C f)(F:aC X.prog X.w X.K X.mg X.base CX k f fd ps sp)(hr:b7 (k+1) X.A)(hb:bJ X.K fd ps ds)(hd:bg dvs ds)
  (hx:Passes CX X E) (I:av X af σ H s) (r:bg vs us)
  (h:∀x dx,H x=none->H dx=none->dx≠x->sp (.ref x::(vs++dvs)) (ag (ag H dx (.own x)) x (.ins C dx [])) (λv H2=>v=.non/\Q (.ref x) H2) E) :
  wpAny (model X.prog X.w) X.A (call (.ref C) us) (EP X af σ Q) X.xe s:=by
 have hq:=h (s.heap.objs.size+1) s.heap.objs.size (I.hok.fresh (WB _)) (I.hok.fresh (mv _)) (Ve (Nat.lt_succ_self _));have I2:=av.made (C:=C) I;have r2:bg (V.ref (s.heap.objs.size+1)::(vs++dvs)) (VL (s.heap.objs.size+1)::(us++ds)):=.cons rfl (r.append hd);have hl:(VL (s.heap.objs.size+1)::us++ds).length=ps.length:=by
  have e:=r2.length;rw[F.len _ _ _ _ hq]at e;exact e.symm
 refine wpAny_call (Kj (f:=f) I.kIn M.makes M.init (beq_iff_eq.mp M.fn) (codeAny_mono (F.run _ X.stack _ _ ⟨VL (s.heap.objs.size+1)::us,[]⟩ (VL (s.heap.objs.size+1)::(us++ds)) _ _ E (hr.make C us [])
  (I2.RI.make C us []) (hb _ (VL (s.heap.objs.size+1)::us) I2.kIn hl) r2 hq) λr s' hq'=>?_))
 cases r with
 |error e=>exact hx af σ _ _ e s' I2 hq'
 |ok fl =>
  cases fl with
  |ret u =>
   obtain⟨v,H',I3,rv,ev,q3⟩:=I2.after hq';subst ev;exact⟨rv,⟨V.ref (s.heap.objs.size+1),H',I3,rfl,q3⟩⟩
  |next=>exact V8 hq'
  |brk=>exact V8 hq'
  |cont=>exact V8 hq'
theorem eX (M:Mk X.K C f)(F:aC X.prog X.w X.K X.mg X.base CX k f fd ps sp)(hr:b7 (k+1) X.A)(hg:Gl X x)(hm:X.mg x=some (.ref C))(hb:bJ X.K fd ps ds)(hd:bg dvs ds)(hx:Passes CX X E)
  (ha:PA X (e::es) t) (hdb:(x == ("__debug__":Str))=false:=by decide) (he:Vn (e::es) X.env=(false,eval e X.env)::Vn es X.env:=by rfl) (hpl:(backTo pos (Vn es X.env)).any (·.1)=false:=by rfl) :
  PE X (.Call (.Name x p) (e::es) [] pos) (OR C sp dvs E t):=by
 intro af s σ H Q I h;refine wpAny_Call_Name_kw (qC I hg hm ?_ hdb);refine PySem.W.callWith_K (h₀:=X.base) I.ok.mod.kin M.kp (thn (ha pos af s σ H _ I h) λus s1 ⟨vs,H1,I1,r,q⟩=>⟨I1.kIn,?_⟩) he hpl
 exact D8 M F hr hb hd hx I1 r q
theorem Km (M:Mk X.K C f)(F:aC X.prog X.w X.K X.mg X.base CX k f fd ps sp)(hr:b7 (k+1) X.A)(hg:Gl X x)(hm:X.mg x=some (.ref C))(hb:bJ X.K fd ps ds)(hd:bg dvs ds)(hx:Passes CX X E)
  (hdb:(x == ("__debug__":Str))=false:=by decide):PE X (.Call (.Name x p) [] [] pos) (OR C sp dvs E Kk):=by
 intro af s σ H Q I h;refine wpAny_Call_Name_kw (qC I hg hm ?_ hdb);exact Wy I.kIn M.kp (D8 (us:=[]) M F hr hb hd hx I .nil h)
end
section
variable{X:Cx}{CX:CXT}{k:Nat}{f C:Addr}{fd:gr}{ps ks:List Str}{sp:Sp}{E:XK}{x m:Str}{p pos apos UH:Pos}{e o:Expr}{es:List Expr}{kws:List Keyword}{te ta:TE}{t tk:TA}{nm:Option Str}
structure Tv (K:de)(fd:gr)(ps ks:List Str)(g:List Value->List Value->List Value)(gV:List V->List V->List V):Prop where
 to:∀(s:Shared) (us ws:List Value),K.In s.heap->(g us ws).length=ps.length->BindsTo s fd ⟨us,ks.zip ws⟩ (ps.zip (g us ws))
 rel:∀ {vs:List V} {us:List Value} {zs:List V} {ws:List Value},bg vs us->bg zs ws->bg (gV vs zs) (g us ws)
variable{g:List Value->List Value->List Value}{gV:List V->List V->List V}
end
structure aT (N P:List Str)(sc:Scope):Prop where
 kind:sc.kind=.function
 co:sc.isCoroutine=false
 gen:sc.isGenerator=false
 nd:N.Nodup
 pre:N.take P.length=P
 par:∀x∈P,sc.names.lookup x=some .local\/sc.names.lookup x=some .cell
 Pp:∀y∈sc.names,y.2≠.free
theorem A4 {kindOf:Str->Option NameKind}{x:Str}:∀ {binds:List (Str×Value)} {m:Str->Option Value},(∀v,(x,v)∉binds)->bindL kindOf binds m x=m x
 |[],_,_=>rfl
 | (n,v)::r,m,h=>by
  unfold bindL;rw[A4 λw hw=>h w (ma _ hw)]
  split
  ·have:x≠n:=by rintro rfl;exact h v eg
   simp[this]
  rfl
theorem A5 {kindOf:Str->Option NameKind}{x:Str}:∀ {binds:List (Str×Value)} {m:Str->Option Value},(∀v,(x,v)∉binds)->bindC kindOf binds m x=m x
 |[],_,_=>rfl
 | (n,v)::r,m,h=>by
  unfold bindC;rw[A5 λw hw=>h w (ma _ hw)]
  split
  ·rfl
  have:x≠n:=by rintro rfl;exact h v eg
  simp[this]
theorem A6 {kindOf:Str->Option NameKind}{x:Str}{v:Value}:∀ {P:List Str} {vs:List Value} {i:Nat} {m:Str->Option Value},P.Nodup->P[i]?=some x->vs[i]?=some v->kindOf x=some .local ->
  bindL kindOf (P.zip vs) m x=some v
 |[],_,_,_,_,h,_,_=>by simp at h
 |_::_,[],_,_,_,_,h,_=>by simp at h
 |p::P,w::vs,0,m,nd,h1,h2,hk=>by
  simp at h1 h2;subst h1;subst h2;show bindL kindOf ((p,w)::P.zip vs) m p=_;unfold bindL;rw[A4 λv hv=>(List.nodup_cons.mp nd).1 (List.of_mem_zip hv).1,bp hk]
  simp
 |p::P,w::vs,i+1,m,nd,h1,h2,hk=>by
  show bindL kindOf ((p,w)::P.zip vs) m x=_;unfold bindL;exact A6 (i:=i) (List.nodup_cons.mp nd).2 (by simpa using h1) (by simpa using h2) hk
theorem A7 {kindOf:Str->Option NameKind}{x:Str}{v:Value}:∀ {P:List Str} {vs:List Value} {i:Nat} {m:Str->Option Value},P.Nodup->P[i]?=some x->vs[i]?=some v->kindOf x≠some .local ->
  bindC kindOf (P.zip vs) m x=some v
 |[],_,_,_,_,h,_,_=>by simp at h
 |_::_,[],_,_,_,_,h,_=>by simp at h
 |p::P,w::vs,0,m,nd,h1,h2,hk=>by
  simp at h1 h2;subst h1;subst h2;show bindC kindOf ((p,w)::P.zip vs) m p=_;unfold bindC;rw[A5 λv hv=>(List.nodup_cons.mp nd).1 (List.of_mem_zip hv).1,aZ hk]
  simp
 |p::P,w::vs,i+1,m,nd,h1,h2,hk=>by
  show bindC kindOf ((p,w)::P.zip vs) m x=_;unfold bindC;exact A7 (i:=i) (List.nodup_cons.mp nd).2 (by simpa using h1) (by simpa using h2) hk
noncomputable def start (N:List Str)(vs:List V):St:=vs.map some++List.replicate (N.length - vs.length) none
noncomputable def Gs (CX:CXT)(P:wt)(w:World)(K:de)(mg:Str->Option Value)(base:Heap)(N:List Str)(qual:Str)(scope:Scope)(f:Addr)(cd:Value)(A:Around)(outer:List Env)(s:Shared)(H:Hp)(E:XK):Cx where
 prog:=P
 w:=w
 K:=K
 mg:=mg
 base:=base
 A:=A.deeper (envOfC qual scope s.heap.objs.size f cd)
 N:=N
 s₀:=s
 H₀:=H
 env:=envOfC qual scope s.heap.objs.size f cd
 outer:=outer
 stack:=envOfC qual scope s.heap.objs.size f cd::outer
 ex:=[]
 calm:=true
 fn:=λ_=>true
 pn:=[]
 xe:=λe s'=>wpAny (model P w) (A.deeper (envOfC qual scope s.heap.objs.size f cd)) (leaving (envOfC qual scope s.heap.objs.size f cd) e) (λ_ s''=>CX outer H s E e s'') (λe' s''=>CX outer H s E e' s'') s'
theorem D9 {sc:Scope}{n:Nat}{x:Str}(h:sc.names.lookup x=some .cell):∃c,(cellsFrom n sc.names []).lookup x=some c:=by
 have q:=PySem.W.cellsFrom_some sc.names n [] (.inl h);exact Option.isSome_iff_exists.mp q
theorem Jw {CX:CXT}{P:wt}{w:World}{K:de}{mg:Str->Option Value}{base:Heap}{N ps:List Str}{qual:Str}{scope:Scope}{f:Addr}{cd:Value}{A:Around}{outer:List Env}{s s1:Shared}{H:Hp}{E:XK}{us:List Value}{vs:List V}
  (S:aT N ps scope) (hd:A.handled=none) (e0:DZ P w K mg base A outer s H) (hl:vs.length=ps.length) (r:bg vs us)
  (x:InCallC s s.heap.objs.size (bindL (envOfC qual scope s.heap.objs.size f cd).kindOf (ps.zip us) λ_=>none) (cellsFrom (s.heap.objs.size+1) scope.names []) (bindC (envOfC qual scope s.heap.objs.size f cd).kindOf (ps.zip us) λ_=>none) s1) :
  av (Gs CX P w K mg base N qual scope f cd A outer s H E) [] (start N vs) H s1:=by
 have hpl:ps.length<=N.length:=by have:=congrArg Wf S.pre;rw[Vf]at this;omega
 obtain⟨h1,tk,rfl,hk⟩:=x.done;have noA:∀b:Addr,b∉(Gs CX P w K mg base N qual scope f cd A outer s H E).ex:=λb z=>absurd (show b∈([]:List Addr) from z) (by simp)
 refine⟨⟨e0.mod,S.kind,rfl,rfl,mv _,λy z c h1 h2=>?_,λy hy=>?_,λy c _ h=>?_,λ_=>hd,Around.frames_deeper e0.frames,.inr ⟨rfl,rfl⟩,λb z=>absurd z (noA b),e0.bs,e0.bsz,λb _ _=>noA b,λb z=>absurd z (noA b),e0.uY,e0.frf⟩,
  rfl,e0.bare,Un.kept hk,⟨_,x.toInCall.ns,λi y v h1 h2 h3=>?_⟩,λy c h=>⟨_,x.cell y c h⟩,e0.hok.fresh (mv _),λy c h=>?_,λp hp=>absurd (show p∈([]:List (Addr×Obj)) from hp) (by simp),e0.hok.kept hk,?_⟩
 ·exact name_of_addr x.apart (Wa h1) (Wa h2)
 ·have hy:scope.names.lookup y=some .cell\/scope.names.lookup y=some .free:=hy;rcases hy with hy | hy
  ·exact D9 hy
  exact absurd rfl (S.Pp _ (Wa hy))
 ·exact Nat.le_of_lt (x.above y c (Wa h))
 ·have hi:i < vs.length:=by
   unfold start at h2
   by_cases hi:i < vs.length
   ·exact hi
   rw[List.getElem?_append_right (by simpa using hi)]at h2
   rw[List.getElem?_replicate]at h2;split at h2 <;> cases h2
  have ha:vs[i]?=some v:=by
   unfold start at h2;rw[Wm (by simpa using hi),sr]at h2
   cases e:vs[i]? with
   |none=>rw[e]at h2;cases h2
   |some a=>rw[e]at h2;cases h2;rfl
  obtain⟨u,hu,rv⟩:=r.get ha;have hp:ps[i]?=some y:=by
   rw[<-S.pre,List.getElem?_take_of_lt (by omega)];exact h1
  have ndP:ps.Nodup:=by rw[<-S.pre];exact S.nd.sublist (List.take_sublist _ _)
  refine⟨u,rv,?_⟩;rcases S.par y (U2 hp) with k | k
  ·exact .inl ⟨k,A6 ndP hp hu k⟩
  obtain⟨c,e⟩:=D9 (n:=s.heap.objs.size+1) k;refine .inr ⟨.inl k,c,e,?_⟩;have q:=x.cell y c e;rw[A7 ndP hp hu (by show scope.names.lookup y≠_;rw[k];decide)]at q
  exact q
 ·exact e0.hok.fresh (Nat.le_of_lt (x.above y c (Wa h)))
 unfold start;show _=N.length;rw[ki,bo,List.length_replicate];omega
theorem RJ {CX:CXT}{P:wt}{w:World}{K:de}{mg:Str->Option Value}{base:Heap}{k:Nat}{f:Addr}{name qual:Str}{params:Arguments}{body:List Stmt}{scope:Scope}{dV kV doc pm cdv ct oc:Value}{an od:Option Addr}
  {osl:Array (Option Value)} {N ps:List Str} {sp:Sp} (lk:K.lookup f=some ⟨oc,od,.func (PySem.W.fnOf name qual params body scope dV kV doc pm an cdv ct),osl⟩) (hcd:PySem.W.codeIn K cdv qual=true) (S:aT N ps scope)
  (len:∀vs H Q E,sp vs H Q E->vs.length=ps.length)
  (Kn:∀(A:Around) (outer:List Env) (s:Shared) (H:Hp) (vs:List V) (Q:VK) (E:XK),b7 k (A.deeper (envOfC qual scope s.heap.objs.size f cdv))->sp vs H Q E ->
   ∃t,PSs (Gs CX P w K mg base N qual scope f cdv A outer s H E) body t/\t { nx:=λ_ H'=>Q .non H',rt:=Q } (start N vs) H) :
  aC P w K mg base CX (k+1) f (PySem.W.fnOf name qual params body scope dV kV doc pm an cdv ct) ps sp:=by
 refine⟨len,λA outer s H args us vs Q E hr e0 hb r hsp=>?_⟩
 have hl:=len _ _ _ _ hsp;have KX:K.In s.heap:=e0.mod.kin.keeps λb o e=>(e0.bs b o e).1
 have lim:s.heap.NoLimit:=e0.mod.nolimit.keeps λb o e=>(e0.bs b o e).1
 have RK:∀y∈ps.zip us,scope.names.lookup y.1=some .local\/(scope.names.lookup y.1=some .cell/\((cellsFrom (s.heap.objs.size+1) scope.names []).lookup y.1).isSome=true):=λ⟨n,v⟩ hy=>by
  rcases S.par n (List.of_mem_zip hy).1 with q | q
  ·exact .inl q
  exact .inr ⟨q,PySem.W.cellsFrom_some _ _ _ (.inl q)⟩
 refine codeAny_call_function hr.depth (KX _ _ lk) rfl S.co S.gen rfl (PySem.W.codeRec_of KX hcd) (hb _ _ _ _ ?_);refine wpAny_newFunctionEnv_cells S.kind RK λenv he s1 x=>?_
 subst he;refine⟨lim.keeps x.toInCall.keep,codeAny_func ?_⟩;obtain⟨t,ht,hq⟩:=Kn A outer s H vs Q E (hr.deeper _) hsp;have I:av (Gs CX P w K mg base N qual scope f cdv A outer s H E) [] (start N vs) H s1:=Jw S hr.hd e0 hl r x;refine Wl (ht [] s1 (start N vs) H _ I hq) (λfl s' hs=>?_) λe s' hs=>hs
 have fin:∀ {σ':St} {H':Hp} {v:V} {u:Value},av (Gs CX P w K mg base N qual scope f cdv A outer s H E) [] σ' H' s'->bE v u->Q v H'->CE outer P w H s Q u s' :=
  λ{σ' H' v u} J rv q=>⟨v,H',J.os,J.bare,J.base,J.hok,rv,q⟩
 cases fl with
 |ret u =>
  obtain⟨v,σ',H',J,rv,q⟩:=hs;exact fin J rv q
 |next =>
  obtain⟨σ',H',J,q⟩:=hs;exact fin (v:=V.non) (u:=Value.none) J rfl q
 |brk =>
  obtain⟨_,_,_,q⟩:=hs;exact V8 q
 |cont =>
  obtain⟨_,_,_,q⟩:=hs;exact V8 q
section
variable{X:Cx}{x:Str}{p pos:Pos}{e:Expr}{es:List Expr}{t:TA}{id T:String}{r:List V->Hp->VK->Prop}
def tCB (r:List V->Hp->VK->Prop)(t:TA):TE:=λσ H Q=>t σ H λvs H1=>r vs H1 Q
theorem bA (hc:j3 X (.builtin id) r)(hg:Gl X x)(hm:X.mg x=none)(hv:VO x=some (.builtin id))(ha:PA X (e::es) t)(hn:x≠"__name__":=by decide)(hdb:(x == ("__debug__":Str))=false:=by decide)
  (he:Vn (e::es) X.env=(false,eval e X.env)::Vn es X.env:=by rfl) (hpl:(backTo pos (Vn es X.env)).any (·.1)=false:=by rfl):PE X (.Call (.Name x p) (e::es) [] pos) (tCB r t):=by
 intro af s σ H Q I h;refine wpAny_Call_Name_kw (CB I hg hm hv ?_ hn hdb);exact PyProof.Rows.callWith_builtin1 (thn (ha pos af s σ H _ I h) λus s1 ⟨vs,H1,I1,r1,q1⟩=>hc af s1 σ H1 vs us Q I1 r1 q1) he hpl
theorem cc (hc:j3 X (.type T) r)(hg:Gl X x)(hm:X.mg x=none)(hv:VO x=some (.type T))(ha:PA X (e::es) t)(hn:x≠"__name__":=by decide)(hdb:(x == ("__debug__":Str))=false:=by decide)
  (he:Vn (e::es) X.env=(false,eval e X.env)::Vn es X.env:=by rfl) (hpl:(backTo pos (Vn es X.env)).any (·.1)=false:=by rfl):PE X (.Call (.Name x p) (e::es) [] pos) (tCB r t):=by
 intro af s σ H Q I h;refine wpAny_Call_Name_kw (CB I hg hm hv ?_ hn hdb);exact PyProof.Rows.callWith_type1 (thn (ha pos af s σ H _ I h) λus s1 ⟨vs,H1,I1,r1,q1⟩=>hc af s1 σ H1 vs us Q I1 r1 q1) he hpl
end
end _L
namespace HT
open PySem PyProof.Rows
section
variable{prog:wt}{w:World}{A:Around}{E:Value->Shared->Prop}{s:Shared}
theorem Nb {t b:Addr}{vs ws:List Value}{Q:Value->Shared->Prop}(ht:IsTup s.heap t vs.toArray)(hb:IsTup s.heap b ws.toArray)(hv:vs≠[])
  (h1:ws=[]->Q (.ref t) s) (h2:ws≠[]->Q (.ref s.heap.objs.size) { s with heap:=s.heap.push { cls:=.type "tuple",data:=.seq (vs++ws).toArray } })
  (hsz:vs.length+ws.length<=fu):wpAny (model prog w) A (WD .Add (.ref t) (.ref b)) Q E s:=by
 obtain⟨⟨cls,dd,data,sl⟩,ho,hc,n,hd⟩:=id ht;obtain⟨⟨UI,dd2,data2,sl2⟩,ho2,hc2,n2,hd2⟩:=id hb;simp only at hc hd hc2 hd2;subst hc hd hc2 hd2;have e:vs.toArray++ws.toArray=(vs++ws).toArray:=by simp
 by_cases hw:ws=[]
 ·exact concat_meets ⟨_,ho,rfl⟩ ⟨_,ho2,rfl⟩ noFill_tuple_add seq_tuple_add PySem.F.slot_tuple_add PySem.F.entry_tuple_add (PySem.F.args_tuple_add_2 _ _)
   (tuple_addW1 t b vs.toArray ws.toArray n n2 dd dd2 sl sl2 (by simpa using hv) (by simp[hw])) ⟨ho,ho2,h1 hw⟩
 refine concat_meets ⟨_,ho,rfl⟩ ⟨_,ho2,rfl⟩ noFill_tuple_add seq_tuple_add PySem.F.slot_tuple_add PySem.F.entry_tuple_add (PySem.F.args_tuple_add_2 _ _)
  (tuple_addW2 t b vs.toArray ws.toArray n n2 dd dd2 sl sl2 (by simpa using hv) (by simpa using hw) (by rw[si,si];exact hsz)) ⟨ho,ho2,?_⟩
 rw[e];exact h2 hw
def sIx (n d:Nat):Option Int->Nat
 |none=>d
 |some v=>if v < 0 then (v+(n:Int)).toNat else min v.toNat n
theorem xQ (n d:Nat):sIx n d none=d:=rfl
theorem mX (n d k:Nat):sIx n d (some (k:Int))=min k n:=by
 show (if (k:Int) < 0 then ((k:Int)+(n:Int)).toNat else min (k:Int).toNat n)=min k n
 rw[aZ (by omega),VT]
theorem Pq (n d:Nat)(hd:d<=n)(o:Option Int):sIx n d o<=n:=by
 cases o with
 |none=>exact hd
 |some v =>
  show (if v < 0 then (v+(n:Int)).toNat else min v.toNat n)<=n
  by_cases hv:v < 0
  ·rw[bp hv];omega
  rw[aZ hv];exact Nat.min_le_right _ _
theorem HK (v:Int)(n d:Nat):(if v < 0 then max (v+(n:Int)) 0 else min v (n:Int))=((sIx n d (some v):Nat):Int):=by
 show (if v < 0 then max (v+(n:Int)) 0 else min v (n:Int))=(((if v < 0 then (v+(n:Int)).toNat else min v.toNat n):Nat):Int)
 by_cases hv:v < 0
 ·simp only[bp hv];omega
 simp only[aZ hv];omega
theorem Gu (lo hi:Option Int)(n:Nat):Builtin.Slice.sliceAdjust lo hi 1 (n:Int)=(((sIx n 0 lo:Nat):Int),((sIx n n hi:Nat):Int)):=by
 have h1:¬((1:Int) < 0):=by omega
 unfold Builtin.Slice.sliceAdjust;simp only[h1,if_false];refine Prod.ext ?_ ?_
 ·cases lo with
  |none=>rfl
  |some v=>exact HK v n 0
 cases hi with
 |none=>rfl
 |some v=>exact HK v n n
theorem Gv (i j:Nat):Wo (i:Int) (j:Int) 1=j - i:=by
 unfold Wo;have h1:(1:Int) > 0:=by omega
 simp only[h1,if_true,Int.ediv_one];split <;> omega
theorem xR {v:Value}{o:Option Int}{Q:Option Int->Shared->Prop}(p:IsPart v o)(h:Q o s):wpAny (model prog w) A (Builtin.Slice.slicePartIndex v) Q E s:=by
 cases p with
 |none=>exact slicePart_none h
 |int i t=>exact slicePart_int h
theorem u4 {sl:Addr}{vl vu:Value}{lo hi:Option Int}{n:Nat}{Q:Int×Int×Nat->Shared->Prop}(hs:s.heap.IsSliceOf sl vl vu .none)(pl:IsPart vl lo)(pu:IsPart vu hi)
  (h:Q (((sIx n 0 lo:Nat):Int),1,sIx n n hi - sIx n 0 lo) s):wpAny (model prog w) A (Builtin.Slice.sliceApplied (.ref sl) (pure (n:Int))) Q E s:=by
 obtain⟨os,hos,hcs,hds⟩:=id hs;unfold Builtin.Slice.sliceApplied Builtin.Slice.sliceFields;refine UX (UX (wpAny_field hos hds (x:=vl) rfl (UX (wpAny_field hos hds (x:=vu) rfl (UX (wpAny_field hos hds (x:=.none) rfl (Vd ?_)))))));refine UX (slicePart_none ?_);show wpAny _ _ (if ((1:Int) == 0)=true then _ else _) _ _ s
 rw[aZ (by decide)]
 refine UX (xR pl (UX (xR pu (UX (Vd ?_)))));show wpAny _ _ (match Builtin.Slice.sliceAdjust lo hi 1 (n:Int) with | (lo,hi)=>pure (lo,(1:Int),Wo lo hi 1)) _ _ s
 rw[Gu lo hi n];show wpAny _ _ (pure (((sIx n 0 lo:Nat):Int),(1:Int),Wo ((sIx n 0 lo:Nat):Int) ((sIx n n hi:Nat):Int) 1)) _ _ s;rw[Gv];exact Vd h
theorem Ko (xs:Array Value)(i k:Nat):((Wu k).filterMap λ(m:Nat)=>xs[((i:Int)+(m:Int) * 1).toNat]?).toArray=((xs.toList.drop i).take k).toArray:=by
 have e:(λ(m:Nat)=>xs[((i:Int)+(m:Int) * 1).toNat]?)=λm=>xs[i+m]?:=by
  funext m
  have:((i:Int)+(m:Int) * 1).toNat=i+m:=by omega
  rw[this]
 rw[e];have:=pick_run xs i k;rw[List.filterMap_map]at this;have e2:((λx=>xs[x]?)∘λx=>i+x)=λm=>xs[i+m]?:=rfl
 rw[e2]at this;rw[this]
theorem tG {t sl:Addr}{items:Array Value}{vl vu:Value}{lo hi:Option Int}{Q:Value->Shared->Prop}(ht:IsTup s.heap t items)(hs:s.heap.IsSliceOf sl vl vu .none)(pl:IsPart vl lo)(pu:IsPart vu hi)
  (hw:¬(sIx items.size 0 lo=0/\sIx items.size items.size hi=items.size))
  (h:Q (.ref s.heap.objs.size) { s with heap:=s.heap.push { cls:=.type "tuple",data:=.seq ((items.toList.drop (sIx items.size 0 lo)).take (sIx items.size items.size hi - sIx items.size 0 lo)).toArray } })
  (hsz:items.size<=fu):wpAny (model prog w) A (getItem (.ref t) (.ref sl)) Q E s:=by
 have HL:sizeOk (.seq ((items.toList.drop (sIx items.size 0 lo)).take (sIx items.size items.size hi - sIx items.size 0 lo)).toArray):=by
  show ((items.toList.drop (sIx items.size 0 lo)).take (sIx items.size items.size hi - sIx items.size 0 lo)).toArray.size<=fu;rw[si,Vf,VM,Wx];omega
 have hj:sIx items.size items.size hi<=items.size:=Pq _ _ (mv _) hi;obtain⟨os,hos,hcs,hds⟩:=id hs;have hTs:s.TypeIs (.ref sl) "slice":=⟨os,hos,hcs⟩;unfold getItem
 try with_reducible refine wpAny_holding ?_
 first | refine UX (Vd ?_) | skip
 refine UX (wpAny_sequenceKey ht.typeIs (by decide) ?_)
 refine UX (wpAny_callSpecial?_slot (name:=ar "__getitem__") ht.typeIs PyProof.Rows.slot_tuple_getitem
  (wpAny_call_entry PyProof.Rows.slot_tuple_getitem ht.typeIs entry_tuple_getitem ?_ (args_tuple_getitem _ _)))
 show wpAny _ _ (Builtin.Tuple.tupleItemsOf (.ref t) >>= _) _ _ s;refine UX (tupleItemsOf_ ht ?_);refine UX (wpAny_typeOf hTs ?_);rw[bp (by decide)]
 refine UX (u4 hs pl pu ?_);have hno:¬((((sIx items.size 0 lo:Nat):Int) == 0 && (1:Int) == 1 && (sIx items.size items.size hi - sIx items.size 0 lo) == items.size)=true):=by
  intro q;rw[U3,U3]at q;have q1:((sIx items.size 0 lo:Nat):Int)=0:=eq_of_beq q.1.1;have q2:sIx items.size items.size hi - sIx items.size 0 lo=items.size:=eq_of_beq q.2;exact hw ⟨by omega,by omega⟩
 show wpAny _ _ (if (((sIx items.size 0 lo:Nat):Int) == 0 && (1:Int) == 1 && (sIx items.size items.size hi - sIx items.size 0 lo) == items.size)=true then _ else _) _ _ s
 rw[aZ hno,Ko]
 first
  |exact UX (m:=Wv _) (wpAny_newObj_type (Vd ⟨_,rfl,Vd h⟩) HL)
  |exact UX (m:=Wv _) (wpAny_newObj_type (UX (Vd (Vd ⟨_,rfl,Vd h⟩))) HL)
  |exact UX (UX (m:=Wv _) (wpAny_newObj_type (Vd (Vd ⟨_,rfl,Vd h⟩)) HL))
  |exact UX (UX (m:=Wv _) (wpAny_newObj_type (Vd ⟨_,rfl,Vd h⟩) HL))
end
end HT
namespace _L
open PySem PySem.Spec PyProof.Rows
abbrev TO:=St->Hp->(Option Int->Hp->Prop)->Prop
def PO (X:Cx)(e:Option Expr)(t:TO):Prop :=
 ∀(af:List (Addr×Obj)) (s:Shared) (σ:St) (H:Hp) (Q:Option Int->Hp->Prop),av X af σ H s->t σ H Q ->
  wpAny (model X.prog X.w) X.A (evalPart e X.env) (λu s'=>∃o H',av X af σ H' s'/\IsPart u o/\Q o H') X.xe s
def Nc:TO:=λ_ H Q=>Q none H
def RL (t:TE):TO:=λσ H Q=>t σ H λx H1=>∃i,x=.int i/\Q (some i) H1
section
variable{X:Cx}{e:Expr}{te:TE}{lo hi:Option Expr}{tl th:TO}{pos p2:Pos}
theorem ef:PO X none Nc:=by
 intro af s σ H Q I h;rw[evalPart_none];exact Vd ⟨none,H,I,.none,h⟩
theorem dU (h:PE X e te):PO X (some e) (RL te):=by
 intro af s σ H Q I hw;rw[evalPart_some];refine thn (h af s σ H _ I hw) λu s1 ⟨x,H1,I1,r1,q1⟩=>?_
 obtain⟨i,rfl,q⟩:=q1;obtain⟨t,rfl⟩:=r1;exact⟨some i,H1,I1,.int i t,q⟩
def SlR (X:Cx)(r:V->Option Int->Option Int->Hp->VK->Prop):Prop :=
 ∀(af:List (Addr×Obj)) (s:Shared) (σ:St) (H:Hp) (x:V) (v vl vu:Value) (lo hi:Option Int) (sl:Addr) (Q:VK),av X af σ H s->bE x v->s.heap.IsSliceOf sl vl vu .none->IsPart vl lo->IsPart vu hi->r x lo hi H Q ->
  ∃T id,typeLookup (.type T) "__getitem__"=pure (some (.builtin id))/\s.TypeIs v T/\wpAny (model X.prog X.w) X.A (getItem v (.ref sl)) (EP X af σ Q) X.xe s
def tSl (r:V->Option Int->Option Int->Hp->VK->Prop)(te:TE)(tl th:TO):TE:=λσ H Q=>te σ H λx H1=>tl σ H1 λl H2=>th σ H2 λu H3=>r x l u H3 Q
theorem df {r:V->Option Int->Option Int->Hp->VK->Prop}(hr:SlR X r)(he:PE X e te)(hl:PO X lo tl)(hu:PO X hi th):PE X (.Subscript e (.Slice lo hi none p2) pos) (tSl r te tl th):=by
 intro af s σ H Q I h;refine Subscript_ (thn (he af s σ H _ I h) λv s1 ⟨x,H1,I1,r1,q1⟩=>?_)
 refine wpAny_Slice (thn (hl af s1 σ H1 _ I1 q1) λvl s2 ⟨l,H2,I2,pl,q2⟩=>thn (hu af s2 σ H2 _ I2 q2) λvu s3 ⟨u,H3,I3,pu,q3⟩=>?_)
 rw[evalPart_none];refine Vd ?_;have I4:av X af σ H3 { s3 with heap:=s3.heap.push { cls:=.type "slice",data:=.fields #[vl,vu,.none] } }:=I3.kept (t':=s3.toks) λb ob q=>me _ q
 obtain⟨T,id,hT,ht,hg⟩:=hr af { s3 with heap:=s3.heap.push { cls:=.type "slice",data:=.fields #[vl,vu,.none] } } σ H3 x v vl vu l u s3.heap.objs.size Q I4 r1 (Heap.IsSliceOf.new ..) pl pu q3
 show wpAny (model X.prog X.w) X.A (subscriptTail e (.Slice lo hi none p2) v (.ref s3.heap.objs.size)) (EP X af σ Q) X.xe { s3 with heap:=s3.heap.push { cls:=.type "slice",data:=.fields #[vl,vu,.none] } }
 exact tail_any (ops:=[.ref s3.heap.objs.size,v]) ht hT hg (by with_unfolding_all rfl)
noncomputable def dQ (xs:List V)(lo hi:Option Int):List V:=(xs.drop (HT.sIx xs.length 0 lo)).take (HT.sIx xs.length xs.length hi - HT.sIx xs.length 0 lo)
theorem gD (xs:List V)(lo hi:Option Int):(dQ xs lo hi).length<=xs.length:=by
 unfold dQ;rw[Vf,VM];omega
def Tw (K:de):V->Option Int->Option Int->Hp->VK->Prop:=λx lo hi H Q=>∃a xs,x=.ref a/\aW K H a xs /\
 ¬(HT.sIx xs.length 0 lo=0/\HT.sIx xs.length xs.length hi=xs.length)/\∀p,H p=none->Q (.ref p) (ag H p (.tup (dQ xs lo hi)))
theorem Gw:SlR X (Tw X.K):=by
 intro af s σ H x v vl vu lo hi sl Q I rx hs pl pu h;obtain⟨a,xs,rfl,hx,hw,q⟩:=h;cases rx;obtain⟨its,r,ht,hz⟩:=I.tuple hx;have hlen:its.toArray.size=xs.length:=by rw[si];exact r.length.symm
 refine⟨"tuple",_,PyProof.Rows.slot_tuple_getitem.lookup,ht.typeIs,?_⟩;refine HT.tG ht hs pl pu (by rw[hlen];exact hw) ?_ (by rw[hlen];exact hz)
 rw[hlen];refine⟨.ref s.heap.objs.size,_,I.laid (t':=s.toks) (o:=.tup (dQ xs lo hi)) (λb ob q=>me _ q) (mv _) ?_,rfl,q _ (I.hok.fresh (mv _))⟩
 exact⟨Vc (gD xs lo hi) hz,_,(r.drop (HT.sIx xs.length 0 lo)).take (HT.sIx xs.length xs.length hi - HT.sIx xs.length 0 lo),IsTup.new _ _⟩
def RM (K:de):R2:=λx y H Q=>∃a b xs ys,x=.ref a/\y=.ref b/\aW K H a xs/\aW K H b ys/\xs≠[]/\xs.length+ys.length<=fu /\
 (ys=[]->Q (.ref a) H)/\(ys≠[]->∀p,H p=none->Q (.ref p) (ag H p (.tup (xs++ys))))
theorem bg.CG {xs:List V}{us:List Value}(r:bg xs us):us=[]↔xs=[]:=by
 cases r with
 |nil=>simp
 |cons _ _=>simp
theorem HM:OpR X (WD .Add) (RM X.K):=by
 intro af s σ H x y v u Q I rx ry h;obtain⟨a,b,xs,ys,rfl,rfl,ha,hb,hx,hz,q1,q2⟩:=h;cases rx;cases ry;obtain⟨its,r1,p1,_⟩:=I.tuple ha;obtain⟨Ea,r2,p2,_⟩:=I.tuple hb;refine HT.Nb p1 p2 (λz=>hx (r1.CG.mp z)) (λz=>⟨.ref a,H,I,rfl,q1 (r2.CG.mp z)⟩) (λz=>?_) (by rw[<-r1.length,<-r2.length];exact hz)
 refine⟨.ref s.heap.objs.size,_,I.laid (t':=s.toks) (o:=.tup (xs++ys)) (λb ob q=>me _ q) (mv _) ?_,rfl,q2 (λw=>z (r2.CG.mpr w)) _ (I.hok.fresh (mv _))⟩
 exact⟨by rw[ki];exact hz,_,r1.append r2,IsTup.new _ _⟩
end
noncomputable def ixN (n:Nat)(i:Int):Option Nat:=if 0<=i then (if i < n then some i.toNat else none) else if -(n:Int)<=i then some (i+n).toNat else none
def atI {α:Type}(xs:List α)(i:Int):Option α:=(ixN xs.length i).bind λj=>xs[j]?
theorem CH {n:Nat}{i:Int}{j:Nat}(h:ixN n i=some j):seqIndex? i n=some j/\j < n/\-(n:Int)<=i/\i < n:=by
 unfold ixN at h
 by_cases h0:0<=i
 ·rw[bp h0]at h
  by_cases h1:i < n
  ·rw[bp h1]at h;have e:i.toNat=j:=US h;exact⟨by rw[seqIndex_of h0 h1,e],by omega,by omega,h1⟩
  rw[aZ h1]at h;cases h
 rw[aZ h0]at h
 by_cases h1:-(n:Int)<=i
 ·rw[bp h1]at h;have e:(i+n).toNat=j:=US h;exact⟨by rw[seqIndex_neg (by omega) h1,e],by omega,h1,by omega⟩
 rw[aZ h1]at h;cases h
theorem CI {α:Type}{xs:List α}{i:Int}{v:α}(h:atI xs i=some v):∃j,seqIndex? i xs.length=some j/\xs[j]?=some v/\j < xs.length/\-(xs.length:Int)<=i/\i < xs.length:=by
 unfold atI at h;cases e:ixN xs.length i with
 |none=>rw[e]at h;cases h
 |some j =>
  rw[e]at h;obtain⟨h1,h2,h3,h4⟩:=CH e;exact⟨j,h1,h,h2,h3,h4⟩
theorem cS {α:Type}{xs:List α}{j:Nat}{v:α}(h:xs[j]?=some v):atI xs (j:Int)=some v:=by
 have hj:j < xs.length:=(List.getElem?_eq_some_iff.mp h).1;have e:ixN xs.length (j:Int)=some j:=by
  unfold ixN;rw[bp (by omega),bp (by omega)];simp
 unfold atI;rw[e];exact h
theorem fG {α:Type}(xs:List α)(v:α):atI (xs++[v]) (-1)=some v:=by
 have hl:(xs++[v]).length=xs.length+1:=by simp
 have e:ixN (xs++[v]).length (-1)=some xs.length:=by
  unfold ixN;rw[hl,aZ (by decide),bp (by omega)]
  congr 1
  omega
 unfold atI;rw[e];show (xs++[v])[xs.length]?=some v;simp
def Nd (b:Expr):Prop:=∀o i,subscripted b false o i=operate [o,i] (getItem o i)
def IxR (X:Cx)(r:R2):Prop :=
 ∀(value slice:Expr) (af:List (Addr×Obj)) (s:Shared) (σ:St) (H:Hp) (x y:V) (v u:Value) (Q:VK),av X af σ H s->bE x v->bE y u->r x y H Q ->
  subscripted slice false v u=operate [v,u] (getItem v u)->wpAny (model X.prog X.w) X.A (subscriptTail value slice v u) (EP X af σ Q) X.xe s
def MtR (X:Cx)(id:String)(r:V->List V->Hp->VK->Prop):Prop :=
 ∀(af:List (Addr×Obj)) (s:Shared) (σ:St) (H:Hp) (x:V) (xs:List V) (v:Value) (us:List Value) (Q:VK),av X af σ H s->bE x v->bg xs us->r x xs H Q ->
  wpAny (model X.prog X.w) X.A (call (.builtin id) (v::us)) (EP X af σ Q) X.xe s
section
variable{X:Cx}{a b:Expr}{ta tb:TE}{pos:Pos}
theorem IxR.or {r r':R2}(h:IxR X r)(h':IxR X r'):IxR X (λx y H Q=>r x y H Q\/r' x y H Q):=by
 intro value slice af s σ H x y v u Q I rx ry q hs;rcases q with q | q
 ·exact h value slice af s σ H x y v u Q I rx ry q hs
 exact h' value slice af s σ H x y v u Q I rx ry q hs
theorem aO {r:R2}(hr:IxR X r)(ha:PE X a ta)(hb:PE X b tb)(hs:Nd b:=by exactλ_ _=>rfl):PE X (.Subscript a b pos) (tOp r ta tb):=by
 intro af s σ H Q I h;exact Subscript_ (Pj ha hb I h λv u s2 x y H2 I2 rx ry q=>hr a b af s2 σ H2 x y v u Q I2 rx ry q (hs _ _))
def Ps (K:de):R2:=λx y H Q=>∃p xs i v,x=.ref p/\y=.int i/\ay K H p xs/\atI xs i=some v/\Q v H
def RN (K:de):R2:=λx y H Q=>∃p xs i v,x=.ref p/\y=.int i/\aW K H p xs/\atI xs i=some v/\Q v H
def RO:R2:=λx y H Q=>∃z i c,x=.str z/\y=.int i/\z.length<=fu/\atI z.cps.toList i=some c/\Q (.str ⟨#[c]⟩) H
theorem br:IxR X (Ps X.K):=by
 intro value slice af s σ H x y v u Q I rx ry h hs;obtain⟨p,xs,i,z,rfl,rfl,hq,he,q⟩:=h;cases rx;obtain⟨t,rfl⟩:=ry;obtain⟨its,r,pl,hz⟩:=I.list hq;obtain⟨j,h1,h2,h3,h4,h5⟩:=CI he;obtain⟨w,ew,rw'⟩:=r.get h2;have hl:=r.length;have hn:=pf;have fin:EP X af σ Q w s:=⟨z,H,I,rw',q⟩
 by_cases h0:0<=i
 ·have hj:i.toNat=j:=by
   rw[seqIndex_of h0 h5]at h1;exact US h1
  exact item_listR pl.isList h0 (by omega) (by rw[hj];simpa using ew) fin hs
 have hj:(i+(its.toArray.size:Int)).toNat=j:=by
  rw[seqIndex_neg (by omega) h4]at h1
  rw[si,<-hl];exact US h1
 exact subscriptTail_builtinR (x:=w) pl.isList.typeIs slot_list_getitem.lookup
  (wpAny_getItem_list_neg (Q:=λr s'=>r=w/\EP X af σ Q r s') pl.isList (by omega) (by rw[si] <;> omega) (by omega) (by rw[hj];simpa using ew) ⟨rfl,fin⟩) hs
theorem aY:IxR X (RN X.K):=by
 intro value slice af s σ H x y v u Q I rx ry h hs;obtain⟨p,xs,i,z,rfl,rfl,hq,he,q⟩:=h;cases rx;obtain⟨t,rfl⟩:=ry;obtain⟨its,r,pl,hz⟩:=I.tuple hq;obtain⟨j,h1,h2,h3,h4,h5⟩:=CI he;obtain⟨w,ew,rw'⟩:=r.get h2;have hl:=r.length;have hn:=pf;have fin:EP X af σ Q w s:=⟨z,H,I,rw',q⟩;exact subscriptTail_builtinR (x:=w) pl.typeIs slot_tuple_getitem.lookup
  (getItem_tuple (j:=j) (Q:=λr s'=>r=w/\EP X af σ Q r s') pl (by omega) (by omega) (by rw[si,<-hl];exact h1) (by simpa using ew) ⟨rfl,fin⟩) hs
theorem xS:IxR X RO:=by
 intro value slice af s σ H x y v u Q I rx ry h hs;obtain⟨z,i,c,rfl,rfl,hz,he,q⟩:=h;obtain⟨t,rfl⟩:=rx;obtain⟨t',rfl⟩:=ry;obtain⟨j,h1,h2,h3,h4,h5⟩:=CI he;have hl:z.cps.toList.length=z.length:=by simp[Str.length]
 rw[hl]at h1 h4 h5;have hn:=pf;exact tail_any (typeIs_str s z t) slot_str_getitem.lookup (getItem_str (c:=c) (by
  have e1:decide (i < -(2 ^ 63:Int))=false:=bV (by omega)
  have e2:decide (i≥2 ^ 63)=false:=bV (by omega)
  rw[e1,e2,Bool.or_false]) (by rw[h1];simpa using h2) ⟨.str ⟨#[c]⟩,H,I.tok _,⟨_,rfl⟩,q⟩) hs
def rIx (K:de):R2:=λx y H Q=>Ps K x y H Q\/RN K x y H Q\/RO x y H Q
theorem Pt:IxR X (rIx X.K):=br.or (aY.or xS)
theorem Gx (its:List Value)(n j:Nat)(u:Value):Obj.mapSeq (·.setIfInBounds j u) { cls:=.type "list",data:=.seq its.toArray n }={ cls:=.type "list",data:=.seq (its.set j u).toArray n }:=by
 simp[Obj.mapSeq]
theorem av.lst {af:List (Addr×Obj)}{σ:St}{H:Hp}{s:Shared}{p:Addr}{xs:List V}(I:av X af σ H s)(h:H p=some (.lst xs)) :
  ∃(its:List Value) (n:Nat),bg xs its/\s.heap.get? p=some { cls:=.type "list",data:=.seq its.toArray n }/\xs.length<=fu:=by
 obtain⟨z,its,n,r,e⟩:=I.hok p _ h;exact⟨its,n,r,e,z⟩
theorem av.Pu {af:List (Addr×Obj)}{σ:St}{H:Hp}{s:Shared}{p:Addr}{xs ys:List V}{its its':List Value}{n n':Nat}{f:Obj->Obj}(I:av X af σ H s)(h:H p=some (.lst xs))
  (ho:s.heap.get? p=some { cls:=.type "list",data:=.seq its.toArray n }) (hf:f { cls:=.type "list",data:=.seq its.toArray n }={ cls:=.type "list",data:=.seq its'.toArray n' }) (r:bg ys its') (hz:ys.length<=fu) (t:Nat) :
  av X af σ (ag H p (.lst ys)) { s with heap:=s.heap.update p f,toks:=t }:=by
 have e:(s.heap.update p f).get? p=some { cls:=.type "list",data:=.seq its'.toArray n' }:=by
  rw[Heap.get?_update_self f ho (by rw[hf] <;> rfl),hf]
 refine I.write (x:=p) (e:=p) (by rw[h];trivial) (.inl rfl) (λb u hb q=>(Heap.get?_update_other _ _ (VG hb)).trans q) ⟨_,e⟩ ?_
 exact⟨hz,its',n',r,e⟩
def RP:V->V->V->Hp->(Hp->Prop)->Prop:=λo i v H Q=>∃p xs k j,o=.ref p/\i=.int k/\H p=some (.lst xs)/\ixN xs.length k=some j/\Q (ag H p (.lst (xs.set j v)))
theorem set_list:Rw X RP:=by
 intro af s σ H o i v ov iv u Q I ro ri rv h;obtain⟨p,xs,k,j,rfl,rfl,hp,hj,q⟩:=h;cases ro;obtain⟨t,rfl⟩:=ri;obtain⟨its,n,r,ho,hz⟩:=I.lst hp;obtain⟨h1,h2,h3,h4⟩:=CH hj;have hl:=r.length;have hn:=pf;have I':av X af σ (ag H p (.lst (xs.set j v))) { s with heap:=s.heap.update p (Obj.mapSeq (·.setIfInBounds j u)) } :=
  I.Pu hp ho (Gx its n j u) (r.set rv j) (by rw[V0];exact hz) s.toks
 by_cases h0:0<=k
 ·have hk:k.toNat=j:=by
   rw[seqIndex_of h0 h4]at h1;exact US h1
  exact PySem.W.ki_setAt ho h0 (by omega) (by rw[si,<-hl];exact h4) (by rw[hk];exact⟨_,I',q⟩)
 have hk:(k+(its.toArray.size:Int)).toNat=j:=by
  rw[seqIndex_neg (by omega) h3]at h1
  rw[si,<-hl];exact US h1
 exact PySem.W.ki_setBack ho (by omega) (by rw[si,<-hl];exact h3) (by omega) (by rw[hk];exact⟨_,I',q⟩)
theorem CJ (lo hi:Option Int)(n:Nat):(sliceBounds lo hi none n).1=((HT.sIx n 0 lo:Nat):Int)/\(sliceBounds lo hi none n).2.1=((HT.sIx n n hi:Nat):Int)/\(sliceBounds lo hi none n).2.2=1:=by
 refine⟨?_,?_,rfl⟩
 ·cases lo with
  |none=>simp[sliceBounds,HT.sIx]
  |some i =>
   simp only[sliceBounds,HT.sIx,Option.getD_none,show (1:Int) > 0 by decide,if_true]
   by_cases h:i < 0
   ·simp only[h,if_true] <;> omega
   simp only[h,if_false] <;> omega
 cases hi with
 |none=>simp[sliceBounds,HT.sIx]
 |some i =>
  simp only[sliceBounds,HT.sIx,Option.getD_none,show (1:Int) > 0 by decide,if_true]
  by_cases h:i < 0
  ·simp only[h,if_true] <;> omega
  simp only[h,if_false] <;> omega
theorem Av (its:List Value)(lo hi:Option Int):slicePick its.toArray lo hi none=((its.drop (HT.sIx its.length 0 lo)).take (HT.sIx its.length its.length hi - HT.sIx its.length 0 lo)).toArray:=by
 obtain⟨h1,h2,h3⟩:=CJ lo hi its.toArray.size;unfold slicePick;rw[h1,h2,h3];simp only[sliceRange_one,pick_run,si] <;> rfl
def Tx (K:de):V->Option Int->Option Int->Hp->VK->Prop:=λx lo hi H Q=>∃a xs,x=.ref a/\ay K H a xs/\∀p,H p=none->Q (.ref p) (ag H p (.lst (dQ xs lo hi)))
theorem eY:SlR X (Tx X.K):=by
 intro af s σ H x v vl vu lo hi sl Q I rx hs pl pu h;obtain⟨a,xs,rfl,hx,q⟩:=h;cases rx;obtain⟨its,r,ht,hz⟩:=I.list hx;have hlen:=r.length;refine⟨"list",_,slot_list_getitem.lookup,ht.isList.typeIs,?_⟩;refine wpAny_getItem_list_slice ht.isList hs pl pu .none (by simp) ?_ (by rw[si] <;> omega)
 rw[Av,<-hlen];refine⟨.ref s.heap.objs.size,_,I.laid (t':=s.toks) (o:=.lst (dQ xs lo hi)) (λb ob q=>me _ q) (mv _) ?_,rfl,q _ (I.hok.fresh (mv _))⟩
 exact⟨Vc (gD xs lo hi) hz,_,0,(r.drop (HT.sIx xs.length 0 lo)).take (HT.sIx xs.length xs.length hi - HT.sIx xs.length 0 lo),U9 _ rfl⟩
noncomputable def tH:V->Bool
 | .non=>true
 | .bl _=>true
 | .int _=>true
 | .str _=>true
 |_=>false
noncomputable def eqV:V->V->Bool
 | .non,.non=>true
 | .bl a,.bl b=>a == b
 | .bl a,.int b=>(if a then 1 else 0) == b
 | .int a,.bl b=>a == (if b then 1 else 0)
 | .int a,.int b=>a == b
 | .str a,.str b=>a == b
 |_,_=>false
theorem Pw {A:Around}{s:Shared}{y x:V}{u v:Value}(ry:bE y u)(rx:bE x v)(fy:tH y=true)(fx:tH x=true):SeqAt.EqAt A s u v (eqV y x):=by
 cases y with
 |non =>
  cases ry;cases x with
  |non=>cases rx;exact SeqAt.EqAt.same _
  |bl b=>cases rx;exact SeqAt.EqAt.none_bool b
  |int b=>obtain⟨t,rfl⟩:=rx;exact SeqAt.EqAt.none_int b t
  |str b=>obtain⟨t,rfl⟩:=rx;exact SeqAt.EqAt.none_str b t
  |_=>exact absurd (show false=true from fx) UW
 |bl a =>
  cases ry;cases x with
  |non=>cases rx;exact SeqAt.EqAt.bool_none a
  |bl b=>cases rx;exact SeqAt.EqAt.bool_bool a b
  |int b=>obtain⟨t,rfl⟩:=rx;exact SeqAt.EqAt.bool_int a b t
  |str b=>obtain⟨t,rfl⟩:=rx;exact SeqAt.EqAt.bool_str a b t
  |_=>exact absurd (show false=true from fx) UW
 |int a =>
  obtain⟨t',rfl⟩:=ry;cases x with
  |non=>cases rx;exact SeqAt.EqAt.int_none a t'
  |bl b=>cases rx;exact SeqAt.EqAt.int_bool a t' b
  |int b=>obtain⟨t,rfl⟩:=rx;exact SeqAt.EqAt.int_int a t' b t
  |str b=>obtain⟨t,rfl⟩:=rx;exact SeqAt.EqAt.int_str a t' b t
  |_=>exact absurd (show false=true from fx) UW
 |str a =>
  obtain⟨t',rfl⟩:=ry;cases x with
  |non=>cases rx;exact SeqAt.EqAt.str_none a t'
  |bl b=>cases rx;exact SeqAt.EqAt.str_bool a t' b
  |int b=>obtain⟨t,rfl⟩:=rx;exact SeqAt.EqAt.str_int a t' b t
  |str b=>obtain⟨t,rfl⟩:=rx;exact SeqAt.EqAt.str_str a t' b t
  |_=>exact absurd (show false=true from fx) UW
 |_=>exact absurd (show false=true from fy) UW
def eqU (x:V)(u:Value):Bool:=match u with
 | .none=>eqV .non x
 | .bool b=>eqV (.bl b) x
 | .int i _=>eqV (.int i) x
 | .str z _=>eqV (.str z) x
 |_=>false
theorem Gy {x y:V}{u:Value}(r:bE y u)(f:tH y=true):eqU x u=eqV y x:=by
 cases y with
 |non=>cases r;rfl
 |bl b=>cases r;rfl
 |int i=>obtain⟨t,rfl⟩:=r;rfl
 |str z=>obtain⟨t,rfl⟩:=r;rfl
 |_=>exact absurd (show false=true from f) UW
theorem CK {x:V}:∀ {xs:List V} {us:List Value},bg xs us->xs.all tH=true->us.any (eqU x)=xs.any λy=>eqV y x
 |_,_,.nil,_=>rfl
 |y::xs,u::us,.cons r t,f=>by
  rw[List.all_cons,U3]at f;rw[V2,V2,Gy r f.1,CK t f.2]
theorem tI {A:Around}{s:Shared}{x:V}{v:Value}(rx:bE x v)(fx:tH x=true):∀ {xs:List V} {us:List Value},bg xs us->xs.all tH=true->∀u∈us,SeqAt.EqAt A s u v (eqU x u)
 |_,_,.nil,_=>λu hu=>by cases hu
 |y::xs,u::us,.cons r t,f=>λu' hu=>by
  rw[List.all_cons,U3]at f;rcases List.mem_cons.mp hu with rfl | hu
  ·rw[Gy r f.1];exact Pw r rx f.1 fx
  exact tI rx fx t f.2 u' hu
def inV (x:V)(xs:List V):Bool:=xs.any λy=>eqV y x
def rIn (K:de)(neg:Bool):R2:=λx y H Q=>∃p xs,y=.ref p/\(ay K H p xs\/aW K H p xs)/\tH x=true/\xs.all tH=true/\Q (.bl (if neg then !inV x xs else inV x xs)) H
theorem fV:OpR X (VP .In) (rIn X.K false):=by
 intro af s σ H x y v u Q I rx ry h;obtain⟨p,xs,rfl,hq,fx,fs,q⟩:=h;cases ry;rcases hq with hq | hq
 ·obtain⟨its,r,pl,hz⟩:=I.list hq;refine SeqAt.in_listAt (eqU x) pl.isList (λw hw=>tI rx fx r fs w (by simpa using hw)) ⟨.bl _,H,I,rfl,?_⟩
  rw[show its.toArray.any (eqU x)=its.any (eqU x) by simp,CK r fs]
  exact q
 obtain⟨its,r,pl,hz⟩:=I.tuple hq;refine SeqAt.in_tupleAt (eqU x) pl (λw hw=>tI rx fx r fs w (by simpa using hw)) ⟨.bl _,H,I,rfl,?_⟩
 rw[show its.toArray.any (eqU x)=its.any (eqU x) by simp,CK r fs]
 exact q
theorem bF:j3 X (.builtin "len") (λxs H Q=>∃p ys,xs=[.ref p]/\(ay X.K H p ys\/aW X.K H p ys)/\Q (.int ys.length) H):=by
 intro af s σ H xs us Q I r h;obtain⟨p,ys,rfl,hq,q⟩:=h;obtain⟨u,rfl,rx⟩:=vals1 r;cases rx;have hn:=pf;rcases hq with hq | hq
 ·obtain⟨its,r',pl,hz⟩:=I.list hq;have hlen:=r'.length;exact Calls.call_len_list pl.isList (by simp only[si] <;> omega) ⟨.int ys.length,H,I.tok _,⟨s.toks+1,by rw[si,hlen]⟩,q⟩
 obtain⟨its,r',pl,hz⟩:=I.tuple hq;have hlen:=r'.length;exact len_tuple pl (by simp only[si] <;> omega) ⟨.int ys.length,H,I.tok _,⟨s.toks+1,by rw[si,hlen]⟩,q⟩
theorem mY:j3 X (.builtin "len") (λxs H Q=>∃z,xs=[.str z]/\z.length<=fu/\Q (.int z.length) H):=by
 intro af s σ H xs us Q I r h;obtain⟨z,rfl,hz,q⟩:=h;obtain⟨u,rfl,t,rfl⟩:=vals1 r;have hn:=pf;exact len_str (by omega) ⟨.int z.length,H,I.tok _,⟨_,rfl⟩,q⟩
theorem cW:j3 X (.type "list") (λxs H Q=>∃p ys,xs=[.ref p]/\(ay X.K H p ys\/aW X.K H p ys)/\∀l,H l=none->Q (.ref l) (ag H l (.lst ys))):=by
 intro af s σ H xs us Q I r h;obtain⟨p,ys,rfl,hq,q⟩:=h;obtain⟨u,rfl,rx⟩:=vals1 r;cases rx;have fin:∀(its:List Value),bg ys its->ys.length<=fu->∀(h':Heap) (c':Nat),(∀b o',s.heap.get? b=some o'->h'.get? b=some o') ->
   h'.get? s.heap.objs.size=some { cls:=.type "list",dict:=none,data:=.seq its.toArray c',slots:=#[] }->EP X af σ Q (.ref s.heap.objs.size) { s with heap:=h' }:=λits r' hz h' c' kp e =>
  ⟨.ref s.heap.objs.size,_,I.laid (t':=s.toks) kp (mv _) (show eN X.prog X.w _ h' _ (.lst ys) from ⟨hz,its,c',r',e⟩),rfl,q _ (I.hok.fresh (mv _))⟩
 rcases hq with hq | hq
 ·obtain⟨its,r',pl,hz⟩:=I.list hq;have hlen:=r'.length;obtain⟨o,ho,hc,n,hd⟩:=pl.isList;exact call_list_seq p (.inl rfl) ho hc hd (λh' c' kp e=>fin its r' hz h' c' kp e) (by simp only[si] <;> omega)
 obtain⟨its,r',pl,hz⟩:=I.tuple hq;have hlen:=r'.length;obtain⟨o,ho,hc,n,hd⟩:=pl;exact call_list_seq p (.inr rfl) ho hc hd (λh' c' kp e=>fin its r' hz h' c' kp e) (by simp only[si] <;> omega)
def tyV (K:de)(T:String)(x:V)(H:Hp):Prop:=match x with
 | .str _=>T="str"
 | .int _=>T="int"
 | .ref p=>(T="list"/\∃xs,ay K H p xs)\/(T="tuple"/\∃o,K.lookup p=some o/\o.cls=.type "tuple"/\o.dict=none) \/
   (T="dict"/\((∃kvs,H p=some (.dK kvs))\/∃kvs,H p=some (.dT kvs)))\/(T="set"/\∃S n,H p=some (.set S n))
 |_=>False
theorem Kq {af:List (Addr×Obj)}{σ:St}{H:Hp}{s:Shared}{T:String}{x:V}{v:Value}(I:av X af σ H s)(r:bE x v)(ty:tyV X.K T x H) :
  s.TypeIs v T/\∀a,v=.ref a->∃ob,s.heap.get? a=some ob/\ob.dict=none:=by
 cases x with
 |str z =>
  obtain⟨t,rfl⟩:=r;cases (show T="str" from ty)
  exact⟨typeIs_str s z t,λ_ e=>nomatch e⟩
 |int i =>
  obtain⟨t,rfl⟩:=r;cases (show T="int" from ty)
  exact⟨typeIs_int s i t,λ_ e=>nomatch e⟩
 |ref p =>
  cases r;rcases ty with ⟨rfl,xs,hq⟩ | ⟨rfl,o,hk,hc,hd⟩ | ⟨rfl,hk⟩ | ⟨rfl,S,n,hk⟩
  ·obtain⟨its,_,pl,_⟩:=I.list hq;refine⟨pl.isList.typeIs,λa e=>?_⟩
   cases e;obtain⟨o,n,e,c,hd,_⟩:=pl;exact⟨o,e,hd⟩
  ·refine⟨⟨o,I.kIn p o hk,hc⟩,λa e=>?_⟩
   cases e;exact⟨o,I.kIn _ o hk,hd⟩
  ·have z:∃o,s.heap.get? p=some o/\o.ExactDict:=by
    rcases hk with ⟨kvs,hk⟩ | ⟨kvs,hk⟩
    ·obtain⟨_,_,_,_,o,_,_,e,ex,_⟩:=I.hok p _ hk;exact⟨o,e,ex⟩
    obtain⟨_,_,_,_,o,_,_,e,ex,_⟩:=I.hok p _ hk;exact⟨o,e,ex⟩
   obtain⟨o,e,ex⟩:=z;refine⟨⟨o,e,ex.1⟩,λa e2=>?_⟩
   cases e2;exact⟨o,e,ex.2.1⟩
  obtain⟨o,_,_,_,e,ex,_⟩:=I.hok p _ hk;refine⟨⟨o,e,ex.1⟩,λa e2=>?_⟩
  cases e2;exact⟨o,e,ex.2.1⟩
 |_=>exact V8 ty
def Tz (K:de)(T:String)(r:V->List V->Hp->VK->Prop)(to:TE):TE:=λσ H Q=>to σ H λx H1=>tyV K T x H1/\r x [] H1 Q
def tBM (K:de)(T:String)(r:V->List V->Hp->VK->Prop)(to:TE)(t:TA):TE:=λσ H Q=>to σ H λx H1=>tyV K T x H1/\t σ H1 λxs H2=>r x xs H2 Q
variable{o e:Expr}{es:List Expr}{to:TE}{t:TA}{name:Str}{apos j4:Pos}{T id:String}{r:V->List V->Hp->VK->Prop}
theorem Kr (pa:PlainAttrs T)(slot:Slot T name id)(hty:typeOf (.builtin id)=pure (.type "method_descriptor"))(hm:MtR X id r)(ho:PE X o to)
  (Ks:attributeBase o name X.env (eval o X.env)=eval o X.env:=by rfl) (Kt:(apos.endLine == j4.line)=true:=by rfl):PE X (.Call (.Attribute o name apos) [] [] j4) (Tz X.K T r to):=by
 intro af s σ H Q I h;refine wpAny_Call_method0_late Ks Kt (thn (ho af s σ H _ I h) λv s1 ⟨x,H1,I1,r1,ty,q1⟩=>?_)
 obtain⟨h1,h2⟩:=Kq I1 r1 ty;exact⟨T,id,pa,slot,hty,h1,h2,Calls.callWith_builtin rfl (PySem.evalArgs_none (hm af s1 σ H1 x [] v [] Q I1 r1 .nil q1))⟩
theorem dE (pa:PlainAttrs T)(slot:Slot T name id)(hty:typeOf (.builtin id)=pure (.type "method_descriptor"))(hm:MtR X id r)(ho:PE X o to)(ha:PA X (e::es) t)
  (Ks:attributeBase o name X.env (eval o X.env)=eval o X.env:=by rfl)
  (TB:((backTo j4 (Vn (e::es) X.env)).all (λx=>!x.1) && (WE j4 (VZ [] X.env)).all (λx=>x.1.isSome)
   && decide ((e::es).length+([]:List Keyword).length+(if ([]:List Keyword).isEmpty then 0 else 1) < 30))=true:=by rfl)
  (Kt:(apos.endLine == j4.line)=true:=by rfl) (hs:Vn (e::es) X.env=(false,eval e X.env)::Vn es X.env:=by rfl) (Px:(backTo j4 (Vn es X.env)).any (·.1)=false:=by rfl) :
  PE X (.Call (.Attribute o name apos) (e::es) [] j4) (tBM X.K T r to t):=by
 intro af s σ H Q I h;refine wpAny_Call_method_late Ks TB Kt rfl (thn (ho af s σ H _ I h) λv s1 ⟨x,H1,I1,r1,ty,q1⟩=>?_)
 obtain⟨h1,h2⟩:=Kq I1 r1 ty;refine⟨T,id,pa,slot,hty,h1,h2,?_⟩;have hA:=ha j4 af s1 σ H1 _ I1 q1;rw[hs]at hA ⊢;refine Calls.callWith_builtin (by show (false || (backTo j4 (Vn es X.env)).any (·.1))=false;rw[Px] <;> rfl) (Calls.evalArgs_plain ?_)
 exact thn hA λus s2 ⟨vs,H2,I2,r2,q2⟩=>hm af s2 σ H2 x vs v us Q I2 r1 r2 q2
end
def MtM (X:Cx)(id:String)(r:V->List V->Hp->VK->Prop):Prop :=
 ∀(af:List (Addr×Obj)) (s:Shared) (σ:St) (H:Hp) (x:V) (xs:List V) (v:Value) (us:List Value) (Q:VK),av X af σ H s->bE x v->bg xs us->r x xs H Q ->
  wpAny (model X.prog X.w) X.A (call (.builtin id) (v::us)) (EP X af σ Q) X.xe s
theorem bg.one:∀ {x:V} {us:List Value},bg [x] us->∃u,us=[u]/\bE x u
 |_,_,.cons r .nil=>⟨_,rfl,r⟩
theorem bg.two:∀ {x y:V} {us:List Value},bg [x,y] us->∃u v,us=[u,v]/\bE x u/\bE y v
 |_,_,_,.cons r (.cons q .nil)=>⟨_,_,rfl,r,q⟩
theorem bg.zero:∀ {us:List Value},bg [] us->us=[]
 |_,.nil=>rfl
theorem bg.dropLast {xs:List V}{us:List Value}(h:bg xs us):bg xs.dropLast us.dropLast:=by
 induction h with
 |nil=>exact .nil
 |cons r t ih =>
  cases t with
  |nil=>exact .nil
  |cons q t'=>exact .cons r ih
theorem bg.eraseIdx:∀ {xs:List V} {us:List Value} (i:Nat),bg xs us->bg (xs.eraseIdx i) (us.eraseIdx i)
 |_,_,_,.nil=>.nil
 |_,_,0,.cons _ t=>t
 |_,_,i+1,.cons r t=>.cons r (bg.eraseIdx i t)
theorem Gz {α:Type}(l:List α):l.eraseIdx (l.length - 1)=l.dropLast:=by
 induction l with
 |nil=>rfl
 |cons a r ih =>
  cases r with
  |nil=>rfl
  |cons b r =>
   have e:(a::b::r).length - 1=((b::r).length - 1)+1:=by
    have h1:(a::b::r).length=r.length+2:=rfl;have h2:(b::r).length=r.length+1:=rfl;omega
   rw[e,List.eraseIdx_cons_succ,ih]
   all_goals rfl
theorem A8 {α:Type}:∀(l:List α) (i:Nat),(l.eraseIdx i).length<=l.length
 |[],_=>mv _
 |_::_,0=>WB _
 |_::r,i+1=>Nat.succ_le_succ (A8 r i)
section
variable{X:Cx}{af:List (Addr×Obj)}{σ:St}{H:Hp}{s:Shared}{l b:Addr}{xs ys zs:List V}
theorem av.Ku {its its':List Value}{n:Nat}{f:Array Value->Array Value}{t':Nat}(I:av X af σ H s)(hH:H l=some (.lst xs))
  (e:s.heap.get? l=some { cls:=.type "list",data:=.seq its.toArray n }) (hf:f its.toArray=its'.toArray) (hv:bg ys its') (hz:ys.length<=fu) :
  av X af σ (ag H l (.lst ys)) { s with heap:=s.heap.update l (Obj.mapSeq f),toks:=t' }:=by
 have q:=PySem.IsL.update e f;rw[hf]at q;refine I.write (x:=l) (e:=l) (by rw[hH];exact trivial) (.inl rfl) (λb' u hb hu=>(Heap.get?_update_other s.heap (Obj.mapSeq f) (VG hb)).trans hu) ⟨_,q⟩ ?_
 exact⟨hz,its',_,hv,q⟩
theorem av.RQ {its:List Value}{t':Nat}(I:av X af σ H s)(hv:bg ys its)(hz:ys.length<=fu) :
  av X af σ (ag H s.heap.objs.size (.lst ys)) { s with heap:=s.heap.push { cls:=.type "list",data:=.seq its.toArray },toks:=t' } :=
 I.laid (λ_ _ q=>me _ q) (mv _) ⟨hz,its,0,hv,U9 _ rfl⟩
theorem av.fresh (I:av X af σ H s):H s.heap.objs.size=none:=I.hok.fresh (mv _)
theorem av.Eb (I:av X af σ H s)(hH:H l=some (.lst xs)):xs.length<=fu/\∃(its:List Value) (n:Nat),bg xs its/\xs.length=its.length/\s.heap.get? l=some { cls:=.type "list",data:=.seq its.toArray n }:=by
 obtain⟨z,its,n,r,e⟩:=I.hok l _ hH;exact⟨z,its,n,r,r.length,e⟩
theorem Kv {n:Nat}(h:n<=fu):Builtin.List.listTooLong n=false:=by
 unfold Builtin.List.listTooLong;exact bV (by omega)
end
section
variable{X:Cx}
def Nf:V->List V->Hp->VK->Prop:=λx vs H Q=>∃l xs y,x=.ref l/\vs=[y]/\H l=some (.lst xs)/\xs.length < fu/\Q .non (ag H l (.lst (xs++[y])))
theorem cz:MtM X "list.append" Nf:=by
 intro af s σ H x vs v us Q I rx rv h;obtain⟨l,xs,y,rfl,rfl,hH,hz,q⟩:=h;cases rx;obtain⟨u,rfl,ru⟩:=rv.one;obtain⟨z,its,n,r,hl,e⟩:=I.Eb hH;refine call_meets F.slot_list_append ⟨_,e,rfl⟩ F.entry_list_append (F.args_list_append_2 _ _) (PySem.list_append l its.toArray n u (by rw[si];omega)) ⟨e,?_⟩
 refine⟨.non,_,I.Ku (its':=its++[u]) hH e (by simp) (r.append (.cons ru .nil)) ?_,rfl,q⟩
 rw[ki,UY];omega
def Ng:V->List V->Hp->VK->Prop:=λx vs H Q=>∃l b xs zs,x=.ref l/\vs=[.ref b]/\H l=some (.lst xs)/\H b=some (.lst zs)/\xs.length+zs.length<=fu/\Q .non (ag H l (.lst (xs++zs)))
theorem A9:MtM X "list.extend" Ng:=by
 intro af s σ H x vs v us Q I rx rv h;obtain⟨l,b,xs,zs,rfl,rfl,hH,hB,hz,q⟩:=h;cases rx;obtain⟨u,rfl,ru⟩:=rv.one;cases ru;obtain⟨z,its,n,r,hl,e⟩:=I.Eb hH;obtain⟨z2,Ea,n2,r2,hl2,e2⟩:=I.Eb hB;have hsz:its.toArray.size+Ea.toArray.size<=fu:=by rw[si,si];omega
 have RS:¬(!its.toArray.isEmpty && Builtin.List.listTooLong (its.toArray.size+Ea.toArray.size))=true:=by
  rw[Kv hsz,Bool.and_false];exact UW
 refine call_meets F.slot_list_extend ⟨_,e,rfl⟩ F.entry_list_extend (F.args_list_extend_2 _ _)
  (AutoSeq1.list_extend_list_list_0 l its.toArray n b Ea.toArray n2 RS (by rw[si];omega) (by omega)) ⟨e,e2,?_⟩
 refine⟨.non,_,I.Ku (its':=its++Ea) hH e (by simp) (r.append r2) ?_,rfl,q⟩
 rw[ki];omega
def TC:V->List V->Hp->VK->Prop:=λx vs H Q=>∃l xs y,x=.ref l/\vs=[]/\H l=some (.lst xs)/\xs[xs.length - 1]?=some y/\Q y (ag H l (.lst xs.dropLast))
theorem Kw:MtM X "list.pop" TC:=by
 intro af s σ H x vs v us Q I rx rv h;obtain⟨l,xs,y,rfl,rfl,hH,hy,q⟩:=h;cases rx;have hus:=rv.zero;subst hus;obtain⟨z,its,n,r,hl,e⟩:=I.Eb hH;obtain⟨u,hu,ru⟩:=r.get hy;have hy':its.toArray[its.toArray.size - 1]?=some u:=by
  show its.toArray[its.length - 1]?=some u;rw[<-Array.getElem?_toList,<-hl];exact hu
 refine call_meets F.slot_list_pop ⟨_,e,rfl⟩ F.entry_list_pop (F.args_list_pop_1 _) (MeetsSeq.list_pop_last l its.toArray n u hy' (by rw[si];omega)) ⟨e,?_⟩
 refine⟨y,_,I.Ku (its':=its.dropLast) hH e ?_ r.dropLast ?_,ru,q⟩
 ·show its.toArray.eraseIdxIfInBounds (its.toArray.size - 1)=its.dropLast.toArray;rw[si,List.eraseIdxIfInBounds_toArray,Gz]
 rw[List.length_dropLast];omega
def Py:V->List V->Hp->VK->Prop:=λx vs H Q=>∃l xs i k y,x=.ref l/\vs=[.int i]/\H l=some (.lst xs)/\-(2 ^ 63)<=i/\i < 2 ^ 63/\seqIndex? i xs.length=some k/\xs[k]?=some y/\Q y (ag H l (.lst (xs.eraseIdx k)))
theorem Kx:MtM X "list.pop" Py:=by
 intro af s σ H x vs v us Q I rx rv h;obtain⟨l,xs,i,k,y,rfl,rfl,hH,h1,h2,hk,hy,q⟩:=h;cases rx;obtain⟨u,rfl,ru⟩:=rv.one;obtain⟨t,rfl⟩:=ru;obtain⟨z,its,n,r,hl,e⟩:=I.Eb hH;obtain⟨w,hw,rw'⟩:=r.get hy;refine call_meets F.slot_list_pop ⟨_,e,rfl⟩ F.entry_list_pop (F.args_list_pop_2 _ _)
  (MeetsSeq.list_pop_at l its.toArray n i t k w (fitsIndex_both h1 h2) (by rw[si,<-hl];exact hk) (by rw[<-Array.getElem?_toList];exact hw) (by rw[si];omega)) ⟨e,?_⟩
 refine⟨y,_,I.Ku (its':=its.eraseIdx k) hH e ?_ (r.eraseIdx k) ?_,rw',q⟩
 ·show its.toArray.eraseIdxIfInBounds k=(its.eraseIdx k).toArray;rw[List.eraseIdxIfInBounds_toArray]
 have:=A8 xs k;omega
def TF:R2:=λx y H Q=>∃l b xs zs,x=.ref l/\y=.ref b/\H l=some (.lst xs)/\H b=some (.lst zs)/\xs.length+zs.length<=fu/\∀p,H p=none->Q (.ref p) (ag H p (.lst (xs++zs)))
theorem Pz:OpR X (WD .Add) TF:=by
 intro af s σ H x y v u Q I rx ry h;obtain⟨l,b,xs,zs,rfl,rfl,hH,hB,hz,q⟩:=h;cases rx;cases ry;obtain⟨z,its,n,r,hl,e⟩:=I.Eb hH;obtain⟨z2,Ea,n2,r2,hl2,e2⟩:=I.Eb hB;refine PySem.P.add_list e e2 ?_ (by rw[si,si];omega)
 have ea:its.toArray++Ea.toArray=(its++Ea).toArray:=by simp
 rw[ea];exact⟨.ref _,_,I.RQ (t':=s.toks) (r.append r2) (by rw[ki];omega),rfl,q _ I.fresh⟩
end
end _L
namespace Att
open PySem PySem.W PySem.Calls PyProof.Rows
theorem xb {P:Params}{h:Heap}:∀(ns:List Int) (vs:List Value),WellAll P h vs (ns.map WData.int)->IntsAre vs ns:=by
 intro ns
 induction ns with
 |nil =>
  intro vs w;rw[VH]at w;cases w;exact .nil
 |cons n ns ih =>
  intro vs w;rw[rf]at w;cases w with
  |cons a b =>
   cases a;exact .cons _ _ (ih _ b)
theorem Jx {l:OpenLaw}{n:Nat}(hn:l.most=some n){P:Params}{h:Heap}{args:List WData}{vals:List Value}
  (Nh:l.row.toRowW.claim.pre args=true) (hwl:WellAll P h vals args) :
  ∃a vs ns,vals=[VL a]/\args=[WData.list (ns.map WData.int)]/\h.get? a=some { cls:=.type "list",data:=.seq vs.toArray }/\IntsAre vs ns/\ns.length<=n:=by
 have hsh:WShape.hasAll [] args [.list .int]=true:=(pre_splitW Nh).1;have hc:l.pre.holds [] { args:=args }=true:=(pre_splitW Nh).2;obtain⟨d,r,rfl,h1,h2⟩:=hasAllW_cons hsh;obtain rfl:=hasAllW_nil h2;obtain⟨xs,rfl,h3⟩:=hasW_list h1;obtain⟨ns,rfl⟩:=items_int h3;have hlen:ns.length<=n:=by
  unfold OpenLaw.pre at hc;have h4:(WTm.not (.lt (.lit (.int (n:Int))) (.len (.arg 0)))).holds [] { args:=[.list (ns.map .int)] }=true:=by
   have h4:=(holds_andW hc).1;rw[hn]at h4;exact h4
  have h5:=condW_of h4 (w_not (w_lt w_lit (w_len_list (w_arg rfl))));rw[bo]at h5;refine Nat.le_of_not_lt λq=>?_
  have q':(n:Int) < ((ns.length:Nat):Int):=by omega
  first
   | (rw[bG q']at h5;exact absurd h5 (by decide))
   | (simp at h5;omega)
 cases hwl with
 |cons w1 w2 =>
  cases w2;cases w1 with
  |list ho PB=>exact⟨_,_,ns,rfl,rfl,ho,xb ns _ PB,hlen⟩
theorem Jy (l:OpenLaw)(args:List WData):l.row.toRowW.claim.post args (.bool true) args=true :=
 postW_of (r:=l.row.toRowW) (X:=(true == true))
  (show WShape.has [] (.bool true) .bool=true by first | rfl | decide | simp[WShape.has,WShape.arms,WShape.armsAll])
  (show (WTm.eq .res (.lit (.bool true))).value [] { args:=args,res:=some (.bool true),after:=args }=some (.bool (true == true)) from w_eq_bool (w_res rfl) w_lit) rfl
theorem Ec {l:OpenLaw}{n:Nat}{q:wt}{loose:List Str}{XP:(Str->Option Value)->Heap->Prop}{YP:World->Heap->Prop}{d:DefRec}
  (hn:l.most=some n) (hdf:d.params.defaults=[])
  (call:∀(w:World) (s₀ s₁:Shared) (mg mb:Str->Option Value) (fa:Addr) (o:Obj) (pm cd doc:Value) (a:Addr) (vs:List Value) (ns:List Int),
   Ground q loose [] XP w s₀ mg mb s₁.heap->YP w s₁.heap ->
   s₁.heap.get? fa=some o->o.data=.func (docDef d.name d.params d.body d.scope pm cd doc)->s₁.heap.CodeRec cd d.name->mg d.name=some (.ref fa) ->
   s₁.heap.get? a=some { cls:=.type "list",data:=.seq vs.toArray }->IntsAre vs ns->ns.length<=n->s₁.gens=#[] ->
   codeAny (model l.prog w) callerA (.call (.ref fa) ⟨[.ref a],[]⟩) (λr s'=>r=.ok (.ret (.bool true))/\OldK s₁.heap s'.heap/\s'.os=s₁.os/\AllBare s'.gens) s₁) :
  WalkO q loose XP YP l.row.toRowW d [] (λf vs=>PySem.call f vs):=by
 intro w s₀ s₁ mg mb G Y fa o pm cd doc dV kV ho hd hcd hD hmg hg args vals as Nh UJ hrd hwl hlo;obtain rfl:dV=.none:=Dflts.none hD hdf;obtain rfl:kV=.none:=Dflts.noKw hD;obtain⟨a,vs,ns,rfl,rfl,PD,hints,hlen⟩:=Jx hn Nh hwl;refine enter_call (codeAny_mono (call w s₀ s₁ mg mb fa o pm cd doc a vs ns G Y ho (fd_plain hd) hcd hmg PD hints hlen hg) λr s' hq=>?_)
 obtain⟨rfl,h2,h3,h4⟩:=hq;exact⟨.inl ⟨.bool true,.bool true,[],rfl,λ_=>rfl,.bool true,Jy l _,λ_=>⟨List.Pairwise.nil,λ_ hm=>(nomatch hm)⟩⟩,h2,h3,h4⟩
section
variable{prog:wt}{w:World}{A:Around}{E:Value->Shared->Prop}{s:Shared}{K:Frag}
noncomputable def TH (h:Heap)(L d:Addr):List (Addr×Obj):=(Wu h.objs.size).filterMap λa=>if a=L\/a=d then none else (h.get? a).map λo=>(a,o)
end
end Att
namespace _L
open PySem PySem.Spec PyProof.Rows
theorem Ba:∀ {vs:List Value} {ns:List Int},IntsAre vs ns->bg (ns.map V.int) vs
 |_,_,.nil=>.nil
 |_,_,.cons n t h=>.cons ⟨t,rfl⟩ (Ba h)
def PF (H:Hp):Prop:=∀b,H b=none\/∃o xs,H b=some (.frz o (.lst xs))
theorem Ky {P:wt}{w:World}{K:de}{mg mb:Str->Option Value}{CX:CXT}{k:Nat}{fa a:Addr}{fd:gr}{x:Str}{sp:Sp}{s₁:Shared}{vs:List Value}{ns:List Int}
  (KX:K.In s₁.heap) (hns:s₁.heap.Ns mainGlobals mg) (hb:s₁.heap.Ns builtinsNs mb) (hbb:∀x:Str,x≠"__name__"->mb x=VO x) (TK:s₁.heap.NoLimit) (hg:s₁.gens=#[])
  (ha:s₁.heap.get? a=some { cls:=.type "list",data:=.seq vs.toArray }) (hi:IntsAre vs ns) (hl:ns.length<=fu) (hr:b7 k callerA)
  (F:∀base:Heap,K.In base->base.Ns mainGlobals mg->aC P w K mg base CX k fa fd [x] sp) (RT:∀(s:Shared) (u:Value),BindsTo s fd ⟨[u],[]⟩ [(x,u)])
  (hsp:∀H:Hp,PF H->ay K H a (ns.map V.int)->sp [.ref a] H (λv _=>v=.bl true) λ_ _ _=>False)
  (hCX:∀H e s',CX [] H s₁ (λ_ _ _=>False) e s'->False) :
  codeAny (model P w) callerA (.call (.ref fa) ⟨[.ref a],[]⟩) (λr s'=>r=.ok (.ret (.bool true))/\OldK s₁.heap s'.heap/\s'.os=s₁.os/\AllBare s'.gens) s₁:=by
 have rv:=Ba hi;have TL:=hi.length;have core:∀H:Hp,PF H->ay K H a (ns.map V.int)->HOk P w H s₁.heap->(∀b,H b≠none->b=a)->(H a≠none->K.lookup a=none) ->
   codeAny (model P w) callerA (.call (.ref fa) ⟨[.ref a],[]⟩) (λr s'=>r=.ok (.ret (.bool true))/\OldK s₁.heap s'.heap/\s'.os=s₁.os/\AllBare s'.gens) s₁:=by
  intro H hO hS hok hA hK;have HN:∀ {b:Addr} {o:Obj},s₁.heap.get? b=some o->H b=none->(Cz s₁.heap H).get? b=some o:=λe n=>Ka e n
  have noA:∀ {b:Addr} {o:Obj} {es:Array DictEntry} {ep:Nat},s₁.heap.get? b=some o->o.data=.dict es ep->H b=none:=λ{b o es ep} e d=>by
   cases q:H b with
   |none=>rfl
   |some u =>
    have e':b=a:=hA b (by rw[q];simp)
    subst e';rw[ha]at e;cases e;have d':Data.seq vs.toArray _=Data.dict es ep:=d;cases d'
  have nsK:∀ {b:Addr} {m:Str->Option Value},s₁.heap.Ns b m->(Cz s₁.heap H).Ns b m:=λ{b m} ⟨o,es,ep,e,d,r⟩=>⟨o,es,ep,HN e (noA e d),d,r⟩
  have hKb:K.In (Cz s₁.heap H):=λb o e=>HN (KX b o e) (by
   cases q:H b with
   |none=>rfl
   |some u =>
    have e':b=a:=hA b (by rw[q];simp)
    subst e';rw[hK (by rw[q];simp)]at e;cases e)
  have hM:Mod K mg (Cz s₁.heap H):=⟨hKb,nsK hns,⟨mb,nsK hb,hbb⟩,let ⟨mc,h1,h2⟩:=TK;⟨mc,nsK h1,h2⟩⟩
  have e0:DZ P w K mg (Cz s₁.heap H) callerA [] s₁ H:=⟨rfl,hM,λb o e=>M3 e,Nat.le_of_eq (Jl _ _),trivial,λb hb=>absurd (show b∈([]:List Addr) from hb) (by simp),hok,.of_eq hg⟩
  refine codeAny_mono ((F _ hKb (nsK hns)).run callerA [] s₁ H ⟨[.ref a],[]⟩ [.ref a] [.ref a] _ _ hr e0 (RT s₁ (.ref a)) (.cons rfl .nil) (hsp H hO hS)) λr s' h=>?_
  cases r with
  |error e=>exact(hCX H e s' h).elim
  |ok fl =>
   cases fl with
   |next=>exact V8 h
   |brk=>exact V8 h
   |cont=>exact V8 h
   |ret u =>
    obtain⟨v,H',os,bare,un,TM,r',q⟩:=h;have q':v=.bl true:=q;subst q';obtain rfl:u=Wi true:=r';refine⟨rfl,OldK.of_keep λb o e=>?_,os,bare⟩
    cases q:H b with
    |none=>exact un.keep b o e q (by intro z;exact absurd (show b∈([]:List Addr) from z) (by simp)) (by simp)
    |some u =>
     rcases hO b with z | ⟨ob,xs,z⟩
     ·rw[q]at z;cases z
     have z2:=un.xK b ob _ z;obtain⟨e1,_⟩:=hok b _ z;obtain⟨e2,_⟩:=TM b _ z2;rw[e]at e1;cases e1;exact e2
 cases hk:K.lookup a with
 |some o =>
  have e:=KX a o hk;rw[ha]at e;cases e;refine core (λ_=>none) (λ_=>.inl rfl) (.inr ⟨_,vs.toArray,_,hk,rfl,rfl,rfl,by rw[si,TL];exact hl,by simpa using rv⟩) (λb u z=>by have z':(none:Option HO)=some u:=z;cases z') (λb z=>absurd rfl z) λz=>absurd rfl z
 |none =>
  refine core (λb=>if b=a then some (.frz { cls:=.type "list",data:=.seq vs.toArray } (.lst (ns.map V.int))) else none) (λb=>?_) (.inl (.inr ⟨{ cls:=.type "list",data:=.seq vs.toArray },bp rfl⟩)) (λb u z=>?_) (λb z=>?_) λ_=>hk
  ·by_cases hb:b=a
   ·exact .inr ⟨_,_,bp hb⟩
   exact .inl (aZ hb)
  ·by_cases hb:b=a
   ·have z':=(bp hb).symm.trans z;cases z';subst hb;exact⟨ha,by rw[bo];exact hl,vs,_,rv,ha⟩
   have z':=(aZ hb).symm.trans z;cases z'
  by_cases hb:b=a
  ·exact hb
  exact absurd (aZ hb) z
theorem Ni {l:PySem.W.OpenLaw}{n k:Nat}{q:wt}{loose:List Str}{XP:(Str->Option Value)->Heap->Prop}{YP:World->Heap->Prop}{d:DefRec}{K:Params->de}{CX:World->CXT}{sp:World->Sp}{x:Str}
  (hn:l.most=some n) (hn2:n<=fu) (hdf:d.params.defaults=[]) (hr:b7 k callerA)
  (hY:∀(w:World) (h:Heap),YP w h->(K w.params).In h)
  (F:∀(w:World) (mg:Str->Option Value) (fa:Addr) (h:Heap),(K w.params).In h->h.Ns mainGlobals mg->mg d.name=some (.ref fa) ->
   ∃fd:gr,(∀(s:Shared) (u:Value),BindsTo s fd ⟨[u],[]⟩ [(x,u)]) /\
    ∀base:Heap,(K w.params).In base->base.Ns mainGlobals mg->aC l.prog w (K w.params) mg base (CX w) k fa fd [x] (sp w))
  (hsp:∀(w:World) (H:Hp) (a:Addr) (ns:List Int),ns.length<=n->PF H->ay (K w.params) H a (ns.map V.int)->sp w [.ref a] H (λv _=>v=.bl true) λ_ _ _=>False)
  (hCX:∀(w:World) (H:Hp) (s:Shared) (e:Value) (s':Shared),CX w [] H s (λ_ _ _=>False) e s'->False) :
  PySem.W.WalkO q loose XP YP l.row.toRowW d [] (λf vs=>PySem.call f vs):=by
 refine Att.Ec hn hdf λw s₀ s₁ mg mb fa o pm cd doc a vs ns G Y ho hd hcd hmg PD hints hlen hg=>?_
 have KX:=hY w _ Y;obtain⟨fd,hb,hF⟩:=F w mg fa _ KX G.T.g hmg;exact Ky KX G.T.g G.T.b G.T.builtins G.T.nolimit hg PD hints (Vc hlen hn2) hr hF hb (λH hO hS=>hsp w H a ns hlen hO hS) λH e s'=>hCX w H s₁ e s'
noncomputable def inClass (s:Stmt)(j:Nat):Stmt:=match s with
 | .ClassDef _ _ _ body _ _ _ _ _ _ _=>body.getD j (.Pass ⟨0,0,0,0⟩)
 |_=>.Pass ⟨0,0,0,0⟩
noncomputable def xx (s:Stmt):Arguments:=match s with
 | .FunctionDef _ a _ _ _ _ _ _ _ _=>a
 |_=>{ posonlyargs:=[],args:=[],vararg:=none,kwonlyargs:=[],kw_defaults:=[],kwarg:=none,defaults:=[] }
noncomputable def tJ (s:Stmt):List Stmt:=match s with
 | .FunctionDef _ _ b _ _ _ _ _ _ _=>b
 |_=>[]
noncomputable def aB (s:Stmt):Scope:=match s with
 | .FunctionDef _ _ _ _ _ _ sc _ _ _=>sc
 |_=>{ kind:=.function,names:=[],isGenerator:=false,isCoroutine:=false }
abbrev a5:CXT:=λ_ _ _ _ _ _=>False
abbrev E0:XK:=λ_ _ _=>False
theorem bU {X:Cx}:Passes a5 X E0:=λ_ _ _ _ _ _ _ h=>h.elim
structure Fun (K:de)(x qual:Str)(st:Stmt)(f:Addr)(fd:gr):Prop where
 ex:∃(oc:Value) (od:Option Addr) (kV doc pm:Value) (an:Option Addr) (cdv ct:Value) (osl:Array (Option Value)),
  fd=PySem.W.fnOf x qual (xx st) (tJ st) (aB st) .none kV doc pm an cdv ct/\K.lookup f=some ⟨oc,od,.func fd,osl⟩/\PySem.W.codeIn K cdv qual=true
 kp:Wz K (.ref f)=true
section
variable{P:wt}{w:World}{K:de}{mg:Str->Option Value}{base:Heap}
theorem Fun.ok {x qual:Str}{st:Stmt}{f:Addr}{fd:gr}{N ps:List Str}{k:Nat}{sp:Sp}(F:Fun K x qual st f fd)(S:aT N ps (aB st))(len:∀vs H Q E,sp vs H Q E->vs.length=ps.length)
  (Kn:∀(cdv:Value) (A:Around) (outer:List Env) (s:Shared) (H:Hp) (vs:List V) (Q:VK) (E:XK),b7 k (A.deeper (envOfC qual (aB st) s.heap.objs.size f cdv))->sp vs H Q E ->
   ∃t,PSs (Gs a5 P w K mg base N qual (aB st) f cdv A outer s H E).nox (tJ st) t/\t { nx:=λ_ H'=>Q .non H',rt:=Q } (start N vs) H):aC P w K mg base a5 (k+1) f fd ps sp:=by
 obtain⟨oc,od,kV,doc,pm,an,cdv,ct,osl,rfl,lk,hcd⟩:=F.ex;refine RJ lk hcd S len λA outer s H vs Q E hr hsp=>?_
 obtain⟨t,h,q⟩:=Kn cdv A outer s H vs Q E hr hsp;exact⟨t,h.nox,q⟩
theorem Fun.binds {x qual:Str}{st:Stmt}{f:Addr}{fd:gr}{ps:List Str}(F:Fun K x qual st f fd)
  (h:∀(kV doc pm:Value) (an:Option Addr) (cdv ct:Value) (us:List Value),us.length=ps.length->bindArgs (PySem.W.fnOf x qual (xx st) (tJ st) (aB st) .none kV doc pm an cdv ct) ⟨us,[]⟩=pure (ps.zip us)):bJ K fd ps []:=by
 obtain⟨oc,od,kV,doc,pm,an,cdv,ct,osl,rfl,lk,hcd⟩:=F.ex;exact .all (h kV doc pm an cdv ct)
theorem PH {x qual:Str}{st:Stmt}{f:Addr}{oc:Value}{od an:Option Addr}{osl:Array (Option Value)}{kV doc pm cdv ct:Value}(l:K.lookup f=some ⟨oc,od,.func (PySem.W.fnOf x qual (xx st) (tJ st) (aB st) .none kV doc pm an cdv ct),osl⟩)
  (c:PySem.W.codeIn K cdv qual=true) (k:Wz K (.ref f)=true):Fun K x qual st f (PySem.W.fnOf x qual (xx st) (tJ st) (aB st) .none kV doc pm an cdv ct):=⟨⟨oc,od,kV,doc,pm,an,cdv,ct,osl,rfl,l,c⟩,k⟩
end
section
variable{X:Cx}
theorem pv (i:Nat){x:Str}{pos:Pos}(hN:X.N[i]?=some x:=by rfl)(hv:Vis X.env.scope x:=by first | exact Or.inl rfl | exact Or.inr (Or.inl rfl) | exact Or.inr (Or.inr rfl))(hd:(x == ("__debug__":Str))=false:=by decide)
  (hcd:(x == ("__classdict__":Str))=false:=by decide):PE X (.Name x pos) (Ru i):=Pg hN hv hd hcd
end
theorem b8 {A B:Prop}(h:B):if false=true then A else B:=by
 rw[aZ UW];exact h
theorem dR {A B:Prop}(h:A):if true=true then A else B:=by
 rw[bp rfl];exact h
theorem dg {c A B:Prop}[Decidable c](h1:c->A)(h2:¬c->B):if c then A else B:=by
 by_cases h:c
 ·rw[bp h];exact h1 h
 rw[aZ h];exact h2 h
def bh (H H':Hp):Prop:=∀b o,H b=some o->H' b=some o
theorem bh.refl (H:Hp):bh H H:=λ_ _ h=>h
theorem bh.trans {H H1 H2:Hp}(a:bh H H1)(b:bh H1 H2):bh H H2:=λc o h=>b c o (a c o h)
theorem bh.free {H H':Hp}(e:bh H H'){l:Addr}(h:H' l=Option.none):H l=Option.none:=by
 cases q:H l with
 |none=>rfl
 |some o =>
  rw[e l o q]at h;cases h
theorem bh.seq {K:de}{H H':Hp}{a:Addr}{xs:List V}(e:bh H H')(h:ay K H a xs):ay K H' a xs:=by
 rcases h with (h | ⟨o,h⟩) | h
 ·exact .inl (.inl (e _ _ h))
 ·exact .inl (.inr ⟨o,e _ _ h⟩)
 exact .inr h
theorem cC:VO "len"=some (.builtin "len"):=by trivial
theorem u5:VO "max"=some (.builtin "max"):=by trivial
theorem GA:VO "min"=some (.builtin "min"):=by trivial
theorem PJ:VO "any"=some (.builtin "any"):=by trivial
theorem CL:VO "all"=some (.builtin "all"):=by trivial
theorem GB:VO "int"=some (.type "int"):=by trivial
theorem pj:VO "str"=some (.type "str"):=by trivial
theorem gQ:VO "list"=some (.type "list"):=by trivial
theorem PK:VO "ord"=some (.builtin "ord"):=by trivial
mutual
def DV (K:de)(H:Hp):PyData->V->Prop
 | .none,x=>x=.non
 | .bool b,x=>x=.bl b
 | .int i,x=>x=.int i
 | .str y,x=>x=.str y
 | .list ds,x=>∃a xs,x=.ref a/\ay K H a xs/\bC K H ds xs
 | .tuple ds,x=>∃a xs,x=.ref a/\aW K H a xs/\bC K H ds xs
 | .dict _,_=>False
def bC (K:de)(H:Hp):List PyData->List V->Prop
 |[],xs=>xs=[]
 |d::ds,xs=>∃x r,xs=x::r/\DV K H d x/\bC K H ds r
end
section
variable{X:Cx}{af:List (Addr×Obj)}{σ:St}{H:Hp}{s:Shared}
mutual
theorem DV.reads (I:av X af σ H s):∀(d:PyData) {x:V} {u:Value},DV X.K H d x->bE x u->∃as,Reads s.heap u d as
 | .none,_,_,h,r=>by
  have h':=h;unfold DV at h';subst h';cases r;exact⟨_,.none⟩
 | .bool b,_,_,h,r=>by
  have h':=h;unfold DV at h';subst h';cases r;exact⟨_,.bool b⟩
 | .int i,_,_,h,r=>by
  have h':=h;unfold DV at h';subst h';obtain⟨t,rfl⟩:=r;exact⟨_,.int i t⟩
 | .str y,_,_,h,r=>by
  have h':=h;unfold DV at h';subst h';obtain⟨t,rfl⟩:=r;exact⟨_,.str y t⟩
 | .list ds,_,_,h,r=>by
  have h':=h;unfold DV at h';obtain⟨a,xs,rfl,hq,hs⟩:=h';cases r;obtain⟨its,rv,⟨o,n,e,c,_,dt⟩,_⟩:=I.list hq;obtain⟨as,q⟩:=bC.reads I ds hs rv;exact⟨_,.list e c dt (by simpa using q)⟩
 | .tuple ds,_,_,h,r=>by
  have h':=h;unfold DV at h';obtain⟨a,xs,rfl,hq,hs⟩:=h';cases r;obtain⟨its,rv,⟨o,e,c,n,dt⟩,_⟩:=I.tuple hq;obtain⟨as,q⟩:=bC.reads I ds hs rv;exact⟨_,.tuple e c dt (by simpa using q)⟩
 | .dict _,_,_,h,_=>by
  have h':=h;unfold DV at h';exact h'.elim
theorem bC.reads (I:av X af σ H s):∀(ds:List PyData) {xs:List V} {us:List Value},bC X.K H ds xs->bg xs us->∃as,ReadsAll s.heap us ds as
 |[],_,_,h,r=>by
  have h':=h;unfold bC at h';subst h';cases r;exact⟨_,.nil⟩
 |d::ds,_,_,h,r=>by
  have h':=h;unfold bC at h';obtain⟨x,q,rfl,h1,h2⟩:=h';cases r with
  |cons r1 r2 =>
   obtain⟨as,e1⟩:=DV.reads I d h1 r1;obtain⟨bs,e2⟩:=bC.reads I ds h2 r2;exact⟨_,.cons e1 e2⟩
end
def TN (K:de):R2:=λx y H Q=>∃d e,DV K H d x/\DV K H e y/\VS d=true/\VS e=true/\Q (.bl (Vy d e)) H
def TQ (K:de):R2:=λx y H Q=>∃d e,DV K H d x/\DV K H e y/\VS d=true/\VS e=true/\Q (.bl (!Vy d e)) H
theorem mZ (hu:X.A.units+64 < cLine):OpR X (VP .Eq) (TN X.K):=by
 intro af s σ H x y v u Q I rx ry h;obtain⟨d,e,hd,he,sd,se,q⟩:=h;obtain⟨as,r1⟩:=DV.reads I d hd rx;obtain⟨bs,r2⟩:=DV.reads I e he ry;exact eq_dataH r1 r2 sd se hu ⟨.bl _,H,I,rfl,q⟩
theorem xT (hu:X.A.units+64 < cLine):OpR X (VP .NotEq) (TQ X.K):=by
 intro af s σ H x y v u Q I rx ry h;obtain⟨d,e,hd,he,sd,se,q⟩:=h;obtain⟨as,r1⟩:=DV.reads I d hd rx;obtain⟨bs,r2⟩:=DV.reads I e he ry;exact ne_dataH r1 r2 sd se hu ⟨.bl _,H,I,rfl,q⟩
end
theorem Ee (K:de)(H:Hp):∀ws:List Str,bC K H (ws.map VI) (ws.map V.str)
 |[]=>by unfold bC;rfl
 |w::ws=>by
  show bC K H (VI w::ws.map VI) _;unfold bC;exact⟨_,_,rfl,by unfold DV;rfl,Ee K H ws⟩
theorem xy {K:de}{H:Hp}{a:Addr}{ws:List Str}(h:ay K H a (ws.map V.str)):DV K H (.list (ws.map VI)) (.ref a):=by
 unfold DV;exact⟨a,_,rfl,h,Ee K H ws⟩
theorem kS:∀ws:List Str,(∀w∈ws,Vu w=true)->U4 (ws.map VI)=true
 |[],_=>by simp[U4]
 |w::ws,h=>by
  simp only[rf,U4,Vb,U3];exact⟨h w eg,kS ws λv hv=>h v (ma _ hv)⟩
theorem m5:∀ws:List Str,Vi (ws.map VI)<=1
 |[]=>by simp[Vi]
 |w::ws=>by
  have:=m5 ws;simp only[rf,Vi,Vo];omega
theorem vU {ws:List Str}(h:∀w∈ws,Vu w=true):VS (.list (ws.map VI))=true:=by
 have h1:=m5 ws;have h2:Vo (.list (ws.map VI))<=64:=by simp only[Vo];omega
 show (Vb (.list (ws.map VI)) && decide (Vo (.list (ws.map VI))<=64))=true;rw[U3];exact⟨by simp only[Vb];exact kS ws h,bG h2⟩
theorem xU:∀ {ys:List Str} {us:List Value},bg (ys.map V.str) us->StrsAre us ys
 |[],_,.nil=>.nil
 |y::ys,_,.cons r t=>by
  obtain⟨tk,rfl⟩:=r;exact .cons y tk (xU t)
theorem pq:∀l:List (Str×Tok),bg ((l.map (·.1)).map V.str) (strValues l)
 |[]=>.nil
 |p::l=>.cons ⟨p.2,rfl⟩ (pq l)
section
variable{X:Cx}
def rJoin (K:de):V->List V->Hp->VK->Prop:=λx vs H Q=>∃sep a ys,x=.str sep/\vs=[.ref a]/\ay K H a (ys.map V.str)/\(ys.map (·.length)).sum+ys.length * sep.length<=16777216/\Q (.str (kx sep ys)) H
theorem m7:MtR X "str.join" (rJoin X.K):=by
 intro af s σ H x vs v us Q I rx rv h;obtain⟨sep,a,ys,rfl,rfl,hq,hz,q⟩:=h;obtain⟨t,rfl⟩:=rx;obtain⟨u,rfl,ru⟩:=rv.one;cases ru;obtain⟨its,r,pl,_⟩:=I.list hq;refine join_list pl.isList (xU (by simpa using r)) hz λt' k=>?_
 rw[show Txt.join sep ys=kx sep ys from StrLaws.glued_eq_join sep ys]
 exact⟨.str _,H,I.tok _,⟨_,rfl⟩,q⟩
def PL:V->List V->Hp->VK->Prop:=λx vs H Q=>∃z y,x=.str z/\vs=[.str y]/\(y.length == 0)=false/\z.length+2<=fu/\∀p,H p=none->Q (.ref p) (ag H p (.lst ((Txt.split z y).map V.str)))
theorem pw:MtR X "str.split" PL:=by
 intro af s σ H x vs v us Q I rx rv h;obtain⟨x,y,rfl,rfl,hy,hsz,q⟩:=h;obtain⟨t,rfl⟩:=rx;obtain⟨_,rfl,u,rfl⟩:=rv.one;have hn:(Builtin.Str.partsBetween x (VQ x y 0 x.length (x.length+1)) y.length).length<=fu:=by
  have e1:=StrLaws.occ_length_le x y 0 x.length (x.length+1);rw[length_partsBetween];omega
 have fin:∀(l:List (Str×Tok)) (tk:Nat),l.map (·.1)=Txt.split x y->(Txt.split x y).length<=fu ->
   EP X af σ Q (.ref s.heap.objs.size) { s with heap:=s.heap.push { cls:=.type "list",data:=.seq (strValues l).toArray },toks:=tk }:=λl tk e hz=>by
  refine⟨.ref _,_,I.RQ (t':=tk) (ys:=(Txt.split x y).map V.str) (by rw[<-e];exact pq l) (by rw[bo];exact hz),rfl,q _ I.fresh⟩
 have RU:1<=fu:=by omega
 cases h1:(decide (x.length < y.length) || decide (Builtin.Str.strKind x < Builtin.Str.strKind y))
 ·cases hf:(VQ x y 0 x.length (x.length+1)).isEmpty
  ·refine call_meets F.slot_str_split (typeIs_str _ _ _) F.entry_str_split (F.args_str_split_2 _ _) (meets_str_split_sep x y t u h1 hy hf (by omega) hn) ?_
   have e:Txt.split x y=Builtin.Str.partsBetween x (VQ x y 0 x.length (x.length+1)) y.length:=(aZ (ne_true_of_eq_false h1)).trans (aZ (ne_true_of_eq_false hf));show wants (EP X af σ Q) X.xe _ { s with toks:=_,heap:=s.heap.push { cls:=.type "list",data:=.seq (strsFrom s.toks (Builtin.Str.partsBetween x (VQ x y 0 x.length (x.length+1)) y.length)).toArray } }
   rw[strsFrom_eq];exact fin (numbered s.toks _) _ ((numbered_texts _ _).trans e.symm) (by rw[e];exact hn)
  have e:Txt.split x y=[x]:=(aZ (ne_true_of_eq_false h1)).trans (bp hf);exact call_meets F.slot_str_split (typeIs_str _ _ _) F.entry_str_split (F.args_str_split_2 _ _) (meets_str_split_not_found x y t u h1 hy hf)
   (fin [(x,t)] s.toks e.symm (by rw[e];exact RU))
 have e:Txt.split x y=[x]:=bp h1;exact call_meets F.slot_str_split (typeIs_str _ _ _) F.entry_str_split (F.args_str_split_2 _ _) (meets_str_split_cannot_occur x y t u h1)
  (fin [(x,t)] s.toks e.symm (by rw[e];exact RU))
theorem eh:OpR X (WD .Add) (λx y H Q=>∃l b xs zs,x=.ref l/\y=.ref b/\H l=some (.lst xs)/\H b=some (.lst zs)/\xs.length+zs.length<=fu/\∀p,H p=none->Q (.ref p) (ag H p (.lst (xs++zs)))):=Pz
end
theorem cO (a b:Str):(a++b).cps.toList=a.cps.toList++b.cps.toList:=by
 show (a.cps++b.cps).toList=_;simp
theorem Ef (c:Nat):∀(a b p q:List Nat),c∉a->c∉b->a++c::p=b++c::q->a=b/\p=q
 |[],[],p,q,_,_,e=>by simpa using e
 |[],y::b,p,q,_,hb,e=>by
  have e':c::p=y::(b++c::q):=e;injection e' with e1 _
  exact absurd (by rw[e1];exact eg) hb
 |x::a,[],p,q,ha,_,e=>by
  have e':x::(a++c::p)=c::q:=e;injection e' with e1 _
  exact absurd (by rw[<-e1];exact eg) ha
 |x::a,y::b,p,q,ha,hb,e=>by
  have e':x::(a++c::p)=y::(b++c::q):=e;injection e' with e1 e2
  obtain⟨h1,h2⟩:=Ef c a b p q (λh=>ha (ma _ h)) (λh=>hb (ma _ h)) e2
  exact⟨by rw[e1,h1],h2⟩
theorem tK {a b:Str}(h:a.cps.toList=b.cps.toList):a=b:=by
 cases a;cases b;have:=Array.toList_inj.mp h;subst this;rfl
theorem eZ (c:Nat)(x y:Str)(r:List Str):(kx ⟨#[c]⟩ (x::y::r)).cps.toList=x.cps.toList++c::(kx ⟨#[c]⟩ (y::r)).cps.toList:=by
 show ((x++⟨#[c]⟩)++kx ⟨#[c]⟩ (y::r)).cps.toList=_;rw[cO,cO];simp
theorem Eg (c:Nat):∀(vs ws:List Str),vs≠[]->ws≠[]->(∀v∈vs,c∉v.cps.toList)->(∀w∈ws,c∉w.cps.toList)->kx ⟨#[c]⟩ vs=kx ⟨#[c]⟩ ws->vs=ws
 |[],_,h,_,_,_,_=>absurd rfl h
 |_,[],_,h,_,_,_=>absurd rfl h
 |[x],[y],_,_,_,_,e=>by rw[show x=y from e]
 |[x],y::z::r,_,_,hv,_,e=>by
  have e1:=congrArg (λt:Str=>t.cps.toList) e
  have e2:x.cps.toList=y.cps.toList++c::(kx ⟨#[c]⟩ (z::r)).cps.toList:=e1.trans (eZ c y z r);exact absurd (by rw[e2];exact U1 _ eg) (hv x eg)
 |x::z::r,[y],_,_,_,hw,e=>by
  have e1:=congrArg (λt:Str=>t.cps.toList) e
  have e2:x.cps.toList++c::(kx ⟨#[c]⟩ (z::r)).cps.toList=y.cps.toList:=(eZ c x z r).symm.trans e1;exact absurd (by rw[<-e2];exact U1 _ eg) (hw y eg)
 |x::x2::r,y::y2::q,_,_,hv,hw,e=>by
  have e1:=congrArg (λt:Str=>t.cps.toList) e
  have e2:=(eZ c x x2 r).symm.trans (e1.trans (eZ c y y2 q));obtain⟨h1,h2⟩:=Ef c _ _ _ _ (hv x eg) (hw y eg) e2;have h3:=Eg c (x2::r) (y2::q) (U5 _ _) (U5 _ _) (λv h=>hv v (ma _ h)) (λw h=>hw w (ma _ h)) (tK h2)
  rw[tK h1,h3]
theorem xV (x y:Str):Txt.split x y≠[]:=by
 unfold Txt.split;split
 ·exact U5 _ _
 split
 ·exact U5 _ _
 rw[StrLaws.partsBetween_eq];intro h;have:=congrArg Wf h;revert this;cases (VQ x y 0 x.length (x.length+1)) <;> simp[StrLaws.partsFrom]
theorem j5 {c:Nat}{ws:List Str}(h0:ws≠[])(h:∀w∈ws,c∉w.cps.toList):Txt.split (kx ⟨#[c]⟩ ws) ⟨#[c]⟩=ws :=
 Eg c _ _ (xV _ _) h0 (StrLaws.split_free _ c) h (StrLaws.join_split _ _)
theorem qE (c:Nat):∀ws:List Str,(kx ⟨#[c]⟩ ws).length<=(ws.map (·.length)).sum+ws.length
 |[]=>Vl _
 |[x]=>by show x.length<=_;simp
 |x::y::r=>by
  have ih:=qE c (y::r);have e:(kx ⟨#[c]⟩ (x::y::r)).length=x.length+1+(kx ⟨#[c]⟩ (y::r)).length:=by
   have:=congrArg Wf (eZ c x y r);rw[ki,UQ]at this;have l1:∀z:Str,z.cps.toList.length=z.length:=λz=>by simp[Str.length]
   rw[l1,l1,l1]at this;omega
  simp only[rf,List.sum_cons,UQ]at ih ⊢;omega
theorem Aw {c:Nat}:∀ {ws:List Str},ws≠[]->(∀w∈ws,1<=w.length)->1<=(kx ⟨#[c]⟩ ws).length
 |[],h,_=>absurd rfl h
 |[x],_,h=>h x eg
 |x::y::r,_,h=>by
  have h1:=h x eg;have:=congrArg Wf (eZ c x y r);rw[ki]at this;have l1:∀z:Str,z.cps.toList.length=z.length:=λz=>by simp[Str.length]
  rw[l1,l1]at this;omega
theorem kT {b:Bool}{A B:Prop}(hb:b=true)(h:A):if b=true then A else B:=by
 subst hb;exact dR h
theorem iV {b:Bool}{A B:Prop}(hb:b=false)(h:B):if b=true then A else B:=by
 subst hb;exact b8 h
theorem aw {H:Hp}{p:Addr}{o:HO}(h:H p=none):bh H (ag H p o):=λb u e=>by
 rw[ax (aQ e h)];exact e
theorem bh.own {H H':Hp}{p:Addr}{o:HO}(s:bh H H')(h:H p=none):bh H (ag H' p o):=λb u e=>by
 rw[ax (aQ e h)];exact s b u e
theorem bh.new {H H':Hp}{p:Addr}{o:HO}(s:bh H H')(h:H' p=none):bh H (ag H' p o):=s.trans (aw h)
theorem iW (xs:List V)(k:Nat):dQ xs (some (k:Int)) none=xs.drop k:=by
 unfold dQ;rw[HT.mX,HT.xQ]
 by_cases h:k<=xs.length
 ·rw[Nat.min_eq_left h];exact Wb (by rw[VM];exact mv _)
 have h':xs.length<=k:=by omega
 rw[Nat.min_eq_right h',List.drop_of_length_le h',List.drop_of_length_le (mv _)];simp
theorem OS {α:Type}{xs:List α}{i:Int}{n:Nat}(hn:xs.length=n)(h0:0<=i)(h1:i < n):∃c,atI xs i=some c/\c∈xs:=by
 have hi:i.toNat < xs.length:=by omega
 have e:((i.toNat:Nat):Int)=i:=by omega
 refine⟨xs[i.toNat],?_,Wh hi⟩;have q:=cS (wa hi);rw[e]at q;exact q
noncomputable def fH (scope outer:Scope):Scope :=
 { scope with names:=scope.names.map λ(n,k)=>if (k == .free && outer.kind == .function && outer.names.lookup n == some .cell) then (n,.cell) else (n,k) }
structure cf (scope outer:Scope)(x:Str)(N M:List Str):Prop where
 kind:scope.kind=.function
 OT:outer.kind=.function
 GC:∀y∈scope.names,y.2≠.cell
 names:∀y∈scope.names,y.2=.local->scope.names.lookup y.1=some .local
 hx:scope.names.lookup x=some .local
 free:∀y∈scope.names,y.2=.free->outer.names.lookup y.1=some .cell
 nl:∀n∈M,(fH scope outer).names.lookup n≠some .local
 ndM:M.Nodup
 nd:N.Nodup
 len:M.length=N.length
 rel:∀i:Nat,i < N.length->M[i]?=N[i]?\/M[i]?=some Str.empty
 em:(fH scope outer).names.lookup Str.empty=none
theorem cf.mem {scope outer:Scope}{x:Str}{N M:List Str}(S:cf scope outer x N M){n:Str}{k:NameKind}(h:(fH scope outer).names.lookup n=some k)(hk:k=.cell\/k=.free) :
  k=.cell/\(n,Ww)∈scope.names/\outer.names.lookup n=some .cell:=by
 obtain⟨⟨n',k'⟩,hm,e⟩:=List.mem_map.mp (Wa h);dsimp only at e
 by_cases hc:(k' == Ww && outer.kind == .function && outer.names.lookup n' == some .cell)=true
 ·rw[bp hc]at e;injection e with e1 e2
  subst e1 e2;rw[U3,U3]at hc;have hk':k'=.free:=beq_iff_eq.mp hc.1.1;subst hk';exact⟨rfl,hm,beq_iff_eq.mp hc.2⟩
 rw[aZ hc]at e;injection e with e1 e2
 subst e1 e2;rcases hk with z | z
 ·exact absurd z (S.GC _ hm)
 subst z
 exfalso
 refine hc ?_;rw[S.free _ hm rfl,S.OT];rfl
theorem CM {env:Env}{f:Str×NameKind->List (Str×Addr)->Sem (ForInStep (List (Str×Addr)))}
  (h1:∀n k r,k≠Ww->f (n,k) r=pure (.yield r)) (h2:∀n r c,env.cells.lookup n=some c->f (n,.free) r=pure (.yield ((n,c)::r))) :
  ∀(ns:List (Str×NameKind)) (acc:List (Str×Addr)),(∀y∈ns,y.2=.free->∃c,env.cells.lookup y.1=some c)->(∀n c,acc.lookup n=some c->env.cells.lookup n=some c) ->
   ∃cl,(forIn ns acc f:Sem (List (Str×Addr)))=pure cl/\(∀n c,cl.lookup n=some c->env.cells.lookup n=some c)/\(∀n c,acc.lookup n=some c->(cl.lookup n).isSome=true)/\∀y∈ns,y.2=.free->(cl.lookup y.1).isSome=true
 |[],acc,_,ha=>⟨acc,by simp,ha,λn c e=>by rw[e];rfl,λy hy=>nomatch hy⟩
 | (n,k)::ns,acc,hn,ha=>by
  by_cases hk:k=Ww
  ·subst hk;obtain⟨c,hc⟩:=hn (n,.free) eg rfl;have ha':∀m d,((n,c)::acc).lookup m=some d->env.cells.lookup m=some d:=λm d e=>by
    rw[List.lookup_cons]at e;split at e
    ·rename_i hb;have:m=n:=beq_iff_eq.mp hb;subst this;rw[<-US e];exact hc
    exact ha m d e
   obtain⟨cl,e,p1,p2,p3⟩:=CM h1 h2 ns ((n,c)::acc) (λy hy=>hn y (ma _ hy)) ha'
   have hnn:(cl.lookup n).isSome=true:=p2 n c (by simp[List.lookup_cons])
   refine⟨cl,?_,p1,λm d em=>?_,λy hy hf=>?_⟩
   ·rw[List.forIn_cons,h2 n acc c hc,pure_bind];exact e
   ·by_cases hm:m=n
    ·subst hm;exact hnn
    exact p2 m d (by rw[List.lookup_cons,show (m == n)=false from beq_eq_false_iff_ne.mpr hm];exact em)
   rcases List.mem_cons.mp hy with rfl | hy
   ·exact hnn
   exact p3 y hy hf
  obtain⟨cl,e,p1,p2,p3⟩:=CM h1 h2 ns acc (λy hy=>hn y (ma _ hy)) ha
  refine⟨cl,?_,p1,p2,λy hy hf=>?_⟩
  ·rw[List.forIn_cons,h1 n k acc hk,pure_bind];exact e
  rcases List.mem_cons.mp hy with rfl | hy
  ·exact absurd hf hk
  exact p3 y hy hf
theorem Bb {scope:Scope}{env:Env}(h:∀y∈scope.names,y.2=.free->∃c,env.cells.lookup y.1=some c) :
  ∃cl,closureFor scope env=pure cl/\(∀n c,cl.lookup n=some c->env.cells.lookup n=some c)/\∀y∈scope.names,y.2=.free->(cl.lookup y.1).isSome=true:=by
 unfold closureFor;obtain⟨cl,e,p1,_,p3⟩:=CM (env:=env) (f:=λx r=>match x with | (name,kind)=>if (kind == Ww)=true then do let a <-cellOf env name;pure (.yield ((name,a)::r)) else pure (.yield r))
  (λn k r hk=>by
   have:(k == Ww)=false:=beq_eq_false_iff_ne.mpr hk;simp only[this,Bool.false_eq_true,if_false])
  (λn r c hc=>by
   simp only[beq_self_eq_true,if_true];unfold cellOf;rw[hc];rw[pure_bind])
  scope.names [] h (λn c e=>by simp at e)
 refine⟨cl,?_,p1,p3⟩;have e':=congrArg (λz:Sem (List (Str×Addr))=>z >>= λcs=>pure cs) e
 simp only[pure_bind]at e';exact e'
noncomputable def gR (X:Cx)(x:Str)(M:List Str)(scope:Scope)(cl:List (Str×Addr))(C:Addr)(s:Shared)(H:Hp)(fp:List Addr):Cx :=
 { X with N:=x::M,s₀:=s,H₀:=H,env:=compEnvC scope cl C X.env,outer:=X.stack,ex:=fp,fn:=λ_=>false,pn:=[],xe:=λ_ _=>False }
def iX (J:It)(te:TE)(σ:St)(D:Addr)(H1:Hp)(Q:VK):Prop:=∃W:Nat->Nat->List V->Hp->Prop,(∃m,W 0 m [] (ag H1 D (.lst [])))/\∀i m ys H2,W i m ys H2 ->
 H2 D=some (.lst ys)/\((J.stop i H2/\Q (.ref D) H2)\/(J.go i H2/\ys.length < fu/\∀x H3,J.yld i H2 x H3->te (some x::σ) H3 λy H4=>H4 D=some (.lst ys)/\∃m',m' < m/\W (i+1) m' (ys++[y]) (ag H4 D (.lst (ys++[y])))))
def Kz (wi:TI)(te:TE):TE:=λσ H Q=>wi σ H λJ H1=>∀D,H1 D=none->iX J te σ D H1 Q
section
variable{X:Cx}{af:List (Addr×Obj)}{σ:St}{H:Hp}{s:Shared}{elt iter:Expr}{x:Str}{px pos:Pos}{scope:Scope}{wi:TI}{te:TE}{Q:VK}{M:List Str}
theorem Nj {cl:List (Str×Addr)}{C:Addr}{fp:List Addr}(S:cf scope X.env.scope x X.N M)(I:av X af σ H s)(hC:s.heap.objs.size<=C)(p1:∀n c,cl.lookup n=some c->X.env.cells.lookup n=some c)
  (p3:∀y∈scope.names,y.2=.free->(cl.lookup y.1).isSome=true) (f2:∀b∈fp,uZ X af H b) (fo:∀b∈fp,b < s.heap.objs.size):(gR X x M scope cl C s H fp).Ok where
 mod:=I.ok.mod
 kind:=S.kind
 glob:=I.ok.glob
 blt:=I.ok.blt
 above:=hC
 inj:=λy z c h1 h2=>I.ok.inj y z c (p1 y c h1) (p1 z c h2)
 has:=λy hy=>by
  have hy':(fH scope X.env.scope).names.lookup y=some .cell\/(fH scope X.env.scope).names.lookup y=some .free:=hy;have hm:(y,Ww)∈scope.names:=by
   rcases hy' with z | z
   ·exact(S.mem z (.inl rfl)).2.1
   exact(S.mem z (.inr rfl)).2.1
  exact Option.isSome_iff_exists.mp (p3 _ hm rfl)
 cab:=λy c h=>absurd h UW
 hd:=I.ok.hd
 frames:=I.ok.frames
 stk:=.inl rfl
 exf:=λb hb=>⟨Ve (Va (fo b hb) hC),λy c e=>(f2 b hb).2.2.2.2.1 y c (p1 y c e)⟩
 bs:=I.bs
 bsz:=Vc I.ok.bsz I.sz
 Jm:=λb o e hb=>by
  rcases (f2 b hb).2.2.2.1 with z | z
  ·exact I.ok.Jm b o e z
  exact absurd (Va (U6 (I.ok.bs b o e).1) z) (Nat.lt_irrefl _)
 Jn:=λb hb z=>by
  rcases List.mem_cons.mp (I.F4 b z) with e | e
  ·exact(f2 b hb).2.1 e
  exact(f2 b hb).2.2.1 e
 uY:=I.stack
 frf:=I.HE
theorem KA {cl:List (Str×Addr)}{C D:Addr}{fp:List Addr}{h₁:Heap}{tk:Nat}{m:Str->Option Value}(S:cf scope X.env.scope x X.N M)(I:av X af σ H s)(hC:s.heap.objs.size<=C)(hD:s.heap.objs.size<=D)(hDC:D≠C)
  (p1:∀n c,cl.lookup n=some c->X.env.cells.lookup n=some c)
  (p3:∀y∈scope.names,y.2=.free->(cl.lookup y.1).isSome=true) (f2:∀b∈fp,uZ X af H b) (fo:∀b∈fp,b < s.heap.objs.size)
  (old:∀b o,s.heap.get? b=some o->h₁.get? b=some o) (hn:h₁.Ns C m) (hl:h₁.get? D=some { cls:=.type "list",data:=.seq ([]:List Value).toArray }) :
  av (gR X x M scope cl C s H fp) [] (none::σ) (ag H D (.lst [])) { s with heap:=h₁,toks:=tk }:=by
 have cellK:∀c v,s.heap.IsCell c v->h₁.IsCell c v:=λc v ⟨o,e,d⟩=>⟨o,old c o e,d⟩
 refine⟨Nj S I hC p1 p3 f2 fo,rfl,I.bare,Un.laid old hD (I.hok.fresh hD),⟨m,hn,λi n v h1 h2 h3=>?_⟩,λy c e=>?_,?_,λy c e=>?_,λp hp=>absurd (show p∈([]:List (Addr×Obj)) from hp) (by simp),I.hok.laid old hD ⟨Vl _,[],0,.nil,hl⟩,?_⟩
 ·cases i with
  |zero =>
   have h2':(none:Option V)=some v:=by simpa using h2
   cases h2'
  |succ i =>
   have h0':M[i]?=some n:=by simpa [gR] using h1
   have h2':σ[i]?=some (some v):=by simpa using h2
   have h3':(fH scope X.env.scope).names.lookup n=some .local\/(fH scope X.env.scope).names.lookup n=some .cell\/(fH scope X.env.scope).names.lookup n=some .free:=h3;have tF:(fH scope X.env.scope).names.lookup n=some .cell/\(n,Ww)∈scope.names/\X.env.scope.names.lookup n=some .cell:=by
    rcases h3' with z | z | z
    ·exact absurd z (S.nl n (U2 h0'))
    ·exact⟨z,(S.mem z (.inl rfl)).2⟩
    exact absurd (S.mem z (.inr rfl)).1 (by decide)
   have h1':X.N[i]?=some n:=by
    have hi:i < X.N.length:=by rw[<-S.len];exact(List.getElem?_eq_some_iff.mp h0').1
    rcases S.rel i hi with z | z
    ·rw[<-z];exact h0'
    rw[h0']at z;have e:n=Str.empty:=US z;rw[e,S.em]at tF;cases tF.1
   obtain⟨m0,hn0,hl0⟩:=I.loc;obtain⟨u,r,l⟩:=hl0 i n v h1' h2' (.inr (.inl tF.2.2));refine⟨u,r,.inr ⟨.inl tF.1,?_⟩⟩;obtain⟨c,hc⟩:=Option.isSome_iff_exists.mp (p3 _ tF.2.1 rfl);refine⟨c,hc,?_⟩;rcases l with ⟨k,_⟩ | ⟨_,c',hc',z⟩
   ·have k':X.env.scope.names.lookup n=some .local:=k;rw[tF.2.2]at k';cases k'
   rw[p1 n c hc]at hc';cases hc';exact cellK c _ z
 ·obtain⟨v,z⟩:=I.cell y c (p1 y c e);exact⟨v,cellK c v z⟩
 ·show (ag H D (.lst [])) C=none;rw[ax (VG hDC)];exact I.hok.fresh hC
 ·obtain⟨v,z⟩:=I.cell y c (p1 y c e);rw[ax (Ve (Va z.lt hD))];exact I.o9 y c (p1 y c e)
 show (none::σ).length=(x::M).length;rw[UQ,UQ,I.len,S.len]
theorem Bc {cl:List (Str×Addr)}{RR:Value->Addr->Result->Shared->Prop}(S:cf scope X.env.scope x X.N M)(hc:X.calm=true)(hi:PI X (.Name x px) iter wi)
  (he:∀cl C s H fp,PE (gR X x M scope cl C s H fp) elt te) (I:av X af σ H s) (h:Kz wi te σ H Q)
  (p1:∀n c,cl.lookup n=some c->X.env.cells.lookup n=some c) (p3:∀y∈scope.names,y.2=.free->(cl.lookup y.1).isSome=true)
  (hRR:∀D C H' s' o m,av X (af++[(C,o)]) σ H' s'->s'.heap.get? C=some o->s'.heap.Ns C m->X.s₀.heap.objs.size<=C->(∀y c,X.env.cells.lookup y=some c->c≠C)->(∀p∈X.pn++af,p.1≠C)->Q (.ref D) H'->RR (.ref D) C (.ok .next) s') :
  wpAny (model X.prog X.w) X.A (eval iter X.env) (λxv s₁=>wpAny (model X.prog X.w) X.A (pyIter xv) (λit s₂=>wpAny (model X.prog X.w) X.A (newList []) (λacc s₃ =>
   wpAny (model X.prog X.w) X.A (newFunctionEnv scope X.env.globals cl [] X.env.qual none .none (some X.env)) (λRV s₄ =>
    codeAny (model X.prog X.w) X.A (.compStart (.ListComp elt [⟨.Name x px,iter,[],0⟩] scope pos) 0 it acc { RV with scope:=relabel scope X.env }) (RR acc RV.locals) s₄) X.xe s₃) X.xe s₂) X.xe s₁) X.xe s:=by
 refine thn (hi af s σ H _ I h) λv s1 h1=>thn h1 λitv s2 h2=>?_
 obtain⟨it,fp,tn,J,H2,rfl,I2,T,st2,f2,q⟩:=h2;refine wpAny_newObj_type (wpAny_newFunctionEnv S.GC (by intro y hy;simp at hy) (λh₁ hns₁ hsb₁=>?_) S.kind)
 dsimp only at hns₁ hsb₁ ⊢;generalize hHH:s2.heap.push { cls:=.type "list",dict:=none,data:=.seq ([]:List Value).toArray }=HH at hns₁ hsb₁ ⊢;have hCs:HH.objs.size=s2.heap.objs.size+1:=by rw[<-hHH,Heap.size_push]
 have hDC:s2.heap.objs.size≠HH.objs.size:=by rw[hCs];exact Ve (Nat.lt_succ_self _)
 have RW:s2.heap.objs.size<=HH.objs.size:=by rw[hCs];exact WB _
 have below:∀b,b < s2.heap.objs.size->b≠HH.objs.size:=λb hb=>by rw[hCs];exact Ve (Nat.lt_succ_of_lt hb)
 have old:∀b o,s2.heap.get? b=some o->h₁.get? b=some o:=λb o e=>hsb₁.extBut b o (below b (U6 e)) (me _ (hHH▸me _ e))
 have Nk:h₁.get? s2.heap.objs.size=some { cls:=.type "list",data:=.seq ([]:List Value).toArray }:=hsb₁.extBut _ _ hDC (me _ (hHH▸U9 _ rfl));have fo:∀b∈fp,b < s2.heap.objs.size:=λb hb=>by
  obtain⟨o,e,_⟩:=T.obj _ _ st2 b hb;exact U6 e
 have IY:=KA (tk:=s2.toks+([]:List (Str×Value)).length) S I2 RW (mv _) hDC p1 p3 f2 fo old hns₁ Nk;have st1:tn 0 h₁:=T.keep _ _ _ st2 λb _ o e=>old b o e
 obtain⟨W,⟨m0,w0⟩,turn⟩:=q _ (I2.hok.fresh (mv _));generalize hC:HH.objs.size=C at *;generalize hDD:s2.heap.objs.size=D at *;have ndY:(gR X x M scope cl C s2 H2 fp).N.Nodup:=by
  refine List.nodup_cons.mpr ⟨λhm=>S.nl x hm (lookup_relabel_local S.hx),S.ndM⟩
 have stat:∀ {H':Hp},(∀b∈fp,H' b=none)->∀b∈fp,uZ (gR X x M scope cl C s2 H2 fp) [] H' b:=λhn b hb =>
  ⟨hn b hb,below b (fo b hb),IY.ok.Jn b hb,.inl hb,λy c e=>(f2 b hb).2.2.2.2.1 y c (p1 y c e),λp hp=>absurd (show p∈([]:List (Addr×Obj)) from hp) (by simp)⟩
 have loop:codeAny (model X.prog X.w) X.A (.compLoop (.ListComp elt [⟨.Name x px,iter,[],0⟩] scope pos) 0 (.ref it) (.ref D) (compEnvC scope cl C X.env)) (RR (.ref D) C) { s2 with heap:=h₁,toks:=s2.toks+([]:List (Str×Value)).length }:=by
  refine codeAny_compLoop_tests (λn s'=>∃i v0 ys H',av (gR X x M scope cl C s2 H2 fp) [] (v0::σ) H' s'/\tn i s'.heap/\(∀b∈fp,H' b=none)/\W i n ys H') ?_ m0 ⟨0,none,[],_,IY,st1,λb hb=>?_,w0⟩
  ·rintro n s3 ⟨i,v0,ys,H3,I3,st3,fr3,w3⟩;obtain⟨hDl,hw⟩:=turn i n ys H3 w3;rcases hw with ⟨stop,qn⟩ | ⟨go,hsz,step⟩
   ·refine thn (T.done (gR X x M scope cl C s2 H2 fp) rfl rfl rfl hc i [] s3 _ H3 _ I3 (stat fr3) st3 stop) λr s4 ⟨hr,I4⟩=>?_
    subst hr;obtain⟨m4,hn4,_⟩:=I4.loc;obtain⟨oC,es4,ep4,e4,r4⟩:=id hn4;have RX:s2.heap.objs.size<=C:=by rw[hDD];exact RW
    have IX:av X af σ H3 s4:=I2.Rt (ch:=fp) I4.os I4.base I4.hok I4.bare λb hb=>⟨(f2 b hb).2.2.2.1,(f2 b hb).2.1,(f2 b hb).2.2.2.2.1,(f2 b hb).2.2.2.2.2⟩
    have fC:=I2.F7 (H':=H3) RX I4.free;have IX2:av X (af++[(C,oC)]) σ H3 s4:=IX.CA λp hp=>(List.mem_append.mp hp).elim (λz=>IX.pin p (U1 _ z)) λz=>by
     have e:p=(C,oC):=by simpa using z
     subst e;exact⟨e4,fC.1,fC.2.1,fC.2.2.1,λv z=>by rw[r4.1]at z;cases z⟩
    exact hRR D C H3 s4 oC m4 IX2 e4 hn4 (Vc I2.sz RX) fC.2.2.2.2.1 fC.2.2.2.2.2 qn
   refine thn (T.item (gR X x M scope cl C s2 H2 fp) rfl rfl rfl hc i [] s3 _ H3 _ I3 (stat fr3) st3 go) λr s4 ⟨u,hr,h4⟩=>?_
   subst hr;have e0:∀k:Sem Unit,(letOwnedTupleGo (.Name x px) (.ref it) u >>= λ_=>k)=k:=λk=>by
    rw[show letOwnedTupleGo (.Name x px) (.ref it) u=pure () from rfl,pure_bind]
   show wpAny _ _ (assign (.Name x px) (compEnvC scope cl C X.env) u) _ _ s4;rw[<-e0 (assign (.Name x px) (compEnvC scope cl C X.env) u)];refine UX (thn h4 λ_ s5 ⟨xv,H5,I5,r5,y5,st5,fr5⟩=>?_)
   have I5':=I5.pinned (stat fr5) (T.obj _ _ st5);have hxl:(gR X x M scope cl C s2 H2 fp).env.scope.names.lookup x=some .local:=lookup_relabel_local S.hx;refine wpAny_assign_Name (tE (X:=gR X x M scope cl C s2 H2 fp) (i:=0) I5' ndY rfl (Or.inl hxl) r5 (λs6 I6=>?_) (.inr hxl))
   refine wpAny_tests_nil ?_;rw[bp rfl];refine Wl (he cl C s2 H2 fp _ s6 _ H5 _ I6 (step xv H5 y5)) (λy s7 ⟨yv,H7,I7,r7,hD7,m',hm',w7⟩=>?_) (λ_ _ f=>f.elim)
   refine Wl (cz (X:=gR X x M scope cl C s2 H2 fp) _ s7 _ H7 (.ref D) [yv] (.ref D) [y] (λ_ H8=>H8=ag H7 D (.lst (ys++[yv]))) I7 rfl (.cons r7 .nil) ⟨D,ys,yv,rfl,rfl,hD7,hsz,rfl⟩)
    (λ_ s8 ⟨_,H8,I8,_,e8⟩=>?_) (λ_ _ f=>f.elim)
   subst e8;refine⟨m',hm',i+1,some xv,ys++[yv],_,I8.lQ,T.keep _ _ _ st5 λb hb o e=>(I8.pin (b,o) (U1 _ (U1 _ (mV hb e)))).1,λb hb=>?_,w7⟩
   obtain⟨o,e,d⟩:=T.obj _ _ st5 b hb;exact(I8.pin (b,o) (U1 _ (U1 _ (mV hb e)))).2.1
  show (ag H2 D (.lst [])) b=none;rw[ax (Ve (fo b hb))];exact(f2 b hb).1
 exact codeAny_compStart_list loop (T.self _ 0 _ _ _ st1 loop)
theorem gS (S:cf scope X.env.scope x X.N M)(hc:X.calm=true)(hi:PI X (.Name x px) iter wi)(he:∀cl C s H fp,PE (gR X x M scope cl C s H fp) elt te)
  (hs:∀x,foldedSetIterable iter X.env x=pure x:=by intro _;rfl):PE X (.ListComp elt [⟨.Name x px,iter,[],0⟩] scope pos) (Kz wi te):=by
 intro af s σ H Q I h;obtain⟨cl,KB,p1,p3⟩:=Bb (scope:=scope) (env:=X.env) (λy hy hf=>I.ok.has y.1 (.inl (S.free y hy hf)))
 rw[eval_ListComp];refine wpAny_comprehension_free (use:=none) rfl hs KB S.kind S.names (Bc (RR:=λacc C=>compPost (model X.prog X.w) X.A X.xe none (EP X af σ Q) acc C) S hc hi he I h p1 p3 ?_)
 intro D C H' s' o m I' e hn h0 h1 h2 q;refine⟨m,hn,λh' hs'=>?_⟩
 have pC:=I'.pin (C,o) (U1 _ (U1 _ (by simp)))
 have IX:av X af σ H' s':=I'.lQ;exact⟨.ref D,H',IX.turned (t':=s'.toks) (λb ob hb e=>(hs'.2 b hb).trans e) pC.2.1 pC.2.2.1 (.inr h0) h1 h2,rfl,q⟩
theorem m8 {i:Nat}{y:Str}{py RY:Pos}(S:cf scope X.env.scope x X.N M)(hc:X.calm=true)(hj:X.N[i]?=some y)(hy:Loc X.env.scope y)(hi:PI X (.Name x px) iter wi)(he:∀cl C s H fp,PE (gR X x M scope cl C s H fp) elt te)
  (hsw:swapsWith (.ListComp elt [⟨.Name x px,iter,[],0⟩] scope pos) (some (.Name y py)) RY.line X.env=pure true:=by rfl)
  (hf:X.fn y=true\/X.env.scope.names.lookup y=some .local:=by first | exact .inl rfl | exact .inr rfl | assumption)
  (hs:∀x,foldedSetIterable iter X.env x=pure x:=by intro _;rfl):PS X (.Assign [.Name y py] (.ListComp elt [⟨.Name x px,iter,[],0⟩] scope pos) RY) (Jq (Kz wi te) (cZ i)):=by
 intro af s σ H D I h;obtain⟨cl,KB,p1,p3⟩:=Bb (scope:=scope) (env:=X.env) (λy hy hf=>I.ok.has y.1 (.inl (S.free y hy hf)))
 rw[exec_Assign_Name_used _ _ _ _ hsw];refine UX (wpAny_standAt (UX ?_));show wpAny _ _ (do let _ <-comprehension (.ListComp elt [⟨.Name x px,iter,[],0⟩] scope pos) scope X.env _ (newList []) false (eval iter X.env) (some (assign (.Name y py) X.env))) _ _ s
 refine UX (Wl (wpAny_comprehension_free (use:=some (assign (.Name y py) X.env)) (Q:=λ_ s'=>SP X af D .next s') rfl hs KB S.kind S.names
  (Bc (RR:=λacc C=>compPost (model X.prog X.w) X.A X.xe (some (assign (.Name y py) X.env)) (λ_ s'=>SP X af D .next s') acc C) S hc hi he I h p1 p3 ?_)) (λ_ s' hq=>Vd (Vd hq)) λ_ _ e=>e)
 intro Dd C H' s' o m I' e hn h0 h1 h2 q;show wpAny _ _ (assign (.Name y py) X.env (.ref Dd)) _ _ s';refine wpAny_assign_Name (tE I' S.nd hj hy (v:=.ref Dd) rfl (λs'' I''=>?_) hf)
 have pC:=I''.pin (C,o) (U1 _ (U1 _ (by simp)))
 obtain⟨o',es,ep,e0,r⟩:=hn;rw[e]at e0;cases e0;have IX:av X af _ H' s'':=I''.lQ;refine⟨m,⟨o,es,ep,pC.1,r⟩,λh' hs'=>?_⟩
 exact⟨_,H',IX.turned (t':=s''.toks) (λb ob hb e=>(hs'.2 b hb).trans e) pC.2.1 pC.2.2.1 (.inr h0) h1 h2,q⟩
def cI (D:Addr)(n:Nat)(Pv:Nat->List V->Hp->Prop)(i:Nat)(ys:List V):VK:=λy H4=>H4 D=some (.lst ys)/\∃m',m' < n - i/\m'=n - (i+1)/\i+1<=n/\Pv (i+1) (ys++[y]) (ag H4 D (.lst (ys++[y])))
theorem cI.mk {D:Addr}{n:Nat}{Pv:Nat->List V->Hp->Prop}{i:Nat}{ys:List V}{y:V}{H4:Hp}(hi:i < n)(h1:H4 D=some (.lst ys))(h2:Pv (i+1) (ys++[y]) (ag H4 D (.lst (ys++[y])))):cI D n Pv i ys y H4 :=
 ⟨h1,n - (i+1),by omega,rfl,hi,h2⟩
theorem iz {K:de}{a D:Addr}{xs:List V}{te:TE}{Q:VK}{σ:St}{H1:Hp}(Pv:Nat->List V->Hp->Prop)(h0:Pv 0 [] (ag H1 D (.lst [])))(hz:xs.length<=fu)
  (hl:∀i ys H2,i<=xs.length->Pv i ys H2->ay K H2 a xs/\H2 D=some (.lst ys)/\ys.length=i)
  (hs:∀i x ys H2,xs[i]?=some x->Pv i ys H2->te (some x::σ) H2 (cI D xs.length Pv i ys)) (hd:∀ys H2,Pv xs.length ys H2->Q (.ref D) H2) :
  iX (Itl K a) te σ D H1 Q:=by
 refine⟨λi m ys H=>m=xs.length - i/\i<=xs.length/\Pv i ys H,⟨xs.length,by simp,Vl _,h0⟩,?_⟩
 rintro i m ys H2 ⟨rfl,hi,p⟩;obtain⟨q,q2,q3⟩:=hl i ys H2 hi p;refine⟨q2,?_⟩
 by_cases hlt:i < xs.length
 ·refine .inr ⟨⟨xs,xs[i],q,by simp[hlt]⟩,by omega,λx H3 y=>?_⟩
  obtain⟨e,y⟩:=y;subst e;exact hs i x ys _ (y xs q) p
 have e:i=xs.length:=by omega
 subst e;exact .inl ⟨⟨xs,q,mv _⟩,hd ys H2 p⟩
theorem xW {lo:Int}{n:Nat}{D:Addr}{te:TE}{Q:VK}{σ:St}{H1:Hp}(Pv:Nat->List V->Hp->Prop)(h0:Pv 0 [] (ag H1 D (.lst [])))(hz:n<=fu)
  (hl:∀i ys H2,i<=n->Pv i ys H2->H2 D=some (.lst ys)/\ys.length=i)
  (hs:∀i ys H2,i < n->Pv i ys H2->te (some (.int (lo+i))::σ) H2 (cI D n Pv i ys)) (hd:∀ys H2,Pv n ys H2->Q (.ref D) H2) :
  iX (Itr lo n) te σ D H1 Q:=by
 refine⟨λi m ys H=>m=n - i/\i<=n/\Pv i ys H,⟨n,by simp,Vl _,h0⟩,?_⟩
 rintro i m ys H2 ⟨rfl,hi,p⟩;obtain⟨q2,q3⟩:=hl i ys H2 hi p;refine⟨q2,?_⟩
 by_cases hlt:i < n
 ·refine .inr ⟨hlt,by omega,λx H3 y=>?_⟩
  obtain⟨e,y⟩:=y;subst e y;exact hs i ys _ hlt p
 have e:i=n:=by omega
 subst e;exact .inl ⟨mv _,hd ys H2 p⟩
end
structure MkN (K:de)(C:Addr):Prop where
 makes:PySem.W.makesIn K C=true
 init:Vp K (.ref C) "__init__"=some (some (.builtin "object.__init__"))
 kp:Wz K (.ref C)=true
def PM (C:Addr):TE:=λ_ H Q=>∀x dx,H x=none->H dx=none->dx≠x->Q (.ref x) (ag (ag H dx (.own x)) x (.ins C dx []))
section
variable{X:Cx}{C:Addr}{x:Str}{p pos:Pos}
theorem lR (M:MkN X.K C)(hg:Gl X x)(hm:X.mg x=some (.ref C))(hdb:(x == ("__debug__":Str))=false:=by decide):PE X (.Call (.Name x p) [] [] pos) (PM C):=by
 intro af s σ H Q I h;refine wpAny_Call_Name_kw (qC I hg hm ?_ hdb);refine Wy I.kIn M.kp (wpAny_call ?_);have I2:=av.made (C:=C) I;have q:=h (s.heap.objs.size+1) s.heap.objs.size (I.hok.fresh (WB _)) (I.hok.fresh (mv _)) (Ve (Nat.lt_succ_self _));have fin:EP X af σ Q (.ref (s.heap.objs.size+1)) { s with heap:=(s.heap.push Vq).push (Vv C s.heap.objs.size) }:=⟨.ref _,_,I2,rfl,q⟩
 have X1:=I.kIn;have e2:((s.heap.push Vq).push (Vv C s.heap.objs.size)).get? (s.heap.objs.size+1)=some (Vv C s.heap.objs.size):=by
  have:=U9 (s.heap.push Vq) (o:=Vv C s.heap.objs.size) rfl
  rwa [Heap.size_push]at this
 clear I2 q h I;obtain⟨hh,g,d,t,os⟩:=s;have Y:=PySem.W.makes_of (M:=model X.prog X.w) X1 M.makes;refine PySem.W.make_core Y (PySem.W.looks_findIn X1 M.init) (λself=>PySem.W.Looks.of_pure (PySem.W.oi_bind self)) (.inr ⟨rfl,rfl⟩) ?_
 have t1:PySem.W.Looks (model X.prog X.w) ((hh.push Vq).push (Vv C hh.objs.size)) (typeOf (.ref (hh.objs.size+1))) (.ref C):=(PySem.W.Looks.ld e2).andThen .now;have t2:PySem.W.Looks (model X.prog X.w) ((hh.push Vq).push (Vv C hh.objs.size)) (isInstance (.ref (hh.objs.size+1)) (.type "object")) true:=t1.andThen (Y.top.keeps λb o e=>me _ (me _ e))
 refine codeAny_call_builtin PySem.W.oi_plain PySem.W.entry_oi (@PySem.W.check_slot (model X.prog X.w) _ _ _ "object.__init__" "object" "__init__" (.ref (hh.objs.size+1)) [] [] _ PySem.W.oi_kind PySem.W.oi_split t2 (PySem.W.oi_args (.ref (hh.objs.size+1))) ?_);show wpAny _ _ (Builtin.«object.__init__» ⟨[.ref (hh.objs.size+1)],[]⟩) _ _ _;rw[PySem.W.oi_run];exact Vd (And.intro rfl fin)
end
structure PN (P:Params)(K:de)(a:Addr):Prop where
 ex:∃es n,K.lookup a=some ⟨.type "dict",none,.dict es n,#[]⟩/\PySem.W.KeysLit P es.toList
section
variable{X:Cx}
theorem KC:IxR X (λx y H Q=>∃a z v u,x=.ref a/\y=.str z/\PN X.w.params X.K a/\PySem.W.nsIn X.K a z=some (some u)/\bE v u/\Q v H):=by
 intro value slice af s σ H x y v u Q I rx ry h hs;obtain⟨a,z,w',u',rfl,rfl,⟨es,n,hl,hk⟩,e,r,q⟩:=h;cases rx;obtain⟨t,rfl⟩:=ry;have hm:=PySem.W.mapOf_K (prog:=X.prog) I.kIn hl hk;exact tail_any hm.typeIs slot_dict_getitem.lookup (wpAny_getItem_of (strKind_is X.prog X.w z t) hm (PySem.W.find_K hl e) ⟨w',H,I.tok _,r,q⟩) hs
end
theorem Nl (bs:List Bool):(Wu bs.length).any (λi=>bs.getD i false)=bs.any id:=by
 have e:(Wu bs.length).map (λi=>bs.getD i false)=bs:=by
  apply List.ext_getElem
  ·simp
  intro i h1 h2;simp[h2]
 calc _=((Wu bs.length).map (λi=>bs.getD i false)).any id:=by rw[List.any_map];rfl
  _=_:=by rw[e]
theorem Nm (bs:List Bool):(Wu bs.length).all (λi=>bs.getD i false)=bs.all id:=by
 have e:(Wu bs.length).map (λi=>bs.getD i false)=bs:=by
  apply List.ext_getElem
  ·simp
  intro i h1 h2;simp[h2]
 calc _=((Wu bs.length).map (λi=>bs.getD i false)).all id:=by rw[List.all_map];rfl
  _=_:=by rw[e]
theorem xX:∀ {bs:List Bool} {us:List Value},bg (bs.map V.bl) us->us=bs.map Wi
 |[],_,.nil=>rfl
 |b::bs,_,.cons r t=>by
  cases r;rw[xX t];rfl
section
variable{X:Cx}
theorem KD (hc:X.calm=true):j3 X (.builtin "any") (λxs H Q=>∃(p:Addr) (bs:List Bool),xs=[.ref p]/\ay X.K H p (bs.map V.bl)/\Q (.bl (bs.any id)) H):=by
 intro af s σ H xs us Q I r h;obtain⟨p,bs,rfl,hq,q⟩:=h;obtain⟨u,rfl,rx⟩:=vals1 r;cases rx;obtain⟨its,rv,pl,hz⟩:=I.list hq;obtain rfl:=xX rv;refine call_any_walk (wpAny_pyIter_list pl.isList ?_);obtain⟨o,n,e,_⟩:=id pl;have hlt:p < s.heap.objs.size:=U6 e;refine⟨s.heap.objs.size,_,_,_,_,_,λi=>bs.getD i false,rfl,Walks.list (A:=X.A.in1) (show X.A.in1.handled=none from I.ok.hd hc) s.heap.objs.size p (Ve hlt) (bs.map Wi).toArray,⟨⟨_,U9 _ rfl,rfl,rfl⟩,pl.isList.at λo e=>me _ e⟩,?_,λh' tk kk=>?_⟩
 ·intro i v s' Q' E' hv q';have hv':v=Wi (bs.getD i false):=by
   have h2:(bs.map Wi)[i]?=some v:=by simpa using hv
   rw[sr]at h2;cases hb:bs[i]? with
   |none=>rw[hb]at h2;cases h2
   |some b =>
    rw[hb]at h2;rw[U7,hb];exact(US h2).symm
  rw[hv'];exact wpAny_truthy_bool q'
 have I1:av X af σ H { s with heap:=h',toks:=tk }:=I.kept λb o e=>kk b o (by simp;exact Ve (U6 e)) (me _ e)
 refine⟨.bl _,H,I1,rfl,?_⟩;have e1:(bs.map Wi).toArray.size=bs.length:=by simp
 rw[e1,Nl];exact q
theorem tL (hc:X.calm=true):j3 X (.builtin "all") (λxs H Q=>∃(p:Addr) (bs:List Bool),xs=[.ref p]/\ay X.K H p (bs.map V.bl)/\Q (.bl (bs.all id)) H):=by
 intro af s σ H xs us Q I r h;obtain⟨p,bs,rfl,hq,q⟩:=h;obtain⟨u,rfl,rx⟩:=vals1 r;cases rx;obtain⟨its,rv,pl,hz⟩:=I.list hq;obtain rfl:=xX rv;refine call_all_walk (wpAny_pyIter_list pl.isList ?_);obtain⟨o,n,e,_⟩:=id pl;have hlt:p < s.heap.objs.size:=U6 e;refine⟨s.heap.objs.size,_,_,_,_,_,λi=>bs.getD i false,rfl,Walks.list (A:=X.A.in1) (show X.A.in1.handled=none from I.ok.hd hc) s.heap.objs.size p (Ve hlt) (bs.map Wi).toArray,⟨⟨_,U9 _ rfl,rfl,rfl⟩,pl.isList.at λo e=>me _ e⟩,?_,λh' tk kk=>?_⟩
 ·intro i v s' Q' E' hv q';have hv':v=Wi (bs.getD i false):=by
   have h2:(bs.map Wi)[i]?=some v:=by simpa using hv
   rw[sr]at h2;cases hb:bs[i]? with
   |none=>rw[hb]at h2;cases h2
   |some b =>
    rw[hb]at h2;rw[U7,hb];exact(US h2).symm
  rw[hv'];exact wpAny_truthy_bool q'
 have I1:av X af σ H { s with heap:=h',toks:=tk }:=I.kept λb o e=>kk b o (by simp;exact Ve (U6 e)) (me _ e)
 refine⟨.bl _,H,I1,rfl,?_⟩;have e1:(bs.map Wi).toArray.size=bs.length:=by simp
 rw[e1,Nm];exact q
end
def RZ (X:Cx)(af:List (Addr×Obj))(H:Hp)(h:Heap)(e:Addr)(vs:Array Value):Option Value->Prop
 |none=>vs[1]?=some .none
 |some m=>∃(T:Addr) (oT:Obj) (ts:Array Value),vs[1]?=some (.ref T)/\T≠e/\uZ X af H T/\h.get? T=some oT/\oT.data=.fields ts/\ts[3]?=some m
def TR (X:Cx)(af:List (Addr×Obj))(H:Hp)(h:Heap)(e:Addr)(vs:Array Value):Prop :=
 vs[2]?=some .none\/∃(c:Addr) (oc:Obj) (ws:Array Value),vs[2]?=some (.ref c)/\c≠e/\uZ X af H c/\h.get? c=some oc/\oc.data=.fields ws/\ws[2]?=some .none
structure Z2 (X:Cx)(af:List (Addr×Obj))(H:Hp)(h:Heap)(e:Addr)(vs:Array Value):Prop where
 sz:1 < vs.size
 cx:X.xc=true->vs[2]?=some .none
 c1:X.xn=false->TR X af H h e vs
structure XAt (X:Cx)(af:List (Addr×Obj))(H:Hp)(h:Heap)(e:Addr)(cls:Value)(xd:Option Addr)(m:Option Value):Prop where
 ok:uZ X af H e
 ex:∃(sl:Array (Option Value)) (vs:Array Value),h.get? e=some ⟨cls,xd,.fields vs,sl⟩/\Z2 X af H h e vs/\RZ X af H h e vs m
abbrev SXK:=St->XK
structure Fr1 (X:Cx):Prop where
 stk:X.stack=X.env::X.outer
 fr:X.env.frame=some X.env.locals
abbrev TEX:=St->Hp->VK->XK->Prop
abbrev TAX:=St->Hp->(List V->Hp->Prop)->XK->Prop
noncomputable abbrev hcx (X:Cx)(e:Addr):Cx:={ X with A:=X.A.mark (some (.ref e)),calm:=false,xe:=λ_ _=>False }
abbrev THX:=Ends->SXK->St->XK
structure GaX (K:de)(C:Addr):Prop where
 ga:Vp K (.ref C) "__getattribute__"=some (some (.builtin "BaseException.__getattribute__"))
 hk:Vp K (.ref C) "__getattr__"=some none
 mb:PySem.W.mroIn K C (.type "BaseException")=some true
structure UB (K:de)(C:Addr):Prop where
 ga:GaX K C
 cd:(PySem.W.clsIn K C).isSome=true
 ha:Vp K (.ref C) "__class__"=some (some (.builtin "object.__class__"))
 hn:PySem.W.specialIn K (.builtin "object.__class__") "__get__"=some (some (.builtin "getset_descriptor.__get__"))
 htk:PySem.W.takesIn K (.builtin "object.__class__")=some true
 hm:PySem.W.mroIn K C (.type "object")=some true
noncomputable abbrev R0:List Value:=[.type "ValueError",.type "Exception",.type "BaseException",.type "object"]
noncomputable def strKeys (es:Array DictEntry):Bool:=es.toList.all λe=>match e.key with | .str _ _=>true | _=>false
structure KG (K:de)(N:Addr):Prop where
 ex:∃(c:Value) (dd:Option Addr) (es:Array DictEntry) (n:Nat) (sl:Array (Option Value)),K.lookup N=some ⟨c,dd,.dict es n,sl⟩/\strKeys es=true
 no:PySem.W.nsIn K N "__init__"=some none
inductive KH (K:de):List Value->Prop
 |base:KH K R0
 |own {D:Addr} {c0:Value} {dd:Option Addr} {cd:ClassData} {sl:Array (Option Value)} {tl:List Value}:K.lookup D=some ⟨c0,dd,.cls cd,sl⟩->KG K cd.ns->KH K tl->KH K (.ref D::tl)
structure UK (K:de)(C:Addr):Prop where
 ex:∃(nm q:Str) (N:Addr) (bs bm:List Value) (Nn:Bool) (sn:List Str) (sub:List Value) (ab:Bool) (col:Option Bool) (dd:Option Addr) (k0 k1 k2 k3 k5:Option Value),
  K.lookup C=some (excClassObj nm q C N bs bm Nn sn sub ab col dd k0 k1 k2 k3 k5 "ValueError.__new__")/\KG K N/\KH K bm
theorem Bd {α β:Type}(f:α->β):∀(xs:List α) (n:Nat),(xs.eraseIdx n).map f=(xs.map f).eraseIdx n
 |[],_=>rfl
 |_::_,0=>rfl
 |x::xs,n+1=>by
  show f x::(xs.eraseIdx n).map f=f x::(xs.map f).eraseIdx n;rw[Bd f xs n]
section
variable{X:Cx}{pos:Pos}
theorem bg.insert {xs:List V}{us:List Value}(r:bg xs us){y:V}{u:Value}(ry:bE y u)(k:Nat):bg (xs.take k++y::xs.drop k) (us.take k++u::us.drop k):=(r.take k).append (.cons ry (r.drop k))
def Np:V->List V->Hp->VK->Prop:=λx vs H Q=>∃(l:Addr) (xs:List V) (i:Int) (k:Nat) (y:V),x=.ref l/\vs=[.int i,y]/\i=(k:Int)/\H l=some (.lst xs)/\k<=xs.length/\xs.length < fu/\Q .non (ag H l (.lst (xs.take k++y::xs.drop k)))
theorem Jz:MtM X "list.insert" Np:=by
 intro af s σ H x vs v us Q I rx rv h;obtain⟨l,xs,i,k,y,rfl,rfl,hi,hH,hk,hz,q⟩:=h;cases rx;obtain⟨u1,u2,rfl,r1,r2⟩:=rv.two;obtain⟨t,rfl⟩:=r1;obtain⟨z,its,n,r,hl,e⟩:=I.Eb hH;have lim:fu=16777216:=by decide
 have a2:its.toArray.size<=fu:=by rw[si];omega
 have b:Builtin.List.listFitsIndex i=true:=fitsIndex_both (by omega) (by omega)
 have nb:¬(!Builtin.List.listFitsIndex i)=true:=by rw[b];decide
 refine call_meets F.slot_list_insert ⟨_,e,rfl⟩ F.entry_list_insert (F.args_list_insert_3 _ _ _) (AutoSeq1.list_insert_list_int_val_1 l its.toArray n i t u2 nb a2) ⟨e,?_⟩;refine⟨.non,_,I.Ku (its':=its.take k++u2::its.drop k) hH e ?_ (r.insert r2 k) ?_,rfl,q⟩
 ·show (its.toArray.extract 0 (if i < 0 then (i+(its.toArray.size:Int)).toNat else min i.toNat its.toArray.size)).push u2++its.toArray.extract (if i < 0 then (i+(its.toArray.size:Int)).toNat else min i.toNat its.toArray.size)=_
  have e1:(if i < 0 then (i+(its.toArray.size:Int)).toNat else min i.toNat its.toArray.size)=k:=by
   rw[si,aZ (by omega)]
   omega
  rw[e1];apply Array.toList_inj.mp;simp;exact Wb (by rw[VM];omega)
 rw[ki,UQ,Vf,VM];omega
end
section
variable{X:Cx}{e:Expr}{te:TE}{y:Str}{j:Nat}{p1 p2 pos:Pos}
theorem len_app (a b:Str):(a++b).length=a.length+b.length:=by
 show (a.cps++b.cps).size=_;simp[Str.length]
end
theorem Eh {K:de}{a D:Addr}{xs:List V}{te:TE}{Q:VK}{σ:St}{H1:Hp}(Pv:Nat->List V->Hp->Prop)(h0:Pv 0 [] (ag H1 D (.lst [])))(hz:xs.length<=fu)
  (hl:∀i ys H2,i<=xs.length->Pv i ys H2->aW K H2 a xs/\H2 D=some (.lst ys)/\ys.length=i)
  (hs:∀i x ys H2,xs[i]?=some x->Pv i ys H2->te (some x::σ) H2 (cI D xs.length Pv i ys)) (hd:∀ys H2,Pv xs.length ys H2->Q (.ref D) H2) :
  iX (Itt K a) te σ D H1 Q:=by
 refine⟨λi m ys H=>m=xs.length - i/\i<=xs.length/\Pv i ys H,⟨xs.length,by simp,Vl _,h0⟩,?_⟩
 rintro i m ys H2 ⟨rfl,hi,p⟩;obtain⟨q,q2,q3⟩:=hl i ys H2 hi p;refine⟨q2,?_⟩
 by_cases hlt:i < xs.length
 ·refine .inr ⟨⟨xs,xs[i],q,by simp[hlt]⟩,by omega,λx H3 y=>?_⟩
  obtain⟨e,y⟩:=y;subst e;exact hs i x ys _ (y xs q) p
 have e:i=xs.length:=by omega
 subst e;exact .inl ⟨⟨xs,q,mv _⟩,hd ys H2 p⟩
theorem bO {K:de}{H H':Hp}{t:Addr}{xs:List V}(s:bh H H')(h:aW K H t xs):aW K H' t xs:=by
 rcases h with (h | ⟨o,h⟩) | h
 ·exact .inl (.inl (s _ _ h))
 ·exact .inl (.inr ⟨o,s _ _ h⟩)
 exact .inr h
theorem qF (a b c:Str):(a++b)++c=a++(b++c):=by
 apply tK;rw[cO,cO,cO,cO,VX]
theorem Ei (sep:Str):∀(a b:List Str),a≠[]->b≠[]->kx sep (a++b)=(kx sep a++sep)++kx sep b
 |[],_,h,_=>absurd rfl h
 |[x],[],_,h=>absurd rfl h
 |[x],y::b,_,_=>rfl
 |x::x2::a,b,_,hb=>by
  have ih:=Ei sep (x2::a) b (U5 _ _) hb;show (x++sep)++kx sep (x2::a++b)=(((x++sep)++kx sep (x2::a))++sep)++kx sep b;rw[ih];simp only[qF]
theorem join_join (sep:Str)(a b:List Str)(ha:a≠[]):kx sep (kx sep a::b)=kx sep (a++b):=by
 cases b with
 |nil=>rw[List.append_nil];rfl
 |cons y b=>rw[Ei sep a (y::b) ha (U5 _ _)];rfl
end _L
namespace _L
open PySem PySem.Spec PySem.Calls PyProof.Rows
theorem KI {X:Cx}{K:de}(ek:X.K=K):IxR X (Ps K):=by
 subst ek;exact br
def PQ (n:Nat)(Cf:Nat->Addr)(m:Str)(spf:Nat->Sp)(E:XK)(ta:TE):TE:=λσ H Q=>ta σ H λx H1=>∃k,k < n/\∃a dx fs,x=.ref a/\H1 a=some (.ins (Cf k) dx fs)/\fs.lookup m=none/\spf k [x] H1 Q E
section
variable{X:Cx}{o:Expr}{ta:TE}{m:Str}{apos pos:Pos}{n:Nat}{Cf ff:Nat->Addr}{fdf:Nat->gr}{spf:Nat->Sp}{kk:Nat}{ps:List Str}{CX:CXT}{E:XK}
theorem jV {pl:Sem Bool}(he:PE X o ta)(c:∀k,k < n->Cls X.K (Cf k))(hm:∀k,k < n->gK X.K (Cf k) m (ff k))(F:∀k,k < n->aC X.prog X.w X.K X.mg X.base CX kk (ff k) (fdf k) ps (spf k))(hr:b7 kk X.A)(hb:∀k,k < n->bJ X.K (fdf k) ps [])
  (hx:Passes CX X E)
  (ht:eval (.Call (.Attribute o m apos) [] [] pos) X.env=(do
   let ov <-eval o X.env
   standAt apos.atName
   let (f,first) <-holding [ov] (getMethod ov m pl)
   callWith pos f first (backTo pos (Vn [] X.env)) (WE pos (VZ [] X.env))):=by rfl) :
  PE X (.Call (.Attribute o m apos) [] [] pos) (PQ n Cf m spf E ta):=by
 intro af s σ H Q I h;refine PySem.W.methodCall_KW (pl:=pl) (thn (he af s σ H _ I h) λu s1 ⟨x,H1,I1,rx,k,hk,a,dx,fs,ex,ea,l,q⟩=>?_) ht
 subst ex;obtain rfl:u=VL a:=rx;refine mW I1 ea (c k hk) (hm k hk) l ?_;exact Wy (first:=[.ref a]) I1.kIn (hm k hk).kp (xP (us:=[.ref a]) (vs:=[.ref a]) (dvs:=[]) (F k hk) hr (hb k hk) .nil hx I1 (.cons rfl .nil) q)
theorem R1 {P:wt}{w:World}{K:de}{mg:Str->Option Value}{base:Heap}{CX:CXT}{k:Nat}{f:Addr}{fd:gr}{ps:List Str}{sp sp':Sp}(F:aC P w K mg base CX k f fd ps sp)(G:aC P w K mg base CX k f fd ps sp') :
  aC P w K mg base CX k f fd ps (λvs H Q E=>sp vs H Q E\/sp' vs H Q E) :=
 ⟨λvs H Q E z=>z.elim (F.len vs H Q E) (G.len vs H Q E),λa b c H d e vs Q E p q r s z=>z.elim (F.run a b c H d e vs Q E p q r s) (G.run a b c H d e vs Q E p q r s)⟩
end
section
variable{X:Cx}
def PR (K:de):V->List V->Hp->VK->Prop:=λx vs H Q=>∃(l:Addr) (ws:List Str) (z:Str) (j:Nat),x=.ref l/\vs=[.str z]/\ay K H l (ws.map V.str)/\ws[j]?=some z/\(∀m,m < j->ws[m]?≠some z)/\Q (.int j) H
theorem KJ:MtR X "list.index" (PR X.K):=by
 intro af s σ H x vs v us Q I rx rv h;obtain⟨l,ws,z,j,rfl,rfl,hq,hj,hno,q⟩:=h;cases rx;obtain⟨u,rfl,t,rfl⟩:=vals1 rv;obtain⟨its,r,pl,hz⟩:=I.list hq;have hlen:=r.length;rw[bo]at hlen;obtain⟨⟨cls,dd,data,sl⟩,ho,hc,n,hd⟩:=pl.isList;simp only at hc hd;subst hc hd;have flat:(ws.map V.str).all tH=true:=by
  rw[List.all_eq_true];intro y hy;obtain⟨w,_,rfl⟩:=List.mem_map.mp hy;rfl
 have at_:∀(i:Nat) (h:i < its.toArray.size),∃w,ws[i]?=some w/\eqU (.str z) its.toArray[i]=(w == z):=λi h=>by
  have h':i < ws.length:=by rw[si]at h;omega
  refine⟨ws[i],wa h',?_⟩;obtain⟨u,hu,ru⟩:=bg.get r (show (ws.map V.str)[i]?=some (V.str ws[i]) by rw[sr,wa h'];rfl)
  have e:its.toArray[i]=u:=by
   rw[wa (by rw[si]at h;exact h)]at hu
   simpa using US hu
  rw[e,Gy ru rfl];rfl
 have jl:j < ws.length:=(List.getElem?_eq_some_iff.mp hj).1;have hn:=pf;have hsz:ws.length<=fu:=by rw[bo]at hz;exact hz
 refine call_meets PySem.F.slot_list_index ⟨_,ho,rfl⟩ PySem.F.entry_list_index (PySem.F.args_list_index_2 _ _) (SeqAt.list_indexAt l its.toArray n dd sl (.str z t) (eqU (.str z)) j (by rw[si];omega) (by rw[sizeLine_eq]at hsz;omega) ?_ ?_) ⟨ho,λy hy=>tI (x:=.str z) (v:=.str z t) ⟨t,rfl⟩ rfl r flat y (by simpa using hy),?_⟩
 ·obtain⟨w,h1,h2⟩:=at_ j (by rw[si];omega)
  rw[h2];obtain rfl:=US (h1.symm.trans hj);exact beq_self_eq_true _
 ·intro m hm hmj;obtain⟨w,h1,h2⟩:=at_ m hm;rw[h2];exact beq_eq_false_iff_ne.mpr λe=>hno m hmj (by rw[h1,e])
 exact⟨.int j,H,I.tok _,⟨_,rfl⟩,q⟩
end
def KeysAre:List DictEntry->List Str->Prop
 |[],ns=>ns=[]
 |e::r,ns=>∃x xs t,ns=x::xs/\e.key=.str x t/\KeysAre r xs
structure S5 (P:Params)(K:de)(a:Addr)(ns:List Str):Prop where
 ex:∃es n,K.lookup a=some ⟨.type "dict",none,.dict es n,#[]⟩/\PySem.W.KeysLit P es.toList/\KeysAre es.toList ns
 nd:ns.Nodup
 lo:(a == Wj)=false
end _L
namespace _L
open PySem PySem.Spec PyProof.Rows
section
variable{X:Cx}
theorem qG:OpR X (VP .LtE) (λx y H Q=>∃i j,x=.str i/\y=.str j/\Q (.bl (!decide (j.cps.toList < i.cps.toList))) H):=by
 intro af s σ H x y v u Q I rx ry h;obtain⟨i,j,rfl,rfl,q⟩:=h;obtain⟨t,rfl⟩:=rx;obtain⟨t',rfl⟩:=ry;exact PySem.P.le_str ⟨.bl _,H,I,rfl,q⟩
theorem xY:OpR X (WD .Mult) (λx y H Q=>∃(z:Str) (n:Int),x=.str z/\y=.int n/\PySem.MulOk z n/\Q (.str (Txt.mul z n)) H):=by
 intro af s σ H x y v u Q I rx ry h;obtain⟨z,n,rfl,rfl,hm,q⟩:=h;obtain⟨t,rfl⟩:=rx;obtain⟨t',rfl⟩:=ry;exact PySem.SB.mul hm λt2 k=>⟨.str _,H,I.tok _,⟨_,rfl⟩,q⟩
theorem Ax:j3 X (.type "int") (λxs H Q=>∃(z:Str) (n:Int),xs=[.str z]/\PySem.intText? z=some n/\z.length<=640/\Q (.int n) H):=by
 intro af s σ H xs us Q I r h;obtain⟨z,n,rfl,hn,hl,q⟩:=h;obtain⟨u,rfl,rx⟩:=bg.one r;obtain⟨t,rfl⟩:=rx;exact PySem.W.KIN.call_text hn hl ⟨.int n,H,I.tok _,⟨_,rfl⟩,q⟩
end
def Itz (x:Str):It:=⟨λi _=>i < x.cps.size,λi H v H'=>H'=H/\∃c,x.cps[i]?=some c/\v=.str ⟨#[c]⟩,λi _=>x.cps.size<=i⟩
theorem JA {P:wt}{w:World}{K:de}{tg:Expr}(it:Addr)(x:Str)(t:Tok):Turn P w K tg (Itz x) [it] it (λi h=>h.IsStrIter it "str_ascii_iterator" x t i) where
 mem:=by simp
 obj:=λi h st b hb=>by
  have e:b=it:=by simpa using hb
  subst e;obtain⟨o,e,c,d⟩:=st;exact⟨o,e,λv z=>by rw[d]at z;cases z⟩
 keep:=λi h h' st k=>let ⟨o,e,r⟩:=st;⟨o,k it (by simp) o e,r⟩
 item:=by
  intro X hP hw hK hc i af s σ H E I hf st hg;subst hP hw hK;obtain⟨f0,f1,f2,f3,f4,f5⟩:=hf it (by simp)
  have hg':i < x.cps.size:=hg;refine wpAny_pyNext_ascii_item st (c:=x.cps[i]) (by simp[hg']) λh' st' sb=>?_
  have I1:av X af σ H { s with heap:=h',toks:=s.toks+1 }:=I.turned (λb o hb e=>(sb.2 b hb).trans e) f0 f1 f3 f4 f5
  obtain⟨o,e,c,d⟩:=id st';exact⟨_,rfl,A1 (s:={ s with heap:=h',toks:=s.toks+1 }) e c d (by decide) ⟨.str ⟨#[x.cps[i]]⟩,H,I1,⟨_,rfl⟩,⟨rfl,_,by simp[hg'],rfl⟩,st',λb hb=>(hf b hb).1⟩⟩
 done:=by
  intro X hP hw hK hc i af s σ H E I hf st hg;subst hP hw hK;obtain⟨f0,f1,f2,f3,f4,f5⟩:=hf it (by simp)
  have hg':x.cps.size<=i:=hg;exact wpAny_pyNext_ascii_end (I.ok.hd hc) st (by simp[hg']) λh' eb=>⟨rfl,I.turned (t':=s.toks) (λb o hb e=>eb b o hb e) f0 f1 f3 f4 f5⟩
 self:=λ_ _ _ _ _ st h=>wpAny_pyIter_striter_ascii st h
theorem JB {P:wt}{w:World}{K:de}{tg:Expr}(it:Addr)(x:Str)(t:Tok):Turn P w K tg (Itz x) [it] it (λi h=>h.IsStrIter it "str_iterator" x t i) where
 mem:=by simp
 obj:=λi h st b hb=>by
  have e:b=it:=by simpa using hb
  subst e;obtain⟨o,e,c,d⟩:=st;exact⟨o,e,λv z=>by rw[d]at z;cases z⟩
 keep:=λi h h' st k=>let ⟨o,e,r⟩:=st;⟨o,k it (by simp) o e,r⟩
 item:=by
  intro X hP hw hK hc i af s σ H E I hf st hg;subst hP hw hK;obtain⟨f0,f1,f2,f3,f4,f5⟩:=hf it (by simp)
  have hg':i < x.cps.size:=hg;refine wpAny_pyNext_wide_item st (c:=x.cps[i]) (by simp[hg']) λh' st' sb=>?_
  have I1:av X af σ H { s with heap:=h',toks:=s.toks+1 }:=I.turned (λb o hb e=>(sb.2 b hb).trans e) f0 f1 f3 f4 f5
  obtain⟨o,e,c,d⟩:=id st';exact⟨_,rfl,A1 (s:={ s with heap:=h',toks:=s.toks+1 }) e c d (by decide) ⟨.str ⟨#[x.cps[i]]⟩,H,I1,⟨_,rfl⟩,⟨rfl,_,by simp[hg'],rfl⟩,st',λb hb=>(hf b hb).1⟩⟩
 done:=by
  intro X hP hw hK hc i af s σ H E I hf st hg;subst hP hw hK;obtain⟨f0,f1,f2,f3,f4,f5⟩:=hf it (by simp)
  have hg':x.cps.size<=i:=hg;exact wpAny_pyNext_wide_end (I.ok.hd hc) st (by simp[hg']) λh' eb=>⟨rfl,I.turned (t':=s.toks) (λb o hb e=>eb b o hb e) f0 f1 f3 f4 f5⟩
 self:=λ_ _ _ _ _ st h=>wpAny_pyIter_striter_wide st h
section
variable{X:Cx}{tg:Expr}
def TU (tl:TE):TI:=λσ H R=>tl σ H λx H1=>∃z,x=.str z/\R (Itz z) H1
theorem GD {l:Expr}{tl:TE}(hl:PE X l tl):PI X tg l (TU tl):=by
 intro af s σ H R I h;refine thn (hl af s σ H _ I h) λv s1 ⟨x,H1,I1,r1,z,e,q⟩=>?_
 subst e;obtain⟨t,rfl⟩:=r1;have fp:∀b∈[s1.heap.objs.size],uZ X af H1 b:=λb hb=>by
  have e:b=s1.heap.objs.size:=by simpa using hb
  subst e;exact I1.F7 (mv _) (I1.hok.fresh (mv _))
 cases ha:z.cps.all (· < 128)
 ·exact wpAny_pyIter_wide ha ⟨s1.heap.objs.size,[s1.heap.objs.size],_,_,H1,rfl,I1.kept (t':=s1.toks) λb o e=>me _ e,JB _ z t,⟨_,U9 _ rfl,rfl,rfl⟩,fp,q⟩
 exact wpAny_pyIter_ascii ha ⟨s1.heap.objs.size,[s1.heap.objs.size],_,_,H1,rfl,I1.kept (t':=s1.toks) λb o e=>me _ e,JA _ z t,⟨_,U9 _ rfl,rfl,rfl⟩,fp,q⟩
end
theorem KL {z:Str}{D:Addr}{te:TE}{Q:VK}{σ:St}{H1:Hp}(Pv:Nat->List V->Hp->Prop)(h0:Pv 0 [] (ag H1 D (.lst [])))(hz:z.cps.size<=fu)
  (hl:∀i ys H2,i<=z.cps.size->Pv i ys H2->H2 D=some (.lst ys)/\ys.length=i)
  (hs:∀i c ys H2,z.cps[i]?=some c->Pv i ys H2->te (some (.str ⟨#[c]⟩)::σ) H2 (cI D z.cps.size Pv i ys)) (hd:∀ys H2,Pv z.cps.size ys H2->Q (.ref D) H2) :
  iX (Itz z) te σ D H1 Q:=by
 refine⟨λi m ys H=>m=z.cps.size - i/\i<=z.cps.size/\Pv i ys H,⟨z.cps.size,by simp,Vl _,h0⟩,?_⟩
 rintro i m ys H2 ⟨rfl,hi,p⟩;obtain⟨q2,q3⟩:=hl i ys H2 hi p;refine⟨q2,?_⟩
 by_cases hlt:i < z.cps.size
 ·refine .inr ⟨hlt,by omega,λx H3 y=>?_⟩
  obtain⟨e,c,y,ex⟩:=y;subst e ex;exact hs i c ys _ y p
 have e:i=z.cps.size:=by omega
 subst e;exact .inl ⟨mv _,hd ys H2 p⟩
theorem u7 {z:Str}{D:Addr}{te:TE}{Q:VK}{σ:St}{H1:Hp}(p:Nat->Bool)(hz:z.cps.size<=fu)(hD:H1 D=none)
  (hs:∀(c:Nat) (H2:Hp) (Q2:VK),c∈z.cps.toList->bh H1 H2->(∀H3,bh H2 H3->Q2 (.bl (p c)) H3)->te (some (.str ⟨#[c]⟩)::σ) H2 Q2)
  (hd:∀H2,bh H1 H2->H2 D=some (.lst ((z.cps.toList.map p).map V.bl))->Q (.ref D) H2):iX (Itz z) te σ D H1 Q:=by
 refine KL (λi ys H2=>ys=((z.cps.toList.take i).map p).map V.bl/\bh H1 H2/\H2 D=some (.lst ys)) ⟨by simp,aw hD,ae⟩ hz ?_ ?_ ?_
 ·rintro i ys H2 hi ⟨rfl,s2,h2⟩;exact⟨h2,by simp;omega⟩
 ·rintro i c ys H2 hi ⟨rfl,s2,h2⟩;have hi':z.cps.toList[i]?=some c:=by rw[Array.getElem?_toList];exact hi
  refine hs c H2 _ (U2 hi') s2 λH3 s3=>?_
  refine cI.mk (Array.getElem?_eq_some_iff.mp hi).1 (s3 _ _ h2) ⟨?_,(s2.trans s3).own hD,ae⟩;rw[Ws,hi'];simp
 rintro ys H2 ⟨rfl,s2,h2⟩;refine hd H2 s2 (h2.trans ?_);rw[Wb (by simp)]
inductive PU:List Expr->List Str->Prop
 |nil:PU [] []
 |cons {x:Str} {j:_} {p:Pos} {es:List Expr} {ss:List Str}:PU es ss->PU (.Constant (.str x) j p::es) (x::ss)
structure PV (scope outer:Scope)(xs N M:List Str):Prop where
 kind:scope.kind=.function
 OT:outer.kind=.function
 GC:∀y∈scope.names,y.2≠.cell
 names:∀y∈scope.names,y.2=.local->scope.names.lookup y.1=some .local
 hx:∀x∈xs,scope.names.lookup x=some .local
 free:∀y∈scope.names,y.2=.free->outer.names.lookup y.1=some .cell
 nl:∀n∈M,(fH scope outer).names.lookup n≠some .local
 nd2:(xs++M).Nodup
 nd:N.Nodup
 len:M.length=N.length
 rel:∀i:Nat,i < N.length->M[i]?=N[i]?\/M[i]?=some Str.empty
 em:(fH scope outer).names.lookup Str.empty=none
abbrev TJ:=St->Hp->Str->(Str->Hp->Prop)->Prop
inductive R3:V->Str->Prop
 |int {i:Int}:i.natAbs.log2 < 1920->R3 (.int i) (toString i)
 |str {x:Str}:R3 (.str x) x
structure UC (K:de)(D:Addr):Prop where
 rd:PySem.W.readsIn K D (.type "type")=true
 sp:PySem.W.specialIn K (.ref D) "__getattribute__"=some (some (.builtin "type.__getattribute__"))
 fc:PySem.W.findCls K (.ref D) (.type "type") "__init__"=some (.val (.builtin "ValueError.__init__"))
structure Nq (K:de)(N f:Addr):Prop where
 ex:∃(c:Value) (dd:Option Addr) (es:Array DictEntry) (n:Nat) (sl:Array (Option Value)),K.lookup N=some ⟨c,dd,.dict es n,sl⟩/\strKeys es=true
 at_:PySem.W.nsIn K N "__init__"=some (some (.ref f))
structure UL (K:de)(C f:Addr)(name:Str):Prop where
 ex:∃(nm q:Str) (N:Addr) (bs bm:List Value) (Nn:Bool) (sn:List Str) (sub:List Value) (ab:Bool) (col:Option Bool) (dd:Option Addr) (k0 k1 k2 k3 k5:Option Value),
  K.lookup C=some (excClassObj nm q C N bs bm Nn sn sub ab col dd k0 k1 k2 k3 k5 "ValueError.__new__")/\KH K bm/\Nn=true/\Nq K N f
 fn:PySem.W.isFn K (.ref f)=true
 sa:Vp K (.ref C) "__setattr__"=some (some (.builtin "object.__setattr__"))
 na:Vp K (.ref C) name=some none
section
variable{X:Cx}{af:List (Addr×Obj)}{σ:St}{H:Hp}{s:Shared}{C D f:Addr}{name x:Str}{np apos j4 pos pos':Pos}{o e value:Expr}{ta tv:TE}{t:TA}
structure UM (K:de)(C:Addr)(name:Str):Prop where
 ga:GaX K C
 na:Vp K (.ref C) name=some none
 hd:PySem.W.hasDictIn K C=true
end
section
variable{κ:Type}[DecidableEq κ]
noncomputable def d6 (kvs:List (κ×V))(k:κ):Option V:=(kvs.find? λkv=>decide (kv.1=k)).map (·.2)
noncomputable def bB (kvs:List (κ×V))(k:κ)(v:V):List (κ×V) :=
 if (kvs.any λkv=>decide (kv.1=k))=true then kvs.map (λkv=>if kv.1=k then (kv.1,v) else kv) else kvs++[(k,v)]
noncomputable def gE (kvs:List (κ×V))(k:κ):List (κ×V):=kvs.filter λkv=>decide (kv.1≠k)
theorem cJ {p:κ×V}{r:List (κ×V)}{k:κ}(e:p.1=k):d6 (p::r) k=some p.2:=by simp[d6,VB,e]
theorem bR {p:κ×V}{r:List (κ×V)}{k:κ}(e:¬p.1=k):d6 (p::r) k=d6 r k:=by simp[d6,VB,e]
theorem j6 (k:κ):∀kvs:List (κ×V),(kvs.any λkv=>decide (kv.1=k))=(d6 kvs k).isSome
 |[]=>rfl
 |p::r=>by
  rw[V2]
  by_cases e:p.1=k
  ·simp only[cJ e,bG e,Bool.true_or,Option.isSome_some]
  rw[bR e,bV e,Bool.false_or];exact j6 k r
theorem Ej (k j:κ)(y:V):∀kvs:List (κ×V),d6 (kvs.map λkv=>if kv.1=k then (kv.1,y) else kv) j=(d6 kvs j).map λx=>if j=k then y else x
 |[]=>rfl
 |p::r=>by
  have ih:=Ej k j y r;rw[rf]
  by_cases h:p.1=k
  ·rw[bp h]
   by_cases e:p.1=j
   ·rw[cJ (p:=(p.1,y)) e,cJ e,Option.map_some,bp (e.symm.trans h)]
   rw[bR (p:=(p.1,y)) e,bR e,ih]
  rw[aZ h]
  by_cases e:p.1=j
  ·rw[cJ (p:=p) e,cJ e,Option.map_some,aZ (λz=>h (e.trans z))]
  rw[bR (p:=p) e,bR e,ih]
theorem Be (k j:κ)(y:V):∀kvs:List (κ×V),d6 kvs k=none->d6 (kvs++[(k,y)]) j=if j=k then some y else d6 kvs j
 |[],_=>by
  by_cases e:k=j
  ·rw[bp e.symm];exact cJ (p:=(k,y)) e
  rw[aZ (λz=>e z.symm)];exact bR (p:=(k,y)) e
 |p::r,hn=>by
  rw[List.cons_append];have hk:¬p.1=k:=λz=>by rw[cJ z]at hn;cases hn
  rw[bR hk]at hn;have ih:=Be k j y r hn
  by_cases e:p.1=j
  ·rw[cJ e,cJ e,aZ (λz=>hk (e.trans z))]
  rw[bR e,bR e,ih]
theorem Ek (kvs:List (κ×V))(k j:κ)(y:V):d6 (bB kvs k y) j=if j=k then some y else d6 kvs j:=by
 unfold bB
 by_cases a:(kvs.any λkv=>decide (kv.1=k))=true
 ·rw[bp a,Ej];rw[j6]at a
  by_cases e:j=k
  ·obtain⟨x,hx⟩:=Option.isSome_iff_exists.mp a;rw[bp e,e,hx,Option.map_some,bp rfl]
  rw[aZ e];cases d6 kvs j with
  |none=>rfl
  |some x=>rw[Option.map_some,aZ e]
 rw[aZ a];refine Be k j y kvs ?_;rw[j6]at a;cases q:d6 kvs k with
 |none=>rfl
 |some x=>rw[q]at a;exact(a rfl).elim
theorem pz (kvs:List (κ×V))(k:κ)(v:V):(bB kvs k v).length<=kvs.length+1:=by
 unfold bB;split
 ·rw[bo];omega
 rw[ki,UQ,List.length_nil];omega
theorem KM {kvs:List (κ×V)}{k:κ}(v:V)(h:d6 kvs k=none):bB kvs k v=kvs++[(k,v)]:=by
 unfold bB;rw[j6,h];exact aZ (by decide)
theorem o8.qH {o:Option V}{u:Option Value}(r:o8 o u):o.isSome=u.isSome:=by
 cases o with
 |none=>cases u with
  |none=>rfl
  |some _=>exact(show False from r).elim
 |some _=>cases u with
  |none=>exact(show False from r).elim
  |some _=>rfl
theorem KV.val {kvs:List (κ×V)}{vs:List (κ×Value)}(r:KV kvs vs)(k:κ):o8 (d6 kvs k) (valueAt vs k):=by
 unfold KV at r
 induction r with
 |nil=>exact WC
 | @cons p q ps qs h t ih =>
  obtain⟨h1,h2⟩:=h
  by_cases e:p.1=k
  ·have e':q.1=k:=h1.symm.trans e;have b:valueAt (q::qs) k=some q.2:=by simp[valueAt,VB,e']
   rw[cJ e,b];exact h2
  have e':¬q.1=k:=λz=>e (h1.trans z)
  have b:valueAt (q::qs) k=valueAt qs k:=by simp[valueAt,VB,e']
  rw[bR e,b];exact ih
theorem KV.any {kvs:List (κ×V)}{vs:List (κ×Value)}(r:KV kvs vs)(k:κ):(kvs.any λkv=>decide (kv.1=k))=vs.any λkv=>decide (kv.1=k):=by
 unfold KV at r
 induction r with
 |nil=>rfl
 |cons h t ih=>rw[V2,V2,ih,h.1]
theorem KV.PX {kvs:List (κ×V)}{vs:List (κ×Value)}(r:KV kvs vs)(k:κ){y:V}{u:Value}(ry:bE y u) :
  KV (kvs.map λkv=>if kv.1=k then (kv.1,y) else kv) (vs.map λkv=>if kv.1=k then (kv.1,u) else kv):=by
 unfold KV at r ⊢
 induction r with
 |nil=>exact .nil
 | @cons p q ps qs h t ih =>
  rw[rf,rf];refine .cons ?_ ih;obtain⟨h1,h2⟩:=h
  by_cases e:p.1=k
  ·rw[bp e,bp (h1.symm.trans e)];exact⟨h1,ry⟩
  rw[aZ e,aZ (λz=>e (h1.trans z))];exact⟨h1,h2⟩
theorem KV.put {kvs:List (κ×V)}{vs:List (κ×Value)}(r:KV kvs vs)(k:κ){y:V}{u:Value}(ry:bE y u):KV (bB kvs k y) (stored vs k u):=by
 unfold bB stored;rw[r.any k]
 by_cases e:(vs.any λkv=>decide (kv.1=k))=true
 ·rw[bp e,bp e];exact r.PX k ry
 rw[aZ e,aZ e];exact Paired.snoc r ⟨rfl,ry⟩
theorem KV.drop {kvs:List (κ×V)}{vs:List (κ×Value)}(r:KV kvs vs)(k:κ):KV (gE kvs k) (without vs k):=by
 unfold KV at r ⊢;unfold gE without
 induction r with
 |nil=>exact .nil
 | @cons p q ps qs h t ih =>
  obtain⟨h1,h2⟩:=h;rw[List.filter_cons,List.filter_cons]
  by_cases e:p.1=k
  ·have a:¬decide (p.1≠k)=true:=by simp[e]
   have b:¬decide (q.1≠k)=true:=by simp[h1.symm.trans e]
   rw[aZ a,aZ b];exact ih
  have e':¬q.1=k:=λz=>e (h1.trans z)
  have a:decide (p.1≠k)=true:=by simp[e]
  have b:decide (q.1≠k)=true:=by simp[e']
  rw[bp a,bp b];exact .cons ⟨h1,h2⟩ ih
theorem KV.length {kvs:List (κ×V)}{vs:List (κ×Value)}(r:KV kvs vs):kvs.length=vs.length:=Paired.length r
theorem El (kvs:List (κ×V))(k:κ):(gE kvs k).length<=kvs.length:=List.length_filter_le _ _
end
theorem xZ {P:wt}{w:World}{k:Key}{u:Value}(r:bE (kV k) u):(cU P w).is k u=true:=by
 cases k with
 |inl i=>obtain⟨t,e⟩:=(show ∃t,u=Value.int i t from r);subst e;exact DT P w i t
 |inr x=>obtain⟨t,e⟩:=(show ∃t,u=Value.str x t from r);subst e;exact DU P w x t
theorem Bf {P:wt}{w:World}:∀ {ks:List Key} {us:List Value},bg (ks.map kV) us->ItemsAre (cU P w) ks us
 |[],_,r=>by rw[VH]at r;cases r;exact .nil
 |k::ks,_,r=>by
  rw[rf]at r;cases r with
  |cons h t=>exact .cons (xZ h) (Bf t)
abbrev KT (H:Hp):List (List Key×V)->List (List Key×Addr×Value)->Prop:=Paired λp q=>p.1=q.1/\H q.2.1=some (.tup (p.1.map kV))/\bE p.2 q.2.2
theorem KT.val {H:Hp}{kvs:List (List Key×V)}{xs:List (List Key×Addr×Value)}(r:KT H kvs xs)(k:List Key):o8 (d6 kvs k) ((atKey xs k).map (·.2)):=by
 induction r with
 |nil=>exact WC
 | @cons p q ps qs h t ih =>
  obtain⟨h1,_,h2⟩:=h
  by_cases e:p.1=k
  ·have e':q.1=k:=h1.symm.trans e;have b:atKey (q::qs) k=some q.2:=by simp[atKey,VB,e']
   rw[cJ e,b];exact h2
  have e':¬q.1=k:=λz=>e (h1.trans z)
  have b:atKey (q::qs) k=atKey qs k:=by simp[atKey,VB,e']
  rw[bR e,b];exact ih
theorem KT.PX {H:Hp}{kvs:List (List Key×V)}{xs:List (List Key×Addr×Value)}(r:KT H kvs xs)(k:List Key){y:V}{u:Value}(ry:bE y u) :
  KT H (kvs.map λkv=>if kv.1=k then (kv.1,y) else kv) (xs.map (putAt k u)):=by
 induction r with
 |nil=>exact .nil
 | @cons p q ps qs h t ih =>
  rw[rf,rf];refine .cons ?_ ih;obtain⟨h1,h2,h3⟩:=h;unfold putAt
  by_cases e:p.1=k
  ·rw[bp e,bp (h1.symm.trans e)];exact⟨h1,h2,ry⟩
  rw[aZ e,aZ (λz=>e (h1.trans z))];exact⟨h1,h2,h3⟩
theorem KT.put {H:Hp}{kvs:List (List Key×V)}{xs:List (List Key×Addr×Value)}(r:KT H kvs xs)(k:List Key){b:Addr}{y:V}{u:Value}(hb:H b=some (.tup (k.map kV)))(ry:bE y u) :
  KT H (bB kvs k y) (storedH xs k b u):=by
 have e:(kvs.any λkv=>decide (kv.1=k))=(atKey xs k).isSome:=by
  rw[j6,(r.val k).qH,Option.isSome_map]
 unfold bB storedH;rw[e]
 by_cases q:(atKey xs k).isSome=true
 ·rw[bp q,bp q];exact r.PX k ry
 rw[aZ q,aZ q];exact Paired.snoc r ⟨rfl,hb,ry⟩
theorem KT.keeps {H H':Hp}{kvs:List (List Key×V)}{xs:List (List Key×Addr×Value)}(r:KT H kvs xs)(ht:∀b ys,H b=some (.tup ys)->H' b=some (.tup ys)):KT H' kvs xs :=
 Paired.Pf r λ_ _ z=>⟨z.1,ht _ _ z.2.1,z.2.2⟩
section
variable{P:wt}{w:World}{H:Hp}{h:Heap}{a:Addr}
theorem OU {u:HO}(ok:HOk P w H h)(e:Rd H a u):eN P w H h a u:=e.ok ok
theorem Bg {kvs:List (Key×V)}(ok:HOk P w H h)(e:Rd H a (.dK kvs)):kvs.length<=fu/\(a == Wj)=false/\∃vs,KV kvs vs/\h.DictOf (cU P w) a vs :=
 show eN P w H h a (.dK kvs) from OU ok e
theorem vV {kvs:List (Key×V)}(ok:HOk P w H h)(e:H a=some (.dK kvs)):kvs.length<=fu/\(a == Wj)=false/\∃vs,KV kvs vs/\h.DictOf (cU P w) a vs:=Bg ok (.inl e)
theorem CN {ks:List Key}(ok:HOk P w H h)(e:H a=some (.tup (ks.map kV))):(tupleKind (cU P w)).is h ks a:=by
 obtain⟨_,its,r,o,h1,h2,n,h3⟩:=(show eN P w H h a (.tup (ks.map kV)) from ok a _ e)
 exact⟨o,its.toArray,n,h1,h2,h3,by simpa using Bf r⟩
theorem Em {kvs:List (List Key×V)}(ok:HOk P w H h)(e:Rd H a (.dT kvs)):kvs.length<=fu/\(a == Wj)=false /\
  ∃xs,KT H kvs xs/\h.DictOfH (tupleKind (cU P w)) a xs:=by
 obtain⟨z,y,xs,r,o,es,ep,h1,h2,h3,h4,h5⟩:=(show eN P w H h a (.dT kvs) from OU ok e)
 refine⟨z,y,xs,r,o,es,ep,h1,h2,h3,h4,λx hx=>?_,h5⟩
 have all:∀ {l:List (List Key×V)} {m:List (List Key×Addr×Value)},KT H l m->∀x∈m,(tupleKind (cU P w)).is h x.1 x.2.1:=by
  intro l m q
  induction q with
  |nil=>intro x hx;exact nomatch hx
  | @cons p q ps qs hq t ih =>
   intro x hx;rcases List.mem_cons.mp hx with e | hx
   ·subst e;exact CN ok (by rw[<-hq.1];exact hq.2.1)
   exact ih x hx
 exact all r x hx
theorem R4 {kvs:List (List Key×V)}(ok:HOk P w H h)(e:H a=some (.dT kvs)):kvs.length<=fu/\(a == Wj)=false /\
  ∃xs,KT H kvs xs/\h.DictOfH (tupleKind (cU P w)) a xs:=Em ok (.inl e)
end
def ya (H:Hp)(a:Addr)(y:V)(r:Option V):Prop :=
 (∃kvs k,Rd H a (.dK kvs)/\y=kV k/\r=d6 kvs k)\/∃kvs k b,Rd H a (.dT kvs)/\y=.ref b/\H b=some (.tup (k.map kV))/\r=d6 kvs k
def o5 (H:Hp)(a:Addr)(y v:V)(H':Hp):Prop :=
 (∃kvs k,H a=some (.dK kvs)/\y=kV k/\kvs.length < fu/\H'=ag H a (.dK (bB kvs k v))) \/
 ∃kvs k b,H a=some (.dT kvs)/\y=.ref b/\H b=some (.tup (k.map kV))/\kvs.length < fu/\H'=ag H a (.dT (bB kvs k v))
theorem o5.k {H:Hp}{a:Addr}{kvs:List (Key×V)}{k:Key}{v:V}(e:H a=some (.dK kvs))(hl:kvs.length < fu):o5 H a (kV k) v (ag H a (.dK (bB kvs k v))):=.inl ⟨kvs,k,e,rfl,hl,rfl⟩
section
variable{X:Cx}{af:List (Addr×Obj)}{σ:St}{H:Hp}{s:Shared}{a:Addr}{y v:V}{u r:Value}{o:Option V}{A:Around}{E:Value->Shared->Prop}
theorem av.big (I:av X af σ H s):Wj < s.heap.objs.size:=by
 have h:mainGlobals < s.heap.objs.size:=(I.mod.glob.keeps I.bk).lt;exact Nat.lt_trans (by decide) h
theorem JC {Q:Value->Shared->Prop}(hu:A.units+1 < cLine)(I:av X af σ H s)(g:ya H a y (some v))(ry:bE y u)(h:∀w' s',av X af σ H s'->bE v w'->Q w' s') :
  wpAny (model X.prog X.w) A (getItem (.ref a) u) Q E s:=by
 rcases g with ⟨kvs,k,e,ey,l⟩ | ⟨kvs,k,b,e,ey,eb,l⟩
 ·subst ey;obtain⟨z,hd,vs,rel,dd⟩:=Bg I.hok e;obtain⟨w',hw,rw'⟩:=o8.xw (v:=v) (o:=valueAt vs k) (by rw[l];exact rel.val k)
  exact wpAny_getItem_of (xZ ry) dd.mapOf hw (h w' _ (I.tok _) rw')
 subst ey;cases (show u=VL b from ry)
 obtain⟨z,hd,xs,rel,dd⟩:=Em I.hok e;obtain⟨w',hw,rw'⟩:=o8.xw (v:=v) (o:=(atKey xs k).map (·.2)) (by rw[l];exact rel.val k)
 obtain⟨p,hp,hp2⟩:=Option.map_eq_some_iff.mp hw;refine wpAny_getItem_heap (tupleKind_room_in1 hu) (CN I.hok eb) dd hp ?_;rw[hp2];exact h w' _ (I.tok _) rw'
theorem Nr {Q:Value->Shared->Prop}(hu:A.units+1 < cLine)(I:av X af σ H s)(g:ya H a y o)(ry:bE y u)(h:∀s',av X af σ H s'->Q (.bool (!o.isSome)) s') :
  wpAny (model X.prog X.w) A (VP .NotIn u (.ref a)) Q E s:=by
 rcases g with ⟨kvs,k,e,ey,l⟩ | ⟨kvs,k,b,e,ey,eb,l⟩
 ·subst ey;obtain⟨z,hd,vs,rel,dd⟩:=Bg I.hok e;refine wpAny_notIn_of (xZ ry) hd dd.mapOf ?_;rw[<-(rel.val k).qH,<-l];exact h _ (I.tok _)
 subst ey;cases (show u=VL b from ry)
 obtain⟨z,hd,xs,rel,dd⟩:=Em I.hok e;refine wpAny_notIn_heap (tupleKind_room_in1 hu) (CN I.hok eb) hd dd ?_;have q:=(rel.val k).qH;rw[Option.isSome_map]at q;rw[<-q,<-l];exact h _ (I.tok _)
theorem tM {h':Heap}{t':Nat}{ob:HO}(I:av X af σ H s)(mu:Mut (H a))(hs:Heap.SameBut a s.heap h')(he:∃q,h'.get? a=some q)(new:eN X.prog X.w (ag H a ob) h' a ob) :
  av X af σ (ag H a ob) { s with heap:=h',toks:=t' } :=
 I.write (x:=a) (e:=a) mu (.inl rfl) (λb q hb z=>(hs.2 b hb).trans z) he new
theorem CO {P:wt}{w:World}{H':Hp}{h':Heap}{kvs:List (Key×V)}{vs:List (Key×Value)}(z:kvs.length<=fu)(hd:(a == Wj)=false)(rel:KV kvs vs)(dd:h'.DictOf (cU P w) a vs) :
  eN P w H' h' a (.dK kvs):=⟨z,hd,vs,rel,dd⟩
theorem JD {H':Hp}{Q:Unit->Shared->Prop}(hu:A.units+1 < cLine)(I:av X af σ H s)(g:o5 H a y v H')(ry:bE y u)(rv:bE v r)(h:∀s',av X af σ H' s'->Q () s') :
  wpAny (model X.prog X.w) A (setItem (.ref a) u r) Q E s:=by
 rcases g with ⟨kvs,k,e,ey,l,eH⟩ | ⟨kvs,k,b,e,ey,eb,l,eH⟩
 ·subst ey eH;obtain⟨z,hd,vs,rel,dd⟩:=vV I.hok e;have hz:vs.length<=fu:=by rw[<-rel.length];exact z
  have hl:(bB kvs k v).length<=fu:=by have:=pz kvs k v;omega
  refine wpAny_setItem_pairs (hsz:=hz) (xZ ry) dd λh' dd' hs=>h _ ?_
  have he:∃q,h'.get? a=some q:=let ⟨q,_,_,hq,_⟩:=dd';⟨q,hq⟩
  exact tM I (by rw[e];exact WC) hs he (CO hl hd (rel.put k rv) dd')
 subst ey eH;cases (show u=VL b from ry)
 obtain⟨z,hd,xs,rel,dd⟩:=R4 I.hok e;have hz:xs.length<=fu:=by rw[<-Paired.length rel];exact z
 have hl:(bB kvs k v).length<=fu:=by have:=pz kvs k v;omega
 refine wpAny_setItem_heap (hsz:=hz) (tupleKind_room_in1 hu) (CN I.hok eb) dd λh' dd' hs=>h _ ?_
 obtain⟨q,es,ep,hq,h2,h3,h4,_,h5⟩:=dd';refine tM I (by rw[e];exact WC) hs ⟨q,hq⟩ ⟨hl,hd,_,(rel.put k eb rv).keeps λc ys ec=>?_,q,es,ep,hq,h2,h3,h4,h5⟩
 rw[ax (A0 ec e (λz=>nomatch z))]
 exact ec
end
section
variable{X:Cx}{af:List (Addr×Obj)}{σ:St}{H:Hp}{s:Shared}{a:Addr}{kvs:List (Key×V)}{k:Key}{u:Value}{A:Around}{E:Value->Shared->Prop}
theorem Rq {Q:Unit->Shared->Prop}(I:av X af σ H s)(e:H a=some (.dK kvs))(ry:bE (kV k) u)(l:(d6 kvs k).isSome=true)(h:∀s',av X af σ (ag H a (.dK (gE kvs k))) s'->Q () s') :
  wpAny (model X.prog X.w) A (delItem (.ref a) u) Q E s:=by
 obtain⟨z,hd,vs,rel,dd⟩:=vV I.hok e;refine wpAny_delItem_slot dd.typeIs (by decide) PySem.F.slot_dict_delitem
  (call_meetsIn PySem.F.slot_dict_delitem dd.typeIs PySem.F.entry_dict_delitem (PySem.F.args_dict_delitem_2 _ _) (meets_dict_delitem_pairs (cU X.prog X.w) a (xZ ry)) ⟨vs,dd,by rw[<-rel.length];exact z,by rw[<-(rel.val k).qH];exact l,λh' dd' hs=>h _ ?_⟩)
 have he:∃q,h'.get? a=some q:=let ⟨q,_,_,hq,_⟩:=dd';⟨q,hq⟩
 exact tM I (by rw[e];exact WC) hs he (CO (Vc (El kvs k) z) hd (rel.drop k) dd')
theorem R5 {v:V}{more:List Value}{Q:Value->Shared->Prop}(I:av X af σ H s)(e:H a=some (.dK kvs))(ry:bE (kV k) u)(l:d6 kvs k=some v)(hm:more=[]\/∃x,more=[x])
  (h:∀w' s',av X af σ (ag H a (.dK (gE kvs k))) s'->bE v w'->Q w' s'):wpAny (model X.prog X.w) A (call (.builtin "dict.pop") (.ref a::u::more)) Q E s:=by
 obtain⟨z,hd,vs,rel,dd⟩:=vV I.hok e;obtain⟨w',hw,rw'⟩:=o8.xw (v:=v) (o:=valueAt vs k) (by rw[<-l];exact rel.val k)
 have hp:(keyPart u).isSome=true:=by
  cases k with
  |inl i=>obtain⟨t,q⟩:=(show ∃t,u=Value.int i t from ry);subst q;rfl
  |inr x=>obtain⟨t,q⟩:=(show ∃t,u=Value.str x t from ry);subst q;rfl
 have ha:argsOk "dict.pop" ⟨.ref a::u::more,[]⟩:=by
  rcases hm with q | ⟨x,q⟩
  ·subst q;exact PySem.F.args_dict_pop_2 _ _
  subst q;exact PySem.F.args_dict_pop_3 _ _ _
 refine call_meetsIn PySem.F.slot_dict_pop dd.typeIs PySem.F.entry_dict_pop ha (meets_dict_pop_there (cU X.prog X.w) a (xZ ry) more hm hp)
  ⟨vs,w',dd,by rw[<-rel.length];exact z,hw,λh' dd' hs=>h w' _ ?_ rw'⟩
 have he:∃q,h'.get? a=some q:=let ⟨q,_,_,hq,_⟩:=dd';⟨q,hq⟩
 exact tM I (by rw[e];exact WC) hs he (CO (Vc (El kvs k) z) hd (rel.drop k) dd')
theorem R6 {Q:Value->Shared->Prop}(I:av X af σ H s)(e:Rd H a (.dK kvs))(h:∀t s',av X af σ H s'->Q (.int kvs.length t) s'):wpAny (model X.prog X.w) A (call (.builtin "len") [.ref a]) Q E s:=by
 obtain⟨z,hd,vs,rel,dd⟩:=Bg I.hok e;refine call_len_dict hd dd (by rw[<-rel.length];rw[sizeLine_eq]at z;omega) ?_
 rw[<-rel.length];exact h _ _ (I.tok _)
end
def R7 (i:Expr):Prop:=∀ov iv,subscripted i false ov iv=operate [ov,iv] (getItem ov iv)
theorem Nt {prog:wt}{w:World}{A:Around}{E:Value->Shared->Prop}{s:Shared}{env:Env}{value slice:Expr}{pos:Pos}{T id:String}{Q:Value->Shared->Prop}
  (hl:typeLookup (.type T) "__getitem__"=pure (some (.builtin id))) (hs:R7 slice)
  (h:wpAny (model prog w) A (eval value env) (λo s₁=>wpAny (model prog w) A (eval slice env) (λi s₂=>s₂.TypeIs o T/\wpAny (model prog w) A (getItem o i) Q E s₂) E s₁) E s) :
  wpAny (model prog w) A (eval (.Subscript value slice pos) env) Q E s:=by
 refine Subscript_ (Wl h (λo s₁ h₁=>Wl h₁ (λi s₂ h₂=>?_) λ_ _ x=>x) λ_ _ x=>x)
 obtain⟨hT,h₂⟩:=h₂;unfold subscriptTail;refine UX ?_;rw[getitemInPython_of_ne hT.not_modules];refine UX (wpAny_specialOf hT hl ?_);have fin:wpAny (model prog w) A (subscripted slice false o i) (λr s₃=>wpAny (model prog w) A (letTemporaryGo value o r >>= λ_=>pure r) Q E s₃) E s₂:=by
  rw[hs o i];exact wpAny_operating (Wl h₂ (λr s₃ h₃=>UX (wpAny_letTemporaryGo (Vd h₃))) λ_ _ x=>x)
 first
  |exact Vd (UX fin)
  |exact UX (Vd (UX fin))
  |exact UX fin
theorem En {X:Cx}{af:List (Addr×Obj)}{σ:St}{H:Hp}{s:Shared}{a:Addr}{y:V}{o:Option V}(I:av X af σ H s)(g:ya H a y o):s.TypeIs (.ref a) "dict":=by
 rcases g with ⟨kvs,k,e,_,_⟩ | ⟨kvs,k,b,e,_,_,_⟩
 ·obtain⟨_,_,vs,_,dd⟩:=Bg I.hok e;exact dd.typeIs
 obtain⟨_,_,xs,_,dd⟩:=Em I.hok e;exact dd.typeIs
def R8 (td ty:TE):TE:=λσ H Q=>td σ H λx H1=>ty σ H1 λy H2=>∃a v,x=.ref a/\ya H2 a y (some v)/\Q v H2
def Nu (ty td:TE):TE:=λσ H Q=>ty σ H λy H1=>td σ H1 λx H2=>∃a o,x=.ref a/\ya H2 a y o/\Q (.bl (!o.isSome)) H2
def R9 (td ty tv:TE):TS:=λD σ H=>tv σ H λv H1=>td σ H1 λx H2=>ty σ H2 λy H3=>∃a H4,x=.ref a/\o5 H3 a y v H4/\D.nx σ H4
section
variable{X:Cx}{o i e value:Expr}{pos pos' Ts:Pos}{td ty tv:TE}
theorem bx (hu:X.A.units+1 < cLine)(ho:PE X o td)(hi:PE X i ty)(hs:R7 i:=by exactλ_ _=>rfl):PE X (.Subscript o i pos) (R8 td ty):=by
 intro af s σ H Q I h;refine Nt PySem.F.slot_dict_getitem.lookup hs (thn (ho af s σ H _ I h) λu s1 ⟨x,H1,I1,rx,q1⟩=>thn (hi af s1 σ H1 _ I1 q1) λiv s2 ⟨y,H2,I2,ry,a,v,ex,g,q2⟩=>?_)
 subst ex;obtain rfl:u=VL a:=rx;exact⟨En I2 g,JC hu I2 g ry λw' s3 I3 rw'=>⟨v,H2,I3,rw',q2⟩⟩
theorem qI (hu:X.A.units+1 < cLine)(hi:PE X i ty)(ho:PE X o td):PC X .NotIn i o (Nu ty td):=by
 intro af s σ H Q I h;refine thn (hi af s σ H _ I h) λiv s1 ⟨y,H1,I1,ry,q1⟩=>thn (ho af s1 σ H1 _ I1 q1) λu s2 ⟨x,H2,I2,rx,a,ov,ex,g,q2⟩=>?_
 subst ex;obtain rfl:u=VL a:=rx;exact Nr hu I2 g ry λs3 I3=>⟨.bl (!ov.isSome),H2,I3,rfl,q2⟩
theorem fX (hu:X.A.units+1 < cLine)(ho:PE X o td)(hi:PE X i ty)(hv:PE X value tv)(hs:swapsWith value (some (.Subscript o i pos')) pos.line X.env=pure false) :
  PS X (.Assign [.Subscript o i pos'] value pos) (R9 td ty tv):=by
 intro af s σ H D I h;refine wpAny_Assign_Subscript (thn (hv af s σ H _ I h) λr s1 ⟨v,H1,I1,rv,q1⟩=>thn (ho af s1 σ H1 _ I1 q1) λu s2 ⟨x,H2,I2,rx,q2⟩=>thn (hi af s2 σ H2 _ I2 q2) λiv s3 ⟨y,H3,I3,ry,a,H4,ex,g,q3⟩=>?_) hs
 subst ex;obtain rfl:u=VL a:=rx;exact JD hu I3 g ry rv λs4 I4=>⟨σ,H4,I4,q3⟩
end
theorem Eo {P:wt}{w:World}{H:Hp}(h:Heap)(hb:Wj < h.objs.size):eN P w H (h.push { cls:=.type "dict",data:=.dict #[] }) h.objs.size (.dK []) :=
 ⟨Vl _,beq_eq_false_iff_ne.mpr (VG (Ve hb)),[],.nil,Heap.DictOf.new h⟩
def PY:TE:=λ_ H Q=>∀p,H p=none->Q (.ref p) (ag H p (.dK []))
section
variable{X:Cx}{pos:Pos}
theorem j7:PE X (.Dict [] [] pos) PY:=λaf s σ H Q I h =>
 wpAny_Dict_empty ⟨.ref s.heap.objs.size,_,I.laid (a:=s.heap.objs.size) (o:=.dK []) (t':=s.toks) (λ_ _ q=>me _ q) (mv _) (Eo s.heap I.big),rfl,h _ (I.hok.fresh (mv _))⟩
end
def GF:List (TE×TE)->St->Hp->(List (V×V)->Hp->Prop)->Prop
 |[],_,H,Q=>Q [] H
 | (tk,tv)::r,σ,H,Q=>tk σ H λx H1=>tv σ H1 λy H2=>GF r σ H2 λps H3=>Q ((x,y)::ps) H3
abbrev VV:List (V×V)->List (Value×Value)->Prop:=Paired λp q=>bE p.1 q.1/\bE p.2 q.2
def PPs (X:Cx)(pos:Pos)(keys:List (Option Expr))(values:List Expr)(trs:List (TE×TE)):Prop :=
 ∀(af:List (Addr×Obj)) (s:Shared) (σ:St) (H:Hp) (Q:List (V×V)->Hp->Prop),av X af σ H s->GF trs σ H Q ->
  wpAny (model X.prog X.w) X.A (evalPairs (pairTrees keys values X.env pos)) (λvs s'=>∃ps H',av X af σ H' s'/\VV ps vs/\Q ps H') X.xe s
theorem Nv {X:Cx}{pos:Pos}:PPs X pos [] [] []:=λaf s σ H Q I h=>pairTrees_nil_walk ⟨[],H,I,.nil,h⟩
theorem lS {X:Cx}{pos:Pos}{k v:Expr}{ks:List (Option Expr)}{vs:List Expr}{tk tv:TE}{trs:List (TE×TE)}(hk:PE X k tk)(hv:PE X v tv)(hr:PPs X pos ks vs trs) :
  PPs X pos (some k::ks) (v::vs) ((tk,tv)::trs):=λaf s σ H Q I h =>
 pairTrees_cons_walk (thn (hk af s σ H _ I h) λu s1 ⟨x,H1,I1,rx,q1⟩=>thn (hv af s1 σ H1 _ I1 q1) λw2 s2 ⟨y,H2,I2,ry,q2⟩ =>
  thn (hr af s2 σ H2 _ I2 q2) λws s3 ⟨ps,H3,I3,rel,q3⟩=>⟨(x,y)::ps,H3,I3,.cons ⟨rx,ry⟩ rel,q3⟩)
def u9 (kvs more:List (Key×V)):List (Key×V):=more.foldl (λacc kv=>bB acc kv.1 kv.2) kvs
theorem KV.merge:∀ {more:List (Key×V)} {rs:List (Key×Value)} {kvs:List (Key×V)} {vs:List (Key×Value)},KV more rs->KV kvs vs->KV (u9 kvs more) (merged vs rs):=by
 intro more rs kvs vs r;unfold KV at r
 induction r generalizing kvs vs with
 |nil=>intro q;exact q
 | @cons p q ps qs h t ih =>
  intro r0;have e:KV (bB kvs p.1 p.2) (stored vs q.1 q.2):=by
   have:=r0.put p.1 h.2;rw[<-h.1];exact this
  exact ih e
theorem rg:∀(more kvs:List (Key×V)),(u9 kvs more).length<=kvs.length+more.length
 |[],kvs=>by show kvs.length<=kvs.length+0;omega
 |p::r,kvs=>by
  have h1:=rg r (bB kvs p.1 p.2);have h2:=pz kvs p.1 p.2;show (u9 (bB kvs p.1 p.2) r).length<=_;rw[UQ];omega
theorem yb {P:wt}{w:World}:∀ {kvs:List (Key×V)} {ws:List (Value×Value)},VV (kvs.map λkv=>(kV kv.1,kv.2)) ws->∃rs,Carries (cU P w) ws rs/\KV kvs rs
 |[],_,r=>by rw[VH]at r;cases r;exact⟨[],WC,.nil⟩
 |p::kvs,_,r=>by
  rw[rf]at r;cases r with
  | @cons a b as bs h t =>
   obtain⟨rs,c,q⟩:=yb (P:=P) (w:=w) t;obtain⟨b1,b2⟩:=b;exact⟨(p.1,b2)::rs,⟨xZ h.1,rfl,c⟩,.cons ⟨rfl,h.2⟩ q⟩
def Sa (trs:List (TE×TE)):TE:=λσ H Q=>∀p,H p=none->GF trs σ (ag H p (.dK [])) λps H2=>H2 p=some (.dK [])/\∃kvs:List (Key×V),ps=kvs.map (λkv=>(kV kv.1,kv.2))/\kvs.length<=15/\Q (.ref p) (ag H2 p (.dK (u9 [] kvs)))
theorem Nw {X:Cx}{pos:Pos}{keys:List (Option Expr)}{values:List Expr}{trs:List (TE×TE)}(h:PPs X pos keys values trs)(PB:keys.all (·.isSome)=true)(hl:keys.length=values.length)(h0:keys≠[])
  (h15:keys.length<=15):PE X (.Dict keys values pos) (Sa trs):=by
 intro af s σ H Q I q;have hn:=I.hok.fresh (mv s.heap.objs.size);have I1:=I.laid (a:=s.heap.objs.size) (o:=.dK []) (h':=s.heap.push { cls:=.type "dict",data:=.dict #[] }) (t':=s.toks) (λ_ _ q=>me _ q) (mv _) (Eo s.heap I.big)
 refine wpAny_Dict_walk (knd:=cU X.prog X.w) PB hl h0 h15 (thn (h af _ σ _ _ I1 (q _ hn)) λws s2 ⟨ps,H2,I2,rel,e,kvs,ep,lk,q2⟩=>?_)
 subst ep;obtain⟨rs,c,rk⟩:=yb (P:=X.prog) (w:=X.w) rel;obtain⟨z,hd,vs0,r0,dd⟩:=vV I2.hok e;cases r0;refine⟨rs,c,dd,λh' dd' hs=>⟨.ref s.heap.objs.size,_,?_,rfl,q2⟩⟩
 have hz:(u9 [] kvs).length<=fu:=by
  have h1:=rg kvs [];rw[List.length_nil]at h1;rw[sizeLine_eq];omega
 have he:∃q,h'.get? s.heap.objs.size=some q:=let ⟨q,_,_,hq,_⟩:=dd';⟨q,hq⟩
 exact tM I2 (by rw[e];exact WC) hs he (CO hz hd (rk.merge .nil) dd')
structure M1 (X:Cx)(o:Expr)(m:Str)(apos:Pos)(e:Expr)(j4:Pos):Prop where
 base:attributeBase o m X.env (eval o X.env)=eval o X.env
 few:((backTo j4 (Vn [e] X.env)).all (λx=>!x.1) && (WE j4 (VZ [] X.env)).all (λx=>x.1.isSome)
  && decide (([e]:List Expr).length+([]:List Keyword).length+(if ([]:List Keyword).isEmpty then 0 else 1) < 30))=true
 line:(apos.endLine == j4.line)=true
 trees:backTo j4 (Vn [e] X.env)=[(false,eval e X.env)]
structure M2 (X:Cx)(o:Expr)(m:Str)(apos:Pos)(e f:Expr)(j4:Pos):Prop where
 base:attributeBase o m X.env (eval o X.env)=eval o X.env
 few:((backTo j4 (Vn [e,f] X.env)).all (λx=>!x.1) && (WE j4 (VZ [] X.env)).all (λx=>x.1.isSome)
  && decide (([e,f]:List Expr).length+([]:List Keyword).length+(if ([]:List Keyword).isEmpty then 0 else 1) < 30))=true
 line:(apos.endLine == j4.line)=true
 trees:backTo j4 (Vn [e,f] X.env)=[(false,eval e X.env),(false,eval f X.env)]
def IsD (H:Hp)(a:Addr):Prop:=(∃kvs,Rd H a (.dK kvs))\/∃kvs,Rd H a (.dT kvs)
theorem PZ {X:Cx}{af:List (Addr×Obj)}{σ:St}{H:Hp}{s:Shared}{a:Addr}(I:av X af σ H s)(d:IsD H a) :
  s.TypeIs (.ref a) "dict"/\(∀b,VL a=.ref b->∃ob,s.heap.get? b=some ob/\ob.dict=none)/\(a == Wj)=false:=by
 rcases d with ⟨kvs,e⟩ | ⟨kvs,e⟩
 ·obtain⟨_,hd,vs,_,dd⟩:=Bg I.hok e;refine⟨dd.typeIs,λb q=>?_,hd⟩
  cases q;obtain⟨ob,_,_,h1,h2,_⟩:=dd;exact⟨ob,h1,h2.2.1⟩
 obtain⟨_,hd,xs,_,dd⟩:=Em I.hok e;refine⟨dd.typeIs,λb q=>?_,hd⟩
 cases q;obtain⟨ob,_,_,h1,h2,_⟩:=dd;exact⟨ob,h1,h2.2.1⟩
def P0 (td ty:TE):TE:=λσ H Q=>td σ H λx H1=>∃a,x=.ref a/\IsD H1 a/\ty σ H1 λy H2=>∃kvs k v,H2 a=some (.dK kvs)/\y=kV k/\d6 kvs k=some v/\Q v (ag H2 a (.dK (gE kvs k)))
section
variable{X:Cx}{o e f:Expr}{apos j4:Pos}{td ty tx:TE}
theorem Ep (ho:PE X o td)(he:PE X e ty)(m:M1 X o "pop" apos e j4):PE X (.Call (.Attribute o "pop" apos) [e] [] j4) (P0 td ty):=by
 intro af s σ H Q I h;refine wpAny_Call_method m.base m.few m.line PySem.F.plainAttrs_dict PySem.F.slot_dict_pop PySem.F.type_dict_pop (thn (ho af s σ H _ I h) λu s1 ⟨x,H1,I1,rx,a,ex,d,q1⟩=>?_)
 subst ex;obtain rfl:u=VL a:=rx;obtain⟨t1,t2,_⟩:=PZ I1 d;refine⟨t1,t2,?_⟩;rw[m.trees];refine Calls.callWith_builtin rfl (Calls.evalArgs_plain (Calls.spliced_cons (thn (he af s1 σ H1 _ I1 q1) λiv s2 ⟨y,H2,I2,ry,kvs,k,v,ea,ey,l,q2⟩=>Calls.spliced_nil ?_)))
 subst ey;exact R5 I2 ea ry l (.inl rfl) λw' s3 I3 rw'=>⟨v,_,I3,rw',q2⟩
end
section
variable{X:Cx}
theorem Bh:j3 X (.builtin "len") (λxs H Q=>∃a kvs,xs=[V.ref a]/\H a=some (.dK kvs)/\Q (.int kvs.length) H):=by
 intro af s σ H xs us Q I r h;obtain⟨a,kvs,rfl,ha,q⟩:=h;obtain⟨u,rfl,ru⟩:=vals1 r;cases ru;exact R6 I (.inl ha) λt s' I'=>⟨.int kvs.length,H,I',⟨t,rfl⟩,q⟩
end
theorem b7.u1 {k:Nat}{A:Around}(r:b7 k A):A.units+1 < cLine:=by have:=r.un;omega
theorem Nx {X:Cx}{K:de}{e:Expr}{f:Str}{pos:Pos}{ta:TE}(ek:X.K=K)(he:PE X e ta)(hb:attributeBase e f X.env (eval e X.env)=eval e X.env):PE X (.Attribute e f pos) (RG K ta f):=by
 subst ek;exact bH he hb
theorem ints_of:∀(l:List Value) (ns:List Int),l.length=ns.length->(∀(j:Nat) (v:Value),l[j]?=some v->∃n t,ns[j]?=some n/\v=Value.int n t)->IntsAre l ns
 |[],[],_,_=>.nil
 |[],_::_,h,_=>nomatch h
 |_::_,[],h,_=>nomatch h
 |v::l,n::ns,h,g=>by
  obtain⟨n',t,e1,e2⟩:=g 0 v rfl;have e3:n=n':=by simpa using e1
  subst e3;subst e2;exact .cons n t (ints_of l ns (by simpa using h) λj v hv=>g (j+1) v (by simpa using hv))
theorem Er:∀ {vs:List Value} {ns:List Int},IntsAre vs ns->bg (ns.map V.int) vs
 |_,_,.nil=>.nil
 |_,_,.cons n t h=>.cons ⟨t,rfl⟩ (Er h)
theorem KN {κ:Type}:∀ {kvs:List (κ×V)} {vs:List (κ×Value)},KV kvs vs->∀(j:Nat) (q:κ×Value),vs[j]?=some q->(kvs.map (·.1))[j]?=some q.1
 |_,_,.nil,j,q,h=>by simp at h
 |_,_,.cons a r,0,q,h=>by
  rw[Vr]at h;cases h;rw[rf,Vr,a.1]
 |_,_,.cons a r,j+1,q,h=>by
  have:=KN r j q (by simpa using h)
  simpa using this
theorem HP {P:wt}{w:World}{n:Int}{v:Value}(h:(cU P w).is (om n) v=true):∃t,v=Value.int n t:=by
 rcases dX (k:=om n) (v:=v) (show xJ (om n) v=true from h) with ⟨i,t,e,rfl⟩ | ⟨x,t,e,rfl⟩
 ·cases e;exact⟨t,rfl⟩
 cases e
theorem m9 {X:Cx}(hh:X.A.handled=none):j3 X (.builtin "sorted") (λxs H Q=>∃a kvs ns,xs=[V.ref a]/\H a=some (.dK kvs)/\kvs.map (·.1)=ns.map om/\ns.length < 64 /\
  ∀l ns',WA ns' ns->ns'.Pairwise (·<=·)->H l=none->Q (.ref l) (ag H l (.lst (ns'.map V.int)))):=by
 intro af s σ H xs us Q I r h;obtain⟨a,kvs,ns,rfl,ha,hk,h64,q⟩:=h;obtain⟨u,rfl,ru⟩:=vals1 r;cases ru;obtain⟨z,hd,vs,rel,dd⟩:=vV I.hok ha;obtain⟨ep,hat⟩:=dd.dictAt;have hlen:vs.length=ns.length:=by
  have e1:=congrArg Wf hk;simp only[bo]at e1;rw[<-rel.length];exact e1
 refine Calls.call_function_entry kind_sorted plain_sorted entry_sorted (args_sorted1 _) ?_;unfold Builtin.«sorted»;refine UX (m:=checkCount "sorted" 1 1 _) (Vd ?_);refine UX (PySem.W.kdu_collect (A:=X.A.in1) (PySem.W.kdl_dict (knd:=cU X.prog X.w) (kvs:=vs) (ep:=ep) hd) hh hat (by rw[<-rel.length];exact z) λh' tk acc kp Nk=>?_)
 have hsz:acc.toList.length=ns.length:=by rw[Wx];exact Nk.1.trans hlen
 have hI:IntsAre acc.toList ns:=ints_of _ _ hsz λj v hv=>by
  obtain⟨k,x,hx,hkv⟩:=Nk.2 j v (by rw[<-Array.getElem?_toList];exact hv)
  have e:=KN rel j _ hx;rw[hk,sr]at e;cases en:ns[j]? with
  |none=>rw[en]at e;cases e
  |some n =>
   rw[en]at e;have e':om n=k:=by simpa using e
   subst e';obtain⟨t,rfl⟩:=HP hkv;exact⟨n,t,rfl,rfl⟩
 refine UX (wpAny_newList ?_ (by rw[hsz];rw[sizeLine_eq];omega))
 have hoL:(h'.push (seqObj "list" acc.toList.toArray 0)).get? h'.objs.size=some (seqObj "list" acc.toList.toArray 0):=U9 _ rfl;refine UX (wpAny_holding (wpAny_call_entry slot_list_sort ⟨_,hoL,rfl⟩ entry_list_sort (list_sort_tree hoL hI (by omega) λout ns' a1 a2 a3=>⟨_,rfl,?_⟩) (args_list_sort _)))
 refine Vd ⟨_,rfl,?_⟩;obtain⟨e,he⟩:=sortedHeap_at (out:=out) hoL;have I1:av X af σ H { s with heap:=h',toks:=tk }:=I.un (Un.kept kp) (I.hok.kept kp)
 refine⟨.ref h'.objs.size,_,I1.laid (t':=tk) (λb o hb=>?_) (mv _) (show eN X.prog X.w _ _ _ (.lst (ns'.map V.int)) from ⟨?_,_,e,Er a1,?_⟩),rfl,q _ ns' a2 a3 (I1.hok.fresh (mv _))⟩
 ·have hb':h'.get? b=some o:=hb;have hlt:=U6 hb';rw[sortedHeap_old (Ve hlt) (by rw[size_push'];exact Nat.lt_succ_of_lt hlt)]
  exact me _ hb'
 ·rw[bo,a2.length_eq,sizeLine_eq];omega
 rw[Array.toArray_toList];exact he
theorem va:VO "sorted"=some (.builtin "sorted"):=by trivial
theorem Ny {X:Cx}(hu:X.A.units+1 < cLine):OpR X (VP .NotEq) (λx y H Q=>∃a b kvs,x=.ref a/\y=.ref b/\H a=some (.dK kvs)/\H b=some (.dK [])/\Q (.bl (!kvs.isEmpty)) H):=by
 intro af s σ H x y v u Q I rx ry h;obtain⟨a,b,kvs,rfl,rfl,ha,hb,q⟩:=h;cases rx;cases ry;obtain⟨_,h1,vs,r1,d1⟩:=vV I.hok ha;obtain⟨_,h2,ws,r2,d2⟩:=vV I.hok hb;cases r2;refine PySem.W.keq_ne (knd:=cU X.prog X.w) (r:=true) h1 h2 d1 d2 (by omega) (λe=>?_) ⟨.bl _,H,I,?_,q⟩
 ·have:vs=[]:=List.length_eq_zero_iff.mp e;subst this;exact .nil
 have hl:=r1.length;cases kvs with
 |nil =>
  have:vs=[]:=List.length_eq_zero_iff.mp (by rw[<-hl];rfl)
  subst this;rfl
 |cons p r =>
  cases vs with
  |nil=>simp at hl
  |cons _ _=>rfl
theorem aS {P:Prop}(h:∀G:Prop,(P->G)->G):P:=h P id
theorem a8 {s:Option (Option V)}{p:Addr}{n:Int}{S:Addr->List V->Prop}{xs:List V}{z:V}{R:V->Prop}(h0:s=some (some (.ref p)))(h1:S p xs)(h2:atI xs n=some z)(h:R z):∃v,s=some (some v)/\∃q ys i w,v=.ref q/\V.int n=.int i/\S q ys/\atI ys i=some w/\R w :=
 ⟨_,h0,p,xs,n,z,rfl,rfl,h1,h2,h⟩
theorem eO {K:de}{s:Option (Option V)}{H:Hp}{a C dx:Addr}{fs:List (Str×V)}{f:Str}{w:V}{R:V->Prop}(h0:s=some (some (.ref a)))(h1:H a=some (.ins C dx fs))(h2:Cls K C)(h3:dO K C f)(h4:fs.lookup f=some w)(h:R w) :
  ∃v,s=some (some v)/\∃a C dx fs w,v=.ref a/\H a=some (.ins C dx fs)/\Cls K C/\dO K C f/\fs.lookup f=some w/\R w:=⟨_,h0,a,C,dx,fs,w,rfl,h1,h2,h3,h4,h⟩
theorem cv {s:Option (Option V)}{a:Addr}{v:V}{D:Addr->V->Prop}{R:V->Prop}(h0:s=some (some (.ref a)))(h1:D a v)(h:R v):∃x,s=some (some x)/\∃a v,x=.ref a/\D a v/\R v:=⟨_,h0,a,v,rfl,h1,h⟩
theorem mtv {s:Option (Option V)}{H:Hp}{a C dx:Addr}{fs:List (Str×V)}{m:Str}{R:V->Prop}(h0:s=some (some (.ref a)))(h1:H a=some (.ins C dx fs))(h2:fs.lookup m=none)(h:R (.ref a)) :
  ∃v,s=some (some v)/\∃a dx fs,v=.ref a/\H a=some (.ins C dx fs)/\fs.lookup m=none/\R v:=⟨_,h0,a,dx,fs,rfl,h1,h2,h⟩
theorem a4 {b:Bool}{P Q:Prop}(h:b=false)(q:Q):∃k,V.bl b=.bl k/\if k=true then P else Q:=⟨b,rfl,by rw[h];exact q⟩
theorem cg {b:Bool}{P Q:Prop}(h:b=true)(q:P):∃k,V.bl b=.bl k/\if k=true then P else Q:=⟨b,rfl,by rw[h];exact q⟩
noncomputable def scB (N P:List Str)(sc:Scope):Bool:=(match sc.kind with | .function=>true | _=>false) && !sc.isCoroutine && !sc.isGenerator && decide N.Nodup && decide (N.take P.length=P) && decide (∀x∈P,sc.names.lookup x=some .local\/sc.names.lookup x=some .cell) && decide (∀y∈sc.names,y.2≠.free)
theorem bq {N P:List Str}{sc:Scope}(h:scB N P sc=true:=by trivial):aT N P sc:=by
 unfold scB at h;simp only[U3,Bool.not_eq_true',decide_eq_true_eq]at h;obtain⟨⟨⟨⟨⟨⟨h1,h2⟩,h3⟩,h4⟩,h5⟩,h6⟩,h7⟩:=h;refine⟨?_,h2,h3,h4,h5,h6,h7⟩;split at h1
 ·assumption
 cases h1
end _L
namespace _L
open PySem
theorem Draws.shift {prog:wt}{w:World}{A:Around}{it:Addr}{fp:List Addr}{n:Nat}{P:Nat->Value->Prop}{St:Nat->Heap->Prop}(k:Nat)(D:Draws prog w A it fp n P St) :
  Draws prog w A it fp (n+k) (λi v=>∃j,i=j+k/\P j v) (λi h=>∃j,i=j+k/\St j h) where
 live:=λ_ h ⟨j,_,st⟩=>D.live j h st
 frame:=λ_ h h' ⟨j,e,st⟩ q=>⟨j,e,D.frame j h h' st q⟩
 item:=λi s Q E hi ⟨j,e,st⟩ hQ=>by
  subst e;exact D.item j s Q E (by omega) st λx h' tk p st' sb=>hQ x h' tk ⟨j,rfl,p⟩ ⟨j+1,by omega,st'⟩ sb
 done:=λs Q E ⟨j,e,st⟩ hE=>by
  obtain rfl:j=n:=by omega
  exact D.done s Q E st hE
section
variable{prog:wt}{w:World}{A:Around}{E:Value->Shared->Prop}{s:Shared}
noncomputable abbrev kwS (v:Value):List (Str×Value):=[(ar "start",v)]
theorem meets_enumK (l:Addr)(its:Array Value)(n:Nat)(dc:Option Addr)(sl:Array (Option Value))(k:Int)(t:Tok)(hk:V9 k=true) :
  Meets (Builtin.«enumerate.__new__» ⟨[.type "enumerate",.ref l],kwS (.int k t)⟩) (λ_ R s=>s.heap.get? l=some { cls:=.type "list",dict:=dc,data:=.seq its n,slots:=sl } /\
   R (.ok (.ret (.ref (s.heap.objs.size+1)))) { s with heap:=(s.heap.push { cls:=.type "list_iterator",data:=.fields #[.ref l,.int 0 0] }).push { cls:=.type "enumerate",data:=.fields #[.none,.bool false,.ref s.heap.objs.size,rawInt k,.none,.none] } }) :=
 .of_wp λprog w A R s h=>by
  obtain⟨hp,g,d,tk,os⟩:=s;obtain⟨hl,h⟩:=h;have TV:=sub_enumerate;have z:hp.objs.size+1=(hp.push { cls:=.type "list_iterator",data:=.fields #[.ref l,.int 0 0] }).objs.size:=(Heap.size_push ..).symm;have hL:Heap.IsList (Shared.heap ⟨hp,g,d,tk,os⟩) l its:=⟨_,hl,rfl,n,rfl⟩;have nk:¬(!V9 k)=true:=by rw[hk];exact UW
  have h2:=h;dsimp only at h2;rw[z]at h2
  wp_walk using AutoSeq1.wpAny_loadPart' hl
  refine wpAny_stack_any λst=>Vd ?_
  split
  ·rename_i c _ _ _ _ _;cases (c == Value.type "enumerate") <;> (wp_walk using AutoSeq1.wpAny_loadPart' hl,wpAny_pyIter_list hL;exact⟨_,rfl,h2⟩)
  wp_walk using AutoSeq1.wpAny_loadPart' hl,wpAny_pyIter_list hL
  exact⟨_,rfl,h2⟩
theorem argsK (o a v:Value):argsOk "object.__init__" ⟨[o,a],kwS v⟩:=by
 have e:=signature?_of (id:="object.__init__") (n:=("__init__".toList).reverse) (o:=("object".toList).reverse) (by kernel_rfl) F.owner_object
 show argsOk _ _;unfold argsOk;rw[e]
 kernel_rfl
theorem chkK (a v:Value):checkTypeCall "enumerate" ⟨[a],kwS v⟩=pure ():=by kernel_rfl
theorem chkN (a v:Value):checkBuiltinCall "enumerate.__new__" ⟨[.type "enumerate",a],kwS v⟩=pure ():=by kernel_rfl
theorem init_kw {T nw:String}{o a:Value}{kw:List (Str×Value)}(ft:TypeCalled T nw "object.__init__")(hne:(some nw != some "object.__new__")=true) :
  Meets (Builtin.«object.__init__» ⟨[o,a],kw⟩) (λ_ R s=>s.TypeIs o T/\R (.ok (.ret .none)) s):=by
 refine Meets.of_wp λprog w A R s ⟨hT,hq⟩=>?_
 have hl:=ft.init.lookup;have hm:=ft.made
 repeat (any_goals (first | assumption | wp_step))
 exact⟨_,rfl,hq⟩
theorem callType_kw {T nw:String}{Bn:Builtin}{a:Value}{kw:List (Str×Value)}{S:Spec}{Q:Value->Shared->Prop}(ft:TypeCalled T nw "object.__init__")(hne:(some nw != some "object.__new__")=true)
  (ct:checkTypeCall T ⟨[a],kw⟩=pure ()) (cn:checkBuiltinCall nw ⟨[.type T,a],kw⟩=pure ()) (ok:∀o,argsOk "object.__init__" ⟨[o,a],kw⟩) (en:entryFor table nw=some Bn) (g:Meets (Bn ⟨[.type T,a],kw⟩) S)
  (h:S A.in1 (wants (λo s1=>s1.TypeIs o T/\Q o s1) E) s):wpAny (model prog w) A (call (.type T) [a] kw) Q E s:=by
 obtain⟨c,tl,UN⟩:=ft.mro;have UD:=ft.made;have TV:=ft.sub;refine wpAny_call (codeAny_of_tree ?_);refine Vd ⟨Code.quiet_builtin _ (by trivial),codeAny_builtin F.entry_type_call ?_⟩
 rw[Around.under_plain (weight_type_call_type T [a] kw) (units_type_call_type T [a] kw)];have h1:=ft.notType;have h2:=ft.canCreate
 repeat (any_goals (first | assumption | wp_step))
 refine codeAny_mono (codeAny_call_builtin ft.plain en (wpAny_of_eq cn (g prog w A.in1 _ s h))) λr s1 hr=>?_
 cases r with
 |error e=>exact hr
 |ok fl=>cases fl with
  |ret o =>
   obtain⟨hT,hq⟩:=hr;have hli:=ft.init.lookup;have hbi:=ft.init.bind o
   repeat (any_goals (first | assumption | wp_step))
   refine codeAny_mono (codeAny_call_builtin ft.init.plain F.entry_object_init (ft.init.check _ _ _ _ _ _ _ _ hT (ok o) (init_kw ft hne prog w A.in1 (wants (λr s2=>r=.none/\Q o s2) E) s1 ⟨hT,rfl,hq⟩))) λr2 s2 hr2=>?_
   cases r2 with
   |error e=>exact hr2
   |ok f2=>cases f2 with
    |ret r =>
     obtain⟨rfl,hq⟩:=hr2
     repeat (any_goals (first | assumption | wp_step))
    |_=>exact hr2.elim
  |_=>exact hr.elim
theorem call_enumK {l:Addr}{its:Array Value}{k:Int}{t:Tok}{Q:Value->Shared->Prop}(hk:V9 k=true)(hL:s.heap.IsList l its)
  (h:∀h',IsEnum h' (s.heap.objs.size+1) s.heap.objs.size k .none->h'.IsListIter s.heap.objs.size l 0->(∀b o,s.heap.get? b=some o->h'.get? b=some o)->Q (.ref (s.heap.objs.size+1)) { s with heap:=h' }) :
  wpAny (model prog w) A (call (.type "enumerate") [.ref l] (kwS (.int k t))) Q E s:=by
 obtain⟨⟨c,dct,dt,sl⟩,hl,hc,n,hd⟩:=hL;obtain rfl:c=.type "list":=hc;obtain rfl:dt=.seq its n:=hd;refine callType_kw F.called_enumerate (by decide) (chkK _ _) (chkN _ _) (λo=>argsK o _ _) F.entry_enumerate_new (meets_enumK l its n dct sl k t hk) ⟨hl,?_⟩
 have z:(s.heap.push { cls:=.type "list_iterator",data:=.fields #[.ref l,.int 0 0] }).objs.size=s.heap.objs.size+1:=Heap.size_push ..;have he:=U9 (s.heap.push { cls:=.type "list_iterator",data:=.fields #[.ref l,.int 0 0] }) (o:={ cls:=.type "enumerate",data:=.fields #[.none,.bool false,.ref s.heap.objs.size,rawInt k,.none,.none] }) rfl;rw[z]at he;exact⟨⟨_,he,rfl⟩,h _ he ⟨_,me _ (U9 _ rfl),rfl,rfl⟩ λb o x=>me _ (me _ x)⟩
end
end _L
namespace _L
open PySem PySem.Spec PyProof.Rows
section
variable{prog:wt}{w:World}{A:Around}{E:Value->Shared->Prop}{s:Shared}
theorem callWith_tyKw {M:Model}{env:Env}{pos:Pos}{T:String}{e:Expr}{kws:List Keyword}{Q:Value->Shared->Prop}
  (h:wpAny M A (spliced (backTo pos (Vn [e] env))) (λvs s1=>wpAny M A (evalAll ((WE pos (VZ kws env)).map (·.2))) (λks s2=>wpAny M A (call (.type T) vs (((WE pos (VZ kws env)).filterMap (·.1)).zip ks)) Q E s2) E s1) E s)
  (he:backTo pos (Vn [e] env)=[(false,eval e env)]:=by rfl) (ha:(WE pos (VZ kws env)).all (·.1.isSome)=true:=by rfl) (hn:(WE pos (VZ kws env)).any (·.1.isNone)=false:=by rfl) :
  wpAny M A (callWith pos (.type T) [] (backTo pos (Vn [e] env)) (WE pos (VZ kws env))) Q E s:=by
 unfold callWith;rw[he]at h ⊢;refine UX (wpAny_holding (Wl (PyProof.Rows.evalArgs_kwB (Q:=λa s2=>wpAny M A (call (.type T) a.pos a.kw) Q E s2) ha h) (λa s1 h1=>UX (wpAny_standAt ?_)) λ_ _ x=>x))
 simp only[V2,List.any_nil,Bool.or_false,hn];refine UX (Vd ?_);exact UX (Wl h1 (λr s2 hr=>UX (wpAny_holding (wpAny_point (Vd hr)))) λ_ _ x=>x)
end
def Ite (K:de)(a:Addr)(k:Nat):It :=
 ⟨λi H=>∃xs x,ay K H a xs/\xs[i]?=some x,λi H y H'=>∃t x,y=.ref t/\H t=none/\H'=ag H t (.tup [.int ((i+k:Nat):Int),x])/\∀xs,ay K H a xs->xs[i]?=some x,λi H=>∃xs,ay K H a xs/\xs.length<=i⟩
def tnE (e it l:Addr)(k i:Nat)(h:Heap):Prop:=(∃old,IsEnum h e it ((i+k:Nat):Int) old)/\h.IsListIter it l i
theorem turn_enum {P:wt}{w:World}{K:de}{es:List Expr}{x1}{tp:Pos}(a e it:Addr)(k:Nat)(hei:e≠it):Turn P w K (.Tuple es x1 tp) (Ite K a k) [e,it] e (tnE e it a k) where
 mem:=by simp
 obj:=λi h st b hb=>by
  rcases List.mem_cons.mp hb with rfl | hb
  ·obtain⟨old,he⟩:=st.1;exact⟨_,he,λv z=>by cases z⟩
  rw[UT]at hb;subst hb;obtain⟨o,e,c,d⟩:=st.2;exact⟨o,e,λv z=>by rw[d]at z;cases z⟩
 keep:=λi h h' st q=>⟨let ⟨old,he⟩:=st.1;⟨old,q e (by simp) _ he⟩,st.2.at λo z=>q it (by simp) o z⟩
 item:=by
  intro X hP hw hK hc i af s σ H E I hf st hg;subst hP hw hK;obtain⟨xs,x,hq,hx⟩:=hg;obtain⟨its,rv,p,hz⟩:=I.list hq;obtain⟨u,hu,ru⟩:=rv.get hx;obtain⟨⟨old,he⟩,hit⟩:=st;have hl:s.heap.IsList a its.toArray:=p.isList;have nli:a≠it:=λz=>by
   obtain⟨o1,g1,c1,_⟩:=hl;obtain⟨o2,g2,c2,_⟩:=hit;rw[z,g2]at g1;cases g1;rw[c2]at c1;exact absurd c1 (by decide)
  have nle:a≠e:=λz=>by
   obtain⟨o1,g1,c1,_⟩:=hl;rw[z,show s.heap.get? e=_ from he]at g1
   cases g1;exact absurd (show Value.type "enumerate"=Value.type "list" from c1) (by decide)
  have D:=Draws.shift k (Draws.list (prog:=X.prog) (w:=X.w) (A:=X.A.in1) (I.ok.hd hc) it a nli its.toArray);have hlt:i < its.length:=(List.getElem?_eq_some_iff.mp hu).1;refine wpAny_pyNext_enum_itemD (i:=i+k) D he ⟨i,rfl,hit,hl⟩ (by simp;omega) hei (by simp;exact⟨hei,VG nle⟩) λv h1 tk hv ho hs1 hT hsz hk=>?_
  obtain⟨j,ej,hv⟩:=hv;obtain rfl:j=i:=by omega
  obtain rfl:v=u:=by
   have:its.toArray[j]?=some u:=by simpa using hu
   rw[this]at hv;exact(US hv).symm
  obtain⟨j2,ej2,st1,_⟩:=hs1;obtain rfl:j2=j+1:=by omega
  refine⟨_,rfl,wpAny_letOwnedTupleGo_enum ho λh2 he2 sb=>?_⟩
  have hel:e < s.heap.objs.size:=U6 he;have hil:it < s.heap.objs.size:=by obtain⟨o,g,_⟩:=hit;exact U6 g
  have nT:s.heap.objs.size≠e:=Nat.ne_of_gt hel;have kk:∀b o,b≠e->b≠it->s.heap.get? b=some o->h2.get? b=some o:=λb o h1 h2 g=>(sb.2 b h1).trans (hk b o h1 h2 g)
  have hT2:h2.get? s.heap.objs.size=some { cls:=.type "tuple",data:=.seq #[.int ((j+k:Nat):Int) tk,v] }:=(sb.2 _ nT).trans hT;have hf0:H s.heap.objs.size=none:=I.hok.fresh (mv _);have fe:=hf e (by simp)
  have fi:=hf it (by simp)
  have nb:∀b z,H b=some z->b≠s.heap.objs.size:=λb z q y=>by rw[y,hf0]at q;cases q
  have I2:av X af σ (ag H s.heap.objs.size (.tup [.int ((j+k:Nat):Int),x])) { s with heap:=h2,toks:=tk+1 }:=by
   refine I.step (g':=s.gens) (d':=s.drawn) (ch:=[e,it]) (λb hb=>?_) (λb o _ _ hc g _=>kk b o (λz=>hc (by simp[z])) (λz=>hc (by simp[z])) g) (λb o _ _ hc g _=>⟨o.slots,kk b o (λz=>hc (by simp[z])) (λz=>hc (by simp[z])) g⟩)
    (λb o hc g n=>by rw[ax (Ve (U6 g))];exact n) (λb o hc g=>⟨o,kk b o (λz=>hc (by simp[z])) (λz=>hc (by simp[z])) g⟩)
    (λb ys q=>by rw[ax (nb b _ q)];exact q) (λb o u q=>by rw[ax (nb b _ q)];exact q) (λb ps q=>⟨#[],by rw[ax (nb b _ q),q];simp⟩) (λm hm=>?_) (λb z q=>?_) I.bare
   ·rcases List.mem_cons.mp hb with rfl | hb
    ·exact⟨fe.2.2.2.1,fe.2.1,fe.2.2.2.2.1,fe.2.2.2.2.2⟩
    rw[UT]at hb;subst hb;exact⟨fi.2.2.2.1,fi.2.1,fi.2.2.2.2.1,fi.2.2.2.2.2⟩
   ·obtain⟨o,es,ep,ho,r⟩:=hm;exact⟨o,es,ep,kk _ o (VG fe.2.1) (VG fi.2.1) ho,r⟩
   by_cases hb:b=s.heap.objs.size
   ·subst hb;rw[ae]at q;cases q;exact⟨by show 2<=fu;decide,[.int ((j+k:Nat):Int) tk,v],.cons ⟨_,rfl⟩ (.cons ru .nil),⟨_,hT2,rfl,_,rfl⟩⟩
   rw[ax hb]at q;refine(I.hok b z q).F3 (λc o hc g=>kk c o (λy=>?_) (λy=>?_) g) (λc r=>by rw[ax (nb c _ r)];exact r) λc ys r=>by rw[ax (nb c _ r)];exact r
   ·have n:=fe.1;rw[<-y]at n;rcases hc with rfl | hc
    ·rw[q]at n;cases n
    rw[hc]at n;cases n
   have n:=fi.1;rw[<-y]at n;rcases hc with rfl | hc
   ·rw[q]at n;cases n
   rw[hc]at n;cases n
  refine⟨.ref s.heap.objs.size,_,I2,rfl,⟨_,x,rfl,hf0,rfl,λys hy=>by rw[I.DX hy hq];exact hx⟩,⟨⟨v,?_⟩,?_⟩,λb hb=>?_⟩
  ·have:((j+1+k:Nat):Int)=((j+k:Nat):Int)+1:=by omega
   rw[this];exact he2
  ·exact st1.at λo z=>(sb.2 it (VG hei)).trans z
  rcases List.mem_cons.mp hb with rfl | hb
  ·rw[ax (VG nT)];exact fe.1
  rw[UT]at hb;subst hb;rw[ax (Ve hil)];exact fi.1
 done:=by
  intro X hP hw hK hc i af s σ H E I hf st hg;subst hP hw hK;obtain⟨xs,hq,hx⟩:=hg;obtain⟨its,rv,p,hz⟩:=I.list hq;obtain⟨⟨old,he⟩,hit⟩:=st;obtain⟨f0,f1,f2,f3,f4,f5⟩:=hf it (by simp)
  have hl:=rv.length;have hn:its.toArray[i]?=none:=by simp;omega
  have D:Draws X.prog X.w X.A.in1 it [it,a] i (λ_ _=>False) (λj h=>j=i/\h.IsListIter it a i/\h.IsList a its.toArray) :=
   ⟨λ_ _ st=>let ⟨o,g,_⟩:=st.2.1;⟨o,g⟩,λ_ _ _ st q=>⟨st.1,st.2.1.at λo z=>q it (by simp) o z,st.2.2.at λo z=>q a (by simp) o z⟩,λj _ _ _ hj st _=>absurd st.1 (Ve hj),λ_ _ _ st hE=>wpAny_nextOf_list_end (I.ok.hd hc) st.2.1 st.2.2 hn hE⟩
  exact wpAny_pyNext_enum_endD D he ⟨rfl,hit,p.isList⟩ λh' eb=>⟨rfl,I.turned (t':=s.toks) (λb o hb e=>eb b o hb e) f0 f1 f3 f4 f5⟩
 self:=λ_ _ _ _ _ st h=>let ⟨_,he⟩:=st.1;wpAny_pyIter_enum he h
section
variable{X:Cx}
def iEnum (K:de)(k:Nat)(ta:TA):TI:=λσ H R=>ta σ H λvs H1=>∃a,vs=[.ref a]/\(∃xs,ay K H1 a xs)/\R (Ite K a k) H1
theorem pi_enum {l:Expr}{ta:TA}{es:List Expr}{x1}{tp p kp cp pos:Pos}{k:Nat}{j}(hk:V9 ((k:Nat):Int)=true)(hg:Gl X "enumerate")(hm:X.mg "enumerate"=none)(ha:PA X [l] ta)(hs:Vn [l] X.env=[(false,eval l X.env)]:=by rfl) :
  PI X (.Tuple es x1 tp) (.Call (.Name "enumerate" p) [l] [⟨some (ar "start"),.Constant (.int ((k:Nat):Int)) j cp,kp⟩] pos) (iEnum X.K k ta):=by
 intro af s σ H R I h;refine wpAny_Call_Name_kw (CB I hg hm PyProof.Rows.boot_enumerate ?_);refine callWith_tyKw (he:=by rw[hs];rfl) (thn (ha pos af s σ H _ I h) λus s1 ⟨vs,H1,I1,r1,q1⟩=>?_)
 obtain⟨a,rfl,⟨xs,hq⟩,q⟩:=q1;cases r1 with
 |cons r rr =>
  cases rr;cases r;refine PyProof.Rows.kws_cons (wpAny_Constant_int ?_);refine PyProof.Rows.kws_nil ?_;obtain⟨its,rv,p,hz⟩:=I1.list hq;refine call_enumK (s:={ s1 with toks:=s1.toks+1 }) hk p.isList λh' he hit kk=>?_
  refine wpAny_pyIter_enum he ⟨s1.heap.objs.size+1,[s1.heap.objs.size+1,s1.heap.objs.size],tnE _ _ a k,_,H1,rfl,I1.kept (t':=s1.toks+1) kk,turn_enum a _ _ k (Nat.succ_ne_self _),⟨⟨.none,?_⟩,hit⟩,λb hb=>?_,q⟩
  ·rw[Nat.zero_add];exact he
  have hb':s1.heap.objs.size<=b:=by
   rcases List.mem_cons.mp hb with rfl | hb
   ·exact WB _
   rw[List.mem_singleton.mp hb];exact mv _
  have I2:av X af σ H1 { s1 with heap:=h',toks:=s1.toks+1 }:=I1.kept kk
  have z:=I1.F7 hb' (I1.hok.fresh hb');exact z
end
theorem for_enum {K:de}{a:Addr}{k:Nat}{xs:List V}{g:TG}{tb:TS}{D:Ends}{σ:St}{H:Hp}(Pv:Nat->St->Hp->Prop)(h0:Pv 0 σ H)(hl:∀i σ H,i<=xs.length->Pv i σ H->ay K H a xs)
  (hs:∀i x σ H t,xs[i]?=some x->Pv i σ H->H t=none->g (.ref t) σ (ag H t (.tup [.int ((i+k:Nat):Int),x])) λσ2 H2=>tb { D with nx:=Pv (i+1),ct:=Pv (i+1),bk:=D.nx } σ2 H2) (hd:∀σ H,Pv xs.length σ H->D.nx σ H) :
  ∃W:Nat->Nat->St->Hp->Prop,(∃m,W 0 m σ H)/\∀i m σ H,W i m σ H ->
   ((Ite K a k).stop i H/\D.nx σ H)\/((Ite K a k).go i H/\∃N:St->Hp->Prop,(∀σ' H',N σ' H'->∃m',m' < m/\W (i+1) m' σ' H')/\∀x H',(Ite K a k).yld i H x H'->g x σ H' λσ2 H2=>tb { D with nx:=N,ct:=N,bk:=D.nx } σ2 H2):=by
 refine⟨λi m σ H=>m=xs.length - i/\i<=xs.length/\Pv i σ H,⟨xs.length,by simp,Vl _,h0⟩,?_⟩
 rintro i m σ H ⟨rfl,hi,p⟩;have q:=hl i σ H hi p
 by_cases hlt:i < xs.length
 ·refine .inr ⟨⟨xs,xs[i],q,by simp[hlt]⟩,Pv (i+1),λσ' H' p'=>⟨xs.length - (i+1),by omega,rfl,hlt,p'⟩,λx H' y=>?_⟩
  obtain⟨t,x,rfl,ht,rfl,y⟩:=y;exact hs i x σ H t (y xs q) p ht
 have e:i=xs.length:=by omega
 subst e;exact .inl ⟨⟨xs,q,mv _⟩,hd σ H p⟩
noncomputable abbrev clr (A:Around):Around:={ A with handled:=none }
structure FnOkH (P:wt)(w:World)(K:de)(mg:Str->Option Value)(base:Heap)(k:Nat)(f:Addr)(fd:gr)(ps:List Str)(sp:Sp):Prop where
 len:∀vs H Q E,sp vs H Q E->vs.length=ps.length
 run:∀(A:Around) (outer:List Env) (s:Shared) (H:Hp) (args:Args) (us:List Value) (vs:List V) (Q:VK) (E:XK),b7 k (clr A)->DZ P w K mg base A outer s H->BindsTo s fd args (ps.zip us)->bg vs us->sp vs H Q E ->
  codeAny (model P w) A (.call (.ref f) args) (CR a5 outer P w H s Q E) s
section
variable{X:Cx}{af:List (Addr×Obj)}{σ:List (Option V)}{H:Hp}{s:Shared}{a:Addr}{ob:Obj}{kvs:List (Key×V)}
theorem av.freeze (I:av X af σ H s)(ha:H a=some (.dK kvs))(ho:s.heap.get? a=some ob):av X af σ (ag H a (.frz ob (.dK kvs))) s:=by
 have mu:Mut (H a):=by rw[ha];trivial
 have new:eN X.prog X.w (ag H a (.frz ob (.dK kvs))) s.heap a (.frz ob (.dK kvs)):=⟨ho,(show eN X.prog X.w H s.heap a (.dK kvs) from I.hok a _ ha)⟩
 exact I.un (t':=s.toks) (Un.write mu (.inl rfl) (λ_ _ _ q=>q) ⟨ob,ho⟩) (I.hok.write mu (.inl rfl) (λ_ _ _ q=>q) ⟨ob,ho⟩ new)
theorem av.thaw (I:av X af σ H s)(ha:H a=some (.frz ob (.dK kvs)))(hb:∀o u,X.H₀ a≠some (.frz o u)):av X af σ (ag H a (.dK kvs)) s:=by
 have nn:∀ {b},H b=none->ag H a (.dK kvs) b=none:=λ{b} h=>by rw[ax (VG (aQ ha h))];exact h
 have old:=(show eN X.prog X.w H s.heap a (.frz ob (.dK kvs)) from I.hok a _ ha)
 refine⟨I.ok,I.os,I.bare,⟨I.base.keep,I.base.slot,λb o e n hx=>nn (I.base.free b o e n hx),I.base.there,λb xs e=>?_,λb o u e=>?_,λb ps e=>?_⟩,I.loc,I.cell,nn I.free,λx c e=>nn (I.o9 x c e),λp hp=>?_,λb u e=>?_,I.len⟩
 ·have:=I.base.Cw b xs e;rw[ax (A0 this ha (λz=>by cases z))];exact this
 ·have:=I.base.xK b o u e
  by_cases h:b=a
  ·rw[h]at e;exact absurd e (hb o u)
  rw[ax h];exact this
 ·obtain⟨m,this⟩:=I.base.Cy b ps e;exact⟨m,by rw[ax (A0 this ha (λz=>by cases z))];exact this⟩
 ·obtain⟨e,n,r⟩:=I.pin p hp;exact⟨e,nn n,r⟩
 by_cases h:b=a
 ·subst h;rw[ae]at e;cases e;exact old.2
 rw[ax h]at e;exact(I.hok b u e).F3 (λ_ _ _ q=>q) (λc r=>by rw[ax (A0 r ha (λz=>by cases z))];exact r) λc xs r=>by rw[ax (A0 r ha (λz=>by cases z))];exact r
end
noncomputable def Itd (a:Addr)(ob:Obj)(kvs:List (Key×V))(ns:List Int):It :=
 ⟨λi H=>i < ns.length/\H a=some (.frz ob (.dK kvs)),λi H x H'=>H'=H/\∃z,ns[i]?=some z/\x=.int z,λi H=>ns.length<=i/\H a=some (.frz ob (.dK kvs))⟩
theorem turn_dict {P:wt}{w:World}{K:de}{tg:Expr}{kvs:List (Key×V)}(it a:Addr)(ob:Obj)(ns:List Int)(vs:List (Key×Value))(ep:Nat)(hn:vs.map (·.1)=ns.map om)(hd:∀h:Heap,h.get? a=some ob->h.DictAt (cU P w) a vs ep)(hne:a≠it) :
  Turn P w K tg (Itd a ob kvs ns) [it] it (λi h=>h.IsKeyIter it a i vs.length ep) where
 mem:=by simp
 obj:=λi h st b hb=>by
  have e:b=it:=by simpa using hb
  subst e;obtain⟨o,e,c,dd⟩:=st;exact⟨o,e,λv z=>by rw[dd]at z;cases z⟩
 keep:=λi h h' st k=>st.at λo e=>k it (by simp) o e
 item:=by
  intro X hP hw hK hc i af s σ H E I hf st hg;subst hP hw hK;obtain⟨f0,f1,f2,f3,f4,f5⟩:=hf it (by simp)
  obtain⟨hg,ha⟩:=hg;have W:=Walks.dictKeys (knd:=cU X.prog X.w) (A:=X.A) (I.ok.hd hc) it a hne vs ep;have hlen:vs.length=ns.length:=by
   have:=congrArg Wf hn
   simpa only[bo] using this
  refine W.item i s _ _ (by rw[hlen];exact hg) ⟨st,hd _ (show eN X.prog X.w H s.heap a (.frz ob (.dK kvs)) from I.hok a _ ha).1⟩ λv h' tk hv st' kk=>?_
  obtain⟨k,x,hx,hk⟩:=hv;obtain⟨n,en⟩:∃n,ns[i]?=some n:=⟨_,wa hg⟩;have ek:k=om n:=by
   have:(vs.map (·.1))[i]?=some k:=by rw[sr,hx];rfl
   rw[hn,sr,en]at this;exact(US this).symm
  subst ek;obtain⟨t,rfl⟩:=HP hk;have I1:av X af σ H { s with heap:=h',toks:=tk }:=I.turned (λb o hb e=>kk b o (by simpa using hb) e) f0 f1 f3 f4 f5
  obtain⟨oi,ei,ci,di⟩:=id st'.1;exact⟨_,rfl,A1 (s:={ s with heap:=h',toks:=tk }) (n:="dict_keyiterator") ei ci di (by decide) ⟨.int n,H,I1,⟨t,rfl⟩,⟨rfl,n,en,rfl⟩,st'.1,λb hb=>(hf b hb).1⟩⟩
 done:=by
  intro X hP hw hK hc i af s σ H E I hf st hg;subst hP hw hK;obtain⟨f0,f1,f2,f3,f4,f5⟩:=hf it (by simp)
  obtain⟨hg,ha⟩:=hg;have hlen:vs.length=ns.length:=by
   have:=congrArg Wf hn
   simpa only[bo] using this
  exact wpAny_pyNext_dict_end (I.ok.hd hc) st (hd _ (show eN X.prog X.w H s.heap a (.frz ob (.dK kvs)) from I.hok a _ ha).1) (by first | omega | (rw[List.getElem?_eq_none_iff];omega)) λh' eb=>⟨rfl,I.turned (t':=s.toks) (λb o hb e=>eb b o hb e) f0 f1 f3 f4 f5⟩
 self:=λ_ _ _ _ _ st h=>wpAny_pyIter_keyiter st h
section
variable{X:Cx}{tg:Expr}
def iDict (te:TE):TI:=λσ H R=>te σ H λx H1=>∃a kvs,∃ns:List Int,x=.ref a/\H1 a=some (.dK kvs)/\kvs.map (·.1)=ns.map om/\∀ob,R (Itd a ob kvs ns) (ag H1 a (.frz ob (.dK kvs)))
theorem pi_dict {l:Expr}{te:TE}(hl:PE X l te):PI X tg l (iDict te):=by
 intro af s σ H R I h;refine thn (hl af s σ H _ I h) λv s1 ⟨x,H1,I1,r1,q1⟩=>?_
 obtain⟨a,kvs,ns,rfl,ha,hk,q⟩:=q1;cases r1;obtain⟨z,lo,vs,rel,dd⟩:=vV I1.hok ha;obtain⟨ep,hat⟩:=dd.dictAt;obtain⟨ob,es,ho,r⟩:=id hat;have hn:vs.map (·.1)=ns.map om:=by
  rw[<-hk];refine List.ext_getElem? λj=>?_
  rw[sr];cases e:vs[j]? with
  |none =>
   have:vs.length<=j:=List.getElem?_eq_none_iff.mp e;rw[<-rel.length]at this;rw[sr,List.getElem?_eq_none this];rfl
  |some y=>exact(KN rel j _ e).symm
 refine wpAny_pyIter_dict lo hat ?_;refine⟨s1.heap.objs.size,[s1.heap.objs.size],_,_,_,rfl,(I1.freeze ha ho).kept (t':=s1.toks) λb o e=>me _ e,turn_dict _ a ob ns vs ep hn (λh' e=>⟨ob,es,e,r⟩) (Ve hat.lt_size),⟨_,U9 _ rfl,rfl,rfl⟩,λb hb=>?_,q ob⟩
 have e:b=s1.heap.objs.size:=by simpa using hb
 subst e;have I2:=I1.freeze ha ho;exact I2.F7 (mv _) (I2.hok.fresh (mv _))
def tThaw (t:TE):TE:=λσ H Q=>∃a kvs,H a=some (.dK kvs)/\t σ H λv H2=>∃ob,H2 a=some (.frz ob (.dK kvs))/\Q v (ag H2 a (.dK kvs))
theorem pe_thaw {e:Expr}{t:TE}(h:PE X e t):PE X e (tThaw t):=by
 intro af s σ H Q I hw;obtain⟨a,kvs,ha,hw⟩:=hw;have nf:∀o u,X.H₀ a≠some (.frz o u):=λo u z=>by
  have:=I.base.xK a o u z;rw[ha]at this;cases this
 exact thn (h af s σ H _ I hw) λv s1 ⟨x,H1,I1,r1,ob,hf,q⟩=>⟨x,_,I1.thaw hf nf,r1,q⟩
end
theorem comp_dict {a D:Addr}{ob:Obj}{kvs:List (Key×V)}{ns:List Int}{te:TE}{Q:VK}{σ:St}{H1:Hp}(Pv:Nat->List V->Hp->Prop)(h0:Pv 0 [] (ag H1 D (.lst [])))(hz:ns.length<=fu)
  (hl:∀i ys H2,i<=ns.length->Pv i ys H2->H2 a=some (.frz ob (.dK kvs))/\H2 D=some (.lst ys)/\ys.length=i)
  (hs:∀i x ys H2,ns[i]?=some x->Pv i ys H2->te (some (.int x)::σ) H2 (cI D ns.length Pv i ys)) (hd:∀ys H2,Pv ns.length ys H2->Q (.ref D) H2) :
  iX (Itd a ob kvs ns) te σ D H1 Q:=by
 refine⟨λi m ys H=>m=ns.length - i/\i<=ns.length/\Pv i ys H,⟨ns.length,by simp,Vl _,h0⟩,?_⟩
 rintro i m ys H2 ⟨rfl,hi,p⟩;obtain⟨q,q2,q3⟩:=hl i ys H2 hi p;refine⟨q2,?_⟩
 by_cases hlt:i < ns.length
 ·refine .inr ⟨⟨hlt,q⟩,by omega,λx H3 y=>?_⟩
  obtain⟨e,n,hn,rfl⟩:=y;subst e;exact hs i n ys _ hn p
 have e:i=ns.length:=by omega
 subst e;exact .inl ⟨⟨mv _,q⟩,hd ys H2 p⟩
section
variable{X:Cx}
theorem mt_strip:MtR X "str.strip" (λx vs H Q=>∃z y,x=.str z/\vs=[.str y]/\z.length<=fu/\Q (.str (Txt.stripChars z y)) H):=by
 intro af s σ H x vs v us Q I rx rv h;obtain⟨z,y,rfl,rfl,hz,q⟩:=h;obtain⟨t,rfl⟩:=rx;obtain⟨_,rfl,u,rfl⟩:=rv.one;exact SC.stripChars (λt' k=>⟨.str _,H,I.tok _,⟨_,rfl⟩,q⟩) hz
end
section
variable{X:Cx}{st:Stmt}{e:Expr}
theorem ps_dead:PS X st (λ_ _ _=>False):=λ_ _ _ _ _ _ h=>h.elim
theorem ps_tryN {Y:Cx}{body:List Stmt}{h₀:ExceptHandler}{hs:List ExceptHandler}{t:TS}{pos:Pos}(hb:PSs Y.nox body t):PS Y.nox (.Try body (h₀::hs) [] [] pos) t:=by
 intro af s σ H D I h;refine wpAny_Try_except (Wl (hb af s σ H D I h) (λf s1 q=>?_) (λv s1 q=>q.elim))
 cases f with
 |next=>exact wpAny_execs_nil q
 |ret v=>exact q
 |brk=>exact q
 |cont=>exact q
end
structure FnG (K:de)(mg:Str->Option Value)(x:Str)(st:Stmt)(f:Addr)(fd:gr)(ps:List Str):Prop where
 g:mg x=some (.ref f)
 F:Fun K x x st f fd
 b:bJ K fd ps []
theorem az {X:Cx}{k:Nat}{f:Addr}{fd:gr}{ps:List Str}{sp:Sp}{x:Str}{st:Stmt}{e:Expr}{es:List Expr}{t:TA}{p pos:Pos}(F:aC X.prog X.w X.K X.mg X.base a5 k f fd ps sp)(hr:b7 k X.A)(h:FnG X.K X.mg x st f fd ps)(ha:PA X (e::es) t)(hg:Gl X x:=by rfl)(hdb:(x == ("__debug__":Str))=false:=by decide)(he:Vn (e::es) X.env=(false,eval e X.env)::Vn es X.env:=by rfl)(hpl:(backTo pos (Vn es X.env)).any (·.1)=false:=by rfl):PE X (.Call (.Name x p) (e::es) [] pos) (Kl sp [] E0 t):=Na F hr hg h.g h.F.kp h.b .nil bU ha hdb he hpl
theorem aV {X:Cx}{i:Nat}{x:Str}{e:Expr}{te:TE}{pos pos':Pos}(hN:X.N.Nodup)(he:PE X e te)(hi:X.N[i]?=some x:=by rfl)(hx:Loc X.env.scope x:=by exact Or.inl rfl)(hs:swapsWith e (some (.Name x pos')) pos.line X.env=pure false:=by rfl)(hf:X.fn x=true\/X.env.scope.names.lookup x=some .local:=by first | exact .inl rfl | exact .inr rfl | assumption):PS X (.Assign [.Name x pos'] e pos) (Jq te (cZ i)):=F6 hN hi hx he hs hf
theorem b9 {X:Cx}{i:Nat}{x:Str}{pos:Pos}(hN:X.N.Nodup)(hi:X.N[i]?=some x:=by rfl)(hx:Loc X.env.scope x:=by exact Or.inl rfl)(hf:X.fn x=true\/X.env.scope.names.lookup x=some .local:=by first | exact .inl rfl | exact .inr rfl | assumption):PG X (.Name x pos) (cZ i):=M5 hN hi hx hf
end _L
namespace _M
open PySem _L
seal PySem.wpAny
local macro_rules | `(tactic| symm)=>`(tactic| try dsimp only[Gs])
local macro_rules | `(tactic| left)=>`(tactic| (intro _ _ _ _ h;repeat (first | (obtain⟨g,_⟩:=h;subst g;rfl) | obtain⟨_,h⟩:=h)))
local macro_rules | `(tactic| nofun)=>`(tactic| (constructor <;> first | rfl | trivial))
abbrev fS (ns:List (Str×NameKind)):Scope:={ kind:=.function,names:=ns,isGenerator:=false,isCoroutine:=false,more:=[] }
noncomputable def top (i:Nat):Stmt:=PySem.Challenge.pw_moot_k37_whole_where_two_part.main.body.getD i (.Pass ⟨0,0,0,0⟩)
abbrev rh:Stmt:=inClass (top 24) 1
theorem yc:aT ["self"] ["self"] (aB rh):=bq
abbrev rj:Stmt:=inClass (top 25) 1
theorem yd:aT ["self"] ["self"] (aB rj):=bq
abbrev vW:Stmt:=inClass (top 26) 1
theorem CP:aT ["self"] ["self"] (aB vW):=bq
abbrev rl:Stmt:=inClass (top 27) 1
theorem ye:aT ["self"] ["self"] (aB rl):=bq
abbrev tN:Stmt:=inClass (top 28) 0
theorem Ay:aT ["self"] ["self"] (aB tN):=bq
abbrev yf:Stmt:=inClass (top 29) 0
theorem Es:aT ["self"] ["self"] (aB yf):=bq
abbrev vX:Stmt:=inClass (top 30) 0
theorem CQ:aT ["self"] ["self"] (aB vX):=bq
abbrev tO:Stmt:=inClass (top 31) 1
theorem Az:aT ["self"] ["self"] (aB tO):=bq
abbrev rn:Stmt:=inClass (top 23) 1
theorem yg:aT ["self"] ["self"] (aB rn):=bq
abbrev rp:Stmt:=inClass (top 23) 2
theorem yh:aT ["self"] ["self"] (aB rp):=bq
abbrev tP:Stmt:=inClass (top 28) 1
theorem AA:aT ["self"] ["self"] (aB tP):=bq
abbrev rq:Stmt:=inClass (top 23) 3
theorem yi:aT ["self"] ["self"] (aB rq):=bq
abbrev rz:Stmt:=inClass (top 24) 2
theorem yj:aT ["self"] ["self"] (aB rz):=bq
abbrev rA:Stmt:=inClass (top 25) 2
theorem yk:aT ["self"] ["self"] (aB rA):=bq
abbrev vY:Stmt:=inClass (top 26) 2
theorem CS:aT ["self"] ["self"] (aB vY):=bq
abbrev rB:Stmt:=inClass (top 27) 2
theorem ym:aT ["self"] ["self"] (aB rB):=bq
abbrev tQ:Stmt:=inClass (top 31) 2
theorem AB:aT ["self"] ["self"] (aB tQ):=bq
abbrev rC:Stmt:=inClass (top 24) 0
theorem yn:aT ["self","text"] ["self","text"] (aB rC):=bq
abbrev rD:Stmt:=inClass (top 25) 0
theorem yo:aT ["self","edit"] ["self","edit"] (aB rD):=bq
abbrev vZ:Stmt:=inClass (top 26) 0
theorem CT:aT ["self","edit"] ["self","edit"] (aB vZ):=bq
abbrev rF:Stmt:=inClass (top 27) 0
theorem yp:aT ["self","sitting"] ["self","sitting"] (aB rF):=bq
abbrev tS:Stmt:=inClass (top 31) 0
theorem AD:aT ["self","clause"] ["self","clause"] (aB tS):=bq
abbrev pA:Stmt:=inClass (top 66) 0
theorem xf:aT ["self","seats"] ["self","seats"] (aB pA):=bq
abbrev pB:Stmt:=inClass (top 66) 1
theorem oo:aT ["self","told","number"] ["self","told"] (aB pB):=bq
abbrev pD:Stmt:=inClass (top 66) 2
theorem ji:aT ["self","ayes","noes","motion","word"] ["self","ayes","noes"] (aB pD):=bq
abbrev pE:Stmt:=inClass (top 66) 3
theorem xg:aT ["self"] ["self"] (aB pE):=bq
abbrev pF:Stmt:=inClass (top 66) 4
theorem oq:aT ["self","number","until"] ["self","number"] (aB pF):=bq
abbrev jj:Stmt:=inClass (top 66) 6
theorem vc:aT ["self","aside"] ["self"] (aB jj):=bq
noncomputable abbrev jt:Scope:=fS [(ar ".0",.local),(ar "number",.local),(ar "self",.free)]
theorem r8:cf jt (aB jj) "number" ["self","aside"] ["self","aside"]:=by nofun
abbrev lT:Stmt:=inClass (top 66) 7
theorem tU:aT ["self","number"] ["self","number"] (aB lT):=bq
abbrev fh:Stmt:=inClass (top 66) 8
theorem nc:aT ["self"] ["self"] (aB fh):=bq
noncomputable abbrev f6:Scope:=fS [(ar ".0",.local),(ar "number",.local),(ar "self",.free)]
theorem lI:cf f6 (aB fh) "number" ["self"] ["self"]:=by nofun
abbrev kU:Stmt:=inClass (top 66) 11
theorem r9:aT ["self"] ["self"] (aB kU):=bq
abbrev gT:Stmt:=inClass (top 66) 12
theorem sf:aT ["self"] ["self"] (aB gT):=bq
noncomputable abbrev ik:Scope:=fS [(ar ".0",.local),(ar "number",.local),(ar "self",.free)]
theorem pG:cf ik (aB gT) "number" ["self"] ["self"]:=by nofun
abbrev iY:Stmt:=inClass (top 66) 13
theorem ip:aT ["self","number","waiting"] ["self","number"] (aB iY):=bq
abbrev eU:Stmt:=inClass (top 66) 14
theorem dh:aT ["self","told","kind","pile"] ["self","told"] (aB eU):=bq
abbrev f7:Stmt:=inClass (top 66) 15
theorem j8:aT ["self"] ["self"] (aB f7):=bq
abbrev lU:Stmt:=inClass (top 66) 17
theorem tV:aT ["self","word"] ["self","word"] (aB lU):=bq
abbrev gU:Stmt:=inClass (top 66) 18
theorem lV:aT ["self","deed"] ["self","deed"] (aB gU):=bq
abbrev jv:Stmt:=inClass (top 66) 19
theorem iZ:aT ["self","motion","kind"] ["self","motion"] (aB jv):=bq
abbrev gF:Stmt:=inClass (top 66) 20
theorem gj:aT ["self","edit","number"] ["self","edit"] (aB gF):=bq
abbrev gG:Stmt:=inClass (top 66) 21
theorem dF:aT ["self","edit","number","change","words"] ["self","edit"] (aB gG):=bq
abbrev jw:Stmt:=inClass (top 66) 22
theorem pH:aT ["self","until"] ["self","until"] (aB jw):=bq
abbrev wb:Stmt:=inClass (top 87) 0
theorem CU:aT ["self"] ["self"] (aB wb):=bq
abbrev sx:Stmt:=inClass (top 87) 1
theorem gH:aT ["self","text","rows","order","kind","names","asked","chambers"] ["self","text"] (aB sx):=bq
noncomputable abbrev pI:Scope:=fS [(ar ".0",.local),(ar "name",.local),(ar "self",.free)]
theorem AE:cf pI (aB sx) "name" ["self","text","rows","order","kind","names","asked","chambers"] ["self","text","rows","order","kind","names","asked","chambers"]:=by nofun
abbrev wc:Stmt:=inClass (top 87) 2
theorem CV:aT ["self","name","chamber"] ["self","name","chamber"] (aB wc):=bq
abbrev kW:Stmt:=inClass (top 87) 3
theorem sy:aT ["self","name"] ["self","name"] (aB kW):=bq
abbrev KO:Stmt:=top 16
theorem CW:aT ["things","edit","places"] ["things","edit"] (aB KO):=bq
abbrev rG:Stmt:=top 17
theorem yq:aT ["things","edit"] ["things","edit"] (aB rG):=bq
abbrev KP:Stmt:=top 18
theorem xA:aT ["things","edit","kind","place","behind"] ["things","edit"] (aB KP):=bq
abbrev yt:Stmt:=top 19
theorem Et:aT ["clause"] ["clause"] (aB yt):=bq
abbrev we:Stmt:=top 20
theorem CY:aT ["words"] ["words"] (aB we):=bq
abbrev wg:Stmt:=top 32
theorem jF:aT ["told","kind"] ["told"] (aB wg):=bq
abbrev Eu:Stmt:=top 35
theorem Bi:aT ["pile","closed","bar"] ["pile","closed"] (aB Eu):=bq
abbrev ng:Stmt:=top 36
theorem AF:aT ["pile"] ["pile"] (aB ng):=bq
noncomputable abbrev lW:Scope:=fS [(ar ".0",.local),(ar "motion",.local)]
theorem xh:cf lW (aB ng) "motion" ["pile"] ["pile"]:=by nofun
abbrev ot:Stmt:=top 37
theorem lX:aT ["pile","told"] ["pile"] (aB ot):=bq
abbrev jx:Stmt:=top 38
theorem pJ:aT ["kind","pile"] ["kind","pile"] (aB jx):=bq
abbrev j9:Stmt:=top 40
theorem jy:aT ["kind","pile","closed","bar"] ["kind","pile","closed"] (aB j9):=bq
abbrev Bj:Stmt:=top 48
theorem GG:aT ["holds"] ["holds"] (aB Bj):=bq
abbrev Bk:Stmt:=top 49
theorem GH:aT ["sign"] ["sign"] (aB Bk):=bq
abbrev vd:Stmt:=top 50
theorem GI:aT ["word"] ["word"] (aB vd):=bq
noncomputable abbrev rH:Scope:=fS [(ar ".0",.local),(ar "sign",.local),(ar "is_sign",.globalImplicit)]
theorem CZ:cf rH (aB vd) "sign" ["word"] ["word"]:=by nofun
abbrev pK:Stmt:=top 51
theorem C0:aT ["word"] ["word"] (aB pK):=bq
noncomputable abbrev ou:Scope:=fS [(ar ".0",.local),(ar "sign",.local),(ar "FIGURES",.globalImplicit)]
theorem yu:cf ou (aB pK) "sign" ["word"] ["word"]:=by nofun
abbrev rJ:Stmt:=top 52
theorem yw:aT ["word"] ["word"] (aB rJ):=bq
abbrev lJ:Stmt:=top 53
theorem yx:aT ["words"] ["words"] (aB lJ):=bq
noncomputable abbrev kX:Scope:=fS [(ar ".0",.local),(ar "word",.local),(ar "is_word",.globalImplicit)]
theorem ve:cf kX (aB lJ) "word" ["words"] ["words"]:=by nofun
abbrev pL:Stmt:=top 54
theorem nh:aT ["words","clauses","word"] ["words"] (aB pL):=bq
noncomputable abbrev ox:Scope:=fS [(ar ".0",.local),(ar "clause",.local),(ar "read_clause",.globalImplicit)]
theorem yy:cf ox (aB pL) "clause" ["words","clauses","word"] ["words","clauses","word"]:=by nofun
abbrev wj:Stmt:=top 55
theorem jG:aT ["words","kind","place","thing"] ["words"] (aB wj):=bq
abbrev wm:Stmt:=top 56
theorem tW:aT ["words","edit"] ["words"] (aB wm):=bq
abbrev pM:Stmt:=top 57
theorem oy:aT ["words","sitting"] ["words"] (aB pM):=bq
abbrev wq:Stmt:=top 58
theorem jH:aT ["row","words","kind","behind"] ["row"] (aB wq):=bq
abbrev oz:Stmt:=top 59
theorem iA:aT ["text","words","clause"] ["text"] (aB oz):=bq
abbrev oB:Stmt:=top 60
theorem lY:aT ["edit","words"] ["edit"] (aB oB):=bq
abbrev ka:Stmt:=top 61
theorem oE:aT ["deed","kind"] ["deed"] (aB ka):=bq
noncomputable abbrev kf:Scope:=fS [(ar ".0",.local),(ar "number",.local),(ar "str",.globalImplicit)]
theorem tX:cf kf (aB ka) "number" ["deed","kind"] ["deed","kind"]:=by nofun
abbrev wu:Stmt:=top 62
theorem C1:aT ["deed"] ["deed"] (aB wu):=bq
abbrev Bl:Stmt:=top 64
theorem GJ:aT ["need","ayes","noes"] ["need","ayes","noes"] (aB Bl):=bq
abbrev Bm:Stmt:=top 68
theorem yA:aT ["chamber","deed","kind"] ["chamber","deed"] (aB Bm):=bq
abbrev Ew:Stmt:=top 69
theorem JE:aT ["chamber","row","number"] ["chamber","row","number"] (aB Ew):=bq
abbrev Ex:Stmt:=top 70
theorem qJ:aT ["seats","rows","chamber","number","row"] ["seats","rows"] (aB Ex):=bq
abbrev wy:Stmt:=top 71
theorem C2:aT ["one","other"] ["one","other"] (aB wy):=bq
abbrev Ey:Stmt:=top 72
theorem jW:aT ["seats","one","other","first","second","shared","place","number"] ["seats","one","other"] (aB Ey):=bq
abbrev pN:Stmt:=top 78
theorem C3:aT ["word"] ["word"] (aB pN):=bq
noncomputable abbrev oF:Scope:=fS [(ar ".0",.local),(ar "sign",.local)]
theorem yB:cf oF (aB pN) "sign" ["word"] ["word"]:=by nofun
abbrev tY:Stmt:=top 79
theorem rK:aT ["word","seats"] ["word"] (aB tY):=bq
abbrev tZ:Stmt:=top 80
theorem AG:aT ["kind","words"] ["kind","words"] (aB tZ):=bq
abbrev ua:Stmt:=top 81
theorem lK:aT ["row","words","kind"] ["row"] (aB ua):=bq
abbrev oG:Stmt:=top 82
theorem iB:aT ["rows","number","row"] ["rows"] (aB oG):=bq
abbrev wz:Stmt:=top 83
theorem C4:aT ["seats","rows","refusal"] ["seats","rows"] (aB wz):=bq
abbrev pO:Stmt:=top 85
theorem oH:aT ["one","other","number"] ["one","other"] (aB pO):=bq
abbrev wA:Stmt:=top 89
theorem C5:aT ["_law_script","_law_k"] ["_law_script","_law_k"] (aB wA):=bq
abbrev Ez:Stmt:=top 90
theorem lZ:aT ["_law_cell","_law_signs","_law_word_here","_law_k"] ["_law_cell"] (aB Ez):=bq
abbrev yC:Stmt:=top 91
theorem fI:aT ["_law_cell","_law_words_here","_law_number","_law_many","_law_k"] ["_law_cell"] (aB yC):=bq
abbrev EA:Stmt:=top 92
theorem Bo:aT ["_law_cell","_law_size","_law_thing","_law_place"] ["_law_cell","_law_size","_law_thing"] (aB EA):=bq
abbrev EB:Stmt:=top 93
theorem JF:aT ["_law_things","_law_edit_here"] ["_law_things","_law_edit_here"] (aB EB):=bq
abbrev EC:Stmt:=top 94
theorem Bp:aT ["_law_things","_law_edit_here","_law_at"] ["_law_things","_law_edit_here"] (aB EC):=bq
abbrev Bq:Stmt:=top 95
theorem GK:aT ["_law_clause_here"] ["_law_clause_here"] (aB Bq):=bq
abbrev ED:Stmt:=top 96
theorem JG:aT ["_law_kind"] ["_law_kind"] (aB ED):=bq
abbrev HQ:Stmt:=top 97
theorem KQ:aT [] [] (aB HQ):=bq
abbrev HR:Stmt:=top 98
theorem KR:aT ["_law_m","_law_number"] ["_law_m","_law_number"] (aB HR):=bq
abbrev HS:Stmt:=top 99
theorem yD:aT ["_law_m","_law_bar_here"] ["_law_m"] (aB HS):=bq
abbrev Br:Stmt:=top 100
theorem sA:aT ["_law_m","_law_motion","_law_kind","_law_top"] ["_law_m","_law_motion"] (aB Br):=bq
abbrev EE:Stmt:=top 101
theorem iC:aT ["_law_m","_law_motion","_law_matter","_law_change","_law_word_here","_law_at","_law_clause_here","_law_until"] ["_law_m","_law_motion"] (aB EE):=bq
abbrev Bs:Stmt:=top 102
theorem yE:aT ["_law_m","_law_word_here","_law_number"] ["_law_m","_law_word_here"] (aB Bs):=bq
abbrev Bt:Stmt:=top 103
theorem sC:aT ["_law_m","_law_ayes","_law_noes","_law_seats_here","_law_kept"] ["_law_m","_law_ayes","_law_noes","_law_seats_here"] (aB Bt):=bq
abbrev Bu:Stmt:=top 104
theorem sD:aT ["_law_m","_law_number","_law_until","_law_pile"] ["_law_m","_law_number"] (aB Bu):=bq
abbrev HU:Stmt:=top 105
theorem EF:aT ["_law_m","_law_deed_here","_law_seats_here","_law_lack"] ["_law_m","_law_deed_here","_law_seats_here"] (aB HU):=bq
abbrev Bv:Stmt:=top 106
theorem sE:aT ["_law_m","_law_aside","_law_number"] ["_law_m"] (aB Bv):=bq
abbrev EG:Stmt:=top 107
theorem l4:aT ["_law_cell","_law_seats_here","_law_ayes","_law_noes"] ["_law_cell","_law_seats_here"] (aB EG):=bq
abbrev yF:Stmt:=top 108
theorem wB:aT ["_law_m","_law_way","_law_top"] ["_law_m","_law_way"] (aB yF):=bq
abbrev yG:Stmt:=top 109
theorem dZ:aT ["_law_m","_law_cell","_law_seats_here","_law_way","_law_more","_law_size","_law_clause_here","_law_bottom","_law_top","_law_many"] ["_law_m","_law_cell","_law_seats_here"] (aB yG):=bq
noncomputable abbrev ub:Scope:=fS [(ar ".0",.local),(ar "_law_k",.local),(ar "_law_clause",.globalImplicit),(ar "_law_more",.free)]
theorem EH:cf ub (aB yG) "_law_k" ["_law_m","_law_cell","_law_seats_here","_law_way","_law_more","_law_size","_law_clause_here","_law_bottom","_law_top","_law_many"] ["_law_m","_law_cell","_law_seats_here","_law_way","_law_more","_law_size","_law_clause_here","_law_bottom","_law_top","_law_many"]:=by nofun
abbrev Bw:Stmt:=top 110
theorem GL:aT ["_law_cell"] ["_law_cell"] (aB Bw):=bq
abbrev EI:Stmt:=top 111
theorem vf:aT ["_law_cell","_law_k","_law_many","_law_at"] ["_law_cell","_law_k"] (aB EI):=bq
abbrev C6:Stmt:=top 112
theorem l9:aT ["_law_deed_here","_law_words_here","_law_clause_here"] ["_law_deed_here"] (aB C6):=bq
noncomputable abbrev wC:Scope:=fS [(ar ".0",.local),(ar "_law_number",.local),(ar "str",.globalImplicit)]
theorem GN:cf wC (aB C6) "_law_number" ["_law_deed_here","_law_words_here","_law_clause_here"] ["_law_deed_here","_law_words_here","_law_clause_here"]:=by nofun
abbrev Bx:Stmt:=top 113
theorem gx:aT ["_law_script","_law_seats_here","_law_m","_law_deeds","_law_cell","_law_deed_here"] ["_law_script","_law_seats_here"] (aB Bx):=bq
abbrev yH:Stmt:=top 114
theorem kY:aT ["_law_deeds","_law_cell","_law_seats_here","_law_at","_law_deed_here","_law_behind"] ["_law_deeds","_law_cell","_law_seats_here"] (aB yH):=bq
abbrev sF:Stmt:=top 115
theorem i3:aT ["_law_deeds","_law_seats_here","_law_m","_law_done","_law_looks","_law_deed_here","_law_motions"] ["_law_deeds","_law_seats_here"] (aB sF):=bq
noncomputable abbrev pP:Scope:=fS [(ar ".0",.local),(ar "_law_one",.local)]
theorem AH:cf pP (aB sF) "_law_one" ["_law_deeds","_law_seats_here","_law_m","_law_done","_law_looks","_law_deed_here","_law_motions"] ["_law_deeds","_law_seats_here","_law_m","_law_done","_law_looks","_law_deed_here","_law_motions"]:=by nofun
abbrev EJ:Stmt:=top 116
theorem By:aT ["_law_one","_law_other","_law_k"] ["_law_one","_law_other"] (aB EJ):=bq
abbrev HV:Stmt:=top 117
theorem gW:aT ["_law_script","_law_seats_here","_law_names","_law_deeds","_law_first","_law_looks","_law_second","_law_other_looks","_law_desk","_law_name_here","_law_rows","_law_text","_law_row_here","_law_due_here"] ["_law_script"] (aB HV):=bq
noncomputable abbrev Bz:Scope:=fS [(ar ".0",.local),(ar "_law_k",.local),(ar "_law_name",.globalImplicit),(ar "_law_cell_at",.globalImplicit),(ar "_law_script",.free)]
theorem KS:cf Bz (aB HV) "_law_k" ["_law_script","_law_seats_here","_law_names","_law_deeds","_law_first","_law_looks","_law_second","_law_other_looks","_law_desk","_law_name_here","_law_rows","_law_text","_law_row_here","_law_due_here"] ["_law_script","_law_seats_here","_law_names","_law_deeds","_law_first","_law_looks","_law_second","_law_other_looks","_law_desk","_law_name_here","_law_rows","_law_text","_law_row_here","_law_due_here"]:=by nofun
set_option genInjectivity false in
set_option genSizeOf false in
structure ba where
 fits:Addr
 HW:gr
 wD:Addr
 pQ:gr
 laid:Addr
 HX:gr
 pR:Addr
 i4:gr
 qK:Addr
 jI:gr
 qL:Addr
 jJ:gr
 KU:Addr
 BA:gr
 yI:Addr
 rL:gr
 rM:Addr
 mf:gr
 kZ:Addr
 i5:gr
 mh:Addr
 jz:gr
 xB:Addr
 ni:gr
 HY:Addr
 yJ:gr
 HZ:Addr
 yK:gr
 BB:Addr
 uc:gr
 pS:Addr
 kg:gr
 wF:Addr
 pT:gr
 BC:Addr
 ud:gr
 BD:Addr
 ue:gr
 BE:Addr
 uf:gr
 ug:Addr
 oI:gr
 vg:Addr
 nj:gr
 rN:Addr
 mi:gr
 rO:Addr
 mj:gr
 uh:Addr
 oJ:gr
 mq:Addr
 gX:gr
 Ia:Addr
 yL:gr
 Ib:Addr
 yM:gr
 GO:Addr
 vh:gr
 replay:Addr
 BF:gr
 BG:Addr
 ui:gr
 KW:Addr
 BH:gr
 vi:Addr
 nr:gr
 yN:Addr
 rP:gr
 yO:Addr
 rQ:gr
 sG:Addr
 lL:gr
 lN:Addr
 iD:gr
 mr:Addr
 nv:gr
 uj:Addr
 oK:gr
 vj:Addr
 ny:gr
 KY:Addr
 BI:gr
 yP:Addr
 pU:gr
 KZ:Addr
 BJ:gr
 K0:Addr
 BK:gr
 K1:Addr
 BL:gr
 C7:Addr
 sH:gr
 K2:Addr
 BM:gr
 OV:Addr
 EK:gr
 K3:Addr
 yQ:gr
 OW:Addr
 EL:gr
 Ic:Addr
 yR:gr
 K4:Addr
 BN:gr
 Ie:Addr
 yS:gr
 Ig:Addr
 yT:gr
 Ih:Addr
 yU:gr
 OX:Addr
 EM:gr
 Ii:Addr
 yV:gr
 K5:Addr
 BO:gr
 EN:Addr
 wG:gr
 K6:Addr
 BP:gr
 Ik:Addr
 yW:gr
 K7:Addr
 BQ:gr
 K8:Addr
 yX:gr
 Il:Addr
 yY:gr
 EO:Addr
 wH:gr
 ER:Addr
 wI:gr
 K9:Addr
 BR:gr
 law:Addr
 La:gr
 GP:Tok
 xi:Tok
 AI:Tok
 xj:Tok
 GQ:Tok
 C8:Addr
 AJ:Tok
 xk:Tok
 AK:Tok
 k9:Addr
 iP:Addr
 c0:Addr
 c1:Addr
 c2:Addr
 c3:Addr
 c4:Addr
 c5:Addr
 c6:Addr
 c7:Addr
 tab:Addr
 P1:Addr
 Lb:gr
 P2:Addr
 Lc:gr
 P4:Addr
 Ld:gr
 P5:Addr
 Le:gr
 P6:Addr
 Lf:gr
 P7:Addr
 Lg:gr
 P8:Addr
 Lh:gr
 P9:Addr
 Lj:gr
 f_r:Addr
 Nz:gr
 f_n:Addr
 C9:gr
 Qa:Addr
 Ll:gr
 f_t:Addr
 Lm:gr
 Qb:Addr
 Ln:gr
 Qc:Addr
 Lo:gr
 Qd:Addr
 Lp:gr
 Qe:Addr
 Lq:gr
 Qf:Addr
 Lr:gr
 Qg:Addr
 Ls:gr
 Qh:Addr
 Lu:gr
 Qi:Addr
 Lv:gr
 Qj:Addr
 Lw:gr
 Qk:Addr
 Lx:gr
 aX:Addr
 kh:Addr
 jk:gr
 kj:Addr
 jm:gr
 km:Addr
 jn:gr
 ko:Addr
 jo:gr
 kq:Addr
 jq:gr
 gv:Addr
 fY:gr
 iE:Addr
 gY:gr
 d4:Addr
 dW:gr
 fE:Addr
 e7:gr
 gZ:Addr
 gy:gr
 fJ:Addr
 fj:gr
 dJ:Addr
 dj:gr
 d7:Addr
 d3:gr
 iF:Addr
 g0:gr
 e9:Addr
 eP:gr
 gh:Addr
 fK:gr
 eQ:Addr
 eG:gr
 eR:Addr
 eI:gr
 gi:Addr
 fL:gr
 fM:Addr
 pV:Addr
 nz:gr
 nA:Addr
 lb:gr
 pW:Addr
 nB:gr
 hG:Addr
 gz:gr
noncomputable def ba.C (A:ba):Nat->Addr
 | 0=>A.c0
 | 1=>A.c1
 | 2=>A.c2
 | 3=>A.c3
 | 4=>A.c4
 | 5=>A.c5
 | 6=>A.c6
 |_=>A.c7
noncomputable def ba.fk (A:ba):Nat->Addr
 | 0=>A.P1
 | 1=>A.P2
 | 2=>A.P4
 | 3=>A.P5
 | 4=>A.P6
 | 5=>A.P7
 | 6=>A.P8
 |_=>A.P9
noncomputable def ba.fkd (A:ba):Nat->gr
 | 0=>A.Lb
 | 1=>A.Lc
 | 2=>A.Ld
 | 3=>A.Le
 | 4=>A.Lf
 | 5=>A.Lg
 | 6=>A.Lh
 |_=>A.Lj
noncomputable def ba.fn (A:ba):Nat->Addr
 | 0=>A.f_n
 | 1=>A.f_n
 | 2=>A.f_n
 | 3=>A.f_n
 | 4=>A.Qa
 | 5=>A.f_n
 | 6=>A.f_n
 |_=>A.f_n
noncomputable def ba.fnd (A:ba):Nat->gr
 | 0=>A.C9
 | 1=>A.C9
 | 2=>A.C9
 | 3=>A.C9
 | 4=>A.Ll
 | 5=>A.C9
 | 6=>A.C9
 |_=>A.C9
noncomputable def ba.ft (A:ba):Nat->Addr
 | 0=>A.Qb
 | 1=>A.Qc
 | 2=>A.Qd
 | 3=>A.Qe
 | 4=>A.f_t
 | 5=>A.f_t
 | 6=>A.f_t
 |_=>A.Qf
noncomputable def ba.ftd (A:ba):Nat->gr
 | 0=>A.Ln
 | 1=>A.Lo
 | 2=>A.Lp
 | 3=>A.Lq
 | 4=>A.Lm
 | 5=>A.Lm
 | 6=>A.Lm
 |_=>A.Lr
noncomputable def nm:Nat->Str
 | 0=>ar "matter"
 | 1=>ar "change"
 | 2=>ar "mend"
 | 3=>ar "put off"
 | 4=>ar "close"
 | 5=>ar "lay"
 | 6=>ar "rest"
 |_=>ar "point"
structure Txt (P:Params)(K:de)(mg:Str->Option Value)(A:ba):Prop where
 Ly:FnG K mg "fits" KO A.fits A.HW ["things","edit"]
 iQ:FnG K mg "require_fit" rG A.wD A.pQ ["things","edit"]
 GR:FnG K mg "laid" KP A.laid A.HX ["things","edit"]
 iG:FnG K mg "words_of" yt A.pR A.i4 ["clause"]
 lg:FnG K mg "clause_of" we A.qK A.jI ["words"]
 pX:FnG K mg "motion_of" wg A.qL A.jJ ["told"]
 ES:FnG K mg "bar_of" Eu A.KU A.BA ["pile","closed"]
 nE:FnG K mg "has_matter" ng A.yI A.rL ["pile"]
 oO:FnG K mg "can_be_mended" ot A.rM A.mf ["pile"]
 jA:FnG K mg "has_what_it_needs" jx A.kZ A.i5 ["kind","pile"]
 kr:FnG K mg "require_in_order" j9 A.mh A.jz ["kind","pile","closed"]
 cH:FnG K mg "require" Bj A.xB A.ni ["holds"]
 BS:FnG K mg "is_sign" Bk A.HY A.yJ ["sign"]
 BU:FnG K mg "is_word" vd A.HZ A.yK ["word"]
 wJ:FnG K mg "is_number" pK A.BB A.uc ["word"]
 eJ:FnG K mg "read_number" rJ A.pS A.kg ["word"]
 iR:FnG K mg "read_clause" lJ A.wF A.pT ["words"]
 wK:FnG K mg "read_text" pL A.BC A.ud ["words"]
 pY:FnG K mg "read_edit" wj A.BD A.ue ["words"]
 wL:FnG K mg "read_mend" wm A.BE A.uf ["words"]
 pZ:FnG K mg "read_sitting" pM A.ug A.oI ["words"]
 wM:FnG K mg "read_deed" wq A.vg A.nj ["row"]
 oQ:FnG K mg "words_of_text" oz A.rN A.mi ["text"]
 oR:FnG K mg "words_of_edit" oB A.rO A.mj ["edit"]
 p6:FnG K mg "words_behind" ka A.uh A.oJ ["deed"]
 lh:FnG K mg "show_deed" wu A.mq A.gX ["deed"]
 BV:FnG K mg "is_kept" Bl A.Ia A.yL ["need","ayes","noes"]
 BW:FnG K mg "do_deed" Bm A.Ib A.yM ["chamber","deed"]
 uk:FnG K mg "do_row" Ew A.GO A.vh ["chamber","row","number"]
 um:FnG K mg "replay" Ex A.replay A.BF ["seats","rows"]
 wN:FnG K mg "are_alike" wy A.BG A.ui ["one","other"]
 ET:FnG K mg "parted" Ey A.KW A.BH ["seats","one","other"]
 lj:FnG K mg "read_name" pN A.vi A.nr ["word"]
 uo:FnG K mg "read_seats" tY A.yN A.rP ["word"]
 uq:FnG K mg "read_asked" tZ A.yO A.rQ ["kind","words"]
 ur:FnG K mg "read_order" ua A.sG A.lL ["row"]
 oS:FnG K mg "require_blank" oG A.lN A.iD ["rows"]
 wO:FnG K mg "read_back" wz A.mr A.nv ["seats","rows"]
 p7:FnG K mg "show_parting" pO A.uj A.oK ["one","other"]
 ll:FnG K mg "_law_cell_at" wA A.vj A.ny ["_law_script","_law_k"]
 yZ:FnG K mg "_law_word" Ez A.KY A.BI ["_law_cell"]
 nF:FnG K mg "_law_clause" yC A.yP A.pU ["_law_cell"]
 y6:FnG K mg "_law_edit" EA A.KZ A.BJ ["_law_cell","_law_size","_law_thing"]
 y7:FnG K mg "_law_fits" EB A.K0 A.BK ["_law_things","_law_edit_here"]
 y9:FnG K mg "_law_laid" EC A.K1 A.BL ["_law_things","_law_edit_here"]
 iH:FnG K mg "_law_words" Bq A.C7 A.sH ["_law_clause_here"]
 zb:FnG K mg "_law_rank" ED A.K2 A.BM ["_law_kind"]
 nG:FnG K mg "_law_new" HQ A.OV A.EK []
 iS:FnG K mg "_law_now" HR A.K3 A.yQ ["_law_m","_law_number"]
 xC:FnG K mg "_law_bar" HS A.OW A.EL ["_law_m"]
 BX:FnG K mg "_law_lacks" Br A.Ic A.yR ["_law_m","_law_motion"]
 EU:FnG K mg "_law_keep" EE A.K4 A.BN ["_law_m","_law_motion"]
 vk:FnG K mg "_law_ended" Bs A.Ie A.yS ["_law_m","_law_word_here"]
 BY:FnG K mg "_law_voted" Bt A.Ig A.yT ["_law_m","_law_ayes","_law_noes","_law_seats_here"]
 BZ:FnG K mg "_law_taken" Bu A.Ih A.yU ["_law_m","_law_number"]
 Dc:FnG K mg "_law_due" HU A.OX A.EM ["_law_m","_law_deed_here","_law_seats_here"]
 B0:FnG K mg "_law_state" Bv A.Ii A.yV ["_law_m"]
 zc:FnG K mg "_law_vote" EG A.K5 A.BO ["_law_cell","_law_seats_here"]
 zd:FnG K mg "_law_guided" yF A.EN A.wG ["_law_m","_law_way"]
 EV:FnG K mg "_law_deed" yG A.K6 A.BP ["_law_m","_law_cell","_law_seats_here"]
 B1:FnG K mg "_law_seats" Bw A.Ik A.yW ["_law_cell"]
 EW:FnG K mg "_law_name" EI A.K7 A.BQ ["_law_cell","_law_k"]
 Im:FnG K mg "_law_row" C6 A.K8 A.yX ["_law_deed_here"]
 B2:FnG K mg "_law_drawn" Bx A.Il A.yY ["_law_script","_law_seats_here"]
 ze:FnG K mg "_law_turned" yH A.EO A.wH ["_law_deeds","_law_cell","_law_seats_here"]
 sI:FnG K mg "_law_walked" sF A.ER A.wI ["_law_deeds","_law_seats_here"]
 EX:FnG K mg "_law_part" EJ A.K9 A.BR ["_law_one","_law_other"]
 Sb:mg "law"=some (.ref A.law)
 Sd:Fun K "law" "law" HV A.law A.La
 Se:∀(s:Shared) (v:Value),BindsTo s A.La ⟨[v],[]⟩ [("_law_script",v)]
 qM:mg "range"=none
 ku:mg "list"=none
 NA:mg "isinstance"=none
 dS:mg "len"=none
 B3:mg "max"=none
 Sf:mg "any"=none
 Io:mg "all"=none
 wQ:mg "str"=none
 zf:mg "sorted"=none
 Lz:mg "int"=none
 NB:mg "ValueError"=none
 TX:mg "bool"=none
 LA:mg "min"=none
 Sg:mg "ord"=none
 wR:mg "enumerate"=none
 UE:mg "sum"=none
 JH:mg "FIGURES"=some (.str (ar "0123456789") A.GP)
 zg:mg "MOST_FIGURES"=some (.int 10 A.xi)
 De:mg "MOST_SIGNS"=some (.int 20 A.AI)
 zh:mg "LAST_SITTING"=some (.int 999999999 A.xj)
 JI:mg "PERCENT"=some (.int 37 A.GQ)
 Ql:mg "LONE"=some (.ref A.C8)
 Qm:∀H,aW K H A.C8 [.str (ar "close"),.str (ar "lay"),.str (ar "rest"),.str (ar "drop")]
 Df:mg "CLOSED_BAR"=some (.int 4 A.AJ)
 zj:mg "MOST_LETTERS"=some (.int 12 A.xk)
 Dg:mg "MOST_SEATS"=some (.int 1000000000 A.AK)
 EY:mg "WITH_NAME"=some (.ref A.k9)
 EZ:∀H,aW K H A.k9 [.str (ar "order"),.str (ar "state"),.str (ar "minutes")]
 AL:mg "WITH_NUMBER"=some (.ref A.iP)
 AM:∀H,aW K H A.iP [.str (ar "open"),.str (ar "read"),.str (ar "text")]
 zk:mg "Matter"=some (.ref (A.C 0))
 zm:mg "Change"=some (.ref (A.C 1))
 LB:mg "Mend"=some (.ref (A.C 2))
 E1:mg "PutOff"=some (.ref (A.C 3))
 Ip:mg "Close"=some (.ref (A.C 4))
 OY:mg "Lay"=some (.ref (A.C 5))
 LC:mg "Rest"=some (.ref (A.C 6))
 Iq:mg "Point"=some (.ref (A.C 7))
 cl:∀k,k < 8->Cls K (A.C k)
 Ir:mg "RANKS"=some (.ref A.tab)
 tb:PN P K A.tab
 rk:∀k,k < 8->∃t,PySem.W.nsIn K A.tab (nm k)=some (some (.int k t))
 nH:∀k,k < 8->gK K (A.C k) "kind" (A.fk k)
 Qn:∀k,k < 8->gK K (A.C k) "need" (A.fn k)
 LD:∀k,k < 8->gK K (A.C k) "told" (A.ft k)
 Qo:∀k,k < 8->gK K (A.C k) "rank" A.f_r
 zo:Mk K (A.C 0) A.Qg
 zq:Mk K (A.C 1) A.Qh
 LF:Mk K (A.C 2) A.Qi
 E2:Mk K (A.C 3) A.Qj
 Iu:Mk K (A.C 7) A.Qk
 TY:Fun K "kind" "Matter.kind" rh A.P1 A.Lb
 TZ:Fun K "kind" "Change.kind" rj A.P2 A.Lc
 T1:Fun K "kind" "Mend.kind" vW A.P4 A.Ld
 T2:Fun K "kind" "PutOff.kind" rl A.P5 A.Le
 T3:Fun K "kind" "Close.kind" tN A.P6 A.Lf
 T4:Fun K "kind" "Lay.kind" yf A.P7 A.Lg
 T5:Fun K "kind" "Rest.kind" vX A.P8 A.Lh
 T6:Fun K "kind" "Point.kind" tO A.P9 A.Lj
 F_r:Fun K "rank" "Motion.rank" rn A.f_r A.Nz
 F_n:Fun K "need" "Motion.need" rp A.f_n A.C9
 T7:Fun K "need" "Close.need" tP A.Qa A.Ll
 F_t:Fun K "told" "Motion.told" rq A.f_t A.Lm
 T8:Fun K "told" "Matter.told" rz A.Qb A.Ln
 T9:Fun K "told" "Change.told" rA A.Qc A.Lo
 Ua:Fun K "told" "Mend.told" vY A.Qd A.Lp
 Ub:Fun K "told" "PutOff.told" rB A.Qe A.Lq
 Uc:Fun K "told" "Point.told" tQ A.Qf A.Lr
 Ud:Fun K "__init__" "Matter.__init__" rC A.Qg A.Ls
 Ue:Fun K "__init__" "Change.__init__" rD A.Qh A.Lu
 Ug:Fun K "__init__" "Mend.__init__" vZ A.Qi A.Lv
 Uh:Fun K "__init__" "PutOff.__init__" rF A.Qj A.Lw
 Ui:Fun K "__init__" "Point.__init__" tS A.Qk A.Lx
 nI:∀k,k < 8->bJ K (A.fkd k) ["self"] []
 Qp:∀k,k < 8->bJ K (A.fnd k) ["self"] []
 LG:∀k,k < 8->bJ K (A.ftd k) ["self"] []
 Qq:∀k,k < 8->bJ K A.Nz ["self"] []
 Qr:bJ K A.Ls ["self","text"] []
 na0:dO K (A.C 0) "text"
 Qs:bJ K A.Lu ["self","edit"] []
 na1:dO K (A.C 1) "edit"
 Si:bJ K A.Lv ["self","edit"] []
 na2:dO K (A.C 2) "edit"
 Sj:bJ K A.Lw ["self","sitting"] []
 na3:dO K (A.C 3) "sitting"
 Sk:bJ K A.Lx ["self","clause"] []
 na7:dO K (A.C 7) "clause"
 mkn:∀k,k=4\/k=5\/k=6->MkN K (A.C k)
 vm:mg "Chamber"=some (.ref A.aX)
 aH:Cls K A.aX
 vn:Mk K A.aX A.kh
 zr:Fun K "__init__" "Chamber.__init__" pA A.kh A.jk
 ky:bJ K A.jk ["self","seats"] []
 zt:gK K A.aX "move" A.kj
 zu:Fun K "move" "Chamber.move" pB A.kj A.jm
 zv:bJ K A.jm ["self","told"] []
 zw:gK K A.aX "vote" A.km
 zx:Fun K "vote" "Chamber.vote" pD A.km A.jn
 zy:bJ K A.jn ["self","ayes","noes"] []
 zA:gK K A.aX "drop" A.ko
 zB:Fun K "drop" "Chamber.drop" pE A.ko A.jo
 zC:bJ K A.jo ["self"] []
 zD:gK K A.aX "take" A.kq
 zE:Fun K "take" "Chamber.take" pF A.kq A.jq
 zF:bJ K A.jq ["self","number"] []
 oU:gK K A.aX "state" A.gv
 xl:Fun K "state" "Chamber.state" jj A.gv A.fY
 oV:bJ K A.fY ["self"] []
 vo:gK K A.aX "motion" A.iE
 vp:Fun K "motion" "Chamber.motion" lT A.iE A.gY
 vq:bJ K A.gY ["self","number"] []
 iq:gK K A.aX "all_motions" A.d4
 o6:Fun K "all_motions" "Chamber.all_motions" fh A.d4 A.dW
 ir:bJ K A.dW ["self"] []
 lq:gK K A.aX "minutes" A.fE
 uv:Fun K "minutes" "Chamber.minutes" kU A.fE A.e7
 lu:bJ K A.e7 ["self"] []
 uw:gK K A.aX "pending" A.gZ
 ux:Fun K "pending" "Chamber.pending" gT A.gZ A.gy
 uy:bJ K A.gy ["self"] []
 p8:gK K A.aX "told_aside" A.fJ
 p9:Fun K "told_aside" "Chamber.told_aside" iY A.fJ A.fj
 qa:bJ K A.fj ["self","number"] []
 i6:gK K A.aX "require_can_be_made" A.dJ
 i7:Fun K "require_can_be_made" "Chamber.require_can_be_made" eU A.dJ A.dj
 i8:bJ K A.dj ["self","told"] []
 gb:gK K A.aX "require_pending" A.d7
 kN:Fun K "require_pending" "Chamber.require_pending" f7 A.d7 A.d3
 gf:bJ K A.d3 ["self"] []
 mw:gK K A.aX "decide" A.iF
 vv:Fun K "decide" "Chamber.decide" lU A.iF A.g0
 mx:bJ K A.g0 ["self","word"] []
 hJ:gK K A.aX "end_decision" A.e9
 nJ:Fun K "end_decision" "Chamber.end_decision" gU A.e9 A.eP
 hU:bJ K A.eP ["self","deed"] []
 qW:gK K A.aX "carry_out" A.gh
 qX:Fun K "carry_out" "Chamber.carry_out" jv A.gh A.fK
 qY:bJ K A.fK ["self","motion"] []
 my:gK K A.aX "lay_on_matter" A.eQ
 mz:Fun K "lay_on_matter" "Chamber.lay_on_matter" gF A.eQ A.eG
 mB:bJ K A.eG ["self","edit"] []
 mC:gK K A.aX "lay_on_change" A.eR
 mD:Fun K "lay_on_change" "Chamber.lay_on_change" gG A.eR A.eI
 mE:bJ K A.eI ["self","edit"] []
 jB:gK K A.aX "put_aside" A.gi
 qZ:Fun K "put_aside" "Chamber.put_aside" jw A.gi A.fL
 jC:bJ K A.fL ["self","until"] []
 eS:dO K A.aX "seats"
 cP:dO K A.aX "sitting"
 eu:dO K A.aX "closed"
 bX:dO K A.aX "made"
 bQ:dO K A.aX "pile"
 dn:dO K A.aX "aside"
 gA:dO K A.aX "decided"
 hV:dO K A.aX "first_texts"
 fq:dO K A.aX "edits_kept"
 d8:dO K A.aX "rows"
 Qt:mg "Desk"=some (.ref A.fM)
 jK:Cls K A.fM
 Qu:Mk K A.fM A.pV
 E3:Fun K "__init__" "Desk.__init__" wb A.pV A.nz
 E4:bJ K A.nz ["self"] []
 sJ:gK K A.fM "say" A.nA
 GS:Fun K "say" "Desk.say" sx A.nA A.lb
 sL:bJ K A.lb ["self","text"] []
 E5:gK K A.fM "keep" A.pW
 E6:Fun K "keep" "Desk.keep" wc A.pW A.nB
 E7:bJ K A.nB ["self","name","chamber"] []
 uz:gK K A.fM "chamber_of" A.hG
 uA:Fun K "chamber_of" "Desk.chamber_of" kW A.hG A.gz
 uB:bJ K A.gz ["self","name"] []
 fZ:dO K A.fM "chambers"
theorem sl (n:Nat)(h:n<=64:=by decide):n<=fu:=Vc h (by decide)
def Asc (x:Str):Prop:=∀c∈x.cps.toList,c < 128
theorem Asc.ok {x:Str}(h:Asc x):Vu x=true:=by
 unfold Vu;rw[Array.all_eq_true];intro i hi;have:=h x.cps[i] (by simp)
 exact bG (by omega)
theorem kz {sep:Str}(hs:Asc sep):∀ws:List Str,(∀w∈ws,Asc w)->Asc (kx sep ws)
 |[],_=>λc hc=>by
  have:c∈([]:List Nat):=hc;cases this
 |[x],h=>h x eg
 |x::y::r,h=>λc hc=>by
  have hc':c∈((x++sep)++kx sep (y::r)).cps.toList:=hc;rw[cO,cO,Wq,Wq]at hc';rcases hc' with (h1 | h1) | h1
  ·exact h x eg c h1
  ·exact hs c h1
  exact kz hs (y::r) (λw hw=>h w (ma _ hw)) c h1
structure Sh (n:Nat)(x:Str):Prop where
 asc:Asc x
 len:x.length<=n
structure Ed where
 k:Nat
 at_:Int
 th:Str
noncomputable def kn:Nat->Str
 | 0=>ar "put"
 | 1=>ar "cut"
 |_=>ar "turn"
def fF (e:Ed):List V:=match e.k with
 | 0=>[.str (kn 0),.int e.at_,.str e.th]
 | 1=>[.str (kn 1),.int e.at_]
 |_=>[.str (kn 2),.int e.at_,.str e.th]
def edD (e:Ed):PyData:=match e.k with
 | 0=>.tuple [.str (kn 0),.int e.at_,.str e.th]
 | 1=>.tuple [.str (kn 1),.int e.at_]
 |_=>.tuple [.str (kn 2),.int e.at_,.str e.th]
structure q0 (e:Ed):Prop where
 k3:e.k=0\/e.k=1\/e.k=2
 lo:-9999999999<=e.at_
 hi:e.at_<=9999999999
 th:Sh 100000 e.th
noncomputable def gI (n:Nat)(e:Ed):Bool:=decide (0<=e.at_) && decide (e.at_ < (n:Int)+(if e.k=0 then 1 else 0))
noncomputable def bZ (xs:List Str)(e:Ed):List Str:=match e.k with
 | 0=>xs.take e.at_.toNat++e.th::xs.drop e.at_.toNat
 | 1=>xs.eraseIdx e.at_.toNat
 |_=>xs.set e.at_.toNat e.th
theorem lO (e:Ed):atI (fF e) 0=some (.str (kn e.k)):=by
 unfold fF;split
 ·rename_i h;rw[h];rfl
 ·rename_i h;rw[h];rfl
 rename_i h1 h2;have:kn e.k=kn 2:=by
  unfold kn;split
  ·rename_i h;exact absurd h h1
  ·rename_i h;exact absurd h h2
  rfl
 rw[this];rfl
theorem sM (e:Ed):atI (fF e) 1=some (.int e.at_):=by
 unfold fF;split <;> rfl
theorem sN {e:Ed}(h:e.k≠1):atI (fF e) 2=some (.str e.th):=by
 unfold fF;split
 ·rfl
 ·rename_i z;exact absurd z h
 rfl
theorem LH (e:Ed){K:de}{H:Hp}{t:Addr}(h:aW K H t (fF e)):DV K H (edD e) (.ref t):=by
 unfold fF at h;unfold edD;split
 ·rename_i z;rw[z]at h;unfold DV;exact⟨t,_,rfl,h,by unfold bC;exact⟨_,_,rfl,by unfold DV;rfl,by unfold bC;exact⟨_,_,rfl,by unfold DV;rfl,by unfold bC;exact⟨_,_,rfl,by unfold DV;rfl,by unfold bC;rfl⟩⟩⟩⟩
 ·rename_i z;rw[z]at h;unfold DV;exact⟨t,_,rfl,h,by unfold bC;exact⟨_,_,rfl,by unfold DV;rfl,by unfold bC;exact⟨_,_,rfl,by unfold DV;rfl,by unfold bC;rfl⟩⟩⟩
 rename_i z1 z2;split at h
 ·rename_i z;exact absurd z z1
 ·rename_i z;exact absurd z z2
 unfold DV;exact⟨t,_,rfl,h,by unfold bC;exact⟨_,_,rfl,by unfold DV;rfl,by unfold bC;exact⟨_,_,rfl,by unfold DV;rfl,by unfold bC;exact⟨_,_,rfl,by unfold DV;rfl,by unfold bC;rfl⟩⟩⟩⟩
theorem vw {e:Ed}(o:q0 e):(V.str (kn e.k)=V.str (ar "put"))↔e.k=0:=by
 rcases o.k3 with h | h | h <;> rw[h] <;> trivial
theorem qb {e:Ed}(o:q0 e):(V.str (kn e.k)=V.str (ar "cut"))↔e.k=1:=by
 rcases o.k3 with h | h | h <;> rw[h] <;> trivial
theorem Iv {e:Ed}(o:q0 e):(V.str (kn e.k)=V.str (ar "turn"))↔e.k=2:=by
 rcases o.k3 with h | h | h <;> rw[h] <;> trivial
def LI (K:de):Sp:=λvs H Q _=>∃(a t:Addr) (xs:List V) (e:Ed),vs=[.ref a,.ref t]/\ay K H a xs/\aW K H t (fF e)/\q0 e/\Q (.bl (gI xs.length e)) H
def Sl (A:ba)(K:de):Sp:=λvs H Q _=>∃(a t:Addr) (xs:List V) (e:Ed),vs=[.ref a,.ref t]/\ay K H a xs/\aW K H t (fF e)/\q0 e/\gI xs.length e=true/\Q .non H
def Qv (A:ba)(K:de):Sp:=λvs H Q _=>∃(a t:Addr) (xs:List Str) (e:Ed),vs=[.ref a,.ref t]/\ay K H a (xs.map V.str)/\xs.length<=1000/\aW K H t (fF e)/\q0 e /\
 gI xs.length e=true/\∀p,H p=none->Q (.ref p) (ag H p (.lst ((bZ xs e).map V.str)))
theorem zG {n:Nat}{e:Ed}:gI n e=true↔0<=e.at_/\e.at_ < (n:Int)+(if e.k=0 then 1 else 0):=by
 unfold gI;rw[U3,decide_eq_true_iff,decide_eq_true_iff]
variable{P:wt}{w:World}{K:de}{mg:Str->Option Value}{base:Heap}{A:ba}
theorem LJ {H H':Hp}{t:Addr}{xs:List V}(s:bh H H')(h:aW K H t xs):aW K H' t xs:=by
 rcases h with (h | ⟨o,h⟩) | h
 ·exact .inl (.inl (s _ _ h))
 ·exact .inl (.inr ⟨o,s _ _ h⟩)
 exact .inr h
theorem NC (T:Txt w.params K mg A):aC P w K mg base a5 1 A.fits A.HW ["things","edit"] (LI K):=by
 refine T.Ly.F.ok CW (by left) λ_ _ _ _ H _ Q E hr h=>?_
 obtain⟨a,t,xs,e,rfl,ha,ht,o,q⟩:=h;refine⟨_,(ah (aV (i:=2) CW.nd (bA bF (by rfl) T.dS cC (aa (pv 0) ai)))
 (ah (bf (aI bz (aO aY (pv 1) aj) au (aL _))
 (ao (aV (i:=2) CW.nd (bb cT (pv 2) aj)))
 aK)
 (ao (aG (gP iU oh aj (aO aY (pv 1) aj) (pv 2)))))),?_⟩
 symm;refine⟨_,rfl,a,xs,rfl,.inl ha,?_⟩;refine a8 rfl ht (lO e) ⟨rfl,_,rfl,dg (λz=>?_) (λz=>?_)⟩
 ·have hk:e.k=0:=(vw o).mp (eM z);refine⟨_,rfl,_,_,rfl,rfl,?_⟩;unfold gI at q;rw[bp hk]at q;refine a8 rfl ht (sM e) ⟨_,_,rfl,rfl,_,rfl,dg (λz1=>?_) (λz1=>?_)⟩
  ·have h1:0<=e.at_:=eM z1;rw[bG h1,Bool.true_and]at q;exact⟨_,rfl,_,_,rfl,rfl,q⟩
  have h1:¬0<=e.at_:=λy=>z1 (bG y)
  rw[bV h1,Bool.false_and]at q;exact q
 have hk:¬e.k=0:=λy=>z (bG ((vw o).mpr y))
 unfold gI at q;rw[aZ hk,Int.add_zero]at q;refine a8 rfl ht (sM e) ⟨_,_,rfl,rfl,_,rfl,dg (λz1=>?_) (λz1=>?_)⟩
 ·have h1:0<=e.at_:=eM z1;rw[bG h1,Bool.true_and]at q;exact⟨_,rfl,_,_,rfl,rfl,q⟩
 have h1:¬0<=e.at_:=λy=>z1 (bG y)
 rw[bV h1,Bool.false_and]at q;exact q
theorem kA (T:Txt w.params K mg A):aC P w K mg base a5 2 A.wD A.pQ ["things","edit"] (Sl A K):=by
 refine T.iQ.F.ok yq (by left) λ_ _ _ _ H _ Q E hr h=>?_
 obtain⟨a,t,xs,e,rfl,ha,ht,o,hf,q⟩:=h;refine⟨_,(ao (bf (mT (lH (az (NC T) hr T.Ly (aa (pv 0) (aa (pv 1) ai)))))
 (ao ps_dead)
 aK)),?_⟩
 symm;refine⟨_,rfl,_,rfl,a,t,xs,e,rfl,ha,ht,o,_,rfl,?_⟩;rw[hf];exact b8 q
theorem Iw (T:Txt w.params K mg A):aC P w K mg base a5 3 A.laid A.HX ["things","edit"] (Qv A K):=by
 refine T.GR.F.ok xA (by left) λ_ _ _ _ H _ Q E hr h=>?_
 obtain⟨a,t,xs,e,rfl,ha,hz,ht,o,hf,q1⟩:=h;refine⟨_,(ah (bw (az (kA T) hr T.iQ (aa (pv 0) (aa (pv 1) ai))))
 (ah (aV (i:=2) xA.nd (aO aY (pv 1) aj))
 (ah (aV (i:=3) xA.nd (aO aY (pv 1) aj))
 (ah (aV (i:=4) xA.nd (cc cW (by rfl) T.ku gQ (aa (pv 0) ai)))
 (ah (bf (aI bz (pv 2) au (aL _))
 (ao (bw (dE tu PySem.F.slot_list_insert PySem.F.type_list_insert Jz (pv 4) (aa (pv 3) (aa (aO aY (pv 1) aj) ai)))))
 (ao (bf (aI bz (pv 2) au (aL _))
 (ao (bw (dE tu PySem.F.slot_list_pop PySem.F.type_list_pop Kx (pv 4) (aa (pv 3) ai))))
 (ao (rZ (aO aY (pv 1) aj) (F5 (pv 4) (pv 3) set_list))))))
 (ao (aG (pv 4)))))))),?_⟩
 symm;refine⟨_,rfl,_,rfl,a,t,_,e,rfl,ha,ht,o,(by rw[bo];exact hf),?_⟩
 refine aS λGa hGa=>?_
 obtain⟨f0,f1⟩:=zG.mp hf;have q:=q1;have lim:(1001:Nat) < fu:=by decide
 obtain⟨n,hn⟩:∃n:Nat,e.at_=(n:Int):=⟨e.at_.toNat,by omega⟩
 refine hGa ?_;refine a8 rfl ht (lO e) ?_;refine a8 rfl ht (sM e) ?_;refine⟨_,rfl,a,_,rfl,.inl ha,λp hp=>?_⟩
 have sp:bh H (ag H p (.lst (xs.map V.str))):=aw hp;have ht':=LJ sp ht;have q:=q p hp;rw[hn];rw[hn]at f1;refine⟨_,rfl,rfl,_,rfl,dg (λz=>?_) (λz=>?_)⟩
 ·have hk:e.k=0:=(vw o).mp (eM z);rw[bp hk]at f1;refine⟨_,rfl,.inl ⟨rfl,_,ay.of ae⟩,_,rfl,a8 rfl ht' (sN (by omega)) ⟨p,_,_,n,_,rfl,rfl,rfl,ae,(by rw[bo];omega),(by rw[bo];omega),?_⟩⟩
  rw[gM];refine⟨_,rfl,?_⟩;have e1:(bZ xs e).map V.str=(xs.map V.str).take n++V.str e.th::(xs.map V.str).drop n:=by
   unfold bZ;rw[hk,hn];simp
  rw[e1]at q;exact q
 have hk0:¬e.k=0:=λy=>z (bG ((vw o).mpr y))
 rw[aZ hk0,Int.add_zero]at f1;have hlt:n < xs.length:=by omega
 refine⟨_,rfl,rfl,_,rfl,dg (λz2=>?_) (λz2=>?_)⟩
 ·have hk:e.k=1:=(qb o).mp (eM z2);refine⟨_,rfl,.inl ⟨rfl,_,ay.of ae⟩,_,rfl,p,_,(n:Int),n,_,rfl,rfl,ae,by omega,by omega,?_,(by rw[wa (by rw[bo];exact hlt)]),?_⟩
  ·rw[bo];exact(CH (by unfold ixN;rw[bp (by omega),bp (by omega)];rfl)).1
  rw[gM];refine⟨_,rfl,?_⟩;have e1:(bZ xs e).map V.str=(xs.map V.str).eraseIdx n:=by
   unfold bZ;rw[hk,hn];exact Bd V.str xs _
  rw[e1]at q;exact q
 have hk1:¬e.k=1:=λy=>z2 (bG ((qb o).mpr y))
 have hk:e.k=2:=by have:=o.k3;omega
 refine a8 rfl ht' (sN (by omega)) ⟨_,rfl,_,rfl,p,_,(n:Int),n,rfl,rfl,ae,?_,?_⟩
 ·rw[bo];unfold ixN;rw[bp (by omega),bp (by omega)];rfl
 rw[gM];refine⟨_,rfl,?_⟩;have e1:(bZ xs e).map V.str=(xs.map V.str).set n (V.str e.th):=by
  unfold bZ;rw[hk,hn];simp[List.map_set]
 rw[e1]at q;exact q
theorem wU:∀k,k < 8->Vu (nm k)=true
 | 0,_=>by trivial
 | 1,_=>by trivial
 | 2,_=>by trivial
 | 3,_=>by trivial
 | 4,_=>by trivial
 | 5,_=>by trivial
 | 6,_=>by trivial
 | 7,_=>by trivial
 |n+8,h=>absurd h (by omega)
noncomputable def nd (k:Nat):Str:=if k=4 then ar "two thirds" else ar "more"
def rowOf (k:Nat)(v:V):List V:=match k with
 | 4=>[.str (nm 4)]
 | 5=>[.str (nm 5)]
 | 6=>[.str (nm 6)]
 |k=>[.str (nm k),v]
noncomputable def mF (k:Nat)(v:V):List (Str×V):=match k with
 | 0=>[(ar "text",v)]
 | 1=>[(ar "edit",v)]
 | 2=>[(ar "edit",v)]
 | 3=>[(ar "sitting",v)]
 | 4=>[]
 | 5=>[]
 | 6=>[]
 |_=>[(ar "clause",v)]
theorem Iy {m:Str}(h:m≠ar "text"/\m≠ar "edit"/\m≠ar "sitting"/\m≠ar "clause")(k:Nat)(v:V):(mF k v).lookup m=none:=by
 obtain⟨h1,h2,h3,h4⟩:=h;have b1:(m == ar "text")=false:=beq_eq_false_iff_ne.mpr h1;have b2:(m == ar "edit")=false:=beq_eq_false_iff_ne.mpr h2;have b3:(m == ar "sitting")=false:=beq_eq_false_iff_ne.mpr h3;have b4:(m == ar "clause")=false:=beq_eq_false_iff_ne.mpr h4;unfold mF;split <;> simp[List.lookup_cons,b1,b2,b3,b4]
theorem jL (k:Nat)(v:V):(mF k v).lookup (ar "kind")=none:=Iy (by trivial) k v
theorem ND (k:Nat)(v:V):(mF k v).lookup (ar "rank")=none:=Iy (by trivial) k v
theorem NF (k:Nat)(v:V):(mF k v).lookup (ar "need")=none:=Iy (by trivial) k v
theorem Iz (k:Nat)(v:V):(mF k v).lookup (ar "told")=none:=Iy (by trivial) k v
def fv (k:Nat):Sp:=λvs H Q _=>∃m:Addr,vs=[.ref m]/\Q (.str (nm k)) H
def LK (A:ba):Sp:=λvs H Q _=>∃(m:Addr) (k:Nat) (dx:Addr) (fs:List (Str×V)),k < 8/\vs=[.ref m]/\H m=some (.ins (A.C k) dx fs)/\fs.lookup (ar "kind")=none/\Q (.int k) H
def Dh (k:Nat):Sp:=λvs H Q _=>∃m:Addr,vs=[.ref m]/\Q (.str (nd k)) H
def IA (A:ba):Sp:=λvs H Q _=>∃(m:Addr) (k:Nat) (dx:Addr) (fs:List (Str×V)),k < 8/\vs=[.ref m]/\H m=some (.ins (A.C k) dx fs)/\fs.lookup (ar "kind")=none/\∀p,H p=none->Q (.ref p) (ag H p (.tup [.str (nm k)]))
def xD (A:ba)(k:Nat)(a:Str):Sp:=λvs H Q _=>∃(m dx:Addr) (fs:List (Str×V)) (v:V),vs=[.ref m]/\H m=some (.ins (A.C k) dx fs)/\fs.lookup (ar "kind")=none/\fs.lookup a=some v/\∀p,H p=none->Q (.ref p) (ag H p (.tup [.str (nm k),v]))
def GU (A:ba)(k:Nat):Sp:=λvs H Q _=>1<=k/\∃(m dx:Addr) (v:V),vs=[.ref m]/\H m=some (.ins (A.C k) dx (mF k v))/\∀p,H p=none->Q (.ref p) (ag H p (.tup (rowOf k v)))
def Di (A:ba)(k:Nat):Sp:=λvs H Q _=>∃(m dx:Addr) (v:V),vs=[.ref m,v]/\H m=some (.ins (A.C k) dx [])/\Q .non (ag H m (.ins (A.C k) dx (mF k v)))
def IB (A:ba)(K:de):Sp:=λvs H Q _=>∃(m dx L:Addr) (xs:List V),vs=[.ref m]/\H m=some (.ins (A.C 0) dx (mF 0 (.ref L)))/\ay K H L xs/\∀p q,H p=none->H q=none->p≠q->Q (.ref q) (ag (ag H p (.lst xs)) q (.tup [.str (nm 0),.ref p]))
def NG (A:ba)(K:de):Sp:=λvs H Q _=>∃(m dx L:Addr) (xs:List V),vs=[.ref m,.ref L]/\H m=some (.ins (A.C 0) dx [])/\ay K H L xs/\∀p,H p=none->Q .non (ag (ag H p (.lst xs)) m (.ins (A.C 0) dx (mF 0 (.ref p))))
def IC (A:ba):Sp:=λvs H Q _=>∃(t:Addr) (k:Nat) (v:V),1<=k/\k < 8/\vs=[.ref t]/\H t=some (.tup (rowOf k v))/\∀m H',bh H H'->H m=none->(∃dx,H' m=some (.ins (A.C k) dx (mF k v)))->Q (.ref m) H'
def E8 (A:ba)(K:de):Sp:=λvs H Q _=>∃(t L:Addr) (xs:List V),vs=[.ref t]/\H t=some (.tup [.str (nm 0),.ref L])/\ay K H L xs /\
 ∀m p H',bh H H'->H m=none->H p=none->H' p=some (.lst xs)->(∃dx,H' m=some (.ins (A.C 0) dx (mF 0 (.ref p))))->Q (.ref m) H'
theorem zH (T:Txt w.params K mg A):aC P w K mg base a5 1 A.P1 A.Lb ["self"] (fv 0):=by
 refine T.TY.ok yc (by left) λ_ _ _ _ H _ Q E hr h=>?_
 obtain⟨m,rfl,q⟩:=h;exact⟨_,(ao (aG au)),q⟩
theorem zI (T:Txt w.params K mg A):aC P w K mg base a5 1 A.P2 A.Lc ["self"] (fv 1):=by
 refine T.TZ.ok yd (by left) λ_ _ _ _ H _ Q E hr h=>?_
 obtain⟨m,rfl,q⟩:=h;exact⟨_,(ao (aG au)),q⟩
theorem Dj (T:Txt w.params K mg A):aC P w K mg base a5 1 A.P4 A.Ld ["self"] (fv 2):=by
 refine T.T1.ok CP (by left) λ_ _ _ _ H _ Q E hr h=>?_
 obtain⟨m,rfl,q⟩:=h;exact⟨_,(ao (aG au)),q⟩
theorem zJ (T:Txt w.params K mg A):aC P w K mg base a5 1 A.P5 A.Le ["self"] (fv 3):=by
 refine T.T2.ok ye (by left) λ_ _ _ _ H _ Q E hr h=>?_
 obtain⟨m,rfl,q⟩:=h;exact⟨_,(ao (aG au)),q⟩
theorem AN (T:Txt w.params K mg A):aC P w K mg base a5 1 A.P6 A.Lf ["self"] (fv 4):=by
 refine T.T3.ok Ay (by left) λ_ _ _ _ H _ Q E hr h=>?_
 obtain⟨m,rfl,q⟩:=h;exact⟨_,(ao (aG au)),q⟩
theorem E9 (T:Txt w.params K mg A):aC P w K mg base a5 1 A.P7 A.Lg ["self"] (fv 5):=by
 refine T.T4.ok Es (by left) λ_ _ _ _ H _ Q E hr h=>?_
 obtain⟨m,rfl,q⟩:=h;exact⟨_,(ao (aG au)),q⟩
theorem Dl (T:Txt w.params K mg A):aC P w K mg base a5 1 A.P8 A.Lh ["self"] (fv 6):=by
 refine T.T5.ok CQ (by left) λ_ _ _ _ H _ Q E hr h=>?_
 obtain⟨m,rfl,q⟩:=h;exact⟨_,(ao (aG au)),q⟩
theorem AO (T:Txt w.params K mg A):aC P w K mg base a5 1 A.P9 A.Lj ["self"] (fv 7):=by
 refine T.T6.ok Az (by left) λ_ _ _ _ H _ Q E hr h=>?_
 obtain⟨m,rfl,q⟩:=h;exact⟨_,(ao (aG au)),q⟩
theorem jM (T:Txt w.params K mg A):∀k,k < 8->aC P w K mg base a5 1 (A.fk k) (A.fkd k) ["self"] (fv k)
 | 0,_=>zH T
 | 1,_=>zI T
 | 2,_=>Dj T
 | 3,_=>zJ T
 | 4,_=>AN T
 | 5,_=>E9 T
 | 6,_=>Dl T
 | 7,_=>AO T
 |n+8,h=>absurd h (by omega)
theorem NH (T:Txt w.params K mg A):aC P w K mg base a5 2 A.f_r A.Nz ["self"] (LK A):=by
 have fN:∀k,k < 8->aC P w K mg base a5 1 (A.fk k) (A.fkd k) ["self"] (fv k):=jM T;refine T.F_r.ok yg (by left) λ_ _ _ _ H _ Q E hr h=>?_
 obtain⟨m,k,dx,fs,hk,rfl,hm,hl,q⟩:=h;obtain⟨t,ht⟩:=T.rk k hk;refine⟨_,(ao (aG (aO KC (fU (v:=V.ref A.tab) rfl T.Ir rfl) (dI (pv 0) (T.cl k hk) (T.nH k hk) (fN k hk) hr (T.nI k hk) .nil bU)))),?_⟩;symm;exact⟨_,rfl,m,dx,fs,rfl,hm,hl,m,rfl,A.tab,nm k,.int k,_,rfl,rfl,T.tb,ht,⟨_,rfl⟩,q⟩
theorem vx (T:Txt w.params K mg A):aC P w K mg base a5 2 A.f_t A.Lm ["self"] (IA A):=by
 have fN:∀k,k < 8->aC P w K mg base a5 1 (A.fk k) (A.fkd k) ["self"] (fv k):=jM T;refine T.F_t.ok yi (by left) λ_ _ _ _ H _ Q E hr h=>?_
 obtain⟨m,k,dx,fs,hk,rfl,hm,hl,q⟩:=h;refine⟨_,(ao (aG (bu (aa (dI (pv 0) (T.cl k hk) (T.nH k hk) (fN k hk) hr (T.nI k hk) .nil bU) ai)))),?_⟩;symm;exact⟨_,rfl,m,dx,fs,rfl,hm,hl,m,rfl,(sl 1),λp hp=>q p hp⟩
theorem zK (T:Txt w.params K mg A):aC P w K mg base a5 2 A.Qc A.Lo ["self"] (xD A 1 "edit"):=by
 have fN:∀k,k < 8->aC P w K mg base a5 1 (A.fk k) (A.fkd k) ["self"] (fv k):=jM T;refine T.T9.ok yk (by left) λ_ _ _ _ H _ Q E hr h=>?_
 obtain⟨m,dx,fs,v,rfl,hm,hl,hv,q⟩:=h;obtain⟨k,hk,ek⟩:∃k,k < 8/\k=1:=⟨1,by decide,rfl⟩
 have hm':H m=some (.ins (A.C k) dx fs):=by rw[ek];exact hm
 refine⟨_,(ao (aG (bu (aa (dI (pv 0) (T.cl k hk) (T.nH k hk) (fN k hk) hr (T.nI k hk) .nil bU) (aa (bH (pv 0) rfl) ai))))),?_⟩;symm;subst ek;exact⟨_,rfl,m,dx,fs,rfl,hm,hl,m,rfl,_,rfl,m,A.C 1,dx,fs,v,rfl,hm,T.cl 1 hk,T.na1,hv,(sl 2),λp hp=>q p hp⟩
theorem kC (T:Txt w.params K mg A):aC P w K mg base a5 1 A.Qh A.Lu ["self","edit"] (Di A 1):=by
 refine T.Ue.ok yo (by left) λ_ _ _ _ H _ Q E hr h=>?_
 obtain⟨m,dx,v,rfl,hm,q⟩:=h;refine⟨_,(ao (eF (pv 0) (pv 1) rfl)),?_⟩;symm;exact⟨_,rfl,_,rfl,m,A.C 1,dx,[],rfl,hm,T.cl 1 (by decide),T.na1,by decide,q⟩
theorem Dm (T:Txt w.params K mg A):aC P w K mg base a5 2 A.Qd A.Lp ["self"] (xD A 2 "edit"):=by
 have fN:∀k,k < 8->aC P w K mg base a5 1 (A.fk k) (A.fkd k) ["self"] (fv k):=jM T;refine T.Ua.ok CS (by left) λ_ _ _ _ H _ Q E hr h=>?_
 obtain⟨m,dx,fs,v,rfl,hm,hl,hv,q⟩:=h;obtain⟨k,hk,ek⟩:∃k,k < 8/\k=2:=⟨2,by decide,rfl⟩
 have hm':H m=some (.ins (A.C k) dx fs):=by rw[ek];exact hm
 refine⟨_,(ao (aG (bu (aa (dI (pv 0) (T.cl k hk) (T.nH k hk) (fN k hk) hr (T.nI k hk) .nil bU) (aa (bH (pv 0) rfl) ai))))),?_⟩;symm;subst ek;exact⟨_,rfl,m,dx,fs,rfl,hm,hl,m,rfl,_,rfl,m,A.C 2,dx,fs,v,rfl,hm,T.cl 2 hk,T.na2,hv,(sl 2),λp hp=>q p hp⟩
theorem uC (T:Txt w.params K mg A):aC P w K mg base a5 1 A.Qi A.Lv ["self","edit"] (Di A 2):=by
 refine T.Ug.ok CT (by left) λ_ _ _ _ H _ Q E hr h=>?_
 obtain⟨m,dx,v,rfl,hm,q⟩:=h;refine⟨_,(ao (eF (pv 0) (pv 1) rfl)),?_⟩;symm;exact⟨_,rfl,_,rfl,m,A.C 2,dx,[],rfl,hm,T.cl 2 (by decide),T.na2,by decide,q⟩
theorem zL (T:Txt w.params K mg A):aC P w K mg base a5 2 A.Qe A.Lq ["self"] (xD A 3 "sitting"):=by
 have fN:∀k,k < 8->aC P w K mg base a5 1 (A.fk k) (A.fkd k) ["self"] (fv k):=jM T;refine T.Ub.ok ym (by left) λ_ _ _ _ H _ Q E hr h=>?_
 obtain⟨m,dx,fs,v,rfl,hm,hl,hv,q⟩:=h;obtain⟨k,hk,ek⟩:∃k,k < 8/\k=3:=⟨3,by decide,rfl⟩
 have hm':H m=some (.ins (A.C k) dx fs):=by rw[ek];exact hm
 refine⟨_,(ao (aG (bu (aa (dI (pv 0) (T.cl k hk) (T.nH k hk) (fN k hk) hr (T.nI k hk) .nil bU) (aa (bH (pv 0) rfl) ai))))),?_⟩;symm;subst ek;exact⟨_,rfl,m,dx,fs,rfl,hm,hl,m,rfl,_,rfl,m,A.C 3,dx,fs,v,rfl,hm,T.cl 3 hk,T.na3,hv,(sl 2),λp hp=>q p hp⟩
theorem qc (T:Txt w.params K mg A):aC P w K mg base a5 1 A.Qj A.Lw ["self","sitting"] (Di A 3):=by
 refine T.Uh.ok yp (by left) λ_ _ _ _ H _ Q E hr h=>?_
 obtain⟨m,dx,v,rfl,hm,q⟩:=h;refine⟨_,(ao (eF (pv 0) (pv 1) rfl)),?_⟩;symm;exact⟨_,rfl,_,rfl,m,A.C 3,dx,[],rfl,hm,T.cl 3 (by decide),T.na3,by decide,q⟩
theorem AQ (T:Txt w.params K mg A):aC P w K mg base a5 2 A.Qf A.Lr ["self"] (xD A 7 "clause"):=by
 have fN:∀k,k < 8->aC P w K mg base a5 1 (A.fk k) (A.fkd k) ["self"] (fv k):=jM T;refine T.Uc.ok AB (by left) λ_ _ _ _ H _ Q E hr h=>?_
 obtain⟨m,dx,fs,v,rfl,hm,hl,hv,q⟩:=h;obtain⟨k,hk,ek⟩:∃k,k < 8/\k=7:=⟨7,by decide,rfl⟩
 have hm':H m=some (.ins (A.C k) dx fs):=by rw[ek];exact hm
 refine⟨_,(ao (aG (bu (aa (dI (pv 0) (T.cl k hk) (T.nH k hk) (fN k hk) hr (T.nI k hk) .nil bU) (aa (bH (pv 0) rfl) ai))))),?_⟩;symm;subst ek;exact⟨_,rfl,m,dx,fs,rfl,hm,hl,m,rfl,_,rfl,m,A.C 7,dx,fs,v,rfl,hm,T.cl 7 hk,T.na7,hv,(sl 2),λp hp=>q p hp⟩
theorem rR (T:Txt w.params K mg A):aC P w K mg base a5 1 A.Qk A.Lx ["self","clause"] (Di A 7):=by
 refine T.Ui.ok AD (by left) λ_ _ _ _ H _ Q E hr h=>?_
 obtain⟨m,dx,v,rfl,hm,q⟩:=h;refine⟨_,(ao (eF (pv 0) (pv 1) rfl)),?_⟩;symm;exact⟨_,rfl,_,rfl,m,A.C 7,dx,[],rfl,hm,T.cl 7 (by decide),T.na7,by decide,q⟩
theorem LL {k:Nat}{f:Addr}{fd:gr}{ps:List Str}{sp:Sp}(h:∀vs H Q E,¬sp vs H Q E):aC P w K mg base a5 k f fd ps sp :=
 ⟨λvs H Q E z=>(h vs H Q E z).elim,λ_ _ _ H _ _ vs Q E _ _ _ _ z=>(h vs H Q E z).elim⟩
theorem sO {k:Nat}(hk:k=4\/k=5\/k=6):∀vs H Q E,GU A k vs H Q E->IA A vs H Q E:=λvs H Q E ⟨_,m,dx,v,e,hm,q⟩ =>
 ⟨m,k,dx,mF k v,by omega,e,hm,jL k v,λp hp=>by
  have:=q p hp;rcases hk with rfl | rfl | rfl <;> exact this⟩
theorem nK (T:Txt w.params K mg A):∀k,k < 8->aC P w K mg base a5 2 (A.ft k) (A.ftd k) ["self"] (GU A k)
 | 0,_=>LL λvs H Q E h=>absurd h.1 (by decide)
 | 1,_=>(zK T).imp λvs H Q E ⟨_,m,dx,v,e,hm,q⟩=>⟨m,dx,_,v,e,hm,jL 1 v,rfl,q⟩
 | 2,_=>(Dm T).imp λvs H Q E ⟨_,m,dx,v,e,hm,q⟩=>⟨m,dx,_,v,e,hm,jL 2 v,rfl,q⟩
 | 3,_=>(zL T).imp λvs H Q E ⟨_,m,dx,v,e,hm,q⟩=>⟨m,dx,_,v,e,hm,jL 3 v,rfl,q⟩
 | 4,_=>(vx T).imp (sO (.inl rfl))
 | 5,_=>(vx T).imp (sO (.inr (.inl rfl)))
 | 6,_=>(vx T).imp (sO (.inr (.inr rfl)))
 | 7,_=>(AQ T).imp λvs H Q E ⟨_,m,dx,v,e,hm,q⟩=>⟨m,dx,_,v,e,hm,jL 7 v,rfl,q⟩
 |n+8,h=>absurd h (by omega)
theorem zM (T:Txt w.params K mg A):aC P w K mg base a5 1 A.Qg A.Ls ["self","text"] (NG A K):=by
 refine T.Ud.ok yn (by left) λ_ _ _ _ H _ Q E hr h=>?_
 obtain⟨m,dx,L,xs,rfl,hm,hL,q⟩:=h;refine⟨_,(ao (eF (pv 0) (cc cW (by rfl) T.ku gQ (aa (pv 1) ai)) rfl)),?_⟩
 symm;refine⟨_,rfl,L,xs,rfl,.inl hL,λp hp=>?_⟩
 have nmp:m≠p:=aQ hm hp;exact⟨_,rfl,m,A.C 0,dx,[],rfl,(ax nmp).trans hm,T.cl 0 (by decide),T.na0,by decide,q p hp⟩
theorem LM (T:Txt w.params K mg A):aC P w K mg base a5 2 A.Qb A.Ln ["self"] (IB A K):=by
 have fN:∀k,k < 8->aC P w K mg base a5 1 (A.fk k) (A.fkd k) ["self"] (fv k):=jM T;refine T.T8.ok yj (by left) λ_ _ _ _ H _ Q E hr h=>?_
 obtain⟨m,dx,L,xs,rfl,hm,hL,q⟩:=h;obtain⟨k,hk,ek⟩:∃k,k < 8/\k=0:=⟨0,by decide,rfl⟩
 refine⟨_,(ao (aG (bu (aa (dI (pv 0) (T.cl k hk) (T.nH k hk) (fN k hk) hr (T.nI k hk) .nil bU) (aa (cc cW (by rfl) T.ku gQ (aa (bH (pv 0) rfl) ai)) ai))))),?_⟩
 symm;subst ek;refine⟨_,rfl,m,dx,_,rfl,hm,jL 0 _,m,rfl,_,rfl,m,A.C 0,dx,_,_,rfl,hm,T.cl 0 hk,T.na0,rfl,L,xs,rfl,.inl hL,λp hp=>⟨(sl 2),λq' hq'=>?_⟩⟩
 have npq:p≠q':=aQ ae hq';have hq:H q'=none:=by rw[ax (VG npq)]at hq';exact hq'
 exact q p q' hp hq npq
theorem Dn (T:Txt w.params K mg A):aC P w K mg base a5 3 A.qL A.jJ ["told"] (IC A):=by
 refine T.pX.F.ok jF (by left) λ_ _ _ _ H _ Q E hr h=>?_
 obtain⟨t,k,v,h1,h8,rfl,ht,q⟩:=h;have hZ:=hr;refine⟨_,(ah (aV (i:=1) jF.nd (aO aY (pv 0) aj))
 (ah (bf (aI bz (pv 1) au (aL _))
 (ao (aG (eX T.zo (zM T) hZ rfl T.zk T.Qr .nil bU (aa (aO aY (pv 0) aj) ai))))
 aK)
 (ah (bf (aI bz (pv 1) au (aL _))
 (ao (aG (eX T.zq (kC T) hZ rfl T.zm T.Qs .nil bU (aa (aO aY (pv 0) aj) ai))))
 aK)
 (ah (bf (aI bz (pv 1) au (aL _))
 (ao (aG (eX T.LF (uC T) hZ rfl T.LB T.Si .nil bU (aa (aO aY (pv 0) aj) ai))))
 aK)
 (ah (bf (aI bz (pv 1) au (aL _))
 (ao (aG (eX T.E2 (qc T) hZ rfl T.E1 T.Sj .nil bU (aa (aO aY (pv 0) aj) ai))))
 aK)
 (ah (bf (aI bz (pv 1) au (aL _))
 (ao (aG (lR (T.mkn 4 (by decide)) rfl T.Ip)))
 aK)
 (ah (bf (aI bz (pv 1) au (aL _))
 (ao (aG (lR (T.mkn 5 (by decide)) rfl T.OY)))
 aK)
 (ah (bf (aI bz (pv 1) au (aL _))
 (ao (aG (lR (T.mkn 6 (by decide)) rfl T.LC)))
 aK)
 (ao (aG (eX T.Iu (rR T) hZ rfl T.Iq T.Sk .nil bU (aa (aO aY (pv 0) aj) ai)))))))))))),?_⟩
 symm;have h0:atI (rowOf k v) 0=some (.str (nm k)):=by
  have hk:k=1\/k=2\/k=3\/k=4\/k=5\/k=6\/k=7:=by omega
  rcases hk with rfl | rfl | rfl | rfl | rfl | rfl | rfl <;> rfl
 refine a8 rfl (aW.of ht) h0 ?_;have hk:k=1\/k=2\/k=3\/k=4\/k=5\/k=6\/k=7:=by omega
 rcases hk with rfl | rfl | rfl | rfl | rfl | rfl | rfl
 ·refine⟨_,rfl,rfl,a4 (by trivial) ⟨_,rfl,rfl,cg (by trivial) ?_⟩⟩
  exact⟨_,rfl,t,_,_,v,rfl,rfl,aW.of ht,rfl,λm dx nm ndx ne=>⟨m,dx,v,rfl,ae,rfl,q m _ ((((bh.refl H).own ndx).own nm).own nm) nm ⟨dx,ae⟩⟩⟩
 ·refine⟨_,rfl,rfl,a4 (by trivial) ⟨_,rfl,rfl,a4 (by trivial) ⟨_,rfl,rfl,cg (by trivial) ?_⟩⟩⟩
  exact⟨_,rfl,t,_,_,v,rfl,rfl,aW.of ht,rfl,λm dx nm ndx ne=>⟨m,dx,v,rfl,ae,rfl,q m _ ((((bh.refl H).own ndx).own nm).own nm) nm ⟨dx,ae⟩⟩⟩
 ·refine⟨_,rfl,rfl,a4 (by trivial) ⟨_,rfl,rfl,a4 (by trivial) ⟨_,rfl,rfl,a4 (by trivial) ⟨_,rfl,rfl,cg (by trivial) ?_⟩⟩⟩⟩
  exact⟨_,rfl,t,_,_,v,rfl,rfl,aW.of ht,rfl,λm dx nm ndx ne=>⟨m,dx,v,rfl,ae,rfl,q m _ ((((bh.refl H).own ndx).own nm).own nm) nm ⟨dx,ae⟩⟩⟩
 ·refine⟨_,rfl,rfl,a4 (by trivial) ⟨_,rfl,rfl,a4 (by trivial) ⟨_,rfl,rfl,a4 (by trivial) ⟨_,rfl,rfl,a4 (by trivial) ⟨_,rfl,rfl,cg (by trivial) ?_⟩⟩⟩⟩⟩
  exactλm dx nm ndx ne=>q m _ (((bh.refl H).own ndx).own nm) nm ⟨dx,ae⟩
 ·refine⟨_,rfl,rfl,a4 (by trivial) ⟨_,rfl,rfl,a4 (by trivial) ⟨_,rfl,rfl,a4 (by trivial) ⟨_,rfl,rfl,a4 (by trivial) ⟨_,rfl,rfl,a4 (by trivial) ⟨_,rfl,rfl,cg (by trivial) ?_⟩⟩⟩⟩⟩⟩
  exactλm dx nm ndx ne=>q m _ (((bh.refl H).own ndx).own nm) nm ⟨dx,ae⟩
 ·refine⟨_,rfl,rfl,a4 (by trivial) ⟨_,rfl,rfl,a4 (by trivial) ⟨_,rfl,rfl,a4 (by trivial) ⟨_,rfl,rfl,a4 (by trivial) ⟨_,rfl,rfl,a4 (by trivial) ⟨_,rfl,rfl,a4 (by trivial) ⟨_,rfl,rfl,cg (by trivial) ?_⟩⟩⟩⟩⟩⟩⟩
  exactλm dx nm ndx ne=>q m _ (((bh.refl H).own ndx).own nm) nm ⟨dx,ae⟩
 refine⟨_,rfl,rfl,a4 (by trivial) ⟨_,rfl,rfl,a4 (by trivial) ⟨_,rfl,rfl,a4 (by trivial) ⟨_,rfl,rfl,a4 (by trivial) ⟨_,rfl,rfl,a4 (by trivial) ⟨_,rfl,rfl,a4 (by trivial) ⟨_,rfl,rfl,a4 (by trivial) ?_⟩⟩⟩⟩⟩⟩⟩
 exact⟨_,rfl,t,_,_,v,rfl,rfl,aW.of ht,rfl,λm dx nm ndx ne=>⟨m,dx,v,rfl,ae,rfl,q m _ ((((bh.refl H).own ndx).own nm).own nm) nm ⟨dx,ae⟩⟩⟩
theorem AR (T:Txt w.params K mg A):aC P w K mg base a5 3 A.qL A.jJ ["told"] (E8 A K):=by
 refine T.pX.F.ok jF (by left) λ_ _ _ _ H _ Q E hr h=>?_
 obtain⟨t,L,xs,rfl,ht,hL,q⟩:=h;have hZ:=hr;refine⟨_,(ah (aV (i:=1) jF.nd (aO aY (pv 0) aj))
 (ah (bf (aI bz (pv 1) au (aL _))
 (ao (aG (eX T.zo (zM T) hZ rfl T.zk T.Qr .nil bU (aa (aO aY (pv 0) aj) ai))))
 aK)
 (ah (bf (aI bz (pv 1) au (aL _))
 (ao (aG (eX T.zq (kC T) hZ rfl T.zm T.Qs .nil bU (aa (aO aY (pv 0) aj) ai))))
 aK)
 (ah (bf (aI bz (pv 1) au (aL _))
 (ao (aG (eX T.LF (uC T) hZ rfl T.LB T.Si .nil bU (aa (aO aY (pv 0) aj) ai))))
 aK)
 (ah (bf (aI bz (pv 1) au (aL _))
 (ao (aG (eX T.E2 (qc T) hZ rfl T.E1 T.Sj .nil bU (aa (aO aY (pv 0) aj) ai))))
 aK)
 (ah (bf (aI bz (pv 1) au (aL _))
 (ao (aG (lR (T.mkn 4 (by decide)) rfl T.Ip)))
 aK)
 (ah (bf (aI bz (pv 1) au (aL _))
 (ao (aG (lR (T.mkn 5 (by decide)) rfl T.OY)))
 aK)
 (ah (bf (aI bz (pv 1) au (aL _))
 (ao (aG (lR (T.mkn 6 (by decide)) rfl T.LC)))
 aK)
 (ao (aG (eX T.Iu (rR T) hZ rfl T.Iq T.Sk .nil bU (aa (aO aY (pv 0) aj) ai)))))))))))),?_⟩
 symm;refine a8 rfl (aW.of ht) rfl ?_;refine⟨_,rfl,rfl,cg (by trivial) ?_⟩
 refine⟨_,rfl,t,_,_,.ref L,rfl,rfl,aW.of ht,rfl,λm dx nm ndx ne=>⟨m,dx,L,xs,rfl,ae,(((bh.refl H).own ndx).own nm).seq hL,λp hp=>⟨rfl,?_⟩⟩⟩
 have s1:bh H (ag (ag H dx (.own m)) m (.ins (A.C 0) dx [])):=((bh.refl H).own ndx).own nm;have npm:p≠m:=λz=>by rw[z,ae]at hp;cases hp
 exact q m p _ ((s1.new hp).own nm) nm (s1.free hp) ((ax npm).trans ae) ⟨dx,ae⟩
noncomputable abbrev Fa:Str:=ar "more"
def lx (n:Str)(a b:Int):Bool:=if a<=b then false else (decide (n=Fa) || decide (2 * b<=a))
def Qw:Sp:=λvs H Q _=>∃(n:Str) (a b:Int),vs=[.str n,.int a,.int b]/\Q (.bl (lx n a b)) H
theorem GV (T:Txt w.params K mg A):aC P w K mg base a5 1 A.Ia A.yL ["need","ayes","noes"] Qw:=by
 refine T.BV.F.ok GJ (by left) λ_ _ _ _ H _ Q E hr h=>?_
 obtain⟨n,a,b,rfl,q⟩:=h;refine⟨_,(ah (bf (aI iU (pv 1) (pv 2) (aL _))
 (ao (aG og))
 aK)
 (ao (aG (Kc (b5 bz (pv 0) au (aL _)) (iw (b5 HJ (pv 1) (bb r6 aj (pv 2)) (aL _))))))),?_⟩
 symm;refine⟨_,rfl,_,rfl,_,_,rfl,rfl,_,rfl,dg (λe=>?_) (λe=>?_)⟩
 ·have e':a<=b:=eM e;rw[lx,bp e']at q;exact q
 have e':¬a<=b:=λz=>e (bG z)
 rw[lx,aZ e']at q;refine⟨_,rfl,rfl,_,rfl,dg (λe2=>?_) (λe2=>?_)⟩
 ·have h2:n=Fa:=by injection eM e2
  rw[bG h2,Bool.true_or]at q;exact q
 have h2:¬n=Fa:=λz=>e2 (bG (by rw[z]))
 rw[bV h2,Bool.false_or]at q;exact⟨_,rfl,_,rfl,_,_,rfl,rfl,.inl ⟨by decide,by decide⟩,_,_,rfl,rfl,q⟩
namespace R
noncomputable abbrev bl1:Str:=ar " "
noncomputable abbrev em:Str:=ar ""
theorem fw:bl1=⟨#[32]⟩:=by trivial
theorem Fb:em=⟨#[]⟩:=by trivial
noncomputable abbrev sg:Str:=ar "!\"#$&'()*+,-./0123456789:;<=>?@ABCDEFGHIJKLMNOPQRSTUVWXYZ[\\]^_`abcdefghijklmnopqrstuvwxyz{|}~"
def Sign (c:Nat):Prop:=33<=c/\c<=126/\c≠37
instance:DecidablePred Sign:=λc=>by unfold Sign;exact inferInstance
structure jr (x:Str):Prop where
 l1:1<=x.length
 l2:x.length<=20
 sgn:∀c∈x.cps.toList,Sign c
 ns:x≠ar "/"
def Asc (x:Str):Prop:=∀c∈x.cps.toList,c < 128
theorem Asc.ok {x:Str}(h:Asc x):Vu x=true:=by
 unfold Vu;rw[Array.all_eq_true];intro i hi;have:=h x.cps[i] (by simp)
 exact bG (by omega)
theorem jr.asc {x:Str}(w:jr x):Asc x:=λc hc=>by have:=w.sgn c hc;unfold Sign at this;omega
theorem kz {sep:Str}(hs:Asc sep):∀ws:List Str,(∀w∈ws,Asc w)->Asc (kx sep ws)
 |[],_=>λc hc=>by
  have:c∈([]:List Nat):=hc;cases this
 |[x],h=>h x eg
 |x::y::r,h=>λc hc=>by
  have hc':c∈((x++sep)++kx sep (y::r)).cps.toList:=hc;rw[cO,cO,Wq,Wq]at hc';rcases hc' with (h1 | h1) | h1
  ·exact h x eg c h1
  ·exact hs c h1
  exact kz hs (y::r) (λw hw=>h w (ma _ hw)) c h1
theorem nM (x:Str):x.cps.toList.length=x.length:=by simp[Str.length]
noncomputable abbrev Sm:List Str:=[ar "-",ar "put",ar "/a",ar "0",ar "off",ar "//",ar "matter",ar "a"]
theorem Fc {x:Str}(h:decide (1<=x.length/\x.length<=20/\(∀c∈x.cps.toList,Sign c)/\x≠ar "/")=true):jr x:=by
 obtain⟨a,b,c,d⟩:=eM h;exact⟨a,b,c,d⟩
theorem Qx:∀x∈Sm,jr x:=by
 intro x hx;simp only[V3,VN,or_false]at hx;rcases hx with rfl | rfl | rfl | rfl | rfl | rfl | rfl | rfl <;> exact Fc (by trivial)
structure Clause (n:Nat)(x:Str)(ws:List Str):Prop where
 eq:x=kx bl1 ws
 len:ws.length<=n
 wd:∀w∈ws,jr w
theorem Clause.asc {n:Nat}{x:Str}{ws:List Str}(c:Clause n x ws):Asc x:=by
 rw[c.eq];exact kz (by rw[fw];intro d hd;have:d=32:=(by simpa using hd);omega) ws λw hw=>(c.wd w hw).asc
theorem Fd {ws:List Str}(h:∀w∈ws,jr w):(ws.map (·.length)).sum<=ws.length * 20:=StrLaws.sumLen_le ws λw hw=>(h w hw).l2
noncomputable abbrev sl1:Str:=ar "/"
noncomputable def num (i:Int):Str:=ar (toString i)
theorem xE {i:Int}(h0:0<=i)(h1:i < 10 ^ 10):(num i).length<=10:=PyProof.Rows.toString_length_le h0 (by decide) h1
theorem nO {i:Int}(h0:0<=i)(h1:i < 10 ^ 10):i.natAbs.log2 < 1920:=by
 have h:i.natAbs < 2 ^ 34:=by
  have:(10:Int) ^ 10<=2 ^ 34:=by decide
  omega
 by_cases hz:i.natAbs=0
 ·rw[hz];decide
 exact Nat.lt_trans ((Nat.log2_lt hz).mpr h) (by decide)
def bL (z:Str):List Str:=if z=em then [] else PySem.Txt.split z bl1
theorem jr.free {x:Str}(w:jr x):32∉x.cps.toList:=λz=>by have:=w.sgn _ z;unfold Sign at this;omega
theorem eA {ws:List Str}(h:∀w∈ws,jr w):bL (kx bl1 ws)=ws:=by
 cases ws with
 |nil=>exact bp (by rw[Fb];rfl)
 |cons x r =>
  have l:=Aw (c:=32) (U5 x r) λw hw=>(h w hw).l1
  have ne:¬kx bl1 (x::r)=em:=λe=>by
   rw[fw]at e;rw[e,Fb]at l;exact absurd l (by decide)
  unfold bL;rw[aZ ne,fw];exact j5 (U5 x r) λw hw=>(h w hw).free
inductive bI where
 |mat (cs:List (List Str))
 |ed (m:Bool) (k:Nat) (i:Int) (ws:List Str)
 |pt (ws:List Str)
 |nums (kd:Str) (ns:List Int)
noncomputable def kEd (m:Bool):Str:=if m then ar "mend" else ar "change"
noncomputable def kn:Nat->Str
 | 0=>ar "put"
 | 1=>ar "cut"
 |_=>ar "turn"
def edR (k:Nat)(i:Int)(x:Str):List V:=if k=1 then [.str (kn 1),.int i] else [.str (kn k),.int i,.str x]
noncomputable def dM:List (Str×Nat):=[(ar "put off",1),(ar "vote",2),(ar "take",1),(ar "close",0),(ar "lay",0),(ar "rest",0),(ar "drop",0)]
structure uD (n:Nat)(ws:List Str):Prop where
 len:ws.length<=n
 wd:∀w∈ws,jr w
def DOk:bI->Prop
 | .mat cs=>cs.length<=13/\∀ws∈cs,uD 12 ws
 | .ed m k i ws=>(k=0\/k=1\/k=2)/\(0<=i/\i < 10 ^ 10)/\uD 12 ws/\(m=true->ws.length=1)
 | .pt ws=>uD 12 ws
 | .nums kd ns=>(kd,ns.length)∈dM/\∀i∈ns,0<=i/\i < 10 ^ 10
def nP (K:de)(H:Hp):bI->Addr->Prop
 | .mat cs,t=>∃L,aW K H t [.str (ar "matter"),.ref L]/\ay K H L ((cs.map (kx bl1)).map V.str)
 | .ed m k i ws,t=>∃e,aW K H t [.str (kEd m),.ref e]/\aW K H e (edR k i (kx bl1 ws))
 | .pt ws,t=>aW K H t [.str (ar "point"),.str (kx bl1 ws)]
 | .nums kd ns,t=>aW K H t (.str kd::ns.map V.int)
theorem nP.same {K:de}{H H':Hp}(s:bh H H'):∀ {d:bI} {t:Addr},nP K H d t->nP K H' d t
 | .mat _,_,⟨L,a,b⟩=>⟨L,bO s a,s.seq b⟩
 | .ed _ _ _ _,_,⟨e,a,b⟩=>⟨e,bO s a,bO s b⟩
 | .pt _,_,a=>bO s a
 | .nums _ _,_,a=>bO s a
def fO:bI->Str
 | .mat _=>ar "matter"
 | .ed m _ _ _=>kEd m
 | .pt _=>ar "point"
 | .nums kd _=>kd
def cX:bI->List Str
 | .mat cs=>cs.flatMap λws=>sl1::ws
 | .ed _ k i ws=>kn k::num i::(if k=1 then [] else ws)
 | .pt ws=>ws
 | .nums _ ns=>ns.map num
def cG (d:bI):Str:=kx bl1 (fO d::cX d)
theorem Qy (k:Nat):(kn k).length<=4:=by
 unfold kn;split <;> trivial
theorem NI (m:Bool):(kEd m).length<=6:=by cases m <;> trivial
theorem GW {kd:Str}{n:Nat}(h:(kd,n)∈dM):kd.length<=7/\n<=2:=by
 simp only[dM,V3,VN,or_false,Wg]at h;rcases h with ⟨rfl,rfl⟩ | ⟨rfl,rfl⟩ | ⟨rfl,rfl⟩ | ⟨rfl,rfl⟩ | ⟨rfl,rfl⟩ | ⟨rfl,rfl⟩ | ⟨rfl,rfl⟩ <;> trivial
theorem mG {d:bI}(o:DOk d):(cX d).length<=200/\(∀w∈cX d,w.length<=20)/\(fO d).length<=20:=by
 cases d with
 |mat cs =>
  obtain⟨o1,o2⟩:=o;refine⟨?_,λw hw=>?_,by show (ar "matter").length<=20;trivial⟩
  ·show (cs.flatMap λws=>sl1::ws).length<=200
   have:∀l:List (List Str),(∀ws∈l,uD 12 ws)->(l.flatMap λws=>sl1::ws).length<=l.length * 13:=λl=>by
    induction l with
    |nil=>intro _;exact mv _
    |cons x l ih =>
     intro h;have h1:=(h x eg).len;have h2:=ih λw hw=>h w (ma _ hw)
     rw[List.flatMap_cons,ki,UQ,UQ];omega
   have:=this cs o2;omega
  obtain⟨ws,h1,h2⟩:=List.mem_flatMap.mp hw;rcases List.mem_cons.mp h2 with rfl | h2
  ·trivial
  exact((o2 ws h1).wd w h2).l2
 |ed m k i ws =>
  obtain⟨o1,⟨i0,i1⟩,o3,_⟩:=o;have l:=o3.len;refine⟨?_,λw hw=>?_,?_⟩
  ·show (kn k::num i::(if k=1 then [] else ws)).length<=200
   split <;> simp <;> omega
  ·have hw':w∈kn k::num i::(if k=1 then [] else ws):=hw
   rcases List.mem_cons.mp hw' with rfl | hw'
   ·have:=Qy k;omega
   rcases List.mem_cons.mp hw' with rfl | hw'
   ·have:=xE i0 i1;omega
   split at hw'
   ·cases hw'
   exact(o3.wd w hw').l2
  have:=NI m;show (kEd m).length<=20;omega
 |pt ws=>exact⟨by have:=o.len;show ws.length<=200;omega,λw hw=>(o.wd w hw).l2,by show (ar "point").length<=20;trivial⟩
 |nums kd ns =>
  obtain⟨o1,o2⟩:=o;have:=GW o1;refine⟨by show (ns.map num).length<=200;rw[bo];omega,λw hw=>?_,by show kd.length<=20;omega⟩
  obtain⟨i,hi,rfl⟩:=List.mem_map.mp hw;have:=xE (o2 i hi).1 (o2 i hi).2;omega
def jX:Sp:=λvs H Q _=>∃z,vs=[.str z]/\z.length+2<=fu/\∀p,H p=none->Q (.ref p) (ag H p (.lst ((bL z).map V.str)))
def sP (K:de):Sp:=λvs H Q _=>∃a ws,vs=[.ref a]/\ay K H a (ws.map V.str)/\(ws.map (·.length)).sum+ws.length<=16777216/\Q (.str (kx bl1 ws)) H
def Qz (K:de):Sp:=λvs H Q _=>∃(L:Addr) (cs:List (List Str)),vs=[.ref L]/\ay K H L ((cs.map (kx bl1)).map V.str)/\DOk (.mat cs)/\∀p H',bh H H'->H p=none->H' p=some (.lst ((cX (.mat cs)).map V.str))->Q (.ref p) H'
def NJ (K:de):Sp:=λvs H Q _=>∃(t:Addr) (m:Bool) (k:Nat) (i:Int) (ws:List Str),vs=[.ref t]/\aW K H t (edR k i (kx bl1 ws))/\DOk (.ed m k i ws)/\∀p H',bh H H'->H p=none->H' p=some (.lst ((cX (.ed m k i ws)).map V.str))->Q (.ref p) H'
def LN (K:de):Sp:=λvs H Q _=>∃(t:Addr) (d:bI),vs=[.ref t]/\nP K H d t/\DOk d/\∀p H',bh H H'->H p=none->H' p=some (.lst ((cX d).map V.str))->Q (.ref p) H'
def sQ (K:de):Sp:=λvs H Q _=>∃(t:Addr) (d:bI),vs=[.ref t]/\nP K H d t/\DOk d/\∀H',bh H H'->Q (.str (cG d)) H'
theorem qb {k:Nat}(h:k=0\/k=1\/k=2):(V.str (kn k)=V.str (ar "cut"))↔k=1:=by
 rcases h with rfl | rfl | rfl <;> trivial
theorem xF (k:Nat)(i:Int)(x:Str):atI (edR k i x) 0=some (.str (kn k)):=by
 unfold edR;split
 ·rename_i h;rw[h];rfl
 rfl
theorem ID (k:Nat)(i:Int)(x:Str):atI (edR k i x) 1=some (.int i):=by
 unfold edR;split <;> rfl
theorem NK {k:Nat}(h:k≠1)(i:Int)(x:Str):atI (edR k i x) 2=some (.str x):=by
 unfold edR;rw[aZ h];rfl
theorem iI {ws:List Str}(o:uD 12 ws):(kx bl1 ws).length<=300:=by
 have h1:=qE 32 ws;have h2:=Fd o.wd;have h3:=o.len;rw[fw];omega
theorem LO {kd:Str}{n:Nat}(h:(kd,n)∈dM):V.str kd≠V.str (ar "matter")/\V.str kd≠V.str (ar "change")/\V.str kd≠V.str (ar "mend")/\V.str kd≠V.str (ar "point"):=by
 simp only[dM,V3,VN,or_false,Wg]at h;rcases h with ⟨rfl,rfl⟩ | ⟨rfl,rfl⟩ | ⟨rfl,rfl⟩ | ⟨rfl,rfl⟩ | ⟨rfl,rfl⟩ | ⟨rfl,rfl⟩ | ⟨rfl,rfl⟩ <;> trivial
section
variable{K:de}
theorem nP.at0 {H:Hp}{d:bI}{t:Addr}(h:nP K H d t):∃xs,aW K H t xs/\atI xs 0=some (.str (fO d)):=by
 cases d with
 |mat cs=>obtain⟨L,a,b⟩:=h;exact⟨_,a,rfl⟩
 |ed m k i ws=>obtain⟨e,a,b⟩:=h;exact⟨_,a,rfl⟩
 |pt ws=>exact⟨_,h,rfl⟩
 |nums kd ns=>exact⟨_,h,cS (j:=0) rfl⟩
end
theorem nQ (T:Txt w.params K mg A):aC P w K mg base a5 1 A.qK A.jI ["words"] (sP K):=by
 refine T.lg.F.ok CY (by left) λ_ _ _ _ H _ Q E hr h=>?_
 obtain⟨a,ws,rfl,hq,hz,k⟩:=h;refine⟨_,(ao (aG (dE Vj VU VW m7 au (aa (pv 0) ai)))),?_⟩;symm;exact⟨rfl,_,rfl,bl1,a,ws,rfl,rfl,hq,by rw[fw];show _+ws.length * 1<=_;omega,k⟩
theorem i9 (T:Txt w.params K mg A):aC P w K mg base a5 1 A.pR A.i4 ["clause"] jX:=by
 refine T.iG.F.ok Et (by left) λ_ _ _ _ H _ Q E hr h=>?_
 obtain⟨z,rfl,hz,k⟩:=h;refine⟨_,(ah (bf (aI bz (pv 0) au (aL _))
 (ao (aG (bK ai)))
 aK)
 (ao (aG (dE Vj Wc We pw (pv 0) (aa au ai))))),?_⟩
 symm;refine⟨_,rfl,rfl,_,rfl,dg (λe=>?_) (λe=>?_)⟩
 ·have e':z=em:=by injection eM e
  refine⟨Vl _,λp hp=>?_⟩
  have:=k p hp;rw[bL,bp e']at this;exact this
 have e':¬z=em:=λq=>e (bG (by rw[q]))
 refine⟨_,rfl,rfl,z,bl1,rfl,rfl,by rw[fw];rfl,hz,λp hp=>?_⟩
 have:=k p hp;rw[bL,aZ e']at this;exact this
theorem vy (T:Txt w.params K mg A):aC P w K mg base a5 2 A.rN A.mi ["text"] (Qz K):=by
 refine T.oQ.F.ok iA (by left) λ_ _ _ _ H _ Q E hr h=>?_
 obtain⟨L,cs,rfl,hL,o,k⟩:=h;refine⟨_,(ah (aV (i:=1) iA.nd (bK ai))
 (ah (gN Vx rfl (eW (pv 0)) (b9 (i:=2) iA.nd)
 (ah (bw (dE tu UZ U0 cz (pv 1) (aa au ai)))
 (ao (bw (dE tu PySem.F.slot_list_extend PySem.F.type_list_extend A9 (pv 1) (aa (az (i9 T) hr T.iG (aa (pv 2) ai)) ai))))))
 (ao (aG (pv 1))))),?_⟩
 symm;have lim:fu=16777216:=by decide
 refine⟨Vl _,λW hW=>?_⟩
 refine⟨_,rfl,L,rfl,⟨_,(aw hW).seq hL⟩,?_⟩;refine pe (K:=K) (a:=L) (xs:=(cs.map (kx bl1)).map V.str) (λi σ H2=>∃v2:Option V,σ=[some (.ref L),some (.ref W),v2]/\bh H H2/\H2 W=some (.lst ((cX (.mat (cs.take i))).map V.str)))
  ⟨_,rfl,aw hW,ae⟩ (λi σ H2 _ ⟨_,_,s2,_⟩=>s2.seq hL) ?_ ?_
 ·rintro i y σ H2 hi ⟨v2,rfl,s2,h2⟩;rw[sr,sr]at hi;cases hc:cs[i]? with
  |none=>rw[hc]at hi;cases hi
  |some ws =>
   rw[hc]at hi;obtain rfl:V.str (kx bl1 ws)=y:=US hi;have ow:=o.2 ws (U2 hc);have hcl:=iI ow;have hil:i < cs.length:=(List.getElem?_eq_some_iff.mp hc).1;have hb:(cX (.mat (cs.take i))).length<=200:=(mG (d:=.mat (cs.take i)) ⟨by rw[Vf];have:=o.1;omega,λws hw=>o.2 ws (Wt hw)⟩).1
   refine⟨_,rfl,.inl ⟨rfl,_,ay.of h2⟩,W,_,_,rfl,rfl,h2,(by rw[bo];omega),?_⟩
   refine⟨_,rfl,.inl ⟨rfl,_,ay.of ae⟩,_,rfl,_,rfl,by omega,λp hp=>?_⟩
   rw[eA ow.wd];have nWp:W≠p:=aQ ae hp;have wl:=ow.len;refine⟨W,p,_,_,rfl,rfl,(ax nWp).trans ae,ae,(by rw[ki,bo,bo];show _+1+_<=_;omega),?_⟩
   refine⟨_,rfl,((s2.own hW).new hp).own hW,?_⟩;rw[ae,VJ,hc];show some (HO.lst _)=some (HO.lst (((cs.take i++[ws]).flatMap λws=>sl1::ws).map V.str))
   rw[List.flatMap_append];simp[cX]
 rintro σ H2 ⟨v2,rfl,s2,h2⟩;rw[bo,bo,Vs]at h2;exact⟨_,rfl,k W H2 s2 hW h2⟩
theorem vz (T:Txt w.params K mg A):aC P w K mg base a5 2 A.rO A.mj ["edit"] (NJ K):=by
 refine T.oR.F.ok lY (by left) λ_ _ _ _ H _ Q E hr h=>?_
 obtain⟨t,m,k,i,ws,rfl,ht,⟨o1,⟨i0,i1⟩,o3,_⟩,q⟩:=h;refine⟨_,(ah (aV (i:=1) lY.nd (bK (aa (aO aY (pv 0) aj) (aa (cc d9 (by rfl) T.wQ pj (aa (aO aY (pv 0) aj) ai)) ai))))
 (ah (bf (aI kR (aO aY (pv 0) aj) au (aL _))
 (ao (bw (dE tu PySem.F.slot_list_extend PySem.F.type_list_extend A9 (pv 1) (aa (az (i9 T) hr T.iG (aa (aO aY (pv 0) aj) ai)) ai))))
 aK)
 (ao (aG (pv 1))))),?_⟩
 symm;have lim:fu=16777216:=by decide
 refine a8 rfl ht (xF k i _) (a8 rfl ht (ID k i _) ⟨_,rfl,nO i0 i1,(sl 2),λW hW=>?_⟩)
 have s1:bh H (ag H W (.lst [V.str (kn k),V.str (num i)])):=aw hW;have hcl:=iI o3;refine a8 rfl (bO s1 ht) (xF k i _) ⟨rfl,_,rfl,?_⟩
 by_cases hk:k=1
 ·rw[bG ((qb o1).mpr hk)];refine b8 ⟨_,rfl,q W _ s1 hW ?_⟩;show (ag H W (.lst [V.str (kn k),V.str (num i)])) W=some (.lst ((kn k::num i::(if k=1 then [] else ws)).map V.str))
  rw[ae,bp hk];rfl
 rw[bV λz=>hk ((qb o1).mp z)]
 refine dR ⟨_,rfl,.inl ⟨rfl,_,ay.of ae⟩,a8 rfl (bO s1 ht) (NK hk i _) ⟨_,rfl,by omega,λp hp=>?_⟩⟩
 rw[eA o3.wd];have nWp:W≠p:=aQ ae hp;have wl:=o3.len;refine⟨W,p,_,_,rfl,rfl,(ax nWp).trans ae,ae,(by rw[bo];show 2+_<=_;omega),_,rfl,q W _ ((s1.new hp).own hW) hW ?_⟩
 show (ag (ag (ag H W (.lst [V.str (kn k),V.str (num i)])) p (.lst (ws.map V.str))) W (.lst ([V.str (kn k),V.str (num i)]++ws.map V.str))) W=some (.lst ((kn k::num i::(if k=1 then [] else ws)).map V.str))
 rw[ae,aZ hk];rfl
theorem xm (T:Txt w.params K mg A):aC P w K mg base a5 3 A.uh A.oJ ["deed"] (LN K):=by
 have kD:aC P w K mg base a5 2 A.pR A.i4 ["clause"] jX:=(i9 T).mono (by decide)
 refine T.p6.F.ok oE (by left) λ_ _ _ _ H _ Q E hr h=>?_
 obtain⟨t,d,rfl,hd,o,q⟩:=h;refine⟨_,(ah (aV (i:=1) oE.nd (aO aY (pv 0) aj))
 (ah (bf (aI bz (pv 1) au (aL _))
 (ao (aG (az (vy T) hr T.oQ (aa (aO aY (pv 0) aj) ai))))
 aK)
 (ah (bf (PW.pt (pw_or (aI bz (pv 1) au (aL _)) (pw_or1 (aI bz (pv 1) au (aL _)))))
 (ao (aG (az (vz T) hr T.oR (aa (aO aY (pv 0) aj) ai))))
 aK)
 (ah (bf (aI bz (pv 1) au (aL _))
 (ao (aG (az kD hr T.iG (aa (aO aY (pv 0) aj) ai))))
 aK)
 (ao (aG (gS (scope:=kf) tX rfl (Ke (df Gw (pv 0) (dU aj) ef)) (λ_ _ _ _ _=>(cc d9 (by rfl) T.wQ pj (aa (pv 0) ai)))))))))),?_⟩
 symm;have lim:fu=16777216:=by decide
 cases d with
 |mat cs =>
  refine aS λGa hGa=>?_
  obtain⟨L,ht,hL⟩:=hd;refine hGa ?_;refine a8 rfl ht rfl ?_;refine⟨_,rfl,rfl,cg (bG rfl) ?_⟩;exact a8 rfl ht rfl ⟨L,cs,rfl,hL,o,q⟩
 |ed m k i ws =>
  refine aS λGb hGb=>?_
  obtain⟨e,ht,he⟩:=hd;refine hGb ?_;refine a8 rfl ht rfl ?_;refine⟨_,rfl,rfl,a4 (bV (by cases m <;> trivial)) ?_⟩
  cases m with
  |false =>
   refine⟨_,rfl,rfl,cg (bG rfl) ?_⟩;exact a8 rfl ht rfl ⟨e,false,k,i,ws,rfl,he,o,q⟩
  |true =>
   refine⟨_,rfl,rfl,a4 (bV (by trivial)) ?_⟩
   refine⟨_,rfl,rfl,cg (bG rfl) ?_⟩;exact a8 rfl ht rfl ⟨e,true,k,i,ws,rfl,he,o,q⟩
 |pt ws =>
  have ht:=hd;refine a8 rfl ht rfl ?_;refine⟨_,rfl,rfl,a4 (bV (by trivial)) ?_⟩
  refine⟨_,rfl,rfl,a4 (bV (by trivial)) ?_⟩
  refine⟨_,rfl,rfl,a4 (bV (by trivial)) ?_⟩
  refine⟨_,rfl,rfl,cg (bG rfl) ?_⟩;have hcl:=iI o;refine a8 rfl ht rfl ⟨_,rfl,by omega,λp hp=>q p _ (aw hp) hp ?_⟩
  rw[ae,eA o.wd];rfl
 |nums kd ns =>
  refine aS λGc hGc=>?_
  have ht:=hd;obtain⟨o1,o2⟩:=o;obtain⟨n1,n2,n3,n4⟩:=LO o1;have kl:=(GW o1).2;refine hGc ?_;refine a8 rfl ht (cS (j:=0) rfl) ?_;refine⟨_,rfl,rfl,a4 (bV n1) ?_⟩;refine⟨_,rfl,rfl,a4 (bV n2) ?_⟩;refine⟨_,rfl,rfl,a4 (bV n3) ?_⟩;refine⟨_,rfl,rfl,a4 (bV n4) ?_⟩;refine⟨_,rfl,_,rfl,t,_,rfl,ht,λz=>?_,λp hp=>?_⟩
  ·have z1:=z.1;rw[show (1:Int)=((1:Nat):Int) from rfl,HT.mX,UQ]at z1
   omega
  rw[show (1:Int)=((1:Nat):Int) from rfl,iW]
  show _;have hs1:bh H (ag H p (.tup (ns.map V.int))):=aw hp;have hpp:(ag H p (.tup (ns.map V.int))) p=some (.tup (ns.map V.int)):=ae;refine⟨p,rfl,⟨_,aW.of hpp⟩,λD hD=>?_⟩
  have npD:p≠D:=aQ hpp hD;refine Eh (K:=K) (a:=p) (xs:=ns.map V.int) (λi ys H3=>ys=(ns.take i).map (λn=>V.str (num n))/\H3=ag (ag H p (.tup (ns.map V.int))) D (.lst ys)) ⟨rfl,rfl⟩ (by rw[bo];omega) ?_ ?_ ?_
  ·rintro i ys H3 hi ⟨rfl,rfl⟩;rw[bo]at hi;exact⟨aW.of ((ax npD).trans hpp),ae,by rw[bo,Vf];omega⟩
  ·rintro i y ys H3 hi ⟨rfl,rfl⟩;rw[sr]at hi;cases hc:ns[i]? with
   |none=>rw[hc]at hi;cases hi
   |some n =>
    refine aS λGd hGd=>?_
    rw[hc]at hi;obtain rfl:V.int n=y:=US hi;obtain⟨b0,b1⟩:=o2 n (U2 hc);refine hGd ?_;refine⟨_,rfl,_,rfl,nO b0 b1,?_⟩;refine cI.mk (by rw[bo];exact(List.getElem?_eq_some_iff.mp hc).1) ae ⟨?_,by rw[gM]⟩
    rw[VJ,hc,kt];rfl
  rintro ys H3 ⟨rfl,rfl⟩;rw[bo,Vs];refine q D _ (hs1.new hD) (hs1.free hD) ?_;rw[ae];show some (HO.lst _)=some (HO.lst ((ns.map num).map V.str));rw[V4];rfl
theorem nS (T:Txt w.params K mg A):aC P w K mg base a5 4 A.mq A.gX ["deed"] (sQ K):=by
 have qd:aC P w K mg base a5 3 A.qK A.jI ["words"] (sP K):=(nQ T).mono (by decide)
 refine T.lh.F.ok C1 (by left) λ_ _ _ _ H _ Q E hr h=>?_
 obtain⟨t,d,rfl,hd,o,q⟩:=h;refine⟨_,(ao (aG (az qd hr T.lg (aa (bb eh (bK (aa (aO aY (pv 0) aj) ai)) (az (xm T) hr T.p6 (aa (pv 0) ai))) ai)))),?_⟩;symm;refine aS λGa hGa=>?_
 have lim:fu=16777216:=by decide
 obtain⟨b1,b2,b3⟩:=mG o;obtain⟨xs,hx,hx0⟩:=hd.at0;refine hGa ?_;refine a8 rfl hx hx0 ⟨(sl 1),λp hp=>?_⟩
 refine⟨_,rfl,t,d,rfl,hd.same (aw hp),o,λp2 H2 s2 hn2 h2=>?_⟩
 have hp2:H2 p=some (.lst [V.str (fO d)]):=s2 _ _ ae;refine⟨p,p2,_,_,rfl,rfl,hp2,h2,(by rw[bo];show 1+_<=_;omega),λp3 hp3=>?_⟩
 refine⟨p3,fO d::cX d,rfl,ay.of (by rw[ae];rfl),?_,q _ (((aw hp).trans s2).new hp3)⟩
 have:=StrLaws.sumLen_le (B:=20) (fO d::cX d) (λw hw=>by
  rcases List.mem_cons.mp hw with rfl | hw
  ·exact b3
  exact b2 w hw)
 rw[UQ]at this ⊢;omega
def Fe:bI->Prop
 | .nums kd ns=>kd=ar "put off"->∀i∈ns,1<=i/\i<=999999999
 |_=>True
def B4 (d:bI):Prop:=Fe d/\∀cs,d=.mat cs->cs.length<=12
theorem Dp {kd:Str}{ns:List Int}(h:¬kd=ar "put off"):Fe (.nums kd ns):=λz=>absurd z h
theorem qe {kd:Str}{ns:List Int}(h:¬kd=ar "put off"):B4 (.nums kd ns):=⟨Dp h,λ_ z=>nomatch z⟩
end R
inductive Rl where
 |ob | made | aJ | aU | bW | firsts | kept | rows
 |eT (n:Nat) | fP (n:Nat) | dq (n:Nat)
abbrev a6:=Addr->Option (Nat×Rl)
def cw (i:Nat)(x:Option (Nat×Rl)):Prop:=∃r,x=some (i,r)
theorem eK {i j:Nat}(n:i≠j)(r:Rl):¬cw j (some (i,r)):=λ⟨_,e⟩=>by cases e;exact n rfl
theorem a7 {i:Nat}:¬cw i none:=λ⟨_,e⟩=>by cases e
structure aq (W:Option (Nat×Rl)->Prop)(c c':a6)(H H':Hp):Prop where
 nn:¬W none
 keep:∀a v,H a=some v->¬W (c a)->H' a=some v
 there:∀a v,H a=some v->∃v',H' a=some v'
 col:∀a v,H a=some v->¬W (c a)->c' a=c a
section
variable{W W':Option (Nat×Rl)->Prop}{c c1 c2:a6}{H H' H1 H2:Hp}{a:Addr}{o:HO}
theorem aq.refl (n:¬W none):aq W c c H H:=⟨n,λ_ _ h _=>h,λ_ v h=>⟨v,h⟩,λ_ _ _ _=>rfl⟩
theorem aq.same (n:¬W none)(s:bh H H'):aq W c c H H':=⟨n,λa v h _=>s a v h,λa v h=>⟨v,s a v h⟩,λ_ _ _ _=>rfl⟩
theorem aq.mono (f:∀x,W x->W' x)(n:¬W' none)(s:aq W c c1 H H1):aq W' c c1 H H1 where
 nn:=n
 keep:=λa v h m=>s.keep a v h λz=>m (f _ z)
 there:=s.there
 col:=λa v h m=>s.col a v h λz=>m (f _ z)
theorem aq.trans (x:aq W c c1 H H1)(y:aq W c1 c2 H1 H2):aq W c c2 H H2 where
 nn:=x.nn
 keep:=λa v h n=>y.keep a v (x.keep a v h n) (by rw[x.col a v h n];exact n)
 there:=λa v h=>let ⟨v1,h1⟩:=x.there a v h;y.there a v1 h1
 col:=λa v h n=>(y.col a v (x.keep a v h n) (by rw[x.col a v h n];exact n)).trans (x.col a v h n)
theorem aq.ag (n:¬W none)(m:W (c a)):aq W c c H (_L.ag H a o) where
 nn:=n
 keep:=λb v h n=>by rw[ax (λz=>n (by rw[z];exact m))];exact h
 there:=λb v h=>by
  by_cases z:b=a
  ·rw[z];exact⟨o,ae⟩
  exact⟨v,by rw[ax z];exact h⟩
 col:=λ_ _ _ _=>rfl
noncomputable def aN (c:a6)(a:Addr)(x:Option (Nat×Rl)):a6:=λb=>if b=a then x else c b
theorem bj {x:Option (Nat×Rl)}:aN c a x a=x:=bp rfl
theorem a9 {b:Addr}{x:Option (Nat×Rl)}(h:b≠a):aN c a x b=c b:=aZ h
theorem aq.new {x:Option (Nat×Rl)}(n:¬W none)(h:H a=none):aq W c (aN c a x) H (_L.ag H a o) where
 nn:=n
 keep:=λb v e _=>aw h b v e
 there:=λb v e=>⟨v,aw h b v e⟩
 col:=λb v e _=>a9 (λz=>by rw[z,h]at e;cases e)
theorem aq.role {x:Option (Nat×Rl)}(n:¬W none)(m:W (c a)):aq W c (aN c a x) H H where
 nn:=n
 keep:=λ_ _ h _=>h
 there:=λ_ v h=>⟨v,h⟩
 col:=λb _ _ n=>a9 (λz=>n (by rw[z];exact m))
noncomputable def bP (c:a6)(H:Hp):a6:=λa=>if (H a).isSome then c a else none
theorem bS (h:H a=none):bP c H a=none:=by unfold bP;rw[h];rfl
theorem qf {v:HO}(h:H a=some v):bP c H a=c a:=by unfold bP;rw[h];rfl
theorem aq.cl (n:¬W none)(s:bh H H'):aq W c (bP c H) H H':=⟨n,λa v h _=>s a v h,λa v h=>⟨v,s a v h⟩,λ_ _ h _=>qf h⟩
end
def Wr (i:Nat)(p:Rl->Bool)(x:Option (Nat×Rl)):Prop:=∃r,x=some (i,r)/\p r=true
section
variable{i:Nat}{p:Rl->Bool}{r:Rl}{c c':a6}{H H':Hp}{a:Addr}
theorem Wr.nn:¬Wr i p none:=λ⟨_,e,_⟩=>nomatch e
theorem Wr.no (h:p r=false):¬Wr i p (some (i,r)):=λ⟨_,e,z⟩=>by cases e;rw[h]at z;cases z
theorem Wr.yes (e:c a=some (i,r))(h:p r=true):Wr i p (c a):=⟨r,e,h⟩
theorem aq.gk (s:aq (Wr i p) c c' H H'):aq (cw i) c c' H H':=s.mono (λ_ ⟨r,e,_⟩=>⟨r,e⟩) a7
theorem kE {o:Addr}{v:HO}(h:p .ob=false)(s:aq (Wr i p) c c' H H')(h1:c o=some (i,.ob))(h2:H o=some v):c' o=some (i,.ob)/\H' o=some v:=by
 have hn:¬Wr i p (c o):=by rw[h1];exact Wr.no h
 exact⟨by rw[s.col o _ h2 hn];exact h1,s.keep _ _ h2 hn⟩
end
inductive Mn where
 |mat (tx:List Str) | chg (e:Ed) | mnd (e:Ed) | off (n:Int) | cls | lay | rst | pnt (z:Str)
noncomputable def Mn.k:Mn->Nat
 | .mat _=>0 | .chg _=>1 | .mnd _=>2 | .off _=>3 | .cls=>4 | .lay=>5 | .rst=>6 | .pnt _=>7
theorem Mn.k8 (m:Mn):m.k < 8:=by cases m <;> simp only[Mn.k] <;> omega
def ck (c:a6)(H:Hp)(t:Addr)(xs:List V):Prop:=c t=none/\Rd H t (.tup xs)
theorem ck.sq {K:de}{c:a6}{H:Hp}{t:Addr}{xs:List V}(h:ck c H t xs):aW K H t xs:=.inl h.2
theorem ck.step {W:Option (Nat×Rl)->Prop}{c c':a6}{H H':Hp}{t:Addr}{xs:List V}(s:aq W c c' H H')(h:ck c H t xs):ck c' H' t xs:=by
 obtain⟨n,h⟩:=h;have hn:¬W (c t):=by rw[n];exact s.nn
 rcases h with h | ⟨o,h⟩
 ·exact⟨by rw[s.col t _ h hn];exact n,.inl (s.keep _ _ h hn)⟩
 exact⟨by rw[s.col t _ h hn];exact n,.inr ⟨o,s.keep _ _ h hn⟩⟩
def IE (c:a6)(H:Hp)(p:Addr)(tx:List Str):Prop:=c p=none/\H p=some (.lst (tx.map V.str))
theorem IE.step {W:Option (Nat×Rl)->Prop}{c c':a6}{H H':Hp}{p:Addr}{tx:List Str}(s:aq W c c' H H')(h:IE c H p tx):IE c' H' p tx :=
 have hn:¬W (c p):=by rw[h.1];exact s.nn
 ⟨by rw[s.col p _ h.2 hn];exact h.1,s.keep _ _ h.2 hn⟩
def Mn.Val (c:a6)(H:Hp):Mn->V->Prop
 | .mat tx,v=>∃p,v=.ref p/\IE c H p tx
 | .chg e,v=>∃t,v=.ref t/\ck c H t (fF e)
 | .mnd e,v=>∃t,v=.ref t/\ck c H t (fF e)
 | .off n,v=>v=.int n
 | .pnt z,v=>v=.str z
 |_,_=>True
theorem Mn.Val.step {W:Option (Nat×Rl)->Prop}{c c':a6}{H H':Hp}(s:aq W c c' H H'):∀ {m:Mn} {v:V},m.Val c H v->m.Val c' H' v
 | .mat _,_,⟨p,e,h⟩=>⟨p,e,h.step s⟩
 | .chg _,_,⟨t,e,h⟩=>⟨t,e,h.step s⟩
 | .mnd _,_,⟨t,e,h⟩=>⟨t,e,h.step s⟩
 | .off _,_,h=>h
 | .pnt _,_,h=>h
 | .cls,_,_=>trivial
 | .lay,_,_=>trivial
 | .rst,_,_=>trivial
def kF (A:ba)(c:a6)(H:Hp)(m:Mn)(o:Addr):Prop:=c o=none/\∃dx v,H o=some (.ins (A.C m.k) dx (mF m.k v))/\m.Val c H v
theorem kF.step {A:ba}{W:Option (Nat×Rl)->Prop}{c c':a6}{H H':Hp}{m:Mn}{o:Addr}(s:aq W c c' H H')(h:kF A c H m o):kF A c' H' m o:=by
 obtain⟨n,dx,v,h,hv⟩:=h;have hn:¬W (c o):=by rw[n];exact s.nn
 exact⟨by rw[s.col o _ h hn];exact n,dx,v,s.keep _ _ h hn,hv.step s⟩
structure Ch where
 cq:Int
 bc:Int
 closed:Bool
 made:List Mn
 aJ:List Nat
 aU:List (Nat×Int×List Nat)
 bW:List (Nat×Str)
 firsts:List (Nat×List Str)
 kept:List (Nat×List Ed)
 rows:List Str
def nV (n:Nat):V:=.int (n:Int)
noncomputable def bD (xs:List (Nat×V)):List (Key×V):=xs.map λp=>(om (p.1:Int),p.2)
inductive bN {α β:Type}(R:α->β->Prop):List α->List β->Prop
 |nil:bN R [] []
 |cons {a b as bs}:R a b->bN R as bs->bN R (a::as) (b::bs)
theorem bN.imp {α β:Type}{R R':α->β->Prop}(f:∀a b,R a b->R' a b):∀ {as:List α} {bs:List β},bN R as bs->bN R' as bs
 |_,_,.nil=>.nil
 |_,_,.cons h t=>.cons (f _ _ h) (t.imp f)
def bT (i:Nat)(c:a6)(H:Hp)(r:Rl)(a:Addr)(xs:List V):Prop:=c a=some (i,r)/\H a=some (.lst xs)
def d5 (i:Nat)(c:a6)(H:Hp)(r:Rl)(a:Addr)(xs:List (Nat×V)):Prop:=c a=some (i,r)/\H a=some (.dK (bD xs))
noncomputable def chF (v0 v1 v2 v3 v4 v5 v6 v7 v8 v9:V):List (Str×V):=[(ar "seats",v0),(ar "sitting",v1),(ar "closed",v2),(ar "made",v3),(ar "pile",v4),(ar "aside",v5),(ar "decided",v6),(ar "first_texts",v7),(ar "edits_kept",v8),(ar "rows",v9)]
abbrev IF (i:Nat)(c:a6)(H:Hp)(x:Nat×Int×List Nat)(v:V):Prop:=∃t p,v=.ref t/\ck c H t [.int x.2.1,.ref p]/\bT i c H (.eT x.1) p (x.2.2.map nV)
abbrev Dq (i:Nat)(c:a6)(H:Hp)(x:Nat×List Str)(v:V):Prop:=∃p,v=.ref p/\bT i c H (.dq x.1) p (x.2.map V.str)
abbrev IG (i:Nat)(c:a6)(H:Hp)(x:Nat×List Ed)(v:V):Prop:=∃p ts,v=.ref p/\bT i c H (.fP x.1) p (ts.map V.ref)/\bN (λe t=>ck c H t (fF e)) x.2 ts
structure ChX (A:ba)(i:Nat)(c:a6)(H:Hp)(o:Addr)(st:Ch)(dx aM aP aA aD aF aE aR:Addr)(ms ds:List Addr)(ws fs es:List V):Prop where
 co:c o=some (i,.ob)
 ob:H o=some (.ins A.aX dx (chF (.int st.cq) (.int st.bc) (.bl st.closed) (.ref aM) (.ref aP) (.ref aA) (.ref aD) (.ref aF) (.ref aE) (.ref aR)))
 made:d5 i c H .made aM ((Vm 1 st.made.length).zip (ms.map V.ref))
 mot:bN (λm p=>kF A c H m p) st.made ms
 aJ:bT i c H .aJ aP (st.aJ.map nV)
 aU:d5 i c H .aU aA ((st.aU.map (·.1)).zip ws)
 wait:bN (IF i c H) st.aU ws
 dec:bT i c H .bW aD (ds.map V.ref)
 jN:bN (λ(x:Nat×Str) t=>ck c H t [nV x.1,.str x.2]) st.bW ds
 firsts:d5 i c H .firsts aF ((st.firsts.map (·.1)).zip fs)
 first:bN (Dq i c H) st.firsts fs
 ja:d5 i c H .kept aE ((st.kept.map (·.1)).zip es)
 kept:bN (IG i c H) st.kept es
 rows:bT i c H .rows aR (st.rows.map V.str)
structure bM (A:ba)(i:Nat)(c:a6)(H:Hp)(o:Addr)(st:Ch):Prop where
 ex:∃(dx aM aP aA aD aF aE aR:Addr) (ms ds:List Addr) (ws fs es:List V),ChX A i c H o st dx aM aP aA aD aF aE aR ms ds ws fs es
theorem bT.keep {i:Nat}{W:Option (Nat×Rl)->Prop}{c c':a6}{H H':Hp}{r:Rl}{a:Addr}{xs:List V}(n:¬W (some (i,r)))(s:aq W c c' H H')(h:bT i c H r a xs):bT i c' H' r a xs:=by
 have hn:¬W (c a):=by rw[h.1];exact n
 exact⟨by rw[s.col a _ h.2 hn];exact h.1,s.keep _ _ h.2 hn⟩
theorem d5.keep {i:Nat}{W:Option (Nat×Rl)->Prop}{c c':a6}{H H':Hp}{r:Rl}{a:Addr}{xs:List (Nat×V)}(n:¬W (some (i,r)))(s:aq W c c' H H')(h:d5 i c H r a xs):d5 i c' H' r a xs:=by
 have hn:¬W (c a):=by rw[h.1];exact n
 exact⟨by rw[s.col a _ h.2 hn];exact h.1,s.keep _ _ h.2 hn⟩
section
variable{A:ba}{i:Nat}{p:Rl->Bool}{r:Rl}{c c':a6}{H H':Hp}{a o:Addr}
theorem bT.kp {xs:List V}(h:p r=false)(s:aq (Wr i p) c c' H H')(z:bT i c H r a xs):bT i c' H' r a xs:=z.keep (Wr.no h) s
theorem d5.kp {xs:List (Nat×V)}(h:p r=false)(s:aq (Wr i p) c c' H H')(z:d5 i c H r a xs):d5 i c' H' r a xs:=z.keep (Wr.no h) s
theorem bN.imp_mem {α β:Type}{R R':α->β->Prop}:∀ {as:List α} {bs:List β},(∀a∈as,∀b,R a b->R' a b)->bN R as bs->bN R' as bs
 |_,_,_,.nil=>.nil
 |_,_,f,.cons h t=>.cons (f _ eg _ h) (t.imp_mem λa m b=>f a (ma _ m) b)
theorem qg {as:List Mn}{ms:List Addr}{W:Option (Nat×Rl)->Prop}(s:aq W c c' H H')(z:bN (λm p=>kF A c H m p) as ms):bN (λm p=>kF A c' H' m p) as ms:=z.imp λ_ _ y=>y.step s
theorem ia {as:List (Nat×Str)}{ds:List Addr}{W:Option (Nat×Rl)->Prop}(s:aq W c c' H H')(z:bN (λ(x:Nat×Str) t=>ck c H t [nV x.1,.str x.2]) as ds):bN (λ(x:Nat×Str) t=>ck c' H' t [nV x.1,.str x.2]) as ds:=z.imp λ_ _ y=>y.step s
theorem jb {as:List (Nat×Int×List Nat)}{ws:List V}(h:∀x∈as,p (.eT x.1)=false)(s:aq (Wr i p) c c' H H')(z:bN (IF i c H) as ws):bN (IF i c' H') as ws :=
 z.imp_mem λx m v ⟨t,q,e,z1,z2⟩=>⟨t,q,e,z1.step s,z2.kp (h x m) s⟩
theorem rS {as:List (Nat×List Str)}{ws:List V}(h:∀x∈as,p (.dq x.1)=false)(s:aq (Wr i p) c c' H H')(z:bN (Dq i c H) as ws):bN (Dq i c' H') as ws :=
 z.imp_mem λx m v ⟨q,e,z2⟩=>⟨q,e,z2.kp (h x m) s⟩
theorem uE {as:List (Nat×List Ed)}{ws:List V}(h:∀x∈as,p (.fP x.1)=false)(s:aq (Wr i p) c c' H H')(z:bN (IG i c H) as ws):bN (IG i c' H') as ws :=
 z.imp_mem λx m v ⟨q,ts,e,z2,z3⟩=>⟨q,ts,e,z2.kp (h x m) s,z3.imp λ_ _ y=>y.step s⟩
end
theorem bM.other {A:ba}{i j:Nat}(n:i≠j){c c':a6}{H H':Hp}{o:Addr}{st:Ch}(s:aq (cw j) c c' H H')(h:bM A i c H o st):bM A i c' H' o st:=by
 obtain⟨dx,aM,aP,aA,aD,aF,aE,aR,ms,ds,ws,fs,es,h1,h2,h3,h4,h5,h6,h7,h8,h9,h10,h11,h12,h13,h14⟩:=h.ex;have no:=λr=>eK n r
 have hn:¬cw j (c o):=by rw[h1];exact no _
 refine⟨dx,aM,aP,aA,aD,aF,aE,aR,ms,ds,ws,fs,es,by rw[s.col o _ h2 hn];exact h1,s.keep _ _ h2 hn,h3.keep (no _) s,h4.imp λ_ _ z=>z.step s,h5.keep (no _) s,h6.keep (no _) s,h7.imp ?_,h8.keep (no _) s,h9.imp λ_ _ z=>z.step s,
  h10.keep (no _) s,h11.imp ?_,h12.keep (no _) s,h13.imp ?_,h14.keep (no _) s⟩
 ·rintro x v ⟨t,p,e,z1,z2⟩;exact⟨t,p,e,z1.step s,z2.keep (no _) s⟩
 ·rintro x v ⟨p,e,z⟩;exact⟨p,e,z.keep (no _) s⟩
 rintro x v ⟨p,ts,e,z1,z2⟩;exact⟨p,ts,e,z1.keep (no _) s,z2.imp λ_ _ y=>y.step s⟩
section
variable{v0 v1 v2 v3 v4 v5 v6 v7 v8 v9 y:V}
theorem qN:(chF v0 v1 v2 v3 v4 v5 v6 v7 v8 v9).lookup (ar "seats")=some v0:=by simp only[chF,VE,show (ar "seats" == ar "seats")=true from by trivial]
theorem jc:(chF v0 v1 v2 v3 v4 v5 v6 v7 v8 v9).lookup (ar "sitting")=some v1:=by simp only[chF,VE,show (ar "sitting" == ar "seats")=false from by trivial,show (ar "sitting" == ar "sitting")=true from by trivial]
theorem zN:(chF v0 v1 v2 v3 v4 v5 v6 v7 v8 v9).lookup (ar "closed")=some v2:=by simp only[chF,VE,show (ar "closed" == ar "seats")=false from by trivial,show (ar "closed" == ar "sitting")=false from by trivial,show (ar "closed" == ar "closed")=true from by trivial]
theorem fQ:(chF v0 v1 v2 v3 v4 v5 v6 v7 v8 v9).lookup (ar "made")=some v3:=by simp only[chF,VE,show (ar "made" == ar "seats")=false from by trivial,show (ar "made" == ar "sitting")=false from by trivial,show (ar "made" == ar "closed")=false from by trivial,show (ar "made" == ar "made")=true from by trivial]
theorem fg:(chF v0 v1 v2 v3 v4 v5 v6 v7 v8 v9).lookup (ar "pile")=some v4:=by simp only[chF,VE,show (ar "pile" == ar "seats")=false from by trivial,show (ar "pile" == ar "sitting")=false from by trivial,show (ar "pile" == ar "closed")=false from by trivial,show (ar "pile" == ar "made")=false from by trivial,show (ar "pile" == ar "pile")=true from by trivial]
theorem jY:(chF v0 v1 v2 v3 v4 v5 v6 v7 v8 v9).lookup (ar "aside")=some v5:=by simp only[chF,VE,show (ar "aside" == ar "seats")=false from by trivial,show (ar "aside" == ar "sitting")=false from by trivial,show (ar "aside" == ar "closed")=false from by trivial,show (ar "aside" == ar "made")=false from by trivial,show (ar "aside" == ar "pile")=false from by trivial,show (ar "aside" == ar "aside")=true from by trivial]
theorem wV:(chF v0 v1 v2 v3 v4 v5 v6 v7 v8 v9).lookup (ar "decided")=some v6:=by simp only[chF,VE,show (ar "decided" == ar "seats")=false from by trivial,show (ar "decided" == ar "sitting")=false from by trivial,show (ar "decided" == ar "closed")=false from by trivial,show (ar "decided" == ar "made")=false from by trivial,show (ar "decided" == ar "pile")=false from by trivial,show (ar "decided" == ar "aside")=false from by trivial,show (ar "decided" == ar "decided")=true from by trivial]
theorem xo:(chF v0 v1 v2 v3 v4 v5 v6 v7 v8 v9).lookup (ar "first_texts")=some v7:=by simp only[chF,VE,show (ar "first_texts" == ar "seats")=false from by trivial,show (ar "first_texts" == ar "sitting")=false from by trivial,show (ar "first_texts" == ar "closed")=false from by trivial,show (ar "first_texts" == ar "made")=false from by trivial,show (ar "first_texts" == ar "pile")=false from by trivial,show (ar "first_texts" == ar "aside")=false from by trivial,show (ar "first_texts" == ar "decided")=false from by trivial,show (ar "first_texts" == ar "first_texts")=true from by trivial]
theorem qh:(chF v0 v1 v2 v3 v4 v5 v6 v7 v8 v9).lookup (ar "edits_kept")=some v8:=by simp only[chF,VE,show (ar "edits_kept" == ar "seats")=false from by trivial,show (ar "edits_kept" == ar "sitting")=false from by trivial,show (ar "edits_kept" == ar "closed")=false from by trivial,show (ar "edits_kept" == ar "made")=false from by trivial,show (ar "edits_kept" == ar "pile")=false from by trivial,show (ar "edits_kept" == ar "aside")=false from by trivial,show (ar "edits_kept" == ar "decided")=false from by trivial,show (ar "edits_kept" == ar "first_texts")=false from by trivial,show (ar "edits_kept" == ar "edits_kept")=true from by trivial]
theorem qi:(chF v0 v1 v2 v3 v4 v5 v6 v7 v8 v9).lookup (ar "rows")=some v9:=by simp only[chF,VE,show (ar "rows" == ar "seats")=false from by trivial,show (ar "rows" == ar "sitting")=false from by trivial,show (ar "rows" == ar "closed")=false from by trivial,show (ar "rows" == ar "made")=false from by trivial,show (ar "rows" == ar "pile")=false from by trivial,show (ar "rows" == ar "aside")=false from by trivial,show (ar "rows" == ar "decided")=false from by trivial,show (ar "rows" == ar "first_texts")=false from by trivial,show (ar "rows" == ar "edits_kept")=false from by trivial,show (ar "rows" == ar "rows")=true from by trivial]
theorem Ff:jh (ar "sitting") y (chF v0 v1 v2 v3 v4 v5 v6 v7 v8 v9)=chF v0 y v2 v3 v4 v5 v6 v7 v8 v9:=by
 unfold chF;simp only[jh];rw[aZ (by trivial),bp trivial]
theorem zO:jh (ar "closed") y (chF v0 v1 v2 v3 v4 v5 v6 v7 v8 v9)=chF v0 v1 y v3 v4 v5 v6 v7 v8 v9:=by
 unfold chF;simp only[jh];rw[aZ (by trivial),aZ (by trivial),bp trivial]
theorem Fg:jh (ar "pile") y (chF v0 v1 v2 v3 v4 v5 v6 v7 v8 v9)=chF v0 v1 v2 v3 y v5 v6 v7 v8 v9:=by
 unfold chF;simp only[jh];rw[aZ (by trivial),aZ (by trivial),aZ (by trivial),aZ (by trivial),bp trivial]
end
def JJ (A:ba)(i:Nat):Sp:=λvs H Q E=>∃(o:Addr) (c:a6) (st:Ch),vs=[.ref o]/\bM A i c H o st/\st.aJ≠[]/\Q .non H
theorem kG (T:Txt w.params K mg A){i:Nat}:aC P w K mg base a5 1 A.d7 A.d3 ["self"] (JJ A i):=by
 refine T.kN.ok j8 (by left) λ_ _ _ _ H _ Q E hr h=>?_
 obtain⟨o,c,st,rfl,hc,hne,q⟩:=h;obtain⟨dx,aM,aP,aA,aD,aF,aE,aR,ms,ds,ws,fs,es,h1,h2,h3,h4,h5,h6,h7,h8,h9,h10,h11,h12,h13,h14⟩:=hc.ex;refine⟨_,(ao (bf (mT (ph (bH (pv 0) rfl) (λ_=>rfl)))
 (ao ps_dead)
 aK)),?_⟩
 symm;refine eO rfl h2 T.aH T.bQ fg ?_;refine⟨_,.inl ⟨_,.inl (.inl h5.2),rfl⟩,?_⟩;cases e:st.aJ with
 |nil=>exact absurd e hne
 |cons x r=>exact b8 q
theorem bN.len {α β:Type}{R:α->β->Prop}:∀ {as:List α} {bs:List β},bN R as bs->as.length=bs.length
 |_,_,.nil=>rfl
 |_,_,.cons _ t=>by rw[UQ,UQ,t.len]
theorem bN.get {α β:Type}{R:α->β->Prop}:∀ {as:List α} {bs:List β} {i:Nat} {a:α},bN R as bs->as[i]?=some a->∃b,bs[i]?=some b/\R a b
 |_,_,_,_,.nil,h=>by simp at h
 |_,_,0,_,.cons h t,e=>by
  rw[Vr]at e;cases e;exact⟨_,Vr,h⟩
 |_,_,i+1,_,.cons h t,e=>by
  rw[Vt]at e;obtain⟨b,e1,e2⟩:=t.get e;exact⟨b,by rw[Vt];exact e1,e2⟩
theorem zP:∀(ms:List Addr) (s k:Nat) {o:Addr},ms[k]?=some o->d6 (bD ((Vm s ms.length).zip (ms.map V.ref))) (om ((s+k:Nat):Int))=some (.ref o)
 |[],_,_,_,h=>by simp at h
 |m::ms,s,0,o,h=>by
  rw[Vr]at h;cases h;exact cJ (p:=(om ((s:Nat):Int),V.ref m)) rfl
 |m::ms,s,k+1,o,h=>by
  rw[Vt]at h;have ih:=zP ms (s+1) k h;have e:s+(k+1)=s+1+k:=by omega
  rw[e];refine(bR (p:=(om ((s:Nat):Int),V.ref m)) ?_).trans ih;intro z;have z':((s:Nat):Int)=((s+1+k:Nat):Int):=Sum.inl.inj z;omega
noncomputable def Ch.mo (st:Ch)(n:Nat):Mn:=st.made.getD (n - 1) .cls
def dY (st:Ch)(n:Nat):Prop:=1<=n/\n<=st.made.length
def JK (A:ba)(i:Nat):Sp:=λvs H Q _=>∃(o:Addr) (c:a6) (st:Ch),vs=[.ref o]/\bM A i c H o st/\(∀n∈st.aJ,dY st n)/\st.aJ.length<=1000 /\
 ∀R os,H R=none->bN (λn m=>kF A c H (st.mo n) m) st.aJ os->Q (.ref R) (ag H R (.lst (os.map V.ref)))
theorem IH {A:ba}{c:a6}{H:Hp}{st:Ch}{ms:List Addr}(h:bN (λm p=>kF A c H m p) st.made ms):∀(ns:List Nat),(∀n∈ns,dY st n)->bN (λn m=>kF A c H (st.mo n) m) ns (ns.map λn=>ms.getD (n - 1) 0)
 |[],_=>.nil
 |n::ns,g=>by
  have hn:=g n eg;have hlt:n - 1 < st.made.length:=by have:=hn.1;have:=hn.2;omega
  obtain⟨b,e1,e2⟩:=h.get (wa hlt);refine .cons ?_ (IH h ns λn hn=>g n (ma _ hn))
  have e3:st.mo n=st.made[n - 1]:=by unfold Ch.mo;rw[U7,wa hlt];rfl
  have e4:ms.getD (n - 1) 0=b:=by rw[U7,e1];rfl
  show kF A c H (st.mo n) (ms.getD (n - 1) 0);rw[e3,e4];exact e2
theorem GX (T:Txt w.params K mg A){i:Nat}:aC P w K mg base a5 1 A.gZ A.gy ["self"] (JK A i):=by
 refine T.ux.ok sf (by left) λ_ _ _ _ H _ Q E hr h=>?_
 obtain⟨o,c,st,rfl,hc,hp,hpl,q⟩:=h;obtain⟨dx,aM,aP,aA,aD,aF,aE,aR,ms,ds,ws,fs,es,h1,h2,h3,h4,h5,h6,h7,h8,h9,h10,h11,h12,h13,h14⟩:=hc.ex;have bt:=hr.u1;refine⟨_,(ao (aG (gS (scope:=ik) pG rfl (eW (bH (pv 0) rfl)) (λ_ _ _ _ _=>(bx bt (Nx (K:=K) rfl (pv 1) rfl) (pv 0)))))),?_⟩
 symm;have ml:=h4.len;refine eO rfl h2 T.aH T.bQ fg ?_;have hB:ay K H aP (st.aJ.map nV):=ay.of h5.2;refine⟨aP,rfl,⟨_,hB⟩,λR hR=>?_⟩
 have sR:∀ {o:HO},bh H (ag H R o):=aw hR;refine iz (K:=K) (a:=aP) (xs:=st.aJ.map nV) (λi ys H2=>ys=((st.aJ.take i).map λn=>V.ref (ms.getD (n - 1) 0))/\H2=ag H R (.lst ys)) ⟨rfl,rfl⟩ (by rw[bo,sizeLine_eq];omega) ?_ ?_ ?_
 ·rintro i ys H2 hi ⟨rfl,rfl⟩;rw[bo]at hi;exact⟨sR.seq hB,ae,by rw[bo,Vf];omega⟩
 ·rintro i y ys H2 hy ⟨rfl,rfl⟩;refine aS λGa hGa=>?_
  obtain⟨n,hn1,rfl⟩:∃n,st.aJ[i]?=some n/\nV n=y:=by
   rw[sr]at hy;cases ht:st.aJ[i]? with
   |none=>rw[ht]at hy;cases hy
   |some t=>rw[ht]at hy;exact⟨t,rfl,US hy⟩
  have hn:=hp n (U2 hn1);have hlt:n - 1 < ms.length:=by have:=hn.1;have:=hn.2;omega
  have hm:ms[n - 1]?=some (ms.getD (n - 1) 0):=by rw[U7,wa hlt];rfl
  have hv:=zP ms 1 (n - 1) hm;rw[<-ml,show 1+(n - 1)=n by have:=hn.1;omega]at hv
  refine hGa ?_;refine eO rfl (sR _ _ h2) T.aH T.bX fQ ?_;refine⟨_,rfl,aM,_,rfl,.inl ⟨_,om (n:Int),.inl (sR _ _ h3.2),rfl,hv.symm⟩,?_⟩;refine cI.mk (List.getElem?_eq_some_iff.mp hy).1 ae ⟨?_,by rw[gM]⟩
  rw[VJ,hn1,kt];rfl
 rintro ys H2 ⟨rfl,rfl⟩;rw[bo,Vs];have:=q R _ hR (IH h4 st.aJ hp);rw[V4]at this;exact this
theorem bN.snoc {α β:Type}{R:α->β->Prop}:∀ {as:List α} {bs:List β} {a:α} {b:β},bN R as bs->R a b->bN R (as++[a]) (bs++[b])
 |_,_,_,_,.nil,h=>.cons h .nil
 |_,_,_,_,.cons g t,h=>.cons g (t.snoc h)
def LP (A:ba)(i:Nat):Sp:=λvs H Q _=>∃(o:Addr) (wd:Str) (c:a6) (st:Ch) (pre:List Nat) (n:Nat),vs=[.ref o,.str wd]/\bM A i c H o st/\st.aJ=pre++[n]/\st.aJ.length<=1000/\st.bW.length<=1000 /\
 ∀c' H',aq (cw i) c c' H H'->bM A i c' H' o { st with aJ:=pre,bW:=st.bW++[(n,wd)] }->Q .non H'
theorem B5 (T:Txt w.params K mg A){i:Nat}:aC P w K mg base a5 1 A.iF A.g0 ["self","word"] (LP A i):=by
 refine T.vv.ok tV (by left) λ_ _ _ _ H _ Q E hr h=>?_
 obtain⟨o,wd,c,st,pre,n,rfl,hc,hp,hpl,hdl,q⟩:=h;obtain⟨dx,aM,aP,aA,aD,aF,aE,aR,ms,ds,ws,fs,es,h1,h2,h3,h4,h5,h6,h7,h8,h9,h10,h11,h12,h13,h14⟩:=hc.ex;refine⟨_,(ao (bw (dE tu UZ U0 cz (bH (pv 0) rfl) (aa (bu (aa (Kr tu PySem.F.slot_list_pop PySem.F.type_list_pop Kw (bH (pv 0) rfl)) (aa (pv 1) ai))) ai)))),?_⟩;symm;refine eO rfl h2 T.aH T.gA wV ?_;have hy:(st.aJ.map nV)[(st.aJ.map nV).length - 1]?=some (nV n):=by rw[hp];simp
 have hdr:(st.aJ.map nV).dropLast=pre.map nV:=by rw[hp,kt];simp
 have nPD:aD≠aP:=λz=>by have:=h8.1;rw[z,h5.1]at this;cases this
 refine⟨.inl ⟨rfl,_,ay.of h8.2⟩,eO rfl h2 T.aH T.bQ fg ?_⟩;refine⟨.inl ⟨rfl,_,ay.of h5.2⟩,aP,_,_,rfl,rfl,h5.2,hy,_,rfl,(sl 2),λp hp0=>?_⟩
 have np:∀ {a:Addr} {v:HO},H a=some v->a≠p:=by
  intro a v e z;subst z
  by_cases y:a=aP
  ·subst y;rw[ae]at hp0;cases hp0
  rw[ax y,e]at hp0;cases hp0
 have nn:¬(λx=>x=some (i,Rl.aJ)\/x=some (i,Rl.bW)) (none:Option (Nat×Rl)):=by rintro (z | z) <;> cases z
 refine⟨aD,_,_,rfl,rfl,(ax (np h8.2)).trans ((ax nPD).trans h8.2),?_,?_⟩
 ·rw[bo,<-h9.len,sizeLine_eq];omega
 have sp:aq (λx=>x=some (i,Rl.aJ)\/x=some (i,Rl.bW)) c (aN c p none) H (ag (ag (ag H aP (.lst (st.aJ.map nV).dropLast)) p (.tup [nV n,.str wd])) aD (.lst (ds.map V.ref++[.ref p]))) :=
  ((aq.ag nn (.inl h5.1)).trans (aq.new nn hp0)).trans (aq.ag nn (.inr (by rw[a9 (np h8.2)];exact h8.1)))
 have ht:ck (aN c p none) (ag (ag (ag H aP (.lst (st.aJ.map nV).dropLast)) p (.tup [nV n,.str wd])) aD (.lst (ds.map V.ref++[.ref p]))) p [nV n,.str wd] :=
  ⟨bj,.inl ((ax (np h8.2).symm).trans ae)⟩
 have kp:bT i (aN c p none) (ag (ag (ag H aP (.lst (st.aJ.map nV).dropLast)) p (.tup [nV n,.str wd])) aD (.lst (ds.map V.ref++[.ref p]))) .aJ aP (pre.map nV) :=
  ⟨by rw[a9 (np h5.2)];exact h5.1,by rw[ax nPD.symm,ax (np h5.2),ae,hdr]⟩
 have kd:bT i (aN c p none) (ag (ag (ag H aP (.lst (st.aJ.map nV).dropLast)) p (.tup [nV n,.str wd])) aD (.lst (ds.map V.ref++[.ref p]))) .bW aD ((ds++[p]).map V.ref) :=
  ⟨by rw[a9 (np h8.2)];exact h8.1,by rw[ae,kt];rfl⟩
 generalize ag (ag (ag H aP (.lst (st.aJ.map nV).dropLast)) p (.tup [nV n,.str wd])) aD (.lst (ds.map V.ref++[.ref p]))=H' at sp ht kp kd ⊢;generalize aN c p none=c' at sp ht kp kd;have no:∀r,r≠Rl.aJ->r≠Rl.bW->¬(λx=>x=some (i,Rl.aJ)\/x=some (i,Rl.bW)) (some (i,r)):=λr y1 y2=>by
  rintro (z | z)
  ·cases z;exact y1 rfl
  cases z;exact y2 rfl
 have hno:=no .ob (λz=>nomatch z) (λz=>nomatch z)
 refine q c' H' (sp.mono (by rintro x (z | z) <;> exact⟨_,z⟩) a7) ⟨dx,aM,aP,aA,aD,aF,aE,aR,ms,ds++[p],ws,fs,es,by rw[sp.col o _ h2 (by rw[h1];exact hno)];exact h1,sp.keep _ _ h2 (by rw[h1];exact hno),
  h3.keep (no .made (λz=>nomatch z) (λz=>nomatch z)) sp,h4.imp λ_ _ z=>z.step sp,kp,h6.keep (no .aU (λz=>nomatch z) (λz=>nomatch z)) sp,h7.imp ?_,kd,(h9.imp λ_ _ z=>z.step sp).snoc ht,
  h10.keep (no .firsts (λz=>nomatch z) (λz=>nomatch z)) sp,h11.imp ?_,h12.keep (no .kept (λz=>nomatch z) (λz=>nomatch z)) sp,h13.imp ?_,h14.keep (no .rows (λz=>nomatch z) (λz=>nomatch z)) sp⟩
 ·rintro x v ⟨t,a,e,z1,z2⟩;exact⟨t,a,e,z1.step sp,z2.keep (no (.eT x.1) (λz=>nomatch z) (λz=>nomatch z)) sp⟩
 ·rintro x v ⟨a,e,z⟩;exact⟨a,e,z.keep (no (.dq x.1) (λz=>nomatch z) (λz=>nomatch z)) sp⟩
 rintro x v ⟨a,ts,e,z1,z2⟩;exact⟨a,ts,e,z1.keep (no (.fP x.1) (λz=>nomatch z) (λz=>nomatch z)) sp,z2.imp λ_ _ y=>y.step sp⟩
inductive Xc where
 |Ds (b:Int) | qj | noChange | noFit | zQ (n:Int) | nothing | tooMany | xG | LQ (n:Int) | LR
theorem same_none {H H':Hp}(s:bh H H'){a:Addr}(h:H' a=none):H a=none:=by
 cases z:H a with
 |none=>rfl
 |some v=>rw[s _ _ z]at h;cases h
theorem vA {i:Int}(h0:-10000000000 < i)(h1:i < 10000000000):i.natAbs.log2 < 1920:=by
 have h:i.natAbs < 2 ^ 34:=by
  have:(10000000000:Int)<=2 ^ 34:=by decide
  omega
 by_cases hz:i.natAbs=0
 ·rw[hz];decide
 exact Nat.lt_trans ((Nat.log2_lt hz).mpr h) (by decide)
def q5 (ms:List Mn):Int:=match ms.getLast? with
 |none=>-1
 |some m=>(m.k:Int)
def uF (cl:Bool)(ms:List Mn):Int:=if cl=true then (if (4:Int) > q5 ms then 4 else q5 ms) else q5 ms
def sS (ms:List Mn):Bool:=ms.any λm=>decide (m.k=0)
noncomputable def fb (ms:List Mn):Bool:=match ms.getLast? with
 |some (.chg e)=>!decide (e.k=1)
 |_=>false
def qk (ms:List Mn)(k:Nat):Bool:=if k=2 then fb ms else if k=1\/k=3\/k=4\/k=5 then sS ms else true
def q8 (cl:Bool)(ms:List Mn)(k:Nat):Option Xc :=
 if (k:Int)<=uF cl ms then some (.Ds (uF cl ms)) else if qk ms k=true then none else if sS ms=true then some .noChange else some .qj
theorem QA (ms:List Mn):-1<=q5 ms/\q5 ms < 8:=by
 unfold q5;split
 ·omega
 rename_i m _;have:=m.k8;omega
def uG (A:ba)(K:de)(c:a6)(H:Hp)(B:Addr)(ms:List Mn)(os:List Addr):Prop:=ay K H B (os.map V.ref)/\bN (λm p=>kF A c H m p) ms os
theorem kF.same {A:ba}{c:a6}{H H':Hp}{m:Mn}{o:Addr}(s:bh H H')(h:kF A c H m o):kF A c H' m o:=h.step (aq.same (W:=λ_=>False) id s)
theorem uG.same {A:ba}{K:de}{c:a6}{H H':Hp}{B:Addr}{ms:List Mn}{os:List Addr}(s:bh H H')(h:uG A K c H B ms os):uG A K c H' B ms os:=⟨s.seq h.1,h.2.imp λ_ _ y=>y.same s⟩
def Sn (A:ba)(K:de):Sp:=λvs H Q _=>∃(B:Addr) (cl:Bool) (c:a6) (ms:List Mn) (os:List Addr),vs=[.ref B,.bl cl]/\uG A K c H B ms os/\Q (.int (uF cl ms)) H
def So (A:ba)(K:de):Sp:=λvs H Q _=>∃(B:Addr) (c:a6) (ms:List Mn) (os:List Addr),vs=[.ref B]/\uG A K c H B ms os/\ms.length<=1000/\∀H',bh H H'->Q (.bl (sS ms)) H'
def QB (A:ba)(K:de):Sp:=λvs H Q _=>∃(B:Addr) (c:a6) (ms:List Mn) (os:List Addr),vs=[.ref B]/\uG A K c H B ms os/\∀H',bh H H'->Q (.bl (fb ms)) H'
def NL (A:ba)(K:de):Sp:=λvs H Q _=>∃(k:Nat) (B:Addr) (c:a6) (ms:List Mn) (os:List Addr),vs=[.str (nm k),.ref B]/\k < 8/\uG A K c H B ms os/\ms.length<=1000/\∀H',bh H H'->Q (.bl (qk ms k)) H'
def Sq (A:ba)(K:de):Sp:=λvs H Q E=>∃(k:Nat) (B:Addr) (cl:Bool) (c:a6) (ms:List Mn) (os:List Addr),vs=[.str (nm k),.ref B,.bl cl]/\k < 8/\uG A K c H B ms os/\ms.length<=1000 /\
 q8 cl ms k=none/\∀H',bh H H'->Q .non H'
def Dt (A:ba)(K:de)(k:Nat):Sp:=λvs H Q E=>(k=0/\IB A K vs H Q E)\/GU A k vs H Q E
theorem zR (pre:List Addr)(q:Addr):atI ((pre++[q]).map V.ref) (-1)=some (.ref q):=by
 rw[kt];exact fG _ _
theorem zS:∀k,k < 8->decide (V.str (nm k)=V.str (ar "matter"))=decide (k=0):=by trivial
theorem cA:∀k,k < 8->decide (V.str (nm k)=V.str (ar "change"))=decide (k=1):=by trivial
theorem cE:∀k,k < 8->decide (V.str (nm k)=V.str (ar "mend"))=decide (k=2):=by trivial
theorem fR:∀k,k < 8->decide (V.str (nm k)=V.str (ar "put off"))=decide (k=3):=by trivial
theorem ib:∀k,k < 8->decide (V.str (nm k)=V.str (ar "close"))=decide (k=4):=by trivial
theorem Du:∀k,k < 8->decide (V.str (nm k)=V.str (ar "lay"))=decide (k=5):=by trivial
theorem kH:∀k,k < 8->decide (V.str (nm k)=V.str (ar "rest"))=decide (k=6):=by trivial
theorem eD:∀ {k:Nat} {v:V},atI (rowOf k v) 0=some (.str (nm k))
 | 0,_=>rfl
 | 1,_=>rfl
 | 2,_=>rfl
 | 3,_=>rfl
 | 4,_=>rfl
 | 5,_=>rfl
 | 6,_=>rfl
 | 7,_=>rfl
 |_+8,_=>rfl
theorem Dv:∀k,decide (V.str (kn k)=V.str (ar "cut"))=decide (k=1)
 | 0=>by trivial
 | 1=>by trivial
 |n+2=>by rw[bV (show ¬n+2=1 by omega)];show decide (V.str (ar "turn")=_)=_;trivial
theorem bN.last {α β:Type}{R:α->β->Prop}{as:List α}{pre:List β}{b:β}(h:bN R as (pre++[b])):∃as' a,as=as'++[a]/\bN R as' pre/\R a b:=by
 induction pre generalizing as with
 |nil =>
  cases h with
  |cons h t=>cases t;exact⟨[],_,rfl,.nil,h⟩
 |cons x r ih =>
  cases h with
  |cons h t =>
   obtain⟨as',a,rfl,h1,h2⟩:=ih t;exact⟨_::as',a,rfl,.cons h h1,h2⟩
theorem mH (ms:List Mn)(m:Mn):q5 (ms++[m])=(m.k:Int):=by unfold q5;rw[VF]
theorem Fh (T:Txt w.params K mg A):∀k,k < 8->aC P w K mg base a5 2 (A.ft k) (A.ftd k) ["self"] (Dt A K k)
 | 0,_=>(LM T).imp λvs H Q E h=>h.elim (λz=>z.2) (λz=>absurd z.1 (by decide))
 | 1,h=>(nK T 1 h).imp λvs H Q E h=>h.elim (λz=>absurd z.1 (by decide)) id
 | 2,h=>(nK T 2 h).imp λvs H Q E h=>h.elim (λz=>absurd z.1 (by decide)) id
 | 3,h=>(nK T 3 h).imp λvs H Q E h=>h.elim (λz=>absurd z.1 (by decide)) id
 | 4,h=>(nK T 4 h).imp λvs H Q E h=>h.elim (λz=>absurd z.1 (by decide)) id
 | 5,h=>(nK T 5 h).imp λvs H Q E h=>h.elim (λz=>absurd z.1 (by decide)) id
 | 6,h=>(nK T 6 h).imp λvs H Q E h=>h.elim (λz=>absurd z.1 (by decide)) id
 | 7,h=>(nK T 7 h).imp λvs H Q E h=>h.elim (λz=>absurd z.1 (by decide)) id
 |n+8,h=>absurd h (by omega)
theorem JL (T:Txt w.params K mg A):aC P w K mg base a5 3 A.KU A.BA ["pile","closed"] (Sn A K):=by
 have QC:∀k,k < 8->aC P w K mg base a5 2 A.f_r A.Nz ["self"] (LK A):=λ_ _=>NH T
 refine T.ES.F.ok Bi (by left) λ_ _ _ _ H _ Q E hr h=>?_
 obtain⟨B,cl,c,ms,os,rfl,⟨hB,ho⟩,q⟩:=h;refine⟨_,(ah (aV (i:=2) Bi.nd (xM (ph (pv 0) (λ_=>rfl)) (jV (n:=8) (Cf:=A.C) (aO br (pv 0) (kQ gO aj)) T.cl T.Qo QC hr T.Qq bU) (kQ gO aj)))
 (ah (bf (lH (pv 1))
 (ao (aG (bA (jU rfl) (by rfl) T.B3 u5 (aa (pv 2) (aa (fU (v:=V.int 4) rfl T.Df ⟨_,rfl⟩) ai)))))
 aK)
 (ao (aG (pv 2))))),?_⟩
 symm;unfold uF at q;rcases Vg os with h | ⟨pre,o,h⟩
 ·subst h;cases ho;refine⟨_,rfl,_,.inl ⟨_,hB,rfl⟩,b8 ⟨_,rfl,?_⟩⟩;refine⟨_,rfl,_,rfl,?_⟩;cases cl with
  |true=>exact dR ⟨_,rfl,_,_,rfl,q⟩
  |false=>exact b8 ⟨_,rfl,q⟩
 rw[Vh]at h;refine aS λGa hGa=>?_
 subst h;obtain⟨ms',m,rfl,_,_,dx,v,hm,_⟩:=ho.last;rw[mH]at q;refine hGa ?_;refine⟨_,rfl,_,.inl ⟨_,hB,rfl⟩,kT (by simp) ⟨_,rfl,_,rfl,B,_,_,_,rfl,rfl,hB,zR pre o,m.k,m.k8,o,dx,_,rfl,hm,ND m.k v,o,m.k,dx,_,m.k8,rfl,hm,jL m.k v,?_⟩⟩
 refine⟨_,rfl,_,rfl,?_⟩;cases cl with
 |true=>exact dR ⟨_,rfl,_,_,rfl,q⟩
 |false=>exact b8 ⟨_,rfl,q⟩
theorem rT (T:Txt w.params K mg A):aC P w K mg base a5 2 A.yI A.rL ["pile"] (So A K):=by
 have fN:∀k,k < 8->aC P w K mg base a5 1 (A.fk k) (A.fkd k) ["self"] (fv k):=jM T;refine T.nE.F.ok AF (by left) λ_ _ _ _ H _ Q E hr h=>?_
 obtain⟨B,c,ms,os,rfl,⟨hB,ho⟩,hl,q⟩:=h;refine⟨_,(ao (aG (bA (KD rfl) (by rfl) T.Sf PJ (aa (gS (scope:=lW) xh rfl (eW (pv 0)) (λ_ _ _ _ _=>(b5 bz (jV (n:=8) (Cf:=A.C) (pv 0) T.cl T.nH fN hr T.nI bU) au (aL _)))) ai)))),?_⟩
 symm;have lim:fu=16777216:=by decide
 have ol:=ho.len;refine⟨_,rfl,B,rfl,⟨_,hB⟩,λR hR=>?_⟩
 have sR:∀ {o:HO},bh H (ag H R o):=aw hR;refine iz (K:=K) (a:=B) (xs:=os.map V.ref) (λi ys H2=>ys=(ms.take i).map (λm=>V.bl (decide (m.k=0)))/\H2=ag H R (.lst ys)) ⟨rfl,rfl⟩ (by rw[bo];omega) ?_ ?_ ?_
 ·rintro i ys H2 hi ⟨rfl,rfl⟩;rw[bo]at hi;exact⟨sR.seq hB,ae,by rw[bo,Vf];omega⟩
 ·rintro i y ys H2 hy ⟨rfl,rfl⟩;refine aS λGa hGa=>?_
  have hi:i < ms.length:=by have:=(List.getElem?_eq_some_iff.mp hy).1;rw[bo]at this;omega
  obtain⟨o,ho1,_,dx,v,ho2,_⟩:=ho.get (wa hi);rw[sr,ho1]at hy;cases hy;refine hGa ?_;refine⟨_,rfl,ms[i].k,ms[i].k8,o,dx,_,rfl,sR _ _ ho2,jL _ v,o,rfl,rfl,?_⟩;rw[zS _ ms[i].k8];refine cI.mk (by rw[bo];omega) ae ⟨?_,by rw[gM]⟩
  rw[VJ,wa hi,kt];rfl
 rintro ys H2 ⟨rfl,rfl⟩;rw[bo,<-ol,Vs];refine⟨R,ms.map (λm=>decide (m.k=0)),rfl,ay.of (by rw[ae,V4];rfl),?_⟩
 rw[List.any_map];exact q _ sR
theorem vB (T:Txt w.params K mg A):aC P w K mg base a5 3 A.rM A.mf ["pile"] (QB A K):=by
 have GY:∀k,k < 8->aC P w K mg base a5 2 (A.ft k) (A.ftd k) ["self"] (Dt A K k):=Fh T;refine T.oO.F.ok lX (by left) λ_ _ _ _ H _ Q E hr h=>?_
 obtain⟨B,c,ms,os,rfl,⟨hB,ho⟩,q⟩:=h;refine⟨_,(ah (bf (mT (ph (pv 0) (λ_=>rfl)))
 (ao (aG og))
 aK)
 (ah (aV (i:=1) lX.nd (jV (n:=8) (Cf:=A.C) (aO br (pv 0) (kQ gO aj)) T.cl T.LD GY hr T.LG bU))
 (ao (aG (jZ (b5 bz (aO aY (pv 1) aj) au (aL _)) (iw (b5 kR (aO aY (aO aY (pv 1) aj) aj) au (aL _)))))))),?_⟩
 symm;rcases Vg os with h | ⟨pre,o,h⟩
 ·subst h;cases ho;refine⟨_,rfl,_,.inl ⟨_,hB,rfl⟩,dR ?_⟩;exact q H (bh.refl _)
 rw[Vh]at h;subst h;refine⟨_,rfl,_,.inl ⟨_,hB,rfl⟩,iV (by simp) ?_⟩
 refine aS λGa hGa=>?_
 obtain⟨ms',m,rfl,_,_,dx,v,hm,hv⟩:=ho.last;have gl:(ms'++[m]).getLast?=some m:=VF;unfold fb at q;rw[gl]at q;refine hGa ?_;refine⟨_,rfl,_,rfl,B,_,_,_,rfl,rfl,hB,zR pre o,m.k,m.k8,o,dx,_,rfl,hm,Iz m.k v,?_⟩
 by_cases h0:m.k=0
 ·obtain⟨tx,rfl⟩:∃tx,m=.mat tx:=by cases m <;> first | exact⟨_,rfl⟩ | exact absurd h0 (by simp[Mn.k])
  refine aS λGb hGb=>?_
  obtain⟨p,rfl,_,hp⟩:=hv;refine hGb ?_;refine .inl ⟨rfl,o,dx,p,tx.map V.str,rfl,hm,ay.of hp,λp2 u hp2 hu npu=>?_⟩
  have nu:(ag H p2 (.lst (tx.map V.str))) u=none:=(ax (VG npu)).trans hu;refine a8 rfl (aW.of ae) rfl ⟨rfl,_,rfl,?_⟩;rw[cA 0 (by decide)]
  exact b8 (q _ ((aw hp2).new nu))
 refine .inr ⟨by omega,o,dx,v,rfl,hm,λu hu=>?_⟩
 have su:=aw (o:=.tup (rowOf m.k v)) hu;refine a8 rfl (aW.of ae) eD ⟨rfl,_,rfl,?_⟩;rw[cA m.k m.k8]
 by_cases h1:m.k=1
 ·obtain⟨e,rfl⟩:∃e,m=.chg e:=by cases m <;> first | exact⟨_,rfl⟩ | exact absurd h1 (by simp[Mn.k])
  refine aS λGc hGc=>?_
  obtain⟨t,rfl,ht⟩:=hv;refine hGc ?_;refine kT (bG rfl) (a8 rfl (aW.of ae) rfl ⟨t,_,_,_,rfl,rfl,bO su ht.sq,lO e,rfl,?_⟩);rw[Dv];exact q _ su
 rw[bV h1];have q':∀H',bh H H'->Q (.bl false) H':=by
  cases m with
  |chg e=>exact absurd rfl h1
  |_=>exact q
 exact b8 (q' _ su)
theorem ql (T:Txt w.params K mg A):aC P w K mg base a5 4 A.kZ A.i5 ["kind","pile"] (NL A K):=by
 refine T.jA.F.ok pJ (by left) λ_ _ _ _ H _ Q E hr h=>?_
 obtain⟨k,B,c,ms,os,rfl,k8,hp,hl,q⟩:=h;refine⟨_,(ah (bf (aI bz (pv 0) au (aL _))
 (ao (aG (az (vB T) hr T.oO (aa (pv 1) ai))))
 aK)
 (ah (bf (aI fV (pv 0) (bu (aa au (aa au (aa au (aa au ai))))) rfl)
 (ao (aG (az (rT T) hr.mono T.nE (aa (pv 1) ai))))
 aK)
 (ao (aG og)))),?_⟩
 symm;refine⟨_,rfl,rfl,_,rfl,?_⟩;rw[cE k k8];unfold qk at q
 by_cases h2:k=2
 ·rw[bp h2]at q;exact kT (bG h2) ⟨_,rfl,B,c,ms,os,rfl,hp,q⟩
 rw[aZ h2]at q;refine iV (bV h2) ?_;refine⟨_,rfl,(sl 4),λt ht=>?_⟩
 have st:=aw (o:=.tup [V.str (ar "change"),V.str (ar "put off"),V.str (ar "close"),V.str (ar "lay")]) ht;refine⟨t,_,rfl,.inr (aW.of ae),rfl,rfl,_,rfl,?_⟩;have ein:(if false=true then !inV (V.str (nm k)) [V.str (ar "change"),V.str (ar "put off"),V.str (ar "close"),V.str (ar "lay")] else inV (V.str (nm k)) [V.str (ar "change"),V.str (ar "put off"),V.str (ar "close"),V.str (ar "lay")])=decide (k=1\/k=3\/k=4\/k=5):=by
  have:∀k,k < 8->inV (V.str (nm k)) [V.str (ar "change"),V.str (ar "put off"),V.str (ar "close"),V.str (ar "lay")]=decide (k=1\/k=3\/k=4\/k=5):=by trivial
  exact this k k8
 rw[ein]
 by_cases h3:k=1\/k=3\/k=4\/k=5
 ·rw[bp h3]at q;exact kT (bG h3) ⟨_,rfl,B,c,ms,os,rfl,hp.same st,hl,λH' s'=>q H' (st.trans s')⟩
 rw[aZ h3]at q;exact iV (bV h3) (q _ st)
theorem JM {cl:Bool}{ms:List Mn}{k:Nat}(h:q8 cl ms k=none):qk ms k=true:=by
 unfold q8 at h;split at h
 ·cases h
 split at h
 ·rename_i z;exact z
 split at h <;> cases h
theorem q9 (T:Txt w.params K mg A):aC P w K mg base a5 5 A.mh A.jz ["kind","pile","closed"] (Sq A K):=by
 refine T.kr.F.ok jy (by left) λ_ _ _ _ H _ Q E hr h=>?_
 obtain⟨k,B,cl,c,ms,os,rfl,k8,hp,hl,ho,q⟩:=h;refine⟨_,(ah (aV (i:=3) jy.nd (az (JL T) hr.mono T.ES (aa (pv 1) (aa (pv 2) ai))))
 (ah (bf (aI iU (aO KC (fU (v:=V.ref A.tab) rfl T.Ir rfl) (pv 0)) (pv 3) (aL _))
 (ao ps_dead)
 aK)
 (ao (bf (mT (lH (az (ql T) hr T.jA (aa (pv 0) (aa (pv 1) ai)))))
 (ah (bf (lH (az (rT T) hr.mono T.nE (aa (pv 1) ai)))
 (ao ps_dead)
 aK)
 (ao ps_dead))
 aK)))),?_⟩
 symm;refine⟨_,rfl,_,rfl,B,cl,c,ms,os,rfl,hp,?_⟩;obtain⟨tk,htk⟩:=T.rk k k8;refine⟨_,rfl,A.tab,nm k,.int k,_,rfl,rfl,T.tb,htk,⟨_,rfl⟩,_,rfl,_,_,rfl,rfl,_,rfl,dg (λe=>?_) (λe=>?_)⟩
 ·have e':(k:Int)<=uF cl ms:=eM e;unfold q8 at ho;rw[bp e']at ho;cases ho
 refine⟨_,rfl,_,rfl,k,B,c,ms,os,rfl,k8,hp,hl,λH' s'=>⟨_,rfl,?_⟩⟩
 rw[(JM ho)];exact b8 (q _ s')
theorem iJ (T:Txt w.params K mg A):aC P w K mg base a5 1 A.f_n A.C9 ["self"] (Dh 0):=by
 refine T.F_n.ok yh (by left) λ_ _ _ _ H _ Q E hr h=>?_
 obtain⟨m,rfl,q⟩:=h;exact⟨_,(ao (aG au)),q⟩
theorem JN (T:Txt w.params K mg A):aC P w K mg base a5 1 A.Qa A.Ll ["self"] (Dh 4):=by
 refine T.T7.ok AA (by left) λ_ _ _ _ H _ Q E hr h=>?_
 obtain⟨m,rfl,q⟩:=h;exact⟨_,(ao (aG au)),q⟩
theorem NM (T:Txt w.params K mg A):∀k,k < 8->aC P w K mg base a5 1 (A.fn k) (A.fnd k) ["self"] (Dh k)
 | 0,_=>iJ T
 | 1,_=>iJ T
 | 2,_=>iJ T
 | 3,_=>iJ T
 | 4,_=>JN T
 | 5,_=>iJ T
 | 6,_=>iJ T
 | 7,_=>iJ T
 |n+8,h=>absurd h (by omega)
theorem jO {a b:Nat}:((om (a:Int):Key)=om (b:Int))↔a=b:=⟨λh=>by have:=Sum.inl.inj h;omega,λh=>by rw[h]⟩
theorem dA {k:Nat}{v:V}{ks:List Nat}{vs:List V}:bD ((k::ks).zip (v::vs))=(om (k:Int),v)::bD (ks.zip vs):=rfl
theorem sU {n:Nat}:∀ {ks:List Nat} {vs:List V},n∉ks->d6 (bD (ks.zip vs)) (om (n:Int))=none
 |[],_,_=>rfl
 |_::_,[],_=>rfl
 |k::ks,v::vs,h=>by
  rw[dA,bR (λz=>h (by rw[jO.mp z];exact eg))]
  exact sU λz=>h (ma _ z)
theorem B6 {n:Nat}{v:V}:∀ {ks:List Nat} {vs:List V} {j:Nat},ks.Nodup->ks[j]?=some n->vs[j]?=some v->d6 (bD (ks.zip vs)) (om (n:Int))=some v
 |[],_,_,_,h,_=>by simp at h
 |_::_,[],_,_,_,h=>by simp at h
 |k::ks,u::vs,0,_,h,g=>by
  rw[Vr]at h g;cases h;cases g;exact cJ rfl
 |k::ks,u::vs,j+1,nd,h,g=>by
  rw[Vt]at h g;obtain⟨n1,n2⟩:=List.nodup_cons.mp nd;rw[dA,bR (λz=>n1 (by rw[jO.mp z];exact U2 h))]
  exact B6 n2 h g
theorem uH {n:Nat}{v:V}:∀ {ks:List Nat} {vs:List V},n∉ks->(bD (ks.zip vs)).map (λkv=>if kv.1=(om (n:Int):Key) then (kv.1,v) else kv)=bD (ks.zip vs)
 |[],_,_=>rfl
 |_::_,[],_=>rfl
 |k::ks,u::vs,h=>by
  rw[dA,rf,uH λz=>h (ma _ z),aZ (λz=>h (by rw[jO.mp z];exact eg))]
theorem B7 {n:Nat}{v:V}:∀ {ks:List Nat} {vs:List V} {j:Nat},ks.Nodup->ks[j]?=some n->(bD (ks.zip vs)).map (λkv=>if kv.1=(om (n:Int):Key) then (kv.1,v) else kv)=bD (ks.zip (vs.set j v))
 |[],_,_,_,h=>by simp at h
 |k::ks,[],_,_,_=>by simp[bD]
 |k::ks,u::vs,0,nd,h=>by
  rw[Vr]at h;cases h;rw[dA,rf,uH (List.nodup_cons.mp nd).1,bp rfl];rfl
 |k::ks,u::vs,j+1,nd,h=>by
  rw[Vt]at h;obtain⟨n1,n2⟩:=List.nodup_cons.mp nd;rw[dA,rf,B7 n2 h,aZ (λz=>n1 (by rw[jO.mp z];exact U2 h))]
  rfl
theorem JO {n:Nat}{v:V}{ks:List Nat}{vs:List V}{j:Nat}(nd:ks.Nodup)(h:ks[j]?=some n)(l:ks.length=vs.length):bB (bD (ks.zip vs)) (om (n:Int)) v=bD (ks.zip (vs.set j v)):=by
 have hj:j < vs.length:=by rw[<-l];exact(List.getElem?_eq_some_iff.mp h).1
 unfold bB;rw[j6,B6 nd h (wa hj)];exact(bp rfl).trans (B7 nd h)
theorem mI {n:Nat}{v:V}{ks:List Nat}{vs:List V}(h:n∉ks)(l:ks.length=vs.length):bB (bD (ks.zip vs)) (om (n:Int)) v=bD ((ks++[n]).zip (vs++[v])):=by
 rw[KM v (sU h),List.zip_append l];unfold bD;rw[kt];rfl
section
variable{β:Type}{R:Nat×β->V->Prop}
noncomputable def at1 (n:Nat)(xs:List (Nat×β)):Option (Nat×β):=xs.find? λx=>decide (x.1=n)
theorem ic {n:Nat}{xs:List (Nat×β)}{x:Nat×β}(h:at1 n xs=some x):x.1=n/\x∈xs:=by
 unfold at1 at h;have:=List.find?_some h;exact⟨eM this,List.mem_of_find?_eq_some h⟩
theorem uI {n:Nat}{xs:List (Nat×β)}(h:at1 n xs=none):n∉xs.map (·.1):=λz=>by
 obtain⟨x,hx,e⟩:=List.mem_map.mp z;have:=List.find?_eq_none.mp h x hx;exact this (bG e)
theorem bN.val {n:Nat}:∀ {xs:List (Nat×β)} {ws:List V} {x:Nat×β},bN R xs ws->at1 n xs=some x->∃v,d6 (bD ((xs.map (·.1)).zip ws)) (om (n:Int))=some v/\R x v
 |_,_,_,.nil,h=>nomatch h
 |y::xs,w::ws,x,.cons g t,h=>by
  unfold at1 at h;rw[VB]at h
  by_cases e:y.1=n
  ·rw[bG e]at h;cases h;exact⟨w,by rw[rf,dA];exact cJ (jO.mpr e),g⟩
  rw[bV e]at h;obtain⟨v,h1,h2⟩:=bN.val t h;exact⟨v,by rw[rf,dA,bR (λz=>e (jO.mp z))];exact h1,h2⟩
theorem bN.drop {n:Nat}:∀ {xs:List (Nat×β)} {ws:List V},bN R xs ws->∃ws',gE (bD ((xs.map (·.1)).zip ws)) (om (n:Int))=bD (((xs.filter λx=>decide (x.1≠n)).map (·.1)).zip ws')/\bN R (xs.filter λx=>decide (x.1≠n)) ws'
 |_,_,.nil=>⟨[],rfl,.nil⟩
 |y::xs,w::ws,.cons g t=>by
  obtain⟨ws',h1,h2⟩:=bN.drop (n:=n) t
  by_cases e:y.1=n
  ·refine⟨ws',?_,?_⟩
   ·rw[List.filter_cons_of_neg (by simp[e]),<-h1,rf,dA]
    unfold gE;rw[List.filter_cons_of_neg (by simp[e])]
   rw[List.filter_cons_of_neg (by simp[e])];exact h2
  refine⟨w::ws',?_,?_⟩
  ·rw[List.filter_cons_of_pos (by simp[e]),rf,rf,dA,dA,<-h1]
   unfold gE;have hne:(om (y.1:Int):Key)≠om (n:Int):=λz=>e (jO.mp z)
   rw[List.filter_cons_of_pos (by exact bG hne)]
  rw[List.filter_cons_of_pos (by simp[e])];exact .cons g h2
theorem bN.Sr {R':Nat×β->V->Prop}{n:Nat}{f:Nat×β->Nat×β}{v:V}(h1:∀x,x.1=n->R x v->R' (f x) v)(h2:∀x u,x.1≠n->R x u->R' x u):∀ {xs:List (Nat×β)} {ws:List V},bN R xs ws->(xs.map (·.1)).Nodup->d6 (bD ((xs.map (·.1)).zip ws)) (om (n:Int))=some v ->
  bN R' (xs.map λx=>if x.1=n then f x else x) ws
 |_,_,.nil,_,h=>nomatch h
 |y::xs,w::ws,.cons g t,nd,h=>by
  rw[rf]at nd;obtain⟨n1,n2⟩:=List.nodup_cons.mp nd;rw[rf,dA]at h;rw[rf]
  by_cases e:y.1=n
  ·rw[cJ (jO.mpr e)]at h;cases h;rw[bp e];refine .cons (h1 y e g) ?_;have hne:∀x∈xs,x.1≠n:=λx hx z=>n1 (by rw[e,<-z];exact List.mem_map_of_mem hx)
   have em:xs.map (λx=>if x.1=n then f x else x)=xs:=by
    have:xs.map (λx=>if x.1=n then f x else x)=xs.map id:=VY λx hx=>aZ (hne x hx)
    rw[this,List.map_id]
   rw[em];exact t.imp_mem λx hx u=>h2 x u (hne x hx)
  rw[bR (λz=>e (jO.mp z))]at h
  rw[aZ e];exact .cons (h2 y w e g) (bN.Sr h1 h2 t n2 h)
end
theorem bN.set {α β:Type}{R:α->β->Prop}:∀ {as:List α} {bs:List β} {a:α} {b:β} (j:Nat),bN R as bs->R a b->bN R (as.set j a) (bs.set j b)
 |_,_,_,_,_,.nil,_=>.nil
 |_,_,_,_,0,.cons _ t,h=>.cons h t
 |_,_,_,_,j+1,.cons g t,h=>.cons g (t.set j h)
noncomputable def pOb:Rl->Bool | .ob=>true | _=>false
noncomputable def OZ:Rl->Bool | .rows=>true | _=>false
noncomputable def II:Rl->Bool | .made=>true | _=>false
noncomputable def O0:Rl->Bool | .aJ=>true | _=>false
noncomputable def NN:Rl->Bool | .ob=>true | .aJ=>true | .aU=>true | _=>false
noncomputable def IJ (n:Nat):Rl->Bool | .fP m=>decide (m=n) | _=>false
noncomputable def Ss:Rl->Bool | .firsts=>true | _=>false
noncomputable def Su:Rl->Bool | .kept=>true | _=>false
noncomputable def IK (n:Nat):Rl->Bool | .ob=>true | .aU=>true | .eT m=>decide (m=n) | _=>false
theorem dP {i:Nat}{c:a6}{a b:Addr}{r r':Rl}(h:c a=some (i,r))(h':c b=some (i,r'))(n:r≠r'):a≠b:=λz=>by
 rw[z,h']at h;cases h;exact n rfl
section
variable{A:ba}{i:Nat}{c c':a6}{H H':Hp}{o dx aM aP aA aD aF aE aR:Addr}{st:Ch}{ms ds:List Addr}{ws fs es:List V}
theorem ChX.free {W:Option (Nat×Rl)->Prop}(h:∀r,¬W (some (i,r)))(s:aq W c c' H H')(X:ChX A i c H o st dx aM aP aA aD aF aE aR ms ds ws fs es):ChX A i c' H' o st dx aM aP aA aD aF aE aR ms ds ws fs es:=by
 have hn:¬W (c o):=by rw[X.co];exact h _
 refine⟨by rw[s.col o _ X.ob hn];exact X.co,s.keep _ _ X.ob hn,X.made.keep (h _) s,qg s X.mot,X.aJ.keep (h _) s,X.aU.keep (h _) s,X.wait.imp ?_,X.dec.keep (h _) s,ia s X.jN,X.firsts.keep (h _) s,X.first.imp ?_,X.ja.keep (h _) s,X.kept.imp ?_,X.rows.keep (h _) s⟩
 ·rintro x v ⟨t,p,e,z1,z2⟩;exact⟨t,p,e,z1.step s,z2.keep (h _) s⟩
 ·rintro x v ⟨p,e,z⟩;exact⟨p,e,z.keep (h _) s⟩
 rintro x v ⟨p,ts,e,z1,z2⟩;exact⟨p,ts,e,z1.keep (h _) s,z2.imp λ_ _ y=>y.step s⟩
theorem ChX.same (s:bh H H')(X:ChX A i c H o st dx aM aP aA aD aF aE aR ms ds ws fs es):ChX A i c H' o st dx aM aP aA aD aF aE aR ms ds ws fs es:=X.free (W:=λ_=>False) (λ_=>id) (aq.same id s)
theorem ChX.cl (s:bh H H')(X:ChX A i c H o st dx aM aP aA aD aF aE aR ms ds ws fs es):ChX A i (bP c H) H' o st dx aM aP aA aD aF aE aR ms ds ws fs es:=X.free (W:=λ_=>False) (λ_=>id) (aq.cl id s)
theorem ChX.at (X:ChX A i c H o st dx aM aP aA aD aF aE aR ms ds ws fs es):bM A i c H o st:=⟨_,_,_,_,_,_,_,_,_,_,_,_,_,X⟩
theorem ChX.attr (X:ChX A i c H o st dx aM aP aA aD aF aE aR ms ds ws fs es)(n:Int)(b:Bool) :
  aq (Wr i pOb) c c H (ag H o (.ins A.aX dx (chF (.int st.cq) (.int n) (.bl b) (.ref aM) (.ref aP) (.ref aA) (.ref aD) (.ref aF) (.ref aE) (.ref aR)))) /\
  ChX A i c (ag H o (.ins A.aX dx (chF (.int st.cq) (.int n) (.bl b) (.ref aM) (.ref aP) (.ref aA) (.ref aD) (.ref aF) (.ref aE) (.ref aR)))) o { st with bc:=n,closed:=b } dx aM aP aA aD aF aE aR ms ds ws fs es:=by
 have s:aq (Wr i pOb) c c H (ag H o (.ins A.aX dx (chF (.int st.cq) (.int n) (.bl b) (.ref aM) (.ref aP) (.ref aA) (.ref aD) (.ref aF) (.ref aE) (.ref aR)))):=aq.ag Wr.nn (Wr.yes X.co rfl);exact⟨s,X.co,ae,X.made.kp rfl s,qg s X.mot,X.aJ.kp rfl s,X.aU.kp rfl s,jb (λ_ _=>rfl) s X.wait,X.dec.kp rfl s,ia s X.jN,X.firsts.kp rfl s,rS (λ_ _=>rfl) s X.first,X.ja.kp rfl s,uE (λ_ _=>rfl) s X.kept,X.rows.kp rfl s⟩
theorem ChX.row (X:ChX A i c H o st dx aM aP aA aD aF aE aR ms ds ws fs es)(z:Str) :
  aq (Wr i OZ) c c H (ag H aR (.lst (st.rows.map V.str++[.str z])))/\ChX A i c (ag H aR (.lst (st.rows.map V.str++[.str z]))) o { st with rows:=st.rows++[z] } dx aM aP aA aD aF aE aR ms ds ws fs es:=by
 have s:aq (Wr i OZ) c c H (ag H aR (.lst (st.rows.map V.str++[.str z]))):=aq.ag Wr.nn (Wr.yes X.rows.1 rfl);have k:=kE rfl s X.co X.ob;exact⟨s,k.1,k.2,X.made.kp rfl s,qg s X.mot,X.aJ.kp rfl s,X.aU.kp rfl s,jb (λ_ _=>rfl) s X.wait,X.dec.kp rfl s,ia s X.jN,X.firsts.kp rfl s,rS (λ_ _=>rfl) s X.first,X.ja.kp rfl s,uE (λ_ _=>rfl) s X.kept,X.rows.1,by rw[ae,kt];rfl⟩
theorem ChX.push (X:ChX A i c H o st dx aM aP aA aD aF aE aR ms ds ws fs es)(n:Nat) :
  aq (Wr i O0) c c H (ag H aP (.lst (st.aJ.map nV++[nV n])))/\ChX A i c (ag H aP (.lst (st.aJ.map nV++[nV n]))) o { st with aJ:=st.aJ++[n] } dx aM aP aA aD aF aE aR ms ds ws fs es:=by
 have s:aq (Wr i O0) c c H (ag H aP (.lst (st.aJ.map nV++[nV n]))):=aq.ag Wr.nn (Wr.yes X.aJ.1 rfl);have k:=kE rfl s X.co X.ob;exact⟨s,k.1,k.2,X.made.kp rfl s,qg s X.mot,⟨X.aJ.1,by rw[ae,kt];rfl⟩,X.aU.kp rfl s,jb (λ_ _=>rfl) s X.wait,X.dec.kp rfl s,ia s X.jN,X.firsts.kp rfl s,rS (λ_ _=>rfl) s X.first,X.ja.kp rfl s,uE (λ_ _=>rfl) s X.kept,X.rows.kp rfl s⟩
theorem Fi {n k:Nat}(h1:1<=n)(h2:n<=k):(Vm 1 k)[n - 1]?=some n:=by
 rw[List.getElem?_range' (by omega)]
 congr 1
 omega
theorem ChX.IL (X:ChX A i c H o st dx aM aP aA aD aF aE aR ms ds ws fs es){n:Nat}{m:Mn}{x:Addr}(hn:dY st n)(hm:kF A c H m x) :
  aq (Wr i II) c c H (ag H aM (.dK (bB (bD ((Vm 1 st.made.length).zip (ms.map V.ref))) (om (n:Int)) (.ref x)))) /\
  ChX A i c (ag H aM (.dK (bB (bD ((Vm 1 st.made.length).zip (ms.map V.ref))) (om (n:Int)) (.ref x)))) o { st with made:=st.made.set (n - 1) m } dx aM aP aA aD aF aE aR (ms.set (n - 1) x) ds ws fs es:=by
 have s:aq (Wr i II) c c H (ag H aM (.dK (bB (bD ((Vm 1 st.made.length).zip (ms.map V.ref))) (om (n:Int)) (.ref x)))):=aq.ag Wr.nn (Wr.yes X.made.1 rfl);have k:=kE rfl s X.co X.ob;have ml:=X.mot.len;have e:=JO (v:=.ref x) (List.nodup_range' (s:=1) (n:=st.made.length)) (Fi hn.1 hn.2) (vs:=ms.map V.ref) (by rw[Vz,bo];exact ml)
 have hd:d5 i c (ag H aM (.dK (bB (bD ((Vm 1 st.made.length).zip (ms.map V.ref))) (om (n:Int)) (.ref x)))) .made aM ((Vm 1 (st.made.set (n - 1) m).length).zip ((ms.set (n - 1) x).map V.ref)) :=
  ⟨X.made.1,by rw[ae,e,V0,List.map_set]⟩
 exact⟨s,k.1,k.2,hd,(qg s X.mot).set _ (hm.step s),X.aJ.kp rfl s,X.aU.kp rfl s,jb (λ_ _=>rfl) s X.wait,X.dec.kp rfl s,ia s X.jN,X.firsts.kp rfl s,rS (λ_ _=>rfl) s X.first,X.ja.kp rfl s,uE (λ_ _=>rfl) s X.kept,X.rows.kp rfl s⟩
theorem ChX.NO (X:ChX A i c H o st dx aM aP aA aD aF aE aR ms ds ws fs es){m:Mn}{x:Addr}(hm:kF A c H m x) :
  aq (Wr i II) c c H (ag H aM (.dK (bB (bD ((Vm 1 st.made.length).zip (ms.map V.ref))) (om ((st.made.length+1:Nat):Int)) (.ref x)))) /\
  ChX A i c (ag H aM (.dK (bB (bD ((Vm 1 st.made.length).zip (ms.map V.ref))) (om ((st.made.length+1:Nat):Int)) (.ref x)))) o { st with made:=st.made++[m] } dx aM aP aA aD aF aE aR (ms++[x]) ds ws fs es:=by
 have s:aq (Wr i II) c c H (ag H aM (.dK (bB (bD ((Vm 1 st.made.length).zip (ms.map V.ref))) (om ((st.made.length+1:Nat):Int)) (.ref x)))):=aq.ag Wr.nn (Wr.yes X.made.1 rfl);have k:=kE rfl s X.co X.ob;have ml:=X.mot.len;have e:=mI (v:=.ref x) (n:=st.made.length+1) (ks:=Vm 1 st.made.length) (vs:=ms.map V.ref) (by rw[V7];omega) (by rw[Vz,bo];exact ml)
 have hd:d5 i c (ag H aM (.dK (bB (bD ((Vm 1 st.made.length).zip (ms.map V.ref))) (om ((st.made.length+1:Nat):Int)) (.ref x)))) .made aM ((Vm 1 (st.made++[m]).length).zip ((ms++[x]).map V.ref)) :=
  ⟨X.made.1,by rw[ae,e,ki,UY,List.range'_concat,kt,Nat.one_mul,Nat.add_comm 1];rfl⟩
 exact⟨s,k.1,k.2,hd,(qg s X.mot).snoc (hm.step s),X.aJ.kp rfl s,X.aU.kp rfl s,jb (λ_ _=>rfl) s X.wait,X.dec.kp rfl s,ia s X.jN,X.firsts.kp rfl s,rS (λ_ _=>rfl) s X.first,X.ja.kp rfl s,uE (λ_ _=>rfl) s X.kept,X.rows.kp rfl s⟩
noncomputable def o7 (n:Nat)(e:Ed)(xs:List (Nat×List Ed)):List (Nat×List Ed):=xs.map λx=>if x.1=n then (x.1,x.2++[e]) else x
theorem ChX.fA (X:ChX A i c H o st dx aM aP aA aD aF aE aR ms ds ws fs es){n:Nat}{x:Nat×List Ed}(hx:at1 n st.kept=some x):∃(p:Addr) (ts:List Addr),d6 (bD ((st.kept.map (·.1)).zip es)) (om (n:Int))=some (.ref p)/\bT i c H (.fP n) p (ts.map V.ref)/\ts.length=x.2.length:=by
 obtain⟨v,h1,p,ts,rfl,h2,h3⟩:=X.kept.val hx;rw[(ic hx).1]at h2;exact⟨p,ts,h1,h2,h3.len.symm⟩
theorem ChX.Dw (X:ChX A i c H o st dx aM aP aA aD aF aE aR ms ds ws fs es){n:Nat}{e:Ed}{t p:Addr}{ts:List Addr}(hv:d6 (bD ((st.kept.map (·.1)).zip es)) (om (n:Int))=some (.ref p))(hl:bT i c H (.fP n) p (ts.map V.ref))(nd:(st.kept.map (·.1)).Nodup)(ht:ck c H t (fF e)) :
  aq (Wr i (IJ n)) c c H (ag H p (.lst (ts.map V.ref++[.ref t])))/\ChX A i c (ag H p (.lst (ts.map V.ref++[.ref t]))) o { st with kept:=o7 n e st.kept } dx aM aP aA aD aF aE aR ms ds ws fs es:=by
 have s:aq (Wr i (IJ n)) c c H (ag H p (.lst (ts.map V.ref++[.ref t]))):=aq.ag Wr.nn (Wr.yes hl.1 (bG rfl));have k:=kE rfl s X.co X.ob;have ek:(o7 n e st.kept).map (·.1)=st.kept.map (·.1):=by
  unfold o7;rw[V4];refine VY λx _=>?_
  show (if x.1=n then (x.1,x.2++[e]) else x).1=x.1
  split <;> rfl
 refine⟨s,k.1,k.2,X.made.kp rfl s,qg s X.mot,X.aJ.kp rfl s,X.aU.kp rfl s,jb (λ_ _=>rfl) s X.wait,X.dec.kp rfl s,ia s X.jN,X.firsts.kp rfl s,rS (λ_ _=>rfl) s X.first,by show d5 i c _ .kept aE (((o7 n e st.kept).map (·.1)).zip es);rw[ek];exact X.ja.kp rfl s,?_,X.rows.kp rfl s⟩
 refine bN.Sr (f:=λx=>(x.1,x.2++[e])) (v:=.ref p) ?_ ?_ X.kept nd hv
 ·rintro x e1 ⟨q,us,e2,z1,z2⟩;cases e2;have e3:us.map V.ref=ts.map V.ref:=by
   have:=z1.2;rw[hl.2]at this;injection this with this
   injection this with this
   exact this.symm
  refine⟨p,us++[t],rfl,⟨z1.1,?_⟩,(z2.imp λ_ _ y=>y.step s).snoc (ht.step s)⟩
  rw[ae,<-e3,kt];rfl
 rintro x u e1 ⟨q,us,rfl,z1,z2⟩;exact⟨q,us,rfl,z1.kp (bV e1) s,z2.imp λ_ _ y=>y.step s⟩
theorem ChX.LS (X:ChX A i c H o st dx aM aP aA aD aF aE aR ms ds ws fs es){n:Nat}{tx:List Str}{p:Addr}(hp:H p=none)(hn:n∉st.firsts.map (·.1)) :
  aq (Wr i Ss) c (aN c p (some (i,.dq n))) H (ag (ag H p (.lst (tx.map V.str))) aF (.dK (bB (bD ((st.firsts.map (·.1)).zip fs)) (om (n:Int)) (.ref p)))) /\
  ChX A i (aN c p (some (i,.dq n))) (ag (ag H p (.lst (tx.map V.str))) aF (.dK (bB (bD ((st.firsts.map (·.1)).zip fs)) (om (n:Int)) (.ref p)))) o { st with firsts:=st.firsts++[(n,tx)] } dx aM aP aA aD aF aE aR ms ds ws (fs++[.ref p]) es:=by
 have np:∀ {a:Addr} {v:HO},H a=some v->a≠p:=λe=>aQ e hp
 have s:aq (Wr i Ss) c (aN c p (some (i,.dq n))) H (ag (ag H p (.lst (tx.map V.str))) aF (.dK (bB (bD ((st.firsts.map (·.1)).zip fs)) (om (n:Int)) (.ref p)))) :=
  (aq.new Wr.nn hp).trans (aq.ag Wr.nn ⟨.firsts,by rw[a9 (np X.firsts.2)];exact X.firsts.1,rfl⟩)
 have k:=kE rfl s X.co X.ob;have e:=mI (v:=.ref p) hn (vs:=fs) (by rw[bo];exact X.first.len)
 have hd:d5 i (aN c p (some (i,.dq n))) (ag (ag H p (.lst (tx.map V.str))) aF (.dK (bB (bD ((st.firsts.map (·.1)).zip fs)) (om (n:Int)) (.ref p)))) .firsts aF (((st.firsts++[(n,tx)]).map (·.1)).zip (fs++[.ref p])) :=
  ⟨by rw[a9 (np X.firsts.2)];exact X.firsts.1,by rw[ae,e,kt];rfl⟩
 have hl:Dq i (aN c p (some (i,.dq n))) (ag (ag H p (.lst (tx.map V.str))) aF (.dK (bB (bD ((st.firsts.map (·.1)).zip fs)) (om (n:Int)) (.ref p)))) (n,tx) (.ref p) :=
  ⟨p,rfl,bj,(ax (np X.firsts.2).symm).trans ae⟩
 exact⟨s,k.1,k.2,X.made.kp rfl s,qg s X.mot,X.aJ.kp rfl s,X.aU.kp rfl s,jb (λ_ _=>rfl) s X.wait,X.dec.kp rfl s,ia s X.jN,hd,(rS (λ_ _=>rfl) s X.first).snoc hl,X.ja.kp rfl s,uE (λ_ _=>rfl) s X.kept,X.rows.kp rfl s⟩
theorem ChX.NP (X:ChX A i c H o st dx aM aP aA aD aF aE aR ms ds ws fs es){n:Nat}{p:Addr}(hp:H p=none)(hn:n∉st.kept.map (·.1)) :
  aq (Wr i Su) c (aN c p (some (i,.fP n))) H (ag (ag H p (.lst [])) aE (.dK (bB (bD ((st.kept.map (·.1)).zip es)) (om (n:Int)) (.ref p)))) /\
  ChX A i (aN c p (some (i,.fP n))) (ag (ag H p (.lst [])) aE (.dK (bB (bD ((st.kept.map (·.1)).zip es)) (om (n:Int)) (.ref p)))) o { st with kept:=st.kept++[(n,([]:List Ed))] } dx aM aP aA aD aF aE aR ms ds ws fs (es++[.ref p]):=by
 have np:∀ {a:Addr} {v:HO},H a=some v->a≠p:=λe=>aQ e hp
 have s:aq (Wr i Su) c (aN c p (some (i,.fP n))) H (ag (ag H p (.lst [])) aE (.dK (bB (bD ((st.kept.map (·.1)).zip es)) (om (n:Int)) (.ref p)))) :=
  (aq.new Wr.nn hp).trans (aq.ag Wr.nn ⟨.kept,by rw[a9 (np X.ja.2)];exact X.ja.1,rfl⟩)
 have k:=kE rfl s X.co X.ob;have e:=mI (v:=.ref p) hn (vs:=es) (by rw[bo];exact X.kept.len)
 have hd:d5 i (aN c p (some (i,.fP n))) (ag (ag H p (.lst [])) aE (.dK (bB (bD ((st.kept.map (·.1)).zip es)) (om (n:Int)) (.ref p)))) .kept aE (((st.kept++[(n,([]:List Ed))]).map (·.1)).zip (es++[.ref p])) :=
  ⟨by rw[a9 (np X.ja.2)];exact X.ja.1,by rw[ae,e,kt];rfl⟩
 have hl:IG i (aN c p (some (i,.fP n))) (ag (ag H p (.lst [])) aE (.dK (bB (bD ((st.kept.map (·.1)).zip es)) (om (n:Int)) (.ref p)))) (n,[]) (.ref p) :=
  ⟨p,[],rfl,⟨bj,(ax (np X.ja.2).symm).trans ae⟩,.nil⟩
 exact⟨s,k.1,k.2,X.made.kp rfl s,qg s X.mot,X.aJ.kp rfl s,X.aU.kp rfl s,jb (λ_ _=>rfl) s X.wait,X.dec.kp rfl s,ia s X.jN,X.firsts.kp rfl s,rS (λ_ _=>rfl) s X.first,hd,(uE (λ_ _=>rfl) s X.kept).snoc hl,X.rows.kp rfl s⟩
noncomputable def Ch.kO (st:Ch)(n:Nat)(u:Int):Ch:={ st with aJ:=[],aU:=st.aU++[(n,u,st.aJ)] }
theorem ChX.kO (X:ChX A i c H o st dx aM aP aA aD aF aE aR ms ds ws fs es){n:Nat}{u:Int}{t p:Addr}(ht:H t=none)(hp:H p=none)(ntp:p≠t)(hn:n∉st.aU.map (·.1)) :
  ∃c',aq (Wr i NN) c c' H (ag (ag (ag (ag H t (.tup [.int u,.ref aP])) aA (.dK (bB (bD ((st.aU.map (·.1)).zip ws)) (om (n:Int)) (.ref t)))) p (.lst [])) o (.ins A.aX dx (chF (.int st.cq) (.int st.bc) (.bl st.closed) (.ref aM) (.ref p) (.ref aA) (.ref aD) (.ref aF) (.ref aE) (.ref aR)))) /\
  ChX A i c' (ag (ag (ag (ag H t (.tup [.int u,.ref aP])) aA (.dK (bB (bD ((st.aU.map (·.1)).zip ws)) (om (n:Int)) (.ref t)))) p (.lst [])) o (.ins A.aX dx (chF (.int st.cq) (.int st.bc) (.bl st.closed) (.ref aM) (.ref p) (.ref aA) (.ref aD) (.ref aF) (.ref aE) (.ref aR)))) o (st.kO n u) dx aM p aA aD aF aE aR ms ds (ws++[.ref t]) fs es:=by
 have nt:∀ {a:Addr} {v:HO},H a=some v->a≠t:=λe=>aQ e ht
 have np:∀ {a:Addr} {v:HO},H a=some v->a≠p:=λe=>aQ e hp
 have oA:o≠aA:=dP X.co X.aU.1 (λz=>nomatch z)
 have oP:o≠aP:=dP X.co X.aJ.1 (λz=>nomatch z)
 have AP:aA≠aP:=dP X.aU.1 X.aJ.1 (λz=>nomatch z)
 have e:=mI (v:=.ref t) hn (vs:=ws) (by rw[bo];exact X.wait.len)
 have hp2:(ag (ag H t (.tup [.int u,.ref aP])) aA (.dK (bB (bD ((st.aU.map (·.1)).zip ws)) (om (n:Int)) (.ref t)))) p=none:=by
  rw[ax (np X.aU.2).symm,ax ntp];exact hp
 refine⟨aN (aN (aN c t none) p (some (i,.aJ))) aP (some (i,.eT n)),?_⟩;have s:aq (Wr i NN) c (aN (aN (aN c t none) p (some (i,.aJ))) aP (some (i,.eT n))) H (ag (ag (ag (ag H t (.tup [.int u,.ref aP])) aA (.dK (bB (bD ((st.aU.map (·.1)).zip ws)) (om (n:Int)) (.ref t)))) p (.lst [])) o (.ins A.aX dx (chF (.int st.cq) (.int st.bc) (.bl st.closed) (.ref aM) (.ref p) (.ref aA) (.ref aD) (.ref aF) (.ref aE) (.ref aR)))):=by
  refine((((aq.new Wr.nn ht).trans (aq.ag Wr.nn ⟨.aU,?_,rfl⟩)).trans (aq.new Wr.nn hp2)).trans (aq.ag Wr.nn ⟨.ob,?_,rfl⟩)).trans (aq.role Wr.nn ⟨.aJ,?_,rfl⟩)
  ·rw[a9 (nt X.aU.2)];exact X.aU.1
  ·rw[a9 (np X.ob),a9 (nt X.ob)];exact X.co
  rw[a9 (np X.aJ.2),a9 (nt X.aJ.2)];exact X.aJ.1
 have k1:aN (aN (aN c t none) p (some (i,.aJ))) aP (some (i,.eT n)) o=some (i,.ob):=by
  rw[a9 oP,a9 (np X.ob),a9 (nt X.ob)];exact X.co
 have hd:d5 i (aN (aN (aN c t none) p (some (i,.aJ))) aP (some (i,.eT n))) (ag (ag (ag (ag H t (.tup [.int u,.ref aP])) aA (.dK (bB (bD ((st.aU.map (·.1)).zip ws)) (om (n:Int)) (.ref t)))) p (.lst [])) o (.ins A.aX dx (chF (.int st.cq) (.int st.bc) (.bl st.closed) (.ref aM) (.ref p) (.ref aA) (.ref aD) (.ref aF) (.ref aE) (.ref aR)))) .aU aA (((st.aU++[(n,u,st.aJ)]).map (·.1)).zip (ws++[.ref t])) :=
  ⟨by rw[a9 AP,a9 (np X.aU.2),a9 (nt X.aU.2)];exact X.aU.1,by rw[ax oA.symm,ax (np X.aU.2),ae,e,kt];rfl⟩
 have hl:bT i (aN (aN (aN c t none) p (some (i,.aJ))) aP (some (i,.eT n))) (ag (ag (ag (ag H t (.tup [.int u,.ref aP])) aA (.dK (bB (bD ((st.aU.map (·.1)).zip ws)) (om (n:Int)) (.ref t)))) p (.lst [])) o (.ins A.aX dx (chF (.int st.cq) (.int st.bc) (.bl st.closed) (.ref aM) (.ref p) (.ref aA) (.ref aD) (.ref aF) (.ref aE) (.ref aR)))) (.eT n) aP (st.aJ.map nV) :=
  ⟨bj,by rw[ax oP.symm,ax (np X.aJ.2),ax AP.symm,ax (nt X.aJ.2)];exact X.aJ.2⟩
 have hn':bT i (aN (aN (aN c t none) p (some (i,.aJ))) aP (some (i,.eT n))) (ag (ag (ag (ag H t (.tup [.int u,.ref aP])) aA (.dK (bB (bD ((st.aU.map (·.1)).zip ws)) (om (n:Int)) (.ref t)))) p (.lst [])) o (.ins A.aX dx (chF (.int st.cq) (.int st.bc) (.bl st.closed) (.ref aM) (.ref p) (.ref aA) (.ref aD) (.ref aF) (.ref aE) (.ref aR)))) .aJ p [] :=
  ⟨by rw[a9 (np X.aJ.2).symm,bj],by rw[ax (np X.ob).symm,ae]⟩
 have htt:ck (aN (aN (aN c t none) p (some (i,.aJ))) aP (some (i,.eT n))) (ag (ag (ag (ag H t (.tup [.int u,.ref aP])) aA (.dK (bB (bD ((st.aU.map (·.1)).zip ws)) (om (n:Int)) (.ref t)))) p (.lst [])) o (.ins A.aX dx (chF (.int st.cq) (.int st.bc) (.bl st.closed) (.ref aM) (.ref p) (.ref aA) (.ref aD) (.ref aF) (.ref aE) (.ref aR)))) t [.int u,.ref aP] :=
  ⟨by rw[a9 (nt X.aJ.2).symm,a9 ntp.symm,bj],.inl (by rw[ax (nt X.ob).symm,ax ntp.symm,ax (nt X.aU.2).symm,ae])⟩
 exact⟨s,k1,ae,X.made.kp rfl s,qg s X.mot,hn',hd,(jb (λ_ _=>rfl) s X.wait).snoc ⟨t,aP,rfl,htt,hl⟩,X.dec.kp rfl s,ia s X.jN,X.firsts.kp rfl s,rS (λ_ _=>rfl) s X.first,X.ja.kp rfl s,uE (λ_ _=>rfl) s X.kept,X.rows.kp rfl s⟩
noncomputable def Ch.oW (st:Ch)(n:Nat)(pl:List Nat):Ch:={ st with aJ:=pl,aU:=st.aU.filter λx=>decide (x.1≠n) }
theorem ChX.waitOf (X:ChX A i c H o st dx aM aP aA aD aF aE aR ms ds ws fs es){n:Nat}{x:Nat×Int×List Nat}(hx:at1 n st.aU=some x):∃t p,d6 (bD ((st.aU.map (·.1)).zip ws)) (om (n:Int))=some (.ref t)/\ck c H t [.int x.2.1,.ref p]/\bT i c H (.eT n) p (x.2.2.map nV):=by
 obtain⟨v,h1,t,p,rfl,h2,h3⟩:=X.wait.val hx;rw[(ic hx).1]at h3;exact⟨t,p,h1,h2,h3⟩
theorem ChX.oW (X:ChX A i c H o st dx aM aP aA aD aF aE aR ms ds ws fs es){n:Nat}{p:Addr}{pl:List Nat}(hl:bT i c H (.eT n) p (pl.map nV)) :
  ∃c' ws',aq (Wr i (IK n)) c c' H (ag (ag H aA (.dK (gE (bD ((st.aU.map (·.1)).zip ws)) (om (n:Int))))) o (.ins A.aX dx (chF (.int st.cq) (.int st.bc) (.bl st.closed) (.ref aM) (.ref p) (.ref aA) (.ref aD) (.ref aF) (.ref aE) (.ref aR)))) /\
  ChX A i c' (ag (ag H aA (.dK (gE (bD ((st.aU.map (·.1)).zip ws)) (om (n:Int))))) o (.ins A.aX dx (chF (.int st.cq) (.int st.bc) (.bl st.closed) (.ref aM) (.ref p) (.ref aA) (.ref aD) (.ref aF) (.ref aE) (.ref aR)))) o (st.oW n pl) dx aM p aA aD aF aE aR ms ds ws' fs es:=by
 have oA:o≠aA:=dP X.co X.aU.1 (λz=>nomatch z)
 have op:o≠p:=dP X.co hl.1 (λz=>nomatch z)
 have Ap:aA≠p:=dP X.aU.1 hl.1 (λz=>nomatch z)
 obtain⟨ws',e1,e2⟩:=X.wait.drop (n:=n);refine⟨aN c p (some (i,.aJ)),ws',?_⟩;have s:aq (Wr i (IK n)) c (aN c p (some (i,.aJ))) H (ag (ag H aA (.dK (gE (bD ((st.aU.map (·.1)).zip ws)) (om (n:Int))))) o (.ins A.aX dx (chF (.int st.cq) (.int st.bc) (.bl st.closed) (.ref aM) (.ref p) (.ref aA) (.ref aD) (.ref aF) (.ref aE) (.ref aR)))) :=
  ((aq.ag Wr.nn ⟨.aU,X.aU.1,rfl⟩).trans (aq.ag Wr.nn ⟨.ob,X.co,rfl⟩)).trans (aq.role Wr.nn ⟨.eT n,hl.1,bG rfl⟩)
 have k1:aN c p (some (i,.aJ)) o=some (i,.ob):=by rw[a9 op];exact X.co
 have hd:d5 i (aN c p (some (i,.aJ))) (ag (ag H aA (.dK (gE (bD ((st.aU.map (·.1)).zip ws)) (om (n:Int))))) o (.ins A.aX dx (chF (.int st.cq) (.int st.bc) (.bl st.closed) (.ref aM) (.ref p) (.ref aA) (.ref aD) (.ref aF) (.ref aE) (.ref aR)))) .aU aA (((st.aU.filter λx=>decide (x.1≠n)).map (·.1)).zip ws') :=
  ⟨by rw[a9 Ap];exact X.aU.1,by rw[ax oA.symm,ae,e1]⟩
 have hpl:bT i (aN c p (some (i,.aJ))) (ag (ag H aA (.dK (gE (bD ((st.aU.map (·.1)).zip ws)) (om (n:Int))))) o (.ins A.aX dx (chF (.int st.cq) (.int st.bc) (.bl st.closed) (.ref aM) (.ref p) (.ref aA) (.ref aD) (.ref aF) (.ref aE) (.ref aR)))) .aJ p (pl.map nV) :=
  ⟨bj,by rw[ax op.symm,ax Ap.symm];exact hl.2⟩
 exact⟨s,k1,ae,X.made.kp rfl s,qg s X.mot,hpl,hd,jb (λx hx=>bV (eM (List.mem_filter.mp hx).2)) s e2,X.dec.kp rfl s,ia s X.jN,X.firsts.kp rfl s,rS (λ_ _=>rfl) s X.first,X.ja.kp rfl s,uE (λ_ _=>rfl) s X.kept,X.rows.kp rfl s⟩
end
def vC (i:Nat)(c:a6)(H:Hp)(t:Addr)(xs:List V):Prop:=¬cw i (c t)/\H t=some (.tup xs)
def JP (i:Nat)(c:a6)(H:Hp)(t:Addr)(xs:List V):Prop:=¬cw i (c t)/\H t=some (.lst xs)
def oX (i:Nat)(c:a6)(H:Hp):R.bI->Addr->Prop
 | .mat cs,t=>∃L,vC i c H t [.str (ar "matter"),.ref L]/\JP i c H L ((cs.map (kx R.bl1)).map V.str)
 | .ed m k j ws,t=>∃e,vC i c H t [.str (R.kEd m),.ref e]/\ck c H e (R.edR k j (kx R.bl1 ws))
 | .pt ws,t=>vC i c H t [.str (ar "point"),.str (kx R.bl1 ws)]
 | .nums kd ns,t=>vC i c H t (.str kd::ns.map V.int)
section
variable{i:Nat}{c c':a6}{H H':Hp}{t:Addr}{xs:List V}
theorem vC.step (s:aq (cw i) c c' H H')(h:vC i c H t xs):vC i c' H' t xs:=⟨by rw[s.col t _ h.2 h.1];exact h.1,s.keep _ _ h.2 h.1⟩
theorem JP.step (s:aq (cw i) c c' H H')(h:JP i c H t xs):JP i c' H' t xs:=⟨by rw[s.col t _ h.2 h.1];exact h.1,s.keep _ _ h.2 h.1⟩
theorem oX.step (s:aq (cw i) c c' H H'):∀ {d:R.bI},oX i c H d t->oX i c' H' d t
 | .mat _,⟨L,a,b⟩=>⟨L,a.step s,b.step s⟩
 | .ed _ _ _ _,⟨e,a,b⟩=>⟨e,a.step s,b.step s⟩
 | .pt _,h=>vC.step s h
 | .nums _ _,h=>vC.step s h
theorem oX.at {K:de}:∀ {d:R.bI},oX i c H d t->R.nP K H d t
 | .mat _,⟨L,a,b⟩=>⟨L,aW.of a.2,ay.of b.2⟩
 | .ed _ _ _ _,⟨e,a,b⟩=>⟨e,aW.of a.2,b.sq⟩
 | .pt _,h=>aW.of h.2
 | .nums _ _,h=>aW.of h.2
end
theorem Dx {k:Nat}{j:Int}{x:Str}(h:k=0\/k=1\/k=2):R.edR k j x=fF ⟨k,j,x⟩:=by
 rcases h with rfl | rfl | rfl <;> rfl
theorem dG {t1 t2:TS}{D:Ends}{σ:St}{H:Hp}(J:St->Hp->Prop)(h2:∀σ' H',J σ' H'->t2 D σ' H')(h1:∀N:St->Hp->Prop,(∀σ' H',J σ' H'->N σ' H')->t1 { D with nx:=N } σ H):DY t1 t2 D σ H:=h1 (t2 D) h2
noncomputable def Ch.opened (st:Ch):Ch:={ st with closed:=if st.aJ=[] then false else st.closed }
def Ch.sV (st:Ch)(row:Str):Ch:={ st.opened with rows:=st.rows++[row] }
def Sv (A:ba)(i:Nat):Sp:=λvs H Q _=>∃(o t:Addr) (c:a6) (st:Ch) (d:R.bI),vs=[.ref o,.ref t]/\bM A i c H o st/\oX i c H d t/\R.DOk d/\st.rows.length<=1000 /\
 ∀c' H',aq (cw i) c c' H H'->bM A i c' H' o (st.sV (R.cG d))->Q .non H'
def QD (A:ba)(i:Nat):Sp:=λvs H Q _=>∃(o:Addr) (u:Int) (c:a6) (st:Ch) (n:Nat) (r:List Nat),vs=[.ref o,.int u]/\bM A i c H o st/\st.aJ=n::r/\n∉st.aU.map (·.1)/\st.aU.length<=1000 /\
 ∀c' H',aq (cw i) c c' H H'->bM A i c' H' o (st.kO n u)->Q .non H'
def Ch.LU (st:Ch)(n:Nat)(tx:List Str)(e:Ed):Ch:={ st with made:=st.made.set (n - 1) (.mat (bZ tx e)),kept:=o7 n e st.kept }
def QE (A:ba)(i:Nat):Sp:=λvs H Q _=>∃(o t:Addr) (c:a6) (st:Ch) (n:Nat) (r:List Nat) (tx:List Str) (e:Ed) (x:Nat×List Ed),vs=[.ref o,.ref t]/\bM A i c H o st/\st.aJ=n::r/\dY st n/\st.mo n=.mat tx/\tx.length<=1000/\st.made.length<=1000 /\
 ck c H t (fF e)/\q0 e/\gI tx.length e=true/\at1 n st.kept=some x/\x.2.length<=1000/\(st.kept.map (·.1)).Nodup /\
 ∀c' H',aq (cw i) c c' H H'->bM A i c' H' o (st.LU n tx e)->Q .non H'
def Ch.LV (st:Ch)(n:Nat)(e:Ed)(ws:List Str):Ch:={ st with made:=st.made.set (n - 1) (.chg ⟨e.k,e.at_,kx R.bl1 ws⟩) }
def QF (A:ba)(i:Nat):Sp:=λvs H Q _=>∃(o t:Addr) (c:a6) (st:Ch) (n:Nat) (r:List Nat) (e f:Ed),vs=[.ref o,.ref t]/\bM A i c H o st/\st.aJ=r++[n]/\dY st n/\st.mo n=.chg e/\e.k≠1/\q0 e/\(R.bL e.th).length<=1000/\st.made.length<=1000 /\
 ck c H t (fF f)/\q0 f/\gI (R.bL e.th).length f=true/\((bZ (R.bL e.th) f).map (·.length)).sum+(bZ (R.bL e.th) f).length<=16777216 /\
 ∀c' H',aq (cw i) c c' H H'->bM A i c' H' o (st.LV n e (bZ (R.bL e.th) f))->Q .non H'
theorem ChX.NQ {A:ba}{i:Nat}{c:a6}{H:Hp}{o dx aM aP aA aD aF aE aR:Addr}{st:Ch}{ms ds:List Addr}{ws fs es:List V}(X:ChX A i c H o st dx aM aP aA aD aF aE aR ms ds ws fs es){n:Nat}(hn:dY st n) :
  ∃x,d6 (bD ((Vm 1 st.made.length).zip (ms.map V.ref))) (om (n:Int))=some (.ref x)/\kF A c H (st.mo n) x:=by
 have ml:=X.mot.len;have hlt:n - 1 < st.made.length:=by have:=hn.1;have:=hn.2;omega
 obtain⟨x,e1,e2⟩:=X.mot.get (wa hlt);have hv:=zP ms 1 (n - 1) e1;rw[<-ml,show 1+(n - 1)=n by have:=hn.1;omega]at hv
 have e3:st.mo n=st.made[n - 1]:=by unfold Ch.mo;rw[U7,wa hlt];rfl
 exact⟨x,hv,by rw[e3];exact e2⟩
theorem oY (T:Txt w.params K mg A){i:Nat}:aC P w K mg base a5 5 A.e9 A.eP ["self","deed"] (Sv A i):=by
 have jd:aC P w K mg base a5 4 A.mq A.gX ["deed"] (R.sQ K):=R.nS T;refine T.nJ.ok lV (by left) λ_ _ _ _ H _ Q E hr h=>?_
 obtain⟨o,t,c,st,d,rfl,hc,hd,hk,hl,q⟩:=h;refine⟨_,(ah (bf (mT (ph (bH (pv 0) rfl) (λ_=>rfl)))
 (ao (eF (pv 0) og rfl))
 aK)
 (ao (bw (dE tu UZ U0 cz (bH (pv 0) rfl) (aa (az jd hr T.lh (aa (pv 1) ai)) ai))))),?_⟩
 symm;have lim:fu=16777216:=by decide
 refine dG (λσ' H'=>σ'=[some (.ref o),some (.ref t)]/\aq (cw i) c c H H'/\bM A i c H' o st.opened) ?r (λN nN=>?f)
 case f =>
  refine aS λGa hGa=>?_
  obtain⟨dx,aM,aP,aA,aD,aF,aE,aR,ms,ds,ws,fs,es,X⟩:=hc.ex;refine hGa ?_;refine eO rfl X.ob T.aH T.bQ fg ?_;refine⟨_,.inl ⟨_,.inl (.inl X.aJ.2),rfl⟩,?_⟩;cases e:st.aJ with
  |nil =>
   refine dR ⟨_,rfl,o,A.aX,dx,_,rfl,X.ob,T.aH,T.eu,(by show 10 < 1000;decide),?_⟩
   rw[zO];obtain⟨s1,X1⟩:=X.attr st.bc false;refine nN _ _ ⟨rfl,s1.gk,?_⟩;have e1:st.opened={ st with bc:=st.bc,closed:=false }:=by unfold Ch.opened;rw[e,bp rfl]
   rw[e1];exact X1.at
  |cons x r =>
   refine b8 (nN _ _ ⟨rfl,aq.refl a7,?_⟩);have e1:st.opened=st:=by unfold Ch.opened;rw[e,aZ (U5 _ _)];cases st;cases e;rfl
   rw[e1];exact hc
 case r =>
  rintro σ' H1 ⟨rfl,s1,hc1⟩;refine aS λGb hGb=>?_
  obtain⟨dx,aM,aP,aA,aD,aF,aE,aR,ms,ds,ws,fs,es,X⟩:=hc1.ex;refine hGb ?_;refine eO rfl X.ob T.aH T.d8 qi ?_;refine⟨.inl ⟨rfl,_,ay.of X.rows.2⟩,_,rfl,t,d,rfl,(hd.step s1).at,hk,λH2 s2=>?_⟩
  have X2:=X.same s2;obtain⟨s3,X3⟩:=X2.row (R.cG d);refine⟨aR,_,_,rfl,rfl,X2.rows.2,by rw[bo];show st.rows.length < _;omega,?_⟩
  exact q c _ ((s1.trans (aq.same a7 s2)).trans s3.gk) X3.at
theorem uJ (T:Txt w.params K mg A){i:Nat}:aC P w K mg base a5 1 A.gi A.fL ["self","until"] (QD A i):=by
 refine T.qZ.ok pH (by left) λ_ _ _ _ H _ Q E hr h=>?_
 obtain⟨o,u,c,st,n,r,rfl,hc,hp,hn,hl,q⟩:=h;obtain⟨dx,aM,aP,aA,aD,aF,aE,aR,ms,ds,ws,fs,es,X⟩:=hc.ex;have bt:=hr.u1;have lim:fu=16777216:=by decide
 refine⟨_,(ah (fX bt (bH (pv 0) rfl) (aO br (bH (pv 0) rfl) aj) (bu (aa (pv 1) (aa (bH (pv 0) rfl) ai))) rfl)
 (ao (eF (pv 0) (bK ai) rfl))),?_⟩
 symm;refine⟨_,rfl,eO rfl X.ob T.aH T.bQ fg ⟨(sl 2),λt ht=>?_⟩⟩
 have s1:=aw (o:=.tup [V.int u,.ref aP]) ht;refine eO rfl (s1 _ _ X.ob) T.aH T.dn jY ?_;have h0:atI (st.aJ.map nV) 0=some (nV n):=by rw[hp];exact cS (j:=0) rfl
 refine eO rfl (s1 _ _ X.ob) T.aH T.bQ fg ⟨aP,_,_,_,rfl,rfl,ay.of (s1 _ _ X.aJ.2),h0,?_⟩;refine⟨aA,_,rfl,o5.k (k:=om (n:Int)) (s1 _ _ X.aU.2) ?_,?_⟩
 ·unfold bD;rw[bo,V1,bo];omega
 have oA:o≠aA:=dP X.co X.aU.1 (λz=>nomatch z)
 refine⟨(sl 0),λp hp0=>?_⟩
 have npA:p≠aA:=λz=>by rw[z,ae]at hp0;cases hp0
 have npt:p≠t:=λz=>by rw[ax npA,z,ae]at hp0;cases hp0
 have hp1:H p=none:=by rw[ax npA,ax npt]at hp0;exact hp0
 have hob:(ag (ag (ag H t (.tup [V.int u,.ref aP])) aA (.dK (bB (bD ((st.aU.map (·.1)).zip ws)) (om (n:Int)) (.ref t)))) p (.lst [])) o=some (.ins A.aX dx (chF (.int st.cq) (.int st.bc) (.bl st.closed) (.ref aM) (.ref aP) (.ref aA) (.ref aD) (.ref aF) (.ref aE) (.ref aR))):=by
  rw[ax (aQ X.ob hp1),ax oA];exact s1 _ _ X.ob
 refine⟨_,rfl,o,A.aX,dx,_,rfl,hob,T.aH,T.bQ,(by show 10 < 1000;decide),?_⟩
 rw[Fg];refine aS λGa hGa=>?_
 obtain⟨c',s2,X2⟩:=X.kO (u:=u) ht hp1 npt hn;refine hGa ?_;exact q c' _ s2.gk X2.at
theorem vD (T:Txt w.params K mg A){i:Nat}:aC P w K mg base a5 4 A.eQ A.eG ["self","edit"] (QE A i):=by
 refine T.mz.ok gj (by left) λ_ _ _ _ H _ Q E hr h=>?_
 obtain⟨o,t,c,st,n,r,tx,e,x,rfl,hc,hp,hn,hm,htx,hml,ht,he,hf,hx,hxl,hnd,q⟩:=h;obtain⟨dx,aM,aP,aA,aD,aF,aE,aR,ms,ds,ws,fs,es,X⟩:=hc.ex;have bt:=hr.u1;have lim:fu=16777216:=by decide
 refine⟨_,(ah (aV (i:=2) gj.nd (aO br (bH (pv 0) rfl) aj))
 (ah (fX bt (bH (pv 0) rfl) (pv 2) (eX T.zo (zM T) hr.mono rfl T.zk T.Qr .nil bU (aa (az (Iw T) hr T.GR (aa (bH (bx bt (bH (pv 0) rfl) (pv 2)) rfl) (aa (pv 1) ai))) ai)) rfl)
 (ao (bw (dE tu UZ U0 cz (bx bt (bH (pv 0) rfl) (pv 2)) (aa (pv 1) ai)))))),?_⟩
 symm;refine aS λGa hGa=>?_
 have h0:atI (st.aJ.map nV) 0=some (nV n):=by rw[hp];exact cS (j:=0) rfl
 obtain⟨m,hv,hmo⟩:=X.NQ hn;rw[hm]at hmo;obtain⟨_,dm,v,QG,L,rfl,hL⟩:=hmo;refine hGa ?_;refine eO rfl X.ob T.aH T.bQ fg ⟨aP,_,_,_,rfl,rfl,ay.of X.aJ.2,h0,?_⟩;refine⟨_,rfl,o,A.aX,dx,_,.ref aM,rfl,X.ob,T.aH,T.bX,fQ,_,rfl,aM,_,rfl,.inl ⟨_,om (n:Int),.inl X.made.2,rfl,hv.symm⟩,?_⟩;refine⟨m,A.C 0,dm,_,.ref L,rfl,QG,T.cl 0 (by decide),T.na0,rfl,_,rfl,?_⟩
 refine⟨L,t,tx,e,rfl,ay.of hL.2,htx,ht.sq,he,hf,λp hp0=>?_⟩
 refineλy dy hy hdy ndy=>?_
 refine⟨y,dy,p,(bZ tx e).map V.str,rfl,ae,?_,λp2 hp2=>⟨rfl,?_⟩⟩
 ·exact(((aw hdy).new ((ax (VG ndy)).trans hy)).seq (ay.of ae))
 have hy0:H y=none:=by
  by_cases z:y=p
  ·rw[z,ae]at hy;cases hy
  rw[ax z]at hy;exact hy
 have Uj:H dy=none:=by
  by_cases z:dy=p
  ·rw[z,ae]at hdy;cases hdy
  rw[ax z]at hdy;exact hdy
 have sm0:bh H (ag (ag (ag H p (.lst ((bZ tx e).map V.str))) dy (.own y)) y (.ins (A.C 0) dy [])):=((aw hp0).own Uj).own hy0;have Sw:H p2=none:=by
  cases z:H p2 with
  |none=>rfl
  |some v=>rw[sm0 _ _ z]at hp2;cases hp2
 have sm:bh H (ag (ag (ag (ag (ag H p (.lst ((bZ tx e).map V.str))) dy (.own y)) y (.ins (A.C 0) dy [])) p2 (.lst ((bZ tx e).map V.str))) y (.ins (A.C 0) dy (mF 0 (.ref p2)))):=(sm0.own Sw).own hy0;have nyp:y≠p2:=λz=>by rw[<-z,ae]at hp2;cases hp2
 have X1:=X.cl sm;have hmn:kF A (bP c H) (ag (ag (ag (ag (ag H p (.lst ((bZ tx e).map V.str))) dy (.own y)) y (.ins (A.C 0) dy [])) p2 (.lst ((bZ tx e).map V.str))) y (.ins (A.C 0) dy (mF 0 (.ref p2)))) (.mat (bZ tx e)) y :=
  ⟨bS hy0,dy,.ref p2,ae,p2,rfl,bS Sw,(ax (VG nyp)).trans ae⟩
 have st1:aq (cw i) c (bP c H) H _:=aq.cl a7 sm;have ht1:=ht.step st1;generalize ag (ag (ag (ag (ag H p (.lst ((bZ tx e).map V.str))) dy (.own y)) y (.ins (A.C 0) dy [])) p2 (.lst ((bZ tx e).map V.str))) y (.ins (A.C 0) dy (mF 0 (.ref p2)))=H1 at X1 hmn st1 ht1 ⊢;generalize bP c H=c1 at X1 hmn st1 ht1;refine eO rfl X1.ob T.aH T.bX fQ ⟨_,rfl,aM,_,rfl,o5.k (k:=om (n:Int)) X1.made.2 ?_,?_⟩
 ·unfold bD;rw[bo,V1,Vz];omega
 obtain⟨s2,X2⟩:=X1.IL hn hmn;have ht2:=ht1.step s2.gk;generalize ag H1 aM (.dK (bB (bD ((Vm 1 st.made.length).zip (ms.map V.ref))) (om (n:Int)) (.ref y)))=H2 at s2 X2 ht2 ⊢;refine aS λGb hGb=>?_
 obtain⟨pk,ts,hv2,hl2,tl⟩:=X2.fA hx;refine hGb ?_;refine⟨_,rfl,o,A.aX,dx,_,.ref aE,rfl,X2.ob,T.aH,T.fq,qh,_,rfl,aE,_,rfl,.inl ⟨_,om (n:Int),.inl X2.ja.2,rfl,hv2.symm⟩,?_⟩;refine⟨.inl ⟨rfl,_,ay.of hl2.2⟩,_,rfl,pk,_,_,rfl,rfl,hl2.2,by rw[bo];omega,?_⟩
 obtain⟨s3,X3⟩:=X2.Dw hv2 hl2 hnd ht2;exact q c1 _ ((st1.trans s2.gk).trans s3.gk) X3.at
theorem vE (T:Txt w.params K mg A){i:Nat}:aC P w K mg base a5 4 A.eR A.eI ["self","edit"] (QF A i):=by
 have kD:aC P w K mg base a5 1 A.pR A.i4 ["clause"] R.jX:=R.i9 T;have qd:aC P w K mg base a5 1 A.qK A.jI ["words"] (R.sP K):=R.nQ T;refine T.mD.ok dF (by left) λ_ _ _ _ H _ Q E hr h=>?_
 obtain⟨o,t,c,st,n,r,e,f,rfl,hc,hp,hn,hm,hk1,heo,hwl,hml,ht,hfo,hf,hsz,q⟩:=h;obtain⟨dx,aM,aP,aA,aD,aF,aE,aR,ms,ds,ws,fs,es,X⟩:=hc.ex;have bt:=hr.u1;have lim:fu=16777216:=by decide
 refine⟨_,(ah (aV (i:=2) dF.nd (aO br (bH (pv 0) rfl) (kQ gO aj)))
 (ah (aV (i:=3) dF.nd (bH (bx bt (bH (pv 0) rfl) (pv 2)) rfl))
 (ah (aV (i:=4) dF.nd (az (Iw T) hr T.GR (aa (az kD hr.mono T.iG (aa (aO aY (pv 3) aj) ai)) (aa (pv 1) ai))))
 (ao (fX bt (bH (pv 0) rfl) (pv 2) (eX T.zq (kC T) hr.mono rfl T.zm T.Qs .nil bU (aa (bu (aa (aO aY (pv 3) aj) (aa (aO aY (pv 3) aj) (aa (az qd hr.mono T.lg (aa (pv 4) ai)) ai)))) ai)) rfl))))),?_⟩
 symm;refine aS λGa hGa=>?_
 have h0:atI (st.aJ.map nV) (-1)=some (nV n):=by rw[hp,kt];exact fG _ _
 obtain⟨m,hv,hmo⟩:=X.NQ hn;rw[hm]at hmo;obtain⟨_,dm,v,QG,te,rfl,hte⟩:=hmo;refine hGa ?_;refine⟨_,rfl,o,A.aX,dx,_,.ref aP,rfl,X.ob,T.aH,T.bQ,fg,_,rfl,aP,_,_,_,rfl,rfl,ay.of X.aJ.2,h0,?_⟩;refine⟨_,rfl,o,A.aX,dx,_,.ref aM,rfl,X.ob,T.aH,T.bX,fQ,_,rfl,aM,_,rfl,.inl ⟨_,om (n:Int),.inl X.made.2,rfl,hv.symm⟩,?_⟩;refine⟨m,A.C 1,dm,_,.ref te,rfl,QG,T.cl 1 (by decide),T.na1,rfl,?_⟩
 have h2:=sN (e:=e) hk1;refine a8 rfl hte.sq h2 ⟨e.th,rfl,?_,λp1 hp1=>?_⟩
 ·have:=heo.th.len;omega
 have s1:=aw (o:=.lst ((R.bL e.th).map V.str)) hp1;refine⟨_,rfl,p1,t,R.bL e.th,f,rfl,ay.of ae,hwl,bO s1 ht.sq,hfo,hf,λp2 hp2=>?_⟩
 have s2:=s1.new (o:=.lst ((bZ (R.bL e.th) f).map V.str)) hp2;refine a8 rfl (bO s2 hte.sq) (lO e) (a8 rfl (bO s2 hte.sq) (sM e) ⟨_,rfl,p2,_,rfl,ay.of ae,hsz,(sl 3),λtn htn=>?_⟩)
 have s3:=s2.new (o:=.tup [V.str (kn e.k),.int e.at_,.str (kx R.bl1 (bZ (R.bL e.th) f))]) htn;refineλy dy hy hdy ndy=>?_
 refine⟨y,dy,.ref tn,rfl,ae,rfl,?_⟩;have hno:∀ {a:Addr},(ag (ag (ag H p1 (.lst ((R.bL e.th).map V.str))) p2 (.lst ((bZ (R.bL e.th) f).map V.str))) tn (.tup [V.str (kn e.k),.int e.at_,.str (kx R.bl1 (bZ (R.bL e.th) f))])) a=none->H a=none:=by
  intro a ha;cases z:H a with
  |none=>rfl
  |some v=>rw[s3 _ _ z]at ha;cases ha
 have nyt:y≠tn:=λz=>by rw[z,ae]at hy;cases hy
 have ndt:dy≠tn:=λz=>by rw[z,ae]at hdy;cases hdy
 have Uk:H tn=none:=by
  cases z:H tn with
  |none=>rfl
  |some v=>rw[s2 _ _ z]at htn;cases htn
 have sm:=((s3.own (o:=.own y) (hno hdy)).own (o:=.ins (A.C 1) dy []) (hno hy)).own (o:=.ins (A.C 1) dy (mF 1 (.ref tn))) (hno hy);have X1:=X.cl sm;have er:fF ⟨e.k,e.at_,kx R.bl1 (bZ (R.bL e.th) f)⟩=[V.str (kn e.k),.int e.at_,.str (kx R.bl1 (bZ (R.bL e.th) f))]:=by
  obtain⟨k,a,th⟩:=e;have h3:=heo.k3;dsimp only at h3 hk1 ⊢;rcases h3 with rfl | rfl | rfl
  ·rfl
  ·exact absurd rfl hk1
  rfl
 have hmn:=(⟨bS (hno hy),dy,.ref tn,ae,tn,rfl,bS Uk,.inl (by rw[ax (VG nyt),ax (VG nyt),ax (VG ndt),ae,er])⟩:kF A (bP c H) (ag (ag (ag (ag (ag (ag H p1 (.lst ((R.bL e.th).map V.str))) p2 (.lst ((bZ (R.bL e.th) f).map V.str))) tn (.tup [V.str (kn e.k),.int e.at_,.str (kx R.bl1 (bZ (R.bL e.th) f))])) dy (.own y)) y (.ins (A.C 1) dy [])) y (.ins (A.C 1) dy (mF 1 (.ref tn)))) (.chg ⟨e.k,e.at_,kx R.bl1 (bZ (R.bL e.th) f)⟩) y)
 have st1:aq (cw i) c (bP c H) H _:=aq.cl a7 sm;generalize ag (ag (ag (ag (ag (ag H p1 (.lst ((R.bL e.th).map V.str))) p2 (.lst ((bZ (R.bL e.th) f).map V.str))) tn (.tup [V.str (kn e.k),.int e.at_,.str (kx R.bl1 (bZ (R.bL e.th) f))])) dy (.own y)) y (.ins (A.C 1) dy [])) y (.ins (A.C 1) dy (mF 1 (.ref tn)))=H1 at X1 hmn st1 ⊢;generalize bP c H=c1 at X1 hmn st1;refine eO rfl X1.ob T.aH T.bX fQ ⟨_,rfl,aM,_,rfl,o5.k (k:=om (n:Int)) X1.made.2 ?_,?_⟩
 ·unfold bD;rw[bo,V1,Vz];omega
 obtain⟨s4,X2⟩:=X1.IL hn hmn;exact q c1 _ (st1.trans s4.gk) X2.at
def wW (below:List Mn):Mn->Prop
 | .mat _=>below=[]
 | .chg e=>∃tx,below=[.mat tx]/\gI tx.length e=true
 | .mnd f=>∃tx e,below=[.mat tx,.chg e]/\e.k≠1/\gI (R.bL e.th).length f=true
 | .off _=>(∃tx r,below=.mat tx::r)/\∀b∈below,b.k < 3
 | .cls=>(∃tx r,below=.mat tx::r)/\∀b∈below,b.k < 4
 | .lay=>(∃tx r,below=.mat tx::r)/\∀b∈below,b.k < 5
 | .rst=>∀b∈below,b.k < 6
 | .pnt _=>∀b∈below,b.k < 7
inductive PMs:List Mn->Prop
 |nil:PMs []
 |snoc {ms:List Mn} {m:Mn}:PMs ms->wW ms m->PMs (ms++[m])
theorem PMs.pop {ms:List Mn}{m:Mn}(h:PMs (ms++[m])):PMs ms/\wW ms m:=by
 generalize e:ms++[m]=l at h;cases h with
 |nil=>simp at e
 |snoc h1 h2 =>
  obtain⟨e1,e2⟩:=List.append_inj' e rfl;cases e2;subst e1;exact⟨h1,h2⟩
theorem wW.lt {below:List Mn}:∀ {m:Mn},wW below m->∀b∈below,b.k < m.k
 | .mat _,h,b,hb=>by rw[h]at hb;cases hb
 | .chg _,⟨tx,h,_⟩,b,hb=>by
  rw[h,UT]at hb;rw[hb];show 0 < 1;decide
 | .mnd _,⟨tx,e,h,_,_⟩,b,hb=>by
  rw[h]at hb;rcases List.mem_cons.mp hb with rfl | hb
  ·show 0 < 2;decide
  rw[UT]at hb;rw[hb];show 1 < 2;decide
 | .off _,h,b,hb=>h.2 b hb
 | .cls,h,b,hb=>h.2 b hb
 | .lay,h,b,hb=>h.2 b hb
 | .rst,h,b,hb=>h b hb
 | .pnt _,h,b,hb=>h b hb
theorem PMs.le_top {ms:List Mn}(h:PMs ms):∀b∈ms,(b.k:Int)<=q5 ms:=by
 cases h with
 |nil=>intro b hb;cases hb
 |snoc h1 h2 =>
  intro b hb;rw[mH];rcases List.mem_append.mp hb with hb | hb
  ·have:=h2.lt b hb;omega
  rw[UT]at hb;rw[hb];exact Int.le_refl _
theorem PMs.GZ {ms:List Mn}(h:PMs ms):sS ms=true->∃tx r,ms=.mat tx::r:=by
 induction h with
 |nil=>intro h;cases h
 | @snoc ms m h1 h2 ih =>
  intro h;unfold sS at h ih;rw[List.any_append,Bool.or_eq_true]at h;rcases h with h | h
  ·obtain⟨tx,r,e⟩:=ih h;exact⟨tx,r++[m],by rw[e];rfl⟩
  cases m with
  |mat tx =>
   have:ms=[]:=h2;rw[this];exact⟨tx,[],rfl⟩
  |_=>simp[Mn.k]at h
theorem PMs.len {ms:List Mn}(h:PMs ms):(ms.length:Int)<=q5 ms+1:=by
 induction h with
 |nil=>decide
 | @snoc ms m h1 h2 ih =>
  rw[mH,ki,UY];have:q5 ms < (m.k:Int):=by
   unfold q5;split
   ·omega
   rename_i b hb;have:=h2.lt b (List.mem_of_getLast? hb);omega
  omega
theorem PMs.LW {ms:List Mn}(h:PMs ms):ms.length<=8:=by
 have:=h.len;have:=QA ms;omega
theorem Fj (cl:Bool)(ms:List Mn):q5 ms<=uF cl ms:=by
 unfold uF;split
 ·split <;> omega
 exact Int.le_refl _
theorem uK {cl:Bool}{ms:List Mn}{k:Nat}(h:q8 cl ms k=none):q5 ms < (k:Int)/\qk ms k=true:=by
 have hb:=Fj cl ms;unfold q8 at h;split at h
 ·cases h
 split at h
 ·exact⟨by omega,by assumption⟩
 split at h <;> cases h
theorem LX {ms:List Mn}(h:q5 ms < 0):ms=[]:=by
 rcases Vg ms with e | ⟨r,b,e⟩
 ·exact e
 rw[e,Vh,mH]at h;omega
def Sx (ms:List Mn):Mn->Prop
 | .chg e=>∀tx r,ms=.mat tx::r->gI tx.length e=true
 | .mnd f=>∀r e,ms=r++[.chg e]->gI (R.bL e.th).length f=true
 |_=>True
theorem mJ {α:Type}{xs:List α}{x:α}(h:xs.getLast?=some x):∃r,xs=r++[x]:=by
 rcases Vg xs with e | ⟨r,b,e⟩
 ·rw[e]at h;cases h
 rw[Vh]at e;rw[e,VF]at h;cases h;exact⟨r,e⟩
theorem PMs.push {cl:Bool}{ms:List Mn}(h:PMs ms){m:Mn}(ho:q8 cl ms m.k=none)(hf:Sx ms m):PMs (ms++[m]):=by
 obtain⟨h1,h2⟩:=uK ho;have lt:∀b∈ms,b.k < m.k:=λb hb=>by have:=h.le_top b hb;omega
 refine .snoc h ?_;cases m with
 |mat tx=>exact LX h1
 |chg e =>
  obtain⟨tx,r,e1⟩:=h.GZ h2;refine⟨tx,?_,hf tx r e1⟩;rcases Vg r with e2 | ⟨r',b,e2⟩
  ·rw[e1,e2]
  rw[Vh]at e2;have hb:b.k < 1:=lt b (by rw[e1,e2];simp)
  rw[e1,e2,<-List.cons_append]at h;have ht:=h.pop.2;cases b with
  |mat ty=>exact absurd ht (U5 _ _)
  |_=>simp[Mn.k]at hb
 |mnd f =>
  have h3:fb ms=true:=h2;unfold fb at h3;split at h3
  ·rename_i e he;obtain⟨r,e1⟩:=mJ he;rw[e1]at h;obtain⟨tx,e2,_⟩:=h.pop.2;refine⟨tx,e,by rw[e1,e2];rfl,?_,hf r e e1⟩
   intro z;rw[z]at h3;cases h3
  cases h3
 |off n=>exact⟨h.GZ h2,lt⟩
 |cls=>exact⟨h.GZ h2,lt⟩
 |lay=>exact⟨h.GZ h2,lt⟩
 |rst=>exact lt
 |pnt z=>exact lt
theorem Dy {st:Ch}{n:Nat}{m:Mn}(hn:dY st n){st':Ch}(h:st'.made=st.made.set (n - 1) m):st'.mo n=m:=by
 unfold Ch.mo;have:=hn.1;have:=hn.2;rw[h,U7,List.getElem?_set_self (by omega)]
 rfl
theorem qO {st:Ch}{n k:Nat}{m:Mn}(hn:dY st n)(h1:1<=k)(ne:k≠n){st':Ch}(h:st'.made=st.made.set (n - 1) m):st'.mo k=st.mo k:=by
 unfold Ch.mo;have:=hn.1;rw[h,U7,List.getElem?_set_ne (by omega),<-U7]
theorem G0 {st:Ch}{m:Mn}{st':Ch}(h:st'.made=st.made++[m]){k:Nat}(hk:dY st k):st'.mo k=st.mo k:=by
 unfold Ch.mo;have:=hk.1;have:=hk.2;rw[h,U7,Wm (by omega),<-U7]
theorem G1 {st:Ch}{m:Mn}{st':Ch}(h:st'.made=st.made++[m]):st'.mo (st.made.length+1)=m:=by
 unfold Ch.mo;rw[h,U7,Nat.add_sub_cancel,List.getElem?_append_right (mv _),Nat.sub_self];rfl
def EdB (N:Nat)(e:Ed):Prop:=(e.k=0\/e.k=1\/e.k=2)/\-9999999999<=e.at_/\e.at_<=9999999999/\∃ws,e.th=kx R.bl1 ws/\(∀w∈ws,R.jr w)/\ws.length<=N
def MOk (N:Nat):Mn->Prop
 | .mat tx=>tx.length<=13+N/\∀x∈tx,Vu x=true
 | .chg e=>EdB (12+N) e
 | .mnd f=>EdB 1 f/\∃w,f.th=w/\R.jr w
 | .off u=>-10000000000 < u/\u < 10000000000
 | .pnt z=>Vu z=true
 |_=>True
theorem EdB.mono {N M:Nat}(h:N<=M){e:Ed}(z:EdB N e):EdB M e:=by
 obtain⟨a,b,c,ws,d,f,g⟩:=z;exact⟨a,b,c,ws,d,f,Vc g h⟩
theorem MOk.mono {N M:Nat}(h:N<=M):∀ {m:Mn},MOk N m->MOk M m
 | .mat tx,z=>⟨Vc z.1 (by omega),z.2⟩
 | .chg e,z=>EdB.mono (by omega) z
 | .mnd f,z=>z
 | .off u,z=>z
 | .cls,_=>trivial
 | .lay,_=>trivial
 | .rst,_=>trivial
 | .pnt _,z=>z
noncomputable def Ch.all (st:Ch):List Nat:=st.aJ++(st.aU.flatMap (·.2.2)++st.bW.map (·.1))
def Ch.uL (st:Ch):List Nat:=(Vm 1 st.made.length).filter λn=>decide ((st.mo n).k=0)
structure av (N:Nat)(st:Ch):Prop where
 lm:3 * st.made.length<=N
 lr:st.rows.length<=N
 ld:st.bW.length<=N
 la:st.aU.length<=N
 lk:∀x∈st.kept,x.2.length<=N
 sit:1<=st.bc/\st.bc<=N+1
 mok:∀m∈st.made,MOk N m
 num:∀n∈st.all,dY st n
 nd:st.all.Nodup
 pil:PMs (st.aJ.map st.mo)
 asd:∀x∈st.aU,PMs (x.2.2.map st.mo)/\(∃r,x.2.2=x.1::r)/\-10000000000 < x.2.1/\x.2.1 < 10000000000
 kk:st.kept.map (·.1)=st.uL
 ff:st.firsts.map (·.1)=st.uL
 dw:∀x∈st.bW,Vu x.2=true
theorem av.mono {N M:Nat}(h:N<=M){st:Ch}(I:av N st):av M st where
 lm:=Vc I.lm h
 lr:=Vc I.lr h
 ld:=Vc I.ld h
 la:=Vc I.la h
 lk:=λx hx=>Vc (I.lk x hx) h
 sit:=⟨I.sit.1,by have:=I.sit.2;omega⟩
 mok:=λm hm=>(I.mok m hm).mono h
 num:=I.num
 nd:=I.nd
 pil:=I.pil
 asd:=I.asd
 kk:=I.kk
 ff:=I.ff
 dw:=I.dw
theorem av.vF {N:Nat}{st:Ch}(I:av N st){n:Nat}(hn:dY st n):MOk N (st.mo n):=by
 have:=hn.1;have:=hn.2;have hlt:n - 1 < st.made.length:=by omega
 have e:st.mo n=st.made[n - 1]:=by unfold Ch.mo;rw[U7,wa hlt];rfl
 rw[e];exact I.mok _ (Wh hlt)
theorem av.cF {N:Nat}{st:Ch}(I:av N st):∀n∈st.aJ,dY st n:=λn hn=>I.num n (VD _ hn)
theorem av.qm {N:Nat}{st:Ch}(I:av N st){x:Nat×Int×List Nat}(hx:x∈st.aU):∀n∈x.2.2,dY st n:=λn hn =>
 I.num n (U1 _ (VD _ (List.mem_flatMap.mpr ⟨x,hx,hn⟩)))
theorem av.IM {N:Nat}{st:Ch}(I:av N st){n:Nat}(hn:n∈st.aJ){x:Nat×Int×List Nat}(hx:x∈st.aU):n∉x.2.2:=λz =>
 (List.nodup_append.mp I.nd).2.2 n hn n (VD _ (List.mem_flatMap.mpr ⟨x,hx,z⟩)) rfl
theorem av.Dz {N:Nat}{st:Ch}(I:av N st){n:Nat}(hn:n∈st.aJ):n∉st.aU.map (·.1):=λz=>by
 obtain⟨x,hx,e⟩:=List.mem_map.mp z;obtain⟨r,er⟩:=(I.asd x hx).2.1;exact I.IM hn hx (by rw[er,e];exact eg)
theorem NR {st st':Ch}(hl:st'.made.length=st.made.length)(hk:∀n,dY st n->(st'.mo n).k=(st.mo n).k):st'.uL=st.uL:=by
 unfold Ch.uL;rw[hl];refine List.filter_congr λn hn=>?_
 rw[V7]at hn;rw[hk n ⟨hn.1,by omega⟩]
theorem G4 (st:Ch):st.uL.Nodup:=List.filter_sublist.nodup List.nodup_range'
theorem av.keptAt {N:Nat}{st:Ch}(I:av N st){n:Nat}(hn:dY st n)(hk:(st.mo n).k=0):∃x,at1 n st.kept=some x/\x.2.length<=N:=by
 cases e:at1 n st.kept with
 |some x=>exact⟨x,rfl,I.lk x (ic e).2⟩
 |none =>
  have h:=uI e;rw[I.kk]at h;have hr:n∈Vm 1 st.made.length:=by
   rw[V7];have:=hn.1;have:=hn.2;omega
  exact absurd (show n∈st.uL from List.mem_filter.mpr ⟨hr,by exact bG hk⟩) h
noncomputable def Ch.popped (st:Ch)(pre:List Nat)(n:Nat)(wd:Str):Ch:={ st with aJ:=pre,bW:=st.bW++[(n,wd)] }
theorem av.pop {N:Nat}{st:Ch}(I:av N st){pre:List Nat}{n:Nat}(e:st.aJ=pre++[n])(wd:Str)(hw:Vu wd=true):av (N+1) (st.popped pre n wd)/\wW (pre.map st.mo) (st.mo n):=by
 have hp:=I.pil;rw[e,kt]at hp;obtain⟨p1,p2⟩:=PMs.pop hp;have perm:WA (st.popped pre n wd).all st.all:=by
  unfold Ch.all Ch.popped;rw[e,kt];have:WA (st.aU.flatMap (·.2.2)++(st.bW.map (·.1)++[(n,wd)].map (·.1))) ([n]++(st.aU.flatMap (·.2.2)++st.bW.map (·.1))):=by
   rw[<-VX];exact List.perm_append_comm
  exact(List.Perm.append_left pre this).trans (by rw[VX])
 refine⟨⟨Vk I.lm,Vk I.lr,?_,Vk I.la,λx hx=>Vk (I.lk x hx),⟨I.sit.1,by have:=I.sit.2;show st.bc<=_;omega⟩,λm hm=>(I.mok m hm).mono (by omega),λk hk=>I.num k (perm.mem_iff.mp hk),perm.nodup_iff.mpr I.nd,p1,I.asd,I.kk,I.ff,?_⟩,p2⟩
 ·show (st.bW++[(n,wd)]).length<=_;rw[ki,UY];have:=I.ld;omega
 intro x hx;rcases List.mem_append.mp hx with h | h
 ·exact I.dw x h
 rw[UT]at h;rw[h];exact hw
theorem av.sV {N:Nat}{st:Ch}(I:av N st)(z:Str):av (N+1) (st.sV z):=by
 refine⟨Vk I.lm,?_,Vk I.ld,Vk I.la,λx hx=>Vk (I.lk x hx),⟨I.sit.1,by have:=I.sit.2;show st.bc<=_;omega⟩,λm hm=>(I.mok m hm).mono (by omega),I.num,I.nd,I.pil,I.asd,I.kk,I.ff,I.dw⟩
 show (st.rows++[z]).length<=_;rw[ki,UY];have:=I.lr;omega
theorem av.O1 {N:Nat}{st:Ch}(I:av N st){n:Nat}{m:Mn}(hn:n∈st.aJ)(hk:m.k=(st.mo n).k)(hm:MOk (N+1) m){kp:List (Nat×List Ed)}(ek:kp.map (·.1)=st.kept.map (·.1))(lk:∀x∈kp,x.2.length<=N+1)
  (hp:PMs (st.aJ.map (Ch.mo { st with made:=st.made.set (n - 1) m,kept:=kp }))):av (N+1) { st with made:=st.made.set (n - 1) m,kept:=kp }:=by
 have hno:=I.cF n hn;have kinds:∀k,dY st k->(Ch.mo { st with made:=st.made.set (n - 1) m,kept:=kp } k).k=(st.mo k).k:=λk h=>by
  by_cases z:k=n
  ·subst z;rw[Dy hno rfl,hk]
  rw[qO hno h.1 z rfl]
 have em:Ch.uL { st with made:=st.made.set (n - 1) m,kept:=kp }=st.uL:=NR (by show (st.made.set (n - 1) m).length=_;rw[V0]) kinds
 refine⟨?_,Vk I.lr,Vk I.ld,Vk I.la,lk,⟨I.sit.1,by have:=I.sit.2;show st.bc<=_;omega⟩,?_,?_,I.nd,hp,?_,by rw[em,<-I.kk];exact ek,by rw[em];exact I.ff,I.dw⟩
 ·show 3 * (st.made.set (n - 1) m).length<=_;rw[V0];have:=I.lm;omega
 ·intro x hx;rcases List.mem_or_eq_of_mem_set hx with h | h
  ·exact(I.mok x h).mono (by omega)
  rw[h];exact hm
 ·intro k hk;have:=I.num k hk;exact⟨this.1,by show k<=(st.made.set (n - 1) m).length;rw[V0];exact this.2⟩
 intro x hx;obtain⟨h1,h2⟩:=I.asd x hx;refine⟨?_,h2⟩;have:x.2.2.map (Ch.mo { st with made:=st.made.set (n - 1) m,kept:=kp })=x.2.2.map st.mo:=VY λk hk =>
  qO hno (I.qm hx k hk).1 (λz=>I.IM hn hx (by rw[<-z];exact hk)) rfl
 rw[this];exact h1
theorem av.kO {N:Nat}{st:Ch}(I:av N st){n:Nat}{r:List Nat}(e:st.aJ=n::r){u:Int}(h0:-10000000000 < u)(h1:u < 10000000000):av (N+1) (st.kO n u):=by
 have perm:WA (st.kO n u).all st.all:=by
  unfold Ch.all Ch.kO;rw[List.flatMap_append,List.nil_append];show WA ((st.aU.flatMap (·.2.2)++[(n,u,st.aJ)].flatMap (·.2.2))++st.bW.map (·.1)) _
  rw[show [(n,u,st.aJ)].flatMap (·.2.2)=st.aJ by simp,<-VX]
  exact List.Perm.append_right _ List.perm_append_comm
 refine⟨Vk I.lm,Vk I.lr,Vk I.ld,?_,λx hx=>Vk (I.lk x hx),⟨I.sit.1,by have:=I.sit.2;show st.bc<=_;omega⟩,λm hm=>(I.mok m hm).mono (by omega),λk hk=>I.num k (perm.mem_iff.mp hk),perm.nodup_iff.mpr I.nd,.nil,?_,I.kk,I.ff,I.dw⟩
 ·show (st.aU++[(n,u,st.aJ)]).length<=_;rw[ki,UY];have:=I.la;omega
 intro x hx;rcases List.mem_append.mp hx with hx | hx
 ·exact I.asd x hx
 rw[UT]at hx;subst hx;exact⟨I.pil,⟨r,e⟩,h0,h1⟩
def Ch.carry (st:Ch):Mn->Ch
 | .chg e=>match st.aJ with
  |n::_=>(match st.mo n with
   | .mat tx=>st.LU n tx e
   |_=>st)
  |[]=>st
 | .mnd f=>match st.aJ.getLast? with
  |some n=>(match st.mo n with
   | .chg e=>st.LV n e (bZ (R.bL e.th) f)
   |_=>st)
  |none=>st
 | .off u=>match st.aJ with
  |n::_=>st.kO n u
  |[]=>st
 | .cls=>{ st with closed:=true }
 | .lay=>match st.aJ with
  |n::_=>st.kO n st.bc
  |[]=>st
 | .rst=>{ st with bc:=st.bc+1 }
 |_=>st
theorem qP (xs:List Str)(e:Ed):(bZ xs e).length<=xs.length+1:=by
 unfold bZ;split
 ·rw[ki,UQ,Vf,VM];omega
 ·exact Vk (List.length_eraseIdx_le _ _)
 rw[V0];omega
theorem B8 {xs:List Str}{e:Ed}{x:Str}(h:x∈bZ xs e):x∈xs\/x=e.th:=by
 unfold bZ at h;split at h
 ·rcases List.mem_append.mp h with h | h
  ·exact .inl (Wt h)
  rcases List.mem_cons.mp h with h | h
  ·exact .inr h
  exact .inl (List.mem_of_mem_drop h)
 ·exact .inl (List.mem_of_mem_eraseIdx h)
 exact List.mem_or_eq_of_mem_set h
theorem NS {α β:Type}{f:α->β}{xs:List α}{y:β}(h:xs.map f=[y]):∃a,xs=[a]/\f a=y:=by
 cases xs with
 |nil=>cases h
 |cons a r =>
  cases r with
  |nil=>exact⟨a,rfl,by simpa using h⟩
  |cons b r=>simp at h
theorem QH {α β:Type}{f:α->β}{xs:List α}{y z:β}(h:xs.map f=[y,z]):∃a b,xs=[a,b]/\f a=y/\f b=z:=by
 cases xs with
 |nil=>cases h
 |cons a r =>
  rw[rf]at h;obtain⟨b,rfl,e⟩:=NS (List.cons.inj h).2;exact⟨a,b,rfl,(List.cons.inj h).1,e⟩
theorem JQ {α β:Type}{f:α->β}{xs:List α}{y:β}{r:List β}(h:xs.map f=y::r):∃a s,xs=a::s/\f a=y:=by
 cases xs with
 |nil=>cases h
 |cons a s=>exact⟨a,s,rfl,(List.cons.inj h).1⟩
theorem EdB.ok {N:Nat}{e:Ed}(h:EdB N e)(hN:N<=4000):q0 e:=by
 obtain⟨a,b,c,ws,d,f,g⟩:=h;refine⟨a,b,c,?_,?_⟩
 ·rw[d];exact kz (λx hx=>by
   rw[show (R.bl1:Str).cps.toList=[32] by trivial,UT]at hx
   omega) ws λw hw=>λx hx=>by have:=(f w hw).sgn x hx;unfold R.Sign at this;omega
 rw[d,R.fw];have h1:=qE 32 ws;have h2:=R.Fd f;omega
theorem EdB.str {N:Nat}{e:Ed}(h:EdB N e):Vu e.th=true:=by
 obtain⟨a,b,c,ws,d,f,g⟩:=h;rw[d];exact(kz (λx hx=>by
  rw[show (R.bl1:Str).cps.toList=[32] by trivial,UT]at hx
  omega) ws λw hw=>λx hx=>by have:=(f w hw).sgn x hx;unfold R.Sign at this;omega).ok
theorem EdB.words {N:Nat}{e:Ed}(h:EdB N e):(∀w∈R.bL e.th,R.jr w)/\(R.bL e.th).length<=N:=by
 obtain⟨a,b,c,ws,d,f,g⟩:=h;rw[d,R.eA f];exact⟨f,g⟩
theorem sW {ws:List Str}{f:Ed}(h:∀w∈ws,R.jr w)(hf:R.jr f.th):∀w∈bZ ws f,R.jr w:=λw hw=>by
 rcases B8 hw with h1 | h1
 ·exact h w h1
 rw[h1];exact hf
theorem JR (n:Nat)(e:Ed)(xs:List (Nat×List Ed)):(o7 n e xs).map (·.1)=xs.map (·.1):=by
 unfold o7;rw[V4];refine VY λx _=>?_
 show (if x.1=n then (x.1,x.2++[e]) else x).1=x.1
 split <;> rfl
theorem LY {n N:Nat}{e:Ed}{xs:List (Nat×List Ed)}(h:∀x∈xs,x.2.length<=N):∀x∈o7 n e xs,x.2.length<=N+1:=by
 intro x hx;obtain⟨y,hy,rfl⟩:=List.mem_map.mp hx;have:=h y hy;split
 ·show (y.2++[e]).length<=_;rw[ki,UY];omega
 omega
theorem av.carry {N:Nat}{st:Ch}(I:av N st)(hN:N<=900){m:Mn}(ht:wW (st.aJ.map st.mo) m)(hm:MOk N m):av (N+1) (st.carry m):=by
 have J:=I.mono (WB N);cases m with
 |mat tx=>exact J
 |pnt z=>exact J
 |chg e =>
  obtain⟨tx,h1,hf⟩:=ht;obtain⟨k,e1,e2⟩:=NS h1;have hn:k∈st.aJ:=by rw[e1];exact eg
  have htx:=I.vF (I.cF k hn);rw[e2]at htx;have e3:st.carry (.chg e)=st.LU k tx e:=by unfold Ch.carry;rw[e1];dsimp only;rw[e2]
  rw[e3];refine I.O1 hn (by rw[e2];rfl) ?_ (JR k e st.kept) (LY I.lk) ?_
  ·have:=qP tx e;have h3:tx.length<=13+N:=htx.1;refine⟨by omega,λx hx=>?_⟩
   rcases B8 hx with h | h
   ·exact htx.2 x h
   rw[h];exact EdB.str hm
  rw[e1,rf,VH,Dy (I.cF k hn) rfl];exact PMs.snoc (ms:=[]) .nil rfl
 |mnd f =>
  obtain⟨tx,e,h1,hk,hf⟩:=ht;obtain⟨a,b,e1,e2,e3⟩:=QH h1;have ha:a∈st.aJ:=by rw[e1];exact eg
  have hb:b∈st.aJ:=by rw[e1];exact ma _ eg
  have he:=I.vF (I.cF b hb);rw[e3]at he;have he':EdB (12+N) e:=he;obtain⟨w1,w2⟩:=he'.words;have e4:st.carry (.mnd f)=st.LV b e (bZ (R.bL e.th) f):=by unfold Ch.carry;rw[e1];show (match st.mo b with | .chg e=>_ | _=>st)=_;rw[e3];rfl
  rw[e4];obtain⟨_,w,hw,hw2⟩:=hm;refine I.O1 (kp:=st.kept) hb (by rw[e3];rfl) ?_ rfl (λx hx=>Vk (I.lk x hx)) ?_
  ·refine⟨he'.1,he'.2.1,he'.2.2.1,_,rfl,sW w1 (by rw[hw];exact hw2),?_⟩
   have:=qP (R.bL e.th) f;omega
  have ne:a≠b:=λz=>by rw[z,e3]at e2;cases e2
  have hp:=I.pil;rw[h1]at hp;obtain⟨tx',e5,e6⟩:=(PMs.pop (ms:=[.mat tx]) hp).2;cases e5;rw[e1,rf,rf,VH,Dy (I.cF b hb) rfl,qO (I.cF b hb) (I.cF a ha).1 ne rfl,e2];exact PMs.snoc (ms:=[.mat tx]) (PMs.snoc (ms:=[]) .nil rfl) ⟨tx,rfl,e6⟩
 |off u =>
  obtain⟨⟨tx,r,h1⟩,_⟩:=ht;obtain⟨k,s,e1,_⟩:=JQ h1;have e3:st.carry (.off u)=st.kO k u:=by unfold Ch.carry;rw[e1]
  rw[e3];exact I.kO e1 hm.1 hm.2
 |lay =>
  obtain⟨⟨tx,r,h1⟩,_⟩:=ht;obtain⟨k,s,e1,_⟩:=JQ h1;have e3:st.carry .lay=st.kO k st.bc:=by unfold Ch.carry;rw[e1]
  rw[e3];have:=I.sit;exact I.kO e1 (by omega) (by omega)
 |cls=>exact⟨J.lm,J.lr,J.ld,J.la,J.lk,J.sit,J.mok,J.num,J.nd,J.pil,J.asd,J.kk,J.ff,J.dw⟩
 |rst=>exact⟨J.lm,J.lr,J.ld,J.la,J.lk,⟨by have:=I.sit.1;show 1<=st.bc+1;omega,by have:=I.sit.2;show st.bc+1<=_;omega⟩,J.mok,J.num,J.nd,J.pil,J.asd,J.kk,J.ff,J.dw⟩
inductive Rs where
 |num (n:Nat) | txt (z:Str) | exc (x:Xc)
noncomputable abbrev zT:Str:=ar "kept"
noncomputable abbrev O2:Str:=ar "lost"
noncomputable abbrev kI:Str:=ar "dropped"
def qo (b:Bool):Str:=if b=true then zT else O2
theorem DA (b:Bool):Vu (qo b)=true:=by
 unfold qo;split <;> trivial
def ly (st:Ch)(a b:Int):Rs×Ch:=match st.aJ.getLast? with
 |none=>(.exc .nothing,st)
 |some n=>if a+b > st.cq then (.exc .tooMany,st) else
  (.txt (qo (lx (nd (st.mo n).k) a b)),(if lx (nd (st.mo n).k) a b=true then (st.popped st.aJ.dropLast n (qo (lx (nd (st.mo n).k) a b))).carry (st.mo n) else st.popped st.aJ.dropLast n (qo (lx (nd (st.mo n).k) a b))).sV (R.cG (.nums (ar "vote") [a,b])))
def mK (st:Ch):Rs×Ch:=match st.aJ.getLast? with
 |none=>(.exc .nothing,st)
 |some n=>(.txt kI,(st.popped st.aJ.dropLast n kI).sV (R.cG (.nums (ar "drop") [])))
def stepT (st:Ch)(n:Nat):Rs×Ch:=if st.aJ=[] then (match at1 n st.aU with
 |none=>(.exc .xG,st)
 |some x=>if st.bc < x.2.1 then (.exc (.LQ x.2.1),st) else (.num n,{ st.oW n x.2.2 with rows:=st.rows++[R.cG (.nums (ar "take") [(n:Int)])] })) else (.exc (.Ds (uF st.closed (st.aJ.map st.mo))),st)
def kP (st:Ch):Mn->Option Xc
 | .chg e=>match st.aJ.map st.mo with
  | .mat tx::_=>if gI tx.length e=true then none else some .noFit
  |_=>none
 | .mnd f=>match (st.aJ.map st.mo).getLast? with
  |some (.chg e)=>if gI (R.bL e.th).length f=true then none else some .noFit
  |_=>none
 | .off u=>if u<=st.bc then some (.zQ st.bc) else none
 |_=>none
def ij (st:Ch)(m:Mn):Option Xc:=match q8 st.closed (st.aJ.map st.mo) m.k with
 |some x=>some x
 |none=>kP st m
noncomputable def Ch.moved (st:Ch)(m:Mn)(row:Str):Ch:={ st with made:=st.made++[m],aJ:=st.aJ++[st.made.length+1],firsts:=(match m with | .mat tx=>st.firsts++[(st.made.length+1,tx)] | _=>st.firsts),kept:=(match m with | .mat _=>st.kept++[(st.made.length+1,([]:List Ed))] | _=>st.kept),rows:=st.rows++[row] }
def mL (st:Ch)(m:Mn)(row:Str):Rs×Ch:=match ij st m with
 |some x=>(.exc x,st)
 |none=>(.num (st.made.length+1),st.moved m row)
theorem av.moved {N:Nat}{st:Ch}(I:av N st){m:Mn}(hm:MOk N m)(hc:ij st m=none)(row:Str):av (N+3) (st.moved m row):=by
 have J:=I.mono (show N<=N+3 by omega)
 have ho:q8 st.closed (st.aJ.map st.mo) m.k=none/\kP st m=none:=by
  unfold ij at hc;split at hc
  ·cases hc
  exact⟨by assumption,hc⟩
 have hf:Sx (st.aJ.map st.mo) m:=by
  have h:=ho.2;cases m with
  |chg e =>
   intro tx r e1;unfold kP at h;dsimp only at h;rw[e1]at h;dsimp only at h;split at h
   ·assumption
   cases h
  |mnd f =>
   intro r e e1;unfold kP at h;dsimp only at h;rw[e1,VF]at h;dsimp only at h;split at h
   ·assumption
   cases h
  |_=>trivial
 have em:(st.moved m row).made=st.made++[m]:=rfl;have old:∀ks:List Nat,(∀k∈ks,dY st k)->ks.map (st.moved m row).mo=ks.map st.mo:=λks h=>VY λk hk=>G0 em (h k hk)
 have nok:∀k,dY st k->dY (st.moved m row) k:=λk h=>⟨h.1,by show k<=(st.made++[m]).length;rw[ki];have:=h.2;omega⟩
 have perm:WA (st.moved m row).all ((st.made.length+1)::st.all):=by
  unfold Ch.all Ch.moved;rw[VX];exact List.perm_middle
 have mt:(st.moved m row).uL=st.uL++(if m.k=0 then [st.made.length+1] else []):=by
  unfold Ch.uL;rw[em,ki,UY,List.range'_concat,List.filter_append,Nat.one_mul,Nat.add_comm 1]
  congr 1
  ·refine List.filter_congr λk hk=>?_
   rw[V7]at hk;rw[G0 em ⟨hk.1,by omega⟩]
  rw[List.filter_cons,G1 em]
  by_cases z:m.k=0
  ·rw[bp (bG z),bp z];rfl
  rw[aZ (by rw[bV z];decide),aZ z];rfl
 refine⟨?_,?_,J.ld,J.la,?_,J.sit,?_,?_,?_,?_,?_,?_,?_,J.dw⟩
 ·show 3 * (st.made++[m]).length<=_;rw[ki,UY];have:=I.lm;omega
 ·show (st.rows++[row]).length<=_;rw[ki,UY];have:=I.lr;omega
 ·intro x hx;have hx':x∈(match m with | .mat _=>st.kept++[(st.made.length+1,([]:List Ed))] | _=>st.kept):=hx
  cases m with
  |mat tx =>
   rcases List.mem_append.mp hx' with h | h
   ·exact J.lk x h
   rw[UT]at h;rw[h];exact Vl _
  |_=>exact J.lk x hx'
 ·intro x hx;rcases List.mem_append.mp (show x∈st.made++[m] from hx) with h | h
  ·exact J.mok x h
  rw[UT]at h;rw[h];exact hm.mono (by omega)
 ·intro k hk;rcases List.mem_cons.mp (perm.mem_iff.mp hk) with h | h
  ·rw[h];exact⟨by omega,by show _<=(st.made++[m]).length;rw[ki,UY];omega⟩
  exact nok k (I.num k h)
 ·rw[perm.nodup_iff,List.nodup_cons];exact⟨λz=>by have:=(I.num _ z).2;omega,I.nd⟩
 ·show PMs ((st.aJ++[st.made.length+1]).map (st.moved m row).mo);rw[kt,old st.aJ I.cF,rf,VH,G1 em];exact I.pil.push ho.1 hf
 ·intro x hx;obtain⟨h1,h2⟩:=I.asd x hx;exact⟨by rw[old _ (I.qm hx)];exact h1,h2⟩
 ·rw[mt,<-I.kk];cases m with
  |mat tx=>show (st.kept++[(st.made.length+1,([]:List Ed))]).map (·.1)=_;rw[kt,bp (show (Mn.mat tx).k=0 from rfl)];rfl
  |_=>exact(List.append_nil _).symm
 rw[mt,<-I.ff];cases m with
 |mat tx=>show (st.firsts++[(st.made.length+1,tx)]).map (·.1)=_;rw[kt,bp (show (Mn.mat tx).k=0 from rfl)];rfl
 |_=>exact(List.append_nil _).symm
theorem B9 {n:Nat}{x:Nat×Int×List Nat}:∀ {as:List (Nat×Int×List Nat)},(as.flatMap (·.2.2)).Nodup->(∀y∈as,∃r,y.2.2=y.1::r)->at1 n as=some x->WA (x.2.2++(as.filter λy=>decide (y.1≠n)).flatMap (·.2.2)) (as.flatMap (·.2.2))
 |[],_,_,h=>nomatch h
 |y::as,nd,hd,h=>by
  rw[List.flatMap_cons]at nd ⊢;obtain⟨n1,n2,n3⟩:=List.nodup_append.mp nd;unfold at1 at h;rw[VB]at h
  by_cases e:y.1=n
  ·rw[bG e]at h;cases h;have:as.filter (λz=>decide (z.1≠n))=as:=by
    rw[List.filter_eq_self];intro z hz;refine bG λq=>?_
    obtain⟨r,hr⟩:=hd z (ma _ hz);obtain⟨r',hr'⟩:=hd x eg;exact n3 n (by rw[hr',e];exact eg) n (List.mem_flatMap.mpr ⟨z,hz,by rw[hr,q];exact eg⟩) rfl
   rw[List.filter_cons_of_neg (by simp[e]),this]
  rw[bV e]at h;have ih:=B9 n2 (λz hz=>hd z (ma _ hz)) h
  rw[List.filter_cons_of_pos (by simp[e]),List.flatMap_cons,<-VX]
  exact(List.Perm.append_right _ List.perm_append_comm).trans (by rw[VX];exact List.Perm.append_left _ ih)
theorem av.oW {N:Nat}{st:Ch}(I:av N st){n:Nat}{x:Nat×Int×List Nat}(hp:st.aJ=[])(hx:at1 n st.aU=some x)(row:Str):av (N+1) { st.oW n x.2.2 with rows:=st.rows++[row] }:=by
 have J:=I.mono (WB N);have hm:=(ic hx).2;have nd:=I.nd;unfold Ch.all at nd;rw[hp,List.nil_append]at nd;have pm:=B9 (List.nodup_append.mp nd).1 (λy hy=>(I.asd y hy).2.1) hx
 have perm:WA (Ch.all { st.oW n x.2.2 with rows:=st.rows++[row] }) st.all:=by
  unfold Ch.all Ch.oW;rw[hp,List.nil_append,<-VX];exact List.Perm.append_right _ pm
 refine⟨J.lm,?_,J.ld,?_,J.lk,J.sit,J.mok,λk hk=>I.num k (perm.mem_iff.mp hk),perm.nodup_iff.mpr I.nd,(I.asd x hm).1,λy hy=>I.asd y (List.mem_filter.mp hy).1,I.kk,I.ff,I.dw⟩
 ·show (st.rows++[row]).length<=_;rw[ki,UY];have:=I.lr;omega
 exact Vc (List.length_filter_le _ _) J.la
theorem av.ly {N:Nat}{st:Ch}(I:av N st)(hN:N<=800)(a b:Int):av (N+3) (ly st a b).2:=by
 unfold _M.ly;split
 ·exact I.mono (by omega)
 rename_i n h;obtain⟨pre,e⟩:=mJ h;split
 ·exact I.mono (by omega)
 have ed:st.aJ.dropLast=pre:=by rw[e];exact V6
 obtain⟨I1,ht⟩:=I.pop e (qo (lx (_M.nd (st.mo n).k) a b)) (DA _);rw[ed];have hn:n∈st.aJ:=by rw[e];simp
 split
 ·exact(I1.carry (by omega) ht ((I.vF (I.cF n hn)).mono (by omega))).sV _
 exact(I1.sV _).mono (by omega)
theorem av.mK {N:Nat}{st:Ch}(I:av N st):av (N+3) (mK st).2:=by
 unfold _M.mK;split
 ·exact I.mono (by omega)
 rename_i n h;obtain⟨pre,e⟩:=mJ h;have ed:st.aJ.dropLast=pre:=by rw[e];exact V6
 rw[ed];exact((I.pop e kI (by trivial)).1.sV _).mono (by omega)
theorem av.stepT {N:Nat}{st:Ch}(I:av N st)(n:Nat):av (N+3) (stepT st n).2:=by
 unfold _M.stepT;split
 ·split
  ·exact I.mono (by omega)
  split
  ·exact I.mono (by omega)
  exact(I.oW (by assumption) (by assumption) _).mono (by omega)
 exact I.mono (by omega)
theorem av.mL {N:Nat}{st:Ch}(I:av N st){m:Mn}(hm:MOk N m)(row:Str):av (N+3) (mL st m row).2:=by
 unfold _M.mL;split
 ·exact I.mono (by omega)
 exact I.moved hm (by assumption) row
theorem zU:∀(L:Nat) (l:List Nat),l.Nodup->(∀n∈l,1<=n/\n<=L)->l.length<=L
 | 0,l,_,h=>by
  cases l with
  |nil=>exact mv 0
  |cons x r=>have:=h x eg;omega
 |L+1,l,nd,h=>by
  by_cases m:L+1∈l
  ·have ih:=zU L (l.erase (L+1)) (nd.erase _) (λn hn=>by
    obtain⟨h1,h2⟩:=nd.mem_erase_iff.mp hn;have:=h n h2;omega)
   rw[List.length_erase_of_mem m]at ih;omega
  have ih:=zU L l nd (λn hn=>by
   have:=h n hn;have:n≠L+1:=λz=>m (by rw[<-z];exact hn)
   omega)
  omega
theorem Fl:∀ {as:List (Nat×Int×List Nat)},(∀y∈as,∃r,y.2.2=y.1::r)->List.Sublist (as.map (·.1)) (as.flatMap (·.2.2))
 |[],_=>.slnil
 |y::as,h=>by
  obtain⟨r,hr⟩:=h y eg;rw[rf,List.flatMap_cons,hr,List.cons_append];exact .cons₂ _ ((Fl λz hz=>h z (ma _ hz)).trans (List.sublist_append_right _ _))
theorem av.QI {N:Nat}{st:Ch}(I:av N st):(st.aU.map (·.1)).Nodup:=by
 have nd:=I.nd;unfold Ch.all at nd;exact(Fl λy hy=>(I.asd y hy).2.1).nodup (List.nodup_append.mp (List.nodup_append.mp nd).2.1).1
theorem av.uM {N:Nat}{st:Ch}(I:av N st):st.aU.length<=st.made.length:=by
 have h:=zU st.made.length (st.aU.map (·.1)) I.QI (λn hn=>by
  obtain⟨x,hx,e⟩:=List.mem_map.mp hn;obtain⟨r,hr⟩:=(I.asd x hx).2.1;exact I.qm hx n (by rw[hr,e];exact eg))
 rw[bo]at h;exact h
def wX (A:ba)(i:Nat)(c:a6)(H:Hp)(o:Addr):Rs×Ch->VK->XK->Prop
 | (.num n,st),Q,_=>∀c' H',aq (cw i) c c' H H'->bM A i c' H' o st->Q (nV n) H'
 | (.txt z,st),Q,_=>∀c' H',aq (cw i) c c' H H'->bM A i c' H' o st->Q (.str z) H'
 | (.exc _,_),_,_=>False
theorem wX.e {A:ba}{i:Nat}{c:a6}{H:Hp}{o:Addr}{Q:VK}{E E':XK}:∀ {p:Rs×Ch},wX A i c H o p Q E->wX A i c H o p Q E'
 | (.num _,_),h=>h
 | (.txt _,_),h=>h
 | (.exc _,_),h=>h
noncomputable def IP:List Str:=[ar "seats",ar "sitting",ar "closed",ar "made",ar "pile",ar "aside",ar "decided",ar "first_texts",ar "edits_kept",ar "rows"]
theorem dB {m:Str}{v0 v1 v2 v3 v4 v5 v6 v7 v8 v9:V}(h:m∉IP):(chF v0 v1 v2 v3 v4 v5 v6 v7 v8 v9).lookup m=none:=by
 unfold IP at h;simp only[V3,VN,or_false,not_or]at h;obtain⟨h0,h1,h2,h3,h4,h5,h6,h7,h8,h9⟩:=h;unfold chF;simp only[VE,beq_eq_false_iff_ne.mpr h0,beq_eq_false_iff_ne.mpr h1,beq_eq_false_iff_ne.mpr h2,beq_eq_false_iff_ne.mpr h3,beq_eq_false_iff_ne.mpr h4,beq_eq_false_iff_ne.mpr h5,beq_eq_false_iff_ne.mpr h6,beq_eq_false_iff_ne.mpr h7,beq_eq_false_iff_ne.mpr h8,beq_eq_false_iff_ne.mpr h9]
def NT (A:ba)(i:Nat):Sp:=λvs H Q _=>∃(o mo:Addr) (c:a6) (st:Ch) (m:Mn) (N:Nat),vs=[.ref o,.ref mo]/\bM A i c H o st/\kF A c H m mo/\av N st/\N<=900/\wW (st.aJ.map st.mo) m/\MOk N m /\
 ∀c' H',aq (cw i) c c' H H'->bM A i c' H' o (st.carry m)->Q .non H'
def QJ (A:ba)(i:Nat):Sp:=λvs H Q E=>∃(o:Addr) (a b:Int) (c:a6) (st:Ch) (N:Nat),vs=[.ref o,.int a,.int b]/\bM A i c H o st/\av N st/\N<=800/\(0<=a/\a < 10 ^ 10)/\(0<=b/\b < 10 ^ 10)/\wX A i c H o (ly st a b) Q E
def QK (A:ba)(i:Nat):Sp:=λvs H Q E=>∃(o:Addr) (c:a6) (st:Ch) (N:Nat),vs=[.ref o]/\bM A i c H o st/\av N st/\N<=800/\wX A i c H o (mK st) Q E
def QL (A:ba)(i:Nat):Sp:=λvs H Q E=>∃(o:Addr) (z:Int) (c:a6) (st:Ch) (N:Nat),vs=[.ref o,.int z]/\bM A i c H o st/\av N st/\N<=800/\-1<=z/\z < 10 ^ 10/\wX A i c H o (stepT st z.toNat) Q E
theorem Ca:∀ {ks:List Nat} {vs:List V},d6 (bD (ks.zip vs)) (om (-1))=none
 |[],_=>rfl
 |_::_,[]=>rfl
 |k::ks,v::vs=>by
  rw[dA,bR (λz=>by have:=Sum.inl.inj z;omega)]
  exact Ca
theorem av.no0 {N:Nat}{st:Ch}(I:av N st):at1 0 st.aU=none:=by
 cases e:at1 0 st.aU with
 |none=>rfl
 |some x =>
  obtain⟨h1,h2⟩:=ic e;obtain⟨r,hr⟩:=(I.asd x h2).2.1;have:=(I.qm h2 x.1 (by rw[hr];exact eg)).1
  omega
theorem DB {i:Nat}{c:a6}{H:Hp}{t:Addr}{xs:List V}:vC i (aN c t none) (ag H t (.tup xs)) t xs:=⟨by rw[bj];exact a7,ae⟩
theorem Fm {A:ba}{c:a6}{H H':Hp}{f:Nat->Mn}(s:bh H H'):∀ {ns:List Nat} {os:List Addr},bN (λn m=>kF A c H (f n) m) ns os->bN (λm p=>kF A c H' m p) (ns.map f) os
 |_,_,.nil=>.nil
 |_,_,.cons h t=>.cons (h.same s) (Fm s t)
theorem zV {kd:Str}{ns:List Int}(h:(kd,ns.length)∈R.dM)(hn:∀i∈ns,0<=i/\i < 10 ^ 10):R.DOk (.nums kd ns):=⟨h,hn⟩
theorem DC (T:Txt w.params K mg A){i:Nat}:aC P w K mg base a5 5 A.gh A.fK ["self","motion"] (NT A i):=by
 have fN:∀k,k < 8->aC P w K mg base a5 1 (A.fk k) (A.fkd k) ["self"] (fv k):=jM T;refine T.qX.ok iZ (by left) λ_ _ _ _ H _ Q E hr h=>?_
 obtain⟨o,mo,c,st,m,N,rfl,hc,hmo,I,hN,uN,AS,q⟩:=h;obtain⟨dx,aM,aP,aA,aD,aF,aE,aR,ms,ds,ws,fs,es,X⟩:=hc.ex;refine⟨_,(ah (aV (i:=2) iZ.nd (jV (n:=8) (Cf:=A.C) (pv 1) T.cl T.nH fN hr.mono T.nI bU))
 (ao (bf (aI bz (pv 2) au (aL _))
 (ao (bw (dN (pv 0) T.aH T.my (vD (i:=i) T) hr T.mB .nil bU (aa (bH (pv 1) rfl) ai))))
 (ao (bf (aI bz (pv 2) au (aL _))
 (ao (bw (dN (pv 0) T.aH T.mC (vE (i:=i) T) hr T.mE .nil bU (aa (bH (pv 1) rfl) ai))))
 (ao (bf (aI bz (pv 2) au (aL _))
 (ao (bw (dN (pv 0) T.aH T.jB (uJ (i:=i) T) hr.mono T.jC .nil bU (aa (bH (pv 1) rfl) ai))))
 (ao (bf (aI bz (pv 2) au (aL _))
 (ao (eF (pv 0) og rfl))
 (ao (bf (aI bz (pv 2) au (aL _))
 (ao (bw (dN (pv 0) T.aH T.jB (uJ (i:=i) T) hr.mono T.jC .nil bU (aa (bH (pv 0) rfl) ai))))
 (ao (bf (aI bz (pv 2) au (aL _))
 (ao (eF (pv 0) (bb cT (bH (pv 0) rfl) aj) rfl))
 aK))))))))))))),?_⟩
 symm;refine aS λGa hGa=>?_
 obtain⟨hcn,dm,v,hm,hv⟩:=hmo;refine hGa ?_;refine⟨_,rfl,m.k,m.k8,mo,dm,_,rfl,hm,jL m.k v,mo,rfl,?_⟩;have lM:=I.lm;cases m with
 |mat tx=>exact⟨_,rfl,rfl,a4 (cA 0 (by decide)) ⟨_,rfl,rfl,a4 (cE 0 (by decide)) ⟨_,rfl,rfl,a4 (fR 0 (by decide)) ⟨_,rfl,rfl,a4 (ib 0 (by decide)) ⟨_,rfl,rfl,a4 (Du 0 (by decide)) ⟨_,rfl,rfl,a4 (kH 0 (by decide)) (q c H (aq.refl a7) hc)⟩⟩⟩⟩⟩⟩
 |pnt z=>exact⟨_,rfl,rfl,a4 (cA 7 (by decide)) ⟨_,rfl,rfl,a4 (cE 7 (by decide)) ⟨_,rfl,rfl,a4 (fR 7 (by decide)) ⟨_,rfl,rfl,a4 (ib 7 (by decide)) ⟨_,rfl,rfl,a4 (Du 7 (by decide)) ⟨_,rfl,rfl,a4 (kH 7 (by decide)) (q c H (aq.refl a7) hc)⟩⟩⟩⟩⟩⟩
 |chg e =>
  refine⟨_,rfl,rfl,cg (cA 1 (by decide)) ?_⟩
  refine aS λGb hGb=>?_
  obtain⟨tx,h1,hf⟩:=uN;obtain⟨k,e1,e2⟩:=NS h1;have hn:k∈st.aJ:=by rw[e1];exact eg
  have hno:=I.cF k hn;have htx:=I.vF hno;rw[e2]at htx;have Ul:tx.length<=13+N:=htx.1;obtain⟨x,hx,hxl⟩:=I.keptAt hno (by rw[e2];rfl)
  have e3:st.carry (.chg e)=st.LU k tx e:=by unfold Ch.carry;rw[e1];dsimp only;rw[e2]
  rw[e3]at q;have LZ:EdB (12+N) e:=AS;obtain⟨t,rfl,ht⟩:=hv;refine hGb ?_;refine mtv rfl X.ob (dB (by trivial)) ⟨_,rfl,mo,A.C 1,dm,_,.ref t,rfl,hm,T.cl 1 (by decide),T.na1,rfl,?_⟩
  exact⟨o,t,c,st,k,[],tx,e,x,rfl,hc,e1,hno,e2,by omega,by omega,ht,LZ.ok (by omega),hf,hx,by omega,by rw[I.kk];exact G4 st,q⟩
 |mnd f =>
  refine⟨_,rfl,rfl,a4 (cA 2 (by decide)) ⟨_,rfl,rfl,cg (cE 2 (by decide)) ?_⟩⟩
  refine aS λGc hGc=>?_
  obtain⟨tx,e,h1,hk,hf⟩:=uN;obtain⟨a,b,e1,e2,e3⟩:=QH h1;have hb:b∈st.aJ:=by rw[e1];exact ma _ eg
  have hno:=I.cF b hb;have he:=I.vF hno;rw[e3]at he;have he':EdB (12+N) e:=he;obtain⟨w1,w2⟩:=he'.words;have e4:st.carry (.mnd f)=st.LV b e (bZ (R.bL e.th) f):=by unfold Ch.carry;rw[e1];show (match st.mo b with | .chg e=>_ | _=>st)=_;rw[e3];rfl
  rw[e4]at q;obtain⟨hf1,w0,hw0,hw1⟩:=AS;have l1:=qP (R.bL e.th) f;have l2:=R.Fd (sW w1 (by rw[hw0];exact hw1):∀w∈bZ (R.bL e.th) f,R.jr w)
  obtain⟨t,rfl,ht⟩:=hv;refine hGc ?_;refine mtv rfl X.ob (dB (by trivial)) ⟨_,rfl,mo,A.C 2,dm,_,.ref t,rfl,hm,T.cl 2 (by decide),T.na2,rfl,?_⟩
  exact⟨o,t,c,st,b,[a],e,f,rfl,hc,e1,hno,e3,hk,he'.ok (by omega),by omega,by omega,ht,hf1.ok (by omega),hf,by omega,q⟩
 |off u =>
  refine⟨_,rfl,rfl,a4 (cA 3 (by decide)) ⟨_,rfl,rfl,a4 (cE 3 (by decide)) ⟨_,rfl,rfl,cg (fR 3 (by decide)) ?_⟩⟩⟩
  refine aS λGd hGd=>?_
  obtain⟨⟨tx,r,h1⟩,_⟩:=uN;obtain⟨k,r',e1,_⟩:=JQ h1;have e3:st.carry (.off u)=st.kO k u:=by unfold Ch.carry;rw[e1]
  rw[e3]at q;have hv':v=.int u:=hv;subst hv';have:=I.la;refine hGd ?_;refine mtv rfl X.ob (dB (by trivial)) ⟨_,rfl,mo,A.C 3,dm,_,.int u,rfl,hm,T.cl 3 (by decide),T.na3,rfl,?_⟩
  exact⟨o,u,c,st,k,r',rfl,hc,e1,I.Dz (by rw[e1];exact eg),by omega,q⟩
 |cls =>
  refine⟨_,rfl,rfl,a4 (cA 4 (by decide)) ⟨_,rfl,rfl,a4 (cE 4 (by decide)) ⟨_,rfl,rfl,a4 (fR 4 (by decide)) ⟨_,rfl,rfl,cg (ib 4 (by decide)) ?_⟩⟩⟩⟩
  refine⟨_,rfl,o,A.aX,dx,_,rfl,X.ob,T.aH,T.eu,(by show 10 < 1000;decide),?_⟩
  rw[zO];obtain⟨s1,X1⟩:=X.attr st.bc true;exact q c _ s1.gk X1.at
 |lay =>
  refine⟨_,rfl,rfl,a4 (cA 5 (by decide)) ⟨_,rfl,rfl,a4 (cE 5 (by decide)) ⟨_,rfl,rfl,a4 (fR 5 (by decide)) ⟨_,rfl,rfl,a4 (ib 5 (by decide)) ⟨_,rfl,rfl,cg (Du 5 (by decide)) ?_⟩⟩⟩⟩⟩
  refine aS λGe hGe=>?_
  obtain⟨⟨tx,r,h1⟩,_⟩:=uN;obtain⟨k,r',e1,_⟩:=JQ h1;have e3:st.carry .lay=st.kO k st.bc:=by unfold Ch.carry;rw[e1]
  rw[e3]at q;have:=I.la;refine hGe ?_;refine mtv rfl X.ob (dB (by trivial)) (eO rfl X.ob T.aH T.cP jc ?_)
  exact⟨o,st.bc,c,st,k,r',rfl,hc,e1,I.Dz (by rw[e1];exact eg),by omega,q⟩
 |rst =>
  refine⟨_,rfl,rfl,a4 (cA 6 (by decide)) ⟨_,rfl,rfl,a4 (cE 6 (by decide)) ⟨_,rfl,rfl,a4 (fR 6 (by decide)) ⟨_,rfl,rfl,a4 (ib 6 (by decide)) ⟨_,rfl,rfl,a4 (Du 6 (by decide)) ⟨_,rfl,rfl,cg (kH 6 (by decide)) ?_⟩⟩⟩⟩⟩⟩
  refine eO rfl X.ob T.aH T.cP jc ⟨_,_,rfl,rfl,_,rfl,o,A.aX,dx,_,rfl,X.ob,T.aH,T.cP,(by show 10 < 1000;decide),?_⟩
  rw[Ff];obtain⟨s1,X1⟩:=X.attr (st.bc+1) st.closed;exact q c _ s1.gk X1.at
theorem NU (T:Txt w.params K mg A){i:Nat}:aC P w K mg base a5 6 A.km A.jn ["self","ayes","noes"] (QJ A i):=by
 have QM:∀k,k < 8->aC P w K mg base a5 1 (A.fn k) (A.fnd k) ["self"] (Dh k):=NM T;refine T.zx.ok ji (by left) λ_ _ _ _ H _ Q E hr h=>?_
 obtain⟨o,a,b,c,st,N,rfl,hc,I,hN,ha,hb,q⟩:=h;obtain⟨dx,aM,aP,aA,aD,aF,aE,aR,ms,ds,ws,fs,es,X⟩:=hc.ex;have bt:=hr.u1;refine⟨_,(ah (bw (dI (pv 0) T.aH T.gb (kG (i:=i) T) hr.mono T.gf .nil bU))
 (ah (bf (aI A2 (bb cT (pv 1) (pv 2)) (bH (pv 0) rfl) (aL _))
 (ao ps_dead)
 aK)
 (ah (aV (i:=3) ji.nd (bx bt (bH (pv 0) rfl) (aO br (bH (pv 0) rfl) (kQ gO aj))))
 (ah (aV (i:=4) ji.nd (xM (lH (az (GV T) hr.mono T.BV (aa (jV (n:=8) (Cf:=A.C) (pv 3) T.cl T.Qn QM hr.mono T.Qp bU) (aa (pv 1) (aa (pv 2) ai))))) au au))
 (ah (bw (dN (pv 0) T.aH T.mw (B5 (i:=i) T) hr.mono T.mx .nil bU (aa (pv 4) ai)))
 (ah (bf (aI bz (pv 4) au (aL _))
 (ao (bw (dN (pv 0) T.aH T.qW (DC (i:=i) T) hr T.qY .nil bU (aa (pv 3) ai))))
 aK)
 (ah (bw (dN (pv 0) T.aH T.hJ (oY (i:=i) T) hr T.hU .nil bU (aa (bu (aa au (aa (pv 1) (aa (pv 2) ai)))) ai)))
 (ao (aG (pv 4)))))))))),?_⟩
 symm;have hne:st.aJ≠[]:=λhe=>by
  unfold ly at q;rw[he]at q;exact q
 refine mtv rfl X.ob (dB (by trivial)) ⟨o,c,st,rfl,hc,hne,?_⟩
 refine aS λGa hGa=>?_
 obtain⟨pre,n,e⟩:∃pre n,st.aJ=pre++[n]:=by
  rcases Vg st.aJ with e | ⟨pre,n,e⟩
  ·exact absurd e hne
  exact⟨pre,n,by rw[e,Vh]⟩
 have gl:st.aJ.getLast?=some n:=by rw[e];exact VF
 have ed:st.aJ.dropLast=pre:=by rw[e];exact V6
 unfold ly at q;rw[gl]at q;dsimp only at q;rw[ed]at q;refine hGa ?_;refine⟨_,rfl,_,rfl,_,_,rfl,rfl,eO rfl X.ob T.aH T.eS qN ⟨_,_,rfl,rfl,_,rfl,dg (λz=>?_) (λz=>?_)⟩⟩
 ·have z':a+b > st.cq:=eM z;rw[bp z']at q;exact q
 refine aS λGb hGb=>?_
 have z':¬a+b > st.cq:=λy=>z (bG y)
 rw[aZ z']at q;have hn:n∈st.aJ:=by rw[e];simp
 have hno:=I.cF n hn;obtain⟨mo,hv,hmo⟩:=X.NQ hno;have hcp:=hmo;obtain⟨_,dm,v,hm,_⟩:=hmo;have h0:atI (st.aJ.map nV) (-1)=some (nV n):=by rw[e,kt];exact fG _ _
 refine hGb ?_;refine⟨_,rfl,o,A.aX,dx,_,.ref aM,rfl,X.ob,T.aH,T.bX,fQ,_,rfl,o,A.aX,dx,_,.ref aP,rfl,X.ob,T.aH,T.bQ,fg,_,rfl,aP,_,_,_,rfl,rfl,ay.of X.aJ.2,h0,aM,_,rfl,.inl ⟨_,om (n:Int),.inl X.made.2,rfl,hv.symm⟩,?_⟩;refine⟨_,rfl,(st.mo n).k,(st.mo n).k8,mo,dm,_,rfl,hm,NF _ v,mo,rfl,_,rfl,_,rfl,nd (st.mo n).k,a,b,rfl,_,rfl,?_⟩;obtain⟨I1,uN⟩:=I.pop e (qo (lx (nd (st.mo n).k) a b)) (DA _);have AS:=(I.vF hno).mono (WB N);have lp:=I.pil.LW;rw[bo]at lp;have ld:=I.ld;have lr:=I.lr;have dk:R.DOk (.nums (ar "vote") [a,b]):=zV (by show (ar "vote",2)∈R.dM;trivial) (by
  intro i hi;rcases List.mem_cons.mp hi with h | hi
  ·rw[h];exact ha
  rw[UT]at hi;rw[hi];exact hb)
 cases hk:lx (nd (st.mo n).k) a b with
 |true =>
  rw[hk]at q I1;rw[bp rfl]at q;refine dR (mtv rfl X.ob (dB (by trivial)) ⟨_,rfl,o,zT,c,st,pre,n,rfl,hc,e,by omega,by omega,λc1 H1 s1 hc1=>?_⟩)
  refine aS λGc hGc=>?_
  obtain⟨dx1,aM1,aP1,aA1,aD1,aF1,aE1,aR1,ms1,ds1,ws1,fs1,es1,X1⟩:=hc1.ex;refine hGc ?_;refine⟨_,rfl,rfl,cg (by trivial) (mtv rfl X1.ob (dB (by trivial)) ⟨_,rfl,o,mo,c1,_,st.mo n,N+1,rfl,hc1,hcp.step s1,I1,by omega,uN,AS,λc2 H2 s2 hc2=>?_⟩)⟩
  refine aS λGd hGd=>?_
  obtain⟨dx2,aM2,aP2,aA2,aD2,aF2,aE2,aR2,ms2,ds2,ws2,fs2,es2,X2⟩:=hc2.ex;have I2:=I1.carry (by omega) uN AS
  refine hGd ?_;refine mtv rfl X2.ob (dB (by trivial)) ⟨_,rfl,_,rfl,(sl 3),λt ht=>?_⟩
  have s3:aq (cw i) c2 (aN c2 t none) H2 (ag H2 t (.tup [V.str (ar "vote"),.int a,.int b])):=aq.new a7 ht;have X3:=X2.free (W:=λ_=>False) (λ_=>id) (aq.new (x:=none) (o:=.tup [V.str (ar "vote"),.int a,.int b]) id ht)
  have lr2:=I2.lr;refine⟨o,t,_,_,.nums (ar "vote") [a,b],rfl,X3.at,DB,dk,Vc lr2 (by omega),λc4 H4 s4 hc4=>⟨_,rfl,?_⟩⟩
  exact q c4 H4 (((s1.trans s2).trans s3).trans s4) hc4
 |false =>
  rw[hk]at q I1;rw[aZ UW]at q;refine b8 (mtv rfl X.ob (dB (by trivial)) ⟨_,rfl,o,O2,c,st,pre,n,rfl,hc,e,by omega,by omega,λc1 H1 s1 hc1=>?_⟩)
  refine aS λGe hGe=>?_
  obtain⟨dx2,aM2,aP2,aA2,aD2,aF2,aE2,aR2,ms2,ds2,ws2,fs2,es2,X2⟩:=hc1.ex;refine hGe ?_;refine⟨_,rfl,rfl,a4 (by trivial) ?_⟩
  refine mtv rfl X2.ob (dB (by trivial)) ⟨_,rfl,_,rfl,(sl 3),λt ht=>?_⟩
  have s3:aq (cw i) c1 (aN c1 t none) H1 (ag H1 t (.tup [V.str (ar "vote"),.int a,.int b])):=aq.new a7 ht;have X3:=X2.free (W:=λ_=>False) (λ_=>id) (aq.new (x:=none) (o:=.tup [V.str (ar "vote"),.int a,.int b]) id ht)
  refine⟨o,t,_,_,.nums (ar "vote") [a,b],rfl,X3.at,DB,dk,by show st.rows.length<=1000;omega,λc4 H4 s4 hc4=>⟨_,rfl,?_⟩⟩
  exact q c4 H4 ((s1.trans s3).trans s4) hc4
theorem NV (T:Txt w.params K mg A){i:Nat}:aC P w K mg base a5 6 A.ko A.jo ["self"] (QK A i):=by
 refine T.zB.ok xg (by left) λ_ _ _ _ H _ Q E hr h=>?_
 obtain⟨o,c,st,N,rfl,hc,I,hN,q⟩:=h;obtain⟨dx,aM,aP,aA,aD,aF,aE,aR,ms,ds,ws,fs,es,X⟩:=hc.ex;refine⟨_,(ah (bw (dI (pv 0) T.aH T.gb (kG (i:=i) T) hr.mono T.gf .nil bU))
 (ah (bw (dN (pv 0) T.aH T.mw (B5 (i:=i) T) hr.mono T.mx .nil bU (aa au ai)))
 (ah (bw (dN (pv 0) T.aH T.hJ (oY (i:=i) T) hr T.hU .nil bU (aa (bu (aa au ai)) ai)))
 (ao (aG au))))),?_⟩
 symm;have hne:st.aJ≠[]:=λhe=>by
  unfold mK at q;rw[he]at q;exact q
 refine mtv rfl X.ob (dB (by trivial)) ⟨o,c,st,rfl,hc,hne,?_⟩
 refine aS λGa hGa=>?_
 obtain⟨pre,n,e⟩:∃pre n,st.aJ=pre++[n]:=by
  rcases Vg st.aJ with e | ⟨pre,n,e⟩
  ·exact absurd e hne
  exact⟨pre,n,by rw[e,Vh]⟩
 have gl:st.aJ.getLast?=some n:=by rw[e];exact VF
 have ed:st.aJ.dropLast=pre:=by rw[e];exact V6
 unfold mK at q;rw[gl]at q;dsimp only at q;rw[ed]at q;have lp:=I.pil.LW;rw[bo]at lp;have ld:=I.ld;have lr:=I.lr;refine hGa ?_;refine mtv rfl X.ob (dB (by trivial)) ⟨o,kI,c,st,pre,n,rfl,hc,e,by omega,by omega,λc1 H1 s1 hc1=>?_⟩
 refine aS λGb hGb=>?_
 obtain⟨dx2,aM2,aP2,aA2,aD2,aF2,aE2,aR2,ms2,ds2,ws2,fs2,es2,X2⟩:=hc1.ex;refine hGb ?_;refine mtv rfl X2.ob (dB (by trivial)) ⟨(sl 1),λt ht=>?_⟩
 have s3:aq (cw i) c1 (aN c1 t none) H1 (ag H1 t (.tup [V.str (ar "drop")])):=aq.new a7 ht;have X3:=X2.free (W:=λ_=>False) (λ_=>id) (aq.new (x:=none) (o:=.tup [V.str (ar "drop")]) id ht)
 refine⟨o,t,_,_,.nums (ar "drop") [],rfl,X3.at,DB,zV (by trivial) (λ_ h=>nomatch h),by show st.rows.length<=1000;omega,λc4 H4 s4 hc4=>?_⟩
 exact q c4 H4 ((s1.trans s3).trans s4) hc4
theorem NW (T:Txt w.params K mg A){i:Nat}:aC P w K mg base a5 6 A.kq A.jq ["self","number"] (QL A i):=by
 have jd:aC P w K mg base a5 4 A.mq A.gX ["deed"] (R.sQ K):=R.nS T;refine T.zE.ok oq (by left) λ_ _ _ _ H _ Q E hr h=>?_
 obtain⟨o,z,c,st,N,rfl,hc,I,hN,hz0,hz1,q⟩:=h;obtain⟨dx,aM,aP,aA,aD,aF,aE,aR,ms,ds,ws,fs,es,X⟩:=hc.ex;have bt:=hr.u1;have lim:fu=16777216:=by decide
 refine⟨_,(ah (bf (ph (bH (pv 0) rfl) (λ_=>rfl))
 (ao ps_dead)
 aK)
 (ah (bf (CC (qI bt (pv 1) (bH (pv 0) rfl)))
 (ao ps_dead)
 aK)
 (ah (aV (i:=2) oq.nd (aO aY (bx bt (bH (pv 0) rfl) (pv 1)) aj))
 (ah (bf (aI oh (bH (pv 0) rfl) (pv 2) (aL _))
 (ao ps_dead)
 aK)
 (ah (eF (pv 0) (aO Pt (Ep (bH (pv 0) rfl) (pv 1) ⟨rfl,rfl,rfl,rfl⟩) aj) rfl)
 (ah (bw (dE tu UZ U0 cz (bH (pv 0) rfl) (aa (az jd hr.mono T.lh (aa (bu (aa au (aa (pv 1) ai))) ai)) ai)))
 (ao (aG (pv 1))))))))),?_⟩
 symm;refine aS λGa hGa=>?_
 have hz2:0<=z:=by
  rcases Int.lt_or_le z 0 with h | h
  ·have hz:z=-1:=by omega
   subst hz;rw[show ((-1:Int).toNat)=0 from rfl]at q
   unfold stepT at q;rw[I.no0]at q;split at q <;> exact q.elim
  exact h
 obtain⟨n,rfl⟩:∃n:Nat,z=(n:Int):=⟨z.toNat,by omega⟩
 rw[VT]at q;have UO:n < 10 ^ 10:=by
  have:(10:Nat) ^ 10=10000000000:=by decide
  have:(10:Int) ^ 10=10000000000:=by decide
  omega
 clear hz0 hz1 hz2;refine hGa ?_;refine eO rfl X.ob T.aH T.bQ fg ⟨_,.inl ⟨_,.inl (.inl X.aJ.2),rfl⟩,?_⟩;unfold stepT at q;cases e:st.aJ with
 |cons k0 r0 =>
  rw[aZ (by rw[e];exact U5 _ _)]at q
  exact q.elim
 |nil =>
  rw[bp e]at q;refine b8 ?_;refine⟨_,rfl,eO rfl X.ob T.aH T.dn jY ⟨aA,_,rfl,.inl ⟨_,om (n:Int),.inl X.aU.2,rfl,rfl⟩,_,rfl,?_⟩⟩;cases hx:at1 n st.aU with
  |none =>
   rw[hx]at q;exact q.elim
  |some x =>
   refine aS λGb hGb=>?_
   rw[hx]at q;dsimp only at q;obtain⟨t,p,hv,ht,hl⟩:=X.waitOf hx;refine hGb ?_;rw[hv];refine b8 ?_;refine⟨_,rfl,o,A.aX,dx,_,.ref aA,rfl,X.ob,T.aH,T.dn,jY,_,rfl,aA,_,rfl,.inl ⟨_,om (n:Int),.inl X.aU.2,rfl,hv.symm⟩,t,_,_,_,rfl,rfl,ht.sq,rfl,?_⟩;refine⟨_,rfl,o,A.aX,dx,_,.int st.bc,rfl,X.ob,T.aH,T.cP,jc,_,rfl,_,_,rfl,rfl,_,rfl,dg (λz=>?_) (λz=>?_)⟩
   ·have z':st.bc < x.2.1:=eM z;rw[bp z']at q;exact q
   have z':¬st.bc < x.2.1:=λy=>z (bG y)
   rw[aZ z']at q;have nAt:t≠aA:=λy=>by have:=ht.1;rw[y,X.aU.1]at this;cases this
   have ht':aW K (ag H aA (.dK (gE (bD ((st.aU.map (·.1)).zip ws)) (om (n:Int))))) t [.int x.2.1,.ref p]:=by
    rcases ht.2 with h | ⟨u,h⟩
    ·exact .inl (.inl ((ax nAt).trans h))
    exact .inl (.inr ⟨u,(ax nAt).trans h⟩)
   have oA:o≠aA:=dP X.co X.aU.1 (λz=>nomatch z)
   refine eO rfl X.ob T.aH T.dn jY ⟨aA,rfl,.inl ⟨_,.inl X.aU.2⟩,_,rfl,_,om (n:Int),_,X.aU.2,rfl,hv,.inr (.inl ⟨t,_,1,.ref p,rfl,rfl,ht',rfl,?_⟩)⟩;refine⟨_,rfl,o,A.aX,dx,_,rfl,(ax oA).trans X.ob,T.aH,T.bQ,(by show 10 < 1000;decide),?_⟩
   rw[Fg];refine aS λGc hGc=>?_
   obtain⟨c1,ws1,s1,X1⟩:=X.oW hl;refine hGc ?_;generalize ag (ag H aA (.dK (gE (bD ((st.aU.map (·.1)).zip ws)) (om (n:Int))))) o (.ins A.aX dx (chF (.int st.cq) (.int st.bc) (.bl st.closed) (.ref aM) (.ref p) (.ref aA) (.ref aD) (.ref aF) (.ref aE) (.ref aR)))=H1 at s1 X1 ⊢
   have lr:=I.lr;have h10:(n:Int) < 10 ^ 10:=by
    have:(10:Nat) ^ 10=10000000000:=by decide
    have:(10:Int) ^ 10=10000000000:=by decide
    omega
   refine eO rfl X1.ob T.aH T.d8 qi ⟨.inl ⟨rfl,_,ay.of X1.rows.2⟩,_,rfl,(sl 2),λu hu=>?_⟩
   have s2:=aw (o:=.tup [V.str (ar "take"),nV n]) hu;refine⟨u,.nums (ar "take") [(n:Int)],rfl,aW.of ae,zV (by show (ar "take",1)∈R.dM;trivial) (by intro i hi;rw[UT]at hi;rw[hi];exact⟨by omega,h10⟩),λH2 s3=>?_⟩
   have X2:=X1.same (s2.trans s3);obtain⟨s4,X3⟩:=X2.row (R.cG (.nums (ar "take") [(n:Int)]));refine⟨aR,_,_,rfl,rfl,X2.rows.2,by rw[bo];show st.rows.length < _;omega,_,rfl,?_⟩
   exact q c1 _ ((s1.gk.trans (aq.same a7 (s2.trans s3))).trans s4.gk) X3.at
theorem Fn {α:Type}{P:wt}{w:World}{K:de}{mg:Str->Option Value}{base:Heap}{CX:CXT}{k:Nat}{f:Addr}{fd:gr}{ps:List Str}{sp:α->Sp}(F:∀a,aC P w K mg base CX k f fd ps (sp a)) :
  aC P w K mg base CX k f fd ps (λvs H Q E=>∃a,sp a vs H Q E) :=
 ⟨λvs H Q E ⟨a,z⟩=>(F a).1 vs H Q E z,λx1 x2 x3 H x4 x5 vs Q E x6 x7 x8 x9 ⟨a,z⟩=>(F a).2 x1 x2 x3 H x4 x5 vs Q E x6 x7 x8 x9 z⟩
def eE:R.bI->Mn
 | .mat cs=>.mat (cs.map (kx R.bl1))
 | .ed m k j ws=>if m=true then .mnd ⟨k,j,kx R.bl1 ws⟩ else .chg ⟨k,j,kx R.bl1 ws⟩
 | .pt ws=>.pnt (kx R.bl1 ws)
 | .nums kd ns=>if kd=ar "put off" then .off (ns.getD 0 0) else if kd=ar "close" then .cls else if kd=ar "lay" then .lay else .rst
noncomputable def lz:List (Str×Nat):=[(ar "put off",1),(ar "close",0),(ar "lay",0),(ar "rest",0)]
def zW:R.bI->Prop
 | .mat cs=>cs.length<=13/\∀ws∈cs,R.uD 12 ws
 | .ed m k j ws=>(k=0\/k=1\/k=2)/\(-9999999999<=j/\j<=9999999999)/\R.uD 12 ws/\(m=true->ws.length=1)
 | .pt ws=>R.uD 12 ws
 | .nums kd ns=>(kd,ns.length)∈lz/\∀i∈ns,-10000000000 < i/\i < 10 ^ 10
theorem nU {kd:Str}{ns:List Int}(h:(kd,ns.length)∈lz):(∃u,kd=ar "put off"/\ns=[u])\/(kd=ar "close"/\ns=[])\/(kd=ar "lay"/\ns=[])\/(kd=ar "rest"/\ns=[]):=by
 unfold lz at h;simp only[V3,VN,or_false,Wg]at h;rcases h with ⟨h1,h2⟩ | ⟨h1,h2⟩ | ⟨h1,h2⟩ | ⟨h1,h2⟩
 ·cases ns with
  |nil=>simp at h2
  |cons u r =>
   cases r with
   |nil=>exact .inl ⟨u,h1,rfl⟩
   |cons _ _=>simp at h2
 ·exact .inr (.inl ⟨h1,List.length_eq_zero_iff.mp h2⟩)
 ·exact .inr (.inr (.inl ⟨h1,List.length_eq_zero_iff.mp h2⟩))
 exact .inr (.inr (.inr ⟨h1,List.length_eq_zero_iff.mp h2⟩))
theorem Fo {n:Nat}{ws:List Str}(h:R.uD n ws):Vu (kx R.bl1 ws)=true:=(R.Clause.asc (n:=n) ⟨rfl,h.len,h.wd⟩).ok
theorem G5 {N:Nat}:∀ {d:R.bI},zW d->MOk N (eE d)
 | .mat cs,h=>by
  refine⟨?_,?_⟩
  ·rw[bo];have:=h.1;omega
  intro x hx;obtain⟨ws,hw,rfl⟩:=List.mem_map.mp hx;exact Fo (h.2 ws hw)
 | .ed m k j ws,h=>by
  obtain⟨h1,⟨h2,h3⟩,h4,h5⟩:=h;cases m with
  |true =>
   show EdB 1 ⟨k,j,kx R.bl1 ws⟩/\_;have hl:=h5 rfl
   match ws,hl,h4 with
   |[x],_,h4=>exact⟨⟨h1,h2,h3,[x],rfl,h4.wd,mv 1⟩,x,rfl,h4.wd x eg⟩
  |false =>
   show EdB (12+N) ⟨k,j,kx R.bl1 ws⟩;exact⟨h1,h2,h3,ws,rfl,h4.wd,by have:=h4.len;omega⟩
 | .pt ws,h=>Fo h
 | .nums kd ns,h=>by
  obtain⟨h1,h2⟩:=h;rcases nU h1 with ⟨u,rfl,rfl⟩ | ⟨rfl,rfl⟩ | ⟨rfl,rfl⟩ | ⟨rfl,rfl⟩
  ·rw[eE,bp rfl];obtain⟨a,b⟩:=h2 u eg;have:(10:Int) ^ 10=10000000000:=by decide
   exact⟨a,by show u < _;omega⟩
  ·rw[eE,aZ (by trivial),bp rfl];trivial
  ·rw[eE,aZ (by trivial),aZ (by trivial),bp rfl];trivial
  rw[eE,aZ (by trivial),aZ (by trivial),aZ (by trivial)];trivial
theorem O3 {M:Nat}{e:Ed}(h:gI M e=true):0<=e.at_:=(zG.mp h).1
theorem QN {N:Nat}{st:Ch}(I:av N st){d:R.bI}(h:zW d)(hc:ij st (eE d)=none):R.DOk d:=by
 have ho:q8 st.closed (st.aJ.map st.mo) (eE d).k=none/\kP st (eE d)=none:=by
  unfold ij at hc;split at hc
  ·cases hc
  exact⟨by assumption,hc⟩
 obtain⟨h0,hf⟩:=ho;cases d with
 |mat cs=>exact h
 |pt ws=>exact h
 |ed m k j ws =>
  obtain⟨h1,⟨h2,h3⟩,h4,h5⟩:=h;have e10:(10:Int) ^ 10=10000000000:=by decide
  refine⟨h1,⟨?_,by omega⟩,h4,h5⟩
  cases m with
  |true =>
   rw[eE,bp rfl]at h0 hf;have h3:fb (st.aJ.map st.mo)=true:=(uK h0).2;unfold fb at h3;split at h3
   ·rename_i e he;unfold kP at hf;dsimp only at hf;rw[he]at hf;dsimp only at hf;split at hf
    ·rename_i h6;exact O3 h6
    cases hf
   cases h3
  |false =>
   rw[eE,aZ UW]at h0 hf;obtain⟨tx,r,e1⟩:=I.pil.GZ (uK h0).2;unfold kP at hf;dsimp only at hf;rw[e1]at hf;dsimp only at hf;split at hf
   ·rename_i h6;exact O3 h6
   cases hf
 |nums kd ns =>
  obtain⟨h1,h2⟩:=h;have s1:=I.sit.1;rcases nU h1 with ⟨u,rfl,rfl⟩ | ⟨rfl,rfl⟩ | ⟨rfl,rfl⟩ | ⟨rfl,rfl⟩
  ·rw[eE,bp rfl]at hf;refine⟨by show (ar "put off",1)∈R.dM;trivial,λi hi=>?_⟩
   rw[UT]at hi;subst hi;unfold kP at hf;dsimp only at hf;split at hf
   ·cases hf
   rename_i h6;have h7:¬i<=st.bc:=h6;exact⟨by omega,(h2 i eg).2⟩
  ·exact⟨by trivial,λ_ h=>nomatch h⟩
  ·exact⟨by trivial,λ_ h=>nomatch h⟩
  exact⟨by trivial,λ_ h=>nomatch h⟩
theorem uO {i:Nat}{c:a6}{H:Hp}{t:Addr}:∀ {d:R.bI},zW d->oX i c H d t->∃v,vC i c H t (rowOf (eE d).k v)/\((eE d).k=0->∃L tx,v=.ref L/\eE d=.mat tx/\JP i c H L (tx.map V.str))/\((eE d).k≠0->(eE d).Val c H v)
 | .mat cs,_,⟨L,a,b⟩=>⟨.ref L,a,λ_=>⟨L,_,rfl,rfl,b⟩,λz=>absurd rfl z⟩
 | .ed true k j ws,h,⟨e,a,b⟩=>⟨.ref e,a,λz=>(nomatch z),λ_=>⟨e,rfl,by rw[<-Dx h.1];exact b⟩⟩
 | .ed false k j ws,h,⟨e,a,b⟩=>⟨.ref e,a,λz=>(nomatch z),λ_=>⟨e,rfl,by rw[<-Dx h.1];exact b⟩⟩
 | .pt ws,_,a=>⟨.str (kx R.bl1 ws),a,λz=>(nomatch z),λ_=>rfl⟩
 | .nums kd ns,h,a=>by
  rcases nU h.1 with ⟨u,rfl,rfl⟩ | ⟨rfl,rfl⟩ | ⟨rfl,rfl⟩ | ⟨rfl,rfl⟩
  ·rw[eE,bp rfl];exact⟨.int u,a,λz=>(nomatch z),λ_=>rfl⟩
  ·rw[eE,aZ (by trivial),bp rfl]
   exact⟨.non,a,λz=>(nomatch z),λ_=>trivial⟩
  ·rw[eE,aZ (by trivial),aZ (by trivial),bp rfl]
   exact⟨.non,a,λz=>(nomatch z),λ_=>trivial⟩
  rw[eE,aZ (by trivial),aZ (by trivial),aZ (by trivial)]
  exact⟨.non,a,λz=>(nomatch z),λ_=>trivial⟩
def L0 (A:ba)(K:de):Sp:=λvs H Q E=>IC A vs H Q E\/E8 A K vs H Q E
def Sy (A:ba)(i:Nat):Sp:=λvs H Q E=>∃(o t:Addr) (c:a6) (st:Ch) (N:Nat) (d:R.bI),vs=[.ref o,.ref t]/\bM A i c H o st/\av N st/\N<=800/\zW d/\oX i c H d t /\
 ij st (eE d)=none/\∀H',bh H H'->Q .non H'
def QO (A:ba)(i:Nat):Sp:=λvs H Q E=>∃(o t:Addr) (c:a6) (st:Ch) (N:Nat) (d:R.bI),vs=[.ref o,.ref t]/\bM A i c H o st/\av N st/\N<=800/\zW d/\oX i c H d t/\wX A i c H o (mL st (eE d) (R.cG d)) Q E
theorem MOk.ed1 {N:Nat}{e:Ed}(h:MOk N (.chg e))(hN:N<=800):q0 e:=EdB.ok h (by omega)
theorem MOk.ed2 {N:Nat}{e:Ed}(h:MOk N (.mnd e)):q0 e:=EdB.ok h.1 (by decide)
theorem nX (T:Txt w.params K mg A){i:Nat}:aC P w K mg base a5 6 A.dJ A.dj ["self","told"] (Sy A i):=by
 have kD:aC P w K mg base a5 1 A.pR A.i4 ["clause"] R.jX:=R.i9 T;refine T.i7.ok dh (by left) λ_ _ _ _ H _ Q E hr h=>?_
 obtain⟨o,t,c,st,N,d,rfl,hc,I,hN,hd,hdc,hcx,q⟩:=h;obtain⟨dx,aM,aP,aA,aD,aF,aE,aR,ms,ds,ws,fs,es,X⟩:=hc.ex;have bt:=hr.u1;refine⟨_,(ah (aV (i:=2) dh.nd (aO aY (pv 1) aj))
 (ah (aV (i:=3) dh.nd (dI (pv 0) T.aH T.uw (GX (i:=i) T) hr.mono T.uy .nil bU))
 (ah (bw (az (q9 T) hr T.kr (aa (pv 2) (aa (pv 3) (aa (bH (pv 0) rfl) ai)))))
 (ao (bf (aI bz (pv 2) au (aL _))
 (ao (bw (az (kA T) hr.mono T.iQ (aa (bH (aO br (pv 3) aj) rfl) (aa (aO aY (pv 1) aj) ai)))))
 (ao (bf (aI bz (pv 2) au (aL _))
 (ao (bw (az (kA T) hr.mono T.iQ (aa (az kD hr.mono T.iG (aa (aO aY (bH (aO br (pv 3) (kQ gO aj)) rfl) aj) ai)) (aa (aO aY (pv 1) aj) ai)))))
 (ao (bf (PW.pt (pw_and (aI bz (pv 2) au (aL _)) (pw_and1 (aI iU (aO aY (pv 1) aj) (bH (pv 0) rfl) (aL _)))))
 (ao ps_dead)
 aK))))))))),?_⟩
 symm;refine aS λGa hGa=>?_
 obtain⟨v,ht,hv0,hv1⟩:=uO hd hdc;have hmk:=G5 (N:=N) hd;refine hGa ?_;generalize eE d=m at ht hv0 hv1 hmk hcx;have ho:q8 st.closed (st.aJ.map st.mo) m.k=none:=by
  unfold ij at hcx;split at hcx
  ·cases hcx
  assumption
 have lp:=I.pil.LW;rw[bo]at lp;refine a8 rfl (aW.of ht.2) eD ?_;refine mtv rfl X.ob (dB (by trivial)) ⟨o,c,st,rfl,hc,I.cF,by omega,λB os hB hos=>?_⟩
 have sB:=aw (o:=.lst (os.map V.ref)) hB;have hp:uG A K c (ag H B (.lst (os.map V.ref))) B (st.aJ.map st.mo) os:=⟨ay.of ae,Fm sB hos⟩;generalize ag H B (.lst (os.map V.ref))=H1 at sB hp;refine⟨_,rfl,_,rfl,eO rfl (sB _ _ X.ob) T.aH T.eu zN ⟨m.k,B,st.closed,c,st.aJ.map st.mo,os,rfl,m.k8,hp,by rw[bo];omega,ho,λH2 s2=>?_⟩⟩
 have ec:ij st m=kP st m:=by unfold ij;rw[ho]
 rw[ec]at hcx;have s12:=sB.trans s2;have hp2:=hp.same s2;obtain⟨h1,h2⟩:=uK ho;have X2:=X.same s12;have ht2:H2 t=some (.tup (rowOf m.k v)):=s12 _ _ ht.2;cases m with
 |mat tx=>exact⟨_,rfl,rfl,a4 (cA 0 (by decide)) ⟨_,rfl,rfl,a4 (cE 0 (by decide)) ⟨_,rfl,rfl,a4 (fR 0 (by decide)) (b8 (q H2 s12))⟩⟩⟩
 |pnt z=>exact⟨_,rfl,rfl,a4 (cA 7 (by decide)) ⟨_,rfl,rfl,a4 (cE 7 (by decide)) ⟨_,rfl,rfl,a4 (fR 7 (by decide)) (b8 (q H2 s12))⟩⟩⟩
 |cls=>exact⟨_,rfl,rfl,a4 (cA 4 (by decide)) ⟨_,rfl,rfl,a4 (cE 4 (by decide)) ⟨_,rfl,rfl,a4 (fR 4 (by decide)) (b8 (q H2 s12))⟩⟩⟩
 |lay=>exact⟨_,rfl,rfl,a4 (cA 5 (by decide)) ⟨_,rfl,rfl,a4 (cE 5 (by decide)) ⟨_,rfl,rfl,a4 (fR 5 (by decide)) (b8 (q H2 s12))⟩⟩⟩
 |rst=>exact⟨_,rfl,rfl,a4 (cA 6 (by decide)) ⟨_,rfl,rfl,a4 (cE 6 (by decide)) ⟨_,rfl,rfl,a4 (fR 6 (by decide)) (b8 (q H2 s12))⟩⟩⟩
 |chg e =>
  refine⟨_,rfl,rfl,cg (cA 1 (by decide)) ?_⟩
  refine aS λGb hGb=>?_
  obtain⟨tx,r,e1⟩:=I.pil.GZ h2;obtain⟨te,rfl,hte⟩:=hv1 (by simp[Mn.k])
  rw[e1]at hp2;obtain⟨hB2,ho2⟩:=hp2;refine hGb ?_;cases ho2 with
  | @cons _ ob _ bs hm UG =>
   refine aS λGc hGc=>?_
   obtain⟨_,dm,v,hm2,L,rfl,hL⟩:=hm;refine hGc ?_;refine a8 rfl hB2 (cS (j:=0) rfl) ⟨ob,A.C 0,dm,_,.ref L,rfl,hm2,T.cl 0 (by decide),T.na0,rfl,a8 rfl (aW.of ht2) rfl ?_⟩
   refine⟨L,te,tx.map V.str,e,rfl,ay.of hL.2,bO s12 hte.sq,hmk.ed1 hN,?_,q _ s12⟩;unfold kP at hcx;dsimp only at hcx;rw[e1]at hcx;dsimp only at hcx;rw[bo];split at hcx
   ·assumption
   cases hcx
 |mnd f =>
  refine⟨_,rfl,rfl,a4 (cA 2 (by decide)) ⟨_,rfl,rfl,cg (cE 2 (by decide)) ?_⟩⟩
  refine aS λGd hGd=>?_
  have h3:fb (st.aJ.map st.mo)=true:=h2;unfold fb at h3;obtain⟨e,he,hk1⟩:∃e,(st.aJ.map st.mo).getLast?=some (.chg e)/\e.k≠1:=by
   split at h3
   ·rename_i e he;exact⟨e,he,λz=>by rw[z]at h3;cases h3⟩
   cases h3
  obtain⟨r,e1⟩:=mJ he;obtain⟨te,rfl,hte⟩:=hv1 (by simp[Mn.k])
  obtain⟨hB2,ho2⟩:=hp2;obtain⟨pre,ob,eo⟩:∃pre ob,os=pre++[ob]:=by
   have hl:=ho2.len;rw[e1,ki,UY]at hl;rcases Vg os with e | ⟨pre,n,e⟩
   ·rw[e]at hl;simp at hl
   exact⟨pre,n,by rw[e,Vh]⟩
  subst eo;obtain⟨as',a,e3,_,hm⟩:=ho2.last;rw[e1]at e3;obtain⟨_,e4⟩:=List.append_inj' e3 rfl;cases e4;obtain⟨_,dm,v,hm2,tc,rfl,htc⟩:=hm;have hem:EdB (12+N) e:=by
   have G6:Mn.chg e∈st.aJ.map st.mo:=by rw[e1];simp
   obtain⟨k,hk,ek⟩:=List.mem_map.mp G6;have:=I.vF (I.cF k hk);rw[ek]at this;exact this
  have heo:q0 e:=hem.ok (by omega)
  refine hGd ?_;refine⟨_,rfl,_,rfl,B,_,_,_,rfl,rfl,hB2,zR pre ob,ob,A.C 1,dm,_,.ref tc,rfl,hm2,T.cl 1 (by decide),T.na1,rfl,tc,_,_,_,rfl,rfl,htc.sq,sN hk1,e.th,rfl,?_,λp1 hp1=>?_⟩
  ·have:=heo.th.len;have lim:fu=16777216:=by decide
   omega
  have s3:=aw (o:=.lst ((R.bL e.th).map V.str)) hp1;have s13:=s12.trans s3;refine a8 rfl (aW.of (s3 _ _ ht2)) rfl ?_;refine⟨p1,te,(R.bL e.th).map V.str,f,rfl,ay.of ae,bO s13 hte.sq,hmk.ed2,?_,q _ s13⟩;unfold kP at hcx;dsimp only at hcx;rw[he]at hcx;dsimp only at hcx;rw[bo];split at hcx
  ·assumption
  cases hcx
 |off u =>
  have hv':v=.int u:=hv1 (by simp[Mn.k])
  subst hv';refine⟨_,rfl,rfl,a4 (cA 3 (by decide)) ⟨_,rfl,rfl,a4 (cE 3 (by decide)) ⟨_,rfl,rfl,cg (fR 3 (by decide)) ?_⟩⟩⟩
  refine a8 rfl (aW.of ht2) rfl (eO rfl X2.ob T.aH T.cP jc ⟨_,_,rfl,rfl,_,rfl,dg (λz=>?_) (λz=>?_)⟩)
  ·have z':u<=st.bc:=eM z;unfold kP at hcx;dsimp only at hcx;rw[bp z']at hcx;cases hcx
  have z':¬u<=st.bc:=λy=>z (bG y)
  exact q _ s12
theorem NX (T:Txt w.params K mg A):aC P w K mg base a5 3 A.qL A.jJ ["told"] (L0 A K):=R1 (Dn T) (AR T)
theorem L3 {i:Nat}{c:a6}{H:Hp}{t:Addr}{m:Mn}{v:V}{Q:VK}{E:XK}(ht:vC i c H t (rowOf m.k v))(hv0:m.k=0->∃L tx,v=.ref L/\m=.mat tx/\JP i c H L (tx.map V.str))(hv1:m.k≠0->m.Val c H v)
  (q:∀mo H',bh H H'->kF A (bP c H) H' m mo->Q (.ref mo) H'):L0 A K [.ref t] H Q E:=by
 by_cases h0:m.k=0
 ·obtain⟨L,tx,rfl,rfl,hL⟩:=hv0 h0;refine .inr ⟨t,L,tx.map V.str,rfl,ht.2,ay.of hL.2,λmo p H' s hm hp hp' hmo=>q mo H' s ?_⟩
  obtain⟨dx,hmo⟩:=hmo;exact⟨bS hm,dx,.ref p,hmo,p,rfl,bS hp,hp'⟩
 refine .inl ⟨t,m.k,v,by omega,m.k8,rfl,ht.2,λmo H' s hm hmo=>q mo H' s ?_⟩
 obtain⟨dx,hmo⟩:=hmo;exact⟨bS hm,dx,v,hmo,(hv1 h0).step (aq.cl (W:=λ_=>False) id s)⟩
theorem NY (T:Txt w.params K mg A){i:Nat}:aC P w K mg base a5 7 A.kj A.jm ["self","told"] (QO A i):=by
 have jd:aC P w K mg base a5 4 A.mq A.gX ["deed"] (R.sQ K):=R.nS T;refine T.zu.ok oo (by left) λ_ _ _ _ H _ Q E hr h=>?_
 obtain⟨o,t,c,st,N,d,rfl,hc,I,hN,hd,hdc,q⟩:=h;obtain⟨dx,aM,aP,aA,aD,aF,aE,aR,ms,ds,ws,fs,es,X⟩:=hc.ex;have bt:=hr.u1;have lim:fu=16777216:=by decide
 refine⟨_,(ah (bw (dN (pv 0) T.aH T.i6 (nX (i:=i) T) hr T.i8 .nil bU (aa (pv 1) ai)))
 (ah (aV (i:=2) oo.nd (bb cT (bA Bh (by rfl) T.dS cC (aa (bH (pv 0) rfl) ai)) aj))
 (ah (fX bt (bH (pv 0) rfl) (pv 2) (az (NX T) hr.mono T.pX (aa (pv 1) ai)) rfl)
 (ah (bw (dE tu UZ U0 cz (bH (pv 0) rfl) (aa (pv 2) ai)))
 (ah (bf (aI bz (aO aY (pv 1) aj) au (aL _))
 (ah (fX bt (bH (pv 0) rfl) (pv 2) (cc cW (by rfl) T.ku gQ (aa (aO aY (pv 1) aj) ai)) rfl)
 (ao (fX bt (bH (pv 0) rfl) (pv 2) (bK ai) rfl)))
 aK)
 (ah (bw (dE tu UZ U0 cz (bH (pv 0) rfl) (aa (az jd hr.mono T.lh (aa (pv 1) ai)) ai)))
 (ao (aG (pv 2))))))))),?_⟩
 symm;unfold mL at q;have L4:ij st (eE d)=none:=by
  cases e:ij st (eE d) with
  |none=>rfl
  |some x=>rw[e]at q;exact q.elim
 refine mtv rfl X.ob (dB (by trivial)) ⟨_,rfl,o,t,c,st,N,d,rfl,hc,I,hN,hd,hdc,L4,λH1 s1=>?_⟩
 refine aS λGa hGa=>?_
 rw[L4]at q;have Sz:=QN I hd L4;have X1:=X.same s1;have st1:aq (cw i) c c H H1:=aq.same a7 s1;have QP:=hdc.step st1;obtain⟨v,ht,hv0,hv1⟩:=uO hd QP;obtain⟨m,em⟩:∃m,m=eE d:=⟨_,rfl⟩;rw[<-em]at ht hv0 hv1 q;have lm:=I.lm;have lr:=I.lr;have ml:=X1.mot.len;have lp:=I.pil.LW;rw[bo]at lp;have el:(bD ((Vm 1 st.made.length).zip (ms.map V.ref))).length=st.made.length:=by
  unfold bD;rw[bo,V1,Vz,bo,<-ml,Nat.min_self]
 have en:(((bD ((Vm 1 st.made.length).zip (ms.map V.ref))).length:Nat):Int)+1=((st.made.length+1:Nat):Int):=by rw[el];omega
 refine hGa ?_;refine eO rfl X1.ob T.aH T.bX fQ ⟨aM,_,rfl,X1.made.2,_,_,rfl,rfl,?_⟩;dsimp only[cZ];rw[en];refine⟨_,rfl,L3 ht hv0 hv1 λmo H2 s2 hmo=>?_⟩
 have X2:=X1.cl s2;have st2:aq (cw i) c (bP c H1) H1 H2:=aq.cl a7 s2;refine eO rfl X2.ob T.aH T.bX fQ ⟨_,rfl,aM,_,rfl,o5.k (k:=om ((st.made.length+1:Nat):Int)) X2.made.2 (by omega),?_⟩
 obtain⟨st3,X3⟩:=X2.NO hmo;have QQ:=st2.trans st3.gk;generalize ag H2 aM (.dK (bB (bD ((Vm 1 st.made.length).zip (ms.map V.ref))) (om ((st.made.length+1:Nat):Int)) (.ref mo)))=H3 at QQ X3 ⊢;clear hmo st2 X2;generalize bP c H1=c3 at QQ X3;refine eO rfl X3.ob T.aH T.bQ fg ⟨.inl ⟨rfl,_,ay.of X3.aJ.2⟩,_,rfl,aP,_,_,rfl,rfl,X3.aJ.2,by rw[bo];show st.aJ.length < _;omega,?_⟩
 obtain⟨st4,X4⟩:=X3.push (st.made.length+1);have SA:=QQ.trans st4.gk;have X4':ChX A i c3 (ag H3 aP (.lst (st.aJ.map nV++[V.int ((st.made.length+1:Nat):Int)]))) o { st with made:=st.made++[m],aJ:=st.aJ++[st.made.length+1] } dx aM aP aA aD aF aE aR (ms++[mo]) ds ws fs es:=X4
 have Cb:aq (cw i) c c3 H1 (ag H3 aP (.lst (st.aJ.map nV++[V.int ((st.made.length+1:Nat):Int)]))):=SA;clear X4 SA st4;generalize ag H3 aP (.lst (st.aJ.map nV++[V.int ((st.made.length+1:Nat):Int)]))=H4 at X4' Cb ⊢;have nf:st.made.length+1∉st.uL:=λz=>by
  have:=(List.mem_filter.mp z).1;rw[V7]at this;omega
 have ht4:=ht.step Cb
 by_cases h0:m.k=0
 ·obtain⟨L,tx,rfl,rfl,hL⟩:=hv0 h0;have hL4:=hL.step Cb;refine a8 rfl (aW.of ht4.2) rfl ⟨rfl,cg (zS 0 (by decide)) ?_⟩
  refine a8 rfl (aW.of ht4.2) rfl ⟨L,_,rfl,.inl (ay.of hL4.2),λp hp=>?_⟩
  have lf:st.firsts.length=fs.length:=X4'.first.len;have lff:st.firsts.length<=st.made.length:=by
   have:=congrArg Wf I.ff;rw[bo]at this;rw[this];exact Vc (List.length_filter_le _ _) (by rw[Vz];exact mv _)
  have lkk:st.kept.length<=st.made.length:=by
   have:=congrArg Wf I.kk;rw[bo]at this;rw[this];exact Vc (List.length_filter_le _ _) (by rw[Vz];exact mv _)
  have sp:=aw (o:=.lst (tx.map V.str)) hp;refine eO rfl (sp _ _ X4'.ob) T.aH T.hV xo ⟨_,rfl,aF,_,rfl,o5.k (k:=om ((st.made.length+1:Nat):Int)) (sp _ _ X4'.firsts.2) ?_,?_⟩
  ·unfold bD;rw[bo,V1,bo];show min st.firsts.length _ < _;omega
  obtain⟨st5,X5⟩:=X4'.LS (tx:=tx) hp (n:=st.made.length+1) (by show _∉st.firsts.map (·.1);rw[I.ff];exact nf)
  have X5':ChX A i (aN c3 p (some (i,.dq (st.made.length+1)))) (ag (ag H4 p (.lst (tx.map V.str))) aF (.dK (bB (bD ((st.firsts.map (·.1)).zip fs)) (om ((st.made.length+1:Nat):Int)) (.ref p)))) o { st with made:=st.made++[.mat tx],aJ:=st.aJ++[st.made.length+1],firsts:=st.firsts++[(st.made.length+1,tx)] } dx aM aP aA aD aF aE aR (ms++[mo]) ds ws (fs++[.ref p]) es:=X5
  have QR:aq (cw i) c (aN c3 p (some (i,.dq (st.made.length+1)))) H1 (ag (ag H4 p (.lst (tx.map V.str))) aF (.dK (bB (bD ((st.firsts.map (·.1)).zip fs)) (om ((st.made.length+1:Nat):Int)) (.ref p)))):=Cb.trans st5.gk
  clear X5 st5;generalize aN c3 p (some (i,.dq (st.made.length+1)))=c5 at X5' QR;generalize ag (ag H4 p (.lst (tx.map V.str))) aF (.dK (bB (bD ((st.firsts.map (·.1)).zip fs)) (om ((st.made.length+1:Nat):Int)) (.ref p)))=H5 at X5' QR ⊢
  refine⟨(sl 0),λp2 hp2=>?_⟩
  have sp2:=aw (o:=.lst []) hp2;refine eO rfl (sp2 _ _ X5'.ob) T.aH T.fq qh ⟨_,rfl,aE,_,rfl,o5.k (k:=om ((st.made.length+1:Nat):Int)) (sp2 _ _ X5'.ja.2) ?_,?_⟩
  ·unfold bD;rw[bo,V1,bo];show min st.kept.length _ < _;omega
  obtain⟨st6,X6⟩:=X5'.NP hp2 (n:=st.made.length+1) (by show _∉st.kept.map (·.1);rw[I.kk];exact nf)
  have SD:=QR.trans st6.gk;have QS:=QP.step SD;refine eO rfl X6.ob T.aH T.d8 qi ⟨.inl ⟨rfl,_,ay.of X6.rows.2⟩,_,rfl,t,d,rfl,QS.at,Sz,λH7 s7=>?_⟩
  have X7:=X6.same s7;obtain⟨st8,X8⟩:=X7.row (R.cG d);refine⟨aR,_,_,rfl,rfl,X7.rows.2,by rw[bo];show st.rows.length < _;omega,_,rfl,?_⟩
  exact q _ _ (((st1.trans SD).trans (aq.same a7 s7)).trans st8.gk) X8.at
 refine a8 rfl (aW.of ht4.2) eD ⟨rfl,a4 ((zS m.k m.k8).trans (bV h0)) ?_⟩;have QS:=QP.step Cb;refine eO rfl X4'.ob T.aH T.d8 qi ⟨.inl ⟨rfl,_,ay.of X4'.rows.2⟩,_,rfl,t,d,rfl,QS.at,Sz,λH7 s7=>?_⟩
 have X7:=X4'.same s7;obtain⟨st8,X8⟩:=X7.row (R.cG d);refine⟨aR,_,_,rfl,rfl,X7.rows.2,by rw[bo];show st.rows.length < _;omega,_,rfl,?_⟩
 have e8:st.moved m (R.cG d)={ st with made:=st.made++[m],aJ:=st.aJ++[st.made.length+1],rows:=st.rows++[R.cG d] }:=by
  unfold Ch.moved;cases m with
  |mat tx=>exact absurd rfl h0
  |_=>rfl
 rw[e8]at q;exact q _ _ (((st1.trans Cb).trans (aq.same a7 s7)).trans st8.gk) X8.at
noncomputable def uP (n:Int):Ch:=⟨n,1,false,[],[],[],[],[],[],[]⟩
def SE (A:ba):Sp:=λvs H Q _=>∃(o dx:Addr) (n:Int),vs=[.ref o,.int n]/\H o=some (.ins A.aX dx []) /\
 ∀H',(∀(i:Nat) (c:a6),∃c',(∀a v,H a=some v->a≠o->H' a=some v/\c' a=c a)/\bM A i c' H' o (uP n))->Q .non H'
def lkB:List Str->Nat->Str->Bool
 |n::_,0,f=>f == n
 |n::ns,k+1,f=>!(f == n) && lkB ns k f
 |[],_,_=>false
theorem iT {v:V}{f:Str}:∀ {ns:List Str} {vs:List V} (k:Nat),lkB ns k f=true->vs.length=k->jh f v (ns.zip vs)=ns.zip (vs++[v])
 |[],_,0,h,_=>by cases h
 |[],_,_+1,h,_=>by cases h
 |n::ns,[],0,h,_=>by
  obtain rfl:f=n:=beq_iff_eq.mp h;cases ns <;> rfl
 |n::ns,x::vs,k+1,h,hl=>by
  rw[lkB,U3]at h;rw[List.zip_cons_cons,jh,aZ (λz=>by rw[z]at h;simp at h),iT k h.2 (by simpa using hl)]
  rfl
 |_::_,[],_+1,_,hl=>by cases hl
 |_::_,_::_,0,_,hl=>by cases hl
def chN:List Str:=[ar "seats",ar "sitting",ar "closed",ar "made",ar "pile",ar "aside",ar "decided",ar "first_texts",ar "edits_kept",ar "rows"]
structure NwI (C:Addr)(H0:Hp)(o dx:Addr)(vs:List V)(k:List (Addr×Rl×HO))(H:Hp):Prop where
 ob:H o=some (.ins C dx (chN.zip vs))
 new:∀(i:Nat) (c:a6),∃c':a6,(∀a v,H0 a=some v->a≠o->H a=some v/\c' a=c a)/\c' o=some (i,Rl.ob)/\∀x∈k,c' x.1=some (i,x.2.1)/\H x.1=some x.2.2/\x.1≠o
theorem NwI.at {C:Addr}{H0 H:Hp}{o dx a:Addr}{vs:List V}{k:List (Addr×Rl×HO)}{v:HO}(I:NwI C H0 o dx vs k H)(ha:H a=none):ag H a v o=some (.ins C dx (chN.zip vs)):=(ax (aQ I.ob ha)).trans I.ob
theorem nY {vs:List V}:(chN.zip vs).length < 1000:=by
 rw[V1];exact Nat.lt_of_le_of_lt (Nat.min_le_left _ _) (by decide)
theorem NwI.nx {C:Addr}{H0 H:Hp}{o dx a:Addr}{vs:List V}{k:List (Addr×Rl×HO)}(I:NwI C H0 o dx vs k H)(ha:H a=none)(r:Rl)(v:HO):NwI C H0 o dx (vs++[.ref a]) ((a,r,v)::k) (ag (ag H a v) o (.ins C dx (chN.zip (vs++[.ref a])))):=by
 have na:a≠o:=(aQ I.ob ha).symm;refine⟨ae,λi c=>?_⟩
 obtain⟨c',h1,h2,h3⟩:=I.new i c;refine⟨aN c' a (some (i,r)),λb u hb hbo=>?_,(a9 na.symm).trans h2,λx hx=>?_⟩
 ·obtain⟨g1,g2⟩:=h1 b u hb hbo;have nb:b≠a:=aQ g1 ha;exact⟨(ax hbo).trans ((ax nb).trans g1),(a9 nb).trans g2⟩
 rcases List.mem_cons.mp hx with rfl | hx
 ·exact⟨bj,(ax na).trans ae,na⟩
 obtain⟨g1,g2,g3⟩:=h3 x hx;have nb:x.1≠a:=aQ g2 ha;exact⟨(a9 nb).trans g1,(ax g3).trans ((ax nb).trans g2),g3⟩
theorem G7 (T:Txt w.params K mg A):aC P w K mg base a5 2 A.kh A.jk ["self","seats"] (SE A):=by
 refine T.zr.ok xf (by left) λ_ _ _ _ H _ Q E hr h=>?_
 obtain⟨o,dx,n,rfl,ho,q⟩:=h;refine⟨_,(ah (eF (pv 0) (pv 1) rfl)
 (ah (eF (pv 0) aj rfl)
 (ah (eF (pv 0) og rfl)
 (ah (eF (pv 0) j7 rfl)
 (ah (eF (pv 0) (bK ai) rfl)
 (ah (eF (pv 0) j7 rfl)
 (ah (eF (pv 0) (bK ai) rfl)
 (ah (eF (pv 0) j7 rfl)
 (ah (eF (pv 0) j7 rfl)
 (ao (eF (pv 0) (bK ai) rfl))))))))))),?_⟩
 symm;refine⟨_,rfl,_,rfl,o,A.aX,dx,_,rfl,ho,T.aH,T.eS,(by show 0 < 1000;decide),?_⟩
 rw[show jh (ar "seats") (V.int n) []=chN.zip [V.int n] from rfl]
 refine⟨_,rfl,o,A.aX,dx,_,rfl,ae,T.aH,T.cP,nY,?_⟩;rw[gM,iT 1 (by trivial) rfl]
 refine⟨_,rfl,o,A.aX,dx,_,rfl,ae,T.aH,T.eu,nY,?_⟩;rw[gM,iT 2 (by trivial) rfl]
 have I:NwI A.aX H o dx ([V.int n]++[V.int 1]++[V.bl false]) [] (ag H o (.ins A.aX dx (chN.zip ([V.int n]++[V.int 1]++[V.bl false])))) :=
  ⟨ae,λi c=>⟨aN c o (some (i,.ob)),λb u hb hbo=>⟨(ax hbo).trans hb,a9 hbo⟩,bj,λ_ h=>nomatch h⟩⟩
 generalize ag _ o _=H0 at I ⊢;refineλaM z=>⟨_,rfl,o,A.aX,dx,_,rfl,I.at z,T.aH,T.bX,nY,?_⟩
 rw[iT 3 (by trivial) rfl]
 replace I:=I.nx z .made (.dK [])
 clear z;generalize ag _ o _=H1 at I ⊢;refine⟨(sl 0),λaP z=>⟨_,rfl,o,A.aX,dx,_,rfl,I.at z,T.aH,T.bQ,nY,?_⟩⟩
 rw[iT 4 (by trivial) rfl]
 replace I:=I.nx z .aJ (.lst [])
 clear z;generalize ag _ o _=H2 at I ⊢;refineλaA z=>⟨_,rfl,o,A.aX,dx,_,rfl,I.at z,T.aH,T.dn,nY,?_⟩
 rw[iT 5 (by trivial) rfl]
 replace I:=I.nx z .aU (.dK [])
 clear z;generalize ag _ o _=H3 at I ⊢;refine⟨(sl 0),λaD z=>⟨_,rfl,o,A.aX,dx,_,rfl,I.at z,T.aH,T.gA,nY,?_⟩⟩
 rw[iT 6 (by trivial) rfl]
 replace I:=I.nx z .bW (.lst [])
 clear z;generalize ag _ o _=H4 at I ⊢;refineλaF z=>⟨_,rfl,o,A.aX,dx,_,rfl,I.at z,T.aH,T.hV,nY,?_⟩
 rw[iT 7 (by trivial) rfl]
 replace I:=I.nx z .firsts (.dK [])
 clear z;generalize ag _ o _=H5 at I ⊢;refineλaE z=>⟨_,rfl,o,A.aX,dx,_,rfl,I.at z,T.aH,T.fq,nY,?_⟩
 rw[iT 8 (by trivial) rfl]
 replace I:=I.nx z .kept (.dK [])
 clear z;generalize ag _ o _=H6 at I ⊢;refine⟨(sl 0),λaR z=>⟨_,rfl,o,A.aX,dx,_,rfl,I.at z,T.aH,T.d8,nY,?_⟩⟩
 rw[iT 9 (by trivial) rfl]
 replace I:=I.nx z .rows (.lst [])
 clear z;refine q _ λi c=>?_
 refine aS λGa hGa=>?_
 obtain⟨c',h1,h2,h3⟩:=I.new i c;refine hGa ?_;exact⟨c',h1,dx,aM,aP,aA,aD,aF,aE,aR,[],[],[],[],[],⟨h2,I.ob,⟨(h3 (aM,.made,.dK []) (by simp)).1,(h3 (aM,.made,.dK []) (by simp)).2.1⟩,.nil,⟨(h3 (aP,.aJ,.lst []) (by simp)).1,(h3 (aP,.aJ,.lst []) (by simp)).2.1⟩,⟨(h3 (aA,.aU,.dK []) (by simp)).1,(h3 (aA,.aU,.dK []) (by simp)).2.1⟩,.nil,⟨(h3 (aD,.bW,.lst []) (by simp)).1,(h3 (aD,.bW,.lst []) (by simp)).2.1⟩,.nil,⟨(h3 (aF,.firsts,.dK []) (by simp)).1,(h3 (aF,.firsts,.dK []) (by simp)).2.1⟩,.nil,⟨(h3 (aE,.kept,.dK []) (by simp)).1,(h3 (aE,.kept,.dK []) (by simp)).2.1⟩,.nil,⟨(h3 (aR,.rows,.lst []) (by simp)).1,(h3 (aR,.rows,.lst []) (by simp)).2.1⟩⟩⟩
def Um (A:ba)(i:Nat):Sp:=λvs H Q _=>∃(o:Addr) (n:Nat) (c:a6) (st:Ch) (x:Nat×Int×List Nat),vs=[.ref o,nV n]/\bM A i c H o st/\at1 n st.aU=some x /\
 ∀l u H',H l=none->H u=none->bh H H'->H' l=some (.lst (x.2.2.map nV))->H' u=some (.tup [nV n,.int x.2.1,.ref l])->Q (.ref u) H'
noncomputable def eV (ns:List Nat):PyData:=.list (ns.map λn:Nat=>.int (n:Int))
def asD (x:Nat×Int×List Nat):PyData:=.tuple [.int (x.1:Int),.int x.2.1,eV x.2.2]
noncomputable def dcD (x:Nat×Str):PyData:=.tuple [.int (x.1:Int),.str x.2]
def sX (st:Ch)(n:Int):Nat×Int×List Nat:=(at1 n.toNat st.aU).getD (0,0,[])
def stD (st:Ch)(ns:List Int):PyData:=.tuple [.int st.bc,.bool st.closed,eV st.aJ,.list (ns.map λn=>asD (sX st n)),.list (st.bW.map dcD)]
def mnD:Mn->PyData
 | .mat tx=>.tuple [.str (nm 0),.list (tx.map VI)]
 | .chg e=>.tuple [.str (nm 1),edD e]
 | .mnd e=>.tuple [.str (nm 2),edD e]
 | .off u=>.tuple [.str (nm 3),.int u]
 | .cls=>.tuple [.str (nm 4)]
 | .lay=>.tuple [.str (nm 5)]
 | .rst=>.tuple [.str (nm 6)]
 | .pnt z=>.tuple [.str (nm 7),.str z]
theorem IQ {α:Type}{K:de}{H:Hp}{f:α->PyData}{g:α->V}:∀ {xs:List α},(∀x∈xs,DV K H (f x) (g x))->bC K H (xs.map f) (xs.map g)
 |[],_=>by unfold bC;rfl
 |x::xs,h=>by
  rw[rf,rf];unfold bC;exact⟨g x,xs.map g,rfl,h x eg,IQ λy hy=>h y (ma _ hy)⟩
theorem gw {K:de}{H:Hp}{a:Addr}{ns:List Nat}(h:ay K H a (ns.map nV)):DV K H (eV ns) (.ref a):=by
 unfold eV DV;exact⟨a,_,rfl,h,IQ (f:=λn:Nat=>PyData.int (n:Int)) (g:=nV) λn _=>by unfold DV;rfl⟩
theorem bN.dvs {α:Type}{K:de}{H:Hp}{f:α->PyData}{R:α->V->Prop}(g:∀x v,R x v->DV K H (f x) v):∀ {xs:List α} {vs:List V},bN R xs vs->bC K H (xs.map f) vs
 |_,_,.nil=>by unfold bC;rfl
 |_,_,.cons h t=>by
  rw[rf];unfold bC;exact⟨_,_,rfl,g _ _ h,t.dvs g⟩
theorem bN.mapR {α β γ:Type}{R:α->γ->Prop}{f:β->γ}:∀ {xs:List α} {ys:List β},bN (λa b=>R a (f b)) xs ys->bN R xs (ys.map f)
 |_,_,.nil=>.nil
 |_,_,.cons h t=>.cons h t.mapR
def AU (H:Hp)(R:Addr)(x:Nat×Int×List Nat)(v:V):Prop:=∃u l,v=.ref u/\u≠R/\l≠R/\H u=some (.tup [nV x.1,.int x.2.1,.ref l])/\H l=some (.lst (x.2.2.map nV))
theorem AU.same {H H':Hp}{R:Addr}{x:Nat×Int×List Nat}{v:V}(s:bh H H'):AU H R x v->AU H' R x v
 |⟨u,l,e,h1,h2,h3,h4⟩=>⟨u,l,e,h1,h2,s _ _ h3,s _ _ h4⟩
theorem AU.ag {H:Hp}{R:Addr}{o:HO}{x:Nat×Int×List Nat}{v:V}:AU H R x v->AU (_L.ag H R o) R x v
 |⟨u,l,e,h1,h2,h3,h4⟩=>⟨u,l,e,h1,h2,(ax h1).trans h3,(ax h2).trans h4⟩
theorem AU.dv {K:de}{H:Hp}{R:Addr}{x:Nat×Int×List Nat}{v:V}:AU H R x v->DV K H (asD x) v
 |⟨u,l,e,h1,h2,h3,h4⟩=>by
  unfold asD DV;refine⟨u,_,e,aW.of h3,?_⟩;unfold bC;refine⟨_,_,rfl,by unfold DV;rfl,?_⟩
  unfold bC;refine⟨_,_,rfl,by unfold DV;rfl,?_⟩
  unfold bC;exact⟨_,_,rfl,gw (ay.of h4),by unfold bC;rfl⟩
theorem AV (T:Txt w.params K mg A){i:Nat}:aC P w K mg base a5 1 A.fJ A.fj ["self","number"] (Um A i):=by
 refine T.p9.ok ip (by left) λ_ _ _ _ H _ Q E hr h=>?_
 obtain⟨o,n,c,st,x,rfl,hc,hx,q⟩:=h;obtain⟨dx,aM,aP,aA,aD,aF,aE,aR,ms,ds,ws,fs,es,X⟩:=hc.ex;have bt:=hr.u1;refine⟨_,(ah (aV (i:=2) ip.nd (bx bt (bH (pv 0) rfl) (pv 1)))
 (ao (aG (bu (aa (pv 1) (aa (aO aY (pv 2) aj) (aa (cc cW (by rfl) T.ku gQ (aa (aO aY (pv 2) aj) ai)) ai))))))),?_⟩
 symm;refine aS λGa hGa=>?_
 obtain⟨t,p,hv,ht,hl⟩:=X.waitOf hx;refine hGa ?_;refine⟨_,rfl,o,A.aX,dx,_,.ref aA,rfl,X.ob,T.aH,T.dn,jY,_,rfl,aA,_,rfl,.inl ⟨_,om (n:Int),.inl X.aU.2,rfl,hv.symm⟩,?_⟩;refine⟨_,rfl,_,rfl,t,_,_,_,rfl,rfl,ht.sq,rfl,_,rfl,t,_,_,_,rfl,rfl,ht.sq,rfl,p,_,rfl,.inl (ay.of hl.2),λl hl0=>⟨(sl 3),λu hu=>?_⟩⟩
 have nul:u≠l:=λz=>by rw[z,ae]at hu;cases hu
 have hu0:H u=none:=by rw[ax nul]at hu;exact hu
 exact q l u _ hl0 hu0 ((aw hl0).new hu) ((ax (VG nul)).trans ae) ae
theorem QT {c:a6}{H:Hp}{v:V}{t:Addr}:∀ {m:Mn},1<=m.k->m.Val c H v->aW K H t (rowOf m.k v)->DV K H (mnD m) (.ref t)
 | .mat _,h,_,_=>absurd h (by simp[Mn.k])
 | .chg e,_,⟨te,ev,hte⟩,ht=>by
  subst ev;unfold mnD DV;refine⟨t,_,rfl,ht,?_⟩;unfold bC;refine⟨_,_,rfl,by unfold DV;rfl,?_⟩
  unfold bC;exact⟨_,_,rfl,LH e hte.sq,by unfold bC;rfl⟩
 | .mnd e,_,⟨te,ev,hte⟩,ht=>by
  subst ev;unfold mnD DV;refine⟨t,_,rfl,ht,?_⟩;unfold bC;refine⟨_,_,rfl,by unfold DV;rfl,?_⟩
  unfold bC;exact⟨_,_,rfl,LH e hte.sq,by unfold bC;rfl⟩
 | .off u,_,ev,ht=>by
  have ev':v=.int u:=ev;subst ev';unfold mnD DV;refine⟨t,_,rfl,ht,?_⟩;unfold bC;refine⟨_,_,rfl,by unfold DV;rfl,?_⟩
  unfold bC;exact⟨_,_,rfl,by unfold DV;rfl,by unfold bC;rfl⟩
 | .pnt z,_,ev,ht=>by
  have ev':v=.str z:=ev;subst ev';unfold mnD DV;refine⟨t,_,rfl,ht,?_⟩;unfold bC;refine⟨_,_,rfl,by unfold DV;rfl,?_⟩
  unfold bC;exact⟨_,_,rfl,by unfold DV;rfl,by unfold bC;rfl⟩
 | .cls,_,_,ht=>by
  unfold mnD DV;refine⟨t,_,rfl,ht,?_⟩;unfold bC;exact⟨_,_,rfl,by unfold DV;rfl,by unfold bC;rfl⟩
 | .lay,_,_,ht=>by
  unfold mnD DV;refine⟨t,_,rfl,ht,?_⟩;unfold bC;exact⟨_,_,rfl,by unfold DV;rfl,by unfold bC;rfl⟩
 | .rst,_,_,ht=>by
  unfold mnD DV;refine⟨t,_,rfl,ht,?_⟩;unfold bC;exact⟨_,_,rfl,by unfold DV;rfl,by unfold bC;rfl⟩
def cN (st:Ch):R.bI->Rs×Ch
 | .nums kd ns=>if kd=ar "vote" then ly st (ns.getD 0 0) (ns.getD 1 0) else if kd=ar "drop" then mK st else if kd=ar "take" then stepT st (ns.getD 0 0).toNat else mL st (eE (.nums kd ns)) (R.cG (.nums kd ns))
 |d=>mL st (eE d) (R.cG d)
inductive mN:R.bI->Prop
 |zX {a b:Int}:(0<=a/\a < 10 ^ 10)->(0<=b/\b < 10 ^ 10)->mN (.nums (ar "vote") [a,b])
 |drop:mN (.nums (ar "drop") [])
 |take {z:Int}:-1<=z->z < 10 ^ 10->mN (.nums (ar "take") [z])
 |move {d:R.bI}:zW d->mN d
theorem iK {st:Ch}{a b:Int}:cN st (.nums (ar "vote") [a,b])=ly st a b:=by rw[cN,bp rfl];rfl
theorem iL {st:Ch}:cN st (.nums (ar "drop") [])=mK st:=by rw[cN,aZ (by trivial),bp rfl]
theorem iM {st:Ch}{z:Int}:cN st (.nums (ar "take") [z])=stepT st z.toNat:=by
 rw[cN,aZ (by trivial),aZ (by trivial),bp rfl]
 rfl
theorem iN {st:Ch}{d:R.bI}(h:zW d):cN st d=mL st (eE d) (R.cG d):=by
 cases d with
 |nums kd ns =>
  rcases nU h.1 with ⟨u,rfl,rfl⟩ | ⟨rfl,rfl⟩ | ⟨rfl,rfl⟩ | ⟨rfl,rfl⟩ <;> rw[cN,aZ (by trivial),aZ (by trivial),aZ (by trivial)]
 |_=>rfl
theorem av.cN {N:Nat}{st:Ch}(I:av N st)(hN:N<=800){d:R.bI}(h:mN d):av (N+3) (cN st d).2:=by
 cases h with
 |zX=>rw[iK];exact I.ly hN _ _
 |drop=>rw[iL];exact I.mK
 |take=>rw[iM];exact I.stepT _
 |move h=>rw[iN h];exact I.mL (G5 h) _
theorem gn {W:Option (Nat×Rl)->Prop}{c c':a6}{H H':Hp}(s:aq W c c' H H'){a:Addr}{v:HO}(h:c a=none)(hv:H a=some v):c' a=none/\H' a=some v:=by
 have hn:¬W (c a):=by rw[h];exact s.nn
 exact⟨by rw[s.col a _ hv hn];exact h,s.keep _ _ hv hn⟩
def Uo (A:ba)(i:Nat):Sp:=λvs H Q E=>∃(o t:Addr) (c:a6) (st:Ch) (N:Nat) (d:R.bI),vs=[.ref o,.ref t]/\bM A i c H o st/\av N st/\N<=800/\mN d/\oX i c H d t/\wX A i c H o (cN st d) Q E
theorem L5:∀k,k < 8->decide (V.str (nm k)=V.str (ar "vote"))=false:=by trivial
theorem L6:∀k,k < 8->decide (V.str (nm k)=V.str (ar "drop"))=false:=by trivial
theorem G8:∀k,k < 8->decide (V.str (nm k)=V.str (ar "take"))=false:=by trivial
theorem G9 (T:Txt w.params K mg A){i:Nat}:aC P w K mg base a5 8 A.Ib A.yM ["chamber","deed"] (Uo A i):=by
 refine T.BW.F.ok yA (by left) λ_ _ _ _ H _ Q E hr h=>?_
 obtain⟨o,t,c,st,N,d,rfl,hc,I,hN,hd,hdc,q⟩:=h;obtain⟨dx,aM,aP,aA,aD,aF,aE,aR,ms,ds,ws,fs,es,X⟩:=hc.ex;refine⟨_,(ah (aV (i:=2) yA.nd (aO aY (pv 1) aj))
 (ah (bf (aI bz (pv 2) au (aL _))
 (ao (aG (dN (pv 0) T.aH T.zw (NU (i:=i) T) hr.mono T.zy .nil bU (aa (aO aY (pv 1) aj) (aa (aO aY (pv 1) aj) ai)))))
 aK)
 (ah (bf (aI bz (pv 2) au (aL _))
 (ao (aG (dI (pv 0) T.aH T.zA (NV (i:=i) T) hr.mono T.zC .nil bU)))
 aK)
 (ah (bf (aI bz (pv 2) au (aL _))
 (ao (aG (dN (pv 0) T.aH T.zD (NW (i:=i) T) hr.mono T.zF .nil bU (aa (aO aY (pv 1) aj) ai))))
 aK)
 (ao (aG (dN (pv 0) T.aH T.zt (NY (i:=i) T) hr T.zv .nil bU (aa (pv 1) ai)))))))),?_⟩
 symm;cases hd with
 | @zX a b ha hb =>
  rw[iK]at q;have ht:aW K H t [.str (ar "vote"),.int a,.int b]:=aW.of hdc.2;refine a8 rfl ht rfl ⟨_,rfl,rfl,cg (by trivial) ?_⟩
  exact mtv rfl X.ob (dB (by trivial)) (a8 rfl ht rfl (a8 rfl ht rfl ⟨o,a,b,c,st,N,rfl,hc,I,hN,ha,hb,q.e⟩))
 |drop =>
  rw[iL]at q;have ht:aW K H t [.str (ar "drop")]:=aW.of hdc.2;refine a8 rfl ht rfl ⟨_,rfl,rfl,a4 (by trivial) ⟨_,rfl,rfl,cg (by trivial) ?_⟩⟩
  exact mtv rfl X.ob (dB (by trivial)) ⟨o,c,st,N,rfl,hc,I,hN,q.e⟩
 | @take z h0 h1 =>
  rw[iM]at q;have ht:aW K H t [.str (ar "take"),.int z]:=aW.of hdc.2;refine a8 rfl ht rfl ⟨_,rfl,rfl,a4 (by trivial) ⟨_,rfl,rfl,a4 (by trivial) ⟨_,rfl,rfl,cg (by trivial) ?_⟩⟩⟩
  exact mtv rfl X.ob (dB (by trivial)) (a8 rfl ht rfl ⟨o,z,c,st,N,rfl,hc,I,hN,h0,h1,q.e⟩)
 |move hm =>
  refine aS λGa hGa=>?_
  rw[iN hm]at q;obtain⟨v,ht,_,_⟩:=uO hm hdc;have k8:=(eE d).k8;refine hGa ?_;refine a8 rfl (aW.of ht.2) eD ⟨_,rfl,rfl,a4 (L5 _ k8) ⟨_,rfl,rfl,a4 (L6 _ k8) ⟨_,rfl,rfl,a4 (G8 _ k8) ?_⟩⟩⟩;exact mtv rfl X.ob (dB (by trivial)) ⟨_,rfl,o,t,c,st,N,d,rfl,hc,I,hN,hm,hdc,q.e⟩
theorem bM.free {A:ba}{i:Nat}{W:Option (Nat×Rl)->Prop}{c c':a6}{H H':Hp}{o:Addr}{st:Ch}(h:∀r,¬W (some (i,r)))(s:aq W c c' H H')(hc:bM A i c H o st):bM A i c' H' o st:=by
 obtain⟨dx,aM,aP,aA,aD,aF,aE,aR,ms,ds,ws,fs,es,X⟩:=hc.ex;exact(X.free h s).at
noncomputable def mdF (v0 v1 v2 v3 v4 v5:V):List (Key×V):=[(UU (ar "sitting"),v0),(UU (ar "closed"),v1),(UU (ar "pile"),v2),(UU (ar "aside"),v3),(UU (ar "decided"),v4),(UU (ar "motions"),v5)]
theorem key_ne {a b:Str}(h:a≠b){v:V}:¬((UU a,v):Key×V).1=(UU b:Key):=λz=>h (Sum.inr.inj z)
theorem zY {kvs:List (Key×V)}{k:Key}{v y:V}(h:d6 kvs k=some v):bB kvs k y=kvs.map (λkv=>if kv.1=k then (kv.1,y) else kv):=by
 unfold bB;rw[j6,h];exact bp rfl
section
variable{v0 v1 v2 v3 v4 v5 y:V}
theorem lA:d6 (mdF v0 v1 v2 v3 v4 v5) (UU (ar "sitting"))=some v0:=cJ rfl
theorem zZ:d6 (mdF v0 v1 v2 v3 v4 v5) (UU (ar "closed"))=some v1:=(bR (key_ne (by trivial))).trans (cJ rfl)
theorem qp:d6 (mdF v0 v1 v2 v3 v4 v5) (UU (ar "pile"))=some v2:=(bR (key_ne (by trivial))).trans ((bR (key_ne (by trivial))).trans (cJ rfl))
theorem vG:d6 (mdF v0 v1 v2 v3 v4 v5) (UU (ar "aside"))=some v3:=(bR (key_ne (by trivial))).trans ((bR (key_ne (by trivial))).trans ((bR (key_ne (by trivial))).trans (cJ rfl)))
theorem wY:d6 (mdF v0 v1 v2 v3 v4 v5) (UU (ar "decided"))=some v4:=(bR (key_ne (by trivial))).trans ((bR (key_ne (by trivial))).trans ((bR (key_ne (by trivial))).trans ((bR (key_ne (by trivial))).trans (cJ rfl))))
theorem wZ:d6 (mdF v0 v1 v2 v3 v4 v5) (UU (ar "motions"))=some v5:=(bR (key_ne (by trivial))).trans ((bR (key_ne (by trivial))).trans ((bR (key_ne (by trivial))).trans ((bR (key_ne (by trivial))).trans ((bR (key_ne (by trivial))).trans (cJ rfl)))))
theorem Fp:bB (mdF v0 v1 v2 v3 v4 v5) (UU (ar "sitting")) y=mdF y v1 v2 v3 v4 v5:=by
 rw[zY lA];unfold mdF;simp only[rf,VH,aZ (show ¬(UU (ar "closed"):Key)=UU (ar "sitting") by trivial),aZ (show ¬(UU (ar "pile"):Key)=UU (ar "sitting") by trivial),aZ (show ¬(UU (ar "aside"):Key)=UU (ar "sitting") by trivial),aZ (show ¬(UU (ar "decided"):Key)=UU (ar "sitting") by trivial),aZ (show ¬(UU (ar "motions"):Key)=UU (ar "sitting") by trivial),if_true]
theorem z6:bB (mdF v0 v1 v2 v3 v4 v5) (UU (ar "closed")) y=mdF v0 y v2 v3 v4 v5:=by
 rw[zY zZ];unfold mdF;simp only[rf,VH,aZ (show ¬(UU (ar "sitting"):Key)=UU (ar "closed") by trivial),aZ (show ¬(UU (ar "pile"):Key)=UU (ar "closed") by trivial),aZ (show ¬(UU (ar "aside"):Key)=UU (ar "closed") by trivial),aZ (show ¬(UU (ar "decided"):Key)=UU (ar "closed") by trivial),aZ (show ¬(UU (ar "motions"):Key)=UU (ar "closed") by trivial),if_true]
theorem z7:bB (mdF v0 v1 v2 v3 v4 v5) (UU (ar "pile")) y=mdF v0 v1 y v3 v4 v5:=by
 rw[zY qp];unfold mdF;simp only[rf,VH,aZ (show ¬(UU (ar "sitting"):Key)=UU (ar "pile") by trivial),aZ (show ¬(UU (ar "closed"):Key)=UU (ar "pile") by trivial),aZ (show ¬(UU (ar "aside"):Key)=UU (ar "pile") by trivial),aZ (show ¬(UU (ar "decided"):Key)=UU (ar "pile") by trivial),aZ (show ¬(UU (ar "motions"):Key)=UU (ar "pile") by trivial),if_true]
end
def MnT (c:a6)(H:Hp)(m:Mn)(t:Addr):Prop:=c t=none/\∃v,H t=some (.tup (rowOf m.k v))/\m.Val c H v
theorem MnT.step {W:Option (Nat×Rl)->Prop}{c c':a6}{H H':Hp}{m:Mn}{t:Addr}(s:aq W c c' H H')(h:MnT c H m t):MnT c' H' m t:=by
 obtain⟨n,v,h,hv⟩:=h;have hn:¬W (c t):=by rw[n];exact s.nn
 exact⟨by rw[s.col t _ h hn];exact n,v,s.keep _ _ h hn,hv.step s⟩
def fA (st:Ch)(n:Nat):List Ed:=((at1 n st.kept).map (·.2)).getD []
def z9 (st:Ch)(n:Nat):Option (List Str):=(at1 n st.firsts).map (·.2)
abbrev Ent:=Nat×Mn×List Ed×Option (List Str)
def gg (st:Ch)(n:Nat):Ent:=(n,st.mo n,fA st n,z9 st n)
def gB (st:Ch):List Ent:=(Vm 1 st.made.length).map (gg st)
abbrev QU (i:Nat)(c:a6)(H:Hp)(x:Ent)(v:V):Prop:=∃(p t1 t2 k:Addr) (ts:List Addr),v=.ref p/\bT i c H (.dq x.1) p [.ref t1,.ref t2,.ref k]/\MnT c H x.2.1 t1/\(∀tx,x.2.2.2=some tx->MnT c H (.mat tx) t2)/\bT i c H (.fP x.1) k (ts.map V.ref)/\bN (λe t=>ck c H t (fF e)) x.2.2.1 ts
structure MdX (i:Nat)(c:a6)(H:Hp)(m:Addr)(st:Ch)(aP aA aD aM:Addr)(ds:List Addr)(ws es:List V):Prop where
 co:c m=some (i,.ob)
 ob:H m=some (.dK (mdF (.int st.bc) (.bl st.closed) (.ref aP) (.ref aA) (.ref aD) (.ref aM)))
 aJ:bT i c H .aJ aP (st.aJ.map nV)
 aU:d5 i c H .aU aA ((st.aU.map (·.1)).zip ws)
 wait:bN (IF i c H) st.aU ws
 dec:bT i c H .bW aD (ds.map V.ref)
 jN:bN (λ(x:Nat×Str) t=>ck c H t [nV x.1,.str x.2]) st.bW ds
 je:bT i c H .made aM es
 ent:bN (QU i c H) (gB st) es
structure cQ (i:Nat)(c:a6)(H:Hp)(m:Addr)(st:Ch):Prop where
 ex:∃(aP aA aD aM:Addr) (ds:List Addr) (ws es:List V),MdX i c H m st aP aA aD aM ds ws es
section
variable{i:Nat}{p:Rl->Bool}{c c':a6}{H H':Hp}{m aP aA aD aM:Addr}{st:Ch}{ds:List Addr}{ws es:List V}
theorem MdX.at (X:MdX i c H m st aP aA aD aM ds ws es):cQ i c H m st:=⟨_,_,_,_,_,_,_,X⟩
theorem Fq {xs:List Ent}{vs:List V}(h1:∀x∈xs,p (.dq x.1)=false)(h2:∀x∈xs,p (.fP x.1)=false)(s:aq (Wr i p) c c' H H')(z:bN (QU i c H) xs vs):bN (QU i c' H') xs vs :=
 z.imp_mem λx m v ⟨q,t1,t2,k,ts,e,z1,z2,z3,z4,z5⟩=>⟨q,t1,t2,k,ts,e,z1.kp (h1 x m) s,z2.step s,λtx ht=>(z3 tx ht).step s,z4.kp (h2 x m) s,z5.imp λ_ _ y=>y.step s⟩
theorem MdX.free {W:Option (Nat×Rl)->Prop}(h:∀r,¬W (some (i,r)))(s:aq W c c' H H')(X:MdX i c H m st aP aA aD aM ds ws es):MdX i c' H' m st aP aA aD aM ds ws es:=by
 have hn:¬W (c m):=by rw[X.co];exact h _
 refine⟨by rw[s.col m _ X.ob hn];exact X.co,s.keep _ _ X.ob hn,X.aJ.keep (h _) s,X.aU.keep (h _) s,X.wait.imp ?_,X.dec.keep (h _) s,ia s X.jN,X.je.keep (h _) s,X.ent.imp ?_⟩
 ·rintro x v ⟨t,p,e,z1,z2⟩;exact⟨t,p,e,z1.step s,z2.keep (h _) s⟩
 rintro x v ⟨q,t1,t2,k,ts,e,z1,z2,z3,z4,z5⟩;exact⟨q,t1,t2,k,ts,e,z1.keep (h _) s,z2.step s,λtx ht=>(z3 tx ht).step s,z4.keep (h _) s,z5.imp λ_ _ y=>y.step s⟩
theorem MdX.same (s:bh H H')(X:MdX i c H m st aP aA aD aM ds ws es):MdX i c H' m st aP aA aD aM ds ws es:=X.free (W:=λ_=>False) (λ_=>id) (aq.same id s)
theorem MdX.cl (s:bh H H')(X:MdX i c H m st aP aA aD aM ds ws es):MdX i (bP c H) H' m st aP aA aD aM ds ws es:=X.free (W:=λ_=>False) (λ_=>id) (aq.cl id s)
theorem cQ.free {W:Option (Nat×Rl)->Prop}(h:∀r,¬W (some (i,r)))(s:aq W c c' H H')(X:cQ i c H m st):cQ i c' H' m st:=by
 obtain⟨aP,aA,aD,aM,ds,ws,es,X⟩:=X.ex;exact(X.free h s).at
theorem MdX.attr (X:MdX i c H m st aP aA aD aM ds ws es)(n:Int)(b:Bool) :
  aq (Wr i pOb) c c H (ag H m (.dK (mdF (.int n) (.bl b) (.ref aP) (.ref aA) (.ref aD) (.ref aM))))/\MdX i c (ag H m (.dK (mdF (.int n) (.bl b) (.ref aP) (.ref aA) (.ref aD) (.ref aM)))) m { st with bc:=n,closed:=b } aP aA aD aM ds ws es:=by
 have s:aq (Wr i pOb) c c H (ag H m (.dK (mdF (.int n) (.bl b) (.ref aP) (.ref aA) (.ref aD) (.ref aM)))):=aq.ag Wr.nn (Wr.yes X.co rfl);exact⟨s,X.co,ae,X.aJ.kp rfl s,X.aU.kp rfl s,jb (λ_ _=>rfl) s X.wait,X.dec.kp rfl s,ia s X.jN,X.je.kp rfl s,Fq (λ_ _=>rfl) (λ_ _=>rfl) s X.ent⟩
noncomputable def SF:Rl->Bool | .aJ=>true | .bW=>true | _=>false
theorem MdX.pop (X:MdX i c H m st aP aA aD aM ds ws es){pre:List Nat}{n:Nat}{t:Addr}{wd:Str}(ht:(ag H aP (.lst (pre.map nV))) t=none) :
  aq (Wr i SF) c (aN c t none) H (ag (ag (ag H aP (.lst (pre.map nV))) t (.tup [nV n,.str wd])) aD (.lst (ds.map V.ref++[.ref t]))) /\
  MdX i (aN c t none) (ag (ag (ag H aP (.lst (pre.map nV))) t (.tup [nV n,.str wd])) aD (.lst (ds.map V.ref++[.ref t]))) m (st.popped pre n wd) aP aA aD aM (ds++[t]) ws es:=by
 have nt:∀ {a:Addr} {v:HO},H a=some v->a≠t:=by
  intro a v e z;subst z
  by_cases y:a=aP
  ·subst y;rw[ae]at ht;cases ht
  rw[ax y,e]at ht;cases ht
 have nPD:aD≠aP:=dP X.dec.1 X.aJ.1 (λz=>nomatch z)
 have s:aq (Wr i SF) c (aN c t none) H (ag (ag (ag H aP (.lst (pre.map nV))) t (.tup [nV n,.str wd])) aD (.lst (ds.map V.ref++[.ref t]))) :=
  ((aq.ag Wr.nn (Wr.yes X.aJ.1 rfl)).trans (aq.new Wr.nn ht)).trans (aq.ag Wr.nn ⟨.bW,by rw[a9 (nt X.dec.2)];exact X.dec.1,rfl⟩)
 have htt:ck (aN c t none) (ag (ag (ag H aP (.lst (pre.map nV))) t (.tup [nV n,.str wd])) aD (.lst (ds.map V.ref++[.ref t]))) t [nV n,.str wd]:=⟨bj,.inl ((ax (nt X.dec.2).symm).trans ae)⟩;have kp:bT i (aN c t none) (ag (ag (ag H aP (.lst (pre.map nV))) t (.tup [nV n,.str wd])) aD (.lst (ds.map V.ref++[.ref t]))) .aJ aP (pre.map nV) :=
  ⟨by rw[a9 (nt X.aJ.2)];exact X.aJ.1,by rw[ax nPD.symm,ax (nt X.aJ.2),ae]⟩
 have kd:bT i (aN c t none) (ag (ag (ag H aP (.lst (pre.map nV))) t (.tup [nV n,.str wd])) aD (.lst (ds.map V.ref++[.ref t]))) .bW aD ((ds++[t]).map V.ref) :=
  ⟨by rw[a9 (nt X.dec.2)];exact X.dec.1,by rw[ae,kt];rfl⟩
 have k:=kE rfl s X.co X.ob;exact⟨s,k.1,k.2,kp,X.aU.kp rfl s,jb (λ_ _=>rfl) s X.wait,kd,(ia s X.jN).snoc htt,X.je.kp rfl s,Fq (λ_ _=>rfl) (λ_ _=>rfl) s X.ent⟩
theorem MdX.gs (X:MdX i c H m st aP aA aD aM ds ws es):ya H m (V.str (ar "sitting")) (some (.int st.bc)):=.inl ⟨_,UU (ar "sitting"),.inl X.ob,rfl,lA.symm⟩
theorem MdX.gc (X:MdX i c H m st aP aA aD aM ds ws es):ya H m (V.str (ar "closed")) (some (.bl st.closed)):=.inl ⟨_,UU (ar "closed"),.inl X.ob,rfl,zZ.symm⟩
theorem MdX.gp (X:MdX i c H m st aP aA aD aM ds ws es):ya H m (V.str (ar "pile")) (some (.ref aP)):=.inl ⟨_,UU (ar "pile"),.inl X.ob,rfl,qp.symm⟩
theorem MdX.ga (X:MdX i c H m st aP aA aD aM ds ws es):ya H m (V.str (ar "aside")) (some (.ref aA)):=.inl ⟨_,UU (ar "aside"),.inl X.ob,rfl,vG.symm⟩
theorem MdX.gd (X:MdX i c H m st aP aA aD aM ds ws es):ya H m (V.str (ar "decided")) (some (.ref aD)):=.inl ⟨_,UU (ar "decided"),.inl X.ob,rfl,wY.symm⟩
theorem MdX.gm (X:MdX i c H m st aP aA aD aM ds ws es):ya H m (V.str (ar "motions")) (some (.ref aM)):=.inl ⟨_,UU (ar "motions"),.inl X.ob,rfl,wZ.symm⟩
end
theorem Hc (xs:List V)(k:Nat):dQ xs none (some (k:Int))=xs.take k:=by
 unfold dQ;rw[HT.mX,HT.xQ,List.drop_zero,Nat.sub_zero,<-List.take_eq_take_min]
theorem NZ {xs:List V}{lo hi:Option Int}{x:V}(h:x∈dQ xs lo hi):x∈xs:=by
 unfold dQ at h;exact List.mem_of_mem_drop (Wt h)
noncomputable abbrev sY:Str:=ar "abcdefghijklmnopqrstuvwxyzAZ09-#./"
theorem L7:sY.length=34:=by trivial
theorem Cc:sY.cps.toList.length=34:=by trivial
theorem Cd:∀c∈sY.cps.toList,R.Sign c:=by trivial
theorem N0:∀c∈sY.cps.toList.take 33,c≠47:=by trivial
theorem Up {i:Int}(h0:0<=i)(h1:i < 34):∃c,atI sY.cps.toList i=some c/\R.Sign c:=by
 obtain⟨c,hc,hm⟩:=OS (xs:=sY.cps.toList) (i:=i) (n:=34) Cc h0 (by omega)
 exact⟨c,hc,Cd c hm⟩
theorem Uq {i:Int}(h0:0<=i)(h1:i < 33):∃c,atI sY.cps.toList i=some c/\R.Sign c/\c≠47:=by
 obtain⟨n,rfl⟩:∃n:Nat,i=(n:Int):=⟨i.toNat,by omega⟩
 have hn:n < 33:=by omega
 have hl:=Cc;have e:sY.cps.toList[n]?=some sY.cps.toList[n]:=wa (by omega)
 refine⟨_,cS e,Cd _ (Wh _),N0 _ ?_⟩;have e2:(sY.cps.toList.take 33)[n]?=some sY.cps.toList[n]:=by rw[List.getElem?_take,bp hn];exact e
 exact U2 e2
structure Wd (n:Nat)(x:Str):Prop where
 len:x.length<=n
 hd:∃d r,x.cps.toList=d::r/\d≠47
 sgn:∀c∈x.cps.toList,R.Sign c
theorem QV {c:Nat}(h:R.Sign c)(n:c≠47):Wd 1 ⟨#[c]⟩:=⟨mv 1,⟨c,[],rfl,n⟩,λd hd=>by
 have:d=c:=by simpa using hd
 rw[this];exact h⟩
theorem QW {x:Str}{n c:Nat}(w:Wd n x)(h:R.Sign c):Wd (n+1) (x++⟨#[c]⟩):=by
 obtain⟨d,r,e,hd⟩:=w.hd;refine⟨?_,⟨d,r++[c],?_,hd⟩,λy hy=>?_⟩
 ·have:=w.len;rw[len_app];show _+1<=_;omega
 ·rw[cO,e];rfl
 rw[cO,Wq]at hy;rcases hy with hy | hy
 ·exact w.sgn y hy
 have:y=c:=by simpa using hy
 rw[this];exact h
theorem Wd.word {n:Nat}{x:Str}(w:Wd n x)(h:n<=20):R.jr x:=by
 obtain⟨d,r,e,hd⟩:=w.hd;have hl:x.cps.toList.length=x.length:=by rw[Wx];rfl
 refine⟨?_,Vc w.len h,w.sgn,λz=>?_⟩
 ·rw[<-hl,e];simp
 rw[z]at e;have:(ar "/").cps.toList=[47]:=by trivial
 rw[this]at e;cases e;exact hd rfl
def L8:Sp:=λvs H Q _=>∃c:Int,vs=[.int c]/\∀x,R.jr x->Q (.str x) H
def Aa:Sp:=λvs H Q _=>∃c:Int,vs=[.int c]/\∀(ws:List Str) (H':Hp),R.uD 12 ws->bh H H'->Q (.str (kx R.bl1 ws)) H'
def L9 (K:de):Sp:=λvs H Q _=>∃(a:Addr) (ns:List Int) (k:Int),vs=[.ref a,.int k]/\ay K H a (ns.map V.int)/\0<=k/\∀z:Int,Q (.int z) H
def Ma:Sp:=λvs H Q _=>∃(c n:Int) (z:Str),vs=[.int c,.int n,.str z]/\0<=n/\n<=900/\∀(k:Nat) (j:Int) (t:Addr) (H':Hp),(k=0\/k=1\/k=2)->-1<=j->j<=1000->bh H H'->H t=none->H' t=some (.tup (R.edR k j z))->Q (.ref t) H'
def Mb:Sp:=λvs H Q _=>∃k:Nat,k < 8/\vs=[.str (nm k)]/\∀H',bh H H'->Q (.int (k:Int)) H'
noncomputable def Hd:List Str:=[ar "matter",ar "change",ar "mend",ar "put off",ar "close",ar "lay",ar "rest",ar "point"]
theorem Mc:∀k,k < 8->Hd[k]?=some (nm k)/\∀m,m < k->Hd[m]?≠some (nm k):=by trivial
theorem DD (T:Txt w.params K mg A):aC P w K mg base a5 1 A.vj A.ny ["_law_script","_law_k"] (L9 K):=by
 refine T.ll.F.ok C5 (by left) λ_ _ _ _ H _ Q E hr h=>?_
 obtain⟨a,ns,k,rfl,hS,h0,q⟩:=h;refine⟨_,(ah (bf (aI oh (pv 1) (bA bF (by rfl) T.dS cC (aa (pv 0) ai)) (aL _))
 (ao (aG (aO br (pv 0) (pv 1))))
 aK)
 (ao (aG aj))),?_⟩
 symm;refine⟨_,rfl,_,rfl,a,_,rfl,.inl hS,_,_,rfl,rfl,_,rfl,dg (λe=>?_) (λ_=>q 0)⟩
 refine aS λGa hGa=>?_
 have e':k < ((ns.map V.int).length:Int):=eM e;rw[bo]at e';obtain⟨c,hc,hm⟩:=OS (xs:=ns.map V.int) (i:=k) (n:=ns.length) (bo _) h0 e';obtain⟨z,_,rfl⟩:=List.mem_map.mp hm;refine hGa ?_;exact⟨_,rfl,_,rfl,a,_,_,_,rfl,rfl,hS,hc,q z⟩
theorem Ce (T:Txt w.params K mg A):aC P w K mg base a5 1 A.KY A.BI ["_law_cell"] L8:=by
 refine T.yZ.F.ok lZ (by left) λ_ _ _ _ H _ Q E hr h=>?_
 obtain⟨c,rfl,k⟩:=h;refine⟨_,(ah (aV (i:=1) lZ.nd au)
 (ah (aV (i:=2) lZ.nd (aO xS (pv 1) (bb bY (pv 0) aj)))
 (ah (gN Vx rfl (jT rfl T.qM (aa (bb bY (bb cy (pv 0) aj) aj) ai)) (b9 (i:=3) lZ.nd)
 (ao (aV (i:=2) lZ.nd (bb cV (pv 2) (aO xS (pv 1) (bb bY (bb cy (pv 0) (bb r6 aj (bb cT aj (bb r6 aj (pv 3))))) aj))))))
 (ao (aG (pv 2)))))),?_⟩
 symm;refine aS λGa hGa=>?_
 have s34:sY.length<=fu:=by rw[L7];decide
 obtain⟨d,hd,hd',Ur⟩:=Uq (i:=c % 33) (by omega) (by omega)
 refine hGa ?_;refine⟨_,rfl,_,rfl,_,_,rfl,rfl,(by show (0:Int) < 33;decide),sY,_,d,rfl,rfl,s34,hd,?_⟩
 refine⟨_,rfl,_,_,rfl,rfl,⟨by decide,by decide⟩,_,_,rfl,rfl,(by show (0:Int) < 3;decide),_,rfl,by omega,by omega,?_⟩
 refine qD (lo:=0) (n:=(c / 33 % 3).toNat) (λi σ H'=>H'=H/\∃x kv,σ=[some (.int c),some (.str sY),some (.str x),kv]/\Wd (1+i) x) ⟨rfl,_,_,rfl,QV hd' Ur⟩ ?_ ?_
 ·rintro i σ H' hi ⟨rfl,x,kv,rfl,wx⟩;refine aS λGb hGb=>?_
  obtain⟨d2,hd2,QX⟩:=Up (i:=c / (99 * (1+33 * (0+(i:Int)))) % 34) (by omega) (by omega)
  refine hGb ?_;refine⟨_,rfl,_,rfl,_,rfl,_,rfl,_,_,rfl,rfl,.inl ⟨by decide,by decide⟩,_,_,rfl,rfl,_,_,rfl,rfl,.inl ⟨by decide,by decide⟩,_,_,rfl,rfl,⟨by omega,by omega⟩,_,_,rfl,rfl,(by show (0:Int) < 34;decide),sY,_,d2,rfl,rfl,s34,hd2,_,_,rfl,rfl,?_,rfl,_,_,rfl,?_⟩
  ·have:=wx.len;rw[show (⟨#[d2]⟩:Str).length=1 from rfl]
   have:i < 3:=by omega
   exact Vc (by omega:x.length+1<=10) (by decide)
  exact QW wx QX
 rintro σ H' ⟨rfl,x,kv,rfl,wx⟩;exact⟨_,rfl,k x (wx.word (by omega))⟩
theorem Fs (T:Txt w.params K mg A):aC P w K mg base a5 2 A.yP A.pU ["_law_cell"] Aa:=by
 refine T.nF.F.ok fI (by left) λ_ _ _ _ H _ Q E hr h=>?_
 obtain⟨c,rfl,k⟩:=h;refine⟨_,(ah (aV (i:=1) fI.nd (bK ai))
 (ah (aV (i:=2) fI.nd (bb cT (bb bY (pv 0) aj) aj))
 (ah (aV (i:=3) fI.nd (bb bY (pv 0) aj))
 (ah (bf (aI bz (bb bY (bb cy (pv 0) aj) aj) aj (aL _))
 (ao (aV (i:=3) fI.nd (bb cT aj (bb bY (bb cy (pv 0) aj) aj))))
 aK)
 (ah (gN Vx rfl (jT rfl T.qM (aa (pv 3) ai)) (b9 (i:=4) fI.nd)
 (ah (aV (i:=2) fI.nd (bb bY (bb r6 (pv 2) aj) aj))
 (ao (bw (dE tu UZ U0 cz (pv 1) (aa (az (Ce T) hr T.yZ (aa (bb cy (pv 2) aj) ai)) ai))))))
 (ao (aG (dE Vj VU VW m7 au (aa (pv 1) ai))))))))),?_⟩
 symm;have sz:fu=16777216:=by decide
 refine⟨Vl _,λW hW=>?_⟩
 refine⟨_,rfl,_,_,rfl,rfl,(by show (0:Int) < 4294967311;decide),_,_,rfl,rfl,?_⟩
 refine⟨_,rfl,_,_,rfl,rfl,(by show (0:Int) < 4;decide),?_⟩
 dsimp only[cZ];refine dG (λσ' H'=>H'=ag H W (.lst [])/\∃y:Int,σ'=[some (.int c),some (.ref W),some (.int (c % 4294967311+1)),some (.int y),none]/\0<=y/\y<=12) ?r (λN' nN=>?f)
 case f =>
  refine⟨_,rfl,_,_,rfl,rfl,⟨by decide,by decide⟩,_,_,rfl,rfl,(by show (0:Int) < 8;decide),rfl,_,rfl,dg (λ_=>?_) (λ_=>?_)⟩
  ·refine⟨_,rfl,_,_,rfl,rfl,⟨by decide,by decide⟩,_,_,rfl,rfl,(by show (0:Int) < 9;decide),_,_,rfl,rfl,nN _ _ ⟨rfl,_,rfl,?_,?_⟩⟩
   ·omega
   omega
  exact nN _ _ ⟨rfl,_,rfl,by omega,by omega⟩
 case r =>
 rintro σ1 H1 ⟨rfl,y,rfl,y0,y1⟩;refine⟨_,rfl,_,rfl,by omega,by omega,?_⟩
 refine qD (lo:=0) (n:=y.toNat) (λi σ H2=>∃(ws:List Str) (m:Int) (kv:Option V),σ=[some (.int c),some (.ref W),some (.int m),some (.int y),kv]/\0<=m/\m<=4294967311/\H2 W=some (.lst (ws.map V.str))/\ws.length=i/\(∀w∈ws,R.jr w)/\bh H H2)
  ⟨[],_,_,rfl,by omega,by omega,ae,rfl,(λz hz=>nomatch hz),aw hW⟩ ?_ ?_
 ·rintro i σ H2 hi hp0;refine aS λGa hGa=>?_
  obtain⟨ws,m,kv,rfl,m0,m1,h2,hl,hg,s2⟩:=hp0;refine hGa ?_;refine⟨_,rfl,_,_,rfl,rfl,.inl ⟨by omega,by omega⟩,_,_,rfl,rfl,(by show (0:Int) < 4294967311;decide),?_⟩
  refine⟨_,rfl,.inl ⟨rfl,_,ay.of h2⟩,_,rfl,_,_,rfl,rfl,⟨by decide,by decide⟩,_,rfl,λx hx=>?_⟩
  refine⟨W,_,_,rfl,rfl,h2,(by rw[bo];omega),?_⟩
  refine⟨ws++[x],_,_,rfl,by omega,by omega,?_,?_,λz h=>?_,s2.own hW⟩
  ·rw[ae,kt];rfl
  ·rw[ki,hl];rfl
  rcases List.mem_append.mp h with h | h
  ·exact hg z h
  rw[List.mem_singleton.mp h];exact hx
 rintro σ H2 hp0;refine aS λGb hGb=>?_
 obtain⟨ws,m,kv,rfl,m0,m1,h2,hl,hg,s2⟩:=hp0;have hs:=R.Fd hg;refine hGb ?_;refine⟨rfl,_,rfl,R.bl1,W,ws,rfl,rfl,ay.of h2,(by rw[R.fw];show _+_ * 1<=_;omega),?_⟩
 exact k ws _ ⟨by omega,hg⟩ s2
theorem Cg (T:Txt w.params K mg A):aC P w K mg base a5 1 A.KZ A.BJ ["_law_cell","_law_size","_law_thing"] Ma:=by
 refine T.y6.F.ok Bo (by left) λ_ _ _ _ H _ Q E hr h=>?_
 obtain⟨c,n,z,rfl,n0,n1,q⟩:=h;refine⟨_,(ah (aV (i:=3) Bo.nd (bb jg (bb bY (bb cy (pv 0) aj) (bb cT (pv 1) aj)) aj))
 (ah (bf (aI bz (bb bY (pv 0) aj) aj (aL _))
 (ao (aG (bu (aa au (aa (pv 3) ai)))))
 aK)
 (ao (aG (bu (aa (aO br (bK (aa au (aa au (aa au ai)))) (bb bY (pv 0) aj)) (aa (pv 3) (aa (pv 2) ai)))))))),?_⟩
 symm;refine⟨_,rfl,_,_,rfl,rfl,⟨by decide,by decide⟩,_,rfl,_,_,rfl,rfl,_,_,rfl,rfl,(by show (0:Int) < n+3;omega),_,_,rfl,rfl,?_⟩
 have j0:0<=c / 3 % (n+3):=VR _ (by omega)
 have j1:c / 3 % (n+3) < n+3:=VA _ (by omega)
 dsimp only[cZ];obtain⟨j,ej⟩:∃j,c / 3 % (n+3) - 1=j:=⟨_,rfl⟩;rw[ej];refine⟨_,rfl,_,_,rfl,rfl,(by show (0:Int) < 3;decide),rfl,_,rfl,dg (λh=>?_) (λh=>?_)⟩
 ·refine⟨_,rfl,(sl 2),λt ht=>?_⟩
  exact q 1 j t _ (.inr (.inl rfl)) (by omega) (by omega) (aw ht) ht ae
 have h':¬c % 3=1:=λe=>h (bG (by show V.int (c % 3)=V.int 1;rw[e]))
 refine⟨(sl 3),λp hp=>?_⟩
 refine aS λGa hGa=>?_
 have s1:=aw (o:=.lst [V.str (ar "put"),.str (ar ""),.str (ar "turn")]) hp;obtain⟨k,hk3,hk1,hk⟩:∃k:Nat,(k=0\/k=1\/k=2)/\k≠1/\atI [V.str (ar "put"),.str (ar ""),.str (ar "turn")] (c % 3)=some (.str (R.kn k)):=by
  have h3:c % 3=0\/c % 3=2:=by omega
  rcases h3 with e | e
  ·exact⟨0,.inl rfl,by decide,by rw[e];rfl⟩
  exact⟨2,.inr (.inr rfl),by decide,by rw[e];rfl⟩
 refine hGa ?_;refine⟨_,rfl,_,_,rfl,rfl,(by show (0:Int) < 3;decide),p,_,_,_,rfl,rfl,ay.of ae,hk,_,rfl,_,rfl,(sl 3),λt ht=>?_⟩
 refine q k j t _ hk3 (by omega) (by omega) (s1.new ht) (same_none s1 ht) ?_
 rw[ae,R.edR,aZ hk1]
theorem nZ (T:Txt w.params K mg A):aC P w K mg base a5 1 A.C7 A.sH ["_law_clause_here"] R.jX:=by
 refine T.iH.F.ok GK (by left) λ_ _ _ _ H _ Q E hr h=>?_
 obtain⟨z,rfl,hz,k⟩:=h;refine⟨_,(ah (bf (aI bz (pv 0) au (aL _))
 (ao (aG (bK ai)))
 aK)
 (ao (aG (dE Vj Wc We pw (pv 0) (aa au ai))))),?_⟩
 symm;refine⟨_,rfl,rfl,_,rfl,dg (λe=>?_) (λe=>?_)⟩
 ·have e':z=R.em:=by injection eM e
  refine⟨Vl _,λp hp=>?_⟩
  have:=k p hp;rw[R.bL,bp e']at this;exact this
 have e':¬z=R.em:=λq=>e (bG (by rw[q]))
 refine⟨_,rfl,rfl,z,R.bl1,rfl,rfl,by rw[R.fw];rfl,hz,λp hp=>?_⟩
 have:=k p hp;rw[R.bL,aZ e']at this;exact this
theorem Ci (T:Txt w.params K mg A):aC P w K mg base a5 1 A.K2 A.BM ["_law_kind"] Mb:=by
 refine T.zb.F.ok JG (by left) λ_ _ _ _ H _ Q E hr h=>?_
 obtain⟨k,k8,rfl,q⟩:=h;refine⟨_,(ao (aG (dE tu PySem.F.slot_list_index PySem.F.type_list_index KJ (bK (aa au (aa au (aa au (aa au (aa au (aa au (aa au (aa au ai))))))))) (aa (pv 0) ai)))),?_⟩;symm;obtain⟨h1,h2⟩:=Mc k k8;refine⟨(sl 8),λp hp=>?_⟩
 refine⟨.inl ⟨rfl,_,ay.of ae⟩,_,rfl,p,Hd,nm k,k,rfl,rfl,ay.of ae,h1,h2,?_⟩;exact q _ (aw hp)
theorem Cj (T:Txt w.params K mg A):aC P w K mg base a5 1 A.K0 A.BK ["_law_things","_law_edit_here"] (LI K):=by
 refine T.y7.F.ok JF (by left) λ_ _ _ _ H _ Q E hr h=>?_
 obtain⟨a,t,xs,e,rfl,ha,ht,o,q⟩:=h;refine⟨_,(ah (bf (aI bz (aO aY (pv 1) aj) au (aL _))
 (ao (aG (gP iU iU aj (aO aY (pv 1) aj) (bA bF (by rfl) T.dS cC (aa (pv 0) ai)))))
 aK)
 (ao (aG (gP iU oh aj (aO aY (pv 1) aj) (bA bF (by rfl) T.dS cC (aa (pv 0) ai)))))),?_⟩
 symm;unfold gI at q;refine a8 rfl ht (lO e) ⟨rfl,_,rfl,dg (λz=>?_) (λz=>?_)⟩
 ·have hk:e.k=0:=(vw o).mp (eM z);rw[bp hk]at q;refine a8 rfl ht (sM e) ⟨_,_,rfl,rfl,_,rfl,dg (λz1=>?_) (λz1=>?_)⟩
  ·have h1:0<=e.at_:=eM z1;rw[bG h1,Bool.true_and]at q;refine⟨_,rfl,a,_,rfl,.inl ha,_,_,rfl,rfl,?_⟩;dsimp only;rw[show decide (e.at_<=(xs.length:Int))=decide (e.at_ < (xs.length:Int)+1) by simp only[decide_eq_decide];omega]
   exact q
  have h1:¬0<=e.at_:=λy=>z1 (bG y)
  rw[bV h1,Bool.false_and]at q;exact q
 have hk:¬e.k=0:=λy=>z (bG ((vw o).mpr y))
 rw[aZ hk,Int.add_zero]at q;refine a8 rfl ht (sM e) ⟨_,_,rfl,rfl,_,rfl,dg (λz1=>?_) (λz1=>?_)⟩
 ·have h1:0<=e.at_:=eM z1;rw[bG h1,Bool.true_and]at q;exact⟨_,rfl,a,_,rfl,.inl ha,_,_,rfl,rfl,q⟩
 have h1:¬0<=e.at_:=λy=>z1 (bG y)
 rw[bV h1,Bool.false_and]at q;exact q
def Md (K:de):Sp:=λvs H Q _=>∃(a t:Addr) (xs:List Str) (e:Ed),vs=[.ref a,.ref t]/\ay K H a (xs.map V.str)/\xs.length<=1000/\aW K H t (fF e)/\q0 e/\gI xs.length e=true /\
 ∀p H',bh H H'->H p=none->H' p=some (.lst ((bZ xs e).map V.str))->Q (.ref p) H'
def N1:Sp:=λvs H Q _=>vs=[]/\∀m H',(∀(i:Nat) (c:a6) (n:Int),∃c',aq (λ_=>False) c c' H H'/\cQ i c' H' m (uP n))->Q (.ref m) H'
def IS (i:Nat):Sp:=λvs H Q _=>∃(m:Addr) (n:Nat) (c:a6) (st:Ch),vs=[.ref m,nV n]/\cQ i c H m st/\dY st n/\∀t,MnT c H (st.mo n) t->Q (.ref t) H
def N3 (i:Nat):Sp:=λvs H Q _=>∃(m:Addr) (c:a6) (st:Ch),vs=[.ref m]/\cQ i c H m st/\(∀n∈st.aJ,dY st n)/\∀H',bh H H'->Q (.int (uF st.closed (st.aJ.map st.mo))) H'
theorem lD (ns:List Nat):Vy (eV ns) (.list [])=ns.isEmpty:=by
 cases ns with
 |nil=>simp[eV,Vy,V5]
 |cons n ns=>simp[eV,Vy,V5]
theorem Ab:∀ns:List Nat,Vi (ns.map λn:Nat=>PyData.int (n:Int))<=1
 |[]=>by simp only[VH,Vi];omega
 |n::ns=>by
  have:=Ab ns;simp only[rf,Vi,Vo];omega
theorem lE (ns:List Nat):VS (eV ns)=true:=by
 have h1:(eV ns).canLay0=true:=by
  unfold eV;simp only[Vb]
  induction ns with
  |nil=>simp only[VH,U4]
  |cons n ns ih=>simp only[rf,U4,Vb,ih,VC]
 have h2:(eV ns).depth<=64:=by
  have:=Ab ns;unfold eV;simp only[Vo];omega
 show ((eV ns).canLay0 && decide ((eV ns).depth<=64))=true;rw[h1,bG h2];rfl
theorem qr:VS (.list [])=true:=by rfl
theorem qt {K:de}{H:Hp}{p:Addr}(h:ay K H p []):DV K H (.list []) (.ref p):=by
 unfold DV;exact⟨p,[],rfl,h,by unfold bC;rfl⟩
theorem jP {st:Ch}{n:Nat}(hn:dY st n):(gB st)[n - 1]?=some (gg st n):=by
 unfold gB;rw[sr,Fi hn.1 hn.2];rfl
theorem MnT.kind {c:a6}{H:Hp}{m:Mn}{t:Addr}(h:MnT c H m t):∃v,H t=some (.tup (rowOf m.k v)):=⟨_,h.2.choose_spec.1⟩
theorem QY {v0 v1 v2 v3 v4 v5:V}:u9 [] (mdF v0 v1 v2 v3 v4 v5)=mdF v0 v1 v2 v3 v4 v5:=by kernel_rfl
theorem Ck (T:Txt w.params K mg A):aC P w K mg base a5 1 A.K1 A.BL ["_law_things","_law_edit_here"] (Md K):=by
 refine T.y9.F.ok Bp (by left) λ_ _ _ _ H _ Q E hr h=>?_
 obtain⟨a,t,xs,e,rfl,ha,hl,ht,o,hf,q⟩:=h;refine⟨_,(ah (aV (i:=2) Bp.nd (aO aY (pv 1) aj))
 (ah (bf (aI bz (aO aY (pv 1) aj) au (aL _))
 (ao (aG (bb eh (df eY (pv 0) ef (dU (pv 2))) (df eY (pv 0) (dU (bb cT (pv 2) aj)) ef))))
 aK)
 (ao (aG (bb eh (bb eh (df eY (pv 0) ef (dU (pv 2))) (bK (aa (aO aY (pv 1) aj) ai))) (df eY (pv 0) (dU (bb cT (pv 2) (cc A3 (by rfl) T.Lz GB (aa (b5 bz (aO aY (pv 1) aj) au (aL _)) ai)))) ef)))))),?_⟩
 symm;refine aS λGa hGa=>?_
 have sz:fu=16777216:=by decide
 obtain⟨f0,f1⟩:=zG.mp hf;obtain⟨n,hn⟩:∃n:Nat,e.at_=(n:Int):=⟨e.at_.toNat,by omega⟩
 refine hGa ?_;refine a8 rfl ht (sM e) ?_;rw[hn];rw[hn]at f1;have en:e.at_.toNat=n:=by rw[hn];rfl
 refine a8 rfl ht (lO e) ⟨rfl,_,rfl,dg (λz=>?_) (λz=>?_)⟩
 ·have hk:e.k=1:=(qb o).mp (eM z);refine⟨_,rfl,_,rfl,_,rfl,a,_,rfl,ha,λp1 hp1=>?_⟩
  have s1:=aw (o:=.lst (dQ (xs.map V.str) none (some (n:Int)))) hp1;refine⟨_,rfl,_,rfl,_,_,rfl,rfl,_,rfl,a,_,rfl,s1.seq ha,λp2 hp2=>?_⟩
  have n12:p1≠p2:=aQ ae hp2;have s2:=s1.new (o:=.lst (dQ (xs.map V.str) (some ((n:Int)+1)) none)) hp2;have e1:dQ (xs.map V.str) none (some (n:Int))=(xs.take n).map V.str:=by rw[Hc,List.map_take]
  have e2:dQ (xs.map V.str) (some ((n:Int)+1)) none=(xs.drop (n+1)).map V.str:=by rw[show (n:Int)+1=((n+1:Nat):Int) by omega,iW,List.map_drop]
  refine⟨p1,p2,_,_,rfl,rfl,(ax n12).trans ae,ae,?_,λp3 hp3=>?_⟩
  ·have h1:=gD (xs.map V.str) none (some (n:Int));have h2:=gD (xs.map V.str) (some ((n:Int)+1)) none;rw[bo]at h1 h2;show (dQ (xs.map V.str) none (some (n:Int))).length+(dQ (xs.map V.str) (some ((n:Int)+1)) none).length<=_;omega
  refine q p3 _ (s2.new hp3) (same_none s2 hp3) ?_;have el:(bZ xs e).map V.str=dQ (xs.map V.str) none (some (n:Int))++dQ (xs.map V.str) (some ((n:Int)+1)) none:=by
   rw[e1,e2,<-kt];unfold bZ;rw[hk,en];show (xs.eraseIdx n).map V.str=_;rw[List.eraseIdx_eq_take_drop_succ]
  rw[el];exact ae
 have hk:¬e.k=1:=λy=>z (bG ((qb o).mpr y))
 refine⟨_,rfl,_,rfl,_,rfl,a,_,rfl,ha,λp1 hp1=>?_⟩
 have s1:=aw (o:=.lst (dQ (xs.map V.str) none (some (n:Int)))) hp1;refine a8 rfl (bO s1 ht) (sN hk) ⟨(sl 1),λp2 hp2=>?_⟩
 have n12:p1≠p2:=aQ ae hp2;have s2:=s1.new (o:=.lst [V.str e.th]) hp2;have h1:=gD (xs.map V.str) none (some (n:Int));rw[bo]at h1;refine⟨p1,p2,_,_,rfl,rfl,(ax n12).trans ae,ae,by show (dQ (xs.map V.str) none (some (n:Int))).length+1<=_;omega,λp3 hp3=>?_⟩
 refine aS λGb hGb=>?_
 have s3:=s2.new (o:=.lst (dQ (xs.map V.str) none (some (n:Int))++[V.str e.th])) hp3;obtain⟨b,hb,hb2⟩:∃b:Nat,(if decide (V.str (kn e.k)=V.str (ar "turn"))=true then (1:Int) else 0)=(b:Int)/\b=if e.k=2 then 1 else 0:=by
  by_cases h2:e.k=2
  ·exact⟨1,by rw[bG ((Iv o).mpr h2)];rfl,by rw[bp h2]⟩
  exact⟨0,by rw[bV (λy=>h2 ((Iv o).mp y))];rfl,by rw[aZ h2]⟩
 refine hGb ?_;refine⟨_,rfl,_,rfl,a8 rfl (bO s3 ht) (lO e) ⟨rfl,.inr ⟨_,rfl,_,_,rfl,rfl,_,rfl,?_⟩⟩⟩;dsimp only;rw[hb,show (n:Int)+(b:Int)=((n+b:Nat):Int) by omega]
 refine⟨a,_,rfl,s3.seq ha,λp4 hp4=>?_⟩
 have n34:p3≠p4:=aQ ae hp4;have s4:=s3.new (o:=.lst (dQ (xs.map V.str) (some ((n+b:Nat):Int)) none)) hp4;have h2:=gD (xs.map V.str) (some ((n+b:Nat):Int)) none;rw[bo]at h2;refine⟨p3,p4,_,_,rfl,rfl,(ax n34).trans ae,ae,?_,λp5 hp5=>?_⟩
 ·show (dQ (xs.map V.str) none (some (n:Int))++[V.str e.th]).length+(dQ (xs.map V.str) (some ((n+b:Nat):Int)) none).length<=_;rw[ki,UY];omega
 refine q p5 _ (s4.new hp5) (same_none s4 hp5) ?_;have el:(bZ xs e).map V.str=dQ (xs.map V.str) none (some (n:Int))++[V.str e.th]++dQ (xs.map V.str) (some ((n+b:Nat):Int)) none:=by
  rw[Hc,iW,<-List.map_take,<-List.map_drop];unfold bZ;rcases o.k3 with h | h | h
  ·rw[h]at hb2 ⊢;rw[hb2,en];simp
  ·exact absurd h hk
  rw[h,aZ (by decide)]at f1
  rw[h]at hb2 ⊢;rw[hb2,en];show (xs.set n e.th).map V.str=_;rw[List.set_eq_take_append_cons_drop,bp (by omega)]
  simp
 rw[el];exact ae
theorem kJ (T:Txt w.params K mg A){i:Nat}:aC P w K mg base a5 1 A.K3 A.yQ ["_law_m","_law_number"] (IS i):=by
 refine T.iS.F.ok KR (by left) λ_ _ _ _ H _ Q E hr h=>?_
 obtain⟨m,n,c,st,rfl,hm,hn,q⟩:=h;obtain⟨aP,aA,aD,aM,ds,ws,es,X⟩:=hm.ex;have bt:=hr.u1;refine⟨_,(ao (aG (aO br (aO br (bx bt (pv 0) au) (bb jg (pv 1) aj)) aj))),?_⟩;symm;refine aS λGa hGa=>?_
 obtain⟨v,ev,p,t1,t2,k,ts,rfl,z1,z2,z3,z4,z5⟩:=X.ent.get (jP hn);have h1:=hn.1;have ea:atI es ((n:Int) - 1)=some (.ref p):=by
  rw[show (n:Int) - 1=((n - 1:Nat):Int) by omega]
  exact cS ev
 refine hGa ?_;refine cv rfl X.gm ⟨_,rfl,_,_,rfl,rfl,aM,_,_,_,rfl,rfl,ay.of X.je.2,ea,p,_,_,_,rfl,rfl,ay.of z1.2,rfl,?_⟩;exact q t1 z2
theorem Ac (T:Txt w.params K mg A){i:Nat}:aC P w K mg base a5 2 A.OW A.EL ["_law_m"] (N3 i):=by
 refine T.xC.F.ok yD (by left) λ_ _ _ _ H _ Q E hr h=>?_
 obtain⟨m,c,st,rfl,hm,hp,q⟩:=h;obtain⟨aP,aA,aD,aM,ds,ws,es,X⟩:=hm.ex;have bt:=hr.u1;have gL:=hr.units;refine⟨_,(ah (aV (i:=1) yD.nd (kQ gO aj))
 (ah (bf (aI (xT gL) (bx bt (pv 0) au) (bK ai) (aL _))
 (ao (aV (i:=1) yD.nd (az (Ci T) hr T.zb (aa (aO aY (az (kJ (i:=i) T) hr T.iS (aa (pv 0) (aa (aO br (bx bt (pv 0) au) (kQ gO aj)) ai))) aj) ai))))
 aK)
 (ah (bf (lH (bx bt (pv 0) au))
 (ao (aG (bA (jU rfl) (by rfl) T.B3 u5 (aa (pv 1) (aa aj ai)))))
 aK)
 (ao (aG (pv 1)))))),?_⟩
 symm;refine⟨_,rfl,?_⟩;dsimp only[cZ];refine dG (λσ' H'=>σ'=[some (.ref m),some (.int (q5 (st.aJ.map st.mo)))]/\bh H H') ?r (λN nN=>?f)
 case f =>
  refine cv rfl X.gp ⟨(sl 0),λp hp0=>?_⟩
  have s1:=aw (o:=.lst []) hp0;refine⟨eV st.aJ,.list [],gw (ay.of (s1 _ _ X.aJ.2)),qt (ay.of ae),lE _,qr,_,rfl,?_⟩;rw[lD];rcases Vg st.aJ with e | ⟨pre,n,e⟩
  ·rw[e];exact b8 (nN _ _ ⟨by rw[e];rfl,s1⟩)
  rw[Vh]at e;have X1:=X.same s1;have hn:=hp n (by rw[e];simp)
  have h0:atI (st.aJ.map nV) (-1)=some (nV n):=by rw[e,kt];exact fG _ _
  refine kT (by rw[e];simp) ?_
  refine⟨_,rfl,_,rfl,m,_,rfl,X1.gp,_,rfl,aP,_,_,_,rfl,rfl,ay.of X1.aJ.2,h0,m,n,c,st,rfl,X1.at,hn,λt ht=>?_⟩
  obtain⟨v,hv⟩:=ht.kind;refine⟨t,_,_,_,rfl,rfl,aW.of hv,eD,(st.mo n).k,(st.mo n).k8,rfl,λH2 s2=>nN _ _ ⟨?_,s1.trans s2⟩⟩
  rw[e,kt,rf,VH,mH];rfl
 case r =>
  rintro σ' H1 ⟨rfl,s1⟩;have X1:=X.same s1;refine cv rfl X1.gc ⟨_,rfl,?_⟩;have q:=q H1 s1;unfold uF at q;cases hcl:st.closed with
  |true =>
   rw[hcl]at q;exact dR ⟨_,rfl,_,_,rfl,q⟩
  |false =>
   rw[hcl]at q;exact b8 ⟨_,rfl,q⟩
noncomputable def xcC:Xc->Str×Int
 | .Ds b=>(ar "bar",b)
 | .qj=>(ar "no matter",0)
 | .noChange=>(ar "no change",0)
 | .noFit=>(ar "no fit",0)
 | .zQ n=>(ar "not later",n)
 | .nothing=>(ar "nothing",0)
 | .tooMany=>(ar "too many",0)
 | .xG=>(ar "no aside",0)
 | .LQ n=>(ar "not yet",n)
 | .LR=>(ar "no number",0)
def N4 (i:Nat):Sp:=λvs H Q _=>∃(m t:Addr) (c:a6) (st:Ch) (N:Nat) (d:R.bI),vs=[.ref m,.ref t]/\cQ i c H m st/\av N st/\N<=800/\zW d/\oX i c H d t /\
 (ij st (eE d)=none->∀H',bh H H'->Q .non H')/\∀x,ij st (eE d)=some x->∀u H',bh H H'->H u=none->H' u=some (.tup [.str (xcC x).1,.int (xcC x).2])->Q (.ref u) H'
theorem He {m:Mn}{r:List Mn}(h:PMs (m::r)):sS (m::r)=decide (m.k=0):=by
 cases hm:sS (m::r) with
 |true =>
  obtain⟨tx,r',e⟩:=h.GZ hm;cases e;rfl
 |false =>
  unfold sS at hm;rw[V2,Bool.or_eq_false_iff]at hm;exact hm.1.symm
theorem Me {ms:List Mn}(h:PMs ms)(hm:fb ms=true):sS ms=true:=by
 unfold fb at hm;split at hm
 ·rename_i e he;obtain⟨r,e1⟩:=mJ he;subst e1;obtain⟨tx,e2,_⟩:=h.pop.2;subst e2;rfl
 cases hm
theorem Hf (T:Txt w.params K mg A){i:Nat}:aC P w K mg base a5 3 A.Ic A.yR ["_law_m","_law_motion"] (N4 i):=by
 have DE:aC P w K mg base a5 1 A.K3 A.yQ ["_law_m","_law_number"] (IS i):=kJ T;refine T.BX.F.ok sA (by left) λ_ _ _ _ H _ Q E hr h=>?_
 obtain⟨m,t,c,st,N,d,rfl,hm,I,hN,hd,hdc,q,qx⟩:=h;obtain⟨aP,aA,aD,aM,ds,ws,es,X⟩:=hm.ex;have bt:=hr.u1;have gL:=hr.units;have Ad:b7 1 _:=hr.mono;refine⟨_,(ah (aV (i:=2) sA.nd (aO aY (pv 1) aj))
 (ah (bf (aI iU (az (Ci T) hr.mono T.zb (aa (pv 2) ai)) (az (Ac (i:=i) T) hr T.xC (aa (pv 0) ai)) (aL _))
 (ao (aG (bu (aa au (aa (az (Ac (i:=i) T) hr T.xC (aa (pv 0) ai)) ai)))))
 aK)
 (ah (bf (aI fV (pv 2) (bu (aa au (aa au (aa au ai)))) rfl)
 (ao (aG rX))
 aK)
 (ah (bf (PW.pt (pw_or (aI (mZ gL) (bx bt (pv 0) au) (bK ai) (aL _)) (pw_or1 (aI kR (aO aY (az DE Ad T.iS (aa (pv 0) (aa (aO br (bx bt (pv 0) au) aj) ai))) aj) au (aL _)))))
 (ao (aG (bu (aa au (aa aj ai)))))
 aK)
 (ah (aV (i:=3) sA.nd (az DE Ad T.iS (aa (pv 0) (aa (aO br (bx bt (pv 0) au) (kQ gO aj)) ai))))
 (ah (bf (PW.pt (pw_and (aI bz (pv 2) au (aL _)) (pw_and1 (PW.pt (pw_or (aI kR (aO aY (pv 3) aj) au (aL _)) (pw_or1 (aI bz (aO aY (aO aY (pv 3) aj) aj) au (aL _))))))))
 (ao (aG (bu (aa au (aa aj ai)))))
 aK)
 (ah (bf (PW.pt (pw_and (aI bz (pv 2) au (aL _)) (pw_and1 (mT (lH (az (Cj T) hr.mono T.y7 (aa (az (nZ T) hr.mono T.iH (aa (aO aY (aO aY (pv 3) aj) aj) ai)) (aa (aO aY (pv 1) aj) ai))))))))
 (ao (aG (bu (aa au (aa aj ai)))))
 aK)
 (ah (bf (PW.pt (pw_and (aI bz (pv 2) au (aL _)) (pw_and1 (mT (lH (az (Cj T) hr.mono T.y7 (aa (aO aY (az DE Ad T.iS (aa (pv 0) (aa (aO br (bx bt (pv 0) au) aj) ai))) aj) (aa (aO aY (pv 1) aj) ai))))))))
 (ao (aG (bu (aa au (aa aj ai)))))
 aK)
 (ah (bf (PW.pt (pw_and (aI bz (pv 2) au (aL _)) (pw_and1 (aI iU (aO aY (pv 1) aj) (bx bt (pv 0) au) (aL _)))))
 (ao (aG (bu (aa au (aa (bx bt (pv 0) au) ai)))))
 aK)
 (ao (aG rX))))))))))),?_⟩
 symm;refine aS λGa hGa=>?_
 obtain⟨v,ht,hv0,hv1⟩:=uO hd hdc;have hmk:=G5 (N:=N) hd;refine hGa ?_;generalize eE d=mn at ht hv0 hv1 hmk q qx;refine a8 rfl (aW.of ht.2) eD ?_;refine⟨_,rfl,mn.k,mn.k8,rfl,λH1 s1=>?_⟩
 refine⟨_,rfl,m,c,st,rfl,(X.same s1).at,I.cF,λH2 s2=>?_⟩
 have s12:=s1.trans s2;refine⟨_,_,rfl,rfl,_,rfl,dg (λz=>?_) (λz=>?_)⟩
 ·have z':(mn.k:Int)<=uF st.closed (st.aJ.map st.mo):=eM z;refine⟨_,rfl,m,c,st,rfl,(X.same s12).at,I.cF,λH3 s3=>⟨(sl 2),λu hu=>?_⟩⟩
  refine qx (.Ds (uF st.closed (st.aJ.map st.mo))) (by unfold ij q8;rw[bp z']) u _ ((s12.trans s3).new hu) (same_none (s12.trans s3) hu) ae
 have z':¬(mn.k:Int)<=uF st.closed (st.aJ.map st.mo):=λy=>z (bG y)
 refine⟨_,rfl,(sl 3),λt3 ht3=>?_⟩
 have s3:=s12.new (o:=.tup [V.str (ar "matter"),V.str (ar "rest"),V.str (ar "point")]) ht3;refine⟨t3,_,rfl,.inr (aW.of ae),rfl,rfl,_,rfl,?_⟩;have ein:(if false=true then !inV (V.str (nm mn.k)) [V.str (ar "matter"),V.str (ar "rest"),V.str (ar "point")] else inV (V.str (nm mn.k)) [V.str (ar "matter"),V.str (ar "rest"),V.str (ar "point")])=decide (mn.k=0\/mn.k=6\/mn.k=7):=by
  have:∀k,k < 8->inV (V.str (nm k)) [V.str (ar "matter"),V.str (ar "rest"),V.str (ar "point")]=decide (k=0\/k=6\/k=7):=by trivial
  exact this _ mn.k8
 rw[ein];generalize ag H2 t3 (.tup [V.str (ar "matter"),V.str (ar "rest"),V.str (ar "point")])=H3 at s3 ⊢;clear ht3 ein s12 s2 s1 z
 by_cases JS:mn.k=0\/mn.k=6\/mn.k=7
 ·refine kT (bG JS) (q ?_ H3 s3);have hn:qk (st.aJ.map st.mo) mn.k=true:=by
   unfold qk;rw[aZ (by omega),aZ (by omega)]
  unfold ij q8;rw[aZ z',bp hn];cases mn <;> first | rfl | (simp[Mn.k]at JS)
 refine iV (bV JS) ?_;have X3:=X.same s3;refine cv rfl X3.gp ⟨(sl 0),λp4 hp4=>?_⟩
 have s4:=s3.new (o:=.lst []) hp4;have X4:=X.same s4;refine⟨eV st.aJ,.list [],gw (ay.of X4.aJ.2),qt (ay.of ae),lE _,qr,_,rfl,?_⟩;rw[lD];generalize ag H3 p4 (.lst [])=H4 at s4 X4 ⊢;clear hp4 X3 s3;have ht4:aW K H4 t (rowOf mn.k v):=aW.of (s4 _ _ ht.2);have nomat:sS (st.aJ.map st.mo)=false->ij st mn=some .qj:=λhh=>by
  have hn:qk (st.aJ.map st.mo) mn.k=false:=by
   unfold qk
   by_cases h2:mn.k=2
   ·rw[bp h2];cases hmm:fb (st.aJ.map st.mo) with
    |false=>rfl
    |true=>rw[Me I.pil hmm]at hh;cases hh
   have:=mn.k8;rw[aZ h2,bp (by omega),hh]
  unfold ij q8;rw[aZ z',aZ (by rw[hn];decide),aZ (by rw[hh];decide)]
 have say:∀(x:Xc) (z:Str),ij st mn=some x->(xcC x).1=z->(xcC x).2=0->∀(Hn:Hp),bh H Hn->∀u,Hn u=none->Q (.ref u) (ag Hn u (.tup [.str z,.int 0])):=λx z hx hz h0 Hn sn u hu=>by
  subst hz;have:=qx x hx u _ (sn.new hu) (same_none sn hu) (ae (o:=.tup [.str (xcC x).1,.int (xcC x).2]));rw[h0]at this;exact this
 cases Ae:st.aJ with
 |nil =>
  refine dR (dR ⟨(sl 2),λu hu=>?_⟩)
  exact say .qj _ (nomat (by rw[Ae];rfl)) rfl rfl H4 s4 u hu
 |cons b r =>
  refine b8 ?_;have hb:dY st b:=I.cF b (by rw[Ae];exact eg)
  have h0:atI (st.aJ.map nV) 0=some (nV b):=by rw[Ae];exact cS (j:=0) rfl
  refine⟨_,rfl,cv rfl X4.gp ⟨aP,_,_,_,rfl,rfl,ay.of X4.aJ.2,h0,m,b,c,st,rfl,X4.at,hb,λtb htb=>?_⟩⟩
  obtain⟨vb,hvb⟩:=htb.kind;have hbm:sS (st.aJ.map st.mo)=decide ((st.mo b).k=0):=by
   have hp:=I.pil;rw[Ae,rf]at hp ⊢;exact He hp
  refine⟨tb,_,_,_,rfl,rfl,aW.of hvb,eD,rfl,_,rfl,?_⟩;rw[zS _ (st.mo b).k8]
  by_cases hk0:(st.mo b).k=0
  case neg =>
   rw[bV hk0]at hbm ⊢;refine dR ⟨(sl 2),λu hu=>?_⟩
   exact say .qj _ (nomat hbm) rfl rfl H4 s4 u hu
  rw[bG hk0]at hbm ⊢;refine b8 ?_;refine aS λGb hGb=>?_
  obtain⟨tx,etx⟩:∃tx,st.mo b=.mat tx:=by
   cases hmo:st.mo b with
   |mat tx=>exact⟨tx,rfl⟩
   |_=>rw[hmo]at hk0;simp[Mn.k]at hk0
  obtain⟨pre,n,Mf⟩:∃pre n,st.aJ=pre++[n]:=by
   rcases Vg st.aJ with e | ⟨pre,n,e⟩
   ·rw[e]at Ae;cases Ae
   exact⟨pre,n,by rw[e,Vh]⟩
  have hn:dY st n:=I.cF n (by rw[Mf];simp)
  have SG:atI (st.aJ.map nV) (-1)=some (nV n):=by rw[Mf,kt];exact fG _ _
  have etop:(st.aJ.map st.mo).getLast?=some (st.mo n):=by rw[Mf,kt];exact VF
  have Us:∃r',st.aJ.map st.mo=.mat tx::r':=⟨r.map st.mo,by rw[Ae,rf,etx]⟩
  refine hGb ?_;refine⟨_,rfl,_,rfl,m,_,rfl,X4.gp,_,rfl,aP,_,_,_,rfl,rfl,ay.of X4.aJ.2,SG,m,n,c,st,rfl,X4.at,hn,λtt htt=>?_⟩
  refine aS λGc hGc=>?_
  obtain⟨_,vt,hvt,hvv⟩:=htt;have okn:qk (st.aJ.map st.mo) mn.k=true->ij st mn=kP st mn:=λhh=>by
   unfold ij q8;rw[aZ z',bp hh]
  refine hGc ?_;cases mn with
  |mat _=>exact absurd (.inl rfl) JS
  |rst=>exact absurd (.inr (.inl rfl)) JS
  |pnt _=>exact absurd (.inr (.inr rfl)) JS
  |cls =>
   have hx:ij st .cls=none:=okn (by show sS _=true;exact hbm)
   exact⟨_,rfl,rfl,a4 (cE 4 (by decide)) (b8 ⟨_,rfl,rfl,a4 (cE 4 (by decide)) (b8 ⟨_,rfl,rfl,a4 (cA 4 (by decide)) (b8 ⟨_,rfl,rfl,a4 (fR 4 (by decide)) (b8 (q hx H4 s4))⟩)⟩)⟩)⟩
  |lay =>
   have hx:ij st .lay=none:=okn (by show sS _=true;exact hbm)
   exact⟨_,rfl,rfl,a4 (cE 5 (by decide)) (b8 ⟨_,rfl,rfl,a4 (cE 5 (by decide)) (b8 ⟨_,rfl,rfl,a4 (cA 5 (by decide)) (b8 ⟨_,rfl,rfl,a4 (fR 5 (by decide)) (b8 (q hx H4 s4))⟩)⟩)⟩)⟩
  |off u =>
   have hx:ij st (.off u)=kP st (.off u):=okn (by show sS _=true;exact hbm)
   have hv':v=.int u:=hv1 (by simp[Mn.k])
   subst hv';refine⟨_,rfl,rfl,a4 (cE 3 (by decide)) (b8 ⟨_,rfl,rfl,a4 (cE 3 (by decide)) (b8 ⟨_,rfl,rfl,a4 (cA 3 (by decide)) (b8 ⟨_,rfl,rfl,cg (fR 3 (by decide)) ?_⟩)⟩)⟩)⟩
   refine a8 rfl ht4 rfl (cv rfl X4.gs ⟨_,_,rfl,rfl,_,rfl,dg (λy=>?_) (λy=>?_)⟩)
   ·have y':u<=st.bc:=eM y;refine cv rfl X4.gs ⟨(sl 2),λu2 hu=>?_⟩
    exact qx (.zQ st.bc) (by rw[hx];unfold kP;dsimp only;rw[bp y']) u2 _ (s4.new hu) (same_none s4 hu) ae
   have y':¬u<=st.bc:=λz=>y (bG z)
   exact q (by rw[hx];unfold kP;dsimp only;rw[aZ y']) H4 s4
  |chg e =>
   refine aS λGd hGd=>?_
   have hx:ij st (.chg e)=kP st (.chg e):=okn (by show sS _=true;exact hbm)
   obtain⟨te,rfl,hte⟩:=hv1 (by simp[Mn.k])
   obtain⟨r',er'⟩:=Us;refine hGd ?_;refine⟨_,rfl,rfl,a4 (cE 1 (by decide)) (b8 ⟨_,rfl,rfl,a4 (cE 1 (by decide)) (b8 ⟨_,rfl,rfl,cg (cA 1 (by decide)) ?_⟩)⟩)⟩
   refine⟨_,rfl,cv rfl X4.gp ⟨aP,_,_,_,rfl,rfl,ay.of X4.aJ.2,h0,m,b,c,st,rfl,X4.at,hb,λtb2 SH=>?_⟩⟩
   refine aS λGe hGe=>?_
   rw[etx]at SH;obtain⟨_,v2,hv2,L,rfl,hL⟩:=SH;refine hGe ?_;refine⟨tb2,_,_,_,rfl,rfl,aW.of hv2,rfl,a8 rfl ht4 rfl ⟨L,te,_,e,rfl,ay.of hL.2,bO s4 hte.sq,hmk.ed1 hN,_,rfl,?_⟩⟩;rw[bo];cases hf:gI tx.length e with
   |true=>exact b8 ⟨_,rfl,rfl,a4 (fR 1 (by decide)) (b8 (q (by rw[hx];unfold kP;dsimp only;rw[er'];dsimp only;rw[bp hf]) H4 s4))⟩
   |false =>
    refine dR ⟨(sl 2),λu hu=>?_⟩
    exact say .noFit _ (by rw[hx];unfold kP;dsimp only;rw[er'];dsimp only;rw[aZ (by rw[hf];decide)]) rfl rfl H4 s4 u hu
  |mnd f =>
   refine aS λGf hGf=>?_
   obtain⟨te,rfl,hte⟩:=hv1 (by simp[Mn.k])
   refine hGf ?_;refine⟨_,rfl,rfl,cg (cE 2 (by decide)) (a8 rfl (aW.of hvt) eD ⟨rfl,_,rfl,?_⟩)⟩
   rw[cA _ (st.mo n).k8];have Ft:fb (st.aJ.map st.mo)=false->ij st (.mnd f)=some .noChange:=λhh=>by
    have hn:qk (st.aJ.map st.mo) (Mn.mnd f).k=false:=(show fb (st.aJ.map st.mo)=false from hh)
    unfold ij q8;rw[aZ z',aZ (by rw[hn];decide),bp (by rw[hbm])]
   by_cases h1:(st.mo n).k=1
   case neg =>
    rw[bV h1];refine dR (dR ⟨(sl 2),λu hu=>?_⟩)
    refine say .noChange _ (Ft ?_) rfl rfl H4 s4 u hu;unfold fb;rw[etop];cases hmo:st.mo n with
    |chg e=>rw[hmo]at h1;exact absurd rfl h1
    |_=>rfl
   rw[bG h1];refine aS λGq gq=>?_
   obtain⟨e,emo⟩:∃e,st.mo n=.chg e:=by
    cases hmo:st.mo n with
    |chg e=>exact⟨e,rfl⟩
    |_=>rw[hmo]at h1;simp[Mn.k]at h1
   rw[emo]at hvt hvv etop;obtain⟨tc,rfl,htc⟩:=hvv;refine gq ?_;refine b8 (a8 rfl (aW.of hvt) rfl ⟨tc,_,_,_,rfl,rfl,htc.sq,lO e,rfl,_,rfl,?_⟩);rw[Dv]
   by_cases hk1:e.k=1
   ·rw[bG hk1];refine dR ⟨(sl 2),λu hu=>?_⟩
    refine say .noChange _ (Ft ?_) rfl rfl H4 s4 u hu;unfold fb;rw[etop];dsimp only;rw[bG hk1];rfl
   rw[bV hk1];have hmo:fb (st.aJ.map st.mo)=true:=by
    unfold fb;rw[etop];dsimp only;rw[bV hk1];rfl
   have hx:ij st (.mnd f)=kP st (.mnd f):=okn (show fb (st.aJ.map st.mo)=true from hmo)
   have hem:EdB (12+N) e:=by
    have:=I.vF hn;rw[emo]at this;exact this
   have heo:q0 e:=hem.ok (by omega)
   refine b8 ⟨_,rfl,rfl,cg (cE 2 (by decide)) (a8 rfl (aW.of hvt) rfl ⟨tc,_,_,_,rfl,rfl,htc.sq,sN hk1,e.th,rfl,?_,λp1 hp1=>?_⟩)⟩
   ·have:=heo.th.len;have lim:fu=16777216:=by decide
    omega
   have s5:=s4.new (o:=.lst ((R.bL e.th).map V.str)) hp1;have s45:=aw (o:=.lst ((R.bL e.th).map V.str)) hp1;refine a8 rfl (bO s45 ht4) rfl ⟨p1,te,_,f,rfl,ay.of ae,bO s5 hte.sq,hmk.ed2,_,rfl,?_⟩;rw[bo];cases hf:gI (R.bL e.th).length f with
   |true=>exact b8 ⟨_,rfl,rfl,a4 (cA 2 (by decide)) (b8 ⟨_,rfl,rfl,a4 (fR 2 (by decide)) (b8 (q (by rw[hx];unfold kP;dsimp only;rw[etop];dsimp only;rw[bp hf]) _ s5))⟩)⟩
   |false =>
    refine dR ⟨(sl 2),λu hu=>?_⟩
    exact say .noFit _ (by rw[hx];unfold kP;dsimp only;rw[etop];dsimp only;rw[aZ (by rw[hf];decide)]) rfl rfl _ s5 u hu
theorem bN.Mg {α β:Type}{R R':α->β->Prop}:∀ {as:List α} {bs:List β} {j:Nat} {a':α} {b:β},bN R as bs->bs[j]?=some b->(∀k a b',k≠j->as[k]?=some a->R a b'->R' a b')->R' a' b->bN R' (as.set j a') bs
 |_,_,_,_,_,.nil,h,_,_=>by simp at h
 |a::as,b0::bs,0,a',b,.cons h t,hb,hk,hn=>by
  rw[Vr]at hb;cases hb;refine .cons hn ?_;have:∀ {as:List α} {bs:List β} (s:Nat),(∀(k:Nat) a b',as[k]?=some a->R a b'->R' a b')->bN R as bs->bN R' as bs:=by
   intro as bs s f z
   induction z with
   |nil=>exact .nil
   |cons h1 t1 ih=>exact .cons (f 0 _ _ Vr h1) (ih λk a b' e=>f (k+1) a b' (by rw[Vt];exact e))
  exact this 0 (λk x y e=>hk (k+1) x y (by omega) (by rw[Vt];exact e)) t
 |a::as,b0::bs,j+1,a',b,.cons h t,hb,hk,hn=>by
  rw[Vt]at hb;exact .cons (hk 0 _ _ (by omega) Vr h) (t.Mg hb (λk x y ne e=>hk (k+1) x y (by omega) (by rw[Vt];exact e)) hn)
theorem kK (st:Ch):(gB st).length=st.made.length:=by unfold gB;rw[bo,Vz]
theorem Fu {st:Ch}{j:Nat}{x:Ent}(h:(gB st)[j]?=some x):x=gg st (j+1)/\j < st.made.length:=by
 have hj:j < st.made.length:=by rw[<-kK];exact(List.getElem?_eq_some_iff.mp h).1
 have e:=jP (st:=st) (n:=j+1) ⟨by omega,by omega⟩
 rw[Nat.add_sub_cancel]at e;rw[e]at h;exact⟨(US h).symm,hj⟩
theorem Fv {st st':Ch}{n:Nat}(hl:st'.made.length=st.made.length)(hn:dY st n)(h:∀k,dY st k->k≠n->gg st' k=gg st k):gB st'=(gB st).set (n - 1) (gg st' n):=by
 refine List.ext_getElem? λj=>?_
 have h1:=hn.1;have h2:=hn.2
 by_cases hj:j < st.made.length
 ·have e:=jP (st:=st') (n:=j+1) ⟨by omega,by omega⟩
  rw[Nat.add_sub_cancel]at e;rw[e]
  by_cases z:j=n - 1
  ·subst z;rw[List.getElem?_set_self (by rw[kK];omega),show n - 1+1=n by omega]
  rw[List.getElem?_set_ne (λy=>z y.symm)]
  have e2:=jP (st:=st) (n:=j+1) ⟨by omega,by omega⟩
  rw[Nat.add_sub_cancel]at e2;rw[e2,h (j+1) ⟨by omega,by omega⟩ (by omega)]
 rw[List.getElem?_eq_none (by rw[kK];omega),List.getElem?_eq_none (by rw[V0,kK];omega)]
theorem Mh {st st':Ch}(hl:st'.made.length=st.made.length+1)(h:∀k,dY st k->gg st' k=gg st k):gB st'=gB st++[gg st' (st.made.length+1)]:=by
 unfold gB;rw[hl,List.range'_concat,kt,Nat.one_mul,Nat.add_comm 1]
 congr 1
 refine VY λk hk=>?_
 rw[V7]at hk;exact h k ⟨hk.1,by omega⟩
theorem Af {n k:Nat}{e:Ed}:∀ {xs:List (Nat×List Ed)},at1 k (o7 n e xs)=(at1 k xs).map λx=>if x.1=n then (x.1,x.2++[e]) else x
 |[]=>rfl
 |y::xs=>by
  have ih:=Af (n:=n) (k:=k) (e:=e) (xs:=xs);unfold at1 o7 at ih ⊢;rw[rf,VB,VB];have ek:(if y.1=n then (y.1,y.2++[e]) else y).1=y.1:=by split <;> rfl
  rw[ek]
  by_cases z:y.1=k
  ·rw[bG z];rfl
  rw[bV z];exact ih
theorem Mi {st:Ch}{n:Nat}{e:Ed}{x:Nat×List Ed}(h:at1 n st.kept=some x):fA { st with kept:=o7 n e st.kept } n=fA st n++[e]:=by
 unfold fA;show ((at1 n (o7 n e st.kept)).map (·.2)).getD []=_
 rw[Af,h];have:=(ic h).1;show (if x.1=n then (x.1,x.2++[e]) else x).2=x.2++[e]
 rw[bp this]
theorem Fw {st:Ch}{n k:Nat}{e:Ed}(ne:k≠n):fA { st with kept:=o7 n e st.kept } k=fA st k:=by
 unfold fA;show ((at1 k (o7 n e st.kept)).map (·.2)).getD []=_
 rw[Af];cases h:at1 k st.kept with
 |none=>rfl
 |some x =>
  have:=(ic h).1;show (if x.1=n then (x.1,x.2++[e]) else x).2=x.2
  rw[aZ (by rw[this];exact ne)]
noncomputable def QZ (n:Nat):Rl->Bool | .dq m=>decide (m=n) | _=>false
section
variable{i:Nat}{c c':a6}{H H':Hp}{m aP aA aD aM:Addr}{st:Ch}{ds:List Addr}{ws es:List V}
theorem MdX.Mj (X:MdX i c H m st aP aA aD aM ds ws es){n:Nat}(hn:dY st n){mn:Mn}{p t1 t2 k t':Addr}(he:es[n - 1]?=some (.ref p))(hp:bT i c H (.dq n) p [.ref t1,.ref t2,.ref k])(ht:MnT c H mn t') :
  aq (Wr i (QZ n)) c c H (ag H p (.lst [.ref t',.ref t2,.ref k]))/\MdX i c (ag H p (.lst [.ref t',.ref t2,.ref k])) m { st with made:=st.made.set (n - 1) mn } aP aA aD aM ds ws es:=by
 have s:aq (Wr i (QZ n)) c c H (ag H p (.lst [.ref t',.ref t2,.ref k])):=aq.ag Wr.nn (Wr.yes hp.1 (bG rfl));have kk:=kE rfl s X.co X.ob;have ee:gB { st with made:=st.made.set (n - 1) mn }=(gB st).set (n - 1) (gg { st with made:=st.made.set (n - 1) mn } n) :=
  Fv (by show (st.made.set (n - 1) mn).length=_;rw[V0]) hn λk hk ne=>by
   unfold gg;rw[qO hn hk.1 ne rfl];rfl
 refine⟨s,kk.1,kk.2,X.aJ.kp rfl s,X.aU.kp rfl s,jb (λ_ _=>rfl) s X.wait,X.dec.kp rfl s,ia s X.jN,X.je.kp rfl s,?_⟩
 rw[ee];refine X.ent.Mg he (λj x b ne ex z=>?_) ?_
 ·obtain⟨e1,hj⟩:=Fu ex;have hx:x.1≠n:=by rw[e1];show j+1≠n;omega
  obtain⟨q,t1,t2,k,ts,e,z1,z2,z3,z4,z5⟩:=z;exact⟨q,t1,t2,k,ts,e,z1.kp (bV hx) s,z2.step s,λtx ht=>(z3 tx ht).step s,z4.kp rfl s,z5.imp λ_ _ y=>y.step s⟩
 obtain⟨v,ev,q,t1',t2',k',ts,e,z1,z2,z3,z4,z5⟩:=X.ent.get (jP hn);rw[he]at ev;cases ev;cases e;have hh:=z1.2;rw[hp.2]at hh;injection hh with hh
 injection hh with hh
 injection hh with h1 hh
 injection hh with h2 hh
 injection hh with h3 hh
 injection h2 with h2
 injection h3 with h3
 subst h2;subst h3;refine⟨p,t',t2,k,ts,rfl,⟨hp.1,ae⟩,?_,λtx ht=>(z3 tx ht).step s,z4.kp rfl s,z5.imp λ_ _ y=>y.step s⟩
 have:(gg { st with made:=st.made.set (n - 1) mn } n).2.1=mn:=Dy hn rfl
 rw[this];exact ht.step s
theorem MdX.Dw (X:MdX i c H m st aP aA aD aM ds ws es){n:Nat}(hn:dY st n){e:Ed}{x:Nat×List Ed}(hx:at1 n st.kept=some x){p t1 t2 k t:Addr}{ts:List Addr}(he:es[n - 1]?=some (.ref p))(hp:bT i c H (.dq n) p [.ref t1,.ref t2,.ref k])(hk:bT i c H (.fP n) k (ts.map V.ref))(ht:ck c H t (fF e)) :
  aq (Wr i (IJ n)) c c H (ag H k (.lst (ts.map V.ref++[.ref t])))/\MdX i c (ag H k (.lst (ts.map V.ref++[.ref t]))) m { st with kept:=o7 n e st.kept } aP aA aD aM ds ws es:=by
 have s:aq (Wr i (IJ n)) c c H (ag H k (.lst (ts.map V.ref++[.ref t]))):=aq.ag Wr.nn (Wr.yes hk.1 (bG rfl));have kk:=kE rfl s X.co X.ob;have ee:gB { st with kept:=o7 n e st.kept }=(gB st).set (n - 1) (gg { st with kept:=o7 n e st.kept } n) :=
  Fv rfl hn λj hj ne=>by
   unfold gg;rw[Fw ne];rfl
 refine⟨s,kk.1,kk.2,X.aJ.kp rfl s,X.aU.kp rfl s,jb (λ_ _=>rfl) s X.wait,X.dec.kp rfl s,ia s X.jN,X.je.kp rfl s,?_⟩
 rw[ee];refine X.ent.Mg he (λj x b ne ex z=>?_) ?_
 ·obtain⟨e1,hj⟩:=Fu ex;have hx:x.1≠n:=by rw[e1];show j+1≠n;omega
  obtain⟨q,t1,t2,k,ts,e,z1,z2,z3,z4,z5⟩:=z;exact⟨q,t1,t2,k,ts,e,z1.kp rfl s,z2.step s,λtx ht=>(z3 tx ht).step s,z4.kp (bV hx) s,z5.imp λ_ _ y=>y.step s⟩
 obtain⟨v,ev,q,t1',t2',k',ts',e,z1,z2,z3,z4,z5⟩:=X.ent.get (jP hn);rw[he]at ev;cases ev;cases e;have hh:=z1.2;rw[hp.2]at hh;injection hh with hh
 injection hh with hh
 injection hh with h1 hh
 injection hh with h2 hh
 injection hh with h3 hh
 injection h1 with h1
 injection h2 with h2
 injection h3 with h3
 subst h1;subst h2;subst h3;have e3:ts'.map V.ref=ts.map V.ref:=by
  have:=z4.2;rw[hk.2]at this;injection this with this
  injection this with this
  exact this.symm
 refine⟨p,t1,t2,k,ts'++[t],rfl,z1.kp rfl s,z2.step s,λtx ht=>(z3 tx ht).step s,⟨z4.1,by rw[ae,<-e3,kt];rfl⟩,?_⟩
 show bN _ (fA { st with kept:=o7 n e st.kept } n) (ts'++[t])
 rw[Mi hx];exact(z5.imp λ_ _ y=>y.step s).snoc (ht.step s)
theorem MdX.kO (X:MdX i c H m st aP aA aD aM ds ws es){n:Nat}{u:Int}{t p:Addr}(ht:H t=none)(hp:H p=none)(ntp:p≠t)(hn:n∉st.aU.map (·.1)) :
  ∃c',aq (Wr i NN) c c' H (ag (ag (ag (ag H t (.tup [.int u,.ref aP])) aA (.dK (bB (bD ((st.aU.map (·.1)).zip ws)) (om (n:Int)) (.ref t)))) p (.lst [])) m (.dK (mdF (.int st.bc) (.bl st.closed) (.ref p) (.ref aA) (.ref aD) (.ref aM)))) /\
  MdX i c' (ag (ag (ag (ag H t (.tup [.int u,.ref aP])) aA (.dK (bB (bD ((st.aU.map (·.1)).zip ws)) (om (n:Int)) (.ref t)))) p (.lst [])) m (.dK (mdF (.int st.bc) (.bl st.closed) (.ref p) (.ref aA) (.ref aD) (.ref aM)))) m (st.kO n u) p aA aD aM ds (ws++[.ref t]) es:=by
 have nt:∀ {a:Addr} {v:HO},H a=some v->a≠t:=λe=>aQ e ht
 have np:∀ {a:Addr} {v:HO},H a=some v->a≠p:=λe=>aQ e hp
 have oA:m≠aA:=dP X.co X.aU.1 (λz=>nomatch z)
 have oP:m≠aP:=dP X.co X.aJ.1 (λz=>nomatch z)
 have AP:aA≠aP:=dP X.aU.1 X.aJ.1 (λz=>nomatch z)
 have e:=mI (v:=.ref t) hn (vs:=ws) (by rw[bo];exact X.wait.len)
 have hp2:(ag (ag H t (.tup [.int u,.ref aP])) aA (.dK (bB (bD ((st.aU.map (·.1)).zip ws)) (om (n:Int)) (.ref t)))) p=none:=by
  rw[ax (np X.aU.2).symm,ax ntp];exact hp
 have x1:aN (aN c t none) p (some (i,.aJ)) m=some (i,.ob):=by rw[a9 (np X.ob),a9 (nt X.ob)];exact X.co
 have x2:aN (aN c t none) p (some (i,.aJ)) aP=some (i,.aJ):=by rw[a9 (np X.aJ.2),a9 (nt X.aJ.2)];exact X.aJ.1
 have x3:aN c t none aA=some (i,.aU):=by rw[a9 (nt X.aU.2)];exact X.aU.1
 refine⟨aN (aN (aN c t none) p (some (i,.aJ))) aP (some (i,.eT n)),?_⟩;have s:aq (Wr i NN) c (aN (aN (aN c t none) p (some (i,.aJ))) aP (some (i,.eT n))) H (ag (ag (ag (ag H t (.tup [.int u,.ref aP])) aA (.dK (bB (bD ((st.aU.map (·.1)).zip ws)) (om (n:Int)) (.ref t)))) p (.lst [])) m (.dK (mdF (.int st.bc) (.bl st.closed) (.ref p) (.ref aA) (.ref aD) (.ref aM)))) :=
  ((((aq.new Wr.nn ht).trans (aq.ag Wr.nn ⟨.aU,x3,rfl⟩)).trans (aq.new Wr.nn hp2)).trans (aq.ag Wr.nn ⟨.ob,x1,rfl⟩)).trans (aq.role Wr.nn ⟨.aJ,x2,rfl⟩)
 have k1:aN (aN (aN c t none) p (some (i,.aJ))) aP (some (i,.eT n)) m=some (i,.ob):=by rw[a9 oP];exact x1
 have y1:aN (aN (aN c t none) p (some (i,.aJ))) aP (some (i,.eT n)) aA=some (i,.aU):=by rw[a9 AP,a9 (np X.aU.2)];exact x3
 have y2:aN (aN (aN c t none) p (some (i,.aJ))) aP (some (i,.eT n)) aP=some (i,.eT n):=bj;have y3:aN (aN (aN c t none) p (some (i,.aJ))) aP (some (i,.eT n)) p=some (i,.aJ):=by rw[a9 (np X.aJ.2).symm,bj]
 have y4:aN (aN (aN c t none) p (some (i,.aJ))) aP (some (i,.eT n)) t=none:=by rw[a9 (nt X.aJ.2).symm,a9 ntp.symm,bj]
 generalize aN (aN (aN c t none) p (some (i,.aJ))) aP (some (i,.eT n))=c3 at s k1 y1 y2 y3 y4 ⊢;have z1:(ag (ag (ag (ag H t (.tup [.int u,.ref aP])) aA (.dK (bB (bD ((st.aU.map (·.1)).zip ws)) (om (n:Int)) (.ref t)))) p (.lst [])) m (.dK (mdF (.int st.bc) (.bl st.closed) (.ref p) (.ref aA) (.ref aD) (.ref aM)))) aA=some (.dK (bD (((st.aU++[(n,u,st.aJ)]).map (·.1)).zip (ws++[.ref t])))):=by rw[ax oA.symm,ax (np X.aU.2),ae,e,kt];rfl
 have z2:(ag (ag (ag (ag H t (.tup [.int u,.ref aP])) aA (.dK (bB (bD ((st.aU.map (·.1)).zip ws)) (om (n:Int)) (.ref t)))) p (.lst [])) m (.dK (mdF (.int st.bc) (.bl st.closed) (.ref p) (.ref aA) (.ref aD) (.ref aM)))) aP=some (.lst (st.aJ.map nV)):=by rw[ax oP.symm,ax (np X.aJ.2),ax AP.symm,ax (nt X.aJ.2)];exact X.aJ.2
 have z3:(ag (ag (ag (ag H t (.tup [.int u,.ref aP])) aA (.dK (bB (bD ((st.aU.map (·.1)).zip ws)) (om (n:Int)) (.ref t)))) p (.lst [])) m (.dK (mdF (.int st.bc) (.bl st.closed) (.ref p) (.ref aA) (.ref aD) (.ref aM)))) p=some (.lst []):=by rw[ax (np X.ob).symm,ae]
 have z4:(ag (ag (ag (ag H t (.tup [.int u,.ref aP])) aA (.dK (bB (bD ((st.aU.map (·.1)).zip ws)) (om (n:Int)) (.ref t)))) p (.lst [])) m (.dK (mdF (.int st.bc) (.bl st.closed) (.ref p) (.ref aA) (.ref aD) (.ref aM)))) t=some (.tup [.int u,.ref aP]):=by rw[ax (nt X.ob).symm,ax ntp.symm,ax (nt X.aU.2).symm,ae]
 have z5:(ag (ag (ag (ag H t (.tup [.int u,.ref aP])) aA (.dK (bB (bD ((st.aU.map (·.1)).zip ws)) (om (n:Int)) (.ref t)))) p (.lst [])) m (.dK (mdF (.int st.bc) (.bl st.closed) (.ref p) (.ref aA) (.ref aD) (.ref aM)))) m=some (.dK (mdF (.int st.bc) (.bl st.closed) (.ref p) (.ref aA) (.ref aD) (.ref aM))):=ae
 generalize ag (ag (ag (ag H t (.tup [.int u,.ref aP])) aA (.dK (bB (bD ((st.aU.map (·.1)).zip ws)) (om (n:Int)) (.ref t)))) p (.lst [])) m (.dK (mdF (.int st.bc) (.bl st.closed) (.ref p) (.ref aA) (.ref aD) (.ref aM)))=H5 at s z1 z2 z3 z4 z5 ⊢
 exact⟨s,k1,z5,⟨y3,z3⟩,⟨y1,z1⟩,(jb (λ_ _=>rfl) s X.wait).snoc ⟨t,aP,rfl,⟨y4,.inl z4⟩,y2,z2⟩,X.dec.kp rfl s,ia s X.jN,X.je.kp rfl s,Fq (λ_ _=>rfl) (λ_ _=>rfl) s X.ent⟩
end
theorem DF {β:Type}{k:Nat}{y:Nat×β}:∀ {xs:List (Nat×β)},at1 k (xs++[y])=(match at1 k xs with | some x=>some x | none=>if y.1=k then some y else none)
 |[]=>by
  unfold at1;rw[List.nil_append,VB,List.find?_nil]
  by_cases z:y.1=k
  ·rw[bG z,bp z]
  rw[bV z,aZ z]
 |x::xs=>by
  have ih:=DF (k:=k) (y:=y) (xs:=xs);unfold at1 at ih ⊢;rw[List.cons_append,VB,VB]
  by_cases z:x.1=k
  ·rw[bG z]
  rw[bV z];exact ih
theorem Hg {β:Type}{k:Nat}{xs:List (Nat×β)}(h:k∉xs.map (·.1)):at1 k xs=none:=by
 cases e:at1 k xs with
 |none=>rfl
 |some x =>
  obtain⟨h1,h2⟩:=ic e;exact absurd (List.mem_map.mpr ⟨x,h2,h1⟩) h
theorem Ag {β:Type}{k:Nat}{y:Nat×β}{xs:List (Nat×β)}(h:y.1≠k):at1 k (xs++[y])=at1 k xs:=by
 rw[DF];cases at1 k xs with
 |some x=>rfl
 |none=>exact aZ h
theorem w5 {β:Type}{k:Nat}{z:β}{xs:List (Nat×β)}(h:k∉xs.map (·.1)):at1 k (xs++[(k,z)])=some (k,z):=by
 rw[DF,Hg h];exact bp rfl
noncomputable def SI:Rl->Bool | .made=>true | .aJ=>true | _=>false
section
variable{i:Nat}{c c':a6}{H H':Hp}{m aP aA aD aM:Addr}{st:Ch}{ds:List Addr}{ws es:List V}
theorem N5 {mn:Mn}{row:Str}{k:Nat}(hk:dY st k):gg (st.moved mn row) k=gg st k:=by
 have h2:=hk.2;have e1:(st.moved mn row).mo k=st.mo k:=G0 rfl hk;have e2:fA (st.moved mn row) k=fA st k:=by
  unfold fA;cases mn with
  |mat tx =>
   show ((at1 k (st.kept++[(st.made.length+1,([]:List Ed))])).map (·.2)).getD []=_
   rw[Ag (by show st.made.length+1≠k;omega)]
  |_=>rfl
 have e3:z9 (st.moved mn row) k=z9 st k:=by
  unfold z9;cases mn with
  |mat tx =>
   show (at1 k (st.firsts++[(st.made.length+1,tx)])).map (·.2)=_
   rw[Ag (by show st.made.length+1≠k;omega)]
  |_=>rfl
 unfold gg;rw[e1,e2,e3]
theorem N6 {mn:Mn}{row:Str}(hk:st.made.length+1∉st.kept.map (·.1))(hf:st.made.length+1∉st.firsts.map (·.1)):gg (st.moved mn row) (st.made.length+1)=(st.made.length+1,mn,[],(match mn with | .mat tx=>some tx | _=>none)):=by
 have e1:(st.moved mn row).mo (st.made.length+1)=mn:=G1 rfl;unfold gg;rw[e1];cases mn with
 |mat tx =>
  have e2:fA (st.moved (.mat tx) row) (st.made.length+1)=[]:=by
   unfold fA;show ((at1 (st.made.length+1) (st.kept++[(st.made.length+1,([]:List Ed))])).map (·.2)).getD []=_
   rw[w5 hk];rfl
  have e3:z9 (st.moved (.mat tx) row) (st.made.length+1)=some tx:=by
   unfold z9;show (at1 (st.made.length+1) (st.firsts++[(st.made.length+1,tx)])).map (·.2)=_
   rw[w5 hf];rfl
  rw[e2,e3]
 |_ =>
  unfold fA z9;show (_,_,((at1 (st.made.length+1) st.kept).map (·.2)).getD [],(at1 (st.made.length+1) st.firsts).map (·.2))=_
  rw[Hg hk,Hg hf];rfl
theorem MdX.moved (X:MdX i c H m st aP aA aD aM ds ws es){mn:Mn}{row:Str}{t k p:Addr}(hk:st.made.length+1∉st.kept.map (·.1))(hf:st.made.length+1∉st.firsts.map (·.1))(ht:MnT c H mn t)(nk:H k=none)(np:H p=none)(nkp:p≠k) :
  ∃c',aq (Wr i SI) c c' H (ag (ag (ag (ag H k (.lst [])) p (.lst [.ref t,.ref t,.ref k])) aM (.lst (es++[.ref p]))) aP (.lst (st.aJ.map nV++[nV (st.made.length+1)]))) /\
  MdX i c' (ag (ag (ag (ag H k (.lst [])) p (.lst [.ref t,.ref t,.ref k])) aM (.lst (es++[.ref p]))) aP (.lst (st.aJ.map nV++[nV (st.made.length+1)]))) m (st.moved mn row) aP aA aD aM ds ws (es++[.ref p]):=by
 have ak:∀ {a:Addr} {v:HO},H a=some v->a≠k:=λe=>aQ e nk
 have ap:∀ {a:Addr} {v:HO},H a=some v->a≠p:=λe=>aQ e np
 have MP:aM≠aP:=dP X.je.1 X.aJ.1 (λz=>nomatch z)
 have hp2:(ag H k (.lst [])) p=none:=(ax nkp).trans np;have x1:aN (aN c k (some (i,.fP (st.made.length+1)))) p (some (i,.dq (st.made.length+1))) aM=some (i,.made):=by rw[a9 (ap X.je.2),a9 (ak X.je.2)];exact X.je.1
 have x2:aN (aN c k (some (i,.fP (st.made.length+1)))) p (some (i,.dq (st.made.length+1))) aP=some (i,.aJ):=by rw[a9 (ap X.aJ.2),a9 (ak X.aJ.2)];exact X.aJ.1
 have x3:aN (aN c k (some (i,.fP (st.made.length+1)))) p (some (i,.dq (st.made.length+1))) p=some (i,.dq (st.made.length+1)):=bj;have x4:aN (aN c k (some (i,.fP (st.made.length+1)))) p (some (i,.dq (st.made.length+1))) k=some (i,.fP (st.made.length+1)):=by rw[a9 nkp.symm,bj]
 refine⟨aN (aN c k (some (i,.fP (st.made.length+1)))) p (some (i,.dq (st.made.length+1))),?_⟩;have s:aq (Wr i SI) c (aN (aN c k (some (i,.fP (st.made.length+1)))) p (some (i,.dq (st.made.length+1)))) H (ag (ag (ag (ag H k (.lst [])) p (.lst [.ref t,.ref t,.ref k])) aM (.lst (es++[.ref p]))) aP (.lst (st.aJ.map nV++[nV (st.made.length+1)]))) :=
  (((aq.new Wr.nn nk).trans (aq.new Wr.nn hp2)).trans (aq.ag Wr.nn ⟨.made,x1,rfl⟩)).trans (aq.ag Wr.nn ⟨.aJ,x2,rfl⟩)
 generalize aN (aN c k (some (i,.fP (st.made.length+1)))) p (some (i,.dq (st.made.length+1)))=c3 at s x1 x2 x3 x4 ⊢;have z1:(ag (ag (ag (ag H k (.lst [])) p (.lst [.ref t,.ref t,.ref k])) aM (.lst (es++[.ref p]))) aP (.lst (st.aJ.map nV++[nV (st.made.length+1)]))) aM=some (.lst (es++[.ref p])):=by rw[ax MP,ae]
 have z2:(ag (ag (ag (ag H k (.lst [])) p (.lst [.ref t,.ref t,.ref k])) aM (.lst (es++[.ref p]))) aP (.lst (st.aJ.map nV++[nV (st.made.length+1)]))) aP=some (.lst ((st.aJ++[st.made.length+1]).map nV)):=by rw[ae,kt];rfl
 have z3:(ag (ag (ag (ag H k (.lst [])) p (.lst [.ref t,.ref t,.ref k])) aM (.lst (es++[.ref p]))) aP (.lst (st.aJ.map nV++[nV (st.made.length+1)]))) p=some (.lst [.ref t,.ref t,.ref k]):=by rw[ax (ap X.aJ.2).symm,ax (ap X.je.2).symm,ae]
 have z4:(ag (ag (ag (ag H k (.lst [])) p (.lst [.ref t,.ref t,.ref k])) aM (.lst (es++[.ref p]))) aP (.lst (st.aJ.map nV++[nV (st.made.length+1)]))) k=some (.lst []):=by rw[ax (ak X.aJ.2).symm,ax (ak X.je.2).symm,ax nkp.symm,ae]
 generalize ag (ag (ag (ag H k (.lst [])) p (.lst [.ref t,.ref t,.ref k])) aM (.lst (es++[.ref p]))) aP (.lst (st.aJ.map nV++[nV (st.made.length+1)]))=H5 at s z1 z2 z3 z4 ⊢;have kk:=kE rfl s X.co X.ob;refine⟨s,kk.1,kk.2,⟨x2,z2⟩,X.aU.kp rfl s,jb (λ_ _=>rfl) s X.wait,X.dec.kp rfl s,ia s X.jN,⟨x1,z1⟩,?_⟩
 rw[Mh (st:=st) (st':=st.moved mn row) (by show (st.made++[mn]).length=_;rw[ki];rfl) λj hj=>N5 hj,N6 hk hf]
 refine(Fq (λ_ _=>rfl) (λ_ _=>rfl) s X.ent).snoc ⟨p,t,t,k,[],rfl,⟨x3,z3⟩,ht.step s,λtx e=>?_,⟨x4,z4⟩,.nil⟩
 cases mn with
 |mat ty =>
  have e':some ty=some tx:=e;cases e';exact ht.step s
 |_=>cases e
theorem MdX.waitOf (X:MdX i c H m st aP aA aD aM ds ws es){n:Nat}{x:Nat×Int×List Nat}(hx:at1 n st.aU=some x):∃t p,d6 (bD ((st.aU.map (·.1)).zip ws)) (om (n:Int))=some (.ref t)/\ck c H t [.int x.2.1,.ref p]/\bT i c H (.eT n) p (x.2.2.map nV):=by
 obtain⟨v,h1,t,p,rfl,h2,h3⟩:=X.wait.val hx;rw[(ic hx).1]at h3;exact⟨t,p,h1,h2,h3⟩
theorem MdX.oW (X:MdX i c H m st aP aA aD aM ds ws es){n:Nat}{p:Addr}{pl:List Nat}(hl:bT i c H (.eT n) p (pl.map nV)) :
  ∃c' ws',aq (Wr i (IK n)) c c' H (ag (ag H aA (.dK (gE (bD ((st.aU.map (·.1)).zip ws)) (om (n:Int))))) m (.dK (mdF (.int st.bc) (.bl st.closed) (.ref p) (.ref aA) (.ref aD) (.ref aM)))) /\
  MdX i c' (ag (ag H aA (.dK (gE (bD ((st.aU.map (·.1)).zip ws)) (om (n:Int))))) m (.dK (mdF (.int st.bc) (.bl st.closed) (.ref p) (.ref aA) (.ref aD) (.ref aM)))) m (st.oW n pl) p aA aD aM ds ws' es:=by
 have oA:m≠aA:=dP X.co X.aU.1 (λz=>nomatch z)
 have op:m≠p:=dP X.co hl.1 (λz=>nomatch z)
 have Ap:aA≠p:=dP X.aU.1 hl.1 (λz=>nomatch z)
 obtain⟨ws',e1,e2⟩:=X.wait.drop (n:=n);refine⟨aN c p (some (i,.aJ)),ws',?_⟩;have s:aq (Wr i (IK n)) c (aN c p (some (i,.aJ))) H (ag (ag H aA (.dK (gE (bD ((st.aU.map (·.1)).zip ws)) (om (n:Int))))) m (.dK (mdF (.int st.bc) (.bl st.closed) (.ref p) (.ref aA) (.ref aD) (.ref aM)))) :=
  ((aq.ag Wr.nn ⟨.aU,X.aU.1,rfl⟩).trans (aq.ag Wr.nn ⟨.ob,X.co,rfl⟩)).trans (aq.role Wr.nn ⟨.eT n,hl.1,bG rfl⟩)
 refine⟨s,by rw[a9 op];exact X.co,ae,⟨bj,by rw[ax op.symm,ax Ap.symm];exact hl.2⟩,⟨by rw[a9 Ap];exact X.aU.1,by rw[ax oA.symm,ae,e1];rfl⟩,jb (λx hx=>bV (eM (List.mem_filter.mp hx).2)) s e2,X.dec.kp rfl s,ia s X.jN,X.je.kp rfl s,Fq (λ_ _=>rfl) (λ_ _=>rfl) s X.ent⟩
end
def Q0 (i:Nat):Sp:=λvs H Q _=>∃(m t:Addr) (c:a6) (st:Ch) (mn:Mn) (N:Nat),vs=[.ref m,.ref t]/\cQ i c H m st/\MnT c H mn t/\av N st/\N<=900/\wW (st.aJ.map st.mo) mn/\MOk N mn /\
 ∀c' H',aq (cw i) c c' H H'->cQ i c' H' m (st.carry mn)->Q .non H'
theorem in2:∀k,k < 8->(if false=true then !inV (V.str (nm k)) [V.str (ar "put off"),V.str (ar "lay")] else inV (V.str (nm k)) [V.str (ar "put off"),V.str (ar "lay")])=decide (k=3\/k=5):=by trivial
set_option maxHeartbeats 4000000 in
theorem JT (T:Txt w.params K mg A){i:Nat}:aC P w K mg base a5 2 A.K4 A.BN ["_law_m","_law_motion"] (Q0 i):=by
 refine T.EU.F.ok iC (by left) λ_ _ _ _ H _ Q E hr h=>?_
 obtain⟨m,t,c,st,mn,N,rfl,hm,hmt,I,hN,uN,AS,q⟩:=h;obtain⟨aP,aA,aD,aM,ds,ws,es,X⟩:=hm.ex;have bt:=hr.u1;have gL:=hr.units;have sz:fu=16777216:=by decide
 refine⟨_,(ah (bf (aI bz (aO aY (pv 1) aj) au (aL _))
 (ah (aV (i:=2) iC.nd (aO br (bx bt (pv 0) au) (bb jg (aO br (bx bt (pv 0) au) aj) aj)))
 (ah (rZ (bu (aa au (aa (az (Ck T) hr T.y9 (aa (aO aY (aO br (pv 2) aj) aj) (aa (aO aY (pv 1) aj) ai))) ai))) (F5 (pv 2) aj set_list))
 (ao (bw (dE tu UZ U0 cz (aO br (pv 2) aj) (aa (aO aY (pv 1) aj) ai))))))
 aK)
 (ah (bf (aI bz (aO aY (pv 1) aj) au (aL _))
 (ah (aV (i:=3) iC.nd (aO br (bx bt (pv 0) au) (bb jg (aO br (bx bt (pv 0) au) (kQ gO aj)) aj)))
 (ah (rZ (aO aY (aO br (pv 3) aj) aj) (rY rfl (d0 (b9 (i:=4) iC.nd) (d0 (b9 (i:=5) iC.nd) (d0 (b9 (i:=6) iC.nd) mU)))))
 (ao (rZ (bu (aa au (aa (bu (aa (pv 4) (aa (pv 5) (aa (dE Vj VU VW m7 au (aa (az (Ck T) hr T.y9 (aa (az (nZ T) hr T.iH (aa (pv 6) ai)) (aa (aO aY (pv 1) aj) ai))) ai)) ai)))) ai))) (F5 (pv 3) aj set_list)))))
 aK)
 (ah (bf (aI bz (aO aY (pv 1) aj) au (aL _))
 (ao (fX bt (pv 0) au og rfl))
 aK)
 (ah (bf (aI bz (aO aY (pv 1) aj) au (aL _))
 (ao (fX bt (pv 0) au (bb cT (bx bt (pv 0) au) aj) rfl))
 aK)
 (ao (bf (aI fV (aO aY (pv 1) aj) (bu (aa au (aa au ai))) rfl)
 (ah (aV (i:=7) iC.nd (aO aY (bb HM (pv 1) (bu (aa (bx bt (pv 0) au) ai))) aj))
 (ah (fX bt (bx bt (pv 0) au) (aO br (bx bt (pv 0) au) aj) (bu (aa (pv 7) (aa (bx bt (pv 0) au) ai))) rfl)
 (ao (fX bt (pv 0) au (bK ai) rfl))))
 aK)))))),?_⟩
 symm;refine aS λGa hGa=>?_
 have Q1:=hmt;obtain⟨ct,v,hvt,hvv⟩:=hmt;have ht:aW K H t (rowOf mn.k v):=aW.of hvt;have lM:=I.lm;have kc:∀ {v0 v1 v2 v3 v4 v5:V},(mdF v0 v1 v2 v3 v4 v5).length < fu:=by intros;show 6 < fu;decide
 refine hGa ?_;cases mn with
 |mat tx =>
  refine a8 rfl ht rfl ⟨rfl,a4 (cA 0 (by decide)) (a8 rfl ht rfl ⟨rfl,a4 (cE 0 (by decide)) (a8 rfl ht rfl ⟨rfl,a4 (ib 0 (by decide)) (a8 rfl ht rfl ⟨rfl,a4 (kH 0 (by decide)) (a8 rfl ht rfl ⟨(sl 2),λu hu=>⟨u,_,rfl,.inr (aW.of ae),rfl,rfl,a4 (in2 0 (by decide)) ?_⟩⟩)⟩)⟩)⟩)⟩
  exact q c _ (aq.same a7 (aw hu)) (X.same (aw hu)).at
 |pnt z =>
  refine a8 rfl ht rfl ⟨rfl,a4 (cA 7 (by decide)) (a8 rfl ht rfl ⟨rfl,a4 (cE 7 (by decide)) (a8 rfl ht rfl ⟨rfl,a4 (ib 7 (by decide)) (a8 rfl ht rfl ⟨rfl,a4 (kH 7 (by decide)) (a8 rfl ht rfl ⟨(sl 2),λu hu=>⟨u,_,rfl,.inr (aW.of ae),rfl,rfl,a4 (in2 7 (by decide)) ?_⟩⟩)⟩)⟩)⟩)⟩
  exact q c _ (aq.same a7 (aw hu)) (X.same (aw hu)).at
 |cls =>
  refine a8 rfl ht rfl ⟨rfl,a4 (cA 4 (by decide)) (a8 rfl ht rfl ⟨rfl,a4 (cE 4 (by decide)) (a8 rfl ht rfl ⟨rfl,cg (ib 4 (by decide)) ⟨_,rfl,m,_,rfl,o5.k (k:=UU (ar "closed")) X.ob kc,?_⟩⟩)⟩)⟩
  rw[z6];refine aS λGb hGb=>?_
  obtain⟨s1,X1⟩:=X.attr st.bc true;have ht1:=aW.of (K:=K) (Q1.step s1.gk).2.choose_spec.1;have Ut:=Q1.step s1.gk;obtain⟨_,v1,hv1,_⟩:=Ut;have ht1:aW K (ag H m (.dK (mdF (.int st.bc) (.bl true) (.ref aP) (.ref aA) (.ref aD) (.ref aM)))) t (rowOf 4 v1):=aW.of hv1;refine hGb ?_;generalize ag H m (.dK (mdF (.int st.bc) (.bl true) (.ref aP) (.ref aA) (.ref aD) (.ref aM)))=H1 at s1 X1 ht1 ⊢;refine a8 rfl ht1 rfl ⟨rfl,a4 (kH 4 (by decide)) (a8 rfl ht1 rfl ⟨(sl 2),λu hu=>⟨u,_,rfl,.inr (aW.of ae),rfl,rfl,a4 (in2 4 (by decide)) ?_⟩⟩)⟩
  exact q c _ (s1.gk.trans (aq.same a7 (aw hu))) (X1.same (aw hu)).at
 |rst =>
  refine a8 rfl ht rfl ⟨rfl,a4 (cA 6 (by decide)) (a8 rfl ht rfl ⟨rfl,a4 (cE 6 (by decide)) (a8 rfl ht rfl ⟨rfl,a4 (ib 6 (by decide)) (a8 rfl ht rfl ⟨rfl,cg (kH 6 (by decide)) (cv rfl X.gs ⟨_,_,rfl,rfl,_,rfl,m,_,rfl,o5.k (k:=UU (ar "sitting")) X.ob kc,?_⟩)⟩)⟩)⟩)⟩
  rw[Fp];refine aS λGc hGc=>?_
  obtain⟨s1,X1⟩:=X.attr (st.bc+1) st.closed;obtain⟨_,v1,hv1,_⟩:=Q1.step s1.gk;have ht1:aW K (ag H m (.dK (mdF (.int (st.bc+1)) (.bl st.closed) (.ref aP) (.ref aA) (.ref aD) (.ref aM)))) t (rowOf 6 v1):=aW.of hv1;refine hGc ?_;dsimp only;generalize ag H m (.dK (mdF (.int (st.bc+1)) (.bl st.closed) (.ref aP) (.ref aA) (.ref aD) (.ref aM)))=H1 at s1 X1 ht1 ⊢;refine a8 rfl ht1 rfl ⟨(sl 2),λu hu=>⟨u,_,rfl,.inr (aW.of ae),rfl,rfl,a4 (in2 6 (by decide)) ?_⟩⟩
  exact q c _ (s1.gk.trans (aq.same a7 (aw hu))) (X1.same (aw hu)).at
 |chg e =>
  refine aS λGd hGd=>?_
  obtain⟨tx,h1,hf⟩:=uN;obtain⟨k,e1,e2⟩:=NS h1;have hn:k∈st.aJ:=by rw[e1];exact eg
  have hno:=I.cF k hn;have htx:=I.vF hno;rw[e2]at htx;have Ul:tx.length<=13+N:=htx.1;obtain⟨x,hx,hxl⟩:=I.keptAt hno (by rw[e2];rfl)
  have e3:st.carry (.chg e)=st.LU k tx e:=by unfold Ch.carry;rw[e1];dsimp only;rw[e2]
  rw[e3]at q;have LZ:EdB (12+N) e:=AS;obtain⟨te,rfl,hte⟩:=hvv;have h0:atI (st.aJ.map nV) 0=some (nV k):=by rw[e1];rfl
  have h11:=hno.1;obtain⟨w,ev,p,t1,t2,kk,ts,rfl,z1,z2,z3,z4,z5⟩:=X.ent.get (jP hno);have ea:atI es ((k:Int) - 1)=some (.ref p):=by
   rw[show (k:Int) - 1=((k - 1:Nat):Int) by omega]
   exact cS ev
  have z1':bT i c H (.dq k) p [.ref t1,.ref t2,.ref kk]:=z1;have z4':bT i c H (.fP k) kk (ts.map V.ref):=z4;have z2':MnT c H (.mat tx) t1:=by
   have:(gg st k).2.1=.mat tx:=e2;rw[this]at z2;exact z2
  obtain⟨_,v1,hv1,L,rfl,hL⟩:=z2';refine hGd ?_;refine a8 rfl ht rfl ⟨rfl,cg (cA 1 (by decide)) ?_⟩
  refine cv rfl X.gm (cv rfl X.gp ⟨aP,_,_,_,rfl,rfl,ay.of X.aJ.2,h0,_,_,rfl,rfl,aM,_,_,_,rfl,rfl,ay.of X.je.2,ea,?_⟩);refine a8 rfl (ay.of z1'.2) rfl ⟨t1,_,_,_,rfl,rfl,aW.of hv1,rfl,a8 rfl ht rfl ⟨L,te,tx,e,rfl,ay.of hL.2,by omega,hte.sq,LZ.ok (by omega),hf,λpl H1 s1 npl hpl=>⟨(sl 2),λtn htn=>?_⟩⟩⟩
  have s2:=s1.new (o:=.tup [V.str (ar "matter"),.ref pl]) htn;have ntn:H tn=none:=same_none s1 htn;have ntp:pl≠tn:=aQ hpl htn;have X2:=X.cl s2;have st2:aq (cw i) c (bP c H) H (ag H1 tn (.tup [V.str (ar "matter"),.ref pl])):=aq.cl a7 s2;have hmn:MnT (bP c H) (ag H1 tn (.tup [V.str (ar "matter"),.ref pl])) (.mat (bZ tx e)) tn:=⟨bS ntn,.ref pl,ae,pl,rfl,bS npl,(ax ntp).trans hpl⟩;have w1:=z1'.keep (W:=λ_=>False) id (aq.cl id s2)
  have w4:=z4'.keep (W:=λ_=>False) id (aq.cl id s2)
  have Q3:=hte.step st2;have hv2:=gn st2 ct hvt;generalize bP c H=c2 at X2 st2 hmn w1 w4 Q3 hv2;generalize ag H1 tn (.tup [V.str (ar "matter"),.ref pl])=H2 at X2 st2 hmn w1 w4 Q3 hv2 ⊢;refine⟨_,rfl,p,_,0,0,rfl,rfl,w1.2,rfl,?_⟩;rw[show [V.ref t1,V.ref t2,V.ref kk].set 0 (V.ref tn)=[V.ref tn,V.ref t2,V.ref kk] from rfl]
  obtain⟨s3,X3⟩:=X2.Mj hno ev w1 hmn;have w1b:bT i c2 (ag H2 p (.lst [.ref tn,.ref t2,.ref kk])) (.dq k) p [.ref tn,.ref t2,.ref kk]:=⟨w1.1,ae⟩;have w4b:=w4.kp (p:=QZ k) rfl s3;have SJ:=Q3.step s3.gk;have hv3:=gn s3 hv2.1 hv2.2;have hkl:ts.length<=1000:=by
   have h1:=z5.len;have h2:(gg st k).2.2.1=x.2:=by show fA st k=x.2;unfold fA;rw[hx];rfl
   rw[h2]at h1;omega
  have ev3:es[k - 1]?=some (.ref p):=ev;generalize ag H2 p (.lst [.ref tn,.ref t2,.ref kk])=H3 at s3 X3 w1b w4b SJ hv3 ⊢;refine a8 rfl (ay.of w1b.2) rfl ⟨.inl ⟨rfl,_,ay.of w4b.2⟩,a8 rfl (aW.of hv3.2) rfl ⟨kk,_,_,rfl,rfl,w4b.2,by rw[bo];omega,?_⟩⟩
  obtain⟨s4,X4⟩:=X3.Dw (n:=k) (e:=e) (x:=x) ⟨hno.1,by show k<=(st.made.set _ _).length;rw[V0];exact hno.2⟩ hx ev3 w1b w4b SJ
  have hv4:=gn s4 hv3.1 hv3.2;have fin:=((st2.trans s3.gk).trans s4.gk);generalize ag H3 kk (.lst (ts.map V.ref++[.ref te]))=H4 at s4 X4 hv4 fin ⊢;have ht4:aW K H4 t (rowOf 1 (.ref te)):=aW.of hv4.2;refine a8 rfl ht4 rfl ⟨rfl,a4 (cE 1 (by decide)) (a8 rfl ht4 rfl ⟨rfl,a4 (ib 1 (by decide)) (a8 rfl ht4 rfl ⟨rfl,a4 (kH 1 (by decide)) (a8 rfl ht4 rfl ⟨(sl 2),λu hu=>⟨u,_,rfl,.inr (aW.of ae),rfl,rfl,a4 (in2 1 (by decide)) ?_⟩⟩)⟩)⟩)⟩
  exact q c2 _ (fin.trans (aq.same a7 (aw hu))) (X4.same (aw hu)).at
 |mnd f =>
  refine aS λGe hGe=>?_
  obtain⟨tx,e,h1,hk,hf⟩:=uN;obtain⟨a,b,e1,e2,e3⟩:=QH h1;have hb:b∈st.aJ:=by rw[e1];exact ma _ eg
  have hno:=I.cF b hb;have he:=I.vF hno;rw[e3]at he;have he':EdB (12+N) e:=he;obtain⟨w1,w2⟩:=he'.words;have e4:st.carry (.mnd f)=st.LV b e (bZ (R.bL e.th) f):=by unfold Ch.carry;rw[e1];show (match st.mo b with | .chg e=>_ | _=>st)=_;rw[e3];rfl
  rw[e4]at q;obtain⟨hf1,w0,hw0,hw1⟩:=AS;have l1:=qP (R.bL e.th) f;have l2:=R.Fd (sW w1 (by rw[hw0];exact hw1):∀w∈bZ (R.bL e.th) f,R.jr w)
  have heo:q0 e:=he'.ok (by omega)
  obtain⟨te,rfl,hte⟩:=hvv;have h0:atI (st.aJ.map nV) (-1)=some (nV b):=by rw[e1];exact fG [nV a] (nV b)
  have h11:=hno.1;obtain⟨w,ev,p,t1,t2,kk,ts,rfl,z1,z2,z3,z4,z5⟩:=X.ent.get (jP hno);have ea:atI es ((b:Int) - 1)=some (.ref p):=by
   rw[show (b:Int) - 1=((b - 1:Nat):Int) by omega]
   exact cS ev
  have z1':bT i c H (.dq b) p [.ref t1,.ref t2,.ref kk]:=z1;have z2':MnT c H (.chg e) t1:=by
   have:(gg st b).2.1=.chg e:=e3;rw[this]at z2;exact z2
  obtain⟨_,v1,hv1,tc,rfl,htc⟩:=z2';have er:fF e=[V.str (kn e.k),.int e.at_,.str e.th]:=by
   obtain⟨k,a,th⟩:=e;have h3:=heo.k3;dsimp only at h3 hk ⊢;rcases h3 with rfl | rfl | rfl
   ·rfl
   ·exact absurd rfl hk
   rfl
  have Uu:aW K H tc [V.str (kn e.k),.int e.at_,.str e.th]:=by rw[<-er];exact htc.sq
  refine hGe ?_;refine a8 rfl ht rfl ⟨rfl,a4 (cA 2 (by decide)) (a8 rfl ht rfl ⟨rfl,cg (cE 2 (by decide)) ?_⟩)⟩
  refine⟨_,rfl,m,_,rfl,X.gm,_,rfl,m,_,rfl,X.gp,_,rfl,aP,_,_,_,rfl,rfl,ay.of X.aJ.2,h0,_,_,rfl,rfl,aM,_,_,_,rfl,rfl,ay.of X.je.2,ea,?_⟩;refine⟨_,rfl,p,_,_,_,rfl,rfl,ay.of z1'.2,rfl,t1,_,_,_,rfl,rfl,aW.of hv1,rfl,tc,[V.str (kn e.k),.int e.at_,.str e.th],rfl,Uu,rfl,?_⟩;refine⟨_,_,rfl,_,_,rfl,_,_,rfl,rfl,?_⟩;refine⟨_,rfl,_,rfl,rfl,_,rfl,e.th,rfl,?_,λp1 hp1=>?_⟩
  ·have:=heo.th.len;omega
  have s1:=aw (o:=.lst ((R.bL e.th).map V.str)) hp1;have hb1:(R.bl1:Str).length=1:=by trivial
  refine a8 rfl (bO s1 ht) rfl ⟨p1,te,R.bL e.th,f,rfl,ay.of ae,by omega,bO s1 hte.sq,hf1.ok (by omega),hf,λpl H1 s2 npl hpl=>?_⟩
  have s12:=s1.trans s2;refine⟨R.bl1,pl,bZ (R.bL e.th) f,rfl,rfl,ay.of hpl,by rw[hb1];omega,(sl 3),λt3 ht3=>⟨(sl 2),λtn htn=>?_⟩⟩
  have s3:=s12.new (o:=.tup [V.str (kn e.k),.int e.at_,.str (kx R.bl1 (bZ (R.bL e.th) f))]) ht3;have s4:=s3.new (o:=.tup [V.str (ar "change"),.ref t3]) htn;have nt3:H t3=none:=same_none s12 ht3;have ntn:H tn=none:=same_none s3 htn;have n3n:t3≠tn:=aQ ae htn;have er2:fF ⟨e.k,e.at_,kx R.bl1 (bZ (R.bL e.th) f)⟩=[V.str (kn e.k),.int e.at_,.str (kx R.bl1 (bZ (R.bL e.th) f))]:=by
   obtain⟨k,a,th⟩:=e;have h3:=heo.k3;dsimp only at h3 hk ⊢;rcases h3 with rfl | rfl | rfl
   ·rfl
   ·exact absurd rfl hk
   rfl
  have X2:=X.cl s4;have st2:aq (cw i) c (bP c H) H _:=aq.cl a7 s4;have hmn:MnT (bP c H) (ag (ag H1 t3 (.tup [V.str (kn e.k),.int e.at_,.str (kx R.bl1 (bZ (R.bL e.th) f))])) tn (.tup [V.str (ar "change"),.ref t3])) (.chg ⟨e.k,e.at_,kx R.bl1 (bZ (R.bL e.th) f)⟩) tn :=
   ⟨bS ntn,.ref t3,ae,t3,rfl,bS nt3,.inl (by rw[ax n3n,ae,er2])⟩
  have w1:=z1'.keep (W:=λ_=>False) id (aq.cl id s4)
  have hv2:=gn st2 ct hvt;generalize bP c H=c2 at X2 st2 hmn w1 hv2;generalize ag (ag H1 t3 (.tup [V.str (kn e.k),.int e.at_,.str (kx R.bl1 (bZ (R.bL e.th) f))])) tn (.tup [V.str (ar "change"),.ref t3])=H2 at X2 st2 hmn w1 hv2 ⊢;refine⟨_,rfl,p,_,0,0,rfl,rfl,w1.2,rfl,?_⟩;rw[show [V.ref t1,V.ref t2,V.ref kk].set 0 (V.ref tn)=[V.ref tn,V.ref t2,V.ref kk] from rfl]
  obtain⟨s5,X3⟩:=X2.Mj hno ev w1 hmn;have hv3:=gn s5 hv2.1 hv2.2;have fin:=st2.trans s5.gk;generalize ag H2 p (.lst [.ref tn,.ref t2,.ref kk])=H3 at s5 X3 hv3 fin ⊢;have ht3:aW K H3 t (rowOf 2 (.ref te)):=aW.of hv3.2;refine a8 rfl ht3 rfl ⟨rfl,a4 (ib 2 (by decide)) (a8 rfl ht3 rfl ⟨rfl,a4 (kH 2 (by decide)) (a8 rfl ht3 rfl ⟨(sl 2),λu hu=>⟨u,_,rfl,.inr (aW.of ae),rfl,rfl,a4 (in2 2 (by decide)) ?_⟩⟩)⟩)⟩
  exact q c2 _ (fin.trans (aq.same a7 (aw hu))) (X3.same (aw hu)).at
 |off u =>
  refine aS λGf hGf=>?_
  obtain⟨⟨tx,r,h1⟩,_⟩:=uN;obtain⟨k,r',e1,_⟩:=JQ h1;have e3:st.carry (.off u)=st.kO k u:=by unfold Ch.carry;rw[e1]
  rw[e3]at q;have hv':v=.int u:=hvv;subst hv';have hla:=I.la;have hkn:=I.Dz (n:=k) (by rw[e1];exact eg)
  have h0:atI (st.aJ.map nV) 0=some (nV k):=by rw[e1];exact cS (j:=0) rfl
  refine hGf ?_;refine a8 rfl ht rfl ⟨rfl,a4 (cA 3 (by decide)) (a8 rfl ht rfl ⟨rfl,a4 (cE 3 (by decide)) (a8 rfl ht rfl ⟨rfl,a4 (ib 3 (by decide)) (a8 rfl ht rfl ⟨rfl,a4 (kH 3 (by decide)) (a8 rfl ht rfl ⟨(sl 2),λu1 bt=>⟨u1,_,rfl,.inr (aW.of ae),rfl,rfl,cg (in2 3 (by decide)) ?_⟩⟩)⟩)⟩)⟩)⟩
  have s1:=aw (o:=.tup [V.str (ar "put off"),V.str (ar "lay")]) bt;refine⟨_,rfl,cv rfl (.inl ⟨_,UU (ar "sitting"),.inl (s1 _ _ X.ob),rfl,lA.symm⟩) ⟨(sl 1),λt2 ht2=>?_⟩⟩
  have s2:=s1.new (o:=.tup [V.int st.bc]) ht2;refine⟨t,t2,_,_,rfl,rfl,bO s2 ht,aW.of ae,U5 _ _,(sl 3),λz=>absurd z (U5 _ _),λ_ t3 ht3=>?_⟩
  have s3:=s2.new (o:=.tup (rowOf 3 (.int u)++[V.int st.bc])) ht3;refine⟨t3,_,_,_,rfl,rfl,aW.of ae,rfl,?_⟩;have X3:=X.same s3;refine⟨_,rfl,cv rfl X3.gp ⟨(sl 2),λt4 ht4=>?_⟩⟩
  have oA:m≠aA:=dP X.co X.aU.1 (λz=>nomatch z)
  have s4:=aw (o:=.tup [V.int u,.ref aP]) ht4;refine cv rfl (.inl ⟨_,UU (ar "aside"),.inl (s4 _ _ X3.ob),rfl,vG.symm⟩) (cv rfl (.inl ⟨_,UU (ar "pile"),.inl (s4 _ _ X3.ob),rfl,qp.symm⟩) ⟨aP,_,_,_,rfl,rfl,ay.of (s4 _ _ X3.aJ.2),h0,aA,_,rfl,o5.k (k:=om (k:Int)) (s4 _ _ X3.aU.2) ?_,?_⟩)
  ·unfold bD;rw[bo,V1,bo];omega
  refine⟨(sl 0),λp5 hp5=>?_⟩
  refine aS λGq gq=>?_
  have npA:p5≠aA:=λz=>by rw[z,ae]at hp5;cases hp5
  have npt:p5≠t4:=λz=>by rw[ax npA,z,ae]at hp5;cases hp5
  have hp1:=hp5;rw[ax npA,ax npt]at hp1;obtain⟨c',s6,X6⟩:=X3.kO (u:=u) ht4 hp1 npt hkn;refine gq ?_;refine⟨_,rfl,m,_,rfl,o5.k (k:=UU (ar "pile")) ((ax (aQ X3.ob hp1)).trans ((ax oA).trans (s4 _ _ X3.ob))) kc,?_⟩;rw[z7];exact q c' _ ((aq.same a7 s3).trans s6.gk) X6.at
 |lay =>
  refine aS λGh hGh=>?_
  obtain⟨⟨tx,r,h1⟩,_⟩:=uN;obtain⟨k,r',e1,_⟩:=JQ h1;have e3:st.carry .lay=st.kO k st.bc:=by unfold Ch.carry;rw[e1]
  rw[e3]at q;have hla:=I.la;have hkn:=I.Dz (n:=k) (by rw[e1];exact eg)
  have h0:atI (st.aJ.map nV) 0=some (nV k):=by rw[e1];exact cS (j:=0) rfl
  refine hGh ?_;refine a8 rfl ht rfl ⟨rfl,a4 (cA 5 (by decide)) (a8 rfl ht rfl ⟨rfl,a4 (cE 5 (by decide)) (a8 rfl ht rfl ⟨rfl,a4 (ib 5 (by decide)) (a8 rfl ht rfl ⟨rfl,a4 (kH 5 (by decide)) (a8 rfl ht rfl ⟨(sl 2),λu1 bt=>⟨u1,_,rfl,.inr (aW.of ae),rfl,rfl,cg (in2 5 (by decide)) ?_⟩⟩)⟩)⟩)⟩)⟩
  have s1:=aw (o:=.tup [V.str (ar "put off"),V.str (ar "lay")]) bt;refine⟨_,rfl,cv rfl (.inl ⟨_,UU (ar "sitting"),.inl (s1 _ _ X.ob),rfl,lA.symm⟩) ⟨(sl 1),λt2 ht2=>?_⟩⟩
  have s2:=s1.new (o:=.tup [V.int st.bc]) ht2;refine⟨t,t2,_,_,rfl,rfl,bO s2 ht,aW.of ae,U5 _ _,(sl 2),λz=>absurd z (U5 _ _),λ_ t3 ht3=>?_⟩
  have s3:=s2.new (o:=.tup (rowOf 5 v++[V.int st.bc])) ht3;refine⟨t3,_,_,_,rfl,rfl,aW.of ae,rfl,?_⟩;have X3:=X.same s3;refine⟨_,rfl,cv rfl X3.gp ⟨(sl 2),λt4 ht4=>?_⟩⟩
  have oA:m≠aA:=dP X.co X.aU.1 (λz=>nomatch z)
  have s4:=aw (o:=.tup [V.int st.bc,.ref aP]) ht4;refine cv rfl (.inl ⟨_,UU (ar "aside"),.inl (s4 _ _ X3.ob),rfl,vG.symm⟩) (cv rfl (.inl ⟨_,UU (ar "pile"),.inl (s4 _ _ X3.ob),rfl,qp.symm⟩) ⟨aP,_,_,_,rfl,rfl,ay.of (s4 _ _ X3.aJ.2),h0,aA,_,rfl,o5.k (k:=om (k:Int)) (s4 _ _ X3.aU.2) ?_,?_⟩)
  ·unfold bD;rw[bo,V1,bo];omega
  refine⟨(sl 0),λp5 hp5=>?_⟩
  refine aS λGi hGi=>?_
  have npA:p5≠aA:=λz=>by rw[z,ae]at hp5;cases hp5
  have npt:p5≠t4:=λz=>by rw[ax npA,z,ae]at hp5;cases hp5
  have hp1:=hp5;rw[ax npA,ax npt]at hp1;obtain⟨c',s6,X6⟩:=X3.kO (u:=st.bc) ht4 hp1 npt hkn;refine hGi ?_;refine⟨_,rfl,m,_,rfl,o5.k (k:=UU (ar "pile")) ((ax (aQ X3.ob hp1)).trans ((ax oA).trans (s4 _ _ X3.ob))) kc,?_⟩;rw[z7];exact q c' _ ((aq.same a7 s3).trans s6.gk) X6.at
def vH (c:a6)(H:Hp)(t:Addr)(xs:List V):Prop:=c t=none/\H t=some (.tup xs)
def b6 (c:a6)(H:Hp):R.bI->Addr->Prop
 | .mat cs,t=>∃L,vH c H t [.str (ar "matter"),.ref L]/\c L=none/\H L=some (.lst ((cs.map (kx R.bl1)).map V.str))
 | .ed m k j ws,t=>∃e,vH c H t [.str (R.kEd m),.ref e]/\ck c H e (R.edR k j (kx R.bl1 ws))
 | .pt ws,t=>vH c H t [.str (ar "point"),.str (kx R.bl1 ws)]
 | .nums kd ns,t=>vH c H t (.str kd::ns.map V.int)
theorem vH.c {i:Nat}{c:a6}{H:Hp}{t:Addr}{xs:List V}(h:vH c H t xs):vC i c H t xs:=⟨by rw[h.1];exact a7,h.2⟩
theorem vH.step {W:Option (Nat×Rl)->Prop}{c c':a6}{H H':Hp}{t:Addr}{xs:List V}(s:aq W c c' H H')(h:vH c H t xs):vH c' H' t xs:=gn s h.1 h.2
theorem b6.step {W:Option (Nat×Rl)->Prop}{c c':a6}{H H':Hp}{t:Addr}(s:aq W c c' H H'):∀ {d:R.bI},b6 c H d t->b6 c' H' d t
 | .mat _,⟨L,a,b1,b2⟩=>⟨L,a.step s,gn s b1 b2⟩
 | .ed _ _ _ _,⟨e,a,b⟩=>⟨e,a.step s,b.step s⟩
 | .pt _,h=>vH.step s h
 | .nums _ _,h=>vH.step s h
theorem b6.c {i:Nat}{c:a6}{H:Hp}{t:Addr}:∀ {d:R.bI},b6 c H d t->oX i c H d t
 | .mat _,⟨L,a,b1,b2⟩=>⟨L,a.c,by rw[b1];exact a7,b2⟩
 | .ed _ _ _ _,⟨e,a,b⟩=>⟨e,a.c,b⟩
 | .pt _,h=>vH.c h
 | .nums _ _,h=>vH.c h
theorem b6.kind {c:a6}{H:Hp}{t:Addr}:∀ {d:R.bI},b6 c H d t->∃xs,H t=some (.tup (.str (R.fO d)::xs))
 | .mat _,⟨_,a,_⟩=>⟨_,a.2⟩
 | .ed _ _ _ _,⟨_,a,_⟩=>⟨_,a.2⟩
 | .pt _,h=>⟨_,h.2⟩
 | .nums _ _,h=>⟨_,h.2⟩
def Ch.ended (st:Ch)(pre:List Nat)(n:Nat)(wd:Str):Ch:=(if wd=zT then (st.popped pre n wd).carry (st.mo n) else st.popped pre n wd).opened
def N7 (i:Nat):Sp:=λvs H Q _=>∃(m:Addr) (wd:Str) (c:a6) (st:Ch) (N:Nat) (pre:List Nat) (n:Nat),vs=[.ref m,.str wd]/\cQ i c H m st/\av N st/\N<=800/\st.aJ=pre++[n]/\Vu wd=true /\
 ∀c' H' u,aq (cw i) c c' H H'->cQ i c' H' m (st.ended pre n wd)->c' u=none->H' u=some (.tup [.str (ar "told"),.str wd])->Q (.ref u) H'
theorem cQ.rows {i:Nat}{c:a6}{H:Hp}{m:Addr}{st:Ch}{r:List Str}(h:cQ i c H m st):cQ i c H m { st with rows:=r }:=by
 obtain⟨aP,aA,aD,aM,ds,ws,es,X⟩:=h.ex;exact⟨aP,aA,aD,aM,ds,ws,es,⟨X.co,X.ob,X.aJ,X.aU,X.wait,X.dec,X.jN,X.je,X.ent⟩⟩
def rsT:Rs->List V
 | .num n=>[.str (ar "told"),nV n]
 | .txt z=>[.str (ar "told"),.str z]
 | .exc x=>[.str (xcC x).1,.int (xcC x).2]
def Cm (i:Nat)(c:a6)(H:Hp)(m:Addr)(r:Rs×Ch)(Q:VK):Prop:=∀c' H' u,aq (cw i) c c' H H'->cQ i c' H' m r.2->c' u=none->H' u=some (.tup (rsT r.1))->Q (.ref u) H'
def N8 (i:Nat):Sp:=λvs H Q _=>∃(m:Addr) (a b:Int) (c:a6) (st:Ch) (N:Nat),vs=[.ref m,.int a,.int b,.int st.cq]/\cQ i c H m st/\av N st/\N<=800/\(0<=a/\a < 10 ^ 10)/\(0<=b/\b < 10 ^ 10)/\Cm i c H m (ly st a b) Q
def N9 (i:Nat):Sp:=λvs H Q _=>∃(m:Addr) (z:Int) (c:a6) (st:Ch) (N:Nat),vs=[.ref m,.int z]/\cQ i c H m st/\av N st/\N<=800/\-1<=z/\z < 10 ^ 10/\Cm i c H m (stepT st z.toNat) Q
def O4 (i:Nat):Sp:=λvs H Q _=>∃(m t:Addr) (c:a6) (st:Ch) (N:Nat) (d:R.bI),vs=[.ref m,.ref t,.int st.cq]/\cQ i c H m st/\av N st/\N<=800/\mN d/\b6 c H d t/\Cm i c H m (cN st d) Q
theorem Cn {c:a6}{H:Hp}{u:Addr}{o:HO}{W:Option (Nat×Rl)->Prop}(n:¬W none)(hu:H u=none):aq W c (aN c u none) H (ag H u o)/\aN c u none u=none/\(ag H u o) u=some o:=⟨aq.new n hu,bj,ae⟩
theorem Ah (T:Txt w.params K mg A){i:Nat}:aC P w K mg base a5 3 A.Ie A.yS ["_law_m","_law_word_here"] (N7 i):=by
 refine T.vk.F.ok yE (by left) λ_ _ _ _ H _ Q E hr h=>?_
 obtain⟨m,wd,c,st,N,pre,n,rfl,hm,I,hN,e,hwd,q⟩:=h;obtain⟨aP,aA,aD,aM,ds,ws,es,X⟩:=hm.ex;have bt:=hr.u1;have gL:=hr.units;have sz:fu=16777216:=by decide
 have kc:∀ {v0 v1 v2 v3 v4 v5:V},(mdF v0 v1 v2 v3 v4 v5).length < fu:=by intros;show 6 < fu;decide
 refine⟨_,(ah (aV (i:=2) yE.nd (Kr tu PySem.F.slot_list_pop PySem.F.type_list_pop Kw (bx bt (pv 0) au)))
 (ah (bw (dE tu UZ U0 cz (bx bt (pv 0) au) (aa (bu (aa (pv 2) (aa (pv 1) ai))) ai)))
 (ah (bf (aI bz (pv 1) au (aL _))
 (ao (bw (az (JT (i:=i) T) hr T.EU (aa (pv 0) (aa (az (kJ (i:=i) T) hr.mono T.iS (aa (pv 0) (aa (pv 2) ai))) ai)))))
 aK)
 (ah (bf (aI (mZ gL) (bx bt (pv 0) au) (bK ai) (aL _))
 (ao (fX bt (pv 0) au og rfl))
 aK)
 (ao (aG (bu (aa au (aa (pv 1) ai))))))))),?_⟩
 symm;have hy:(st.aJ.map nV)[(st.aJ.map nV).length - 1]?=some (nV n):=by rw[e];simp
 have hdr:(st.aJ.map nV).dropLast=pre.map nV:=by rw[e,kt];simp
 have oP:m≠aP:=dP X.co X.aJ.1 (λz=>nomatch z)
 have DP:aD≠aP:=dP X.dec.1 X.aJ.1 (λz=>nomatch z)
 have ld:=I.ld;refine cv rfl X.gp ⟨.inl ⟨rfl,_,ay.of X.aJ.2⟩,aP,_,_,rfl,rfl,X.aJ.2,hy,?_⟩;rw[hdr];refine cv rfl (.inl ⟨_,UU (ar "decided"),.inl ((ax oP).trans X.ob),rfl,wY.symm⟩) ⟨.inl ⟨rfl,_,ay.of ((ax DP).trans X.dec.2)⟩,_,rfl,_,rfl,(sl 2),λt ht=>?_⟩
 obtain⟨s1,X1⟩:=X.pop (n:=n) (wd:=wd) ht;have ntD:aD≠t:=λz=>by rw[<-z,ax DP,X.dec.2]at ht;cases ht
 refine⟨aD,_,_,rfl,rfl,(ax ntD).trans ((ax DP).trans X.dec.2),by rw[bo,<-X.jN.len];omega,?_⟩
 have st1:=s1.gk;generalize aN c t none=c1 at X1 st1;dsimp only[cZ];generalize ag (ag (ag H aP (.lst (pre.map nV))) t (.tup [nV n,.str wd])) aD (.lst (ds.map V.ref++[.ref t]))=H1 at X1 st1 ⊢;clear s1 ht hy hdr;obtain⟨I1,uN⟩:=I.pop e wd hwd;have hn:n∈st.aJ:=by rw[e];simp
 have hno:=I.cF n hn;have AS:=(I.vF hno).mono (WB N);refine dG (λσ' H'=>σ'=[some (.ref m),some (.str wd),some (nV n)]/\∃c',aq (cw i) c c' H H'/\cQ i c' H' m (if wd=zT then (st.popped pre n wd).carry (st.mo n) else st.popped pre n wd)) ?r (λN' nN=>?f)
 case f =>
  refine⟨_,rfl,rfl,_,rfl,?_⟩
  by_cases hk:wd=zT
  ·refine kT (bG (by rw[hk])) ⟨_,rfl,_,rfl,_,rfl,m,n,c1,_,rfl,X1.at,hno,λtt htt=>?_⟩
   refine⟨m,tt,c1,st.popped pre n wd,st.mo n,N+1,rfl,X1.at,htt,I1,by omega,uN,AS,λc2 H2 s2 h2=>?_⟩
   refine nN _ _ ⟨rfl,c2,st1.trans s2,?_⟩;rw[bp hk];exact h2
  refine iV (bV (λz=>hk (by injection z))) (nN _ _ ⟨rfl,c1,st1,?_⟩)
  rw[aZ hk];exact X1.at
 case r =>
  rintro σ2 H2 ⟨rfl,c2,s2,h2⟩;unfold Ch.ended at q;generalize (if wd=zT then (st.popped pre n wd).carry (st.mo n) else st.popped pre n wd)=st2 at h2 q
  refine aS λGa hGa=>?_
  obtain⟨aP2,aA2,aD2,aM2,ds2,ws2,es2,X2⟩:=h2.ex;refine hGa ?_;refine dG (λσ' H'=>σ'=[some (.ref m),some (.str wd),some (nV n)]/\∃c',aq (cw i) c c' H H'/\cQ i c' H' m st2.opened) ?r2 (λN' nN=>?f2)
  case f2 =>
   refine cv rfl X2.gp ⟨(sl 0),λp hp=>?_⟩
   have s3:=aw (o:=.lst []) hp;have X3:=X2.same s3;refine⟨eV st2.aJ,.list [],gw (ay.of X3.aJ.2),qt (ay.of ae),lE _,qr,_,rfl,?_⟩;rw[lD];cases ep:st2.aJ with
   |nil =>
    refine dR ⟨_,rfl,m,_,rfl,o5.k (k:=UU (ar "closed")) X3.ob kc,?_⟩;rw[z6];obtain⟨s4,X4⟩:=X3.attr st2.bc false;refine nN _ _ ⟨rfl,c2,(s2.trans (aq.same a7 s3)).trans s4.gk,?_⟩;have e1:st2.opened={ st2 with bc:=st2.bc,closed:=false }:=by unfold Ch.opened;rw[ep,bp rfl]
    rw[e1];exact X4.at
   |cons x r =>
    refine b8 (nN _ _ ⟨rfl,c2,s2.trans (aq.same a7 s3),?_⟩);have e1:st2.opened=st2:=by unfold Ch.opened;rw[ep,aZ (U5 _ _)];cases st2;cases ep;rfl
    rw[e1];exact X3.at
  case r2 =>
   rintro σ3 H3 ⟨rfl,c3,s3,h3⟩;refine⟨_,rfl,(sl 2),λu hu=>?_⟩
   refine aS λGb hGb=>?_
   obtain⟨a1,a2,a3⟩:=Cn (c:=c3) (o:=.tup [V.str (ar "told"),.str wd]) a7 hu;refine hGb ?_;exact q _ _ u (s3.trans a1) (h3.free (W:=λ_=>False) (λ_=>id) (Cn id hu).1) a2 a3
theorem Oa (k:Nat)(a b:Int):lx (nd k) a b=(decide (a > b) && (!decide (k=4) || decide (a≥2 * b))):=by
 unfold lx nd
 by_cases h:a<=b
 ·rw[bp h,bV (show ¬a > b by omega),Bool.false_and]
 rw[aZ h,bG (show a > b by omega),Bool.true_and]
 by_cases h4:k=4
 ·rw[bp h4,bG h4,show decide (ar "two thirds"=Fa)=false by trivial]
  rfl
 rw[aZ h4,bV h4,show decide (ar "more"=Fa)=true by trivial]
 rfl
theorem IT (b:Bool):(qo b=zT)↔b=true:=by
 cases b with
 |true=>exact⟨λ_=>rfl,λ_=>rfl⟩
 |false=>exact⟨λz=>absurd z (by trivial),λz=>nomatch z⟩
theorem Ml {st:Ch}{pre:List Nat}{n:Nat}{b:Bool}{z:Str}:(if b=true then (st.popped pre n (qo b)).carry (st.mo n) else st.popped pre n (qo b)).sV z={ st.ended pre n (qo b) with rows:=(if b=true then (st.popped pre n (qo b)).carry (st.mo n) else st.popped pre n (qo b)).rows++[z] }:=by
 unfold Ch.sV Ch.ended;cases b with
 |true=>rw[bp rfl,bp ((IT true).mpr rfl)]
 |false=>rw[aZ UW,aZ (λy=>absurd ((IT false).mp y) UW)]
theorem Hh (T:Txt w.params K mg A){i:Nat}:aC P w K mg base a5 4 A.Ig A.yT ["_law_m","_law_ayes","_law_noes","_law_seats_here"] (N8 i):=by
 refine T.BY.F.ok sC (by left) λ_ _ _ _ H _ Q E hr h=>?_
 obtain⟨m,a,b,c,st,N,rfl,hm,I,hN,ha,hb,q⟩:=h;obtain⟨aP,aA,aD,aM,ds,ws,es,X⟩:=hm.ex;have bt:=hr.u1;have gL:=hr.units;refine⟨_,(ah (bf (aI (mZ gL) (bx bt (pv 0) au) (bK ai) (aL _))
 (ao (aG (bu (aa au (aa aj ai)))))
 aK)
 (ah (bf (aI A2 (bb cT (pv 1) (pv 2)) (pv 3) (aL _))
 (ao (aG (bu (aa au (aa aj ai)))))
 aK)
 (ah (aV (i:=4) sC.nd (b5 A2 (pv 1) (pv 2) (aL _)))
 (ah (bf (aI bz (aO aY (az (kJ (i:=i) T) hr.mono T.iS (aa (pv 0) (aa (aO br (bx bt (pv 0) au) (kQ gO aj)) ai))) aj) au (aL _))
 (ao (aV (i:=4) sC.nd (jZ (pv 4) (iw (b5 HJ (pv 1) (bb r6 aj (pv 2)) (aL _))))))
 aK)
 (ao (aG (az (Ah (i:=i) T) hr T.vk (aa (pv 0) (aa (aO br (bK (aa au (aa au ai))) (cc A3 (by rfl) T.Lz GB (aa (pv 4) ai))) ai))))))))),?_⟩
 symm;unfold ly at q;refine cv rfl X.gp ⟨(sl 0),λp hp=>?_⟩
 have s1:=aw (o:=.lst []) hp;have X1:=X.same s1;refine⟨eV st.aJ,.list [],gw (ay.of X1.aJ.2),qt (ay.of ae),lE _,qr,_,rfl,?_⟩;rw[lD];generalize ag H p (.lst [])=H1 at s1 X1 ⊢;have say:∀(x:Xc) (st':Ch),st'=st->Cm i c H m (.exc x,st') Q->(xcC x).2=0->∀u,H1 u=none->Q (.ref u) (ag H1 u (.tup [.str (xcC x).1,.int 0])):=λx st' est qq h0 u hu=>by
  subst est;have a1:aq (cw i) c (aN c u none) H (ag H1 u (.tup [.str (xcC x).1,.int 0])):=(aq.same a7 s1).trans (aq.new a7 hu);refine qq (aN c u none) _ u a1 (X1.free (W:=λ_=>False) (λ_=>id) (aq.new id hu)).at bj ?_
  show (ag H1 u (.tup [.str (xcC x).1,.int 0])) u=some (.tup [.str (xcC x).1,.int (xcC x).2]);rw[h0];exact ae
 rcases Vg st.aJ with e | ⟨pre,n,e⟩
 ·rw[e]at q ⊢;exact dR ⟨(sl 2),λu hu=>say .nothing st rfl q rfl u hu⟩
 rw[Vh]at e;have gl:st.aJ.getLast?=some n:=by rw[e];exact VF
 have ed:st.aJ.dropLast=pre:=by rw[e];exact V6
 rw[gl]at q;dsimp only at q;rw[ed]at q;refine iV (by rw[e];simp) ?_
 refine⟨_,rfl,_,rfl,_,_,rfl,rfl,_,rfl,_,_,rfl,rfl,_,rfl,dg (λz=>?_) (λz=>?_)⟩
 ·have z':a+b > st.cq:=eM z;rw[bp z']at q;exact⟨(sl 2),λu hu=>say .tooMany st rfl q rfl u hu⟩
 have z':¬a+b > st.cq:=λy=>z (bG y)
 rw[aZ z']at q;have hn:=I.cF n (by rw[e];simp)
 have h0:atI (st.aJ.map nV) (-1)=some (nV n):=by rw[e,kt];exact fG _ _
 refine⟨_,rfl,_,rfl,_,_,rfl,rfl,?_⟩;dsimp only[cZ];refine dG (λσ' H'=>σ'=[some (.ref m),some (.int a),some (.int b),some (.int st.cq),some (.bl (lx (nd (st.mo n).k) a b))]/\H'=H1) ?r (λN' nN=>?f)
 case f =>
  refine⟨_,rfl,_,rfl,m,_,rfl,X1.gp,_,rfl,aP,_,_,_,rfl,rfl,ay.of X1.aJ.2,h0,m,n,c,st,rfl,X1.at,hn,λt ht=>?_⟩
  obtain⟨v,hv⟩:=ht.kind;refine⟨t,_,_,_,rfl,rfl,aW.of hv,eD,rfl,_,rfl,?_⟩;rw[ib _ (st.mo n).k8];have ke:=Oa (st.mo n).k a b
  by_cases h4:(st.mo n).k=4
  ·rw[bG h4]at ke ⊢;refine dR ⟨_,rfl,_,rfl,?_⟩
   by_cases hab:a > b
   ·rw[bG hab]at ke ⊢;refine dR ⟨_,rfl,_,rfl,_,_,rfl,rfl,.inl ⟨by decide,by decide⟩,_,_,rfl,rfl,nN _ _ ⟨?_,rfl⟩⟩
    rw[ke];rfl
   rw[bV hab]at ke ⊢;refine b8 (nN _ _ ⟨?_,rfl⟩);rw[ke];rfl
  rw[bV h4]at ke ⊢;refine b8 (nN _ _ ⟨?_,rfl⟩);rw[ke,Bool.not_false,Bool.true_or,Bool.and_true];rfl
 case r =>
  rintro σ2 H2 ⟨rfl,rfl⟩;generalize lx (nd (st.mo n).k) a b=kb at q;refine⟨_,rfl,(sl 2),λl hl=>?_⟩
  have s2:=aw (o:=.lst [V.str (ar "lost"),.str (ar "kept")]) hl;have hw:atI [V.str (ar "lost"),.str (ar "kept")] (if kb=true then 1 else 0)=some (.str (qo kb)):=by cases kb <;> rfl
  refine⟨_,rfl,.inr ⟨kb,rfl,l,_,_,_,rfl,rfl,ay.of ae,hw,m,qo kb,c,st,N,pre,n,rfl,(X1.same s2).at,I,hN,e,DA kb,λc' H' u s3 h3 cu hu=>?_⟩⟩
  refine q c' H' u ((aq.same a7 (s1.trans s2)).trans s3) ?_ cu hu;show cQ i c' H' m ((if kb=true then (st.popped pre n (qo kb)).carry (st.mo n) else st.popped pre n (qo kb)).sV _)
  rw[Ml];exact h3.rows
theorem Hi (T:Txt w.params K mg A){i:Nat}:aC P w K mg base a5 3 A.Ih A.yU ["_law_m","_law_number"] (N9 i):=by
 refine T.BZ.F.ok sD (by left) λ_ _ _ _ H _ Q E hr h=>?_
 obtain⟨m,z,c,st,N,rfl,hm,I,hN,hz0,hz1,q⟩:=h;obtain⟨aP,aA,aD,aM,ds,ws,es,X⟩:=hm.ex;have bt:=hr.u1;have gL:=hr.units;have kc:∀ {v0 v1 v2 v3 v4 v5:V},(mdF v0 v1 v2 v3 v4 v5).length < fu:=by intros;show 6 < fu;decide
 refine⟨_,(ah (bf (aI (xT gL) (bx bt (pv 0) au) (bK ai) (aL _))
 (ao (aG (bu (aa au (aa (az (Ac (i:=i) T) hr T.xC (aa (pv 0) ai)) ai)))))
 aK)
 (ah (bf (CC (qI bt (pv 1) (bx bt (pv 0) au)))
 (ao (aG (bu (aa au (aa aj ai)))))
 aK)
 (ah (rZ (bx bt (bx bt (pv 0) au) (pv 1)) (rY rfl (d0 (b9 (i:=2) sD.nd) (d0 (b9 (i:=3) sD.nd) mU))))
 (ah (bf (aI oh (bx bt (pv 0) au) (pv 2) (aL _))
 (ao (aG (bu (aa au (aa (pv 2) ai)))))
 aK)
 (ah (bw (Ep (bx bt (pv 0) au) (pv 1) ⟨rfl,rfl,rfl,rfl⟩))
 (ah (fX bt (pv 0) au (pv 3) rfl)
 (ao (aG (bu (aa au (aa (pv 1) ai))))))))))),?_⟩
 symm;unfold stepT at q;refine cv rfl X.gp ⟨(sl 0),λp hp=>?_⟩
 have s1:=aw (o:=.lst []) hp;have X1:=X.same s1;refine⟨eV st.aJ,.list [],gw (ay.of X1.aJ.2),qt (ay.of ae),lE _,qr,_,rfl,?_⟩;rw[lD];generalize ag H p (.lst [])=H1 at s1 X1 ⊢;cases e:st.aJ with
 |cons k0 r0 =>
  rw[aZ (by rw[e];exact U5 _ _)]at q
  refine dR ⟨_,rfl,m,c,st,rfl,X1.at,I.cF,λH2 s2=>⟨(sl 2),λu hu=>?_⟩⟩
  have a1:aq (cw i) c (aN c u none) H _:=(aq.same a7 (s1.trans s2)).trans (aq.new (o:=.tup [V.str (ar "bar"),.int (uF st.closed (st.aJ.map st.mo))]) a7 hu);exact q (aN c u none) _ u a1 ((X1.same s2).free (W:=λ_=>False) (λ_=>id) (aq.new id hu)).at bj ae
 |nil =>
  rw[bp e]at q;refine b8 ?_;have say:∀(x:Xc),Cm i c H m (.exc x,st) Q->(xcC x).2=0->∀u,H1 u=none->Q (.ref u) (ag H1 u (.tup [.str (xcC x).1,.int 0])):=λx qq h0 u hu=>by
   have a1:aq (cw i) c (aN c u none) H (ag H1 u (.tup [.str (xcC x).1,.int 0])):=(aq.same a7 s1).trans (aq.new a7 hu);refine qq (aN c u none) _ u a1 (X1.free (W:=λ_=>False) (λ_=>id) (aq.new id hu)).at bj ?_
   show (ag H1 u (.tup [.str (xcC x).1,.int 0])) u=some (.tup [.str (xcC x).1,.int (xcC x).2]);rw[h0];exact ae
  by_cases hz:z=-1
  ·subst hz;rw[show ((-1:Int).toNat)=0 from rfl,I.no0]at q
   refine⟨_,rfl,cv rfl X1.ga ⟨aA,_,rfl,.inl ⟨_,om (-1),.inl X1.aU.2,rfl,rfl⟩,_,rfl,?_⟩⟩;rw[Ca];exact dR ⟨(sl 2),λu hu=>say .xG q rfl u hu⟩
  refine aS λGa hGa=>?_
  obtain⟨n,rfl⟩:∃n:Nat,z=(n:Int):=⟨z.toNat,by omega⟩
  rw[VT]at q;refine hGa ?_;refine⟨_,rfl,cv rfl X1.ga ⟨aA,_,rfl,.inl ⟨_,om (n:Int),.inl X1.aU.2,rfl,rfl⟩,_,rfl,?_⟩⟩;cases hx:at1 n st.aU with
  |none =>
   rw[hx]at q;rw[sU (uI hx)];exact dR ⟨(sl 2),λu hu=>say .xG q rfl u hu⟩
  |some x =>
   refine aS λGb hGb=>?_
   rw[hx]at q;dsimp only at q;obtain⟨t,pl,hv,ht,hl⟩:=X1.waitOf hx;refine hGb ?_;rw[hv];refine b8 ?_;refine⟨_,rfl,m,_,rfl,X1.ga,_,rfl,aA,_,rfl,.inl ⟨_,om (n:Int),.inl X1.aU.2,rfl,hv.symm⟩,t,[V.int x.2.1,.ref pl],rfl,ht.sq,rfl,_,_,rfl,_,_,rfl,rfl,?_⟩;refine⟨_,rfl,m,_,rfl,X1.gs,_,rfl,_,_,rfl,rfl,_,rfl,dg (λy=>?_) (λy=>?_)⟩
   ·have y':st.bc < x.2.1:=eM y;rw[bp y']at q;refine⟨_,rfl,(sl 2),λu hu=>?_⟩
    have a1:aq (cw i) c (aN c u none) H _:=(aq.same a7 s1).trans (aq.new (o:=.tup [V.str (ar "not yet"),.int x.2.1]) a7 hu);exact q (aN c u none) _ u a1 (X1.free (W:=λ_=>False) (λ_=>id) (aq.new id hu)).at bj ae
   have y':¬st.bc < x.2.1:=λz=>y (bG z)
   rw[aZ y']at q;have oA:m≠aA:=dP X.co X.aU.1 (λz=>nomatch z)
   refine cv rfl X1.ga ⟨aA,rfl,.inl ⟨_,.inl X1.aU.2⟩,_,rfl,_,om (n:Int),_,X1.aU.2,rfl,hv,?_⟩;refine⟨_,rfl,_,rfl,m,_,rfl,o5.k (k:=UU (ar "pile")) ((ax oA).trans X1.ob) kc,?_⟩;rw[z7];refine aS λGc hGc=>?_
   obtain⟨c2,ws2,s2,X2⟩:=X1.oW hl;refine hGc ?_;generalize ag (ag H1 aA (.dK (gE (bD ((st.aU.map (·.1)).zip ws)) (om (n:Int))))) m (.dK (mdF (.int st.bc) (.bl st.closed) (.ref pl) (.ref aA) (.ref aD) (.ref aM)))=H2 at s2 X2 ⊢
   refine⟨_,rfl,(sl 2),λu hu=>?_⟩
   have a1:aq (cw i) c (aN c2 u none) H _:=((aq.same a7 s1).trans s2.gk).trans (aq.new (o:=.tup [V.str (ar "told"),nV n]) a7 hu);exact q (aN c2 u none) _ u a1 (X2.free (W:=λ_=>False) (λ_=>id) (aq.new id hu)).at.rows bj ae
theorem b6.mnt {c:a6}{H:Hp}{t:Addr}:∀ {d:R.bI},zW d->b6 c H d t->MnT c H (eE d) t
 | .mat cs,_,⟨L,a,b1,b2⟩=>⟨a.1,.ref L,a.2,L,rfl,b1,b2⟩
 | .ed true k j ws,h,⟨e,a,b⟩=>⟨a.1,.ref e,a.2,e,rfl,by rw[<-Dx h.1];exact b⟩
 | .ed false k j ws,h,⟨e,a,b⟩=>⟨a.1,.ref e,a.2,e,rfl,by rw[<-Dx h.1];exact b⟩
 | .pt ws,_,a=>⟨a.1,.str (kx R.bl1 ws),a.2,rfl⟩
 | .nums kd ns,h,a=>by
  rcases nU h.1 with ⟨u,rfl,rfl⟩ | ⟨rfl,rfl⟩ | ⟨rfl,rfl⟩ | ⟨rfl,rfl⟩
  ·rw[eE,bp rfl];exact⟨a.1,.int u,a.2,rfl⟩
  ·rw[eE,aZ (by trivial),bp rfl]
   exact⟨a.1,.non,a.2,trivial⟩
  ·rw[eE,aZ (by trivial),aZ (by trivial),bp rfl]
   exact⟨a.1,.non,a.2,trivial⟩
  rw[eE,aZ (by trivial),aZ (by trivial),aZ (by trivial)]
  exact⟨a.1,.non,a.2,trivial⟩
theorem Hl {st:Ch}{pre:List Nat}{n:Nat}:st.ended pre n kI=(st.popped pre n kI).opened:=by
 unfold Ch.ended;rw[aZ (by trivial)]
theorem Fx (T:Txt w.params K mg A){i:Nat}:aC P w K mg base a5 5 A.OX A.EM ["_law_m","_law_deed_here","_law_seats_here"] (O4 i):=by
 refine T.Dc.F.ok EF (by left) λ_ _ _ _ H _ Q E hr h=>?_
 obtain⟨m,t,c,st,N,d,rfl,hm,I,hN,hd,hz,q⟩:=h;obtain⟨aP,aA,aD,aM,ds,ws,es,X⟩:=hm.ex;have bt:=hr.u1;have gL:=hr.units;have lim:fu=16777216:=by decide
 refine⟨_,(ah (bf (aI bz (aO aY (pv 1) aj) au (aL _))
 (ao (aG (az (Hh (i:=i) T) hr T.BY (aa (pv 0) (aa (aO aY (pv 1) aj) (aa (aO aY (pv 1) aj) (aa (pv 2) ai)))))))
 aK)
 (ah (bf (aI bz (aO aY (pv 1) aj) au (aL _))
 (ao (aG (az (Hi (i:=i) T) hr.mono T.BZ (aa (pv 0) (aa (aO aY (pv 1) aj) ai)))))
 aK)
 (ah (bf (aI bz (aO aY (pv 1) aj) au (aL _))
 (ah (bf (aI (mZ gL) (bx bt (pv 0) au) (bK ai) (aL _))
 (ao (aG (bu (aa au (aa aj ai)))))
 aK)
 (ao (aG (az (Ah (i:=i) T) hr.mono T.vk (aa (pv 0) (aa au ai))))))
 aK)
 (ah (aV (i:=3) EF.nd (az (Hf (i:=i) T) hr.mono T.BX (aa (pv 0) (aa (pv 1) ai))))
 (ah (bf (aI M7 (pv 3) rX (aL _))
 (ao (aG (pv 3)))
 aK)
 (ah (bw (dE tu UZ U0 cz (bx bt (pv 0) au) (aa (bK (aa (pv 1) (aa (pv 1) (aa (bK ai) ai)))) ai)))
 (ah (bw (dE tu UZ U0 cz (bx bt (pv 0) au) (aa (bA bF (by rfl) T.dS cC (aa (bx bt (pv 0) au) ai)) ai)))
 (ao (aG (bu (aa au (aa (bA bF (by rfl) T.dS cC (aa (bx bt (pv 0) au) ai)) ai)))))))))))),?_⟩
 symm;cases hd with
 | @zX a b ha hb =>
  rw[iK]at q;have ht:H t=some (.tup [.str (ar "vote"),.int a,.int b]):=hz.2;refine a8 rfl (aW.of ht) rfl ⟨rfl,cg (bG rfl) ?_⟩;exact⟨_,rfl,a8 rfl (aW.of ht) rfl (a8 rfl (aW.of ht) rfl ⟨_,rfl,m,a,b,c,st,N,rfl,hm,I,hN,ha,hb,q⟩)⟩
 |drop =>
  rw[iL]at q;have ht:H t=some (.tup [.str (ar "drop")]):=hz.2;refine a8 rfl (aW.of ht) rfl ⟨rfl,a4 (by trivial) ?_⟩
  refine a8 rfl (aW.of ht) rfl ⟨rfl,a4 (by trivial) ?_⟩
  refine a8 rfl (aW.of ht) rfl ⟨rfl,cg (bG rfl) ?_⟩;unfold mK at q;refine cv rfl X.gp ⟨(sl 0),λp hp=>?_⟩
  have s1:=aw (o:=.lst []) hp;have X1:=X.same s1;refine⟨eV st.aJ,.list [],gw (ay.of X1.aJ.2),qt (ay.of ae),lE _,qr,_,rfl,?_⟩;rw[lD];generalize ag H p (.lst [])=H1 at s1 X1 ⊢;rcases Vg st.aJ with e | ⟨pre,n,e⟩
  ·rw[e]at q ⊢;refine dR ⟨(sl 2),λu hu=>?_⟩
   have a1:aq (cw i) c (aN c u none) H (ag H1 u (.tup [.str (ar "nothing"),.int 0])):=(aq.same a7 s1).trans (aq.new a7 hu);exact q (aN c u none) _ u a1 (X1.free (W:=λ_=>False) (λ_=>id) (aq.new id hu)).at bj ae
  rw[Vh]at e;have gl:st.aJ.getLast?=some n:=by rw[e];exact VF
  have ed:st.aJ.dropLast=pre:=by rw[e];exact V6
  rw[gl]at q;dsimp only at q;rw[ed]at q;refine iV (by rw[e];simp) ?_
  refine⟨_,rfl,m,kI,c,st,N,pre,n,rfl,X1.at,I,hN,e,(by trivial),λc' H' u s3 h3 cu hu=>?_⟩
  refine q c' H' u ((aq.same a7 s1).trans s3) ?_ cu hu;rw[Hl]at h3;exact h3.rows
 | @take z h0 h1 =>
  rw[iM]at q;have ht:H t=some (.tup [.str (ar "take"),.int z]):=hz.2;refine a8 rfl (aW.of ht) rfl ⟨rfl,a4 (by trivial) ?_⟩
  refine a8 rfl (aW.of ht) rfl ⟨rfl,cg (bG rfl) ?_⟩;exact⟨_,rfl,a8 rfl (aW.of ht) rfl ⟨m,z,c,st,N,rfl,hm,I,hN,h0,h1,q⟩⟩
 |move hd =>
  rw[iN hd]at q;have hmn:=hz.mnt hd;obtain⟨v,ht⟩:=hmn.kind;unfold mL at q;refine a8 rfl (aW.of ht) eD ⟨rfl,a4 (L5 _ (eE d).k8) ?_⟩;refine a8 rfl (aW.of ht) eD ⟨rfl,a4 (G8 _ (eE d).k8) ?_⟩;refine a8 rfl (aW.of ht) eD ⟨rfl,a4 (L6 _ (eE d).k8) ?_⟩;refine⟨_,rfl,_,rfl,m,t,c,st,N,d,rfl,hm,I,hN,hd,hz.c,λL4 H1 s1=>?_,λx hx u H1 s1 nu hu=>?_⟩
  case refine_2 =>
   rw[hx]at q;exact⟨_,rfl,rfl,cg rfl ⟨_,rfl,q (bP c H) H1 u (aq.cl a7 s1) (X.cl s1).at (bS nu) hu⟩⟩
  rw[L4]at q;dsimp only at q;refine⟨_,rfl,rfl,a4 rfl ?_⟩;have X1:=X.same s1;have Uv:MnT c H1 (eE d) t:=hmn.step (W:=λ_=>False) (aq.same id s1)
  have lm:=I.lm;have el:es.length=st.made.length:=by rw[<-X1.ent.len,kK]
  have lp:=I.pil.LW;rw[bo]at lp;have nf:st.made.length+1∉st.uL:=λz=>by
   have:=(List.mem_filter.mp z).1;rw[V7]at this;omega
  have MP:aM≠aP:=dP X.je.1 X.aJ.1 (λz=>nomatch z)
  have oM:m≠aM:=dP X.co X.je.1 (λz=>nomatch z)
  refine cv rfl X1.gm ⟨.inl ⟨rfl,_,ay.of X1.je.2⟩,_,rfl,_,rfl,(sl 0),λk hk=>⟨(sl 3),λp hp=>?_⟩⟩
  have npk:p≠k:=λz=>by rw[z,ae]at hp;cases hp
  have hp1:H1 p=none:=by rw[ax npk]at hp;exact hp
  have s2:=(aw (o:=.lst []) hk).new (o:=.lst [.ref t,.ref t,.ref k]) hp;have X2:=X1.same s2;refine⟨aM,es,.ref p,rfl,rfl,X2.je.2,by omega,?_⟩
  refine aS λGa hGa=>?_
  obtain⟨c',s3,X3⟩:=X1.moved (row:=R.cG d) (by rw[I.kk];exact nf) (by rw[I.ff];exact nf) Uv hk hp1 npk
  refine hGa ?_;generalize ag (ag H1 k (.lst [])) p (.lst [.ref t,.ref t,.ref k])=H2 at s2 X2 s3 X3 ⊢;have eln:(((es++[V.ref p]).length:Nat):Int)=((st.made.length+1:Nat):Int):=by rw[ki,el];rfl
  refine cv rfl (.inl ⟨_,UU (ar "pile"),.inl ((ax oM).trans X2.ob),rfl,qp.symm⟩) ⟨.inl ⟨rfl,_,ay.of ((ax MP.symm).trans X2.aJ.2)⟩,cv rfl (.inl ⟨_,UU (ar "motions"),.inl ((ax oM).trans X2.ob),rfl,wZ.symm⟩) ⟨aM,_,rfl,.inl (ay.of ae),?_⟩⟩;refine⟨aP,st.aJ.map nV,nV (st.made.length+1),rfl,by rw[eln];rfl,(ax MP.symm).trans X2.aJ.2,by rw[bo];omega,?_⟩
  generalize ag (ag H2 aM (.lst (es++[.ref p]))) aP (.lst (st.aJ.map nV++[nV (st.made.length+1)]))=H3 at s3 X3 ⊢;refine cv rfl X3.gm ⟨aM,_,rfl,.inl (ay.of X3.je.2),(sl 2),λu hu=>?_⟩
  rw[eln];have a1:aq (cw i) c (aN c' u none) H (ag H3 u (.tup [V.str (ar "told"),nV (st.made.length+1)])):=((aq.same a7 s1).trans s3.gk).trans (aq.new a7 hu);exact q (aN c' u none) _ u a1 (X3.free (W:=λ_=>False) (λ_=>id) (aq.new id hu)).at bj ae
theorem Fy (T:Txt w.params K mg A):aC P w K mg base a5 1 A.OV A.EK [] N1:=by
 refine T.nG.F.ok KQ (by left) λ_ _ _ _ H _ Q E hr h=>?_
 obtain⟨rfl,q⟩:=h;refine⟨_,(ao (aG (Nw (lS au aj (lS au og (lS au (bK ai) (lS au j7 (lS au (bK ai) (lS au (bK ai) Nv)))))) rfl rfl (by decide) (by decide)))),?_⟩
 symm;refineλm h0=>⟨(sl 0),λaP h1=>λaA h2=>⟨(sl 0),λaD h3=>⟨(sl 0),λaM h4=>?_⟩⟩⟩
 have s1:=aw (o:=.dK []) h0;have s2:=aw (o:=.lst []) h1;have s3:=aw (o:=.dK []) h2;have s4:=aw (o:=.lst []) h3;have s5:=aw (o:=.lst []) h4;have n1:=same_none s1 h1;have n2:=same_none (s1.trans s2) h2;have n3:=same_none ((s1.trans s2).trans s3) h3;have n4:=same_none (((s1.trans s2).trans s3).trans s4) h4;have m1:m≠aP:=aQ ae h1;have m2:m≠aA:=aQ (s2 _ _ ae) h2;have m3:m≠aD:=aQ ((s2.trans s3) _ _ ae) h3;have m4:m≠aM:=aQ (((s2.trans s3).trans s4) _ _ ae) h4;have p2:aP≠aA:=aQ ae h2;have p3:aP≠aD:=aQ (s3 _ _ ae) h3;have p4:aP≠aM:=aQ ((s3.trans s4) _ _ ae) h4;have q3:aA≠aD:=aQ ae h3;have q4:aA≠aM:=aQ (s4 _ _ ae) h4;have r4:aD≠aM:=aQ ae h4;refine⟨(((s2.trans s3).trans s4).trans s5) _ _ ae,mdF (.int 1) (.bl false) (.ref aP) (.ref aA) (.ref aD) (.ref aM),rfl,(by show 6<=15;decide),?_⟩
 rw[QY];refine q m _ λi c n=>⟨aN (aN (aN (aN (aN c m (some (i,.ob))) aP (some (i,.aJ))) aA (some (i,.aU))) aD (some (i,.bW))) aM (some (i,.made)),⟨id,?_,?_,?_⟩,aP,aA,aD,aM,[],[],[],?_⟩
 ·exactλa v e _=>(((((s1.trans s2).trans s3).trans s4).trans s5).own h0) a v e
 ·exactλa v e=>⟨v,(((((s1.trans s2).trans s3).trans s4).trans s5).own h0) a v e⟩
 ·intro a v e _;rw[a9 (aQ e n4),a9 (aQ e n3),a9 (aQ e n2),a9 (aQ e n1),a9 (aQ e h0)]
 refine⟨?_,ae,⟨?_,?_⟩,⟨?_,?_⟩,.nil,⟨?_,?_⟩,.nil,⟨?_,?_⟩,.nil⟩
 ·rw[a9 m4,a9 m3,a9 m2,a9 m1,bj]
 ·rw[a9 p4,a9 p3,a9 p2,bj]
 ·rw[ax m1.symm,ax p4,ax p3,ax p2,ae];rfl
 ·rw[a9 q4,a9 q3,bj]
 ·rw[ax m2.symm,ax q4,ax q3,ae];rfl
 ·rw[a9 r4,bj]
 ·rw[ax m3.symm,ax r4,ae];rfl
 ·rw[bj]
 rw[ax m4.symm,ae]
def Mm:Sp:=λvs H Q _=>∃(c n:Int),vs=[.int c,.int n]/\1<=n/\n<=1000000000/\∀(a b:Int) (t:Addr) (H':Hp),(0<=a/\a < 10 ^ 10)->(0<=b/\b < 10 ^ 10)->bh H H'->H t=none->H' t=some (.tup [.str (ar "vote"),.int a,.int b])->Q (.ref t) H'
def Mo (i:Nat):Sp:=λvs H Q _=>∃(m:Addr) (z:Int) (c:a6) (st:Ch) (N:Nat),vs=[.ref m,.int z]/\cQ i c H m st/\av N st/\∀(j:Int) (H':Hp),0<=j->j < 20->bh H H'->Q (.int j) H'
def Fz (i:Nat):Sp:=λvs H Q _=>∃(m:Addr) (z n:Int) (c:a6) (st:Ch) (N:Nat),vs=[.ref m,.int z,.int n]/\cQ i c H m st/\av N st/\N<=191/\1<=n/\n<=1000000000 /\
 ∀(d:R.bI) (t:Addr) (H':Hp),mN d->R.B4 d->b6 (bP c H) H' d t->bh H H'->Q (.ref t) H'
theorem Ob {xs:List Int}{j:Int}(h0:0<=j)(h1:j < xs.length)(hx:∀x∈xs,0<=x/\x < 20):∃x:Int,atI (xs.map V.int) j=some (.int x)/\0<=x/\x < 20:=by
 obtain⟨k,rfl⟩:∃k:Nat,j=(k:Int):=⟨j.toNat,by omega⟩
 have hk:k < xs.length:=by omega
 refine⟨xs[k],?_,hx _ (Wh hk)⟩;refine cS ?_;rw[sr,wa hk];rfl
theorem Co (T:Txt w.params K mg A):aC P w K mg base a5 1 A.K5 A.BO ["_law_cell","_law_seats_here"] Mm:=by
 refine T.zc.F.ok l4 (by left) λ_ _ _ _ H _ Q E hr h=>?_
 obtain⟨c,n,rfl,n1,n2,q⟩:=h;refine⟨_,(ah (aV (i:=2) l4.nd (bb bY (pv 0) (bb cT (pv 1) aj)))
 (ah (aV (i:=3) l4.nd (bb bY (bb cy (pv 0) aj) (bb jg (bb cT (pv 1) aj) (pv 2))))
 (ah (bf (aI bz (bb bY (bb cy (pv 0) aj) aj) aj (aL _))
 (ao (aV (i:=3) l4.nd (bb jg (bb cT (bb cy (pv 2) aj) (bb bY (bb cy (pv 0) aj) aj)) aj)))
 aK)
 (ah (bf (aI bz (bb bY (bb cy (pv 0) aj) aj) aj (aL _))
 (ao (aV (i:=3) l4.nd (bb cT (bb jg (pv 1) (pv 2)) (bb bY (bb cy (pv 0) aj) aj))))
 aK)
 (ao (aG (bu (aa au (aa (pv 2) (aa (bA (jU rfl) (by rfl) T.B3 u5 (aa aj (aa (pv 3) ai))) ai)))))))))),?_⟩
 symm;have a0:0<=c % (n+1):=VR _ (by omega)
 have a1:c % (n+1) < n+1:=VA _ (by omega)
 refine⟨_,rfl,_,rfl,_,_,rfl,rfl,_,_,rfl,rfl,(by show (0:Int) < n+1;omega),?_⟩
 dsimp only[cZ];generalize c % (n+1)=a at a0 a1 ⊢;refine⟨_,rfl,_,_,rfl,rfl,⟨by decide,by decide⟩,_,rfl,_,_,rfl,rfl,_,rfl,_,_,rfl,rfl,_,_,rfl,rfl,(by show (0:Int) < n+1 - a;omega),?_⟩
 dsimp only[cZ];have b0:0<=c / 7 % (n+1 - a):=VR _ (by omega)
 have b1:c / 7 % (n+1 - a) < n+1 - a:=VA _ (by omega)
 generalize c / 7 % (n+1 - a)=b at b0 b1 ⊢;refine dG (λσ' H'=>H'=H/\∃b:Int,σ'=[some (.int c),some (.int n),some (.int a),some (.int b)]/\-1<=b/\b < 10000000000) ?r (λN' nN=>?f)
 case f =>
  refine⟨_,rfl,_,_,rfl,rfl,⟨by decide,by decide⟩,_,_,rfl,rfl,(by show (0:Int) < 4;decide),rfl,_,rfl,dg (λ_=>?_) (λ_=>?_)⟩
  ·refine⟨_,rfl,_,_,rfl,rfl,⟨by decide,by decide⟩,_,rfl,_,_,rfl,rfl,⟨by decide,by decide⟩,_,_,rfl,rfl,(by show (0:Int) < 3;decide),_,_,rfl,rfl,_,_,rfl,rfl,nN _ _ ⟨rfl,_,rfl,?_,?_⟩⟩
   ·omega
   omega
  exact nN _ _ ⟨rfl,b,rfl,by omega,by omega⟩
 case r =>
  rintro σ2 H2 ⟨rfl,b,rfl,c0,c1⟩;refine dG (λσ' H'=>H'=H2/\∃b:Int,σ'=[some (.int c),some (.int n),some (.int a),some (.int b)]/\-1<=b/\b < 10000000000) ?r (λN' nN=>?f)
  case f =>
   refine⟨_,rfl,_,_,rfl,rfl,⟨by decide,by decide⟩,_,_,rfl,rfl,(by show (0:Int) < 16;decide),rfl,_,rfl,dg (λ_=>?_) (λ_=>?_)⟩
   ·refine⟨_,rfl,_,rfl,_,_,rfl,rfl,_,rfl,_,_,rfl,rfl,⟨by decide,by decide⟩,_,_,rfl,rfl,(by show (0:Int) < 2;decide),_,_,rfl,rfl,nN _ _ ⟨rfl,_,rfl,?_,?_⟩⟩
    ·omega
    omega
   exact nN _ _ ⟨rfl,b,rfl,by omega,by omega⟩
  case r =>
   rintro σ3 H3 ⟨rfl,b,rfl,c0,c1⟩;refine⟨_,rfl,_,rfl,_,_,rfl,(sl 3),λu hu=>?_⟩
   refine q a (if b > 0 then b else 0) u _ ⟨a0,by omega⟩ ⟨?_,?_⟩ (aw hu) hu ae
   ·split <;> omega
   split <;> omega
theorem FA (T:Txt w.params K mg A){i:Nat}:aC P w K mg base a5 2 A.EN A.wG ["_law_m","_law_way"] (Mo i):=by
 refine T.zd.F.ok wB (by left) λ_ _ _ _ H _ Q E hr h=>?_
 obtain⟨m,z,c,st,N,rfl,hm,I,q⟩:=h;obtain⟨aP,aA,aD,aM,ds,ws,es,X⟩:=hm.ex;have bt:=hr.u1;have gL:=hr.units;refine⟨_,(ah (bf (aI (mZ gL) (bx bt (pv 0) au) (bK ai) (aL _))
 (ao (aG (aO br (bK (aa aj (aa aj (aa aj (aa aj (aa aj ai)))))) (bb bY (pv 1) aj))))
 aK)
 (ah (aV (i:=2) wB.nd (az (kJ (i:=i) T) hr T.iS (aa (pv 0) (aa (aO br (bx bt (pv 0) au) (kQ gO aj)) ai))))
 (ah (bf (aI bz (aO aY (pv 2) aj) au (aL _))
 (ao (aG (aO br (bK (aa aj (aa aj (aa aj (aa aj (aa aj (aa aj (aa aj ai)))))))) (bb bY (pv 1) aj))))
 aK)
 (ah (bf (PW.pt (pw_and (aI bz (aO aY (pv 2) aj) au (aL _)) (pw_and1 (aI kR (aO aY (aO aY (pv 2) aj) aj) au (aL _)))))
 (ao (aG (aO br (bK (aa aj (aa aj (aa aj (aa aj (aa aj ai)))))) (bb bY (pv 1) aj))))
 aK)
 (ao (aG (aO br (bK (aa aj (aa aj (aa aj (aa aj (aa aj ai)))))) (bb bY (pv 1) aj)))))))),?_⟩
 symm;have say:∀(xs:List Int) (k:Int) (H1:Hp) (p:Addr),bh H H1->H1 p=none->k=(xs.length:Int)->0 < k->(∀x∈xs,0<=x/\x < 20)->∀R:V->Hp->Prop,(∀x:Int,Q (.int x) (ag H1 p (.lst (xs.map V.int)))->R (.int x) (ag H1 p (.lst (xs.map V.int))))->∃x,atI (xs.map V.int) (z % k)=some x/\R x (ag H1 p (.lst (xs.map V.int))):=by
  intro xs k H1 p s1 hp ek hk hx R hR;obtain⟨x,h1,h2,h3⟩:=Ob (j:=z % k) (VR _ (by omega)) (by rw[<-ek];exact VA _ hk) hx
  exact⟨_,h1,hR x (q x _ h2 h3 (s1.new hp))⟩
 refine cv rfl X.gp ⟨(sl 0),λp hp=>?_⟩
 have s1:=aw (o:=.lst []) hp;have X1:=X.same s1;refine⟨eV st.aJ,.list [],gw (ay.of X1.aJ.2),qt (ay.of ae),lE _,qr,_,rfl,?_⟩;rw[lD];generalize ag H p (.lst [])=H1 at s1 X1 ⊢;rcases Vg st.aJ with e | ⟨pre,n,e⟩
 ·rw[e];refine dR ⟨(sl 5),λp2 hp2=>?_⟩
  refine aS λGa hGa=>?_
  obtain⟨x,h1,h2⟩:=say [0,1,18,10,0] 5 H1 p2 s1 hp2 rfl (by decide) (by decide) (λv H=>Q v H) (λ_ h=>h)
  refine hGa ?_;exact⟨_,rfl,_,_,rfl,rfl,(by show (0:Int) < 5;decide),p2,_,_,_,rfl,rfl,ay.of ae,h1,h2⟩
 rw[Vh]at e;have hn:=I.cF n (by rw[e];simp)
 have h0:atI (st.aJ.map nV) (-1)=some (nV n):=by rw[e,kt];exact fG _ _
 refine iV (by rw[e];simp) ?_
 refine⟨_,rfl,_,rfl,m,_,rfl,X1.gp,_,rfl,aP,_,_,_,rfl,rfl,ay.of X1.aJ.2,h0,m,n,c,st,rfl,X1.at,hn,λt ht=>?_⟩
 refine aS λGb hGb=>?_
 obtain⟨_,v,hv,hvv⟩:=ht;refine hGb ?_;refine a8 rfl (aW.of hv) eD ⟨rfl,_,rfl,dg (λ_=>?_) (λ_=>?_)⟩
 ·refine⟨(sl 7),λp2 hp2=>?_⟩
  refine aS λGc hGc=>?_
  obtain⟨x,h1,h2⟩:=say [2,3,4,12,7,9,8] 7 H1 p2 s1 hp2 rfl (by decide) (by decide) (λv H=>Q v H) (λ_ h=>h)
  refine hGc ?_;exact⟨_,rfl,_,_,rfl,rfl,(by show (0:Int) < 7;decide),p2,_,_,_,rfl,rfl,ay.of ae,h1,h2⟩
 refine a8 rfl (aW.of hv) eD ⟨rfl,_,rfl,?_⟩;rw[cA _ (st.mo n).k8]
 by_cases h1:(st.mo n).k=1
 case neg =>
  rw[bV h1];refine b8 (b8 ⟨(sl 5),λp2 hp2=>?_⟩)
  refine aS λGd hGd=>?_
  obtain⟨x,h1,h2⟩:=say [12,13,12,14,15] 5 H1 p2 s1 hp2 rfl (by decide) (by decide) (λv H=>Q v H) (λ_ h=>h)
  refine hGd ?_;exact⟨_,rfl,_,_,rfl,rfl,(by show (0:Int) < 5;decide),p2,_,_,_,rfl,rfl,ay.of ae,h1,h2⟩
 rw[bG h1];refine aS λGe hGe=>?_
 obtain⟨e,emo⟩:∃e,st.mo n=.chg e:=by
  cases hmo:st.mo n with
  |chg e=>exact⟨e,rfl⟩
  |_=>rw[hmo]at h1;simp[Mn.k]at h1
 rw[emo]at hv hvv;obtain⟨tc,rfl,htc⟩:=hvv;refine hGe ?_;refine dR (a8 rfl (aW.of hv) rfl ⟨tc,_,_,_,rfl,rfl,htc.sq,lO e,rfl,_,rfl,dg (λ_=>?_) (λ_=>?_)⟩)
 ·refine⟨(sl 5),λp2 hp2=>?_⟩
  refine aS λGf hGf=>?_
  obtain⟨x,h1,h2⟩:=say [5,6,5,12,14] 5 H1 p2 s1 hp2 rfl (by decide) (by decide) (λv H=>Q v H) (λ_ h=>h)
  refine hGf ?_;exact⟨_,rfl,_,_,rfl,rfl,(by show (0:Int) < 5;decide),p2,_,_,_,rfl,rfl,ay.of ae,h1,h2⟩
 refine⟨(sl 5),λp2 hp2=>?_⟩
 refine aS λGq gq=>?_
 obtain⟨x,h1,h2⟩:=say [12,13,12,14,15] 5 H1 p2 s1 hp2 rfl (by decide) (by decide) (λv H=>Q v H) (λ_ h=>h)
 refine gq ?_;exact⟨_,rfl,_,_,rfl,rfl,(by show (0:Int) < 5;decide),p2,_,_,_,rfl,rfl,ay.of ae,h1,h2⟩
theorem SK {N:Nat}{e:Ed}(h:EdB (12+N) e)(hN:N<=800):e.th.length+2<=fu/\(R.bL e.th).length<=900:=by
 have lim:fu=16777216:=by decide
 have h1:=(h.ok (by omega)).th.len
 have h2:=h.words.2;exact⟨by omega,by omega⟩
theorem Ai:∀(as:List (Nat×Int×List Nat)) (ws:List V),as.length=ws.length->(bD ((as.map (·.1)).zip ws)).map (·.1)=(as.map λx=>(x.1:Int)).map om:=by
 intro as
 induction as with
 |nil=>intro ws _;cases ws <;> rfl
 |cons a as ih =>
  intro ws h;cases ws with
  |nil=>cases h
  |cons w ws =>
   rw[rf,dA,rf,ih ws (by simpa using h)]
   rfl
theorem JU (T:Txt w.params K mg A){i:Nat}:aC P w K mg base a5 3 A.K6 A.BP ["_law_m","_law_cell","_law_seats_here"] (Fz i):=by
 have sZ:aC P w K mg base a5 2 A.yP A.pU ["_law_cell"] Aa:=Fs T;refine T.EV.F.ok dZ (by left) λ_ _ _ _ H _ Q E hr h=>?_
 obtain⟨m,z,n,c,st,N,rfl,hm,I,hN,n1,n2,q⟩:=h;obtain⟨aP,aA,aD,aM,ds,ws,es,X⟩:=hm.ex;have bt:=hr.u1;have gL:=hr.units;have qu:b7 2 _:=hr;refine⟨_,(ah (aV (i:=3) dZ.nd (bb bY (pv 1) aj))
 (ah (F6 (i:=4) dZ.nd rfl (Or.inr rfl) (bb cy (pv 1) aj))
 (ah (bf (aI A2 (bb bY (pv 4) aj) aj (aL _))
 (ao (aV (i:=3) dZ.nd (az (FA (i:=i) T) hr T.zd (aa (pv 0) (aa (pv 3) ai)))))
 aK)
 (ah (F6 (i:=4) dZ.nd rfl (Or.inr rfl) (bb cy (pv 4) aj))
 (ah (aV (i:=5) dZ.nd aj)
 (ah (aV (i:=6) dZ.nd au)
 (ah (bf (aI (xT gL) (bx bt (pv 0) au) (bK ai) (aL _))
 (ah (aV (i:=7) dZ.nd (az (kJ (i:=i) T) hr.mono T.iS (aa (pv 0) (aa (aO br (bx bt (pv 0) au) aj) ai))))
 (ah (aV (i:=8) dZ.nd (az (kJ (i:=i) T) hr.mono T.iS (aa (pv 0) (aa (aO br (bx bt (pv 0) au) (kQ gO aj)) ai))))
 (ah (bf (aI bz (aO aY (pv 7) aj) au (aL _))
 (ao (aV (i:=5) dZ.nd (bA bF (by rfl) T.dS cC (aa (aO aY (pv 7) aj) ai))))
 aK)
 (ao (bf (PW.pt (pw_and (aI bz (aO aY (pv 8) aj) au (aL _)) (pw_and1 (aI kR (aO aY (aO aY (pv 8) aj) aj) au (aL _)))))
 (ao (aV (i:=6) dZ.nd (aO aY (aO aY (pv 8) aj) aj)))
 aK)))))
 aK)
 (ah (bf (aI oh (pv 3) aj (aL _))
 (ah (aV (i:=9) dZ.nd (bb bY (pv 4) aj))
 (ah (bf (aI bz (bb bY (bb cy (pv 4) aj) aj) aj (aL _))
 (ao (aV (i:=9) dZ.nd (bb cT aj (bb bY (bb cy (pv 4) aj) aj))))
 aK)
 (ao (aG (bu (aa au (aa (gS (scope:=ub) EH rfl (jT rfl T.qM (aa (pv 9) ai)) (λ_ _ _ _ _=>(az sZ qu T.nF (aa (bb cT (bb cy (pv 5) aj) (bb r6 aj (pv 0))) ai)))) ai)))))))
 aK)
 (ah (bf (aI oh (pv 3) aj (aL _))
 (ao (aG (bu (aa au (aa (az (Cg T) hr.mono T.y6 (aa (pv 4) (aa (pv 5) (aa (az sZ qu T.nF (aa (bb cy (pv 4) aj) ai)) ai)))) ai)))))
 aK)
 (ah (bf (aI oh (pv 3) aj (aL _))
 (ao (aG (bu (aa au (aa (az (Cg T) hr.mono T.y6 (aa (pv 4) (aa (bA bF (by rfl) T.dS cC (aa (az (nZ T) hr.mono T.iH (aa (pv 6) ai)) ai)) (aa (az (Ce T) hr.mono T.yZ (aa (bb cy (pv 4) aj) ai)) ai)))) ai)))))
 aK)
 (ah (bf (aI bz (pv 3) aj (aL _))
 (ao (aG (bu (aa au (aa (bA (jU rfl) (by rfl) T.B3 u5 (aa aj (aa (bb jg (bb cT (bx bt (pv 0) au) (bb bY (pv 4) aj)) aj) ai))) ai)))))
 aK)
 (ah (bf (aI oh (pv 3) aj (aL _))
 (ao (aG (aO br (bK (aa (bu (aa au ai)) (aa (bu (aa au ai)) (aa (bu (aa au ai)) ai)))) (bb jg (pv 3) aj))))
 aK)
 (ah (bf (aI bz (pv 3) aj (aL _))
 (ao (aG (bu (aa au (aa (az sZ qu T.nF (aa (pv 4) ai)) ai)))))
 aK)
 (ah (bf (aI oh (pv 3) aj (aL _))
 (ao (aG (bu (aa au (aa (bb cT aj (bb bY (pv 4) (pv 2))) (aa aj ai))))))
 aK)
 (ah (bf (aI oh (pv 3) aj (aL _))
 (ao (aG (az (Co T) hr.mono T.zc (aa (pv 4) (aa (pv 2) ai)))))
 aK)
 (ah (bf (aI bz (pv 3) aj (aL _))
 (ao (aG (bu (aa au ai))))
 aK)
 (ah (bf (PW.pt (pw_and (aI (Ny bt) (bx bt (pv 0) au) j7 (aL _)) (pw_and1 (aI A2 (bb bY (pv 4) aj) aj (aL _)))))
 (ao (aG (bu (aa au (aa (aO br (bA (m9 hr.hd) (by rfl) T.zf va (aa (bx bt (pv 0) au) ai)) (bb bY (bb cy (pv 4) aj) (bA Bh (by rfl) T.dS cC (aa (bx bt (pv 0) au) ai)))) ai)))))
 aK)
 (ao (aG (bu (aa au (aa (bb jg (bb bY (bb cy (pv 4) aj) (bb cT (bA bF (by rfl) T.dS cC (aa (bx bt (pv 0) au) ai)) aj)) aj) ai)))))))))))))))))))))),?_⟩
 symm;have lim:fu=16777216:=by decide
 have e10:(10:Int) ^ 10=10000000000:=by decide
 refine⟨_,rfl,_,_,rfl,rfl,(by show (0:Int) < 20;decide),_,rfl,_,_,rfl,rfl,⟨by decide,by decide⟩,?_⟩
 dsimp only[cZ];have y0:0<=z % 20:=VR _ (by decide)
 have y1:z % 20 < 20:=VA _ (by decide)
 generalize z % 20=y at y0 y1 ⊢;generalize z / 20=x;refine dG (λσ' H'=>∃y:Int,σ'=[some (.ref m),some (.int z),some (.int n),some (.int y),some (.int x),none,none,none,none,none]/\0<=y/\y < 20/\bh H H') ?r1 (λN' nN=>?f1)
 case f1 =>
  refine⟨_,rfl,_,_,rfl,rfl,(by show (0:Int) < 3;decide),_,_,rfl,rfl,_,rfl,dg (λ_=>?_) (λ_=>?_)⟩
  ·exact⟨_,rfl,_,rfl,m,y,c,st,N,rfl,hm,I,λj H1 j0 j1 s1=>nN _ _ ⟨j,rfl,j0,j1,s1⟩⟩
  exact nN _ _ ⟨y,rfl,y0,y1,λ_ _ h=>h⟩
 case r1 =>
 clear y0 y1;rintro σ1 H1 ⟨y,rfl,y0,y1,s1⟩;refine⟨_,rfl,_,_,rfl,rfl,⟨by decide,by decide⟩,?_⟩
 dsimp only[cZ];generalize x / 3=x;refine dG (λσ' H'=>σ'=[some (.ref m),some (.int z),some (.int n),some (.int y),some (.int x),some (.int 1),none,none,none,none]/\H'=H1) ?ra (λN' nN=>nN _ _ ⟨rfl,rfl⟩)
 case ra =>
 rintro σa Ha ⟨rfl,rfl⟩;refine dG (λσ' H'=>σ'=[some (.ref m),some (.int z),some (.int n),some (.int y),some (.int x),some (.int 1),some (.str (ar "")),none,none,none]/\H'=Ha) ?rb (λN' nN=>nN _ _ ⟨rfl,rfl⟩)
 case rb =>
 rintro σb H1 ⟨rfl,rfl⟩;refine dG (λσ' H'=>∃(k:Int) (cl:Str) (v7 v8:Option V),σ'=[some (.ref m),some (.int z),some (.int n),some (.int y),some (.int x),some (.int k),some (.str cl),v7,v8,none]/\0<=k/\k<=900/\cl.length+2<=fu/\(R.bL cl).length<=900/\bh H H') ?r2 (λN' nN=>?f2)
 case f2 =>
  have X1:=X.same s1;refine cv rfl X1.gp ⟨(sl 0),λp hp=>?_⟩
  have s2:=s1.new (o:=.lst []) hp;have X2:=X.same s2;refine⟨eV st.aJ,.list [],gw (ay.of X2.aJ.2),qt (ay.of ae),lE _,qr,_,rfl,?_⟩;rw[lD];generalize ag H1 p (.lst [])=H2 at s2 X2 ⊢;rcases Vg st.aJ with e | ⟨pre,t,e⟩
  ·rw[e];exact b8 (nN _ _ ⟨1,_,_,_,rfl,by decide,by decide,by trivial,by trivial,s2⟩)
  refine aS λGa hGa=>?_
  rw[Vh]at e;obtain⟨b,r,eb⟩:∃b r,st.aJ=b::r:=by
   cases hp:st.aJ with
   |nil=>rw[hp]at e;simp at e
   |cons b r=>exact⟨b,r,rfl⟩
  have hb:=I.cF b (by rw[eb];simp)
  have ht:=I.cF t (by rw[e];simp)
  have hA0:atI (st.aJ.map nV) 0=some (nV b):=by rw[eb];exact cS (j:=0) rfl
  have hA1:atI (st.aJ.map nV) (-1)=some (nV t):=by rw[e,kt];exact fG _ _
  refine hGa ?_;refine kT (by rw[eb];rfl) ?_
  refine⟨_,rfl,cv rfl X2.gp ⟨aP,_,_,_,rfl,rfl,ay.of X2.aJ.2,hA0,m,b,c,st,rfl,X2.at,hb,λtb htb=>?_⟩⟩
  refine⟨_,rfl,_,rfl,m,_,rfl,X2.gp,_,rfl,aP,_,_,_,rfl,rfl,ay.of X2.aJ.2,hA1,m,t,c,st,rfl,X2.at,ht,λtt htt=>?_⟩
  refine aS λGb hGb=>?_
  obtain⟨_,vb,hvb,SM⟩:=htb;obtain⟨_,vt,hvt,SN⟩:=htt;refine hGb ?_;dsimp only[cZ];refine dG (λσ' H'=>∃(k:Int),σ'=[some (.ref m),some (.int z),some (.int n),some (.int y),some (.int x),some (.int k),some (.str (ar "")),some (.ref tb),some (.ref tt),none]/\0<=k/\k<=900/\H'=H2) ?r3 (λN2 nN2=>?f3)
  case f3 =>
   refine a8 rfl (aW.of hvb) eD ⟨rfl,_,rfl,?_⟩;rw[zS _ (st.mo b).k8]
   by_cases h0:(st.mo b).k=0
   case neg =>
    rw[bV h0];exact b8 (nN2 _ _ ⟨1,rfl,by decide,by decide,rfl⟩)
   rw[bG h0];refine aS λGc hGc=>?_
   have hmo:=I.vF hb;obtain⟨tx,etx⟩:∃tx,st.mo b=.mat tx:=by
    cases hmo:st.mo b with
    |mat tx=>exact⟨tx,rfl⟩
    |_=>rw[hmo]at h0;simp[Mn.k]at h0
   rw[etx]at hvb SM hmo;obtain⟨L,rfl,hL⟩:=SM;have hl:tx.length<=13+N:=hmo.1;refine hGc ?_;refine dR (a8 rfl (aW.of hvb) rfl ⟨L,_,rfl,.inl (ay.of hL.2),nN2 _ _ ⟨_,rfl,?_,?_,rfl⟩⟩)
   ·omega
   rw[bo];omega
  case r3 =>
  rintro σ3 H3 ⟨k,rfl,k0,k1,rfl⟩;refine a8 rfl (aW.of hvt) eD ⟨rfl,_,rfl,?_⟩;rw[cA _ (st.mo t).k8]
  by_cases h1:(st.mo t).k=1
  case neg =>
   rw[bV h1];exact b8 (b8 (nN _ _ ⟨k,_,_,_,rfl,k0,k1,by trivial,by trivial,s2⟩))
  rw[bG h1];refine aS λGd hGd=>?_
  have hmo:=I.vF ht;obtain⟨e,emo⟩:∃e,st.mo t=.chg e:=by
   cases hmo:st.mo t with
   |chg e=>exact⟨e,rfl⟩
   |_=>rw[hmo]at h1;simp[Mn.k]at h1
  rw[emo]at hvt SN hmo;have Uw:EdB (12+N) e:=hmo;obtain⟨tc,rfl,htc⟩:=SN;refine hGd ?_;refine dR (a8 rfl (aW.of hvt) rfl ⟨tc,_,_,_,rfl,rfl,htc.sq,lO e,rfl,_,rfl,?_⟩);rw[Dv]
  by_cases hk1:e.k=1
  ·rw[bG hk1];exact b8 (nN _ _ ⟨k,_,_,_,rfl,k0,k1,by trivial,by trivial,s2⟩)
  rw[bV hk1];obtain⟨z1,z2⟩:=SK Uw (by omega)
  exact dR (a8 rfl (aW.of hvt) rfl ⟨tc,_,_,_,rfl,rfl,htc.sq,sN hk1,nN _ _ ⟨k,_,_,_,rfl,k0,k1,z1,z2,s2⟩⟩)
 case r2 =>
 clear s1;rintro σ2 H2 hp0;refine aS λGe hGe=>?_
 obtain⟨k,cl,v7,v8,rfl,k0,k1,c1,c2,s2⟩:=hp0;have X2:=X.same s2;have tup:∀(d:R.bI) (H3:Hp) (t:Addr) (xs:List V),mN d->R.B4 d->bh H H3->H3 t=none->(b6 (bP c H) (ag H3 t (.tup xs)) d t)->Q (.ref t) (ag H3 t (.tup xs)):=λd H3 t xs o so s3 ht dz=>q d t _ o so dz (s3.new ht)
 have num:∀(kd:Str) (ns:List Int) (H3:Hp) (t:Addr),mN (.nums kd ns)->R.B4 (.nums kd ns)->bh H H3->H3 t=none->Q (.ref t) (ag H3 t (.tup (.str kd::ns.map V.int))):=λkd ns H3 t o so s3 ht=>tup _ H3 t _ o so s3 ht ⟨bS (same_none s3 ht),ae⟩
 refine hGe ?_;refine⟨_,rfl,_,_,rfl,rfl,_,rfl,dg (λ_=>?_) (λg1=>?_)⟩
 ·refine⟨_,rfl,_,_,rfl,rfl,(by show (0:Int) < 5;decide),?_⟩
  dsimp only[cZ];refine dG (λσ' H'=>H2=H'/\∃a:Int,σ'=[some (.ref m),some (.int z),some (.int n),some (.int y),some (.int x),some (.int k),some (.str cl),v7,v8,some (.int a)]/\0<=a/\a<=12) ?rm (λN' nN=>?fm)
  case fm =>
   refine⟨_,rfl,_,_,rfl,rfl,⟨by decide,by decide⟩,_,_,rfl,rfl,(by show (0:Int) < 8;decide),rfl,_,rfl,dg (λ_=>?_) (λ_=>?_)⟩
   ·refine⟨_,rfl,_,_,rfl,rfl,⟨by decide,by decide⟩,_,_,rfl,rfl,(by show (0:Int) < 8;decide),_,_,rfl,rfl,nN _ _ ⟨rfl,_,rfl,?_,?_⟩⟩
    ·omega
    omega
   exact nN _ _ ⟨rfl,_,rfl,by omega,by omega⟩
  case rm =>
  rintro σm H2' ⟨rfl,a,rfl,a0,a1⟩;refine⟨_,rfl,_,rfl,by omega,by omega,λW hW=>?_⟩
  dsimp only;generalize hm:a.toNat=mm;have m6:mm<=12:=by omega
  refine xW (lo:=0) (n:=mm) (λi ys H3=>∃cs:List (List Str),ys=(cs.map (kx R.bl1)).map V.str/\cs.length=i/\(∀x∈cs,R.uD 12 x)/\bh H2 H3/\H3 W=some (.lst ys))
   ⟨[],rfl,rfl,(λx hx=>nomatch hx),aw hW,ae⟩ (by omega) ?_ ?_ ?_
  ·rintro i ys H3 hi ⟨cs,rfl,hl,hg,s3,h3⟩;exact⟨h3,by rw[bo,bo];exact hl⟩
  ·rintro i ys H3 hi ⟨cs,rfl,hl,hg,s3,h3⟩;refine⟨_,rfl,_,_,rfl,rfl,⟨by decide,by decide⟩,_,rfl,_,_,rfl,rfl,.inl ⟨by decide,by decide⟩,_,_,rfl,rfl,_,rfl,λus H4 hus s4=>?_⟩
   refine cI.mk hi (s4 _ _ h3) ⟨cs++[us],by simp,by simp[hl],λe he=>?_,(s3.trans s4).own hW,ae⟩
   rcases List.mem_append.mp he with he | he
   ·exact hg e he
   rw[List.mem_singleton.mp he];exact hus
  rintro ys H3 ⟨cs,rfl,hl,hg,s3,h3⟩;refine⟨(sl 2),λt ht=>?_⟩
  have nW:W≠t:=aQ h3 ht;refine tup (.mat cs) H3 t _ (.move ⟨by omega,hg⟩) ⟨trivial,λ_ z=>by cases z;omega⟩ (s2.trans s3) ht ⟨W,⟨bS (same_none (s2.trans s3) ht),ae⟩,bS (same_none s2 hW),(ax nW).trans h3⟩
 refine⟨_,rfl,_,_,rfl,rfl,_,rfl,dg (λ_=>?_) (λg2=>?_)⟩
 ·refine⟨_,rfl,_,rfl,_,rfl,_,_,rfl,rfl,⟨by decide,by decide⟩,_,rfl,λus H3 hus s3=>?_⟩
  refine⟨_,k,_,rfl,k0,k1,λkk j e H4 hk j0 j1 s4 ne he=>⟨(sl 2),λt ht=>?_⟩⟩
  have s24:=s2.trans (s3.trans s4);have net:e≠t:=aQ he ht;exact tup (.ed false kk j us) H4 t _ (.move ⟨hk,⟨by omega,by omega⟩,hus,λz=>nomatch z⟩) ⟨trivial,λ_ z=>nomatch z⟩ s24 ht ⟨e,⟨bS (same_none s24 ht),ae⟩,bS (same_none (s2.trans s3) ne),.inl ((ax net).trans he)⟩
 refine⟨_,rfl,_,_,rfl,rfl,_,rfl,dg (λ_=>?_) (λg3=>?_)⟩
 ·refine⟨_,rfl,_,rfl,cl,rfl,c1,λp hp=>⟨p,_,rfl,.inl (ay.of ae),_,rfl,_,_,rfl,rfl,⟨by decide,by decide⟩,_,rfl,λu hu=>?_⟩⟩
  have s3:=s2.new (o:=.lst ((R.bL cl).map V.str)) hp;refine⟨_,_,_,rfl,by omega,by rw[bo];omega,λkk j e H4 hk j0 j1 s4 ne he=>⟨(sl 2),λt ht=>?_⟩⟩
  have s24:=s3.trans s4;have net:e≠t:=aQ he ht;have ju:kx R.bl1 [u]=u:=by rfl
  refine tup (.ed true kk j [u]) H4 t _ (.move ⟨hk,⟨by omega,by omega⟩,⟨(by show 1<=12;decide),λz hz=>by rw[List.mem_singleton.mp hz];exact hu⟩,λ_=>rfl⟩) ⟨trivial,λ_ z=>nomatch z⟩ s24 ht ⟨e,⟨bS (same_none s24 ht),ae⟩,bS (same_none s3 ne),.inl ((ax net).trans ?_)⟩
  rw[ju];exact he
 refine⟨_,rfl,rfl,_,rfl,dg (λ_=>?_) (λg4=>?_)⟩
 ·refine cv rfl X2.gs ⟨_,rfl,_,_,rfl,rfl,(by show (0:Int) < 4;decide),_,_,rfl,rfl,_,_,rfl,rfl,_,_,rfl,(sl 2),λt ht=>?_⟩
  have hs:=I.sit;have x0:0<=x % 4:=VR _ (by decide)
  have x1:x % 4 < 4:=VA _ (by decide)
  refine num (ar "put off") [if st.bc+x % 4 - 1 > 1 then st.bc+x % 4 - 1 else 1] H2 t (.move ⟨by unfold lz;simp,λi hi=>?_⟩) ⟨λ_ i hi=>?_,λ_ z=>nomatch z⟩ s2 ht
  ·rw[List.mem_singleton.mp hi,e10];split <;> omega
  rw[List.mem_singleton.mp hi];split <;> omega
 refine⟨_,rfl,_,_,rfl,rfl,_,rfl,dg (λg5=>?_) (λg5=>?_)⟩
 ·have y8:8<=y:=by
   have a1:¬y < 7:=λz=>g3 (bG z)
   have a2:¬y=7:=λz=>g4 (bG (by rw[z]))
   omega
  have y11:y < 11:=eM g5;refine⟨(sl 1),λt1 h1=>⟨(sl 1),λt2 h2=>⟨(sl 1),λt3 h3=>⟨(sl 3),λp hp=>?_⟩⟩⟩⟩
  have s3:=s2.new (o:=.tup [V.str (ar "close")]) h1;have s4:=s3.new (o:=.tup [V.str (ar "lay")]) h2;have s5:=s4.new (o:=.tup [V.str (ar "rest")]) h3;have s6:=s5.new (o:=.lst [V.ref t1,.ref t2,.ref t3]) hp;have w2:=aw (o:=.tup [V.str (ar "lay")]) h2;have w3:=aw (o:=.tup [V.str (ar "rest")]) h3;have w4:=aw (o:=.lst [V.ref t1,.ref t2,.ref t3]) hp;have pick:y - 8=0\/y - 8=1\/y - 8=2:=by omega
  refine⟨_,rfl,_,_,rfl,rfl,?_⟩;dsimp only;have mk:∀kd,(kd,0)∈lz->mN (.nums kd []):=λkd h=>.move ⟨h,λi hi=>nomatch hi⟩
  rcases pick with e | e | e <;> rw[e]
  ·refine⟨p,_,_,_,rfl,rfl,ay.of ae,rfl,q (.nums (ar "close") []) t1 _ (mk _ (by unfold lz;simp)) (R.qe (by trivial)) ⟨bS (same_none s2 h1),?_⟩ s6⟩
   exact((w2.trans w3).trans w4) _ _ ae
  ·refine⟨p,_,_,_,rfl,rfl,ay.of ae,rfl,q (.nums (ar "lay") []) t2 _ (mk _ (by unfold lz;simp)) (R.qe (by trivial)) ⟨bS (same_none s3 h2),?_⟩ s6⟩
   exact(w3.trans w4) _ _ ae
  refine⟨p,_,_,_,rfl,rfl,ay.of ae,rfl,q (.nums (ar "rest") []) t3 _ (mk _ (by unfold lz;simp)) (R.qe (by trivial)) ⟨bS (same_none s4 h3),?_⟩ s6⟩
  exact w4 _ _ ae
 refine⟨_,rfl,rfl,_,rfl,dg (λ_=>?_) (λ_=>?_)⟩
 ·refine⟨_,rfl,_,rfl,λus H3 hus s3=>⟨(sl 2),λt ht=>?_⟩⟩
  exact tup (.pt us) H3 t _ (.move hus) ⟨trivial,λ_ z=>nomatch z⟩ (s2.trans s3) ht ⟨bS (same_none (s2.trans s3) ht),ae⟩
 refine⟨_,rfl,_,_,rfl,rfl,_,rfl,dg (λ_=>?_) (λ_=>?_)⟩
 ·refine⟨_,rfl,_,rfl,_,_,rfl,rfl,(by show (0:Int) < n;omega),_,_,rfl,rfl,(sl 3),λt ht=>?_⟩
  have x0:0<=x % n:=VR _ (by omega)
  have x1:x % n < n:=VA _ (by omega)
  exact num (ar "vote") [1+x % n,0] H2 t (.zX ⟨by omega,by omega⟩ ⟨by decide,by decide⟩) (R.qe (by trivial)) s2 ht
 refine⟨_,rfl,_,_,rfl,rfl,_,rfl,dg (λ_=>?_) (λ_=>?_)⟩
 ·refine⟨_,rfl,_,rfl,_,_,rfl,n1,n2,λa b t H3 ha hb s3 nt ht=>?_⟩
  exact q (.nums (ar "vote") [a,b]) t H3 (.zX ha hb) (R.qe (by trivial)) ⟨bS (same_none s2 nt),ht⟩ (s2.trans s3)
 refine⟨_,rfl,rfl,_,rfl,dg (λ_=>?_) (λ_=>?_)⟩
 ·exact⟨(sl 1),λt ht=>num (ar "drop") [] H2 t .drop (R.qe (by trivial)) s2 ht⟩
 have lm:=I.lm;have al:=I.uM;have el:es.length=st.made.length:=by rw[<-X2.ent.len,kK]
 refine cv rfl X2.ga (λp hp=>?_)
 have s3:=s2.new (o:=.dK []) hp;have X3:=X.same s3;refine⟨aA,p,_,rfl,rfl,X3.aU.2,ae,_,rfl,?_⟩;generalize ag H2 p (.dK [])=H3 at s3 X3 ⊢;have lst:∀(t:Addr),H3 t=none->Q (.ref t) (ag H3 t (.tup [V.str (ar "take"),.int (x / 4 % ((es.length:Int)+3) - 1)])):=λt ht=>by
  have x0:0<=x / 4 % ((es.length:Int)+3):=VR _ (by omega)
  have x1:x / 4 % ((es.length:Int)+3) < (es.length:Int)+3:=VA _ (by omega)
  exact num (ar "take") [x / 4 % ((es.length:Int)+3) - 1] H3 t (.take (by omega) (by omega)) (R.qe (by trivial)) s3 ht
 have wl:=X3.wait.len;have O5:=Ai st.aU ws wl;have hlen:(bD ((st.aU.map (·.1)).zip ws)).length=st.aU.length:=by
  have:=congrArg Wf O5;rw[bo,bo,bo]at this;exact this
 cases ea:(bD ((st.aU.map (·.1)).zip ws)).isEmpty with
 |true =>
  refine b8 (b8 ?_);exact⟨_,rfl,_,_,rfl,rfl,⟨by decide,by decide⟩,cv rfl X3.gm ⟨aM,_,rfl,.inl (ay.of X3.je.2),_,_,rfl,rfl,_,_,rfl,rfl,(by show (0:Int) < (es.length:Int)+3;omega),_,_,rfl,rfl,(sl 2),lst⟩⟩
 |false =>
  refine dR ?_;refine⟨_,rfl,_,_,rfl,rfl,(by show (0:Int) < 4;decide),_,_,rfl,rfl,_,rfl,dg (λ_=>?_) (λ_=>?_)⟩
  ·have a1:0 < st.aU.length:=by
    rw[<-hlen];cases h:bD ((st.aU.map (·.1)).zip ws) with
    |nil=>rw[h]at ea;cases ea
    |cons _ _=>exact Nat.succ_pos _
   refine cv rfl X3.ga ⟨aA,_,_,rfl,X3.aU.2,O5,by rw[bo];omega,λl ns pm so hl=>?_⟩
   have nl:ns.length=st.aU.length:=by rw[pm.length_eq,bo]
   have s4:=s3.new (o:=.lst (ns.map V.int)) hl;have X4:=X.same s4;have hB:ay K (ag H3 l (.lst (ns.map V.int))) l (ns.map V.int):=ay.of ae;generalize ag H3 l (.lst (ns.map V.int))=H4 at s4 X4 hB ⊢;refine aS λGf hGf=>?_
   have x0:0<=x / 4 % (st.aU.length:Int):=VR _ (by omega)
   have x1:x / 4 % (st.aU.length:Int) < (st.aU.length:Int):=VA _ (by omega)
   obtain⟨j,ej⟩:∃j:Nat,x / 4 % (st.aU.length:Int)=(j:Int):=⟨(x / 4 % (st.aU.length:Int)).toNat,by omega⟩
   have hj:j < ns.length:=by omega
   have G6:ns[j]∈st.aU.map λx=>(x.1:Int):=pm.mem_iff.mp (Wh hj)
   obtain⟨y0,hy0,e0⟩:=List.mem_map.mp G6;obtain⟨yr,er⟩:=(I.asd y0 hy0).2.1;have hno:=I.qm hy0 y0.1 (by rw[er];exact eg)
   have e0':((y0.1:Nat):Int)=ns[j]:=e0;have at1:atI (ns.map V.int) (x / 4 % (st.aU.length:Int))=some (.int ns[j]):=by
    rw[ej];exact cS (by rw[sr,wa hj];rfl)
   refine hGf ?_;refine⟨_,rfl,_,_,rfl,rfl,⟨by decide,by decide⟩,cv rfl X4.ga ⟨aA,_,rfl,X4.aU.2,_,_,rfl,rfl,(by rw[hlen];show (0:Int) < _;omega),?_⟩⟩
   rw[hlen];refine⟨l,_,_,_,rfl,rfl,hB,at1,(sl 2),λt ht=>?_⟩
   have h1:=hno.1;have h2:=hno.2;exact num (ar "take") [ns[j]] H4 t (.take (by omega) (by omega)) (R.qe (by trivial)) s4 ht
  exact⟨_,rfl,_,_,rfl,rfl,⟨by decide,by decide⟩,cv rfl X3.gm ⟨aM,_,rfl,.inl (ay.of X3.je.2),_,_,rfl,rfl,_,_,rfl,rfl,(by show (0:Int) < (es.length:Int)+3;omega),_,_,rfl,rfl,(sl 2),lst⟩⟩
def JV:Sp:=λvs H Q _=>∃c:Int,vs=[.int c]/\∀n:Int,1<=n->n<=1000000000->Q (.int n) H
theorem Hm (T:Txt w.params K mg A):aC P w K mg base a5 1 A.Ik A.yW ["_law_cell"] JV:=by
 refine T.B1.F.ok GL (by left) λ_ _ _ _ H _ Q E hr h=>?_
 obtain⟨c,rfl,q⟩:=h;refine⟨_,(ah (bf (aI bz (bb bY (pv 0) aj) aj (aL _))
 (ao (aG (bb cT aj (bb bY (bb cy (pv 0) aj) aj))))
 aK)
 (ao (aG (bb cT aj (bb bY (bb cy (pv 0) aj) (bb Pl aj aj)))))),?_⟩
 symm;refine⟨_,rfl,_,_,rfl,rfl,(by show (0:Int) < 2;decide),rfl,_,rfl,dg (λ_=>?_) (λ_=>?_)⟩
 ·refine⟨_,rfl,_,_,rfl,rfl,⟨by decide,by decide⟩,_,_,rfl,rfl,(by show (0:Int) < 9;decide),_,_,rfl,rfl,q _ ?_ ?_⟩ <;> omega
 have e:(10:Int) ^ (9:Int).toNat=1000000000:=by decide
 refine⟨_,rfl,_,_,rfl,rfl,⟨by decide,by decide⟩,_,_,rfl,rfl,⟨by decide,by decide,by decide⟩,_,_,rfl,rfl,(by rw[e];show (0:Int) < 1000000000;decide),_,_,rfl,rfl,q _ ?_ ?_⟩ <;> rw[e] <;> omega
namespace R
def WAt (H:Hp):List Addr->List (List Str)->Prop
 |[],cs=>cs=[]
 |p::ps,cs=>∃ws r,cs=ws::r/\H p=some (.lst (ws.map V.str))/\WAt H ps r
theorem WAt.same {H H':Hp}(s:bh H H'):∀ {ps:List Addr} {cs:List (List Str)},WAt H ps cs->WAt H' ps cs
 |[],_,h=>h
 |_::_,_,⟨ws,r,e,h,t⟩=>⟨ws,r,e,s _ _ h,WAt.same s t⟩
theorem WAt.ag {H:Hp}{b:Addr}{o:HO}:∀ {ps:List Addr} {cs:List (List Str)},b∉ps->WAt H ps cs->WAt (ag H b o) ps cs
 |[],_,_,h=>h
 |p::ps,_,hb,⟨ws,r,e,h,t⟩=>⟨ws,r,e,(ax λz=>hb (by rw[z];exact eg)).trans h,WAt.ag (λz=>hb (ma _ z)) t⟩
theorem WAt.snoc {H:Hp}:∀ {ps:List Addr} {cs:List (List Str)} {p:Addr} {ws:List Str},WAt H ps cs->H p=some (.lst (ws.map V.str))->WAt H (ps++[p]) (cs++[ws])
 |[],_,p,ws,h,e=>by
  have h':_=[]:=h;subst h';exact⟨ws,[],rfl,e,rfl⟩
 |_::_,_,p,ws,⟨ws',r,e',h,t⟩,e=>⟨ws',r++[ws],by rw[e'];rfl,h,WAt.snoc t e⟩
theorem WAt.Mp {H:Hp}:∀ {ps:List Addr} {cs:List (List Str)} {p:Addr},WAt H (ps++[p]) cs->∃ds d,cs=ds++[d]/\WAt H ps ds/\H p=some (.lst (d.map V.str))
 |[],_,p,⟨ws,r,e,h,t⟩=>by
  have t':r=[]:=t;exact⟨[],ws,by rw[e,t'];rfl,rfl,h⟩
 |_::_,_,p,⟨ws,r,e,h,t⟩=>by
  obtain⟨ds,d,e2,t2,h2⟩:=WAt.Mp t;exact⟨ws::ds,d,by rw[e,e2];rfl,⟨ws,ds,rfl,h,t2⟩,h2⟩
theorem WAt.len {H:Hp}:∀ {ps:List Addr} {cs:List (List Str)},WAt H ps cs->ps.length=cs.length
 |[],_,h=>by
  have h':_=[]:=h;rw[h'];rfl
 |_::_,_,⟨ws,r,e,h,t⟩=>by rw[e,UQ,UQ,WAt.len t]
theorem WAt.get {H:Hp}:∀ {ps:List Addr} {cs:List (List Str)} {i:Nat} {p:Addr},WAt H ps cs->ps[i]?=some p->∃ws,cs[i]?=some ws/\H p=some (.lst (ws.map V.str))
 |[],_,_,_,_,g=>by simp at g
 |_::_,_,0,p,⟨ws,r,e,h,t⟩,g=>by
  obtain rfl:=US g;exact⟨ws,by rw[e];rfl,h⟩
 |_::_,_,i+1,p,⟨ws,r,e,h,t⟩,g=>by
  obtain⟨x,h1,h2⟩:=WAt.get t (show _=some p from g)
  exact⟨x,by rw[e];exact h1,h2⟩
def qQ (H H':Hp):bI->Addr->Prop
 | .mat cs,t=>∃L,H' t=some (.tup [.str (ar "matter"),.ref L])/\H L=none/\H' L=some (.lst ((cs.map (kx bl1)).map V.str))
 | .ed m k i ws,t=>∃e,H' t=some (.tup [.str (kEd m),.ref e])/\H e=none/\H' e=some (.tup (edR k i (kx bl1 ws)))
 | .pt ws,t=>H' t=some (.tup [.str (ar "point"),.str (kx bl1 ws)])
 | .nums kd ns,t=>H' t=some (.tup (.str kd::ns.map V.int))
noncomputable def lF (c:Nat):Bool:=decide (33<=c) && (decide (c<=126) && decide (c≠37))
def dH (z:Str):Bool:=decide (1<=z.length) && (decide (z.length<=20) && (!decide (z=sl1) && z.cps.toList.all lF))
noncomputable def js (c:Nat):Bool:=decide (48<=c) && decide (c<=57)
def dC (z:Str):Bool:=decide (z≠em) && (decide (z.length<=10) && (z.cps.toList.all js && (decide (z=ar "0") || !decide (z.cps.toList.head?=some 48))))
noncomputable def fD (z:Str):Int:=(PySem.intText? z).getD 0
def clausesOf:List (List Str)->List Str->Option (List (List Str))
 |acc,[]=>some acc
 |acc,w::r=>if w=sl1 then clausesOf (acc++[[]]) r else if acc=[] then none else clausesOf (acc.dropLast++[acc.getLastD []++[w]]) r
def readText (ws:List Str):Option (List (List Str)):=(clausesOf [] ws).bind λcs=>if cs.all (λc=>c.all dH)=true then some cs else none
def gu:List Str->Option (Nat×Int×List Str)
 |k::p::th=>if dC p=true then (if k=kn 1 then (if th=[] then some (1,fD p,[]) else none) else if (k=kn 0\/k=kn 2)/\th.all dH=true then some (if k=kn 0 then 0 else 2,fD p,th) else none) else none
 |_=>none
def jf (ws:List Str):Option (Nat×Int×List Str):=(gu ws).bind λe=>if e.1=1\/ws.length=3 then some e else none
def qR:List Str->Option Int
 |[o,n]=>if o=ar "off"/\dC n=true/\1<=fD n/\fD n<=999999999 then some (fD n) else none
 |_=>none
noncomputable def JW:List Str:=[ar "close",ar "lay",ar "rest",ar "drop"]
def uQ:List Str->Option bI
 |[a,b]=>if dC a=true/\dC b=true then some (.nums (ar "vote") [fD a,fD b]) else none
 |_=>none
def uR:List Str->Option bI
 |[a]=>if dC a=true then some (.nums (ar "take") [fD a]) else none
 |_=>none
def cY:List Str->Option bI
 |[]=>none
 |k::ws =>
  if k=ar "matter" then (readText ws).map .mat
  else if k=ar "change" then (gu ws).map λe=>.ed false e.1 e.2.1 e.2.2
  else if k=ar "mend" then (jf ws).map λe=>.ed true e.1 e.2.1 e.2.2
  else if k=ar "put" then (qR ws).map λn=>.nums (ar "put off") [n]
  else if k=ar "point" then (if ws.all dH=true then some (.pt ws) else none)
  else if k=ar "vote" then uQ ws
  else if k=ar "take" then uR ws
  else if k∈JW/\ws=[] then some (.nums k []) else none
structure jD (ws:List Str):Prop where
 sz:(ws.map (·.length)).sum+ws.length<=60000
 asc:∀w∈ws,Asc w
theorem jD.len {ws:List Str}(o:jD ws):ws.length<=60000:=by have:=o.sz;omega
theorem Mq:∀ {ws:List Str} {w:Str},w∈ws->w.length<=(ws.map (·.length)).sum
 |x::r,w,h=>by
  rw[rf,List.sum_cons];rcases List.mem_cons.mp h with rfl | h
  ·omega
  have:=Mq h;omega
theorem jD.wl {ws:List Str}(o:jD ws){w:Str}(h:w∈ws):w.length<=60000:=by have:=o.sz;have:=Mq h;omega
theorem Mr (ws:List Str)(n:Nat):((ws.drop n).map (·.length)).sum<=(ws.map (·.length)).sum:=by
 rw[List.map_drop]
 conv=>rhs;rw[<-List.take_append_drop n (ws.map (·.length)),List.sum_append]
 omega
theorem jD.drop {ws:List Str}(o:jD ws)(n:Nat):jD (ws.drop n) :=
 have h1:=Mr ws n;have h2:=o.sz;have h3:(ws.drop n).length<=ws.length:=by rw[VM];omega
 ⟨by omega,λw hw=>o.asc w (List.mem_of_mem_drop hw)⟩
def vI (_:ba)(_:Int)(_:XK)(_:Hp):Prop:=False
theorem vI.same {A:ba}{n:Int}{E:XK}{H H1:Hp}(e:vI A n E H)(_:bh H H1):vI A n E H1:=e
def vJ (A:ba):Sp:=λvs H Q E=>∃b:Bool,vs=[.bl b]/\(b=true->Q .non H)/\(b=false->vI A 1 E H)
def Ms:Sp:=λvs H Q _=>∃c:Nat,vs=[.str ⟨#[c]⟩]/\Q (.bl (lF c)) H
def Mt:Sp:=λvs H Q _=>∃z:Str,vs=[.str z]/\z.length<=60000/\∀H',bh H H'->Q (.bl (dH z)) H'
def Oc:Sp:=λvs H Q _=>∃z:Str,vs=[.str z]/\z.length<=60000/\∀H',bh H H'->Q (.bl (dC z)) H'
def Mu (A:ba):Sp:=λvs H Q E=>∃z:Str,vs=[.str z]/\z.length<=60000/\(dC z=true->∀H',bh H H'->Q (.int (fD z)) H')/\(dC z=false->vI A 1 E H)
def JX (K:de)(A:ba):Sp:=λvs H Q E=>∃(a:Addr) (ws:List Str),vs=[.ref a]/\ay K H a (ws.map V.str)/\jD ws/\(ws.all dH=true->∀H',bh H H'->Q (.str (kx bl1 ws)) H')/\(ws.all dH=false->vI A 1 E H)
theorem lt1 (a b:Nat):decide ([a] < [b])=decide (a < b):=by
 rw[Vw,decide_eq_true_iff,decide_eq_true_iff];constructor
 ·intro h;cases h with
  |rel h=>exact h
  |cons h=>cases h
 exactλh=>.rel h
theorem dD (T:Txt w.params K mg A):aC P w K mg base a5 3 A.xB A.ni ["holds"] (vJ A):=by
 refine T.cH.F.ok GG (by left) λ_ _ _ _ H _ Q E hr h=>?_
 obtain⟨b,rfl,h1,h2⟩:=h;refine⟨_,(ao (bf (mT (lH (pv 0)))
 (ao ps_dead)
 aK)),?_⟩
 symm;refine⟨_,rfl,b,rfl,?_⟩;cases b with
 |true=>exact b8 (h1 rfl)
 |false=>exact dR (h2 rfl)
theorem Ho (T:Txt w.params K mg A):aC P w K mg base a5 1 A.HY A.yJ ["sign"] Ms:=by
 refine T.BS.F.ok GH (by left) λ_ _ _ _ H _ Q E hr h=>?_
 obtain⟨c,rfl,q⟩:=h;refine⟨_,(ao (aG (jZ (gP qG qG au (pv 0) au) (iw (b5 kR (bA Kh (by rfl) T.Sg PK (aa (pv 0) ai)) (fU (v:=V.int 37) rfl T.JI ⟨_,rfl⟩) (aL _)))))),?_⟩
 symm;have e1:(ar "!").cps.toList=[33]:=by trivial
 have e2:(ar "~").cps.toList=[126]:=by trivial
 refine⟨_,rfl,_,_,rfl,rfl,_,rfl,?_⟩;rw[e1,show (⟨#[c]⟩:Str).cps.toList=[c] from rfl,lt1]
 by_cases h1:c < 33
 ·rw[bG h1];refine b8 ⟨_,rfl,b8 ?_⟩;rw[lF,bV (show ¬33<=c by omega)]at q
  exact q
 rw[bV h1];refine dR ⟨_,_,rfl,rfl,_,rfl,?_⟩;rw[e2,show (⟨#[c]⟩:Str).cps.toList=[c] from rfl,lt1]
 by_cases h2:126 < c
 ·rw[bG h2];refine b8 ?_;rw[lF,bG (show 33<=c by omega),bV (show ¬c<=126 by omega)]at q
  exact q
 rw[bV h2];refine dR ⟨_,rfl,_,rfl,rfl,rfl,?_⟩;rw[lF,bG (show 33<=c by omega),bG (show c<=126 by omega)]at q
 have e3:(!decide (V.int ((((⟨#[c]⟩:Str).cps.getD 0 0:Nat)):Int)=V.int 37))=decide (c≠37):=by
  rw[Vw];simp;omega
 rw[e3];exact q
theorem n8 {α:Type}(p:α->Bool)(l:List α):(l.map p).all id=l.all p:=by
 induction l with
 |nil=>rfl
 |cons a l ih=>simp[ih]
theorem Hq (T:Txt w.params K mg A):aC P w K mg base a5 2 A.HZ A.yK ["word"] Mt:=by
 refine T.BU.F.ok GI (by left) λ_ _ _ _ H _ Q E hr h=>?_
 obtain⟨z,rfl,zl,q⟩:=h;refine⟨_,(ao (aG (jZ (gP iU iU aj (bA mY (by rfl) T.dS cC (aa (pv 0) ai)) (fU (v:=V.int 20) rfl T.De ⟨_,rfl⟩)) (jZ (b5 kR (pv 0) au (aL _)) (iw (bA (tL rfl) (by rfl) T.Io CL (aa (gS (scope:=rH) CZ rfl (GD (pv 0)) (λ_ _ _ _ _=>(az (Ho T) hr T.BS (aa (pv 0) ai)))) ai))))))),?_⟩
 symm;have sz:fu=16777216:=by decide
 refine⟨_,rfl,z,rfl,by omega,_,_,rfl,rfl,_,rfl,?_⟩
 by_cases h1:1<=z.length
 ·rw[bG (show (1:Int)<=(z.length:Int) by omega)]
  refine dR ⟨_,_,rfl,rfl,_,rfl,?_⟩
  by_cases h2:z.length<=20
  ·rw[bG (show (z.length:Int)<=20 by omega)]
   refine dR ⟨_,rfl,rfl,_,rfl,?_⟩
   by_cases h3:z=sl1
   ·rw[bG (show V.str z=V.str (ar "/") from congrArg V.str h3)]
    refine b8 ?_;have:=q H (bh.refl H);rw[dH,bG h1,bG h2,bG h3]at this;exact this
   rw[bV (show ¬V.str z=V.str (ar "/") from λe=>h3 (by injection e))]
   refine dR ⟨_,rfl,z,rfl,λD hD=>?_⟩
   refine u7 lF (by show z.length<=_;omega) hD (λc H2 Q2 hc s2 k=>⟨_,rfl,c,rfl,k H2 (bh.refl _)⟩) λH2 s2 h2'=>?_
   refine⟨D,z.cps.toList.map lF,rfl,ay.of h2',?_⟩;have:=q H2 s2;rw[dH,bG h1,bG h2,bV h3]at this;rw[n8];exact this
  rw[bV (show ¬(z.length:Int)<=20 by omega)]
  refine b8 ?_;have:=q H (bh.refl H);rw[dH,bG h1,bV h2]at this;exact this
 rw[bV (show ¬(1:Int)<=(z.length:Int) by omega)]
 refine b8 ⟨_,rfl,b8 ?_⟩;have:=q H (bh.refl H);rw[dH,bV h1]at this;exact this
theorem cK {α:Type}{c:α}{r:List α}:atI (c::r) 0=some c:=by
 unfold atI ixN;simp
theorem Q4 (c:Nat):(!(VQ (ar "0123456789") ⟨#[c]⟩ 0 (ar "0123456789").length 1).isEmpty)=js c:=by
 rw[StrLaws.found_one];have e:(ar "0123456789").cps.toList=[48,49,50,51,52,53,54,55,56,57]:=by trivial
 rw[e,js,Vw];simp;omega
theorem DG (T:Txt w.params K mg A):aC P w K mg base a5 1 A.BB A.uc ["word"] Oc:=by
 refine T.wJ.F.ok C0 (by left) λ_ _ _ _ H _ Q E hr h=>?_
 obtain⟨z,rfl,zl,q⟩:=h;refine⟨_,(ah (bf (PW.pt (pw_or (aI bz (pv 0) au (aL _)) (pw_or1 (aI A2 (bA mY (by rfl) T.dS cC (aa (pv 0) ai)) (fU (v:=V.int 10) rfl T.zg ⟨_,rfl⟩) (aL _)))))
 (ao (aG og))
 aK)
 (ao (aG (jZ (bA (tL rfl) (by rfl) T.Io CL (aa (gS (scope:=ou) yu rfl (GD (pv 0)) (λ_ _ _ _ _=>(b5 Jt (pv 0) (fU (v:=V.str (ar "0123456789")) rfl T.JH ⟨_,rfl⟩) rfl))) ai)) (iw (Kc (b5 bz (pv 0) au (aL _)) (iw (b5 kR (aO xS (pv 0) aj) au (aL _))))))))),?_⟩
 symm;have sz:fu=16777216:=by decide
 refine⟨_,rfl,rfl,_,rfl,dg (λe=>?_) (λe=>?_)⟩
 ·refine dR ?_;have e':z=em:=by injection eM e
  have:=q H (bh.refl H);rw[dC,bV (λz=>z e')]at this
  exact this
 have hne:z≠em:=λq=>e (bG (congrArg V.str q))
 refine⟨_,rfl,z,rfl,by omega,_,_,rfl,rfl,_,rfl,dg (λe=>?_) (λe=>?_)⟩
 ·have e':(10:Int) < (z.length:Int):=eM e;have:=q H (bh.refl H);rw[dC,bG hne,bV (show ¬z.length<=10 by omega)]at this
  exact this
 have e':¬(10:Int) < (z.length:Int):=λh=>e (bG h)
 have hl:z.length<=10:=by omega
 have hq:=λH2 s2=>q H2 s2
 rw[dC,bG hne,bG hl]at hq;refine⟨_,rfl,z,rfl,λD hD=>?_⟩
 refine u7 js (by show z.length<=_;omega) hD (λc H2 Q2 hc s2 k=>⟨_,rfl,_,_,rfl,rfl,by rw[Q4];exact k H2 (bh.refl _)⟩) λH2 s2 h2'=>?_
 refine⟨D,z.cps.toList.map js,rfl,ay.of h2',_,rfl,?_⟩;have hq2:=hq H2 s2;rw[n8];cases ha:z.cps.toList.all js with
 |false=>rw[ha]at hq2;exact b8 hq2
 |true =>
  rw[ha]at hq2;refine dR ⟨_,rfl,rfl,_,rfl,?_⟩
  by_cases h0:z=ar "0"
  ·rw[bG (congrArg V.str h0)];rw[bG h0]at hq2;exact dR hq2
  rw[bV (show ¬V.str z=V.str (ar "0") from λe=>h0 (by injection e))]
  rw[bV h0]at hq2;cases hz:z.cps.toList with
  |nil =>
   exfalso
   refine hne (tK ?_);rw[hz,Fb]
  |cons c r =>
   rw[hz]at hq2;refine b8 ⟨_,rfl,z,0,c,rfl,rfl,by omega,by rw[hz];exact cK,rfl,?_⟩
   have e0:ar "0"=⟨#[48]⟩:=by trivial
   have e3:(!decide (V.str ⟨#[c]⟩=V.str (ar "0")))=(!decide ((c::r).head?=some 48)):=by
    rw[e0]
    congr 1
    rw[Vw];simp
   rw[e3];exact hq2
theorem O6:∀(cs:List Nat) (acc:Nat),PySem.NumText.AllDigits cs->cs.foldl (λacc c=>acc * 10+(c - 48)) acc < (acc+1) * 10 ^ cs.length
 |[],acc,_=>by simp
 |c::cs,acc,h=>by
  have h1:=h.head;have h2:=O6 cs (acc * 10+(c - 48)) h.tail;rw[List.foldl_cons,UQ,Nat.pow_succ];refine Va h2 ?_;rw[Nat.mul_comm (10 ^ cs.length) 10,<-Nat.mul_assoc];exact Nat.mul_le_mul_right _ (by omega)
theorem Od {z:Str}(h:dC z=true):PySem.intText? z=some (fD z)/\z.length<=10/\0<=fD z/\fD z < 10 ^ 10:=by
 simp only[dC,U3,decide_eq_true_iff]at h;obtain⟨h1,h2,h3,_⟩:=h;have hd:PySem.NumText.AllDigits z.cps.toList:=λc hc=>by
  have:=List.all_eq_true.mp h3 c hc;simp only[js,U3,decide_eq_true_iff]at this;exact this
 have hne:z.cps.toList≠[]:=λe=>h1 (tK (by rw[e,Fb]))
 have e:=PySem.intText_digits hd hne (Vc h2 (by decide))
 have ev:fD z=((PySem.NumText.digitsVal z.cps.toList:Nat):Int):=by unfold fD;rw[e];rfl
 have lt:=O6 z.cps.toList 0 hd;have lt2:PySem.NumText.digitsVal z.cps.toList < 10 ^ 10:=by
  refine Va lt ?_;rw[Nat.zero_add,Nat.one_mul];exact Nat.pow_le_pow_right (by decide) (by rw[nM];exact h2)
 refine⟨by rw[e,ev],h2,by rw[ev];omega,by rw[ev];omega⟩
end R
namespace R
theorem Hr {K:de}{a D:Addr}{ws:List Str}{te:TE}{Q:VK}{σ:St}{H1:Hp}(p:Str->Bool)(hq:ay K H1 a (ws.map V.str))(hz:ws.length<=fu)(hD:H1 D=none)
  (hs:∀(x:Str) (H2:Hp) (Q2:VK),x∈ws->bh H1 H2->(∀H3,bh H2 H3->Q2 (.bl (p x)) H3)->te (some (.str x)::σ) H2 Q2)
  (hd:∀H2,bh H1 H2->H2 D=some (.lst ((ws.map p).map V.bl))->Q (.ref D) H2):iX (Itl K a) te σ D H1 Q:=by
 refine iz (K:=K) (a:=a) (xs:=ws.map V.str) (λi ys H2=>ys=((ws.take i).map p).map V.bl/\bh H1 H2/\H2 D=some (.lst ys)) ⟨by simp,aw hD,ae⟩ (by rw[bo];exact hz) ?_ ?_ ?_
 ·rintro i ys H2 hi ⟨rfl,s2,h2⟩;rw[bo]at hi;exact⟨s2.seq hq,h2,by simp;omega⟩
 ·rintro i y ys H2 hi ⟨rfl,s2,h2⟩;rw[sr]at hi;cases hw:ws[i]? with
  |none=>rw[hw]at hi;cases hi
  |some x =>
   rw[hw]at hi;obtain rfl:V.str x=y:=US hi;refine hs x H2 _ (U2 hw) s2 λH3 s3=>?_
   refine cI.mk (by rw[bo];exact(List.getElem?_eq_some_iff.mp hw).1) (s3 _ _ h2) ⟨?_,(s2.trans s3).own hD,ae⟩
   rw[Ws,hw];simp
 rintro ys H2 ⟨rfl,s2,h2⟩;refine hd H2 s2 (h2.trans ?_);rw[bo,Vs]
noncomputable def csD (cs:List (List Str)):PyData:=.list (cs.map λc=>.list (c.map VI))
theorem WAt.dvs {K:de}{H:Hp}:∀ {ps:List Addr} {cs:List (List Str)},WAt H ps cs->bC K H (cs.map λc=>.list (c.map VI)) (ps.map V.ref)
 |[],_,h=>by
  have h':_=[]:=h;subst h';simp only[VH];unfold bC;rfl
 |_::_,_,⟨ws,r,e,h,t⟩=>by
  subst e;simp only[rf];unfold bC;exact⟨_,_,rfl,xy (ay.of h),WAt.dvs t⟩
theorem Hs {cs:List (List Str)}(h:∀c∈cs,∀w∈c,Asc w):VS (csD cs)=true:=by
 have key:∀l:List (List Str),(∀c∈l,∀w∈c,Asc w)->U4 (l.map λc=>.list (c.map VI))=true/\Vi (l.map λc=>PyData.list (c.map VI))<=10:=λl=>by
  induction l with
  |nil=>intro _;exact⟨rfl,Vl _⟩
  |cons c l ih =>
   intro h;obtain⟨i1,i2⟩:=ih λc hc=>h c (ma _ hc)
   have h1:=kS c λw hw=>(h c eg w hw).ok
   have h2:=m5 c;refine⟨?_,?_⟩
   ·simp[U4,Vb,h1,i1]
   simp only[rf,Vi,Vo];omega
 obtain⟨k1,k2⟩:=key cs h;have k3:(csD cs).canLay0=true:=by simp[csD,Vb,k1]
 have k4:(csD cs).depth<=64:=by simp only[csD,Vo];omega
 show (Vb (csD cs) && decide (Vo (csD cs)<=64))=true;rw[k3,bG k4];rfl
theorem Oe (cs:List (List Str)):Vy (csD cs) (.list [])=decide (cs=[]):=by
 cases cs with
 |nil=>rfl
 |cons c r=>rfl
theorem strs_nil (cs:List Str):Vy (.list (cs.map VI)) (.list [])=decide (cs=[]):=by
 cases cs with
 |nil=>rfl
 |cons c r=>rfl
def Of (K:de)(A:ba):Sp:=λvs H Q E=>∃(a:Addr) (ws:List Str),vs=[.ref a]/\ay K H a (ws.map V.str)/\jD ws /\
 (∀cs,readText ws=some cs->∀L H',bh H H'->H L=none->H' L=some (.lst ((cs.map (kx bl1)).map V.str))->Q (.ref L) H')/\(readText ws=none->vI A 1 E H)
structure WOk (i:Nat)(ws:List Str)(cs:List (List Str)):Prop where
 cl:cs.length<=i
 ln:∀c∈cs,c.length<=i
 sm:∀c∈cs,(c.map (·.length)).sum<=((ws.take i).map (·.length)).sum
 mm:∀c∈cs,∀w∈c,w∈ws
theorem WOk.more {i:Nat}{ws:List Str}{cs:List (List Str)}{x:Str}(o:WOk i ws cs)(hx:ws[i]?=some x):WOk (i+1) ws (cs++[[]]):=by
 have t:((ws.take (i+1)).map (·.length)).sum=((ws.take i).map (·.length)).sum+x.length:=by rw[Ws,hx];simp
 refine⟨by rw[ki];have:=o.cl;simp;omega,λc hc=>?_,λc hc=>?_,λc hc=>?_⟩
 all_goals
  rcases List.mem_append.mp hc with hc | hc
  ·first
    | (have:=o.ln c hc;omega)
    | (have:=o.sm c hc;omega)
    |exact o.mm c hc
  obtain rfl:=List.mem_singleton.mp hc;simp
theorem WOk.word {i:Nat}{ws:List Str}{ds:List (List Str)}{d:List Str}{x:Str}(o:WOk i ws (ds++[d]))(hx:ws[i]?=some x):WOk (i+1) ws (ds++[d++[x]]):=by
 have t:((ws.take (i+1)).map (·.length)).sum=((ws.take i).map (·.length)).sum+x.length:=by rw[Ws,hx];simp
 have dm:d∈ds++[d]:=U1 _ eg;refine⟨by have:=o.cl;rw[ki]at this ⊢;simp at this ⊢;omega,λc hc=>?_,λc hc=>?_,λc hc=>?_⟩
 ·rcases List.mem_append.mp hc with hc | hc
  ·have:=o.ln c (VD _ hc);omega
  obtain rfl:=List.mem_singleton.mp hc;have:=o.ln d dm;rw[ki];simp;omega
 ·rcases List.mem_append.mp hc with hc | hc
  ·have:=o.sm c (VD _ hc);omega
  obtain rfl:=List.mem_singleton.mp hc;have:=o.sm d dm;have e1:([x].map λx:Str=>x.length).sum=x.length:=by simp
  rw[kt,List.sum_append,e1];omega
 rcases List.mem_append.mp hc with hc | hc
 ·exact o.mm c (VD _ hc)
 obtain rfl:=List.mem_singleton.mp hc;intro w hw;rcases List.mem_append.mp hw with hw | hw
 ·exact o.mm d dm w hw
 rw[List.mem_singleton.mp hw];exact U2 hx
theorem ie (T:Txt w.params K mg A):aC P w K mg base a5 4 A.pS A.kg ["word"] (Mu A):=by
 refine T.eJ.F.ok yw (by left) λ_ _ _ _ H _ Q E hr h=>?_
 obtain⟨z,rfl,zl,h1,h2⟩:=h;refine⟨_,(ah (bw (az (dD T) hr T.cH (aa (az (DG T) hr.mono T.wJ (aa (pv 0) ai)) ai)))
 (ao (aG (cc Ax (by rfl) T.Lz GB (aa (pv 0) ai))))),?_⟩
 symm;refine⟨_,rfl,z,rfl,zl,λH2 s2=>⟨dC z,rfl,λhb=>?_,λhb=>(h2 hb).same s2⟩⟩
 refine aS λGa hGa=>?_
 obtain⟨v1,v2,_⟩:=Od hb;refine hGa ?_;exact⟨_,rfl,z,fD z,rfl,v1,by omega,h1 hb H2 s2⟩
theorem kL (T:Txt w.params K mg A):aC P w K mg base a5 4 A.wF A.pT ["words"] (JX K A):=by
 refine T.iR.F.ok yx (by left) λ_ _ _ _ H _ Q E hr h=>?_
 obtain⟨a,ws,rfl,hS,o,h1,h2⟩:=h;refine⟨_,(ah (bw (az (dD T) hr T.cH (aa (bA (tL rfl) (by rfl) T.Io CL (aa (gS (scope:=kX) ve rfl (eW (pv 0)) (λ_ _ _ _ _=>(az (Hq T) hr.mono T.BU (aa (pv 0) ai)))) ai)) ai)))
 (ao (aG (az (nQ T) hr.mono T.lg (aa (pv 0) ai))))),?_⟩
 symm;have sz:fu=16777216:=by decide
 have ol:=o.len;have os:=o.sz;refine⟨_,rfl,a,rfl,⟨_,hS⟩,λD hD=>?_⟩
 refine Hr dH hS (by omega) hD (λx H2 Q2 hx s2 k=>⟨_,rfl,x,rfl,o.wl hx,k⟩) λH2 s2 h2'=>?_
 refine⟨D,ws.map dH,rfl,ay.of h2',?_⟩;rw[n8];refine⟨ws.all dH,rfl,λhb=>?_,λhb=>(h2 hb).same s2⟩
 exact⟨_,rfl,a,ws,rfl,s2.seq hS,by omega,h1 hb H2 s2⟩
theorem Q5 {α:Type}{l:List α}(h:l≠[]):∃(r:List α) (a:α),l=r++[a]:=⟨l.dropLast,l.getLast h,(List.dropLast_concat_getLast h).symm⟩
theorem fG {α:Type}{r:List α}{a:α}:atI (r++[a]) (-1)=some a:=by
 unfold atI ixN;rw[aZ (by decide),bp (by rw[ki,UY];omega),Option.bind_some,show ((-1:Int)+((r++[a]).length:Int)).toNat=r.length by rw[ki,UY];omega]
 simp
theorem DH (T:Txt w.params K mg A):aC P w K mg base a5 5 A.BC A.ud ["words"] (Of K A):=by
 refine T.wK.F.ok nh (by left) λ_ _ _ _ H _ Q E hr h=>?_
 obtain⟨a,ws,rfl,hS,o,h1,h2⟩:=h;have gL:=hr.units;refine⟨_,(ah (aV (i:=1) nh.nd (bK ai))
 (ah (gN Vx rfl (eW (pv 0)) (b9 (i:=2) nh.nd)
 (ao (bf (aI bz (pv 2) au (aL _))
 (ao (bw (dE tu UZ U0 cz (pv 1) (aa (bK ai) ai))))
 (ah (bw (az (dD T) hr.mono T.cH (aa (b5 (xT gL) (pv 1) (bK ai) (aL _)) ai)))
 (ao (bw (dE tu UZ U0 cz (aO br (pv 1) (kQ gO aj)) (aa (pv 2) ai))))))))
 (ao (aG (gS (scope:=ox) yy rfl (eW (pv 1)) (λ_ _ _ _ _=>(az (kL T) hr T.iR (aa (pv 0) ai)))))))),?_⟩
 symm;have sz:fu=16777216:=by decide
 have ol:=o.len;refine⟨Vl _,λC hC=>?_⟩
 refine⟨_,rfl,a,rfl,⟨_,(aw hC).seq hS⟩,?_⟩;refine pe (K:=K) (a:=a) (xs:=ws.map V.str) (λi σ H2=>∃(v2:Option V) (ps:List Addr) (cs:List (List Str)),σ=[some (.ref a),some (.ref C),v2]/\bh H H2/\H2 C=some (.lst (ps.map V.ref))/\WAt H2 ps cs/\ps.Nodup/\C∉ps/\(∀p∈ps,H p=none) /\
   clausesOf cs (ws.drop i)=clausesOf [] ws/\WOk i ws cs)
  ⟨_,[],[],rfl,aw hC,ae,rfl,List.nodup_nil,(λz=>nomatch z),(λp hp=>nomatch hp),rfl,⟨mv _,(λc hc=>nomatch hc),(λc hc=>nomatch hc),λc hc=>nomatch hc⟩⟩ (λi σ H2 _ ⟨_,_,_,_,s2,_⟩=>s2.seq hS) ?_ ?_
 ·rintro i y σ H2 hi hp0;refine aS λGa hGa=>?_
  obtain⟨v2,ps,cs,rfl,s2,hCl,hW,nd,nC,hn,ecl,wo⟩:=hp0;rw[sr]at hi;refine hGa ?_;cases hx:ws[i]? with
  |none=>rw[hx]at hi;cases hi
  |some x =>
   rw[hx]at hi;obtain rfl:V.str x=y:=US hi;have hil:i < ws.length:=(List.getElem?_eq_some_iff.mp hx).1;have dr:ws.drop i=x::ws.drop (i+1):=by
    rw[List.drop_eq_getElem_cons hil,(List.getElem?_eq_some_iff.mp hx).2]
   have pl:=hW.len;have cl:=wo.cl;refine⟨_,rfl,rfl,_,rfl,dg (λe=>?_) (λe=>?_)⟩
   ·have e':x=sl1:=by injection eM e
    refine⟨_,rfl,.inl ⟨rfl,_,ay.of hCl⟩,Vl _,λp hp=>?_⟩
    have nCp:C≠p:=aQ hCl hp;have SO:p∉ps:=λz=>by
     obtain⟨j,hj⟩:=List.getElem?_of_mem z;obtain⟨_,_,h3⟩:=hW.get hj;rw[hp]at h3;cases h3
    refine⟨C,_,_,rfl,rfl,(ax nCp).trans hCl,(by rw[bo];omega),?_⟩
    refine⟨_,ps++[p],cs++[[]],rfl,((s2.new hp).own hC),?_,?_,?_,?_,?_,?_,wo.more hx⟩
    ·rw[ae,kt];rfl
    ·refine WAt.ag (by rw[Wq,not_or];exact⟨nC,λz=>nCp (List.mem_singleton.mp z)⟩) (WAt.snoc (WAt.ag SO hW) ?_)
     rw[ae];rfl
    ·exact List.nodup_append.mpr ⟨nd,by simp,λb hb c hc e=>SO (by rw[<-List.mem_singleton.mp hc,<-e];exact hb)⟩
    ·rw[Wq,not_or];exact⟨nC,λz=>nCp (List.mem_singleton.mp z)⟩
    ·intro b hb;rcases List.mem_append.mp hb with hb | hb
     ·exact hn b hb
     rw[List.mem_singleton.mp hb];exact s2.free hp
    rw[<-ecl,dr,clausesOf,bp e']
   have e':¬x=sl1:=λz=>e (bG (congrArg V.str z))
   refine⟨_,rfl,Vl _,λp hp=>?_⟩
   have s3:bh H2 (ag H2 p (.lst [])):=aw hp;refine⟨csD cs,.list [],?_,?_,Hs (λc hc w hw=>o.asc w (wo.mm c hc w hw)),by trivial,?_⟩
   ·unfold csD DV;exact⟨C,_,rfl,ay.of (s3 _ _ hCl),(hW.same s3).dvs⟩
   ·unfold DV;exact⟨p,[],rfl,ay.of ae,by unfold bC;rfl⟩
   rw[Oe];refine⟨!decide (cs=[]),rfl,λhb=>?_,λhb=>?_⟩
   ·have hcs:cs≠[]:=by simpa using hb
    refine aS λGb hGb=>?_
    have hps:ps≠[]:=λz=>by rw[z]at pl;exact hcs (List.length_eq_zero_iff.mp pl.symm)
    obtain⟨qs,q,rfl⟩:=Q5 hps;obtain⟨ds,d,rfl,hWd,hq⟩:=hW.Mp;have nq:q≠p:=aQ hq hp;have nqs:q∉qs:=λz=>by
     have:=(List.nodup_append.mp nd).2.2 q z q (by simp)
     exact this rfl
    have nqC:q≠C:=λz=>nC (by rw[<-z];simp)
    have dl:=wo.ln d (by simp)
    refine hGb ?_;refine⟨_,rfl,_,rfl,C,_,_,.ref q,rfl,rfl,ay.of (s3 _ _ hCl),?_,.inl ⟨rfl,_,ay.of (s3 _ _ hq)⟩,_,rfl,q,_,_,rfl,rfl,s3 _ _ hq,(by rw[bo];omega),?_⟩
    ·rw[kt];exact fG
    have hHq:H q=none:=hn q (by simp)
    refine⟨_,qs++[q],ds++[d++[x]],rfl,(s2.trans s3).own hHq,?_,?_,nd,nC,hn,?_,wo.word hx⟩
    ·exact(ax (VG nqC)).trans (s3 _ _ hCl)
    ·refine WAt.snoc (WAt.ag nqs (hWd.same s3)) ?_;rw[ae,kt];rfl
    rw[<-ecl,dr]
    conv=>rhs;rw[clausesOf]
    rw[aZ e',aZ (by simp)]
    simp
   have hcs:cs=[]:=by simpa using hb
   refine(h2 ?_).same (s2.trans s3);unfold readText;rw[<-ecl,hcs,dr,clausesOf,aZ e',bp rfl];rfl
 rintro σ H2 hp0;refine aS λGc hGc=>?_
 obtain⟨v2,ps,cs,rfl,s2,hCl,hW,nd,nC,hn,ecl,wo⟩:=hp0;rw[bo,List.drop_length]at ecl;have ecs:clausesOf [] ws=some cs:=ecl.symm;rw[bo]at wo;have pl:=hW.len;have cl:=wo.cl;refine hGc ?_;refine⟨_,rfl,C,rfl,⟨_,ay.of hCl⟩,λD hD=>?_⟩
 have nCD:C≠D:=aQ hCl hD;refine iz (K:=K) (a:=C) (xs:=ps.map V.ref) (λi ys H3=>ys=((cs.take i).map (kx bl1)).map V.str/\(cs.take i).all (λc=>c.all dH)=true/\bh H2 H3/\H3 D=some (.lst ys))
  ⟨rfl,rfl,aw hD,ae⟩ (by rw[bo];omega) ?_ ?_ ?_
 ·rintro i ys H3 hi ⟨rfl,_,s3,h3⟩;rw[bo]at hi;exact⟨ay.of (s3 _ _ hCl),h3,by simp;omega⟩
 ·rintro i y ys H3 hi ⟨rfl,al,s3,h3⟩;rw[sr]at hi;cases hp:ps[i]? with
  |none=>rw[hp]at hi;cases hi
  |some p =>
   refine aS λGd hGd=>?_
   rw[hp]at hi;obtain rfl:V.ref p=y:=US hi;obtain⟨c,hc,hpc⟩:=hW.get hp;have cm:=U2 hc;have co:jD c:=⟨by have:=wo.ln c cm;have:=wo.sm c cm;have:=o.sz;rw[Vs]at *;omega,λw hw=>o.asc w (wo.mm c cm w hw)⟩
   refine hGd ?_;refine⟨_,rfl,p,c,rfl,ay.of (s3 _ _ hpc),co,λok H4 s4=>?_,λbad=>(h2 ?_).same (s2.trans s3)⟩
   ·refine cI.mk (by rw[bo];exact(List.getElem?_eq_some_iff.mp hp).1) (s4 _ _ h3) ⟨?_,?_,(s3.trans s4).own hD,ae⟩
    ·rw[Ws,hc];simp
    rw[Ws,hc,List.all_append,al];simp[ok]
   unfold readText;rw[ecs];refine aZ λz=>?_
   have:=List.all_eq_true.mp z c cm;rw[bad]at this;cases this
 rintro ys H3 ⟨rfl,al,s3,h3⟩;rw[bo,pl,Vs]at al h3;refine h1 cs ?_ D H3 (s2.trans s3) (s2.free hD) h3;unfold readText;rw[ecs];exact bp al
end R
namespace R
theorem ig {α:Type}{b c:α}{r:List α}:atI (b::c::r) 1=some c:=by
 unfold atI ixN;rw[bp (by decide),bp (by rw[UQ,UQ];omega)]
 rfl
theorem FC (k a b:Str):inV (.str k) [.str a,.str b]=decide (k=a\/k=b):=by
 have e:∀x y:Str,eqV (.str x) (.str y)=decide (y=x):=λx y=>by
  show (x == y)=_;rw[Vw];simp;exact⟨λh=>h.symm,λh=>h.symm⟩
 unfold inV;simp only[V2,List.any_nil,e,Bool.or_false];rw[Vw];simp
theorem IU:kn 0≠kn 1/\kn 2≠kn 1/\kn 0≠kn 2:=by trivial
def Og (K:de)(A:ba):Sp:=λvs H Q E=>∃(a:Addr) (ws:List Str),vs=[.ref a]/\ay K H a (ws.map V.str)/\jD ws /\
 (∀k i th,gu ws=some (k,i,th)->∀t H',bh H H'->H t=none->H' t=some (.tup (edR k i (kx bl1 th)))->Q (.ref t) H')/\(gu ws=none->vI A 1 E H)
def Oh (K:de)(A:ba):Sp:=λvs H Q E=>∃(a:Addr) (ws:List Str),vs=[.ref a]/\ay K H a (ws.map V.str)/\jD ws /\
 (∀k i th,jf ws=some (k,i,th)->∀t H',bh H H'->H t=none->H' t=some (.tup (edR k i (kx bl1 th)))->Q (.ref t) H')/\(jf ws=none->vI A 1 E H)
def Q6 (K:de)(A:ba):Sp:=λvs H Q E=>∃(a:Addr) (ws:List Str),vs=[.ref a]/\ay K H a (ws.map V.str)/\jD ws /\
 (∀n,qR ws=some n->∀H',bh H H'->Q (.int n) H')/\(qR ws=none->vI A 1 E H)
def IV (K:de)(A:ba):Sp:=λvs H Q E=>∃(z:Str),vs=[.str z]/\z.length<=50000/\Asc z /\
 (∀d,cY (Txt.split z bl1)=some d->∀t H',bh H H'->H t=none->qQ H H' d t->Q (.ref t) H')/\(cY (Txt.split z bl1)=none->vI A 1 E H)
theorem SQ (a b:V)(r:List V):dQ (a::b::r) (some 2) none=r:=by
 rw[show (2:Int)=((2:Nat):Int) from rfl,iW]
 rfl
theorem Mv (a:V)(r:List V):dQ (a::r) (some 1) none=r:=by
 rw[show (1:Int)=((1:Nat):Int) from rfl,iW]
 rfl
theorem uS (T:Txt w.params K mg A):aC P w K mg base a5 5 A.BD A.ue ["words"] (Og K A):=by
 have iO:aC P w K mg base a5 3 A.xB A.ni ["holds"] (vJ A):=dD T;refine T.pY.F.ok jG (by left) λ_ _ _ _ H _ Q E hr h=>?_
 obtain⟨a,ws,rfl,hS,o,h1,h2⟩:=h;have gC:b7 3 _:=hr.mono;have gL:=hr.units;refine⟨_,(ah (bw (az iO gC T.cH (aa (b5 HJ (bA bF (by rfl) T.dS cC (aa (pv 0) ai)) aj (aL _)) ai)))
 (ah (aV (i:=1) jG.nd (aO br (pv 0) aj))
 (ah (aV (i:=2) jG.nd (az (ie T) hr T.eJ (aa (aO br (pv 0) aj) ai)))
 (ah (aV (i:=3) jG.nd (df eY (pv 0) (dU aj) ef))
 (ah (bf (aI bz (pv 1) au (aL _))
 (ah (bw (az iO gC T.cH (aa (b5 (mZ gL) (pv 3) (bK ai) (aL _)) ai)))
 (ao (aG (bu (aa au (aa (pv 2) ai))))))
 aK)
 (ah (bw (az iO gC T.cH (aa (b5 fV (pv 1) (bu (aa au (aa au ai))) rfl) ai)))
 (ao (aG (bu (aa (pv 1) (aa (pv 2) (aa (az (kL T) hr T.iR (aa (pv 3) ai)) ai)))))))))))),?_⟩
 symm;have sz:fu=16777216:=by decide
 have ol:=o.len;refine⟨_,rfl,a,_,rfl,.inl hS,_,_,rfl,rfl,_,rfl,λhb=>?_,λhb=>h2 ?_⟩
 rotate_left
 ·have hb':=of_decide_eq_false hb;rw[bo]at hb'
  match ws,hb' with
  |[],_=>rfl
  |[_],_=>rfl
  |_::_::r,h=>exact absurd (show (2:Int)<=((_::_::r).length:Int) by rw[UQ,UQ];omega) h
 refine aS λGa hGa=>?_
 have hb':=eM hb;rw[bo]at hb';obtain⟨k,p,th,rfl⟩:∃k p th,ws=k::p::th:=by
  match ws,hb' with
  |[],h=>exact absurd h (by decide)
  |[_],h=>exact absurd h (by simp)
  |k::p::r,_=>exact⟨k,p,r,rfl⟩
 refine hGa ?_;refine a8 rfl hS cK ?_;refine⟨_,rfl,a,_,_,.str p,rfl,rfl,hS,ig,p,rfl,o.wl (by simp),λhn H2 s2=>?_,λhn=>h2 ?_⟩
 rotate_left
 ·show (if dC p=true then _ else none)=none
  rw[hn];rfl
 refine⟨_,rfl,_,rfl,a,_,rfl,s2.seq hS,λtp htp=>?_⟩
 have s3:bh H2 (ag H2 tp (.lst (dQ (List.map V.str (k::p::th)) (some 2) none))):=aw htp;have e2:dQ (List.map V.str (k::p::th)) (some 2) none=th.map V.str:=SQ _ _ _;rw[e2]at s3 ⊢;have oth:jD th:=o.drop 2;have UP:=oth.len;have hth:ag H2 tp (.lst (th.map V.str)) tp=some (.lst (th.map V.str)):=ae;generalize ag H2 tp (.lst (th.map V.str))=H3 at s3 hth ⊢;have s13:=s2.trans s3;have rE:gu (k::p::th)=if k=kn 1 then (if th=[] then some (1,fD p,[]) else none) else if (k=kn 0\/k=kn 2)/\th.all dH=true then some (if k=kn 0 then 0 else 2,fD p,th) else none:=by
  show (if dC p=true then _ else none)=_
  rw[bp hn]
 refine⟨_,rfl,rfl,_,rfl,dg (λe=>?_) (λe=>?_)⟩
 ·have ek:k=kn 1:=by injection eM e
  rw[bp ek]at rE;refine⟨_,rfl,Vl _,λq hq=>?_⟩
  have s4:bh H3 (ag H3 q (.lst [])):=aw hq;refine⟨.list (th.map VI),.list [],xy (s4.seq (ay.of hth)),?_,vU λw hw=>(oth.asc w hw).ok,by trivial,?_⟩
  ·unfold DV;exact⟨q,[],rfl,ay.of ae,by unfold bC;rfl⟩
  rw[strs_nil];refine⟨_,rfl,λhb=>?_,λhb=>?_⟩
  ·have ht:=eM hb;rw[bp ht]at rE;refine⟨_,rfl,(by show 2<=fu;decide),λt ht2=>h1 _ _ _ rE t _ ((s13.trans s4).new ht2) ((s13.trans s4).free ht2) ae⟩
  rw[aZ (of_decide_eq_false hb)]at rE;exact(h2 rE).same (s13.trans s4)
 have ek:¬k=kn 1:=λz=>e (bG (congrArg V.str z))
 rw[aZ ek]at rE;refine⟨_,rfl,(by show 2<=fu;decide),λq hq=>?_⟩
 have s4:bh H3 (ag H3 q (.tup [.str (ar "put"),.str (ar "turn")])):=aw hq;refine⟨q,_,rfl,.inr (aW.of ae),rfl,rfl,?_⟩;refine⟨_,rfl,λhb=>?_,λhb=>?_⟩
 ·have hb':inV (.str k) [.str (ar "put"),.str (ar "turn")]=true:=hb;rw[FC]at hb';have hk:k=kn 0\/k=kn 2:=eM hb';refine⟨_,rfl,_,rfl,_,rfl,tp,th,rfl,ay.of (s4 _ _ hth),oth,λok H5 s5=>?_,λbad=>?_⟩
  ·rw[bp ⟨hk,ok⟩]at rE;refine⟨(by show 3<=fu;decide),λt ht=>h1 _ _ _ rE t _ (((s13.trans s4).trans s5).new ht) (((s13.trans s4).trans s5).free ht) ?_⟩
   rw[ae];rcases hk with rfl | rfl
   ·rfl
   rw[aZ (VG IU.2.2)];rfl
  rw[aZ (λz=>by rw[z.2]at bad;cases bad)]at rE
  exact(h2 rE).same (s13.trans s4)
 have hb':inV (.str k) [.str (ar "put"),.str (ar "turn")]=false:=hb;rw[FC]at hb';rw[aZ (λz=>(of_decide_eq_false hb') z.1)]at rE
 exact(h2 rE).same (s13.trans s4)
theorem DI (T:Txt w.params K mg A):aC P w K mg base a5 6 A.BE A.uf ["words"] (Oh K A):=by
 refine T.wL.F.ok tW (by left) λ_ _ _ _ H _ Q E hr h=>?_
 obtain⟨a,ws,rfl,hS,o,h1,h2⟩:=h;refine⟨_,(ah (aV (i:=1) tW.nd (az (uS T) hr T.pY (aa (pv 0) ai)))
 (ah (bw (az (dD T) hr.mono T.cH (aa (Kc (b5 bz (aO aY (pv 1) aj) au (aL _)) (iw (b5 bz (bA bF (by rfl) T.dS cC (aa (pv 0) ai)) aj (aL _)))) ai)))
 (ao (aG (pv 1))))),?_⟩
 symm;refine⟨_,rfl,a,ws,rfl,hS,o,λk i th re t H2 s2 nt ht=>?_,λhn=>h2 (by unfold jf;rw[hn];rfl)⟩
 have rm:jf ws=if k=1\/ws.length=3 then some (k,i,th) else none:=by unfold jf;rw[re];rfl
 refine a8 rfl (aW.of ht) (xF k i _) ⟨rfl,_,rfl,?_⟩;have kk:(V.str (kn k)=V.str (ar "cut"))↔k=1:=by
  refine qb ?_
  match ws,re with
  |x::p::r,re =>
   by_cases hp:dC p=true
   ·have re':=re;simp only[gu,bp hp]at re';split at re'
    ·split at re'
     ·simp at re';omega
     cases re'
    split at re'
    ·simp only[Option.some.injEq,Wg]at re';rw[<-re'.1];split <;> simp
    cases re'
   simp only[gu,aZ hp]at re;cases re
 by_cases hk:k=1
 ·rw[bG (kk.mpr hk)];refine dR ⟨true,rfl,λ_=>?_,λz=>nomatch z⟩
  rw[bp (.inl hk)]at rm;exact⟨_,rfl,h1 _ _ _ rm t H2 s2 nt ht⟩
 rw[bV λz=>hk (kk.mp z)]
 refine b8 ⟨_,rfl,a,_,rfl,.inl (s2.seq hS),rfl,_,rfl,λhb=>?_,λhb=>?_⟩
 ·have hl:ws.length=3:=by
   have:=eM hb;rw[bo]at this;injection this with this
   omega
  rw[bp (.inr hl)]at rm;exact⟨_,rfl,h1 _ _ _ rm t H2 s2 nt ht⟩
 have hl:¬ws.length=3:=λz=>by
  refine of_decide_eq_false hb ?_;rw[bo,z];rfl
 rw[aZ (by rintro (z | z);exact hk z;exact hl z)]at rm
 exact(h2 rm).same s2
theorem xp (T:Txt w.params K mg A):aC P w K mg base a5 5 A.ug A.oI ["words"] (Q6 K A):=by
 refine T.pZ.F.ok oy (by left) λ_ _ _ _ H _ Q E hr h=>?_
 obtain⟨a,ws,rfl,hS,o,h1,h2⟩:=h;refine⟨_,(ah (bw (az (dD T) hr.mono T.cH (aa (jZ (b5 bz (bA bF (by rfl) T.dS cC (aa (pv 0) ai)) aj (aL _)) (iw (b5 bz (aO br (pv 0) aj) au (aL _)))) ai)))
 (ah (aV (i:=1) oy.nd (az (ie T) hr T.eJ (aa (aO br (pv 0) aj) ai)))
 (ah (bw (az (dD T) hr.mono T.cH (aa (gP iU iU aj (pv 1) (fU (v:=V.int 999999999) rfl T.zh ⟨_,rfl⟩)) ai)))
 (ao (aG (pv 1)))))),?_⟩
 symm;refine⟨_,rfl,a,_,rfl,.inl hS,rfl,_,rfl,?_⟩;rw[bo]
 by_cases hl:ws.length=2
 ·obtain⟨x,n,rfl⟩:∃x n,ws=[x,n]:=by
   match ws,hl with
   |[x,n],_=>exact⟨x,n,rfl⟩
  refine dR ⟨_,rfl,a,_,_,.str x,rfl,rfl,hS,cK,rfl,_,rfl,λhb=>?_,λhb=>?_⟩
  ·have hx:x=ar "off":=by injection eM hb
   refine⟨_,rfl,a,_,_,.str n,rfl,rfl,hS,ig,n,rfl,o.wl (by simp),λhn H2 s2=>?_,λhn=>h2 ?_⟩
   ·refine⟨_,rfl,_,_,rfl,rfl,_,rfl,?_⟩
    by_cases b1:1<=fD n
    ·rw[bG b1];refine dR ⟨_,_,rfl,rfl,_,rfl,λb2=>?_,λb2=>?_⟩
     ·exact⟨_,rfl,h1 _ (bp ⟨hx,hn,b1,eM b2⟩) H2 s2⟩
     exact(h2 (aZ λz=>of_decide_eq_false b2 z.2.2.2)).same s2
    rw[bV b1];exact b8 ⟨false,rfl,(λz=>nomatch z),λ_=>(h2 (aZ λz=>b1 z.2.2.1)).same s2⟩
   exact aZ λz=>by rw[z.2.1]at hn;cases hn
  exact h2 (aZ λz=>of_decide_eq_false hb (congrArg V.str z.1))
 rw[bV (show ¬V.int (ws.length:Int)=V.int 2 from λz=>hl (by injection z with z;omega))]
 refine b8 ⟨false,rfl,(λz=>nomatch z),λ_=>h2 ?_⟩
 match ws,hl with
 |[],_=>rfl
 |[_],_=>rfl
 |[_,_],h=>exact absurd rfl h
 |_::_::_::_,_=>rfl
theorem FD (c:Nat):∀ws:List Str,ws≠[]->(ws.map (·.length)).sum+ws.length=(kx ⟨#[c]⟩ ws).length+1
 |[],h=>absurd rfl h
 |[x],_=>by show _=x.length+1;simp
 |x::y::r,_=>by
  have ih:=FD c (y::r) (U5 _ _);have e:(kx ⟨#[c]⟩ (x::y::r)).length=x.length+1+(kx ⟨#[c]⟩ (y::r)).length:=by
   have:=congrArg Wf (eZ c x y r);rw[ki,UQ,nM,nM,nM]at this;omega
  simp only[rf,List.sum_cons,UQ]at ih ⊢;omega
theorem Cp (c:Nat):∀ws:List Str,Asc (kx ⟨#[c]⟩ ws)->∀w∈ws,Asc w
 |[],_,_,h=>nomatch h
 |[x],h,w,hw=>by rw[List.mem_singleton.mp hw];exact h
 |x::y::r,h,w,hw=>by
  have e:=eZ c x y r;rcases List.mem_cons.mp hw with rfl | hw
  ·exactλd hd=>h d (by rw[e];exact VD _ hd)
  exact Cp c (y::r) (λd hd=>h d (by rw[e];exact U1 _ (ma _ hd))) w hw
theorem Q7 {z:Str}(h:z.length<=50000)(ha:Asc z):jD (Txt.split z bl1):=by
 have e:kx ⟨#[32]⟩ (Txt.split z ⟨#[32]⟩)=z:=StrLaws.join_split _ _;rw[fw];have s:=FD 32 _ (xV z ⟨#[32]⟩);rw[e]at s;exact⟨by omega,Cp 32 _ (by rw[e];exact ha)⟩
theorem FE (k:Str):inV (.str k) [.str (ar "close"),.str (ar "lay"),.str (ar "rest"),.str (ar "drop")]=decide (k∈JW):=by
 have e:∀x y:Str,eqV (.str x) (.str y)=decide (y=x):=λx y=>by
  show (x == y)=_;rw[Vw];simp;exact⟨λh=>h.symm,λh=>h.symm⟩
 unfold inV;simp only[V2,List.any_nil,e,Bool.or_false];rw[Vw];simp[JW]
theorem tf {a b:Str}(h:¬decide (V.str a=V.str b)=true):¬a=b:=λz=>h (bG (congrArg V.str z))
theorem tj {a b:Str}(h:decide (V.str a=V.str b)=true):a=b:=by injection eM h
theorem DJ (T:Txt w.params K mg A):aC P w K mg base a5 7 A.vg A.nj ["row"] (IV K A):=by
 have iO:aC P w K mg base a5 3 A.xB A.ni ["holds"] (vJ A):=dD T;have lP:aC P w K mg base a5 4 A.pS A.kg ["word"] (Mu A):=ie T;refine T.wM.F.ok jH (by left) λ_ _ _ _ H _ Q E hr h=>?_
 obtain⟨z,rfl,zl,za,h1,h2⟩:=h;have gC:b7 3 _:=hr.mono;have kM:b7 4 _:=hr.mono;have gL:=hr.units;refine⟨_,(ah (aV (i:=1) jH.nd (dE Vj Wc We pw (pv 0) (aa au ai)))
 (ah (aV (i:=2) jH.nd (aO br (pv 1) aj))
 (ah (aV (i:=3) jH.nd (df eY (pv 1) (dU aj) ef))
 (ah (bf (aI bz (pv 2) au (aL _))
 (ao (aG (bu (aa au (aa (az (DH T) hr.mono T.wK (aa (pv 3) ai)) ai)))))
 aK)
 (ah (bf (aI bz (pv 2) au (aL _))
 (ao (aG (bu (aa au (aa (az (uS T) hr.mono T.pY (aa (pv 3) ai)) ai)))))
 aK)
 (ah (bf (aI bz (pv 2) au (aL _))
 (ao (aG (bu (aa au (aa (az (DI T) hr T.wL (aa (pv 3) ai)) ai)))))
 aK)
 (ah (bf (aI bz (pv 2) au (aL _))
 (ao (aG (bu (aa au (aa (az (xp T) hr.mono T.pZ (aa (pv 3) ai)) ai)))))
 aK)
 (ah (bf (aI bz (pv 2) au (aL _))
 (ao (aG (bu (aa au (aa (az (kL T) hr.mono T.iR (aa (pv 3) ai)) ai)))))
 aK)
 (ah (bf (aI bz (pv 2) au (aL _))
 (ah (bw (az iO gC T.cH (aa (b5 bz (bA bF (by rfl) T.dS cC (aa (pv 3) ai)) aj (aL _)) ai)))
 (ao (aG (bu (aa au (aa (az lP kM T.eJ (aa (aO br (pv 3) aj) ai)) (aa (az lP kM T.eJ (aa (aO br (pv 3) aj) ai)) ai)))))))
 aK)
 (ah (bf (aI bz (pv 2) au (aL _))
 (ah (bw (az iO gC T.cH (aa (b5 bz (bA bF (by rfl) T.dS cC (aa (pv 3) ai)) aj (aL _)) ai)))
 (ao (aG (bu (aa au (aa (az lP kM T.eJ (aa (aO br (pv 3) aj) ai)) ai))))))
 aK)
 (ah (bw (az iO gC T.cH (aa (jZ (b5 fV (pv 2) (fU (v:=V.ref A.C8) rfl T.Ql rfl) rfl) (iw (b5 (mZ gL) (pv 3) (bK ai) (aL _)))) ai)))
 (ao (aG (bu (aa (pv 2) ai))))))))))))))),?_⟩
 symm;have sz:fu=16777216:=by decide
 refine⟨_,rfl,rfl,z,bl1,rfl,rfl,by rw[fw];rfl,by omega,λW hW=>?_⟩
 have o:=Q7 zl za;have hsp:=xV z bl1;generalize Txt.split z bl1=sp at o hsp h1 h2 ⊢;refine aS λGa hGa=>?_
 obtain⟨k,ws,rfl⟩:∃k ws,sp=k::ws:=by
  cases sp with
  |nil=>exact absurd rfl hsp
  |cons k ws=>exact⟨k,ws,rfl⟩
 have hWl:ag H W (.lst ((k::ws).map V.str)) W=some (.lst ((k::ws).map V.str)):=ae;have s1:bh H (ag H W (.lst ((k::ws).map V.str))):=aw hW;refine hGa ?_;generalize ag H W (.lst ((k::ws).map V.str))=H1 at hWl s1 ⊢;refine⟨_,rfl,W,_,_,.str k,rfl,rfl,ay.of hWl,cK,?_⟩;refine⟨_,rfl,_,rfl,W,_,rfl,ay.of hWl,λB hB=>?_⟩
 have e1:dQ (List.map V.str (k::ws)) (some 1) none=ws.map V.str:=Mv _ _;rw[e1];have s2:bh H1 (ag H1 B (.lst (ws.map V.str))):=aw hB;have hBl:ag H1 B (.lst (ws.map V.str)) B=some (.lst (ws.map V.str)):=ae;generalize ag H1 B (.lst (ws.map V.str))=H2 at s2 hBl ⊢;have s12:=s1.trans s2;have hB':ay K H2 B (ws.map V.str):=ay.of hBl;have ow:jD ws:=o.drop 1;have owl:=ow.len;have R:cY (k::ws)=_:=rfl;refine⟨_,rfl,rfl,_,rfl,dg (λe=>?_) (λe=>?_)⟩
 ·have R':cY (k::ws)=(readText ws).map .mat:=by rw[cY,bp (tj e)]
  refine⟨_,rfl,B,ws,rfl,hB',ow,λcs ec L H3 s3 nL hL=>⟨(by show 2<=fu;decide),λt ht=>?_⟩,λen=>(h2 (by rw[R',en];rfl)).same s12⟩
  have nLt:L≠t:=aQ hL ht;exact h1 (.mat cs) (by rw[R',ec];rfl) t _ ((s12.trans s3).new ht) (s12.free (s3.free ht)) ⟨L,ae,s12.free nL,(ax nLt).trans hL⟩
 have n1:=tf e;refine⟨_,rfl,rfl,_,rfl,dg (λe=>?_) (λe=>?_)⟩
 ·have R':cY (k::ws)=(gu ws).map λe=>.ed false e.1 e.2.1 e.2.2:=by rw[cY,aZ n1,bp (tj e)]
  refine⟨_,rfl,B,ws,rfl,hB',ow,λkk i th ec ta H3 s3 nta hta=>⟨(by show 2<=fu;decide),λt ht=>?_⟩,λen=>(h2 (by rw[R',en];rfl)).same s12⟩
  have nLt:ta≠t:=aQ hta ht;exact h1 (.ed false kk i th) (by rw[R',ec];rfl) t _ ((s12.trans s3).new ht) (s12.free (s3.free ht)) ⟨ta,ae,s12.free nta,(ax nLt).trans hta⟩
 have n2:=tf e;refine⟨_,rfl,rfl,_,rfl,dg (λe=>?_) (λe=>?_)⟩
 ·have R':cY (k::ws)=(jf ws).map λe=>.ed true e.1 e.2.1 e.2.2:=by rw[cY,aZ n1,aZ n2,bp (tj e)]
  refine⟨_,rfl,B,ws,rfl,hB',ow,λkk i th ec ta H3 s3 nta hta=>⟨(by show 2<=fu;decide),λt ht=>?_⟩,λen=>(h2 (by rw[R',en];rfl)).same s12⟩
  have nLt:ta≠t:=aQ hta ht;exact h1 (.ed true kk i th) (by rw[R',ec];rfl) t _ ((s12.trans s3).new ht) (s12.free (s3.free ht)) ⟨ta,ae,s12.free nta,(ax nLt).trans hta⟩
 have n3:=tf e;refine⟨_,rfl,rfl,_,rfl,dg (λe=>?_) (λe=>?_)⟩
 ·have R':cY (k::ws)=(qR ws).map λn=>.nums (ar "put off") [n]:=by rw[cY,aZ n1,aZ n2,aZ n3,bp (tj e)]
  refine⟨_,rfl,B,ws,rfl,hB',ow,λn ec H3 s3=>⟨(by show 2<=fu;decide),λt ht=>?_⟩,λen=>(h2 (by rw[R',en];rfl)).same s12⟩
  exact h1 (.nums (ar "put off") [n]) (by rw[R',ec];rfl) t _ ((s12.trans s3).new ht) (s12.free (s3.free ht)) ae
 have n4:=tf e;refine⟨_,rfl,rfl,_,rfl,dg (λe=>?_) (λe=>?_)⟩
 ·have R':cY (k::ws)=if ws.all dH=true then some (.pt ws) else none:=by rw[cY,aZ n1,aZ n2,aZ n3,aZ n4,bp (tj e)]
  refine⟨_,rfl,B,ws,rfl,hB',ow,λok H3 s3=>⟨(by show 2<=fu;decide),λt ht=>?_⟩,λen=>(h2 (by rw[R',en];rfl)).same s12⟩
  exact h1 (.pt ws) (by rw[R',bp ok]) t _ ((s12.trans s3).new ht) (s12.free (s3.free ht)) ae
 have n5:=tf e;refine⟨_,rfl,rfl,_,rfl,dg (λe=>?_) (λe=>?_)⟩
 ·have R':cY (k::ws)=uQ ws:=by rw[cY,aZ n1,aZ n2,aZ n3,aZ n4,aZ n5,bp (tj e)]
  refine⟨_,rfl,B,_,rfl,.inl hB',rfl,_,rfl,?_⟩;rw[bo]
  by_cases hl:ws.length=2
  ·obtain⟨a,b,rfl⟩:∃x n,ws=[x,n]:=by
    match ws,hl with
    |[x,n],_=>exact⟨x,n,rfl⟩
   refine⟨λ_=>?_,λz=>nomatch z⟩
   have R2:cY [k,a,b]=if dC a=true/\dC b=true then some (.nums (ar "vote") [fD a,fD b]) else none:=R'
   refine⟨_,rfl,B,_,_,.str a,rfl,rfl,hB',cK,a,rfl,ow.wl (by simp),λha H3 s3=>?_,λha=>(h2 (by rw[R2,aZ (λz=>by rw[z.1]at ha;cases ha)])).same s12⟩
   refine⟨_,rfl,B,_,_,.str b,rfl,rfl,s3.seq hB',ig,b,rfl,ow.wl (by simp),λhb H4 s4=>?_,λhb=>(h2 (by rw[R2,aZ (λz=>by rw[z.2]at hb;cases hb)])).same (s12.trans s3)⟩
   refine⟨(by show 3<=fu;decide),λt ht=>?_⟩
   exact h1 (.nums (ar "vote") [fD a,fD b]) (by rw[R2,bp ⟨ha,hb⟩]) t _ (((s12.trans s3).trans s4).new ht) (s12.free (s3.free (s4.free ht))) ae
  rw[bV (show ¬V.int (ws.length:Int)=V.int 2 from λz=>hl (by injection z with z;omega))]
  refine⟨(λz=>nomatch z),λ_=>(h2 ?_).same s12⟩
  rw[R']
  match ws,hl with
  |[],_=>rfl
  |[_],_=>rfl
  |[_,_],h=>exact absurd rfl h
  |_::_::_::_,_=>rfl
 have n6:=tf e;refine⟨_,rfl,rfl,_,rfl,dg (λe=>?_) (λe=>?_)⟩
 ·have R':cY (k::ws)=uR ws:=by rw[cY,aZ n1,aZ n2,aZ n3,aZ n4,aZ n5,aZ n6,bp (tj e)]
  refine⟨_,rfl,B,_,rfl,.inl hB',rfl,_,rfl,?_⟩;rw[bo]
  by_cases hl:ws.length=1
  ·obtain⟨a,rfl⟩:=List.length_eq_one_iff.mp hl;refine⟨λ_=>?_,λz=>nomatch z⟩
   have R2:cY [k,a]=if dC a=true then some (.nums (ar "take") [fD a]) else none:=R'
   refine⟨_,rfl,B,_,_,.str a,rfl,rfl,hB',cK,a,rfl,ow.wl (by simp),λha H3 s3=>?_,λha=>(h2 (by rw[R2,aZ (λz=>by rw[z]at ha;cases ha)])).same s12⟩
   refine⟨(by show 2<=fu;decide),λt ht=>?_⟩
   exact h1 (.nums (ar "take") [fD a]) (by rw[R2,bp ha]) t _ ((s12.trans s3).new ht) (s12.free (s3.free ht)) ae
  rw[bV (show ¬V.int (ws.length:Int)=V.int 1 from λz=>hl (by injection z with z;omega))]
  refine⟨(λz=>nomatch z),λ_=>(h2 ?_).same s12⟩
  rw[R']
  match ws,hl with
  |[],_=>rfl
  |[_],h=>exact absurd rfl h
  |_::_::_,_=>rfl
 have n7:=tf e;have R':cY (k::ws)=if k∈JW/\ws=[] then some (.nums k []) else none:=by rw[cY,aZ n1,aZ n2,aZ n3,aZ n4,aZ n5,aZ n6,aZ n7]
 refine⟨_,rfl,A.C8,_,rfl,.inr (T.Qm _),rfl,rfl,_,rfl,?_⟩
 by_cases hk:k∈JW
 ·have hi:inV (.str k) [.str (ar "close"),.str (ar "lay"),.str (ar "rest"),.str (ar "drop")]=true:=by rw[FE];exact bG hk
  refine kT (show (if false=true then _ else inV (.str k) _)=true from hi) ?_
  refine⟨_,rfl,Vl _,λq hq=>?_⟩
  have s4:bh H2 (ag H2 q (.lst [])):=aw hq;refine⟨.list (ws.map VI),.list [],xy (s4.seq hB'),?_,vU λw hw=>(ow.asc w hw).ok,by trivial,?_⟩
  ·unfold DV;exact⟨q,[],rfl,ay.of ae,by unfold bC;rfl⟩
  rw[strs_nil];refine⟨_,rfl,λhb=>?_,λhb=>?_⟩
  ·have hw:=eM hb;refine⟨_,rfl,(by show 1<=fu;decide),λt ht=>?_⟩
   exact h1 (.nums k []) (by rw[R',bp ⟨hk,hw⟩]) t _ ((s12.trans s4).new ht) (s12.free (s4.free ht)) ae
  exact(h2 (by rw[R',aZ (λz=>of_decide_eq_false hb z.2)])).same (s12.trans s4)
 have hi:inV (.str k) [.str (ar "close"),.str (ar "lay"),.str (ar "rest"),.str (ar "drop")]=false:=by rw[FE];exact bV hk
 refine iV (show (if false=true then _ else inV (.str k) _)=false from hi) ?_
 exact⟨false,rfl,(λz=>nomatch z),λ_=>(h2 (by rw[R',aZ (λz=>hk z.1)])).same s12⟩
end R
namespace R
theorem Q8 {x:Str}(h:jr x):dH x=true:=by
 unfold dH;rw[bG h.l1,bG h.l2,bV h.ns];refine List.all_eq_true.mpr λc hc=>?_
 obtain⟨a,b,d⟩:=h.sgn c hc;unfold lF;rw[bG a,bG b,bG d];rfl
theorem xH {ws:List Str}(h:∀w∈ws,jr w):ws.all dH=true:=List.all_eq_true.mpr λw hw=>Q8 (h w hw)
theorem FF:∀m:Nat,0 < m->∃c r,Nat.toDigits 10 m=c::r/\c≠'0':=by
 intro m
 induction m using Nat.strongRecOn with
 |_ m ih =>
  intro hm
  by_cases h:m < 10
  ·rw[Nat.toDigits_of_lt_base h];refine⟨_,_,rfl,?_⟩;have:∀d:Nat,d < 10->0 < d->Nat.digitChar d≠'0':=by decide
   exact this m h hm
  have hm2:m % 10 < 10:=Nat.mod_lt m (by decide)
  have t:Nat.toDigits 10 (m / 10)++Nat.toDigits 10 (m % 10)=Nat.toDigits 10 (10 * (m / 10)+m % 10):=Nat.toDigits_append_toDigits (by decide) (by omega) hm2
  rw[Nat.div_add_mod]at t;obtain⟨c,r,e,n⟩:=ih (m / 10) (by omega) (by omega)
  exact⟨c,r++Nat.toDigits 10 (m % 10),by rw[<-t,e];rfl,n⟩
theorem rV {i:Int}(h0:0<=i)(h1:i < 10 ^ 10):dC (num i)=true/\fD (num i)=i:=by
 have rd:=PySem.W.KIN.num_reads h0 h1;have hl:=xE h0 h1;obtain⟨m,rfl⟩:=Int.eq_ofNat_of_zero_le h0;have sg:=PySem.W.KIN.signs_num m;have hd:∀c∈(num ((m:Nat):Int)).cps.toList,js c=true:=λc hc=>by
  have hc':c∈(Nat.toDigits 10 m).map Char.toNat:=by rw[<-sg];exact hc
  obtain⟨ch,hch,e⟩:=List.mem_map.mp hc';have r:=PyProof.Rows.digit_range (Nat.isDigit_of_mem_toDigits (by decide) (by decide) hch)
  rw[<-e];unfold js;rw[bG r.1,bG r.2];rfl
 have hne:num ((m:Nat):Int)≠em:=λe=>by
  have e2:(num ((m:Nat):Int)).cps.toList=em.cps.toList:=congrArg (λz:Str=>z.cps.toList) e
  rw[show (num ((m:Nat):Int)).cps.toList=_ from sg,Fb]at e2
  by_cases hm:0 < m
  ·obtain⟨c,r,e3,_⟩:=FF m hm;rw[e3]at e2;cases e2
  obtain rfl:m=0:=by omega
  revert e2;decide
 refine⟨?_,by unfold fD;rw[show PySem.intText? (num ((m:Nat):Int))=_ from rd];rfl⟩
 unfold dC;rw[bG hne,bG hl,List.all_eq_true.mpr hd]
 by_cases hm:0 < m
 ·obtain⟨c,r,e3,n⟩:=FF m hm;have:¬(num ((m:Nat):Int)).cps.toList.head?=some 48:=λz=>by
   rw[show (num ((m:Nat):Int)).cps.toList=_ from sg,e3]at z
   have z':c.toNat=48:=by simpa using z
   exact n (Char.ext (UInt32.toNat_inj.mp z'))
  rw[bV this];simp
 obtain rfl:m=0:=by omega
 have:num ((0:Nat):Int)=ar "0":=by trivial
 rw[bG this];simp
noncomputable def norm:bI->bI
 | .ed m k i ws=>.ed m k i (if k=1 then [] else ws)
 |d=>d
theorem Mw (k:Nat)(i:Int)(ws:List Str):edR k i (kx bl1 (if k=1 then [] else ws))=edR k i (kx bl1 ws):=by
 unfold edR;split
 ·rfl
 rfl
theorem qQ.norm {H H':Hp}{d:bI}{t:Addr}(h:qQ H H' (norm d) t):qQ H H' d t:=by
 cases d with
 |ed m k i ws =>
  obtain⟨e,a,n,b⟩:=h;exact⟨e,a,n,by rw[Mw]at b;exact b⟩
 |_=>exact h
def DK:bI->List Str
 | .nums kd ns=>if kd=ar "put off" then ar "put"::ar "off"::ns.map num else kd::ns.map num
 |d=>fO d::cX d
theorem Ht (d:bI):cG d=kx bl1 (DK d):=by
 cases d with
 |nums kd ns =>
  show kx bl1 (kd::ns.map num)=kx bl1 (if kd=ar "put off" then _ else _)
  split
  ·rename_i h;rw[h];have e:ar "put off"=kx bl1 [ar "put",ar "off"]:=by trivial
   rw[e];exact join_join bl1 [ar "put",ar "off"] (ns.map num) (U5 _ _)
  rfl
 |_=>rfl
theorem qv {i:Int}(h0:0<=i)(h1:i < 10 ^ 10):32∉(num i).cps.toList:=λz=>by
 have:=(rV h0 h1).1;simp only[dC,U3]at this;have:=List.all_eq_true.mp this.2.2.1 32 z;revert this;decide
theorem FG {d:bI}(o:DOk d):∀w∈DK d,32∉w.cps.toList:=by
 have lit:∀x∈([ar "matter",sl1,ar "mend",ar "change",kn 0,kn 1,kn 2,ar "point",ar "put",ar "off",ar "vote",ar "take",ar "close",ar "lay",ar "rest",ar "drop"]:List Str),32∉x.cps.toList:=by trivial
 cases d with
 |mat cs =>
  intro w hw;have hw':w∈ar "matter"::cs.flatMap (λws=>sl1::ws):=hw
  rcases List.mem_cons.mp hw' with rfl | hw'
  ·exact lit _ (by simp)
  obtain⟨ws,h1,h2⟩:=List.mem_flatMap.mp hw';rcases List.mem_cons.mp h2 with rfl | h2
  ·exact lit _ (by simp)
  exact((o.2 ws h1).wd w h2).free
 |ed m k i ws =>
  obtain⟨o1,⟨i0,i1⟩,o3,_⟩:=o;intro w hw;have hw':w∈kEd m::kn k::num i::(if k=1 then [] else ws):=hw
  rcases List.mem_cons.mp hw' with rfl | hw'
  ·cases m <;> exact lit _ (by simp[kEd])
  rcases List.mem_cons.mp hw' with rfl | hw'
  ·rcases o1 with rfl | rfl | rfl <;> exact lit _ (by simp)
  rcases List.mem_cons.mp hw' with rfl | hw'
  ·exact qv i0 i1
  split at hw'
  ·cases hw'
  exact(o3.wd w hw').free
 |pt ws =>
  intro w hw;have hw':w∈ar "point"::ws:=hw;rcases List.mem_cons.mp hw' with rfl | hw'
  ·exact lit _ (by simp)
  exact(o.wd w hw').free
 |nums kd ns =>
  obtain⟨o1,o2⟩:=o;intro w hw;have nf:∀w∈ns.map num,32∉w.cps.toList:=λw hw=>by
   obtain⟨i,hi,rfl⟩:=List.mem_map.mp hw;exact qv (o2 i hi).1 (o2 i hi).2
  have hw':w∈(if kd=ar "put off" then ar "put"::ar "off"::ns.map num else kd::ns.map num):=hw
  split at hw'
  ·rcases List.mem_cons.mp hw' with rfl | hw'
   ·exact lit _ (by simp)
   rcases List.mem_cons.mp hw' with rfl | hw'
   ·exact lit _ (by simp)
   exact nf w hw'
  rename_i hk;rcases List.mem_cons.mp hw' with rfl | hw'
  ·simp only[dM,V3,VN,or_false,Wg]at o1;rcases o1 with ⟨rfl,_⟩ | ⟨rfl,_⟩ | ⟨rfl,_⟩ | ⟨rfl,_⟩ | ⟨rfl,_⟩ | ⟨rfl,_⟩ | ⟨rfl,_⟩
   ·exact absurd rfl hk
   all_goals exact lit _ (by simp)
  exact nf w hw'
theorem vK {d:bI}(o:DOk d):Txt.split (cG d) bl1=DK d:=by
 rw[Ht,fw];refine j5 ?_ (FG o);cases d with
 |nums kd ns =>
  show (if kd=ar "put off" then _ else _)≠[]
  split <;> exact U5 _ _
 |_=>exact U5 _ _
theorem rW:∀(ws:List Str) (acc:List (List Str)) (c rest:List Str),(∀w∈ws,w≠sl1)->True->∀tl:List Str,clausesOf (acc++[c]) (ws++tl)=clausesOf (acc++[c++ws]) tl
 |[],acc,c,_,_,_,tl=>by simp
 |w::ws,acc,c,r,h,_,tl=>by
  show clausesOf (acc++[c]) (w::(ws++tl))=_;rw[clausesOf,aZ (h w eg),aZ (by simp)]
  have e1:(acc++[c]).dropLast=acc:=by simp
  have e2:(acc++[c]).getLastD []=c:=by simp
  rw[e1,e2,rW ws acc (c++[w]) r (λx hx=>h x (ma _ hx)) trivial tl]
  simp
theorem uT:∀(cs acc:List (List Str)),(∀ws∈cs,∀w∈ws,w≠sl1)->clausesOf acc (cs.flatMap λws=>sl1::ws)=some (acc++cs)
 |[],acc,_=>by simp[clausesOf]
 |ws::cs,acc,h=>by
  rw[List.flatMap_cons];show clausesOf acc (sl1::(ws++cs.flatMap λws=>sl1::ws))=_
  rw[clausesOf,bp rfl,rW ws acc [] [] (h ws eg) trivial,uT cs _ λx hx=>h x (ma _ hx)]
  simp
theorem JY {kd:Str}(h:kd∈JW)(r:¬kd=ar "matter"/\¬kd=ar "change"/\¬kd=ar "mend"/\¬kd=ar "put"/\¬kd=ar "point")
  (r2:¬kd=ar "vote"/\¬kd=ar "take"):cY [kd]=some (.nums kd []):=by
 rw[cY,aZ r.1,aZ r.2.1,aZ r.2.2.1,aZ r.2.2.2.1,aZ r.2.2.2.2,aZ r2.1,aZ r2.2,bp ⟨h,rfl⟩]
theorem mr {d:bI}(o:DOk d)(so:Fe d):cY (DK d)=some (norm d):=by
 have k1:¬ar "change"=ar "matter":=by trivial
 have k2:¬ar "mend"=ar "matter"/\¬ar "mend"=ar "change":=by trivial
 have k3:¬ar "put"=ar "matter"/\¬ar "put"=ar "change"/\¬ar "put"=ar "mend":=by trivial
 have k4:¬ar "point"=ar "matter"/\¬ar "point"=ar "change"/\¬ar "point"=ar "mend"/\¬ar "point"=ar "put":=by trivial
 have rest:∀kd∈([ar "vote",ar "take",ar "close",ar "lay",ar "rest",ar "drop"]:List Str),¬kd=ar "matter"/\¬kd=ar "change"/\¬kd=ar "mend"/\¬kd=ar "put"/\¬kd=ar "point":=by trivial
 cases d with
 |mat cs =>
  show cY (ar "matter"::cs.flatMap λws=>sl1::ws)=some (.mat cs)
  rw[cY,bp rfl];unfold readText;rw[uT cs [] λws hw w h=>((o.2 ws hw).wd w h).ns,Option.bind_some,bp]
  ·rfl
  exact List.all_eq_true.mpr λc hc=>xH (o.2 c (by simpa using hc)).wd
 |ed m k i ws =>
  obtain⟨o1,⟨i0,i1⟩,o3,o4⟩:=o;obtain⟨n1,n2⟩:=rV i0 i1;have re:gu (kn k::num i::(if k=1 then [] else ws))=some (k,i,if k=1 then [] else ws):=by
   rw[gu,bp n1,n2];rcases o1 with rfl | rfl | rfl
   ·rw[aZ IU.1,aZ (show ¬(0=1) by decide),bp (show (kn 0=kn 0\/kn 0=kn 2)/\ws.all dH=true from ⟨.inl rfl,xH o3.wd⟩),bp rfl]
   ·rw[bp rfl];rfl
   rw[aZ IU.2.1,aZ (show ¬(2=1) by decide),bp (show (kn 2=kn 0\/kn 2=kn 2)/\ws.all dH=true from ⟨.inr rfl,xH o3.wd⟩),aZ (VG IU.2.2)]
  show cY (kEd m::kn k::num i::(if k=1 then [] else ws))=some (.ed m k i (if k=1 then [] else ws))
  cases m with
  |false =>
   show cY (ar "change"::_)=_;rw[cY,aZ k1,bp rfl,re];rfl
  |true =>
   show cY (ar "mend"::_)=_;rw[cY,aZ k2.1,aZ k2.2,bp rfl];unfold jf;rw[re,Option.bind_some,bp]
   ·rfl
   by_cases hk:k=1
   ·exact .inl hk
   right;rw[aZ hk];have:=o4 rfl;simp[this]
 |pt ws =>
  show cY (ar "point"::ws)=some (.pt ws);rw[cY,aZ k4.1,aZ k4.2.1,aZ k4.2.2.1,aZ k4.2.2.2,bp rfl,bp (xH o.wd)]
 |nums kd ns =>
  obtain⟨o1,o2⟩:=o;show cY (if kd=ar "put off" then ar "put"::ar "off"::ns.map num else kd::ns.map num)=some (.nums kd ns)
  simp only[dM,V3,VN,or_false,Wg]at o1;rcases o1 with ⟨rfl,hl⟩ | ⟨rfl,hl⟩ | ⟨rfl,hl⟩ | ⟨rfl,hl⟩ | ⟨rfl,hl⟩ | ⟨rfl,hl⟩ | ⟨rfl,hl⟩
  ·obtain⟨n,rfl⟩:=List.length_eq_one_iff.mp hl;obtain⟨b1,b2⟩:=rV (o2 n (by simp)).1 (o2 n (by simp)).2
   obtain⟨s1,s2⟩:=so rfl n (by simp)
   rw[bp rfl,cY,aZ k3.1,aZ k3.2.1,aZ k3.2.2,bp rfl];show (qR [ar "off",num n]).map _=_;rw[qR,b2,bp ⟨rfl,b1,s1,s2⟩];rfl
  ·obtain⟨a,b,rfl⟩:∃x n,ns=[x,n]:=by
    match ns,hl with
    |[x,n],_=>exact⟨x,n,rfl⟩
   obtain⟨b1,b2⟩:=rV (o2 a (by simp)).1 (o2 a (by simp)).2
   obtain⟨c1,c2⟩:=rV (o2 b (by simp)).1 (o2 b (by simp)).2
   obtain⟨r1,r2,r3,r4,r5⟩:=rest (ar "vote") (by simp)
   rw[aZ (by trivial),cY,aZ r1,aZ r2,aZ r3,aZ r4,aZ r5,bp rfl]
   show uQ [num a,num b]=_;rw[uQ,b2,c2,bp ⟨b1,c1⟩]
  ·obtain⟨n,rfl⟩:=List.length_eq_one_iff.mp hl;obtain⟨b1,b2⟩:=rV (o2 n (by simp)).1 (o2 n (by simp)).2
   obtain⟨r1,r2,r3,r4,r5⟩:=rest (ar "take") (by simp)
   rw[aZ (by trivial),cY,aZ r1,aZ r2,aZ r3,aZ r4,aZ r5,aZ (by trivial),bp rfl]
   show uR [num n]=_;rw[uR,b2,bp b1]
  all_goals
   obtain rfl:=List.length_eq_zero_iff.mp hl;rw[aZ (by trivial)]
   exact JY (by trivial) (rest _ (by simp)) (by trivial)
theorem row_read {d:bI}(o:DOk d)(so:Fe d):cY (Txt.split (cG d) bl1)=some (norm d):=by rw[vK o,mr o so]
theorem Mx {d:bI}(o:DOk d):Asc (cG d):=by
 have e:=vK o;have hne:∀w∈fO d::cX d,Asc w:=by
  have lit:∀x∈([ar "matter",sl1,ar "mend",ar "change",kn 0,kn 1,kn 2,ar "point",ar "put off",ar "vote",ar "take",ar "close",ar "lay",ar "rest",ar "drop"]:List Str),∀c∈x.cps.toList,c < 128:=by trivial
  have nf:∀ {i:Int},0<=i->i < 10 ^ 10->Asc (num i):=λh0 h1 c hc=>by
   have:=(rV h0 h1).1;simp only[dC,U3]at this;have:=List.all_eq_true.mp this.2.2.1 c hc;simp only[js,U3,decide_eq_true_iff]at this;omega
  cases d with
  |mat cs =>
   intro w hw;rcases List.mem_cons.mp hw with rfl | hw'
   ·exact lit _ (by simp[fO])
   obtain⟨ws,h1,h2⟩:=List.mem_flatMap.mp hw';rcases List.mem_cons.mp h2 with rfl | h2
   ·exact lit _ (by simp)
   exact((o.2 ws h1).wd w h2).asc
  |ed m k i ws =>
   obtain⟨o1,⟨i0,i1⟩,o3,_⟩:=o;intro w hw;have hw':w∈kEd m::kn k::num i::(if k=1 then [] else ws):=hw
   rcases List.mem_cons.mp hw' with rfl | hw'
   ·cases m <;> exact lit _ (by simp[kEd])
   rcases List.mem_cons.mp hw' with rfl | hw'
   ·rcases o1 with rfl | rfl | rfl <;> exact lit _ (by simp)
   rcases List.mem_cons.mp hw' with rfl | hw'
   ·exact nf i0 i1
   split at hw'
   ·cases hw'
   exact(o3.wd w hw').asc
  |pt ws =>
   intro w hw;rcases List.mem_cons.mp hw with rfl | hw'
   ·exact lit _ (by simp[fO])
   exact(o.wd w hw').asc
  |nums kd ns =>
   obtain⟨o1,o2⟩:=o;intro w hw;rcases List.mem_cons.mp hw with hk | hw'
   ·have o1':=o1;simp only[dM,V3,VN,or_false,Wg]at o1';rw[hk];show Asc kd;rcases o1' with ⟨rfl,_⟩ | ⟨rfl,_⟩ | ⟨rfl,_⟩ | ⟨rfl,_⟩ | ⟨rfl,_⟩ | ⟨rfl,_⟩ | ⟨rfl,_⟩ <;> exact lit _ (by simp)
   obtain⟨i,hi,rfl⟩:=List.mem_map.mp hw';exact nf (o2 i hi).1 (o2 i hi).2
 have hs:Asc bl1:=by
  rw[fw];intro c hc;have:c=32:=by simpa using hc
  omega
 exact kz hs _ hne
end R
mutual
theorem DV.same {K:de}{H H':Hp}(s:bh H H'):∀(d:PyData) {x:V},DV K H d x->DV K H' d x
 | .none,_,h=>by unfold DV at h ⊢;exact h
 | .bool _,_,h=>by unfold DV at h ⊢;exact h
 | .int _,_,h=>by unfold DV at h ⊢;exact h
 | .str _,_,h=>by unfold DV at h ⊢;exact h
 | .list ds,_,h=>by
  unfold DV at h ⊢;obtain⟨a,xs,e,h1,h2⟩:=h;exact⟨a,xs,e,s.seq h1,bC.same s ds h2⟩
 | .tuple ds,_,h=>by
  unfold DV at h ⊢;obtain⟨a,xs,e,h1,h2⟩:=h;exact⟨a,xs,e,bO s h1,bC.same s ds h2⟩
 | .dict _,_,h=>by unfold DV at h;exact h.elim
theorem bC.same {K:de}{H H':Hp}(s:bh H H'):∀(ds:List PyData) {xs:List V},bC K H ds xs->bC K H' ds xs
 |[],_,h=>by unfold bC at h ⊢;exact h
 |d::ds,_,h=>by
  unfold bC at h ⊢;obtain⟨x,r,e,h1,h2⟩:=h;exact⟨x,r,e,DV.same s d h1,bC.same s ds h2⟩
end
theorem mO {d:PyData}(h1:d.canLay0=true)(h2:d.depth<=64):VS d=true:=by
 show (d.canLay0 && decide (d.depth<=64))=true;rw[h1,bG h2];rfl
theorem gJ {α:Type}{f:α->PyData}{k:Nat}(h:∀x,Vo (f x)<=k):∀xs:List α,Vi (xs.map f)<=k
 |[]=>by simp only[VH,Vi];omega
 |x::xs=>by
  have h1:=h x;have h2:=gJ h xs;simp only[rf,Vi];omega
theorem uU {α:Type}{f:α->PyData}:∀ {xs:List α},(∀x∈xs,(f x).canLay0=true)->U4 (xs.map f)=true
 |[],_=>by simp only[VH,U4]
 |x::xs,h=>by
  simp only[rf,U4,h x eg,uU λy hy=>h y (ma _ hy),VC]
theorem FH (ns:List Nat):(eV ns).canLay0=true:=by
 unfold eV;simp only[Vb];exact uU λn _=>by simp only[Vb]
theorem Aj (ns:List Nat):(eV ns).depth<=2:=by
 unfold eV;have:=gJ (f:=λn:Nat=>PyData.int (n:Int)) (k:=0) (λn=>by simp only[Vo];omega) ns
 simp only[Vo];omega
theorem Q9 (x:Nat×Int×List Nat):(asD x).canLay0=true:=by
 unfold asD;simp only[Vb,U4,FH,VC]
theorem Mz (x:Nat×Int×List Nat):(asD x).depth<=10:=by
 have:=Aj x.2.2;unfold asD;simp only[Vo,Vi];omega
theorem MA (x:Nat×Str):(dcD x).depth<=10:=by
 unfold dcD;simp only[Vo,Vi];omega
theorem Hu {N:Nat}{st:Ch}(I:av N st)(ns:List Int):(stD st ns).canLay0=true:=by
 have h1:U4 (ns.map λn=>asD (sX st n))=true:=uU λn _=>Q9 _
 have h2:U4 (st.bW.map dcD)=true:=uU λx hx=>by
  unfold dcD;simp only[Vb,U4,I.dw x hx,VC]
 unfold stD;simp only[Vb,U4,FH,h1,h2,VC]
theorem MB (st:Ch)(ns:List Int):(stD st ns).depth<=64:=by
 have h0:=Aj st.aJ;have h1:=gJ (f:=λn=>asD (sX st n)) (k:=10) (λn=>Mz _) ns
 have h2:=gJ (f:=dcD) (k:=10) MA st.bW;unfold stD;simp only[Vo,Vi];omega
theorem MC:∀k,Vu (kn k)=true
 | 0=>by trivial
 | 1=>by trivial
 |_+2=>by show Vu (ar "turn")=true;trivial
theorem MD {e:Ed}(h:Vu e.th=true):(edD e).canLay0=true:=by
 have h0:=MC 0;have h1:=MC 1;have h2:=MC 2;unfold edD;split <;> simp only[Vb,U4,h,h0,h1,h2,VC]
theorem ME (e:Ed):(edD e).depth<=10:=by
 unfold edD;split <;> simp only[Vo,Vi] <;> omega
theorem MF {tx:List Str}(h:∀x∈tx,Vu x=true):(PyData.list (tx.map VI)).canLay0=true:=by
 simp only[Vb];exact kS tx h
theorem MG (tx:List Str):(PyData.list (tx.map VI)).depth<=10:=by
 have:=m5 tx;simp only[Vo];omega
theorem Ra {N:Nat}:∀ {m:Mn},MOk N m->(mnD m).canLay0=true
 | .mat tx,h=>by
  have h0:=wU 0 (by decide)
  have h1:=MF h.2;unfold mnD;simp only[Vb,U4]at h1 ⊢;simp only[h0,h1,VC]
 | .chg e,h=>by
  have h0:=wU 1 (by decide)
  have h1:=MD (EdB.str h);unfold mnD;simp only[Vb,U4,h0,h1,VC]
 | .mnd e,h=>by
  have h0:=wU 2 (by decide)
  have h1:=MD (EdB.str h.1);unfold mnD;simp only[Vb,U4,h0,h1,VC]
 | .off u,_=>by
  have h0:=wU 3 (by decide)
  unfold mnD;simp only[Vb,U4,h0,VC]
 | .cls,_=>by
  have h0:=wU 4 (by decide)
  unfold mnD;simp only[Vb,U4,h0,VC]
 | .lay,_=>by
  have h0:=wU 5 (by decide)
  unfold mnD;simp only[Vb,U4,h0,VC]
 | .rst,_=>by
  have h0:=wU 6 (by decide)
  unfold mnD;simp only[Vb,U4,h0,VC]
 | .pnt z,h=>by
  have h0:=wU 7 (by decide)
  have h1:Vu z=true:=h;unfold mnD;simp only[Vb,U4,h0,h1,VC]
theorem w6:∀ {xs ys:List Int},WA xs ys->xs.Pairwise (·<=·)->ys.Pairwise (·<=·)->xs=ys
 |[],ys,p,_,_=>(List.Perm.nil_eq p)
 |x::xs,[],p,_,_=>absurd p.length_eq (by simp)
 |x::xs,y::ys,p,hx,hy=>by
  obtain⟨x1,x2⟩:=List.pairwise_cons.mp hx;obtain⟨y1,y2⟩:=List.pairwise_cons.mp hy;have e:x=y:=by
   have a:x∈y::ys:=p.mem_iff.mp eg;have b:y∈x::xs:=p.mem_iff.mpr eg;rcases List.mem_cons.mp a with a | a
   ·exact a
   rcases List.mem_cons.mp b with b | b
   ·exact b.symm
   exact Int.le_antisymm (x1 y b) (y1 x a)
  subst e;rw[w6 (List.perm_cons x |>.mp p) x2 y2]
theorem vL {W:Option (Nat×Rl)->Prop}(n:¬W none){c c':a6}{H1 H2:Hp}{x dx:Addr}{o:HO}(hx:H1 x=none)(hdx:H1 dx=none)(hk:∀a v,(ag (ag H1 dx (.own x)) x o) a=some v->a≠x->H2 a=some v/\c' a=c a):aq W c c' H1 H2:=by
 have old:∀a v,H1 a=some v->H2 a=some v/\c' a=c a:=λa v h =>
  hk a v ((ax (aQ h hx)).trans ((ax (aQ h hdx)).trans h)) (aQ h hx)
 exact⟨n,λa v h _=>(old a v h).1,λa v h=>⟨v,(old a v h).1⟩,λa v h _=>(old a v h).2⟩
def Cq (A:ba)(i:Nat):Sp:=λvs H Q _=>∃(o:Addr) (c:a6) (st:Ch),vs=[.ref o]/\bM A i c H o st/\∀l,H l=none->Q (.ref l) (ag H l (.lst (st.rows.map V.str)))
theorem Hv (T:Txt w.params K mg A){i:Nat}:aC P w K mg base a5 1 A.fE A.e7 ["self"] (Cq A i):=by
 refine T.uv.ok r9 (by left) λ_ _ _ _ H _ Q E hr h=>?_
 obtain⟨o,c,st,rfl,hc,q⟩:=h;obtain⟨dx,aM,aP,aA,aD,aF,aE,aR,ms,ds,ws,fs,es,X⟩:=hc.ex;refine⟨_,(ao (aG (cc cW (by rfl) T.ku gQ (aa (bH (pv 0) rfl) ai)))),?_⟩
 symm;exact eO rfl X.ob T.aH T.d8 qi ⟨aR,_,rfl,.inl (ay.of X.rows.2),q⟩
theorem MnT.dv {K:de}{c:a6}{H:Hp}{m:Mn}{t:Addr}(h:MnT c H m t):DV K H (mnD m) (.ref t):=by
 obtain⟨_,v,ht,hv⟩:=h
 by_cases h0:m.k=0
 ·obtain⟨tx,rfl⟩:∃tx,m=.mat tx:=by cases m <;> first | exact⟨_,rfl⟩ | exact absurd h0 (by simp[Mn.k])
  obtain⟨p,rfl,hp⟩:=hv;unfold mnD DV;refine⟨t,_,rfl,aW.of ht,?_⟩;unfold bC;refine⟨_,_,rfl,by unfold DV;rfl,?_⟩
  unfold bC;exact⟨_,_,rfl,xy (ay.of hp.2),by unfold bC;rfl⟩
 exact QT (by omega) hv (aW.of ht)
def AsC (c:a6)(H:Hp)(x:Nat×Int×List Nat)(v:V):Prop:=∃u l,v=.ref u/\(c u=none/\H u=some (.tup [nV x.1,.int x.2.1,.ref l]))/\c l=none/\H l=some (.lst (x.2.2.map nV))
def DcC (c:a6)(H:Hp)(x:Nat×Str)(v:V):Prop:=∃t,v=.ref t/\ck c H t [nV x.1,.str x.2]
structure StX (c:a6)(H:Hp)(st:Ch)(ns:List Int)(u l1 R l2:Addr)(ys ds:List V):Prop where
 cu:c u=none
 hu:H u=some (.tup [.int st.bc,.bl st.closed,.ref l1,.ref R,.ref l2])
 c1:c l1=none
 h1:H l1=some (.lst (st.aJ.map nV))
 cR:c R=none
 hR:H R=some (.lst ys)
 asd:bN (AsC c H) (ns.map (sX st)) ys
 c2:c l2=none
 h2:H l2=some (.lst ds)
 dec:bN (DcC c H) st.bW ds
def Ux (c:a6)(H:Hp)(st:Ch)(ns:List Int)(u:Addr):Prop:=∃l1 R l2 ys ds,StX c H st ns u l1 R l2 ys ds
theorem AsC.step {W:Option (Nat×Rl)->Prop}{c c':a6}{H H':Hp}{x:Nat×Int×List Nat}{v:V}(s:aq W c c' H H'):AsC c H x v->AsC c' H' x v
 |⟨u,l,e,⟨h1,h2⟩,h3,h4⟩=>⟨u,l,e,gn s h1 h2,gn s h3 h4⟩
theorem DcC.step {W:Option (Nat×Rl)->Prop}{c c':a6}{H H':Hp}{x:Nat×Str}{v:V}(s:aq W c c' H H'):DcC c H x v->DcC c' H' x v
 |⟨t,e,h⟩=>⟨t,e,h.step s⟩
theorem AsC.dv {K:de}{c:a6}{H:Hp}{x:Nat×Int×List Nat}{v:V}:AsC c H x v->DV K H (asD x) v
 |⟨u,l,e,⟨_,h3⟩,_,h4⟩=>by
  unfold asD DV;refine⟨u,_,e,aW.of h3,?_⟩;unfold bC;refine⟨_,_,rfl,by unfold DV;rfl,?_⟩
  unfold bC;refine⟨_,_,rfl,by unfold DV;rfl,?_⟩
  unfold bC;exact⟨_,_,rfl,gw (ay.of h4),by unfold bC;rfl⟩
theorem DcC.dv {K:de}{c:a6}{H:Hp}{x:Nat×Str}{v:V}:DcC c H x v->DV K H (dcD x) v
 |⟨t,e,h⟩=>by
  subst e;unfold dcD DV;refine⟨t,_,rfl,h.sq,?_⟩;unfold bC;refine⟨_,_,rfl,by unfold DV;rfl,?_⟩
  unfold bC;exact⟨_,_,rfl,by unfold DV;rfl,by unfold bC;rfl⟩
theorem StX.dv {K:de}{c:a6}{H:Hp}{st:Ch}{ns:List Int}{u l1 R l2:Addr}{ys ds:List V}(h:StX c H st ns u l1 R l2 ys ds):DV K H (stD st ns) (.ref u):=by
 unfold stD DV;refine⟨u,_,rfl,aW.of h.hu,?_⟩;unfold bC;refine⟨_,_,rfl,by unfold DV;rfl,?_⟩
 unfold bC;refine⟨_,_,rfl,by unfold DV;rfl,?_⟩
 unfold bC;refine⟨_,_,rfl,gw (ay.of h.h1),?_⟩;unfold bC;refine⟨_,_,rfl,?_,?_⟩
 ·unfold DV;refine⟨R,ys,rfl,ay.of h.hR,?_⟩;rw[show (ns.map λn=>asD (sX st n))=(ns.map (sX st)).map asD by rw[V4];rfl]
  exact bN.dvs (λx v h=>h.dv) h.asd
 unfold bC;refine⟨_,_,rfl,?_,by unfold bC;rfl⟩
 unfold DV;exact⟨l2,_,rfl,ay.of h.h2,bN.dvs (λx v h=>h.dv) h.dec⟩
def FI (A:ba)(i:Nat):Sp:=λvs H Q _=>∃(o:Addr) (c:a6) (st:Ch),vs=[.ref o]/\bM A i c H o st/\st.aU.length < 64 /\
 ∀(ns:List Int) (u:Addr) (H':Hp),WA ns (st.aU.map λx=>(x.1:Int))->ns.Pairwise (·<=·)->bh H H'->Ux (bP c H) H' st ns u->Q (.ref u) H'
def AsN (H0 H:Hp)(R:Addr)(x:Nat×Int×List Nat)(v:V):Prop:=∃u l,v=.ref u/\(u≠R/\l≠R)/\(H0 u=none/\H0 l=none)/\H u=some (.tup [nV x.1,.int x.2.1,.ref l])/\H l=some (.lst (x.2.2.map nV))
theorem AsN.same {H0 H H':Hp}{R:Addr}{x:Nat×Int×List Nat}{v:V}(s:bh H H'):AsN H0 H R x v->AsN H0 H' R x v
 |⟨u,l,e,h1,h2,h3,h4⟩=>⟨u,l,e,h1,h2,s _ _ h3,s _ _ h4⟩
theorem AsN.ag {H0 H:Hp}{R:Addr}{o:HO}{x:Nat×Int×List Nat}{v:V}:AsN H0 H R x v->AsN H0 (_L.ag H R o) R x v
 |⟨u,l,e,h1,h2,h3,h4⟩=>⟨u,l,e,h1,h2,(ax h1.1).trans h3,(ax h1.2).trans h4⟩
theorem JZ (T:Txt w.params K mg A){i:Nat}:aC P w K mg base a5 2 A.gv A.fY ["self"] (FI A i):=by
 refine T.xl.ok vc (by left) λ_ _ _ _ H _ Q E hr h=>?_
 obtain⟨o,c,st,rfl,hc,hal,q⟩:=h;obtain⟨dx,aM,aP,aA,aD,aF,aE,aR,ms,ds,ws,fs,es,X⟩:=hc.ex;have lim:fu=16777216:=by decide
 refine⟨_,(ah (m8 (i:=1) (scope:=jt) r8 rfl rfl (Or.inl rfl) (eW (bA (m9 hr.hd) (by rfl) T.zf va (aa (bH (pv 0) rfl) ai))) (λ_ _ _ _ _=>(dN (pv 1) T.aH T.p8 (AV (i:=i) T) hr T.qa .nil bU (aa (pv 0) ai))))
 (ao (aG (bu (aa (bH (pv 0) rfl) (aa (bH (pv 0) rfl) (aa (cc cW (by rfl) T.ku gQ (aa (bH (pv 0) rfl) ai)) (aa (pv 1) (aa (cc cW (by rfl) T.ku gQ (aa (bH (pv 0) rfl) ai)) ai))))))))),?_⟩
 symm;refine eO rfl X.ob T.aH T.dn jY ⟨aA,_,_,rfl,X.aU.2,Ai st.aU ws X.wait.len,by rw[bo];exact hal,λl0 ns pm so hl0=>?_⟩
 have nl:ns.length=st.aU.length:=by rw[pm.length_eq,bo]
 have s0:=aw (o:=.lst (ns.map V.int)) hl0;have hB:ay K (ag H l0 (.lst (ns.map V.int))) l0 (ns.map V.int):=ay.of ae;generalize ag H l0 (.lst (ns.map V.int))=H1 at s0 hB ⊢;refine⟨l0,rfl,⟨_,hB⟩,λR hR=>?_⟩
 have hR0:=same_none s0 hR;refine iz (K:=K) (a:=l0) (xs:=ns.map V.int) (λj ys H2=>bh H1 H2/\H2 R=some (.lst ys)/\bN (AsN H H2 R) ((ns.take j).map (sX st)) ys) ⟨aw hR,ae,.nil⟩ (by rw[bo];omega) ?_ ?_ ?_
 ·rintro j ys H2 hj ⟨s2,hR2,ha⟩;refine⟨s2.seq hB,hR2,?_⟩;rw[<-ha.len,bo,Vf];rw[bo]at hj;omega
 ·rintro j y ys H2 hy ⟨s2,hR2,ha⟩;refine aS λGa hGa=>?_
  obtain⟨n,hn1,rfl⟩:∃n,ns[j]?=some n/\V.int n=y:=by
   rw[sr]at hy;cases ht:ns[j]? with
   |none=>rw[ht]at hy;cases hy
   |some t=>rw[ht]at hy;exact⟨t,rfl,US hy⟩
  have G6:n∈st.aU.map λx=>(x.1:Int):=pm.mem_iff.mp (U2 hn1)
  obtain⟨x0,hx0,e0⟩:=List.mem_map.mp G6;obtain⟨x,hx⟩:∃x,at1 x0.1 st.aU=some x:=by
   cases z:at1 x0.1 st.aU with
   |some x=>exact⟨x,rfl⟩
   |none=>exact absurd (List.mem_map_of_mem hx0) (uI z)
  have e0':((x0.1:Nat):Int)=n:=e0;subst e0';have s02:=s0.trans s2;have X2:=X.same s02;have ea:sX st ((x0.1:Nat):Int)=x:=by unfold sX;rw[VT,hx];rfl
  refine hGa ?_;refine mtv rfl X2.ob (dB (by trivial)) ⟨_,rfl,o,x0.1,c,st,x,rfl,X2.at,hx,λl u H3 hl hu s3 h1 h2=>?_⟩
  have hR3:=s3 _ _ hR2;refine cI.mk (List.getElem?_eq_some_iff.mp hy).1 hR3 ⟨(s2.trans s3).own hR,ae,?_⟩;rw[VJ,hn1,kt];refine bN.snoc (ha.imp λ_ _ z=>(z.same s3).ag) ?_
  rw[ea];refine AsN.ag ⟨u,l,rfl,⟨(λz=>by rw[z,hR2]at hu;cases hu),(λz=>by rw[z,hR2]at hl;cases hl)⟩,⟨same_none s02 hu,same_none s02 hl⟩,?_,h1⟩
  rw[(ic hx).1];exact h2
 rintro ys H2 ⟨s2,hR2,ha⟩;rw[bo,Vs]at ha;have s02:=s0.trans s2;have X2:=X.same s02;refine eO rfl X2.ob T.aH T.cP jc (eO rfl X2.ob T.aH T.eu zN (eO rfl X2.ob T.aH T.bQ fg ⟨aP,_,rfl,.inl (ay.of X2.aJ.2),λl1 hl1=>?_⟩))
 have s3:=aw (o:=.lst (st.aJ.map nV)) hl1;have X3:=X2.same s3;have s03:=s02.trans s3;refine⟨_,rfl,eO rfl X3.ob T.aH T.gA wV ⟨aD,_,rfl,.inl (ay.of X3.dec.2),λl2 hl2=>⟨(sl 5),λu hu=>?_⟩⟩⟩
 have s4:=aw (o:=.lst (ds.map V.ref)) hl2;have s5:=aw (o:=.tup [V.int st.bc,.bl st.closed,.ref l1,.ref R,.ref l2]) hu;have s45:=s4.trans s5;have s05:=s03.trans s45;have X5:=X3.same s45;refine q ns u _ pm so s05 ⟨l1,R,l2,ys,ds.map V.ref,bS (same_none (s03.trans s4) hu),ae,bS (same_none s02 hl1),s45 _ _ ae,bS hR0,(s3.trans s45) _ _ hR2,?_,bS (same_none s03 hl2),s5 _ _ ae,?_⟩
 ·refine ha.imp λx v z=>?_
  refine aS λGb hGb=>?_
  obtain⟨u',l',e,_,⟨z1,z2⟩,z3,z4⟩:=z.same (s3.trans s45);refine hGb ?_;exact⟨u',l',e,⟨bS z1,z3⟩,bS z2,z4⟩
 refine bN.mapR (X5.jN.imp λx t h=>⟨t,rfl,?_,h.2⟩)
 unfold bP;split
 ·exact h.1
 rfl
noncomputable def isX:Rs->Bool
 | .exc _=>true
 |_=>false
def xq (d:R.bI):Prop:=mN d/\R.DOk d/\R.Fe d
theorem Hw (st:Ch)(m:Mn):(st.carry m).rows=st.rows:=by
 unfold Ch.carry;split
 ·split
  ·split <;> rfl
  rfl
 ·split
  ·split <;> rfl
  rfl
 ·split <;> rfl
 ·rfl
 ·split <;> rfl
 ·rfl
 rfl
theorem J0 {st:Ch}{d:R.bI}(hd:mN d){x:Xc}(h:(cN st d).1=.exc x):(cN st d).2=st:=by
 cases hd with
 |zX =>
  rw[iK]at h ⊢;unfold ly at h ⊢;split
  ·rfl
  rename_i n hn;rw[hn]at h;dsimp only at h;split
  ·rfl
  rename_i z;rw[aZ z]at h;cases h
 |drop =>
  rw[iL]at h ⊢;unfold mK at h ⊢;split
  ·rfl
  rename_i n hn;rw[hn]at h;cases h
 |take =>
  rw[iM]at h ⊢;unfold stepT at h ⊢;split
  ·rename_i hp;rw[bp hp]at h;split
   ·rfl
   rename_i y hy;rw[hy]at h;dsimp only at h;split
   ·rfl
   rename_i z;rw[aZ z]at h;cases h
  rfl
 |move hm =>
  rw[iN hm]at h ⊢;unfold mL at h ⊢;split
  ·rfl
  rename_i hc;rw[hc]at h;cases h
theorem MH {st:Ch}{d:R.bI}(hd:mN d)(h:isX (cN st d).1=true):(cN st d).2=st:=by
 cases e:(cN st d).1 with
 |exc x=>exact J0 hd e
 |num n=>rw[e]at h;cases h
 |txt z=>rw[e]at h;cases h
theorem J1 {st:Ch}{d:R.bI}(hd:mN d)(hn:R.DOk d)(h:isX (cN st d).1=false):(cN st d).2.rows=st.rows++[R.cG d]:=by
 cases hd with
 | @zX a b ha hb =>
  rw[iK]at h ⊢;unfold ly at h ⊢;cases e:st.aJ.getLast? with
  |none=>rw[e]at h;cases h
  |some n =>
   rw[e]at h;dsimp only at h ⊢;split at h
   ·cases h
   rename_i hz;rw[aZ hz];show (if _ then _ else _:Ch).rows++[_]=_
   congr 1
   split
   ·exact Hw _ _
   rfl
 |drop =>
  rw[iL]at h ⊢;unfold mK at h ⊢;cases e:st.aJ.getLast? with
  |none=>rw[e]at h;cases h
  |some n=>rfl
 | @take z z0 z1 =>
  have zp:0<=z:=(hn.2 z (by simp)).1
  rw[iM]at h ⊢;unfold stepT at h ⊢;split at h
  ·rename_i hp;rw[bp hp];cases e:at1 z.toNat st.aU with
   |none=>rw[e]at h;cases h
   |some x =>
    rw[e]at h;dsimp only at h ⊢;split at h
    ·cases h
    rename_i hs;rw[aZ hs];show st.rows++[R.cG (.nums _ [((z.toNat:Nat):Int)])]=_;rw[Int.toNat_of_nonneg zp]
  cases h
 |move hm =>
  rw[iN hm]at h ⊢;unfold mL at h ⊢;cases e:ij st (eE d) with
  |some x=>rw[e]at h;cases h
  |none=>rfl
def eL (n:Int)(ds:List R.bI):Ch:=ds.foldl (λst d=>(cN st d).2) (uP n)
theorem qS (n:Int)(ds:List R.bI)(d:R.bI):eL n (ds++[d])=(cN (eL n ds) d).2:=by
 unfold eL;rw[List.foldl_append];rfl
structure Rep (n:Int)(ds:List R.bI)(st:Ch):Prop where
 run:eL n ds=st
 ok:∀d∈ds,xq d
 good:∀i d,ds[i]?=some d->isX (cN (eL n (ds.take i)) d).1=false
 rows:st.rows=ds.map R.cG
theorem Rep.nil (n:Int):Rep n [] (uP n):=⟨rfl,(λ_ h=>nomatch h),(λ_ _ h=>by simp at h),rfl⟩
theorem Rep.snoc {n:Int}{ds:List R.bI}{st:Ch}{d:R.bI}(h:Rep n ds st)(hd:xq d)(hx:isX (cN st d).1=false):Rep n (ds++[d]) (cN st d).2:=by
 refine⟨by rw[qS,h.run],λe he=>?_,λi e he=>?_,?_⟩
 ·rcases List.mem_append.mp he with he | he
  ·exact h.ok e he
  rw[UT]at he;rw[he];exact hd
 ·by_cases hi:i < ds.length
  ·rw[Wm hi]at he;rw[List.take_append_of_le_length (Nat.le_of_lt hi)];exact h.good i e he
  have hl:i < (ds++[d]).length:=(List.getElem?_eq_some_iff.mp he).1;rw[ki,UY]at hl;obtain rfl:i=ds.length:=by omega
  rw[List.getElem?_concat_length]at he;cases he;rw[List.take_left,h.run];exact hx
 rw[J1 hd.1 hd.2.1 hx,h.rows,kt];rfl
theorem Cr {d:R.bI}(h:R.DOk d):(R.cG d).length<=50000:=by
 obtain⟨b1,b2,b3⟩:=R.mG h;have h1:=StrLaws.sumLen_le (B:=20) (R.fO d::R.cX d) (λw hw=>by
   rcases List.mem_cons.mp hw with rfl | hw
   ·exact b3
   exact b2 w hw)
 have h2:=qE 32 (R.fO d::R.cX d);unfold R.cG;rw[R.fw];rw[UQ]at h1 h2;omega
theorem FJ {c:a6}{H H':Hp}{t:Addr}(ht:H t=none)(hc:∀b,H b=none->c b=none):∀ {d:R.bI},R.qQ H H' d t->b6 c H' d t
 | .mat _,⟨L,a,b,e⟩=>⟨L,⟨hc t ht,a⟩,hc L b,e⟩
 | .ed _ _ _ _,⟨e,a,n,b⟩=>⟨e,⟨hc t ht,a⟩,hc e n,.inl b⟩
 | .pt _,h=>⟨hc t ht,h⟩
 | .nums _ _,h=>⟨hc t ht,h⟩
theorem mP (n:Int):av 0 (uP n) :=
 ⟨mv 0,mv 0,mv 0,mv 0,(λ_ h=>nomatch h),⟨by show (1:Int)<=1;decide,by show (1:Int)<=_;decide⟩,(λ_ h=>nomatch h),(λ_ h=>nomatch h),List.nodup_nil,.nil,(λ_ h=>nomatch h),rfl,rfl,(λ_ h=>nomatch h)⟩
theorem FK (st:Ch)(m:Mn):(st.carry m).cq=st.cq:=by
 unfold Ch.carry;split
 ·split
  ·split <;> rfl
  rfl
 ·split
  ·split <;> rfl
  rfl
 ·split <;> rfl
 ·rfl
 ·split <;> rfl
 ·rfl
 rfl
theorem uV (st:Ch):st.opened.cq=st.cq:=by unfold Ch.opened;rfl
theorem w8 {st:Ch}{d:R.bI}(h:mN d):(cN st d).2.cq=st.cq:=by
 cases h with
 |zX =>
  rw[iK];unfold ly;split
  ·rfl
  split
  ·rfl
  show ((if _ then _ else _:Ch).sV _).cq=_
  unfold Ch.sV;rw[show ∀(x:Ch) (r:List Str),({ x.opened with rows:=r }:Ch).cq=x.opened.cq from λ_ _=>rfl,uV]
  split
  ·rw[FK];rfl
  rfl
 |drop =>
  rw[iL];unfold mK;split
  ·rfl
  show ((_:Ch).sV _).cq=_;unfold Ch.sV;rw[show ∀(x:Ch) (r:List Str),({ x.opened with rows:=r }:Ch).cq=x.opened.cq from λ_ _=>rfl,uV]
  rfl
 |take =>
  rw[iM];unfold stepT;split
  ·split
   ·rfl
   split <;> rfl
  rfl
 |move h =>
  rw[iN h];unfold mL;split <;> rfl
def tq (st:Ch):PyData:=.list (st.made.map mnD)
theorem DL {N:Nat}{st:Ch}(I:av N st):(tq st).canLay0=true:=by
 unfold tq;simp only[Vb];exact uU λm hm=>Ra (I.mok m hm)
theorem FL (m:Mn):(mnD m).depth<=12:=by
 cases m with
 |mat tx =>
  have:=MG tx;unfold mnD;simp only[Vo,Vi]at this ⊢;omega
 |chg e =>
  have:=ME e;unfold mnD;simp only[Vo,Vi];omega
 |mnd e =>
  have:=ME e;unfold mnD;simp only[Vo,Vi];omega
 |_=>unfold mnD;simp only[Vo,Vi];omega
theorem IW (st:Ch):(tq st).depth<=64:=by
 have:=gJ (f:=mnD) FL st.made;unfold tq;simp only[Vo];omega
theorem Cs {st:Ch}{k:Nat}(hk:k < st.made.length):st.made.take (k+1)=st.made.take k++[st.mo (k+1)]:=by
 rw[VJ,wa hk];unfold Ch.mo;simp[List.getD,hk]
noncomputable def nsO (st:Ch):List Int:=(st.aU.map λx=>(x.1:Int)).mergeSort (λa b=>decide (a<=b))
theorem Hx {st:Ch}{ns:List Int}(p:WA ns (st.aU.map λx=>(x.1:Int)))(s:ns.Pairwise (·<=·)):ns=nsO st:=by
 refine w6 (p.trans (List.mergeSort_perm _ _).symm) s ?_;have:=List.pairwise_mergeSort (le:=λa b:Int=>decide (a<=b)) (by intro a b c h1 h2;simp at *;omega) (by intro a b;simp;omega) (st.aU.map λx=>(x.1:Int))
 exact this.imp λh=>eM h
def al (s1 s2:Ch):Bool:=Vy (stD s1 (nsO s1)) (stD s2 (nsO s2)) && Vy (tq s1) (tq s2)
def Frz (c:a6)(H0 H:Hp):Prop:=∃a ob kvs,c a≠none/\H0 a=some (.dK kvs)/\H=ag H0 a (.frz ob (.dK kvs))
theorem Frz.rd {c:a6}{H0 H:Hp}(f:Frz c H0 H){b:Addr}{kvs:List (Key×V)}(h:H0 b=some (.dK kvs)):Rd H b (.dK kvs):=by
 obtain⟨a,ob,kv,_,ha,rfl⟩:=f
 by_cases e:b=a
 ·subst e;rw[ha]at h;cases h;exact .inr ⟨ob,ae⟩
 exact .inl ((ax e).trans h)
theorem Frz.at {c:a6}{H0 H:Hp}(f:Frz c H0 H){b:Addr}{v:HO}(h:H0 b=some v)(n:∀kvs,v≠.dK kvs):H b=some v:=by
 obtain⟨a,ob,kv,_,ha,rfl⟩:=f;exact(ax (A0 h ha (n kv))).trans h
theorem Frz.step {c:a6}{H0 H:Hp}(f:Frz c H0 H):aq (λx=>x≠none) c c H0 H:=by
 obtain⟨a,ob,kv,hc,ha,rfl⟩:=f;exact aq.ag (λh=>h rfl) hc
def J2 (A:ba)(i:Nat):Sp:=λvs H Q _=>∃(o:Addr) (n:Nat) (c:a6) (st:Ch) (H0:Hp),vs=[.ref o,nV n]/\Frz c H0 H/\bM A i c H0 o st/\dY st n/\∀u H',bh H H'->MnT (bP c H) H' (st.mo n) u->Q (.ref u) H'
def MI (A:ba)(K:de)(i:Nat):Sp:=λvs H Q _=>∃(o:Addr) (c:a6) (st:Ch) (N:Nat),vs=[.ref o]/\bM A i c H o st/\av N st/\N<=800/\∀l H',bh H H'->DV K H' (tq st) (.ref l)->Q (.ref l) H'
theorem Hy (T:Txt w.params K mg A){i:Nat}:aC P w K mg base a5 3 A.iE A.gY ["self","number"] (J2 A i):=by
 have GY:∀k,k < 8->aC P w K mg base a5 2 (A.ft k) (A.ftd k) ["self"] (Dt A K k):=Fh T;refine T.vp.ok tU (by left) λ_ _ _ _ H _ Q E hr h=>?_
 obtain⟨o,n,c,st,H0,rfl,f,hc,hn,q⟩:=h;obtain⟨dx,aM,aP,aA,aD,aF,aE,aR,ms,ds,ws,fs,es,X⟩:=hc.ex;have bt:=hr.u1;refine⟨_,(ah (bf (CC (qI bt (pv 1) (bH (pv 0) rfl)))
 (ao ps_dead)
 aK)
 (ao (aG (jV (n:=8) (Cf:=A.C) (bx bt (bH (pv 0) rfl) (pv 1)) T.cl T.LD GY hr T.LG bU)))),?_⟩
 symm;refine⟨_,rfl,eO rfl (f.at X.ob λ_ z=>nomatch z) T.aH T.bX fQ ⟨aM,(_),rfl,.inl ⟨_,om (n:Int),f.rd X.made.2,rfl,rfl⟩,_,rfl,?_⟩⟩
 refine aS λGa hGa=>?_
 obtain⟨mo,hv,hmo⟩:=X.NQ hn;refine hGa ?_;rw[hv];refine b8 ?_;refine aS λGb hGb=>?_
 obtain⟨_,dm,v,hm,hvv⟩:=hmo;have hm:=f.at hm λ_ z=>nomatch z
 have hvv:=hvv.step f.step;refine hGb ?_;refine eO rfl (f.at X.ob λ_ z=>nomatch z) T.aH T.bX fQ ⟨_,rfl,aM,(_),rfl,.inl ⟨_,om (n:Int),f.rd X.made.2,rfl,hv.symm⟩,(st.mo n).k,(st.mo n).k8,mo,dm,_,rfl,hm,Iz _ v,?_⟩
 generalize st.mo n=m at hm hvv q
 by_cases h0:m.k=0
 ·obtain⟨tx,rfl⟩:∃tx,m=.mat tx:=by cases m <;> first | exact⟨_,rfl⟩ | exact absurd h0 (by simp[Mn.k])
  refine aS λGc hGc=>?_
  obtain⟨p,rfl,hp⟩:=hvv;refine hGc ?_;refine .inl ⟨rfl,mo,dm,p,tx.map V.str,rfl,hm,ay.of hp.2,λp2 u hp2 hu npu=>?_⟩
  have nu:(ag H p2 (.lst (tx.map V.str))) u=none:=(ax (VG npu)).trans hu;exact q u _ ((aw hp2).new nu) ⟨bS hu,.ref p2,ae,p2,rfl,bS hp2,(ax npu).trans ae⟩
 refine .inr ⟨by omega,mo,dm,v,rfl,hm,λu hu=>?_⟩
 have su:=aw (o:=.tup (rowOf m.k v)) hu;exact q u _ su ⟨bS hu,v,ae,hvv.step (aq.cl (W:=λ_=>False) id su)⟩
theorem Ct {H:Hp}{a:Addr}{v u:HO}(h:H a=some v):ag (ag H a u) a v=H:=by
 funext b
 by_cases e:b=a
 ·rw[e,ae,h]
 rw[ax e,ax e]
theorem Oi {H H':Hp}{a:Addr}{u:HO}(s:bh H H'):bh (ag H a u) (ag H' a u):=λb v h=>by
 by_cases e:b=a
 ·rw[e,ae]at h ⊢;exact h
 rw[ax e]at h ⊢;exact s b v h
theorem SR {c:a6}{H:Hp}{a:Addr}{v u:HO}(h:H a=some v):bP c (ag H a u)=bP c H:=by
 funext b
 unfold bP
 by_cases e:b=a
 ·rw[e,ae,h];rfl
 rw[ax e]
theorem Ak {H:Hp}{a b:Addr}{u v:HO}(n:a≠b):ag (ag H b v) a u=ag (ag H a u) b v:=by
 funext x
 by_cases e:x=a
 ·rw[e,ae,ax n,ae]
 rw[ax e]
 by_cases f:x=b
 ·rw[f,ae,ae]
 rw[ax f,ax f,ax e]
theorem Al (T:Txt w.params K mg A){i:Nat}(hi:i≠0):aC P w K mg base a5 4 A.d4 A.dW ["self"] (MI A K i):=by
 refine T.o6.ok nc (by left) λ_ _ _ _ H _ Q E hr h=>?_
 obtain⟨o,c,st,N,rfl,hc,I,hN,q⟩:=h;obtain⟨dx,aM,aP,aA,aD,aF,aE,aR,ms,ds,ws,fs,es,X⟩:=hc.ex;refine⟨_,(ao (aG (pe_thaw (gS (scope:=f6) lI rfl (pi_dict (bH (pv 0) rfl)) (λ_ _ _ _ _=>(dN (pv 1) T.aH T.vo (Hy (i:=i) T) hr T.vq .nil bU (aa (pv 0) ai))))))),?_⟩
 symm;have lim:fu=16777216:=by decide
 have lm:=I.lm;have ml:=X.mot.len;have hk:(bD ((Vm 1 st.made.length).zip (ms.map V.ref))).map (·.1)=((Vm 1 st.made.length).map λn:Nat=>(n:Int)).map om:=by
  unfold bD;rw[V4,V4,<-List.map_fst_zip (l₁:=Vm 1 st.made.length) (l₂:=ms.map V.ref) (by rw[Vz,bo];omega),V4,List.map_fst_zip (by rw[Vz,bo];omega)]
  rfl
 have nl:((Vm 1 st.made.length).map λn:Nat=>(n:Int)).length=st.made.length:=by rw[bo,Vz]
 have cM0:c aM=some (i,.made):=X.made.1;have hM:H aM=some (.dK (bD ((Vm 1 st.made.length).zip (ms.map V.ref)))):=X.made.2;refine⟨aM,_,hM,eO rfl X.ob T.aH T.bX fQ ⟨aM,(_),_,rfl,hM,hk,λob R hR=>?_⟩⟩
 generalize bD ((Vm 1 st.made.length).zip (ms.map V.ref))=kv at hM hR ⊢;have nR:aM≠R:=λz=>by rw[<-z,ae]at hR;cases hR
 have hR0:H R=none:=(ax (VG nR)).symm.trans hR;have e0:ag (ag (ag H aM (.frz ob (.dK kv))) R (.lst [])) aM (.dK kv)=ag H R (.lst []):=by
  rw[Ak nR]
  congr 1
  exact Ct hM
 have s0:aq (cw 0) c (aN c R (some (0,.ob))) H (ag H R (.lst [])):=aq.new a7 hR0;refine comp_dict (λk ys H2=>∃(c2:a6) (ts:List Addr),bh H (ag H2 aM (.dK kv))/\H2 aM=some (.frz ob (.dK kv))/\H2 R=some (.lst ys)/\c2 R=some (0,.ob)/\c2 aM≠none/\ys=ts.map V.ref/\bM A i c2 (ag H2 aM (.dK kv)) o st/\bN (MnT c2 H2) (st.made.take k) ts)
  ⟨aN c R (some (0,.ob)),[],(by rw[e0];exact aw hR0),(ax nR).trans ae,ae,bj,(by rw[a9 nR,cM0];exactλz=>nomatch z),rfl,(by rw[e0];exact hc.free (λr=>eK hi r) s0),.nil⟩ (by omega) ?_ ?_ ?_
 ·rintro k ys H2 hk hp0;refine aS λGa hGa=>?_
  obtain⟨c2,ts,s2,hf,hR2,cR,cM,rfl,hc2,ha⟩:=hp0;refine hGa ?_;refine⟨hf,hR2,?_⟩;rw[bo,<-ha.len,Vf];omega
 ·rintro k x ys H2 hx hp0;refine aS λGb hGb=>?_
  obtain⟨c2,ts,s2,hf,hR2,cR,cM,rfl,hc2,ha⟩:=hp0;have hk:k < st.made.length:=by rw[<-nl];exact(List.getElem?_eq_some_iff.mp hx).1
  obtain rfl:((k+1:Nat):Int)=x:=by
   rw[sr,List.getElem?_range' hk]at hx;have:((1+1 * k:Nat):Int)=x:=US hx;omega
  have hn:dY st (k+1):=⟨by omega,by omega⟩
  have fz:Frz c2 (ag H2 aM (.dK kv)) H2:=⟨aM,ob,kv,cM,ae,(Ct hf).symm⟩;obtain⟨dx2,aM2,aP2,aA2,aD2,aF2,aE2,aR2,ms2,ds2,ws2,fs2,es2,X2⟩:=hc2.ex;refine hGb ?_;refine mtv rfl (fz.at X2.ob λ_ z=>nomatch z) (dB (by trivial)) ⟨_,rfl,o,k+1,c2,st,_,rfl,fz,hc2,hn,λu H3 s3 hm=>?_⟩
  have t3:aq (cw 0) c2 (bP c2 H2) H2 H3:=aq.cl a7 s3;have cR3:bP c2 H2 R=some (0,.ob):=(qf hR2).trans cR;have cM3:bP c2 H2 aM≠none:=by rw[qf hf];exact cM
  have t4:aq (cw 0) (bP c2 H2) (bP c2 H2) H3 (ag H3 R (.lst (ts.map V.ref++[.ref u]))):=aq.ag a7 ⟨.ob,cR3⟩;have sT:bh (ag H2 aM (.dK kv)) (ag H3 aM (.dK kv)):=Oi s3;have tT:aq (cw 0) c2 (bP c2 H2) (ag H2 aM (.dK kv)) (ag H3 aM (.dK kv)):=by
   have:=aq.cl (W:=cw 0) (c:=c2) a7 sT;rw[SR hf]at this;exact this
  have tR:aq (cw 0) (bP c2 H2) (bP c2 H2) (ag H3 aM (.dK kv)) (ag (ag H3 aM (.dK kv)) R (.lst (ts.map V.ref++[.ref u]))):=aq.ag a7 ⟨.ob,cR3⟩;refine cI.mk (by omega) (s3 _ _ hR2) ⟨_,ts++[u],?_,(ax nR).trans (s3 _ _ hf),ae,cR3,cM3,?_,?_,?_⟩
  ·rw[Ak nR];exact(s2.trans sT).own hR0
  ·rw[kt];rfl
  ·rw[Ak nR];exact hc2.free (λr=>eK hi r) (tT.trans tR)
  rw[Cs hk];exact bN.snoc (ha.imp λ_ _ z=>(z.step t3).step t4) (hm.step t4)
 rintro ys H2 hp0;refine aS λGc hGc=>?_
 obtain⟨c2,ts,s2,hf,hR2,cR,cM,rfl,hc2,ha⟩:=hp0;rw[nl,Vs]at ha;refine hGc ?_;refine⟨ob,hf,q R _ s2 ?_⟩;have tt:aq (λx=>x≠none) c2 c2 H2 (ag H2 aM (.dK kv)):=aq.ag (λh=>h rfl) cM
 unfold tq DV;exact⟨R,_,rfl,ay.of ((ax (VG nR)).trans hR2),bN.dvs (R:=λm v=>∃t,v=V.ref t/\MnT c2 (ag H2 aM (.dK kv)) m t) (λm v ⟨t,e,h⟩=>by rw[e];exact h.dv) (bN.mapR (ha.imp λm t h=>⟨t,rfl,h.step tt⟩))⟩
def FN (A:ba)(i:Nat):Sp:=λvs H Q _=>∃(o:Addr) (n:Int) (c:a6) (st:Ch) (N:Nat) (d:R.bI),vs=[.ref o,.str (R.cG d),.int n]/\bM A i c H o st/\av N st/\N<=600 /\
 xq d/\isX (cN st d).1=false/\∀c' H',aq (cw i) c c' H H'->bM A i c' H' o (cN st d).2->Q .non H'
def vM (A:ba)(i:Nat):Sp:=λvs H Q _=>∃(n:Int) (l:Addr) (c:a6) (ds:List R.bI) (st:Ch),vs=[.int n,.ref l]/\c l=none/\H l=some (.lst ((ds.map R.cG).map V.str))/\Rep n ds st/\ds.length<=50 /\
 ∀o c' H',aq (cw i) c c' H H'->bM A i c' H' o (eL n ds)->Q (.ref o) H'
theorem IZ:∀ {xs:List PyData},(∀x∈xs,∀y,Vy x y=Vy y x)->∀ys,V5 xs ys=V5 ys xs
 |[],_,[]=>rfl
 |[],_,_::_=>by simp only[V5]
 |_::_,_,[]=>by simp only[V5]
 |x::xs,h,y::ys=>by
  simp only[V5];rw[h x eg y,IZ (λz hz=>h z (ma _ hz)) ys]
theorem Oj {α:Type}[BEq α][LawfulBEq α](a b:α):(a == b)=(b == a):=Bool.eq_iff_iff.mpr ⟨λh=>by rw[eq_of_beq h];exact beq_self_eq_true _,λh=>by rw[eq_of_beq h];exact beq_self_eq_true _⟩
theorem MJ:∀(n:Nat) (a b:PyData),sizeOf a<=n->Vy a b=Vy b a:=by
 intro n
 induction n with
 |zero =>
  intro a b h;cases a <;> simp at h
 |succ n ih =>
  intro a b h;have go:∀xs:List PyData,sizeOf xs < sizeOf a->∀ys,V5 xs ys=V5 ys xs:=λxs hx ys=>IZ (λx hm y=>ih x y (by have:=List.sizeOf_lt_of_mem hm;omega)) ys
  cases a <;> cases b <;> simp only[Vy] <;> first | exact Oj _ _ | exact go _ (by simp) _
theorem I0 (a b:PyData):Vy a b=Vy b a:=MJ _ a b (mv _)
theorem Rb (s1 s2:Ch):al s1 s2=al s2 s1:=by unfold al;rw[I0 (stD s1 _),I0 (tq s1)]
def alN (n:Int)(d1 d2:List R.bI)(j:Nat):Bool:=al (eL n (d1.take (j+1))) (eL n (d2.take (j+1)))
def Due (n:Int)(d1 d2:List R.bI)(v:V):Prop:=(∃j,j < min d1.length d2.length/\alN n d1 d2 j=false/\(∀i,i < j->alN n d1 d2 i=true)/\v=.int ((j+1:Nat):Int)) \/
 ((∀i,i < min d1.length d2.length->alN n d1 d2 i=true)/\v=if d1.length=d2.length then .non else .int ((min d1.length d2.length+1:Nat):Int))
theorem Due.one {n:Int}{d1 d2:List R.bI}{v u:V}(h:Due n d1 d2 v)(g:Due n d1 d2 u):v=u:=by
 rcases h with ⟨j,h1,h2,h3,rfl⟩ | ⟨h3,rfl⟩ <;> rcases g with ⟨k,g1,g2,g3,rfl⟩ | ⟨g3,rfl⟩
 ·rcases Nat.lt_trichotomy j k with l | rfl | l
  ·rw[g3 j l]at h2;cases h2
  ·rfl
  rw[h3 k l]at g2;cases g2
 ·rw[g3 j h1]at h2;cases h2
 ·rw[h3 k g1]at g2;cases g2
 rfl
theorem Due.sym {n:Int}{d1 d2:List R.bI}{v:V}(h:Due n d1 d2 v):Due n d2 d1 v:=by
 have e:∀i,alN n d2 d1 i=alN n d1 d2 i:=λi=>Rb _ _
 rcases h with ⟨j,h1,h2,h3,rfl⟩ | ⟨h3,rfl⟩
 ·exact .inl ⟨j,by omega,by rw[e];exact h2,λi hi=>by rw[e];exact h3 i hi,rfl⟩
 refine .inr ⟨λi hi=>by rw[e];exact h3 i (by omega),?_⟩
 rw[Nat.min_comm]
 by_cases h:d1.length=d2.length
 ·rw[bp h,bp h.symm]
 rw[aZ h,aZ (VG h)]
structure Am (n:Int)(H:Hp)(l:Addr)(ds:List R.bI):Prop where
 at_:H l=some (.lst ((ds.map R.cG).map V.str))
 rep:∃st,Rep n ds st
 len:ds.length<=40
theorem Am.same {n:Int}{H H':Hp}{l:Addr}{ds:List R.bI}(s:bh H H')(h:Am n H l ds):Am n H' l ds:=⟨s _ _ h.at_,h.rep,h.len⟩
def SS (A:ba):Sp:=λvs H Q _=>∃(i j:Nat) (o1 o2:Addr) (c:a6) (s1 s2:Ch) (N:Nat),vs=[.ref o1,.ref o2]/\bM A (i+1) c H o1 s1/\bM A (j+1) c H o2 s2/\av N s1/\av N s2/\N<=189/\∀H',bh H H'->Q (.bl (al s1 s2)) H'
def MK (A:ba):Sp:=λvs H Q _=>∃(n:Int) (l1 l2:Addr) (d1 d2:List R.bI),vs=[.int n,.ref l1,.ref l2]/\Am n H l1 d1/\Am n H l2 d2/\∀v H',Due n d1 d2 v->bh H H'->Q v H'
theorem Cu (T:Txt w.params K mg A){i:Nat}:aC P w K mg base a5 9 A.GO A.vh ["chamber","row","number"] (FN A i):=by
 have FO:aC P w K mg base a5 7 A.vg A.nj ["row"] (R.IV K A):=R.DJ T;refine T.uk.F.ok JE (by left) λ_ _ _ _ H _ Q E hr h=>?_
 obtain⟨o,n,c,st,N,d,rfl,hc,I,hN,hd,hx,q⟩:=h;refine⟨_,(ao (ps_tryN (ao (bw (az (G9 (i:=i) T) hr T.BW (aa (pv 0) (aa (az FO hr.mono T.wM (aa (pv 1) ai)) ai))))))),?_⟩;symm;refine⟨_,rfl,_,rfl,R.cG d,rfl,Cr hd.2.1,R.Mx hd.2.1,λe he t H1 s1 nt h1=>?_,λhe=>?_⟩
 ·rw[R.row_read hd.2.1 hd.2.2]at he;cases he;refine⟨o,t,bP c H,st,N,d,rfl,hc.free (W:=λ_=>False) (λ_=>id) (aq.cl id s1),I,by omega,hd.1,(FJ nt (λ_ h=>bS h) (R.qQ.norm h1)).c,?_⟩
  generalize cN st d=rs at q hx ⊢;obtain⟨r,st'⟩:=rs;cases r with
  |num n=>exactλc2 H2 s2 hc2=>q c2 H2 ((aq.cl a7 s1).trans s2) hc2
  |txt z=>exactλc2 H2 s2 hc2=>q c2 H2 ((aq.cl a7 s1).trans s2) hc2
  |exc x=>cases hx
 rw[R.row_read hd.2.1 hd.2.2]at he;cases he
theorem vN (T:Txt w.params K mg A){i:Nat}:aC P w K mg base a5 10 A.replay A.BF ["seats","rows"] (vM A i):=by
 refine T.um.F.ok qJ (by left) λ_ _ _ _ H _ Q E hr h=>?_
 obtain⟨n,l,c,ds,st,rfl,cl,hl,rep,hN,q⟩:=h;refine⟨_,(ah (aV (i:=2) qJ.nd (eX T.vn (G7 T) hr.mono rfl T.vm T.ky .nil bU (aa (pv 0) ai)))
 (ah (gN Vx rfl (pi_enum (k:=1) (by trivial) rfl T.wR (aa (pv 1) ai)) (rY rfl (d0 (b9 (i:=3) qJ.nd) (d0 (b9 (i:=4) qJ.nd) mU)))
 (ao (bw (az (Cu (i:=i) T) hr T.uk (aa (pv 2) (aa (pv 4) (aa (pv 3) ai)))))))
 (ao (aG (pv 2))))),?_⟩
 symm;refine⟨_,rfl,λo d1 ho1 hd1 ne1=>⟨o,d1,n,rfl,ae,λH2 h2=>⟨rfl,?_⟩⟩⟩
 refine aS λGa hGa=>?_
 obtain⟨c1,k1,ch1⟩:=h2 i c;have st1:aq (cw i) c c1 H H2:=vL a7 ho1 hd1 k1;have kl:=gn st1 cl hl;refine hGa ?_
 try dsimp only[cZ]
 refine⟨_,rfl,l,rfl,⟨_,ay.of kl.2⟩,?_⟩;refine for_enum (K:=K) (a:=l) (xs:=(ds.map R.cG).map V.str) (λj σ Hj=>∃(cj:a6) (v3 v4:Option V),σ=[some (.int n),some (.ref l),some (.ref o),v3,v4]/\aq (cw i) c cj H Hj/\bM A i cj Hj o (eL n (ds.take j))/\av (3 * j) (eL n (ds.take j)))
  ⟨c1,_,_,rfl,st1,ch1,mP n⟩ (λj σ Hj _ ⟨cj,_,_,_,sj,_⟩=>ay.of (gn sj cl hl).2) ?_ ?_
 ·rintro j y σ Hj t hy hp0 ht;refine aS λGb hGb=>?_
  obtain⟨cj,v3,v4,rfl,sj,chj,Ij⟩:=hp0;have sn:aq (cw i) cj (aN cj t none) Hj (ag Hj t (.tup [.int ((j+1:Nat):Int),y])):=aq.new a7 ht;have chn:=chj.free (W:=λ_=>False) (λ_=>id) (aq.new (x:=none) (o:=.tup [.int ((j+1:Nat):Int),y]) id ht)
  rw[sr,sr]at hy;refine hGb ?_;cases hdj:ds[j]? with
  |none=>rw[hdj]at hy;cases hy
  |some d =>
   rw[hdj]at hy;obtain rfl:V.str (R.cG d)=y:=US hy;have hd:=rep.ok d (U2 hdj);have hj:=(List.getElem?_eq_some_iff.mp hdj).1;refine⟨t,_,rfl,aW.of ae,rfl,_,_,rfl,_,_,rfl,rfl,?_⟩;refine⟨_,rfl,_,rfl,_,rfl,o,_,aN cj t none,eL n (ds.take j),3 * j,d,rfl,chn,Ij,by omega,hd,rep.good j d hdj,λc' H' s' ch'=>?_⟩
   have e:eL n (ds.take (j+1))=(cN (eL n (ds.take j)) d).2:=by rw[VJ,hdj];exact qS _ _ _
   have I':=Ij.cN (by omega) hd.1
   rw[<-e]at ch' I';exact⟨c',_,_,rfl,(sj.trans sn).trans s',ch',by rw[show 3 * (j+1)=3 * j+3 by omega];exact I'⟩
 rintro σ Hj hp0;refine aS λGc hGc=>?_
 obtain⟨cj,v3,v4,rfl,sj,chj,Ij⟩:=hp0;rw[bo,bo,Vs]at chj;refine hGc ?_;exact⟨_,rfl,q o cj Hj sj chj⟩
theorem DM (T:Txt w.params K mg A):aC P w K mg base a5 5 A.BG A.ui ["one","other"] (SS A):=by
 have oZ:aC P w K mg base a5 2 A.gv A.fY ["self"] (λvs H Q E=>∃i,FI A i vs H Q E):=Fn λi=>JZ T
 have iu:aC P w K mg base a5 4 A.d4 A.dW ["self"] (λvs H Q E=>∃k:Nat,MI A K (k+1) vs H Q E):=Fn λk=>Al T (by omega)
 refine T.wN.F.ok C2 (by left) λ_ _ _ _ H _ Q E hr h=>?_
 obtain⟨i,j,o1,o2,c,s1,s2,N,rfl,h1,h2,I1,I2,hN,q⟩:=h;have gL:=hr.units;refine⟨_,(ao (aG (jZ (b5 (mZ gL) (dI (pv 0) T.aH T.oU oZ hr.mono T.oV .nil bU) (dI (pv 1) T.aH T.oU oZ hr.mono T.oV .nil bU) (aL _)) (iw (b5 (mZ gL) (dI (pv 0) T.aH T.iq iu hr T.ir .nil bU) (dI (pv 1) T.aH T.iq iu hr T.ir .nil bU) (aL _)))))),?_⟩;symm;refine aS λGa hGa=>?_
 have a1:=I1.uM;have a2:=I2.uM;have m1:=I1.lm;have m2:=I2.lm;obtain⟨dx1,aM1,aP1,aA1,aD1,aF1,aE1,aR1,ms1,ds1,ws1,fs1,es1,X1⟩:=h1.ex;obtain⟨dx2,aM2,aP2,aA2,aD2,aF2,aE2,aR2,ms2,ds2,ws2,fs2,es2,X2⟩:=h2.ex;refine hGa ?_;refine mtv rfl X1.ob (dB (by trivial)) ⟨i+1,o1,c,_,rfl,h1,by omega,λns1 u1 H1 pm1 so1 t1 sa1=>?_⟩
 refine mtv rfl (t1 _ _ X2.ob) (dB (by trivial)) ⟨j+1,o2,c,_,rfl,(X2.same t1).at,by omega,λns2 u2 H2 pm2 so2 t2 sa2=>?_⟩
 refine aS λGb hGb=>?_
 have e1:=Hx pm1 so1;have e2:=Hx pm2 so2;subst e1 e2;obtain⟨_,_,_,_,_,sa1⟩:=sa1;obtain⟨_,_,_,_,_,sa2⟩:=sa2;refine hGb ?_;refine⟨stD _ _,stD _ _,DV.same t2 _ sa1.dv,sa2.dv,mO (Hu I1 _) (MB _ _),mO (Hu I2 _) (MB _ _),_,rfl,?_⟩;have t12:=t1.trans t2;unfold al at q;cases ee:Vy (stD s1 (nsO s1)) (stD s2 (nsO s2)) with
 |false =>
  rw[ee]at q;exact b8 (q H2 t12)
 |true =>
  rw[ee]at q;refine dR (mtv rfl (t12 _ _ X1.ob) (dB (by trivial)) ⟨i,o1,c,_,N,rfl,(X1.same t12).at,I1,by omega,λm1 H3 t3 v1=>?_⟩)
  have t13:=t12.trans t3;refine mtv rfl (t13 _ _ X2.ob) (dB (by trivial)) ⟨j,o2,c,_,N,rfl,(X2.same t13).at,I2,by omega,λm2 H4 t4 v2=>?_⟩
  exact⟨tq s1,tq s2,DV.same t4 _ v1,v2,mO (DL I1) (IW _),mO (DL I2) (IW _),q H4 (t13.trans t4)⟩
noncomputable abbrev cNo:a6:=λ_=>none
def Ol (x:Option (Nat×Rl)):Prop:=x≠none
theorem xI:¬Ol none:=λh=>h rfl
theorem aq.wall {W:Option (Nat×Rl)->Prop}{c c':a6}{H H':Hp}(s:aq W c c' H H'):aq Ol c c' H H':=s.mono (λx h e=>s.nn (e▸h)) xI
theorem xr {W:Option (Nat×Rl)->Prop}{c':a6}{H H':Hp}(s:aq W cNo c' H H'):bh H H':=λa v h=>s.keep a v h s.nn
theorem FP {α:Type}{xs:List α}{j:Nat}{v:α}(h:xs[j]?=some v):atI xs (0+(j:Int))=some v:=by rw[Int.zero_add];exact cS h
theorem Am.row {n:Int}{H:Hp}{l:Addr}{ds:List R.bI}{d:R.bI}{j:Nat}(_:Am n H l ds)(hd:ds[j]?=some d):((ds.map R.cG).map V.str)[j]?=some (.str (R.cG d)):=by
 rw[sr,sr,hd];rfl
theorem jQ {te:TE}{i:Nat}{t2:TS}{D:Ends}{σ:St}{H:Hp}(J:V->Hp->Prop)(h2:∀v H',J v H'->t2 D (σ.set i (some v)) H')(h1:∀N:VK,(∀v H',J v H'->N v H')->te σ H N):DY (Jq te (cZ i)) t2 D σ H:=h1 _ h2
theorem FQ {te:TE}{t2:TS}{D:Ends}{σ:St}{H:Hp}(J:Hp->Prop)(h2:∀H',J H'->t2 D σ H')(h1:∀N:VK,(∀v H',J H'->N v H')->te σ H N):DY (OO te) t2 D σ H:=h1 _ λ_=>h2
theorem J3 (T:Txt w.params K mg A):aC P w K mg base a5 11 A.KW A.BH ["seats","one","other"] (MK A):=by
 have FR:aC P w K mg base a5 9 A.GO A.vh ["chamber","row","number"] (λvs H Q E=>∃i,FN A i vs H Q E):=Fn λi=>Cu T
 refine T.ET.F.ok jW (by left) λ_ _ _ s H _ Q E hr h=>?_
 obtain⟨n,l1,l2,d1,d2,rfl,p1,p2,q⟩:=h;refine⟨_,(ah (bw (az (vN (i:=1) T) hr T.um (aa (pv 0) (aa (pv 1) ai))))
 (ah (bw (az (vN (i:=1) T) hr T.um (aa (pv 0) (aa (pv 2) ai))))
 (ah (aV (i:=3) jW.nd (eX T.vn (G7 T) hr.mono rfl T.vm T.ky .nil bU (aa (pv 0) ai)))
 (ah (aV (i:=4) jW.nd (eX T.vn (G7 T) hr.mono rfl T.vm T.ky .nil bU (aa (pv 0) ai)))
 (ah (aV (i:=5) jW.nd (bA (u0 rfl) (by rfl) T.LA GA (aa (bA bF (by rfl) T.dS cC (aa (pv 1) ai)) (aa (bA bF (by rfl) T.dS cC (aa (pv 2) ai)) ai))))
 (ah (gN Vx rfl (jT rfl T.qM (aa (pv 5) ai)) (b9 (i:=6) jW.nd)
 (ah (aV (i:=7) jW.nd (bb cT (pv 6) aj))
 (ah (bw (az FR hr.mono T.uk (aa (pv 3) (aa (aO br (pv 1) (pv 6)) (aa (pv 7) ai)))))
 (ah (bw (az FR hr.mono T.uk (aa (pv 4) (aa (aO br (pv 2) (pv 6)) (aa (pv 7) ai)))))
 (ao (bf (mT (lH (az (DM T) hr.mono T.wN (aa (pv 3) (aa (pv 4) ai)))))
 (ao (aG (pv 7)))
 aK))))))
 (ah (bf (aI bz (bA bF (by rfl) T.dS cC (aa (pv 1) ai)) (bA bF (by rfl) T.dS cC (aa (pv 2) ai)) (aL _))
 (ao (aG rX))
 aK)
 (ao (aG (bb cT (pv 5) aj)))))))))),?_⟩
 symm;refine aS λGa hGa=>?_
 have lim:fu=16777216:=by decide
 obtain⟨sx1,rep1⟩:=p1.rep;obtain⟨sx2,rep2⟩:=p2.rep;have q1:=p1.len;have q2:=p2.len;refine hGa ?_;refine FQ (λH'=>bh H H') ?_ (λN nN=>⟨_,rfl,_,rfl,n,l1,cNo,d1,sx1,rfl,rfl,p1.at_,rep1,by omega,λoa ca H1 sa _=>nN _ _ (xr sa)⟩)
 intro H1 s1;have p1:=p1.same s1;have p2:=p2.same s1;refine FQ (λH'=>bh H1 H') ?_ (λN nN=>⟨_,rfl,_,rfl,n,l2,cNo,d2,sx2,rfl,rfl,p2.at_,rep2,by omega,λob cb H2 sb _=>nN _ _ (xr sb)⟩)
 intro H2 s2;have p1:=p1.same s2;have p2:=p2.same s2;have s12:=s1.trans s2;clear s1 s2;have q:=λv H' du (s:bh H2 H')=>q v H' du (s12.trans s)
 have e1:((d1.map R.cG).map V.str).length=d1.length:=by rw[bo,bo]
 have e2:((d2.map R.cG).map V.str).length=d2.length:=by rw[bo,bo]
 refine jQ (λv H'=>∃(o1:Addr) (c3:a6),v=.ref o1/\aq Ol cNo c3 H2 H'/\bM A 1 c3 H' o1 (uP n)) ?_ (λN nN=>⟨_,rfl,λo1 dx1 ho1 hd1 ne1=>⟨o1,dx1,n,rfl,ae,λH3 h3=>⟨rfl,let ⟨c3,g3,ch3⟩:=h3 1 cNo;nN _ _ ⟨o1,c3,rfl,vL xI ho1 hd1 g3,ch3⟩⟩⟩⟩)
 rintro _ H3 ⟨o1,c3,rfl,st3,ch3⟩;refine jQ (λv H'=>∃(o2:Addr) (c4:a6),v=.ref o2/\aq (λ_=>False) c3 c4 H3 H'/\bM A 2 c4 H' o2 (uP n)) ?_ (λN nN=>⟨_,rfl,λo2 dx2 ho2 hd2 ne2=>⟨o2,dx2,n,rfl,ae,λH4 h4=>⟨rfl,let ⟨c4,g4,ch4⟩:=h4 2 c3;nN _ _ ⟨o2,c4,rfl,vL id ho2 hd2 g4,ch4⟩⟩⟩⟩)
 rintro _ H4 ⟨o2,c4,rfl,stn,ch4⟩;have ch3:=ch3.free (λ_=>id) stn
 have st4:=st3.trans stn.wall;clear st3 stn;have pa:=p1.same (xr st4);have pb:=p2.same (xr st4);have em:(if (((d2.map R.cG).map V.str).length:Int) < (((d1.map R.cG).map V.str).length:Int) then (((d2.map R.cG).map V.str).length:Int) else (((d1.map R.cG).map V.str).length:Int))=((min d1.length d2.length:Nat):Int):=by
  rw[e1,e2];split <;> omega
 refine jQ (λv H'=>v=.int ((min d1.length d2.length:Nat):Int)/\H4=H') ?_ (λN nN=>⟨_,rfl,l1,_,rfl,.inl (ay.of pa.at_),_,rfl,l2,_,rfl,.inl (ay.of pb.at_),_,_,rfl,nN _ _ ⟨by rw[em],rfl⟩⟩)
 rintro _ _ ⟨rfl,rfl⟩;refine⟨_,rfl,_,rfl,by omega,by omega,?_⟩
 refine qD (lo:=0) (n:=((min d1.length d2.length:Nat):Int).toNat) (λk σ Hk=>∃(c:a6) (v6 v7:Option V),σ=[some (.int n),some (.ref l1),some (.ref l2),some (.ref o1),some (.ref o2),some (.int ((min d1.length d2.length:Nat):Int)),v6,v7]/\aq Ol cNo c H2 Hk/\bM A 1 c Hk o1 (eL n (d1.take k))/\bM A 2 c Hk o2 (eL n (d2.take k))/\av (3 * k) (eL n (d1.take k))/\av (3 * k) (eL n (d2.take k))/\∀i,i < k->alN n d1 d2 i=true)
  ⟨c4,_,_,rfl,st4,ch3,ch4,mP n,mP n,λi hi=>absurd hi (Nat.not_lt_zero i)⟩ ?_ ?_
 ·rintro k σ Hk hk hp0;refine aS λGb hGb=>?_
  obtain⟨c,v6,v7,rfl,sk,ch1,ch2,I1,I2,ha⟩:=hp0;rw[VT]at hk;have ek:0+(k:Int)+1=((k+1:Nat):Int):=by omega
  obtain⟨da,hda⟩:∃d,d1[k]?=some d:=⟨_,wa (by omega)⟩
  obtain⟨db,hdb⟩:∃d,d2[k]?=some d:=⟨_,wa (by omega)⟩
  have oka:=rep1.ok da (U2 hda);have okb:=rep2.ok db (U2 hdb);have pk1:=p1.same (xr sk);have pk2:=p2.same (xr sk);refine hGb ?_;refine⟨_,rfl,_,_,rfl,rfl,?_⟩
  try dsimp only[cZ]
  rw[ek];refine⟨_,rfl,_,rfl,_,rfl,l1,(_),_,_,rfl,rfl,ay.of pk1.at_,FP (pk1.row hda),_,rfl,1,o1,_,c,_,3 * k,da,rfl,ch1,I1,by omega,oka,rep1.good k da hda,λc5 H5 s5 ch5=>?_⟩
  have sk5:=sk.trans s5.wall;have pk5:=p2.same (xr sk5);refine⟨_,rfl,_,rfl,_,rfl,l2,(_),_,_,rfl,rfl,ay.of pk5.at_,FP (pk5.row hdb),_,rfl,2,o2,_,c5,_,3 * k,db,rfl,ch2.other (by decide) s5,I2,by omega,okb,rep2.good k db hdb,λc6 H6 s6 ch6=>?_⟩
  have sk6:=sk5.trans s6.wall;have ch5:=ch5.other (by decide) s6
  have ea:eL n (d1.take (k+1))=(cN (eL n (d1.take k)) da).2:=by rw[VJ,hda];exact qS _ _ _
  have eb:eL n (d2.take (k+1))=(cN (eL n (d2.take k)) db).2:=by rw[VJ,hdb];exact qS _ _ _
  have I1':=I1.cN (by omega) oka.1
  have I2':=I2.cN (by omega) okb.1
  rw[<-ea]at ch5 I1';rw[<-eb]at ch6 I2';refine⟨_,rfl,_,rfl,0,1,o1,o2,c6,_,_,3 * k+3,rfl,ch5,ch6,I1',I2',by omega,λH7 s7=>?_⟩
  cases e:alN n d1 d2 k with
  |true =>
   have e':al (eL n (d1.take (k+1))) (eL n (d2.take (k+1)))=true:=e;rw[e'];refine⟨_,rfl,b8 ⟨c6,_,_,rfl,sk6.trans (aq.same xI s7),?_,?_,I1',I2',λi hi=>?_⟩⟩
   ·obtain⟨dx,aM,aP,aA,aD,aF,aE,aR,ms,ds,ws,fs,es,X⟩:=ch5.ex;exact(X.same s7).at
   ·obtain⟨dx,aM,aP,aA,aD,aF,aE,aR,ms,ds,ws,fs,es,X⟩:=ch6.ex;exact(X.same s7).at
   by_cases h:i=k
   ·rw[h];exact e
   exact ha i (by omega)
  |false =>
   have e':al (eL n (d1.take (k+1))) (eL n (d2.take (k+1)))=false:=e;rw[e'];exact⟨_,rfl,dR ⟨_,rfl,q _ _ (.inl ⟨k,hk,e,ha,rfl⟩) (xr (sk6.trans (aq.same xI s7)))⟩⟩
 rintro σ Hk hp0;refine aS λGc hGc=>?_
 obtain⟨c,v6,v7,rfl,sk,ch1,ch2,I1,I2,ha⟩:=hp0;rw[VT]at ha;have pk1:=p1.same (xr sk);have pk2:=p2.same (xr sk);refine hGc ?_;refine⟨_,rfl,l1,_,rfl,.inl (ay.of pk1.at_),_,rfl,l2,_,rfl,.inl (ay.of pk2.at_),rfl,_,rfl,?_⟩
 by_cases h:d1.length=d2.length
 ·refine kT (bG (by rw[e1,e2,h])) ?_
  exact q _ _ (.inr ⟨ha,by rw[bp h]⟩) (xr sk)
 refine iV (bV (by rw[e1,e2];exactλz=>h (by injection z with z;omega))) ?_
 refine⟨_,rfl,_,_,rfl,rfl,?_⟩;exact q _ _ (.inr ⟨ha,by rw[aZ h];congr 1⟩) (xr sk)
namespace R
noncomputable def vO (c:Nat):Bool:=decide (97<=c) && decide (c<=122)
def cL (z:Str):Bool:=decide (1<=z.length) && (decide (z.length<=12) && z.cps.toList.all vO)
def jR (z:Str):Bool:=dC z && (decide (1<=fD z) && decide (fD z<=1000000000))
def I9 (A:ba):Sp:=λvs H Q E=>∃z:Str,vs=[.str z]/\z.length<=60000/\(cL z=true->∀H',bh H H'->Q (.str z) H')/\(cL z=false->vI A 1 E H)
def ML (A:ba):Sp:=λvs H Q E=>∃z:Str,vs=[.str z]/\z.length<=60000/\(jR z=true->∀H',bh H H'->Q (.int (fD z)) H')/\(jR z=false->vI A 1 E H)
theorem DN (T:Txt w.params K mg A):aC P w K mg base a5 4 A.vi A.nr ["word"] (I9 A):=by
 refine T.lj.F.ok C3 (by left) λ_ _ _ _ H _ Q E hr h=>?_
 obtain⟨z,rfl,zl,h1,h2⟩:=h;refine⟨_,(ah (bw (az (dD T) hr T.cH (aa (jZ (gP iU iU aj (bA mY (by rfl) T.dS cC (aa (pv 0) ai)) (fU (v:=V.int 12) rfl T.zj ⟨_,rfl⟩)) (iw (bA (tL rfl) (by rfl) T.Io CL (aa (gS (scope:=oF) yB rfl (GD (pv 0)) (λ_ _ _ _ _=>(gP qG qG au (pv 0) au))) ai)))) ai)))
 (ao (aG (pv 0)))),?_⟩
 symm;have sz:fu=16777216:=by decide
 have e1:(ar "a").cps.toList=[97]:=by trivial
 have e2:(ar "z").cps.toList=[122]:=by trivial
 refine⟨_,rfl,z,rfl,by omega,_,_,rfl,rfl,_,rfl,?_⟩
 by_cases c1:1<=z.length
 ·rw[bG (show (1:Int)<=(z.length:Int) by omega)]
  refine dR ⟨_,_,rfl,rfl,_,rfl,?_⟩
  by_cases c2:z.length<=12
  ·rw[bG (show (z.length:Int)<=12 by omega)]
   refine dR ⟨_,rfl,z,rfl,λD hD=>?_⟩
   refine u7 vO (by show z.length<=_;omega) hD (λc H2 Q2 hc s2 k=>?_) λH2 s2 h2'=>?_
   ·refine⟨_,rfl,_,_,rfl,rfl,_,rfl,?_⟩;rw[e1,show (⟨#[c]⟩:Str).cps.toList=[c] from rfl,lt1]
    by_cases d1:c < 97
    ·rw[bG d1];refine b8 ?_;have:=k H2 (bh.refl _);rw[vO,bV (show ¬97<=c by omega)]at this
     exact this
    rw[bV d1];refine dR ⟨_,_,rfl,rfl,?_⟩;rw[e2,show (⟨#[c]⟩:Str).cps.toList=[c] from rfl,lt1]
    have:=k H2 (bh.refl _);rw[vO,bG (show 97<=c by omega)]at this
    by_cases d2:122 < c
    ·rw[bG d2];rw[bV (show ¬c<=122 by omega)]at this
     exact this
    rw[bV d2];rw[bG (show c<=122 by omega)]at this
    exact this
   refine⟨D,z.cps.toList.map vO,rfl,ay.of h2',?_⟩;rw[n8];rw[cL,bG c1,bG c2]at h1 h2;exact⟨_,rfl,λhb=>⟨_,rfl,h1 hb H2 s2⟩,λhb=>(h2 hb).same s2⟩
  rw[bV (show ¬(z.length:Int)<=12 by omega)]
  refine b8 ⟨_,rfl,(λhb=>nomatch hb),λ_=>h2 ?_⟩
  rw[cL,bV c2,bG c1];rfl
 rw[bV (show ¬(1:Int)<=(z.length:Int) by omega)]
 refine b8 ⟨_,rfl,b8 ⟨_,rfl,(λhb=>nomatch hb),λ_=>h2 ?_⟩⟩
 rw[cL,bV c1];rfl
theorem AW (T:Txt w.params K mg A):aC P w K mg base a5 5 A.yN A.rP ["word"] (ML A):=by
 refine T.uo.F.ok rK (by left) λ_ _ _ _ H _ Q E hr h=>?_
 obtain⟨z,rfl,zl,h1,h2⟩:=h;refine⟨_,(ah (aV (i:=1) rK.nd (az (ie T) hr T.eJ (aa (pv 0) ai)))
 (ah (bw (az (dD T) hr.mono T.cH (aa (gP iU iU aj (pv 1) (fU (v:=V.int 1000000000) rfl T.Dg ⟨_,rfl⟩)) ai)))
 (ao (aG (pv 1))))),?_⟩
 symm;refine⟨_,rfl,z,rfl,zl,λhn H2 s2=>?_,λhn=>h2 (by rw[jR,hn];rfl)⟩
 rw[jR,hn]at h1 h2;refine⟨_,rfl,_,_,rfl,rfl,_,rfl,?_⟩
 by_cases c1:1<=fD z
 ·rw[bG c1]at h1 h2 ⊢;refine dR ⟨_,_,rfl,rfl,?_⟩;exact⟨_,rfl,λhb=>⟨_,rfl,h1 hb H2 s2⟩,λhb=>(h2 hb).same s2⟩
 rw[bV c1]at h2 ⊢;exact b8 ⟨_,rfl,(λhb=>nomatch hb),λ_=>(h2 rfl).same s2⟩
theorem Cv {a b c:Str}(k:Str):inV (.str k) [.str a,.str b,.str c]=decide (k∈[a,b,c]):=by
 have e:∀x y:Str,eqV (.str x) (.str y)=decide (y=x):=λx y=>by
  show (x == y)=_;rw[Vw];simp;exact⟨λh=>h.symm,λh=>h.symm⟩
 unfold inV;simp only[V2,List.any_nil,e,Bool.or_false];rw[Vw];simp
def Om (K:de):Sp:=λvs H Q _=>∃(a:Addr) (w:Str),vs=[.str (ar "read"),.ref a]/\ay K H a [.str w]/\w.length<=60000/\jR w=true/\∀H',bh H H'->Q (.int (fD w)) H'
def Ja:Sp:=λvs H Q _=>∃z:Str,vs=[.str z]/\z.length<=50000 /\
  ((∃a w,Txt.split z bl1=[ar "read",a,w]/\cL a=true/\jR w=true/\a.length<=60000/\w.length<=60000/\∀t L H',bh H H'->H t=none->H L=none->H' t=some (.tup [.str (ar "read"),.ref L,.int (fD w)])->H' L=some (.lst [.str a])->Q (.ref t) H') \/
   (∃a b,Txt.split z bl1=[ar "part",a,b]/\cL a=true/\cL b=true/\a.length<=60000/\b.length<=60000/\∀t L H',bh H H'->H t=none->H L=none->H' t=some (.tup [.str (ar "part"),.ref L,.non])->H' L=some (.lst [.str a,.str b])->Q (.ref t) H'))
def FT (K:de):Sp:=λvs H Q _=>∃a:Addr,vs=[.ref a]/\ay K H a []/\∀H',bh H H'->Q .non H'
theorem AX (T:Txt w.params K mg A):aC P w K mg base a5 8 A.yO A.rQ ["kind","words"] (Om K):=by
 refine T.uq.F.ok AG (by left) λ_ _ _ _ H _ Q E hr h=>?_
 obtain⟨a,w,rfl,ha,wl,hw,q⟩:=h;have gL:=hr.units;refine⟨_,(ah (bf (aI bz (pv 0) au (aL _))
 (ao ps_dead)
 aK)
 (ah (bf (aI fV (pv 0) (fU (v:=V.ref A.k9) rfl T.EY rfl) rfl)
 (ah ps_dead
 (ao (aG rX)))
 aK)
 (ah (bw (az (dD T) hr.mono T.cH (aa (jZ (b5 fV (pv 0) (fU (v:=V.ref A.iP) rfl T.AL rfl) rfl) (iw (b5 bz (bA bF (by rfl) T.dS cC (aa (pv 1) ai)) aj (aL _)))) ai)))
 (ah (bf (aI bz (pv 0) au (aL _))
 (ao ps_dead)
 aK)
 (ao (aG (az (AW T) hr.mono T.uo (aa (aO br (pv 1) aj) ai)))))))),?_⟩
 symm;refine⟨_,rfl,rfl,a4 (by trivial) ?_⟩
 have h1:inV (.str (ar "read")) [.str (ar "order"),.str (ar "state"),.str (ar "minutes")]=false:=by rw[Cv];trivial
 have h2:inV (.str (ar "read")) [.str (ar "open"),.str (ar "read"),.str (ar "text")]=true:=by rw[Cv];trivial
 refine⟨_,rfl,A.k9,_,rfl,.inr (T.EZ _),rfl,rfl,_,rfl,?_⟩;refine iV (show (if false=true then _ else inV (.str (ar "read")) _)=false from h1) ?_
 refine⟨_,rfl,A.iP,_,rfl,.inr (T.AM _),rfl,rfl,_,rfl,?_⟩;refine kT (show (if false=true then _ else inV (.str (ar "read")) _)=true from h2) ?_
 refine⟨_,rfl,a,_,rfl,.inl ha,rfl,_,rfl,λhb=>?_,λhb=>?_⟩
 ·refine⟨_,rfl,rfl,a4 (by trivial) ?_⟩
  exact⟨_,rfl,a,_,_,.str w,rfl,rfl,ha,cK,w,rfl,wl,λ_ H' s'=>q H' s',λh=>by rw[hw]at h;cases h⟩
 have:=of_decide_eq_false hb;exact this rfl
theorem AY (T:Txt w.params K mg A):aC P w K mg base a5 9 A.sG A.lL ["row"] Ja:=by
 have qw:aC P w K mg base a5 4 A.vi A.nr ["word"] (I9 A):=DN T;refine T.ur.F.ok lK (by left) λ_ _ _ _ H _ Q E hr h=>?_
 obtain⟨z,rfl,zl,q⟩:=h;have n9:b7 4 _:=hr.mono;refine⟨_,(ah (aV (i:=1) lK.nd (dE Vj Wc We pw (pv 0) (aa au ai)))
 (ah (aV (i:=2) lK.nd (aO br (pv 1) aj))
 (ah (bf (aI bz (pv 2) au (aL _))
 (ah (bw (az (dD T) hr.mono T.cH (aa (b5 bz (bA bF (by rfl) T.dS cC (aa (pv 1) ai)) aj (aL _)) ai)))
 (ao (aG (bu (aa (pv 2) (aa (bK (aa (az qw n9 T.lj (aa (aO br (pv 1) aj) ai)) (aa (az qw n9 T.lj (aa (aO br (pv 1) aj) ai)) ai))) (aa rX ai)))))))
 aK)
 (ah (bw (az (dD T) hr.mono T.cH (aa (b5 HJ (bA bF (by rfl) T.dS cC (aa (pv 1) ai)) aj (aL _)) ai)))
 (ao (aG (bu (aa (pv 2) (aa (bK (aa (az qw n9 T.lj (aa (aO br (pv 1) aj) ai)) ai)) (aa (az (AX T) hr T.uq (aa (pv 2) (aa (df eY (pv 1) (dU aj) ef) ai))) ai)))))))))),?_⟩
 symm;have sz:fu=16777216:=by decide
 refine⟨_,rfl,rfl,z,bl1,rfl,rfl,by rw[fw];rfl,by omega,λW hW=>?_⟩
 refine aS λG2 hG2=>?_
 rcases q with ⟨a,w,e,ha,hw,al,wl,q⟩ | ⟨a,b,e,ha,hb,al,bl,q⟩
 ·refine hG2 ?_;rw[e];have hWl:ag H W (.lst ([ar "read",a,w].map V.str)) W=some (.lst ([ar "read",a,w].map V.str)):=ae;have s1:bh H (ag H W (.lst ([ar "read",a,w].map V.str))):=aw hW;generalize ag H W (.lst ([ar "read",a,w].map V.str))=H1 at hWl s1 ⊢;refine⟨_,rfl,W,_,_,.str (ar "read"),rfl,rfl,ay.of hWl,cK,?_⟩;refine⟨_,rfl,rfl,a4 (by trivial) ?_⟩
  refine⟨_,rfl,W,_,rfl,.inl (ay.of hWl),_,_,rfl,rfl,_,rfl,λ_=>?_,λhb=>absurd (show (2:Int)<=((3:Nat):Int) by decide) (of_decide_eq_false hb)⟩
  refine⟨_,rfl,_,rfl,W,_,_,.str a,rfl,rfl,ay.of hWl,ig,a,rfl,al,λ_ H2 s2=>?_,λh=>by rw[ha]at h;cases h⟩
  have s12:=s1.trans s2;refine⟨(by show 1<=fu;decide),λL hL=>?_⟩
  have s3:bh H2 (ag H2 L (.lst [.str a])):=aw hL;have f3:ag H2 L (.lst [V.str a]) L=some (.lst [.str a]):=ae;generalize ag H2 L (.lst [V.str a])=H3 at s3 f3 ⊢;refine⟨_,rfl,_,rfl,_,rfl,W,_,rfl,ay.of (s3 _ _ (s2 _ _ hWl)),λB hB=>?_⟩
  have e1:dQ (List.map V.str [ar "read",a,w]) (some 2) none=[w].map V.str:=SQ _ _ _;rw[e1];have s4:bh H3 (ag H3 B (.lst ([w].map V.str))):=aw hB;refine⟨B,w,rfl,ay.of ae,wl,hw,λH5 s5=>?_⟩
  refine⟨(by show 3<=fu;decide),λt ht=>?_⟩
  have s14:=(s12.trans s3).trans (s4.trans s5);exact q t L _ (s14.new ht) (s14.free ht) (s12.free hL) ae (aw ht _ _ (s5 _ _ (s4 _ _ f3)))
 refine hG2 ?_;rw[e];have hWl:ag H W (.lst ([ar "part",a,b].map V.str)) W=some (.lst ([ar "part",a,b].map V.str)):=ae;have s1:bh H (ag H W (.lst ([ar "part",a,b].map V.str))):=aw hW;generalize ag H W (.lst ([ar "part",a,b].map V.str))=H1 at hWl s1 ⊢;refine⟨_,rfl,W,_,_,.str (ar "part"),rfl,rfl,ay.of hWl,cK,?_⟩;refine⟨_,rfl,rfl,cg (by trivial) ?_⟩
 refine⟨_,rfl,W,_,rfl,.inl (ay.of hWl),rfl,_,rfl,λ_=>?_,λhb=>absurd rfl (of_decide_eq_false hb)⟩
 refine⟨_,rfl,_,rfl,W,_,_,.str a,rfl,rfl,ay.of hWl,ig,a,rfl,al,λ_ H2 s2=>?_,λh=>by rw[ha]at h;cases h⟩
 refine⟨_,rfl,W,_,_,.str b,rfl,rfl,ay.of (s2 _ _ hWl),(cS (j:=2) rfl),b,rfl,bl,λ_ H3 s3=>?_,λh=>by rw[hb]at h;cases h⟩
 have s13:=(s1.trans s2).trans s3;refine⟨(by show 2<=fu;decide),λL hL=>⟨(by show 3<=fu;decide),λt ht=>?_⟩⟩
 have s4:bh H3 (ag H3 L (.lst [.str a,.str b])):=aw hL;have f4:ag H3 L (.lst [V.str a,.str b]) L=some (.lst [.str a,.str b]):=ae;generalize ag H3 L (.lst [V.str a,.str b])=H4 at s4 f4 ht ⊢;exact q t L _ ((s13.trans s4).new ht) ((s13.trans s4).free ht) (s13.free hL) ae (aw ht _ _ f4)
theorem vP (T:Txt w.params K mg A):aC P w K mg base a5 3 A.lN A.iD ["rows"] (FT K):=by
 refine T.oS.F.ok iB (by left) λ_ _ _ _ H _ Q E hr h=>?_
 obtain⟨a,rfl,ha,q⟩:=h;refine⟨_,(ao (gN Vx rfl (pi_enum (k:=2) (by trivial) rfl T.wR (aa (pv 0) ai)) (rY rfl (d0 (b9 (i:=1) iB.nd) (d0 (b9 (i:=2) iB.nd) mU)))
 (ao (bf (aI kR (dE Vj PySem.F.slot_str_strip PySem.F.type_str_strip mt_strip (pv 2) (aa au ai)) au (aL _))
 (ao ps_dead)
 aK)))),?_⟩
 symm
 try dsimp only[cZ]
 refine⟨_,rfl,a,rfl,⟨_,ha⟩,?_⟩;exact for_enum (K:=K) (a:=a) (xs:=[]) (λj σ Hj=>Hj=H) rfl (λj σ Hj _ h=>by rw[h];exact ha) (λj y σ Hj t hy=>by simp at hy) (λσ Hj h=>by rw[h];exact q H (bh.refl H))
end R
noncomputable def nl1:Str:=ar "\n"
def uW (A:ba)(c:a6)(H:Hp)(o:Addr)(kvs:List (Key×V)):Prop:=c o=none/\∃dx D,H o=some (.ins A.fM dx [("chambers",.ref D)])/\c D=some (0,.made)/\H D=some (.dK kvs)
theorem uW.step {A:ba}{i:Nat}{c c':a6}{H H':Hp}{o:Addr}{kvs:List (Key×V)}(n:i≠0)(s:aq (cw i) c c' H H')(h:uW A c H o kvs):uW A c' H' o kvs:=by
 obtain⟨co,dx,D,ho,cD,hD⟩:=h;have no:¬cw i (c o):=by rw[co];exact a7
 have nD:¬cw i (c D):=by rw[cD];exact eK (VG n) _
 exact⟨by rw[s.col _ _ ho no];exact co,dx,D,s.keep _ _ ho no,by rw[s.col _ _ hD nD];exact cD,s.keep _ _ hD nD⟩
def J4 (A:ba):Sp:=λvs H Q _=>∃(o dx:Addr),vs=[.ref o]/\H o=some (.ins A.fM dx [])/\∀D,H D=none->Q .non (ag (ag H D (.dK [])) o (.ins A.fM dx [("chambers",.ref D)]))
def Oo (A:ba):Sp:=λvs H Q _=>∃(o dx D:Addr) (z:Str) (v:V) (kvs:List (Key×V)),vs=[.ref o,.str z,v]/\H o=some (.ins A.fM dx [("chambers",.ref D)])/\H D=some (.dK kvs)/\kvs.length<=1000/\Q (.str (ar "ok")) (ag H D (.dK (bB kvs (UU z) v)))
def Uy (A:ba):Sp:=λvs H Q _=>∃(o dx D:Addr) (z:Str) (kvs:List (Key×V)) (v:V),vs=[.ref o,.str z]/\H o=some (.ins A.fM dx [("chambers",.ref D)])/\H D=some (.dK kvs)/\d6 kvs (UU z)=some v/\Q v H
theorem FU (T:Txt w.params K mg A):aC P w K mg base a5 1 A.pV A.nz ["self"] (J4 A):=by
 refine T.E3.ok CU (by left) λ_ _ _ _ H _ Q E hr h=>?_
 obtain⟨o,dx,rfl,ho,q⟩:=h;refine⟨_,(ao (eF (pv 0) j7 rfl)),?_⟩;symm;intro D hD;have ne:o≠D:=λz=>by rw[z,hD]at ho;cases ho
 exact⟨_,rfl,o,A.fM,dx,_,rfl,(ax ne).trans ho,T.jK,T.fZ,by decide,q D hD⟩
theorem MM (T:Txt w.params K mg A):aC P w K mg base a5 1 A.pW A.nB ["self","name","chamber"] (Oo A):=by
 refine T.E6.ok CV (by left) λ_ _ _ _ H _ Q E hr h=>?_
 obtain⟨o,dx,D,z,v,kvs,rfl,ho,hD,hl,q⟩:=h;have bt:=hr.u1;have sz:fu=16777216:=by decide
 refine⟨_,(ah (fX bt (bH (pv 0) rfl) (pv 1) (pv 2) rfl)
 (ao (aG au))),?_⟩
 symm;exact⟨_,rfl,_,rfl,o,A.fM,dx,_,.ref D,rfl,ho,T.jK,T.fZ,rfl,_,rfl,D,(_),rfl,.inl ⟨kvs,UU z,hD,rfl,by omega,rfl⟩,q⟩
theorem AZ (T:Txt w.params K mg A):aC P w K mg base a5 3 A.hG A.gz ["self","name"] (Uy A):=by
 refine T.uA.ok sy (by left) λ_ _ _ _ H _ Q E hr h=>?_
 obtain⟨o,dx,D,z,kvs,v,rfl,ho,hD,hv,q⟩:=h;have bt:=hr.u1;refine⟨_,(ah (bf (CC (qI bt (pv 1) (bH (pv 0) rfl)))
 (ao ps_dead)
 aK)
 (ao (aG (bx bt (bH (pv 0) rfl) (pv 1))))),?_⟩
 symm;refine⟨_,rfl,_,rfl,o,A.fM,dx,_,.ref D,rfl,ho,T.jK,T.fZ,rfl,D,_,rfl,.inl ⟨_,UU z,.inl hD,rfl,rfl⟩,_,rfl,?_⟩;rw[hv];refine b8 ?_;exact⟨_,rfl,o,A.fM,dx,_,.ref D,rfl,ho,T.jK,T.fZ,rfl,_,rfl,D,(_),rfl,.inl ⟨_,UU z,.inl hD,rfl,hv.symm⟩,q⟩
theorem DO (T:Txt w.params K mg A){i:Nat}:aC P w K mg base a5 11 A.mr A.nv ["seats","rows"] (vM A i):=by
 refine T.wO.F.ok C4 (by left) λ_ _ _ _ H _ Q E hr h=>?_
 obtain⟨n,l,c,ds,st,rfl,q⟩:=h;refine⟨_,(ao (ps_tryN (ao (aG (az (vN (i:=i) T) hr T.um (aa (pv 0) (aa (pv 1) ai))))))),?_⟩;symm;exact⟨_,rfl,_,rfl,n,l,c,ds,st,rfl,q⟩
def mQ (n:Int)(d1 d2:List R.bI)(z:Str):Prop:=∃v,Due n d1 d2 v/\((v=.non/\z=ar "alike")\/∃k:Int,v=.int k/\z=ar (toString k))
def Oq (A:ba):Sp:=λvs H Q _=>∃(o1 o2:Addr) (c:a6) (i j:Nat) (n:Int) (d1 d2:List R.bI),vs=[.ref o1,.ref o2]/\bM A (i+1) c H o1 (eL n d1)/\bM A (j+1) c H o2 (eL n d2)/\(∃st,Rep n d1 st)/\(∃st,Rep n d2 st)/\d1.length<=40/\d2.length<=40 /\
 (eL n d1).cq=n/\(eL n d2).cq=n/\∀z H',mQ n d1 d2 z->bh H H'->Q (.str z) H'
theorem Ot {n:Int}{d1 d2:List R.bI}{v:V}(h:Due n d1 d2 v)(h1:d1.length<=40)(h2:d2.length<=40):v=.non\/∃k:Nat,v=.int (k:Int)/\k<=100:=by
 rcases h with ⟨j,hj,_,_,rfl⟩ | ⟨_,e⟩
 ·exact .inr ⟨j+1,rfl,by omega⟩
 by_cases hl:d1.length=d2.length
 ·rw[bp hl]at e;exact .inl e
 rw[aZ hl]at e;exact .inr ⟨_,e,by omega⟩
theorem xt (T:Txt w.params K mg A):aC P w K mg base a5 12 A.uj A.oK ["one","other"] (Oq A):=by
 have lG:aC P w K mg base a5 1 A.fE A.e7 ["self"] (λvs H Q E=>∃i,Cq A i vs H Q E):=Fn λi=>Hv T
 refine T.p7.F.ok oH (by left) λ_ _ _ _ H _ Q E hr h=>?_
 obtain⟨o1,o2,c,i,j,n,d1,d2,rfl,h1,h2,⟨s1,r1⟩,⟨s2,r2⟩,l1,l2,e1,e2,q⟩:=h;obtain⟨dx1,aM1,aP1,aA1,aD1,aF1,aE1,aR1,ms1,ds1,ws1,fs1,es1,X1⟩:=h1.ex;obtain⟨dx2,aM2,aP2,aA2,aD2,aF2,aE2,aR2,ms2,ds2,ws2,fs2,es2,X2⟩:=h2.ex;refine⟨_,(ah (bf (aI kR (bH (pv 0) rfl) (bH (pv 1) rfl) (aL _))
 (ao (aG au))
 aK)
 (ah (aV (i:=2) oH.nd (az (J3 T) hr T.ET (aa (bH (pv 0) rfl) (aa (dI (pv 0) T.aH T.lq lG hr.mono T.lu .nil bU) (aa (dI (pv 1) T.aH T.lq lG hr.mono T.lu .nil bU) ai)))))
 (ao (aG (xM (aI Pm (pv 2) rX (aL _)) au (cc d9 (by rfl) T.wQ pj (aa (pv 2) ai))))))),?_⟩
 symm;refine eO rfl X1.ob T.aH T.eS qN (eO rfl X2.ob T.aH T.eS qN ⟨rfl,a4 (by rw[e1,e2,bG rfl];rfl) ?_⟩)
 refine eO rfl X1.ob T.aH T.eS qN ?_;refine mtv rfl X1.ob (dB (by trivial)) ⟨i+1,o1,c,_,rfl,h1,λa ha=>?_⟩
 have sa:=aw (o:=.lst ((eL n d1).rows.map V.str)) ha;refine mtv rfl (sa _ _ X2.ob) (dB (by trivial)) ⟨j+1,o2,c,_,rfl,(X2.same sa).at,λb hb=>?_⟩
 have sb:=aw (o:=.lst ((eL n d2).rows.map V.str)) hb;refine⟨n,a,b,d1,d2,(by rw[e1];rfl),⟨?_,⟨s1,r1⟩,l1⟩,⟨?_,⟨s2,r2⟩,l2⟩,λv H' du s'=>?_⟩
 ·rw[<-r1.rows,<-r1.run];exact sb _ _ ae
 ·rw[<-r2.rows,<-r2.run];exact ae
 have sv:=(sa.trans sb).trans s';rcases Ot du l1 l2 with rfl | ⟨k,rfl,hk⟩
 ·refine⟨_,rfl,rfl,cg rfl ?_⟩;exact q _ H' ⟨_,du,.inl ⟨rfl,rfl⟩⟩ sv
 refine⟨_,rfl,rfl,a4 rfl ?_⟩;exact⟨_,rfl,_,rfl,vA (by omega) (by omega),q _ H' ⟨_,du,.inr ⟨_,rfl,rfl⟩⟩ sv⟩
def KpN (c:a6)(H:Hp)(c':a6)(H':Hp):Prop:=∀a v,c a=none->H a=some v->c' a=none/\H' a=some v
def Kp (A:ba)(i:Nat)(c:a6)(H:Hp)(c':a6)(H':Hp):Prop:=(∀j o st,j≠i->j≠0->bM A j c H o st->bM A j c' H' o st)/\KpN c H c' H'
def DQ (A:ba):Sp:=λvs H Q _=>∃(o:Addr) (z f:Str) (r:List Str) (kvs:List (Key×V)) (c:a6),vs=[.ref o,.str z]/\uW A c H o kvs/\z.length<=10000000/\Txt.split z nl1=f::r/\f.length<=50000 /\
  ((∃(i:Nat) (a w:Str) (ds:List R.bI) (st:Ch),i≠0/\Txt.split f R.bl1=[ar "read",a,w]/\R.cL a=true/\R.jR w=true/\a.length<=60000/\w.length<=60000/\kvs.length<=1000/\r=ds.map R.cG/\Rep (R.fD w) ds st/\ds.length<=50 /\
      ∀oN c' H',Kp A i c H c' H'->uW A c' H' o (bB kvs (UU a) (.ref oN))->bM A i c' H' oN (eL (R.fD w) ds)->Q (.str (ar "ok")) H') \/
   (∃(a b:Str) (o1 o2:Addr) (i j:Nat) (n:Int) (d1 d2:List R.bI),Txt.split f R.bl1=[ar "part",a,b]/\R.cL a=true/\R.cL b=true/\a.length<=60000/\b.length<=60000/\r=[]/\d6 kvs (UU a)=some (.ref o1)/\d6 kvs (UU b)=some (.ref o2) /\
      bM A (i+1) c H o1 (eL n d1)/\bM A (j+1) c H o2 (eL n d2)/\(∃st,Rep n d1 st)/\(∃st,Rep n d2 st)/\d1.length<=40/\d2.length<=40/\(eL n d1).cq=n/\(eL n d2).cq=n/\∀z H',mQ n d1 d2 z->bh H H'->Q (.str z) H'))
theorem Rc (T:Txt w.params K mg A):aC P w K mg base a5 14 A.nA A.lb ["self","text"] (DQ A):=by
 have DR:aC P w K mg base a5 9 A.sG A.lL ["row"] R.Ja:=R.AY T;have xu:aC P w K mg base a5 3 A.lN A.iD ["rows"] (R.FT K):=R.vP T;have FV:aC P w K mg base a5 11 A.mr A.nv ["seats","rows"] (λvs H Q E=>∃i,vM A i vs H Q E):=Fn λi=>DO T
 refine T.GS.ok gH (by left) λ_ _ _ _ H _ Q E hr h=>?_
 obtain⟨o,z,f,r,kvs,c,rfl,hd,zl,sp,fl,q⟩:=h;have sz:fu=16777216:=by decide
 refine⟨_,(ah (aV (i:=2) gH.nd (dE Vj Wc We pw (pv 1) (aa au ai)))
 (ah (aV (i:=3) gH.nd (az DR hr.mono T.ur (aa (aO br (pv 2) aj) ai)))
 (ah (aV (i:=4) gH.nd (aO aY (pv 3) aj))
 (ah (aV (i:=5) gH.nd (aO aY (pv 3) aj))
 (ah (aV (i:=6) gH.nd (aO aY (pv 3) aj))
 (ah (bf (aI bz (pv 4) au (aL _))
 (ao (aG (dN (pv 0) T.jK T.E5 (MM T) hr.mono T.E7 .nil bU (aa (aO br (pv 5) aj) (aa (az FV hr.mono T.wO (aa (pv 6) (aa (df eY (pv 2) (dU aj) ef) ai))) ai)))))
 aK)
 (ah (bw (az xu hr.mono T.oS (aa (df eY (pv 2) (dU aj) ef) ai)))
 (ah (bf (aI bz (pv 4) au (aL _))
 (ao ps_dead)
 aK)
 (ah (m8 (i:=7) (scope:=pI) AE rfl rfl (Or.inl rfl) (eW (pv 5)) (λ_ _ _ _ _=>(dN (pv 1) T.jK T.uz (AZ T) hr.mono T.uB .nil bU (aa (pv 0) ai))))
 (ah (bf (aI bz (pv 4) au (aL _))
 (ao (aG (az (xt T) hr.mono T.p7 (aa (aO br (pv 7) aj) (aa (aO br (pv 7) aj) ai)))))
 aK)
 (ao ps_dead))))))))))),?_⟩
 symm;refine⟨_,rfl,rfl,z,nl1,rfl,rfl,by trivial,by omega,λW hW=>?_⟩
 rw[sp];have fW:ag H W (.lst ((f::r).map V.str)) W=some (.lst ((f::r).map V.str)):=ae;have s1:bh H (ag H W (.lst ((f::r).map V.str))):=aw hW;generalize ag H W (.lst ((f::r).map V.str))=H1 at fW s1 ⊢;have Mv:dQ ((f::r).map V.str) (some 1) none=r.map V.str:=R.Mv _ _;refine⟨_,rfl,W,_,_,.str f,rfl,rfl,ay.of fW,R.cK,f,rfl,fl,?_⟩;refine aS λG3 hG3=>?_
 rcases q with ⟨i,a,w,ds,st,hi,e,ha,hw,al,wl,kl,rfl,rep,dl,q⟩ | ⟨a,b,o1,o2,i,j,n,d1,d2,e,ha,hb,al,bl,rfl,v1,v2,q⟩
 ·refine hG3 ?_;refine .inl ⟨a,w,e,ha,hw,al,wl,λt L H2 s2 nt nL ht hL=>?_⟩
  have s12:=s1.trans s2;have fW2:=s2 _ _ fW;refine⟨_,rfl,t,_,_,.str (ar "read"),rfl,rfl,aW.of ht,R.cK,?_⟩;refine⟨_,rfl,t,_,_,.ref L,rfl,rfl,aW.of ht,R.ig,?_⟩;refine⟨_,rfl,t,_,_,.int (R.fD w),rfl,rfl,aW.of ht,(cS (j:=2) rfl),?_⟩;refine⟨_,rfl,rfl,cg (by trivial) ?_⟩
  refine aS λGa hGa=>?_
  have stp:aq (cw i) c (bP c H) H H2:=aq.cl a7 s12;have hd2:uW A (bP c H) H2 o kvs:=hd.step hi stp;have QX:=hd2;obtain⟨co,dx,D,ho,cD,hD⟩:=QX;refine hGa ?_;refine⟨_,rfl,o,dx,_,rfl,ho,rfl,_,rfl,L,(_),_,.str a,rfl,rfl,ay.of hL,R.cK,?_⟩;refine⟨_,rfl,_,rfl,_,rfl,W,_,rfl,ay.of fW2,λB hB=>?_⟩
  rw[Mv];have sB:aq (cw i) (bP c H) (aN (bP c H) B none) H2 (ag H2 B (.lst ((ds.map R.cG).map V.str))):=aq.new a7 hB;refine⟨i,R.fD w,B,aN (bP c H) B none,ds,st,rfl,bj,ae,rep,dl,λoN c5 H5 s5 ch5=>?_⟩
  refine aS λGb hGb=>?_
  obtain⟨co,dx,D,ho,cD,hD⟩:=hd2.step hi (sB.trans s5);have su:aq (cw 0) c5 c5 H5 (ag H5 D (.dK (bB kvs (UU a) (.ref oN)))):=aq.ag a7 ⟨_,cD⟩;have nD:o≠D:=λz=>by rw[z,hD]at ho;cases ho
  have s15:=stp.trans (sB.trans s5);refine hGb ?_;exact⟨o,dx,D,a,.ref oN,kvs,rfl,ho,hD,kl,q oN c5 _ ⟨λj o' st hji hj0 hc=>bM.other hj0 su (bM.other hji s15 hc),λb v h hv=>let ⟨h1,h2⟩:=gn s15 h hv;gn su h1 h2⟩ ⟨co,dx,D,(ax nD).trans ho,cD,ae⟩ (bM.other hi su ch5)⟩
 refine hG3 ?_;refine .inr ⟨a,b,e,ha,hb,al,bl,λt L H2 s2 nt nL ht hL=>?_⟩
 have s12:=s1.trans s2;have fW2:=s2 _ _ fW;refine⟨_,rfl,t,_,_,.str (ar "part"),rfl,rfl,aW.of ht,R.cK,?_⟩;refine⟨_,rfl,t,_,_,.ref L,rfl,rfl,aW.of ht,R.ig,?_⟩;refine⟨_,rfl,t,_,_,.non,rfl,rfl,aW.of ht,(cS (j:=2) rfl),?_⟩;refine⟨_,rfl,rfl,a4 (by trivial) ?_⟩
 refine⟨_,rfl,_,rfl,W,_,rfl,ay.of fW2,λB hB=>?_⟩
 rw[Mv];have sB:=aw (o:=.lst (([]:List Str).map V.str)) hB;refine⟨B,rfl,ay.of ae,λH4 s4=>?_⟩
 refine aS λGc hGc=>?_
 have s14:=s12.trans (sB.trans s4);have hL4:=s4 _ _ (sB _ _ hL);obtain⟨co,dx,D,ho,cD,hD⟩:=hd;have ho4:=s14 _ _ ho;have hD4:=s14 _ _ hD;refine hGc ?_;refine⟨_,rfl,rfl,a4 (by trivial) ?_⟩
 refine aS λGd hGd=>?_
 obtain⟨h1,h2,r1,r2,l1,l2,e1,e2,q⟩:=q;refine hGd ?_;refine⟨_,rfl,L,rfl,⟨_,ay.of hL4⟩,λD2 hD2=>?_⟩
 refine iz (K:=K) (a:=L) (xs:=[V.str a,V.str b]) (λk ys H5=>ys=[V.ref o1,V.ref o2].take k/\bh H4 H5/\H5 D2=some (.lst ys)) ⟨rfl,aw hD2,ae⟩ (by show 2<=fu;decide) ?_ ?_ ?_
 ·rintro k ys H5 hk ⟨rfl,s5,h5⟩;exact⟨ay.of (s5 _ _ hL4),h5,by rw[Vf];simp at hk ⊢;omega⟩
 ·rintro k y ys H5 hk ⟨rfl,s5,h5⟩;have hk2:k=0\/k=1:=by have:=(List.getElem?_eq_some_iff.mp hk).1;simp at this;omega
  rcases hk2 with rfl | rfl
  ·cases hk;exact⟨_,rfl,o,dx,_,rfl,s5 _ _ ho4,rfl,_,rfl,o,dx,D,a,kvs,.ref o1,rfl,s5 _ _ ho4,s5 _ _ hD4,v1,cI.mk (by show 0 < 2;decide) h5 ⟨rfl,s5.own hD2,ae⟩⟩
  cases hk;exact⟨_,rfl,o,dx,_,rfl,s5 _ _ ho4,rfl,_,rfl,o,dx,D,b,kvs,.ref o2,rfl,s5 _ _ ho4,s5 _ _ hD4,v2,cI.mk (by show 1 < 2;decide) h5 ⟨rfl,s5.own hD2,ae⟩⟩
 rintro ys H5 ⟨rfl,s5,h5⟩;have s15:=s14.trans s5;refine⟨_,rfl,rfl,cg (by trivial) ?_⟩
 exact⟨_,rfl,D2,(_),_,.ref o1,rfl,rfl,ay.of h5,R.cK,_,rfl,D2,(_),_,.ref o2,rfl,rfl,ay.of h5,R.ig,o1,o2,bP c H,i,j,n,d1,d2,rfl,h1.free (W:=λ_=>False) (λ_=>id) (aq.cl id s15),h2.free (W:=λ_=>False) (λ_=>id) (aq.cl id s15),r1,r2,l1,l2,e1,e2,λz H' du s'=>q z H' du (s15.trans s')⟩
noncomputable def Jb (k m a l:Nat):Str:=Txt.mul (ar "q") (a:Int)++(⟨#[97+8 * k+l]⟩:Str)++Txt.mul (ar "q") ((m - 1 - a:Nat):Int)
theorem Ou:∀k < 2,∀m < 13,∀a < m,∀l < 8,R.cL (Jb k m a l)=true:=by trivial
theorem MN:∀a:Nat,a < 100->PySem.MulOk (ar "q") (a:Int):=λa h=>⟨by simp;omega,λh1 _=>by
  have e:(ar "q").length=1:=by trivial
  rw[e];have:(1:Int)<=(2 ^ 63 - 1) / (a:Int):=(Int.le_ediv_iff_mul_le (by omega)).mpr (by omega)
  omega,λh1 _=>by
  have e:(ar "q").length=1:=by trivial
  rw[e,Nat.one_mul];unfold Builtin.Str.tooLong;have:fu=16777216:=by decide
  simp;omega⟩
def Rf:Sp:=λvs H Q _=>∃(z:Int) (k:Nat),vs=[.int z,.int (k:Int)]/\k < 2/\∀m a l:Nat,m < 13->a < m->l < 8->Q (.str (Jb k m a l)) H
theorem J5 (T:Txt w.params K mg A):aC P w K mg base a5 1 A.K7 A.BQ ["_law_cell","_law_k"] Rf:=by
 refine T.EW.F.ok vf (by left) λ_ _ _ _ H _ Q E hr h=>?_
 obtain⟨z,k,rfl,hk,q⟩:=h;obtain⟨m,em,hm⟩:∃m:Nat,1+z % 12=(m:Int)/\m < 13/\1<=m:=⟨(1+z % 12).toNat,by omega,by omega,by omega⟩
 obtain⟨a,ea,ha⟩:∃a:Nat,z / 12 % (m:Int)=(a:Int)/\a < m:=by
  have h0:=VR (z / 12) (show (m:Int)≠0 by omega)
  have h1:=VA (z / 12) (show (0:Int) < m by omega)
  exact⟨(z / 12 % (m:Int)).toNat,by omega,by omega⟩
 obtain⟨l,el,hl⟩:∃l:Nat,z / 144 % 8=(l:Int)/\l < 8:=⟨(z / 144 % 8).toNat,by omega,by omega⟩
 refine⟨_,(ah (aV (i:=2) vf.nd (bb cT aj (bb bY (pv 0) aj)))
 (ah (aV (i:=3) vf.nd (bb bY (bb cy (pv 0) aj) (pv 2)))
 (ao (aG (bb cV (bb cV (bb xY au (pv 3)) (aO xS au (bb cT (bb bY (bb cy (pv 0) aj) aj) (bb r6 aj (pv 1))))) (bb xY au (bb jg (bb jg (pv 2) aj) (pv 3)))))))),?_⟩
 symm;refine⟨_,rfl,_,_,rfl,rfl,(by show (0:Int) < 12;decide),_,_,rfl,rfl,?_⟩
 dsimp only;rw[em];refine⟨_,rfl,_,_,rfl,rfl,⟨by decide,by decide⟩,_,rfl,_,_,rfl,rfl,(by show (0:Int) < m;omega),?_⟩
 dsimp only;rw[ea];refine⟨_,rfl,_,_,rfl,rfl,MN a (by omega),_,rfl,_,_,rfl,rfl,⟨by decide,by decide⟩,_,_,rfl,rfl,(by show (0:Int) < 8;decide),_,rfl,_,_,rfl,rfl,?_,_,_,rfl,rfl,?_⟩
 ·exact .inl ⟨by decide,by decide⟩
 dsimp only;rw[el];have at_:∀k:Nat,k < 2->∀l:Nat,l < 8->atI (ar "abcdefghijklmnop").cps.toList ((l:Int)+8 * (k:Int))=some (97+8 * k+l):=by trivial
 have sz:fu=16777216:=by decide
 have l1:∀a < 13,(Txt.mul (ar "q") ((a:Nat):Int)).length=a:=by trivial
 have e1:=l1 a (by omega)
 have e2:=l1 (m - 1 - a) (by omega)
 have e3:(m:Int) - 1 - (a:Int)=((m - 1 - a:Nat):Int):=by omega
 have one:(⟨#[97+8 * k+l]⟩:Str).length=1:=rfl;refine⟨_,_,_,rfl,rfl,(by show 16<=fu;decide),at_ k hk l hl,_,_,rfl,rfl,by rw[e1,one];omega,?_⟩
 refine⟨_,rfl,_,_,rfl,rfl,_,rfl,_,_,rfl,rfl,?_⟩;dsimp only;rw[e3];refine⟨_,_,rfl,rfl,MN _ (by omega),_,_,rfl,rfl,by rw[len_app,e1,e2,one];omega,?_⟩
 exact q m a l hm.1 ha hl
noncomputable def kB (k:Nat)(z:Str):Bool:=(z.cps.toList.any λc=>decide (97+8 * k<=c) && decide (c<=104+8 * k)) && z.cps.toList.all λc=>decide (c=113) || (decide (97+8 * k<=c) && decide (c<=104+8 * k))
theorem Ov:∀k < 2,∀m < 13,∀a < m,∀l < 8,kB k (Jb k m a l)=true:=by trivial
theorem SU {z z':Str}(h:kB 0 z=true)(h':kB 1 z'=true):z≠z':=by
 rintro rfl;unfold kB at h h';rw[U3]at h h';obtain⟨c,hc,h1⟩:=List.any_eq_true.mp h.1;have h2:=List.all_eq_true.mp h'.2 c hc;simp only[U3,Bool.or_eq_true,decide_eq_true_iff]at h1 h2;omega
namespace R
theorem mR {d:bI}(o:DOk d){ws:List Str}(h:fO d::cX d=ws):(ws.map (·.length)).sum+ws.length * bl1.length<=16777216:=by
 obtain⟨b1,b2,b3⟩:=mG o;have h2:=StrLaws.sumLen_le (B:=20) (fO d::cX d) (λw hw=>by
  rcases List.mem_cons.mp hw with rfl | hw
  ·exact b3
  exact b2 w hw)
 have e:bl1.length=1:=by trivial
 rw[UQ]at h2;rw[<-h,e,UQ];omega
theorem MO (T:Txt w.params K mg A):aC P w K mg base a5 2 A.K8 A.yX ["_law_deed_here"] (sQ K):=by
 have vQ:aC P w K mg base a5 1 A.C7 A.sH ["_law_clause_here"] jX:=nZ T;refine T.Im.F.ok l9 (by left) λ_ _ _ _ H _ Q E hr h=>?_
 obtain⟨t,d,rfl,hd,o,q⟩:=h;have tw:b7 1 _:=hr;refine⟨_,(ah (bf (aI bz (aO aY (pv 0) aj) au (aL _))
 (ah (aV (i:=1) l9.nd (bK (aa au ai)))
 (ah (gN Vx rfl (eW (aO aY (pv 0) aj)) (b9 (i:=2) l9.nd)
 (ao (aV (i:=1) l9.nd (bb eh (bb eh (pv 1) (bK (aa au ai))) (az vQ tw T.iH (aa (pv 2) ai))))))
 (ao (aG (dE Vj VU VW m7 au (aa (pv 1) ai))))))
 aK)
 (ah (bf (aI bz (aO aY (pv 0) aj) au (aL _))
 (ao (aG (dE Vj VU VW m7 au (aa (bb eh (bK (aa au ai)) (az vQ tw T.iH (aa (aO aY (pv 0) aj) ai))) ai))))
 aK)
 (ah (bf (aI fV (aO aY (pv 0) aj) (bu (aa au (aa au ai))) rfl)
 (ah (aV (i:=1) l9.nd (bK (aa (aO aY (pv 0) aj) (aa (aO aY (aO aY (pv 0) aj) aj) (aa (cc d9 (by rfl) T.wQ pj (aa (aO aY (aO aY (pv 0) aj) aj) ai)) ai)))))
 (ah (bf (aI kR (aO aY (aO aY (pv 0) aj) aj) au (aL _))
 (ao (aV (i:=1) l9.nd (bb eh (pv 1) (az vQ tw T.iH (aa (aO aY (aO aY (pv 0) aj) aj) ai)))))
 aK)
 (ao (aG (dE Vj VU VW m7 au (aa (pv 1) ai))))))
 aK)
 (ao (aG (dE Vj VU VW m7 au (aa (bb eh (bK (aa (aO aY (pv 0) aj) ai)) (gS (scope:=wC) GN rfl (Ke (df Gw (pv 0) (dU aj) ef)) (λ_ _ _ _ _=>(cc d9 (by rfl) T.wQ pj (aa (pv 0) ai))))) ai))))))),?_⟩
 symm;have lim:fu=16777216:=by decide
 cases d with
 |mat cs =>
  refine aS λGa hGa=>?_
  obtain⟨L,ht,hL⟩:=hd;refine hGa ?_;refine a8 rfl ht rfl ⟨rfl,cg (by trivial) ?_⟩
  refine⟨(sl 1),λW hW=>?_⟩
  have s1:=aw (o:=.lst [V.str (ar "matter")]) hW
  try dsimp only[cZ]
  refine a8 rfl (bO s1 ht) rfl ⟨L,rfl,⟨_,s1.seq hL⟩,?_⟩;refine pe (K:=K) (a:=L) (xs:=(cs.map (kx bl1)).map V.str) (λi σ H2=>∃(W:Addr) (v2:Option V),σ=[some (.ref t),some (.ref W),v2]/\bh H H2/\H2 W=some (.lst ((fO (.mat cs)::cX (.mat (cs.take i))).map V.str)))
   ⟨W,_,rfl,s1,ae⟩ (λi σ H2 _ ⟨_,_,_,s2,_⟩=>s2.seq hL) ?_ ?_
  ·rintro i y σ H2 hi ⟨W,v2,rfl,s2,h2⟩;rw[sr,sr]at hi;cases hc:cs[i]? with
   |none=>rw[hc]at hi;cases hi
   |some ws =>
    rw[hc]at hi;obtain rfl:V.str (kx bl1 ws)=y:=US hi;have ow:=o.2 ws (U2 hc);have hcl:=iI ow;have wl:=ow.len;have hb:(cX (.mat (cs.take i))).length<=200:=(mG (d:=.mat (cs.take i)) ⟨by rw[Vf];have:=o.1;omega,λws hw=>o.2 ws (Wt hw)⟩).1
    refine⟨_,rfl,(sl 1),λp1 hp1=>?_⟩
    have a1:=aw (o:=.lst [V.str (ar "/")]) hp1;refine⟨W,p1,_,_,rfl,rfl,a1 _ _ h2,ae,by rw[bo,UQ];show _+1+1<=_;omega,λp2 hp2=>?_⟩
    have a2:=a1.new (o:=.lst ((fO (.mat cs)::cX (.mat (cs.take i))).map V.str++[V.str (ar "/")])) hp2;refine⟨_,rfl,_,rfl,by omega,λp3 hp3=>?_⟩
    have n32:p2≠p3:=aQ ae hp3;rw[eA ow.wd];have a3:=a2.new (o:=.lst (ws.map V.str)) hp3;refine⟨p2,p3,_,_,rfl,rfl,(ax n32).trans ae,ae,by rw[ki,bo,bo,UQ];show _+1+1+_<=_;omega,λp4 hp4=>⟨p4,_,rfl,s2.trans (a3.new hp4),?_⟩⟩
    rw[ae,VJ,hc];show some (HO.lst _)=some (HO.lst ((fO (.mat cs)::((cs.take i++[ws]).flatMap λws=>sl1::ws)).map V.str))
    rw[List.flatMap_append];simp[cX,sl1]
  rintro σ H2 ⟨W,v2,rfl,s2,h2⟩;rw[bo,bo,Vs]at h2;exact⟨rfl,_,rfl,bl1,W,_,rfl,rfl,ay.of h2,mR o rfl,q H2 s2⟩
 |pt ws =>
  have hcl:=iI o;refine a8 rfl hd rfl ⟨rfl,a4 (by trivial) (a8 rfl hd rfl ⟨rfl,cg (by trivial) ?_⟩)⟩
  refine⟨rfl,(sl 1),λp1 hp1=>?_⟩
  have a1:=aw (o:=.lst [V.str (ar "point")]) hp1;refine a8 rfl (bO a1 hd) rfl ⟨_,rfl,by omega,λp2 hp2=>?_⟩
  have n12:p1≠p2:=aQ ae hp2;rw[eA o.wd];have wl:=o.len;have a2:=a1.new (o:=.lst (ws.map V.str)) hp2;refine⟨p1,p2,_,_,rfl,rfl,(ax n12).trans ae,ae,by rw[bo];show 1+_<=_;omega,λp3 hp3=>?_⟩
  exact⟨bl1,p3,ar "point"::ws,rfl,rfl,ay.of ae,mR (d:=.pt ws) o rfl,q _ (a2.new hp3)⟩
 |ed m k i ws =>
  refine aS λGb hGb=>?_
  obtain⟨e,ht,he⟩:=hd;obtain⟨hk,hi,ow,_⟩:=id o;have hcl:=iI ow;have wl:=ow.len;refine hGb ?_;refine a8 rfl ht rfl ⟨rfl,a4 (by cases m <;> trivial) (a8 rfl ht rfl ⟨rfl,a4 (by cases m <;> trivial) (a8 rfl ht rfl ?_)⟩)⟩
  refine⟨(sl 2),λp0 hp0=>⟨p0,_,rfl,.inr (aW.of ae),rfl,(by trivial),_,rfl,?_⟩⟩
  rw[show inV (V.str (kEd m)) [V.str (ar "change"),V.str (ar "mend")]=true by cases m <;> trivial]
  have a0:=aw (o:=.tup [V.str (ar "change"),V.str (ar "mend")]) hp0;generalize ag H p0 (.tup [V.str (ar "change"),V.str (ar "mend")])=H0 at a0 ⊢;have ht0:=bO a0 ht;have he0:=bO a0 he;refine kT rfl ?_;rcases hk with rfl | rfl | rfl
  ·refine a8 rfl ht0 rfl (a8 rfl ht0 rfl ⟨e,_,_,_,rfl,rfl,he0,rfl,a8 rfl ht0 rfl ⟨e,_,_,_,rfl,rfl,he0,rfl,i,rfl,nO hi.1 hi.2,(sl 3),λp1 hp1=>?_⟩⟩)
   have a1:=aw (o:=.lst [V.str (kEd m),.str (kn 0),.str (num i)]) hp1;have h11:(ag H0 p1 (.lst [V.str (kEd m),.str (kn 0),.str (num i)])) p1=some (.lst [V.str (kEd m),.str (kn 0),.str (num i)]):=ae;have s1:=a0.trans a1;have ht1:=bO a1 ht0;have he1:=bO a1 he0;change DY _ _ _ _ (ag H0 p1 (.lst [V.str (kEd m),.str (kn 0),.str (num i)]));generalize ag H0 p1 (.lst [V.str (kEd m),.str (kn 0),.str (num i)])=H1 at a1 h11 s1 ht1 he1 ⊢;refine a8 rfl ht1 rfl ⟨e,_,_,_,rfl,rfl,he1,rfl,rfl,cg (by trivial) ?_⟩
   refine⟨_,rfl,a8 rfl ht1 rfl ⟨e,_,_,_,rfl,rfl,he1,rfl,_,rfl,by omega,λp2 hp2=>?_⟩⟩
   have n12:p1≠p2:=aQ h11 hp2;rw[eA ow.wd];have a2:=aw (o:=.lst (ws.map V.str)) hp2;refine⟨p1,p2,_,_,rfl,rfl,a2 _ _ h11,ae,by rw[bo];show 3+_<=_;omega,λp3 hp3=>?_⟩
   exact⟨rfl,_,rfl,bl1,p3,kEd m::kn 0::num i::ws,rfl,rfl,ay.of ae,mR (d:=.ed m 0 i ws) o rfl,q _ ((s1.trans a2).new hp3)⟩
  ·refine a8 rfl ht0 rfl (a8 rfl ht0 rfl ⟨e,_,_,_,rfl,rfl,he0,rfl,a8 rfl ht0 rfl ⟨e,_,_,_,rfl,rfl,he0,rfl,i,rfl,nO hi.1 hi.2,(sl 3),λp1 hp1=>?_⟩⟩)
   have a1:=aw (o:=.lst [V.str (kEd m),.str (kn 1),.str (num i)]) hp1;have h11:(ag H0 p1 (.lst [V.str (kEd m),.str (kn 1),.str (num i)])) p1=some (.lst [V.str (kEd m),.str (kn 1),.str (num i)]):=ae;have s1:=a0.trans a1;have ht1:=bO a1 ht0;have he1:=bO a1 he0;change DY _ _ _ _ (ag H0 p1 (.lst [V.str (kEd m),.str (kn 1),.str (num i)]));generalize ag H0 p1 (.lst [V.str (kEd m),.str (kn 1),.str (num i)])=H1 at a1 h11 s1 ht1 he1 ⊢;refine a8 rfl ht1 rfl ⟨e,_,_,_,rfl,rfl,he1,rfl,rfl,a4 (by trivial) ?_⟩
   exact⟨rfl,_,rfl,bl1,p1,[kEd m,kn 1,num i],rfl,rfl,ay.of h11,mR (d:=.ed m 1 i ws) o rfl,q _ s1⟩
  refine a8 rfl ht0 rfl (a8 rfl ht0 rfl ⟨e,_,_,_,rfl,rfl,he0,rfl,a8 rfl ht0 rfl ⟨e,_,_,_,rfl,rfl,he0,rfl,i,rfl,nO hi.1 hi.2,(sl 3),λp1 hp1=>?_⟩⟩)
  have a1:=aw (o:=.lst [V.str (kEd m),.str (kn 2),.str (num i)]) hp1;have h11:(ag H0 p1 (.lst [V.str (kEd m),.str (kn 2),.str (num i)])) p1=some (.lst [V.str (kEd m),.str (kn 2),.str (num i)]):=ae;have s1:=a0.trans a1;have ht1:=bO a1 ht0;have he1:=bO a1 he0;change DY _ _ _ _ (ag H0 p1 (.lst [V.str (kEd m),.str (kn 2),.str (num i)]));generalize ag H0 p1 (.lst [V.str (kEd m),.str (kn 2),.str (num i)])=H1 at a1 h11 s1 ht1 he1 ⊢;refine a8 rfl ht1 rfl ⟨e,_,_,_,rfl,rfl,he1,rfl,rfl,cg (by trivial) ?_⟩
  refine⟨_,rfl,a8 rfl ht1 rfl ⟨e,_,_,_,rfl,rfl,he1,rfl,_,rfl,by omega,λp2 hp2=>?_⟩⟩
  have n12:p1≠p2:=aQ h11 hp2;rw[eA ow.wd];have a2:=aw (o:=.lst (ws.map V.str)) hp2;refine⟨p1,p2,_,_,rfl,rfl,a2 _ _ h11,ae,by rw[bo];show 3+_<=_;omega,λp3 hp3=>?_⟩
  exact⟨rfl,_,rfl,bl1,p3,kEd m::kn 2::num i::ws,rfl,rfl,ay.of ae,mR (d:=.ed m 2 i ws) o rfl,q _ ((s1.trans a2).new hp3)⟩
 |nums kd ns =>
  refine aS λGc hGc=>?_
  obtain⟨o1,o2⟩:=id o;obtain⟨n1,n2,n3,n4⟩:=LO o1;have kl:=(GW o1).2;have ht:aW K H t (.str kd::ns.map V.int):=hd;have at0:atI (V.str kd::ns.map V.int) 0=some (.str kd):=cS (j:=0) rfl;refine hGc ?_;refine a8 rfl ht at0 ⟨rfl,a4 (bV n1) (a8 rfl ht at0 ⟨rfl,a4 (bV n4) (a8 rfl ht at0 ?_)⟩)⟩;have nin:inV (V.str kd) [V.str (ar "change"),V.str (ar "mend")]=false:=by
   clear at0 ht n1 n2 n3 n4 kl o2 q hd;simp only[dM,V3,VN,or_false,Wg]at o1;rcases o1 with ⟨rfl,_⟩ | ⟨rfl,_⟩ | ⟨rfl,_⟩ | ⟨rfl,_⟩ | ⟨rfl,_⟩ | ⟨rfl,_⟩ | ⟨rfl,_⟩ <;> trivial
  refine⟨(sl 2),λp0 hp0=>⟨p0,_,rfl,.inr (aW.of ae),rfl,(by trivial),_,rfl,?_⟩⟩
  rw[nin];have a0:=aw (o:=.tup [V.str (ar "change"),V.str (ar "mend")]) hp0;generalize ag H p0 (.tup [V.str (ar "change"),V.str (ar "mend")])=H0 at a0 ⊢;refine iV rfl ⟨rfl,a8 rfl (bO a0 ht) at0 ⟨(sl 1),λp1 hp1=>?_⟩⟩
  have a1:=aw (o:=.lst [V.str kd]) hp1;have h11:(ag H0 p1 (.lst [V.str kd])) p1=some (.lst [V.str kd]):=ae;have s1:=a0.trans a1;generalize ag H0 p1 (.lst [V.str kd])=H1 at a1 h11 s1 ⊢;refine⟨_,rfl,_,rfl,t,_,rfl,bO s1 ht,λz=>?_,λp hp=>?_⟩
  ·have z1:=z.1;rw[show (1:Int)=((1:Nat):Int) from rfl,HT.mX,UQ]at z1
   omega
  rw[show (1:Int)=((1:Nat):Int) from rfl,iW]
  show _;have hs1:bh H1 (ag H1 p (.tup (ns.map V.int))):=aw hp;have hpp:(ag H1 p (.tup (ns.map V.int))) p=some (.tup (ns.map V.int)):=ae;refine⟨p,rfl,⟨_,aW.of hpp⟩,λD hD=>?_⟩
  have npD:p≠D:=aQ hpp hD;refine Eh (K:=K) (a:=p) (xs:=ns.map V.int) (λi ys H3=>ys=(ns.take i).map (λn=>V.str (num n))/\H3=ag (ag H1 p (.tup (ns.map V.int))) D (.lst ys)) ⟨rfl,rfl⟩ (by rw[bo];omega) ?_ ?_ ?_
  ·rintro i ys H3 hi ⟨rfl,rfl⟩;rw[bo]at hi;exact⟨aW.of ((ax npD).trans hpp),ae,by rw[bo,Vf];omega⟩
  ·rintro i y ys H3 hi ⟨rfl,rfl⟩;rw[sr]at hi;cases hc:ns[i]? with
   |none=>rw[hc]at hi;cases hi
   |some n =>
    refine aS λGd hGd=>?_
    rw[hc]at hi;obtain rfl:V.int n=y:=US hi;obtain⟨b0,b1⟩:=o2 n (U2 hc);refine hGd ?_;refine⟨_,rfl,_,rfl,nO b0 b1,?_⟩;refine cI.mk (by rw[bo];exact(List.getElem?_eq_some_iff.mp hc).1) ae ⟨?_,by rw[gM]⟩
    rw[VJ,hc,kt];rfl
  rintro ys H3 ⟨rfl,rfl⟩;rw[bo,Vs];have s3:=hs1.new (o:=.lst (ns.map (λn=>V.str (num n)))) hD
  refine⟨p1,D,_,_,rfl,rfl,s3 _ _ h11,ae,by rw[bo];show 1+_<=_;omega,λp4 hp4=>?_⟩
  refine⟨bl1,p4,kd::ns.map num,rfl,rfl,?_,mR (d:=.nums kd ns) o rfl,q _ ((s1.trans s3).new hp4)⟩;rw[rf,V4];exact ay.of ae
end R
noncomputable def hP (p:Addr->Bool)(H:Hp):Hp:=λa=>if p a=true then H a else none
abbrev hC (c:a6)(H:Hp):Hp:=hP (λa=>(c a).isNone) H
abbrev hN (H0 H:Hp):Hp:=hP (λa=>(H0 a).isNone) H
section
variable{p:Addr->Bool}{c c':a6}{H H' H0:Hp}{a:Addr}{v:HO}
theorem MQ (h:p a=true)(e:H a=some v):hP p H a=some v:=by unfold hP;rw[bp h];exact e
theorem Jc (e:hP p H a=some v):p a=true/\H a=some v:=by
 unfold hP at e;split at e
 ·rename_i h;exact⟨h,e⟩
 cases e
theorem jE (h:c a=none)(e:H a=some v):hC c H a=some v:=MQ (by rw[h];rfl) e
theorem MR (h:H0 a=none)(e:H a=some v):hN H0 H a=some v:=MQ (by rw[h];rfl) e
theorem O7 (e:hC c H a=some v):c a=none/\H a=some v:=let ⟨h,e⟩:=Jc e;⟨Option.isNone_iff_eq_none.mp h,e⟩
theorem SV (e:hN H0 H a=some v):H0 a=none/\H a=some v:=let ⟨h,e⟩:=Jc e;⟨Option.isNone_iff_eq_none.mp h,e⟩
theorem Ow (s:bh H H'):bh (hP p H) (hP p H'):=λa v e=>let ⟨h,e⟩:=Jc e;MQ h (s a v e)
theorem SW:bh (hP p H) H:=λ_ _ e=>(Jc e).2
theorem Rg {o:HO}(h:H0 a=none):hN H0 (ag H a o)=ag (hN H0 H) a o:=by
 funext b
 by_cases e:b=a
 ·subst e;rw[ae];exact MR h ae
 rw[ax e];show (if _ then ag H a o b else none)=if _ then H b else none
 rw[ax e]
theorem qT {W:Option (Nat×Rl)->Prop}(s:aq W c c' H H'):bh (hC c H) (hC c' H'):=λa v e=>by
 obtain⟨h,e⟩:=O7 e;obtain⟨h1,h2⟩:=gn s h e;exact jE h1 h2
theorem Uz (s:bh H H'):bh (hN H0 H) (hC (bP c H0) H'):=λ_ _ e=>let ⟨h,e⟩:=SV e;jE (bS h) (s _ _ e)
theorem ck.hc {t:Addr}{xs:List V}(h:ck c H t xs):ck c (hC c H) t xs:=⟨h.1,h.2.elim (λe=>.inl (jE h.1 e)) λ⟨o,e⟩=>.inr ⟨o,jE h.1 e⟩⟩
theorem Mn.Val.hc:∀ {m:Mn} {v:V},m.Val c H v->m.Val c (hC c H) v
 | .mat _,_,⟨p,e,h⟩=>⟨p,e,h.1,jE h.1 h.2⟩
 | .chg _,_,⟨t,e,h⟩=>⟨t,e,h.hc⟩
 | .mnd _,_,⟨t,e,h⟩=>⟨t,e,h.hc⟩
 | .off _,_,h=>h
 | .pnt _,_,h=>h
 | .cls,_,_=>trivial
 | .lay,_,_=>trivial
 | .rst,_,_=>trivial
theorem MnT.hc {m:Mn}{t:Addr}(h:MnT c H m t):MnT c (hC c H) m t:=let ⟨n,v,e,h⟩:=h;⟨n,v,jE n e,h.hc⟩
end
def FW (K:de)(i:Nat):Sp:=λvs H Q _=>∃(m:Addr) (c:a6) (st:Ch),vs=[.ref m]/\cQ i c H m st/\st.aU.length < 64 /\
 ∀(ns:List Int) (u:Addr) (H':Hp),WA ns (st.aU.map λx=>(x.1:Int))->ns.Pairwise (·<=·)->bh H H'->DV K (hC (bP c H) H') (stD st ns) (.ref u)->Q (.ref u) H'
theorem Hz (T:Txt w.params K mg A){i:Nat}:aC P w K mg base a5 1 A.Ii A.yV ["_law_m"] (FW K i):=by
 refine T.B0.F.ok sE (by left) λ_ _ _ _ H _ Q E hr h=>?_
 obtain⟨m,c,st,rfl,hm,hal,q⟩:=h;obtain⟨aP,aA,aD,aM,ds,ws,es,X⟩:=hm.ex;have bt:=hr.u1;have lim:fu=16777216:=by decide
 refine⟨_,(ah (aV (i:=1) sE.nd (bK ai))
 (ah (gN Vx rfl (eW (bA (m9 hr.hd) (by rfl) T.zf va (aa (bx bt (pv 0) au) ai))) (b9 (i:=2) sE.nd)
 (ao (bw (dE tu UZ U0 cz (pv 1) (aa (bu (aa (pv 2) (aa (aO aY (bx bt (bx bt (pv 0) au) (pv 2)) aj) (aa (cc cW (by rfl) T.ku gQ (aa (aO aY (bx bt (bx bt (pv 0) au) (pv 2)) aj) ai)) ai)))) ai)))))
 (ao (aG (bu (aa (bx bt (pv 0) au) (aa (bx bt (pv 0) au) (aa (cc cW (by rfl) T.ku gQ (aa (bx bt (pv 0) au) ai)) (aa (pv 1) (aa (cc cW (by rfl) T.ku gQ (aa (bx bt (pv 0) au) ai)) ai)))))))))),?_⟩
 symm;refine⟨Vl _,λR hR=>?_⟩
 have s0:=aw (o:=.lst []) hR;have X0:=X.same s0;refine cv rfl X0.ga ⟨aA,_,_,rfl,X0.aU.2,Ai st.aU ws X.wait.len,by rw[bo];exact hal,λl ns pm so hl=>⟨l,rfl,⟨_,ay.of ae⟩,?_⟩⟩
 have nl:ns.length=st.aU.length:=by rw[pm.length_eq,bo]
 have nRl:R≠l:=aQ ae hl;refine pe (K:=K) (a:=l) (xs:=ns.map V.int) (λj σ H2=>∃(ys:List V) (v2:Option V),σ=[some (.ref m),some (.ref R),v2]/\bh H H2/\H2 l=some (.lst (ns.map V.int))/\H2 R=some (.lst ys)/\bN (AU (hN H H2) R) ((ns.take j).map (sX st)) ys)
  ⟨[],_,rfl,s0.new hl,ae,(ax nRl).trans ae,.nil⟩ (λj σ H2 _ ⟨_,_,_,_,h,_⟩=>ay.of h) ?_ ?_
 ·rintro j y σ H2 hy hp0;refine aS λGa hGa=>?_
  obtain⟨ys,v2,rfl,s2,hl2,hR2,ha⟩:=hp0;obtain⟨n,hn1,rfl⟩:∃n,ns[j]?=some n/\V.int n=y:=by
   rw[sr]at hy;cases ht:ns[j]? with
   |none=>rw[ht]at hy;cases hy
   |some t=>rw[ht]at hy;exact⟨t,rfl,US hy⟩
  have G6:n∈st.aU.map λx=>(x.1:Int):=pm.mem_iff.mp (U2 hn1)
  obtain⟨x0,hx0,e0⟩:=List.mem_map.mp G6;obtain⟨x,hx⟩:∃x,at1 x0.1 st.aU=some x:=by
   cases z:at1 x0.1 st.aU with
   |some x=>exact⟨x,rfl⟩
   |none=>exact absurd (List.mem_map_of_mem hx0) (uI z)
  have e0':((x0.1:Nat):Int)=n:=e0;subst e0';have X2:=X.same s2;have ea:sX st ((x0.1:Nat):Int)=x:=by unfold sX;rw[VT,hx];rfl
  obtain⟨t,p,hv,ht,hlp⟩:=X2.waitOf hx;have yl:ys.length<=64:=by
   rw[<-ha.len,bo,Vf];omega
  refine hGa ?_;refine⟨_,rfl,.inl ⟨rfl,_,ay.of hR2⟩,_,rfl,_,rfl,m,_,rfl,X2.ga,_,rfl,aA,_,rfl,.inl ⟨_,om (x0.1:Int),.inl X2.aU.2,rfl,hv.symm⟩,t,_,_,_,rfl,rfl,ht.sq,rfl,?_⟩;refine⟨_,rfl,m,_,rfl,X2.ga,_,rfl,aA,_,rfl,.inl ⟨_,om (x0.1:Int),.inl X2.aU.2,rfl,hv.symm⟩,t,_,_,_,rfl,rfl,ht.sq,rfl,p,_,rfl,.inl (ay.of hlp.2),λl3 hl3=>⟨(sl 3),λu hu=>?_⟩⟩
  have s3:=(aw (o:=.lst (x.2.2.map nV)) hl3).new (o:=.tup [nV x0.1,.int x.2.1,.ref l3]) hu;have nul:u≠l3:=λz=>by rw[z,ae]at hu;cases hu
  have hu0:H2 u=none:=by rw[ax nul]at hu;exact hu
  have nuR:u≠R:=λz=>by rw[z,hR2]at hu0;cases hu0
  have nlR:l3≠R:=λz=>by rw[z,hR2]at hl3;cases hl3
  have hR3:=s3 _ _ hR2;refine⟨R,ys,.ref u,rfl,rfl,hR3,by omega,?_⟩
  have a1:AU (hN H (ag (ag H2 l3 (.lst (x.2.2.map nV))) u (.tup [nV x0.1,.int x.2.1,.ref l3]))) R x (.ref u):=by
   refine⟨u,l3,rfl,nuR,nlR,?_,MR (same_none s2 hl3) ((ax (VG nul)).trans ae)⟩;rw[(ic hx).1];exact MR (same_none s2 hu0) ae
  refine⟨ys++[.ref u],_,rfl,(s2.trans s3).own hR,(ax nRl.symm).trans (s3 _ _ hl2),ae,?_⟩;rw[VJ,hn1,kt];rw[Rg hR];refine bN.snoc (ha.imp λ_ _ z=>(z.same (Ow s3)).ag) ?_
  rw[ea];exact a1.ag
 rintro σ H2 hp0;refine aS λGb hGb=>?_
 obtain⟨ys,v2,rfl,s02,hl2,hR2,ha⟩:=hp0;rw[bo,Vs]at ha;have X2:=X.same s02;refine hGb ?_;refine cv rfl X2.gs (cv rfl X2.gc (cv rfl X2.gp ⟨aP,_,rfl,.inl (ay.of X2.aJ.2),λl1 hl1=>?_⟩))
 have s3:=aw (o:=.lst (st.aJ.map nV)) hl1;have X3:=X2.same s3;refine⟨_,rfl,cv rfl X3.gd ⟨aD,_,rfl,.inl (ay.of X3.dec.2),λl2 hl2=>⟨(sl 5),λu hu=>?_⟩⟩⟩
 have s4:=aw (o:=.lst (ds.map V.ref)) hl2;have s5:=aw (o:=.tup [V.int st.bc,.bl st.closed,.ref l1,.ref R,.ref l2]) hu;have s05:=((s02.trans s3).trans s4).trans s5;have s25:=(s3.trans s4).trans s5;have n1:=same_none s02 hl1;have n2:=same_none (s02.trans s3) hl2;have nu:=same_none ((s02.trans s3).trans s4) hu;refine q ns u _ pm so s05 ?_;unfold stD DV;refine⟨u,_,rfl,aW.of (jE (bS nu) ae),?_⟩;unfold bC;refine⟨_,_,rfl,by unfold DV;rfl,?_⟩
 unfold bC;refine⟨_,_,rfl,by unfold DV;rfl,?_⟩
 unfold bC;refine⟨_,_,rfl,gw (ay.of (jE (bS n1) ((s4.trans s5) _ _ ae))),?_⟩;unfold bC;refine⟨_,_,rfl,?_,?_⟩
 ·unfold DV;refine⟨R,ys,rfl,ay.of (jE (bS hR) (s25 _ _ hR2)),?_⟩;rw[show (ns.map λn=>asD (sX st n))=(ns.map (sX st)).map asD by rw[V4];rfl]
  exact bN.dvs (λx v h=>h.dv) (ha.imp λ_ _ z=>z.same (Uz s25))
 unfold bC;refine⟨_,_,rfl,?_,by unfold bC;rfl⟩
 unfold DV;refine⟨l2,_,rfl,ay.of (jE (bS n2) (s5 _ _ ae)),?_⟩;refine bN.dvs (R:=λ(x:Nat×Str) v=>∃t,v=.ref t/\ck (bP c H) (hC (bP c H) _) t [nV x.1,.str x.2]) ?_ (bN.mapR (X.jN.imp λx t h=>⟨t,rfl,(h.step (W:=λ_=>False) (aq.cl id s05)).hc⟩))
 rintro x v ⟨t,rfl,h⟩;unfold dcD DV;refine⟨t,_,rfl,h.sq,?_⟩;unfold bC;refine⟨_,_,rfl,by unfold DV;rfl,?_⟩
 unfold bC;exact⟨_,_,rfl,by unfold DV;rfl,by unfold bC;rfl⟩
noncomputable def HA (D1 D2:List PyData)(i:Nat):Bool:=Vy (D1.getD i .none) (D2.getD i .none)
def MS (D1 D2:List PyData)(z:Str):Prop :=
 (∃j,j < min D1.length D2.length/\HA D1 D2 j=false/\(∀i,i < j->HA D1 D2 i=true)/\z=ar (toString ((j+1:Nat):Int))) \/
 ((∀i,i < min D1.length D2.length->HA D1 D2 i=true)/\z=if D1.length=D2.length then ar "alike" else ar (toString ((min D1.length D2.length+1:Nat):Int)))
def Ox (K:de):Sp:=λvs H Q _=>∃(l1 l2:Addr) (v1 v2:List V) (D1 D2:List PyData),vs=[.ref l1,.ref l2]/\ay K H l1 v1/\ay K H l2 v2/\bN (DV K H) D1 v1/\bN (DV K H) D2 v2 /\
 (∀d∈D1,VS d=true)/\(∀d∈D2,VS d=true)/\D1.length<=100/\D2.length<=100/\∀z,MS D1 D2 z->Q (.str z) H
theorem DS {K:de}{H:Hp}:∀ {D:List PyData} {vs:List V} {i:Nat},bN (DV K H) D vs->i < D.length->∃v,vs[i]?=some v/\DV K H (D.getD i .none) v/\D.getD i .none∈D
 |_,_,0,.cons h _,_=>⟨_,rfl,h,eg⟩
 |_::D,_::vs,i+1,.cons _ t,hi=>by
  obtain⟨v,h1,h2,h3⟩:=DS (i:=i) t (by rw[UQ]at hi;omega)
  exact⟨v,by rw[Vt];exact h1,h2,ma _ h3⟩
theorem J6 (T:Txt w.params K mg A):aC P w K mg base a5 1 A.K9 A.BR ["_law_one","_law_other"] (Ox K):=by
 refine T.EX.F.ok By (by left) λ_ _ _ _ H _ Q E hr h=>?_
 obtain⟨l1,l2,v1,v2,D1,D2,rfl,h1,h2,a1,a2,s1,s2,b1,b2,q⟩:=h;have gL:=hr.units;refine⟨_,(ah (gN Vx rfl (jT rfl T.qM (aa (bA (u0 rfl) (by rfl) T.LA GA (aa (bA bF (by rfl) T.dS cC (aa (pv 0) ai)) (aa (bA bF (by rfl) T.dS cC (aa (pv 1) ai)) ai))) ai)) (b9 (i:=2) By.nd)
 (ao (bf (aI (xT gL) (aO br (pv 0) (pv 2)) (aO br (pv 1) (pv 2)) (aL _))
 (ao (aG (cc d9 (by rfl) T.wQ pj (aa (bb cT (pv 2) aj) ai))))
 aK)))
 (ah (bf (aI bz (bA bF (by rfl) T.dS cC (aa (pv 0) ai)) (bA bF (by rfl) T.dS cC (aa (pv 1) ai)) (aL _))
 (ao (aG au))
 aK)
 (ao (aG (cc d9 (by rfl) T.wQ pj (aa (bb cT (bA (u0 rfl) (by rfl) T.LA GA (aa (bA bF (by rfl) T.dS cC (aa (pv 0) ai)) (aa (bA bF (by rfl) T.dS cC (aa (pv 1) ai)) ai))) aj) ai)))))),?_⟩
 symm;have e1:v1.length=D1.length:=a1.len.symm;have e2:v2.length=D2.length:=a2.len.symm;have lim:fu=16777216:=by decide
 have em:(if (v2.length:Int) < (v1.length:Int) then (v2.length:Int) else (v1.length:Int))=((min D1.length D2.length:Nat):Int):=by
  rw[e1,e2];split <;> omega
 refine⟨_,rfl,l1,_,rfl,.inl h1,_,rfl,l2,_,rfl,.inl h2,_,_,rfl,?_⟩;rw[em];refine⟨_,rfl,by omega,by omega,?_⟩
 refine qD (lo:=0) (n:=((min D1.length D2.length:Nat):Int).toNat) (λk σ Hk=>∃v2:Option V,σ=[some (.ref l1),some (.ref l2),v2]/\Hk=H/\∀i,i < k->HA D1 D2 i=true)
  ⟨_,rfl,rfl,λi hi=>absurd hi (Nat.not_lt_zero i)⟩ ?_ ?_
 ·rintro k σ Hk hk ⟨u,rfl,rfl,ha⟩;refine aS λGa hGa=>?_
  rw[VT]at hk;have ek:0+(k:Int)+1=((k+1:Nat):Int):=by omega
  obtain⟨x,x1,x2,x3⟩:=DS (i:=k) a1 (by omega)
  obtain⟨y,y1,y2,y3⟩:=DS (i:=k) a2 (by omega)
  have ix:atI v1 (0+(k:Int))=some x:=by rw[Int.zero_add];exact cS x1
  have iy:atI v2 (0+(k:Int))=some y:=by rw[Int.zero_add];exact cS y1
  refine hGa ?_
  try dsimp only[cZ]
  refine⟨_,rfl,_,rfl,l1,(_),_,x,rfl,rfl,h1,ix,_,rfl,_,rfl,l2,(_),_,y,rfl,rfl,h2,iy,_,_,x2,y2,s1 _ x3,s2 _ y3,_,rfl,?_⟩;cases e:HA D1 D2 k with
  |true =>
   have e':Vy (D1.getD k .none) (D2.getD k .none)=true:=e;rw[e'];refine b8 ⟨_,rfl,rfl,λi hi=>?_⟩
   by_cases h:i=k
   ·rw[h];exact e
   exact ha i (by omega)
  |false =>
   have e':Vy (D1.getD k .none) (D2.getD k .none)=false:=e;rw[e'];refine dR ⟨_,rfl,_,_,rfl,rfl,_,rfl,?_,?_⟩
   ·rw[ek];exact vA (by omega) (by omega)
   rw[ek];exact q _ (.inl ⟨k,hk,e,ha,rfl⟩)
 rintro σ Hk ⟨u,rfl,rfl,ha⟩;rw[VT]at ha;refine⟨_,rfl,l1,_,rfl,.inl h1,_,rfl,l2,_,rfl,.inl h2,rfl,_,rfl,?_⟩
 by_cases h:D1.length=D2.length
 ·refine kT (bG (by rw[e1,e2,h])) ?_
  exact q _ (.inr ⟨ha,by rw[bp h]⟩)
 refine iV (bV (by rw[e1,e2];exactλz=>h (by injection z with z;omega))) ?_
 refine⟨_,rfl,l1,_,rfl,.inl h1,_,rfl,l2,_,rfl,.inl h2,_,_,rfl,?_⟩;rw[em];refine⟨_,_,rfl,rfl,_,rfl,?_,?_⟩
 ·exact vA (by omega) (by omega)
 exact q _ (.inr ⟨ha,by rw[aZ h];congr 1⟩)
namespace R
def Pr (x:Str):Prop:=∀c∈x.cps.toList,32<=c/\c < 128
theorem jr.pr {x:Str}(h:jr x):Pr x:=λc hc=>by
 have h1:=(h.sgn c hc).1;have h2:=(h.sgn c hc).2.1;omega
theorem Jd:∀ws:List Str,(∀w∈ws,Pr w)->Pr (kx ⟨#[32]⟩ ws)
 |[],_=>λc hc=>(VN (show c∈([]:List Nat) from hc)).elim
 |[x],h=>h x eg
 |x::y::r,h=>λc hc=>by
  rw[eZ]at hc;rcases List.mem_append.mp hc with hc | hc
  ·exact h x eg c hc
  rcases List.mem_cons.mp hc with rfl | hc
  ·omega
  exact Jd (y::r) (λw hw=>h w (ma _ hw)) c hc
theorem Oy {d:bI}(o:DOk d):Pr (cG d):=by
 have e:=vK o;have hne:∀w∈fO d::cX d,Pr w:=by
  have lit:∀x∈([ar "matter",sl1,ar "mend",ar "change",kn 0,kn 1,kn 2,ar "point",ar "put off",ar "vote",ar "take",ar "close",ar "lay",ar "rest",ar "drop"]:List Str),∀c∈x.cps.toList,32<=c/\c < 128:=by trivial
  have nf:∀ {i:Int},0<=i->i < 10 ^ 10->Pr (num i):=λh0 h1 c hc=>by
   have:=(rV h0 h1).1;simp only[dC,U3]at this;have:=List.all_eq_true.mp this.2.2.1 c hc;simp only[js,U3,decide_eq_true_iff]at this;omega
  cases d with
  |mat cs =>
   intro w hw;rcases List.mem_cons.mp hw with rfl | hw'
   ·exact lit _ (by simp[fO])
   obtain⟨ws,h1,h2⟩:=List.mem_flatMap.mp hw';rcases List.mem_cons.mp h2 with rfl | h2
   ·exact lit _ (by simp)
   exact((o.2 ws h1).wd w h2).pr
  |ed m k i ws =>
   obtain⟨o1,⟨i0,i1⟩,o3,_⟩:=o;intro w hw;have hw':w∈kEd m::kn k::num i::(if k=1 then [] else ws):=hw
   rcases List.mem_cons.mp hw' with rfl | hw'
   ·cases m <;> exact lit _ (by simp[kEd])
   rcases List.mem_cons.mp hw' with rfl | hw'
   ·rcases o1 with rfl | rfl | rfl <;> exact lit _ (by simp)
   rcases List.mem_cons.mp hw' with rfl | hw'
   ·exact nf i0 i1
   split at hw'
   ·cases hw'
   exact(o3.wd w hw').pr
  |pt ws =>
   intro w hw;rcases List.mem_cons.mp hw with rfl | hw'
   ·exact lit _ (by simp[fO])
   exact(o.wd w hw').pr
  |nums kd ns =>
   obtain⟨o1,o2⟩:=o;intro w hw;rcases List.mem_cons.mp hw with hk | hw'
   ·have o1':=o1;simp only[dM,V3,VN,or_false,Wg]at o1';rw[hk];show Pr kd;rcases o1' with ⟨rfl,_⟩ | ⟨rfl,_⟩ | ⟨rfl,_⟩ | ⟨rfl,_⟩ | ⟨rfl,_⟩ | ⟨rfl,_⟩ | ⟨rfl,_⟩ <;> exact lit _ (by simp)
   obtain⟨i,hi,rfl⟩:=List.mem_map.mp hw';exact nf (o2 i hi).1 (o2 i hi).2
 rw[show cG d=kx bl1 (fO d::cX d) from rfl,fw]
 exact Jd _ hne
end R
theorem Rh {n:Int}(h0:1<=n)(h1:n<=1000000000):R.jR (R.num n)=true/\R.fD (R.num n)=n:=by
 have e10:(10:Int) ^ 10=10000000000:=by decide
 obtain⟨a,b⟩:=R.rV (i:=n) (by omega) (by rw[e10];omega)
 refine⟨?_,b⟩;unfold R.jR;rw[a,b,bG h0,bG h1];rfl
theorem SX:nl1=⟨#[10]⟩:=by trivial
theorem J7 {d:R.bI}(h:R.DOk d):10∉(R.cG d).cps.toList:=λhc=>by
 have:=R.Oy h 10 hc;omega
theorem join_snoc (s x:Str):∀(rs:List Str) (a:Str),kx s (a::rs)++s++x=kx s (a::(rs++[x]))
 |[],_=>rfl
 |b::rs,a=>by
  show ((a++s)++kx s (b::rs))++s++x=(a++s)++kx s (b::(rs++[x]));rw[<-join_snoc s x rs b];simp only[qF]
theorem qy {n:Str}(h:R.cL n=true):∀c∈n.cps.toList,97<=c/\c<=122:=λc hc=>by
 unfold R.cL at h;rw[U3,U3]at h;have:=List.all_eq_true.mp h.2.2 c hc;unfold R.vO at this;rw[U3,decide_eq_true_iff,decide_eq_true_iff]at this;exact this
theorem qv {n:Int}(h0:0<=n)(h1:n<=1000000000):∀c∈(R.num n).cps.toList,48<=c/\c<=57:=λc hc=>by
 have e10:(10:Int) ^ 10=10000000000:=by decide
 have:=(R.rV (i:=n) h0 (by rw[e10];omega)).1
 simp only[R.dC,U3]at this;have:=List.all_eq_true.mp this.2.2.1 c hc;simp only[R.js,U3,decide_eq_true_iff]at this;omega
theorem HB {a:Str}{n:Int}(ha:R.cL a=true)(h0:0<=n)(h1:n<=1000000000):Txt.split (ar "read "++a++ar " "++R.num n) R.bl1=[ar "read",a,R.num n]:=by
 have e:ar "read "=ar "read"++R.bl1:=by trivial
 have e2:ar "read "++a++ar " "++R.num n=kx R.bl1 [ar "read",a,R.num n]:=by
  rw[e];show _=(ar "read"++R.bl1)++((a++R.bl1)++R.num n);rw[show ar " "=R.bl1 from rfl]
  simp only[qF]
 rw[e2,R.fw];refine j5 (U5 _ _) λw hw h32=>?_
 rcases List.mem_cons.mp hw with rfl | hw
 ·exact absurd h32 (by trivial)
 rcases List.mem_cons.mp hw with rfl | hw
 ·have:=qy ha 32 h32;omega
 rw[UT]at hw;rw[hw]at h32;have:=qv h0 h1 32 h32;omega
theorem HC {a b:Str}(ha:R.cL a=true)(hb:R.cL b=true):Txt.split (ar "part "++a++ar " "++b) R.bl1=[ar "part",a,b]:=by
 have e:ar "part "=ar "part"++R.bl1:=by trivial
 have e2:ar "part "++a++ar " "++b=kx R.bl1 [ar "part",a,b]:=by
  rw[e];show _=(ar "part"++R.bl1)++((a++R.bl1)++b);rw[show ar " "=R.bl1 from rfl]
  simp only[qF]
 rw[e2,R.fw];refine j5 (U5 _ _) λw hw h32=>?_
 rcases List.mem_cons.mp hw with rfl | hw
 ·exact absurd h32 (by trivial)
 rcases List.mem_cons.mp hw with rfl | hw
 ·have:=qy ha 32 h32;omega
 rw[UT]at hw;rw[hw]at h32;have:=qy hb 32 h32;omega
theorem An {f:Str}{ds:List R.bI}(hf:10∉f.cps.toList)(hd:∀d∈ds,R.DOk d):Txt.split (kx nl1 (f::ds.map R.cG)) nl1=f::ds.map R.cG:=by
 rw[SX];refine j5 (U5 _ _) λw hw=>?_
 rcases List.mem_cons.mp hw with rfl | hw
 ·exact hf
 obtain⟨d,h1,rfl⟩:=List.mem_map.mp hw;exact J7 (hd d h1)
theorem w9 {p a q b:Str}(hp:10∉p.cps.toList)(ha:R.cL a=true)(hq:10∉q.cps.toList)(hb:∀c∈b.cps.toList,48<=c):10∉(p++a++q++b).cps.toList:=by
 rw[cO,cO,cO];intro h;rcases List.mem_append.mp h with h | h
 ·rcases List.mem_append.mp h with h | h
  ·rcases List.mem_append.mp h with h | h
   ·exact hp h
   have:=qy ha 10 h;omega
  exact hq h
 have:=hb 10 h;omega
def qz (st:Ch):PyData:=.tuple [stD st (nsO st),tq st]
def fT (n:Int)(ds:List R.bI):List PyData:=(Wu ds.length).map λi=>qz (eL n (ds.take (i+1)))
theorem mS (n:Int)(ds:List R.bI):(fT n ds).length=ds.length:=by unfold fT;rw[bo,List.length_range]
theorem FX {n:Int}{ds:List R.bI}{i:Nat}(h:i < ds.length):(fT n ds).getD i .none=qz (eL n (ds.take (i+1))):=by
 unfold fT;rw[U7,sr,List.getElem?_range h];rfl
theorem MT (a b:Ch):Vy (qz a) (qz b)=al a b:=by
 unfold qz al;simp[Vy,V5]
theorem Ao {n:Int}{d1 d2:List R.bI}{i:Nat}(h:i < min d1.length d2.length):HA (fT n d1) (fT n d2) i=alN n d1 d2 i:=by
 unfold HA;rw[FX (by omega),FX (by omega),MT]
 rfl
theorem MU {n:Int}{d1 d2:List R.bI}{z:Str}(h:MS (fT n d1) (fT n d2) z):mQ n d1 d2 z:=by
 unfold MS at h;rw[mS,mS]at h;rcases h with ⟨j,hj,h1,h2,rfl⟩ | ⟨h1,rfl⟩
 ·rw[Ao hj]at h1;exact⟨_,.inl ⟨j,hj,h1,λi hi=>by rw[<-Ao (by omega)];exact h2 i hi,rfl⟩,.inr ⟨_,rfl,rfl⟩⟩
 have h1':∀i,i < min d1.length d2.length->alN n d1 d2 i=true:=λi hi=>by rw[<-Ao hi];exact h1 i hi
 refine⟨_,.inr ⟨h1',rfl⟩,?_⟩
 by_cases hl:d1.length=d2.length
 ·rw[bp hl,bp hl];exact .inl ⟨rfl,rfl⟩
 rw[aZ hl,aZ hl];exact .inr ⟨_,rfl,rfl⟩
theorem mQ.one {n:Int}{d1 d2:List R.bI}{z z':Str}(h:mQ n d1 d2 z)(g:mQ n d1 d2 z'):z=z':=by
 obtain⟨v,h1,h2⟩:=h;obtain⟨u,g1,g2⟩:=g;obtain rfl:=Due.one h1 g1;rcases h2 with ⟨e,rfl⟩ | ⟨k,e,rfl⟩ <;> rcases g2 with ⟨e',rfl⟩ | ⟨k',e',rfl⟩
 ·rfl
 ·rw[e]at e';cases e'
 ·rw[e]at e';cases e'
 rw[e]at e';cases e';rfl
theorem mQ.sym {n:Int}{d1 d2:List R.bI}{z:Str}(h:mQ n d1 d2 z):mQ n d2 d1 z:=by
 obtain⟨v,h1,h2⟩:=h;exact⟨v,h1.sym,h2⟩
abbrev Wn (x:Option (Nat×Rl)):Prop:=x≠none
theorem MV:¬Wn none:=λh=>h rfl
theorem Oz {i:Nat}:∀x,cw i x->Wn x:=λx ⟨_,e⟩ h=>by rw[e]at h;cases h
theorem aq.wn {i:Nat}{c c':a6}{H H':Hp}(s:aq (cw i) c c' H H'):aq Wn c c' H H':=s.mono Oz MV
theorem aq.wn0 {c c':a6}{H H':Hp}(s:aq (λ_=>False) c c' H H'):aq Wn c c' H H':=s.mono (λ_ h=>h.elim) MV
noncomputable def c0:a6:=λ_=>none
theorem aq.FY {c':a6}{H H':Hp}(s:aq Wn c0 c' H H'):bh H H':=λa v h=>s.keep a v h MV
theorem Aq (n:Int)(ds:List R.bI)(d:R.bI):fT n (ds++[d])=fT n ds++[qz (eL n (ds++[d]))]:=by
 unfold fT;rw[ki,UY,List.range_succ,kt]
 congr 1
 ·refine VY λi hi=>?_
  rw[List.mem_range]at hi;rw[List.take_append_of_le_length (by omega)]
 show [qz (eL n (List.take (ds.length+1) (ds++[d])))]=_;rw[Wb (by rw[ki,UY];omega)]
theorem FZ {N:Nat}{st:Ch}(I:av N st):VS (qz st)=true:=by
 refine mO ?_ ?_
 ·have h1:=Hu I (nsO st);have h2:=DL I;unfold qz;simp only[Vb,U4,h1,h2,VC]
 have h0:=Aj st.aJ;have h1:=gJ (f:=λn=>asD (sX st n)) (k:=10) (λn=>Mz _) (nsO st)
 have h2:=gJ (f:=dcD) (k:=10) MA st.bW;have h3:=gJ (f:=mnD) FL st.made;unfold qz stD tq;simp only[Vo,Vi];omega
theorem Je:∀r:Rs,isX r=false->∃v,rsT r=[.str (ar "told"),v]
 | .num _,_=>⟨_,rfl⟩
 | .txt _,_=>⟨_,rfl⟩
theorem Jf:∀r:Rs,isX r=true->∃z v,rsT r=[.str z,v]/\decide (V.str z=V.str (ar "told"))=false
 | .exc x,_=>⟨_,_,rfl,by cases x <;> (show decide (V.str (ar _)=_)=false) <;> trivial⟩
structure Wk (K:de)(n:Int)(H:Hp)(m L1 Lk:Addr)(c:a6)(H2:Hp)(es:List R.bI)(st:Ch)(ws:List V)(j:Nat):Prop where
 sm:aq Wn c0 c H H2
 md:cQ 2 c H2 m st
 inv:av (3 * j) st
 rep:Rep n es st
 se:st.cq=n
 c1:c L1=some (3,.made)
 h1:H2 L1=some (.lst ((es.map R.cG).map V.str))
 c2:c Lk=some (3,.aJ)
 h2:H2 Lk=some (.lst ws)
 lk:bN (DV K (hC c H2)) (fT n es) ws
 sh:∀d∈fT n es,VS d=true
 le:es.length<=j
structure Wlk (K:de)(n:Int)(H:Hp)(es:List R.bI)(st:Ch)(L1 Lk:Addr)(ws:List V)(H':Hp):Prop where
 rep:Rep n es st
 se:st.cq=n
 sm:bh H H'
 h1:H' L1=some (.lst ((es.map R.cG).map V.str))
 h2:H' Lk=some (.lst ws)
 lk:bN (DV K H') (fT n es) ws
 sh:∀d∈fT n es,VS d=true
theorem Wlk.same {K:de}{n:Int}{H:Hp}{es:List R.bI}{st:Ch}{L1 Lk:Addr}{ws:List V}{H' H2:Hp}(s:bh H' H2)(h:Wlk K n H es st L1 Lk ws H'):Wlk K n H es st L1 Lk ws H2:=⟨h.rep,h.se,h.sm.trans s,s _ _ h.h1,s _ _ h.h2,h.lk.imp λ_ _ x=>DV.same s _ x,h.sh⟩
def Ri (K:de):Sp:=λvs H Q _=>∃(a:Addr) (n:Int) (ds:List R.bI) (ts:List Addr),vs=[.ref a,.int n]/\H a=some (.lst (ts.map V.ref))/\bN (b6 c0 H) ds ts/\(∀d∈ds,xq d)/\ds.length<=30 /\
 ∀(es:List R.bI) (st:Ch) (u L1 Lk:Addr) (ws:List V) (H':Hp),es.length<=ds.length->H' u=some (.tup [.ref L1,.ref Lk])->Wlk K n H es st L1 Lk ws H'->Q (.ref u) H'
theorem F0 {K:de}{te:TE}{i j:Nat}{t2:TS}{D:Ends}{σ:St}{H:Hp}(J:V->V->Hp->Prop)(h2:∀x y H',J x y H'->t2 D ((σ.set i (some x)).set j (some y)) H')(h1:∀N:VK,(∀t x y H',H' t=some (.tup [x,y])->J x y H'->N (.ref t) H')->te σ H N):DY (Jq te (Ry K 2 (Kd (cZ i) (Kd (cZ j) Rx)))) t2 D σ H :=
 h1 _ λt x y H' h z=>⟨t,_,rfl,aW.of h,rfl,_,_,rfl,_,_,rfl,rfl,h2 x y H' z⟩
theorem qU {K:de}{a:Addr}{xs:List V}{g:TG}{tb:TS}{D:Ends}{σ:St}{H:Hp}(Pv:Nat->St->Hp->Prop)(h0:Pv 0 σ H)(hl:∀i σ H,i<=xs.length->Pv i σ H->ay K H a xs)
  (hs:∀i x σ H (N:St->Hp->Prop),xs[i]?=some x->Pv i σ H->(∀σ' H',Pv (i+1) σ' H'->N σ' H')->g x σ H λσ2 H2=>tb { D with nx:=N,ct:=N,bk:=D.nx } σ2 H2) (hd:∀σ H,Pv xs.length σ H->D.nx σ H) :
  ∃W:Nat->Nat->St->Hp->Prop,(∃m,W 0 m σ H)/\∀i m σ H,W i m σ H ->
   ((Itl K a).stop i H/\D.nx σ H)\/((Itl K a).go i H/\∃N:St->Hp->Prop,(∀σ' H',N σ' H'->∃m',m' < m/\W (i+1) m' σ' H')/\∀x H',(Itl K a).yld i H x H'->g x σ H' λσ2 H2=>tb { D with nx:=N,ct:=N,bk:=D.nx } σ2 H2) :=
 pe Pv h0 hl (λi x σ H h p=>hs i x σ H _ h p λ_ _ z=>z) hd
theorem qV {σ:St}{H:Hp}{Q:List V->Hp->Prop}(h:Q [] H):Kk σ H Q:=h
theorem MW {i:Nat}{H:Hp}{Q:VK}{E:XK}{m t:Addr}{c:a6}{st:Ch}{N:Nat}{d:R.bI}{n:Int}(se:st.cq=n)(hm:cQ i c H m st)(I:av N st)(hN:N<=800)(hd:mN d)(hz:b6 c H d t)(q:Cm i c H m (cN st d) Q):O4 i [.ref m,.ref t,.int n] H Q E:=⟨m,t,c,st,N,d,by rw[se],hm,I,hN,hd,hz,q⟩
theorem Rj {K:de}{H:Hp}{Q:VK}{E:XK}{t:Addr}{d:R.bI}(h:R.nP K H d t)(o:R.DOk d)(q:∀H',bh H H'->Q (.str (R.cG d)) H'):R.sQ K [.ref t] H Q E:=⟨t,d,rfl,h,o,q⟩
theorem MX {K:de}{i:Nat}{H:Hp}{Q:VK}{E:XK}{m:Addr}{c:a6}{st:Ch}(hm:cQ i c H m st)(al:st.aU.length < 64)(q:∀(u:Addr) (H':Hp),bh H H'->DV K (hC (bP c H) H') (stD st (nsO st)) (.ref u)->Q (.ref u) H'):FW K i [.ref m] H Q E:=⟨m,c,st,rfl,hm,al,λ_ u H' pm so s d=>q u H' s (by rw[<-Hx pm so];exact d)⟩
theorem xa (T:Txt w.params K mg A):aC P w K mg base a5 6 A.ER A.wI ["_law_deeds","_law_seats_here"] (Ri K):=by
 have OA:aC P w K mg base a5 2 A.K8 A.yX ["_law_deed_here"] (R.sQ K):=R.MO T;refine T.sI.F.ok i3 (by left) λ_ _ _ _ H _ Q E hr h=>?_
 obtain⟨a,n,ds,ts,rfl,ha,hz,hd,hl,q⟩:=h;have bt:=hr.u1;have lim:fu=16777216:=by decide
 refine⟨_,(ah (aV (i:=2) i3.nd (D5 (Fy T) hr.mono rfl T.nG.g T.nG.F.kp T.nG.b .nil bU))
 (ah (aV (i:=3) i3.nd (bK ai))
 (ah (aV (i:=4) i3.nd (bK ai))
 (ah (gN Vx rfl (eW (pv 0)) (b9 (i:=5) i3.nd)
 (ao (bf (aI bz (aO aY (az (Fx (i:=2) T) hr.mono T.Dc (aa (pv 2) (aa (pv 5) (aa (pv 1) ai)))) aj) au (aL _))
 (ah (bw (dE tu UZ U0 cz (pv 3) (aa (az OA hr.mono T.Im (aa (pv 5) ai)) ai)))
 (ah (m8 (i:=6) (scope:=pP) AH rfl rfl (Or.inl rfl) (eW (bx bt (pv 2) au)) (λ_ _ _ _ _=>(aO (KI (K:=K) rfl) (pv 0) aj)))
 (ao (bw (dE tu UZ U0 cz (pv 4) (aa (bu (aa (az (Hz (i:=2) T) hr.mono T.B0 (aa (pv 2) ai)) (aa (pv 6) ai))) ai))))))
 aK)))
 (ao (aG (bu (aa (pv 3) (aa (pv 4) ai))))))))),?_⟩
 symm;refine⟨rfl,λm H1 h1=>?_⟩
 refine aS λGa hGa=>?_
 obtain⟨c1,st1,md1⟩:=h1 2 c0 n;refine hGa ?_;refine⟨Vl _,λL1 hL1=>⟨Vl _,λLk hL2=>?_⟩⟩
 have n12:L1≠Lk:=aQ ae hL2;have s13:aq (λ_=>False) c1 (aN (aN c1 L1 (some (3,.made))) Lk (some (3,.aJ))) H1 (ag (ag H1 L1 (.lst [])) Lk (.lst [])):=(aq.new id hL1).trans (aq.new id hL2)
 have k0:Wk K n H m L1 Lk (aN (aN c1 L1 (some (3,.made))) Lk (some (3,.aJ))) (ag (ag H1 L1 (.lst [])) Lk (.lst [])) [] (uP n) [] 0 :=
  ⟨(st1.trans s13).wn0,md1.free (λ_=>id) s13,mP n,.nil n,rfl,by rw[a9 n12];exact bj,(ax n12).trans ae,bj,ae,.nil,(λ_ h=>nomatch h),mv 0⟩
 generalize ag (ag H1 L1 (.lst [])) Lk (.lst [])=H3 at k0 ⊢;generalize aN (aN c1 L1 (some (3,.made))) Lk (some (3,.aJ))=c3 at k0;clear s13 h1 hL1 hL2 st1 md1
 try dsimp only[cZ]
 refine⟨_,rfl,a,rfl,⟨_,ay.of (k0.sm.FY _ _ ha)⟩,?_⟩;have tl:ts.length=ds.length:=hz.len.symm;refine qU (K:=K) (a:=a) (xs:=ts.map V.ref) (λj σ H2=>∃(v5 v6:Option V),σ=[some (.ref a),some (.int n),some (.ref m),some (.ref L1),some (.ref Lk),v5,v6]/\∃(c:a6) (es:List R.bI) (st:Ch) (ws:List V),Wk K n H m L1 Lk c H2 es st ws j)
  ⟨_,_,rfl,c3,_,_,_,k0⟩ (λj σ H2 _ ⟨_,_,_,_,_,_,_,k⟩=>ay.of (k.sm.FY _ _ ha)) ?_ ?_
 ·rintro j y σ H2 N hy hp0 nN;refine aS λGb hGb=>?_
  obtain⟨v5,v6,rfl,c,es,st,ws,k⟩:=hp0;have jl:j < ds.length:=by have:=(List.getElem?_eq_some_iff.mp hy).1;rw[bo]at this;omega
  obtain⟨t,ht,hzt⟩:=hz.get (wa jl);have hdd:=hd _ (Wh jl);refine hGb ?_;generalize ds[j]=d at hzt hdd;refine aS λGc hGc=>?_
  obtain rfl:y=V.ref t:=by rw[sr,ht]at hy;exact(US hy).symm
  have hN:3 * j<=800:=by omega
  have hz2:b6 c H2 d t:=hzt.step k.sm;refine hGc ?_
  try dsimp only[cZ]
  refine⟨_,rfl,_,rfl,_,rfl,MW (E:=E0) k.se k.md k.inv hN hdd.1 hz2 λc6 H6 u6 s6 md6 cu6 hu6=>?_⟩
  have I6:=k.inv.cN hN hdd.1;have se6:(cN st d).2.cq=n:=(w8 hdd.1).trans k.se;have sm6:=k.sm.trans s6.wn;have n3:¬cw 2 (some (3,Rl.made)):=eK (by decide) _
  have n3':¬cw 2 (some (3,Rl.aJ)):=eK (by decide) _
  have c16:c6 L1=some (3,.made):=by rw[s6.col _ _ k.h1 (by rw[k.c1];exact n3)];exact k.c1
  have c26:c6 Lk=some (3,.aJ):=by rw[s6.col _ _ k.h2 (by rw[k.c2];exact n3')];exact k.c2
  have h16:=s6.keep _ _ k.h1 (by rw[k.c1];exact n3)
  have h26:=s6.keep _ _ k.h2 (by rw[k.c2];exact n3')
  have lk6:=k.lk.imp λ_ _ x=>DV.same (qT s6) _ x
  cases hx:isX (cN st d).1 with
  |true =>
   refine aS λGd hGd=>?_
   obtain⟨z,v,e,hne⟩:=Jf _ hx;rw[e]at hu6;refine hGd ?_;refine⟨u6,_,_,_,rfl,rfl,aW.of hu6,rfl,rfl,a4 hne ?_⟩;have es6:=MH hdd.1 hx;exact nN _ _ ⟨_,_,rfl,c6,es,st,ws,sm6,by rw[<-es6];exact md6,by rw[<-es6];exact I6,k.rep,k.se,c16,h16,c26,h26,lk6,k.sh,by have:=k.le;omega⟩
  |false =>
   obtain⟨v,e⟩:=Je _ hx;rw[e]at hu6;have OB:=k.rep.snoc hdd hx;refine⟨u6,_,_,_,rfl,rfl,aW.of hu6,rfl,rfl,cg (bG rfl) ?_⟩;have hz6:b6 c6 H6 d t:=hz2.step s6;generalize (cN st d).2=st2 at md6 I6 se6 OB;have el:=k.le;refine⟨_,rfl,.inl ⟨rfl,_,ay.of h16⟩,_,rfl,qV (Rj (E:=E0) (hz6.c (i:=2)).at hdd.2.1 λH7 s7=>?_)⟩
   refine⟨L1,_,.str (R.cG d),rfl,rfl,s7 _ _ h16,by rw[bo,bo];omega,?_⟩
   have t7:aq (cw 3) c6 (bP c6 H6) H6 H7:=aq.cl a7 s7;have c17:bP c6 H6 L1=some (3,.made):=(qf h16).trans c16;have c27:bP c6 H6 Lk=some (3,.aJ):=(qf h26).trans c26;have Rk:Lk≠L1:=dP c26 c16 (λz=>nomatch z)
   have t8:aq (cw 3) c6 (bP c6 H6) H6 (ag H7 L1 (.lst ((es.map R.cG).map V.str++[V.str (R.cG d)]))):=t7.trans (aq.ag a7 ⟨_,c17⟩);have f8:ag H7 L1 (.lst ((es.map R.cG).map V.str++[V.str (R.cG d)])) L1=some (.lst (((es++[d]).map R.cG).map V.str)):=by rw[ae,kt,kt];rfl
   have g8:ag H7 L1 (.lst ((es.map R.cG).map V.str++[V.str (R.cG d)])) Lk=some (.lst ws):=(ax Rk).trans (s7 _ _ h26);generalize ag H7 L1 (.lst ((es.map R.cG).map V.str++[V.str (R.cG d)]))=H8 at t8 f8 g8 ⊢;generalize bP c6 H6=c8 at t7 t8 c17 c27;refine aS λGe hGe=>?_
   have md8:cQ 2 c8 H8 m st2:=md6.free (λr=>eK (by decide) r) t8
   have sm8:=sm6.trans t8.wn;have lk8:=lk6.imp λ_ _ x=>DV.same (qT t8) _ x
   clear t7 t8 s7 md6 lk6 h16 h26 c16 c26 sm6 hz6 hu6 hz2 s6;obtain⟨aP,aA,aD,aM,dds,wws,ees,X⟩:=md8.ex;have eel:ees.length=st2.made.length:=by rw[<-X.ent.len,kK]
   have ml:=I6.lm;refine hGe ?_
   try dsimp only[cZ]
   refine cv rfl X.gm ⟨aM,rfl,⟨_,ay.of X.je.2⟩,λD hD=>?_⟩
   refine iz (K:=K) (a:=aM) (xs:=ees) (λi ys H9=>H9=ag H8 D (.lst ys)/\∃us:List Addr,ys=us.map V.ref/\bN (MnT c8 H8) (st2.made.take i) us) ⟨rfl,[],rfl,.nil⟩ (by omega) ?_ ?_ ?_
   ·rintro i ys H9 hi ⟨rfl,us,rfl,hu⟩;exact⟨ay.of (aw hD _ _ X.je.2),ae,by rw[bo,<-hu.len,Vf];omega⟩
   ·rintro i x ys H9 hi ⟨rfl,us,rfl,hu⟩;refine aS λGf hGf=>?_
    have il:i < ees.length:=(List.getElem?_eq_some_iff.mp hi).1;obtain⟨v',ev,p,t1,t2,kk,tss,rfl,z1,z2,z3,z4,z5⟩:=X.ent.get (jP (n:=i+1) ⟨by omega,by omega⟩)
    rw[Nat.add_sub_cancel]at ev;obtain rfl:x=V.ref p:=by rw[ev]at hi;exact(US hi).symm
    refine hGf ?_;refine⟨_,rfl,p,(_),_,.ref t1,rfl,rfl,ay.of (aw hD _ _ z1.2),R.cK,cI.mk il ae ⟨gM,us++[t1],by rw[kt];rfl,?_⟩⟩
    rw[Cs (by omega)]
    exact hu.snoc z2
   rintro ys H9 ⟨rfl,us,rfl,hu⟩;rw[eel,Vs]at hu;have t9:aq (λ_=>False) c8 (aN c8 D none) H8 (ag H8 D (.lst (us.map V.ref))):=aq.new id hD
   have dm:DV K (hC (aN c8 D none) (ag H8 D (.lst (us.map V.ref)))) (tq st2) (.ref D):=by
    unfold tq DV;refine⟨D,_,rfl,ay.of (jE bj ae),?_⟩;exact bN.dvs (R:=λm v=>∃u,v=V.ref u/\MnT _ (hC _ _) m u) (λx v ⟨u,e,h⟩=>by rw[e];exact h.dv) (bN.mapR (hu.imp λx u h=>⟨u,rfl,(h.step t9).hc⟩))
   have md9:=md8.free (λ_=>id) t9
   have f9:=t9.keep _ _ f8 id;have g9:=t9.keep _ _ g8 id;have c19:aN c8 D none L1=some (3,.made):=(t9.col _ _ f8 id).trans c17;have c29:aN c8 D none Lk=some (3,.aJ):=(t9.col _ _ g8 id).trans c27;have sm9:=sm8.trans t9.wn0;have lk9:=lk8.imp λ_ _ x=>DV.same (qT t9) _ x
   generalize ag H8 D (.lst (us.map V.ref))=H9 at t9 dm md9 f9 g9 sm9 lk9 ⊢;generalize aN c8 D none=c9 at t9 dm md9 c19 c29 sm9 lk9;clear t9 md8 X f8 g8 c17 c27 sm8 lk8 hu
   try dsimp only[cZ]
   have al:=I6.uM;refine⟨_,rfl,.inl ⟨rfl,_,ay.of g9⟩,_,rfl,qV (MX (E:=E0) md9 (by omega) λu H10 s10 dv=>⟨_,rfl,(sl 2),λuu huu=>?_⟩)⟩
   have t10:aq (cw 3) c9 (bP c9 H9) H9 H10:=aq.cl a7 s10;have cuu:bP c9 H9 uu=none:=bS (same_none s10 huu);have s11:=aw (o:=.tup [V.ref u,V.ref D]) huu;have wl:ws.length=es.length:=by rw[<-lk9.len,mS]
   refine⟨Lk,ws,.ref uu,rfl,rfl,s11 _ _ (s10 _ _ g9),by omega,?_⟩
   have Rm:bP c9 H9 Lk=some (3,.aJ):=(qf g9).trans c29;have t12:aq (cw 3) (bP c9 H9) (bP c9 H9) H10 (ag (ag H10 uu (.tup [V.ref u,V.ref D])) Lk (.lst (ws++[.ref uu]))):=(aq.same a7 s11).trans (aq.ag a7 ⟨_,Rm⟩);have OC:=t10.trans t12;have nuL:uu≠Lk:=λz=>by rw[z,Rm]at cuu;cases cuu
   have Rk:L1≠Lk:=dP c19 c29 (λz=>nomatch z)
   refine nN _ _ ⟨_,_,rfl,bP c9 H9,es++[d],st2,ws++[.ref uu],sm9.trans OC.wn,md9.free (λr=>eK (by decide) r) OC,I6,OB,se6,(qf f9).trans c19,(ax Rk).trans (s11 _ _ (s10 _ _ f9)),Rm,ae,?_,?_,by rw[ki,UY];omega⟩
   ·rw[Aq,OB.run];refine(lk9.imp λ_ _ x=>DV.same (qT OC) _ x).snoc ?_
    unfold qz DV;refine⟨uu,_,rfl,aW.of (jE cuu ((ax nuL).trans ae)),?_⟩;unfold bC;refine⟨_,_,rfl,DV.same (qT t12) _ dv,?_⟩;unfold bC;exact⟨_,_,rfl,DV.same (qT OC) _ dm,by unfold bC;rfl⟩
   intro x hx;rw[Aq,OB.run]at hx;rcases List.mem_append.mp hx with hx | hx
   ·exact k.sh x hx
   rw[UT]at hx;rw[hx];exact FZ I6
 rintro σ H2 hp0;refine aS λGq gq=>?_
 obtain⟨v5,v6,rfl,c,es,st,ws,k⟩:=hp0;refine gq ?_;refine⟨_,rfl,_,rfl,(sl 2),λu hu=>?_⟩
 have s3:=aw (o:=.tup [V.ref L1,V.ref Lk]) hu;have le:=k.le;rw[bo]at le;exact q es st u L1 Lk ws _ (by omega) ae ⟨k.rep,k.se,k.sm.FY.trans s3,s3 _ _ k.h1,s3 _ _ k.h2,k.lk.imp λ_ _ x=>DV.same (SW.trans s3) _ x,k.sh⟩
noncomputable def SY:R.bI->Bool
 | .ed _ _ _ _=>true
 |_=>false
structure Dr (d:R.bI):Prop where
 ok:mN d
 sit:R.B4 d
 pos:∀m k j ws,d=.ed m k j ws->0<=j
def R12 (d:R.bI):Prop:=xq d/\∀cs,d=.mat cs->cs.length<=12
theorem SZ {d:R.bI}(h:zW d)(r:Dr d):R12 d:=by
 refine⟨⟨.move h,?_,r.sit.1⟩,r.sit.2⟩;have e10:(10:Int) ^ 10=10000000000:=by decide
 cases d with
 |mat cs=>exact h
 |pt ws=>exact h
 |ed m k j ws=>exact⟨h.1,⟨r.pos _ _ _ _ rfl,by have:=h.2.1.2;omega⟩,h.2.2⟩
 |nums kd ns =>
  have so:=r.sit.1;rcases nU h.1 with ⟨u,rfl,rfl⟩ | ⟨rfl,rfl⟩ | ⟨rfl,rfl⟩ | ⟨rfl,rfl⟩
  ·refine⟨by show (ar "put off",1)∈R.dM;trivial,λi hi=>?_⟩
   have:=so rfl i hi;omega
  all_goals exact⟨by trivial,λ_ z=>nomatch z⟩
theorem Jg {a b:Int}(ha:0<=a/\a < 10 ^ 10)(hb:0<=b/\b < 10 ^ 10):xq (.nums (ar "vote") [a,b]) :=
 ⟨.zX ha hb,⟨by show (ar "vote",2)∈R.dM;trivial,λi hi=>by
  rcases List.mem_cons.mp hi with rfl | hi
  ·exact ha
  rw[UT]at hi;rw[hi];exact hb⟩,R.Dp (by trivial)⟩
theorem Jh:xq (.nums (ar "drop") []):=⟨.drop,⟨by trivial,λ_ z=>nomatch z⟩,R.Dp (by trivial)⟩
theorem OD {z:Int}(h0:0<=z)(h1:z < 10 ^ 10):xq (.nums (ar "take") [z]) :=
 ⟨.take (by omega) h1,⟨by show (ar "take",1)∈R.dM;trivial,λi hi=>by rw[UT]at hi;rw[hi];exact⟨h0,h1⟩⟩,R.Dp (by trivial)⟩
theorem OE {d:R.bI}(h:mN d):inV (V.str (R.fO d)) [V.str (ar "change"),V.str (ar "mend")]=SY d:=by
 cases h with
 |zX=>show inV (V.str (ar "vote")) _=false;trivial
 |drop=>trivial
 |take=>show inV (V.str (ar "take")) _=false;trivial
 |move h =>
  cases d with
  |mat cs=>show inV (V.str (ar "matter")) _=false;trivial
  |pt ws=>show inV (V.str (ar "point")) _=false;trivial
  |ed m k j ws=>cases m <;> (show inV (V.str (ar _)) _=true) <;> trivial
  |nums kd ns =>
   rcases nU h.1 with ⟨u,rfl,rfl⟩ | ⟨rfl,rfl⟩ | ⟨rfl,rfl⟩ | ⟨rfl,rfl⟩
   ·show inV (V.str (ar "put off")) _=false;trivial
   all_goals trivial
structure Dk (n:Int)(H:Hp)(m L:Addr)(c:a6)(H2:Hp)(ds:List R.bI)(ts:List Addr)(st:Ch)(j:Nat):Prop where
 sm:aq Wn c0 c H H2
 md:cQ 2 c H2 m st
 inv:av (3 * j) st
 se:st.cq=n
 c1:c L=some (3,.made)
 h1:H2 L=some (.lst (ts.map V.ref))
 dz:bN (b6 c H2) ds ts
 ok:∀d∈ds,R12 d
 le:ds.length<=j
theorem Dk.free {n:Int}{H:Hp}{m L:Addr}{c c':a6}{H2 H3:Hp}{ds:List R.bI}{ts:List Addr}{st:Ch}{j:Nat}(k:Dk n H m L c H2 ds ts st j)(s:aq (λ_=>False) c c' H2 H3):Dk n H m L c' H3 ds ts st j :=
 ⟨k.sm.trans s.wn0,k.md.free (λ_=>id) s,k.inv,k.se,(s.col _ _ k.h1 id).trans k.c1,s.keep _ _ k.h1 id,k.dz.imp λ_ _ z=>z.step s,k.ok,k.le⟩
def OF (K:de):Sp:=λvs H Q _=>∃(a:Addr) (zs:List Int) (n:Int),vs=[.ref a,.int n]/\ay K H a (zs.map V.int)/\1<=n/\n<=1000000000 /\
 ∀(ds:List R.bI) (ts:List Addr) (L:Addr) (H':Hp),bh H H'->H' L=some (.lst (ts.map V.ref))->bN (b6 c0 H') ds ts->(∀d∈ds,R12 d)->ds.length<=24->Q (.ref L) H'
theorem J8 (xs:List V):(dQ xs (some 3) (some 27)).length<=24:=by
 unfold dQ;rw[show (3:Int)=((3:Nat):Int) from rfl,show (27:Int)=((27:Nat):Int) from rfl,HT.mX,HT.mX,Vf,VM]
 omega
theorem OG {k:Nat}{j:Int}{x:Str}(p:Prop):¬(HT.sIx (R.edR k j x).length 0 (some 2)=0/\p):=by
 have h:(R.edR k j x).length=2\/(R.edR k j x).length=3:=by
  unfold R.edR;split
  ·exact .inl rfl
  exact .inr rfl
 intro z;rcases h with h | h <;> rw[h]at z <;> exact absurd z.1 (by decide)
theorem OH {i:Nat}{H:Hp}{Q:VK}{E:XK}{m:Addr}{z n:Int}{c:a6}{st:Ch}{N:Nat}(hm:cQ i c H m st)(I:av N st)(hN:N<=191)(n1:1<=n)(n2:n<=1000000000)(q:∀(d:R.bI) (t:Addr) (H':Hp),mN d->R.B4 d->b6 (bP c H) H' d t->bh H H'->Q (.ref t) H'):Fz i [.ref m,.int z,.int n] H Q E:=⟨m,z,n,c,st,N,rfl,hm,I,hN,n1,n2,q⟩
theorem b6.none {c:a6}{H:Hp}{t:Addr}:∀ {d:R.bI},b6 c H d t->b6 c0 H d t
 | .mat _,⟨L,a,_,b2⟩=>⟨L,⟨rfl,a.2⟩,rfl,b2⟩
 | .ed _ _ _ _,⟨e,a,b⟩=>⟨e,⟨rfl,a.2⟩,rfl,b.2⟩
 | .pt _,h=>⟨rfl,h.2⟩
 | .nums _ _,h=>⟨rfl,h.2⟩
theorem HD (T:Txt w.params K mg A):aC P w K mg base a5 6 A.Il A.yY ["_law_script","_law_seats_here"] (OF K):=by
 refine T.B2.F.ok gx (by left) λ_ _ _ _ H _ Q E hr h=>?_
 obtain⟨a,zs,n,rfl,ha,n1,n2,q⟩:=h;have lim:fu=16777216:=by decide
 refine⟨_,(ah (aV (i:=2) gx.nd (D5 (Fy T) hr.mono rfl T.nG.g T.nG.F.kp T.nG.b .nil bU))
 (ah (aV (i:=3) gx.nd (bK ai))
 (ah (gN Vx rfl (eW (df eY (pv 0) (dU aj) (dU aj))) (b9 (i:=4) gx.nd)
 (ah (aV (i:=5) gx.nd (az (JU (i:=2) T) hr.mono T.EV (aa (pv 2) (aa (pv 4) (aa (pv 1) ai)))))
 (ah (bf (aI fV (aO aY (pv 5) aj) (bu (aa au (aa au ai))) rfl)
 (ao (aV (i:=5) gx.nd (bu (aa (aO aY (pv 5) aj) (aa (bb HM (bu (aa (aO aY (aO aY (pv 5) aj) aj) (aa (bA (jU rfl) (by rfl) T.B3 u5 (aa aj (aa (aO aY (aO aY (pv 5) aj) aj) ai))) ai))) (df Gw (aO aY (pv 5) aj) (dU aj) ef)) ai)))))
 aK)
 (ah (bf (aI bz (aO aY (pv 5) aj) au (aL _))
 (ao (aV (i:=5) gx.nd (bu (aa au (aa (bA (jU rfl) (by rfl) T.B3 u5 (aa aj (aa (aO aY (pv 5) aj) ai))) ai)))))
 aK)
 (ao (bf (aI bz (aO aY (az (Fx (i:=2) T) hr.mono T.Dc (aa (pv 2) (aa (pv 5) (aa (pv 1) ai)))) aj) au (aL _))
 (ao (bw (dE tu UZ U0 cz (pv 3) (aa (pv 5) ai))))
 aK))))))
 (ao (aG (pv 3)))))),?_⟩
 symm;refine⟨rfl,λm H1 h1=>?_⟩
 refine aS λGa hGa=>?_
 obtain⟨c1,st1,md1⟩:=h1 2 c0 n;refine hGa ?_;refine⟨Vl _,λL hL=>?_⟩
 have s12:aq (λ_=>False) c1 (aN c1 L (some (3,.made))) H1 (ag H1 L (.lst [])):=aq.new id hL
 have k0:Dk n H m L (aN c1 L (some (3,.made))) (ag H1 L (.lst [])) [] [] (uP n) 0 :=
  ⟨(st1.trans s12).wn0,md1.free (λ_=>id) s12,mP n,rfl,bj,ae,.nil,(λ_ h=>nomatch h),mv 0⟩
 generalize ag H1 L (.lst [])=H2 at k0 ⊢;generalize aN c1 L (some (3,.made))=c2 at k0;clear s12 h1 hL st1 md1
 try dsimp only[cZ]
 refine⟨_,rfl,_,rfl,_,rfl,a,_,rfl,k0.sm.FY.seq ha,λl hl=>⟨l,rfl,⟨_,ay.of ae⟩,?_⟩⟩
 have hcl:=J8 (zs.map V.int);have isI:∀x∈dQ (zs.map V.int) (some 3) (some 27),∃z,x=V.int z:=λx hx=>by
  obtain⟨z,_,e⟩:=List.mem_map.mp (NZ hx);exact⟨z,e.symm⟩
 have s3:aq (λ_=>False) c2 (aN c2 l none) H2 (ag H2 l (.lst (dQ (zs.map V.int) (some 3) (some 27)))):=aq.new id hl
 have k1:=k0.free s3;have l1:aN c2 l none l=none/\ag H2 l (.lst (dQ (zs.map V.int) (some 3) (some 27))) l=some (.lst (dQ (zs.map V.int) (some 3) (some 27))):=⟨bj,ae⟩;generalize ag H2 l (.lst (dQ (zs.map V.int) (some 3) (some 27)))=H3 at k1 l1 ⊢;generalize aN c2 l none=c3 at k1 l1;generalize dQ (zs.map V.int) (some 3) (some 27)=cs at l1 hcl isI ⊢;clear s3 k0 hl;refine qU (K:=K) (a:=l) (xs:=cs) (λj σ Hj=>∃(v4 v5:Option V),σ=[some (.ref a),some (.int n),some (.ref m),some (.ref L),v4,v5]/\∃(c:a6) (ds:List R.bI) (ts:List Addr) (st:Ch),Dk n H m L c Hj ds ts st j/\c l=none/\Hj l=some (.lst cs))
  ⟨_,_,rfl,c3,_,_,_,k1,l1⟩ (λj σ Hj _ ⟨_,_,_,_,_,_,_,_,_,h⟩=>ay.of h) ?_ ?_
 ·rintro j y σ Hj M hy hp0 mM;refine aS λGb hGb=>?_
  obtain⟨v4,v5,rfl,c,ds,ts,st,k,l1⟩:=hp0;obtain⟨z,rfl⟩:=isI _ (U2 hy);have jl:j < cs.length:=(List.getElem?_eq_some_iff.mp hy).1;refine hGb ?_;refine⟨_,rfl,_,rfl,_,rfl,qV (OH (E:=E0) k.md k.inv (by omega) n1 n2 λd t H5 hd so hz s5=>?_)⟩
  have t5:aq (λ_=>False) c (bP c Hj) Hj H5:=aq.cl id s5
  have k5:=k.free t5;have l5:=gn t5 l1.1 l1.2;generalize bP c Hj=c5 at hz k5 l5;clear k l1 t5 s5
  try dsimp only[cZ]
  refine dG (λσ' H'=>∃(t:Addr) (d:R.bI) (c:a6),σ'=[some (.ref a),some (.int n),some (.ref m),some (.ref L),some (.int z),some (.ref t)]/\Dk n H m L c H' ds ts st j/\(c l=none/\H' l=some (.lst cs))/\b6 c H' d t/\Dr d) ?r1 (λN' nN=>?f1)
  case f1 =>
   obtain⟨xs,hk⟩:=hz.kind;refine a8 rfl (aW.of hk) R.cK ⟨(sl 2),λp0 hp0=>⟨p0,_,rfl,.inr (aW.of ae),rfl,(by trivial),_,rfl,?_⟩⟩
   rw[OE hd];have t6:aq (λ_=>False) c5 (aN c5 p0 none) H5 (ag H5 p0 (.tup [V.str (ar "change"),V.str (ar "mend")])):=aq.new id hp0
   have k6:=k5.free t6;have l6:=gn t6 l5.1 l5.2;have hz6:=hz.step t6;generalize ag H5 p0 (.tup [V.str (ar "change"),V.str (ar "mend")])=H6 at k6 l6 hz6 ⊢;generalize aN c5 p0 none=c6 at k6 l6 hz6;clear t6 k5 l5 hz hp0 hk;have no:SY d=false->Dr d:=λe=>⟨hd,so,λ_ _ _ _ z=>by rw[z]at e;cases e⟩
   cases d with
   |mat cs=>exact iV rfl (nN _ _ ⟨t,_,c6,rfl,k6,l6,hz6,no rfl⟩)
   |pt ws=>exact iV rfl (nN _ _ ⟨t,_,c6,rfl,k6,l6,hz6,no rfl⟩)
   |nums kd ns=>exact iV rfl (nN _ _ ⟨t,_,c6,rfl,k6,l6,hz6,no rfl⟩)
   |ed b k j0 ws =>
    refine kT rfl ?_;refine aS λGc hGc=>?_
    obtain⟨e,hte,hee⟩:=hz6;have ht:=aW.of (K:=K) hte.2;have he:=hee.sq (K:=K);obtain⟨hk3,hj,hw,hb⟩:zW (.ed b k j0 ws):=by cases hd;assumption
    refine hGc ?_;refine a8 rfl ht rfl (a8 rfl ht rfl ⟨e,_,_,_,rfl,rfl,he,R.xF _ _ _,a8 rfl ht rfl ⟨e,_,_,_,rfl,rfl,he,R.ID _ _ _,_,_,rfl,(sl 2),λp1 hp1=>?_⟩⟩)
    generalize ej:(if j0 > 0 then j0 else 0)=j1 at hp1 ⊢
    have j1p:0<=j1/\j1<=9999999999:=by rw[<-ej];split <;> omega
    have dr1:Dr (.ed b k j1 ws):=⟨.move ⟨hk3,⟨by omega,by omega⟩,hw,hb⟩,⟨trivial,λ_ z=>nomatch z⟩,λ_ _ _ _ z=>by cases z;exact j1p.1⟩
    have s7:=aw (o:=.tup [V.str (R.kn k),.int j1]) hp1;have OI:ag H6 p1 (.tup [V.str (R.kn k),.int j1]) p1=some (.tup [V.str (R.kn k),.int j1]):=ae;generalize ag H6 p1 (.tup [V.str (R.kn k),.int j1])=H7 at s7 OI ⊢;have np1:=hp1;refine a8 rfl (bO s7 ht) rfl ⟨_,rfl,e,_,rfl,bO s7 he,OG _,λp2 hp2=>?_⟩
    have s8:=aw (o:=.tup (dQ (R.edR k j0 (kx R.bl1 ws)) (some 2) none)) hp2
    by_cases h1:k=1
    ·subst h1;have ec:dQ (R.edR 1 j0 (kx R.bl1 ws)) (some 2) none=[]:=rfl;refine⟨p1,p2,_,_,rfl,rfl,aW.of (s8 _ _ OI),aW.of ae,U5 _ _,by show 2+0<=_;decide,λ_=>⟨(sl 2),λp4 hp4=>?_⟩,λz=>absurd ec z⟩
     have s9:=(s7.trans s8).new (o:=.tup [V.str (R.kEd b),.ref p1]) hp4;have t9:aq (λ_=>False) c6 (bP c6 H6) H6 _:=aq.cl id s9
     refine nN _ _ ⟨p4,.ed b 1 j1 ws,_,rfl,k6.free t9,gn t9 l6.1 l6.2,⟨p1,⟨bS (same_none (s7.trans s8) hp4),ae⟩,bS np1,.inl ?_⟩,dr1⟩;exact(s8.new hp4) _ _ OI
    have ec:dQ (R.edR k j0 (kx R.bl1 ws)) (some 2) none=[V.str (kx R.bl1 ws)]:=by unfold R.edR;rw[aZ h1];rfl
    refine⟨p1,p2,_,_,rfl,rfl,aW.of (s8 _ _ OI),aW.of ae,U5 _ _,by rw[ec];show 2+1<=_;decide,(λz=>by rw[ec]at z;cases z),λ_ p3 hp3=>⟨(sl 2),λp4 hp4=>?_⟩⟩
    rw[ec]at hp3 hp4 ⊢;rw[ec]at s8;have s9:=(s7.trans s8).new (o:=.tup ([V.str (R.kn k),.int j1]++[V.str (kx R.bl1 ws)])) hp3;have n34:p3≠p4:=aQ ae hp4;have s10:=s9.new (o:=.tup [V.str (R.kEd b),.ref p3]) hp4;have t10:aq (λ_=>False) c6 (bP c6 H6) H6 _:=aq.cl id s10
    refine nN _ _ ⟨p4,.ed b k j1 ws,_,rfl,k6.free t10,gn t10 l6.1 l6.2,⟨p3,⟨bS (same_none s9 hp4),ae⟩,bS (same_none (s7.trans s8) hp3),.inl ?_⟩,dr1⟩;rw[R.edR,aZ h1];exact(ax n34).trans ae
  case r1 =>
  clear hz k5 l5 so hd;rintro σ6 H6 hp0;refine aS λGd hGd=>?_
  obtain⟨t,d,c6,rfl,k6,l6,hz6,dr⟩:=hp0;refine hGd ?_
  try dsimp only[cZ]
  refine dG (λσ' H'=>∃(t:Addr) (d:R.bI) (c:a6),σ'=[some (.ref a),some (.int n),some (.ref m),some (.ref L),some (.int z),some (.ref t)]/\Dk n H m L c H' ds ts st j/\(c l=none/\H' l=some (.lst cs))/\b6 c H' d t/\R12 d) ?r2 (λN' nN=>?f2)
  case f2 =>
   cases dr.ok with
   | @zX a b ha hb=>exact a8 rfl (aW.of hz6.2) rfl ⟨rfl,a4 (by trivial) (nN _ _ ⟨t,_,c6,rfl,k6,l6,hz6,⟨Jg ha hb,λ_ z=>nomatch z⟩⟩)⟩
   |drop=>exact a8 rfl (aW.of hz6.2) rfl ⟨rfl,a4 (by trivial) (nN _ _ ⟨t,_,c6,rfl,k6,l6,hz6,Jh,λ_ z=>nomatch z⟩)⟩
   | @take x h0 h1 =>
    have ht:aW K H6 t [V.str (ar "take"),.int x]:=aW.of hz6.2;refine a8 rfl ht rfl ⟨rfl,cg (bG rfl) (a8 rfl ht rfl ⟨_,_,rfl,(sl 2),λp hp=>?_⟩)⟩
    have t7:aq (λ_=>False) c6 (aN c6 p none) H6 (ag H6 p (.tup [V.str (ar "take"),.int (if x > 0 then x else 0)])):=aq.new id hp
    refine nN _ _ ⟨p,.nums (ar "take") [if x > 0 then x else 0],_,rfl,k6.free t7,gn t7 l6.1 l6.2,⟨bj,ae⟩,⟨OD ?_ ?_,λ_ z=>nomatch z⟩⟩
    ·split <;> omega
    split <;> omega
   |move hm =>
    obtain⟨v,ht⟩:=(hz6.mnt hm).kind;exact a8 rfl (aW.of ht) eD ⟨rfl,a4 (G8 _ (eE d).k8) (nN _ _ ⟨t,d,c6,rfl,k6,l6,hz6,SZ hm dr⟩)⟩
  case r2 =>
  clear k6 l6 hz6 dr;rintro σ7 H7 hp0;refine aS λGe hGe=>?_
  obtain⟨t,d,c7,rfl,k,l7,hz7,hdd⟩:=hp0;refine hGe ?_
  try dsimp only[cZ]
  refine⟨_,rfl,_,rfl,_,rfl,MW (E:=E0) k.se k.md k.inv (by omega) hdd.1.1 hz7 λc8 H8 u8 s8 md8 cu8 hu8=>?_⟩
  have I8:=k.inv.cN (by omega) hdd.1.1
  have se8:(cN st d).2.cq=n:=(w8 hdd.1.1).trans k.se;have n3:¬cw 2 (some (3,Rl.made)):=eK (by decide) _
  have c18:c8 L=some (3,.made):=by rw[s8.col _ _ k.h1 (by rw[k.c1];exact n3)];exact k.c1
  have h18:=s8.keep _ _ k.h1 (by rw[k.c1];exact n3)
  have l8:=gn s8 l7.1 l7.2;have z8:=k.dz.imp λ_ _ x=>x.step s8
  have hz8:=hz7.step s8;have le:=k.le;cases hx:isX (cN st d).1 with
  |true =>
   refine aS λGf hGf=>?_
   obtain⟨z,v,e,hne⟩:=Jf _ hx;rw[e]at hu8;refine hGf ?_;exact⟨u8,_,_,_,rfl,rfl,aW.of hu8,rfl,rfl,a4 hne (mM _ _ ⟨_,_,rfl,c8,ds,ts,_,⟨k.sm.trans s8.wn,md8,I8,se8,c18,h18,z8,k.ok,by omega⟩,l8⟩)⟩
  |false =>
   obtain⟨v,e⟩:=Je _ hx;rw[e]at hu8;have tl:ts.length=ds.length:=k.dz.len.symm;refine⟨u8,_,_,_,rfl,rfl,aW.of hu8,rfl,rfl,cg (bG rfl) ⟨_,rfl,.inl ⟨rfl,_,ay.of h18⟩,_,rfl,L,_,.ref t,rfl,rfl,h18,by rw[bo];omega,?_⟩⟩
   have t9:aq (cw 3) c8 c8 H8 (ag H8 L (.lst (ts.map V.ref++[.ref t]))):=aq.ag a7 ⟨_,c18⟩;refine mM _ _ ⟨_,_,rfl,c8,ds++[d],ts++[t],_,⟨(k.sm.trans s8.wn).trans t9.wn,md8.free (λr=>eK (by decide) r) t9,I8,se8,c18,by rw[ae,kt];rfl,(z8.imp λ_ _ x=>x.step t9).snoc (hz8.step t9),λx hx=>?_,by rw[ki,UY];omega⟩,gn t9 l8.1 l8.2⟩
   rcases List.mem_append.mp hx with hx | hx
   ·exact k.ok x hx
   rw[UT]at hx;rw[hx];exact hdd
 rintro σ Hj hp0;refine aS λGq gq=>?_
 obtain⟨v4,v5,rfl,c,ds,ts,st,k,_⟩:=hp0;have le:=k.le;refine gq ?_;exact⟨_,rfl,q ds ts L Hj k.sm.FY k.h1 (k.dz.imp λ_ _ x=>x.none) k.ok (by omega)⟩
theorem OJ {X:Cx}(hu:X.A.units+64 < cLine):OpR X (VP .Eq) (λx y H Q=>∃a b xs,x=.ref a/\y=.ref b/\ay X.K H a xs/\ay X.K H b []/\Q (.bl xs.isEmpty) H):=by
 intro af s σ H x y v u Q I rx ry h;obtain⟨a,b,xs,rfl,rfl,ha,hb,q⟩:=h;cases xs with
 |nil =>
  have d1:DV X.K H (.list []) (.ref a):=by unfold DV;exact⟨a,[],rfl,ha,by unfold bC;rfl⟩
  have d2:DV X.K H (.list []) (.ref b):=by unfold DV;exact⟨b,[],rfl,hb,by unfold bC;rfl⟩
  obtain⟨as,r1⟩:=DV.reads I _ d1 rx;obtain⟨bs,r2⟩:=DV.reads I _ d2 ry;exact PyProof.Rows.eq_dataH r1 r2 rfl rfl hu ⟨.bl _,H,I,rfl,q⟩
 |cons x0 r0 =>
  cases rx;cases ry;obtain⟨i1,r1,p1,z1⟩:=I.list ha;obtain⟨i2,r2,p2,z2⟩:=I.list hb;have l1:=r1.length;have l2:=r2.length;exact PySem.EqBoolInt.of_rc (PySem.SeqAt.RcAt.lists_lengths p1.isList p2.isList (by simp only[si];rw[<-l1,<-l2];rfl) (by omega)) ⟨.bl _,H,I,rfl,q⟩
theorem iW (xs:List V)(k:Nat)(h:k<=xs.length):dQ xs (some (k:Int)) none=xs.drop k:=by
 unfold dQ;rw[HT.mX,HT.xQ,Nat.min_eq_left h,Wb (by rw[VM];omega)]
theorem bN.O8 {α β:Type}{R:α->β->Prop}:∀ {as:List α} {bs:List β} (n:Nat),bN R as bs->bN R (as.take n) (bs.take n)
 |_,_,0,_=>.nil
 |_,_,_+1,.nil=>.nil
 |_,_,n+1,.cons h t=>.cons h (t.O8 n)
theorem bN.O9 {α β:Type}{R:α->β->Prop}:∀ {as:List α} {bs:List β} (n:Nat),bN R as bs->bN R (as.drop n) (bs.drop n)
 |_,_,0,h=>h
 |_,_,_+1,.nil=>.nil
 |_,_,n+1,.cons _ t=>t.O9 n
theorem bN.app {α β:Type}{R:α->β->Prop}:∀ {as as':List α} {bs bs':List β},bN R as bs->bN R as' bs'->bN R (as++as') (bs++bs')
 |_,_,_,_,.nil,h=>h
 |_,_,_,_,.cons h t,g=>.cons h (t.app g)
theorem MY {x:Str}(h:decide (1<=x.length/\x.length<=20/\(∀c∈x.cps.toList,R.Sign c)/\x≠ar "/")=true):R.uD 12 [x]:=⟨by show 1<=12;decide,λw hw=>by rw[UT]at hw;rw[hw];exact R.Fc h⟩
theorem Pa {ws:List Str}(h:R.uD 12 ws):xq (.pt ws):=⟨.move h,h,trivial⟩
def MZ:Sp:=λvs H Q _=>∃(a:Addr) (z n:Int) (ds:List R.bI) (ts:List Addr),vs=[.ref a,.int z,.int n]/\H a=some (.lst (ts.map V.ref))/\bN (b6 c0 H) ds ts/\(∀d∈ds,R12 d)/\ds.length<=24/\1<=n/\n<=1000000000 /\
 ∀(ds':List R.bI) (ts':List Addr) (L:Addr) (H':Hp),bh H H'->H' L=some (.lst (ts'.map V.ref))->bN (b6 c0 H') ds' ts'->(∀d∈ds',xq d)->ds'.length<=30->Q (.ref L) H'
theorem uX {H H':Hp}{d:R.bI}{t:Addr}(s:bh H H')(h:b6 c0 H d t):b6 c0 H' d t:=h.step (W:=λ_=>False) (aq.same id s)
theorem F1 (T:Txt w.params K mg A):aC P w K mg base a5 2 A.EO A.wH ["_law_deeds","_law_cell","_law_seats_here"] MZ:=by
 refine T.ze.F.ok kY (by left) λ_ _ _ _ H _ Q E hr h=>?_
 obtain⟨a,z,n,ds,ts,rfl,ha,hz,hd,hl,n1,n2,q⟩:=h;have gL:=hr.units;have lim:fu=16777216:=by decide
 refine⟨_,(ah (bf (aI (OJ gL) (pv 0) (bK ai) (aL _))
 (ao (aG (aO br (bK (aa (bK ai) (aa (bK (aa (bu (aa au (aa au ai))) ai)) ai))) (bb bY (pv 1) aj))))
 aK)
 (ah (aV (i:=3) kY.nd (bb bY (bb cy (pv 1) aj) (bA bF (by rfl) T.dS cC (aa (pv 0) ai))))
 (ah (aV (i:=4) kY.nd (aO br (pv 0) (pv 3)))
 (ah (aV (i:=5) kY.nd (df eY (pv 0) (dU (bb cT (pv 3) aj)) ef))
 (ah (bf (aI bz (bb bY (pv 1) aj) aj (aL _))
 (ao (aG (bb eh (df eY (pv 0) ef (dU (pv 3))) (pv 5))))
 aK)
 (ah (bf (PW.pt (pw_and (aI bz (aO aY (pv 4) aj) au (aL _)) (pw_and1 (aI oh (bb bY (pv 1) aj) aj (aL _)))))
 (ao (aG (bb eh (bb eh (df eY (pv 0) ef (dU (pv 3))) (bK (aa (az (Co T) hr T.zc (aa (bb cy (pv 1) aj) (aa (pv 2) ai))) ai))) (pv 5))))
 aK)
 (ah (bf (aI bz (aO aY (pv 4) aj) au (aL _))
 (ao (aG (bb eh (bb eh (df eY (pv 0) ef (dU (pv 3))) (bK (aa (bu (aa au (aa (bb eh (aO aY (pv 4) aj) (bK (aa au ai))) ai))) ai))) (pv 5))))
 aK)
 (ao (aG (bb eh (bb eh (df eY (pv 0) ef (dU (pv 3))) (bK (aa (bu (aa au (aa au ai))) (aa (bu (aa au ai)) (aa (pv 4) ai))))) (pv 5))))))))))),?_⟩
 symm;have tl:ts.length=ds.length:=hz.len.symm;refine⟨_,rfl,(sl 0),λp hp=>?_⟩
 have s1:=aw (o:=.lst []) hp;refine⟨a,p,_,rfl,rfl,ay.of (s1 _ _ ha),ay.of ae,_,rfl,?_⟩;generalize ag H p (.lst [])=H1 at s1 ⊢;have ha1:=s1 _ _ ha;cases ts with
 |nil =>
  refine dR ⟨(sl 0),λp1 hp1=>⟨(sl 2),λt ht=>⟨(sl 1),λp2 hp2=>⟨(sl 2),λp3 hp3=>?_⟩⟩⟩⟩
  have t1:=aw (o:=.lst []) hp1;have t2:=aw (o:=.tup [V.str (ar "point"),.str (ar "a")]) ht;have t3:=aw (o:=.lst [V.ref t]) hp2;have t4:=aw (o:=.lst [V.ref p1,.ref p2]) hp3;have s5:=s1.trans (t1.trans (t2.trans (t3.trans t4)));have z2:z % 2=0\/z % 2=1:=by omega
  refine⟨_,rfl,_,_,rfl,rfl,(by show (0:Int) < 2;decide),?_⟩
  try dsimp only
  rcases z2 with e | e <;> rw[e]
  ·exact⟨p3,_,_,.ref p1,rfl,rfl,ay.of ae,rfl,q [] [] p1 _ s5 ((t2.trans (t3.trans t4)) _ _ ae) .nil (λ_ h=>nomatch h) (by decide)⟩
  refine⟨p3,_,_,.ref p2,rfl,rfl,ay.of ae,rfl,q [.pt [ar "a"]] [t] p2 _ s5 (t4 _ _ ae) (.cons ⟨rfl,(t3.trans t4) _ _ ae⟩ .nil) (λd h=>?_) (by show 1<=30;decide)⟩
  rw[UT]at h;rw[h];exact Pa (MY (by trivial))
 |cons t0 ts0 =>
  generalize et:t0::ts0=ts at *;have tp:0 < ts.length:=by rw[<-et];exact Nat.succ_pos _
  refine iV (by rw[<-et];rfl) ?_
  refine aS λGa hGa=>?_
  clear et;have k0:0<=z / 4 % (ts.length:Int):=VR _ (by omega)
  have k1:z / 4 % (ts.length:Int) < (ts.length:Int):=VA _ (by omega)
  obtain⟨k,ek⟩:∃k:Nat,z / 4 % (ts.length:Int)=(k:Int):=⟨(z / 4 % (ts.length:Int)).toNat,by omega⟩
  have kl:k < ds.length:=by omega
  obtain⟨t,hte,hzt⟩:=hz.get (wa kl);obtain⟨hdd,S0⟩:=hd _ (Wh kl);refine hGa ?_;generalize ds[k]=d at hzt hdd S0;have hi:atI (ts.map V.ref) (k:Int)=some (.ref t):=cS (by rw[sr,hte];rfl)
  refine⟨_,rfl,_,_,rfl,rfl,⟨by decide,by decide⟩,_,rfl,a,_,rfl,.inl (ay.of ha1),_,_,rfl,rfl,(by rw[bo];show (0:Int) < _;omega),?_⟩
  rw[bo];dsimp only[cZ];rw[ek];refine⟨_,rfl,_,rfl,a,_,_,.ref t,rfl,rfl,ay.of ha1,hi,_,rfl,_,rfl,_,_,rfl,rfl,_,rfl,a,_,rfl,ay.of ha1,λB hB=>?_⟩
  have eB:dQ (ts.map V.ref) (some ((k:Int)+1)) none=(ts.drop (k+1)).map V.ref:=by
   rw[show (k:Int)+1=((k+1:Nat):Int) by omega,iW _ _ (by rw[bo];omega),List.map_drop]
  have eC:dQ (ts.map V.ref) none (some (k:Int))=(ts.take k).map V.ref:=by rw[Hc,List.map_take]
  rw[eB]at ⊢;have s2:=s1.new (o:=.lst ((ts.drop (k+1)).map V.ref)) hB;have hB2:ag H1 B (.lst ((ts.drop (k+1)).map V.ref)) B=some (.lst ((ts.drop (k+1)).map V.ref)):=ae;generalize ag H1 B (.lst ((ts.drop (k+1)).map V.ref))=H2 at s2 hB2 ⊢;have ha2:=s2 _ _ ha;have lB:((ts.drop (k+1)).map V.ref).length<=24:=by rw[bo,VM];omega
  have lC:((ts.take k).map V.ref).length<=24:=by rw[bo,Vf];omega
  have fin:∀(mid:List Addr) (mds:List R.bI) (Hn:Hp) (p:Addr),bh H Hn->Hn p=some (.lst (((ts.take k).map V.ref++mid.map V.ref)++(ts.drop (k+1)).map V.ref))->bN (b6 c0 Hn) mds mid->(∀d∈mds,xq d)->mds.length<=3->Q (.ref p) Hn:=by
   intro mid mds Hn p sn hp hm ho hl3;have hz':=hz.imp λ_ _ x=>uX sn x
   refine q ((ds.take k++mds)++ds.drop (k+1)) ((ts.take k++mid)++ts.drop (k+1)) p Hn sn (by rw[hp,kt,kt]) (((hz'.O8 k).app hm).app (hz'.O9 (k+1))) (λx hx=>?_) ?_
   ·rcases List.mem_append.mp hx with hx | hx
    ·rcases List.mem_append.mp hx with hx | hx
     ·exact(hd x (Wt hx)).1
     exact ho x hx
    exact(hd x (List.mem_of_mem_drop hx)).1
   rw[ki,ki,Vf,VM];omega
  have zt2:=uX s2 hzt;obtain⟨xs,hk⟩:=zt2.kind
  try dsimp only[cZ]
  refine⟨_,rfl,_,_,rfl,rfl,(by show (0:Int) < 4;decide),rfl,_,rfl,dg (λ_=>?_) (λ_=>?_)⟩
  ·refine⟨_,rfl,_,rfl,_,rfl,a,_,rfl,ay.of ha2,λC hC=>?_⟩
   rw[eC];have t3:=aw (o:=.lst ((ts.take k).map V.ref)) hC;refine⟨_,rfl,C,B,_,_,rfl,rfl,ae,t3 _ _ hB2,by omega,λp hp=>fin [] [] _ p ((s2.trans t3).new hp) (by rw[ae,VH,List.append_nil]) .nil (λ_ h=>nomatch h) (Vl _)⟩
  have app:∀(mid:List Addr) (mds:List R.bI) (Hn:Hp) (C M:Addr),bh H2 Hn->Hn C=some (.lst ((ts.take k).map V.ref))->Hn M=some (.lst (mid.map V.ref))->bN (b6 c0 Hn) mds mid->(∀d∈mds,xq d)->mds.length<=3->∀p,Hn p=none->∀p',ag Hn p (.lst ((ts.take k).map V.ref++mid.map V.ref)) p'=none->Q (.ref p') (ag (ag Hn p (.lst ((ts.take k).map V.ref++mid.map V.ref))) p' (.lst (((ts.take k).map V.ref++mid.map V.ref)++(ts.drop (k+1)).map V.ref))):=by
   intro mid mds Hn C M sn h1 h2 hm ho h3 p hp p' hp';have u1:=(aw (o:=.lst ((ts.take k).map V.ref++mid.map V.ref)) hp).new (o:=.lst (((ts.take k).map V.ref++mid.map V.ref)++(ts.drop (k+1)).map V.ref)) hp';exact fin mid mds _ p' ((s2.trans sn).trans u1) ae (hm.imp λ_ _ x=>uX u1 x) ho h3
  dsimp only[ON];refine dG (λσ' H'=>σ'=[some (.ref a),some (.int z),some (.int n),some (.int (k:Int)),some (.ref t),some (.ref B)]/\H2=H') ?r1 (λN' nN=>?f1)
  case f1 =>
   refine a8 rfl (aW.of hk) R.cK ⟨rfl,_,rfl,dg (λ_=>⟨_,rfl,_,_,rfl,rfl,(by show (0:Int) < 4;decide),_,_,rfl,rfl,_,rfl,dg (λ_=>?_) (λ_=>nN _ _ ⟨rfl,rfl⟩)⟩) (λ_=>b8 (nN _ _ ⟨rfl,rfl⟩))⟩
   refine⟨_,rfl,_,rfl,_,rfl,a,_,rfl,ay.of ha2,λC hC=>?_⟩
   rw[eC];have t3:=aw (o:=.lst ((ts.take k).map V.ref)) hC;refine⟨_,rfl,_,_,rfl,rfl,⟨by decide,by decide⟩,_,rfl,_,_,rfl,n1,n2,λv1 v2 tv H4 hv1 hv2 s4 ntv htv=>⟨(sl 1),λM hM=>?_⟩⟩
   have t5:=aw (o:=.lst [V.ref tv]) hM;have sn:=(t3.trans s4).trans t5;have h1:=t5 _ _ (s4 _ _ ae);refine⟨C,M,_,_,rfl,rfl,h1,ae,(by show _+1<=_;omega),λp hp=>⟨_,rfl,p,B,_,_,rfl,rfl,ae,(aw hp) _ _ (sn _ _ hB2),(by rw[ki];show _+1+_<=_;omega),app [tv] [.nums (ar "vote") [v1,v2]] _ C M sn h1 ae (.cons ⟨rfl,t5 _ _ htv⟩ .nil) (λx hx=>?_) (by show 1<=3;decide) p hp⟩⟩
   rw[UT]at hx;rw[hx];exact Jg hv1 hv2
  case r1 =>
  rintro σ3 H3 ⟨rfl,rfl⟩
  try dsimp only[cZ]
  refine dG (λσ' H'=>σ'=[some (.ref a),some (.int z),some (.int n),some (.int (k:Int)),some (.ref t),some (.ref B)]/\H2=H') ?r2 (λN' nN=>?f2)
  case f2 =>
   by_cases hm:∃cs,d=.mat cs
   ·obtain⟨cs,rfl⟩:=hm;refine aS λGb hGb=>?_
    have c12:=S0 cs rfl;obtain⟨L,ht,_,hL⟩:=zt2;refine hGb ?_;refine a8 rfl (aW.of ht.2) rfl ⟨rfl,cg (bG rfl) ⟨_,rfl,_,rfl,_,rfl,a,_,rfl,ay.of ha2,λC hC=>?_⟩⟩
    rw[eC];have t3:=aw (o:=.lst ((ts.take k).map V.ref)) hC;refine a8 rfl (aW.of (t3 _ _ ht.2)) rfl ⟨(sl 1),λX hX=>?_⟩
    have t4:=aw (o:=.lst [V.str (ar "x")]) hX;refine⟨L,X,_,_,rfl,rfl,t4 _ _ (t3 _ _ hL),ae,by rw[bo,bo];show _+1<=_;omega,λY hY=>⟨(sl 2),λtm htm=>⟨(sl 1),λM hM=>?_⟩⟩⟩
    have t5:=aw (o:=.lst ((cs.map (kx R.bl1)).map V.str++[V.str (ar "x")])) hY;have t6:=aw (o:=.tup [V.str (ar "matter"),.ref Y]) htm;have t7:=aw (o:=.lst [V.ref tm]) hM;have sn:=t3.trans (t4.trans (t5.trans (t6.trans t7)));have h1:=(t4.trans (t5.trans (t6.trans t7))) _ _ ae;refine⟨C,M,_,_,rfl,rfl,h1,ae,(by show _+1<=_;omega),λp hp=>⟨_,rfl,p,B,_,_,rfl,rfl,ae,(aw hp) _ _ (sn _ _ hB2),(by rw[ki];show _+1+_<=_;omega),app [tm] [.mat (cs++[[ar "x"]])] _ C M sn h1 ae (.cons ⟨Y,⟨rfl,t7 _ _ ae⟩,rfl,?_⟩ .nil) (λx hx=>?_) (by show 1<=3;decide) p hp⟩⟩
    ·rw[(t6.trans t7) _ _ ae,kt,kt];rfl
    rw[UT]at hx;rw[hx];have o:(cs++[[ar "x"]]).length<=13/\∀ws∈cs++[[ar "x"]],R.uD 12 ws:=⟨by rw[ki];show _+1<=_;omega,λws hw=>by
     rcases List.mem_append.mp hw with hw | hw
     ·exact hdd.2.1.2 ws hw
     rw[UT]at hw;rw[hw];exact MY (by trivial)⟩
    exact⟨.move o,o,trivial⟩
   refine a8 rfl (aW.of hk) R.cK ⟨rfl,a4 ?_ (nN _ _ ⟨rfl,rfl⟩)⟩;cases d with
   |mat cs=>exact absurd ⟨cs,rfl⟩ hm
   |pt ws=>show decide (V.str (ar "point")=_)=false;trivial
   |ed b _ _ _=>cases b <;> (show decide (V.str (ar _)=_)=false) <;> trivial
   |nums kd ns=>exact bV (R.LO hdd.2.1.1).1
  case r2 =>
  rintro σ4 H4 ⟨rfl,rfl⟩
  try dsimp only[cZ]
  refine⟨_,rfl,_,rfl,_,rfl,a,_,rfl,ay.of ha2,λC hC=>?_⟩
  rw[eC];have t3:=aw (o:=.lst ((ts.take k).map V.ref)) hC;refine⟨(sl 2),λu1 bt=>⟨(sl 1),λu2 hu2=>⟨_,rfl,(sl 3),λM hM=>?_⟩⟩⟩
  have t4:=aw (o:=.tup [V.str (ar "point"),.str (ar "")]) bt;have t5:=aw (o:=.tup [V.str (ar "drop")]) hu2;have t6:=aw (o:=.lst [V.ref u1,.ref u2,.ref t]) hM;have sn:=t3.trans (t4.trans (t5.trans t6));have h1:=(t4.trans (t5.trans t6)) _ _ ae;refine⟨C,M,_,_,rfl,rfl,h1,ae,(by show _+3<=_;omega),λp hp=>⟨_,rfl,p,B,_,_,rfl,rfl,ae,(aw hp) _ _ (sn _ _ hB2),(by rw[ki];show _+3+_<=_;omega),app [u1,u2,t] [.pt [],.nums (ar "drop") [],d] _ C M sn h1 ae (.cons ⟨rfl,(t5.trans t6) _ _ ae⟩ (.cons ⟨rfl,t6 _ _ ae⟩ (.cons (uX sn zt2) .nil))) (λx hx=>?_) (by show 3<=3;decide) p hp⟩⟩
  rcases List.mem_cons.mp hx with rfl | hx
  ·exact Pa ⟨by show 0<=12;decide,λ_ h=>nomatch h⟩
  rcases List.mem_cons.mp hx with rfl | hx
  ·exact Jh
  rw[UT]at hx;rw[hx];exact hdd
def Ji (K:de):Sp:=λvs H Q _=>∃(a:Addr) (ns:List Int),vs=[.ref a]/\ay K H a (ns.map V.int)/\ns.length<=63/\∀H',Q (.bl true) H'
theorem jS {z:Str}(h:R.cL z=true):z.length<=12:=by
 unfold R.cL at h;rw[U3,U3]at h;exact eM h.2.1
theorem M0 {kvs:List (Key×V)}{k:Key}{v:V}:(bB kvs k v).length<=kvs.length+1:=by
 unfold bB;split
 ·rw[bo];omega
 rw[ki];exact mv _
structure Dsk (A:ba)(n:Int)(Hb:Hp)(o:Addr)(zz:Nat->Str)(es:Nat->List R.bI)(i:Nat)(c:a6)(H:Hp)(kvs:List (Key×V)):Prop where
 kp:KpN c0 Hb c H
 dk:uW A c H o kvs
 len:kvs.length<=i
 at_:∀j,j < i->∃oj,d6 kvs (UU (zz j))=some (.ref oj)/\bM A (j+1) c H oj (eL n (es j))
section
variable{A:ba}{n:Int}{Hb H H':Hp}{o oN:Addr}{zz:Nat->Str}{es:Nat->List R.bI}{i:Nat}{c c':a6}{kvs:List (Key×V)}
theorem Dsk.sm (D:Dsk A n Hb o zz es i c H kvs):bh Hb H:=λa v h=>(D.kp a v rfl h).2
theorem Dsk.same (s:bh H H')(D:Dsk A n Hb o zz es i c H kvs):Dsk A n Hb o zz es i c H' kvs :=
 ⟨λa v h e=>let ⟨h1,h2⟩:=D.kp a v h e;⟨h1,s _ _ h2⟩,D.dk.step (i:=1) (by decide) (aq.same a7 s),D.len,λj hj=>let ⟨oj,h1,h2⟩:=D.at_ j hj;⟨oj,h1,h2.free (W:=λ_=>False) (λ_=>id) (aq.same id s)⟩⟩
theorem Dsk.read (D:Dsk A n Hb o zz es i c H kvs)(ne:∀j,j < i->zz j≠zz i)(k:Kp A (i+1) c H c' H')(d':uW A c' H' o (bB kvs (UU (zz i)) (.ref oN)))(ch:bM A (i+1) c' H' oN (eL n (es i))):Dsk A n Hb o zz es (i+1) c' H' (bB kvs (UU (zz i)) (.ref oN)):=by
 refine⟨λa v h e=>let ⟨h1,h2⟩:=D.kp a v h e;k.2 a v h1 h2,d',Vc M0 (Nat.succ_le_succ D.len),λj hj=>?_⟩
 by_cases e:j=i
 ·subst e;exact⟨oN,by rw[Ek,bp rfl],ch⟩
 obtain⟨oj,h1,h2⟩:=D.at_ j (by omega)
 exact⟨oj,by rw[Ek,aZ (λz=>ne j (by omega) (Sum.inr.inj z))];exact h1,k.1 (j+1) oj _ (by omega) (by omega) h2⟩
end
def rdT (z:Str)(n:Int)(ds:List R.bI):Str:=kx nl1 ((ar "read "++z++ar " "++R.num n)::ds.map R.cG)
theorem F2 {z:Str}{n:Int}(h:R.cL z=true)(n1:1<=n)(n2:n<=1000000000):(ar "read "++z).length<=30/\(ar "read "++z++ar " ").length<=40/\(R.num n).length<=20/\(ar "read "++z++ar " "++R.num n).length<=60:=by
 have e1:(ar "read ").length=5:=by trivial
 have e2:(ar " ").length=1:=by trivial
 have e10:(10:Int) ^ 10=10000000000:=by decide
 have l1:=jS h;have l2:=R.xE (i:=n) (by omega) (by rw[e10];omega)
 have a1:=len_app (ar "read ") z;have a2:=len_app (ar "read "++z) (ar " ");have a3:=len_app (ar "read "++z++ar " ") (R.num n);omega
theorem Ar {x z:Str}(h:R.cL x=true)(h':R.cL z=true):(ar "part "++x).length<=30/\(ar "part "++x++ar " ").length<=40/\(ar "part "++x++ar " "++z).length<=60:=by
 have e1:(ar "part ").length=5:=by trivial
 have e2:(ar " ").length=1:=by trivial
 have l1:=jS h;have l2:=jS h';have a1:=len_app (ar "part ") x;have a2:=len_app (ar "part "++x) (ar " ");have a3:=len_app (ar "part "++x++ar " ") z;omega
theorem S1 {x y:Str}(hx:R.cL x=true)(hy:R.cL y=true):Txt.split (ar "part "++x++ar " "++y) nl1=[ar "part "++x++ar " "++y]:=An (f:=ar "part "++x++ar " "++y) (ds:=[]) (w9 (by trivial) hx (by trivial) λc hc=>by have:=qy hy c hc;omega) λ_ h=>nomatch h
section
variable{A:ba}{n:Int}{Hb H:Hp}{o:Addr}{zz:Nat->Str}{es:Nat->List R.bI}{i j:Nat}{c:a6}{kvs:List (Key×V)}{st1 st2:Ch}{Q:VK}{E:XK}
theorem Dsk.part {x y:Str}(D:Dsk A n Hb o zz es 2 c H kvs)(hi:i < 2)(hj:j < 2)(ex:x=zz i)(ey:y=zz j)(m0:R.cL x=true)(m1:R.cL y=true)(r1:Rep n (es i) st1)(r2:Rep n (es j) st2)(l1:(es i).length<=30)(l2:(es j).length<=30)(s1:st1.cq=n)(s2:st2.cq=n)(q:∀z H',mQ n (es i) (es j) z->bh H H'->Q (.str z) H'):DQ A [.ref o,.str (ar "part "++x++ar " "++y)] H Q E:=by
 obtain⟨o1,v1,ch1⟩:=D.at_ i hi;obtain⟨o2,v2,ch2⟩:=D.at_ j hj;obtain⟨y1,y2,y3⟩:=Ar m0 m1;have k1:=jS m0;have k2:=jS m1;exact⟨o,_,_,[],kvs,c,rfl,D.dk,by omega,S1 m0 m1,by omega,.inr ⟨x,y,o1,o2,i,j,n,es i,es j,HC m0 m1,m0,m1,by omega,by omega,rfl,by rw[ex];exact v1,by rw[ey];exact v2,ch1,ch2,⟨_,r1⟩,⟨_,r2⟩,by omega,by omega,by rw[r1.run];exact s1,by rw[r2.run];exact s2,q⟩⟩
theorem Dsk.OK {zi:Str}{ei:List R.bI}(D:Dsk A n Hb o zz es i c H kvs)(hi:i < 2)(ez:zz i=zi)(ee:es i=ei)(n1:1<=n)(n2:n<=1000000000)(g4:R.cL zi=true)(r:Rep n ei st1)(l:ei.length<=30)(tl:(rdT zi n ei).length<=60+ei.length * 50001)(ne:∀j,j < i->zz j≠zi)(q:∀c' H' Rn,Dsk A n Hb o zz es (i+1) c' H' Rn->Q (.str (ar "ok")) H'):DQ A [.ref o,.str (rdT zi n ei)] H Q E:=by
 have sp:=An (f:=ar "read "++zi++ar " "++R.num n) (ds:=ei) (w9 (by trivial) g4 (by trivial) λx hx=>(qv (by omega) n2 x hx).1) λd hd=>(r.ok d hd).2.1
 obtain⟨y1,y2,y3,y4⟩:=F2 g4 n1 n2;have yz:=jS g4;obtain⟨sb1,sb2⟩:=Rh n1 n2;have kl:=D.len;subst ez ee;exact⟨o,_,_,_,kvs,c,rfl,D.dk,by omega,sp,by omega,.inl ⟨i+1,zz i,R.num n,es i,st1,Nat.succ_ne_zero i,HB g4 (by omega) n2,g4,sb1,by omega,by omega,by omega,rfl,(by rw[sb2];exact r),by omega,λoN c' H' kp dk ch=>q c' H' _ (D.read (oN:=oN) ne kp dk (by rw[<-sb2];exact ch))⟩⟩
end
set_option maxHeartbeats 20000000 in
theorem Ro {f:Addr}{fd:gr}(F:Fun K "law" "law" HV f fd)(T:Txt w.params K mg A):aC P w K mg base a5 20 f fd ["_law_script"] (Ji K):=by
 have qA:aC P w K mg base a5 1 A.vj A.ny ["_law_script","_law_k"] (L9 K):=DD T;have tD:aC P w K mg base a5 14 A.nA A.lb ["self","text"] (DQ A):=Rc T;refine F.ok gW (by left) λ_ _ _ _ H _ Q E hr h=>?_
 obtain⟨a,ns,rfl,hS,hlen,q⟩:=h;have oe:b7 1 _:=hr.mono;have qB:b7 14 _:=hr.mono;refine⟨_,(ah (aV (i:=1) gW.nd (az (Hm T) hr.mono T.B1 (aa (az qA oe T.ll (aa (pv 0) (aa aj ai))) ai)))
 (ah (m8 (i:=2) (scope:=Bz) KS rfl rfl (Or.inl rfl) (jT rfl T.qM (aa aj ai)) (λ_ _ _ _ _=>(az (J5 T) hr.mono T.EW (aa (az qA oe T.ll (aa (pv 1) (aa aj ai))) (aa (pv 0) ai)))))
 (ah (aV (i:=3) gW.nd (az (HD T) hr.mono T.B2 (aa (pv 0) (aa (pv 1) ai))))
 (ah (rZ (az (xa T) hr.mono T.sI (aa (pv 3) (aa (pv 1) ai))) (rY rfl (d0 (b9 (i:=4) gW.nd) (d0 (b9 (i:=5) gW.nd) mU))))
 (ah (rZ (az (xa T) hr.mono T.sI (aa (az (F1 T) hr.mono T.ze (aa (pv 3) (aa (az qA oe T.ll (aa (pv 0) (aa aj ai))) (aa (pv 1) ai)))) (aa (pv 1) ai))) (rY rfl (d0 (b9 (i:=6) gW.nd) (d0 (b9 (i:=7) gW.nd) mU))))
 (ah (aV (i:=8) gW.nd (Km T.Qu (FU T) hr.mono rfl T.Qt T.E4 .nil bU))
 (ah (gN Vx rfl (eW (bK (aa (bu (aa (aO br (pv 2) aj) (aa (pv 4) ai))) (aa (bu (aa (aO br (pv 2) aj) (aa (pv 6) ai))) ai)))) (rY rfl (d0 (b9 (i:=9) gW.nd) (d0 (b9 (i:=10) gW.nd) mU)))
 (ah (aV (i:=11) gW.nd (bb cV (bb cV (bb cV au (pv 9)) au) (cc d9 (by rfl) T.wQ pj (aa (pv 1) ai))))
 (ah (gN Vx rfl (eW (pv 10)) (b9 (i:=12) gW.nd)
 (ao (aV (i:=11) gW.nd (bb cV (bb cV (pv 11) au) (pv 12)))))
 (ao (bf (aI kR (dN (pv 8) T.jK T.sJ tD qB T.sL .nil bU (aa (pv 11) ai)) au (aL _))
 (ao (aG og))
 aK)))))
 (ah (aV (i:=13) gW.nd (az (J6 T) hr.mono T.EX (aa (pv 5) (aa (pv 7) ai))))
 (ah (bf (aI kR (dN (pv 8) T.jK T.sJ tD qB T.sL .nil bU (aa (bb cV (bb cV (bb cV au (aO br (pv 2) aj)) au) (aO br (pv 2) aj)) ai)) (pv 13) (aL _))
 (ao (aG og))
 aK)
 (ao (aG (b5 bz (dN (pv 8) T.jK T.sJ tD qB T.sL .nil bU (aa (bb cV (bb cV (bb cV au (aO br (pv 2) aj)) au) (aO br (pv 2) aj)) ai)) (pv 13) (aL _))))))))))))),?_⟩
 symm;have sz:fu=16777216:=by decide
 refine jQ (λv H'=>∃n:Int,v=.int n/\H=H'/\1<=n/\n<=1000000000) ?_ (λN nN=>⟨_,rfl,a,ns,0,rfl,hS,Int.le_refl _,λfi=>⟨fi,rfl,λn n1 n2=>nN _ _ ⟨n,rfl,rfl,n1,n2⟩⟩⟩)
 rintro _ _ ⟨n,rfl,rfl,n1,n2⟩;refine jQ (λv H'=>∃(z0 z1:Str) (W:Addr),v=.ref W/\R.cL z0=true/\R.cL z1=true/\z0≠z1/\bh H H'/\H' W=some (.lst [V.str z0,V.str z1])) ?r1 (λN nN=>?f1)
 case f1 =>
  refine⟨_,rfl,by decide,by decide,λW hW=>?_⟩
  refine xW (lo:=0) (n:=2) (λi ys H3=>H3=ag H W (.lst ys)/\∃zs:List Str,ys=zs.map V.str/\zs.length=i/\∀j z,zs[j]?=some z->kB j z=true/\R.cL z=true) ⟨rfl,[],rfl,rfl,λj z h=>by simp at h⟩ (by decide) ?_ ?_ ?_
  ·rintro i ys H3 hi ⟨rfl,zs,rfl,hl,_⟩;exact⟨ae,by rw[bo];exact hl⟩
  ·rintro i ys H3 hi ⟨rfl,zs,rfl,hl,hg⟩;refine⟨_,rfl,a,ns,1,rfl,(aw hW).seq hS,by decide,λfz=>⟨_,rfl,fz,i,by rw[Int.zero_add];rfl,hi,λm a' l h1 h2 h3=>?_⟩⟩
   refine cI.mk hi ae ⟨gM,zs++[Jb i m a' l],by rw[kt];rfl,by rw[ki,hl];rfl,λj z hz=>?_⟩
   by_cases hj:j < zs.length
   ·rw[Wm hj]at hz;exact hg j z hz
   have hjl:=(List.getElem?_eq_some_iff.mp hz).1;refine aS λGa hGa=>?_
   rw[ki,UY]at hjl;obtain rfl:j=zs.length:=by omega
   rw[List.getElem?_concat_length]at hz;cases hz;refine hGa ?_;rw[hl];exact⟨Ov i hi m h1 a' h2 l h3,Ou i hi m h1 a' h2 l h3⟩
  rintro ys H3 ⟨rfl,zs,rfl,hl,hg⟩;refine aS λGb hGb=>?_
  obtain⟨z0,z1,rfl⟩:∃z0 z1,zs=[z0,z1]:=by
   match zs,hl with
   |[z0,z1],_=>exact⟨z0,z1,rfl⟩
  refine hGb ?_;exact nN _ _ ⟨z0,z1,W,rfl,(hg 0 z0 rfl).2,(hg 1 z1 rfl).2,SU (hg 0 z0 rfl).1 (hg 1 z1 rfl).1,aw hW,ae⟩
 case r1 =>
 rintro _ H1 hp0;refine aS λGc hGc=>?_
 obtain⟨z0,z1,W,rfl,m0,m1,z01,s1,hW1⟩:=hp0;have hS1:=s1.seq hS;refine hGc ?_;refine jQ (λv H'=>∃(L:Addr) (ds:List R.bI) (ts:List Addr),v=.ref L/\bh H1 H'/\H' L=some (.lst (ts.map V.ref))/\bN (b6 c0 H') ds ts/\(∀d∈ds,R12 d)/\ds.length<=24) ?_ (λN nN=>⟨_,rfl,_,rfl,a,ns,n,rfl,hS1,n1,n2,λds ts L H2 s2 hL hz hd hl2=>nN _ _ ⟨L,ds,ts,rfl,s2,hL,hz,hd,hl2⟩⟩)
 rintro _ H2 hp0;refine aS λGd hGd=>?_
 obtain⟨L,ds,ts,rfl,s2,hL,hz,hd,hl2⟩:=hp0;refine hGd ?_;refine F0 (λx y H'=>∃(es:List R.bI) (st:Ch) (L1 M1:Addr) (ws:List V),x=.ref L1/\y=.ref M1/\es.length<=30/\Wlk K n H2 es st L1 M1 ws H') ?_ (λN nN=>⟨_,rfl,_,rfl,L,n,ds,ts,rfl,hL,hz,λd h=>(hd d h).1,by omega,λes st u L1 M1 ws H3 el hu wk=>nN u _ _ H3 hu ⟨es,st,L1,M1,ws,rfl,rfl,by omega,wk⟩⟩)
 rintro _ _ H3 hp0;refine aS λGe hGe=>?_
 obtain⟨es1,st1,L1,M1,w1,rfl,rfl,e1,wk1⟩:=hp0;refine hGe ?_;refine F0 (λx y H'=>∃(es:List R.bI) (st:Ch) (L1 M1:Addr) (ws:List V) (H4:Hp),x=.ref L1/\y=.ref M1/\es.length<=30/\bh H3 H4/\Wlk K n H4 es st L1 M1 ws H') ?_ (λN nN=>⟨_,rfl,_,rfl,a,ns,2,rfl,wk1.sm.seq (s2.seq hS1),by decide,λfz=>⟨_,rfl,L,fz,n,ds,ts,rfl,wk1.sm _ _ hL,hz.imp λ_ _ x=>uX wk1.sm x,hd,hl2,n1,n2,λds2 ts2 Lt H4 s4 hLt hz2 hd2 hl3=>⟨_,rfl,Lt,n,ds2,ts2,rfl,hLt,hz2,hd2,hl3,λes st u L1 M1 ws H5 el hu wk=>nN u _ _ H5 hu ⟨es,st,L1,M1,ws,H4,rfl,rfl,by omega,s4,wk⟩⟩⟩⟩)
 rintro _ _ H5 hp0;refine aS λGf hGf=>?_
 obtain⟨es2,st2,Lk,M2,w2,H4,rfl,rfl,e2,s4,wk2⟩:=hp0;have s35:=s4.trans wk2.sm;have hW5:=(s2.trans (wk1.sm.trans s35)) _ _ hW1;refine hGf ?_
 replace wk1:=wk1.same s35
 clear hS1 s1 s2 s4 s35 hW1 hL hz hd;refine jQ (λv H'=>∃(o:Addr) (c:a6),v=.ref o/\uW A c H' o []/\KpN c0 H5 c H') ?r2 (λN nN=>?f2)
 case f2 =>
  refineλo d1 ho1 hd1 ne1=>⟨o,d1,rfl,ae,λDd hDd=>⟨rfl,?_⟩⟩
  have s0:bh H5 (ag (ag H5 d1 (.own o)) o (.ins A.fM d1 [])):=λb v hb=>(ax (aQ hb ho1)).trans ((ax (aQ hb hd1)).trans hb)
  have ne:o≠Dd:=aQ ae hDd;exact nN _ _ ⟨o,aN c0 Dd (some (0,.made)),rfl,⟨a9 ne,d1,Dd,ae,bj,(ax ne.symm).trans ae⟩,λb v _ hb=>⟨a9 (aQ (s0 _ _ hb) hDd),(ax (aQ hb ho1)).trans ((ax (aQ (s0 _ _ hb) hDd)).trans (s0 _ _ hb))⟩⟩
 case r2 =>
 rintro _ H7 ⟨o,c7,rfl,dk7,k7⟩;refine dG (λσ Hj=>∃(v9 v10 v11 v12:Option V),σ=[some (.ref a),some (.int n),some (.ref W),some (.ref L),some (.ref L1),some (.ref M1),some (.ref Lk),some (.ref M2),some (.ref o),v9,v10,v11,v12,none]/\∃(Hb:Hp) (c:a6) (kvs:List (Key×V)),bh H5 Hb/\Dsk A n Hb o (λi=>if i=0 then z0 else z1) (λi=>if i=0 then es1 else es2) 2 c Hj kvs) ?r3 (λN nN=>?f3)
 case f3 =>
  have s57:bh H5 H7:=λb v hb=>(k7 b v rfl hb).2
  have hW7:=s57 _ _ hW5;refine⟨_,rfl,W,(_),_,.str z0,rfl,rfl,ay.of hW7,R.cK,_,rfl,(sl 2),λt0 ht0=>?_⟩
  have q1:=aw (o:=.tup [V.str z0,.ref L1]) ht0;refine⟨_,rfl,W,(_),_,.str z1,rfl,rfl,ay.of (q1 _ _ hW7),R.ig,_,rfl,(sl 2),λt1 ht1=>⟨(sl 2),λB hB=>⟨B,rfl,⟨_,ay.of ae⟩,?_⟩⟩⟩
  have q2:=aw (o:=.tup [V.str z1,.ref Lk]) ht1;have q3:=aw (o:=.lst [V.ref t0,.ref t1]) hB;have n1':=same_none q1 ht1;have nB':=same_none (q1.trans q2) hB;have s78:=q1.trans (q2.trans q3);have f0:=jE (bS (c:=c7) ht0) ((q2.trans q3) _ _ ae);have f1:=jE (bS (c:=c7) n1') (q3 _ _ ae);have fB:=jE (bS (c:=c7) nB') (ae (H:=ag (ag H7 t0 (.tup [V.str z0,.ref L1])) t1 (.tup [V.str z1,.ref Lk])) (a:=B) (o:=.lst [V.ref t0,.ref t1]));have S2:aq (cw 1) c7 (bP c7 H7) H7 _:=aq.cl a7 s78;have s5b:bh H5 (hC (bP c7 H7) _):=λb v hb=>jE ((qf (k7 b v rfl hb).2).trans (k7 b v rfl hb).1) (s78 _ _ (k7 b v rfl hb).2)
  have D0:Dsk A n (hC (bP c7 H7) _) o (λi=>if i=0 then z0 else z1) (λi=>if i=0 then es1 else es2) 0 (bP c7 H7) _ [] :=
   ⟨λb v _ hb=>O7 hb,dk7.step (i:=1) (by decide) S2,mv 0,λj hj=>absurd hj (Nat.not_lt_zero j)⟩
  generalize ag (ag (ag H7 t0 (.tup [V.str z0,.ref L1])) t1 (.tup [V.str z1,.ref Lk])) B (.lst [V.ref t0,.ref t1])=H8 at D0 fB f0 f1 s5b ⊢;generalize hC (bP c7 H7) H8=Hb at D0 fB f0 f1 s5b;generalize bP c7 H7=c8 at D0;clear q1 q2 q3 ht0 ht1 hB n1' nB' s78 S2 dk7 k7 s57 hW7;have fct:∀i,i < 2->([V.ref t0,V.ref t1]:List V)[i]?=some (.ref (if i=0 then t0 else t1))/\Hb (if i=0 then t0 else t1)=some (.tup [V.str (if i=0 then z0 else z1),.ref (if i=0 then L1 else Lk)])/\Hb (if i=0 then L1 else Lk)=some (.lst (((if i=0 then es1 else es2).map R.cG).map V.str))/\R.cL (if i=0 then z0 else z1)=true/\(∃st,Rep n (if i=0 then es1 else es2) st)/\(if i=0 then es1 else es2).length<=30/\∀j,j < i->(if j=0 then z0 else z1)≠(if i=0 then z0 else z1):=by
   intro i hi;have hi2:i=0\/i=1:=by omega
   rcases hi2 with rfl | rfl
   ·exact⟨rfl,f0,s5b _ _ wk1.h1,m0,⟨_,wk1.rep⟩,e1,λj hj=>absurd hj (Nat.not_lt_zero j)⟩
   refine⟨rfl,f1,s5b _ _ wk2.h1,m1,⟨_,wk2.rep⟩,e2,λj hj=>?_⟩
   obtain rfl:j=0:=by omega
   exact z01
  refine qU (K:=K) (a:=B) (xs:=[V.ref t0,V.ref t1]) (λi σ Hj=>∃(v9 v10 v11 v12:Option V),σ=[some (.ref a),some (.int n),some (.ref W),some (.ref L),some (.ref L1),some (.ref M1),some (.ref Lk),some (.ref M2),some (.ref o),v9,v10,v11,v12,none]/\∃(c:a6) (kvs:List (Key×V)),Dsk A n Hb o (λi=>if i=0 then z0 else z1) (λi=>if i=0 then es1 else es2) i c Hj kvs)
   ⟨_,_,_,_,rfl,c8,_,D0⟩ (λi σ Hj _ ⟨_,_,_,_,_,_,_,D⟩=>ay.of (D.sm _ _ fB)) ?_ (λσ Hj ⟨v9,v10,v11,v12,e,c,kvs,D⟩=>nN _ _ ⟨v9,v10,v11,v12,e,Hb,c,kvs,s5b,D⟩)
  rintro i y σ Hj N hy hp0 nN;refine aS λGq gq=>?_
  obtain⟨v9,v10,v11,v12,rfl,c,kvs,D⟩:=hp0;have hi:i < 2:=(List.getElem?_eq_some_iff.mp hy).1;obtain⟨g1,g2,g3,g4,⟨st,g5⟩,g6,g7⟩:=fct i hi;rw[g1]at hy;obtain rfl:=US hy;clear g1 hy fct;have g2:=D.sm _ _ g2;have g3:=D.sm _ _ g3;refine gq ?_;generalize ezi:(if i=0 then z0 else z1)=zi at g2 g4 g7
  generalize eei:(if i=0 then es1 else es2)=ei at g3 g5 g6
  generalize (if i=0 then L1 else Lk)=Li at g2 g3
  generalize (if i=0 then t0 else t1)=ti at g2 ⊢
  refine aS λGh hGh=>?_
  obtain⟨y1,y2,y3,y4⟩:=F2 g4 n1 n2;have yz:=jS g4;have ys5:(ar "read ").length=5:=by trivial
  have ys1:(ar " ").length=1:=by trivial
  have e10:(10:Int) ^ 10=10000000000:=by decide
  refine hGh ?_;refine⟨ti,_,rfl,aW.of g2,rfl,_,_,rfl,_,_,rfl,rfl,?_⟩;refine jQ (λv H'=>v=.str (rdT zi n [])/\Hj=H') ?_ (λN nN=>⟨_,rfl,_,_,rfl,rfl,by omega,_,_,rfl,rfl,by omega,_,rfl,n,rfl,R.nO (by omega) (by rw[e10];omega),_,_,rfl,rfl,(by show _+(R.num n).length<=_;omega),nN _ _ ⟨rfl,rfl⟩⟩)
  rintro _ _ ⟨rfl,rfl⟩;refine dG (λσ Hk=>(∃(v12:Option V),σ=[some (.ref a),some (.int n),some (.ref W),some (.ref L),some (.ref L1),some (.ref M1),some (.ref Lk),some (.ref M2),some (.ref o),some (.str zi),some (.ref Li),some (.str (rdT zi n ei)),v12,none])/\Hj=Hk/\(rdT zi n ei).length<=60+ei.length * 50001) ?r4 (λN nN=>?f4)
  case f4 =>
   have S3:∀d∈ei,(R.cG d).length<=50000:=λd hd=>Cr (g5.ok d hd).2.1
   refine⟨_,rfl,Li,rfl,⟨_,ay.of g3⟩,?_⟩;refine qU (K:=K) (a:=Li) (xs:=(ei.map R.cG).map V.str) (λk σ Hk=>(∃(v12:Option V),σ=[some (.ref a),some (.int n),some (.ref W),some (.ref L),some (.ref L1),some (.ref M1),some (.ref Lk),some (.ref M2),some (.ref o),some (.str zi),some (.ref Li),some (.str (rdT zi n (ei.take k))),v12,none])/\Hj=Hk/\(rdT zi n (ei.take k)).length<=60+k * 50001)
    ⟨⟨_,rfl⟩,rfl,by rw[List.take_zero];show (ar "read "++zi++ar " "++R.num n).length<=_;omega⟩ (λk σ Hk _ ⟨_,e,_⟩=>by rw[<-e];exact ay.of g3) ?_ (λσ Hk h=>nN _ _ (by rw[bo,bo,Vs]at h;exact h))
   rintro k x σ Hk N hx ⟨⟨v,rfl⟩,rfl,tl⟩ nN;rw[sr,sr]at hx;cases hk:ei[k]? with
   |none=>rw[hk]at hx;cases hx
   |some d =>
    rw[hk]at hx;obtain rfl:V.str (R.cG d)=x:=US hx;have kl:k < ei.length:=(List.getElem?_eq_some_iff.mp hk).1;have dl:=S3 d (U2 hk);have et:rdT zi n (ei.take (k+1))=rdT zi n (ei.take k)++nl1++R.cG d:=by
     unfold rdT;rw[join_snoc,VJ,hk,kt];rfl
    rw[et]at nN;generalize rdT zi n (ei.take k)=tx at tl nN ⊢;have a1:=len_app tx nl1;have a2:=len_app (tx++nl1) (R.cG d);have nl:nl1.length=1:=by trivial
    exact⟨_,rfl,_,_,rfl,rfl,(by show _+nl1.length<=_;omega),_,rfl,_,_,rfl,rfl,(by show (tx++nl1).length+_<=_;omega),nN _ _ ⟨⟨_,rfl⟩,rfl,by omega⟩⟩
  case r4 =>
  rintro _ _ ⟨⟨v,rfl⟩,rfl,tl⟩;refine aS λGi hGi=>?_
  obtain⟨co,dx,D',ho,cD,hD⟩:=D.dk;refine hGi ?_;exact⟨_,rfl,o,dx,_,rfl,ho,rfl,_,rfl,qV (D.OK (E:=E0) hi ezi eei n1 n2 g4 g5 g6 tl g7 λc' H' Rn D'=>⟨rfl,a4 (by trivial) (nN _ _ ⟨_,_,_,_,rfl,c',Rn,D'⟩)⟩)⟩
 case r3 =>
 rintro _ Hj hp0;refine aS λGj hGj=>?_
 obtain⟨v9,v10,v11,v12,rfl,Hb,c,kvs,s5b,D⟩:=hp0;have fWj:=D.sm _ _ (s5b _ _ hW5);have l1:=jS m0;have l2:=jS m1;have ys5:(ar "part ").length=5:=by trivial
 have ys1:(ar " ").length=1:=by trivial
 refine hGj ?_
 replace wk1:=(wk1.same s5b).same D.sm
 replace wk2:=(wk2.same s5b).same D.sm
 refine jQ (λv H'=>∃z,v=.str z/\Hj=H'/\mQ n es1 es2 z) ?_ (λN nN=>⟨_,rfl,_,rfl,M1,M2,w1,w2,fT n es1,fT n es2,rfl,ay.of wk1.h2,ay.of wk2.h2,wk1.lk,wk2.lk,wk1.sh,wk2.sh,by rw[mS];omega,by rw[mS];omega,λz hz=>nN _ _ ⟨z,rfl,rfl,MU hz⟩⟩)
 rintro _ _ ⟨z,rfl,rfl,du⟩;refine dG (λσ Hk=>σ=[some (.ref a),some (.int n),some (.ref W),some (.ref L),some (.ref L1),some (.ref M1),some (.ref Lk),some (.ref M2),some (.ref o),v9,v10,v11,v12,some (.str z)]/\bh Hj Hk) ?r5 (λN nN=>?f5)
 case f5 =>
  refine aS λGk hGk=>?_
  obtain⟨co,dx,D',ho,cD,hD⟩:=D.dk;obtain⟨y1,y2,y3⟩:=Ar m0 m1;refine hGk ?_;refine⟨_,rfl,o,dx,_,rfl,ho,rfl,_,rfl,W,(_),_,.str z0,rfl,rfl,ay.of fWj,R.cK,_,_,rfl,rfl,by omega,_,_,rfl,rfl,by omega,_,rfl,W,(_),_,.str z1,rfl,rfl,ay.of fWj,R.ig,_,_,rfl,rfl,by omega,qV (D.part (E:=E0) (i:=0) (j:=1) (by decide) (by decide) rfl rfl m0 m1 wk1.rep wk2.rep e1 e2 wk1.se wk2.se λz' H' du' s'=>?_)⟩
  obtain rfl:=mQ.one du du';exact⟨_,rfl,rfl,a4 (by simp) (nN _ _ ⟨rfl,s'⟩)⟩
 case r5 =>
 rintro _ Hk ⟨rfl,s'⟩
 replace D:=D.same s'
 refine aS λGl hGl=>?_
 have fWk:=s' _ _ fWj;obtain⟨co,dx,D',ho,cD,hD⟩:=D.dk;obtain⟨y1,y2,y3⟩:=Ar m1 m0;refine hGl ?_;refine⟨_,rfl,o,dx,_,rfl,ho,rfl,_,rfl,W,(_),_,.str z1,rfl,rfl,ay.of fWk,R.ig,_,_,rfl,rfl,by omega,_,_,rfl,rfl,by omega,_,rfl,W,(_),_,.str z0,rfl,rfl,ay.of fWk,R.cK,_,_,rfl,rfl,by omega,qV (D.part (E:=E0) (i:=1) (j:=0) (by decide) (by decide) rfl rfl m1 m0 wk2.rep wk1.rep e2 e1 wk2.se wk1.se λz2 H2 du2 s2=>?_)⟩
 obtain rfl:=mQ.one du du2.sym;refine⟨_,rfl,rfl,?_⟩;show Q (V.bl (decide _)) H2;rw[bG rfl];exact q _
end _M
namespace _L
open PySem PySem.Spec PyProof.Rows
theorem UA {p:Nat->Prop}(h0:p 0)(h1:p 1)(h2:p 2)(h3:p 3)(h4:p 4)(h5:p 5)(h6:p 6)(h7:p 7):∀k,k < 8->p k
 | 0,_=>h0 | 1,_=>h1 | 2,_=>h2 | 3,_=>h3 | 4,_=>h4 | 5,_=>h5 | 6,_=>h6 | 7,_=>h7 | n+8,h=>absurd h (by omega)
theorem three {p:Nat->Prop}(a:p 4)(b:p 5)(c:p 6):∀k,k=4\/k=5\/k=6->p k
 |_,.inl rfl=>a | _,.inr (.inl rfl)=>b | _,.inr (.inr rfl)=>c
section
variable{K:de}{fd:gr}{a b c:Str}
theorem bd0 (h:bindArgs fd ⟨[],[]⟩=pure []):bJ K fd [] []:=.all λus hl=>match us,hl with | [],_=>h
theorem bd1 (h:∀u,bindArgs fd ⟨[u],[]⟩=pure [(a,u)]):bJ K fd [a] []:=.all λus hl=>match us,hl with | [u],_=>h u
theorem bd2 (h:∀u v,bindArgs fd ⟨[u,v],[]⟩=pure [(a,u),(b,v)]):bJ K fd [a,b] []:=.all λus hl=>match us,hl with | [u,v],_=>h u v
theorem bd4 {d:Str}(h:∀u v w x,bindArgs fd ⟨[u,v,w,x],[]⟩=pure [(a,u),(b,v),(c,w),(d,x)]):bJ K fd [a,b,c,d] []:=.all λus hl=>match us,hl with | [u,v,w,x],_=>h u v w x
theorem bd3 (h:∀u v w,bindArgs fd ⟨[u,v,w],[]⟩=pure [(a,u),(b,v),(c,w)]):bJ K fd [a,b,c] []:=.all λus hl=>match us,hl with | [u,v,w],_=>h u v w
theorem S4 {C:Addr}(h:Vp K (.ref C) a=some none):dO K C a:=h
theorem Rp {P:Params}{t:Addr}{es:Array DictEntry}{n:Nat}(h:K.lookup t=some ⟨.type "dict",none,.dict es n,#[]⟩)(k:PySem.W.KeysLit P es.toList):PN P K t:=⟨_,_,h,k⟩
end
theorem J9 {K:de}{o:Addr}{d:Option Addr}{n:Nat}{s:Array (Option Value)}{t0 t1 t2 t3:Tok}(h:K.lookup o=some ⟨.type "tuple",d,.seq #[.str (ar "close") t0,.str (ar "lay") t1,.str (ar "rest") t2,.str (ar "drop") t3] n,s⟩):∀H,aW K H o [.str (ar "close"),.str (ar "lay"),.str (ar "rest"),.str (ar "drop")]:=λ_=>.inr ⟨_,_,_,h,rfl,rfl,(by show 4<=fu;decide),(.cons ⟨_,rfl⟩ (.cons ⟨_,rfl⟩ (.cons ⟨_,rfl⟩ (.cons ⟨_,rfl⟩ .nil))))⟩
theorem As {K:de}{o:Addr}{d:Option Addr}{n:Nat}{s:Array (Option Value)}{t0 t1 t2:Tok}(h:K.lookup o=some ⟨.type "tuple",d,.seq #[.str (ar "order") t0,.str (ar "state") t1,.str (ar "minutes") t2] n,s⟩):∀H,aW K H o [.str (ar "order"),.str (ar "state"),.str (ar "minutes")]:=λ_=>.inr ⟨_,_,_,h,rfl,rfl,(by show 3<=fu;decide),(.cons ⟨_,rfl⟩ (.cons ⟨_,rfl⟩ (.cons ⟨_,rfl⟩ .nil)))⟩
theorem vR {K:de}{o:Addr}{d:Option Addr}{n:Nat}{s:Array (Option Value)}{t0 t1 t2:Tok}(h:K.lookup o=some ⟨.type "tuple",d,.seq #[.str (ar "open") t0,.str (ar "read") t1,.str (ar "text") t2] n,s⟩):∀H,aW K H o [.str (ar "open"),.str (ar "read"),.str (ar "text")]:=λ_=>.inr ⟨_,_,_,h,rfl,rfl,(by show 3<=fu;decide),(.cons ⟨_,rfl⟩ (.cons ⟨_,rfl⟩ (.cons ⟨_,rfl⟩ .nil)))⟩
end _L
namespace _M
open PySem _L
theorem fin {l:PySem.W.OpenLaw}{w:World}{K:de}{mg:Str->Option Value}{fa:Addr}{A:ba}(hfa:mg "law"=some (.ref fa))(T:Txt w.params K mg A):∃fd:gr,(∀(s:Shared) (v:Value),BindsTo s fd ⟨[v],[]⟩ [("_law_script",v)])/\∀base:Heap,K.In base->base.Ns mainGlobals mg->aC l.prog w K mg base a5 20 fa fd ["_law_script"] (Ji K):=by
 have e:=hfa.symm.trans T.Sb;cases e;exact⟨_,T.Se,λbase _ _=>Ro T.Sd T⟩
theorem walk {l:PySem.W.OpenLaw}{q:wt}{loose:List Str}{XP:(Str->Option Value)->Heap->Prop}{YP:World->Heap->Prop}{d:DefRec}{K:Params->de}(hn:l.most=some 63)(hdf:d.params.defaults=[])
  (hY:∀(w:World) (h:Heap),YP w h->(K w.params).In h)
  (F:∀(w:World) (mg:Str->Option Value) (fa:Addr) (h:Heap),(K w.params).In h->h.Ns mainGlobals mg->mg d.name=some (.ref fa) ->
   ∃fd:gr,(∀(s:Shared) (u:Value),BindsTo s fd ⟨[u],[]⟩ [("_law_script",u)])/\∀base:Heap,(K w.params).In base->base.Ns mainGlobals mg->aC l.prog w (K w.params) mg base a5 20 fa fd ["_law_script"] (Ji (K w.params))) :
  PySem.W.WalkO q loose XP YP l.row.toRowW d [] (λf vs=>PySem.call f vs) :=
 _L.Ni (n:=63) (k:=20) (x:="_law_script") (CX:=λ_=>a5) (sp:=λw=>Ji (K w.params)) hn (by decide) hdf ⟨rfl,by decide,by decide,rfl⟩ hY F (λ_ _ a ns hl _ hS=>⟨a,ns,rfl,hS,hl,λ_=>rfl⟩) λ_ _ _ _ _ z=>z
end _M
open PySem PySem.W PyProof.Rows
set_option maxRecDepth 100000 in
set_option maxHeartbeats 0 in
theorem PySem.Challenge.cw_moot_k37_whole_where_two_part_holds : PySem.Challenge.rw_moot_k37_whole_where_two_part.Holds := by
 w_on;refine hd ?_
 k_fill;refine _M.walk (l:=PySem.Challenge.rw_moot_k37_whole_where_two_part) rfl rfl (λw h Y=>PySem.W.kIn_of Y) ?F
 case F =>
  intro w mg fa h KX G hmg;refine' _M.fin (A:=.mk ..) hmg ?T
  case T =>
   apply _M.Txt.mk
   all_goals try refine _L.FnG.mk ?_ ?_ ?_
   all_goals try refine _L.UA ?_ ?_ ?_ ?_ ?_ ?_ ?_ ?_
   all_goals try refine _L.three ?_ ?_ ?_
   all_goals try (delta _M.ba.C _M.ba.fk _M.ba.fkd _M.ba.fn _M.ba.fnd _M.ba.ft _M.ba.ftd _M.nm;simp only)
   all_goals try dsimp only
   all_goals first
    | (apply PySem.W.mg_of KX G;k_is)
    | (apply PySem.W.mg_none_of KX G;k_is)
    | (apply _L.PH <;> k_is)
    |exact _L.bd0 rfl
    |exact _L.bd1 λ_=>rfl
    |exact _L.bd2 λ_ _=>rfl
    |exact _L.bd3 λ_ _ _=>rfl
    |exact _L.bd4 λ_ _ _ _=>rfl
    | (apply _L.S4;k_is)
    |exact⟨_,by k_is⟩
    | (apply _L.Rp;k_is;k_keys)
    | (apply _L.J9;k_is)
    | (apply _L.As;k_is)
    | (apply _L.vR;k_is)
    | (constructor <;> k_is)
    |exactλ_ _=>.of_eq rfl
