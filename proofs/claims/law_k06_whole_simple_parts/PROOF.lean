import PyProof.Rows.All
import Wide.All
import OpenK.AllK
import Wide.FinOn
import HandS.ForMost
import HandS.ForExc
import HandS.EndBits
import HandS.EndTab
import HandS.Lambda
import HandS.ExcInit
import HandS.ExcValue
import HandS.ExcIs
import HandS.IsInst
import PyProof.ReprLen
import PyProof.StrLawsRepr
import HandS.TryMany
import HandS.ExcField
import HandS.CallLocal
import HandS.Gcd
import HandS.Wide
import KE.DataEq
import HandS.SlotsOwn
import HandS.WordsExc
import HandS.Zip
import HandS.Style
import KE.GoesZip
import KE.GoesMore
import KE.GoesEnum
import HandS.TupAny
import HandS.TupMul
import HandS.WideBits
import HandS.Flow
import PySem.Challenge.RW_nearcurves_k06_whole_simple_parts
set_option Elab.async false
set_option linter.all false
theorem PySem.W.Fast.tw6955041579387639808 : True := trivial
theorem PySem.W.Fast.tw14059473840720736416 : True := trivial
theorem PySem.W.Fast.tw16676627541289073472 : True := trivial
theorem PySem.W.Fast.tw13495192679739650912 : True := trivial
theorem PySem.W.Fast.tw6067707842320407649 : True := trivial
theorem PySem.W.Fast.tw382061687853384897 : True := trivial
theorem PySem.W.Fast.tw12701325681853275393 : True := trivial
theorem PySem.W.Fast.tw13082860898871036193 : True := trivial
theorem PySem.W.Fast.tw10539172009265599809 : True := trivial
theorem PySem.W.Fast.tw9279401224578316673 : True := trivial
theorem PySem.W.Fast.tw16093314345127076449 : True := trivial
theorem PySem.W.Fast.tw8435679507661854401 : True := trivial
theorem PySem.W.Fast.tw4151855481554662305 : True := trivial
theorem PySem.W.Fast.tw12621329886660414433 : True := trivial
theorem PySem.W.Fast.tw7394056871363509250 : True := trivial
theorem PySem.W.Fast.tw5984921151731403874 : True := trivial
theorem PySem.W.Fast.tw17980695611727315074 : True := trivial
theorem PySem.W.Fast.tw12665518716652540066 : True := trivial
theorem PySem.W.Fast.tw16297500231805311138 : True := trivial
theorem PySem.W.Fast.tw14794467066584578242 : True := trivial
theorem PySem.W.Fast.tw10345250632911889698 : True := trivial
theorem PySem.W.Fast.tw7610534019991254338 : True := trivial
theorem PySem.W.Fast.tw11621497727732802914 : True := trivial
theorem PySem.W.Fast.tw6312239472333098338 : True := trivial
theorem PySem.W.Fast.tw6367845231909496194 : True := trivial
theorem PySem.W.Fast.tw10691902018488041922 : True := trivial
theorem PySem.W.Fast.tw3255265985861241378 : True := trivial
theorem PySem.W.Fast.tw8324427591162526434 : True := trivial
theorem PySem.W.Fast.tw13739140088847566626 : True := trivial
theorem PySem.W.Fast.tw18283887442135242722 : True := trivial
theorem PySem.W.Fast.tw9681554289881844706 : True := trivial
theorem PySem.W.Fast.tw11645401678140700771 : True := trivial
theorem PySem.W.Fast.tw12483613556871579811 : True := trivial
theorem PySem.W.Fast.tw7826801041194006787 : True := trivial
theorem PySem.W.Fast.tw15860863683571847459 : True := trivial
theorem PySem.W.Fast.tw7467664768622317859 : True := trivial
theorem PySem.W.Fast.tw408113968665036163 : True := trivial
theorem PySem.W.Fast.tw12636827899418238339 : True := trivial
theorem PySem.W.Fast.tw1482036431155765923 : True := trivial
theorem PySem.W.Fast.tw182429477214486211 : True := trivial
theorem PySem.W.Fast.tw16636865366174185251 : True := trivial
theorem PySem.W.Fast.tw6984059940072888131 : True := trivial
theorem PySem.W.Fast.tw18392039523565286243 : True := trivial
theorem PySem.W.Fast.tw7323788689431293859 : True := trivial
theorem PySem.W.Fast.tw17350364934037898244 : True := trivial
theorem PySem.W.Fast.tw3064123092462261444 : True := trivial
theorem PySem.W.Fast.tw2348172743586096420 : True := trivial
theorem PySem.W.Fast.tw9368797753269357892 : True := trivial
theorem PySem.W.Fast.tw9055921741025604996 : True := trivial
theorem PySem.W.Fast.tw5302312107905965508 : True := trivial
theorem PySem.W.Fast.tw16783384596279115268 : True := trivial
theorem PySem.W.Fast.tw447990654187537028 : True := trivial
theorem PySem.W.Fast.tw8613082824980222596 : True := trivial
theorem PySem.W.Fast.tw13626882014294110884 : True := trivial
theorem PySem.W.Fast.tw1750854761483486084 : True := trivial
theorem PySem.W.Fast.tw10712091642481054628 : True := trivial
theorem PySem.W.Fast.tw12065256139245364164 : True := trivial
theorem PySem.W.Fast.tw13436645142343673796 : True := trivial
theorem PySem.W.Fast.tw6375748421036122181 : True := trivial
theorem PySem.W.Fast.tw16276657065435832453 : True := trivial
theorem PySem.W.Fast.tw16864962249517304101 : True := trivial
theorem PySem.W.Fast.tw15779427583372220709 : True := trivial
theorem PySem.W.Fast.tw18312759267777357125 : True := trivial
theorem PySem.W.Fast.tw9551558012293816741 : True := trivial
theorem PySem.W.Fast.tw18110310773757080037 : True := trivial
theorem PySem.W.Fast.tw17306197810069089861 : True := trivial
theorem PySem.W.Fast.tw1095182865630172965 : True := trivial
theorem PySem.W.Fast.tw11876036182570959717 : True := trivial
theorem PySem.W.Fast.tw4539223212455907173 : True := trivial
theorem PySem.W.Fast.tw16692673891559321509 : True := trivial
theorem PySem.W.Fast.tw4703212497202039781 : True := trivial
theorem PySem.W.Fast.tw6024745675547021318 : True := trivial
theorem PySem.W.Fast.tw10638201340469444710 : True := trivial
theorem PySem.W.Fast.tw1625405041807099142 : True := trivial
theorem PySem.W.Fast.tw11158343399173839110 : True := trivial
theorem PySem.W.Fast.tw1339436390031406374 : True := trivial
theorem PySem.W.Fast.tw8892083366475972934 : True := trivial
theorem PySem.W.Fast.tw13938227544500704646 : True := trivial
theorem PySem.W.Fast.tw11989686101184172486 : True := trivial
theorem PySem.W.Fast.tw13307918106664310214 : True := trivial
theorem PySem.W.Fast.tw3695175781961341414 : True := trivial
theorem PySem.W.Fast.tw8820128770097189478 : True := trivial
theorem PySem.W.Fast.tw15575614817260502758 : True := trivial
theorem PySem.W.Fast.tw1230255616775512806 : True := trivial
theorem PySem.W.Fast.tw908855962488149830 : True := trivial
theorem PySem.W.Fast.tw8407907070996086598 : True := trivial
theorem PySem.W.Fast.tw6723332778885868486 : True := trivial
theorem PySem.W.Fast.tw13220770696179268550 : True := trivial
theorem PySem.W.Fast.tw7464170104820051942 : True := trivial
theorem PySem.W.Fast.tw16569965339154379911 : True := trivial
theorem PySem.W.Fast.tw18142292500000561511 : True := trivial
theorem PySem.W.Fast.tw8395929379142901223 : True := trivial
theorem PySem.W.Fast.tw10822433059616771559 : True := trivial
theorem PySem.W.Fast.tw3867458718383773223 : True := trivial
theorem PySem.W.Fast.tw17978426355996343943 : True := trivial
theorem PySem.W.Fast.tw3141102366963221159 : True := trivial
theorem PySem.W.Fast.tw13924513023861265127 : True := trivial
theorem PySem.W.Fast.tw13889672270891192071 : True := trivial
theorem PySem.W.Fast.tw10098389727391996743 : True := trivial
theorem PySem.W.Fast.tw7838345069348122471 : True := trivial
theorem PySem.W.Fast.tw7581126292684438375 : True := trivial
theorem PySem.W.Fast.tw4688985189932660840 : True := trivial
theorem PySem.W.Fast.tw7251520175466911912 : True := trivial
theorem PySem.W.Fast.tw7884099030597733704 : True := trivial
theorem PySem.W.Fast.tw10017531385218092392 : True := trivial
theorem PySem.W.Fast.tw11831973615699504552 : True := trivial
theorem PySem.W.Fast.tw18228329042389479880 : True := trivial
theorem PySem.W.Fast.tw7441255979079549480 : True := trivial
theorem PySem.W.Fast.tw16128242367100353064 : True := trivial
theorem PySem.W.Fast.tw12721275684528795208 : True := trivial
theorem PySem.W.Fast.tw7773444196498906760 : True := trivial
theorem PySem.W.Fast.tw1432257744764261064 : True := trivial
theorem PySem.W.Fast.tw8721347896551152328 : True := trivial
theorem PySem.W.Fast.tw7798218310544015176 : True := trivial
theorem PySem.W.Fast.tw13093431530719321000 : True := trivial
theorem PySem.W.Fast.tw913649190202344457 : True := trivial
theorem PySem.W.Fast.tw12329374042565422153 : True := trivial
theorem PySem.W.Fast.tw15574667093542610057 : True := trivial
theorem PySem.W.Fast.tw17498464618297302185 : True := trivial
theorem PySem.W.Fast.tw10720891266446293257 : True := trivial
theorem PySem.W.Fast.tw5296092993266647337 : True := trivial
theorem PySem.W.Fast.tw4109009275013709097 : True := trivial
theorem PySem.W.Fast.tw4791360628399337769 : True := trivial
theorem PySem.W.Fast.tw12166752189889510857 : True := trivial
theorem PySem.W.Fast.tw9517831520560087593 : True := trivial
theorem PySem.W.Fast.tw891034283464996489 : True := trivial
theorem PySem.W.Fast.tw7917619293856195209 : True := trivial
theorem PySem.W.Fast.tw3332175495927707369 : True := trivial
theorem PySem.W.Fast.tw2602060003529875498 : True := trivial
theorem PySem.W.Fast.tw2817645094074186826 : True := trivial
theorem PySem.W.Fast.tw4669498392269218986 : True := trivial
theorem PySem.W.Fast.tw6805627574862176490 : True := trivial
theorem PySem.W.Fast.tw4723694464969794890 : True := trivial
theorem PySem.W.Fast.tw12563982510919948714 : True := trivial
theorem PySem.W.Fast.tw8894123176894017994 : True := trivial
theorem PySem.W.Fast.tw13514866953917617642 : True := trivial
theorem PySem.W.Fast.tw12205790317360105130 : True := trivial
theorem PySem.W.Fast.tw12016833666161073962 : True := trivial
theorem PySem.W.Fast.tw13046739964292117354 : True := trivial
theorem PySem.W.Fast.tw16462164302760785802 : True := trivial
theorem PySem.W.Fast.tw6316661350890039210 : True := trivial
theorem PySem.W.Fast.tw5737407736905342027 : True := trivial
theorem PySem.W.Fast.tw1898648031761603723 : True := trivial
theorem PySem.W.Fast.tw16528021387320577259 : True := trivial
theorem PySem.W.Fast.tw7479009239357193611 : True := trivial
theorem PySem.W.Fast.tw4715545555721620939 : True := trivial
theorem PySem.W.Fast.tw6549163423772267051 : True := trivial
theorem PySem.W.Fast.tw13896505322200203915 : True := trivial
theorem PySem.W.Fast.tw10431604417997607723 : True := trivial
theorem PySem.W.Fast.tw14370542041827996491 : True := trivial
theorem PySem.W.Fast.tw5389555319930878795 : True := trivial
theorem PySem.W.Fast.tw1587760438935886731 : True := trivial
theorem PySem.W.Fast.tw3511752260167564267 : True := trivial
theorem PySem.W.Fast.tw5966350315092300812 : True := trivial
theorem PySem.W.Fast.tw14705762324103845004 : True := trivial
theorem PySem.W.Fast.tw8368491908960714924 : True := trivial
theorem PySem.W.Fast.tw17091200341681749164 : True := trivial
theorem PySem.W.Fast.tw11979633192081866988 : True := trivial
theorem PySem.W.Fast.tw6618112789870624108 : True := trivial
theorem PySem.W.Fast.tw4620545945228199340 : True := trivial
theorem PySem.W.Fast.tw1811108332108344908 : True := trivial
theorem PySem.W.Fast.tw5546453071285685868 : True := trivial
theorem PySem.W.Fast.tw13977109815883347564 : True := trivial
theorem PySem.W.Fast.tw16800885040588436108 : True := trivial
theorem PySem.W.Fast.tw17744667787857631916 : True := trivial
theorem PySem.W.Fast.tw8225722198400589516 : True := trivial
theorem PySem.W.Fast.tw15041073179116298060 : True := trivial
theorem PySem.W.Fast.tw11646955860706177868 : True := trivial
theorem PySem.W.Fast.tw3727112624366212109 : True := trivial
theorem PySem.W.Fast.tw11927790063158396973 : True := trivial
theorem PySem.W.Fast.tw3638561281667780749 : True := trivial
theorem PySem.W.Fast.tw3691270526168166605 : True := trivial
theorem PySem.W.Fast.tw12127466820326227149 : True := trivial
theorem PySem.W.Fast.tw7146499974826732813 : True := trivial
theorem PySem.W.Fast.tw14561208894452995405 : True := trivial
theorem PySem.W.Fast.tw6585871871695665613 : True := trivial
theorem PySem.W.Fast.tw9048722088854576589 : True := trivial
theorem PySem.W.Fast.tw4746880028754948621 : True := trivial
theorem PySem.W.Fast.tw17674305179800487565 : True := trivial
theorem PySem.W.Fast.tw1922071920828620461 : True := trivial
theorem PySem.W.Fast.tw3681580262112276173 : True := trivial
theorem PySem.W.Fast.tw12226721576298337165 : True := trivial
theorem PySem.W.Fast.tw2927252222547569581 : True := trivial
theorem PySem.W.Fast.tw1826575476343039917 : True := trivial
theorem PySem.W.Fast.tw2475319066085164078 : True := trivial
theorem PySem.W.Fast.tw2250519045365811246 : True := trivial
theorem PySem.W.Fast.tw17739625069880878158 : True := trivial
theorem PySem.W.Fast.tw8422250265624780942 : True := trivial
theorem PySem.W.Fast.tw747609888422057262 : True := trivial
theorem PySem.W.Fast.tw1482991683327806798 : True := trivial
theorem PySem.W.Fast.tw4851932520451958382 : True := trivial
theorem PySem.W.Fast.tw1680386182958043790 : True := trivial
theorem PySem.W.Fast.tw10465443413268855630 : True := trivial
theorem PySem.W.Fast.tw5632652804164000847 : True := trivial
theorem PySem.W.Fast.tw8295496593733930063 : True := trivial
theorem PySem.W.Fast.tw16365023619580764431 : True := trivial
theorem PySem.W.Fast.tw15360053666113018127 : True := trivial
theorem PySem.W.Fast.tw396476824077394319 : True := trivial
theorem PySem.W.Fast.tw15598922697923737999 : True := trivial
theorem PySem.W.Fast.tw17302152675491651055 : True := trivial
theorem PySem.W.Fast.tw2019842205032867343 : True := trivial
theorem PySem.W.Fast.tw16338147320645186159 : True := trivial
theorem PySem.W.Fast.tw2510024642796770991 : True := trivial
theorem PySem.W.Fast.tw6959235312444593871 : True := trivial
theorem PySem.W.Fast.tw12899614406236949520 : True := trivial
theorem PySem.W.Fast.tw8649655698299595824 : True := trivial
theorem PySem.W.Fast.tw13937284724788957232 : True := trivial
theorem PySem.W.Fast.tw16871005070547678320 : True := trivial
theorem PySem.W.Fast.tw16667261369638813808 : True := trivial
theorem PySem.W.Fast.tw3574306265302511888 : True := trivial
theorem PySem.W.Fast.tw1551018840475670832 : True := trivial
theorem PySem.W.Fast.tw6213466673755614544 : True := trivial
theorem PySem.W.Fast.tw2958931863964745040 : True := trivial
theorem PySem.W.Fast.tw8222722163723541872 : True := trivial
theorem PySem.W.Fast.tw5412729071338538672 : True := trivial
theorem PySem.W.Fast.tw10218364476749289168 : True := trivial
theorem PySem.W.Fast.tw8628983510586509200 : True := trivial
theorem PySem.W.Fast.tw15906605649029406640 : True := trivial
theorem PySem.W.Fast.tw17907001872759485489 : True := trivial
theorem PySem.W.Fast.tw15821523940314121297 : True := trivial
theorem PySem.W.Fast.tw4057125029467038961 : True := trivial
theorem PySem.W.Fast.tw11628680078026149233 : True := trivial
theorem PySem.W.Fast.tw508789001822801393 : True := trivial
theorem PySem.W.Fast.tw3953528951700741649 : True := trivial
theorem PySem.W.Fast.tw13939508576117452433 : True := trivial
theorem PySem.W.Fast.tw12674588668532882225 : True := trivial
theorem PySem.W.Fast.tw5280108400762265457 : True := trivial
theorem PySem.W.Fast.tw16403562934179972977 : True := trivial
theorem PySem.W.Fast.tw3650439582255849490 : True := trivial
theorem PySem.W.Fast.tw5723764382890508402 : True := trivial
theorem PySem.W.Fast.tw10368770492121745554 : True := trivial
theorem PySem.W.Fast.tw14053166946294594706 : True := trivial
theorem PySem.W.Fast.tw8543181542924844274 : True := trivial
theorem PySem.W.Fast.tw9472014952987404594 : True := trivial
theorem PySem.W.Fast.tw6531460598567229810 : True := trivial
theorem PySem.W.Fast.tw15035578480093155826 : True := trivial
theorem PySem.W.Fast.tw18140155921273977586 : True := trivial
theorem PySem.W.Fast.tw7074381429774057266 : True := trivial
theorem PySem.W.Fast.tw10866884197269917522 : True := trivial
theorem PySem.W.Fast.tw995275415219143955 : True := trivial
theorem PySem.W.Fast.tw3216355443281219955 : True := trivial
theorem PySem.W.Fast.tw12264536124936168883 : True := trivial
theorem PySem.W.Fast.tw15337698353523354163 : True := trivial
theorem PySem.W.Fast.tw208486984621878995 : True := trivial
theorem PySem.W.Fast.tw5477603239394575059 : True := trivial
theorem PySem.W.Fast.tw13620530036810495731 : True := trivial
theorem PySem.W.Fast.tw7052837044491185939 : True := trivial
theorem PySem.W.Fast.tw45490425761244979 : True := trivial
theorem PySem.W.Fast.tw16197002955723752307 : True := trivial
theorem PySem.W.Fast.tw2408464327564661651 : True := trivial
theorem PySem.W.Fast.tw7869264715482121107 : True := trivial
theorem PySem.W.Fast.tw8562283446548050867 : True := trivial
theorem PySem.W.Fast.tw18134898553298132947 : True := trivial
theorem PySem.W.Fast.tw2484007507476318195 : True := trivial
theorem PySem.W.Fast.tw1945117246100552691 : True := trivial
theorem PySem.W.Fast.tw8870031156084496436 : True := trivial
theorem PySem.W.Fast.tw8870403259482141780 : True := trivial
theorem PySem.W.Fast.tw17178084384158970004 : True := trivial
theorem PySem.W.Fast.tw7493458507166757076 : True := trivial
theorem PySem.W.Fast.tw12388876995695619316 : True := trivial
theorem PySem.W.Fast.tw13771654977317176692 : True := trivial
theorem PySem.W.Fast.tw12839198262342883828 : True := trivial
theorem PySem.W.Fast.tw14043140537472945748 : True := trivial
theorem PySem.W.Fast.tw13491426652559141460 : True := trivial
theorem PySem.W.Fast.tw5363552103446907764 : True := trivial
theorem PySem.W.Fast.tw7730671692879172468 : True := trivial
theorem PySem.W.Fast.tw5005138661856324532 : True := trivial
theorem PySem.W.Fast.tw2682503583351756853 : True := trivial
theorem PySem.W.Fast.tw4440036535627821237 : True := trivial
theorem PySem.W.Fast.tw9180009453695081749 : True := trivial
theorem PySem.W.Fast.tw11209432335515658677 : True := trivial
theorem PySem.W.Fast.tw2182138051348291157 : True := trivial
theorem PySem.W.Fast.tw11737693994790350485 : True := trivial
theorem PySem.W.Fast.tw14691360015378592501 : True := trivial
theorem PySem.W.Fast.tw3880984998605140885 : True := trivial
theorem PySem.W.Fast.tw16671449749195912117 : True := trivial
theorem PySem.W.Fast.tw3039619852179563477 : True := trivial
theorem PySem.W.Fast.tw9934305488938591189 : True := trivial
theorem PySem.W.Fast.tw1980506202342209590 : True := trivial
theorem PySem.W.Fast.tw9012963302013411478 : True := trivial
theorem PySem.W.Fast.tw16729259688135137462 : True := trivial
theorem PySem.W.Fast.tw11219242415162796502 : True := trivial
theorem PySem.W.Fast.tw13183847679843157494 : True := trivial
theorem PySem.W.Fast.tw15864988132079254038 : True := trivial
theorem PySem.W.Fast.tw6955286346695686678 : True := trivial
theorem PySem.W.Fast.tw14245830604733983446 : True := trivial
theorem PySem.W.Fast.tw14307987339442376406 : True := trivial
theorem PySem.W.Fast.tw4631211899472247510 : True := trivial
theorem PySem.W.Fast.tw4318817346876266294 : True := trivial
theorem PySem.W.Fast.tw10648638296703497014 : True := trivial
theorem PySem.W.Fast.tw5685385963714316118 : True := trivial
theorem PySem.W.Fast.tw1066638102294970198 : True := trivial
theorem PySem.W.Fast.tw9114950619614568310 : True := trivial
theorem PySem.W.Fast.tw9142618212530995126 : True := trivial
theorem PySem.W.Fast.tw1703967064934937783 : True := trivial
theorem PySem.W.Fast.tw6492302685977726199 : True := trivial
theorem PySem.W.Fast.tw1546146944495712503 : True := trivial
theorem PySem.W.Fast.tw7742646921604542839 : True := trivial
theorem PySem.W.Fast.tw346820039614862839 : True := trivial
theorem PySem.W.Fast.tw9977667515180927543 : True := trivial
theorem PySem.W.Fast.tw8816504611046533879 : True := trivial
theorem PySem.W.Fast.tw3836160726451436311 : True := trivial
theorem PySem.W.Fast.tw7390100330573935479 : True := trivial
theorem PySem.W.Fast.tw8302278162227001464 : True := trivial
theorem PySem.W.Fast.tw3926471710808166648 : True := trivial
theorem PySem.W.Fast.tw6796167961999281432 : True := trivial
theorem PySem.W.Fast.tw15229457772796116248 : True := trivial
theorem PySem.W.Fast.tw13507459976928778680 : True := trivial
theorem PySem.W.Fast.tw3304847326380748280 : True := trivial
theorem PySem.W.Fast.tw16225010912938512920 : True := trivial
theorem PySem.W.Fast.tw1641973408679718488 : True := trivial
theorem PySem.W.Fast.tw4379075078683058808 : True := trivial
theorem PySem.W.Fast.tw7753580924993815288 : True := trivial
theorem PySem.W.Fast.tw18007018048111500120 : True := trivial
theorem PySem.W.Fast.tw4689927334316145528 : True := trivial
theorem PySem.W.Fast.tw3024423218689695672 : True := trivial
theorem PySem.W.Fast.tw1336309524505925624 : True := trivial
theorem PySem.W.Fast.tw14848460094925023224 : True := trivial
theorem PySem.W.Fast.tw17076134610474372217 : True := trivial
theorem PySem.W.Fast.tw11855424935673138361 : True := trivial
theorem PySem.W.Fast.tw132048184152125657 : True := trivial
theorem PySem.W.Fast.tw11814001213406600505 : True := trivial
theorem PySem.W.Fast.tw4947838672372492729 : True := trivial
theorem PySem.W.Fast.tw883650874129806809 : True := trivial
theorem PySem.W.Fast.tw10476490832232768025 : True := trivial
theorem PySem.W.Fast.tw9375008887618542169 : True := trivial
theorem PySem.W.Fast.tw14852254860795510361 : True := trivial
theorem PySem.W.Fast.tw14632619681520430777 : True := trivial
theorem PySem.W.Fast.tw893201737802510426 : True := trivial
theorem PySem.W.Fast.tw3008266018689705178 : True := trivial
theorem PySem.W.Fast.tw10343439654708921818 : True := trivial
theorem PySem.W.Fast.tw9437405677509044826 : True := trivial
theorem PySem.W.Fast.tw990070707516979834 : True := trivial
theorem PySem.W.Fast.tw1293409164476657274 : True := trivial
theorem PySem.W.Fast.tw5408122396780140282 : True := trivial
theorem PySem.W.Fast.tw139748275893030714 : True := trivial
theorem PySem.W.Fast.tw3399985135387765594 : True := trivial
theorem PySem.W.Fast.tw7181619205985143706 : True := trivial
theorem PySem.W.Fast.tw4995337377080626138 : True := trivial
theorem PySem.W.Fast.tw7712623114845261786 : True := trivial
theorem PySem.W.Fast.tw2224335364661154778 : True := trivial
theorem PySem.W.Fast.tw4907857498943094907 : True := trivial
theorem PySem.W.Fast.tw12401377153600941179 : True := trivial
theorem PySem.W.Fast.tw16192602840769089819 : True := trivial
theorem PySem.W.Fast.tw8766679715765255451 : True := trivial
theorem PySem.W.Fast.tw7825376030367024475 : True := trivial
theorem PySem.W.Fast.tw3953733944903206235 : True := trivial
theorem PySem.W.Fast.tw1520508041317886299 : True := trivial
theorem PySem.W.Fast.tw12436194833484706171 : True := trivial
theorem PySem.W.Fast.tw5234675774638520731 : True := trivial
theorem PySem.W.Fast.tw1967184883223185851 : True := trivial
theorem PySem.W.Fast.tw7757291895888035291 : True := trivial
theorem PySem.W.Fast.tw1833878060487253563 : True := trivial
theorem PySem.W.Fast.tw10686090143429995067 : True := trivial
theorem PySem.W.Fast.tw2625913633377277499 : True := trivial
theorem PySem.W.Fast.tw5978523243344097883 : True := trivial
theorem PySem.W.Fast.tw2784622494550587003 : True := trivial
theorem PySem.W.Fast.tw10799215469699780283 : True := trivial
theorem PySem.W.Fast.tw2491498841633010427 : True := trivial
theorem PySem.W.Fast.tw11532684443289866011 : True := trivial
theorem PySem.W.Fast.tw16088756816879873883 : True := trivial
theorem PySem.W.Fast.tw14402449418104085499 : True := trivial
theorem PySem.W.Fast.tw6782249657170839547 : True := trivial
theorem PySem.W.Fast.tw8451109762100868188 : True := trivial
theorem PySem.W.Fast.tw10270995548375785564 : True := trivial
theorem PySem.W.Fast.tw2913827129778935932 : True := trivial
theorem PySem.W.Fast.tw13631523049307277628 : True := trivial
theorem PySem.W.Fast.tw12260819714062900572 : True := trivial
theorem PySem.W.Fast.tw9601188190761352572 : True := trivial
theorem PySem.W.Fast.tw9471552011760322140 : True := trivial
theorem PySem.W.Fast.tw10780909565265013340 : True := trivial
theorem PySem.W.Fast.tw10396490995517401852 : True := trivial
theorem PySem.W.Fast.tw4893995696353243165 : True := trivial
theorem PySem.W.Fast.tw10673079482291033149 : True := trivial
theorem PySem.W.Fast.tw14241220482921300061 : True := trivial
theorem PySem.W.Fast.tw15147896892316670237 : True := trivial
theorem PySem.W.Fast.tw16345185814483063293 : True := trivial
theorem PySem.W.Fast.tw9277198629160988157 : True := trivial
theorem PySem.W.Fast.tw5158936664979685085 : True := trivial
theorem PySem.W.Fast.tw14962025481974191869 : True := trivial
theorem PySem.W.Fast.tw10054304014506628861 : True := trivial
theorem PySem.W.Fast.tw7358958216798106493 : True := trivial
theorem PySem.W.Fast.tw4506188305055812541 : True := trivial
theorem PySem.W.Fast.tw2332207222200750013 : True := trivial
theorem PySem.W.Fast.tw10215440785644104669 : True := trivial
theorem PySem.W.Fast.tw4457110716562651133 : True := trivial
theorem PySem.W.Fast.tw18061322980150828029 : True := trivial
theorem PySem.W.Fast.tw5096258019120324638 : True := trivial
theorem PySem.W.Fast.tw11563454265820282974 : True := trivial
theorem PySem.W.Fast.tw11242867792186024030 : True := trivial
theorem PySem.W.Fast.tw2603634404960725182 : True := trivial
theorem PySem.W.Fast.tw8691445043047427294 : True := trivial
theorem PySem.W.Fast.tw13801779228864938462 : True := trivial
theorem PySem.W.Fast.tw13048482961756742238 : True := trivial
theorem PySem.W.Fast.tw8937532596446346910 : True := trivial
theorem PySem.W.Fast.tw14529305273372540766 : True := trivial
theorem PySem.W.Fast.tw357294137884259198 : True := trivial
theorem PySem.W.Fast.tw1110970963017327582 : True := trivial
theorem PySem.W.Fast.tw5136270407389222910 : True := trivial
theorem PySem.W.Fast.tw6780320420427260959 : True := trivial
theorem PySem.W.Fast.tw14290779659123726463 : True := trivial
theorem PySem.W.Fast.tw5684289942984290495 : True := trivial
theorem PySem.W.Fast.tw10319243735956068607 : True := trivial
theorem PySem.W.Fast.tw10277444811594825055 : True := trivial
theorem PySem.W.Fast.tw15559351058948200831 : True := trivial
theorem PySem.W.Fast.tw12835795583333022207 : True := trivial
theorem PySem.W.Fast.tw11952344590938479135 : True := trivial
theorem PySem.W.Fast.tw12349819872137403935 : True := trivial
theorem PySem.W.Fast.tw13493146156676088383 : True := trivial
theorem PySem.W.Fast.tw3807277563728659455 : True := trivial
open PySem PySem.W PyProof.Rows in
set_option maxRecDepth 100000 in
set_option maxHeartbeats 0 in
open_top top_k06 for PySem.Challenge.rw_nearcurves_k06_whole_simple_parts
set_option maxRecDepth 100000
set_option maxHeartbeats 4000000
namespace Vf
open PySem PySem.Spec PyProof.Rows L2
/-- a key as data -/
def kD : Key → PyData
  | .inl i => .int i
  | .inr x => .str x
mutual
/-- the value v, read in H, is the data d (dicts too) -/
inductive Dt (K : PySem.W.Frag) (H : Hp) : V → PyData → Prop
  | non : Dt K H .non .none
  | bl (b : Bool) : Dt K H (.bl b) (.bool b)
  | int (i : Int) : Dt K H (.int i) (.int i)
  | str (x : Str) : Dt K H (.str x) (.str x)
  | lst {a : Addr} {vs : List V} {ds : List PyData} : SqL K H a vs → Dts K H vs ds → Dt K H (.ref a) (.list ds)
  | tup {a : Addr} {vs : List V} {ds : List PyData} : SqT K H a vs → Dts K H vs ds → Dt K H (.ref a) (.tuple ds)
  | dct {a : Addr} {kvs : List (Key × V)} {ds : List PyData} : H a = some (.dK kvs) → Dts K H (kvs.map (·.2)) ds → Dt K H (.ref a) (.dict ((kvs.map fun p => kD p.1).zip ds))
inductive Dts (K : PySem.W.Frag) (H : Hp) : List V → List PyData → Prop
  | nil : Dts K H [] []
  | cons {v : V} {vs : List V} {d : PyData} {ds : List PyData} : Dt K H v d → Dts K H vs ds → Dts K H (v :: vs) (d :: ds)
end
theorem Dts.len {K : PySem.W.Frag} {H : Hp} : ∀ {vs : List V} {ds : List PyData}, Dts K H vs ds → vs.length = ds.length
  | _, _, .nil => rfl
  | _, _, .cons _ t => congrArg (· + 1) t.len
theorem Dts.at {K : PySem.W.Frag} {H : Hp} : ∀ {vs : List V} {ds : List PyData} {i : Nat} {v : V}, Dts K H vs ds → vs[i]? = some v → ∃ d, ds[i]? = some d ∧ Dt K H v d
  | _, _, _, _, .nil, e => by simp at e
  | _, _, 0, _, .cons h _, e => by simp at e; subst e; exact ⟨_, rfl, h⟩
  | _, _, i + 1, v, .cons _ t, e => by
    obtain ⟨d, h1, h2⟩ := t.at (i := i) (v := v) (by simpa using e)
    exact ⟨d, by simpa using h1, h2⟩
theorem Dts.app {K : PySem.W.Frag} {H : Hp} : ∀ {vs ws : List V} {ds es : List PyData}, Dts K H vs ds → Dts K H ws es → Dts K H (vs ++ ws) (ds ++ es)
  | _, _, _, _, .nil, h => h
  | _, _, _, _, .cons a t, h => .cons a (t.app h)
theorem Dts.take {K : PySem.W.Frag} {H : Hp} : ∀ {vs : List V} {ds : List PyData} (n : Nat), Dts K H vs ds → Dts K H (vs.take n) (ds.take n)
  | _, _, 0, _ => .nil
  | _, _, _ + 1, .nil => .nil
  | _, _, n + 1, .cons a t => .cons a (t.take n)
/-- all that is tracked in H stands in H' -/
theorem same_sqL {K : PySem.W.Frag} {H H' : Hp} {a : Addr} {xs : List V} (e : Same H H') (h : SqL K H a xs) : SqL K H' a xs := e.seq h
theorem same_sqT {K : PySem.W.Frag} {H H' : Hp} {a : Addr} {xs : List V} (e : Same H H') (h : SqT K H a xs) : SqT K H' a xs := by
  rcases h with (h | ⟨o, h⟩) | h
  · exact Or.inl (Or.inl (e a _ h))
  · exact Or.inl (Or.inr ⟨o, e a _ h⟩)
  · exact Or.inr h
mutual
theorem Dt.mono {K : PySem.W.Frag} {H H' : Hp} (e : Same H H') : ∀ {v : V} {d : PyData}, Dt K H v d → Dt K H' v d
  | _, _, .non => .non
  | _, _, .bl b => .bl b
  | _, _, .int i => .int i
  | _, _, .str x => .str x
  | _, _, .lst h1 h2 => .lst (same_sqL e h1) (Dts.mono e h2)
  | _, _, .tup h1 h2 => .tup (same_sqT e h1) (Dts.mono e h2)
  | _, _, .dct h1 h2 => .dct (e _ _ h1) (Dts.mono e h2)
theorem Dts.mono {K : PySem.W.Frag} {H H' : Hp} (e : Same H H') : ∀ {vs : List V} {ds : List PyData}, Dts K H vs ds → Dts K H' vs ds
  | _, _, .nil => .nil
  | _, _, .cons h1 h2 => .cons (Dt.mono e h1) (Dts.mono e h2)
end
/-- the dict of modules stands in the base -/
def M1 (b : Heap) : Prop := ∃ o es ep, b.get? sysModules = some o ∧ o.data = .dict es ep
theorem key_reads {h : Heap} {P : Program} {w : World} : ∀ {es : List DictEntry} {vs : List (Key × Value)} {ps : List (Key × V)}, PySem.Pairs (mixKind P w) es vs → KV ps vs →
    ReadsAll h (es.map (·.key)) (ps.map fun p => kD p.1) [] ∧ Vals (ps.map (·.2)) (es.map (·.val))
  | _, _, _, .nil, .nil => ⟨.nil, .nil⟩
  | _, _, _, .cons k1 k2 t, .cons r1 r2 => by
    obtain ⟨g1, g2⟩ := key_reads (h := h) t r2
    obtain ⟨e1, e2⟩ := r1
    refine ⟨?_, .cons (by have z := e2; rw [← k2] at z; exact z) g2⟩
    rw [← e1] at k1
    rename_i e kv es' kvs' p ps'
    have k3 : keyIs p.1 e.key = true := k1
    rcases keyIs_shape k3 with ⟨i, t, a1, a2⟩ | ⟨x, t, a1, a2⟩
    · have z : Reads h e.key (kD p.1) [] := by rw [a1, a2]; exact .int i t
      exact .cons (as := []) (bs := []) z g1
    · have z : Reads h e.key (kD p.1) [] := by rw [a1, a2]; exact .str x t
      exact .cons (as := []) (bs := []) z g1
theorem zip_fst {α β : Type} : ∀ {l : List α} {r : List β}, l.length = r.length → (l.zip r).map (·.1) = l
  | [], _, _ => by simp
  | a :: l, [], h => by simp at h
  | a :: l, b :: r, h => by
    rw [List.zip_cons_cons, List.map_cons, zip_fst (by simpa using h)]
theorem zip_snd {α β : Type} : ∀ {l : List α} {r : List β}, l.length = r.length → (l.zip r).map (·.2) = r
  | [], [], _ => rfl
  | [], b :: r, h => by simp at h
  | a :: l, [], h => by simp at h
  | a :: l, b :: r, h => by
    rw [List.zip_cons_cons, List.map_cons, zip_snd (by simpa using h)]
section
variable {X : Cx} {pins : List (Addr × Obj)} {σ : L2.St} {H : Hp} {s : Shared}
theorem not_sys (I : Inv X pins σ H s) (m : M1 X.base) {a : Addr} {o : Obj} {vs : Array Value} {n : Nat} (e : s.heap.get? a = some o) (d : o.data = .seq vs n) : sysModules ≠ a := fun z => by
  obtain ⟨o1, es, ep, e1, e2⟩ := m
  have q := I.bk _ _ e1
  rw [z, e] at q
  cases q
  rw [d] at e2
  cases e2
mutual
theorem Dt.reads (I : Inv X pins σ H s) (m : M1 X.base) : ∀ {v : V} {d : PyData} {u : Value}, Dt X.K H v d → RelV v u → ∃ as, Reads s.heap u d as ∧ sysModules ∉ as
  | _, _, u, .non, r => by
    obtain rfl : u = Value.none := r
    exact ⟨[], .none, by simp⟩
  | _, _, u, .bl b, r => by
    obtain rfl : u = Value.bool b := r
    exact ⟨[], .bool b, by simp⟩
  | _, _, u, .int i, r => by
    obtain ⟨t, rfl⟩ := r
    exact ⟨[], .int i t, by simp⟩
  | _, _, u, .str x, r => by
    obtain ⟨t, rfl⟩ := r
    exact ⟨[], .str x t, by simp⟩
  | _, _, u, .lst (a := a) h1 h2, r => by
    obtain rfl : u = Value.ref a := r
    obtain ⟨its, rv, ⟨o, n, e1, e2, e3, e4⟩, hz⟩ := I.list h1
    obtain ⟨as, ra, na⟩ := Dts.reads I m h2 rv
    refine ⟨_, .list e1 e2 e4 (by simpa using ra), fun z => ?_⟩
    rcases List.mem_cons.mp z with z | z
    · exact not_sys I m e1 e4 z
    · exact na z
  | _, _, u, .tup (a := a) h1 h2, r => by
    obtain rfl : u = Value.ref a := r
    obtain ⟨its, rv, ⟨o, e1, e2, n, e4⟩, hz⟩ := I.tuple h1
    obtain ⟨as, ra, na⟩ := Dts.reads I m h2 rv
    exact ⟨_, .tuple e1 e2 e4 (by simpa using ra), na⟩
  | _, _, u, .dct (a := a) (kvs := ps) (ds := ds) h1 h2, r => by
    obtain rfl : u = Value.ref a := r
    obtain ⟨hz, hs, vs, kv, o, es, ep, e1, ex, e2, hk, hp, hn⟩ := dk_of I.hok h1
    obtain ⟨g1, g2⟩ := key_reads (h := s.heap) hp kv
    obtain ⟨bs, rb, nb⟩ := Dts.reads I m h2 g2
    have hl : (ps.map fun p => kD p.1).length = ds.length := by
      have z := h2.len
      rw [List.length_map] at z ⊢
      exact z
    refine ⟨a :: [] ++ bs, .dict e1 ex.1 e2 (by rw [zip_fst hl]; exact g1) (by rw [zip_snd hl]; exact rb), fun z => ?_⟩
    rcases List.mem_cons.mp z with z | z
    · rw [z] at hs
      simp at hs
    · exact nb z
theorem Dts.reads (I : Inv X pins σ H s) (m : M1 X.base) : ∀ {vs : List V} {ds : List PyData} {us : List Value}, Dts X.K H vs ds → Vals vs us → ∃ as, ReadsAll s.heap us ds as ∧ sysModules ∉ as
  | _, _, _, .nil, .nil => ⟨[], .nil, by simp⟩
  | _, _, _, .cons h1 h2, .cons r1 r2 => by
    obtain ⟨as, q1, n1⟩ := Dt.reads I m h1 r1
    obtain ⟨bs, q2, n2⟩ := Dts.reads I m h2 r2
    refine ⟨as ++ bs, .cons q1 q2, fun z => ?_⟩
    rcases List.mem_append.mp z with z | z
    · exact n1 z
    · exact n2 z
end
end
/-- the sizes of the parts of a text of data -/
def small : PyData → Prop := fun d => d.showable = true ∧ d.depth ≤ 64 ∧ d.shown.length ≤ sizeLine
structure FnG (P : Program) (w : World) (K : PySem.W.Frag) (mg : Str → Option Value) (base : Heap) (C : CXT) (k : Nat) (f : Addr) (fd : FuncData) (ps : List Str) (sp : Sp) : Prop where
  arity : ∀ vs H Q E, sp vs H Q E → vs.length = ps.length
  go : ∀ {A : Around} {out : List Env} {s : Shared} {H : Hp} {args : Args} {us : List Value} {vs : List V} {Q : VK} {E : XK}, A.guards = some [] → Room k A → Env0 P w K mg base A out s H → BindsTo s fd args (ps.zip us) →
    Vals vs us → sp vs H Q E → codeAny (model P w) A (.call (.ref f) args) (CR C out P w H s Q E) s
/-- what is tracked where the law is called: the script, the tables of code objects -/
structure Fit (P : Program) (w : World) (K : PySem.W.Frag) (h : Heap) (cs : List (Addr × Addr)) (a : Addr) (ns : List Int) (H : Hp) : Prop where
  tabs : ∀ p ∈ cs, H p.2 = some (.tbl #[])
  scr : SqL K H a (ns.map V.int)
  held : HOk P w H h
  only : ∀ b u, H b = some u → (b = a ∧ K.lookup a = none ∧ ∃ o xs, u = .frz o (.lst xs)) ∨ ((∃ p ∈ cs, b = p.2) ∧ u = .tbl #[])
def isTab (cs : List (Addr × Addr)) (b : Addr) : Bool := cs.any fun p => p.2 == b
theorem isTab_mem {cs : List (Addr × Addr)} {b : Addr} (h : isTab cs b = true) : ∃ p ∈ cs, b = p.2 := by
  obtain ⟨p, hp, e⟩ := List.any_eq_true.mp h
  exact ⟨p, hp, (beq_iff_eq.mp e).symm⟩
theorem isTab_of {cs : List (Addr × Addr)} {p : Addr × Addr} (h : p ∈ cs) : isTab cs p.2 = true := List.any_eq_true.mpr ⟨p, h, beq_self_eq_true _⟩
/-- the heap as it is told at the entry -/
def entryH (t : Bool) (o : Obj) (ns : List Int) (cs : List (Addr × Addr)) (a : Addr) : Hp := fun b =>
  if isTab cs b = true then some (.tbl #[]) else if t = true ∧ b = a then some (.frz o (.lst (ns.map V.int))) else none
theorem fit_ex {P : Program} {w : World} {K : PySem.W.Frag} {h : Heap} {cs : List (Addr × Addr)} {a : Addr} {vs : List Value} {ns : List Int} (hK : K.In h) (hT : ∀ p ∈ cs, h.get? p.2 = some { cls := .none, data := .fields #[] })
    (ha : h.get? a = some { cls := .type "list", data := .seq vs.toArray }) (hi : IntsAre vs ns) (hl : ns.length ≤ sizeLine) : ∃ H, Fit P w K h cs a ns H := by
  have rv := vals_ints hi
  have nt : isTab cs a = false := by
    cases e : isTab cs a with
    | false => rfl
    | true =>
      obtain ⟨p, hp, e2⟩ := isTab_mem e
      have q := hT p hp
      rw [← e2, ha] at q
      cases q
  have hl2 : (ns.map V.int).length ≤ sizeLine := by rw [List.length_map]; exact hl
  cases hk : K.lookup a with
  | some o =>
    have q := hK a o hk
    rw [ha] at q
    have q2 := Option.some.inj q
    refine ⟨entryH false { cls := .type "list", data := .seq vs.toArray } ns cs a, fun p hp => if_pos (isTab_of hp), ?_, fun b u e => ?_, fun b u e => ?_⟩
    · refine Or.inr ⟨o, vs.toArray, 0, hk, by rw [← q2], by rw [← q2], by rw [← q2], ?_, by simpa using rv⟩
      rw [List.size_toArray, hi.length]
      exact hl
    all_goals
      unfold entryH at e
      by_cases t : isTab cs b = true
      · rw [if_pos t] at e
        obtain ⟨p, hp, e2⟩ := isTab_mem t
        cases e
        first
          | (rw [e2]; exact hT p hp)
          | exact Or.inr ⟨⟨p, hp, e2⟩, rfl⟩
      · rw [if_neg t, if_neg (fun z => Bool.false_ne_true z.1)] at e
        cases e
  | none =>
    refine ⟨entryH true { cls := .type "list", data := .seq vs.toArray } ns cs a, fun p hp => if_pos (isTab_of hp), ?_, fun b u e => ?_, fun b u e => ?_⟩
    · refine Or.inl (Or.inr ⟨{ cls := .type "list", data := .seq vs.toArray }, ?_⟩)
      unfold entryH
      rw [if_neg (by rw [nt]; decide), if_pos ⟨rfl, rfl⟩]
    all_goals
      unfold entryH at e
      by_cases t : isTab cs b = true
      · rw [if_pos t] at e
        obtain ⟨p, hp, e2⟩ := isTab_mem t
        cases e
        first
          | (rw [e2]; exact hT p hp)
          | exact Or.inr ⟨⟨p, hp, e2⟩, rfl⟩
      · rw [if_neg t] at e
        by_cases ba : b = a
        · rw [if_pos ⟨rfl, ba⟩] at e
          cases e
          first
            | (rw [ba]; exact ⟨ha, hl2, vs, _, rv, ha⟩)
            | exact Or.inl ⟨ba, hk, _, _, rfl⟩
        · rw [if_neg (fun z => ba z.2)] at e
          cases e
/-- the law's call, from its promise where no guard stands -/
theorem law_enter {P : Program} {w : World} {K : PySem.W.Frag} {mg mb : Str → Option Value} {C : CXT} {k : Nat} {fa a : Addr} {cs : List (Addr × Addr)} {fd : FuncData} {x : Str} {sp : Sp} {s1 : Shared} {vs : List Value} {ns : List Int}
    (hK : K.In s1.heap) (hG : s1.heap.Ns mainGlobals mg) (hB : s1.heap.Ns builtinsNs mb) (hBB : ∀ x : Str, x ≠ "__name__" → mb x = bootBuiltins x) (hL : s1.heap.NoLimit) (hg : s1.gens = #[])
    (hT : ∀ p ∈ cs, s1.heap.get? p.2 = some { cls := .none, data := .fields #[] }) (nT : ∀ p ∈ cs, K.lookup p.2 = none) (hC : ∀ p ∈ cs, PySem.W.CodeHd s1.heap p.1 p.2)
    (hM : ∃ (bm : Addr) (ob : Obj), mg "__builtins__" = some (.ref bm) ∧ bm ≠ builtinsNs ∧ s1.heap.get? bm = some ob ∧ ob.cls = .type "module" ∧ ob.dict = some builtinsNs ∧ ob.data = .plain)
    (hs : M1 s1.heap) (ha : s1.heap.get? a = some { cls := .type "list", data := .seq vs.toArray }) (hi : IntsAre vs ns) (hl : ns.length ≤ sizeLine) (hr : Room k callerA)
    (F : ∀ b : Heap, K.In b → b.Ns mainGlobals mg → M1 b → (∀ p ∈ cs, LamX.TabB b mg p.1 p.2) → FnG P w K mg b C k fa fd [x] sp) (bind : ∀ (s : Shared) (u : Value), BindsTo s fd ⟨[u], []⟩ [(x, u)])
    (hsp : ∀ H : Hp, (∀ p ∈ cs, H p.2 = some (.tbl #[])) → SqL K H a (ns.map V.int) → sp [.ref a] H (fun v _ => v = .bl true) E0)
    (hE : ∀ H e s', C [] H s1 E0 e s' → False) :
    codeAny (model P w) callerA (.call (.ref fa) ⟨[.ref a], []⟩) (fun r s' => r = .ok (.ret (.bool true)) ∧ OldK s1.heap s'.heap ∧ s'.os = s1.os ∧ AllBare s'.gens) s1 := by
  obtain ⟨H, ft⟩ := fit_ex (P := P) (w := w) hK hT ha hi hl
  -- an object of neither kind is not tracked
  have un : ∀ {b : Addr} {o : Obj}, s1.heap.get? b = some o → (∀ us n, o.data ≠ .seq us n) → o.data ≠ .fields #[] → H b = none := by
    intro b o e n1 n2
    cases q : H b with
    | none => rfl
    | some u =>
      exfalso
      rcases ft.only b u q with ⟨z, _⟩ | ⟨⟨p, hp, z⟩, _⟩
      · rw [z, ha] at e
        cases e
        exact n1 _ _ rfl
      · rw [z, hT p hp] at e
        cases e
        exact n2 rfl
  have inB : ∀ {b : Addr} {o : Obj}, s1.heap.get? b = some o → (∀ us n, o.data ≠ .seq us n) → o.data ≠ .fields #[] → (hidT s1.heap H).get? b = some o := fun e n1 n2 => hidT_get e (un e n1 n2)
  have nsB : ∀ {b : Addr} {m : Str → Option Value}, s1.heap.Ns b m → (hidT s1.heap H).Ns b m := by
    intro b m ⟨o, es, ep, e, d, r⟩
    refine ⟨o, es, ep, inB e (fun us n z => ?_) (fun z => ?_), d, r⟩ <;> rw [d] at z <;> cases z
  have kB : K.In (hidT s1.heap H) := fun b o e => by
    refine hidT_get (hK b o e) ?_
    cases q : H b with
    | none => rfl
    | some u =>
      exfalso
      rcases ft.only b u q with ⟨z, n, _⟩ | ⟨⟨p, hp, z⟩, _⟩
      · rw [z, n] at e
        cases e
      · rw [z, nT p hp] at e
        cases e
  have mB : M1 (hidT s1.heap H) := by
    obtain ⟨o, es, ep, e, d⟩ := hs
    refine ⟨o, es, ep, inB e (fun us n z => ?_) (fun z => ?_), d⟩ <;> rw [d] at z <;> cases z
  have tB : ∀ p ∈ cs, LamX.TabB (hidT s1.heap H) mg p.1 p.2 := fun p hp => by
    obtain ⟨o, us, file, tf, flags, tg, inF, text, tt, c1, c2, c3, c4, c5, c6, c7, c8, c9, c10⟩ := hC p hp
    obtain ⟨bm, ob, d1, d2, d3, d4, d5, d6⟩ := hM
    have tp := hT p hp
    refine ⟨⟨o, us, file, tf, flags, tg, inF, text, tt, inB c1 (fun us n z => ?_) (fun z => ?_), c2, c3, c4, c5, c6, c7, c8, c9, c10⟩, ⟨bm, ob, d1, d2, fun z => ?_, fun z => ?_, inB d3 (fun us n z => ?_) (fun z => ?_), d4, d5, d6⟩, fun z => ?_⟩
    · rw [c3] at z
      cases z
    · rw [c3] at z
      cases z
      simp at c4
    · obtain ⟨o2, es, ep, e, d, _⟩ := hG
      rw [z, e] at d3
      cases d3
      rw [d] at d6
      cases d6
    · rw [z, tp] at d3
      cases d3
      cases d6
    · rw [d6] at z
      cases z
    · rw [d6] at z
      cases z
    · obtain ⟨o2, es, ep, e, d, _⟩ := hG
      rw [z, tp] at e
      cases e
      cases d
  have e0 : Env0 P w K mg (hidT s1.heap H) callerA [] s1 H := {
    frames := rfl
    mod := ⟨kB, nsB hG, ⟨mb, nsB hB, hBB⟩, let ⟨mc, z1, z2⟩ := hL; ⟨mc, nsB z1, z2⟩⟩
    bs := fun b o e => of_hidT e
    bsz := Nat.le_of_eq (hidT_size _ _)
    funs := trivial
    frf := fun b hb => nomatch (show b ∈ ([] : List Addr) from hb)
    hok := ft.held
    bare := .of_eq hg }
  refine codeAny_mono ((F _ kB (nsB hG) mB tB).go (us := [.ref a]) (vs := [.ref a]) rfl hr e0 (bind s1 _) (.cons rfl .nil) (hsp H ft.tabs ft.scr)) fun r s' h => ?_
  match r, h with
  | .error e, h => exact (hE H e s' h).elim
  | .ok .next, h => exact h.elim
  | .ok .brk, h => exact h.elim
  | .ok .cont, h => exact h.elim
  | .ok (.ret u), ⟨v, H', os, bare, U, held', rv, ev⟩ =>
    have ev2 : v = .bl true := ev
    rw [ev2] at rv
    obtain rfl : u = Value.bool true := rv
    have tab' : ∀ p ∈ cs, ∃ more : Array Value, s'.heap.get? p.2 = some { cls := .none, data := .fields more } := fun p hp => by
      obtain ⟨more, z⟩ := U.tbls p.2 #[] (ft.tabs p hp)
      exact ⟨_, held' _ _ z⟩
    have old : ∀ b o, isTab cs b = false → s1.heap.get? b = some o → s'.heap.get? b = some o := fun b o nb e => by
      cases q : H b with
      | none => exact U.keep b o e q (fun z => nomatch (show b ∈ ([] : List Addr) from z)) (fun z => nomatch z)
      | some y =>
        rcases ft.only b y q with ⟨_, _, ob, xs, z⟩ | ⟨⟨p, hp, z⟩, _⟩
        · rw [z] at q
          have g1 := (ft.held b _ q).1
          have g2 := (held' b _ (U.frzs b ob _ q)).1
          rw [e] at g1
          cases g1
          exact g2
        · rw [z, isTab_of hp] at nb
          cases nb
    refine ⟨rfl, ⟨fun b o e => ?_, fun b o e => ?_⟩, os, bare⟩
    · cases nb : isTab cs b with
      | false => exact .inl (old b o nb e)
      | true =>
        obtain ⟨p, hp, z⟩ := isTab_mem nb
        obtain ⟨more, hm⟩ := tab' p hp
        rw [z] at e ⊢
        rw [hT p hp] at e
        cases e
        exact .inr (.inl ⟨((hC p hp).tab (hT p hp)).isCodeTable, rfl, #[], more, rfl, by rw [Array.empty_append]; exact hm⟩)
    · cases nb : isTab cs b with
      | false => exact ⟨o, old b o nb e⟩
      | true =>
        obtain ⟨p, hp, z⟩ := isTab_mem nb
        obtain ⟨more, hm⟩ := tab' p hp
        rw [z]
        exact ⟨_, hm⟩
end Vf
set_option maxRecDepth 100000
set_option maxHeartbeats 4000000
namespace Vf
open PySem PySem.Spec PyProof.Rows L2
section
open PySem.W PySem.Calls
variable {prog : Program} {w : World} {K : Frag} {x D : Addr} {ox : Obj} {od : Option Obj}
/-- what isinstance asks of the class of an exception -/
structure XC (K : Frag) (D : Addr) : Prop where
  ga : findIn K (.ref D) "__getattribute__" = some (some (.builtin "BaseException.__getattribute__"))
  gg : findIn K (.ref D) "__getattr__" = some none
  sb : subIn K (.ref D) (.type "BaseException") = some true
  hd : hasDictIn K D = true
  ca : findIn K (.ref D) "__class__" = some (some (.builtin "object.__class__"))
  cn : specialIn K (.builtin "object.__class__") "__get__" = some (some (.builtin "getset_descriptor.__get__"))
  ct : takesIn K (.builtin "object.__class__") = some true
  mo : mroIn K D (.type "object") = some true
theorem XC.cls {K : Frag} {D : Addr} (T : XC K D) : (clsIn K D).isSome = true := by
  obtain ⟨cd, e, _⟩ := any_some T.hd
  simp only [e, Option.isSome_some]
end
/-- an exception of the class at C stands at a as a value; what it keeps -/
def XAt (H : Hp) (a C : Addr) : Option (List (Str × V)) → Prop
  | none => H a = some (ExO (.ref C) a)
  | some fs => ∃ d, H a = some (exo a C (some d)) ∧ H d = some (exd d fs)
theorem XAt.same {H H' : Hp} {a C : Addr} {o : Option (List (Str × V))} (s : Same H H') (h : XAt H a C o) : XAt H' a C o := by
  cases o with
  | none => exact s _ _ h
  | some fs =>
    obtain ⟨d, h1, h2⟩ := h
    exact ⟨d, s _ _ h1, s _ _ h2⟩
end Vf
set_option maxRecDepth 100000
set_option maxHeartbeats 4000000
namespace Vf
open PySem PySem.Spec PyProof.Rows L2
/-- good data: shallow, shown in few signs -/
structure Gd (d : PyData) : Prop where
  sh : d.showable = true
  dp : d.depth ≤ 10
  ln : d.shown.length ≤ 100000
theorem log_small {z : Int} (h : z.natAbs < 2 ^ 1920) : z.natAbs.log2 < 1920 := by
  by_cases e : z.natAbs = 0
  · rw [e]
    decide
  · exact (Nat.log2_lt e).mpr h
theorem gd_int {z : Int} (h : z.natAbs < 2 ^ 1920) : Gd (.int z) := by
  have l := log_small h
  refine ⟨by simp only [PyData.showable, l, decide_true], by simp [PyData.depth], ?_⟩
  simp only [PyData.shown]
  exact Nat.le_trans (int_text_len_1921 l) (by decide)
theorem sum_le_of {l : List Nat} {m : Nat} (h : ∀ x ∈ l, x ≤ m) : l.sum ≤ l.length * m := by
  induction l with
  | nil => simp
  | cons a r ih =>
    have h1 := h a (List.mem_cons_self ..)
    have h2 := ih fun x hx => h x (List.mem_cons_of_mem _ hx)
    rw [List.sum_cons, List.length_cons, Nat.add_mul]
    omega
theorem shownAll_map : ∀ ds : List PyData, PyData.shownAll ds = ds.map PyData.shown
  | [] => by simp only [PyData.shownAll, List.map_nil]
  | d :: r => by simp only [PyData.shownAll, List.map_cons, shownAll_map r]
theorem showableAll_of : ∀ {ds : List PyData}, (∀ d ∈ ds, d.showable = true) → PyData.showableAll ds = true
  | [], _ => by simp only [PyData.showableAll]
  | d :: r, h => by
    simp only [PyData.showableAll, h d (List.mem_cons_self ..), showableAll_of fun x hx => h x (List.mem_cons_of_mem _ hx), Bool.and_self]
theorem depthAll_of {m : Nat} : ∀ {ds : List PyData}, (∀ d ∈ ds, d.depth ≤ m) → PyData.depthAll ds ≤ m
  | [], _ => by simp only [PyData.depthAll]; exact Nat.zero_le _
  | d :: r, h => by
    simp only [PyData.depthAll]
    exact Nat.max_le.mpr ⟨h d (List.mem_cons_self ..), depthAll_of fun x hx => h x (List.mem_cons_of_mem _ hx)⟩
/-- few data, each shown in at most m signs -/
theorem seq_len {ds : List PyData} {m : Nat} (h : ∀ d ∈ ds, d.shown.length ≤ m) : (((PyData.shownAll ds).map (·.length)).sum ≤ ds.length * m) ∧ (PyData.shownAll ds).length = ds.length := by
  rw [shownAll_map]
  refine ⟨?_, by rw [List.length_map]⟩
  have q := sum_le_of (l := ((ds.map PyData.shown).map (·.length))) (m := m) (fun x hx => by
    obtain ⟨s, hs, e⟩ := List.mem_map.mp hx
    obtain ⟨d, hd, e2⟩ := List.mem_map.mp hs
    rw [← e, ← e2]
    exact h d hd)
  rw [List.length_map, List.length_map] at q
  exact q
theorem gd_seq {ds : List PyData} {n m : Nat} (hn : ds.length ≤ n) (h1 : ∀ d ∈ ds, d.showable = true) (h2 : ∀ d ∈ ds, d.depth ≤ 9) (h3 : ∀ d ∈ ds, d.shown.length ≤ m) (hz : n * m + 2 * n + 3 ≤ 100000) : Gd (.list ds) ∧ Gd (.tuple ds) := by
  obtain ⟨a, b⟩ := seq_len h3
  have c : ds.length * m ≤ n * m := Nat.mul_le_mul_right _ hn
  have d1 := depthAll_of h2
  refine ⟨⟨by simp only [PyData.showable]; exact showableAll_of h1, by simp only [PyData.depth]; omega, ?_⟩, by simp only [PyData.showable]; exact showableAll_of h1, by simp only [PyData.depth]; omega, ?_⟩
  · simp only [PyData.shown]
    have q := listText_len_le (PyData.shownAll ds)
    omega
  · simp only [PyData.shown]
    have q := tupleText_len_le (PyData.shownAll ds)
    omega
end Vf
set_option maxRecDepth 100000
set_option maxHeartbeats 4000000
namespace Vf
open PySem PySem.Spec PyProof.Rows L2
/-- // by an int that is not 0, below 2 ^ 9000 in size -/
def CDivZ (_ j : Int) : Prop := j ≠ 0 ∧ j.natAbs.log2 < 9000
theorem op_fdivZ {X : Cx} : OpR X (binaryOp .FloorDiv) (rI CDivZ fun i j => .int (i.fdiv j)) := opI fun i j _ _ _ _ _ hc q => floordiv_int hc.1 q (.inl (PyProof.noPylong_of_log2 hc.2))
end Vf
namespace Vf
/-- the greatest common divisor, with the sign of the bottom -/
def sg (t b : Int) : Int := if b < 0 then -((Nat.gcd t.natAbs b.natAbs : Nat) : Int) else ((Nat.gcd t.natAbs b.natAbs : Nat) : Int)
/-- in lowest terms -/
def low (t b : Int) : Int × Int := (t.fdiv (sg t b), b.fdiv (sg t b))
theorem fdiv_of_mul {s k : Int} (h : s ≠ 0) : (s * k).fdiv s = k := Int.mul_fdiv_cancel_left k h
theorem gcd_pos {t b : Int} (h : b ≠ 0) : 0 < Nat.gcd t.natAbs b.natAbs := Nat.gcd_pos_of_pos_right _ (by omega)
theorem sg_ne {t b : Int} (h : b ≠ 0) : sg t b ≠ 0 := by
  have g := gcd_pos (t := t) h
  unfold sg
  split <;> omega
/-- t and b are the sign's multiples -/
theorem sg_dvd {t b : Int} (h : b ≠ 0) : ∃ t' b' : Int, t = sg t b * t' ∧ b = sg t b * b' ∧ 0 < b' ∧ Nat.gcd t'.natAbs b'.natAbs = 1 := by
  have g := gcd_pos (t := t) h
  generalize hG : Nat.gcd t.natAbs b.natAbs = G at g
  have d1 : ((G : Nat) : Int) ∣ t := Int.ofNat_dvd_left.mpr (by rw [← hG]; exact Nat.gcd_dvd_left _ _)
  have d2 : ((G : Nat) : Int) ∣ b := Int.ofNat_dvd_left.mpr (by rw [← hG]; exact Nat.gcd_dvd_right _ _)
  obtain ⟨x, hx⟩ := d1
  obtain ⟨y, hy⟩ := d2
  have one : Nat.gcd x.natAbs y.natAbs = 1 := by
    have e1 : t.natAbs = G * x.natAbs := by rw [hx, Int.natAbs_mul, Int.natAbs_natCast]
    have e2 : b.natAbs = G * y.natAbs := by rw [hy, Int.natAbs_mul, Int.natAbs_natCast]
    have e3 : Nat.gcd (G * x.natAbs) (G * y.natAbs) = G * Nat.gcd x.natAbs y.natAbs := Nat.gcd_mul_left _ _ _
    rw [← e1, ← e2, hG] at e3
    have e4 : G * 1 = G * Nat.gcd x.natAbs y.natAbs := by omega
    exact (Nat.eq_of_mul_eq_mul_left g e4).symm
  have gp : (0 : Int) < (G : Int) := by omega
  have sg_e : sg t b = if b < 0 then -(G : Int) else (G : Int) := by unfold sg; rw [hG]
  by_cases hb : b < 0
  · refine ⟨-x, -y, ?_, ?_, ?_, ?_⟩
    · rw [sg_e, if_pos hb, Int.neg_mul_neg]; exact hx
    · rw [sg_e, if_pos hb, Int.neg_mul_neg]; exact hy
    · rw [hy] at hb
      have : y < 0 := by
        rcases Int.lt_or_le y 0 with z | z
        · exact z
        · have := Int.mul_nonneg (Int.le_of_lt gp) z
          omega
      omega
    · rw [Int.natAbs_neg, Int.natAbs_neg]; exact one
  · refine ⟨x, y, ?_, ?_, ?_, one⟩
    · rw [sg_e, if_neg hb]; exact hx
    · rw [sg_e, if_neg hb]; exact hy
    · rcases Int.lt_or_le 0 y with z | z
      · exact z
      · have h2 : (G : Int) * y ≤ 0 := Int.mul_nonpos_of_nonneg_of_nonpos (Int.le_of_lt gp) z
        rw [← hy] at h2
        omega
theorem low_eq {t b t' b' : Int} (h : b ≠ 0) (e1 : t = sg t b * t') (e2 : b = sg t b * b') : low t b = (t', b') := by
  have s := sg_ne (t := t) h
  unfold low
  have a1 : t.fdiv (sg t b) = t' := by
    have z := fdiv_of_mul (s := sg t b) (k := t') s
    rw [← e1] at z
    exact z
  have a2 : b.fdiv (sg t b) = b' := by
    have z := fdiv_of_mul (s := sg t b) (k := b') s
    rw [← e2] at z
    exact z
  rw [a1, a2]
/-- in lowest terms: its bottom is above 0, nothing is common -/
structure Low (t b : Int) : Prop where
  pos : 0 < b
  one : Nat.gcd t.natAbs b.natAbs = 1
theorem low_id {t b : Int} (h : Low t b) : low t b = (t, b) := by
  have hb : b ≠ 0 := by have := h.pos; omega
  have e : sg t b = 1 := by unfold sg; rw [h.one, if_neg (by have := h.pos; omega)]; rfl
  exact low_eq hb (by rw [e, Int.one_mul]) (by rw [e, Int.one_mul])
theorem sg_scale {t b k : Int} (hk : 0 < k) : sg (t * k) (b * k) = sg t b * k := by
  have e : Nat.gcd (t * k).natAbs (b * k).natAbs = Nat.gcd t.natAbs b.natAbs * k.natAbs := by
    rw [Int.natAbs_mul, Int.natAbs_mul, Nat.gcd_mul_right]
  have ek : ((k.natAbs : Nat) : Int) = k := by omega
  unfold sg
  rw [e]
  by_cases hb : b < 0
  · have : b * k < 0 := Int.mul_neg_of_neg_of_pos hb hk
    rw [if_pos hb, if_pos this, Int.natCast_mul, ek, Int.neg_mul]
  · have : ¬ b * k < 0 := by
      have := Int.mul_nonneg (show (0 : Int) ≤ b by omega) (Int.le_of_lt hk)
      omega
    rw [if_neg hb, if_neg this, Int.natCast_mul, ek]
theorem low_scale {t b k : Int} (h : b ≠ 0) (hk : 0 < k) : low (t * k) (b * k) = low t b := by
  obtain ⟨x, y, e1, e2, _, _⟩ := sg_dvd (t := t) h
  have hbk : b * k ≠ 0 := Int.mul_ne_zero h (by omega)
  rw [low_eq h e1 e2]
  refine low_eq hbk ?_ ?_
  · rw [sg_scale hk, Int.mul_assoc, Int.mul_comm k x, ← Int.mul_assoc, ← e1]
  · rw [sg_scale hk, Int.mul_assoc, Int.mul_comm k y, ← Int.mul_assoc, ← e2]
/-- a ratio k times over is the ratio -/
theorem low_back {t b k : Int} (h : Low t b) (hk : 0 < k) : low (t * k) (b * k) = (t, b) := by
  rw [low_scale (by have := h.pos; omega) hk, low_id h]
theorem low_size {t b : Int} (h : b ≠ 0) : (low t b).1.natAbs ≤ t.natAbs ∧ (low t b).2.natAbs ≤ b.natAbs := by
  obtain ⟨x, y, e1, e2, _, _⟩ := sg_dvd (t := t) h
  rw [low_eq h e1 e2]
  have s : 0 < (sg t b).natAbs := by have := sg_ne (t := t) h; omega
  have a1 : t.natAbs = (sg t b).natAbs * x.natAbs := by rw [← Int.natAbs_mul, ← e1]
  have a2 : b.natAbs = (sg t b).natAbs * y.natAbs := by rw [← Int.natAbs_mul, ← e2]
  rw [a1, a2]
  exact ⟨Nat.le_mul_of_pos_left _ s, Nat.le_mul_of_pos_left _ s⟩
theorem sg_size {t b : Int} (h : b ≠ 0) : (sg t b).natAbs ≤ b.natAbs := by
  have e : (sg t b).natAbs = Nat.gcd t.natAbs b.natAbs := by
    unfold sg
    split
    · rw [Int.natAbs_neg, Int.natAbs_natCast]
    · rw [Int.natAbs_natCast]
  rw [e]
  exact Nat.le_of_dvd (by omega) (Nat.gcd_dvd_right _ _)
/-- Euclid's laps: what holds ahead of the i-th -/
structure Lap (G P : Nat) (i : Nat) (a b : Int) : Prop where
  a0 : 0 ≤ a
  b0 : 0 ≤ b
  g : Nat.gcd a.natAbs b.natAbs = G
  le : i = 0 ∨ b ≤ a
  sm : a.natAbs * b.natAbs * 2 ^ (i - 1) ≤ P
theorem lap0 (x y : Int) : Lap (Nat.gcd x.natAbs y.natAbs) (x.natAbs * y.natAbs) 0 (if x < 0 then -x else x) (if y < 0 then -y else y) := by
  have e : ∀ z : Int, (if z < 0 then -z else z) = ((z.natAbs : Nat) : Int) := fun z => by split <;> omega
  rw [e, e]
  exact ⟨by omega, by omega, by rw [Int.natAbs_natCast, Int.natAbs_natCast], .inl rfl, by rw [Int.natAbs_natCast, Int.natAbs_natCast]; simp⟩
theorem lap_next {G P i : Nat} {a b : Int} (h : Lap G P i a b) (hb : b ≠ 0) : Lap G P (i + 1) b (a % b) := by
  have b1 : 0 < b := by have := h.b0; omega
  have r0 := Int.emod_nonneg a hb
  have r1 := Int.emod_lt_of_pos a b1
  obtain ⟨x, rfl⟩ := Int.eq_ofNat_of_zero_le h.a0
  obtain ⟨y, rfl⟩ := Int.eq_ofNat_of_zero_le h.b0
  have em : ((x : Int) % (y : Int)) = ((x % y : Nat) : Int) := by omega
  refine ⟨by omega, r0, ?_, .inr (by omega), ?_⟩
  · rw [em, Int.natAbs_natCast, Int.natAbs_natCast]
    have g := h.g
    rw [Int.natAbs_natCast, Int.natAbs_natCast] at g
    rw [Nat.gcd_comm, ← Nat.gcd_rec, Nat.gcd_comm]
    exact g
  · have s := h.sm
    rw [em]
    rw [Int.natAbs_natCast, Int.natAbs_natCast] at s ⊢
    rw [Nat.add_sub_cancel]
    have y1 : 0 < y := by omega
    rcases h.le with z | z
    · rw [z] at s ⊢
      simp only [Nat.zero_sub, Nat.pow_zero, Nat.mul_one] at s ⊢
      have : x % y ≤ x := Nat.mod_le _ _
      calc y * (x % y) ≤ y * x := Nat.mul_le_mul_left _ this
        _ = x * y := Nat.mul_comm _ _
        _ ≤ P := s
    · have hxy : y ≤ x := by omega
      have hm : 2 * (x % y) ≤ x := by
        have q := Nat.div_add_mod x y
        have q1 : 1 ≤ x / y := (Nat.le_div_iff_mul_le y1).mpr (by omega)
        have q2 : y * 1 ≤ y * (x / y) := Nat.mul_le_mul_left _ q1
        have q3 := Nat.mod_lt x y1
        omega
      by_cases hi : i = 0
      · rw [hi] at s ⊢
        simp only [Nat.zero_sub, Nat.pow_zero, Nat.mul_one] at s ⊢
        have : x % y ≤ x := Nat.mod_le _ _
        calc y * (x % y) ≤ y * x := Nat.mul_le_mul_left _ this
          _ = x * y := Nat.mul_comm _ _
          _ ≤ P := s
      · have ei : 2 ^ i = 2 * 2 ^ (i - 1) := by
          have : i = (i - 1) + 1 := by omega
          rw [this, Nat.pow_succ, Nat.add_sub_cancel, Nat.mul_comm]
        rw [ei]
        calc y * (x % y) * (2 * 2 ^ (i - 1)) = (2 * (x % y)) * (y * 2 ^ (i - 1)) := by
              rw [Nat.mul_comm y (x % y), Nat.mul_assoc, Nat.mul_left_comm y 2, ← Nat.mul_assoc (x % y) 2, Nat.mul_comm (x % y) 2]
          _ ≤ x * (y * 2 ^ (i - 1)) := Nat.mul_le_mul_right _ hm
          _ = x * y * 2 ^ (i - 1) := by rw [Nat.mul_assoc]
          _ ≤ P := s
theorem lap_end {G P i : Nat} {a b : Int} (h : Lap G P i a b) (hb : b = 0) : a = ((G : Nat) : Int) := by
  have g := h.g
  rw [hb] at g
  have e : Nat.gcd a.natAbs (0 : Int).natAbs = a.natAbs := Nat.gcd_zero_right _
  rw [e] at g
  have := h.a0
  omega
theorem lap_over {G P : Nat} {i : Nat} {a b : Int} (h : Lap G P i a b) (hi : 0 < i) (hP : P < 2 ^ (i - 1)) : b = 0 := by
  have s := h.sm
  have l : b ≤ a := by rcases h.le with z | z <;> omega
  rcases Nat.eq_zero_or_pos (a.natAbs * b.natAbs) with z | z
  · rcases Nat.mul_eq_zero.mp z with z | z
    · have := h.b0; omega
    · omega
  · have : 1 * 2 ^ (i - 1) ≤ a.natAbs * b.natAbs * 2 ^ (i - 1) := Nat.mul_le_mul_right _ z
    omega
end Vf
set_option maxRecDepth 100000
set_option maxHeartbeats 8000000
namespace Vf
open PySem PySem.Spec PyProof.Rows L2
def topS (i : Nat) : Stmt := PySem.Challenge.pw_nearcurves_k06_whole_simple_parts.main.body.getD i (.Pass ⟨0, 0, 0, 0⟩)
def penL (l : Addr) (at_ dg ct fo : Int) : List (Key × V) := [(.inr "cells", .ref l), (.inr "at", .int at_), (.inr "digits", .int dg), (.inr "count", .int ct), (.inr "fold", .int fo)]
section
variable {l : Addr} {a d c f x : Int}
theorem pv1 : valV (penL l a d c f) (.inr "cells") = some (.ref l) := by kernel_rfl
theorem pv2 : valV (penL l a d c f) (.inr "at") = some (.int a) := by kernel_rfl
theorem pv3 : valV (penL l a d c f) (.inr "digits") = some (.int d) := by kernel_rfl
theorem pv4 : valV (penL l a d c f) (.inr "count") = some (.int c) := by kernel_rfl
theorem pv5 : valV (penL l a d c f) (.inr "fold") = some (.int f) := by kernel_rfl
theorem pp2 : putK (penL l a d c f) (.inr "at") (.int x) = penL l x d c f := by kernel_rfl
theorem pp3 : putK (penL l a d c f) (.inr "digits") (.int x) = penL l a x c f := by kernel_rfl
theorem pp4 : putK (penL l a d c f) (.inr "count") (.int x) = penL l a d x f := by kernel_rfl
theorem pp5 : putK (penL l a d c f) (.inr "fold") (.int x) = penL l a d c x := by kernel_rfl
theorem pm : mergeK [] [(.inr "cells", .ref l), (.inr "at", .int 0), (.inr "digits", .int 0), (.inr "count", .int 0), (.inr "fold", .int f)] = penL l 0 0 0 f := by kernel_rfl
end
/-- a pen at p that has been asked at most B times -/
structure PenC (at_ dg ct fo B : Int) : Prop where
  a0 : 0 ≤ at_
  d0 : 0 ≤ dg
  c0 : 0 ≤ ct
  cB : ct ≤ B
  f0 : 0 ≤ fo
  f1 : fo < 2147483587
def PenAt (H : Hp) (p l : Addr) (ns : List Int) (at_ dg ct fo : Int) : Prop := H p = some (.dK (penL l at_ dg ct fo)) ∧ H l = some (.lst (ns.map V.int)) ∧ ns.length ≤ 63
def Pen (H : Hp) (p l : Addr) (B : Int) : Prop := ∃ ns at_ dg ct fo, PenAt H p l ns at_ dg ct fo ∧ PenC at_ dg ct fo B
/-- all but p stands as it stood -/
def Kp (p : Addr) (H H' : Hp) : Prop := ∀ b o, b ≠ p → H b = some o → H' b = some o
theorem Kp.refl {p : Addr} {H : Hp} : Kp p H H := fun _ _ _ h => h
theorem Kp.trans {p : Addr} {H H1 H2 : Hp} (a : Kp p H H1) (b : Kp p H1 H2) : Kp p H H2 := fun c o n h => b c o n (a c o n h)
theorem Kp.of {p : Addr} {H H' : Hp} (s : Same H H') : Kp p H H' := fun b o _ h => s b o h
theorem same_upd {H : Hp} {p : Addr} {o : HO} (n : H p = none) : Same H (upd H p o) := fun b u e => by rw [upd_ne (ne_of_none e n)]; exact e
theorem PenAt.ne {H : Hp} {p l : Addr} {ns : List Int} {a d c f : Int} (h : PenAt H p l ns a d c f) : l ≠ p := ne_of h.2.1 h.1 (by intro z; cases z)
theorem PenAt.same {H H' : Hp} {p l : Addr} {ns : List Int} {a d c f : Int} (h : PenAt H p l ns a d c f) (s : Same H H') : PenAt H' p l ns a d c f := ⟨s _ _ h.1, s _ _ h.2.1, h.2.2⟩
theorem Pen.same {H H' : Hp} {p l : Addr} {B : Int} (h : Pen H p l B) (s : Same H H') : Pen H' p l B := by
  obtain ⟨ns, a, d, c, f, h1, h2⟩ := h
  exact ⟨ns, a, d, c, f, h1.same s, h2⟩
theorem Pen.more {H : Hp} {p l : Addr} {B B' : Int} (h : Pen H p l B) (e : B ≤ B') : Pen H p l B' := by
  obtain ⟨ns, a, d, c, f, h1, h2⟩ := h
  exact ⟨ns, a, d, c, f, h1, h2.a0, h2.d0, h2.c0, Int.le_trans h2.cB e, h2.f0, h2.f1⟩
theorem Pen.there {H : Hp} {p l : Addr} {B : Int} (h : Pen H p l B) : ∃ o, H p = some o := by
  obtain ⟨ns, a, d, c, f, h1, h2⟩ := h
  exact ⟨_, h1.1⟩
theorem PenAt.put {H : Hp} {p l : Addr} {ns : List Int} {a d c f a' d' c' f' : Int} (h : PenAt H p l ns a d c f) : PenAt (upd H p (.dK (penL l a' d' c' f'))) p l ns a' d' c' f' :=
  ⟨upd_same, by rw [upd_ne h.ne]; exact h.2.1, h.2.2⟩
theorem kp_upd {H : Hp} {p : Addr} {o : HO} : Kp p H (upd H p o) := fun b u n e => by rw [upd_ne n]; exact e
def spPen (K : PySem.W.Frag) : Sp := fun vs H Q _ => ∃ (a : Addr) (ns : List Int), vs = [.ref a] ∧ SqL K H a (ns.map V.int) ∧ ns.length ≤ 63 ∧ ∀ (p l : Addr) (H' : Hp), Same H H' → H p = none → H l = none → Pen H' p l 0 → Q (.ref p) H'
def spDraw : Sp := fun vs H Q _ => ∃ (p l : Addr) (B many : Int), vs = [.ref p, .int many] ∧ Pen H p l B ∧ B ≤ 1000000000 ∧ 0 < many ∧ many < 2000000000000000000000000000000000 ∧
  ∀ (z : Int) (H' : Hp), 0 ≤ z → z < many → Pen H' p l (B + 1) → Kp p H H' → Q (.int z) H'
def spPick : Sp := fun vs H Q _ => ∃ (p l s : Addr) (B : Int) (xs : List V), vs = [.ref p, .ref s] ∧ Pen H p l B ∧ B ≤ 1000000000 ∧ H s = some (.lst xs) ∧ s ≠ p ∧ 0 < xs.length ∧ xs.length < 1000000 ∧
  ∀ (x : V) (H' : Hp), x ∈ xs → Pen H' p l (B + 1) → Kp p H H' → Q x H'
def spFar : Sp := fun vs H Q _ => ∃ (p l : Addr) (B : Int), vs = [.ref p] ∧ Pen H p l B ∧ B ≤ 100000000 ∧
  ∀ (z : Int) (H' : Hp), -1000000000000000000 < z → z < 1000000000000000000 → Pen H' p l (B + 8) → Kp p H H' → Q (.int z) H'
/-- built-in names that the text leaves alone -/
structure Bi (mg : Str → Option Value) : Prop where
  int : mg "int" = none
  list : mg "list" = none
  len : mg "len" = none
  range : mg "range" = none
/-- a def of the text that raises nothing -/
structure Df (P : Program) (w : World) (K : PySem.W.Frag) (mg : Str → Option Value) (base : Heap) (x : Str) (k : Nat) (ps : List Str) (sp : Sp) where
  f : Addr
  fd : FuncData
  m : mg x = some (.ref f)
  kp : PySem.W.keepIn K (.ref f) = true
  b : Binds K fd ps []
  ok : FnOk P w K mg base CX0 k f fd ps sp
abbrev sPen : Stmt := topS 47
abbrev sDraw : Stmt := topS (47 + 1)
abbrev sPick : Stmt := topS (47 + 2)
section
variable {P : Program} {w : World} {K : PySem.W.Frag} {mg : Str → Option Value} {base : Heap}
theorem scPen : FnScope ["_law_script", "_law_fold", "_law_cell"] ["_law_script"] (defScope sPen) := ⟨rfl, rfl, rfl, by decide +kernel, rfl, by decide +kernel, by decide +kernel⟩
theorem ok_pen {f : Addr} {fd : FuncData} (F : Fun K "_law_pen" "_law_pen" sPen f fd) (T : Bi mg) : FnOk P w K mg base CX0 1 f fd ["_law_script"] (spPen K) := by
  refine F.ok scPen (fun vs H Q E h => ?_) (fun cdv A outer s H vs Q E hr h => ?_)
  · obtain ⟨a, ns, rfl, _⟩ := h
    rfl
  · obtain ⟨a, ns, rfl, hS, hl, k⟩ := h
    refine ⟨_, (pss_cons (ps_set (i := 1) scPen.nd rfl (Or.inl rfl) pe_int)
      (pss_cons (ps_for PassesOwn.never rfl (pi_list (pv 0)) (pg_name (i := 2) scPen.nd rfl (Or.inl rfl))
        (pss_one (ps_set (i := 1) scPen.nd rfl (Or.inl rfl) (pe_op op_mod (pe_callTy call_int1 (by rfl) T.int (by decide +kernel) (pa_cons (pe_op op_add (pe_op op_mul (pv 1) pe_int) (pv 2)) pa_nil)) pe_int))))
      (pss_one (ps_ret (pe_disp (pps_cons pe_str (pe_callTy call_list_of (by rfl) T.list (by decide +kernel) (pa_cons (pv 0) pa_nil)) (pps_cons pe_str pe_int (pps_cons pe_str pe_int (pps_cons pe_str pe_int (pps_cons pe_str (pv 1) pps_nil))))) (by rfl) (by rfl) (fun z => by cases z) (by decide)))))), ?_⟩
    refine ⟨_, rfl, a, rfl, ⟨_, hS⟩, for_list (K := K) (a := a) (xs := ns.map V.int) (fun i σ H2 => H2 = H ∧ ∃ (z : Int) (v : Option V), σ = [some (.ref a), some (.int z), v] ∧ 0 ≤ z ∧ z < 1000000007)
      ⟨rfl, 0, none, rfl, by decide, by decide⟩ (fun i σ H2 _ ⟨e, _⟩ => by rw [e]; exact hS) ?_ ?_⟩
    · rintro i y σ H2 hi ⟨rfl, z, v, rfl, h0, h1⟩
      obtain ⟨n, rfl⟩ : ∃ n, y = V.int n := by
        rw [List.getElem?_map] at hi
        cases e : ns[i]? with
        | none =>
          rw [e] at hi
          cases hi
        | some n =>
          rw [e] at hi
          exact ⟨n, (Option.some.inj hi).symm⟩
      refine ⟨_, rfl, _, _, rfl, rfl, .inl ⟨by omega, by omega⟩, _, rfl, _, _, rfl, rfl, .inl ⟨_, rfl, _, _, rfl, rfl, (by show (0 : Int) < 1000000007; decide), ?_⟩⟩
      exact ⟨rfl, _, _, rfl, Int.emod_nonneg _ (by decide), Int.emod_lt_of_pos _ (by decide)⟩
    · rintro σ H2 ⟨rfl, z, v, rfl, h0, h1⟩
      intro p np
      refine ⟨_, rfl, a, _, rfl, .inl ((same_upd np).seq hS), fun l nl => ?_⟩
      refine ⟨_, rfl, ?_⟩
      have npl : p ≠ l := ne_of_none upd_same nl
      refine ⟨by rw [upd_ne npl]; exact upd_same, [(.inr "cells", .ref l), (.inr "at", .int 0), (.inr "digits", .int 0), (.inr "count", .int 0), (.inr "fold", .int z)], rfl, (by show 5 ≤ 15; decide), ?_⟩
      rw [pm]
      have nl2 : H2 l = none := by
        have q := nl
        rw [upd_ne npl.symm] at q
        exact q
      refine k p l _ (fun b o e => ?_) np nl2 ⟨ns, 0, 0, 0, z, ⟨upd_same, by rw [upd_ne npl.symm]; exact upd_same, hl⟩, by decide, by decide, by decide, by decide, h0, by omega⟩
      rw [upd_ne (ne_of_none e np), upd_ne (ne_of_none e nl2), upd_ne (ne_of_none e np)]
      exact e
theorem scDraw : FnScope ["_law_pen_here", "_law_many", "_law_cell", "_law_digit", "_law_mixed"] ["_law_pen_here", "_law_many"] (defScope sDraw) := ⟨rfl, rfl, rfl, by decide +kernel, rfl, by decide +kernel, by decide +kernel⟩
theorem ok_draw {f : Addr} {fd : FuncData} (F : Fun K "_law_draw" "_law_draw" sDraw f fd) (T : Bi mg) : FnOk P w K mg base CX0 1 f fd ["_law_pen_here", "_law_many"] spDraw := by
  refine F.ok scDraw (fun vs H Q E h => ?_) (fun cdv A outer s H vs Q E hr h => ?_)
  · obtain ⟨p, l, B, m, rfl, _⟩ := h
    rfl
  · obtain ⟨p, l, B, m, rfl, ⟨ns, a0, d0, c0, f0, hP, hC⟩, hB, hm0, hm1, k⟩ := h
    have hu := hu_of hr
    have small : ∀ {l : Addr} {a d c f : Int}, (penL l a d c f).length < sizeLine := by intros; show 5 < sizeLine; decide
    refine ⟨_, (pss_cons (ps_dput hu (pv 0) pe_str (pe_op op_add (pe_dget hu (pv 0) pe_str (fun _ _ => rfl)) pe_int) rfl)
  (C8.pss_cut (ps_if (PW.pt (pw_and (pt_cmpR op_eq (pe_dget hu (pv 0) pe_str (fun _ _ => rfl)) pe_int (nomark _)) (pw_and1 (pt_cmpR op_lt (pe_dget hu (pv 0) pe_str (fun _ _ => rfl)) (pe_callB call_len_seq (by rfl) T.len (by decide +kernel) (pa_cons (pe_dget hu (pv 0) pe_str (fun _ _ => rfl)) pa_nil)) (nomark _)))))
    (pss_cons (ps_set (i := 2) scDraw.nd rfl (Or.inl rfl) (pe_ix ix_list (pe_dget hu (pv 0) pe_str (fun _ _ => rfl)) (pe_dget hu (pv 0) pe_str (fun _ _ => rfl)) (fun _ _ => rfl)))
    (pss_cons (ps_dput hu (pv 0) pe_str (pe_op op_add (pe_dget hu (pv 0) pe_str (fun _ _ => rfl)) pe_int) rfl)
    (pss_one (ps_if (pt_cmpR op_ge (pv 2) (pe_op op_pow pe_int pe_int) (nomark _))
      (pss_one (ps_dput hu (pv 0) pe_str (pe_op op_sub (pv 2) (pe_op op_pow pe_int pe_int)) rfl))
      (pss_one (ps_dput hu (pv 0) pe_str (pe_op op_mod (pe_callTy call_int1 (by rfl) T.int (by decide +kernel) (pa_cons (pe_op op_add (pe_op op_mul (pe_dget hu (pv 0) pe_str (fun _ _ => rfl)) pe_int) (pv 2)) pa_nil)) pe_int) rfl))))))
    pss_nil)
  (pss_cons (ps_if (pt_cmpR op_gt (pe_dget hu (pv 0) pe_str (fun _ _ => rfl)) pe_int (nomark _))
    (pss_cons (ps_set (i := 3) scDraw.nd rfl (Or.inl rfl) (pe_op op_mod (pe_callTy call_int1 (by rfl) T.int (by decide +kernel) (pa_cons (pe_dget hu (pv 0) pe_str (fun _ _ => rfl)) pa_nil)) (pv 1)))
    (pss_cons (ps_dput hu (pv 0) pe_str (pe_op op_fdivZ (pe_dget hu (pv 0) pe_str (fun _ _ => rfl)) (pv 1)) rfl)
    (pss_one (ps_ret (pv 3)))))
    pss_nil)
  (pss_cons (ps_set (i := 4) scDraw.nd rfl (Or.inl rfl) (pe_op op_add (pe_op op_add (pe_dget hu (pv 0) pe_str (fun _ _ => rfl)) (pe_op op_mul (pe_dget hu (pv 0) pe_str (fun _ _ => rfl)) pe_int)) pe_int))
  (pss_one (ps_ret (pe_op op_mod (pe_op op_fdiv (pe_callTy call_int1 (by rfl) T.int (by decide +kernel) (pa_cons (pe_op op_mod (pe_op op_pow (pv 4) pe_int) pe_int) pa_nil)) pe_int) (pv 1)))))))), ?_⟩
    -- count
    refine ⟨_, rfl, p, .int c0, rfl, ?_, _, _, rfl, rfl, _, rfl, p, _, rfl, DPut.k (k := Sum.inr "count") hP.1 small, ?_⟩
    · have q := DGet.k (k := (Sum.inr "count" : Key)) hP.1
      rw [pv4] at q
      exact q
    rw [pp4]
    have hP1 := hP.put (a' := a0) (d' := d0) (c' := c0 + 1) (f' := f0)
    generalize hH1 : upd H p (.dK (penL l a0 d0 (c0 + 1) f0)) = H1 at hP1
    have k1 : Kp p H H1 := by rw [← hH1]; exact kp_upd
    clear hH1
    -- the cut: a pen again
    refine ⟨fun σ H2 => ∃ (v2 : Option V) (a d c f : Int), σ = [some (.ref p), some (.int m), v2, none, none] ∧ PenAt H2 p l ns a d c f ∧ PenC a d c f (B + 1) ∧ Kp p H H2, ?_, ?_⟩
    · have g3 : DGet H1 p (kV (Sum.inr "digits")) (some (.int d0)) := by
        have q := DGet.k (k := (Sum.inr "digits" : Key)) hP1.1
        rw [pv3] at q
        exact q
      have g2 : DGet H1 p (kV (Sum.inr "at")) (some (.int a0)) := by
        have q := DGet.k (k := (Sum.inr "at" : Key)) hP1.1
        rw [pv2] at q
        exact q
      have g1 : DGet H1 p (kV (Sum.inr "cells")) (some (.ref l)) := by
        have q := DGet.k (k := (Sum.inr "cells" : Key)) hP1.1
        rw [pv1] at q
        exact q
      refine ⟨_, rfl, p, _, rfl, g3, rfl, _, rfl, ?_⟩
      have stay : ∃ (v2 : Option V) (a d c f : Int), start ["_law_pen_here", "_law_many", "_law_cell", "_law_digit", "_law_mixed"] [V.ref p, V.int m] = [some (.ref p), some (.int m), v2, none, none] ∧ PenAt H1 p l ns a d c f ∧ PenC a d c f (B + 1) ∧ Kp p H H1 :=
        ⟨none, a0, d0, c0 + 1, f0, rfl, hP1, ⟨hC.a0, hC.d0, by have := hC.c0; omega, by have := hC.cB; omega, hC.f0, hC.f1⟩, k1⟩
      by_cases hd : d0 = 0
      · rw [decide_eq_true (by rw [hd])]
        refine iteT ?_
        refine ⟨_, rfl, p, _, rfl, g2, _, rfl, p, _, rfl, g1, l, _, rfl, .inl (SqL.of hP1.2.1), _, _, rfl, rfl, _, rfl, ?_⟩
        rw [List.length_map]
        by_cases ha : a0 < (ns.length : Int)
        · rw [decide_eq_true ha]
          refine iteT ?_
          have han : a0.toNat < ns.length := by have := hC.a0; omega
          have hat : (ns.map V.int)[a0.toNat]? = some (V.int ns[a0.toNat]) := by
            rw [List.getElem?_map, List.getElem?_eq_getElem han]
            rfl
          generalize ns[a0.toNat] = z at hat
          refine ⟨_, rfl, p, _, rfl, g1, _, rfl, p, _, rfl, g2, l, _, a0, .int z, rfl, rfl, SqL.of hP1.2.1, at_of (j := a0.toNat) (by have := hC.a0; omega) hat, ?_⟩
          refine ⟨_, rfl, p, _, rfl, g2, _, _, rfl, rfl, _, rfl, p, _, rfl, DPut.k (k := Sum.inr "at") hP1.1 small, ?_⟩
          rw [pp2]
          have hP2 := hP1.put (a' := a0 + 1) (d' := d0) (c' := c0 + 1) (f' := f0)
          generalize hH2 : upd H1 p (.dK (penL l (a0 + 1) d0 (c0 + 1) f0)) = H2 at hP2
          have k2 : Kp p H H2 := by rw [← hH2]; exact k1.trans kp_upd
          clear hH2
          refine ⟨_, rfl, _, _, rfl, rfl, ⟨by decide, by decide, by decide⟩, _, _, rfl, rfl, _, rfl, ?_⟩
          refine ite2 (fun hz => ?_) (fun hz => ?_)
          · have hz2 : (10 : Int) ^ (18 : Int).toNat ≤ z := of_decide_eq_true hz
            refine ⟨_, rfl, _, _, rfl, rfl, ⟨by decide, by decide, by decide⟩, _, _, rfl, rfl, _, rfl, p, _, rfl, DPut.k (k := Sum.inr "digits") hP2.1 small, ?_⟩
            rw [pp3]
            exact ⟨_, a0 + 1, _, c0 + 1, f0, rfl, hP2.put, ⟨by have := hC.a0; omega, by omega, by have := hC.c0; omega, by have := hC.cB; omega, hC.f0, hC.f1⟩, k2.trans kp_upd⟩
          · refine ⟨_, rfl, p, .int f0, rfl, ?_, _, _, rfl, rfl, .inl ⟨?_, ?_⟩, _, rfl, _, _, rfl, rfl, .inl ⟨_, rfl, _, _, rfl, rfl, (by show (0 : Int) < 2147483587; decide), _, rfl, p, _, rfl, DPut.k (k := Sum.inr "fold") hP2.1 small, ?_⟩⟩
            · have q := DGet.k (k := (Sum.inr "fold" : Key)) hP2.1
              rw [pv5] at q
              exact q
            · have := hC.f0; omega
            · have := hC.f1; omega
            rw [pp5]
            exact ⟨_, a0 + 1, d0, c0 + 1, _, rfl, hP2.put, ⟨by have := hC.a0; omega, hC.d0, by have := hC.c0; omega, by have := hC.cB; omega, Int.emod_nonneg _ (by decide), Int.emod_lt_of_pos _ (by decide)⟩, k2.trans kp_upd⟩
        · rw [decide_eq_false ha]
          refine iteF ?_
          exact stay
      · rw [decide_eq_false (fun z => hd (by have z2 := V.int.inj z; exact z2))]
        refine iteF ?_
        exact stay
    · rintro σ H2 ⟨v2, a, d, c, f, rfl, hP2, hC2, k2⟩
      have g3 : DGet H2 p (kV (Sum.inr "digits")) (some (.int d)) := by
        have q := DGet.k (k := (Sum.inr "digits" : Key)) hP2.1
        rw [pv3] at q
        exact q
      refine ⟨_, rfl, p, _, rfl, g3, _, _, rfl, rfl, _, rfl, ?_⟩
      refine ite2 (fun hz => ?_) (fun hz => ?_)
      · have hz2 : 0 < d := of_decide_eq_true hz
        refine ⟨_, rfl, p, _, rfl, g3, .inl ⟨_, rfl, _, rfl, _, _, rfl, rfl, hm0, ?_⟩⟩
        refine ⟨_, rfl, p, _, rfl, g3, _, rfl, _, _, rfl, rfl, ⟨by omega, by have := (Nat.log2_lt (n := m.natAbs) (k := 400) (by omega)).mpr (Nat.lt_of_lt_of_le (show m.natAbs < 2000000000000000000000000000000000 by omega) (by decide +kernel)); omega⟩, _, rfl, p, _, rfl, DPut.k (k := Sum.inr "digits") hP2.1 small, ?_⟩
        rw [pp3]
        exact ⟨_, rfl, k _ _ (Int.emod_nonneg _ (by omega)) (Int.emod_lt_of_pos _ hm0) ⟨ns, a, _, c, f, hP2.put, hC2.a0, Int.fdiv_nonneg hC2.d0 (by omega), hC2.c0, hC2.cB, hC2.f0, hC2.f1⟩ (k2.trans kp_upd)⟩
      · refine ⟨_, rfl, p, .int f, rfl, ?_, _, rfl, p, .int c, rfl, ?_, _, _, rfl, rfl, .inl ⟨?_, ?_⟩, _, _, rfl, rfl, _, _, rfl, rfl, ?_⟩
        · have q := DGet.k (k := (Sum.inr "fold" : Key)) hP2.1
          rw [pv5] at q
          exact q
        · have q := DGet.k (k := (Sum.inr "count" : Key)) hP2.1
          rw [pv4] at q
          exact q
        · have := hC2.c0; omega
        · have := hC2.cB; omega
        have b1 := hC2.c0
        have b2 := hC2.cB
        have b3 := hC2.f0
        have b4 := hC2.f1
        refine ⟨_, rfl, _, _, rfl, rfl, ⟨by decide, by decide, ?_⟩, _, _, rfl, rfl, (by show (0 : Int) < 2305843009213693951; decide), .inl ⟨_, rfl, _, _, rfl, rfl, ⟨by decide, by decide⟩, _, rfl, _, _, rfl, rfl, hm0, ?_⟩⟩
        · show (f + c * 7907 + 43).natAbs < 2 ^ 64
          omega
        exact k _ _ (Int.emod_nonneg _ (by omega)) (Int.emod_lt_of_pos _ hm0) ⟨ns, a, d, c, f, hP2, hC2⟩ k2
theorem scPick : FnScope ["_law_pen_here", "_law_some"] ["_law_pen_here", "_law_some"] (defScope sPick) := ⟨rfl, rfl, rfl, by decide +kernel, rfl, by decide +kernel, by decide +kernel⟩
theorem ok_pick {f : Addr} {fd : FuncData} (F : Fun K "_law_pick" "_law_pick" sPick f fd) (T : Bi mg) (G : Df P w K mg base "_law_draw" 1 ["_law_pen_here", "_law_many"] spDraw) : FnOk P w K mg base CX0 2 f fd ["_law_pen_here", "_law_some"] spPick := by
  refine F.ok scPick (fun vs H Q E h => ?_) (fun cdv A outer s H vs Q E hr h => ?_)
  · obtain ⟨p, l, s, B, xs, rfl, _⟩ := h
    rfl
  · obtain ⟨p, l, s, B, xs, rfl, hP, hB, hs, hne, h0, h1, k⟩ := h
    refine ⟨_, (pss_one (ps_ret (pe_ix ix_list (pv 1) (pe_call G.ok hr rfl G.m G.kp G.b .nil pass0 (pa_cons (pv 0) (pa_cons (pe_callB call_len_seq (by rfl) T.len (by decide +kernel) (pa_cons (pv 1) pa_nil)) pa_nil))) (fun _ _ => rfl)))), ?_⟩
    refine ⟨_, rfl, _, rfl, _, rfl, s, _, rfl, .inl (SqL.of hs), p, l, B, _, rfl, hP, hB, by omega, by omega, fun z H' z0 z1 hP' kp => ?_⟩
    have hzn : z.toNat < xs.length := by omega
    exact ⟨s, xs, z, xs[z.toNat], rfl, rfl, SqL.of (kp _ _ hne hs), at_of (j := z.toNat) (by omega) (List.getElem?_eq_getElem hzn), k _ _ (List.getElem_mem hzn) hP' kp⟩
end
end Vf
set_option maxRecDepth 100000
set_option maxHeartbeats 8000000
namespace Vf
open PySem PySem.Spec PyProof.Rows L2
def fl (names : List Str) (xs : List V) : List (Str × V) := (names.zip xs).reverse
/-- self.f = f, for each of the names -/
def spIni (C : Addr) (names : List Str) : Sp := fun vs H Q _ => ∃ (a : Addr) (xs : List V), vs = .ref a :: xs ∧ xs.length = names.length ∧ H a = some (exo a C none) ∧
  ∀ (d : Addr) (H' : Hp), H d = none → d ≠ a → H' a = some (exo a C (some d)) → H' d = some (exd d (fl names xs)) → (∀ b o, b ≠ a → H b = some o → H' b = some o) → Q .non H'
theorem keep2 {H : Hp} {a d : Addr} {o u : HO} (n : H d = none) : ∀ b z, b ≠ a → H b = some z → upd (upd H d o) a u b = some z := fun b z h e => by
  rw [upd_ne h, upd_ne (ne_of_none e n)]
  exact e
theorem keep3 {H1 H : Hp} {a d : Addr} {u : HO} (n : H d = none) (k : ∀ b z, b ≠ a → H b = some z → H1 b = some z) : ∀ b z, b ≠ a → H b = some z → upd H1 d u b = some z := fun b z h e => by
  rw [upd_ne (ne_of_none e n)]
  exact k b z h e
section
variable {P : Program} {w : World} {K : PySem.W.Frag} {mg : Str → Option Value} {base : Heap}
theorem scBadNumber : FnScope ["self", "what", "number"] ["self", "what", "number"] (defScope (inClass (topS 20) 0)) := ⟨rfl, rfl, rfl, by decide +kernel, rfl, by decide +kernel, by decide +kernel⟩
theorem iniBadNumber {f C : Addr} {fd : FuncData} (F : Fun K "__init__" "BadNumber.__init__" (inClass (topS 20) 0) f fd) (T : OexC K C) (n1 : PySem.W.findIn K (.ref C) "what" = some none) (n2 : PySem.W.findIn K (.ref C) "number" = some none) :
    FnOk P w K mg base CX0 1 f fd ["self", "what", "number"] (spIni C ["what", "number"]) := by
  refine F.ok scBadNumber (fun vs H Q E h => ?_) (fun cdv A outer s H vs Q E hr h => ?_)
  · obtain ⟨a, xs, rfl, hl, _⟩ := h
    rw [List.length_cons, hl]
    all_goals rfl
  · obtain ⟨a, xs, rfl, hl, ha, k⟩ := h
    match xs, hl with
    | [v1, v2], _ =>
    refine ⟨_, (pss_cons (ps_ost (pv 0) (pv 1)) (pss_one (ps_ost (pv 0) (pv 2)))), ?_⟩
    refine ⟨_, rfl, _, rfl, a, C, rfl, T, n1, .inl ⟨ha, fun d nd ne => ?_⟩⟩
    have e1 : (upd (upd H d (exd d [("what", v1)])) a (exo a C (some d))) a = some (exo a C (some d)) := upd_same
    have e2 : (upd (upd H d (exd d [("what", v1)])) a (exo a C (some d))) d = some (exd d [("what", v1)]) := by rw [upd_ne ne]; exact upd_same
    have e3 := keep2 (H := H) (a := a) (d := d) (o := exd d [("what", v1)]) (u := exo a C (some d)) nd
    generalize upd (upd H d (exd d [("what", v1)])) a (exo a C (some d)) = H1 at e1 e2 e3
    refine ⟨_, rfl, _, rfl, a, C, rfl, T, n2, .inr ⟨d, _, e1, e2, (by show 1 ≤ 900; decide), ?_⟩⟩
    exact k d _ nd ne (by rw [upd_ne ne.symm]; exact e1) upd_same (keep3 nd e3)
theorem scBadRow : FnScope ["self", "row"] ["self", "row"] (defScope (inClass (topS 21) 0)) := ⟨rfl, rfl, rfl, by decide +kernel, rfl, by decide +kernel, by decide +kernel⟩
theorem iniBadRow {f C : Addr} {fd : FuncData} (F : Fun K "__init__" "BadRow.__init__" (inClass (topS 21) 0) f fd) (T : OexC K C) (n1 : PySem.W.findIn K (.ref C) "row" = some none) :
    FnOk P w K mg base CX0 1 f fd ["self", "row"] (spIni C ["row"]) := by
  refine F.ok scBadRow (fun vs H Q E h => ?_) (fun cdv A outer s H vs Q E hr h => ?_)
  · obtain ⟨a, xs, rfl, hl, _⟩ := h
    rw [List.length_cons, hl]
    all_goals rfl
  · obtain ⟨a, xs, rfl, hl, ha, k⟩ := h
    match xs, hl with
    | [v1], _ =>
    refine ⟨_, (pss_one (ps_ost (pv 0) (pv 1))), ?_⟩
    refine ⟨_, rfl, _, rfl, a, C, rfl, T, n1, .inl ⟨ha, fun d nd ne => ?_⟩⟩
    exact k d _ nd ne upd_same (by rw [upd_ne ne]; exact upd_same) (keep2 nd)
end
def tyD : PyData → String
  | .none => "NoneType"
  | .bool _ => "bool"
  | .int _ => "int"
  | .str _ => "str"
  | .list _ => "list"
  | .tuple _ => "tuple"
  | .dict _ => "dict"
theorem Dt.ty {K : PySem.W.Frag} {H : Hp} {v : V} {d : PyData} (h : Dt K H v d) : TyX K H v (.type (tyD d)) := by
  cases h with
  | non => exact .base .non
  | bl b => exact .base (.bl b)
  | int i => exact .base (.int i)
  | str x => exact .base (.str x)
  | lst h1 _ =>
    rcases h1 with (h1 | ⟨o, h1⟩) | ⟨o, _, _, h1, h2, _⟩
    · exact .base (.lst h1)
    · exact .base (.frz h1)
    · exact .kList h1 h2
  | tup h1 _ =>
    rcases h1 with (h1 | ⟨o, h1⟩) | ⟨o, _, _, h1, h2, _⟩
    · exact .base (.tup h1)
    · exact .fTuple h1
    · exact .kTuple h1 h2
  | dct h1 _ => exact .base (.dK h1)
def intD : PyData → Bool
  | .int _ => true
  | .bool _ => true
  | _ => false
def boolD : PyData → Bool
  | .bool _ => true
  | _ => false
def wholeD : PyData → Bool
  | .int _ => true
  | _ => false
theorem kit_int {K : PySem.W.Frag} (d : PyData) : PySem.W.kitOne K (.type (tyD d)) (.type "int") = some (intD d) := by
  cases d with
  | none => exact kit_ty (show kitB "NoneType" "int" = some false by decide +kernel)
  | bool _ => exact kit_ty (show kitB "bool" "int" = some true by decide +kernel)
  | int _ => exact kit_ty (show kitB "int" "int" = some true by decide +kernel)
  | str _ => exact kit_ty (show kitB "str" "int" = some false by decide +kernel)
  | list _ => exact kit_ty (show kitB "list" "int" = some false by decide +kernel)
  | tuple _ => exact kit_ty (show kitB "tuple" "int" = some false by decide +kernel)
  | dict _ => exact kit_ty (show kitB "dict" "int" = some false by decide +kernel)
theorem kit_bool {K : PySem.W.Frag} (d : PyData) : PySem.W.kitOne K (.type (tyD d)) (.type "bool") = some (boolD d) := by
  cases d with
  | none => exact kit_ty (show kitB "NoneType" "bool" = some false by decide +kernel)
  | bool _ => exact kit_ty (show kitB "bool" "bool" = some true by decide +kernel)
  | int _ => exact kit_ty (show kitB "int" "bool" = some false by decide +kernel)
  | str _ => exact kit_ty (show kitB "str" "bool" = some false by decide +kernel)
  | list _ => exact kit_ty (show kitB "list" "bool" = some false by decide +kernel)
  | tuple _ => exact kit_ty (show kitB "tuple" "bool" = some false by decide +kernel)
  | dict _ => exact kit_ty (show kitB "dict" "bool" = some false by decide +kernel)
/-- a ratio's top and bottom, as it is passed -/
def pair? : List PyData → Option (Int × Int)
  | [.int a, .int b] => if 0 < b then some (a, b) else none
  | _ => none
def partsD : PyData → Option (Int × Int)
  | .int i => some (i, 1)
  | .list ds => pair? ds
  | .tuple ds => pair? ds
  | _ => none
def seqD : PyData → Option (List PyData)
  | .list ds => some ds
  | .tuple ds => some ds
  | _ => none
theorem kit_seq {K : PySem.W.Frag} (d : PyData) : PySem.W.kitAny K (.type (tyD d)) [.type "tuple", .type "list"] = some (seqD d).isSome := by
  have two : ∀ {a b : Bool} {t : String}, kitB t "tuple" = some a → kitB t "list" = some b → PySem.W.kitAny K (.type t) [.type "tuple", .type "list"] = some (a || b) := fun {a b t} h1 h2 =>
    kitAny_cons (kit_ty h1) (fun e => by rw [e, Bool.false_or]; exact kitAny_cons (kit_ty h2) (fun e2 => by rw [e2]; exact kitAny_nil) (fun e2 => e2)) (fun e => by rw [e, Bool.true_or])
  cases d with
  | none => exact two (a := false) (b := false) (show kitB "NoneType" "tuple" = some false by decide +kernel) (show kitB "NoneType" "list" = some false by decide +kernel)
  | bool _ => exact two (a := false) (b := false) (show kitB "bool" "tuple" = some false by decide +kernel) (show kitB "bool" "list" = some false by decide +kernel)
  | int _ => exact two (a := false) (b := false) (show kitB "int" "tuple" = some false by decide +kernel) (show kitB "int" "list" = some false by decide +kernel)
  | str _ => exact two (a := false) (b := false) (show kitB "str" "tuple" = some false by decide +kernel) (show kitB "str" "list" = some false by decide +kernel)
  | list _ => exact two (a := false) (b := true) (show kitB "list" "tuple" = some false by decide +kernel) (show kitB "list" "list" = some true by decide +kernel)
  | tuple _ => exact two (a := true) (b := false) (show kitB "tuple" "tuple" = some true by decide +kernel) (show kitB "tuple" "list" = some false by decide +kernel)
  | dict _ => exact two (a := false) (b := false) (show kitB "dict" "tuple" = some false by decide +kernel) (show kitB "dict" "list" = some false by decide +kernel)
/-- built-in names that the text leaves alone, and gcd -/
structure Bk (mg : Str → Option Value) : Prop extends Bi mg where
  isinstance : mg "isinstance" = none
  bool : mg "bool" = none
  tuple : mg "tuple" = none
  abs : mg "abs" = none
  str : mg "str" = none
  gcd : mg "gcd" = some (.builtin "math.gcd")
/-- an error class with one __init__ of its own, as it is raised -/
structure Ex (P : Program) (w : World) (K : PySem.W.Frag) (mg : Str → Option Value) (base : Heap) (x : Str) (C : Addr) (names : List Str) where
  ox : OexC K C
  f : Addr
  fd : FuncData
  m : mg x = some (.ref C)
  iC : PySem.W.findIn K (.ref C) "__init__" = some (some (.ref f))
  tI : PySem.W.typeIn K (.ref f) = some (.type "function")
  b : Binds K fd ("self" :: names) []
  ok : FnOk P w K mg base CX0 1 f fd ("self" :: names) (spIni C names)
/-- a def of the text that may raise -/
structure Dx (P : Program) (w : World) (K : PySem.W.Frag) (mg : Str → Option Value) (base : Heap) (x : Str) (k : Nat) (ps : List Str) (sp : Sp) where
  f : Addr
  fd : FuncData
  m : mg x = some (.ref f)
  kp : PySem.W.keepIn K (.ref f) = true
  b : Binds K fd ps []
  ok : FnOk P w K mg base (L2.CX P w) k f fd ps sp
/-- what raise X(e, ..) leaves -/
theorem raise_end {C : Addr} {names : List Str} {H1 : Hp} {vs : List V} {W : XK} (hl : vs.length = names.length) (h : ∀ d H', Same H1 H' → H1 d = none → H' d = some (.xd (fl names vs)) → W (.ref C) (some d) H') :
    ∀ a, H1 a = none → spIni C names (.ref a :: (vs ++ [])) (upd H1 a (exo a C none)) (fun v H2 => v = .non ∧ ∃ (d : Addr) (fs : List (Str × V)), H2 a = some (exo a C (some d)) ∧ H2 d = some (exd d fs) ∧ H1 d = none ∧ W (.ref C) (some d) (upd (del H2 a) d (.xd fs))) (fun _ _ _ => False) := fun a na => by
  refine ⟨a, vs, by rw [List.append_nil], hl, upd_same, fun d H' nd ne ea ed k => ⟨rfl, d, fl names vs, ea, ed, ?_, ?_⟩⟩
  · rw [upd_ne ne] at nd
    exact nd
  · rw [upd_ne ne] at nd
    refine h d _ (fun b o e => ?_) nd upd_same
    have n1 := ne_of_none e na
    rw [upd_ne (ne_of_none e nd), del_ne n1]
    exact k b o n1 (by rw [upd_ne n1]; exact e)
def spWhole (K : PySem.W.Frag) : Sp := fun vs H Q _ => ∃ (v : V) (d : PyData), vs = [v] ∧ Dt K H v d ∧ Q (.bl (wholeD d)) H
def spIsRatio (K : PySem.W.Frag) : Sp := fun vs H Q _ => ∃ (v : V) (d : PyData), vs = [v] ∧ Dt K H v d ∧ ∀ H', Same H H' → Q (.bl (partsD d).isSome) H'
def big : Nat := 8800
def spLow : Sp := fun vs H Q _ => ∃ t b : Int, vs = [.int t, .int b] ∧ b ≠ 0 ∧ b.natAbs < 2 ^ big ∧ ∀ (p : Addr) (H' : Hp), Same H H' → H p = none → H' p = some (.tup [.int (low t b).1, .int (low t b).2]) → Q (.ref p) H'
/-- an error of BadNumber -/
def RaisesN (CN : Addr) (H : Hp) (wv v : V) (E : XK) : Prop := ∀ (d : Addr) (H' : Hp), Same H H' → H d = none → H' d = some (.xd (fl ["what", "number"] [wv, v])) → E (.ref CN) (some d) H'
theorem RaisesN.same {CN : Addr} {H H1 : Hp} {wv v : V} {E : XK} (s : Same H H1) (h : RaisesN CN H wv v E) : RaisesN CN H1 wv v E := fun d H' s' n e => h d H' (s.trans s') (s.free n) e
def spParts (K : PySem.W.Frag) (CN : Addr) : Sp := fun vs H Q E => ∃ (v wv : V) (d : PyData), vs = [v, wv] ∧ Dt K H v d ∧
  (∀ t b, partsD d = some (t, b) → ∀ (p : Addr) (H' : Hp), Same H H' → H' p = some (.tup [.int t, .int b]) → Q (.ref p) H') ∧ (partsD d = none → RaisesN CN H wv v E)
def spTold (K : PySem.W.Frag) (CN : Addr) : Sp := fun vs H Q E => ∃ (v wv : V) (d : PyData), vs = [v, wv] ∧ Dt K H v d ∧
  (∀ t b, partsD d = some (t, b) → b.natAbs < 2 ^ big ∧ ∀ (p : Addr) (H' : Hp), Same H H' → H' p = some (.tup [.int (low t b).1, .int (low t b).2]) → Q (.ref p) H') ∧ (partsD d = none → RaisesN CN H wv v E)
theorem pair_pos {ds : List PyData} {t b : Int} (h : pair? ds = some (t, b)) : ds = [.int t, .int b] ∧ 0 < b := by
  unfold pair? at h
  split at h
  · split at h
    · rename_i hb
      cases h
      exact ⟨rfl, hb⟩
    · cases h
  · cases h
theorem parts_pos {d : PyData} {t b : Int} (h : partsD d = some (t, b)) : 0 < b := by
  unfold partsD at h
  split at h
  · cases h
    decide
  · exact (pair_pos h).2
  · exact (pair_pos h).2
  · cases h
section
variable {P : Program} {w : World} {K : PySem.W.Frag} {mg : Str → Option Value} {base : Heap} {CN : Addr}
abbrev sIsWhole : Stmt := topS 23
abbrev sIsRatio : Stmt := topS 24
abbrev sLowest : Stmt := topS 26
abbrev sParts : Stmt := topS 27
abbrev sTold : Stmt := topS 28
theorem scIsWhole : FnScope ["value"] ["value"] (defScope sIsWhole) := ⟨rfl, rfl, rfl, by decide +kernel, rfl, by decide +kernel, by decide +kernel⟩
theorem ok_is_whole {f : Addr} {fd : FuncData} (F : Fun K "is_whole" "is_whole" sIsWhole f fd) (T : Bk mg) : FnOk P w K mg base CX0 1 f fd ["value"] (spWhole K) := by
  refine F.ok scIsWhole (fun vs H Q E h => ?_) (fun cdv A outer s H vs Q E hr h => ?_)
  · obtain ⟨v, d, rfl, _⟩ := h
    rfl
  · obtain ⟨v, d, rfl, hd, q⟩ := h
    refine ⟨_, (pss_one (ps_ret (pe_and (pe_callB call_isi (by rfl) T.isinstance (by decide +kernel) (pa_cons (pv 0) (pa_cons (pe_bltn (v := V.ty "int") (by rfl) T.int (by decide +kernel) rfl) pa_nil)))
      (pe_one (pe_not (pe_callB call_isi (by rfl) T.isinstance (by decide +kernel) (pa_cons (pv 0) (pa_cons (pe_bltn (v := V.ty "bool") (by rfl) T.bool (by decide +kernel) rfl) pa_nil)))))))), ?_⟩
    refine ⟨_, rfl, v, .ty "int", _, .type "int", _, rfl, .ty _, hd.ty, kit_int d, _, rfl, ?_⟩
    cases hi : intD d with
    | false =>
      refine iteF ?_
      have e : wholeD d = false := by cases d <;> first | rfl | (exact absurd hi (fun z => by cases z))
      rw [e] at q
      exact q
    | true =>
      refine iteT ?_
      refine ⟨_, rfl, v, .ty "bool", _, .type "bool", _, rfl, .ty _, hd.ty, kit_bool d, _, rfl, ?_⟩
      have e : wholeD d = !boolD d := by cases d <;> first | rfl | (exact absurd hi (fun z => by cases z))
      rw [e] at q
      exact q
theorem dts2 {H : Hp} {vs : List V} {a b : PyData} (h : Dts K H vs [a, b]) : ∃ x y, vs = [x, y] ∧ Dt K H x a ∧ Dt K H y b := by
  cases h with
  | cons h1 h2 =>
    cases h2 with
    | cons h3 h4 =>
      cases h4
      exact ⟨_, _, rfl, h1, h3⟩
/-- an item of a list or tuple -/
theorem seq_at {H : Hp} {a : Addr} {xs : List V} {Q : V → Hp → Prop} {z : Int} {x : V} (h : SqL K H a xs ∨ SqT K H a xs) (e : atI xs z = some x) (q : Q x H) : rIx K (.ref a) (.int z) H Q := by
  rcases h with h | h
  · exact .inl ⟨a, xs, z, x, rfl, rfl, h, e, q⟩
  · exact .inr (.inl ⟨a, xs, z, x, rfl, rfl, h, e, q⟩)
theorem Dt.seq {H : Hp} {v : V} {d : PyData} {ds : List PyData} (h : Dt K H v d) (e : seqD d = some ds) : ∃ a vs, v = .ref a ∧ (SqL K H a vs ∨ SqT K H a vs) ∧ Dts K H vs ds := by
  cases h with
  | lst h1 h2 =>
    cases e
    exact ⟨_, _, rfl, .inl h1, h2⟩
  | tup h1 h2 =>
    cases e
    exact ⟨_, _, rfl, .inr h1, h2⟩
  | _ => cases e
theorem scIsRatio : FnScope ["value"] ["value"] (defScope sIsRatio) := ⟨rfl, rfl, rfl, by decide +kernel, rfl, by decide +kernel, by decide +kernel⟩
theorem ok_is_ratio {f : Addr} {fd : FuncData} (F : Fun K "is_ratio" "is_ratio" sIsRatio f fd) (T : Bk mg) (Gw : Df P w K mg base "is_whole" 1 ["value"] (spWhole K)) : FnOk P w K mg base CX0 2 f fd ["value"] (spIsRatio K) := by
  refine F.ok scIsRatio (fun vs H Q E h => ?_) (fun cdv A outer s H vs Q E hr h => ?_)
  · obtain ⟨v, d, rfl, _⟩ := h
    rfl
  · obtain ⟨v, d, rfl, hd, q⟩ := h
    refine ⟨_, (pss_cons (ps_if (pt_val (pe_callB call_isiT (by rfl) T.isinstance (by decide +kernel) (pa_cons (pv 0) (pa_cons (pe_tup (pa_cons (pe_bltn (v := V.ty "tuple") (by rfl) T.tuple (by decide +kernel) rfl) (pa_cons (pe_bltn (v := V.ty "list") (by rfl) T.list (by decide +kernel) rfl) pa_nil))) pa_nil))))
      (pss_one (ps_ret (pe_and (pe_cmpR op_eq (pe_callB call_len_seq (by rfl) T.len (by decide +kernel) (pa_cons (pv 0) pa_nil)) pe_int (nomark _)) (pe_and (pe_call Gw.ok hr rfl Gw.m Gw.kp Gw.b .nil pass0 (pa_cons (pe_ix ix_seq (pv 0) pe_int (fun _ _ => rfl)) pa_nil)) (pe_and (pe_call Gw.ok hr rfl Gw.m Gw.kp Gw.b .nil pass0 (pa_cons (pe_ix ix_seq (pv 0) pe_int (fun _ _ => rfl)) pa_nil)) (pe_one (pe_cmpR op_gt (pe_ix ix_seq (pv 0) pe_int (fun _ _ => rfl)) pe_int (nomark _))))))))
      pss_nil)
      (pss_one (ps_ret (pe_call Gw.ok hr rfl Gw.m Gw.kp Gw.b .nil pass0 (pa_cons (pv 0) pa_nil))))), ?_⟩
    refine ⟨_, rfl, (by show 2 ≤ sizeLine; decide), fun tp ntp => ?_⟩
    have s1 : Same H (upd H tp (HO.tup [V.ty "tuple", V.ty "list"])) := same_upd ntp
    have e1 : upd H tp (HO.tup [V.ty "tuple", V.ty "list"]) tp = some (HO.tup [V.ty "tuple", V.ty "list"]) := upd_same
    generalize upd H tp (HO.tup [V.ty "tuple", V.ty "list"]) = H1 at s1 e1 ⊢
    have hd1 := hd.mono s1
    have q1 := q H1 s1
    refine ⟨v, tp, _, _, [.type "tuple", .type "list"], _, rfl, e1, .cons (.ty _) (.cons (.ty _) .nil), hd1.ty, kit_seq d, _, rfl, ?_⟩
    cases hs : seqD d with
    | none =>
      refine iteF ?_
      refine ⟨_, rfl, v, d, rfl, hd1, ?_⟩
      have e : (partsD d).isSome = wholeD d := by cases d <;> first | rfl | cases hs
      rw [e] at q1
      exact q1
    | some ds =>
      refine iteT ?_
      have ep : partsD d = pair? ds := by cases d <;> first | (cases hs; rfl) | cases hs
      rw [ep] at q1
      obtain ⟨a, vs, rfl, hsq, hds⟩ := hd1.seq hs
      refine ⟨_, rfl, a, vs, rfl, hsq, rfl, _, rfl, ?_⟩
      by_cases hl : vs.length = 2
      · rw [decide_eq_true (by rw [hl]; rfl)]
        refine iteT ?_
        have hl2 : ds.length = 2 := by rw [← hds.len]; exact hl
        match ds, hl2 with
        | [d0, d1], _ =>
        obtain ⟨x, y, rfl, hx, hy⟩ := dts2 hds
        refine ⟨_, rfl, seq_at hsq (at_of (j := 0) rfl rfl) ?_⟩
        refine ⟨x, d0, rfl, hx, _, rfl, ?_⟩
        cases h0 : wholeD d0 with
        | false =>
          refine iteF ?_
          have e : pair? [d0, d1] = none := by cases d0 <;> first | rfl | (cases h0)
          rw [e] at q1
          exact q1
        | true =>
          refine iteT ?_
          refine ⟨_, rfl, seq_at hsq (at_of (j := 1) rfl rfl) ?_⟩
          refine ⟨y, d1, rfl, hy, _, rfl, ?_⟩
          cases h1 : wholeD d1 with
          | false =>
            refine iteF ?_
            have e : pair? [d0, d1] = none := by cases d0 <;> cases d1 <;> first | rfl | (cases h1) | (cases h0)
            rw [e] at q1
            exact q1
          | true =>
            refine iteT ?_
            obtain ⟨i, rfl⟩ : ∃ i, d0 = .int i := by cases d0 <;> first | exact ⟨_, rfl⟩ | cases h0
            obtain ⟨j, rfl⟩ : ∃ j, d1 = .int j := by cases d1 <;> first | exact ⟨_, rfl⟩ | cases h1
            cases hy
            refine ⟨_, rfl, seq_at hsq (at_of (j := 1) rfl rfl) ?_⟩
            refine ⟨_, _, rfl, rfl, ?_⟩
            have e : (pair? [PyData.int i, PyData.int j]).isSome = decide (0 < j) := by
              show (if 0 < j then some (i, j) else none).isSome = decide (0 < j)
              by_cases hj : 0 < j
              · rw [if_pos hj, decide_eq_true hj]; rfl
              · rw [if_neg hj, decide_eq_false hj]; rfl
            rw [e] at q1
            exact q1
      · rw [decide_eq_false (fun z => hl (by have z2 := V.int.inj z; omega))]
        refine iteF ?_
        have e : pair? ds = none := by
          cases hp : pair? ds with
          | none => rfl
          | some tb =>
            obtain ⟨t, b⟩ := tb
            have z := (pair_pos hp).1
            rw [hds.len, z] at hl
            exact absurd rfl hl
        rw [e] at q1
        exact q1
theorem scLowest : FnScope ["top", "bottom", "shared"] ["top", "bottom"] (defScope sLowest) := ⟨rfl, rfl, rfl, by decide +kernel, rfl, by decide +kernel, by decide +kernel⟩
theorem log_of {z : Int} {k : Nat} (hk : 0 < k) (h : z.natAbs < 2 ^ k) : z.natAbs.log2 < k := PySem.Flt.log2_lt_of hk h
theorem sg_cdiv {t b x : Int} (h : b ≠ 0) (hb : b.natAbs < 2 ^ big) : CDivZ x (sg t b) :=
  ⟨sg_ne h, Nat.lt_trans (log_of (k := big) (by decide) (Nat.lt_of_le_of_lt (sg_size h) hb)) (by decide)⟩
theorem ok_lowest {f : Addr} {fd : FuncData} (F : Fun K "lowest" "lowest" sLowest f fd) (T : Bk mg) : FnOk P w K mg base CX0 1 f fd ["top", "bottom"] spLow := by
  refine F.ok scLowest (fun vs H Q E h => ?_) (fun cdv A outer s H vs Q E hr h => ?_)
  · obtain ⟨t, b, rfl, _⟩ := h
    rfl
  · obtain ⟨t, b, rfl, hb, hz, q⟩ := h
    refine ⟨_, (pss_cons (ps_set (i := 2) scLowest.nd rfl (Or.inl rfl) (pe_callBfun cr_gcd (by rfl) T.gcd (pa_cons (pv 0) (pa_cons (pv 1) pa_nil))))
      (C8.pss_cut (ps_if (pt_cmpR op_lt (pv 1) pe_int (nomark _)) (pss_one (ps_set (i := 2) scLowest.nd rfl (Or.inl rfl) (pe_un un_neg (pv 2)))) pss_nil)
      (pss_one (ps_ret (pe_tup (pa_cons (pe_op op_fdivZ (pv 0) (pv 2)) (pa_cons (pe_op op_fdivZ (pv 1) (pv 2)) pa_nil))))))), ?_⟩
    refine ⟨_, rfl, _, rfl, t, b, rfl, fun σ H2 => H2 = H ∧ σ = [some (.int t), some (.int b), some (.int (sg t b))], ?_, ?_⟩
    · refine ⟨_, rfl, _, _, rfl, rfl, _, rfl, ?_⟩
      refine ite2 (fun hlt => ?_) (fun hlt => ?_)
      · have h2 : b < 0 := of_decide_eq_true hlt
        refine ⟨_, rfl, _, rfl, rfl, ?_⟩
        unfold sg
        rw [if_pos h2]
        rfl
      · have h2 : ¬ b < 0 := fun z => hlt (decide_eq_true z)
        refine ⟨rfl, ?_⟩
        unfold sg
        rw [if_neg h2]
        rfl
    · rintro σ H2 ⟨rfl, rfl⟩
      refine ⟨_, rfl, _, rfl, _, _, rfl, rfl, sg_cdiv hb hz, _, rfl, _, rfl, _, _, rfl, rfl, sg_cdiv hb hz, (by show 2 ≤ sizeLine; decide), fun p np => ?_⟩
      exact q p _ (same_upd np) np upd_same
theorem scParts : FnScope ["value", "what"] ["value", "what"] (defScope sParts) := ⟨rfl, rfl, rfl, by decide +kernel, rfl, by decide +kernel, by decide +kernel⟩
theorem ok_parts {f : Addr} {fd : FuncData} (F : Fun K "parts_of" "parts_of" sParts f fd) (T : Bk mg) (Gr : Df P w K mg base "is_ratio" 2 ["value"] (spIsRatio K)) (N : Ex P w K mg base "BadNumber" CN ["what", "number"]) :
    FnOk P w K mg base (L2.CX P w) 3 f fd ["value", "what"] (spParts K CN) := by
  refine F.okX scParts (fun vs H Q E h => ?_) (fun cdv A outer s H vs Q E hr h => ?_)
  · obtain ⟨v, wv, d, rfl, _⟩ := h
    rfl
  · obtain ⟨v, wv, d, rfl, hd, q, e⟩ := h
    refine ⟨_, (pss_cons (ps_if (pt_not (pt_val (pe_call Gr.ok hr rfl Gr.m Gr.kp Gr.b .nil pass0 (pa_cons (pv 0) pa_nil))))
        (pss_one (ps_raise rfl (takes_of rfl rfl rfl rfl) (pmk_oex N.ox N.iC N.tI N.ok hr N.b .nil pass0 (by rfl) N.m (pa_cons (pv 1) (pa_cons (pv 0) pa_nil)))))
        pss_nil)
      (pss_cons (ps_if (pt_val (pe_callB call_isi (by rfl) T.isinstance (by decide +kernel) (pa_cons (pv 0) (pa_cons (pe_bltn (v := V.ty "int") (by rfl) T.int (by decide +kernel) rfl) pa_nil))))
        (pss_one (ps_ret (pe_tup (pa_cons (pv 0) (pa_cons pe_int pa_nil)))))
        pss_nil)
      (pss_one (ps_ret (pe_tup (pa_cons (pe_ix ix_seq (pv 0) pe_int (fun _ _ => rfl)) (pa_cons (pe_ix ix_seq (pv 0) pe_int (fun _ _ => rfl)) pa_nil))))))), ?_⟩
    refine ⟨_, rfl, v, d, rfl, hd, fun H1 s1 => ⟨_, rfl, ?_⟩⟩
    have hd1 := hd.mono s1
    cases hp : partsD d with
    | none =>
      refine iteT ?_
      refine ⟨_, rfl, _, rfl, (by show 2 ≤ 1000; decide), ?_⟩
      exact raise_end rfl fun dd H' s2 n e2 => (e hp).same s1 dd H' s2 n e2
    | some tb =>
      obtain ⟨t, b⟩ := tb
      refine iteF ?_
      refine ⟨_, rfl, v, .ty "int", _, .type "int", _, rfl, .ty _, hd1.ty, kit_int d, _, rfl, ?_⟩
      cases hs : seqD d with
      | none =>
        obtain ⟨i, rfl⟩ : ∃ i, d = .int i := by cases d <;> first | exact ⟨_, rfl⟩ | cases hp | cases hs
        cases hp
        cases hd1
        refine iteT ?_
        refine ⟨_, rfl, (by show 2 ≤ sizeLine; decide), fun p np => ?_⟩
        exact q _ _ rfl p _ (s1.trans (same_upd np)) upd_same
      | some ds =>
        have hi : intD d = false := by cases d <;> first | rfl | cases hs
        rw [hi]
        refine iteF ?_
        have ep : partsD d = pair? ds := by cases d <;> first | (cases hs; rfl) | cases hs
        have hp2 := hp
        rw [ep] at hp2
        obtain ⟨rfl, hb⟩ := pair_pos hp2
        obtain ⟨a, vs, rfl, hsq, hds⟩ := hd1.seq hs
        obtain ⟨x, y, rfl, hx, hy⟩ := dts2 hds
        cases hx
        cases hy
        refine ⟨_, rfl, seq_at hsq (at_of (j := 0) rfl rfl) ?_⟩
        refine ⟨_, rfl, seq_at hsq (at_of (j := 1) rfl rfl) ?_⟩
        refine ⟨(by show 2 ≤ sizeLine; decide), fun p np => ?_⟩
        exact q _ _ hp p _ (s1.trans (same_upd np)) upd_same
theorem scTold : FnScope ["value", "what", "top", "bottom"] ["value", "what"] (defScope sTold) := ⟨rfl, rfl, rfl, by decide +kernel, rfl, by decide +kernel, by decide +kernel⟩
theorem ok_told {f : Addr} {fd : FuncData} (F : Fun K "told" "told" sTold f fd) (Gp : Dx P w K mg base "parts_of" 3 ["value", "what"] (spParts K CN)) (Gl : Df P w K mg base "lowest" 1 ["top", "bottom"] spLow) :
    FnOk P w K mg base (L2.CX P w) 4 f fd ["value", "what"] (spTold K CN) := by
  refine F.okX scTold (fun vs H Q E h => ?_) (fun cdv A outer s H vs Q E hr h => ?_)
  · obtain ⟨v, wv, d, rfl, _⟩ := h
    rfl
  · obtain ⟨v, wv, d, rfl, hd, q, e⟩ := h
    refine ⟨_, (pss_cons (ps_asg (pe_call Gp.ok hr rfl Gp.m Gp.kp Gp.b .nil (E := E) (passes_call (takes_of rfl rfl rfl rfl) (fun _ _ _ _ h => h)) (pa_cons (pv 0) (pa_cons (pv 1) pa_nil))) (pg_tup (by rfl) (pgs_cons (pg_name (i := 2) scTold.nd rfl (Or.inl rfl)) (pgs_cons (pg_name (i := 3) scTold.nd rfl (Or.inl rfl)) pgs_nil))))
      (pss_one (ps_ret (pe_call Gl.ok (hr.mono (by decide)) rfl Gl.m Gl.kp Gl.b .nil pass0 (pa_cons (pv 2) (pa_cons (pv 3) pa_nil)))))), ?_⟩
    refine ⟨_, rfl, _, rfl, v, wv, d, rfl, hd, fun t b hp p H1 s1 e1 => ?_, e⟩
    obtain ⟨hz, q⟩ := q t b hp
    have hb := parts_pos hp
    refine ⟨p, _, rfl, SqT.of e1, rfl, _, _, rfl, _, _, rfl, rfl, ?_⟩
    refine ⟨_, rfl, _, rfl, t, b, rfl, by omega, hz, fun p2 H2 s2 n2 e2 => ?_⟩
    exact q p2 H2 (s1.trans s2) e2
end
end Vf
set_option maxRecDepth 100000
set_option maxHeartbeats 8000000
namespace Vf
open PySem PySem.Spec PyProof.Rows L2
/-- below 2 ^ 4300 in size -/
def Sz (z : Int) : Prop := z.natAbs < 2 ^ 4300
theorem sz_mulW {x y : Int} (h1 : Sz x) (h2 : Sz y) : CMulW x y := wide_mul h1 h2 (by decide) (by decide) (by decide)
theorem sz_mul {x y : Int} (h1 : Sz x) (h2 : Sz y) : (x * y).natAbs < 2 ^ 8600 := wide_lt h1 h2
/-- what a def of two ratios promises: of the right ones ok, of the first wrong one the error -/
def spTwo (K : PySem.W.Frag) (CN : Addr) (ok : V → Int → Int → Int → Int → Hp → VK → XK → Prop) : Sp := fun vs H Q E => ∃ (v u : V) (d e : PyData), vs = [v, u] ∧ Dt K H v d ∧ Dt K H u e ∧
  (∀ t b x c, partsD d = some (t, b) → partsD e = some (x, c) → Sz t ∧ Sz b ∧ Sz x ∧ Sz c ∧ ok u t b x c H Q E) ∧
  (partsD d = none → RaisesN CN H (.str "ratio") v E) ∧ ((partsD d).isSome = true → partsD e = none → RaisesN CN H (.str "ratio") u E)
def okLow (g : Int → Int → Int → Int → Int × Int) : V → Int → Int → Int → Int → Hp → VK → XK → Prop := fun _ t b x c H Q _ =>
  ∀ (p : Addr) (H' : Hp), Same H H' → H' p = some (.tup [.int (low (g t b x c).1 (g t b x c).2).1, .int (low (g t b x c).1 (g t b x c).2).2]) → Q (.ref p) H'
def gTimes (t b x c : Int) : Int × Int := (t * x, b * c)
section
variable {P : Program} {w : World} {K : PySem.W.Frag} {mg : Str → Option Value} {base : Heap} {CN : Addr}
abbrev sTimes : Stmt := topS 30
theorem scTimes : FnScope ["one", "other", "top", "bottom", "other_top", "other_bottom"] ["one", "other"] (defScope sTimes) := ⟨rfl, rfl, rfl, by decide +kernel, rfl, by decide +kernel, by decide +kernel⟩
theorem ok_times {f : Addr} {fd : FuncData} (F : Fun K "times" "times" sTimes f fd) (Gp : Dx P w K mg base "parts_of" 3 ["value", "what"] (spParts K CN)) (Gl : Df P w K mg base "lowest" 1 ["top", "bottom"] spLow) (N : Ex P w K mg base "BadNumber" CN ["what", "number"]) :
    FnOk P w K mg base (L2.CX P w) 4 f fd ["one", "other"] (spTwo K CN (okLow gTimes)) := by
  refine F.okX scTimes (fun vs H Q E h => ?_) (fun cdv A outer s H vs Q E hr h => ?_)
  · obtain ⟨v, u, d, e, rfl, _⟩ := h
    rfl
  · obtain ⟨v, u, d, e, rfl, hd, he', q, r1, r2⟩ := h
    refine ⟨_, (pss_cons (ps_asg (pe_call Gp.ok hr rfl Gp.m Gp.kp Gp.b .nil (E := E) (passes_call (takes_of rfl rfl rfl rfl) (fun _ _ _ _ h => h)) (pa_cons (pv 0) (pa_cons pe_str pa_nil))) (pg_tup (by rfl) (pgs_cons (pg_name (i := 2) scTimes.nd rfl (Or.inl rfl)) (pgs_cons (pg_name (i := 3) scTimes.nd rfl (Or.inl rfl)) pgs_nil))))
      (pss_cons (ps_asg (pe_call Gp.ok hr rfl Gp.m Gp.kp Gp.b .nil (E := E) (passes_call (takes_of rfl rfl rfl rfl) (fun _ _ _ _ h => h)) (pa_cons (pv 1) (pa_cons pe_str pa_nil))) (pg_tup (by rfl) (pgs_cons (pg_name (i := 4) scTimes.nd rfl (Or.inl rfl)) (pgs_cons (pg_name (i := 5) scTimes.nd rfl (Or.inl rfl)) pgs_nil))))
      (pss_one (ps_ret (pe_call Gl.ok (hr.mono (by decide)) rfl Gl.m Gl.kp Gl.b .nil pass0 (pa_cons (pe_op op_mulW (pv 2) (pv 4)) (pa_cons (pe_op op_mulW (pv 3) (pv 5)) pa_nil))))))), ?_⟩
    refine ⟨_, rfl, v, .str "ratio", d, rfl, hd, fun t b hp p H1 s1 e1 => ?_, r1⟩
    have r2 := r2 (by rw [hp]; rfl)
    have q := fun x c he => q t b x c hp he
    refine ⟨p, _, rfl, SqT.of e1, rfl, _, _, rfl, _, _, rfl, rfl, ?_⟩
    refine ⟨_, rfl, u, .str "ratio", e, rfl, he'.mono s1, fun x c he p2 H2 s2 e2 => ?_, fun z => (r2 z).same s1⟩
    refine ⟨p2, _, rfl, SqT.of e2, rfl, _, _, rfl, _, _, rfl, rfl, ?_⟩
    obtain ⟨ht, hb, hx, hc, q⟩ := q x c he
    have s12 := s1.trans s2
    refine ⟨_, rfl, _, rfl, _, _, rfl, rfl, sz_mulW ht hx, _, rfl, _, rfl, _, _, rfl, rfl, sz_mulW hb hc, _, _, rfl, by have := parts_pos hp; have := parts_pos he; exact Int.ne_of_gt (Int.mul_pos ‹_› ‹_›), Nat.lt_trans (sz_mul hb hc) (by decide +kernel), fun p H4 s4 n4 e4 => ?_⟩
    exact q p H4 (s12.trans s4) e4
end
def spGcd : Sp := fun vs H Q _ => ∃ a b : Int, vs = [.int a, .int b] ∧ a.natAbs < 2 ^ big ∧ b.natAbs < 2 ^ big ∧ Q (.int ((Nat.gcd a.natAbs b.natAbs : Nat) : Int)) H
def spQ : Sp := fun vs H Q _ => ∃ t b : Int, vs = [.int t, .int b] ∧ b ≠ 0 ∧ t.natAbs < 2 ^ big ∧ b.natAbs < 2 ^ big ∧ ∀ (p : Addr) (H' : Hp), Same H H' → H p = none → H' p = some (.tup [.int (low t b).1, .int (low t b).2]) → Q (.ref p) H'
section
variable {P : Program} {w : World} {K : PySem.W.Frag} {mg : Str → Option Value} {base : Heap} {CN : Addr}
abbrev sLGcd : Stmt := topS 50
abbrev sLQ : Stmt := topS 51
theorem scLGcd : FnScope ["_law_one", "_law_two", "_law_lap"] ["_law_one", "_law_two"] (defScope sLGcd) := ⟨rfl, rfl, rfl, by decide +kernel, rfl, by decide +kernel, by decide +kernel⟩
theorem ok_lgcd {f : Addr} {fd : FuncData} (F : Fun K "_law_gcd" "_law_gcd" sLGcd f fd) (T : Bk mg) : FnOk P w K mg base CX0 1 f fd ["_law_one", "_law_two"] spGcd := by
  refine F.ok scLGcd (fun vs H Q E h => ?_) (fun cdv A outer s H vs Q E hr h => ?_)
  · obtain ⟨a, b, rfl, _⟩ := h
    rfl
  · obtain ⟨a, b, rfl, ha, hb, q⟩ := h
    refine ⟨_, (pss_cons (ps_par (i := 0) (j := 1) (by rfl) scLGcd.nd rfl rfl (by decide) rfl rfl (pa_cons (pe_callB call_abs (by rfl) T.abs (by decide +kernel) (pa_cons (pv 0) pa_nil)) (pa_cons (pe_callB call_abs (by rfl) T.abs (by decide +kernel) (pa_cons (pv 1) pa_nil)) pa_nil)) (by rfl))
      (pss_cons (ps_for PassesOwn.never rfl (pi_range1 (by rfl) T.range (pa_cons pe_int pa_nil)) (pg_name (i := 2) scLGcd.nd rfl (Or.inl rfl))
        (pss_cons (ps_if (pt_cmpR op_eq (pv 1) pe_int (nomark _)) (pss_one ps_break) pss_nil)
        (pss_one (ps_par (i := 0) (j := 1) (by rfl) scLGcd.nd rfl rfl (by decide) rfl rfl (pa_cons (pv 1) (pa_cons (pe_op op_mod (pe_callTy call_int1 (by rfl) T.int (by decide +kernel) (pa_cons (pv 0) pa_nil)) (pv 1)) pa_nil)) (by rfl)))))
      (pss_one (ps_ret (pv 0))))), ?_⟩
    refine ⟨_, rfl, _, rfl, _, rfl, _, rfl, _, _, rfl, ?_⟩
    refine ⟨50000, rfl, by decide, by decide, for_range (lo := 0) (n := 50000) (fun i σ H2 => H2 = H ∧ ∃ (x y : Int) (v : Option V), σ = [some (.int x), some (.int y), v] ∧ Lap (Nat.gcd a.natAbs b.natAbs) (a.natAbs * b.natAbs) i x y) ⟨rfl, _, _, none, rfl, lap0 a b⟩ ?_ ?_⟩
    · rintro i σ H2 hi ⟨rfl, x, y, v, rfl, h⟩
      refine ⟨_, rfl, rfl, _, rfl, ?_⟩
      by_cases hy : y = 0
      · rw [decide_eq_true (by rw [hy])]
        refine iteT ?_
        refine ⟨_, rfl, ?_⟩
        have e := lap_end h hy
        rw [e]
        exact q
      · rw [decide_eq_false (fun z => hy (by have z2 := V.int.inj z; exact z2))]
        refine iteF ?_
        have y0 := h.b0
        refine ⟨_, rfl, _, rfl, .inl ⟨_, rfl, _, rfl, _, _, rfl, rfl, (by show 0 < y; omega), _, _, rfl, ?_⟩⟩
        exact ⟨rfl, _, _, _, rfl, lap_next h hy⟩
    · rintro σ H2 ⟨rfl, x, y, v, rfl, h⟩
      have hP : a.natAbs * b.natAbs < 2 ^ (50000 - 1) := by
        have z : a.natAbs * b.natAbs < 2 ^ (big + big) := by
          rw [Nat.pow_add]
          exact Nat.mul_lt_mul'' ha hb
        exact Nat.lt_trans z (Nat.pow_lt_pow_right (by decide) (by decide))
      have e := lap_end h (lap_over h (by decide) hP)
      refine ⟨_, rfl, ?_⟩
      rw [e]
      exact q
theorem scLQ : FnScope ["_law_top", "_law_bottom", "_law_by"] ["_law_top", "_law_bottom"] (defScope sLQ) := ⟨rfl, rfl, rfl, by decide +kernel, rfl, by decide +kernel, by decide +kernel⟩
theorem ok_lq {f : Addr} {fd : FuncData} (F : Fun K "_law_q" "_law_q" sLQ f fd) (G : Df P w K mg base "_law_gcd" 1 ["_law_one", "_law_two"] spGcd) : FnOk P w K mg base CX0 2 f fd ["_law_top", "_law_bottom"] spQ := by
  refine F.ok scLQ (fun vs H Q E h => ?_) (fun cdv A outer s H vs Q E hr h => ?_)
  · obtain ⟨t, b, rfl, _⟩ := h
    rfl
  · obtain ⟨t, b, rfl, hb, ht, hz, q⟩ := h
    refine ⟨_, (pss_cons (ps_set (i := 2) scLQ.nd rfl (Or.inl rfl) (pe_call G.ok hr rfl G.m G.kp G.b .nil pass0 (pa_cons (pv 0) (pa_cons (pv 1) pa_nil))))
      (pss_cons (ps_set (i := 2) scLQ.nd rfl (Or.inl rfl) (pe_ifExp (pt_cmpR op_lt (pv 1) pe_int (nomark _)) (pe_un un_neg (pv 2)) (pv 2)))
      (pss_one (ps_ret (pe_tup (pa_cons (pe_op op_fdivZ (pv 0) (pv 2)) (pa_cons (pe_op op_fdivZ (pv 1) (pv 2)) pa_nil))))))), ?_⟩
    have tail : ∀ s : Int, s = sg t b → (∀ p, H p = none → Q (.ref p) (upd H p (.tup [.int (t.fdiv s), .int (b.fdiv s)]))) := fun s e p np => by
      rw [e]
      exact q p _ (same_upd np) np upd_same
    refine ⟨_, rfl, _, rfl, t, b, rfl, ht, hz, _, rfl, _, _, rfl, rfl, _, rfl, ?_⟩
    refine ite2 (fun hlt => ?_) (fun hlt => ?_)
    · have h2 : b < 0 := of_decide_eq_true hlt
      have e : -((Nat.gcd t.natAbs b.natAbs : Nat) : Int) = sg t b := by unfold sg; rw [if_pos h2]
      have c : ∀ x : Int, CDivZ x (-((Nat.gcd t.natAbs b.natAbs : Nat) : Int)) := fun x => by rw [e]; exact sg_cdiv hb hz
      exact ⟨_, rfl, _, rfl, _, rfl, _, rfl, _, _, rfl, rfl, c _, _, rfl, _, rfl, _, _, rfl, rfl, c _, (by show 2 ≤ sizeLine; decide), tail _ e⟩
    · have h2 : ¬ b < 0 := fun z => hlt (decide_eq_true z)
      have e : ((Nat.gcd t.natAbs b.natAbs : Nat) : Int) = sg t b := by unfold sg; rw [if_neg h2]
      have c : ∀ x : Int, CDivZ x ((Nat.gcd t.natAbs b.natAbs : Nat) : Int) := fun x => by rw [e]; exact sg_cdiv hb hz
      exact ⟨_, rfl, _, rfl, _, rfl, _, _, rfl, rfl, c _, _, rfl, _, rfl, _, _, rfl, rfl, c _, (by show 2 ≤ sizeLine; decide), tail _ e⟩
end
end Vf
set_option maxRecDepth 100000
set_option maxHeartbeats 4000000
namespace Vf
open PySem PySem.Spec PyProof.Rows L2
section
variable {X : Cx} {tg : Expr}
/-- a walk over a list or a tuple -/
def iSeq (K : PySem.W.Frag) (tl : TE) : TI := fun σ H R => tl σ H fun x H1 => ∃ a, x = .ref a ∧ ((∃ xs, SqL K H1 a xs ∧ R (Itl K a) H1) ∨ (∃ xs, SqT K H1 a xs ∧ R (Itt K a) H1))
theorem pi_seq {l : Expr} {tl : TE} (hl : PE X l tl) : PI X tg l (iSeq X.K tl) := by
  refine ⟨fun pins s σ H R I h => ?_⟩
  refine thn (hl.run pins s σ H _ I h) fun v s1 ⟨x, H1, I1, r1, q1⟩ => ?_
  obtain ⟨a, e, q1⟩ := q1
  subst e
  rcases q1 with ⟨xs, hq, q⟩ | ⟨xs, hq, q⟩
  · cases r1
    obtain ⟨its, rv, p, hz⟩ := I1.list hq
    refine wpAny_pyIter_list p.isList ?_
    refine ⟨s1.heap.objs.size, [s1.heap.objs.size], _, _, H1, rfl, I1.kept (t' := s1.toks) fun b o e => Heap.get?_push_of_some _ e, turn_list a _, ⟨_, Heap.get?_push_size _ rfl, rfl, rfl⟩, fun b hb => ?_, q⟩
    have e : b = s1.heap.objs.size := by simpa using hb
    subst e
    exact I1.fpOk (Nat.le_refl _) (I1.hok.fresh (Nat.le_refl _))
  · cases r1
    obtain ⟨its, rv, p, hz⟩ := I1.tuple hq
    refine wpAny_pyIter_tuple (show s1.heap.IsTuple a its.toArray from p) ?_
    refine ⟨s1.heap.objs.size, [s1.heap.objs.size], _, _, H1, rfl, I1.kept (t' := s1.toks) fun b o e => Heap.get?_push_of_some _ e, turn_tuple a _, ⟨_, Heap.get?_push_size _ rfl, rfl, rfl⟩, fun b hb => ?_, q⟩
    have e : b = s1.heap.objs.size := by simpa using hb
    subst e
    exact I1.fpOk (Nat.le_refl _) (I1.hok.fresh (Nat.le_refl _))
/-- == and != of data without dicts -/
def rEqT (K : PySem.W.Frag) : R2 := fun x y H Q => ∃ d e, Dt K H x d ∧ Dt K H y e ∧ d.plain = true ∧ e.plain = true ∧ d.depth ≤ 60 ∧ Q (.bl (PyData.eqv d e)) H
def rNeT (K : PySem.W.Frag) : R2 := fun x y H Q => ∃ d e, Dt K H x d ∧ Dt K H y e ∧ d.plain = true ∧ e.plain = true ∧ d.depth ≤ 60 ∧ Q (.bl (!PyData.eqv d e)) H
theorem op_eqT (hu : X.A.units + 64 < cLine) (m : M1 X.base) : OpR X (compareOp .Eq) (rEqT X.K) := by
  intro pins s σ H x y v u Q I rx ry h
  obtain ⟨d, e, hd, he, pd, pe, hz, q⟩ := h
  obtain ⟨as, r1, _⟩ := Dt.reads I m hd rx
  obtain ⟨bs, r2, _⟩ := Dt.reads I m he ry
  exact SeqAt.eq_plain r1 r2 pd pe (by have := Nat.min_le_left d.depth e.depth; omega) ⟨.bl _, H, I, rfl, q⟩
theorem op_neT (hu : X.A.units + 64 < cLine) (m : M1 X.base) : OpR X (compareOp .NotEq) (rNeT X.K) := by
  intro pins s σ H x y v u Q I rx ry h
  obtain ⟨d, e, hd, he, pd, pe, hz, q⟩ := h
  obtain ⟨as, r1, _⟩ := Dt.reads I m hd rx
  obtain ⟨bs, r2, _⟩ := Dt.reads I m he ry
  exact SeqAt.ne_plain r1 r2 pd pe (by have := Nat.min_le_left d.depth e.depth; omega) ⟨.bl _, H, I, rfl, q⟩
end
/-- what is new in the second heap -/
def nw (H H' : Hp) : Hp := fun b => match H b with
  | some _ => none
  | none => H' b
theorem nw_at {H H' : Hp} {b : Addr} {o : HO} (h : H b = none) (e : H' b = some o) : nw H H' b = some o := by
  unfold nw
  rw [h]
  exact e
theorem nw_get {H H' : Hp} {b : Addr} {o : HO} (e : nw H H' b = some o) : H b = none ∧ H' b = some o := by
  unfold nw at e
  split at e
  · cases e
  · exact ⟨by assumption, e⟩
/-- the heap without l and p -/
def fz (l p : Addr) (H : Hp) : Hp := fun b => if b = l ∨ b = p then none else H b
theorem fz_at {l p b : Addr} {H : Hp} {o : HO} (h1 : b ≠ l) (h2 : b ≠ p) (e : H b = some o) : fz l p H b = some o := by
  unfold fz
  rw [if_neg (fun z => z.elim h1 h2)]
  exact e
theorem fz_get {l p b : Addr} {H : Hp} {o : HO} (e : fz l p H b = some o) : b ≠ l ∧ b ≠ p ∧ H b = some o := by
  unfold fz at e
  by_cases h : b = l ∨ b = p
  · rw [if_pos h] at e
    cases e
  · rw [if_neg h] at e
    exact ⟨fun z => h (.inl z), fun z => h (.inr z), e⟩
theorem fz_sub {l p : Addr} {H : Hp} : Same (fz l p H) H := fun b o e => (fz_get e).2.2
theorem fz_mono {l p : Addr} {H H' : Hp} (k : ∀ b o, b ≠ l → b ≠ p → H b = some o → H' b = some o) : Same (fz l p H) (fz l p H') := fun b o e => by
  obtain ⟨h1, h2, h3⟩ := fz_get e
  exact fz_at h1 h2 (k b o h1 h2 h3)
theorem nw_fz {l p : Addr} {H H' : Hp} {o1 o2 : HO} (hl : H l = some o1) (hp : H p = some o2) : Same (nw H H') (fz l p H') := fun b o e => by
  obtain ⟨h1, h2⟩ := nw_get e
  exact fz_at (fun z => by rw [z, hl] at h1; cases h1) (fun z => by rw [z, hp] at h1; cases h1) h2
theorem some_free {p b : Addr} {H H' : Hp} {o : HO} (k : ∀ c u, c ≠ p → H c = some u → H' c = some u) (hp : H' p = some o) (n : H' b = none) : H b = none := by
  cases e : H b with
  | none => rfl
  | some u =>
    by_cases h : b = p
    · rw [h, hp] at n
      cases n
    · rw [k b u h e] at n
      cases n
def pairD (p : Int × Int) : PyData := .tuple [.int p.1, .int p.2]
/-- a row without the zeros behind -/
def strip (l : List (Int × Int)) : List (Int × Int) := (l.reverse.dropWhile fun p => p.1 == 0).reverse
theorem strip_nil : strip [] = [] := rfl
theorem strip_snoc (l : List (Int × Int)) (x : Int × Int) : strip (l ++ [x]) = if x.1 = 0 then strip l else l ++ [x] := by
  unfold strip
  rw [List.reverse_append]
  simp only [List.reverse_cons, List.reverse_nil, List.nil_append, List.singleton_append, List.dropWhile_cons, beq_iff_eq]
  split
  · rfl
  · rw [List.reverse_cons, List.reverse_reverse]
theorem snoc_ind {α : Type} {P : List α → Prop} (h0 : P []) (hs : ∀ l x, P l → P (l ++ [x])) : ∀ l, P l := fun l => by
  have h : ∀ r : List α, P r.reverse := fun r => by
    induction r with
    | nil => exact h0
    | cons x r ih => rw [List.reverse_cons]; exact hs _ _ ih
  have z := h l.reverse
  rw [List.reverse_reverse] at z
  exact z
theorem snoc_cases {α : Type} (l : List α) : l = [] ∨ ∃ r x, l = r ++ [x] := snoc_ind (P := fun l => l = [] ∨ ∃ r x, l = r ++ [x]) (.inl rfl) (fun l x _ => .inr ⟨l, x, rfl⟩) l
/-- tuples of two whole numbers each, at their addresses -/
inductive Tups (H : Hp) : List Addr → List (Int × Int) → Prop
  | nil : Tups H [] []
  | cons {a : Addr} {as : List Addr} {p : Int × Int} {ps : List (Int × Int)} : H a = some (.tup [.int p.1, .int p.2]) → Tups H as ps → Tups H (a :: as) (p :: ps)
theorem Tups.len {H : Hp} : ∀ {as : List Addr} {ps : List (Int × Int)}, Tups H as ps → as.length = ps.length
  | _, _, .nil => rfl
  | _, _, .cons _ t => congrArg (· + 1) t.len
theorem Tups.imp {H H' : Hp} (e : ∀ (a : Addr) (p : Int × Int), H a = some (.tup [.int p.1, .int p.2]) → H' a = some (.tup [.int p.1, .int p.2])) : ∀ {as : List Addr} {ps : List (Int × Int)}, Tups H as ps → Tups H' as ps
  | _, _, .nil => .nil
  | _, _, .cons h t => .cons (e _ _ h) (t.imp e)
theorem Tups.same {H H' : Hp} (e : Same H H') {as : List Addr} {ps : List (Int × Int)} (h : Tups H as ps) : Tups H' as ps := h.imp fun a p q => e _ _ q
theorem Tups.snoc {H : Hp} : ∀ {as : List Addr} {ps : List (Int × Int)} {a : Addr} {p : Int × Int}, Tups H as ps → H a = some (.tup [.int p.1, .int p.2]) → Tups H (as ++ [a]) (ps ++ [p])
  | _, _, _, _, .nil, h => .cons h .nil
  | _, _, _, _, .cons h t, h2 => .cons h (t.snoc h2)
theorem Tups.unsnoc {H : Hp} : ∀ {as : List Addr} {ps : List (Int × Int)} {p : Int × Int}, Tups H as (ps ++ [p]) → ∃ as' a, as = as' ++ [a] ∧ Tups H as' ps ∧ H a = some (.tup [.int p.1, .int p.2])
  | _, [], _, .cons h .nil => ⟨[], _, rfl, .nil, h⟩
  | _, _ :: _, _, .cons h t => by
    obtain ⟨as', a, e, t', h'⟩ := t.unsnoc
    exact ⟨_ :: as', a, by rw [e]; rfl, .cons h t', h'⟩
theorem Tups.dts {K : PySem.W.Frag} {H : Hp} : ∀ {as : List Addr} {ps : List (Int × Int)}, Tups H as ps → Dts K H (as.map V.ref) (ps.map pairD)
  | _, _, .nil => .nil
  | _, _, .cons h t => .cons (.tup (SqT.of h) (.cons (.int _) (.cons (.int _) .nil))) t.dts
theorem Tups.app {H : Hp} : ∀ {as bs : List Addr} {ps qs : List (Int × Int)}, Tups H as ps → Tups H bs qs → Tups H (as ++ bs) (ps ++ qs)
  | _, _, _, _, .nil, h => h
  | _, _, _, _, .cons a t, h => .cons a (t.app h)
theorem Tups.take {H : Hp} : ∀ {as : List Addr} {ps : List (Int × Int)} (n : Nat), Tups H as ps → Tups H (as.take n) (ps.take n)
  | _, _, 0, _ => .nil
  | _, _, _ + 1, .nil => .nil
  | _, _, n + 1, .cons a t => .cons a (t.take n)
theorem Tups.at {H : Hp} : ∀ {as : List Addr} {ps : List (Int × Int)} {i : Nat} {a : Addr}, Tups H as ps → as[i]? = some a → ∃ p, ps[i]? = some p ∧ H a = some (.tup [.int p.1, .int p.2])
  | _, _, _, _, .nil, e => by simp at e
  | _, _, 0, _, .cons h _, e => by simp at e; subst e; exact ⟨_, rfl, h⟩
  | _, _, i + 1, a, .cons _ t, e => by
    obtain ⟨d, h1, h2⟩ := t.at (i := i) (a := a) (by simpa using e)
    exact ⟨d, by simpa using h1, h2⟩
theorem eqv_pair (p q : Int × Int) : PyData.eqv (pairD p) (pairD q) = decide (p = q) := by
  obtain ⟨a, b⟩ := p
  obtain ⟨c, d⟩ := q
  unfold pairD
  simp only [PyData.eqv, PyData.eqvAll, Bool.and_true]
  by_cases h1 : a = c <;> by_cases h2 : b = d <;> simp [h1, h2]
theorem eqvAll_pairs : ∀ l r : List (Int × Int), PyData.eqvAll (l.map pairD) (r.map pairD) = decide (l = r)
  | [], [] => by simp [PyData.eqvAll]
  | [], _ :: _ => by simp [PyData.eqvAll]
  | _ :: _, [] => by simp [PyData.eqvAll]
  | p :: l, q :: r => by
    simp only [List.map_cons, PyData.eqvAll, eqv_pair, eqvAll_pairs l r]
    by_cases h1 : p = q <;> by_cases h2 : l = r <;> simp [h1, h2]
theorem eqv_row (l r : List (Int × Int)) : PyData.eqv (.tuple (l.map pairD)) (.tuple (r.map pairD)) = decide (l = r) := by
  simp only [PyData.eqv]
  exact eqvAll_pairs l r
theorem eqv_rowL (l r : List (Int × Int)) : PyData.eqv (.list (l.map pairD)) (.list (r.map pairD)) = decide (l = r) := by
  simp only [PyData.eqv]
  exact eqvAll_pairs l r
theorem plain_pairs : ∀ l : List (Int × Int), PyData.plainAll (l.map pairD) = true
  | [] => by simp only [List.map_nil, PyData.plainAll]
  | p :: l => by
    simp only [List.map_cons, PyData.plainAll, plain_pairs l, pairD, PyData.plain, Bool.and_self]
theorem plain_row (l : List (Int × Int)) : (PyData.tuple (l.map pairD)).plain = true ∧ (PyData.list (l.map pairD)).plain = true := by
  simp only [PyData.plain]
  exact ⟨plain_pairs l, plain_pairs l⟩
theorem depth_pairs : ∀ l : List (Int × Int), PyData.depthAll (l.map pairD) ≤ 1
  | [] => by simp only [List.map_nil, PyData.depthAll]; omega
  | p :: l => by
    have h := depth_pairs l
    simp only [List.map_cons, PyData.depthAll, pairD, PyData.depth]
    exact Nat.max_le.mpr ⟨by simp, h⟩
theorem depth_row (l : List (Int × Int)) : (PyData.tuple (l.map pairD)).depth ≤ 60 ∧ (PyData.list (l.map pairD)).depth ≤ 60 := by
  have h := depth_pairs l
  simp only [PyData.depth]
  omega
/-- a comprehension over a list or a tuple -/
theorem lc_seq {K : PySem.W.Frag} {a : Addr} {xs : List V} {g : TG} {tt : TT} {te : TE} {vs : List Nat} {σ : L2.St} {H1 : Hp} {Qd : Addr → Hp → Prop} (h : SqL K H1 a xs ∨ SqT K H1 a xs) (Pv : Addr → Nat → Hp → Prop)
    (h0 : ∀ D, H1 D = none → Pv D 0 (upd H1 D (.lst []))) (hl : ∀ D i H, H1 D = none → Pv D i H → (SqL K H1 a xs → SqL K H a xs) ∧ (SqT K H1 a xs → SqT K H a xs))
    (hs : ∀ D i x H, H1 D = none → xs[i]? = some x → Pv D i H → g x (wipe σ vs) H fun σ2 H2 => wipe σ2 vs = wipe σ vs ∧ tt σ2 H2 fun b H3 =>
      if b = true then te σ2 H3 fun y H4 => ∃ acc, H4 D = some (.lst acc) ∧ acc.length < sizeLine ∧ Pv D (i + 1) (upd H4 D (.lst (acc ++ [y]))) else Pv D (i + 1) H3) (hd : ∀ D H, H1 D = none → Pv D xs.length H → Qd D H) :
    (∃ xs, SqL K H1 a xs ∧ ∀ D, H1 D = none → ∃ W : Nat → Nat → Hp → Prop, (∃ m, W 0 m (upd H1 D (.lst []))) ∧ ∀ i m H, W i m H →
      (((Itl K a).stop i H ∧ Qd D H) ∨ ((Itl K a).go i H ∧ ∃ Nx : Hp → Prop, (∀ H', Nx H' → ∃ m', m' < m ∧ W (i + 1) m' H') ∧ ∀ x H', (Itl K a).yld i H x H' → g x (wipe σ vs) H' fun σ2 H2 => wipe σ2 vs = wipe σ vs ∧ tt σ2 H2 fun b H3 =>
        if b = true then te σ2 H3 fun y H4 => ∃ acc, H4 D = some (.lst acc) ∧ acc.length < sizeLine ∧ Nx (upd H4 D (.lst (acc ++ [y]))) else Nx H3))) ∨
    (∃ xs, SqT K H1 a xs ∧ ∀ D, H1 D = none → ∃ W : Nat → Nat → Hp → Prop, (∃ m, W 0 m (upd H1 D (.lst []))) ∧ ∀ i m H, W i m H →
      (((Itt K a).stop i H ∧ Qd D H) ∨ ((Itt K a).go i H ∧ ∃ Nx : Hp → Prop, (∀ H', Nx H' → ∃ m', m' < m ∧ W (i + 1) m' H') ∧ ∀ x H', (Itt K a).yld i H x H' → g x (wipe σ vs) H' fun σ2 H2 => wipe σ2 vs = wipe σ vs ∧ tt σ2 H2 fun b H3 =>
        if b = true then te σ2 H3 fun y H4 => ∃ acc, H4 D = some (.lst acc) ∧ acc.length < sizeLine ∧ Nx (upd H4 D (.lst (acc ++ [y]))) else Nx H3))) := by
  rcases h with h | h
  · exact .inl ⟨xs, h, fun D hD => lc_list (K := K) (a := a) (xs := xs) (Pv D) (h0 D hD) (fun i H _ p => (hl D i H hD p).1 h) (fun i x H hi p => hs D i x H hD hi p) (fun H p => hd D H hD p)⟩
  · exact .inr ⟨xs, h, fun D hD => lc_tup (K := K) (a := a) (xs := xs) (Pv D) (h0 D hD) (fun i H _ p => (hl D i H hD p).2 h) (fun i x H hi p => hs D i x H hD hi p) (fun H p => hd D H hD p)⟩
end Vf
set_option maxRecDepth 100000
set_option maxHeartbeats 8000000
set_option maxRecDepth 100000
set_option maxHeartbeats 8000000
namespace Vf
open PySem PySem.Spec PyProof.Rows L2
/-- below 2 ^ 1200 in size -/
def S80 (z : Int) : Prop := z.natAbs < 2 ^ 1200
theorem s80_k {t k : Int} (h : S80 t) (h0 : 0 < k) (h3 : k ≤ 3) : (t * k).natAbs < 2 ^ 1210 := by
  unfold S80 at h
  rw [Int.natAbs_mul]
  have hk : k.natAbs ≤ 3 := by omega
  have : t.natAbs * k.natAbs ≤ t.natAbs * 3 := Nat.mul_le_mul_left _ hk
  have e : (2 : Nat) ^ 1210 = 2 ^ 1200 * 1024 := by decide +kernel
  rw [e]
  omega
theorem gd_z {z : Int} (h : z.natAbs < 2 ^ 1210) : Gd (.int z) := gd_int (Nat.lt_trans h (Nat.pow_lt_pow_right (by decide) (by decide)))
theorem gd_pair {a b : Int} (ha : a.natAbs < 2 ^ 1210) (hb : b.natAbs < 2 ^ 1210) : Gd (.list [.int a, .int b]) ∧ Gd (.tuple [.int a, .int b]) := by
  have ga := gd_z ha
  have gb := gd_z hb
  have all : ∀ d ∈ [PyData.int a, PyData.int b], d = .int a ∨ d = .int b := fun d hd => by simpa using hd
  have big : ∀ {z : Int}, z.natAbs < 2 ^ 1210 → (PyData.int z).shown.length ≤ 2000 := fun {z} h => by
    simp only [PyData.shown]
    exact Nat.le_trans (int_text_len_1921 (log_small (Nat.lt_trans h (Nat.pow_lt_pow_right (by decide) (by decide))))) (by decide)
  refine gd_seq (ds := [.int a, .int b]) (n := 2) (m := 2000) (Nat.le_refl 2) (fun d hd => ?_) (fun d hd => ?_) (fun d hd => ?_) (by decide)
  · rcases all d hd with h | h <;> rw [h]
    · exact ga.sh
    · exact gb.sh
  · rcases all d hd with h | h <;> rw [h] <;> simp [PyData.depth]
  · rcases all d hd with h | h <;> rw [h]
    · exact big ha
    · exact big hb
def spPassed (K : PySem.W.Frag) : Sp := fun vs H Q _ => ∃ (p lc r : Addr) (B t b : Int), vs = [.ref p, .ref r] ∧ Pen H p lc B ∧ B ≤ 100000000 ∧ H r = some (.tup [.int t, .int b]) ∧ 0 < b ∧ S80 t ∧ S80 b ∧
  ∀ (v : V) (d : PyData) (k : Int) (H' : Hp), Pen H' p lc (B + 3) → Kp p H H' → Dt K (nw H H') v d → partsD d = some (t * k, b * k) → 0 < k → k ≤ 3 → Gd d → Q v H'
section
variable {P : Program} {w : World} {K : PySem.W.Frag} {mg : Str → Option Value} {base : Heap}
abbrev sPassed : Stmt := topS 54
theorem scPassed : FnScope ["_law_pen_here", "_law_ratio", "_law_by"] ["_law_pen_here", "_law_ratio"] (defScope sPassed) := ⟨rfl, rfl, rfl, by decide +kernel, rfl, by decide +kernel, by decide +kernel⟩
theorem ok_passed {f : Addr} {fd : FuncData} (F : Fun K "_law_passed" "_law_passed" sPassed f fd) (Gd_ : Df P w K mg base "_law_draw" 1 ["_law_pen_here", "_law_many"] spDraw) (Gp : Df P w K mg base "_law_pick" 2 ["_law_pen_here", "_law_some"] spPick) : FnOk P w K mg base CX0 3 f fd ["_law_pen_here", "_law_ratio"] (spPassed K) := by
  refine F.ok scPassed (fun vs H Q E h => ?_) (fun cdv A outer s H vs Q E hr h => ?_)
  · obtain ⟨p, lc, r, B, t, b, rfl, _⟩ := h
    rfl
  · obtain ⟨p, lc, r, B, t, b, rfl, hP, hB, hr0, hb, ht, hbz, q⟩ := h
    have rp : r ≠ p := by
      obtain ⟨_, _, _, _, _, g1, _⟩ := hP
      exact ne_of hr0 g1.1 (by intro z; cases z)
    refine ⟨_, (C8.pss_cut (ps_if (PW.pt (pw_and (pt_cmpR op_eq (pe_ix ix_tup (pv 1) pe_int (fun _ _ => rfl)) pe_int (nomark _)) (pw_and1 (pt_cmpR op_eq (pe_call Gd_.ok (hr.mono (by decide)) rfl Gd_.m Gd_.kp Gd_.b .nil pass0 (pa_cons (pv 0) (pa_cons pe_int pa_nil))) pe_int (nomark _)))))
        (pss_one (ps_ret (pe_ix ix_tup (pv 1) pe_int (fun _ _ => rfl))))
        pss_nil)
      (pss_cons (ps_set (i := 2) scPassed.nd rfl (Or.inl rfl) (pe_call Gp.ok hr rfl Gp.m Gp.kp Gp.b .nil pass0 (pa_cons (pv 0) (pa_cons (pe_lst (pa_cons pe_int (pa_cons pe_int (pa_cons pe_int (pa_cons pe_int pa_nil))))) pa_nil))))
      (pss_one (ps_ret (pe_call Gp.ok hr rfl Gp.m Gp.kp Gp.b .nil pass0 (pa_cons (pv 0) (pa_cons (pe_lst (pa_cons (pe_tup (pa_cons (pe_op op_mul (pe_ix ix_tup (pv 1) pe_int (fun _ _ => rfl)) (pv 2)) (pa_cons (pe_op op_mul (pe_ix ix_tup (pv 1) pe_int (fun _ _ => rfl)) (pv 2)) pa_nil))) (pa_cons (pe_lst (pa_cons (pe_op op_mul (pe_ix ix_tup (pv 1) pe_int (fun _ _ => rfl)) (pv 2)) (pa_cons (pe_op op_mul (pe_ix ix_tup (pv 1) pe_int (fun _ _ => rfl)) (pv 2)) pa_nil))) pa_nil))) pa_nil))))))), ?_⟩
    refine ⟨fun σ H2 => ∃ B1, σ = [some (.ref p), some (.ref r), none] ∧ Pen H2 p lc B1 ∧ B1 ≤ B + 1 ∧ Kp p H H2, ?_, ?_⟩
    · refine ⟨_, rfl, r, _, _, .int b, rfl, rfl, SqT.of hr0, at_of (j := 1) rfl rfl, rfl, _, rfl, ?_⟩
      by_cases hb1 : b = 1
      · rw [decide_eq_true (by rw [hb1])]
        refine iteT ?_
        refine ⟨_, rfl, p, lc, B, _, rfl, hP, by omega, by decide, by decide, fun z H1 z0 z1 hP1 k1 => ⟨rfl, _, rfl, ?_⟩⟩
        have hr1 := k1 _ _ rp hr0
        by_cases hz : z = 0
        · rw [decide_eq_true (by rw [hz])]
          refine iteT ?_
          refine ⟨_, rfl, r, _, _, .int t, rfl, rfl, SqT.of hr1, at_of (j := 0) rfl rfl, ?_⟩
          exact q (.int t) (.int t) 1 H1 (hP1.more (by omega)) k1 (.int t) (by show some (t, 1) = some (t * 1, b * 1); rw [hb1, Int.mul_one, Int.mul_one]) (by decide) (by decide) (gd_z (Nat.lt_trans ht (by decide +kernel)))
        · rw [decide_eq_false (fun h => hz (by have h2 := V.int.inj h; exact h2))]
          refine iteF ?_
          exact ⟨B + 1, rfl, hP1, Int.le_refl _, k1⟩
      · rw [decide_eq_false (fun h => hb1 (by have h2 := V.int.inj h; exact h2))]
        refine iteF ?_
        exact ⟨B, rfl, hP, by omega, Kp.refl⟩
    · rintro σ H1 ⟨B1, rfl, hP1, hB1, k1⟩
      have hr1 := k1 _ _ rp hr0
      refine ⟨_, rfl, (by show 4 ≤ sizeLine; decide), fun l nl => ?_⟩
      have el : upd H1 l (HO.lst [V.int 1, V.int 1, V.int 2, V.int 3]) l = some (HO.lst [V.int 1, V.int 1, V.int 2, V.int 3]) := upd_same
      have s1 : Same H1 (upd H1 l (HO.lst [V.int 1, V.int 1, V.int 2, V.int 3])) := same_upd nl
      have lp : l ≠ p := by
        obtain ⟨o, e⟩ := hP1.there
        exact (ne_of_none e nl).symm
      generalize upd H1 l (HO.lst [V.int 1, V.int 1, V.int 2, V.int 3]) = H2 at el s1 ⊢
      refine ⟨p, lc, l, B1, _, rfl, hP1.same s1, by omega, el, lp, (by show 0 < 4; decide), (by show 4 < 1000000; decide), fun x H3 hx hP3 k3 => ?_⟩
      obtain ⟨k, rfl, hk0, hk3⟩ : ∃ k : Int, x = .int k ∧ 0 < k ∧ k ≤ 3 := by
        simp only [List.mem_cons, List.not_mem_nil, or_false] at hx
        rcases hx with h | h | h | h
        · exact ⟨1, h, by decide, by decide⟩
        · exact ⟨1, h, by decide, by decide⟩
        · exact ⟨2, h, by decide, by decide⟩
        · exact ⟨3, h, by decide, by decide⟩
      have k13 : Kp p H H3 := (k1.trans (Kp.of s1)).trans k3
      have hr3 := k13 _ _ rp hr0
      have mk : ∀ z : Int, CMul z k := fun z => .inr ⟨by omega, by omega⟩
      refine ⟨_, rfl, _, rfl, r, _, _, .int t, rfl, rfl, SqT.of hr3, at_of (j := 0) rfl rfl, _, rfl, _, _, rfl, rfl, mk _, _, rfl, r, _, _, .int b, rfl, rfl, SqT.of hr3, at_of (j := 1) rfl rfl, _, rfl, _, _, rfl, rfl, mk _, (by show 2 ≤ sizeLine; decide), fun t1 n1 => ?_⟩
      have e1 : upd H3 t1 (HO.tup [V.int (t * k), V.int (b * k)]) t1 = some (HO.tup [V.int (t * k), V.int (b * k)]) := upd_same
      have s4 : Same H3 (upd H3 t1 (HO.tup [V.int (t * k), V.int (b * k)])) := same_upd n1
      have tp : t1 ≠ p := by
        obtain ⟨o, e⟩ := hP3.there
        exact (ne_of_none e n1).symm
      generalize upd H3 t1 (HO.tup [V.int (t * k), V.int (b * k)]) = H4 at e1 s4 ⊢
      have hP4 := hP3.same s4
      have hr4 := s4 _ _ hr3
      refine ⟨_, rfl, r, _, _, .int t, rfl, rfl, SqT.of hr4, at_of (j := 0) rfl rfl, _, rfl, _, _, rfl, rfl, mk _, _, rfl, r, _, _, .int b, rfl, rfl, SqT.of hr4, at_of (j := 1) rfl rfl, _, rfl, _, _, rfl, rfl, mk _, (by show 2 ≤ sizeLine; decide), fun l2 n2 => ?_⟩
      have e2 : upd H4 l2 (HO.lst [V.int (t * k), V.int (b * k)]) l2 = some (HO.lst [V.int (t * k), V.int (b * k)]) := upd_same
      have s5 : Same H4 (upd H4 l2 (HO.lst [V.int (t * k), V.int (b * k)])) := same_upd n2
      have l2p : l2 ≠ p := by
        obtain ⟨o, e⟩ := hP4.there
        exact (ne_of_none e n2).symm
      generalize upd H4 l2 (HO.lst [V.int (t * k), V.int (b * k)]) = H5 at e2 s5 ⊢
      have hP5 := hP4.same s5
      refine ⟨(by show 2 ≤ sizeLine; decide), fun l3 n3 => ?_⟩
      have e3 : upd H5 l3 (HO.lst [V.ref t1, V.ref l2]) l3 = some (HO.lst [V.ref t1, V.ref l2]) := upd_same
      have s6 : Same H5 (upd H5 l3 (HO.lst [V.ref t1, V.ref l2])) := same_upd n3
      have l3p : l3 ≠ p := by
        obtain ⟨o, e⟩ := hP5.there
        exact (ne_of_none e n3).symm
      generalize upd H5 l3 (HO.lst [V.ref t1, V.ref l2]) = H6 at e3 s6 ⊢
      have hP6 := hP5.same s6
      refine ⟨p, lc, l3, _, _, rfl, hP6, by omega, e3, l3p, (by show 0 < 2; decide), (by show 2 < 1000000; decide), fun x H7 hx hP7 k7 => ?_⟩
      have k17 : Kp p H H7 := ((k13.trans (Kp.of s4)).trans (Kp.of (s5.trans s6))).trans k7
      have hbk : 0 < b * k := Int.mul_pos hb hk0
      have pr : pair? [.int (t * k), .int (b * k)] = some (t * k, b * k) := by
        show (if 0 < b * k then some (t * k, b * k) else none) = some (t * k, b * k)
        rw [if_pos hbk]
      have gp := gd_pair (s80_k ht hk0 hk3) (s80_k hbz hk0 hk3)
      simp only [List.mem_cons, List.not_mem_nil, or_false] at hx
      rcases hx with h | h
      · rw [h]
        exact q _ (.tuple [.int (t * k), .int (b * k)]) k H7 (hP7.more (by omega)) k17 (.tup (SqT.of (nw_at (some_free k13 hP3.there.choose_spec n1) (k7 _ _ tp (s6 _ _ (s5 _ _ e1))))) (.cons (.int _) (.cons (.int _) .nil))) pr hk0 hk3 gp.2
      · rw [h]
        exact q _ (.list [.int (t * k), .int (b * k)]) k H7 (hP7.more (by omega)) k17 (.lst (SqL.of (nw_at (some_free k13 hP3.there.choose_spec (s4.free n2)) (k7 _ _ l2p (s6 _ _ e2)))) (.cons (.int _) (.cons (.int _) .nil))) pr hk0 hk3 gp.1
end
end Vf
set_option maxRecDepth 100000
set_option maxHeartbeats 4000000
namespace PySem.W
open PySem PySem.Spec PyProof.Rows
end PySem.W
set_option maxRecDepth 100000
set_option maxHeartbeats 4000000
namespace PySem.W
open PySem PySem.Spec PyProof.Rows
end PySem.W
set_option maxRecDepth 100000
set_option maxHeartbeats 4000000
namespace Vf
/-- a number as its pair -/
def pq (r : Rat) : Int × Int := (r.num, (r.den : Int))
theorem low_pq {t b : Int} (h : b ≠ 0) : low t b = pq (Rat.divInt t b) := by
  obtain ⟨x, y, e1, e2, hp, ho⟩ := sg_dvd (t := t) h
  have s := sg_ne (t := t) h
  have e : Rat.divInt t b = Rat.divInt x y := by
    calc Rat.divInt t b = Rat.divInt (sg t b * x) (sg t b * y) := by rw [← e1, ← e2]
      _ = Rat.divInt x y := Rat.divInt_mul_left s
  rw [low_eq h e1 e2, e]
  obtain ⟨n, rfl⟩ := Int.eq_ofNat_of_zero_le (Int.le_of_lt hp)
  have hn : n ≠ 0 := by omega
  have ho' : x.natAbs.Coprime n := ho
  have e2 : Rat.divInt x (n : Int) = ⟨x, n, hn, ho'⟩ := by
    rw [Rat.divInt_ofNat, Rat.mk_eq_mkRat]
  rw [e2]
  rfl
theorem pq_low (r : Rat) : Low (pq r).1 (pq r).2 := ⟨by have := r.den_pos; show (0 : Int) < (r.den : Int); omega, r.reduced⟩
theorem cast_ne {M : Int} (h : M ≠ 0) : (M : Rat) ≠ 0 := fun z => h (by exact_mod_cast z)
theorem low_mul {A M : Int} {q : Rat} (hM : M ≠ 0) (h : q * (M : Rat) = (A : Rat)) : low A M = pq q := by
  rw [low_pq hM, Rat.divInt_eq_div]
  congr 1
  rw [← h, Rat.mul_div_cancel (cast_ne hM)]
theorem low_add (a b : Rat) : low (a.num * b.den + b.num * a.den) (a.den * b.den) = pq (a + b) := by
  have h : ((a.den : Int) * (b.den : Int)) ≠ 0 := by
    have := a.den_nz
    have := b.den_nz
    exact Int.mul_ne_zero (by omega) (by omega)
  rw [low_pq h, Rat.add_def', ← Rat.divInt_ofNat]
  congr 1
theorem low_times (a b : Rat) : low (a.num * b.num) (a.den * b.den) = pq (a * b) := by
  have h : ((a.den : Int) * (b.den : Int)) ≠ 0 := by
    have := a.den_nz
    have := b.den_nz
    exact Int.mul_ne_zero (by omega) (by omega)
  rw [low_pq h, Rat.mul_def', ← Rat.divInt_ofNat]
  congr 1
/-- a number is a whole part of 1 / M, at most N of them -/
def Fr (M N : Nat) (r : Rat) : Prop := ∃ n : Int, r * (M : Rat) = (n : Rat) ∧ n.natAbs ≤ N
theorem Fr.size {M N : Nat} {r : Rat} (hM : 0 < M) (h : Fr M N r) : r.num.natAbs ≤ N ∧ r.den ≤ M := by
  obtain ⟨n, e, hn⟩ := h
  have hM' : (M : Int) ≠ 0 := by omega
  have z := low_mul (A := n) (M := (M : Int)) (q := r) hM' (by exact_mod_cast e)
  obtain ⟨s1, s2⟩ := low_size (t := n) hM'
  rw [z] at s1 s2
  have s1 : r.num.natAbs ≤ n.natAbs := s1
  have s2 : (r.den : Int).natAbs ≤ (M : Int).natAbs := s2
  omega
theorem Fr.add {M N N' : Nat} {a b : Rat} (h : Fr M N a) (h' : Fr M N' b) : Fr M (N + N') (a + b) := by
  obtain ⟨n, e, hn⟩ := h
  obtain ⟨n', e', hn'⟩ := h'
  refine ⟨n + n', ?_, by omega⟩
  rw [Rat.add_mul, e, e']
  exact_mod_cast rfl
theorem Fr.mul {M N M' N' : Nat} {a b : Rat} (h : Fr M N a) (h' : Fr M' N' b) : Fr (M * M') (N * N') (a * b) := by
  obtain ⟨n, e, hn⟩ := h
  obtain ⟨n', e', hn'⟩ := h'
  refine ⟨n * n', ?_, ?_⟩
  · have : ((M * M' : Nat) : Rat) = (M : Rat) * (M' : Rat) := by exact_mod_cast rfl
    have h2 : ((n * n' : Int) : Rat) = (n : Rat) * (n' : Rat) := by exact_mod_cast rfl
    rw [this, h2, ← e, ← e']
    grind
  · rw [Int.natAbs_mul]
    exact Nat.mul_le_mul hn hn'
theorem Fr.scale {M N : Nat} {a : Rat} (k : Nat) (h : Fr M N a) : Fr (M * k) (N * k) a := by
  obtain ⟨n, e, hn⟩ := h
  refine ⟨n * k, ?_, ?_⟩
  · have : ((M * k : Nat) : Rat) = (M : Rat) * (k : Rat) := by exact_mod_cast rfl
    have h2 : ((n * k : Int) : Rat) = (n : Rat) * (k : Rat) := by exact_mod_cast rfl
    rw [this, h2, ← e]
    grind
  · rw [Int.natAbs_mul, Int.natAbs_natCast]
    exact Nat.mul_le_mul_right _ hn
theorem Fr.zero (M N : Nat) : Fr M N 0 := ⟨0, by rw [Rat.zero_mul]; rfl, Nat.zero_le _⟩
theorem Fr.le {M N N' : Nat} {a : Rat} (h : Fr M N a) (e : N ≤ N') : Fr M N' a := by
  obtain ⟨n, e1, hn⟩ := h
  exact ⟨n, e1, by omega⟩
theorem Fr.self (r : Rat) : Fr r.den r.num.natAbs r := by
  refine ⟨r.num, ?_, Nat.le_refl _⟩
  have h : (r.den : Rat) ≠ 0 := by
    have := r.den_nz
    exact_mod_cast this
  have z : (r.num : Rat) / (r.den : Rat) = r := by
    have := Rat.num_divInt_den r
    rw [Rat.divInt_eq_div] at this
    exact_mod_cast this
  rw [← z]
  rw [z]
  have := Rat.div_mul_cancel (a := (r.num : Rat)) h
  rw [z] at this
  exact this
/-- below 2 ^ 4300 above and below -/
def Sr (r : Rat) : Prop := r.num.natAbs < 2 ^ 4300 ∧ r.den < 2 ^ 4300
theorem Fr.sr {M N : Nat} {r : Rat} (hM : 0 < M) (h : Fr M N r) (h1 : M < 2 ^ 4300) (h2 : N < 2 ^ 4300) : Sr r := by
  obtain ⟨a, b⟩ := h.size hM
  exact ⟨Nat.lt_of_le_of_lt a h2, Nat.lt_of_le_of_lt b h1⟩
def cf (l : List Rat) (i : Nat) : Rat := l.getD i 0
theorem cf_lt {l : List Rat} {i : Nat} (h : i < l.length) : cf l i = l[i] := by
  unfold cf
  rw [List.getD_eq_getElem?_getD, List.getElem?_eq_getElem h]
  rfl
theorem cf_get {l : List Rat} {i : Nat} {x : Rat} (h : l[i]? = some x) : cf l i = x := by
  unfold cf
  rw [List.getD_eq_getElem?_getD, h]
  rfl
theorem cf_ge {l : List Rat} {i : Nat} (h : l.length ≤ i) : cf l i = 0 := by
  unfold cf
  rw [List.getD_eq_getElem?_getD, List.getElem?_eq_none h]
  rfl
theorem cf_nil (i : Nat) : cf [] i = 0 := rfl
theorem cf_app {l r : List Rat} {i : Nat} : cf (l ++ r) i = if i < l.length then cf l i else cf r (i - l.length) := by
  unfold cf
  rw [List.getD_eq_getElem?_getD, List.getD_eq_getElem?_getD, List.getD_eq_getElem?_getD]
  split
  · rw [List.getElem?_append_left (by assumption)]
  · rw [List.getElem?_append_right (by omega)]
/-- a row without zeros behind -/
def stripQ (l : List Rat) : List Rat := (l.reverse.dropWhile fun r => r == 0).reverse
theorem stripQ_snoc (l : List Rat) (x : Rat) : stripQ (l ++ [x]) = if x = 0 then stripQ l else l ++ [x] := by
  unfold stripQ
  rw [List.reverse_append]
  simp only [List.reverse_cons, List.reverse_nil, List.nil_append, List.singleton_append, List.dropWhile_cons, beq_iff_eq]
  split
  · rfl
  · rw [List.reverse_cons, List.reverse_reverse]
theorem strip_map (l : List Rat) : strip (l.map pq) = (stripQ l).map pq := by
  refine snoc_ind (P := fun l => strip (l.map pq) = (stripQ l).map pq) rfl (fun l x ih => ?_) l
  rw [List.map_append, List.map_cons, List.map_nil, strip_snoc, stripQ_snoc, ih]
  have e : ((pq x).1 = 0) ↔ x = 0 := Rat.num_eq_zero
  by_cases h : x = 0
  · rw [if_pos h, if_pos (e.mpr h)]
  · rw [if_neg h, if_neg (fun z => h (e.mp z)), List.map_append]
    rfl
theorem cf_stripQ (l : List Rat) : ∀ i, cf (stripQ l) i = cf l i := by
  refine snoc_ind (P := fun l => ∀ i, cf (stripQ l) i = cf l i) (fun i => rfl) (fun l x ih i => ?_) l
  rw [stripQ_snoc]
  split
  · rename_i h
    rw [ih, cf_app, h]
    split
    · rfl
    · rename_i h2
      rw [cf_ge (by omega)]
      by_cases h3 : i - l.length = 0
      · rw [h3]; rfl
      · rw [cf_ge (show ([0] : List Rat).length ≤ i - l.length by show 1 ≤ _; omega)]
  · rfl
/-- no zero behind -/
def Stp (l : List Rat) : Prop := ∀ r x, l = r ++ [x] → x ≠ 0
theorem stripQ_stp (l : List Rat) : Stp (stripQ l) := by
  refine snoc_ind (P := fun l => Stp (stripQ l)) (fun r x h => by simp [stripQ] at h) (fun l y ih r x h => ?_) l
  rw [stripQ_snoc] at h
  split at h
  · exact ih r x h
  · have z := (List.append_inj' h rfl).2
    cases z
    assumption
theorem stripQ_id {l : List Rat} (h : Stp l) : stripQ l = l := by
  rcases snoc_cases l with e | ⟨r, x, e⟩
  · rw [e]; rfl
  · have z := h r x e
    rw [e, stripQ_snoc, if_neg z]
theorem stp_last {l : List Rat} (h : Stp l) (hl : 0 < l.length) : cf l (l.length - 1) ≠ 0 := by
  rcases snoc_cases l with e | ⟨r, x, e⟩
  · rw [e] at hl; cases hl
  · have z := h r x e
    rw [e, List.length_append]
    show cf (r ++ [x]) (r.length + 1 - 1) ≠ 0
    rw [cf_app, if_neg (by omega)]
    rw [show r.length + 1 - 1 - r.length = 0 by omega]
    exact z
theorem stp_len {a b : List Rat} (h : Stp a) (e : ∀ i, cf a i = cf b i) : a.length ≤ b.length := by
  rcases Nat.lt_or_ge b.length a.length with z | z
  · have q := stp_last h (by omega)
    rw [e, cf_ge (by omega)] at q
    exact absurd rfl q
  · exact z
theorem stp_ext {a b : List Rat} (ha : Stp a) (hb : Stp b) (e : ∀ i, cf a i = cf b i) : a = b := by
  have h1 := stp_len ha e
  have h2 := stp_len hb fun i => (e i).symm
  refine List.ext_getElem (by omega) fun i p q => ?_
  have z := e i
  rw [cf_lt p, cf_lt q] at z
  exact z
theorem stripQ_ext {a b : List Rat} (e : ∀ i, cf a i = cf b i) : stripQ a = stripQ b :=
  stp_ext (stripQ_stp a) (stripQ_stp b) fun i => by rw [cf_stripQ, cf_stripQ, e]
/-- the row of n numbers -/
def tab (n : Nat) (f : Nat → Rat) : List Rat := (List.range n).map f
theorem tab_len (n : Nat) (f : Nat → Rat) : (tab n f).length = n := by unfold tab; rw [List.length_map, List.length_range]
theorem cf_tab (n : Nat) (f : Nat → Rat) (i : Nat) : cf (tab n f) i = if i < n then f i else 0 := by
  by_cases h : i < n
  · rw [if_pos h]
    refine cf_get ?_
    unfold tab
    rw [List.getElem?_map, List.getElem?_range h]
    rfl
  · rw [if_neg h, cf_ge (by rw [tab_len]; omega)]
theorem tab_snoc (n : Nat) (f : Nat → Rat) : tab (n + 1) f = tab n f ++ [f n] := by
  unfold tab
  rw [List.range_succ, List.map_append]
  rfl
def padd (a b : List Rat) : List Rat := tab (max a.length b.length) fun i => cf a i + cf b i
theorem cf_padd (a b : List Rat) (i : Nat) : cf (padd a b) i = cf a i + cf b i := by
  unfold padd
  rw [cf_tab]
  split
  · rfl
  · rw [cf_ge (show a.length ≤ i by omega), cf_ge (show b.length ≤ i by omega), Rat.add_zero]
def pscale (a : List Rat) (c : Rat) : List Rat := a.map (· * c)
theorem cf_map {f : Rat → Rat} (hf : f 0 = 0) (a : List Rat) (i : Nat) : cf (a.map f) i = f (cf a i) := by
  by_cases h : i < a.length
  · rw [cf_lt (by rw [List.length_map]; exact h), cf_lt h, List.getElem_map]
  · rw [cf_ge (by rw [List.length_map]; omega), cf_ge (by omega), hf]
/-- sums -/
def sm (f : Nat → Rat) : Nat → Rat
  | 0 => 0
  | n + 1 => sm f n + f n
theorem sm_ext {f g : Nat → Rat} : ∀ {n : Nat}, (∀ i, i < n → f i = g i) → sm f n = sm g n
  | 0, _ => rfl
  | n + 1, h => by
    show sm f n + f n = sm g n + g n
    rw [sm_ext fun i hi => h i (by omega), h n (by omega)]
theorem sm_zero {f : Nat → Rat} : ∀ {n : Nat}, (∀ i, i < n → f i = 0) → sm f n = 0
  | 0, _ => rfl
  | n + 1, h => by
    show sm f n + f n = 0
    rw [sm_zero fun i hi => h i (by omega), h n (by omega), Rat.add_zero]
theorem sm_more {f : Nat → Rat} {n : Nat} : ∀ {m : Nat}, n ≤ m → (∀ i, n ≤ i → i < m → f i = 0) → sm f m = sm f n
  | 0, h, _ => by
    have : n = 0 := by omega
    rw [this]
  | m + 1, h, z => by
    by_cases e : n = m + 1
    · rw [e]
    · show sm f m + f m = sm f n
      rw [sm_more (m := m) (by omega) fun i h1 h2 => z i h1 (by omega), z m (by omega) (by omega), Rat.add_zero]
theorem sm_fr {f : Nat → Rat} {M N : Nat} : ∀ {n : Nat}, (∀ i, i < n → Fr M N (f i)) → Fr M (n * N) (sm f n)
  | 0, _ => Fr.zero _ _
  | n + 1, h => by
    have a := sm_fr (n := n) fun i hi => h i (by omega)
    have b := h n (by omega)
    have c := a.add b
    rw [Nat.succ_mul]
    exact c
/-- the number of a power in a product -/
def pc (a b : List Rat) (k : Nat) : Rat := sm (fun i => cf a i * cf b (k - i)) (k + 1)
def pmul (a b : List Rat) : List Rat := tab (a.length + b.length - 1) (pc a b)
theorem pc_zero {a b : List Rat} {k : Nat} (h : a.length + b.length ≤ k + 1) : pc a b k = 0 := by
  unfold pc
  refine sm_zero fun i hi => ?_
  by_cases h1 : i < a.length
  · rw [cf_ge (show b.length ≤ k - i by omega), Rat.mul_zero]
  · rw [cf_ge (show a.length ≤ i by omega), Rat.zero_mul]
theorem cf_pmul (a b : List Rat) (k : Nat) : cf (pmul a b) k = pc a b k := by
  unfold pmul
  rw [cf_tab]
  split
  · rfl
  · rw [pc_zero (by omega)]
end Vf
set_option maxRecDepth 100000
set_option maxHeartbeats 4000000
namespace Vf
open PySem PySem.Spec PyProof.Rows L2
section
variable {X : Cx} {CX : CXT} {C f g : Addr} {k : Nat} {fd : FuncData} {ps : List Str} {sp : Sp} {E : XK}
/-- the callee's answer is no mark of a missing operator -/
theorem back {pins : List (Addr × Obj)} {σ : L2.St} {Q : VK} {z : Value} {s' : Shared} (h : EP X pins σ Q z s') : PySem.W.CmpBack (EP X pins σ Q) z s' := by
  obtain ⟨z', H', I', rz, qz⟩ := h
  exact SlX.cmpback rz ⟨z', H', I', rz, qz⟩
/-- math.lcm of two whole numbers -/
def rLcm : List V → Hp → VK → Prop := fun vs H Q => ∃ a b : Int, vs = [.int a, .int b] ∧ a.natAbs < 2 ^ 8800 ∧ b.natAbs < 2 ^ 8800 ∧ Q (.int ((Nat.lcm a.natAbs b.natAbs : Nat) : Int)) H
theorem log_4000 {n : Nat} (h : n < 2 ^ 8800) : n.log2 < 8800 := by
  by_cases e : n = 0
  · rw [e]; decide
  · exact (Nat.log2_lt e).mpr h
theorem cr_lcm : CallR X (.builtin "math.lcm") rLcm := by
  intro pins s σ H vs us Q I r h
  obtain ⟨a, b, rfl, ha, hb, q⟩ := h
  obtain ⟨t, u, rfl⟩ := Vals.int2 r
  have one : Nat.lcm 1 a.natAbs = a.natAbs := Nat.lcm_one_left _
  have m1 : max 1 a.natAbs < 2 ^ 8800 := by
    have : (1 : Nat) < 2 ^ 8800 := Nat.one_lt_pow (by decide) (by decide)
    omega
  have m2 : max a.natAbs b.natAbs < 2 ^ 8800 := by omega
  have l1 := log_4000 m1
  have l2 := log_4000 m2
  have sz : ((((Nat.lcm 1 a.natAbs).lcm b.natAbs : Nat) : Int)).natAbs.log2 < bitsLine := by
    rw [one, Int.natAbs_natCast]
    have le : a.natAbs.lcm b.natAbs ≤ a.natAbs * b.natAbs := by
      rw [← Nat.gcd_mul_lcm]
      by_cases z : a.natAbs.gcd b.natAbs = 0
      · have : a.natAbs.lcm b.natAbs = 0 := by unfold Nat.lcm; rw [Nat.gcd_eq_zero_iff.mp z |>.1]; simp
        rw [this]; omega
      · exact Nat.le_mul_of_pos_left _ (by omega)
    have lt : a.natAbs.lcm b.natAbs < 2 ^ 17600 := by
      refine Nat.lt_of_le_of_lt le ?_
      rw [show (17600 : Nat) = 8800 + 8800 from rfl, Nat.pow_add]
      exact Nat.mul_lt_mul'' ha hb
    by_cases e : a.natAbs.lcm b.natAbs = 0
    · rw [e]; decide
    · exact Nat.lt_trans ((Nat.log2_lt e).mpr lt) (by decide)
  refine PySem.call_function_meets PySem.W.MGF.kind_lcm PySem.W.MGF.plain_lcm PySem.W.MGF.entry_lcm (PySem.W.MGF.args_lcm _ _) (PySem.W.mg_run_lcm a t b u (by omega) (by omega) sz).meets ?_
  rw [one]
  exact ⟨.int _, H, I.tok _, ⟨_, rfl⟩, q⟩
end
end Vf
set_option maxRecDepth 100000
set_option maxHeartbeats 4000000
namespace Vf
open PySem PySem.Spec PyProof.Rows L2
/-- a tuple that tells the number q -/
def TR (H : Hp) (r : Addr) (q : Rat) : Prop := H r = some (.tup [.int q.num, .int (q.den : Int)])
theorem TR.same {H H' : Hp} {r : Addr} {q : Rat} (h : TR H r q) (s : Same H H') : TR H' r q := s _ _ h
/-- a list of such tuples -/
def RL (H : Hp) (l : Addr) (qs : List Rat) : Prop := ∃ as, H l = some (.lst (as.map V.ref)) ∧ Tups H as (qs.map pq)
theorem RL.same {H H' : Hp} {l : Addr} {qs : List Rat} (h : RL H l qs) (s : Same H H') : RL H' l qs := by
  obtain ⟨as, e, t⟩ := h
  exact ⟨as, s _ _ e, t.same s⟩
theorem Tups.atQ {H : Hp} {as : List Addr} {qs : List Rat} {i : Nat} {a : Addr} (h : Tups H as (qs.map pq)) (e : as[i]? = some a) : ∃ q, qs[i]? = some q ∧ TR H a q := by
  obtain ⟨p, h1, h2⟩ := h.at e
  rw [List.getElem?_map] at h1
  cases hq : qs[i]? with
  | none => rw [hq] at h1; cases h1
  | some q =>
    rw [hq] at h1
    cases h1
    exact ⟨q, rfl, h2⟩
theorem Tups.lenQ {H : Hp} {as : List Addr} {qs : List Rat} (h : Tups H as (qs.map pq)) : as.length = qs.length := by
  have := h.len
  rw [List.length_map] at this
  exact this
theorem Tups.snocQ {H : Hp} {as : List Addr} {qs : List Rat} {a : Addr} {q : Rat} (h : Tups H as (qs.map pq)) (e : TR H a q) : Tups H (as ++ [a]) ((qs ++ [q]).map pq) := by
  rw [List.map_append]
  exact h.snoc e
theorem Tups.getQ {H : Hp} {as : List Addr} {qs : List Rat} {i : Nat} (h : Tups H as (qs.map pq)) (hi : i < qs.length) : ∃ a, as[i]? = some a ∧ TR H a (cf qs i) := by
  have hl := h.lenQ
  have hi' : i < as.length := by omega
  obtain ⟨q, h1, h2⟩ := h.atQ (List.getElem?_eq_getElem hi')
  refine ⟨as[i], List.getElem?_eq_getElem hi', ?_⟩
  rw [cf_get h1]
  exact h2
theorem Tups.setQ {H : Hp} : ∀ {as : List Addr} {qs : List Rat} (i : Nat) {a : Addr} {q : Rat}, Tups H as (qs.map pq) → TR H a q → Tups H (as.set i a) ((qs.set i q).map pq)
  | [], [], _, _, _, _, _ => .nil
  | _ :: _, _ :: _, 0, _, _, .cons _ t, e => .cons e t
  | _ :: _, _ :: _, i + 1, _, _, .cons h t, e => .cons h (t.setQ i e)
theorem tups_rep0 {H : Hp} {a : Addr} (h : TR H a 0) (n : Nat) : Tups H (List.replicate n a) ((List.replicate n (0 : Rat)).map pq) := by
  rw [List.map_replicate]
  exact Tups.rep' (p := pq 0) h n
where
  Tups.rep' {H : Hp} {a : Addr} {p : Int × Int} (h : H a = some (.tup [.int p.1, .int p.2])) : ∀ n : Nat, Tups H (List.replicate n a) (List.replicate n p)
    | 0 => .nil
    | n + 1 => .cons h (Tups.rep' h n)
theorem flat_repQ (n : Nat) (a : Addr) : (List.replicate n [V.ref a]).flatten = (List.replicate n a).map V.ref := by
  rw [List.flatten_replicate_singleton, List.map_replicate]
theorem cf_rep0 (n i : Nat) : cf (List.replicate n 0) i = 0 := by
  unfold cf
  rw [List.getD_eq_getElem?_getD, List.getElem?_replicate]
  split <;> rfl
theorem cf_set {l : List Rat} {i j : Nat} {x : Rat} (h : i < l.length) : cf (l.set i x) j = if j = i then x else cf l j := by
  unfold cf
  rw [List.getD_eq_getElem?_getD, List.getD_eq_getElem?_getD, List.getElem?_set]
  by_cases e : i = j
  · rw [if_pos e, if_pos e.symm, if_pos h]
    rfl
  · rw [if_neg e, if_neg (fun z => e z.symm)]
theorem big_mulW {x y : Int} (h1 : x.natAbs < 2 ^ 8700) (h2 : y.natAbs < 2 ^ 8700) : CMulW x y := wide_mul h1 h2 (by decide) (by decide) (by decide)
theorem Sr.n {q : Rat} (h : Sr q) : q.num.natAbs < 2 ^ 8700 := Nat.lt_trans h.1 (Nat.pow_lt_pow_right (by decide) (by decide))
theorem Sr.d {q : Rat} (h : Sr q) : ((q.den : Int)).natAbs < 2 ^ 8700 := by
  rw [Int.natAbs_natCast]
  exact Nat.lt_trans h.2 (Nat.pow_lt_pow_right (by decide) (by decide))
theorem pow_add2 (a b : Nat) : (2 : Nat) ^ a * 2 ^ b = 2 ^ (a + b) := (Nat.pow_add _ _ _).symm
theorem sr_sum {a b : Rat} (ha : Sr a) (hb : Sr b) : (a.num * b.den + b.num * a.den).natAbs < 2 ^ 8800 ∧ ((a.den : Int) * b.den).natAbs < 2 ^ 8800 ∧ (a.num * b.num).natAbs < 2 ^ 8800 := by
  have m : ∀ {x y : Nat}, x < 2 ^ 4300 → y < 2 ^ 4300 → x * y < 2 ^ 8600 := fun {x y} h1 h2 => by
    have := Nat.mul_lt_mul'' h1 h2
    rw [pow_add2] at this
    exact this
  have l1 : (2 : Nat) ^ 8600 + 2 ^ 8600 = 2 ^ 8601 := by rw [show (8601 : Nat) = 8600 + 1 from rfl, Nat.pow_succ]; omega
  have l2 : (2 : Nat) ^ 8601 ≤ 2 ^ 8800 := Nat.pow_le_pow_right (by decide) (by decide)
  have l3 : (2 : Nat) ^ 8600 ≤ 2 ^ 8800 := Nat.pow_le_pow_right (by decide) (by decide)
  have m1 := m ha.1 hb.2
  have m2 := m hb.1 ha.2
  have m3 := m ha.2 hb.2
  have m4 := m ha.1 hb.1
  have e1 : (a.num * b.den).natAbs = a.num.natAbs * b.den := by rw [Int.natAbs_mul, Int.natAbs_natCast]
  have e2 : (b.num * a.den).natAbs = b.num.natAbs * a.den := by rw [Int.natAbs_mul, Int.natAbs_natCast]
  refine ⟨?_, ?_, ?_⟩
  · have := Int.natAbs_add_le (a.num * b.den) (b.num * a.den)
    omega
  · rw [Int.natAbs_mul, Int.natAbs_natCast, Int.natAbs_natCast]
    omega
  · rw [Int.natAbs_mul]
    omega
end Vf
set_option maxRecDepth 100000
set_option maxHeartbeats 8000000
namespace Vf
open PySem PySem.Spec PyProof.Rows L2
section
variable {P : Program} {w : World} {K : PySem.W.Frag} {mg : Str → Option Value} {base : Heap} {CN : Addr}
abbrev sLPoly : Stmt := topS 55
/-- the law's own row without zeros behind -/
def spLPoly (K : PySem.W.Frag) : Sp := fun vs H Q _ => ∃ (a : Addr) (as : List Addr) (ps : List (Int × Int)), vs = [.ref a] ∧ SqL K H a (as.map V.ref) ∧ Tups H as ps ∧ as.length ≤ 1000 ∧
  ∀ (l : Addr) (as' : List Addr) (H' : Hp), Same H H' → H l = none → H' l = some (.lst (as'.map V.ref)) → Tups H' as' (strip ps) → Q (.ref l) H'
theorem scLPoly : FnScope ["_law_numbers", "_law_found", "_law_lap"] ["_law_numbers"] (defScope sLPoly) := ⟨rfl, rfl, rfl, by decide +kernel, rfl, by decide +kernel, by decide +kernel⟩
theorem ok_lpoly {f : Addr} {fd : FuncData} (F : Fun K "_law_poly" "_law_poly" sLPoly f fd) (T : Bk mg) (hm1 : M1 base) : FnOk P w K mg base CX0 1 f fd ["_law_numbers"] (spLPoly K) := by
  refine F.ok scLPoly (fun vs H Q E h => ?_) (fun cdv A outer s H vs Q E hr h => ?_)
  · obtain ⟨a, as, ps, rfl, _⟩ := h
    rfl
  · obtain ⟨a, as, ps, rfl, hS, hT, hz, q⟩ := h
    refine ⟨_, (pss_cons (ps_set (i := 1) scLPoly.nd rfl (Or.inl rfl) (pe_callTy call_list_of (by rfl) T.list (by decide +kernel) (pa_cons (pv 0) pa_nil)))
  (pss_cons (ps_for PassesOwn.never rfl (pi_range1 (by rfl) T.range (pa_cons (pe_callB call_len_seq (by rfl) T.len (by decide +kernel) (pa_cons (pv 0) pa_nil)) pa_nil)) (pg_name (i := 2) scLPoly.nd rfl (Or.inl rfl))
    (pss_cons (ps_if (PW.pt (pw_or (pt_cmpR (op_eqT hr.units hm1) (pv 1) (pe_lst pa_nil) (nomark _)) (pw_or1 (pt_cmpR op_ne (pe_ix ix_tup (pe_ix ix_list (pv 1) (pe_un un_neg pe_int) (fun _ _ => rfl)) pe_int (fun _ _ => rfl)) pe_int (nomark _)))))
      (pss_one ps_break)
      pss_nil)
    (pss_one (ps_expr (pe_bm0 PySem.F.plainAttrs_list PySem.F.slot_list_pop PySem.F.type_list_pop mt_pop (pv 1))))))
  (pss_one (ps_ret (pv 1))))), ?_⟩
    refine ⟨_, rfl, a, _, rfl, .inl hS, fun l nl => ?_⟩
    have el : upd H l (HO.lst (as.map V.ref)) l = some (HO.lst (as.map V.ref)) := upd_same
    have sl : Same H (upd H l (HO.lst (as.map V.ref))) := same_upd nl
    generalize upd H l (HO.lst (as.map V.ref)) = H1 at el sl ⊢
    have lm : (as.map V.ref).length = as.length := List.length_map ..
    refine ⟨_, rfl, a, _, rfl, .inl (same_sqL sl hS), _, rfl, by omega, by omega, for_range (lo := 0) (n := (((as.map V.ref).length : Nat) : Int).toNat) (fun i σ H2 => ∃ as' qs v, σ = [some (.ref a), some (.ref l), v] ∧ Same H H2 ∧ H2 l = some (.lst (as'.map V.ref)) ∧ Tups H2 as' qs ∧ strip qs = strip ps ∧ as'.length + i = as.length)
      ⟨as, ps, none, rfl, sl, el, hT.same sl, rfl, rfl⟩ ?_ ?_⟩
    · rintro i σ H2 hi ⟨as', qs, v, rfl, s2, e2, t2, hst, hn⟩
      refine ⟨_, rfl, (by show 0 ≤ sizeLine; decide), fun l0 n0 => ?_⟩
      have l0l : l0 ≠ l := (ne_of_none e2 n0).symm
      have s3 : Same H2 (upd H2 l0 (HO.lst [])) := same_upd n0
      have e0 : upd H2 l0 (HO.lst []) l0 = some (HO.lst []) := upd_same
      generalize upd H2 l0 (HO.lst []) = H3 at s3 e0 ⊢
      have e3 := s3 _ _ e2
      have t3 := t2.same s3
      refine ⟨.list (qs.map pairD), .list (([] : List (Int × Int)).map pairD), .lst (SqL.of e3) t3.dts, .lst (SqL.of e0) .nil, (plain_row _).2, (plain_row _).2, (depth_row _).2, _, rfl, ?_⟩
      rw [eqv_rowL]
      rcases snoc_cases qs with rfl | ⟨qs, y, rfl⟩
      · rw [decide_eq_true rfl]
        refine iteT ?_
        cases t3
        refine iteT ?_
        exact ⟨_, rfl, q l [] H3 (s2.trans s3) nl e3 (by rw [← hst]; exact .nil)⟩
      · rw [decide_eq_false (by simp)]
        refine iteF ?_
        obtain ⟨as2, r, rfl, t4, er⟩ := t3.unsnoc
        refine ⟨_, rfl, _, rfl, l, _, _, .ref r, rfl, rfl, SqL.of e3, (by rw [List.map_append]; exact atI_last _ _), r, _, _, .int y.1, rfl, rfl, SqT.of er, at_of (j := 0) rfl rfl, rfl, _, rfl, ?_⟩
        by_cases y0 : y.1 = 0
        · rw [decide_eq_true (by rw [y0])]
          refine iteF ?_
          refine ⟨_, rfl, .inl ⟨rfl, _, SqL.of e3⟩, l, _, .ref r, rfl, rfl, e3, (by simp), ?_⟩
          refine ⟨as2, qs, _, rfl, fun b o eb => ?_, ?_, ?_, ?_, ?_⟩
          · rw [upd_ne (ne_of_none eb nl)]
            exact s3 _ _ (s2 _ _ eb)
          · rw [upd_same, List.map_append]
            simp
          · refine t4.imp fun c p z => ?_
            rw [upd_ne (ne_of z e3 (by intro z; cases z))]
            exact z
          · rw [strip_snoc, if_pos y0] at hst
            exact hst
          · rw [List.length_append] at hn
            simp at hn
            omega
        · rw [decide_eq_false (fun z => y0 (by have z2 := V.int.inj z; exact z2))]
          refine iteT ?_
          refine ⟨_, rfl, q l (as2 ++ [r]) H3 (s2.trans s3) nl e3 ?_⟩
          rw [← hst, strip_snoc, if_neg y0]
          exact t3
    · rintro σ H2 ⟨as', qs, v, rfl, s2, e2, t2, hst, hn⟩
      have h0 : as'.length = 0 := by omega
      have h1 := t2.len
      have h2 : as' = [] := List.length_eq_zero_iff.mp h0
      have h3 : qs = [] := List.length_eq_zero_iff.mp (by omega)
      subst h2 h3
      exact ⟨_, rfl, q l [] H2 s2 nl e2 (by rw [← hst]; exact .nil)⟩
end
def spL2 (g : Rat → Rat → Rat) : Sp := fun vs H Q _ => ∃ (r1 r2 : Addr) (a b : Rat), vs = [.ref r1, .ref r2] ∧ TR H r1 a ∧ TR H r2 b ∧ Sr a ∧ Sr b ∧ ∀ (r : Addr) (H' : Hp), Same H H' → H r = none → TR H' r (g a b) → Q (.ref r) H'
def rAdd (a b : Rat) : Rat := a + b
def rMul (a b : Rat) : Rat := a * b
/-- every number is small -/
def SrL (a : List Rat) : Prop := ∀ i, Sr (cf a i)
section
variable {P : Program} {w : World} {K : PySem.W.Frag} {mg : Str → Option Value} {base : Heap} {CN : Addr}
abbrev sLPlus : Stmt := topS 52
abbrev sLTimes : Stmt := topS 53
theorem scLPlus : FnScope ["_law_one", "_law_two"] ["_law_one", "_law_two"] (defScope sLPlus) := ⟨rfl, rfl, rfl, by decide +kernel, rfl, by decide +kernel, by decide +kernel⟩
theorem den_ne (a b : Rat) : ((a.den : Int) * (b.den : Int)) ≠ 0 := by
  have h1 := a.den_nz
  have h2 := b.den_nz
  exact Int.mul_ne_zero (by omega) (by omega)
theorem ok_lplus {f : Addr} {fd : FuncData} (F : Fun K "_law_plus" "_law_plus" sLPlus f fd) (Gq : Df P w K mg base "_law_q" 2 ["_law_top", "_law_bottom"] spQ) : FnOk P w K mg base CX0 3 f fd ["_law_one", "_law_two"] (spL2 rAdd) := by
  refine F.ok scLPlus (fun vs H Q E h => ?_) (fun cdv A outer s H vs Q E hr h => ?_)
  · obtain ⟨r1, r2, a, b, rfl, _⟩ := h
    rfl
  · obtain ⟨r1, r2, a, b, rfl, h1, h2, za, zb, q⟩ := h
    refine ⟨_, (pss_one (ps_ret (pe_call Gq.ok (hr.mono (by decide)) rfl Gq.m Gq.kp Gq.b .nil pass0 (pa_cons (pe_op op_add (pe_op op_mulW (pe_ix ix_tup (pv 0) pe_int (fun _ _ => rfl)) (pe_ix ix_tup (pv 1) pe_int (fun _ _ => rfl))) (pe_op op_mulW (pe_ix ix_tup (pv 1) pe_int (fun _ _ => rfl)) (pe_ix ix_tup (pv 0) pe_int (fun _ _ => rfl)))) (pa_cons (pe_op op_mulW (pe_ix ix_tup (pv 0) pe_int (fun _ _ => rfl)) (pe_ix ix_tup (pv 1) pe_int (fun _ _ => rfl))) pa_nil))))), ?_⟩
    obtain ⟨s1, s2, s3⟩ := sr_sum za zb
    refine ⟨_, rfl, r1, _, _, .int a.num, rfl, rfl, SqT.of h1, at_of (j := 0) rfl rfl, _, rfl, r2, _, _, .int b.den, rfl, rfl, SqT.of h2, at_of (j := 1) rfl rfl, _, _, rfl, rfl, big_mulW za.n zb.d, ?_⟩
    refine ⟨_, rfl, r2, _, _, .int b.num, rfl, rfl, SqT.of h2, at_of (j := 0) rfl rfl, _, rfl, r1, _, _, .int a.den, rfl, rfl, SqT.of h1, at_of (j := 1) rfl rfl, _, _, rfl, rfl, big_mulW zb.n za.d, ?_⟩
    refine ⟨_, _, rfl, rfl, ?_⟩
    refine ⟨_, rfl, r1, _, _, .int a.den, rfl, rfl, SqT.of h1, at_of (j := 1) rfl rfl, _, rfl, r2, _, _, .int b.den, rfl, rfl, SqT.of h2, at_of (j := 1) rfl rfl, _, _, rfl, rfl, big_mulW za.d zb.d, ?_⟩
    refine ⟨_, _, rfl, den_ne a b, s1, s2, fun r H' ss nr er => ?_⟩
    rw [low_add] at er
    exact q r H' ss nr er
theorem scLTimes : FnScope ["_law_one", "_law_two"] ["_law_one", "_law_two"] (defScope sLTimes) := ⟨rfl, rfl, rfl, by decide +kernel, rfl, by decide +kernel, by decide +kernel⟩
theorem ok_ltimes {f : Addr} {fd : FuncData} (F : Fun K "_law_times" "_law_times" sLTimes f fd) (Gq : Df P w K mg base "_law_q" 2 ["_law_top", "_law_bottom"] spQ) : FnOk P w K mg base CX0 3 f fd ["_law_one", "_law_two"] (spL2 rMul) := by
  refine F.ok scLTimes (fun vs H Q E h => ?_) (fun cdv A outer s H vs Q E hr h => ?_)
  · obtain ⟨r1, r2, a, b, rfl, _⟩ := h
    rfl
  · obtain ⟨r1, r2, a, b, rfl, h1, h2, za, zb, q⟩ := h
    refine ⟨_, (pss_one (ps_ret (pe_call Gq.ok (hr.mono (by decide)) rfl Gq.m Gq.kp Gq.b .nil pass0 (pa_cons (pe_op op_mulW (pe_ix ix_tup (pv 0) pe_int (fun _ _ => rfl)) (pe_ix ix_tup (pv 1) pe_int (fun _ _ => rfl))) (pa_cons (pe_op op_mulW (pe_ix ix_tup (pv 0) pe_int (fun _ _ => rfl)) (pe_ix ix_tup (pv 1) pe_int (fun _ _ => rfl))) pa_nil))))), ?_⟩
    obtain ⟨s1, s2, s3⟩ := sr_sum za zb
    refine ⟨_, rfl, r1, _, _, .int a.num, rfl, rfl, SqT.of h1, at_of (j := 0) rfl rfl, _, rfl, r2, _, _, .int b.num, rfl, rfl, SqT.of h2, at_of (j := 0) rfl rfl, _, _, rfl, rfl, big_mulW za.n zb.n, ?_⟩
    refine ⟨_, rfl, r1, _, _, .int a.den, rfl, rfl, SqT.of h1, at_of (j := 1) rfl rfl, _, rfl, r2, _, _, .int b.den, rfl, rfl, SqT.of h2, at_of (j := 1) rfl rfl, _, _, rfl, rfl, big_mulW za.d zb.d, ?_⟩
    refine ⟨_, _, rfl, den_ne a b, s3, s2, fun r H' ss nr er => ?_⟩
    rw [low_times] at er
    exact q r H' ss nr er
end
end Vf
set_option maxRecDepth 100000
set_option maxHeartbeats 8000000
namespace Vf
open PySem PySem.Spec PyProof.Rows L2
def pslope (a : List Rat) : List Rat := tab (a.length - 1) fun j => cf a (j + 1) * ((j + 1 : Nat) : Rat)
end Vf
set_option maxRecDepth 100000
set_option maxHeartbeats 8000000
namespace Vf
open PySem PySem.Spec PyProof.Rows L2
/-- the class, as the written part tells it -/
structure PoC (K : PySem.W.Frag) (mg : Str → Option Value) (CP : Addr) : Prop where
  m : mg "Poly" = some (.ref CP)
  cl : Cls K CP
  nf : NoAttr K CP "numbers"
  ca : PySem.W.findIn K (.ref CP) "__class__" = some (some (.builtin "object.__class__"))
  cn : PySem.W.specialIn K (.builtin "object.__class__") "__get__" = some (some (.builtin "getset_descriptor.__get__"))
  ct : PySem.W.takesIn K (.builtin "object.__class__") = some true
  cm : PySem.W.mroIn K CP (.type "object") = some true
  no : ∀ d : PyData, PySem.W.kitOne K (.type (tyD d)) (.ref CP) = some false
  fs : PySem.W.notFirst K CP (.ref CP) = true
  fd : ∀ d : PyData, PySem.W.notFirst K CP (.type (tyD d)) = true
theorem PoC.io {K : PySem.W.Frag} {mg : Str → Option Value} {CP : Addr} (_ : PoC K mg CP) : PySem.W.kitOne K (.ref CP) (.ref CP) = some true := by
  unfold PySem.W.kitOne
  rw [if_pos (by simp)]
/-- a polynomial with these numbers stands at a -/
def PolyAt (K : PySem.W.Frag) (CP : Addr) (H : Hp) (a : Addr) (rs : List (Int × Int)) : Prop := ∃ dx q as, H a = some (.ins CP dx [("numbers", .ref q)]) ∧ H q = some (.tup (as.map V.ref)) ∧ Tups H as rs
theorem PolyAt.imp {K : PySem.W.Frag} {CP : Addr} {H H' : Hp} {a : Addr} {rs : List (Int × Int)} (h : PolyAt K CP H a rs) (e : ∀ b o, H b = some o → ((∃ fs dx, o = .ins CP dx fs) ∨ ∃ xs, o = .tup xs) → H' b = some o) : PolyAt K CP H' a rs := by
  obtain ⟨dx, q, as, h1, h2, h3⟩ := h
  exact ⟨dx, q, as, e _ _ h1 (.inl ⟨_, _, rfl⟩), e _ _ h2 (.inr ⟨_, rfl⟩), h3.imp fun a p z => e _ _ z (.inr ⟨_, rfl⟩)⟩
theorem PolyAt.same {K : PySem.W.Frag} {CP : Addr} {H H' : Hp} {a : Addr} {rs : List (Int × Int)} (h : PolyAt K CP H a rs) (s : Same H H') : PolyAt K CP H' a rs := h.imp fun b o e _ => s b o e
theorem PolyAt.n {K : PySem.W.Frag} {CP : Addr} {H H' : Hp} {a : Addr} {rs : List (Int × Int)} (h : PolyAt K CP H a rs) (s : LamX.ExtN H H') : PolyAt K CP H' a rs := h.imp fun b o e t => s b o e (fun ps z => by
  rcases t with ⟨_, _, t⟩ | ⟨_, t⟩ <;> rw [t] at z <;> cases z)
theorem PolyAt.kp {K : PySem.W.Frag} {CP : Addr} {H H' : Hp} {a p l : Addr} {B : Int} {rs : List (Int × Int)} (h : PolyAt K CP H a rs) (hP : Pen H p l B) (s : Kp p H H') : PolyAt K CP H' a rs := by
  obtain ⟨ns, a0, d0, c0, f0, g1, _⟩ := hP
  refine h.imp fun b o e t => s b o (fun z => ?_) e
  rw [z, g1.1] at e
  cases e
  rcases t with ⟨_, _, t⟩ | ⟨_, t⟩ <;> cases t
theorem PolyAt.ty {K : PySem.W.Frag} {mg : Str → Option Value} {CP : Addr} {H : Hp} {a : Addr} {rs : List (Int × Int)} (C : PoC K mg CP) (h : PolyAt K CP H a rs) : TyX K H (.ref a) (.ref CP) := by
  obtain ⟨dx, q, as, h1, _⟩ := h
  exact .base (.ins h1 C.cl C.ca C.cn C.ct C.cm)
/-- a row of ratios, as data -/
def rowD : PyData → Option (List (Int × Int))
  | .list ds => ds.mapM partsD
  | .tuple ds => ds.mapM partsD
  | _ => none
theorem rowD_seq {d : PyData} {ds : List PyData} (h : seqD d = some ds) : rowD d = ds.mapM partsD := by
  cases d <;> first | (cases h; rfl) | cases h
theorem rowD_none {d : PyData} (h : seqD d = none) : rowD d = none := by
  cases d <;> first | rfl | cases h
theorem mapM_some : ∀ {ds : List PyData} {ps : List (Int × Int)}, ds.mapM partsD = some ps → ds.length = ps.length ∧ ∀ (i : Nat) (d : PyData), ds[i]? = some d → ∃ p, ps[i]? = some p ∧ partsD d = some p
  | [], ps, h => by
    rw [List.mapM_nil] at h
    cases h
    exact ⟨rfl, fun i d e => by simp at e⟩
  | d0 :: ds, ps, h => by
    rw [List.mapM_cons] at h
    cases e0 : partsD d0 with
    | none => rw [e0] at h; cases h
    | some p0 =>
      rw [e0] at h
      cases e1 : ds.mapM partsD with
      | none => rw [e1] at h; cases h
      | some ps1 =>
        rw [e1] at h
        cases h
        obtain ⟨h1, h2⟩ := mapM_some e1
        refine ⟨by simp [h1], fun i d e => ?_⟩
        cases i with
        | zero =>
          simp at e
          subst e
          exact ⟨p0, rfl, e0⟩
        | succ i => simpa using h2 i d (by simpa using e)
theorem mapM_all : ∀ ds : List PyData, (ds.map fun d => (partsD d).isSome).all id = (ds.mapM partsD).isSome
  | [] => by rw [List.mapM_nil]; rfl
  | d :: ds => by
    rw [List.mapM_cons, List.map_cons, List.all_cons, mapM_all ds]
    cases partsD d with
    | none => rfl
    | some p =>
      cases ds.mapM partsD <;> rfl
def spIsRow (K : PySem.W.Frag) : Sp := fun vs H Q _ => ∃ (v : V) (d : PyData), vs = [v] ∧ Dt K H v d ∧ (∀ ds, seqD d = some ds → ds.length ≤ 1000) ∧ ∀ H', Same H H' → Q (.bl (rowD d).isSome) H'
/-- an error of BadRow -/
def RaisesR (CR : Addr) (H : Hp) (v : V) (E : XK) : Prop := ∀ (d : Addr) (H' : Hp), Same H H' → H d = none → H' d = some (.xd (fl ["row"] [v])) → E (.ref CR) (some d) H'
theorem RaisesR.same {CR : Addr} {H H1 : Hp} {v : V} {E : XK} (s : Same H H1) (h : RaisesR CR H v E) : RaisesR CR H1 v E := fun d H' s' n e => h d H' (s.trans s') (s.free n) e
/-- the numbers of a row, in lowest terms -/
def lowP (p : Int × Int) : Int × Int := low p.1 p.2
/-- a Poly is made of a value -/
def spPolyI (K : PySem.W.Frag) (CP CR : Addr) : Sp := fun vs H Q E => ∃ (x dx : Addr) (v : V) (d : PyData), vs = [.ref x, v] ∧ H x = some (.ins CP dx []) ∧ Dt K H v d ∧ (∀ ds, seqD d = some ds → ds.length ≤ 1000) ∧
  (∀ ps, rowD d = some ps → (∀ p ∈ ps, p.2.natAbs < 2 ^ big) ∧ ∀ H', Kp x H H' → PolyAt K CP H' x (strip (ps.map lowP)) → Q .non H') ∧ (rowD d = none → RaisesR CR H v E)
/-- what the call Poly(v) comes to -/
theorem poly_made {K : PySem.W.Frag} {CP CR : Addr} {H : Hp} {v : V} {d : PyData} {Qd : Addr → Hp → Prop} {E : XK} (hd : Dt K H v d) (hl : ∀ ds, seqD d = some ds → ds.length ≤ 1000)
    (k : ∀ ps, rowD d = some ps → (∀ p ∈ ps, p.2.natAbs < 2 ^ big) ∧ ∀ (x : Addr) (H' : Hp), Same H H' → H x = none → PolyAt K CP H' x (strip (ps.map lowP)) → Qd x H') (r : rowD d = none → RaisesR CR H v E) :
    ∀ x dx, H x = none → H dx = none → dx ≠ x → spPolyI K CP CR (.ref x :: ([v] ++ [])) (upd (upd H dx (.own x)) x (.ins CP dx [])) (fun w H2 => w = .non ∧ Qd x H2) E := by
  intro x dx nx nd ne
  have s1 : Same H (upd (upd H dx (.own x)) x (.ins CP dx [])) := (same_upd nd).trans (same_upd (by rw [upd_ne (Ne.symm ne)]; exact nx))
  refine ⟨x, dx, v, d, rfl, upd_same, hd.mono s1, hl, fun ps hp => ?_, fun hn => (r hn).same s1⟩
  obtain ⟨k1, k2⟩ := k ps hp
  refine ⟨k1, fun H' kp hP => ⟨rfl, k2 x H' (fun b o e => kp b o (ne_of_none e nx) (s1 _ _ e)) nx hP⟩⟩
section
variable {P : Program} {w : World} {K : PySem.W.Frag} {mg : Str → Option Value} {base : Heap} {CP CR CN : Addr}
abbrev sIsRow : Stmt := topS 25
abbrev sPolyI : Stmt := inClass (topS 32) 0
abbrev sPolyE : Stmt := inClass (topS 32) 1
theorem scIsRow : FnScope ["value", "item"] ["value"] (defScope sIsRow) := ⟨rfl, rfl, rfl, by decide +kernel, rfl, by decide +kernel, by decide +kernel⟩
theorem map_take_snoc {α β : Type} {l : List α} {f : α → β} {i : Nat} {x : α} (h : l[i]? = some x) : (l.take i).map f ++ [f x] = (l.take (i + 1)).map f := by
  rw [List.take_succ, h, List.map_append]
  rfl
theorem ok_is_row {f : Addr} {fd : FuncData} (F : Fun K "is_ratio_row" "is_ratio_row" sIsRow f fd) (T : Bk mg) (hall : mg "all" = none) (Gr : Df P w K mg base "is_ratio" 2 ["value"] (spIsRatio K)) : FnOk P w K mg base CX0 3 f fd ["value"] (spIsRow K) := by
  refine F.ok scIsRow (fun vs H Q E h => ?_) (fun cdv A outer s H vs Q E hr h => ?_)
  · obtain ⟨v, d, rfl, _⟩ := h
    rfl
  · obtain ⟨v, d, rfl, hd, hlen, q⟩ := h
    refine ⟨_, (pss_one (ps_ret (pe_and (pe_callB call_isiT (by rfl) T.isinstance (by decide +kernel) (pa_cons (pv 0) (pa_cons (pe_tup (pa_cons (pe_bltn (v := V.ty "tuple") (by rfl) T.tuple (by decide +kernel) rfl) (pa_cons (pe_bltn (v := V.ty "list") (by rfl) T.list (by decide +kernel) rfl) pa_nil))) pa_nil)))
      (pe_one (pe_callB (cr_all rfl) (by rfl) hall (by decide +kernel) (pa_cons (pe_lc (own := [("item", 1)]) (g := gName 1) (tt := tYes) rfl scIsRow.nd (pi_seq (pv 0)) (blkOk_by (N := ["value", "item"]) (sc := defScope sIsRow) (by decide +kernel)) (fun _ _ _ _ _ => pg_name (i := 1) scIsRow.nd rfl (Or.inl rfl)) (fun _ _ _ _ _ => pts_nil)
        (fun _ _ _ _ _ => pe_call Gr.ok hr rfl Gr.m Gr.kp Gr.b .nil pass0 (pa_cons (pv 1) pa_nil))) pa_nil)))))), ?_⟩
    refine ⟨_, rfl, (by show 2 ≤ sizeLine; decide), fun tp ntp => ?_⟩
    have s1 : Same H (upd H tp (HO.tup [V.ty "tuple", V.ty "list"])) := same_upd ntp
    have e1 : upd H tp (HO.tup [V.ty "tuple", V.ty "list"]) tp = some (HO.tup [V.ty "tuple", V.ty "list"]) := upd_same
    generalize upd H tp (HO.tup [V.ty "tuple", V.ty "list"]) = H1 at s1 e1 ⊢
    have hd1 := hd.mono s1
    refine ⟨v, tp, _, _, [.type "tuple", .type "list"], _, rfl, e1, .cons (.ty _) (.cons (.ty _) .nil), hd1.ty, kit_seq d, _, rfl, ?_⟩
    cases hs : seqD d with
    | none =>
      refine iteF ?_
      have z := q H1 s1
      rw [rowD_none hs] at z
      exact z
    | some ds =>
      refine iteT ?_
      obtain ⟨a, xs, rfl, hsq, hds⟩ := hd1.seq hs
      have hl := hds.len
      have hl2 := hlen ds hs
      refine ⟨_, rfl, a, rfl, lc_seq (xs := xs) hsq (fun D i H2 => Same H1 H2 ∧ H2 D = some (.lst ((ds.take i).map fun d => V.bl (partsD d).isSome))) ?_ ?_ ?_ ?_⟩
      · intro D hD
        exact ⟨same_upd hD, upd_same⟩
      · intro D i H2 hD ⟨s2, _⟩
        exact ⟨same_sqL s2, same_sqT s2⟩
      · intro D i x H2 hD hi ⟨s2, e2⟩
        obtain ⟨di, h1, h2⟩ := hds.at hi
        refine ⟨rfl, ?_⟩
        refine ⟨_, rfl, x, di, rfl, h2.mono s2, fun H3 s3 => ?_⟩
        refine ⟨_, s3 _ _ e2, ?_, (fun b o e => ?_), ?_⟩
        · rw [List.length_map, List.length_take, sizeLine_eq]
          omega
        · rw [upd_ne (ne_of_none e hD)]
          exact s3 _ _ (s2 _ _ e)
        · rw [upd_same, map_take_snoc h1]
      · intro D H2 hD ⟨s2, e2⟩
        refine ⟨D, ds.map fun d => (partsD d).isSome, rfl, ?_, ?_⟩
        · rw [List.map_map]
          refine SqL.of ?_
          rw [e2, hl, List.take_length]
          rfl
        · rw [mapM_all]
          have z := q H2 (s1.trans s2)
          rw [rowD_seq hs] at z
          exact z
theorem scPolyI : FnScope ["self", "numbers", "row", "number"] ["self", "numbers"] (defScope sPolyI) := ⟨rfl, rfl, rfl, by decide +kernel, rfl, by decide +kernel, by decide +kernel⟩
theorem ok_poly_init {f : Addr} {fd : FuncData} (F : Fun K "__init__" "Poly.__init__" sPolyI f fd) (T : Bk mg) (C : PoC K mg CP) (N : Ex P w K mg base "BadRow" CR ["row"]) (Gi : Df P w K mg base "is_ratio_row" 3 ["value"] (spIsRow K)) (Gt : Dx P w K mg base "told" 4 ["value", "what"] (spTold K CN)) :
    FnOk P w K mg base (L2.CX P w) 5 f fd ["self", "numbers"] (spPolyI K CP CR) := by
  refine F.okX scPolyI (fun vs H Q E h => ?_) (fun cdv A outer s H vs Q E hr h => ?_)
  · obtain ⟨x, dx, v, d, rfl, _⟩ := h
    rfl
  · obtain ⟨x, dx, v, d, rfl, hx, hd, hlen, q, e⟩ := h
    refine ⟨_, (pss_cons (ps_if (pt_not (pt_val (pe_call Gi.ok (hr.mono (by decide)) rfl Gi.m Gi.kp Gi.b .nil pass0 (pa_cons (pv 1) pa_nil))))
        (pss_one (ps_raise rfl (takes_of rfl rfl rfl rfl) (pmk_oex N.ox N.iC N.tI N.ok (hr.mono (by decide)) N.b .nil pass0 (by rfl) N.m (pa_cons (pv 1) pa_nil))))
        pss_nil)
      (PSs.nox (pss_cons (ps_setLc (i := 2) (own := [("number", 3)]) (g := gName 3) (tt := tYes) rfl scPolyI.nd rfl rfl (sw_true rfl rfl rfl (by decide +kernel)) (pi_seq (pv 1)) (blkOk_by (N := ["self", "numbers", "row", "number"]) (sc := defScope sPolyI) (by decide +kernel)) (fun _ _ _ _ _ => pg_name (i := 3) scPolyI.nd rfl (Or.inl rfl)) (fun _ _ _ _ _ => pts_nil)
          (fun _ _ _ _ _ => pe_call Gt.ok hr rfl Gt.m Gt.kp Gt.b .nil passL (pa_cons (pv 3) (pa_cons pe_str pa_nil))))
      (pss_cons (ps_while PassesOwn.never (PW.pt (pw_and (pt_truth (pv 2) (by intro _; rfl)) (pw_and1 (pt_cmpR op_eq (pe_ix ix_tup (pe_ix ix_list (pv 2) (pe_un un_neg pe_int) (fun _ _ => rfl)) pe_int (fun _ _ => rfl)) pe_int (nomark _)))))
        (pss_one (ps_expr (pe_bm0 PySem.F.plainAttrs_list PySem.F.slot_list_pop PySem.F.type_list_pop mt_pop (pv 2)))))
      (pss_one (ps_fld (pv 0) (pe_callTy call_tuple_of (by rfl) T.tuple (by decide +kernel) (pa_cons (pv 2) pa_nil)) rfl)))))), ?_⟩
    refine ⟨_, rfl, v, d, rfl, hd, hlen, fun H1 s1 => ⟨_, rfl, ?_⟩⟩
    have hd1 := hd.mono s1
    cases hp : rowD d with
    | none =>
      refine iteT ?_
      refine ⟨_, rfl, (by show 1 ≤ 1000; decide), ?_⟩
      exact raise_end rfl fun dd H' s2 n e2 => (e hp).same s1 dd H' s2 n e2
    | some ps =>
      refine iteF ?_
      obtain ⟨hbig, q⟩ := q ps hp
      obtain ⟨ds, hs⟩ : ∃ ds, seqD d = some ds := by
        cases hs : seqD d with
        | none => rw [rowD_none hs] at hp; cases hp
        | some ds => exact ⟨ds, rfl⟩
      have hm := hp
      rw [rowD_seq hs] at hm
      obtain ⟨ml, mi⟩ := mapM_some hm
      obtain ⟨a, xs, rfl, hsq, hds⟩ := hd1.seq hs
      have hl := hds.len
      have hl2 := hlen ds hs
      refine ⟨_, rfl, a, rfl, lc_seq (xs := xs) hsq (fun D i H2 => Same H1 H2 ∧ ∃ as, H2 D = some (.lst (as.map V.ref)) ∧ Tups H2 as ((ps.map lowP).take i)) ?_ ?_ ?_ ?_⟩
      · intro D hD
        exact ⟨same_upd hD, [], upd_same, .nil⟩
      · intro D i H2 hD ⟨s2, _⟩
        exact ⟨same_sqL s2, same_sqT s2⟩
      · intro D i y H2 hD hi ⟨s2, as, e2, t2⟩
        obtain ⟨di, h1, h2⟩ := hds.at hi
        obtain ⟨p, h3, h4⟩ := mi i di h1
        obtain ⟨t, b⟩ := p
        refine ⟨rfl, ?_⟩
        refine ⟨_, rfl, y, .str "number", di, rfl, h2.mono s2, fun t' b' hp' => ?_, fun z => by rw [h4] at z; cases z⟩
        rw [h4] at hp'
        cases hp'
        refine ⟨hbig (t, b) (List.mem_of_getElem? h3), fun r H3 s3 e3 => ?_⟩
        have rD : r ≠ D := ne_of e3 (s3 _ _ e2) (by intro z; cases z)
        have up : ∀ (a : Addr) (p : Int × Int), H3 a = some (.tup [.int p.1, .int p.2]) → upd H3 D (.lst (as.map V.ref ++ [V.ref r])) a = some (.tup [.int p.1, .int p.2]) := fun a p z => by
          rw [upd_ne (ne_of z (s3 _ _ e2) (by intro z; cases z))]
          exact z
        refine ⟨_, s3 _ _ e2, ?_, (fun b o e => ?_), as ++ [r], ?_, ?_⟩
        · have := t2.len
          rw [List.length_take, List.length_map] at this
          rw [List.length_map, sizeLine_eq]
          omega
        · rw [upd_ne (ne_of_none e hD)]
          exact s3 _ _ (s2 _ _ e)
        · rw [upd_same, List.map_append]
          rfl
        · rw [List.take_succ, List.getElem?_map, h3]
          exact ((t2.same s3).imp up).snoc (up _ _ e3)
      · intro lr H2 nlr ⟨s2, as, e2, t2⟩
        have tk : (ps.map lowP).take xs.length = ps.map lowP := by
          rw [hl, ml]
          exact List.take_of_length_le (by rw [List.length_map]; exact Nat.le_refl _)
        rw [tk] at t2
        refine ⟨fun m σ H3 => ∃ as qs, m = List.length as ∧ (∃ v3, σ = [some (.ref x), some (.ref a), some (.ref lr), v3]) ∧ Same H1 H3 ∧ H3 lr = some (.lst (as.map V.ref)) ∧ Tups H3 as qs ∧ strip qs = strip (ps.map lowP) ∧ as.length ≤ 1000, ⟨_, as, _, rfl, ⟨_, rfl⟩, s2, e2, t2, rfl, ?_⟩, ?_⟩
        · have := t2.len
          rw [List.length_map] at this
          omega
        · rintro m σ H3 ⟨as, qs, rfl, ⟨v3, rfl⟩, s3, e3, t3, hst, hz⟩
          have fin : strip qs = qs → sFld K (tVar 0) (tCB (fun xs H Q => ∃ p ys, xs = [.ref p] ∧ ((SqL K H p ys ∧ ∀ l, H l = none → Q (.ref l) (upd H l (.tup ys))) ∨ (SqT K H p ys ∧ Q (.ref p) H))) (tCons (tVar 2) tNil)) "numbers" { nx := fun _ H' => Q .non H', rt := Q } [some (.ref x), some (.ref a), some (.ref lr), v3] H3 := fun hqs => by
            refine ⟨_, rfl, lr, _, rfl, .inl ⟨SqL.of e3, fun tq ntq => ?_⟩⟩
            have hx3 := s3 _ _ (s1 _ _ hx)
            have hxq : x ≠ tq := ne_of_none hx3 ntq
            refine ⟨_, rfl, x, CP, dx, [], rfl, (by rw [upd_ne hxq]; exact hx3), C.cl, C.nf, (by decide), ?_⟩
            refine q _ (fun b o nb eb => ?_) ⟨dx, tq, as, upd_same, (by rw [upd_ne hxq.symm]; exact upd_same), ?_⟩
            · have eb3 := s3 _ _ (s1 _ _ eb)
              rw [upd_ne nb, upd_ne (ne_of_none eb3 ntq)]
              exact eb3
            · rw [← hst, hqs]
              refine t3.imp fun c p z => ?_
              rw [upd_ne (ne_of z hx3 (by intro z; cases z)), upd_ne (ne_of_none z ntq)]
              exact z
          rcases snoc_cases qs with rfl | ⟨qs, y, rfl⟩
          · cases t3
            refine ⟨_, rfl, false, .inl ⟨[], SqL.of e3, rfl⟩, ?_⟩
            refine iteF ?_
            refine iteF ?_
            exact fin strip_nil
          · obtain ⟨as', r, rfl, t4, er⟩ := t3.unsnoc
            refine ⟨_, rfl, true, .inl ⟨_, SqL.of e3, by simp⟩, ?_⟩
            refine iteT ?_
            refine ⟨_, rfl, _, rfl, lr, _, _, .ref r, rfl, rfl, SqL.of e3, (by rw [List.map_append]; exact L2.atI_last _ _), r, _, _, .int y.1, rfl, rfl, SqT.of er, at_of (j := 0) rfl rfl, rfl, _, rfl, ?_⟩
            by_cases y0 : y.1 = 0
            · rw [decide_eq_true (by rw [y0])]
              refine iteT ?_
              refine ⟨fun σ' H' => ∃ qs', (∃ v3, σ' = [some (.ref x), some (.ref a), some (.ref lr), v3]) ∧ Same H1 H' ∧ H' lr = some (.lst (as'.map V.ref)) ∧ Tups H' as' qs' ∧ strip qs' = strip (ps.map lowP) ∧ as'.length ≤ 1000, fun σ' H' ⟨qs', h1, h2, h3, h4, h5, h6⟩ => ⟨as'.length, by rw [List.length_append]; simp, as', qs', rfl, h1, h2, h3, h4, h5, h6⟩, ?_⟩
              refine ⟨_, rfl, .inl ⟨rfl, _, SqL.of e3⟩, lr, _, .ref r, rfl, rfl, e3, ?_, ?_⟩
              · simp
              · refine ⟨qs, ⟨_, rfl⟩, fun b o eb => ?_, ?_, ?_, ?_, ?_⟩
                · rw [upd_ne (ne_of_none eb nlr)]
                  exact s3 _ _ eb
                · rw [upd_same, List.map_append]
                  simp
                · refine t4.imp fun c p z => ?_
                  rw [upd_ne (ne_of z e3 (by intro z; cases z))]
                  exact z
                · rw [strip_snoc, if_pos y0] at hst
                  exact hst
                · rw [List.length_append] at hz
                  omega
            · rw [decide_eq_false (fun z => y0 (by have z2 := V.int.inj z; exact z2))]
              refine iteF ?_
              exact fin (by rw [strip_snoc, if_neg y0])
def spPolyE (K : PySem.W.Frag) (CP : Addr) : Sp := fun vs H Q _ => ∃ (a : Addr) (rs : List (Int × Int)) (v : V), vs = [.ref a, v] ∧ PolyAt K CP H a rs ∧
  ((∃ (b : Addr) (rs2 : List (Int × Int)), v = .ref b ∧ PolyAt K CP H b rs2 ∧ Q (.bl (decide (rs = rs2))) H) ∨ (∃ d, Dt K H v d ∧ Q (.bl false) H))
theorem scPolyE : FnScope ["self", "other"] ["self", "other"] (defScope sPolyE) := ⟨rfl, rfl, rfl, by decide +kernel, rfl, by decide +kernel, by decide +kernel⟩
theorem ok_poly_eq {f : Addr} {fd : FuncData} (F : Fun K "__eq__" "Poly.__eq__" sPolyE f fd) (T : Bk mg) (hm1 : M1 base) (C : PoC K mg CP) : FnOk P w K mg base CX0 1 f fd ["self", "other"] (spPolyE K CP) := by
  refine F.ok scPolyE (fun vs H Q E h => ?_) (fun cdv A outer s H vs Q E hr h => ?_)
  · obtain ⟨a, rs, v, rfl, _⟩ := h
    rfl
  · obtain ⟨a, rs, v, rfl, ha, q⟩ := h
    refine ⟨_, (pss_one (ps_ret (pe_and (pe_callB call_isi (by rfl) T.isinstance (by decide +kernel) (pa_cons (pv 1) (pa_cons (pe_glob (v := V.ref CP) rfl C.m rfl) pa_nil))) (pe_one (pe_cmpR (op_eqT hr.units hm1) (pe_fld (pv 0) rfl) (pe_fld (pv 1) rfl) (nomark _)))))), ?_⟩
    rcases q with ⟨b, rs2, rfl, hb, q⟩ | ⟨d, hd, q⟩
    · refine ⟨_, rfl, .ref b, .ref CP, _, .ref CP, _, rfl, .own _, hb.ty C, C.io, _, rfl, ?_⟩
      refine iteT ?_
      obtain ⟨dx, t, as, h1, h2, h3⟩ := ha
      obtain ⟨dx2, t2, as2, g1, g2, g3⟩ := hb
      refine ⟨_, rfl, a, CP, dx, _, .ref t, rfl, h1, C.cl, C.nf, (by kernel_rfl), _, rfl, b, CP, dx2, _, .ref t2, rfl, g1, C.cl, C.nf, (by kernel_rfl), ?_⟩
      refine ⟨.tuple (rs.map pairD), .tuple (rs2.map pairD), .tup (SqT.of h2) h3.dts, .tup (SqT.of g2) g3.dts, (plain_row _).1, (plain_row _).1, (depth_row _).1, ?_⟩
      rw [eqv_row]
      exact q
    · refine ⟨_, rfl, v, .ref CP, _, .ref CP, _, rfl, .own _, hd.ty, C.no d, _, rfl, ?_⟩
      refine iteF ?_
      exact q
end
end Vf
set_option maxRecDepth 100000
set_option maxHeartbeats 4000000
namespace Vf
open PySem PySem.Spec PyProof.Rows L2
/-- the row ns tells the numbers qs over M -/
def Over (M : Int) (ns : List Int) (qs : List Rat) : Prop := ns.length = qs.length ∧ ∀ i, ((ns.getD i 0 : Int) : Rat) = cf qs i * (M : Rat)
def ci (ns : List Int) (i : Nat) : Int := ns.getD i 0
theorem Over.at {M : Int} {ns : List Int} {qs : List Rat} (h : Over M ns qs) (i : Nat) : cf qs i * (M : Rat) = ((ci ns i : Int) : Rat) := (h.2 i).symm
theorem ci_lt {l : List Int} {i : Nat} (h : i < l.length) : l[i]? = some (ci l i) := by
  unfold ci
  rw [List.getD_eq_getElem?_getD, List.getElem?_eq_getElem h]
  rfl
theorem ci_get {l : List Int} {i : Nat} {x : Int} (h : l[i]? = some x) : ci l i = x := by
  unfold ci
  rw [List.getD_eq_getElem?_getD, h]
  rfl
theorem ci_ge {l : List Int} {i : Nat} (h : l.length ≤ i) : ci l i = 0 := by
  unfold ci
  rw [List.getD_eq_getElem?_getD, List.getElem?_eq_none_iff.mpr h]
  rfl
def tabI (n : Nat) (f : Nat → Int) : List Int := (List.range n).map f
theorem tabI_len (n : Nat) (f : Nat → Int) : (tabI n f).length = n := by unfold tabI; rw [List.length_map, List.length_range]
theorem tabI_snoc (n : Nat) (f : Nat → Int) : tabI (n + 1) f = tabI n f ++ [f n] := by
  unfold tabI
  rw [List.range_succ, List.map_append]
  rfl
theorem ci_tab (n : Nat) (f : Nat → Int) (i : Nat) : ci (tabI n f) i = if i < n then f i else 0 := by
  unfold ci tabI
  rw [List.getD_eq_getElem?_getD, List.getElem?_map]
  by_cases h : i < n
  · rw [if_pos h, List.getElem?_range h]; rfl
  · rw [if_neg h, List.getElem?_eq_none_iff.mpr (by rw [List.length_range]; omega)]; rfl
end Vf
set_option maxRecDepth 100000
set_option maxHeartbeats 8000000
namespace Vf
open PySem PySem.Spec PyProof.Rows L2
/-- a row, a list or a tuple, of the pairs of these numbers -/
def RS (K : PySem.W.Frag) (H : Hp) (l : Addr) (qs : List Rat) : Prop := ∃ as, (SqL K H l (as.map V.ref) ∨ SqT K H l (as.map V.ref)) ∧ Tups H as (qs.map pq)
theorem RS.same {K : PySem.W.Frag} {H H' : Hp} {l : Addr} {qs : List Rat} (h : RS K H l qs) (s : Same H H') : RS K H' l qs := by
  obtain ⟨as, e, t⟩ := h
  exact ⟨as, e.imp (same_sqL s) (same_sqT s), t.same s⟩
theorem RS.of {K : PySem.W.Frag} {H : Hp} {l : Addr} {qs : List Rat} (h : RL H l qs) : RS K H l qs := by
  obtain ⟨as, e, t⟩ := h
  exact ⟨as, .inl (SqL.of e), t⟩
theorem parts_q (q : Rat) : partsD (pairD (pq q)) = some (q.num, (q.den : Int)) := by
  show (if 0 < (q.den : Int) then some (q.num, (q.den : Int)) else none) = _
  rw [if_pos (by have := q.den_pos; omega)]
/-- below 2 ^ 4300 above and below -/
def Z2 (q : Rat) : Prop := Sz q.num ∧ Sz (q.den : Int)
def rIxS (K : PySem.W.Frag) : R2 := fun x y H Q => ∃ p xs i v, x = .ref p ∧ y = .int i ∧ (SqL K H p xs ∨ SqT K H p xs) ∧ atI xs i = some v ∧ Q v H
theorem ix_seq {X : Cx} : IxR X (rIxS X.K) := by
  intro value slice pins s σ H x y v u Q I rx ry h hs
  obtain ⟨p, xs, i, z, e1, e2, hq, he, q⟩ := h
  rcases hq with hq | hq
  · exact ix_list value slice pins s σ H x y v u Q I rx ry ⟨p, xs, i, z, e1, e2, hq, he, q⟩ hs
  · exact ix_tup value slice pins s σ H x y v u Q I rx ry ⟨p, xs, i, z, e1, e2, hq, he, q⟩ hs
theorem RS.getQ {K : PySem.W.Frag} {H : Hp} {l : Addr} {qs : List Rat} (h : RS K H l qs) : ∃ xs : List V, (SqL K H l xs ∨ SqT K H l xs) ∧ xs.length = qs.length ∧ ∀ i, i < qs.length → ∃ a, xs[i]? = some (.ref a) ∧ TR H a (cf qs i) := by
  obtain ⟨as, e, t⟩ := h
  refine ⟨_, e, by rw [List.length_map, t.lenQ], fun i hi => ?_⟩
  obtain ⟨a, h1, h2⟩ := t.getQ hi
  exact ⟨a, by rw [List.getElem?_map, h1]; rfl, h2⟩
end Vf
set_option maxRecDepth 100000
set_option maxHeartbeats 8000000
namespace Vf
open PySem PySem.Spec PyProof.Rows L2
/-- the numbers of a Poly of the law -/
def Sm (q : Rat) : Prop := q.num.natAbs ≤ 2 ^ 13 ∧ q.den ≤ 2 ^ 12
theorem sm_zero' : Sm 0 := ⟨Nat.zero_le _, by show 1 ≤ 2 ^ 12; decide⟩
theorem num_den (q : Rat) : q * ((q.den : Nat) : Rat) = ((q.num : Int) : Rat) := by
  obtain ⟨n, e, h⟩ := Fr.self q
  have h0 : (q.den : Rat) ≠ 0 := by
    have := q.den_nz
    exact_mod_cast this
  have z : (q.num : Rat) / (q.den : Rat) = q := by
    have := Rat.num_divInt_den q
    rw [Rat.divInt_eq_div] at this
    exact_mod_cast this
  have := Rat.div_mul_cancel (a := (q.num : Rat)) h0
  rw [z] at this
  exact this
theorem over_one {q : Rat} {b : Nat} (h : q.den ∣ b) : q * (b : Rat) = ((q.num * ((b : Int) / (q.den : Int)) : Int) : Rat) := by
  obtain ⟨k, rfl⟩ := h
  have e : ((q.den * k : Nat) : Int) / (q.den : Int) = (k : Int) := by
    have := q.den_nz
    rw [Int.natCast_mul, Int.mul_ediv_cancel_left _ (by omega)]
  rw [e]
  have e2 : ((q.den * k : Nat) : Rat) = (q.den : Rat) * (k : Rat) := by exact_mod_cast rfl
  have e3 : ((q.num * (k : Int) : Int) : Rat) = (q.num : Rat) * (k : Rat) := by exact_mod_cast rfl
  rw [e2, e3, ← Rat.mul_assoc, num_den]
end Vf
set_option maxRecDepth 100000
set_option maxHeartbeats 8000000
namespace Vf
open PySem PySem.Spec PyProof.Rows L2
open LamX (ExtN Tabs TabS)
/-- a law's body, nothing leaves it, its own code object known -/
theorem fnG_of1 {P : Program} {w : World} {K : PySem.W.Frag} {mg : Str → Option Value} {base : Heap} {x qual : Str} {st : Stmt} {f : Addr} {fd : FuncData} {N ps : List Str} {k : Nat} {sp : Sp} (F : Fun K x qual st f fd) (S : FnScope N ps (defScope st))
    (ar : ∀ vs H Q E, sp vs H Q E → vs.length = ps.length)
    (body : ∀ (cdv : Value) (A : Around) (out : List Env) (s : Shared) (H : Hp) (vs : List V) (Q : VK) (E : XK), A.guards = some [] → Room k (A.deeper (envOfC qual (defScope st) s.heap.objs.size f cdv)) → fd.code = cdv → sp vs H Q E →
      ∃ t, PSs (cxOf CX0 P w K mg base N qual (defScope st) f cdv A out s H E).nox (defBody st) t ∧ t { nx := fun _ H' => Q .non H', rt := Q } (start N vs) H) : FnG P w K mg base CX0 (k + 1) f fd ps sp := by
  obtain ⟨oc, od, kV, doc, pm, an, cdv, ct, osl, e, lk, hcd⟩ := F.ex
  subst e
  refine ⟨ar, fun {A out s H args us vs Q E} hgu hr e0 hb r h => LamX.run_ofS lk hcd S hr e0 hb r (ar _ _ _ _ h) fun hr' => ?_⟩
  obtain ⟨t, z, q⟩ := body cdv A out s H vs Q E hgu hr' rfl h
  exact ⟨t, z.nox, q⟩
/-- the class of polynomials with its defs -/
structure PoM (P : Program) (w : World) (K : PySem.W.Frag) (mg : Str → Option Value) (base : Heap) (CP CR : Addr) where
  C : PoC K mg CP
  fI : Addr
  dI : FuncData
  mkI : Mk K CP fI
  bI : Binds K dI ["self", "numbers"] []
  okI : FnOk P w K mg base (L2.CX P w) 5 fI dI ["self", "numbers"] (spPolyI K CP CR)
  fE : Addr
  dE : FuncData
  aE : PySem.W.findIn K (.ref CP) "__eq__" = some (some (.ref fE))
  nE : PySem.W.isFn K (.ref fE) = true
  bE : Binds K dE ["self", "other"] []
  okE : FnOk P w K mg base CX0 1 fE dE ["self", "other"] (spPolyE K CP)
theorem rNe_int {x y : Int} {H : Hp} {B : Bool → Hp → Prop} (g : x = y → B false H) (h : x ≠ y → B true H) : rNe (.int x) (.int y) H (fun v H' => ∃ k, v = V.bl k ∧ B k H') := by
  by_cases e : x = y
  · exact ⟨rfl, false, by rw [decide_eq_true (by rw [e])]; rfl, g e⟩
  · exact ⟨rfl, true, by rw [decide_eq_false (fun z => e (V.int.inj z))]; rfl, h e⟩
theorem seq_kp {K : PySem.W.Frag} {p a : Addr} {H H' : Hp} {xs : List V} (n : a ≠ p) (k : Kp p H H') : (SqL K H a xs → SqL K H' a xs) ∧ (SqT K H a xs → SqT K H' a xs) := by
  refine ⟨fun h => ?_, fun h => ?_⟩
  · rcases h with (h | ⟨o, h⟩) | h
    · exact Or.inl (Or.inl (k a _ n h))
    · exact Or.inl (Or.inr ⟨o, k a _ n h⟩)
    · exact Or.inr h
  · rcases h with (h | ⟨o, h⟩) | h
    · exact Or.inl (Or.inl (k a _ n h))
    · exact Or.inl (Or.inr ⟨o, k a _ n h⟩)
    · exact Or.inr h
/-- changes at lists and at the pen alone -/
theorem Pen.put {H H' : Hp} {p l b : Addr} {B : Int} (h : Pen H p l B) (k : ∀ c u, c ≠ b → H c = some u → H' c = some u) (h1 : b ≠ p) (h2 : b ≠ l) : Pen H' p l B := by
  obtain ⟨ns, a, d, c, f, ⟨g1, g2, g3⟩, hc⟩ := h
  exact ⟨ns, a, d, c, f, ⟨k _ _ h1.symm g1, k _ _ h2.symm g2, g3⟩, hc⟩
theorem Pen.lc {H : Hp} {p l : Addr} {B : Int} (h : Pen H p l B) : ∃ xs, H l = some (.lst xs) := by
  obtain ⟨ns, a, d, c, f, ⟨g1, g2, g3⟩, hc⟩ := h
  exact ⟨_, g2⟩
theorem Pen.ne_new {H : Hp} {p l b : Addr} {B : Int} (h : Pen H p l B) (n : H b = none) : b ≠ p ∧ b ≠ l := by
  obtain ⟨o, e⟩ := h.there
  obtain ⟨xs, e2⟩ := h.lc
  exact ⟨(ne_of_none e n).symm, (ne_of_none e2 n).symm⟩
theorem upd_away {H : Hp} {b : Addr} {o : HO} : ∀ c u, c ≠ b → H c = some u → upd H b o c = some u := fun c u h e => by rw [upd_ne h]; exact e
theorem Tups.lst {H H' : Hp} {b : Addr} {xs : List V} (hb : H b = some (.lst xs)) (k : ∀ c u, c ≠ b → H c = some u → H' c = some u) {as : List Addr} {ps : List (Int × Int)} (h : Tups H as ps) : Tups H' as ps :=
  h.imp fun a p z => k _ _ (ne_of z hb (by intro z; cases z)) z
theorem Tups.kp {H H' : Hp} {p l : Addr} {B : Int} (hP : Pen H p l B) (k : Kp p H H') {as : List Addr} {ps : List (Int × Int)} (h : Tups H as ps) : Tups H' as ps := by
  obtain ⟨ns, a, d, c, f, ⟨g1, g2, g3⟩, hc⟩ := hP
  exact h.imp fun a p z => k _ _ (ne_of z g1 (by intro z; cases z)) z
theorem cut_to (xs : List V) (k : Nat) : cutV xs none (some (k : Int)) = xs.take k := by
  unfold cutV
  rw [HT.sIx_none, HT.sIx_nat, Nat.sub_zero, List.drop_zero]
  by_cases h : k ≤ xs.length
  · rw [Nat.min_eq_left h]
  · rw [Nat.min_eq_right (by omega), List.take_of_length_le (by omega), List.take_of_length_le (by omega)]
/-- what ratios have that are drawn -/
structure RatOk (p : Int × Int) : Prop where
  lw : Low p.1 p.2
  zt : S80 p.1
  zb : S80 p.2
theorem parts_pairD {p : Int × Int} (h : 0 < p.2) : partsD (pairD p) = some p := by
  obtain ⟨t, b⟩ := p
  show (if 0 < b then some (t, b) else none) = some (t, b)
  rw [if_pos h]
def pairL (p : Int × Int) : PyData := .list [.int p.1, .int p.2]
theorem mapM_of {f : Int × Int → PyData} : ∀ {ps : List (Int × Int)}, (∀ p ∈ ps, partsD (f p) = some p) → (ps.map f).mapM partsD = some ps
  | [], _ => by rw [List.map_nil, List.mapM_nil]; rfl
  | p :: ps, h => by
    rw [List.map_cons, List.mapM_cons, h p (List.mem_cons_self ..), mapM_of fun x hx => h x (List.mem_cons_of_mem _ hx)]
    rfl
/-- ratios as they are passed -/
inductive Giv : List PyData → List (Int × Int) → Prop
  | nil : Giv [] []
  | cons {d : PyData} {p : Int × Int} {k : Int} {ds : List PyData} {ps : List (Int × Int)} : partsD d = some (p.1 * k, p.2 * k) → 0 < k → k ≤ 3 → Gd d → Giv ds ps → Giv (d :: ds) (p :: ps)
theorem Giv.len : ∀ {ds : List PyData} {ps : List (Int × Int)}, Giv ds ps → ds.length = ps.length
  | _, _, .nil => rfl
  | _, _, .cons _ _ _ _ t => congrArg (· + 1) t.len
theorem Giv.snoc : ∀ {ds : List PyData} {ps : List (Int × Int)} {d : PyData} {p : Int × Int} {k : Int}, Giv ds ps → partsD d = some (p.1 * k, p.2 * k) → 0 < k → k ≤ 3 → Gd d → Giv (ds ++ [d]) (ps ++ [p])
  | _, _, _, _, _, .nil, h1, h2, h3, h4 => .cons h1 h2 h3 h4 .nil
  | _, _, _, _, _, .cons g1 g2 g3 g4 t, h1, h2, h3, h4 => .cons g1 g2 g3 g4 (t.snoc h1 h2 h3 h4)
theorem Giv.row : ∀ {ds : List PyData} {ps : List (Int × Int)}, Giv ds ps → (∀ p ∈ ps, RatOk p) → ∃ qs, ds.mapM partsD = some qs ∧ qs.map lowP = ps ∧ ∀ q ∈ qs, q.2.natAbs < 2 ^ big
  | _, _, .nil, _ => ⟨[], by rw [List.mapM_nil]; rfl, rfl, fun q h => by cases h⟩
  | _, _, .cons (p := p) (k := k) h1 h2 h3 h4 t, h => by
    obtain ⟨qs, e1, e2, e3⟩ := t.row fun x hx => h x (List.mem_cons_of_mem _ hx)
    have ok := h p (List.mem_cons_self ..)
    refine ⟨(p.1 * k, p.2 * k) :: qs, ?_, ?_, ?_⟩
    · rw [List.mapM_cons, h1, e1]
      rfl
    · rw [List.map_cons, e2]
      congr 1
      exact low_back ok.lw h2
    · intro q hq
      rcases List.mem_cons.mp hq with z | z
      · rw [z]
        exact Nat.lt_trans (s80_k ok.zb h2 h3) (Nat.pow_lt_pow_right (by decide) (by decide))
      · exact e3 q z
theorem parts_plain {d : PyData} {p : Int × Int} (h : partsD d = some p) : d.plain = true ∧ d.depth ≤ 1 := by
  cases d with
  | int i => exact ⟨rfl, by simp [PyData.depth]⟩
  | list ds =>
    have z := (pair_pos (ds := ds) (t := p.1) (b := p.2) h).1
    rw [z]
    exact ⟨by simp [PyData.plain, PyData.plainAll], by simp [PyData.depth, PyData.depthAll]⟩
  | tuple ds =>
    have z := (pair_pos (ds := ds) (t := p.1) (b := p.2) h).1
    rw [z]
    exact ⟨by simp [PyData.plain, PyData.plainAll], by simp [PyData.depth, PyData.depthAll]⟩
  | _ => cases h
theorem Giv.plain : ∀ {ds : List PyData} {ps : List (Int × Int)}, Giv ds ps → PyData.plainAll ds = true ∧ PyData.depthAll ds ≤ 1
  | _, _, .nil => ⟨by simp only [PyData.plainAll], by simp only [PyData.depthAll]; omega⟩
  | _, _, .cons h1 _ _ _ t => by
    obtain ⟨a, b⟩ := parts_plain h1
    obtain ⟨c, d⟩ := t.plain
    simp only [PyData.plainAll, PyData.depthAll]
    exact ⟨by rw [a, c]; rfl, Nat.max_le.mpr ⟨b, d⟩⟩
/-- lists of two whole numbers each -/
inductive Lsts (H : Hp) : List Addr → List (Int × Int) → Prop
  | nil : Lsts H [] []
  | cons {a : Addr} {as : List Addr} {p : Int × Int} {ps : List (Int × Int)} : H a = some (.lst [.int p.1, .int p.2]) → Lsts H as ps → Lsts H (a :: as) (p :: ps)
theorem Lsts.len {H : Hp} : ∀ {as : List Addr} {ps : List (Int × Int)}, Lsts H as ps → as.length = ps.length
  | _, _, .nil => rfl
  | _, _, .cons _ t => congrArg (· + 1) t.len
theorem Lsts.imp {H H' : Hp} : ∀ {as : List Addr} {ps : List (Int × Int)}, (∀ a ∈ as, ∀ (p : Int × Int), H a = some (.lst [.int p.1, .int p.2]) → H' a = some (.lst [.int p.1, .int p.2])) → Lsts H as ps → Lsts H' as ps
  | _, _, _, .nil => .nil
  | _, _, e, .cons h t => .cons (e _ (List.mem_cons_self ..) _ h) (t.imp fun a ha => e a (List.mem_cons_of_mem _ ha))
theorem Lsts.snoc {H : Hp} : ∀ {as : List Addr} {ps : List (Int × Int)} {a : Addr} {p : Int × Int}, Lsts H as ps → H a = some (.lst [.int p.1, .int p.2]) → Lsts H (as ++ [a]) (ps ++ [p])
  | _, _, _, _, .nil, h => .cons h .nil
  | _, _, _, _, .cons h t, h2 => .cons h (t.snoc h2)
theorem Lsts.dts {K : PySem.W.Frag} {H : Hp} : ∀ {as : List Addr} {ps : List (Int × Int)}, Lsts H as ps → Dts K H (as.map V.ref) (ps.map pairL)
  | _, _, .nil => .nil
  | _, _, .cons h t => .cons (.lst (SqL.of h) (.cons (.int _) (.cons (.int _) .nil))) t.dts
end Vf
set_option maxRecDepth 100000
set_option maxHeartbeats 8000000
namespace Vf
open PySem PySem.Spec PyProof.Rows L2
def RI (H : Hp) (l : Addr) (ns : List Int) : Prop := H l = some (.lst (ns.map V.int))
section
variable {P : Program} {w : World} {K : PySem.W.Frag} {mg : Str → Option Value} {base : Heap} {CP CR CN : Addr}
theorem RI.at {H : Hp} {l : Addr} {ns : List Int} {i : Nat} (h : i < ns.length) : (ns.map V.int)[i]? = some (V.int (ci ns i)) := by
  rw [List.getElem?_map, ci_lt h]
  rfl
end
end Vf
set_option maxRecDepth 100000
set_option maxHeartbeats 8000000
namespace Vf
open PySem PySem.Spec PyProof.Rows L2
def RW (H : Hp) (l : Addr) (ps : List (Int × Int)) : Prop := ∃ as, H l = some (.lst (as.map V.ref)) ∧ Tups H as ps
def PolyQ (K : PySem.W.Frag) (CP : Addr) (H : Hp) (a : Addr) (qs : List Rat) : Prop := PolyAt K CP H a (qs.map pq)
theorem PolyQ.same {K : PySem.W.Frag} {CP : Addr} {H H' : Hp} {a : Addr} {qs : List Rat} (h : PolyQ K CP H a qs) (s : Same H H') : PolyQ K CP H' a qs := PolyAt.same h s
/-- what Poly(row) comes to -/
theorem poly_row {K : PySem.W.Frag} {CP CR : Addr} {H : Hp} {l : Addr} {ps : List (Int × Int)} {qs : List Rat} {Qd : Addr → Hp → Prop} {E : XK} (h : RW H l ps) (hl : ps.length ≤ 1000) (hp : ∀ p ∈ ps, 0 < p.2 ∧ p.2.natAbs < 2 ^ big) (hq : ps.map lowP = qs.map pq)
    (k : ∀ (x : Addr) (H' : Hp), Same H H' → H x = none → PolyQ K CP H' x (stripQ qs) → Qd x H') :
    ∀ x dx, H x = none → H dx = none → dx ≠ x → spPolyI K CP CR (.ref x :: ([V.ref l] ++ [])) (upd (upd H dx (.own x)) x (.ins CP dx [])) (fun w H2 => w = .non ∧ Qd x H2) E := by
  obtain ⟨as, e, t⟩ := h
  have rd : rowD (.list (ps.map pairD)) = some ps := mapM_of fun p h => parts_pairD (hp p h).1
  refine poly_made (d := .list (ps.map pairD)) (.lst (SqL.of e) t.dts) (fun ds' h => ?_) (fun ps' h => ?_) (fun z => by rw [rd] at z; cases z)
  · cases h
    rw [List.length_map]
    exact hl
  rw [rd] at h
  cases h
  refine ⟨fun p h => (hp p h).2, fun x H' s nx made => k x H' s nx ?_⟩
  rw [hq, strip_map] at made
  exact made
theorem poly_rl {K : PySem.W.Frag} {CP CR : Addr} {H : Hp} {l : Addr} {qs : List Rat} {Qd : Addr → Hp → Prop} {E : XK} (h : RL H l qs) (hl : qs.length ≤ 1000) (hz : ∀ q ∈ qs, q.den < 2 ^ big)
    (k : ∀ (x : Addr) (H' : Hp), Same H H' → H x = none → PolyQ K CP H' x (stripQ qs) → Qd x H') :
    ∀ x dx, H x = none → H dx = none → dx ≠ x → spPolyI K CP CR (.ref x :: ([V.ref l] ++ [])) (upd (upd H dx (.own x)) x (.ins CP dx [])) (fun w H2 => w = .non ∧ Qd x H2) E := by
  refine poly_row (ps := qs.map pq) h (by rw [List.length_map]; exact hl) (fun p hp => ?_) ?_ k
  · obtain ⟨q, hq, rfl⟩ := List.mem_map.mp hp
    have := q.den_pos
    refine ⟨by show (0 : Int) < (q.den : Int); omega, ?_⟩
    show (q.den : Int).natAbs < _
    rw [Int.natAbs_natCast]
    exact hz q hq
  · rw [List.map_map]
    refine List.map_congr_left fun q _ => ?_
    exact low_id (pq_low q)
end Vf
set_option maxRecDepth 100000
set_option maxHeartbeats 8000000
namespace Vf
open PySem PySem.Spec PyProof.Rows L2
theorem RL.kp {H H' : Hp} {p lc l : Addr} {B : Int} {qs : List Rat} (h : RL H l qs) (hP : Pen H p lc B) (k : Kp p H H') : RL H' l qs := by
  obtain ⟨as, e, t⟩ := h
  refine ⟨as, k _ _ ?_ e, t.kp hP k⟩
  obtain ⟨_, _, _, _, _, g1, _⟩ := hP
  exact ne_of e g1.1 (by intro z; cases z)
theorem RL.ne {H : Hp} {p lc l : Addr} {B : Int} {qs : List Rat} (h : RL H l qs) (hP : Pen H p lc B) : l ≠ p := by
  obtain ⟨as, e, t⟩ := h
  obtain ⟨_, _, _, _, _, g1, _⟩ := hP
  exact ne_of e g1.1 (by intro z; cases z)
theorem TR.kp {H H' : Hp} {p lc r : Addr} {B : Int} {q : Rat} (h : TR H r q) (hP : Pen H p lc B) (k : Kp p H H') : TR H' r q := by
  obtain ⟨_, _, _, _, _, g1, _⟩ := hP
  exact k _ _ (ne_of h g1.1 (by intro z; cases z)) h
theorem PolyQ.kp {K : PySem.W.Frag} {CP : Addr} {H H' : Hp} {a p l : Addr} {B : Int} {qs : List Rat} (h : PolyQ K CP H a qs) (hP : Pen H p l B) (k : Kp p H H') : PolyQ K CP H' a qs := PolyAt.kp h hP k
def spMade (K : PySem.W.Frag) (CP : Addr) : Sp := fun vs H Q _ => ∃ (p lc l : Addr) (B : Int) (a : List Rat), vs = [.ref p, .ref l] ∧ Pen H p lc B ∧ B ≤ 1000000 ∧ RL H l a ∧ a.length ≤ 13 ∧ stripQ a = a ∧ (∀ i, RatOk (pq (cf a i))) ∧
  ∀ (x : Addr) (H' : Hp), Pen H' p lc (B + 100) → Kp p H H' → PolyQ K CP H' x a → Q (.ref x) H'
theorem sm_s80 {q : Rat} (h : Sm q) : RatOk (pq q) := by
  refine ⟨pq_low q, Nat.lt_of_le_of_lt h.1 (Nat.pow_lt_pow_right (by decide) (by decide)), ?_⟩
  show (q.den : Int).natAbs < 2 ^ 1200
  rw [Int.natAbs_natCast]
  exact Nat.lt_of_le_of_lt h.2 (Nat.pow_lt_pow_right (by decide) (by decide))
theorem mem_cf {qs : List Rat} {q : Rat} (h : q ∈ qs) : ∃ i, q = cf qs i := by
  obtain ⟨i, hi, e⟩ := List.mem_iff_getElem.mp h
  exact ⟨i, by rw [cf_lt hi, e]⟩
theorem Dts.rep0 {K : PySem.W.Frag} {H : Hp} : ∀ n : Nat, Dts K H (List.replicate n (V.int 0)) (List.replicate n (PyData.int 0))
  | 0 => .nil
  | n + 1 => .cons (.int 0) (Dts.rep0 n)
theorem giv_rep0 {ds : List PyData} {ps : List (Int × Int)} (h : Giv ds ps) : ∀ n : Nat, Giv (ds ++ List.replicate n (PyData.int 0)) (ps ++ List.replicate n (0, 1))
  | 0 => by rw [List.replicate_zero, List.replicate_zero, List.append_nil, List.append_nil]; exact h
  | n + 1 => by
    rw [List.replicate_succ', List.replicate_succ', ← List.append_assoc, ← List.append_assoc]
    exact (giv_rep0 h n).snoc (k := 1) (p := (0, 1)) rfl (by decide) (by decide) (gd_int (by show (0 : Int).natAbs < _; exact Nat.pow_pos (by decide)))
section
variable {P : Program} {w : World} {K : PySem.W.Frag} {mg : Str → Option Value} {base : Heap} {CP CR CN : Addr}
abbrev sMade : Stmt := topS 57
theorem scMade : FnScope ["_law_pen_here", "_law_one", "_law_numbers", "_law_number"] ["_law_pen_here", "_law_one"] (defScope sMade) := ⟨rfl, rfl, rfl, by decide +kernel, rfl, by decide +kernel, by decide +kernel⟩
theorem ok_made {f : Addr} {fd : FuncData} (F : Fun K "_law_made_poly" "_law_made_poly" sMade f fd) (T : Bk mg) (PM : PoM P w K mg base CP CR) (Gd_ : Df P w K mg base "_law_draw" 1 ["_law_pen_here", "_law_many"] spDraw) (Gp : Df P w K mg base "_law_pick" 2 ["_law_pen_here", "_law_some"] spPick) (Gs : Df P w K mg base "_law_passed" 3 ["_law_pen_here", "_law_ratio"] (spPassed K)) : FnOk P w K mg base CX0 7 f fd ["_law_pen_here", "_law_one"] (spMade K CP) := by
  refine F.ok scMade (fun vs H Q E h => ?_) (fun cdv A outer s H vs Q E hr h => ?_)
  · obtain ⟨p, lc, l, B, a, rfl, _⟩ := h
    rfl
  · obtain ⟨p, lc, l, B, a, rfl, hP, hB, ⟨as, el, ta⟩, la, st, sa, q⟩ := h
    refine ⟨_, (pss_cons (ps_set (i := 2) scMade.nd rfl (Or.inl rfl) (pe_op op_cat (pe_lc (own := [("_law_number", 3)]) (g := gName 3) (tt := tYes) rfl scMade.nd (pi_seq (pv 1)) (blkOk_by (N := ["_law_pen_here", "_law_one", "_law_numbers", "_law_number"]) (sc := defScope sMade) (by decide +kernel)) (fun _ _ _ _ _ => pg_name (i := 3) scMade.nd rfl (Or.inl rfl)) (fun _ _ _ _ _ => pts_nil) (fun _ _ _ _ _ => (pe_call Gs.ok (hr.mono (by decide)) rfl Gs.m Gs.kp Gs.b .nil pass0 (pa_cons (pv 0) (pa_cons (pv 3) pa_nil))))) (pe_op op_rep (pe_lst (pa_cons pe_int pa_nil)) (pe_call Gd_.ok (hr.mono (by decide)) rfl Gd_.m Gd_.kp Gd_.b .nil pass0 (pa_cons (pv 0) (pa_cons pe_int pa_nil))))))
  (pss_one (ps_ret (pe_make PM.mkI PM.okI (hr.mono (by decide)) rfl PM.C.m PM.bI .nil passL (pa_cons (pe_call Gp.ok (hr.mono (by decide)) rfl Gp.m Gp.kp Gp.b .nil pass0 (pa_cons (pv 0) (pa_cons (pe_lst (pa_cons (pe_callTy call_tuple_of (by rfl) T.tuple (by decide +kernel) (pa_cons (pv 2) pa_nil)) (pa_cons (pv 2) pa_nil))) pa_nil))) pa_nil))))), ?_⟩
    have lp : l ≠ p := RL.ne ⟨as, el, ta⟩ hP
    have leq := ta.lenQ
    refine ⟨_, rfl, l, rfl, lc_seq (xs := as.map V.ref) (.inl (SqL.of el)) (fun D k H' => Kp p H H' ∧ Pen H' p lc (B + 3 * k) ∧ ∃ vs ds, H' D = some (.lst vs) ∧ Dts K (fz D p H') vs ds ∧ Giv ds ((a.map pq).take k)) ?_ ?_ ?_ ?_⟩
    · intro D hD
      exact ⟨Kp.of (same_upd hD), (hP.same (same_upd hD)).more (by omega), [], [], upd_same, .nil, .nil⟩
    · intro D k H' hD ⟨kk, _⟩
      exact seq_kp lp kk
    · intro D k x H' hD hk ⟨kk, hP', vs, ds, eD, dts, giv⟩
      obtain ⟨d1, d2⟩ := hP.ne_new hD
      rw [List.getElem?_map] at hk
      cases hr0 : as[k]? with
      | none => rw [hr0] at hk; cases hk
      | some r =>
        rw [hr0] at hk
        cases hk
        obtain ⟨qq, hq, er⟩ := ta.atQ hr0
        have rp : r ≠ p := by
          obtain ⟨_, _, _, _, _, g1, _⟩ := hP
          exact ne_of er g1.1 (by intro z; cases z)
        have okq : RatOk (pq qq) := by have := sa k; rw [cf_get hq] at this; exact this
        have hk13 : k < 13 := by
          have := (List.getElem?_eq_some_iff.mp hr0).1
          omega
        refine ⟨rfl, ?_⟩
        refine ⟨_, rfl, _, rfl, p, lc, r, _, (pq qq).1, (pq qq).2, rfl, hP', by omega, kk _ _ rp er, okq.lw.pos, okq.zt, okq.zb, fun v d kz H2 hP2 kp' hd pa k0 k3 gd => ?_⟩
        have eD' := kp' _ _ d1 eD
        have hDl : vs.length < sizeLine := by
          have := dts.len
          have := giv.len
          rw [List.length_take] at this
          rw [sizeLine_eq]
          omega
        have hp := hP'.there.choose_spec
        refine ⟨_, eD', hDl, ?_, (hP2.put upd_away d1 d2).more (by omega), vs ++ [v], ds ++ [d], upd_same, ?_, ?_⟩
        · exact fun b o nb eb => by
            rw [upd_ne (ne_of_none eb hD)]
            exact kp' b o nb (kk b o nb eb)
        · have up : Same (fz D p H2) (fz D p (upd H2 D (.lst (vs ++ [v])))) := fz_mono fun b o h1 h2 e => by rw [upd_ne h1]; exact e
          exact (dts.mono ((fz_mono fun b o h1 h2 e => kp' b o h2 e).trans up)).app (.cons (hd.mono ((nw_fz eD hp).trans up)) .nil)
        · have z := giv.snoc (p := pq qq) pa k0 k3 gd
          have e : (a.map pq).take (k + 1) = (a.map pq).take k ++ [pq qq] := by rw [List.take_succ, List.getElem?_map, hq]; rfl
          rw [e]
          exact z
    · intro lg H11 nlg ⟨k11, hP11, vs, ds, elg, dts, giv⟩
      obtain ⟨lgp, lgc⟩ := hP.ne_new nlg
      have etk : (a.map pq).take (as.map V.ref).length = a.map pq := by rw [List.length_map, leq]; exact List.take_of_length_le (by rw [List.length_map]; exact Nat.le_refl _)
      rw [etk] at giv
      have hP11 := hP11.more (show _ ≤ B + 60 by rw [List.length_map]; omega)
      have lenv : vs.length ≤ 13 := by
        have h1 := dts.len
        have h2 := giv.len
        rw [List.length_map] at h2
        omega
      refine ⟨(by show 1 ≤ sizeLine; decide), fun l1 nl1 => ?_⟩
      have el1 : upd H11 l1 (HO.lst [V.int 0]) l1 = some (HO.lst [V.int 0]) := upd_same
      have s12 : Same H11 (upd H11 l1 (HO.lst [V.int 0])) := same_upd nl1
      have l1p := (hP11.ne_new nl1).1
      generalize upd H11 l1 (HO.lst [V.int 0]) = H12 at el1 s12 ⊢
      have hP12 := hP11.same s12
      refine ⟨_, rfl, p, lc, _, 2, rfl, hP12, by omega, by decide, by decide, fun m H13 m0 m1 hP13 k13 => ?_⟩
      refine ⟨l1, m, _, rfl, rfl, k13 _ _ l1p el1, by omega, by omega, (by rw [sizeLine_eq]; show 1 * m.toNat ≤ _; omega), fun l2 nl2 => ?_⟩
      have el2 : upd H13 l2 (HO.lst (List.replicate m.toNat [V.int 0]).flatten) l2 = some (HO.lst (List.replicate m.toNat (V.int 0))) := by rw [upd_same, List.flatten_replicate_singleton]
      have s14 : Same H13 (upd H13 l2 (HO.lst (List.replicate m.toNat [V.int 0]).flatten)) := same_upd nl2
      generalize upd H13 l2 (HO.lst (List.replicate m.toNat [V.int 0]).flatten) = H14 at el2 s14 ⊢
      have elg14 := s14 _ _ (k13 _ _ lgp (s12 _ _ elg))
      refine ⟨lg, l2, _, _, rfl, rfl, elg14, el2, (by rw [List.length_replicate, sizeLine_eq]; omega), fun nb nnb => ?_⟩
      have enb : upd H14 nb (HO.lst (vs ++ List.replicate m.toNat (V.int 0))) nb = some (HO.lst (vs ++ List.replicate m.toNat (V.int 0))) := upd_same
      have s15 : Same H14 (upd H14 nb (HO.lst (vs ++ List.replicate m.toNat (V.int 0)))) := same_upd nnb
      have hP14 := hP13.same s14
      have nbp := (hP14.ne_new nnb).1
      generalize upd H14 nb (HO.lst (vs ++ List.replicate m.toNat (V.int 0))) = H15 at enb s15 ⊢
      have hP15 := hP14.same s15
      refine ⟨_, rfl, _, rfl, nb, _, rfl, .inl ⟨SqL.of enb, fun tg ntg => ?_⟩⟩
      have etg : upd H15 tg (HO.tup (vs ++ List.replicate m.toNat (V.int 0))) tg = some (HO.tup (vs ++ List.replicate m.toNat (V.int 0))) := upd_same
      have s16 : Same H15 (upd H15 tg (HO.tup (vs ++ List.replicate m.toNat (V.int 0)))) := same_upd ntg
      have tgp := (hP15.ne_new ntg).1
      generalize upd H15 tg (HO.tup (vs ++ List.replicate m.toNat (V.int 0))) = H16 at etg s16 ⊢
      have hP16 := hP15.same s16
      refine ⟨_, rfl, (by show 2 ≤ sizeLine; decide), fun l4 nl4 => ?_⟩
      have el4 : upd H16 l4 (HO.lst [V.ref tg, V.ref nb]) l4 = some (HO.lst [V.ref tg, V.ref nb]) := upd_same
      have s17 : Same H16 (upd H16 l4 (HO.lst [V.ref tg, V.ref nb])) := same_upd nl4
      have l4p := (hP16.ne_new nl4).1
      generalize upd H16 l4 (HO.lst [V.ref tg, V.ref nb]) = H17 at el4 s17 ⊢
      have hP17 := hP16.same s17
      refine ⟨p, lc, l4, _, _, rfl, hP17, by omega, el4, l4p, (by show 0 < 2; decide), (by show 2 < 1000000; decide), fun x H18 hx hP18 k18 => ?_⟩
      have k1118 : Kp p H11 H18 := ((Kp.of s12).trans k13).trans ((Kp.of (s14.trans (s15.trans (s16.trans s17)))).trans k18)
      have dts18 : Dts K H18 (vs ++ List.replicate m.toNat (V.int 0)) (ds ++ List.replicate m.toNat (PyData.int 0)) := (dts.mono ((fz_mono fun b o _ h e => k1118 b o h e).trans fz_sub)).app (Dts.rep0 _)
      have giv2 := giv_rep0 giv m.toNat
      have ok2 : ∀ y ∈ a.map pq ++ List.replicate m.toNat (0, 1), RatOk y := fun y hy => by
        rcases List.mem_append.mp hy with h | h
        · obtain ⟨q0, hq0, rfl⟩ := List.mem_map.mp h
          obtain ⟨i, rfl⟩ := mem_cf hq0
          exact sa i
        · rw [List.eq_of_mem_replicate h]
          exact sm_s80 sm_zero'
      obtain ⟨dg, hdg, sdg⟩ : ∃ dg, Dt K H18 x dg ∧ seqD dg = some (ds ++ List.replicate m.toNat (PyData.int 0)) := by
        simp only [List.mem_cons, List.not_mem_nil, or_false] at hx
        rcases hx with h | h
        · rw [h]
          exact ⟨.tuple _, .tup (SqT.of (k18 _ _ tgp (s17 _ _ etg))) dts18, rfl⟩
        · rw [h]
          exact ⟨.list _, .lst (SqL.of (k18 _ _ nbp (s17 _ _ (s16 _ _ enb)))) dts18, rfl⟩
      obtain ⟨qs, hqs, eqs, bqs⟩ := giv2.row ok2
      have rdg : rowD dg = some qs := by rw [rowD_seq sdg]; exact hqs
      refine poly_made hdg (fun ds' h => ?_) (fun ps' h => ?_) (fun z => by rw [rdg] at z; cases z)
      · rw [sdg] at h
        cases h
        have := dts18.len
        rw [List.length_append, List.length_replicate] at this
        omega
      rw [rdg] at h
      cases h
      refine ⟨bqs, fun md H19 s19 nmd made => q md H19 ((hP18.more (by omega)).same s19) (k11.trans (k1118.trans (Kp.of s19))) ?_⟩
      have e : a.map pq ++ List.replicate m.toNat (0, 1) = (a ++ List.replicate m.toNat 0).map pq := by
        rw [List.map_append, List.map_replicate]
        rfl
      have e2 : stripQ (a ++ List.replicate m.toNat 0) = a := by
        rw [← st]
        refine (stripQ_ext fun i => ?_).trans (by rw [st])
        rw [st, cf_app]
        split
        · rfl
        · rw [cf_rep0, cf_ge (by omega)]
      rw [eqs, e, strip_map, e2] at made
      exact made
end
end Vf
set_option maxRecDepth 100000
set_option maxHeartbeats 8000000
namespace Vf
open PySem PySem.Spec PyProof.Rows L2
theorem lpoly_qn {K : PySem.W.Frag} {H : Hp} {l : Addr} {qs : List Rat} {Q : VK} (h : RL H l qs) (hl : qs.length ≤ 1000) (k : ∀ (l' : Addr) (H' : Hp), Same H H' → H l' = none → RL H' l' (stripQ qs) → Q (.ref l') H') {E : XK} : spLPoly K [.ref l] H Q E := by
  obtain ⟨as, e, t⟩ := h
  have := t.lenQ
  refine ⟨l, as, qs.map pq, rfl, SqL.of e, t, by omega, fun l' as' H' s n e' t' => k l' H' s n ⟨as', e', ?_⟩⟩
  rw [strip_map] at t'
  exact t'
def spLPT : Sp := fun vs H Q _ => ∃ (l1 l2 : Addr) (a b : List Rat) (M N M' N' : Nat), vs = [.ref l1, .ref l2] ∧ RL H l1 a ∧ RL H l2 b ∧ a.length ≤ 40 ∧ b.length ≤ 40 ∧ 0 < M ∧ 0 < M' ∧ 0 < N ∧ 0 < N' ∧ (∀ i, Fr M N (cf a i)) ∧ (∀ i, Fr M' N' (cf b i)) ∧
  M * M' < 2 ^ 4300 ∧ 41 * (N * N') < 2 ^ 4300 ∧ ∀ (l : Addr) (H' : Hp), Same H H' → H l = none → RL H' l (stripQ (pmul a b)) → Q (.ref l) H'
/-- what has come to the number of a power after i rows and k numbers of the next one -/
def pt (a b : List Rat) (i k j : Nat) : Rat := sm (fun x => if x ≤ j then cf a x * cf b (j - x) else 0) i + if i ≤ j ∧ j - i < k then cf a i * cf b (j - i) else 0
theorem pt_zero (a b : List Rat) (j : Nat) : pt a b 0 0 j = 0 := by
  unfold pt
  rw [if_neg (by omega)]
  show (0 : Rat) + 0 = 0
  exact Rat.add_zero 0
theorem pt_next (a b : List Rat) (i k j : Nat) : pt a b i (k + 1) j = if j = i + k then pt a b i k j + cf a i * cf b k else pt a b i k j := by
  unfold pt
  by_cases h : j = i + k
  · rw [if_pos h, if_pos (by omega), if_neg (by omega), show j - i = k by omega, Rat.add_zero]
  · rw [if_neg h]
    by_cases h2 : i ≤ j ∧ j - i < k
    · rw [if_pos h2, if_pos (by omega)]
    · rw [if_neg h2, if_neg (by omega)]
theorem pt_row (a b : List Rat) (i j : Nat) : pt a b (i + 1) 0 j = pt a b i b.length j := by
  unfold pt
  rw [if_neg (by omega), Rat.add_zero]
  show sm _ i + (if i ≤ j then cf a i * cf b (j - i) else 0) = _
  congr 1
  by_cases h : i ≤ j
  · rw [if_pos h]
    by_cases h2 : j - i < b.length
    · rw [if_pos ⟨h, h2⟩]
    · rw [if_neg (fun z => h2 z.2), cf_ge (l := b) (by omega), Rat.mul_zero]
  · rw [if_neg h, if_neg (fun z => h z.1)]
theorem pt_end (a b : List Rat) (j : Nat) : pt a b a.length 0 j = pc a b j := by
  unfold pt pc
  rw [if_neg (by omega), Rat.add_zero]
  have e : sm (fun x => if x ≤ j then cf a x * cf b (j - x) else 0) (max a.length (j + 1)) = sm (fun x => if x ≤ j then cf a x * cf b (j - x) else 0) a.length :=
    sm_more (by omega) fun i h1 h2 => by
      rw [cf_ge h1, Rat.zero_mul]
      split <;> rfl
  have e2 : sm (fun x => if x ≤ j then cf a x * cf b (j - x) else 0) (max a.length (j + 1)) = sm (fun x => if x ≤ j then cf a x * cf b (j - x) else 0) (j + 1) :=
    sm_more (by omega) fun i h1 h2 => by rw [if_neg (by omega)]
  rw [← e, e2]
  exact sm_ext fun i hi => by rw [if_pos (by omega)]
theorem pt_fr {a b : List Rat} {M N M' N' : Nat} (ha : ∀ i, Fr M N (cf a i)) (hb : ∀ i, Fr M' N' (cf b i)) (i k j : Nat) : Fr (M * M') ((i + 1) * (N * N')) (pt a b i k j) := by
  unfold pt
  have h1 : Fr (M * M') (i * (N * N')) (sm (fun x => if x ≤ j then cf a x * cf b (j - x) else 0) i) := sm_fr fun x _ => by
    split
    · exact (ha x).mul (hb _)
    · exact Fr.zero _ _
  rw [Nat.succ_mul]
  refine h1.add ?_
  split
  · exact (ha i).mul (hb _)
  · exact Fr.zero _ _
section
variable {P : Program} {w : World} {K : PySem.W.Frag} {mg : Str → Option Value} {base : Heap} {CN : Addr}
abbrev sLPTimes : Stmt := topS 56
theorem scLPTimes : FnScope ["_law_one", "_law_two", "_law_found", "_law_i", "_law_k"] ["_law_one", "_law_two"] (defScope sLPTimes) := ⟨rfl, rfl, rfl, by decide +kernel, rfl, by decide +kernel, by decide +kernel⟩
theorem ok_lptimes {f : Addr} {fd : FuncData} (F : Fun K "_law_p_times" "_law_p_times" sLPTimes f fd) (T : Bk mg) (hmax : mg "max" = none) (Gpoly : Df P w K mg base "_law_poly" 1 ["_law_numbers"] (spLPoly K)) (Gplus : Df P w K mg base "_law_plus" 3 ["_law_one", "_law_two"] (spL2 rAdd)) (Gtimes : Df P w K mg base "_law_times" 3 ["_law_one", "_law_two"] (spL2 rMul)) :
    FnOk P w K mg base CX0 4 f fd ["_law_one", "_law_two"] spLPT := by
  refine F.ok scLPTimes (fun vs H Q E h => ?_) (fun cdv A outer s H vs Q E hr h => ?_)
  · obtain ⟨l1, l2, a, b, M, N, M', N', rfl, _⟩ := h
    rfl
  · obtain ⟨l1, l2, a, b, M, N, M', N', rfl, ⟨as, e1, t1⟩, ⟨bs, e2, t2⟩, la, lb, hM, hM', hN, hN', fa, fb, hMM, hNN, q⟩ := h
    refine ⟨_, (pss_cons (ps_set (i := 2) scLPTimes.nd rfl (Or.inl rfl) (pe_op op_rep (pe_lst (pa_cons (pe_tup (pa_cons pe_int (pa_cons pe_int pa_nil))) pa_nil)) (pe_callB (cr_max rfl) (by rfl) hmax (by decide +kernel) (pa_cons (pe_lst (pa_cons pe_int (pa_cons (pe_op op_sub (pe_op op_add (pe_callB call_len_seq (by rfl) T.len (by decide +kernel) (pa_cons (pv 0) pa_nil)) (pe_callB call_len_seq (by rfl) T.len (by decide +kernel) (pa_cons (pv 1) pa_nil))) pe_int) pa_nil))) pa_nil))))
  (pss_cons (ps_for PassesOwn.never rfl (pi_range1 (by rfl) T.range (pa_cons (pe_callB call_len_seq (by rfl) T.len (by decide +kernel) (pa_cons (pv 0) pa_nil)) pa_nil)) (pg_name (i := 3) scLPTimes.nd rfl (Or.inl rfl))
    (pss_one (ps_for PassesOwn.never rfl (pi_range1 (by rfl) T.range (pa_cons (pe_callB call_len_seq (by rfl) T.len (by decide +kernel) (pa_cons (pv 1) pa_nil)) pa_nil)) (pg_name (i := 4) scLPTimes.nd rfl (Or.inl rfl))
      (pss_one (ps_asg (pe_call Gplus.ok (hr.mono (by decide)) rfl Gplus.m Gplus.kp Gplus.b .nil pass0 (pa_cons (pe_ix ix_list (pv 2) (pe_op op_add (pv 3) (pv 4)) (fun _ _ => rfl)) (pa_cons (pe_call Gtimes.ok (hr.mono (by decide)) rfl Gtimes.m Gtimes.kp Gtimes.b .nil pass0 (pa_cons (pe_ix ix_list (pv 0) (pv 3) (fun _ _ => rfl)) (pa_cons (pe_ix ix_list (pv 1) (pv 4) (fun _ _ => rfl)) pa_nil))) pa_nil))) (pg_sub (pv 2) (pe_op op_add (pv 3) (pv 4)) set_list))))))
  (pss_one (ps_ret (pe_call Gpoly.ok (hr.mono (by decide)) rfl Gpoly.m Gpoly.kp Gpoly.b .nil pass0 (pa_cons (pv 2) pa_nil)))))), ?_⟩
    have n1 := t1.lenQ
    have n2 := t2.lenQ
    have hMp : 0 < M * M' := Nat.mul_pos hM hM'
    have sA : SrL a := fun i => (fa i).sr hM (by have := Nat.le_mul_of_pos_right M hM'; omega) (by
      have := Nat.le_mul_of_pos_right N hN'
      omega)
    have sB : SrL b := fun i => (fb i).sr hM' (by have := Nat.le_mul_of_pos_left M' hM; omega) (by
      have := Nat.le_mul_of_pos_left N' hN
      omega)
    have sP : ∀ i k j, i ≤ 40 → Sr (pt a b i k j) := fun i k j hi => (pt_fr fa fb i k j).sr hMp hMM (by
      have : (i + 1) * (N * N') ≤ 41 * (N * N') := Nat.mul_le_mul_right _ (by omega)
      omega)
    have sM : ∀ i k, Sr (cf a i * cf b k) := fun i k => ((fa i).mul (fb k)).sr hMp hMM (by omega)
    refine ⟨(by show 2 ≤ sizeLine; decide), fun t0 nt0 => ?_⟩
    have et0 : upd H t0 (HO.tup [V.int 0, V.int 1]) t0 = some (HO.tup [V.int 0, V.int 1]) := upd_same
    have s1 : Same H (upd H t0 (HO.tup [V.int 0, V.int 1])) := same_upd nt0
    generalize upd H t0 (HO.tup [V.int 0, V.int 1]) = H1 at et0 s1 ⊢
    refine ⟨(by show 1 ≤ sizeLine; decide), fun k1 nk1 => ?_⟩
    have ek1 : upd H1 k1 (HO.lst [V.ref t0]) k1 = some (HO.lst [V.ref t0]) := upd_same
    have s2 : Same H1 (upd H1 k1 (HO.lst [V.ref t0])) := same_upd nk1
    generalize upd H1 k1 (HO.lst [V.ref t0]) = H2 at ek1 s2 ⊢
    have s12 := s1.trans s2
    refine ⟨_, rfl, l1, _, rfl, .inl (SqL.of (s12 _ _ e1)), _, rfl, l2, _, rfl, .inl (SqL.of (s12 _ _ e2)), _, _, rfl, rfl, _, _, rfl, rfl, (by show 2 ≤ sizeLine; decide), fun lm nlm => ?_⟩
    rw [List.length_map, List.length_map, n1, n2]
    have elm : upd H2 lm (HO.lst [V.int 0, V.int ((a.length : Nat) + (b.length : Nat) - 1)]) lm = some (HO.lst [V.int 0, V.int ((a.length : Nat) + (b.length : Nat) - 1)]) := upd_same
    have s3 : Same H2 (upd H2 lm (HO.lst [V.int 0, V.int ((a.length : Nat) + (b.length : Nat) - 1)])) := same_upd nlm
    generalize upd H2 lm (HO.lst [V.int 0, V.int ((a.length : Nat) + (b.length : Nat) - 1)]) = H3 at elm s3 ⊢
    refine ⟨lm, [0, (a.length : Nat) + (b.length : Nat) - 1], rfl, SqL.of elm, (by show 0 < 2; decide), fun m hm1 hm2 => ?_⟩
    have hm : m.toNat = a.length + b.length - 1 ∧ 0 ≤ m ∧ m ≤ 100 := by
      have h1 := hm2 0 (by simp)
      have h2 := hm2 ((a.length : Nat) + (b.length : Nat) - 1) (by simp)
      simp only [List.mem_cons, List.not_mem_nil, or_false] at hm1
      omega
    refine ⟨k1, m, _, rfl, rfl, s3 _ _ ek1, by omega, by omega, (by rw [sizeLine_eq]; show 1 * _ ≤ _; omega), fun fo nfo => ?_⟩
    have efo : upd H3 fo (HO.lst (List.replicate m.toNat [V.ref t0]).flatten) fo = some (HO.lst ((List.replicate (a.length + b.length - 1) t0).map V.ref)) := by
      rw [upd_same, flat_repQ, hm.1]
    have s4 : Same H3 (upd H3 fo (HO.lst (List.replicate m.toNat [V.ref t0]).flatten)) := same_upd nfo
    generalize upd H3 fo (HO.lst (List.replicate m.toNat [V.ref t0]).flatten) = H4 at efo s4 ⊢
    have s04 : Same H H4 := s12.trans (s3.trans s4)
    have nfoH : H fo = none := (s12.trans s3).free nfo
    have tz : TR H4 t0 0 := s4 _ _ (s3 _ _ (s2 _ _ et0))
    have fo1 : l1 ≠ fo := ne_of_none e1 nfoH
    have fo2 : l2 ≠ fo := ne_of_none e2 nfoH
    generalize hL : a.length + b.length - 1 = L at efo
    have e0 : List.replicate L (0 : Rat) = tab L (pt a b 0 0) := by
      refine List.ext_getElem (by rw [List.length_replicate, tab_len]) fun j h1 h2 => ?_
      rw [← cf_lt h1, ← cf_lt h2, cf_rep0, cf_tab, if_pos (by rw [List.length_replicate] at h1; exact h1), pt_zero]
    have t4 := tups_rep0 tz L
    rw [e0] at t4
    refine ⟨_, rfl, l1, _, rfl, .inl (SqL.of (s04 _ _ e1)), ?_⟩
    rw [List.length_map, n1]
    refine ⟨_, rfl, by omega, by omega, for_range (lo := 0) (n := ((a.length : Nat) : Int).toNat) (fun i σ H' => ∃ v3 v4 zs, σ = [some (.ref l1), some (.ref l2), some (.ref fo), v3, v4] ∧ Same H H' ∧ H' fo = some (.lst (zs.map V.ref)) ∧ Tups H' zs ((tab L (pt a b i 0)).map pq)) ⟨none, none, _, rfl, s04, efo, t4⟩ ?_ ?_⟩
    · rintro i σ H5 hi ⟨v3, v4, zs, rfl, s5, e5, t5⟩
      have hi : i < a.length := by omega
      obtain ⟨ra, ha1, ha2⟩ := t1.getQ hi
      refine ⟨_, rfl, l2, _, rfl, .inl (SqL.of (s5 _ _ e2)), ?_⟩
      rw [List.length_map, n2]
      refine ⟨_, rfl, by omega, by omega, for_range (lo := 0) (n := ((b.length : Nat) : Int).toNat) (fun k σ H' => ∃ v4 zs, σ = [some (.ref l1), some (.ref l2), some (.ref fo), some (.int (0 + (i : Int))), v4] ∧ Same H H' ∧ H' fo = some (.lst (zs.map V.ref)) ∧ Tups H' zs ((tab L (pt a b i k)).map pq)) ⟨_, _, rfl, s5, e5, t5⟩ ?_ ?_⟩
      · rintro k σ H6 hk ⟨v4, zs, rfl, s6, e6, t6⟩
        have hk : k < b.length := by omega
        have hik : i + k < L := by omega
        obtain ⟨rb, hb1, hb2⟩ := t2.getQ hk
        obtain ⟨rc, hc1, hc2⟩ := t6.getQ (i := i + k) (by rw [tab_len]; exact hik)
        rw [cf_tab, if_pos hik] at hc2
        have ix : (0 + (i : Int)) + (0 + (k : Int)) = ((i + k : Nat) : Int) := by omega
        have gc : (zs.map V.ref)[i + k]? = some (V.ref rc) := by rw [List.getElem?_map, hc1]; rfl
        have ga : (as.map V.ref)[i]? = some (V.ref ra) := by rw [List.getElem?_map, ha1]; rfl
        have gb : (bs.map V.ref)[k]? = some (V.ref rb) := by rw [List.getElem?_map, hb1]; rfl
        refine ⟨_, rfl, _, rfl, _, rfl, _, _, rfl, rfl, fo, _, _, .ref rc, rfl, rfl, SqL.of e6, at_of ix gc, ?_⟩
        refine ⟨_, rfl, _, rfl, l1, _, _, .ref ra, rfl, rfl, SqL.of (s6 _ _ e1), at_of (by omega) ga, _, rfl, _, rfl, l2, _, _, .ref rb, rfl, rfl, SqL.of (s6 _ _ e2), at_of (by omega) gb, ?_⟩
        refine ⟨ra, rb, cf a i, cf b k, rfl, ha2.same s6, hb2.same s6, sA i, sB k, fun r7 H7 s7 nr7 er7 => ?_⟩
        refine ⟨rc, r7, _, _, rfl, hc2.same s7, er7, sP i k _ (by omega), sM i k, fun r8 H8 s8 nr8 er8 => ?_⟩
        have s78 := s7.trans s8
        have e8 := s78 _ _ e6
        have zl := t6.lenQ
        rw [tab_len] at zl
        have hix : ixN (zs.map V.ref).length ((0 + (i : Int)) + (0 + (k : Int))) = some (i + k) := by
          unfold ixN
          rw [ix, if_pos (by omega), List.length_map, zl, if_pos (by omega)]
          rfl
        refine ⟨_, rfl, _, rfl, _, rfl, _, _, rfl, rfl, fo, _, _, i + k, rfl, rfl, e8, hix, ?_⟩
        refine ⟨_, zs.set (i + k) r8, rfl, (fun b' o' e' => ?_), ?_, ?_⟩
        · rw [upd_ne (ne_of_none e' nfoH)]
          exact s78 _ _ (s6 _ _ e')
        · rw [upd_same, List.map_set]
        · have up : ∀ (c : Addr) (p : Int × Int), H8 c = some (.tup [.int p.1, .int p.2]) → upd H8 fo (.lst ((zs.map V.ref).set (i + k) (V.ref r8))) c = some (.tup [.int p.1, .int p.2]) := fun c p z => by
            rw [upd_ne (ne_of z e8 (by intro z; cases z))]
            exact z
          have er8' : TR H8 r8 (pt a b i k (i + k) + cf a i * cf b k) := er8
          have t8 := ((t6.same s78).setQ (i + k) er8').imp up
          have eq : (tab L (pt a b i k)).set (i + k) (pt a b i k (i + k) + cf a i * cf b k) = tab L (pt a b i (k + 1)) := by
            refine List.ext_getElem (by rw [List.length_set, tab_len, tab_len]) fun j h1 h2 => ?_
            rw [tab_len] at h2
            rw [← cf_lt h1, ← cf_lt (by rw [tab_len]; exact h2), cf_set (by rw [tab_len]; exact hik), cf_tab, cf_tab, if_pos h2, if_pos h2, pt_next]
            split
            · rename_i h; rw [h]
            · rfl
          rw [eq] at t8
          exact t8
      · rintro σ H6 ⟨v4, zs, rfl, s6, e6, t6⟩
        refine ⟨_, _, zs, rfl, s6, e6, ?_⟩
        have eq : tab L (pt a b i ((b.length : Nat) : Int).toNat) = tab L (pt a b (i + 1) 0) := by
          rw [Int.toNat_natCast]
          unfold tab
          refine List.map_congr_left fun j _ => (pt_row a b i j).symm
        rw [eq] at t6
        exact t6
    · rintro σ H5 ⟨v3, v4, zs, rfl, s5, e5, t5⟩
      refine ⟨_, rfl, ?_⟩
      have eq : tab L (pt a b ((a.length : Nat) : Int).toNat 0) = pmul a b := by
        rw [Int.toNat_natCast]
        unfold pmul
        rw [hL]
        unfold tab
        refine List.map_congr_left fun j _ => pt_end a b j
      rw [eq] at t5
      refine lpoly_qn (E := E0) ⟨zs, e5, t5⟩ (by unfold pmul; rw [tab_len]; omega) fun l' H'' s' n' r => q l' H'' (s5.trans s') (s5.free n') r
end
end Vf
set_option maxRecDepth 100000
set_option maxHeartbeats 4000000
namespace Vf
open PySem PySem.Spec PyProof.Rows L2
/-- a list (true) or a tuple (false) of these items -/
def SqB (p : Bool) (K : PySem.W.Frag) (H : Hp) (a : Addr) (xs : List V) : Prop := match p with
  | true => SqL K H a xs
  | false => SqT K H a xs
def ItB (p : Bool) (h : Heap) (it a : Addr) (i : Nat) : Prop := match p with
  | true => h.IsListIter it a i
  | false => h.IsTupleIter it a i
def ArB (p : Bool) (h : Heap) (a : Addr) (items : Array Value) : Prop := match p with
  | true => h.IsList a items
  | false => h.IsTuple a items
theorem SqB.same {p : Bool} {K : PySem.W.Frag} {H H' : Hp} {a : Addr} {xs : List V} (h : SqB p K H a xs) (s : Same H H') : SqB p K H' a xs := by
  cases p
  · exact same_sqT s h
  · exact same_sqL s h
theorem drawsB {prog : Program} {w : World} {A : Around} (p : Bool) (hh : A.handled = none) (it l : Addr) (hne : l ≠ it) (items : Array Value) :
    Draws prog w A it [it, l] items.size (fun i v => items[i]? = some v) (fun i h => ItB p h it l i ∧ ArB p h l items) := by
  cases p
  · exact Draws.tuple hh it l hne items
  · exact Draws.list hh it l hne items
def obB (p : Bool) (a : Addr) : Obj := match p with
  | true => { cls := .type "list_iterator", data := .fields #[.ref a, .int 0 0] }
  | false => { cls := .type "tuple_iterator", data := .fields #[.ref a, .int 0 0] }
theorem beginsB (p : Bool) (a : Addr) (items : Array Value) : Begins (.ref a) (obB p a) fun h => ArB p h a items := by
  cases p
  · exact begins_tuple a items
  · exact begins_list a items
theorem itB_of {p : Bool} {h : Heap} {it a : Addr} (e : h.get? it = some (obB p a)) : ItB p h it a 0 := by
  cases p
  · exact ⟨_, e, rfl, rfl⟩
  · exact ⟨_, e, rfl, rfl⟩
theorem ItB.at {p : Bool} {h h' : Heap} {it a : Addr} {i : Nat} (st : ItB p h it a i) (k : ∀ o, h.get? it = some o → h'.get? it = some o) : ItB p h' it a i := by
  cases p
  · exact Heap.IsTupleIter.at st k
  · exact Heap.IsListIter.at st k
theorem ItB.obj {p : Bool} {h : Heap} {it a : Addr} {i : Nat} (st : ItB p h it a i) : ∃ o, h.get? it = some o ∧ ∀ v, o.data ≠ .cell v := by
  cases p
  · obtain ⟨o, e, _, d⟩ := st
    exact ⟨o, e, fun v z => by rw [d] at z; cases z⟩
  · obtain ⟨o, e, _, d⟩ := st
    exact ⟨o, e, fun v z => by rw [d] at z; cases z⟩
section
variable {X : Cx} {pins : List (Addr × Obj)} {σ : L2.St} {H : Hp} {s : Shared}
theorem seqB (I : Inv X pins σ H s) {p : Bool} {a : Addr} {xs : List V} (h : SqB p X.K H a xs) : ∃ its : List Value, Vals xs its ∧ ArB p s.heap a its.toArray := by
  cases p
  · obtain ⟨its, rv, q, _⟩ := I.tuple h
    exact ⟨its, rv, q⟩
  · obtain ⟨its, rv, q, _⟩ := I.list h
    exact ⟨its, rv, q.isList⟩
theorem seqB_inj (I : Inv X pins σ H s) {p : Bool} {a : Addr} {xs ys : List V} (h1 : SqB p X.K H a xs) (h2 : SqB p X.K H a ys) : xs = ys := by
  cases p
  · exact I.tuple_inj h1 h2
  · exact I.list_inj h1 h2
theorem ArB.lt {p : Bool} {h : Heap} {a : Addr} {its : Array Value} (q : ArB p h a its) : a < h.objs.size := by
  cases p
  · obtain ⟨o, e, _⟩ := q
    exact Heap.lt_size e
  · obtain ⟨o, e, _⟩ := q
    exact Heap.lt_size e
end
/-- the lists or tuples at a and b as they stand at each turn, the items in new pairs -/
def ItzB (p q : Bool) (K : PySem.W.Frag) (a b : Addr) : It :=
  ⟨fun i H => ∃ (xs ys : List V) (x y : V), SqB p K H a xs ∧ SqB q K H b ys ∧ xs[i]? = some x ∧ ys[i]? = some y,
    fun i H v H' => ∃ T x y, v = .ref T ∧ H T = none ∧ H' = upd H T (.tup [x, y]) ∧ (∀ xs, SqB p K H a xs → xs[i]? = some x) ∧ ∀ ys, SqB q K H b ys → ys[i]? = some y,
    fun i H => ∃ xs ys : List V, SqB p K H a xs ∧ SqB q K H b ys ∧ i ≤ xs.length ∧ i ≤ ys.length ∧ (xs.length = i ∨ ys.length = i)⟩
theorem sepB {a b z TI TO i1 i2 : Addr} (D : ZipApart z TI TO i1 i2 a b) : ZipSep2 z TI TO i1 i2 [i1, a] [i2, b] where
  TIz := D.TIz
  TOz := D.TOz
  TITO := D.TITO
  TIi1 := D.TIi1
  mem1 := by simp
  zf1 := by simp [D.i1z.symm, D.l1z.symm]
  Tf1 := by simp [D.TOi1, D.l1TO.symm]
  TIi2 := D.TIi2
  mem2 := by simp
  zf2 := by simp [D.i2z.symm, D.l2z.symm]
  Tf2 := by simp [D.TOi2, D.l2TO.symm]
  sep1_2 := by simp [D.i12, D.l2i1.symm]
  sep2_1 := by simp [D.i12.symm, D.l1i2.symm]
theorem turn_zipB {P : Program} {w : World} {K : PySem.W.Frag} {elts : List Expr} {kk : Nat} {tpos : Pos} (p q : Bool) {a b z TI TO i1 i2 : Addr} (D : ZipApart z TI TO i1 i2 a b) :
    Turn P w K (.Tuple elts kk tpos) (ItzB p q K a b) [z, TI, TO, i1, i2] z (fun i h => IsZip h z TI TO .none ∧ IsPair h TI (.ref i1) (.ref i2) ∧ (∃ x y, IsPair h TO x y) ∧ ItB p h i1 a i ∧ ItB q h i2 b i) where
  mem := by simp
  obj := fun i h st c hc => by
    obtain ⟨hz, hTI, ⟨x, y, hTO⟩, h1, h2⟩ := st
    have e' : c = z ∨ c = TI ∨ c = TO ∨ c = i1 ∨ c = i2 := by simpa using hc
    rcases e' with q | q | q | q | q
    · rw [q]; exact ⟨_, hz, fun v q => nomatch q⟩
    · rw [q]; exact ⟨_, hTI, fun v q => nomatch q⟩
    · rw [q]; exact ⟨_, hTO, fun v q => nomatch q⟩
    · rw [q]; exact h1.obj
    · rw [q]; exact h2.obj
  keep := fun i h h' st k => by
    obtain ⟨hz, hTI, ⟨x, y, hTO⟩, h1, h2⟩ := st
    exact ⟨k z (by simp) _ hz, k TI (by simp) _ hTI, ⟨x, y, k TO (by simp) _ hTO⟩, h1.at fun o q => k i1 (by simp) o q, h2.at fun o q => k i2 (by simp) o q⟩
  item := by
    intro X hP hw hK hc i pins s σ H E I hf st hg
    subst hP hw hK
    obtain ⟨hz, hTI, ⟨x0, y0, hTO⟩, h1, h2⟩ := st
    obtain ⟨xs, ys, x, y, hqx, hqy, hx, hy⟩ := hg
    obtain ⟨its, rv, p1⟩ := seqB I hqx
    obtain ⟨its2, rv2, p2⟩ := seqB I hqy
    obtain ⟨u, hu, ru⟩ := rv.get hx
    obtain ⟨u2, hu2, ru2⟩ := rv2.get hy
    have hzl : z < s.heap.objs.size := Heap.lt_size hz
    have hh : X.A.in1.handled = none := I.ok.hd hc
    have l1 : i < its.toArray.size := by
      have := (List.getElem?_eq_some_iff.mp hu).1
      simpa using this
    have l2 : i < its2.toArray.size := by
      have := (List.getElem?_eq_some_iff.mp hu2).1
      simpa using this
    refine wpAny_pyNext_zipD2_item (sepB D) (drawsB p hh i1 a D.l1i1 its.toArray) (drawsB q hh i2 b D.l2i2 its2.toArray) hz hTI hTO ⟨h1, p1⟩ ⟨h2, p2⟩ l1 l2 fun u' u2' h' tk e1 e2 z' TO' h1' h2' hT hsz hk => ?_
    have eu : u' = u := by
      rw [List.getElem?_toArray, hu] at e1
      exact (Option.some.inj e1).symm
    have eu2 : u2' = u2 := by
      rw [List.getElem?_toArray, hu2] at e2
      exact (Option.some.inj e2).symm
    subst eu eu2
    refine ⟨_, rfl, wpAny_letOwnedTupleGo_zip (s := { s with heap := h', toks := tk }) z' fun h'' z'' sb => ?_⟩
    have hT2 : h''.get? s.heap.objs.size = some { cls := .type "tuple", data := .seq #[u', u2'] } := (sb.2 _ (Nat.ne_of_gt hzl)).trans hT
    have new : ObjOk X.prog X.w (upd H s.heap.objs.size (.tup [x, y])) h'' s.heap.objs.size (.tup [x, y]) :=
      ⟨by show 2 ≤ sizeLine; decide, [u', u2'], .cons ru (.cons ru2 .nil), ⟨_, hT2, rfl, _, rfl⟩⟩
    have I1 : Inv X pins σ (upd H s.heap.objs.size (.tup [x, y])) { s with heap := h'', toks := tk } :=
      I.turnedNew (t' := tk) (ch := [z, TI, TO, i1, i2]) (fun c o hb q => (sb.2 c (fun q' => hb (by simp [q']))).trans (hk c o (fun q' => hb (by simp [q'])) (fun q' => hb (by simp [q'])) (fun q' => hb (by simp [q'])) (fun q' => hb (by simp [q'])) q)) hf (Nat.le_refl _) new
    refine ⟨.ref s.heap.objs.size, _, I1, rfl, ⟨_, x, y, rfl, I.hok.fresh (Nat.le_refl _), rfl, fun l hl => by rw [seqB_inj I hl hqx]; exact hx, fun l hl => by rw [seqB_inj I hl hqy]; exact hy⟩, ⟨z'', ?_, ⟨u', u2', ?_⟩, ?_, ?_⟩, fun c hcm => ?_⟩
    · exact (sb.2 _ D.TIz).trans (hk _ _ D.TIz D.TITO D.TIi1 D.TIi2 hTI)
    · exact (sb.2 _ D.TOz).trans TO'
    · exact h1'.1.at fun o q => (sb.2 _ D.i1z).trans q
    · exact h2'.1.at fun o q => (sb.2 _ D.i2z).trans q
    · have hlt : c < s.heap.objs.size := by
        have e' : c = z ∨ c = TI ∨ c = TO ∨ c = i1 ∨ c = i2 := by simpa using hcm
        rcases e' with q | q | q | q | q
        · rw [q]; exact hzl
        · rw [q]; exact Heap.lt_size hTI
        · rw [q]; exact Heap.lt_size hTO
        · rw [q]; obtain ⟨_, e1, _⟩ := h1.obj; exact Heap.lt_size e1
        · rw [q]; obtain ⟨_, e1, _⟩ := h2.obj; exact Heap.lt_size e1
      rw [upd_ne (Nat.ne_of_lt hlt)]
      exact (hf c hcm).1
  done := by
    intro X hP hw hK hc i pins s σ H E I hf st hg
    subst hP hw hK
    obtain ⟨hz, hTI, ⟨x0, y0, hTO⟩, h1, h2⟩ := st
    obtain ⟨xs, ys, hqx, hqy, le1, le2, hend⟩ := hg
    obtain ⟨its, rv, p1⟩ := seqB I hqx
    obtain ⟨its2, rv2, p2⟩ := seqB I hqy
    have l1 := rv.length
    have l2 := rv2.length
    have hh : X.A.in1.handled = none := I.ok.hd hc
    have s1 : its.toArray.size = its.length := by simp
    have s2 : its2.toArray.size = its2.length := by simp
    refine wpAny_pyNext_zipD2_end (sepB D) (drawsB p hh i1 a D.l1i1 its.toArray) (drawsB q hh i2 b D.l2i2 its2.toArray) hz hTI hTO ⟨h1, p1⟩ ⟨h2, p2⟩ (by rw [s1]; omega) (by rw [s2]; omega) (by rw [s1, s2]; omega) fun h' tk hk => ⟨rfl, I.turnedL (t' := tk) (ch := [z, TI, TO, i1, i2]) (fun c o hb q =>
      hk c o (fun q' => hb (by simp [q'])) (fun q' => hb (by simp [q'])) (fun q' => hb (by simp [q'])) (fun q' => hb (by simp [q'])) q) hf⟩
  self := fun A i s Q E st h => wpAny_pyIter_zip st.1 h
def iZipB (K : PySem.W.Frag) (ta : TA) : TI := fun σ H R => ta σ H fun vs H1 => ∃ p q a b xs ys, vs = [.ref a, .ref b] ∧ SqB p K H1 a xs ∧ SqB q K H1 b ys ∧ R (ItzB p q K a b) H1
theorem pi_zipB {X : Cx} {e e2 : Expr} {ta : TA} {p pos tpos : Pos} {elts : List Expr} {kk : Nat} (hg : Gl X "zip") (hm : X.mg "zip" = none) (ha : PA X [e, e2] ta)
    (hs : starEach [e, e2] X.env = (false, eval e X.env) :: starEach [e2] X.env := by rfl) (hpl : (backTo pos (starEach [e2] X.env)).any (·.1) = false := by rfl) :
    PI X (.Tuple elts kk tpos) (.Call (.Name "zip" p) [e, e2] [] pos) (iZipB X.K ta) := by
  refine ⟨fun pins s σ H R I h => ?_⟩
  refine Call_ (ld_blt I hg hm PyProof.Rows.boot_zip (PyProof.Rows.callWith_type1 (thn (ha.run pos pins s σ H _ I h) fun us s1 ⟨vs, H1, I1, r1, q1⟩ => ?_) hs hpl))
  obtain ⟨p, q, a, b, xs, ys, ex, hqx, hqy, g⟩ := q1
  subst ex
  cases r1 with
  | cons r rr =>
    cases rr with
    | cons r' rr =>
      cases rr
      cases r
      cases r'
      have fresh5 : ∀ c, c ∈ [s1.heap.objs.size + 4, s1.heap.objs.size + 2, s1.heap.objs.size + 3, s1.heap.objs.size, s1.heap.objs.size + 1] → FpOk X pins H1 c := fun c hcm => by
        have e' : c = s1.heap.objs.size + 4 ∨ c = s1.heap.objs.size + 2 ∨ c = s1.heap.objs.size + 3 ∨ c = s1.heap.objs.size ∨ c = s1.heap.objs.size + 1 := by simpa using hcm
        have hle : s1.heap.objs.size ≤ c := by
          rcases e' with z | z | z | z | z
          · rw [z]; exact Nat.le_add_right _ _
          · rw [z]; exact Nat.le_add_right _ _
          · rw [z]; exact Nat.le_add_right _ _
          · rw [z]; exact Nat.le_refl _
          · rw [z]; exact Nat.le_add_right _ _
        exact I1.fpOk hle (I1.hok.fresh hle)
      obtain ⟨its, rv, p1⟩ := seqB I1 hqx
      obtain ⟨its2, rv2, p2⟩ := seqB I1 hqy
      refine zip_begins2 (beginsB p a its.toArray) (beginsB q b its2.toArray) p1 p2 fun h' hz hTI hTO h1 h2 hsz hk => wpAny_pyIter_zip hz ?_
      have I2 : Inv X pins σ H1 { s1 with heap := h' } := I1.kept (t' := s1.toks) hk
      exact ⟨s1.heap.objs.size + 4, [s1.heap.objs.size + 4, s1.heap.objs.size + 2, s1.heap.objs.size + 3, s1.heap.objs.size, s1.heap.objs.size + 1], _, _, H1, rfl, I2, turn_zipB p q (PySem.W.ktu_apart s1.heap.objs.size a b p1.lt p2.lt), ⟨hz, hTI, ⟨_, _, hTO⟩, itB_of h1, itB_of h2⟩, fresh5, g⟩
end Vf
set_option maxRecDepth 100000
set_option maxHeartbeats 4000000
namespace Vf
open PySem PySem.Spec PyProof.Rows L2
/-- a comprehension over zip of two rows of any lengths -/
theorem lc_zipM {p q : Bool} {K : PySem.W.Frag} {a b : Addr} {xs ys : List V} {g : TG} {tt : TT} {te : TE} {vs : List Nat} {σ : L2.St} {H1 : Hp} {D : Addr} {Qd : Hp → Prop} (n : Nat) (hn : n = min xs.length ys.length) (Pv : Nat → Hp → Prop) (h0 : Pv 0 (upd H1 D (.lst [])))
    (hq : ∀ i H, Pv i H → SqB p K H a xs ∧ SqB q K H b ys)
    (hs : ∀ (i : Nat) (x y : V) (T : Addr) (H : Hp), i < n → xs[i]? = some x → ys[i]? = some y → Pv i H → H T = none → g (.ref T) (wipe σ vs) (upd H T (.tup [x, y])) fun σ2 H2 => wipe σ2 vs = wipe σ vs ∧ tt σ2 H2 fun b H3 =>
      if b = true then te σ2 H3 fun y H4 => ∃ acc, H4 D = some (.lst acc) ∧ acc.length < sizeLine ∧ Pv (i + 1) (upd H4 D (.lst (acc ++ [y]))) else Pv (i + 1) H3) (hd : ∀ H, Pv n H → Qd H) :
    ∃ W : Nat → Nat → Hp → Prop, (∃ m, W 0 m (upd H1 D (.lst []))) ∧ ∀ i m H, W i m H →
      (((ItzB p q K a b).stop i H ∧ Qd H) ∨ ((ItzB p q K a b).go i H ∧ ∃ Nx : Hp → Prop, (∀ H', Nx H' → ∃ m', m' < m ∧ W (i + 1) m' H') ∧ ∀ x H', (ItzB p q K a b).yld i H x H' → g x (wipe σ vs) H' fun σ2 H2 => wipe σ2 vs = wipe σ vs ∧ tt σ2 H2 fun b H3 =>
        if b = true then te σ2 H3 fun y H4 => ∃ acc, H4 D = some (.lst acc) ∧ acc.length < sizeLine ∧ Nx (upd H4 D (.lst (acc ++ [y]))) else Nx H3)) := by
  refine ⟨fun i m H => m = n - i ∧ i ≤ n ∧ Pv i H, ⟨n, by simp, Nat.zero_le _, h0⟩, ?_⟩
  rintro i m H ⟨rfl, hi, pv⟩
  obtain ⟨qx, qy⟩ := hq i H pv
  by_cases hlt : i < n
  · have h1 : i < xs.length := by omega
    have h2 : i < ys.length := by omega
    have hx : xs[i]? = some xs[i] := List.getElem?_eq_getElem h1
    have hy : ys[i]? = some ys[i] := List.getElem?_eq_getElem h2
    refine .inr ⟨⟨xs, ys, xs[i], ys[i], qx, qy, hx, hy⟩, Pv (i + 1), fun H' p' => ⟨n - (i + 1), by omega, rfl, hlt, p'⟩, fun v H' y => ?_⟩
    obtain ⟨T, x', y', e1, m, e2, h1, h2⟩ := y
    rw [e1, e2]
    exact hs i x' y' T H hlt (h1 xs qx) (h2 ys qy) pv m
  · have e : i = n := by omega
    subst e
    exact .inl ⟨⟨xs, ys, qx, qy, by omega, by omega, by omega⟩, hd H pv⟩
end Vf
set_option maxRecDepth 100000
set_option maxHeartbeats 4000000
set_option maxRecDepth 100000
namespace Vf
def ev : List Rat → Rat → Rat
  | [], _ => 0
  | a :: r, x => a + x * ev r x
theorem cf_cons (a : Rat) (r : List Rat) (i : Nat) : cf (a :: r) i = if i = 0 then a else cf r (i - 1) := by
  cases i with
  | zero => rfl
  | succ i => rfl
theorem sm_head (f : Nat → Rat) : ∀ n, sm f (n + 1) = f 0 + sm (fun i => f (i + 1)) n
  | 0 => by show 0 + f 0 = f 0 + 0; grind
  | n + 1 => by
    show sm f (n + 1) + f (n + 1) = f 0 + (sm (fun i => f (i + 1)) n + f (n + 1))
    rw [sm_head f n]; grind
theorem sm_mulr (f : Nat → Rat) (c : Rat) : ∀ n, sm (fun i => f i * c) n = sm f n * c
  | 0 => by show (0 : Rat) = 0 * c; grind
  | n + 1 => by
    show sm (fun i => f i * c) n + f n * c = (sm f n + f n) * c
    rw [sm_mulr f c n]; grind
theorem sm_mull (f : Nat → Rat) (c : Rat) : ∀ n, sm (fun i => c * f i) n = c * sm f n
  | 0 => by show (0 : Rat) = c * 0; grind
  | n + 1 => by
    show sm (fun i => c * f i) n + c * f n = c * (sm f n + f n)
    rw [sm_mull f c n]; grind
theorem sm_addd (f g : Nat → Rat) : ∀ n, sm (fun i => f i + g i) n = sm f n + sm g n
  | 0 => by show (0 : Rat) = 0 + 0; grind
  | n + 1 => by
    show sm (fun i => f i + g i) n + (f n + g n) = (sm f n + f n) + (sm g n + g n)
    rw [sm_addd f g n]; grind
theorem ev_sm (x : Rat) : ∀ (l : List Rat) (n : Nat), l.length ≤ n → ev l x = sm (fun i => cf l i * x ^ i) n
  | [], n, _ => by
    show (0 : Rat) = _
    rw [sm_zero fun i _ => by rw [cf_nil]; grind]
  | a :: r, 0, h => by simp at h
  | a :: r, n + 1, h => by
    rw [sm_head]
    show a + x * ev r x = cf (a :: r) 0 * x ^ 0 + sm (fun i => cf (a :: r) (i + 1) * x ^ (i + 1)) n
    rw [ev_sm x r n (by simpa using h), ← sm_mull]
    have e : sm (fun i => x * (cf r i * x ^ i)) n = sm (fun i => cf (a :: r) (i + 1) * x ^ (i + 1)) n := sm_ext fun i _ => by
      rw [show cf (a :: r) (i + 1) = cf r i from rfl, Rat.pow_succ]; grind
    rw [e, show cf (a :: r) 0 = a from rfl, Rat.pow_zero]; grind
theorem ev_ext {a b : List Rat} (h : ∀ i, cf a i = cf b i) (x : Rat) : ev a x = ev b x := by
  rw [ev_sm x a (max a.length b.length) (by omega), ev_sm x b (max a.length b.length) (by omega)]
  exact sm_ext fun i _ => by rw [h]
theorem ev_stripQ (l : List Rat) (x : Rat) : ev (stripQ l) x = ev l x := ev_ext (cf_stripQ l) x
theorem ev_padd (a b : List Rat) (x : Rat) : ev (padd a b) x = ev a x + ev b x := by
  have l : (padd a b).length = max a.length b.length := by unfold padd; rw [tab_len]
  rw [ev_sm x a (max a.length b.length) (by omega), ev_sm x b (max a.length b.length) (by omega), ev_sm x _ (max a.length b.length) (by omega), ← sm_addd]
  exact sm_ext fun i _ => by rw [cf_padd]; grind
theorem ev_pscale (a : List Rat) (c x : Rat) : ev (pscale a c) x = ev a x * c := by
  have l : (pscale a c).length = a.length := by unfold pscale; rw [List.length_map]
  rw [ev_sm x a a.length (by omega), ev_sm x _ a.length (by omega), ← sm_mulr]
  exact sm_ext fun i _ => by rw [show cf (pscale a c) i = cf a i * c from cf_map (f := (· * c)) (Rat.zero_mul c) a i]; grind
theorem pc_cons (a : Rat) (r b : List Rat) (k : Nat) : pc (a :: r) b k = a * cf b k + if k = 0 then 0 else pc r b (k - 1) := by
  unfold pc
  rw [sm_head]
  show cf (a :: r) 0 * cf b (k - 0) + sm (fun i => cf (a :: r) (i + 1) * cf b (k - (i + 1))) k = _
  rw [show cf (a :: r) 0 = a from rfl, Nat.sub_zero]
  congr 1
  split
  · next h => rw [h]; rfl
  · next h =>
    rw [show k - 1 + 1 = k by omega]
    exact sm_ext fun i hi => by rw [show cf (a :: r) (i + 1) = cf r i from rfl, show k - (i + 1) = k - 1 - i by omega]
theorem ev_pc (x : Rat) (b : List Rat) : ∀ (a : List Rat) (n : Nat), a.length + b.length ≤ n + 1 → sm (fun k => pc a b k * x ^ k) n = ev a x * ev b x
  | [], n, h => by
    rw [sm_zero fun k _ => by rw [show pc [] b k = 0 from by unfold pc; exact sm_zero fun i _ => by rw [cf_nil]; grind]; grind]
    show (0 : Rat) = 0 * _
    grind
  | a :: r, n, h => by
    have h' : r.length + b.length ≤ n := by simp at h; omega
    show _ = (a + x * ev r x) * ev b x
    have e1 : sm (fun k => pc (a :: r) b k * x ^ k) n = sm (fun k => a * (cf b k * x ^ k)) n + sm (fun k => (if k = 0 then 0 else pc r b (k - 1)) * x ^ k) n := by
      rw [← sm_addd]
      exact sm_ext fun k _ => by rw [pc_cons]; grind
    rw [e1, sm_mull, ← ev_sm x b n (by omega)]
    cases n with
    | zero =>
      have hb : b = [] := List.length_eq_zero_iff.mp (by omega)
      subst hb
      show a * 0 + 0 = (a + x * ev r x) * 0
      grind
    | succ n =>
      rw [sm_head]
      have e2 : sm (fun i => (if i + 1 = 0 then 0 else pc r b (i + 1 - 1)) * x ^ (i + 1)) n = x * sm (fun k => pc r b k * x ^ k) n := by
        rw [← sm_mull]
        exact sm_ext fun i _ => by rw [if_neg (by omega), Nat.add_sub_cancel, Rat.pow_succ]; grind
      rw [e2, ev_pc x b r n (by omega)]
      grind
theorem ev_pmul (a b : List Rat) (x : Rat) : ev (pmul a b) x = ev a x * ev b x := by
  by_cases h : a.length + b.length = 0
  · have ha : a = [] := List.length_eq_zero_iff.mp (by omega)
    have hb : b = [] := List.length_eq_zero_iff.mp (by omega)
    subst ha; subst hb
    show (0 : Rat) = 0 * 0
    grind
  · have l : (pmul a b).length = a.length + b.length - 1 := by unfold pmul; rw [tab_len]
    rw [ev_sm x (pmul a b) (a.length + b.length - 1) (by omega), ← ev_pc x b a (a.length + b.length - 1) (by omega)]
    exact sm_ext fun i _ => by rw [cf_pmul]
def absR (x : Rat) : Rat := if x < 0 then -x else x
theorem absR_nn (x : Rat) : 0 ≤ absR x := by unfold absR; split <;> grind
theorem absR_add (x y : Rat) : absR (x + y) ≤ absR x + absR y := by unfold absR; split <;> split <;> split <;> grind
theorem mul_nn {a b : Rat} (h : 0 ≤ a) (h2 : 0 ≤ b) : 0 ≤ a * b := Rat.mul_nonneg h h2
theorem absR_self (x : Rat) : x ≤ absR x ∧ -x ≤ absR x := by unfold absR; split <;> constructor <;> grind
theorem absR_mul_le {x y z : Rat} (hx : absR x ≤ z) : absR (x * y) ≤ z * absR y := by
  have h0 := absR_nn y
  have h1 := absR_self x
  unfold absR at h0 ⊢
  split at h0 <;> split <;> rename_i h2 h3 <;> (have := mul_nn (show 0 ≤ z + x by grind) h0; have := mul_nn (show 0 ≤ z - x by grind) h0; grind)
def tot : List Rat → Rat
  | [] => 0
  | a :: r => absR a + tot r
theorem tot_nn : ∀ l : List Rat, 0 ≤ tot l
  | [] => by decide
  | a :: r => by have := absR_nn a; have := tot_nn r; show 0 ≤ absR a + tot r; grind
theorem ev_small {x : Rat} (hx : absR x ≤ 1) : ∀ l : List Rat, absR (ev l x) ≤ tot l
  | [] => by show absR 0 ≤ 0; decide
  | a :: r => by
    have h1 := absR_add a (x * ev r x)
    have h2 := absR_mul_le (y := ev r x) hx
    have h3 := ev_small hx r
    show absR (a + x * ev r x) ≤ absR a + tot r
    grind
theorem ev_zero : ∀ (l : List Rat), (∀ x, x ≠ 0 → ev l x = 0) → ∀ i, cf l i = 0
  | [], _, i => cf_nil i
  | a :: r, h, i => by
    have ha : a = 0 := by
      refine Decidable.byContradiction fun na => ?_
      have t0 := tot_nn r
      have a0 := absR_nn a
      have ap : 0 < absR a := by
        have := absR_self a
        grind
      -- x = |a| / (|a| + tot + 1)
      have dp : 0 < absR a + tot r + 1 := by grind
      have dne : absR a + tot r + 1 ≠ 0 := by grind
      have xe : absR a / (absR a + tot r + 1) * (absR a + tot r + 1) = absR a := by grind
      generalize absR a / (absR a + tot r + 1) = x at xe
      have xp : 0 < x := by
        refine Decidable.byContradiction fun n => ?_
        have : 0 ≤ -x * (absR a + tot r + 1) := mul_nn (by grind) (by grind)
        grind
      have x1 : x ≤ 1 := by
        refine Decidable.byContradiction fun n => ?_
        have : 0 ≤ (x - 1) * (absR a + tot r + 1) := mul_nn (by grind) (by grind)
        grind
      have xa : absR x = x := by unfold absR; rw [if_neg (by grind)]
      have e := h x (by grind)
      have s := ev_small (x := x) (by rw [xa]; exact x1) r
      have e' : a = -(x * ev r x) := by have : a + x * ev r x = 0 := e; grind
      have m := absR_mul_le (x := x) (y := ev r x) (z := x) (by rw [xa]; grind)
      have n1 : absR a = absR (x * ev r x) := by rw [e']; unfold absR; split <;> split <;> grind
      have q : 0 ≤ x * (tot r - absR (ev r x)) := mul_nn (by grind) (by grind)
      have q2 : 0 ≤ x * absR a := mul_nn (by grind) a0
      grind
    subst ha
    have hr : ∀ i, cf r i = 0 := ev_zero r fun x hx => by
      have e : 0 + x * ev r x = 0 := h x hx
      have e2 : x * ev r x = 0 := by grind
      grind
    rw [cf_cons]
    split
    · rfl
    · exact hr _
theorem ev_inj {a b : List Rat} (h : ∀ x, x ≠ 0 → ev a x = ev b x) (i : Nat) : cf a i = cf b i := by
  have z := ev_zero (padd a (pscale b (-1))) (fun x hx => by rw [ev_padd, ev_pscale, h x hx]; grind) i
  rw [cf_padd, show cf (pscale b (-1)) i = cf b i * (-1) from cf_map (f := (· * (-1))) (Rat.zero_mul _) b i] at z
  grind
end Vf
set_option maxRecDepth 100000
namespace Vf
def ch : Nat → Nat → Nat
  | _, 0 => 1
  | 0, _ + 1 => 0
  | n + 1, k + 1 => ch n k + ch n (k + 1)
/-- the next of a row -/
def nx (b : Nat → Rat) : Nat → Rat := fun i => b (i + 1)
/-- the value of a row of corners, by the parts u and d -/
def bn : Nat → (Nat → Rat) → Rat → Rat → Rat
  | 0, b, _, _ => b 0
  | n + 1, b, u, d => d * bn n b u d + u * bn n (nx b) u d
def dl (b : Nat → Rat) : Nat → Nat → Rat
  | 0, m => b m
  | k + 1, m => dl b k (m + 1) - dl b k m
end Vf
set_option maxRecDepth 100000
namespace Vf
def qi (l : List Int) : List Rat := l.map (fun n : Int => (n : Rat))
theorem qi_len (l : List Int) : (qi l).length = l.length := List.length_map ..
theorem cf_qi (l : List Int) (i : Nat) : cf (qi l) i = ((ci l i : Int) : Rat) := by
  unfold qi cf ci
  rw [List.getD_eq_getElem?_getD, List.getD_eq_getElem?_getD, List.getElem?_map]
  cases l[i]? <;> rfl
def hz (s : Int) : List Int → Int
  | [] => 0
  | a :: r => a + s * hz s r
theorem ev_app (x : Rat) (b : List Rat) : ∀ a : List Rat, ev (a ++ b) x = ev a x + x ^ a.length * ev b x
  | [] => by show ev b x = 0 + x ^ 0 * ev b x; rw [Rat.pow_zero]; grind
  | c :: a => by
    show c + x * ev (a ++ b) x = c + x * ev a x + x ^ (a.length + 1) * ev b x
    rw [ev_app x b a, Rat.pow_succ]; grind
theorem qi_app (a b : List Int) : qi (a ++ b) = qi a ++ qi b := List.map_append
def Bd (R N : Nat) : List Int → Prop
  | [] => True
  | a :: r => a.natAbs ≤ N * R ^ r.length ∧ Bd R N r
theorem Bd.of {R N : Nat} (hR : 0 < R) : ∀ {l : List Int}, (∀ i, (ci l i).natAbs ≤ N) → Bd R N l
  | [], _ => trivial
  | a :: r, h => ⟨Nat.le_trans (h 0) (Nat.le_mul_of_pos_right _ (Nat.pow_pos hR)), Bd.of hR fun i => h (i + 1)⟩
theorem Bd.le {R N N' : Nat} (hN : N ≤ N') : ∀ {l : List Int}, Bd R N l → Bd R N' l
  | [], _ => trivial
  | a :: r, h => ⟨Nat.le_trans h.1 (Nat.mul_le_mul_right _ hN), Bd.le hN h.2⟩
theorem Bd.at {R N : Nat} (hR : 0 < R) : ∀ {l : List Int}, Bd R N l → ∀ i, (ci l i).natAbs ≤ N * R ^ l.length
  | [], _, i => by show 0 ≤ _; omega
  | a :: r, h, 0 => Nat.le_trans h.1 (Nat.mul_le_mul_left _ (Nat.pow_le_pow_right hR (Nat.le_succ _)))
  | a :: r, h, i + 1 => Nat.le_trans (Bd.at hR h.2 i) (Nat.mul_le_mul_left _ (Nat.pow_le_pow_right hR (Nat.le_succ _)))
theorem Bd.app {R N : Nat} : ∀ {a b : List Int}, Bd R N (a ++ b) → ∀ {c : List Int}, c.length = b.length → ∀ {N' : Nat}, N ≤ N' → Bd R N' c → Bd R N' (a ++ c)
  | [], b, h, c, e, N', hN, hc => hc
  | x :: a, b, h, c, e, N', hN, hc => ⟨by
      have h1 : x.natAbs ≤ N * R ^ (a ++ b).length := h.1
      rw [List.length_append] at h1
      show x.natAbs ≤ N' * R ^ (a ++ c).length
      rw [List.length_append, e]
      exact Nat.le_trans h1 (Nat.mul_le_mul_right _ hN), Bd.app (a := a) (b := b) h.2 e hN hc⟩
theorem Bd.drop {R N : Nat} : ∀ {l : List Int} (k : Nat), Bd R N l → Bd R N (l.drop k)
  | [], k, _ => by rw [List.drop_nil]; trivial
  | a :: r, 0, h => h
  | a :: r, k + 1, h => Bd.drop (l := r) k h.2
def acc : Nat → (Nat → Int) → Nat → Int
  | 0, f => f
  | m + 1, f => fun j => if j < m + 1 then acc m f j else acc m f j + acc m f (j - 1)
end Vf
set_option maxRecDepth 100000
set_option maxHeartbeats 8000000
namespace Vf
open PySem PySem.Spec PyProof.Rows L2
theorem Fr.den {M N : Nat} {r : Rat} (h : Fr M N r) : r.den ∣ M := by
  obtain ⟨n, e, _⟩ := h
  have h1 : r.num * (M : Int) = n * (r.den : Int) := by
    have e1 := num_den r
    have : ((r.num * (M : Int) : Int) : Rat) = ((n * (r.den : Int) : Int) : Rat) := by
      rw [Rat.intCast_mul, Rat.intCast_mul, ← e, ← e1]
      show r * (r.den : Rat) * (M : Rat) = r * (M : Rat) * (r.den : Rat)
      grind
    exact_mod_cast this
  have h2 : (r.den : Int) ∣ r.num * (M : Int) := ⟨n, by rw [h1, Int.mul_comm]⟩
  have h3 : r.den ∣ r.num.natAbs * M := by
    have := Int.natAbs_dvd_natAbs.mpr h2
    rw [Int.natAbs_natCast, Int.natAbs_mul, Int.natAbs_natCast] at this
    exact this
  exact Nat.Coprime.dvd_of_dvd_mul_left r.reduced.symm h3
theorem Fr.over {M N b : Nat} {q : Rat} {z : Int} (h : Fr M N q) (hb : b ∣ M) (hM : 0 < M) (e : q * (b : Rat) = (z : Rat)) : z.natAbs ≤ N := by
  obtain ⟨n, e2, hn⟩ := h
  obtain ⟨k, rfl⟩ := hb
  have : ((z * (k : Int) : Int) : Rat) = ((n : Int) : Rat) := by
    rw [Rat.intCast_mul, ← e, ← e2, Rat.natCast_mul]
    show q * (b : Rat) * (k : Rat) = q * ((b : Rat) * (k : Rat))
    grind
  have h1 : z * (k : Int) = n := by exact_mod_cast this
  have k0 : 0 < k := Nat.pos_of_mul_pos_left hM
  have h2 : n.natAbs = z.natAbs * k := by rw [← h1, Int.natAbs_mul, Int.natAbs_natCast]
  have := Nat.le_mul_of_pos_right z.natAbs k0
  omega
def spOver2 (K : PySem.W.Frag) : Sp := fun vs H Q _ => ∃ (l : Addr) (a : List Rat) (M N : Nat), vs = [.ref l] ∧ RS K H l a ∧ a.length ≤ 100 ∧ (∀ i, Fr M N (cf a i)) ∧ 0 < M ∧ M < 2 ^ 8700 ∧ N < 2 ^ 8700 ∧
  ∀ (t l' : Addr) (b : Nat) (ns : List Int) (H' : Hp), Same H H' → H' t = some (.tup [.ref l', .int (b : Int)]) → RI H' l' ns → 0 < b → b ≤ M → ns.length = a.length → (∀ i, cf a i * (b : Rat) = ((ci ns i : Int) : Rat)) → (∀ i, (ci ns i).natAbs ≤ N) → Q (.ref t) H'
section
variable {P : Program} {w : World} {K : PySem.W.Frag} {mg : Str → Option Value} {base : Heap} {CP CR CN CI : Addr}
abbrev sOver2 : Stmt := topS 38
theorem scOver2 : FnScope ["numbers", "below", "number", "top", "bottom"] ["numbers"] (defScope sOver2) := ⟨rfl, rfl, rfl, by decide +kernel, rfl, by decide +kernel, by decide +kernel⟩
theorem ok_over2 {f : Addr} {fd : FuncData} (F : Fun K "over_one_bottom" "over_one_bottom" sOver2 f fd) (hlcm : mg "lcm" = some (.builtin "math.lcm")) : FnOk P w K mg base CX0 1 f fd ["numbers"] (spOver2 K) := by
  refine F.ok scOver2 (fun vs H Q E h => ?_) (fun cdv A outer s H vs Q E hr h => ?_)
  · obtain ⟨l, a, M, N, rfl, _⟩ := h
    rfl
  · obtain ⟨l, a, M, N, rfl, ⟨as, hS, t1⟩, la, hF, hM, hM2, hN2, q⟩ := h
    refine ⟨_, (pss_cons (ps_set (i := 1) scOver2.nd rfl (Or.inr rfl) pe_int)
  (pss_cons (ps_for PassesOwn.never rfl (pi_seq (pv 0)) (pg_name (i := 2) scOver2.nd rfl (Or.inl rfl))
    (pss_one (ps_set (i := 1) scOver2.nd rfl (Or.inr rfl) (pe_callBfun cr_lcm (by rfl) hlcm (pa_cons (pv 1) (pa_cons (pe_ix ix_tup (pv 2) pe_int (fun _ _ => rfl)) pa_nil))))))
  (pss_one (ps_ret (pe_tup (pa_cons (pe_lc (own := [("top", 3), ("bottom", 4)]) (g := (gTup K 2 (gCons (gName 3) (gCons (gName 4) gNil)))) (tt := tYes) rfl scOver2.nd (pi_seq (pv 0)) (blkOk_by (N := ["numbers", "below", "number", "top", "bottom"]) (sc := defScope sOver2) (by decide +kernel)) (fun _ _ _ _ _ => pg_tup rfl (pgs_cons (pg_name (i := 3) scOver2.nd rfl (Or.inl rfl)) (pgs_cons (pg_name (i := 4) scOver2.nd rfl (Or.inl rfl)) pgs_nil))) (fun _ _ _ _ _ => pts_nil) (fun _ _ _ _ _ => (pe_op op_mulW (pv 3) (pe_op op_fdivW (pv 1) (pv 4))))) (pa_cons (pv 1) pa_nil))))))), ?_⟩
    have n1 := t1.lenQ
    have lm : (as.map V.ref).length = a.length := by rw [List.length_map, n1]
    have dM : ∀ i, (cf a i).den ∣ M := fun i => (hF i).den
    have hSS := hS
    let Pv : Nat → L2.St → Hp → Prop := fun i σ H' => ∃ (b : Nat) (v : Option V), σ = [some (.ref l), some (.int (b : Int)), v, none, none] ∧ Same H H' ∧ 0 < b ∧ b ∣ M ∧ ∀ j, j < i → (cf a j).den ∣ b
    refine ⟨_, rfl, l, rfl, ?_⟩
    have h0 : Pv 0 [some (.ref l), some (.int ((1 : Nat) : Int)), none, none, none] H := ⟨1, none, rfl, Same.refl _, by decide, Nat.one_dvd _, fun j hj => by omega⟩
    rcases hS with hS | hS
    · refine .inl ⟨_, hS, for_list (K := K) (a := l) (xs := as.map V.ref) Pv h0 (fun i σ H' _ ⟨_, _, _, ss, _⟩ => same_sqL ss hS) ?_ ?_⟩
      · rintro i x σ H' hi ⟨b, v, rfl, ss, b0, bi, dv⟩
        rw [List.getElem?_map] at hi
        cases hr0 : as[i]? with
        | none => rw [hr0] at hi; cases hi
        | some r =>
          rw [hr0] at hi
          cases hi
          obtain ⟨qq, hq1, hq2⟩ := t1.atQ hr0
          have hc := cf_get hq1
          have bM := Nat.le_of_dvd hM bi
          have hd : qq.den ≤ M := by rw [← hc]; exact Nat.le_of_dvd hM (dM i)
          have hd0 := qq.den_pos
          have up : ∀ {z : Nat}, z ≤ M → z < 2 ^ 8800 := fun h => Nat.lt_of_le_of_lt h (Nat.lt_trans hM2 (Nat.pow_lt_pow_right (by decide) (by decide)))
          refine ⟨_, rfl, _, rfl, r, _, _, .int (qq.den : Int), rfl, rfl, SqT.of (ss _ _ hq2), at_of (j := 1) rfl rfl, _, _, rfl, by rw [Int.natAbs_natCast]; exact up bM, by rw [Int.natAbs_natCast]; exact up hd, ?_⟩
          rw [Int.natAbs_natCast, Int.natAbs_natCast]
          refine ⟨b.lcm qq.den, _, rfl, ss, Nat.lcm_pos b0 hd0, Nat.lcm_dvd bi (by rw [← hc]; exact dM i), fun j hj => ?_⟩
          by_cases e : j = i
          · rw [e, hc]
            exact Nat.dvd_lcm_right _ _
          · exact Nat.dvd_trans (dv j (by omega)) (Nat.dvd_lcm_left _ _)
      · rintro σ H' ⟨b, v, rfl, ss, b0, bi, dv⟩
        rw [lm] at dv
        have bM := Nat.le_of_dvd hM bi
        have t1' := t1.same ss
        let g : Nat → Int := fun i => (cf a i).num * ((b : Int) / ((cf a i).den : Int))
        refine ⟨_, rfl, l, rfl, lc_seq (xs := as.map V.ref) (hSS.imp (same_sqL ss) (same_sqT ss)) (fun D i H2 => Same H' H2 ∧ H2 D = some (.lst ((tabI i g).map V.int))) ?_ ?_ ?_ ?_⟩
        · intro D hD
          exact ⟨same_upd hD, upd_same⟩
        · intro D i H2 hD ⟨s2, _⟩
          exact ⟨same_sqL s2, same_sqT s2⟩
        · intro D i x H2 hD hi ⟨s2, eD⟩
          rw [List.getElem?_map] at hi
          cases hr0 : as[i]? with
          | none => rw [hr0] at hi; cases hi
          | some r =>
            rw [hr0] at hi
            cases hi
            obtain ⟨qq, hq1, hq2⟩ := t1'.atQ hr0
            have hc := cf_get hq1
            have hi13 := (List.getElem?_eq_some_iff.mp hr0).1
            have h1 : (qq.num).natAbs < 2 ^ 8700 := by
              have := ((hF i).size hM).1
              rw [hc] at this
              exact Nat.lt_of_le_of_lt this hN2
            have h2 : ((b : Int) / (qq.den : Int)).natAbs < 2 ^ 8700 := by
              rw [← Int.natCast_ediv, Int.natAbs_natCast]
              exact Nat.lt_of_le_of_lt (Nat.le_trans (Nat.div_le_self _ _) bM) hM2
            refine ⟨r, _, rfl, SqT.of (s2 _ _ hq2), rfl, _, _, rfl, _, _, rfl, rfl, rfl, ?_⟩
            refine ⟨_, rfl, _, rfl, _, rfl, _, _, rfl, rfl, ?_, _, _, rfl, rfl, big_mulW h1 h2, ?_⟩
            · have := qq.den_pos
              refine ⟨by omega, ?_⟩
              rw [Int.natAbs_natCast]
              have h3 : qq.den < 2 ^ 8800 := Nat.lt_of_le_of_lt (show qq.den ≤ M by rw [← hc]; exact Nat.le_of_dvd hM (dM i)) (Nat.lt_trans hM2 (Nat.pow_lt_pow_right (by decide) (by decide)))
              exact Nat.lt_trans (log_4000 h3) (by decide)
            · refine ⟨_, eD, ?_, (fun b' o' e' => ?_), ?_⟩
              · rw [List.length_map, tabI_len, sizeLine_eq]
                omega
              · rw [upd_ne (ne_of_none e' hD)]
                exact s2 _ _ e'
              · rw [upd_same, tabI_snoc, List.map_append]
                show _ = some (HO.lst (_ ++ [V.int (g i)]))
                simp only [g, hc]
        · intro D H2 hD ⟨s2, eD⟩
          rw [lm] at eD
          refine ⟨_, rfl, (by show 2 ≤ sizeLine; decide), fun r nr => ?_⟩
          have s3 : Same H2 (upd H2 r (HO.tup [V.ref D, V.int (b : Int)])) := same_upd nr
          have ee : ∀ i, cf a i * (b : Rat) = ((ci (tabI a.length g) i : Int) : Rat) := fun i => by
            rw [ci_tab]
            by_cases hi : i < a.length
            · rw [if_pos hi]
              exact over_one (dv i hi)
            · rw [if_neg hi, cf_ge (by omega), Rat.zero_mul]
              rfl
          exact q r D b _ _ ((ss.trans s2).trans s3) upd_same (s3 _ _ eD) b0 bM (tabI_len _ _) ee fun i => (hF i).over bi hM (ee i)
    · refine .inr ⟨_, hS, for_tup (K := K) (a := l) (xs := as.map V.ref) Pv h0 (fun i σ H' _ ⟨_, _, _, ss, _⟩ => same_sqT ss hS) ?_ ?_⟩
      · rintro i x σ H' hi ⟨b, v, rfl, ss, b0, bi, dv⟩
        rw [List.getElem?_map] at hi
        cases hr0 : as[i]? with
        | none => rw [hr0] at hi; cases hi
        | some r =>
          rw [hr0] at hi
          cases hi
          obtain ⟨qq, hq1, hq2⟩ := t1.atQ hr0
          have hc := cf_get hq1
          have bM := Nat.le_of_dvd hM bi
          have hd : qq.den ≤ M := by rw [← hc]; exact Nat.le_of_dvd hM (dM i)
          have hd0 := qq.den_pos
          have up : ∀ {z : Nat}, z ≤ M → z < 2 ^ 8800 := fun h => Nat.lt_of_le_of_lt h (Nat.lt_trans hM2 (Nat.pow_lt_pow_right (by decide) (by decide)))
          refine ⟨_, rfl, _, rfl, r, _, _, .int (qq.den : Int), rfl, rfl, SqT.of (ss _ _ hq2), at_of (j := 1) rfl rfl, _, _, rfl, by rw [Int.natAbs_natCast]; exact up bM, by rw [Int.natAbs_natCast]; exact up hd, ?_⟩
          rw [Int.natAbs_natCast, Int.natAbs_natCast]
          refine ⟨b.lcm qq.den, _, rfl, ss, Nat.lcm_pos b0 hd0, Nat.lcm_dvd bi (by rw [← hc]; exact dM i), fun j hj => ?_⟩
          by_cases e : j = i
          · rw [e, hc]
            exact Nat.dvd_lcm_right _ _
          · exact Nat.dvd_trans (dv j (by omega)) (Nat.dvd_lcm_left _ _)
      · rintro σ H' ⟨b, v, rfl, ss, b0, bi, dv⟩
        rw [lm] at dv
        have bM := Nat.le_of_dvd hM bi
        have t1' := t1.same ss
        let g : Nat → Int := fun i => (cf a i).num * ((b : Int) / ((cf a i).den : Int))
        refine ⟨_, rfl, l, rfl, lc_seq (xs := as.map V.ref) (hSS.imp (same_sqL ss) (same_sqT ss)) (fun D i H2 => Same H' H2 ∧ H2 D = some (.lst ((tabI i g).map V.int))) ?_ ?_ ?_ ?_⟩
        · intro D hD
          exact ⟨same_upd hD, upd_same⟩
        · intro D i H2 hD ⟨s2, _⟩
          exact ⟨same_sqL s2, same_sqT s2⟩
        · intro D i x H2 hD hi ⟨s2, eD⟩
          rw [List.getElem?_map] at hi
          cases hr0 : as[i]? with
          | none => rw [hr0] at hi; cases hi
          | some r =>
            rw [hr0] at hi
            cases hi
            obtain ⟨qq, hq1, hq2⟩ := t1'.atQ hr0
            have hc := cf_get hq1
            have hi13 := (List.getElem?_eq_some_iff.mp hr0).1
            have h1 : (qq.num).natAbs < 2 ^ 8700 := by
              have := ((hF i).size hM).1
              rw [hc] at this
              exact Nat.lt_of_le_of_lt this hN2
            have h2 : ((b : Int) / (qq.den : Int)).natAbs < 2 ^ 8700 := by
              rw [← Int.natCast_ediv, Int.natAbs_natCast]
              exact Nat.lt_of_le_of_lt (Nat.le_trans (Nat.div_le_self _ _) bM) hM2
            refine ⟨r, _, rfl, SqT.of (s2 _ _ hq2), rfl, _, _, rfl, _, _, rfl, rfl, rfl, ?_⟩
            refine ⟨_, rfl, _, rfl, _, rfl, _, _, rfl, rfl, ?_, _, _, rfl, rfl, big_mulW h1 h2, ?_⟩
            · have := qq.den_pos
              refine ⟨by omega, ?_⟩
              rw [Int.natAbs_natCast]
              have h3 : qq.den < 2 ^ 8800 := Nat.lt_of_le_of_lt (show qq.den ≤ M by rw [← hc]; exact Nat.le_of_dvd hM (dM i)) (Nat.lt_trans hM2 (Nat.pow_lt_pow_right (by decide) (by decide)))
              exact Nat.lt_trans (log_4000 h3) (by decide)
            · refine ⟨_, eD, ?_, (fun b' o' e' => ?_), ?_⟩
              · rw [List.length_map, tabI_len, sizeLine_eq]
                omega
              · rw [upd_ne (ne_of_none e' hD)]
                exact s2 _ _ e'
              · rw [upd_same, tabI_snoc, List.map_append]
                show _ = some (HO.lst (_ ++ [V.int (g i)]))
                simp only [g, hc]
        · intro D H2 hD ⟨s2, eD⟩
          rw [lm] at eD
          refine ⟨_, rfl, (by show 2 ≤ sizeLine; decide), fun r nr => ?_⟩
          have s3 : Same H2 (upd H2 r (HO.tup [V.ref D, V.int (b : Int)])) := same_upd nr
          have ee : ∀ i, cf a i * (b : Rat) = ((ci (tabI a.length g) i : Int) : Rat) := fun i => by
            rw [ci_tab]
            by_cases hi : i < a.length
            · rw [if_pos hi]
              exact over_one (dv i hi)
            · rw [if_neg hi, cf_ge (by omega), Rat.zero_mul]
              rfl
          exact q r D b _ _ ((ss.trans s2).trans s3) upd_same (s3 _ _ eD) b0 bM (tabI_len _ _) ee fun i => (hF i).over bi hM (ee i)
end
end Vf
set_option maxRecDepth 100000
set_option maxHeartbeats 8000000
namespace Vf
open PySem PySem.Spec PyProof.Rows L2
theorem par_one {ta tb : TE} {i j : Nat} {D : Ends} {σ : L2.St} {H : Hp} (h : ta σ H fun v H1 => tb σ H1 fun w H2 => D.nx ((σ.set i (some v)).set j (some w)) H2) : tPar i j (tCons ta (tCons tb tNil)) D σ H := by
  show ta σ H fun v H1 => tb σ H1 fun w H2 => ∃ x y, [v, w] = [x, y] ∧ D.nx ((σ.set i (some x)).set j (some y)) H2
  have f : (fun v H1 => tb σ H1 fun w H2 => ∃ x y, [v, w] = [x, y] ∧ D.nx ((σ.set i (some x)).set j (some y)) H2) = (fun v H1 => tb σ H1 fun w H2 => D.nx ((σ.set i (some v)).set j (some w)) H2) := by
    funext v H1
    congr 1
    funext w H2
    refine propext ⟨fun ⟨x, y, e, h⟩ => ?_, fun h => ⟨v, w, rfl, h⟩⟩
    cases e
    exact h
  rw [f]
  exact h
theorem par_two {ta tb : TE} {i j : Nat} {rest : TS} {D : Ends} {σ : L2.St} {H : Hp} (h : ta σ H fun v H1 => tb σ H1 fun w H2 => rest D ((σ.set i (some v)).set j (some w)) H2) : tSeq (tPar i j (tCons ta (tCons tb tNil))) rest D σ H := par_one (D := { D with nx := rest D }) h
def Hb (k : Nat) (q : Rat) : Prop := q.num.natAbs ≤ 2 ^ k ∧ q.den ≤ 2 ^ k
theorem Hb.of {k M N : Nat} {q : Rat} (h : Fr M N q) (hM : 0 < M) (h1 : M ≤ 2 ^ k) (h2 : N ≤ 2 ^ k) : Hb k q := by
  obtain ⟨a, b⟩ := h.size hM
  exact ⟨Nat.le_trans a h2, Nat.le_trans b h1⟩
theorem Hb.fr {k : Nat} {q : Rat} (h : Hb k q) : Fr q.den (2 ^ k) q := (Fr.self q).le h.1
theorem Hb.mul {i j : Nat} {a b : Rat} (ha : Hb i a) (hb : Hb j b) : Hb (i + j) (a * b) := by
  refine Hb.of (ha.fr.mul hb.fr) (Nat.mul_pos a.den_pos b.den_pos) ?_ ?_ <;> rw [Nat.pow_add]
  · exact Nat.mul_le_mul ha.2 hb.2
  · exact Nat.le_refl _
theorem Hb.add {i j : Nat} {a b : Rat} (ha : Hb i a) (hb : Hb j b) : Hb (i + j + 1) (a + b) := by
  have h2 : Fr (a.den * b.den) (2 ^ j * a.den) b := by rw [Nat.mul_comm a.den]; exact hb.fr.scale _
  refine Hb.of ((ha.fr.scale b.den).add h2) (Nat.mul_pos a.den_pos b.den_pos) ?_ ?_
  · rw [Nat.pow_succ, Nat.pow_add]
    exact Nat.le_trans (Nat.mul_le_mul ha.2 hb.2) (Nat.le_mul_of_pos_right _ (by decide))
  · have e1 : 2 ^ i * b.den ≤ 2 ^ i * 2 ^ j := Nat.mul_le_mul_left _ hb.2
    have e2 : 2 ^ j * a.den ≤ 2 ^ i * 2 ^ j := by rw [Nat.mul_comm (2 ^ i)]; exact Nat.mul_le_mul_left _ ha.2
    rw [Nat.pow_succ, Nat.pow_add]
    omega
theorem Hb.one : Hb 0 1 := ⟨by decide, by decide⟩
theorem Hb.sr {k : Nat} {q : Rat} (h : Hb k q) (hk : k < 4300) : Sr q :=
  ⟨Nat.lt_of_le_of_lt h.1 (Nat.pow_lt_pow_right (by decide) hk), Nat.lt_of_le_of_lt h.2 (Nat.pow_lt_pow_right (by decide) hk)⟩
theorem Hb.int {z : Int} {k : Nat} (h : z.natAbs ≤ 2 ^ k) : Hb k (z : Rat) := ⟨h, Nat.pow_pos (by decide)⟩
end Vf
set_option maxRecDepth 100000
set_option maxHeartbeats 8000000
namespace Vf
open PySem PySem.Spec PyProof.Rows L2
theorem sr_z2 {q : Rat} (h : Sr q) : Z2 q := ⟨h.1, by show (q.den : Int).natAbs < _; rw [Int.natAbs_natCast]; exact h.2⟩
theorem mem_tab {n : Nat} {f : Nat → Rat} {q : Rat} (h : q ∈ tab n f) : ∃ i, q = f i := by
  unfold tab at h
  obtain ⟨i, _, e⟩ := List.mem_map.mp h
  exact ⟨i, e.symm⟩
theorem RS.ofT {K : PySem.W.Frag} {H : Hp} {l : Addr} {as : List Addr} {qs : List Rat} (h : SqT K H l (as.map V.ref)) (t : Tups H as (qs.map pq)) : RS K H l qs := ⟨as, .inr h, t⟩
section
variable {P : Program} {w : World} {K : PySem.W.Frag} {mg : Str → Option Value} {base : Heap} {CP CR CN : Addr}
/-- a suite that is never come to -/
theorem pss_no {X : Cx} {body : List Stmt} : PSs X body (fun _ _ _ => False) := ⟨fun _ _ _ _ _ _ h => h.elim⟩
end
end Vf
set_option maxRecDepth 100000
set_option maxHeartbeats 8000000
namespace Vf
open PySem PySem.Spec PyProof.Rows L2
def spPOv (K : PySem.W.Frag) (CP : Addr) : Sp := fun vs H Q _ => ∃ (l : Addr) (ns : List Int) (M : Int) (qs : List Rat), vs = [.ref l, .int M] ∧ RI H l ns ∧ 0 < M ∧ M.natAbs < 2 ^ big ∧ ns.length ≤ 1000 ∧ qs.length = ns.length ∧ (∀ i, cf qs i * (M : Rat) = ((ci ns i : Int) : Rat)) ∧
  ∀ (x : Addr) (H' : Hp), Same H H' → PolyQ K CP H' x (stripQ qs) → Q (.ref x) H'
section
variable {P : Program} {w : World} {K : PySem.W.Frag} {mg : Str → Option Value} {base : Heap} {CP CR CN : Addr}
abbrev sPOv : Stmt := topS 39
theorem scPOv : FnScope ["row", "bottom", "top"] ["row", "bottom"] (defScope sPOv) := ⟨rfl, rfl, rfl, by decide +kernel, rfl, by decide +kernel, by decide +kernel⟩
theorem ok_pov {f : Addr} {fd : FuncData} (F : Fun K "poly_over" "poly_over" sPOv f fd) (PM : PoM P w K mg base CP CR) : FnOk P w K mg base (L2.CX P w) 7 f fd ["row", "bottom"] (spPOv K CP) := by
  refine F.okX scPOv (fun vs H Q E h => ?_) (fun cdv A0 outer s H vs Q E hr h => ?_)
  · obtain ⟨l, ns, M, qs, rfl, _⟩ := h
    rfl
  · obtain ⟨l, ns, M, qs, rfl, el, M0, Mb, ln, lq, hc, q⟩ := h
    refine ⟨_, (pss_one (ps_ret (pe_make PM.mkI PM.okI (hr.mono (by decide)) rfl PM.C.m PM.bI .nil passL (pa_cons (pe_lc (own := [("top", 2)]) (g := gName 2) (tt := tYes) rfl scPOv.nd (pi_seq (pv 0)) (blkOk_by (N := ["row", "bottom", "top"]) (sc := defScope sPOv) (by decide +kernel)) (fun _ _ _ _ _ => pg_name (i := 2) scPOv.nd rfl (Or.inl rfl)) (fun _ _ _ _ _ => pts_nil) (fun _ _ _ _ _ => (pe_tup (pa_cons (pv 2) (pa_cons (pv 1) pa_nil))))) pa_nil)))), ?_⟩
    refine ⟨_, rfl, l, rfl, lc_seq (xs := ns.map V.int) (.inl (SqL.of el)) (fun D i H' => Same H H' ∧ ∃ zs, H' D = some (.lst (zs.map V.ref)) ∧ Tups H' zs ((tabI i (ci ns)).map fun n => (n, M))) ?_ ?_ ?_ ?_⟩
    · intro D hD
      exact ⟨same_upd hD, [], upd_same, .nil⟩
    · intro D i H2 hD ⟨s2, _⟩
      exact ⟨same_sqL s2, same_sqT s2⟩
    · intro D i x H' hD hi ⟨ss, zs, eD, tz⟩
      have hi' : i < ns.length := by
        have := (List.getElem?_eq_some_iff.mp hi).1
        rw [List.length_map] at this
        exact this
      rw [RI.at (H := H) (l := l) hi'] at hi
      cases hi
      refine ⟨rfl, ?_⟩
      refine ⟨_, rfl, _, rfl, (by show 2 ≤ sizeLine; decide), fun t nt => ?_⟩
      have et : upd H' t (HO.tup [V.int (ci ns i), V.int M]) t = some (HO.tup [V.int (ci ns i), V.int M]) := upd_same
      have st : Same H' (upd H' t (HO.tup [V.int (ci ns i), V.int M])) := same_upd nt
      generalize upd H' t (HO.tup [V.int (ci ns i), V.int M]) = H4 at et st ⊢
      have eD' := st _ _ eD
      refine ⟨_, eD', ?_, (fun b' o' e' => ?_), zs ++ [t], ?_, ?_⟩
      · have := tz.len
        rw [List.length_map, tabI_len] at this
        rw [List.length_map, sizeLine_eq]
        omega
      · rw [upd_ne (ne_of_none e' hD)]
        exact st _ _ (ss _ _ e')
      · rw [upd_same, List.map_append]
        rfl
      · rw [tabI_snoc, List.map_append]
        have up : ∀ (c : Addr) (p : Int × Int), H4 c = some (.tup [.int p.1, .int p.2]) → upd H4 D (.lst (zs.map V.ref ++ [V.ref t])) c = some (.tup [.int p.1, .int p.2]) := fun c p z => by
          rw [upd_ne (ne_of z eD' (by intro z; cases z))]
          exact z
        exact ((tz.same st).imp up).snoc (up t (ci ns i, M) et)
    · intro D H' hD ⟨ss, zs, eD, tz⟩
      rw [List.length_map] at tz
      refine poly_row (qs := qs) ⟨zs, eD, tz⟩ (by rw [List.length_map, tabI_len]; exact ln) (fun p hp => ?_) ?_ fun x H2 s3 nx made => q x H2 (ss.trans s3) made
      · obtain ⟨n, _, rfl⟩ := List.mem_map.mp hp
        exact ⟨M0, Mb⟩
      · refine List.ext_getElem? fun i => ?_
        unfold tabI
        rw [List.map_map, List.map_map, List.getElem?_map, List.getElem?_map]
        by_cases h : i < ns.length
        · rw [List.getElem?_range h, List.getElem?_eq_getElem (show i < qs.length by omega)]
          show some (low (ci ns i) M) = some (pq qs[i])
          rw [← cf_lt (show i < qs.length by omega), low_mul (by omega) (hc i)]
        · rw [List.getElem?_eq_none_iff.mpr (by rw [List.length_range]; omega), List.getElem?_eq_none_iff.mpr (by omega)]
          rfl
end
section
variable {P : Program} {w : World} {K : PySem.W.Frag} {mg : Str → Option Value} {base : Heap} {CP CR CN : Addr}
theorem pe_fldK {X : Cx} {e : Expr} {f : Str} {pos : Pos} {ta : TE} {K : PySem.W.Frag} (hk : X.K = K) (he : PE X e ta) (hb : attributeBase e f X.env (eval e X.env) = eval e X.env) : PE X (.Attribute e f pos) (tFld K ta f) := by
  subst hk
  exact pe_fld he hb
end
end Vf
set_option maxRecDepth 100000
set_option maxHeartbeats 8000000
namespace Vf
open PySem PySem.Spec PyProof.Rows L2
theorem cut1 (xs : List V) : cutV xs (some 1) none = xs.drop 1 := by
  unfold cutV
  have e : HT.sIx xs.length 0 (some 1) = min 1 xs.length := by
    unfold HT.sIx
    simp
    try omega
  have e2 : HT.sIx xs.length xs.length none = xs.length := rfl
  rw [e, e2]
  cases xs with
  | nil => rfl
  | cons x l =>
    have m : min 1 (x :: l).length = 1 := by rw [List.length_cons]; omega
    rw [m]
    show (l.take ((x :: l).length - 1)) = l
    rw [List.length_cons, Nat.add_sub_cancel]
    exact List.take_length
theorem at_neg {xs : List V} {x : V} {i : Int} {n : Nat} (hi : i < 0) (h : xs[n]? = some x) (hl : (xs.length : Int) + i = n) : atI xs i = some x := by
  unfold atI ixN
  rw [if_neg (by omega), if_pos (by omega)]
  show xs[(i + xs.length).toNat]? = _
  rw [show (i + xs.length).toNat = n by omega]
  exact h
end Vf
set_option maxRecDepth 100000
namespace Vf
theorem pigeon : ∀ (m n : Nat) (f : Nat → Nat), m < n → (∀ i, i < n → f i < m) → ∃ i j, i < j ∧ j < n ∧ f i = f j
  | 0, n, f, h, hf => by have := hf 0 (by omega); omega
  | m + 1, n, f, h, hf => by
    by_cases hx : ∃ i, i < n ∧ f i = m
    · obtain ⟨i, hi, ei⟩ := hx
      by_cases hy : ∃ j, j < n ∧ j ≠ i ∧ f j = m
      · obtain ⟨j, hj, ne, ej⟩ := hy
        rcases Nat.lt_or_ge i j with z | z
        · exact ⟨i, j, z, hj, by rw [ei, ej]⟩
        · exact ⟨j, i, by omega, hi, by rw [ei, ej]⟩
      · have nj : ∀ j, j < n → j ≠ i → f j < m := fun j hj ne => by
          have h1 := hf j hj
          have h2 : f j ≠ m := fun z => hy ⟨j, hj, ne, z⟩
          omega
        -- the others, the last in the place of i
        obtain ⟨a, b, ab, hb, e⟩ := pigeon m (n - 1) (fun k => if k = i then f (n - 1) else f k) (by omega) fun k hk => by
          split
          · exact nj _ (by omega) (by omega)
          · exact nj _ (by omega) (by omega)
        by_cases ha : a = i
        · rw [if_pos ha, if_neg (by omega)] at e
          exact ⟨b, n - 1, hb, by omega, e.symm⟩
        · rw [if_neg ha] at e
          by_cases hbi : b = i
          · rw [if_pos hbi] at e
            exact ⟨a, n - 1, by omega, by omega, e⟩
          · rw [if_neg hbi] at e
            exact ⟨a, b, ab, by omega, e⟩
    · obtain ⟨a, b, ab, hb, e⟩ := pigeon m n f (by omega) fun i hi => by
        have h1 := hf i hi
        have h2 : f i ≠ m := fun z => hx ⟨i, hi, z⟩
        omega
      exact ⟨a, b, ab, hb, e⟩
/-- x + y times the root of 3, to the power n, for 2 + root -/
def lx : Nat → Int × Int
  | 0 => (1, 0)
  | n + 1 => (2 * (lx n).1 + 3 * (lx n).2, (lx n).1 + 2 * (lx n).2)
theorem lx_add (m : Nat) : ∀ n, lx (m + n) = ((lx m).1 * (lx n).1 + 3 * ((lx m).2 * (lx n).2), (lx m).1 * (lx n).2 + (lx m).2 * (lx n).1)
  | 0 => by
    show lx m = _
    simp [lx]
  | n + 1 => by
    show (2 * (lx (m + n)).1 + 3 * (lx (m + n)).2, (lx (m + n)).1 + 2 * (lx (m + n)).2) = _
    rw [lx_add m n]
    show _ = ((lx m).1 * (2 * (lx n).1 + 3 * (lx n).2) + 3 * ((lx m).2 * ((lx n).1 + 2 * (lx n).2)), (lx m).1 * ((lx n).1 + 2 * (lx n).2) + (lx m).2 * (2 * (lx n).1 + 3 * (lx n).2))
    refine Prod.ext ?_ ?_ <;> grind
theorem lx_norm : ∀ n, (lx n).1 * (lx n).1 - 3 * ((lx n).2 * (lx n).2) = 1
  | 0 => by decide
  | n + 1 => by
    have := lx_norm n
    show (2 * (lx n).1 + 3 * (lx n).2) * (2 * (lx n).1 + 3 * (lx n).2) - 3 * (((lx n).1 + 2 * (lx n).2) * ((lx n).1 + 2 * (lx n).2)) = 1
    grind
/-- the number stands for a pair, by q -/
def lcode (q : Nat) (n : Nat) : Nat := ((lx n).1 % (q : Int)).toNat * q + ((lx n).2 % (q : Int)).toNat
theorem lcode_lt {q : Nat} (hq : 0 < q) (n : Nat) : lcode q n < q * q := by
  unfold lcode
  have h0 : (0 : Int) < q := by omega
  have h1 := Int.emod_lt_of_pos (lx n).1 h0
  have h2 := Int.emod_lt_of_pos (lx n).2 h0
  have h3 := Int.emod_nonneg (lx n).1 (show (q : Int) ≠ 0 by omega)
  have h4 := Int.emod_nonneg (lx n).2 (show (q : Int) ≠ 0 by omega)
  generalize (lx n).1 % (q : Int) = a at *
  generalize (lx n).2 % (q : Int) = b at *
  have e1 : a.toNat + 1 ≤ q := by omega
  have e2 : b.toNat < q := by omega
  have := Nat.mul_le_mul_right q e1
  rw [Nat.add_mul, Nat.one_mul] at this
  omega
theorem lcode_eq {q m n : Nat} (hq : 0 < q) (h : lcode q m = lcode q n) : (q : Int) ∣ (lx m).1 - (lx n).1 ∧ (q : Int) ∣ (lx m).2 - (lx n).2 := by
  unfold lcode at h
  have h0 : (0 : Int) < q := by omega
  have key : ∀ {a b c d : Nat}, b < q → d < q → a * q + b = c * q + d → a = c ∧ b = d := fun {a b c d} hb hd e => by
    have h1 : (a * q + b) / q = (c * q + d) / q := by rw [e]
    have h2 : (a * q + b) / q = a := by rw [Nat.mul_comm, Nat.mul_add_div hq, Nat.div_eq_of_lt hb, Nat.add_zero]
    have h3 : (c * q + d) / q = c := by rw [Nat.mul_comm, Nat.mul_add_div hq, Nat.div_eq_of_lt hd, Nat.add_zero]
    rw [h2, h3] at h1
    subst h1
    exact ⟨rfl, by omega⟩
  have lt : ∀ z : Int, (z % (q : Int)).toNat < q := fun z => by
    have := Int.emod_lt_of_pos z h0
    have := Int.emod_nonneg z (show (q : Int) ≠ 0 by omega)
    omega
  obtain ⟨e1, e2⟩ := key (lt _) (lt _) h
  have back : ∀ {a b : Int}, (a % (q : Int)).toNat = (b % (q : Int)).toNat → (q : Int) ∣ a - b := fun {a b} e => by
    have := Int.emod_nonneg a (show (q : Int) ≠ 0 by omega)
    have := Int.emod_nonneg b (show (q : Int) ≠ 0 by omega)
    have h1 := Int.mul_ediv_add_emod a q
    have h2 := Int.mul_ediv_add_emod b q
    have h3 : a % (q : Int) = b % (q : Int) := by omega
    exact ⟨a / q - b / q, by grind⟩
  exact ⟨back e1, back e2⟩
/-- n is a power that comes to 1 -/
def LOne (q : Int) (n : Nat) : Prop := q ∣ (lx n).1 - 1 ∧ q ∣ (lx n).2
def LNeg (q : Int) (n : Nat) : Prop := q ∣ (lx n).1 + 1 ∧ q ∣ (lx n).2
theorem LOne.mul {q : Int} {n : Nat} (h : LOne q n) : ∀ k, LOne q (k * n)
  | 0 => by rw [Nat.zero_mul]; exact ⟨⟨0, by simp [lx]⟩, ⟨0, by simp [lx]⟩⟩
  | k + 1 => by
    obtain ⟨⟨c, hc⟩, d, hd⟩ := LOne.mul h k
    obtain ⟨⟨a, ha⟩, b, hb⟩ := h
    rw [Nat.add_mul, Nat.one_mul]
    unfold LOne
    rw [lx_add]
    refine ⟨⟨a * (lx (k * n)).1 + c + 3 * (d * (lx n).2), ?_⟩, ⟨(lx (k * n)).1 * b + d * (lx n).1, ?_⟩⟩ <;> grind
theorem LNeg.sq {q : Int} {n : Nat} (h : LNeg q n) : LOne q (2 * n) := by
  obtain ⟨⟨a, ha⟩, b, hb⟩ := h
  rw [Nat.two_mul]
  unfold LOne
  rw [lx_add]
  refine ⟨⟨a * ((lx n).1 - 1) + 3 * (b * (lx n).2), ?_⟩, ⟨(lx n).1 * b + b * (lx n).1, ?_⟩⟩ <;> grind
theorem LNeg.odd {q : Int} {n : Nat} (h : LNeg q n) (k : Nat) : LNeg q ((2 * k + 1) * n) := by
  obtain ⟨⟨c, hc⟩, d, hd⟩ := (h.sq).mul k
  obtain ⟨⟨a, ha⟩, b, hb⟩ := h
  rw [show (2 * k + 1) * n = k * (2 * n) + n by rw [Nat.add_mul, Nat.one_mul, Nat.mul_comm 2 k, Nat.mul_assoc]]
  unfold LNeg
  rw [lx_add]
  refine ⟨⟨c * (lx n).1 + a + 3 * (d * (lx n).2), ?_⟩, ⟨(lx (k * (2 * n))).1 * b + d * (lx n).1, ?_⟩⟩ <;> grind
theorem two_odd : ∀ k : Nat, 0 < k → ∃ a m, k = 2 ^ a * (2 * m + 1) := fun k => by
  induction k using Nat.strongRecOn with
  | _ k ih =>
    intro hk
    rcases Nat.mod_two_eq_zero_or_one k with h | h
    · obtain ⟨a, m, e⟩ := ih (k / 2) (by omega) (by omega)
      refine ⟨a + 1, m, ?_⟩
      rw [Nat.pow_succ, Nat.mul_comm (2 ^ a) 2, Nat.mul_assoc, ← e]
      omega
    · exact ⟨0, k / 2, by rw [Nat.pow_zero, Nat.one_mul]; omega⟩
/-- no divisor whose square is below 2 ^ q -/
theorem ll_no {q n : Nat} (hq : 1 < q) (hodd : q % 2 = 1) (hs : q * q < 2 ^ (n + 1)) (h : LNeg (q : Int) (2 ^ n)) : False := by
  obtain ⟨i, j, ij, hj, e⟩ := pigeon (q * q) (2 ^ (n + 1)) (lcode q) hs fun i _ => lcode_lt (by omega) i
  obtain ⟨⟨a, ha⟩, b, hb⟩ := lcode_eq (by omega) e
  obtain ⟨k, rfl⟩ : ∃ k, j = i + k := ⟨j - i, by omega⟩
  have hk : LOne (q : Int) k := by
    have nn := lx_norm i
    rw [lx_add] at ha hb
    dsimp only at ha hb
    generalize (lx i).1 = x at *
    generalize (lx i).2 = y at *
    unfold LOne
    generalize (lx k).1 = u at *
    generalize (lx k).2 = v at *
    refine ⟨⟨3 * (y * b) - x * a, ?_⟩, ⟨y * a - x * b, ?_⟩⟩ <;> grind
  have k0 : 0 < k := by omega
  obtain ⟨s, m, rfl⟩ := two_odd k k0
  have hs2 : s ≤ n := by
    have h1 : 2 ^ s ≤ 2 ^ s * (2 * m + 1) := Nat.le_mul_of_pos_right _ (by omega)
    have h2 : 2 ^ s < 2 ^ (n + 1) := by omega
    have := (Nat.pow_lt_pow_iff_right (by decide : 1 < 2)).mp h2
    omega
  -- the power 2 ^ n (2 m + 1) comes to 1 and to - 1
  have h1 := hk.mul (2 ^ (n - s))
  have h2 := h.odd m
  rw [show 2 ^ (n - s) * (2 ^ s * (2 * m + 1)) = (2 * m + 1) * 2 ^ n by
    rw [← Nat.mul_assoc, ← Nat.pow_add, show n - s + s = n by omega, Nat.mul_comm]] at h1
  obtain ⟨⟨c, hc⟩, _⟩ := h1
  obtain ⟨⟨d, hd⟩, _⟩ := h2
  have h3 : (q : Int) ∣ 2 := ⟨d - c, by grind⟩
  have h4 : q ∣ 2 := by exact_mod_cast h3
  have := Nat.le_of_dvd (by decide) h4
  omega
def ll (M : Nat) : Nat → Nat → Nat
  | 0, s => s
  | n + 1, s => ll M n ((s ^ 2 + (M - 2)) % M)
theorem ll_tells {M : Nat} (hM : 2 ≤ M) : ∀ (n i s : Nat), (M : Int) ∣ 2 * (lx (2 ^ i)).1 - s → (M : Int) ∣ 2 * (lx (2 ^ (i + n))).1 - (ll M n s : Nat)
  | 0, i, s, h => h
  | n + 1, i, s, h => by
    show _ ∣ 2 * (lx (2 ^ (i + (n + 1)))).1 - ((ll M n ((s ^ 2 + (M - 2)) % M) : Nat) : Int)
    rw [show i + (n + 1) = i + 1 + n by omega]
    refine ll_tells hM n (i + 1) _ ?_
    obtain ⟨a, ha⟩ := h
    have nn := lx_norm (2 ^ i)
    rw [Nat.pow_succ, Nat.mul_two, lx_add]
    dsimp only
    have e : (((s ^ 2 + (M - 2)) % M : Nat) : Int) = (s : Int) ^ 2 + ((M : Int) - 2) - M * (((s : Int) ^ 2 + ((M : Int) - 2)) / M) := by
      rw [Int.natCast_emod, Int.emod_def, Int.natCast_add, Int.natCast_pow, Int.natCast_sub hM]
      rfl
    rw [e]
    generalize ((s : Int) ^ 2 + ((M : Int) - 2)) / M = z
    generalize (lx (2 ^ i)).1 = x at *
    generalize (lx (2 ^ i)).2 = y at *
    refine ⟨a * (2 * x + s) - 1 + z, ?_⟩
    grind
/-- each number that is not divided by it has no common divisor with it -/
def Pr (p : Nat) : Prop := 1 < p ∧ ∀ d, d ∣ p → d = 1 ∨ d = p
theorem Pr.cop {p z : Nat} (h : Pr p) (hz : ¬ p ∣ z) : Nat.gcd z p = 1 := by
  rcases h.2 (Nat.gcd z p) (Nat.gcd_dvd_right _ _) with e | e
  · exact e
  · exact absurd (e ▸ Nat.gcd_dvd_left z p) hz
theorem ll_prime {n : Nat} (h : ll (2 ^ (n + 2) - 1) n 4 = 0) : Pr (2 ^ (n + 2) - 1) := by
  have hp : 4 ≤ 2 ^ (n + 2) := by rw [Nat.pow_add]; have := Nat.two_pow_pos n; omega
  generalize hM : 2 ^ (n + 2) - 1 = M at h ⊢
  have h1 := ll_tells (M := M) (by omega) n 0 4 ⟨0, by rw [Int.mul_zero]; decide⟩
  rw [h, Nat.zero_add] at h1
  have odd : M % 2 = 1 := by
    have : 2 ^ (n + 2) = 2 * 2 ^ (n + 1) := by rw [Nat.pow_succ 2 (n + 1), Nat.mul_comm]
    omega
  -- half of it: - 1
  have neg : ∀ q : Nat, q ∣ M → LNeg (q : Int) (2 ^ (n + 1)) := fun q hq => by
    obtain ⟨a, ha⟩ := h1
    obtain ⟨c, hc⟩ := hq
    have qo : q % 2 = 1 := by
      rcases Nat.mod_two_eq_zero_or_one q with z | z
      · have : (q * c) % 2 = 0 := by rw [Nat.mul_mod, z]; simp
        omega
      · exact z
    have nn := lx_norm (2 ^ n)
    rw [Nat.pow_succ, Nat.mul_two]
    unfold LNeg
    rw [lx_add]
    dsimp only
    have hcI : (M : Int) = q * c := by rw [hc, Int.natCast_mul]
    generalize (lx (2 ^ n)).1 = x at *
    generalize (lx (2 ^ n)).2 = y at *
    rw [Int.natCast_zero, Int.sub_zero, hcI] at ha
    obtain ⟨r, hr⟩ : ∃ r : Int, (q : Int) = 2 * r + 1 := ⟨(q / 2 : Nat), by omega⟩
    -- 2 x is divided by q, so x is
    have hx : x = q * (x - r * (c * a)) := by
      have : x * q = q * (c * a) * r + x := by rw [hr]; grind
      grind
    generalize x - r * (c * a) = t at hx
    refine ⟨⟨2 * (t * x), ?_⟩, ⟨2 * (t * y), ?_⟩⟩ <;> grind
  refine ⟨by omega, fun d hd => ?_⟩
  obtain ⟨e, he⟩ := hd
  refine Decidable.byContradiction fun no => ?_
  have d1 : d ≠ 1 := fun z => no (.inl z)
  have dM : d ≠ M := fun z => no (.inr z)
  have d0 : 0 < d := by
    rcases Nat.eq_zero_or_pos d with z | z
    · rw [z, Nat.zero_mul] at he; omega
    · exact z
  have e0 : 0 < e := by
    rcases Nat.eq_zero_or_pos e with z | z
    · rw [z, Nat.mul_zero] at he; omega
    · exact z
  have e1 : e ≠ 1 := fun z => by rw [z, Nat.mul_one] at he; omega
  have od : ∀ q c : Nat, M = q * c → q % 2 = 1 := fun q c h => by
    rcases Nat.mod_two_eq_zero_or_one q with z | z
    · have : (q * c) % 2 = 0 := by rw [Nat.mul_mod, z]; simp
      omega
    · exact z
  have fin : ∀ q c : Nat, M = q * c → 1 < q → q ≤ c → False := fun q c h h1 h2 => by
    refine ll_no h1 (od q c h) (n := n + 1) ?_ (neg q ⟨c, h⟩)
    have := Nat.mul_le_mul_left q h2
    show q * q < 2 ^ (n + 2)
    generalize 2 ^ (n + 2) = z at *
    omega
  rcases Nat.le_total d e with h2 | h2
  · exact fin d e he (by omega) h2
  · exact fin e d (by rw [he, Nat.mul_comm]) (by omega) h2
theorem pr61 : Pr (2 ^ 61 - 1) := ll_prime (n := 59) (by decide +kernel)
theorem pr521 : Pr (2 ^ 521 - 1) := ll_prime (n := 519) (by decide +kernel)
theorem pr1279 : Pr (2 ^ 1279 - 1) := ll_prime (n := 1277) (by decide +kernel)
theorem pr2281 : Pr (2 ^ 2281 - 1) := ll_prime (n := 2279) (by decide +kernel)
theorem pr4423 : Pr (2 ^ 4423 - 1) := ll_prime (n := 4421) (by decide +kernel)
end Vf
set_option maxRecDepth 100000
namespace Vf
def si (f : Nat → Int) : Nat → Int
  | 0 => 0
  | n + 1 => si f n + f n
theorem si_ext {f g : Nat → Int} : ∀ {n : Nat}, (∀ i, i < n → f i = g i) → si f n = si g n
  | 0, _ => rfl
  | n + 1, h => by
    show si f n + f n = si g n + g n
    rw [si_ext fun i hi => h i (by omega), h n (by omega)]
theorem si_sub (f g : Nat → Int) : ∀ n, si (fun i => f i - g i) n = si f n - si g n
  | 0 => rfl
  | n + 1 => by
    show si _ n + (f n - g n) = si f n + f n - (si g n + g n)
    rw [si_sub f g n]; omega
theorem si_bd {f : Nat → Int} {B : Nat} : ∀ {n : Nat}, (∀ i, i < n → (f i).natAbs ≤ B) → (si f n).natAbs ≤ n * B
  | 0, _ => by simp [si]
  | n + 1, h => by
    show (si f n + f n).natAbs ≤ _
    have h1 := si_bd (n := n) fun i hi => h i (by omega)
    have h2 := h n (by omega)
    have h3 := Int.natAbs_add_le (si f n) (f n)
    rw [Nat.add_mul, Nat.one_mul]
    omega
theorem si_app (f : Nat → Int) (m : Nat) : ∀ n, si f (m + n) = si f m + si (fun i => f (m + i)) n
  | 0 => by show si f m = si f m + 0; omega
  | n + 1 => by
    show si f (m + n) + f (m + n) = si f m + (si _ n + f (m + n))
    rw [si_app f m n]; omega
theorem si_sm (f : Nat → Int) : ∀ n, ((si f n : Int) : Rat) = sm (fun i => ((f i : Int) : Rat)) n
  | 0 => rfl
  | n + 1 => by
    show ((si f n + f n : Int) : Rat) = sm _ n + _
    rw [Rat.intCast_add, si_sm f n]
/-- the digits of a number -/
def dig (b z k : Nat) : Nat := z / b ^ k % b
theorem dig_inj {b : Nat} (hb : 0 < b) : ∀ {n z y : Nat}, z < b ^ n → y < b ^ n → (∀ k, k < n → dig b z k = dig b y k) → z = y
  | 0, z, y, hz, hy, _ => by simp at hz hy; omega
  | n + 1, z, y, hz, hy, h => by
    have h0 := h 0 (by omega)
    unfold dig at h0
    rw [Nat.pow_zero, Nat.div_one, Nat.div_one] at h0
    have lt : ∀ z, z < b ^ (n + 1) → z / b < b ^ n := fun z hz => by
      rw [Nat.div_lt_iff_lt_mul hb, ← Nat.pow_succ]
      exact hz
    have h1 := dig_inj hb (lt z hz) (lt y hy) fun k hk => by
      have := h (k + 1) (by omega)
      unfold dig at this ⊢
      rw [Nat.pow_succ, Nat.mul_comm, ← Nat.div_div_eq_div_mul, ← Nat.div_div_eq_div_mul] at this
      exact this
    have h2 := Nat.div_add_mod z b
    have h3 := Nat.div_add_mod y b
    rw [← h2, ← h3, h0, h1]
def enc (B : Nat) (e : Nat → Nat) : Nat → Nat
  | 0 => 0
  | m + 1 => enc B e m * B + e m
theorem enc_lt {B : Nat} {e : Nat → Nat} : ∀ {m : Nat}, (∀ k, k < m → e k < B) → enc B e m < B ^ m
  | 0, _ => by simp [enc]
  | m + 1, h => by
    show enc B e m * B + e m < _
    have h1 := enc_lt (m := m) fun k hk => h k (by omega)
    have h2 := h m (by omega)
    have h3 := Nat.mul_le_mul_right B (show enc B e m + 1 ≤ B ^ m by omega)
    rw [Nat.add_mul, Nat.one_mul] at h3
    rw [Nat.pow_succ]
    omega
theorem enc_inj {B : Nat} {e f : Nat → Nat} : ∀ {m : Nat}, (∀ k, k < m → e k < B) → (∀ k, k < m → f k < B) → enc B e m = enc B f m → ∀ k, k < m → e k = f k
  | 0, _, _, _, k, hk => by omega
  | m + 1, he, hf, h, k, hk => by
    have h : enc B e m * B + e m = enc B f m * B + f m := h
    have e1 := he m (by omega)
    have f1 := hf m (by omega)
    have B0 : 0 < B := by omega
    have h1 : (enc B e m * B + e m) / B = (enc B f m * B + f m) / B := by rw [h]
    rw [Nat.mul_comm, Nat.mul_add_div B0, Nat.div_eq_of_lt e1, Nat.mul_comm, Nat.mul_add_div B0, Nat.div_eq_of_lt f1] at h1
    simp only [Nat.add_zero] at h1
    rw [h1] at h
    by_cases hkm : k = m
    · subst hkm; omega
    · exact enc_inj (fun k hk => he k (by omega)) (fun k hk => hf k (by omega)) h1 k (by omega)
theorem siegel {a : Nat → Nat → Int} {N M A X : Nat} (hA : ∀ i k, (a i k).natAbs ≤ A) (h : (2 * (N * (A * X)) + 1) ^ M < (X + 1) ^ N) :
    ∃ w : Nat → Int, (∀ k, (w k).natAbs ≤ X) ∧ (∃ k, k < N ∧ w k ≠ 0) ∧ ∀ i, i < M → si (fun k => a i k * w k) N = 0 := by
  let E : Nat → Nat → Int := fun z i => si (fun k => a i k * (dig (X + 1) z k : Nat)) N
  let e : Nat → Nat → Nat := fun z i => (E z i + ((N * (A * X) : Nat) : Int)).toNat
  have dl : ∀ z k, dig (X + 1) z k ≤ X := fun z k => by
    have := Nat.mod_lt (z / (X + 1) ^ k) (show 0 < X + 1 by omega)
    unfold dig
    omega
  have hE : ∀ z i, (E z i).natAbs ≤ N * (A * X) := fun z i => si_bd fun k _ => by
    rw [Int.natAbs_mul, Int.natAbs_natCast]
    exact Nat.mul_le_mul (hA i k) (dl z k)
  have he : ∀ z i, e z i < 2 * (N * (A * X)) + 1 := fun z i => by
    have := hE z i
    show (E z i + _).toNat < _
    omega
  obtain ⟨z, y, zy, hy, ez⟩ := pigeon _ _ (fun z => enc (2 * (N * (A * X)) + 1) (e z) M) h fun z _ => enc_lt fun k _ => he z k
  have hz := enc_inj (fun k _ => he z k) (fun k _ => he y k) ez
  refine ⟨fun k => (dig (X + 1) z k : Int) - (dig (X + 1) y k : Int), fun k => ?_, ?_, fun i hi => ?_⟩
  · have := dl z k
    have := dl y k
    dsimp only
    omega
  · refine Decidable.byContradiction fun no => ?_
    have := dig_inj (b := X + 1) (by omega) (show z < _ by omega) hy fun k hk => by
      refine Decidable.byContradiction fun ne => no ⟨k, hk, ?_⟩
      dsimp only
      omega
    omega
  · have h1 := hz i hi
    have h2 := hE z i
    have h3 := hE y i
    have h4 : E z i = E y i := by
      have : (E z i + ((N * (A * X) : Nat) : Int)).toNat = (E y i + ((N * (A * X) : Nat) : Int)).toNat := h1
      omega
    have h5 : si (fun k => a i k * ((dig (X + 1) z k : Int) - (dig (X + 1) y k : Int))) N = E z i - E y i := by
      rw [← si_sub]
      exact si_ext fun k _ => by rw [Int.mul_sub]
    dsimp only
    rw [h5, h4]
    omega
theorem siegel1 {a : Nat → Nat → Int} {M A : Nat} (hA : ∀ i k, (a i k).natAbs ≤ A) (A0 : 0 < A) :
    ∃ w : Nat → Int, (∀ k, (w k).natAbs ≤ (2 * ((M + 1) * A)) ^ M) ∧ (∃ k, k < M + 1 ∧ w k ≠ 0) ∧ ∀ i, i < M → si (fun k => a i k * w k) (M + 1) = 0 := by
  refine siegel hA ?_
  generalize hC : 2 * ((M + 1) * A) = C
  have hC0 : 0 < C := by have := Nat.mul_pos (show 0 < M + 1 by omega) A0; omega
  have h1 : 2 * ((M + 1) * (A * C ^ M)) + 1 ≤ C * (C ^ M + 1) := by
    rw [← hC, Nat.mul_add, Nat.mul_one]
    rw [show 2 * ((M + 1) * A) * (2 * ((M + 1) * A)) ^ M = 2 * ((M + 1) * (A * (2 * ((M + 1) * A)) ^ M)) by rw [Nat.mul_assoc, Nat.mul_assoc]]
    omega
  have h2 := Nat.pow_le_pow_left h1 M
  rw [Nat.mul_pow] at h2
  have h3 : 0 < (C ^ M + 1) ^ M := Nat.pow_pos (by omega)
  rw [Nat.pow_succ (C ^ M + 1) M, Nat.mul_add, Nat.mul_one, Nat.mul_comm ((C ^ M + 1) ^ M)]
  omega
/-- two rows of whole numbers, times rows of whole numbers: from h on nothing is left -/
theorem siegel_rows {o1 o2 : List Int} {m1 m2 h M A : Nat} (h1 : ∀ i, (ci o1 i).natAbs ≤ A) (h2 : ∀ i, (ci o2 i).natAbs ≤ A) (A0 : 0 < A) (hN : m2 + m1 = M + 1) :
    ∃ u v : List Int, u.length = m2 ∧ v.length = m1 ∧ (∀ i, (ci u i).natAbs ≤ (2 * ((M + 1) * A)) ^ M) ∧ (∀ i, (ci v i).natAbs ≤ (2 * ((M + 1) * A)) ^ M) ∧ (∃ i, ci u i ≠ 0 ∨ ci v i ≠ 0) ∧
      ∀ d, h ≤ d → d < h + M → cf (padd (pmul (qi u) (qi o1)) (pmul (qi v) (qi o2))) d = 0 := by
  let b : List Int → Nat → Nat → Int := fun o d k => if k ≤ d then ci o (d - k) else 0
  have hb : ∀ {o : List Int}, (∀ i, (ci o i).natAbs ≤ A) → ∀ d k, (b o d k).natAbs ≤ A := fun {o} ho d k => by
    show (if k ≤ d then ci o (d - k) else 0).natAbs ≤ A
    split
    · exact ho _
    · exact Nat.zero_le _
  obtain ⟨w, hw, ⟨k0, hk0, nz⟩, hz⟩ := siegel1 (a := fun i k => if k < m2 then b o1 (h + i) k else b o2 (h + i) (k - m2)) (M := M) (A := A) (fun i k => by
    split
    · exact hb h1 _ _
    · exact hb h2 _ _) A0
  have cu : ∀ (n : Nat) (f : Nat → Int) (i : Nat), (∀ k, (f k).natAbs ≤ (2 * ((M + 1) * A)) ^ M) → (ci (tabI n f) i).natAbs ≤ (2 * ((M + 1) * A)) ^ M := fun n f i hf => by
    rw [ci_tab]
    split
    · exact hf _
    · exact Nat.zero_le _
  have part : ∀ (n : Nat) (f : Nat → Int) (o : List Int) (d : Nat), cf (pmul (qi (tabI n f)) (qi o)) d = ((si (fun k => b o d k * f k) n : Int) : Rat) := fun n f o d => by
    rw [cf_pmul, si_sm]
    unfold pc
    let g : Nat → Rat := fun k => if k < n ∧ k ≤ d then ((ci o (d - k) * f k : Int) : Rat) else 0
    have e1 : sm (fun i => cf (qi (tabI n f)) i * cf (qi o) (d - i)) (d + 1) = sm g (d + 1) := sm_ext fun i hi => by
      show _ = if i < n ∧ i ≤ d then _ else _
      rw [cf_qi, cf_qi, ci_tab]
      by_cases z : i < n
      · rw [if_pos z, if_pos ⟨z, by omega⟩, Rat.intCast_mul]
        grind
      · rw [if_neg z, if_neg (fun y => z y.1)]
        rw [show ((0 : Int) : Rat) = 0 from rfl]
        grind
    have e2 : sm (fun i => ((b o d i * f i : Int) : Rat)) n = sm g n := sm_ext fun i hi => by
      show (((if i ≤ d then ci o (d - i) else 0) * f i : Int) : Rat) = if i < n ∧ i ≤ d then _ else _
      by_cases z : i ≤ d
      · rw [if_pos z, if_pos ⟨hi, z⟩]
      · rw [if_neg z, if_neg (fun y => z y.2), Int.zero_mul]
        rfl
    rw [e1, e2]
    have gz : ∀ i, ¬ (i < n ∧ i ≤ d) → g i = 0 := fun i z => if_neg z
    rw [← sm_more (m := max (d + 1) n) (Nat.le_max_left _ _) fun i hi _ => gz i (by omega), ← sm_more (n := n) (m := max (d + 1) n) (Nat.le_max_right _ _) fun i hi _ => gz i (by omega)]
  refine ⟨tabI m2 w, tabI m1 fun k => w (m2 + k), tabI_len _ _, tabI_len _ _, fun i => cu _ _ i hw, fun i => cu _ _ i fun k => hw _, ?_, fun d hd hd2 => ?_⟩
  · by_cases hk : k0 < m2
    · exact ⟨k0, .inl (by rw [ci_tab, if_pos hk]; exact nz)⟩
    · exact ⟨k0 - m2, .inr (by rw [ci_tab, if_pos (by omega), show m2 + (k0 - m2) = k0 by omega]; exact nz)⟩
  · have z := hz (d - h) (by omega)
    rw [show M + 1 = m2 + m1 from hN.symm, si_app] at z
    rw [cf_padd, part, part, ← Rat.intCast_add]
    have e1 : si (fun k => (if k < m2 then b o1 (h + (d - h)) k else b o2 (h + (d - h)) (k - m2)) * w k) m2 = si (fun k => b o1 d k * w k) m2 := si_ext fun i hi => by
      rw [if_pos hi, show h + (d - h) = d by omega]
    have e2 : si (fun i => (fun k => (if k < m2 then b o1 (h + (d - h)) k else b o2 (h + (d - h)) (k - m2)) * w k) (m2 + i)) m1 = si (fun k => b o2 d k * w (m2 + k)) m1 := si_ext fun i hi => by
      dsimp only
      rw [if_neg (by omega), show h + (d - h) = d by omega, show m2 + i - m2 = i by omega]
    rw [e1, e2] at z
    rw [z]
    rfl
end Vf
set_option maxRecDepth 100000
set_option maxRecDepth 100000
namespace Vf
theorem num_denQ (q : Rat) : q * ((q.den : Nat) : Rat) = ((q.num : Int) : Rat) := by
  obtain ⟨n, e, h⟩ := Fr.self q
  have h0 : (q.den : Rat) ≠ 0 := by
    have := q.den_nz
    exact_mod_cast this
  have z : (q.num : Rat) / (q.den : Rat) = q := by
    have := Rat.num_divInt_den q
    rw [Rat.divInt_eq_div] at this
    exact_mod_cast this
  have := Rat.div_mul_cancel (a := (q.num : Rat)) h0
  rw [z] at this
  exact this
/-- a row that is a power -/
structure PWr (f : Rat → Rat) (M N k : Nat) (P : List Rat) : Prop where
  len : P.length ≤ k + 1
  fr : ∀ i, Fr (M ^ k) (N ^ k) (cf P i)
  vl : ∀ x, ev P x = f x ^ k
theorem stripQ_le (l : List Rat) : (stripQ l).length ≤ l.length := stp_len (stripQ_stp l) (cf_stripQ l)
theorem pmul_len (a b : List Rat) : (pmul a b).length = a.length + b.length - 1 := by unfold pmul; rw [tab_len]
theorem pmul_fr {a b : List Rat} {M N M' N' : Nat} (ha : ∀ i, Fr M N (cf a i)) (hb : ∀ i, Fr M' N' (cf b i)) (hl : a.length + b.length ≤ 32) (i : Nat) : Fr (M * M') (32 * (N * N')) (cf (pmul a b) i) := by
  by_cases h : i + 1 ≤ 32
  · rw [cf_pmul]
    unfold pc
    exact (sm_fr fun j _ => (ha j).mul (hb _)).le (Nat.mul_le_mul_right _ h)
  · rw [cf_ge (by rw [pmul_len]; omega)]
    exact Fr.zero _ _
theorem PWr.next {f : Rat → Rat} {M N0 N k : Nat} {P u : List Rat} (h : PWr f M N k P) (hu : u.length ≤ 2) (hf : ∀ i, Fr M N0 (cf u i)) (hN : N = 32 * N0) (he : ∀ x, ev u x = f x) (hk : k ≤ 20) : PWr f M N (k + 1) (stripQ (pmul P u)) where
  len := by
    have := stripQ_le (pmul P u)
    rw [pmul_len] at this
    have := h.len
    omega
  fr := fun i => by
    rw [cf_stripQ, Nat.pow_succ, Nat.pow_succ]
    have := h.len
    have z := pmul_fr h.fr hf (by omega) i
    rw [hN] at *
    rw [show 32 * ((32 * N0) ^ k * N0) = (32 * N0) ^ k * (32 * N0) from by rw [Nat.mul_left_comm]] at z
    exact z
  vl := fun x => by rw [ev_stripQ, ev_pmul, h.vl, he, Rat.pow_succ]
end Vf
set_option maxRecDepth 100000
namespace Vf
theorem ne_last {l : List Rat} (h : Stp l) (hn : l ≠ []) : cf l (l.length - 1) ≠ 0 := stp_last h (List.length_pos_iff.mpr hn)
theorem top_pmul {A B : List Rat} {a b : Nat} (hA : A.length ≤ a + 1) (hB : B.length ≤ b + 1) : cf (pmul A B) (a + b) = cf A a * cf B b := by
  rw [cf_pmul]
  unfold pc
  rw [sm_more (n := a + 1) (m := a + b + 1) (by omega) fun i hi _ => by rw [cf_ge (l := A) (by omega), Rat.zero_mul]]
  show sm _ a + cf A a * cf B (a + b - a) = _
  rw [sm_zero fun i hi => by rw [cf_ge (l := B) (by omega), Rat.mul_zero], Nat.add_sub_cancel_left, Rat.zero_add]
theorem sq_len {l : List Rat} {n : Nat} (h : ∀ i, n ≤ i → cf l i = 0) : (stripQ l).length ≤ n := by
  refine Decidable.byContradiction fun no => ?_
  have := stp_last (stripQ_stp l) (by omega)
  rw [cf_stripQ] at this
  exact this (h _ (by omega))
theorem sq_eq {l : List Rat} {n : Nat} (h : ∀ i, n + 1 ≤ i → cf l i = 0) (h2 : cf l n ≠ 0) : (stripQ l).length = n + 1 := by
  have h1 := sq_len h
  have h3 : ¬ (stripQ l).length ≤ n := fun z => h2 (by rw [← cf_stripQ]; exact cf_ge z)
  omega
theorem cf_of {A B : List Rat} (h : ∀ x, ev A x = ev B x) (i : Nat) : cf A i = cf B i := ev_inj (fun x _ => h x) i
theorem ev_nil' {l : List Rat} (h : stripQ l = []) (x : Rat) : ev l x = 0 := by
  rw [← ev_stripQ, h]; rfl
theorem len_mul {A B Z : List Rat} (hA : Stp A) (hB : Stp B) (nA : A ≠ []) (nB : B ≠ []) (h : ∀ x, ev Z x = ev A x * ev B x) : A.length + B.length ≤ Z.length + 1 := by
  have lA := List.length_pos_iff.mpr nA
  have lB := List.length_pos_iff.mpr nB
  refine Decidable.byContradiction fun no => ?_
  have e : cf Z (A.length - 1 + (B.length - 1)) = cf (pmul A B) (A.length - 1 + (B.length - 1)) := cf_of (fun x => by rw [h, ev_pmul]) _
  rw [top_pmul (by omega) (by omega), cf_ge (by omega)] at e
  rcases Rat.mul_eq_zero.mp e.symm with z | z
  · exact ne_last hA nA z
  · exact ne_last hB nB z
theorem len_mul_eq {A B Z : List Rat} (hA : Stp A) (hB : Stp B) (hZ : Stp Z) (nA : A ≠ []) (nB : B ≠ []) (h : ∀ x, ev Z x = ev A x * ev B x) : A.length + B.length = Z.length + 1 := by
  have h1 := len_mul hA hB nA nB h
  have lA := List.length_pos_iff.mpr nA
  have lB := List.length_pos_iff.mpr nB
  have h2 : Z.length ≤ A.length + B.length - 1 := by
    have := stp_len hZ (b := pmul A B) (cf_of fun x => by rw [h, ev_pmul])
    rw [pmul_len] at this
    exact this
  omega
theorem mul_small {A W Z : List Rat} (hA : Stp A) (nA : A ≠ []) (h : ∀ x, ev Z x = ev W x * ev A x) (l : Z.length < A.length) (x : Rat) : ev W x = 0 := by
  by_cases hW : stripQ W = []
  · exact ev_nil' hW x
  · have h1 := len_mul (Z := Z) (stripQ_stp W) hA hW nA fun x => by rw [h, ev_stripQ]
    have := List.length_pos_iff.mpr hW
    omega
theorem mul_const {A S V : List Rat} (hA : Stp A) (nA : A ≠ []) (h : ∀ x, ev V x = ev A x * ev S x) (l : V.length ≤ A.length) : ∃ c : Rat, ∀ x, ev S x = c := by
  by_cases hS : stripQ S = []
  · exact ⟨0, ev_nil' hS⟩
  · have h1 := len_mul (Z := V) hA (stripQ_stp S) nA hS fun x => by rw [h, ev_stripQ]
    have := List.length_pos_iff.mpr hS
    have h2 : (stripQ S).length = 1 := by omega
    obtain ⟨c, hc⟩ := List.length_eq_one_iff.mp h2
    refine ⟨c, fun x => ?_⟩
    rw [← ev_stripQ, hc]
    show c + x * 0 = c
    grind
theorem mul_zero2 {A S : List Rat} (hA : Stp A) (nA : A ≠ []) (h : ∀ x, ev A x * ev S x = 0) (x : Rat) : ev S x = 0 :=
  mul_small (Z := []) hA nA (fun x => by rw [Rat.mul_comm, h]; rfl) (List.length_pos_iff.mpr nA) x
theorem cf_psc (a : List Rat) (c : Rat) (i : Nat) : cf (pscale a c) i = cf a i * c := cf_map (f := (· * c)) (Rat.zero_mul c) a i
theorem psc_len (a : List Rat) (c : Rat) : (pscale a c).length = a.length := by unfold pscale; rw [List.length_map]
theorem pad_len (a b : List Rat) : (padd a b).length = max a.length b.length := by unfold padd; rw [tab_len]
theorem cf_pmul_nil (a : List Rat) (i : Nat) : cf (pmul a []) i = 0 := by
  rw [cf_pmul]; unfold pc; exact sm_zero fun k _ => by rw [cf_nil, Rat.mul_zero]
theorem cf_pmul_ge {a b : List Rat} {i : Nat} (h : a.length + b.length ≤ i + 1) : cf (pmul a b) i = 0 := by rw [cf_pmul]; exact pc_zero h
structure Inv4 (fa fb : Rat → Rat) (n0 n1 : Nat) (X Y u v p q : List Rat) (c : Rat) : Prop where
  sx : Stp X
  sy : Stp Y
  nx : X ≠ []
  le : Y.length ≤ X.length
  ex : ∀ x, ev X x = ev u x * fa x + ev v x * fb x
  ey : ∀ x, ev Y x = ev p x * fa x + ev q x * fb x
  dt : ∀ x, ev u x * ev q x - ev p x * ev v x = c
  c0 : c ≠ 0
  sq : Stp q
  nq : q ≠ []
  lq : q.length + X.length = n0 + 1
  lv : v.length + Y.length ≤ n0
  lu : u.length ≤ n1 + 1 - Y.length
  lp : p.length ≤ n1 + 1 - X.length
theorem Inv4.step {fa fb : Rat → Rat} {n0 n1 : Nat} {X Y u v p q Q R P : List Rat} {c k : Rat} (I : Inv4 fa fb n0 n1 X Y u v p q c) (nY : Y ≠ []) (hQ : Q.length = X.length - Y.length + 1) (hR : R.length < Y.length)
    (e : ∀ x, ev X x = ev Q x * ev Y x + ev R x) (k0 : k ≠ 0) (hP : P = stripQ (pscale R k)) :
    ∃ p' q', Inv4 fa fb n0 n1 Y P p q p' q' (-(k * c)) := by
  have lX := List.length_pos_iff.mpr I.nx
  have lY := List.length_pos_iff.mpr nY
  have lq0 := List.length_pos_iff.mpr I.nq
  have le := I.le
  have lq := I.lq
  have lv := I.lv
  have lu := I.lu
  have lp := I.lp
  have lP : P.length ≤ R.length := by rw [hP, ← psc_len R k]; exact stripQ_le _
  -- the lead of the quotient
  have tQ : cf Q (X.length - Y.length) ≠ 0 := fun z => by
    have h1 : cf X (X.length - 1) = cf (padd (pmul Q Y) R) (X.length - 1) := cf_of (fun x => by rw [e, ev_padd, ev_pmul]) _
    rw [cf_padd, cf_ge (l := R) (by omega), Rat.add_zero, show X.length - 1 = X.length - Y.length + (Y.length - 1) by omega, top_pmul (by omega) (by omega), z, Rat.zero_mul, show X.length - Y.length + (Y.length - 1) = X.length - 1 by omega] at h1
    exact ne_last I.sx I.nx h1
  let U := pscale (padd u (pscale (pmul Q p) (-1))) k
  let V := pscale (padd v (pscale (pmul Q q) (-1))) k
  have eU : ∀ x, ev U x = k * (ev u x - ev Q x * ev p x) := fun x => by
    show ev (pscale _ k) x = _
    rw [ev_pscale, ev_padd, ev_pscale, ev_pmul]; grind
  have eV : ∀ x, ev V x = k * (ev v x - ev Q x * ev q x) := fun x => by
    show ev (pscale _ k) x = _
    rw [ev_pscale, ev_padd, ev_pscale, ev_pmul]; grind
  have eP : ∀ x, ev P x = k * ev R x := fun x => by rw [hP, ev_stripQ, ev_pscale]; grind
  have topV : (stripQ V).length = X.length - Y.length + (q.length - 1) + 1 := by
    refine sq_eq (fun i hi => ?_) fun z => ?_
    · show cf (pscale _ k) i = 0
      rw [cf_psc, cf_padd, cf_psc, cf_ge (l := v) (by omega), cf_pmul_ge (by omega)]
      grind
    · have z : cf (pscale (padd v (pscale (pmul Q q) (-1))) k) (X.length - Y.length + (q.length - 1)) = 0 := z
      rw [cf_psc, cf_padd, cf_psc, cf_ge (l := v) (by omega), top_pmul (by omega) (by omega)] at z
      have := ne_last I.sq I.nq
      have h2 : cf Q (X.length - Y.length) * cf q (q.length - 1) ≠ 0 := fun y => (Rat.mul_eq_zero.mp y).elim tQ this
      rcases Rat.mul_eq_zero.mp z with y | y
      · exact h2 (by grind)
      · exact k0 y
  refine ⟨stripQ U, stripQ V, I.sy, by rw [hP]; exact stripQ_stp _, nY, by omega, I.ey, fun x => ?_, fun x => ?_, ?_, stripQ_stp _, fun z => ?_, by omega, by omega, by omega, ?_⟩
  · rw [ev_stripQ, ev_stripQ, eU, eV, eP]
    have h1 := e x
    have h2 := I.ex x
    have h3 := I.ey x
    rw [h3] at h1
    rw [h2] at h1
    grind
  · rw [ev_stripQ, ev_stripQ, eU, eV]
    have := I.dt x
    grind
  · intro z
    have : k * c = 0 := by grind
    exact (Rat.mul_eq_zero.mp this).elim k0 I.c0
  · rw [z] at topV
    simp at topV
  · refine sq_len fun i hi => ?_
    show cf (pscale _ k) i = 0
    rw [cf_psc, cf_padd, cf_psc, cf_ge (l := u) (by omega)]
    have : cf (pmul Q p) i = 0 := by
      by_cases hp : p = []
      · rw [hp]; exact cf_pmul_nil _ _
      · have := List.length_pos_iff.mpr hp
        exact cf_pmul_ge (by omega)
    rw [this]
    grind
/-- a row whose numbers are whole -/
theorem int_of {L : List Rat} {N : Nat} (h : ∀ i, Fr 1 N (cf L i)) : ∃ t : List Int, qi t = L ∧ ∀ i, (ci t i).natAbs ≤ N := by
  have h1 : ∀ i, (((cf L i).num : Int) : Rat) = cf L i ∧ (cf L i).num.natAbs ≤ N := fun i => by
    obtain ⟨n, e, hn⟩ := h i
    rw [show ((1 : Nat) : Rat) = 1 from rfl, Rat.mul_one] at e
    rw [e]
    exact ⟨rfl, hn⟩
  refine ⟨L.map (·.num), ?_, fun i => ?_⟩
  · unfold qi
    rw [List.map_map]
    refine List.ext_getElem (by rw [List.length_map]) fun i h2 h3 => ?_
    rw [List.getElem_map]
    have := (h1 i).1
    rw [cf_lt h3] at this
    exact this
  · have h2 := (h1 i).2
    by_cases hi : i < L.length
    · rw [ci_get (show (L.map (·.num))[i]? = some ((cf L i).num) by rw [List.getElem?_map, List.getElem?_eq_getElem hi, cf_lt hi]; rfl)]
      exact h2
    · rw [ci_ge (by rw [List.length_map]; omega)]
      exact Nat.zero_le _
theorem fr_int (z : Int) {N : Nat} (h : z.natAbs ≤ N) : Fr 1 N (z : Rat) := ⟨z, by rw [show ((1 : Nat) : Rat) = 1 from rfl, Rat.mul_one], h⟩
def fab (pz o : List Int) (x : Rat) : Rat := ev (qi pz) x * ev (qi o) x
/-- the greatest that a row can have that is made so -/
def bnd (A B M : Nat) : Nat := 32 * (B * (32 * ((2 * ((M + 1) * A)) ^ M * A) + 32 * ((2 * ((M + 1) * A)) ^ M * A)))
theorem qi_ne {l : List Int} (h : l ≠ []) : qi l ≠ [] := fun z => h (List.map_eq_nil_iff.mp z)
end Vf
set_option maxRecDepth 100000
namespace Vf
def Wh (q : Rat) : Prop := ∃ z : Int, q = (z : Rat)
theorem Wh.add {a b : Rat} : Wh a → Wh b → Wh (a + b) := fun ⟨z, h⟩ ⟨y, h2⟩ => ⟨z + y, by rw [h, h2, Rat.intCast_add]⟩
theorem Wh.mul {a b : Rat} : Wh a → Wh b → Wh (a * b) := fun ⟨z, h⟩ ⟨y, h2⟩ => ⟨z * y, by rw [h, h2, Rat.intCast_mul]⟩
theorem Wh.int (z : Int) : Wh (z : Rat) := ⟨z, rfl⟩
theorem Wh.sm {f : Nat → Rat} : ∀ {n : Nat}, (∀ i, i < n → Wh (f i)) → Wh (sm f n)
  | 0, _ => ⟨0, rfl⟩
  | n + 1, h => (Wh.sm fun i hi => h i (by omega)).add (h n (by omega))
theorem whole_row {L : List Rat} (h : ∀ i, Wh (cf L i)) : ∃ t : List Int, qi t = L := by
  refine ⟨L.map (·.num), ?_⟩
  unfold qi
  rw [List.map_map]
  refine List.ext_getElem (by rw [List.length_map]) fun i h2 h3 => ?_
  rw [List.getElem_map]
  obtain ⟨z, hz⟩ := h i
  rw [cf_lt h3] at hz
  show (((L[i]).num : Int) : Rat) = L[i]
  rw [hz]
  rfl
def IP (f : Rat → Rat) : Prop := ∃ l : List Int, ∀ x, ev (qi l) x = f x
theorem IP.row (l : List Int) : IP (ev (qi l)) := ⟨l, fun _ => rfl⟩
theorem IP.add {f g : Rat → Rat} : IP f → IP g → IP fun x => f x + g x := fun ⟨a, ha⟩ ⟨b, hb⟩ => by
  obtain ⟨t, ht⟩ := whole_row (L := padd (qi a) (qi b)) fun i => by rw [cf_padd, cf_qi, cf_qi]; exact (Wh.int _).add (Wh.int _)
  exact ⟨t, fun x => by rw [ht, ev_padd, ha, hb]⟩
theorem IP.mul {f g : Rat → Rat} : IP f → IP g → IP fun x => f x * g x := fun ⟨a, ha⟩ ⟨b, hb⟩ => by
  obtain ⟨t, ht⟩ := whole_row (L := pmul (qi a) (qi b)) fun i => by
    rw [cf_pmul]; unfold pc
    exact Wh.sm fun j _ => by rw [cf_qi, cf_qi]; exact (Wh.int _).mul (Wh.int _)
  exact ⟨t, fun x => by rw [ht, ev_pmul, ha, hb]⟩
theorem IP.int (z : Int) : IP fun _ => (z : Rat) := ⟨[z], fun x => by show (z : Rat) + x * 0 = _; grind⟩
theorem IP.ext {f g : Rat → Rat} (h : IP f) (e : ∀ x, f x = g x) : IP g := by
  obtain ⟨l, hl⟩ := h
  exact ⟨l, fun x => by rw [hl, e]⟩
theorem IP.x : IP fun x => x := ⟨[0, 1], fun x => by show ((0 : Int) : Rat) + x * (((1 : Int) : Rat) + x * 0) = x; rw [show ((0 : Int) : Rat) = 0 from rfl, show ((1 : Int) : Rat) = 1 from rfl]; grind⟩
theorem IP.pow : ∀ n : Nat, IP fun x => x ^ n
  | 0 => (IP.int 1).ext fun x => by rw [Rat.pow_zero]; rfl
  | n + 1 => ((IP.pow n).mul IP.x).ext fun x => by rw [Rat.pow_succ]
/-- g divides f by p -/
def MD (p : Nat) (g f : Rat → Rat) : Prop := ∃ s h, IP s ∧ IP h ∧ ∀ x, f x = g x * s x + (p : Rat) * h x
theorem MD.self (p : Nat) (g : Rat → Rat) : MD p g g := ⟨fun _ => 1, fun _ => 0, (IP.int 1).ext fun _ => rfl, (IP.int 0).ext fun _ => rfl, fun x => by grind⟩
theorem MD.zero (p : Nat) (g : Rat → Rat) : MD p g fun _ => 0 := ⟨fun _ => 0, fun _ => 0, (IP.int 0).ext fun _ => rfl, (IP.int 0).ext fun _ => rfl, fun x => by grind⟩
theorem MD.add {p : Nat} {g f1 f2 : Rat → Rat} : MD p g f1 → MD p g f2 → MD p g fun x => f1 x + f2 x := fun ⟨s, h, i1, i2, e⟩ ⟨s', h', j1, j2, e'⟩ =>
  ⟨_, _, i1.add j1, i2.add j2, fun x => by dsimp only; rw [e, e']; grind⟩
theorem MD.mul {p : Nat} {g f k : Rat → Rat} (hk : IP k) : MD p g f → MD p g fun x => f x * k x := fun ⟨s, h, i1, i2, e⟩ =>
  ⟨_, _, i1.mul hk, i2.mul hk, fun x => by dsimp only; rw [e]; grind⟩
theorem MD.more {p : Nat} {g f k : Rat → Rat} (hk : IP k) : MD p g f → MD p g fun x => f x + (p : Rat) * k x := fun ⟨s, h, i1, i2, e⟩ =>
  ⟨_, _, i1, i2.add hk, fun x => by dsimp only; rw [e]; grind⟩
theorem MD.ext {p : Nat} {g f f' : Rat → Rat} (h : MD p g f) (e : ∀ x, f x = f' x) : MD p g f' := by
  obtain ⟨s, k, i1, i2, h⟩ := h
  exact ⟨s, k, i1, i2, fun x => by rw [← e, h]⟩
theorem MD.of {p : Nat} {g f s : Rat → Rat} (hs : IP s) (e : ∀ x, f x = g x * s x) : MD p g f := ⟨s, fun _ => 0, hs, (IP.int 0).ext fun _ => rfl, fun x => by rw [e]; grind⟩
/-- a number that is 1 by p, times another -/
theorem MD.unit {p : Nat} {g f : Rat → Rat} {a w z : Int} (hf : IP f) (e : a * w = 1 + p * z) (h : MD p g fun x => f x * (a : Rat)) : MD p g f := by
  have h2 := (h.mul (IP.int w)).more ((hf.mul (IP.int (-z))))
  refine h2.ext fun x => ?_
  have e' : (a : Rat) * (w : Rat) = 1 + (p : Rat) * (z : Rat) := by
    have : ((a * w : Int) : Rat) = ((1 + p * z : Int) : Rat) := by rw [e]
    rw [Rat.intCast_mul, Rat.intCast_add, Rat.intCast_mul] at this
    exact this
  rw [show ((-z : Int) : Rat) = -(z : Rat) from Rat.intCast_neg z]
  have : f x * (a : Rat) * (w : Rat) = f x * (1 + (p : Rat) * (z : Rat)) := by rw [← e']; grind
  rw [this]
  grind
theorem last_no {p : Nat} {l : List Int} (h : ∃ i, ¬ (p : Int) ∣ ci l i) : ∃ g, ¬ (p : Int) ∣ ci l g ∧ ∀ i, g < i → (p : Int) ∣ ci l i := by
  have key : ∀ n, (∀ i, n ≤ i → (p : Int) ∣ ci l i) → ∃ g, ¬ (p : Int) ∣ ci l g ∧ ∀ i, g < i → (p : Int) ∣ ci l i := fun n => by
    induction n with
    | zero =>
      intro hn
      obtain ⟨i, hi⟩ := h
      exact absurd (hn i (Nat.zero_le _)) hi
    | succ n ih =>
      intro hn
      by_cases hd : (p : Int) ∣ ci l n
      · refine ih fun i hi => ?_
        by_cases e : i = n
        · rw [e]; exact hd
        · exact hn i (by omega)
      · exact ⟨n, hd, fun i hi => hn i hi⟩
  exact key l.length fun i hi => by rw [ci_ge hi]; exact Int.dvd_zero _
theorem si_mod {q : Int} {f : Nat → Int} {g : Nat} : ∀ {n : Nat}, (∀ k, k < n → k ≠ g → q ∣ f k) → (n ≤ g → q ∣ si f n) ∧ (g < n → q ∣ si f n - f g)
  | 0, _ => ⟨fun _ => Int.dvd_zero _, fun h => by omega⟩
  | n + 1, h => by
    obtain ⟨h1, h2⟩ := si_mod (n := n) fun k hk => h k (by omega)
    refine ⟨fun hg => Int.dvd_add (h1 (by omega)) (h n (by omega) (by omega)), fun hg => ?_⟩
    show q ∣ si f n + f n - f g
    by_cases e : n = g
    · subst e
      rw [Int.add_sub_cancel]
      exact h1 (Nat.le_refl _)
    · have := Int.dvd_add (h2 (by omega)) (h n (by omega) e)
      rw [show si f n + f n - f g = si f n - f g + f n by omega]
      exact this
theorem Pr.mul {p : Nat} (hp : Pr p) {a b : Int} (h : (p : Int) ∣ a * b) : (p : Int) ∣ a ∨ (p : Int) ∣ b := by
  by_cases ha : (p : Int) ∣ a
  · exact .inl ha
  · refine .inr ?_
    have h1 : ¬ p ∣ a.natAbs := fun z => ha (Int.ofNat_dvd_left.mpr z)
    have h2 := hp.cop h1
    have h3 : p ∣ a.natAbs * b.natAbs := by rw [← Int.natAbs_mul]; exact Int.ofNat_dvd_left.mp h
    exact Int.ofNat_dvd_left.mpr (Nat.Coprime.dvd_of_dvd_mul_left (Nat.Coprime.symm h2) h3)
theorem top_mod {p : Nat} (hp : Pr p) {G S : List Int} {g s : Nat} (h1 : ¬ (p : Int) ∣ ci G g) (h2 : ∀ i, g < i → (p : Int) ∣ ci G i) (h3 : ¬ (p : Int) ∣ ci S s) (h4 : ∀ i, s < i → (p : Int) ∣ ci S i) :
    ∃ z : Int, cf (pmul (qi G) (qi S)) (g + s) = (z : Rat) ∧ ¬ (p : Int) ∣ z := by
  refine ⟨si (fun k => ci G k * ci S (g + s - k)) (g + s + 1), ?_, fun hd => ?_⟩
  · rw [cf_pmul, si_sm]
    unfold pc
    exact sm_ext fun i _ => by rw [cf_qi, cf_qi, Rat.intCast_mul]
  · have := (si_mod (q := p) (f := fun k => ci G k * ci S (g + s - k)) (g := g) (n := g + s + 1) fun k hk ne => by
      rcases Nat.lt_or_ge k g with z | z
      · exact Int.dvd_mul_of_dvd_right (h4 _ (by omega))
      · exact Int.dvd_mul_of_dvd_left (h2 _ (by omega))).2 (by omega)
    have h5 : (p : Int) ∣ ci G g * ci S (g + s - g) := by
      have := Int.dvd_sub hd this
      rw [show ∀ a b : Int, a - (a - b) = b by intro a b; omega] at this
      exact this
    rw [show g + s - g = s by omega] at h5
    rcases hp.mul h5 with z | z
    · exact h1 z
    · exact h3 z
structure Pm (P : List Int) : Prop where
  ne : P ≠ []
  tp : 0 < ci P (P.length - 1)
  u : ∀ u : Nat, (∀ i, (u : Int) ∣ ci P i) → u = 1
theorem Pm.stp {P : List Int} (h : Pm P) : Stp (qi P) := by
  intro r x e
  have h1 := congrArg List.length e
  rw [qi_len, List.length_append] at h1
  have h2 : cf (qi P) (P.length - 1) = x := by
    rw [e, cf_app, if_neg (by simp at h1; omega)]
    rw [show P.length - 1 - r.length = 0 by simp at h1; omega]
    rfl
  rw [cf_qi] at h2
  have := h.tp
  rw [← h2]
  have : ci P (P.length - 1) ≠ 0 := by omega
  exact_mod_cast this
theorem prime_ex : ∀ n : Nat, 1 < n → ∃ q, Pr q ∧ q ∣ n := fun n => by
  induction n using Nat.strongRecOn with
  | _ n ih =>
    intro hn
    by_cases h : ∀ d, d ∣ n → d = 1 ∨ d = n
    · exact ⟨n, ⟨hn, h⟩, Nat.dvd_refl _⟩
    · have : ∃ d, d ∣ n ∧ d ≠ 1 ∧ d ≠ n := by
        refine Classical.byContradiction fun no => h fun d hd => ?_
        refine Decidable.byContradiction fun z => no ⟨d, hd, fun y => z (.inl y), fun y => z (.inr y)⟩
      obtain ⟨d, hd, d1, dn⟩ := this
      have := Nat.le_of_dvd (by omega) hd
      have d0 : d ≠ 0 := fun z => by rw [z] at hd; have := Nat.eq_zero_of_zero_dvd hd; omega
      obtain ⟨q, hq, h2⟩ := ih d (by omega) (by omega)
      exact ⟨q, hq, Nat.dvd_trans h2 hd⟩
theorem bottom_ex : ∀ S : List Rat, ∃ D : Nat, 0 < D ∧ ∀ i, Wh (cf S i * (D : Rat))
  | [] => ⟨1, by decide, fun i => ⟨0, by rw [cf_nil]; rw [Rat.zero_mul]; rfl⟩⟩
  | a :: r => by
    obtain ⟨D, h0, h⟩ := bottom_ex r
    refine ⟨a.den * D, Nat.mul_pos a.den_pos h0, fun i => ?_⟩
    rw [cf_cons, Rat.natCast_mul]
    split
    · have := (Wh.int a.num).mul (Wh.int (D : Int))
      rw [← num_denQ] at this
      exact this.elim fun z hz => ⟨z, by rw [← hz]; show _ = a * (a.den : Rat) * (D : Rat); grind⟩
    · have := (h (i - 1)).mul (Wh.int (a.den : Int))
      exact this.elim fun z hz => ⟨z, by rw [← hz]; show _ = cf r (i - 1) * (D : Rat) * (a.den : Rat); grind⟩
/-- Gauss: what a primitive row divides, it divides in whole numbers -/
theorem gauss {X G : List Int} {S : List Rat} (hG : Pm G) (h : ∀ x, ev (qi X) x = ev (qi G) x * ev S x) : ∃ c : List Int, ∀ x, ev (qi c) x = ev S x := by
  have key : ∀ D : Nat, 0 < D → ∀ T : List Int, (∀ x, (D : Rat) * ev (qi X) x = ev (qi G) x * ev (qi T) x) → ∃ c : List Int, ∀ x, (D : Rat) * ev (qi c) x = ev (qi T) x := fun D => by
    induction D using Nat.strongRecOn with
    | _ D ih =>
      intro D0 T hT
      by_cases h1 : D = 1
      · exact ⟨T, fun x => by rw [h1]; show (1 : Rat) * _ = _; grind⟩
      obtain ⟨q, hq, E, rfl⟩ := prime_ex D (by omega)
      have q1 := hq.1
      have E0 : 0 < E := by
        rcases Nat.eq_zero_or_pos E with z | z
        · rw [z] at D0; simp at D0
        · exact z
      have hz : ∀ i, (q : Int) ∣ ci T i := by
        refine Classical.byContradiction fun no => ?_
        have hT2 : ∃ i, ¬ (q : Int) ∣ ci T i := by
          refine Classical.byContradiction fun z => no fun i => ?_
          exact Decidable.byContradiction fun y => z ⟨i, y⟩
        have hG2 : ∃ i, ¬ (q : Int) ∣ ci G i := by
          refine Classical.byContradiction fun z => ?_
          have := hG.u q fun i => Decidable.byContradiction fun y => z ⟨i, y⟩
          omega
        obtain ⟨g, g1, g2⟩ := last_no hG2
        obtain ⟨s, s1, s2⟩ := last_no hT2
        obtain ⟨z, z1, z2⟩ := top_mod hq g1 g2 s1 s2
        have e1 : cf (pscale (qi X) ((q * E : Nat) : Rat)) (g + s) = cf (pmul (qi G) (qi T)) (g + s) := cf_of (fun x => by rw [ev_pscale, ev_pmul, ← hT]; grind) _
        rw [cf_psc, cf_qi, z1] at e1
        refine z2 ⟨E * ci X (g + s), ?_⟩
        have e2 : ((ci X (g + s) * ((q * E : Nat) : Int) : Int) : Rat) = (z : Rat) := by rw [Rat.intCast_mul]; exact e1
        have e3 : ci X (g + s) * ((q * E : Nat) : Int) = z := by exact_mod_cast e2
        rw [← e3, Int.natCast_mul]
        grind
      -- by q
      have qR : (q : Rat) ≠ 0 := by
        have : q ≠ 0 := by omega
        exact_mod_cast this
      have eT : ∀ x, ev (qi T) x = (q : Rat) * ev (qi (tabI T.length fun i => ci T i / q)) x := fun x => by
        have : ev (qi T) x = ev (pscale (qi (tabI T.length fun i => ci T i / q)) (q : Rat)) x := ev_ext (fun i => by
          rw [cf_psc, cf_qi, cf_qi, ci_tab]
          have : ci T i = (if i < T.length then ci T i / (q : Int) else 0) * (q : Int) := by
            split
            · exact (Int.ediv_mul_cancel (hz i)).symm
            · rw [ci_ge (by omega), Int.zero_mul]
          have e : ((ci T i : Int) : Rat) = (((if i < T.length then ci T i / (q : Int) else 0) * (q : Int) : Int) : Rat) := by rw [← this]
          rw [e, Rat.intCast_mul]
          rfl) x
        rw [this, ev_pscale]; grind
      obtain ⟨c, hc⟩ := ih E (by have := Nat.mul_le_mul_right E (show 2 ≤ q by omega); omega) E0 (tabI T.length fun i => ci T i / q) fun x => by
        have h2 := hT x
        rw [eT, Rat.natCast_mul] at h2
        have h3 : (q : Rat) * ((E : Rat) * ev (qi X) x) = (q : Rat) * (ev (qi G) x * ev (qi (tabI T.length fun i => ci T i / (q : Int))) x) := by grind
        have h4 : ∀ {a b : Rat}, (q : Rat) * a = (q : Rat) * b → a = b := fun {a b} e => by
          have : (q : Rat) * (a - b) = 0 := by grind
          rcases Rat.mul_eq_zero.mp this with z | z
          · exact absurd z qR
          · grind
        exact h4 h3
      refine ⟨c, fun x => ?_⟩
      rw [eT, ← hc, Rat.natCast_mul]
      grind
  obtain ⟨D, D0, hD⟩ := bottom_ex S
  obtain ⟨T, hT⟩ := whole_row (L := pscale S (D : Rat)) fun i => by rw [cf_psc]; exact hD i
  obtain ⟨c, hc⟩ := key D D0 T fun x => by rw [hT, ev_pscale, h]; grind
  refine ⟨c, fun x => ?_⟩
  have h1 := hc x
  rw [hT, ev_pscale] at h1
  have DR : (D : Rat) ≠ 0 := by
    have : D ≠ 0 := by omega
    exact_mod_cast this
  have : (D : Rat) * (ev (qi c) x - ev S x) = 0 := by grind
  rcases Rat.mul_eq_zero.mp this with z | z
  · exact absurd z DR
  · grind
/-- a whole row that is a primitive one times a number -/
theorem pm_mult {Y t : List Int} {k : Rat} (hY : Pm Y) (h : ∀ x, ev (qi t) x = k * ev (qi Y) x) : ∃ z : Int, k = (z : Rat) ∧ ∀ i, ci t i = z * ci Y i := by
  have e : ∀ i, ((ci t i : Int) : Rat) = k * ((ci Y i : Int) : Rat) := fun i => by
    have := cf_of (A := qi t) (B := pscale (qi Y) k) (fun x => by rw [ev_pscale, h]; grind) i
    rw [cf_psc, cf_qi, cf_qi] at this
    rw [this]; grind
  have d1 : k.den = 1 := hY.u _ fun i => by
    have h1 : ((ci t i * (k.den : Int) : Int) : Rat) = ((k.num * ci Y i : Int) : Rat) := by
      rw [Rat.intCast_mul, Rat.intCast_mul, e, ← num_denQ k]
      show k * ((ci Y i : Int) : Rat) * (k.den : Rat) = _
      grind
    have h2 : ci t i * (k.den : Int) = k.num * ci Y i := by exact_mod_cast h1
    have h3 : k.den ∣ k.num.natAbs * (ci Y i).natAbs := ⟨(ci t i).natAbs, by rw [← Int.natAbs_mul, ← h2, Int.natAbs_mul, Int.natAbs_natCast, Nat.mul_comm]⟩
    exact Int.ofNat_dvd_left.mpr (Nat.Coprime.dvd_of_dvd_mul_left (Nat.Coprime.symm k.reduced) h3)
  have k1 : k = (k.num : Rat) := by
    have := num_denQ k
    rw [d1] at this
    rw [← this]
    exact (Rat.mul_one k).symm
  refine ⟨k.num, k1, fun i => ?_⟩
  have h1 := e i
  rw [k1] at h1
  have : ((ci t i : Int) : Rat) = ((k.num * ci Y i : Int) : Rat) := by rw [Rat.intCast_mul]; exact h1
  exact_mod_cast this
theorem pm_le {Y t : List Int} {k : Rat} (hY : Pm Y) (k0 : k ≠ 0) (h : ∀ x, ev (qi t) x = k * ev (qi Y) x) (i : Nat) : (ci Y i).natAbs ≤ (ci t i).natAbs := by
  obtain ⟨z, e, hz⟩ := pm_mult hY h
  have z0 : z ≠ 0 := fun y => k0 (by rw [e, y]; rfl)
  rw [hz, Int.natAbs_mul]
  exact Nat.le_mul_of_pos_left _ (by omega)
theorem ci_ext {a b : List Int} (hl : a.length = b.length) (h : ∀ i, ci a i = ci b i) : a = b := by
  refine List.ext_getElem hl fun i h1 h2 => ?_
  have := h i
  have e1 := ci_lt h1
  have e2 := ci_lt h2
  rw [List.getElem?_eq_getElem h1] at e1
  rw [List.getElem?_eq_getElem h2] at e2
  injection e1 with e1
  injection e2 with e2
  rw [e1, e2, this]
theorem pm_uniq {Y t : List Int} {k : Rat} (hY : Pm Y) (ht : Pm t) (h : ∀ x, ev (qi t) x = k * ev (qi Y) x) : t = Y := by
  have k0 : k ≠ 0 := fun z => by
    have : cf (qi t) (t.length - 1) = cf [] (t.length - 1) := cf_of (fun x => by rw [h, z]; show 0 * _ = (0 : Rat); grind) _
    rw [cf_qi, cf_nil] at this
    have h2 : ci t (t.length - 1) = 0 := by exact_mod_cast this
    have := ht.tp
    omega
  obtain ⟨z, e, hz⟩ := pm_mult hY h
  have z1 : z.natAbs = 1 := ht.u _ fun i => by rw [hz]; exact Int.dvd_mul_of_dvd_left (Int.natAbs_dvd.mpr (Int.dvd_refl z))
  have hl : t.length = Y.length := by
    have s1 := stp_len ht.stp (b := pscale (qi Y) k) (cf_of fun x => by rw [ev_pscale, h]; grind)
    have s2 := stp_len hY.stp (b := pscale (qi t) (1 / k)) (cf_of fun x => by
      rw [ev_pscale, h]
      have : k * (1 / k) = 1 := by rw [Rat.div_def, Rat.one_mul]; exact Rat.mul_inv_cancel k k0
      grind)
    rw [psc_len, qi_len, qi_len] at s1 s2
    omega
  have zp : z = 1 := by
    have h1 := ht.tp
    have h2 := hY.tp
    rw [hl, hz] at h1
    have : z = 1 ∨ z = -1 := by omega
    rcases this with e | e
    · exact e
    · rw [e] at h1; omega
  exact ci_ext hl fun i => by rw [hz, zp, Int.one_mul]
end Vf
set_option maxRecDepth 100000
namespace Vf
theorem md_rows {p : Nat} {g row : List Int} (h : MD p (ev (qi g)) (ev (qi row))) : ∃ s k : List Int, ∀ i, cf (pmul (qi g) (qi s)) i = ((ci row i - p * ci k i : Int) : Rat) := by
  obtain ⟨s, k, ⟨sl, hs⟩, ⟨kl, hk⟩, e⟩ := h
  refine ⟨sl, kl, fun i => ?_⟩
  have := cf_of (A := qi row) (B := padd (pmul (qi g) (qi sl)) (pscale (qi kl) (p : Rat))) (fun x => by rw [ev_padd, ev_pmul, ev_pscale, e, hs, hk]; grind) i
  rw [cf_qi, cf_padd, cf_psc, cf_qi] at this
  rw [Rat.intCast_sub, Rat.intCast_mul, this]
  show _ = _ - (p : Rat) * _
  grind
theorem md_len {p : Nat} (hp : Pr p) {G row : List Int} (h0 : ¬ (p : Int) ∣ ci G (G.length - 1)) (h1 : ∃ i, ¬ (p : Int) ∣ ci row i) (h : MD p (ev (qi G)) (ev (qi row))) : G.length ≤ row.length := by
  obtain ⟨s, k, e⟩ := md_rows h
  have hG : 0 < G.length := by
    rcases Nat.eq_zero_or_pos G.length with z | z
    · exfalso
      refine h0 ?_
      rw [ci_ge (by omega)]
      exact Int.dvd_zero _
    · exact z
  have hs : ∃ i, ¬ (p : Int) ∣ ci s i := by
    refine Classical.byContradiction fun no => ?_
    obtain ⟨i, hi⟩ := h1
    have all : ∀ j, (p : Int) ∣ ci s j := fun j => Classical.byContradiction fun y => no ⟨j, y⟩
    have e1 : cf (pmul (qi G) (qi s)) i = ((si (fun k => ci G k * ci s (i - k)) (i + 1) : Int) : Rat) := by
      rw [cf_pmul, si_sm]
      unfold pc
      exact sm_ext fun j _ => by rw [cf_qi, cf_qi, Rat.intCast_mul]
    have e2 : si (fun k => ci G k * ci s (i - k)) (i + 1) = ci row i - p * ci k i := by
      have := e1.symm.trans (e i)
      exact_mod_cast this
    have e3 := (si_mod (q := p) (f := fun k => ci G k * ci s (i - k)) (g := i + 1) (n := i + 1) fun j _ _ => Int.dvd_mul_of_dvd_right (all _)).1 (Nat.le_refl _)
    rw [e2] at e3
    have := Int.dvd_add e3 (Int.dvd_mul_right (p : Int) (ci k i))
    rw [show ci row i - p * ci k i + p * ci k i = ci row i by omega] at this
    exact hi this
  obtain ⟨s0, s1, s2⟩ := last_no hs
  obtain ⟨z, z1, z2⟩ := top_mod hp h0 (fun i hi => by rw [ci_ge (by omega)]; exact Int.dvd_zero _) s1 s2
  rw [e] at z1
  have e2 : ci row (G.length - 1 + s0) - p * ci k (G.length - 1 + s0) = z := by exact_mod_cast z1
  refine Decidable.byContradiction fun no => z2 ?_
  rw [← e2, ci_ge (l := row) (by omega)]
  exact ⟨-ci k (G.length - 1 + s0), by grind⟩
theorem md_const {p : Nat} (hp : Pr p) {G row : List Int} (h0 : ¬ (p : Int) ∣ ci row (row.length - 1)) (hl : G.length ≤ row.length) (h : MD p (ev (qi row)) (ev (qi G))) : ∃ k : Int, ∀ i, (p : Int) ∣ ci G i - k * ci row i := by
  obtain ⟨s, k, e⟩ := md_rows h
  have hR : 0 < row.length := by
    rcases Nat.eq_zero_or_pos row.length with z | z
    · exfalso
      refine h0 ?_
      rw [ci_ge (by omega)]
      exact Int.dvd_zero _
    · exact z
  have hs : ∀ i, 0 < i → (p : Int) ∣ ci s i := by
    refine Classical.byContradiction fun no => ?_
    have : ∃ i, 0 < i ∧ ¬ (p : Int) ∣ ci s i := Classical.byContradiction fun y => no fun i hi => Classical.byContradiction fun z => y ⟨i, hi, z⟩
    obtain ⟨i, i0, hi⟩ := this
    obtain ⟨s0, s1, s2⟩ := last_no ⟨i, hi⟩
    have : i ≤ s0 := by
      refine Decidable.byContradiction fun z => hi (s2 i (by omega))
    obtain ⟨z, z1, z2⟩ := top_mod hp h0 (fun i hi => by rw [ci_ge (by omega)]; exact Int.dvd_zero _) s1 s2
    rw [e] at z1
    have e2 : ci G (row.length - 1 + s0) - p * ci k (row.length - 1 + s0) = z := by exact_mod_cast z1
    refine z2 ?_
    rw [← e2, ci_ge (l := G) (by omega)]
    exact ⟨-ci k (row.length - 1 + s0), by grind⟩
  refine ⟨ci s 0, fun i => ?_⟩
  have e1 : cf (pmul (qi row) (qi s)) i = ((si (fun k => ci row k * ci s (i - k)) (i + 1) : Int) : Rat) := by
    rw [cf_pmul, si_sm]
    unfold pc
    exact sm_ext fun j _ => by rw [cf_qi, cf_qi, Rat.intCast_mul]
  have e2 : si (fun k => ci row k * ci s (i - k)) (i + 1) = ci G i - p * ci k i := by
    have := e1.symm.trans (e i)
    exact_mod_cast this
  have e3 := (si_mod (q := p) (f := fun k => ci row k * ci s (i - k)) (g := i) (n := i + 1) fun j hj ne => Int.dvd_mul_of_dvd_right (hs _ (by omega))).2 (by omega)
  rw [e2, Nat.sub_self] at e3
  have := Int.dvd_add e3 (Int.dvd_mul_right (p : Int) (ci k i))
  rw [show ci G i - p * ci k i - ci row i * ci s 0 + p * ci k i = ci G i - ci s 0 * ci row i by grind] at this
  exact this
/-- the greatest common divisor of two primitive rows, and a short sum that tells it -/
structure GdT (X Y G : List Int) : Prop where
  px : Pm X
  py : Pm Y
  pg : Pm G
  dx : ∃ c : List Int, ∀ x, ev (qi X) x = ev (qi G) x * ev (qi c) x
  dy : ∃ c : List Int, ∀ x, ev (qi Y) x = ev (qi G) x * ev (qi c) x
  bz : ∃ (u v : List Int) (R : Int), R ≠ 0 ∧ R.natAbs < 2 ^ 4423 - 1 ∧ ∀ x, (R : Rat) * ev (qi G) x = ev (qi u) x * ev (qi X) x + ev (qi v) x * ev (qi Y) x
/-- a divisor of both that is no shorter is the greatest one -/
theorem GdT.sound {X Y G F : List Int} (h : GdT X Y G) (hF : Pm F) (hl : G.length ≤ F.length) (h1 : ∃ c : List Rat, ∀ x, ev (qi X) x = ev (qi F) x * ev c x) (h2 : ∃ c : List Rat, ∀ x, ev (qi Y) x = ev (qi F) x * ev c x) : F = G := by
  obtain ⟨u, v, R, R0, _, e⟩ := h.bz
  obtain ⟨a, ha⟩ := h1
  obtain ⟨b, hb⟩ := h2
  have RR : (R : Rat) ≠ 0 := by exact_mod_cast R0
  have RI : (R : Rat) * (1 / (R : Rat)) = 1 := by rw [Rat.div_def, Rat.one_mul]; exact Rat.mul_inv_cancel _ RR
  let W := pscale (padd (pmul (qi u) a) (pmul (qi v) b)) (1 / (R : Rat))
  have eW : ∀ x, ev (qi G) x = ev (qi F) x * ev W x := fun x => by
    show _ = _ * ev (pscale _ _) x
    rw [ev_pscale, ev_padd, ev_pmul, ev_pmul]
    have h3 := e x
    rw [ha, hb] at h3
    have h4 : ev (qi G) x = (R : Rat) * ev (qi G) x * (1 / (R : Rat)) := by grind
    rw [h4, h3]
    grind
  obtain ⟨k, hk⟩ := mul_const hF.stp (qi_ne hF.ne) eW (by rw [qi_len, qi_len]; exact hl)
  exact (pm_uniq hF h.pg (k := k) fun x => by rw [eW, hk]; grind).symm
/-- the leads -/
theorem lead_dvd {X G : List Int} (hX : Pm X) (hG : Pm G) (h : ∃ c : List Int, ∀ x, ev (qi X) x = ev (qi G) x * ev (qi c) x) : ci G (G.length - 1) ∣ ci X (X.length - 1) ∧ G.length ≤ X.length := by
  obtain ⟨c, hc⟩ := h
  have nc : stripQ (qi c) ≠ [] := fun z => by
    have : qi X = [] := stp_ext hX.stp (fun _ _ z => by simp at z) (cf_of fun x => by rw [hc, ev_nil' z]; show _ * 0 = (0 : Rat); grind)
    exact qi_ne hX.ne this
  have l1 := len_mul_eq (Z := qi X) hG.stp (stripQ_stp (qi c)) hX.stp (qi_ne hG.ne) nc fun x => by rw [hc, ev_stripQ]
  have lc := List.length_pos_iff.mpr nc
  have lG := List.length_pos_iff.mpr hG.ne
  rw [qi_len, qi_len] at l1
  have e : cf (qi X) (X.length - 1) = cf (pmul (qi G) (stripQ (qi c))) (X.length - 1) := cf_of (fun x => by rw [hc, ev_pmul, ev_stripQ]) _
  rw [show X.length - 1 = G.length - 1 + ((stripQ (qi c)).length - 1) by omega, top_pmul (by rw [qi_len]; omega) (by omega), cf_stripQ, cf_qi, cf_qi, cf_qi] at e
  refine ⟨⟨ci c ((stripQ (qi c)).length - 1), ?_⟩, by omega⟩
  rw [show X.length - 1 = G.length - 1 + ((stripQ (qi c)).length - 1) by omega]
  rw [← Rat.intCast_mul] at e
  exact_mod_cast e
/-- p does not spoil the greatest divisor -/
theorem GdT.len_le {X Y G row : List Int} {p : Nat} (hp : Pr p) (h : GdT X Y G) (hl : ¬ ((p : Int) ∣ ci X (X.length - 1) ∧ (p : Int) ∣ ci Y (Y.length - 1))) (hr : ∃ i, ¬ (p : Int) ∣ ci row i) (hm : MD p (ev (qi G)) (ev (qi row))) : G.length ≤ row.length ∧ ¬ (p : Int) ∣ ci G (G.length - 1) := by
  have hG : ¬ (p : Int) ∣ ci G (G.length - 1) := fun z => hl ⟨Int.dvd_trans z (lead_dvd h.px h.pg h.dx).1, Int.dvd_trans z (lead_dvd h.py h.pg h.dy).1⟩
  exact ⟨md_len hp hG hr hm, hG⟩
theorem inv_ex {p : Nat} (hp : Pr p) {a : Int} (h : ¬ (p : Int) ∣ a) : ∃ w z : Int, a * w = 1 + p * z := by
  have h1 : ¬ p ∣ a.natAbs := fun z => h (Int.ofNat_dvd_left.mpr z)
  have h2 := hp.cop h1
  have key : ∀ a b : Nat, Nat.gcd a b = 1 → ∃ w z : Int, (a : Int) * w + (b : Int) * z = 1 := fun a => by
    induction a using Nat.strongRecOn with
    | _ a ih =>
      intro b hg
      by_cases a0 : a = 0
      · subst a0
        rw [Nat.gcd_zero_left] at hg
        exact ⟨0, 1, by rw [hg]; rfl⟩
      · obtain ⟨w, z, e⟩ := ih (b % a) (Nat.mod_lt _ (by omega)) a (by rw [← Nat.gcd_rec]; exact hg)
        have h6 := Nat.div_add_mod b a
        have h7 : (a : Int) * ((b / a : Nat) : Int) + ((b % a : Nat) : Int) = b := by exact_mod_cast h6
        exact ⟨z - ((b / a : Nat) : Int) * w, w, by grind⟩
  obtain ⟨w, z, e⟩ := key a.natAbs p h2
  rcases Int.natAbs_eq a with y | y
  · exact ⟨w, -z, by rw [y]; grind⟩
  · exact ⟨-w, -z, by rw [y]; grind⟩
/-- p is no divisor of the short sum: what the residues tell has the divisor's length -/
theorem GdT.luck {X Y G row : List Int} {p : Nat} (hp : Pr p) (hb : 2 ^ 4423 - 1 ≤ p) (h : GdT X Y G) (ht : ¬ (p : Int) ∣ ci row (row.length - 1)) (hl : G.length ≤ row.length) (hG : ¬ (p : Int) ∣ ci G (G.length - 1))
    (hx : MD p (ev (qi row)) (ev (qi X))) (hy : MD p (ev (qi row)) (ev (qi Y))) : row.length = G.length ∧ ∃ k : Int, ∀ i, (p : Int) ∣ ci G i - k * ci row i := by
  obtain ⟨u, v, R, R0, Rp, e⟩ := h.bz
  have hR : ¬ (p : Int) ∣ R := fun z => by
    have h1 := Int.ofNat_dvd_left.mp z
    have := Nat.le_of_dvd (by omega) h1
    omega
  obtain ⟨w, z, ew⟩ := inv_ex hp hR
  have m1 : MD p (ev (qi row)) (fun x => ev (qi G) x * (R : Rat)) := ((hx.mul (IP.row u)).add (hy.mul (IP.row v))).ext fun x => by
    have := e x
    grind
  have m2 := MD.unit (IP.row G) ew m1
  refine ⟨?_, md_const hp ht hl m2⟩
  have := md_len hp ht ⟨_, hG⟩ m2
  omega
/-- the residue nearest to 0 -/
def nres (p n : Int) : Int := if 2 * (n % p) > p then n % p - p else n % p
theorem nres_mod {p n : Int} : p ∣ n - nres p n := by
  have h := Int.mul_ediv_add_emod n p
  unfold nres
  split
  · exact ⟨n / p + 1, by grind⟩
  · exact ⟨n / p, by grind⟩
theorem nres_lt {p n : Int} (hp : 0 < p) : (nres p n).natAbs ≤ p.natAbs := by
  have h1 := Int.emod_nonneg n (show p ≠ 0 by omega)
  have h2 := Int.emod_lt_of_pos n hp
  unfold nres
  split <;> omega
theorem nres_eq {p n z : Int} (hp : 0 < p) (h : p ∣ n - z) (hz : 2 * z.natAbs < p.natAbs) : nres p n = z := by
  have h1 := Int.emod_nonneg n (show p ≠ 0 by omega)
  have h2 := Int.emod_lt_of_pos n hp
  have h3 : 2 * (nres p n).natAbs ≤ p.natAbs := by
    unfold nres
    split <;> omega
  obtain ⟨a, ha⟩ := h
  obtain ⟨b, hb⟩ := nres_mod (p := p) (n := n)
  generalize nres p n = y at *
  have e : z - y = p * (b - a) := by rw [Int.mul_sub, ← ha, ← hb]; omega
  have : b - a = 0 := by
    refine Decidable.byContradiction fun no => ?_
    have h4 : p.natAbs ≤ (z - y).natAbs := by
      rw [e, Int.natAbs_mul]
      exact Nat.le_mul_of_pos_right _ (by omega)
    omega
  rw [this, Int.mul_zero] at e
  omega
/-- the residues times what the leads tell are the divisor times a number -/
theorem recover {p L w rt k : Int} {G : Nat → Int} {row : Nat → Int} {g m : Int} (hL : L = g * m) (hw : p ∣ w * rt - 1) (ht : p ∣ g - k * rt) (i : Nat) (hi : p ∣ G i - k * row i) : p ∣ L * w * row i - m * G i := by
  obtain ⟨a, ha⟩ := hw
  obtain ⟨b, hb⟩ := ht
  obtain ⟨c, hc⟩ := hi
  exact ⟨m * (k * a * row i + b * w * row i - c), by grind⟩
end Vf
set_option maxRecDepth 100000
namespace Vf
theorem ev_rep0 (x : Rat) : ∀ k, ev (List.replicate k (0 : Rat)) x = 0
  | 0 => rfl
  | k + 1 => by
    show 0 + x * ev (List.replicate k 0) x = 0
    rw [ev_rep0 x k]; grind
theorem cf_shift (k : Nat) (B : List Rat) (i : Nat) : cf (List.replicate k (0 : Rat) ++ B) i = if k ≤ i then cf B (i - k) else 0 := by
  rw [cf_app, List.length_replicate]
  by_cases h : i < k
  · rw [if_pos h, if_neg (by omega), cf_lt (by rw [List.length_replicate]; exact h), List.getElem_replicate]
  · rw [if_neg h, if_pos (by omega)]
theorem div_ex {B : List Rat} (hB : Stp B) (nB : B ≠ []) : ∀ (n : Nat) (A : List Rat), A.length ≤ n → ∃ Q R : List Rat, R.length < B.length ∧ ∀ x, ev A x = ev Q x * ev B x + ev R x := by
  have lB := List.length_pos_iff.mpr nB
  intro n
  induction n with
  | zero => intro A hA; exact ⟨[], A, by omega, fun x => by show _ = 0 * _ + _; grind⟩
  | succ n ih =>
    intro A hA
    by_cases h : A.length < B.length
    · exact ⟨[], A, h, fun x => by show _ = 0 * _ + _; grind⟩
    · have b0 := ne_last hB nB
      let c := cf A (A.length - 1) / cf B (B.length - 1)
      let k := A.length - B.length
      have hc : c * cf B (B.length - 1) = cf A (A.length - 1) := Rat.div_mul_cancel b0
      let A' := tab (A.length - 1) fun i => cf A i - c * (if k ≤ i then cf B (i - k) else 0)
      obtain ⟨Q, R, h1, h2⟩ := ih A' (by show (tab _ _).length ≤ n; rw [tab_len]; omega)
      have e : ∀ x, ev A x = ev A' x + c * (x ^ k * ev B x) := fun x => by
        have h3 : ev A x = ev (padd A' (pscale (List.replicate k (0 : Rat) ++ B) c)) x := ev_ext (fun i => by
          rw [cf_padd, cf_psc, cf_shift]
          show _ = cf (tab _ _) i + _
          rw [cf_tab]
          by_cases hi : i < A.length - 1
          · rw [if_pos hi]; grind
          · rw [if_neg hi]
            by_cases hi2 : i = A.length - 1
            · have : i - k = B.length - 1 := by show i - (A.length - B.length) = _; omega
              rw [if_pos (by show A.length - B.length ≤ i; omega), this, hi2, ← hc]; grind
            · rw [cf_ge (l := A) (by omega), if_pos (by show A.length - B.length ≤ i; omega), cf_ge (l := B) (by show B.length ≤ i - (A.length - B.length); omega)]; grind) x
        rw [h3, ev_padd, ev_pscale, ev_app, ev_rep0, List.length_replicate]; grind
      refine ⟨padd Q (List.replicate k (0 : Rat) ++ [c]), R, h1, fun x => ?_⟩
      rw [e, h2, ev_padd, ev_app, ev_rep0, List.length_replicate]
      show _ = (ev Q x + (0 + x ^ k * (c + x * 0))) * _ + _
      grind
theorem gcd_ex : ∀ (n : Nat) (A B : List Rat), Stp A → Stp B → A ≠ [] → B.length ≤ n → ∃ g k1 k2 a b : List Rat, Stp g ∧ g ≠ [] ∧ (∀ x, ev A x = ev g x * ev k1 x) ∧ (∀ x, ev B x = ev g x * ev k2 x) ∧ ∀ x, ev g x = ev a x * ev A x + ev b x * ev B x := by
  intro n
  induction n with
  | zero =>
    intro A B hA hB nA hn
    have : B = [] := List.length_eq_zero_iff.mp (by omega)
    subst this
    exact ⟨A, [1], [], [1], [], hA, nA, fun x => by show _ = _ * (1 + x * 0); grind, fun x => by show (0 : Rat) = _ * 0; grind, fun x => by show _ = (1 + x * 0) * _ + 0 * 0; grind⟩
  | succ n ih =>
    intro A B hA hB nA hn
    by_cases nB : B = []
    · exact ih A B hA hB nA (by rw [nB]; exact Nat.zero_le _)
    · obtain ⟨Q, R, h1, h2⟩ := div_ex hB nB A.length A (Nat.le_refl _)
      obtain ⟨g, k1, k2, a, b, sg, ng, e1, e2, e3⟩ := ih B (stripQ R) hB (stripQ_stp _) nB (by have := stripQ_le R; omega)
      refine ⟨g, padd (pmul Q k1) k2, k1, b, padd a (pscale (pmul b Q) (-1)), sg, ng, fun x => ?_, e1, fun x => ?_⟩
      · have := e2 x
        rw [ev_stripQ] at this
        rw [h2, e1, this, ev_padd, ev_pmul]; grind
      · have := e3 x
        rw [ev_stripQ] at this
        rw [this, ev_padd, ev_pscale, ev_pmul, h2]; grind
theorem int_scale (z : Int) (t : List Int) (x : Rat) : ev (qi (t.map (z * ·))) x = (z : Rat) * ev (qi t) x := by
  have : ev (qi (t.map (z * ·))) x = ev (pscale (qi t) (z : Rat)) x := ev_ext (fun i => by
    rw [cf_psc, cf_qi, cf_qi]
    have : ci (t.map (z * ·)) i = z * ci t i := by
      by_cases h : i < t.length
      · rw [ci_get (show (t.map (z * ·))[i]? = some (z * ci t i) by rw [List.getElem?_map, ci_lt h]; rfl)]
      · rw [ci_ge (by rw [List.length_map]; omega), ci_ge (by omega), Int.mul_zero]
    rw [this, Rat.intCast_mul]; grind) x
  rw [this, ev_pscale]; grind
theorem ci_scale (z : Int) (t : List Int) (i : Nat) : ci (t.map (z * ·)) i = z * ci t i := by
  by_cases h : i < t.length
  · rw [ci_get (show (t.map (z * ·))[i]? = some (z * ci t i) by rw [List.getElem?_map, ci_lt h]; rfl)]
  · rw [ci_ge (by rw [List.length_map]; omega), ci_ge (by omega), Int.mul_zero]
/-- each row has a primitive one -/
theorem prim_ex {L : List Rat} (hL : Stp L) (nL : L ≠ []) : ∃ (P : List Int) (k : Rat), Pm P ∧ k ≠ 0 ∧ (∀ x, ev (qi P) x = k * ev L x) ∧ P.length = L.length := by
  have lL := List.length_pos_iff.mpr nL
  have key : ∀ (n : Nat) (T : List Int) (k : Rat), T.length = L.length → 0 < ci T (T.length - 1) → (ci T (T.length - 1)).natAbs ≤ n → k ≠ 0 → (∀ x, ev (qi T) x = k * ev L x) → ∃ (P : List Int) (k : Rat), Pm P ∧ k ≠ 0 ∧ (∀ x, ev (qi P) x = k * ev L x) ∧ P.length = L.length := fun n => by
    induction n using Nat.strongRecOn with
    | _ n ih =>
      intro T k lT tT hn k0 e
      by_cases h : ∀ u : Nat, (∀ i, (u : Int) ∣ ci T i) → u = 1
      · exact ⟨T, k, ⟨fun z => by rw [z] at lT; simp at lT; omega, tT, h⟩, k0, e, lT⟩
      · have : ∃ u : Nat, (∀ i, (u : Int) ∣ ci T i) ∧ u ≠ 1 := Classical.byContradiction fun y => h fun u hu => Classical.byContradiction fun z => y ⟨u, hu, z⟩
        obtain ⟨u, hu, u1⟩ := this
        have u0 : u ≠ 0 := fun z => by
          have := hu (T.length - 1)
          rw [z] at this
          obtain ⟨y, hy⟩ := this
          rw [show ((0 : Nat) : Int) = 0 from rfl, Int.zero_mul] at hy
          omega
        have uR : (u : Rat) ≠ 0 := by exact_mod_cast u0
        have uI : (u : Rat) * (1 / (u : Rat)) = 1 := by rw [Rat.div_def, Rat.one_mul]; exact Rat.mul_inv_cancel _ uR
        have ct : ∀ i, ci (tabI T.length fun i => ci T i / u) i = ci T i / u := fun i => by
          rw [ci_tab]
          split
          · rfl
          · rw [ci_ge (by omega), Int.zero_ediv]
        have tt : ci T (T.length - 1) / (u : Int) * u = ci T (T.length - 1) := Int.ediv_mul_cancel (hu _)
        have tp : 0 < ci T (T.length - 1) / (u : Int) := Int.ediv_pos_of_pos_of_dvd tT (by omega) (hu _)
        refine ih (ci T (T.length - 1) / (u : Int)).natAbs ?_ (tabI T.length fun i => ci T i / u) (k * (1 / (u : Rat))) (by rw [tabI_len, lT]) (by rw [tabI_len, ct]; exact tp) (by rw [tabI_len, ct]; exact Nat.le_refl _) (fun z => ?_) fun x => ?_
        · have h1 : (ci T (T.length - 1) / (u : Int)).natAbs * u = (ci T (T.length - 1)).natAbs := by rw [← tt, Int.natAbs_mul, Int.natAbs_natCast, tt]
          have h2 := Nat.mul_le_mul_left (ci T (T.length - 1) / (u : Int)).natAbs (show 2 ≤ u by omega)
          omega
        · rcases Rat.mul_eq_zero.mp z with y | y
          · exact k0 y
          · rw [y, Rat.mul_zero] at uI; exact absurd uI (by decide +kernel)
        · have h1 : ev (qi T) x = ev (qi (tabI T.length fun i => ci T i / (u : Int))) x * (u : Rat) := by
            rw [← ev_pscale]
            refine ev_ext (fun i => ?_) x
            rw [cf_psc, cf_qi, cf_qi, ct]
            have := Int.ediv_mul_cancel (hu i)
            rw [← Rat.intCast_natCast, ← Rat.intCast_mul, this]
          have h2 := e x
          rw [h1] at h2
          have h3 : ev (qi (tabI T.length fun i => ci T i / (u : Int))) x = ev (qi (tabI T.length fun i => ci T i / (u : Int))) x * (u : Rat) * (1 / (u : Rat)) := by grind
          rw [h3, h2]; grind
  obtain ⟨D, D0, hD⟩ := bottom_ex L
  have DR : (D : Rat) ≠ 0 := by
    have : D ≠ 0 := by omega
    exact_mod_cast this
  obtain ⟨T, hT⟩ := whole_row (L := pscale L (D : Rat)) fun i => by rw [cf_psc]; exact hD i
  have lT : T.length = L.length := by rw [← qi_len, hT, psc_len]
  have eT : ∀ x, ev (qi T) x = (D : Rat) * ev L x := fun x => by rw [hT, ev_pscale]; grind
  have top : ci T (T.length - 1) ≠ 0 := fun z => by
    have h1 : cf (qi T) (L.length - 1) = cf L (L.length - 1) * (D : Rat) := by rw [hT, cf_psc]
    rw [cf_qi, ← lT, z] at h1
    rcases Rat.mul_eq_zero.mp h1.symm with y | y
    · rw [lT] at y
      exact ne_last hL nL y
    · exact DR y
  by_cases hp : 0 < ci T (T.length - 1)
  · exact key _ T D lT hp (Nat.le_refl _) DR eT
  · refine key _ (T.map (-1 * ·)) (-D) (by rw [List.length_map, lT]) (by rw [List.length_map, ci_scale]; omega) (Nat.le_refl _) (fun z => DR (by grind)) fun x => ?_
    rw [int_scale, eT]
    rw [show ((-1 : Int) : Rat) = -1 from rfl]
    grind
/-- all that is told of two planted rows -/
structure Two (X Y : List Int) (G c1 c2 : List Int) (B : Nat) : Prop where
  g : GdT X Y G
  p1 : Pm c1
  p2 : Pm c2
  e1 : ∀ x, ev (qi X) x = ev (qi G) x * ev (qi c1) x
  e2 : ∀ x, ev (qi Y) x = ev (qi G) x * ev (qi c2) x
  h : GdT c1 c2 [1]
  bx : ∀ i, (ci X i).natAbs ≤ B
  yb : ∀ i, (ci Y i).natAbs ≤ B
  bg : ∀ i, (ci G i).natAbs ≤ B
  b1 : ∀ i, (ci c1 i).natAbs ≤ B
  b2 : ∀ i, (ci c2 i).natAbs ≤ B
theorem pm_one : Pm [1] := ⟨by simp, by decide, fun u hu => by
  have := hu 0
  have h : (u : Int) ∣ 1 := this
  have : u ∣ 1 := by exact_mod_cast h
  exact Nat.dvd_one.mp this⟩
/-- what is left is primitive -/
theorem pm_part {X G c : List Int} (hX : Pm X) (hG : Pm G) (e : ∀ x, ev (qi X) x = ev (qi G) x * ev (qi c) x) : ∃ c' : List Int, Pm c' ∧ ∀ x, ev (qi c') x = ev (qi c) x := by
  obtain ⟨c', hc⟩ := whole_row (L := stripQ (qi c)) fun i => by rw [cf_stripQ, cf_qi]; exact Wh.int _
  have ec : ∀ x, ev (qi c') x = ev (qi c) x := fun x => by rw [hc, ev_stripQ]
  have e' : ∀ x, ev (qi X) x = ev (qi G) x * ev (qi c') x := fun x => by rw [ec, e]
  have sc : Stp (qi c') := by rw [hc]; exact stripQ_stp _
  have nc : c' ≠ [] := fun z => by
    have : qi X = [] := stp_ext hX.stp (fun _ _ z => by simp at z) (cf_of fun x => by rw [e', z]; show _ * 0 = (0 : Rat); grind)
    exact qi_ne hX.ne this
  have l1 := len_mul_eq (Z := qi X) hG.stp sc hX.stp (qi_ne hG.ne) (qi_ne nc) e'
  have lc := List.length_pos_iff.mpr nc
  have lG := List.length_pos_iff.mpr hG.ne
  rw [qi_len, qi_len, qi_len] at l1
  have et : cf (qi X) (X.length - 1) = cf (pmul (qi G) (qi c')) (X.length - 1) := cf_of (fun x => by rw [e', ev_pmul]) _
  rw [show X.length - 1 = G.length - 1 + (c'.length - 1) by omega, top_pmul (by rw [qi_len]; omega) (by rw [qi_len]; omega), cf_qi, cf_qi, cf_qi, ← Rat.intCast_mul] at et
  have et2 : ci X (G.length - 1 + (c'.length - 1)) = ci G (G.length - 1) * ci c' (c'.length - 1) := by exact_mod_cast et
  refine ⟨c', ⟨nc, ?_, fun u hu => hX.u u fun i => ?_⟩, ec⟩
  · have h1 := hX.tp
    rw [show X.length - 1 = G.length - 1 + (c'.length - 1) by omega, et2] at h1
    exact Int.pos_of_mul_pos_right h1 (by have := hG.tp; omega)
  · have e1 : ((ci X i : Int) : Rat) = ((si (fun k => ci G k * ci c' (i - k)) (i + 1) : Int) : Rat) := by
      rw [← cf_qi, cf_of (A := qi X) (B := pmul (qi G) (qi c')) (fun x => by rw [e', ev_pmul]) i, cf_pmul, si_sm]
      unfold pc
      exact sm_ext fun j _ => by rw [cf_qi, cf_qi, Rat.intCast_mul]
    have e2 : ci X i = si (fun k => ci G k * ci c' (i - k)) (i + 1) := by exact_mod_cast e1
    rw [e2]
    exact (si_mod (q := u) (f := fun k => ci G k * ci c' (i - k)) (g := i + 1) (n := i + 1) fun j _ _ => Int.dvd_mul_of_dvd_right (hu _)).1 (Nat.le_refl _)
end Vf
set_option maxRecDepth 100000
set_option exponentiation.threshold 5000
namespace Vf
theorem cpow_le {A M : Nat} (hA : A ≤ 2 ^ 62) (hM : M ≤ 15) : (2 * ((M + 1) * A)) ^ M ≤ 2 ^ (67 * M) := by
  have h1 : (M + 1) * A ≤ 2 ^ 4 * 2 ^ 62 := Nat.mul_le_mul (by omega) hA
  have h2 : 2 * ((M + 1) * A) ≤ 2 ^ 67 := by
    have := Nat.mul_le_mul_left 2 h1
    rw [← Nat.pow_add, ← Nat.pow_succ'] at this
    exact this
  rw [Nat.pow_mul]
  exact Nat.pow_le_pow_left h2 M
theorem ev_eq0 {l : List Int} (h : ∀ x, ev (qi l) x = 0) (i : Nat) : ci l i = 0 := by
  have : cf (qi l) i = cf [] i := cf_of (fun x => by rw [h]; rfl) i
  rw [cf_qi, cf_nil] at this
  exact_mod_cast this
theorem stp_nil {l : List Rat} (h : Stp l) (z : ∀ x, ev l x = 0) : l = [] := stp_ext h (fun _ _ z => by simp at z) (cf_of fun x => by rw [z]; rfl)
theorem mul_can {a b c : Rat} (h : c ≠ 0) (e : c * a = c * b) : a = b := by
  have : c * (a - b) = 0 := by grind
  rcases Rat.mul_eq_zero.mp this with z | z
  · exact absurd z h
  · grind
/-- a row that a row without end divides, by values -/
theorem ev_can {A : List Rat} (hA : Stp A) (nA : A ≠ []) {L R : List Rat} (h : ∀ x, ev A x * ev L x = ev A x * ev R x) (x : Rat) : ev L x = ev R x := by
  have := mul_zero2 hA nA (S := padd L (pscale R (-1))) (fun x => by rw [ev_padd, ev_pscale]; have := h x; grind) x
  rw [ev_padd, ev_pscale] at this
  grind
end Vf
set_option maxRecDepth 100000
set_option maxHeartbeats 8000000
namespace Vf
open PySem PySem.Spec PyProof.Rows L2
/-- T is the row without the zeros behind -/
structure Sd (ns : List Int) (T : List Int) : Prop where
  e : ∀ i, ci T i = ci ns i
  s : Stp (qi T)
  l : T.length ≤ ns.length
theorem atI_of {ns : List Int} {k : Nat} {i : Int} (h : k < ns.length) (e : i = (k : Int)) : atI (ns.map V.int) i = some (V.int (ci ns k)) := by
  subst e
  exact at_of (j := k) rfl (RI.at (H := fun _ => none) (l := (0 : Nat)) h)
theorem atI_top {ns : List Int} (h : 0 < ns.length) : atI (ns.map V.int) (-1) = some (V.int (ci ns (ns.length - 1))) :=
  at_neg (by decide) (n := ns.length - 1) (RI.at (H := fun _ => none) (l := (0 : Nat)) (by omega)) (by rw [List.length_map]; omega)
theorem ci_take (ns : List Int) (m i : Nat) : ci (ns.take m) i = if i < m then ci ns i else 0 := by
  by_cases h : i < ns.length ∧ i < m
  · rw [if_pos h.2, ci_get (show (ns.take m)[i]? = some (ci ns i) by rw [List.getElem?_take, if_pos h.2, ci_lt h.1])]
  · rw [ci_ge (by rw [List.length_take]; omega)]
    by_cases hm : i < m
    · rw [if_pos hm, ci_ge (by omega)]
    · rw [if_neg hm]
theorem stp_take {ns : List Int} {m : Nat} (hm : m ≤ ns.length) (h : m = 0 ∨ ci ns (m - 1) ≠ 0) : Stp (qi (ns.take m)) := by
  intro r x e
  have h1 := congrArg List.length e
  rw [qi_len, List.length_append, List.length_take] at h1
  simp only [List.length_cons, List.length_nil] at h1
  rcases h with z | z
  · omega
  · have h2 : cf (qi (ns.take m)) (m - 1) = x := by
      rw [e, cf_app, if_neg (by omega), show m - 1 - r.length = 0 by omega]
      rfl
    rw [cf_qi, ci_take, if_pos (by omega)] at h2
    rw [← h2]
    exact_mod_cast z
def spStrip : Sp := fun vs H Q _ => ∃ (l : Addr) (ns : List Int), vs = [.ref l] ∧ RI H l ns ∧ ∀ (l' : Addr) (T : List Int) (H' : Hp), Same H H' → RI H' l' T → Sd ns T → Q (.ref l') H'
structure Res (p : Int) (ns T : List Int) : Prop where
  e : ∀ i, ci T i = ci ns i % p
  s : Stp (qi T)
  l : T.length ≤ ns.length
def spRes : Sp := fun vs H Q _ => ∃ (l : Addr) (ns : List Int) (p : Int), vs = [.ref l, .int p] ∧ RI H l ns ∧ ns.length ≤ 1000 ∧ 0 < p ∧ ∀ (l' : Addr) (T : List Int) (H' : Hp), Same H H' → RI H' l' T → Res p ns T → Q (.ref l') H'
structure Wl (A B : List Int) (f g : Int) (T : List Int) : Prop where
  e : ∀ i, ci T i = f * ci A i - g * (if A.length - B.length ≤ i then ci B (i - (A.length - B.length)) else 0)
  s : Stp (qi T)
  l : T.length ≤ A.length
def spWl : Sp := fun vs H Q _ => ∃ (l1 l2 : Addr) (A B : List Int) (f g : Int), vs = [.ref l1, .ref l2, .int f, .int g] ∧ RI H l1 A ∧ RI H l2 B ∧ A.length ≤ 100 ∧ B.length ≤ A.length ∧ (∀ i, CMulW f (ci A i)) ∧ (∀ i, CMulW g (ci B i)) ∧
  ∀ (l' : Addr) (T : List Int) (H' : Hp), Same H H' → RI H' l' T → Wl A B f g T → Q (.ref l') H'
section
variable {P : Program} {w : World} {K : PySem.W.Frag} {mg : Str → Option Value} {base : Heap} {CP CR CN CI : Addr}
abbrev sStrip : Stmt := topS 2
theorem scStrip : FnScope ["row", "many"] ["row"] (defScope sStrip) := ⟨rfl, rfl, rfl, by decide +kernel, rfl, by decide +kernel, by decide +kernel⟩
theorem ok_strip {f : Addr} {fd : FuncData} (F : Fun K "stripped" "stripped" sStrip f fd) (T : Bk mg) : FnOk P w K mg base CX0 1 f fd ["row"] spStrip := by
  refine F.ok scStrip (fun vs H Q E h => ?_) (fun cdv A outer s H vs Q E hr h => ?_)
  · obtain ⟨l, ns, rfl, _⟩ := h
    rfl
  · obtain ⟨l, ns, rfl, hl, q⟩ := h
    refine ⟨_, (pss_cons (ps_set (i := 1) scStrip.nd rfl (Or.inl rfl) (pe_callB call_len_seq (by rfl) T.len (by decide +kernel) (pa_cons (pv 0) pa_nil)))
  (pss_cons (ps_while PassesOwn.never (PW.pt (pw_and (pt_cmpR op_gt (pv 1) pe_int (nomark _)) (pw_and1 (pt_cmpR op_eq (pe_ix ix_list (pv 0) (pe_op op_sub (pv 1) pe_int) (fun _ _ => rfl)) pe_int (nomark _)))))
    (pss_one (ps_set (i := 1) scStrip.nd rfl (Or.inl rfl) (pe_op op_sub (pv 1) pe_int))))
  (pss_one (ps_ret (pe_slice sl_list (pv 0) po_none (po_some (pv 1))))))), ?_⟩
    refine ⟨_, rfl, l, _, rfl, .inl (SqL.of hl), ?_⟩
    rw [List.length_map]
    refine ⟨fun m σ H' => H' = H ∧ σ = [some (.ref l), some (.int (m : Int))] ∧ m ≤ ns.length ∧ ∀ i, m ≤ i → ci ns i = 0, ⟨ns.length, rfl, rfl, Nat.le_refl _, fun i hi => ci_ge hi⟩, ?_⟩
    rintro m σ H' ⟨rfl, rfl, hm, hz⟩
    have sd : m = 0 ∨ ci ns (m - 1) ≠ 0 → Sd ns (ns.take m) := fun z => ⟨fun i => by
      rw [ci_take]
      by_cases hi : i < m
      · rw [if_pos hi]
      · rw [if_neg hi, hz i (by omega)], stp_take hm z, by rw [List.length_take]; omega⟩
    have made : ∀ l' : Addr, RI (upd H' l' (.lst (cutV (ns.map V.int) none (some (m : Int))))) l' (ns.take m) := fun l' => by
      show upd _ _ _ _ = _
      rw [upd_same, cut_to, List.map_take]
    refine ⟨_, rfl, _, _, rfl, rfl, _, rfl, ?_⟩
    by_cases m0 : m = 0
    · subst m0
      rw [decide_eq_false (by omega)]
      refine iteF ?_
      refine iteF ?_
      exact ⟨_, rfl, _, rfl, _, rfl, l, _, rfl, SqL.of hl, fun l' nl => q l' _ _ (same_upd nl) (made l') (sd (.inl rfl))⟩
    · rw [decide_eq_true (by omega)]
      refine iteT ?_
      refine ⟨_, rfl, _, rfl, _, _, rfl, rfl, l, _, _, _, rfl, rfl, SqL.of hl, atI_of (k := m - 1) (by omega) (by omega), rfl, _, rfl, ?_⟩
      by_cases z : ci ns (m - 1) = 0
      · rw [decide_eq_true (by rw [z])]
        refine iteT ?_
        refine ⟨fun σ' H2 => H2 = H' ∧ σ' = [some (.ref l), some (.int ((m - 1 : Nat) : Int))], fun σ' H2 ⟨e1, e2⟩ => ⟨m - 1, by omega, e1, e2, by omega, fun i hi => ?_⟩, ?_⟩
        · by_cases e : i = m - 1
          · rw [e, z]
          · exact hz i (by omega)
        · refine ⟨_, rfl, _, _, rfl, rfl, rfl, ?_⟩
          rw [show ((m - 1 : Nat) : Int) = (m : Int) - 1 by omega]
          rfl
      · rw [decide_eq_false (fun y => z (by injection y))]
        refine iteF ?_
        exact ⟨_, rfl, _, rfl, _, rfl, l, _, rfl, SqL.of hl, fun l' nl => q l' _ _ (same_upd nl) (made l') (sd (.inr z))⟩
abbrev sRes : Stmt := topS 15
theorem scRes : FnScope ["row", "prime", "number"] ["row", "prime"] (defScope sRes) := ⟨rfl, rfl, rfl, by decide +kernel, rfl, by decide +kernel, by decide +kernel⟩
theorem ok_res {f : Addr} {fd : FuncData} (F : Fun K "residues" "residues" sRes f fd) (G_stripped : Df P w K mg base "stripped" 1 ["row"] spStrip) : FnOk P w K mg base CX0 2 f fd ["row", "prime"] spRes := by
  refine F.ok scRes (fun vs H Q E h => ?_) (fun cdv A outer s H vs Q E hr h => ?_)
  · obtain ⟨l, ns, p, rfl, _⟩ := h
    rfl
  · obtain ⟨l, ns, p, rfl, hl, ln, p0, q⟩ := h
    refine ⟨_, (pss_one (ps_ret (pe_call G_stripped.ok (hr.mono (by decide)) rfl G_stripped.m G_stripped.kp G_stripped.b .nil pass0 (pa_cons (pe_lc (own := [("number", 2)]) (g := (gName 2)) (tt := tYes) rfl scRes.nd (pi_seq (pv 0)) (blkOk_by (N := ["row", "prime", "number"]) (sc := defScope sRes) (by decide +kernel)) (fun _ _ _ _ _ => pg_name (i := 2) scRes.nd rfl (Or.inl rfl)) (fun _ _ _ _ _ => pts_nil) (fun _ _ _ _ _ => (pe_op op_mod (pv 2) (pv 1)))) pa_nil)))), ?_⟩
    refine ⟨_, rfl, l, rfl, lc_seq (xs := ns.map V.int) (.inl (SqL.of hl)) (fun D i H' => Same H H' ∧ H' D = some (.lst ((tabI i fun i => ci ns i % p).map V.int))) ?_ ?_ ?_ ?_⟩
    · intro D hD
      exact ⟨same_upd hD, upd_same⟩
    · intro D i H2 hD ⟨s2, _⟩
      exact ⟨same_sqL s2, same_sqT s2⟩
    · intro D i x H' hD hi ⟨ss, eD⟩
      have hi' : i < ns.length := by
        have := (List.getElem?_eq_some_iff.mp hi).1
        rw [List.length_map] at this
        exact this
      rw [List.getElem?_map, ci_lt hi'] at hi
      cases hi
      refine ⟨rfl, ?_⟩
      refine ⟨_, rfl, _, rfl, _, _, rfl, rfl, p0, ?_⟩
      refine ⟨_, eD, (by rw [List.length_map, tabI_len, sizeLine_eq]; omega), fun b o e => ?_, ?_⟩
      · rw [upd_ne (ne_of_none e hD)]
        exact ss _ _ e
      · rw [upd_same, tabI_snoc, List.map_append]
        rfl
    · intro D H' hD ⟨ss, eD⟩
      rw [List.length_map] at eD
      refine ⟨D, _, rfl, eD, fun l' U H2 s2 hl' S => q l' U H2 (ss.trans s2) hl' ⟨fun i => ?_, S.s, ?_⟩⟩
      · rw [S.e, ci_tab]
        split
        · rfl
        · rw [ci_ge (by omega), Int.zero_emod]
      · have := S.l
        rw [tabI_len] at this
        exact this
abbrev sWl : Stmt := topS 6
theorem scWl : FnScope ["one", "other", "factor", "number", "moved", "item", "low"] ["one", "other", "factor", "number"] (defScope sWl) := ⟨rfl, rfl, rfl, by decide +kernel, rfl, by decide +kernel, by decide +kernel⟩
theorem ok_wl {f : Addr} {fd : FuncData} (F : Fun K "without_lead" "without_lead" sWl f fd) (T : Bk mg) (hzip : mg "zip" = none) (G_stripped : Df P w K mg base "stripped" 1 ["row"] spStrip) : FnOk P w K mg base CX0 2 f fd ["one", "other", "factor", "number"] spWl := by
  refine F.ok scWl (fun vs H Q E h => ?_) (fun cdv A outer s H vs Q E hr h => ?_)
  · obtain ⟨l1, l2, A, B, f, g, rfl, _⟩ := h
    rfl
  · obtain ⟨l1, l2, A, B, f, g, rfl, h1, h2, lA, lB, cA, cB, q⟩ := h
    refine ⟨_, (pss_cons (ps_set (i := 4) scWl.nd rfl (Or.inl rfl) (pe_op op_cat (pe_op op_rep (pe_lst (pa_cons pe_int pa_nil)) (pe_op op_sub (pe_callB call_len_seq (by rfl) T.len (by decide +kernel) (pa_cons (pv 0) pa_nil)) (pe_callB call_len_seq (by rfl) T.len (by decide +kernel) (pa_cons (pv 1) pa_nil)))) (pe_callTy call_list_of (by rfl) T.list (by decide +kernel) (pa_cons (pv 1) pa_nil))))
  (pss_one (ps_ret (pe_call G_stripped.ok (hr.mono (by decide)) rfl G_stripped.m G_stripped.kp G_stripped.b .nil pass0 (pa_cons (pe_lc (own := [("item", 5), ("low", 6)]) (g := (gTup K 2 (gCons (gName 5) (gCons (gName 6) gNil)))) (tt := tYes) rfl scWl.nd (pi_zipB (by rfl) hzip (pa_cons (pv 0) (pa_cons (pv 4) pa_nil))) (blkOk_by (N := ["one", "other", "factor", "number", "moved", "item", "low"]) (sc := defScope sWl) (by decide +kernel)) (fun _ _ _ _ _ => pg_tup rfl (pgs_cons (pg_name (i := 5) scWl.nd rfl (Or.inl rfl)) (pgs_cons (pg_name (i := 6) scWl.nd rfl (Or.inl rfl)) pgs_nil))) (fun _ _ _ _ _ => pts_nil) (fun _ _ _ _ _ => (pe_op op_sub (pe_op op_mulW (pv 2) (pv 5)) (pe_op op_mulW (pv 3) (pv 6))))) pa_nil))))), ?_⟩
    refine ⟨(by show 1 ≤ sizeLine; decide), fun k1 nk1 => ?_⟩
    have ek1 : upd H k1 (HO.lst [V.int 0]) k1 = some (HO.lst [V.int 0]) := upd_same
    have s1 : Same H (upd H k1 (HO.lst [V.int 0])) := same_upd nk1
    generalize upd H k1 (HO.lst [V.int 0]) = H1 at ek1 s1 ⊢
    refine ⟨_, rfl, l1, _, rfl, .inl (SqL.of (s1 _ _ h1)), _, rfl, l2, _, rfl, .inl (SqL.of (s1 _ _ h2)), _, _, rfl, rfl, ?_⟩
    rw [List.length_map, List.length_map]
    obtain ⟨k, hk⟩ : ∃ k, A.length = k + B.length := ⟨A.length - B.length, by omega⟩
    have ek : ((A.length : Nat) : Int) - ((B.length : Nat) : Int) = ((k : Nat) : Int) := by omega
    refine ⟨k1, ((k : Nat) : Int), _, rfl, congrArg V.int ek, ek1, by omega, by omega, (by rw [sizeLine_eq]; show 1 * _ ≤ _; omega), fun k2 nk2 => ?_⟩
    have er : (List.replicate ((k : Nat) : Int).toNat [V.int 0]).flatten = (List.replicate k (0 : Int)).map V.int := by
      rw [Int.toNat_natCast]
      clear hk ek
      induction k with
      | zero => rfl
      | succ k ih =>
        rw [List.replicate_succ, List.flatten_cons, ih, List.replicate_succ]
        rfl
    rw [er]
    have ek2 : upd H1 k2 (HO.lst ((List.replicate k (0 : Int)).map V.int)) k2 = some (HO.lst ((List.replicate k (0 : Int)).map V.int)) := upd_same
    have s2 : Same H1 (upd H1 k2 (HO.lst ((List.replicate k (0 : Int)).map V.int))) := same_upd nk2
    generalize upd H1 k2 (HO.lst ((List.replicate k (0 : Int)).map V.int)) = H2 at ek2 s2 ⊢
    refine ⟨_, rfl, l2, _, rfl, .inl (SqL.of (s2 _ _ (s1 _ _ h2))), fun k3 nk3 => ?_⟩
    have ek3 : upd H2 k3 (HO.lst (B.map V.int)) k3 = some (HO.lst (B.map V.int)) := upd_same
    have s3 : Same H2 (upd H2 k3 (HO.lst (B.map V.int))) := same_upd nk3
    generalize upd H2 k3 (HO.lst (B.map V.int)) = H3 at ek3 s3 ⊢
    refine ⟨k2, k3, _, _, rfl, rfl, s3 _ _ ek2, ek3, (by rw [List.length_map, List.length_map, List.length_replicate, sizeLine_eq]; omega), fun k4 nk4 => ?_⟩
    have em : (List.replicate k (0 : Int)).map V.int ++ B.map V.int = (List.replicate k (0 : Int) ++ B).map V.int := List.map_append.symm
    rw [em]
    have ek4 : upd H3 k4 (HO.lst ((List.replicate k (0 : Int) ++ B).map V.int)) k4 = some (HO.lst ((List.replicate k (0 : Int) ++ B).map V.int)) := upd_same
    have s4 : Same H3 (upd H3 k4 (HO.lst ((List.replicate k (0 : Int) ++ B).map V.int))) := same_upd nk4
    generalize upd H3 k4 (HO.lst ((List.replicate k (0 : Int) ++ B).map V.int)) = H4 at ek4 s4 ⊢
    have s04 : Same H H4 := s1.trans (s2.trans (s3.trans s4))
    have lM : (List.replicate k (0 : Int) ++ B).length = A.length := by rw [List.length_append, List.length_replicate]; omega
    have cM : ∀ i, ci (List.replicate k (0 : Int) ++ B) i = if k ≤ i then ci B (i - k) else 0 := fun i => by
      have h := cf_shift k (qi B) i
      have e : qi (List.replicate k (0 : Int) ++ B) = List.replicate k (0 : Rat) ++ qi B := by
        rw [qi_app]
        congr 1
        unfold qi
        rw [List.map_replicate]
        rfl
      rw [← e, cf_qi] at h
      split at h
      · rename_i z
        rw [cf_qi] at h
        rw [if_pos z]
        exact_mod_cast h
      · rename_i z
        rw [if_neg z]
        exact_mod_cast h
    refine ⟨_, rfl, _, rfl, true, true, l1, k4, A.map V.int, (List.replicate k (0 : Int) ++ B).map V.int, rfl, SqL.of (s04 _ _ h1), SqL.of ek4, fun D nD => lc_zipM A.length (by rw [List.length_map, List.length_map, lM, Nat.min_self]) (fun i H5 => Same H4 H5 ∧ RI H5 D (tabI i fun i => f * ci A i - g * ci (List.replicate k (0 : Int) ++ B) i)) ⟨same_upd nD, upd_same⟩ (fun i H5 ⟨s5, _⟩ => ⟨SqL.of (s5 _ _ (s04 _ _ h1)), SqL.of (s5 _ _ ek4)⟩) ?_ ?_⟩
    · intro i x y U H5 hi hx hy ⟨s5, e5⟩ nU
      rw [List.getElem?_map, ci_lt hi] at hx
      cases hx
      rw [List.getElem?_map, ci_lt (by rw [lM]; exact hi)] at hy
      cases hy
      have nUD : D ≠ U := ne_of_none e5 nU
      have sU : Same H5 (upd H5 U (.tup [.int (ci A i), .int (ci (List.replicate k (0 : Int) ++ B) i)])) := same_upd nU
      refine ⟨U, _, rfl, SqT.of upd_same, rfl, _, _, rfl, _, _, rfl, rfl, rfl, ?_⟩
      refine ⟨_, rfl, _, rfl, _, _, rfl, rfl, cA i, _, rfl, _, rfl, _, _, rfl, rfl, ?_, _, _, rfl, rfl, ?_⟩
      · rw [cM]
        split
        · exact cB _
        · exact cB B.length |> fun z => by rw [ci_ge (Nat.le_refl _)] at z; exact z
      refine ⟨_, sU _ _ e5, (by rw [List.length_map, tabI_len, sizeLine_eq]; omega), fun b' o' e' => ?_, ?_⟩
      · rw [upd_ne (ne_of_none e' nD)]
        exact sU _ _ (s5 _ _ e')
      · show upd _ D _ D = _
        rw [upd_same, tabI_snoc, List.map_append]
        rfl
    · intro H5 ⟨s5, e5⟩
      refine ⟨D, _, rfl, e5, fun l' U H6 s6 hl' S => q l' U H6 (s04.trans (s5.trans s6)) hl' ⟨fun i => ?_, S.s, ?_⟩⟩
      · rw [S.e, ci_tab, show A.length - B.length = k by omega, ← cM]
        split
        · rfl
        · rw [ci_ge (l := A) (by omega), ci_ge (l := List.replicate k (0 : Int) ++ B) (by omega), Int.mul_zero, Int.mul_zero]
          rfl
      · have := S.l
        rw [tabI_len] at this
        exact this
end
end Vf
set_option maxRecDepth 100000
set_option maxHeartbeats 8000000
namespace Vf
open PySem PySem.Spec PyProof.Rows L2
def spNear : Sp := fun vs H Q _ => ∃ n p : Int, vs = [.int n, .int p] ∧ 0 < p ∧ p.natAbs < 2 ^ 4430 ∧ Q (.int (nres p n)) H
def spInv : Sp := fun vs H Q _ => ∃ (a : Int) (p : Nat), vs = [.int a, .int (p : Int)] ∧ Pr p ∧ p < 2 ^ 4430 ∧ ¬ (p : Int) ∣ a ∧ ∀ (w : Int) (H' : Hp), Same H H' → (p : Int) ∣ w * a - 1 → 0 ≤ w → w < p → Q (.int w) H'
/-- Euclid's laps, with what makes the rests -/
def InvW (a : Int) (p : Nat) (H0 : Hp) : Nat → L2.St → Hp → Prop := fun m σ H2 => ∃ (hi lo c d : Int) (v : Option V), σ = [some (.int a), some (.int (p : Int)), some (.int hi), some (.int lo), some (.int c), some (.int d), v] ∧ Same H0 H2 ∧ m = lo.toNat ∧ 0 < lo ∧ lo < hi ∧ hi ≤ p ∧ Nat.gcd hi.toNat lo.toNat = 1 ∧ (p : Int) ∣ c * a - hi ∧ (p : Int) ∣ d * a - lo ∧ c.natAbs * lo.toNat + d.natAbs * hi.toNat ≤ p
/-- a primitive row that is the row by a number -/
structure Pw (ns T : List Int) : Prop where
  p : Pm T
  l : T.length = ns.length
  e : ∃ k : Int, k ≠ 0 ∧ ∀ i, ci ns i = k * ci T i
def spPrim : Sp := fun vs H Q _ => ∃ (l : Addr) (ns : List Int), vs = [.ref l] ∧ RI H l ns ∧ ns ≠ [] ∧ ns.length ≤ 100 ∧ ci ns (ns.length - 1) ≠ 0 ∧ (∀ i, (ci ns i).natAbs < 2 ^ 8800) ∧ ∀ (l' : Addr) (T : List Int) (H' : Hp), Same H H' → RI H' l' T → Pw ns T → Q (.ref l') H'
theorem fdiv_of {a j c : Int} (hj : j ≠ 0) (h : a = j * c) : a.fdiv j = c := by
  subst h
  exact Int.mul_fdiv_cancel_left c hj
section
variable {P : Program} {w : World} {K : PySem.W.Frag} {mg : Str → Option Value} {base : Heap} {CP CR CN CI : Addr}
abbrev sNear : Stmt := topS 16
theorem scNear : FnScope ["number", "prime", "residue"] ["number", "prime"] (defScope sNear) := ⟨rfl, rfl, rfl, by decide +kernel, rfl, by decide +kernel, by decide +kernel⟩
theorem ok_near {f : Addr} {fd : FuncData} (F : Fun K "nearest_residue" "nearest_residue" sNear f fd) : FnOk P w K mg base CX0 1 f fd ["number", "prime"] spNear := by
  refine F.ok scNear (fun vs H Q E h => ?_) (fun cdv A outer s H vs Q E hr h => ?_)
  · obtain ⟨n, p, rfl, _⟩ := h
    rfl
  · obtain ⟨n, p, rfl, p0, pb, q⟩ := h
    refine ⟨_, (pss_cons (ps_set (i := 2) scNear.nd rfl (Or.inl rfl) (pe_op op_mod (pv 0) (pv 1)))
  (pss_one (ps_ret (pe_ifExp (pt_cmpR op_gt (pe_op op_mulW pe_int (pv 2)) (pv 1) (nomark _)) (pe_op op_sub (pv 2) (pv 1)) (pv 2))))), ?_⟩
    have h1 := Int.emod_nonneg n (show p ≠ 0 by omega)
    have h2 := Int.emod_lt_of_pos n p0
    refine ⟨_, rfl, _, rfl, _, _, rfl, rfl, p0, ?_⟩
    refine ⟨_, rfl, _, _, rfl, rfl, wide_mul (a := 10) (b := 4430) (by decide) (by omega) (by decide) (by decide) (by decide), _, rfl, _, _, rfl, rfl, ?_⟩
    show ∃ k, V.bl (decide (p < 2 * (n % p))) = V.bl k ∧ _
    unfold nres at q
    by_cases z : 2 * (n % p) > p
    · rw [if_pos z] at q
      refine ⟨true, congrArg V.bl (decide_eq_true z), ?_⟩
      refine iteT ?_
      exact ⟨_, rfl, _, rfl, _, _, rfl, rfl, q⟩
    · rw [if_neg z] at q
      refine ⟨false, congrArg V.bl (decide_eq_false z), ?_⟩
      refine iteF ?_
      exact ⟨_, rfl, q⟩
abbrev sInv : Stmt := topS 17
theorem scInv : FnScope ["number", "prime", "high", "low", "high_part", "low_part", "many"] ["number", "prime"] (defScope sInv) := ⟨rfl, rfl, rfl, by decide +kernel, rfl, by decide +kernel, by decide +kernel⟩
theorem ok_inv {f : Addr} {fd : FuncData} (F : Fun K "inverse" "inverse" sInv f fd) : FnOk P w K mg base CX0 1 f fd ["number", "prime"] spInv := by
  refine F.ok scInv (fun vs H Q E h => ?_) (fun cdv A outer s H vs Q E hr h => ?_)
  · obtain ⟨a, p, rfl, _⟩ := h
    rfl
  · obtain ⟨a, p, rfl, hp, pb, ha, q⟩ := h
    refine ⟨_, (pss_cons (ps_par (i := 2) (j := 3) (by rfl) scInv.nd rfl rfl (by decide) rfl rfl (pa_cons (pv 1) (pa_cons (pe_op op_mod (pv 0) (pv 1)) pa_nil)) (by rfl))
  (pss_cons (ps_asg (pe_tup (pa_cons pe_int (pa_cons pe_int pa_nil))) (pg_tup (by rfl) (pgs_cons (pg_name (i := 4) scInv.nd rfl (Or.inl rfl)) (pgs_cons (pg_name (i := 5) scInv.nd rfl (Or.inl rfl)) pgs_nil))))
  (pss_cons (ps_while PassesOwn.never (pt_cmpR op_gt (pv 3) pe_int (nomark _))
    (pss_cons (ps_set (i := 6) scInv.nd rfl (Or.inl rfl) (pe_op op_fdivW (pv 2) (pv 3)))
    (pss_cons (ps_par (i := 2) (j := 3) (by rfl) scInv.nd rfl rfl (by decide) rfl rfl (pa_cons (pv 3) (pa_cons (pe_op op_sub (pv 2) (pe_op op_mulW (pv 6) (pv 3))) pa_nil)) (by rfl))
    (pss_one (ps_par (i := 4) (j := 5) (by rfl) scInv.nd rfl rfl (by decide) rfl rfl (pa_cons (pv 5) (pa_cons (pe_op op_sub (pv 4) (pe_op op_mulW (pv 6) (pv 5))) pa_nil)) (by rfl))))))
  (pss_one (ps_ret (pe_op op_mod (pv 5) (pv 1))))))), ?_⟩
    have p1 := hp.1
    have h1 := Int.emod_nonneg a (show (p : Int) ≠ 0 by omega)
    have h2 := Int.emod_lt_of_pos a (show (0 : Int) < p by omega)
    refine par_two ?_
    refine ⟨_, rfl, _, rfl, _, rfl, _, _, rfl, rfl, (by show (0 : Int) < p; omega), ?_⟩
    refine ⟨(by show 2 ≤ sizeLine; decide), fun t0 nt0 => ?_⟩
    have et0 : upd H t0 (HO.tup [V.int 0, V.int 1]) t0 = some (HO.tup [V.int 0, V.int 1]) := upd_same
    have st0 : Same H (upd H t0 (HO.tup [V.int 0, V.int 1])) := same_upd nt0
    generalize upd H t0 (HO.tup [V.int 0, V.int 1]) = H1 at et0 st0 ⊢
    refine ⟨t0, _, rfl, SqT.of et0, rfl, _, _, rfl, _, _, rfl, rfl, ?_⟩
    refine ⟨InvW a p H, ⟨_, (p : Int), a % (p : Int), 0, 1, none, rfl, st0, rfl, ?_, h2, Int.le_refl _, ?_, ⟨-1, by omega⟩, ?_, ?_⟩, ?_⟩
    · rcases Int.lt_or_eq_of_le h1 with z | z
      · exact z
      · exact absurd (Int.dvd_of_emod_eq_zero z.symm) ha
    · rw [Int.toNat_natCast, Nat.gcd_comm]
      refine hp.cop fun z => ha ?_
      have : (p : Int) ∣ a % (p : Int) := by
        have h3 : ((a % (p : Int)).toNat : Int) = a % (p : Int) := Int.toNat_of_nonneg h1
        rw [← h3]
        exact_mod_cast z
      have h5 := Int.mul_ediv_add_emod a p
      rw [← h5]
      exact Int.dvd_add (Int.dvd_mul_right _ _) this
    · have := Int.mul_ediv_add_emod a p
      exact ⟨a / p, by grind⟩
    · rw [Int.toNat_natCast]
      show 0 * _ + 1 * p ≤ p
      omega
    · rintro m σ H2 ⟨hi, lo, c, d, v, rfl, ss, rfl, lo0, lh, hip, cop, dc, dd, sz⟩
      refine ⟨_, rfl, _, _, rfl, rfl, ?_⟩
      show ∃ k, V.bl (decide (1 < lo)) = V.bl k ∧ _
      by_cases z : 1 < lo
      · refine ⟨true, congrArg V.bl (decide_eq_true z), ?_⟩
        refine iteT ?_
        have hib : hi.natAbs < 2 ^ 4430 := by omega
        have hd := Int.mul_ediv_add_emod hi lo
        have m0 := Int.emod_nonneg hi (show lo ≠ 0 by omega)
        have m1 := Int.emod_lt_of_pos hi lo0
        have k0 : 0 ≤ hi / lo := Int.ediv_nonneg (by omega) (by omega)
        have kb : hi / lo ≤ hi := Int.ediv_le_self _ (by omega)
        have e1 : hi - hi / lo * lo = hi % lo := by
          have : hi / lo * lo = lo * (hi / lo) := Int.mul_comm _ _
          omega
        have nz : 0 < hi % lo := by
          rcases Int.lt_or_eq_of_le m0 with y | y
          · exact y
          · exfalso
            have h5 : lo ∣ hi := Int.dvd_of_emod_eq_zero y.symm
            have h6 : lo.toNat ∣ hi.toNat := by
              have : ((lo.toNat : Nat) : Int) ∣ ((hi.toNat : Nat) : Int) := by rw [Int.toNat_of_nonneg (by omega), Int.toNat_of_nonneg (by omega)]; exact h5
              exact_mod_cast this
            have h7 := Nat.gcd_eq_right h6
            omega
        have cop' : Nat.gcd lo.toNat (hi % lo).toNat = 1 := by
          have h7 : (hi % lo).toNat = hi.toNat % lo.toNat := by
            have : ((hi % lo).toNat : Int) = ((hi.toNat % lo.toNat : Nat) : Int) := by
              rw [Int.toNat_of_nonneg m0, Int.natCast_emod, Int.toNat_of_nonneg (by omega), Int.toNat_of_nonneg (by omega)]
            exact_mod_cast this
          rw [h7, Nat.gcd_comm, ← Nat.gcd_rec, Nat.gcd_comm]
          exact cop
        have db : d.natAbs ≤ p := by
          have := Nat.le_mul_of_pos_right d.natAbs (show 0 < hi.toNat by omega)
          omega
        refine ⟨fun σ' H' => InvW a p H (hi % lo).toNat σ' H', fun σ' H' z => ⟨_, by omega, z⟩, ?_⟩
        refine ⟨_, rfl, _, rfl, _, _, rfl, rfl, wide_div (b := 4430) lo0 (by omega) (by decide) (by decide), ?_⟩
        dsimp only [gName]
        trace_state
        refine par_two ?_
        refine ⟨_, rfl, _, rfl, _, rfl, _, rfl, _, _, rfl, rfl, wide_mul (a := 4430) (b := 4430) (by omega) (by omega) (by decide) (by decide) (by decide), _, _, rfl, rfl, ?_⟩
        refine par_one ?_
        refine ⟨_, rfl, _, rfl, _, rfl, _, rfl, _, _, rfl, rfl, wide_mul (a := 4430) (b := 4430) (by omega) (by omega) (by decide) (by decide) (by decide), _, _, rfl, rfl, ?_⟩
        refine ⟨lo, hi % lo, d, c - hi / lo * d, some (.int (hi / lo)), ?_, ss, rfl, nz, m1, by omega, cop', dd, ?_, ?_⟩
        · rw [← e1]
          rfl
        · obtain ⟨y, hy⟩ := dc
          obtain ⟨x, hx⟩ := dd
          rw [← e1]
          exact ⟨y - hi / lo * x, by grind⟩
        · have h8 : (c - hi / lo * d).natAbs ≤ c.natAbs + (hi / lo).natAbs * d.natAbs := by
            have := Int.natAbs_sub_le c (hi / lo * d)
            rw [Int.natAbs_mul] at this
            exact this
          have h9 : lo.toNat * (hi / lo).natAbs + (hi % lo).toNat = hi.toNat := by
            have : ((lo.toNat * (hi / lo).natAbs + (hi % lo).toNat : Nat) : Int) = ((hi.toNat : Nat) : Int) := by
              rw [Int.natCast_add, Int.natCast_mul, Int.toNat_of_nonneg (by omega), Int.toNat_of_nonneg m0, Int.toNat_of_nonneg (by omega), Int.natAbs_of_nonneg k0]
              exact hd
            exact_mod_cast this
          have h10 := Nat.mul_le_mul_right lo.toNat h8
          generalize (c - hi / lo * d).natAbs = x at *
          generalize (hi / lo).natAbs = y at *
          generalize (hi % lo).toNat = z at *
          generalize lo.toNat = l at *
          generalize hi.toNat = h at *
          generalize c.natAbs = c' at *
          generalize d.natAbs = d' at *
          have e : d' * h = d' * l * y + d' * z := by rw [← h9, Nat.mul_add, Nat.mul_assoc]
          have e2 : (c' + y * d') * l = c' * l + d' * l * y := by
            rw [Nat.add_mul]
            congr 1
            rw [Nat.mul_comm y d', Nat.mul_assoc, Nat.mul_comm y l, ← Nat.mul_assoc]
          omega
      · refine ⟨false, congrArg V.bl (decide_eq_false z), ?_⟩
        refine iteF ?_
        have l1 : lo = 1 := by omega
        subst l1
        refine ⟨_, rfl, _, rfl, _, _, rfl, rfl, (by show (0 : Int) < p; omega), ?_⟩
        have r1 := Int.emod_nonneg d (show (p : Int) ≠ 0 by omega)
        have r2 := Int.emod_lt_of_pos d (show (0 : Int) < p by omega)
        refine q _ H2 ss ?_ r1 r2
        obtain ⟨y, hy⟩ := dd
        have := Int.mul_ediv_add_emod d p
        exact ⟨y - d / p * a, by grind⟩
end
end Vf
set_option maxRecDepth 100000
set_option maxHeartbeats 8000000
namespace Vf
open PySem PySem.Spec PyProof.Rows L2
theorem seq_step {X rest : TS} {D : L2.Ends} {σ : L2.St} {H : Hp} (Pv : L2.St → Hp → Prop) (h1 : ∀ k : L2.St → Hp → Prop, (∀ σ' H', Pv σ' H' → k σ' H') → X { D with nx := k } σ H) (h2 : ∀ σ' H', Pv σ' H' → rest D σ' H') : tSeq X rest D σ H := h1 _ h2
section
variable {P : Program} {w : World} {K : PySem.W.Frag} {mg : Str → Option Value} {base : Heap} {CP CR CN CI : Addr}
abbrev sPrim : Stmt := topS 5
theorem scPrim : FnScope ["row", "shared", "number"] ["row"] (defScope sPrim) := ⟨rfl, rfl, rfl, by decide +kernel, rfl, by decide +kernel, by decide +kernel⟩
theorem ok_prim {f : Addr} {fd : FuncData} (F : Fun K "primitive_row" "primitive_row" sPrim f fd) (T : Bk mg) : FnOk P w K mg base CX0 1 f fd ["row"] spPrim := by
  refine F.ok scPrim (fun vs H Q E h => ?_) (fun cdv A outer s H vs Q E hr h => ?_)
  · obtain ⟨l, ns, rfl, _⟩ := h
    rfl
  · obtain ⟨l, ns, rfl, hl, ne, ln, top, sz, q⟩ := h
    have l0 := List.length_pos_iff.mpr ne
    refine ⟨_, (pss_cons (ps_set (i := 1) scPrim.nd rfl (Or.inr rfl) pe_int)
  (pss_cons (ps_for PassesOwn.never rfl (pi_seq (pv 0)) (pg_name (i := 2) scPrim.nd rfl (Or.inl rfl))
    (pss_one (ps_set (i := 1) scPrim.nd rfl (Or.inr rfl) (pe_callBfun cr_gcd (by rfl) T.gcd (pa_cons (pv 1) (pa_cons (pv 2) pa_nil))))))
  (pss_cons (ps_if (pt_cmpR op_lt (pe_ix ix_list (pv 0) (pe_un un_neg pe_int) (fun _ _ => rfl)) pe_int (nomark _))
    (pss_one (ps_set (i := 1) scPrim.nd rfl (Or.inr rfl) (pe_un un_neg (pv 1))))
    pss_nil)
  (pss_one (ps_ret (pe_lc (own := [("number", 2)]) (g := (gName 2)) (tt := tYes) rfl scPrim.nd (pi_seq (pv 0)) (blkOk_by (N := ["row", "shared", "number"]) (sc := defScope sPrim) (by decide +kernel)) (fun _ _ _ _ _ => pg_name (i := 2) scPrim.nd rfl (Or.inl rfl)) (fun _ _ _ _ _ => pts_nil) (fun _ _ _ _ _ => (pe_op op_fdivZ (pv 2) (pv 1))))))))), ?_⟩
    refine ⟨_, rfl, l, rfl, .inl ⟨_, SqL.of hl, for_list (K := K) (a := l) (xs := ns.map V.int) (fun i σ H' => ∃ (m : Nat) (v : Option V), σ = [some (.ref l), some (.int (m : Int)), v] ∧ H' = H ∧ (∀ j, j < i → m ∣ (ci ns j).natAbs) ∧ ∀ y : Nat, (∀ j, j < i → y ∣ (ci ns j).natAbs) → y ∣ m) ⟨0, none, rfl, rfl, (fun j hj => by omega), fun y _ => Nat.dvd_zero _⟩ (fun i σ H' _ ⟨_, _, _, e, _⟩ => by rw [e]; exact SqL.of hl) ?_ ?_⟩⟩
    · rintro i x σ H' hi ⟨m, v, rfl, rfl, dm, gm⟩
      have hi' : i < ns.length := by
        have := (List.getElem?_eq_some_iff.mp hi).1
        rw [List.length_map] at this
        exact this
      rw [List.getElem?_map, ci_lt hi'] at hi
      cases hi
      refine ⟨_, rfl, _, rfl, _, _, rfl, ?_⟩
      refine ⟨Nat.gcd m (ci ns i).natAbs, some (.int (ci ns i)), by rw [Int.natAbs_natCast]; rfl, rfl, fun j hj => ?_, fun y hy => Nat.dvd_gcd (gm y fun j hj => hy j (by omega)) (hy i (by omega))⟩
      by_cases e : j = i
      · rw [e]; exact Nat.gcd_dvd_right _ _
      · exact Nat.dvd_trans (Nat.gcd_dvd_left _ _) (dm j (by omega))
    · rintro σ H1 ⟨m, v, rfl, rfl, dm, gm⟩
      rw [List.length_map] at dm gm
      have m0 : 0 < m := by
        rcases Nat.eq_zero_or_pos m with z | z
        · have := dm (ns.length - 1) (by omega)
          rw [z, Nat.zero_dvd] at this
          omega
        · exact z
      have mall : ∀ j, m ∣ (ci ns j).natAbs := fun j => by
        by_cases hj : j < ns.length
        · exact dm j hj
        · rw [ci_ge (by omega)]; exact Nat.dvd_zero _
      dsimp only
      refine seq_step (fun σ' H' => ∃ j : Int, σ' = [some (.ref l), some (.int j), v] ∧ H' = H1 ∧ j.natAbs = m ∧ (0 < j ↔ 0 < ci ns (ns.length - 1))) (fun k hk => ?_) ?_
      · refine ⟨_, rfl, _, rfl, l, _, _, _, rfl, rfl, SqL.of hl, atI_top l0, _, _, rfl, rfl, ?_⟩
        show ∃ k, V.bl (decide (ci ns (ns.length - 1) < 0)) = V.bl k ∧ _
        by_cases z : ci ns (ns.length - 1) < 0
        · refine ⟨true, congrArg V.bl (decide_eq_true z), ?_⟩
          refine iteT ?_
          refine ⟨_, rfl, _, rfl, hk _ _ ⟨-(m : Int), rfl, rfl, by omega, by omega⟩⟩
        · refine ⟨false, congrArg V.bl (decide_eq_false z), ?_⟩
          refine iteF ?_
          exact hk _ _ ⟨(m : Int), rfl, rfl, by omega, by omega⟩
      · rintro σ' H' ⟨j, rfl, e9, jm, js⟩
        rw [e9]
        clear e9
        have j0 : j ≠ 0 := by omega
        have hc : ∀ i, ci ns i = j * (ci ns i).fdiv j := fun i => by
          obtain ⟨c, ec⟩ : j ∣ ci ns i := Int.natAbs_dvd_natAbs.mp (by rw [jm]; exact mall i)
          rw [fdiv_of j0 ec]
          exact ec
        refine ⟨_, rfl, l, rfl, lc_seq (xs := ns.map V.int) (.inl (SqL.of hl)) (fun D i H' => Same H1 H' ∧ H' D = some (.lst ((tabI i fun i => (ci ns i).fdiv j).map V.int))) ?_ ?_ ?_ ?_⟩
        · intro D hD
          exact ⟨same_upd hD, upd_same⟩
        · intro D i H2 hD ⟨s2, _⟩
          exact ⟨same_sqL s2, same_sqT s2⟩
        · intro D i x H' hD hi ⟨ss, eD⟩
          have hi' : i < ns.length := by
            have := (List.getElem?_eq_some_iff.mp hi).1
            rw [List.length_map] at this
            exact this
          rw [List.getElem?_map, ci_lt hi'] at hi
          cases hi
          refine ⟨rfl, ?_⟩
          refine ⟨_, rfl, _, rfl, _, _, rfl, rfl, ⟨j0, ?_⟩, ?_⟩
          · have h1 : m ≤ (ci ns (ns.length - 1)).natAbs := Nat.le_of_dvd (by omega) (mall _)
            have h2 := sz (ns.length - 1)
            exact Nat.lt_trans (PySem.Flt.log2_lt_of (show 0 < 8800 by decide) (show j.natAbs < 2 ^ 8800 by rw [jm]; exact Nat.lt_of_le_of_lt h1 h2)) (by decide)
          refine ⟨_, eD, (by rw [List.length_map, tabI_len, sizeLine_eq]; omega), fun b o e => ?_, ?_⟩
          · rw [upd_ne (ne_of_none e hD)]
            exact ss _ _ e
          · rw [upd_same, tabI_snoc, List.map_append]
            rfl
        · intro D H' hD ⟨ss, eD⟩
          rw [List.length_map] at eD
          have ct : ∀ i, ci (tabI ns.length fun i => (ci ns i).fdiv j) i = (ci ns i).fdiv j := fun i => by
            rw [ci_tab]
            split
            · rfl
            · rw [ci_ge (by omega), Int.zero_fdiv]
          refine q D _ H' ss eD ⟨⟨fun z => ?_, ?_, fun u hu => ?_⟩, tabI_len _ _, j, j0, fun i => by rw [ct]; exact hc i⟩
          · have := congrArg List.length z
            rw [tabI_len] at this
            exact absurd this (by show ns.length ≠ 0; omega)
          · rw [tabI_len, ct]
            have h1 := hc (ns.length - 1)
            rcases Int.lt_trichotomy 0 ((ci ns (ns.length - 1)).fdiv j) with z | z | z
            · exact z
            · rw [← z, Int.mul_zero] at h1
              exact absurd h1 top
            · exfalso
              rcases Int.lt_or_lt_of_ne j0 with y | y
              · have h2 := Int.mul_pos_of_neg_of_neg y z
                have := js.mpr (h1.symm ▸ h2)
                omega
              · have h2 := Int.mul_neg_of_pos_of_neg y z
                have := js.mp y
                have h3 : ci ns (ns.length - 1) < 0 := h1.symm ▸ h2
                omega
          · have h1 : u * m ∣ m := gm _ fun i hi => by
              have h2 := hu i
              rw [ct] at h2
              have h3 := Int.ofNat_dvd_left.mp h2
              rw [hc i, Int.natAbs_mul, jm, Nat.mul_comm]
              exact Nat.mul_dvd_mul_left _ h3
            have h4 := Nat.dvd_of_mul_dvd_mul_right m0 (show u * m ∣ 1 * m by rw [Nat.one_mul]; exact h1)
            exact Nat.dvd_one.mp h4
end
end Vf
set_option maxRecDepth 100000
set_option maxHeartbeats 8000000
namespace Vf
open PySem PySem.Spec PyProof.Rows L2
structure Rd (p : Nat) (a : List Int) : Prop where
  s : Stp (qi a)
  b : ∀ i, 0 ≤ ci a i ∧ ci a i < p
theorem stp_top {a : List Int} (h : Stp (qi a)) (ne : a ≠ []) : ci a (a.length - 1) ≠ 0 := fun z => by
  have := ne_last h (qi_ne ne)
  rw [qi_len, cf_qi, z] at this
  exact this rfl
theorem Rd.top {p : Nat} {a : List Int} (h : Rd p a) (ne : a ≠ []) : ¬ (p : Int) ∣ ci a (a.length - 1) := fun z => by
  obtain ⟨h1, h2⟩ := h.b (a.length - 1)
  have h3 := stp_top h.s ne
  have := Int.le_of_dvd (by omega) z
  omega
theorem Res.rd {p : Nat} {ns T : List Int} (h : Res (p : Int) ns T) (p0 : 0 < p) : Rd p T := ⟨h.s, fun i => by
  rw [h.e]
  exact ⟨Int.emod_nonneg _ (by omega), Int.emod_lt_of_pos _ (by omega)⟩⟩
theorem Res.evk {p : Nat} {ns T : List Int} (h : Res (p : Int) ns T) : ∃ k : List Int, ∀ x, ev (qi T) x = ev (qi ns) x + (p : Rat) * ev (qi k) x := by
  refine ⟨tabI ns.length fun i => -(ci ns i / p), fun x => ?_⟩
  have e : ev (qi T) x = ev (padd (qi ns) (pscale (qi (tabI ns.length fun i => -(ci ns i / p))) (p : Rat))) x := ev_ext (fun i => by
    rw [cf_padd, cf_psc, cf_qi, cf_qi, cf_qi, h.e, ci_tab]
    have h1 := Int.mul_ediv_add_emod (ci ns i) p
    have h2 : ci ns i % (p : Int) = ci ns i + (if i < ns.length then -(ci ns i / (p : Int)) else 0) * (p : Int) := by
      split
      · rw [Int.neg_mul, Int.mul_comm]; omega
      · rw [ci_ge (by omega), Int.zero_emod]; omega
    rw [h2, Rat.intCast_add, Rat.intCast_mul]
    rfl) x
  rw [e, ev_padd, ev_pscale]
  grind
theorem Wl.evk {A B T : List Int} {f g : Int} (h : Wl A B f g T) (x : Rat) : ev (qi T) x = (f : Rat) * ev (qi A) x - (g : Rat) * (x ^ (A.length - B.length) * ev (qi B) x) := by
  have e : ev (qi T) x = ev (padd (pscale (qi A) (f : Rat)) (pscale (List.replicate (A.length - B.length) (0 : Rat) ++ qi B) (-(g : Rat)))) x := ev_ext (fun i => by
    rw [cf_padd, cf_psc, cf_psc, cf_shift, cf_qi, cf_qi, h.e, Rat.intCast_sub, Rat.intCast_mul, Rat.intCast_mul]
    split
    · rw [cf_qi]; grind
    · rw [show ((0 : Int) : Rat) = 0 from rfl]; grind) x
  rw [e, ev_padd, ev_pscale, ev_pscale, ev_app, ev_rep0, List.length_replicate]
  grind
/-- the lead is gone -/
theorem Wl.short {A B T : List Int} (hB : B ≠ []) (l : B.length ≤ A.length) {f g : Int} (e : f * ci A (A.length - 1) = g * ci B (B.length - 1)) (h : Wl A B f g T) : T.length < A.length := by
  have lB := List.length_pos_iff.mpr hB
  refine Decidable.byContradiction fun no => ?_
  have hl := h.l
  have hT : T.length = A.length := by omega
  have ne : T ≠ [] := fun z => by rw [z] at hT; simp at hT; omega
  have h1 := stp_top h.s ne
  rw [h.e, hT, if_pos (by omega), show A.length - 1 - (A.length - B.length) = B.length - 1 by omega, e] at h1
  omega
structure JR (p : Nat) (X Y a b : List Int) : Prop where
  ra : Rd p a
  rb : Rd p b
  la : a.length ≤ 100
  lb : b.length ≤ 100
  ne : a ≠ [] ∨ b ≠ []
  fw : ∀ g, MD p g (ev (qi X)) → MD p g (ev (qi Y)) → MD p g (ev (qi a)) ∧ MD p g (ev (qi b))
  bw : ∀ g, MD p g (ev (qi a)) → MD p g (ev (qi b)) → MD p g (ev (qi X)) ∧ MD p g (ev (qi Y))
theorem MD.res {p : Nat} {ns T : List Int} (h : Res (p : Int) ns T) (g : Rat → Rat) : MD p g (ev (qi ns)) ↔ MD p g (ev (qi T)) := by
  obtain ⟨k, hk⟩ := h.evk
  refine ⟨fun z => (z.more (IP.row k)).ext fun x => (hk x).symm, fun z => (z.more ((IP.row k).mul (IP.int (-1)))).ext fun x => ?_⟩
  try dsimp only
  rw [hk, show ((-1 : Int) : Rat) = -1 from rfl]
  grind
theorem JR.step {p : Nat} (hp : Pr p) {X Y a b T a' : List Int} (J : JR p X Y a b) (hb : b ≠ []) (l : b.length ≤ a.length) (hW : Wl a b (ci b (b.length - 1)) (ci a (a.length - 1)) T) (hR : Res (p : Int) T a') : JR p X Y a' b ∧ a'.length < a.length := by
  have s1 := hW.short hb l (Int.mul_comm _ _)
  have s2 := hR.l
  have la := J.la
  refine ⟨⟨hR.rd (by have := hp.1; omega), J.rb, by omega, J.lb, .inr hb, fun g h1 h2 => ?_, fun g h1 h2 => ?_⟩, by omega⟩
  · obtain ⟨m1, m2⟩ := J.fw g h1 h2
    refine ⟨(MD.res hR g).mp ?_, m2⟩
    have := (m1.mul (IP.int (ci b (b.length - 1)))).add (m2.mul ((IP.int (-(ci a (a.length - 1)))).mul (IP.pow (a.length - b.length))))
    refine this.ext fun x => ?_
    try dsimp only
    rw [hW.evk, Rat.intCast_neg]
    grind
  · refine J.bw g ?_ h2
    have mT := (MD.res hR g).mpr h1
    obtain ⟨w, z, e⟩ := inv_ex hp (J.rb.top hb)
    refine MD.unit (IP.row a) e ?_
    have := mT.add (h2.mul ((IP.int (ci a (a.length - 1))).mul (IP.pow (a.length - b.length))))
    refine this.ext fun x => ?_
    try dsimp only
    rw [hW.evk]
    grind
def spRD : Sp := fun vs H Q _ => ∃ (l1 l2 : Addr) (X Y : List Int) (p : Nat), vs = [.ref l1, .ref l2, .int (p : Int)] ∧ RI H l1 X ∧ RI H l2 Y ∧ X.length ≤ 100 ∧ Y.length ≤ 100 ∧ Pr p ∧ p < 2 ^ 4430 ∧ (∃ i, ¬ (p : Int) ∣ ci X i ∨ ¬ (p : Int) ∣ ci Y i) ∧
  ∀ (l' : Addr) (T : List Int) (H' : Hp), Same H H' → RI H' l' T → T ≠ [] → Rd p T → T.length ≤ 100 → (∀ g, MD p g (ev (qi X)) → MD p g (ev (qi Y)) → MD p g (ev (qi T))) → MD p (ev (qi T)) (ev (qi X)) → MD p (ev (qi T)) (ev (qi Y)) → Q (.ref l') H'
section
variable {P : Program} {w : World} {K : PySem.W.Frag} {mg : Str → Option Value} {base : Heap} {CP CR CN CI : Addr}
abbrev sRD : Stmt := topS 14
theorem scRD : FnScope ["one", "other", "prime", "above", "below"] ["one", "other", "prime"] (defScope sRD) := ⟨rfl, rfl, rfl, by decide +kernel, rfl, by decide +kernel, by decide +kernel⟩
theorem ok_rd {f : Addr} {fd : FuncData} (F : Fun K "residue_divisor" "residue_divisor" sRD f fd) (T : Bk mg) (G_residues : Df P w K mg base "residues" 2 ["row", "prime"] spRes) (G_without_lead : Df P w K mg base "without_lead" 2 ["one", "other", "factor", "number"] spWl) : FnOk P w K mg base CX0 3 f fd ["one", "other", "prime"] spRD := by
  refine F.ok scRD (fun vs H Q E h => ?_) (fun cdv A outer s H vs Q E hr h => ?_)
  · obtain ⟨l1, l2, X, Y, p, rfl, _⟩ := h
    rfl
  · obtain ⟨l1, l2, X, Y, p, rfl, h1, h2, lX, lY, hp, pb, hnz, q⟩ := h
    have p1 := hp.1
    refine ⟨_, (pss_cons (ps_par (i := 3) (j := 4) (by rfl) scRD.nd rfl rfl (by decide) rfl rfl (pa_cons (pe_call G_residues.ok (hr.mono (by decide)) rfl G_residues.m G_residues.kp G_residues.b .nil pass0 (pa_cons (pv 0) (pa_cons (pv 2) pa_nil))) (pa_cons (pe_call G_residues.ok (hr.mono (by decide)) rfl G_residues.m G_residues.kp G_residues.b .nil pass0 (pa_cons (pv 1) (pa_cons (pv 2) pa_nil))) pa_nil)) (by rfl))
  (pss_cons (ps_while PassesOwn.never (pt_truth (pv 4) (by intro _; rfl))
    (pss_cons (ps_while PassesOwn.never (pt_cmpR op_ge (pe_callB call_len_seq (by rfl) T.len (by decide +kernel) (pa_cons (pv 3) pa_nil)) (pe_callB call_len_seq (by rfl) T.len (by decide +kernel) (pa_cons (pv 4) pa_nil)) (nomark _))
      (pss_one (ps_set (i := 3) scRD.nd rfl (Or.inl rfl) (pe_call G_residues.ok (hr.mono (by decide)) rfl G_residues.m G_residues.kp G_residues.b .nil pass0 (pa_cons (pe_call G_without_lead.ok (hr.mono (by decide)) rfl G_without_lead.m G_without_lead.kp G_without_lead.b .nil pass0 (pa_cons (pv 3) (pa_cons (pv 4) (pa_cons (pe_ix ix_list (pv 4) (pe_un un_neg pe_int) (fun _ _ => rfl)) (pa_cons (pe_ix ix_list (pv 3) (pe_un un_neg pe_int) (fun _ _ => rfl)) pa_nil))))) (pa_cons (pv 2) pa_nil))))))
    (pss_one (ps_par (i := 3) (j := 4) (by rfl) scRD.nd rfl rfl (by decide) rfl rfl (pa_cons (pv 4) (pa_cons (pv 3) pa_nil)) (by rfl)))))
  (pss_one (ps_ret (pv 3))))), ?_⟩
    refine par_two ?_
    refine ⟨_, rfl, _, rfl, l1, X, _, rfl, h1, by omega, (by show (0 : Int) < p; omega), fun a1 A1 H1 s1 r1 R1 => ?_⟩
    refine ⟨_, rfl, _, rfl, l2, Y, _, rfl, s1 _ _ h2, by omega, (by show (0 : Int) < p; omega), fun b1 B1 H2 s2 r2 R2 => ?_⟩
    have J0 : JR p X Y A1 B1 := ⟨R1.rd (by omega), R2.rd (by omega), by have := R1.l; omega, by have := R2.l; omega, (by
      refine Classical.byContradiction fun no => ?_
      have hA : A1 = [] := Classical.byContradiction fun z => no (.inl z)
      have hB : B1 = [] := Classical.byContradiction fun z => no (.inr z)
      obtain ⟨i, hi | hi⟩ := hnz
      · have := R1.e i
        rw [hA] at this
        exact hi (Int.dvd_of_emod_eq_zero this.symm)
      · have := R2.e i
        rw [hB] at this
        exact hi (Int.dvd_of_emod_eq_zero this.symm)), fun g m1 m2 => ⟨(MD.res R1 g).mp m1, (MD.res R2 g).mp m2⟩, fun g m1 m2 => ⟨(MD.res R1 g).mpr m1, (MD.res R2 g).mpr m2⟩⟩
    refine ⟨fun m σ H' => ∃ (a b : Addr) (A B : List Int), σ = [some (.ref l1), some (.ref l2), some (.int (p : Int)), some (.ref a), some (.ref b)] ∧ Same H H' ∧ RI H' a A ∧ RI H' b B ∧ JR p X Y A B ∧ m = B.length, ⟨_, a1, b1, A1, B1, rfl, s1.trans s2, s2 _ _ r1, r2, J0, rfl⟩, ?_⟩
    rintro m σ H3 ⟨a, b, A2, B, rfl, s3, ra, rb, J, rfl⟩
    by_cases hB : B = []
    · subst hB
      refine ⟨_, rfl, false, .inl ⟨[], SqL.of rb, rfl⟩, ?_⟩
      refine iteF ?_
      refine ⟨_, rfl, ?_⟩
      have nA : A2 ≠ [] := J.ne.resolve_right fun z => z rfl
      refine q a A2 H3 s3 ra nA J.ra J.la (fun g m1 m2 => (J.fw g m1 m2).1) ?_ ?_
      · exact (J.bw _ (MD.self p _) ((MD.zero p _).ext fun x => rfl)).1
      · exact (J.bw _ (MD.self p _) ((MD.zero p _).ext fun x => rfl)).2
    · have lB := List.length_pos_iff.mpr hB
      refine ⟨_, rfl, true, .inl ⟨_, SqL.of rb, by simpa using hB⟩, ?_⟩
      refine iteT ?_
      refine ⟨fun σ' H' => ∃ (a b : Addr) (A B' : List Int), σ' = [some (.ref l1), some (.ref l2), some (.int (p : Int)), some (.ref a), some (.ref b)] ∧ Same H H' ∧ RI H' a A ∧ RI H' b B' ∧ JR p X Y A B' ∧ B'.length < B.length, fun σ' H' ⟨a, b, A, B', e1, e2, e3, e4, e5, e6⟩ => ⟨_, e6, a, b, A, B', e1, e2, e3, e4, e5, rfl⟩, ?_⟩
      refine ⟨fun m σ H' => ∃ (a' : Addr) (A : List Int), σ = [some (.ref l1), some (.ref l2), some (.int (p : Int)), some (.ref a'), some (.ref b)] ∧ Same H3 H' ∧ RI H' a' A ∧ JR p X Y A B ∧ m = A.length, ⟨_, a, A2, rfl, Same.refl _, ra, J, rfl⟩, ?_⟩
      rintro m σ H4 ⟨a', A3, rfl, s4, ra', J', rfl⟩
      refine ⟨_, rfl, a', _, rfl, .inl (SqL.of ra'), _, rfl, b, _, rfl, .inl (SqL.of (s4 _ _ rb)), _, _, rfl, rfl, ?_⟩
      rw [List.length_map, List.length_map]
      by_cases hl : B.length ≤ A3.length
      · refine ⟨true, congrArg V.bl (decide_eq_true (by omega)), ?_⟩
        refine iteT ?_
        have nA : A3 ≠ [] := fun z => by rw [z] at hl; exact absurd hl (by show ¬ B.length ≤ 0; omega)
        have lA := List.length_pos_iff.mpr nA
        refine ⟨fun σ' H' => ∃ (a' : Addr) (A : List Int), σ' = [some (.ref l1), some (.ref l2), some (.int (p : Int)), some (.ref a'), some (.ref b)] ∧ Same H3 H' ∧ RI H' a' A ∧ JR p X Y A B ∧ A.length < A3.length, fun σ' H' ⟨a', A, e1, e2, e3, e4, e5⟩ => ⟨_, e5, a', A, e1, e2, e3, e4, rfl⟩, ?_⟩
        have small : ∀ {z : Int}, 0 ≤ z ∧ z < p → z.natAbs < 2 ^ 4430 := fun {z} h => by omega
        refine ⟨_, rfl, _, rfl, _, rfl, _, rfl, b, _, _, _, rfl, rfl, SqL.of (s4 _ _ rb), atI_top lB, _, rfl, _, rfl, a', _, _, _, rfl, rfl, SqL.of ra', atI_top lA, ?_⟩
        refine ⟨a', b, A3, B, _, _, rfl, ra', s4 _ _ rb, J'.la, hl, fun i => wide_mul (small (J'.rb.b _)) (small (J'.ra.b i)) (by decide) (by decide) (by decide), fun i => wide_mul (small (J'.ra.b _)) (small (J'.rb.b i)) (by decide) (by decide) (by decide), fun t1 T1 H5 s5 rt W1 => ?_⟩
        refine ⟨_, rfl, t1, T1, _, rfl, rt, by have := W1.l; have := J'.la; omega, (by show (0 : Int) < p; omega), fun t2 T2 H6 s6 rt2 R => ?_⟩
        obtain ⟨J2, lt⟩ := J'.step hp hB hl W1 R
        exact ⟨t2, T2, rfl, s4.trans (s5.trans s6), rt2, J2, lt⟩
      · refine ⟨false, congrArg V.bl (decide_eq_false (by omega)), ?_⟩
        refine iteF ?_
        try dsimp only
        refine par_one ?_
        exact ⟨_, rfl, _, rfl, b, a', B, A3, rfl, s3.trans s4, s4 _ _ rb, ra', ⟨J'.rb, J'.ra, J'.lb, J'.la, J'.ne.symm, fun g m1 m2 => (J'.fw g m1 m2).symm, fun g m1 m2 => J'.bw g m2 m1⟩, by omega⟩
end
end Vf
set_option maxRecDepth 100000
set_option maxHeartbeats 8000000
namespace Vf
open PySem PySem.Spec PyProof.Rows L2
theorem lead_dvd2 {X G : List Int} (hX : Stp (qi X)) (nX : X ≠ []) (hG : Stp (qi G)) (nG : G ≠ []) (h : ∃ c : List Int, ∀ x, ev (qi X) x = ev (qi G) x * ev (qi c) x) : ci G (G.length - 1) ∣ ci X (X.length - 1) ∧ G.length ≤ X.length := by
  obtain ⟨c, hc⟩ := h
  have nc : stripQ (qi c) ≠ [] := fun z => by
    have : qi X = [] := stp_nil hX fun x => by rw [hc, ev_nil' z]; grind
    exact qi_ne nX this
  have l1 := len_mul_eq (Z := qi X) hG (stripQ_stp (qi c)) hX (qi_ne nG) nc fun x => by rw [hc, ev_stripQ]
  have lc := List.length_pos_iff.mpr nc
  have lG := List.length_pos_iff.mpr nG
  rw [qi_len, qi_len] at l1
  have e : cf (qi X) (X.length - 1) = cf (pmul (qi G) (stripQ (qi c))) (X.length - 1) := cf_of (fun x => by rw [hc, ev_pmul, ev_stripQ]) _
  rw [show X.length - 1 = G.length - 1 + ((stripQ (qi c)).length - 1) by omega, top_pmul (by rw [qi_len]; omega) (by omega), cf_stripQ, cf_qi, cf_qi, cf_qi] at e
  refine ⟨⟨ci c ((stripQ (qi c)).length - 1), ?_⟩, by omega⟩
  rw [show X.length - 1 = G.length - 1 + ((stripQ (qi c)).length - 1) by omega]
  rw [← Rat.intCast_mul] at e
  exact_mod_cast e
/-- two rows of whole numbers, by their difference -/
theorem row_sub (a b : List Int) : ∃ c : List Int, ∀ x, ev (qi c) x = ev (qi a) x - ev (qi b) x := by
  obtain ⟨c, hc⟩ := (IP.row a).add ((IP.row b).mul (IP.int (-1)))
  refine ⟨c, fun x => ?_⟩
  rw [hc]
  try dsimp only
  rw [show ((-1 : Int) : Rat) = -1 from rfl]
  grind
def spDvs : Sp := fun vs H Q _ => ∃ (l1 l2 : Addr) (F X : List Int), vs = [.ref l1, .ref l2] ∧ RI H l1 F ∧ RI H l2 X ∧ Pm F ∧ Stp (qi X) ∧ F.length ≤ 100 ∧ X.length ≤ 13 ∧ (∀ i, (ci F i).natAbs ≤ 2 ^ 4430) ∧ (∀ i, (ci X i).natAbs ≤ 2 ^ 1200) ∧
  ∀ (b : Bool) (H' : Hp), Same H H' → (b = true → ∃ c : List Int, ∀ x, ev (qi X) x = ev (qi F) x * ev (qi c) x) → ((∃ c : List Int, ∀ x, ev (qi X) x = ev (qi F) x * ev (qi c) x) → b = true) → Q (.bl b) H'
section
variable {P : Program} {w : World} {K : PySem.W.Frag} {mg : Str → Option Value} {base : Heap} {CP CR CN CI : Addr}
abbrev sDvs : Stmt := topS 8
theorem scDvs : FnScope ["one", "other", "rest"] ["one", "other"] (defScope sDvs) := ⟨rfl, rfl, rfl, by decide +kernel, rfl, by decide +kernel, by decide +kernel⟩
theorem ok_dvs {f : Addr} {fd : FuncData} (F : Fun K "divides" "divides" sDvs f fd) (T : Bk mg) (G_without_lead : Df P w K mg base "without_lead" 2 ["one", "other", "factor", "number"] spWl) : FnOk P w K mg base CX0 3 f fd ["one", "other"] spDvs := by
  refine F.ok scDvs (fun vs H Q E h => ?_) (fun cdv A outer s H vs Q E hr h => ?_)
  · obtain ⟨l1, l2, F, X, rfl, _⟩ := h
    rfl
  · obtain ⟨l1, l2, F, X, rfl, h1, h2, hF, sX, lF, lX, bF, bX, q⟩ := h
    have lF0 := List.length_pos_iff.mpr hF.ne
    refine ⟨_, (pss_cons (ps_set (i := 2) scDvs.nd rfl (Or.inl rfl) (pe_callTy call_list_of (by rfl) T.list (by decide +kernel) (pa_cons (pv 1) pa_nil)))
  (pss_cons (ps_while PassesOwn.never (pt_cmpR op_ge (pe_callB call_len_seq (by rfl) T.len (by decide +kernel) (pa_cons (pv 2) pa_nil)) (pe_callB call_len_seq (by rfl) T.len (by decide +kernel) (pa_cons (pv 0) pa_nil)) (nomark _))
    (pss_cons (ps_if (pt_cmpR op_ne (pe_op op_mod (pe_ix ix_list (pv 2) (pe_un un_neg pe_int) (fun _ _ => rfl)) (pe_ix ix_list (pv 0) (pe_un un_neg pe_int) (fun _ _ => rfl))) pe_int (nomark _))
      (pss_one (ps_ret pe_bl))
      pss_nil)
    (pss_one (ps_set (i := 2) scDvs.nd rfl (Or.inl rfl) (pe_call G_without_lead.ok (hr.mono (by decide)) rfl G_without_lead.m G_without_lead.kp G_without_lead.b .nil pass0 (pa_cons (pv 2) (pa_cons (pv 0) (pa_cons pe_int (pa_cons (pe_op op_fdivW (pe_ix ix_list (pv 2) (pe_un un_neg pe_int) (fun _ _ => rfl)) (pe_ix ix_list (pv 0) (pe_un un_neg pe_int) (fun _ _ => rfl))) pa_nil)))))))))
  (pss_one (ps_ret (pe_notT (pv 2)))))), ?_⟩
    refine ⟨_, rfl, l2, _, rfl, .inl (SqL.of h2), fun a0 n0 => ?_⟩
    have e0 : upd H a0 (HO.lst (X.map V.int)) a0 = some (HO.lst (X.map V.int)) := upd_same
    have s0 : Same H (upd H a0 (HO.lst (X.map V.int))) := same_upd n0
    generalize upd H a0 (HO.lst (X.map V.int)) = H1 at e0 s0 ⊢
    refine ⟨fun m σ H' => ∃ (a : Addr) (R : List Int), σ = [some (.ref l1), some (.ref l2), some (.ref a)] ∧ Same H H' ∧ RI H' a R ∧ Stp (qi R) ∧ R.length ≤ X.length ∧ (∃ c : List Int, ∀ x, ev (qi X) x = ev (qi F) x * ev (qi c) x + ev (qi R) x) ∧ (∀ i, (ci R i).natAbs ≤ 2 ^ (1200 + 4432 * (X.length - R.length))) ∧ m = R.length, ⟨_, a0, X, rfl, s0, e0, sX, Nat.le_refl _, ⟨[], fun x => by show _ = _ * 0 + _; grind⟩, fun i => by rw [Nat.sub_self]; exact bX i, rfl⟩, ?_⟩
    rintro m σ H2 ⟨a, R, rfl, s2, ra, sR, lR, ⟨c, hc⟩, bR, rfl⟩
    refine ⟨_, rfl, a, _, rfl, .inl (SqL.of ra), _, rfl, l1, _, rfl, .inl (SqL.of (s2 _ _ h1)), _, _, rfl, rfl, ?_⟩
    rw [List.length_map, List.length_map]
    by_cases hl : F.length ≤ R.length
    · refine ⟨true, congrArg V.bl (decide_eq_true (by omega)), ?_⟩
      refine iteT ?_
      have nR : R ≠ [] := fun z => by rw [z] at hl; exact absurd hl (by show ¬ F.length ≤ 0; omega)
      have lR0 := List.length_pos_iff.mpr nR
      have tp := hF.tp
      refine ⟨fun σ' H' => ∃ (a : Addr) (R' : List Int), σ' = [some (.ref l1), some (.ref l2), some (.ref a)] ∧ Same H H' ∧ RI H' a R' ∧ Stp (qi R') ∧ R'.length ≤ X.length ∧ (∃ c : List Int, ∀ x, ev (qi X) x = ev (qi F) x * ev (qi c) x + ev (qi R') x) ∧ (∀ i, (ci R' i).natAbs ≤ 2 ^ (1200 + 4432 * (X.length - R'.length))) ∧ R'.length < R.length, fun σ' H' ⟨a, R', e1, e2, e3, e4, e5, e6, e7, e8⟩ => ⟨_, e8, a, R', e1, e2, e3, e4, e5, e6, e7, rfl⟩, ?_⟩
      refine ⟨_, rfl, _, rfl, a, _, _, _, rfl, rfl, SqL.of ra, atI_top lR0, _, rfl, _, rfl, l1, _, _, _, rfl, rfl, SqL.of (s2 _ _ h1), atI_top lF0, _, _, rfl, rfl, tp, ?_⟩
      dsimp only [tC]
      have small : ∀ {z : Int} {n : Nat}, z.natAbs ≤ 2 ^ n → z.natAbs < 2 ^ (n + 1) := fun {z n} h => Nat.lt_of_le_of_lt h (Nat.pow_lt_pow_right (by decide) (by omega))
      refine rNe_int (fun z => ?_) fun z => ?_
      · refine iteF ?_
        dsimp only [tNext]
        have hd : ci F (F.length - 1) ∣ ci R (R.length - 1) := Int.dvd_of_emod_eq_zero z
        have eq1 : ci R (R.length - 1) / ci F (F.length - 1) * ci F (F.length - 1) = ci R (R.length - 1) := Int.ediv_mul_cancel hd
        have bF1 := bF (F.length - 1)
        have ab1 : (ci R (R.length - 1) / ci F (F.length - 1)).natAbs ≤ (ci R (R.length - 1)).natAbs := by
          have : (ci R (R.length - 1)).natAbs = (ci R (R.length - 1) / ci F (F.length - 1)).natAbs * (ci F (F.length - 1)).natAbs := by rw [← Int.natAbs_mul, eq1]
          rw [this]
          exact Nat.le_mul_of_pos_right _ (by omega)
        refine ⟨_, rfl, _, rfl, _, rfl, _, rfl, a, _, _, _, rfl, rfl, SqL.of ra, atI_top lR0, _, rfl, _, rfl, l1, _, _, _, rfl, rfl, SqL.of (s2 _ _ h1), atI_top lF0, _, _, rfl, rfl, wide_div (b := 4431) tp (small bF1) (by decide) (by decide), ?_⟩
        have xb : 1200 + 4432 * (X.length - R.length) + 1 ≤ 70000 := by omega
        refine ⟨a, l1, R, F, 1, _, rfl, ra, s2 _ _ h1, by omega, hl, fun i => wide_mul (a := 1) (b := 1200 + 4432 * (X.length - R.length) + 1) (by decide) (small (bR i)) (by decide) (by omega) (by omega), fun i => wide_mul (a := 1200 + 4432 * (X.length - R.length) + 1) (b := 4431) (small (Nat.le_trans ab1 (bR _))) (small (bF i)) (by omega) (by decide) (by omega), fun t1 T1 H5 s5 rt W1 => ?_⟩
        have lt := W1.short hF.ne hl (by rw [Int.one_mul, eq1])
        obtain ⟨e, he⟩ := (IP.row c).add ((IP.int (ci R (R.length - 1) / ci F (F.length - 1))).mul (IP.pow (R.length - F.length)))
        refine ⟨t1, T1, rfl, s2.trans s5, rt, W1.s, by omega, ⟨e, fun x => ?_⟩, fun i => ?_, lt⟩
        · rw [he, W1.evk, hc, show ((1 : Int) : Rat) = 1 from rfl]
          grind
        · rw [W1.e, Int.one_mul]
          have h8 := Int.natAbs_sub_le (ci R i) (ci R (R.length - 1) / ci F (F.length - 1) * (if R.length - F.length ≤ i then ci F (i - (R.length - F.length)) else 0))
          rw [Int.natAbs_mul] at h8
          have h9 : (if R.length - F.length ≤ i then ci F (i - (R.length - F.length)) else 0).natAbs ≤ 2 ^ 4430 := by
            split
            · exact bF _
            · exact Nat.zero_le _
          have h10 := Nat.mul_le_mul (Nat.le_trans ab1 (bR (R.length - 1))) h9
          rw [← Nat.pow_add] at h10
          have h11 := bR i
          have h12 : 2 ^ (1200 + 4432 * (X.length - R.length)) ≤ 2 ^ (1200 + 4432 * (X.length - R.length) + 4430) := Nat.pow_le_pow_right (by decide) (by omega)
          have h13 : 2 ^ (1200 + 4432 * (X.length - R.length) + 4430 + 1) ≤ 2 ^ (1200 + 4432 * (X.length - T1.length)) := Nat.pow_le_pow_right (by decide) (by omega)
          rw [Nat.pow_succ] at h13
          generalize 2 ^ (1200 + 4432 * (X.length - R.length) + 4430) = u1 at *
          generalize 2 ^ (1200 + 4432 * (X.length - T1.length)) = u2 at *
          generalize 2 ^ (1200 + 4432 * (X.length - R.length)) = u3 at *
          omega
      · refine iteT ?_
        refine q false H2 s2 (fun hb => by cases hb) fun ⟨d, hd⟩ => ?_
        exfalso
        obtain ⟨e, he⟩ := row_sub d c
        obtain ⟨hl2, _⟩ := lead_dvd2 sR nR hF.stp hF.ne ⟨e, fun x => by
          rw [he]
          have h5 := hc x
          rw [hd] at h5
          grind⟩
        exact z (Int.emod_eq_zero_of_dvd hl2)
    · refine ⟨false, congrArg V.bl (decide_eq_false (by omega)), ?_⟩
      refine iteF ?_
      refine ⟨_, rfl, _, .inl ⟨_, SqL.of ra, rfl⟩, ?_⟩
      refine q _ H2 s2 (fun hb => ?_) fun ⟨d, hd⟩ => ?_
      · have nR : R = [] := by simpa using hb
        subst nR
        exact ⟨c, fun x => by rw [hc]; show _ + (0 : Rat) = _; grind⟩
      · obtain ⟨e, he⟩ := row_sub d c
        by_cases hR : R = []
        · subst hR; rfl
        · exfalso
          have := (lead_dvd2 sR hR hF.stp hF.ne ⟨e, fun x => by
            rw [he]
            have h5 := hc x
            rw [hd] at h5
            grind⟩).2
          omega
end
end Vf
set_option maxRecDepth 100000
set_option maxHeartbeats 8000000
namespace Vf
open PySem PySem.Spec PyProof.Rows L2
/-- rows and their divisor, and the bounds -/
structure Gr (X Y G : List Int) : Prop where
  g : GdT X Y G
  lx : X.length ≤ 13
  ly : Y.length ≤ 13
  bx : ∀ i, (ci X i).natAbs ≤ 2 ^ 1200
  yb : ∀ i, (ci Y i).natAbs ≤ 2 ^ 1200
  bg : ∀ i, (ci G i).natAbs ≤ 2 ^ 1200
def spDR : Sp := fun vs H Q _ => ∃ (l1 l2 : Addr) (X Y G : List Int) (p : Nat), vs = [.ref l1, .ref l2, .int (p : Int)] ∧ RI H l1 X ∧ RI H l2 Y ∧ Gr X Y G ∧ Pr p ∧ p ≤ 2 ^ 4423 - 1 ∧
  (∀ (l' : Addr) (H' : Hp), Same H H' → RI H' l' G → Q (.ref l') H') ∧ (p ≠ 2 ^ 4423 - 1 → ∀ H', Same H H' → Q .non H')
def spCR : Sp := fun vs H Q _ => ∃ (l1 l2 : Addr) (X Y G : List Int), vs = [.ref l1, .ref l2] ∧ RI H l1 X ∧ RI H l2 Y ∧ Gr X Y G ∧ ∀ (l' : Addr) (H' : Hp), Same H H' → RI H' l' G → Q (.ref l') H'
theorem pm_len1 {G : List Int} (h : Pm G) (hl : G.length ≤ 1) : G = [1] := by
  have h0 := List.length_pos_iff.mpr h.ne
  obtain ⟨g, rfl⟩ := List.length_eq_one_iff.mp (show G.length = 1 by omega)
  have tp : 0 < g := h.tp
  have := h.u g.natAbs fun i => by
    cases i with
    | zero => exact Int.natAbs_dvd.mpr (Int.dvd_refl _)
    | succ i => rw [ci_ge (by show 1 ≤ i + 1; omega)]; exact Int.dvd_zero _
  rw [show g = 1 by omega]
theorem bigp : 2 ^ 1200 < 2 ^ 4423 - 1 ∧ 2 * 2 ^ 2400 < 2 ^ 4423 - 1 ∧ 2 ^ 4423 - 1 < 2 ^ 4430 ∧ 2 ^ 4423 - 1 < 2 ^ 8800 ∧ 2 ^ 4423 - 1 ≤ 2 ^ 4430 := by decide +kernel
section
variable {P : Program} {w : World} {K : PySem.W.Frag} {mg : Str → Option Value} {base : Heap} {CP CR CN CI : Addr}
abbrev sDR : Stmt := topS 13
theorem scDR : FnScope ["one", "other", "prime", "lead", "row", "factor", "found", "number"] ["one", "other", "prime"] (defScope sDR) := ⟨rfl, rfl, rfl, by decide +kernel, rfl, by decide +kernel, by decide +kernel⟩
theorem ok_dr {f : Addr} {fd : FuncData} (F : Fun K "divisor_by_residues" "divisor_by_residues" sDR f fd) (T : Bk mg) (G_residue_divisor : Df P w K mg base "residue_divisor" 3 ["one", "other", "prime"] spRD) (G_inverse : Df P w K mg base "inverse" 1 ["number", "prime"] spInv) (G_nearest_residue : Df P w K mg base "nearest_residue" 1 ["number", "prime"] spNear) (G_primitive_row : Df P w K mg base "primitive_row" 1 ["row"] spPrim) (G_divides : Df P w K mg base "divides" 3 ["one", "other"] spDvs) : FnOk P w K mg base CX0 4 f fd ["one", "other", "prime"] spDR := by
  refine F.ok scDR (fun vs H Q E h => ?_) (fun cdv A outer s H vs Q E hr h => ?_)
  · obtain ⟨l1, l2, X, Y, G, p, rfl, _⟩ := h
    rfl
  · obtain ⟨l1, l2, X, Y, G, p, rfl, h1, h2, g, hp, pb, q, qn⟩ := h
    obtain ⟨B1, B2, B3, B4, B5⟩ := bigp
    have p1 := hp.1
    have X0 := List.length_pos_iff.mpr g.g.px.ne
    have Y0 := List.length_pos_iff.mpr g.g.py.ne
    have tX := g.g.px.tp
    have tY := g.g.py.tp
    refine ⟨_, (pss_cons (ps_set (i := 3) scDR.nd rfl (Or.inl rfl) (pe_callBfun cr_gcd (by rfl) T.gcd (pa_cons (pe_ix ix_list (pv 0) (pe_un un_neg pe_int) (fun _ _ => rfl)) (pa_cons (pe_ix ix_list (pv 1) (pe_un un_neg pe_int) (fun _ _ => rfl)) pa_nil))))
  (pss_cons (ps_if (pt_cmpR op_eq (pe_op op_mod (pv 3) (pv 2)) pe_int (nomark _))
    (pss_one (ps_ret pe_non))
    pss_nil)
  (pss_cons (ps_set (i := 4) scDR.nd rfl (Or.inl rfl) (pe_call G_residue_divisor.ok (hr.mono (by decide)) rfl G_residue_divisor.m G_residue_divisor.kp G_residue_divisor.b .nil pass0 (pa_cons (pv 0) (pa_cons (pv 1) (pa_cons (pv 2) pa_nil)))))
  (pss_cons (ps_if (pt_cmpR op_eq (pe_callB call_len_seq (by rfl) T.len (by decide +kernel) (pa_cons (pv 4) pa_nil)) pe_int (nomark _))
    (pss_one (ps_ret (pe_lst (pa_cons pe_int pa_nil))))
    pss_nil)
  (pss_cons (ps_if (pt_cmpR op_ge (pe_op op_mulW pe_int (pv 3)) (pv 2) (nomark _))
    (pss_one (ps_ret pe_non))
    pss_nil)
  (pss_cons (ps_set (i := 5) scDR.nd rfl (Or.inr rfl) (pe_op op_mulW (pv 3) (pe_call G_inverse.ok (hr.mono (by decide)) rfl G_inverse.m G_inverse.kp G_inverse.b .nil pass0 (pa_cons (pe_ix ix_list (pv 4) (pe_un un_neg pe_int) (fun _ _ => rfl)) (pa_cons (pv 2) pa_nil)))))
  (pss_cons (ps_set (i := 6) scDR.nd rfl (Or.inl rfl) (pe_call G_primitive_row.ok (hr.mono (by decide)) rfl G_primitive_row.m G_primitive_row.kp G_primitive_row.b .nil pass0 (pa_cons (pe_lc (own := [("number", 7)]) (g := (gName 7)) (tt := tYes) rfl scDR.nd (pi_seq (pv 4)) (blkOk_by (N := ["one", "other", "prime", "lead", "row", "factor", "found", "number"]) (sc := defScope sDR) (by decide +kernel)) (fun _ _ _ _ _ => pg_name (i := 7) scDR.nd rfl (Or.inl rfl)) (fun _ _ _ _ _ => pts_nil) (fun _ _ _ _ _ => (pe_call G_nearest_residue.ok (hr.mono (by decide)) rfl G_nearest_residue.m G_nearest_residue.kp G_nearest_residue.b .nil pass0 (pa_cons (pe_op op_mulW (pv 5) (pv 7)) (pa_cons (pv 2) pa_nil))))) pa_nil)))
  (pss_one (ps_ret (pe_ifExp (PW.pt (pw_and (pt_val (pe_call G_divides.ok (hr.mono (by decide)) rfl G_divides.m G_divides.kp G_divides.b .nil pass0 (pa_cons (pv 6) (pa_cons (pv 0) pa_nil)))) (pw_and1 (pt_val (pe_call G_divides.ok (hr.mono (by decide)) rfl G_divides.m G_divides.kp G_divides.b .nil pass0 (pa_cons (pv 6) (pa_cons (pv 1) pa_nil))))))) (pv 6) pe_non)))))))))), ?_⟩
    refine ⟨_, rfl, _, rfl, l1, _, _, _, rfl, rfl, SqL.of h1, atI_top X0, _, rfl, _, rfl, l2, _, _, _, rfl, rfl, SqL.of h2, atI_top Y0, _, _, rfl, ?_⟩
    obtain ⟨L, eL⟩ : ∃ L : Nat, L = Nat.gcd (ci X (X.length - 1)).natAbs (ci Y (Y.length - 1)).natAbs := ⟨_, rfl⟩
    rw [← eL]
    have L0 : 0 < L := by rw [eL]; exact Nat.gcd_pos_of_pos_left _ (by omega)
    have LX : L ∣ (ci X (X.length - 1)).natAbs := by rw [eL]; exact Nat.gcd_dvd_left _ _
    have LY : L ∣ (ci Y (Y.length - 1)).natAbs := by rw [eL]; exact Nat.gcd_dvd_right _ _
    have Lb : L ≤ 2 ^ 1200 := Nat.le_trans (Nat.le_of_dvd (by omega) LX) (g.bx _)
    refine ⟨_, rfl, _, rfl, _, _, rfl, rfl, (by show (0 : Int) < p; omega), ?_⟩
    refine ⟨rfl, _, rfl, ?_⟩
    by_cases z : (L : Int) % (p : Int) = 0
    · rw [decide_eq_true (show V.int ((L : Int) % (p : Int)) = V.int 0 by rw [z])]
      refine iteT ?_
      refine qn (fun e => ?_) H (Same.refl _)
      have h3 : p ∣ L := by exact_mod_cast Int.dvd_of_emod_eq_zero z
      have := Nat.le_of_dvd L0 h3
      omega
    rw [decide_eq_false (fun y => z (by injection y))]
    refine iteF ?_
    dsimp only [tNext]
    have nL : ¬ (p : Int) ∣ (L : Int) := fun y => z (Int.emod_eq_zero_of_dvd y)
    have nXY : ¬ ((p : Int) ∣ ci X (X.length - 1) ∧ (p : Int) ∣ ci Y (Y.length - 1)) := fun ⟨y1, y2⟩ => nL (by
      have h3 := Nat.dvd_gcd (Int.ofNat_dvd_left.mp y1) (Int.ofNat_dvd_left.mp y2)
      rw [← eL] at h3
      exact_mod_cast h3)
    refine ⟨_, rfl, _, rfl, _, rfl, l1, l2, X, Y, p, rfl, h1, h2, by have := g.lx; omega, by have := g.ly; omega, hp, by omega, ?_, fun lr T H2 s2 rT nT dT lT fw mx my => ?_⟩
    · refine Classical.byContradiction fun no => nXY ⟨?_, ?_⟩
      · exact Classical.byContradiction fun y => no ⟨X.length - 1, .inl y⟩
      · exact Classical.byContradiction fun y => no ⟨Y.length - 1, .inr y⟩
    have T0 := List.length_pos_iff.mpr nT
    have tT := dT.top nT
    have mG : MD p (ev (qi G)) (ev (qi T)) := by
      obtain ⟨c1, e1⟩ := g.g.dx
      obtain ⟨c2, e2⟩ := g.g.dy
      exact fw _ (MD.of (IP.row c1) e1) (MD.of (IP.row c2) e2)
    obtain ⟨lG, nG⟩ := g.g.len_le hp nXY ⟨_, tT⟩ mG
    have bT := dT.b
    -- one number
    refine ⟨_, rfl, lr, _, rfl, .inl (SqL.of rT), ?_⟩
    dsimp only [tC]
    rw [List.length_map]
    refine ⟨rfl, _, rfl, ?_⟩
    by_cases l1' : T.length = 1
    · rw [decide_eq_true (by rw [l1']; rfl)]
      refine iteT ?_
      refine ⟨(by show 1 ≤ sizeLine; decide), fun k nk => ?_⟩
      refine q k _ (s2.trans (same_upd nk)) ?_
      rw [pm_len1 g.g.pg (by omega)]
      exact upd_same
    rw [decide_eq_false (fun y => l1' (by injection y with y; omega))]
    refine iteF ?_
    dsimp only [tNext]
    refine ⟨_, rfl, _, _, rfl, rfl, wide_mul (a := 10) (b := 1201) (by decide) (by rw [Int.natAbs_natCast]; exact Nat.lt_of_le_of_lt Lb (Nat.pow_lt_pow_right (by decide) (by decide))) (by decide) (by decide) (by decide), _, rfl, _, _, rfl, rfl, ?_⟩
    show ∃ k, V.bl (decide ((p : Int) ≤ 2 * (L : Int))) = V.bl k ∧ _
    by_cases z2 : (p : Int) ≤ 2 * (L : Int)
    · refine ⟨true, congrArg V.bl (decide_eq_true z2), ?_⟩
      refine iteT ?_
      refine qn (fun e => ?_) H2 s2
      have : 2 ^ 1200 ≤ 2 ^ 2400 := Nat.pow_le_pow_right (by decide) (by decide)
      omega
    refine ⟨false, congrArg V.bl (decide_eq_false z2), ?_⟩
    refine iteF ?_
    dsimp only [tNext]
    have small : ∀ {z : Int}, 0 ≤ z ∧ z < p → z.natAbs < 2 ^ 4430 := fun {z} h => by omega
    have Lb2 : ((L : Nat) : Int).natAbs < 2 ^ 1201 := by rw [Int.natAbs_natCast]; exact Nat.lt_of_le_of_lt Lb (Nat.pow_lt_pow_right (by decide) (by decide))
    refine ⟨_, rfl, _, rfl, _, rfl, lr, _, _, _, rfl, rfl, SqL.of rT, atI_top T0, _, rfl, ci T (T.length - 1), p, rfl, hp, by omega, tT, fun u H3 s3 hu u0 up => ?_⟩
    refine ⟨_, _, rfl, rfl, wide_mul (a := 1201) (b := 4430) Lb2 (small ⟨u0, up⟩) (by decide) (by decide) (by decide), ?_⟩
    have fb : ((L : Int) * u).natAbs < 2 ^ 5631 := wide_lt Lb2 (small ⟨u0, up⟩)
    have rT3 := s3 _ _ rT
    refine ⟨_, rfl, lr, rfl, lc_seq (xs := T.map V.int) (.inl (SqL.of rT3)) (fun D i H' => Same H3 H' ∧ H' D = some (.lst ((tabI i fun i => nres p ((L : Int) * u * ci T i)).map V.int))) ?_ ?_ ?_ ?_⟩
    · intro D hD
      exact ⟨same_upd hD, upd_same⟩
    · intro D i H2 hD ⟨s2, _⟩
      exact ⟨same_sqL s2, same_sqT s2⟩
    · intro D i x H' hD hi ⟨ss, eD⟩
      have hi' : i < T.length := by
        have := (List.getElem?_eq_some_iff.mp hi).1
        rw [List.length_map] at this
        exact this
      rw [List.getElem?_map, ci_lt hi'] at hi
      cases hi
      refine ⟨rfl, ?_⟩
      refine ⟨_, rfl, _, rfl, _, _, rfl, rfl, wide_mul (a := 5631) (b := 4430) fb (small (bT i)) (by decide) (by decide) (by decide), _, rfl, _, _, rfl, (by show (0 : Int) < p; omega), by rw [Int.natAbs_natCast]; omega, ?_⟩
      refine ⟨_, eD, (by rw [List.length_map, tabI_len, sizeLine_eq]; omega), fun b o e => ?_, ?_⟩
      · rw [upd_ne (ne_of_none e hD)]
        exact ss _ _ e
      · rw [upd_same, tabI_snoc, List.map_append]
        rfl
    intro D H4 hD ⟨s4, eD⟩
    rw [List.length_map] at eD
    have ct : ∀ i, ci (tabI T.length fun i => nres p ((L : Int) * u * ci T i)) i = nres p ((L : Int) * u * ci T i) := fun i => by
      rw [ci_tab]
      split
      · rfl
      · rw [ci_ge (l := T) (by omega), Int.mul_zero]
        unfold nres
        rw [Int.zero_emod, if_neg (by omega)]
    have top : nres p ((L : Int) * u * ci T (T.length - 1)) = L := nres_eq (by omega) (by
      obtain ⟨y, hy⟩ := hu
      exact ⟨L * y, by grind⟩) (by rw [Int.natAbs_natCast, Int.natAbs_natCast]; omega)
    have nb : ∀ i, (ci (tabI T.length fun i => nres p ((L : Int) * u * ci T i)) i).natAbs ≤ p := fun i => by
      rw [ct]
      have := nres_lt (p := p) (n := (L : Int) * u * ci T i) (by omega)
      rw [Int.natAbs_natCast] at this
      exact this
    refine ⟨D, _, rfl, eD, (fun z => by have := congrArg List.length z; rw [tabI_len] at this; exact nT (List.length_eq_zero_iff.mp this)), by rw [tabI_len]; exact lT, by rw [tabI_len, ct, top]; omega, fun i => Nat.lt_of_le_of_lt (nb i) (by omega), fun lf U H5 s5 rU W => ?_⟩
    have s35 := s3.trans (s4.trans s5)
    have s05 := s2.trans s35
    obtain ⟨k, k0, ek⟩ := W.e
    have lU : U.length = T.length := by rw [W.l, tabI_len]
    have bU : ∀ i, (ci U i).natAbs ≤ 2 ^ 4430 := fun i => by
      have h3 := nb i
      rw [ek, Int.natAbs_mul] at h3
      have := Nat.le_mul_of_pos_left (ci U i).natAbs (show 0 < k.natAbs by omega)
      omega
    have px := g.g.px.stp
    have py := g.g.py.stp
    -- both divided: the divisor; else only a small prime
    have fin : ∀ b1 b2 : Bool, (b1 = true → ∃ c : List Int, ∀ x, ev (qi X) x = ev (qi U) x * ev (qi c) x) → ((∃ c : List Int, ∀ x, ev (qi X) x = ev (qi U) x * ev (qi c) x) → b1 = true) → (b2 = true → ∃ c : List Int, ∀ x, ev (qi Y) x = ev (qi U) x * ev (qi c) x) → ((∃ c : List Int, ∀ x, ev (qi Y) x = ev (qi U) x * ev (qi c) x) → b2 = true) → (b1 = true ∧ b2 = true → U = G) ∧ (b1 = false ∨ b2 = false → p ≠ 2 ^ 4423 - 1) := fun b1 b2 t1 f1 t2 f2 => by
      refine ⟨fun ⟨y1, y2⟩ => ?_, fun no e => ?_⟩
      · obtain ⟨c1, e1⟩ := t1 y1
        obtain ⟨c2, e2⟩ := t2 y2
        exact g.g.sound W.p (by omega) ⟨_, e1⟩ ⟨_, e2⟩
      · obtain ⟨ll, kk, hk⟩ := g.g.luck hp (by omega) tT lG nG mx my
        obtain ⟨d1, _⟩ := lead_dvd g.g.px g.g.pg g.g.dx
        obtain ⟨d2, _⟩ := lead_dvd g.g.py g.g.pg g.g.dy
        have dL : ci G (G.length - 1) ∣ (L : Int) := by
          have h3 := Nat.dvd_gcd (Int.natAbs_dvd_natAbs.mpr d1) (Int.natAbs_dvd_natAbs.mpr d2)
          rw [← eL] at h3
          exact Int.natAbs_dvd.mp (by exact_mod_cast h3)
        obtain ⟨m, hm⟩ := dL
        have mb : m.natAbs ≤ 2 ^ 1200 := by
          have : L = (ci G (G.length - 1)).natAbs * m.natAbs := by rw [← Int.natAbs_mul, ← hm, Int.natAbs_natCast]
          have := Nat.le_mul_of_pos_left m.natAbs (show 0 < (ci G (G.length - 1)).natAbs by have := g.g.pg.tp; omega)
          omega
        have eq : ∀ i, nres p ((L : Int) * u * ci T i) = m * ci G i := fun i => nres_eq (by omega) (recover (rt := ci T (T.length - 1)) hm hu (by have := hk (G.length - 1); rw [ll]; exact this) i (hk i)) (by
          rw [Int.natAbs_mul, Int.natAbs_natCast]
          have h3 := Nat.mul_le_mul mb (g.bg i)
          rw [← Nat.pow_add] at h3
          omega)
        have m0 : m ≠ 0 := fun z => by rw [z, Int.mul_zero] at hm; omega
        have UG : U = G := by
          have ku : ∀ i, k * ci U i = m * ci G i := fun i => by rw [← ek, ct, eq]
          have kR : (k : Rat) ≠ 0 := by exact_mod_cast k0
          refine pm_uniq g.g.pg W.p (k := (m : Rat) / (k : Rat)) fun x => ?_
          have e1 : ev (pscale (qi U) (k : Rat)) x = ev (pscale (qi G) (m : Rat)) x := ev_ext (fun i => by
            rw [cf_psc, cf_psc, cf_qi, cf_qi]
            have : ((k * ci U i : Int) : Rat) = ((m * ci G i : Int) : Rat) := by rw [ku]
            rw [Rat.intCast_mul, Rat.intCast_mul] at this
            grind) x
          rw [ev_pscale, ev_pscale] at e1
          have e2 : (m : Rat) / (k : Rat) * (k : Rat) = m := Rat.div_mul_cancel kR
          refine mul_can kR ?_
          grind
        subst UG
        rcases no with no | no
        · rw [f1 g.g.dx] at no; cases no
        · rw [f2 g.g.dy] at no; cases no
    have lX := g.lx
    have lY := g.ly
    refine ⟨_, rfl, _, rfl, lf, l1, U, X, rfl, rU, s05 _ _ h1, W.p, px, by omega, lX, bU, g.bx, fun b1 H6 s6 t1 f1 => ?_⟩
    refine ⟨b1, rfl, ?_⟩
    cases b1 with
    | false =>
      refine iteF ?_
      refine iteF ?_
      by_cases hy : ∃ c : List Int, ∀ x, ev (qi Y) x = ev (qi U) x * ev (qi c) x
      · exact qn ((fin false true t1 f1 (fun _ => hy) (fun _ => rfl)).2 (.inl rfl)) H6 (s05.trans s6)
      · exact qn ((fin false false t1 f1 (fun z => by cases z) (fun z => absurd z hy)).2 (.inl rfl)) H6 (s05.trans s6)
    | true =>
      refine iteT ?_
      refine ⟨_, rfl, _, rfl, lf, l2, U, Y, rfl, s6 _ _ rU, (s05.trans s6) _ _ h2, W.p, py, by omega, lY, bU, g.yb, fun b2 H7 s7 t2 f2 => ?_⟩
      refine ⟨b2, rfl, ?_⟩
      have hf := fin true b2 t1 f1 t2 f2
      cases b2 with
      | false =>
        refine iteF ?_
        exact qn (hf.2 (.inr rfl)) H7 (s05.trans (s6.trans s7))
      | true =>
        refine iteT ?_
        refine ⟨_, rfl, q lf H7 (s05.trans (s6.trans s7)) ?_⟩
        rw [← hf.1 ⟨rfl, rfl⟩]
        exact s7 _ _ (s6 _ _ rU)
abbrev sCR : Stmt := topS 11
theorem scCR : FnScope ["one", "other", "bits", "found"] ["one", "other"] (defScope sCR) := ⟨rfl, rfl, rfl, by decide +kernel, rfl, by decide +kernel, by decide +kernel⟩
theorem ok_cr {f : Addr} {fd : FuncData} (F : Fun K "common_row" "common_row" sCR f fd) {PB : Addr} (hPB : mg "PRIME_BITS" = some (.ref PB)) (hPK : ∀ H, SqT K H PB (([61, 521, 1279, 2281, 4423, 9689, 19937, 44497] : List Int).map V.int)) (G_divisor_by_residues : Df P w K mg base "divisor_by_residues" 4 ["one", "other", "prime"] spDR) : FnOk P w K mg base CX0 5 f fd ["one", "other"] spCR := by
  refine F.ok scCR (fun vs H Q E h => ?_) (fun cdv A outer s H vs Q E hr h => ?_)
  · obtain ⟨l1, l2, X, Y, G, rfl, _⟩ := h
    rfl
  · obtain ⟨l1, l2, X, Y, G, rfl, h1, h2, g, q⟩ := h
    refine ⟨_, (pss_cons (ps_for PassesOwn.never rfl (pi_seq (pe_glob (v := V.ref PB) rfl hPB rfl)) (pg_name (i := 2) scCR.nd rfl (Or.inl rfl))
    (pss_cons (ps_set (i := 3) scCR.nd rfl (Or.inl rfl) (pe_call G_divisor_by_residues.ok (hr.mono (by decide)) rfl G_divisor_by_residues.m G_divisor_by_residues.kp G_divisor_by_residues.b .nil pass0 (pa_cons (pv 0) (pa_cons (pv 1) (pa_cons (pe_op op_sub (pe_op op_shlW pe_int (pv 2)) pe_int) pa_nil)))))
    (pss_one (ps_if (pt_cmpR op_notN (pv 3) pe_non (nomark _))
      (pss_one (ps_ret (pv 3)))
      pss_nil))))
  pss_no), ?_⟩
    refine ⟨PB, rfl, .inr ⟨_, hPK H, for_tup (K := K) (a := PB) (xs := ([61, 521, 1279, 2281, 4423, 9689, 19937, 44497] : List Int).map V.int) (fun i σ H' => i ≤ 4 ∧ ∃ v1 v2 : Option V, σ = [some (.ref l1), some (.ref l2), v1, v2] ∧ Same H H') ⟨by omega, none, none, rfl, Same.refl _⟩ (fun i σ H' _ _ => hPK H') ?_ (fun σ H' z => by have := z.1; simp at this)⟩⟩
    rintro i x σ H1 hi ⟨i4, v1, v2, rfl, s1⟩
    obtain ⟨b, hb, hpr, hle, hlast⟩ : ∃ b : Nat, x = .int (b : Int) ∧ Pr (2 ^ b - 1) ∧ b ≤ 4423 ∧ (b ≠ 4423 → i + 1 ≤ 4) := by
      match i, i4, hi with
      | 0, _, hi => exact ⟨61, (Option.some.inj hi).symm, pr61, by decide, fun _ => by omega⟩
      | 1, _, hi => exact ⟨521, (Option.some.inj hi).symm, pr521, by decide, fun _ => by omega⟩
      | 2, _, hi => exact ⟨1279, (Option.some.inj hi).symm, pr1279, by decide, fun _ => by omega⟩
      | 3, _, hi => exact ⟨2281, (Option.some.inj hi).symm, pr2281, by decide, fun _ => by omega⟩
      | 4, _, hi => exact ⟨4423, (Option.some.inj hi).symm, pr4423, by decide, fun z => absurd rfl z⟩
    subst hb
    have eP : (1 : Int) * 2 ^ ((b : Nat) : Int).toNat - 1 = ((2 ^ b - 1 : Nat) : Int) := by
      have := Nat.one_le_two_pow (n := b)
      rw [Int.toNat_natCast, Int.natCast_sub this, Int.one_mul, Int.natCast_pow]
      rfl
    have hb2 : 2 ^ b - 1 ≤ 2 ^ 4423 - 1 := Nat.sub_le_sub_right (Nat.pow_le_pow_right (by decide) hle) 1
    refine ⟨_, rfl, _, rfl, _, rfl, _, _, rfl, rfl, L2.shl_ok (n := 1) (by decide) (by omega), _, _, rfl, rfl, l1, l2, X, Y, G, 2 ^ b - 1, ?_, s1 _ _ h1, s1 _ _ h2, g, hpr, hb2, fun l' H2 s2 rl => ?_, fun nb H2 s2 => ?_⟩
    · dsimp only
      rw [eP]
      rfl
    · refine ⟨_, rfl, rfl, _, rfl, ?_⟩
      refine iteT ?_
      exact ⟨_, rfl, q l' H2 (s1.trans s2) rl⟩
    · refine ⟨_, rfl, rfl, _, rfl, ?_⟩
      refine iteF ?_
      exact ⟨hlast fun z => nb (by rw [z]), _, _, rfl, s1.trans s2⟩
end
end Vf
set_option maxRecDepth 100000
set_option maxHeartbeats 8000000
namespace Vf
open PySem PySem.Spec PyProof.Rows L2
theorem lz_ix {ns : List Int} {k : Nat} (h : k < ns.length) : ixN (ns.map V.int).length ((k : Nat) : Int) = some k := by
  unfold ixN
  rw [if_pos (by omega), List.length_map, if_pos (by omega)]
  rfl
/-- what the division may meet: a short divisor, or a primitive one that divides -/
def LdOk (A B : List Int) : Prop := (∀ i, (ci B i).natAbs ≤ 2 ^ 110) ∨ (Pm B ∧ ∃ c : List Int, ∀ x, ev (qi A) x = ev (qi B) x * ev (qi c) x)
structure Ld (A B q r : List Int) (s : Nat) : Prop where
  s0 : 0 < s
  sb : s ≤ 2 ^ 1430
  lr : r.length < B.length
  sr : Stp (qi r)
  e : ∀ x, (s : Rat) * ev (qi A) x = ev (qi q) x * ev (qi B) x + ev (qi r) x
  lq : q.length ≤ 13
  bq : ∀ i, (ci q i).natAbs ≤ 2 ^ 20000
def spLd : Sp := fun vs H Q _ => ∃ (l1 l2 : Addr) (A B : List Int), vs = [.ref l1, .ref l2] ∧ RI H l1 A ∧ RI H l2 B ∧ A.length ≤ 13 ∧ B.length ≤ 13 ∧ Stp (qi A) ∧ Stp (qi B) ∧ B ≠ [] ∧ (∀ i, (ci A i).natAbs ≤ 2 ^ 1200) ∧ (∀ i, (ci B i).natAbs ≤ 2 ^ 1200) ∧ LdOk A B ∧
  ∀ (t lq lr : Addr) (q r : List Int) (s : Nat) (H' : Hp), Same H H' → H' t = some (.tup [.ref lq, .ref lr, .int (s : Int)]) → RI H' lq q → RI H' lr r → Ld A B q r s → Q (.ref t) H'
theorem ci_setI {l : List Int} {i j : Nat} {x : Int} (h : i < l.length) : ci (l.set i x) j = if j = i then x else ci l j := by
  by_cases e : j = i
  · subst e
    rw [if_pos rfl]
    exact ci_get (by rw [List.getElem?_set_self h])
  · rw [if_neg e]
    unfold ci
    rw [List.getD_eq_getElem?_getD, List.getD_eq_getElem?_getD, List.getElem?_set_ne (fun z => e z.symm)]
def SmallB (B : List Int) : Prop := ∀ i, (ci B i).natAbs ≤ 2 ^ 110
structure LdI (A B q R : List Int) (s : Nat) : Prop where
  s0 : 0 < s
  sb : s ≤ 2 ^ (110 * (A.length - R.length))
  sr : Stp (qi R)
  lr : R.length ≤ A.length
  e : ∀ x, (s : Rat) * ev (qi A) x = ev (qi q) x * ev (qi B) x + ev (qi R) x
  lq : q.length = A.length + 1 - B.length
  bq : ∀ i, (ci q i).natAbs ≤ 2 ^ (1200 + 1202 * (A.length - R.length))
  br : ∀ i, (ci R i).natAbs ≤ 2 ^ (1200 + 1202 * (A.length - R.length))
  z : ∀ i, i + B.length ≤ R.length → ci q i = 0
  x1 : ¬ SmallB B → s = 1
theorem LdI.step {A B q R R' : List Int} {s : Nat} {j f g : Int} (I : LdI A B q R s) (sB : Stp (qi B)) (nB : B ≠ []) (bB : ∀ i, (ci B i).natAbs ≤ 2 ^ 1200) (ok : LdOk A B) (hl : B.length ≤ R.length) (jg : j.natAbs = Nat.gcd (ci R (R.length - 1)).natAbs (ci B (B.length - 1)).natAbs)
    (f0 : 0 < f) (ef : ci B (B.length - 1) = j * f) (eg : ci R (R.length - 1) = j * g) (W : Wl R B f g R') : LdI A B ((q.map (f * ·)).set (R.length - B.length) g) R' (s * f.toNat) ∧ R'.length < R.length := by
  have B0 := List.length_pos_iff.mpr nB
  have lr := I.lr
  have lq := I.lq
  have j0 : j ≠ 0 := fun z => by rw [z, Int.zero_mul] at ef; exact stp_top sB nB ef
  have lt : R'.length < R.length := W.short nB hl (by rw [ef, eg]; simp only [Int.mul_comm, Int.mul_left_comm])
  have hsh : R.length - B.length < (q.map (f * ·)).length := by rw [List.length_map]; omega
  have fab : f.natAbs ≤ (ci B (B.length - 1)).natAbs := by
    rw [ef, Int.natAbs_mul]
    exact Nat.le_mul_of_pos_left _ (by omega)
  have gab : g.natAbs ≤ (ci R (R.length - 1)).natAbs := by
    rw [eg, Int.natAbs_mul]
    exact Nat.le_mul_of_pos_left _ (by omega)
  have fT : ((f.toNat : Nat) : Int) = f := Int.toNat_of_nonneg (by omega)
  have fR : ((f.toNat : Nat) : Rat) = (f : Rat) := by rw [← Rat.intCast_natCast, fT]
  have cq : ∀ i, ci ((q.map (f * ·)).set (R.length - B.length) g) i = f * ci q i + (if i = R.length - B.length then g else 0) := fun i => by
    rw [ci_setI hsh, ci_scale]
    split
    · rename_i h
      rw [h, I.z _ (by omega), Int.mul_zero, Int.zero_add]
    · rw [Int.add_zero]
  have exact1 : ¬ SmallB B → f = 1 := fun ns => by
    rcases ok with y | ⟨pB, c, hc⟩
    · exact absurd y ns
    · have s1 := I.x1 ns
      obtain ⟨d, hd⟩ := row_sub c q
      have nR : R ≠ [] := fun z => by rw [z] at hl; exact absurd hl (by show ¬ B.length ≤ 0; omega)
      obtain ⟨dv, _⟩ := lead_dvd2 I.sr nR sB nB ⟨d, fun x => by
        have h3 := I.e x
        rw [s1, hc] at h3
        rw [hd]
        have : ((1 : Nat) : Rat) = 1 := rfl
        rw [this] at h3
        grind⟩
      have h4 : j.natAbs = (ci B (B.length - 1)).natAbs := by
        rw [jg]
        exact Nat.gcd_eq_right (Int.natAbs_dvd_natAbs.mpr dv)
      rw [ef, Int.natAbs_mul] at h4
      have h5 : f.natAbs = 1 := by
        have : j.natAbs * f.natAbs = j.natAbs * 1 := by omega
        exact Nat.eq_of_mul_eq_mul_left (by omega) this
      omega
  have ex : 1200 + 1202 * (A.length - R.length) + 1201 + 1 ≤ 1200 + 1202 * (A.length - R'.length) := by omega
  have pw : 2 ^ (1200 + 1202 * (A.length - R.length)) * 2 ^ 1200 + 2 ^ (1200 + 1202 * (A.length - R.length)) * 2 ^ 1200 ≤ 2 ^ (1200 + 1202 * (A.length - R'.length)) := by
    rw [← Nat.pow_add, ← Nat.mul_two, ← Nat.pow_succ]
    exact Nat.pow_le_pow_right (by decide) (by omega)
  have pw1 : 2 ^ (1200 + 1202 * (A.length - R.length)) ≤ 2 ^ (1200 + 1202 * (A.length - R.length)) * 2 ^ 1200 := Nat.le_mul_of_pos_right _ (Nat.pow_pos (by decide))
  have fb := Nat.le_trans fab (bB _)
  have gb := Nat.le_trans gab (I.br _)
  refine ⟨⟨Nat.mul_pos I.s0 (by omega), ?_, W.s, by omega, fun x => ?_, by rw [List.length_set, List.length_map]; exact lq, fun i => ?_, fun i => ?_, fun i hi => ?_, fun ns => by rw [I.x1 ns, exact1 ns]; rfl⟩, lt⟩
  · by_cases sm : SmallB B
    · have h1 : f.toNat ≤ 2 ^ 110 := by have := sm (B.length - 1); omega
      have h2 := Nat.mul_le_mul I.sb h1
      rw [← Nat.pow_add] at h2
      exact Nat.le_trans h2 (Nat.pow_le_pow_right (by decide) (by omega))
    · rw [exact1 sm, I.x1 sm]
      exact Nat.one_le_two_pow
  · have hq : ev (qi ((q.map (f * ·)).set (R.length - B.length) g)) x = (f : Rat) * ev (qi q) x + (g : Rat) * x ^ (R.length - B.length) := by
      have e1 : ev (qi ((q.map (f * ·)).set (R.length - B.length) g)) x = ev (padd (pscale (qi q) (f : Rat)) (List.replicate (R.length - B.length) (0 : Rat) ++ [(g : Rat)])) x := ev_ext (fun i => by
        rw [cf_qi, cq, cf_padd, cf_psc, cf_shift, cf_qi, Rat.intCast_add, Rat.intCast_mul]
        by_cases h : i = R.length - B.length
        · rw [if_pos h, if_pos (by omega), show i - (R.length - B.length) = 0 by omega]
          show _ = _ + (g : Rat)
          grind
        · rw [if_neg h]
          by_cases h2 : R.length - B.length ≤ i
          · rw [if_pos h2, cf_ge (by show 1 ≤ i - (R.length - B.length); omega)]
            rw [show ((0 : Int) : Rat) = 0 from rfl]
            grind
          · rw [if_neg h2, show ((0 : Int) : Rat) = 0 from rfl]
            grind) x
      rw [e1, ev_padd, ev_pscale, ev_app, ev_rep0, List.length_replicate]
      show _ + (0 + x ^ (R.length - B.length) * ((g : Rat) + x * 0)) = _
      grind
    rw [hq, W.evk, Rat.natCast_mul, fR]
    have := I.e x
    have h3 : (s : Rat) * (f : Rat) * ev (qi A) x = (f : Rat) * ((s : Rat) * ev (qi A) x) := by grind
    rw [h3, this]
    grind
  · rw [cq]
    have h1 := Int.natAbs_add_le (f * ci q i) (if i = R.length - B.length then g else 0)
    rw [Int.natAbs_mul] at h1
    have h2 := Nat.mul_le_mul fb (I.bq i)
    rw [Nat.mul_comm (2 ^ 1200)] at h2
    have h3 : (if i = R.length - B.length then g else 0).natAbs ≤ 2 ^ (1200 + 1202 * (A.length - R.length)) := by
      split
      · exact gb
      · exact Nat.zero_le _
    omega
  · rw [W.e]
    have h1 := Int.natAbs_sub_le (f * ci R i) (g * (if R.length - B.length ≤ i then ci B (i - (R.length - B.length)) else 0))
    rw [Int.natAbs_mul, Int.natAbs_mul] at h1
    have h2 := Nat.mul_le_mul fb (I.br i)
    rw [Nat.mul_comm (2 ^ 1200)] at h2
    have h3 : (if R.length - B.length ≤ i then ci B (i - (R.length - B.length)) else 0).natAbs ≤ 2 ^ 1200 := by
      split
      · exact bB _
      · exact Nat.zero_le _
    have h4 := Nat.mul_le_mul gb h3
    omega
  · rw [cq, I.z i (by omega), Int.mul_zero, if_neg (by omega)]
    rfl
section
variable {P : Program} {w : World} {K : PySem.W.Frag} {mg : Str → Option Value} {base : Heap} {CP CR CN CI : Addr}
abbrev sLd : Stmt := topS 7
theorem scLd : FnScope ["one", "other", "quotient", "rest", "scale", "shared", "factor", "number", "shift", "item"] ["one", "other"] (defScope sLd) := ⟨rfl, rfl, rfl, by decide +kernel, rfl, by decide +kernel, by decide +kernel⟩
theorem ok_ld {f : Addr} {fd : FuncData} (F : Fun K "long_division" "long_division" sLd f fd) (T : Bk mg) (hmax : mg "max" = none) (G_without_lead : Df P w K mg base "without_lead" 2 ["one", "other", "factor", "number"] spWl) : FnOk P w K mg base CX0 3 f fd ["one", "other"] spLd := by
  refine F.ok scLd (fun vs H Q E h => ?_) (fun cdv A0 outer s0 H vs Q E hr h => ?_)
  · obtain ⟨l1, l2, A, B, rfl, _⟩ := h
    rfl
  · obtain ⟨l1, l2, A, B, rfl, h1, h2, lA, lB, sA, sB, nB, bA, bB, ok, kend⟩ := h
    have B0 := List.length_pos_iff.mpr nB
    have tB := stp_top sB nB
    refine ⟨_, (pss_cons (ps_set (i := 2) scLd.nd rfl (Or.inl rfl) (pe_op op_rep (pe_lst (pa_cons pe_int pa_nil)) (pe_callB (call_max2 rfl) (by rfl) hmax (by decide +kernel) (pa_cons pe_int (pa_cons (pe_op op_add (pe_op op_sub (pe_callB call_len_seq (by rfl) T.len (by decide +kernel) (pa_cons (pv 0) pa_nil)) (pe_callB call_len_seq (by rfl) T.len (by decide +kernel) (pa_cons (pv 1) pa_nil))) pe_int) pa_nil)))))
  (pss_cons (ps_set (i := 3) scLd.nd rfl (Or.inl rfl) (pe_callTy call_list_of (by rfl) T.list (by decide +kernel) (pa_cons (pv 0) pa_nil)))
  (pss_cons (ps_set (i := 4) scLd.nd rfl (Or.inl rfl) pe_int)
  (pss_cons (ps_while PassesOwn.never (pt_cmpR op_ge (pe_callB call_len_seq (by rfl) T.len (by decide +kernel) (pa_cons (pv 3) pa_nil)) (pe_callB call_len_seq (by rfl) T.len (by decide +kernel) (pa_cons (pv 1) pa_nil)) (nomark _))
    (pss_cons (ps_set (i := 5) scLd.nd rfl (Or.inl rfl) (pe_callBfun cr_gcd (by rfl) T.gcd (pa_cons (pe_ix ix_list (pv 3) (pe_un un_neg pe_int) (fun _ _ => rfl)) (pa_cons (pe_ix ix_list (pv 1) (pe_un un_neg pe_int) (fun _ _ => rfl)) pa_nil))))
    (pss_cons (ps_if (pt_cmpR op_lt (pe_ix ix_list (pv 1) (pe_un un_neg pe_int) (fun _ _ => rfl)) pe_int (nomark _))
      (pss_one (ps_set (i := 5) scLd.nd rfl (Or.inl rfl) (pe_un un_neg (pv 5))))
      pss_nil)
    (pss_cons (ps_set (i := 6) scLd.nd rfl (Or.inr rfl) (pe_op op_fdivZ (pe_ix ix_list (pv 1) (pe_un un_neg pe_int) (fun _ _ => rfl)) (pv 5)))
    (pss_cons (ps_set (i := 7) scLd.nd rfl (Or.inl rfl) (pe_op op_fdivZ (pe_ix ix_list (pv 3) (pe_un un_neg pe_int) (fun _ _ => rfl)) (pv 5)))
    (pss_cons (ps_set (i := 8) scLd.nd rfl (Or.inl rfl) (pe_op op_sub (pe_callB call_len_seq (by rfl) T.len (by decide +kernel) (pa_cons (pv 3) pa_nil)) (pe_callB call_len_seq (by rfl) T.len (by decide +kernel) (pa_cons (pv 1) pa_nil))))
    (pss_cons (ps_setLc (i := 2) (own := [("item", 9)]) (g := (gName 9)) (tt := tYes) rfl scLd.nd rfl rfl (sw_true rfl rfl rfl (by decide +kernel)) (pi_seq (pv 2)) (blkOk_by (N := ["one", "other", "quotient", "rest", "scale", "shared", "factor", "number", "shift", "item"]) (sc := defScope sLd) (by decide +kernel)) (fun _ _ _ _ _ => pg_name (i := 9) scLd.nd rfl (Or.inl rfl)) (fun _ _ _ _ _ => pts_nil) (fun _ _ _ _ _ => (pe_op op_mulW (pv 6) (pv 9))))
    (pss_cons (ps_asg (pv 7) (pg_sub (pv 2) (pv 8) set_list))
    (pss_cons (ps_set (i := 3) scLd.nd rfl (Or.inl rfl) (pe_call G_without_lead.ok (hr.mono (by decide)) rfl G_without_lead.m G_without_lead.kp G_without_lead.b .nil pass0 (pa_cons (pv 3) (pa_cons (pv 1) (pa_cons (pv 6) (pa_cons (pv 7) pa_nil))))))
    (pss_one (ps_set (i := 4) scLd.nd rfl (Or.inl rfl) (pe_op op_mulW (pv 4) (pv 6)))))))))))))
  (pss_one (ps_ret (pe_tup (pa_cons (pv 2) (pa_cons (pv 3) (pa_cons (pv 4) pa_nil)))))))))), ?_⟩
    refine ⟨(by show 1 ≤ sizeLine; decide), fun k1 nk1 => ?_⟩
    have ek1 : upd H k1 (HO.lst [V.int 0]) k1 = some (HO.lst [V.int 0]) := upd_same
    have s1 : Same H (upd H k1 (HO.lst [V.int 0])) := same_upd nk1
    generalize upd H k1 (HO.lst [V.int 0]) = H1 at ek1 s1 ⊢
    refine ⟨_, rfl, l1, _, rfl, .inl (SqL.of (s1 _ _ h1)), _, rfl, l2, _, rfl, .inl (SqL.of (s1 _ _ h2)), _, _, rfl, rfl, _, _, rfl, rfl, _, _, rfl, ?_⟩
    rw [List.length_map, List.length_map]
    obtain ⟨k, hk⟩ : ∃ k, k = A.length + 1 - B.length := ⟨_, rfl⟩
    have em : (if (A.length : Int) - (B.length : Int) + 1 > 0 then (A.length : Int) - (B.length : Int) + 1 else 0) = ((k : Nat) : Int) := by split <;> omega
    refine ⟨k1, ((k : Nat) : Int), _, rfl, congrArg V.int em, ek1, by omega, by omega, (by rw [sizeLine_eq]; show 1 * _ ≤ _; omega), fun k2 nk2 => ?_⟩
    have er : (List.replicate ((k : Nat) : Int).toNat [V.int 0]).flatten = (List.replicate k (0 : Int)).map V.int := by
      rw [Int.toNat_natCast]
      clear hk em
      induction k with
      | zero => rfl
      | succ k ih =>
        rw [List.replicate_succ, List.flatten_cons, ih, List.replicate_succ]
        rfl
    rw [er]
    have ek2 : upd H1 k2 (HO.lst ((List.replicate k (0 : Int)).map V.int)) k2 = some (HO.lst ((List.replicate k (0 : Int)).map V.int)) := upd_same
    have s2 : Same H1 (upd H1 k2 (HO.lst ((List.replicate k (0 : Int)).map V.int))) := same_upd nk2
    have nk2H : H k2 = none := s1.free nk2
    generalize upd H1 k2 (HO.lst ((List.replicate k (0 : Int)).map V.int)) = H2 at ek2 s2 ⊢
    refine ⟨_, rfl, l1, _, rfl, .inl (SqL.of (s2 _ _ (s1 _ _ h1))), fun k3 nk3 => ?_⟩
    have ek3 : upd H2 k3 (HO.lst (A.map V.int)) k3 = some (HO.lst (A.map V.int)) := upd_same
    have s3 : Same H2 (upd H2 k3 (HO.lst (A.map V.int))) := same_upd nk3
    generalize upd H2 k3 (HO.lst (A.map V.int)) = H3 at ek3 s3 ⊢
    have s03 : Same H H3 := s1.trans (s2.trans s3)
    have I0 : LdI A B (List.replicate k (0 : Int)) A 1 := by
      have c0 : ∀ i, ci (List.replicate k (0 : Int)) i = 0 := fun i => by
        unfold ci
        rw [List.getD_eq_getElem?_getD, List.getElem?_replicate]
        split <;> rfl
      refine ⟨by decide, Nat.one_le_two_pow, sA, Nat.le_refl _, fun x => ?_, by rw [List.length_replicate, hk], fun i => by rw [c0]; exact Nat.zero_le _, fun i => by rw [Nat.sub_self]; exact bA i, fun i _ => c0 i, fun _ => rfl⟩
      have : ev (qi (List.replicate k (0 : Int))) x = 0 := by
        unfold qi
        rw [List.map_replicate]
        exact ev_rep0 x k
      rw [this]
      show (1 : Rat) * _ = _
      grind
    refine ⟨fun m σ H' => ∃ (lq lr : Addr) (q R : List Int) (s : Nat) (v5 v6 v7 v8 v9 : Option V), σ = [some (.ref l1), some (.ref l2), some (.ref lq), some (.ref lr), some (.int (s : Int)), v5, v6, v7, v8, v9] ∧ Same H H' ∧ RI H' lq q ∧ RI H' lr R ∧ LdI A B q R s ∧ H lq = none ∧ m = R.length, ⟨_, k2, k3, List.replicate k (0 : Int), A, 1, none, none, none, none, none, rfl, s03, s3 _ _ ek2, ek3, I0, nk2H, rfl⟩, ?_⟩
    rintro m σ H4 ⟨lq, lr, q, R, s, v5, v6, v7, v8, v9, rfl, s4, rq, rr, I, nlq, rfl⟩
    refine ⟨_, rfl, lr, _, rfl, .inl (SqL.of rr), _, rfl, l2, _, rfl, .inl (SqL.of (s4 _ _ h2)), _, _, rfl, rfl, ?_⟩
    rw [List.length_map, List.length_map]
    by_cases hl : B.length ≤ R.length
    · refine ⟨true, congrArg V.bl (decide_eq_true (by omega)), ?_⟩
      refine iteT ?_
      have nR : R ≠ [] := fun z => by rw [z] at hl; exact absurd hl (by show ¬ B.length ≤ 0; omega)
      have R0 := List.length_pos_iff.mpr nR
      refine ⟨fun σ' H' => ∃ (lq lr : Addr) (q R' : List Int) (s : Nat) (v5 v6 v7 v8 v9 : Option V), σ' = [some (.ref l1), some (.ref l2), some (.ref lq), some (.ref lr), some (.int (s : Int)), v5, v6, v7, v8, v9] ∧ Same H H' ∧ RI H' lq q ∧ RI H' lr R' ∧ LdI A B q R' s ∧ H lq = none ∧ R'.length < R.length, fun σ' H' ⟨lq, lr, q, R', s, v5, v6, v7, v8, v9, e1, e2, e3, e4, e5, e6, e7⟩ => ⟨_, e7, lq, lr, q, R', s, v5, v6, v7, v8, v9, e1, e2, e3, e4, e5, e6, rfl⟩, ?_⟩
      have h24 := s4 _ _ h2
      refine ⟨_, rfl, _, rfl, lr, _, _, _, rfl, rfl, SqL.of rr, atI_top R0, _, rfl, _, rfl, l2, _, _, _, rfl, rfl, SqL.of h24, atI_top B0, _, _, rfl, ?_⟩
      obtain ⟨M, eM⟩ : ∃ M : Nat, M = Nat.gcd (ci R (R.length - 1)).natAbs (ci B (B.length - 1)).natAbs := ⟨_, rfl⟩
      rw [← eM]
      have M0 : 0 < M := by rw [eM]; exact Nat.gcd_pos_of_pos_right _ (by omega)
      dsimp only [gName]
      refine seq_step (fun σ' H' => ∃ j : Int, σ' = [some (.ref l1), some (.ref l2), some (.ref lq), some (.ref lr), some (.int (s : Int)), some (.int j), v6, v7, v8, v9] ∧ H' = H4 ∧ j.natAbs = M ∧ (0 < j ↔ 0 < ci B (B.length - 1))) (fun kk hkk => ?_) ?_
      · refine ⟨_, rfl, _, rfl, l2, _, _, _, rfl, rfl, SqL.of h24, atI_top B0, _, _, rfl, rfl, ?_⟩
        show ∃ k, V.bl (decide (ci B (B.length - 1) < 0)) = V.bl k ∧ _
        by_cases z : ci B (B.length - 1) < 0
        · refine ⟨true, congrArg V.bl (decide_eq_true z), ?_⟩
          refine iteT ?_
          refine ⟨_, rfl, _, rfl, hkk _ _ ⟨-(M : Int), rfl, rfl, by omega, by omega⟩⟩
        · refine ⟨false, congrArg V.bl (decide_eq_false z), ?_⟩
          refine iteF ?_
          exact hkk _ _ ⟨(M : Int), rfl, rfl, by omega, by omega⟩
      · rintro σ' H' ⟨j, rfl, e9, jM, js⟩
        rw [e9]
        clear e9
        have j0 : j ≠ 0 := by omega
        have jd : j.natAbs.log2 < 9000 := by
          have h5 : M ≤ (ci B (B.length - 1)).natAbs := Nat.le_of_dvd (by omega) (by rw [eM]; exact Nat.gcd_dvd_right _ _)
          exact Nat.lt_trans (PySem.Flt.log2_lt_of (show 0 < 1201 by decide) (show j.natAbs < 2 ^ 1201 by rw [jM]; exact Nat.lt_of_le_of_lt (Nat.le_trans h5 (bB _)) (Nat.pow_lt_pow_right (by decide) (by decide)))) (by decide)
        obtain ⟨f, ef⟩ : j ∣ ci B (B.length - 1) := Int.natAbs_dvd_natAbs.mp (by rw [jM, eM]; exact Nat.gcd_dvd_right _ _)
        obtain ⟨g, eg⟩ : j ∣ ci R (R.length - 1) := Int.natAbs_dvd_natAbs.mp (by rw [jM, eM]; exact Nat.gcd_dvd_left _ _)
        have f0 : 0 < f := by
          rcases Int.lt_trichotomy 0 f with z | z | z
          · exact z
          · rw [← z, Int.mul_zero] at ef
            exact absurd ef tB
          · exfalso
            rcases Int.lt_or_lt_of_ne j0 with y | y
            · have h5 := Int.mul_pos_of_neg_of_neg y z
              have := js.mpr (ef.symm ▸ h5)
              omega
            · have h5 := Int.mul_neg_of_pos_of_neg y z
              have h6 := js.mp y
              have h7 : ci B (B.length - 1) < 0 := ef.symm ▸ h5
              omega
        have ff : (ci B (B.length - 1)).fdiv j = f := fdiv_of j0 ef
        have gg : (ci R (R.length - 1)).fdiv j = g := fdiv_of j0 eg
        have fab : f.natAbs ≤ 2 ^ 1200 := by
          have h5 := bB (B.length - 1)
          rw [ef, Int.natAbs_mul] at h5
          have := Nat.le_mul_of_pos_left f.natAbs (show 0 < j.natAbs by omega)
          omega
        have lR := I.lr
        have small : ∀ {z : Int} {n : Nat}, z.natAbs ≤ 2 ^ n → z.natAbs < 2 ^ (n + 1) := fun {z n} h => Nat.lt_of_le_of_lt h (Nat.pow_lt_pow_right (by decide) (by omega))
        have wide : ∀ {x : Int}, x.natAbs ≤ 2 ^ (1200 + 1202 * (A.length - R.length)) → x.natAbs < 2 ^ 20000 := fun {x} h => Nat.lt_of_le_of_lt h (Nat.pow_lt_pow_right (by decide) (by omega))
        have gab : g.natAbs < 2 ^ 20000 := wide (by
          have h5 := I.br (R.length - 1)
          rw [eg, Int.natAbs_mul] at h5
          have := Nat.le_mul_of_pos_left g.natAbs (show 0 < j.natAbs by omega)
          omega)
        refine ⟨_, rfl, _, rfl, l2, _, _, _, rfl, rfl, SqL.of h24, atI_top B0, _, rfl, _, _, rfl, rfl, ⟨j0, jd⟩, ?_⟩
        dsimp only [gName]
        rw [ff]
        refine ⟨_, rfl, _, rfl, lr, _, _, _, rfl, rfl, SqL.of rr, atI_top R0, _, rfl, _, _, rfl, rfl, ⟨j0, jd⟩, ?_⟩
        dsimp only [gName]
        rw [gg]
        refine ⟨_, rfl, lr, _, rfl, .inl (SqL.of rr), _, rfl, l2, _, rfl, .inl (SqL.of h24), _, _, rfl, rfl, ?_⟩
        rw [List.length_map, List.length_map]
        have esh : ((R.length : Nat) : Int) - ((B.length : Nat) : Int) = ((R.length - B.length : Nat) : Int) := by omega
        dsimp only [gName]
        rw [esh]
        -- the quotient by the factor
        refine ⟨_, rfl, lq, rfl, lc_seq (xs := q.map V.int) (.inl (SqL.of rq)) (fun D i H' => Same H4 H' ∧ H' D = some (.lst ((tabI i fun i => f * ci q i).map V.int))) ?_ ?_ ?_ ?_⟩
        · intro D hD
          exact ⟨same_upd hD, upd_same⟩
        · intro D i H2 hD ⟨s2, _⟩
          exact ⟨same_sqL s2, same_sqT s2⟩
        · intro D i x H' hD hi ⟨ss, eD⟩
          have hi' : i < q.length := by
            have := (List.getElem?_eq_some_iff.mp hi).1
            rw [List.length_map] at this
            exact this
          have lq13 := I.lq
          rw [List.getElem?_map, ci_lt hi'] at hi
          cases hi
          refine ⟨rfl, ?_⟩
          refine ⟨_, rfl, _, rfl, _, _, rfl, rfl, wide_mul (a := 1201) (b := 20000) (small fab) (wide (I.bq i)) (by decide) (by decide) (by decide), ?_⟩
          refine ⟨_, eD, (by rw [List.length_map, tabI_len, sizeLine_eq]; omega), fun b o e => ?_, ?_⟩
          · rw [upd_ne (ne_of_none e hD)]
            exact ss _ _ e
          · rw [upd_same, tabI_snoc, List.map_append]
            rfl
        intro D H5 hD ⟨s5, eD⟩
        rw [List.length_map] at eD
        have nDH : H D = none := s4.free hD
        have etab : tabI q.length (fun i => f * ci q i) = q.map (f * ·) := ci_ext (by rw [tabI_len, List.length_map]) fun i => by
          rw [ci_tab, ci_scale]
          split
          · rfl
          · rw [ci_ge (by omega), Int.mul_zero]
        rw [etab] at eD
        have lsh : R.length - B.length < (q.map (f * ·)).length := by rw [List.length_map, I.lq]; omega
        refine ⟨_, rfl, _, rfl, _, rfl, D, _, _, R.length - B.length, rfl, rfl, eD, lz_ix lsh, ?_⟩
        have eS : (((q.map (f * ·)).map V.int).set (R.length - B.length) (V.int g)) = ((q.map (f * ·)).set (R.length - B.length) g).map V.int := List.map_set.symm
        rw [eS]
        have eD6 : upd H5 D (.lst (((q.map (f * ·)).set (R.length - B.length) g).map V.int)) D = some (.lst (((q.map (f * ·)).set (R.length - B.length) g).map V.int)) := upd_same
        have s6 : ∀ b o, H4 b = some o → upd H5 D (.lst (((q.map (f * ·)).set (R.length - B.length) g).map V.int)) b = some o := fun b o e => by
          rw [upd_ne (ne_of_none e hD)]
          exact s5 _ _ e
        generalize upd H5 D (.lst (((q.map (f * ·)).set (R.length - B.length) g).map V.int)) = H6 at eD6 s6 ⊢
        have s46 : Same H4 H6 := fun b o e => s6 b o e
        refine ⟨_, rfl, _, rfl, _, rfl, _, rfl, lr, l2, R, B, f, g, rfl, s46 _ _ rr, s46 _ _ h24, by omega, hl, fun i => wide_mul (a := 1201) (b := 20000) (small fab) (wide (I.br i)) (by decide) (by decide) (by decide), fun i => wide_mul (a := 20000) (b := 1201) gab (small (bB i)) (by decide) (by decide) (by decide), fun l7 R' H7 s7 r7 W => ?_⟩
        obtain ⟨I2, lt⟩ := I.step sB nB bB ok hl (by rw [jM, eM]) f0 ef eg W
        have sb1430 : ((s : Nat) : Int).natAbs < 2 ^ 1431 := by
          rw [Int.natAbs_natCast]
          exact Nat.lt_of_le_of_lt (Nat.le_trans I.sb (Nat.pow_le_pow_right (by decide) (show 110 * (A.length - R.length) ≤ 1430 by omega))) (Nat.pow_lt_pow_right (by decide) (by decide))
        refine ⟨_, rfl, _, rfl, _, _, rfl, rfl, wide_mul (a := 1431) (b := 1201) sb1430 (small fab) (by decide) (by decide) (by decide), ?_⟩
        refine ⟨D, l7, _, R', s * f.toNat, some (.int j), some (.int f), some (.int g), some (.int ((R.length - B.length : Nat) : Int)), v9, ?_, s4.trans (s46.trans s7), s7 _ _ eD6, r7, I2, nDH, lt⟩
        rw [Int.natCast_mul, Int.toNat_of_nonneg (show 0 ≤ f by omega)]
        rfl
    · refine ⟨false, congrArg V.bl (decide_eq_false (by omega)), ?_⟩
      refine iteF ?_
      refine ⟨_, rfl, _, rfl, _, rfl, (by show 3 ≤ sizeLine; decide), fun t nt => ?_⟩
      have lr' := I.lr
      have st := same_upd (o := HO.tup [V.ref lq, V.ref lr, V.int (s : Int)]) nt
      refine kend t lq lr q R s _ (s4.trans st) upd_same (st _ _ rq) (st _ _ rr) ⟨I.s0, Nat.le_trans I.sb (Nat.pow_le_pow_right (by decide) (by omega)), by omega, I.sr, I.e, by rw [I.lq]; omega, fun i => Nat.le_trans (I.bq i) (Nat.pow_le_pow_right (by decide) (by omega))⟩
end
end Vf
set_option maxRecDepth 100000
set_option maxHeartbeats 8000000
namespace Vf
open PySem PySem.Spec PyProof.Rows L2
/-- the row by its lead -/
def mon (A : List Rat) : List Rat := stripQ (pscale A (1 / cf A (A.length - 1)))
structure Fb (A : List Rat) (M N : Nat) : Prop where
  s : Stp A
  l : A.length ≤ 13
  f : ∀ i, Fr M N (cf A i)
  m0 : 0 < M
  m : M ≤ 2 ^ 1300
  n : N ≤ 2 ^ 2600
theorem b1300 : 2 ^ 1300 < 2 ^ 8700 ∧ 2 ^ 2600 < 2 ^ 8700 ∧ 2 ^ 2600 < 2 ^ 8800 ∧ 2 ^ 1300 * 2 ^ 1430 < 2 ^ big := by
  refine ⟨Nat.pow_lt_pow_right (by decide) (by decide), Nat.pow_lt_pow_right (by decide) (by decide), Nat.pow_lt_pow_right (by decide) (by decide), ?_⟩
  rw [← Nat.pow_add]
  exact Nat.pow_lt_pow_right (by decide) (by decide)
def spWR (K : PySem.W.Frag) (CP : Addr) : Sp := fun vs H Q _ => ∃ (a : Addr) (A : List Rat) (M N : Nat), vs = [.ref a] ∧ PolyQ K CP H a A ∧ Fb A M N ∧ A ≠ [] ∧
  ∀ (l : Addr) (T : List Int) (k : Rat) (H' : Hp), Same H H' → RI H' l T → Pm T → T.length = A.length → k ≠ 0 → (∀ x, ev (qi T) x = k * ev A x) → (∀ i, (ci T i).natAbs ≤ N) → Q (.ref l) H'
def spPlainOf (K : PySem.W.Frag) (CP : Addr) : Sp := fun vs H Q _ => ∃ (a : Addr) (A : List Rat) (M N : Nat), vs = [.ref a] ∧ PolyQ K CP H a A ∧ Fb A M N ∧ ∀ (x : Addr) (H' : Hp), Same H H' → PolyQ K CP H' x (mon A) → Q (.ref x) H'
/-- the divisor of two polynomials, as it is told -/
structure Cm (A B D : List Rat) : Prop where
  a0 : A = [] → D = mon B
  b0 : B = [] → D = mon A
  g : A ≠ [] → B ≠ [] → ∃ (X Y G : List Int) (k1 k2 : Rat), Gr X Y G ∧ k1 ≠ 0 ∧ k2 ≠ 0 ∧ (∀ x, ev (qi X) x = k1 * ev A x) ∧ (∀ x, ev (qi Y) x = k2 * ev B x) ∧ D = mon (qi G)
def spCommonP (K : PySem.W.Frag) (CP : Addr) : Sp := fun vs H Q _ => ∃ (a b : Addr) (A B D : List Rat) (M N M' N' : Nat), vs = [.ref a, .ref b] ∧ PolyQ K CP H a A ∧ PolyQ K CP H b B ∧ Fb A M N ∧ Fb B M' N' ∧ Cm A B D ∧ ∀ (x : Addr) (H' : Hp), Same H H' → PolyQ K CP H' x D → Q (.ref x) H'
/-- the quotient and the rest -/
structure Qr (A B Qq R : List Rat) : Prop where
  sq : Stp Qq
  sr : Stp R
  lr : R.length < B.length
  e : ∀ x, ev A x = ev Qq x * ev B x + ev R x
/-- what may be divided by what -/
def DvOk (A B : List Rat) (M' N' : Nat) : Prop := N' ≤ 2 ^ 110 ∨ ∃ G : List Int, Pm G ∧ (M' : Int) = ci G (G.length - 1) ∧ (∀ i, cf B i * (M' : Rat) = ((ci G i : Int) : Rat)) ∧ ∃ c : List Rat, ∀ x, ev A x = ev B x * ev c x
def spDivd (K : PySem.W.Frag) (CP CN : Addr) : Sp := fun vs H Q E => ∃ (a b : Addr) (A B : List Rat) (M N M' N' : Nat), vs = [.ref a, .ref b] ∧ PolyQ K CP H a A ∧ PolyQ K CP H b B ∧ Fb A M N ∧ Fb B M' N' ∧ N ≤ 2 ^ 1200 ∧ N' ≤ 2 ^ 1200 ∧ (B = [] → RaisesN CN H (.str "divisor") (.int 0) E) ∧
  (B ≠ [] → DvOk A B M' N' ∧ ∀ (t x y : Addr) (Qq R : List Rat) (H' : Hp), Same H H' → H' t = some (.tup [.ref x, .ref y]) → PolyQ K CP H' x Qq → PolyQ K CP H' y R → Qr A B Qq R → Q (.ref t) H')
/-- the row over its lead -/
theorem over_lead {T : List Int} (h : Pm T) (i : Nat) : cf (pscale (qi T) (1 / cf (qi T) ((qi T).length - 1))) i * ((ci T (T.length - 1) : Int) : Rat) = ((ci T i : Int) : Rat) := by
  rw [cf_psc, cf_qi, cf_qi, qi_len]
  have t0 : ((ci T (T.length - 1) : Int) : Rat) ≠ 0 := by
    have : ci T (T.length - 1) ≠ 0 := by have := h.tp; omega
    exact_mod_cast this
  have := Rat.div_mul_cancel (a := 1) t0
  generalize ((ci T (T.length - 1) : Int) : Rat) = y at *
  have e : ((ci T i : Int) : Rat) * (1 / y) * y = ((ci T i : Int) : Rat) * (1 / y * y) := by grind
  rw [e, this, Rat.mul_one]
theorem mon_scale {A B : List Rat} (hA : Stp A) (hB : Stp B) {k : Rat} (k0 : k ≠ 0) (h : ∀ x, ev B x = k * ev A x) : mon B = mon A := by
  have c : ∀ i, cf B i = cf A i * k := fun i => by
    have := cf_of (A := B) (B := pscale A k) (fun x => by rw [ev_pscale, h]; grind) i
    rw [this, cf_psc]
  have ki : k * (1 / k) = 1 := by rw [Rat.div_def, Rat.one_mul]; exact Rat.mul_inv_cancel k k0
  have l1 := stp_len hB (b := pscale A k) fun i => by rw [cf_psc, c]
  have l2 := stp_len hA (b := pscale B (1 / k)) fun i => by rw [cf_psc, c]; grind
  rw [psc_len] at l1 l2
  have l : A.length = B.length := by omega
  unfold mon
  refine stripQ_ext fun i => ?_
  rw [cf_psc, cf_psc, c, c, ← l]
  by_cases hz : A = []
  · rw [hz, cf_nil]; grind
  · have t0 := ne_last hA hz
    generalize cf A (A.length - 1) = y at *
    have e1 : y * (1 / y) = 1 := by rw [Rat.div_def, Rat.one_mul]; exact Rat.mul_inv_cancel y t0
    have yk : y * k ≠ 0 := fun z => (Rat.mul_eq_zero.mp z).elim t0 k0
    have e2 : y * k * (1 / (y * k)) = 1 := by rw [Rat.div_def, Rat.one_mul]; exact Rat.mul_inv_cancel _ yk
    refine mul_can yk ?_
    grind
section
variable {P : Program} {w : World} {K : PySem.W.Frag} {mg : Str → Option Value} {base : Heap} {CP CR CN CI : Addr}
abbrev sWR : Stmt := topS 40
theorem scWR : FnScope ["poly"] ["poly"] (defScope sWR) := ⟨rfl, rfl, rfl, by decide +kernel, rfl, by decide +kernel, by decide +kernel⟩
theorem ok_wr {f : Addr} {fd : FuncData} (F : Fun K "whole_row" "whole_row" sWR f fd) (C : PoC K mg CP) (G_primitive_row : Df P w K mg base "primitive_row" 1 ["row"] spPrim) (G_over_one_bottom : Df P w K mg base "over_one_bottom" 1 ["numbers"] (spOver2 K)) : FnOk P w K mg base CX0 2 f fd ["poly"] (spWR K CP) := by
  refine F.ok scWR (fun vs H Q E h => ?_) (fun cdv A0 outer s H vs Q E hr h => ?_)
  · obtain ⟨a, A, M, N, rfl, _⟩ := h
    rfl
  · obtain ⟨a, A, M, N, rfl, ⟨dx, t, as, h1, h2, h3⟩, fb, ne, q⟩ := h
    obtain ⟨B1, B2, B3, B4⟩ := b1300
    have lA := fb.l
    have lA0 := List.length_pos_iff.mpr ne
    refine ⟨_, (pss_one (ps_ret (pe_call G_primitive_row.ok (hr.mono (by decide)) rfl G_primitive_row.m G_primitive_row.kp G_primitive_row.b .nil pass0 (pa_cons (pe_ix (r := rIxT K) ix_tup (pe_call G_over_one_bottom.ok (hr.mono (by decide)) rfl G_over_one_bottom.m G_over_one_bottom.kp G_over_one_bottom.b .nil pass0 (pa_cons (pe_fld (pv 0) rfl) pa_nil)) pe_int (fun _ _ => rfl)) pa_nil)))), ?_⟩
    refine ⟨_, rfl, a, CP, dx, _, .ref t, rfl, h1, C.cl, C.nf, (by kernel_rfl), t, A, M, N, rfl, RS.ofT (SqT.of h2) h3, by omega, fb.f, fb.m0, Nat.lt_of_le_of_lt fb.m B1, Nat.lt_of_le_of_lt fb.n B2, fun t1 l1 b ns H1 s1 e1 r1 b0 bM ln hc bn => ?_⟩
    refine ⟨t1, _, _, .ref l1, rfl, rfl, SqT.of e1, at_of (j := 0) rfl rfl, ?_⟩
    have bR : (b : Rat) ≠ 0 := by
      have : b ≠ 0 := by omega
      exact_mod_cast this
    refine ⟨l1, ns, rfl, r1, (fun z => by rw [z] at ln; exact absurd ln (by show 0 ≠ A.length; omega)), by omega, fun z => ?_, fun i => Nat.lt_of_le_of_lt (Nat.le_trans (bn i) fb.n) B3, fun l' T H2 s2 rT W => ?_⟩
    · have h := hc (A.length - 1)
      rw [← ln, z, ln] at h
      rcases Rat.mul_eq_zero.mp h with y | y
      · exact ne_last fb.s ne y
      · exact bR y
    · obtain ⟨k, k0, ek⟩ := W.e
      have kR : (k : Rat) ≠ 0 := by exact_mod_cast k0
      have en : ∀ x, (k : Rat) * ev (qi T) x = (b : Rat) * ev A x := fun x => by
        have e1 : ev (pscale (qi T) (k : Rat)) x = ev (pscale A (b : Rat)) x := ev_ext (fun i => by
          rw [cf_psc, cf_psc, cf_qi, hc, ek, Rat.intCast_mul]
          grind) x
        rw [ev_pscale, ev_pscale] at e1
        grind
      have e2 : (b : Rat) / (k : Rat) * (k : Rat) = b := Rat.div_mul_cancel kR
      refine q l' T ((b : Rat) / (k : Rat)) H2 (s1.trans s2) rT W.p (by rw [W.l, ln]) (fun z => ?_) (fun x => ?_) fun i => ?_
      · rw [z, Rat.zero_mul] at e2
        exact bR e2.symm
      · refine mul_can kR ?_
        rw [en]
        grind
      · have h5 := bn i
        rw [ek, Int.natAbs_mul] at h5
        have := Nat.le_mul_of_pos_left (ci T i).natAbs (show 0 < k.natAbs by omega)
        omega
abbrev sPlainOf : Stmt := topS 41
theorem scPlainOf : FnScope ["poly", "row"] ["poly"] (defScope sPlainOf) := ⟨rfl, rfl, rfl, by decide +kernel, rfl, by decide +kernel, by decide +kernel⟩
theorem ok_plof {f : Addr} {fd : FuncData} (F : Fun K "plain_of" "plain_of" sPlainOf f fd) (T : Bk mg) (C : PoC K mg CP) (G_whole_row : Df P w K mg base "whole_row" 2 ["poly"] (spWR K CP)) (G_poly_over : Dx P w K mg base "poly_over" 7 ["row", "bottom"] (spPOv K CP)) : FnOk P w K mg base (L2.CX P w) 8 f fd ["poly"] (spPlainOf K CP) := by
  refine F.okX scPlainOf (fun vs H Q E h => ?_) (fun cdv A0 outer s H vs Q E hr h => ?_)
  · obtain ⟨a, A, M, N, rfl, _⟩ := h
    rfl
  · obtain ⟨a, A, M, N, rfl, pa, fb, q⟩ := h
    have pa' := pa
    obtain ⟨dx, t, as, h1, h2, h3⟩ := pa'
    obtain ⟨B1, B2, B3, B4⟩ := b1300
    refine ⟨_, (pss_cons (ps_if (pt_not (pt_truth (pe_fld (pv 0) rfl) (by intro _; rfl)))
    (pss_one (ps_ret (pv 0)))
    pss_nil)
  (pss_cons (ps_set (i := 1) scPlainOf.nd rfl (Or.inl rfl) (pe_call G_whole_row.ok (hr.mono (by decide)) rfl G_whole_row.m G_whole_row.kp G_whole_row.b .nil pass0 (pa_cons (pv 0) pa_nil)))
  (pss_one (ps_ret (pe_call G_poly_over.ok (hr.mono (by decide)) rfl G_poly_over.m G_poly_over.kp G_poly_over.b .nil passL (pa_cons (pv 1) (pa_cons (pe_ix ix_list (pv 1) (pe_un un_neg pe_int) (fun _ _ => rfl)) pa_nil))))))), ?_⟩
    have nas := h3.lenQ
    have lA := fb.l
    by_cases hA : A = []
    · have eas : as = [] := List.length_eq_zero_iff.mp (by rw [nas, hA]; rfl)
      refine ⟨_, rfl, a, CP, dx, _, .ref t, rfl, h1, C.cl, C.nf, (by kernel_rfl), false, .inr (.inl ⟨_, SqT.of h2, by rw [eas]; rfl⟩), ?_⟩
      refine iteT ?_
      refine ⟨_, rfl, q a H (Same.refl _) ?_⟩
      rw [hA] at pa ⊢
      exact pa
    · have nas' : as ≠ [] := fun z => hA (List.length_eq_zero_iff.mp (by rw [← nas, z]; rfl))
      refine ⟨_, rfl, a, CP, dx, _, .ref t, rfl, h1, C.cl, C.nf, (by kernel_rfl), true, .inr (.inl ⟨_, SqT.of h2, by simpa using nas'⟩), ?_⟩
      refine iteF ?_
      dsimp only [tNext]
      refine ⟨_, rfl, a, A, M, N, rfl, pa, fb, hA, fun l T k H1 s1 rT pT lT k0 ek bT => ?_⟩
      have T0 := List.length_pos_iff.mpr pT.ne
      refine ⟨_, rfl, _, rfl, _, rfl, l, _, _, _, rfl, rfl, SqL.of rT, atI_top T0, ?_⟩
      refine ⟨l, T, _, pscale (qi T) (1 / cf (qi T) ((qi T).length - 1)), rfl, rT, pT.tp, Nat.lt_of_le_of_lt (Nat.le_trans (bT _) fb.n) (Nat.pow_lt_pow_right (by decide) (by decide)), by omega, by rw [psc_len, qi_len], over_lead pT, fun x H2 s2 px => ?_⟩
      refine q x H2 (s1.trans s2) ?_
      rw [← mon_scale fb.s pT.stp k0 ek]
      exact px
abbrev sCommonP : Stmt := topS 43
theorem scCommonP : FnScope ["one", "other", "row"] ["one", "other"] (defScope sCommonP) := ⟨rfl, rfl, rfl, by decide +kernel, rfl, by decide +kernel, by decide +kernel⟩
theorem ok_comp {f : Addr} {fd : FuncData} (F : Fun K "common" "common" sCommonP f fd) (T : Bk mg) (C : PoC K mg CP) (G_plain_of : Dx P w K mg base "plain_of" 8 ["poly"] (spPlainOf K CP)) (G_whole_row : Df P w K mg base "whole_row" 2 ["poly"] (spWR K CP)) (G_common_row : Df P w K mg base "common_row" 5 ["one", "other"] spCR) (G_poly_over : Dx P w K mg base "poly_over" 7 ["row", "bottom"] (spPOv K CP)) : FnOk P w K mg base (L2.CX P w) 9 f fd ["one", "other"] (spCommonP K CP) := by
  refine F.okX scCommonP (fun vs H Q E h => ?_) (fun cdv A0 outer s H vs Q E hr h => ?_)
  · obtain ⟨a, b, A, B, D, M, N, M', N', rfl, _⟩ := h
    rfl
  · obtain ⟨a, b, A, B, D, M, N, M', N', rfl, pa, pb, fa, fb, cm, q⟩ := h
    have pa' := pa
    have pb' := pb
    obtain ⟨dx, t, as, h1, h2, h3⟩ := pa'
    obtain ⟨dy, u, bs, g1, g2, g3⟩ := pb'
    refine ⟨_, (pss_cons (ps_if (pt_not (pt_truth (pe_fld (pv 0) rfl) (by intro _; rfl)))
    (pss_one (ps_ret (pe_call G_plain_of.ok (hr.mono (by decide)) rfl G_plain_of.m G_plain_of.kp G_plain_of.b .nil passL (pa_cons (pv 1) pa_nil))))
    pss_nil)
  (pss_cons (ps_if (pt_not (pt_truth (pe_fld (pv 1) rfl) (by intro _; rfl)))
    (pss_one (ps_ret (pe_call G_plain_of.ok (hr.mono (by decide)) rfl G_plain_of.m G_plain_of.kp G_plain_of.b .nil passL (pa_cons (pv 0) pa_nil))))
    pss_nil)
  (pss_cons (ps_set (i := 2) scCommonP.nd rfl (Or.inl rfl) (pe_call G_common_row.ok (hr.mono (by decide)) rfl G_common_row.m G_common_row.kp G_common_row.b .nil pass0 (pa_cons (pe_call G_whole_row.ok (hr.mono (by decide)) rfl G_whole_row.m G_whole_row.kp G_whole_row.b .nil pass0 (pa_cons (pv 0) pa_nil)) (pa_cons (pe_call G_whole_row.ok (hr.mono (by decide)) rfl G_whole_row.m G_whole_row.kp G_whole_row.b .nil pass0 (pa_cons (pv 1) pa_nil)) pa_nil))))
  (pss_one (ps_ret (pe_call G_poly_over.ok (hr.mono (by decide)) rfl G_poly_over.m G_poly_over.kp G_poly_over.b .nil passL (pa_cons (pv 2) (pa_cons (pe_ix ix_list (pv 2) (pe_un un_neg pe_int) (fun _ _ => rfl)) pa_nil)))))))), ?_⟩
    have nas := h3.lenQ
    have nbs := g3.lenQ
    have lA := fa.l
    have lB := fb.l
    by_cases hA : A = []
    · have eas : as = [] := List.length_eq_zero_iff.mp (by rw [nas, hA]; rfl)
      refine ⟨_, rfl, a, CP, dx, _, .ref t, rfl, h1, C.cl, C.nf, (by kernel_rfl), false, .inr (.inl ⟨_, SqT.of h2, by rw [eas]; rfl⟩), ?_⟩
      refine iteT ?_
      refine ⟨_, rfl, b, B, M', N', rfl, pb, fb, fun x H1 s1 px => q x H1 s1 ?_⟩
      rw [cm.a0 hA]
      exact px
    have nas' : as ≠ [] := fun z => hA (List.length_eq_zero_iff.mp (by rw [← nas, z]; rfl))
    refine ⟨_, rfl, a, CP, dx, _, .ref t, rfl, h1, C.cl, C.nf, (by kernel_rfl), true, .inr (.inl ⟨_, SqT.of h2, by simpa using nas'⟩), ?_⟩
    refine iteF ?_
    dsimp only [tNext]
    by_cases hB : B = []
    · have ebs : bs = [] := List.length_eq_zero_iff.mp (by rw [nbs, hB]; rfl)
      refine ⟨_, rfl, b, CP, dy, _, .ref u, rfl, g1, C.cl, C.nf, (by kernel_rfl), false, .inr (.inl ⟨_, SqT.of g2, by rw [ebs]; rfl⟩), ?_⟩
      refine iteT ?_
      refine ⟨_, rfl, a, A, M, N, rfl, pa, fa, fun x H1 s1 px => q x H1 s1 ?_⟩
      rw [cm.b0 hB]
      exact px
    have nbs' : bs ≠ [] := fun z => hB (List.length_eq_zero_iff.mp (by rw [← nbs, z]; rfl))
    refine ⟨_, rfl, b, CP, dy, _, .ref u, rfl, g1, C.cl, C.nf, (by kernel_rfl), true, .inr (.inl ⟨_, SqT.of g2, by simpa using nbs'⟩), ?_⟩
    refine iteF ?_
    dsimp only [tNext]
    obtain ⟨X, Y, G, k1, k2, gr, n1, n2, e1, e2, eD⟩ := cm.g hA hB
    refine ⟨_, rfl, a, A, M, N, rfl, pa, fa, hA, fun l1 T1 j1 H1 s1 r1 pT1 lT1 jn1 ej1 bT1 => ?_⟩
    refine ⟨_, rfl, b, B, M', N', rfl, pb.same s1, fb, hB, fun l2 T2 j2 H2 s2 r2 pT2 lT2 jn2 ej2 bT2 => ?_⟩
    have same1 : ∀ {T X : List Int} {A : List Rat} {j k : Rat}, Pm T → Pm X → k ≠ 0 → (∀ x, ev (qi T) x = j * ev A x) → (∀ x, ev (qi X) x = k * ev A x) → T = X := fun {T X A j k} pT pX k0 eT eX => by
      have ki : k * (1 / k) = 1 := by rw [Rat.div_def, Rat.one_mul]; exact Rat.mul_inv_cancel k k0
      refine pm_uniq pX pT (k := j * (1 / k)) fun x => ?_
      rw [eT, eX]
      grind
    have t1 := same1 pT1 gr.g.px n1 ej1 e1
    have t2 := same1 pT2 gr.g.py n2 ej2 e2
    subst t1
    subst t2
    refine ⟨l1, l2, T1, T2, G, rfl, s2 _ _ r1, r2, gr, fun l3 H3 s3 r3 => ?_⟩
    have pG := gr.g.pg
    have G0 := List.length_pos_iff.mpr pG.ne
    have lG := (lead_dvd gr.g.px pG gr.g.dx).2
    refine ⟨_, rfl, _, rfl, _, rfl, l3, _, _, _, rfl, rfl, SqL.of r3, atI_top G0, ?_⟩
    refine ⟨l3, G, _, pscale (qi G) (1 / cf (qi G) ((qi G).length - 1)), rfl, r3, pG.tp, Nat.lt_of_le_of_lt (gr.bg _) (Nat.pow_lt_pow_right (by decide) (by decide)), by omega, by rw [psc_len, qi_len], over_lead pG, fun x H4 s4 px => ?_⟩
    refine q x H4 (s1.trans (s2.trans (s3.trans s4))) ?_
    rw [eD]
    exact px
abbrev sDivd : Stmt := topS 42
theorem scDivd : FnScope ["one", "other", "row", "bottom", "other_row", "other_bottom", "quotient", "rest", "scale", "below", "number"] ["one", "other"] (defScope sDivd) := ⟨rfl, rfl, rfl, by decide +kernel, rfl, by decide +kernel, by decide +kernel⟩
theorem ok_divd {f : Addr} {fd : FuncData} (F : Fun K "divided" "divided" sDivd f fd) (T : Bk mg) (C : PoC K mg CP) (N_BadNumber : Ex P w K mg base "BadNumber" CN ["what", "number"]) (G_over_one_bottom : Df P w K mg base "over_one_bottom" 1 ["numbers"] (spOver2 K)) (G_long_division : Df P w K mg base "long_division" 3 ["one", "other"] spLd) (G_poly_over : Dx P w K mg base "poly_over" 7 ["row", "bottom"] (spPOv K CP)) : FnOk P w K mg base (L2.CX P w) 8 f fd ["one", "other"] (spDivd K CP CN) := by
  refine F.okX scDivd (fun vs H Q E h => ?_) (fun cdv A0 outer s H vs Q E hr h => ?_)
  · obtain ⟨a, b, A, B, M, N, M', N', rfl, _⟩ := h
    rfl
  · obtain ⟨a, b, A, B, M, N, M', N', rfl, pa, pb, fa, fb, fan, fbn, er, q⟩ := h
    have pa' := pa
    have pb' := pb
    obtain ⟨dx, t, as, h1, h2, h3⟩ := pa'
    obtain ⟨dy, u, bs, g1, g2, g3⟩ := pb'
    obtain ⟨B1, B2, B3, B4⟩ := b1300
    refine ⟨_, (pss_cons (ps_if (pt_not (pt_truth (pe_fld (pv 1) rfl) (by intro _; rfl)))
    (pss_one (ps_raise rfl (takes_of rfl rfl rfl rfl) (pmk_oex N_BadNumber.ox N_BadNumber.iC N_BadNumber.tI N_BadNumber.ok (hr.mono (by decide)) N_BadNumber.b .nil pass0 (by rfl) N_BadNumber.m (pa_cons pe_str (pa_cons pe_int pa_nil)))))
    pss_nil)
  (pss_cons (ps_asg (pe_call G_over_one_bottom.ok (hr.mono (by decide)) rfl G_over_one_bottom.m G_over_one_bottom.kp G_over_one_bottom.b .nil pass0 (pa_cons (pe_fld (pv 0) rfl) pa_nil)) (pg_tup (by rfl) (pgs_cons (pg_name (i := 2) scDivd.nd rfl (Or.inl rfl)) (pgs_cons (pg_name (i := 3) scDivd.nd rfl (Or.inl rfl)) pgs_nil))))
  (pss_cons (ps_asg (pe_call G_over_one_bottom.ok (hr.mono (by decide)) rfl G_over_one_bottom.m G_over_one_bottom.kp G_over_one_bottom.b .nil pass0 (pa_cons (pe_fld (pv 1) rfl) pa_nil)) (pg_tup (by rfl) (pgs_cons (pg_name (i := 4) scDivd.nd rfl (Or.inl rfl)) (pgs_cons (pg_name (i := 5) scDivd.nd rfl (Or.inr rfl)) pgs_nil))))
  (pss_cons (ps_asg (pe_call G_long_division.ok (hr.mono (by decide)) rfl G_long_division.m G_long_division.kp G_long_division.b .nil pass0 (pa_cons (pv 2) (pa_cons (pv 4) pa_nil))) (pg_tup (by rfl) (pgs_cons (pg_name (i := 6) scDivd.nd rfl (Or.inl rfl)) (pgs_cons (pg_name (i := 7) scDivd.nd rfl (Or.inl rfl)) (pgs_cons (pg_name (i := 8) scDivd.nd rfl (Or.inl rfl)) pgs_nil)))))
  (pss_cons (ps_set (i := 9) scDivd.nd rfl (Or.inl rfl) (pe_op op_mulW (pv 3) (pv 8)))
  (pss_one (ps_ret (pe_tup (pa_cons (pe_call G_poly_over.ok (hr.mono (by decide)) rfl G_poly_over.m G_poly_over.kp G_poly_over.b .nil passL (pa_cons (pe_lc (own := [("number", 10)]) (g := (gName 10)) (tt := tYes) rfl scDivd.nd (pi_seq (pv 6)) (blkOk_by (N := ["one", "other", "row", "bottom", "other_row", "other_bottom", "quotient", "rest", "scale", "below", "number"]) (sc := defScope sDivd) (by decide +kernel)) (fun _ _ _ _ _ => pg_name (i := 10) scDivd.nd rfl (Or.inl rfl)) (fun _ _ _ _ _ => pts_nil) (fun _ _ _ _ _ => (pe_op op_mulW (pv 10) (pv 5)))) (pa_cons (pv 9) pa_nil))) (pa_cons (pe_call G_poly_over.ok (hr.mono (by decide)) rfl G_poly_over.m G_poly_over.kp G_poly_over.b .nil passL (pa_cons (pv 7) (pa_cons (pv 9) pa_nil))) pa_nil)))))))))), ?_⟩
    have nbs := g3.lenQ
    have lA := fa.l
    have lB := fb.l
    by_cases hB : B = []
    · have ebs : bs = [] := List.length_eq_zero_iff.mp (by rw [nbs, hB]; rfl)
      refine ⟨_, rfl, b, CP, dy, _, .ref u, rfl, g1, C.cl, C.nf, (by kernel_rfl), false, .inr (.inl ⟨_, SqT.of g2, by rw [ebs]; rfl⟩), ?_⟩
      refine iteT ?_
      refine ⟨(by show 2 ≤ 1000; decide), ?_⟩
      exact raise_end rfl fun dd H' s2 n e2 => er hB dd H' s2 n e2
    have nbs' : bs ≠ [] := fun z => hB (List.length_eq_zero_iff.mp (by rw [← nbs, z]; rfl))
    refine ⟨_, rfl, b, CP, dy, _, .ref u, rfl, g1, C.cl, C.nf, (by kernel_rfl), true, .inr (.inl ⟨_, SqT.of g2, by simpa using nbs'⟩), ?_⟩
    refine iteF ?_
    dsimp only [tNext]
    obtain ⟨dok, q⟩ := q hB
    refine ⟨_, rfl, a, CP, dx, _, .ref t, rfl, h1, C.cl, C.nf, (by kernel_rfl), t, A, M, N, rfl, RS.ofT (SqT.of h2) h3, by omega, fa.f, fa.m0, Nat.lt_of_le_of_lt fa.m B1, Nat.lt_of_le_of_lt fa.n B2, fun t1 l1 b1 n1 H1 s1 e1 r1 b10 b1M ln1 hc1 bn1 => ?_⟩
    refine ⟨t1, _, rfl, SqT.of e1, rfl, _, _, rfl, _, _, rfl, rfl, ?_⟩
    refine ⟨_, rfl, b, CP, dy, _, .ref u, rfl, s1 _ _ g1, C.cl, C.nf, (by kernel_rfl), u, B, M', N', rfl, RS.ofT (SqT.of (s1 _ _ g2)) (g3.same s1), by omega, fb.f, fb.m0, Nat.lt_of_le_of_lt fb.m B1, Nat.lt_of_le_of_lt fb.n B2, fun t2 l2 b2 n2 H2 s2 e2 r2 b20 b2M ln2 hc2 bn2 => ?_⟩
    refine ⟨t2, _, rfl, SqT.of e2, rfl, _, _, rfl, _, _, rfl, rfl, ?_⟩
    have b1R : (b1 : Rat) ≠ 0 := by
      have : b1 ≠ 0 := by omega
      exact_mod_cast this
    have b2R : (b2 : Rat) ≠ 0 := by
      have : b2 ≠ 0 := by omega
      exact_mod_cast this
    have ev1 : ∀ x, ev (qi n1) x = (b1 : Rat) * ev A x := fun x => by
      have : ev (qi n1) x = ev (pscale A (b1 : Rat)) x := ev_ext (fun i => by rw [cf_psc, cf_qi, hc1]) x
      rw [this, ev_pscale]
      grind
    have ev2 : ∀ x, ev (qi n2) x = (b2 : Rat) * ev B x := fun x => by
      have : ev (qi n2) x = ev (pscale B (b2 : Rat)) x := ev_ext (fun i => by rw [cf_psc, cf_qi, hc2]) x
      rw [this, ev_pscale]
      grind
    have stpI : ∀ {n : List Int} {A : List Rat} {b : Rat}, Stp A → b ≠ 0 → n.length = A.length → (∀ i, cf A i * b = ((ci n i : Int) : Rat)) → Stp (qi n) := fun {n A b} sA b0 hl hc => by
      intro r x e
      have hlen := congrArg List.length e
      rw [qi_len, List.length_append] at hlen
      simp only [List.length_cons, List.length_nil] at hlen
      have hx : cf (qi n) (n.length - 1) = x := by
        rw [e, cf_app, if_neg (by omega), show n.length - 1 - r.length = 0 by omega]
        rfl
      have nA : A ≠ [] := fun z => by rw [z] at hl; simp at hl; rw [hl] at hlen; simp at hlen
      rw [cf_qi, ← hc, hl] at hx
      rw [← hx]
      exact fun z => (Rat.mul_eq_zero.mp z).elim (ne_last sA nA) b0
    have sn1 := stpI fa.s b1R ln1 hc1
    have sn2 := stpI fb.s b2R ln2 hc2
    have nn2 : n2 ≠ [] := fun z => hB (List.length_eq_zero_iff.mp (by rw [← ln2, z]; rfl))
    have ld : LdOk n1 n2 := by
      rcases dok with y | ⟨G, pG, eM, eG, c, hc⟩
      · exact .inl fun i => Nat.le_trans (bn2 i) y
      · have kk : ∀ x, ev (qi n2) x = ((b2 : Rat) / (M' : Rat)) * ev (qi G) x := fun x => by
          have MR : (M' : Rat) ≠ 0 := by
            have : M' ≠ 0 := by have := fb.m0; omega
            exact_mod_cast this
          have e5 : ev (qi G) x = ev (pscale B (M' : Rat)) x := ev_ext (fun i => by rw [cf_psc, cf_qi, eG]) x
          rw [ev2, e5, ev_pscale]
          have : (b2 : Rat) / (M' : Rat) * (M' : Rat) = b2 := Rat.div_mul_cancel MR
          have e6 : (b2 : Rat) / (M' : Rat) * (ev B x * (M' : Rat)) = ((b2 : Rat) / (M' : Rat) * (M' : Rat)) * ev B x := by grind
          rw [e6, this]
        obtain ⟨z, ez, hz⟩ := pm_mult pG kk
        have MR : (M' : Rat) ≠ 0 := by
          have : M' ≠ 0 := by have := fb.m0; omega
          exact_mod_cast this
        have e7 : (b2 : Int) = z * (M' : Int) := by
          have : (b2 : Rat) / (M' : Rat) * (M' : Rat) = b2 := Rat.div_mul_cancel MR
          rw [ez] at this
          have e8 : ((z * (M' : Int) : Int) : Rat) = ((b2 : Int) : Rat) := by rw [Rat.intCast_mul]; exact this
          exact_mod_cast e8.symm
        have z1 : z = 1 := by
          have h5 : 0 < z := by
            rcases Int.lt_trichotomy 0 z with y | y | y
            · exact y
            · rw [← y, Int.zero_mul] at e7; omega
            · have := Int.mul_neg_of_neg_of_pos y (show (0 : Int) < M' by have := fb.m0; omega)
              omega
          have h6 : b2 = z.toNat * M' := by
            have : ((b2 : Nat) : Int) = ((z.toNat * M' : Nat) : Int) := by rw [Int.natCast_mul, Int.toNat_of_nonneg (by omega)]; exact e7
            exact_mod_cast this
          have h7 : z.toNat ≤ 1 := by
            refine Decidable.byContradiction fun no => ?_
            have := Nat.mul_le_mul_right M' (show 2 ≤ z.toNat by omega)
            have := fb.m0
            omega
          omega
        have en : n2 = G := by
          have lG : G.length = B.length := by
            have i1 := stp_len pG.stp (b := pscale B (M' : Rat)) fun i => by rw [cf_psc, cf_qi, eG]
            have i2 := stp_len fb.s (b := pscale (qi G) (1 / (M' : Rat))) fun i => by
              rw [cf_psc, cf_qi, ← eG]
              have : (M' : Rat) * (1 / (M' : Rat)) = 1 := by rw [Rat.div_def, Rat.one_mul]; exact Rat.mul_inv_cancel _ MR
              grind
            rw [psc_len, qi_len] at i1
            rw [psc_len, qi_len] at i2
            omega
          exact ci_ext (by rw [ln2, lG]) fun i => by rw [hz, z1, Int.one_mul]
        subst en
        refine .inr ⟨pG, ?_⟩
        have eAB : ∀ x, ev (qi n1) x = ev (qi n2) x * ev (pscale c ((b1 : Rat) / (b2 : Rat))) x := fun x => by
          have e9 : (b1 : Rat) / (b2 : Rat) * (b2 : Rat) = b1 := Rat.div_mul_cancel b2R
          rw [ev1, hc, ev2, ev_pscale, ← e9]
          grind
        obtain ⟨c', hc'⟩ := gauss pG eAB
        exact ⟨c', fun x => by rw [hc', eAB]⟩
    refine ⟨_, rfl, _, rfl, l1, l2, n1, n2, rfl, s2 _ _ r1, r2, by omega, by omega, sn1, sn2, nn2, fun i => Nat.le_trans (bn1 i) fan, fun i => Nat.le_trans (bn2 i) fbn, ld, fun t3 lq lr qq rr ss H3 s3 e3 rq rrr L => ?_⟩
    refine ⟨t3, _, rfl, SqT.of e3, rfl, _, _, rfl, _, _, rfl, _, _, rfl, rfl, ?_⟩
    have bb1 : ((b1 : Nat) : Int).natAbs < 2 ^ 1301 := by rw [Int.natAbs_natCast]; exact Nat.lt_of_le_of_lt (Nat.le_trans b1M fa.m) (Nat.pow_lt_pow_right (by decide) (by decide))
    have bs1 : ((ss : Nat) : Int).natAbs < 2 ^ 1431 := by rw [Int.natAbs_natCast]; exact Nat.lt_of_le_of_lt L.sb (Nat.pow_lt_pow_right (by decide) (by decide))
    have bb2 : ((b2 : Nat) : Int).natAbs < 2 ^ 1301 := by rw [Int.natAbs_natCast]; exact Nat.lt_of_le_of_lt (Nat.le_trans b2M fb.m) (Nat.pow_lt_pow_right (by decide) (by decide))
    refine ⟨_, rfl, _, rfl, _, _, rfl, rfl, wide_mul (a := 1301) (b := 1431) bb1 bs1 (by decide) (by decide) (by decide), ?_⟩
    have s03 := s1.trans (s2.trans s3)
    have eBel : ((b1 : Nat) : Int) * ((ss : Nat) : Int) = ((b1 * ss : Nat) : Int) := (Int.natCast_mul _ _).symm
    have s0R : (ss : Rat) ≠ 0 := by
      have : ss ≠ 0 := by have := L.s0; omega
      exact_mod_cast this
    have bsR : ((b1 * ss : Nat) : Rat) ≠ 0 := by
      rw [Rat.natCast_mul]
      exact fun z => (Rat.mul_eq_zero.mp z).elim b1R s0R
    have bel0 : (0 : Int) < ((b1 * ss : Nat) : Int) := by
      have := Nat.mul_pos b10 L.s0
      omega
    have belb : ((b1 * ss : Nat) : Int).natAbs < 2 ^ big := by
      rw [Int.natAbs_natCast]
      exact Nat.lt_of_le_of_lt (Nat.mul_le_mul (Nat.le_trans b1M fa.m) L.sb) B4
    dsimp only [gName]
    rw [eBel]
    refine ⟨_, rfl, lq, rfl, lc_seq (xs := qq.map V.int) (.inl (SqL.of rq)) (fun D i H' => Same H3 H' ∧ H' D = some (.lst ((tabI i fun i => ci qq i * (b2 : Int)).map V.int))) ?_ ?_ ?_ ?_⟩
    · intro D hD
      exact ⟨same_upd hD, upd_same⟩
    · intro D i H2 hD ⟨s2, _⟩
      exact ⟨same_sqL s2, same_sqT s2⟩
    · intro D i x H' hD hi ⟨ss', eD⟩
      have hi' : i < qq.length := by
        have := (List.getElem?_eq_some_iff.mp hi).1
        rw [List.length_map] at this
        exact this
      have lq13 := L.lq
      rw [List.getElem?_map, ci_lt hi'] at hi
      cases hi
      refine ⟨rfl, ?_⟩
      refine ⟨_, rfl, _, rfl, _, _, rfl, rfl, wide_mul (a := 20001) (b := 1301) (Nat.lt_of_le_of_lt (L.bq i) (Nat.pow_lt_pow_right (by decide) (by decide))) bb2 (by decide) (by decide) (by decide), ?_⟩
      refine ⟨_, eD, (by rw [List.length_map, tabI_len, sizeLine_eq]; omega), fun b o e => ?_, ?_⟩
      · rw [upd_ne (ne_of_none e hD)]
        exact ss' _ _ e
      · rw [upd_same, tabI_snoc, List.map_append]
        rfl
    intro D H4 hD ⟨s4, eD⟩
    rw [List.length_map] at eD
    have lq13 := L.lq
    refine ⟨_, rfl, D, tabI qq.length fun i => ci qq i * (b2 : Int), _, pscale (qi qq) ((b2 : Rat) / ((b1 * ss : Nat) : Rat)), rfl, eD, bel0, belb, by rw [tabI_len]; omega, by rw [psc_len, qi_len, tabI_len], fun i => ?_, fun x H5 s5 px => ?_⟩
    · rw [cf_psc, cf_qi, ci_tab]
      have e5 : (b2 : Rat) / ((b1 * ss : Nat) : Rat) * ((b1 * ss : Nat) : Rat) = b2 := Rat.div_mul_cancel bsR
      have e6 : (if i < qq.length then ci qq i * (b2 : Int) else 0) = ci qq i * (b2 : Int) := by
        split
        · rfl
        · rw [ci_ge (by omega), Int.zero_mul]
      rw [e6, Rat.intCast_mul, Rat.intCast_natCast, ← e5]
      show _ * ((b1 * ss : Nat) : Rat) = _
      rw [e5]
      have : ((ci qq i : Int) : Rat) * ((b2 : Rat) / ((b1 * ss : Nat) : Rat)) * ((b1 * ss : Nat) : Rat) = ((ci qq i : Int) : Rat) * ((b2 : Rat) / ((b1 * ss : Nat) : Rat) * ((b1 * ss : Nat) : Rat)) := by grind
      rw [this, e5]
      rfl
    have s35 := s4.trans s5
    refine ⟨_, rfl, _, rfl, lr, rr, _, pscale (qi rr) (1 / ((b1 * ss : Nat) : Rat)), rfl, s35 _ _ rrr, bel0, belb, by have := L.lr; omega, by rw [psc_len, qi_len], fun i => ?_, fun y H6 s6 py => ?_⟩
    · rw [cf_psc, cf_qi]
      have e5 : 1 / ((b1 * ss : Nat) : Rat) * ((b1 * ss : Nat) : Rat) = 1 := Rat.div_mul_cancel bsR
      have : ((ci rr i : Int) : Rat) * (1 / ((b1 * ss : Nat) : Rat)) * ((b1 * ss : Nat) : Rat) = ((ci rr i : Int) : Rat) * (1 / ((b1 * ss : Nat) : Rat) * ((b1 * ss : Nat) : Rat)) := by grind
      show _ * ((b1 * ss : Nat) : Rat) = _
      rw [this, e5, Rat.mul_one]
    refine ⟨(by show 2 ≤ sizeLine; decide), fun tt nt => ?_⟩
    have st := same_upd (o := HO.tup [V.ref x, V.ref y]) nt
    refine q tt x y _ _ _ (s03.trans (s35.trans (s6.trans st))) upd_same ((px.same s6).same st) (py.same st) ⟨stripQ_stp _, stripQ_stp _, ?_, fun z => ?_⟩
    · have h5 := stripQ_le (pscale (qi rr) (1 / ((b1 * ss : Nat) : Rat)))
      rw [psc_len, qi_len] at h5
      have := L.lr
      omega
    · rw [ev_stripQ, ev_stripQ, ev_pscale, ev_pscale]
      have h5 := L.e z
      rw [ev1, ev2] at h5
      have e5 : 1 / ((b1 * ss : Nat) : Rat) * ((b1 * ss : Nat) : Rat) = 1 := Rat.div_mul_cancel bsR
      have e6 : (b2 : Rat) / ((b1 * ss : Nat) : Rat) = (b2 : Rat) * (1 / ((b1 * ss : Nat) : Rat)) := by
        rw [Rat.div_def, Rat.div_def, Rat.one_mul]
      rw [e6]
      generalize (1 / ((b1 * ss : Nat) : Rat)) = y at *
      rw [Rat.natCast_mul] at e5
      have h6 : ev A z = ev A z * (y * ((b1 : Rat) * (ss : Rat))) := by rw [e5, Rat.mul_one]
      have h7 : ev A z * (y * ((b1 : Rat) * (ss : Rat))) = y * ((ss : Rat) * ((b1 : Rat) * ev A z)) := by grind
      rw [h6, h7, h5]
      grind
end
end Vf
set_option maxRecDepth 100000
set_option exponentiation.threshold 5000
namespace Vf
def slp (a : List Rat) : List Rat := tab (a.length - 1) fun j => cf a (j + 1) * ((j + 1 : Nat) : Rat)
theorem ev_slp (c x : Rat) (l : List Rat) : ev (slp (c :: l)) x = ev l x + x * ev (slp l) x := by
  have e : ∀ i, cf (slp (c :: l)) i = cf (padd l (0 :: slp l)) i := fun i => by
    rw [cf_padd]
    unfold slp
    rw [cf_tab]
    have e0 : (c :: l).length - 1 = l.length := rfl
    rw [e0]
    cases i with
    | zero =>
      show (if 0 < l.length then cf l 0 * _ else 0) = cf l 0 + 0
      split
      · show cf l 0 * ((0 + 1 : Nat) : Rat) = _
        have : ((0 + 1 : Nat) : Rat) = 1 := rfl
        rw [this]
        grind
      · rw [cf_ge (by omega)]
        grind
    | succ i =>
      show (if i + 1 < l.length then cf l (i + 1) * ((i + 1 + 1 : Nat) : Rat) else 0) = cf l (i + 1) + cf (tab (l.length - 1) fun j => cf l (j + 1) * ((j + 1 : Nat) : Rat)) i
      rw [cf_tab]
      by_cases h : i + 1 < l.length
      · rw [if_pos h, if_pos (by omega)]
        have : ((i + 1 + 1 : Nat) : Rat) = 1 + ((i + 1 : Nat) : Rat) := by
          rw [Nat.add_comm (i + 1) 1]
          exact_mod_cast rfl
        rw [this]
        grind
      · rw [if_neg h, if_neg (by omega), cf_ge (by omega)]
        grind
  rw [ev_ext e, ev_padd]
  show _ + (0 + x * ev (slp l) x) = _
  grind
theorem ev_tay (x : Rat) : ∀ p : List Rat, ∃ k : List Rat, ∀ h, ev p (x + h) = ev p x + h * ev (slp p) x + h * h * ev k h
  | [] => ⟨[], fun h => by
    show (0 : Rat) = 0 + h * ev (slp []) x + h * h * 0
    have : ev (slp []) x = 0 := rfl
    rw [this]
    grind⟩
  | c :: l => by
    obtain ⟨k, hk⟩ := ev_tay x l
    refine ⟨padd [ev (slp l) x] (pmul [x, 1] k), fun h => ?_⟩
    rw [ev_slp, ev_padd, ev_pmul]
    show c + (x + h) * ev l (x + h) = c + x * ev l x + h * (ev l x + x * ev (slp l) x) + h * h * (ev (slp l) x + h * 0 + (x + h * (1 + h * 0)) * ev k h)
    rw [hk h]
    grind
/-- a slope is told by the values -/
theorem slp_mul {F A B : List Rat} (e : ∀ x, ev F x = ev A x * ev B x) (x : Rat) : ev (slp F) x = ev (slp A) x * ev B x + ev A x * ev (slp B) x := by
  obtain ⟨k1, h1⟩ := ev_tay x F
  obtain ⟨k2, h2⟩ := ev_tay x A
  obtain ⟨k3, h3⟩ := ev_tay x B
  let d := ev (slp F) x - (ev (slp A) x * ev B x + ev A x * ev (slp B) x)
  let W := padd (padd (pscale k2 (ev B x)) (pscale k3 (ev A x))) (padd [ev (slp A) x * ev (slp B) x] (padd (0 :: padd (pscale k2 (ev (slp B) x)) (pscale k3 (ev (slp A) x))) (padd (0 :: 0 :: pmul k2 k3) (pscale k1 (-1)))))
  have key : ∀ h, h ≠ 0 → ev [d] h = ev (0 :: W) h := fun h hh => by
    have e1 := h1 h
    rw [e, h2 h, h3 h, e] at e1
    have eW : ev W h = ev k2 h * ev B x + ev k3 h * ev A x + (ev (slp A) x * ev (slp B) x + (h * (ev k2 h * ev (slp B) x + ev k3 h * ev (slp A) x) + (h * (h * (ev k2 h * ev k3 h)) + ev k1 h * (-1)))) := by
      show ev (padd _ _) h = _
      rw [ev_padd, ev_padd, ev_padd, ev_padd, ev_padd, ev_pscale, ev_pscale, ev_pscale]
      show _ + ((ev (slp A) x * ev (slp B) x + h * 0) + ((0 + h * ev (padd (pscale k2 (ev (slp B) x)) (pscale k3 (ev (slp A) x))) h) + ((0 + h * (0 + h * ev (pmul k2 k3) h)) + _))) = _
      rw [ev_padd, ev_pscale, ev_pscale, ev_pmul]
      grind
    show d + h * 0 = 0 + h * ev W h
    rw [eW]
    have e2 : h * d = h * (h * (ev k2 h * ev B x + ev k3 h * ev A x + (ev (slp A) x * ev (slp B) x + (h * (ev k2 h * ev (slp B) x + ev k3 h * ev (slp A) x) + (h * (h * (ev k2 h * ev k3 h)) + ev k1 h * (-1)))))) := by
      show h * (ev (slp F) x - (ev (slp A) x * ev B x + ev A x * ev (slp B) x)) = _
      grind
    have e3 := mul_can hh e2
    rw [e3]
    grind
  have z := ev_inj key 0
  have z : d = 0 := z
  have z : ev (slp F) x - (ev (slp A) x * ev B x + ev A x * ev (slp B) x) = 0 := z
  grind
theorem slp_const (c x : Rat) : ev (slp [c]) x = 0 := rfl
def Cop (A B : List Rat) : Prop := ∃ u v : List Rat, ∀ x, ev u x * ev A x + ev v x * ev B x = 1
theorem Cop.symm {A B : List Rat} (h : Cop A B) : Cop B A := by
  obtain ⟨u, v, e⟩ := h
  exact ⟨v, u, fun x => by have := e x; grind⟩
theorem Cop.mul {A A' B P : List Rat} (h : Cop A B) (h' : Cop A' B) (e : ∀ x, ev P x = ev A x * ev A' x) : Cop P B := by
  obtain ⟨u, v, e1⟩ := h
  obtain ⟨u', v', e2⟩ := h'
  refine ⟨pmul u u', padd (pmul v (padd (pmul u' A') (pmul v' B))) (pmul (pmul u A) v'), fun x => ?_⟩
  have h1 := e1 x
  have h2 := e2 x
  rw [ev_padd, ev_pmul, ev_pmul, ev_pmul, ev_padd, ev_pmul, ev_pmul, ev_pmul, e, h2]
  have : ev u x * ev A x * (ev u' x * ev A' x + ev v' x * ev B x) + ev v x * ev B x = 1 := by rw [h2]; grind
  grind
theorem Cop.add {A B C t : List Rat} {c : Rat} (h : Cop A B) (c0 : c ≠ 0) (e : ∀ x, ev C x = ev B x * c + ev A x * ev t x) : Cop A C := by
  obtain ⟨u, v, e1⟩ := h
  have ci : c * (1 / c) = 1 := by rw [Rat.div_def, Rat.one_mul]; exact Rat.mul_inv_cancel c c0
  refine ⟨padd u (pscale (pmul v t) (-(1 / c))), pscale v (1 / c), fun x => ?_⟩
  have h1 := e1 x
  rw [ev_padd, ev_pscale, ev_pscale, ev_pmul, e]
  grind
theorem cop_one (B : List Rat) : Cop [1] B := ⟨[1], [], fun x => by
  show (1 + x * 0) * (1 + x * 0) + 0 * ev B x = (1 : Rat)
  grind⟩
def pw (g : List Rat) : Nat → List Rat
  | 0 => [1]
  | n + 1 => pmul g (pw g n)
theorem ev_pw (g : List Rat) (n : Nat) (x : Rat) : ev (pw g (n + 1)) x = ev g x * ev (pw g n) x := ev_pmul _ _ _
theorem slp_pw (g : List Rat) (x : Rat) : ∀ n : Nat, ev (slp (pw g (n + 1))) x = ((n + 1 : Nat) : Rat) * ev (pw g n) x * ev (slp g) x
  | 0 => by
    rw [slp_mul (fun x => ev_pw g 0 x), show pw g 0 = [1] from rfl, slp_const]
    show _ * (1 + x * 0) + _ * 0 = ((1 : Nat) : Rat) * (1 + x * 0) * _
    rw [show ((1 : Nat) : Rat) = 1 from rfl]
    grind
  | n + 1 => by
    rw [slp_mul (fun x => ev_pw g (n + 1) x), slp_pw g x n, ev_pw g n]
    have : ((n + 1 + 1 : Nat) : Rat) = ((n + 1 : Nat) : Rat) + 1 := by exact_mod_cast rfl
    rw [this]
    grind
/-- the product of what is taken, k times less -/
def prE : List (List Rat × Nat) → Nat → List Rat
  | [], _ => [1]
  | (g, m) :: r, k => pmul (pw g (m - k)) (prE r k)
def prR : List (List Rat × Nat) → Nat → List Rat
  | [], _ => [1]
  | (g, m) :: r, k => if k < m then pmul g (prR r k) else prR r k
def prS : List (List Rat × Nat) → Nat → List Rat
  | [], _ => []
  | (g, m) :: r, k => if k < m then padd (pscale (pmul (slp g) (prR r k)) ((m - k : Nat) : Rat)) (pmul g (prS r k)) else prS r k
theorem prE_R (x : Rat) (k : Nat) : ∀ l : List (List Rat × Nat), ev (prE l k) x = ev (prE l (k + 1)) x * ev (prR l k) x
  | [] => by
    show (1 + x * 0) = (1 + x * 0) * (1 + x * 0 : Rat)
    grind
  | (g, m) :: r => by
    have ih := prE_R x k r
    show ev (pmul (pw g (m - k)) (prE r k)) x = ev (pmul (pw g (m - (k + 1))) (prE r (k + 1))) x * ev (if k < m then pmul g (prR r k) else prR r k) x
    rw [ev_pmul, ev_pmul, ih]
    split
    · rename_i h
      rw [show m - k = m - (k + 1) + 1 by omega, ev_pw, ev_pmul]
      grind
    · rename_i h
      rw [show m - k = 0 by omega, show m - (k + 1) = 0 by omega]
      grind
theorem prE_S (x : Rat) (k : Nat) : ∀ l : List (List Rat × Nat), ev (slp (prE l k)) x = ev (prE l (k + 1)) x * ev (prS l k) x
  | [] => by
    show ev (slp [1]) x = _ * (0 : Rat)
    rw [slp_const]
    grind
  | (g, m) :: r => by
    have ih := prE_S x k r
    have ir := prE_R x k r
    rw [slp_mul (F := prE ((g, m) :: r) k) (A := pw g (m - k)) (B := prE r k) fun x => ev_pmul _ _ _, ih, ir]
    show _ = ev (pmul (pw g (m - (k + 1))) (prE r (k + 1))) x * ev (if k < m then padd (pscale (pmul (slp g) (prR r k)) ((m - k : Nat) : Rat)) (pmul g (prS r k)) else prS r k) x
    rw [ev_pmul]
    split
    · rename_i h
      rw [show m - k = m - (k + 1) + 1 by omega, slp_pw, ev_pw, ev_padd, ev_pscale, ev_pmul, ev_pmul]
      grind
    · rename_i h
      rw [show m - k = 0 by omega, show m - (k + 1) = 0 by omega, show pw g 0 = [1] from rfl, slp_const]
      grind
/-- rows of which no two have a divisor in common, and none has one in common with its slope -/
def Fam : List (List Rat × Nat) → Prop
  | [] => True
  | (g, _) :: r => Cop g (slp g) ∧ (∀ q ∈ r, Cop g q.1) ∧ Fam r
theorem cop_R {g : List Rat} (k : Nat) : ∀ {r : List (List Rat × Nat)}, (∀ q ∈ r, Cop g q.1) → Cop (prR r k) g
  | [], _ => cop_one g
  | (h, m) :: r, H => by
    have ih := cop_R k (r := r) fun q hq => H q (List.mem_cons_of_mem _ hq)
    show Cop (if k < m then pmul h (prR r k) else prR r k) g
    split
    · exact (H (h, m) (List.mem_cons_self ..)).symm.mul ih fun x => ev_pmul _ _ _
    · exact ih
theorem cop_RS (k : Nat) : ∀ {l : List (List Rat × Nat)}, Fam l → Cop (prR l k) (prS l k)
  | [], _ => cop_one []
  | (g, m) :: r, H => by
    obtain ⟨h1, h2, h3⟩ := H
    have ih := cop_RS k h3
    have iR := cop_R k h2
    show Cop (if k < m then pmul g (prR r k) else prR r k) (if k < m then padd (pscale (pmul (slp g) (prR r k)) ((m - k : Nat) : Rat)) (pmul g (prS r k)) else prS r k)
    split
    · rename_i hk
      have n0 : ((m - k : Nat) : Rat) ≠ 0 := by
        have : m - k ≠ 0 := by omega
        exact_mod_cast this
      have a1 : Cop g (padd (pscale (pmul (slp g) (prR r k)) ((m - k : Nat) : Rat)) (pmul g (prS r k))) := by
        have : Cop (pmul (slp g) (prR r k)) g := h1.symm.mul iR fun x => ev_pmul _ _ _
        exact this.symm.add (t := prS r k) n0 fun x => by rw [ev_padd, ev_pscale, ev_pmul g]
      have a2 : Cop (prR r k) (padd (pscale (pmul (slp g) (prR r k)) ((m - k : Nat) : Rat)) (pmul g (prS r k))) := by
        have : Cop (pmul g (prS r k)) (prR r k) := iR.symm.mul ih.symm fun x => ev_pmul _ _ _
        exact this.symm.add (c := 1) (t := pscale (slp g) ((m - k : Nat) : Rat)) (by decide +kernel) fun x => by rw [ev_padd, ev_pscale, ev_pscale, ev_pmul (slp g)]; grind
      exact a1.mul a2 fun x => ev_pmul _ _ _
    · exact ih
end Vf
set_option maxRecDepth 100000
set_option exponentiation.threshold 5000
namespace Vf
/-- a row whose last number is one -/
structure Mo (A : List Rat) : Prop where
  n : A ≠ []
  t : cf A (A.length - 1) = 1
theorem Mo.s {A : List Rat} (h : Mo A) : Stp A := by
  intro r x e
  have t := h.t
  rw [e, List.length_append] at t
  rw [show r.length + [x].length - 1 = r.length from rfl, cf_app, if_neg (by omega), Nat.sub_self] at t
  have t : x = 1 := t
  rw [t]
  decide +kernel
theorem mo_one : Mo [1] := ⟨by simp, rfl⟩
theorem Mo.mul {A B : List Rat} (hA : Mo A) (hB : Mo B) : Mo (pmul A B) ∧ (pmul A B).length + 1 = A.length + B.length := by
  have a := List.length_pos_iff.mpr hA.n
  have b := List.length_pos_iff.mpr hB.n
  have l : (pmul A B).length = A.length + B.length - 1 := by unfold pmul; rw [tab_len]
  refine ⟨⟨fun z => ?_, ?_⟩, by omega⟩
  · rw [z] at l
    have : (0 : Nat) = A.length + B.length - 1 := l
    omega
  · rw [l, show A.length + B.length - 1 - 1 = (A.length - 1) + (B.length - 1) by omega, top_pmul (by omega) (by omega), hA.t, hB.t]
    exact Rat.one_mul 1
theorem Mo.pw {g : List Rat} (h : Mo g) : ∀ n : Nat, Mo (pw g n) ∧ (pw g n).length = n * (g.length - 1) + 1
  | 0 => ⟨mo_one, by show 1 = _; rw [Nat.zero_mul]⟩
  | n + 1 => by
    obtain ⟨h1, h2⟩ := h.pw n
    obtain ⟨h3, h4⟩ := h.mul h1
    have := List.length_pos_iff.mpr h.n
    refine ⟨h3, ?_⟩
    show (pmul g (Vf.pw g n)).length = _
    rw [Nat.add_mul, Nat.one_mul]
    omega
def Mos (l : List (List Rat × Nat)) : Prop := ∀ q ∈ l, Mo q.1
/-- of how many degrees -/
def dgs : List (List Rat × Nat) → Nat → Nat
  | [], _ => 0
  | (g, m) :: r, k => (m - k) * (g.length - 1) + dgs r k
theorem mo_E (k : Nat) : ∀ {l : List (List Rat × Nat)}, Mos l → Mo (prE l k) ∧ (prE l k).length = dgs l k + 1
  | [], _ => ⟨mo_one, rfl⟩
  | (g, m) :: r, h => by
    obtain ⟨h1, h2⟩ := mo_E k (l := r) fun q hq => h q (List.mem_cons_of_mem _ hq)
    obtain ⟨h3, h4⟩ := (h (g, m) (List.mem_cons_self ..)).pw (m - k)
    obtain ⟨h5, h6⟩ := h3.mul h1
    refine ⟨h5, ?_⟩
    dsimp only at h4 h6
    show (pmul (pw g (m - k)) (prE r k)).length = (m - k) * (g.length - 1) + dgs r k + 1
    omega
theorem mo_R (k : Nat) : ∀ {l : List (List Rat × Nat)}, Mos l → Mo (prR l k)
  | [], _ => mo_one
  | (g, m) :: r, h => by
    have h1 := mo_R k (l := r) fun q hq => h q (List.mem_cons_of_mem _ hq)
    show Mo (if k < m then pmul g (prR r k) else prR r k)
    split
    · exact ((h (g, m) (List.mem_cons_self ..)).mul h1).1
    · exact h1
/-- the part that is taken k + 1 times -/
def prP : List (List Rat × Nat) → Nat → List Rat
  | [], _ => [1]
  | (g, m) :: r, k => if m = k + 1 then pmul g (prP r k) else prP r k
theorem mo_P (k : Nat) : ∀ {l : List (List Rat × Nat)}, Mos l → Mo (prP l k)
  | [], _ => mo_one
  | (g, m) :: r, h => by
    have h1 := mo_P k (l := r) fun q hq => h q (List.mem_cons_of_mem _ hq)
    show Mo (if m = k + 1 then pmul g (prP r k) else prP r k)
    split
    · exact ((h (g, m) (List.mem_cons_self ..)).mul h1).1
    · exact h1
theorem prR_P (x : Rat) (k : Nat) : ∀ l : List (List Rat × Nat), ev (prR l k) x = ev (prR l (k + 1)) x * ev (prP l k) x
  | [] => by
    show (1 + x * 0) = (1 + x * 0) * (1 + x * 0 : Rat)
    grind
  | (g, m) :: r => by
    have ih := prR_P x k r
    show ev (if k < m then pmul g (prR r k) else prR r k) x = ev (if k + 1 < m then pmul g (prR r (k + 1)) else prR r (k + 1)) x * ev (if m = k + 1 then pmul g (prP r k) else prP r k) x
    by_cases h1 : k + 1 < m
    · rw [if_pos (show k < m by omega), if_pos h1, if_neg (by omega), ev_pmul, ev_pmul, ih]
      grind
    · by_cases h2 : m = k + 1
      · rw [if_pos (show k < m by omega), if_neg h1, if_pos h2, ev_pmul, ev_pmul, ih]
        grind
      · rw [if_neg (show ¬ k < m by omega), if_neg h1, if_neg h2, ih]
theorem prR_top (k : Nat) : ∀ {l : List (List Rat × Nat)}, (∀ q ∈ l, q.2 ≤ k) → prR l k = [1]
  | [], _ => rfl
  | (g, m) :: r, h => by
    show (if k < m then pmul g (prR r k) else prR r k) = [1]
    have : m ≤ k := h (g, m) (List.mem_cons_self ..)
    rw [if_neg (by omega)]
    exact prR_top k fun q hq => h q (List.mem_cons_of_mem _ hq)
end Vf
set_option maxRecDepth 100000
set_option exponentiation.threshold 5000
namespace Vf
structure Pl6 (pz o1 o2 : List Int) (A B : Nat) : Prop where
  sp : Stp (qi pz)
  s1 : Stp (qi o1)
  s2 : Stp (qi o2)
  np : pz ≠ []
  n1 : o1 ≠ []
  n2 : o2 ≠ []
  lp : pz.length ≤ 13
  l1 : o1.length ≤ 9
  l2 : o2.length ≤ 9
  A0 : 0 < A
  a1 : ∀ i, (ci o1 i).natAbs ≤ A
  a2 : ∀ i, (ci o2 i).natAbs ≤ A
  bp : ∀ i, (ci pz i).natAbs ≤ B
theorem made_row6 {pz o1 o2 us vs : List Int} {A B M : Nat} (hP : Pl6 pz o1 o2 A B) (lu : us.length ≤ 10) (lv : vs.length ≤ 10) (hu : ∀ i, (ci us i).natAbs ≤ (2 * ((M + 1) * A)) ^ M) (hv : ∀ i, (ci vs i).natAbs ≤ (2 * ((M + 1) * A)) ^ M) :
    ∃ t : List Int, qi t = pmul (qi pz) (padd (pmul (qi us) (qi o1)) (pmul (qi vs) (qi o2))) ∧ ∀ i, (ci t i).natAbs ≤ bnd A B M := by
  have := hP.lp
  have := hP.l1
  have := hP.l2
  refine int_of fun i => ?_
  have k : ∀ {o : List Int} {N : Nat}, (∀ i, (ci o i).natAbs ≤ N) → ∀ i, Fr 1 N (cf (qi o) i) := fun {o N} h i => by
    rw [cf_qi]; exact fr_int _ (h i)
  have z := pmul_fr (k hP.bp) (b := padd (pmul (qi us) (qi o1)) (pmul (qi vs) (qi o2))) (M' := 1) (N' := 32 * ((2 * ((M + 1) * A)) ^ M * A) + 32 * ((2 * ((M + 1) * A)) ^ M * A)) (fun j => by
    rw [cf_padd]
    have y1 := pmul_fr (k hu) (k hP.a1) (by rw [qi_len, qi_len]; omega) j
    have y2 := pmul_fr (k hv) (k hP.a2) (by rw [qi_len, qi_len]; omega) j
    exact y1.add y2) (by rw [qi_len, pad_len, pmul_len, pmul_len, qi_len, qi_len, qi_len, qi_len]; omega) i
  exact z
theorem bnd_le6 {A B M : Nat} (hA : A ≤ 2 ^ 62) (hB : B ≤ 2 ^ 70) (hM : M ≤ 15) : bnd A B M ≤ 2 ^ (143 + 67 * M) := by
  unfold bnd
  have h1 := Nat.mul_le_mul (cpow_le hA hM) hA
  rw [← Nat.pow_add] at h1
  have h2 : 32 * ((2 * ((M + 1) * A)) ^ M * A) + 32 * ((2 * ((M + 1) * A)) ^ M * A) ≤ 2 ^ 6 * 2 ^ (67 * M + 62) := by
    generalize (2 * ((M + 1) * A)) ^ M * A = z at *
    generalize 2 ^ (67 * M + 62) = y at *
    omega
  have h3 := Nat.mul_le_mul_left (2 ^ 5) (Nat.mul_le_mul hB h2)
  rw [← Nat.pow_add, ← Nat.pow_add, ← Nat.pow_add] at h3
  rw [show 143 + 67 * M = 5 + (70 + (6 + (67 * M + 62))) by omega]
  exact h3
theorem two_of6 {pz o1 o2 : List Int} {A B : Nat} (hP : Pl6 pz o1 o2 A B) (hA : A ≤ 2 ^ 62) (hB : B ≤ 2 ^ 70) {X Y : List Int} (hX : Pm X) (hY : Pm Y) {k1 k2 : Rat} (n1 : k1 ≠ 0) (n2 : k2 ≠ 0) (eX : ∀ x, ev (qi X) x = k1 * fab pz o1 x) (eY : ∀ x, ev (qi Y) x = k2 * fab pz o2 x) :
    ∃ G c1 c2, Two X Y G c1 c2 (2 ^ 1200) ∧ ∃ s : List Rat, ∀ x, ev (qi G) x = ev (qi pz) x * ev s x := by
  have lp := List.length_pos_iff.mpr hP.np
  have l1 := List.length_pos_iff.mpr hP.n1
  have l2 := List.length_pos_iff.mpr hP.n2
  have b0 := hP.lp
  have b1 := hP.l1
  have b2 := hP.l2
  have sP := hP.sp
  have nP := qi_ne hP.np
  obtain ⟨g, h1, h2, a, b, sg, ng, e1, e2, e3⟩ := gcd_ex _ (qi o1) (qi o2) hP.s1 hP.s2 (qi_ne hP.n1) (Nat.le_refl _)
  have lg := List.length_pos_iff.mpr ng
  -- what is left of both
  let j1 := stripQ h1
  let j2 := stripQ h2
  have s1 : Stp j1 := stripQ_stp _
  have s2 : Stp j2 := stripQ_stp _
  have e1 : ∀ x, ev (qi o1) x = ev g x * ev j1 x := fun x => by rw [e1, ev_stripQ]
  have e2 : ∀ x, ev (qi o2) x = ev g x * ev j2 x := fun x => by rw [e2, ev_stripQ]
  have m1 : j1 ≠ [] := fun z => qi_ne hP.n1 (stp_nil hP.s1 fun x => by rw [e1, z]; show _ * 0 = (0 : Rat); grind)
  have m2 : j2 ≠ [] := fun z => qi_ne hP.n2 (stp_nil hP.s2 fun x => by rw [e2, z]; show _ * 0 = (0 : Rat); grind)
  have L1 := len_mul_eq sg s1 hP.s1 ng m1 e1
  have L2 := len_mul_eq sg s2 hP.s2 ng m2 e2
  rw [qi_len] at L1 L2
  have lj1 := List.length_pos_iff.mpr m1
  have lj2 := List.length_pos_iff.mpr m2
  clear_value j1 j2
  have bez : ∀ x, ev a x * ev j1 x + ev b x * ev j2 x = 1 := fun x => by
    have h := ev_can sg ng (L := padd (pmul a j1) (pmul b j2)) (R := [1]) (fun x => by
      rw [ev_padd, ev_pmul, ev_pmul]
      have := e3 x
      rw [e1, e2] at this
      show _ = _ * (1 + x * 0)
      grind) x
    rw [ev_padd, ev_pmul, ev_pmul] at h
    rw [h]
    show 1 + x * 0 = (1 : Rat)
    grind
  -- the divisor
  let gp := stripQ (pmul (qi pz) g)
  have sgp : Stp gp := stripQ_stp _
  have egp : ∀ x, ev gp x = ev (qi pz) x * ev g x := fun x => by show ev (stripQ _) x = _; rw [ev_stripQ, ev_pmul]
  have ngp : gp ≠ [] := fun z => ng (stp_nil sg (mul_zero2 sP nP fun x => by rw [← egp, z]; rfl))
  have Lgp := len_mul_eq sP sg sgp nP ng egp
  rw [qi_len] at Lgp
  clear_value gp
  obtain ⟨G, kg, hG, kg0, eG, lG⟩ := prim_ex sgp ngp
  have kgi : kg * (1 / kg) = 1 := by rw [Rat.div_def, Rat.one_mul]; exact Rat.mul_inv_cancel kg kg0
  have egpG : ∀ x, ev gp x = ev (qi G) x * (1 / kg) := fun x => by rw [eG]; grind
  -- both in it
  obtain ⟨d1, hd1⟩ := gauss (X := X) (S := pscale j1 (k1 * (1 / kg))) hG fun x => by
    rw [eX, ev_pscale, eG, egp]
    unfold fab
    rw [e1]
    grind
  obtain ⟨d2, hd2⟩ := gauss (X := Y) (S := pscale j2 (k2 * (1 / kg))) hG fun x => by
    rw [eY, ev_pscale, eG, egp]
    unfold fab
    rw [e2]
    grind
  have E1 : ∀ x, ev (qi X) x = ev (qi G) x * ev (qi d1) x := fun x => by
    rw [hd1, ev_pscale, eX, eG, egp]
    unfold fab
    rw [e1]
    grind
  have E2 : ∀ x, ev (qi Y) x = ev (qi G) x * ev (qi d2) x := fun x => by
    rw [hd2, ev_pscale, eY, eG, egp]
    unfold fab
    rw [e2]
    grind
  obtain ⟨c1, pc1, ec1⟩ := pm_part hX hG E1
  obtain ⟨c2, pc2, ec2⟩ := pm_part hY hG E2
  have E1 : ∀ x, ev (qi X) x = ev (qi G) x * ev (qi c1) x := fun x => by rw [ec1, E1]
  have E2 : ∀ x, ev (qi Y) x = ev (qi G) x * ev (qi c2) x := fun x => by rw [ec2, E2]
  have C1 : ∀ x, ev (qi c1) x = ev j1 x * (k1 * (1 / kg)) := fun x => by rw [ec1, hd1, ev_pscale]
  have C2 : ∀ x, ev (qi c2) x = ev j2 x * (k2 * (1 / kg)) := fun x => by rw [ec2, hd2, ev_pscale]
  have q1 : k1 * (1 / kg) ≠ 0 := fun z => by
    rcases Rat.mul_eq_zero.mp z with y | y
    · exact n1 y
    · rw [y, Rat.mul_zero] at kgi; exact absurd kgi (by decide +kernel)
  have q2 : k2 * (1 / kg) ≠ 0 := fun z => by
    rcases Rat.mul_eq_zero.mp z with y | y
    · exact n2 y
    · rw [y, Rat.mul_zero] at kgi; exact absurd kgi (by decide +kernel)
  -- the planted rows are whole multiples
  have mult : ∀ {o X : List Int} {k : Rat}, Pm X → k ≠ 0 → (∀ x, ev (qi X) x = k * fab pz o x) → ∃ z : Int, ∀ x, fab pz o x = (z : Rat) * ev (qi X) x := fun {o X k} hX k0 e => by
    obtain ⟨t, ht⟩ := whole_row (L := pmul (qi pz) (qi o)) fun i => by
      rw [cf_pmul]; unfold pc
      exact Wh.sm fun j _ => by rw [cf_qi, cf_qi]; exact (Wh.int _).mul (Wh.int _)
    have ki : k * (1 / k) = 1 := by rw [Rat.div_def, Rat.one_mul]; exact Rat.mul_inv_cancel k k0
    obtain ⟨z, ez, _⟩ := pm_mult (t := t) (k := 1 / k) hX fun x => by
      rw [ht, ev_pmul, e]
      unfold fab
      grind
    refine ⟨z, fun x => ?_⟩
    rw [← ez, e]
    grind
  obtain ⟨z1, ez1⟩ := mult hX n1 eX
  obtain ⟨z2, ez2⟩ := mult hY n2 eY
  have z1n : z1 ≠ 0 := fun z => by
    have : ∀ x, ev (qi X) x = 0 := fun x => by rw [eX, ez1, z]; show k1 * (0 * _) = (0 : Rat); grind
    exact qi_ne hX.ne (stp_nil hX.stp this)
  have z2n : z2 ≠ 0 := fun z => by
    have : ∀ x, ev (qi Y) x = 0 := fun x => by rw [eY, ez2, z]; show k2 * (0 * _) = (0 : Rat); grind
    exact qi_ne hY.ne (stp_nil hY.stp this)
  -- sizes of both
  have bXY : ∀ {o X : List Int} {z : Int}, o.length ≤ 9 → (∀ i, (ci o i).natAbs ≤ A) → Pm X → z ≠ 0 → (∀ x, fab pz o x = (z : Rat) * ev (qi X) x) → ∀ i, (ci X i).natAbs ≤ 2 ^ 137 := fun {o X z} lo ho hX hz e i => by
    obtain ⟨t, ht, bt⟩ := int_of (L := pmul (qi pz) (qi o)) (N := 32 * (B * A)) fun i => by
      have := pmul_fr (a := qi pz) (b := qi o) (M := 1) (N := B) (M' := 1) (N' := A) (fun i => by rw [cf_qi]; exact fr_int _ (hP.bp i)) (fun i => by rw [cf_qi]; exact fr_int _ (ho i)) (by rw [qi_len, qi_len]; omega) i
      exact this
    have h := pm_le (t := t) (k := (z : Rat)) hX (by exact_mod_cast hz) (fun x => by rw [ht, ev_pmul]; exact e x) i
    have h2 := bt i
    have h3 := Nat.mul_le_mul_left (2 ^ 5) (Nat.mul_le_mul hB hA)
    rw [← Nat.pow_add, ← Nat.pow_add] at h3
    exact Nat.le_trans h (Nat.le_trans h2 h3)
  have bX := bXY hP.l1 hP.a1 hX z1n ez1
  have bY := bXY hP.l2 hP.a2 hY z2n ez2
  have up : ∀ {n : Nat}, n ≤ 2 ^ 137 → n ≤ 2 ^ 1200 := fun h => Nat.le_trans h (Nat.pow_le_pow_right (by decide) (by decide))
  have up2 : ∀ {n : Nat}, n ≤ 2 ^ 1156 → n ≤ 2 ^ 1200 := fun h => Nat.le_trans h (Nat.pow_le_pow_right (by decide) (by decide))
  -- the cofactors are short: a sum that vanishes
  obtain ⟨us, vs, lus, lvs, bu, bv, ⟨i0, nz⟩, van⟩ := siegel_rows (o1 := o1) (o2 := o2) (m1 := j1.length) (m2 := j2.length) (h := g.length - 1) (M := j1.length + j2.length - 1) hP.a1 hP.a2 hP.A0 (by omega)
  have syz : ∀ x, ev (qi us) x * ev j1 x + ev (qi vs) x * ev j2 x = 0 := fun x => by
    have h : ∀ d, cf (padd (pmul (qi us) (qi o1)) (pmul (qi vs) (qi o2))) (g.length - 1 + d) = 0 := fun d => by
      by_cases hd : d < j1.length + j2.length - 1
      · exact van _ (by omega) (by omega)
      · rw [cf_padd, cf_pmul_ge (a := qi vs) (by rw [qi_len, qi_len]; omega), cf_pmul_ge (a := qi us) (by rw [qi_len, qi_len]; omega), Rat.add_zero]
    have ls : (stripQ (padd (pmul (qi us) (qi o1)) (pmul (qi vs) (qi o2)))).length ≤ g.length - 1 := sq_len fun i hi => by
      have := h (i - (g.length - 1))
      rw [show g.length - 1 + (i - (g.length - 1)) = i by omega] at this
      exact this
    have := mul_small (A := g) (W := padd (pmul (qi us) j1) (pmul (qi vs) j2)) sg ng (fun x => by
      show ev (stripQ (padd (pmul (qi us) (qi o1)) (pmul (qi vs) (qi o2)))) x = _
      rw [ev_stripQ, ev_padd, ev_pmul, ev_pmul, ev_padd, ev_pmul, ev_pmul, e1, e2]; grind) (by omega) x
    rw [ev_padd, ev_pmul, ev_pmul] at this
    exact this
  have sU : ∀ x, ev (qi us) x = ev j2 x * ev (padd (pmul (qi us) b) (pscale (pmul a (qi vs)) (-1))) x := fun x => by
    rw [ev_padd, ev_pscale, ev_pmul, ev_pmul]
    have h := bez x
    have h2 := syz x
    have h3 : ev (qi us) x = ev (qi us) x * (ev a x * ev j1 x + ev b x * ev j2 x) := by rw [h]; grind
    have h4 : ev (qi us) x * ev a x * ev j1 x = -(ev a x * ev (qi vs) x * ev j2 x) := by grind
    rw [h3]
    grind
  have sV : ∀ x, ev (qi vs) x = ev j1 x * (-ev (padd (pmul (qi us) b) (pscale (pmul a (qi vs)) (-1))) x) := fun x => by
    rw [ev_padd, ev_pscale, ev_pmul, ev_pmul]
    have h := bez x
    have h2 := syz x
    have h3 : ev (qi vs) x = ev (qi vs) x * (ev a x * ev j1 x + ev b x * ev j2 x) := by rw [h]; grind
    have h4 : ev (qi vs) x * ev b x * ev j2 x = -(ev b x * ev (qi us) x * ev j1 x) := by grind
    rw [h3]
    grind
  obtain ⟨s, hs⟩ := mul_const s2 m2 sU (by rw [qi_len]; omega)
  have s0 : s ≠ 0 := fun z => by
    rcases nz with y | y
    · exact y (ev_eq0 (fun x => by rw [sU, hs, z]; grind) i0)
    · exact y (ev_eq0 (fun x => by rw [sV, hs, z]; grind) i0)
  have M17 : (2 * ((j1.length + j2.length - 1 + 1) * A)) ^ (j1.length + j2.length - 1) ≤ 2 ^ 1156 := by
    have h1 : (j1.length + j2.length - 1 + 1) * A ≤ 2 ^ 5 * 2 ^ 62 := Nat.mul_le_mul (by omega) hA
    have h2 : 2 * ((j1.length + j2.length - 1 + 1) * A) ≤ 2 ^ 68 := by
      have := Nat.mul_le_mul_left 2 h1
      rw [← Nat.pow_add, ← Nat.pow_succ'] at this
      exact this
    refine Nat.le_trans (Nat.pow_le_pow_left h2 _) ?_
    rw [← Nat.pow_mul]
    exact Nat.pow_le_pow_right (by decide) (by omega)
  have q1i : k1 * (1 / kg) * (1 / (k1 * (1 / kg))) = 1 := by rw [Rat.div_def 1 (k1 * (1 / kg)), Rat.one_mul]; exact Rat.mul_inv_cancel _ q1
  have q2i : k2 * (1 / kg) * (1 / (k2 * (1 / kg))) = 1 := by rw [Rat.div_def 1 (k2 * (1 / kg)), Rat.one_mul]; exact Rat.mul_inv_cancel _ q2
  generalize k1 * (1 / kg) = r1 at *
  generalize k2 * (1 / kg) = r2 at *
  have bc1 : ∀ i, (ci c1 i).natAbs ≤ 2 ^ 1200 := fun i => up2 (Nat.le_trans (pm_le (t := vs) (k := -s * (1 / r1)) pc1 (fun z => by
    rcases Rat.mul_eq_zero.mp z with y | y
    · exact s0 (by grind)
    · rw [y, Rat.mul_zero] at q1i; exact absurd q1i (by decide +kernel)) (fun x => by rw [sV, hs, C1]; grind) i) (Nat.le_trans (bv i) M17))
  have bc2 : ∀ i, (ci c2 i).natAbs ≤ 2 ^ 1200 := fun i => up2 (Nat.le_trans (pm_le (t := us) (k := s * (1 / r2)) pc2 (fun z => by
    rcases Rat.mul_eq_zero.mp z with y | y
    · exact s0 y
    · rw [y, Rat.mul_zero] at q2i; exact absurd q2i (by decide +kernel)) (fun x => by rw [sU, hs, C2]; grind) i) (Nat.le_trans (bu i) M17))
  -- the short sum that tells the divisor
  have bez2 : (∃ (u v : List Int) (R : Int), R ≠ 0 ∧ R.natAbs < 2 ^ 4423 - 1 ∧ ∀ x, (R : Rat) * ev (qi G) x = ev (qi u) x * ev (qi X) x + ev (qi v) x * ev (qi Y) x) ∧ ∀ i, (ci G i).natAbs ≤ 2 ^ 1200 := by
    by_cases both : j1.length = 1 ∧ j2.length = 1
    · -- X is the divisor
      have : X = G := by
        obtain ⟨f, hf⟩ := List.length_eq_one_iff.mp both.1
        refine pm_uniq hG hX (k := f * r1) fun x => ?_
        rw [E1, C1, hf]
        show _ * ((f + x * 0) * r1) = _
        grind
      refine ⟨⟨[1], [], 1, by decide, by decide +kernel, fun x => ?_⟩, fun i => ?_⟩
      · rw [this]
        show ((1 : Int) : Rat) * _ = (((1 : Int) : Rat) + x * 0) * _ + 0 * _
        rw [show ((1 : Int) : Rat) = 1 from rfl]
        grind
      · rw [← this]
        exact up (bX i)
    · obtain ⟨us, vs, lus, lvs, bu, bv, ⟨i0, nz⟩, van⟩ := siegel_rows (o1 := o1) (o2 := o2) (m1 := j1.length - 1) (m2 := j2.length - 1) (h := g.length) (M := j1.length - 1 + (j2.length - 1) - 1) hP.a1 hP.a2 hP.A0 (by omega)
      obtain ⟨t, et, bt⟩ := made_row6 hP (us := us) (vs := vs) (M := j1.length - 1 + (j2.length - 1) - 1) (by omega) (by omega) bu bv
      have bt' : ∀ i, (ci t i).natAbs ≤ 2 ^ 1148 := fun i => Nat.le_trans (bt i) (Nat.le_trans (bnd_le6 hA hB (by omega)) (Nat.pow_le_pow_right (by decide) (by omega)))
      have van2 : ∀ d, g.length ≤ d → cf (padd (pmul (qi us) (qi o1)) (pmul (qi vs) (qi o2))) d = 0 := fun d hd => by
        by_cases hd2 : d < g.length + (j1.length - 1 + (j2.length - 1) - 1)
        · exact van _ hd hd2
        · rw [cf_padd]
          have f1 : cf (pmul (qi us) (qi o1)) d = 0 := by
            by_cases hz : us = []
            · rw [hz, cf_pmul]; unfold pc; exact sm_zero fun k _ => by rw [show qi [] = [] from rfl, cf_nil, Rat.zero_mul]
            · have := List.length_pos_iff.mpr hz
              exact cf_pmul_ge (by rw [qi_len, qi_len]; omega)
          have f2 : cf (pmul (qi vs) (qi o2)) d = 0 := by
            by_cases hz : vs = []
            · rw [hz, cf_pmul]; unfold pc; exact sm_zero fun k _ => by rw [show qi [] = [] from rfl, cf_nil, Rat.zero_mul]
            · have := List.length_pos_iff.mpr hz
              exact cf_pmul_ge (by rw [qi_len, qi_len]; omega)
          rw [f1, f2, Rat.add_zero]
      have ls := sq_len van2
      obtain ⟨rho, hr⟩ := mul_const (A := g) (S := padd (pmul (qi us) j1) (pmul (qi vs) j2)) (V := stripQ (padd (pmul (qi us) (qi o1)) (pmul (qi vs) (qi o2)))) sg ng (fun x => by
        rw [ev_stripQ, ev_padd, ev_pmul, ev_pmul, ev_padd, ev_pmul, ev_pmul, e1, e2]; grind) ls
      have hr : ∀ x, ev (qi us) x * ev j1 x + ev (qi vs) x * ev j2 x = rho := fun x => by
        have := hr x
        rw [ev_padd, ev_pmul, ev_pmul] at this
        exact this
      have rho0 : rho ≠ 0 := fun z => by
        have u0 : ∀ x, ev (qi us) x = 0 := fun x => by
          have := mul_small (A := j2) (W := padd (pmul (qi us) b) (pscale (pmul a (qi vs)) (-1))) (Z := qi us) s2 m2 (fun x => by
            rw [ev_padd, ev_pscale, ev_pmul, ev_pmul]
            have h := bez x
            have h2 := hr x
            rw [z] at h2
            have h3 : ev (qi us) x = ev (qi us) x * (ev a x * ev j1 x + ev b x * ev j2 x) := by rw [h]; grind
            have h4 : ev (qi us) x * ev a x * ev j1 x = -(ev a x * ev (qi vs) x * ev j2 x) := by grind
            rw [h3]
            grind) (by rw [qi_len]; omega) x
          rw [ev_padd, ev_pscale, ev_pmul, ev_pmul] at this
          have h := bez x
          have h2 := hr x
          rw [z] at h2
          have h3 : ev (qi us) x = ev (qi us) x * (ev a x * ev j1 x + ev b x * ev j2 x) := by rw [h]; grind
          have h4 : ev (qi us) x * ev a x * ev j1 x = -(ev a x * ev (qi vs) x * ev j2 x) := by grind
          have h5 : ev (qi us) x = ev j2 x * (ev (qi us) x * ev b x + ev a x * ev (qi vs) x * (-1)) := by
            rw [h3]; grind
          rw [h5, this]; grind
        have v0 : ∀ x, ev (qi vs) x = 0 := mul_zero2 s2 m2 fun x => by
          have := hr x
          rw [u0, z] at this
          grind
        rcases nz with y | y
        · exact y (ev_eq0 u0 i0)
        · exact y (ev_eq0 v0 i0)
      have eT : ∀ x, ev (qi t) x = rho * (1 / kg) * ev (qi G) x := fun x => by
        rw [et, ev_pmul, ev_padd, ev_pmul, ev_pmul, e1, e2]
        have h := hr x
        have h2 := egpG x
        rw [egp] at h2
        have : ev (qi pz) x * (ev (qi us) x * (ev g x * ev j1 x) + ev (qi vs) x * (ev g x * ev j2 x)) = ev (qi pz) x * ev g x * (ev (qi us) x * ev j1 x + ev (qi vs) x * ev j2 x) := by grind
        rw [this, h, h2]
        grind
      have r0 : rho * (1 / kg) ≠ 0 := fun z => by
        rcases Rat.mul_eq_zero.mp z with y | y
        · exact rho0 y
        · rw [y, Rat.mul_zero] at kgi; exact absurd kgi (by decide +kernel)
      obtain ⟨R, eR, hR⟩ := pm_mult hG eT
      have RN : R ≠ 0 := fun z => r0 (by rw [eR, z]; rfl)
      refine ⟨⟨us.map (z1 * ·), vs.map (z2 * ·), R, RN, ?_, fun x => ?_⟩, fun i => ?_⟩
      · have h1 := hR (G.length - 1)
        have h2 := bt' (G.length - 1)
        have h3 := hG.tp
        rw [h1, Int.natAbs_mul] at h2
        have h4 := Nat.le_mul_of_pos_right R.natAbs (show 0 < (ci G (G.length - 1)).natAbs by omega)
        have h5 : 2 ^ 1148 < 2 ^ 4423 - 1 := by decide +kernel
        exact Nat.lt_of_le_of_lt (Nat.le_trans h4 h2) h5
      · rw [int_scale, int_scale]
        have h1 := eT x
        rw [eR] at h1
        rw [← h1, et, ev_pmul, ev_padd, ev_pmul, ev_pmul]
        have h2 := ez1 x
        have h3 := ez2 x
        unfold fab at h2 h3
        have : ev (qi pz) x * (ev (qi us) x * ev (qi o1) x + ev (qi vs) x * ev (qi o2) x) = ev (qi us) x * (ev (qi pz) x * ev (qi o1) x) + ev (qi vs) x * (ev (qi pz) x * ev (qi o2) x) := by grind
        rw [this, h2, h3]
        grind
      · exact Nat.le_trans (pm_le hG r0 eT i) (Nat.le_trans (bt' i) (Nat.pow_le_pow_right (by decide) (by decide)))
  obtain ⟨⟨u, v, R, RN, Rp, eR⟩, bG⟩ := bez2
  refine ⟨G, c1, c2, ⟨⟨hX, hY, hG, ⟨c1, E1⟩, ⟨c2, E2⟩, u, v, R, RN, Rp, eR⟩, pc1, pc2, E1, E2, ⟨pc1, pc2, pm_one, ⟨c1, fun x => ?_⟩, ⟨c2, fun x => ?_⟩, u, v, R, RN, Rp, fun x => ?_⟩, fun i => up (bX i), fun i => up (bY i), bG, bc1, bc2⟩, pscale g kg, fun x => ?_⟩
  · show _ = (((1 : Int) : Rat) + x * 0) * _
    rw [show ((1 : Int) : Rat) = 1 from rfl]; grind
  · show _ = (((1 : Int) : Rat) + x * 0) * _
    rw [show ((1 : Int) : Rat) = 1 from rfl]; grind
  · have h := ev_can hG.stp (qi_ne hG.ne) (L := [(R : Rat)]) (R := padd (pmul (qi u) (qi c1)) (pmul (qi v) (qi c2))) (fun x => by
      rw [ev_padd, ev_pmul, ev_pmul]
      have := eR x
      rw [E1, E2] at this
      show _ * ((R : Rat) + x * 0) = _
      grind) x
    rw [ev_padd, ev_pmul, ev_pmul] at h
    rw [← h]
    show (R : Rat) * (((1 : Int) : Rat) + x * 0) = (R : Rat) + x * 0
    rw [show ((1 : Int) : Rat) = 1 from rfl]; grind
  · rw [ev_pscale, eG, egp]; grind
end Vf
set_option maxRecDepth 100000
set_option exponentiation.threshold 5000
namespace Vf
def kns : List (List Rat) := [[0, 1], [(-1 : Rat), 1], [(1 : Rat) / 3, 1], [(-5 : Rat) / 2, 1], [(-2 : Rat), 0, 1], [1, 0, 1], [1, 1, 1], [(-2 : Rat), 0, 0, 1]]
def kn (i : Nat) : List Rat := kns.getD i []
def bzs : List (List (List Rat × List Rat)) := [[([], [1]), ([1], [(-1 : Rat)]), ([(-3 : Rat)], [3]), ([(2 : Rat) / 5], [(-2 : Rat) / 5]), ([0, (1 : Rat) / 2], [(-1 : Rat) / 2]), ([0, (-1 : Rat)], [1]), ([(-1 : Rat), (-1 : Rat)], [1]), ([0, 0, (1 : Rat) / 2], [(-1 : Rat) / 2])],
  [([(-1 : Rat)], [1]), ([], [1]), ([(-3 : Rat) / 4], [(3 : Rat) / 4]), ([(2 : Rat) / 3], [(-2 : Rat) / 3]), ([1, 1], [(-1 : Rat)]), ([(-1 : Rat) / 2, (-1 : Rat) / 2], [(1 : Rat) / 2]), ([(-2 : Rat) / 3, (-1 : Rat) / 3], [(1 : Rat) / 3]), ([1, 1, 1], [(-1 : Rat)])],
  [([3], [(-3 : Rat)]), ([(3 : Rat) / 4], [(-3 : Rat) / 4]), ([], [1]), ([(6 : Rat) / 17], [(-6 : Rat) / 17]), ([(-3 : Rat) / 17, (9 : Rat) / 17], [(-9 : Rat) / 17]), ([(3 : Rat) / 10, (-9 : Rat) / 10], [(9 : Rat) / 10]), ([(-6 : Rat) / 7, (-9 : Rat) / 7], [(9 : Rat) / 7]), ([(3 : Rat) / 55, (-9 : Rat) / 55, (27 : Rat) / 55], [(-27 : Rat) / 55])],
  [([(-2 : Rat) / 5], [(2 : Rat) / 5]), ([(-2 : Rat) / 3], [(2 : Rat) / 3]), ([(-6 : Rat) / 17], [(6 : Rat) / 17]), ([], [1]), ([(-10 : Rat) / 17, (-4 : Rat) / 17], [(4 : Rat) / 17]), ([(-10 : Rat) / 29, (-4 : Rat) / 29], [(4 : Rat) / 29]), ([(-14 : Rat) / 39, (-4 : Rat) / 39], [(4 : Rat) / 39]), ([(-50 : Rat) / 109, (-20 : Rat) / 109, (-8 : Rat) / 109], [(8 : Rat) / 109])],
  [([(-1 : Rat) / 2], [0, (1 : Rat) / 2]), ([(-1 : Rat)], [1, 1]), ([(-9 : Rat) / 17], [(-3 : Rat) / 17, (9 : Rat) / 17]), ([(4 : Rat) / 17], [(-10 : Rat) / 17, (-4 : Rat) / 17]), ([(-1 : Rat) / 2], [0, (1 : Rat) / 4]), ([(-1 : Rat) / 3], [(1 : Rat) / 3]), ([(-2 : Rat) / 7, (1 : Rat) / 7], [(3 : Rat) / 7, (-1 : Rat) / 7]), ([(-1 : Rat), (-1 : Rat) / 2, (-1 : Rat) / 2], [(1 : Rat) / 2, (1 : Rat) / 2])],
  [([1], [0, (-1 : Rat)]), ([(1 : Rat) / 2], [(-1 : Rat) / 2, (-1 : Rat) / 2]), ([(9 : Rat) / 10], [(3 : Rat) / 10, (-9 : Rat) / 10]), ([(4 : Rat) / 29], [(-10 : Rat) / 29, (-4 : Rat) / 29]), ([(1 : Rat) / 3], [(-1 : Rat) / 3]), ([1], [0, (-1 : Rat) / 2]), ([1, 1], [0, (-1 : Rat)]), ([(1 : Rat) / 5, (2 : Rat) / 5, (-1 : Rat) / 5], [(-2 : Rat) / 5, (1 : Rat) / 5])],
  [([1], [(-1 : Rat), (-1 : Rat)]), ([(1 : Rat) / 3], [(-2 : Rat) / 3, (-1 : Rat) / 3]), ([(9 : Rat) / 7], [(-6 : Rat) / 7, (-9 : Rat) / 7]), ([(4 : Rat) / 39], [(-14 : Rat) / 39, (-4 : Rat) / 39]), ([(3 : Rat) / 7, (-1 : Rat) / 7], [(-2 : Rat) / 7, (1 : Rat) / 7]), ([0, (-1 : Rat)], [1, 1]), ([(4 : Rat) / 3], [(-1 : Rat) / 3, (-2 : Rat) / 3]), ([(-1 : Rat), 1], [(-1 : Rat)])],
  [([(-1 : Rat) / 2], [0, 0, (1 : Rat) / 2]), ([(-1 : Rat)], [1, 1, 1]), ([(-27 : Rat) / 55], [(3 : Rat) / 55, (-9 : Rat) / 55, (27 : Rat) / 55]), ([(8 : Rat) / 109], [(-50 : Rat) / 109, (-20 : Rat) / 109, (-8 : Rat) / 109]), ([(1 : Rat) / 2, (1 : Rat) / 2], [(-1 : Rat), (-1 : Rat) / 2, (-1 : Rat) / 2]), ([(-2 : Rat) / 5, (1 : Rat) / 5], [(1 : Rat) / 5, (2 : Rat) / 5, (-1 : Rat) / 5]), ([(-1 : Rat)], [(-1 : Rat), 1]), ([(-1 : Rat) / 2], [0, (1 : Rat) / 6])]]
def bzt (i j : Nat) : List Rat × List Rat := (bzs.getD i []).getD j ([], [])
theorem cop_of {u v A B : List Rat} (h : stripQ (padd (pmul u A) (pmul v B)) = [1]) : Cop A B := ⟨u, v, fun x => by
  rw [← ev_pmul, ← ev_pmul, ← ev_padd, ← ev_stripQ, h]
  show 1 + x * 0 = (1 : Rat)
  grind⟩
theorem bz_ok : ∀ i, i < 8 → ∀ j, j < 8 → stripQ (padd (pmul (bzt i j).1 (kn i)) (pmul (bzt i j).2 (if i = j then slp (kn i) else kn j))) = [1] := by decide +kernel
theorem kn_slp {i : Nat} (h : i < 8) : Cop (kn i) (slp (kn i)) := by
  have := bz_ok i h i h
  rw [if_pos rfl] at this
  exact cop_of this
theorem kn_cop {i j : Nat} (hi : i < 8) (hj : j < 8) (n : i ≠ j) : Cop (kn i) (kn j) := by
  have := bz_ok i hi j hj
  rw [if_neg n] at this
  exact cop_of this
/-- whole numbers over 1296, and their size -/
def okF (A : List Rat) : Bool := A.all fun q => decide ((q * 1296).den = 1) && decide ((q * 1296).num.natAbs ≤ 2 ^ 17)
/-- whole numbers over 6, and their size -/
def okG (A : List Rat) : Bool := A.all fun q => decide ((q * 6).den = 1) && decide ((q * 6).num.natAbs ≤ 2 ^ 5)
theorem kn_sg : ∀ i, i < 8 → okG (kn i) = true ∧ okG (slp (kn i)) = true ∧ (slp (kn i)).length ≤ 3 := by decide +kernel
theorem kn_sz : ∀ i, i < 8 → (kn i).length ≤ 4 ∧ 2 ≤ (kn i).length ∧ kn i ≠ [] ∧ cf (kn i) ((kn i).length - 1) = 1 ∧ ∀ n, n < 5 → okF (pw (kn i) n) = true := by decide +kernel
theorem okF_fr {A : List Rat} (h : okF A = true) (i : Nat) : Fr 1296 (2 ^ 17) (cf A i) := by
  by_cases hi : i < A.length
  · have z := List.all_eq_true.mp h (cf A i) (by rw [cf_lt hi]; exact List.getElem_mem hi)
    obtain ⟨z1, z2⟩ := Bool.and_eq_true_iff.mp z
    have z1 := of_decide_eq_true z1
    have z2 := of_decide_eq_true z2
    refine ⟨(cf A i * 1296).num, ?_, z2⟩
    have := num_denQ (cf A i * 1296)
    rw [z1] at this
    show cf A i * ((1296 : Nat) : Rat) = _
    have e : ((1296 : Nat) : Rat) = 1296 := by decide +kernel
    rw [e]
    rw [show ((1 : Nat) : Rat) = 1 from rfl, Rat.mul_one] at this
    exact this
  · rw [cf_ge (by omega)]
    exact Fr.zero _ _
theorem okG_fr {A : List Rat} (h : okG A = true) (i : Nat) : Fr 6 (2 ^ 5) (cf A i) := by
  by_cases hi : i < A.length
  · have z := List.all_eq_true.mp h (cf A i) (by rw [cf_lt hi]; exact List.getElem_mem hi)
    obtain ⟨z1, z2⟩ := Bool.and_eq_true_iff.mp z
    have z1 := of_decide_eq_true z1
    have z2 := of_decide_eq_true z2
    refine ⟨(cf A i * 6).num, ?_, z2⟩
    have := num_denQ (cf A i * 6)
    rw [z1] at this
    show cf A i * ((6 : Nat) : Rat) = _
    have e : ((6 : Nat) : Rat) = 6 := by decide +kernel
    rw [e]
    rw [show ((1 : Nat) : Rat) = 1 from rfl, Rat.mul_one] at this
    exact this
  · rw [cf_ge (by omega)]
    exact Fr.zero _ _
theorem kn_mo {i : Nat} (h : i < 8) : Mo (kn i) := ⟨(kn_sz i h).2.2.1, (kn_sz i h).2.2.2.1⟩
end Vf
set_option maxRecDepth 100000
set_option exponentiation.threshold 5000
namespace Vf
def tkr (l : List (Nat × Nat)) : List (List Rat × Nat) := l.map fun q => (kn q.1, q.2)
theorem tk_mos {l : List (Nat × Nat)} (h : ∀ q ∈ l, q.1 < 8) : Mos (tkr l) := fun q hq => by
  obtain ⟨p, hp, rfl⟩ := List.mem_map.mp hq
  exact kn_mo (h p hp)
theorem tk_fam : ∀ {l : List (Nat × Nat)}, (l.map Prod.fst).Nodup → (∀ q ∈ l, q.1 < 8) → Fam (tkr l)
  | [], _, _ => True.intro
  | (i, m) :: r, hn, hi => by
    rw [List.map_cons, List.nodup_cons] at hn
    obtain ⟨h1, h2⟩ := hn
    have h8 : i < 8 := hi (i, m) (List.mem_cons_self ..)
    refine ⟨kn_slp h8, fun q hq => ?_, tk_fam h2 fun q hq => hi q (List.mem_cons_of_mem _ hq)⟩
    obtain ⟨p, hp, rfl⟩ := List.mem_map.mp hq
    exact kn_cop h8 (hi p (List.mem_cons_of_mem _ hp)) fun e => h1 (by rw [e]; exact List.mem_map_of_mem hp)
theorem Fr.mulN {M N : Nat} {q : Rat} (h : Fr M N q) (k : Nat) : Fr (k * M) (k * N) q := by
  obtain ⟨z, e, b⟩ := h
  refine ⟨z * (k : Int), ?_, ?_⟩
  · rw [Rat.natCast_mul, Rat.intCast_mul, ← e]
    show q * ((k : Rat) * (M : Rat)) = q * (M : Rat) * (k : Rat)
    grind
  · rw [Int.natAbs_mul, Int.natAbs_natCast, Nat.mul_comm k]
    exact Nat.mul_le_mul_right k b
theorem pmul_le (A B : List Rat) : (pmul A B).length ≤ A.length + B.length - 1 := by unfold pmul; rw [tab_len]; exact Nat.le_refl _
theorem prR_le (k : Nat) : ∀ l : List (Nat × Nat), (∀ q ∈ l, q.1 < 8) → (prR (tkr l) k).length ≤ 3 * l.length + 1
  | [], _ => Nat.le_refl _
  | (i, m) :: r, h => by
    have ih := prR_le k r fun q hq => h q (List.mem_cons_of_mem _ hq)
    have z := (kn_sz i (h (i, m) (List.mem_cons_self ..))).1
    show (if k < m then pmul (kn i) (prR (tkr r) k) else prR (tkr r) k).length ≤ 3 * (r.length + 1) + 1
    split
    · have := pmul_le (kn i) (prR (tkr r) k)
      omega
    · omega
theorem fr_unit (i : Nat) : Fr 1 1 (cf [1] i) := by
  cases i with
  | zero => exact ⟨1, by decide +kernel, by decide⟩
  | succ i => rw [cf_ge (by show 1 ≤ i + 1; omega)]; exact Fr.zero _ _
theorem p6 (n : Nat) : 0 < 6 ^ n := Nat.pow_pos (by decide)
theorem szR (k : Nat) : ∀ l : List (Nat × Nat), (∀ q ∈ l, q.1 < 8) → l.length ≤ 3 → ∀ i, Fr (6 ^ l.length) (2 ^ (10 * l.length)) (cf (prR (tkr l) k) i)
  | [], _, _, i => by
    exact fr_unit i
  | (j, m) :: r, h, hl, i => by
    have h' := fun q hq => h q (List.mem_cons_of_mem (j, m) hq)
    have hl' : r.length + 1 ≤ 3 := hl
    have ih := szR k r h' (by omega)
    have h8 := h (j, m) (List.mem_cons_self ..)
    have z := (kn_sz j h8).1
    have lr := prR_le k r h'
    show Fr (6 ^ (r.length + 1)) (2 ^ (10 * (r.length + 1))) (cf (if k < m then pmul (kn j) (prR (tkr r) k) else prR (tkr r) k) i)
    rw [Nat.pow_succ', show 10 * (r.length + 1) = 5 + (5 + 10 * r.length) by omega, Nat.pow_add, Nat.pow_add 2 5]
    split
    · exact pmul_fr (okG_fr (kn_sg j h8).1) ih (by omega) i
    · refine ((ih i).mulN 6).le ?_
      rw [← Nat.mul_assoc]
      exact Nat.mul_le_mul_right _ (by decide)
theorem prS_le (k : Nat) : ∀ l : List (Nat × Nat), (∀ q ∈ l, q.1 < 8) → (prS (tkr l) k).length ≤ 3 * l.length + 1
  | [], _ => Nat.zero_le _
  | (i, m) :: r, h => by
    have h' := fun q hq => h q (List.mem_cons_of_mem (i, m) hq)
    have h8 := h (i, m) (List.mem_cons_self ..)
    have ih := prS_le k r h'
    have ir := prR_le k r h'
    have z := (kn_sz i h8).1
    have y := (kn_sg i h8).2.2
    show (if k < m then padd (pscale (pmul (slp (kn i)) (prR (tkr r) k)) ((m - k : Nat) : Rat)) (pmul (kn i) (prS (tkr r) k)) else prS (tkr r) k).length ≤ 3 * (r.length + 1) + 1
    split
    · have z1 := pmul_le (kn i) (prS (tkr r) k)
      have z2 := pmul_le (slp (kn i)) (prR (tkr r) k)
      rw [pad_len, psc_len]
      omega
    · omega
theorem Fr.sc {M N : Nat} {q : Rat} (h : Fr M N q) (k : Nat) : Fr M (k * N) (q * (k : Rat)) := by
  obtain ⟨z, e, b⟩ := h
  refine ⟨z * (k : Int), ?_, ?_⟩
  · rw [Rat.intCast_mul, ← e]
    show q * (k : Rat) * (M : Rat) = q * (M : Rat) * (k : Rat)
    grind
  · rw [Int.natAbs_mul, Int.natAbs_natCast, Nat.mul_comm k]
    exact Nat.mul_le_mul_right k b
theorem szS (k : Nat) : ∀ l : List (Nat × Nat), (∀ q ∈ l, q.1 < 8) → (∀ q ∈ l, q.2 ≤ 4) → l.length ≤ 3 → ∀ i, Fr (6 ^ l.length) (2 ^ (13 * l.length)) (cf (prS (tkr l) k) i)
  | [], _, _, _, i => by
    show Fr _ _ (cf [] i)
    rw [cf_nil]
    exact Fr.zero _ _
  | (j, m) :: r, h, h4, hl, i => by
    have h' := fun q hq => h q (List.mem_cons_of_mem (j, m) hq)
    have hl' : r.length + 1 ≤ 3 := hl
    have ih := szS k r h' (fun q hq => h4 q (List.mem_cons_of_mem _ hq)) (by omega)
    have ir := szR k r h' (by omega)
    have h8 := h (j, m) (List.mem_cons_self ..)
    have m4 : m ≤ 4 := h4 (j, m) (List.mem_cons_self ..)
    have z := (kn_sz j h8).1
    have y := (kn_sg j h8).2.2
    have lr := prR_le k r h'
    have ls := prS_le k r h'
    show Fr (6 ^ (r.length + 1)) (2 ^ (13 * (r.length + 1))) (cf (if k < m then padd (pscale (pmul (slp (kn j)) (prR (tkr r) k)) ((m - k : Nat) : Rat)) (pmul (kn j) (prS (tkr r) k)) else prS (tkr r) k) i)
    rw [Nat.pow_succ']
    have b1 : 2 ^ (10 * r.length) ≤ 2 ^ (13 * r.length) := Nat.pow_le_pow_right (by decide) (by omega)
    have e12 : 2 ^ (13 * (r.length + 1)) = 8192 * 2 ^ (13 * r.length) := by
      rw [show 13 * (r.length + 1) = 13 + 13 * r.length by omega, Nat.pow_add]
    rw [e12]
    split
    · rw [cf_padd, cf_psc]
      have f1 := (pmul_fr (okG_fr (kn_sg j h8).2.1) ir (by omega) i).sc (m - k)
      have f2 := pmul_fr (okG_fr (kn_sg j h8).1) ih (by omega) i
      refine (f1.add f2).le ?_
      have b2 : (m - k) * (32 * (2 ^ 5 * 2 ^ (10 * r.length))) ≤ 4 * (32 * (2 ^ 5 * 2 ^ (10 * r.length))) := Nat.mul_le_mul_right _ (by omega)
      generalize 2 ^ (10 * r.length) = x at *
      generalize 2 ^ (13 * r.length) = w at *
      omega
    · refine ((ih i).mulN 6).le ?_
      exact Nat.mul_le_mul_right _ (by decide)
theorem szE (k : Nat) : ∀ l : List (Nat × Nat), (∀ q ∈ l, q.1 < 8) → (∀ q ∈ l, q.2 ≤ 4) → dgs (tkr l) k ≤ 12 → ∀ i, Fr (1296 ^ l.length) (2 ^ (22 * l.length)) (cf (prE (tkr l) k) i)
  | [], _, _, _, i => by
    exact fr_unit i
  | (j, m) :: r, h, h4, hd, i => by
    have h' := fun q hq => h q (List.mem_cons_of_mem (j, m) hq)
    have h4' := fun q hq => h4 q (List.mem_cons_of_mem (j, m) hq)
    have hd' : (m - k) * ((kn j).length - 1) + dgs (tkr r) k ≤ 12 := hd
    have ih := szE k r h' h4' (by omega)
    have h8 := h (j, m) (List.mem_cons_self ..)
    have m4 : m ≤ 4 := h4 (j, m) (List.mem_cons_self ..)
    have lw := ((kn_mo h8).pw (m - k)).2
    have lE := (mo_E k (tk_mos h')).2
    dsimp only at lw
    show Fr (1296 ^ (r.length + 1)) (2 ^ (22 * (r.length + 1))) (cf (pmul (pw (kn j) (m - k)) (prE (tkr r) k)) i)
    rw [Nat.pow_succ', show 22 * (r.length + 1) = 5 + (17 + 22 * r.length) by omega, Nat.pow_add, Nat.pow_add 2 17]
    exact pmul_fr (okF_fr ((kn_sz j h8).2.2.2.2 (m - k) (by omega))) ih (by omega) i
/-- of how many degrees all of them are -/
def sdeg : List (Nat × Nat) → Nat
  | [] => 0
  | (i, _) :: r => (kn i).length - 1 + sdeg r
theorem kn7 : ∀ i, i < 8 → (kn i).length ≤ 4 ∧ (i = 7 ∨ (kn i).length ≤ 3) := by decide +kernel
theorem sd3 {i j k : Nat} (hi : i < 8) (hj : j < 8) (hk : k < 8) (h1 : i ≠ j) (h2 : i ≠ k) (h3 : j ≠ k) : (kn i).length - 1 + ((kn j).length - 1 + ((kn k).length - 1 + 0)) ≤ 7 := by
  have a := kn7 i hi
  have b := kn7 j hj
  have c := kn7 k hk
  omega
theorem sdeg7 {l : List (Nat × Nat)} (hn : (l.map Prod.fst).Nodup) (h8 : ∀ q ∈ l, q.1 < 8) (hl : l.length ≤ 3) : sdeg l ≤ 7 := by
  match l, hn, h8, hl with
  | [], _, _, _ => exact Nat.zero_le _
  | [(i, m)], _, h, _ =>
    have := (kn_sz i (h (i, m) (by simp))).1
    show (kn i).length - 1 + 0 ≤ 7
    omega
  | [(i, m), (j, n)], _, h, _ =>
    have := (kn_sz i (h (i, m) (by simp))).1
    have := (kn_sz j (h (j, n) (by simp))).1
    show (kn i).length - 1 + ((kn j).length - 1 + 0) ≤ 7
    omega
  | [(i, m), (j, n), (k, o)], hn, h, _ =>
    simp at hn
    exact sd3 (h (i, m) (by simp)) (h (j, n) (by simp)) (h (k, o) (by simp)) hn.1.1 hn.1.2 hn.2
  | _ :: _ :: _ :: _ :: _, _, _, hl => exact absurd hl (by simp only [List.length_cons]; omega)
theorem prR_sd (k : Nat) : ∀ l : List (Nat × Nat), (∀ q ∈ l, q.1 < 8) → (prR (tkr l) k).length ≤ sdeg l + 1
  | [], _ => Nat.le_refl _
  | (i, m) :: r, h => by
    have ih := prR_sd k r fun q hq => h q (List.mem_cons_of_mem _ hq)
    have z := (kn_sz i (h (i, m) (List.mem_cons_self ..))).2.1
    show (if k < m then pmul (kn i) (prR (tkr r) k) else prR (tkr r) k).length ≤ (kn i).length - 1 + sdeg r + 1
    split
    · have := pmul_le (kn i) (prR (tkr r) k)
      omega
    · omega
theorem prS_sd (k : Nat) : ∀ l : List (Nat × Nat), (∀ q ∈ l, q.1 < 8) → (prS (tkr l) k).length ≤ sdeg l + 1
  | [], _ => Nat.zero_le _
  | (i, m) :: r, h => by
    have h' := fun q hq => h q (List.mem_cons_of_mem (i, m) hq)
    have h8 := h (i, m) (List.mem_cons_self ..)
    have ih := prS_sd k r h'
    have ir := prR_sd k r h'
    have z := (kn_sz i h8).2.1
    have y : (slp (kn i)).length ≤ (kn i).length - 1 := by unfold slp; rw [tab_len]; exact Nat.le_refl _
    show (if k < m then padd (pscale (pmul (slp (kn i)) (prR (tkr r) k)) ((m - k : Nat) : Rat)) (pmul (kn i) (prS (tkr r) k)) else prS (tkr r) k).length ≤ (kn i).length - 1 + sdeg r + 1
    split
    · have z1 := pmul_le (kn i) (prS (tkr r) k)
      have z2 := pmul_le (slp (kn i)) (prR (tkr r) k)
      rw [pad_len, psc_len]
      omega
    · omega
end Vf
set_option maxRecDepth 100000
set_option exponentiation.threshold 5000
namespace Vf
theorem stp_psc {A : List Rat} {c : Rat} (hA : Stp A) (c0 : c ≠ 0) : Stp (pscale A c) := by
  intro r x e
  have nA : A ≠ [] := fun z => by rw [z] at e; simp [pscale] at e
  have hlen := congrArg List.length e
  rw [psc_len, List.length_append] at hlen
  simp only [List.length_cons, List.length_nil] at hlen
  have hx : cf (pscale A c) (A.length - 1) = x := by
    rw [e, cf_app, if_neg (by omega), show A.length - 1 - r.length = 0 by omega]
    rfl
  rw [cf_psc] at hx
  rw [← hx]
  exact fun z => (Rat.mul_eq_zero.mp z).elim (ne_last hA nA) c0
/-- whole numbers in its place -/
theorem int_row {A : List Rat} {M N : Nat} (hA : Stp A) (nA : A ≠ []) (m0 : 0 < M) (f : ∀ i, Fr M N (cf A i)) : ∃ t : List Int, Stp (qi t) ∧ t ≠ [] ∧ t.length = A.length ∧ (M : Rat) ≠ 0 ∧ (∀ i, (ci t i).natAbs ≤ N) ∧ ∀ x, ev (qi t) x = (M : Rat) * ev A x := by
  have MR : (M : Rat) ≠ 0 := by
    have : M ≠ 0 := by omega
    exact_mod_cast this
  obtain ⟨t, ht, bt⟩ := int_of (L := pscale A (M : Rat)) (N := N) fun i => by
    rw [cf_psc]
    obtain ⟨z, e, hz⟩ := f i
    rw [e]
    exact fr_int z hz
  have lt : t.length = A.length := by rw [← qi_len, ht, psc_len]
  refine ⟨t, by rw [ht]; exact stp_psc hA MR, fun z => nA (List.length_eq_zero_iff.mp (by rw [← lt, z]; rfl)), lt, MR, bt, fun x => by rw [ht, ev_pscale]; grind⟩
theorem slp_ne {A : List Rat} (h : Mo A) (hl : 1 < A.length) : stripQ (slp A) ≠ [] := fun z => by
  have e : cf (slp A) (A.length - 2) = ((A.length - 1 : Nat) : Rat) := by
    unfold slp
    rw [cf_tab, if_pos (by omega), show A.length - 2 + 1 = A.length - 1 by omega, h.t, Rat.one_mul]
  rw [← cf_stripQ, z, cf_nil] at e
  have : (0 : Nat) = A.length - 1 := by exact_mod_cast e
  omega
theorem gcd6 {l : List (Nat × Nat)} (hn : (l.map Prod.fst).Nodup) (h8 : ∀ q ∈ l, q.1 < 8) (h4 : ∀ q ∈ l, q.2 ≤ 4) (hl : l.length ≤ 3) {k : Nat} (hd : dgs (tkr l) k ≤ 12) (hd1 : dgs (tkr l) (k + 1) ≤ 12) (act : 1 < (prE (tkr l) k).length) :
    ∃ (X Y G : List Int) (k1 k2 : Rat), GdT X Y G ∧ X.length ≤ 13 ∧ Y.length ≤ 13 ∧ (∀ i, (ci X i).natAbs ≤ 2 ^ 1200) ∧ (∀ i, (ci Y i).natAbs ≤ 2 ^ 1200) ∧ (∀ i, (ci G i).natAbs ≤ 2 ^ 1200) ∧ k1 ≠ 0 ∧ k2 ≠ 0 ∧ (∀ x, ev (qi X) x = k1 * ev (prE (tkr l) k) x) ∧ (∀ x, ev (qi Y) x = k2 * ev (slp (prE (tkr l) k)) x) ∧ ∃ c : Rat, c ≠ 0 ∧ ∀ x, ev (qi G) x = c * ev (prE (tkr l) (k + 1)) x := by
  have hm := tk_mos h8
  have hf := tk_fam hn h8
  obtain ⟨mE, lE⟩ := mo_E k hm
  obtain ⟨mE', lE'⟩ := mo_E (k + 1) hm
  have mR := mo_R k hm
  have eR := fun x => prE_R x k (tkr l)
  have eS := fun x => prE_S x k (tkr l)
  have cRS := cop_RS k hf
  have sd := sdeg7 hn h8 hl
  have lR := prR_sd k l h8
  have lS := prS_sd k l h8
  have fE' := szE (k + 1) l h8 h4 hd1
  have fR := szR k l h8 hl
  have fS := szS k l h8 h4 hl
  generalize prE (tkr l) k = E at *
  generalize prE (tkr l) (k + 1) = E' at *
  generalize prR (tkr l) k = R at *
  generalize prS (tkr l) k = S at *
  have nB := slp_ne mE act
  have nS : stripQ S ≠ [] := fun z => nB (stp_nil (stripQ_stp _) fun x => by rw [ev_stripQ, eS, ev_nil' z, Rat.mul_zero])
  obtain ⟨pz, sz, nz, lz, z0, bz, ez⟩ := int_row mE'.s mE'.n (Nat.pow_pos (n := l.length) (show 0 < 1296 by decide)) fE'
  obtain ⟨o1, s1, n1, l1, c10, b1, e1⟩ := int_row mR.s mR.n (p6 l.length) fR
  obtain ⟨o2, s2, n2, l2, c20, b2, e2⟩ := int_row (stripQ_stp S) nS (p6 l.length) (fun i => by rw [cf_stripQ]; exact fS i)
  have e2 : ∀ x, ev (qi o2) x = ((6 ^ l.length : Nat) : Rat) * ev S x := fun x => by rw [e2, ev_stripQ]
  have lS' := stripQ_le S
  have up : ∀ {n a b : Nat}, n ≤ 2 ^ a → a ≤ b → n ≤ 2 ^ b := fun h1 h2 => Nat.le_trans h1 (Nat.pow_le_pow_right (by decide) h2)
  have PL : Pl6 pz o1 o2 (2 ^ 62) (2 ^ 70) := ⟨sz, s1, s2, nz, n1, n2, by omega, by omega, by omega, Nat.pow_pos (by decide), fun i => up (b1 i) (by omega), fun i => up (b2 i) (by omega), fun i => up (bz i) (by omega)⟩
  obtain ⟨X, kx, hX, kx0, eX, lX⟩ := prim_ex mE.s mE.n
  obtain ⟨Y, ky, hY, ky0, eY, lY⟩ := prim_ex (stripQ_stp (slp E)) nB
  have eY : ∀ x, ev (qi Y) x = ky * ev (slp E) x := fun x => by rw [eY, ev_stripQ]
  generalize ((1296 ^ l.length : Nat) : Rat) = cz at *
  generalize ((6 ^ l.length : Nat) : Rat) = c6 at *
  have inv : ∀ {k : Rat}, k ≠ 0 → k * (1 / k) = 1 := fun {k} h => by rw [Rat.div_def, Rat.one_mul]; exact Rat.mul_inv_cancel k h
  have c60 : cz * c6 ≠ 0 := fun z => (Rat.mul_eq_zero.mp z).elim z0 c10
  have ic := inv c60
  have nzr : ∀ {r : Rat}, r ≠ 0 → r * (1 / (cz * c6)) ≠ 0 := fun {r} h z => by
    rcases Rat.mul_eq_zero.mp z with y | y
    · exact h y
    · rw [y, Rat.mul_zero] at ic; exact absurd ic (by decide +kernel)
  obtain ⟨G, g1, g2, tw, s, hs⟩ := two_of6 PL (Nat.le_refl _) (Nat.le_refl _) hX hY (nzr kx0) (nzr ky0) (fun x => by
    unfold fab
    rw [eX, ez, e1, eR]
    grind) (fun x => by
    unfold fab
    rw [eY, ez, e2, eS]
    grind)
  have ls : (slp E).length = E.length - 1 := by unfold slp; rw [tab_len]
  have lsq := stripQ_le (slp E)
  refine ⟨X, Y, G, kx, ky, tw.g, by omega, by omega, tw.bx, tw.yb, tw.bg, kx0, ky0, eX, eY, ?_⟩
  have ix := inv kx0
  have iy := inv ky0
  obtain ⟨u, v, hb⟩ := cRS
  have eG : ∀ x, ev E' x = ev (qi G) x * ev (stripQ (padd (pscale (pmul u (qi g1)) (1 / kx)) (pscale (pmul v (qi g2)) (1 / ky)))) x := fun x => by
    rw [ev_stripQ, ev_padd, ev_pscale, ev_pscale, ev_pmul, ev_pmul]
    have h1 := hb x
    have h2 := tw.e1 x
    have h3 := tw.e2 x
    rw [eX, eR] at h2
    rw [eY, eS] at h3
    have h4 : ev E' x * ev R x = (1 / kx) * (ev (qi G) x * ev (qi g1) x) := by rw [← h2]; grind
    have h5 : ev E' x * ev S x = (1 / ky) * (ev (qi G) x * ev (qi g2) x) := by rw [← h3]; grind
    have h6 : ev E' x = ev u x * (ev E' x * ev R x) + ev v x * (ev E' x * ev S x) := by
      have : ev E' x = ev E' x * (ev u x * ev R x + ev v x * ev S x) := by rw [h1, Rat.mul_one]
      rw [this]
      grind
    rw [h6, h4, h5]
    grind
  generalize stripQ (padd (pscale (pmul u (qi g1)) (1 / kx)) (pscale (pmul v (qi g2)) (1 / ky))) = t at *
  have ht : t ≠ [] := fun z => mE'.n (stp_nil mE'.s fun x => by rw [eG, z]; exact Rat.mul_zero _)
  have lG : (qi G).length ≤ E'.length := by
    have := len_mul (Z := E') tw.g.pg.stp (stripQ_stp t) (qi_ne tw.g.pg.ne) (fun z => mE'.n (stp_nil mE'.s fun x => by rw [eG, ev_nil' z]; exact Rat.mul_zero _)) fun x => by rw [ev_stripQ]; exact eG x
    have hp := List.length_pos_iff.mpr (show stripQ t ≠ [] from fun z => mE'.n (stp_nil mE'.s fun x => by rw [eG, ev_nil' z]; exact Rat.mul_zero _))
    omega
  obtain ⟨c, hc⟩ := mul_const (V := qi G) (S := pscale s cz) mE'.s mE'.n (fun x => by rw [hs, ez, ev_pscale]; grind) lG
  have eGc : ∀ x, ev (qi G) x = c * ev E' x := fun x => by
    have := hc x
    rw [ev_pscale] at this
    rw [hs, ez, ← this]
    grind
  exact ⟨c, fun z => qi_ne tw.g.pg.ne (stp_nil tw.g.pg.stp fun x => by rw [eGc, z, Rat.zero_mul]), eGc⟩
end Vf
set_option maxRecDepth 100000
set_option maxHeartbeats 8000000
namespace Vf
open PySem PySem.Spec PyProof.Rows L2
def spSlope (K : PySem.W.Frag) (CP : Addr) : Sp := fun vs H Q _ => ∃ (a : Addr) (A : List Rat), vs = [.ref a] ∧ PolyQ K CP H a A ∧ A.length ≤ 13 ∧ (∀ i, Sr (cf A i)) ∧ ∀ (x : Addr) (H' : Hp), Same H H' → PolyQ K CP H' x (stripQ (pslope A)) → Q (.ref x) H'
abbrev sSlope : Stmt := inClass (topS 32) 12
section
variable {P : Program} {w : World} {K : PySem.W.Frag} {mg : Str → Option Value} {base : Heap} {CP CR CN : Addr}
theorem scSlope : FnScope ["self", "power"] ["self"] (defScope sSlope) := ⟨rfl, rfl, rfl, by decide +kernel, rfl, by decide +kernel, by decide +kernel⟩
theorem ok_slope {f : Addr} {fd : FuncData} (F : Fun K "slope" "Poly.slope" sSlope f fd) (T : Bk mg) (PM : PoM P w K mg base CP CR) (Gm : Dx P w K mg base "times" 4 ["one", "other"] (spTwo K CN (okLow gTimes))) : FnOk P w K mg base (L2.CX P w) 7 f fd ["self"] (spSlope K CP) := by
  refine F.okX scSlope (fun vs H Q E h => ?_) (fun cdv A0 outer s H vs Q E hr h => ?_)
  · obtain ⟨a, A, rfl, _⟩ := h
    rfl
  · obtain ⟨a, A, rfl, ⟨dx, t, as, h1, h2, h3⟩, lA, sA, q⟩ := h
    refine ⟨_, (pss_one (ps_ret (pe_make PM.mkI PM.okI (hr.mono (by decide)) rfl PM.C.m PM.bI .nil passL (pa_cons (pe_lc (own := [("power", 1)]) (g := gName 1) (tt := tYes) rfl scSlope.nd (pi_range2 (by rfl) T.range (pa_cons pe_int (pa_cons (pe_callB call_len_seq (by rfl) T.len (by decide +kernel) (pa_cons (pe_fld (pv 0) rfl) pa_nil)) pa_nil))) (blkOk_by (N := ["self", "power"]) (sc := defScope sSlope) (by decide +kernel)) (fun _ _ _ _ _ => pg_name (i := 1) scSlope.nd rfl (Or.inl rfl)) (fun _ _ _ _ _ => pts_nil)
      (fun _ _ _ _ _ => (pe_call Gm.ok (hr.mono (by decide)) rfl Gm.m Gm.kp Gm.b .nil passL (pa_cons (pe_ix (r := rIxT K) ix_tup (pe_fldK (K := K) rfl (pv 0) rfl) (pv 1) (fun _ _ => rfl)) (pa_cons (pv 1) pa_nil))))) pa_nil)))), ?_⟩
    have n1 := h3.lenQ
    refine ⟨_, rfl, a, CP, dx, _, .ref t, rfl, h1, PM.C.cl, PM.C.nf, (by kernel_rfl), t, _, rfl, .inr (SqT.of h2), ?_⟩
    rw [List.length_map, n1]
    refine ⟨_, _, rfl, ⟨by omega, by omega, by omega, by omega⟩, fun D hD => lc_range (lo := 1) (n := ((A.length : Nat) - 1 : Int).toNat) (fun i H' => Same H H' ∧ ∃ zs, H' D = some (.lst (zs.map V.ref)) ∧ Tups H' zs ((tab i fun j => cf A (j + 1) * ((j + 1 : Nat) : Rat)).map pq)) ⟨same_upd hD, [], upd_same, .nil⟩ ?_ ?_⟩
    · rintro i H' hi ⟨ss, zs, eD, tz⟩
      have hi : i + 1 < A.length := by omega
      obtain ⟨ra, g1, g2⟩ := h3.getQ hi
      have ga : (as.map V.ref)[i + 1]? = some (V.ref ra) := by rw [List.getElem?_map, g1]; rfl
      refine ⟨rfl, ?_⟩
      refine ⟨_, rfl, a, CP, dx, _, .ref t, rfl, ss _ _ h1, PM.C.cl, PM.C.nf, (by kernel_rfl), _, rfl, t, _, _, .ref ra, rfl, rfl, SqT.of (ss _ _ h2), at_of (j := i + 1) (by omega) ga, _, rfl, ?_⟩
      have e1 : (1 + (i : Int)) = ((i + 1 : Nat) : Int) := by omega
      rw [e1]
      refine ⟨_, _, pairD (pq (cf A (i + 1))), .int ((i + 1 : Nat) : Int), rfl, .tup (SqT.of (ss _ _ g2)) (.cons (.int _) (.cons (.int _) .nil)), .int _, fun t' b' x c h5 h6 => ?_, (fun z => by rw [parts_q] at z; cases z), (fun _ z => by cases z)⟩
      rw [parts_q] at h5
      cases h5
      cases h6
      have zz := sr_z2 (sA (i + 1))
      refine ⟨zz.1, zz.2, ?_, (by show (1 : Int).natAbs < 2 ^ 4300; decide +kernel), fun r' H'' s' er => ?_⟩
      · show (((i + 1 : Nat) : Int)).natAbs < 2 ^ 4300
        rw [Int.natAbs_natCast]
        exact Nat.lt_of_lt_of_le (show i + 1 < 2 ^ 10 by omega) (Nat.pow_le_pow_right (by decide) (by decide))
      have er : TR H'' r' (cf A (i + 1) * ((i + 1 : Nat) : Rat)) := by
        have d0 := (cf A (i + 1)).den_pos
        have z := low_mul (A := (cf A (i + 1)).num * ((i + 1 : Nat) : Int)) (M := ((cf A (i + 1)).den : Int) * 1) (q := cf A (i + 1) * ((i + 1 : Nat) : Rat)) (by omega) (by
          rw [Int.mul_one, Rat.intCast_mul]
          have e := num_den (cf A (i + 1))
          have e2 : (((cf A (i + 1)).den : Int) : Rat) = ((cf A (i + 1)).den : Rat) := by exact_mod_cast rfl
          have e3 : ((((i + 1 : Nat) : Int)) : Rat) = ((i + 1 : Nat) : Rat) := by exact_mod_cast rfl
          rw [← e, e2, e3]
          grind)
        unfold gTimes at er
        rw [z] at er
        exact er
      have eD' := s' _ _ eD
      refine ⟨_, eD', ?_, (fun b' o' e' => ?_), zs ++ [r'], ?_, ?_⟩
      · have := tz.lenQ
        rw [tab_len] at this
        rw [List.length_map, sizeLine_eq]
        omega
      · rw [upd_ne (ne_of_none e' hD)]
        exact s' _ _ (ss _ _ e')
      · rw [upd_same, List.map_append]
        rfl
      · rw [tab_snoc]
        have up : ∀ (c : Addr) (p : Int × Int), H'' c = some (.tup [.int p.1, .int p.2]) → upd H'' D (.lst (zs.map V.ref ++ [V.ref r'])) c = some (.tup [.int p.1, .int p.2]) := fun c p z => by
          rw [upd_ne (ne_of z eD' (by intro z; cases z))]
          exact z
        exact Tups.snocQ ((tz.same s').imp up) (up _ (pq _) er)
    · rintro H' ⟨ss, zs, eD, tz⟩
      rw [show ((A.length : Nat) - 1 : Int).toNat = A.length - 1 by omega] at tz
      refine poly_rl ⟨zs, eD, tz⟩ (by rw [tab_len]; omega) (fun qq hq => ?_) fun x H2 s2 nx made => q x H2 (ss.trans s2) made
      obtain ⟨j, rfl⟩ := mem_tab hq
      have f1 := Fr.self (cf A (j + 1))
      have f2 : Fr 1 (j + 1) ((j + 1 : Nat) : Rat) := ⟨((j + 1 : Nat) : Int), by rw [show ((1 : Nat) : Rat) = 1 from rfl, Rat.mul_one]; exact_mod_cast rfl, by rw [Int.natAbs_natCast]; exact Nat.le_refl _⟩
      have f3 := ((f1.mul f2).size (by have := (cf A (j + 1)).den_pos; omega)).2
      rw [Nat.mul_one] at f3
      exact Nat.lt_of_le_of_lt f3 (Nat.lt_trans (sA _).2 (Nat.pow_lt_pow_right (by decide) (by decide)))
end
end Vf
set_option maxRecDepth 100000
set_option maxHeartbeats 8000000
namespace Vf
open PySem PySem.Spec PyProof.Rows L2
/-- polynomials that stand in a list -/
structure Pls (K : PySem.W.Frag) (CP : Addr) (H : Hp) (xs : List Addr) (n : Nat) (A : Nat → List Rat) : Prop where
  l : xs.length = n
  p : ∀ k, k < n → ∃ x, xs[k]? = some x ∧ PolyQ K CP H x (A k)
theorem Pls.same {K : PySem.W.Frag} {CP : Addr} {H H' : Hp} {xs : List Addr} {n : Nat} {A : Nat → List Rat} (h : Pls K CP H xs n A) (s : Same H H') : Pls K CP H' xs n A := ⟨h.l, fun k hk => by
  obtain ⟨x, e, p⟩ := h.p k hk
  exact ⟨x, e, p.same s⟩⟩
theorem PolyQ.put {K : PySem.W.Frag} {CP : Addr} {H H' : Hp} {a b : Addr} {xs : List V} {A : List Rat} (hb : H b = some (.lst xs)) (k : ∀ c u, c ≠ b → H c = some u → H' c = some u) (h : PolyQ K CP H a A) : PolyQ K CP H' a A := PolyAt.imp h fun c o e t => k c o (fun z => by
  rw [z, hb] at e
  cases e
  rcases t with ⟨_, _, t⟩ | ⟨_, t⟩ <;> cases t) e
theorem Pls.snoc {K : PySem.W.Frag} {CP : Addr} {H : Hp} {xs : List Addr} {x : Addr} {n : Nat} {A : Nat → List Rat} (h : Pls K CP H xs n A) (hx : PolyQ K CP H x (A n)) : Pls K CP H (xs ++ [x]) (n + 1) A := ⟨by rw [List.length_append, h.l]; rfl, fun k hk => by
  by_cases hn : k < n
  · obtain ⟨y, e, p⟩ := h.p k hn
    exact ⟨y, by rw [List.getElem?_append_left (by rw [h.l]; exact hn)]; exact e, p⟩
  · have : k = n := by omega
    subst this
    exact ⟨x, by rw [List.getElem?_append_right (by rw [h.l]; exact Nat.le_refl _), h.l, Nat.sub_self]; rfl, hx⟩⟩
theorem Pls.put {K : PySem.W.Frag} {CP : Addr} {H H' : Hp} {b : Addr} {vs : List V} {xs : List Addr} {n : Nat} {A : Nat → List Rat} (hb : H b = some (.lst vs)) (k : ∀ c u, c ≠ b → H c = some u → H' c = some u) (h : Pls K CP H xs n A) : Pls K CP H' xs n A := ⟨h.l, fun j hj => by
  obtain ⟨x, e, p⟩ := h.p j hj
  exact ⟨x, e, p.put hb k⟩⟩
/-- what may be divided, and what comes -/
def QuOk (A B Q : List Rat) : Prop := ∃ M N M' N', Fb A M N ∧ Fb B M' N' ∧ N ≤ 2 ^ 1200 ∧ N' ≤ 2 ^ 1200 ∧ B ≠ [] ∧ DvOk A B M' N' ∧ ∀ Qq R, Qr A B Qq R → Qq = Q
def spQuots (K : PySem.W.Frag) (CP : Addr) : Sp := fun vs H W _ => ∃ (l : Addr) (xs : List Addr) (n : Nat) (A Q : Nat → List Rat), vs = [.ref l] ∧ H l = some (.lst (xs.map V.ref)) ∧ n ≤ 13 ∧ Pls K CP H xs (n + 1) A ∧ (∀ k, k < n → QuOk (A k) (A (k + 1)) (Q k)) ∧
  ∀ (l' : Addr) (ys : List Addr) (H' : Hp), Same H H' → H' l' = some (.lst (ys.map V.ref)) → Pls K CP H' ys n Q → W (.ref l') H'
section
variable {P : Program} {w : World} {K : PySem.W.Frag} {mg : Str → Option Value} {base : Heap} {CP CR CN : Addr}
abbrev sQuots : Stmt := topS 44
theorem scQuots : FnScope ["polys", "one", "other"] ["polys"] (defScope sQuots) := ⟨rfl, rfl, rfl, by decide +kernel, rfl, by decide +kernel, by decide +kernel⟩
theorem ok_quots {f : Addr} {fd : FuncData} (F : Fun K "quotients_of" "quotients_of" sQuots f fd) (T : Bk mg) (hzip : mg "zip" = none) (G_divided : Dx P w K mg base "divided" 8 ["one", "other"] (spDivd K CP CN)) (C : PoC K mg CP) : FnOk P w K mg base (L2.CX P w) 9 f fd ["polys"] (spQuots K CP) := by
  refine F.okX scQuots (fun vs H W E h => ?_) (fun cdv A0 outer s0 H vs W E hr h => ?_)
  · obtain ⟨l, xs, n, A, Q, rfl, _⟩ := h
    rfl
  · obtain ⟨l, xs, n, A, Q, rfl, el, n13, hA, hQ, q⟩ := h
    refine ⟨_, (pss_one (ps_ret (pe_lc (own := [("one", 1), ("other", 2)]) (g := (gTup K 2 (gCons (gName 1) (gCons (gName 2) gNil)))) (tt := tYes) rfl scQuots.nd (pi_zipB (by rfl) hzip (pa_cons (pv 0) (pa_cons (pe_slice sl_list (pv 0) (po_some pe_int) po_none) pa_nil))) (blkOk_by (N := ["polys", "one", "other"]) (sc := defScope sQuots) (by decide +kernel)) (fun _ _ _ _ _ => pg_tup rfl (pgs_cons (pg_name (i := 1) scQuots.nd rfl (Or.inl rfl)) (pgs_cons (pg_name (i := 2) scQuots.nd rfl (Or.inl rfl)) pgs_nil))) (fun _ _ _ _ _ => pts_nil) (fun _ _ _ _ _ => (pe_ix (r := rIxT K) ix_tup (pe_call G_divided.ok (hr.mono (by decide)) rfl G_divided.m G_divided.kp G_divided.b .nil passL (pa_cons (pv 1) (pa_cons (pv 2) pa_nil))) pe_int (fun _ _ => rfl)))))), ?_⟩
    refine ⟨_, rfl, _, rfl, _, rfl, ?_⟩
    refine ⟨l, _, rfl, SqL.of el, fun S nS => ?_⟩
    rw [cut1]
    have eS : upd H S (HO.lst ((xs.map V.ref).drop 1)) S = some (HO.lst ((xs.map V.ref).drop 1)) := upd_same
    have s1 : Same H (upd H S (HO.lst ((xs.map V.ref).drop 1))) := same_upd nS
    generalize upd H S (HO.lst ((xs.map V.ref).drop 1)) = H1 at eS s1 ⊢
    have el1 := s1 _ _ el
    have lx := hA.l
    have hA1 := hA.same s1
    refine ⟨true, true, l, S, xs.map V.ref, (xs.map V.ref).drop 1, rfl, SqL.of el1, SqL.of eS, fun D nD => lc_zipM n (by rw [List.length_drop, List.length_map]; omega) (fun i H2 => Same H1 H2 ∧ ∃ ys : List Addr, H2 D = some (.lst (ys.map V.ref)) ∧ Pls K CP H2 ys i Q) ⟨same_upd nD, [], upd_same, ⟨rfl, fun k hk => absurd hk (by omega)⟩⟩ (fun i H2 ⟨s2, _⟩ => ⟨SqL.of (s2 _ _ el1), SqL.of (s2 _ _ eS)⟩) ?_ ?_⟩
    · intro i x y U H2 hi hx hy ⟨s2, ys, e2, hp⟩ nU
      obtain ⟨xa, ga, pa⟩ := hA1.p i (by omega)
      obtain ⟨xb, gb, pb⟩ := hA1.p (i + 1) (by omega)
      rw [List.getElem?_map, ga] at hx
      cases hx
      rw [List.getElem?_drop, List.getElem?_map, Nat.add_comm 1 i, gb] at hy
      cases hy
      have sU : Same H2 (upd H2 U (.tup [.ref xa, .ref xb])) := same_upd nU
      refine ⟨U, _, rfl, SqT.of upd_same, rfl, _, _, rfl, _, _, rfl, rfl, rfl, ?_⟩
      obtain ⟨M, N, M', N', fA, fB, n1, n2, nB, ok, uq⟩ := hQ i hi
      refine ⟨_, rfl, _, rfl, xa, xb, A i, A (i + 1), M, N, M', N', rfl, (pa.same s2).same sU, (pb.same s2).same sU, fA, fB, n1, n2, fun z => absurd z nB, fun _ => ⟨ok, fun t x y Qq R H4 s4 et px py qr => ?_⟩⟩
      rw [uq Qq R qr] at px
      refine ⟨t, _, _, .ref x, rfl, rfl, SqT.of et, at_of (j := 0) rfl rfl, ?_⟩
      have s24 := sU.trans s4
      have e4 := s24 _ _ e2
      refine ⟨_, e4, (by rw [List.length_map, hp.l, sizeLine_eq]; omega), fun b' o' e' => ?_, ys ++ [x], ?_, ((hp.same s24).snoc px).put e4 upd_away⟩
      · rw [upd_ne (ne_of_none e' nD)]
        exact s24 _ _ (s2 _ _ e')
      · show upd _ D _ D = _
        rw [upd_same, List.map_append]
        rfl
    · intro H2 ⟨s2, ys, e2, hp⟩
      exact q D ys H2 (s1.trans s2) e2 hp
end
end Vf
set_option maxRecDepth 100000
set_option maxHeartbeats 8000000
namespace Vf
open PySem PySem.Spec PyProof.Rows L2
structure MeX (P : Program) (w : World) (K : PySem.W.Frag) (mg : Str → Option Value) (base : Heap) (CP : Addr) (x : Str) (k : Nat) (ps : List Str) (sp : Sp) where
  f : Addr
  fd : FuncData
  m : Meth K CP x f
  b : Binds K fd ps []
  ok : FnOk P w K mg base (L2.CX P w) k f fd ps sp
/-- the next one of the rows -/
def CmOk (A D : List Rat) : Prop := 1 < A.length ∧ A.length ≤ 13 ∧ (∀ i, Sr (cf A i)) ∧ ∃ M N M' N', Fb A M N ∧ Fb (stripQ (pslope A)) M' N' ∧ Cm A (stripQ (pslope A)) D
def spSP (K : PySem.W.Frag) (CP : Addr) : Sp := fun vs H W _ => ∃ (a : Addr) (A : List Rat) (M N n : Nat) (F L S : Nat → List Rat), vs = [.ref a] ∧ PolyQ K CP H a A ∧ Fb A M N ∧ mon A = F 0 ∧ n ≤ 12 ∧ (∀ k, k < n → CmOk (F k) (F (k + 1))) ∧ (F n).length ≤ 1 ∧
  (∀ k, k < n → QuOk (F k) (F (k + 1)) (L k)) ∧ L n = [1] ∧ (∀ k, k < n → QuOk (L k) (L (k + 1)) (S k)) ∧
  ∀ (t : Addr) (ys : List Addr) (H' : Hp), Same H H' → H' t = some (.tup (ys.map V.ref)) → Pls K CP H' ys n S → W (.ref t) H'
section
variable {P : Program} {w : World} {K : PySem.W.Frag} {mg : Str → Option Value} {base : Heap} {CP CR CN : Addr}
abbrev sSP : Stmt := topS 45
theorem scSP : FnScope ["poly", "fewer", "left"] ["poly"] (defScope sSP) := ⟨rfl, rfl, rfl, by decide +kernel, rfl, by decide +kernel, by decide +kernel⟩
theorem ok_sp {f : Addr} {fd : FuncData} (F : Fun K "simple_parts" "simple_parts" sSP f fd) (T : Bk mg) (PM : PoM P w K mg base CP CR) (M_slope : MeX P w K mg base CP "slope" 7 ["self"] (spSlope K CP)) (G_plain_of : Dx P w K mg base "plain_of" 8 ["poly"] (spPlainOf K CP)) (G_common : Dx P w K mg base "common" 9 ["one", "other"] (spCommonP K CP)) (G_quotients_of : Dx P w K mg base "quotients_of" 9 ["polys"] (spQuots K CP)) : FnOk P w K mg base (L2.CX P w) 10 f fd ["poly"] (spSP K CP) := by
  refine F.okX scSP (fun vs H W E h => ?_) (fun cdv A0 outer s0 H vs W E hr h => ?_)
  · obtain ⟨a, A, M, N, n, F, L, S, rfl, _⟩ := h
    rfl
  · obtain ⟨a, A, M, N, n, F, L, S, rfl, pA, fA, e0, n12, hF, lF, hL, eL, hS, q⟩ := h
    refine ⟨_, (pss_cons (ps_set (i := 1) scSP.nd rfl (Or.inl rfl) (pe_lst (pa_cons (pe_call G_plain_of.ok (hr.mono (by decide)) rfl G_plain_of.m G_plain_of.kp G_plain_of.b .nil passL (pa_cons (pv 0) pa_nil)) pa_nil)))
  (pss_cons (ps_while (passes_of rfl) (pt_cmpR op_gt (pe_callB call_len_seq (by rfl) T.len (by decide +kernel) (pa_cons (pe_fld (pe_ix ix_list (pv 1) (pe_un un_neg pe_int) (fun _ _ => rfl)) rfl) pa_nil)) pe_int (nomark _))
    (pss_one (ps_expr (pe_bm PySem.F.plainAttrs_list PySem.F.slot_list_append PySem.F.type_list_append mt_append (pv 1) (pa_cons (pe_call G_common.ok (hr.mono (by decide)) rfl G_common.m G_common.kp G_common.b .nil passL (pa_cons (pe_ix ix_list (pv 1) (pe_un un_neg pe_int) (fun _ _ => rfl)) (pa_cons (pe_meth0 (pe_ix ix_list (pv 1) (pe_un un_neg pe_int) (fun _ _ => rfl)) PM.C.cl M_slope.m M_slope.ok (hr.mono (by decide)) M_slope.b .nil passL) pa_nil))) pa_nil)))))
  (pss_cons (ps_set (i := 2) scSP.nd rfl (Or.inl rfl) (pe_op op_cat (pe_call G_quotients_of.ok (hr.mono (by decide)) rfl G_quotients_of.m G_quotients_of.kp G_quotients_of.b .nil passL (pa_cons (pv 1) pa_nil)) (pe_lst (pa_cons (pe_make PM.mkI PM.okI (hr.mono (by decide)) rfl PM.C.m PM.bI .nil passL (pa_cons (pe_tup (pa_cons pe_int pa_nil)) pa_nil)) pa_nil))))
  (pss_one (ps_ret (pe_callTy call_tuple_of (by rfl) T.tuple (by decide +kernel) (pa_cons (pe_call G_quotients_of.ok (hr.mono (by decide)) rfl G_quotients_of.m G_quotients_of.kp G_quotients_of.b .nil passL (pa_cons (pv 2) pa_nil)) pa_nil))))))), ?_⟩
    refine ⟨_, rfl, a, A, M, N, rfl, pA, fA, fun x0 H1 s1 p0 => ?_⟩
    rw [e0] at p0
    refine ⟨(by show 1 ≤ sizeLine; decide), fun D nD => ?_⟩
    have eD : upd H1 D (HO.lst [V.ref x0]) D = some (HO.lst (([x0] : List Addr).map V.ref)) := upd_same
    have s2 : Same H1 (upd H1 D (HO.lst [V.ref x0])) := same_upd nD
    generalize upd H1 D (HO.lst [V.ref x0]) = H2 at eD s2 ⊢
    refine ⟨fun m σ H' => ∃ (k : Nat) (xs : List Addr), m = n - k ∧ k ≤ n ∧ σ = [some (.ref a), some (.ref D), none] ∧ Same H1 H' ∧ H' D = some (.lst (xs.map V.ref)) ∧ Pls K CP H' xs (k + 1) F, ⟨n, 0, [x0], rfl, Nat.zero_le _, rfl, s2, eD, ⟨rfl, fun k hk => ⟨x0, by rw [show k = 0 by omega]; rfl, by rw [show k = 0 by omega]; exact p0.same s2⟩⟩⟩, ?_⟩
    rintro m σ H3 ⟨k, xs, rfl, hk, rfl, s3, e3, p3⟩
    obtain ⟨x, gx, px⟩ := p3.p k (by omega)
    have lx := p3.l
    have last : atI (xs.map V.ref) (-1) = some (V.ref x) := at_neg (n := k) (by decide) (by rw [List.getElem?_map, gx]; rfl) (by rw [List.length_map]; omega)
    have px' := px
    obtain ⟨dx, tx, as, hx1, hx2, hx3⟩ := px'
    have las := hx3.lenQ
    refine ⟨_, rfl, _, rfl, D, _, _, .ref x, rfl, rfl, SqL.of e3, last, x, CP, dx, _, .ref tx, rfl, hx1, PM.C.cl, PM.C.nf, (by kernel_rfl), tx, _, rfl, .inr (SqT.of hx2), _, _, rfl, rfl, ?_⟩
    by_cases lk : k < n
    · obtain ⟨l1, l13, sr, M1, N1, M2, N2, f1, f2, cm⟩ := hF k lk
      refine ⟨true, congrArg V.bl (decide_eq_true (by rw [List.length_map, las]; omega)), ?_⟩
      refine iteT ?_
      refine ⟨fun σ' H' => ∃ xs' : List Addr, σ' = [some (.ref a), some (.ref D), none] ∧ Same H1 H' ∧ H' D = some (.lst (xs'.map V.ref)) ∧ Pls K CP H' xs' (k + 1 + 1) F, fun σ' H' ⟨xs', h1, h2, h3, h4⟩ => ⟨n - (k + 1), by omega, k + 1, xs', rfl, by omega, h1, h2, h3, h4⟩, ?_⟩
      refine ⟨_, rfl, .inl ⟨rfl, _, SqL.of e3⟩, _, rfl, _, rfl, D, _, _, .ref x, rfl, rfl, SqL.of e3, last, _, rfl, _, rfl, D, _, _, .ref x, rfl, rfl, SqL.of e3, last, x, dx, _, rfl, hx1, (by kernel_rfl), x, F k, rfl, px, l13, sr, fun y H4 s4 py => ?_⟩
      refine ⟨x, y, F k, stripQ (pslope (F k)), F (k + 1), M1, N1, M2, N2, rfl, px.same s4, py, f1, f2, cm, fun z H5 s5 pz => ?_⟩
      have s35 := s4.trans s5
      have e5 := s35 _ _ e3
      refine ⟨D, _, _, rfl, rfl, e5, by rw [List.length_map, sizeLine_eq]; omega, xs ++ [z], rfl, fun b o e => ?_, ?_, ((p3.same s35).snoc pz).put e5 upd_away⟩
      · rw [upd_ne (ne_of_none e nD)]
        exact s35 _ _ (s3 _ _ e)
      · rw [upd_same, List.map_append]
        rfl
    · have kn : k = n := by omega
      subst kn
      refine ⟨false, congrArg V.bl (decide_eq_false (by rw [List.length_map, las]; omega)), ?_⟩
      refine iteF ?_
      refine ⟨_, rfl, D, xs, k, F, L, rfl, e3, by omega, p3, hL, fun lq ys H4 s4 e4 p4 => ?_⟩
      refine ⟨(by show 1 ≤ sizeLine; decide), fun t1 nt1 => ?_⟩
      have et1 : upd H4 t1 (HO.tup [V.int 1]) t1 = some (HO.tup [V.int 1]) := upd_same
      have s5 : Same H4 (upd H4 t1 (HO.tup [V.int 1])) := same_upd nt1
      generalize upd H4 t1 (HO.tup [V.int 1]) = H5 at et1 s5 ⊢
      have d1 : Dt K H5 (.ref t1) (.tuple [.int 1]) := .tup (SqT.of et1) (.cons (.int 1) .nil)
      have hrow : rowD (.tuple [.int 1]) = some [(1, 1)] := rfl
      have hst : strip ([((1 : Int), (1 : Int))].map lowP) = ([1] : List Rat).map pq := by decide +kernel
      refine poly_made d1 (fun ds h => by cases h; decide) (fun ps' h => ?_) (fun z => by rw [hrow] at z; cases z)
      rw [hrow] at h
      cases h
      refine ⟨fun q hq => by rw [List.mem_singleton.mp hq]; exact Nat.one_lt_pow (by decide) (by decide), fun xf H6 s6 nxf made => ?_⟩
      rw [hst] at made
      have pF : PolyQ K CP H6 xf [1] := made
      refine ⟨(by show 1 ≤ sizeLine; decide), fun l1 nl1 => ?_⟩
      have el1 : upd H6 l1 (HO.lst [V.ref xf]) l1 = some (HO.lst [V.ref xf]) := upd_same
      have s7 : Same H6 (upd H6 l1 (HO.lst [V.ref xf])) := same_upd nl1
      generalize upd H6 l1 (HO.lst [V.ref xf]) = H7 at el1 s7 ⊢
      have s47 := s5.trans (s6.trans s7)
      refine ⟨lq, l1, _, _, rfl, rfl, s47 _ _ e4, el1, ?_, fun l8 nl8 => ?_⟩
      · rw [List.length_map, p4.l, sizeLine_eq]
        show k + 1 ≤ _
        omega
      have el8 : upd H7 l8 (HO.lst (ys.map V.ref ++ [V.ref xf])) l8 = some (HO.lst ((ys ++ [xf]).map V.ref)) := by rw [upd_same, List.map_append]; rfl
      have s8 : Same H7 (upd H7 l8 (HO.lst (ys.map V.ref ++ [V.ref xf]))) := same_upd nl8
      generalize upd H7 l8 (HO.lst (ys.map V.ref ++ [V.ref xf])) = H8 at el8 s8 ⊢
      have s48 := s47.trans s8
      have p8 : Pls K CP H8 (ys ++ [xf]) (k + 1) L := (p4.same s48).snoc (by rw [eL]; exact (pF.same s7).same s8)
      refine ⟨_, rfl, l8, ys ++ [xf], k, L, S, rfl, el8, by omega, p8, hS, fun lz zs H9 s9 e9 p9 => ?_⟩
      refine ⟨lz, _, rfl, .inl ⟨SqL.of e9, fun t nt => ?_⟩⟩
      have st : Same H9 (upd H9 t (HO.tup (zs.map V.ref))) := same_upd nt
      exact q t zs _ (s1.trans (s3.trans (s4.trans (s48.trans (s9.trans st))))) upd_same (p9.same st)
end
end Vf
set_option maxRecDepth 100000
set_option maxHeartbeats 8000000
namespace Vf
open PySem PySem.Spec PyProof.Rows L2
abbrev sFar : Stmt := topS 58
section
variable {P : Program} {w : World} {K : PySem.W.Frag} {mg : Str → Option Value} {base : Heap}
theorem scFar : FnScope ["_law_pen_here", "_law_found", "_law_k"] ["_law_pen_here"] (defScope sFar) := ⟨rfl, rfl, rfl, by decide +kernel, rfl, by decide +kernel, by decide +kernel⟩
theorem pow1000 {z d : Int} {j : Nat} (h0 : 0 ≤ z) (h1 : z < 1000 ^ j) (d0 : 0 ≤ d) (d1 : d < 1000) : 0 ≤ z * 1000 + d ∧ z * 1000 + d < 1000 ^ (j + 1) := by
  refine ⟨by omega, ?_⟩
  rw [Int.pow_succ]
  omega
theorem pow_le18 {z : Int} {j : Nat} (hj : j ≤ 6) (h1 : z < 1000 ^ j) : z < 1000000000000000000 := by
  have hk : j = 0 ∨ j = 1 ∨ j = 2 ∨ j = 3 ∨ j = 4 ∨ j = 5 ∨ j = 6 := by omega
  rcases hk with h | h | h | h | h | h | h <;> rw [h] at h1 <;> omega
theorem ok_far {f : Addr} {fd : FuncData} (F : Fun K "_law_far" "_law_far" sFar f fd) (T : Bi mg) (G_law_draw : Df P w K mg base "_law_draw" 1 ["_law_pen_here", "_law_many"] spDraw) (G_law_pick : Df P w K mg base "_law_pick" 2 ["_law_pen_here", "_law_some"] spPick) :
    FnOk P w K mg base CX0 3 f fd ["_law_pen_here"] spFar := by
  refine F.ok scFar (fun vs H Q E h => ?_) (fun cdv A outer s H vs Q E hr h => ?_)
  · obtain ⟨p, l, B, rfl, _⟩ := h
    rfl
  · obtain ⟨p, l, B, rfl, hP, hB, k⟩ := h
    have hr1 := hr.mono (by decide : 1 ≤ 2)
    refine ⟨_, (pss_cons (ps_set (i := 1) scFar.nd rfl (Or.inl rfl) pe_int)
      (pss_cons (ps_for PassesOwn.never rfl (pi_range1 (by rfl) T.range (pa_cons (pe_call G_law_pick.ok hr rfl G_law_pick.m G_law_pick.kp G_law_pick.b .nil pass0 (pa_cons (pv 0) (pa_cons (pe_lst (pa_cons pe_int (pa_cons pe_int (pa_cons pe_int (pa_cons pe_int (pa_cons pe_int pa_nil)))))) pa_nil))) pa_nil)) (pg_name (i := 2) scFar.nd rfl (Or.inl rfl))
        (pss_one (ps_set (i := 1) scFar.nd rfl (Or.inl rfl) (pe_op op_add (pe_op op_mul (pv 1) pe_int) (pe_call G_law_draw.ok hr1 rfl G_law_draw.m G_law_draw.kp G_law_draw.b .nil pass0 (pa_cons (pv 0) (pa_cons pe_int pa_nil)))))))
      (pss_one (ps_ret (pe_ifExp (pt_cmpR op_gt (pe_call G_law_draw.ok hr1 rfl G_law_draw.m G_law_draw.kp G_law_draw.b .nil pass0 (pa_cons (pv 0) (pa_cons pe_int pa_nil))) pe_int (nomark _)) (pv 1) (pe_un un_neg (pv 1))))))), ?_⟩
    refine ⟨_, rfl, (by decide), fun q nq => ?_⟩
    have hpq : q ≠ p := by
      obtain ⟨o, e⟩ := hP.there
      exact (ne_of_none e nq).symm
    refine ⟨p, l, q, B, _, rfl, hP.same (same_upd nq), by omega, upd_same, hpq, by decide, by decide, fun x H1 hx hP1 k1 => ?_⟩
    have kk1 : Kp p H H1 := (Kp.of (same_upd nq)).trans k1
    obtain ⟨j, rfl, hj⟩ : ∃ j : Nat, x = V.int j ∧ j ≤ 6 := by
      simp only [List.mem_cons, List.not_mem_nil, or_false] at hx
      rcases hx with h | h | h | h | h
      · exact ⟨0, h, by decide⟩
      · exact ⟨1, h, by decide⟩
      · exact ⟨1, h, by decide⟩
      · exact ⟨2, h, by decide⟩
      · exact ⟨6, h, by decide⟩
    refine ⟨_, rfl, by omega, by omega, for_range (lo := 0) (n := (j : Int).toNat) (fun i σ H2 => ∃ (z : Int) (v : Option V), σ = [some (.ref p), some (.int z), v] ∧ 0 ≤ z ∧ z < 1000 ^ i ∧ Pen H2 p l (B + 1 + i) ∧ Kp p H H2)
      ⟨0, none, rfl, by decide, by decide, hP1.more (by omega), kk1⟩ ?_ ?_⟩
    · rintro i σ H2 hi ⟨z, v, rfl, h0, h1, hP2, k2⟩
      have hi6 : i < 6 := by omega
      have hz := pow_le18 (by omega) h1
      refine ⟨_, rfl, _, _, rfl, rfl, .inl ⟨by omega, by omega⟩, _, rfl, p, l, _, _, rfl, hP2, by omega, by decide, by decide, fun d H3 d0 d1 hP3 k3 => ?_⟩
      obtain ⟨g1, g2⟩ := pow1000 h0 h1 d0 d1
      exact ⟨_, _, rfl, rfl, _, _, rfl, g1, g2, hP3.more (by omega), k2.trans k3⟩
    · rintro σ H2 ⟨z, v, rfl, h0, h1, hP2, k2⟩
      have hz := pow_le18 (by omega) h1
      refine ⟨_, rfl, p, l, _, _, rfl, hP2, by omega, by decide, by decide, fun d H3 d0 d1 hP3 k3 => ⟨_, _, rfl, rfl, _, rfl, ?_⟩⟩
      refine ite2 (fun _ => ?_) (fun _ => ?_)
      · exact ⟨_, rfl, k _ _ (by omega) hz (hP3.more (by omega)) (k2.trans k3)⟩
      · exact ⟨_, rfl, _, rfl, k _ _ (by omega) (by omega) (hP3.more (by omega)) (k2.trans k3)⟩
end
end Vf
set_option maxRecDepth 100000
set_option maxHeartbeats 8000000
namespace Vf
open PySem PySem.Spec PyProof.Rows L2
def spSomeR : Sp := fun vs H Q _ => ∃ (p lc : Addr) (B : Int), vs = [.ref p] ∧ Pen H p lc B ∧ B ≤ 1000000 ∧ ∀ (r : Addr) (q : Rat) (H' : Hp), Pen H' p lc (B + 16) → Kp p H H' → TR H' r q → q.num.natAbs ≤ 2 ^ 60 → q.den ≤ 2 ^ 60 → Q (.ref r) H'
section
variable {P : Program} {w : World} {K : PySem.W.Frag} {mg : Str → Option Value} {base : Heap} {CP CR CN : Addr}
abbrev sSomeR : Stmt := topS 59
theorem scSomeR : FnScope ["_law_pen_here"] ["_law_pen_here"] (defScope sSomeR) := ⟨rfl, rfl, rfl, by decide +kernel, rfl, by decide +kernel, by decide +kernel⟩
theorem ok_someR {f : Addr} {fd : FuncData} (F : Fun K "_law_some_ratio" "_law_some_ratio" sSomeR f fd) (T : Bk mg) (G__law_far : Df P w K mg base "_law_far" 3 ["_law_pen_here"] spFar) (G__law_q : Df P w K mg base "_law_q" 2 ["_law_top", "_law_bottom"] spQ) : FnOk P w K mg base CX0 4 f fd ["_law_pen_here"] spSomeR := by
  refine F.ok scSomeR (fun vs H W E h => ?_) (fun cdv A0 outer s0 H vs W E hr h => ?_)
  · obtain ⟨p, lc, B, rfl, _⟩ := h
    rfl
  · obtain ⟨p, lc, B, rfl, hP, hB, q⟩ := h
    refine ⟨_, (pss_one (ps_ret (pe_call G__law_q.ok (hr.mono (by decide)) rfl G__law_q.m G__law_q.kp G__law_q.b .nil pass0 (pa_cons (pe_call G__law_far.ok (hr.mono (by decide)) rfl G__law_far.m G__law_far.kp G__law_far.b .nil pass0 (pa_cons (pv 0) pa_nil)) (pa_cons (pe_op op_add pe_int (pe_callB call_abs (by rfl) T.abs (by decide +kernel) (pa_cons (pe_call G__law_far.ok (hr.mono (by decide)) rfl G__law_far.m G__law_far.kp G__law_far.b .nil pass0 (pa_cons (pv 0) pa_nil)) pa_nil))) pa_nil))))), ?_⟩
    refine ⟨_, rfl, p, lc, B, rfl, hP, by omega, fun x H1 x0 x1 hP1 k1 => ?_⟩
    refine ⟨_, rfl, p, lc, _, rfl, hP1, by omega, fun y H2 y0 y1 hP2 k2 => ?_⟩
    refine ⟨y, rfl, _, _, rfl, rfl, ?_⟩
    have lt : (2 : Nat) ^ 60 < 2 ^ big := Nat.pow_lt_pow_right (by decide) (by decide)
    have e60 : (2 : Nat) ^ 60 = 1152921504606846976 := by decide +kernel
    obtain ⟨m, hm⟩ : ∃ m : Int, (1 + if y < 0 then -y else y) = m := ⟨_, rfl⟩
    have m1 : 1 ≤ m ∧ m.natAbs ≤ 2 ^ 60 := by
      rw [← hm, e60]
      split <;> omega
    have b0 : m ≠ 0 := by omega
    dsimp only
    rw [hm]
    refine ⟨_, _, rfl, b0, Nat.lt_of_le_of_lt (show x.natAbs ≤ 2 ^ 60 by omega) lt, Nat.lt_of_le_of_lt m1.2 lt, fun r H3 s3 n3 e3 => ?_⟩
    obtain ⟨z1, z2⟩ := low_size (t := x) b0
    have mR : (m : Rat) ≠ 0 := by exact_mod_cast b0
    have el : low x m = pq ((x : Rat) / (m : Rat)) := low_mul b0 (Rat.div_mul_cancel mR)
    rw [el] at e3 z1 z2
    have x60 : x.natAbs ≤ 2 ^ 60 := by omega
    exact q r _ H3 ((hP2.same s3).more (by omega)) ((k1.trans k2).trans (Kp.of s3)) e3 (Nat.le_trans z1 x60) (Nat.le_trans (by have z2 : (((x : Rat) / (m : Rat)).den : Int).natAbs ≤ m.natAbs := z2; rw [Int.natAbs_natCast] at z2; exact z2) m1.2)
end
theorem tr_of {H : Hp} {t : Addr} {x y : Int} (e : H t = some (.tup [.int x, .int y])) {q : Rat} (h : q.num = x ∧ (q.den : Int) = y) : TR H t q := by
  unfold TR
  rw [e, h.1, h.2]
end Vf
set_option maxRecDepth 100000
set_option maxHeartbeats 8000000
namespace Vf
open PySem PySem.Spec PyProof.Rows L2
theorem mon_mo {A : List Rat} (h : Mo A) : mon A = A := by
  unfold mon
  rw [h.t, show (1 : Rat) / 1 = 1 by decide +kernel]
  refine stp_ext (stripQ_stp _) h.s fun i => ?_
  rw [cf_stripQ, cf_psc, Rat.mul_one]
theorem Fb.of_pr {l : List (Nat × Nat)} (h8 : ∀ q ∈ l, q.1 < 8) (h4 : ∀ q ∈ l, q.2 ≤ 4) (hl : l.length ≤ 3) {k : Nat} (hd : dgs (tkr l) k ≤ 12) : Fb (prE (tkr l) k) (1296 ^ l.length) (2 ^ (22 * l.length)) := by
  obtain ⟨h1, h2⟩ := mo_E k (tk_mos h8)
  refine ⟨h1.s, by omega, szE k l h8 h4 hd, Nat.pow_pos (by decide), ?_, Nat.pow_le_pow_right (by decide) (by omega)⟩
  refine Nat.le_trans (Nat.pow_le_pow_left (show 1296 ≤ 2 ^ 11 by decide) _) ?_
  rw [← Nat.pow_mul]
  exact Nat.pow_le_pow_right (by decide) (by omega)
theorem cm_ok {l : List (Nat × Nat)} (hn : (l.map Prod.fst).Nodup) (h8 : ∀ q ∈ l, q.1 < 8) (h4 : ∀ q ∈ l, q.2 ≤ 4) (hl : l.length ≤ 3) {k : Nat} (hd : dgs (tkr l) k ≤ 12) (hd1 : dgs (tkr l) (k + 1) ≤ 12) (act : 1 < (prE (tkr l) k).length) : CmOk (prE (tkr l) k) (prE (tkr l) (k + 1)) := by
  have hm := tk_mos h8
  obtain ⟨mE, lE⟩ := mo_E k hm
  obtain ⟨mE', lE'⟩ := mo_E (k + 1) hm
  have fb := Fb.of_pr h8 h4 hl hd
  obtain ⟨X, Y, G, k1, k2, gd, lX, lY, bX, bY, bG, n1, n2, e1, e2, c, c0, ec⟩ := gcd6 hn h8 h4 hl hd hd1 act
  have nS := slp_ne mE act
  have up : ∀ {n a b : Nat}, n ≤ 2 ^ a → a ≤ b → n ≤ 2 ^ b := fun h1 h2 => Nat.le_trans h1 (Nat.pow_le_pow_right (by decide) h2)
  refine ⟨act, by omega, fun i => (Hb.of (k := 100) (fb.f i) fb.m0 ?_ (Nat.pow_le_pow_right (by decide) (by omega))).sr (by decide), _, _, 1296 ^ l.length, 13 * 2 ^ (22 * l.length), fb, ⟨stripQ_stp _, ?_, fun i => ?_, fb.m0, fb.m, ?_⟩, ⟨fun z => absurd z mE.n, fun z => absurd z nS, fun _ _ => ⟨X, Y, G, k1, k2, ⟨gd, lX, lY, bX, bY, bG⟩, n1, n2, e1, fun x => by rw [ev_stripQ]; exact e2 x, ?_⟩⟩⟩
  · refine Nat.le_trans (Nat.pow_le_pow_left (show 1296 ≤ 2 ^ 11 by decide) _) ?_
    rw [← Nat.pow_mul]
    exact Nat.pow_le_pow_right (by decide) (by omega)
  · have z := stripQ_le (pslope (prE (tkr l) k))
    have y : (pslope (prE (tkr l) k)).length = (prE (tkr l) k).length - 1 := by unfold pslope; rw [tab_len]
    omega
  · rw [cf_stripQ]
    unfold pslope
    rw [cf_tab]
    split
    · rename_i hi
      have := (fb.f (i + 1)).sc (i + 1)
      exact this.le (Nat.mul_le_mul_right _ (by omega))
    · exact Fr.zero _ _
  · have := Nat.mul_le_mul (show 13 ≤ 2 ^ 4 by decide) (Nat.le_refl (2 ^ (22 * l.length)))
    rw [← Nat.pow_add] at this
    exact Nat.le_trans this (Nat.pow_le_pow_right (by decide) (by omega))
  · rw [← mon_mo mE']
    exact (mon_scale mE'.s gd.pg.stp c0 ec).symm
theorem div_uniq {A B Q1 R1 Q2 R2 : List Rat} (hB : Stp B) (nB : B ≠ []) (q1 : Stp Q1) (q2 : Stp Q2) (r1 : Stp R1) (r2 : Stp R2) (l1 : R1.length < B.length) (l2 : R2.length < B.length) (e1 : ∀ x, ev A x = ev Q1 x * ev B x + ev R1 x) (e2 : ∀ x, ev A x = ev Q2 x * ev B x + ev R2 x) : Q1 = Q2 ∧ R1 = R2 := by
  have hz : ∀ x, ev (padd Q1 (pscale Q2 (-1))) x = 0 := mul_small (A := B) (Z := padd R2 (pscale R1 (-1))) hB nB (fun x => by
    rw [ev_padd, ev_pscale, ev_padd, ev_pscale]
    have h1 := e1 x
    have h2 := e2 x
    grind) (by rw [pad_len, psc_len]; omega)
  have hq : Q1 = Q2 := stp_ext q1 q2 (cf_of fun x => by
    have := hz x
    rw [ev_padd, ev_pscale] at this
    grind)
  refine ⟨hq, stp_ext r1 r2 (cf_of fun x => ?_)⟩
  have h1 := e1 x
  have h2 := e2 x
  rw [hq] at h1
  grind
theorem fb_nil : Fb [] 1 1 := ⟨fun r x e => by simp at e, Nat.zero_le _, fun i => Fr.zero _ _, by decide, Nat.one_le_two_pow, Nat.one_le_two_pow⟩
theorem rest_nil {A B Q s R : List Rat} (hB : Stp B) (nB : B ≠ []) (h : Qr A B Q R) (hs : ∀ x, ev A x = ev B x * ev s x) : Q = stripQ s ∧ R = [] :=
  div_uniq hB nB h.sq (stripQ_stp s) h.sr fb_nil.s h.lr (List.length_pos_iff.mpr nB) h.e fun x => by
    rw [hs, ev_stripQ]
    show _ = _ + (0 : Rat)
    grind
theorem quo_of {A B s : List Rat} {M N M' N' : Nat} (fA : Fb A M N) (fB : Fb B M' N') (n : N ≤ 2 ^ 1200) (n' : N' ≤ 2 ^ 110) (nB : B ≠ []) (sS : Stp s) (h : ∀ x, ev A x = ev B x * ev s x) : QuOk A B s :=
  ⟨M, N, M', N', fA, fB, n, Nat.le_trans n' (Nat.pow_le_pow_right (by decide) (by decide)), nB, .inl n', fun Qq R qr => by
    have := (rest_nil fB.s nB qr h).1
    rw [stripQ_id sS] at this
    exact this⟩
theorem Fb.of_prR {l : List (Nat × Nat)} (hn : (l.map Prod.fst).Nodup) (h8 : ∀ q ∈ l, q.1 < 8) (hl : l.length ≤ 3) (k : Nat) : Fb (prR (tkr l) k) (6 ^ l.length) (2 ^ (10 * l.length)) := by
  have h1 := mo_R k (tk_mos h8)
  have h2 := prR_sd k l h8
  have h3 := sdeg7 hn h8 hl
  refine ⟨h1.s, by omega, szR k l h8 hl, Nat.pow_pos (by decide), ?_, Nat.pow_le_pow_right (by decide) (by omega)⟩
  refine Nat.le_trans (Nat.pow_le_pow_left (show 6 ≤ 2 ^ 3 by decide) _) ?_
  rw [← Nat.pow_mul]
  exact Nat.pow_le_pow_right (by decide) (by omega)
theorem dgs_le0 (k : Nat) : ∀ l : List (List Rat × Nat), dgs l k ≤ dgs l 0
  | [] => Nat.le_refl _
  | (g, m) :: r => by
    have ih := dgs_le0 k r
    show (m - k) * (g.length - 1) + dgs r k ≤ (m - 0) * (g.length - 1) + dgs r 0
    have := Nat.mul_le_mul_right (g.length - 1) (show m - k ≤ m - 0 by omega)
    omega
theorem dgs_pos {k : Nat} : ∀ {l : List (Nat × Nat)}, (∀ q ∈ l, q.1 < 8) → (∃ q ∈ l, k < q.2) → 1 ≤ dgs (tkr l) k
  | [], _, h => by
    obtain ⟨q, hq, _⟩ := h
    cases hq
  | (i, m) :: r, h8, h => by
    show 1 ≤ (m - k) * ((kn i).length - 1) + dgs (tkr r) k
    obtain ⟨q, hq, hk⟩ := h
    rcases List.mem_cons.mp hq with z | z
    · rw [z] at hk
      have hk : k < m := hk
      have z2 := (kn_sz i (h8 (i, m) (List.mem_cons_self ..))).2.1
      have := Nat.mul_le_mul (show 1 ≤ m - k by omega) (show 1 ≤ (kn i).length - 1 by omega)
      omega
    · have := dgs_pos (fun q hq => h8 q (List.mem_cons_of_mem _ hq)) ⟨q, z, hk⟩
      omega
theorem dgs_zero {k : Nat} : ∀ {l : List (Nat × Nat)}, (∀ q ∈ l, q.2 ≤ k) → dgs (tkr l) k = 0
  | [], _ => rfl
  | (i, m) :: r, h => by
    show (m - k) * ((kn i).length - 1) + dgs (tkr r) k = 0
    have h1 : m ≤ k := h (i, m) (List.mem_cons_self ..)
    have h2 := dgs_zero (k := k) fun q hq => h q (List.mem_cons_of_mem _ hq)
    rw [h2, show m - k = 0 by omega, Nat.zero_mul]
/-- all that simple_parts asks -/
structure Due6 (l : List (Nat × Nat)) (n : Nat) : Prop where
  c : ∀ k, k < n → CmOk (prE (tkr l) k) (prE (tkr l) (k + 1))
  e : (prE (tkr l) n).length ≤ 1
  f : ∀ k, k < n → QuOk (prE (tkr l) k) (prE (tkr l) (k + 1)) (prR (tkr l) k)
  t : prR (tkr l) n = [1]
  r : ∀ k, k < n → QuOk (prR (tkr l) k) (prR (tkr l) (k + 1)) (prP (tkr l) k)
theorem due6 {l : List (Nat × Nat)} (hn : (l.map Prod.fst).Nodup) (h8 : ∀ q ∈ l, q.1 < 8) (h4 : ∀ q ∈ l, q.2 ≤ 4) (hl : l.length ≤ 3) (hd : dgs (tkr l) 0 ≤ 12) {n : Nat} (top : ∀ q ∈ l, q.2 ≤ n) (has : n = 0 ∨ ∃ q ∈ l, q.2 = n) : Due6 l n := by
  have hm := tk_mos h8
  have dk : ∀ k, dgs (tkr l) k ≤ 12 := fun k => Nat.le_trans (dgs_le0 k _) hd
  have act : ∀ k, k < n → 1 < (prE (tkr l) k).length := fun k hk => by
    have := (mo_E k hm).2
    have z := dgs_pos (k := k) h8 (by
      rcases has with y | ⟨q, hq, e⟩
      · omega
      · exact ⟨q, hq, by omega⟩)
    omega
  have mR := fun k => mo_R k hm
  have up : ∀ {a b : Nat}, a ≤ b → 2 ^ a ≤ 2 ^ b := fun h => Nat.pow_le_pow_right (by decide) h
  refine ⟨fun k hk => cm_ok hn h8 h4 hl (dk k) (dk (k + 1)) (act k hk), ?_, fun k hk => quo_of (Fb.of_pr h8 h4 hl (dk k)) (Fb.of_pr h8 h4 hl (dk (k + 1))) (up (by omega)) (up (by omega)) (mo_E (k + 1) hm).1.n (mR k).s fun x => prE_R x k _, ?_, fun k hk => quo_of (Fb.of_prR hn h8 hl k) (Fb.of_prR hn h8 hl (k + 1)) (up (by omega)) (up (by omega)) (mR (k + 1)).n (mo_P k hm).s fun x => prR_P x k _⟩
  · rw [(mo_E n hm).2, dgs_zero top]
    exact Nat.le_refl _
  · exact prR_top n fun q hq => by
      obtain ⟨p, hp, rfl⟩ := List.mem_map.mp hq
      exact top p hp
theorem RL.put {H H' : Hp} {b l : Addr} {xs : List V} {qs : List Rat} (hb : H b = some (.lst xs)) (k : ∀ c u, c ≠ b → H c = some u → H' c = some u) (n : l ≠ b) (h : RL H l qs) : RL H' l qs := by
  obtain ⟨as, e, t⟩ := h
  exact ⟨as, k _ _ n e, t.imp fun a p z => k _ _ (ne_of z hb (by intro z; cases z)) z⟩
theorem prP_le (k : Nat) : ∀ l : List (Nat × Nat), (∀ q ∈ l, q.1 < 8) → (prP (tkr l) k).length ≤ 3 * l.length + 1
  | [], _ => Nat.le_refl _
  | (i, m) :: r, h => by
    have ih := prP_le k r fun q hq => h q (List.mem_cons_of_mem _ hq)
    have z := (kn_sz i (h (i, m) (List.mem_cons_self ..))).1
    show (if m = k + 1 then pmul (kn i) (prP (tkr r) k) else prP (tkr r) k).length ≤ 3 * (r.length + 1) + 1
    split
    · have := pmul_le (kn i) (prP (tkr r) k)
      omega
    · omega
theorem szP (k : Nat) : ∀ l : List (Nat × Nat), (∀ q ∈ l, q.1 < 8) → l.length ≤ 3 → ∀ i, Fr (6 ^ l.length) (2 ^ (10 * l.length)) (cf (prP (tkr l) k) i)
  | [], _, _, i => by
    exact fr_unit i
  | (j, m) :: r, h, hl, i => by
    have h' := fun q hq => h q (List.mem_cons_of_mem (j, m) hq)
    have hl' : r.length + 1 ≤ 3 := hl
    have ih := szP k r h' (by omega)
    have h8 := h (j, m) (List.mem_cons_self ..)
    have z := (kn_sz j h8).1
    have lr := prP_le k r h'
    show Fr (6 ^ (r.length + 1)) (2 ^ (10 * (r.length + 1))) (cf (if m = k + 1 then pmul (kn j) (prP (tkr r) k) else prP (tkr r) k) i)
    rw [Nat.pow_succ', show 10 * (r.length + 1) = 5 + (5 + 10 * r.length) by omega, Nat.pow_add, Nat.pow_add 2 5]
    split
    · exact pmul_fr (okG_fr (kn_sg j h8).1) ih (by omega) i
    · refine ((ih i).mulN 6).le ?_
      rw [← Nat.mul_assoc]
      exact Nat.mul_le_mul_right _ (by decide)
/-- where the inner laps stand -/
structure Lap6 (rs : List Addr) (H' : Hp) (ll D wl : Addr) (c : Rat) (k : Nat) (idx : List Nat) (lf : List Addr) (l : List (Nat × Nat)) (ps : List Addr) (A : List Rat) : Prop where
  nd : idx.Nodup
  li : idx.length + k = 8
  fl : lf.length = idx.length
  fi : ∀ (j t : Nat), idx[j]? = some t → t < 8 ∧ t ∉ l.map Prod.fst ∧ ∃ r : Addr, lf[j]? = some r ∧ rs[t]? = some r
  tn : (l.map Prod.fst).Nodup
  t8 : ∀ q ∈ l, q.1 < 8 ∧ q.2 ≤ 4 ∧ 1 ≤ q.2
  tl : l.length ≤ k
  td : dgs (tkr l) 0 ≤ 12
  el : H' ll = some (.lst (lf.map V.ref))
  eD : H' D = some (.lst (ps.map V.ref))
  pl : ps.length = 5
  pr : ∀ m : Nat, 1 ≤ m → m ≤ 4 → ∃ z : Addr, ps[m]? = some z ∧ z ≠ D ∧ z ≠ ll ∧ RL H' z (prP (tkr l) (m - 1))
  wd : wl ≠ D
  wll : wl ≠ ll
  rw' : RL H' wl A
  sA : Stp A
  lA : A.length = dgs (tkr l) 0 + 1
  eA : ∀ x, ev A x = c * ev (prE (tkr l) 0) x
theorem erase_map {α β : Type} (f : α → β) : ∀ (l : List α) (i : Nat), (l.map f).eraseIdx i = (l.eraseIdx i).map f
  | [], _ => rfl
  | _ :: _, 0 => rfl
  | a :: l, i + 1 => congrArg (f a :: ·) (erase_map f l i)
/-- a place is taken out -/
theorem Lap6.pop {rs : List Addr} {H9 He : Hp} {ll D wl : Addr} {c : Rat} {k j ti : Nat} {idx : List Nat} {lf : List Addr} {l : List (Nat × Nat)} {ps : List Addr} {A : List Rat} (L : Lap6 rs H9 ll D wl c k idx lf l ps A) (hti : idx[j]? = some ti) (el : He ll = some (.lst ((lf.eraseIdx j).map V.ref))) (eD : He D = some (.lst (ps.map V.ref)))
    (kp : ∀ {z : Addr} {B : List Rat}, z ≠ ll → RL H9 z B → RL He z B) : Lap6 rs He ll D wl c (k + 1) (idx.eraseIdx j) (lf.eraseIdx j) l ps A ∧ ti ∉ idx.eraseIdx j := by
  have hj : j < idx.length := (List.getElem?_eq_some_iff.mp hti).1
  have fl := L.fl
  have li := L.li
  have nd := L.nd
  refine ⟨⟨nd.sublist (List.eraseIdx_sublist ..), ?_, ?_, fun q t hq => ?_, L.tn, L.t8, Nat.le_succ_of_le L.tl, L.td, el, eD, L.pl, fun m m1 m4 => ?_, L.wd, L.wll, kp L.wll L.rw', L.sA, L.lA, L.eA⟩, fun h => ?_⟩
  · rw [List.length_eraseIdx_of_lt hj]
    omega
  · rw [List.length_eraseIdx_of_lt hj, List.length_eraseIdx_of_lt (by omega), fl]
  · rw [List.getElem?_eraseIdx] at hq ⊢
    split at hq
    · rename_i h
      rw [if_pos h]
      exact L.fi q t hq
    · rename_i h
      rw [if_neg h]
      exact L.fi (q + 1) t hq
  · obtain ⟨z, e, z1, z2, z3⟩ := L.pr m m1 m4
    exact ⟨z, e, z1, z2, kp z2 z3⟩
  · obtain ⟨q, hq, e⟩ := List.mem_iff_getElem.mp h
    have e' : (idx.eraseIdx j)[q]? = some ti := by rw [List.getElem?_eq_getElem hq, e]
    rw [List.getElem?_eraseIdx] at e'
    have inj : ∀ a b, a < idx.length → idx[a]? = idx[b]? → a = b := fun a b ha hab => (List.getElem?_inj ha nd).mp hab
    split at e'
    · rename_i h2
      have := inj j q hj (by rw [hti, e'])
      omega
    · rename_i h2
      have := inj j (q + 1) hj (by rw [hti, e'])
      omega
theorem tnil_i {σ : L2.St} {H : Hp} {k : List V → Hp → Prop} (h : k [] H) : tNil σ H k := h
theorem szA {l : List (Nat × Nat)} {ti t : Nat} {c : Rat} {A' : List Rat} (h8 : ∀ q ∈ l, q.1 < 8) (h4 : ∀ q ∈ l, q.2 ≤ 4) (hd : dgs (tkr l) 0 ≤ 12) (hi : ti < 8) (ht : t < 5) (fc : Fr 7 21 c) (e : ∀ x, ev A' x = c * ev (prE (tkr l) 0) x * ev (pw (kn ti) t) x) (i : Nat) : Fr (1296 ^ l.length * 1296 * 7) (32 * (2 ^ (22 * l.length) * 2 ^ 17) * 21) (cf A' i) := by
  have h1 : cf A' i = cf (pscale (pmul (prE (tkr l) 0) (pw (kn ti) t)) c) i := cf_of (fun x => by rw [ev_pscale, ev_pmul, e]; grind) i
  rw [h1, cf_psc]
  have lE := (mo_E 0 (tk_mos h8)).2
  have lp := ((kn_mo hi).pw t).2
  have lk := (kn_sz ti hi).1
  have : t * ((kn ti).length - 1) ≤ 4 * 3 := Nat.mul_le_mul (by omega) (by omega)
  exact (pmul_fr (szE 0 l h8 h4 hd) (okF_fr ((kn_sz ti hi).2.2.2.2 t ht)) (by omega) i).mul fc
theorem szM : ∀ {n : Nat}, n ≤ 3 → 1296 ^ n * 1296 * 7 * 6 < 2 ^ 4300
  | 0, _ => by decide +kernel
  | 1, _ => by decide +kernel
  | 2, _ => by decide +kernel
  | 3, _ => by decide +kernel
  | n + 4, h => by omega
theorem szN : ∀ {n : Nat}, n ≤ 3 → 41 * (32 * (2 ^ (22 * n) * 2 ^ 17) * 21 * 2 ^ 5) < 2 ^ 4300
  | 0, _ => by decide +kernel
  | 1, _ => by decide +kernel
  | 2, _ => by decide +kernel
  | 3, _ => by decide +kernel
  | n + 4, h => by omega
/-- a row taken, its part and the whole made anew -/
theorem Lap6.took {rs : List Addr} {He Hh : Hp} {ll D wl wl' lz : Addr} {c : Rat} {k1 ti m : Nat} {idx : List Nat} {lf : List Addr} {l : List (Nat × Nat)} {ps : List Addr} {A A' : List Rat} (L : Lap6 rs He ll D wl c k1 idx lf l ps A) (hlt : l.length + 1 ≤ k1) (ti8 : ti < 8) (tin : ti ∉ l.map Prod.fst) (tiN : ti ∉ idx) (m1 : 1 ≤ m ∧ m ≤ 4) (sm : ¬ 13 < A.length + m * ((kn ti).length - 1))
    (el : Hh ll = some (.lst (lf.map V.ref))) (eD : Hh D = some (.lst ((ps.set m lz).map V.ref))) (lzD : lz ≠ D) (lzll : lz ≠ ll) (rz : RL Hh lz (stripQ (pmul (prP (tkr l) (m - 1)) (kn ti)))) (kp : ∀ {z : Addr} {B : List Rat}, z ≠ D → RL He z B → RL Hh z B)
    (w1 : wl' ≠ D) (w2 : wl' ≠ ll) (rA : RL Hh wl' A') (sA : Stp A') (lA : A'.length = A.length + m * ((kn ti).length - 1)) (eA : ∀ x, ev A' x = ev A x * ev (pw (kn ti) m) x) : Lap6 rs Hh ll D wl' c k1 idx lf ((ti, m) :: l) (ps.set m lz) A' := by
  have h8 : ∀ q ∈ l, q.1 < 8 := fun q hq => (L.t8 q hq).1
  have lA0 := L.lA
  have hdg : dgs (tkr ((ti, m) :: l)) 0 = m * ((kn ti).length - 1) + dgs (tkr l) 0 := rfl
  refine ⟨L.nd, L.li, L.fl, fun j t hj => ?_, ?_, fun q hq => ?_, hlt, by rw [hdg]; omega, el, eD, by rw [List.length_set]; exact L.pl, fun m' a1 a4 => ?_, w1, w2, rA, sA, by rw [hdg]; omega, fun x => ?_⟩
  · obtain ⟨a, b, d⟩ := L.fi j t hj
    refine ⟨a, fun h => ?_, d⟩
    rw [List.map_cons] at h
    rcases List.mem_cons.mp h with h | h
    · exact tiN (by rw [← show t = ti from h]; exact List.mem_of_getElem? hj)
    · exact b h
  · rw [List.map_cons]
    exact List.nodup_cons.mpr ⟨tin, L.tn⟩
  · rcases List.mem_cons.mp hq with h | h
    · rw [h]
      exact ⟨ti8, m1.2, m1.1⟩
    · exact L.t8 q h
  · by_cases e : m' = m
    · rw [e]
      refine ⟨lz, by rw [List.getElem?_set_self (by rw [L.pl]; omega)], lzD, lzll, ?_⟩
      show RL Hh lz (if m = m - 1 + 1 then pmul (kn ti) (prP (tkr l) (m - 1)) else prP (tkr l) (m - 1))
      rw [if_pos (by omega)]
      have : stripQ (pmul (prP (tkr l) (m - 1)) (kn ti)) = pmul (kn ti) (prP (tkr l) (m - 1)) :=
        stp_ext (stripQ_stp _) ((kn_mo ti8).mul (mo_P (m - 1) (tk_mos h8))).1.s (cf_of fun x => by
          rw [ev_stripQ, ev_pmul, ev_pmul]
          grind)
      rw [← this]
      exact rz
    · obtain ⟨z, e1, z1, z2, z3⟩ := L.pr m' a1 a4
      refine ⟨z, by rw [List.getElem?_set_ne (Ne.symm e)]; exact e1, z1, z2, ?_⟩
      show RL Hh z (if m = m' - 1 + 1 then pmul (kn ti) (prP (tkr l) (m' - 1)) else prP (tkr l) (m' - 1))
      rw [if_neg (by omega)]
      exact kp z1 z3
  · rw [eA, L.eA]
    show _ = c * ev (pmul (pw (kn ti) m) (prE (tkr l) 0)) x
    rw [ev_pmul]
    grind
def TQ (H : Hp) (t : Addr) (qs : List Rat) : Prop := ∃ as : List Addr, H t = some (.tup (as.map V.ref)) ∧ Tups H as (qs.map pq)
theorem TQ.put {H H' : Hp} {b t : Addr} {xs : List V} {qs : List Rat} (hb : H b = some (.lst xs)) (k : ∀ c u, c ≠ b → H c = some u → H' c = some u) (h : TQ H t qs) : TQ H' t qs := by
  obtain ⟨as, e, t⟩ := h
  exact ⟨as, k _ _ (ne_of e hb (by intro z; cases z)) e, t.imp fun a p z => k _ _ (ne_of z hb (by intro z; cases z)) z⟩
theorem TQ.same {H H' : Hp} {t : Addr} {qs : List Rat} (h : TQ H t qs) (s : Same H H') : TQ H' t qs := by
  obtain ⟨as, e, t⟩ := h
  exact ⟨as, s _ _ e, t.same s⟩
theorem TQ.kp {H H' : Hp} {p lc t : Addr} {B : Int} {qs : List Rat} (h : TQ H t qs) (hP : Pen H p lc B) (k : Kp p H H') : TQ H' t qs := by
  obtain ⟨as, e, t⟩ := h
  obtain ⟨_, _, _, _, _, g1, _⟩ := hP
  exact ⟨as, k _ _ (ne_of e g1.1 (by intro z; cases z)) e, t.imp fun a q z => k _ _ (ne_of z g1.1 (by intro z; cases z)) z⟩
def dR (qs : List Rat) : PyData := .tuple ((qs.map pq).map pairD)
theorem TQ.dt {K : PySem.W.Frag} {H : Hp} {t : Addr} {qs : List Rat} (h : TQ H t qs) : Dt K H (.ref t) (dR qs) := by
  obtain ⟨as, e, t⟩ := h
  exact .tup (SqT.of e) t.dts
structure T6s (H : Hp) (ts : List Addr) (n : Nat) (S : Nat → List Rat) : Prop where
  l : ts.length = n
  p : ∀ k, k < n → ∃ t, ts[k]? = some t ∧ TQ H t (S k)
theorem T6s.nil {H : Hp} {S : Nat → List Rat} : T6s H [] 0 S := ⟨rfl, fun k hk => by omega⟩
theorem T6s.imp {H H' : Hp} {ts : List Addr} {n : Nat} {S : Nat → List Rat} (h : T6s H ts n S) (f : ∀ {t qs}, TQ H t qs → TQ H' t qs) : T6s H' ts n S :=
  ⟨h.l, fun k hk => by
    obtain ⟨t, e, z⟩ := h.p k hk
    exact ⟨t, e, f z⟩⟩
theorem T6s.snoc {H : Hp} {ts : List Addr} {n : Nat} {S : Nat → List Rat} {a : Addr} (h : T6s H ts n S) (z : TQ H a (S n)) : T6s H (ts ++ [a]) (n + 1) S := by
  refine ⟨by rw [List.length_append, h.l]; rfl, fun k hk => ?_⟩
  by_cases e : k = n
  · exact ⟨a, by rw [List.getElem?_append_right (by rw [h.l]; omega), h.l, e, Nat.sub_self]; rfl, by rw [e]; exact z⟩
  · obtain ⟨t, e1, e2⟩ := h.p k (by omega)
    exact ⟨t, by rw [List.getElem?_append_left (by rw [h.l]; omega)]; exact e1, e2⟩
theorem T6s.drop {H : Hp} {ts : List Addr} {n : Nat} {S : Nat → List Rat} (h : T6s H ts (n + 1) S) : T6s H ts.dropLast n S := by
  have hl := h.l
  refine ⟨by rw [List.length_dropLast, hl]; rfl, fun k hk => ?_⟩
  obtain ⟨t, e1, e2⟩ := h.p k (by omega)
  exact ⟨t, by rw [List.getElem?_dropLast, if_pos (by omega)]; exact e1, e2⟩
def tabD : Nat → (Nat → List Rat) → List PyData
  | 0, _ => []
  | n + 1, S => dR (S 0) :: tabD n fun k => S (k + 1)
theorem dts_tab {K : PySem.W.Frag} {H : Hp} : ∀ {ts : List Addr} {n : Nat} {S : Nat → List Rat}, ts.length = n → (∀ k, k < n → ∃ t, ts[k]? = some t ∧ Dt K H (.ref t) (dR (S k))) → Dts K H (ts.map V.ref) (tabD n S)
  | [], 0, _, _, _ => .nil
  | t :: ts, n + 1, S, hl, h => by
    obtain ⟨t', e1, e2⟩ := h 0 (by omega)
    cases e1
    exact .cons e2 (dts_tab (Nat.succ.inj hl) fun k hk => by
      obtain ⟨t, e1, e2⟩ := h (k + 1) (by omega)
      exact ⟨t, e1, e2⟩)
theorem T6s.dts {K : PySem.W.Frag} {H : Hp} {ts : List Addr} {n : Nat} {S : Nat → List Rat} (h : T6s H ts n S) : Dts K H (ts.map V.ref) (tabD n S) := dts_tab h.l fun k hk => by
  obtain ⟨t, e1, e2⟩ := h.p k hk
  exact ⟨t, e1, e2.dt⟩
theorem plain_tab : ∀ (n : Nat) (S : Nat → List Rat), PyData.plainAll (tabD n S) = true
  | 0, _ => by simp only [tabD, PyData.plainAll]
  | n + 1, S => by
    simp only [tabD, PyData.plainAll, plain_tab n, Bool.and_true]
    exact (plain_row _).1
theorem depth_tab : ∀ (n : Nat) (S : Nat → List Rat), PyData.depthAll (tabD n S) ≤ 3
  | 0, _ => by simp only [tabD, PyData.depthAll]; omega
  | n + 1, S => by
    have h := depth_tab n fun k => S (k + 1)
    have h2 := depth_pairs ((S 0).map pq)
    simp only [tabD, PyData.depthAll, dR, PyData.depth]
    exact Nat.max_le.mpr ⟨by omega, h⟩
theorem plain_tabL (n : Nat) (S : Nat → List Rat) : (PyData.list (tabD n S)).plain = true := by
  simp only [PyData.plain]
  exact plain_tab n S
theorem depth_tabL (n : Nat) (S : Nat → List Rat) : (PyData.list (tabD n S)).depth ≤ 60 := by
  have := depth_tab n S
  simp only [PyData.depth]
  omega
theorem eqv_nil (n : Nat) (S : Nat → List Rat) : PyData.eqv (.list (tabD n S)) (.list []) = decide (n = 0) := by
  cases n with
  | zero => simp [tabD, PyData.eqv, PyData.eqvAll]
  | succ n => simp [tabD, PyData.eqv, PyData.eqvAll]
theorem neT_same {K : PySem.W.Frag} {H : Hp} {x y : V} {d : PyData} {R : V → Hp → Prop} (h1 : Dt K H x d) (h2 : Dt K H y d) (pl : d.plain = true) (dp : d.depth ≤ 60) (r : R (.bl false) H) : rNeT K x y H R := by
  refine ⟨_, _, h1, h2, pl, pl, dp, ?_⟩
  rw [SeqAt.eqv_refl_plain _ pl]
  exact r
theorem prP_one {k : Nat} : ∀ {l : List (Nat × Nat)}, (∀ q ∈ l, q.2 ≤ k) → prP (tkr l) k = [1]
  | [], _ => rfl
  | (i, m) :: r, h => by
    have : m ≤ k := h (i, m) (List.mem_cons_self ..)
    show (if m = k + 1 then pmul (kn i) (prP (tkr r) k) else prP (tkr r) k) = [1]
    rw [if_neg (by omega)]
    exact prP_one fun q hq => h q (List.mem_cons_of_mem _ hq)
theorem prP_two {k : Nat} : ∀ {l : List (Nat × Nat)}, (∀ q ∈ l, q.1 < 8) → (∃ q ∈ l, q.2 = k + 1) → 2 ≤ (prP (tkr l) k).length
  | [], _, h => by
    obtain ⟨q, hq, _⟩ := h
    cases hq
  | (i, m) :: r, h8, h => by
    have g8 : i < 8 := h8 (i, m) (List.mem_cons_self ..)
    have h8' := fun q hq => h8 q (List.mem_cons_of_mem (i, m) hq)
    show 2 ≤ (if m = k + 1 then pmul (kn i) (prP (tkr r) k) else prP (tkr r) k).length
    split
    · have z := ((kn_mo g8).mul (mo_P k (tk_mos h8'))).2
      have z2 := (kn_sz i g8).2.1
      have z3 := List.length_pos_iff.mpr (mo_P k (tk_mos h8')).n
      omega
    · rename_i hm
      obtain ⟨q, hq, e⟩ := h
      rcases List.mem_cons.mp hq with y | y
      · rw [y] at e
        exact absurd e hm
      · exact prP_two h8' ⟨q, y, e⟩
theorem top6 : ∀ (l : List (Nat × Nat)), (∀ q ∈ l, q.2 ≤ 4) → ∃ n, n ≤ 4 ∧ (∀ q ∈ l, q.2 ≤ n) ∧ (n = 0 ∨ ∃ q ∈ l, q.2 = n)
  | [], _ => ⟨0, by omega, fun q hq => absurd hq List.not_mem_nil, .inl rfl⟩
  | (i, m) :: r, h => by
    obtain ⟨n, n4, h1, h2⟩ := top6 r fun q hq => h q (List.mem_cons_of_mem _ hq)
    have m4 : m ≤ 4 := h (i, m) (List.mem_cons_self ..)
    by_cases e : m ≤ n
    · refine ⟨n, n4, fun q hq => ?_, h2.imp id fun ⟨q, hq, e⟩ => ⟨q, List.mem_cons_of_mem _ hq, e⟩⟩
      rcases List.mem_cons.mp hq with y | y
      · rw [y]
        exact e
      · exact h1 q y
    · refine ⟨m, m4, fun q hq => ?_, .inr ⟨(i, m), List.mem_cons_self .., rfl⟩⟩
      rcases List.mem_cons.mp hq with y | y
      · rw [y]
        exact Nat.le_refl _
      · have := h1 q y
        omega
theorem pq_one : ([1] : List Rat).map pq = [(1, 1)] := by decide +kernel
theorem is_one {l : List Rat} : decide (l.map pq = [(1, 1)]) = decide (l = [1]) := by
  refine decide_eq_decide.mpr ⟨fun h => ?_, fun h => by rw [h]; exact pq_one⟩
  have hl : l.length = 1 := by
    have := congrArg List.length h
    rw [List.length_map] at this
    exact this
  obtain ⟨q, rfl⟩ := List.length_eq_one_iff.mp hl
  have h : pq q = (1, 1) := by simpa using h
  have h1 : q.num = 1 := congrArg Prod.fst h
  have h2 : (q.den : Int) = 1 := congrArg Prod.snd h
  have : q = 1 := by
    rw [← Rat.num_divInt_den q, h1, h2]
    decide +kernel
  rw [this]
/-- sizes of the whole -/
theorem szW {l : List (Nat × Nat)} {c : Rat} {A : List Rat} (h8 : ∀ q ∈ l, q.1 < 8) (h4 : ∀ q ∈ l, q.2 ≤ 4) (hl : l.length ≤ 3) (hd : dgs (tkr l) 0 ≤ 12) (fc : Fr 7 21 c) (sA : Stp A) (lA : A.length ≤ 13) (e : ∀ x, ev A x = c * ev (prE (tkr l) 0) x) : Fb A (1296 ^ l.length * 7) (2 ^ (22 * l.length) * 21) ∧ ∀ i, RatOk (pq (cf A i)) := by
  have fA : ∀ i, Fr (1296 ^ l.length * 7) (2 ^ (22 * l.length) * 21) (cf A i) := fun i => by
    have h1 : cf A i = cf (pscale (prE (tkr l) 0) c) i := cf_of (fun x => by rw [ev_pscale, e]; grind) i
    rw [h1, cf_psc]
    exact (szE 0 l h8 h4 hd i).mul fc
  have b1 : 1296 ^ l.length * 7 ≤ 2 ^ 40 := by
    refine Nat.le_trans (Nat.mul_le_mul_right 7 (Nat.pow_le_pow_right (by decide) hl)) (by decide)
  have b2 : 2 ^ (22 * l.length) * 21 ≤ 2 ^ 80 := by
    refine Nat.le_trans (Nat.mul_le_mul_right 21 (Nat.pow_le_pow_right (by decide) (show 22 * l.length ≤ 66 by omega))) (by decide)
  have p1 : 0 < 1296 ^ l.length * 7 := Nat.mul_pos (Nat.pow_pos (by decide)) (by decide)
  refine ⟨⟨sA, lA, fA, p1, Nat.le_trans b1 (Nat.pow_le_pow_right (by decide) (by decide)), Nat.le_trans b2 (Nat.pow_le_pow_right (by decide) (by decide))⟩, fun i => ?_⟩
  obtain ⟨z1, z2⟩ := Hb.of (k := 80) (fA i) p1 (Nat.le_trans b1 (by decide)) b2
  refine ⟨pq_low _, Nat.lt_of_le_of_lt z1 (Nat.pow_lt_pow_right (by decide) (by decide)), ?_⟩
  show ((cf A i).den : Int).natAbs < _
  rw [Int.natAbs_natCast]
  exact Nat.lt_of_le_of_lt z2 (Nat.pow_lt_pow_right (by decide) (by decide))
theorem rowD_pqs (qs : List Rat) : rowD (.tuple ((qs.map pq).map pairD)) = some (qs.map pq) := by
  rw [rowD_seq (ds := (qs.map pq).map pairD) rfl]
  refine mapM_of fun p hp => ?_
  obtain ⟨q, _, rfl⟩ := List.mem_map.mp hp
  exact parts_pairD (by have := q.den_pos; show (0 : Int) < (q.den : Int); omega)
theorem low_pqsQ (qs : List Rat) : (qs.map pq).map lowP = qs.map pq := by
  rw [List.map_map]
  refine List.map_congr_left fun q _ => ?_
  exact low_id (pq_low q)
theorem fb_q {q : Rat} (h1 : q.num.natAbs ≤ 2 ^ 60) (h2 : q.den ≤ 2 ^ 60) : Fb (stripQ [q]) q.den (2 ^ 60) := by
  refine ⟨stripQ_stp _, Nat.le_trans (stripQ_le _) (show 1 ≤ 13 by decide), fun i => ?_, q.den_pos, Nat.le_trans h2 (Nat.pow_le_pow_right (by decide) (by decide)), Nat.pow_le_pow_right (by decide) (by decide)⟩
  rw [cf_stripQ]
  cases i with
  | zero =>
    refine ⟨q.num, ?_, h1⟩
    have z : (q.den : Rat) ≠ 0 := by have := q.den_pos; exact_mod_cast (show q.den ≠ 0 by omega)
    have h := Rat.div_mul_cancel (a := (q.num : Rat)) z
    have e := Rat.num_divInt_den q
    rw [Rat.divInt_eq_div] at e
    rw [show ((q.den : Int) : Rat) = (q.den : Rat) from rfl] at e
    rw [e] at h
    exact h
  | succ i => rw [cf_ge (by show 1 ≤ i + 1; omega)]; exact Fr.zero _ _
section
variable {K : PySem.W.Frag} {CP CR : Addr}
theorem sp_end {H : Hp} {x : Addr} {A : List Rat} {M N : Nat} {W : VK} {E : XK} (pA : PolyQ K CP H x A) (fA : Fb A M N) (l1 : A.length ≤ 1) (k : ∀ (t : Addr) (H' : Hp), Same H H' → H' t = some (.tup []) → W (.ref t) H') : spSP K CP [.ref x] H W E := by
  refine ⟨x, A, M, N, 0, fun _ => mon A, fun _ => [1], fun _ => [], rfl, pA, fA, rfl, by omega, fun k hk => absurd hk (Nat.not_lt_zero _), ?_, fun k hk => absurd hk (Nat.not_lt_zero _), rfl, fun k hk => absurd hk (Nat.not_lt_zero _), fun t ys H' s et hp => ?_⟩
  · unfold mon
    have := stripQ_le (pscale A (1 / cf A (A.length - 1)))
    rw [psc_len] at this
    exact Nat.le_trans this l1
  · have : ys = [] := List.length_eq_zero_iff.mp hp.l
    rw [this] at et
    exact k t H' s et
theorem eqT_nil {H : Hp} {x y : Addr} {R : V → Hp → Prop} (h1 : H x = some (.tup [])) (h2 : H y = some (.tup [])) (r : R (.bl true) H) : rEqT K (.ref x) (.ref y) H R := by
  refine ⟨.tuple [], .tuple [], .tup (SqT.of h1) .nil, .tup (SqT.of h2) .nil, by decide, by decide, by decide, ?_⟩
  rw [show PyData.eqv (.tuple []) (.tuple []) = true by simp [PyData.eqv, PyData.eqvAll]]
  exact r
theorem poly_q {H : Hp} {t : Addr} {q : Rat} {Qd : Addr → Hp → Prop} {E : XK} (h : TQ H t [q]) (bq : q.den ≤ 2 ^ 60) (k : ∀ (x : Addr) (H' : Hp), Same H H' → PolyQ K CP H' x (stripQ [q]) → Qd x H') :
    ∀ x dx, H x = none → H dx = none → dx ≠ x → spPolyI K CP CR (.ref x :: ([.ref t] ++ [])) (upd (upd H dx (.own x)) x (.ins CP dx [])) (fun w H2 => w = .non ∧ Qd x H2) E := by
  refine poly_made (d := .tuple (([q].map pq).map pairD)) h.dt (fun ds h => by cases h; show 1 ≤ 1000; decide) (fun ps h => ?_) (fun z => by rw [rowD_pqs] at z; cases z)
  rw [rowD_pqs] at h
  cases h
  refine ⟨fun p hp => ?_, fun x H' s2 nx hp => k x H' s2 ?_⟩
  · obtain ⟨q', hq, rfl⟩ := List.mem_map.mp hp
    rw [List.mem_singleton.mp hq]
    show (q.den : Int).natAbs < _
    rw [Int.natAbs_natCast]
    exact Nat.lt_of_le_of_lt bq (Nat.pow_lt_pow_right (by decide) (by decide))
  · rw [low_pqsQ, strip_map] at hp
    exact hp
theorem poly_0 {H : Hp} {t : Addr} {Qd : Addr → Hp → Prop} {E : XK} (h : H t = some (.tup [])) (k : ∀ (x : Addr) (H' : Hp), Same H H' → PolyQ K CP H' x [] → Qd x H') :
    ∀ x dx, H x = none → H dx = none → dx ≠ x → spPolyI K CP CR (.ref x :: ([.ref t] ++ [])) (upd (upd H dx (.own x)) x (.ins CP dx [])) (fun w H2 => w = .non ∧ Qd x H2) E := by
  refine poly_made (d := .tuple []) (.tup (SqT.of h) .nil) (fun ds h => by cases h; decide) (fun ps h => ?_) (fun z => by cases z)
  cases h
  exact ⟨fun p hp => (by cases hp), fun x H' s2 nx hp => k x H' s2 hp⟩
end
end Vf
set_option maxRecDepth 100000
set_option maxHeartbeats 8000000
namespace Vf
open PySem PySem.Spec PyProof.Rows L2
open LamX (ExtN Tabs TabS)
/-- the law's promise -/
def spLaw0 (K : PySem.W.Frag) : Sp := fun vs H Q _ => ∃ (a : Addr) (ns : List Int), vs = [.ref a] ∧ SqL K H a (ns.map V.int) ∧ ns.length ≤ 63 ∧ ∀ H', Q (.bl true) H'
def rTupOf (K : PySem.W.Frag) : List V → Hp → VK → Prop := fun xs H Q => ∃ p ys, xs = [.ref p] ∧ ((SqL K H p ys ∧ ∀ l, H l = none → Q (.ref l) (upd H l (.tup ys))) ∨ (SqT K H p ys ∧ Q (.ref p) H))
theorem call_tupK {X : Cx} : CallR X (.type "tuple") (rTupOf X.K) := call_tuple_of
section
variable {P : Program} {w : World} {K : PySem.W.Frag} {mg : Str → Option Value} {base : Heap} {CP CR : Addr}
abbrev sLaw : Stmt := topS 60
theorem scLaw : FnScope ["_law_script", "_law_pen_here", "_law_known", "_law_lap", "_law_left", "_law_parts", "_law_whole", "_law_k", "_law_one", "_law_many", "_law_turn", "_law_due", "_law_part", "_law_told"] ["_law_script"] (defScope sLaw) := ⟨rfl, rfl, rfl, by decide +kernel, rfl, by decide +kernel, by decide +kernel⟩
theorem ok_law {f : Addr} {fd : FuncData} (F : Fun K "law" "law" sLaw f fd) (T : Bk mg) (hm1 : M1 base) (PM : PoM P w K mg base CP CR)
    (G__law_pen : Df P w K mg base "_law_pen" 1 ["_law_script"] (spPen K))
    (G__law_draw : Df P w K mg base "_law_draw" 1 ["_law_pen_here", "_law_many"] spDraw)
    (G__law_pick : Df P w K mg base "_law_pick" 2 ["_law_pen_here", "_law_some"] spPick)
    (G__law_made_poly : Df P w K mg base "_law_made_poly" 7 ["_law_pen_here", "_law_one"] (spMade K CP))
    (G__law_p_times : Df P w K mg base "_law_p_times" 4 ["_law_one", "_law_two"] spLPT)
    (G__law_some_ratio : Df P w K mg base "_law_some_ratio" 4 ["_law_pen_here"] spSomeR)
    (G_simple_parts : Dx P w K mg base "simple_parts" 10 ["poly"] (spSP K CP)) : FnG P w K mg base CX0 14 f fd ["_law_script"] (spLaw0 K) := by
  refine fnG_of1 F scLaw (fun vs H Q E h => ?_) (fun cdv A outer s H0 vs Q E hgu hr hcd h => ?_)
  · obtain ⟨a, ns, rfl, _⟩ := h
    rfl
  · obtain ⟨sc, ns, rfl, hS, hns, kend⟩ := h
    have hu64 := hr.units
    refine ⟨_, (pss_cons (ps_set (i := 1) scLaw.nd rfl (Or.inl rfl) (pe_call G__law_pen.ok (hr.mono (by decide)) rfl G__law_pen.m G__law_pen.kp G__law_pen.b .nil pass0 (pa_cons (pv 0) pa_nil)))
  (pss_cons (ps_set (i := 2) scLaw.nd rfl (Or.inl rfl) (pe_lst (pa_cons (pe_lst (pa_cons (pe_tup (pa_cons pe_int (pa_cons pe_int pa_nil))) (pa_cons (pe_tup (pa_cons pe_int (pa_cons pe_int pa_nil))) pa_nil))) (pa_cons (pe_lst (pa_cons (pe_tup (pa_cons (pe_un un_neg pe_int) (pa_cons pe_int pa_nil))) (pa_cons (pe_tup (pa_cons pe_int (pa_cons pe_int pa_nil))) pa_nil))) (pa_cons (pe_lst (pa_cons (pe_tup (pa_cons pe_int (pa_cons pe_int pa_nil))) (pa_cons (pe_tup (pa_cons pe_int (pa_cons pe_int pa_nil))) pa_nil))) (pa_cons (pe_lst (pa_cons (pe_tup (pa_cons (pe_un un_neg pe_int) (pa_cons pe_int pa_nil))) (pa_cons (pe_tup (pa_cons pe_int (pa_cons pe_int pa_nil))) pa_nil))) (pa_cons (pe_lst (pa_cons (pe_tup (pa_cons (pe_un un_neg pe_int) (pa_cons pe_int pa_nil))) (pa_cons (pe_tup (pa_cons pe_int (pa_cons pe_int pa_nil))) (pa_cons (pe_tup (pa_cons pe_int (pa_cons pe_int pa_nil))) pa_nil)))) pa_nil)))))))
  (pss_cons (ps_set (i := 2) scLaw.nd rfl (Or.inl rfl) (pe_op op_cat (pv 2) (pe_lst (pa_cons (pe_lst (pa_cons (pe_tup (pa_cons pe_int (pa_cons pe_int pa_nil))) (pa_cons (pe_tup (pa_cons pe_int (pa_cons pe_int pa_nil))) (pa_cons (pe_tup (pa_cons pe_int (pa_cons pe_int pa_nil))) pa_nil)))) (pa_cons (pe_lst (pa_cons (pe_tup (pa_cons pe_int (pa_cons pe_int pa_nil))) (pa_cons (pe_tup (pa_cons pe_int (pa_cons pe_int pa_nil))) (pa_cons (pe_tup (pa_cons pe_int (pa_cons pe_int pa_nil))) pa_nil)))) (pa_cons (pe_lst (pa_cons (pe_tup (pa_cons (pe_un un_neg pe_int) (pa_cons pe_int pa_nil))) (pa_cons (pe_tup (pa_cons pe_int (pa_cons pe_int pa_nil))) (pa_cons (pe_tup (pa_cons pe_int (pa_cons pe_int pa_nil))) (pa_cons (pe_tup (pa_cons pe_int (pa_cons pe_int pa_nil))) pa_nil))))) pa_nil))))))
  (pss_cons (ps_for PassesOwn.never rfl (pi_range1 (by rfl) T.range (pa_cons pe_int pa_nil)) (pg_name (i := 3) scLaw.nd rfl (Or.inl rfl))
    (pss_cons (ps_par3 (i := 4) (j := 5) (l := 6) (by rfl) scLaw.nd rfl rfl rfl (by decide) (by decide) (by decide) rfl rfl rfl (pa_cons (pe_callTy call_list_of (by rfl) T.list (by decide +kernel) (pa_cons (pv 2) pa_nil)) (pa_cons (pe_lc (own := [("_law_k", 7)]) (g := (gName 7)) (tt := tYes) rfl scLaw.nd (pi_range1 (by rfl) T.range (pa_cons pe_int pa_nil)) (blkOk_by (N := ["_law_script", "_law_pen_here", "_law_known", "_law_lap", "_law_left", "_law_parts", "_law_whole", "_law_k", "_law_one", "_law_many", "_law_turn", "_law_due", "_law_part", "_law_told"]) (sc := defScope sLaw) (by decide +kernel)) (fun _ _ _ _ _ => pg_name (i := 7) scLaw.nd rfl (Or.inl rfl)) (fun _ _ _ _ _ => pts_nil) (fun _ _ _ _ _ => (pe_lst (pa_cons (pe_tup (pa_cons pe_int (pa_cons pe_int pa_nil))) pa_nil)))) (pa_cons (pe_lst (pa_cons (pe_call G__law_pick.ok (hr.mono (by decide)) rfl G__law_pick.m G__law_pick.kp G__law_pick.b .nil pass0 (pa_cons (pv 1) (pa_cons (pe_lst (pa_cons (pe_tup (pa_cons pe_int (pa_cons pe_int pa_nil))) (pa_cons (pe_tup (pa_cons (pe_un un_neg pe_int) (pa_cons pe_int pa_nil))) (pa_cons (pe_tup (pa_cons pe_int (pa_cons pe_int pa_nil))) pa_nil)))) pa_nil))) pa_nil)) pa_nil))) (by rfl))
    (pss_cons (ps_for PassesOwn.never rfl (pi_range1 (by rfl) T.range (pa_cons (pe_call G__law_draw.ok (hr.mono (by decide)) rfl G__law_draw.m G__law_draw.kp G__law_draw.b .nil pass0 (pa_cons (pv 1) (pa_cons pe_int pa_nil))) pa_nil)) (pg_name (i := 7) scLaw.nd rfl (Or.inl rfl))
      (pss_cons (ps_par (i := 8) (j := 9) (by rfl) scLaw.nd rfl rfl (by decide) rfl rfl (pa_cons (pe_bm PySem.F.plainAttrs_list PySem.F.slot_list_pop PySem.F.type_list_pop mt_popAt (pv 4) (pa_cons (pe_call G__law_draw.ok (hr.mono (by decide)) rfl G__law_draw.m G__law_draw.kp G__law_draw.b .nil pass0 (pa_cons (pv 1) (pa_cons (pe_callB call_len_seq (by rfl) T.len (by decide +kernel) (pa_cons (pv 4) pa_nil)) pa_nil))) pa_nil)) (pa_cons (pe_op op_add pe_int (pe_call G__law_draw.ok (hr.mono (by decide)) rfl G__law_draw.m G__law_draw.kp G__law_draw.b .nil pass0 (pa_cons (pv 1) (pa_cons pe_int pa_nil)))) pa_nil)) (by rfl))
      (pss_cons (ps_if (pt_cmpR op_gt (pe_op op_add (pe_callB call_len_seq (by rfl) T.len (by decide +kernel) (pa_cons (pv 6) pa_nil)) (pe_op op_mulW (pv 9) (pe_op op_sub (pe_callB call_len_seq (by rfl) T.len (by decide +kernel) (pa_cons (pv 8) pa_nil)) pe_int))) pe_int (nomark _))
        (pss_one (ps_continue))
        pss_nil)
      (pss_cons (ps_asg (pe_call G__law_p_times.ok (hr.mono (by decide)) rfl G__law_p_times.m G__law_p_times.kp G__law_p_times.b .nil pass0 (pa_cons (pe_ix ix_list (pv 5) (pv 9) (fun _ _ => rfl)) (pa_cons (pv 8) pa_nil))) (pg_sub (pv 5) (pv 9) set_list))
      (pss_one (ps_for PassesOwn.never rfl (pi_range1 (by rfl) T.range (pa_cons (pv 9) pa_nil)) (pg_name (i := 10) scLaw.nd rfl (Or.inl rfl))
        (pss_one (ps_set (i := 6) scLaw.nd rfl (Or.inl rfl) (pe_call G__law_p_times.ok (hr.mono (by decide)) rfl G__law_p_times.m G__law_p_times.kp G__law_p_times.b .nil pass0 (pa_cons (pv 6) (pa_cons (pv 8) pa_nil)))))))))))
    (pss_cons (ps_setLc (i := 11) (own := [("_law_part", 12)]) (g := (gName 12)) (tt := tYes) rfl scLaw.nd rfl rfl (sw_true rfl rfl rfl (by decide +kernel)) (pi_seq (pe_slice sl_list (pv 5) (po_some pe_int) po_none)) (blkOk_by (N := ["_law_script", "_law_pen_here", "_law_known", "_law_lap", "_law_left", "_law_parts", "_law_whole", "_law_k", "_law_one", "_law_many", "_law_turn", "_law_due", "_law_part", "_law_told"]) (sc := defScope sLaw) (by decide +kernel)) (fun _ _ _ _ _ => pg_name (i := 12) scLaw.nd rfl (Or.inl rfl)) (fun _ _ _ _ _ => pts_nil) (fun _ _ _ _ _ => (pe_callTy (T := "tuple") (r := rTupOf K) call_tupK (by rfl) T.tuple (by decide +kernel) (pa_cons (pv 12) pa_nil))))
    (pss_cons (ps_for PassesOwn.never rfl (pi_range1 (by rfl) T.range (pa_cons pe_int pa_nil)) (pg_name (i := 10) scLaw.nd rfl (Or.inl rfl))
      (pss_one (ps_if (PW.pt (pw_and (pt_cmpR (op_neT hu64 hm1) (pv 11) (pe_lst pa_nil) (nomark _)) (pw_and1 (pt_cmpR (op_eqT hu64 hm1) (pe_ix ix_list (pv 11) (pe_un un_neg pe_int) (fun _ _ => rfl)) (pe_tup (pa_cons (pe_tup (pa_cons pe_int (pa_cons pe_int pa_nil))) pa_nil)) (nomark _)))))
        (pss_one (ps_expr (pe_bm0 PySem.F.plainAttrs_list PySem.F.slot_list_pop PySem.F.type_list_pop mt_pop (pv 11))))
        pss_nil)))
    (pss_cons (ps_set (i := 13) scLaw.nd rfl (Or.inl rfl) (pe_call G_simple_parts.ok (hr.mono (by decide)) rfl G_simple_parts.m G_simple_parts.kp G_simple_parts.b .nil passL (pa_cons (pe_call G__law_made_poly.ok (hr.mono (by decide)) rfl G__law_made_poly.m G__law_made_poly.kp G__law_made_poly.b .nil pass0 (pa_cons (pv 1) (pa_cons (pv 6) pa_nil))) pa_nil)))
    (pss_one (ps_if (PW.pt (pw_or (pt_not (pt_val (pe_callB call_isi (by rfl) T.isinstance (by decide +kernel) (pa_cons (pv 13) (pa_cons (pe_bltn (v := V.ty "tuple") (by rfl) T.tuple (by decide +kernel) rfl) pa_nil))))) (pw_or1 (pt_cmpR (op_neT hu64 hm1) (pe_lc (own := [("_law_part", 12)]) (g := (gName 12)) (tt := tYes) rfl scLaw.nd (pi_seq (pv 13)) (blkOk_by (N := ["_law_script", "_law_pen_here", "_law_known", "_law_lap", "_law_left", "_law_parts", "_law_whole", "_law_k", "_law_one", "_law_many", "_law_turn", "_law_due", "_law_part", "_law_told"]) (sc := defScope sLaw) (by decide +kernel)) (fun _ _ _ _ _ => pg_name (i := 12) scLaw.nd rfl (Or.inl rfl)) (fun _ _ _ _ _ => pts_nil) (fun _ _ _ _ _ => (pe_fldK (K := K) rfl (pv 12) rfl))) (pv 11) (nomark _)))))
      (pss_one (ps_ret pe_bl))
      pss_nil))))))))
  (pss_one (ps_ret (pe_and (pe_cmpR (op_eqT hu64 hm1) (pe_call G_simple_parts.ok (hr.mono (by decide)) rfl G_simple_parts.m G_simple_parts.kp G_simple_parts.b .nil passL (pa_cons (pe_make PM.mkI PM.okI (hr.mono (by decide)) rfl PM.C.m PM.bI .nil passL (pa_cons (pe_tup pa_nil) pa_nil)) pa_nil)) (pe_tup pa_nil) (nomark _)) (pe_one (pe_cmpR (op_eqT hu64 hm1) (pe_call G_simple_parts.ok (hr.mono (by decide)) rfl G_simple_parts.m G_simple_parts.kp G_simple_parts.b .nil passL (pa_cons (pe_make PM.mkI PM.okI (hr.mono (by decide)) rfl PM.C.m PM.bI .nil passL (pa_cons (pe_tup (pa_cons (pe_call G__law_some_ratio.ok (hr.mono (by decide)) rfl G__law_some_ratio.m G__law_some_ratio.kp G__law_some_ratio.b .nil pass0 (pa_cons (pv 1) pa_nil)) pa_nil)) pa_nil)) pa_nil)) (pe_tup pa_nil) (nomark _)))))))))), ?_⟩
    refine ⟨_, rfl, sc, ns, rfl, hS, hns, fun p lc H1 s1 np nlc hP => ?_⟩
    refine ⟨(by show 2 ≤ sizeLine; decide), fun t00 nt00 => ?_⟩
    have et00 : upd H1 t00 (HO.tup [V.int 0, V.int 1]) t00 = some (HO.tup [V.int 0, V.int 1]) := upd_same
    have s1' : Same H1 (upd H1 t00 (HO.tup [V.int 0, V.int 1])) := same_upd nt00
    generalize upd H1 t00 (HO.tup [V.int 0, V.int 1]) = K1 at et00 s1' ⊢
    refine ⟨(by show 2 ≤ sizeLine; decide), fun t01 nt01 => ?_⟩
    have et01 : upd K1 t01 (HO.tup [V.int 1, V.int 1]) t01 = some (HO.tup [V.int 1, V.int 1]) := upd_same
    have s2 : Same K1 (upd K1 t01 (HO.tup [V.int 1, V.int 1])) := same_upd nt01
    generalize upd K1 t01 (HO.tup [V.int 1, V.int 1]) = K2 at et01 s2 ⊢
    refine ⟨(by show 2 ≤ sizeLine; decide), fun r0 nr0 => ?_⟩
    have er0 : upd K2 r0 (HO.lst [V.ref t00, V.ref t01]) r0 = some (HO.lst [V.ref t00, V.ref t01]) := upd_same
    have s3 : Same K2 (upd K2 r0 (HO.lst [V.ref t00, V.ref t01])) := same_upd nr0
    generalize upd K2 r0 (HO.lst [V.ref t00, V.ref t01]) = K3 at er0 s3 ⊢
    refine ⟨_, rfl, (by show 2 ≤ sizeLine; decide), fun t10 nt10 => ?_⟩
    have et10 : upd K3 t10 (HO.tup [V.int (-1), V.int 1]) t10 = some (HO.tup [V.int (-1), V.int 1]) := upd_same
    have s4 : Same K3 (upd K3 t10 (HO.tup [V.int (-1), V.int 1])) := same_upd nt10
    generalize upd K3 t10 (HO.tup [V.int (-1), V.int 1]) = K4 at et10 s4 ⊢
    refine ⟨(by show 2 ≤ sizeLine; decide), fun t11 nt11 => ?_⟩
    have et11 : upd K4 t11 (HO.tup [V.int 1, V.int 1]) t11 = some (HO.tup [V.int 1, V.int 1]) := upd_same
    have s5 : Same K4 (upd K4 t11 (HO.tup [V.int 1, V.int 1])) := same_upd nt11
    generalize upd K4 t11 (HO.tup [V.int 1, V.int 1]) = K5 at et11 s5 ⊢
    refine ⟨(by show 2 ≤ sizeLine; decide), fun r1 nr1 => ?_⟩
    have er1 : upd K5 r1 (HO.lst [V.ref t10, V.ref t11]) r1 = some (HO.lst [V.ref t10, V.ref t11]) := upd_same
    have s6 : Same K5 (upd K5 r1 (HO.lst [V.ref t10, V.ref t11])) := same_upd nr1
    generalize upd K5 r1 (HO.lst [V.ref t10, V.ref t11]) = K6 at er1 s6 ⊢
    refine ⟨(by show 2 ≤ sizeLine; decide), fun t20 nt20 => ?_⟩
    have et20 : upd K6 t20 (HO.tup [V.int 1, V.int 3]) t20 = some (HO.tup [V.int 1, V.int 3]) := upd_same
    have s7 : Same K6 (upd K6 t20 (HO.tup [V.int 1, V.int 3])) := same_upd nt20
    generalize upd K6 t20 (HO.tup [V.int 1, V.int 3]) = K7 at et20 s7 ⊢
    refine ⟨(by show 2 ≤ sizeLine; decide), fun t21 nt21 => ?_⟩
    have et21 : upd K7 t21 (HO.tup [V.int 1, V.int 1]) t21 = some (HO.tup [V.int 1, V.int 1]) := upd_same
    have s8 : Same K7 (upd K7 t21 (HO.tup [V.int 1, V.int 1])) := same_upd nt21
    generalize upd K7 t21 (HO.tup [V.int 1, V.int 1]) = K8 at et21 s8 ⊢
    refine ⟨(by show 2 ≤ sizeLine; decide), fun r2 nr2 => ?_⟩
    have er2 : upd K8 r2 (HO.lst [V.ref t20, V.ref t21]) r2 = some (HO.lst [V.ref t20, V.ref t21]) := upd_same
    have s9 : Same K8 (upd K8 r2 (HO.lst [V.ref t20, V.ref t21])) := same_upd nr2
    generalize upd K8 r2 (HO.lst [V.ref t20, V.ref t21]) = K9 at er2 s9 ⊢
    refine ⟨_, rfl, (by show 2 ≤ sizeLine; decide), fun t30 nt30 => ?_⟩
    have et30 : upd K9 t30 (HO.tup [V.int (-5), V.int 2]) t30 = some (HO.tup [V.int (-5), V.int 2]) := upd_same
    have s10 : Same K9 (upd K9 t30 (HO.tup [V.int (-5), V.int 2])) := same_upd nt30
    generalize upd K9 t30 (HO.tup [V.int (-5), V.int 2]) = K10 at et30 s10 ⊢
    refine ⟨(by show 2 ≤ sizeLine; decide), fun t31 nt31 => ?_⟩
    have et31 : upd K10 t31 (HO.tup [V.int 1, V.int 1]) t31 = some (HO.tup [V.int 1, V.int 1]) := upd_same
    have s11 : Same K10 (upd K10 t31 (HO.tup [V.int 1, V.int 1])) := same_upd nt31
    generalize upd K10 t31 (HO.tup [V.int 1, V.int 1]) = K11 at et31 s11 ⊢
    refine ⟨(by show 2 ≤ sizeLine; decide), fun r3 nr3 => ?_⟩
    have er3 : upd K11 r3 (HO.lst [V.ref t30, V.ref t31]) r3 = some (HO.lst [V.ref t30, V.ref t31]) := upd_same
    have s12 : Same K11 (upd K11 r3 (HO.lst [V.ref t30, V.ref t31])) := same_upd nr3
    generalize upd K11 r3 (HO.lst [V.ref t30, V.ref t31]) = K12 at er3 s12 ⊢
    refine ⟨_, rfl, (by show 2 ≤ sizeLine; decide), fun t40 nt40 => ?_⟩
    have et40 : upd K12 t40 (HO.tup [V.int (-2), V.int 1]) t40 = some (HO.tup [V.int (-2), V.int 1]) := upd_same
    have s13 : Same K12 (upd K12 t40 (HO.tup [V.int (-2), V.int 1])) := same_upd nt40
    generalize upd K12 t40 (HO.tup [V.int (-2), V.int 1]) = K13 at et40 s13 ⊢
    refine ⟨(by show 2 ≤ sizeLine; decide), fun t41 nt41 => ?_⟩
    have et41 : upd K13 t41 (HO.tup [V.int 0, V.int 1]) t41 = some (HO.tup [V.int 0, V.int 1]) := upd_same
    have s14 : Same K13 (upd K13 t41 (HO.tup [V.int 0, V.int 1])) := same_upd nt41
    generalize upd K13 t41 (HO.tup [V.int 0, V.int 1]) = K14 at et41 s14 ⊢
    refine ⟨(by show 2 ≤ sizeLine; decide), fun t42 nt42 => ?_⟩
    have et42 : upd K14 t42 (HO.tup [V.int 1, V.int 1]) t42 = some (HO.tup [V.int 1, V.int 1]) := upd_same
    have s15 : Same K14 (upd K14 t42 (HO.tup [V.int 1, V.int 1])) := same_upd nt42
    generalize upd K14 t42 (HO.tup [V.int 1, V.int 1]) = K15 at et42 s15 ⊢
    refine ⟨(by show 3 ≤ sizeLine; decide), fun r4 nr4 => ?_⟩
    have er4 : upd K15 r4 (HO.lst [V.ref t40, V.ref t41, V.ref t42]) r4 = some (HO.lst [V.ref t40, V.ref t41, V.ref t42]) := upd_same
    have s16 : Same K15 (upd K15 r4 (HO.lst [V.ref t40, V.ref t41, V.ref t42])) := same_upd nr4
    generalize upd K15 r4 (HO.lst [V.ref t40, V.ref t41, V.ref t42]) = K16 at er4 s16 ⊢
    refine ⟨(by show 5 ≤ sizeLine; decide), fun la nla => ?_⟩
    have ela : upd K16 la (HO.lst [V.ref r0, V.ref r1, V.ref r2, V.ref r3, V.ref r4]) la = some (HO.lst [V.ref r0, V.ref r1, V.ref r2, V.ref r3, V.ref r4]) := upd_same
    have s17 : Same K16 (upd K16 la (HO.lst [V.ref r0, V.ref r1, V.ref r2, V.ref r3, V.ref r4])) := same_upd nla
    generalize upd K16 la (HO.lst [V.ref r0, V.ref r1, V.ref r2, V.ref r3, V.ref r4]) = K17 at ela s17 ⊢
    refine ⟨_, rfl, ?_⟩
    refine ⟨(by show 2 ≤ sizeLine; decide), fun t50 nt50 => ?_⟩
    have et50 : upd K17 t50 (HO.tup [V.int 1, V.int 1]) t50 = some (HO.tup [V.int 1, V.int 1]) := upd_same
    have s18 : Same K17 (upd K17 t50 (HO.tup [V.int 1, V.int 1])) := same_upd nt50
    generalize upd K17 t50 (HO.tup [V.int 1, V.int 1]) = K18 at et50 s18 ⊢
    refine ⟨(by show 2 ≤ sizeLine; decide), fun t51 nt51 => ?_⟩
    have et51 : upd K18 t51 (HO.tup [V.int 0, V.int 1]) t51 = some (HO.tup [V.int 0, V.int 1]) := upd_same
    have s19 : Same K18 (upd K18 t51 (HO.tup [V.int 0, V.int 1])) := same_upd nt51
    generalize upd K18 t51 (HO.tup [V.int 0, V.int 1]) = K19 at et51 s19 ⊢
    refine ⟨(by show 2 ≤ sizeLine; decide), fun t52 nt52 => ?_⟩
    have et52 : upd K19 t52 (HO.tup [V.int 1, V.int 1]) t52 = some (HO.tup [V.int 1, V.int 1]) := upd_same
    have s20 : Same K19 (upd K19 t52 (HO.tup [V.int 1, V.int 1])) := same_upd nt52
    generalize upd K19 t52 (HO.tup [V.int 1, V.int 1]) = K20 at et52 s20 ⊢
    refine ⟨(by show 3 ≤ sizeLine; decide), fun r5 nr5 => ?_⟩
    have er5 : upd K20 r5 (HO.lst [V.ref t50, V.ref t51, V.ref t52]) r5 = some (HO.lst [V.ref t50, V.ref t51, V.ref t52]) := upd_same
    have s21 : Same K20 (upd K20 r5 (HO.lst [V.ref t50, V.ref t51, V.ref t52])) := same_upd nr5
    generalize upd K20 r5 (HO.lst [V.ref t50, V.ref t51, V.ref t52]) = K21 at er5 s21 ⊢
    refine ⟨(by show 2 ≤ sizeLine; decide), fun t60 nt60 => ?_⟩
    have et60 : upd K21 t60 (HO.tup [V.int 1, V.int 1]) t60 = some (HO.tup [V.int 1, V.int 1]) := upd_same
    have s22 : Same K21 (upd K21 t60 (HO.tup [V.int 1, V.int 1])) := same_upd nt60
    generalize upd K21 t60 (HO.tup [V.int 1, V.int 1]) = K22 at et60 s22 ⊢
    refine ⟨(by show 2 ≤ sizeLine; decide), fun t61 nt61 => ?_⟩
    have et61 : upd K22 t61 (HO.tup [V.int 1, V.int 1]) t61 = some (HO.tup [V.int 1, V.int 1]) := upd_same
    have s23 : Same K22 (upd K22 t61 (HO.tup [V.int 1, V.int 1])) := same_upd nt61
    generalize upd K22 t61 (HO.tup [V.int 1, V.int 1]) = K23 at et61 s23 ⊢
    refine ⟨(by show 2 ≤ sizeLine; decide), fun t62 nt62 => ?_⟩
    have et62 : upd K23 t62 (HO.tup [V.int 1, V.int 1]) t62 = some (HO.tup [V.int 1, V.int 1]) := upd_same
    have s24 : Same K23 (upd K23 t62 (HO.tup [V.int 1, V.int 1])) := same_upd nt62
    generalize upd K23 t62 (HO.tup [V.int 1, V.int 1]) = K24 at et62 s24 ⊢
    refine ⟨(by show 3 ≤ sizeLine; decide), fun r6 nr6 => ?_⟩
    have er6 : upd K24 r6 (HO.lst [V.ref t60, V.ref t61, V.ref t62]) r6 = some (HO.lst [V.ref t60, V.ref t61, V.ref t62]) := upd_same
    have s25 : Same K24 (upd K24 r6 (HO.lst [V.ref t60, V.ref t61, V.ref t62])) := same_upd nr6
    generalize upd K24 r6 (HO.lst [V.ref t60, V.ref t61, V.ref t62]) = K25 at er6 s25 ⊢
    refine ⟨_, rfl, (by show 2 ≤ sizeLine; decide), fun t70 nt70 => ?_⟩
    have et70 : upd K25 t70 (HO.tup [V.int (-2), V.int 1]) t70 = some (HO.tup [V.int (-2), V.int 1]) := upd_same
    have s26 : Same K25 (upd K25 t70 (HO.tup [V.int (-2), V.int 1])) := same_upd nt70
    generalize upd K25 t70 (HO.tup [V.int (-2), V.int 1]) = K26 at et70 s26 ⊢
    refine ⟨(by show 2 ≤ sizeLine; decide), fun t71 nt71 => ?_⟩
    have et71 : upd K26 t71 (HO.tup [V.int 0, V.int 1]) t71 = some (HO.tup [V.int 0, V.int 1]) := upd_same
    have s27 : Same K26 (upd K26 t71 (HO.tup [V.int 0, V.int 1])) := same_upd nt71
    generalize upd K26 t71 (HO.tup [V.int 0, V.int 1]) = K27 at et71 s27 ⊢
    refine ⟨(by show 2 ≤ sizeLine; decide), fun t72 nt72 => ?_⟩
    have et72 : upd K27 t72 (HO.tup [V.int 0, V.int 1]) t72 = some (HO.tup [V.int 0, V.int 1]) := upd_same
    have s28 : Same K27 (upd K27 t72 (HO.tup [V.int 0, V.int 1])) := same_upd nt72
    generalize upd K27 t72 (HO.tup [V.int 0, V.int 1]) = K28 at et72 s28 ⊢
    refine ⟨(by show 2 ≤ sizeLine; decide), fun t73 nt73 => ?_⟩
    have et73 : upd K28 t73 (HO.tup [V.int 1, V.int 1]) t73 = some (HO.tup [V.int 1, V.int 1]) := upd_same
    have s29 : Same K28 (upd K28 t73 (HO.tup [V.int 1, V.int 1])) := same_upd nt73
    generalize upd K28 t73 (HO.tup [V.int 1, V.int 1]) = K29 at et73 s29 ⊢
    refine ⟨(by show 4 ≤ sizeLine; decide), fun r7 nr7 => ?_⟩
    have er7 : upd K29 r7 (HO.lst [V.ref t70, V.ref t71, V.ref t72, V.ref t73]) r7 = some (HO.lst [V.ref t70, V.ref t71, V.ref t72, V.ref t73]) := upd_same
    have s30 : Same K29 (upd K29 r7 (HO.lst [V.ref t70, V.ref t71, V.ref t72, V.ref t73])) := same_upd nr7
    generalize upd K29 r7 (HO.lst [V.ref t70, V.ref t71, V.ref t72, V.ref t73]) = K30 at er7 s30 ⊢
    refine ⟨(by show 3 ≤ sizeLine; decide), fun lb nlb => ?_⟩
    have elb : upd K30 lb (HO.lst [V.ref r5, V.ref r6, V.ref r7]) lb = some (HO.lst [V.ref r5, V.ref r6, V.ref r7]) := upd_same
    have s31 : Same K30 (upd K30 lb (HO.lst [V.ref r5, V.ref r6, V.ref r7])) := same_upd nlb
    generalize upd K30 lb (HO.lst [V.ref r5, V.ref r6, V.ref r7]) = K31 at elb s31 ⊢
    have S31 : Same K31 K31 := Same.refl _
    have S30 : Same K30 K31 := s31.trans S31
    have S29 : Same K29 K31 := s30.trans S30
    have S28 : Same K28 K31 := s29.trans S29
    have S27 : Same K27 K31 := s28.trans S28
    have S26 : Same K26 K31 := s27.trans S27
    have S25 : Same K25 K31 := s26.trans S26
    have S24 : Same K24 K31 := s25.trans S25
    have S23 : Same K23 K31 := s24.trans S24
    have S22 : Same K22 K31 := s23.trans S23
    have S21 : Same K21 K31 := s22.trans S22
    have S20 : Same K20 K31 := s21.trans S21
    have S19 : Same K19 K31 := s20.trans S20
    have S18 : Same K18 K31 := s19.trans S19
    have S17 : Same K17 K31 := s18.trans S18
    have S16 : Same K16 K31 := s17.trans S17
    have S15 : Same K15 K31 := s16.trans S16
    have S14 : Same K14 K31 := s15.trans S15
    have S13 : Same K13 K31 := s14.trans S14
    have S12 : Same K12 K31 := s13.trans S13
    have S11 : Same K11 K31 := s12.trans S12
    have S10 : Same K10 K31 := s11.trans S11
    have S9 : Same K9 K31 := s10.trans S10
    have S8 : Same K8 K31 := s9.trans S9
    have S7 : Same K7 K31 := s8.trans S8
    have S6 : Same K6 K31 := s7.trans S7
    have S5 : Same K5 K31 := s6.trans S6
    have S4 : Same K4 K31 := s5.trans S5
    have S3 : Same K3 K31 := s4.trans S4
    have S2 : Same K2 K31 := s3.trans S3
    have S1 : Same K1 K31 := s2.trans S2
    have S0 : Same H1 K31 := s1'.trans S1
    have kr0 : RL K31 r0 (kn 0) := ⟨[t00, t01], S3 _ _ er0, .cons (tr_of (S1 _ _ et00) (q := (0 : Rat)) (by decide +kernel)) (.cons (tr_of (S2 _ _ et01) (q := (1 : Rat)) (by decide +kernel)) .nil)⟩
    have kr1 : RL K31 r1 (kn 1) := ⟨[t10, t11], S6 _ _ er1, .cons (tr_of (S4 _ _ et10) (q := (-1 : Rat)) (by decide +kernel)) (.cons (tr_of (S5 _ _ et11) (q := (1 : Rat)) (by decide +kernel)) .nil)⟩
    have kr2 : RL K31 r2 (kn 2) := ⟨[t20, t21], S9 _ _ er2, .cons (tr_of (S7 _ _ et20) (q := ((1 : Rat) / 3)) (by decide +kernel)) (.cons (tr_of (S8 _ _ et21) (q := (1 : Rat)) (by decide +kernel)) .nil)⟩
    have kr3 : RL K31 r3 (kn 3) := ⟨[t30, t31], S12 _ _ er3, .cons (tr_of (S10 _ _ et30) (q := ((-5 : Rat) / 2)) (by decide +kernel)) (.cons (tr_of (S11 _ _ et31) (q := (1 : Rat)) (by decide +kernel)) .nil)⟩
    have kr4 : RL K31 r4 (kn 4) := ⟨[t40, t41, t42], S16 _ _ er4, .cons (tr_of (S13 _ _ et40) (q := (-2 : Rat)) (by decide +kernel)) (.cons (tr_of (S14 _ _ et41) (q := (0 : Rat)) (by decide +kernel)) (.cons (tr_of (S15 _ _ et42) (q := (1 : Rat)) (by decide +kernel)) .nil))⟩
    have kr5 : RL K31 r5 (kn 5) := ⟨[t50, t51, t52], S21 _ _ er5, .cons (tr_of (S18 _ _ et50) (q := (1 : Rat)) (by decide +kernel)) (.cons (tr_of (S19 _ _ et51) (q := (0 : Rat)) (by decide +kernel)) (.cons (tr_of (S20 _ _ et52) (q := (1 : Rat)) (by decide +kernel)) .nil))⟩
    have kr6 : RL K31 r6 (kn 6) := ⟨[t60, t61, t62], S25 _ _ er6, .cons (tr_of (S22 _ _ et60) (q := (1 : Rat)) (by decide +kernel)) (.cons (tr_of (S23 _ _ et61) (q := (1 : Rat)) (by decide +kernel)) (.cons (tr_of (S24 _ _ et62) (q := (1 : Rat)) (by decide +kernel)) .nil))⟩
    have kr7 : RL K31 r7 (kn 7) := ⟨[t70, t71, t72, t73], S30 _ _ er7, .cons (tr_of (S26 _ _ et70) (q := (-2 : Rat)) (by decide +kernel)) (.cons (tr_of (S27 _ _ et71) (q := (0 : Rat)) (by decide +kernel)) (.cons (tr_of (S28 _ _ et72) (q := (0 : Rat)) (by decide +kernel)) (.cons (tr_of (S29 _ _ et73) (q := (1 : Rat)) (by decide +kernel)) .nil)))⟩
    refine ⟨la, lb, _, _, rfl, rfl, S17 _ _ ela, S31 _ _ elb, (by show 8 ≤ sizeLine; decide), fun lk nlk => ?_⟩
    have elk : upd K31 lk (HO.lst ([V.ref r0, V.ref r1, V.ref r2, V.ref r3, V.ref r4] ++ [V.ref r5, V.ref r6, V.ref r7])) lk = some (HO.lst (([r0, r1, r2, r3, r4, r5, r6, r7] : List Addr).map V.ref)) := upd_same
    have slk : Same K31 (upd K31 lk (HO.lst ([V.ref r0, V.ref r1, V.ref r2, V.ref r3, V.ref r4] ++ [V.ref r5, V.ref r6, V.ref r7]))) := same_upd nlk
    generalize upd K31 lk (HO.lst ([V.ref r0, V.ref r1, V.ref r2, V.ref r3, V.ref r4] ++ [V.ref r5, V.ref r6, V.ref r7])) = KK at elk slk ⊢
    obtain ⟨rs, lrs, elk, kr⟩ : ∃ rs : List Addr, rs.length = 8 ∧ KK lk = some (.lst (rs.map V.ref)) ∧ ∀ j, j < 8 → ∃ r, rs[j]? = some r ∧ RL KK r (kn j) := ⟨_, rfl, elk, fun j hj => by
      match j, hj with
      | 0, _ => exact ⟨r0, rfl, kr0.same slk⟩
      | 1, _ => exact ⟨r1, rfl, kr1.same slk⟩
      | 2, _ => exact ⟨r2, rfl, kr2.same slk⟩
      | 3, _ => exact ⟨r3, rfl, kr3.same slk⟩
      | 4, _ => exact ⟨r4, rfl, kr4.same slk⟩
      | 5, _ => exact ⟨r5, rfl, kr5.same slk⟩
      | 6, _ => exact ⟨r6, rfl, kr6.same slk⟩
      | 7, _ => exact ⟨r7, rfl, kr7.same slk⟩⟩
    have hPK : Pen KK p lc 0 := hP.same (S0.trans slk)
    clear kr0 kr1 kr2 kr3 kr4 kr5 kr6 kr7 S0 S1 S2 S3 S4 S5 S6 S7 S8 S9 S10 S11 S12 S13 S14 S15 S16 S17 S18 S19 S20 S21 S22 S23 S24 S25 S26 S27 S28 S29 S30 S31
    have lkp : lk ≠ p := by
      obtain ⟨_, _, _, _, _, gp1, _⟩ := id hPK
      exact ne_of elk gp1.1 (by intro z; cases z)
    refine ⟨4, rfl, by decide, by decide, for_range (lo := 0) (n := 4) (fun i σ H => ∃ v3 v4 v5 v6 v7 v8 v9 v10 v11 v12 v13 : Option V, σ = [some (.ref sc), some (.ref p), some (.ref lk), v3, v4, v5, v6, v7, v8, v9, v10, v11, v12, v13] ∧ Kp p KK H ∧ Pen H p lc (10000 * i))
      ⟨none, none, none, none, none, none, none, none, none, none, none, rfl, Kp.of (Same.refl _), hPK.more (by decide)⟩ ?_ ?_⟩
    · rintro i σ H ih ⟨v3, v4, v5, v6, v7, v8, v9, v10, v11, v12, v13, rfl, kk, hP0⟩
      refine ⟨_, rfl, lk, _, rfl, .inl (SqL.of (kk _ _ lkp elk)), fun ll nll => ?_⟩
      have ell : upd H ll (HO.lst (rs.map V.ref)) ll = some (HO.lst (rs.map V.ref)) := upd_same
      have s1 : Same H (upd H ll (HO.lst (rs.map V.ref))) := same_upd nll
      obtain ⟨llp, llc⟩ := hP0.ne_new nll
      generalize upd H ll (HO.lst (rs.map V.ref)) = Ha at ell s1 ⊢
      have hPa := hP0.same s1
      refine ⟨5, rfl, by decide, by decide, fun D hD => lc_range (lo := 0) (n := 5) (fun j H' => Same Ha H' ∧ ∃ zs : List Addr, H' D = some (.lst (zs.map V.ref)) ∧ zs.length = j ∧ ∀ z ∈ zs, z ≠ D ∧ Ha z = none ∧ RL H' z [1]) ⟨same_upd hD, [], upd_same, rfl, fun z hz => by cases hz⟩ ?_ ?_⟩
      · rintro j H' hj ⟨ss, zs, eD, lz, hz⟩
        refine ⟨rfl, ?_⟩
        refine ⟨(by show 2 ≤ sizeLine; decide), fun t nt => ?_⟩
        have et : TR (upd H' t (HO.tup [V.int 1, V.int 1])) t 1 := upd_same
        have s2 : Same H' (upd H' t (HO.tup [V.int 1, V.int 1])) := same_upd nt
        generalize upd H' t (HO.tup [V.int 1, V.int 1]) = H2 at et s2 ⊢
        refine ⟨(by show 1 ≤ sizeLine; decide), fun z nz => ?_⟩
        have ez : upd H2 z (HO.lst [V.ref t]) z = some (HO.lst (([t] : List Addr).map V.ref)) := upd_same
        have s3 : Same H2 (upd H2 z (HO.lst [V.ref t])) := same_upd nz
        generalize upd H2 z (HO.lst [V.ref t]) = H3 at ez s3 ⊢
        have s23 := s2.trans s3
        have eD3 := s23 _ _ eD
        have zD : z ≠ D := (ne_of_none (s2 _ _ eD) nz).symm
        have rz : RL H3 z [1] := ⟨[t], ez, .cons (s3 _ _ et) .nil⟩
        have nza : Ha z = none := (ss.trans s2).free nz
        refine ⟨_, eD3, (by rw [List.length_map, lz, sizeLine_eq]; omega), fun b o e => ?_, zs ++ [z], ?_, by rw [List.length_append, lz]; rfl, fun y hy => ?_⟩
        · rw [upd_ne (ne_of_none e hD)]
          exact s23 _ _ (ss _ _ e)
        · rw [upd_same, List.map_append]
          rfl
        · rcases List.mem_append.mp hy with h | h
          · obtain ⟨e1, e2, e3⟩ := hz y h
            exact ⟨e1, e2, RL.put eD3 upd_away e1 (e3.same s23)⟩
          · rw [List.mem_singleton.mp h]
            exact ⟨zD, nza, RL.put eD3 upd_away zD rz⟩
      · rintro Hb ⟨sb, zs, eD, lz, hz⟩
        obtain ⟨Dp, Dc⟩ := hPa.ne_new hD
        have hPb := hPa.same sb
        refine ⟨_, rfl, (by show 2 ≤ sizeLine; decide), fun a1 na1 => ?_⟩
        have e1 : TR (upd Hb a1 (HO.tup [V.int 1, V.int 1])) a1 1 := upd_same
        have s2 : Same Hb (upd Hb a1 (HO.tup [V.int 1, V.int 1])) := same_upd na1
        generalize upd Hb a1 (HO.tup [V.int 1, V.int 1]) = H2 at e1 s2 ⊢
        refine ⟨_, rfl, (by show 2 ≤ sizeLine; decide), fun a2 na2 => ?_⟩
        have e2 : TR (upd H2 a2 (HO.tup [V.int (-3), V.int 1])) a2 (-3) := tr_of upd_same (by decide +kernel)
        have s3 : Same H2 (upd H2 a2 (HO.tup [V.int (-3), V.int 1])) := same_upd na2
        generalize upd H2 a2 (HO.tup [V.int (-3), V.int 1]) = H3 at e2 s3 ⊢
        refine ⟨(by show 2 ≤ sizeLine; decide), fun a3 na3 => ?_⟩
        have e3 : TR (upd H3 a3 (HO.tup [V.int 2, V.int 7])) a3 ((2 : Rat) / 7) := tr_of upd_same (by decide +kernel)
        have s4 : Same H3 (upd H3 a3 (HO.tup [V.int 2, V.int 7])) := same_upd na3
        generalize upd H3 a3 (HO.tup [V.int 2, V.int 7]) = H4 at e3 s4 ⊢
        refine ⟨(by show 3 ≤ sizeLine; decide), fun a4 na4 => ?_⟩
        have e4 : upd H4 a4 (HO.lst [V.ref a1, V.ref a2, V.ref a3]) a4 = some (HO.lst [V.ref a1, V.ref a2, V.ref a3]) := upd_same
        have s5 : Same H4 (upd H4 a4 (HO.lst [V.ref a1, V.ref a2, V.ref a3])) := same_upd na4
        have sb4 := s2.trans (s3.trans s4)
        have a4p := ((hPb.same sb4).ne_new na4).1
        generalize upd H4 a4 (HO.lst [V.ref a1, V.ref a2, V.ref a3]) = H5 at e4 s5 ⊢
        have hP5 := hPb.same (sb4.trans s5)
        refine ⟨p, lc, a4, _, _, rfl, hP5, by omega, e4, a4p, (by show 0 < 3; decide), (by show 3 < 1000000; decide), fun x H6 hx hP6 k6 => ?_⟩
        have tk : ∀ {b : Addr} {q : Rat}, TR H5 b q → TR H6 b q := fun {b q} e => k6 _ _ (by
          obtain ⟨_, _, _, _, _, gp1, _⟩ := id hP5
          exact ne_of e gp1.1 (by intro z; cases z)) e
        obtain ⟨xa, c, rfl, tx, c0, fc⟩ : ∃ xa c, x = .ref xa ∧ TR H6 xa c ∧ c ≠ 0 ∧ Fr 7 21 c := by
          simp only [List.mem_cons, List.not_mem_nil, or_false] at hx
          rcases hx with h | h | h
          · exact ⟨_, _, h, tk (s5 _ _ (s4 _ _ (s3 _ _ e1))), by decide +kernel, 7, by decide +kernel, by decide⟩
          · exact ⟨_, _, h, tk (s5 _ _ (s4 _ _ e2)), by decide +kernel, -21, by decide +kernel, by decide⟩
          · exact ⟨_, _, h, tk (s5 _ _ e3), by decide +kernel, 2, by decide +kernel, by decide⟩
        have ll6 : H6 ll = some (.lst (rs.map V.ref)) := k6 _ _ llp ((sb4.trans s5) _ _ (sb _ _ ell))
        have eD6 : H6 D = some (.lst (zs.map V.ref)) := k6 _ _ Dp ((sb4.trans s5) _ _ eD)
        refine ⟨(by show 1 ≤ sizeLine; decide), fun lw nlw => ?_⟩
        have elw : upd H6 lw (HO.lst [V.ref xa]) lw = some (HO.lst (([xa] : List Addr).map V.ref)) := upd_same
        have s7 : Same H6 (upd H6 lw (HO.lst [V.ref xa])) := same_upd nlw
        have lwl : lw ≠ ll := (ne_of_none ll6 nlw).symm
        have lwD : lw ≠ D := (ne_of_none eD6 nlw).symm
        generalize upd H6 lw (HO.lst [V.ref xa]) = H7 at elw s7 ⊢
        have hP7 := hP6.same s7
        refine ⟨_, _, _, rfl, ?_⟩
        dsimp only
        refine ⟨_, rfl, p, lc, _, 4, rfl, hP7, by omega, by decide, by decide, fun w H8 w0 w1 hP8 k8 => ⟨w, rfl, by omega, by omega, for_range (lo := 0) (n := w.toNat) (fun k σ H' => ∃ (v7 v8 v9 v10 v11 v12 v13 : Option V) (idx : List Nat) (lf : List Addr) (l : List (Nat × Nat)) (ps : List Addr) (wl : Addr) (A : List Rat), σ = [some (.ref sc), some (.ref p), some (.ref lk), some (.int (0 + (i : Int))), some (.ref ll), some (.ref D), some (.ref wl), v7, v8, v9, v10, v11, v12, v13] ∧ Kp p H H' ∧ Pen H' p lc (10000 * (i : Int) + 100 + 1000 * (k : Int)) ∧ Lap6 rs H' ll D wl c k idx lf l ps A) ?_ ?_ ?_⟩⟩
        · have k28 : Kp p Ha H8 := (((Kp.of sb).trans (Kp.of (sb4.trans s5))).trans k6).trans ((Kp.of s7).trans k8)
          have rw0 : RL H7 lw [c] := ⟨[xa], elw, .cons (s7 _ _ tx) .nil⟩
          refine ⟨_, _, _, _, _, _, _, List.range 8, rs, [], zs, lw, [c], rfl, (Kp.of s1).trans k28, hP8.more (by omega), ⟨List.nodup_range, by rw [List.length_range], by rw [List.length_range]; exact lrs, fun j t hj => ?_, List.nodup_nil, (fun q hq => absurd hq List.not_mem_nil), Nat.le_refl _, Nat.zero_le _, k28 _ _ llp ell, ?_, lz, fun m m1 m4 => ?_, lwD, lwl, ?_, ?_, rfl, fun x => ?_⟩⟩
          · have hj8 : j < 8 := by
              have := (List.getElem?_eq_some_iff.mp hj).1
              rw [List.length_range] at this
              exact this
            rw [List.getElem?_range hj8] at hj
            cases hj
            obtain ⟨r, hr', _⟩ := kr j hj8
            exact ⟨hj8, by simp, r, hr', hr'⟩
          · exact k8 _ _ Dp (s7 _ _ eD6)
          · obtain ⟨z, hzz⟩ : ∃ z, zs[m]? = some z := ⟨_, List.getElem?_eq_getElem (by omega)⟩
            obtain ⟨z1, z2, z3⟩ := hz z (List.mem_of_getElem? hzz)
            have zb : RL H8 z [1] := (((z3.same (sb4.trans s5)).kp hP5 k6).same s7).kp hP7 k8
            exact ⟨z, hzz, z1, (ne_of_none ell z2).symm, zb⟩
          · exact rw0.kp hP7 k8
          · intro r x e
            have := (List.append_inj' (s₁ := []) (t₁ := [c]) e rfl).2
            cases this
            exact c0
          · show c + x * 0 = c * (1 + x * 0)
            grind
        · rintro k σ H9 hk ⟨v7, v8, v9, v10, v11, v12, v13, idx, lf, l, ps, wl, A, rfl, kH, hP9, L⟩
          have fl := L.fl
          have li := L.li
          have hk3 : k < 3 := by omega
          refine ⟨_, rfl, .inl ⟨rfl, _, SqL.of L.el⟩, _, rfl, _, rfl, ll, _, rfl, .inl (SqL.of L.el), ?_⟩
          rw [List.length_map]
          refine ⟨p, lc, _, _, rfl, hP9, by omega, by omega, by omega, fun z Hc z0 z1 hPc kc => ?_⟩
          obtain ⟨j, hj⟩ : ∃ j : Nat, z = (j : Int) := ⟨z.toNat, by omega⟩
          subst hj
          have hjl : j < lf.length := by omega
          obtain ⟨ti, hti⟩ : ∃ t : Nat, idx[j]? = some t := ⟨_, List.getElem?_eq_getElem (by omega)⟩
          obtain ⟨ti8, tin, r, hr1, hr2⟩ := L.fi j ti hti
          have elc := kc _ _ llp L.el
          refine ⟨ll, _, _, j, .ref r, rfl, rfl, elc, by omega, by omega, ?_, by rw [List.getElem?_map, hr1]; rfl, ?_⟩
          · rw [List.length_map]
            unfold seqIndex?
            dsimp only
            rw [if_neg (show ¬ (j : Int) < 0 by omega), decide_eq_true (show (0 : Int) ≤ (j : Int) by omega), decide_eq_true (show (j : Int) < (lf.length : Int) by omega)]
            show some ((j : Int).toNat) = some j
            rw [Int.toNat_natCast]
          have eld : upd Hc ll (HO.lst ((lf.map V.ref).eraseIdx j)) ll = some (HO.lst ((lf.eraseIdx j).map V.ref)) := by
            rw [upd_same]
            congr 2
            exact erase_map _ _ _
          have kd : ∀ c u, c ≠ ll → Hc c = some u → upd Hc ll (HO.lst ((lf.map V.ref).eraseIdx j)) c = some u := fun c u h1 h2 => upd_away c u h1 h2
          have hPd := hPc.put (H' := upd Hc ll (HO.lst ((lf.map V.ref).eraseIdx j))) kd llp llc
          generalize upd Hc ll (HO.lst ((lf.map V.ref).eraseIdx j)) = Hd at eld kd hPd ⊢
          refine ⟨_, rfl, p, lc, _, 4, rfl, hPd, by omega, by decide, by decide, fun y He y0 y1 hPe ke => ⟨_, _, rfl, rfl, ?_⟩⟩
          refine ⟨_, _, rfl, ?_⟩
          dsimp only
          obtain ⟨m, hm⟩ : ∃ m : Nat, 1 + y = ((m : Nat) : Int) := ⟨(1 + y).toNat, by omega⟩
          rw [hm]
          have m1 : 1 ≤ m ∧ m ≤ 4 := by omega
          have Dll : D ≠ ll := (ne_of_none ell hD).symm
          obtain ⟨Lp, tiN⟩ := L.pop hti (ke _ _ llp eld) (ke _ _ Dp (kd _ _ Dll (kc _ _ Dp L.eD))) (fun nz h => (RL.put elc kd nz (h.kp hP9 kc)).kp hPd ke)
          have kHe : Kp p H He := fun b o nb eb => ke b _ nb (kd b _ (ne_of_none eb nll) (kc b _ nb (kH b o nb eb)))
          obtain ⟨r', hr', rOne0⟩ := kr ti ti8
          rw [hr2] at hr'
          cases hr'
          have rOne : RL He r (kn ti) := (rOne0.kp hPK kk).kp hP0 kHe
          obtain ⟨was, ew, tw⟩ := id Lp.rw'
          obtain ⟨oas, eo, to⟩ := id rOne
          have lwa := tw.lenQ
          have loa := to.lenQ
          have lkn := kn_sz ti ti8
          have rOne0' := rOne0.kp hPK kk
          clear rOne0 hr2 hr1 kd eld elc kc ke hPc hPd
          refine ⟨_, rfl, wl, _, rfl, .inl (SqL.of ew), _, rfl, _, rfl, r, _, rfl, .inl (SqL.of eo), ?_⟩
          rw [List.length_map, List.length_map, lwa, loa]
          refine ⟨_, _, rfl, rfl, _, _, rfl, rfl, wide_mul (a := 10) (b := 10) (by omega) (by omega) (by decide) (by decide) (by decide), _, _, rfl, rfl, _, _, rfl, rfl, ?_⟩
          have em : (m : Int) * (((kn ti).length : Int) - 1) = ((m * ((kn ti).length - 1) : Nat) : Int) := by
            rw [Int.natCast_mul]
            congr 1
            omega
          rw [em]
          by_cases big : 13 < A.length + m * ((kn ti).length - 1)
          · refine ⟨true, congrArg V.bl (decide_eq_true (by omega)), ?_⟩
            refine iteT ?_
            exact ⟨_, _, _, _, _, _, _, _, _, l, ps, wl, A, rfl, kHe, hPe.more (by omega), Lp⟩
          · refine ⟨false, congrArg V.bl (decide_eq_false (by omega)), ?_⟩
            refine iteF ?_
            dsimp only [tNext]
            obtain ⟨zp, hzp, zD, zll, rz⟩ := Lp.pr m m1.1 m1.2
            refine ⟨_, rfl, _, rfl, D, _, _, .ref zp, rfl, rfl, SqL.of Lp.eD, at_of (j := m) rfl (by rw [List.getElem?_map, hzp]; rfl), _, rfl, ?_⟩
            have l8 : ∀ q ∈ l, q.1 < 8 := fun q hq => (Lp.t8 q hq).1
            have l3 : l.length ≤ 3 := by have := L.tl; omega
            have lP := prP_le (m - 1) l l8
            refine tnil_i ?_
            refine ⟨zp, r, prP (tkr l) (m - 1), kn ti, 6 ^ l.length, 2 ^ (10 * l.length), 6, 2 ^ 5, rfl, rz, rOne, by omega, by omega, Nat.pow_pos (by decide), by decide, Nat.pow_pos (by decide), by decide, szP (m - 1) l l8 l3, okG_fr (kn_sg ti ti8).1, ?_, ?_, fun lz Hf sf nf rf => ?_⟩
            · have h5 := Nat.mul_le_mul (Nat.pow_le_pow_left (show 6 ≤ 2 ^ 3 by decide) l.length) (show 6 ≤ 2 ^ 3 by decide)
              rw [← Nat.pow_mul, ← Nat.pow_add] at h5
              exact Nat.lt_of_le_of_lt h5 (Nat.pow_lt_pow_right (by decide) (by omega))
            · have h5 := Nat.mul_le_mul (show 41 ≤ 2 ^ 6 by decide) (Nat.le_refl (2 ^ (10 * l.length + 5)))
              rw [← Nat.pow_add] at h5
              rw [← Nat.pow_add (m := 10 * l.length)]
              exact Nat.lt_of_le_of_lt h5 (Nat.pow_lt_pow_right (by decide) (by omega))
            have eDf := sf _ _ Lp.eD
            have hix : ixN (ps.map V.ref).length ((m : Nat) : Int) = some m := by
              unfold ixN
              rw [if_pos (by omega), List.length_map, Lp.pl, if_pos (by omega)]
              rfl
            refine ⟨_, rfl, _, rfl, D, _, _, m, rfl, rfl, eDf, hix, ?_⟩
            have hPf := hPe.same sf
            have lzll : lz ≠ ll := (ne_of_none Lp.el nf).symm
            have lzD : lz ≠ D := (ne_of_none Lp.eD nf).symm
            have eDs : upd Hf D (HO.lst ((ps.map V.ref).set m (V.ref lz))) D = some (HO.lst ((ps.set m lz).map V.ref)) := by rw [upd_same, List.map_set]
            have kD : ∀ c u, c ≠ D → Hf c = some u → upd Hf D (HO.lst ((ps.map V.ref).set m (V.ref lz))) c = some u := fun c u h1 h2 => upd_away c u h1 h2
            have hPg := hPf.put (H' := upd Hf D (HO.lst ((ps.map V.ref).set m (V.ref lz)))) kD Dp Dc
            dsimp only
            generalize upd Hf D (HO.lst ((ps.map V.ref).set m (V.ref lz))) = Hg at eDs kD hPg ⊢
            have g1 : ∀ {z : Addr} {B : List Rat}, z ≠ D → RL He z B → RL Hg z B := fun nz h => RL.put eDf kD nz (h.same sf)
            have rD : r ≠ D := fun z => by
              obtain ⟨as, e, _⟩ := rOne0'
              exact ne_of_none e (s1.free hD) z
            have lo := Lp.lA
            have hdE := Lp.td
            have l4 : ∀ q ∈ l, q.2 ≤ 4 := fun q hq => (Lp.t8 q hq).2.1
            have rG := g1 rD rOne
            have elg : Hg ll = some (.lst (_ : List V)) := kD _ _ (Ne.symm Dll) (sf _ _ Lp.el)
            refine ⟨_, rfl, _, rfl, by omega, by omega, for_range (lo := 0) (n := ((m : Nat) : Int).toNat) (fun t σ H' => ∃ (v10 : Option V) (wl' : Addr) (A' : List Rat), σ = [some (.ref sc), some (.ref p), some (.ref lk), some (.int (0 + (i : Int))), some (.ref ll), some (.ref D), some (.ref wl'), some (.int (0 + (k : Int))), some (.ref r), some (.int (m : Int)), v10, v11, v12, v13] ∧ Same Hg H' ∧ wl' ≠ D ∧ wl' ≠ ll ∧ RL H' wl' A' ∧ Stp A' ∧ A'.length = A.length + t * ((kn ti).length - 1) ∧ ∀ x, ev A' x = ev A x * ev (pw (kn ti) t) x) ⟨_, wl, A, rfl, Same.refl _, Lp.wd, Lp.wll, g1 Lp.wd Lp.rw', Lp.sA, by rw [Nat.zero_mul]; rfl, fun x => by show _ = _ * (1 + x * 0); grind⟩ ?_ ?_⟩
            · rintro t σ Hh ht ⟨v10, wl', A', rfl, sh, w1, w2, rA, sA', lA', eA'⟩
              refine ⟨_, rfl, _, rfl, ?_⟩
              refine tnil_i ?_
              have htm : t < m := by omega
              have lt12 : t * ((kn ti).length - 1) + ((kn ti).length - 1) ≤ m * ((kn ti).length - 1) := by
                have := Nat.mul_le_mul_right ((kn ti).length - 1) (show t + 1 ≤ m by omega)
                rw [Nat.succ_mul] at this
                exact this
              have fA := szA (A' := A') (t := t) l8 l4 hdE ti8 (by omega) fc (fun x => by rw [eA', Lp.eA])
              refine ⟨wl', r, A', kn ti, 1296 ^ l.length * 1296 * 7, 32 * (2 ^ (22 * l.length) * 2 ^ 17) * 21, 6, 2 ^ 5, rfl, rA, rG.same sh, by omega, by omega, Nat.mul_pos (Nat.mul_pos (Nat.pow_pos (by decide)) (by decide)) (by decide), by decide, Nat.mul_pos (Nat.mul_pos (by decide) (Nat.mul_pos (Nat.pow_pos (by decide)) (by decide))) (by decide), by decide, fA, okG_fr (kn_sg ti ti8).1, szM l3, szN l3, fun lz' Hi si ni ri => ?_⟩
              have nA' : A' ≠ [] := fun z => by rw [z, List.length_nil] at lA'; omega
              have ln := len_mul_eq sA' (kn_mo ti8).s (stripQ_stp (pmul A' (kn ti))) nA' (kn_mo ti8).n fun x => by rw [ev_stripQ, ev_pmul]
              refine ⟨_, lz', stripQ (pmul A' (kn ti)), rfl, sh.trans si, (ne_of_none (sh _ _ eDs) ni).symm, (ne_of_none (sh _ _ elg) ni).symm, ri, stripQ_stp _, ?_, fun x => ?_⟩
              · rw [Nat.succ_mul]
                omega
              · rw [ev_stripQ, ev_pmul, eA', ev_pw]
                grind
            · rintro σ Hh ⟨v10, wl', A', rfl, sh, w1, w2, rA, sA', lA', eA'⟩
              rw [Int.toNat_natCast] at lA' eA'
              have nDH : H D = none := s1.free hD
              have kHh : Kp p H Hh := fun b o nb eb => sh _ _ (kD b o (ne_of_none eb nDH) (sf _ _ (kHe b o nb eb)))
              have LL := Lp.took (Hh := Hh) (lz := lz) (by have := L.tl; omega) ti8 tin tiN m1 big (sh _ _ elg) (sh _ _ eDs) lzD lzll ((RL.put eDf kD lzD rf).same sh) (fun nz h => (g1 nz h).same sh) w1 w2 rA sA' lA' eA'
              exact ⟨_, _, _, _, _, _, _, _, _, _, _, _, _, rfl, kHh, (hPg.same sh).more (by omega), LL⟩
        · rintro σ H9 ⟨v7, v8, v9, v10, v11, v12, v13, idx, lf, l, ps, wl, A, rfl, kH, hP9, L⟩
          have l8 : ∀ q ∈ l, q.1 < 8 := fun q hq => (L.t8 q hq).1
          have l4 : ∀ q ∈ l, q.2 ≤ 4 := fun q hq => (L.t8 q hq).2.1
          have l3 : l.length ≤ 3 := by have := L.tl; omega
          have eD9 := L.eD
          obtain ⟨n, n4, top, has⟩ := top6 l l4
          refine ⟨_, rfl, _, rfl, D, _, rfl, SqL.of eD9, fun d1 nd1 => ?_⟩
          rw [cut1]
          have ed1 : upd H9 d1 (HO.lst ((ps.map V.ref).drop 1)) d1 = some (HO.lst ((ps.map V.ref).drop 1)) := upd_same
          have s10 : Same H9 (upd H9 d1 (HO.lst ((ps.map V.ref).drop 1))) := same_upd nd1
          generalize upd H9 d1 (HO.lst ((ps.map V.ref).drop 1)) = H10 at ed1 s10 ⊢
          have hl4 : ((ps.map V.ref).drop 1).length = 4 := by rw [List.length_drop, List.length_map, L.pl]
          refine ⟨d1, rfl, lc_seq (.inl (SqL.of ed1)) (fun E k H' => Same H10 H' ∧ ∃ ts : List Addr, H' E = some (.lst (ts.map V.ref)) ∧ T6s H' ts k (prP (tkr l))) ?_ ?_ ?_ ?_⟩
          · intro E hE
            exact ⟨same_upd hE, [], upd_same, T6s.nil⟩
          · intro E k H' hE ⟨s', _⟩
            exact ⟨same_sqL s', same_sqT s'⟩
          · intro E k v H' hE hk ⟨s', ts, eE, hts⟩
            refine ⟨rfl, ?_⟩
            have hk4 : k < 4 := by
              have := (List.getElem?_eq_some_iff.mp hk).1
              omega
            obtain ⟨z, hz1, _, _, hz4⟩ := L.pr (k + 1) (by omega) (by omega)
            rw [List.getElem?_drop, Nat.add_comm 1 k, List.getElem?_map, hz1] at hk
            cases hk
            obtain ⟨zas, ez, tz⟩ := (hz4.same s10).same s'
            refine ⟨_, rfl, z, _, rfl, .inl ⟨SqL.of ez, fun l' nl => ?_⟩⟩
            have el : upd H' l' (HO.tup (zas.map V.ref)) l' = some (HO.tup (zas.map V.ref)) := upd_same
            have sl : Same H' (upd H' l' (HO.tup (zas.map V.ref))) := same_upd nl
            generalize upd H' l' (HO.tup (zas.map V.ref)) = H'' at el sl ⊢
            have eE2 := sl _ _ eE
            have tql : TQ H'' l' (prP (tkr l) k) := ⟨zas, el, tz.same sl⟩
            refine ⟨_, eE2, (by rw [List.length_map, hts.l, sizeLine_eq]; omega), fun b o e => ?_, ts ++ [l'], by rw [upd_same, List.map_append]; rfl, ((hts.imp fun h => h.same sl).imp fun h => h.put eE2 upd_away).snoc (tql.put eE2 upd_away)⟩
            rw [upd_ne (ne_of_none e hE)]
            exact sl _ _ (s' _ _ e)
          · intro D2 H11 hD2 ⟨s11, ts, eD2, hts⟩
            rw [hl4] at hts
            have s911 := s10.trans s11
            have hP10 := hP9.same s10
            obtain ⟨D2p, D2c⟩ := hP10.ne_new hD2
            have wlD2 : wl ≠ D2 := by
              obtain ⟨was, ew, _⟩ := (L.rw').same s10
              exact ne_of_none ew hD2
            have D2free : ∀ b o, b ≠ p → H b = some o → b ≠ D2 := fun b o nb e => ne_of_none (s10 _ _ (kH b o nb e)) hD2
            refine ⟨4, rfl, by decide, by decide, for_range (lo := 0) (n := 4) (fun t σ H' => ∃ (v10 : Option V) (j : Nat) (ts : List Addr), σ = [some (.ref sc), some (.ref p), some (.ref lk), some (.int (0 + (i : Int))), some (.ref ll), some (.ref D), some (.ref wl), v7, v8, v9, v10, some (.ref D2), v12, v13] ∧ Kp p H H' ∧ Pen H' p lc (10000 * (i : Int) + 100 + 1000 * (w.toNat : Int)) ∧ RL H' wl A ∧ H' D2 = some (.lst (ts.map V.ref)) ∧ T6s H' ts j (prP (tkr l)) ∧ n ≤ j ∧ (j = n ∨ j + t = 4))
              ⟨_, 4, ts, rfl, kH.trans (Kp.of s911), hP9.same s911, (L.rw').same s911, eD2, hts, n4, .inr rfl⟩ ?_ ?_⟩
            · rintro t σ H12 ht ⟨v10, j, ts, rfl, kH12, hP12, rw12, eD12, hts12, hnj, hjt⟩
              refine ⟨_, rfl, ?_⟩
              refine tnil_i ⟨Nat.zero_le _, fun e1 ne1 => ?_⟩
              have ee1 : upd H12 e1 (HO.lst []) e1 = some (HO.lst (([] : List V))) := upd_same
              have s13 : Same H12 (upd H12 e1 (HO.lst [])) := same_upd ne1
              generalize upd H12 e1 (HO.lst []) = H13 at ee1 s13 ⊢
              have hts13 := hts12.imp fun h => h.same s13
              have eD13 := s13 _ _ eD12
              refine ⟨.list (tabD j (prP (tkr l))), .list [], .lst (SqL.of eD13) hts13.dts, .lst (SqL.of ee1) .nil, plain_tabL _ _, by decide, depth_tabL _ _, ?_⟩
              rw [eqv_nil]
              refine ⟨_, rfl, ?_⟩
              by_cases j0 : j = 0
              · rw [decide_eq_true j0]
                refine iteF ?_
                refine iteF ?_
                dsimp only [tNext]
                exact ⟨_, j, ts, rfl, kH12.trans (Kp.of s13), hP12.same s13, rw12.same s13, eD13, hts13, hnj, by omega⟩
              · rw [decide_eq_false j0]
                refine iteT ?_
                obtain ⟨j', rfl⟩ : ∃ j', j = j' + 1 := ⟨j - 1, by omega⟩
                obtain ⟨tq, gq, hq⟩ := hts13.p j' (by omega)
                refine ⟨_, rfl, _, rfl, D2, _, _, .ref tq, rfl, rfl, SqL.of eD13, at_neg (n := j') (by decide) (by rw [List.getElem?_map, gq]; rfl) (by rw [List.length_map, hts13.l]; omega), ?_⟩
                refine ⟨(by show 2 ≤ sizeLine; decide), fun u1 nu1 => ?_⟩
                have eu1 : TR (upd H13 u1 (HO.tup [V.int 1, V.int 1])) u1 1 := upd_same
                have s14 : Same H13 (upd H13 u1 (HO.tup [V.int 1, V.int 1])) := same_upd nu1
                generalize upd H13 u1 (HO.tup [V.int 1, V.int 1]) = H14 at eu1 s14 ⊢
                refine ⟨(by show 1 ≤ sizeLine; decide), fun u2 nu2 => ?_⟩
                have eu2 : upd H14 u2 (HO.tup [V.ref u1]) u2 = some (HO.tup (([u1] : List Addr).map V.ref)) := upd_same
                have s15 : Same H14 (upd H14 u2 (HO.tup [V.ref u1])) := same_upd nu2
                generalize upd H14 u2 (HO.tup [V.ref u1]) = H15 at eu2 s15 ⊢
                have s135 := s14.trans s15
                have tqu : TQ H15 u2 [1] := ⟨[u1], eu2, .cons (s15 _ _ eu1) .nil⟩
                have hts15 := hts13.imp fun h => h.same s135
                have eD15 := s135 _ _ eD13
                have s1215 := s13.trans s135
                refine ⟨_, _, (hq.same s135).dt, tqu.dt, (plain_row _).1, (plain_row _).1, (depth_row _).1, ?_⟩
                rw [show PyData.eqv (dR (prP (tkr l) j')) (dR [1]) = decide (prP (tkr l) j' = [1]) from (eqv_row _ _).trans (by rw [pq_one]; exact is_one)]
                refine ⟨_, rfl, ?_⟩
                by_cases jn : j' + 1 = n
                · have h2 := prP_two (k := j') l8 (by
                    rcases has with y | y
                    · omega
                    · rw [jn]; exact y)
                  rw [decide_eq_false (fun z => by rw [z] at h2; exact absurd h2 (by decide))]
                  refine iteF ?_
                  dsimp only [tNext]
                  exact ⟨_, j' + 1, ts, rfl, kH12.trans (Kp.of s1215), hP12.same s1215, rw12.same s1215, eD15, hts15, hnj, .inl jn⟩
                · rw [decide_eq_true (prP_one fun q hq => by have := top q hq; omega)]
                  refine iteT ?_
                  refine ⟨_, rfl, .inl ⟨rfl, _, SqL.of eD15⟩, D2, _, .ref tq, rfl, rfl, eD15, ?_, ?_⟩
                  · rw [List.length_map, hts15.l, List.getElem?_map, Nat.add_sub_cancel, gq]
                    rfl
                  · have kd : ∀ c u, c ≠ D2 → H15 c = some u → upd H15 D2 (HO.lst (ts.map V.ref).dropLast) c = some u := fun c u h1 h2 => upd_away c u h1 h2
                    have P15 := hP12.same s1215
                    have k15 := kH12.trans (Kp.of s1215)
                    exact ⟨_, j', ts.dropLast, rfl, fun b o nb e => kd b o (D2free b o nb e) (k15 b o nb e), P15.put kd D2p D2c, RL.put eD15 kd wlD2 (rw12.same s1215), by rw [upd_same, List.map_dropLast], hts15.drop.imp fun h => h.put eD15 kd, by omega, by omega⟩
            · rintro σ H12 ⟨v10, j, ts, rfl, kH12, hP12, rw12, eD12, hts12, hnj, hjt⟩
              have hjn : j = n := by omega
              subst hjn
              have hm := tk_mos l8
              have lA := L.lA
              have tD := L.td
              obtain ⟨fA, okA⟩ := szW l8 l4 l3 L.td fc L.sA (by omega) L.eA
              have du := due6 L.tn l8 l4 l3 L.td top has
              have mA : mon A = prE (tkr l) 0 := (mon_scale (mo_E 0 hm).1.s L.sA c0 L.eA).trans (mon_mo (mo_E 0 hm).1)
              refine ⟨_, rfl, _, rfl, ?_⟩
              refine tnil_i ?_
              refine ⟨p, lc, wl, _, A, rfl, hP12, by omega, rw12, by omega, stripQ_id L.sA, okA, fun x H13 hP13 k13 pA => ?_⟩
              refine tnil_i ?_
              refine ⟨x, A, _, _, j, prE (tkr l), prR (tkr l), prP (tkr l), rfl, pA, fA, mA, by omega, du.c, du.e, du.f, du.t, du.r, fun t ys H14 s14 et hp => ?_⟩
              have kT : PySem.W.kitOne K (.type "tuple") (.type "tuple") = some true := by unfold PySem.W.kitOne; rw [if_pos (by simp)]
              have eD14 := s14 _ _ (k13 _ _ D2p eD12)
              have hts14 := (hts12.imp fun h => h.kp hP12 k13).imp fun h => h.same s14
              have kH14 : Kp p H H14 := (kH12.trans k13).trans (Kp.of s14)
              have hP14 := hP13.same s14
              refine ⟨_, rfl, .ref t, .ty "tuple", _, .type "tuple", true, rfl, .ty _, .base (.tup et), kT, _, rfl, ?_⟩
              refine iteF ?_
              refine ⟨_, rfl, t, rfl, lc_seq (.inr (SqT.of et)) (fun E k H' => Same H14 H' ∧ ∃ zs : List Addr, H' E = some (.lst (zs.map V.ref)) ∧ T6s H' zs k (prP (tkr l))) ?_ ?_ ?_ ?_⟩
              · intro E hE
                exact ⟨same_upd hE, [], upd_same, T6s.nil⟩
              · intro E k H' hE ⟨s', _⟩
                exact ⟨same_sqL s', same_sqT s'⟩
              · intro E k v H' hE hk ⟨s', zs, eE, hzs⟩
                refine ⟨rfl, ?_⟩
                have hkn : k < j := by
                  have := (List.getElem?_eq_some_iff.mp hk).1
                  rw [List.length_map, hp.l] at this
                  exact this
                obtain ⟨y, gy, py⟩ := hp.p k hkn
                rw [List.getElem?_map, gy] at hk
                cases hk
                obtain ⟨dx, tx, as, hx1, hx2, hx3⟩ := py.same s'
                refine ⟨_, rfl, y, CP, dx, _, .ref tx, rfl, hx1, PM.C.cl, PM.C.nf, (by kernel_rfl), ?_⟩
                refine ⟨_, eE, (by rw [List.length_map, hzs.l, sizeLine_eq]; omega), fun b o e => ?_, zs ++ [tx], by rw [upd_same, List.map_append]; rfl, (hzs.imp fun h => h.put eE upd_away).snoc (TQ.put eE upd_away ⟨as, hx2, hx3⟩)⟩
                rw [upd_ne (ne_of_none e hE)]
                exact s' _ _ e
              · intro E H15 hE ⟨s15, zs, eE, hzs⟩
                rw [List.length_map, hp.l] at hzs
                refine ⟨_, rfl, neT_same (d := .list (tabD j (prP (tkr l)))) (.lst (SqL.of eE) hzs.dts) (.lst (SqL.of (s15 _ _ eD14)) (hts14.imp fun h => h.same s15).dts) (plain_tabL _ _) (depth_tabL _ _) ?_⟩
                refine ⟨_, rfl, ?_⟩
                refine iteF ?_
                dsimp only [tNext]
                exact ⟨_, _, _, _, _, _, _, _, _, _, _, rfl, kk.trans (kH14.trans (Kp.of s15)), (hP14.same s15).more (by omega)⟩
    · rintro σ H ⟨v3, v4, v5, v6, v7, v8, v9, v10, v11, v12, v13, rfl, kk, hP0⟩
      refine ⟨(by show 0 ≤ sizeLine; decide), fun t0 nt0 => ?_⟩
      have et0 : upd H t0 (HO.tup []) t0 = some (HO.tup ([] : List V)) := upd_same
      have s0 : Same H (upd H t0 (HO.tup [])) := same_upd nt0
      generalize upd H t0 (HO.tup []) = H7 at et0 s0 ⊢
      refine poly_0 et0 fun x1 Ha s1 p1 => ?_
      refine tnil_i ?_
      refine sp_end p1 fb_nil (Nat.zero_le _) fun t1 Hb s2 e1 => ?_
      refine ⟨(by show 0 ≤ sizeLine; decide), fun u1 nu1 => ?_⟩
      have eu1 : upd Hb u1 (HO.tup []) u1 = some (HO.tup ([] : List V)) := upd_same
      have s3 : Same Hb (upd Hb u1 (HO.tup [])) := same_upd nu1
      generalize upd Hb u1 (HO.tup []) = Hc at eu1 s3 ⊢
      refine eqT_nil (s3 _ _ e1) eu1 ?_
      refine ⟨_, rfl, ?_⟩
      refine iteT ?_
      have hPc := hP0.same (s0.trans (s1.trans (s2.trans s3)))
      refine ⟨_, rfl, p, lc, _, rfl, hPc, by omega, fun r q He hPe ke er zq bq => ?_⟩
      refine ⟨(by show 1 ≤ sizeLine; decide), fun tt ntt => ?_⟩
      have ett : upd He tt (HO.tup [V.ref r]) tt = some (HO.tup (([r] : List Addr).map V.ref)) := upd_same
      have s5 : Same He (upd He tt (HO.tup [V.ref r])) := same_upd ntt
      generalize upd He tt (HO.tup [V.ref r]) = Hf at ett s5 ⊢
      refine poly_q ⟨[r], ett, .cons (s5 _ _ er) .nil⟩ bq fun x2 Hh s6 p2 => ?_
      refine tnil_i ?_
      refine sp_end p2 (fb_q zq bq) (stripQ_le _) fun t2 Hi s7 e2 => ?_
      refine ⟨(by show 0 ≤ sizeLine; decide), fun u2 nu2 => ?_⟩
      have eu2 : upd Hi u2 (HO.tup []) u2 = some (HO.tup ([] : List V)) := upd_same
      have s8 : Same Hi (upd Hi u2 (HO.tup [])) := same_upd nu2
      generalize upd Hi u2 (HO.tup []) = Hj at eu2 s8 ⊢
      refine eqT_nil (s8 _ _ e2) eu2 ?_
      exact kend _
end
end Vf
set_option maxRecDepth 100000
set_option maxHeartbeats 4000000
namespace Vf
open PySem PySem.Spec PyProof.Rows L2
/-- what is known of the law's def at the heap behind the top -/
def LawG (l : PySem.W.OpenLaw) (w : World) (K : PySem.W.Frag) (C : CXT) (k n : Nat) (x : Str) (mg : Str → Option Value) (fa : Addr) (h : Heap) : Prop :=
  ∃ (fd : FuncData) (cs : List (Addr × Addr)) (sp : Sp), (∀ p ∈ cs, h.get? p.2 = some { cls := .none, data := .fields #[] }) ∧ (∀ p ∈ cs, K.lookup p.2 = none) ∧ (∀ p ∈ cs, PySem.W.CodeHd h p.1 p.2) ∧
    (∀ (s : Shared) (u : Value), BindsTo s fd ⟨[u], []⟩ [(x, u)]) ∧
    (∀ (H : Hp) (a : Addr) (ns : List Int), ns.length ≤ n → (∀ z ∈ ns, Builtin.Int.intBits z ≤ 1048576) → (∀ p ∈ cs, H p.2 = some (.tbl #[])) → SqL K H a (ns.map V.int) → sp [.ref a] H (fun v _ => v = .bl true) E0) ∧
    ∀ b : Heap, K.In b → b.Ns mainGlobals mg → M1 b → (∀ p ∈ cs, LamX.TabB b mg p.1 p.2) → FnG l.prog w K mg b C k fa fd [x] sp
theorem walkG {l : PySem.W.OpenLaw} {n k : Nat} {q : Program} {loose : List Str} {XP : (Str → Option Value) → Heap → Prop} {YP : World → Heap → Prop} {d : DefRec} {K : Params → PySem.W.Frag} {C : World → CXT} {x : Str}
    (hn : l.most = some n) (hn2 : n ≤ sizeLine) (hdf : d.params.defaults = []) (hr : Room k callerA) (hi : importsNone q = true) (hY : ∀ (w : World) (h : Heap), YP w h → (K w.params).In h)
    (F : ∀ (w : World) (mg : Str → Option Value) (fa : Addr) (h : Heap), YP w h → (K w.params).In h → h.Ns mainGlobals mg → mg d.name = some (.ref fa) → LawG l w (K w.params) (C w) k n x mg fa h)
    (hE : ∀ (w : World) (H : Hp) (s : Shared) (e : Value) (s' : Shared), C w [] H s E0 e s' → False) : PySem.W.WalkO q loose XP YP l.row.toRowW d [] (fun f vs => PySem.call f vs) := by
  refine Att.attach_callB hn hdf fun w s0 s1 mg mb fa o pm cd doc a vs ns G Y ho hd hcd hmg hobj hints hlen hbits hg => ?_
  have X := hY w _ Y
  obtain ⟨fd, cs, sp, hT, nT, hC, bind, hsp, hF⟩ := F w mg fa _ Y X G.T.g hmg
  have m1 : M1 s1.heap := by
    obtain ⟨mm, ⟨o, es, ep, e, dt, _⟩, _⟩ := (G.T.seer hi).mods
    exact ⟨o, es, ep, e, dt⟩
  exact law_enter X G.T.g G.T.b G.T.builtins G.T.nolimit hg hT nT hC G.T.bmain m1 hobj hints (Nat.le_trans hlen hn2) hr hF bind (fun H h1 h2 => hsp H a ns hlen hbits h1 h2) fun H e s' => hE w H s1 e s'
/-- an exception class, its facts in one look -/
def oexB (K : PySem.W.Frag) (C : Addr) : Bool :=
  decide (PySem.W.findIn K (.ref C) "__setattr__" = some (some (.builtin "object.__setattr__"))) && (decide (PySem.W.subIn K (.ref C) (.type "BaseException") = some true) &&
    (decide (PySem.W.typeIn K (.ref C) = some (.type "type")) && PySem.W.keepIn K (.ref C)))
theorem oexB_ok {K : PySem.W.Frag} {C : Addr} (h : oexB K C = true) (c : ∃ nm q N bs bm sn sub ab col dd k0 k1 k2 k3 k5, K.lookup C = some (excClassObj nm q C N bs bm true sn sub ab col dd k0 k1 k2 k3 k5 "ValueError.__new__") ∧ PySem.HandSPX.refsVE bm = true) : OexC K C := by
  obtain ⟨h1, h⟩ := Bool.and_eq_true_iff.mp h
  obtain ⟨h2, h⟩ := Bool.and_eq_true_iff.mp h
  obtain ⟨h3, h4⟩ := Bool.and_eq_true_iff.mp h
  exact ⟨c, of_decide_eq_true h1, of_decide_eq_true h2, of_decide_eq_true h3, h4⟩
end Vf
set_option maxRecDepth 100000
set_option maxHeartbeats 8000000
namespace Vf
open PySem PySem.Spec PyProof.Rows L2
def tyNames : List String := ["NoneType", "bool", "int", "str", "list", "tuple", "dict"]
def polyB (K : PySem.W.Frag) (CP : Addr) : Bool :=
  PySem.W.plainGet K CP Str.empty && (PySem.W.hasDictIn K CP && (PySem.W.plainOver K CP && (decide (PySem.W.findIn K (.ref CP) "__setattr__" = some (some (.builtin "object.__setattr__"))) && (decide (PySem.W.findIn K (.ref CP) "numbers" = some none) &&
  (decide (PySem.W.findIn K (.ref CP) "__class__" = some (some (.builtin "object.__class__"))) && (decide (PySem.W.specialIn K (.builtin "object.__class__") "__get__" = some (some (.builtin "getset_descriptor.__get__"))) &&
  (decide (PySem.W.takesIn K (.builtin "object.__class__") = some true) && (decide (PySem.W.mroIn K CP (.type "object") = some true) && (tyNames.all (fun t => decide (PySem.W.kitOne K (.type t) (.ref CP) = some false) && PySem.W.notFirst K CP (.type t)) &&
  (PySem.W.notFirst K CP (.ref CP) && (PySem.W.makesIn K CP && PySem.W.keepIn K (.ref CP))))))))))))
theorem tyD_mem (d : PyData) : tyD d ∈ tyNames := by
  cases d <;> simp [tyD, tyNames]
theorem polyC {K : PySem.W.Frag} {mg : Str → Option Value} {CP : Addr} (m : mg "Poly" = some (.ref CP)) (h : polyB K CP = true) : PoC K mg CP ∧ PySem.W.makesIn K CP = true ∧ PySem.W.keepIn K (.ref CP) = true := by
  obtain ⟨h1, h⟩ := Bool.and_eq_true_iff.mp h
  obtain ⟨h2, h⟩ := Bool.and_eq_true_iff.mp h
  obtain ⟨h3, h⟩ := Bool.and_eq_true_iff.mp h
  obtain ⟨h4, h⟩ := Bool.and_eq_true_iff.mp h
  obtain ⟨h5, h⟩ := Bool.and_eq_true_iff.mp h
  obtain ⟨h6, h⟩ := Bool.and_eq_true_iff.mp h
  obtain ⟨h7, h⟩ := Bool.and_eq_true_iff.mp h
  obtain ⟨h8, h⟩ := Bool.and_eq_true_iff.mp h
  obtain ⟨h9, h⟩ := Bool.and_eq_true_iff.mp h
  obtain ⟨h10, h⟩ := Bool.and_eq_true_iff.mp h
  obtain ⟨h11, h⟩ := Bool.and_eq_true_iff.mp h
  obtain ⟨h12, h13⟩ := Bool.and_eq_true_iff.mp h
  have z := fun d : PyData => Bool.and_eq_true_iff.mp (List.all_eq_true.mp h10 (tyD d) (tyD_mem d))
  exact ⟨⟨m, ⟨h1, h2, h3, of_decide_eq_true h4⟩, (of_decide_eq_true h5 : PySem.W.findIn K (.ref CP) "numbers" = some none), of_decide_eq_true h6, of_decide_eq_true h7, of_decide_eq_true h8, of_decide_eq_true h9, fun d => of_decide_eq_true (z d).1, h11, fun d => (z d).2⟩, h12, h13⟩
theorem fn_of_ty {K : PySem.W.Frag} {f : Addr} (h : PySem.W.typeIn K (.ref f) = some (.type "function")) : PySem.W.isFn K (.ref f) = true := by
  unfold PySem.W.isFn
  rw [h]
  decide +kernel
theorem all_mk {PB : Addr} {dPB : Option Addr} {nPB : Nat} {sPB : Array (Option Value)} {u0 u1 u2 u3 u4 u5 u6 u7 : Tok}
    {l : PySem.W.OpenLaw} {w : World} {K : PySem.W.Frag} {h : Heap} {mg : Str → Option Value} {fa : Addr}
    {C0 C1 i0 i1 f0 f1 f2 f3 f4 f5 f6 f7 f8 f9 f10 f11 f12 f13 f14 f15 f16 f17 f18 f19 f20 f21 f22 f23 f24 f25 f26 f27 f28 f29 f30 f31 f32 f33 f34 f35 f36 f37 f38 f39 Cg g0 g1 g2 : Addr}
    {ocf0 kVf0 dcf0 pmf0 cdf0 ctf0 : Value} {odf0 anf0 : Option Addr} {slf0 : Array (Option Value)}
    {ocf1 kVf1 dcf1 pmf1 cdf1 ctf1 : Value} {odf1 anf1 : Option Addr} {slf1 : Array (Option Value)}
    {ocf2 kVf2 dcf2 pmf2 cdf2 ctf2 : Value} {odf2 anf2 : Option Addr} {slf2 : Array (Option Value)}
    {ocf3 kVf3 dcf3 pmf3 cdf3 ctf3 : Value} {odf3 anf3 : Option Addr} {slf3 : Array (Option Value)}
    {ocf4 kVf4 dcf4 pmf4 cdf4 ctf4 : Value} {odf4 anf4 : Option Addr} {slf4 : Array (Option Value)}
    {ocf5 kVf5 dcf5 pmf5 cdf5 ctf5 : Value} {odf5 anf5 : Option Addr} {slf5 : Array (Option Value)}
    {ocf6 kVf6 dcf6 pmf6 cdf6 ctf6 : Value} {odf6 anf6 : Option Addr} {slf6 : Array (Option Value)}
    {ocf7 kVf7 dcf7 pmf7 cdf7 ctf7 : Value} {odf7 anf7 : Option Addr} {slf7 : Array (Option Value)}
    {ocf8 kVf8 dcf8 pmf8 cdf8 ctf8 : Value} {odf8 anf8 : Option Addr} {slf8 : Array (Option Value)}
    {ocf9 kVf9 dcf9 pmf9 cdf9 ctf9 : Value} {odf9 anf9 : Option Addr} {slf9 : Array (Option Value)}
    {ocf10 kVf10 dcf10 pmf10 cdf10 ctf10 : Value} {odf10 anf10 : Option Addr} {slf10 : Array (Option Value)}
    {ocf11 kVf11 dcf11 pmf11 cdf11 ctf11 : Value} {odf11 anf11 : Option Addr} {slf11 : Array (Option Value)}
    {ocf12 kVf12 dcf12 pmf12 cdf12 ctf12 : Value} {odf12 anf12 : Option Addr} {slf12 : Array (Option Value)}
    {ocf13 kVf13 dcf13 pmf13 cdf13 ctf13 : Value} {odf13 anf13 : Option Addr} {slf13 : Array (Option Value)}
    {ocf14 kVf14 dcf14 pmf14 cdf14 ctf14 : Value} {odf14 anf14 : Option Addr} {slf14 : Array (Option Value)}
    {ocf15 kVf15 dcf15 pmf15 cdf15 ctf15 : Value} {odf15 anf15 : Option Addr} {slf15 : Array (Option Value)}
    {ocf16 kVf16 dcf16 pmf16 cdf16 ctf16 : Value} {odf16 anf16 : Option Addr} {slf16 : Array (Option Value)}
    {ocf17 kVf17 dcf17 pmf17 cdf17 ctf17 : Value} {odf17 anf17 : Option Addr} {slf17 : Array (Option Value)}
    {ocf18 kVf18 dcf18 pmf18 cdf18 ctf18 : Value} {odf18 anf18 : Option Addr} {slf18 : Array (Option Value)}
    {ocf19 kVf19 dcf19 pmf19 cdf19 ctf19 : Value} {odf19 anf19 : Option Addr} {slf19 : Array (Option Value)}
    {ocf20 kVf20 dcf20 pmf20 cdf20 ctf20 : Value} {odf20 anf20 : Option Addr} {slf20 : Array (Option Value)}
    {ocf21 kVf21 dcf21 pmf21 cdf21 ctf21 : Value} {odf21 anf21 : Option Addr} {slf21 : Array (Option Value)}
    {ocf22 kVf22 dcf22 pmf22 cdf22 ctf22 : Value} {odf22 anf22 : Option Addr} {slf22 : Array (Option Value)}
    {ocf23 kVf23 dcf23 pmf23 cdf23 ctf23 : Value} {odf23 anf23 : Option Addr} {slf23 : Array (Option Value)}
    {ocf24 kVf24 dcf24 pmf24 cdf24 ctf24 : Value} {odf24 anf24 : Option Addr} {slf24 : Array (Option Value)}
    {ocf25 kVf25 dcf25 pmf25 cdf25 ctf25 : Value} {odf25 anf25 : Option Addr} {slf25 : Array (Option Value)}
    {ocf26 kVf26 dcf26 pmf26 cdf26 ctf26 : Value} {odf26 anf26 : Option Addr} {slf26 : Array (Option Value)}
    {ocf27 kVf27 dcf27 pmf27 cdf27 ctf27 : Value} {odf27 anf27 : Option Addr} {slf27 : Array (Option Value)}
    {ocf28 kVf28 dcf28 pmf28 cdf28 ctf28 : Value} {odf28 anf28 : Option Addr} {slf28 : Array (Option Value)}
    {ocf29 kVf29 dcf29 pmf29 cdf29 ctf29 : Value} {odf29 anf29 : Option Addr} {slf29 : Array (Option Value)}
    {ocf30 kVf30 dcf30 pmf30 cdf30 ctf30 : Value} {odf30 anf30 : Option Addr} {slf30 : Array (Option Value)}
    {ocf31 kVf31 dcf31 pmf31 cdf31 ctf31 : Value} {odf31 anf31 : Option Addr} {slf31 : Array (Option Value)}
    {ocf32 kVf32 dcf32 pmf32 cdf32 ctf32 : Value} {odf32 anf32 : Option Addr} {slf32 : Array (Option Value)}
    {ocf33 kVf33 dcf33 pmf33 cdf33 ctf33 : Value} {odf33 anf33 : Option Addr} {slf33 : Array (Option Value)}
    {ocf34 kVf34 dcf34 pmf34 cdf34 ctf34 : Value} {odf34 anf34 : Option Addr} {slf34 : Array (Option Value)}
    {ocf35 kVf35 dcf35 pmf35 cdf35 ctf35 : Value} {odf35 anf35 : Option Addr} {slf35 : Array (Option Value)}
    {ocf36 kVf36 dcf36 pmf36 cdf36 ctf36 : Value} {odf36 anf36 : Option Addr} {slf36 : Array (Option Value)}
    {ocf37 kVf37 dcf37 pmf37 cdf37 ctf37 : Value} {odf37 anf37 : Option Addr} {slf37 : Array (Option Value)}
    {ocf38 kVf38 dcf38 pmf38 cdf38 ctf38 : Value} {odf38 anf38 : Option Addr} {slf38 : Array (Option Value)}
    {ocf39 kVf39 dcf39 pmf39 cdf39 ctf39 : Value} {odf39 anf39 : Option Addr} {slf39 : Array (Option Value)}
    {oci0 kVi0 dci0 pmi0 cdi0 cti0 : Value} {odi0 ani0 : Option Addr} {sli0 : Array (Option Value)}
    {nm0 qn0 : Str} {N0 : Addr} {bs0 bm0 sub0 : List Value} {sn0 : List Str} {ab0 : Bool} {col0 : Option Bool} {dd0 : Option Addr} {ka0 kb0 kc0 kd0 ke0 : Option Value}
    {oci1 kVi1 dci1 pmi1 cdi1 cti1 : Value} {odi1 ani1 : Option Addr} {sli1 : Array (Option Value)}
    {nm1 qn1 : Str} {N1 : Addr} {bs1 bm1 sub1 : List Value} {sn1 : List Str} {ab1 : Bool} {col1 : Option Bool} {dd1 : Option Addr} {ka1 kb1 kc1 kd1 ke1 : Option Value}
    {ocg0 kVg0 dcg0 pmg0 cdg0 ctg0 : Value} {odg0 ang0 : Option Addr} {slg0 : Array (Option Value)}
    {ocg1 kVg1 dcg1 pmg1 cdg1 ctg1 : Value} {odg1 ang1 : Option Addr} {slg1 : Array (Option Value)}
    {ocg2 kVg2 dcg2 pmg2 cdg2 ctg2 : Value} {odg2 ang2 : Option Addr} {slg2 : Array (Option Value)}
    (X : K.In h) (G : h.Ns mainGlobals mg) (hfa : mg "law" = some (.ref fa))
    (a0 : PySem.W.nsIn K mainGlobals "_law_pen" = some (some (.ref f0)))
    (l0 : K.lookup f0 = some ⟨ocf0, odf0, .func (PySem.W.fnOf "_law_pen" "_law_pen" (defArgs sPen) (defBody sPen) (defScope sPen) .none kVf0 dcf0 pmf0 anf0 cdf0 ctf0), slf0⟩)
    (c0 : PySem.W.codeIn K cdf0 "_law_pen" = true)
    (k0 : PySem.W.keepIn K (.ref f0) = true)
    (a1 : PySem.W.nsIn K mainGlobals "_law_draw" = some (some (.ref f1)))
    (l1 : K.lookup f1 = some ⟨ocf1, odf1, .func (PySem.W.fnOf "_law_draw" "_law_draw" (defArgs sDraw) (defBody sDraw) (defScope sDraw) .none kVf1 dcf1 pmf1 anf1 cdf1 ctf1), slf1⟩)
    (c1 : PySem.W.codeIn K cdf1 "_law_draw" = true)
    (k1 : PySem.W.keepIn K (.ref f1) = true)
    (a2 : PySem.W.nsIn K mainGlobals "_law_pick" = some (some (.ref f2)))
    (l2 : K.lookup f2 = some ⟨ocf2, odf2, .func (PySem.W.fnOf "_law_pick" "_law_pick" (defArgs sPick) (defBody sPick) (defScope sPick) .none kVf2 dcf2 pmf2 anf2 cdf2 ctf2), slf2⟩)
    (c2 : PySem.W.codeIn K cdf2 "_law_pick" = true)
    (k2 : PySem.W.keepIn K (.ref f2) = true)
    (a3 : PySem.W.nsIn K mainGlobals "is_whole" = some (some (.ref f3)))
    (l3 : K.lookup f3 = some ⟨ocf3, odf3, .func (PySem.W.fnOf "is_whole" "is_whole" (defArgs sIsWhole) (defBody sIsWhole) (defScope sIsWhole) .none kVf3 dcf3 pmf3 anf3 cdf3 ctf3), slf3⟩)
    (c3 : PySem.W.codeIn K cdf3 "is_whole" = true)
    (k3 : PySem.W.keepIn K (.ref f3) = true)
    (a4 : PySem.W.nsIn K mainGlobals "is_ratio" = some (some (.ref f4)))
    (l4 : K.lookup f4 = some ⟨ocf4, odf4, .func (PySem.W.fnOf "is_ratio" "is_ratio" (defArgs sIsRatio) (defBody sIsRatio) (defScope sIsRatio) .none kVf4 dcf4 pmf4 anf4 cdf4 ctf4), slf4⟩)
    (c4 : PySem.W.codeIn K cdf4 "is_ratio" = true)
    (k4 : PySem.W.keepIn K (.ref f4) = true)
    (a5 : PySem.W.nsIn K mainGlobals "is_ratio_row" = some (some (.ref f5)))
    (l5 : K.lookup f5 = some ⟨ocf5, odf5, .func (PySem.W.fnOf "is_ratio_row" "is_ratio_row" (defArgs sIsRow) (defBody sIsRow) (defScope sIsRow) .none kVf5 dcf5 pmf5 anf5 cdf5 ctf5), slf5⟩)
    (c5 : PySem.W.codeIn K cdf5 "is_ratio_row" = true)
    (k5 : PySem.W.keepIn K (.ref f5) = true)
    (a6 : PySem.W.nsIn K mainGlobals "lowest" = some (some (.ref f6)))
    (l6 : K.lookup f6 = some ⟨ocf6, odf6, .func (PySem.W.fnOf "lowest" "lowest" (defArgs sLowest) (defBody sLowest) (defScope sLowest) .none kVf6 dcf6 pmf6 anf6 cdf6 ctf6), slf6⟩)
    (c6 : PySem.W.codeIn K cdf6 "lowest" = true)
    (k6 : PySem.W.keepIn K (.ref f6) = true)
    (a7 : PySem.W.nsIn K mainGlobals "parts_of" = some (some (.ref f7)))
    (l7 : K.lookup f7 = some ⟨ocf7, odf7, .func (PySem.W.fnOf "parts_of" "parts_of" (defArgs sParts) (defBody sParts) (defScope sParts) .none kVf7 dcf7 pmf7 anf7 cdf7 ctf7), slf7⟩)
    (c7 : PySem.W.codeIn K cdf7 "parts_of" = true)
    (k7 : PySem.W.keepIn K (.ref f7) = true)
    (a8 : PySem.W.nsIn K mainGlobals "told" = some (some (.ref f8)))
    (l8 : K.lookup f8 = some ⟨ocf8, odf8, .func (PySem.W.fnOf "told" "told" (defArgs sTold) (defBody sTold) (defScope sTold) .none kVf8 dcf8 pmf8 anf8 cdf8 ctf8), slf8⟩)
    (c8 : PySem.W.codeIn K cdf8 "told" = true)
    (k8 : PySem.W.keepIn K (.ref f8) = true)
    (a9 : PySem.W.nsIn K mainGlobals "times" = some (some (.ref f9)))
    (l9 : K.lookup f9 = some ⟨ocf9, odf9, .func (PySem.W.fnOf "times" "times" (defArgs sTimes) (defBody sTimes) (defScope sTimes) .none kVf9 dcf9 pmf9 anf9 cdf9 ctf9), slf9⟩)
    (c9 : PySem.W.codeIn K cdf9 "times" = true)
    (k9 : PySem.W.keepIn K (.ref f9) = true)
    (a10 : PySem.W.nsIn K mainGlobals "over_one_bottom" = some (some (.ref f10)))
    (l10 : K.lookup f10 = some ⟨ocf10, odf10, .func (PySem.W.fnOf "over_one_bottom" "over_one_bottom" (defArgs sOver2) (defBody sOver2) (defScope sOver2) .none kVf10 dcf10 pmf10 anf10 cdf10 ctf10), slf10⟩)
    (c10 : PySem.W.codeIn K cdf10 "over_one_bottom" = true)
    (k10 : PySem.W.keepIn K (.ref f10) = true)
    (a11 : PySem.W.nsIn K mainGlobals "poly_over" = some (some (.ref f11)))
    (l11 : K.lookup f11 = some ⟨ocf11, odf11, .func (PySem.W.fnOf "poly_over" "poly_over" (defArgs sPOv) (defBody sPOv) (defScope sPOv) .none kVf11 dcf11 pmf11 anf11 cdf11 ctf11), slf11⟩)
    (c11 : PySem.W.codeIn K cdf11 "poly_over" = true)
    (k11 : PySem.W.keepIn K (.ref f11) = true)
    (a12 : PySem.W.nsIn K mainGlobals "stripped" = some (some (.ref f12)))
    (l12 : K.lookup f12 = some ⟨ocf12, odf12, .func (PySem.W.fnOf "stripped" "stripped" (defArgs sStrip) (defBody sStrip) (defScope sStrip) .none kVf12 dcf12 pmf12 anf12 cdf12 ctf12), slf12⟩)
    (c12 : PySem.W.codeIn K cdf12 "stripped" = true)
    (k12 : PySem.W.keepIn K (.ref f12) = true)
    (a13 : PySem.W.nsIn K mainGlobals "residues" = some (some (.ref f13)))
    (l13 : K.lookup f13 = some ⟨ocf13, odf13, .func (PySem.W.fnOf "residues" "residues" (defArgs sRes) (defBody sRes) (defScope sRes) .none kVf13 dcf13 pmf13 anf13 cdf13 ctf13), slf13⟩)
    (c13 : PySem.W.codeIn K cdf13 "residues" = true)
    (k13 : PySem.W.keepIn K (.ref f13) = true)
    (a14 : PySem.W.nsIn K mainGlobals "without_lead" = some (some (.ref f14)))
    (l14 : K.lookup f14 = some ⟨ocf14, odf14, .func (PySem.W.fnOf "without_lead" "without_lead" (defArgs sWl) (defBody sWl) (defScope sWl) .none kVf14 dcf14 pmf14 anf14 cdf14 ctf14), slf14⟩)
    (c14 : PySem.W.codeIn K cdf14 "without_lead" = true)
    (k14 : PySem.W.keepIn K (.ref f14) = true)
    (a15 : PySem.W.nsIn K mainGlobals "nearest_residue" = some (some (.ref f15)))
    (l15 : K.lookup f15 = some ⟨ocf15, odf15, .func (PySem.W.fnOf "nearest_residue" "nearest_residue" (defArgs sNear) (defBody sNear) (defScope sNear) .none kVf15 dcf15 pmf15 anf15 cdf15 ctf15), slf15⟩)
    (c15 : PySem.W.codeIn K cdf15 "nearest_residue" = true)
    (k15 : PySem.W.keepIn K (.ref f15) = true)
    (a16 : PySem.W.nsIn K mainGlobals "inverse" = some (some (.ref f16)))
    (l16 : K.lookup f16 = some ⟨ocf16, odf16, .func (PySem.W.fnOf "inverse" "inverse" (defArgs sInv) (defBody sInv) (defScope sInv) .none kVf16 dcf16 pmf16 anf16 cdf16 ctf16), slf16⟩)
    (c16 : PySem.W.codeIn K cdf16 "inverse" = true)
    (k16 : PySem.W.keepIn K (.ref f16) = true)
    (a17 : PySem.W.nsIn K mainGlobals "primitive_row" = some (some (.ref f17)))
    (l17 : K.lookup f17 = some ⟨ocf17, odf17, .func (PySem.W.fnOf "primitive_row" "primitive_row" (defArgs sPrim) (defBody sPrim) (defScope sPrim) .none kVf17 dcf17 pmf17 anf17 cdf17 ctf17), slf17⟩)
    (c17 : PySem.W.codeIn K cdf17 "primitive_row" = true)
    (k17 : PySem.W.keepIn K (.ref f17) = true)
    (a18 : PySem.W.nsIn K mainGlobals "residue_divisor" = some (some (.ref f18)))
    (l18 : K.lookup f18 = some ⟨ocf18, odf18, .func (PySem.W.fnOf "residue_divisor" "residue_divisor" (defArgs sRD) (defBody sRD) (defScope sRD) .none kVf18 dcf18 pmf18 anf18 cdf18 ctf18), slf18⟩)
    (c18 : PySem.W.codeIn K cdf18 "residue_divisor" = true)
    (k18 : PySem.W.keepIn K (.ref f18) = true)
    (a19 : PySem.W.nsIn K mainGlobals "divides" = some (some (.ref f19)))
    (l19 : K.lookup f19 = some ⟨ocf19, odf19, .func (PySem.W.fnOf "divides" "divides" (defArgs sDvs) (defBody sDvs) (defScope sDvs) .none kVf19 dcf19 pmf19 anf19 cdf19 ctf19), slf19⟩)
    (c19 : PySem.W.codeIn K cdf19 "divides" = true)
    (k19 : PySem.W.keepIn K (.ref f19) = true)
    (a20 : PySem.W.nsIn K mainGlobals "divisor_by_residues" = some (some (.ref f20)))
    (l20 : K.lookup f20 = some ⟨ocf20, odf20, .func (PySem.W.fnOf "divisor_by_residues" "divisor_by_residues" (defArgs sDR) (defBody sDR) (defScope sDR) .none kVf20 dcf20 pmf20 anf20 cdf20 ctf20), slf20⟩)
    (c20 : PySem.W.codeIn K cdf20 "divisor_by_residues" = true)
    (k20 : PySem.W.keepIn K (.ref f20) = true)
    (a21 : PySem.W.nsIn K mainGlobals "common_row" = some (some (.ref f21)))
    (l21 : K.lookup f21 = some ⟨ocf21, odf21, .func (PySem.W.fnOf "common_row" "common_row" (defArgs sCR) (defBody sCR) (defScope sCR) .none kVf21 dcf21 pmf21 anf21 cdf21 ctf21), slf21⟩)
    (c21 : PySem.W.codeIn K cdf21 "common_row" = true)
    (k21 : PySem.W.keepIn K (.ref f21) = true)
    (a22 : PySem.W.nsIn K mainGlobals "long_division" = some (some (.ref f22)))
    (l22 : K.lookup f22 = some ⟨ocf22, odf22, .func (PySem.W.fnOf "long_division" "long_division" (defArgs sLd) (defBody sLd) (defScope sLd) .none kVf22 dcf22 pmf22 anf22 cdf22 ctf22), slf22⟩)
    (c22 : PySem.W.codeIn K cdf22 "long_division" = true)
    (k22 : PySem.W.keepIn K (.ref f22) = true)
    (a23 : PySem.W.nsIn K mainGlobals "whole_row" = some (some (.ref f23)))
    (l23 : K.lookup f23 = some ⟨ocf23, odf23, .func (PySem.W.fnOf "whole_row" "whole_row" (defArgs sWR) (defBody sWR) (defScope sWR) .none kVf23 dcf23 pmf23 anf23 cdf23 ctf23), slf23⟩)
    (c23 : PySem.W.codeIn K cdf23 "whole_row" = true)
    (k23 : PySem.W.keepIn K (.ref f23) = true)
    (a24 : PySem.W.nsIn K mainGlobals "plain_of" = some (some (.ref f24)))
    (l24 : K.lookup f24 = some ⟨ocf24, odf24, .func (PySem.W.fnOf "plain_of" "plain_of" (defArgs sPlainOf) (defBody sPlainOf) (defScope sPlainOf) .none kVf24 dcf24 pmf24 anf24 cdf24 ctf24), slf24⟩)
    (c24 : PySem.W.codeIn K cdf24 "plain_of" = true)
    (k24 : PySem.W.keepIn K (.ref f24) = true)
    (a25 : PySem.W.nsIn K mainGlobals "common" = some (some (.ref f25)))
    (l25 : K.lookup f25 = some ⟨ocf25, odf25, .func (PySem.W.fnOf "common" "common" (defArgs sCommonP) (defBody sCommonP) (defScope sCommonP) .none kVf25 dcf25 pmf25 anf25 cdf25 ctf25), slf25⟩)
    (c25 : PySem.W.codeIn K cdf25 "common" = true)
    (k25 : PySem.W.keepIn K (.ref f25) = true)
    (a26 : PySem.W.nsIn K mainGlobals "divided" = some (some (.ref f26)))
    (l26 : K.lookup f26 = some ⟨ocf26, odf26, .func (PySem.W.fnOf "divided" "divided" (defArgs sDivd) (defBody sDivd) (defScope sDivd) .none kVf26 dcf26 pmf26 anf26 cdf26 ctf26), slf26⟩)
    (c26 : PySem.W.codeIn K cdf26 "divided" = true)
    (k26 : PySem.W.keepIn K (.ref f26) = true)
    (a27 : PySem.W.nsIn K mainGlobals "quotients_of" = some (some (.ref f27)))
    (l27 : K.lookup f27 = some ⟨ocf27, odf27, .func (PySem.W.fnOf "quotients_of" "quotients_of" (defArgs sQuots) (defBody sQuots) (defScope sQuots) .none kVf27 dcf27 pmf27 anf27 cdf27 ctf27), slf27⟩)
    (c27 : PySem.W.codeIn K cdf27 "quotients_of" = true)
    (k27 : PySem.W.keepIn K (.ref f27) = true)
    (a28 : PySem.W.nsIn K mainGlobals "simple_parts" = some (some (.ref f28)))
    (l28 : K.lookup f28 = some ⟨ocf28, odf28, .func (PySem.W.fnOf "simple_parts" "simple_parts" (defArgs sSP) (defBody sSP) (defScope sSP) .none kVf28 dcf28 pmf28 anf28 cdf28 ctf28), slf28⟩)
    (c28 : PySem.W.codeIn K cdf28 "simple_parts" = true)
    (k28 : PySem.W.keepIn K (.ref f28) = true)
    (a29 : PySem.W.nsIn K mainGlobals "_law_gcd" = some (some (.ref f29)))
    (l29 : K.lookup f29 = some ⟨ocf29, odf29, .func (PySem.W.fnOf "_law_gcd" "_law_gcd" (defArgs sLGcd) (defBody sLGcd) (defScope sLGcd) .none kVf29 dcf29 pmf29 anf29 cdf29 ctf29), slf29⟩)
    (c29 : PySem.W.codeIn K cdf29 "_law_gcd" = true)
    (k29 : PySem.W.keepIn K (.ref f29) = true)
    (a30 : PySem.W.nsIn K mainGlobals "_law_q" = some (some (.ref f30)))
    (l30 : K.lookup f30 = some ⟨ocf30, odf30, .func (PySem.W.fnOf "_law_q" "_law_q" (defArgs sLQ) (defBody sLQ) (defScope sLQ) .none kVf30 dcf30 pmf30 anf30 cdf30 ctf30), slf30⟩)
    (c30 : PySem.W.codeIn K cdf30 "_law_q" = true)
    (k30 : PySem.W.keepIn K (.ref f30) = true)
    (a31 : PySem.W.nsIn K mainGlobals "_law_plus" = some (some (.ref f31)))
    (l31 : K.lookup f31 = some ⟨ocf31, odf31, .func (PySem.W.fnOf "_law_plus" "_law_plus" (defArgs sLPlus) (defBody sLPlus) (defScope sLPlus) .none kVf31 dcf31 pmf31 anf31 cdf31 ctf31), slf31⟩)
    (c31 : PySem.W.codeIn K cdf31 "_law_plus" = true)
    (k31 : PySem.W.keepIn K (.ref f31) = true)
    (a32 : PySem.W.nsIn K mainGlobals "_law_times" = some (some (.ref f32)))
    (l32 : K.lookup f32 = some ⟨ocf32, odf32, .func (PySem.W.fnOf "_law_times" "_law_times" (defArgs sLTimes) (defBody sLTimes) (defScope sLTimes) .none kVf32 dcf32 pmf32 anf32 cdf32 ctf32), slf32⟩)
    (c32 : PySem.W.codeIn K cdf32 "_law_times" = true)
    (k32 : PySem.W.keepIn K (.ref f32) = true)
    (a33 : PySem.W.nsIn K mainGlobals "_law_passed" = some (some (.ref f33)))
    (l33 : K.lookup f33 = some ⟨ocf33, odf33, .func (PySem.W.fnOf "_law_passed" "_law_passed" (defArgs sPassed) (defBody sPassed) (defScope sPassed) .none kVf33 dcf33 pmf33 anf33 cdf33 ctf33), slf33⟩)
    (c33 : PySem.W.codeIn K cdf33 "_law_passed" = true)
    (k33 : PySem.W.keepIn K (.ref f33) = true)
    (a34 : PySem.W.nsIn K mainGlobals "_law_poly" = some (some (.ref f34)))
    (l34 : K.lookup f34 = some ⟨ocf34, odf34, .func (PySem.W.fnOf "_law_poly" "_law_poly" (defArgs sLPoly) (defBody sLPoly) (defScope sLPoly) .none kVf34 dcf34 pmf34 anf34 cdf34 ctf34), slf34⟩)
    (c34 : PySem.W.codeIn K cdf34 "_law_poly" = true)
    (k34 : PySem.W.keepIn K (.ref f34) = true)
    (a35 : PySem.W.nsIn K mainGlobals "_law_p_times" = some (some (.ref f35)))
    (l35 : K.lookup f35 = some ⟨ocf35, odf35, .func (PySem.W.fnOf "_law_p_times" "_law_p_times" (defArgs sLPTimes) (defBody sLPTimes) (defScope sLPTimes) .none kVf35 dcf35 pmf35 anf35 cdf35 ctf35), slf35⟩)
    (c35 : PySem.W.codeIn K cdf35 "_law_p_times" = true)
    (k35 : PySem.W.keepIn K (.ref f35) = true)
    (a36 : PySem.W.nsIn K mainGlobals "_law_made_poly" = some (some (.ref f36)))
    (l36 : K.lookup f36 = some ⟨ocf36, odf36, .func (PySem.W.fnOf "_law_made_poly" "_law_made_poly" (defArgs sMade) (defBody sMade) (defScope sMade) .none kVf36 dcf36 pmf36 anf36 cdf36 ctf36), slf36⟩)
    (c36 : PySem.W.codeIn K cdf36 "_law_made_poly" = true)
    (k36 : PySem.W.keepIn K (.ref f36) = true)
    (a37 : PySem.W.nsIn K mainGlobals "_law_far" = some (some (.ref f37)))
    (l37 : K.lookup f37 = some ⟨ocf37, odf37, .func (PySem.W.fnOf "_law_far" "_law_far" (defArgs sFar) (defBody sFar) (defScope sFar) .none kVf37 dcf37 pmf37 anf37 cdf37 ctf37), slf37⟩)
    (c37 : PySem.W.codeIn K cdf37 "_law_far" = true)
    (k37 : PySem.W.keepIn K (.ref f37) = true)
    (a38 : PySem.W.nsIn K mainGlobals "_law_some_ratio" = some (some (.ref f38)))
    (l38 : K.lookup f38 = some ⟨ocf38, odf38, .func (PySem.W.fnOf "_law_some_ratio" "_law_some_ratio" (defArgs sSomeR) (defBody sSomeR) (defScope sSomeR) .none kVf38 dcf38 pmf38 anf38 cdf38 ctf38), slf38⟩)
    (c38 : PySem.W.codeIn K cdf38 "_law_some_ratio" = true)
    (k38 : PySem.W.keepIn K (.ref f38) = true)
    (a39 : PySem.W.nsIn K mainGlobals "law" = some (some (.ref f39)))
    (l39 : K.lookup f39 = some ⟨ocf39, odf39, .func (PySem.W.fnOf "law" "law" (defArgs sLaw) (defBody sLaw) (defScope sLaw) .none kVf39 dcf39 pmf39 anf39 cdf39 ctf39), slf39⟩)
    (c39 : PySem.W.codeIn K cdf39 "law" = true)
    (k39 : PySem.W.keepIn K (.ref f39) = true)
    (aggcd : PySem.W.nsIn K mainGlobals "gcd" = some (some (.builtin "math.gcd")))
    (aglcm : PySem.W.nsIn K mainGlobals "lcm" = some (some (.builtin "math.lcm")))
    (m0 : PySem.W.nsIn K mainGlobals "BadNumber" = some (some (.ref C0)))
    (ei0 : PySem.W.findIn K (.ref C0) "__init__" = some (some (.ref i0)))
    (ti0 : PySem.W.typeIn K (.ref i0) = some (.type "function"))
    (li0 : K.lookup i0 = some ⟨oci0, odi0, .func (PySem.W.fnOf "__init__" "BadNumber.__init__" (defArgs (inClass (topS 20) 0)) (defBody (inClass (topS 20) 0)) (defScope (inClass (topS 20) 0)) .none kVi0 dci0 pmi0 ani0 cdi0 cti0), sli0⟩)
    (ci0 : PySem.W.codeIn K cdi0 "BadNumber.__init__" = true)
    (ki0 : PySem.W.keepIn K (.ref i0) = true)
    (lc0 : K.lookup C0 = some (excClassObj nm0 qn0 C0 N0 bs0 bm0 true sn0 sub0 ab0 col0 dd0 ka0 kb0 kc0 kd0 ke0 "ValueError.__new__"))
    (lb0 : PySem.HandSPX.refsVE bm0 = true)
    (big0 : (oexB K C0 && decide (PySem.W.findIn K (.ref C0) "what" = some none) && decide (PySem.W.findIn K (.ref C0) "number" = some none)) = true)
    (m1 : PySem.W.nsIn K mainGlobals "BadRow" = some (some (.ref C1)))
    (ei1 : PySem.W.findIn K (.ref C1) "__init__" = some (some (.ref i1)))
    (ti1 : PySem.W.typeIn K (.ref i1) = some (.type "function"))
    (li1 : K.lookup i1 = some ⟨oci1, odi1, .func (PySem.W.fnOf "__init__" "BadRow.__init__" (defArgs (inClass (topS 21) 0)) (defBody (inClass (topS 21) 0)) (defScope (inClass (topS 21) 0)) .none kVi1 dci1 pmi1 ani1 cdi1 cti1), sli1⟩)
    (ci1 : PySem.W.codeIn K cdi1 "BadRow.__init__" = true)
    (ki1 : PySem.W.keepIn K (.ref i1) = true)
    (lc1 : K.lookup C1 = some (excClassObj nm1 qn1 C1 N1 bs1 bm1 true sn1 sub1 ab1 col1 dd1 ka1 kb1 kc1 kd1 ke1 "ValueError.__new__"))
    (lb1 : PySem.HandSPX.refsVE bm1 = true)
    (big1 : (oexB K C1 && decide (PySem.W.findIn K (.ref C1) "row" = some none)) = true)
    (mcg : PySem.W.nsIn K mainGlobals "Poly" = some (some (.ref Cg)))
    (eg0 : PySem.W.findIn K (.ref Cg) "__init__" = some (some (.ref g0)))
    (tg0 : PySem.W.typeIn K (.ref g0) = some (.type "function"))
    (lg0 : K.lookup g0 = some ⟨ocg0, odg0, .func (PySem.W.fnOf "__init__" "Poly.__init__" (defArgs (inClass (topS 32) 0)) (defBody (inClass (topS 32) 0)) (defScope (inClass (topS 32) 0)) .none kVg0 dcg0 pmg0 ang0 cdg0 ctg0), slg0⟩)
    (cg0 : PySem.W.codeIn K cdg0 "Poly.__init__" = true)
    (kg0 : PySem.W.keepIn K (.ref g0) = true)
    (eg1 : PySem.W.findIn K (.ref Cg) "__eq__" = some (some (.ref g1)))
    (tg1 : PySem.W.typeIn K (.ref g1) = some (.type "function"))
    (lg1 : K.lookup g1 = some ⟨ocg1, odg1, .func (PySem.W.fnOf "__eq__" "Poly.__eq__" (defArgs (inClass (topS 32) 1)) (defBody (inClass (topS 32) 1)) (defScope (inClass (topS 32) 1)) .none kVg1 dcg1 pmg1 ang1 cdg1 ctg1), slg1⟩)
    (cg1 : PySem.W.codeIn K cdg1 "Poly.__eq__" = true)
    (kg1 : PySem.W.keepIn K (.ref g1) = true)
    (eg2 : PySem.W.findIn K (.ref Cg) "slope" = some (some (.ref g2)))
    (tg2 : PySem.W.typeIn K (.ref g2) = some (.type "function"))
    (lg2 : K.lookup g2 = some ⟨ocg2, odg2, .func (PySem.W.fnOf "slope" "Poly.slope" (defArgs (inClass (topS 32) 12)) (defBody (inClass (topS 32) 12)) (defScope (inClass (topS 32) 12)) .none kVg2 dcg2 pmg2 ang2 cdg2 ctg2), slg2⟩)
    (cg2 : PySem.W.codeIn K cdg2 "Poly.slope" = true)
    (kg2 : PySem.W.keepIn K (.ref g2) = true)
    (zint : PySem.W.nsIn K mainGlobals "int" = some none)
    (zlist : PySem.W.nsIn K mainGlobals "list" = some none)
    (zlen : PySem.W.nsIn K mainGlobals "len" = some none)
    (zrange : PySem.W.nsIn K mainGlobals "range" = some none)
    (zstr : PySem.W.nsIn K mainGlobals "str" = some none)
    (zisinstance : PySem.W.nsIn K mainGlobals "isinstance" = some none)
    (zbool : PySem.W.nsIn K mainGlobals "bool" = some none)
    (ztuple : PySem.W.nsIn K mainGlobals "tuple" = some none)
    (zabs : PySem.W.nsIn K mainGlobals "abs" = some none)
    (zall : PySem.W.nsIn K mainGlobals "all" = some none)
    (zmax : PySem.W.nsIn K mainGlobals "max" = some none)
    (zzip : PySem.W.nsIn K mainGlobals "zip" = some none)
    (pbm : PySem.W.nsIn K mainGlobals "PRIME_BITS" = some (some (.ref PB)))
    (pbl : K.lookup PB = some ⟨.type "tuple", dPB, .seq #[.int 61 u0, .int 521 u1, .int 1279 u2, .int 2281 u3, .int 4423 u4, .int 9689 u5, .int 19937 u6, .int 44497 u7] nPB, sPB⟩)
    (bigP : polyB K Cg = true) :
    LawG l w K CX0 14 63 "_law_script" mg fa h := by
  have e := hfa.symm.trans (PySem.W.mg_of X G a39)
  cases e
  have mgo : ∀ {x : Str} {a : Value}, PySem.W.nsIn K mainGlobals x = some (some a) → mg x = some a := fun z => PySem.W.mg_of X G z
  have mgn : ∀ {x : Str}, PySem.W.nsIn K mainGlobals x = some none → mg x = none := fun z => PySem.W.mg_none_of X G z
  have F0 := fun_mk (st := sPen) l0 c0 k0
  have F1 := fun_mk (st := sDraw) l1 c1 k1
  have F2 := fun_mk (st := sPick) l2 c2 k2
  have F3 := fun_mk (st := sIsWhole) l3 c3 k3
  have F4 := fun_mk (st := sIsRatio) l4 c4 k4
  have F5 := fun_mk (st := sIsRow) l5 c5 k5
  have F6 := fun_mk (st := sLowest) l6 c6 k6
  have F7 := fun_mk (st := sParts) l7 c7 k7
  have F8 := fun_mk (st := sTold) l8 c8 k8
  have F9 := fun_mk (st := sTimes) l9 c9 k9
  have F10 := fun_mk (st := sOver2) l10 c10 k10
  have F11 := fun_mk (st := sPOv) l11 c11 k11
  have F12 := fun_mk (st := sStrip) l12 c12 k12
  have F13 := fun_mk (st := sRes) l13 c13 k13
  have F14 := fun_mk (st := sWl) l14 c14 k14
  have F15 := fun_mk (st := sNear) l15 c15 k15
  have F16 := fun_mk (st := sInv) l16 c16 k16
  have F17 := fun_mk (st := sPrim) l17 c17 k17
  have F18 := fun_mk (st := sRD) l18 c18 k18
  have F19 := fun_mk (st := sDvs) l19 c19 k19
  have F20 := fun_mk (st := sDR) l20 c20 k20
  have F21 := fun_mk (st := sCR) l21 c21 k21
  have F22 := fun_mk (st := sLd) l22 c22 k22
  have F23 := fun_mk (st := sWR) l23 c23 k23
  have F24 := fun_mk (st := sPlainOf) l24 c24 k24
  have F25 := fun_mk (st := sCommonP) l25 c25 k25
  have F26 := fun_mk (st := sDivd) l26 c26 k26
  have F27 := fun_mk (st := sQuots) l27 c27 k27
  have F28 := fun_mk (st := sSP) l28 c28 k28
  have F29 := fun_mk (st := sLGcd) l29 c29 k29
  have F30 := fun_mk (st := sLQ) l30 c30 k30
  have F31 := fun_mk (st := sLPlus) l31 c31 k31
  have F32 := fun_mk (st := sLTimes) l32 c32 k32
  have F33 := fun_mk (st := sPassed) l33 c33 k33
  have F34 := fun_mk (st := sLPoly) l34 c34 k34
  have F35 := fun_mk (st := sLPTimes) l35 c35 k35
  have F36 := fun_mk (st := sMade) l36 c36 k36
  have F37 := fun_mk (st := sFar) l37 c37 k37
  have F38 := fun_mk (st := sSomeR) l38 c38 k38
  have F39 := fun_mk (st := sLaw) l39 c39 k39
  have b0 := F0.binds (ps := ["_law_script"]) fun _ _ _ _ _ _ us hl => match us, hl with | [_], _ => rfl
  have b1 := F1.binds (ps := ["_law_pen_here", "_law_many"]) fun _ _ _ _ _ _ us hl => match us, hl with | [_, _], _ => rfl
  have b2 := F2.binds (ps := ["_law_pen_here", "_law_some"]) fun _ _ _ _ _ _ us hl => match us, hl with | [_, _], _ => rfl
  have b3 := F3.binds (ps := ["value"]) fun _ _ _ _ _ _ us hl => match us, hl with | [_], _ => rfl
  have b4 := F4.binds (ps := ["value"]) fun _ _ _ _ _ _ us hl => match us, hl with | [_], _ => rfl
  have b5 := F5.binds (ps := ["value"]) fun _ _ _ _ _ _ us hl => match us, hl with | [_], _ => rfl
  have b6 := F6.binds (ps := ["top", "bottom"]) fun _ _ _ _ _ _ us hl => match us, hl with | [_, _], _ => rfl
  have b7 := F7.binds (ps := ["value", "what"]) fun _ _ _ _ _ _ us hl => match us, hl with | [_, _], _ => rfl
  have b8 := F8.binds (ps := ["value", "what"]) fun _ _ _ _ _ _ us hl => match us, hl with | [_, _], _ => rfl
  have b9 := F9.binds (ps := ["one", "other"]) fun _ _ _ _ _ _ us hl => match us, hl with | [_, _], _ => rfl
  have b10 := F10.binds (ps := ["numbers"]) fun _ _ _ _ _ _ us hl => match us, hl with | [_], _ => rfl
  have b11 := F11.binds (ps := ["row", "bottom"]) fun _ _ _ _ _ _ us hl => match us, hl with | [_, _], _ => rfl
  have b12 := F12.binds (ps := ["row"]) fun _ _ _ _ _ _ us hl => match us, hl with | [_], _ => rfl
  have b13 := F13.binds (ps := ["row", "prime"]) fun _ _ _ _ _ _ us hl => match us, hl with | [_, _], _ => rfl
  have b14 := F14.binds (ps := ["one", "other", "factor", "number"]) fun _ _ _ _ _ _ us hl => match us, hl with | [_, _, _, _], _ => rfl
  have b15 := F15.binds (ps := ["number", "prime"]) fun _ _ _ _ _ _ us hl => match us, hl with | [_, _], _ => rfl
  have b16 := F16.binds (ps := ["number", "prime"]) fun _ _ _ _ _ _ us hl => match us, hl with | [_, _], _ => rfl
  have b17 := F17.binds (ps := ["row"]) fun _ _ _ _ _ _ us hl => match us, hl with | [_], _ => rfl
  have b18 := F18.binds (ps := ["one", "other", "prime"]) fun _ _ _ _ _ _ us hl => match us, hl with | [_, _, _], _ => rfl
  have b19 := F19.binds (ps := ["one", "other"]) fun _ _ _ _ _ _ us hl => match us, hl with | [_, _], _ => rfl
  have b20 := F20.binds (ps := ["one", "other", "prime"]) fun _ _ _ _ _ _ us hl => match us, hl with | [_, _, _], _ => rfl
  have b21 := F21.binds (ps := ["one", "other"]) fun _ _ _ _ _ _ us hl => match us, hl with | [_, _], _ => rfl
  have b22 := F22.binds (ps := ["one", "other"]) fun _ _ _ _ _ _ us hl => match us, hl with | [_, _], _ => rfl
  have b23 := F23.binds (ps := ["poly"]) fun _ _ _ _ _ _ us hl => match us, hl with | [_], _ => rfl
  have b24 := F24.binds (ps := ["poly"]) fun _ _ _ _ _ _ us hl => match us, hl with | [_], _ => rfl
  have b25 := F25.binds (ps := ["one", "other"]) fun _ _ _ _ _ _ us hl => match us, hl with | [_, _], _ => rfl
  have b26 := F26.binds (ps := ["one", "other"]) fun _ _ _ _ _ _ us hl => match us, hl with | [_, _], _ => rfl
  have b27 := F27.binds (ps := ["polys"]) fun _ _ _ _ _ _ us hl => match us, hl with | [_], _ => rfl
  have b28 := F28.binds (ps := ["poly"]) fun _ _ _ _ _ _ us hl => match us, hl with | [_], _ => rfl
  have b29 := F29.binds (ps := ["_law_one", "_law_two"]) fun _ _ _ _ _ _ us hl => match us, hl with | [_, _], _ => rfl
  have b30 := F30.binds (ps := ["_law_top", "_law_bottom"]) fun _ _ _ _ _ _ us hl => match us, hl with | [_, _], _ => rfl
  have b31 := F31.binds (ps := ["_law_one", "_law_two"]) fun _ _ _ _ _ _ us hl => match us, hl with | [_, _], _ => rfl
  have b32 := F32.binds (ps := ["_law_one", "_law_two"]) fun _ _ _ _ _ _ us hl => match us, hl with | [_, _], _ => rfl
  have b33 := F33.binds (ps := ["_law_pen_here", "_law_ratio"]) fun _ _ _ _ _ _ us hl => match us, hl with | [_, _], _ => rfl
  have b34 := F34.binds (ps := ["_law_numbers"]) fun _ _ _ _ _ _ us hl => match us, hl with | [_], _ => rfl
  have b35 := F35.binds (ps := ["_law_one", "_law_two"]) fun _ _ _ _ _ _ us hl => match us, hl with | [_, _], _ => rfl
  have b36 := F36.binds (ps := ["_law_pen_here", "_law_one"]) fun _ _ _ _ _ _ us hl => match us, hl with | [_, _], _ => rfl
  have b37 := F37.binds (ps := ["_law_pen_here"]) fun _ _ _ _ _ _ us hl => match us, hl with | [_], _ => rfl
  have b38 := F38.binds (ps := ["_law_pen_here"]) fun _ _ _ _ _ _ us hl => match us, hl with | [_], _ => rfl
  have FI0 := fun_mk (st := inClass (topS 20) 0) li0 ci0 ki0
  have bI0 := FI0.binds (ps := ["self", "what", "number"]) fun _ _ _ _ _ _ us hl => match us, hl with | [_, _, _], _ => rfl
  have oo0 : OexC K C0 := oexB_ok ((Bool.and_eq_true_iff.mp ((Bool.and_eq_true_iff.mp (big0)).1)).1) ⟨nm0, qn0, N0, bs0, bm0, sn0, sub0, ab0, col0, dd0, ka0, kb0, kc0, kd0, ke0, lc0, lb0⟩
  have no0_0 := (of_decide_eq_true (Bool.and_eq_true_iff.mp ((Bool.and_eq_true_iff.mp (big0)).1)).2 : PySem.W.findIn K (.ref C0) "what" = some none)
  have no0_1 := (of_decide_eq_true (Bool.and_eq_true_iff.mp (big0)).2 : PySem.W.findIn K (.ref C0) "number" = some none)
  have FI1 := fun_mk (st := inClass (topS 21) 0) li1 ci1 ki1
  have bI1 := FI1.binds (ps := ["self", "row"]) fun _ _ _ _ _ _ us hl => match us, hl with | [_, _], _ => rfl
  have oo1 : OexC K C1 := oexB_ok ((Bool.and_eq_true_iff.mp (big1)).1) ⟨nm1, qn1, N1, bs1, bm1, sn1, sub1, ab1, col1, dd1, ka1, kb1, kc1, kd1, ke1, lc1, lb1⟩
  have no1_0 := (of_decide_eq_true (Bool.and_eq_true_iff.mp (big1)).2 : PySem.W.findIn K (.ref C1) "row" = some none)
  obtain ⟨PC, PMk, PKp⟩ := polyC (mg := mg) (mgo mcg) bigP
  have Fg0 := fun_mk (st := inClass (topS 32) 0) lg0 cg0 kg0
  have bg0 := Fg0.binds (ps := ["self", "numbers"]) fun _ _ _ _ _ _ us hl => match us, hl with | [_, _], _ => rfl
  have Fg1 := fun_mk (st := inClass (topS 32) 1) lg1 cg1 kg1
  have bg1 := Fg1.binds (ps := ["self", "other"]) fun _ _ _ _ _ _ us hl => match us, hl with | [_, _], _ => rfl
  have Fg2 := fun_mk (st := inClass (topS 32) 12) lg2 cg2 kg2
  have bg2 := Fg2.binds (ps := ["self"]) fun _ _ _ _ _ _ us hl => match us, hl with | [_], _ => rfl
  have B : Bi mg := { int := mgn zint, list := mgn zlist, len := mgn zlen, range := mgn zrange }
  have T : Bk mg := { toBi := B, isinstance := mgn zisinstance, bool := mgn zbool, tuple := mgn ztuple, abs := mgn zabs, str := mgn zstr, gcd := mgo aggcd }
  have bl : ∀ (s : Shared) (u : Value), BindsTo s (PySem.W.fnOf "law" "law" (defArgs sLaw) (defBody sLaw) (defScope sLaw) .none kVf39 dcf39 pmf39 anf39 cdf39 ctf39) ⟨[u], []⟩ [("_law_script", u)] := fun s u => .of_eq rfl
  refine ⟨_, [], spLaw0 K, (fun p hp => nomatch hp), (fun p hp => nomatch hp), (fun p hp => nomatch hp), (fun s u => bl s u), (fun H a ns hl _ _ hS => ⟨a, ns, rfl, hS, hl, fun _ => rfl⟩), fun b _ _ mm1 _ => ?_⟩
  let NBadNumber : Ex l.prog w K mg b "BadNumber" C0 ["what", "number"] := ⟨oo0, i0, _, mgo m0, ei0, ti0, bI0, iniBadNumber FI0 oo0 no0_0 no0_1⟩
  let NBadRow : Ex l.prog w K mg b "BadRow" C1 ["row"] := ⟨oo1, i1, _, mgo m1, ei1, ti1, bI1, iniBadRow FI1 oo1 no1_0⟩
  let G_law_draw : Df l.prog w K mg b "_law_draw" 1 ["_law_pen_here", "_law_many"] spDraw := ⟨f1, _, mgo a1, k1, b1, ok_draw F1 B⟩
  let G_law_pick : Df l.prog w K mg b "_law_pick" 2 ["_law_pen_here", "_law_some"] spPick := ⟨f2, _, mgo a2, k2, b2, ok_pick F2 B G_law_draw⟩
  let G_law_pen : Df l.prog w K mg b "_law_pen" 1 ["_law_script"] (spPen K) := ⟨f0, _, mgo a0, k0, b0, ok_pen F0 B⟩
  let Gis_whole : Df l.prog w K mg b "is_whole" 1 ["value"] (spWhole K) := ⟨f3, _, mgo a3, k3, b3, ok_is_whole F3 T⟩
  let Gis_ratio : Df l.prog w K mg b "is_ratio" 2 ["value"] (spIsRatio K) := ⟨f4, _, mgo a4, k4, b4, ok_is_ratio F4 T Gis_whole⟩
  let Gis_ratio_row : Df l.prog w K mg b "is_ratio_row" 3 ["value"] (spIsRow K) := ⟨f5, _, mgo a5, k5, b5, ok_is_row F5 T (mgn zall) Gis_ratio⟩
  let Glowest : Df l.prog w K mg b "lowest" 1 ["top", "bottom"] spLow := ⟨f6, _, mgo a6, k6, b6, ok_lowest F6 T⟩
  let Gparts_of : Dx l.prog w K mg b "parts_of" 3 ["value", "what"] (spParts K C0) := ⟨f7, _, mgo a7, k7, b7, ok_parts F7 T Gis_ratio NBadNumber⟩
  let Gtold : Dx l.prog w K mg b "told" 4 ["value", "what"] (spTold K C0) := ⟨f8, _, mgo a8, k8, b8, ok_told F8 Gparts_of Glowest⟩
  let Gtimes : Dx l.prog w K mg b "times" 4 ["one", "other"] (spTwo K C0 (okLow gTimes)) := ⟨f9, _, mgo a9, k9, b9, ok_times F9 Gparts_of Glowest NBadNumber⟩
  let PM : PoM l.prog w K mg b Cg C1 := ⟨PC, g0, _, ⟨PMk, eg0, fn_of_ty tg0, PKp⟩, bg0, ok_poly_init Fg0 T PC NBadRow Gis_ratio_row Gtold, g1, _, eg1, fn_of_ty tg1, bg1, ok_poly_eq Fg1 T mm1 PC⟩
  let M_slope : MeX l.prog w K mg b Cg "slope" 7 ["self"] (spSlope K Cg) := ⟨g2, _, ⟨eg2, fn_of_ty tg2, kg2⟩, bg2, ok_slope Fg2 T PM Gtimes⟩
  let Gover_one_bottom : Df l.prog w K mg b "over_one_bottom" 1 ["numbers"] (spOver2 K) := ⟨f10, _, mgo a10, k10, b10, ok_over2 F10 (mgo aglcm)⟩
  let Gpoly_over : Dx l.prog w K mg b "poly_over" 7 ["row", "bottom"] (spPOv K Cg) := ⟨f11, _, mgo a11, k11, b11, ok_pov F11 PM⟩
  let Gstripped : Df l.prog w K mg b "stripped" 1 ["row"] spStrip := ⟨f12, _, mgo a12, k12, b12, ok_strip F12 T⟩
  let Gresidues : Df l.prog w K mg b "residues" 2 ["row", "prime"] spRes := ⟨f13, _, mgo a13, k13, b13, ok_res F13 Gstripped⟩
  let Gwithout_lead : Df l.prog w K mg b "without_lead" 2 ["one", "other", "factor", "number"] spWl := ⟨f14, _, mgo a14, k14, b14, ok_wl F14 T (mgn zzip) Gstripped⟩
  let Gnearest_residue : Df l.prog w K mg b "nearest_residue" 1 ["number", "prime"] spNear := ⟨f15, _, mgo a15, k15, b15, ok_near F15⟩
  let Ginverse : Df l.prog w K mg b "inverse" 1 ["number", "prime"] spInv := ⟨f16, _, mgo a16, k16, b16, ok_inv F16⟩
  let Gprimitive_row : Df l.prog w K mg b "primitive_row" 1 ["row"] spPrim := ⟨f17, _, mgo a17, k17, b17, ok_prim F17 T⟩
  let Gresidue_divisor : Df l.prog w K mg b "residue_divisor" 3 ["one", "other", "prime"] spRD := ⟨f18, _, mgo a18, k18, b18, ok_rd F18 T Gresidues Gwithout_lead⟩
  let Gdivides : Df l.prog w K mg b "divides" 3 ["one", "other"] spDvs := ⟨f19, _, mgo a19, k19, b19, ok_dvs F19 T Gwithout_lead⟩
  let Gdivisor_by_residues : Df l.prog w K mg b "divisor_by_residues" 4 ["one", "other", "prime"] spDR := ⟨f20, _, mgo a20, k20, b20, ok_dr F20 T Gresidue_divisor Ginverse Gnearest_residue Gprimitive_row Gdivides⟩
  have hPK : ∀ H, SqT K H PB (([61, 521, 1279, 2281, 4423, 9689, 19937, 44497] : List Int).map V.int) := fun H => .inr ⟨_, _, _, pbl, rfl, rfl, (by show 8 ≤ sizeLine; decide), .cons ⟨_, rfl⟩ (.cons ⟨_, rfl⟩ (.cons ⟨_, rfl⟩ (.cons ⟨_, rfl⟩ (.cons ⟨_, rfl⟩ (.cons ⟨_, rfl⟩ (.cons ⟨_, rfl⟩ (.cons ⟨_, rfl⟩ .nil)))))))⟩
  let Gcommon_row : Df l.prog w K mg b "common_row" 5 ["one", "other"] spCR := ⟨f21, _, mgo a21, k21, b21, ok_cr F21 (mgo pbm) hPK Gdivisor_by_residues⟩
  let Glong_division : Df l.prog w K mg b "long_division" 3 ["one", "other"] spLd := ⟨f22, _, mgo a22, k22, b22, ok_ld F22 T (mgn zmax) Gwithout_lead⟩
  let Gwhole_row : Df l.prog w K mg b "whole_row" 2 ["poly"] (spWR K Cg) := ⟨f23, _, mgo a23, k23, b23, ok_wr F23 PC Gprimitive_row Gover_one_bottom⟩
  let Gplain_of : Dx l.prog w K mg b "plain_of" 8 ["poly"] (spPlainOf K Cg) := ⟨f24, _, mgo a24, k24, b24, ok_plof F24 T PC Gwhole_row Gpoly_over⟩
  let Gcommon : Dx l.prog w K mg b "common" 9 ["one", "other"] (spCommonP K Cg) := ⟨f25, _, mgo a25, k25, b25, ok_comp F25 T PC Gplain_of Gwhole_row Gcommon_row Gpoly_over⟩
  let Gdivided : Dx l.prog w K mg b "divided" 8 ["one", "other"] (spDivd K Cg C0) := ⟨f26, _, mgo a26, k26, b26, ok_divd F26 T PC NBadNumber Gover_one_bottom Glong_division Gpoly_over⟩
  let Gquotients_of : Dx l.prog w K mg b "quotients_of" 9 ["polys"] (spQuots K Cg) := ⟨f27, _, mgo a27, k27, b27, ok_quots F27 T (mgn zzip) Gdivided PC⟩
  let Gsimple_parts : Dx l.prog w K mg b "simple_parts" 10 ["poly"] (spSP K Cg) := ⟨f28, _, mgo a28, k28, b28, ok_sp F28 T PM M_slope Gplain_of Gcommon Gquotients_of⟩
  let G_law_gcd : Df l.prog w K mg b "_law_gcd" 1 ["_law_one", "_law_two"] spGcd := ⟨f29, _, mgo a29, k29, b29, ok_lgcd F29 T⟩
  let G_law_q : Df l.prog w K mg b "_law_q" 2 ["_law_top", "_law_bottom"] spQ := ⟨f30, _, mgo a30, k30, b30, ok_lq F30 G_law_gcd⟩
  let G_law_plus : Df l.prog w K mg b "_law_plus" 3 ["_law_one", "_law_two"] (spL2 rAdd) := ⟨f31, _, mgo a31, k31, b31, ok_lplus F31 G_law_q⟩
  let G_law_times : Df l.prog w K mg b "_law_times" 3 ["_law_one", "_law_two"] (spL2 rMul) := ⟨f32, _, mgo a32, k32, b32, ok_ltimes F32 G_law_q⟩
  let G_law_passed : Df l.prog w K mg b "_law_passed" 3 ["_law_pen_here", "_law_ratio"] (spPassed K) := ⟨f33, _, mgo a33, k33, b33, ok_passed F33 G_law_draw G_law_pick⟩
  let G_law_poly : Df l.prog w K mg b "_law_poly" 1 ["_law_numbers"] (spLPoly K) := ⟨f34, _, mgo a34, k34, b34, ok_lpoly F34 T mm1⟩
  let G_law_p_times : Df l.prog w K mg b "_law_p_times" 4 ["_law_one", "_law_two"] spLPT := ⟨f35, _, mgo a35, k35, b35, ok_lptimes F35 T (mgn zmax) G_law_poly G_law_plus G_law_times⟩
  let G_law_made_poly : Df l.prog w K mg b "_law_made_poly" 7 ["_law_pen_here", "_law_one"] (spMade K Cg) := ⟨f36, _, mgo a36, k36, b36, ok_made F36 T PM G_law_draw G_law_pick G_law_passed⟩
  let G_law_far : Df l.prog w K mg b "_law_far" 3 ["_law_pen_here"] spFar := ⟨f37, _, mgo a37, k37, b37, ok_far F37 B G_law_draw G_law_pick⟩
  let G_law_some_ratio : Df l.prog w K mg b "_law_some_ratio" 4 ["_law_pen_here"] spSomeR := ⟨f38, _, mgo a38, k38, b38, ok_someR F38 T G_law_far G_law_q⟩
  exact ok_law F39 T mm1 PM G_law_pen G_law_draw G_law_pick G_law_made_poly G_law_p_times G_law_some_ratio Gsimple_parts
end Vf
open PySem PySem.W PyProof.Rows
set_option maxRecDepth 100000 in
set_option maxHeartbeats 0 in
theorem PySem.Challenge.cw_nearcurves_k06_whole_simple_parts_holds : PySem.Challenge.rw_nearcurves_k06_whole_simple_parts.Holds := by
  refine top_k06 ?_
  k_fill
  refine Vf.walkG (l := PySem.Challenge.rw_nearcurves_k06_whole_simple_parts) (n := 63) (k := 14) (C := fun _ => L2.CX0) (x := "_law_script") rfl (by decide) rfl ⟨rfl, by decide, by decide⟩ (by decide +kernel) (fun w h Y => PySem.W.kIn_of Y) ?F (fun _ _ _ _ _ z => z)
  case F =>
    intro w mg fa h Y X G hmg
    refine' Vf.all_mk X G hmg ?a0 ?l0 ?c0 ?k0 ?a1 ?l1 ?c1 ?k1 ?a2 ?l2 ?c2 ?k2 ?a3 ?l3 ?c3 ?k3 ?a4 ?l4 ?c4 ?k4 ?a5 ?l5 ?c5 ?k5 ?a6 ?l6 ?c6 ?k6 ?a7 ?l7 ?c7 ?k7 ?a8 ?l8 ?c8 ?k8 ?a9 ?l9 ?c9 ?k9 ?a10 ?l10 ?c10 ?k10 ?a11 ?l11 ?c11 ?k11 ?a12 ?l12 ?c12 ?k12 ?a13 ?l13 ?c13 ?k13 ?a14 ?l14 ?c14 ?k14 ?a15 ?l15 ?c15 ?k15 ?a16 ?l16 ?c16 ?k16 ?a17 ?l17 ?c17 ?k17 ?a18 ?l18 ?c18 ?k18 ?a19 ?l19 ?c19 ?k19 ?a20 ?l20 ?c20 ?k20 ?a21 ?l21 ?c21 ?k21 ?a22 ?l22 ?c22 ?k22 ?a23 ?l23 ?c23 ?k23 ?a24 ?l24 ?c24 ?k24 ?a25 ?l25 ?c25 ?k25 ?a26 ?l26 ?c26 ?k26 ?a27 ?l27 ?c27 ?k27 ?a28 ?l28 ?c28 ?k28 ?a29 ?l29 ?c29 ?k29 ?a30 ?l30 ?c30 ?k30 ?a31 ?l31 ?c31 ?k31 ?a32 ?l32 ?c32 ?k32 ?a33 ?l33 ?c33 ?k33 ?a34 ?l34 ?c34 ?k34 ?a35 ?l35 ?c35 ?k35 ?a36 ?l36 ?c36 ?k36 ?a37 ?l37 ?c37 ?k37 ?a38 ?l38 ?c38 ?k38 ?a39 ?l39 ?c39 ?k39 ?aggcd ?aglcm ?m0 ?ei0 ?ti0 ?li0 ?ci0 ?ki0 ?lc0 ?lb0 ?big0 ?m1 ?ei1 ?ti1 ?li1 ?ci1 ?ki1 ?lc1 ?lb1 ?big1 ?mcg ?eg0 ?tg0 ?lg0 ?cg0 ?kg0 ?eg1 ?tg1 ?lg1 ?cg1 ?kg1 ?eg2 ?tg2 ?lg2 ?cg2 ?kg2 ?zint ?zlist ?zlen ?zrange ?zstr ?zisinstance ?zbool ?ztuple ?zabs ?zall ?zmax ?zzip ?pbm ?pbl ?bigP
    (case a0 => k_is)
    (case l0 => k_is)
    (case c0 => k_is)
    (case k0 => k_is)
    (case a1 => k_is)
    (case l1 => k_is)
    (case c1 => k_is)
    (case k1 => k_is)
    (case a2 => k_is)
    (case l2 => k_is)
    (case c2 => k_is)
    (case k2 => k_is)
    (case a3 => k_is)
    (case l3 => k_is)
    (case c3 => k_is)
    (case k3 => k_is)
    (case a4 => k_is)
    (case l4 => k_is)
    (case c4 => k_is)
    (case k4 => k_is)
    (case a5 => k_is)
    (case l5 => k_is)
    (case c5 => k_is)
    (case k5 => k_is)
    (case a6 => k_is)
    (case l6 => k_is)
    (case c6 => k_is)
    (case k6 => k_is)
    (case a7 => k_is)
    (case l7 => k_is)
    (case c7 => k_is)
    (case k7 => k_is)
    (case a8 => k_is)
    (case l8 => k_is)
    (case c8 => k_is)
    (case k8 => k_is)
    (case a9 => k_is)
    (case l9 => k_is)
    (case c9 => k_is)
    (case k9 => k_is)
    (case a10 => k_is)
    (case l10 => k_is)
    (case c10 => k_is)
    (case k10 => k_is)
    (case a11 => k_is)
    (case l11 => k_is)
    (case c11 => k_is)
    (case k11 => k_is)
    (case a12 => k_is)
    (case l12 => k_is)
    (case c12 => k_is)
    (case k12 => k_is)
    (case a13 => k_is)
    (case l13 => k_is)
    (case c13 => k_is)
    (case k13 => k_is)
    (case a14 => k_is)
    (case l14 => k_is)
    (case c14 => k_is)
    (case k14 => k_is)
    (case a15 => k_is)
    (case l15 => k_is)
    (case c15 => k_is)
    (case k15 => k_is)
    (case a16 => k_is)
    (case l16 => k_is)
    (case c16 => k_is)
    (case k16 => k_is)
    (case a17 => k_is)
    (case l17 => k_is)
    (case c17 => k_is)
    (case k17 => k_is)
    (case a18 => k_is)
    (case l18 => k_is)
    (case c18 => k_is)
    (case k18 => k_is)
    (case a19 => k_is)
    (case l19 => k_is)
    (case c19 => k_is)
    (case k19 => k_is)
    (case a20 => k_is)
    (case l20 => k_is)
    (case c20 => k_is)
    (case k20 => k_is)
    (case a21 => k_is)
    (case l21 => k_is)
    (case c21 => k_is)
    (case k21 => k_is)
    (case a22 => k_is)
    (case l22 => k_is)
    (case c22 => k_is)
    (case k22 => k_is)
    (case a23 => k_is)
    (case l23 => k_is)
    (case c23 => k_is)
    (case k23 => k_is)
    (case a24 => k_is)
    (case l24 => k_is)
    (case c24 => k_is)
    (case k24 => k_is)
    (case a25 => k_is)
    (case l25 => k_is)
    (case c25 => k_is)
    (case k25 => k_is)
    (case a26 => k_is)
    (case l26 => k_is)
    (case c26 => k_is)
    (case k26 => k_is)
    (case a27 => k_is)
    (case l27 => k_is)
    (case c27 => k_is)
    (case k27 => k_is)
    (case a28 => k_is)
    (case l28 => k_is)
    (case c28 => k_is)
    (case k28 => k_is)
    (case a29 => k_is)
    (case l29 => k_is)
    (case c29 => k_is)
    (case k29 => k_is)
    (case a30 => k_is)
    (case l30 => k_is)
    (case c30 => k_is)
    (case k30 => k_is)
    (case a31 => k_is)
    (case l31 => k_is)
    (case c31 => k_is)
    (case k31 => k_is)
    (case a32 => k_is)
    (case l32 => k_is)
    (case c32 => k_is)
    (case k32 => k_is)
    (case a33 => k_is)
    (case l33 => k_is)
    (case c33 => k_is)
    (case k33 => k_is)
    (case a34 => k_is)
    (case l34 => k_is)
    (case c34 => k_is)
    (case k34 => k_is)
    (case a35 => k_is)
    (case l35 => k_is)
    (case c35 => k_is)
    (case k35 => k_is)
    (case a36 => k_is)
    (case l36 => k_is)
    (case c36 => k_is)
    (case k36 => k_is)
    (case a37 => k_is)
    (case l37 => k_is)
    (case c37 => k_is)
    (case k37 => k_is)
    (case a38 => k_is)
    (case l38 => k_is)
    (case c38 => k_is)
    (case k38 => k_is)
    (case a39 => k_is)
    (case l39 => k_is)
    (case c39 => k_is)
    (case k39 => k_is)
    (case aggcd => k_is)
    (case aglcm => k_is)
    (case m0 => k_is)
    (case ei0 => k_is)
    (case ti0 => k_is)
    (case li0 => k_is)
    (case ci0 => k_is)
    (case ki0 => k_is)
    (case lc0 => k_is)
    (case lb0 => decide +kernel)
    (case big0 => kernel_rfl)
    (case m1 => k_is)
    (case ei1 => k_is)
    (case ti1 => k_is)
    (case li1 => k_is)
    (case ci1 => k_is)
    (case ki1 => k_is)
    (case lc1 => k_is)
    (case lb1 => decide +kernel)
    (case big1 => kernel_rfl)
    (case mcg => k_is)
    (case eg0 => k_is)
    (case tg0 => k_is)
    (case lg0 => k_is)
    (case cg0 => k_is)
    (case kg0 => k_is)
    (case eg1 => k_is)
    (case tg1 => k_is)
    (case lg1 => k_is)
    (case cg1 => k_is)
    (case kg1 => k_is)
    (case eg2 => k_is)
    (case tg2 => k_is)
    (case lg2 => k_is)
    (case cg2 => k_is)
    (case kg2 => k_is)
    (case zint => k_is)
    (case zlist => k_is)
    (case zlen => k_is)
    (case zrange => k_is)
    (case zstr => k_is)
    (case zisinstance => k_is)
    (case zbool => k_is)
    (case ztuple => k_is)
    (case zabs => k_is)
    (case zall => k_is)
    (case zmax => k_is)
    (case zzip => k_is)
    (case pbm => k_is)
    (case pbl => k_is)
    (case bigP => kernel_rfl)
