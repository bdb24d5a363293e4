import PyProof.Rows.All
import Wide.All
import OpenK.AllK
import Wide.FinOn
import HandS.ForMost
import HandS.ForExc
import HandS.EndBits
import HandS.EndTab
import HandS.Lambda
import HandS.ExcInit
import HandS.ExcValue
import HandS.ExcIs
import HandS.IsInst
import PyProof.ReprLen
import PyProof.StrLawsRepr
import HandS.TryMany
import HandS.ExcField
import HandS.CallLocal
import HandS.Gcd
import HandS.Wide
import KE.DataEq
import HandS.SlotsOwn
import HandS.WordsExc
import HandS.Zip
import HandS.Style
import KE.GoesZip
import KE.GoesMore
import KE.GoesEnum
import HandS.TupAny
import HandS.TupMul
import HandS.WideBits
import HandS.Flow
import KE.SortData
import HandS.SortInts
import HandS.Small
import PySem.Challenge.RW_nearcurves_k19_numbers_of_rows
set_option Elab.async false
set_option linter.all false
theorem PySem.W.Fast.tw14323630893236673600 : True := trivial
theorem PySem.W.Fast.tw11293008295672783072 : True := trivial
theorem PySem.W.Fast.tw7798811845039542496 : True := trivial
theorem PySem.W.Fast.tw1553369073416793312 : True := trivial
theorem PySem.W.Fast.tw12717682927822228768 : True := trivial
theorem PySem.W.Fast.tw667384265203973408 : True := trivial
theorem PySem.W.Fast.tw16798470630353034560 : True := trivial
theorem PySem.W.Fast.tw3992850557461617984 : True := trivial
theorem PySem.W.Fast.tw1532801607917913440 : True := trivial
theorem PySem.W.Fast.tw14911987461967495520 : True := trivial
theorem PySem.W.Fast.tw15957147515929426304 : True := trivial
theorem PySem.W.Fast.tw9305243281653358144 : True := trivial
theorem PySem.W.Fast.tw13204711628947087936 : True := trivial
theorem PySem.W.Fast.tw4528736406558337600 : True := trivial
theorem PySem.W.Fast.tw10142530140175345408 : True := trivial
theorem PySem.W.Fast.tw17235218449700423456 : True := trivial
theorem PySem.W.Fast.tw16854359159533896544 : True := trivial
theorem PySem.W.Fast.tw7664722919964752736 : True := trivial
theorem PySem.W.Fast.tw5342501612896542560 : True := trivial
theorem PySem.W.Fast.tw3376415558474534848 : True := trivial
theorem PySem.W.Fast.tw15982220038994772993 : True := trivial
theorem PySem.W.Fast.tw17399078041409963073 : True := trivial
theorem PySem.W.Fast.tw11963447980536540289 : True := trivial
theorem PySem.W.Fast.tw10170051083428642977 : True := trivial
theorem PySem.W.Fast.tw2860088788543902913 : True := trivial
theorem PySem.W.Fast.tw18154371509783846081 : True := trivial
theorem PySem.W.Fast.tw16956239669615961377 : True := trivial
theorem PySem.W.Fast.tw13175274437274628417 : True := trivial
theorem PySem.W.Fast.tw7208679885525548449 : True := trivial
theorem PySem.W.Fast.tw6457076993876746689 : True := trivial
theorem PySem.W.Fast.tw16545388113329167841 : True := trivial
theorem PySem.W.Fast.tw17484200513139835393 : True := trivial
theorem PySem.W.Fast.tw5228532955578101249 : True := trivial
theorem PySem.W.Fast.tw2478196486512198177 : True := trivial
theorem PySem.W.Fast.tw9502467825423268417 : True := trivial
theorem PySem.W.Fast.tw44550492632136385 : True := trivial
theorem PySem.W.Fast.tw8588719484581972705 : True := trivial
theorem PySem.W.Fast.tw8554868826306616033 : True := trivial
theorem PySem.W.Fast.tw3853214843809531649 : True := trivial
theorem PySem.W.Fast.tw524077958589866753 : True := trivial
theorem PySem.W.Fast.tw11552404273522004865 : True := trivial
theorem PySem.W.Fast.tw18079338778780336033 : True := trivial
theorem PySem.W.Fast.tw6231178579986376706 : True := trivial
theorem PySem.W.Fast.tw14855053528618638402 : True := trivial
theorem PySem.W.Fast.tw3963151877347721314 : True := trivial
theorem PySem.W.Fast.tw14641918054018754722 : True := trivial
theorem PySem.W.Fast.tw4885088540249743522 : True := trivial
theorem PySem.W.Fast.tw13632025375970445506 : True := trivial
theorem PySem.W.Fast.tw5959523922169324738 : True := trivial
theorem PySem.W.Fast.tw1756155713856163138 : True := trivial
theorem PySem.W.Fast.tw7477146489505759618 : True := trivial
theorem PySem.W.Fast.tw9971714357690916226 : True := trivial
theorem PySem.W.Fast.tw770855720974197218 : True := trivial
theorem PySem.W.Fast.tw8298390189807936994 : True := trivial
theorem PySem.W.Fast.tw13056793841487455714 : True := trivial
theorem PySem.W.Fast.tw18212508710733808130 : True := trivial
theorem PySem.W.Fast.tw6746916844161611298 : True := trivial
theorem PySem.W.Fast.tw14488018747290706466 : True := trivial
theorem PySem.W.Fast.tw15505327918362522146 : True := trivial
theorem PySem.W.Fast.tw8926320272771967778 : True := trivial
theorem PySem.W.Fast.tw903840154373758786 : True := trivial
theorem PySem.W.Fast.tw16732410924830095202 : True := trivial
theorem PySem.W.Fast.tw12967696310056257442 : True := trivial
theorem PySem.W.Fast.tw15841320976088760258 : True := trivial
theorem PySem.W.Fast.tw1815263274186746818 : True := trivial
theorem PySem.W.Fast.tw5612031799097848835 : True := trivial
theorem PySem.W.Fast.tw5410069326386118723 : True := trivial
theorem PySem.W.Fast.tw9221584232142196803 : True := trivial
theorem PySem.W.Fast.tw6929341287902734435 : True := trivial
theorem PySem.W.Fast.tw7177338860185858179 : True := trivial
theorem PySem.W.Fast.tw13518278434581007555 : True := trivial
theorem PySem.W.Fast.tw7072738597370642947 : True := trivial
theorem PySem.W.Fast.tw9839991105580753635 : True := trivial
theorem PySem.W.Fast.tw12269909623691709187 : True := trivial
theorem PySem.W.Fast.tw9408026007276153603 : True := trivial
theorem PySem.W.Fast.tw7498303613852880675 : True := trivial
theorem PySem.W.Fast.tw16688983359635245923 : True := trivial
theorem PySem.W.Fast.tw9283022063423136675 : True := trivial
theorem PySem.W.Fast.tw5053959111107087331 : True := trivial
theorem PySem.W.Fast.tw6937664938941600772 : True := trivial
theorem PySem.W.Fast.tw12512552034052632612 : True := trivial
theorem PySem.W.Fast.tw4796919377489326276 : True := trivial
theorem PySem.W.Fast.tw11646785571324088580 : True := trivial
theorem PySem.W.Fast.tw3726315523567828420 : True := trivial
theorem PySem.W.Fast.tw12427313878082197028 : True := trivial
theorem PySem.W.Fast.tw4032674964478171748 : True := trivial
theorem PySem.W.Fast.tw10617578239663937252 : True := trivial
theorem PySem.W.Fast.tw14442624640366942980 : True := trivial
theorem PySem.W.Fast.tw9078626688795366148 : True := trivial
theorem PySem.W.Fast.tw3970967960080647972 : True := trivial
theorem PySem.W.Fast.tw60053033658486628 : True := trivial
theorem PySem.W.Fast.tw4241073177713365924 : True := trivial
theorem PySem.W.Fast.tw1203085819920390116 : True := trivial
theorem PySem.W.Fast.tw12683346600370647045 : True := trivial
theorem PySem.W.Fast.tw15703735893463708837 : True := trivial
theorem PySem.W.Fast.tw12054750348098433285 : True := trivial
theorem PySem.W.Fast.tw923445779457955109 : True := trivial
theorem PySem.W.Fast.tw10105236969937039653 : True := trivial
theorem PySem.W.Fast.tw9305778057402800485 : True := trivial
theorem PySem.W.Fast.tw7277164039977614725 : True := trivial
theorem PySem.W.Fast.tw2998259119546257893 : True := trivial
theorem PySem.W.Fast.tw15729683259671535173 : True := trivial
theorem PySem.W.Fast.tw3612081834179045029 : True := trivial
theorem PySem.W.Fast.tw9868152709296599717 : True := trivial
theorem PySem.W.Fast.tw5056835342392955653 : True := trivial
theorem PySem.W.Fast.tw10803798719075900197 : True := trivial
theorem PySem.W.Fast.tw16572172879145165605 : True := trivial
theorem PySem.W.Fast.tw4453832093109368645 : True := trivial
theorem PySem.W.Fast.tw5392197859698423621 : True := trivial
theorem PySem.W.Fast.tw7483999957037782885 : True := trivial
theorem PySem.W.Fast.tw990983909241261989 : True := trivial
theorem PySem.W.Fast.tw11669228636537935910 : True := trivial
theorem PySem.W.Fast.tw14421579517788004454 : True := trivial
theorem PySem.W.Fast.tw12041914388024529094 : True := trivial
theorem PySem.W.Fast.tw17027231526705339590 : True := trivial
theorem PySem.W.Fast.tw11836294027641452774 : True := trivial
theorem PySem.W.Fast.tw8308883879338232134 : True := trivial
theorem PySem.W.Fast.tw14109280637187945830 : True := trivial
theorem PySem.W.Fast.tw3469952842558539142 : True := trivial
theorem PySem.W.Fast.tw7316016741832820166 : True := trivial
theorem PySem.W.Fast.tw13437206940296888774 : True := trivial
theorem PySem.W.Fast.tw8824947143541972422 : True := trivial
theorem PySem.W.Fast.tw16201294413099240966 : True := trivial
theorem PySem.W.Fast.tw4371750034544373254 : True := trivial
theorem PySem.W.Fast.tw4453484158126501414 : True := trivial
theorem PySem.W.Fast.tw492688184117436006 : True := trivial
theorem PySem.W.Fast.tw11547203840576482982 : True := trivial
theorem PySem.W.Fast.tw8623793253634213702 : True := trivial
theorem PySem.W.Fast.tw11365114322225383270 : True := trivial
theorem PySem.W.Fast.tw3441297497826446182 : True := trivial
theorem PySem.W.Fast.tw14672358089406335846 : True := trivial
theorem PySem.W.Fast.tw9176861840328126310 : True := trivial
theorem PySem.W.Fast.tw15055576140337440742 : True := trivial
theorem PySem.W.Fast.tw16721681587254437895 : True := trivial
theorem PySem.W.Fast.tw12975530854210483207 : True := trivial
theorem PySem.W.Fast.tw14857481455491593223 : True := trivial
theorem PySem.W.Fast.tw2364276915681939495 : True := trivial
theorem PySem.W.Fast.tw16378187937137417319 : True := trivial
theorem PySem.W.Fast.tw14107968714125124743 : True := trivial
theorem PySem.W.Fast.tw12619978503122430087 : True := trivial
theorem PySem.W.Fast.tw8524809670637677703 : True := trivial
theorem PySem.W.Fast.tw3569711248482760839 : True := trivial
theorem PySem.W.Fast.tw18409213160851551495 : True := trivial
theorem PySem.W.Fast.tw16695293815051399463 : True := trivial
theorem PySem.W.Fast.tw13172764291901307271 : True := trivial
theorem PySem.W.Fast.tw6036167176541781383 : True := trivial
theorem PySem.W.Fast.tw15835874733730245031 : True := trivial
theorem PySem.W.Fast.tw11926611790120449479 : True := trivial
theorem PySem.W.Fast.tw11116014526062992871 : True := trivial
theorem PySem.W.Fast.tw845479047960346087 : True := trivial
theorem PySem.W.Fast.tw15976791368667840007 : True := trivial
theorem PySem.W.Fast.tw14895702088454725159 : True := trivial
theorem PySem.W.Fast.tw17243167515227066951 : True := trivial
theorem PySem.W.Fast.tw17373006557547081351 : True := trivial
theorem PySem.W.Fast.tw16851091582555017895 : True := trivial
theorem PySem.W.Fast.tw8873762390480263879 : True := trivial
theorem PySem.W.Fast.tw11887434104612676327 : True := trivial
theorem PySem.W.Fast.tw3045286476333310727 : True := trivial
theorem PySem.W.Fast.tw7935213434875627303 : True := trivial
theorem PySem.W.Fast.tw13159051171107040039 : True := trivial
theorem PySem.W.Fast.tw10219693581086884679 : True := trivial
theorem PySem.W.Fast.tw11086150648194293607 : True := trivial
theorem PySem.W.Fast.tw17995956228011796359 : True := trivial
theorem PySem.W.Fast.tw11596901190325558151 : True := trivial
theorem PySem.W.Fast.tw15557276130933308424 : True := trivial
theorem PySem.W.Fast.tw17244527991690963112 : True := trivial
theorem PySem.W.Fast.tw16840208646665948328 : True := trivial
theorem PySem.W.Fast.tw13547819367093056776 : True := trivial
theorem PySem.W.Fast.tw878917960241843624 : True := trivial
theorem PySem.W.Fast.tw2155038925740927400 : True := trivial
theorem PySem.W.Fast.tw4505495748539739592 : True := trivial
theorem PySem.W.Fast.tw16317586500494137832 : True := trivial
theorem PySem.W.Fast.tw1981102351503038120 : True := trivial
theorem PySem.W.Fast.tw18277649333094435720 : True := trivial
theorem PySem.W.Fast.tw18032547039377773609 : True := trivial
theorem PySem.W.Fast.tw6385579817364828233 : True := trivial
theorem PySem.W.Fast.tw7956868200174943305 : True := trivial
theorem PySem.W.Fast.tw6768533210173292681 : True := trivial
theorem PySem.W.Fast.tw6488172963510736009 : True := trivial
theorem PySem.W.Fast.tw6087264298487025833 : True := trivial
theorem PySem.W.Fast.tw9885071717293307113 : True := trivial
theorem PySem.W.Fast.tw3015429956167530729 : True := trivial
theorem PySem.W.Fast.tw2503308602864667913 : True := trivial
theorem PySem.W.Fast.tw13979069189543365897 : True := trivial
theorem PySem.W.Fast.tw15738288352457340169 : True := trivial
theorem PySem.W.Fast.tw8869208319561297193 : True := trivial
theorem PySem.W.Fast.tw8116095304267719145 : True := trivial
theorem PySem.W.Fast.tw8412254762791400073 : True := trivial
theorem PySem.W.Fast.tw4099066338661064425 : True := trivial
theorem PySem.W.Fast.tw15511920822154829577 : True := trivial
theorem PySem.W.Fast.tw9235807757324545801 : True := trivial
theorem PySem.W.Fast.tw8916792932752336681 : True := trivial
theorem PySem.W.Fast.tw2690729402426227657 : True := trivial
theorem PySem.W.Fast.tw6387736504611132426 : True := trivial
theorem PySem.W.Fast.tw16773926017201865770 : True := trivial
theorem PySem.W.Fast.tw13840215073296516234 : True := trivial
theorem PySem.W.Fast.tw7433840878794776746 : True := trivial
theorem PySem.W.Fast.tw6579282129288864938 : True := trivial
theorem PySem.W.Fast.tw6939319664430481610 : True := trivial
theorem PySem.W.Fast.tw2881184559564439850 : True := trivial
theorem PySem.W.Fast.tw3858790186175685034 : True := trivial
theorem PySem.W.Fast.tw2666291555489168874 : True := trivial
theorem PySem.W.Fast.tw13552000956904050218 : True := trivial
theorem PySem.W.Fast.tw12945624510590449226 : True := trivial
theorem PySem.W.Fast.tw3728084256125212298 : True := trivial
theorem PySem.W.Fast.tw14126769853524866986 : True := trivial
theorem PySem.W.Fast.tw17721240553024133034 : True := trivial
theorem PySem.W.Fast.tw12139070340405890026 : True := trivial
theorem PySem.W.Fast.tw13511260234196363499 : True := trivial
theorem PySem.W.Fast.tw1230595998770052331 : True := trivial
theorem PySem.W.Fast.tw887212492501379371 : True := trivial
theorem PySem.W.Fast.tw11626811877446203787 : True := trivial
theorem PySem.W.Fast.tw3576425217821328811 : True := trivial
theorem PySem.W.Fast.tw16615166915953752555 : True := trivial
theorem PySem.W.Fast.tw12779766360122925611 : True := trivial
theorem PySem.W.Fast.tw15341789270510760523 : True := trivial
theorem PySem.W.Fast.tw4507081613832262251 : True := trivial
theorem PySem.W.Fast.tw11299716448533767083 : True := trivial
theorem PySem.W.Fast.tw10773922467394681868 : True := trivial
theorem PySem.W.Fast.tw4407907165239517324 : True := trivial
theorem PySem.W.Fast.tw14600597998230310028 : True := trivial
theorem PySem.W.Fast.tw47041307075429548 : True := trivial
theorem PySem.W.Fast.tw4804455049687552172 : True := trivial
theorem PySem.W.Fast.tw10270355950196227276 : True := trivial
theorem PySem.W.Fast.tw13648135616291500268 : True := trivial
theorem PySem.W.Fast.tw5166979820429013292 : True := trivial
theorem PySem.W.Fast.tw12371544772656139660 : True := trivial
theorem PySem.W.Fast.tw11667096424773760428 : True := trivial
theorem PySem.W.Fast.tw4844624952537302444 : True := trivial
theorem PySem.W.Fast.tw8865151793929068012 : True := trivial
theorem PySem.W.Fast.tw7125152378883585580 : True := trivial
theorem PySem.W.Fast.tw8261942144380656172 : True := trivial
theorem PySem.W.Fast.tw18282551414247656012 : True := trivial
theorem PySem.W.Fast.tw15462875618142593644 : True := trivial
theorem PySem.W.Fast.tw10515189612981607052 : True := trivial
theorem PySem.W.Fast.tw6522259178183407276 : True := trivial
theorem PySem.W.Fast.tw18202602975200930476 : True := trivial
theorem PySem.W.Fast.tw14600526792549314380 : True := trivial
theorem PySem.W.Fast.tw6573375665779197772 : True := trivial
theorem PySem.W.Fast.tw17171891833740314444 : True := trivial
theorem PySem.W.Fast.tw10465774143760780172 : True := trivial
theorem PySem.W.Fast.tw1587486283340027852 : True := trivial
theorem PySem.W.Fast.tw8370186285059144717 : True := trivial
theorem PySem.W.Fast.tw3083110979609011341 : True := trivial
theorem PySem.W.Fast.tw15075498142422849709 : True := trivial
theorem PySem.W.Fast.tw8585128302863490253 : True := trivial
theorem PySem.W.Fast.tw2186612011815476461 : True := trivial
theorem PySem.W.Fast.tw10585368577364157741 : True := trivial
theorem PySem.W.Fast.tw2229892237013924269 : True := trivial
theorem PySem.W.Fast.tw9831455885736517229 : True := trivial
theorem PySem.W.Fast.tw5026534996522424013 : True := trivial
theorem PySem.W.Fast.tw18249017961369705197 : True := trivial
theorem PySem.W.Fast.tw9376149088162150285 : True := trivial
theorem PySem.W.Fast.tw12985039200818164685 : True := trivial
theorem PySem.W.Fast.tw13487163330445826094 : True := trivial
theorem PySem.W.Fast.tw9473670981219946574 : True := trivial
theorem PySem.W.Fast.tw1244808012953442382 : True := trivial
theorem PySem.W.Fast.tw13785407010272995406 : True := trivial
theorem PySem.W.Fast.tw17360082052375385198 : True := trivial
theorem PySem.W.Fast.tw12871240330246359214 : True := trivial
theorem PySem.W.Fast.tw5783131302303739086 : True := trivial
theorem PySem.W.Fast.tw4106044105234937038 : True := trivial
theorem PySem.W.Fast.tw7381710134982836622 : True := trivial
theorem PySem.W.Fast.tw13230441235073809870 : True := trivial
theorem PySem.W.Fast.tw2910254334319639022 : True := trivial
theorem PySem.W.Fast.tw14656142799828991694 : True := trivial
theorem PySem.W.Fast.tw15364968345329892046 : True := trivial
theorem PySem.W.Fast.tw648616911590272782 : True := trivial
theorem PySem.W.Fast.tw1855141482805486446 : True := trivial
theorem PySem.W.Fast.tw14787569759141580654 : True := trivial
theorem PySem.W.Fast.tw18431174042466099118 : True := trivial
theorem PySem.W.Fast.tw15577326164193948751 : True := trivial
theorem PySem.W.Fast.tw7175105163032353871 : True := trivial
theorem PySem.W.Fast.tw6060991682202228911 : True := trivial
theorem PySem.W.Fast.tw12086181641069864143 : True := trivial
theorem PySem.W.Fast.tw4273372766831158575 : True := trivial
theorem PySem.W.Fast.tw12836848403084953967 : True := trivial
theorem PySem.W.Fast.tw3177957649893640559 : True := trivial
theorem PySem.W.Fast.tw6067399569839126063 : True := trivial
theorem PySem.W.Fast.tw3742258818020281999 : True := trivial
theorem PySem.W.Fast.tw13158810975187566255 : True := trivial
theorem PySem.W.Fast.tw14840709447432983247 : True := trivial
theorem PySem.W.Fast.tw14417154208522969007 : True := trivial
theorem PySem.W.Fast.tw9570748841149993040 : True := trivial
theorem PySem.W.Fast.tw17002865343894066320 : True := trivial
theorem PySem.W.Fast.tw37599988585844880 : True := trivial
theorem PySem.W.Fast.tw18313532335925399728 : True := trivial
theorem PySem.W.Fast.tw17240638023253741776 : True := trivial
theorem PySem.W.Fast.tw6567138943626765520 : True := trivial
theorem PySem.W.Fast.tw12618058332420478352 : True := trivial
theorem PySem.W.Fast.tw1862791889615690160 : True := trivial
theorem PySem.W.Fast.tw3666213806217251280 : True := trivial
theorem PySem.W.Fast.tw2657444571799321040 : True := trivial
theorem PySem.W.Fast.tw2092628575932139056 : True := trivial
theorem PySem.W.Fast.tw17309026760056556112 : True := trivial
theorem PySem.W.Fast.tw7826065681760160400 : True := trivial
theorem PySem.W.Fast.tw11632612498735552144 : True := trivial
theorem PySem.W.Fast.tw16383750662165436080 : True := trivial
theorem PySem.W.Fast.tw10480118961570387664 : True := trivial
theorem PySem.W.Fast.tw1115595131679259344 : True := trivial
theorem PySem.W.Fast.tw13254301521350643440 : True := trivial
theorem PySem.W.Fast.tw8812540719816068880 : True := trivial
theorem PySem.W.Fast.tw18014337772974913328 : True := trivial
theorem PySem.W.Fast.tw4795177708685095792 : True := trivial
theorem PySem.W.Fast.tw6280462676994254865 : True := trivial
theorem PySem.W.Fast.tw16402999206337362993 : True := trivial
theorem PySem.W.Fast.tw270546336438972497 : True := trivial
theorem PySem.W.Fast.tw11951119555517121809 : True := trivial
theorem PySem.W.Fast.tw680345707217673489 : True := trivial
theorem PySem.W.Fast.tw12469055829009580433 : True := trivial
theorem PySem.W.Fast.tw3981342744544304561 : True := trivial
theorem PySem.W.Fast.tw1413587994367406577 : True := trivial
theorem PySem.W.Fast.tw11132298830854544913 : True := trivial
theorem PySem.W.Fast.tw5744092588878119441 : True := trivial
theorem PySem.W.Fast.tw9843176052543076945 : True := trivial
theorem PySem.W.Fast.tw11646507564465351281 : True := trivial
theorem PySem.W.Fast.tw5864837709661646449 : True := trivial
theorem PySem.W.Fast.tw14082082076874467953 : True := trivial
theorem PySem.W.Fast.tw6443258526774671025 : True := trivial
theorem PySem.W.Fast.tw6137766858763136689 : True := trivial
theorem PySem.W.Fast.tw18096871071383595825 : True := trivial
theorem PySem.W.Fast.tw16857265301429611345 : True := trivial
theorem PySem.W.Fast.tw17131133341545597905 : True := trivial
theorem PySem.W.Fast.tw10936289771343650801 : True := trivial
theorem PySem.W.Fast.tw7181002644872359921 : True := trivial
theorem PySem.W.Fast.tw7542583300061960210 : True := trivial
theorem PySem.W.Fast.tw18381574603336735794 : True := trivial
theorem PySem.W.Fast.tw3995374492486912050 : True := trivial
theorem PySem.W.Fast.tw12136026520551619666 : True := trivial
theorem PySem.W.Fast.tw649657748580361394 : True := trivial
theorem PySem.W.Fast.tw6574859422649408754 : True := trivial
theorem PySem.W.Fast.tw7732027895417221394 : True := trivial
theorem PySem.W.Fast.tw2799916943921547570 : True := trivial
theorem PySem.W.Fast.tw4893454043992206738 : True := trivial
theorem PySem.W.Fast.tw5726615932873967058 : True := trivial
theorem PySem.W.Fast.tw17193116700314719762 : True := trivial
theorem PySem.W.Fast.tw16291732745693862514 : True := trivial
theorem PySem.W.Fast.tw405101012406610546 : True := trivial
theorem PySem.W.Fast.tw3997282729543303922 : True := trivial
theorem PySem.W.Fast.tw16843845212687299378 : True := trivial
theorem PySem.W.Fast.tw16148693785622088562 : True := trivial
theorem PySem.W.Fast.tw1218663247839925138 : True := trivial
theorem PySem.W.Fast.tw2030268623082313618 : True := trivial
theorem PySem.W.Fast.tw735378629206874034 : True := trivial
theorem PySem.W.Fast.tw8192235472576777170 : True := trivial
theorem PySem.W.Fast.tw16305273322581665746 : True := trivial
theorem PySem.W.Fast.tw1701820470261245043 : True := trivial
theorem PySem.W.Fast.tw12838110150297357587 : True := trivial
theorem PySem.W.Fast.tw13852302313033698611 : True := trivial
theorem PySem.W.Fast.tw8380495669628166579 : True := trivial
theorem PySem.W.Fast.tw4255975900439000531 : True := trivial
theorem PySem.W.Fast.tw12716829092400923187 : True := trivial
theorem PySem.W.Fast.tw2271602565351162419 : True := trivial
theorem PySem.W.Fast.tw3105716008354680435 : True := trivial
theorem PySem.W.Fast.tw7171353694637545139 : True := trivial
theorem PySem.W.Fast.tw217517629681625779 : True := trivial
theorem PySem.W.Fast.tw7645111244015764211 : True := trivial
theorem PySem.W.Fast.tw11096226637478499091 : True := trivial
theorem PySem.W.Fast.tw8336079646328360787 : True := trivial
theorem PySem.W.Fast.tw7445764199314665331 : True := trivial
theorem PySem.W.Fast.tw16958688070722878355 : True := trivial
theorem PySem.W.Fast.tw18278683142783101076 : True := trivial
theorem PySem.W.Fast.tw13286202019534088468 : True := trivial
theorem PySem.W.Fast.tw2330023684460354900 : True := trivial
theorem PySem.W.Fast.tw6519092967223517556 : True := trivial
theorem PySem.W.Fast.tw4598137077206787508 : True := trivial
theorem PySem.W.Fast.tw9986203569054720532 : True := trivial
theorem PySem.W.Fast.tw8345486849950458452 : True := trivial
theorem PySem.W.Fast.tw10598655252298550900 : True := trivial
theorem PySem.W.Fast.tw11781733889102091124 : True := trivial
theorem PySem.W.Fast.tw681660329612550004 : True := trivial
theorem PySem.W.Fast.tw15700248483289930708 : True := trivial
theorem PySem.W.Fast.tw6709045006941491285 : True := trivial
theorem PySem.W.Fast.tw3425207940455839893 : True := trivial
theorem PySem.W.Fast.tw8312556660475834581 : True := trivial
theorem PySem.W.Fast.tw8807660016452258005 : True := trivial
theorem PySem.W.Fast.tw7610431917058009333 : True := trivial
theorem PySem.W.Fast.tw6788152575758823733 : True := trivial
theorem PySem.W.Fast.tw4491807768627305973 : True := trivial
theorem PySem.W.Fast.tw4026148885964694101 : True := trivial
theorem PySem.W.Fast.tw4810783500677303893 : True := trivial
theorem PySem.W.Fast.tw16624302017213522613 : True := trivial
theorem PySem.W.Fast.tw7043075295409188597 : True := trivial
theorem PySem.W.Fast.tw5570704753946369813 : True := trivial
theorem PySem.W.Fast.tw15891568547095644085 : True := trivial
theorem PySem.W.Fast.tw10336100957069591477 : True := trivial
theorem PySem.W.Fast.tw14622982334499399637 : True := trivial
theorem PySem.W.Fast.tw1925631524428554262 : True := trivial
theorem PySem.W.Fast.tw11700585219881925814 : True := trivial
theorem PySem.W.Fast.tw15770507970834563254 : True := trivial
theorem PySem.W.Fast.tw5020623152433510678 : True := trivial
theorem PySem.W.Fast.tw7644441640796096886 : True := trivial
theorem PySem.W.Fast.tw16255639582477069718 : True := trivial
theorem PySem.W.Fast.tw10507703703916769686 : True := trivial
theorem PySem.W.Fast.tw2424437435466956246 : True := trivial
theorem PySem.W.Fast.tw1240924744053018134 : True := trivial
theorem PySem.W.Fast.tw6957085188307401270 : True := trivial
theorem PySem.W.Fast.tw17733708443131973270 : True := trivial
theorem PySem.W.Fast.tw11460272876079036054 : True := trivial
theorem PySem.W.Fast.tw18007949434086928054 : True := trivial
theorem PySem.W.Fast.tw15596187277077366582 : True := trivial
theorem PySem.W.Fast.tw11084405545066573654 : True := trivial
theorem PySem.W.Fast.tw16874667840799930198 : True := trivial
theorem PySem.W.Fast.tw2082571526117568374 : True := trivial
theorem PySem.W.Fast.tw2342019844223491990 : True := trivial
theorem PySem.W.Fast.tw16917809409895614358 : True := trivial
theorem PySem.W.Fast.tw747438409448715190 : True := trivial
theorem PySem.W.Fast.tw14332085379494030262 : True := trivial
theorem PySem.W.Fast.tw1921796637130768374 : True := trivial
theorem PySem.W.Fast.tw13460480231850982455 : True := trivial
theorem PySem.W.Fast.tw4757392969625287735 : True := trivial
theorem PySem.W.Fast.tw3212807978735867031 : True := trivial
theorem PySem.W.Fast.tw10353435724244986103 : True := trivial
theorem PySem.W.Fast.tw11935338353373196535 : True := trivial
theorem PySem.W.Fast.tw9074956709056664919 : True := trivial
theorem PySem.W.Fast.tw16979822201013039447 : True := trivial
theorem PySem.W.Fast.tw10969663156987705751 : True := trivial
theorem PySem.W.Fast.tw7459666569082343863 : True := trivial
theorem PySem.W.Fast.tw18336574131822976471 : True := trivial
theorem PySem.W.Fast.tw14059123444710174263 : True := trivial
theorem PySem.W.Fast.tw7868069948808044183 : True := trivial
theorem PySem.W.Fast.tw1221466345559633559 : True := trivial
theorem PySem.W.Fast.tw5375121931096159031 : True := trivial
theorem PySem.W.Fast.tw10338506723751636823 : True := trivial
theorem PySem.W.Fast.tw7583634297291624407 : True := trivial
theorem PySem.W.Fast.tw16568446259021404119 : True := trivial
theorem PySem.W.Fast.tw4087744372042514423 : True := trivial
theorem PySem.W.Fast.tw8915907095534769208 : True := trivial
theorem PySem.W.Fast.tw14171264568744094904 : True := trivial
theorem PySem.W.Fast.tw9402510229023329528 : True := trivial
theorem PySem.W.Fast.tw6822075913327397112 : True := trivial
theorem PySem.W.Fast.tw18261023649524932856 : True := trivial
theorem PySem.W.Fast.tw9982066207105364248 : True := trivial
theorem PySem.W.Fast.tw14961085413111086360 : True := trivial
theorem PySem.W.Fast.tw8791570594269558072 : True := trivial
theorem PySem.W.Fast.tw18137831102462381368 : True := trivial
theorem PySem.W.Fast.tw10585998212601543064 : True := trivial
theorem PySem.W.Fast.tw12952341950475148696 : True := trivial
theorem PySem.W.Fast.tw15699043666437621144 : True := trivial
theorem PySem.W.Fast.tw9334636365839817304 : True := trivial
theorem PySem.W.Fast.tw10529030711684548216 : True := trivial
theorem PySem.W.Fast.tw13944768748600674936 : True := trivial
theorem PySem.W.Fast.tw17514653512312235768 : True := trivial
theorem PySem.W.Fast.tw6554297927465602840 : True := trivial
theorem PySem.W.Fast.tw15921865762340332344 : True := trivial
theorem PySem.W.Fast.tw10779937750776037208 : True := trivial
theorem PySem.W.Fast.tw11086541595200641880 : True := trivial
theorem PySem.W.Fast.tw3927849161004263416 : True := trivial
theorem PySem.W.Fast.tw10673905618651961369 : True := trivial
theorem PySem.W.Fast.tw346124275404737561 : True := trivial
theorem PySem.W.Fast.tw17031992949554648153 : True := trivial
theorem PySem.W.Fast.tw17760394826755150969 : True := trivial
theorem PySem.W.Fast.tw14640447255874225401 : True := trivial
theorem PySem.W.Fast.tw15365859704600976697 : True := trivial
theorem PySem.W.Fast.tw16635674577632012697 : True := trivial
theorem PySem.W.Fast.tw2288823942116650457 : True := trivial
theorem PySem.W.Fast.tw1351765031364572633 : True := trivial
theorem PySem.W.Fast.tw7620707574370192921 : True := trivial
theorem PySem.W.Fast.tw2526770774751575609 : True := trivial
theorem PySem.W.Fast.tw1545746077842997849 : True := trivial
theorem PySem.W.Fast.tw14945527267581964889 : True := trivial
theorem PySem.W.Fast.tw3241227338301648633 : True := trivial
theorem PySem.W.Fast.tw14727741175937094425 : True := trivial
theorem PySem.W.Fast.tw4203422008573526937 : True := trivial
theorem PySem.W.Fast.tw9933458111095291801 : True := trivial
theorem PySem.W.Fast.tw9942692721135010777 : True := trivial
theorem PySem.W.Fast.tw18338541041778224089 : True := trivial
theorem PySem.W.Fast.tw3799319219703616505 : True := trivial
theorem PySem.W.Fast.tw9330865084764168218 : True := trivial
theorem PySem.W.Fast.tw6542610886186419226 : True := trivial
theorem PySem.W.Fast.tw2679901943450609722 : True := trivial
theorem PySem.W.Fast.tw12877309089146271834 : True := trivial
theorem PySem.W.Fast.tw12472983896867617050 : True := trivial
theorem PySem.W.Fast.tw6116793823346195770 : True := trivial
theorem PySem.W.Fast.tw1617821369440733530 : True := trivial
theorem PySem.W.Fast.tw1222331262015334778 : True := trivial
theorem PySem.W.Fast.tw17082073398147781146 : True := trivial
theorem PySem.W.Fast.tw1233894315040861722 : True := trivial
theorem PySem.W.Fast.tw1654542586120219258 : True := trivial
theorem PySem.W.Fast.tw4050403544657981210 : True := trivial
theorem PySem.W.Fast.tw830650809810887771 : True := trivial
theorem PySem.W.Fast.tw9696186315091817595 : True := trivial
theorem PySem.W.Fast.tw7717423504115865883 : True := trivial
theorem PySem.W.Fast.tw16506567100189658395 : True := trivial
theorem PySem.W.Fast.tw16841331491096155419 : True := trivial
theorem PySem.W.Fast.tw15857702318612192635 : True := trivial
theorem PySem.W.Fast.tw9610428568859035 : True := trivial
theorem PySem.W.Fast.tw6704201908691620379 : True := trivial
theorem PySem.W.Fast.tw171059726348528219 : True := trivial
theorem PySem.W.Fast.tw12257062204621776475 : True := trivial
theorem PySem.W.Fast.tw2471108727038681755 : True := trivial
theorem PySem.W.Fast.tw7135097063767233243 : True := trivial
theorem PySem.W.Fast.tw15274316922328454907 : True := trivial
theorem PySem.W.Fast.tw12362103014950576891 : True := trivial
theorem PySem.W.Fast.tw4831681338576677627 : True := trivial
theorem PySem.W.Fast.tw9869566791506418491 : True := trivial
theorem PySem.W.Fast.tw5447559307701608251 : True := trivial
theorem PySem.W.Fast.tw10390976879415149435 : True := trivial
theorem PySem.W.Fast.tw13226083482546067323 : True := trivial
theorem PySem.W.Fast.tw5147374606980290555 : True := trivial
theorem PySem.W.Fast.tw5647745457464790076 : True := trivial
theorem PySem.W.Fast.tw10865580347192513596 : True := trivial
theorem PySem.W.Fast.tw9135142233220811900 : True := trivial
theorem PySem.W.Fast.tw17274953693531389116 : True := trivial
theorem PySem.W.Fast.tw2030040368359547100 : True := trivial
theorem PySem.W.Fast.tw16516688899254343900 : True := trivial
theorem PySem.W.Fast.tw13560465606265427196 : True := trivial
theorem PySem.W.Fast.tw12777244541548224924 : True := trivial
theorem PySem.W.Fast.tw15056823855340798492 : True := trivial
theorem PySem.W.Fast.tw6490854892840406556 : True := trivial
theorem PySem.W.Fast.tw3317361877505062556 : True := trivial
theorem PySem.W.Fast.tw6265960680321643164 : True := trivial
theorem PySem.W.Fast.tw197590377703416540 : True := trivial
theorem PySem.W.Fast.tw1943303709073248092 : True := trivial
theorem PySem.W.Fast.tw13462644913337170844 : True := trivial
theorem PySem.W.Fast.tw12488341336679118780 : True := trivial
theorem PySem.W.Fast.tw976900386400479228 : True := trivial
theorem PySem.W.Fast.tw2538517658625994781 : True := trivial
theorem PySem.W.Fast.tw18118105634339340349 : True := trivial
theorem PySem.W.Fast.tw3224882746854499389 : True := trivial
theorem PySem.W.Fast.tw3854220914951254077 : True := trivial
theorem PySem.W.Fast.tw10491281623230809277 : True := trivial
theorem PySem.W.Fast.tw13315504790368983325 : True := trivial
theorem PySem.W.Fast.tw14524359495849955805 : True := trivial
theorem PySem.W.Fast.tw4443788124281402845 : True := trivial
theorem PySem.W.Fast.tw16552190076575856125 : True := trivial
theorem PySem.W.Fast.tw2137787763251761757 : True := trivial
theorem PySem.W.Fast.tw2193733442418994813 : True := trivial
theorem PySem.W.Fast.tw16780999416824685213 : True := trivial
theorem PySem.W.Fast.tw10502348338418292413 : True := trivial
theorem PySem.W.Fast.tw7043533068309899005 : True := trivial
theorem PySem.W.Fast.tw9467488589365787389 : True := trivial
theorem PySem.W.Fast.tw7142205599851570941 : True := trivial
theorem PySem.W.Fast.tw14901082267121725309 : True := trivial
theorem PySem.W.Fast.tw18177663057971888029 : True := trivial
theorem PySem.W.Fast.tw14987620633111956413 : True := trivial
theorem PySem.W.Fast.tw5091076008694972446 : True := trivial
theorem PySem.W.Fast.tw9635022745577239582 : True := trivial
theorem PySem.W.Fast.tw8049748416133263454 : True := trivial
theorem PySem.W.Fast.tw2080776840526073982 : True := trivial
theorem PySem.W.Fast.tw16664182525348109470 : True := trivial
theorem PySem.W.Fast.tw3904760648316576126 : True := trivial
theorem PySem.W.Fast.tw10173085648062821790 : True := trivial
theorem PySem.W.Fast.tw2566497608718608894 : True := trivial
theorem PySem.W.Fast.tw989212621879306814 : True := trivial
theorem PySem.W.Fast.tw11136296553356993118 : True := trivial
theorem PySem.W.Fast.tw1461477321250954942 : True := trivial
theorem PySem.W.Fast.tw7103527004054060798 : True := trivial
theorem PySem.W.Fast.tw12641984572301067102 : True := trivial
theorem PySem.W.Fast.tw16802065953198411678 : True := trivial
theorem PySem.W.Fast.tw4491902280445927358 : True := trivial
theorem PySem.W.Fast.tw16228051993912562654 : True := trivial
theorem PySem.W.Fast.tw14972773397738751998 : True := trivial
theorem PySem.W.Fast.tw15497427917769710590 : True := trivial
theorem PySem.W.Fast.tw14099369441860960287 : True := trivial
theorem PySem.W.Fast.tw4204526665561038943 : True := trivial
theorem PySem.W.Fast.tw14723430980919486591 : True := trivial
theorem PySem.W.Fast.tw11330847315512332447 : True := trivial
theorem PySem.W.Fast.tw18103249879397581055 : True := trivial
theorem PySem.W.Fast.tw16250230923752214911 : True := trivial
theorem PySem.W.Fast.tw6471599120773537215 : True := trivial
theorem PySem.W.Fast.tw6203436363642697439 : True := trivial
theorem PySem.W.Fast.tw13018160676573314815 : True := trivial
theorem PySem.W.Fast.tw201483800731778879 : True := trivial
theorem PySem.W.Fast.tw1698499688066443103 : True := trivial
theorem PySem.W.Fast.tw8152136135171788703 : True := trivial
theorem PySem.W.Fast.tw5389402006451715999 : True := trivial
theorem PySem.W.Fast.tw16112055138706378687 : True := trivial
theorem PySem.W.Fast.tw10864976049619981311 : True := trivial
open PySem PySem.W PyProof.Rows in
set_option maxRecDepth 100000 in
set_option maxHeartbeats 0 in
open_top top_k19 for PySem.Challenge.rw_nearcurves_k19_numbers_of_rows
set_option maxRecDepth 100000
set_option maxHeartbeats 4000000
namespace Vf
open PySem PySem.Spec PyProof.Rows L2
/-- a key as data -/
def kD : Key → PyData
  | .inl i => .int i
  | .inr x => .str x
mutual
/-- the value v, read in H, is the data d (dicts too) -/
inductive Dt (K : PySem.W.Frag) (H : Hp) : V → PyData → Prop
  | non : Dt K H .non .none
  | bl (b : Bool) : Dt K H (.bl b) (.bool b)
  | int (i : Int) : Dt K H (.int i) (.int i)
  | str (x : Str) : Dt K H (.str x) (.str x)
  | lst {a : Addr} {vs : List V} {ds : List PyData} : SqL K H a vs → Dts K H vs ds → Dt K H (.ref a) (.list ds)
  | tup {a : Addr} {vs : List V} {ds : List PyData} : SqT K H a vs → Dts K H vs ds → Dt K H (.ref a) (.tuple ds)
  | dct {a : Addr} {kvs : List (Key × V)} {ds : List PyData} : H a = some (.dK kvs) → Dts K H (kvs.map (·.2)) ds → Dt K H (.ref a) (.dict ((kvs.map fun p => kD p.1).zip ds))
inductive Dts (K : PySem.W.Frag) (H : Hp) : List V → List PyData → Prop
  | nil : Dts K H [] []
  | cons {v : V} {vs : List V} {d : PyData} {ds : List PyData} : Dt K H v d → Dts K H vs ds → Dts K H (v :: vs) (d :: ds)
end
theorem Dts.len {K : PySem.W.Frag} {H : Hp} : ∀ {vs : List V} {ds : List PyData}, Dts K H vs ds → vs.length = ds.length
  | _, _, .nil => rfl
  | _, _, .cons _ t => congrArg (· + 1) t.len
theorem Dts.at {K : PySem.W.Frag} {H : Hp} : ∀ {vs : List V} {ds : List PyData} {i : Nat} {v : V}, Dts K H vs ds → vs[i]? = some v → ∃ d, ds[i]? = some d ∧ Dt K H v d
  | _, _, _, _, .nil, e => by simp at e
  | _, _, 0, _, .cons h _, e => by simp at e; subst e; exact ⟨_, rfl, h⟩
  | _, _, i + 1, v, .cons _ t, e => by
    obtain ⟨d, h1, h2⟩ := t.at (i := i) (v := v) (by simpa using e)
    exact ⟨d, by simpa using h1, h2⟩
theorem Dts.app {K : PySem.W.Frag} {H : Hp} : ∀ {vs ws : List V} {ds es : List PyData}, Dts K H vs ds → Dts K H ws es → Dts K H (vs ++ ws) (ds ++ es)
  | _, _, _, _, .nil, h => h
  | _, _, _, _, .cons a t, h => .cons a (t.app h)
theorem Dts.take {K : PySem.W.Frag} {H : Hp} : ∀ {vs : List V} {ds : List PyData} (n : Nat), Dts K H vs ds → Dts K H (vs.take n) (ds.take n)
  | _, _, 0, _ => .nil
  | _, _, _ + 1, .nil => .nil
  | _, _, n + 1, .cons a t => .cons a (t.take n)
/-- all that is tracked in H stands in H' -/
theorem same_sqL {K : PySem.W.Frag} {H H' : Hp} {a : Addr} {xs : List V} (e : Same H H') (h : SqL K H a xs) : SqL K H' a xs := e.seq h
theorem same_sqT {K : PySem.W.Frag} {H H' : Hp} {a : Addr} {xs : List V} (e : Same H H') (h : SqT K H a xs) : SqT K H' a xs := by
  rcases h with (h | ⟨o, h⟩) | h
  · exact Or.inl (Or.inl (e a _ h))
  · exact Or.inl (Or.inr ⟨o, e a _ h⟩)
  · exact Or.inr h
mutual
theorem Dt.mono {K : PySem.W.Frag} {H H' : Hp} (e : Same H H') : ∀ {v : V} {d : PyData}, Dt K H v d → Dt K H' v d
  | _, _, .non => .non
  | _, _, .bl b => .bl b
  | _, _, .int i => .int i
  | _, _, .str x => .str x
  | _, _, .lst h1 h2 => .lst (same_sqL e h1) (Dts.mono e h2)
  | _, _, .tup h1 h2 => .tup (same_sqT e h1) (Dts.mono e h2)
  | _, _, .dct h1 h2 => .dct (e _ _ h1) (Dts.mono e h2)
theorem Dts.mono {K : PySem.W.Frag} {H H' : Hp} (e : Same H H') : ∀ {vs : List V} {ds : List PyData}, Dts K H vs ds → Dts K H' vs ds
  | _, _, .nil => .nil
  | _, _, .cons h1 h2 => .cons (Dt.mono e h1) (Dts.mono e h2)
end
/-- the dict of modules stands in the base -/
def M1 (b : Heap) : Prop := ∃ o es ep, b.get? sysModules = some o ∧ o.data = .dict es ep
theorem key_reads {h : Heap} {P : Program} {w : World} : ∀ {es : List DictEntry} {vs : List (Key × Value)} {ps : List (Key × V)}, PySem.Pairs (mixKind P w) es vs → KV ps vs →
    ReadsAll h (es.map (·.key)) (ps.map fun p => kD p.1) [] ∧ Vals (ps.map (·.2)) (es.map (·.val))
  | _, _, _, .nil, .nil => ⟨.nil, .nil⟩
  | _, _, _, .cons k1 k2 t, .cons r1 r2 => by
    obtain ⟨g1, g2⟩ := key_reads (h := h) t r2
    obtain ⟨e1, e2⟩ := r1
    refine ⟨?_, .cons (by have z := e2; rw [← k2] at z; exact z) g2⟩
    rw [← e1] at k1
    rename_i e kv es' kvs' p ps'
    have k3 : keyIs p.1 e.key = true := k1
    rcases keyIs_shape k3 with ⟨i, t, a1, a2⟩ | ⟨x, t, a1, a2⟩
    · have z : Reads h e.key (kD p.1) [] := by rw [a1, a2]; exact .int i t
      exact .cons (as := []) (bs := []) z g1
    · have z : Reads h e.key (kD p.1) [] := by rw [a1, a2]; exact .str x t
      exact .cons (as := []) (bs := []) z g1
theorem zip_fst {α β : Type} : ∀ {l : List α} {r : List β}, l.length = r.length → (l.zip r).map (·.1) = l
  | [], _, _ => by simp
  | a :: l, [], h => by simp at h
  | a :: l, b :: r, h => by
    rw [List.zip_cons_cons, List.map_cons, zip_fst (by simpa using h)]
theorem zip_snd {α β : Type} : ∀ {l : List α} {r : List β}, l.length = r.length → (l.zip r).map (·.2) = r
  | [], [], _ => rfl
  | [], b :: r, h => by simp at h
  | a :: l, [], h => by simp at h
  | a :: l, b :: r, h => by
    rw [List.zip_cons_cons, List.map_cons, zip_snd (by simpa using h)]
section
variable {X : Cx} {pins : List (Addr × Obj)} {σ : L2.St} {H : Hp} {s : Shared}
theorem not_sys (I : Inv X pins σ H s) (m : M1 X.base) {a : Addr} {o : Obj} {vs : Array Value} {n : Nat} (e : s.heap.get? a = some o) (d : o.data = .seq vs n) : sysModules ≠ a := fun z => by
  obtain ⟨o1, es, ep, e1, e2⟩ := m
  have q := I.bk _ _ e1
  rw [z, e] at q
  cases q
  rw [d] at e2
  cases e2
mutual
theorem Dt.reads (I : Inv X pins σ H s) (m : M1 X.base) : ∀ {v : V} {d : PyData} {u : Value}, Dt X.K H v d → RelV v u → ∃ as, Reads s.heap u d as ∧ sysModules ∉ as
  | _, _, u, .non, r => by
    obtain rfl : u = Value.none := r
    exact ⟨[], .none, by simp⟩
  | _, _, u, .bl b, r => by
    obtain rfl : u = Value.bool b := r
    exact ⟨[], .bool b, by simp⟩
  | _, _, u, .int i, r => by
    obtain ⟨t, rfl⟩ := r
    exact ⟨[], .int i t, by simp⟩
  | _, _, u, .str x, r => by
    obtain ⟨t, rfl⟩ := r
    exact ⟨[], .str x t, by simp⟩
  | _, _, u, .lst (a := a) h1 h2, r => by
    obtain rfl : u = Value.ref a := r
    obtain ⟨its, rv, ⟨o, n, e1, e2, e3, e4⟩, hz⟩ := I.list h1
    obtain ⟨as, ra, na⟩ := Dts.reads I m h2 rv
    refine ⟨_, .list e1 e2 e4 (by simpa using ra), fun z => ?_⟩
    rcases List.mem_cons.mp z with z | z
    · exact not_sys I m e1 e4 z
    · exact na z
  | _, _, u, .tup (a := a) h1 h2, r => by
    obtain rfl : u = Value.ref a := r
    obtain ⟨its, rv, ⟨o, e1, e2, n, e4⟩, hz⟩ := I.tuple h1
    obtain ⟨as, ra, na⟩ := Dts.reads I m h2 rv
    exact ⟨_, .tuple e1 e2 e4 (by simpa using ra), na⟩
  | _, _, u, .dct (a := a) (kvs := ps) (ds := ds) h1 h2, r => by
    obtain rfl : u = Value.ref a := r
    obtain ⟨hz, hs, vs, kv, o, es, ep, e1, ex, e2, hk, hp, hn⟩ := dk_of I.hok h1
    obtain ⟨g1, g2⟩ := key_reads (h := s.heap) hp kv
    obtain ⟨bs, rb, nb⟩ := Dts.reads I m h2 g2
    have hl : (ps.map fun p => kD p.1).length = ds.length := by
      have z := h2.len
      rw [List.length_map] at z ⊢
      exact z
    refine ⟨a :: [] ++ bs, .dict e1 ex.1 e2 (by rw [zip_fst hl]; exact g1) (by rw [zip_snd hl]; exact rb), fun z => ?_⟩
    rcases List.mem_cons.mp z with z | z
    · rw [z] at hs
      simp at hs
    · exact nb z
theorem Dts.reads (I : Inv X pins σ H s) (m : M1 X.base) : ∀ {vs : List V} {ds : List PyData} {us : List Value}, Dts X.K H vs ds → Vals vs us → ∃ as, ReadsAll s.heap us ds as ∧ sysModules ∉ as
  | _, _, _, .nil, .nil => ⟨[], .nil, by simp⟩
  | _, _, _, .cons h1 h2, .cons r1 r2 => by
    obtain ⟨as, q1, n1⟩ := Dt.reads I m h1 r1
    obtain ⟨bs, q2, n2⟩ := Dts.reads I m h2 r2
    refine ⟨as ++ bs, .cons q1 q2, fun z => ?_⟩
    rcases List.mem_append.mp z with z | z
    · exact n1 z
    · exact n2 z
end
end
/-- the sizes of the parts of a text of data -/
def small : PyData → Prop := fun d => d.showable = true ∧ d.depth ≤ 64 ∧ d.shown.length ≤ sizeLine
structure FnG (P : Program) (w : World) (K : PySem.W.Frag) (mg : Str → Option Value) (base : Heap) (C : CXT) (k : Nat) (f : Addr) (fd : FuncData) (ps : List Str) (sp : Sp) : Prop where
  arity : ∀ vs H Q E, sp vs H Q E → vs.length = ps.length
  go : ∀ {A : Around} {out : List Env} {s : Shared} {H : Hp} {args : Args} {us : List Value} {vs : List V} {Q : VK} {E : XK}, A.guards = some [] → Room k A → Env0 P w K mg base A out s H → BindsTo s fd args (ps.zip us) →
    Vals vs us → sp vs H Q E → codeAny (model P w) A (.call (.ref f) args) (CR C out P w H s Q E) s
/-- what is tracked where the law is called: the script, the tables of code objects -/
structure Fit (P : Program) (w : World) (K : PySem.W.Frag) (h : Heap) (cs : List (Addr × Addr)) (a : Addr) (ns : List Int) (H : Hp) : Prop where
  tabs : ∀ p ∈ cs, H p.2 = some (.tbl #[])
  scr : SqL K H a (ns.map V.int)
  held : HOk P w H h
  only : ∀ b u, H b = some u → (b = a ∧ K.lookup a = none ∧ ∃ o xs, u = .frz o (.lst xs)) ∨ ((∃ p ∈ cs, b = p.2) ∧ u = .tbl #[])
def isTab (cs : List (Addr × Addr)) (b : Addr) : Bool := cs.any fun p => p.2 == b
theorem isTab_mem {cs : List (Addr × Addr)} {b : Addr} (h : isTab cs b = true) : ∃ p ∈ cs, b = p.2 := by
  obtain ⟨p, hp, e⟩ := List.any_eq_true.mp h
  exact ⟨p, hp, (beq_iff_eq.mp e).symm⟩
theorem isTab_of {cs : List (Addr × Addr)} {p : Addr × Addr} (h : p ∈ cs) : isTab cs p.2 = true := List.any_eq_true.mpr ⟨p, h, beq_self_eq_true _⟩
/-- the heap as it is told at the entry -/
def entryH (t : Bool) (o : Obj) (ns : List Int) (cs : List (Addr × Addr)) (a : Addr) : Hp := fun b =>
  if isTab cs b = true then some (.tbl #[]) else if t = true ∧ b = a then some (.frz o (.lst (ns.map V.int))) else none
theorem fit_ex {P : Program} {w : World} {K : PySem.W.Frag} {h : Heap} {cs : List (Addr × Addr)} {a : Addr} {vs : List Value} {ns : List Int} (hK : K.In h) (hT : ∀ p ∈ cs, h.get? p.2 = some { cls := .none, data := .fields #[] })
    (ha : h.get? a = some { cls := .type "list", data := .seq vs.toArray }) (hi : IntsAre vs ns) (hl : ns.length ≤ sizeLine) : ∃ H, Fit P w K h cs a ns H := by
  have rv := vals_ints hi
  have nt : isTab cs a = false := by
    cases e : isTab cs a with
    | false => rfl
    | true =>
      obtain ⟨p, hp, e2⟩ := isTab_mem e
      have q := hT p hp
      rw [← e2, ha] at q
      cases q
  have hl2 : (ns.map V.int).length ≤ sizeLine := by rw [List.length_map]; exact hl
  cases hk : K.lookup a with
  | some o =>
    have q := hK a o hk
    rw [ha] at q
    have q2 := Option.some.inj q
    refine ⟨entryH false { cls := .type "list", data := .seq vs.toArray } ns cs a, fun p hp => if_pos (isTab_of hp), ?_, fun b u e => ?_, fun b u e => ?_⟩
    · refine Or.inr ⟨o, vs.toArray, 0, hk, by rw [← q2], by rw [← q2], by rw [← q2], ?_, by simpa using rv⟩
      rw [List.size_toArray, hi.length]
      exact hl
    all_goals
      unfold entryH at e
      by_cases t : isTab cs b = true
      · rw [if_pos t] at e
        obtain ⟨p, hp, e2⟩ := isTab_mem t
        cases e
        first
          | (rw [e2]; exact hT p hp)
          | exact Or.inr ⟨⟨p, hp, e2⟩, rfl⟩
      · rw [if_neg t, if_neg (fun z => Bool.false_ne_true z.1)] at e
        cases e
  | none =>
    refine ⟨entryH true { cls := .type "list", data := .seq vs.toArray } ns cs a, fun p hp => if_pos (isTab_of hp), ?_, fun b u e => ?_, fun b u e => ?_⟩
    · refine Or.inl (Or.inr ⟨{ cls := .type "list", data := .seq vs.toArray }, ?_⟩)
      unfold entryH
      rw [if_neg (by rw [nt]; decide), if_pos ⟨rfl, rfl⟩]
    all_goals
      unfold entryH at e
      by_cases t : isTab cs b = true
      · rw [if_pos t] at e
        obtain ⟨p, hp, e2⟩ := isTab_mem t
        cases e
        first
          | (rw [e2]; exact hT p hp)
          | exact Or.inr ⟨⟨p, hp, e2⟩, rfl⟩
      · rw [if_neg t] at e
        by_cases ba : b = a
        · rw [if_pos ⟨rfl, ba⟩] at e
          cases e
          first
            | (rw [ba]; exact ⟨ha, hl2, vs, _, rv, ha⟩)
            | exact Or.inl ⟨ba, hk, _, _, rfl⟩
        · rw [if_neg (fun z => ba z.2)] at e
          cases e
/-- the law's call, from its promise where no guard stands -/
theorem law_enter {P : Program} {w : World} {K : PySem.W.Frag} {mg mb : Str → Option Value} {C : CXT} {k : Nat} {fa a : Addr} {cs : List (Addr × Addr)} {fd : FuncData} {x : Str} {sp : Sp} {s1 : Shared} {vs : List Value} {ns : List Int}
    (hK : K.In s1.heap) (hG : s1.heap.Ns mainGlobals mg) (hB : s1.heap.Ns builtinsNs mb) (hBB : ∀ x : Str, x ≠ "__name__" → mb x = bootBuiltins x) (hL : s1.heap.NoLimit) (hg : s1.gens = #[])
    (hT : ∀ p ∈ cs, s1.heap.get? p.2 = some { cls := .none, data := .fields #[] }) (nT : ∀ p ∈ cs, K.lookup p.2 = none) (hC : ∀ p ∈ cs, PySem.W.CodeHd s1.heap p.1 p.2)
    (hM : ∃ (bm : Addr) (ob : Obj), mg "__builtins__" = some (.ref bm) ∧ bm ≠ builtinsNs ∧ s1.heap.get? bm = some ob ∧ ob.cls = .type "module" ∧ ob.dict = some builtinsNs ∧ ob.data = .plain)
    (hs : M1 s1.heap) (ha : s1.heap.get? a = some { cls := .type "list", data := .seq vs.toArray }) (hi : IntsAre vs ns) (hl : ns.length ≤ sizeLine) (hr : Room k callerA)
    (F : ∀ b : Heap, K.In b → b.Ns mainGlobals mg → M1 b → (∀ p ∈ cs, LamX.TabB b mg p.1 p.2) → FnG P w K mg b C k fa fd [x] sp) (bind : ∀ (s : Shared) (u : Value), BindsTo s fd ⟨[u], []⟩ [(x, u)])
    (hsp : ∀ H : Hp, (∀ p ∈ cs, H p.2 = some (.tbl #[])) → SqL K H a (ns.map V.int) → sp [.ref a] H (fun v _ => v = .bl true) E0)
    (hE : ∀ H e s', C [] H s1 E0 e s' → False) :
    codeAny (model P w) callerA (.call (.ref fa) ⟨[.ref a], []⟩) (fun r s' => r = .ok (.ret (.bool true)) ∧ OldK s1.heap s'.heap ∧ s'.os = s1.os ∧ AllBare s'.gens) s1 := by
  obtain ⟨H, ft⟩ := fit_ex (P := P) (w := w) hK hT ha hi hl
  -- an object of neither kind is not tracked
  have un : ∀ {b : Addr} {o : Obj}, s1.heap.get? b = some o → (∀ us n, o.data ≠ .seq us n) → o.data ≠ .fields #[] → H b = none := by
    intro b o e n1 n2
    cases q : H b with
    | none => rfl
    | some u =>
      exfalso
      rcases ft.only b u q with ⟨z, _⟩ | ⟨⟨p, hp, z⟩, _⟩
      · rw [z, ha] at e
        cases e
        exact n1 _ _ rfl
      · rw [z, hT p hp] at e
        cases e
        exact n2 rfl
  have inB : ∀ {b : Addr} {o : Obj}, s1.heap.get? b = some o → (∀ us n, o.data ≠ .seq us n) → o.data ≠ .fields #[] → (hidT s1.heap H).get? b = some o := fun e n1 n2 => hidT_get e (un e n1 n2)
  have nsB : ∀ {b : Addr} {m : Str → Option Value}, s1.heap.Ns b m → (hidT s1.heap H).Ns b m := by
    intro b m ⟨o, es, ep, e, d, r⟩
    refine ⟨o, es, ep, inB e (fun us n z => ?_) (fun z => ?_), d, r⟩ <;> rw [d] at z <;> cases z
  have kB : K.In (hidT s1.heap H) := fun b o e => by
    refine hidT_get (hK b o e) ?_
    cases q : H b with
    | none => rfl
    | some u =>
      exfalso
      rcases ft.only b u q with ⟨z, n, _⟩ | ⟨⟨p, hp, z⟩, _⟩
      · rw [z, n] at e
        cases e
      · rw [z, nT p hp] at e
        cases e
  have mB : M1 (hidT s1.heap H) := by
    obtain ⟨o, es, ep, e, d⟩ := hs
    refine ⟨o, es, ep, inB e (fun us n z => ?_) (fun z => ?_), d⟩ <;> rw [d] at z <;> cases z
  have tB : ∀ p ∈ cs, LamX.TabB (hidT s1.heap H) mg p.1 p.2 := fun p hp => by
    obtain ⟨o, us, file, tf, flags, tg, inF, text, tt, c1, c2, c3, c4, c5, c6, c7, c8, c9, c10⟩ := hC p hp
    obtain ⟨bm, ob, d1, d2, d3, d4, d5, d6⟩ := hM
    have tp := hT p hp
    refine ⟨⟨o, us, file, tf, flags, tg, inF, text, tt, inB c1 (fun us n z => ?_) (fun z => ?_), c2, c3, c4, c5, c6, c7, c8, c9, c10⟩, ⟨bm, ob, d1, d2, fun z => ?_, fun z => ?_, inB d3 (fun us n z => ?_) (fun z => ?_), d4, d5, d6⟩, fun z => ?_⟩
    · rw [c3] at z
      cases z
    · rw [c3] at z
      cases z
      simp at c4
    · obtain ⟨o2, es, ep, e, d, _⟩ := hG
      rw [z, e] at d3
      cases d3
      rw [d] at d6
      cases d6
    · rw [z, tp] at d3
      cases d3
      cases d6
    · rw [d6] at z
      cases z
    · rw [d6] at z
      cases z
    · obtain ⟨o2, es, ep, e, d, _⟩ := hG
      rw [z, tp] at e
      cases e
      cases d
  have e0 : Env0 P w K mg (hidT s1.heap H) callerA [] s1 H := {
    frames := rfl
    mod := ⟨kB, nsB hG, ⟨mb, nsB hB, hBB⟩, let ⟨mc, z1, z2⟩ := hL; ⟨mc, nsB z1, z2⟩⟩
    bs := fun b o e => of_hidT e
    bsz := Nat.le_of_eq (hidT_size _ _)
    funs := trivial
    frf := fun b hb => nomatch (show b ∈ ([] : List Addr) from hb)
    hok := ft.held
    bare := .of_eq hg }
  refine codeAny_mono ((F _ kB (nsB hG) mB tB).go (us := [.ref a]) (vs := [.ref a]) rfl hr e0 (bind s1 _) (.cons rfl .nil) (hsp H ft.tabs ft.scr)) fun r s' h => ?_
  match r, h with
  | .error e, h => exact (hE H e s' h).elim
  | .ok .next, h => exact h.elim
  | .ok .brk, h => exact h.elim
  | .ok .cont, h => exact h.elim
  | .ok (.ret u), ⟨v, H', os, bare, U, held', rv, ev⟩ =>
    have ev2 : v = .bl true := ev
    rw [ev2] at rv
    obtain rfl : u = Value.bool true := rv
    have tab' : ∀ p ∈ cs, ∃ more : Array Value, s'.heap.get? p.2 = some { cls := .none, data := .fields more } := fun p hp => by
      obtain ⟨more, z⟩ := U.tbls p.2 #[] (ft.tabs p hp)
      exact ⟨_, held' _ _ z⟩
    have old : ∀ b o, isTab cs b = false → s1.heap.get? b = some o → s'.heap.get? b = some o := fun b o nb e => by
      cases q : H b with
      | none => exact U.keep b o e q (fun z => nomatch (show b ∈ ([] : List Addr) from z)) (fun z => nomatch z)
      | some y =>
        rcases ft.only b y q with ⟨_, _, ob, xs, z⟩ | ⟨⟨p, hp, z⟩, _⟩
        · rw [z] at q
          have g1 := (ft.held b _ q).1
          have g2 := (held' b _ (U.frzs b ob _ q)).1
          rw [e] at g1
          cases g1
          exact g2
        · rw [z, isTab_of hp] at nb
          cases nb
    refine ⟨rfl, ⟨fun b o e => ?_, fun b o e => ?_⟩, os, bare⟩
    · cases nb : isTab cs b with
      | false => exact .inl (old b o nb e)
      | true =>
        obtain ⟨p, hp, z⟩ := isTab_mem nb
        obtain ⟨more, hm⟩ := tab' p hp
        rw [z] at e ⊢
        rw [hT p hp] at e
        cases e
        exact .inr (.inl ⟨((hC p hp).tab (hT p hp)).isCodeTable, rfl, #[], more, rfl, by rw [Array.empty_append]; exact hm⟩)
    · cases nb : isTab cs b with
      | false => exact ⟨o, old b o nb e⟩
      | true =>
        obtain ⟨p, hp, z⟩ := isTab_mem nb
        obtain ⟨more, hm⟩ := tab' p hp
        rw [z]
        exact ⟨_, hm⟩
end Vf
set_option maxRecDepth 100000
set_option maxHeartbeats 4000000
namespace Vf
open PySem PySem.Spec PyProof.Rows L2
section
open PySem.W PySem.Calls
variable {prog : Program} {w : World} {K : Frag} {x D : Addr} {ox : Obj} {od : Option Obj}
/-- what isinstance asks of the class of an exception -/
structure XC (K : Frag) (D : Addr) : Prop where
  ga : findIn K (.ref D) "__getattribute__" = some (some (.builtin "BaseException.__getattribute__"))
  gg : findIn K (.ref D) "__getattr__" = some none
  sb : subIn K (.ref D) (.type "BaseException") = some true
  hd : hasDictIn K D = true
  ca : findIn K (.ref D) "__class__" = some (some (.builtin "object.__class__"))
  cn : specialIn K (.builtin "object.__class__") "__get__" = some (some (.builtin "getset_descriptor.__get__"))
  ct : takesIn K (.builtin "object.__class__") = some true
  mo : mroIn K D (.type "object") = some true
theorem XC.cls {K : Frag} {D : Addr} (T : XC K D) : (clsIn K D).isSome = true := by
  obtain ⟨cd, e, _⟩ := any_some T.hd
  simp only [e, Option.isSome_some]
end
/-- an exception of the class at C stands at a as a value; what it keeps -/
def XAt (H : Hp) (a C : Addr) : Option (List (Str × V)) → Prop
  | none => H a = some (ExO (.ref C) a)
  | some fs => ∃ d, H a = some (exo a C (some d)) ∧ H d = some (exd d fs)
theorem XAt.same {H H' : Hp} {a C : Addr} {o : Option (List (Str × V))} (s : Same H H') (h : XAt H a C o) : XAt H' a C o := by
  cases o with
  | none => exact s _ _ h
  | some fs =>
    obtain ⟨d, h1, h2⟩ := h
    exact ⟨d, s _ _ h1, s _ _ h2⟩
end Vf
set_option maxRecDepth 100000
set_option maxHeartbeats 4000000
namespace Vf
open PySem PySem.Spec PyProof.Rows L2
/-- good data: shallow, shown in few signs -/
structure Gd (d : PyData) : Prop where
  sh : d.showable = true
  dp : d.depth ≤ 10
  ln : d.shown.length ≤ 100000
theorem log_small {z : Int} (h : z.natAbs < 2 ^ 1920) : z.natAbs.log2 < 1920 := by
  by_cases e : z.natAbs = 0
  · rw [e]
    decide
  · exact (Nat.log2_lt e).mpr h
theorem gd_int {z : Int} (h : z.natAbs < 2 ^ 1920) : Gd (.int z) := by
  have l := log_small h
  refine ⟨by simp only [PyData.showable, l, decide_true], by simp [PyData.depth], ?_⟩
  simp only [PyData.shown]
  exact Nat.le_trans (int_text_len_1921 l) (by decide)
theorem sum_le_of {l : List Nat} {m : Nat} (h : ∀ x ∈ l, x ≤ m) : l.sum ≤ l.length * m := by
  induction l with
  | nil => simp
  | cons a r ih =>
    have h1 := h a (List.mem_cons_self ..)
    have h2 := ih fun x hx => h x (List.mem_cons_of_mem _ hx)
    rw [List.sum_cons, List.length_cons, Nat.add_mul]
    omega
theorem shownAll_map : ∀ ds : List PyData, PyData.shownAll ds = ds.map PyData.shown
  | [] => by simp only [PyData.shownAll, List.map_nil]
  | d :: r => by simp only [PyData.shownAll, List.map_cons, shownAll_map r]
theorem showableAll_of : ∀ {ds : List PyData}, (∀ d ∈ ds, d.showable = true) → PyData.showableAll ds = true
  | [], _ => by simp only [PyData.showableAll]
  | d :: r, h => by
    simp only [PyData.showableAll, h d (List.mem_cons_self ..), showableAll_of fun x hx => h x (List.mem_cons_of_mem _ hx), Bool.and_self]
theorem depthAll_of {m : Nat} : ∀ {ds : List PyData}, (∀ d ∈ ds, d.depth ≤ m) → PyData.depthAll ds ≤ m
  | [], _ => by simp only [PyData.depthAll]; exact Nat.zero_le _
  | d :: r, h => by
    simp only [PyData.depthAll]
    exact Nat.max_le.mpr ⟨h d (List.mem_cons_self ..), depthAll_of fun x hx => h x (List.mem_cons_of_mem _ hx)⟩
/-- few data, each shown in at most m signs -/
theorem seq_len {ds : List PyData} {m : Nat} (h : ∀ d ∈ ds, d.shown.length ≤ m) : (((PyData.shownAll ds).map (·.length)).sum ≤ ds.length * m) ∧ (PyData.shownAll ds).length = ds.length := by
  rw [shownAll_map]
  refine ⟨?_, by rw [List.length_map]⟩
  have q := sum_le_of (l := ((ds.map PyData.shown).map (·.length))) (m := m) (fun x hx => by
    obtain ⟨s, hs, e⟩ := List.mem_map.mp hx
    obtain ⟨d, hd, e2⟩ := List.mem_map.mp hs
    rw [← e, ← e2]
    exact h d hd)
  rw [List.length_map, List.length_map] at q
  exact q
theorem gd_seq {ds : List PyData} {n m : Nat} (hn : ds.length ≤ n) (h1 : ∀ d ∈ ds, d.showable = true) (h2 : ∀ d ∈ ds, d.depth ≤ 9) (h3 : ∀ d ∈ ds, d.shown.length ≤ m) (hz : n * m + 2 * n + 3 ≤ 100000) : Gd (.list ds) ∧ Gd (.tuple ds) := by
  obtain ⟨a, b⟩ := seq_len h3
  have c : ds.length * m ≤ n * m := Nat.mul_le_mul_right _ hn
  have d1 := depthAll_of h2
  refine ⟨⟨by simp only [PyData.showable]; exact showableAll_of h1, by simp only [PyData.depth]; omega, ?_⟩, by simp only [PyData.showable]; exact showableAll_of h1, by simp only [PyData.depth]; omega, ?_⟩
  · simp only [PyData.shown]
    have q := listText_len_le (PyData.shownAll ds)
    omega
  · simp only [PyData.shown]
    have q := tupleText_len_le (PyData.shownAll ds)
    omega
end Vf
set_option maxRecDepth 100000
set_option maxHeartbeats 4000000
namespace Vf
open PySem PySem.Spec PyProof.Rows L2
/-- what each clause «except c as n» wishes, n in slot i, from the first one on -/
def wEach (K : PySem.W.Frag) (i : Nat) (Wo : WX) (D : Ends) : List (Value × (Addr → Value → Option Addr → TS)) → WX
  | [] => Wo
  | (c, ts) :: r => wAs K c i ts (wEach K i Wo D r) D
/-- // by an int that is not 0, below 2 ^ 9000 in size -/
def CDivZ (_ j : Int) : Prop := j ≠ 0 ∧ j.natAbs.log2 < 9000
theorem op_fdivZ {X : Cx} : OpR X (binaryOp .FloorDiv) (rI CDivZ fun i j => .int (i.fdiv j)) := opI fun i j _ _ _ _ _ hc q => floordiv_int hc.1 q (.inl (PyProof.noPylong_of_log2 hc.2))
end Vf
namespace Vf
/-- the greatest common divisor, with the sign of the bottom -/
def sg (t b : Int) : Int := if b < 0 then -((Nat.gcd t.natAbs b.natAbs : Nat) : Int) else ((Nat.gcd t.natAbs b.natAbs : Nat) : Int)
/-- in lowest terms -/
def low (t b : Int) : Int × Int := (t.fdiv (sg t b), b.fdiv (sg t b))
theorem fdiv_of_mul {s k : Int} (h : s ≠ 0) : (s * k).fdiv s = k := Int.mul_fdiv_cancel_left k h
theorem gcd_pos {t b : Int} (h : b ≠ 0) : 0 < Nat.gcd t.natAbs b.natAbs := Nat.gcd_pos_of_pos_right _ (by omega)
theorem sg_ne {t b : Int} (h : b ≠ 0) : sg t b ≠ 0 := by
  have g := gcd_pos (t := t) h
  unfold sg
  split <;> omega
/-- t and b are the sign's multiples -/
theorem sg_dvd {t b : Int} (h : b ≠ 0) : ∃ t' b' : Int, t = sg t b * t' ∧ b = sg t b * b' ∧ 0 < b' ∧ Nat.gcd t'.natAbs b'.natAbs = 1 := by
  have g := gcd_pos (t := t) h
  generalize hG : Nat.gcd t.natAbs b.natAbs = G at g
  have d1 : ((G : Nat) : Int) ∣ t := Int.ofNat_dvd_left.mpr (by rw [← hG]; exact Nat.gcd_dvd_left _ _)
  have d2 : ((G : Nat) : Int) ∣ b := Int.ofNat_dvd_left.mpr (by rw [← hG]; exact Nat.gcd_dvd_right _ _)
  obtain ⟨x, hx⟩ := d1
  obtain ⟨y, hy⟩ := d2
  have one : Nat.gcd x.natAbs y.natAbs = 1 := by
    have e1 : t.natAbs = G * x.natAbs := by rw [hx, Int.natAbs_mul, Int.natAbs_natCast]
    have e2 : b.natAbs = G * y.natAbs := by rw [hy, Int.natAbs_mul, Int.natAbs_natCast]
    have e3 : Nat.gcd (G * x.natAbs) (G * y.natAbs) = G * Nat.gcd x.natAbs y.natAbs := Nat.gcd_mul_left _ _ _
    rw [← e1, ← e2, hG] at e3
    have e4 : G * 1 = G * Nat.gcd x.natAbs y.natAbs := by omega
    exact (Nat.eq_of_mul_eq_mul_left g e4).symm
  have gp : (0 : Int) < (G : Int) := by omega
  have sg_e : sg t b = if b < 0 then -(G : Int) else (G : Int) := by unfold sg; rw [hG]
  by_cases hb : b < 0
  · refine ⟨-x, -y, ?_, ?_, ?_, ?_⟩
    · rw [sg_e, if_pos hb, Int.neg_mul_neg]; exact hx
    · rw [sg_e, if_pos hb, Int.neg_mul_neg]; exact hy
    · rw [hy] at hb
      have : y < 0 := by
        rcases Int.lt_or_le y 0 with z | z
        · exact z
        · have := Int.mul_nonneg (Int.le_of_lt gp) z
          omega
      omega
    · rw [Int.natAbs_neg, Int.natAbs_neg]; exact one
  · refine ⟨x, y, ?_, ?_, ?_, one⟩
    · rw [sg_e, if_neg hb]; exact hx
    · rw [sg_e, if_neg hb]; exact hy
    · rcases Int.lt_or_le 0 y with z | z
      · exact z
      · have h2 : (G : Int) * y ≤ 0 := Int.mul_nonpos_of_nonneg_of_nonpos (Int.le_of_lt gp) z
        rw [← hy] at h2
        omega
theorem low_eq {t b t' b' : Int} (h : b ≠ 0) (e1 : t = sg t b * t') (e2 : b = sg t b * b') : low t b = (t', b') := by
  have s := sg_ne (t := t) h
  unfold low
  have a1 : t.fdiv (sg t b) = t' := by
    have z := fdiv_of_mul (s := sg t b) (k := t') s
    rw [← e1] at z
    exact z
  have a2 : b.fdiv (sg t b) = b' := by
    have z := fdiv_of_mul (s := sg t b) (k := b') s
    rw [← e2] at z
    exact z
  rw [a1, a2]
/-- in lowest terms: its bottom is above 0, nothing is common -/
structure Low (t b : Int) : Prop where
  pos : 0 < b
  one : Nat.gcd t.natAbs b.natAbs = 1
theorem low_is {t b : Int} (h : b ≠ 0) : Low (low t b).1 (low t b).2 := by
  obtain ⟨x, y, e1, e2, hp, ho⟩ := sg_dvd (t := t) h
  rw [low_eq h e1 e2]
  exact ⟨hp, ho⟩
theorem low_id {t b : Int} (h : Low t b) : low t b = (t, b) := by
  have hb : b ≠ 0 := by have := h.pos; omega
  have e : sg t b = 1 := by unfold sg; rw [h.one, if_neg (by have := h.pos; omega)]; rfl
  exact low_eq hb (by rw [e, Int.one_mul]) (by rw [e, Int.one_mul])
theorem sg_scale {t b k : Int} (hk : 0 < k) : sg (t * k) (b * k) = sg t b * k := by
  have e : Nat.gcd (t * k).natAbs (b * k).natAbs = Nat.gcd t.natAbs b.natAbs * k.natAbs := by
    rw [Int.natAbs_mul, Int.natAbs_mul, Nat.gcd_mul_right]
  have ek : ((k.natAbs : Nat) : Int) = k := by omega
  unfold sg
  rw [e]
  by_cases hb : b < 0
  · have : b * k < 0 := Int.mul_neg_of_neg_of_pos hb hk
    rw [if_pos hb, if_pos this, Int.natCast_mul, ek, Int.neg_mul]
  · have : ¬ b * k < 0 := by
      have := Int.mul_nonneg (show (0 : Int) ≤ b by omega) (Int.le_of_lt hk)
      omega
    rw [if_neg hb, if_neg this, Int.natCast_mul, ek]
theorem low_scale {t b k : Int} (h : b ≠ 0) (hk : 0 < k) : low (t * k) (b * k) = low t b := by
  obtain ⟨x, y, e1, e2, _, _⟩ := sg_dvd (t := t) h
  have hbk : b * k ≠ 0 := Int.mul_ne_zero h (by omega)
  rw [low_eq h e1 e2]
  refine low_eq hbk ?_ ?_
  · rw [sg_scale hk, Int.mul_assoc, Int.mul_comm k x, ← Int.mul_assoc, ← e1]
  · rw [sg_scale hk, Int.mul_assoc, Int.mul_comm k y, ← Int.mul_assoc, ← e2]
/-- a ratio k times over is the ratio -/
theorem low_back {t b k : Int} (h : Low t b) (hk : 0 < k) : low (t * k) (b * k) = (t, b) := by
  rw [low_scale (by have := h.pos; omega) hk, low_id h]
theorem low_size {t b : Int} (h : b ≠ 0) : (low t b).1.natAbs ≤ t.natAbs ∧ (low t b).2.natAbs ≤ b.natAbs := by
  obtain ⟨x, y, e1, e2, _, _⟩ := sg_dvd (t := t) h
  rw [low_eq h e1 e2]
  have s : 0 < (sg t b).natAbs := by have := sg_ne (t := t) h; omega
  have a1 : t.natAbs = (sg t b).natAbs * x.natAbs := by rw [← Int.natAbs_mul, ← e1]
  have a2 : b.natAbs = (sg t b).natAbs * y.natAbs := by rw [← Int.natAbs_mul, ← e2]
  rw [a1, a2]
  exact ⟨Nat.le_mul_of_pos_left _ s, Nat.le_mul_of_pos_left _ s⟩
theorem sg_size {t b : Int} (h : b ≠ 0) : (sg t b).natAbs ≤ b.natAbs := by
  have e : (sg t b).natAbs = Nat.gcd t.natAbs b.natAbs := by
    unfold sg
    split
    · rw [Int.natAbs_neg, Int.natAbs_natCast]
    · rw [Int.natAbs_natCast]
  rw [e]
  exact Nat.le_of_dvd (by omega) (Nat.gcd_dvd_right _ _)
/-- Euclid's laps: what holds ahead of the i-th -/
structure Lap (G P : Nat) (i : Nat) (a b : Int) : Prop where
  a0 : 0 ≤ a
  b0 : 0 ≤ b
  g : Nat.gcd a.natAbs b.natAbs = G
  le : i = 0 ∨ b ≤ a
  sm : a.natAbs * b.natAbs * 2 ^ (i - 1) ≤ P
theorem lap0 (x y : Int) : Lap (Nat.gcd x.natAbs y.natAbs) (x.natAbs * y.natAbs) 0 (if x < 0 then -x else x) (if y < 0 then -y else y) := by
  have e : ∀ z : Int, (if z < 0 then -z else z) = ((z.natAbs : Nat) : Int) := fun z => by split <;> omega
  rw [e, e]
  exact ⟨by omega, by omega, by rw [Int.natAbs_natCast, Int.natAbs_natCast], .inl rfl, by rw [Int.natAbs_natCast, Int.natAbs_natCast]; simp⟩
theorem lap_next {G P i : Nat} {a b : Int} (h : Lap G P i a b) (hb : b ≠ 0) : Lap G P (i + 1) b (a % b) := by
  have b1 : 0 < b := by have := h.b0; omega
  have r0 := Int.emod_nonneg a hb
  have r1 := Int.emod_lt_of_pos a b1
  obtain ⟨x, rfl⟩ := Int.eq_ofNat_of_zero_le h.a0
  obtain ⟨y, rfl⟩ := Int.eq_ofNat_of_zero_le h.b0
  have em : ((x : Int) % (y : Int)) = ((x % y : Nat) : Int) := by omega
  refine ⟨by omega, r0, ?_, .inr (by omega), ?_⟩
  · rw [em, Int.natAbs_natCast, Int.natAbs_natCast]
    have g := h.g
    rw [Int.natAbs_natCast, Int.natAbs_natCast] at g
    rw [Nat.gcd_comm, ← Nat.gcd_rec, Nat.gcd_comm]
    exact g
  · have s := h.sm
    rw [em]
    rw [Int.natAbs_natCast, Int.natAbs_natCast] at s ⊢
    rw [Nat.add_sub_cancel]
    have y1 : 0 < y := by omega
    rcases h.le with z | z
    · rw [z] at s ⊢
      simp only [Nat.zero_sub, Nat.pow_zero, Nat.mul_one] at s ⊢
      have : x % y ≤ x := Nat.mod_le _ _
      calc y * (x % y) ≤ y * x := Nat.mul_le_mul_left _ this
        _ = x * y := Nat.mul_comm _ _
        _ ≤ P := s
    · have hxy : y ≤ x := by omega
      have hm : 2 * (x % y) ≤ x := by
        have q := Nat.div_add_mod x y
        have q1 : 1 ≤ x / y := (Nat.le_div_iff_mul_le y1).mpr (by omega)
        have q2 : y * 1 ≤ y * (x / y) := Nat.mul_le_mul_left _ q1
        have q3 := Nat.mod_lt x y1
        omega
      by_cases hi : i = 0
      · rw [hi] at s ⊢
        simp only [Nat.zero_sub, Nat.pow_zero, Nat.mul_one] at s ⊢
        have : x % y ≤ x := Nat.mod_le _ _
        calc y * (x % y) ≤ y * x := Nat.mul_le_mul_left _ this
          _ = x * y := Nat.mul_comm _ _
          _ ≤ P := s
      · have ei : 2 ^ i = 2 * 2 ^ (i - 1) := by
          have : i = (i - 1) + 1 := by omega
          rw [this, Nat.pow_succ, Nat.add_sub_cancel, Nat.mul_comm]
        rw [ei]
        calc y * (x % y) * (2 * 2 ^ (i - 1)) = (2 * (x % y)) * (y * 2 ^ (i - 1)) := by
              rw [Nat.mul_comm y (x % y), Nat.mul_assoc, Nat.mul_left_comm y 2, ← Nat.mul_assoc (x % y) 2, Nat.mul_comm (x % y) 2]
          _ ≤ x * (y * 2 ^ (i - 1)) := Nat.mul_le_mul_right _ hm
          _ = x * y * 2 ^ (i - 1) := by rw [Nat.mul_assoc]
          _ ≤ P := s
theorem lap_end {G P i : Nat} {a b : Int} (h : Lap G P i a b) (hb : b = 0) : a = ((G : Nat) : Int) := by
  have g := h.g
  rw [hb] at g
  have e : Nat.gcd a.natAbs (0 : Int).natAbs = a.natAbs := Nat.gcd_zero_right _
  rw [e] at g
  have := h.a0
  omega
theorem lap_over {G P : Nat} {i : Nat} {a b : Int} (h : Lap G P i a b) (hi : 0 < i) (hP : P < 2 ^ (i - 1)) : b = 0 := by
  have s := h.sm
  have l : b ≤ a := by rcases h.le with z | z <;> omega
  rcases Nat.eq_zero_or_pos (a.natAbs * b.natAbs) with z | z
  · rcases Nat.mul_eq_zero.mp z with z | z
    · have := h.b0; omega
    · omega
  · have : 1 * 2 ^ (i - 1) ≤ a.natAbs * b.natAbs * 2 ^ (i - 1) := Nat.mul_le_mul_right _ z
    omega
end Vf
set_option maxRecDepth 100000
set_option maxHeartbeats 8000000
namespace Vf
open PySem PySem.Spec PyProof.Rows L2
def topS (i : Nat) : Stmt := PySem.Challenge.pw_nearcurves_k19_numbers_of_rows.main.body.getD i (.Pass ⟨0, 0, 0, 0⟩)
def penL (l : Addr) (at_ dg ct fo : Int) : List (Key × V) := [(.inr "cells", .ref l), (.inr "at", .int at_), (.inr "digits", .int dg), (.inr "count", .int ct), (.inr "fold", .int fo)]
section
variable {l : Addr} {a d c f x : Int}
theorem pv1 : valV (penL l a d c f) (.inr "cells") = some (.ref l) := by kernel_rfl
theorem pv2 : valV (penL l a d c f) (.inr "at") = some (.int a) := by kernel_rfl
theorem pv3 : valV (penL l a d c f) (.inr "digits") = some (.int d) := by kernel_rfl
theorem pv4 : valV (penL l a d c f) (.inr "count") = some (.int c) := by kernel_rfl
theorem pv5 : valV (penL l a d c f) (.inr "fold") = some (.int f) := by kernel_rfl
theorem pp2 : putK (penL l a d c f) (.inr "at") (.int x) = penL l x d c f := by kernel_rfl
theorem pp3 : putK (penL l a d c f) (.inr "digits") (.int x) = penL l a x c f := by kernel_rfl
theorem pp4 : putK (penL l a d c f) (.inr "count") (.int x) = penL l a d x f := by kernel_rfl
theorem pp5 : putK (penL l a d c f) (.inr "fold") (.int x) = penL l a d c x := by kernel_rfl
theorem pm : mergeK [] [(.inr "cells", .ref l), (.inr "at", .int 0), (.inr "digits", .int 0), (.inr "count", .int 0), (.inr "fold", .int f)] = penL l 0 0 0 f := by kernel_rfl
end
/-- a pen at p that has been asked at most B times -/
structure PenC (at_ dg ct fo B : Int) : Prop where
  a0 : 0 ≤ at_
  d0 : 0 ≤ dg
  c0 : 0 ≤ ct
  cB : ct ≤ B
  f0 : 0 ≤ fo
  f1 : fo < 2147483587
def PenAt (H : Hp) (p l : Addr) (ns : List Int) (at_ dg ct fo : Int) : Prop := H p = some (.dK (penL l at_ dg ct fo)) ∧ H l = some (.lst (ns.map V.int)) ∧ ns.length ≤ 63
def Pen (H : Hp) (p l : Addr) (B : Int) : Prop := ∃ ns at_ dg ct fo, PenAt H p l ns at_ dg ct fo ∧ PenC at_ dg ct fo B
/-- all but p stands as it stood -/
def Kp (p : Addr) (H H' : Hp) : Prop := ∀ b o, b ≠ p → H b = some o → H' b = some o
theorem Kp.refl {p : Addr} {H : Hp} : Kp p H H := fun _ _ _ h => h
theorem Kp.trans {p : Addr} {H H1 H2 : Hp} (a : Kp p H H1) (b : Kp p H1 H2) : Kp p H H2 := fun c o n h => b c o n (a c o n h)
theorem Kp.of {p : Addr} {H H' : Hp} (s : Same H H') : Kp p H H' := fun b o _ h => s b o h
theorem same_upd {H : Hp} {p : Addr} {o : HO} (n : H p = none) : Same H (upd H p o) := fun b u e => by rw [upd_ne (ne_of_none e n)]; exact e
/-- the heap without p -/
def wo (p : Addr) (H : Hp) : Hp := fun b => if b = p then none else H b
theorem wo_at {p b : Addr} {H : Hp} {o : HO} (h : b ≠ p) (e : H b = some o) : wo p H b = some o := by
  unfold Vf.wo
  rw [if_neg h]
  exact e
theorem PenAt.ne {H : Hp} {p l : Addr} {ns : List Int} {a d c f : Int} (h : PenAt H p l ns a d c f) : l ≠ p := ne_of h.2.1 h.1 (by intro z; cases z)
theorem PenAt.same {H H' : Hp} {p l : Addr} {ns : List Int} {a d c f : Int} (h : PenAt H p l ns a d c f) (s : Same H H') : PenAt H' p l ns a d c f := ⟨s _ _ h.1, s _ _ h.2.1, h.2.2⟩
theorem Pen.same {H H' : Hp} {p l : Addr} {B : Int} (h : Pen H p l B) (s : Same H H') : Pen H' p l B := by
  obtain ⟨ns, a, d, c, f, h1, h2⟩ := h
  exact ⟨ns, a, d, c, f, h1.same s, h2⟩
theorem Pen.more {H : Hp} {p l : Addr} {B B' : Int} (h : Pen H p l B) (e : B ≤ B') : Pen H p l B' := by
  obtain ⟨ns, a, d, c, f, h1, h2⟩ := h
  exact ⟨ns, a, d, c, f, h1, h2.a0, h2.d0, h2.c0, Int.le_trans h2.cB e, h2.f0, h2.f1⟩
theorem Pen.there {H : Hp} {p l : Addr} {B : Int} (h : Pen H p l B) : ∃ o, H p = some o := by
  obtain ⟨ns, a, d, c, f, h1, h2⟩ := h
  exact ⟨_, h1.1⟩
theorem PenAt.put {H : Hp} {p l : Addr} {ns : List Int} {a d c f a' d' c' f' : Int} (h : PenAt H p l ns a d c f) : PenAt (upd H p (.dK (penL l a' d' c' f'))) p l ns a' d' c' f' :=
  ⟨upd_same, by rw [upd_ne h.ne]; exact h.2.1, h.2.2⟩
theorem kp_upd {H : Hp} {p : Addr} {o : HO} : Kp p H (upd H p o) := fun b u n e => by rw [upd_ne n]; exact e
def spPen (K : PySem.W.Frag) : Sp := fun vs H Q _ => ∃ (a : Addr) (ns : List Int), vs = [.ref a] ∧ SqL K H a (ns.map V.int) ∧ ns.length ≤ 63 ∧ ∀ (p l : Addr) (H' : Hp), Same H H' → H p = none → H l = none → Pen H' p l 0 → Q (.ref p) H'
def spDraw : Sp := fun vs H Q _ => ∃ (p l : Addr) (B many : Int), vs = [.ref p, .int many] ∧ Pen H p l B ∧ B ≤ 1000000000 ∧ 0 < many ∧ many < 2000000000000000000000000000000000 ∧
  ∀ (z : Int) (H' : Hp), 0 ≤ z → z < many → Pen H' p l (B + 1) → Kp p H H' → Q (.int z) H'
def spPick : Sp := fun vs H Q _ => ∃ (p l s : Addr) (B : Int) (xs : List V), vs = [.ref p, .ref s] ∧ Pen H p l B ∧ B ≤ 1000000000 ∧ H s = some (.lst xs) ∧ s ≠ p ∧ 0 < xs.length ∧ xs.length < 1000000 ∧
  ∀ (x : V) (H' : Hp), x ∈ xs → Pen H' p l (B + 1) → Kp p H H' → Q x H'
/-- built-in names that the text leaves alone -/
structure Bi (mg : Str → Option Value) : Prop where
  int : mg "int" = none
  list : mg "list" = none
  len : mg "len" = none
  range : mg "range" = none
/-- a def of the text that raises nothing -/
structure Df (P : Program) (w : World) (K : PySem.W.Frag) (mg : Str → Option Value) (base : Heap) (x : Str) (k : Nat) (ps : List Str) (sp : Sp) where
  f : Addr
  fd : FuncData
  m : mg x = some (.ref f)
  kp : PySem.W.keepIn K (.ref f) = true
  b : Binds K fd ps []
  ok : FnOk P w K mg base CX0 k f fd ps sp
abbrev sPen : Stmt := topS 71
abbrev sDraw : Stmt := topS (71 + 1)
abbrev sPick : Stmt := topS (71 + 2)
section
variable {P : Program} {w : World} {K : PySem.W.Frag} {mg : Str → Option Value} {base : Heap}
theorem scPen : FnScope ["_law_script", "_law_fold", "_law_cell"] ["_law_script"] (defScope sPen) := ⟨rfl, rfl, rfl, by decide +kernel, rfl, by decide +kernel, by decide +kernel⟩
theorem ok_pen {f : Addr} {fd : FuncData} (F : Fun K "_law_pen" "_law_pen" sPen f fd) (T : Bi mg) : FnOk P w K mg base CX0 1 f fd ["_law_script"] (spPen K) := by
  refine F.ok scPen (fun vs H Q E h => ?_) (fun cdv A outer s H vs Q E hr h => ?_)
  · obtain ⟨a, ns, rfl, _⟩ := h
    rfl
  · obtain ⟨a, ns, rfl, hS, hl, k⟩ := h
    refine ⟨_, (pss_cons (ps_set (i := 1) scPen.nd rfl (Or.inl rfl) pe_int)
      (pss_cons (ps_for PassesOwn.never rfl (pi_list (pv 0)) (pg_name (i := 2) scPen.nd rfl (Or.inl rfl))
        (pss_one (ps_set (i := 1) scPen.nd rfl (Or.inl rfl) (pe_op op_mod (pe_callTy call_int1 (by rfl) T.int (by decide +kernel) (pa_cons (pe_op op_add (pe_op op_mul (pv 1) pe_int) (pv 2)) pa_nil)) pe_int))))
      (pss_one (ps_ret (pe_disp (pps_cons pe_str (pe_callTy call_list_of (by rfl) T.list (by decide +kernel) (pa_cons (pv 0) pa_nil)) (pps_cons pe_str pe_int (pps_cons pe_str pe_int (pps_cons pe_str pe_int (pps_cons pe_str (pv 1) pps_nil))))) (by rfl) (by rfl) (fun z => by cases z) (by decide)))))), ?_⟩
    refine ⟨_, rfl, a, rfl, ⟨_, hS⟩, for_list (K := K) (a := a) (xs := ns.map V.int) (fun i σ H2 => H2 = H ∧ ∃ (z : Int) (v : Option V), σ = [some (.ref a), some (.int z), v] ∧ 0 ≤ z ∧ z < 1000000007)
      ⟨rfl, 0, none, rfl, by decide, by decide⟩ (fun i σ H2 _ ⟨e, _⟩ => by rw [e]; exact hS) ?_ ?_⟩
    · rintro i y σ H2 hi ⟨rfl, z, v, rfl, h0, h1⟩
      obtain ⟨n, rfl⟩ : ∃ n, y = V.int n := by
        rw [List.getElem?_map] at hi
        cases e : ns[i]? with
        | none =>
          rw [e] at hi
          cases hi
        | some n =>
          rw [e] at hi
          exact ⟨n, (Option.some.inj hi).symm⟩
      refine ⟨_, rfl, _, _, rfl, rfl, .inl ⟨by omega, by omega⟩, _, rfl, _, _, rfl, rfl, .inl ⟨_, rfl, _, _, rfl, rfl, (by show (0 : Int) < 1000000007; decide), ?_⟩⟩
      exact ⟨rfl, _, _, rfl, Int.emod_nonneg _ (by decide), Int.emod_lt_of_pos _ (by decide)⟩
    · rintro σ H2 ⟨rfl, z, v, rfl, h0, h1⟩
      intro p np
      refine ⟨_, rfl, a, _, rfl, .inl ((same_upd np).seq hS), fun l nl => ?_⟩
      refine ⟨_, rfl, ?_⟩
      have npl : p ≠ l := ne_of_none upd_same nl
      refine ⟨by rw [upd_ne npl]; exact upd_same, [(.inr "cells", .ref l), (.inr "at", .int 0), (.inr "digits", .int 0), (.inr "count", .int 0), (.inr "fold", .int z)], rfl, (by show 5 ≤ 15; decide), ?_⟩
      rw [pm]
      have nl2 : H2 l = none := by
        have q := nl
        rw [upd_ne npl.symm] at q
        exact q
      refine k p l _ (fun b o e => ?_) np nl2 ⟨ns, 0, 0, 0, z, ⟨upd_same, by rw [upd_ne npl.symm]; exact upd_same, hl⟩, by decide, by decide, by decide, by decide, h0, by omega⟩
      rw [upd_ne (ne_of_none e np), upd_ne (ne_of_none e nl2), upd_ne (ne_of_none e np)]
      exact e
theorem scDraw : FnScope ["_law_pen_here", "_law_many", "_law_cell", "_law_digit", "_law_mixed"] ["_law_pen_here", "_law_many"] (defScope sDraw) := ⟨rfl, rfl, rfl, by decide +kernel, rfl, by decide +kernel, by decide +kernel⟩
theorem ok_draw {f : Addr} {fd : FuncData} (F : Fun K "_law_draw" "_law_draw" sDraw f fd) (T : Bi mg) : FnOk P w K mg base CX0 1 f fd ["_law_pen_here", "_law_many"] spDraw := by
  refine F.ok scDraw (fun vs H Q E h => ?_) (fun cdv A outer s H vs Q E hr h => ?_)
  · obtain ⟨p, l, B, m, rfl, _⟩ := h
    rfl
  · obtain ⟨p, l, B, m, rfl, ⟨ns, a0, d0, c0, f0, hP, hC⟩, hB, hm0, hm1, k⟩ := h
    have hu := hu_of hr
    have small : ∀ {l : Addr} {a d c f : Int}, (penL l a d c f).length < sizeLine := by intros; show 5 < sizeLine; decide
    refine ⟨_, (pss_cons (ps_dput hu (pv 0) pe_str (pe_op op_add (pe_dget hu (pv 0) pe_str (fun _ _ => rfl)) pe_int) rfl)
  (C8.pss_cut (ps_if (PW.pt (pw_and (pt_cmpR op_eq (pe_dget hu (pv 0) pe_str (fun _ _ => rfl)) pe_int (nomark _)) (pw_and1 (pt_cmpR op_lt (pe_dget hu (pv 0) pe_str (fun _ _ => rfl)) (pe_callB call_len_seq (by rfl) T.len (by decide +kernel) (pa_cons (pe_dget hu (pv 0) pe_str (fun _ _ => rfl)) pa_nil)) (nomark _)))))
    (pss_cons (ps_set (i := 2) scDraw.nd rfl (Or.inl rfl) (pe_ix ix_list (pe_dget hu (pv 0) pe_str (fun _ _ => rfl)) (pe_dget hu (pv 0) pe_str (fun _ _ => rfl)) (fun _ _ => rfl)))
    (pss_cons (ps_dput hu (pv 0) pe_str (pe_op op_add (pe_dget hu (pv 0) pe_str (fun _ _ => rfl)) pe_int) rfl)
    (pss_one (ps_if (pt_cmpR op_ge (pv 2) (pe_op op_pow pe_int pe_int) (nomark _))
      (pss_one (ps_dput hu (pv 0) pe_str (pe_op op_sub (pv 2) (pe_op op_pow pe_int pe_int)) rfl))
      (pss_one (ps_dput hu (pv 0) pe_str (pe_op op_mod (pe_callTy call_int1 (by rfl) T.int (by decide +kernel) (pa_cons (pe_op op_add (pe_op op_mul (pe_dget hu (pv 0) pe_str (fun _ _ => rfl)) pe_int) (pv 2)) pa_nil)) pe_int) rfl))))))
    pss_nil)
  (pss_cons (ps_if (pt_cmpR op_gt (pe_dget hu (pv 0) pe_str (fun _ _ => rfl)) pe_int (nomark _))
    (pss_cons (ps_set (i := 3) scDraw.nd rfl (Or.inl rfl) (pe_op op_mod (pe_callTy call_int1 (by rfl) T.int (by decide +kernel) (pa_cons (pe_dget hu (pv 0) pe_str (fun _ _ => rfl)) pa_nil)) (pv 1)))
    (pss_cons (ps_dput hu (pv 0) pe_str (pe_op op_fdivZ (pe_dget hu (pv 0) pe_str (fun _ _ => rfl)) (pv 1)) rfl)
    (pss_one (ps_ret (pv 3)))))
    pss_nil)
  (pss_cons (ps_set (i := 4) scDraw.nd rfl (Or.inl rfl) (pe_op op_add (pe_op op_add (pe_dget hu (pv 0) pe_str (fun _ _ => rfl)) (pe_op op_mul (pe_dget hu (pv 0) pe_str (fun _ _ => rfl)) pe_int)) pe_int))
  (pss_one (ps_ret (pe_op op_mod (pe_op op_fdiv (pe_callTy call_int1 (by rfl) T.int (by decide +kernel) (pa_cons (pe_op op_mod (pe_op op_pow (pv 4) pe_int) pe_int) pa_nil)) pe_int) (pv 1)))))))), ?_⟩
    -- count
    refine ⟨_, rfl, p, .int c0, rfl, ?_, _, _, rfl, rfl, _, rfl, p, _, rfl, DPut.k (k := Sum.inr "count") hP.1 small, ?_⟩
    · have q := DGet.k (k := (Sum.inr "count" : Key)) hP.1
      rw [pv4] at q
      exact q
    rw [pp4]
    have hP1 := hP.put (a' := a0) (d' := d0) (c' := c0 + 1) (f' := f0)
    generalize hH1 : upd H p (.dK (penL l a0 d0 (c0 + 1) f0)) = H1 at hP1
    have k1 : Kp p H H1 := by rw [← hH1]; exact kp_upd
    clear hH1
    -- the cut: a pen again
    refine ⟨fun σ H2 => ∃ (v2 : Option V) (a d c f : Int), σ = [some (.ref p), some (.int m), v2, none, none] ∧ PenAt H2 p l ns a d c f ∧ PenC a d c f (B + 1) ∧ Kp p H H2, ?_, ?_⟩
    · have g3 : DGet H1 p (kV (Sum.inr "digits")) (some (.int d0)) := by
        have q := DGet.k (k := (Sum.inr "digits" : Key)) hP1.1
        rw [pv3] at q
        exact q
      have g2 : DGet H1 p (kV (Sum.inr "at")) (some (.int a0)) := by
        have q := DGet.k (k := (Sum.inr "at" : Key)) hP1.1
        rw [pv2] at q
        exact q
      have g1 : DGet H1 p (kV (Sum.inr "cells")) (some (.ref l)) := by
        have q := DGet.k (k := (Sum.inr "cells" : Key)) hP1.1
        rw [pv1] at q
        exact q
      refine ⟨_, rfl, p, _, rfl, g3, rfl, _, rfl, ?_⟩
      have stay : ∃ (v2 : Option V) (a d c f : Int), start ["_law_pen_here", "_law_many", "_law_cell", "_law_digit", "_law_mixed"] [V.ref p, V.int m] = [some (.ref p), some (.int m), v2, none, none] ∧ PenAt H1 p l ns a d c f ∧ PenC a d c f (B + 1) ∧ Kp p H H1 :=
        ⟨none, a0, d0, c0 + 1, f0, rfl, hP1, ⟨hC.a0, hC.d0, by have := hC.c0; omega, by have := hC.cB; omega, hC.f0, hC.f1⟩, k1⟩
      by_cases hd : d0 = 0
      · rw [decide_eq_true (by rw [hd])]
        refine iteT ?_
        refine ⟨_, rfl, p, _, rfl, g2, _, rfl, p, _, rfl, g1, l, _, rfl, .inl (SqL.of hP1.2.1), _, _, rfl, rfl, _, rfl, ?_⟩
        rw [List.length_map]
        by_cases ha : a0 < (ns.length : Int)
        · rw [decide_eq_true ha]
          refine iteT ?_
          have han : a0.toNat < ns.length := by have := hC.a0; omega
          have hat : (ns.map V.int)[a0.toNat]? = some (V.int ns[a0.toNat]) := by
            rw [List.getElem?_map, List.getElem?_eq_getElem han]
            rfl
          generalize ns[a0.toNat] = z at hat
          refine ⟨_, rfl, p, _, rfl, g1, _, rfl, p, _, rfl, g2, l, _, a0, .int z, rfl, rfl, SqL.of hP1.2.1, at_of (j := a0.toNat) (by have := hC.a0; omega) hat, ?_⟩
          refine ⟨_, rfl, p, _, rfl, g2, _, _, rfl, rfl, _, rfl, p, _, rfl, DPut.k (k := Sum.inr "at") hP1.1 small, ?_⟩
          rw [pp2]
          have hP2 := hP1.put (a' := a0 + 1) (d' := d0) (c' := c0 + 1) (f' := f0)
          generalize hH2 : upd H1 p (.dK (penL l (a0 + 1) d0 (c0 + 1) f0)) = H2 at hP2
          have k2 : Kp p H H2 := by rw [← hH2]; exact k1.trans kp_upd
          clear hH2
          refine ⟨_, rfl, _, _, rfl, rfl, ⟨by decide, by decide, by decide⟩, _, _, rfl, rfl, _, rfl, ?_⟩
          refine ite2 (fun hz => ?_) (fun hz => ?_)
          · have hz2 : (10 : Int) ^ (18 : Int).toNat ≤ z := of_decide_eq_true hz
            refine ⟨_, rfl, _, _, rfl, rfl, ⟨by decide, by decide, by decide⟩, _, _, rfl, rfl, _, rfl, p, _, rfl, DPut.k (k := Sum.inr "digits") hP2.1 small, ?_⟩
            rw [pp3]
            exact ⟨_, a0 + 1, _, c0 + 1, f0, rfl, hP2.put, ⟨by have := hC.a0; omega, by omega, by have := hC.c0; omega, by have := hC.cB; omega, hC.f0, hC.f1⟩, k2.trans kp_upd⟩
          · refine ⟨_, rfl, p, .int f0, rfl, ?_, _, _, rfl, rfl, .inl ⟨?_, ?_⟩, _, rfl, _, _, rfl, rfl, .inl ⟨_, rfl, _, _, rfl, rfl, (by show (0 : Int) < 2147483587; decide), _, rfl, p, _, rfl, DPut.k (k := Sum.inr "fold") hP2.1 small, ?_⟩⟩
            · have q := DGet.k (k := (Sum.inr "fold" : Key)) hP2.1
              rw [pv5] at q
              exact q
            · have := hC.f0; omega
            · have := hC.f1; omega
            rw [pp5]
            exact ⟨_, a0 + 1, d0, c0 + 1, _, rfl, hP2.put, ⟨by have := hC.a0; omega, hC.d0, by have := hC.c0; omega, by have := hC.cB; omega, Int.emod_nonneg _ (by decide), Int.emod_lt_of_pos _ (by decide)⟩, k2.trans kp_upd⟩
        · rw [decide_eq_false ha]
          refine iteF ?_
          exact stay
      · rw [decide_eq_false (fun z => hd (by have z2 := V.int.inj z; exact z2))]
        refine iteF ?_
        exact stay
    · rintro σ H2 ⟨v2, a, d, c, f, rfl, hP2, hC2, k2⟩
      have g3 : DGet H2 p (kV (Sum.inr "digits")) (some (.int d)) := by
        have q := DGet.k (k := (Sum.inr "digits" : Key)) hP2.1
        rw [pv3] at q
        exact q
      refine ⟨_, rfl, p, _, rfl, g3, _, _, rfl, rfl, _, rfl, ?_⟩
      refine ite2 (fun hz => ?_) (fun hz => ?_)
      · have hz2 : 0 < d := of_decide_eq_true hz
        refine ⟨_, rfl, p, _, rfl, g3, .inl ⟨_, rfl, _, rfl, _, _, rfl, rfl, hm0, ?_⟩⟩
        refine ⟨_, rfl, p, _, rfl, g3, _, rfl, _, _, rfl, rfl, ⟨by omega, by have := (Nat.log2_lt (n := m.natAbs) (k := 400) (by omega)).mpr (Nat.lt_of_lt_of_le (show m.natAbs < 2000000000000000000000000000000000 by omega) (by decide +kernel)); omega⟩, _, rfl, p, _, rfl, DPut.k (k := Sum.inr "digits") hP2.1 small, ?_⟩
        rw [pp3]
        exact ⟨_, rfl, k _ _ (Int.emod_nonneg _ (by omega)) (Int.emod_lt_of_pos _ hm0) ⟨ns, a, _, c, f, hP2.put, hC2.a0, Int.fdiv_nonneg hC2.d0 (by omega), hC2.c0, hC2.cB, hC2.f0, hC2.f1⟩ (k2.trans kp_upd)⟩
      · refine ⟨_, rfl, p, .int f, rfl, ?_, _, rfl, p, .int c, rfl, ?_, _, _, rfl, rfl, .inl ⟨?_, ?_⟩, _, _, rfl, rfl, _, _, rfl, rfl, ?_⟩
        · have q := DGet.k (k := (Sum.inr "fold" : Key)) hP2.1
          rw [pv5] at q
          exact q
        · have q := DGet.k (k := (Sum.inr "count" : Key)) hP2.1
          rw [pv4] at q
          exact q
        · have := hC2.c0; omega
        · have := hC2.cB; omega
        have b1 := hC2.c0
        have b2 := hC2.cB
        have b3 := hC2.f0
        have b4 := hC2.f1
        refine ⟨_, rfl, _, _, rfl, rfl, ⟨by decide, by decide, ?_⟩, _, _, rfl, rfl, (by show (0 : Int) < 2305843009213693951; decide), .inl ⟨_, rfl, _, _, rfl, rfl, ⟨by decide, by decide⟩, _, rfl, _, _, rfl, rfl, hm0, ?_⟩⟩
        · show (f + c * 7907 + 43).natAbs < 2 ^ 64
          omega
        exact k _ _ (Int.emod_nonneg _ (by omega)) (Int.emod_lt_of_pos _ hm0) ⟨ns, a, d, c, f, hP2, hC2⟩ k2
theorem scPick : FnScope ["_law_pen_here", "_law_some"] ["_law_pen_here", "_law_some"] (defScope sPick) := ⟨rfl, rfl, rfl, by decide +kernel, rfl, by decide +kernel, by decide +kernel⟩
theorem ok_pick {f : Addr} {fd : FuncData} (F : Fun K "_law_pick" "_law_pick" sPick f fd) (T : Bi mg) (G : Df P w K mg base "_law_draw" 1 ["_law_pen_here", "_law_many"] spDraw) : FnOk P w K mg base CX0 2 f fd ["_law_pen_here", "_law_some"] spPick := by
  refine F.ok scPick (fun vs H Q E h => ?_) (fun cdv A outer s H vs Q E hr h => ?_)
  · obtain ⟨p, l, s, B, xs, rfl, _⟩ := h
    rfl
  · obtain ⟨p, l, s, B, xs, rfl, hP, hB, hs, hne, h0, h1, k⟩ := h
    refine ⟨_, (pss_one (ps_ret (pe_ix ix_list (pv 1) (pe_call G.ok hr rfl G.m G.kp G.b .nil pass0 (pa_cons (pv 0) (pa_cons (pe_callB call_len_seq (by rfl) T.len (by decide +kernel) (pa_cons (pv 1) pa_nil)) pa_nil))) (fun _ _ => rfl)))), ?_⟩
    refine ⟨_, rfl, _, rfl, _, rfl, s, _, rfl, .inl (SqL.of hs), p, l, B, _, rfl, hP, hB, by omega, by omega, fun z H' z0 z1 hP' kp => ?_⟩
    have hzn : z.toNat < xs.length := by omega
    exact ⟨s, xs, z, xs[z.toNat], rfl, rfl, SqL.of (kp _ _ hne hs), at_of (j := z.toNat) (by omega) (List.getElem?_eq_getElem hzn), k _ _ (List.getElem_mem hzn) hP' kp⟩
end
end Vf
set_option maxRecDepth 100000
set_option maxHeartbeats 8000000
namespace Vf
open PySem PySem.Spec PyProof.Rows L2
def fl (names : List Str) (xs : List V) : List (Str × V) := (names.zip xs).reverse
/-- self.f = f, for each of the names -/
def spIni (C : Addr) (names : List Str) : Sp := fun vs H Q _ => ∃ (a : Addr) (xs : List V), vs = .ref a :: xs ∧ xs.length = names.length ∧ H a = some (exo a C none) ∧
  ∀ (d : Addr) (H' : Hp), H d = none → d ≠ a → H' a = some (exo a C (some d)) → H' d = some (exd d (fl names xs)) → (∀ b o, b ≠ a → H b = some o → H' b = some o) → Q .non H'
theorem keep2 {H : Hp} {a d : Addr} {o u : HO} (n : H d = none) : ∀ b z, b ≠ a → H b = some z → upd (upd H d o) a u b = some z := fun b z h e => by
  rw [upd_ne h, upd_ne (ne_of_none e n)]
  exact e
theorem keep3 {H1 H : Hp} {a d : Addr} {u : HO} (n : H d = none) (k : ∀ b z, b ≠ a → H b = some z → H1 b = some z) : ∀ b z, b ≠ a → H b = some z → upd H1 d u b = some z := fun b z h e => by
  rw [upd_ne (ne_of_none e n)]
  exact k b z h e
section
variable {P : Program} {w : World} {K : PySem.W.Frag} {mg : Str → Option Value} {base : Heap}
theorem scBadNumber : FnScope ["self", "what", "number"] ["self", "what", "number"] (defScope (inClass (topS 3) 0)) := ⟨rfl, rfl, rfl, by decide +kernel, rfl, by decide +kernel, by decide +kernel⟩
theorem iniBadNumber {f C : Addr} {fd : FuncData} (F : Fun K "__init__" "BadNumber.__init__" (inClass (topS 3) 0) f fd) (T : OexC K C) (n1 : PySem.W.findIn K (.ref C) "what" = some none) (n2 : PySem.W.findIn K (.ref C) "number" = some none) :
    FnOk P w K mg base CX0 1 f fd ["self", "what", "number"] (spIni C ["what", "number"]) := by
  refine F.ok scBadNumber (fun vs H Q E h => ?_) (fun cdv A outer s H vs Q E hr h => ?_)
  · obtain ⟨a, xs, rfl, hl, _⟩ := h
    rw [List.length_cons, hl]
    all_goals rfl
  · obtain ⟨a, xs, rfl, hl, ha, k⟩ := h
    match xs, hl with
    | [v1, v2], _ =>
    refine ⟨_, (pss_cons (ps_ost (pv 0) (pv 1)) (pss_one (ps_ost (pv 0) (pv 2)))), ?_⟩
    refine ⟨_, rfl, _, rfl, a, C, rfl, T, n1, .inl ⟨ha, fun d nd ne => ?_⟩⟩
    have e1 : (upd (upd H d (exd d [("what", v1)])) a (exo a C (some d))) a = some (exo a C (some d)) := upd_same
    have e2 : (upd (upd H d (exd d [("what", v1)])) a (exo a C (some d))) d = some (exd d [("what", v1)]) := by rw [upd_ne ne]; exact upd_same
    have e3 := keep2 (H := H) (a := a) (d := d) (o := exd d [("what", v1)]) (u := exo a C (some d)) nd
    generalize upd (upd H d (exd d [("what", v1)])) a (exo a C (some d)) = H1 at e1 e2 e3
    refine ⟨_, rfl, _, rfl, a, C, rfl, T, n2, .inr ⟨d, _, e1, e2, (by show 1 ≤ 900; decide), ?_⟩⟩
    exact k d _ nd ne (by rw [upd_ne ne.symm]; exact e1) upd_same (keep3 nd e3)
theorem scBadRow : FnScope ["self", "row"] ["self", "row"] (defScope (inClass (topS 4) 0)) := ⟨rfl, rfl, rfl, by decide +kernel, rfl, by decide +kernel, by decide +kernel⟩
theorem iniBadRow {f C : Addr} {fd : FuncData} (F : Fun K "__init__" "BadRow.__init__" (inClass (topS 4) 0) f fd) (T : OexC K C) (n1 : PySem.W.findIn K (.ref C) "row" = some none) :
    FnOk P w K mg base CX0 1 f fd ["self", "row"] (spIni C ["row"]) := by
  refine F.ok scBadRow (fun vs H Q E h => ?_) (fun cdv A outer s H vs Q E hr h => ?_)
  · obtain ⟨a, xs, rfl, hl, _⟩ := h
    rw [List.length_cons, hl]
    all_goals rfl
  · obtain ⟨a, xs, rfl, hl, ha, k⟩ := h
    match xs, hl with
    | [v1], _ =>
    refine ⟨_, (pss_one (ps_ost (pv 0) (pv 1))), ?_⟩
    refine ⟨_, rfl, _, rfl, a, C, rfl, T, n1, .inl ⟨ha, fun d nd ne => ?_⟩⟩
    exact k d _ nd ne upd_same (by rw [upd_ne ne]; exact upd_same) (keep2 nd)
end
def tyD : PyData → String
  | .none => "NoneType"
  | .bool _ => "bool"
  | .int _ => "int"
  | .str _ => "str"
  | .list _ => "list"
  | .tuple _ => "tuple"
  | .dict _ => "dict"
theorem Dt.ty {K : PySem.W.Frag} {H : Hp} {v : V} {d : PyData} (h : Dt K H v d) : TyX K H v (.type (tyD d)) := by
  cases h with
  | non => exact .base .non
  | bl b => exact .base (.bl b)
  | int i => exact .base (.int i)
  | str x => exact .base (.str x)
  | lst h1 _ =>
    rcases h1 with (h1 | ⟨o, h1⟩) | ⟨o, _, _, h1, h2, _⟩
    · exact .base (.lst h1)
    · exact .base (.frz h1)
    · exact .kList h1 h2
  | tup h1 _ =>
    rcases h1 with (h1 | ⟨o, h1⟩) | ⟨o, _, _, h1, h2, _⟩
    · exact .base (.tup h1)
    · exact .fTuple h1
    · exact .kTuple h1 h2
  | dct h1 _ => exact .base (.dK h1)
def intD : PyData → Bool
  | .int _ => true
  | .bool _ => true
  | _ => false
def boolD : PyData → Bool
  | .bool _ => true
  | _ => false
def wholeD : PyData → Bool
  | .int _ => true
  | _ => false
theorem kit_int {K : PySem.W.Frag} (d : PyData) : PySem.W.kitOne K (.type (tyD d)) (.type "int") = some (intD d) := by
  cases d with
  | none => exact kit_ty (show kitB "NoneType" "int" = some false by decide +kernel)
  | bool _ => exact kit_ty (show kitB "bool" "int" = some true by decide +kernel)
  | int _ => exact kit_ty (show kitB "int" "int" = some true by decide +kernel)
  | str _ => exact kit_ty (show kitB "str" "int" = some false by decide +kernel)
  | list _ => exact kit_ty (show kitB "list" "int" = some false by decide +kernel)
  | tuple _ => exact kit_ty (show kitB "tuple" "int" = some false by decide +kernel)
  | dict _ => exact kit_ty (show kitB "dict" "int" = some false by decide +kernel)
theorem kit_bool {K : PySem.W.Frag} (d : PyData) : PySem.W.kitOne K (.type (tyD d)) (.type "bool") = some (boolD d) := by
  cases d with
  | none => exact kit_ty (show kitB "NoneType" "bool" = some false by decide +kernel)
  | bool _ => exact kit_ty (show kitB "bool" "bool" = some true by decide +kernel)
  | int _ => exact kit_ty (show kitB "int" "bool" = some false by decide +kernel)
  | str _ => exact kit_ty (show kitB "str" "bool" = some false by decide +kernel)
  | list _ => exact kit_ty (show kitB "list" "bool" = some false by decide +kernel)
  | tuple _ => exact kit_ty (show kitB "tuple" "bool" = some false by decide +kernel)
  | dict _ => exact kit_ty (show kitB "dict" "bool" = some false by decide +kernel)
/-- a ratio's top and bottom, as it is passed -/
def pair? : List PyData → Option (Int × Int)
  | [.int a, .int b] => if 0 < b then some (a, b) else none
  | _ => none
def partsD : PyData → Option (Int × Int)
  | .int i => some (i, 1)
  | .list ds => pair? ds
  | .tuple ds => pair? ds
  | _ => none
def seqD : PyData → Option (List PyData)
  | .list ds => some ds
  | .tuple ds => some ds
  | _ => none
theorem kit_seq {K : PySem.W.Frag} (d : PyData) : PySem.W.kitAny K (.type (tyD d)) [.type "tuple", .type "list"] = some (seqD d).isSome := by
  have two : ∀ {a b : Bool} {t : String}, kitB t "tuple" = some a → kitB t "list" = some b → PySem.W.kitAny K (.type t) [.type "tuple", .type "list"] = some (a || b) := fun {a b t} h1 h2 =>
    kitAny_cons (kit_ty h1) (fun e => by rw [e, Bool.false_or]; exact kitAny_cons (kit_ty h2) (fun e2 => by rw [e2]; exact kitAny_nil) (fun e2 => e2)) (fun e => by rw [e, Bool.true_or])
  cases d with
  | none => exact two (a := false) (b := false) (show kitB "NoneType" "tuple" = some false by decide +kernel) (show kitB "NoneType" "list" = some false by decide +kernel)
  | bool _ => exact two (a := false) (b := false) (show kitB "bool" "tuple" = some false by decide +kernel) (show kitB "bool" "list" = some false by decide +kernel)
  | int _ => exact two (a := false) (b := false) (show kitB "int" "tuple" = some false by decide +kernel) (show kitB "int" "list" = some false by decide +kernel)
  | str _ => exact two (a := false) (b := false) (show kitB "str" "tuple" = some false by decide +kernel) (show kitB "str" "list" = some false by decide +kernel)
  | list _ => exact two (a := false) (b := true) (show kitB "list" "tuple" = some false by decide +kernel) (show kitB "list" "list" = some true by decide +kernel)
  | tuple _ => exact two (a := true) (b := false) (show kitB "tuple" "tuple" = some true by decide +kernel) (show kitB "tuple" "list" = some false by decide +kernel)
  | dict _ => exact two (a := false) (b := false) (show kitB "dict" "tuple" = some false by decide +kernel) (show kitB "dict" "list" = some false by decide +kernel)
/-- built-in names that the text leaves alone, and gcd -/
structure Bk (mg : Str → Option Value) : Prop extends Bi mg where
  isinstance : mg "isinstance" = none
  bool : mg "bool" = none
  tuple : mg "tuple" = none
  abs : mg "abs" = none
  str : mg "str" = none
  gcd : mg "gcd" = some (.builtin "math.gcd")
/-- an error class with one __init__ of its own, as it is raised -/
structure Ex (P : Program) (w : World) (K : PySem.W.Frag) (mg : Str → Option Value) (base : Heap) (x : Str) (C : Addr) (names : List Str) where
  ox : OexC K C
  f : Addr
  fd : FuncData
  m : mg x = some (.ref C)
  iC : PySem.W.findIn K (.ref C) "__init__" = some (some (.ref f))
  tI : PySem.W.typeIn K (.ref f) = some (.type "function")
  b : Binds K fd ("self" :: names) []
  ok : FnOk P w K mg base CX0 1 f fd ("self" :: names) (spIni C names)
/-- a def of the text that may raise -/
structure Dx (P : Program) (w : World) (K : PySem.W.Frag) (mg : Str → Option Value) (base : Heap) (x : Str) (k : Nat) (ps : List Str) (sp : Sp) where
  f : Addr
  fd : FuncData
  m : mg x = some (.ref f)
  kp : PySem.W.keepIn K (.ref f) = true
  b : Binds K fd ps []
  ok : FnOk P w K mg base (L2.CX P w) k f fd ps sp
/-- what raise X(e, ..) leaves -/
theorem raise_end {C : Addr} {names : List Str} {H1 : Hp} {vs : List V} {W : XK} (hl : vs.length = names.length) (h : ∀ d H', Same H1 H' → H1 d = none → H' d = some (.xd (fl names vs)) → W (.ref C) (some d) H') :
    ∀ a, H1 a = none → spIni C names (.ref a :: (vs ++ [])) (upd H1 a (exo a C none)) (fun v H2 => v = .non ∧ ∃ (d : Addr) (fs : List (Str × V)), H2 a = some (exo a C (some d)) ∧ H2 d = some (exd d fs) ∧ H1 d = none ∧ W (.ref C) (some d) (upd (del H2 a) d (.xd fs))) (fun _ _ _ => False) := fun a na => by
  refine ⟨a, vs, by rw [List.append_nil], hl, upd_same, fun d H' nd ne ea ed k => ⟨rfl, d, fl names vs, ea, ed, ?_, ?_⟩⟩
  · rw [upd_ne ne] at nd
    exact nd
  · rw [upd_ne ne] at nd
    refine h d _ (fun b o e => ?_) nd upd_same
    have n1 := ne_of_none e na
    rw [upd_ne (ne_of_none e nd), del_ne n1]
    exact k b o n1 (by rw [upd_ne n1]; exact e)
def spWhole (K : PySem.W.Frag) : Sp := fun vs H Q _ => ∃ (v : V) (d : PyData), vs = [v] ∧ Dt K H v d ∧ Q (.bl (wholeD d)) H
def spIsRatio (K : PySem.W.Frag) : Sp := fun vs H Q _ => ∃ (v : V) (d : PyData), vs = [v] ∧ Dt K H v d ∧ ∀ H', Same H H' → Q (.bl (partsD d).isSome) H'
def big : Nat := 8800
def spLow : Sp := fun vs H Q _ => ∃ t b : Int, vs = [.int t, .int b] ∧ b ≠ 0 ∧ b.natAbs < 2 ^ big ∧ ∀ (p : Addr) (H' : Hp), Same H H' → H p = none → H' p = some (.tup [.int (low t b).1, .int (low t b).2]) → Q (.ref p) H'
/-- an error of BadNumber -/
def RaisesN (CN : Addr) (H : Hp) (wv v : V) (E : XK) : Prop := ∀ (d : Addr) (H' : Hp), Same H H' → H d = none → H' d = some (.xd (fl ["what", "number"] [wv, v])) → E (.ref CN) (some d) H'
theorem RaisesN.same {CN : Addr} {H H1 : Hp} {wv v : V} {E : XK} (s : Same H H1) (h : RaisesN CN H wv v E) : RaisesN CN H1 wv v E := fun d H' s' n e => h d H' (s.trans s') (s.free n) e
def spParts (K : PySem.W.Frag) (CN : Addr) : Sp := fun vs H Q E => ∃ (v wv : V) (d : PyData), vs = [v, wv] ∧ Dt K H v d ∧
  (∀ t b, partsD d = some (t, b) → ∀ (p : Addr) (H' : Hp), Same H H' → H' p = some (.tup [.int t, .int b]) → Q (.ref p) H') ∧ (partsD d = none → RaisesN CN H wv v E)
def spTold (K : PySem.W.Frag) (CN : Addr) : Sp := fun vs H Q E => ∃ (v wv : V) (d : PyData), vs = [v, wv] ∧ Dt K H v d ∧
  (∀ t b, partsD d = some (t, b) → b.natAbs < 2 ^ big ∧ ∀ (p : Addr) (H' : Hp), Same H H' → H' p = some (.tup [.int (low t b).1, .int (low t b).2]) → Q (.ref p) H') ∧ (partsD d = none → RaisesN CN H wv v E)
theorem pair_pos {ds : List PyData} {t b : Int} (h : pair? ds = some (t, b)) : ds = [.int t, .int b] ∧ 0 < b := by
  unfold pair? at h
  split at h
  · split at h
    · rename_i hb
      cases h
      exact ⟨rfl, hb⟩
    · cases h
  · cases h
theorem parts_pos {d : PyData} {t b : Int} (h : partsD d = some (t, b)) : 0 < b := by
  unfold partsD at h
  split at h
  · cases h
    decide
  · exact (pair_pos h).2
  · exact (pair_pos h).2
  · cases h
section
variable {P : Program} {w : World} {K : PySem.W.Frag} {mg : Str → Option Value} {base : Heap} {CN : Addr}
abbrev sIsWhole : Stmt := topS 11
abbrev sIsRatio : Stmt := topS 12
abbrev sLowest : Stmt := topS 14
abbrev sParts : Stmt := topS 15
abbrev sTold : Stmt := topS 16
theorem scIsWhole : FnScope ["value"] ["value"] (defScope sIsWhole) := ⟨rfl, rfl, rfl, by decide +kernel, rfl, by decide +kernel, by decide +kernel⟩
theorem ok_is_whole {f : Addr} {fd : FuncData} (F : Fun K "is_whole" "is_whole" sIsWhole f fd) (T : Bk mg) : FnOk P w K mg base CX0 1 f fd ["value"] (spWhole K) := by
  refine F.ok scIsWhole (fun vs H Q E h => ?_) (fun cdv A outer s H vs Q E hr h => ?_)
  · obtain ⟨v, d, rfl, _⟩ := h
    rfl
  · obtain ⟨v, d, rfl, hd, q⟩ := h
    refine ⟨_, (pss_one (ps_ret (pe_and (pe_callB call_isi (by rfl) T.isinstance (by decide +kernel) (pa_cons (pv 0) (pa_cons (pe_bltn (v := V.ty "int") (by rfl) T.int (by decide +kernel) rfl) pa_nil)))
      (pe_one (pe_not (pe_callB call_isi (by rfl) T.isinstance (by decide +kernel) (pa_cons (pv 0) (pa_cons (pe_bltn (v := V.ty "bool") (by rfl) T.bool (by decide +kernel) rfl) pa_nil)))))))), ?_⟩
    refine ⟨_, rfl, v, .ty "int", _, .type "int", _, rfl, .ty _, hd.ty, kit_int d, _, rfl, ?_⟩
    cases hi : intD d with
    | false =>
      refine iteF ?_
      have e : wholeD d = false := by cases d <;> first | rfl | (exact absurd hi (fun z => by cases z))
      rw [e] at q
      exact q
    | true =>
      refine iteT ?_
      refine ⟨_, rfl, v, .ty "bool", _, .type "bool", _, rfl, .ty _, hd.ty, kit_bool d, _, rfl, ?_⟩
      have e : wholeD d = !boolD d := by cases d <;> first | rfl | (exact absurd hi (fun z => by cases z))
      rw [e] at q
      exact q
theorem dts2 {H : Hp} {vs : List V} {a b : PyData} (h : Dts K H vs [a, b]) : ∃ x y, vs = [x, y] ∧ Dt K H x a ∧ Dt K H y b := by
  cases h with
  | cons h1 h2 =>
    cases h2 with
    | cons h3 h4 =>
      cases h4
      exact ⟨_, _, rfl, h1, h3⟩
/-- an item of a list or tuple -/
theorem seq_at {H : Hp} {a : Addr} {xs : List V} {Q : V → Hp → Prop} {z : Int} {x : V} (h : SqL K H a xs ∨ SqT K H a xs) (e : atI xs z = some x) (q : Q x H) : rIx K (.ref a) (.int z) H Q := by
  rcases h with h | h
  · exact .inl ⟨a, xs, z, x, rfl, rfl, h, e, q⟩
  · exact .inr (.inl ⟨a, xs, z, x, rfl, rfl, h, e, q⟩)
theorem Dt.seq {H : Hp} {v : V} {d : PyData} {ds : List PyData} (h : Dt K H v d) (e : seqD d = some ds) : ∃ a vs, v = .ref a ∧ (SqL K H a vs ∨ SqT K H a vs) ∧ Dts K H vs ds := by
  cases h with
  | lst h1 h2 =>
    cases e
    exact ⟨_, _, rfl, .inl h1, h2⟩
  | tup h1 h2 =>
    cases e
    exact ⟨_, _, rfl, .inr h1, h2⟩
  | _ => cases e
theorem scIsRatio : FnScope ["value"] ["value"] (defScope sIsRatio) := ⟨rfl, rfl, rfl, by decide +kernel, rfl, by decide +kernel, by decide +kernel⟩
theorem ok_is_ratio {f : Addr} {fd : FuncData} (F : Fun K "is_ratio" "is_ratio" sIsRatio f fd) (T : Bk mg) (Gw : Df P w K mg base "is_whole" 1 ["value"] (spWhole K)) : FnOk P w K mg base CX0 2 f fd ["value"] (spIsRatio K) := by
  refine F.ok scIsRatio (fun vs H Q E h => ?_) (fun cdv A outer s H vs Q E hr h => ?_)
  · obtain ⟨v, d, rfl, _⟩ := h
    rfl
  · obtain ⟨v, d, rfl, hd, q⟩ := h
    refine ⟨_, (pss_cons (ps_if (pt_val (pe_callB call_isiT (by rfl) T.isinstance (by decide +kernel) (pa_cons (pv 0) (pa_cons (pe_tup (pa_cons (pe_bltn (v := V.ty "tuple") (by rfl) T.tuple (by decide +kernel) rfl) (pa_cons (pe_bltn (v := V.ty "list") (by rfl) T.list (by decide +kernel) rfl) pa_nil))) pa_nil))))
      (pss_one (ps_ret (pe_and (pe_cmpR op_eq (pe_callB call_len_seq (by rfl) T.len (by decide +kernel) (pa_cons (pv 0) pa_nil)) pe_int (nomark _)) (pe_and (pe_call Gw.ok hr rfl Gw.m Gw.kp Gw.b .nil pass0 (pa_cons (pe_ix ix_seq (pv 0) pe_int (fun _ _ => rfl)) pa_nil)) (pe_and (pe_call Gw.ok hr rfl Gw.m Gw.kp Gw.b .nil pass0 (pa_cons (pe_ix ix_seq (pv 0) pe_int (fun _ _ => rfl)) pa_nil)) (pe_one (pe_cmpR op_gt (pe_ix ix_seq (pv 0) pe_int (fun _ _ => rfl)) pe_int (nomark _))))))))
      pss_nil)
      (pss_one (ps_ret (pe_call Gw.ok hr rfl Gw.m Gw.kp Gw.b .nil pass0 (pa_cons (pv 0) pa_nil))))), ?_⟩
    refine ⟨_, rfl, (by show 2 ≤ sizeLine; decide), fun tp ntp => ?_⟩
    have s1 : Same H (upd H tp (HO.tup [V.ty "tuple", V.ty "list"])) := same_upd ntp
    have e1 : upd H tp (HO.tup [V.ty "tuple", V.ty "list"]) tp = some (HO.tup [V.ty "tuple", V.ty "list"]) := upd_same
    generalize upd H tp (HO.tup [V.ty "tuple", V.ty "list"]) = H1 at s1 e1 ⊢
    have hd1 := hd.mono s1
    have q1 := q H1 s1
    refine ⟨v, tp, _, _, [.type "tuple", .type "list"], _, rfl, e1, .cons (.ty _) (.cons (.ty _) .nil), hd1.ty, kit_seq d, _, rfl, ?_⟩
    cases hs : seqD d with
    | none =>
      refine iteF ?_
      refine ⟨_, rfl, v, d, rfl, hd1, ?_⟩
      have e : (partsD d).isSome = wholeD d := by cases d <;> first | rfl | cases hs
      rw [e] at q1
      exact q1
    | some ds =>
      refine iteT ?_
      have ep : partsD d = pair? ds := by cases d <;> first | (cases hs; rfl) | cases hs
      rw [ep] at q1
      obtain ⟨a, vs, rfl, hsq, hds⟩ := hd1.seq hs
      refine ⟨_, rfl, a, vs, rfl, hsq, rfl, _, rfl, ?_⟩
      by_cases hl : vs.length = 2
      · rw [decide_eq_true (by rw [hl]; rfl)]
        refine iteT ?_
        have hl2 : ds.length = 2 := by rw [← hds.len]; exact hl
        match ds, hl2 with
        | [d0, d1], _ =>
        obtain ⟨x, y, rfl, hx, hy⟩ := dts2 hds
        refine ⟨_, rfl, seq_at hsq (at_of (j := 0) rfl rfl) ?_⟩
        refine ⟨x, d0, rfl, hx, _, rfl, ?_⟩
        cases h0 : wholeD d0 with
        | false =>
          refine iteF ?_
          have e : pair? [d0, d1] = none := by cases d0 <;> first | rfl | (cases h0)
          rw [e] at q1
          exact q1
        | true =>
          refine iteT ?_
          refine ⟨_, rfl, seq_at hsq (at_of (j := 1) rfl rfl) ?_⟩
          refine ⟨y, d1, rfl, hy, _, rfl, ?_⟩
          cases h1 : wholeD d1 with
          | false =>
            refine iteF ?_
            have e : pair? [d0, d1] = none := by cases d0 <;> cases d1 <;> first | rfl | (cases h1) | (cases h0)
            rw [e] at q1
            exact q1
          | true =>
            refine iteT ?_
            obtain ⟨i, rfl⟩ : ∃ i, d0 = .int i := by cases d0 <;> first | exact ⟨_, rfl⟩ | cases h0
            obtain ⟨j, rfl⟩ : ∃ j, d1 = .int j := by cases d1 <;> first | exact ⟨_, rfl⟩ | cases h1
            cases hy
            refine ⟨_, rfl, seq_at hsq (at_of (j := 1) rfl rfl) ?_⟩
            refine ⟨_, _, rfl, rfl, ?_⟩
            have e : (pair? [PyData.int i, PyData.int j]).isSome = decide (0 < j) := by
              show (if 0 < j then some (i, j) else none).isSome = decide (0 < j)
              by_cases hj : 0 < j
              · rw [if_pos hj, decide_eq_true hj]; rfl
              · rw [if_neg hj, decide_eq_false hj]; rfl
            rw [e] at q1
            exact q1
      · rw [decide_eq_false (fun z => hl (by have z2 := V.int.inj z; omega))]
        refine iteF ?_
        have e : pair? ds = none := by
          cases hp : pair? ds with
          | none => rfl
          | some tb =>
            obtain ⟨t, b⟩ := tb
            have z := (pair_pos hp).1
            rw [hds.len, z] at hl
            exact absurd rfl hl
        rw [e] at q1
        exact q1
theorem scLowest : FnScope ["top", "bottom", "shared"] ["top", "bottom"] (defScope sLowest) := ⟨rfl, rfl, rfl, by decide +kernel, rfl, by decide +kernel, by decide +kernel⟩
theorem log_of {z : Int} {k : Nat} (hk : 0 < k) (h : z.natAbs < 2 ^ k) : z.natAbs.log2 < k := PySem.Flt.log2_lt_of hk h
theorem sg_cdiv {t b x : Int} (h : b ≠ 0) (hb : b.natAbs < 2 ^ big) : CDivZ x (sg t b) :=
  ⟨sg_ne h, Nat.lt_trans (log_of (k := big) (by decide) (Nat.lt_of_le_of_lt (sg_size h) hb)) (by decide)⟩
theorem ok_lowest {f : Addr} {fd : FuncData} (F : Fun K "lowest" "lowest" sLowest f fd) (T : Bk mg) : FnOk P w K mg base CX0 1 f fd ["top", "bottom"] spLow := by
  refine F.ok scLowest (fun vs H Q E h => ?_) (fun cdv A outer s H vs Q E hr h => ?_)
  · obtain ⟨t, b, rfl, _⟩ := h
    rfl
  · obtain ⟨t, b, rfl, hb, hz, q⟩ := h
    refine ⟨_, (pss_cons (ps_set (i := 2) scLowest.nd rfl (Or.inl rfl) (pe_callBfun cr_gcd (by rfl) T.gcd (pa_cons (pv 0) (pa_cons (pv 1) pa_nil))))
      (C8.pss_cut (ps_if (pt_cmpR op_lt (pv 1) pe_int (nomark _)) (pss_one (ps_set (i := 2) scLowest.nd rfl (Or.inl rfl) (pe_un un_neg (pv 2)))) pss_nil)
      (pss_one (ps_ret (pe_tup (pa_cons (pe_op op_fdivZ (pv 0) (pv 2)) (pa_cons (pe_op op_fdivZ (pv 1) (pv 2)) pa_nil))))))), ?_⟩
    refine ⟨_, rfl, _, rfl, t, b, rfl, fun σ H2 => H2 = H ∧ σ = [some (.int t), some (.int b), some (.int (sg t b))], ?_, ?_⟩
    · refine ⟨_, rfl, _, _, rfl, rfl, _, rfl, ?_⟩
      refine ite2 (fun hlt => ?_) (fun hlt => ?_)
      · have h2 : b < 0 := of_decide_eq_true hlt
        refine ⟨_, rfl, _, rfl, rfl, ?_⟩
        unfold sg
        rw [if_pos h2]
        rfl
      · have h2 : ¬ b < 0 := fun z => hlt (decide_eq_true z)
        refine ⟨rfl, ?_⟩
        unfold sg
        rw [if_neg h2]
        rfl
    · rintro σ H2 ⟨rfl, rfl⟩
      refine ⟨_, rfl, _, rfl, _, _, rfl, rfl, sg_cdiv hb hz, _, rfl, _, rfl, _, _, rfl, rfl, sg_cdiv hb hz, (by show 2 ≤ sizeLine; decide), fun p np => ?_⟩
      exact q p _ (same_upd np) np upd_same
theorem scParts : FnScope ["value", "what"] ["value", "what"] (defScope sParts) := ⟨rfl, rfl, rfl, by decide +kernel, rfl, by decide +kernel, by decide +kernel⟩
theorem ok_parts {f : Addr} {fd : FuncData} (F : Fun K "parts_of" "parts_of" sParts f fd) (T : Bk mg) (Gr : Df P w K mg base "is_ratio" 2 ["value"] (spIsRatio K)) (N : Ex P w K mg base "BadNumber" CN ["what", "number"]) :
    FnOk P w K mg base (L2.CX P w) 3 f fd ["value", "what"] (spParts K CN) := by
  refine F.okX scParts (fun vs H Q E h => ?_) (fun cdv A outer s H vs Q E hr h => ?_)
  · obtain ⟨v, wv, d, rfl, _⟩ := h
    rfl
  · obtain ⟨v, wv, d, rfl, hd, q, e⟩ := h
    refine ⟨_, (pss_cons (ps_if (pt_not (pt_val (pe_call Gr.ok hr rfl Gr.m Gr.kp Gr.b .nil pass0 (pa_cons (pv 0) pa_nil))))
        (pss_one (ps_raise rfl (takes_of rfl rfl rfl rfl) (pmk_oex N.ox N.iC N.tI N.ok hr N.b .nil pass0 (by rfl) N.m (pa_cons (pv 1) (pa_cons (pv 0) pa_nil)))))
        pss_nil)
      (pss_cons (ps_if (pt_val (pe_callB call_isi (by rfl) T.isinstance (by decide +kernel) (pa_cons (pv 0) (pa_cons (pe_bltn (v := V.ty "int") (by rfl) T.int (by decide +kernel) rfl) pa_nil))))
        (pss_one (ps_ret (pe_tup (pa_cons (pv 0) (pa_cons pe_int pa_nil)))))
        pss_nil)
      (pss_one (ps_ret (pe_tup (pa_cons (pe_ix ix_seq (pv 0) pe_int (fun _ _ => rfl)) (pa_cons (pe_ix ix_seq (pv 0) pe_int (fun _ _ => rfl)) pa_nil))))))), ?_⟩
    refine ⟨_, rfl, v, d, rfl, hd, fun H1 s1 => ⟨_, rfl, ?_⟩⟩
    have hd1 := hd.mono s1
    cases hp : partsD d with
    | none =>
      refine iteT ?_
      refine ⟨_, rfl, _, rfl, (by show 2 ≤ 1000; decide), ?_⟩
      exact raise_end rfl fun dd H' s2 n e2 => (e hp).same s1 dd H' s2 n e2
    | some tb =>
      obtain ⟨t, b⟩ := tb
      refine iteF ?_
      refine ⟨_, rfl, v, .ty "int", _, .type "int", _, rfl, .ty _, hd1.ty, kit_int d, _, rfl, ?_⟩
      cases hs : seqD d with
      | none =>
        obtain ⟨i, rfl⟩ : ∃ i, d = .int i := by cases d <;> first | exact ⟨_, rfl⟩ | cases hp | cases hs
        cases hp
        cases hd1
        refine iteT ?_
        refine ⟨_, rfl, (by show 2 ≤ sizeLine; decide), fun p np => ?_⟩
        exact q _ _ rfl p _ (s1.trans (same_upd np)) upd_same
      | some ds =>
        have hi : intD d = false := by cases d <;> first | rfl | cases hs
        rw [hi]
        refine iteF ?_
        have ep : partsD d = pair? ds := by cases d <;> first | (cases hs; rfl) | cases hs
        have hp2 := hp
        rw [ep] at hp2
        obtain ⟨rfl, hb⟩ := pair_pos hp2
        obtain ⟨a, vs, rfl, hsq, hds⟩ := hd1.seq hs
        obtain ⟨x, y, rfl, hx, hy⟩ := dts2 hds
        cases hx
        cases hy
        refine ⟨_, rfl, seq_at hsq (at_of (j := 0) rfl rfl) ?_⟩
        refine ⟨_, rfl, seq_at hsq (at_of (j := 1) rfl rfl) ?_⟩
        refine ⟨(by show 2 ≤ sizeLine; decide), fun p np => ?_⟩
        exact q _ _ hp p _ (s1.trans (same_upd np)) upd_same
theorem scTold : FnScope ["value", "what", "top", "bottom"] ["value", "what"] (defScope sTold) := ⟨rfl, rfl, rfl, by decide +kernel, rfl, by decide +kernel, by decide +kernel⟩
theorem ok_told {f : Addr} {fd : FuncData} (F : Fun K "told" "told" sTold f fd) (Gp : Dx P w K mg base "parts_of" 3 ["value", "what"] (spParts K CN)) (Gl : Df P w K mg base "lowest" 1 ["top", "bottom"] spLow) :
    FnOk P w K mg base (L2.CX P w) 4 f fd ["value", "what"] (spTold K CN) := by
  refine F.okX scTold (fun vs H Q E h => ?_) (fun cdv A outer s H vs Q E hr h => ?_)
  · obtain ⟨v, wv, d, rfl, _⟩ := h
    rfl
  · obtain ⟨v, wv, d, rfl, hd, q, e⟩ := h
    refine ⟨_, (pss_cons (ps_asg (pe_call Gp.ok hr rfl Gp.m Gp.kp Gp.b .nil (E := E) (passes_call (takes_of rfl rfl rfl rfl) (fun _ _ _ _ h => h)) (pa_cons (pv 0) (pa_cons (pv 1) pa_nil))) (pg_tup (by rfl) (pgs_cons (pg_name (i := 2) scTold.nd rfl (Or.inl rfl)) (pgs_cons (pg_name (i := 3) scTold.nd rfl (Or.inl rfl)) pgs_nil))))
      (pss_one (ps_ret (pe_call Gl.ok (hr.mono (by decide)) rfl Gl.m Gl.kp Gl.b .nil pass0 (pa_cons (pv 2) (pa_cons (pv 3) pa_nil)))))), ?_⟩
    refine ⟨_, rfl, _, rfl, v, wv, d, rfl, hd, fun t b hp p H1 s1 e1 => ?_, e⟩
    obtain ⟨hz, q⟩ := q t b hp
    have hb := parts_pos hp
    refine ⟨p, _, rfl, SqT.of e1, rfl, _, _, rfl, _, _, rfl, rfl, ?_⟩
    refine ⟨_, rfl, _, rfl, t, b, rfl, by omega, hz, fun p2 H2 s2 n2 e2 => ?_⟩
    exact q p2 H2 (s1.trans s2) e2
end
end Vf
set_option maxRecDepth 100000
set_option maxHeartbeats 8000000
namespace Vf
open PySem PySem.Spec PyProof.Rows L2
/-- below 2 ^ 4300 in size -/
def Sz (z : Int) : Prop := z.natAbs < 2 ^ 4300
theorem sz_mulW {x y : Int} (h1 : Sz x) (h2 : Sz y) : CMulW x y := wide_mul h1 h2 (by decide) (by decide) (by decide)
theorem sz_mul {x y : Int} (h1 : Sz x) (h2 : Sz y) : (x * y).natAbs < 2 ^ 8600 := wide_lt h1 h2
/-- what a def of two ratios promises: of the right ones ok, of the first wrong one the error -/
def spTwo (K : PySem.W.Frag) (CN : Addr) (ok : V → Int → Int → Int → Int → Hp → VK → XK → Prop) : Sp := fun vs H Q E => ∃ (v u : V) (d e : PyData), vs = [v, u] ∧ Dt K H v d ∧ Dt K H u e ∧
  (∀ t b x c, partsD d = some (t, b) → partsD e = some (x, c) → Sz t ∧ Sz b ∧ Sz x ∧ Sz c ∧ ok u t b x c H Q E) ∧
  (partsD d = none → RaisesN CN H (.str "ratio") v E) ∧ ((partsD d).isSome = true → partsD e = none → RaisesN CN H (.str "ratio") u E)
def okLow (g : Int → Int → Int → Int → Int × Int) : V → Int → Int → Int → Int → Hp → VK → XK → Prop := fun _ t b x c H Q _ =>
  ∀ (p : Addr) (H' : Hp), Same H H' → H' p = some (.tup [.int (low (g t b x c).1 (g t b x c).2).1, .int (low (g t b x c).1 (g t b x c).2).2]) → Q (.ref p) H'
def gTimes (t b x c : Int) : Int × Int := (t * x, b * c)
def gShare (t b x c : Int) : Int × Int := (t * c, b * x)
def okShare (CN : Addr) : V → Int → Int → Int → Int → Hp → VK → XK → Prop := fun u t b x c H Q E => (x = 0 → RaisesN CN H (.str "divisor") u E) ∧ (x ≠ 0 → okLow gShare u t b x c H Q E)
section
variable {P : Program} {w : World} {K : PySem.W.Frag} {mg : Str → Option Value} {base : Heap} {CN : Addr}
abbrev sTimes : Stmt := topS 18
theorem scTimes : FnScope ["one", "other", "top", "bottom", "other_top", "other_bottom"] ["one", "other"] (defScope sTimes) := ⟨rfl, rfl, rfl, by decide +kernel, rfl, by decide +kernel, by decide +kernel⟩
theorem ok_times {f : Addr} {fd : FuncData} (F : Fun K "times" "times" sTimes f fd) (Gp : Dx P w K mg base "parts_of" 3 ["value", "what"] (spParts K CN)) (Gl : Df P w K mg base "lowest" 1 ["top", "bottom"] spLow) (N : Ex P w K mg base "BadNumber" CN ["what", "number"]) :
    FnOk P w K mg base (L2.CX P w) 4 f fd ["one", "other"] (spTwo K CN (okLow gTimes)) := by
  refine F.okX scTimes (fun vs H Q E h => ?_) (fun cdv A outer s H vs Q E hr h => ?_)
  · obtain ⟨v, u, d, e, rfl, _⟩ := h
    rfl
  · obtain ⟨v, u, d, e, rfl, hd, he', q, r1, r2⟩ := h
    refine ⟨_, (pss_cons (ps_asg (pe_call Gp.ok hr rfl Gp.m Gp.kp Gp.b .nil (E := E) (passes_call (takes_of rfl rfl rfl rfl) (fun _ _ _ _ h => h)) (pa_cons (pv 0) (pa_cons pe_str pa_nil))) (pg_tup (by rfl) (pgs_cons (pg_name (i := 2) scTimes.nd rfl (Or.inl rfl)) (pgs_cons (pg_name (i := 3) scTimes.nd rfl (Or.inl rfl)) pgs_nil))))
      (pss_cons (ps_asg (pe_call Gp.ok hr rfl Gp.m Gp.kp Gp.b .nil (E := E) (passes_call (takes_of rfl rfl rfl rfl) (fun _ _ _ _ h => h)) (pa_cons (pv 1) (pa_cons pe_str pa_nil))) (pg_tup (by rfl) (pgs_cons (pg_name (i := 4) scTimes.nd rfl (Or.inl rfl)) (pgs_cons (pg_name (i := 5) scTimes.nd rfl (Or.inl rfl)) pgs_nil))))
      (pss_one (ps_ret (pe_call Gl.ok (hr.mono (by decide)) rfl Gl.m Gl.kp Gl.b .nil pass0 (pa_cons (pe_op op_mulW (pv 2) (pv 4)) (pa_cons (pe_op op_mulW (pv 3) (pv 5)) pa_nil))))))), ?_⟩
    refine ⟨_, rfl, v, .str "ratio", d, rfl, hd, fun t b hp p H1 s1 e1 => ?_, r1⟩
    have r2 := r2 (by rw [hp]; rfl)
    have q := fun x c he => q t b x c hp he
    refine ⟨p, _, rfl, SqT.of e1, rfl, _, _, rfl, _, _, rfl, rfl, ?_⟩
    refine ⟨_, rfl, u, .str "ratio", e, rfl, he'.mono s1, fun x c he p2 H2 s2 e2 => ?_, fun z => (r2 z).same s1⟩
    refine ⟨p2, _, rfl, SqT.of e2, rfl, _, _, rfl, _, _, rfl, rfl, ?_⟩
    obtain ⟨ht, hb, hx, hc, q⟩ := q x c he
    have s12 := s1.trans s2
    refine ⟨_, rfl, _, rfl, _, _, rfl, rfl, sz_mulW ht hx, _, rfl, _, rfl, _, _, rfl, rfl, sz_mulW hb hc, _, _, rfl, by have := parts_pos hp; have := parts_pos he; exact Int.ne_of_gt (Int.mul_pos ‹_› ‹_›), Nat.lt_trans (sz_mul hb hc) (by decide +kernel), fun p H4 s4 n4 e4 => ?_⟩
    exact q p H4 (s12.trans s4) e4
abbrev sShare : Stmt := topS 19
theorem scShare : FnScope ["one", "other", "top", "bottom", "other_top", "other_bottom"] ["one", "other"] (defScope sShare) := ⟨rfl, rfl, rfl, by decide +kernel, rfl, by decide +kernel, by decide +kernel⟩
theorem ok_share {f : Addr} {fd : FuncData} (F : Fun K "share" "share" sShare f fd) (Gp : Dx P w K mg base "parts_of" 3 ["value", "what"] (spParts K CN)) (Gl : Df P w K mg base "lowest" 1 ["top", "bottom"] spLow) (N : Ex P w K mg base "BadNumber" CN ["what", "number"]) :
    FnOk P w K mg base (L2.CX P w) 4 f fd ["one", "other"] (spTwo K CN (okShare CN)) := by
  refine F.okX scShare (fun vs H Q E h => ?_) (fun cdv A outer s H vs Q E hr h => ?_)
  · obtain ⟨v, u, d, e, rfl, _⟩ := h
    rfl
  · obtain ⟨v, u, d, e, rfl, hd, he', q, r1, r2⟩ := h
    refine ⟨_, (pss_cons (ps_asg (pe_call Gp.ok hr rfl Gp.m Gp.kp Gp.b .nil (E := E) (passes_call (takes_of rfl rfl rfl rfl) (fun _ _ _ _ h => h)) (pa_cons (pv 0) (pa_cons pe_str pa_nil))) (pg_tup (by rfl) (pgs_cons (pg_name (i := 2) scShare.nd rfl (Or.inl rfl)) (pgs_cons (pg_name (i := 3) scShare.nd rfl (Or.inl rfl)) pgs_nil))))
      (pss_cons (ps_asg (pe_call Gp.ok hr rfl Gp.m Gp.kp Gp.b .nil (E := E) (passes_call (takes_of rfl rfl rfl rfl) (fun _ _ _ _ h => h)) (pa_cons (pv 1) (pa_cons pe_str pa_nil))) (pg_tup (by rfl) (pgs_cons (pg_name (i := 4) scShare.nd rfl (Or.inl rfl)) (pgs_cons (pg_name (i := 5) scShare.nd rfl (Or.inl rfl)) pgs_nil))))
      (pss_cons (ps_if (pt_cmpR op_eq (pv 4) pe_int (nomark _))
        (pss_one (ps_raise rfl (takes_of rfl rfl rfl rfl) (pmk_oex N.ox N.iC N.tI N.ok (hr.mono (by decide)) N.b .nil pass0 (by rfl) N.m (pa_cons pe_str (pa_cons (pv 1) pa_nil)))))
        pss_nil)
      (pss_one (ps_ret (pe_call Gl.ok (hr.mono (by decide)) rfl Gl.m Gl.kp Gl.b .nil pass0 (pa_cons (pe_op op_mulW (pv 2) (pv 5)) (pa_cons (pe_op op_mulW (pv 3) (pv 4)) pa_nil)))))))), ?_⟩
    refine ⟨_, rfl, v, .str "ratio", d, rfl, hd, fun t b hp p H1 s1 e1 => ?_, r1⟩
    have r2 := r2 (by rw [hp]; rfl)
    have q := fun x c he => q t b x c hp he
    refine ⟨p, _, rfl, SqT.of e1, rfl, _, _, rfl, _, _, rfl, rfl, ?_⟩
    refine ⟨_, rfl, u, .str "ratio", e, rfl, he'.mono s1, fun x c he p2 H2 s2 e2 => ?_, fun z => (r2 z).same s1⟩
    refine ⟨p2, _, rfl, SqT.of e2, rfl, _, _, rfl, _, _, rfl, rfl, ?_⟩
    obtain ⟨ht, hb, hx, hc, q⟩ := q x c he
    have s12 := s1.trans s2
    refine ⟨_, rfl, rfl, _, rfl, ?_⟩
    by_cases hx0 : x = 0
    · rw [decide_eq_true (by rw [hx0])]
      refine iteT ?_
      refine ⟨_, rfl, (by show 2 ≤ 1000; decide), ?_⟩
      exact raise_end rfl fun dd H4 s4 n4 e4 => (q.1 hx0).same s12 dd H4 s4 n4 e4
    · rw [decide_eq_false (fun z => hx0 (by have z2 := V.int.inj z; exact z2))]
      refine iteF ?_
      have hb0 := parts_pos hp
      refine ⟨_, rfl, _, rfl, _, _, rfl, rfl, sz_mulW ht hc, _, rfl, _, rfl, _, _, rfl, rfl, sz_mulW hb hx, _, _, rfl, Int.mul_ne_zero (by omega) hx0, Nat.lt_trans (sz_mul hb hx) (by decide +kernel), fun p H4 s4 n4 e4 => ?_⟩
      exact q.2 hx0 p H4 (s12.trans s4) e4
end
def spGcd : Sp := fun vs H Q _ => ∃ a b : Int, vs = [.int a, .int b] ∧ a.natAbs < 2 ^ big ∧ b.natAbs < 2 ^ big ∧ Q (.int ((Nat.gcd a.natAbs b.natAbs : Nat) : Int)) H
def spQ : Sp := fun vs H Q _ => ∃ t b : Int, vs = [.int t, .int b] ∧ b ≠ 0 ∧ t.natAbs < 2 ^ big ∧ b.natAbs < 2 ^ big ∧ ∀ (p : Addr) (H' : Hp), Same H H' → H p = none → H' p = some (.tup [.int (low t b).1, .int (low t b).2]) → Q (.ref p) H'
section
variable {P : Program} {w : World} {K : PySem.W.Frag} {mg : Str → Option Value} {base : Heap} {CN : Addr}
abbrev sLGcd : Stmt := topS 74
abbrev sLQ : Stmt := topS 75
theorem scLGcd : FnScope ["_law_one", "_law_two", "_law_lap"] ["_law_one", "_law_two"] (defScope sLGcd) := ⟨rfl, rfl, rfl, by decide +kernel, rfl, by decide +kernel, by decide +kernel⟩
theorem ok_lgcd {f : Addr} {fd : FuncData} (F : Fun K "_law_gcd" "_law_gcd" sLGcd f fd) (T : Bk mg) : FnOk P w K mg base CX0 1 f fd ["_law_one", "_law_two"] spGcd := by
  refine F.ok scLGcd (fun vs H Q E h => ?_) (fun cdv A outer s H vs Q E hr h => ?_)
  · obtain ⟨a, b, rfl, _⟩ := h
    rfl
  · obtain ⟨a, b, rfl, ha, hb, q⟩ := h
    refine ⟨_, (pss_cons (ps_par (i := 0) (j := 1) (by rfl) scLGcd.nd rfl rfl (by decide) rfl rfl (pa_cons (pe_callB call_abs (by rfl) T.abs (by decide +kernel) (pa_cons (pv 0) pa_nil)) (pa_cons (pe_callB call_abs (by rfl) T.abs (by decide +kernel) (pa_cons (pv 1) pa_nil)) pa_nil)) (by rfl))
      (pss_cons (ps_for PassesOwn.never rfl (pi_range1 (by rfl) T.range (pa_cons pe_int pa_nil)) (pg_name (i := 2) scLGcd.nd rfl (Or.inl rfl))
        (pss_cons (ps_if (pt_cmpR op_eq (pv 1) pe_int (nomark _)) (pss_one ps_break) pss_nil)
        (pss_one (ps_par (i := 0) (j := 1) (by rfl) scLGcd.nd rfl rfl (by decide) rfl rfl (pa_cons (pv 1) (pa_cons (pe_op op_mod (pe_callTy call_int1 (by rfl) T.int (by decide +kernel) (pa_cons (pv 0) pa_nil)) (pv 1)) pa_nil)) (by rfl)))))
      (pss_one (ps_ret (pv 0))))), ?_⟩
    refine ⟨_, rfl, _, rfl, _, rfl, _, rfl, _, _, rfl, ?_⟩
    refine ⟨50000, rfl, by decide, by decide, for_range (lo := 0) (n := 50000) (fun i σ H2 => H2 = H ∧ ∃ (x y : Int) (v : Option V), σ = [some (.int x), some (.int y), v] ∧ Lap (Nat.gcd a.natAbs b.natAbs) (a.natAbs * b.natAbs) i x y) ⟨rfl, _, _, none, rfl, lap0 a b⟩ ?_ ?_⟩
    · rintro i σ H2 hi ⟨rfl, x, y, v, rfl, h⟩
      refine ⟨_, rfl, rfl, _, rfl, ?_⟩
      by_cases hy : y = 0
      · rw [decide_eq_true (by rw [hy])]
        refine iteT ?_
        refine ⟨_, rfl, ?_⟩
        have e := lap_end h hy
        rw [e]
        exact q
      · rw [decide_eq_false (fun z => hy (by have z2 := V.int.inj z; exact z2))]
        refine iteF ?_
        have y0 := h.b0
        refine ⟨_, rfl, _, rfl, .inl ⟨_, rfl, _, rfl, _, _, rfl, rfl, (by show 0 < y; omega), _, _, rfl, ?_⟩⟩
        exact ⟨rfl, _, _, _, rfl, lap_next h hy⟩
    · rintro σ H2 ⟨rfl, x, y, v, rfl, h⟩
      have hP : a.natAbs * b.natAbs < 2 ^ (50000 - 1) := by
        have z : a.natAbs * b.natAbs < 2 ^ (big + big) := by
          rw [Nat.pow_add]
          exact Nat.mul_lt_mul'' ha hb
        exact Nat.lt_trans z (Nat.pow_lt_pow_right (by decide) (by decide))
      have e := lap_end h (lap_over h (by decide) hP)
      refine ⟨_, rfl, ?_⟩
      rw [e]
      exact q
theorem scLQ : FnScope ["_law_top", "_law_bottom", "_law_by"] ["_law_top", "_law_bottom"] (defScope sLQ) := ⟨rfl, rfl, rfl, by decide +kernel, rfl, by decide +kernel, by decide +kernel⟩
theorem ok_lq {f : Addr} {fd : FuncData} (F : Fun K "_law_q" "_law_q" sLQ f fd) (G : Df P w K mg base "_law_gcd" 1 ["_law_one", "_law_two"] spGcd) : FnOk P w K mg base CX0 2 f fd ["_law_top", "_law_bottom"] spQ := by
  refine F.ok scLQ (fun vs H Q E h => ?_) (fun cdv A outer s H vs Q E hr h => ?_)
  · obtain ⟨t, b, rfl, _⟩ := h
    rfl
  · obtain ⟨t, b, rfl, hb, ht, hz, q⟩ := h
    refine ⟨_, (pss_cons (ps_set (i := 2) scLQ.nd rfl (Or.inl rfl) (pe_call G.ok hr rfl G.m G.kp G.b .nil pass0 (pa_cons (pv 0) (pa_cons (pv 1) pa_nil))))
      (pss_cons (ps_set (i := 2) scLQ.nd rfl (Or.inl rfl) (pe_ifExp (pt_cmpR op_lt (pv 1) pe_int (nomark _)) (pe_un un_neg (pv 2)) (pv 2)))
      (pss_one (ps_ret (pe_tup (pa_cons (pe_op op_fdivZ (pv 0) (pv 2)) (pa_cons (pe_op op_fdivZ (pv 1) (pv 2)) pa_nil))))))), ?_⟩
    have tail : ∀ s : Int, s = sg t b → (∀ p, H p = none → Q (.ref p) (upd H p (.tup [.int (t.fdiv s), .int (b.fdiv s)]))) := fun s e p np => by
      rw [e]
      exact q p _ (same_upd np) np upd_same
    refine ⟨_, rfl, _, rfl, t, b, rfl, ht, hz, _, rfl, _, _, rfl, rfl, _, rfl, ?_⟩
    refine ite2 (fun hlt => ?_) (fun hlt => ?_)
    · have h2 : b < 0 := of_decide_eq_true hlt
      have e : -((Nat.gcd t.natAbs b.natAbs : Nat) : Int) = sg t b := by unfold sg; rw [if_pos h2]
      have c : ∀ x : Int, CDivZ x (-((Nat.gcd t.natAbs b.natAbs : Nat) : Int)) := fun x => by rw [e]; exact sg_cdiv hb hz
      exact ⟨_, rfl, _, rfl, _, rfl, _, rfl, _, _, rfl, rfl, c _, _, rfl, _, rfl, _, _, rfl, rfl, c _, (by show 2 ≤ sizeLine; decide), tail _ e⟩
    · have h2 : ¬ b < 0 := fun z => hlt (decide_eq_true z)
      have e : ((Nat.gcd t.natAbs b.natAbs : Nat) : Int) = sg t b := by unfold sg; rw [if_neg h2]
      have c : ∀ x : Int, CDivZ x ((Nat.gcd t.natAbs b.natAbs : Nat) : Int) := fun x => by rw [e]; exact sg_cdiv hb hz
      exact ⟨_, rfl, _, rfl, _, rfl, _, _, rfl, rfl, c _, _, rfl, _, rfl, _, _, rfl, rfl, c _, (by show 2 ≤ sizeLine; decide), tail _ e⟩
end
end Vf
set_option maxRecDepth 100000
set_option maxHeartbeats 4000000
namespace Vf
open PySem PySem.Spec PyProof.Rows L2
section
variable {X : Cx} {tg : Expr}
/-- a walk over a list or a tuple -/
def iSeq (K : PySem.W.Frag) (tl : TE) : TI := fun σ H R => tl σ H fun x H1 => ∃ a, x = .ref a ∧ ((∃ xs, SqL K H1 a xs ∧ R (Itl K a) H1) ∨ (∃ xs, SqT K H1 a xs ∧ R (Itt K a) H1))
theorem pi_seq {l : Expr} {tl : TE} (hl : PE X l tl) : PI X tg l (iSeq X.K tl) := by
  refine ⟨fun pins s σ H R I h => ?_⟩
  refine thn (hl.run pins s σ H _ I h) fun v s1 ⟨x, H1, I1, r1, q1⟩ => ?_
  obtain ⟨a, e, q1⟩ := q1
  subst e
  rcases q1 with ⟨xs, hq, q⟩ | ⟨xs, hq, q⟩
  · cases r1
    obtain ⟨its, rv, p, hz⟩ := I1.list hq
    refine wpAny_pyIter_list p.isList ?_
    refine ⟨s1.heap.objs.size, [s1.heap.objs.size], _, _, H1, rfl, I1.kept (t' := s1.toks) fun b o e => Heap.get?_push_of_some _ e, turn_list a _, ⟨_, Heap.get?_push_size _ rfl, rfl, rfl⟩, fun b hb => ?_, q⟩
    have e : b = s1.heap.objs.size := by simpa using hb
    subst e
    exact I1.fpOk (Nat.le_refl _) (I1.hok.fresh (Nat.le_refl _))
  · cases r1
    obtain ⟨its, rv, p, hz⟩ := I1.tuple hq
    refine wpAny_pyIter_tuple (show s1.heap.IsTuple a its.toArray from p) ?_
    refine ⟨s1.heap.objs.size, [s1.heap.objs.size], _, _, H1, rfl, I1.kept (t' := s1.toks) fun b o e => Heap.get?_push_of_some _ e, turn_tuple a _, ⟨_, Heap.get?_push_size _ rfl, rfl, rfl⟩, fun b hb => ?_, q⟩
    have e : b = s1.heap.objs.size := by simpa using hb
    subst e
    exact I1.fpOk (Nat.le_refl _) (I1.hok.fresh (Nat.le_refl _))
/-- == and != of data without dicts -/
def rEqT (K : PySem.W.Frag) : R2 := fun x y H Q => ∃ d e, Dt K H x d ∧ Dt K H y e ∧ d.plain = true ∧ e.plain = true ∧ d.depth ≤ 60 ∧ Q (.bl (PyData.eqv d e)) H
def rNeT (K : PySem.W.Frag) : R2 := fun x y H Q => ∃ d e, Dt K H x d ∧ Dt K H y e ∧ d.plain = true ∧ e.plain = true ∧ d.depth ≤ 60 ∧ Q (.bl (!PyData.eqv d e)) H
theorem op_eqT (hu : X.A.units + 64 < cLine) (m : M1 X.base) : OpR X (compareOp .Eq) (rEqT X.K) := by
  intro pins s σ H x y v u Q I rx ry h
  obtain ⟨d, e, hd, he, pd, pe, hz, q⟩ := h
  obtain ⟨as, r1, _⟩ := Dt.reads I m hd rx
  obtain ⟨bs, r2, _⟩ := Dt.reads I m he ry
  exact SeqAt.eq_plain r1 r2 pd pe (by have := Nat.min_le_left d.depth e.depth; omega) ⟨.bl _, H, I, rfl, q⟩
theorem op_neT (hu : X.A.units + 64 < cLine) (m : M1 X.base) : OpR X (compareOp .NotEq) (rNeT X.K) := by
  intro pins s σ H x y v u Q I rx ry h
  obtain ⟨d, e, hd, he, pd, pe, hz, q⟩ := h
  obtain ⟨as, r1, _⟩ := Dt.reads I m hd rx
  obtain ⟨bs, r2, _⟩ := Dt.reads I m he ry
  exact SeqAt.ne_plain r1 r2 pd pe (by have := Nat.min_le_left d.depth e.depth; omega) ⟨.bl _, H, I, rfl, q⟩
/-- x == y, x of the class at C whose own == is at g -/
def rEqO (K : PySem.W.Frag) (C : Addr) (sp : Sp) (E : XK) : R2 := fun x y H Q => ∃ a dx fs t, x = .ref a ∧ H a = some (.ins C dx fs) ∧ TyX K H y t ∧ PySem.W.notFirst K C t = true ∧ sp [x, y] H Q E
theorem op_eqO {CX : CXT} {C g : Addr} {k : Nat} {fd : FuncData} {ps : List Str} {sp : Sp} {E : XK} (hs : PySem.W.findIn X.K (.ref C) "__eq__" = some (some (.ref g))) (hf : PySem.W.isFn X.K (.ref g) = true)
    (F : FnOk X.prog X.w X.K X.mg X.base CX k g fd ps sp) (hb : Binds X.K fd ps []) (hr : Room k X.A) (hx : Passes CX X E) : OpR X (compareOp .Eq) (rEqO X.K C sp E) := by
  intro pins s σ H x y v u Q I rx ry h
  obtain ⟨a, dx, fs, t, rfl, ha, ty, hn, q⟩ := h
  cases (show v = Value.ref a from rx)
  obtain ⟨mA, O, _⟩ := ins_get I.hok ha
  obtain ⟨od, J, _⟩ := O.look
  obtain ⟨P, Z, p, _⟩ := kit_of I ry ty
  obtain ⟨m, hF⟩ := I.fr
  refine PySem.W.cmp_K (op := .Eq) (tb := t) hr.units0 hF I.ok.mod.kin J (Z.ty _ _ I.kIn p) hn hs hf ?_
  have hsp : sp ([V.ref a, y] ++ []) H Q E := q
  refine wpAny_mono (run_fn (us := [.ref a, u]) (vs := [.ref a, y]) F hr hb .nil hx I (.cons rfl (.cons ry .nil)) hsp) (fun w s' z => ?_) fun _ _ x => x
  obtain ⟨z', H', I', rz, qz⟩ := z
  exact SlX.cmpback rz ⟨z', H', I', rz, qz⟩
end
/-- what is new in the second heap -/
def nw (H H' : Hp) : Hp := fun b => match H b with
  | some _ => none
  | none => H' b
theorem nw_at {H H' : Hp} {b : Addr} {o : HO} (h : H b = none) (e : H' b = some o) : nw H H' b = some o := by
  unfold nw
  rw [h]
  exact e
theorem nw_get {H H' : Hp} {b : Addr} {o : HO} (e : nw H H' b = some o) : H b = none ∧ H' b = some o := by
  unfold nw at e
  split at e
  · cases e
  · exact ⟨by assumption, e⟩
theorem nw_sub {H H' : Hp} : Same (nw H H') H' := fun b o e => (nw_get e).2
/-- the heap without l and p -/
def fz (l p : Addr) (H : Hp) : Hp := fun b => if b = l ∨ b = p then none else H b
theorem fz_at {l p b : Addr} {H : Hp} {o : HO} (h1 : b ≠ l) (h2 : b ≠ p) (e : H b = some o) : fz l p H b = some o := by
  unfold fz
  rw [if_neg (fun z => z.elim h1 h2)]
  exact e
theorem fz_get {l p b : Addr} {H : Hp} {o : HO} (e : fz l p H b = some o) : b ≠ l ∧ b ≠ p ∧ H b = some o := by
  unfold fz at e
  by_cases h : b = l ∨ b = p
  · rw [if_pos h] at e
    cases e
  · rw [if_neg h] at e
    exact ⟨fun z => h (.inl z), fun z => h (.inr z), e⟩
theorem fz_sub {l p : Addr} {H : Hp} : Same (fz l p H) H := fun b o e => (fz_get e).2.2
theorem fz_mono {l p : Addr} {H H' : Hp} (k : ∀ b o, b ≠ l → b ≠ p → H b = some o → H' b = some o) : Same (fz l p H) (fz l p H') := fun b o e => by
  obtain ⟨h1, h2, h3⟩ := fz_get e
  exact fz_at h1 h2 (k b o h1 h2 h3)
theorem nw_fz {l p : Addr} {H H' : Hp} {o1 o2 : HO} (hl : H l = some o1) (hp : H p = some o2) : Same (nw H H') (fz l p H') := fun b o e => by
  obtain ⟨h1, h2⟩ := nw_get e
  exact fz_at (fun z => by rw [z, hl] at h1; cases h1) (fun z => by rw [z, hp] at h1; cases h1) h2
theorem some_free {p b : Addr} {H H' : Hp} {o : HO} (k : ∀ c u, c ≠ p → H c = some u → H' c = some u) (hp : H' p = some o) (n : H' b = none) : H b = none := by
  cases e : H b with
  | none => rfl
  | some u =>
    by_cases h : b = p
    · rw [h, hp] at n
      cases n
    · rw [k b u h e] at n
      cases n
def pairD (p : Int × Int) : PyData := .tuple [.int p.1, .int p.2]
/-- a row without the zeros behind -/
def strip (l : List (Int × Int)) : List (Int × Int) := (l.reverse.dropWhile fun p => p.1 == 0).reverse
theorem strip_nil : strip [] = [] := rfl
theorem strip_snoc (l : List (Int × Int)) (x : Int × Int) : strip (l ++ [x]) = if x.1 = 0 then strip l else l ++ [x] := by
  unfold strip
  rw [List.reverse_append]
  simp only [List.reverse_cons, List.reverse_nil, List.nil_append, List.singleton_append, List.dropWhile_cons, beq_iff_eq]
  split
  · rfl
  · rw [List.reverse_cons, List.reverse_reverse]
theorem snoc_ind {α : Type} {P : List α → Prop} (h0 : P []) (hs : ∀ l x, P l → P (l ++ [x])) : ∀ l, P l := fun l => by
  have h : ∀ r : List α, P r.reverse := fun r => by
    induction r with
    | nil => exact h0
    | cons x r ih => rw [List.reverse_cons]; exact hs _ _ ih
  have z := h l.reverse
  rw [List.reverse_reverse] at z
  exact z
theorem snoc_cases {α : Type} (l : List α) : l = [] ∨ ∃ r x, l = r ++ [x] := snoc_ind (P := fun l => l = [] ∨ ∃ r x, l = r ++ [x]) (.inl rfl) (fun l x _ => .inr ⟨l, x, rfl⟩) l
/-- tuples of two whole numbers each, at their addresses -/
inductive Tups (H : Hp) : List Addr → List (Int × Int) → Prop
  | nil : Tups H [] []
  | cons {a : Addr} {as : List Addr} {p : Int × Int} {ps : List (Int × Int)} : H a = some (.tup [.int p.1, .int p.2]) → Tups H as ps → Tups H (a :: as) (p :: ps)
theorem Tups.len {H : Hp} : ∀ {as : List Addr} {ps : List (Int × Int)}, Tups H as ps → as.length = ps.length
  | _, _, .nil => rfl
  | _, _, .cons _ t => congrArg (· + 1) t.len
theorem Tups.imp {H H' : Hp} (e : ∀ (a : Addr) (p : Int × Int), H a = some (.tup [.int p.1, .int p.2]) → H' a = some (.tup [.int p.1, .int p.2])) : ∀ {as : List Addr} {ps : List (Int × Int)}, Tups H as ps → Tups H' as ps
  | _, _, .nil => .nil
  | _, _, .cons h t => .cons (e _ _ h) (t.imp e)
theorem Tups.same {H H' : Hp} (e : Same H H') {as : List Addr} {ps : List (Int × Int)} (h : Tups H as ps) : Tups H' as ps := h.imp fun a p q => e _ _ q
theorem Tups.snoc {H : Hp} : ∀ {as : List Addr} {ps : List (Int × Int)} {a : Addr} {p : Int × Int}, Tups H as ps → H a = some (.tup [.int p.1, .int p.2]) → Tups H (as ++ [a]) (ps ++ [p])
  | _, _, _, _, .nil, h => .cons h .nil
  | _, _, _, _, .cons h t, h2 => .cons h (t.snoc h2)
theorem Tups.unsnoc {H : Hp} : ∀ {as : List Addr} {ps : List (Int × Int)} {p : Int × Int}, Tups H as (ps ++ [p]) → ∃ as' a, as = as' ++ [a] ∧ Tups H as' ps ∧ H a = some (.tup [.int p.1, .int p.2])
  | _, [], _, .cons h .nil => ⟨[], _, rfl, .nil, h⟩
  | _, _ :: _, _, .cons h t => by
    obtain ⟨as', a, e, t', h'⟩ := t.unsnoc
    exact ⟨_ :: as', a, by rw [e]; rfl, .cons h t', h'⟩
theorem Tups.dts {K : PySem.W.Frag} {H : Hp} : ∀ {as : List Addr} {ps : List (Int × Int)}, Tups H as ps → Dts K H (as.map V.ref) (ps.map pairD)
  | _, _, .nil => .nil
  | _, _, .cons h t => .cons (.tup (SqT.of h) (.cons (.int _) (.cons (.int _) .nil))) t.dts
theorem Tups.app {H : Hp} : ∀ {as bs : List Addr} {ps qs : List (Int × Int)}, Tups H as ps → Tups H bs qs → Tups H (as ++ bs) (ps ++ qs)
  | _, _, _, _, .nil, h => h
  | _, _, _, _, .cons a t, h => .cons a (t.app h)
theorem Tups.take {H : Hp} : ∀ {as : List Addr} {ps : List (Int × Int)} (n : Nat), Tups H as ps → Tups H (as.take n) (ps.take n)
  | _, _, 0, _ => .nil
  | _, _, _ + 1, .nil => .nil
  | _, _, n + 1, .cons a t => .cons a (t.take n)
theorem Tups.at {H : Hp} : ∀ {as : List Addr} {ps : List (Int × Int)} {i : Nat} {a : Addr}, Tups H as ps → as[i]? = some a → ∃ p, ps[i]? = some p ∧ H a = some (.tup [.int p.1, .int p.2])
  | _, _, _, _, .nil, e => by simp at e
  | _, _, 0, _, .cons h _, e => by simp at e; subst e; exact ⟨_, rfl, h⟩
  | _, _, i + 1, a, .cons _ t, e => by
    obtain ⟨d, h1, h2⟩ := t.at (i := i) (a := a) (by simpa using e)
    exact ⟨d, by simpa using h1, h2⟩
theorem eqv_pair (p q : Int × Int) : PyData.eqv (pairD p) (pairD q) = decide (p = q) := by
  obtain ⟨a, b⟩ := p
  obtain ⟨c, d⟩ := q
  unfold pairD
  simp only [PyData.eqv, PyData.eqvAll, Bool.and_true]
  by_cases h1 : a = c <;> by_cases h2 : b = d <;> simp [h1, h2]
theorem eqvAll_pairs : ∀ l r : List (Int × Int), PyData.eqvAll (l.map pairD) (r.map pairD) = decide (l = r)
  | [], [] => by simp [PyData.eqvAll]
  | [], _ :: _ => by simp [PyData.eqvAll]
  | _ :: _, [] => by simp [PyData.eqvAll]
  | p :: l, q :: r => by
    simp only [List.map_cons, PyData.eqvAll, eqv_pair, eqvAll_pairs l r]
    by_cases h1 : p = q <;> by_cases h2 : l = r <;> simp [h1, h2]
theorem eqv_row (l r : List (Int × Int)) : PyData.eqv (.tuple (l.map pairD)) (.tuple (r.map pairD)) = decide (l = r) := by
  simp only [PyData.eqv]
  exact eqvAll_pairs l r
theorem eqv_rowL (l r : List (Int × Int)) : PyData.eqv (.list (l.map pairD)) (.list (r.map pairD)) = decide (l = r) := by
  simp only [PyData.eqv]
  exact eqvAll_pairs l r
theorem plain_pairs : ∀ l : List (Int × Int), PyData.plainAll (l.map pairD) = true
  | [] => by simp only [List.map_nil, PyData.plainAll]
  | p :: l => by
    simp only [List.map_cons, PyData.plainAll, plain_pairs l, pairD, PyData.plain, Bool.and_self]
theorem plain_row (l : List (Int × Int)) : (PyData.tuple (l.map pairD)).plain = true ∧ (PyData.list (l.map pairD)).plain = true := by
  simp only [PyData.plain]
  exact ⟨plain_pairs l, plain_pairs l⟩
theorem depth_pairs : ∀ l : List (Int × Int), PyData.depthAll (l.map pairD) ≤ 1
  | [] => by simp only [List.map_nil, PyData.depthAll]; omega
  | p :: l => by
    have h := depth_pairs l
    simp only [List.map_cons, PyData.depthAll, pairD, PyData.depth]
    exact Nat.max_le.mpr ⟨by simp, h⟩
theorem depth_row (l : List (Int × Int)) : (PyData.tuple (l.map pairD)).depth ≤ 60 ∧ (PyData.list (l.map pairD)).depth ≤ 60 := by
  have h := depth_pairs l
  simp only [PyData.depth]
  omega
/-- a comprehension over a list or a tuple -/
theorem lc_seq {K : PySem.W.Frag} {a : Addr} {xs : List V} {g : TG} {tt : TT} {te : TE} {vs : List Nat} {σ : L2.St} {H1 : Hp} {Qd : Addr → Hp → Prop} (h : SqL K H1 a xs ∨ SqT K H1 a xs) (Pv : Addr → Nat → Hp → Prop)
    (h0 : ∀ D, H1 D = none → Pv D 0 (upd H1 D (.lst []))) (hl : ∀ D i H, H1 D = none → Pv D i H → (SqL K H1 a xs → SqL K H a xs) ∧ (SqT K H1 a xs → SqT K H a xs))
    (hs : ∀ D i x H, H1 D = none → xs[i]? = some x → Pv D i H → g x (wipe σ vs) H fun σ2 H2 => wipe σ2 vs = wipe σ vs ∧ tt σ2 H2 fun b H3 =>
      if b = true then te σ2 H3 fun y H4 => ∃ acc, H4 D = some (.lst acc) ∧ acc.length < sizeLine ∧ Pv D (i + 1) (upd H4 D (.lst (acc ++ [y]))) else Pv D (i + 1) H3) (hd : ∀ D H, H1 D = none → Pv D xs.length H → Qd D H) :
    (∃ xs, SqL K H1 a xs ∧ ∀ D, H1 D = none → ∃ W : Nat → Nat → Hp → Prop, (∃ m, W 0 m (upd H1 D (.lst []))) ∧ ∀ i m H, W i m H →
      (((Itl K a).stop i H ∧ Qd D H) ∨ ((Itl K a).go i H ∧ ∃ Nx : Hp → Prop, (∀ H', Nx H' → ∃ m', m' < m ∧ W (i + 1) m' H') ∧ ∀ x H', (Itl K a).yld i H x H' → g x (wipe σ vs) H' fun σ2 H2 => wipe σ2 vs = wipe σ vs ∧ tt σ2 H2 fun b H3 =>
        if b = true then te σ2 H3 fun y H4 => ∃ acc, H4 D = some (.lst acc) ∧ acc.length < sizeLine ∧ Nx (upd H4 D (.lst (acc ++ [y]))) else Nx H3))) ∨
    (∃ xs, SqT K H1 a xs ∧ ∀ D, H1 D = none → ∃ W : Nat → Nat → Hp → Prop, (∃ m, W 0 m (upd H1 D (.lst []))) ∧ ∀ i m H, W i m H →
      (((Itt K a).stop i H ∧ Qd D H) ∨ ((Itt K a).go i H ∧ ∃ Nx : Hp → Prop, (∀ H', Nx H' → ∃ m', m' < m ∧ W (i + 1) m' H') ∧ ∀ x H', (Itt K a).yld i H x H' → g x (wipe σ vs) H' fun σ2 H2 => wipe σ2 vs = wipe σ vs ∧ tt σ2 H2 fun b H3 =>
        if b = true then te σ2 H3 fun y H4 => ∃ acc, H4 D = some (.lst acc) ∧ acc.length < sizeLine ∧ Nx (upd H4 D (.lst (acc ++ [y]))) else Nx H3))) := by
  rcases h with h | h
  · exact .inl ⟨xs, h, fun D hD => lc_list (K := K) (a := a) (xs := xs) (Pv D) (h0 D hD) (fun i H _ p => (hl D i H hD p).1 h) (fun i x H hi p => hs D i x H hD hi p) (fun H p => hd D H hD p)⟩
  · exact .inr ⟨xs, h, fun D hD => lc_tup (K := K) (a := a) (xs := xs) (Pv D) (h0 D hD) (fun i H _ p => (hl D i H hD p).2 h) (fun i x H hi p => hs D i x H hD hi p) (fun H p => hd D H hD p)⟩
end Vf
set_option maxRecDepth 100000
set_option maxHeartbeats 8000000
set_option maxRecDepth 100000
set_option maxHeartbeats 8000000
namespace Vf
open PySem PySem.Spec PyProof.Rows L2
/-- below 2 ^ 1200 in size -/
def S80 (z : Int) : Prop := z.natAbs < 2 ^ 1200
theorem s80_k {t k : Int} (h : S80 t) (h0 : 0 < k) (h3 : k ≤ 3) : (t * k).natAbs < 2 ^ 1210 := by
  unfold S80 at h
  rw [Int.natAbs_mul]
  have hk : k.natAbs ≤ 3 := by omega
  have : t.natAbs * k.natAbs ≤ t.natAbs * 3 := Nat.mul_le_mul_left _ hk
  have e : (2 : Nat) ^ 1210 = 2 ^ 1200 * 1024 := by decide +kernel
  rw [e]
  omega
theorem gd_z {z : Int} (h : z.natAbs < 2 ^ 1210) : Gd (.int z) := gd_int (Nat.lt_trans h (Nat.pow_lt_pow_right (by decide) (by decide)))
theorem gd_pair {a b : Int} (ha : a.natAbs < 2 ^ 1210) (hb : b.natAbs < 2 ^ 1210) : Gd (.list [.int a, .int b]) ∧ Gd (.tuple [.int a, .int b]) := by
  have ga := gd_z ha
  have gb := gd_z hb
  have all : ∀ d ∈ [PyData.int a, PyData.int b], d = .int a ∨ d = .int b := fun d hd => by simpa using hd
  have big : ∀ {z : Int}, z.natAbs < 2 ^ 1210 → (PyData.int z).shown.length ≤ 2000 := fun {z} h => by
    simp only [PyData.shown]
    exact Nat.le_trans (int_text_len_1921 (log_small (Nat.lt_trans h (Nat.pow_lt_pow_right (by decide) (by decide))))) (by decide)
  refine gd_seq (ds := [.int a, .int b]) (n := 2) (m := 2000) (Nat.le_refl 2) (fun d hd => ?_) (fun d hd => ?_) (fun d hd => ?_) (by decide)
  · rcases all d hd with h | h <;> rw [h]
    · exact ga.sh
    · exact gb.sh
  · rcases all d hd with h | h <;> rw [h] <;> simp [PyData.depth]
  · rcases all d hd with h | h <;> rw [h]
    · exact big ha
    · exact big hb
def spPassed (K : PySem.W.Frag) : Sp := fun vs H Q _ => ∃ (p lc r : Addr) (B t b : Int), vs = [.ref p, .ref r] ∧ Pen H p lc B ∧ B ≤ 100000000 ∧ H r = some (.tup [.int t, .int b]) ∧ 0 < b ∧ S80 t ∧ S80 b ∧
  ∀ (v : V) (d : PyData) (k : Int) (H' : Hp), Pen H' p lc (B + 3) → Kp p H H' → Dt K (nw H H') v d → partsD d = some (t * k, b * k) → 0 < k → k ≤ 3 → Gd d → Q v H'
section
variable {P : Program} {w : World} {K : PySem.W.Frag} {mg : Str → Option Value} {base : Heap}
abbrev sPassed : Stmt := topS 80
theorem scPassed : FnScope ["_law_pen_here", "_law_ratio_here", "_law_by"] ["_law_pen_here", "_law_ratio_here"] (defScope sPassed) := ⟨rfl, rfl, rfl, by decide +kernel, rfl, by decide +kernel, by decide +kernel⟩
theorem ok_passed {f : Addr} {fd : FuncData} (F : Fun K "_law_passed" "_law_passed" sPassed f fd) (Gd_ : Df P w K mg base "_law_draw" 1 ["_law_pen_here", "_law_many"] spDraw) (Gp : Df P w K mg base "_law_pick" 2 ["_law_pen_here", "_law_some"] spPick) : FnOk P w K mg base CX0 3 f fd ["_law_pen_here", "_law_ratio_here"] (spPassed K) := by
  refine F.ok scPassed (fun vs H Q E h => ?_) (fun cdv A outer s H vs Q E hr h => ?_)
  · obtain ⟨p, lc, r, B, t, b, rfl, _⟩ := h
    rfl
  · obtain ⟨p, lc, r, B, t, b, rfl, hP, hB, hr0, hb, ht, hbz, q⟩ := h
    have rp : r ≠ p := by
      obtain ⟨_, _, _, _, _, g1, _⟩ := hP
      exact ne_of hr0 g1.1 (by intro z; cases z)
    refine ⟨_, (C8.pss_cut (ps_if (PW.pt (pw_and (pt_cmpR op_eq (pe_ix ix_tup (pv 1) pe_int (fun _ _ => rfl)) pe_int (nomark _)) (pw_and1 (pt_cmpR op_eq (pe_call Gd_.ok (hr.mono (by decide)) rfl Gd_.m Gd_.kp Gd_.b .nil pass0 (pa_cons (pv 0) (pa_cons pe_int pa_nil))) pe_int (nomark _)))))
        (pss_one (ps_ret (pe_ix ix_tup (pv 1) pe_int (fun _ _ => rfl))))
        pss_nil)
      (pss_cons (ps_set (i := 2) scPassed.nd rfl (Or.inl rfl) (pe_call Gp.ok hr rfl Gp.m Gp.kp Gp.b .nil pass0 (pa_cons (pv 0) (pa_cons (pe_lst (pa_cons pe_int (pa_cons pe_int (pa_cons pe_int (pa_cons pe_int pa_nil))))) pa_nil))))
      (pss_one (ps_ret (pe_call Gp.ok hr rfl Gp.m Gp.kp Gp.b .nil pass0 (pa_cons (pv 0) (pa_cons (pe_lst (pa_cons (pe_tup (pa_cons (pe_op op_mul (pe_ix ix_tup (pv 1) pe_int (fun _ _ => rfl)) (pv 2)) (pa_cons (pe_op op_mul (pe_ix ix_tup (pv 1) pe_int (fun _ _ => rfl)) (pv 2)) pa_nil))) (pa_cons (pe_lst (pa_cons (pe_op op_mul (pe_ix ix_tup (pv 1) pe_int (fun _ _ => rfl)) (pv 2)) (pa_cons (pe_op op_mul (pe_ix ix_tup (pv 1) pe_int (fun _ _ => rfl)) (pv 2)) pa_nil))) pa_nil))) pa_nil))))))), ?_⟩
    refine ⟨fun σ H2 => ∃ B1, σ = [some (.ref p), some (.ref r), none] ∧ Pen H2 p lc B1 ∧ B1 ≤ B + 1 ∧ Kp p H H2, ?_, ?_⟩
    · refine ⟨_, rfl, r, _, _, .int b, rfl, rfl, SqT.of hr0, at_of (j := 1) rfl rfl, rfl, _, rfl, ?_⟩
      by_cases hb1 : b = 1
      · rw [decide_eq_true (by rw [hb1])]
        refine iteT ?_
        refine ⟨_, rfl, p, lc, B, _, rfl, hP, by omega, by decide, by decide, fun z H1 z0 z1 hP1 k1 => ⟨rfl, _, rfl, ?_⟩⟩
        have hr1 := k1 _ _ rp hr0
        by_cases hz : z = 0
        · rw [decide_eq_true (by rw [hz])]
          refine iteT ?_
          refine ⟨_, rfl, r, _, _, .int t, rfl, rfl, SqT.of hr1, at_of (j := 0) rfl rfl, ?_⟩
          exact q (.int t) (.int t) 1 H1 (hP1.more (by omega)) k1 (.int t) (by show some (t, 1) = some (t * 1, b * 1); rw [hb1, Int.mul_one, Int.mul_one]) (by decide) (by decide) (gd_z (Nat.lt_trans ht (by decide +kernel)))
        · rw [decide_eq_false (fun h => hz (by have h2 := V.int.inj h; exact h2))]
          refine iteF ?_
          exact ⟨B + 1, rfl, hP1, Int.le_refl _, k1⟩
      · rw [decide_eq_false (fun h => hb1 (by have h2 := V.int.inj h; exact h2))]
        refine iteF ?_
        exact ⟨B, rfl, hP, by omega, Kp.refl⟩
    · rintro σ H1 ⟨B1, rfl, hP1, hB1, k1⟩
      have hr1 := k1 _ _ rp hr0
      refine ⟨_, rfl, (by show 4 ≤ sizeLine; decide), fun l nl => ?_⟩
      have el : upd H1 l (HO.lst [V.int 1, V.int 1, V.int 2, V.int 3]) l = some (HO.lst [V.int 1, V.int 1, V.int 2, V.int 3]) := upd_same
      have s1 : Same H1 (upd H1 l (HO.lst [V.int 1, V.int 1, V.int 2, V.int 3])) := same_upd nl
      have lp : l ≠ p := by
        obtain ⟨o, e⟩ := hP1.there
        exact (ne_of_none e nl).symm
      generalize upd H1 l (HO.lst [V.int 1, V.int 1, V.int 2, V.int 3]) = H2 at el s1 ⊢
      refine ⟨p, lc, l, B1, _, rfl, hP1.same s1, by omega, el, lp, (by show 0 < 4; decide), (by show 4 < 1000000; decide), fun x H3 hx hP3 k3 => ?_⟩
      obtain ⟨k, rfl, hk0, hk3⟩ : ∃ k : Int, x = .int k ∧ 0 < k ∧ k ≤ 3 := by
        simp only [List.mem_cons, List.not_mem_nil, or_false] at hx
        rcases hx with h | h | h | h
        · exact ⟨1, h, by decide, by decide⟩
        · exact ⟨1, h, by decide, by decide⟩
        · exact ⟨2, h, by decide, by decide⟩
        · exact ⟨3, h, by decide, by decide⟩
      have k13 : Kp p H H3 := (k1.trans (Kp.of s1)).trans k3
      have hr3 := k13 _ _ rp hr0
      have mk : ∀ z : Int, CMul z k := fun z => .inr ⟨by omega, by omega⟩
      refine ⟨_, rfl, _, rfl, r, _, _, .int t, rfl, rfl, SqT.of hr3, at_of (j := 0) rfl rfl, _, rfl, _, _, rfl, rfl, mk _, _, rfl, r, _, _, .int b, rfl, rfl, SqT.of hr3, at_of (j := 1) rfl rfl, _, rfl, _, _, rfl, rfl, mk _, (by show 2 ≤ sizeLine; decide), fun t1 n1 => ?_⟩
      have e1 : upd H3 t1 (HO.tup [V.int (t * k), V.int (b * k)]) t1 = some (HO.tup [V.int (t * k), V.int (b * k)]) := upd_same
      have s4 : Same H3 (upd H3 t1 (HO.tup [V.int (t * k), V.int (b * k)])) := same_upd n1
      have tp : t1 ≠ p := by
        obtain ⟨o, e⟩ := hP3.there
        exact (ne_of_none e n1).symm
      generalize upd H3 t1 (HO.tup [V.int (t * k), V.int (b * k)]) = H4 at e1 s4 ⊢
      have hP4 := hP3.same s4
      have hr4 := s4 _ _ hr3
      refine ⟨_, rfl, r, _, _, .int t, rfl, rfl, SqT.of hr4, at_of (j := 0) rfl rfl, _, rfl, _, _, rfl, rfl, mk _, _, rfl, r, _, _, .int b, rfl, rfl, SqT.of hr4, at_of (j := 1) rfl rfl, _, rfl, _, _, rfl, rfl, mk _, (by show 2 ≤ sizeLine; decide), fun l2 n2 => ?_⟩
      have e2 : upd H4 l2 (HO.lst [V.int (t * k), V.int (b * k)]) l2 = some (HO.lst [V.int (t * k), V.int (b * k)]) := upd_same
      have s5 : Same H4 (upd H4 l2 (HO.lst [V.int (t * k), V.int (b * k)])) := same_upd n2
      have l2p : l2 ≠ p := by
        obtain ⟨o, e⟩ := hP4.there
        exact (ne_of_none e n2).symm
      generalize upd H4 l2 (HO.lst [V.int (t * k), V.int (b * k)]) = H5 at e2 s5 ⊢
      have hP5 := hP4.same s5
      refine ⟨(by show 2 ≤ sizeLine; decide), fun l3 n3 => ?_⟩
      have e3 : upd H5 l3 (HO.lst [V.ref t1, V.ref l2]) l3 = some (HO.lst [V.ref t1, V.ref l2]) := upd_same
      have s6 : Same H5 (upd H5 l3 (HO.lst [V.ref t1, V.ref l2])) := same_upd n3
      have l3p : l3 ≠ p := by
        obtain ⟨o, e⟩ := hP5.there
        exact (ne_of_none e n3).symm
      generalize upd H5 l3 (HO.lst [V.ref t1, V.ref l2]) = H6 at e3 s6 ⊢
      have hP6 := hP5.same s6
      refine ⟨p, lc, l3, _, _, rfl, hP6, by omega, e3, l3p, (by show 0 < 2; decide), (by show 2 < 1000000; decide), fun x H7 hx hP7 k7 => ?_⟩
      have k17 : Kp p H H7 := ((k13.trans (Kp.of s4)).trans (Kp.of (s5.trans s6))).trans k7
      have hbk : 0 < b * k := Int.mul_pos hb hk0
      have pr : pair? [.int (t * k), .int (b * k)] = some (t * k, b * k) := by
        show (if 0 < b * k then some (t * k, b * k) else none) = some (t * k, b * k)
        rw [if_pos hbk]
      have gp := gd_pair (s80_k ht hk0 hk3) (s80_k hbz hk0 hk3)
      simp only [List.mem_cons, List.not_mem_nil, or_false] at hx
      rcases hx with h | h
      · rw [h]
        exact q _ (.tuple [.int (t * k), .int (b * k)]) k H7 (hP7.more (by omega)) k17 (.tup (SqT.of (nw_at (some_free k13 hP3.there.choose_spec n1) (k7 _ _ tp (s6 _ _ (s5 _ _ e1))))) (.cons (.int _) (.cons (.int _) .nil))) pr hk0 hk3 gp.2
      · rw [h]
        exact q _ (.list [.int (t * k), .int (b * k)]) k H7 (hP7.more (by omega)) k17 (.lst (SqL.of (nw_at (some_free k13 hP3.there.choose_spec (s4.free n2)) (k7 _ _ l2p (s6 _ _ e2)))) (.cons (.int _) (.cons (.int _) .nil))) pr hk0 hk3 gp.1
end
end Vf
set_option maxRecDepth 100000
set_option maxHeartbeats 4000000
namespace PySem.W
open PySem PySem.Spec PyProof.Rows
end PySem.W
set_option maxRecDepth 100000
set_option maxHeartbeats 4000000
namespace PySem.W
open PySem PySem.Spec PyProof.Rows
end PySem.W
set_option maxRecDepth 100000
set_option maxHeartbeats 4000000
namespace Vf
/-- a number as its pair -/
def pq (r : Rat) : Int × Int := (r.num, (r.den : Int))
theorem low_pq {t b : Int} (h : b ≠ 0) : low t b = pq (Rat.divInt t b) := by
  obtain ⟨x, y, e1, e2, hp, ho⟩ := sg_dvd (t := t) h
  have s := sg_ne (t := t) h
  have e : Rat.divInt t b = Rat.divInt x y := by
    calc Rat.divInt t b = Rat.divInt (sg t b * x) (sg t b * y) := by rw [← e1, ← e2]
      _ = Rat.divInt x y := Rat.divInt_mul_left s
  rw [low_eq h e1 e2, e]
  obtain ⟨n, rfl⟩ := Int.eq_ofNat_of_zero_le (Int.le_of_lt hp)
  have hn : n ≠ 0 := by omega
  have ho' : x.natAbs.Coprime n := ho
  have e2 : Rat.divInt x (n : Int) = ⟨x, n, hn, ho'⟩ := by
    rw [Rat.divInt_ofNat, Rat.mk_eq_mkRat]
  rw [e2]
  rfl
theorem pq_low (r : Rat) : Low (pq r).1 (pq r).2 := ⟨by have := r.den_pos; show (0 : Int) < (r.den : Int); omega, r.reduced⟩
theorem low_is_pq {p : Int × Int} (h : Low p.1 p.2) : ∃ r : Rat, p = pq r := by
  refine ⟨Rat.divInt p.1 p.2, ?_⟩
  rw [← low_pq (by have := h.pos; omega), low_id h]
theorem cast_ne {M : Int} (h : M ≠ 0) : (M : Rat) ≠ 0 := fun z => h (by exact_mod_cast z)
theorem low_mul {A M : Int} {q : Rat} (hM : M ≠ 0) (h : q * (M : Rat) = (A : Rat)) : low A M = pq q := by
  rw [low_pq hM, Rat.divInt_eq_div]
  congr 1
  rw [← h, Rat.mul_div_cancel (cast_ne hM)]
theorem low_add (a b : Rat) : low (a.num * b.den + b.num * a.den) (a.den * b.den) = pq (a + b) := by
  have h : ((a.den : Int) * (b.den : Int)) ≠ 0 := by
    have := a.den_nz
    have := b.den_nz
    exact Int.mul_ne_zero (by omega) (by omega)
  rw [low_pq h, Rat.add_def', ← Rat.divInt_ofNat]
  congr 1
theorem low_times (a b : Rat) : low (a.num * b.num) (a.den * b.den) = pq (a * b) := by
  have h : ((a.den : Int) * (b.den : Int)) ≠ 0 := by
    have := a.den_nz
    have := b.den_nz
    exact Int.mul_ne_zero (by omega) (by omega)
  rw [low_pq h, Rat.mul_def', ← Rat.divInt_ofNat]
  congr 1
/-- a number is a whole part of 1 / M, at most N of them -/
def Fr (M N : Nat) (r : Rat) : Prop := ∃ n : Int, r * (M : Rat) = (n : Rat) ∧ n.natAbs ≤ N
theorem Fr.size {M N : Nat} {r : Rat} (hM : 0 < M) (h : Fr M N r) : r.num.natAbs ≤ N ∧ r.den ≤ M := by
  obtain ⟨n, e, hn⟩ := h
  have hM' : (M : Int) ≠ 0 := by omega
  have z := low_mul (A := n) (M := (M : Int)) (q := r) hM' (by exact_mod_cast e)
  obtain ⟨s1, s2⟩ := low_size (t := n) hM'
  rw [z] at s1 s2
  have s1 : r.num.natAbs ≤ n.natAbs := s1
  have s2 : (r.den : Int).natAbs ≤ (M : Int).natAbs := s2
  omega
theorem Fr.add {M N N' : Nat} {a b : Rat} (h : Fr M N a) (h' : Fr M N' b) : Fr M (N + N') (a + b) := by
  obtain ⟨n, e, hn⟩ := h
  obtain ⟨n', e', hn'⟩ := h'
  refine ⟨n + n', ?_, by omega⟩
  rw [Rat.add_mul, e, e']
  exact_mod_cast rfl
theorem Fr.mul {M N M' N' : Nat} {a b : Rat} (h : Fr M N a) (h' : Fr M' N' b) : Fr (M * M') (N * N') (a * b) := by
  obtain ⟨n, e, hn⟩ := h
  obtain ⟨n', e', hn'⟩ := h'
  refine ⟨n * n', ?_, ?_⟩
  · have : ((M * M' : Nat) : Rat) = (M : Rat) * (M' : Rat) := by exact_mod_cast rfl
    have h2 : ((n * n' : Int) : Rat) = (n : Rat) * (n' : Rat) := by exact_mod_cast rfl
    rw [this, h2, ← e, ← e']
    grind
  · rw [Int.natAbs_mul]
    exact Nat.mul_le_mul hn hn'
theorem Fr.scale {M N : Nat} {a : Rat} (k : Nat) (h : Fr M N a) : Fr (M * k) (N * k) a := by
  obtain ⟨n, e, hn⟩ := h
  refine ⟨n * k, ?_, ?_⟩
  · have : ((M * k : Nat) : Rat) = (M : Rat) * (k : Rat) := by exact_mod_cast rfl
    have h2 : ((n * k : Int) : Rat) = (n : Rat) * (k : Rat) := by exact_mod_cast rfl
    rw [this, h2, ← e]
    grind
  · rw [Int.natAbs_mul, Int.natAbs_natCast]
    exact Nat.mul_le_mul_right _ hn
theorem Fr.zero (M N : Nat) : Fr M N 0 := ⟨0, by rw [Rat.zero_mul]; rfl, Nat.zero_le _⟩
theorem Fr.le {M N N' : Nat} {a : Rat} (h : Fr M N a) (e : N ≤ N') : Fr M N' a := by
  obtain ⟨n, e1, hn⟩ := h
  exact ⟨n, e1, by omega⟩
theorem Fr.self (r : Rat) : Fr r.den r.num.natAbs r := by
  refine ⟨r.num, ?_, Nat.le_refl _⟩
  have h : (r.den : Rat) ≠ 0 := by
    have := r.den_nz
    exact_mod_cast this
  have z : (r.num : Rat) / (r.den : Rat) = r := by
    have := Rat.num_divInt_den r
    rw [Rat.divInt_eq_div] at this
    exact_mod_cast this
  rw [← z]
  rw [z]
  have := Rat.div_mul_cancel (a := (r.num : Rat)) h
  rw [z] at this
  exact this
/-- below 2 ^ 4300 above and below -/
def Sr (r : Rat) : Prop := r.num.natAbs < 2 ^ 4300 ∧ r.den < 2 ^ 4300
theorem Fr.sr {M N : Nat} {r : Rat} (hM : 0 < M) (h : Fr M N r) (h1 : M < 2 ^ 4300) (h2 : N < 2 ^ 4300) : Sr r := by
  obtain ⟨a, b⟩ := h.size hM
  exact ⟨Nat.lt_of_le_of_lt a h2, Nat.lt_of_le_of_lt b h1⟩
def cf (l : List Rat) (i : Nat) : Rat := l.getD i 0
theorem cf_lt {l : List Rat} {i : Nat} (h : i < l.length) : cf l i = l[i] := by
  unfold cf
  rw [List.getD_eq_getElem?_getD, List.getElem?_eq_getElem h]
  rfl
theorem cf_get {l : List Rat} {i : Nat} {x : Rat} (h : l[i]? = some x) : cf l i = x := by
  unfold cf
  rw [List.getD_eq_getElem?_getD, h]
  rfl
theorem cf_ge {l : List Rat} {i : Nat} (h : l.length ≤ i) : cf l i = 0 := by
  unfold cf
  rw [List.getD_eq_getElem?_getD, List.getElem?_eq_none h]
  rfl
theorem cf_nil (i : Nat) : cf [] i = 0 := rfl
theorem cf_app {l r : List Rat} {i : Nat} : cf (l ++ r) i = if i < l.length then cf l i else cf r (i - l.length) := by
  unfold cf
  rw [List.getD_eq_getElem?_getD, List.getD_eq_getElem?_getD, List.getD_eq_getElem?_getD]
  split
  · rw [List.getElem?_append_left (by assumption)]
  · rw [List.getElem?_append_right (by omega)]
/-- a row without zeros behind -/
def stripQ (l : List Rat) : List Rat := (l.reverse.dropWhile fun r => r == 0).reverse
theorem stripQ_snoc (l : List Rat) (x : Rat) : stripQ (l ++ [x]) = if x = 0 then stripQ l else l ++ [x] := by
  unfold stripQ
  rw [List.reverse_append]
  simp only [List.reverse_cons, List.reverse_nil, List.nil_append, List.singleton_append, List.dropWhile_cons, beq_iff_eq]
  split
  · rfl
  · rw [List.reverse_cons, List.reverse_reverse]
theorem strip_map (l : List Rat) : strip (l.map pq) = (stripQ l).map pq := by
  refine snoc_ind (P := fun l => strip (l.map pq) = (stripQ l).map pq) rfl (fun l x ih => ?_) l
  rw [List.map_append, List.map_cons, List.map_nil, strip_snoc, stripQ_snoc, ih]
  have e : ((pq x).1 = 0) ↔ x = 0 := Rat.num_eq_zero
  by_cases h : x = 0
  · rw [if_pos h, if_pos (e.mpr h)]
  · rw [if_neg h, if_neg (fun z => h (e.mp z)), List.map_append]
    rfl
theorem cf_stripQ (l : List Rat) : ∀ i, cf (stripQ l) i = cf l i := by
  refine snoc_ind (P := fun l => ∀ i, cf (stripQ l) i = cf l i) (fun i => rfl) (fun l x ih i => ?_) l
  rw [stripQ_snoc]
  split
  · rename_i h
    rw [ih, cf_app, h]
    split
    · rfl
    · rename_i h2
      rw [cf_ge (by omega)]
      by_cases h3 : i - l.length = 0
      · rw [h3]; rfl
      · rw [cf_ge (show ([0] : List Rat).length ≤ i - l.length by show 1 ≤ _; omega)]
  · rfl
/-- no zero behind -/
def Stp (l : List Rat) : Prop := ∀ r x, l = r ++ [x] → x ≠ 0
theorem stripQ_stp (l : List Rat) : Stp (stripQ l) := by
  refine snoc_ind (P := fun l => Stp (stripQ l)) (fun r x h => by simp [stripQ] at h) (fun l y ih r x h => ?_) l
  rw [stripQ_snoc] at h
  split at h
  · exact ih r x h
  · have z := (List.append_inj' h rfl).2
    cases z
    assumption
theorem stripQ_id {l : List Rat} (h : Stp l) : stripQ l = l := by
  rcases snoc_cases l with e | ⟨r, x, e⟩
  · rw [e]; rfl
  · have z := h r x e
    rw [e, stripQ_snoc, if_neg z]
theorem stp_last {l : List Rat} (h : Stp l) (hl : 0 < l.length) : cf l (l.length - 1) ≠ 0 := by
  rcases snoc_cases l with e | ⟨r, x, e⟩
  · rw [e] at hl; cases hl
  · have z := h r x e
    rw [e, List.length_append]
    show cf (r ++ [x]) (r.length + 1 - 1) ≠ 0
    rw [cf_app, if_neg (by omega)]
    rw [show r.length + 1 - 1 - r.length = 0 by omega]
    exact z
theorem stp_len {a b : List Rat} (h : Stp a) (e : ∀ i, cf a i = cf b i) : a.length ≤ b.length := by
  rcases Nat.lt_or_ge b.length a.length with z | z
  · have q := stp_last h (by omega)
    rw [e, cf_ge (by omega)] at q
    exact absurd rfl q
  · exact z
theorem stp_ext {a b : List Rat} (ha : Stp a) (hb : Stp b) (e : ∀ i, cf a i = cf b i) : a = b := by
  have h1 := stp_len ha e
  have h2 := stp_len hb fun i => (e i).symm
  refine List.ext_getElem (by omega) fun i p q => ?_
  have z := e i
  rw [cf_lt p, cf_lt q] at z
  exact z
theorem stripQ_ext {a b : List Rat} (e : ∀ i, cf a i = cf b i) : stripQ a = stripQ b :=
  stp_ext (stripQ_stp a) (stripQ_stp b) fun i => by rw [cf_stripQ, cf_stripQ, e]
/-- the row of n numbers -/
def tab (n : Nat) (f : Nat → Rat) : List Rat := (List.range n).map f
theorem tab_len (n : Nat) (f : Nat → Rat) : (tab n f).length = n := by unfold tab; rw [List.length_map, List.length_range]
theorem cf_tab (n : Nat) (f : Nat → Rat) (i : Nat) : cf (tab n f) i = if i < n then f i else 0 := by
  by_cases h : i < n
  · rw [if_pos h]
    refine cf_get ?_
    unfold tab
    rw [List.getElem?_map, List.getElem?_range h]
    rfl
  · rw [if_neg h, cf_ge (by rw [tab_len]; omega)]
theorem tab_snoc (n : Nat) (f : Nat → Rat) : tab (n + 1) f = tab n f ++ [f n] := by
  unfold tab
  rw [List.range_succ, List.map_append]
  rfl
def padd (a b : List Rat) : List Rat := tab (max a.length b.length) fun i => cf a i + cf b i
theorem cf_padd (a b : List Rat) (i : Nat) : cf (padd a b) i = cf a i + cf b i := by
  unfold padd
  rw [cf_tab]
  split
  · rfl
  · rw [cf_ge (show a.length ≤ i by omega), cf_ge (show b.length ≤ i by omega), Rat.add_zero]
def pscale (a : List Rat) (c : Rat) : List Rat := a.map (· * c)
theorem cf_map {f : Rat → Rat} (hf : f 0 = 0) (a : List Rat) (i : Nat) : cf (a.map f) i = f (cf a i) := by
  by_cases h : i < a.length
  · rw [cf_lt (by rw [List.length_map]; exact h), cf_lt h, List.getElem_map]
  · rw [cf_ge (by rw [List.length_map]; omega), cf_ge (by omega), hf]
/-- sums -/
def sm (f : Nat → Rat) : Nat → Rat
  | 0 => 0
  | n + 1 => sm f n + f n
theorem sm_ext {f g : Nat → Rat} : ∀ {n : Nat}, (∀ i, i < n → f i = g i) → sm f n = sm g n
  | 0, _ => rfl
  | n + 1, h => by
    show sm f n + f n = sm g n + g n
    rw [sm_ext fun i hi => h i (by omega), h n (by omega)]
theorem sm_zero {f : Nat → Rat} : ∀ {n : Nat}, (∀ i, i < n → f i = 0) → sm f n = 0
  | 0, _ => rfl
  | n + 1, h => by
    show sm f n + f n = 0
    rw [sm_zero fun i hi => h i (by omega), h n (by omega), Rat.add_zero]
theorem sm_more {f : Nat → Rat} {n : Nat} : ∀ {m : Nat}, n ≤ m → (∀ i, n ≤ i → i < m → f i = 0) → sm f m = sm f n
  | 0, h, _ => by
    have : n = 0 := by omega
    rw [this]
  | m + 1, h, z => by
    by_cases e : n = m + 1
    · rw [e]
    · show sm f m + f m = sm f n
      rw [sm_more (m := m) (by omega) fun i h1 h2 => z i h1 (by omega), z m (by omega) (by omega), Rat.add_zero]
theorem sm_fr {f : Nat → Rat} {M N : Nat} : ∀ {n : Nat}, (∀ i, i < n → Fr M N (f i)) → Fr M (n * N) (sm f n)
  | 0, _ => Fr.zero _ _
  | n + 1, h => by
    have a := sm_fr (n := n) fun i hi => h i (by omega)
    have b := h n (by omega)
    have c := a.add b
    rw [Nat.succ_mul]
    exact c
/-- the number of a power in a product -/
def pc (a b : List Rat) (k : Nat) : Rat := sm (fun i => cf a i * cf b (k - i)) (k + 1)
def pmul (a b : List Rat) : List Rat := tab (a.length + b.length - 1) (pc a b)
theorem pc_zero {a b : List Rat} {k : Nat} (h : a.length + b.length ≤ k + 1) : pc a b k = 0 := by
  unfold pc
  refine sm_zero fun i hi => ?_
  by_cases h1 : i < a.length
  · rw [cf_ge (show b.length ≤ k - i by omega), Rat.mul_zero]
  · rw [cf_ge (show a.length ≤ i by omega), Rat.zero_mul]
theorem cf_pmul (a b : List Rat) (k : Nat) : cf (pmul a b) k = pc a b k := by
  unfold pmul
  rw [cf_tab]
  split
  · rfl
  · rw [pc_zero (by omega)]
end Vf
set_option maxRecDepth 100000
set_option maxHeartbeats 4000000
namespace Vf
open PySem PySem.Spec PyProof.Rows L2
section
variable {X : Cx} {CX : CXT} {C f g : Addr} {k : Nat} {fd : FuncData} {ps : List Str} {sp : Sp} {E : XK}
/-- the callee's answer is no mark of a missing operator -/
theorem back {pins : List (Addr × Obj)} {σ : L2.St} {Q : VK} {z : Value} {s' : Shared} (h : EP X pins σ Q z s') : PySem.W.CmpBack (EP X pins σ Q) z s' := by
  obtain ⟨z', H', I', rz, qz⟩ := h
  exact SlX.cmpback rz ⟨z', H', I', rz, qz⟩
/-- math.lcm of two whole numbers -/
def rLcm : List V → Hp → VK → Prop := fun vs H Q => ∃ a b : Int, vs = [.int a, .int b] ∧ a.natAbs < 2 ^ 8800 ∧ b.natAbs < 2 ^ 8800 ∧ Q (.int ((Nat.lcm a.natAbs b.natAbs : Nat) : Int)) H
theorem log_4000 {n : Nat} (h : n < 2 ^ 8800) : n.log2 < 8800 := by
  by_cases e : n = 0
  · rw [e]; decide
  · exact (Nat.log2_lt e).mpr h
theorem cr_lcm : CallR X (.builtin "math.lcm") rLcm := by
  intro pins s σ H vs us Q I r h
  obtain ⟨a, b, rfl, ha, hb, q⟩ := h
  obtain ⟨t, u, rfl⟩ := Vals.int2 r
  have one : Nat.lcm 1 a.natAbs = a.natAbs := Nat.lcm_one_left _
  have m1 : max 1 a.natAbs < 2 ^ 8800 := by
    have : (1 : Nat) < 2 ^ 8800 := Nat.one_lt_pow (by decide) (by decide)
    omega
  have m2 : max a.natAbs b.natAbs < 2 ^ 8800 := by omega
  have l1 := log_4000 m1
  have l2 := log_4000 m2
  have sz : ((((Nat.lcm 1 a.natAbs).lcm b.natAbs : Nat) : Int)).natAbs.log2 < bitsLine := by
    rw [one, Int.natAbs_natCast]
    have le : a.natAbs.lcm b.natAbs ≤ a.natAbs * b.natAbs := by
      rw [← Nat.gcd_mul_lcm]
      by_cases z : a.natAbs.gcd b.natAbs = 0
      · have : a.natAbs.lcm b.natAbs = 0 := by unfold Nat.lcm; rw [Nat.gcd_eq_zero_iff.mp z |>.1]; simp
        rw [this]; omega
      · exact Nat.le_mul_of_pos_left _ (by omega)
    have lt : a.natAbs.lcm b.natAbs < 2 ^ 17600 := by
      refine Nat.lt_of_le_of_lt le ?_
      rw [show (17600 : Nat) = 8800 + 8800 from rfl, Nat.pow_add]
      exact Nat.mul_lt_mul'' ha hb
    by_cases e : a.natAbs.lcm b.natAbs = 0
    · rw [e]; decide
    · exact Nat.lt_trans ((Nat.log2_lt e).mpr lt) (by decide)
  refine PySem.call_function_meets PySem.W.MGF.kind_lcm PySem.W.MGF.plain_lcm PySem.W.MGF.entry_lcm (PySem.W.MGF.args_lcm _ _) (PySem.W.mg_run_lcm a t b u (by omega) (by omega) sz).meets ?_
  rw [one]
  exact ⟨.int _, H, I.tok _, ⟨_, rfl⟩, q⟩
end
end Vf
set_option maxRecDepth 100000
set_option maxHeartbeats 4000000
namespace Vf
open PySem PySem.Spec PyProof.Rows L2
/-- a tuple that tells the number q -/
def TR (H : Hp) (r : Addr) (q : Rat) : Prop := H r = some (.tup [.int q.num, .int (q.den : Int)])
theorem TR.same {H H' : Hp} {r : Addr} {q : Rat} (h : TR H r q) (s : Same H H') : TR H' r q := s _ _ h
/-- a list of such tuples -/
def RL (H : Hp) (l : Addr) (qs : List Rat) : Prop := ∃ as, H l = some (.lst (as.map V.ref)) ∧ Tups H as (qs.map pq)
theorem RL.same {H H' : Hp} {l : Addr} {qs : List Rat} (h : RL H l qs) (s : Same H H') : RL H' l qs := by
  obtain ⟨as, e, t⟩ := h
  exact ⟨as, s _ _ e, t.same s⟩
theorem Tups.atQ {H : Hp} {as : List Addr} {qs : List Rat} {i : Nat} {a : Addr} (h : Tups H as (qs.map pq)) (e : as[i]? = some a) : ∃ q, qs[i]? = some q ∧ TR H a q := by
  obtain ⟨p, h1, h2⟩ := h.at e
  rw [List.getElem?_map] at h1
  cases hq : qs[i]? with
  | none => rw [hq] at h1; cases h1
  | some q =>
    rw [hq] at h1
    cases h1
    exact ⟨q, rfl, h2⟩
theorem Tups.lenQ {H : Hp} {as : List Addr} {qs : List Rat} (h : Tups H as (qs.map pq)) : as.length = qs.length := by
  have := h.len
  rw [List.length_map] at this
  exact this
theorem Tups.snocQ {H : Hp} {as : List Addr} {qs : List Rat} {a : Addr} {q : Rat} (h : Tups H as (qs.map pq)) (e : TR H a q) : Tups H (as ++ [a]) ((qs ++ [q]).map pq) := by
  rw [List.map_append]
  exact h.snoc e
theorem Tups.getQ {H : Hp} {as : List Addr} {qs : List Rat} {i : Nat} (h : Tups H as (qs.map pq)) (hi : i < qs.length) : ∃ a, as[i]? = some a ∧ TR H a (cf qs i) := by
  have hl := h.lenQ
  have hi' : i < as.length := by omega
  obtain ⟨q, h1, h2⟩ := h.atQ (List.getElem?_eq_getElem hi')
  refine ⟨as[i], List.getElem?_eq_getElem hi', ?_⟩
  rw [cf_get h1]
  exact h2
theorem Tups.setQ {H : Hp} : ∀ {as : List Addr} {qs : List Rat} (i : Nat) {a : Addr} {q : Rat}, Tups H as (qs.map pq) → TR H a q → Tups H (as.set i a) ((qs.set i q).map pq)
  | [], [], _, _, _, _, _ => .nil
  | _ :: _, _ :: _, 0, _, _, .cons _ t, e => .cons e t
  | _ :: _, _ :: _, i + 1, _, _, .cons h t, e => .cons h (t.setQ i e)
theorem tups_rep0 {H : Hp} {a : Addr} (h : TR H a 0) (n : Nat) : Tups H (List.replicate n a) ((List.replicate n (0 : Rat)).map pq) := by
  rw [List.map_replicate]
  exact Tups.rep' (p := pq 0) h n
where
  Tups.rep' {H : Hp} {a : Addr} {p : Int × Int} (h : H a = some (.tup [.int p.1, .int p.2])) : ∀ n : Nat, Tups H (List.replicate n a) (List.replicate n p)
    | 0 => .nil
    | n + 1 => .cons h (Tups.rep' h n)
theorem flat_repQ (n : Nat) (a : Addr) : (List.replicate n [V.ref a]).flatten = (List.replicate n a).map V.ref := by
  rw [List.flatten_replicate_singleton, List.map_replicate]
theorem cf_rep0 (n i : Nat) : cf (List.replicate n 0) i = 0 := by
  unfold cf
  rw [List.getD_eq_getElem?_getD, List.getElem?_replicate]
  split <;> rfl
theorem cf_set {l : List Rat} {i j : Nat} {x : Rat} (h : i < l.length) : cf (l.set i x) j = if j = i then x else cf l j := by
  unfold cf
  rw [List.getD_eq_getElem?_getD, List.getD_eq_getElem?_getD, List.getElem?_set]
  by_cases e : i = j
  · rw [if_pos e, if_pos e.symm, if_pos h]
    rfl
  · rw [if_neg e, if_neg (fun z => e z.symm)]
theorem big_mulW {x y : Int} (h1 : x.natAbs < 2 ^ 8700) (h2 : y.natAbs < 2 ^ 8700) : CMulW x y := wide_mul h1 h2 (by decide) (by decide) (by decide)
theorem Sr.n {q : Rat} (h : Sr q) : q.num.natAbs < 2 ^ 8700 := Nat.lt_trans h.1 (Nat.pow_lt_pow_right (by decide) (by decide))
theorem Sr.d {q : Rat} (h : Sr q) : ((q.den : Int)).natAbs < 2 ^ 8700 := by
  rw [Int.natAbs_natCast]
  exact Nat.lt_trans h.2 (Nat.pow_lt_pow_right (by decide) (by decide))
theorem pow_add2 (a b : Nat) : (2 : Nat) ^ a * 2 ^ b = 2 ^ (a + b) := (Nat.pow_add _ _ _).symm
theorem sr_sum {a b : Rat} (ha : Sr a) (hb : Sr b) : (a.num * b.den + b.num * a.den).natAbs < 2 ^ 8800 ∧ ((a.den : Int) * b.den).natAbs < 2 ^ 8800 ∧ (a.num * b.num).natAbs < 2 ^ 8800 := by
  have m : ∀ {x y : Nat}, x < 2 ^ 4300 → y < 2 ^ 4300 → x * y < 2 ^ 8600 := fun {x y} h1 h2 => by
    have := Nat.mul_lt_mul'' h1 h2
    rw [pow_add2] at this
    exact this
  have l1 : (2 : Nat) ^ 8600 + 2 ^ 8600 = 2 ^ 8601 := by rw [show (8601 : Nat) = 8600 + 1 from rfl, Nat.pow_succ]; omega
  have l2 : (2 : Nat) ^ 8601 ≤ 2 ^ 8800 := Nat.pow_le_pow_right (by decide) (by decide)
  have l3 : (2 : Nat) ^ 8600 ≤ 2 ^ 8800 := Nat.pow_le_pow_right (by decide) (by decide)
  have m1 := m ha.1 hb.2
  have m2 := m hb.1 ha.2
  have m3 := m ha.2 hb.2
  have m4 := m ha.1 hb.1
  have e1 : (a.num * b.den).natAbs = a.num.natAbs * b.den := by rw [Int.natAbs_mul, Int.natAbs_natCast]
  have e2 : (b.num * a.den).natAbs = b.num.natAbs * a.den := by rw [Int.natAbs_mul, Int.natAbs_natCast]
  refine ⟨?_, ?_, ?_⟩
  · have := Int.natAbs_add_le (a.num * b.den) (b.num * a.den)
    omega
  · rw [Int.natAbs_mul, Int.natAbs_natCast, Int.natAbs_natCast]
    omega
  · rw [Int.natAbs_mul]
    omega
end Vf
set_option maxRecDepth 100000
set_option maxHeartbeats 8000000
namespace Vf
open PySem PySem.Spec PyProof.Rows L2
section
variable {P : Program} {w : World} {K : PySem.W.Frag} {mg : Str → Option Value} {base : Heap} {CN : Addr}
abbrev sLPoly : Stmt := topS 82
/-- the law's own row without zeros behind -/
def spLPoly (K : PySem.W.Frag) : Sp := fun vs H Q _ => ∃ (a : Addr) (as : List Addr) (ps : List (Int × Int)), vs = [.ref a] ∧ SqL K H a (as.map V.ref) ∧ Tups H as ps ∧ as.length ≤ 1000 ∧
  ∀ (l : Addr) (as' : List Addr) (H' : Hp), Same H H' → H l = none → H' l = some (.lst (as'.map V.ref)) → Tups H' as' (strip ps) → Q (.ref l) H'
theorem scLPoly : FnScope ["_law_numbers", "_law_found", "_law_lap"] ["_law_numbers"] (defScope sLPoly) := ⟨rfl, rfl, rfl, by decide +kernel, rfl, by decide +kernel, by decide +kernel⟩
theorem ok_lpoly {f : Addr} {fd : FuncData} (F : Fun K "_law_poly" "_law_poly" sLPoly f fd) (T : Bk mg) (hm1 : M1 base) : FnOk P w K mg base CX0 1 f fd ["_law_numbers"] (spLPoly K) := by
  refine F.ok scLPoly (fun vs H Q E h => ?_) (fun cdv A outer s H vs Q E hr h => ?_)
  · obtain ⟨a, as, ps, rfl, _⟩ := h
    rfl
  · obtain ⟨a, as, ps, rfl, hS, hT, hz, q⟩ := h
    refine ⟨_, (pss_cons (ps_set (i := 1) scLPoly.nd rfl (Or.inl rfl) (pe_callTy call_list_of (by rfl) T.list (by decide +kernel) (pa_cons (pv 0) pa_nil)))
  (pss_cons (ps_for PassesOwn.never rfl (pi_range1 (by rfl) T.range (pa_cons (pe_callB call_len_seq (by rfl) T.len (by decide +kernel) (pa_cons (pv 0) pa_nil)) pa_nil)) (pg_name (i := 2) scLPoly.nd rfl (Or.inl rfl))
    (pss_cons (ps_if (PW.pt (pw_or (pt_cmpR (op_eqT hr.units hm1) (pv 1) (pe_lst pa_nil) (nomark _)) (pw_or1 (pt_cmpR op_ne (pe_ix ix_tup (pe_ix ix_list (pv 1) (pe_un un_neg pe_int) (fun _ _ => rfl)) pe_int (fun _ _ => rfl)) pe_int (nomark _)))))
      (pss_one ps_break)
      pss_nil)
    (pss_one (ps_expr (pe_bm0 PySem.F.plainAttrs_list PySem.F.slot_list_pop PySem.F.type_list_pop mt_pop (pv 1))))))
  (pss_one (ps_ret (pv 1))))), ?_⟩
    refine ⟨_, rfl, a, _, rfl, .inl hS, fun l nl => ?_⟩
    have el : upd H l (HO.lst (as.map V.ref)) l = some (HO.lst (as.map V.ref)) := upd_same
    have sl : Same H (upd H l (HO.lst (as.map V.ref))) := same_upd nl
    generalize upd H l (HO.lst (as.map V.ref)) = H1 at el sl ⊢
    have lm : (as.map V.ref).length = as.length := List.length_map ..
    refine ⟨_, rfl, a, _, rfl, .inl (same_sqL sl hS), _, rfl, by omega, by omega, for_range (lo := 0) (n := (((as.map V.ref).length : Nat) : Int).toNat) (fun i σ H2 => ∃ as' qs v, σ = [some (.ref a), some (.ref l), v] ∧ Same H H2 ∧ H2 l = some (.lst (as'.map V.ref)) ∧ Tups H2 as' qs ∧ strip qs = strip ps ∧ as'.length + i = as.length)
      ⟨as, ps, none, rfl, sl, el, hT.same sl, rfl, rfl⟩ ?_ ?_⟩
    · rintro i σ H2 hi ⟨as', qs, v, rfl, s2, e2, t2, hst, hn⟩
      refine ⟨_, rfl, (by show 0 ≤ sizeLine; decide), fun l0 n0 => ?_⟩
      have l0l : l0 ≠ l := (ne_of_none e2 n0).symm
      have s3 : Same H2 (upd H2 l0 (HO.lst [])) := same_upd n0
      have e0 : upd H2 l0 (HO.lst []) l0 = some (HO.lst []) := upd_same
      generalize upd H2 l0 (HO.lst []) = H3 at s3 e0 ⊢
      have e3 := s3 _ _ e2
      have t3 := t2.same s3
      refine ⟨.list (qs.map pairD), .list (([] : List (Int × Int)).map pairD), .lst (SqL.of e3) t3.dts, .lst (SqL.of e0) .nil, (plain_row _).2, (plain_row _).2, (depth_row _).2, _, rfl, ?_⟩
      rw [eqv_rowL]
      rcases snoc_cases qs with rfl | ⟨qs, y, rfl⟩
      · rw [decide_eq_true rfl]
        refine iteT ?_
        cases t3
        refine iteT ?_
        exact ⟨_, rfl, q l [] H3 (s2.trans s3) nl e3 (by rw [← hst]; exact .nil)⟩
      · rw [decide_eq_false (by simp)]
        refine iteF ?_
        obtain ⟨as2, r, rfl, t4, er⟩ := t3.unsnoc
        refine ⟨_, rfl, _, rfl, l, _, _, .ref r, rfl, rfl, SqL.of e3, (by rw [List.map_append]; exact atI_last _ _), r, _, _, .int y.1, rfl, rfl, SqT.of er, at_of (j := 0) rfl rfl, rfl, _, rfl, ?_⟩
        by_cases y0 : y.1 = 0
        · rw [decide_eq_true (by rw [y0])]
          refine iteF ?_
          refine ⟨_, rfl, .inl ⟨rfl, _, SqL.of e3⟩, l, _, .ref r, rfl, rfl, e3, (by simp), ?_⟩
          refine ⟨as2, qs, _, rfl, fun b o eb => ?_, ?_, ?_, ?_, ?_⟩
          · rw [upd_ne (ne_of_none eb nl)]
            exact s3 _ _ (s2 _ _ eb)
          · rw [upd_same, List.map_append]
            simp
          · refine t4.imp fun c p z => ?_
            rw [upd_ne (ne_of z e3 (by intro z; cases z))]
            exact z
          · rw [strip_snoc, if_pos y0] at hst
            exact hst
          · rw [List.length_append] at hn
            simp at hn
            omega
        · rw [decide_eq_false (fun z => y0 (by have z2 := V.int.inj z; exact z2))]
          refine iteT ?_
          refine ⟨_, rfl, q l (as2 ++ [r]) H3 (s2.trans s3) nl e3 ?_⟩
          rw [← hst, strip_snoc, if_neg y0]
          exact t3
    · rintro σ H2 ⟨as', qs, v, rfl, s2, e2, t2, hst, hn⟩
      have h0 : as'.length = 0 := by omega
      have h1 := t2.len
      have h2 : as' = [] := List.length_eq_zero_iff.mp h0
      have h3 : qs = [] := List.length_eq_zero_iff.mp (by omega)
      subst h2 h3
      exact ⟨_, rfl, q l [] H2 s2 nl e2 (by rw [← hst]; exact .nil)⟩
end
def spL2 (g : Rat → Rat → Rat) : Sp := fun vs H Q _ => ∃ (r1 r2 : Addr) (a b : Rat), vs = [.ref r1, .ref r2] ∧ TR H r1 a ∧ TR H r2 b ∧ Sr a ∧ Sr b ∧ ∀ (r : Addr) (H' : Hp), Same H H' → H r = none → TR H' r (g a b) → Q (.ref r) H'
def rAdd (a b : Rat) : Rat := a + b
def rMul (a b : Rat) : Rat := a * b
/-- every number is small -/
def SrL (a : List Rat) : Prop := ∀ i, Sr (cf a i)
section
variable {P : Program} {w : World} {K : PySem.W.Frag} {mg : Str → Option Value} {base : Heap} {CN : Addr}
abbrev sLPlus : Stmt := topS 76
abbrev sLTimes : Stmt := topS 78
theorem scLPlus : FnScope ["_law_one", "_law_two"] ["_law_one", "_law_two"] (defScope sLPlus) := ⟨rfl, rfl, rfl, by decide +kernel, rfl, by decide +kernel, by decide +kernel⟩
theorem den_ne (a b : Rat) : ((a.den : Int) * (b.den : Int)) ≠ 0 := by
  have h1 := a.den_nz
  have h2 := b.den_nz
  exact Int.mul_ne_zero (by omega) (by omega)
theorem ok_lplus {f : Addr} {fd : FuncData} (F : Fun K "_law_plus" "_law_plus" sLPlus f fd) (Gq : Df P w K mg base "_law_q" 2 ["_law_top", "_law_bottom"] spQ) : FnOk P w K mg base CX0 3 f fd ["_law_one", "_law_two"] (spL2 rAdd) := by
  refine F.ok scLPlus (fun vs H Q E h => ?_) (fun cdv A outer s H vs Q E hr h => ?_)
  · obtain ⟨r1, r2, a, b, rfl, _⟩ := h
    rfl
  · obtain ⟨r1, r2, a, b, rfl, h1, h2, za, zb, q⟩ := h
    refine ⟨_, (pss_one (ps_ret (pe_call Gq.ok (hr.mono (by decide)) rfl Gq.m Gq.kp Gq.b .nil pass0 (pa_cons (pe_op op_add (pe_op op_mulW (pe_ix ix_tup (pv 0) pe_int (fun _ _ => rfl)) (pe_ix ix_tup (pv 1) pe_int (fun _ _ => rfl))) (pe_op op_mulW (pe_ix ix_tup (pv 1) pe_int (fun _ _ => rfl)) (pe_ix ix_tup (pv 0) pe_int (fun _ _ => rfl)))) (pa_cons (pe_op op_mulW (pe_ix ix_tup (pv 0) pe_int (fun _ _ => rfl)) (pe_ix ix_tup (pv 1) pe_int (fun _ _ => rfl))) pa_nil))))), ?_⟩
    obtain ⟨s1, s2, s3⟩ := sr_sum za zb
    refine ⟨_, rfl, r1, _, _, .int a.num, rfl, rfl, SqT.of h1, at_of (j := 0) rfl rfl, _, rfl, r2, _, _, .int b.den, rfl, rfl, SqT.of h2, at_of (j := 1) rfl rfl, _, _, rfl, rfl, big_mulW za.n zb.d, ?_⟩
    refine ⟨_, rfl, r2, _, _, .int b.num, rfl, rfl, SqT.of h2, at_of (j := 0) rfl rfl, _, rfl, r1, _, _, .int a.den, rfl, rfl, SqT.of h1, at_of (j := 1) rfl rfl, _, _, rfl, rfl, big_mulW zb.n za.d, ?_⟩
    refine ⟨_, _, rfl, rfl, ?_⟩
    refine ⟨_, rfl, r1, _, _, .int a.den, rfl, rfl, SqT.of h1, at_of (j := 1) rfl rfl, _, rfl, r2, _, _, .int b.den, rfl, rfl, SqT.of h2, at_of (j := 1) rfl rfl, _, _, rfl, rfl, big_mulW za.d zb.d, ?_⟩
    refine ⟨_, _, rfl, den_ne a b, s1, s2, fun r H' ss nr er => ?_⟩
    rw [low_add] at er
    exact q r H' ss nr er
theorem scLTimes : FnScope ["_law_one", "_law_two"] ["_law_one", "_law_two"] (defScope sLTimes) := ⟨rfl, rfl, rfl, by decide +kernel, rfl, by decide +kernel, by decide +kernel⟩
theorem ok_ltimes {f : Addr} {fd : FuncData} (F : Fun K "_law_times" "_law_times" sLTimes f fd) (Gq : Df P w K mg base "_law_q" 2 ["_law_top", "_law_bottom"] spQ) : FnOk P w K mg base CX0 3 f fd ["_law_one", "_law_two"] (spL2 rMul) := by
  refine F.ok scLTimes (fun vs H Q E h => ?_) (fun cdv A outer s H vs Q E hr h => ?_)
  · obtain ⟨r1, r2, a, b, rfl, _⟩ := h
    rfl
  · obtain ⟨r1, r2, a, b, rfl, h1, h2, za, zb, q⟩ := h
    refine ⟨_, (pss_one (ps_ret (pe_call Gq.ok (hr.mono (by decide)) rfl Gq.m Gq.kp Gq.b .nil pass0 (pa_cons (pe_op op_mulW (pe_ix ix_tup (pv 0) pe_int (fun _ _ => rfl)) (pe_ix ix_tup (pv 1) pe_int (fun _ _ => rfl))) (pa_cons (pe_op op_mulW (pe_ix ix_tup (pv 0) pe_int (fun _ _ => rfl)) (pe_ix ix_tup (pv 1) pe_int (fun _ _ => rfl))) pa_nil))))), ?_⟩
    obtain ⟨s1, s2, s3⟩ := sr_sum za zb
    refine ⟨_, rfl, r1, _, _, .int a.num, rfl, rfl, SqT.of h1, at_of (j := 0) rfl rfl, _, rfl, r2, _, _, .int b.num, rfl, rfl, SqT.of h2, at_of (j := 0) rfl rfl, _, _, rfl, rfl, big_mulW za.n zb.n, ?_⟩
    refine ⟨_, rfl, r1, _, _, .int a.den, rfl, rfl, SqT.of h1, at_of (j := 1) rfl rfl, _, rfl, r2, _, _, .int b.den, rfl, rfl, SqT.of h2, at_of (j := 1) rfl rfl, _, _, rfl, rfl, big_mulW za.d zb.d, ?_⟩
    refine ⟨_, _, rfl, den_ne a b, s3, s2, fun r H' ss nr er => ?_⟩
    rw [low_times] at er
    exact q r H' ss nr er
end
end Vf
set_option maxRecDepth 100000
set_option maxHeartbeats 8000000
namespace Vf
open PySem PySem.Spec PyProof.Rows L2
/-- the value by Horner's steps -/
def hor (x : Rat) : List Rat → Rat
  | [] => 0
  | c :: l => hor x l * x + c
theorem hor_step {x : Rat} {a : List Rat} {j : Nat} (h : j < a.length) : hor x (a.drop (a.length - (j + 1))) = hor x (a.drop (a.length - j)) * x + cf a (a.length - 1 - j) := by
  have h1 : a.length - (j + 1) < a.length := by omega
  rw [List.drop_eq_getElem_cons h1]
  show hor x (a.drop (a.length - (j + 1) + 1)) * x + _ = _
  rw [show a.length - (j + 1) + 1 = a.length - j by omega, cf_lt (show a.length - 1 - j < a.length by omega)]
  congr 2
  omega
theorem rev_at {a : List Rat} {j : Nat} {as : List Addr} {r : Addr} (hl : as.length = a.length) (h : (as.map V.ref).reverse[j]? = some (V.ref r)) : as[a.length - 1 - j]? = some r ∧ j < a.length := by
  have hj : j < a.length := by
    have := (List.getElem?_eq_some_iff.mp h).1
    rw [List.length_reverse, List.length_map] at this
    omega
  rw [List.getElem?_reverse (by rw [List.length_map]; omega), List.length_map, List.getElem?_map, hl] at h
  refine ⟨?_, hj⟩
  cases e : as[a.length - 1 - j]? with
  | none => rw [e] at h; cases h
  | some r' =>
    rw [e] at h
    cases h
    rfl
theorem fr_hor {M N B L W j : Nat} {y x c : Rat} (hB : B ≤ W) (hL : L ≤ W) (hy : Fr (M * B ^ j) (N * (j * W ^ j)) y) (hx : Fr B L x) (hc : Fr M N c) : Fr (M * B ^ (j + 1)) (N * ((j + 1) * W ^ (j + 1))) (y * x + c) := by
  have h1 := hy.mul hx
  have h2 := hc.scale (B ^ (j + 1))
  rw [Nat.mul_assoc, ← Nat.pow_succ] at h1
  refine (h1.add h2).le ?_
  have e1 : N * (j * W ^ j) * L ≤ N * (j * W ^ (j + 1)) := by
    rw [Nat.mul_assoc, Nat.mul_assoc, Nat.pow_succ]
    exact Nat.mul_le_mul_left _ (Nat.mul_le_mul_left _ (Nat.mul_le_mul_left _ hL))
  have e2 : N * B ^ (j + 1) ≤ N * W ^ (j + 1) := Nat.mul_le_mul_left _ (Nat.pow_le_pow_left hB _)
  have e3 : N * ((j + 1) * W ^ (j + 1)) = N * (j * W ^ (j + 1)) + N * W ^ (j + 1) := by rw [Nat.succ_mul, Nat.mul_add]
  omega
def spLPA : Sp := fun vs H Q _ => ∃ (l1 r : Addr) (a : List Rat) (x : Rat) (M N B L W : Nat), vs = [.ref l1, .ref r] ∧ RL H l1 a ∧ TR H r x ∧ (∀ i, Fr M N (cf a i)) ∧ Fr B L x ∧ 0 < M ∧ 0 < B ∧ B ≤ W ∧ L ≤ W ∧
  M * W ^ (a.length + 1) < 2 ^ 4300 ∧ N * ((a.length + 1) * W ^ (a.length + 1)) < 2 ^ 4300 ∧ L < 2 ^ 4300 ∧ ∀ (r' : Addr) (H' : Hp), Same H H' → TR H' r' (hor x a) → Q (.ref r') H'
def pslope (a : List Rat) : List Rat := tab (a.length - 1) fun j => cf a (j + 1) * ((j + 1 : Nat) : Rat)
section
variable {P : Program} {w : World} {K : PySem.W.Frag} {mg : Str → Option Value} {base : Heap} {CN : Addr}
abbrev sLPAt : Stmt := topS 84
theorem pow_le_W {B W j n : Nat} (hB : B ≤ W) (h0 : 0 < B) (hj : j ≤ n) : B ^ j ≤ W ^ n := Nat.le_trans (Nat.pow_le_pow_left hB j) (Nat.pow_le_pow_right (by omega) hj)
theorem scLPAt : FnScope ["_law_one", "_law_point", "_law_total", "_law_number"] ["_law_one", "_law_point"] (defScope sLPAt) := ⟨rfl, rfl, rfl, by decide +kernel, rfl, by decide +kernel, by decide +kernel⟩
theorem ok_lpat {f : Addr} {fd : FuncData} (F : Fun K "_law_p_at" "_law_p_at" sLPAt f fd) (Gplus : Df P w K mg base "_law_plus" 3 ["_law_one", "_law_two"] (spL2 rAdd)) (Gtimes : Df P w K mg base "_law_times" 3 ["_law_one", "_law_two"] (spL2 rMul)) :
    FnOk P w K mg base CX0 4 f fd ["_law_one", "_law_point"] spLPA := by
  refine F.ok scLPAt (fun vs H Q E h => ?_) (fun cdv A outer s H vs Q E hr h => ?_)
  · obtain ⟨l1, r, a, x, M, N, B, L, W, rfl, _⟩ := h
    rfl
  · obtain ⟨l1, r, a, x, M, N, B, L, W, rfl, ⟨as, e1, t1⟩, rx, fa, fx, hM, hB0, hB, hL, z1, z2, z3, q⟩ := h
    refine ⟨_, (pss_cons (ps_set (i := 2) scLPAt.nd rfl (Or.inl rfl) (pe_tup (pa_cons pe_int (pa_cons pe_int pa_nil))))
  (pss_cons (ps_for PassesOwn.never rfl (pi_list (pe_revL (pv 0))) (pg_name (i := 3) scLPAt.nd rfl (Or.inl rfl))
    (pss_one (ps_set (i := 2) scLPAt.nd rfl (Or.inl rfl) (pe_call Gplus.ok (hr.mono (by decide)) rfl Gplus.m Gplus.kp Gplus.b .nil pass0 (pa_cons (pe_call Gtimes.ok (hr.mono (by decide)) rfl Gtimes.m Gtimes.kp Gtimes.b .nil pass0 (pa_cons (pv 2) (pa_cons (pv 1) pa_nil))) (pa_cons (pv 3) pa_nil))))))
  (pss_one (ps_ret (pv 2))))), ?_⟩
    have n1 := t1.lenQ
    refine ⟨(by show 2 ≤ sizeLine; decide), fun t0 nt0 => ?_⟩
    have et0 : upd H t0 (HO.tup [V.int 0, V.int 1]) t0 = some (HO.tup [V.int 0, V.int 1]) := upd_same
    have s1 : Same H (upd H t0 (HO.tup [V.int 0, V.int 1])) := same_upd nt0
    generalize upd H t0 (HO.tup [V.int 0, V.int 1]) = H1 at et0 s1 ⊢
    refine ⟨_, rfl, l1, _, rfl, SqL.of (s1 _ _ e1), fun lr nlr => ?_⟩
    have elr : upd H1 lr (HO.lst (as.map V.ref).reverse) lr = some (HO.lst (as.map V.ref).reverse) := upd_same
    have s2 : Same H1 (upd H1 lr (HO.lst (as.map V.ref).reverse)) := same_upd nlr
    generalize upd H1 lr (HO.lst (as.map V.ref).reverse) = H2 at elr s2 ⊢
    have s12 := s1.trans s2
    have frj : ∀ j, j ≤ a.length → Fr (M * B ^ j) (N * (j * W ^ j)) (hor x (a.drop (a.length - j))) := fun j => by
      induction j with
      | zero =>
        intro _
        rw [Nat.sub_zero, List.drop_length]
        exact Fr.zero _ _
      | succ j ih =>
        intro hj
        rw [hor_step (by omega)]
        exact fr_hor hB hL (ih (by omega)) fx (fa _)
    have bM : ∀ j, j ≤ a.length + 1 → M * B ^ j < 2 ^ 4300 := fun j hj => Nat.lt_of_le_of_lt (Nat.mul_le_mul_left _ (pow_le_W hB hB0 hj)) z1
    have W0 : 0 < W := by omega
    have bN : ∀ j, j ≤ a.length + 1 → N * (j * W ^ j) < 2 ^ 4300 := fun j hj => Nat.lt_of_le_of_lt (Nat.mul_le_mul_left _ (Nat.mul_le_mul hj (Nat.pow_le_pow_right W0 hj))) z2
    have sx : Sr x := fx.sr hB0 (by
      have h1 := bM 1 (by omega)
      rw [Nat.pow_one] at h1
      have := Nat.le_mul_of_pos_left B hM
      omega) z3
    have sa : SrL a := fun i => (fa i).sr hM (by have h1 := bM 0 (by omega); rw [Nat.pow_zero, Nat.mul_one] at h1; exact h1) (by
      have h1 : N * 1 ≤ N * ((a.length + 1) * W ^ (a.length + 1)) := Nat.mul_le_mul_left _ (Nat.mul_pos (by omega) (Nat.pow_pos W0))
      omega)
    have bNL : ∀ j, j ≤ a.length → N * (j * W ^ j) * L < 2 ^ 4300 := fun j hj => by
      have e1 : N * (j * W ^ j) * L ≤ N * ((a.length + 1) * W ^ (a.length + 1)) := by
        rw [Nat.mul_assoc, Nat.mul_assoc]
        refine Nat.mul_le_mul_left _ (Nat.mul_le_mul (by omega) ?_)
        have : W ^ j * L ≤ W ^ j * W := Nat.mul_le_mul_left _ hL
        rw [← Nat.pow_succ] at this
        exact Nat.le_trans this (Nat.pow_le_pow_right W0 (by omega))
      omega
    refine ⟨lr, rfl, ⟨_, SqL.of elr⟩, for_list (K := K) (a := lr) (xs := (as.map V.ref).reverse) (fun j σ H' => ∃ r2 v3, σ = [some (.ref l1), some (.ref r), some (.ref r2), v3] ∧ Same H2 H' ∧ TR H' r2 (hor x (a.drop (a.length - j)))) ⟨t0, none, rfl, Same.refl _, ?_⟩ (fun j σ H' _ ⟨_, _, _, ss, _⟩ => SqL.of (ss _ _ elr)) ?_ ?_⟩
    · rw [Nat.sub_zero, List.drop_length]
      exact s2 _ _ et0
    · rintro j y σ H3 hj ⟨r2, v3, rfl, s3, t3⟩
      obtain ⟨ry, rfl⟩ : ∃ ry, y = V.ref ry := by
        obtain ⟨b, hb, e⟩ := List.mem_map.mp (List.mem_reverse.mp (List.mem_of_getElem? hj))
        exact ⟨b, e.symm⟩
      obtain ⟨g1, hjl⟩ := rev_at n1 hj
      obtain ⟨qy, g2, g3⟩ := t1.atQ g1
      have cy : qy = cf a (a.length - 1 - j) := (cf_get g2).symm
      have hf := frj j (by omega)
      refine ⟨_, rfl, _, rfl, r2, r, _, x, rfl, t3, rx.same (s12.trans s3), hf.sr (Nat.mul_pos hM (Nat.pow_pos hB0)) (bM j (by omega)) (bN j (by omega)), sx, fun r4 H4 s4 nr4 er4 => ?_⟩
      have hfm := hf.mul fx
      refine ⟨_, rfl, r4, ry, _, qy, rfl, er4, g3.same (s12.trans (s3.trans s4)), hfm.sr (Nat.mul_pos (Nat.mul_pos hM (Nat.pow_pos hB0)) hB0) (by rw [Nat.mul_assoc, ← Nat.pow_succ]; exact bM (j + 1) (by omega)) (bNL j (by omega)), (by rw [cy]; exact sa _), fun r5 H5 s5 nr5 er5 => ?_⟩
      refine ⟨r5, _, rfl, s3.trans (s4.trans s5), ?_⟩
      rw [hor_step hjl, ← cy]
      exact er5
    · rintro σ H3 ⟨r2, v3, rfl, s3, t3⟩
      refine ⟨_, rfl, q r2 H3 (s12.trans s3) ?_⟩
      rw [List.length_reverse, List.length_map, n1, Nat.sub_self, List.drop_zero] at t3
      exact t3
end
end Vf
set_option maxRecDepth 100000
set_option maxHeartbeats 8000000
namespace Vf
open PySem PySem.Spec PyProof.Rows L2
/-- the class, as the written part tells it -/
structure PoC (K : PySem.W.Frag) (mg : Str → Option Value) (CP : Addr) : Prop where
  m : mg "Poly" = some (.ref CP)
  cl : Cls K CP
  nf : NoAttr K CP "numbers"
  ca : PySem.W.findIn K (.ref CP) "__class__" = some (some (.builtin "object.__class__"))
  cn : PySem.W.specialIn K (.builtin "object.__class__") "__get__" = some (some (.builtin "getset_descriptor.__get__"))
  ct : PySem.W.takesIn K (.builtin "object.__class__") = some true
  cm : PySem.W.mroIn K CP (.type "object") = some true
  no : ∀ d : PyData, PySem.W.kitOne K (.type (tyD d)) (.ref CP) = some false
  fs : PySem.W.notFirst K CP (.ref CP) = true
  fd : ∀ d : PyData, PySem.W.notFirst K CP (.type (tyD d)) = true
theorem PoC.io {K : PySem.W.Frag} {mg : Str → Option Value} {CP : Addr} (_ : PoC K mg CP) : PySem.W.kitOne K (.ref CP) (.ref CP) = some true := by
  unfold PySem.W.kitOne
  rw [if_pos (by simp)]
/-- a polynomial with these numbers stands at a -/
def PolyAt (K : PySem.W.Frag) (CP : Addr) (H : Hp) (a : Addr) (rs : List (Int × Int)) : Prop := ∃ dx q as, H a = some (.ins CP dx [("numbers", .ref q)]) ∧ H q = some (.tup (as.map V.ref)) ∧ Tups H as rs
theorem PolyAt.imp {K : PySem.W.Frag} {CP : Addr} {H H' : Hp} {a : Addr} {rs : List (Int × Int)} (h : PolyAt K CP H a rs) (e : ∀ b o, H b = some o → ((∃ fs dx, o = .ins CP dx fs) ∨ ∃ xs, o = .tup xs) → H' b = some o) : PolyAt K CP H' a rs := by
  obtain ⟨dx, q, as, h1, h2, h3⟩ := h
  exact ⟨dx, q, as, e _ _ h1 (.inl ⟨_, _, rfl⟩), e _ _ h2 (.inr ⟨_, rfl⟩), h3.imp fun a p z => e _ _ z (.inr ⟨_, rfl⟩)⟩
theorem PolyAt.same {K : PySem.W.Frag} {CP : Addr} {H H' : Hp} {a : Addr} {rs : List (Int × Int)} (h : PolyAt K CP H a rs) (s : Same H H') : PolyAt K CP H' a rs := h.imp fun b o e _ => s b o e
theorem PolyAt.n {K : PySem.W.Frag} {CP : Addr} {H H' : Hp} {a : Addr} {rs : List (Int × Int)} (h : PolyAt K CP H a rs) (s : LamX.ExtN H H') : PolyAt K CP H' a rs := h.imp fun b o e t => s b o e (fun ps z => by
  rcases t with ⟨_, _, t⟩ | ⟨_, t⟩ <;> rw [t] at z <;> cases z)
theorem PolyAt.kp {K : PySem.W.Frag} {CP : Addr} {H H' : Hp} {a p l : Addr} {B : Int} {rs : List (Int × Int)} (h : PolyAt K CP H a rs) (hP : Pen H p l B) (s : Kp p H H') : PolyAt K CP H' a rs := by
  obtain ⟨ns, a0, d0, c0, f0, g1, _⟩ := hP
  refine h.imp fun b o e t => s b o (fun z => ?_) e
  rw [z, g1.1] at e
  cases e
  rcases t with ⟨_, _, t⟩ | ⟨_, t⟩ <;> cases t
theorem PolyAt.ty {K : PySem.W.Frag} {mg : Str → Option Value} {CP : Addr} {H : Hp} {a : Addr} {rs : List (Int × Int)} (C : PoC K mg CP) (h : PolyAt K CP H a rs) : TyX K H (.ref a) (.ref CP) := by
  obtain ⟨dx, q, as, h1, _⟩ := h
  exact .base (.ins h1 C.cl C.ca C.cn C.ct C.cm)
/-- a row of ratios, as data -/
def rowD : PyData → Option (List (Int × Int))
  | .list ds => ds.mapM partsD
  | .tuple ds => ds.mapM partsD
  | _ => none
theorem rowD_seq {d : PyData} {ds : List PyData} (h : seqD d = some ds) : rowD d = ds.mapM partsD := by
  cases d <;> first | (cases h; rfl) | cases h
theorem rowD_none {d : PyData} (h : seqD d = none) : rowD d = none := by
  cases d <;> first | rfl | cases h
theorem mapM_some : ∀ {ds : List PyData} {ps : List (Int × Int)}, ds.mapM partsD = some ps → ds.length = ps.length ∧ ∀ (i : Nat) (d : PyData), ds[i]? = some d → ∃ p, ps[i]? = some p ∧ partsD d = some p
  | [], ps, h => by
    rw [List.mapM_nil] at h
    cases h
    exact ⟨rfl, fun i d e => by simp at e⟩
  | d0 :: ds, ps, h => by
    rw [List.mapM_cons] at h
    cases e0 : partsD d0 with
    | none => rw [e0] at h; cases h
    | some p0 =>
      rw [e0] at h
      cases e1 : ds.mapM partsD with
      | none => rw [e1] at h; cases h
      | some ps1 =>
        rw [e1] at h
        cases h
        obtain ⟨h1, h2⟩ := mapM_some e1
        refine ⟨by simp [h1], fun i d e => ?_⟩
        cases i with
        | zero =>
          simp at e
          subst e
          exact ⟨p0, rfl, e0⟩
        | succ i => simpa using h2 i d (by simpa using e)
theorem mapM_all : ∀ ds : List PyData, (ds.map fun d => (partsD d).isSome).all id = (ds.mapM partsD).isSome
  | [] => by rw [List.mapM_nil]; rfl
  | d :: ds => by
    rw [List.mapM_cons, List.map_cons, List.all_cons, mapM_all ds]
    cases partsD d with
    | none => rfl
    | some p =>
      cases ds.mapM partsD <;> rfl
def spIsRow (K : PySem.W.Frag) : Sp := fun vs H Q _ => ∃ (v : V) (d : PyData), vs = [v] ∧ Dt K H v d ∧ (∀ ds, seqD d = some ds → ds.length ≤ 1000) ∧ ∀ H', Same H H' → Q (.bl (rowD d).isSome) H'
/-- an error of BadRow -/
def RaisesR (CR : Addr) (H : Hp) (v : V) (E : XK) : Prop := ∀ (d : Addr) (H' : Hp), Same H H' → H d = none → H' d = some (.xd (fl ["row"] [v])) → E (.ref CR) (some d) H'
theorem RaisesR.same {CR : Addr} {H H1 : Hp} {v : V} {E : XK} (s : Same H H1) (h : RaisesR CR H v E) : RaisesR CR H1 v E := fun d H' s' n e => h d H' (s.trans s') (s.free n) e
/-- the numbers of a row, in lowest terms -/
def lowP (p : Int × Int) : Int × Int := low p.1 p.2
/-- a Poly is made of a value -/
def spPolyI (K : PySem.W.Frag) (CP CR : Addr) : Sp := fun vs H Q E => ∃ (x dx : Addr) (v : V) (d : PyData), vs = [.ref x, v] ∧ H x = some (.ins CP dx []) ∧ Dt K H v d ∧ (∀ ds, seqD d = some ds → ds.length ≤ 1000) ∧
  (∀ ps, rowD d = some ps → (∀ p ∈ ps, p.2.natAbs < 2 ^ big) ∧ ∀ H', Kp x H H' → PolyAt K CP H' x (strip (ps.map lowP)) → Q .non H') ∧ (rowD d = none → RaisesR CR H v E)
/-- what the call Poly(v) comes to -/
theorem poly_made {K : PySem.W.Frag} {CP CR : Addr} {H : Hp} {v : V} {d : PyData} {Qd : Addr → Hp → Prop} {E : XK} (hd : Dt K H v d) (hl : ∀ ds, seqD d = some ds → ds.length ≤ 1000)
    (k : ∀ ps, rowD d = some ps → (∀ p ∈ ps, p.2.natAbs < 2 ^ big) ∧ ∀ (x : Addr) (H' : Hp), Same H H' → H x = none → PolyAt K CP H' x (strip (ps.map lowP)) → Qd x H') (r : rowD d = none → RaisesR CR H v E) :
    ∀ x dx, H x = none → H dx = none → dx ≠ x → spPolyI K CP CR (.ref x :: ([v] ++ [])) (upd (upd H dx (.own x)) x (.ins CP dx [])) (fun w H2 => w = .non ∧ Qd x H2) E := by
  intro x dx nx nd ne
  have s1 : Same H (upd (upd H dx (.own x)) x (.ins CP dx [])) := (same_upd nd).trans (same_upd (by rw [upd_ne (Ne.symm ne)]; exact nx))
  refine ⟨x, dx, v, d, rfl, upd_same, hd.mono s1, hl, fun ps hp => ?_, fun hn => (r hn).same s1⟩
  obtain ⟨k1, k2⟩ := k ps hp
  refine ⟨k1, fun H' kp hP => ⟨rfl, k2 x H' (fun b o e => kp b o (ne_of_none e nx) (s1 _ _ e)) nx hP⟩⟩
section
variable {P : Program} {w : World} {K : PySem.W.Frag} {mg : Str → Option Value} {base : Heap} {CP CR CN : Addr}
abbrev sIsRow : Stmt := topS 13
abbrev sPolyI : Stmt := inClass (topS 40) 0
abbrev sPolyE : Stmt := inClass (topS 40) 1
abbrev sPolyD : Stmt := inClass (topS 40) 9
theorem scIsRow : FnScope ["value", "item"] ["value"] (defScope sIsRow) := ⟨rfl, rfl, rfl, by decide +kernel, rfl, by decide +kernel, by decide +kernel⟩
theorem map_take_snoc {α β : Type} {l : List α} {f : α → β} {i : Nat} {x : α} (h : l[i]? = some x) : (l.take i).map f ++ [f x] = (l.take (i + 1)).map f := by
  rw [List.take_succ, h, List.map_append]
  rfl
theorem ok_is_row {f : Addr} {fd : FuncData} (F : Fun K "is_ratio_row" "is_ratio_row" sIsRow f fd) (T : Bk mg) (hall : mg "all" = none) (Gr : Df P w K mg base "is_ratio" 2 ["value"] (spIsRatio K)) : FnOk P w K mg base CX0 3 f fd ["value"] (spIsRow K) := by
  refine F.ok scIsRow (fun vs H Q E h => ?_) (fun cdv A outer s H vs Q E hr h => ?_)
  · obtain ⟨v, d, rfl, _⟩ := h
    rfl
  · obtain ⟨v, d, rfl, hd, hlen, q⟩ := h
    refine ⟨_, (pss_one (ps_ret (pe_and (pe_callB call_isiT (by rfl) T.isinstance (by decide +kernel) (pa_cons (pv 0) (pa_cons (pe_tup (pa_cons (pe_bltn (v := V.ty "tuple") (by rfl) T.tuple (by decide +kernel) rfl) (pa_cons (pe_bltn (v := V.ty "list") (by rfl) T.list (by decide +kernel) rfl) pa_nil))) pa_nil)))
      (pe_one (pe_callB (cr_all rfl) (by rfl) hall (by decide +kernel) (pa_cons (pe_lc (own := [("item", 1)]) (g := gName 1) (tt := tYes) rfl scIsRow.nd (pi_seq (pv 0)) (blkOk_by (N := ["value", "item"]) (sc := defScope sIsRow) (by decide +kernel)) (fun _ _ _ _ _ => pg_name (i := 1) scIsRow.nd rfl (Or.inl rfl)) (fun _ _ _ _ _ => pts_nil)
        (fun _ _ _ _ _ => pe_call Gr.ok hr rfl Gr.m Gr.kp Gr.b .nil pass0 (pa_cons (pv 1) pa_nil))) pa_nil)))))), ?_⟩
    refine ⟨_, rfl, (by show 2 ≤ sizeLine; decide), fun tp ntp => ?_⟩
    have s1 : Same H (upd H tp (HO.tup [V.ty "tuple", V.ty "list"])) := same_upd ntp
    have e1 : upd H tp (HO.tup [V.ty "tuple", V.ty "list"]) tp = some (HO.tup [V.ty "tuple", V.ty "list"]) := upd_same
    generalize upd H tp (HO.tup [V.ty "tuple", V.ty "list"]) = H1 at s1 e1 ⊢
    have hd1 := hd.mono s1
    refine ⟨v, tp, _, _, [.type "tuple", .type "list"], _, rfl, e1, .cons (.ty _) (.cons (.ty _) .nil), hd1.ty, kit_seq d, _, rfl, ?_⟩
    cases hs : seqD d with
    | none =>
      refine iteF ?_
      have z := q H1 s1
      rw [rowD_none hs] at z
      exact z
    | some ds =>
      refine iteT ?_
      obtain ⟨a, xs, rfl, hsq, hds⟩ := hd1.seq hs
      have hl := hds.len
      have hl2 := hlen ds hs
      refine ⟨_, rfl, a, rfl, lc_seq (xs := xs) hsq (fun D i H2 => Same H1 H2 ∧ H2 D = some (.lst ((ds.take i).map fun d => V.bl (partsD d).isSome))) ?_ ?_ ?_ ?_⟩
      · intro D hD
        exact ⟨same_upd hD, upd_same⟩
      · intro D i H2 hD ⟨s2, _⟩
        exact ⟨same_sqL s2, same_sqT s2⟩
      · intro D i x H2 hD hi ⟨s2, e2⟩
        obtain ⟨di, h1, h2⟩ := hds.at hi
        refine ⟨rfl, ?_⟩
        refine ⟨_, rfl, x, di, rfl, h2.mono s2, fun H3 s3 => ?_⟩
        refine ⟨_, s3 _ _ e2, ?_, (fun b o e => ?_), ?_⟩
        · rw [List.length_map, List.length_take, sizeLine_eq]
          omega
        · rw [upd_ne (ne_of_none e hD)]
          exact s3 _ _ (s2 _ _ e)
        · rw [upd_same, map_take_snoc h1]
      · intro D H2 hD ⟨s2, e2⟩
        refine ⟨D, ds.map fun d => (partsD d).isSome, rfl, ?_, ?_⟩
        · rw [List.map_map]
          refine SqL.of ?_
          rw [e2, hl, List.take_length]
          rfl
        · rw [mapM_all]
          have z := q H2 (s1.trans s2)
          rw [rowD_seq hs] at z
          exact z
theorem scPolyI : FnScope ["self", "numbers", "row", "number"] ["self", "numbers"] (defScope sPolyI) := ⟨rfl, rfl, rfl, by decide +kernel, rfl, by decide +kernel, by decide +kernel⟩
theorem ok_poly_init {f : Addr} {fd : FuncData} (F : Fun K "__init__" "Poly.__init__" sPolyI f fd) (T : Bk mg) (C : PoC K mg CP) (N : Ex P w K mg base "BadRow" CR ["row"]) (Gi : Df P w K mg base "is_ratio_row" 3 ["value"] (spIsRow K)) (Gt : Dx P w K mg base "told" 4 ["value", "what"] (spTold K CN)) :
    FnOk P w K mg base (L2.CX P w) 5 f fd ["self", "numbers"] (spPolyI K CP CR) := by
  refine F.okX scPolyI (fun vs H Q E h => ?_) (fun cdv A outer s H vs Q E hr h => ?_)
  · obtain ⟨x, dx, v, d, rfl, _⟩ := h
    rfl
  · obtain ⟨x, dx, v, d, rfl, hx, hd, hlen, q, e⟩ := h
    refine ⟨_, (pss_cons (ps_if (pt_not (pt_val (pe_call Gi.ok (hr.mono (by decide)) rfl Gi.m Gi.kp Gi.b .nil pass0 (pa_cons (pv 1) pa_nil))))
        (pss_one (ps_raise rfl (takes_of rfl rfl rfl rfl) (pmk_oex N.ox N.iC N.tI N.ok (hr.mono (by decide)) N.b .nil pass0 (by rfl) N.m (pa_cons (pv 1) pa_nil))))
        pss_nil)
      (PSs.nox (pss_cons (ps_setLc (i := 2) (own := [("number", 3)]) (g := gName 3) (tt := tYes) rfl scPolyI.nd rfl rfl (sw_true rfl rfl rfl (by decide +kernel)) (pi_seq (pv 1)) (blkOk_by (N := ["self", "numbers", "row", "number"]) (sc := defScope sPolyI) (by decide +kernel)) (fun _ _ _ _ _ => pg_name (i := 3) scPolyI.nd rfl (Or.inl rfl)) (fun _ _ _ _ _ => pts_nil)
          (fun _ _ _ _ _ => pe_call Gt.ok hr rfl Gt.m Gt.kp Gt.b .nil passL (pa_cons (pv 3) (pa_cons pe_str pa_nil))))
      (pss_cons (ps_while PassesOwn.never (PW.pt (pw_and (pt_truth (pv 2) (by intro _; rfl)) (pw_and1 (pt_cmpR op_eq (pe_ix ix_tup (pe_ix ix_list (pv 2) (pe_un un_neg pe_int) (fun _ _ => rfl)) pe_int (fun _ _ => rfl)) pe_int (nomark _)))))
        (pss_one (ps_expr (pe_bm0 PySem.F.plainAttrs_list PySem.F.slot_list_pop PySem.F.type_list_pop mt_pop (pv 2)))))
      (pss_one (ps_fld (pv 0) (pe_callTy call_tuple_of (by rfl) T.tuple (by decide +kernel) (pa_cons (pv 2) pa_nil)) rfl)))))), ?_⟩
    refine ⟨_, rfl, v, d, rfl, hd, hlen, fun H1 s1 => ⟨_, rfl, ?_⟩⟩
    have hd1 := hd.mono s1
    cases hp : rowD d with
    | none =>
      refine iteT ?_
      refine ⟨_, rfl, (by show 1 ≤ 1000; decide), ?_⟩
      exact raise_end rfl fun dd H' s2 n e2 => (e hp).same s1 dd H' s2 n e2
    | some ps =>
      refine iteF ?_
      obtain ⟨hbig, q⟩ := q ps hp
      obtain ⟨ds, hs⟩ : ∃ ds, seqD d = some ds := by
        cases hs : seqD d with
        | none => rw [rowD_none hs] at hp; cases hp
        | some ds => exact ⟨ds, rfl⟩
      have hm := hp
      rw [rowD_seq hs] at hm
      obtain ⟨ml, mi⟩ := mapM_some hm
      obtain ⟨a, xs, rfl, hsq, hds⟩ := hd1.seq hs
      have hl := hds.len
      have hl2 := hlen ds hs
      refine ⟨_, rfl, a, rfl, lc_seq (xs := xs) hsq (fun D i H2 => Same H1 H2 ∧ ∃ as, H2 D = some (.lst (as.map V.ref)) ∧ Tups H2 as ((ps.map lowP).take i)) ?_ ?_ ?_ ?_⟩
      · intro D hD
        exact ⟨same_upd hD, [], upd_same, .nil⟩
      · intro D i H2 hD ⟨s2, _⟩
        exact ⟨same_sqL s2, same_sqT s2⟩
      · intro D i y H2 hD hi ⟨s2, as, e2, t2⟩
        obtain ⟨di, h1, h2⟩ := hds.at hi
        obtain ⟨p, h3, h4⟩ := mi i di h1
        obtain ⟨t, b⟩ := p
        refine ⟨rfl, ?_⟩
        refine ⟨_, rfl, y, .str "number", di, rfl, h2.mono s2, fun t' b' hp' => ?_, fun z => by rw [h4] at z; cases z⟩
        rw [h4] at hp'
        cases hp'
        refine ⟨hbig (t, b) (List.mem_of_getElem? h3), fun r H3 s3 e3 => ?_⟩
        have rD : r ≠ D := ne_of e3 (s3 _ _ e2) (by intro z; cases z)
        have up : ∀ (a : Addr) (p : Int × Int), H3 a = some (.tup [.int p.1, .int p.2]) → upd H3 D (.lst (as.map V.ref ++ [V.ref r])) a = some (.tup [.int p.1, .int p.2]) := fun a p z => by
          rw [upd_ne (ne_of z (s3 _ _ e2) (by intro z; cases z))]
          exact z
        refine ⟨_, s3 _ _ e2, ?_, (fun b o e => ?_), as ++ [r], ?_, ?_⟩
        · have := t2.len
          rw [List.length_take, List.length_map] at this
          rw [List.length_map, sizeLine_eq]
          omega
        · rw [upd_ne (ne_of_none e hD)]
          exact s3 _ _ (s2 _ _ e)
        · rw [upd_same, List.map_append]
          rfl
        · rw [List.take_succ, List.getElem?_map, h3]
          exact ((t2.same s3).imp up).snoc (up _ _ e3)
      · intro lr H2 nlr ⟨s2, as, e2, t2⟩
        have tk : (ps.map lowP).take xs.length = ps.map lowP := by
          rw [hl, ml]
          exact List.take_of_length_le (by rw [List.length_map]; exact Nat.le_refl _)
        rw [tk] at t2
        refine ⟨fun m σ H3 => ∃ as qs, m = List.length as ∧ (∃ v3, σ = [some (.ref x), some (.ref a), some (.ref lr), v3]) ∧ Same H1 H3 ∧ H3 lr = some (.lst (as.map V.ref)) ∧ Tups H3 as qs ∧ strip qs = strip (ps.map lowP) ∧ as.length ≤ 1000, ⟨_, as, _, rfl, ⟨_, rfl⟩, s2, e2, t2, rfl, ?_⟩, ?_⟩
        · have := t2.len
          rw [List.length_map] at this
          omega
        · rintro m σ H3 ⟨as, qs, rfl, ⟨v3, rfl⟩, s3, e3, t3, hst, hz⟩
          have fin : strip qs = qs → sFld K (tVar 0) (tCB (fun xs H Q => ∃ p ys, xs = [.ref p] ∧ ((SqL K H p ys ∧ ∀ l, H l = none → Q (.ref l) (upd H l (.tup ys))) ∨ (SqT K H p ys ∧ Q (.ref p) H))) (tCons (tVar 2) tNil)) "numbers" { nx := fun _ H' => Q .non H', rt := Q } [some (.ref x), some (.ref a), some (.ref lr), v3] H3 := fun hqs => by
            refine ⟨_, rfl, lr, _, rfl, .inl ⟨SqL.of e3, fun tq ntq => ?_⟩⟩
            have hx3 := s3 _ _ (s1 _ _ hx)
            have hxq : x ≠ tq := ne_of_none hx3 ntq
            refine ⟨_, rfl, x, CP, dx, [], rfl, (by rw [upd_ne hxq]; exact hx3), C.cl, C.nf, (by decide), ?_⟩
            refine q _ (fun b o nb eb => ?_) ⟨dx, tq, as, upd_same, (by rw [upd_ne hxq.symm]; exact upd_same), ?_⟩
            · have eb3 := s3 _ _ (s1 _ _ eb)
              rw [upd_ne nb, upd_ne (ne_of_none eb3 ntq)]
              exact eb3
            · rw [← hst, hqs]
              refine t3.imp fun c p z => ?_
              rw [upd_ne (ne_of z hx3 (by intro z; cases z)), upd_ne (ne_of_none z ntq)]
              exact z
          rcases snoc_cases qs with rfl | ⟨qs, y, rfl⟩
          · cases t3
            refine ⟨_, rfl, false, .inl ⟨[], SqL.of e3, rfl⟩, ?_⟩
            refine iteF ?_
            refine iteF ?_
            exact fin strip_nil
          · obtain ⟨as', r, rfl, t4, er⟩ := t3.unsnoc
            refine ⟨_, rfl, true, .inl ⟨_, SqL.of e3, by simp⟩, ?_⟩
            refine iteT ?_
            refine ⟨_, rfl, _, rfl, lr, _, _, .ref r, rfl, rfl, SqL.of e3, (by rw [List.map_append]; exact L2.atI_last _ _), r, _, _, .int y.1, rfl, rfl, SqT.of er, at_of (j := 0) rfl rfl, rfl, _, rfl, ?_⟩
            by_cases y0 : y.1 = 0
            · rw [decide_eq_true (by rw [y0])]
              refine iteT ?_
              refine ⟨fun σ' H' => ∃ qs', (∃ v3, σ' = [some (.ref x), some (.ref a), some (.ref lr), v3]) ∧ Same H1 H' ∧ H' lr = some (.lst (as'.map V.ref)) ∧ Tups H' as' qs' ∧ strip qs' = strip (ps.map lowP) ∧ as'.length ≤ 1000, fun σ' H' ⟨qs', h1, h2, h3, h4, h5, h6⟩ => ⟨as'.length, by rw [List.length_append]; simp, as', qs', rfl, h1, h2, h3, h4, h5, h6⟩, ?_⟩
              refine ⟨_, rfl, .inl ⟨rfl, _, SqL.of e3⟩, lr, _, .ref r, rfl, rfl, e3, ?_, ?_⟩
              · simp
              · refine ⟨qs, ⟨_, rfl⟩, fun b o eb => ?_, ?_, ?_, ?_, ?_⟩
                · rw [upd_ne (ne_of_none eb nlr)]
                  exact s3 _ _ eb
                · rw [upd_same, List.map_append]
                  simp
                · refine t4.imp fun c p z => ?_
                  rw [upd_ne (ne_of z e3 (by intro z; cases z))]
                  exact z
                · rw [strip_snoc, if_pos y0] at hst
                  exact hst
                · rw [List.length_append] at hz
                  omega
            · rw [decide_eq_false (fun z => y0 (by have z2 := V.int.inj z; exact z2))]
              refine iteF ?_
              exact fin (by rw [strip_snoc, if_neg y0])
def spPolyE (K : PySem.W.Frag) (CP : Addr) : Sp := fun vs H Q _ => ∃ (a : Addr) (rs : List (Int × Int)) (v : V), vs = [.ref a, v] ∧ PolyAt K CP H a rs ∧
  ((∃ (b : Addr) (rs2 : List (Int × Int)), v = .ref b ∧ PolyAt K CP H b rs2 ∧ Q (.bl (decide (rs = rs2))) H) ∨ (∃ d, Dt K H v d ∧ Q (.bl false) H))
def spPolyD (K : PySem.W.Frag) (CP : Addr) : Sp := fun vs H Q _ => ∃ (a : Addr) (rs : List (Int × Int)), vs = [.ref a] ∧ PolyAt K CP H a rs ∧ Q (.int ((rs.length : Int) - 1)) H
theorem scPolyE : FnScope ["self", "other"] ["self", "other"] (defScope sPolyE) := ⟨rfl, rfl, rfl, by decide +kernel, rfl, by decide +kernel, by decide +kernel⟩
theorem ok_poly_eq {f : Addr} {fd : FuncData} (F : Fun K "__eq__" "Poly.__eq__" sPolyE f fd) (T : Bk mg) (hm1 : M1 base) (C : PoC K mg CP) : FnOk P w K mg base CX0 1 f fd ["self", "other"] (spPolyE K CP) := by
  refine F.ok scPolyE (fun vs H Q E h => ?_) (fun cdv A outer s H vs Q E hr h => ?_)
  · obtain ⟨a, rs, v, rfl, _⟩ := h
    rfl
  · obtain ⟨a, rs, v, rfl, ha, q⟩ := h
    refine ⟨_, (pss_one (ps_ret (pe_and (pe_callB call_isi (by rfl) T.isinstance (by decide +kernel) (pa_cons (pv 1) (pa_cons (pe_glob (v := V.ref CP) rfl C.m rfl) pa_nil))) (pe_one (pe_cmpR (op_eqT hr.units hm1) (pe_fld (pv 0) rfl) (pe_fld (pv 1) rfl) (nomark _)))))), ?_⟩
    rcases q with ⟨b, rs2, rfl, hb, q⟩ | ⟨d, hd, q⟩
    · refine ⟨_, rfl, .ref b, .ref CP, _, .ref CP, _, rfl, .own _, hb.ty C, C.io, _, rfl, ?_⟩
      refine iteT ?_
      obtain ⟨dx, t, as, h1, h2, h3⟩ := ha
      obtain ⟨dx2, t2, as2, g1, g2, g3⟩ := hb
      refine ⟨_, rfl, a, CP, dx, _, .ref t, rfl, h1, C.cl, C.nf, (by kernel_rfl), _, rfl, b, CP, dx2, _, .ref t2, rfl, g1, C.cl, C.nf, (by kernel_rfl), ?_⟩
      refine ⟨.tuple (rs.map pairD), .tuple (rs2.map pairD), .tup (SqT.of h2) h3.dts, .tup (SqT.of g2) g3.dts, (plain_row _).1, (plain_row _).1, (depth_row _).1, ?_⟩
      rw [eqv_row]
      exact q
    · refine ⟨_, rfl, v, .ref CP, _, .ref CP, _, rfl, .own _, hd.ty, C.no d, _, rfl, ?_⟩
      refine iteF ?_
      exact q
theorem scPolyD : FnScope ["self"] ["self"] (defScope sPolyD) := ⟨rfl, rfl, rfl, by decide +kernel, rfl, by decide +kernel, by decide +kernel⟩
theorem ok_poly_degree {f : Addr} {fd : FuncData} (F : Fun K "degree" "Poly.degree" sPolyD f fd) (T : Bk mg) (C : PoC K mg CP) : FnOk P w K mg base CX0 1 f fd ["self"] (spPolyD K CP) := by
  refine F.ok scPolyD (fun vs H Q E h => ?_) (fun cdv A outer s H vs Q E hr h => ?_)
  · obtain ⟨a, rs, rfl, _⟩ := h
    rfl
  · obtain ⟨a, rs, rfl, ⟨dx, t, as, h1, h2, h3⟩, q⟩ := h
    refine ⟨_, (pss_one (ps_ret (pe_op op_sub (pe_callB call_len_seq (by rfl) T.len (by decide +kernel) (pa_cons (pe_fld (pv 0) rfl) pa_nil)) pe_int))), ?_⟩
    refine ⟨_, rfl, a, CP, dx, _, .ref t, rfl, h1, C.cl, C.nf, (by kernel_rfl), t, _, rfl, .inr (SqT.of h2), _, _, rfl, rfl, ?_⟩
    rw [List.length_map, h3.len]
    exact q
end
end Vf
set_option maxRecDepth 100000
set_option maxHeartbeats 4000000
namespace Vf
open PySem PySem.Spec PyProof.Rows L2
/-- the row ns tells the numbers qs over M -/
def Over (M : Int) (ns : List Int) (qs : List Rat) : Prop := ns.length = qs.length ∧ ∀ i, ((ns.getD i 0 : Int) : Rat) = cf qs i * (M : Rat)
def ci (ns : List Int) (i : Nat) : Int := ns.getD i 0
theorem Over.at {M : Int} {ns : List Int} {qs : List Rat} (h : Over M ns qs) (i : Nat) : cf qs i * (M : Rat) = ((ci ns i : Int) : Rat) := (h.2 i).symm
theorem ci_lt {l : List Int} {i : Nat} (h : i < l.length) : l[i]? = some (ci l i) := by
  unfold ci
  rw [List.getD_eq_getElem?_getD, List.getElem?_eq_getElem h]
  rfl
theorem ci_get {l : List Int} {i : Nat} {x : Int} (h : l[i]? = some x) : ci l i = x := by
  unfold ci
  rw [List.getD_eq_getElem?_getD, h]
  rfl
theorem ci_ge {l : List Int} {i : Nat} (h : l.length ≤ i) : ci l i = 0 := by
  unfold ci
  rw [List.getD_eq_getElem?_getD, List.getElem?_eq_none_iff.mpr h]
  rfl
def tabI (n : Nat) (f : Nat → Int) : List Int := (List.range n).map f
theorem tabI_len (n : Nat) (f : Nat → Int) : (tabI n f).length = n := by unfold tabI; rw [List.length_map, List.length_range]
theorem tabI_snoc (n : Nat) (f : Nat → Int) : tabI (n + 1) f = tabI n f ++ [f n] := by
  unfold tabI
  rw [List.range_succ, List.map_append]
  rfl
theorem ci_tab (n : Nat) (f : Nat → Int) (i : Nat) : ci (tabI n f) i = if i < n then f i else 0 := by
  unfold ci tabI
  rw [List.getD_eq_getElem?_getD, List.getElem?_map]
  by_cases h : i < n
  · rw [if_pos h, List.getElem?_range h]; rfl
  · rw [if_neg h, List.getElem?_eq_none_iff.mpr (by rw [List.length_range]; omega)]; rfl
end Vf
set_option maxRecDepth 100000
set_option maxHeartbeats 8000000
namespace Vf
open PySem PySem.Spec PyProof.Rows L2
/-- a row, a list or a tuple, of the pairs of these numbers -/
def RS (K : PySem.W.Frag) (H : Hp) (l : Addr) (qs : List Rat) : Prop := ∃ as, (SqL K H l (as.map V.ref) ∨ SqT K H l (as.map V.ref)) ∧ Tups H as (qs.map pq)
theorem RS.same {K : PySem.W.Frag} {H H' : Hp} {l : Addr} {qs : List Rat} (h : RS K H l qs) (s : Same H H') : RS K H' l qs := by
  obtain ⟨as, e, t⟩ := h
  exact ⟨as, e.imp (same_sqL s) (same_sqT s), t.same s⟩
theorem RS.of {K : PySem.W.Frag} {H : Hp} {l : Addr} {qs : List Rat} (h : RL H l qs) : RS K H l qs := by
  obtain ⟨as, e, t⟩ := h
  exact ⟨as, .inl (SqL.of e), t⟩
theorem parts_q (q : Rat) : partsD (pairD (pq q)) = some (q.num, (q.den : Int)) := by
  show (if 0 < (q.den : Int) then some (q.num, (q.den : Int)) else none) = _
  rw [if_pos (by have := q.den_pos; omega)]
/-- below 2 ^ 4300 above and below -/
def Z2 (q : Rat) : Prop := Sz q.num ∧ Sz (q.den : Int)
def rIxS (K : PySem.W.Frag) : R2 := fun x y H Q => ∃ p xs i v, x = .ref p ∧ y = .int i ∧ (SqL K H p xs ∨ SqT K H p xs) ∧ atI xs i = some v ∧ Q v H
theorem ix_seq {X : Cx} : IxR X (rIxS X.K) := by
  intro value slice pins s σ H x y v u Q I rx ry h hs
  obtain ⟨p, xs, i, z, e1, e2, hq, he, q⟩ := h
  rcases hq with hq | hq
  · exact ix_list value slice pins s σ H x y v u Q I rx ry ⟨p, xs, i, z, e1, e2, hq, he, q⟩ hs
  · exact ix_tup value slice pins s σ H x y v u Q I rx ry ⟨p, xs, i, z, e1, e2, hq, he, q⟩ hs
theorem RS.getQ {K : PySem.W.Frag} {H : Hp} {l : Addr} {qs : List Rat} (h : RS K H l qs) : ∃ xs : List V, (SqL K H l xs ∨ SqT K H l xs) ∧ xs.length = qs.length ∧ ∀ i, i < qs.length → ∃ a, xs[i]? = some (.ref a) ∧ TR H a (cf qs i) := by
  obtain ⟨as, e, t⟩ := h
  refine ⟨_, e, by rw [List.length_map, t.lenQ], fun i hi => ?_⟩
  obtain ⟨a, h1, h2⟩ := t.getQ hi
  exact ⟨a, by rw [List.getElem?_map, h1]; rfl, h2⟩
end Vf
set_option maxRecDepth 100000
set_option maxHeartbeats 8000000
namespace Vf
open PySem PySem.Spec PyProof.Rows L2
/-- the numbers of a Poly of the law -/
def Sm (q : Rat) : Prop := q.num.natAbs ≤ 2 ^ 13 ∧ q.den ≤ 2 ^ 12
theorem sm_zero' : Sm 0 := ⟨Nat.zero_le _, by show 1 ≤ 2 ^ 12; decide⟩
theorem num_den (q : Rat) : q * ((q.den : Nat) : Rat) = ((q.num : Int) : Rat) := by
  obtain ⟨n, e, h⟩ := Fr.self q
  have h0 : (q.den : Rat) ≠ 0 := by
    have := q.den_nz
    exact_mod_cast this
  have z : (q.num : Rat) / (q.den : Rat) = q := by
    have := Rat.num_divInt_den q
    rw [Rat.divInt_eq_div] at this
    exact_mod_cast this
  have := Rat.div_mul_cancel (a := (q.num : Rat)) h0
  rw [z] at this
  exact this
theorem over_one {q : Rat} {b : Nat} (h : q.den ∣ b) : q * (b : Rat) = ((q.num * ((b : Int) / (q.den : Int)) : Int) : Rat) := by
  obtain ⟨k, rfl⟩ := h
  have e : ((q.den * k : Nat) : Int) / (q.den : Int) = (k : Int) := by
    have := q.den_nz
    rw [Int.natCast_mul, Int.mul_ediv_cancel_left _ (by omega)]
  rw [e]
  have e2 : ((q.den * k : Nat) : Rat) = (q.den : Rat) * (k : Rat) := by exact_mod_cast rfl
  have e3 : ((q.num * (k : Int) : Int) : Rat) = (q.num : Rat) * (k : Rat) := by exact_mod_cast rfl
  rw [e2, e3, ← Rat.mul_assoc, num_den]
end Vf
set_option maxRecDepth 100000
set_option maxHeartbeats 8000000
namespace Vf
open PySem PySem.Spec PyProof.Rows L2
open LamX (ExtN Tabs TabS)
/-- a law's body, nothing leaves it, its own code object known -/
theorem fnG_of1 {P : Program} {w : World} {K : PySem.W.Frag} {mg : Str → Option Value} {base : Heap} {x qual : Str} {st : Stmt} {f : Addr} {fd : FuncData} {N ps : List Str} {k : Nat} {sp : Sp} (F : Fun K x qual st f fd) (S : FnScope N ps (defScope st))
    (ar : ∀ vs H Q E, sp vs H Q E → vs.length = ps.length)
    (body : ∀ (cdv : Value) (A : Around) (out : List Env) (s : Shared) (H : Hp) (vs : List V) (Q : VK) (E : XK), A.guards = some [] → Room k (A.deeper (envOfC qual (defScope st) s.heap.objs.size f cdv)) → fd.code = cdv → sp vs H Q E →
      ∃ t, PSs (cxOf CX0 P w K mg base N qual (defScope st) f cdv A out s H E).nox (defBody st) t ∧ t { nx := fun _ H' => Q .non H', rt := Q } (start N vs) H) : FnG P w K mg base CX0 (k + 1) f fd ps sp := by
  obtain ⟨oc, od, kV, doc, pm, an, cdv, ct, osl, e, lk, hcd⟩ := F.ex
  subst e
  refine ⟨ar, fun {A out s H args us vs Q E} hgu hr e0 hb r h => LamX.run_ofS lk hcd S hr e0 hb r (ar _ _ _ _ h) fun hr' => ?_⟩
  obtain ⟨t, z, q⟩ := body cdv A out s H vs Q E hgu hr' rfl h
  exact ⟨t, z.nox, q⟩
/-- the class of polynomials with its defs -/
structure PoM (P : Program) (w : World) (K : PySem.W.Frag) (mg : Str → Option Value) (base : Heap) (CP CR : Addr) where
  C : PoC K mg CP
  fI : Addr
  dI : FuncData
  mkI : Mk K CP fI
  bI : Binds K dI ["self", "numbers"] []
  okI : FnOk P w K mg base (L2.CX P w) 5 fI dI ["self", "numbers"] (spPolyI K CP CR)
  fE : Addr
  dE : FuncData
  aE : PySem.W.findIn K (.ref CP) "__eq__" = some (some (.ref fE))
  nE : PySem.W.isFn K (.ref fE) = true
  bE : Binds K dE ["self", "other"] []
  okE : FnOk P w K mg base CX0 1 fE dE ["self", "other"] (spPolyE K CP)
theorem rNe_int {x y : Int} {H : Hp} {B : Bool → Hp → Prop} (g : x = y → B false H) (h : x ≠ y → B true H) : rNe (.int x) (.int y) H (fun v H' => ∃ k, v = V.bl k ∧ B k H') := by
  by_cases e : x = y
  · exact ⟨rfl, false, by rw [decide_eq_true (by rw [e])]; rfl, g e⟩
  · exact ⟨rfl, true, by rw [decide_eq_false (fun z => e (V.int.inj z))]; rfl, h e⟩
theorem qual_eq {P : Program} {w : World} {K : PySem.W.Frag} {mg : Str → Option Value} {base : Heap} {N : List Str} {qual : Str} {sc : Scope} {f : Addr} {cd : Value} {A : Around} {o : List Env} {s : Shared} {H : Hp} {E : XK} {CT : CXT} : (cxOf CT P w K mg base N qual sc f cd A o s H E).nox.env.qual = qual ++ ".<locals>." := rfl
/-- the table of the law's own code objects -/
def Ts (Pt : Addr) : List (Addr × Str) := [(Pt, (Str.ofString "law" ++ Str.ofString ".<locals>.") ++ Str.ofString "<lambda>")]
theorem ts_mem (Pt : Addr) : (Pt, (Str.ofString "law" ++ Str.ofString ".<locals>.") ++ Str.ofString "<lambda>") ∈ Ts Pt := List.mem_singleton.mpr rfl
theorem ts_only (Pt : Addr) : ∀ p ∈ Ts Pt, p.1 = Pt → p.2 = (Str.ofString "law" ++ Str.ofString ".<locals>.") ++ Str.ofString "<lambda>" := fun p hp _ => by rw [List.mem_singleton.mp hp]
theorem seq_kp {K : PySem.W.Frag} {p a : Addr} {H H' : Hp} {xs : List V} (n : a ≠ p) (k : Kp p H H') : (SqL K H a xs → SqL K H' a xs) ∧ (SqT K H a xs → SqT K H' a xs) := by
  refine ⟨fun h => ?_, fun h => ?_⟩
  · rcases h with (h | ⟨o, h⟩) | h
    · exact Or.inl (Or.inl (k a _ n h))
    · exact Or.inl (Or.inr ⟨o, k a _ n h⟩)
    · exact Or.inr h
  · rcases h with (h | ⟨o, h⟩) | h
    · exact Or.inl (Or.inl (k a _ n h))
    · exact Or.inl (Or.inr ⟨o, k a _ n h⟩)
    · exact Or.inr h
/-- the law's promise -/
def spLaw (K : PySem.W.Frag) (Pt : Addr) : Sp := fun vs H Q _ => ∃ (a : Addr) (ns : List Int), vs = [.ref a] ∧ SqL K H a (ns.map V.int) ∧ ns.length ≤ 63 ∧ H Pt = some (.tbl #[]) ∧ ∀ H', Q (.bl true) H'
/-- a method of the class that raises nothing -/
structure Me (P : Program) (w : World) (K : PySem.W.Frag) (mg : Str → Option Value) (base : Heap) (CP : Addr) (x : Str) (k : Nat) (ps : List Str) (sp : Sp) where
  f : Addr
  fd : FuncData
  m : Meth K CP x f
  b : Binds K fd ps []
  ok : FnOk P w K mg base CX0 k f fd ps sp
/-- changes at lists and at the pen alone -/
theorem Pen.put {H H' : Hp} {p l b : Addr} {B : Int} (h : Pen H p l B) (k : ∀ c u, c ≠ b → H c = some u → H' c = some u) (h1 : b ≠ p) (h2 : b ≠ l) : Pen H' p l B := by
  obtain ⟨ns, a, d, c, f, ⟨g1, g2, g3⟩, hc⟩ := h
  exact ⟨ns, a, d, c, f, ⟨k _ _ h1.symm g1, k _ _ h2.symm g2, g3⟩, hc⟩
theorem Pen.lc {H : Hp} {p l : Addr} {B : Int} (h : Pen H p l B) : ∃ xs, H l = some (.lst xs) := by
  obtain ⟨ns, a, d, c, f, ⟨g1, g2, g3⟩, hc⟩ := h
  exact ⟨_, g2⟩
theorem Pen.ne_new {H : Hp} {p l b : Addr} {B : Int} (h : Pen H p l B) (n : H b = none) : b ≠ p ∧ b ≠ l := by
  obtain ⟨o, e⟩ := h.there
  obtain ⟨xs, e2⟩ := h.lc
  exact ⟨(ne_of_none e n).symm, (ne_of_none e2 n).symm⟩
theorem upd_away {H : Hp} {b : Addr} {o : HO} : ∀ c u, c ≠ b → H c = some u → upd H b o c = some u := fun c u h e => by rw [upd_ne h]; exact e
theorem Tups.lst {H H' : Hp} {b : Addr} {xs : List V} (hb : H b = some (.lst xs)) (k : ∀ c u, c ≠ b → H c = some u → H' c = some u) {as : List Addr} {ps : List (Int × Int)} (h : Tups H as ps) : Tups H' as ps :=
  h.imp fun a p z => k _ _ (ne_of z hb (by intro z; cases z)) z
theorem Tups.kp {H H' : Hp} {p l : Addr} {B : Int} (hP : Pen H p l B) (k : Kp p H H') {as : List Addr} {ps : List (Int × Int)} (h : Tups H as ps) : Tups H' as ps := by
  obtain ⟨ns, a, d, c, f, ⟨g1, g2, g3⟩, hc⟩ := hP
  exact h.imp fun a p z => k _ _ (ne_of z g1 (by intro z; cases z)) z
theorem cut_to (xs : List V) (k : Nat) : cutV xs none (some (k : Int)) = xs.take k := by
  unfold cutV
  rw [HT.sIx_none, HT.sIx_nat, Nat.sub_zero, List.drop_zero]
  by_cases h : k ≤ xs.length
  · rw [Nat.min_eq_left h]
  · rw [Nat.min_eq_right (by omega), List.take_of_length_le (by omega), List.take_of_length_le (by omega)]
/-- what ratios have that are drawn -/
structure RatOk (p : Int × Int) : Prop where
  lw : Low p.1 p.2
  zt : S80 p.1
  zb : S80 p.2
theorem parts_pairD {p : Int × Int} (h : 0 < p.2) : partsD (pairD p) = some p := by
  obtain ⟨t, b⟩ := p
  show (if 0 < b then some (t, b) else none) = some (t, b)
  rw [if_pos h]
def pairL (p : Int × Int) : PyData := .list [.int p.1, .int p.2]
theorem mapM_of {f : Int × Int → PyData} : ∀ {ps : List (Int × Int)}, (∀ p ∈ ps, partsD (f p) = some p) → (ps.map f).mapM partsD = some ps
  | [], _ => by rw [List.map_nil, List.mapM_nil]; rfl
  | p :: ps, h => by
    rw [List.map_cons, List.mapM_cons, h p (List.mem_cons_self ..), mapM_of fun x hx => h x (List.mem_cons_of_mem _ hx)]
    rfl
/-- ratios as they are passed -/
inductive Giv : List PyData → List (Int × Int) → Prop
  | nil : Giv [] []
  | cons {d : PyData} {p : Int × Int} {k : Int} {ds : List PyData} {ps : List (Int × Int)} : partsD d = some (p.1 * k, p.2 * k) → 0 < k → k ≤ 3 → Gd d → Giv ds ps → Giv (d :: ds) (p :: ps)
theorem Giv.len : ∀ {ds : List PyData} {ps : List (Int × Int)}, Giv ds ps → ds.length = ps.length
  | _, _, .nil => rfl
  | _, _, .cons _ _ _ _ t => congrArg (· + 1) t.len
theorem Giv.snoc : ∀ {ds : List PyData} {ps : List (Int × Int)} {d : PyData} {p : Int × Int} {k : Int}, Giv ds ps → partsD d = some (p.1 * k, p.2 * k) → 0 < k → k ≤ 3 → Gd d → Giv (ds ++ [d]) (ps ++ [p])
  | _, _, _, _, _, .nil, h1, h2, h3, h4 => .cons h1 h2 h3 h4 .nil
  | _, _, _, _, _, .cons g1 g2 g3 g4 t, h1, h2, h3, h4 => .cons g1 g2 g3 g4 (t.snoc h1 h2 h3 h4)
theorem Giv.row : ∀ {ds : List PyData} {ps : List (Int × Int)}, Giv ds ps → (∀ p ∈ ps, RatOk p) → ∃ qs, ds.mapM partsD = some qs ∧ qs.map lowP = ps ∧ ∀ q ∈ qs, q.2.natAbs < 2 ^ big
  | _, _, .nil, _ => ⟨[], by rw [List.mapM_nil]; rfl, rfl, fun q h => by cases h⟩
  | _, _, .cons (p := p) (k := k) h1 h2 h3 h4 t, h => by
    obtain ⟨qs, e1, e2, e3⟩ := t.row fun x hx => h x (List.mem_cons_of_mem _ hx)
    have ok := h p (List.mem_cons_self ..)
    refine ⟨(p.1 * k, p.2 * k) :: qs, ?_, ?_, ?_⟩
    · rw [List.mapM_cons, h1, e1]
      rfl
    · rw [List.map_cons, e2]
      congr 1
      exact low_back ok.lw h2
    · intro q hq
      rcases List.mem_cons.mp hq with z | z
      · rw [z]
        exact Nat.lt_trans (s80_k ok.zb h2 h3) (Nat.pow_lt_pow_right (by decide) (by decide))
      · exact e3 q z
theorem parts_plain {d : PyData} {p : Int × Int} (h : partsD d = some p) : d.plain = true ∧ d.depth ≤ 1 := by
  cases d with
  | int i => exact ⟨rfl, by simp [PyData.depth]⟩
  | list ds =>
    have z := (pair_pos (ds := ds) (t := p.1) (b := p.2) h).1
    rw [z]
    exact ⟨by simp [PyData.plain, PyData.plainAll], by simp [PyData.depth, PyData.depthAll]⟩
  | tuple ds =>
    have z := (pair_pos (ds := ds) (t := p.1) (b := p.2) h).1
    rw [z]
    exact ⟨by simp [PyData.plain, PyData.plainAll], by simp [PyData.depth, PyData.depthAll]⟩
  | _ => cases h
theorem Giv.plain : ∀ {ds : List PyData} {ps : List (Int × Int)}, Giv ds ps → PyData.plainAll ds = true ∧ PyData.depthAll ds ≤ 1
  | _, _, .nil => ⟨by simp only [PyData.plainAll], by simp only [PyData.depthAll]; omega⟩
  | _, _, .cons h1 _ _ _ t => by
    obtain ⟨a, b⟩ := parts_plain h1
    obtain ⟨c, d⟩ := t.plain
    simp only [PyData.plainAll, PyData.depthAll]
    exact ⟨by rw [a, c]; rfl, Nat.max_le.mpr ⟨b, d⟩⟩
/-- lists of two whole numbers each -/
inductive Lsts (H : Hp) : List Addr → List (Int × Int) → Prop
  | nil : Lsts H [] []
  | cons {a : Addr} {as : List Addr} {p : Int × Int} {ps : List (Int × Int)} : H a = some (.lst [.int p.1, .int p.2]) → Lsts H as ps → Lsts H (a :: as) (p :: ps)
theorem Lsts.len {H : Hp} : ∀ {as : List Addr} {ps : List (Int × Int)}, Lsts H as ps → as.length = ps.length
  | _, _, .nil => rfl
  | _, _, .cons _ t => congrArg (· + 1) t.len
theorem Lsts.imp {H H' : Hp} : ∀ {as : List Addr} {ps : List (Int × Int)}, (∀ a ∈ as, ∀ (p : Int × Int), H a = some (.lst [.int p.1, .int p.2]) → H' a = some (.lst [.int p.1, .int p.2])) → Lsts H as ps → Lsts H' as ps
  | _, _, _, .nil => .nil
  | _, _, e, .cons h t => .cons (e _ (List.mem_cons_self ..) _ h) (t.imp fun a ha => e a (List.mem_cons_of_mem _ ha))
theorem Lsts.snoc {H : Hp} : ∀ {as : List Addr} {ps : List (Int × Int)} {a : Addr} {p : Int × Int}, Lsts H as ps → H a = some (.lst [.int p.1, .int p.2]) → Lsts H (as ++ [a]) (ps ++ [p])
  | _, _, _, _, .nil, h => .cons h .nil
  | _, _, _, _, .cons h t, h2 => .cons h (t.snoc h2)
theorem Lsts.dts {K : PySem.W.Frag} {H : Hp} : ∀ {as : List Addr} {ps : List (Int × Int)}, Lsts H as ps → Dts K H (as.map V.ref) (ps.map pairL)
  | _, _, .nil => .nil
  | _, _, .cons h t => .cons (.lst (SqL.of h) (.cons (.int _) (.cons (.int _) .nil))) t.dts
theorem Lsts.mem {H : Hp} : ∀ {as : List Addr} {ps : List (Int × Int)}, Lsts H as ps → ∀ a ∈ as, ∃ x y : Int, H a = some (.lst [.int x, .int y])
  | _, _, .nil, a, h => by cases h
  | _, _, .cons h t, a, hm => by
    rcases List.mem_cons.mp hm with z | z
    · rw [z]; exact ⟨_, _, h⟩
    · exact t.mem a z
end Vf
set_option maxRecDepth 100000
set_option maxHeartbeats 8000000
namespace Vf
open PySem PySem.Spec PyProof.Rows L2
def RI (H : Hp) (l : Addr) (ns : List Int) : Prop := H l = some (.lst (ns.map V.int))
section
variable {P : Program} {w : World} {K : PySem.W.Frag} {mg : Str → Option Value} {base : Heap} {CP CR CN : Addr}
theorem RI.at {H : Hp} {l : Addr} {ns : List Int} {i : Nat} (h : i < ns.length) : (ns.map V.int)[i]? = some (V.int (ci ns i)) := by
  rw [List.getElem?_map, ci_lt h]
  rfl
end
end Vf
set_option maxRecDepth 100000
set_option maxHeartbeats 8000000
namespace Vf
open PySem PySem.Spec PyProof.Rows L2
def RW (H : Hp) (l : Addr) (ps : List (Int × Int)) : Prop := ∃ as, H l = some (.lst (as.map V.ref)) ∧ Tups H as ps
def PolyQ (K : PySem.W.Frag) (CP : Addr) (H : Hp) (a : Addr) (qs : List Rat) : Prop := PolyAt K CP H a (qs.map pq)
theorem PolyQ.same {K : PySem.W.Frag} {CP : Addr} {H H' : Hp} {a : Addr} {qs : List Rat} (h : PolyQ K CP H a qs) (s : Same H H') : PolyQ K CP H' a qs := PolyAt.same h s
/-- what Poly(row) comes to -/
theorem poly_row {K : PySem.W.Frag} {CP CR : Addr} {H : Hp} {l : Addr} {ps : List (Int × Int)} {qs : List Rat} {Qd : Addr → Hp → Prop} {E : XK} (h : RW H l ps) (hl : ps.length ≤ 1000) (hp : ∀ p ∈ ps, 0 < p.2 ∧ p.2.natAbs < 2 ^ big) (hq : ps.map lowP = qs.map pq)
    (k : ∀ (x : Addr) (H' : Hp), Same H H' → H x = none → PolyQ K CP H' x (stripQ qs) → Qd x H') :
    ∀ x dx, H x = none → H dx = none → dx ≠ x → spPolyI K CP CR (.ref x :: ([V.ref l] ++ [])) (upd (upd H dx (.own x)) x (.ins CP dx [])) (fun w H2 => w = .non ∧ Qd x H2) E := by
  obtain ⟨as, e, t⟩ := h
  have rd : rowD (.list (ps.map pairD)) = some ps := mapM_of fun p h => parts_pairD (hp p h).1
  refine poly_made (d := .list (ps.map pairD)) (.lst (SqL.of e) t.dts) (fun ds' h => ?_) (fun ps' h => ?_) (fun z => by rw [rd] at z; cases z)
  · cases h
    rw [List.length_map]
    exact hl
  rw [rd] at h
  cases h
  refine ⟨fun p h => (hp p h).2, fun x H' s nx made => k x H' s nx ?_⟩
  rw [hq, strip_map] at made
  exact made
theorem poly_rl {K : PySem.W.Frag} {CP CR : Addr} {H : Hp} {l : Addr} {qs : List Rat} {Qd : Addr → Hp → Prop} {E : XK} (h : RL H l qs) (hl : qs.length ≤ 1000) (hz : ∀ q ∈ qs, q.den < 2 ^ big)
    (k : ∀ (x : Addr) (H' : Hp), Same H H' → H x = none → PolyQ K CP H' x (stripQ qs) → Qd x H') :
    ∀ x dx, H x = none → H dx = none → dx ≠ x → spPolyI K CP CR (.ref x :: ([V.ref l] ++ [])) (upd (upd H dx (.own x)) x (.ins CP dx [])) (fun w H2 => w = .non ∧ Qd x H2) E := by
  refine poly_row (ps := qs.map pq) h (by rw [List.length_map]; exact hl) (fun p hp => ?_) ?_ k
  · obtain ⟨q, hq, rfl⟩ := List.mem_map.mp hp
    have := q.den_pos
    refine ⟨by show (0 : Int) < (q.den : Int); omega, ?_⟩
    show (q.den : Int).natAbs < _
    rw [Int.natAbs_natCast]
    exact hz q hq
  · rw [List.map_map]
    refine List.map_congr_left fun q _ => ?_
    exact low_id (pq_low q)
end Vf
set_option maxRecDepth 100000
set_option maxHeartbeats 8000000
namespace Vf
open PySem PySem.Spec PyProof.Rows L2
/-- a small drawn ratio -/
def spRatio : Sp := fun vs H Q _ => ∃ (p lc : Addr) (B m : Int), vs = [.ref p, .int m] ∧ 1 ≤ m ∧ m ≤ 1000000000 ∧ Pen H p lc B ∧ B ≤ 10000000 ∧
  ∀ (r : Addr) (t b : Int) (H' : Hp), Pen H' p lc (B + 3) → Kp p H H' → H' r = some (.tup [.int t, .int b]) → Low t b → (t.natAbs : Int) ≤ m * 99 → b.natAbs ≤ 99 → Q (.ref r) H'
section
variable {P : Program} {w : World} {K : PySem.W.Frag} {mg : Str → Option Value} {base : Heap} {CN : Addr}
abbrev sLRatio : Stmt := topS 81
theorem scLRatio : FnScope ["_law_pen_here", "_law_most", "_law_bottom"] ["_law_pen_here", "_law_most"] (defScope sLRatio) := ⟨rfl, rfl, rfl, by decide +kernel, rfl, by decide +kernel, by decide +kernel⟩
theorem small_mulW {x y : Int} (h1 : x.natAbs < 2 ^ 400) (h2 : y.natAbs < 2 ^ 400) : CMulW x y := wide_mul h1 h2 (by decide) (by decide) (by decide)
theorem ok_lratio {f : Addr} {fd : FuncData} (F : Fun K "_law_ratio" "_law_ratio" sLRatio f fd) (Gd_ : Df P w K mg base "_law_draw" 1 ["_law_pen_here", "_law_many"] spDraw) (Gp : Df P w K mg base "_law_pick" 2 ["_law_pen_here", "_law_some"] spPick) (Gq : Df P w K mg base "_law_q" 2 ["_law_top", "_law_bottom"] spQ) :
    FnOk P w K mg base CX0 3 f fd ["_law_pen_here", "_law_most"] spRatio := by
  refine F.ok scLRatio (fun vs H Q E h => ?_) (fun cdv A outer s H vs Q E hr h => ?_)
  · obtain ⟨p, lc, B, m, rfl, _⟩ := h
    rfl
  · obtain ⟨p, lc, B, m, rfl, hm1, hm9, hP, hB, q⟩ := h
    refine ⟨_, (pss_cons (ps_set (i := 2) scLRatio.nd rfl (Or.inl rfl) (pe_call Gp.ok (hr.mono (by decide)) rfl Gp.m Gp.kp Gp.b .nil pass0 (pa_cons (pv 0) (pa_cons (pe_lst (pa_cons pe_int (pa_cons pe_int (pa_cons pe_int (pa_cons pe_int (pa_cons pe_int (pa_cons pe_int (pa_cons (pe_op op_add pe_int (pe_call Gd_.ok (hr.mono (by decide)) rfl Gd_.m Gd_.kp Gd_.b .nil pass0 (pa_cons (pv 0) (pa_cons pe_int pa_nil)))) pa_nil)))))))) pa_nil))))
      (pss_one (ps_ret (pe_call Gq.ok (hr.mono (by decide)) rfl Gq.m Gq.kp Gq.b .nil pass0 (pa_cons (pe_op op_sub (pe_call Gd_.ok (hr.mono (by decide)) rfl Gd_.m Gd_.kp Gd_.b .nil pass0 (pa_cons (pv 0) (pa_cons (pe_op op_add (pe_op op_mulW (pe_op op_mulW pe_int (pv 1)) (pv 2)) pe_int) pa_nil))) (pe_op op_mulW (pv 1) (pv 2))) (pa_cons (pv 2) pa_nil)))))), ?_⟩
    refine ⟨_, rfl, _, rfl, p, lc, B, 99, rfl, hP, by omega, by decide, by decide, fun z H1 z0 z1 hP1 k1 => ⟨_, _, rfl, rfl, ?_⟩⟩
    refine ⟨(by show 7 ≤ sizeLine; decide), fun l nl => ?_⟩
    have el : upd H1 l (HO.lst [V.int 1, V.int 1, V.int 2, V.int 3, V.int 7, V.int 10, V.int (1 + z)]) l = some (HO.lst [V.int 1, V.int 1, V.int 2, V.int 3, V.int 7, V.int 10, V.int (1 + z)]) := upd_same
    have sl : Same H1 (upd H1 l (HO.lst [V.int 1, V.int 1, V.int 2, V.int 3, V.int 7, V.int 10, V.int (1 + z)])) := same_upd nl
    have lp : l ≠ p := by
      obtain ⟨o, e⟩ := hP1.there
      exact (ne_of_none e nl).symm
    generalize upd H1 l (HO.lst [V.int 1, V.int 1, V.int 2, V.int 3, V.int 7, V.int 10, V.int (1 + z)]) = H2 at el sl ⊢
    have hP2 := hP1.same sl
    refine ⟨p, lc, l, _, _, rfl, hP2, by omega, el, lp, (by show 0 < 7; decide), (by show 7 < 1000000; decide), fun x H3 hx hP3 k3 => ?_⟩
    obtain ⟨b, rfl, b0, b1⟩ : ∃ b : Int, x = .int b ∧ 1 ≤ b ∧ b ≤ 99 := by
      simp only [List.mem_cons, List.not_mem_nil, or_false] at hx
      rcases hx with h | h | h | h | h | h | h <;> exact ⟨_, h, by omega, by omega⟩
    have sz : ∀ {i : Int}, 0 ≤ i → i ≤ 1000000000000 → i.natAbs < 2 ^ 400 := fun {i} h0 h1 => Nat.lt_trans (show i.natAbs < 2 ^ 40 by omega) (by decide +kernel)
    have k13 : Kp p H H3 := (k1.trans (Kp.of sl)).trans k3
    have hmb : m * b ≤ 1000000000 * 99 := Int.mul_le_mul hm9 b1 (by omega) (by decide)
    have hmb0 : 0 < m * b := Int.mul_pos (by omega) (by omega)
    have e2 : 2 * m * b = 2 * (m * b) := Int.mul_assoc _ _ _
    refine ⟨_, rfl, _, rfl, _, _, rfl, rfl, small_mulW (sz (by decide) (by decide)) (sz (by omega) (by omega)), _, rfl, _, _, rfl, rfl, small_mulW (sz (by omega) (by omega)) (sz (by omega) (by omega)), _, _, rfl, rfl, p, lc, _, _, rfl, hP3, by omega, by omega, by omega, fun y H4 y0 y1 hP4 k4 => ?_⟩
    refine ⟨_, rfl, _, rfl, _, _, rfl, rfl, small_mulW (sz (by omega) (by omega)) (sz (by omega) (by omega)), _, _, rfl, rfl, _, rfl, ?_⟩
    have hb : b ≠ 0 := by omega
    have lt : (2 : Nat) ^ 40 < 2 ^ big := Nat.pow_lt_pow_right (by decide) (by decide)
    refine ⟨_, _, rfl, hb, Nat.lt_trans (show (y - m * b).natAbs < 2 ^ 40 by omega) lt, Nat.lt_trans (show b.natAbs < 2 ^ 40 by omega) lt, fun r H5 s5 n5 e5 => ?_⟩
    obtain ⟨z1, z2⟩ := low_size (t := y - m * b) hb
    have mb : m * b ≤ m * 99 := Int.mul_le_mul_of_nonneg_left b1 (by omega)
    exact q r _ _ H5 ((hP4.more (by omega)).same s5) ((k13.trans k4).trans (Kp.of s5)) e5 (low_is hb) (by omega) (by omega)
end
theorem RL.kp {H H' : Hp} {p lc l : Addr} {B : Int} {qs : List Rat} (h : RL H l qs) (hP : Pen H p lc B) (k : Kp p H H') : RL H' l qs := by
  obtain ⟨as, e, t⟩ := h
  refine ⟨as, k _ _ ?_ e, t.kp hP k⟩
  obtain ⟨_, _, _, _, _, g1, _⟩ := hP
  exact ne_of e g1.1 (by intro z; cases z)
theorem RL.ne {H : Hp} {p lc l : Addr} {B : Int} {qs : List Rat} (h : RL H l qs) (hP : Pen H p lc B) : l ≠ p := by
  obtain ⟨as, e, t⟩ := h
  obtain ⟨_, _, _, _, _, g1, _⟩ := hP
  exact ne_of e g1.1 (by intro z; cases z)
theorem TR.kp {H H' : Hp} {p lc r : Addr} {B : Int} {q : Rat} (h : TR H r q) (hP : Pen H p lc B) (k : Kp p H H') : TR H' r q := by
  obtain ⟨_, _, _, _, _, g1, _⟩ := hP
  exact k _ _ (ne_of h g1.1 (by intro z; cases z)) h
theorem PolyQ.kp {K : PySem.W.Frag} {CP : Addr} {H H' : Hp} {a p l : Addr} {B : Int} {qs : List Rat} (h : PolyQ K CP H a qs) (hP : Pen H p l B) (k : Kp p H H') : PolyQ K CP H' a qs := PolyAt.kp h hP k
def spMade (K : PySem.W.Frag) (CP : Addr) : Sp := fun vs H Q _ => ∃ (p lc l : Addr) (B : Int) (a : List Rat), vs = [.ref p, .ref l] ∧ Pen H p lc B ∧ B ≤ 1000000 ∧ RL H l a ∧ a.length ≤ 13 ∧ stripQ a = a ∧ (∀ i, RatOk (pq (cf a i))) ∧
  ∀ (x : Addr) (H' : Hp), Pen H' p lc (B + 100) → Kp p H H' → PolyQ K CP H' x a → Q (.ref x) H'
theorem sm_s80 {q : Rat} (h : Sm q) : RatOk (pq q) := by
  refine ⟨pq_low q, Nat.lt_of_le_of_lt h.1 (Nat.pow_lt_pow_right (by decide) (by decide)), ?_⟩
  show (q.den : Int).natAbs < 2 ^ 1200
  rw [Int.natAbs_natCast]
  exact Nat.lt_of_le_of_lt h.2 (Nat.pow_lt_pow_right (by decide) (by decide))
theorem mem_cf {qs : List Rat} {q : Rat} (h : q ∈ qs) : ∃ i, q = cf qs i := by
  obtain ⟨i, hi, e⟩ := List.mem_iff_getElem.mp h
  exact ⟨i, by rw [cf_lt hi, e]⟩
theorem Dts.rep0 {K : PySem.W.Frag} {H : Hp} : ∀ n : Nat, Dts K H (List.replicate n (V.int 0)) (List.replicate n (PyData.int 0))
  | 0 => .nil
  | n + 1 => .cons (.int 0) (Dts.rep0 n)
theorem giv_rep0 {ds : List PyData} {ps : List (Int × Int)} (h : Giv ds ps) : ∀ n : Nat, Giv (ds ++ List.replicate n (PyData.int 0)) (ps ++ List.replicate n (0, 1))
  | 0 => by rw [List.replicate_zero, List.replicate_zero, List.append_nil, List.append_nil]; exact h
  | n + 1 => by
    rw [List.replicate_succ', List.replicate_succ', ← List.append_assoc, ← List.append_assoc]
    exact (giv_rep0 h n).snoc (k := 1) (p := (0, 1)) rfl (by decide) (by decide) (gd_int (by show (0 : Int).natAbs < _; exact Nat.pow_pos (by decide)))
section
variable {P : Program} {w : World} {K : PySem.W.Frag} {mg : Str → Option Value} {base : Heap} {CP CR CN : Addr}
abbrev sMade : Stmt := topS 85
theorem scMade : FnScope ["_law_pen_here", "_law_one", "_law_numbers", "_law_number"] ["_law_pen_here", "_law_one"] (defScope sMade) := ⟨rfl, rfl, rfl, by decide +kernel, rfl, by decide +kernel, by decide +kernel⟩
theorem ok_made {f : Addr} {fd : FuncData} (F : Fun K "_law_made_poly" "_law_made_poly" sMade f fd) (T : Bk mg) (PM : PoM P w K mg base CP CR) (Gd_ : Df P w K mg base "_law_draw" 1 ["_law_pen_here", "_law_many"] spDraw) (Gp : Df P w K mg base "_law_pick" 2 ["_law_pen_here", "_law_some"] spPick) (Gs : Df P w K mg base "_law_passed" 3 ["_law_pen_here", "_law_ratio_here"] (spPassed K)) : FnOk P w K mg base CX0 7 f fd ["_law_pen_here", "_law_one"] (spMade K CP) := by
  refine F.ok scMade (fun vs H Q E h => ?_) (fun cdv A outer s H vs Q E hr h => ?_)
  · obtain ⟨p, lc, l, B, a, rfl, _⟩ := h
    rfl
  · obtain ⟨p, lc, l, B, a, rfl, hP, hB, ⟨as, el, ta⟩, la, st, sa, q⟩ := h
    refine ⟨_, (pss_cons (ps_set (i := 2) scMade.nd rfl (Or.inl rfl) (pe_op op_cat (pe_lc (own := [("_law_number", 3)]) (g := gName 3) (tt := tYes) rfl scMade.nd (pi_seq (pv 1)) (blkOk_by (N := ["_law_pen_here", "_law_one", "_law_numbers", "_law_number"]) (sc := defScope sMade) (by decide +kernel)) (fun _ _ _ _ _ => pg_name (i := 3) scMade.nd rfl (Or.inl rfl)) (fun _ _ _ _ _ => pts_nil) (fun _ _ _ _ _ => (pe_call Gs.ok (hr.mono (by decide)) rfl Gs.m Gs.kp Gs.b .nil pass0 (pa_cons (pv 0) (pa_cons (pv 3) pa_nil))))) (pe_op op_rep (pe_lst (pa_cons pe_int pa_nil)) (pe_call Gd_.ok (hr.mono (by decide)) rfl Gd_.m Gd_.kp Gd_.b .nil pass0 (pa_cons (pv 0) (pa_cons pe_int pa_nil))))))
  (pss_one (ps_ret (pe_make PM.mkI PM.okI (hr.mono (by decide)) rfl PM.C.m PM.bI .nil passL (pa_cons (pe_call Gp.ok (hr.mono (by decide)) rfl Gp.m Gp.kp Gp.b .nil pass0 (pa_cons (pv 0) (pa_cons (pe_lst (pa_cons (pe_callTy call_tuple_of (by rfl) T.tuple (by decide +kernel) (pa_cons (pv 2) pa_nil)) (pa_cons (pv 2) pa_nil))) pa_nil))) pa_nil))))), ?_⟩
    have lp : l ≠ p := RL.ne ⟨as, el, ta⟩ hP
    have leq := ta.lenQ
    refine ⟨_, rfl, l, rfl, lc_seq (xs := as.map V.ref) (.inl (SqL.of el)) (fun D k H' => Kp p H H' ∧ Pen H' p lc (B + 3 * k) ∧ ∃ vs ds, H' D = some (.lst vs) ∧ Dts K (fz D p H') vs ds ∧ Giv ds ((a.map pq).take k)) ?_ ?_ ?_ ?_⟩
    · intro D hD
      exact ⟨Kp.of (same_upd hD), (hP.same (same_upd hD)).more (by omega), [], [], upd_same, .nil, .nil⟩
    · intro D k H' hD ⟨kk, _⟩
      exact seq_kp lp kk
    · intro D k x H' hD hk ⟨kk, hP', vs, ds, eD, dts, giv⟩
      obtain ⟨d1, d2⟩ := hP.ne_new hD
      rw [List.getElem?_map] at hk
      cases hr0 : as[k]? with
      | none => rw [hr0] at hk; cases hk
      | some r =>
        rw [hr0] at hk
        cases hk
        obtain ⟨qq, hq, er⟩ := ta.atQ hr0
        have rp : r ≠ p := by
          obtain ⟨_, _, _, _, _, g1, _⟩ := hP
          exact ne_of er g1.1 (by intro z; cases z)
        have okq : RatOk (pq qq) := by have := sa k; rw [cf_get hq] at this; exact this
        have hk13 : k < 13 := by
          have := (List.getElem?_eq_some_iff.mp hr0).1
          omega
        refine ⟨rfl, ?_⟩
        refine ⟨_, rfl, _, rfl, p, lc, r, _, (pq qq).1, (pq qq).2, rfl, hP', by omega, kk _ _ rp er, okq.lw.pos, okq.zt, okq.zb, fun v d kz H2 hP2 kp' hd pa k0 k3 gd => ?_⟩
        have eD' := kp' _ _ d1 eD
        have hDl : vs.length < sizeLine := by
          have := dts.len
          have := giv.len
          rw [List.length_take] at this
          rw [sizeLine_eq]
          omega
        have hp := hP'.there.choose_spec
        refine ⟨_, eD', hDl, ?_, (hP2.put upd_away d1 d2).more (by omega), vs ++ [v], ds ++ [d], upd_same, ?_, ?_⟩
        · exact fun b o nb eb => by
            rw [upd_ne (ne_of_none eb hD)]
            exact kp' b o nb (kk b o nb eb)
        · have up : Same (fz D p H2) (fz D p (upd H2 D (.lst (vs ++ [v])))) := fz_mono fun b o h1 h2 e => by rw [upd_ne h1]; exact e
          exact (dts.mono ((fz_mono fun b o h1 h2 e => kp' b o h2 e).trans up)).app (.cons (hd.mono ((nw_fz eD hp).trans up)) .nil)
        · have z := giv.snoc (p := pq qq) pa k0 k3 gd
          have e : (a.map pq).take (k + 1) = (a.map pq).take k ++ [pq qq] := by rw [List.take_succ, List.getElem?_map, hq]; rfl
          rw [e]
          exact z
    · intro lg H11 nlg ⟨k11, hP11, vs, ds, elg, dts, giv⟩
      obtain ⟨lgp, lgc⟩ := hP.ne_new nlg
      have etk : (a.map pq).take (as.map V.ref).length = a.map pq := by rw [List.length_map, leq]; exact List.take_of_length_le (by rw [List.length_map]; exact Nat.le_refl _)
      rw [etk] at giv
      have hP11 := hP11.more (show _ ≤ B + 60 by rw [List.length_map]; omega)
      have lenv : vs.length ≤ 13 := by
        have h1 := dts.len
        have h2 := giv.len
        rw [List.length_map] at h2
        omega
      refine ⟨(by show 1 ≤ sizeLine; decide), fun l1 nl1 => ?_⟩
      have el1 : upd H11 l1 (HO.lst [V.int 0]) l1 = some (HO.lst [V.int 0]) := upd_same
      have s12 : Same H11 (upd H11 l1 (HO.lst [V.int 0])) := same_upd nl1
      have l1p := (hP11.ne_new nl1).1
      generalize upd H11 l1 (HO.lst [V.int 0]) = H12 at el1 s12 ⊢
      have hP12 := hP11.same s12
      refine ⟨_, rfl, p, lc, _, 2, rfl, hP12, by omega, by decide, by decide, fun m H13 m0 m1 hP13 k13 => ?_⟩
      refine ⟨l1, m, _, rfl, rfl, k13 _ _ l1p el1, by omega, by omega, (by rw [sizeLine_eq]; show 1 * m.toNat ≤ _; omega), fun l2 nl2 => ?_⟩
      have el2 : upd H13 l2 (HO.lst (List.replicate m.toNat [V.int 0]).flatten) l2 = some (HO.lst (List.replicate m.toNat (V.int 0))) := by rw [upd_same, List.flatten_replicate_singleton]
      have s14 : Same H13 (upd H13 l2 (HO.lst (List.replicate m.toNat [V.int 0]).flatten)) := same_upd nl2
      generalize upd H13 l2 (HO.lst (List.replicate m.toNat [V.int 0]).flatten) = H14 at el2 s14 ⊢
      have elg14 := s14 _ _ (k13 _ _ lgp (s12 _ _ elg))
      refine ⟨lg, l2, _, _, rfl, rfl, elg14, el2, (by rw [List.length_replicate, sizeLine_eq]; omega), fun nb nnb => ?_⟩
      have enb : upd H14 nb (HO.lst (vs ++ List.replicate m.toNat (V.int 0))) nb = some (HO.lst (vs ++ List.replicate m.toNat (V.int 0))) := upd_same
      have s15 : Same H14 (upd H14 nb (HO.lst (vs ++ List.replicate m.toNat (V.int 0)))) := same_upd nnb
      have hP14 := hP13.same s14
      have nbp := (hP14.ne_new nnb).1
      generalize upd H14 nb (HO.lst (vs ++ List.replicate m.toNat (V.int 0))) = H15 at enb s15 ⊢
      have hP15 := hP14.same s15
      refine ⟨_, rfl, _, rfl, nb, _, rfl, .inl ⟨SqL.of enb, fun tg ntg => ?_⟩⟩
      have etg : upd H15 tg (HO.tup (vs ++ List.replicate m.toNat (V.int 0))) tg = some (HO.tup (vs ++ List.replicate m.toNat (V.int 0))) := upd_same
      have s16 : Same H15 (upd H15 tg (HO.tup (vs ++ List.replicate m.toNat (V.int 0)))) := same_upd ntg
      have tgp := (hP15.ne_new ntg).1
      generalize upd H15 tg (HO.tup (vs ++ List.replicate m.toNat (V.int 0))) = H16 at etg s16 ⊢
      have hP16 := hP15.same s16
      refine ⟨_, rfl, (by show 2 ≤ sizeLine; decide), fun l4 nl4 => ?_⟩
      have el4 : upd H16 l4 (HO.lst [V.ref tg, V.ref nb]) l4 = some (HO.lst [V.ref tg, V.ref nb]) := upd_same
      have s17 : Same H16 (upd H16 l4 (HO.lst [V.ref tg, V.ref nb])) := same_upd nl4
      have l4p := (hP16.ne_new nl4).1
      generalize upd H16 l4 (HO.lst [V.ref tg, V.ref nb]) = H17 at el4 s17 ⊢
      have hP17 := hP16.same s17
      refine ⟨p, lc, l4, _, _, rfl, hP17, by omega, el4, l4p, (by show 0 < 2; decide), (by show 2 < 1000000; decide), fun x H18 hx hP18 k18 => ?_⟩
      have k1118 : Kp p H11 H18 := ((Kp.of s12).trans k13).trans ((Kp.of (s14.trans (s15.trans (s16.trans s17)))).trans k18)
      have dts18 : Dts K H18 (vs ++ List.replicate m.toNat (V.int 0)) (ds ++ List.replicate m.toNat (PyData.int 0)) := (dts.mono ((fz_mono fun b o _ h e => k1118 b o h e).trans fz_sub)).app (Dts.rep0 _)
      have giv2 := giv_rep0 giv m.toNat
      have ok2 : ∀ y ∈ a.map pq ++ List.replicate m.toNat (0, 1), RatOk y := fun y hy => by
        rcases List.mem_append.mp hy with h | h
        · obtain ⟨q0, hq0, rfl⟩ := List.mem_map.mp h
          obtain ⟨i, rfl⟩ := mem_cf hq0
          exact sa i
        · rw [List.eq_of_mem_replicate h]
          exact sm_s80 sm_zero'
      obtain ⟨dg, hdg, sdg⟩ : ∃ dg, Dt K H18 x dg ∧ seqD dg = some (ds ++ List.replicate m.toNat (PyData.int 0)) := by
        simp only [List.mem_cons, List.not_mem_nil, or_false] at hx
        rcases hx with h | h
        · rw [h]
          exact ⟨.tuple _, .tup (SqT.of (k18 _ _ tgp (s17 _ _ etg))) dts18, rfl⟩
        · rw [h]
          exact ⟨.list _, .lst (SqL.of (k18 _ _ nbp (s17 _ _ (s16 _ _ enb)))) dts18, rfl⟩
      obtain ⟨qs, hqs, eqs, bqs⟩ := giv2.row ok2
      have rdg : rowD dg = some qs := by rw [rowD_seq sdg]; exact hqs
      refine poly_made hdg (fun ds' h => ?_) (fun ps' h => ?_) (fun z => by rw [rdg] at z; cases z)
      · rw [sdg] at h
        cases h
        have := dts18.len
        rw [List.length_append, List.length_replicate] at this
        omega
      rw [rdg] at h
      cases h
      refine ⟨bqs, fun md H19 s19 nmd made => q md H19 ((hP18.more (by omega)).same s19) (k11.trans (k1118.trans (Kp.of s19))) ?_⟩
      have e : a.map pq ++ List.replicate m.toNat (0, 1) = (a ++ List.replicate m.toNat 0).map pq := by
        rw [List.map_append, List.map_replicate]
        rfl
      have e2 : stripQ (a ++ List.replicate m.toNat 0) = a := by
        rw [← st]
        refine (stripQ_ext fun i => ?_).trans (by rw [st])
        rw [st, cf_app]
        split
        · rfl
        · rw [cf_rep0, cf_ge (by omega)]
      rw [eqs, e, strip_map, e2] at made
      exact made
end
end Vf
set_option maxRecDepth 100000
set_option maxHeartbeats 8000000
namespace Vf
open PySem PySem.Spec PyProof.Rows L2
theorem lpoly_qn {K : PySem.W.Frag} {H : Hp} {l : Addr} {qs : List Rat} {Q : VK} (h : RL H l qs) (hl : qs.length ≤ 1000) (k : ∀ (l' : Addr) (H' : Hp), Same H H' → H l' = none → RL H' l' (stripQ qs) → Q (.ref l') H') {E : XK} : spLPoly K [.ref l] H Q E := by
  obtain ⟨as, e, t⟩ := h
  have := t.lenQ
  refine ⟨l, as, qs.map pq, rfl, SqL.of e, t, by omega, fun l' as' H' s n e' t' => k l' H' s n ⟨as', e', ?_⟩⟩
  rw [strip_map] at t'
  exact t'
def spLPT : Sp := fun vs H Q _ => ∃ (l1 l2 : Addr) (a b : List Rat) (M N M' N' : Nat), vs = [.ref l1, .ref l2] ∧ RL H l1 a ∧ RL H l2 b ∧ a.length ≤ 40 ∧ b.length ≤ 40 ∧ 0 < M ∧ 0 < M' ∧ 0 < N ∧ 0 < N' ∧ (∀ i, Fr M N (cf a i)) ∧ (∀ i, Fr M' N' (cf b i)) ∧
  M * M' < 2 ^ 4300 ∧ 41 * (N * N') < 2 ^ 4300 ∧ ∀ (l : Addr) (H' : Hp), Same H H' → H l = none → RL H' l (stripQ (pmul a b)) → Q (.ref l) H'
/-- what has come to the number of a power after i rows and k numbers of the next one -/
def pt (a b : List Rat) (i k j : Nat) : Rat := sm (fun x => if x ≤ j then cf a x * cf b (j - x) else 0) i + if i ≤ j ∧ j - i < k then cf a i * cf b (j - i) else 0
theorem pt_zero (a b : List Rat) (j : Nat) : pt a b 0 0 j = 0 := by
  unfold pt
  rw [if_neg (by omega)]
  show (0 : Rat) + 0 = 0
  exact Rat.add_zero 0
theorem pt_next (a b : List Rat) (i k j : Nat) : pt a b i (k + 1) j = if j = i + k then pt a b i k j + cf a i * cf b k else pt a b i k j := by
  unfold pt
  by_cases h : j = i + k
  · rw [if_pos h, if_pos (by omega), if_neg (by omega), show j - i = k by omega, Rat.add_zero]
  · rw [if_neg h]
    by_cases h2 : i ≤ j ∧ j - i < k
    · rw [if_pos h2, if_pos (by omega)]
    · rw [if_neg h2, if_neg (by omega)]
theorem pt_row (a b : List Rat) (i j : Nat) : pt a b (i + 1) 0 j = pt a b i b.length j := by
  unfold pt
  rw [if_neg (by omega), Rat.add_zero]
  show sm _ i + (if i ≤ j then cf a i * cf b (j - i) else 0) = _
  congr 1
  by_cases h : i ≤ j
  · rw [if_pos h]
    by_cases h2 : j - i < b.length
    · rw [if_pos ⟨h, h2⟩]
    · rw [if_neg (fun z => h2 z.2), cf_ge (l := b) (by omega), Rat.mul_zero]
  · rw [if_neg h, if_neg (fun z => h z.1)]
theorem pt_end (a b : List Rat) (j : Nat) : pt a b a.length 0 j = pc a b j := by
  unfold pt pc
  rw [if_neg (by omega), Rat.add_zero]
  have e : sm (fun x => if x ≤ j then cf a x * cf b (j - x) else 0) (max a.length (j + 1)) = sm (fun x => if x ≤ j then cf a x * cf b (j - x) else 0) a.length :=
    sm_more (by omega) fun i h1 h2 => by
      rw [cf_ge h1, Rat.zero_mul]
      split <;> rfl
  have e2 : sm (fun x => if x ≤ j then cf a x * cf b (j - x) else 0) (max a.length (j + 1)) = sm (fun x => if x ≤ j then cf a x * cf b (j - x) else 0) (j + 1) :=
    sm_more (by omega) fun i h1 h2 => by rw [if_neg (by omega)]
  rw [← e, e2]
  exact sm_ext fun i hi => by rw [if_pos (by omega)]
theorem pt_fr {a b : List Rat} {M N M' N' : Nat} (ha : ∀ i, Fr M N (cf a i)) (hb : ∀ i, Fr M' N' (cf b i)) (i k j : Nat) : Fr (M * M') ((i + 1) * (N * N')) (pt a b i k j) := by
  unfold pt
  have h1 : Fr (M * M') (i * (N * N')) (sm (fun x => if x ≤ j then cf a x * cf b (j - x) else 0) i) := sm_fr fun x _ => by
    split
    · exact (ha x).mul (hb _)
    · exact Fr.zero _ _
  rw [Nat.succ_mul]
  refine h1.add ?_
  split
  · exact (ha i).mul (hb _)
  · exact Fr.zero _ _
section
variable {P : Program} {w : World} {K : PySem.W.Frag} {mg : Str → Option Value} {base : Heap} {CN : Addr}
abbrev sLPTimes : Stmt := topS 83
theorem scLPTimes : FnScope ["_law_one", "_law_two", "_law_found", "_law_i", "_law_k"] ["_law_one", "_law_two"] (defScope sLPTimes) := ⟨rfl, rfl, rfl, by decide +kernel, rfl, by decide +kernel, by decide +kernel⟩
theorem ok_lptimes {f : Addr} {fd : FuncData} (F : Fun K "_law_p_times" "_law_p_times" sLPTimes f fd) (T : Bk mg) (hmax : mg "max" = none) (Gpoly : Df P w K mg base "_law_poly" 1 ["_law_numbers"] (spLPoly K)) (Gplus : Df P w K mg base "_law_plus" 3 ["_law_one", "_law_two"] (spL2 rAdd)) (Gtimes : Df P w K mg base "_law_times" 3 ["_law_one", "_law_two"] (spL2 rMul)) :
    FnOk P w K mg base CX0 4 f fd ["_law_one", "_law_two"] spLPT := by
  refine F.ok scLPTimes (fun vs H Q E h => ?_) (fun cdv A outer s H vs Q E hr h => ?_)
  · obtain ⟨l1, l2, a, b, M, N, M', N', rfl, _⟩ := h
    rfl
  · obtain ⟨l1, l2, a, b, M, N, M', N', rfl, ⟨as, e1, t1⟩, ⟨bs, e2, t2⟩, la, lb, hM, hM', hN, hN', fa, fb, hMM, hNN, q⟩ := h
    refine ⟨_, (pss_cons (ps_set (i := 2) scLPTimes.nd rfl (Or.inl rfl) (pe_op op_rep (pe_lst (pa_cons (pe_tup (pa_cons pe_int (pa_cons pe_int pa_nil))) pa_nil)) (pe_callB (cr_max rfl) (by rfl) hmax (by decide +kernel) (pa_cons (pe_lst (pa_cons pe_int (pa_cons (pe_op op_sub (pe_op op_add (pe_callB call_len_seq (by rfl) T.len (by decide +kernel) (pa_cons (pv 0) pa_nil)) (pe_callB call_len_seq (by rfl) T.len (by decide +kernel) (pa_cons (pv 1) pa_nil))) pe_int) pa_nil))) pa_nil))))
  (pss_cons (ps_for PassesOwn.never rfl (pi_range1 (by rfl) T.range (pa_cons (pe_callB call_len_seq (by rfl) T.len (by decide +kernel) (pa_cons (pv 0) pa_nil)) pa_nil)) (pg_name (i := 3) scLPTimes.nd rfl (Or.inl rfl))
    (pss_one (ps_for PassesOwn.never rfl (pi_range1 (by rfl) T.range (pa_cons (pe_callB call_len_seq (by rfl) T.len (by decide +kernel) (pa_cons (pv 1) pa_nil)) pa_nil)) (pg_name (i := 4) scLPTimes.nd rfl (Or.inl rfl))
      (pss_one (ps_asg (pe_call Gplus.ok (hr.mono (by decide)) rfl Gplus.m Gplus.kp Gplus.b .nil pass0 (pa_cons (pe_ix ix_list (pv 2) (pe_op op_add (pv 3) (pv 4)) (fun _ _ => rfl)) (pa_cons (pe_call Gtimes.ok (hr.mono (by decide)) rfl Gtimes.m Gtimes.kp Gtimes.b .nil pass0 (pa_cons (pe_ix ix_list (pv 0) (pv 3) (fun _ _ => rfl)) (pa_cons (pe_ix ix_list (pv 1) (pv 4) (fun _ _ => rfl)) pa_nil))) pa_nil))) (pg_sub (pv 2) (pe_op op_add (pv 3) (pv 4)) set_list))))))
  (pss_one (ps_ret (pe_call Gpoly.ok (hr.mono (by decide)) rfl Gpoly.m Gpoly.kp Gpoly.b .nil pass0 (pa_cons (pv 2) pa_nil)))))), ?_⟩
    have n1 := t1.lenQ
    have n2 := t2.lenQ
    have hMp : 0 < M * M' := Nat.mul_pos hM hM'
    have sA : SrL a := fun i => (fa i).sr hM (by have := Nat.le_mul_of_pos_right M hM'; omega) (by
      have := Nat.le_mul_of_pos_right N hN'
      omega)
    have sB : SrL b := fun i => (fb i).sr hM' (by have := Nat.le_mul_of_pos_left M' hM; omega) (by
      have := Nat.le_mul_of_pos_left N' hN
      omega)
    have sP : ∀ i k j, i ≤ 40 → Sr (pt a b i k j) := fun i k j hi => (pt_fr fa fb i k j).sr hMp hMM (by
      have : (i + 1) * (N * N') ≤ 41 * (N * N') := Nat.mul_le_mul_right _ (by omega)
      omega)
    have sM : ∀ i k, Sr (cf a i * cf b k) := fun i k => ((fa i).mul (fb k)).sr hMp hMM (by omega)
    refine ⟨(by show 2 ≤ sizeLine; decide), fun t0 nt0 => ?_⟩
    have et0 : upd H t0 (HO.tup [V.int 0, V.int 1]) t0 = some (HO.tup [V.int 0, V.int 1]) := upd_same
    have s1 : Same H (upd H t0 (HO.tup [V.int 0, V.int 1])) := same_upd nt0
    generalize upd H t0 (HO.tup [V.int 0, V.int 1]) = H1 at et0 s1 ⊢
    refine ⟨(by show 1 ≤ sizeLine; decide), fun k1 nk1 => ?_⟩
    have ek1 : upd H1 k1 (HO.lst [V.ref t0]) k1 = some (HO.lst [V.ref t0]) := upd_same
    have s2 : Same H1 (upd H1 k1 (HO.lst [V.ref t0])) := same_upd nk1
    generalize upd H1 k1 (HO.lst [V.ref t0]) = H2 at ek1 s2 ⊢
    have s12 := s1.trans s2
    refine ⟨_, rfl, l1, _, rfl, .inl (SqL.of (s12 _ _ e1)), _, rfl, l2, _, rfl, .inl (SqL.of (s12 _ _ e2)), _, _, rfl, rfl, _, _, rfl, rfl, (by show 2 ≤ sizeLine; decide), fun lm nlm => ?_⟩
    rw [List.length_map, List.length_map, n1, n2]
    have elm : upd H2 lm (HO.lst [V.int 0, V.int ((a.length : Nat) + (b.length : Nat) - 1)]) lm = some (HO.lst [V.int 0, V.int ((a.length : Nat) + (b.length : Nat) - 1)]) := upd_same
    have s3 : Same H2 (upd H2 lm (HO.lst [V.int 0, V.int ((a.length : Nat) + (b.length : Nat) - 1)])) := same_upd nlm
    generalize upd H2 lm (HO.lst [V.int 0, V.int ((a.length : Nat) + (b.length : Nat) - 1)]) = H3 at elm s3 ⊢
    refine ⟨lm, [0, (a.length : Nat) + (b.length : Nat) - 1], rfl, SqL.of elm, (by show 0 < 2; decide), fun m hm1 hm2 => ?_⟩
    have hm : m.toNat = a.length + b.length - 1 ∧ 0 ≤ m ∧ m ≤ 100 := by
      have h1 := hm2 0 (by simp)
      have h2 := hm2 ((a.length : Nat) + (b.length : Nat) - 1) (by simp)
      simp only [List.mem_cons, List.not_mem_nil, or_false] at hm1
      omega
    refine ⟨k1, m, _, rfl, rfl, s3 _ _ ek1, by omega, by omega, (by rw [sizeLine_eq]; show 1 * _ ≤ _; omega), fun fo nfo => ?_⟩
    have efo : upd H3 fo (HO.lst (List.replicate m.toNat [V.ref t0]).flatten) fo = some (HO.lst ((List.replicate (a.length + b.length - 1) t0).map V.ref)) := by
      rw [upd_same, flat_repQ, hm.1]
    have s4 : Same H3 (upd H3 fo (HO.lst (List.replicate m.toNat [V.ref t0]).flatten)) := same_upd nfo
    generalize upd H3 fo (HO.lst (List.replicate m.toNat [V.ref t0]).flatten) = H4 at efo s4 ⊢
    have s04 : Same H H4 := s12.trans (s3.trans s4)
    have nfoH : H fo = none := (s12.trans s3).free nfo
    have tz : TR H4 t0 0 := s4 _ _ (s3 _ _ (s2 _ _ et0))
    have fo1 : l1 ≠ fo := ne_of_none e1 nfoH
    have fo2 : l2 ≠ fo := ne_of_none e2 nfoH
    generalize hL : a.length + b.length - 1 = L at efo
    have e0 : List.replicate L (0 : Rat) = tab L (pt a b 0 0) := by
      refine List.ext_getElem (by rw [List.length_replicate, tab_len]) fun j h1 h2 => ?_
      rw [← cf_lt h1, ← cf_lt h2, cf_rep0, cf_tab, if_pos (by rw [List.length_replicate] at h1; exact h1), pt_zero]
    have t4 := tups_rep0 tz L
    rw [e0] at t4
    refine ⟨_, rfl, l1, _, rfl, .inl (SqL.of (s04 _ _ e1)), ?_⟩
    rw [List.length_map, n1]
    refine ⟨_, rfl, by omega, by omega, for_range (lo := 0) (n := ((a.length : Nat) : Int).toNat) (fun i σ H' => ∃ v3 v4 zs, σ = [some (.ref l1), some (.ref l2), some (.ref fo), v3, v4] ∧ Same H H' ∧ H' fo = some (.lst (zs.map V.ref)) ∧ Tups H' zs ((tab L (pt a b i 0)).map pq)) ⟨none, none, _, rfl, s04, efo, t4⟩ ?_ ?_⟩
    · rintro i σ H5 hi ⟨v3, v4, zs, rfl, s5, e5, t5⟩
      have hi : i < a.length := by omega
      obtain ⟨ra, ha1, ha2⟩ := t1.getQ hi
      refine ⟨_, rfl, l2, _, rfl, .inl (SqL.of (s5 _ _ e2)), ?_⟩
      rw [List.length_map, n2]
      refine ⟨_, rfl, by omega, by omega, for_range (lo := 0) (n := ((b.length : Nat) : Int).toNat) (fun k σ H' => ∃ v4 zs, σ = [some (.ref l1), some (.ref l2), some (.ref fo), some (.int (0 + (i : Int))), v4] ∧ Same H H' ∧ H' fo = some (.lst (zs.map V.ref)) ∧ Tups H' zs ((tab L (pt a b i k)).map pq)) ⟨_, _, rfl, s5, e5, t5⟩ ?_ ?_⟩
      · rintro k σ H6 hk ⟨v4, zs, rfl, s6, e6, t6⟩
        have hk : k < b.length := by omega
        have hik : i + k < L := by omega
        obtain ⟨rb, hb1, hb2⟩ := t2.getQ hk
        obtain ⟨rc, hc1, hc2⟩ := t6.getQ (i := i + k) (by rw [tab_len]; exact hik)
        rw [cf_tab, if_pos hik] at hc2
        have ix : (0 + (i : Int)) + (0 + (k : Int)) = ((i + k : Nat) : Int) := by omega
        have gc : (zs.map V.ref)[i + k]? = some (V.ref rc) := by rw [List.getElem?_map, hc1]; rfl
        have ga : (as.map V.ref)[i]? = some (V.ref ra) := by rw [List.getElem?_map, ha1]; rfl
        have gb : (bs.map V.ref)[k]? = some (V.ref rb) := by rw [List.getElem?_map, hb1]; rfl
        refine ⟨_, rfl, _, rfl, _, rfl, _, _, rfl, rfl, fo, _, _, .ref rc, rfl, rfl, SqL.of e6, at_of ix gc, ?_⟩
        refine ⟨_, rfl, _, rfl, l1, _, _, .ref ra, rfl, rfl, SqL.of (s6 _ _ e1), at_of (by omega) ga, _, rfl, _, rfl, l2, _, _, .ref rb, rfl, rfl, SqL.of (s6 _ _ e2), at_of (by omega) gb, ?_⟩
        refine ⟨ra, rb, cf a i, cf b k, rfl, ha2.same s6, hb2.same s6, sA i, sB k, fun r7 H7 s7 nr7 er7 => ?_⟩
        refine ⟨rc, r7, _, _, rfl, hc2.same s7, er7, sP i k _ (by omega), sM i k, fun r8 H8 s8 nr8 er8 => ?_⟩
        have s78 := s7.trans s8
        have e8 := s78 _ _ e6
        have zl := t6.lenQ
        rw [tab_len] at zl
        have hix : ixN (zs.map V.ref).length ((0 + (i : Int)) + (0 + (k : Int))) = some (i + k) := by
          unfold ixN
          rw [ix, if_pos (by omega), List.length_map, zl, if_pos (by omega)]
          rfl
        refine ⟨_, rfl, _, rfl, _, rfl, _, _, rfl, rfl, fo, _, _, i + k, rfl, rfl, e8, hix, ?_⟩
        refine ⟨_, zs.set (i + k) r8, rfl, (fun b' o' e' => ?_), ?_, ?_⟩
        · rw [upd_ne (ne_of_none e' nfoH)]
          exact s78 _ _ (s6 _ _ e')
        · rw [upd_same, List.map_set]
        · have up : ∀ (c : Addr) (p : Int × Int), H8 c = some (.tup [.int p.1, .int p.2]) → upd H8 fo (.lst ((zs.map V.ref).set (i + k) (V.ref r8))) c = some (.tup [.int p.1, .int p.2]) := fun c p z => by
            rw [upd_ne (ne_of z e8 (by intro z; cases z))]
            exact z
          have er8' : TR H8 r8 (pt a b i k (i + k) + cf a i * cf b k) := er8
          have t8 := ((t6.same s78).setQ (i + k) er8').imp up
          have eq : (tab L (pt a b i k)).set (i + k) (pt a b i k (i + k) + cf a i * cf b k) = tab L (pt a b i (k + 1)) := by
            refine List.ext_getElem (by rw [List.length_set, tab_len, tab_len]) fun j h1 h2 => ?_
            rw [tab_len] at h2
            rw [← cf_lt h1, ← cf_lt (by rw [tab_len]; exact h2), cf_set (by rw [tab_len]; exact hik), cf_tab, cf_tab, if_pos h2, if_pos h2, pt_next]
            split
            · rename_i h; rw [h]
            · rfl
          rw [eq] at t8
          exact t8
      · rintro σ H6 ⟨v4, zs, rfl, s6, e6, t6⟩
        refine ⟨_, _, zs, rfl, s6, e6, ?_⟩
        have eq : tab L (pt a b i ((b.length : Nat) : Int).toNat) = tab L (pt a b (i + 1) 0) := by
          rw [Int.toNat_natCast]
          unfold tab
          refine List.map_congr_left fun j _ => (pt_row a b i j).symm
        rw [eq] at t6
        exact t6
    · rintro σ H5 ⟨v3, v4, zs, rfl, s5, e5, t5⟩
      refine ⟨_, rfl, ?_⟩
      have eq : tab L (pt a b ((a.length : Nat) : Int).toNat 0) = pmul a b := by
        rw [Int.toNat_natCast]
        unfold pmul
        rw [hL]
        unfold tab
        refine List.map_congr_left fun j _ => pt_end a b j
      rw [eq] at t5
      refine lpoly_qn (E := E0) ⟨zs, e5, t5⟩ (by unfold pmul; rw [tab_len]; omega) fun l' H'' s' n' r => q l' H'' (s5.trans s') (s5.free n') r
end
end Vf
set_option maxRecDepth 100000
set_option maxHeartbeats 4000000
namespace Vf
open PySem PySem.Spec PyProof.Rows L2
/-- a list (true) or a tuple (false) of these items -/
def SqB (p : Bool) (K : PySem.W.Frag) (H : Hp) (a : Addr) (xs : List V) : Prop := match p with
  | true => SqL K H a xs
  | false => SqT K H a xs
def ItB (p : Bool) (h : Heap) (it a : Addr) (i : Nat) : Prop := match p with
  | true => h.IsListIter it a i
  | false => h.IsTupleIter it a i
def ArB (p : Bool) (h : Heap) (a : Addr) (items : Array Value) : Prop := match p with
  | true => h.IsList a items
  | false => h.IsTuple a items
theorem SqB.same {p : Bool} {K : PySem.W.Frag} {H H' : Hp} {a : Addr} {xs : List V} (h : SqB p K H a xs) (s : Same H H') : SqB p K H' a xs := by
  cases p
  · exact same_sqT s h
  · exact same_sqL s h
theorem drawsB {prog : Program} {w : World} {A : Around} (p : Bool) (hh : A.handled = none) (it l : Addr) (hne : l ≠ it) (items : Array Value) :
    Draws prog w A it [it, l] items.size (fun i v => items[i]? = some v) (fun i h => ItB p h it l i ∧ ArB p h l items) := by
  cases p
  · exact Draws.tuple hh it l hne items
  · exact Draws.list hh it l hne items
def obB (p : Bool) (a : Addr) : Obj := match p with
  | true => { cls := .type "list_iterator", data := .fields #[.ref a, .int 0 0] }
  | false => { cls := .type "tuple_iterator", data := .fields #[.ref a, .int 0 0] }
theorem beginsB (p : Bool) (a : Addr) (items : Array Value) : Begins (.ref a) (obB p a) fun h => ArB p h a items := by
  cases p
  · exact begins_tuple a items
  · exact begins_list a items
theorem itB_of {p : Bool} {h : Heap} {it a : Addr} (e : h.get? it = some (obB p a)) : ItB p h it a 0 := by
  cases p
  · exact ⟨_, e, rfl, rfl⟩
  · exact ⟨_, e, rfl, rfl⟩
theorem ItB.at {p : Bool} {h h' : Heap} {it a : Addr} {i : Nat} (st : ItB p h it a i) (k : ∀ o, h.get? it = some o → h'.get? it = some o) : ItB p h' it a i := by
  cases p
  · exact Heap.IsTupleIter.at st k
  · exact Heap.IsListIter.at st k
theorem ItB.obj {p : Bool} {h : Heap} {it a : Addr} {i : Nat} (st : ItB p h it a i) : ∃ o, h.get? it = some o ∧ ∀ v, o.data ≠ .cell v := by
  cases p
  · obtain ⟨o, e, _, d⟩ := st
    exact ⟨o, e, fun v z => by rw [d] at z; cases z⟩
  · obtain ⟨o, e, _, d⟩ := st
    exact ⟨o, e, fun v z => by rw [d] at z; cases z⟩
section
variable {X : Cx} {pins : List (Addr × Obj)} {σ : L2.St} {H : Hp} {s : Shared}
theorem seqB (I : Inv X pins σ H s) {p : Bool} {a : Addr} {xs : List V} (h : SqB p X.K H a xs) : ∃ its : List Value, Vals xs its ∧ ArB p s.heap a its.toArray := by
  cases p
  · obtain ⟨its, rv, q, _⟩ := I.tuple h
    exact ⟨its, rv, q⟩
  · obtain ⟨its, rv, q, _⟩ := I.list h
    exact ⟨its, rv, q.isList⟩
theorem seqB_inj (I : Inv X pins σ H s) {p : Bool} {a : Addr} {xs ys : List V} (h1 : SqB p X.K H a xs) (h2 : SqB p X.K H a ys) : xs = ys := by
  cases p
  · exact I.tuple_inj h1 h2
  · exact I.list_inj h1 h2
theorem ArB.lt {p : Bool} {h : Heap} {a : Addr} {its : Array Value} (q : ArB p h a its) : a < h.objs.size := by
  cases p
  · obtain ⟨o, e, _⟩ := q
    exact Heap.lt_size e
  · obtain ⟨o, e, _⟩ := q
    exact Heap.lt_size e
end
/-- the lists or tuples at a and b as they stand at each turn, the items in new pairs -/
def ItzB (p q : Bool) (K : PySem.W.Frag) (a b : Addr) : It :=
  ⟨fun i H => ∃ (xs ys : List V) (x y : V), SqB p K H a xs ∧ SqB q K H b ys ∧ xs[i]? = some x ∧ ys[i]? = some y,
    fun i H v H' => ∃ T x y, v = .ref T ∧ H T = none ∧ H' = upd H T (.tup [x, y]) ∧ (∀ xs, SqB p K H a xs → xs[i]? = some x) ∧ ∀ ys, SqB q K H b ys → ys[i]? = some y,
    fun i H => ∃ xs ys : List V, SqB p K H a xs ∧ SqB q K H b ys ∧ i ≤ xs.length ∧ i ≤ ys.length ∧ (xs.length = i ∨ ys.length = i)⟩
theorem sepB {a b z TI TO i1 i2 : Addr} (D : ZipApart z TI TO i1 i2 a b) : ZipSep2 z TI TO i1 i2 [i1, a] [i2, b] where
  TIz := D.TIz
  TOz := D.TOz
  TITO := D.TITO
  TIi1 := D.TIi1
  mem1 := by simp
  zf1 := by simp [D.i1z.symm, D.l1z.symm]
  Tf1 := by simp [D.TOi1, D.l1TO.symm]
  TIi2 := D.TIi2
  mem2 := by simp
  zf2 := by simp [D.i2z.symm, D.l2z.symm]
  Tf2 := by simp [D.TOi2, D.l2TO.symm]
  sep1_2 := by simp [D.i12, D.l2i1.symm]
  sep2_1 := by simp [D.i12.symm, D.l1i2.symm]
theorem turn_zipB {P : Program} {w : World} {K : PySem.W.Frag} {elts : List Expr} {kk : Nat} {tpos : Pos} (p q : Bool) {a b z TI TO i1 i2 : Addr} (D : ZipApart z TI TO i1 i2 a b) :
    Turn P w K (.Tuple elts kk tpos) (ItzB p q K a b) [z, TI, TO, i1, i2] z (fun i h => IsZip h z TI TO .none ∧ IsPair h TI (.ref i1) (.ref i2) ∧ (∃ x y, IsPair h TO x y) ∧ ItB p h i1 a i ∧ ItB q h i2 b i) where
  mem := by simp
  obj := fun i h st c hc => by
    obtain ⟨hz, hTI, ⟨x, y, hTO⟩, h1, h2⟩ := st
    have e' : c = z ∨ c = TI ∨ c = TO ∨ c = i1 ∨ c = i2 := by simpa using hc
    rcases e' with q | q | q | q | q
    · rw [q]; exact ⟨_, hz, fun v q => nomatch q⟩
    · rw [q]; exact ⟨_, hTI, fun v q => nomatch q⟩
    · rw [q]; exact ⟨_, hTO, fun v q => nomatch q⟩
    · rw [q]; exact h1.obj
    · rw [q]; exact h2.obj
  keep := fun i h h' st k => by
    obtain ⟨hz, hTI, ⟨x, y, hTO⟩, h1, h2⟩ := st
    exact ⟨k z (by simp) _ hz, k TI (by simp) _ hTI, ⟨x, y, k TO (by simp) _ hTO⟩, h1.at fun o q => k i1 (by simp) o q, h2.at fun o q => k i2 (by simp) o q⟩
  item := by
    intro X hP hw hK hc i pins s σ H E I hf st hg
    subst hP hw hK
    obtain ⟨hz, hTI, ⟨x0, y0, hTO⟩, h1, h2⟩ := st
    obtain ⟨xs, ys, x, y, hqx, hqy, hx, hy⟩ := hg
    obtain ⟨its, rv, p1⟩ := seqB I hqx
    obtain ⟨its2, rv2, p2⟩ := seqB I hqy
    obtain ⟨u, hu, ru⟩ := rv.get hx
    obtain ⟨u2, hu2, ru2⟩ := rv2.get hy
    have hzl : z < s.heap.objs.size := Heap.lt_size hz
    have hh : X.A.in1.handled = none := I.ok.hd hc
    have l1 : i < its.toArray.size := by
      have := (List.getElem?_eq_some_iff.mp hu).1
      simpa using this
    have l2 : i < its2.toArray.size := by
      have := (List.getElem?_eq_some_iff.mp hu2).1
      simpa using this
    refine wpAny_pyNext_zipD2_item (sepB D) (drawsB p hh i1 a D.l1i1 its.toArray) (drawsB q hh i2 b D.l2i2 its2.toArray) hz hTI hTO ⟨h1, p1⟩ ⟨h2, p2⟩ l1 l2 fun u' u2' h' tk e1 e2 z' TO' h1' h2' hT hsz hk => ?_
    have eu : u' = u := by
      rw [List.getElem?_toArray, hu] at e1
      exact (Option.some.inj e1).symm
    have eu2 : u2' = u2 := by
      rw [List.getElem?_toArray, hu2] at e2
      exact (Option.some.inj e2).symm
    subst eu eu2
    refine ⟨_, rfl, wpAny_letOwnedTupleGo_zip (s := { s with heap := h', toks := tk }) z' fun h'' z'' sb => ?_⟩
    have hT2 : h''.get? s.heap.objs.size = some { cls := .type "tuple", data := .seq #[u', u2'] } := (sb.2 _ (Nat.ne_of_gt hzl)).trans hT
    have new : ObjOk X.prog X.w (upd H s.heap.objs.size (.tup [x, y])) h'' s.heap.objs.size (.tup [x, y]) :=
      ⟨by show 2 ≤ sizeLine; decide, [u', u2'], .cons ru (.cons ru2 .nil), ⟨_, hT2, rfl, _, rfl⟩⟩
    have I1 : Inv X pins σ (upd H s.heap.objs.size (.tup [x, y])) { s with heap := h'', toks := tk } :=
      I.turnedNew (t' := tk) (ch := [z, TI, TO, i1, i2]) (fun c o hb q => (sb.2 c (fun q' => hb (by simp [q']))).trans (hk c o (fun q' => hb (by simp [q'])) (fun q' => hb (by simp [q'])) (fun q' => hb (by simp [q'])) (fun q' => hb (by simp [q'])) q)) hf (Nat.le_refl _) new
    refine ⟨.ref s.heap.objs.size, _, I1, rfl, ⟨_, x, y, rfl, I.hok.fresh (Nat.le_refl _), rfl, fun l hl => by rw [seqB_inj I hl hqx]; exact hx, fun l hl => by rw [seqB_inj I hl hqy]; exact hy⟩, ⟨z'', ?_, ⟨u', u2', ?_⟩, ?_, ?_⟩, fun c hcm => ?_⟩
    · exact (sb.2 _ D.TIz).trans (hk _ _ D.TIz D.TITO D.TIi1 D.TIi2 hTI)
    · exact (sb.2 _ D.TOz).trans TO'
    · exact h1'.1.at fun o q => (sb.2 _ D.i1z).trans q
    · exact h2'.1.at fun o q => (sb.2 _ D.i2z).trans q
    · have hlt : c < s.heap.objs.size := by
        have e' : c = z ∨ c = TI ∨ c = TO ∨ c = i1 ∨ c = i2 := by simpa using hcm
        rcases e' with q | q | q | q | q
        · rw [q]; exact hzl
        · rw [q]; exact Heap.lt_size hTI
        · rw [q]; exact Heap.lt_size hTO
        · rw [q]; obtain ⟨_, e1, _⟩ := h1.obj; exact Heap.lt_size e1
        · rw [q]; obtain ⟨_, e1, _⟩ := h2.obj; exact Heap.lt_size e1
      rw [upd_ne (Nat.ne_of_lt hlt)]
      exact (hf c hcm).1
  done := by
    intro X hP hw hK hc i pins s σ H E I hf st hg
    subst hP hw hK
    obtain ⟨hz, hTI, ⟨x0, y0, hTO⟩, h1, h2⟩ := st
    obtain ⟨xs, ys, hqx, hqy, le1, le2, hend⟩ := hg
    obtain ⟨its, rv, p1⟩ := seqB I hqx
    obtain ⟨its2, rv2, p2⟩ := seqB I hqy
    have l1 := rv.length
    have l2 := rv2.length
    have hh : X.A.in1.handled = none := I.ok.hd hc
    have s1 : its.toArray.size = its.length := by simp
    have s2 : its2.toArray.size = its2.length := by simp
    refine wpAny_pyNext_zipD2_end (sepB D) (drawsB p hh i1 a D.l1i1 its.toArray) (drawsB q hh i2 b D.l2i2 its2.toArray) hz hTI hTO ⟨h1, p1⟩ ⟨h2, p2⟩ (by rw [s1]; omega) (by rw [s2]; omega) (by rw [s1, s2]; omega) fun h' tk hk => ⟨rfl, I.turnedL (t' := tk) (ch := [z, TI, TO, i1, i2]) (fun c o hb q =>
      hk c o (fun q' => hb (by simp [q'])) (fun q' => hb (by simp [q'])) (fun q' => hb (by simp [q'])) (fun q' => hb (by simp [q'])) q) hf⟩
  self := fun A i s Q E st h => wpAny_pyIter_zip st.1 h
def iZipB (K : PySem.W.Frag) (ta : TA) : TI := fun σ H R => ta σ H fun vs H1 => ∃ p q a b xs ys, vs = [.ref a, .ref b] ∧ SqB p K H1 a xs ∧ SqB q K H1 b ys ∧ R (ItzB p q K a b) H1
theorem pi_zipB {X : Cx} {e e2 : Expr} {ta : TA} {p pos tpos : Pos} {elts : List Expr} {kk : Nat} (hg : Gl X "zip") (hm : X.mg "zip" = none) (ha : PA X [e, e2] ta)
    (hs : starEach [e, e2] X.env = (false, eval e X.env) :: starEach [e2] X.env := by rfl) (hpl : (backTo pos (starEach [e2] X.env)).any (·.1) = false := by rfl) :
    PI X (.Tuple elts kk tpos) (.Call (.Name "zip" p) [e, e2] [] pos) (iZipB X.K ta) := by
  refine ⟨fun pins s σ H R I h => ?_⟩
  refine Call_ (ld_blt I hg hm PyProof.Rows.boot_zip (PyProof.Rows.callWith_type1 (thn (ha.run pos pins s σ H _ I h) fun us s1 ⟨vs, H1, I1, r1, q1⟩ => ?_) hs hpl))
  obtain ⟨p, q, a, b, xs, ys, ex, hqx, hqy, g⟩ := q1
  subst ex
  cases r1 with
  | cons r rr =>
    cases rr with
    | cons r' rr =>
      cases rr
      cases r
      cases r'
      have fresh5 : ∀ c, c ∈ [s1.heap.objs.size + 4, s1.heap.objs.size + 2, s1.heap.objs.size + 3, s1.heap.objs.size, s1.heap.objs.size + 1] → FpOk X pins H1 c := fun c hcm => by
        have e' : c = s1.heap.objs.size + 4 ∨ c = s1.heap.objs.size + 2 ∨ c = s1.heap.objs.size + 3 ∨ c = s1.heap.objs.size ∨ c = s1.heap.objs.size + 1 := by simpa using hcm
        have hle : s1.heap.objs.size ≤ c := by
          rcases e' with z | z | z | z | z
          · rw [z]; exact Nat.le_add_right _ _
          · rw [z]; exact Nat.le_add_right _ _
          · rw [z]; exact Nat.le_add_right _ _
          · rw [z]; exact Nat.le_refl _
          · rw [z]; exact Nat.le_add_right _ _
        exact I1.fpOk hle (I1.hok.fresh hle)
      obtain ⟨its, rv, p1⟩ := seqB I1 hqx
      obtain ⟨its2, rv2, p2⟩ := seqB I1 hqy
      refine zip_begins2 (beginsB p a its.toArray) (beginsB q b its2.toArray) p1 p2 fun h' hz hTI hTO h1 h2 hsz hk => wpAny_pyIter_zip hz ?_
      have I2 : Inv X pins σ H1 { s1 with heap := h' } := I1.kept (t' := s1.toks) hk
      exact ⟨s1.heap.objs.size + 4, [s1.heap.objs.size + 4, s1.heap.objs.size + 2, s1.heap.objs.size + 3, s1.heap.objs.size, s1.heap.objs.size + 1], _, _, H1, rfl, I2, turn_zipB p q (PySem.W.ktu_apart s1.heap.objs.size a b p1.lt p2.lt), ⟨hz, hTI, ⟨_, _, hTO⟩, itB_of h1, itB_of h2⟩, fresh5, g⟩
end Vf
set_option maxRecDepth 100000
set_option maxHeartbeats 4000000
namespace Vf
open PySem PySem.Spec PyProof.Rows L2
/-- a comprehension over zip of two rows of any lengths -/
theorem lc_zipM {p q : Bool} {K : PySem.W.Frag} {a b : Addr} {xs ys : List V} {g : TG} {tt : TT} {te : TE} {vs : List Nat} {σ : L2.St} {H1 : Hp} {D : Addr} {Qd : Hp → Prop} (n : Nat) (hn : n = min xs.length ys.length) (Pv : Nat → Hp → Prop) (h0 : Pv 0 (upd H1 D (.lst [])))
    (hq : ∀ i H, Pv i H → SqB p K H a xs ∧ SqB q K H b ys)
    (hs : ∀ (i : Nat) (x y : V) (T : Addr) (H : Hp), i < n → xs[i]? = some x → ys[i]? = some y → Pv i H → H T = none → g (.ref T) (wipe σ vs) (upd H T (.tup [x, y])) fun σ2 H2 => wipe σ2 vs = wipe σ vs ∧ tt σ2 H2 fun b H3 =>
      if b = true then te σ2 H3 fun y H4 => ∃ acc, H4 D = some (.lst acc) ∧ acc.length < sizeLine ∧ Pv (i + 1) (upd H4 D (.lst (acc ++ [y]))) else Pv (i + 1) H3) (hd : ∀ H, Pv n H → Qd H) :
    ∃ W : Nat → Nat → Hp → Prop, (∃ m, W 0 m (upd H1 D (.lst []))) ∧ ∀ i m H, W i m H →
      (((ItzB p q K a b).stop i H ∧ Qd H) ∨ ((ItzB p q K a b).go i H ∧ ∃ Nx : Hp → Prop, (∀ H', Nx H' → ∃ m', m' < m ∧ W (i + 1) m' H') ∧ ∀ x H', (ItzB p q K a b).yld i H x H' → g x (wipe σ vs) H' fun σ2 H2 => wipe σ2 vs = wipe σ vs ∧ tt σ2 H2 fun b H3 =>
        if b = true then te σ2 H3 fun y H4 => ∃ acc, H4 D = some (.lst acc) ∧ acc.length < sizeLine ∧ Nx (upd H4 D (.lst (acc ++ [y]))) else Nx H3)) := by
  refine ⟨fun i m H => m = n - i ∧ i ≤ n ∧ Pv i H, ⟨n, by simp, Nat.zero_le _, h0⟩, ?_⟩
  rintro i m H ⟨rfl, hi, pv⟩
  obtain ⟨qx, qy⟩ := hq i H pv
  by_cases hlt : i < n
  · have h1 : i < xs.length := by omega
    have h2 : i < ys.length := by omega
    have hx : xs[i]? = some xs[i] := List.getElem?_eq_getElem h1
    have hy : ys[i]? = some ys[i] := List.getElem?_eq_getElem h2
    refine .inr ⟨⟨xs, ys, xs[i], ys[i], qx, qy, hx, hy⟩, Pv (i + 1), fun H' p' => ⟨n - (i + 1), by omega, rfl, hlt, p'⟩, fun v H' y => ?_⟩
    obtain ⟨T, x', y', e1, m, e2, h1, h2⟩ := y
    rw [e1, e2]
    exact hs i x' y' T H hlt (h1 xs qx) (h2 ys qy) pv m
  · have e : i = n := by omega
    subst e
    exact .inl ⟨⟨xs, ys, qx, qy, by omega, by omega, by omega⟩, hd H pv⟩
end Vf
set_option maxRecDepth 100000
set_option maxHeartbeats 4000000
set_option maxRecDepth 100000
namespace Vf
def ev : List Rat → Rat → Rat
  | [], _ => 0
  | a :: r, x => a + x * ev r x
theorem cf_cons (a : Rat) (r : List Rat) (i : Nat) : cf (a :: r) i = if i = 0 then a else cf r (i - 1) := by
  cases i with
  | zero => rfl
  | succ i => rfl
theorem sm_head (f : Nat → Rat) : ∀ n, sm f (n + 1) = f 0 + sm (fun i => f (i + 1)) n
  | 0 => by show 0 + f 0 = f 0 + 0; grind
  | n + 1 => by
    show sm f (n + 1) + f (n + 1) = f 0 + (sm (fun i => f (i + 1)) n + f (n + 1))
    rw [sm_head f n]; grind
theorem sm_mulr (f : Nat → Rat) (c : Rat) : ∀ n, sm (fun i => f i * c) n = sm f n * c
  | 0 => by show (0 : Rat) = 0 * c; grind
  | n + 1 => by
    show sm (fun i => f i * c) n + f n * c = (sm f n + f n) * c
    rw [sm_mulr f c n]; grind
theorem sm_mull (f : Nat → Rat) (c : Rat) : ∀ n, sm (fun i => c * f i) n = c * sm f n
  | 0 => by show (0 : Rat) = c * 0; grind
  | n + 1 => by
    show sm (fun i => c * f i) n + c * f n = c * (sm f n + f n)
    rw [sm_mull f c n]; grind
theorem sm_addd (f g : Nat → Rat) : ∀ n, sm (fun i => f i + g i) n = sm f n + sm g n
  | 0 => by show (0 : Rat) = 0 + 0; grind
  | n + 1 => by
    show sm (fun i => f i + g i) n + (f n + g n) = (sm f n + f n) + (sm g n + g n)
    rw [sm_addd f g n]; grind
theorem ev_sm (x : Rat) : ∀ (l : List Rat) (n : Nat), l.length ≤ n → ev l x = sm (fun i => cf l i * x ^ i) n
  | [], n, _ => by
    show (0 : Rat) = _
    rw [sm_zero fun i _ => by rw [cf_nil]; grind]
  | a :: r, 0, h => by simp at h
  | a :: r, n + 1, h => by
    rw [sm_head]
    show a + x * ev r x = cf (a :: r) 0 * x ^ 0 + sm (fun i => cf (a :: r) (i + 1) * x ^ (i + 1)) n
    rw [ev_sm x r n (by simpa using h), ← sm_mull]
    have e : sm (fun i => x * (cf r i * x ^ i)) n = sm (fun i => cf (a :: r) (i + 1) * x ^ (i + 1)) n := sm_ext fun i _ => by
      rw [show cf (a :: r) (i + 1) = cf r i from rfl, Rat.pow_succ]; grind
    rw [e, show cf (a :: r) 0 = a from rfl, Rat.pow_zero]; grind
theorem ev_ext {a b : List Rat} (h : ∀ i, cf a i = cf b i) (x : Rat) : ev a x = ev b x := by
  rw [ev_sm x a (max a.length b.length) (by omega), ev_sm x b (max a.length b.length) (by omega)]
  exact sm_ext fun i _ => by rw [h]
theorem ev_stripQ (l : List Rat) (x : Rat) : ev (stripQ l) x = ev l x := ev_ext (cf_stripQ l) x
theorem ev_padd (a b : List Rat) (x : Rat) : ev (padd a b) x = ev a x + ev b x := by
  have l : (padd a b).length = max a.length b.length := by unfold padd; rw [tab_len]
  rw [ev_sm x a (max a.length b.length) (by omega), ev_sm x b (max a.length b.length) (by omega), ev_sm x _ (max a.length b.length) (by omega), ← sm_addd]
  exact sm_ext fun i _ => by rw [cf_padd]; grind
theorem ev_pscale (a : List Rat) (c x : Rat) : ev (pscale a c) x = ev a x * c := by
  have l : (pscale a c).length = a.length := by unfold pscale; rw [List.length_map]
  rw [ev_sm x a a.length (by omega), ev_sm x _ a.length (by omega), ← sm_mulr]
  exact sm_ext fun i _ => by rw [show cf (pscale a c) i = cf a i * c from cf_map (f := (· * c)) (Rat.zero_mul c) a i]; grind
theorem pc_cons (a : Rat) (r b : List Rat) (k : Nat) : pc (a :: r) b k = a * cf b k + if k = 0 then 0 else pc r b (k - 1) := by
  unfold pc
  rw [sm_head]
  show cf (a :: r) 0 * cf b (k - 0) + sm (fun i => cf (a :: r) (i + 1) * cf b (k - (i + 1))) k = _
  rw [show cf (a :: r) 0 = a from rfl, Nat.sub_zero]
  congr 1
  split
  · next h => rw [h]; rfl
  · next h =>
    rw [show k - 1 + 1 = k by omega]
    exact sm_ext fun i hi => by rw [show cf (a :: r) (i + 1) = cf r i from rfl, show k - (i + 1) = k - 1 - i by omega]
theorem ev_pc (x : Rat) (b : List Rat) : ∀ (a : List Rat) (n : Nat), a.length + b.length ≤ n + 1 → sm (fun k => pc a b k * x ^ k) n = ev a x * ev b x
  | [], n, h => by
    rw [sm_zero fun k _ => by rw [show pc [] b k = 0 from by unfold pc; exact sm_zero fun i _ => by rw [cf_nil]; grind]; grind]
    show (0 : Rat) = 0 * _
    grind
  | a :: r, n, h => by
    have h' : r.length + b.length ≤ n := by simp at h; omega
    show _ = (a + x * ev r x) * ev b x
    have e1 : sm (fun k => pc (a :: r) b k * x ^ k) n = sm (fun k => a * (cf b k * x ^ k)) n + sm (fun k => (if k = 0 then 0 else pc r b (k - 1)) * x ^ k) n := by
      rw [← sm_addd]
      exact sm_ext fun k _ => by rw [pc_cons]; grind
    rw [e1, sm_mull, ← ev_sm x b n (by omega)]
    cases n with
    | zero =>
      have hb : b = [] := List.length_eq_zero_iff.mp (by omega)
      subst hb
      show a * 0 + 0 = (a + x * ev r x) * 0
      grind
    | succ n =>
      rw [sm_head]
      have e2 : sm (fun i => (if i + 1 = 0 then 0 else pc r b (i + 1 - 1)) * x ^ (i + 1)) n = x * sm (fun k => pc r b k * x ^ k) n := by
        rw [← sm_mull]
        exact sm_ext fun i _ => by rw [if_neg (by omega), Nat.add_sub_cancel, Rat.pow_succ]; grind
      rw [e2, ev_pc x b r n (by omega)]
      grind
theorem ev_pmul (a b : List Rat) (x : Rat) : ev (pmul a b) x = ev a x * ev b x := by
  by_cases h : a.length + b.length = 0
  · have ha : a = [] := List.length_eq_zero_iff.mp (by omega)
    have hb : b = [] := List.length_eq_zero_iff.mp (by omega)
    subst ha; subst hb
    show (0 : Rat) = 0 * 0
    grind
  · have l : (pmul a b).length = a.length + b.length - 1 := by unfold pmul; rw [tab_len]
    rw [ev_sm x (pmul a b) (a.length + b.length - 1) (by omega), ← ev_pc x b a (a.length + b.length - 1) (by omega)]
    exact sm_ext fun i _ => by rw [cf_pmul]
def absR (x : Rat) : Rat := if x < 0 then -x else x
theorem absR_nn (x : Rat) : 0 ≤ absR x := by unfold absR; split <;> grind
theorem absR_add (x y : Rat) : absR (x + y) ≤ absR x + absR y := by unfold absR; split <;> split <;> split <;> grind
theorem mul_nn {a b : Rat} (h : 0 ≤ a) (h2 : 0 ≤ b) : 0 ≤ a * b := Rat.mul_nonneg h h2
theorem absR_le {x m : Rat} (h1 : x ≤ m) (h2 : -x ≤ m) : absR x ≤ m := by unfold absR; split <;> assumption
theorem absR_self (x : Rat) : x ≤ absR x ∧ -x ≤ absR x := by unfold absR; split <;> constructor <;> grind
theorem absR_mul_le {x y z : Rat} (hx : absR x ≤ z) : absR (x * y) ≤ z * absR y := by
  have h0 := absR_nn y
  have h1 := absR_self x
  unfold absR at h0 ⊢
  split at h0 <;> split <;> rename_i h2 h3 <;> (have := mul_nn (show 0 ≤ z + x by grind) h0; have := mul_nn (show 0 ≤ z - x by grind) h0; grind)
def tot : List Rat → Rat
  | [] => 0
  | a :: r => absR a + tot r
theorem tot_nn : ∀ l : List Rat, 0 ≤ tot l
  | [] => by decide
  | a :: r => by have := absR_nn a; have := tot_nn r; show 0 ≤ absR a + tot r; grind
theorem ev_small {x : Rat} (hx : absR x ≤ 1) : ∀ l : List Rat, absR (ev l x) ≤ tot l
  | [] => by show absR 0 ≤ 0; decide
  | a :: r => by
    have h1 := absR_add a (x * ev r x)
    have h2 := absR_mul_le (y := ev r x) hx
    have h3 := ev_small hx r
    show absR (a + x * ev r x) ≤ absR a + tot r
    grind
theorem ev_zero : ∀ (l : List Rat), (∀ x, x ≠ 0 → ev l x = 0) → ∀ i, cf l i = 0
  | [], _, i => cf_nil i
  | a :: r, h, i => by
    have ha : a = 0 := by
      refine Decidable.byContradiction fun na => ?_
      have t0 := tot_nn r
      have a0 := absR_nn a
      have ap : 0 < absR a := by
        have := absR_self a
        grind
      -- x = |a| / (|a| + tot + 1)
      have dp : 0 < absR a + tot r + 1 := by grind
      have dne : absR a + tot r + 1 ≠ 0 := by grind
      have xe : absR a / (absR a + tot r + 1) * (absR a + tot r + 1) = absR a := by grind
      generalize absR a / (absR a + tot r + 1) = x at xe
      have xp : 0 < x := by
        refine Decidable.byContradiction fun n => ?_
        have : 0 ≤ -x * (absR a + tot r + 1) := mul_nn (by grind) (by grind)
        grind
      have x1 : x ≤ 1 := by
        refine Decidable.byContradiction fun n => ?_
        have : 0 ≤ (x - 1) * (absR a + tot r + 1) := mul_nn (by grind) (by grind)
        grind
      have xa : absR x = x := by unfold absR; rw [if_neg (by grind)]
      have e := h x (by grind)
      have s := ev_small (x := x) (by rw [xa]; exact x1) r
      have e' : a = -(x * ev r x) := by have : a + x * ev r x = 0 := e; grind
      have m := absR_mul_le (x := x) (y := ev r x) (z := x) (by rw [xa]; grind)
      have n1 : absR a = absR (x * ev r x) := by rw [e']; unfold absR; split <;> split <;> grind
      have q : 0 ≤ x * (tot r - absR (ev r x)) := mul_nn (by grind) (by grind)
      have q2 : 0 ≤ x * absR a := mul_nn (by grind) a0
      grind
    subst ha
    have hr : ∀ i, cf r i = 0 := ev_zero r fun x hx => by
      have e : 0 + x * ev r x = 0 := h x hx
      have e2 : x * ev r x = 0 := by grind
      grind
    rw [cf_cons]
    split
    · rfl
    · exact hr _
theorem ev_inj {a b : List Rat} (h : ∀ x, x ≠ 0 → ev a x = ev b x) (i : Nat) : cf a i = cf b i := by
  have z := ev_zero (padd a (pscale b (-1))) (fun x hx => by rw [ev_padd, ev_pscale, h x hx]; grind) i
  rw [cf_padd, show cf (pscale b (-1)) i = cf b i * (-1) from cf_map (f := (· * (-1))) (Rat.zero_mul _) b i] at z
  grind
end Vf
set_option maxRecDepth 100000
namespace Vf
def ch : Nat → Nat → Nat
  | _, 0 => 1
  | 0, _ + 1 => 0
  | n + 1, k + 1 => ch n k + ch n (k + 1)
/-- the next of a row -/
def nx (b : Nat → Rat) : Nat → Rat := fun i => b (i + 1)
/-- the value of a row of corners, by the parts u and d -/
def bn : Nat → (Nat → Rat) → Rat → Rat → Rat
  | 0, b, _, _ => b 0
  | n + 1, b, u, d => d * bn n b u d + u * bn n (nx b) u d
def dl (b : Nat → Rat) : Nat → Nat → Rat
  | 0, m => b m
  | k + 1, m => dl b k (m + 1) - dl b k m
end Vf
set_option maxRecDepth 100000
namespace Vf
def qi (l : List Int) : List Rat := l.map (fun n : Int => (n : Rat))
theorem qi_len (l : List Int) : (qi l).length = l.length := List.length_map ..
theorem cf_qi (l : List Int) (i : Nat) : cf (qi l) i = ((ci l i : Int) : Rat) := by
  unfold qi cf ci
  rw [List.getD_eq_getElem?_getD, List.getD_eq_getElem?_getD, List.getElem?_map]
  cases l[i]? <;> rfl
def hz (s : Int) : List Int → Int
  | [] => 0
  | a :: r => a + s * hz s r
theorem ev_app (x : Rat) (b : List Rat) : ∀ a : List Rat, ev (a ++ b) x = ev a x + x ^ a.length * ev b x
  | [] => by show ev b x = 0 + x ^ 0 * ev b x; rw [Rat.pow_zero]; grind
  | c :: a => by
    show c + x * ev (a ++ b) x = c + x * ev a x + x ^ (a.length + 1) * ev b x
    rw [ev_app x b a, Rat.pow_succ]; grind
theorem qi_app (a b : List Int) : qi (a ++ b) = qi a ++ qi b := List.map_append
def Bd (R N : Nat) : List Int → Prop
  | [] => True
  | a :: r => a.natAbs ≤ N * R ^ r.length ∧ Bd R N r
theorem Bd.of {R N : Nat} (hR : 0 < R) : ∀ {l : List Int}, (∀ i, (ci l i).natAbs ≤ N) → Bd R N l
  | [], _ => trivial
  | a :: r, h => ⟨Nat.le_trans (h 0) (Nat.le_mul_of_pos_right _ (Nat.pow_pos hR)), Bd.of hR fun i => h (i + 1)⟩
theorem Bd.le {R N N' : Nat} (hN : N ≤ N') : ∀ {l : List Int}, Bd R N l → Bd R N' l
  | [], _ => trivial
  | a :: r, h => ⟨Nat.le_trans h.1 (Nat.mul_le_mul_right _ hN), Bd.le hN h.2⟩
theorem Bd.at {R N : Nat} (hR : 0 < R) : ∀ {l : List Int}, Bd R N l → ∀ i, (ci l i).natAbs ≤ N * R ^ l.length
  | [], _, i => by show 0 ≤ _; omega
  | a :: r, h, 0 => Nat.le_trans h.1 (Nat.mul_le_mul_left _ (Nat.pow_le_pow_right hR (Nat.le_succ _)))
  | a :: r, h, i + 1 => Nat.le_trans (Bd.at hR h.2 i) (Nat.mul_le_mul_left _ (Nat.pow_le_pow_right hR (Nat.le_succ _)))
theorem Bd.app {R N : Nat} : ∀ {a b : List Int}, Bd R N (a ++ b) → ∀ {c : List Int}, c.length = b.length → ∀ {N' : Nat}, N ≤ N' → Bd R N' c → Bd R N' (a ++ c)
  | [], b, h, c, e, N', hN, hc => hc
  | x :: a, b, h, c, e, N', hN, hc => ⟨by
      have h1 : x.natAbs ≤ N * R ^ (a ++ b).length := h.1
      rw [List.length_append] at h1
      show x.natAbs ≤ N' * R ^ (a ++ c).length
      rw [List.length_append, e]
      exact Nat.le_trans h1 (Nat.mul_le_mul_right _ hN), Bd.app (a := a) (b := b) h.2 e hN hc⟩
theorem Bd.drop {R N : Nat} : ∀ {l : List Int} (k : Nat), Bd R N l → Bd R N (l.drop k)
  | [], k, _ => by rw [List.drop_nil]; trivial
  | a :: r, 0, h => h
  | a :: r, k + 1, h => Bd.drop (l := r) k h.2
def acc : Nat → (Nat → Int) → Nat → Int
  | 0, f => f
  | m + 1, f => fun j => if j < m + 1 then acc m f j else acc m f j + acc m f (j - 1)
end Vf
set_option maxRecDepth 100000
set_option maxHeartbeats 8000000
namespace Vf
open PySem PySem.Spec PyProof.Rows L2
theorem Fr.den {M N : Nat} {r : Rat} (h : Fr M N r) : r.den ∣ M := by
  obtain ⟨n, e, _⟩ := h
  have h1 : r.num * (M : Int) = n * (r.den : Int) := by
    have e1 := num_den r
    have : ((r.num * (M : Int) : Int) : Rat) = ((n * (r.den : Int) : Int) : Rat) := by
      rw [Rat.intCast_mul, Rat.intCast_mul, ← e, ← e1]
      show r * (r.den : Rat) * (M : Rat) = r * (M : Rat) * (r.den : Rat)
      grind
    exact_mod_cast this
  have h2 : (r.den : Int) ∣ r.num * (M : Int) := ⟨n, by rw [h1, Int.mul_comm]⟩
  have h3 : r.den ∣ r.num.natAbs * M := by
    have := Int.natAbs_dvd_natAbs.mpr h2
    rw [Int.natAbs_natCast, Int.natAbs_mul, Int.natAbs_natCast] at this
    exact this
  exact Nat.Coprime.dvd_of_dvd_mul_left r.reduced.symm h3
theorem Fr.over {M N b : Nat} {q : Rat} {z : Int} (h : Fr M N q) (hb : b ∣ M) (hM : 0 < M) (e : q * (b : Rat) = (z : Rat)) : z.natAbs ≤ N := by
  obtain ⟨n, e2, hn⟩ := h
  obtain ⟨k, rfl⟩ := hb
  have : ((z * (k : Int) : Int) : Rat) = ((n : Int) : Rat) := by
    rw [Rat.intCast_mul, ← e, ← e2, Rat.natCast_mul]
    show q * (b : Rat) * (k : Rat) = q * ((b : Rat) * (k : Rat))
    grind
  have h1 : z * (k : Int) = n := by exact_mod_cast this
  have k0 : 0 < k := Nat.pos_of_mul_pos_left hM
  have h2 : n.natAbs = z.natAbs * k := by rw [← h1, Int.natAbs_mul, Int.natAbs_natCast]
  have := Nat.le_mul_of_pos_right z.natAbs k0
  omega
def spOver2 (K : PySem.W.Frag) : Sp := fun vs H Q _ => ∃ (l : Addr) (a : List Rat) (M N : Nat), vs = [.ref l] ∧ RS K H l a ∧ a.length ≤ 100 ∧ (∀ i, Fr M N (cf a i)) ∧ 0 < M ∧ M < 2 ^ 8700 ∧ N < 2 ^ 8700 ∧
  ∀ (t l' : Addr) (b : Nat) (ns : List Int) (H' : Hp), Same H H' → H' t = some (.tup [.ref l', .int (b : Int)]) → RI H' l' ns → 0 < b → b ≤ M → ns.length = a.length → (∀ i, cf a i * (b : Rat) = ((ci ns i : Int) : Rat)) → (∀ i, (ci ns i).natAbs ≤ N) → Q (.ref t) H'
section
variable {P : Program} {w : World} {K : PySem.W.Frag} {mg : Str → Option Value} {base : Heap} {CP CR CN CI : Addr}
abbrev sOver2 : Stmt := topS 46
theorem scOver2 : FnScope ["numbers", "below", "number", "top", "bottom"] ["numbers"] (defScope sOver2) := ⟨rfl, rfl, rfl, by decide +kernel, rfl, by decide +kernel, by decide +kernel⟩
theorem ok_over2 {f : Addr} {fd : FuncData} (F : Fun K "over_one_bottom" "over_one_bottom" sOver2 f fd) (hlcm : mg "lcm" = some (.builtin "math.lcm")) : FnOk P w K mg base CX0 1 f fd ["numbers"] (spOver2 K) := by
  refine F.ok scOver2 (fun vs H Q E h => ?_) (fun cdv A outer s H vs Q E hr h => ?_)
  · obtain ⟨l, a, M, N, rfl, _⟩ := h
    rfl
  · obtain ⟨l, a, M, N, rfl, ⟨as, hS, t1⟩, la, hF, hM, hM2, hN2, q⟩ := h
    refine ⟨_, (pss_cons (ps_set (i := 1) scOver2.nd rfl (Or.inr rfl) pe_int)
  (pss_cons (ps_for PassesOwn.never rfl (pi_seq (pv 0)) (pg_name (i := 2) scOver2.nd rfl (Or.inl rfl))
    (pss_one (ps_set (i := 1) scOver2.nd rfl (Or.inr rfl) (pe_callBfun cr_lcm (by rfl) hlcm (pa_cons (pv 1) (pa_cons (pe_ix ix_tup (pv 2) pe_int (fun _ _ => rfl)) pa_nil))))))
  (pss_one (ps_ret (pe_tup (pa_cons (pe_lc (own := [("top", 3), ("bottom", 4)]) (g := (gTup K 2 (gCons (gName 3) (gCons (gName 4) gNil)))) (tt := tYes) rfl scOver2.nd (pi_seq (pv 0)) (blkOk_by (N := ["numbers", "below", "number", "top", "bottom"]) (sc := defScope sOver2) (by decide +kernel)) (fun _ _ _ _ _ => pg_tup rfl (pgs_cons (pg_name (i := 3) scOver2.nd rfl (Or.inl rfl)) (pgs_cons (pg_name (i := 4) scOver2.nd rfl (Or.inl rfl)) pgs_nil))) (fun _ _ _ _ _ => pts_nil) (fun _ _ _ _ _ => (pe_op op_mulW (pv 3) (pe_op op_fdivW (pv 1) (pv 4))))) (pa_cons (pv 1) pa_nil))))))), ?_⟩
    have n1 := t1.lenQ
    have lm : (as.map V.ref).length = a.length := by rw [List.length_map, n1]
    have dM : ∀ i, (cf a i).den ∣ M := fun i => (hF i).den
    have hSS := hS
    let Pv : Nat → L2.St → Hp → Prop := fun i σ H' => ∃ (b : Nat) (v : Option V), σ = [some (.ref l), some (.int (b : Int)), v, none, none] ∧ Same H H' ∧ 0 < b ∧ b ∣ M ∧ ∀ j, j < i → (cf a j).den ∣ b
    refine ⟨_, rfl, l, rfl, ?_⟩
    have h0 : Pv 0 [some (.ref l), some (.int ((1 : Nat) : Int)), none, none, none] H := ⟨1, none, rfl, Same.refl _, by decide, Nat.one_dvd _, fun j hj => by omega⟩
    rcases hS with hS | hS
    · refine .inl ⟨_, hS, for_list (K := K) (a := l) (xs := as.map V.ref) Pv h0 (fun i σ H' _ ⟨_, _, _, ss, _⟩ => same_sqL ss hS) ?_ ?_⟩
      · rintro i x σ H' hi ⟨b, v, rfl, ss, b0, bi, dv⟩
        rw [List.getElem?_map] at hi
        cases hr0 : as[i]? with
        | none => rw [hr0] at hi; cases hi
        | some r =>
          rw [hr0] at hi
          cases hi
          obtain ⟨qq, hq1, hq2⟩ := t1.atQ hr0
          have hc := cf_get hq1
          have bM := Nat.le_of_dvd hM bi
          have hd : qq.den ≤ M := by rw [← hc]; exact Nat.le_of_dvd hM (dM i)
          have hd0 := qq.den_pos
          have up : ∀ {z : Nat}, z ≤ M → z < 2 ^ 8800 := fun h => Nat.lt_of_le_of_lt h (Nat.lt_trans hM2 (Nat.pow_lt_pow_right (by decide) (by decide)))
          refine ⟨_, rfl, _, rfl, r, _, _, .int (qq.den : Int), rfl, rfl, SqT.of (ss _ _ hq2), at_of (j := 1) rfl rfl, _, _, rfl, by rw [Int.natAbs_natCast]; exact up bM, by rw [Int.natAbs_natCast]; exact up hd, ?_⟩
          rw [Int.natAbs_natCast, Int.natAbs_natCast]
          refine ⟨b.lcm qq.den, _, rfl, ss, Nat.lcm_pos b0 hd0, Nat.lcm_dvd bi (by rw [← hc]; exact dM i), fun j hj => ?_⟩
          by_cases e : j = i
          · rw [e, hc]
            exact Nat.dvd_lcm_right _ _
          · exact Nat.dvd_trans (dv j (by omega)) (Nat.dvd_lcm_left _ _)
      · rintro σ H' ⟨b, v, rfl, ss, b0, bi, dv⟩
        rw [lm] at dv
        have bM := Nat.le_of_dvd hM bi
        have t1' := t1.same ss
        let g : Nat → Int := fun i => (cf a i).num * ((b : Int) / ((cf a i).den : Int))
        refine ⟨_, rfl, l, rfl, lc_seq (xs := as.map V.ref) (hSS.imp (same_sqL ss) (same_sqT ss)) (fun D i H2 => Same H' H2 ∧ H2 D = some (.lst ((tabI i g).map V.int))) ?_ ?_ ?_ ?_⟩
        · intro D hD
          exact ⟨same_upd hD, upd_same⟩
        · intro D i H2 hD ⟨s2, _⟩
          exact ⟨same_sqL s2, same_sqT s2⟩
        · intro D i x H2 hD hi ⟨s2, eD⟩
          rw [List.getElem?_map] at hi
          cases hr0 : as[i]? with
          | none => rw [hr0] at hi; cases hi
          | some r =>
            rw [hr0] at hi
            cases hi
            obtain ⟨qq, hq1, hq2⟩ := t1'.atQ hr0
            have hc := cf_get hq1
            have hi13 := (List.getElem?_eq_some_iff.mp hr0).1
            have h1 : (qq.num).natAbs < 2 ^ 8700 := by
              have := ((hF i).size hM).1
              rw [hc] at this
              exact Nat.lt_of_le_of_lt this hN2
            have h2 : ((b : Int) / (qq.den : Int)).natAbs < 2 ^ 8700 := by
              rw [← Int.natCast_ediv, Int.natAbs_natCast]
              exact Nat.lt_of_le_of_lt (Nat.le_trans (Nat.div_le_self _ _) bM) hM2
            refine ⟨r, _, rfl, SqT.of (s2 _ _ hq2), rfl, _, _, rfl, _, _, rfl, rfl, rfl, ?_⟩
            refine ⟨_, rfl, _, rfl, _, rfl, _, _, rfl, rfl, ?_, _, _, rfl, rfl, big_mulW h1 h2, ?_⟩
            · have := qq.den_pos
              refine ⟨by omega, ?_⟩
              rw [Int.natAbs_natCast]
              have h3 : qq.den < 2 ^ 8800 := Nat.lt_of_le_of_lt (show qq.den ≤ M by rw [← hc]; exact Nat.le_of_dvd hM (dM i)) (Nat.lt_trans hM2 (Nat.pow_lt_pow_right (by decide) (by decide)))
              exact Nat.lt_trans (log_4000 h3) (by decide)
            · refine ⟨_, eD, ?_, (fun b' o' e' => ?_), ?_⟩
              · rw [List.length_map, tabI_len, sizeLine_eq]
                omega
              · rw [upd_ne (ne_of_none e' hD)]
                exact s2 _ _ e'
              · rw [upd_same, tabI_snoc, List.map_append]
                show _ = some (HO.lst (_ ++ [V.int (g i)]))
                simp only [g, hc]
        · intro D H2 hD ⟨s2, eD⟩
          rw [lm] at eD
          refine ⟨_, rfl, (by show 2 ≤ sizeLine; decide), fun r nr => ?_⟩
          have s3 : Same H2 (upd H2 r (HO.tup [V.ref D, V.int (b : Int)])) := same_upd nr
          have ee : ∀ i, cf a i * (b : Rat) = ((ci (tabI a.length g) i : Int) : Rat) := fun i => by
            rw [ci_tab]
            by_cases hi : i < a.length
            · rw [if_pos hi]
              exact over_one (dv i hi)
            · rw [if_neg hi, cf_ge (by omega), Rat.zero_mul]
              rfl
          exact q r D b _ _ ((ss.trans s2).trans s3) upd_same (s3 _ _ eD) b0 bM (tabI_len _ _) ee fun i => (hF i).over bi hM (ee i)
    · refine .inr ⟨_, hS, for_tup (K := K) (a := l) (xs := as.map V.ref) Pv h0 (fun i σ H' _ ⟨_, _, _, ss, _⟩ => same_sqT ss hS) ?_ ?_⟩
      · rintro i x σ H' hi ⟨b, v, rfl, ss, b0, bi, dv⟩
        rw [List.getElem?_map] at hi
        cases hr0 : as[i]? with
        | none => rw [hr0] at hi; cases hi
        | some r =>
          rw [hr0] at hi
          cases hi
          obtain ⟨qq, hq1, hq2⟩ := t1.atQ hr0
          have hc := cf_get hq1
          have bM := Nat.le_of_dvd hM bi
          have hd : qq.den ≤ M := by rw [← hc]; exact Nat.le_of_dvd hM (dM i)
          have hd0 := qq.den_pos
          have up : ∀ {z : Nat}, z ≤ M → z < 2 ^ 8800 := fun h => Nat.lt_of_le_of_lt h (Nat.lt_trans hM2 (Nat.pow_lt_pow_right (by decide) (by decide)))
          refine ⟨_, rfl, _, rfl, r, _, _, .int (qq.den : Int), rfl, rfl, SqT.of (ss _ _ hq2), at_of (j := 1) rfl rfl, _, _, rfl, by rw [Int.natAbs_natCast]; exact up bM, by rw [Int.natAbs_natCast]; exact up hd, ?_⟩
          rw [Int.natAbs_natCast, Int.natAbs_natCast]
          refine ⟨b.lcm qq.den, _, rfl, ss, Nat.lcm_pos b0 hd0, Nat.lcm_dvd bi (by rw [← hc]; exact dM i), fun j hj => ?_⟩
          by_cases e : j = i
          · rw [e, hc]
            exact Nat.dvd_lcm_right _ _
          · exact Nat.dvd_trans (dv j (by omega)) (Nat.dvd_lcm_left _ _)
      · rintro σ H' ⟨b, v, rfl, ss, b0, bi, dv⟩
        rw [lm] at dv
        have bM := Nat.le_of_dvd hM bi
        have t1' := t1.same ss
        let g : Nat → Int := fun i => (cf a i).num * ((b : Int) / ((cf a i).den : Int))
        refine ⟨_, rfl, l, rfl, lc_seq (xs := as.map V.ref) (hSS.imp (same_sqL ss) (same_sqT ss)) (fun D i H2 => Same H' H2 ∧ H2 D = some (.lst ((tabI i g).map V.int))) ?_ ?_ ?_ ?_⟩
        · intro D hD
          exact ⟨same_upd hD, upd_same⟩
        · intro D i H2 hD ⟨s2, _⟩
          exact ⟨same_sqL s2, same_sqT s2⟩
        · intro D i x H2 hD hi ⟨s2, eD⟩
          rw [List.getElem?_map] at hi
          cases hr0 : as[i]? with
          | none => rw [hr0] at hi; cases hi
          | some r =>
            rw [hr0] at hi
            cases hi
            obtain ⟨qq, hq1, hq2⟩ := t1'.atQ hr0
            have hc := cf_get hq1
            have hi13 := (List.getElem?_eq_some_iff.mp hr0).1
            have h1 : (qq.num).natAbs < 2 ^ 8700 := by
              have := ((hF i).size hM).1
              rw [hc] at this
              exact Nat.lt_of_le_of_lt this hN2
            have h2 : ((b : Int) / (qq.den : Int)).natAbs < 2 ^ 8700 := by
              rw [← Int.natCast_ediv, Int.natAbs_natCast]
              exact Nat.lt_of_le_of_lt (Nat.le_trans (Nat.div_le_self _ _) bM) hM2
            refine ⟨r, _, rfl, SqT.of (s2 _ _ hq2), rfl, _, _, rfl, _, _, rfl, rfl, rfl, ?_⟩
            refine ⟨_, rfl, _, rfl, _, rfl, _, _, rfl, rfl, ?_, _, _, rfl, rfl, big_mulW h1 h2, ?_⟩
            · have := qq.den_pos
              refine ⟨by omega, ?_⟩
              rw [Int.natAbs_natCast]
              have h3 : qq.den < 2 ^ 8800 := Nat.lt_of_le_of_lt (show qq.den ≤ M by rw [← hc]; exact Nat.le_of_dvd hM (dM i)) (Nat.lt_trans hM2 (Nat.pow_lt_pow_right (by decide) (by decide)))
              exact Nat.lt_trans (log_4000 h3) (by decide)
            · refine ⟨_, eD, ?_, (fun b' o' e' => ?_), ?_⟩
              · rw [List.length_map, tabI_len, sizeLine_eq]
                omega
              · rw [upd_ne (ne_of_none e' hD)]
                exact s2 _ _ e'
              · rw [upd_same, tabI_snoc, List.map_append]
                show _ = some (HO.lst (_ ++ [V.int (g i)]))
                simp only [g, hc]
        · intro D H2 hD ⟨s2, eD⟩
          rw [lm] at eD
          refine ⟨_, rfl, (by show 2 ≤ sizeLine; decide), fun r nr => ?_⟩
          have s3 : Same H2 (upd H2 r (HO.tup [V.ref D, V.int (b : Int)])) := same_upd nr
          have ee : ∀ i, cf a i * (b : Rat) = ((ci (tabI a.length g) i : Int) : Rat) := fun i => by
            rw [ci_tab]
            by_cases hi : i < a.length
            · rw [if_pos hi]
              exact over_one (dv i hi)
            · rw [if_neg hi, cf_ge (by omega), Rat.zero_mul]
              rfl
          exact q r D b _ _ ((ss.trans s2).trans s3) upd_same (s3 _ _ eD) b0 bM (tabI_len _ _) ee fun i => (hF i).over bi hM (ee i)
end
end Vf
set_option maxRecDepth 100000
set_option maxHeartbeats 8000000
namespace Vf
open PySem PySem.Spec PyProof.Rows L2
theorem par_one {ta tb : TE} {i j : Nat} {D : Ends} {σ : L2.St} {H : Hp} (h : ta σ H fun v H1 => tb σ H1 fun w H2 => D.nx ((σ.set i (some v)).set j (some w)) H2) : tPar i j (tCons ta (tCons tb tNil)) D σ H := by
  show ta σ H fun v H1 => tb σ H1 fun w H2 => ∃ x y, [v, w] = [x, y] ∧ D.nx ((σ.set i (some x)).set j (some y)) H2
  have f : (fun v H1 => tb σ H1 fun w H2 => ∃ x y, [v, w] = [x, y] ∧ D.nx ((σ.set i (some x)).set j (some y)) H2) = (fun v H1 => tb σ H1 fun w H2 => D.nx ((σ.set i (some v)).set j (some w)) H2) := by
    funext v H1
    congr 1
    funext w H2
    refine propext ⟨fun ⟨x, y, e, h⟩ => ?_, fun h => ⟨v, w, rfl, h⟩⟩
    cases e
    exact h
  rw [f]
  exact h
theorem par_two {ta tb : TE} {i j : Nat} {rest : TS} {D : Ends} {σ : L2.St} {H : Hp} (h : ta σ H fun v H1 => tb σ H1 fun w H2 => rest D ((σ.set i (some v)).set j (some w)) H2) : tSeq (tPar i j (tCons ta (tCons tb tNil))) rest D σ H := par_one (D := { D with nx := rest D }) h
def Hb (k : Nat) (q : Rat) : Prop := q.num.natAbs ≤ 2 ^ k ∧ q.den ≤ 2 ^ k
theorem Hb.of {k M N : Nat} {q : Rat} (h : Fr M N q) (hM : 0 < M) (h1 : M ≤ 2 ^ k) (h2 : N ≤ 2 ^ k) : Hb k q := by
  obtain ⟨a, b⟩ := h.size hM
  exact ⟨Nat.le_trans a h2, Nat.le_trans b h1⟩
theorem Hb.fr {k : Nat} {q : Rat} (h : Hb k q) : Fr q.den (2 ^ k) q := (Fr.self q).le h.1
theorem Hb.up {k j : Nat} {q : Rat} (h : Hb k q) (hj : k ≤ j) : Hb j q := ⟨Nat.le_trans h.1 (Nat.pow_le_pow_right (by decide) hj), Nat.le_trans h.2 (Nat.pow_le_pow_right (by decide) hj)⟩
theorem Hb.mul {i j : Nat} {a b : Rat} (ha : Hb i a) (hb : Hb j b) : Hb (i + j) (a * b) := by
  refine Hb.of (ha.fr.mul hb.fr) (Nat.mul_pos a.den_pos b.den_pos) ?_ ?_ <;> rw [Nat.pow_add]
  · exact Nat.mul_le_mul ha.2 hb.2
  · exact Nat.le_refl _
theorem Hb.add {i j : Nat} {a b : Rat} (ha : Hb i a) (hb : Hb j b) : Hb (i + j + 1) (a + b) := by
  have h2 : Fr (a.den * b.den) (2 ^ j * a.den) b := by rw [Nat.mul_comm a.den]; exact hb.fr.scale _
  refine Hb.of ((ha.fr.scale b.den).add h2) (Nat.mul_pos a.den_pos b.den_pos) ?_ ?_
  · rw [Nat.pow_succ, Nat.pow_add]
    exact Nat.le_trans (Nat.mul_le_mul ha.2 hb.2) (Nat.le_mul_of_pos_right _ (by decide))
  · have e1 : 2 ^ i * b.den ≤ 2 ^ i * 2 ^ j := Nat.mul_le_mul_left _ hb.2
    have e2 : 2 ^ j * a.den ≤ 2 ^ i * 2 ^ j := by rw [Nat.mul_comm (2 ^ i)]; exact Nat.mul_le_mul_left _ ha.2
    rw [Nat.pow_succ, Nat.pow_add]
    omega
theorem Hb.inv {i : Nat} {b : Rat} (h : Hb i b) (hb : b ≠ 0) : Hb i b⁻¹ := by
  have n0 : b.num ≠ 0 := fun z => hb (Rat.num_eq_zero.mp z)
  have e : b⁻¹ * (b.num.natAbs : Rat) = ((if b.num < 0 then -(b.den : Int) else (b.den : Int) : Int) : Rat) := by
    have e1 : b * (b.den : Rat) = (b.num : Rat) := num_den b
    have e2 : b⁻¹ * b = 1 := Rat.inv_mul_cancel b hb
    have e3 : ((b.num.natAbs : Nat) : Rat) = ((if b.num < 0 then -b.num else b.num : Int) : Rat) := by
      have : ((b.num.natAbs : Nat) : Int) = if b.num < 0 then -b.num else b.num := by split <;> omega
      rw [← this]
      rfl
    rw [e3]
    split
    · rw [Rat.intCast_neg, Rat.intCast_neg, ← e1]
      have : b⁻¹ * (-(b * (b.den : Rat))) = -((b⁻¹ * b) * (b.den : Rat)) := by grind
      rw [this, e2, Rat.one_mul]
      rfl
    · rw [← e1]
      have : b⁻¹ * (b * (b.den : Rat)) = (b⁻¹ * b) * (b.den : Rat) := by grind
      rw [this, e2, Rat.one_mul]
      rfl
  refine Hb.of (M := b.num.natAbs) (N := b.den) ⟨_, e, by split <;> omega⟩ (by omega) h.1 h.2
theorem Hb.one : Hb 0 1 := ⟨by decide, by decide⟩
theorem Hb.sr {k : Nat} {q : Rat} (h : Hb k q) (hk : k < 4300) : Sr q :=
  ⟨Nat.lt_of_le_of_lt h.1 (Nat.pow_lt_pow_right (by decide) hk), Nat.lt_of_le_of_lt h.2 (Nat.pow_lt_pow_right (by decide) hk)⟩
theorem Hb.int {z : Int} {k : Nat} (h : z.natAbs ≤ 2 ^ k) : Hb k (z : Rat) := ⟨h, Nat.pow_pos (by decide)⟩
end Vf
set_option maxRecDepth 100000
set_option maxHeartbeats 8000000
namespace Vf
open PySem PySem.Spec PyProof.Rows L2
theorem sr_z2 {q : Rat} (h : Sr q) : Z2 q := ⟨h.1, by show (q.den : Int).natAbs < _; rw [Int.natAbs_natCast]; exact h.2⟩
theorem mem_tab {n : Nat} {f : Nat → Rat} {q : Rat} (h : q ∈ tab n f) : ∃ i, q = f i := by
  unfold tab at h
  obtain ⟨i, _, e⟩ := List.mem_map.mp h
  exact ⟨i, e.symm⟩
theorem RS.ofT {K : PySem.W.Frag} {H : Hp} {l : Addr} {as : List Addr} {qs : List Rat} (h : SqT K H l (as.map V.ref)) (t : Tups H as (qs.map pq)) : RS K H l qs := ⟨as, .inr h, t⟩
section
variable {P : Program} {w : World} {K : PySem.W.Frag} {mg : Str → Option Value} {base : Heap} {CP CR CN : Addr}
/-- a suite that is never come to -/
theorem pss_no {X : Cx} {body : List Stmt} : PSs X body (fun _ _ _ => False) := ⟨fun _ _ _ _ _ _ h => h.elim⟩
end
end Vf
set_option maxRecDepth 100000
set_option maxHeartbeats 8000000
namespace Vf
open PySem PySem.Spec PyProof.Rows L2
def spPOv (K : PySem.W.Frag) (CP : Addr) : Sp := fun vs H Q _ => ∃ (l : Addr) (ns : List Int) (M : Int) (qs : List Rat), vs = [.ref l, .int M] ∧ RI H l ns ∧ 0 < M ∧ M.natAbs < 2 ^ big ∧ ns.length ≤ 1000 ∧ qs.length = ns.length ∧ (∀ i, cf qs i * (M : Rat) = ((ci ns i : Int) : Rat)) ∧
  ∀ (x : Addr) (H' : Hp), Same H H' → PolyQ K CP H' x (stripQ qs) → Q (.ref x) H'
theorem rev_ci {ns : List Int} {j : Nat} {y : V} (h : (ns.map V.int).reverse[j]? = some y) : y = .int (ci ns (ns.length - 1 - j)) ∧ j < ns.length := by
  have hj : j < ns.length := by
    have := (List.getElem?_eq_some_iff.mp h).1
    rw [List.length_reverse, List.length_map] at this
    exact this
  rw [List.getElem?_reverse (by rw [List.length_map]; exact hj), List.length_map, List.getElem?_map, ci_lt (by omega)] at h
  cases h
  exact ⟨rfl, hj⟩
section
variable {P : Program} {w : World} {K : PySem.W.Frag} {mg : Str → Option Value} {base : Heap} {CP CR CN : Addr}
abbrev sPOv : Stmt := topS 47
theorem scPOv : FnScope ["row", "bottom", "top"] ["row", "bottom"] (defScope sPOv) := ⟨rfl, rfl, rfl, by decide +kernel, rfl, by decide +kernel, by decide +kernel⟩
theorem ok_pov {f : Addr} {fd : FuncData} (F : Fun K "poly_over" "poly_over" sPOv f fd) (PM : PoM P w K mg base CP CR) : FnOk P w K mg base (L2.CX P w) 7 f fd ["row", "bottom"] (spPOv K CP) := by
  refine F.okX scPOv (fun vs H Q E h => ?_) (fun cdv A0 outer s H vs Q E hr h => ?_)
  · obtain ⟨l, ns, M, qs, rfl, _⟩ := h
    rfl
  · obtain ⟨l, ns, M, qs, rfl, el, M0, Mb, ln, lq, hc, q⟩ := h
    refine ⟨_, (pss_one (ps_ret (pe_make PM.mkI PM.okI (hr.mono (by decide)) rfl PM.C.m PM.bI .nil passL (pa_cons (pe_lc (own := [("top", 2)]) (g := gName 2) (tt := tYes) rfl scPOv.nd (pi_seq (pv 0)) (blkOk_by (N := ["row", "bottom", "top"]) (sc := defScope sPOv) (by decide +kernel)) (fun _ _ _ _ _ => pg_name (i := 2) scPOv.nd rfl (Or.inl rfl)) (fun _ _ _ _ _ => pts_nil) (fun _ _ _ _ _ => (pe_tup (pa_cons (pv 2) (pa_cons (pv 1) pa_nil))))) pa_nil)))), ?_⟩
    refine ⟨_, rfl, l, rfl, lc_seq (xs := ns.map V.int) (.inl (SqL.of el)) (fun D i H' => Same H H' ∧ ∃ zs, H' D = some (.lst (zs.map V.ref)) ∧ Tups H' zs ((tabI i (ci ns)).map fun n => (n, M))) ?_ ?_ ?_ ?_⟩
    · intro D hD
      exact ⟨same_upd hD, [], upd_same, .nil⟩
    · intro D i H2 hD ⟨s2, _⟩
      exact ⟨same_sqL s2, same_sqT s2⟩
    · intro D i x H' hD hi ⟨ss, zs, eD, tz⟩
      have hi' : i < ns.length := by
        have := (List.getElem?_eq_some_iff.mp hi).1
        rw [List.length_map] at this
        exact this
      rw [RI.at (H := H) (l := l) hi'] at hi
      cases hi
      refine ⟨rfl, ?_⟩
      refine ⟨_, rfl, _, rfl, (by show 2 ≤ sizeLine; decide), fun t nt => ?_⟩
      have et : upd H' t (HO.tup [V.int (ci ns i), V.int M]) t = some (HO.tup [V.int (ci ns i), V.int M]) := upd_same
      have st : Same H' (upd H' t (HO.tup [V.int (ci ns i), V.int M])) := same_upd nt
      generalize upd H' t (HO.tup [V.int (ci ns i), V.int M]) = H4 at et st ⊢
      have eD' := st _ _ eD
      refine ⟨_, eD', ?_, (fun b' o' e' => ?_), zs ++ [t], ?_, ?_⟩
      · have := tz.len
        rw [List.length_map, tabI_len] at this
        rw [List.length_map, sizeLine_eq]
        omega
      · rw [upd_ne (ne_of_none e' hD)]
        exact st _ _ (ss _ _ e')
      · rw [upd_same, List.map_append]
        rfl
      · rw [tabI_snoc, List.map_append]
        have up : ∀ (c : Addr) (p : Int × Int), H4 c = some (.tup [.int p.1, .int p.2]) → upd H4 D (.lst (zs.map V.ref ++ [V.ref t])) c = some (.tup [.int p.1, .int p.2]) := fun c p z => by
          rw [upd_ne (ne_of z eD' (by intro z; cases z))]
          exact z
        exact ((tz.same st).imp up).snoc (up t (ci ns i, M) et)
    · intro D H' hD ⟨ss, zs, eD, tz⟩
      rw [List.length_map] at tz
      refine poly_row (qs := qs) ⟨zs, eD, tz⟩ (by rw [List.length_map, tabI_len]; exact ln) (fun p hp => ?_) ?_ fun x H2 s3 nx made => q x H2 (ss.trans s3) made
      · obtain ⟨n, _, rfl⟩ := List.mem_map.mp hp
        exact ⟨M0, Mb⟩
      · refine List.ext_getElem? fun i => ?_
        unfold tabI
        rw [List.map_map, List.map_map, List.getElem?_map, List.getElem?_map]
        by_cases h : i < ns.length
        · rw [List.getElem?_range h, List.getElem?_eq_getElem (show i < qs.length by omega)]
          show some (low (ci ns i) M) = some (pq qs[i])
          rw [← cf_lt (show i < qs.length by omega), low_mul (by omega) (hc i)]
        · rw [List.getElem?_eq_none_iff.mpr (by rw [List.length_range]; omega), List.getElem?_eq_none_iff.mpr (by omega)]
          rfl
end
section
variable {P : Program} {w : World} {K : PySem.W.Frag} {mg : Str → Option Value} {base : Heap} {CP CR CN : Addr}
theorem pe_fldK {X : Cx} {e : Expr} {f : Str} {pos : Pos} {ta : TE} {K : PySem.W.Frag} (hk : X.K = K) (he : PE X e ta) (hb : attributeBase e f X.env (eval e X.env) = eval e X.env) : PE X (.Attribute e f pos) (tFld K ta f) := by
  subst hk
  exact pe_fld he hb
end
end Vf
set_option maxRecDepth 100000
set_option maxHeartbeats 8000000
namespace Vf
open PySem PySem.Spec PyProof.Rows L2
def spLSh : Sp := fun vs H Q _ => ∃ (r1 r2 : Addr) (a b : Rat), vs = [.ref r1, .ref r2] ∧ TR H r1 a ∧ TR H r2 b ∧ Sr a ∧ Sr b ∧ b ≠ 0 ∧ ∀ (r : Addr) (H' : Hp), Same H H' → H r = none → TR H' r (a / b) → Q (.ref r) H'
theorem low_share {a b : Rat} (h : b ≠ 0) : low (a.num * b.den) ((a.den : Int) * b.num) = pq (a / b) ∧ (a.den : Int) * b.num ≠ 0 := by
  have hn : b.num ≠ 0 := fun z => h (Rat.num_eq_zero.mp z)
  have h0 : (a.den : Int) * b.num ≠ 0 := Int.mul_ne_zero (by have := a.den_nz; omega) hn
  refine ⟨low_mul h0 ?_, h0⟩
  have e1 : ((((a.den : Nat) : Int) * b.num : Int) : Rat) = ((a.den : Nat) : Rat) * (b.num : Rat) := by exact_mod_cast rfl
  have e2 : ((a.num * (b.den : Int) : Int) : Rat) = (a.num : Rat) * ((b.den : Nat) : Rat) := by exact_mod_cast rfl
  rw [e1, e2, ← num_den a, ← num_den b]
  have e3 : a / b * b = a := Rat.div_mul_cancel h
  calc a / b * (((a.den : Nat) : Rat) * (b * ((b.den : Nat) : Rat))) = (a / b * b) * ((a.den : Nat) : Rat) * ((b.den : Nat) : Rat) := by grind
    _ = a * ((a.den : Nat) : Rat) * ((b.den : Nat) : Rat) := by rw [e3]
theorem sr_prod {a b : Int} (ha : a.natAbs < 2 ^ 4300) (hb : b.natAbs < 2 ^ 4300) : (a * b).natAbs < 2 ^ 8800 := by
  rw [Int.natAbs_mul]
  have := Nat.mul_lt_mul'' ha hb
  rw [pow_add2] at this
  exact Nat.lt_trans this (Nat.pow_lt_pow_right (by decide) (by decide))
def rSub (a b : Rat) : Rat := a - b
theorem low_sub (a b : Rat) : low (a.num * b.den - b.num * a.den) ((a.den : Int) * b.den) = pq (a - b) := by
  have h := low_add a (-b)
  rw [Rat.neg_num, Rat.neg_den, Int.neg_mul, ← Int.sub_eq_add_neg, ← Rat.sub_eq_add_neg] at h
  exact h
theorem sr_neg' {q : Rat} (h : Sr q) : Sr (-q) := ⟨by rw [Rat.neg_num, Int.natAbs_neg]; exact h.1, by rw [Rat.neg_den]; exact h.2⟩
theorem at_neg {xs : List V} {x : V} {i : Int} {n : Nat} (hi : i < 0) (h : xs[n]? = some x) (hl : (xs.length : Int) + i = n) : atI xs i = some x := by
  unfold atI ixN
  rw [if_neg (by omega), if_pos (by omega)]
  show xs[(i + xs.length).toNat]? = _
  rw [show (i + xs.length).toNat = n by omega]
  exact h
end Vf
set_option maxRecDepth 100000
namespace Vf
theorem pigeon : ∀ (m n : Nat) (f : Nat → Nat), m < n → (∀ i, i < n → f i < m) → ∃ i j, i < j ∧ j < n ∧ f i = f j
  | 0, n, f, h, hf => by have := hf 0 (by omega); omega
  | m + 1, n, f, h, hf => by
    by_cases hx : ∃ i, i < n ∧ f i = m
    · obtain ⟨i, hi, ei⟩ := hx
      by_cases hy : ∃ j, j < n ∧ j ≠ i ∧ f j = m
      · obtain ⟨j, hj, ne, ej⟩ := hy
        rcases Nat.lt_or_ge i j with z | z
        · exact ⟨i, j, z, hj, by rw [ei, ej]⟩
        · exact ⟨j, i, by omega, hi, by rw [ei, ej]⟩
      · have nj : ∀ j, j < n → j ≠ i → f j < m := fun j hj ne => by
          have h1 := hf j hj
          have h2 : f j ≠ m := fun z => hy ⟨j, hj, ne, z⟩
          omega
        -- the others, the last in the place of i
        obtain ⟨a, b, ab, hb, e⟩ := pigeon m (n - 1) (fun k => if k = i then f (n - 1) else f k) (by omega) fun k hk => by
          split
          · exact nj _ (by omega) (by omega)
          · exact nj _ (by omega) (by omega)
        by_cases ha : a = i
        · rw [if_pos ha, if_neg (by omega)] at e
          exact ⟨b, n - 1, hb, by omega, e.symm⟩
        · rw [if_neg ha] at e
          by_cases hbi : b = i
          · rw [if_pos hbi] at e
            exact ⟨a, n - 1, by omega, by omega, e⟩
          · rw [if_neg hbi] at e
            exact ⟨a, b, ab, by omega, e⟩
    · obtain ⟨a, b, ab, hb, e⟩ := pigeon m n f (by omega) fun i hi => by
        have h1 := hf i hi
        have h2 : f i ≠ m := fun z => hx ⟨i, hi, z⟩
        omega
      exact ⟨a, b, ab, hb, e⟩
/-- x + y times the root of 3, to the power n, for 2 + root -/
def lx : Nat → Int × Int
  | 0 => (1, 0)
  | n + 1 => (2 * (lx n).1 + 3 * (lx n).2, (lx n).1 + 2 * (lx n).2)
theorem lx_add (m : Nat) : ∀ n, lx (m + n) = ((lx m).1 * (lx n).1 + 3 * ((lx m).2 * (lx n).2), (lx m).1 * (lx n).2 + (lx m).2 * (lx n).1)
  | 0 => by
    show lx m = _
    simp [lx]
  | n + 1 => by
    show (2 * (lx (m + n)).1 + 3 * (lx (m + n)).2, (lx (m + n)).1 + 2 * (lx (m + n)).2) = _
    rw [lx_add m n]
    show _ = ((lx m).1 * (2 * (lx n).1 + 3 * (lx n).2) + 3 * ((lx m).2 * ((lx n).1 + 2 * (lx n).2)), (lx m).1 * ((lx n).1 + 2 * (lx n).2) + (lx m).2 * (2 * (lx n).1 + 3 * (lx n).2))
    refine Prod.ext ?_ ?_ <;> grind
theorem lx_norm : ∀ n, (lx n).1 * (lx n).1 - 3 * ((lx n).2 * (lx n).2) = 1
  | 0 => by decide
  | n + 1 => by
    have := lx_norm n
    show (2 * (lx n).1 + 3 * (lx n).2) * (2 * (lx n).1 + 3 * (lx n).2) - 3 * (((lx n).1 + 2 * (lx n).2) * ((lx n).1 + 2 * (lx n).2)) = 1
    grind
/-- the number stands for a pair, by q -/
def lcode (q : Nat) (n : Nat) : Nat := ((lx n).1 % (q : Int)).toNat * q + ((lx n).2 % (q : Int)).toNat
theorem lcode_lt {q : Nat} (hq : 0 < q) (n : Nat) : lcode q n < q * q := by
  unfold lcode
  have h0 : (0 : Int) < q := by omega
  have h1 := Int.emod_lt_of_pos (lx n).1 h0
  have h2 := Int.emod_lt_of_pos (lx n).2 h0
  have h3 := Int.emod_nonneg (lx n).1 (show (q : Int) ≠ 0 by omega)
  have h4 := Int.emod_nonneg (lx n).2 (show (q : Int) ≠ 0 by omega)
  generalize (lx n).1 % (q : Int) = a at *
  generalize (lx n).2 % (q : Int) = b at *
  have e1 : a.toNat + 1 ≤ q := by omega
  have e2 : b.toNat < q := by omega
  have := Nat.mul_le_mul_right q e1
  rw [Nat.add_mul, Nat.one_mul] at this
  omega
theorem lcode_eq {q m n : Nat} (hq : 0 < q) (h : lcode q m = lcode q n) : (q : Int) ∣ (lx m).1 - (lx n).1 ∧ (q : Int) ∣ (lx m).2 - (lx n).2 := by
  unfold lcode at h
  have h0 : (0 : Int) < q := by omega
  have key : ∀ {a b c d : Nat}, b < q → d < q → a * q + b = c * q + d → a = c ∧ b = d := fun {a b c d} hb hd e => by
    have h1 : (a * q + b) / q = (c * q + d) / q := by rw [e]
    have h2 : (a * q + b) / q = a := by rw [Nat.mul_comm, Nat.mul_add_div hq, Nat.div_eq_of_lt hb, Nat.add_zero]
    have h3 : (c * q + d) / q = c := by rw [Nat.mul_comm, Nat.mul_add_div hq, Nat.div_eq_of_lt hd, Nat.add_zero]
    rw [h2, h3] at h1
    subst h1
    exact ⟨rfl, by omega⟩
  have lt : ∀ z : Int, (z % (q : Int)).toNat < q := fun z => by
    have := Int.emod_lt_of_pos z h0
    have := Int.emod_nonneg z (show (q : Int) ≠ 0 by omega)
    omega
  obtain ⟨e1, e2⟩ := key (lt _) (lt _) h
  have back : ∀ {a b : Int}, (a % (q : Int)).toNat = (b % (q : Int)).toNat → (q : Int) ∣ a - b := fun {a b} e => by
    have := Int.emod_nonneg a (show (q : Int) ≠ 0 by omega)
    have := Int.emod_nonneg b (show (q : Int) ≠ 0 by omega)
    have h1 := Int.mul_ediv_add_emod a q
    have h2 := Int.mul_ediv_add_emod b q
    have h3 : a % (q : Int) = b % (q : Int) := by omega
    exact ⟨a / q - b / q, by grind⟩
  exact ⟨back e1, back e2⟩
/-- n is a power that comes to 1 -/
def LOne (q : Int) (n : Nat) : Prop := q ∣ (lx n).1 - 1 ∧ q ∣ (lx n).2
def LNeg (q : Int) (n : Nat) : Prop := q ∣ (lx n).1 + 1 ∧ q ∣ (lx n).2
theorem LOne.mul {q : Int} {n : Nat} (h : LOne q n) : ∀ k, LOne q (k * n)
  | 0 => by rw [Nat.zero_mul]; exact ⟨⟨0, by simp [lx]⟩, ⟨0, by simp [lx]⟩⟩
  | k + 1 => by
    obtain ⟨⟨c, hc⟩, d, hd⟩ := LOne.mul h k
    obtain ⟨⟨a, ha⟩, b, hb⟩ := h
    rw [Nat.add_mul, Nat.one_mul]
    unfold LOne
    rw [lx_add]
    refine ⟨⟨a * (lx (k * n)).1 + c + 3 * (d * (lx n).2), ?_⟩, ⟨(lx (k * n)).1 * b + d * (lx n).1, ?_⟩⟩ <;> grind
theorem LNeg.sq {q : Int} {n : Nat} (h : LNeg q n) : LOne q (2 * n) := by
  obtain ⟨⟨a, ha⟩, b, hb⟩ := h
  rw [Nat.two_mul]
  unfold LOne
  rw [lx_add]
  refine ⟨⟨a * ((lx n).1 - 1) + 3 * (b * (lx n).2), ?_⟩, ⟨(lx n).1 * b + b * (lx n).1, ?_⟩⟩ <;> grind
theorem LNeg.odd {q : Int} {n : Nat} (h : LNeg q n) (k : Nat) : LNeg q ((2 * k + 1) * n) := by
  obtain ⟨⟨c, hc⟩, d, hd⟩ := (h.sq).mul k
  obtain ⟨⟨a, ha⟩, b, hb⟩ := h
  rw [show (2 * k + 1) * n = k * (2 * n) + n by rw [Nat.add_mul, Nat.one_mul, Nat.mul_comm 2 k, Nat.mul_assoc]]
  unfold LNeg
  rw [lx_add]
  refine ⟨⟨c * (lx n).1 + a + 3 * (d * (lx n).2), ?_⟩, ⟨(lx (k * (2 * n))).1 * b + d * (lx n).1, ?_⟩⟩ <;> grind
theorem two_odd : ∀ k : Nat, 0 < k → ∃ a m, k = 2 ^ a * (2 * m + 1) := fun k => by
  induction k using Nat.strongRecOn with
  | _ k ih =>
    intro hk
    rcases Nat.mod_two_eq_zero_or_one k with h | h
    · obtain ⟨a, m, e⟩ := ih (k / 2) (by omega) (by omega)
      refine ⟨a + 1, m, ?_⟩
      rw [Nat.pow_succ, Nat.mul_comm (2 ^ a) 2, Nat.mul_assoc, ← e]
      omega
    · exact ⟨0, k / 2, by rw [Nat.pow_zero, Nat.one_mul]; omega⟩
/-- no divisor whose square is below 2 ^ q -/
theorem ll_no {q n : Nat} (hq : 1 < q) (hodd : q % 2 = 1) (hs : q * q < 2 ^ (n + 1)) (h : LNeg (q : Int) (2 ^ n)) : False := by
  obtain ⟨i, j, ij, hj, e⟩ := pigeon (q * q) (2 ^ (n + 1)) (lcode q) hs fun i _ => lcode_lt (by omega) i
  obtain ⟨⟨a, ha⟩, b, hb⟩ := lcode_eq (by omega) e
  obtain ⟨k, rfl⟩ : ∃ k, j = i + k := ⟨j - i, by omega⟩
  have hk : LOne (q : Int) k := by
    have nn := lx_norm i
    rw [lx_add] at ha hb
    dsimp only at ha hb
    generalize (lx i).1 = x at *
    generalize (lx i).2 = y at *
    unfold LOne
    generalize (lx k).1 = u at *
    generalize (lx k).2 = v at *
    refine ⟨⟨3 * (y * b) - x * a, ?_⟩, ⟨y * a - x * b, ?_⟩⟩ <;> grind
  have k0 : 0 < k := by omega
  obtain ⟨s, m, rfl⟩ := two_odd k k0
  have hs2 : s ≤ n := by
    have h1 : 2 ^ s ≤ 2 ^ s * (2 * m + 1) := Nat.le_mul_of_pos_right _ (by omega)
    have h2 : 2 ^ s < 2 ^ (n + 1) := by omega
    have := (Nat.pow_lt_pow_iff_right (by decide : 1 < 2)).mp h2
    omega
  -- the power 2 ^ n (2 m + 1) comes to 1 and to - 1
  have h1 := hk.mul (2 ^ (n - s))
  have h2 := h.odd m
  rw [show 2 ^ (n - s) * (2 ^ s * (2 * m + 1)) = (2 * m + 1) * 2 ^ n by
    rw [← Nat.mul_assoc, ← Nat.pow_add, show n - s + s = n by omega, Nat.mul_comm]] at h1
  obtain ⟨⟨c, hc⟩, _⟩ := h1
  obtain ⟨⟨d, hd⟩, _⟩ := h2
  have h3 : (q : Int) ∣ 2 := ⟨d - c, by grind⟩
  have h4 : q ∣ 2 := by exact_mod_cast h3
  have := Nat.le_of_dvd (by decide) h4
  omega
def ll (M : Nat) : Nat → Nat → Nat
  | 0, s => s
  | n + 1, s => ll M n ((s ^ 2 + (M - 2)) % M)
theorem ll_tells {M : Nat} (hM : 2 ≤ M) : ∀ (n i s : Nat), (M : Int) ∣ 2 * (lx (2 ^ i)).1 - s → (M : Int) ∣ 2 * (lx (2 ^ (i + n))).1 - (ll M n s : Nat)
  | 0, i, s, h => h
  | n + 1, i, s, h => by
    show _ ∣ 2 * (lx (2 ^ (i + (n + 1)))).1 - ((ll M n ((s ^ 2 + (M - 2)) % M) : Nat) : Int)
    rw [show i + (n + 1) = i + 1 + n by omega]
    refine ll_tells hM n (i + 1) _ ?_
    obtain ⟨a, ha⟩ := h
    have nn := lx_norm (2 ^ i)
    rw [Nat.pow_succ, Nat.mul_two, lx_add]
    dsimp only
    have e : (((s ^ 2 + (M - 2)) % M : Nat) : Int) = (s : Int) ^ 2 + ((M : Int) - 2) - M * (((s : Int) ^ 2 + ((M : Int) - 2)) / M) := by
      rw [Int.natCast_emod, Int.emod_def, Int.natCast_add, Int.natCast_pow, Int.natCast_sub hM]
      rfl
    rw [e]
    generalize ((s : Int) ^ 2 + ((M : Int) - 2)) / M = z
    generalize (lx (2 ^ i)).1 = x at *
    generalize (lx (2 ^ i)).2 = y at *
    refine ⟨a * (2 * x + s) - 1 + z, ?_⟩
    grind
/-- each number that is not divided by it has no common divisor with it -/
def Pr (p : Nat) : Prop := 1 < p ∧ ∀ d, d ∣ p → d = 1 ∨ d = p
theorem Pr.cop {p z : Nat} (h : Pr p) (hz : ¬ p ∣ z) : Nat.gcd z p = 1 := by
  rcases h.2 (Nat.gcd z p) (Nat.gcd_dvd_right _ _) with e | e
  · exact e
  · exact absurd (e ▸ Nat.gcd_dvd_left z p) hz
theorem ll_prime {n : Nat} (h : ll (2 ^ (n + 2) - 1) n 4 = 0) : Pr (2 ^ (n + 2) - 1) := by
  have hp : 4 ≤ 2 ^ (n + 2) := by rw [Nat.pow_add]; have := Nat.two_pow_pos n; omega
  generalize hM : 2 ^ (n + 2) - 1 = M at h ⊢
  have h1 := ll_tells (M := M) (by omega) n 0 4 ⟨0, by rw [Int.mul_zero]; decide⟩
  rw [h, Nat.zero_add] at h1
  have odd : M % 2 = 1 := by
    have : 2 ^ (n + 2) = 2 * 2 ^ (n + 1) := by rw [Nat.pow_succ 2 (n + 1), Nat.mul_comm]
    omega
  -- half of it: - 1
  have neg : ∀ q : Nat, q ∣ M → LNeg (q : Int) (2 ^ (n + 1)) := fun q hq => by
    obtain ⟨a, ha⟩ := h1
    obtain ⟨c, hc⟩ := hq
    have qo : q % 2 = 1 := by
      rcases Nat.mod_two_eq_zero_or_one q with z | z
      · have : (q * c) % 2 = 0 := by rw [Nat.mul_mod, z]; simp
        omega
      · exact z
    have nn := lx_norm (2 ^ n)
    rw [Nat.pow_succ, Nat.mul_two]
    unfold LNeg
    rw [lx_add]
    dsimp only
    have hcI : (M : Int) = q * c := by rw [hc, Int.natCast_mul]
    generalize (lx (2 ^ n)).1 = x at *
    generalize (lx (2 ^ n)).2 = y at *
    rw [Int.natCast_zero, Int.sub_zero, hcI] at ha
    obtain ⟨r, hr⟩ : ∃ r : Int, (q : Int) = 2 * r + 1 := ⟨(q / 2 : Nat), by omega⟩
    -- 2 x is divided by q, so x is
    have hx : x = q * (x - r * (c * a)) := by
      have : x * q = q * (c * a) * r + x := by rw [hr]; grind
      grind
    generalize x - r * (c * a) = t at hx
    refine ⟨⟨2 * (t * x), ?_⟩, ⟨2 * (t * y), ?_⟩⟩ <;> grind
  refine ⟨by omega, fun d hd => ?_⟩
  obtain ⟨e, he⟩ := hd
  refine Decidable.byContradiction fun no => ?_
  have d1 : d ≠ 1 := fun z => no (.inl z)
  have dM : d ≠ M := fun z => no (.inr z)
  have d0 : 0 < d := by
    rcases Nat.eq_zero_or_pos d with z | z
    · rw [z, Nat.zero_mul] at he; omega
    · exact z
  have e0 : 0 < e := by
    rcases Nat.eq_zero_or_pos e with z | z
    · rw [z, Nat.mul_zero] at he; omega
    · exact z
  have e1 : e ≠ 1 := fun z => by rw [z, Nat.mul_one] at he; omega
  have od : ∀ q c : Nat, M = q * c → q % 2 = 1 := fun q c h => by
    rcases Nat.mod_two_eq_zero_or_one q with z | z
    · have : (q * c) % 2 = 0 := by rw [Nat.mul_mod, z]; simp
      omega
    · exact z
  have fin : ∀ q c : Nat, M = q * c → 1 < q → q ≤ c → False := fun q c h h1 h2 => by
    refine ll_no h1 (od q c h) (n := n + 1) ?_ (neg q ⟨c, h⟩)
    have := Nat.mul_le_mul_left q h2
    show q * q < 2 ^ (n + 2)
    generalize 2 ^ (n + 2) = z at *
    omega
  rcases Nat.le_total d e with h2 | h2
  · exact fin d e he (by omega) h2
  · exact fin e d (by rw [he, Nat.mul_comm]) (by omega) h2
theorem pr61 : Pr (2 ^ 61 - 1) := ll_prime (n := 59) (by decide +kernel)
theorem pr521 : Pr (2 ^ 521 - 1) := ll_prime (n := 519) (by decide +kernel)
theorem pr1279 : Pr (2 ^ 1279 - 1) := ll_prime (n := 1277) (by decide +kernel)
theorem pr2281 : Pr (2 ^ 2281 - 1) := ll_prime (n := 2279) (by decide +kernel)
theorem pr4423 : Pr (2 ^ 4423 - 1) := ll_prime (n := 4421) (by decide +kernel)
end Vf
set_option maxRecDepth 100000
namespace Vf
def si (f : Nat → Int) : Nat → Int
  | 0 => 0
  | n + 1 => si f n + f n
theorem si_ext {f g : Nat → Int} : ∀ {n : Nat}, (∀ i, i < n → f i = g i) → si f n = si g n
  | 0, _ => rfl
  | n + 1, h => by
    show si f n + f n = si g n + g n
    rw [si_ext fun i hi => h i (by omega), h n (by omega)]
theorem si_sub (f g : Nat → Int) : ∀ n, si (fun i => f i - g i) n = si f n - si g n
  | 0 => rfl
  | n + 1 => by
    show si _ n + (f n - g n) = si f n + f n - (si g n + g n)
    rw [si_sub f g n]; omega
theorem si_bd {f : Nat → Int} {B : Nat} : ∀ {n : Nat}, (∀ i, i < n → (f i).natAbs ≤ B) → (si f n).natAbs ≤ n * B
  | 0, _ => by simp [si]
  | n + 1, h => by
    show (si f n + f n).natAbs ≤ _
    have h1 := si_bd (n := n) fun i hi => h i (by omega)
    have h2 := h n (by omega)
    have h3 := Int.natAbs_add_le (si f n) (f n)
    rw [Nat.add_mul, Nat.one_mul]
    omega
theorem si_app (f : Nat → Int) (m : Nat) : ∀ n, si f (m + n) = si f m + si (fun i => f (m + i)) n
  | 0 => by show si f m = si f m + 0; omega
  | n + 1 => by
    show si f (m + n) + f (m + n) = si f m + (si _ n + f (m + n))
    rw [si_app f m n]; omega
theorem si_sm (f : Nat → Int) : ∀ n, ((si f n : Int) : Rat) = sm (fun i => ((f i : Int) : Rat)) n
  | 0 => rfl
  | n + 1 => by
    show ((si f n + f n : Int) : Rat) = sm _ n + _
    rw [Rat.intCast_add, si_sm f n]
/-- the digits of a number -/
def dig (b z k : Nat) : Nat := z / b ^ k % b
theorem dig_inj {b : Nat} (hb : 0 < b) : ∀ {n z y : Nat}, z < b ^ n → y < b ^ n → (∀ k, k < n → dig b z k = dig b y k) → z = y
  | 0, z, y, hz, hy, _ => by simp at hz hy; omega
  | n + 1, z, y, hz, hy, h => by
    have h0 := h 0 (by omega)
    unfold dig at h0
    rw [Nat.pow_zero, Nat.div_one, Nat.div_one] at h0
    have lt : ∀ z, z < b ^ (n + 1) → z / b < b ^ n := fun z hz => by
      rw [Nat.div_lt_iff_lt_mul hb, ← Nat.pow_succ]
      exact hz
    have h1 := dig_inj hb (lt z hz) (lt y hy) fun k hk => by
      have := h (k + 1) (by omega)
      unfold dig at this ⊢
      rw [Nat.pow_succ, Nat.mul_comm, ← Nat.div_div_eq_div_mul, ← Nat.div_div_eq_div_mul] at this
      exact this
    have h2 := Nat.div_add_mod z b
    have h3 := Nat.div_add_mod y b
    rw [← h2, ← h3, h0, h1]
def enc (B : Nat) (e : Nat → Nat) : Nat → Nat
  | 0 => 0
  | m + 1 => enc B e m * B + e m
theorem enc_lt {B : Nat} {e : Nat → Nat} : ∀ {m : Nat}, (∀ k, k < m → e k < B) → enc B e m < B ^ m
  | 0, _ => by simp [enc]
  | m + 1, h => by
    show enc B e m * B + e m < _
    have h1 := enc_lt (m := m) fun k hk => h k (by omega)
    have h2 := h m (by omega)
    have h3 := Nat.mul_le_mul_right B (show enc B e m + 1 ≤ B ^ m by omega)
    rw [Nat.add_mul, Nat.one_mul] at h3
    rw [Nat.pow_succ]
    omega
theorem enc_inj {B : Nat} {e f : Nat → Nat} : ∀ {m : Nat}, (∀ k, k < m → e k < B) → (∀ k, k < m → f k < B) → enc B e m = enc B f m → ∀ k, k < m → e k = f k
  | 0, _, _, _, k, hk => by omega
  | m + 1, he, hf, h, k, hk => by
    have h : enc B e m * B + e m = enc B f m * B + f m := h
    have e1 := he m (by omega)
    have f1 := hf m (by omega)
    have B0 : 0 < B := by omega
    have h1 : (enc B e m * B + e m) / B = (enc B f m * B + f m) / B := by rw [h]
    rw [Nat.mul_comm, Nat.mul_add_div B0, Nat.div_eq_of_lt e1, Nat.mul_comm, Nat.mul_add_div B0, Nat.div_eq_of_lt f1] at h1
    simp only [Nat.add_zero] at h1
    rw [h1] at h
    by_cases hkm : k = m
    · subst hkm; omega
    · exact enc_inj (fun k hk => he k (by omega)) (fun k hk => hf k (by omega)) h1 k (by omega)
theorem siegel {a : Nat → Nat → Int} {N M A X : Nat} (hA : ∀ i k, (a i k).natAbs ≤ A) (h : (2 * (N * (A * X)) + 1) ^ M < (X + 1) ^ N) :
    ∃ w : Nat → Int, (∀ k, (w k).natAbs ≤ X) ∧ (∃ k, k < N ∧ w k ≠ 0) ∧ ∀ i, i < M → si (fun k => a i k * w k) N = 0 := by
  let E : Nat → Nat → Int := fun z i => si (fun k => a i k * (dig (X + 1) z k : Nat)) N
  let e : Nat → Nat → Nat := fun z i => (E z i + ((N * (A * X) : Nat) : Int)).toNat
  have dl : ∀ z k, dig (X + 1) z k ≤ X := fun z k => by
    have := Nat.mod_lt (z / (X + 1) ^ k) (show 0 < X + 1 by omega)
    unfold dig
    omega
  have hE : ∀ z i, (E z i).natAbs ≤ N * (A * X) := fun z i => si_bd fun k _ => by
    rw [Int.natAbs_mul, Int.natAbs_natCast]
    exact Nat.mul_le_mul (hA i k) (dl z k)
  have he : ∀ z i, e z i < 2 * (N * (A * X)) + 1 := fun z i => by
    have := hE z i
    show (E z i + _).toNat < _
    omega
  obtain ⟨z, y, zy, hy, ez⟩ := pigeon _ _ (fun z => enc (2 * (N * (A * X)) + 1) (e z) M) h fun z _ => enc_lt fun k _ => he z k
  have hz := enc_inj (fun k _ => he z k) (fun k _ => he y k) ez
  refine ⟨fun k => (dig (X + 1) z k : Int) - (dig (X + 1) y k : Int), fun k => ?_, ?_, fun i hi => ?_⟩
  · have := dl z k
    have := dl y k
    dsimp only
    omega
  · refine Decidable.byContradiction fun no => ?_
    have := dig_inj (b := X + 1) (by omega) (show z < _ by omega) hy fun k hk => by
      refine Decidable.byContradiction fun ne => no ⟨k, hk, ?_⟩
      dsimp only
      omega
    omega
  · have h1 := hz i hi
    have h2 := hE z i
    have h3 := hE y i
    have h4 : E z i = E y i := by
      have : (E z i + ((N * (A * X) : Nat) : Int)).toNat = (E y i + ((N * (A * X) : Nat) : Int)).toNat := h1
      omega
    have h5 : si (fun k => a i k * ((dig (X + 1) z k : Int) - (dig (X + 1) y k : Int))) N = E z i - E y i := by
      rw [← si_sub]
      exact si_ext fun k _ => by rw [Int.mul_sub]
    dsimp only
    rw [h5, h4]
    omega
theorem siegel1 {a : Nat → Nat → Int} {M A : Nat} (hA : ∀ i k, (a i k).natAbs ≤ A) (A0 : 0 < A) :
    ∃ w : Nat → Int, (∀ k, (w k).natAbs ≤ (2 * ((M + 1) * A)) ^ M) ∧ (∃ k, k < M + 1 ∧ w k ≠ 0) ∧ ∀ i, i < M → si (fun k => a i k * w k) (M + 1) = 0 := by
  refine siegel hA ?_
  generalize hC : 2 * ((M + 1) * A) = C
  have hC0 : 0 < C := by have := Nat.mul_pos (show 0 < M + 1 by omega) A0; omega
  have h1 : 2 * ((M + 1) * (A * C ^ M)) + 1 ≤ C * (C ^ M + 1) := by
    rw [← hC, Nat.mul_add, Nat.mul_one]
    rw [show 2 * ((M + 1) * A) * (2 * ((M + 1) * A)) ^ M = 2 * ((M + 1) * (A * (2 * ((M + 1) * A)) ^ M)) by rw [Nat.mul_assoc, Nat.mul_assoc]]
    omega
  have h2 := Nat.pow_le_pow_left h1 M
  rw [Nat.mul_pow] at h2
  have h3 : 0 < (C ^ M + 1) ^ M := Nat.pow_pos (by omega)
  rw [Nat.pow_succ (C ^ M + 1) M, Nat.mul_add, Nat.mul_one, Nat.mul_comm ((C ^ M + 1) ^ M)]
  omega
/-- two rows of whole numbers, times rows of whole numbers: from h on nothing is left -/
theorem siegel_rows {o1 o2 : List Int} {m1 m2 h M A : Nat} (h1 : ∀ i, (ci o1 i).natAbs ≤ A) (h2 : ∀ i, (ci o2 i).natAbs ≤ A) (A0 : 0 < A) (hN : m2 + m1 = M + 1) :
    ∃ u v : List Int, u.length = m2 ∧ v.length = m1 ∧ (∀ i, (ci u i).natAbs ≤ (2 * ((M + 1) * A)) ^ M) ∧ (∀ i, (ci v i).natAbs ≤ (2 * ((M + 1) * A)) ^ M) ∧ (∃ i, ci u i ≠ 0 ∨ ci v i ≠ 0) ∧
      ∀ d, h ≤ d → d < h + M → cf (padd (pmul (qi u) (qi o1)) (pmul (qi v) (qi o2))) d = 0 := by
  let b : List Int → Nat → Nat → Int := fun o d k => if k ≤ d then ci o (d - k) else 0
  have hb : ∀ {o : List Int}, (∀ i, (ci o i).natAbs ≤ A) → ∀ d k, (b o d k).natAbs ≤ A := fun {o} ho d k => by
    show (if k ≤ d then ci o (d - k) else 0).natAbs ≤ A
    split
    · exact ho _
    · exact Nat.zero_le _
  obtain ⟨w, hw, ⟨k0, hk0, nz⟩, hz⟩ := siegel1 (a := fun i k => if k < m2 then b o1 (h + i) k else b o2 (h + i) (k - m2)) (M := M) (A := A) (fun i k => by
    split
    · exact hb h1 _ _
    · exact hb h2 _ _) A0
  have cu : ∀ (n : Nat) (f : Nat → Int) (i : Nat), (∀ k, (f k).natAbs ≤ (2 * ((M + 1) * A)) ^ M) → (ci (tabI n f) i).natAbs ≤ (2 * ((M + 1) * A)) ^ M := fun n f i hf => by
    rw [ci_tab]
    split
    · exact hf _
    · exact Nat.zero_le _
  have part : ∀ (n : Nat) (f : Nat → Int) (o : List Int) (d : Nat), cf (pmul (qi (tabI n f)) (qi o)) d = ((si (fun k => b o d k * f k) n : Int) : Rat) := fun n f o d => by
    rw [cf_pmul, si_sm]
    unfold pc
    let g : Nat → Rat := fun k => if k < n ∧ k ≤ d then ((ci o (d - k) * f k : Int) : Rat) else 0
    have e1 : sm (fun i => cf (qi (tabI n f)) i * cf (qi o) (d - i)) (d + 1) = sm g (d + 1) := sm_ext fun i hi => by
      show _ = if i < n ∧ i ≤ d then _ else _
      rw [cf_qi, cf_qi, ci_tab]
      by_cases z : i < n
      · rw [if_pos z, if_pos ⟨z, by omega⟩, Rat.intCast_mul]
        grind
      · rw [if_neg z, if_neg (fun y => z y.1)]
        rw [show ((0 : Int) : Rat) = 0 from rfl]
        grind
    have e2 : sm (fun i => ((b o d i * f i : Int) : Rat)) n = sm g n := sm_ext fun i hi => by
      show (((if i ≤ d then ci o (d - i) else 0) * f i : Int) : Rat) = if i < n ∧ i ≤ d then _ else _
      by_cases z : i ≤ d
      · rw [if_pos z, if_pos ⟨hi, z⟩]
      · rw [if_neg z, if_neg (fun y => z y.2), Int.zero_mul]
        rfl
    rw [e1, e2]
    have gz : ∀ i, ¬ (i < n ∧ i ≤ d) → g i = 0 := fun i z => if_neg z
    rw [← sm_more (m := max (d + 1) n) (Nat.le_max_left _ _) fun i hi _ => gz i (by omega), ← sm_more (n := n) (m := max (d + 1) n) (Nat.le_max_right _ _) fun i hi _ => gz i (by omega)]
  refine ⟨tabI m2 w, tabI m1 fun k => w (m2 + k), tabI_len _ _, tabI_len _ _, fun i => cu _ _ i hw, fun i => cu _ _ i fun k => hw _, ?_, fun d hd hd2 => ?_⟩
  · by_cases hk : k0 < m2
    · exact ⟨k0, .inl (by rw [ci_tab, if_pos hk]; exact nz)⟩
    · exact ⟨k0 - m2, .inr (by rw [ci_tab, if_pos (by omega), show m2 + (k0 - m2) = k0 by omega]; exact nz)⟩
  · have z := hz (d - h) (by omega)
    rw [show M + 1 = m2 + m1 from hN.symm, si_app] at z
    rw [cf_padd, part, part, ← Rat.intCast_add]
    have e1 : si (fun k => (if k < m2 then b o1 (h + (d - h)) k else b o2 (h + (d - h)) (k - m2)) * w k) m2 = si (fun k => b o1 d k * w k) m2 := si_ext fun i hi => by
      rw [if_pos hi, show h + (d - h) = d by omega]
    have e2 : si (fun i => (fun k => (if k < m2 then b o1 (h + (d - h)) k else b o2 (h + (d - h)) (k - m2)) * w k) (m2 + i)) m1 = si (fun k => b o2 d k * w (m2 + k)) m1 := si_ext fun i hi => by
      dsimp only
      rw [if_neg (by omega), show h + (d - h) = d by omega, show m2 + i - m2 = i by omega]
    rw [e1, e2] at z
    rw [z]
    rfl
end Vf
set_option maxRecDepth 100000
set_option maxRecDepth 100000
namespace Vf
theorem num_denQ (q : Rat) : q * ((q.den : Nat) : Rat) = ((q.num : Int) : Rat) := by
  obtain ⟨n, e, h⟩ := Fr.self q
  have h0 : (q.den : Rat) ≠ 0 := by
    have := q.den_nz
    exact_mod_cast this
  have z : (q.num : Rat) / (q.den : Rat) = q := by
    have := Rat.num_divInt_den q
    rw [Rat.divInt_eq_div] at this
    exact_mod_cast this
  have := Rat.div_mul_cancel (a := (q.num : Rat)) h0
  rw [z] at this
  exact this
/-- a row that is a power -/
structure PWr (f : Rat → Rat) (M N k : Nat) (P : List Rat) : Prop where
  len : P.length ≤ k + 1
  fr : ∀ i, Fr (M ^ k) (N ^ k) (cf P i)
  vl : ∀ x, ev P x = f x ^ k
theorem stripQ_le (l : List Rat) : (stripQ l).length ≤ l.length := stp_len (stripQ_stp l) (cf_stripQ l)
theorem pmul_len (a b : List Rat) : (pmul a b).length = a.length + b.length - 1 := by unfold pmul; rw [tab_len]
theorem pmul_fr {a b : List Rat} {M N M' N' : Nat} (ha : ∀ i, Fr M N (cf a i)) (hb : ∀ i, Fr M' N' (cf b i)) (hl : a.length + b.length ≤ 32) (i : Nat) : Fr (M * M') (32 * (N * N')) (cf (pmul a b) i) := by
  by_cases h : i + 1 ≤ 32
  · rw [cf_pmul]
    unfold pc
    exact (sm_fr fun j _ => (ha j).mul (hb _)).le (Nat.mul_le_mul_right _ h)
  · rw [cf_ge (by rw [pmul_len]; omega)]
    exact Fr.zero _ _
theorem PWr.next {f : Rat → Rat} {M N0 N k : Nat} {P u : List Rat} (h : PWr f M N k P) (hu : u.length ≤ 2) (hf : ∀ i, Fr M N0 (cf u i)) (hN : N = 32 * N0) (he : ∀ x, ev u x = f x) (hk : k ≤ 20) : PWr f M N (k + 1) (stripQ (pmul P u)) where
  len := by
    have := stripQ_le (pmul P u)
    rw [pmul_len] at this
    have := h.len
    omega
  fr := fun i => by
    rw [cf_stripQ, Nat.pow_succ, Nat.pow_succ]
    have := h.len
    have z := pmul_fr h.fr hf (by omega) i
    rw [hN] at *
    rw [show 32 * ((32 * N0) ^ k * N0) = (32 * N0) ^ k * (32 * N0) from by rw [Nat.mul_left_comm]] at z
    exact z
  vl := fun x => by rw [ev_stripQ, ev_pmul, h.vl, he, Rat.pow_succ]
end Vf
set_option maxRecDepth 100000
namespace Vf
theorem ne_last {l : List Rat} (h : Stp l) (hn : l ≠ []) : cf l (l.length - 1) ≠ 0 := stp_last h (List.length_pos_iff.mpr hn)
theorem top_pmul {A B : List Rat} {a b : Nat} (hA : A.length ≤ a + 1) (hB : B.length ≤ b + 1) : cf (pmul A B) (a + b) = cf A a * cf B b := by
  rw [cf_pmul]
  unfold pc
  rw [sm_more (n := a + 1) (m := a + b + 1) (by omega) fun i hi _ => by rw [cf_ge (l := A) (by omega), Rat.zero_mul]]
  show sm _ a + cf A a * cf B (a + b - a) = _
  rw [sm_zero fun i hi => by rw [cf_ge (l := B) (by omega), Rat.mul_zero], Nat.add_sub_cancel_left, Rat.zero_add]
theorem sq_len {l : List Rat} {n : Nat} (h : ∀ i, n ≤ i → cf l i = 0) : (stripQ l).length ≤ n := by
  refine Decidable.byContradiction fun no => ?_
  have := stp_last (stripQ_stp l) (by omega)
  rw [cf_stripQ] at this
  exact this (h _ (by omega))
theorem sq_eq {l : List Rat} {n : Nat} (h : ∀ i, n + 1 ≤ i → cf l i = 0) (h2 : cf l n ≠ 0) : (stripQ l).length = n + 1 := by
  have h1 := sq_len h
  have h3 : ¬ (stripQ l).length ≤ n := fun z => h2 (by rw [← cf_stripQ]; exact cf_ge z)
  omega
theorem cf_of {A B : List Rat} (h : ∀ x, ev A x = ev B x) (i : Nat) : cf A i = cf B i := ev_inj (fun x _ => h x) i
theorem ev_nil' {l : List Rat} (h : stripQ l = []) (x : Rat) : ev l x = 0 := by
  rw [← ev_stripQ, h]; rfl
theorem len_mul {A B Z : List Rat} (hA : Stp A) (hB : Stp B) (nA : A ≠ []) (nB : B ≠ []) (h : ∀ x, ev Z x = ev A x * ev B x) : A.length + B.length ≤ Z.length + 1 := by
  have lA := List.length_pos_iff.mpr nA
  have lB := List.length_pos_iff.mpr nB
  refine Decidable.byContradiction fun no => ?_
  have e : cf Z (A.length - 1 + (B.length - 1)) = cf (pmul A B) (A.length - 1 + (B.length - 1)) := cf_of (fun x => by rw [h, ev_pmul]) _
  rw [top_pmul (by omega) (by omega), cf_ge (by omega)] at e
  rcases Rat.mul_eq_zero.mp e.symm with z | z
  · exact ne_last hA nA z
  · exact ne_last hB nB z
theorem len_mul_eq {A B Z : List Rat} (hA : Stp A) (hB : Stp B) (hZ : Stp Z) (nA : A ≠ []) (nB : B ≠ []) (h : ∀ x, ev Z x = ev A x * ev B x) : A.length + B.length = Z.length + 1 := by
  have h1 := len_mul hA hB nA nB h
  have lA := List.length_pos_iff.mpr nA
  have lB := List.length_pos_iff.mpr nB
  have h2 : Z.length ≤ A.length + B.length - 1 := by
    have := stp_len hZ (b := pmul A B) (cf_of fun x => by rw [h, ev_pmul])
    rw [pmul_len] at this
    exact this
  omega
theorem mul_small {A W Z : List Rat} (hA : Stp A) (nA : A ≠ []) (h : ∀ x, ev Z x = ev W x * ev A x) (l : Z.length < A.length) (x : Rat) : ev W x = 0 := by
  by_cases hW : stripQ W = []
  · exact ev_nil' hW x
  · have h1 := len_mul (Z := Z) (stripQ_stp W) hA hW nA fun x => by rw [h, ev_stripQ]
    have := List.length_pos_iff.mpr hW
    omega
theorem mul_const {A S V : List Rat} (hA : Stp A) (nA : A ≠ []) (h : ∀ x, ev V x = ev A x * ev S x) (l : V.length ≤ A.length) : ∃ c : Rat, ∀ x, ev S x = c := by
  by_cases hS : stripQ S = []
  · exact ⟨0, ev_nil' hS⟩
  · have h1 := len_mul (Z := V) hA (stripQ_stp S) nA hS fun x => by rw [h, ev_stripQ]
    have := List.length_pos_iff.mpr hS
    have h2 : (stripQ S).length = 1 := by omega
    obtain ⟨c, hc⟩ := List.length_eq_one_iff.mp h2
    refine ⟨c, fun x => ?_⟩
    rw [← ev_stripQ, hc]
    show c + x * 0 = c
    grind
theorem mul_zero2 {A S : List Rat} (hA : Stp A) (nA : A ≠ []) (h : ∀ x, ev A x * ev S x = 0) (x : Rat) : ev S x = 0 :=
  mul_small (Z := []) hA nA (fun x => by rw [Rat.mul_comm, h]; rfl) (List.length_pos_iff.mpr nA) x
theorem cf_psc (a : List Rat) (c : Rat) (i : Nat) : cf (pscale a c) i = cf a i * c := cf_map (f := (· * c)) (Rat.zero_mul c) a i
theorem psc_len (a : List Rat) (c : Rat) : (pscale a c).length = a.length := by unfold pscale; rw [List.length_map]
theorem pad_len (a b : List Rat) : (padd a b).length = max a.length b.length := by unfold padd; rw [tab_len]
theorem cf_pmul_nil (a : List Rat) (i : Nat) : cf (pmul a []) i = 0 := by
  rw [cf_pmul]; unfold pc; exact sm_zero fun k _ => by rw [cf_nil, Rat.mul_zero]
theorem cf_pmul_ge {a b : List Rat} {i : Nat} (h : a.length + b.length ≤ i + 1) : cf (pmul a b) i = 0 := by rw [cf_pmul]; exact pc_zero h
structure Inv4 (fa fb : Rat → Rat) (n0 n1 : Nat) (X Y u v p q : List Rat) (c : Rat) : Prop where
  sx : Stp X
  sy : Stp Y
  nx : X ≠ []
  le : Y.length ≤ X.length
  ex : ∀ x, ev X x = ev u x * fa x + ev v x * fb x
  ey : ∀ x, ev Y x = ev p x * fa x + ev q x * fb x
  dt : ∀ x, ev u x * ev q x - ev p x * ev v x = c
  c0 : c ≠ 0
  sq : Stp q
  nq : q ≠ []
  lq : q.length + X.length = n0 + 1
  lv : v.length + Y.length ≤ n0
  lu : u.length ≤ n1 + 1 - Y.length
  lp : p.length ≤ n1 + 1 - X.length
theorem Inv4.step {fa fb : Rat → Rat} {n0 n1 : Nat} {X Y u v p q Q R P : List Rat} {c k : Rat} (I : Inv4 fa fb n0 n1 X Y u v p q c) (nY : Y ≠ []) (hQ : Q.length = X.length - Y.length + 1) (hR : R.length < Y.length)
    (e : ∀ x, ev X x = ev Q x * ev Y x + ev R x) (k0 : k ≠ 0) (hP : P = stripQ (pscale R k)) :
    ∃ p' q', Inv4 fa fb n0 n1 Y P p q p' q' (-(k * c)) := by
  have lX := List.length_pos_iff.mpr I.nx
  have lY := List.length_pos_iff.mpr nY
  have lq0 := List.length_pos_iff.mpr I.nq
  have le := I.le
  have lq := I.lq
  have lv := I.lv
  have lu := I.lu
  have lp := I.lp
  have lP : P.length ≤ R.length := by rw [hP, ← psc_len R k]; exact stripQ_le _
  -- the lead of the quotient
  have tQ : cf Q (X.length - Y.length) ≠ 0 := fun z => by
    have h1 : cf X (X.length - 1) = cf (padd (pmul Q Y) R) (X.length - 1) := cf_of (fun x => by rw [e, ev_padd, ev_pmul]) _
    rw [cf_padd, cf_ge (l := R) (by omega), Rat.add_zero, show X.length - 1 = X.length - Y.length + (Y.length - 1) by omega, top_pmul (by omega) (by omega), z, Rat.zero_mul, show X.length - Y.length + (Y.length - 1) = X.length - 1 by omega] at h1
    exact ne_last I.sx I.nx h1
  let U := pscale (padd u (pscale (pmul Q p) (-1))) k
  let V := pscale (padd v (pscale (pmul Q q) (-1))) k
  have eU : ∀ x, ev U x = k * (ev u x - ev Q x * ev p x) := fun x => by
    show ev (pscale _ k) x = _
    rw [ev_pscale, ev_padd, ev_pscale, ev_pmul]; grind
  have eV : ∀ x, ev V x = k * (ev v x - ev Q x * ev q x) := fun x => by
    show ev (pscale _ k) x = _
    rw [ev_pscale, ev_padd, ev_pscale, ev_pmul]; grind
  have eP : ∀ x, ev P x = k * ev R x := fun x => by rw [hP, ev_stripQ, ev_pscale]; grind
  have topV : (stripQ V).length = X.length - Y.length + (q.length - 1) + 1 := by
    refine sq_eq (fun i hi => ?_) fun z => ?_
    · show cf (pscale _ k) i = 0
      rw [cf_psc, cf_padd, cf_psc, cf_ge (l := v) (by omega), cf_pmul_ge (by omega)]
      grind
    · have z : cf (pscale (padd v (pscale (pmul Q q) (-1))) k) (X.length - Y.length + (q.length - 1)) = 0 := z
      rw [cf_psc, cf_padd, cf_psc, cf_ge (l := v) (by omega), top_pmul (by omega) (by omega)] at z
      have := ne_last I.sq I.nq
      have h2 : cf Q (X.length - Y.length) * cf q (q.length - 1) ≠ 0 := fun y => (Rat.mul_eq_zero.mp y).elim tQ this
      rcases Rat.mul_eq_zero.mp z with y | y
      · exact h2 (by grind)
      · exact k0 y
  refine ⟨stripQ U, stripQ V, I.sy, by rw [hP]; exact stripQ_stp _, nY, by omega, I.ey, fun x => ?_, fun x => ?_, ?_, stripQ_stp _, fun z => ?_, by omega, by omega, by omega, ?_⟩
  · rw [ev_stripQ, ev_stripQ, eU, eV, eP]
    have h1 := e x
    have h2 := I.ex x
    have h3 := I.ey x
    rw [h3] at h1
    rw [h2] at h1
    grind
  · rw [ev_stripQ, ev_stripQ, eU, eV]
    have := I.dt x
    grind
  · intro z
    have : k * c = 0 := by grind
    exact (Rat.mul_eq_zero.mp this).elim k0 I.c0
  · rw [z] at topV
    simp at topV
  · refine sq_len fun i hi => ?_
    show cf (pscale _ k) i = 0
    rw [cf_psc, cf_padd, cf_psc, cf_ge (l := u) (by omega)]
    have : cf (pmul Q p) i = 0 := by
      by_cases hp : p = []
      · rw [hp]; exact cf_pmul_nil _ _
      · have := List.length_pos_iff.mpr hp
        exact cf_pmul_ge (by omega)
    rw [this]
    grind
/-- a row whose numbers are whole -/
theorem int_of {L : List Rat} {N : Nat} (h : ∀ i, Fr 1 N (cf L i)) : ∃ t : List Int, qi t = L ∧ ∀ i, (ci t i).natAbs ≤ N := by
  have h1 : ∀ i, (((cf L i).num : Int) : Rat) = cf L i ∧ (cf L i).num.natAbs ≤ N := fun i => by
    obtain ⟨n, e, hn⟩ := h i
    rw [show ((1 : Nat) : Rat) = 1 from rfl, Rat.mul_one] at e
    rw [e]
    exact ⟨rfl, hn⟩
  refine ⟨L.map (·.num), ?_, fun i => ?_⟩
  · unfold qi
    rw [List.map_map]
    refine List.ext_getElem (by rw [List.length_map]) fun i h2 h3 => ?_
    rw [List.getElem_map]
    have := (h1 i).1
    rw [cf_lt h3] at this
    exact this
  · have h2 := (h1 i).2
    by_cases hi : i < L.length
    · rw [ci_get (show (L.map (·.num))[i]? = some ((cf L i).num) by rw [List.getElem?_map, List.getElem?_eq_getElem hi, cf_lt hi]; rfl)]
      exact h2
    · rw [ci_ge (by rw [List.length_map]; omega)]
      exact Nat.zero_le _
theorem fr_int (z : Int) {N : Nat} (h : z.natAbs ≤ N) : Fr 1 N (z : Rat) := ⟨z, by rw [show ((1 : Nat) : Rat) = 1 from rfl, Rat.mul_one], h⟩
def fab (pz o : List Int) (x : Rat) : Rat := ev (qi pz) x * ev (qi o) x
/-- the greatest that a row can have that is made so -/
def bnd (A B M : Nat) : Nat := 32 * (B * (32 * ((2 * ((M + 1) * A)) ^ M * A) + 32 * ((2 * ((M + 1) * A)) ^ M * A)))
theorem qi_ne {l : List Int} (h : l ≠ []) : qi l ≠ [] := fun z => h (List.map_eq_nil_iff.mp z)
end Vf
set_option maxRecDepth 100000
namespace Vf
def Wh (q : Rat) : Prop := ∃ z : Int, q = (z : Rat)
theorem Wh.add {a b : Rat} : Wh a → Wh b → Wh (a + b) := fun ⟨z, h⟩ ⟨y, h2⟩ => ⟨z + y, by rw [h, h2, Rat.intCast_add]⟩
theorem Wh.mul {a b : Rat} : Wh a → Wh b → Wh (a * b) := fun ⟨z, h⟩ ⟨y, h2⟩ => ⟨z * y, by rw [h, h2, Rat.intCast_mul]⟩
theorem Wh.int (z : Int) : Wh (z : Rat) := ⟨z, rfl⟩
theorem Wh.sm {f : Nat → Rat} : ∀ {n : Nat}, (∀ i, i < n → Wh (f i)) → Wh (sm f n)
  | 0, _ => ⟨0, rfl⟩
  | n + 1, h => (Wh.sm fun i hi => h i (by omega)).add (h n (by omega))
theorem whole_row {L : List Rat} (h : ∀ i, Wh (cf L i)) : ∃ t : List Int, qi t = L := by
  refine ⟨L.map (·.num), ?_⟩
  unfold qi
  rw [List.map_map]
  refine List.ext_getElem (by rw [List.length_map]) fun i h2 h3 => ?_
  rw [List.getElem_map]
  obtain ⟨z, hz⟩ := h i
  rw [cf_lt h3] at hz
  show (((L[i]).num : Int) : Rat) = L[i]
  rw [hz]
  rfl
def IP (f : Rat → Rat) : Prop := ∃ l : List Int, ∀ x, ev (qi l) x = f x
theorem IP.row (l : List Int) : IP (ev (qi l)) := ⟨l, fun _ => rfl⟩
theorem IP.add {f g : Rat → Rat} : IP f → IP g → IP fun x => f x + g x := fun ⟨a, ha⟩ ⟨b, hb⟩ => by
  obtain ⟨t, ht⟩ := whole_row (L := padd (qi a) (qi b)) fun i => by rw [cf_padd, cf_qi, cf_qi]; exact (Wh.int _).add (Wh.int _)
  exact ⟨t, fun x => by rw [ht, ev_padd, ha, hb]⟩
theorem IP.mul {f g : Rat → Rat} : IP f → IP g → IP fun x => f x * g x := fun ⟨a, ha⟩ ⟨b, hb⟩ => by
  obtain ⟨t, ht⟩ := whole_row (L := pmul (qi a) (qi b)) fun i => by
    rw [cf_pmul]; unfold pc
    exact Wh.sm fun j _ => by rw [cf_qi, cf_qi]; exact (Wh.int _).mul (Wh.int _)
  exact ⟨t, fun x => by rw [ht, ev_pmul, ha, hb]⟩
theorem IP.int (z : Int) : IP fun _ => (z : Rat) := ⟨[z], fun x => by show (z : Rat) + x * 0 = _; grind⟩
theorem IP.ext {f g : Rat → Rat} (h : IP f) (e : ∀ x, f x = g x) : IP g := by
  obtain ⟨l, hl⟩ := h
  exact ⟨l, fun x => by rw [hl, e]⟩
theorem IP.x : IP fun x => x := ⟨[0, 1], fun x => by show ((0 : Int) : Rat) + x * (((1 : Int) : Rat) + x * 0) = x; rw [show ((0 : Int) : Rat) = 0 from rfl, show ((1 : Int) : Rat) = 1 from rfl]; grind⟩
theorem IP.pow : ∀ n : Nat, IP fun x => x ^ n
  | 0 => (IP.int 1).ext fun x => by rw [Rat.pow_zero]; rfl
  | n + 1 => ((IP.pow n).mul IP.x).ext fun x => by rw [Rat.pow_succ]
/-- g divides f by p -/
def MD (p : Nat) (g f : Rat → Rat) : Prop := ∃ s h, IP s ∧ IP h ∧ ∀ x, f x = g x * s x + (p : Rat) * h x
theorem MD.self (p : Nat) (g : Rat → Rat) : MD p g g := ⟨fun _ => 1, fun _ => 0, (IP.int 1).ext fun _ => rfl, (IP.int 0).ext fun _ => rfl, fun x => by grind⟩
theorem MD.zero (p : Nat) (g : Rat → Rat) : MD p g fun _ => 0 := ⟨fun _ => 0, fun _ => 0, (IP.int 0).ext fun _ => rfl, (IP.int 0).ext fun _ => rfl, fun x => by grind⟩
theorem MD.add {p : Nat} {g f1 f2 : Rat → Rat} : MD p g f1 → MD p g f2 → MD p g fun x => f1 x + f2 x := fun ⟨s, h, i1, i2, e⟩ ⟨s', h', j1, j2, e'⟩ =>
  ⟨_, _, i1.add j1, i2.add j2, fun x => by dsimp only; rw [e, e']; grind⟩
theorem MD.mul {p : Nat} {g f k : Rat → Rat} (hk : IP k) : MD p g f → MD p g fun x => f x * k x := fun ⟨s, h, i1, i2, e⟩ =>
  ⟨_, _, i1.mul hk, i2.mul hk, fun x => by dsimp only; rw [e]; grind⟩
theorem MD.more {p : Nat} {g f k : Rat → Rat} (hk : IP k) : MD p g f → MD p g fun x => f x + (p : Rat) * k x := fun ⟨s, h, i1, i2, e⟩ =>
  ⟨_, _, i1, i2.add hk, fun x => by dsimp only; rw [e]; grind⟩
theorem MD.ext {p : Nat} {g f f' : Rat → Rat} (h : MD p g f) (e : ∀ x, f x = f' x) : MD p g f' := by
  obtain ⟨s, k, i1, i2, h⟩ := h
  exact ⟨s, k, i1, i2, fun x => by rw [← e, h]⟩
theorem MD.of {p : Nat} {g f s : Rat → Rat} (hs : IP s) (e : ∀ x, f x = g x * s x) : MD p g f := ⟨s, fun _ => 0, hs, (IP.int 0).ext fun _ => rfl, fun x => by rw [e]; grind⟩
/-- a number that is 1 by p, times another -/
theorem MD.unit {p : Nat} {g f : Rat → Rat} {a w z : Int} (hf : IP f) (e : a * w = 1 + p * z) (h : MD p g fun x => f x * (a : Rat)) : MD p g f := by
  have h2 := (h.mul (IP.int w)).more ((hf.mul (IP.int (-z))))
  refine h2.ext fun x => ?_
  have e' : (a : Rat) * (w : Rat) = 1 + (p : Rat) * (z : Rat) := by
    have : ((a * w : Int) : Rat) = ((1 + p * z : Int) : Rat) := by rw [e]
    rw [Rat.intCast_mul, Rat.intCast_add, Rat.intCast_mul] at this
    exact this
  rw [show ((-z : Int) : Rat) = -(z : Rat) from Rat.intCast_neg z]
  have : f x * (a : Rat) * (w : Rat) = f x * (1 + (p : Rat) * (z : Rat)) := by rw [← e']; grind
  rw [this]
  grind
theorem last_no {p : Nat} {l : List Int} (h : ∃ i, ¬ (p : Int) ∣ ci l i) : ∃ g, ¬ (p : Int) ∣ ci l g ∧ ∀ i, g < i → (p : Int) ∣ ci l i := by
  have key : ∀ n, (∀ i, n ≤ i → (p : Int) ∣ ci l i) → ∃ g, ¬ (p : Int) ∣ ci l g ∧ ∀ i, g < i → (p : Int) ∣ ci l i := fun n => by
    induction n with
    | zero =>
      intro hn
      obtain ⟨i, hi⟩ := h
      exact absurd (hn i (Nat.zero_le _)) hi
    | succ n ih =>
      intro hn
      by_cases hd : (p : Int) ∣ ci l n
      · refine ih fun i hi => ?_
        by_cases e : i = n
        · rw [e]; exact hd
        · exact hn i (by omega)
      · exact ⟨n, hd, fun i hi => hn i hi⟩
  exact key l.length fun i hi => by rw [ci_ge hi]; exact Int.dvd_zero _
theorem si_mod {q : Int} {f : Nat → Int} {g : Nat} : ∀ {n : Nat}, (∀ k, k < n → k ≠ g → q ∣ f k) → (n ≤ g → q ∣ si f n) ∧ (g < n → q ∣ si f n - f g)
  | 0, _ => ⟨fun _ => Int.dvd_zero _, fun h => by omega⟩
  | n + 1, h => by
    obtain ⟨h1, h2⟩ := si_mod (n := n) fun k hk => h k (by omega)
    refine ⟨fun hg => Int.dvd_add (h1 (by omega)) (h n (by omega) (by omega)), fun hg => ?_⟩
    show q ∣ si f n + f n - f g
    by_cases e : n = g
    · subst e
      rw [Int.add_sub_cancel]
      exact h1 (Nat.le_refl _)
    · have := Int.dvd_add (h2 (by omega)) (h n (by omega) e)
      rw [show si f n + f n - f g = si f n - f g + f n by omega]
      exact this
theorem Pr.mul {p : Nat} (hp : Pr p) {a b : Int} (h : (p : Int) ∣ a * b) : (p : Int) ∣ a ∨ (p : Int) ∣ b := by
  by_cases ha : (p : Int) ∣ a
  · exact .inl ha
  · refine .inr ?_
    have h1 : ¬ p ∣ a.natAbs := fun z => ha (Int.ofNat_dvd_left.mpr z)
    have h2 := hp.cop h1
    have h3 : p ∣ a.natAbs * b.natAbs := by rw [← Int.natAbs_mul]; exact Int.ofNat_dvd_left.mp h
    exact Int.ofNat_dvd_left.mpr (Nat.Coprime.dvd_of_dvd_mul_left (Nat.Coprime.symm h2) h3)
theorem top_mod {p : Nat} (hp : Pr p) {G S : List Int} {g s : Nat} (h1 : ¬ (p : Int) ∣ ci G g) (h2 : ∀ i, g < i → (p : Int) ∣ ci G i) (h3 : ¬ (p : Int) ∣ ci S s) (h4 : ∀ i, s < i → (p : Int) ∣ ci S i) :
    ∃ z : Int, cf (pmul (qi G) (qi S)) (g + s) = (z : Rat) ∧ ¬ (p : Int) ∣ z := by
  refine ⟨si (fun k => ci G k * ci S (g + s - k)) (g + s + 1), ?_, fun hd => ?_⟩
  · rw [cf_pmul, si_sm]
    unfold pc
    exact sm_ext fun i _ => by rw [cf_qi, cf_qi, Rat.intCast_mul]
  · have := (si_mod (q := p) (f := fun k => ci G k * ci S (g + s - k)) (g := g) (n := g + s + 1) fun k hk ne => by
      rcases Nat.lt_or_ge k g with z | z
      · exact Int.dvd_mul_of_dvd_right (h4 _ (by omega))
      · exact Int.dvd_mul_of_dvd_left (h2 _ (by omega))).2 (by omega)
    have h5 : (p : Int) ∣ ci G g * ci S (g + s - g) := by
      have := Int.dvd_sub hd this
      rw [show ∀ a b : Int, a - (a - b) = b by intro a b; omega] at this
      exact this
    rw [show g + s - g = s by omega] at h5
    rcases hp.mul h5 with z | z
    · exact h1 z
    · exact h3 z
structure Pm (P : List Int) : Prop where
  ne : P ≠ []
  tp : 0 < ci P (P.length - 1)
  u : ∀ u : Nat, (∀ i, (u : Int) ∣ ci P i) → u = 1
theorem Pm.stp {P : List Int} (h : Pm P) : Stp (qi P) := by
  intro r x e
  have h1 := congrArg List.length e
  rw [qi_len, List.length_append] at h1
  have h2 : cf (qi P) (P.length - 1) = x := by
    rw [e, cf_app, if_neg (by simp at h1; omega)]
    rw [show P.length - 1 - r.length = 0 by simp at h1; omega]
    rfl
  rw [cf_qi] at h2
  have := h.tp
  rw [← h2]
  have : ci P (P.length - 1) ≠ 0 := by omega
  exact_mod_cast this
theorem prime_ex : ∀ n : Nat, 1 < n → ∃ q, Pr q ∧ q ∣ n := fun n => by
  induction n using Nat.strongRecOn with
  | _ n ih =>
    intro hn
    by_cases h : ∀ d, d ∣ n → d = 1 ∨ d = n
    · exact ⟨n, ⟨hn, h⟩, Nat.dvd_refl _⟩
    · have : ∃ d, d ∣ n ∧ d ≠ 1 ∧ d ≠ n := by
        refine Classical.byContradiction fun no => h fun d hd => ?_
        refine Decidable.byContradiction fun z => no ⟨d, hd, fun y => z (.inl y), fun y => z (.inr y)⟩
      obtain ⟨d, hd, d1, dn⟩ := this
      have := Nat.le_of_dvd (by omega) hd
      have d0 : d ≠ 0 := fun z => by rw [z] at hd; have := Nat.eq_zero_of_zero_dvd hd; omega
      obtain ⟨q, hq, h2⟩ := ih d (by omega) (by omega)
      exact ⟨q, hq, Nat.dvd_trans h2 hd⟩
theorem bottom_ex : ∀ S : List Rat, ∃ D : Nat, 0 < D ∧ ∀ i, Wh (cf S i * (D : Rat))
  | [] => ⟨1, by decide, fun i => ⟨0, by rw [cf_nil]; rw [Rat.zero_mul]; rfl⟩⟩
  | a :: r => by
    obtain ⟨D, h0, h⟩ := bottom_ex r
    refine ⟨a.den * D, Nat.mul_pos a.den_pos h0, fun i => ?_⟩
    rw [cf_cons, Rat.natCast_mul]
    split
    · have := (Wh.int a.num).mul (Wh.int (D : Int))
      rw [← num_denQ] at this
      exact this.elim fun z hz => ⟨z, by rw [← hz]; show _ = a * (a.den : Rat) * (D : Rat); grind⟩
    · have := (h (i - 1)).mul (Wh.int (a.den : Int))
      exact this.elim fun z hz => ⟨z, by rw [← hz]; show _ = cf r (i - 1) * (D : Rat) * (a.den : Rat); grind⟩
/-- Gauss: what a primitive row divides, it divides in whole numbers -/
theorem gauss {X G : List Int} {S : List Rat} (hG : Pm G) (h : ∀ x, ev (qi X) x = ev (qi G) x * ev S x) : ∃ c : List Int, ∀ x, ev (qi c) x = ev S x := by
  have key : ∀ D : Nat, 0 < D → ∀ T : List Int, (∀ x, (D : Rat) * ev (qi X) x = ev (qi G) x * ev (qi T) x) → ∃ c : List Int, ∀ x, (D : Rat) * ev (qi c) x = ev (qi T) x := fun D => by
    induction D using Nat.strongRecOn with
    | _ D ih =>
      intro D0 T hT
      by_cases h1 : D = 1
      · exact ⟨T, fun x => by rw [h1]; show (1 : Rat) * _ = _; grind⟩
      obtain ⟨q, hq, E, rfl⟩ := prime_ex D (by omega)
      have q1 := hq.1
      have E0 : 0 < E := by
        rcases Nat.eq_zero_or_pos E with z | z
        · rw [z] at D0; simp at D0
        · exact z
      have hz : ∀ i, (q : Int) ∣ ci T i := by
        refine Classical.byContradiction fun no => ?_
        have hT2 : ∃ i, ¬ (q : Int) ∣ ci T i := by
          refine Classical.byContradiction fun z => no fun i => ?_
          exact Decidable.byContradiction fun y => z ⟨i, y⟩
        have hG2 : ∃ i, ¬ (q : Int) ∣ ci G i := by
          refine Classical.byContradiction fun z => ?_
          have := hG.u q fun i => Decidable.byContradiction fun y => z ⟨i, y⟩
          omega
        obtain ⟨g, g1, g2⟩ := last_no hG2
        obtain ⟨s, s1, s2⟩ := last_no hT2
        obtain ⟨z, z1, z2⟩ := top_mod hq g1 g2 s1 s2
        have e1 : cf (pscale (qi X) ((q * E : Nat) : Rat)) (g + s) = cf (pmul (qi G) (qi T)) (g + s) := cf_of (fun x => by rw [ev_pscale, ev_pmul, ← hT]; grind) _
        rw [cf_psc, cf_qi, z1] at e1
        refine z2 ⟨E * ci X (g + s), ?_⟩
        have e2 : ((ci X (g + s) * ((q * E : Nat) : Int) : Int) : Rat) = (z : Rat) := by rw [Rat.intCast_mul]; exact e1
        have e3 : ci X (g + s) * ((q * E : Nat) : Int) = z := by exact_mod_cast e2
        rw [← e3, Int.natCast_mul]
        grind
      -- by q
      have qR : (q : Rat) ≠ 0 := by
        have : q ≠ 0 := by omega
        exact_mod_cast this
      have eT : ∀ x, ev (qi T) x = (q : Rat) * ev (qi (tabI T.length fun i => ci T i / q)) x := fun x => by
        have : ev (qi T) x = ev (pscale (qi (tabI T.length fun i => ci T i / q)) (q : Rat)) x := ev_ext (fun i => by
          rw [cf_psc, cf_qi, cf_qi, ci_tab]
          have : ci T i = (if i < T.length then ci T i / (q : Int) else 0) * (q : Int) := by
            split
            · exact (Int.ediv_mul_cancel (hz i)).symm
            · rw [ci_ge (by omega), Int.zero_mul]
          have e : ((ci T i : Int) : Rat) = (((if i < T.length then ci T i / (q : Int) else 0) * (q : Int) : Int) : Rat) := by rw [← this]
          rw [e, Rat.intCast_mul]
          rfl) x
        rw [this, ev_pscale]; grind
      obtain ⟨c, hc⟩ := ih E (by have := Nat.mul_le_mul_right E (show 2 ≤ q by omega); omega) E0 (tabI T.length fun i => ci T i / q) fun x => by
        have h2 := hT x
        rw [eT, Rat.natCast_mul] at h2
        have h3 : (q : Rat) * ((E : Rat) * ev (qi X) x) = (q : Rat) * (ev (qi G) x * ev (qi (tabI T.length fun i => ci T i / (q : Int))) x) := by grind
        have h4 : ∀ {a b : Rat}, (q : Rat) * a = (q : Rat) * b → a = b := fun {a b} e => by
          have : (q : Rat) * (a - b) = 0 := by grind
          rcases Rat.mul_eq_zero.mp this with z | z
          · exact absurd z qR
          · grind
        exact h4 h3
      refine ⟨c, fun x => ?_⟩
      rw [eT, ← hc, Rat.natCast_mul]
      grind
  obtain ⟨D, D0, hD⟩ := bottom_ex S
  obtain ⟨T, hT⟩ := whole_row (L := pscale S (D : Rat)) fun i => by rw [cf_psc]; exact hD i
  obtain ⟨c, hc⟩ := key D D0 T fun x => by rw [hT, ev_pscale, h]; grind
  refine ⟨c, fun x => ?_⟩
  have h1 := hc x
  rw [hT, ev_pscale] at h1
  have DR : (D : Rat) ≠ 0 := by
    have : D ≠ 0 := by omega
    exact_mod_cast this
  have : (D : Rat) * (ev (qi c) x - ev S x) = 0 := by grind
  rcases Rat.mul_eq_zero.mp this with z | z
  · exact absurd z DR
  · grind
/-- a whole row that is a primitive one times a number -/
theorem pm_mult {Y t : List Int} {k : Rat} (hY : Pm Y) (h : ∀ x, ev (qi t) x = k * ev (qi Y) x) : ∃ z : Int, k = (z : Rat) ∧ ∀ i, ci t i = z * ci Y i := by
  have e : ∀ i, ((ci t i : Int) : Rat) = k * ((ci Y i : Int) : Rat) := fun i => by
    have := cf_of (A := qi t) (B := pscale (qi Y) k) (fun x => by rw [ev_pscale, h]; grind) i
    rw [cf_psc, cf_qi, cf_qi] at this
    rw [this]; grind
  have d1 : k.den = 1 := hY.u _ fun i => by
    have h1 : ((ci t i * (k.den : Int) : Int) : Rat) = ((k.num * ci Y i : Int) : Rat) := by
      rw [Rat.intCast_mul, Rat.intCast_mul, e, ← num_denQ k]
      show k * ((ci Y i : Int) : Rat) * (k.den : Rat) = _
      grind
    have h2 : ci t i * (k.den : Int) = k.num * ci Y i := by exact_mod_cast h1
    have h3 : k.den ∣ k.num.natAbs * (ci Y i).natAbs := ⟨(ci t i).natAbs, by rw [← Int.natAbs_mul, ← h2, Int.natAbs_mul, Int.natAbs_natCast, Nat.mul_comm]⟩
    exact Int.ofNat_dvd_left.mpr (Nat.Coprime.dvd_of_dvd_mul_left (Nat.Coprime.symm k.reduced) h3)
  have k1 : k = (k.num : Rat) := by
    have := num_denQ k
    rw [d1] at this
    rw [← this]
    exact (Rat.mul_one k).symm
  refine ⟨k.num, k1, fun i => ?_⟩
  have h1 := e i
  rw [k1] at h1
  have : ((ci t i : Int) : Rat) = ((k.num * ci Y i : Int) : Rat) := by rw [Rat.intCast_mul]; exact h1
  exact_mod_cast this
theorem pm_le {Y t : List Int} {k : Rat} (hY : Pm Y) (k0 : k ≠ 0) (h : ∀ x, ev (qi t) x = k * ev (qi Y) x) (i : Nat) : (ci Y i).natAbs ≤ (ci t i).natAbs := by
  obtain ⟨z, e, hz⟩ := pm_mult hY h
  have z0 : z ≠ 0 := fun y => k0 (by rw [e, y]; rfl)
  rw [hz, Int.natAbs_mul]
  exact Nat.le_mul_of_pos_left _ (by omega)
theorem ci_ext {a b : List Int} (hl : a.length = b.length) (h : ∀ i, ci a i = ci b i) : a = b := by
  refine List.ext_getElem hl fun i h1 h2 => ?_
  have := h i
  have e1 := ci_lt h1
  have e2 := ci_lt h2
  rw [List.getElem?_eq_getElem h1] at e1
  rw [List.getElem?_eq_getElem h2] at e2
  injection e1 with e1
  injection e2 with e2
  rw [e1, e2, this]
theorem pm_uniq {Y t : List Int} {k : Rat} (hY : Pm Y) (ht : Pm t) (h : ∀ x, ev (qi t) x = k * ev (qi Y) x) : t = Y := by
  have k0 : k ≠ 0 := fun z => by
    have : cf (qi t) (t.length - 1) = cf [] (t.length - 1) := cf_of (fun x => by rw [h, z]; show 0 * _ = (0 : Rat); grind) _
    rw [cf_qi, cf_nil] at this
    have h2 : ci t (t.length - 1) = 0 := by exact_mod_cast this
    have := ht.tp
    omega
  obtain ⟨z, e, hz⟩ := pm_mult hY h
  have z1 : z.natAbs = 1 := ht.u _ fun i => by rw [hz]; exact Int.dvd_mul_of_dvd_left (Int.natAbs_dvd.mpr (Int.dvd_refl z))
  have hl : t.length = Y.length := by
    have s1 := stp_len ht.stp (b := pscale (qi Y) k) (cf_of fun x => by rw [ev_pscale, h]; grind)
    have s2 := stp_len hY.stp (b := pscale (qi t) (1 / k)) (cf_of fun x => by
      rw [ev_pscale, h]
      have : k * (1 / k) = 1 := by rw [Rat.div_def, Rat.one_mul]; exact Rat.mul_inv_cancel k k0
      grind)
    rw [psc_len, qi_len, qi_len] at s1 s2
    omega
  have zp : z = 1 := by
    have h1 := ht.tp
    have h2 := hY.tp
    rw [hl, hz] at h1
    have : z = 1 ∨ z = -1 := by omega
    rcases this with e | e
    · exact e
    · rw [e] at h1; omega
  exact ci_ext hl fun i => by rw [hz, zp, Int.one_mul]
end Vf
set_option maxRecDepth 100000
namespace Vf
theorem md_rows {p : Nat} {g row : List Int} (h : MD p (ev (qi g)) (ev (qi row))) : ∃ s k : List Int, ∀ i, cf (pmul (qi g) (qi s)) i = ((ci row i - p * ci k i : Int) : Rat) := by
  obtain ⟨s, k, ⟨sl, hs⟩, ⟨kl, hk⟩, e⟩ := h
  refine ⟨sl, kl, fun i => ?_⟩
  have := cf_of (A := qi row) (B := padd (pmul (qi g) (qi sl)) (pscale (qi kl) (p : Rat))) (fun x => by rw [ev_padd, ev_pmul, ev_pscale, e, hs, hk]; grind) i
  rw [cf_qi, cf_padd, cf_psc, cf_qi] at this
  rw [Rat.intCast_sub, Rat.intCast_mul, this]
  show _ = _ - (p : Rat) * _
  grind
theorem md_len {p : Nat} (hp : Pr p) {G row : List Int} (h0 : ¬ (p : Int) ∣ ci G (G.length - 1)) (h1 : ∃ i, ¬ (p : Int) ∣ ci row i) (h : MD p (ev (qi G)) (ev (qi row))) : G.length ≤ row.length := by
  obtain ⟨s, k, e⟩ := md_rows h
  have hG : 0 < G.length := by
    rcases Nat.eq_zero_or_pos G.length with z | z
    · exfalso
      refine h0 ?_
      rw [ci_ge (by omega)]
      exact Int.dvd_zero _
    · exact z
  have hs : ∃ i, ¬ (p : Int) ∣ ci s i := by
    refine Classical.byContradiction fun no => ?_
    obtain ⟨i, hi⟩ := h1
    have all : ∀ j, (p : Int) ∣ ci s j := fun j => Classical.byContradiction fun y => no ⟨j, y⟩
    have e1 : cf (pmul (qi G) (qi s)) i = ((si (fun k => ci G k * ci s (i - k)) (i + 1) : Int) : Rat) := by
      rw [cf_pmul, si_sm]
      unfold pc
      exact sm_ext fun j _ => by rw [cf_qi, cf_qi, Rat.intCast_mul]
    have e2 : si (fun k => ci G k * ci s (i - k)) (i + 1) = ci row i - p * ci k i := by
      have := e1.symm.trans (e i)
      exact_mod_cast this
    have e3 := (si_mod (q := p) (f := fun k => ci G k * ci s (i - k)) (g := i + 1) (n := i + 1) fun j _ _ => Int.dvd_mul_of_dvd_right (all _)).1 (Nat.le_refl _)
    rw [e2] at e3
    have := Int.dvd_add e3 (Int.dvd_mul_right (p : Int) (ci k i))
    rw [show ci row i - p * ci k i + p * ci k i = ci row i by omega] at this
    exact hi this
  obtain ⟨s0, s1, s2⟩ := last_no hs
  obtain ⟨z, z1, z2⟩ := top_mod hp h0 (fun i hi => by rw [ci_ge (by omega)]; exact Int.dvd_zero _) s1 s2
  rw [e] at z1
  have e2 : ci row (G.length - 1 + s0) - p * ci k (G.length - 1 + s0) = z := by exact_mod_cast z1
  refine Decidable.byContradiction fun no => z2 ?_
  rw [← e2, ci_ge (l := row) (by omega)]
  exact ⟨-ci k (G.length - 1 + s0), by grind⟩
theorem md_const {p : Nat} (hp : Pr p) {G row : List Int} (h0 : ¬ (p : Int) ∣ ci row (row.length - 1)) (hl : G.length ≤ row.length) (h : MD p (ev (qi row)) (ev (qi G))) : ∃ k : Int, ∀ i, (p : Int) ∣ ci G i - k * ci row i := by
  obtain ⟨s, k, e⟩ := md_rows h
  have hR : 0 < row.length := by
    rcases Nat.eq_zero_or_pos row.length with z | z
    · exfalso
      refine h0 ?_
      rw [ci_ge (by omega)]
      exact Int.dvd_zero _
    · exact z
  have hs : ∀ i, 0 < i → (p : Int) ∣ ci s i := by
    refine Classical.byContradiction fun no => ?_
    have : ∃ i, 0 < i ∧ ¬ (p : Int) ∣ ci s i := Classical.byContradiction fun y => no fun i hi => Classical.byContradiction fun z => y ⟨i, hi, z⟩
    obtain ⟨i, i0, hi⟩ := this
    obtain ⟨s0, s1, s2⟩ := last_no ⟨i, hi⟩
    have : i ≤ s0 := by
      refine Decidable.byContradiction fun z => hi (s2 i (by omega))
    obtain ⟨z, z1, z2⟩ := top_mod hp h0 (fun i hi => by rw [ci_ge (by omega)]; exact Int.dvd_zero _) s1 s2
    rw [e] at z1
    have e2 : ci G (row.length - 1 + s0) - p * ci k (row.length - 1 + s0) = z := by exact_mod_cast z1
    refine z2 ?_
    rw [← e2, ci_ge (l := G) (by omega)]
    exact ⟨-ci k (row.length - 1 + s0), by grind⟩
  refine ⟨ci s 0, fun i => ?_⟩
  have e1 : cf (pmul (qi row) (qi s)) i = ((si (fun k => ci row k * ci s (i - k)) (i + 1) : Int) : Rat) := by
    rw [cf_pmul, si_sm]
    unfold pc
    exact sm_ext fun j _ => by rw [cf_qi, cf_qi, Rat.intCast_mul]
  have e2 : si (fun k => ci row k * ci s (i - k)) (i + 1) = ci G i - p * ci k i := by
    have := e1.symm.trans (e i)
    exact_mod_cast this
  have e3 := (si_mod (q := p) (f := fun k => ci row k * ci s (i - k)) (g := i) (n := i + 1) fun j hj ne => Int.dvd_mul_of_dvd_right (hs _ (by omega))).2 (by omega)
  rw [e2, Nat.sub_self] at e3
  have := Int.dvd_add e3 (Int.dvd_mul_right (p : Int) (ci k i))
  rw [show ci G i - p * ci k i - ci row i * ci s 0 + p * ci k i = ci G i - ci s 0 * ci row i by grind] at this
  exact this
/-- the greatest common divisor of two primitive rows, and a short sum that tells it -/
structure GdT (X Y G : List Int) : Prop where
  px : Pm X
  py : Pm Y
  pg : Pm G
  dx : ∃ c : List Int, ∀ x, ev (qi X) x = ev (qi G) x * ev (qi c) x
  dy : ∃ c : List Int, ∀ x, ev (qi Y) x = ev (qi G) x * ev (qi c) x
  bz : ∃ (u v : List Int) (R : Int), R ≠ 0 ∧ R.natAbs < 2 ^ 4423 - 1 ∧ ∀ x, (R : Rat) * ev (qi G) x = ev (qi u) x * ev (qi X) x + ev (qi v) x * ev (qi Y) x
/-- a divisor of both that is no shorter is the greatest one -/
theorem GdT.sound {X Y G F : List Int} (h : GdT X Y G) (hF : Pm F) (hl : G.length ≤ F.length) (h1 : ∃ c : List Rat, ∀ x, ev (qi X) x = ev (qi F) x * ev c x) (h2 : ∃ c : List Rat, ∀ x, ev (qi Y) x = ev (qi F) x * ev c x) : F = G := by
  obtain ⟨u, v, R, R0, _, e⟩ := h.bz
  obtain ⟨a, ha⟩ := h1
  obtain ⟨b, hb⟩ := h2
  have RR : (R : Rat) ≠ 0 := by exact_mod_cast R0
  have RI : (R : Rat) * (1 / (R : Rat)) = 1 := by rw [Rat.div_def, Rat.one_mul]; exact Rat.mul_inv_cancel _ RR
  let W := pscale (padd (pmul (qi u) a) (pmul (qi v) b)) (1 / (R : Rat))
  have eW : ∀ x, ev (qi G) x = ev (qi F) x * ev W x := fun x => by
    show _ = _ * ev (pscale _ _) x
    rw [ev_pscale, ev_padd, ev_pmul, ev_pmul]
    have h3 := e x
    rw [ha, hb] at h3
    have h4 : ev (qi G) x = (R : Rat) * ev (qi G) x * (1 / (R : Rat)) := by grind
    rw [h4, h3]
    grind
  obtain ⟨k, hk⟩ := mul_const hF.stp (qi_ne hF.ne) eW (by rw [qi_len, qi_len]; exact hl)
  exact (pm_uniq hF h.pg (k := k) fun x => by rw [eW, hk]; grind).symm
/-- the leads -/
theorem lead_dvd {X G : List Int} (hX : Pm X) (hG : Pm G) (h : ∃ c : List Int, ∀ x, ev (qi X) x = ev (qi G) x * ev (qi c) x) : ci G (G.length - 1) ∣ ci X (X.length - 1) ∧ G.length ≤ X.length := by
  obtain ⟨c, hc⟩ := h
  have nc : stripQ (qi c) ≠ [] := fun z => by
    have : qi X = [] := stp_ext hX.stp (fun _ _ z => by simp at z) (cf_of fun x => by rw [hc, ev_nil' z]; show _ * 0 = (0 : Rat); grind)
    exact qi_ne hX.ne this
  have l1 := len_mul_eq (Z := qi X) hG.stp (stripQ_stp (qi c)) hX.stp (qi_ne hG.ne) nc fun x => by rw [hc, ev_stripQ]
  have lc := List.length_pos_iff.mpr nc
  have lG := List.length_pos_iff.mpr hG.ne
  rw [qi_len, qi_len] at l1
  have e : cf (qi X) (X.length - 1) = cf (pmul (qi G) (stripQ (qi c))) (X.length - 1) := cf_of (fun x => by rw [hc, ev_pmul, ev_stripQ]) _
  rw [show X.length - 1 = G.length - 1 + ((stripQ (qi c)).length - 1) by omega, top_pmul (by rw [qi_len]; omega) (by omega), cf_stripQ, cf_qi, cf_qi, cf_qi] at e
  refine ⟨⟨ci c ((stripQ (qi c)).length - 1), ?_⟩, by omega⟩
  rw [show X.length - 1 = G.length - 1 + ((stripQ (qi c)).length - 1) by omega]
  rw [← Rat.intCast_mul] at e
  exact_mod_cast e
/-- p does not spoil the greatest divisor -/
theorem GdT.len_le {X Y G row : List Int} {p : Nat} (hp : Pr p) (h : GdT X Y G) (hl : ¬ ((p : Int) ∣ ci X (X.length - 1) ∧ (p : Int) ∣ ci Y (Y.length - 1))) (hr : ∃ i, ¬ (p : Int) ∣ ci row i) (hm : MD p (ev (qi G)) (ev (qi row))) : G.length ≤ row.length ∧ ¬ (p : Int) ∣ ci G (G.length - 1) := by
  have hG : ¬ (p : Int) ∣ ci G (G.length - 1) := fun z => hl ⟨Int.dvd_trans z (lead_dvd h.px h.pg h.dx).1, Int.dvd_trans z (lead_dvd h.py h.pg h.dy).1⟩
  exact ⟨md_len hp hG hr hm, hG⟩
theorem inv_ex {p : Nat} (hp : Pr p) {a : Int} (h : ¬ (p : Int) ∣ a) : ∃ w z : Int, a * w = 1 + p * z := by
  have h1 : ¬ p ∣ a.natAbs := fun z => h (Int.ofNat_dvd_left.mpr z)
  have h2 := hp.cop h1
  have key : ∀ a b : Nat, Nat.gcd a b = 1 → ∃ w z : Int, (a : Int) * w + (b : Int) * z = 1 := fun a => by
    induction a using Nat.strongRecOn with
    | _ a ih =>
      intro b hg
      by_cases a0 : a = 0
      · subst a0
        rw [Nat.gcd_zero_left] at hg
        exact ⟨0, 1, by rw [hg]; rfl⟩
      · obtain ⟨w, z, e⟩ := ih (b % a) (Nat.mod_lt _ (by omega)) a (by rw [← Nat.gcd_rec]; exact hg)
        have h6 := Nat.div_add_mod b a
        have h7 : (a : Int) * ((b / a : Nat) : Int) + ((b % a : Nat) : Int) = b := by exact_mod_cast h6
        exact ⟨z - ((b / a : Nat) : Int) * w, w, by grind⟩
  obtain ⟨w, z, e⟩ := key a.natAbs p h2
  rcases Int.natAbs_eq a with y | y
  · exact ⟨w, -z, by rw [y]; grind⟩
  · exact ⟨-w, -z, by rw [y]; grind⟩
/-- p is no divisor of the short sum: what the residues tell has the divisor's length -/
theorem GdT.luck {X Y G row : List Int} {p : Nat} (hp : Pr p) (hb : 2 ^ 4423 - 1 ≤ p) (h : GdT X Y G) (ht : ¬ (p : Int) ∣ ci row (row.length - 1)) (hl : G.length ≤ row.length) (hG : ¬ (p : Int) ∣ ci G (G.length - 1))
    (hx : MD p (ev (qi row)) (ev (qi X))) (hy : MD p (ev (qi row)) (ev (qi Y))) : row.length = G.length ∧ ∃ k : Int, ∀ i, (p : Int) ∣ ci G i - k * ci row i := by
  obtain ⟨u, v, R, R0, Rp, e⟩ := h.bz
  have hR : ¬ (p : Int) ∣ R := fun z => by
    have h1 := Int.ofNat_dvd_left.mp z
    have := Nat.le_of_dvd (by omega) h1
    omega
  obtain ⟨w, z, ew⟩ := inv_ex hp hR
  have m1 : MD p (ev (qi row)) (fun x => ev (qi G) x * (R : Rat)) := ((hx.mul (IP.row u)).add (hy.mul (IP.row v))).ext fun x => by
    have := e x
    grind
  have m2 := MD.unit (IP.row G) ew m1
  refine ⟨?_, md_const hp ht hl m2⟩
  have := md_len hp ht ⟨_, hG⟩ m2
  omega
/-- the residue nearest to 0 -/
def nres (p n : Int) : Int := if 2 * (n % p) > p then n % p - p else n % p
theorem nres_mod {p n : Int} : p ∣ n - nres p n := by
  have h := Int.mul_ediv_add_emod n p
  unfold nres
  split
  · exact ⟨n / p + 1, by grind⟩
  · exact ⟨n / p, by grind⟩
theorem nres_lt {p n : Int} (hp : 0 < p) : (nres p n).natAbs ≤ p.natAbs := by
  have h1 := Int.emod_nonneg n (show p ≠ 0 by omega)
  have h2 := Int.emod_lt_of_pos n hp
  unfold nres
  split <;> omega
theorem nres_eq {p n z : Int} (hp : 0 < p) (h : p ∣ n - z) (hz : 2 * z.natAbs < p.natAbs) : nres p n = z := by
  have h1 := Int.emod_nonneg n (show p ≠ 0 by omega)
  have h2 := Int.emod_lt_of_pos n hp
  have h3 : 2 * (nres p n).natAbs ≤ p.natAbs := by
    unfold nres
    split <;> omega
  obtain ⟨a, ha⟩ := h
  obtain ⟨b, hb⟩ := nres_mod (p := p) (n := n)
  generalize nres p n = y at *
  have e : z - y = p * (b - a) := by rw [Int.mul_sub, ← ha, ← hb]; omega
  have : b - a = 0 := by
    refine Decidable.byContradiction fun no => ?_
    have h4 : p.natAbs ≤ (z - y).natAbs := by
      rw [e, Int.natAbs_mul]
      exact Nat.le_mul_of_pos_right _ (by omega)
    omega
  rw [this, Int.mul_zero] at e
  omega
/-- the residues times what the leads tell are the divisor times a number -/
theorem recover {p L w rt k : Int} {G : Nat → Int} {row : Nat → Int} {g m : Int} (hL : L = g * m) (hw : p ∣ w * rt - 1) (ht : p ∣ g - k * rt) (i : Nat) (hi : p ∣ G i - k * row i) : p ∣ L * w * row i - m * G i := by
  obtain ⟨a, ha⟩ := hw
  obtain ⟨b, hb⟩ := ht
  obtain ⟨c, hc⟩ := hi
  exact ⟨m * (k * a * row i + b * w * row i - c), by grind⟩
end Vf
set_option maxRecDepth 100000
namespace Vf
theorem ev_rep0 (x : Rat) : ∀ k, ev (List.replicate k (0 : Rat)) x = 0
  | 0 => rfl
  | k + 1 => by
    show 0 + x * ev (List.replicate k 0) x = 0
    rw [ev_rep0 x k]; grind
theorem cf_shift (k : Nat) (B : List Rat) (i : Nat) : cf (List.replicate k (0 : Rat) ++ B) i = if k ≤ i then cf B (i - k) else 0 := by
  rw [cf_app, List.length_replicate]
  by_cases h : i < k
  · rw [if_pos h, if_neg (by omega), cf_lt (by rw [List.length_replicate]; exact h), List.getElem_replicate]
  · rw [if_neg h, if_pos (by omega)]
theorem div_ex {B : List Rat} (hB : Stp B) (nB : B ≠ []) : ∀ (n : Nat) (A : List Rat), A.length ≤ n → ∃ Q R : List Rat, R.length < B.length ∧ ∀ x, ev A x = ev Q x * ev B x + ev R x := by
  have lB := List.length_pos_iff.mpr nB
  intro n
  induction n with
  | zero => intro A hA; exact ⟨[], A, by omega, fun x => by show _ = 0 * _ + _; grind⟩
  | succ n ih =>
    intro A hA
    by_cases h : A.length < B.length
    · exact ⟨[], A, h, fun x => by show _ = 0 * _ + _; grind⟩
    · have b0 := ne_last hB nB
      let c := cf A (A.length - 1) / cf B (B.length - 1)
      let k := A.length - B.length
      have hc : c * cf B (B.length - 1) = cf A (A.length - 1) := Rat.div_mul_cancel b0
      let A' := tab (A.length - 1) fun i => cf A i - c * (if k ≤ i then cf B (i - k) else 0)
      obtain ⟨Q, R, h1, h2⟩ := ih A' (by show (tab _ _).length ≤ n; rw [tab_len]; omega)
      have e : ∀ x, ev A x = ev A' x + c * (x ^ k * ev B x) := fun x => by
        have h3 : ev A x = ev (padd A' (pscale (List.replicate k (0 : Rat) ++ B) c)) x := ev_ext (fun i => by
          rw [cf_padd, cf_psc, cf_shift]
          show _ = cf (tab _ _) i + _
          rw [cf_tab]
          by_cases hi : i < A.length - 1
          · rw [if_pos hi]; grind
          · rw [if_neg hi]
            by_cases hi2 : i = A.length - 1
            · have : i - k = B.length - 1 := by show i - (A.length - B.length) = _; omega
              rw [if_pos (by show A.length - B.length ≤ i; omega), this, hi2, ← hc]; grind
            · rw [cf_ge (l := A) (by omega), if_pos (by show A.length - B.length ≤ i; omega), cf_ge (l := B) (by show B.length ≤ i - (A.length - B.length); omega)]; grind) x
        rw [h3, ev_padd, ev_pscale, ev_app, ev_rep0, List.length_replicate]; grind
      refine ⟨padd Q (List.replicate k (0 : Rat) ++ [c]), R, h1, fun x => ?_⟩
      rw [e, h2, ev_padd, ev_app, ev_rep0, List.length_replicate]
      show _ = (ev Q x + (0 + x ^ k * (c + x * 0))) * _ + _
      grind
theorem gcd_ex : ∀ (n : Nat) (A B : List Rat), Stp A → Stp B → A ≠ [] → B.length ≤ n → ∃ g k1 k2 a b : List Rat, Stp g ∧ g ≠ [] ∧ (∀ x, ev A x = ev g x * ev k1 x) ∧ (∀ x, ev B x = ev g x * ev k2 x) ∧ ∀ x, ev g x = ev a x * ev A x + ev b x * ev B x := by
  intro n
  induction n with
  | zero =>
    intro A B hA hB nA hn
    have : B = [] := List.length_eq_zero_iff.mp (by omega)
    subst this
    exact ⟨A, [1], [], [1], [], hA, nA, fun x => by show _ = _ * (1 + x * 0); grind, fun x => by show (0 : Rat) = _ * 0; grind, fun x => by show _ = (1 + x * 0) * _ + 0 * 0; grind⟩
  | succ n ih =>
    intro A B hA hB nA hn
    by_cases nB : B = []
    · exact ih A B hA hB nA (by rw [nB]; exact Nat.zero_le _)
    · obtain ⟨Q, R, h1, h2⟩ := div_ex hB nB A.length A (Nat.le_refl _)
      obtain ⟨g, k1, k2, a, b, sg, ng, e1, e2, e3⟩ := ih B (stripQ R) hB (stripQ_stp _) nB (by have := stripQ_le R; omega)
      refine ⟨g, padd (pmul Q k1) k2, k1, b, padd a (pscale (pmul b Q) (-1)), sg, ng, fun x => ?_, e1, fun x => ?_⟩
      · have := e2 x
        rw [ev_stripQ] at this
        rw [h2, e1, this, ev_padd, ev_pmul]; grind
      · have := e3 x
        rw [ev_stripQ] at this
        rw [this, ev_padd, ev_pscale, ev_pmul, h2]; grind
theorem int_scale (z : Int) (t : List Int) (x : Rat) : ev (qi (t.map (z * ·))) x = (z : Rat) * ev (qi t) x := by
  have : ev (qi (t.map (z * ·))) x = ev (pscale (qi t) (z : Rat)) x := ev_ext (fun i => by
    rw [cf_psc, cf_qi, cf_qi]
    have : ci (t.map (z * ·)) i = z * ci t i := by
      by_cases h : i < t.length
      · rw [ci_get (show (t.map (z * ·))[i]? = some (z * ci t i) by rw [List.getElem?_map, ci_lt h]; rfl)]
      · rw [ci_ge (by rw [List.length_map]; omega), ci_ge (by omega), Int.mul_zero]
    rw [this, Rat.intCast_mul]; grind) x
  rw [this, ev_pscale]; grind
theorem ci_scale (z : Int) (t : List Int) (i : Nat) : ci (t.map (z * ·)) i = z * ci t i := by
  by_cases h : i < t.length
  · rw [ci_get (show (t.map (z * ·))[i]? = some (z * ci t i) by rw [List.getElem?_map, ci_lt h]; rfl)]
  · rw [ci_ge (by rw [List.length_map]; omega), ci_ge (by omega), Int.mul_zero]
/-- each row has a primitive one -/
theorem prim_ex {L : List Rat} (hL : Stp L) (nL : L ≠ []) : ∃ (P : List Int) (k : Rat), Pm P ∧ k ≠ 0 ∧ (∀ x, ev (qi P) x = k * ev L x) ∧ P.length = L.length := by
  have lL := List.length_pos_iff.mpr nL
  have key : ∀ (n : Nat) (T : List Int) (k : Rat), T.length = L.length → 0 < ci T (T.length - 1) → (ci T (T.length - 1)).natAbs ≤ n → k ≠ 0 → (∀ x, ev (qi T) x = k * ev L x) → ∃ (P : List Int) (k : Rat), Pm P ∧ k ≠ 0 ∧ (∀ x, ev (qi P) x = k * ev L x) ∧ P.length = L.length := fun n => by
    induction n using Nat.strongRecOn with
    | _ n ih =>
      intro T k lT tT hn k0 e
      by_cases h : ∀ u : Nat, (∀ i, (u : Int) ∣ ci T i) → u = 1
      · exact ⟨T, k, ⟨fun z => by rw [z] at lT; simp at lT; omega, tT, h⟩, k0, e, lT⟩
      · have : ∃ u : Nat, (∀ i, (u : Int) ∣ ci T i) ∧ u ≠ 1 := Classical.byContradiction fun y => h fun u hu => Classical.byContradiction fun z => y ⟨u, hu, z⟩
        obtain ⟨u, hu, u1⟩ := this
        have u0 : u ≠ 0 := fun z => by
          have := hu (T.length - 1)
          rw [z] at this
          obtain ⟨y, hy⟩ := this
          rw [show ((0 : Nat) : Int) = 0 from rfl, Int.zero_mul] at hy
          omega
        have uR : (u : Rat) ≠ 0 := by exact_mod_cast u0
        have uI : (u : Rat) * (1 / (u : Rat)) = 1 := by rw [Rat.div_def, Rat.one_mul]; exact Rat.mul_inv_cancel _ uR
        have ct : ∀ i, ci (tabI T.length fun i => ci T i / u) i = ci T i / u := fun i => by
          rw [ci_tab]
          split
          · rfl
          · rw [ci_ge (by omega), Int.zero_ediv]
        have tt : ci T (T.length - 1) / (u : Int) * u = ci T (T.length - 1) := Int.ediv_mul_cancel (hu _)
        have tp : 0 < ci T (T.length - 1) / (u : Int) := Int.ediv_pos_of_pos_of_dvd tT (by omega) (hu _)
        refine ih (ci T (T.length - 1) / (u : Int)).natAbs ?_ (tabI T.length fun i => ci T i / u) (k * (1 / (u : Rat))) (by rw [tabI_len, lT]) (by rw [tabI_len, ct]; exact tp) (by rw [tabI_len, ct]; exact Nat.le_refl _) (fun z => ?_) fun x => ?_
        · have h1 : (ci T (T.length - 1) / (u : Int)).natAbs * u = (ci T (T.length - 1)).natAbs := by rw [← tt, Int.natAbs_mul, Int.natAbs_natCast, tt]
          have h2 := Nat.mul_le_mul_left (ci T (T.length - 1) / (u : Int)).natAbs (show 2 ≤ u by omega)
          omega
        · rcases Rat.mul_eq_zero.mp z with y | y
          · exact k0 y
          · rw [y, Rat.mul_zero] at uI; exact absurd uI (by decide +kernel)
        · have h1 : ev (qi T) x = ev (qi (tabI T.length fun i => ci T i / (u : Int))) x * (u : Rat) := by
            rw [← ev_pscale]
            refine ev_ext (fun i => ?_) x
            rw [cf_psc, cf_qi, cf_qi, ct]
            have := Int.ediv_mul_cancel (hu i)
            rw [← Rat.intCast_natCast, ← Rat.intCast_mul, this]
          have h2 := e x
          rw [h1] at h2
          have h3 : ev (qi (tabI T.length fun i => ci T i / (u : Int))) x = ev (qi (tabI T.length fun i => ci T i / (u : Int))) x * (u : Rat) * (1 / (u : Rat)) := by grind
          rw [h3, h2]; grind
  obtain ⟨D, D0, hD⟩ := bottom_ex L
  have DR : (D : Rat) ≠ 0 := by
    have : D ≠ 0 := by omega
    exact_mod_cast this
  obtain ⟨T, hT⟩ := whole_row (L := pscale L (D : Rat)) fun i => by rw [cf_psc]; exact hD i
  have lT : T.length = L.length := by rw [← qi_len, hT, psc_len]
  have eT : ∀ x, ev (qi T) x = (D : Rat) * ev L x := fun x => by rw [hT, ev_pscale]; grind
  have top : ci T (T.length - 1) ≠ 0 := fun z => by
    have h1 : cf (qi T) (L.length - 1) = cf L (L.length - 1) * (D : Rat) := by rw [hT, cf_psc]
    rw [cf_qi, ← lT, z] at h1
    rcases Rat.mul_eq_zero.mp h1.symm with y | y
    · rw [lT] at y
      exact ne_last hL nL y
    · exact DR y
  by_cases hp : 0 < ci T (T.length - 1)
  · exact key _ T D lT hp (Nat.le_refl _) DR eT
  · refine key _ (T.map (-1 * ·)) (-D) (by rw [List.length_map, lT]) (by rw [List.length_map, ci_scale]; omega) (Nat.le_refl _) (fun z => DR (by grind)) fun x => ?_
    rw [int_scale, eT]
    rw [show ((-1 : Int) : Rat) = -1 from rfl]
    grind
/-- all that is told of two planted rows -/
structure Two (X Y : List Int) (G c1 c2 : List Int) (B : Nat) : Prop where
  g : GdT X Y G
  p1 : Pm c1
  p2 : Pm c2
  e1 : ∀ x, ev (qi X) x = ev (qi G) x * ev (qi c1) x
  e2 : ∀ x, ev (qi Y) x = ev (qi G) x * ev (qi c2) x
  h : GdT c1 c2 [1]
  bx : ∀ i, (ci X i).natAbs ≤ B
  yb : ∀ i, (ci Y i).natAbs ≤ B
  bg : ∀ i, (ci G i).natAbs ≤ B
  b1 : ∀ i, (ci c1 i).natAbs ≤ B
  b2 : ∀ i, (ci c2 i).natAbs ≤ B
theorem pm_one : Pm [1] := ⟨by simp, by decide, fun u hu => by
  have := hu 0
  have h : (u : Int) ∣ 1 := this
  have : u ∣ 1 := by exact_mod_cast h
  exact Nat.dvd_one.mp this⟩
/-- what is left is primitive -/
theorem pm_part {X G c : List Int} (hX : Pm X) (hG : Pm G) (e : ∀ x, ev (qi X) x = ev (qi G) x * ev (qi c) x) : ∃ c' : List Int, Pm c' ∧ ∀ x, ev (qi c') x = ev (qi c) x := by
  obtain ⟨c', hc⟩ := whole_row (L := stripQ (qi c)) fun i => by rw [cf_stripQ, cf_qi]; exact Wh.int _
  have ec : ∀ x, ev (qi c') x = ev (qi c) x := fun x => by rw [hc, ev_stripQ]
  have e' : ∀ x, ev (qi X) x = ev (qi G) x * ev (qi c') x := fun x => by rw [ec, e]
  have sc : Stp (qi c') := by rw [hc]; exact stripQ_stp _
  have nc : c' ≠ [] := fun z => by
    have : qi X = [] := stp_ext hX.stp (fun _ _ z => by simp at z) (cf_of fun x => by rw [e', z]; show _ * 0 = (0 : Rat); grind)
    exact qi_ne hX.ne this
  have l1 := len_mul_eq (Z := qi X) hG.stp sc hX.stp (qi_ne hG.ne) (qi_ne nc) e'
  have lc := List.length_pos_iff.mpr nc
  have lG := List.length_pos_iff.mpr hG.ne
  rw [qi_len, qi_len, qi_len] at l1
  have et : cf (qi X) (X.length - 1) = cf (pmul (qi G) (qi c')) (X.length - 1) := cf_of (fun x => by rw [e', ev_pmul]) _
  rw [show X.length - 1 = G.length - 1 + (c'.length - 1) by omega, top_pmul (by rw [qi_len]; omega) (by rw [qi_len]; omega), cf_qi, cf_qi, cf_qi, ← Rat.intCast_mul] at et
  have et2 : ci X (G.length - 1 + (c'.length - 1)) = ci G (G.length - 1) * ci c' (c'.length - 1) := by exact_mod_cast et
  refine ⟨c', ⟨nc, ?_, fun u hu => hX.u u fun i => ?_⟩, ec⟩
  · have h1 := hX.tp
    rw [show X.length - 1 = G.length - 1 + (c'.length - 1) by omega, et2] at h1
    exact Int.pos_of_mul_pos_right h1 (by have := hG.tp; omega)
  · have e1 : ((ci X i : Int) : Rat) = ((si (fun k => ci G k * ci c' (i - k)) (i + 1) : Int) : Rat) := by
      rw [← cf_qi, cf_of (A := qi X) (B := pmul (qi G) (qi c')) (fun x => by rw [e', ev_pmul]) i, cf_pmul, si_sm]
      unfold pc
      exact sm_ext fun j _ => by rw [cf_qi, cf_qi, Rat.intCast_mul]
    have e2 : ci X i = si (fun k => ci G k * ci c' (i - k)) (i + 1) := by exact_mod_cast e1
    rw [e2]
    exact (si_mod (q := u) (f := fun k => ci G k * ci c' (i - k)) (g := i + 1) (n := i + 1) fun j _ _ => Int.dvd_mul_of_dvd_right (hu _)).1 (Nat.le_refl _)
end Vf
set_option maxRecDepth 100000
set_option exponentiation.threshold 5000
namespace Vf
theorem cpow_le {A M : Nat} (hA : A ≤ 2 ^ 62) (hM : M ≤ 15) : (2 * ((M + 1) * A)) ^ M ≤ 2 ^ (67 * M) := by
  have h1 : (M + 1) * A ≤ 2 ^ 4 * 2 ^ 62 := Nat.mul_le_mul (by omega) hA
  have h2 : 2 * ((M + 1) * A) ≤ 2 ^ 67 := by
    have := Nat.mul_le_mul_left 2 h1
    rw [← Nat.pow_add, ← Nat.pow_succ'] at this
    exact this
  rw [Nat.pow_mul]
  exact Nat.pow_le_pow_left h2 M
theorem ev_eq0 {l : List Int} (h : ∀ x, ev (qi l) x = 0) (i : Nat) : ci l i = 0 := by
  have : cf (qi l) i = cf [] i := cf_of (fun x => by rw [h]; rfl) i
  rw [cf_qi, cf_nil] at this
  exact_mod_cast this
theorem stp_nil {l : List Rat} (h : Stp l) (z : ∀ x, ev l x = 0) : l = [] := stp_ext h (fun _ _ z => by simp at z) (cf_of fun x => by rw [z]; rfl)
theorem mul_can {a b c : Rat} (h : c ≠ 0) (e : c * a = c * b) : a = b := by
  have : c * (a - b) = 0 := by grind
  rcases Rat.mul_eq_zero.mp this with z | z
  · exact absurd z h
  · grind
/-- a row that a row without end divides, by values -/
theorem ev_can {A : List Rat} (hA : Stp A) (nA : A ≠ []) {L R : List Rat} (h : ∀ x, ev A x * ev L x = ev A x * ev R x) (x : Rat) : ev L x = ev R x := by
  have := mul_zero2 hA nA (S := padd L (pscale R (-1))) (fun x => by rw [ev_padd, ev_pscale]; have := h x; grind) x
  rw [ev_padd, ev_pscale] at this
  grind
end Vf
set_option maxRecDepth 100000
set_option maxHeartbeats 8000000
namespace Vf
open PySem PySem.Spec PyProof.Rows L2
/-- T is the row without the zeros behind -/
structure Sd (ns : List Int) (T : List Int) : Prop where
  e : ∀ i, ci T i = ci ns i
  s : Stp (qi T)
  l : T.length ≤ ns.length
theorem atI_of {ns : List Int} {k : Nat} {i : Int} (h : k < ns.length) (e : i = (k : Int)) : atI (ns.map V.int) i = some (V.int (ci ns k)) := by
  subst e
  exact at_of (j := k) rfl (RI.at (H := fun _ => none) (l := (0 : Nat)) h)
theorem atI_top {ns : List Int} (h : 0 < ns.length) : atI (ns.map V.int) (-1) = some (V.int (ci ns (ns.length - 1))) :=
  at_neg (by decide) (n := ns.length - 1) (RI.at (H := fun _ => none) (l := (0 : Nat)) (by omega)) (by rw [List.length_map]; omega)
theorem ci_take (ns : List Int) (m i : Nat) : ci (ns.take m) i = if i < m then ci ns i else 0 := by
  by_cases h : i < ns.length ∧ i < m
  · rw [if_pos h.2, ci_get (show (ns.take m)[i]? = some (ci ns i) by rw [List.getElem?_take, if_pos h.2, ci_lt h.1])]
  · rw [ci_ge (by rw [List.length_take]; omega)]
    by_cases hm : i < m
    · rw [if_pos hm, ci_ge (by omega)]
    · rw [if_neg hm]
theorem stp_take {ns : List Int} {m : Nat} (hm : m ≤ ns.length) (h : m = 0 ∨ ci ns (m - 1) ≠ 0) : Stp (qi (ns.take m)) := by
  intro r x e
  have h1 := congrArg List.length e
  rw [qi_len, List.length_append, List.length_take] at h1
  simp only [List.length_cons, List.length_nil] at h1
  rcases h with z | z
  · omega
  · have h2 : cf (qi (ns.take m)) (m - 1) = x := by
      rw [e, cf_app, if_neg (by omega), show m - 1 - r.length = 0 by omega]
      rfl
    rw [cf_qi, ci_take, if_pos (by omega)] at h2
    rw [← h2]
    exact_mod_cast z
def spStrip : Sp := fun vs H Q _ => ∃ (l : Addr) (ns : List Int), vs = [.ref l] ∧ RI H l ns ∧ ∀ (l' : Addr) (T : List Int) (H' : Hp), Same H H' → RI H' l' T → Sd ns T → Q (.ref l') H'
structure Res (p : Int) (ns T : List Int) : Prop where
  e : ∀ i, ci T i = ci ns i % p
  s : Stp (qi T)
  l : T.length ≤ ns.length
def spRes : Sp := fun vs H Q _ => ∃ (l : Addr) (ns : List Int) (p : Int), vs = [.ref l, .int p] ∧ RI H l ns ∧ ns.length ≤ 1000 ∧ 0 < p ∧ ∀ (l' : Addr) (T : List Int) (H' : Hp), Same H H' → RI H' l' T → Res p ns T → Q (.ref l') H'
structure Wl (A B : List Int) (f g : Int) (T : List Int) : Prop where
  e : ∀ i, ci T i = f * ci A i - g * (if A.length - B.length ≤ i then ci B (i - (A.length - B.length)) else 0)
  s : Stp (qi T)
  l : T.length ≤ A.length
def spWl : Sp := fun vs H Q _ => ∃ (l1 l2 : Addr) (A B : List Int) (f g : Int), vs = [.ref l1, .ref l2, .int f, .int g] ∧ RI H l1 A ∧ RI H l2 B ∧ A.length ≤ 100 ∧ B.length ≤ A.length ∧ (∀ i, CMulW f (ci A i)) ∧ (∀ i, CMulW g (ci B i)) ∧
  ∀ (l' : Addr) (T : List Int) (H' : Hp), Same H H' → RI H' l' T → Wl A B f g T → Q (.ref l') H'
section
variable {P : Program} {w : World} {K : PySem.W.Frag} {mg : Str → Option Value} {base : Heap} {CP CR CN CI : Addr}
abbrev sStrip : Stmt := topS 23
theorem scStrip : FnScope ["row", "many"] ["row"] (defScope sStrip) := ⟨rfl, rfl, rfl, by decide +kernel, rfl, by decide +kernel, by decide +kernel⟩
theorem ok_strip {f : Addr} {fd : FuncData} (F : Fun K "stripped" "stripped" sStrip f fd) (T : Bk mg) : FnOk P w K mg base CX0 1 f fd ["row"] spStrip := by
  refine F.ok scStrip (fun vs H Q E h => ?_) (fun cdv A outer s H vs Q E hr h => ?_)
  · obtain ⟨l, ns, rfl, _⟩ := h
    rfl
  · obtain ⟨l, ns, rfl, hl, q⟩ := h
    refine ⟨_, (pss_cons (ps_set (i := 1) scStrip.nd rfl (Or.inl rfl) (pe_callB call_len_seq (by rfl) T.len (by decide +kernel) (pa_cons (pv 0) pa_nil)))
  (pss_cons (ps_while PassesOwn.never (PW.pt (pw_and (pt_cmpR op_gt (pv 1) pe_int (nomark _)) (pw_and1 (pt_cmpR op_eq (pe_ix ix_list (pv 0) (pe_op op_sub (pv 1) pe_int) (fun _ _ => rfl)) pe_int (nomark _)))))
    (pss_one (ps_set (i := 1) scStrip.nd rfl (Or.inl rfl) (pe_op op_sub (pv 1) pe_int))))
  (pss_one (ps_ret (pe_slice sl_list (pv 0) po_none (po_some (pv 1))))))), ?_⟩
    refine ⟨_, rfl, l, _, rfl, .inl (SqL.of hl), ?_⟩
    rw [List.length_map]
    refine ⟨fun m σ H' => H' = H ∧ σ = [some (.ref l), some (.int (m : Int))] ∧ m ≤ ns.length ∧ ∀ i, m ≤ i → ci ns i = 0, ⟨ns.length, rfl, rfl, Nat.le_refl _, fun i hi => ci_ge hi⟩, ?_⟩
    rintro m σ H' ⟨rfl, rfl, hm, hz⟩
    have sd : m = 0 ∨ ci ns (m - 1) ≠ 0 → Sd ns (ns.take m) := fun z => ⟨fun i => by
      rw [ci_take]
      by_cases hi : i < m
      · rw [if_pos hi]
      · rw [if_neg hi, hz i (by omega)], stp_take hm z, by rw [List.length_take]; omega⟩
    have made : ∀ l' : Addr, RI (upd H' l' (.lst (cutV (ns.map V.int) none (some (m : Int))))) l' (ns.take m) := fun l' => by
      show upd _ _ _ _ = _
      rw [upd_same, cut_to, List.map_take]
    refine ⟨_, rfl, _, _, rfl, rfl, _, rfl, ?_⟩
    by_cases m0 : m = 0
    · subst m0
      rw [decide_eq_false (by omega)]
      refine iteF ?_
      refine iteF ?_
      exact ⟨_, rfl, _, rfl, _, rfl, l, _, rfl, SqL.of hl, fun l' nl => q l' _ _ (same_upd nl) (made l') (sd (.inl rfl))⟩
    · rw [decide_eq_true (by omega)]
      refine iteT ?_
      refine ⟨_, rfl, _, rfl, _, _, rfl, rfl, l, _, _, _, rfl, rfl, SqL.of hl, atI_of (k := m - 1) (by omega) (by omega), rfl, _, rfl, ?_⟩
      by_cases z : ci ns (m - 1) = 0
      · rw [decide_eq_true (by rw [z])]
        refine iteT ?_
        refine ⟨fun σ' H2 => H2 = H' ∧ σ' = [some (.ref l), some (.int ((m - 1 : Nat) : Int))], fun σ' H2 ⟨e1, e2⟩ => ⟨m - 1, by omega, e1, e2, by omega, fun i hi => ?_⟩, ?_⟩
        · by_cases e : i = m - 1
          · rw [e, z]
          · exact hz i (by omega)
        · refine ⟨_, rfl, _, _, rfl, rfl, rfl, ?_⟩
          rw [show ((m - 1 : Nat) : Int) = (m : Int) - 1 by omega]
          rfl
      · rw [decide_eq_false (fun y => z (by injection y))]
        refine iteF ?_
        exact ⟨_, rfl, _, rfl, _, rfl, l, _, rfl, SqL.of hl, fun l' nl => q l' _ _ (same_upd nl) (made l') (sd (.inr z))⟩
abbrev sRes : Stmt := topS 36
theorem scRes : FnScope ["row", "prime", "number"] ["row", "prime"] (defScope sRes) := ⟨rfl, rfl, rfl, by decide +kernel, rfl, by decide +kernel, by decide +kernel⟩
theorem ok_res {f : Addr} {fd : FuncData} (F : Fun K "residues" "residues" sRes f fd) (G_stripped : Df P w K mg base "stripped" 1 ["row"] spStrip) : FnOk P w K mg base CX0 2 f fd ["row", "prime"] spRes := by
  refine F.ok scRes (fun vs H Q E h => ?_) (fun cdv A outer s H vs Q E hr h => ?_)
  · obtain ⟨l, ns, p, rfl, _⟩ := h
    rfl
  · obtain ⟨l, ns, p, rfl, hl, ln, p0, q⟩ := h
    refine ⟨_, (pss_one (ps_ret (pe_call G_stripped.ok (hr.mono (by decide)) rfl G_stripped.m G_stripped.kp G_stripped.b .nil pass0 (pa_cons (pe_lc (own := [("number", 2)]) (g := (gName 2)) (tt := tYes) rfl scRes.nd (pi_seq (pv 0)) (blkOk_by (N := ["row", "prime", "number"]) (sc := defScope sRes) (by decide +kernel)) (fun _ _ _ _ _ => pg_name (i := 2) scRes.nd rfl (Or.inl rfl)) (fun _ _ _ _ _ => pts_nil) (fun _ _ _ _ _ => (pe_op op_mod (pv 2) (pv 1)))) pa_nil)))), ?_⟩
    refine ⟨_, rfl, l, rfl, lc_seq (xs := ns.map V.int) (.inl (SqL.of hl)) (fun D i H' => Same H H' ∧ H' D = some (.lst ((tabI i fun i => ci ns i % p).map V.int))) ?_ ?_ ?_ ?_⟩
    · intro D hD
      exact ⟨same_upd hD, upd_same⟩
    · intro D i H2 hD ⟨s2, _⟩
      exact ⟨same_sqL s2, same_sqT s2⟩
    · intro D i x H' hD hi ⟨ss, eD⟩
      have hi' : i < ns.length := by
        have := (List.getElem?_eq_some_iff.mp hi).1
        rw [List.length_map] at this
        exact this
      rw [List.getElem?_map, ci_lt hi'] at hi
      cases hi
      refine ⟨rfl, ?_⟩
      refine ⟨_, rfl, _, rfl, _, _, rfl, rfl, p0, ?_⟩
      refine ⟨_, eD, (by rw [List.length_map, tabI_len, sizeLine_eq]; omega), fun b o e => ?_, ?_⟩
      · rw [upd_ne (ne_of_none e hD)]
        exact ss _ _ e
      · rw [upd_same, tabI_snoc, List.map_append]
        rfl
    · intro D H' hD ⟨ss, eD⟩
      rw [List.length_map] at eD
      refine ⟨D, _, rfl, eD, fun l' U H2 s2 hl' S => q l' U H2 (ss.trans s2) hl' ⟨fun i => ?_, S.s, ?_⟩⟩
      · rw [S.e, ci_tab]
        split
        · rfl
        · rw [ci_ge (by omega), Int.zero_emod]
      · have := S.l
        rw [tabI_len] at this
        exact this
abbrev sWl : Stmt := topS 27
theorem scWl : FnScope ["one", "other", "factor", "number", "moved", "item", "low"] ["one", "other", "factor", "number"] (defScope sWl) := ⟨rfl, rfl, rfl, by decide +kernel, rfl, by decide +kernel, by decide +kernel⟩
theorem ok_wl {f : Addr} {fd : FuncData} (F : Fun K "without_lead" "without_lead" sWl f fd) (T : Bk mg) (hzip : mg "zip" = none) (G_stripped : Df P w K mg base "stripped" 1 ["row"] spStrip) : FnOk P w K mg base CX0 2 f fd ["one", "other", "factor", "number"] spWl := by
  refine F.ok scWl (fun vs H Q E h => ?_) (fun cdv A outer s H vs Q E hr h => ?_)
  · obtain ⟨l1, l2, A, B, f, g, rfl, _⟩ := h
    rfl
  · obtain ⟨l1, l2, A, B, f, g, rfl, h1, h2, lA, lB, cA, cB, q⟩ := h
    refine ⟨_, (pss_cons (ps_set (i := 4) scWl.nd rfl (Or.inl rfl) (pe_op op_cat (pe_op op_rep (pe_lst (pa_cons pe_int pa_nil)) (pe_op op_sub (pe_callB call_len_seq (by rfl) T.len (by decide +kernel) (pa_cons (pv 0) pa_nil)) (pe_callB call_len_seq (by rfl) T.len (by decide +kernel) (pa_cons (pv 1) pa_nil)))) (pe_callTy call_list_of (by rfl) T.list (by decide +kernel) (pa_cons (pv 1) pa_nil))))
  (pss_one (ps_ret (pe_call G_stripped.ok (hr.mono (by decide)) rfl G_stripped.m G_stripped.kp G_stripped.b .nil pass0 (pa_cons (pe_lc (own := [("item", 5), ("low", 6)]) (g := (gTup K 2 (gCons (gName 5) (gCons (gName 6) gNil)))) (tt := tYes) rfl scWl.nd (pi_zipB (by rfl) hzip (pa_cons (pv 0) (pa_cons (pv 4) pa_nil))) (blkOk_by (N := ["one", "other", "factor", "number", "moved", "item", "low"]) (sc := defScope sWl) (by decide +kernel)) (fun _ _ _ _ _ => pg_tup rfl (pgs_cons (pg_name (i := 5) scWl.nd rfl (Or.inl rfl)) (pgs_cons (pg_name (i := 6) scWl.nd rfl (Or.inl rfl)) pgs_nil))) (fun _ _ _ _ _ => pts_nil) (fun _ _ _ _ _ => (pe_op op_sub (pe_op op_mulW (pv 2) (pv 5)) (pe_op op_mulW (pv 3) (pv 6))))) pa_nil))))), ?_⟩
    refine ⟨(by show 1 ≤ sizeLine; decide), fun k1 nk1 => ?_⟩
    have ek1 : upd H k1 (HO.lst [V.int 0]) k1 = some (HO.lst [V.int 0]) := upd_same
    have s1 : Same H (upd H k1 (HO.lst [V.int 0])) := same_upd nk1
    generalize upd H k1 (HO.lst [V.int 0]) = H1 at ek1 s1 ⊢
    refine ⟨_, rfl, l1, _, rfl, .inl (SqL.of (s1 _ _ h1)), _, rfl, l2, _, rfl, .inl (SqL.of (s1 _ _ h2)), _, _, rfl, rfl, ?_⟩
    rw [List.length_map, List.length_map]
    obtain ⟨k, hk⟩ : ∃ k, A.length = k + B.length := ⟨A.length - B.length, by omega⟩
    have ek : ((A.length : Nat) : Int) - ((B.length : Nat) : Int) = ((k : Nat) : Int) := by omega
    refine ⟨k1, ((k : Nat) : Int), _, rfl, congrArg V.int ek, ek1, by omega, by omega, (by rw [sizeLine_eq]; show 1 * _ ≤ _; omega), fun k2 nk2 => ?_⟩
    have er : (List.replicate ((k : Nat) : Int).toNat [V.int 0]).flatten = (List.replicate k (0 : Int)).map V.int := by
      rw [Int.toNat_natCast]
      clear hk ek
      induction k with
      | zero => rfl
      | succ k ih =>
        rw [List.replicate_succ, List.flatten_cons, ih, List.replicate_succ]
        rfl
    rw [er]
    have ek2 : upd H1 k2 (HO.lst ((List.replicate k (0 : Int)).map V.int)) k2 = some (HO.lst ((List.replicate k (0 : Int)).map V.int)) := upd_same
    have s2 : Same H1 (upd H1 k2 (HO.lst ((List.replicate k (0 : Int)).map V.int))) := same_upd nk2
    generalize upd H1 k2 (HO.lst ((List.replicate k (0 : Int)).map V.int)) = H2 at ek2 s2 ⊢
    refine ⟨_, rfl, l2, _, rfl, .inl (SqL.of (s2 _ _ (s1 _ _ h2))), fun k3 nk3 => ?_⟩
    have ek3 : upd H2 k3 (HO.lst (B.map V.int)) k3 = some (HO.lst (B.map V.int)) := upd_same
    have s3 : Same H2 (upd H2 k3 (HO.lst (B.map V.int))) := same_upd nk3
    generalize upd H2 k3 (HO.lst (B.map V.int)) = H3 at ek3 s3 ⊢
    refine ⟨k2, k3, _, _, rfl, rfl, s3 _ _ ek2, ek3, (by rw [List.length_map, List.length_map, List.length_replicate, sizeLine_eq]; omega), fun k4 nk4 => ?_⟩
    have em : (List.replicate k (0 : Int)).map V.int ++ B.map V.int = (List.replicate k (0 : Int) ++ B).map V.int := List.map_append.symm
    rw [em]
    have ek4 : upd H3 k4 (HO.lst ((List.replicate k (0 : Int) ++ B).map V.int)) k4 = some (HO.lst ((List.replicate k (0 : Int) ++ B).map V.int)) := upd_same
    have s4 : Same H3 (upd H3 k4 (HO.lst ((List.replicate k (0 : Int) ++ B).map V.int))) := same_upd nk4
    generalize upd H3 k4 (HO.lst ((List.replicate k (0 : Int) ++ B).map V.int)) = H4 at ek4 s4 ⊢
    have s04 : Same H H4 := s1.trans (s2.trans (s3.trans s4))
    have lM : (List.replicate k (0 : Int) ++ B).length = A.length := by rw [List.length_append, List.length_replicate]; omega
    have cM : ∀ i, ci (List.replicate k (0 : Int) ++ B) i = if k ≤ i then ci B (i - k) else 0 := fun i => by
      have h := cf_shift k (qi B) i
      have e : qi (List.replicate k (0 : Int) ++ B) = List.replicate k (0 : Rat) ++ qi B := by
        rw [qi_app]
        congr 1
        unfold qi
        rw [List.map_replicate]
        rfl
      rw [← e, cf_qi] at h
      split at h
      · rename_i z
        rw [cf_qi] at h
        rw [if_pos z]
        exact_mod_cast h
      · rename_i z
        rw [if_neg z]
        exact_mod_cast h
    refine ⟨_, rfl, _, rfl, true, true, l1, k4, A.map V.int, (List.replicate k (0 : Int) ++ B).map V.int, rfl, SqL.of (s04 _ _ h1), SqL.of ek4, fun D nD => lc_zipM A.length (by rw [List.length_map, List.length_map, lM, Nat.min_self]) (fun i H5 => Same H4 H5 ∧ RI H5 D (tabI i fun i => f * ci A i - g * ci (List.replicate k (0 : Int) ++ B) i)) ⟨same_upd nD, upd_same⟩ (fun i H5 ⟨s5, _⟩ => ⟨SqL.of (s5 _ _ (s04 _ _ h1)), SqL.of (s5 _ _ ek4)⟩) ?_ ?_⟩
    · intro i x y U H5 hi hx hy ⟨s5, e5⟩ nU
      rw [List.getElem?_map, ci_lt hi] at hx
      cases hx
      rw [List.getElem?_map, ci_lt (by rw [lM]; exact hi)] at hy
      cases hy
      have nUD : D ≠ U := ne_of_none e5 nU
      have sU : Same H5 (upd H5 U (.tup [.int (ci A i), .int (ci (List.replicate k (0 : Int) ++ B) i)])) := same_upd nU
      refine ⟨U, _, rfl, SqT.of upd_same, rfl, _, _, rfl, _, _, rfl, rfl, rfl, ?_⟩
      refine ⟨_, rfl, _, rfl, _, _, rfl, rfl, cA i, _, rfl, _, rfl, _, _, rfl, rfl, ?_, _, _, rfl, rfl, ?_⟩
      · rw [cM]
        split
        · exact cB _
        · exact cB B.length |> fun z => by rw [ci_ge (Nat.le_refl _)] at z; exact z
      refine ⟨_, sU _ _ e5, (by rw [List.length_map, tabI_len, sizeLine_eq]; omega), fun b' o' e' => ?_, ?_⟩
      · rw [upd_ne (ne_of_none e' nD)]
        exact sU _ _ (s5 _ _ e')
      · show upd _ D _ D = _
        rw [upd_same, tabI_snoc, List.map_append]
        rfl
    · intro H5 ⟨s5, e5⟩
      refine ⟨D, _, rfl, e5, fun l' U H6 s6 hl' S => q l' U H6 (s04.trans (s5.trans s6)) hl' ⟨fun i => ?_, S.s, ?_⟩⟩
      · rw [S.e, ci_tab, show A.length - B.length = k by omega, ← cM]
        split
        · rfl
        · rw [ci_ge (l := A) (by omega), ci_ge (l := List.replicate k (0 : Int) ++ B) (by omega), Int.mul_zero, Int.mul_zero]
          rfl
      · have := S.l
        rw [tabI_len] at this
        exact this
end
end Vf
set_option maxRecDepth 100000
set_option maxHeartbeats 8000000
namespace Vf
open PySem PySem.Spec PyProof.Rows L2
def spNear : Sp := fun vs H Q _ => ∃ n p : Int, vs = [.int n, .int p] ∧ 0 < p ∧ p.natAbs < 2 ^ 4430 ∧ Q (.int (nres p n)) H
def spInv : Sp := fun vs H Q _ => ∃ (a : Int) (p : Nat), vs = [.int a, .int (p : Int)] ∧ Pr p ∧ p < 2 ^ 4430 ∧ ¬ (p : Int) ∣ a ∧ ∀ (w : Int) (H' : Hp), Same H H' → (p : Int) ∣ w * a - 1 → 0 ≤ w → w < p → Q (.int w) H'
/-- Euclid's laps, with what makes the rests -/
def InvW (a : Int) (p : Nat) (H0 : Hp) : Nat → L2.St → Hp → Prop := fun m σ H2 => ∃ (hi lo c d : Int) (v : Option V), σ = [some (.int a), some (.int (p : Int)), some (.int hi), some (.int lo), some (.int c), some (.int d), v] ∧ Same H0 H2 ∧ m = lo.toNat ∧ 0 < lo ∧ lo < hi ∧ hi ≤ p ∧ Nat.gcd hi.toNat lo.toNat = 1 ∧ (p : Int) ∣ c * a - hi ∧ (p : Int) ∣ d * a - lo ∧ c.natAbs * lo.toNat + d.natAbs * hi.toNat ≤ p
/-- a primitive row that is the row by a number -/
structure Pw (ns T : List Int) : Prop where
  p : Pm T
  l : T.length = ns.length
  e : ∃ k : Int, k ≠ 0 ∧ ∀ i, ci ns i = k * ci T i
def spPrim : Sp := fun vs H Q _ => ∃ (l : Addr) (ns : List Int), vs = [.ref l] ∧ RI H l ns ∧ ns ≠ [] ∧ ns.length ≤ 100 ∧ ci ns (ns.length - 1) ≠ 0 ∧ (∀ i, (ci ns i).natAbs < 2 ^ 8800) ∧ ∀ (l' : Addr) (T : List Int) (H' : Hp), Same H H' → RI H' l' T → Pw ns T → Q (.ref l') H'
theorem fdiv_of {a j c : Int} (hj : j ≠ 0) (h : a = j * c) : a.fdiv j = c := by
  subst h
  exact Int.mul_fdiv_cancel_left c hj
section
variable {P : Program} {w : World} {K : PySem.W.Frag} {mg : Str → Option Value} {base : Heap} {CP CR CN CI : Addr}
abbrev sNear : Stmt := topS 37
theorem scNear : FnScope ["number", "prime", "residue"] ["number", "prime"] (defScope sNear) := ⟨rfl, rfl, rfl, by decide +kernel, rfl, by decide +kernel, by decide +kernel⟩
theorem ok_near {f : Addr} {fd : FuncData} (F : Fun K "nearest_residue" "nearest_residue" sNear f fd) : FnOk P w K mg base CX0 1 f fd ["number", "prime"] spNear := by
  refine F.ok scNear (fun vs H Q E h => ?_) (fun cdv A outer s H vs Q E hr h => ?_)
  · obtain ⟨n, p, rfl, _⟩ := h
    rfl
  · obtain ⟨n, p, rfl, p0, pb, q⟩ := h
    refine ⟨_, (pss_cons (ps_set (i := 2) scNear.nd rfl (Or.inl rfl) (pe_op op_mod (pv 0) (pv 1)))
  (pss_one (ps_ret (pe_ifExp (pt_cmpR op_gt (pe_op op_mulW pe_int (pv 2)) (pv 1) (nomark _)) (pe_op op_sub (pv 2) (pv 1)) (pv 2))))), ?_⟩
    have h1 := Int.emod_nonneg n (show p ≠ 0 by omega)
    have h2 := Int.emod_lt_of_pos n p0
    refine ⟨_, rfl, _, rfl, _, _, rfl, rfl, p0, ?_⟩
    refine ⟨_, rfl, _, _, rfl, rfl, wide_mul (a := 10) (b := 4430) (by decide) (by omega) (by decide) (by decide) (by decide), _, rfl, _, _, rfl, rfl, ?_⟩
    show ∃ k, V.bl (decide (p < 2 * (n % p))) = V.bl k ∧ _
    unfold nres at q
    by_cases z : 2 * (n % p) > p
    · rw [if_pos z] at q
      refine ⟨true, congrArg V.bl (decide_eq_true z), ?_⟩
      refine iteT ?_
      exact ⟨_, rfl, _, rfl, _, _, rfl, rfl, q⟩
    · rw [if_neg z] at q
      refine ⟨false, congrArg V.bl (decide_eq_false z), ?_⟩
      refine iteF ?_
      exact ⟨_, rfl, q⟩
abbrev sInv : Stmt := topS 38
theorem scInv : FnScope ["number", "prime", "high", "low", "high_part", "low_part", "many"] ["number", "prime"] (defScope sInv) := ⟨rfl, rfl, rfl, by decide +kernel, rfl, by decide +kernel, by decide +kernel⟩
theorem ok_inv {f : Addr} {fd : FuncData} (F : Fun K "inverse" "inverse" sInv f fd) : FnOk P w K mg base CX0 1 f fd ["number", "prime"] spInv := by
  refine F.ok scInv (fun vs H Q E h => ?_) (fun cdv A outer s H vs Q E hr h => ?_)
  · obtain ⟨a, p, rfl, _⟩ := h
    rfl
  · obtain ⟨a, p, rfl, hp, pb, ha, q⟩ := h
    refine ⟨_, (pss_cons (ps_par (i := 2) (j := 3) (by rfl) scInv.nd rfl rfl (by decide) rfl rfl (pa_cons (pv 1) (pa_cons (pe_op op_mod (pv 0) (pv 1)) pa_nil)) (by rfl))
  (pss_cons (ps_asg (pe_tup (pa_cons pe_int (pa_cons pe_int pa_nil))) (pg_tup (by rfl) (pgs_cons (pg_name (i := 4) scInv.nd rfl (Or.inl rfl)) (pgs_cons (pg_name (i := 5) scInv.nd rfl (Or.inl rfl)) pgs_nil))))
  (pss_cons (ps_while PassesOwn.never (pt_cmpR op_gt (pv 3) pe_int (nomark _))
    (pss_cons (ps_set (i := 6) scInv.nd rfl (Or.inl rfl) (pe_op op_fdivW (pv 2) (pv 3)))
    (pss_cons (ps_par (i := 2) (j := 3) (by rfl) scInv.nd rfl rfl (by decide) rfl rfl (pa_cons (pv 3) (pa_cons (pe_op op_sub (pv 2) (pe_op op_mulW (pv 6) (pv 3))) pa_nil)) (by rfl))
    (pss_one (ps_par (i := 4) (j := 5) (by rfl) scInv.nd rfl rfl (by decide) rfl rfl (pa_cons (pv 5) (pa_cons (pe_op op_sub (pv 4) (pe_op op_mulW (pv 6) (pv 5))) pa_nil)) (by rfl))))))
  (pss_one (ps_ret (pe_op op_mod (pv 5) (pv 1))))))), ?_⟩
    have p1 := hp.1
    have h1 := Int.emod_nonneg a (show (p : Int) ≠ 0 by omega)
    have h2 := Int.emod_lt_of_pos a (show (0 : Int) < p by omega)
    refine par_two ?_
    refine ⟨_, rfl, _, rfl, _, rfl, _, _, rfl, rfl, (by show (0 : Int) < p; omega), ?_⟩
    refine ⟨(by show 2 ≤ sizeLine; decide), fun t0 nt0 => ?_⟩
    have et0 : upd H t0 (HO.tup [V.int 0, V.int 1]) t0 = some (HO.tup [V.int 0, V.int 1]) := upd_same
    have st0 : Same H (upd H t0 (HO.tup [V.int 0, V.int 1])) := same_upd nt0
    generalize upd H t0 (HO.tup [V.int 0, V.int 1]) = H1 at et0 st0 ⊢
    refine ⟨t0, _, rfl, SqT.of et0, rfl, _, _, rfl, _, _, rfl, rfl, ?_⟩
    refine ⟨InvW a p H, ⟨_, (p : Int), a % (p : Int), 0, 1, none, rfl, st0, rfl, ?_, h2, Int.le_refl _, ?_, ⟨-1, by omega⟩, ?_, ?_⟩, ?_⟩
    · rcases Int.lt_or_eq_of_le h1 with z | z
      · exact z
      · exact absurd (Int.dvd_of_emod_eq_zero z.symm) ha
    · rw [Int.toNat_natCast, Nat.gcd_comm]
      refine hp.cop fun z => ha ?_
      have : (p : Int) ∣ a % (p : Int) := by
        have h3 : ((a % (p : Int)).toNat : Int) = a % (p : Int) := Int.toNat_of_nonneg h1
        rw [← h3]
        exact_mod_cast z
      have h5 := Int.mul_ediv_add_emod a p
      rw [← h5]
      exact Int.dvd_add (Int.dvd_mul_right _ _) this
    · have := Int.mul_ediv_add_emod a p
      exact ⟨a / p, by grind⟩
    · rw [Int.toNat_natCast]
      show 0 * _ + 1 * p ≤ p
      omega
    · rintro m σ H2 ⟨hi, lo, c, d, v, rfl, ss, rfl, lo0, lh, hip, cop, dc, dd, sz⟩
      refine ⟨_, rfl, _, _, rfl, rfl, ?_⟩
      show ∃ k, V.bl (decide (1 < lo)) = V.bl k ∧ _
      by_cases z : 1 < lo
      · refine ⟨true, congrArg V.bl (decide_eq_true z), ?_⟩
        refine iteT ?_
        have hib : hi.natAbs < 2 ^ 4430 := by omega
        have hd := Int.mul_ediv_add_emod hi lo
        have m0 := Int.emod_nonneg hi (show lo ≠ 0 by omega)
        have m1 := Int.emod_lt_of_pos hi lo0
        have k0 : 0 ≤ hi / lo := Int.ediv_nonneg (by omega) (by omega)
        have kb : hi / lo ≤ hi := Int.ediv_le_self _ (by omega)
        have e1 : hi - hi / lo * lo = hi % lo := by
          have : hi / lo * lo = lo * (hi / lo) := Int.mul_comm _ _
          omega
        have nz : 0 < hi % lo := by
          rcases Int.lt_or_eq_of_le m0 with y | y
          · exact y
          · exfalso
            have h5 : lo ∣ hi := Int.dvd_of_emod_eq_zero y.symm
            have h6 : lo.toNat ∣ hi.toNat := by
              have : ((lo.toNat : Nat) : Int) ∣ ((hi.toNat : Nat) : Int) := by rw [Int.toNat_of_nonneg (by omega), Int.toNat_of_nonneg (by omega)]; exact h5
              exact_mod_cast this
            have h7 := Nat.gcd_eq_right h6
            omega
        have cop' : Nat.gcd lo.toNat (hi % lo).toNat = 1 := by
          have h7 : (hi % lo).toNat = hi.toNat % lo.toNat := by
            have : ((hi % lo).toNat : Int) = ((hi.toNat % lo.toNat : Nat) : Int) := by
              rw [Int.toNat_of_nonneg m0, Int.natCast_emod, Int.toNat_of_nonneg (by omega), Int.toNat_of_nonneg (by omega)]
            exact_mod_cast this
          rw [h7, Nat.gcd_comm, ← Nat.gcd_rec, Nat.gcd_comm]
          exact cop
        have db : d.natAbs ≤ p := by
          have := Nat.le_mul_of_pos_right d.natAbs (show 0 < hi.toNat by omega)
          omega
        refine ⟨fun σ' H' => InvW a p H (hi % lo).toNat σ' H', fun σ' H' z => ⟨_, by omega, z⟩, ?_⟩
        refine ⟨_, rfl, _, rfl, _, _, rfl, rfl, wide_div (b := 4430) lo0 (by omega) (by decide) (by decide), ?_⟩
        dsimp only [gName]
        refine par_two ?_
        refine ⟨_, rfl, _, rfl, _, rfl, _, rfl, _, _, rfl, rfl, wide_mul (a := 4430) (b := 4430) (by omega) (by omega) (by decide) (by decide) (by decide), _, _, rfl, rfl, ?_⟩
        refine par_one ?_
        refine ⟨_, rfl, _, rfl, _, rfl, _, rfl, _, _, rfl, rfl, wide_mul (a := 4430) (b := 4430) (by omega) (by omega) (by decide) (by decide) (by decide), _, _, rfl, rfl, ?_⟩
        refine ⟨lo, hi % lo, d, c - hi / lo * d, some (.int (hi / lo)), ?_, ss, rfl, nz, m1, by omega, cop', dd, ?_, ?_⟩
        · rw [← e1]
          rfl
        · obtain ⟨y, hy⟩ := dc
          obtain ⟨x, hx⟩ := dd
          rw [← e1]
          exact ⟨y - hi / lo * x, by grind⟩
        · have h8 : (c - hi / lo * d).natAbs ≤ c.natAbs + (hi / lo).natAbs * d.natAbs := by
            have := Int.natAbs_sub_le c (hi / lo * d)
            rw [Int.natAbs_mul] at this
            exact this
          have h9 : lo.toNat * (hi / lo).natAbs + (hi % lo).toNat = hi.toNat := by
            have : ((lo.toNat * (hi / lo).natAbs + (hi % lo).toNat : Nat) : Int) = ((hi.toNat : Nat) : Int) := by
              rw [Int.natCast_add, Int.natCast_mul, Int.toNat_of_nonneg (by omega), Int.toNat_of_nonneg m0, Int.toNat_of_nonneg (by omega), Int.natAbs_of_nonneg k0]
              exact hd
            exact_mod_cast this
          have h10 := Nat.mul_le_mul_right lo.toNat h8
          generalize (c - hi / lo * d).natAbs = x at *
          generalize (hi / lo).natAbs = y at *
          generalize (hi % lo).toNat = z at *
          generalize lo.toNat = l at *
          generalize hi.toNat = h at *
          generalize c.natAbs = c' at *
          generalize d.natAbs = d' at *
          have e : d' * h = d' * l * y + d' * z := by rw [← h9, Nat.mul_add, Nat.mul_assoc]
          have e2 : (c' + y * d') * l = c' * l + d' * l * y := by
            rw [Nat.add_mul]
            congr 1
            rw [Nat.mul_comm y d', Nat.mul_assoc, Nat.mul_comm y l, ← Nat.mul_assoc]
          omega
      · refine ⟨false, congrArg V.bl (decide_eq_false z), ?_⟩
        refine iteF ?_
        have l1 : lo = 1 := by omega
        subst l1
        refine ⟨_, rfl, _, rfl, _, _, rfl, rfl, (by show (0 : Int) < p; omega), ?_⟩
        have r1 := Int.emod_nonneg d (show (p : Int) ≠ 0 by omega)
        have r2 := Int.emod_lt_of_pos d (show (0 : Int) < p by omega)
        refine q _ H2 ss ?_ r1 r2
        obtain ⟨y, hy⟩ := dd
        have := Int.mul_ediv_add_emod d p
        exact ⟨y - d / p * a, by grind⟩
end
end Vf
set_option maxRecDepth 100000
set_option maxHeartbeats 8000000
namespace Vf
open PySem PySem.Spec PyProof.Rows L2
theorem seq_step {X rest : TS} {D : L2.Ends} {σ : L2.St} {H : Hp} (Pv : L2.St → Hp → Prop) (h1 : ∀ k : L2.St → Hp → Prop, (∀ σ' H', Pv σ' H' → k σ' H') → X { D with nx := k } σ H) (h2 : ∀ σ' H', Pv σ' H' → rest D σ' H') : tSeq X rest D σ H := h1 _ h2
section
variable {P : Program} {w : World} {K : PySem.W.Frag} {mg : Str → Option Value} {base : Heap} {CP CR CN CI : Addr}
abbrev sPrim : Stmt := topS 26
theorem scPrim : FnScope ["row", "shared", "number"] ["row"] (defScope sPrim) := ⟨rfl, rfl, rfl, by decide +kernel, rfl, by decide +kernel, by decide +kernel⟩
theorem ok_prim {f : Addr} {fd : FuncData} (F : Fun K "primitive_row" "primitive_row" sPrim f fd) (T : Bk mg) : FnOk P w K mg base CX0 1 f fd ["row"] spPrim := by
  refine F.ok scPrim (fun vs H Q E h => ?_) (fun cdv A outer s H vs Q E hr h => ?_)
  · obtain ⟨l, ns, rfl, _⟩ := h
    rfl
  · obtain ⟨l, ns, rfl, hl, ne, ln, top, sz, q⟩ := h
    have l0 := List.length_pos_iff.mpr ne
    refine ⟨_, (pss_cons (ps_set (i := 1) scPrim.nd rfl (Or.inr rfl) pe_int)
  (pss_cons (ps_for PassesOwn.never rfl (pi_seq (pv 0)) (pg_name (i := 2) scPrim.nd rfl (Or.inl rfl))
    (pss_one (ps_set (i := 1) scPrim.nd rfl (Or.inr rfl) (pe_callBfun cr_gcd (by rfl) T.gcd (pa_cons (pv 1) (pa_cons (pv 2) pa_nil))))))
  (pss_cons (ps_if (pt_cmpR op_lt (pe_ix ix_list (pv 0) (pe_un un_neg pe_int) (fun _ _ => rfl)) pe_int (nomark _))
    (pss_one (ps_set (i := 1) scPrim.nd rfl (Or.inr rfl) (pe_un un_neg (pv 1))))
    pss_nil)
  (pss_one (ps_ret (pe_lc (own := [("number", 2)]) (g := (gName 2)) (tt := tYes) rfl scPrim.nd (pi_seq (pv 0)) (blkOk_by (N := ["row", "shared", "number"]) (sc := defScope sPrim) (by decide +kernel)) (fun _ _ _ _ _ => pg_name (i := 2) scPrim.nd rfl (Or.inl rfl)) (fun _ _ _ _ _ => pts_nil) (fun _ _ _ _ _ => (pe_op op_fdivZ (pv 2) (pv 1))))))))), ?_⟩
    refine ⟨_, rfl, l, rfl, .inl ⟨_, SqL.of hl, for_list (K := K) (a := l) (xs := ns.map V.int) (fun i σ H' => ∃ (m : Nat) (v : Option V), σ = [some (.ref l), some (.int (m : Int)), v] ∧ H' = H ∧ (∀ j, j < i → m ∣ (ci ns j).natAbs) ∧ ∀ y : Nat, (∀ j, j < i → y ∣ (ci ns j).natAbs) → y ∣ m) ⟨0, none, rfl, rfl, (fun j hj => by omega), fun y _ => Nat.dvd_zero _⟩ (fun i σ H' _ ⟨_, _, _, e, _⟩ => by rw [e]; exact SqL.of hl) ?_ ?_⟩⟩
    · rintro i x σ H' hi ⟨m, v, rfl, rfl, dm, gm⟩
      have hi' : i < ns.length := by
        have := (List.getElem?_eq_some_iff.mp hi).1
        rw [List.length_map] at this
        exact this
      rw [List.getElem?_map, ci_lt hi'] at hi
      cases hi
      refine ⟨_, rfl, _, rfl, _, _, rfl, ?_⟩
      refine ⟨Nat.gcd m (ci ns i).natAbs, some (.int (ci ns i)), by rw [Int.natAbs_natCast]; rfl, rfl, fun j hj => ?_, fun y hy => Nat.dvd_gcd (gm y fun j hj => hy j (by omega)) (hy i (by omega))⟩
      by_cases e : j = i
      · rw [e]; exact Nat.gcd_dvd_right _ _
      · exact Nat.dvd_trans (Nat.gcd_dvd_left _ _) (dm j (by omega))
    · rintro σ H1 ⟨m, v, rfl, rfl, dm, gm⟩
      rw [List.length_map] at dm gm
      have m0 : 0 < m := by
        rcases Nat.eq_zero_or_pos m with z | z
        · have := dm (ns.length - 1) (by omega)
          rw [z, Nat.zero_dvd] at this
          omega
        · exact z
      have mall : ∀ j, m ∣ (ci ns j).natAbs := fun j => by
        by_cases hj : j < ns.length
        · exact dm j hj
        · rw [ci_ge (by omega)]; exact Nat.dvd_zero _
      dsimp only
      refine seq_step (fun σ' H' => ∃ j : Int, σ' = [some (.ref l), some (.int j), v] ∧ H' = H1 ∧ j.natAbs = m ∧ (0 < j ↔ 0 < ci ns (ns.length - 1))) (fun k hk => ?_) ?_
      · refine ⟨_, rfl, _, rfl, l, _, _, _, rfl, rfl, SqL.of hl, atI_top l0, _, _, rfl, rfl, ?_⟩
        show ∃ k, V.bl (decide (ci ns (ns.length - 1) < 0)) = V.bl k ∧ _
        by_cases z : ci ns (ns.length - 1) < 0
        · refine ⟨true, congrArg V.bl (decide_eq_true z), ?_⟩
          refine iteT ?_
          refine ⟨_, rfl, _, rfl, hk _ _ ⟨-(m : Int), rfl, rfl, by omega, by omega⟩⟩
        · refine ⟨false, congrArg V.bl (decide_eq_false z), ?_⟩
          refine iteF ?_
          exact hk _ _ ⟨(m : Int), rfl, rfl, by omega, by omega⟩
      · rintro σ' H' ⟨j, rfl, e9, jm, js⟩
        rw [e9]
        clear e9
        have j0 : j ≠ 0 := by omega
        have hc : ∀ i, ci ns i = j * (ci ns i).fdiv j := fun i => by
          obtain ⟨c, ec⟩ : j ∣ ci ns i := Int.natAbs_dvd_natAbs.mp (by rw [jm]; exact mall i)
          rw [fdiv_of j0 ec]
          exact ec
        refine ⟨_, rfl, l, rfl, lc_seq (xs := ns.map V.int) (.inl (SqL.of hl)) (fun D i H' => Same H1 H' ∧ H' D = some (.lst ((tabI i fun i => (ci ns i).fdiv j).map V.int))) ?_ ?_ ?_ ?_⟩
        · intro D hD
          exact ⟨same_upd hD, upd_same⟩
        · intro D i H2 hD ⟨s2, _⟩
          exact ⟨same_sqL s2, same_sqT s2⟩
        · intro D i x H' hD hi ⟨ss, eD⟩
          have hi' : i < ns.length := by
            have := (List.getElem?_eq_some_iff.mp hi).1
            rw [List.length_map] at this
            exact this
          rw [List.getElem?_map, ci_lt hi'] at hi
          cases hi
          refine ⟨rfl, ?_⟩
          refine ⟨_, rfl, _, rfl, _, _, rfl, rfl, ⟨j0, ?_⟩, ?_⟩
          · have h1 : m ≤ (ci ns (ns.length - 1)).natAbs := Nat.le_of_dvd (by omega) (mall _)
            have h2 := sz (ns.length - 1)
            exact Nat.lt_trans (PySem.Flt.log2_lt_of (show 0 < 8800 by decide) (show j.natAbs < 2 ^ 8800 by rw [jm]; exact Nat.lt_of_le_of_lt h1 h2)) (by decide)
          refine ⟨_, eD, (by rw [List.length_map, tabI_len, sizeLine_eq]; omega), fun b o e => ?_, ?_⟩
          · rw [upd_ne (ne_of_none e hD)]
            exact ss _ _ e
          · rw [upd_same, tabI_snoc, List.map_append]
            rfl
        · intro D H' hD ⟨ss, eD⟩
          rw [List.length_map] at eD
          have ct : ∀ i, ci (tabI ns.length fun i => (ci ns i).fdiv j) i = (ci ns i).fdiv j := fun i => by
            rw [ci_tab]
            split
            · rfl
            · rw [ci_ge (by omega), Int.zero_fdiv]
          refine q D _ H' ss eD ⟨⟨fun z => ?_, ?_, fun u hu => ?_⟩, tabI_len _ _, j, j0, fun i => by rw [ct]; exact hc i⟩
          · have := congrArg List.length z
            rw [tabI_len] at this
            exact absurd this (by show ns.length ≠ 0; omega)
          · rw [tabI_len, ct]
            have h1 := hc (ns.length - 1)
            rcases Int.lt_trichotomy 0 ((ci ns (ns.length - 1)).fdiv j) with z | z | z
            · exact z
            · rw [← z, Int.mul_zero] at h1
              exact absurd h1 top
            · exfalso
              rcases Int.lt_or_lt_of_ne j0 with y | y
              · have h2 := Int.mul_pos_of_neg_of_neg y z
                have := js.mpr (h1.symm ▸ h2)
                omega
              · have h2 := Int.mul_neg_of_pos_of_neg y z
                have := js.mp y
                have h3 : ci ns (ns.length - 1) < 0 := h1.symm ▸ h2
                omega
          · have h1 : u * m ∣ m := gm _ fun i hi => by
              have h2 := hu i
              rw [ct] at h2
              have h3 := Int.ofNat_dvd_left.mp h2
              rw [hc i, Int.natAbs_mul, jm, Nat.mul_comm]
              exact Nat.mul_dvd_mul_left _ h3
            have h4 := Nat.dvd_of_mul_dvd_mul_right m0 (show u * m ∣ 1 * m by rw [Nat.one_mul]; exact h1)
            exact Nat.dvd_one.mp h4
end
end Vf
set_option maxRecDepth 100000
set_option maxHeartbeats 8000000
namespace Vf
open PySem PySem.Spec PyProof.Rows L2
structure Rd (p : Nat) (a : List Int) : Prop where
  s : Stp (qi a)
  b : ∀ i, 0 ≤ ci a i ∧ ci a i < p
theorem stp_top {a : List Int} (h : Stp (qi a)) (ne : a ≠ []) : ci a (a.length - 1) ≠ 0 := fun z => by
  have := ne_last h (qi_ne ne)
  rw [qi_len, cf_qi, z] at this
  exact this rfl
theorem Rd.top {p : Nat} {a : List Int} (h : Rd p a) (ne : a ≠ []) : ¬ (p : Int) ∣ ci a (a.length - 1) := fun z => by
  obtain ⟨h1, h2⟩ := h.b (a.length - 1)
  have h3 := stp_top h.s ne
  have := Int.le_of_dvd (by omega) z
  omega
theorem Res.rd {p : Nat} {ns T : List Int} (h : Res (p : Int) ns T) (p0 : 0 < p) : Rd p T := ⟨h.s, fun i => by
  rw [h.e]
  exact ⟨Int.emod_nonneg _ (by omega), Int.emod_lt_of_pos _ (by omega)⟩⟩
theorem Res.evk {p : Nat} {ns T : List Int} (h : Res (p : Int) ns T) : ∃ k : List Int, ∀ x, ev (qi T) x = ev (qi ns) x + (p : Rat) * ev (qi k) x := by
  refine ⟨tabI ns.length fun i => -(ci ns i / p), fun x => ?_⟩
  have e : ev (qi T) x = ev (padd (qi ns) (pscale (qi (tabI ns.length fun i => -(ci ns i / p))) (p : Rat))) x := ev_ext (fun i => by
    rw [cf_padd, cf_psc, cf_qi, cf_qi, cf_qi, h.e, ci_tab]
    have h1 := Int.mul_ediv_add_emod (ci ns i) p
    have h2 : ci ns i % (p : Int) = ci ns i + (if i < ns.length then -(ci ns i / (p : Int)) else 0) * (p : Int) := by
      split
      · rw [Int.neg_mul, Int.mul_comm]; omega
      · rw [ci_ge (by omega), Int.zero_emod]; omega
    rw [h2, Rat.intCast_add, Rat.intCast_mul]
    rfl) x
  rw [e, ev_padd, ev_pscale]
  grind
theorem Wl.evk {A B T : List Int} {f g : Int} (h : Wl A B f g T) (x : Rat) : ev (qi T) x = (f : Rat) * ev (qi A) x - (g : Rat) * (x ^ (A.length - B.length) * ev (qi B) x) := by
  have e : ev (qi T) x = ev (padd (pscale (qi A) (f : Rat)) (pscale (List.replicate (A.length - B.length) (0 : Rat) ++ qi B) (-(g : Rat)))) x := ev_ext (fun i => by
    rw [cf_padd, cf_psc, cf_psc, cf_shift, cf_qi, cf_qi, h.e, Rat.intCast_sub, Rat.intCast_mul, Rat.intCast_mul]
    split
    · rw [cf_qi]; grind
    · rw [show ((0 : Int) : Rat) = 0 from rfl]; grind) x
  rw [e, ev_padd, ev_pscale, ev_pscale, ev_app, ev_rep0, List.length_replicate]
  grind
/-- the lead is gone -/
theorem Wl.short {A B T : List Int} (hB : B ≠ []) (l : B.length ≤ A.length) {f g : Int} (e : f * ci A (A.length - 1) = g * ci B (B.length - 1)) (h : Wl A B f g T) : T.length < A.length := by
  have lB := List.length_pos_iff.mpr hB
  refine Decidable.byContradiction fun no => ?_
  have hl := h.l
  have hT : T.length = A.length := by omega
  have ne : T ≠ [] := fun z => by rw [z] at hT; simp at hT; omega
  have h1 := stp_top h.s ne
  rw [h.e, hT, if_pos (by omega), show A.length - 1 - (A.length - B.length) = B.length - 1 by omega, e] at h1
  omega
structure JR (p : Nat) (X Y a b : List Int) : Prop where
  ra : Rd p a
  rb : Rd p b
  la : a.length ≤ 100
  lb : b.length ≤ 100
  ne : a ≠ [] ∨ b ≠ []
  fw : ∀ g, MD p g (ev (qi X)) → MD p g (ev (qi Y)) → MD p g (ev (qi a)) ∧ MD p g (ev (qi b))
  bw : ∀ g, MD p g (ev (qi a)) → MD p g (ev (qi b)) → MD p g (ev (qi X)) ∧ MD p g (ev (qi Y))
theorem MD.res {p : Nat} {ns T : List Int} (h : Res (p : Int) ns T) (g : Rat → Rat) : MD p g (ev (qi ns)) ↔ MD p g (ev (qi T)) := by
  obtain ⟨k, hk⟩ := h.evk
  refine ⟨fun z => (z.more (IP.row k)).ext fun x => (hk x).symm, fun z => (z.more ((IP.row k).mul (IP.int (-1)))).ext fun x => ?_⟩
  try dsimp only
  rw [hk, show ((-1 : Int) : Rat) = -1 from rfl]
  grind
theorem JR.step {p : Nat} (hp : Pr p) {X Y a b T a' : List Int} (J : JR p X Y a b) (hb : b ≠ []) (l : b.length ≤ a.length) (hW : Wl a b (ci b (b.length - 1)) (ci a (a.length - 1)) T) (hR : Res (p : Int) T a') : JR p X Y a' b ∧ a'.length < a.length := by
  have s1 := hW.short hb l (Int.mul_comm _ _)
  have s2 := hR.l
  have la := J.la
  refine ⟨⟨hR.rd (by have := hp.1; omega), J.rb, by omega, J.lb, .inr hb, fun g h1 h2 => ?_, fun g h1 h2 => ?_⟩, by omega⟩
  · obtain ⟨m1, m2⟩ := J.fw g h1 h2
    refine ⟨(MD.res hR g).mp ?_, m2⟩
    have := (m1.mul (IP.int (ci b (b.length - 1)))).add (m2.mul ((IP.int (-(ci a (a.length - 1)))).mul (IP.pow (a.length - b.length))))
    refine this.ext fun x => ?_
    try dsimp only
    rw [hW.evk, Rat.intCast_neg]
    grind
  · refine J.bw g ?_ h2
    have mT := (MD.res hR g).mpr h1
    obtain ⟨w, z, e⟩ := inv_ex hp (J.rb.top hb)
    refine MD.unit (IP.row a) e ?_
    have := mT.add (h2.mul ((IP.int (ci a (a.length - 1))).mul (IP.pow (a.length - b.length))))
    refine this.ext fun x => ?_
    try dsimp only
    rw [hW.evk]
    grind
def spRD : Sp := fun vs H Q _ => ∃ (l1 l2 : Addr) (X Y : List Int) (p : Nat), vs = [.ref l1, .ref l2, .int (p : Int)] ∧ RI H l1 X ∧ RI H l2 Y ∧ X.length ≤ 100 ∧ Y.length ≤ 100 ∧ Pr p ∧ p < 2 ^ 4430 ∧ (∃ i, ¬ (p : Int) ∣ ci X i ∨ ¬ (p : Int) ∣ ci Y i) ∧
  ∀ (l' : Addr) (T : List Int) (H' : Hp), Same H H' → RI H' l' T → T ≠ [] → Rd p T → T.length ≤ 100 → (∀ g, MD p g (ev (qi X)) → MD p g (ev (qi Y)) → MD p g (ev (qi T))) → MD p (ev (qi T)) (ev (qi X)) → MD p (ev (qi T)) (ev (qi Y)) → Q (.ref l') H'
section
variable {P : Program} {w : World} {K : PySem.W.Frag} {mg : Str → Option Value} {base : Heap} {CP CR CN CI : Addr}
abbrev sRD : Stmt := topS 35
theorem scRD : FnScope ["one", "other", "prime", "above", "below"] ["one", "other", "prime"] (defScope sRD) := ⟨rfl, rfl, rfl, by decide +kernel, rfl, by decide +kernel, by decide +kernel⟩
theorem ok_rd {f : Addr} {fd : FuncData} (F : Fun K "residue_divisor" "residue_divisor" sRD f fd) (T : Bk mg) (G_residues : Df P w K mg base "residues" 2 ["row", "prime"] spRes) (G_without_lead : Df P w K mg base "without_lead" 2 ["one", "other", "factor", "number"] spWl) : FnOk P w K mg base CX0 3 f fd ["one", "other", "prime"] spRD := by
  refine F.ok scRD (fun vs H Q E h => ?_) (fun cdv A outer s H vs Q E hr h => ?_)
  · obtain ⟨l1, l2, X, Y, p, rfl, _⟩ := h
    rfl
  · obtain ⟨l1, l2, X, Y, p, rfl, h1, h2, lX, lY, hp, pb, hnz, q⟩ := h
    have p1 := hp.1
    refine ⟨_, (pss_cons (ps_par (i := 3) (j := 4) (by rfl) scRD.nd rfl rfl (by decide) rfl rfl (pa_cons (pe_call G_residues.ok (hr.mono (by decide)) rfl G_residues.m G_residues.kp G_residues.b .nil pass0 (pa_cons (pv 0) (pa_cons (pv 2) pa_nil))) (pa_cons (pe_call G_residues.ok (hr.mono (by decide)) rfl G_residues.m G_residues.kp G_residues.b .nil pass0 (pa_cons (pv 1) (pa_cons (pv 2) pa_nil))) pa_nil)) (by rfl))
  (pss_cons (ps_while PassesOwn.never (pt_truth (pv 4) (by intro _; rfl))
    (pss_cons (ps_while PassesOwn.never (pt_cmpR op_ge (pe_callB call_len_seq (by rfl) T.len (by decide +kernel) (pa_cons (pv 3) pa_nil)) (pe_callB call_len_seq (by rfl) T.len (by decide +kernel) (pa_cons (pv 4) pa_nil)) (nomark _))
      (pss_one (ps_set (i := 3) scRD.nd rfl (Or.inl rfl) (pe_call G_residues.ok (hr.mono (by decide)) rfl G_residues.m G_residues.kp G_residues.b .nil pass0 (pa_cons (pe_call G_without_lead.ok (hr.mono (by decide)) rfl G_without_lead.m G_without_lead.kp G_without_lead.b .nil pass0 (pa_cons (pv 3) (pa_cons (pv 4) (pa_cons (pe_ix ix_list (pv 4) (pe_un un_neg pe_int) (fun _ _ => rfl)) (pa_cons (pe_ix ix_list (pv 3) (pe_un un_neg pe_int) (fun _ _ => rfl)) pa_nil))))) (pa_cons (pv 2) pa_nil))))))
    (pss_one (ps_par (i := 3) (j := 4) (by rfl) scRD.nd rfl rfl (by decide) rfl rfl (pa_cons (pv 4) (pa_cons (pv 3) pa_nil)) (by rfl)))))
  (pss_one (ps_ret (pv 3))))), ?_⟩
    refine par_two ?_
    refine ⟨_, rfl, _, rfl, l1, X, _, rfl, h1, by omega, (by show (0 : Int) < p; omega), fun a1 A1 H1 s1 r1 R1 => ?_⟩
    refine ⟨_, rfl, _, rfl, l2, Y, _, rfl, s1 _ _ h2, by omega, (by show (0 : Int) < p; omega), fun b1 B1 H2 s2 r2 R2 => ?_⟩
    have J0 : JR p X Y A1 B1 := ⟨R1.rd (by omega), R2.rd (by omega), by have := R1.l; omega, by have := R2.l; omega, (by
      refine Classical.byContradiction fun no => ?_
      have hA : A1 = [] := Classical.byContradiction fun z => no (.inl z)
      have hB : B1 = [] := Classical.byContradiction fun z => no (.inr z)
      obtain ⟨i, hi | hi⟩ := hnz
      · have := R1.e i
        rw [hA] at this
        exact hi (Int.dvd_of_emod_eq_zero this.symm)
      · have := R2.e i
        rw [hB] at this
        exact hi (Int.dvd_of_emod_eq_zero this.symm)), fun g m1 m2 => ⟨(MD.res R1 g).mp m1, (MD.res R2 g).mp m2⟩, fun g m1 m2 => ⟨(MD.res R1 g).mpr m1, (MD.res R2 g).mpr m2⟩⟩
    refine ⟨fun m σ H' => ∃ (a b : Addr) (A B : List Int), σ = [some (.ref l1), some (.ref l2), some (.int (p : Int)), some (.ref a), some (.ref b)] ∧ Same H H' ∧ RI H' a A ∧ RI H' b B ∧ JR p X Y A B ∧ m = B.length, ⟨_, a1, b1, A1, B1, rfl, s1.trans s2, s2 _ _ r1, r2, J0, rfl⟩, ?_⟩
    rintro m σ H3 ⟨a, b, A2, B, rfl, s3, ra, rb, J, rfl⟩
    by_cases hB : B = []
    · subst hB
      refine ⟨_, rfl, false, .inl ⟨[], SqL.of rb, rfl⟩, ?_⟩
      refine iteF ?_
      refine ⟨_, rfl, ?_⟩
      have nA : A2 ≠ [] := J.ne.resolve_right fun z => z rfl
      refine q a A2 H3 s3 ra nA J.ra J.la (fun g m1 m2 => (J.fw g m1 m2).1) ?_ ?_
      · exact (J.bw _ (MD.self p _) ((MD.zero p _).ext fun x => rfl)).1
      · exact (J.bw _ (MD.self p _) ((MD.zero p _).ext fun x => rfl)).2
    · have lB := List.length_pos_iff.mpr hB
      refine ⟨_, rfl, true, .inl ⟨_, SqL.of rb, by simpa using hB⟩, ?_⟩
      refine iteT ?_
      refine ⟨fun σ' H' => ∃ (a b : Addr) (A B' : List Int), σ' = [some (.ref l1), some (.ref l2), some (.int (p : Int)), some (.ref a), some (.ref b)] ∧ Same H H' ∧ RI H' a A ∧ RI H' b B' ∧ JR p X Y A B' ∧ B'.length < B.length, fun σ' H' ⟨a, b, A, B', e1, e2, e3, e4, e5, e6⟩ => ⟨_, e6, a, b, A, B', e1, e2, e3, e4, e5, rfl⟩, ?_⟩
      refine ⟨fun m σ H' => ∃ (a' : Addr) (A : List Int), σ = [some (.ref l1), some (.ref l2), some (.int (p : Int)), some (.ref a'), some (.ref b)] ∧ Same H3 H' ∧ RI H' a' A ∧ JR p X Y A B ∧ m = A.length, ⟨_, a, A2, rfl, Same.refl _, ra, J, rfl⟩, ?_⟩
      rintro m σ H4 ⟨a', A3, rfl, s4, ra', J', rfl⟩
      refine ⟨_, rfl, a', _, rfl, .inl (SqL.of ra'), _, rfl, b, _, rfl, .inl (SqL.of (s4 _ _ rb)), _, _, rfl, rfl, ?_⟩
      rw [List.length_map, List.length_map]
      by_cases hl : B.length ≤ A3.length
      · refine ⟨true, congrArg V.bl (decide_eq_true (by omega)), ?_⟩
        refine iteT ?_
        have nA : A3 ≠ [] := fun z => by rw [z] at hl; exact absurd hl (by show ¬ B.length ≤ 0; omega)
        have lA := List.length_pos_iff.mpr nA
        refine ⟨fun σ' H' => ∃ (a' : Addr) (A : List Int), σ' = [some (.ref l1), some (.ref l2), some (.int (p : Int)), some (.ref a'), some (.ref b)] ∧ Same H3 H' ∧ RI H' a' A ∧ JR p X Y A B ∧ A.length < A3.length, fun σ' H' ⟨a', A, e1, e2, e3, e4, e5⟩ => ⟨_, e5, a', A, e1, e2, e3, e4, rfl⟩, ?_⟩
        have small : ∀ {z : Int}, 0 ≤ z ∧ z < p → z.natAbs < 2 ^ 4430 := fun {z} h => by omega
        refine ⟨_, rfl, _, rfl, _, rfl, _, rfl, b, _, _, _, rfl, rfl, SqL.of (s4 _ _ rb), atI_top lB, _, rfl, _, rfl, a', _, _, _, rfl, rfl, SqL.of ra', atI_top lA, ?_⟩
        refine ⟨a', b, A3, B, _, _, rfl, ra', s4 _ _ rb, J'.la, hl, fun i => wide_mul (small (J'.rb.b _)) (small (J'.ra.b i)) (by decide) (by decide) (by decide), fun i => wide_mul (small (J'.ra.b _)) (small (J'.rb.b i)) (by decide) (by decide) (by decide), fun t1 T1 H5 s5 rt W1 => ?_⟩
        refine ⟨_, rfl, t1, T1, _, rfl, rt, by have := W1.l; have := J'.la; omega, (by show (0 : Int) < p; omega), fun t2 T2 H6 s6 rt2 R => ?_⟩
        obtain ⟨J2, lt⟩ := J'.step hp hB hl W1 R
        exact ⟨t2, T2, rfl, s4.trans (s5.trans s6), rt2, J2, lt⟩
      · refine ⟨false, congrArg V.bl (decide_eq_false (by omega)), ?_⟩
        refine iteF ?_
        try dsimp only
        refine par_one ?_
        exact ⟨_, rfl, _, rfl, b, a', B, A3, rfl, s3.trans s4, s4 _ _ rb, ra', ⟨J'.rb, J'.ra, J'.lb, J'.la, J'.ne.symm, fun g m1 m2 => (J'.fw g m1 m2).symm, fun g m1 m2 => J'.bw g m2 m1⟩, by omega⟩
end
end Vf
set_option maxRecDepth 100000
set_option maxHeartbeats 8000000
namespace Vf
open PySem PySem.Spec PyProof.Rows L2
theorem lead_dvd2 {X G : List Int} (hX : Stp (qi X)) (nX : X ≠ []) (hG : Stp (qi G)) (nG : G ≠ []) (h : ∃ c : List Int, ∀ x, ev (qi X) x = ev (qi G) x * ev (qi c) x) : ci G (G.length - 1) ∣ ci X (X.length - 1) ∧ G.length ≤ X.length := by
  obtain ⟨c, hc⟩ := h
  have nc : stripQ (qi c) ≠ [] := fun z => by
    have : qi X = [] := stp_nil hX fun x => by rw [hc, ev_nil' z]; grind
    exact qi_ne nX this
  have l1 := len_mul_eq (Z := qi X) hG (stripQ_stp (qi c)) hX (qi_ne nG) nc fun x => by rw [hc, ev_stripQ]
  have lc := List.length_pos_iff.mpr nc
  have lG := List.length_pos_iff.mpr nG
  rw [qi_len, qi_len] at l1
  have e : cf (qi X) (X.length - 1) = cf (pmul (qi G) (stripQ (qi c))) (X.length - 1) := cf_of (fun x => by rw [hc, ev_pmul, ev_stripQ]) _
  rw [show X.length - 1 = G.length - 1 + ((stripQ (qi c)).length - 1) by omega, top_pmul (by rw [qi_len]; omega) (by omega), cf_stripQ, cf_qi, cf_qi, cf_qi] at e
  refine ⟨⟨ci c ((stripQ (qi c)).length - 1), ?_⟩, by omega⟩
  rw [show X.length - 1 = G.length - 1 + ((stripQ (qi c)).length - 1) by omega]
  rw [← Rat.intCast_mul] at e
  exact_mod_cast e
/-- two rows of whole numbers, by their difference -/
theorem row_sub (a b : List Int) : ∃ c : List Int, ∀ x, ev (qi c) x = ev (qi a) x - ev (qi b) x := by
  obtain ⟨c, hc⟩ := (IP.row a).add ((IP.row b).mul (IP.int (-1)))
  refine ⟨c, fun x => ?_⟩
  rw [hc]
  try dsimp only
  rw [show ((-1 : Int) : Rat) = -1 from rfl]
  grind
def spDvs : Sp := fun vs H Q _ => ∃ (l1 l2 : Addr) (F X : List Int), vs = [.ref l1, .ref l2] ∧ RI H l1 F ∧ RI H l2 X ∧ Pm F ∧ Stp (qi X) ∧ F.length ≤ 100 ∧ X.length ≤ 13 ∧ (∀ i, (ci F i).natAbs ≤ 2 ^ 4430) ∧ (∀ i, (ci X i).natAbs ≤ 2 ^ 1200) ∧
  ∀ (b : Bool) (H' : Hp), Same H H' → (b = true → ∃ c : List Int, ∀ x, ev (qi X) x = ev (qi F) x * ev (qi c) x) → ((∃ c : List Int, ∀ x, ev (qi X) x = ev (qi F) x * ev (qi c) x) → b = true) → Q (.bl b) H'
section
variable {P : Program} {w : World} {K : PySem.W.Frag} {mg : Str → Option Value} {base : Heap} {CP CR CN CI : Addr}
abbrev sDvs : Stmt := topS 29
theorem scDvs : FnScope ["one", "other", "rest"] ["one", "other"] (defScope sDvs) := ⟨rfl, rfl, rfl, by decide +kernel, rfl, by decide +kernel, by decide +kernel⟩
theorem ok_dvs {f : Addr} {fd : FuncData} (F : Fun K "divides" "divides" sDvs f fd) (T : Bk mg) (G_without_lead : Df P w K mg base "without_lead" 2 ["one", "other", "factor", "number"] spWl) : FnOk P w K mg base CX0 3 f fd ["one", "other"] spDvs := by
  refine F.ok scDvs (fun vs H Q E h => ?_) (fun cdv A outer s H vs Q E hr h => ?_)
  · obtain ⟨l1, l2, F, X, rfl, _⟩ := h
    rfl
  · obtain ⟨l1, l2, F, X, rfl, h1, h2, hF, sX, lF, lX, bF, bX, q⟩ := h
    have lF0 := List.length_pos_iff.mpr hF.ne
    refine ⟨_, (pss_cons (ps_set (i := 2) scDvs.nd rfl (Or.inl rfl) (pe_callTy call_list_of (by rfl) T.list (by decide +kernel) (pa_cons (pv 1) pa_nil)))
  (pss_cons (ps_while PassesOwn.never (pt_cmpR op_ge (pe_callB call_len_seq (by rfl) T.len (by decide +kernel) (pa_cons (pv 2) pa_nil)) (pe_callB call_len_seq (by rfl) T.len (by decide +kernel) (pa_cons (pv 0) pa_nil)) (nomark _))
    (pss_cons (ps_if (pt_cmpR op_ne (pe_op op_mod (pe_ix ix_list (pv 2) (pe_un un_neg pe_int) (fun _ _ => rfl)) (pe_ix ix_list (pv 0) (pe_un un_neg pe_int) (fun _ _ => rfl))) pe_int (nomark _))
      (pss_one (ps_ret pe_bl))
      pss_nil)
    (pss_one (ps_set (i := 2) scDvs.nd rfl (Or.inl rfl) (pe_call G_without_lead.ok (hr.mono (by decide)) rfl G_without_lead.m G_without_lead.kp G_without_lead.b .nil pass0 (pa_cons (pv 2) (pa_cons (pv 0) (pa_cons pe_int (pa_cons (pe_op op_fdivW (pe_ix ix_list (pv 2) (pe_un un_neg pe_int) (fun _ _ => rfl)) (pe_ix ix_list (pv 0) (pe_un un_neg pe_int) (fun _ _ => rfl))) pa_nil)))))))))
  (pss_one (ps_ret (pe_notT (pv 2)))))), ?_⟩
    refine ⟨_, rfl, l2, _, rfl, .inl (SqL.of h2), fun a0 n0 => ?_⟩
    have e0 : upd H a0 (HO.lst (X.map V.int)) a0 = some (HO.lst (X.map V.int)) := upd_same
    have s0 : Same H (upd H a0 (HO.lst (X.map V.int))) := same_upd n0
    generalize upd H a0 (HO.lst (X.map V.int)) = H1 at e0 s0 ⊢
    refine ⟨fun m σ H' => ∃ (a : Addr) (R : List Int), σ = [some (.ref l1), some (.ref l2), some (.ref a)] ∧ Same H H' ∧ RI H' a R ∧ Stp (qi R) ∧ R.length ≤ X.length ∧ (∃ c : List Int, ∀ x, ev (qi X) x = ev (qi F) x * ev (qi c) x + ev (qi R) x) ∧ (∀ i, (ci R i).natAbs ≤ 2 ^ (1200 + 4432 * (X.length - R.length))) ∧ m = R.length, ⟨_, a0, X, rfl, s0, e0, sX, Nat.le_refl _, ⟨[], fun x => by show _ = _ * 0 + _; grind⟩, fun i => by rw [Nat.sub_self]; exact bX i, rfl⟩, ?_⟩
    rintro m σ H2 ⟨a, R, rfl, s2, ra, sR, lR, ⟨c, hc⟩, bR, rfl⟩
    refine ⟨_, rfl, a, _, rfl, .inl (SqL.of ra), _, rfl, l1, _, rfl, .inl (SqL.of (s2 _ _ h1)), _, _, rfl, rfl, ?_⟩
    rw [List.length_map, List.length_map]
    by_cases hl : F.length ≤ R.length
    · refine ⟨true, congrArg V.bl (decide_eq_true (by omega)), ?_⟩
      refine iteT ?_
      have nR : R ≠ [] := fun z => by rw [z] at hl; exact absurd hl (by show ¬ F.length ≤ 0; omega)
      have lR0 := List.length_pos_iff.mpr nR
      have tp := hF.tp
      refine ⟨fun σ' H' => ∃ (a : Addr) (R' : List Int), σ' = [some (.ref l1), some (.ref l2), some (.ref a)] ∧ Same H H' ∧ RI H' a R' ∧ Stp (qi R') ∧ R'.length ≤ X.length ∧ (∃ c : List Int, ∀ x, ev (qi X) x = ev (qi F) x * ev (qi c) x + ev (qi R') x) ∧ (∀ i, (ci R' i).natAbs ≤ 2 ^ (1200 + 4432 * (X.length - R'.length))) ∧ R'.length < R.length, fun σ' H' ⟨a, R', e1, e2, e3, e4, e5, e6, e7, e8⟩ => ⟨_, e8, a, R', e1, e2, e3, e4, e5, e6, e7, rfl⟩, ?_⟩
      refine ⟨_, rfl, _, rfl, a, _, _, _, rfl, rfl, SqL.of ra, atI_top lR0, _, rfl, _, rfl, l1, _, _, _, rfl, rfl, SqL.of (s2 _ _ h1), atI_top lF0, _, _, rfl, rfl, tp, ?_⟩
      dsimp only [tC]
      have small : ∀ {z : Int} {n : Nat}, z.natAbs ≤ 2 ^ n → z.natAbs < 2 ^ (n + 1) := fun {z n} h => Nat.lt_of_le_of_lt h (Nat.pow_lt_pow_right (by decide) (by omega))
      refine rNe_int (fun z => ?_) fun z => ?_
      · refine iteF ?_
        dsimp only [tNext]
        have hd : ci F (F.length - 1) ∣ ci R (R.length - 1) := Int.dvd_of_emod_eq_zero z
        have eq1 : ci R (R.length - 1) / ci F (F.length - 1) * ci F (F.length - 1) = ci R (R.length - 1) := Int.ediv_mul_cancel hd
        have bF1 := bF (F.length - 1)
        have ab1 : (ci R (R.length - 1) / ci F (F.length - 1)).natAbs ≤ (ci R (R.length - 1)).natAbs := by
          have : (ci R (R.length - 1)).natAbs = (ci R (R.length - 1) / ci F (F.length - 1)).natAbs * (ci F (F.length - 1)).natAbs := by rw [← Int.natAbs_mul, eq1]
          rw [this]
          exact Nat.le_mul_of_pos_right _ (by omega)
        refine ⟨_, rfl, _, rfl, _, rfl, _, rfl, a, _, _, _, rfl, rfl, SqL.of ra, atI_top lR0, _, rfl, _, rfl, l1, _, _, _, rfl, rfl, SqL.of (s2 _ _ h1), atI_top lF0, _, _, rfl, rfl, wide_div (b := 4431) tp (small bF1) (by decide) (by decide), ?_⟩
        have xb : 1200 + 4432 * (X.length - R.length) + 1 ≤ 70000 := by omega
        refine ⟨a, l1, R, F, 1, _, rfl, ra, s2 _ _ h1, by omega, hl, fun i => wide_mul (a := 1) (b := 1200 + 4432 * (X.length - R.length) + 1) (by decide) (small (bR i)) (by decide) (by omega) (by omega), fun i => wide_mul (a := 1200 + 4432 * (X.length - R.length) + 1) (b := 4431) (small (Nat.le_trans ab1 (bR _))) (small (bF i)) (by omega) (by decide) (by omega), fun t1 T1 H5 s5 rt W1 => ?_⟩
        have lt := W1.short hF.ne hl (by rw [Int.one_mul, eq1])
        obtain ⟨e, he⟩ := (IP.row c).add ((IP.int (ci R (R.length - 1) / ci F (F.length - 1))).mul (IP.pow (R.length - F.length)))
        refine ⟨t1, T1, rfl, s2.trans s5, rt, W1.s, by omega, ⟨e, fun x => ?_⟩, fun i => ?_, lt⟩
        · rw [he, W1.evk, hc, show ((1 : Int) : Rat) = 1 from rfl]
          grind
        · rw [W1.e, Int.one_mul]
          have h8 := Int.natAbs_sub_le (ci R i) (ci R (R.length - 1) / ci F (F.length - 1) * (if R.length - F.length ≤ i then ci F (i - (R.length - F.length)) else 0))
          rw [Int.natAbs_mul] at h8
          have h9 : (if R.length - F.length ≤ i then ci F (i - (R.length - F.length)) else 0).natAbs ≤ 2 ^ 4430 := by
            split
            · exact bF _
            · exact Nat.zero_le _
          have h10 := Nat.mul_le_mul (Nat.le_trans ab1 (bR (R.length - 1))) h9
          rw [← Nat.pow_add] at h10
          have h11 := bR i
          have h12 : 2 ^ (1200 + 4432 * (X.length - R.length)) ≤ 2 ^ (1200 + 4432 * (X.length - R.length) + 4430) := Nat.pow_le_pow_right (by decide) (by omega)
          have h13 : 2 ^ (1200 + 4432 * (X.length - R.length) + 4430 + 1) ≤ 2 ^ (1200 + 4432 * (X.length - T1.length)) := Nat.pow_le_pow_right (by decide) (by omega)
          rw [Nat.pow_succ] at h13
          generalize 2 ^ (1200 + 4432 * (X.length - R.length) + 4430) = u1 at *
          generalize 2 ^ (1200 + 4432 * (X.length - T1.length)) = u2 at *
          generalize 2 ^ (1200 + 4432 * (X.length - R.length)) = u3 at *
          omega
      · refine iteT ?_
        refine q false H2 s2 (fun hb => by cases hb) fun ⟨d, hd⟩ => ?_
        exfalso
        obtain ⟨e, he⟩ := row_sub d c
        obtain ⟨hl2, _⟩ := lead_dvd2 sR nR hF.stp hF.ne ⟨e, fun x => by
          rw [he]
          have h5 := hc x
          rw [hd] at h5
          grind⟩
        exact z (Int.emod_eq_zero_of_dvd hl2)
    · refine ⟨false, congrArg V.bl (decide_eq_false (by omega)), ?_⟩
      refine iteF ?_
      refine ⟨_, rfl, _, .inl ⟨_, SqL.of ra, rfl⟩, ?_⟩
      refine q _ H2 s2 (fun hb => ?_) fun ⟨d, hd⟩ => ?_
      · have nR : R = [] := by simpa using hb
        subst nR
        exact ⟨c, fun x => by rw [hc]; show _ + (0 : Rat) = _; grind⟩
      · obtain ⟨e, he⟩ := row_sub d c
        by_cases hR : R = []
        · subst hR; rfl
        · exfalso
          have := (lead_dvd2 sR hR hF.stp hF.ne ⟨e, fun x => by
            rw [he]
            have h5 := hc x
            rw [hd] at h5
            grind⟩).2
          omega
end
end Vf
set_option maxRecDepth 100000
set_option maxHeartbeats 8000000
namespace Vf
open PySem PySem.Spec PyProof.Rows L2
/-- rows and their divisor, and the bounds -/
structure Gr (X Y G : List Int) : Prop where
  g : GdT X Y G
  lx : X.length ≤ 13
  ly : Y.length ≤ 13
  bx : ∀ i, (ci X i).natAbs ≤ 2 ^ 1200
  yb : ∀ i, (ci Y i).natAbs ≤ 2 ^ 1200
  bg : ∀ i, (ci G i).natAbs ≤ 2 ^ 1200
def spDR : Sp := fun vs H Q _ => ∃ (l1 l2 : Addr) (X Y G : List Int) (p : Nat), vs = [.ref l1, .ref l2, .int (p : Int)] ∧ RI H l1 X ∧ RI H l2 Y ∧ Gr X Y G ∧ Pr p ∧ p ≤ 2 ^ 4423 - 1 ∧
  (∀ (l' : Addr) (H' : Hp), Same H H' → RI H' l' G → Q (.ref l') H') ∧ (p ≠ 2 ^ 4423 - 1 → ∀ H', Same H H' → Q .non H')
def spCR : Sp := fun vs H Q _ => ∃ (l1 l2 : Addr) (X Y G : List Int), vs = [.ref l1, .ref l2] ∧ RI H l1 X ∧ RI H l2 Y ∧ Gr X Y G ∧ ∀ (l' : Addr) (H' : Hp), Same H H' → RI H' l' G → Q (.ref l') H'
theorem pm_len1 {G : List Int} (h : Pm G) (hl : G.length ≤ 1) : G = [1] := by
  have h0 := List.length_pos_iff.mpr h.ne
  obtain ⟨g, rfl⟩ := List.length_eq_one_iff.mp (show G.length = 1 by omega)
  have tp : 0 < g := h.tp
  have := h.u g.natAbs fun i => by
    cases i with
    | zero => exact Int.natAbs_dvd.mpr (Int.dvd_refl _)
    | succ i => rw [ci_ge (by show 1 ≤ i + 1; omega)]; exact Int.dvd_zero _
  rw [show g = 1 by omega]
theorem bigp : 2 ^ 1200 < 2 ^ 4423 - 1 ∧ 2 * 2 ^ 2400 < 2 ^ 4423 - 1 ∧ 2 ^ 4423 - 1 < 2 ^ 4430 ∧ 2 ^ 4423 - 1 < 2 ^ 8800 ∧ 2 ^ 4423 - 1 ≤ 2 ^ 4430 := by decide +kernel
section
variable {P : Program} {w : World} {K : PySem.W.Frag} {mg : Str → Option Value} {base : Heap} {CP CR CN CI : Addr}
abbrev sDR : Stmt := topS 34
theorem scDR : FnScope ["one", "other", "prime", "lead", "row", "factor", "found", "number"] ["one", "other", "prime"] (defScope sDR) := ⟨rfl, rfl, rfl, by decide +kernel, rfl, by decide +kernel, by decide +kernel⟩
theorem ok_dr {f : Addr} {fd : FuncData} (F : Fun K "divisor_by_residues" "divisor_by_residues" sDR f fd) (T : Bk mg) (G_residue_divisor : Df P w K mg base "residue_divisor" 3 ["one", "other", "prime"] spRD) (G_inverse : Df P w K mg base "inverse" 1 ["number", "prime"] spInv) (G_nearest_residue : Df P w K mg base "nearest_residue" 1 ["number", "prime"] spNear) (G_primitive_row : Df P w K mg base "primitive_row" 1 ["row"] spPrim) (G_divides : Df P w K mg base "divides" 3 ["one", "other"] spDvs) : FnOk P w K mg base CX0 4 f fd ["one", "other", "prime"] spDR := by
  refine F.ok scDR (fun vs H Q E h => ?_) (fun cdv A outer s H vs Q E hr h => ?_)
  · obtain ⟨l1, l2, X, Y, G, p, rfl, _⟩ := h
    rfl
  · obtain ⟨l1, l2, X, Y, G, p, rfl, h1, h2, g, hp, pb, q, qn⟩ := h
    obtain ⟨B1, B2, B3, B4, B5⟩ := bigp
    have p1 := hp.1
    have X0 := List.length_pos_iff.mpr g.g.px.ne
    have Y0 := List.length_pos_iff.mpr g.g.py.ne
    have tX := g.g.px.tp
    have tY := g.g.py.tp
    refine ⟨_, (pss_cons (ps_set (i := 3) scDR.nd rfl (Or.inl rfl) (pe_callBfun cr_gcd (by rfl) T.gcd (pa_cons (pe_ix ix_list (pv 0) (pe_un un_neg pe_int) (fun _ _ => rfl)) (pa_cons (pe_ix ix_list (pv 1) (pe_un un_neg pe_int) (fun _ _ => rfl)) pa_nil))))
  (pss_cons (ps_if (pt_cmpR op_eq (pe_op op_mod (pv 3) (pv 2)) pe_int (nomark _))
    (pss_one (ps_ret pe_non))
    pss_nil)
  (pss_cons (ps_set (i := 4) scDR.nd rfl (Or.inl rfl) (pe_call G_residue_divisor.ok (hr.mono (by decide)) rfl G_residue_divisor.m G_residue_divisor.kp G_residue_divisor.b .nil pass0 (pa_cons (pv 0) (pa_cons (pv 1) (pa_cons (pv 2) pa_nil)))))
  (pss_cons (ps_if (pt_cmpR op_eq (pe_callB call_len_seq (by rfl) T.len (by decide +kernel) (pa_cons (pv 4) pa_nil)) pe_int (nomark _))
    (pss_one (ps_ret (pe_lst (pa_cons pe_int pa_nil))))
    pss_nil)
  (pss_cons (ps_if (pt_cmpR op_ge (pe_op op_mulW pe_int (pv 3)) (pv 2) (nomark _))
    (pss_one (ps_ret pe_non))
    pss_nil)
  (pss_cons (ps_set (i := 5) scDR.nd rfl (Or.inr rfl) (pe_op op_mulW (pv 3) (pe_call G_inverse.ok (hr.mono (by decide)) rfl G_inverse.m G_inverse.kp G_inverse.b .nil pass0 (pa_cons (pe_ix ix_list (pv 4) (pe_un un_neg pe_int) (fun _ _ => rfl)) (pa_cons (pv 2) pa_nil)))))
  (pss_cons (ps_set (i := 6) scDR.nd rfl (Or.inl rfl) (pe_call G_primitive_row.ok (hr.mono (by decide)) rfl G_primitive_row.m G_primitive_row.kp G_primitive_row.b .nil pass0 (pa_cons (pe_lc (own := [("number", 7)]) (g := (gName 7)) (tt := tYes) rfl scDR.nd (pi_seq (pv 4)) (blkOk_by (N := ["one", "other", "prime", "lead", "row", "factor", "found", "number"]) (sc := defScope sDR) (by decide +kernel)) (fun _ _ _ _ _ => pg_name (i := 7) scDR.nd rfl (Or.inl rfl)) (fun _ _ _ _ _ => pts_nil) (fun _ _ _ _ _ => (pe_call G_nearest_residue.ok (hr.mono (by decide)) rfl G_nearest_residue.m G_nearest_residue.kp G_nearest_residue.b .nil pass0 (pa_cons (pe_op op_mulW (pv 5) (pv 7)) (pa_cons (pv 2) pa_nil))))) pa_nil)))
  (pss_one (ps_ret (pe_ifExp (PW.pt (pw_and (pt_val (pe_call G_divides.ok (hr.mono (by decide)) rfl G_divides.m G_divides.kp G_divides.b .nil pass0 (pa_cons (pv 6) (pa_cons (pv 0) pa_nil)))) (pw_and1 (pt_val (pe_call G_divides.ok (hr.mono (by decide)) rfl G_divides.m G_divides.kp G_divides.b .nil pass0 (pa_cons (pv 6) (pa_cons (pv 1) pa_nil))))))) (pv 6) pe_non)))))))))), ?_⟩
    refine ⟨_, rfl, _, rfl, l1, _, _, _, rfl, rfl, SqL.of h1, atI_top X0, _, rfl, _, rfl, l2, _, _, _, rfl, rfl, SqL.of h2, atI_top Y0, _, _, rfl, ?_⟩
    obtain ⟨L, eL⟩ : ∃ L : Nat, L = Nat.gcd (ci X (X.length - 1)).natAbs (ci Y (Y.length - 1)).natAbs := ⟨_, rfl⟩
    rw [← eL]
    have L0 : 0 < L := by rw [eL]; exact Nat.gcd_pos_of_pos_left _ (by omega)
    have LX : L ∣ (ci X (X.length - 1)).natAbs := by rw [eL]; exact Nat.gcd_dvd_left _ _
    have LY : L ∣ (ci Y (Y.length - 1)).natAbs := by rw [eL]; exact Nat.gcd_dvd_right _ _
    have Lb : L ≤ 2 ^ 1200 := Nat.le_trans (Nat.le_of_dvd (by omega) LX) (g.bx _)
    refine ⟨_, rfl, _, rfl, _, _, rfl, rfl, (by show (0 : Int) < p; omega), ?_⟩
    refine ⟨rfl, _, rfl, ?_⟩
    by_cases z : (L : Int) % (p : Int) = 0
    · rw [decide_eq_true (show V.int ((L : Int) % (p : Int)) = V.int 0 by rw [z])]
      refine iteT ?_
      refine qn (fun e => ?_) H (Same.refl _)
      have h3 : p ∣ L := by exact_mod_cast Int.dvd_of_emod_eq_zero z
      have := Nat.le_of_dvd L0 h3
      omega
    rw [decide_eq_false (fun y => z (by injection y))]
    refine iteF ?_
    dsimp only [tNext]
    have nL : ¬ (p : Int) ∣ (L : Int) := fun y => z (Int.emod_eq_zero_of_dvd y)
    have nXY : ¬ ((p : Int) ∣ ci X (X.length - 1) ∧ (p : Int) ∣ ci Y (Y.length - 1)) := fun ⟨y1, y2⟩ => nL (by
      have h3 := Nat.dvd_gcd (Int.ofNat_dvd_left.mp y1) (Int.ofNat_dvd_left.mp y2)
      rw [← eL] at h3
      exact_mod_cast h3)
    refine ⟨_, rfl, _, rfl, _, rfl, l1, l2, X, Y, p, rfl, h1, h2, by have := g.lx; omega, by have := g.ly; omega, hp, by omega, ?_, fun lr T H2 s2 rT nT dT lT fw mx my => ?_⟩
    · refine Classical.byContradiction fun no => nXY ⟨?_, ?_⟩
      · exact Classical.byContradiction fun y => no ⟨X.length - 1, .inl y⟩
      · exact Classical.byContradiction fun y => no ⟨Y.length - 1, .inr y⟩
    have T0 := List.length_pos_iff.mpr nT
    have tT := dT.top nT
    have mG : MD p (ev (qi G)) (ev (qi T)) := by
      obtain ⟨c1, e1⟩ := g.g.dx
      obtain ⟨c2, e2⟩ := g.g.dy
      exact fw _ (MD.of (IP.row c1) e1) (MD.of (IP.row c2) e2)
    obtain ⟨lG, nG⟩ := g.g.len_le hp nXY ⟨_, tT⟩ mG
    have bT := dT.b
    -- one number
    refine ⟨_, rfl, lr, _, rfl, .inl (SqL.of rT), ?_⟩
    dsimp only [tC]
    rw [List.length_map]
    refine ⟨rfl, _, rfl, ?_⟩
    by_cases l1' : T.length = 1
    · rw [decide_eq_true (by rw [l1']; rfl)]
      refine iteT ?_
      refine ⟨(by show 1 ≤ sizeLine; decide), fun k nk => ?_⟩
      refine q k _ (s2.trans (same_upd nk)) ?_
      rw [pm_len1 g.g.pg (by omega)]
      exact upd_same
    rw [decide_eq_false (fun y => l1' (by injection y with y; omega))]
    refine iteF ?_
    dsimp only [tNext]
    refine ⟨_, rfl, _, _, rfl, rfl, wide_mul (a := 10) (b := 1201) (by decide) (by rw [Int.natAbs_natCast]; exact Nat.lt_of_le_of_lt Lb (Nat.pow_lt_pow_right (by decide) (by decide))) (by decide) (by decide) (by decide), _, rfl, _, _, rfl, rfl, ?_⟩
    show ∃ k, V.bl (decide ((p : Int) ≤ 2 * (L : Int))) = V.bl k ∧ _
    by_cases z2 : (p : Int) ≤ 2 * (L : Int)
    · refine ⟨true, congrArg V.bl (decide_eq_true z2), ?_⟩
      refine iteT ?_
      refine qn (fun e => ?_) H2 s2
      have : 2 ^ 1200 ≤ 2 ^ 2400 := Nat.pow_le_pow_right (by decide) (by decide)
      omega
    refine ⟨false, congrArg V.bl (decide_eq_false z2), ?_⟩
    refine iteF ?_
    dsimp only [tNext]
    have small : ∀ {z : Int}, 0 ≤ z ∧ z < p → z.natAbs < 2 ^ 4430 := fun {z} h => by omega
    have Lb2 : ((L : Nat) : Int).natAbs < 2 ^ 1201 := by rw [Int.natAbs_natCast]; exact Nat.lt_of_le_of_lt Lb (Nat.pow_lt_pow_right (by decide) (by decide))
    refine ⟨_, rfl, _, rfl, _, rfl, lr, _, _, _, rfl, rfl, SqL.of rT, atI_top T0, _, rfl, ci T (T.length - 1), p, rfl, hp, by omega, tT, fun u H3 s3 hu u0 up => ?_⟩
    refine ⟨_, _, rfl, rfl, wide_mul (a := 1201) (b := 4430) Lb2 (small ⟨u0, up⟩) (by decide) (by decide) (by decide), ?_⟩
    have fb : ((L : Int) * u).natAbs < 2 ^ 5631 := wide_lt Lb2 (small ⟨u0, up⟩)
    have rT3 := s3 _ _ rT
    refine ⟨_, rfl, lr, rfl, lc_seq (xs := T.map V.int) (.inl (SqL.of rT3)) (fun D i H' => Same H3 H' ∧ H' D = some (.lst ((tabI i fun i => nres p ((L : Int) * u * ci T i)).map V.int))) ?_ ?_ ?_ ?_⟩
    · intro D hD
      exact ⟨same_upd hD, upd_same⟩
    · intro D i H2 hD ⟨s2, _⟩
      exact ⟨same_sqL s2, same_sqT s2⟩
    · intro D i x H' hD hi ⟨ss, eD⟩
      have hi' : i < T.length := by
        have := (List.getElem?_eq_some_iff.mp hi).1
        rw [List.length_map] at this
        exact this
      rw [List.getElem?_map, ci_lt hi'] at hi
      cases hi
      refine ⟨rfl, ?_⟩
      refine ⟨_, rfl, _, rfl, _, _, rfl, rfl, wide_mul (a := 5631) (b := 4430) fb (small (bT i)) (by decide) (by decide) (by decide), _, rfl, _, _, rfl, (by show (0 : Int) < p; omega), by rw [Int.natAbs_natCast]; omega, ?_⟩
      refine ⟨_, eD, (by rw [List.length_map, tabI_len, sizeLine_eq]; omega), fun b o e => ?_, ?_⟩
      · rw [upd_ne (ne_of_none e hD)]
        exact ss _ _ e
      · rw [upd_same, tabI_snoc, List.map_append]
        rfl
    intro D H4 hD ⟨s4, eD⟩
    rw [List.length_map] at eD
    have ct : ∀ i, ci (tabI T.length fun i => nres p ((L : Int) * u * ci T i)) i = nres p ((L : Int) * u * ci T i) := fun i => by
      rw [ci_tab]
      split
      · rfl
      · rw [ci_ge (l := T) (by omega), Int.mul_zero]
        unfold nres
        rw [Int.zero_emod, if_neg (by omega)]
    have top : nres p ((L : Int) * u * ci T (T.length - 1)) = L := nres_eq (by omega) (by
      obtain ⟨y, hy⟩ := hu
      exact ⟨L * y, by grind⟩) (by rw [Int.natAbs_natCast, Int.natAbs_natCast]; omega)
    have nb : ∀ i, (ci (tabI T.length fun i => nres p ((L : Int) * u * ci T i)) i).natAbs ≤ p := fun i => by
      rw [ct]
      have := nres_lt (p := p) (n := (L : Int) * u * ci T i) (by omega)
      rw [Int.natAbs_natCast] at this
      exact this
    refine ⟨D, _, rfl, eD, (fun z => by have := congrArg List.length z; rw [tabI_len] at this; exact nT (List.length_eq_zero_iff.mp this)), by rw [tabI_len]; exact lT, by rw [tabI_len, ct, top]; omega, fun i => Nat.lt_of_le_of_lt (nb i) (by omega), fun lf U H5 s5 rU W => ?_⟩
    have s35 := s3.trans (s4.trans s5)
    have s05 := s2.trans s35
    obtain ⟨k, k0, ek⟩ := W.e
    have lU : U.length = T.length := by rw [W.l, tabI_len]
    have bU : ∀ i, (ci U i).natAbs ≤ 2 ^ 4430 := fun i => by
      have h3 := nb i
      rw [ek, Int.natAbs_mul] at h3
      have := Nat.le_mul_of_pos_left (ci U i).natAbs (show 0 < k.natAbs by omega)
      omega
    have px := g.g.px.stp
    have py := g.g.py.stp
    -- both divided: the divisor; else only a small prime
    have fin : ∀ b1 b2 : Bool, (b1 = true → ∃ c : List Int, ∀ x, ev (qi X) x = ev (qi U) x * ev (qi c) x) → ((∃ c : List Int, ∀ x, ev (qi X) x = ev (qi U) x * ev (qi c) x) → b1 = true) → (b2 = true → ∃ c : List Int, ∀ x, ev (qi Y) x = ev (qi U) x * ev (qi c) x) → ((∃ c : List Int, ∀ x, ev (qi Y) x = ev (qi U) x * ev (qi c) x) → b2 = true) → (b1 = true ∧ b2 = true → U = G) ∧ (b1 = false ∨ b2 = false → p ≠ 2 ^ 4423 - 1) := fun b1 b2 t1 f1 t2 f2 => by
      refine ⟨fun ⟨y1, y2⟩ => ?_, fun no e => ?_⟩
      · obtain ⟨c1, e1⟩ := t1 y1
        obtain ⟨c2, e2⟩ := t2 y2
        exact g.g.sound W.p (by omega) ⟨_, e1⟩ ⟨_, e2⟩
      · obtain ⟨ll, kk, hk⟩ := g.g.luck hp (by omega) tT lG nG mx my
        obtain ⟨d1, _⟩ := lead_dvd g.g.px g.g.pg g.g.dx
        obtain ⟨d2, _⟩ := lead_dvd g.g.py g.g.pg g.g.dy
        have dL : ci G (G.length - 1) ∣ (L : Int) := by
          have h3 := Nat.dvd_gcd (Int.natAbs_dvd_natAbs.mpr d1) (Int.natAbs_dvd_natAbs.mpr d2)
          rw [← eL] at h3
          exact Int.natAbs_dvd.mp (by exact_mod_cast h3)
        obtain ⟨m, hm⟩ := dL
        have mb : m.natAbs ≤ 2 ^ 1200 := by
          have : L = (ci G (G.length - 1)).natAbs * m.natAbs := by rw [← Int.natAbs_mul, ← hm, Int.natAbs_natCast]
          have := Nat.le_mul_of_pos_left m.natAbs (show 0 < (ci G (G.length - 1)).natAbs by have := g.g.pg.tp; omega)
          omega
        have eq : ∀ i, nres p ((L : Int) * u * ci T i) = m * ci G i := fun i => nres_eq (by omega) (recover (rt := ci T (T.length - 1)) hm hu (by have := hk (G.length - 1); rw [ll]; exact this) i (hk i)) (by
          rw [Int.natAbs_mul, Int.natAbs_natCast]
          have h3 := Nat.mul_le_mul mb (g.bg i)
          rw [← Nat.pow_add] at h3
          omega)
        have m0 : m ≠ 0 := fun z => by rw [z, Int.mul_zero] at hm; omega
        have UG : U = G := by
          have ku : ∀ i, k * ci U i = m * ci G i := fun i => by rw [← ek, ct, eq]
          have kR : (k : Rat) ≠ 0 := by exact_mod_cast k0
          refine pm_uniq g.g.pg W.p (k := (m : Rat) / (k : Rat)) fun x => ?_
          have e1 : ev (pscale (qi U) (k : Rat)) x = ev (pscale (qi G) (m : Rat)) x := ev_ext (fun i => by
            rw [cf_psc, cf_psc, cf_qi, cf_qi]
            have : ((k * ci U i : Int) : Rat) = ((m * ci G i : Int) : Rat) := by rw [ku]
            rw [Rat.intCast_mul, Rat.intCast_mul] at this
            grind) x
          rw [ev_pscale, ev_pscale] at e1
          have e2 : (m : Rat) / (k : Rat) * (k : Rat) = m := Rat.div_mul_cancel kR
          refine mul_can kR ?_
          grind
        subst UG
        rcases no with no | no
        · rw [f1 g.g.dx] at no; cases no
        · rw [f2 g.g.dy] at no; cases no
    have lX := g.lx
    have lY := g.ly
    refine ⟨_, rfl, _, rfl, lf, l1, U, X, rfl, rU, s05 _ _ h1, W.p, px, by omega, lX, bU, g.bx, fun b1 H6 s6 t1 f1 => ?_⟩
    refine ⟨b1, rfl, ?_⟩
    cases b1 with
    | false =>
      refine iteF ?_
      refine iteF ?_
      by_cases hy : ∃ c : List Int, ∀ x, ev (qi Y) x = ev (qi U) x * ev (qi c) x
      · exact qn ((fin false true t1 f1 (fun _ => hy) (fun _ => rfl)).2 (.inl rfl)) H6 (s05.trans s6)
      · exact qn ((fin false false t1 f1 (fun z => by cases z) (fun z => absurd z hy)).2 (.inl rfl)) H6 (s05.trans s6)
    | true =>
      refine iteT ?_
      refine ⟨_, rfl, _, rfl, lf, l2, U, Y, rfl, s6 _ _ rU, (s05.trans s6) _ _ h2, W.p, py, by omega, lY, bU, g.yb, fun b2 H7 s7 t2 f2 => ?_⟩
      refine ⟨b2, rfl, ?_⟩
      have hf := fin true b2 t1 f1 t2 f2
      cases b2 with
      | false =>
        refine iteF ?_
        exact qn (hf.2 (.inr rfl)) H7 (s05.trans (s6.trans s7))
      | true =>
        refine iteT ?_
        refine ⟨_, rfl, q lf H7 (s05.trans (s6.trans s7)) ?_⟩
        rw [← hf.1 ⟨rfl, rfl⟩]
        exact s7 _ _ (s6 _ _ rU)
abbrev sCR : Stmt := topS 32
theorem scCR : FnScope ["one", "other", "bits", "found"] ["one", "other"] (defScope sCR) := ⟨rfl, rfl, rfl, by decide +kernel, rfl, by decide +kernel, by decide +kernel⟩
theorem ok_cr {f : Addr} {fd : FuncData} (F : Fun K "common_row" "common_row" sCR f fd) {PB : Addr} (hPB : mg "PRIME_BITS" = some (.ref PB)) (hPK : ∀ H, SqT K H PB (([61, 521, 1279, 2281, 4423, 9689, 19937, 44497] : List Int).map V.int)) (G_divisor_by_residues : Df P w K mg base "divisor_by_residues" 4 ["one", "other", "prime"] spDR) : FnOk P w K mg base CX0 5 f fd ["one", "other"] spCR := by
  refine F.ok scCR (fun vs H Q E h => ?_) (fun cdv A outer s H vs Q E hr h => ?_)
  · obtain ⟨l1, l2, X, Y, G, rfl, _⟩ := h
    rfl
  · obtain ⟨l1, l2, X, Y, G, rfl, h1, h2, g, q⟩ := h
    refine ⟨_, (pss_cons (ps_for PassesOwn.never rfl (pi_seq (pe_glob (v := V.ref PB) rfl hPB rfl)) (pg_name (i := 2) scCR.nd rfl (Or.inl rfl))
    (pss_cons (ps_set (i := 3) scCR.nd rfl (Or.inl rfl) (pe_call G_divisor_by_residues.ok (hr.mono (by decide)) rfl G_divisor_by_residues.m G_divisor_by_residues.kp G_divisor_by_residues.b .nil pass0 (pa_cons (pv 0) (pa_cons (pv 1) (pa_cons (pe_op op_sub (pe_op op_shlW pe_int (pv 2)) pe_int) pa_nil)))))
    (pss_one (ps_if (pt_cmpR op_notN (pv 3) pe_non (nomark _))
      (pss_one (ps_ret (pv 3)))
      pss_nil))))
  pss_no), ?_⟩
    refine ⟨PB, rfl, .inr ⟨_, hPK H, for_tup (K := K) (a := PB) (xs := ([61, 521, 1279, 2281, 4423, 9689, 19937, 44497] : List Int).map V.int) (fun i σ H' => i ≤ 4 ∧ ∃ v1 v2 : Option V, σ = [some (.ref l1), some (.ref l2), v1, v2] ∧ Same H H') ⟨by omega, none, none, rfl, Same.refl _⟩ (fun i σ H' _ _ => hPK H') ?_ (fun σ H' z => by have := z.1; simp at this)⟩⟩
    rintro i x σ H1 hi ⟨i4, v1, v2, rfl, s1⟩
    obtain ⟨b, hb, hpr, hle, hlast⟩ : ∃ b : Nat, x = .int (b : Int) ∧ Pr (2 ^ b - 1) ∧ b ≤ 4423 ∧ (b ≠ 4423 → i + 1 ≤ 4) := by
      match i, i4, hi with
      | 0, _, hi => exact ⟨61, (Option.some.inj hi).symm, pr61, by decide, fun _ => by omega⟩
      | 1, _, hi => exact ⟨521, (Option.some.inj hi).symm, pr521, by decide, fun _ => by omega⟩
      | 2, _, hi => exact ⟨1279, (Option.some.inj hi).symm, pr1279, by decide, fun _ => by omega⟩
      | 3, _, hi => exact ⟨2281, (Option.some.inj hi).symm, pr2281, by decide, fun _ => by omega⟩
      | 4, _, hi => exact ⟨4423, (Option.some.inj hi).symm, pr4423, by decide, fun z => absurd rfl z⟩
    subst hb
    have eP : (1 : Int) * 2 ^ ((b : Nat) : Int).toNat - 1 = ((2 ^ b - 1 : Nat) : Int) := by
      have := Nat.one_le_two_pow (n := b)
      rw [Int.toNat_natCast, Int.natCast_sub this, Int.one_mul, Int.natCast_pow]
      rfl
    have hb2 : 2 ^ b - 1 ≤ 2 ^ 4423 - 1 := Nat.sub_le_sub_right (Nat.pow_le_pow_right (by decide) hle) 1
    refine ⟨_, rfl, _, rfl, _, rfl, _, _, rfl, rfl, L2.shl_ok (n := 1) (by decide) (by omega), _, _, rfl, rfl, l1, l2, X, Y, G, 2 ^ b - 1, ?_, s1 _ _ h1, s1 _ _ h2, g, hpr, hb2, fun l' H2 s2 rl => ?_, fun nb H2 s2 => ?_⟩
    · dsimp only
      rw [eP]
      rfl
    · refine ⟨_, rfl, rfl, _, rfl, ?_⟩
      refine iteT ?_
      exact ⟨_, rfl, q l' H2 (s1.trans s2) rl⟩
    · refine ⟨_, rfl, rfl, _, rfl, ?_⟩
      refine iteF ?_
      exact ⟨hlast fun z => nb (by rw [z]), _, _, rfl, s1.trans s2⟩
end
end Vf
set_option maxRecDepth 100000
set_option maxHeartbeats 8000000
namespace Vf
open PySem PySem.Spec PyProof.Rows L2
theorem lz_ix {ns : List Int} {k : Nat} (h : k < ns.length) : ixN (ns.map V.int).length ((k : Nat) : Int) = some k := by
  unfold ixN
  rw [if_pos (by omega), List.length_map, if_pos (by omega)]
  rfl
/-- what the division may meet: a short divisor, or a primitive one that divides -/
def LdOk (A B : List Int) : Prop := (∀ i, (ci B i).natAbs ≤ 2 ^ 110) ∨ (Pm B ∧ ∃ c : List Int, ∀ x, ev (qi A) x = ev (qi B) x * ev (qi c) x)
structure Ld (A B q r : List Int) (s : Nat) : Prop where
  s0 : 0 < s
  sb : s ≤ 2 ^ 1430
  lr : r.length < B.length
  sr : Stp (qi r)
  e : ∀ x, (s : Rat) * ev (qi A) x = ev (qi q) x * ev (qi B) x + ev (qi r) x
  lq : q.length ≤ 13
  bq : ∀ i, (ci q i).natAbs ≤ 2 ^ 20000
def spLd : Sp := fun vs H Q _ => ∃ (l1 l2 : Addr) (A B : List Int), vs = [.ref l1, .ref l2] ∧ RI H l1 A ∧ RI H l2 B ∧ A.length ≤ 13 ∧ B.length ≤ 13 ∧ Stp (qi A) ∧ Stp (qi B) ∧ B ≠ [] ∧ (∀ i, (ci A i).natAbs ≤ 2 ^ 1200) ∧ (∀ i, (ci B i).natAbs ≤ 2 ^ 1200) ∧ LdOk A B ∧
  ∀ (t lq lr : Addr) (q r : List Int) (s : Nat) (H' : Hp), Same H H' → H' t = some (.tup [.ref lq, .ref lr, .int (s : Int)]) → RI H' lq q → RI H' lr r → Ld A B q r s → Q (.ref t) H'
theorem ci_setI {l : List Int} {i j : Nat} {x : Int} (h : i < l.length) : ci (l.set i x) j = if j = i then x else ci l j := by
  by_cases e : j = i
  · subst e
    rw [if_pos rfl]
    exact ci_get (by rw [List.getElem?_set_self h])
  · rw [if_neg e]
    unfold ci
    rw [List.getD_eq_getElem?_getD, List.getD_eq_getElem?_getD, List.getElem?_set_ne (fun z => e z.symm)]
def SmallB (B : List Int) : Prop := ∀ i, (ci B i).natAbs ≤ 2 ^ 110
structure LdI (A B q R : List Int) (s : Nat) : Prop where
  s0 : 0 < s
  sb : s ≤ 2 ^ (110 * (A.length - R.length))
  sr : Stp (qi R)
  lr : R.length ≤ A.length
  e : ∀ x, (s : Rat) * ev (qi A) x = ev (qi q) x * ev (qi B) x + ev (qi R) x
  lq : q.length = A.length + 1 - B.length
  bq : ∀ i, (ci q i).natAbs ≤ 2 ^ (1200 + 1202 * (A.length - R.length))
  br : ∀ i, (ci R i).natAbs ≤ 2 ^ (1200 + 1202 * (A.length - R.length))
  z : ∀ i, i + B.length ≤ R.length → ci q i = 0
  x1 : ¬ SmallB B → s = 1
theorem LdI.step {A B q R R' : List Int} {s : Nat} {j f g : Int} (I : LdI A B q R s) (sB : Stp (qi B)) (nB : B ≠ []) (bB : ∀ i, (ci B i).natAbs ≤ 2 ^ 1200) (ok : LdOk A B) (hl : B.length ≤ R.length) (jg : j.natAbs = Nat.gcd (ci R (R.length - 1)).natAbs (ci B (B.length - 1)).natAbs)
    (f0 : 0 < f) (ef : ci B (B.length - 1) = j * f) (eg : ci R (R.length - 1) = j * g) (W : Wl R B f g R') : LdI A B ((q.map (f * ·)).set (R.length - B.length) g) R' (s * f.toNat) ∧ R'.length < R.length := by
  have B0 := List.length_pos_iff.mpr nB
  have lr := I.lr
  have lq := I.lq
  have j0 : j ≠ 0 := fun z => by rw [z, Int.zero_mul] at ef; exact stp_top sB nB ef
  have lt : R'.length < R.length := W.short nB hl (by rw [ef, eg]; simp only [Int.mul_comm, Int.mul_left_comm])
  have hsh : R.length - B.length < (q.map (f * ·)).length := by rw [List.length_map]; omega
  have fab : f.natAbs ≤ (ci B (B.length - 1)).natAbs := by
    rw [ef, Int.natAbs_mul]
    exact Nat.le_mul_of_pos_left _ (by omega)
  have gab : g.natAbs ≤ (ci R (R.length - 1)).natAbs := by
    rw [eg, Int.natAbs_mul]
    exact Nat.le_mul_of_pos_left _ (by omega)
  have fT : ((f.toNat : Nat) : Int) = f := Int.toNat_of_nonneg (by omega)
  have fR : ((f.toNat : Nat) : Rat) = (f : Rat) := by rw [← Rat.intCast_natCast, fT]
  have cq : ∀ i, ci ((q.map (f * ·)).set (R.length - B.length) g) i = f * ci q i + (if i = R.length - B.length then g else 0) := fun i => by
    rw [ci_setI hsh, ci_scale]
    split
    · rename_i h
      rw [h, I.z _ (by omega), Int.mul_zero, Int.zero_add]
    · rw [Int.add_zero]
  have exact1 : ¬ SmallB B → f = 1 := fun ns => by
    rcases ok with y | ⟨pB, c, hc⟩
    · exact absurd y ns
    · have s1 := I.x1 ns
      obtain ⟨d, hd⟩ := row_sub c q
      have nR : R ≠ [] := fun z => by rw [z] at hl; exact absurd hl (by show ¬ B.length ≤ 0; omega)
      obtain ⟨dv, _⟩ := lead_dvd2 I.sr nR sB nB ⟨d, fun x => by
        have h3 := I.e x
        rw [s1, hc] at h3
        rw [hd]
        have : ((1 : Nat) : Rat) = 1 := rfl
        rw [this] at h3
        grind⟩
      have h4 : j.natAbs = (ci B (B.length - 1)).natAbs := by
        rw [jg]
        exact Nat.gcd_eq_right (Int.natAbs_dvd_natAbs.mpr dv)
      rw [ef, Int.natAbs_mul] at h4
      have h5 : f.natAbs = 1 := by
        have : j.natAbs * f.natAbs = j.natAbs * 1 := by omega
        exact Nat.eq_of_mul_eq_mul_left (by omega) this
      omega
  have ex : 1200 + 1202 * (A.length - R.length) + 1201 + 1 ≤ 1200 + 1202 * (A.length - R'.length) := by omega
  have pw : 2 ^ (1200 + 1202 * (A.length - R.length)) * 2 ^ 1200 + 2 ^ (1200 + 1202 * (A.length - R.length)) * 2 ^ 1200 ≤ 2 ^ (1200 + 1202 * (A.length - R'.length)) := by
    rw [← Nat.pow_add, ← Nat.mul_two, ← Nat.pow_succ]
    exact Nat.pow_le_pow_right (by decide) (by omega)
  have pw1 : 2 ^ (1200 + 1202 * (A.length - R.length)) ≤ 2 ^ (1200 + 1202 * (A.length - R.length)) * 2 ^ 1200 := Nat.le_mul_of_pos_right _ (Nat.pow_pos (by decide))
  have fb := Nat.le_trans fab (bB _)
  have gb := Nat.le_trans gab (I.br _)
  refine ⟨⟨Nat.mul_pos I.s0 (by omega), ?_, W.s, by omega, fun x => ?_, by rw [List.length_set, List.length_map]; exact lq, fun i => ?_, fun i => ?_, fun i hi => ?_, fun ns => by rw [I.x1 ns, exact1 ns]; rfl⟩, lt⟩
  · by_cases sm : SmallB B
    · have h1 : f.toNat ≤ 2 ^ 110 := by have := sm (B.length - 1); omega
      have h2 := Nat.mul_le_mul I.sb h1
      rw [← Nat.pow_add] at h2
      exact Nat.le_trans h2 (Nat.pow_le_pow_right (by decide) (by omega))
    · rw [exact1 sm, I.x1 sm]
      exact Nat.one_le_two_pow
  · have hq : ev (qi ((q.map (f * ·)).set (R.length - B.length) g)) x = (f : Rat) * ev (qi q) x + (g : Rat) * x ^ (R.length - B.length) := by
      have e1 : ev (qi ((q.map (f * ·)).set (R.length - B.length) g)) x = ev (padd (pscale (qi q) (f : Rat)) (List.replicate (R.length - B.length) (0 : Rat) ++ [(g : Rat)])) x := ev_ext (fun i => by
        rw [cf_qi, cq, cf_padd, cf_psc, cf_shift, cf_qi, Rat.intCast_add, Rat.intCast_mul]
        by_cases h : i = R.length - B.length
        · rw [if_pos h, if_pos (by omega), show i - (R.length - B.length) = 0 by omega]
          show _ = _ + (g : Rat)
          grind
        · rw [if_neg h]
          by_cases h2 : R.length - B.length ≤ i
          · rw [if_pos h2, cf_ge (by show 1 ≤ i - (R.length - B.length); omega)]
            rw [show ((0 : Int) : Rat) = 0 from rfl]
            grind
          · rw [if_neg h2, show ((0 : Int) : Rat) = 0 from rfl]
            grind) x
      rw [e1, ev_padd, ev_pscale, ev_app, ev_rep0, List.length_replicate]
      show _ + (0 + x ^ (R.length - B.length) * ((g : Rat) + x * 0)) = _
      grind
    rw [hq, W.evk, Rat.natCast_mul, fR]
    have := I.e x
    have h3 : (s : Rat) * (f : Rat) * ev (qi A) x = (f : Rat) * ((s : Rat) * ev (qi A) x) := by grind
    rw [h3, this]
    grind
  · rw [cq]
    have h1 := Int.natAbs_add_le (f * ci q i) (if i = R.length - B.length then g else 0)
    rw [Int.natAbs_mul] at h1
    have h2 := Nat.mul_le_mul fb (I.bq i)
    rw [Nat.mul_comm (2 ^ 1200)] at h2
    have h3 : (if i = R.length - B.length then g else 0).natAbs ≤ 2 ^ (1200 + 1202 * (A.length - R.length)) := by
      split
      · exact gb
      · exact Nat.zero_le _
    omega
  · rw [W.e]
    have h1 := Int.natAbs_sub_le (f * ci R i) (g * (if R.length - B.length ≤ i then ci B (i - (R.length - B.length)) else 0))
    rw [Int.natAbs_mul, Int.natAbs_mul] at h1
    have h2 := Nat.mul_le_mul fb (I.br i)
    rw [Nat.mul_comm (2 ^ 1200)] at h2
    have h3 : (if R.length - B.length ≤ i then ci B (i - (R.length - B.length)) else 0).natAbs ≤ 2 ^ 1200 := by
      split
      · exact bB _
      · exact Nat.zero_le _
    have h4 := Nat.mul_le_mul gb h3
    omega
  · rw [cq, I.z i (by omega), Int.mul_zero, if_neg (by omega)]
    rfl
section
variable {P : Program} {w : World} {K : PySem.W.Frag} {mg : Str → Option Value} {base : Heap} {CP CR CN CI : Addr}
abbrev sLd : Stmt := topS 28
theorem scLd : FnScope ["one", "other", "quotient", "rest", "scale", "shared", "factor", "number", "shift", "item"] ["one", "other"] (defScope sLd) := ⟨rfl, rfl, rfl, by decide +kernel, rfl, by decide +kernel, by decide +kernel⟩
theorem ok_ld {f : Addr} {fd : FuncData} (F : Fun K "long_division" "long_division" sLd f fd) (T : Bk mg) (hmax : mg "max" = none) (G_without_lead : Df P w K mg base "without_lead" 2 ["one", "other", "factor", "number"] spWl) : FnOk P w K mg base CX0 3 f fd ["one", "other"] spLd := by
  refine F.ok scLd (fun vs H Q E h => ?_) (fun cdv A0 outer s0 H vs Q E hr h => ?_)
  · obtain ⟨l1, l2, A, B, rfl, _⟩ := h
    rfl
  · obtain ⟨l1, l2, A, B, rfl, h1, h2, lA, lB, sA, sB, nB, bA, bB, ok, kend⟩ := h
    have B0 := List.length_pos_iff.mpr nB
    have tB := stp_top sB nB
    refine ⟨_, (pss_cons (ps_set (i := 2) scLd.nd rfl (Or.inl rfl) (pe_op op_rep (pe_lst (pa_cons pe_int pa_nil)) (pe_callB (call_max2 rfl) (by rfl) hmax (by decide +kernel) (pa_cons pe_int (pa_cons (pe_op op_add (pe_op op_sub (pe_callB call_len_seq (by rfl) T.len (by decide +kernel) (pa_cons (pv 0) pa_nil)) (pe_callB call_len_seq (by rfl) T.len (by decide +kernel) (pa_cons (pv 1) pa_nil))) pe_int) pa_nil)))))
  (pss_cons (ps_set (i := 3) scLd.nd rfl (Or.inl rfl) (pe_callTy call_list_of (by rfl) T.list (by decide +kernel) (pa_cons (pv 0) pa_nil)))
  (pss_cons (ps_set (i := 4) scLd.nd rfl (Or.inl rfl) pe_int)
  (pss_cons (ps_while PassesOwn.never (pt_cmpR op_ge (pe_callB call_len_seq (by rfl) T.len (by decide +kernel) (pa_cons (pv 3) pa_nil)) (pe_callB call_len_seq (by rfl) T.len (by decide +kernel) (pa_cons (pv 1) pa_nil)) (nomark _))
    (pss_cons (ps_set (i := 5) scLd.nd rfl (Or.inl rfl) (pe_callBfun cr_gcd (by rfl) T.gcd (pa_cons (pe_ix ix_list (pv 3) (pe_un un_neg pe_int) (fun _ _ => rfl)) (pa_cons (pe_ix ix_list (pv 1) (pe_un un_neg pe_int) (fun _ _ => rfl)) pa_nil))))
    (pss_cons (ps_if (pt_cmpR op_lt (pe_ix ix_list (pv 1) (pe_un un_neg pe_int) (fun _ _ => rfl)) pe_int (nomark _))
      (pss_one (ps_set (i := 5) scLd.nd rfl (Or.inl rfl) (pe_un un_neg (pv 5))))
      pss_nil)
    (pss_cons (ps_set (i := 6) scLd.nd rfl (Or.inr rfl) (pe_op op_fdivZ (pe_ix ix_list (pv 1) (pe_un un_neg pe_int) (fun _ _ => rfl)) (pv 5)))
    (pss_cons (ps_set (i := 7) scLd.nd rfl (Or.inl rfl) (pe_op op_fdivZ (pe_ix ix_list (pv 3) (pe_un un_neg pe_int) (fun _ _ => rfl)) (pv 5)))
    (pss_cons (ps_set (i := 8) scLd.nd rfl (Or.inl rfl) (pe_op op_sub (pe_callB call_len_seq (by rfl) T.len (by decide +kernel) (pa_cons (pv 3) pa_nil)) (pe_callB call_len_seq (by rfl) T.len (by decide +kernel) (pa_cons (pv 1) pa_nil))))
    (pss_cons (ps_setLc (i := 2) (own := [("item", 9)]) (g := (gName 9)) (tt := tYes) rfl scLd.nd rfl rfl (sw_true rfl rfl rfl (by decide +kernel)) (pi_seq (pv 2)) (blkOk_by (N := ["one", "other", "quotient", "rest", "scale", "shared", "factor", "number", "shift", "item"]) (sc := defScope sLd) (by decide +kernel)) (fun _ _ _ _ _ => pg_name (i := 9) scLd.nd rfl (Or.inl rfl)) (fun _ _ _ _ _ => pts_nil) (fun _ _ _ _ _ => (pe_op op_mulW (pv 6) (pv 9))))
    (pss_cons (ps_asg (pv 7) (pg_sub (pv 2) (pv 8) set_list))
    (pss_cons (ps_set (i := 3) scLd.nd rfl (Or.inl rfl) (pe_call G_without_lead.ok (hr.mono (by decide)) rfl G_without_lead.m G_without_lead.kp G_without_lead.b .nil pass0 (pa_cons (pv 3) (pa_cons (pv 1) (pa_cons (pv 6) (pa_cons (pv 7) pa_nil))))))
    (pss_one (ps_set (i := 4) scLd.nd rfl (Or.inl rfl) (pe_op op_mulW (pv 4) (pv 6)))))))))))))
  (pss_one (ps_ret (pe_tup (pa_cons (pv 2) (pa_cons (pv 3) (pa_cons (pv 4) pa_nil)))))))))), ?_⟩
    refine ⟨(by show 1 ≤ sizeLine; decide), fun k1 nk1 => ?_⟩
    have ek1 : upd H k1 (HO.lst [V.int 0]) k1 = some (HO.lst [V.int 0]) := upd_same
    have s1 : Same H (upd H k1 (HO.lst [V.int 0])) := same_upd nk1
    generalize upd H k1 (HO.lst [V.int 0]) = H1 at ek1 s1 ⊢
    refine ⟨_, rfl, l1, _, rfl, .inl (SqL.of (s1 _ _ h1)), _, rfl, l2, _, rfl, .inl (SqL.of (s1 _ _ h2)), _, _, rfl, rfl, _, _, rfl, rfl, _, _, rfl, ?_⟩
    rw [List.length_map, List.length_map]
    obtain ⟨k, hk⟩ : ∃ k, k = A.length + 1 - B.length := ⟨_, rfl⟩
    have em : (if (A.length : Int) - (B.length : Int) + 1 > 0 then (A.length : Int) - (B.length : Int) + 1 else 0) = ((k : Nat) : Int) := by split <;> omega
    refine ⟨k1, ((k : Nat) : Int), _, rfl, congrArg V.int em, ek1, by omega, by omega, (by rw [sizeLine_eq]; show 1 * _ ≤ _; omega), fun k2 nk2 => ?_⟩
    have er : (List.replicate ((k : Nat) : Int).toNat [V.int 0]).flatten = (List.replicate k (0 : Int)).map V.int := by
      rw [Int.toNat_natCast]
      clear hk em
      induction k with
      | zero => rfl
      | succ k ih =>
        rw [List.replicate_succ, List.flatten_cons, ih, List.replicate_succ]
        rfl
    rw [er]
    have ek2 : upd H1 k2 (HO.lst ((List.replicate k (0 : Int)).map V.int)) k2 = some (HO.lst ((List.replicate k (0 : Int)).map V.int)) := upd_same
    have s2 : Same H1 (upd H1 k2 (HO.lst ((List.replicate k (0 : Int)).map V.int))) := same_upd nk2
    have nk2H : H k2 = none := s1.free nk2
    generalize upd H1 k2 (HO.lst ((List.replicate k (0 : Int)).map V.int)) = H2 at ek2 s2 ⊢
    refine ⟨_, rfl, l1, _, rfl, .inl (SqL.of (s2 _ _ (s1 _ _ h1))), fun k3 nk3 => ?_⟩
    have ek3 : upd H2 k3 (HO.lst (A.map V.int)) k3 = some (HO.lst (A.map V.int)) := upd_same
    have s3 : Same H2 (upd H2 k3 (HO.lst (A.map V.int))) := same_upd nk3
    generalize upd H2 k3 (HO.lst (A.map V.int)) = H3 at ek3 s3 ⊢
    have s03 : Same H H3 := s1.trans (s2.trans s3)
    have I0 : LdI A B (List.replicate k (0 : Int)) A 1 := by
      have c0 : ∀ i, ci (List.replicate k (0 : Int)) i = 0 := fun i => by
        unfold ci
        rw [List.getD_eq_getElem?_getD, List.getElem?_replicate]
        split <;> rfl
      refine ⟨by decide, Nat.one_le_two_pow, sA, Nat.le_refl _, fun x => ?_, by rw [List.length_replicate, hk], fun i => by rw [c0]; exact Nat.zero_le _, fun i => by rw [Nat.sub_self]; exact bA i, fun i _ => c0 i, fun _ => rfl⟩
      have : ev (qi (List.replicate k (0 : Int))) x = 0 := by
        unfold qi
        rw [List.map_replicate]
        exact ev_rep0 x k
      rw [this]
      show (1 : Rat) * _ = _
      grind
    refine ⟨fun m σ H' => ∃ (lq lr : Addr) (q R : List Int) (s : Nat) (v5 v6 v7 v8 v9 : Option V), σ = [some (.ref l1), some (.ref l2), some (.ref lq), some (.ref lr), some (.int (s : Int)), v5, v6, v7, v8, v9] ∧ Same H H' ∧ RI H' lq q ∧ RI H' lr R ∧ LdI A B q R s ∧ H lq = none ∧ m = R.length, ⟨_, k2, k3, List.replicate k (0 : Int), A, 1, none, none, none, none, none, rfl, s03, s3 _ _ ek2, ek3, I0, nk2H, rfl⟩, ?_⟩
    rintro m σ H4 ⟨lq, lr, q, R, s, v5, v6, v7, v8, v9, rfl, s4, rq, rr, I, nlq, rfl⟩
    refine ⟨_, rfl, lr, _, rfl, .inl (SqL.of rr), _, rfl, l2, _, rfl, .inl (SqL.of (s4 _ _ h2)), _, _, rfl, rfl, ?_⟩
    rw [List.length_map, List.length_map]
    by_cases hl : B.length ≤ R.length
    · refine ⟨true, congrArg V.bl (decide_eq_true (by omega)), ?_⟩
      refine iteT ?_
      have nR : R ≠ [] := fun z => by rw [z] at hl; exact absurd hl (by show ¬ B.length ≤ 0; omega)
      have R0 := List.length_pos_iff.mpr nR
      refine ⟨fun σ' H' => ∃ (lq lr : Addr) (q R' : List Int) (s : Nat) (v5 v6 v7 v8 v9 : Option V), σ' = [some (.ref l1), some (.ref l2), some (.ref lq), some (.ref lr), some (.int (s : Int)), v5, v6, v7, v8, v9] ∧ Same H H' ∧ RI H' lq q ∧ RI H' lr R' ∧ LdI A B q R' s ∧ H lq = none ∧ R'.length < R.length, fun σ' H' ⟨lq, lr, q, R', s, v5, v6, v7, v8, v9, e1, e2, e3, e4, e5, e6, e7⟩ => ⟨_, e7, lq, lr, q, R', s, v5, v6, v7, v8, v9, e1, e2, e3, e4, e5, e6, rfl⟩, ?_⟩
      have h24 := s4 _ _ h2
      refine ⟨_, rfl, _, rfl, lr, _, _, _, rfl, rfl, SqL.of rr, atI_top R0, _, rfl, _, rfl, l2, _, _, _, rfl, rfl, SqL.of h24, atI_top B0, _, _, rfl, ?_⟩
      obtain ⟨M, eM⟩ : ∃ M : Nat, M = Nat.gcd (ci R (R.length - 1)).natAbs (ci B (B.length - 1)).natAbs := ⟨_, rfl⟩
      rw [← eM]
      have M0 : 0 < M := by rw [eM]; exact Nat.gcd_pos_of_pos_right _ (by omega)
      dsimp only [gName]
      refine seq_step (fun σ' H' => ∃ j : Int, σ' = [some (.ref l1), some (.ref l2), some (.ref lq), some (.ref lr), some (.int (s : Int)), some (.int j), v6, v7, v8, v9] ∧ H' = H4 ∧ j.natAbs = M ∧ (0 < j ↔ 0 < ci B (B.length - 1))) (fun kk hkk => ?_) ?_
      · refine ⟨_, rfl, _, rfl, l2, _, _, _, rfl, rfl, SqL.of h24, atI_top B0, _, _, rfl, rfl, ?_⟩
        show ∃ k, V.bl (decide (ci B (B.length - 1) < 0)) = V.bl k ∧ _
        by_cases z : ci B (B.length - 1) < 0
        · refine ⟨true, congrArg V.bl (decide_eq_true z), ?_⟩
          refine iteT ?_
          refine ⟨_, rfl, _, rfl, hkk _ _ ⟨-(M : Int), rfl, rfl, by omega, by omega⟩⟩
        · refine ⟨false, congrArg V.bl (decide_eq_false z), ?_⟩
          refine iteF ?_
          exact hkk _ _ ⟨(M : Int), rfl, rfl, by omega, by omega⟩
      · rintro σ' H' ⟨j, rfl, e9, jM, js⟩
        rw [e9]
        clear e9
        have j0 : j ≠ 0 := by omega
        have jd : j.natAbs.log2 < 9000 := by
          have h5 : M ≤ (ci B (B.length - 1)).natAbs := Nat.le_of_dvd (by omega) (by rw [eM]; exact Nat.gcd_dvd_right _ _)
          exact Nat.lt_trans (PySem.Flt.log2_lt_of (show 0 < 1201 by decide) (show j.natAbs < 2 ^ 1201 by rw [jM]; exact Nat.lt_of_le_of_lt (Nat.le_trans h5 (bB _)) (Nat.pow_lt_pow_right (by decide) (by decide)))) (by decide)
        obtain ⟨f, ef⟩ : j ∣ ci B (B.length - 1) := Int.natAbs_dvd_natAbs.mp (by rw [jM, eM]; exact Nat.gcd_dvd_right _ _)
        obtain ⟨g, eg⟩ : j ∣ ci R (R.length - 1) := Int.natAbs_dvd_natAbs.mp (by rw [jM, eM]; exact Nat.gcd_dvd_left _ _)
        have f0 : 0 < f := by
          rcases Int.lt_trichotomy 0 f with z | z | z
          · exact z
          · rw [← z, Int.mul_zero] at ef
            exact absurd ef tB
          · exfalso
            rcases Int.lt_or_lt_of_ne j0 with y | y
            · have h5 := Int.mul_pos_of_neg_of_neg y z
              have := js.mpr (ef.symm ▸ h5)
              omega
            · have h5 := Int.mul_neg_of_pos_of_neg y z
              have h6 := js.mp y
              have h7 : ci B (B.length - 1) < 0 := ef.symm ▸ h5
              omega
        have ff : (ci B (B.length - 1)).fdiv j = f := fdiv_of j0 ef
        have gg : (ci R (R.length - 1)).fdiv j = g := fdiv_of j0 eg
        have fab : f.natAbs ≤ 2 ^ 1200 := by
          have h5 := bB (B.length - 1)
          rw [ef, Int.natAbs_mul] at h5
          have := Nat.le_mul_of_pos_left f.natAbs (show 0 < j.natAbs by omega)
          omega
        have lR := I.lr
        have small : ∀ {z : Int} {n : Nat}, z.natAbs ≤ 2 ^ n → z.natAbs < 2 ^ (n + 1) := fun {z n} h => Nat.lt_of_le_of_lt h (Nat.pow_lt_pow_right (by decide) (by omega))
        have wide : ∀ {x : Int}, x.natAbs ≤ 2 ^ (1200 + 1202 * (A.length - R.length)) → x.natAbs < 2 ^ 20000 := fun {x} h => Nat.lt_of_le_of_lt h (Nat.pow_lt_pow_right (by decide) (by omega))
        have gab : g.natAbs < 2 ^ 20000 := wide (by
          have h5 := I.br (R.length - 1)
          rw [eg, Int.natAbs_mul] at h5
          have := Nat.le_mul_of_pos_left g.natAbs (show 0 < j.natAbs by omega)
          omega)
        refine ⟨_, rfl, _, rfl, l2, _, _, _, rfl, rfl, SqL.of h24, atI_top B0, _, rfl, _, _, rfl, rfl, ⟨j0, jd⟩, ?_⟩
        dsimp only [gName]
        rw [ff]
        refine ⟨_, rfl, _, rfl, lr, _, _, _, rfl, rfl, SqL.of rr, atI_top R0, _, rfl, _, _, rfl, rfl, ⟨j0, jd⟩, ?_⟩
        dsimp only [gName]
        rw [gg]
        refine ⟨_, rfl, lr, _, rfl, .inl (SqL.of rr), _, rfl, l2, _, rfl, .inl (SqL.of h24), _, _, rfl, rfl, ?_⟩
        rw [List.length_map, List.length_map]
        have esh : ((R.length : Nat) : Int) - ((B.length : Nat) : Int) = ((R.length - B.length : Nat) : Int) := by omega
        dsimp only [gName]
        rw [esh]
        -- the quotient by the factor
        refine ⟨_, rfl, lq, rfl, lc_seq (xs := q.map V.int) (.inl (SqL.of rq)) (fun D i H' => Same H4 H' ∧ H' D = some (.lst ((tabI i fun i => f * ci q i).map V.int))) ?_ ?_ ?_ ?_⟩
        · intro D hD
          exact ⟨same_upd hD, upd_same⟩
        · intro D i H2 hD ⟨s2, _⟩
          exact ⟨same_sqL s2, same_sqT s2⟩
        · intro D i x H' hD hi ⟨ss, eD⟩
          have hi' : i < q.length := by
            have := (List.getElem?_eq_some_iff.mp hi).1
            rw [List.length_map] at this
            exact this
          have lq13 := I.lq
          rw [List.getElem?_map, ci_lt hi'] at hi
          cases hi
          refine ⟨rfl, ?_⟩
          refine ⟨_, rfl, _, rfl, _, _, rfl, rfl, wide_mul (a := 1201) (b := 20000) (small fab) (wide (I.bq i)) (by decide) (by decide) (by decide), ?_⟩
          refine ⟨_, eD, (by rw [List.length_map, tabI_len, sizeLine_eq]; omega), fun b o e => ?_, ?_⟩
          · rw [upd_ne (ne_of_none e hD)]
            exact ss _ _ e
          · rw [upd_same, tabI_snoc, List.map_append]
            rfl
        intro D H5 hD ⟨s5, eD⟩
        rw [List.length_map] at eD
        have nDH : H D = none := s4.free hD
        have etab : tabI q.length (fun i => f * ci q i) = q.map (f * ·) := ci_ext (by rw [tabI_len, List.length_map]) fun i => by
          rw [ci_tab, ci_scale]
          split
          · rfl
          · rw [ci_ge (by omega), Int.mul_zero]
        rw [etab] at eD
        have lsh : R.length - B.length < (q.map (f * ·)).length := by rw [List.length_map, I.lq]; omega
        refine ⟨_, rfl, _, rfl, _, rfl, D, _, _, R.length - B.length, rfl, rfl, eD, lz_ix lsh, ?_⟩
        have eS : (((q.map (f * ·)).map V.int).set (R.length - B.length) (V.int g)) = ((q.map (f * ·)).set (R.length - B.length) g).map V.int := List.map_set.symm
        rw [eS]
        have eD6 : upd H5 D (.lst (((q.map (f * ·)).set (R.length - B.length) g).map V.int)) D = some (.lst (((q.map (f * ·)).set (R.length - B.length) g).map V.int)) := upd_same
        have s6 : ∀ b o, H4 b = some o → upd H5 D (.lst (((q.map (f * ·)).set (R.length - B.length) g).map V.int)) b = some o := fun b o e => by
          rw [upd_ne (ne_of_none e hD)]
          exact s5 _ _ e
        generalize upd H5 D (.lst (((q.map (f * ·)).set (R.length - B.length) g).map V.int)) = H6 at eD6 s6 ⊢
        have s46 : Same H4 H6 := fun b o e => s6 b o e
        refine ⟨_, rfl, _, rfl, _, rfl, _, rfl, lr, l2, R, B, f, g, rfl, s46 _ _ rr, s46 _ _ h24, by omega, hl, fun i => wide_mul (a := 1201) (b := 20000) (small fab) (wide (I.br i)) (by decide) (by decide) (by decide), fun i => wide_mul (a := 20000) (b := 1201) gab (small (bB i)) (by decide) (by decide) (by decide), fun l7 R' H7 s7 r7 W => ?_⟩
        obtain ⟨I2, lt⟩ := I.step sB nB bB ok hl (by rw [jM, eM]) f0 ef eg W
        have sb1430 : ((s : Nat) : Int).natAbs < 2 ^ 1431 := by
          rw [Int.natAbs_natCast]
          exact Nat.lt_of_le_of_lt (Nat.le_trans I.sb (Nat.pow_le_pow_right (by decide) (show 110 * (A.length - R.length) ≤ 1430 by omega))) (Nat.pow_lt_pow_right (by decide) (by decide))
        refine ⟨_, rfl, _, rfl, _, _, rfl, rfl, wide_mul (a := 1431) (b := 1201) sb1430 (small fab) (by decide) (by decide) (by decide), ?_⟩
        refine ⟨D, l7, _, R', s * f.toNat, some (.int j), some (.int f), some (.int g), some (.int ((R.length - B.length : Nat) : Int)), v9, ?_, s4.trans (s46.trans s7), s7 _ _ eD6, r7, I2, nDH, lt⟩
        rw [Int.natCast_mul, Int.toNat_of_nonneg (show 0 ≤ f by omega)]
        rfl
    · refine ⟨false, congrArg V.bl (decide_eq_false (by omega)), ?_⟩
      refine iteF ?_
      refine ⟨_, rfl, _, rfl, _, rfl, (by show 3 ≤ sizeLine; decide), fun t nt => ?_⟩
      have lr' := I.lr
      have st := same_upd (o := HO.tup [V.ref lq, V.ref lr, V.int (s : Int)]) nt
      refine kend t lq lr q R s _ (s4.trans st) upd_same (st _ _ rq) (st _ _ rr) ⟨I.s0, Nat.le_trans I.sb (Nat.pow_le_pow_right (by decide) (by omega)), by omega, I.sr, I.e, by rw [I.lq]; omega, fun i => Nat.le_trans (I.bq i) (Nat.pow_le_pow_right (by decide) (by omega))⟩
end
end Vf
set_option maxRecDepth 100000
set_option maxHeartbeats 8000000
namespace Vf
open PySem PySem.Spec PyProof.Rows L2
/-- the row by its lead -/
def mon (A : List Rat) : List Rat := stripQ (pscale A (1 / cf A (A.length - 1)))
structure Fb (A : List Rat) (M N : Nat) : Prop where
  s : Stp A
  l : A.length ≤ 13
  f : ∀ i, Fr M N (cf A i)
  m0 : 0 < M
  m : M ≤ 2 ^ 1300
  n : N ≤ 2 ^ 2600
theorem b1300 : 2 ^ 1300 < 2 ^ 8700 ∧ 2 ^ 2600 < 2 ^ 8700 ∧ 2 ^ 2600 < 2 ^ 8800 ∧ 2 ^ 1300 * 2 ^ 1430 < 2 ^ big := by
  refine ⟨Nat.pow_lt_pow_right (by decide) (by decide), Nat.pow_lt_pow_right (by decide) (by decide), Nat.pow_lt_pow_right (by decide) (by decide), ?_⟩
  rw [← Nat.pow_add]
  exact Nat.pow_lt_pow_right (by decide) (by decide)
def spWR (K : PySem.W.Frag) (CP : Addr) : Sp := fun vs H Q _ => ∃ (a : Addr) (A : List Rat) (M N : Nat), vs = [.ref a] ∧ PolyQ K CP H a A ∧ Fb A M N ∧ A ≠ [] ∧
  ∀ (l : Addr) (T : List Int) (k : Rat) (H' : Hp), Same H H' → RI H' l T → Pm T → T.length = A.length → k ≠ 0 → (∀ x, ev (qi T) x = k * ev A x) → (∀ i, (ci T i).natAbs ≤ N) → Q (.ref l) H'
def spPlainOf (K : PySem.W.Frag) (CP : Addr) : Sp := fun vs H Q _ => ∃ (a : Addr) (A : List Rat) (M N : Nat), vs = [.ref a] ∧ PolyQ K CP H a A ∧ Fb A M N ∧ ∀ (x : Addr) (H' : Hp), Same H H' → PolyQ K CP H' x (mon A) → Q (.ref x) H'
/-- the divisor of two polynomials, as it is told -/
structure Cm (A B D : List Rat) : Prop where
  a0 : A = [] → D = mon B
  b0 : B = [] → D = mon A
  g : A ≠ [] → B ≠ [] → ∃ (X Y G : List Int) (k1 k2 : Rat), Gr X Y G ∧ k1 ≠ 0 ∧ k2 ≠ 0 ∧ (∀ x, ev (qi X) x = k1 * ev A x) ∧ (∀ x, ev (qi Y) x = k2 * ev B x) ∧ D = mon (qi G)
def spCommonP (K : PySem.W.Frag) (CP : Addr) : Sp := fun vs H Q _ => ∃ (a b : Addr) (A B D : List Rat) (M N M' N' : Nat), vs = [.ref a, .ref b] ∧ PolyQ K CP H a A ∧ PolyQ K CP H b B ∧ Fb A M N ∧ Fb B M' N' ∧ Cm A B D ∧ ∀ (x : Addr) (H' : Hp), Same H H' → PolyQ K CP H' x D → Q (.ref x) H'
/-- the quotient and the rest -/
structure Qr (A B Qq R : List Rat) : Prop where
  sq : Stp Qq
  sr : Stp R
  lr : R.length < B.length
  e : ∀ x, ev A x = ev Qq x * ev B x + ev R x
/-- what may be divided by what -/
def DvOk (A B : List Rat) (M' N' : Nat) : Prop := N' ≤ 2 ^ 110 ∨ ∃ G : List Int, Pm G ∧ (M' : Int) = ci G (G.length - 1) ∧ (∀ i, cf B i * (M' : Rat) = ((ci G i : Int) : Rat)) ∧ ∃ c : List Rat, ∀ x, ev A x = ev B x * ev c x
def spDivd (K : PySem.W.Frag) (CP CN : Addr) : Sp := fun vs H Q E => ∃ (a b : Addr) (A B : List Rat) (M N M' N' : Nat), vs = [.ref a, .ref b] ∧ PolyQ K CP H a A ∧ PolyQ K CP H b B ∧ Fb A M N ∧ Fb B M' N' ∧ N ≤ 2 ^ 1200 ∧ N' ≤ 2 ^ 1200 ∧ (B = [] → RaisesN CN H (.str "divisor") (.int 0) E) ∧
  (B ≠ [] → DvOk A B M' N' ∧ ∀ (t x y : Addr) (Qq R : List Rat) (H' : Hp), Same H H' → H' t = some (.tup [.ref x, .ref y]) → PolyQ K CP H' x Qq → PolyQ K CP H' y R → Qr A B Qq R → Q (.ref t) H')
/-- the row over its lead -/
theorem over_lead {T : List Int} (h : Pm T) (i : Nat) : cf (pscale (qi T) (1 / cf (qi T) ((qi T).length - 1))) i * ((ci T (T.length - 1) : Int) : Rat) = ((ci T i : Int) : Rat) := by
  rw [cf_psc, cf_qi, cf_qi, qi_len]
  have t0 : ((ci T (T.length - 1) : Int) : Rat) ≠ 0 := by
    have : ci T (T.length - 1) ≠ 0 := by have := h.tp; omega
    exact_mod_cast this
  have := Rat.div_mul_cancel (a := 1) t0
  generalize ((ci T (T.length - 1) : Int) : Rat) = y at *
  have e : ((ci T i : Int) : Rat) * (1 / y) * y = ((ci T i : Int) : Rat) * (1 / y * y) := by grind
  rw [e, this, Rat.mul_one]
theorem mon_scale {A B : List Rat} (hA : Stp A) (hB : Stp B) {k : Rat} (k0 : k ≠ 0) (h : ∀ x, ev B x = k * ev A x) : mon B = mon A := by
  have c : ∀ i, cf B i = cf A i * k := fun i => by
    have := cf_of (A := B) (B := pscale A k) (fun x => by rw [ev_pscale, h]; grind) i
    rw [this, cf_psc]
  have ki : k * (1 / k) = 1 := by rw [Rat.div_def, Rat.one_mul]; exact Rat.mul_inv_cancel k k0
  have l1 := stp_len hB (b := pscale A k) fun i => by rw [cf_psc, c]
  have l2 := stp_len hA (b := pscale B (1 / k)) fun i => by rw [cf_psc, c]; grind
  rw [psc_len] at l1 l2
  have l : A.length = B.length := by omega
  unfold mon
  refine stripQ_ext fun i => ?_
  rw [cf_psc, cf_psc, c, c, ← l]
  by_cases hz : A = []
  · rw [hz, cf_nil]; grind
  · have t0 := ne_last hA hz
    generalize cf A (A.length - 1) = y at *
    have e1 : y * (1 / y) = 1 := by rw [Rat.div_def, Rat.one_mul]; exact Rat.mul_inv_cancel y t0
    have yk : y * k ≠ 0 := fun z => (Rat.mul_eq_zero.mp z).elim t0 k0
    have e2 : y * k * (1 / (y * k)) = 1 := by rw [Rat.div_def, Rat.one_mul]; exact Rat.mul_inv_cancel _ yk
    refine mul_can yk ?_
    grind
section
variable {P : Program} {w : World} {K : PySem.W.Frag} {mg : Str → Option Value} {base : Heap} {CP CR CN CI : Addr}
abbrev sWR : Stmt := topS 48
theorem scWR : FnScope ["poly"] ["poly"] (defScope sWR) := ⟨rfl, rfl, rfl, by decide +kernel, rfl, by decide +kernel, by decide +kernel⟩
theorem ok_wr {f : Addr} {fd : FuncData} (F : Fun K "whole_row" "whole_row" sWR f fd) (C : PoC K mg CP) (G_primitive_row : Df P w K mg base "primitive_row" 1 ["row"] spPrim) (G_over_one_bottom : Df P w K mg base "over_one_bottom" 1 ["numbers"] (spOver2 K)) : FnOk P w K mg base CX0 2 f fd ["poly"] (spWR K CP) := by
  refine F.ok scWR (fun vs H Q E h => ?_) (fun cdv A0 outer s H vs Q E hr h => ?_)
  · obtain ⟨a, A, M, N, rfl, _⟩ := h
    rfl
  · obtain ⟨a, A, M, N, rfl, ⟨dx, t, as, h1, h2, h3⟩, fb, ne, q⟩ := h
    obtain ⟨B1, B2, B3, B4⟩ := b1300
    have lA := fb.l
    have lA0 := List.length_pos_iff.mpr ne
    refine ⟨_, (pss_one (ps_ret (pe_call G_primitive_row.ok (hr.mono (by decide)) rfl G_primitive_row.m G_primitive_row.kp G_primitive_row.b .nil pass0 (pa_cons (pe_ix (r := rIxT K) ix_tup (pe_call G_over_one_bottom.ok (hr.mono (by decide)) rfl G_over_one_bottom.m G_over_one_bottom.kp G_over_one_bottom.b .nil pass0 (pa_cons (pe_fld (pv 0) rfl) pa_nil)) pe_int (fun _ _ => rfl)) pa_nil)))), ?_⟩
    refine ⟨_, rfl, a, CP, dx, _, .ref t, rfl, h1, C.cl, C.nf, (by kernel_rfl), t, A, M, N, rfl, RS.ofT (SqT.of h2) h3, by omega, fb.f, fb.m0, Nat.lt_of_le_of_lt fb.m B1, Nat.lt_of_le_of_lt fb.n B2, fun t1 l1 b ns H1 s1 e1 r1 b0 bM ln hc bn => ?_⟩
    refine ⟨t1, _, _, .ref l1, rfl, rfl, SqT.of e1, at_of (j := 0) rfl rfl, ?_⟩
    have bR : (b : Rat) ≠ 0 := by
      have : b ≠ 0 := by omega
      exact_mod_cast this
    refine ⟨l1, ns, rfl, r1, (fun z => by rw [z] at ln; exact absurd ln (by show 0 ≠ A.length; omega)), by omega, fun z => ?_, fun i => Nat.lt_of_le_of_lt (Nat.le_trans (bn i) fb.n) B3, fun l' T H2 s2 rT W => ?_⟩
    · have h := hc (A.length - 1)
      rw [← ln, z, ln] at h
      rcases Rat.mul_eq_zero.mp h with y | y
      · exact ne_last fb.s ne y
      · exact bR y
    · obtain ⟨k, k0, ek⟩ := W.e
      have kR : (k : Rat) ≠ 0 := by exact_mod_cast k0
      have en : ∀ x, (k : Rat) * ev (qi T) x = (b : Rat) * ev A x := fun x => by
        have e1 : ev (pscale (qi T) (k : Rat)) x = ev (pscale A (b : Rat)) x := ev_ext (fun i => by
          rw [cf_psc, cf_psc, cf_qi, hc, ek, Rat.intCast_mul]
          grind) x
        rw [ev_pscale, ev_pscale] at e1
        grind
      have e2 : (b : Rat) / (k : Rat) * (k : Rat) = b := Rat.div_mul_cancel kR
      refine q l' T ((b : Rat) / (k : Rat)) H2 (s1.trans s2) rT W.p (by rw [W.l, ln]) (fun z => ?_) (fun x => ?_) fun i => ?_
      · rw [z, Rat.zero_mul] at e2
        exact bR e2.symm
      · refine mul_can kR ?_
        rw [en]
        grind
      · have h5 := bn i
        rw [ek, Int.natAbs_mul] at h5
        have := Nat.le_mul_of_pos_left (ci T i).natAbs (show 0 < k.natAbs by omega)
        omega
abbrev sPlainOf : Stmt := topS 49
theorem scPlainOf : FnScope ["poly", "row"] ["poly"] (defScope sPlainOf) := ⟨rfl, rfl, rfl, by decide +kernel, rfl, by decide +kernel, by decide +kernel⟩
theorem ok_plof {f : Addr} {fd : FuncData} (F : Fun K "plain_of" "plain_of" sPlainOf f fd) (T : Bk mg) (C : PoC K mg CP) (G_whole_row : Df P w K mg base "whole_row" 2 ["poly"] (spWR K CP)) (G_poly_over : Dx P w K mg base "poly_over" 7 ["row", "bottom"] (spPOv K CP)) : FnOk P w K mg base (L2.CX P w) 8 f fd ["poly"] (spPlainOf K CP) := by
  refine F.okX scPlainOf (fun vs H Q E h => ?_) (fun cdv A0 outer s H vs Q E hr h => ?_)
  · obtain ⟨a, A, M, N, rfl, _⟩ := h
    rfl
  · obtain ⟨a, A, M, N, rfl, pa, fb, q⟩ := h
    have pa' := pa
    obtain ⟨dx, t, as, h1, h2, h3⟩ := pa'
    obtain ⟨B1, B2, B3, B4⟩ := b1300
    refine ⟨_, (pss_cons (ps_if (pt_not (pt_truth (pe_fld (pv 0) rfl) (by intro _; rfl)))
    (pss_one (ps_ret (pv 0)))
    pss_nil)
  (pss_cons (ps_set (i := 1) scPlainOf.nd rfl (Or.inl rfl) (pe_call G_whole_row.ok (hr.mono (by decide)) rfl G_whole_row.m G_whole_row.kp G_whole_row.b .nil pass0 (pa_cons (pv 0) pa_nil)))
  (pss_one (ps_ret (pe_call G_poly_over.ok (hr.mono (by decide)) rfl G_poly_over.m G_poly_over.kp G_poly_over.b .nil passL (pa_cons (pv 1) (pa_cons (pe_ix ix_list (pv 1) (pe_un un_neg pe_int) (fun _ _ => rfl)) pa_nil))))))), ?_⟩
    have nas := h3.lenQ
    have lA := fb.l
    by_cases hA : A = []
    · have eas : as = [] := List.length_eq_zero_iff.mp (by rw [nas, hA]; rfl)
      refine ⟨_, rfl, a, CP, dx, _, .ref t, rfl, h1, C.cl, C.nf, (by kernel_rfl), false, .inr (.inl ⟨_, SqT.of h2, by rw [eas]; rfl⟩), ?_⟩
      refine iteT ?_
      refine ⟨_, rfl, q a H (Same.refl _) ?_⟩
      rw [hA] at pa ⊢
      exact pa
    · have nas' : as ≠ [] := fun z => hA (List.length_eq_zero_iff.mp (by rw [← nas, z]; rfl))
      refine ⟨_, rfl, a, CP, dx, _, .ref t, rfl, h1, C.cl, C.nf, (by kernel_rfl), true, .inr (.inl ⟨_, SqT.of h2, by simpa using nas'⟩), ?_⟩
      refine iteF ?_
      dsimp only [tNext]
      refine ⟨_, rfl, a, A, M, N, rfl, pa, fb, hA, fun l T k H1 s1 rT pT lT k0 ek bT => ?_⟩
      have T0 := List.length_pos_iff.mpr pT.ne
      refine ⟨_, rfl, _, rfl, _, rfl, l, _, _, _, rfl, rfl, SqL.of rT, atI_top T0, ?_⟩
      refine ⟨l, T, _, pscale (qi T) (1 / cf (qi T) ((qi T).length - 1)), rfl, rT, pT.tp, Nat.lt_of_le_of_lt (Nat.le_trans (bT _) fb.n) (Nat.pow_lt_pow_right (by decide) (by decide)), by omega, by rw [psc_len, qi_len], over_lead pT, fun x H2 s2 px => ?_⟩
      refine q x H2 (s1.trans s2) ?_
      rw [← mon_scale fb.s pT.stp k0 ek]
      exact px
abbrev sCommonP : Stmt := topS 51
theorem scCommonP : FnScope ["one", "other", "row"] ["one", "other"] (defScope sCommonP) := ⟨rfl, rfl, rfl, by decide +kernel, rfl, by decide +kernel, by decide +kernel⟩
theorem ok_comp {f : Addr} {fd : FuncData} (F : Fun K "common" "common" sCommonP f fd) (T : Bk mg) (C : PoC K mg CP) (G_plain_of : Dx P w K mg base "plain_of" 8 ["poly"] (spPlainOf K CP)) (G_whole_row : Df P w K mg base "whole_row" 2 ["poly"] (spWR K CP)) (G_common_row : Df P w K mg base "common_row" 5 ["one", "other"] spCR) (G_poly_over : Dx P w K mg base "poly_over" 7 ["row", "bottom"] (spPOv K CP)) : FnOk P w K mg base (L2.CX P w) 9 f fd ["one", "other"] (spCommonP K CP) := by
  refine F.okX scCommonP (fun vs H Q E h => ?_) (fun cdv A0 outer s H vs Q E hr h => ?_)
  · obtain ⟨a, b, A, B, D, M, N, M', N', rfl, _⟩ := h
    rfl
  · obtain ⟨a, b, A, B, D, M, N, M', N', rfl, pa, pb, fa, fb, cm, q⟩ := h
    have pa' := pa
    have pb' := pb
    obtain ⟨dx, t, as, h1, h2, h3⟩ := pa'
    obtain ⟨dy, u, bs, g1, g2, g3⟩ := pb'
    refine ⟨_, (pss_cons (ps_if (pt_not (pt_truth (pe_fld (pv 0) rfl) (by intro _; rfl)))
    (pss_one (ps_ret (pe_call G_plain_of.ok (hr.mono (by decide)) rfl G_plain_of.m G_plain_of.kp G_plain_of.b .nil passL (pa_cons (pv 1) pa_nil))))
    pss_nil)
  (pss_cons (ps_if (pt_not (pt_truth (pe_fld (pv 1) rfl) (by intro _; rfl)))
    (pss_one (ps_ret (pe_call G_plain_of.ok (hr.mono (by decide)) rfl G_plain_of.m G_plain_of.kp G_plain_of.b .nil passL (pa_cons (pv 0) pa_nil))))
    pss_nil)
  (pss_cons (ps_set (i := 2) scCommonP.nd rfl (Or.inl rfl) (pe_call G_common_row.ok (hr.mono (by decide)) rfl G_common_row.m G_common_row.kp G_common_row.b .nil pass0 (pa_cons (pe_call G_whole_row.ok (hr.mono (by decide)) rfl G_whole_row.m G_whole_row.kp G_whole_row.b .nil pass0 (pa_cons (pv 0) pa_nil)) (pa_cons (pe_call G_whole_row.ok (hr.mono (by decide)) rfl G_whole_row.m G_whole_row.kp G_whole_row.b .nil pass0 (pa_cons (pv 1) pa_nil)) pa_nil))))
  (pss_one (ps_ret (pe_call G_poly_over.ok (hr.mono (by decide)) rfl G_poly_over.m G_poly_over.kp G_poly_over.b .nil passL (pa_cons (pv 2) (pa_cons (pe_ix ix_list (pv 2) (pe_un un_neg pe_int) (fun _ _ => rfl)) pa_nil)))))))), ?_⟩
    have nas := h3.lenQ
    have nbs := g3.lenQ
    have lA := fa.l
    have lB := fb.l
    by_cases hA : A = []
    · have eas : as = [] := List.length_eq_zero_iff.mp (by rw [nas, hA]; rfl)
      refine ⟨_, rfl, a, CP, dx, _, .ref t, rfl, h1, C.cl, C.nf, (by kernel_rfl), false, .inr (.inl ⟨_, SqT.of h2, by rw [eas]; rfl⟩), ?_⟩
      refine iteT ?_
      refine ⟨_, rfl, b, B, M', N', rfl, pb, fb, fun x H1 s1 px => q x H1 s1 ?_⟩
      rw [cm.a0 hA]
      exact px
    have nas' : as ≠ [] := fun z => hA (List.length_eq_zero_iff.mp (by rw [← nas, z]; rfl))
    refine ⟨_, rfl, a, CP, dx, _, .ref t, rfl, h1, C.cl, C.nf, (by kernel_rfl), true, .inr (.inl ⟨_, SqT.of h2, by simpa using nas'⟩), ?_⟩
    refine iteF ?_
    dsimp only [tNext]
    by_cases hB : B = []
    · have ebs : bs = [] := List.length_eq_zero_iff.mp (by rw [nbs, hB]; rfl)
      refine ⟨_, rfl, b, CP, dy, _, .ref u, rfl, g1, C.cl, C.nf, (by kernel_rfl), false, .inr (.inl ⟨_, SqT.of g2, by rw [ebs]; rfl⟩), ?_⟩
      refine iteT ?_
      refine ⟨_, rfl, a, A, M, N, rfl, pa, fa, fun x H1 s1 px => q x H1 s1 ?_⟩
      rw [cm.b0 hB]
      exact px
    have nbs' : bs ≠ [] := fun z => hB (List.length_eq_zero_iff.mp (by rw [← nbs, z]; rfl))
    refine ⟨_, rfl, b, CP, dy, _, .ref u, rfl, g1, C.cl, C.nf, (by kernel_rfl), true, .inr (.inl ⟨_, SqT.of g2, by simpa using nbs'⟩), ?_⟩
    refine iteF ?_
    dsimp only [tNext]
    obtain ⟨X, Y, G, k1, k2, gr, n1, n2, e1, e2, eD⟩ := cm.g hA hB
    refine ⟨_, rfl, a, A, M, N, rfl, pa, fa, hA, fun l1 T1 j1 H1 s1 r1 pT1 lT1 jn1 ej1 bT1 => ?_⟩
    refine ⟨_, rfl, b, B, M', N', rfl, pb.same s1, fb, hB, fun l2 T2 j2 H2 s2 r2 pT2 lT2 jn2 ej2 bT2 => ?_⟩
    have same1 : ∀ {T X : List Int} {A : List Rat} {j k : Rat}, Pm T → Pm X → k ≠ 0 → (∀ x, ev (qi T) x = j * ev A x) → (∀ x, ev (qi X) x = k * ev A x) → T = X := fun {T X A j k} pT pX k0 eT eX => by
      have ki : k * (1 / k) = 1 := by rw [Rat.div_def, Rat.one_mul]; exact Rat.mul_inv_cancel k k0
      refine pm_uniq pX pT (k := j * (1 / k)) fun x => ?_
      rw [eT, eX]
      grind
    have t1 := same1 pT1 gr.g.px n1 ej1 e1
    have t2 := same1 pT2 gr.g.py n2 ej2 e2
    subst t1
    subst t2
    refine ⟨l1, l2, T1, T2, G, rfl, s2 _ _ r1, r2, gr, fun l3 H3 s3 r3 => ?_⟩
    have pG := gr.g.pg
    have G0 := List.length_pos_iff.mpr pG.ne
    have lG := (lead_dvd gr.g.px pG gr.g.dx).2
    refine ⟨_, rfl, _, rfl, _, rfl, l3, _, _, _, rfl, rfl, SqL.of r3, atI_top G0, ?_⟩
    refine ⟨l3, G, _, pscale (qi G) (1 / cf (qi G) ((qi G).length - 1)), rfl, r3, pG.tp, Nat.lt_of_le_of_lt (gr.bg _) (Nat.pow_lt_pow_right (by decide) (by decide)), by omega, by rw [psc_len, qi_len], over_lead pG, fun x H4 s4 px => ?_⟩
    refine q x H4 (s1.trans (s2.trans (s3.trans s4))) ?_
    rw [eD]
    exact px
abbrev sDivd : Stmt := topS 50
theorem scDivd : FnScope ["one", "other", "row", "bottom", "other_row", "other_bottom", "quotient", "rest", "scale", "below", "number"] ["one", "other"] (defScope sDivd) := ⟨rfl, rfl, rfl, by decide +kernel, rfl, by decide +kernel, by decide +kernel⟩
theorem ok_divd {f : Addr} {fd : FuncData} (F : Fun K "divided" "divided" sDivd f fd) (T : Bk mg) (C : PoC K mg CP) (N_BadNumber : Ex P w K mg base "BadNumber" CN ["what", "number"]) (G_over_one_bottom : Df P w K mg base "over_one_bottom" 1 ["numbers"] (spOver2 K)) (G_long_division : Df P w K mg base "long_division" 3 ["one", "other"] spLd) (G_poly_over : Dx P w K mg base "poly_over" 7 ["row", "bottom"] (spPOv K CP)) : FnOk P w K mg base (L2.CX P w) 8 f fd ["one", "other"] (spDivd K CP CN) := by
  refine F.okX scDivd (fun vs H Q E h => ?_) (fun cdv A0 outer s H vs Q E hr h => ?_)
  · obtain ⟨a, b, A, B, M, N, M', N', rfl, _⟩ := h
    rfl
  · obtain ⟨a, b, A, B, M, N, M', N', rfl, pa, pb, fa, fb, fan, fbn, er, q⟩ := h
    have pa' := pa
    have pb' := pb
    obtain ⟨dx, t, as, h1, h2, h3⟩ := pa'
    obtain ⟨dy, u, bs, g1, g2, g3⟩ := pb'
    obtain ⟨B1, B2, B3, B4⟩ := b1300
    refine ⟨_, (pss_cons (ps_if (pt_not (pt_truth (pe_fld (pv 1) rfl) (by intro _; rfl)))
    (pss_one (ps_raise rfl (takes_of rfl rfl rfl rfl) (pmk_oex N_BadNumber.ox N_BadNumber.iC N_BadNumber.tI N_BadNumber.ok (hr.mono (by decide)) N_BadNumber.b .nil pass0 (by rfl) N_BadNumber.m (pa_cons pe_str (pa_cons pe_int pa_nil)))))
    pss_nil)
  (pss_cons (ps_asg (pe_call G_over_one_bottom.ok (hr.mono (by decide)) rfl G_over_one_bottom.m G_over_one_bottom.kp G_over_one_bottom.b .nil pass0 (pa_cons (pe_fld (pv 0) rfl) pa_nil)) (pg_tup (by rfl) (pgs_cons (pg_name (i := 2) scDivd.nd rfl (Or.inl rfl)) (pgs_cons (pg_name (i := 3) scDivd.nd rfl (Or.inl rfl)) pgs_nil))))
  (pss_cons (ps_asg (pe_call G_over_one_bottom.ok (hr.mono (by decide)) rfl G_over_one_bottom.m G_over_one_bottom.kp G_over_one_bottom.b .nil pass0 (pa_cons (pe_fld (pv 1) rfl) pa_nil)) (pg_tup (by rfl) (pgs_cons (pg_name (i := 4) scDivd.nd rfl (Or.inl rfl)) (pgs_cons (pg_name (i := 5) scDivd.nd rfl (Or.inr rfl)) pgs_nil))))
  (pss_cons (ps_asg (pe_call G_long_division.ok (hr.mono (by decide)) rfl G_long_division.m G_long_division.kp G_long_division.b .nil pass0 (pa_cons (pv 2) (pa_cons (pv 4) pa_nil))) (pg_tup (by rfl) (pgs_cons (pg_name (i := 6) scDivd.nd rfl (Or.inl rfl)) (pgs_cons (pg_name (i := 7) scDivd.nd rfl (Or.inl rfl)) (pgs_cons (pg_name (i := 8) scDivd.nd rfl (Or.inl rfl)) pgs_nil)))))
  (pss_cons (ps_set (i := 9) scDivd.nd rfl (Or.inl rfl) (pe_op op_mulW (pv 3) (pv 8)))
  (pss_one (ps_ret (pe_tup (pa_cons (pe_call G_poly_over.ok (hr.mono (by decide)) rfl G_poly_over.m G_poly_over.kp G_poly_over.b .nil passL (pa_cons (pe_lc (own := [("number", 10)]) (g := (gName 10)) (tt := tYes) rfl scDivd.nd (pi_seq (pv 6)) (blkOk_by (N := ["one", "other", "row", "bottom", "other_row", "other_bottom", "quotient", "rest", "scale", "below", "number"]) (sc := defScope sDivd) (by decide +kernel)) (fun _ _ _ _ _ => pg_name (i := 10) scDivd.nd rfl (Or.inl rfl)) (fun _ _ _ _ _ => pts_nil) (fun _ _ _ _ _ => (pe_op op_mulW (pv 10) (pv 5)))) (pa_cons (pv 9) pa_nil))) (pa_cons (pe_call G_poly_over.ok (hr.mono (by decide)) rfl G_poly_over.m G_poly_over.kp G_poly_over.b .nil passL (pa_cons (pv 7) (pa_cons (pv 9) pa_nil))) pa_nil)))))))))), ?_⟩
    have nbs := g3.lenQ
    have lA := fa.l
    have lB := fb.l
    by_cases hB : B = []
    · have ebs : bs = [] := List.length_eq_zero_iff.mp (by rw [nbs, hB]; rfl)
      refine ⟨_, rfl, b, CP, dy, _, .ref u, rfl, g1, C.cl, C.nf, (by kernel_rfl), false, .inr (.inl ⟨_, SqT.of g2, by rw [ebs]; rfl⟩), ?_⟩
      refine iteT ?_
      refine ⟨(by show 2 ≤ 1000; decide), ?_⟩
      exact raise_end rfl fun dd H' s2 n e2 => er hB dd H' s2 n e2
    have nbs' : bs ≠ [] := fun z => hB (List.length_eq_zero_iff.mp (by rw [← nbs, z]; rfl))
    refine ⟨_, rfl, b, CP, dy, _, .ref u, rfl, g1, C.cl, C.nf, (by kernel_rfl), true, .inr (.inl ⟨_, SqT.of g2, by simpa using nbs'⟩), ?_⟩
    refine iteF ?_
    dsimp only [tNext]
    obtain ⟨dok, q⟩ := q hB
    refine ⟨_, rfl, a, CP, dx, _, .ref t, rfl, h1, C.cl, C.nf, (by kernel_rfl), t, A, M, N, rfl, RS.ofT (SqT.of h2) h3, by omega, fa.f, fa.m0, Nat.lt_of_le_of_lt fa.m B1, Nat.lt_of_le_of_lt fa.n B2, fun t1 l1 b1 n1 H1 s1 e1 r1 b10 b1M ln1 hc1 bn1 => ?_⟩
    refine ⟨t1, _, rfl, SqT.of e1, rfl, _, _, rfl, _, _, rfl, rfl, ?_⟩
    refine ⟨_, rfl, b, CP, dy, _, .ref u, rfl, s1 _ _ g1, C.cl, C.nf, (by kernel_rfl), u, B, M', N', rfl, RS.ofT (SqT.of (s1 _ _ g2)) (g3.same s1), by omega, fb.f, fb.m0, Nat.lt_of_le_of_lt fb.m B1, Nat.lt_of_le_of_lt fb.n B2, fun t2 l2 b2 n2 H2 s2 e2 r2 b20 b2M ln2 hc2 bn2 => ?_⟩
    refine ⟨t2, _, rfl, SqT.of e2, rfl, _, _, rfl, _, _, rfl, rfl, ?_⟩
    have b1R : (b1 : Rat) ≠ 0 := by
      have : b1 ≠ 0 := by omega
      exact_mod_cast this
    have b2R : (b2 : Rat) ≠ 0 := by
      have : b2 ≠ 0 := by omega
      exact_mod_cast this
    have ev1 : ∀ x, ev (qi n1) x = (b1 : Rat) * ev A x := fun x => by
      have : ev (qi n1) x = ev (pscale A (b1 : Rat)) x := ev_ext (fun i => by rw [cf_psc, cf_qi, hc1]) x
      rw [this, ev_pscale]
      grind
    have ev2 : ∀ x, ev (qi n2) x = (b2 : Rat) * ev B x := fun x => by
      have : ev (qi n2) x = ev (pscale B (b2 : Rat)) x := ev_ext (fun i => by rw [cf_psc, cf_qi, hc2]) x
      rw [this, ev_pscale]
      grind
    have stpI : ∀ {n : List Int} {A : List Rat} {b : Rat}, Stp A → b ≠ 0 → n.length = A.length → (∀ i, cf A i * b = ((ci n i : Int) : Rat)) → Stp (qi n) := fun {n A b} sA b0 hl hc => by
      intro r x e
      have hlen := congrArg List.length e
      rw [qi_len, List.length_append] at hlen
      simp only [List.length_cons, List.length_nil] at hlen
      have hx : cf (qi n) (n.length - 1) = x := by
        rw [e, cf_app, if_neg (by omega), show n.length - 1 - r.length = 0 by omega]
        rfl
      have nA : A ≠ [] := fun z => by rw [z] at hl; simp at hl; rw [hl] at hlen; simp at hlen
      rw [cf_qi, ← hc, hl] at hx
      rw [← hx]
      exact fun z => (Rat.mul_eq_zero.mp z).elim (ne_last sA nA) b0
    have sn1 := stpI fa.s b1R ln1 hc1
    have sn2 := stpI fb.s b2R ln2 hc2
    have nn2 : n2 ≠ [] := fun z => hB (List.length_eq_zero_iff.mp (by rw [← ln2, z]; rfl))
    have ld : LdOk n1 n2 := by
      rcases dok with y | ⟨G, pG, eM, eG, c, hc⟩
      · exact .inl fun i => Nat.le_trans (bn2 i) y
      · have kk : ∀ x, ev (qi n2) x = ((b2 : Rat) / (M' : Rat)) * ev (qi G) x := fun x => by
          have MR : (M' : Rat) ≠ 0 := by
            have : M' ≠ 0 := by have := fb.m0; omega
            exact_mod_cast this
          have e5 : ev (qi G) x = ev (pscale B (M' : Rat)) x := ev_ext (fun i => by rw [cf_psc, cf_qi, eG]) x
          rw [ev2, e5, ev_pscale]
          have : (b2 : Rat) / (M' : Rat) * (M' : Rat) = b2 := Rat.div_mul_cancel MR
          have e6 : (b2 : Rat) / (M' : Rat) * (ev B x * (M' : Rat)) = ((b2 : Rat) / (M' : Rat) * (M' : Rat)) * ev B x := by grind
          rw [e6, this]
        obtain ⟨z, ez, hz⟩ := pm_mult pG kk
        have MR : (M' : Rat) ≠ 0 := by
          have : M' ≠ 0 := by have := fb.m0; omega
          exact_mod_cast this
        have e7 : (b2 : Int) = z * (M' : Int) := by
          have : (b2 : Rat) / (M' : Rat) * (M' : Rat) = b2 := Rat.div_mul_cancel MR
          rw [ez] at this
          have e8 : ((z * (M' : Int) : Int) : Rat) = ((b2 : Int) : Rat) := by rw [Rat.intCast_mul]; exact this
          exact_mod_cast e8.symm
        have z1 : z = 1 := by
          have h5 : 0 < z := by
            rcases Int.lt_trichotomy 0 z with y | y | y
            · exact y
            · rw [← y, Int.zero_mul] at e7; omega
            · have := Int.mul_neg_of_neg_of_pos y (show (0 : Int) < M' by have := fb.m0; omega)
              omega
          have h6 : b2 = z.toNat * M' := by
            have : ((b2 : Nat) : Int) = ((z.toNat * M' : Nat) : Int) := by rw [Int.natCast_mul, Int.toNat_of_nonneg (by omega)]; exact e7
            exact_mod_cast this
          have h7 : z.toNat ≤ 1 := by
            refine Decidable.byContradiction fun no => ?_
            have := Nat.mul_le_mul_right M' (show 2 ≤ z.toNat by omega)
            have := fb.m0
            omega
          omega
        have en : n2 = G := by
          have lG : G.length = B.length := by
            have i1 := stp_len pG.stp (b := pscale B (M' : Rat)) fun i => by rw [cf_psc, cf_qi, eG]
            have i2 := stp_len fb.s (b := pscale (qi G) (1 / (M' : Rat))) fun i => by
              rw [cf_psc, cf_qi, ← eG]
              have : (M' : Rat) * (1 / (M' : Rat)) = 1 := by rw [Rat.div_def, Rat.one_mul]; exact Rat.mul_inv_cancel _ MR
              grind
            rw [psc_len, qi_len] at i1
            rw [psc_len, qi_len] at i2
            omega
          exact ci_ext (by rw [ln2, lG]) fun i => by rw [hz, z1, Int.one_mul]
        subst en
        refine .inr ⟨pG, ?_⟩
        have eAB : ∀ x, ev (qi n1) x = ev (qi n2) x * ev (pscale c ((b1 : Rat) / (b2 : Rat))) x := fun x => by
          have e9 : (b1 : Rat) / (b2 : Rat) * (b2 : Rat) = b1 := Rat.div_mul_cancel b2R
          rw [ev1, hc, ev2, ev_pscale, ← e9]
          grind
        obtain ⟨c', hc'⟩ := gauss pG eAB
        exact ⟨c', fun x => by rw [hc', eAB]⟩
    refine ⟨_, rfl, _, rfl, l1, l2, n1, n2, rfl, s2 _ _ r1, r2, by omega, by omega, sn1, sn2, nn2, fun i => Nat.le_trans (bn1 i) fan, fun i => Nat.le_trans (bn2 i) fbn, ld, fun t3 lq lr qq rr ss H3 s3 e3 rq rrr L => ?_⟩
    refine ⟨t3, _, rfl, SqT.of e3, rfl, _, _, rfl, _, _, rfl, _, _, rfl, rfl, ?_⟩
    have bb1 : ((b1 : Nat) : Int).natAbs < 2 ^ 1301 := by rw [Int.natAbs_natCast]; exact Nat.lt_of_le_of_lt (Nat.le_trans b1M fa.m) (Nat.pow_lt_pow_right (by decide) (by decide))
    have bs1 : ((ss : Nat) : Int).natAbs < 2 ^ 1431 := by rw [Int.natAbs_natCast]; exact Nat.lt_of_le_of_lt L.sb (Nat.pow_lt_pow_right (by decide) (by decide))
    have bb2 : ((b2 : Nat) : Int).natAbs < 2 ^ 1301 := by rw [Int.natAbs_natCast]; exact Nat.lt_of_le_of_lt (Nat.le_trans b2M fb.m) (Nat.pow_lt_pow_right (by decide) (by decide))
    refine ⟨_, rfl, _, rfl, _, _, rfl, rfl, wide_mul (a := 1301) (b := 1431) bb1 bs1 (by decide) (by decide) (by decide), ?_⟩
    have s03 := s1.trans (s2.trans s3)
    have eBel : ((b1 : Nat) : Int) * ((ss : Nat) : Int) = ((b1 * ss : Nat) : Int) := (Int.natCast_mul _ _).symm
    have s0R : (ss : Rat) ≠ 0 := by
      have : ss ≠ 0 := by have := L.s0; omega
      exact_mod_cast this
    have bsR : ((b1 * ss : Nat) : Rat) ≠ 0 := by
      rw [Rat.natCast_mul]
      exact fun z => (Rat.mul_eq_zero.mp z).elim b1R s0R
    have bel0 : (0 : Int) < ((b1 * ss : Nat) : Int) := by
      have := Nat.mul_pos b10 L.s0
      omega
    have belb : ((b1 * ss : Nat) : Int).natAbs < 2 ^ big := by
      rw [Int.natAbs_natCast]
      exact Nat.lt_of_le_of_lt (Nat.mul_le_mul (Nat.le_trans b1M fa.m) L.sb) B4
    dsimp only [gName]
    rw [eBel]
    refine ⟨_, rfl, lq, rfl, lc_seq (xs := qq.map V.int) (.inl (SqL.of rq)) (fun D i H' => Same H3 H' ∧ H' D = some (.lst ((tabI i fun i => ci qq i * (b2 : Int)).map V.int))) ?_ ?_ ?_ ?_⟩
    · intro D hD
      exact ⟨same_upd hD, upd_same⟩
    · intro D i H2 hD ⟨s2, _⟩
      exact ⟨same_sqL s2, same_sqT s2⟩
    · intro D i x H' hD hi ⟨ss', eD⟩
      have hi' : i < qq.length := by
        have := (List.getElem?_eq_some_iff.mp hi).1
        rw [List.length_map] at this
        exact this
      have lq13 := L.lq
      rw [List.getElem?_map, ci_lt hi'] at hi
      cases hi
      refine ⟨rfl, ?_⟩
      refine ⟨_, rfl, _, rfl, _, _, rfl, rfl, wide_mul (a := 20001) (b := 1301) (Nat.lt_of_le_of_lt (L.bq i) (Nat.pow_lt_pow_right (by decide) (by decide))) bb2 (by decide) (by decide) (by decide), ?_⟩
      refine ⟨_, eD, (by rw [List.length_map, tabI_len, sizeLine_eq]; omega), fun b o e => ?_, ?_⟩
      · rw [upd_ne (ne_of_none e hD)]
        exact ss' _ _ e
      · rw [upd_same, tabI_snoc, List.map_append]
        rfl
    intro D H4 hD ⟨s4, eD⟩
    rw [List.length_map] at eD
    have lq13 := L.lq
    refine ⟨_, rfl, D, tabI qq.length fun i => ci qq i * (b2 : Int), _, pscale (qi qq) ((b2 : Rat) / ((b1 * ss : Nat) : Rat)), rfl, eD, bel0, belb, by rw [tabI_len]; omega, by rw [psc_len, qi_len, tabI_len], fun i => ?_, fun x H5 s5 px => ?_⟩
    · rw [cf_psc, cf_qi, ci_tab]
      have e5 : (b2 : Rat) / ((b1 * ss : Nat) : Rat) * ((b1 * ss : Nat) : Rat) = b2 := Rat.div_mul_cancel bsR
      have e6 : (if i < qq.length then ci qq i * (b2 : Int) else 0) = ci qq i * (b2 : Int) := by
        split
        · rfl
        · rw [ci_ge (by omega), Int.zero_mul]
      rw [e6, Rat.intCast_mul, Rat.intCast_natCast, ← e5]
      show _ * ((b1 * ss : Nat) : Rat) = _
      rw [e5]
      have : ((ci qq i : Int) : Rat) * ((b2 : Rat) / ((b1 * ss : Nat) : Rat)) * ((b1 * ss : Nat) : Rat) = ((ci qq i : Int) : Rat) * ((b2 : Rat) / ((b1 * ss : Nat) : Rat) * ((b1 * ss : Nat) : Rat)) := by grind
      rw [this, e5]
      rfl
    have s35 := s4.trans s5
    refine ⟨_, rfl, _, rfl, lr, rr, _, pscale (qi rr) (1 / ((b1 * ss : Nat) : Rat)), rfl, s35 _ _ rrr, bel0, belb, by have := L.lr; omega, by rw [psc_len, qi_len], fun i => ?_, fun y H6 s6 py => ?_⟩
    · rw [cf_psc, cf_qi]
      have e5 : 1 / ((b1 * ss : Nat) : Rat) * ((b1 * ss : Nat) : Rat) = 1 := Rat.div_mul_cancel bsR
      have : ((ci rr i : Int) : Rat) * (1 / ((b1 * ss : Nat) : Rat)) * ((b1 * ss : Nat) : Rat) = ((ci rr i : Int) : Rat) * (1 / ((b1 * ss : Nat) : Rat) * ((b1 * ss : Nat) : Rat)) := by grind
      show _ * ((b1 * ss : Nat) : Rat) = _
      rw [this, e5, Rat.mul_one]
    refine ⟨(by show 2 ≤ sizeLine; decide), fun tt nt => ?_⟩
    have st := same_upd (o := HO.tup [V.ref x, V.ref y]) nt
    refine q tt x y _ _ _ (s03.trans (s35.trans (s6.trans st))) upd_same ((px.same s6).same st) (py.same st) ⟨stripQ_stp _, stripQ_stp _, ?_, fun z => ?_⟩
    · have h5 := stripQ_le (pscale (qi rr) (1 / ((b1 * ss : Nat) : Rat)))
      rw [psc_len, qi_len] at h5
      have := L.lr
      omega
    · rw [ev_stripQ, ev_stripQ, ev_pscale, ev_pscale]
      have h5 := L.e z
      rw [ev1, ev2] at h5
      have e5 : 1 / ((b1 * ss : Nat) : Rat) * ((b1 * ss : Nat) : Rat) = 1 := Rat.div_mul_cancel bsR
      have e6 : (b2 : Rat) / ((b1 * ss : Nat) : Rat) = (b2 : Rat) * (1 / ((b1 * ss : Nat) : Rat)) := by
        rw [Rat.div_def, Rat.div_def, Rat.one_mul]
      rw [e6]
      generalize (1 / ((b1 * ss : Nat) : Rat)) = y at *
      rw [Rat.natCast_mul] at e5
      have h6 : ev A z = ev A z * (y * ((b1 : Rat) * (ss : Rat))) := by rw [e5, Rat.mul_one]
      have h7 : ev A z * (y * ((b1 : Rat) * (ss : Rat))) = y * ((ss : Rat) * ((b1 : Rat) * ev A z)) := by grind
      rw [h6, h7, h5]
      grind
end
end Vf
set_option maxRecDepth 100000
set_option exponentiation.threshold 5000
namespace Vf
def slp (a : List Rat) : List Rat := tab (a.length - 1) fun j => cf a (j + 1) * ((j + 1 : Nat) : Rat)
theorem ev_slp (c x : Rat) (l : List Rat) : ev (slp (c :: l)) x = ev l x + x * ev (slp l) x := by
  have e : ∀ i, cf (slp (c :: l)) i = cf (padd l (0 :: slp l)) i := fun i => by
    rw [cf_padd]
    unfold slp
    rw [cf_tab]
    have e0 : (c :: l).length - 1 = l.length := rfl
    rw [e0]
    cases i with
    | zero =>
      show (if 0 < l.length then cf l 0 * _ else 0) = cf l 0 + 0
      split
      · show cf l 0 * ((0 + 1 : Nat) : Rat) = _
        have : ((0 + 1 : Nat) : Rat) = 1 := rfl
        rw [this]
        grind
      · rw [cf_ge (by omega)]
        grind
    | succ i =>
      show (if i + 1 < l.length then cf l (i + 1) * ((i + 1 + 1 : Nat) : Rat) else 0) = cf l (i + 1) + cf (tab (l.length - 1) fun j => cf l (j + 1) * ((j + 1 : Nat) : Rat)) i
      rw [cf_tab]
      by_cases h : i + 1 < l.length
      · rw [if_pos h, if_pos (by omega)]
        have : ((i + 1 + 1 : Nat) : Rat) = 1 + ((i + 1 : Nat) : Rat) := by
          rw [Nat.add_comm (i + 1) 1]
          exact_mod_cast rfl
        rw [this]
        grind
      · rw [if_neg h, if_neg (by omega), cf_ge (by omega)]
        grind
  rw [ev_ext e, ev_padd]
  show _ + (0 + x * ev (slp l) x) = _
  grind
theorem ev_tay (x : Rat) : ∀ p : List Rat, ∃ k : List Rat, ∀ h, ev p (x + h) = ev p x + h * ev (slp p) x + h * h * ev k h
  | [] => ⟨[], fun h => by
    show (0 : Rat) = 0 + h * ev (slp []) x + h * h * 0
    have : ev (slp []) x = 0 := rfl
    rw [this]
    grind⟩
  | c :: l => by
    obtain ⟨k, hk⟩ := ev_tay x l
    refine ⟨padd [ev (slp l) x] (pmul [x, 1] k), fun h => ?_⟩
    rw [ev_slp, ev_padd, ev_pmul]
    show c + (x + h) * ev l (x + h) = c + x * ev l x + h * (ev l x + x * ev (slp l) x) + h * h * (ev (slp l) x + h * 0 + (x + h * (1 + h * 0)) * ev k h)
    rw [hk h]
    grind
/-- a slope is told by the values -/
theorem slp_mul {F A B : List Rat} (e : ∀ x, ev F x = ev A x * ev B x) (x : Rat) : ev (slp F) x = ev (slp A) x * ev B x + ev A x * ev (slp B) x := by
  obtain ⟨k1, h1⟩ := ev_tay x F
  obtain ⟨k2, h2⟩ := ev_tay x A
  obtain ⟨k3, h3⟩ := ev_tay x B
  let d := ev (slp F) x - (ev (slp A) x * ev B x + ev A x * ev (slp B) x)
  let W := padd (padd (pscale k2 (ev B x)) (pscale k3 (ev A x))) (padd [ev (slp A) x * ev (slp B) x] (padd (0 :: padd (pscale k2 (ev (slp B) x)) (pscale k3 (ev (slp A) x))) (padd (0 :: 0 :: pmul k2 k3) (pscale k1 (-1)))))
  have key : ∀ h, h ≠ 0 → ev [d] h = ev (0 :: W) h := fun h hh => by
    have e1 := h1 h
    rw [e, h2 h, h3 h, e] at e1
    have eW : ev W h = ev k2 h * ev B x + ev k3 h * ev A x + (ev (slp A) x * ev (slp B) x + (h * (ev k2 h * ev (slp B) x + ev k3 h * ev (slp A) x) + (h * (h * (ev k2 h * ev k3 h)) + ev k1 h * (-1)))) := by
      show ev (padd _ _) h = _
      rw [ev_padd, ev_padd, ev_padd, ev_padd, ev_padd, ev_pscale, ev_pscale, ev_pscale]
      show _ + ((ev (slp A) x * ev (slp B) x + h * 0) + ((0 + h * ev (padd (pscale k2 (ev (slp B) x)) (pscale k3 (ev (slp A) x))) h) + ((0 + h * (0 + h * ev (pmul k2 k3) h)) + _))) = _
      rw [ev_padd, ev_pscale, ev_pscale, ev_pmul]
      grind
    show d + h * 0 = 0 + h * ev W h
    rw [eW]
    have e2 : h * d = h * (h * (ev k2 h * ev B x + ev k3 h * ev A x + (ev (slp A) x * ev (slp B) x + (h * (ev k2 h * ev (slp B) x + ev k3 h * ev (slp A) x) + (h * (h * (ev k2 h * ev k3 h)) + ev k1 h * (-1)))))) := by
      show h * (ev (slp F) x - (ev (slp A) x * ev B x + ev A x * ev (slp B) x)) = _
      grind
    have e3 := mul_can hh e2
    rw [e3]
    grind
  have z := ev_inj key 0
  have z : d = 0 := z
  have z : ev (slp F) x - (ev (slp A) x * ev B x + ev A x * ev (slp B) x) = 0 := z
  grind
theorem slp_const (c x : Rat) : ev (slp [c]) x = 0 := rfl
def Cop (A B : List Rat) : Prop := ∃ u v : List Rat, ∀ x, ev u x * ev A x + ev v x * ev B x = 1
theorem Cop.symm {A B : List Rat} (h : Cop A B) : Cop B A := by
  obtain ⟨u, v, e⟩ := h
  exact ⟨v, u, fun x => by have := e x; grind⟩
theorem Cop.mul {A A' B P : List Rat} (h : Cop A B) (h' : Cop A' B) (e : ∀ x, ev P x = ev A x * ev A' x) : Cop P B := by
  obtain ⟨u, v, e1⟩ := h
  obtain ⟨u', v', e2⟩ := h'
  refine ⟨pmul u u', padd (pmul v (padd (pmul u' A') (pmul v' B))) (pmul (pmul u A) v'), fun x => ?_⟩
  have h1 := e1 x
  have h2 := e2 x
  rw [ev_padd, ev_pmul, ev_pmul, ev_pmul, ev_padd, ev_pmul, ev_pmul, ev_pmul, e, h2]
  have : ev u x * ev A x * (ev u' x * ev A' x + ev v' x * ev B x) + ev v x * ev B x = 1 := by rw [h2]; grind
  grind
theorem Cop.add {A B C t : List Rat} {c : Rat} (h : Cop A B) (c0 : c ≠ 0) (e : ∀ x, ev C x = ev B x * c + ev A x * ev t x) : Cop A C := by
  obtain ⟨u, v, e1⟩ := h
  have ci : c * (1 / c) = 1 := by rw [Rat.div_def, Rat.one_mul]; exact Rat.mul_inv_cancel c c0
  refine ⟨padd u (pscale (pmul v t) (-(1 / c))), pscale v (1 / c), fun x => ?_⟩
  have h1 := e1 x
  rw [ev_padd, ev_pscale, ev_pscale, ev_pmul, e]
  grind
theorem cop_one (B : List Rat) : Cop [1] B := ⟨[1], [], fun x => by
  show (1 + x * 0) * (1 + x * 0) + 0 * ev B x = (1 : Rat)
  grind⟩
def pw (g : List Rat) : Nat → List Rat
  | 0 => [1]
  | n + 1 => pmul g (pw g n)
theorem ev_pw (g : List Rat) (n : Nat) (x : Rat) : ev (pw g (n + 1)) x = ev g x * ev (pw g n) x := ev_pmul _ _ _
theorem slp_pw (g : List Rat) (x : Rat) : ∀ n : Nat, ev (slp (pw g (n + 1))) x = ((n + 1 : Nat) : Rat) * ev (pw g n) x * ev (slp g) x
  | 0 => by
    rw [slp_mul (fun x => ev_pw g 0 x), show pw g 0 = [1] from rfl, slp_const]
    show _ * (1 + x * 0) + _ * 0 = ((1 : Nat) : Rat) * (1 + x * 0) * _
    rw [show ((1 : Nat) : Rat) = 1 from rfl]
    grind
  | n + 1 => by
    rw [slp_mul (fun x => ev_pw g (n + 1) x), slp_pw g x n, ev_pw g n]
    have : ((n + 1 + 1 : Nat) : Rat) = ((n + 1 : Nat) : Rat) + 1 := by exact_mod_cast rfl
    rw [this]
    grind
/-- the product of what is taken, k times less -/
def prE : List (List Rat × Nat) → Nat → List Rat
  | [], _ => [1]
  | (g, m) :: r, k => pmul (pw g (m - k)) (prE r k)
def prR : List (List Rat × Nat) → Nat → List Rat
  | [], _ => [1]
  | (g, m) :: r, k => if k < m then pmul g (prR r k) else prR r k
def prS : List (List Rat × Nat) → Nat → List Rat
  | [], _ => []
  | (g, m) :: r, k => if k < m then padd (pscale (pmul (slp g) (prR r k)) ((m - k : Nat) : Rat)) (pmul g (prS r k)) else prS r k
theorem prE_R (x : Rat) (k : Nat) : ∀ l : List (List Rat × Nat), ev (prE l k) x = ev (prE l (k + 1)) x * ev (prR l k) x
  | [] => by
    show (1 + x * 0) = (1 + x * 0) * (1 + x * 0 : Rat)
    grind
  | (g, m) :: r => by
    have ih := prE_R x k r
    show ev (pmul (pw g (m - k)) (prE r k)) x = ev (pmul (pw g (m - (k + 1))) (prE r (k + 1))) x * ev (if k < m then pmul g (prR r k) else prR r k) x
    rw [ev_pmul, ev_pmul, ih]
    split
    · rename_i h
      rw [show m - k = m - (k + 1) + 1 by omega, ev_pw, ev_pmul]
      grind
    · rename_i h
      rw [show m - k = 0 by omega, show m - (k + 1) = 0 by omega]
      grind
theorem prE_S (x : Rat) (k : Nat) : ∀ l : List (List Rat × Nat), ev (slp (prE l k)) x = ev (prE l (k + 1)) x * ev (prS l k) x
  | [] => by
    show ev (slp [1]) x = _ * (0 : Rat)
    rw [slp_const]
    grind
  | (g, m) :: r => by
    have ih := prE_S x k r
    have ir := prE_R x k r
    rw [slp_mul (F := prE ((g, m) :: r) k) (A := pw g (m - k)) (B := prE r k) fun x => ev_pmul _ _ _, ih, ir]
    show _ = ev (pmul (pw g (m - (k + 1))) (prE r (k + 1))) x * ev (if k < m then padd (pscale (pmul (slp g) (prR r k)) ((m - k : Nat) : Rat)) (pmul g (prS r k)) else prS r k) x
    rw [ev_pmul]
    split
    · rename_i h
      rw [show m - k = m - (k + 1) + 1 by omega, slp_pw, ev_pw, ev_padd, ev_pscale, ev_pmul, ev_pmul]
      grind
    · rename_i h
      rw [show m - k = 0 by omega, show m - (k + 1) = 0 by omega, show pw g 0 = [1] from rfl, slp_const]
      grind
/-- rows of which no two have a divisor in common, and none has one in common with its slope -/
def Fam : List (List Rat × Nat) → Prop
  | [] => True
  | (g, _) :: r => Cop g (slp g) ∧ (∀ q ∈ r, Cop g q.1) ∧ Fam r
theorem cop_R {g : List Rat} (k : Nat) : ∀ {r : List (List Rat × Nat)}, (∀ q ∈ r, Cop g q.1) → Cop (prR r k) g
  | [], _ => cop_one g
  | (h, m) :: r, H => by
    have ih := cop_R k (r := r) fun q hq => H q (List.mem_cons_of_mem _ hq)
    show Cop (if k < m then pmul h (prR r k) else prR r k) g
    split
    · exact (H (h, m) (List.mem_cons_self ..)).symm.mul ih fun x => ev_pmul _ _ _
    · exact ih
theorem cop_RS (k : Nat) : ∀ {l : List (List Rat × Nat)}, Fam l → Cop (prR l k) (prS l k)
  | [], _ => cop_one []
  | (g, m) :: r, H => by
    obtain ⟨h1, h2, h3⟩ := H
    have ih := cop_RS k h3
    have iR := cop_R k h2
    show Cop (if k < m then pmul g (prR r k) else prR r k) (if k < m then padd (pscale (pmul (slp g) (prR r k)) ((m - k : Nat) : Rat)) (pmul g (prS r k)) else prS r k)
    split
    · rename_i hk
      have n0 : ((m - k : Nat) : Rat) ≠ 0 := by
        have : m - k ≠ 0 := by omega
        exact_mod_cast this
      have a1 : Cop g (padd (pscale (pmul (slp g) (prR r k)) ((m - k : Nat) : Rat)) (pmul g (prS r k))) := by
        have : Cop (pmul (slp g) (prR r k)) g := h1.symm.mul iR fun x => ev_pmul _ _ _
        exact this.symm.add (t := prS r k) n0 fun x => by rw [ev_padd, ev_pscale, ev_pmul g]
      have a2 : Cop (prR r k) (padd (pscale (pmul (slp g) (prR r k)) ((m - k : Nat) : Rat)) (pmul g (prS r k))) := by
        have : Cop (pmul g (prS r k)) (prR r k) := iR.symm.mul ih.symm fun x => ev_pmul _ _ _
        exact this.symm.add (c := 1) (t := pscale (slp g) ((m - k : Nat) : Rat)) (by decide +kernel) fun x => by rw [ev_padd, ev_pscale, ev_pscale, ev_pmul (slp g)]; grind
      exact a1.mul a2 fun x => ev_pmul _ _ _
    · exact ih
end Vf
set_option maxRecDepth 100000
set_option exponentiation.threshold 5000
namespace Vf
/-- a row whose last number is one -/
structure Mo (A : List Rat) : Prop where
  n : A ≠ []
  t : cf A (A.length - 1) = 1
theorem Mo.s {A : List Rat} (h : Mo A) : Stp A := by
  intro r x e
  have t := h.t
  rw [e, List.length_append] at t
  rw [show r.length + [x].length - 1 = r.length from rfl, cf_app, if_neg (by omega), Nat.sub_self] at t
  have t : x = 1 := t
  rw [t]
  decide +kernel
theorem mo_one : Mo [1] := ⟨by simp, rfl⟩
theorem Mo.mul {A B : List Rat} (hA : Mo A) (hB : Mo B) : Mo (pmul A B) ∧ (pmul A B).length + 1 = A.length + B.length := by
  have a := List.length_pos_iff.mpr hA.n
  have b := List.length_pos_iff.mpr hB.n
  have l : (pmul A B).length = A.length + B.length - 1 := by unfold pmul; rw [tab_len]
  refine ⟨⟨fun z => ?_, ?_⟩, by omega⟩
  · rw [z] at l
    have : (0 : Nat) = A.length + B.length - 1 := l
    omega
  · rw [l, show A.length + B.length - 1 - 1 = (A.length - 1) + (B.length - 1) by omega, top_pmul (by omega) (by omega), hA.t, hB.t]
    exact Rat.one_mul 1
theorem Mo.pw {g : List Rat} (h : Mo g) : ∀ n : Nat, Mo (pw g n) ∧ (pw g n).length = n * (g.length - 1) + 1
  | 0 => ⟨mo_one, by show 1 = _; rw [Nat.zero_mul]⟩
  | n + 1 => by
    obtain ⟨h1, h2⟩ := h.pw n
    obtain ⟨h3, h4⟩ := h.mul h1
    have := List.length_pos_iff.mpr h.n
    refine ⟨h3, ?_⟩
    show (pmul g (Vf.pw g n)).length = _
    rw [Nat.add_mul, Nat.one_mul]
    omega
def Mos (l : List (List Rat × Nat)) : Prop := ∀ q ∈ l, Mo q.1
/-- of how many degrees -/
def dgs : List (List Rat × Nat) → Nat → Nat
  | [], _ => 0
  | (g, m) :: r, k => (m - k) * (g.length - 1) + dgs r k
theorem mo_E (k : Nat) : ∀ {l : List (List Rat × Nat)}, Mos l → Mo (prE l k) ∧ (prE l k).length = dgs l k + 1
  | [], _ => ⟨mo_one, rfl⟩
  | (g, m) :: r, h => by
    obtain ⟨h1, h2⟩ := mo_E k (l := r) fun q hq => h q (List.mem_cons_of_mem _ hq)
    obtain ⟨h3, h4⟩ := (h (g, m) (List.mem_cons_self ..)).pw (m - k)
    obtain ⟨h5, h6⟩ := h3.mul h1
    refine ⟨h5, ?_⟩
    dsimp only at h4 h6
    show (pmul (pw g (m - k)) (prE r k)).length = (m - k) * (g.length - 1) + dgs r k + 1
    omega
theorem mo_R (k : Nat) : ∀ {l : List (List Rat × Nat)}, Mos l → Mo (prR l k)
  | [], _ => mo_one
  | (g, m) :: r, h => by
    have h1 := mo_R k (l := r) fun q hq => h q (List.mem_cons_of_mem _ hq)
    show Mo (if k < m then pmul g (prR r k) else prR r k)
    split
    · exact ((h (g, m) (List.mem_cons_self ..)).mul h1).1
    · exact h1
end Vf
set_option maxRecDepth 100000
set_option exponentiation.threshold 5000
set_option maxRecDepth 100000
set_option exponentiation.threshold 5000
set_option maxRecDepth 100000
set_option exponentiation.threshold 5000
namespace Vf
theorem Fr.mulN {M N : Nat} {q : Rat} (h : Fr M N q) (k : Nat) : Fr (k * M) (k * N) q := by
  obtain ⟨z, e, b⟩ := h
  refine ⟨z * (k : Int), ?_, ?_⟩
  · rw [Rat.natCast_mul, Rat.intCast_mul, ← e]
    show q * ((k : Rat) * (M : Rat)) = q * (M : Rat) * (k : Rat)
    grind
  · rw [Int.natAbs_mul, Int.natAbs_natCast, Nat.mul_comm k]
    exact Nat.mul_le_mul_right k b
theorem pmul_le (A B : List Rat) : (pmul A B).length ≤ A.length + B.length - 1 := by unfold pmul; rw [tab_len]; exact Nat.le_refl _
theorem fr_unit (i : Nat) : Fr 1 1 (cf [1] i) := by
  cases i with
  | zero => exact ⟨1, by decide +kernel, by decide⟩
  | succ i => rw [cf_ge (by show 1 ≤ i + 1; omega)]; exact Fr.zero _ _
theorem Fr.sc {M N : Nat} {q : Rat} (h : Fr M N q) (k : Nat) : Fr M (k * N) (q * (k : Rat)) := by
  obtain ⟨z, e, b⟩ := h
  refine ⟨z * (k : Int), ?_, ?_⟩
  · rw [Rat.intCast_mul, ← e]
    show q * (k : Rat) * (M : Rat) = q * (M : Rat) * (k : Rat)
    grind
  · rw [Int.natAbs_mul, Int.natAbs_natCast, Nat.mul_comm k]
    exact Nat.mul_le_mul_right k b
end Vf
set_option maxRecDepth 100000
set_option exponentiation.threshold 5000
namespace Vf
theorem stp_psc {A : List Rat} {c : Rat} (hA : Stp A) (c0 : c ≠ 0) : Stp (pscale A c) := by
  intro r x e
  have nA : A ≠ [] := fun z => by rw [z] at e; simp [pscale] at e
  have hlen := congrArg List.length e
  rw [psc_len, List.length_append] at hlen
  simp only [List.length_cons, List.length_nil] at hlen
  have hx : cf (pscale A c) (A.length - 1) = x := by
    rw [e, cf_app, if_neg (by omega), show A.length - 1 - r.length = 0 by omega]
    rfl
  rw [cf_psc] at hx
  rw [← hx]
  exact fun z => (Rat.mul_eq_zero.mp z).elim (ne_last hA nA) c0
/-- whole numbers in its place -/
theorem int_row {A : List Rat} {M N : Nat} (hA : Stp A) (nA : A ≠ []) (m0 : 0 < M) (f : ∀ i, Fr M N (cf A i)) : ∃ t : List Int, Stp (qi t) ∧ t ≠ [] ∧ t.length = A.length ∧ (M : Rat) ≠ 0 ∧ (∀ i, (ci t i).natAbs ≤ N) ∧ ∀ x, ev (qi t) x = (M : Rat) * ev A x := by
  have MR : (M : Rat) ≠ 0 := by
    have : M ≠ 0 := by omega
    exact_mod_cast this
  obtain ⟨t, ht, bt⟩ := int_of (L := pscale A (M : Rat)) (N := N) fun i => by
    rw [cf_psc]
    obtain ⟨z, e, hz⟩ := f i
    rw [e]
    exact fr_int z hz
  have lt : t.length = A.length := by rw [← qi_len, ht, psc_len]
  refine ⟨t, by rw [ht]; exact stp_psc hA MR, fun z => nA (List.length_eq_zero_iff.mp (by rw [← lt, z]; rfl)), lt, MR, bt, fun x => by rw [ht, ev_pscale]; grind⟩
theorem slp_ne {A : List Rat} (h : Mo A) (hl : 1 < A.length) : stripQ (slp A) ≠ [] := fun z => by
  have e : cf (slp A) (A.length - 2) = ((A.length - 1 : Nat) : Rat) := by
    unfold slp
    rw [cf_tab, if_pos (by omega), show A.length - 2 + 1 = A.length - 1 by omega, h.t, Rat.one_mul]
  rw [← cf_stripQ, z, cf_nil] at e
  have : (0 : Nat) = A.length - 1 := by exact_mod_cast e
  omega
end Vf
set_option maxRecDepth 100000
set_option maxHeartbeats 8000000
namespace Vf
open PySem PySem.Spec PyProof.Rows L2
def spSlope (K : PySem.W.Frag) (CP : Addr) : Sp := fun vs H Q _ => ∃ (a : Addr) (A : List Rat), vs = [.ref a] ∧ PolyQ K CP H a A ∧ A.length ≤ 13 ∧ (∀ i, Sr (cf A i)) ∧ ∀ (x : Addr) (H' : Hp), Same H H' → PolyQ K CP H' x (stripQ (pslope A)) → Q (.ref x) H'
abbrev sSlope : Stmt := inClass (topS 40) 12
section
variable {P : Program} {w : World} {K : PySem.W.Frag} {mg : Str → Option Value} {base : Heap} {CP CR CN : Addr}
theorem scSlope : FnScope ["self", "power"] ["self"] (defScope sSlope) := ⟨rfl, rfl, rfl, by decide +kernel, rfl, by decide +kernel, by decide +kernel⟩
theorem ok_slope {f : Addr} {fd : FuncData} (F : Fun K "slope" "Poly.slope" sSlope f fd) (T : Bk mg) (PM : PoM P w K mg base CP CR) (Gm : Dx P w K mg base "times" 4 ["one", "other"] (spTwo K CN (okLow gTimes))) : FnOk P w K mg base (L2.CX P w) 7 f fd ["self"] (spSlope K CP) := by
  refine F.okX scSlope (fun vs H Q E h => ?_) (fun cdv A0 outer s H vs Q E hr h => ?_)
  · obtain ⟨a, A, rfl, _⟩ := h
    rfl
  · obtain ⟨a, A, rfl, ⟨dx, t, as, h1, h2, h3⟩, lA, sA, q⟩ := h
    refine ⟨_, (pss_one (ps_ret (pe_make PM.mkI PM.okI (hr.mono (by decide)) rfl PM.C.m PM.bI .nil passL (pa_cons (pe_lc (own := [("power", 1)]) (g := gName 1) (tt := tYes) rfl scSlope.nd (pi_range2 (by rfl) T.range (pa_cons pe_int (pa_cons (pe_callB call_len_seq (by rfl) T.len (by decide +kernel) (pa_cons (pe_fld (pv 0) rfl) pa_nil)) pa_nil))) (blkOk_by (N := ["self", "power"]) (sc := defScope sSlope) (by decide +kernel)) (fun _ _ _ _ _ => pg_name (i := 1) scSlope.nd rfl (Or.inl rfl)) (fun _ _ _ _ _ => pts_nil)
      (fun _ _ _ _ _ => (pe_call Gm.ok (hr.mono (by decide)) rfl Gm.m Gm.kp Gm.b .nil passL (pa_cons (pe_ix (r := rIxT K) ix_tup (pe_fldK (K := K) rfl (pv 0) rfl) (pv 1) (fun _ _ => rfl)) (pa_cons (pv 1) pa_nil))))) pa_nil)))), ?_⟩
    have n1 := h3.lenQ
    refine ⟨_, rfl, a, CP, dx, _, .ref t, rfl, h1, PM.C.cl, PM.C.nf, (by kernel_rfl), t, _, rfl, .inr (SqT.of h2), ?_⟩
    rw [List.length_map, n1]
    refine ⟨_, _, rfl, ⟨by omega, by omega, by omega, by omega⟩, fun D hD => lc_range (lo := 1) (n := ((A.length : Nat) - 1 : Int).toNat) (fun i H' => Same H H' ∧ ∃ zs, H' D = some (.lst (zs.map V.ref)) ∧ Tups H' zs ((tab i fun j => cf A (j + 1) * ((j + 1 : Nat) : Rat)).map pq)) ⟨same_upd hD, [], upd_same, .nil⟩ ?_ ?_⟩
    · rintro i H' hi ⟨ss, zs, eD, tz⟩
      have hi : i + 1 < A.length := by omega
      obtain ⟨ra, g1, g2⟩ := h3.getQ hi
      have ga : (as.map V.ref)[i + 1]? = some (V.ref ra) := by rw [List.getElem?_map, g1]; rfl
      refine ⟨rfl, ?_⟩
      refine ⟨_, rfl, a, CP, dx, _, .ref t, rfl, ss _ _ h1, PM.C.cl, PM.C.nf, (by kernel_rfl), _, rfl, t, _, _, .ref ra, rfl, rfl, SqT.of (ss _ _ h2), at_of (j := i + 1) (by omega) ga, _, rfl, ?_⟩
      have e1 : (1 + (i : Int)) = ((i + 1 : Nat) : Int) := by omega
      rw [e1]
      refine ⟨_, _, pairD (pq (cf A (i + 1))), .int ((i + 1 : Nat) : Int), rfl, .tup (SqT.of (ss _ _ g2)) (.cons (.int _) (.cons (.int _) .nil)), .int _, fun t' b' x c h5 h6 => ?_, (fun z => by rw [parts_q] at z; cases z), (fun _ z => by cases z)⟩
      rw [parts_q] at h5
      cases h5
      cases h6
      have zz := sr_z2 (sA (i + 1))
      refine ⟨zz.1, zz.2, ?_, (by show (1 : Int).natAbs < 2 ^ 4300; decide +kernel), fun r' H'' s' er => ?_⟩
      · show (((i + 1 : Nat) : Int)).natAbs < 2 ^ 4300
        rw [Int.natAbs_natCast]
        exact Nat.lt_of_lt_of_le (show i + 1 < 2 ^ 10 by omega) (Nat.pow_le_pow_right (by decide) (by decide))
      have er : TR H'' r' (cf A (i + 1) * ((i + 1 : Nat) : Rat)) := by
        have d0 := (cf A (i + 1)).den_pos
        have z := low_mul (A := (cf A (i + 1)).num * ((i + 1 : Nat) : Int)) (M := ((cf A (i + 1)).den : Int) * 1) (q := cf A (i + 1) * ((i + 1 : Nat) : Rat)) (by omega) (by
          rw [Int.mul_one, Rat.intCast_mul]
          have e := num_den (cf A (i + 1))
          have e2 : (((cf A (i + 1)).den : Int) : Rat) = ((cf A (i + 1)).den : Rat) := by exact_mod_cast rfl
          have e3 : ((((i + 1 : Nat) : Int)) : Rat) = ((i + 1 : Nat) : Rat) := by exact_mod_cast rfl
          rw [← e, e2, e3]
          grind)
        unfold gTimes at er
        rw [z] at er
        exact er
      have eD' := s' _ _ eD
      refine ⟨_, eD', ?_, (fun b' o' e' => ?_), zs ++ [r'], ?_, ?_⟩
      · have := tz.lenQ
        rw [tab_len] at this
        rw [List.length_map, sizeLine_eq]
        omega
      · rw [upd_ne (ne_of_none e' hD)]
        exact s' _ _ (ss _ _ e')
      · rw [upd_same, List.map_append]
        rfl
      · rw [tab_snoc]
        have up : ∀ (c : Addr) (p : Int × Int), H'' c = some (.tup [.int p.1, .int p.2]) → upd H'' D (.lst (zs.map V.ref ++ [V.ref r'])) c = some (.tup [.int p.1, .int p.2]) := fun c p z => by
          rw [upd_ne (ne_of z eD' (by intro z; cases z))]
          exact z
        exact Tups.snocQ ((tz.same s').imp up) (up _ (pq _) er)
    · rintro H' ⟨ss, zs, eD, tz⟩
      rw [show ((A.length : Nat) - 1 : Int).toNat = A.length - 1 by omega] at tz
      refine poly_rl ⟨zs, eD, tz⟩ (by rw [tab_len]; omega) (fun qq hq => ?_) fun x H2 s2 nx made => q x H2 (ss.trans s2) made
      obtain ⟨j, rfl⟩ := mem_tab hq
      have f1 := Fr.self (cf A (j + 1))
      have f2 : Fr 1 (j + 1) ((j + 1 : Nat) : Rat) := ⟨((j + 1 : Nat) : Int), by rw [show ((1 : Nat) : Rat) = 1 from rfl, Rat.mul_one]; exact_mod_cast rfl, by rw [Int.natAbs_natCast]; exact Nat.le_refl _⟩
      have f3 := ((f1.mul f2).size (by have := (cf A (j + 1)).den_pos; omega)).2
      rw [Nat.mul_one] at f3
      exact Nat.lt_of_le_of_lt f3 (Nat.lt_trans (sA _).2 (Nat.pow_lt_pow_right (by decide) (by decide)))
end
end Vf
set_option maxRecDepth 100000
namespace Vf
/-- the slope's value -/
def hd (x : Int) : List Int → Int
  | [] => 0
  | _ :: r => hz x r + x * hd x r
def slk : Nat → List Int → List Int
  | _, [] => []
  | k, a :: r => (k : Int) * a :: slk (k + 1) r
theorem hz_slk (x : Int) : ∀ (r : List Int) (k : Nat), hz x (slk k r) = (k : Int) * hz x r + x * hd x r
  | [], k => by simp [slk, hz, hd]
  | a :: r, k => by
    have ih := hz_slk x r (k + 1)
    show (k : Int) * a + x * hz x (slk (k + 1) r) = (k : Int) * (a + x * hz x r) + x * (hz x r + x * hd x r)
    rw [ih, Int.natCast_add]
    grind
/-- the slope's row -/
def slz : List Int → List Int
  | [] => []
  | _ :: r => slk 1 r
theorem hz_slz (x : Int) : ∀ l : List Int, hz x (slz l) = hd x l
  | [] => rfl
  | a :: r => by
    show hz x (slk 1 r) = hz x r + x * hd x r
    rw [hz_slk]
    grind
theorem hz_taylor (x h : Int) : ∀ l : List Int, ∃ g, hz (x + h) l = hz x l + h * hd x l + h * h * g
  | [] => ⟨0, by simp [hz, hd]⟩
  | a :: r => by
    obtain ⟨g, e⟩ := hz_taylor x h r
    refine ⟨hd x r + x * g + h * g, ?_⟩
    show a + (x + h) * hz (x + h) r = a + x * hz x r + h * (hz x r + x * hd x r) + h * h * (hd x r + x * g + h * g)
    rw [e]
    grind
theorem hz_mod (x y : Int) (l : List Int) : x - y ∣ hz x l - hz y l := by
  obtain ⟨g, e⟩ := hz_taylor y (x - y) l
  rw [show y + (x - y) = x by omega] at e
  exact ⟨hd y l + (x - y) * g, by rw [e]; grind⟩
theorem hz_cong {m x y : Int} (l : List Int) (h : m ∣ x - y) : m ∣ hz x l - hz y l := Int.dvd_trans h (hz_mod x y l)
theorem hd_cong {m x y : Int} (l : List Int) (h : m ∣ x - y) : m ∣ hd x l - hd y l := by
  rw [← hz_slz, ← hz_slz]
  exact hz_cong _ h
/-- a step of Newton's -/
theorem newton {R : List Int} {m r r' c c' : Int} (h1 : m ∣ hz r R) (h2 : m ∣ c * hd r R - 1) (e1 : m * m ∣ r' - (r - hz r R * c)) (e2 : m * m ∣ c' - c * (2 - hd r' R * c)) : m * m ∣ hz r' R ∧ m ∣ r' - r ∧ m * m ∣ c' * hd r' R - 1 := by
  have mm : m ∣ m * m := ⟨m, rfl⟩
  obtain ⟨a, ha⟩ := h1
  obtain ⟨b, hb⟩ := h2
  have r1 : m ∣ r' - r := by
    have := Int.dvd_trans mm e1
    obtain ⟨t, ht⟩ := this
    exact ⟨t - a * c, by rw [Int.mul_sub, ← ht, ha]; grind⟩
  refine ⟨?_, r1, ?_⟩
  · have h3 := hz_cong R e1
    obtain ⟨g, eg⟩ := hz_taylor r (-(hz r R * c)) R
    have h4 : m * m ∣ hz (r - hz r R * c) R := by
      rw [show r - hz r R * c = r + -(hz r R * c) by omega, eg]
      refine ⟨-(a * b) + a * a * c * c * g, ?_⟩
      have : hd r R * c = 1 + m * b := by
        have : c * hd r R = 1 + m * b := by omega
        rw [← this]
        grind
      rw [ha]
      have e : m * a + -(m * a * c) * hd r R = m * a - m * a * (hd r R * c) := by grind
      rw [e, this]
      grind
    have := Int.dvd_add h3 h4
    rwa [Int.sub_add_cancel] at this
  · have hd1 : m ∣ c * hd r' R - 1 := by
      have h5 := hd_cong R r1
      obtain ⟨t, ht⟩ := h5
      refine ⟨b + c * t, ?_⟩
      have : hd r' R = hd r R + m * t := by omega
      rw [this]
      have : c * (hd r R + m * t) - 1 = (c * hd r R - 1) + m * (c * t) := by grind
      rw [this, hb]
      grind
    obtain ⟨u, hu⟩ := hd1
    obtain ⟨v, hv⟩ := e2
    refine ⟨v * hd r' R - u * u, ?_⟩
    have e : c' = c * (2 - hd r' R * c) + m * m * v := by omega
    have e3 : c * hd r' R = 1 + m * u := by omega
    have e4 : c' * hd r' R - 1 = (c * hd r' R) * (2 - c * hd r' R) - 1 + m * m * v * hd r' R := by
      rw [e]
      grind
    rw [e4, e3]
    grind
theorem dvdl {m a : Int} (h : m ∣ a) (c : Int) : m ∣ a * c := Int.dvd_trans h ⟨c, rfl⟩
theorem dvdr {m a : Int} (h : m ∣ a) (c : Int) : m ∣ c * a := by rw [Int.mul_comm]; exact dvdl h c
theorem pow_dvd {p u : Int} (h : p ∣ u) : ∀ n : Nat, p ^ n ∣ u ^ n
  | 0 => by rw [Int.pow_zero, Int.pow_zero]; exact Int.dvd_refl 1
  | n + 1 => by
    rw [Int.pow_succ, Int.pow_succ]
    exact Int.mul_dvd_mul (pow_dvd h n) h
theorem geo_dvd (u : Int) : ∀ n : Nat, 1 - u ∣ 1 - u ^ n
  | 0 => by rw [Int.pow_zero]; exact ⟨0, by grind⟩
  | n + 1 => by
    obtain ⟨t, ht⟩ := geo_dvd u n
    refine ⟨1 + u * t, ?_⟩
    have : u ^ n = 1 - (1 - u) * t := by omega
    rw [Int.pow_succ, this]
    grind
theorem unit_pow {p u d : Int} (h : p ∣ u) (n : Nat) (hd : p ^ n ∣ d * (1 - u)) : p ^ n ∣ d := by
  have h1 : p ^ n ∣ d * (1 - u ^ n) := by
    obtain ⟨t, ht⟩ := geo_dvd u n
    rw [ht, ← Int.mul_assoc]
    exact dvdl hd _
  have h2 : p ^ n ∣ d * u ^ n := dvdr (pow_dvd h n) _
  have := Int.dvd_add h1 h2
  rwa [← Int.mul_add, show 1 - u ^ n + u ^ n = 1 by omega, Int.mul_one] at this
/-- lifted zeros that agree ahead of it agree -/
theorem lift_uniq {R : List Int} {p x y c : Int} {n : Nat} (hx : p ^ n ∣ hz x R) (hy : p ^ n ∣ hz y R) (hc : p ^ n ∣ c * hd x R - 1) (h : p ∣ y - x) : p ^ n ∣ y - x := by
  obtain ⟨g, e⟩ := hz_taylor x (y - x) R
  rw [show x + (y - x) = y by omega] at e
  have h1 : p ^ n ∣ hz y R - hz x R := Int.dvd_sub hy hx
  have h2 : p ^ n ∣ (y - x) * (hd x R + (y - x) * g) := by
    have : hz y R - hz x R = (y - x) * (hd x R + (y - x) * g) := by rw [e]; grind
    rwa [this] at h1
  have h3 : p ^ n ∣ (y - x) * (1 - -((y - x) * g * c)) := by
    have a := dvdl h2 c
    have b := dvdr hc (y - x)
    have := Int.dvd_sub a b
    have e : (y - x) * (hd x R + (y - x) * g) * c - (y - x) * (c * hd x R - 1) = (y - x) * (1 - -((y - x) * g * c)) := by grind
    rwa [e] at this
  refine unit_pow ?_ n h3
  obtain ⟨t, ht⟩ := h
  exact ⟨-(t * g * c), by rw [ht]; grind⟩
theorem inv_pow {p b b1 : Int} (h : p ∣ b * b1 - 1) : ∀ n : Nat, ∃ b', p ^ n ∣ b * b' - 1
  | 0 => ⟨0, by rw [Int.pow_zero]; exact Int.one_dvd _⟩
  | n + 1 => by
    obtain ⟨b', hb⟩ := inv_pow h n
    refine ⟨b' + b1 - b * b' * b1, ?_⟩
    rw [Int.pow_succ]
    have := Int.mul_dvd_mul hb h
    have e : b * (b' + b1 - b * b' * b1) - 1 = -((b * b' - 1) * (b * b1 - 1)) := by grind
    rw [e]
    exact Int.dvd_neg.mpr this
/-- the row's value with two parts, over one bottom -/
def hv (a b : Int) : List Int → Int
  | [] => 0
  | c :: r => c * b ^ r.length + a * hv a b r
theorem hv_res {M a b b' : Int} (h : M ∣ b * b' - 1) : ∀ R : List Int, M ∣ b ^ R.length * hz (a * b') R - b * hv a b R
  | [] => by simp [hz, hv]
  | c :: r => by
    obtain ⟨t, ht⟩ := hv_res (a := a) h r
    obtain ⟨u, hu⟩ := h
    refine ⟨a * t + u * a * b ^ r.length * hz (a * b') r, ?_⟩
    show b ^ (r.length + 1) * (c + a * b' * hz (a * b') r) - b * (c * b ^ r.length + a * hv a b r) = _
    rw [Int.pow_succ]
    have e1 : b * b' = 1 + M * u := by omega
    have e2 : b ^ r.length * b * (c + a * b' * hz (a * b') r) - b * (c * b ^ r.length + a * hv a b r) = a * ((b * b') * (b ^ r.length * hz (a * b') r) - b * hv a b r) := by grind
    rw [e2, e1]
    have e3 : b * hv a b r = b ^ r.length * hz (a * b') r - M * t := by omega
    rw [e3]
    grind
theorem hv_zero {p a b b' : Int} {n : Nat} {R : List Int} (h : p ^ n ∣ b * b' - 1) (z : hv a b R = 0) : p ^ n ∣ hz (a * b') R := by
  have h1 := hv_res (a := a) h R
  rw [z, Int.mul_zero, Int.sub_zero] at h1
  have h2 : ∀ k : Nat, p ^ n ∣ b ^ k * hz (a * b') R → p ^ n ∣ hz (a * b') R := fun k => by
    induction k with
    | zero => intro z; rwa [Int.pow_zero, Int.one_mul] at z
    | succ k ih =>
      intro z
      refine ih ?_
      rw [Int.pow_succ] at z
      have a1 := dvdr z b'
      have a2 := dvdl h (b ^ k * hz (a * b') R)
      have := Int.dvd_sub a1 a2
      have e : b' * (b ^ k * b * hz (a * b') R) - (b * b' - 1) * (b ^ k * hz (a * b') R) = b ^ k * hz (a * b') R := by grind
      rwa [e] at this
  exact h2 _ h1
theorem ev_hv {a b : Int} (hb : b ≠ 0) : ∀ R : List Int, ev (qi R) ((a : Rat) / (b : Rat)) * (b : Rat) ^ R.length = (b : Rat) * ((hv a b R : Int) : Rat)
  | [] => by
    show (0 : Rat) * _ = _ * ((0 : Int) : Rat)
    rw [show ((0 : Int) : Rat) = 0 from rfl]
    grind
  | c :: r => by
    have ih := ev_hv (a := a) hb r
    have hb' : (b : Rat) ≠ 0 := cast_ne hb
    show ((c : Rat) + (a : Rat) / (b : Rat) * ev (qi r) ((a : Rat) / (b : Rat))) * (b : Rat) ^ (r.length + 1) = _ * ((c * b ^ r.length + a * hv a b r : Int) : Rat)
    rw [Rat.pow_succ, Rat.intCast_add, Rat.intCast_mul, Rat.intCast_mul, Rat.intCast_pow]
    have e : (a : Rat) / (b : Rat) * (b : Rat) = (a : Rat) := Rat.div_mul_cancel hb'
    have e2 : ((c : Rat) + (a : Rat) / (b : Rat) * ev (qi r) ((a : Rat) / (b : Rat))) * ((b : Rat) ^ r.length * (b : Rat)) = (b : Rat) * ((c : Rat) * (b : Rat) ^ r.length) + ((a : Rat) / (b : Rat) * (b : Rat)) * (ev (qi r) ((a : Rat) / (b : Rat)) * (b : Rat) ^ r.length) := by grind
    rw [e2, e, ih]
    grind
theorem hv_iff {a b : Int} (hb : b ≠ 0) (R : List Int) : hv a b R = 0 ↔ ev (qi R) ((a : Rat) / (b : Rat)) = 0 := by
  have h := ev_hv (a := a) hb R
  have hb' : (b : Rat) ≠ 0 := cast_ne hb
  constructor
  · intro z
    rw [z, show ((0 : Int) : Rat) = 0 from rfl, Rat.mul_zero] at h
    rcases Rat.mul_eq_zero.mp h with z | z
    · exact z
    · exact absurd z (by
        clear h z
        induction R.length with
        | zero => rw [Rat.pow_zero]; decide +kernel
        | succ n ih =>
          rw [Rat.pow_succ]
          intro z
          rcases Rat.mul_eq_zero.mp z with z | z
          · exact ih z
          · exact hb' z)
  · intro z
    rw [z, Rat.zero_mul] at h
    rcases Rat.mul_eq_zero.mp h.symm with z | z
    · exact absurd z hb'
    · exact_mod_cast z
end Vf
set_option maxRecDepth 100000
namespace Vf
/-- what a search by divisors tells -/
theorem pr_of {n : Nat} (odd : n % 2 = 1) (h3 : 3 ≤ n) (h : ∀ d, 3 ≤ d → d % 2 = 1 → d * d ≤ n → ¬ d ∣ n) : Pr n := by
  have key : ∀ d e, n = d * e → d ≠ 1 → e ≠ 1 → d ≤ e → False := fun d e he d1 e1 hde => by
    have do' : d % 2 = 1 := by
      rcases Nat.mod_two_eq_zero_or_one d with z | z
      · rw [he, Nat.mul_mod, z, Nat.zero_mul, Nat.zero_mod] at odd
        omega
      · exact z
    exact h d (by omega) do' (by rw [he]; exact Nat.mul_le_mul_left d hde) ⟨e, he⟩
  refine ⟨by omega, fun d hd => ?_⟩
  obtain ⟨e, he⟩ := hd
  by_cases d1 : d = 1
  · exact .inl d1
  · by_cases e1 : e = 1
    · exact .inr (by rw [he, e1, Nat.mul_one])
    · rcases Nat.le_total d e with z | z
      · exact (key d e he d1 e1 z).elim
      · exact (key e d (by rw [he, Nat.mul_comm]) e1 d1 z).elim
theorem pr_no {n d : Nat} (hp : Pr n) (h3 : 3 ≤ d) (hd : d * d ≤ n) (h : d ∣ n) : False := by
  have := Nat.mul_le_mul_left d h3
  rcases hp.2 d h with z | z
  · omega
  · rw [← z] at hd
    omega
theorem absR_mul (x y : Rat) : absR (x * y) = absR x * absR y := by
  have key : ∀ a b : Rat, 0 ≤ a → 0 ≤ b → absR (a * b) = absR a * absR b ∧ absR (-(a * b)) = absR a * absR b := fun a b ha hb => by
    have h := Rat.mul_nonneg ha hb
    have e1 : absR a = a := by unfold absR; split <;> grind
    have e2 : absR b = b := by unfold absR; split <;> grind
    have e3 : absR (a * b) = a * b := by unfold absR; split <;> grind
    have e4 : absR (-(a * b)) = a * b := by unfold absR; split <;> grind
    rw [e1, e2, e3, e4]
    exact ⟨rfl, rfl⟩
  have ng : ∀ a : Rat, absR (-a) = absR a := fun a => by unfold absR; split <;> split <;> grind
  by_cases hx : 0 ≤ x
  · by_cases hy : 0 ≤ y
    · exact (key x y hx hy).1
    · have := (key x (-y) hx (by grind)).2
      rw [show -(x * -y) = x * y by grind, ng] at this
      exact this
  · by_cases hy : 0 ≤ y
    · have := (key (-x) y (by grind) hy).2
      rw [show -(-x * y) = x * y by grind, ng] at this
      exact this
    · have := (key (-x) (-y) (by grind) (by grind)).1
      rw [show -x * -y = x * y by grind, ng, ng] at this
      exact this
/-- no zero is far -/
theorem zero_near {L : Rat} (hL : 0 < L) {m q : Rat} (hm : 0 ≤ m) (far : L + m < L * absR q) : ∀ {l : List Rat}, (∀ x ∈ l, absR x ≤ m) → L ≤ absR (ev (l ++ [L]) q)
  | [], _ => by
    show L ≤ absR (L + q * 0)
    rw [Rat.mul_zero, Rat.add_zero]
    exact (absR_self L).1
  | c :: r, h => by
    have ih := zero_near hL hm far (l := r) fun x hx => h x (List.mem_cons_of_mem _ hx)
    have hc := h c (List.mem_cons_self ..)
    show L ≤ absR (c + q * ev (r ++ [L]) q)
    generalize ev (r ++ [L]) q = e at ih ⊢
    have h1 : absR (q * e) ≤ absR (c + q * e) + absR c := by
      have := absR_add (c + q * e) (-c)
      rw [show c + q * e + -c = q * e by grind] at this
      have n : absR (-c) = absR c := by unfold absR; split <;> split <;> grind
      rwa [n] at this
    have h2 : absR (q * e) = absR q * absR e := absR_mul q e
    have h3 : L * absR q ≤ absR q * absR e := by
      have := Rat.mul_nonneg (absR_nn q) (show 0 ≤ absR e - L by grind)
      grind
    grind
theorem copz {a b v : Int} (h : Int.gcd a b = 1) (z : b ∣ a * v) : b ∣ v := by
  have h1 : b.natAbs ∣ a.natAbs * v.natAbs := by
    rw [← Int.natAbs_mul]
    exact Int.natAbs_dvd_natAbs.mpr z
  exact Int.natAbs_dvd_natAbs.mp (Nat.Coprime.dvd_of_dvd_mul_left (Nat.Coprime.symm h) h1)
theorem den_lead {a b L : Int} (h : Int.gcd a b = 1) : ∀ r : List Int, b ∣ hv a b (r ++ [L]) → b ∣ L
  | [], z => by
    have e : hv a b ([] ++ [L]) = L := by show L * b ^ 0 + a * 0 = L; rw [Int.pow_zero]; grind
    rwa [e] at z
  | c :: r, z => by
    have e : hv a b (c :: r ++ [L]) = c * b ^ (r ++ [L]).length + a * hv a b (r ++ [L]) := rfl
    rw [e, List.length_append] at z
    have z1 : b ∣ c * b ^ (r.length + [L].length) := dvdr ⟨b ^ r.length, by show b ^ (r.length + 1) = _; rw [Int.pow_succ, Int.mul_comm]⟩ c
    have z2 : b ∣ a * hv a b (r ++ [L]) := by
      have := Int.dvd_sub z z1
      rwa [show c * b ^ (r.length + [L].length) + a * hv a b (r ++ [L]) - c * b ^ (r.length + [L].length) = a * hv a b (r ++ [L]) by omega] at this
    refine den_lead h r ?_
    exact copz h z2
/-- fits a row: the prime does not divide the lead, and all zeros are simple -/
structure ZFit (R : List Int) (L : Int) (p : Nat) : Prop where
  pr : Pr p
  ld : ¬ (p : Int) ∣ L
  sm : ∀ r : Int, (p : Int) ∣ hz r R → ¬ (p : Int) ∣ hd r R
theorem cast_ev {L : Int} (r : List Int) (q : Rat) : ev (qi (r ++ [L])) q = ev (qi r ++ [(L : Rat)]) q := by rw [qi_app]; rfl
theorem zero_most {r : List Int} {L : Int} (hL : 0 < L) {mx : Int} (hm : ∀ x ∈ r, x ≤ mx ∧ -x ≤ mx) (m0 : 0 ≤ mx) {q : Rat} (hq : ev (qi (r ++ [L])) q = 0) : (L : Rat) * absR q ≤ ((L + mx : Int) : Rat) := by
  refine Rat.not_lt.mp fun far => ?_
  rw [cast_ev] at hq
  have hL' : (0 : Rat) < (L : Rat) := by exact_mod_cast hL
  have hm' : (0 : Rat) ≤ (mx : Rat) := by exact_mod_cast m0
  have := zero_near hL' hm' (q := q) (by rw [Rat.intCast_add] at far; exact far) (l := qi r) fun x hx => by
    obtain ⟨z, hz, rfl⟩ := List.mem_map.mp hx
    obtain ⟨h1, h2⟩ := hm z hz
    exact absR_le (by exact_mod_cast h1) (by rw [← Rat.intCast_neg]; exact_mod_cast h2)
  rw [hq, show absR 0 = 0 by unfold absR; split <;> grind] at this
  exact absurd this (Rat.not_le.mpr hL')
/-- each ratio where the row is zero is found -/
theorem found_of {r : List Int} {L : Int} {p : Nat} (F : ZFit (r ++ [L]) L p) {q : Rat} (hq : ev (qi (r ++ [L])) q = 0) :
    ∃ N y : Int, (N : Rat) = (L : Rat) * q ∧ (p : Int) ∣ hz y (r ++ [L]) ∧ ∀ (n : Nat) (root c : Int), (p : Int) ^ (n + 1) ∣ hz root (r ++ [L]) → (p : Int) ^ (n + 1) ∣ c * hd root (r ++ [L]) - 1 → (p : Int) ∣ root - y → (p : Int) ^ (n + 1) ∣ L * root - N := by
  have hb : (q.den : Int) ≠ 0 := by have := q.den_pos; omega
  have hv0 : hv q.num q.den (r ++ [L]) = 0 := (hv_iff hb _).mpr (by
    have e := Rat.num_divInt_den q
    rw [Rat.divInt_eq_div] at e
    rw [e]
    exact hq)
  have hg : Int.gcd q.num q.den = 1 := q.reduced
  obtain ⟨k, hk⟩ := den_lead hg r (by rw [hv0]; exact Int.dvd_zero _)
  have pb : ¬ (p : Int) ∣ (q.den : Int) := fun z => F.ld (by rw [hk]; exact dvdl z k)
  obtain ⟨w, z, hw⟩ := inv_ex F.pr pb
  have hw1 : (p : Int) ∣ (q.den : Int) * w - 1 := ⟨z, by omega⟩
  have p1 : ∀ n : Nat, (p : Int) ∣ (p : Int) ^ (n + 1) := fun n => ⟨(p : Int) ^ n, by rw [Int.pow_succ, Int.mul_comm]⟩
  refine ⟨k * q.num, q.num * w, ?_, ?_, fun n root c h1 h2 h3 => ?_⟩
  · rw [hk, Rat.intCast_mul, Rat.intCast_mul]
    have e := Rat.num_divInt_den q
    rw [Rat.divInt_eq_div] at e
    have e2 : (q.num : Rat) = q * ((q.den : Int) : Rat) := by
      have := Rat.div_mul_cancel (a := (q.num : Rat)) (cast_ne hb)
      rw [e] at this
      exact this.symm
    rw [e2]
    grind
  · have := hv_zero (n := 1) (by rw [Int.pow_one]; exact hw1) hv0
    rwa [Int.pow_one] at this
  · obtain ⟨b', hb'⟩ := inv_pow hw1 (n + 1)
    have hy := hv_zero hb' hv0
    have a1 := Int.dvd_trans (p1 n) hb'
    have a2 : (p : Int) ∣ b' - w := by
      have x1 := dvdr (Int.dvd_sub a1 hw1) w
      have x2 := dvdl hw1 (b' - w)
      have := Int.dvd_sub x1 x2
      have e : w * (q.den * b' - 1 - (q.den * w - 1)) - (q.den * w - 1) * (b' - w) = b' - w := by grind
      rwa [e] at this
    have a3 : (p : Int) ∣ q.num * b' - root := by
      have x1 := Int.dvd_sub (dvdr a2 q.num) h3
      have e : q.num * (b' - w) - (root - q.num * w) = q.num * b' - root := by grind
      rwa [e] at x1
    have u := lift_uniq h1 hy h2 a3
    have v1 := dvdr u L
    have v2 := dvdr hb' (k * q.num)
    have := Int.dvd_sub v2 v1
    have e : k * q.num * (q.den * b' - 1) - L * (q.num * b' - root) = L * root - k * q.num := by rw [hk]; grind
    rwa [e] at this
end Vf
set_option maxRecDepth 100000
set_option maxHeartbeats 8000000
namespace Vf
open PySem PySem.Spec PyProof.Rows L2
def spIsPrime : Sp := fun vs H Q _ => ∃ n : Nat, vs = [.int (n : Int)] ∧ n % 2 = 1 ∧ 3 ≤ n ∧ n < 2 ^ 40 ∧ ∀ (b : Bool) (H' : Hp), Same H H' → (b = true ↔ Pr n) → Q (.bl b) H'
/-- slope_of_row -/
def spSlz : Sp := fun vs H Q _ => ∃ (l : Addr) (ns : List Int), vs = [.ref l] ∧ RI H l ns ∧ ns ≠ [] ∧ ns.length ≤ 100 ∧ (∀ i, (ci ns i).natAbs < 2 ^ 1000) ∧ ∀ (l' : Addr) (H' : Hp), Same H H' → RI H' l' (slz ns) → Q (.ref l') H'
def spAmong : Sp := fun vs H Q _ => ∃ (l : Addr) (ns : List Int) (x m : Int), vs = [.ref l, .int x, .int m] ∧ RI H l ns ∧ ns.length ≤ 100 ∧ (∀ i, (ci ns i).natAbs < 2 ^ 1010) ∧ x.natAbs < 2 ^ 1000 ∧ 0 < m ∧ m.natAbs < 2 ^ 1000 ∧ ∀ H', Same H H' → Q (.int (hz x ns % m)) H'
theorem rEq_int {x y : Int} {H : Hp} {B : Bool → Hp → Prop} (g : x = y → B true H) (h : x ≠ y → B false H) : rEq (.int x) (.int y) H (fun v H' => ∃ k, v = V.bl k ∧ B k H') := by
  by_cases e : x = y
  · exact ⟨rfl, true, by rw [decide_eq_true (by rw [e])], g e⟩
  · exact ⟨rfl, false, by rw [decide_eq_false (fun z => e (V.int.inj z))], h e⟩
theorem slk_len : ∀ (k : Nat) (l : List Int), (slk k l).length = l.length
  | _, [] => rfl
  | k, a :: r => congrArg (· + 1) (slk_len (k + 1) r)
theorem slk_get : ∀ (k : Nat) (l : List Int) (i : Nat), i < l.length → (slk k l)[i]? = some (((k + i : Nat) : Int) * ci l i)
  | k, a :: r, 0, _ => rfl
  | k, a :: r, i + 1, h => by
    have := slk_get (k + 1) r i (Nat.lt_of_succ_lt_succ h)
    show (slk (k + 1) r)[i]? = some (((k + (i + 1) : Nat) : Int) * ci r i)
    rw [this, show k + 1 + i = k + (i + 1) by omega]
theorem slz_len (l : List Int) : (slz l).length = l.length - 1 := by
  cases l with
  | nil => rfl
  | cons a r => exact slk_len 1 r
theorem slz_get (l : List Int) (i : Nat) (h : i + 1 < l.length) : (slz l)[i]? = some (((1 + i : Nat) : Int) * ci l (i + 1)) := by
  cases l with
  | nil => exact absurd h (Nat.not_lt_zero _)
  | cons a r => exact slk_get 1 r i (Nat.lt_of_succ_lt_succ h)
/-- the value of what stands from k on -/
theorem hz_drop (x : Int) (ns : List Int) {k : Nat} (h : k < ns.length) : hz x (ns.drop k) = ci ns k + x * hz x (ns.drop (k + 1)) := by
  rw [List.drop_eq_getElem_cons h]
  show ns[k] + _ = _
  have : ci ns k = ns[k] := by
    unfold ci
    rw [List.getD_eq_getElem?_getD, List.getElem?_eq_getElem h]
    rfl
  rw [this]
section
variable {P : Program} {w : World} {K : PySem.W.Frag} {mg : Str → Option Value} {base : Heap} {CP CR CN CI : Addr}
abbrev sIsPrime : Stmt := topS 59
theorem scIsPrime : FnScope ["number", "divisor"] ["number"] (defScope sIsPrime) := ⟨rfl, rfl, rfl, by decide +kernel, rfl, by decide +kernel, by decide +kernel⟩
theorem ok_is_prime {f : Addr} {fd : FuncData} (F : Fun K "is_prime" "is_prime" sIsPrime f fd) : FnOk P w K mg base CX0 1 f fd ["number"] spIsPrime := by
  refine F.ok scIsPrime (fun vs H Q E h => ?_) (fun cdv A outer s H vs Q E hr h => ?_)
  · obtain ⟨n, rfl, _⟩ := h
    rfl
  · obtain ⟨n, rfl, odd, n3, nb, q⟩ := h
    refine ⟨_, (pss_cons (ps_set (i := 1) scIsPrime.nd rfl (Or.inl rfl) pe_int)
  (pss_cons (ps_while PassesOwn.never (pt_cmpR op_le (pe_op op_mulW (pv 1) (pv 1)) (pv 0) (nomark _))
    (pss_cons (ps_if (pt_cmpR op_eq (pe_op op_mod (pv 0) (pv 1)) pe_int (nomark _))
      (pss_one (ps_ret pe_bl))
      pss_nil)
    (pss_one (ps_set (i := 1) scIsPrime.nd rfl (Or.inl rfl) (pe_op op_add (pv 1) pe_int)))))
  (pss_one (ps_ret pe_bl)))), ?_⟩
    refine ⟨fun m σ H' => ∃ d : Nat, σ = [some (.int (n : Int)), some (.int (d : Int))] ∧ Same H H' ∧ d % 2 = 1 ∧ 3 ≤ d ∧ d ≤ n + 2 ∧ (∀ e, 3 ≤ e → e % 2 = 1 → e < d → ¬ e ∣ n) ∧ m = n + 2 - d, ⟨_, 3, rfl, Same.refl _, by decide, by decide, by omega, fun e h1 _ h2 => by omega, rfl⟩, ?_⟩
    rintro m σ H2 ⟨d, rfl, s2, dodd, d3, dn, hno, rfl⟩
    refine ⟨_, rfl, _, rfl, _, _, rfl, rfl, wide_mul (a := 50) (b := 50) (by omega) (by omega) (by decide) (by decide) (by decide), _, rfl, _, _, rfl, rfl, ?_⟩
    by_cases dd : d * d ≤ n
    · refine ⟨true, congrArg V.bl (decide_eq_true (by exact_mod_cast dd)), ?_⟩
      refine iteT ?_
      have dle : d ≤ n := by
        have := Nat.mul_le_mul_left d d3
        omega
      refine ⟨fun σ' H' => ∃ e : Nat, σ' = [some (.int (n : Int)), some (.int (e : Int))] ∧ Same H H' ∧ e = d + 2 ∧ ¬ d ∣ n, fun σ' H' ⟨e, e1, e2, e3, e4⟩ => ⟨_, ?_, e, e1, e2, by omega, by omega, by omega, fun u u1 u2 u3 => ?_, rfl⟩, ?_⟩
      · omega
      · by_cases ud : u = d
        · rw [ud]
          exact e4
        · exact hno u u1 u2 (by omega)
      · refine ⟨_, rfl, _, rfl, _, _, rfl, rfl, (by show (0 : Int) < (d : Int); omega), ?_⟩
        dsimp only [tC]
        refine rEq_int (fun z => ?_) fun z => ?_
        · refine iteT ?_
          refine q false H2 s2 ⟨fun y => (by cases y), fun y => ?_⟩
          have h1 : (d : Int) ∣ (n : Int) := Int.dvd_of_emod_eq_zero z
          exact (pr_no y d3 dd (by exact_mod_cast h1)).elim
        · refine iteF ?_
          dsimp only [tNext]
          refine ⟨_, rfl, _, _, rfl, rfl, d + 2, rfl, s2, rfl, fun y => z ?_⟩
          exact Int.emod_eq_zero_of_dvd (by exact_mod_cast y)
    · refine ⟨false, congrArg V.bl (decide_eq_false (by intro y; exact dd (by exact_mod_cast y))), ?_⟩
      refine iteF ?_
      refine q true H2 s2 ⟨fun _ => ?_, fun _ => rfl⟩
      refine pr_of odd n3 fun e e3 eo ee => hno e e3 eo ?_
      rcases Nat.lt_or_ge e d with y | y
      · exact y
      · exact absurd (Nat.le_trans (Nat.mul_le_mul y y) ee) dd
abbrev sSlz : Stmt := topS 60
theorem scSlz : FnScope ["row", "power"] ["row"] (defScope sSlz) := ⟨rfl, rfl, rfl, by decide +kernel, rfl, by decide +kernel, by decide +kernel⟩
theorem ok_slz {f : Addr} {fd : FuncData} (F : Fun K "slope_of_row" "slope_of_row" sSlz f fd) (T : Bk mg) : FnOk P w K mg base CX0 1 f fd ["row"] spSlz := by
  refine F.ok scSlz (fun vs H Q E h => ?_) (fun cdv A outer s H vs Q E hr h => ?_)
  · obtain ⟨l, ns, rfl, _⟩ := h
    rfl
  · obtain ⟨l, ns, rfl, rl, n0, nl, nb, q⟩ := h
    refine ⟨_, (pss_one (ps_ret (pe_lc (own := [("power", 1)]) (g := (gName 1)) (tt := tYes) rfl scSlz.nd (pi_range2 (by rfl) T.range (pa_cons pe_int (pa_cons (pe_callB call_len_seq (by rfl) T.len (by decide +kernel) (pa_cons (pv 0) pa_nil)) pa_nil))) (blkOk_by (N := ["row", "power"]) (sc := defScope sSlz) (by decide +kernel)) (fun _ _ _ _ _ => pg_name (i := 1) scSlz.nd rfl (Or.inl rfl)) (fun _ _ _ _ _ => pts_nil) (fun _ _ _ _ _ => (pe_op op_mulW (pv 1) (pe_ix (r := rIxL K) ix_list (pv 0) (pv 1) (fun _ _ => rfl))))))), ?_⟩
    have l0 := List.length_pos_iff.mpr n0
    refine ⟨_, rfl, l, _, rfl, .inl (SqL.of rl), ?_⟩
    rw [List.length_map]
    refine ⟨1, _, rfl, ⟨by decide, by decide, by omega, by omega⟩, fun D hD => ?_⟩
    rw [show ((ns.length : Int) - 1).toNat = ns.length - 1 by omega]
    refine lc_range (lo := 1) (n := ns.length - 1) (fun i H' => Same H H' ∧ H' D = some (.lst ((((slz ns).take i)).map V.int))) ⟨same_upd hD, upd_same⟩ ?_ ?_
    · rintro i H2 hi ⟨s2, eD⟩
      refine ⟨rfl, ?_⟩
      refine ⟨_, rfl, _, rfl, _, rfl, l, _, _, .int (ci ns (i + 1)), rfl, rfl, SqL.of (s2 _ _ rl), at_of (j := i + 1) (by omega) (RI.at (H := H) (l := l) (by omega)), _, _, rfl, rfl, wide_mul (a := 100) (b := 1000) (by omega) (nb _) (by decide) (by decide) (by decide), ?_⟩
      refine ⟨_, eD, ?_, fun b o e => ?_, ?_⟩
      · rw [List.length_map, List.length_take, sizeLine_eq]
        omega
      · rw [upd_ne (ne_of_none e hD)]
        exact s2 _ _ e
      · rw [upd_same, List.take_add_one, slz_get ns i (by omega), List.map_append, show ((1 + i : Nat) : Int) = 1 + (i : Int) by omega]
        rfl
    · rintro H2 ⟨s2, eD⟩
      rw [List.take_of_length_le (by rw [slz_len]; exact Nat.le_refl _)] at eD
      exact q D H2 s2 eD
abbrev sAmong : Stmt := topS 61
theorem scAmong : FnScope ["row", "point", "modulus", "value", "number"] ["row", "point", "modulus"] (defScope sAmong) := ⟨rfl, rfl, rfl, by decide +kernel, rfl, by decide +kernel, by decide +kernel⟩
theorem ok_among {f : Addr} {fd : FuncData} (F : Fun K "value_among" "value_among" sAmong f fd) : FnOk P w K mg base CX0 1 f fd ["row", "point", "modulus"] spAmong := by
  refine F.ok scAmong (fun vs H Q E h => ?_) (fun cdv A outer s H vs Q E hr h => ?_)
  · obtain ⟨l, ns, x, m, rfl, _⟩ := h
    rfl
  · obtain ⟨l, ns, x, m, rfl, rl, nl, nb, xb, m0, mb, q⟩ := h
    refine ⟨_, (pss_cons (ps_set (i := 3) scAmong.nd rfl (Or.inl rfl) pe_int)
  (pss_cons (ps_for PassesOwn.never rfl (pi_list (pe_revL (pv 0))) (pg_name (i := 4) scAmong.nd rfl (Or.inl rfl))
    (pss_one (ps_set (i := 3) scAmong.nd rfl (Or.inl rfl) (pe_op op_mod (pe_op op_add (pe_op op_mulW (pv 3) (pv 1)) (pv 4)) (pv 2)))))
  (pss_one (ps_ret (pv 3))))), ?_⟩
    refine ⟨_, rfl, l, _, rfl, SqL.of rl, fun lr nlr => ?_⟩
    have elr : upd H lr (HO.lst (ns.map V.int).reverse) lr = some (HO.lst (ns.map V.int).reverse) := upd_same
    have s3 : Same H (upd H lr (HO.lst (ns.map V.int).reverse)) := same_upd nlr
    generalize upd H lr (HO.lst (ns.map V.int).reverse) = H3 at elr s3 ⊢
    refine ⟨lr, rfl, ⟨_, SqL.of elr⟩, for_list (K := K) (a := lr) (xs := (ns.map V.int).reverse) (fun j σ H' => ∃ (val : Int) (v4 : Option V), σ = [some (.ref l), some (.int x), some (.int m), some (.int val), v4] ∧ Same H3 H' ∧ val = hz x (ns.drop (ns.length - j)) % m)
      ⟨0, none, rfl, Same.refl _, ?_⟩ (fun j σ H' _ ⟨_, _, _, ss, _⟩ => SqL.of (ss _ _ elr)) ?_ ?_⟩
    · rw [Nat.sub_zero, List.drop_length]
      exact (Int.zero_emod m).symm
    · rintro j y σ H4 hj ⟨val, v4, rfl, s4, hv⟩
      obtain ⟨rfl, hjl⟩ := rev_ci hj
      have v0 := Int.emod_nonneg (hz x (ns.drop (ns.length - j))) (show m ≠ 0 by omega)
      have v1 := Int.emod_lt_of_pos (hz x (ns.drop (ns.length - j))) m0
      rw [← hv] at v0 v1
      refine ⟨_, rfl, _, rfl, _, _, rfl, rfl, wide_mul (a := 1000) (b := 1000) (by omega) xb (by decide) (by decide) (by decide), _, rfl, _, _, rfl, rfl, _, rfl, _, _, rfl, rfl, m0, ?_⟩
      refine ⟨_, _, rfl, s4, ?_⟩
      rw [hv, show ns.length - (j + 1) = ns.length - 1 - j by omega, hz_drop x ns (k := ns.length - 1 - j) (by omega), show ns.length - 1 - j + 1 = ns.length - j by omega, Int.add_emod, Int.mul_emod, Int.emod_emod_of_dvd _ (Int.dvd_refl m), ← Int.mul_emod, ← Int.add_emod, Int.add_comm, Int.mul_comm]
    · rintro σ H4 ⟨val, v4, rfl, s4, hv⟩
      rw [List.length_reverse, List.length_map, Nat.sub_self, List.drop_zero] at hv
      refine ⟨_, rfl, ?_⟩
      rw [hv]
      exact q H4 (s3.trans s4)
end
end Vf
set_option maxRecDepth 100000
set_option maxHeartbeats 8000000
namespace Vf
open PySem PySem.Spec PyProof.Rows L2
def zrs (ns : List Int) (p : Nat) : List Int := ((List.range p).filter fun r : Nat => decide (hz (r : Int) ns % (p : Int) = 0)).map fun r : Nat => (r : Int)
theorem hz_short (x p : Int) : ∀ l : List Int, hz x (l.map (· % p)) % p = hz x l % p
  | [] => rfl
  | a :: r => by
    show (a % p + x * hz x (r.map (· % p))) % p = (a + x * hz x r) % p
    rw [Int.add_emod, Int.mul_emod, hz_short x p r, ← Int.mul_emod, Int.emod_emod_of_dvd _ (Int.dvd_refl p), ← Int.add_emod]
theorem mem_zrs {ns : List Int} {p : Nat} {r : Int} : r ∈ zrs ns p ↔ 0 ≤ r ∧ r < p ∧ (p : Int) ∣ hz r ns := by
  unfold zrs
  rw [List.mem_map]
  constructor
  · rintro ⟨k, hk, rfl⟩
    rw [List.mem_filter, List.mem_range] at hk
    exact ⟨by omega, by omega, Int.dvd_of_emod_eq_zero (of_decide_eq_true hk.2)⟩
  · rintro ⟨h0, h1, h2⟩
    refine ⟨r.toNat, ?_, by omega⟩
    rw [List.mem_filter, List.mem_range]
    refine ⟨by omega, decide_eq_true ?_⟩
    rw [show ((r.toNat : Nat) : Int) = r by omega]
    exact Int.emod_eq_zero_of_dvd h2
/-- what is looked at tells whether the prime fits -/
theorem zfit_iff {ns : List Int} {L : Int} {p : Nat} (hp : Pr p) (hL : ¬ (p : Int) ∣ L) : ZFit ns L p ↔ ∀ r ∈ zrs ns p, hz r (slz ns) % (p : Int) ≠ 0 := by
  have p1 := hp.1
  constructor
  · intro F r hr z
    rw [hz_slz] at z
    exact F.sm r (mem_zrs.mp hr).2.2 (Int.dvd_of_emod_eq_zero z)
  · intro h
    refine ⟨hp, hL, fun r hr z => ?_⟩
    have m0 := Int.emod_nonneg r (show (p : Int) ≠ 0 by omega)
    have m1 := Int.emod_lt_of_pos r (show (0 : Int) < p by omega)
    have e : (p : Int) ∣ r % (p : Int) - r := by
      have := Int.mul_ediv_add_emod r p
      exact ⟨-(r / p), by grind⟩
    have h1 : (p : Int) ∣ hz (r % (p : Int)) ns := by
      have := Int.dvd_add (hz_cong ns e) hr
      rwa [Int.sub_add_cancel] at this
    have h2 : (p : Int) ∣ hd (r % (p : Int)) ns := by
      have := Int.dvd_add (hd_cong ns e) z
      rwa [Int.sub_add_cancel] at this
    refine h _ (mem_zrs.mpr ⟨m0, m1, h1⟩) ?_
    rw [hz_slz]
    exact Int.emod_eq_zero_of_dvd h2
theorem tnil_k {σ : L2.St} {H : Hp} {k : List V → Hp → Prop} (h : k [] H) : tNil σ H k := h
theorem filt_yes {f : Nat → Bool} {i : Nat} (h : f i = true) : (List.range (i + 1)).filter f = (List.range i).filter f ++ [i] := by
  rw [List.range_succ, List.filter_append]
  simp [h]
theorem filt_no {f : Nat → Bool} {i : Nat} (h : f i = false) : (List.range (i + 1)).filter f = (List.range i).filter f := by
  rw [List.range_succ, List.filter_append]
  simp [h]
def spZR : Sp := fun vs H Q _ => ∃ (l : Addr) (ns : List Int) (p : Nat), vs = [.ref l, .int (p : Int)] ∧ RI H l ns ∧ ns.length ≤ 100 ∧ 1 < p ∧ p < 2 ^ 20 ∧ ∀ (l' : Addr) (H' : Hp), Same H H' → RI H' l' (zrs ns p) → Q (.ref l') H'
def spFP : Sp := fun vs H Q _ => ∃ (l : Addr) (ns : List Int) (L : Int) (p0 : Nat), vs = [.ref l] ∧ RI H l ns ∧ ns ≠ [] ∧ ci ns (ns.length - 1) = L ∧ ns.length ≤ 100 ∧ (∀ i, (ci ns i).natAbs < 2 ^ 1000) ∧ ZFit ns L p0 ∧ p0 % 2 = 1 ∧ 211 ≤ p0 ∧ p0 < 2 ^ 19 ∧
  ∀ (t l' : Addr) (p : Nat) (H' : Hp), Same H H' → H' t = some (.tup [.int (p : Int), .ref l']) → RI H' l' (zrs ns p) → ZFit ns L p → 211 ≤ p → p < 2 ^ 19 → Q (.ref t) H'
/-- where a lifted zero stands -/
structure LiftOk (ns : List Int) (p : Nat) (r root M : Int) : Prop where
  w : ∃ (n : Nat) (c : Int), M = (p : Int) ^ (n + 1) ∧ M ∣ hz root ns ∧ M ∣ c * hd root ns - 1
  r : (p : Int) ∣ root - r
  r0 : 0 ≤ root
  r1 : root < M
def spLift : Sp := fun vs H Q _ => ∃ (l : Addr) (ns : List Int) (r limit : Int) (p : Nat), vs = [.ref l, .int r, .int (p : Int), .int limit] ∧ RI H l ns ∧ ns ≠ [] ∧ ns.length ≤ 100 ∧ (∀ i, (ci ns i).natAbs < 2 ^ 1000) ∧ Pr p ∧ p < 2 ^ 19 ∧ 0 ≤ r ∧ r < p ∧ (p : Int) ∣ hz r ns ∧ ¬ (p : Int) ∣ hd r ns ∧ limit.natAbs < 2 ^ 400 ∧
  ∀ (t : Addr) (root M : Int) (H' : Hp), Same H H' → H' t = some (.tup [.int root, .int M]) → LiftOk ns p r root M → 2 * limit < M → M < 2 ^ 900 → Q (.ref t) H'
section
variable {P : Program} {w : World} {K : PySem.W.Frag} {mg : Str → Option Value} {base : Heap} {CP CR CN CI : Addr}
abbrev sZR : Stmt := topS 62
theorem scZR : FnScope ["row", "prime", "short", "number", "residue"] ["row", "prime"] (defScope sZR) := ⟨rfl, rfl, rfl, by decide +kernel, rfl, by decide +kernel, by decide +kernel⟩
theorem ok_zr {f : Addr} {fd : FuncData} (F : Fun K "zero_residues" "zero_residues" sZR f fd) (T : Bk mg) (G_value_among : Df P w K mg base "value_among" 1 ["row", "point", "modulus"] spAmong) : FnOk P w K mg base CX0 2 f fd ["row", "prime"] spZR := by
  refine F.ok scZR (fun vs H Q E h => ?_) (fun cdv A outer s H vs Q E hr h => ?_)
  · obtain ⟨l, ns, p, rfl, _⟩ := h
    rfl
  · obtain ⟨l, ns, p, rfl, hl, ln, p1, pb, q⟩ := h
    refine ⟨_, (pss_cons (ps_set (i := 2) scZR.nd rfl (Or.inr rfl) (pe_lc (own := [("number", 3)]) (g := (gName 3)) (tt := tYes) rfl scZR.nd (pi_seq (pv 0)) (blkOk_by (N := ["row", "prime", "short", "number", "residue"]) (sc := defScope sZR) (by decide +kernel)) (fun _ _ _ _ _ => pg_name (i := 3) scZR.nd rfl (Or.inl rfl)) (fun _ _ _ _ _ => pts_nil) (fun _ _ _ _ _ => (pe_op op_mod (pv 3) (pv 1)))))
  (pss_one (ps_ret (pe_lc (own := [("residue", 4)]) (g := (gName 4)) (tt := _) rfl scZR.nd (pi_range1 (by rfl) T.range (pa_cons (pv 1) pa_nil)) (blkOk_by (N := ["row", "prime", "short", "number", "residue"]) (sc := defScope sZR) (by decide +kernel)) (fun _ _ _ _ _ => pg_name (i := 4) scZR.nd rfl (Or.inl rfl)) (fun _ _ _ _ _ => pts_one (pt_cmpR op_eq (pe_call G_value_among.ok (hr.mono (by decide)) rfl G_value_among.m G_value_among.kp G_value_among.b .nil pass0 (pa_cons (pv 2) (pa_cons (pv 4) (pa_cons (pv 1) pa_nil)))) pe_int (nomark _))) (fun _ _ _ _ _ => (pv 4)))))), ?_⟩
    have p0 : (0 : Int) < (p : Int) := by omega
    refine ⟨_, rfl, l, rfl, lc_seq (xs := ns.map V.int) (.inl (SqL.of hl)) (fun D i H' => Same H H' ∧ H' D = some (.lst (((ns.map (· % (p : Int))).take i).map V.int))) ?_ ?_ ?_ ?_⟩
    · intro D hD
      exact ⟨same_upd hD, upd_same⟩
    · intro D i H2 hD ⟨s2, _⟩
      exact ⟨same_sqL s2, same_sqT s2⟩
    · intro D i x H' hD hi ⟨ss, eD⟩
      have hi' : i < ns.length := by
        have := (List.getElem?_eq_some_iff.mp hi).1
        rw [List.length_map] at this
        exact this
      rw [List.getElem?_map, ci_lt hi'] at hi
      cases hi
      refine ⟨rfl, ?_⟩
      refine ⟨_, rfl, _, rfl, _, _, rfl, rfl, p0, ?_⟩
      refine ⟨_, eD, (by rw [List.length_map, List.length_take, List.length_map, sizeLine_eq]; omega), fun b o e => ?_, ?_⟩
      · rw [upd_ne (ne_of_none e hD)]
        exact ss _ _ e
      · rw [upd_same, List.take_add_one, List.getElem?_map, ci_lt hi', List.map_append]
        rfl
    · intro D H1 hD ⟨s1, eD⟩
      rw [List.take_of_length_le (by rw [List.length_map, List.length_map]; exact Nat.le_refl _)] at eD
      refine ⟨_, rfl, (p : Int), rfl, by omega, by omega, fun D2 hD2 => ?_⟩
      rw [Int.toNat_natCast]
      refine lc_range (lo := 0) (n := p) (fun i H' => Same H1 H' ∧ H' D2 = some (.lst ((((List.range i).filter fun r : Nat => decide (hz (r : Int) ns % (p : Int) = 0)).map fun r : Nat => (r : Int)).map V.int))) ⟨same_upd hD2, upd_same⟩ ?_ ?_
      · rintro i H2 hi ⟨s2, e2⟩
        rw [Int.zero_add]
        refine ⟨rfl, ?_⟩
        have bsh : ∀ j, (ci (ns.map (· % (p : Int))) j).natAbs < 2 ^ 1010 := fun j => by
          refine Nat.lt_of_lt_of_le (show _ < 2 ^ 20 from ?_) (Nat.pow_le_pow_right (by decide) (by decide))
          by_cases hj : j < ns.length
          · have : ci (ns.map (· % (p : Int))) j = ns[j] % (p : Int) := by
              unfold ci
              rw [List.getD_eq_getElem?_getD, List.getElem?_map, List.getElem?_eq_getElem hj]
              rfl
            rw [this]
            have a1 := Int.emod_nonneg ns[j] (show (p : Int) ≠ 0 by omega)
            have a2 := Int.emod_lt_of_pos ns[j] p0
            omega
          · rw [ci_ge (by rw [List.length_map]; omega)]
            decide
        have b20 : (2 : Nat) ^ 20 < 2 ^ 1000 := Nat.pow_lt_pow_right (by decide) (by decide)
        refine ⟨_, rfl, _, rfl, _, rfl, ?_⟩
        refine tnil_k ?_
        refine ⟨D, _, (i : Int), (p : Int), rfl, s2 _ _ eD, by rw [List.length_map]; exact ln, bsh, by omega, p0, by omega, fun H3 s3 => ?_⟩
        dsimp only [tC]
        rw [hz_short]
        have e3 := s3 _ _ e2
        have s13 := s2.trans s3
        refine rEq_int (fun z => ?_) fun z => ?_
        · refine iteT ?_
          refine ⟨_, rfl, _, e3, ?_, fun b o e => ?_, ?_⟩
          · rw [List.length_map, List.length_map, sizeLine_eq]
            have := List.length_filter_le (fun r : Nat => decide (hz (r : Int) ns % (p : Int) = 0)) (List.range i)
            rw [List.length_range] at this
            omega
          · rw [upd_ne (ne_of_none e hD2)]
            exact s13 _ _ e
          · rw [upd_same, filt_yes (f := fun r : Nat => decide (hz (r : Int) ns % (p : Int) = 0)) (decide_eq_true z), List.map_append, List.map_append]
            rfl
        · refine iteF ?_
          refine ⟨s13, ?_⟩
          rw [e3, filt_no (f := fun r : Nat => decide (hz (r : Int) ns % (p : Int) = 0)) (decide_eq_false z)]
      · rintro H2 ⟨s2, e2⟩
        exact q D2 H2 (s1.trans s2) e2
end
end Vf
set_option maxRecDepth 100000
set_option maxHeartbeats 8000000
namespace Vf
open PySem PySem.Spec PyProof.Rows L2
def LiftW (l ls : Addr) (ns : List Int) (r limit : Int) (p : Nat) (H1 : Hp) (M : Int) : L2.St → Hp → Prop := fun σ H' => ∃ (n : Nat) (root c : Int), σ = [some (.ref l), some (.int r), some (.int (p : Int)), some (.int limit), some (.ref ls), some (.int root), some (.int M), some (.int c)] ∧ Same H1 H' ∧ M = (p : Int) ^ (n + 1) ∧ M ∣ hz root ns ∧ M ∣ c * hd root ns - 1 ∧ (p : Int) ∣ root - r ∧ 0 ≤ root ∧ root < M ∧ 0 ≤ c ∧ c < M ∧ M < 2 ^ 900 ∧ 1 < M
theorem slz_bd {ns : List Int} (ln : ns.length ≤ 100) (bn : ∀ i, (ci ns i).natAbs < 2 ^ 1000) (i : Nat) : (ci (slz ns) i).natAbs < 2 ^ 1010 := by
  by_cases h : i + 1 < ns.length
  · have e : ci (slz ns) i = ((1 + i : Nat) : Int) * ci ns (i + 1) := by
      unfold ci
      rw [List.getD_eq_getElem?_getD, slz_get ns i h]
      rfl
    rw [e, Int.natAbs_mul, Int.natAbs_natCast]
    have h1 := Nat.mul_le_mul (show 1 + i ≤ 2 ^ 10 by omega) (Nat.le_of_lt (bn (i + 1)))
    have h2 := bn (i + 1)
    have h3 : (1 + i) * (ci ns (i + 1)).natAbs < 2 ^ 10 * 2 ^ 1000 := Nat.lt_of_le_of_lt (Nat.mul_le_mul_right _ (show 1 + i ≤ 2 ^ 10 by omega)) (Nat.mul_lt_mul_of_pos_left h2 (by decide))
    rwa [← Nat.pow_add] at h3
  · rw [ci_ge (by rw [slz_len]; omega)]
    exact Nat.pow_pos (by decide)
theorem emod_back (a m : Int) : m ∣ a % m - a := ⟨-(a / m), by have := Int.mul_ediv_add_emod a m; grind⟩
section
variable {P : Program} {w : World} {K : PySem.W.Frag} {mg : Str → Option Value} {base : Heap} {CP CR CN CI : Addr}
abbrev sFP : Stmt := topS 58
theorem scFP : FnScope ["row", "slope", "prime", "residues", "residue"] ["row"] (defScope sFP) := ⟨rfl, rfl, rfl, by decide +kernel, rfl, by decide +kernel, by decide +kernel⟩
theorem ok_fp {f : Addr} {fd : FuncData} (F : Fun K "fitting_prime" "fitting_prime" sFP f fd) (T : Bk mg) (hall : mg "all" = none) {tFP : Tok} (m_FIRST_PRIME : mg "FIRST_PRIME" = some (.int 211 tFP)) (G_slope_of_row : Df P w K mg base "slope_of_row" 1 ["row"] spSlz) (G_is_prime : Df P w K mg base "is_prime" 1 ["number"] spIsPrime) (G_zero_residues : Df P w K mg base "zero_residues" 2 ["row", "prime"] spZR) (G_value_among : Df P w K mg base "value_among" 1 ["row", "point", "modulus"] spAmong) : FnOk P w K mg base CX0 3 f fd ["row"] spFP := by
  refine F.ok scFP (fun vs H Q E h => ?_) (fun cdv A outer s H vs Q E hr h => ?_)
  · obtain ⟨l, ns, L, p0, rfl, _⟩ := h
    rfl
  · obtain ⟨l, ns, L, p0, rfl, hl, n0, eL, ln, bn, F0, odd0, p211, p19, q⟩ := h
    refine ⟨_, (pss_cons (ps_set (i := 1) scFP.nd rfl (Or.inr rfl) (pe_call G_slope_of_row.ok (hr.mono (by decide)) rfl G_slope_of_row.m G_slope_of_row.kp G_slope_of_row.b .nil pass0 (pa_cons (pv 0) pa_nil)))
  (pss_cons (ps_set (i := 2) scFP.nd rfl (Or.inr rfl) (pe_glob (v := V.int 211) rfl m_FIRST_PRIME ⟨_, rfl⟩))
  (pss_one (ps_while PassesOwn.never (pt_val pe_bl)
    (pss_cons (ps_if (PW.pt (pw_and (pt_val (pe_call G_is_prime.ok (hr.mono (by decide)) rfl G_is_prime.m G_is_prime.kp G_is_prime.b .nil pass0 (pa_cons (pv 2) pa_nil))) (pw_and1 (pt_cmpR op_ne (pe_op op_mod (pe_ix ix_list (pv 0) (pe_un un_neg pe_int) (fun _ _ => rfl)) (pv 2)) pe_int (nomark _)))))
      (pss_cons (ps_set (i := 3) scFP.nd rfl (Or.inl rfl) (pe_call G_zero_residues.ok (hr.mono (by decide)) rfl G_zero_residues.m G_zero_residues.kp G_zero_residues.b .nil pass0 (pa_cons (pv 0) (pa_cons (pv 2) pa_nil))))
      (pss_one (ps_if (pt_val (pe_callB (cr_all rfl) (by rfl) hall (by decide +kernel) (pa_cons (pe_lc (own := [("residue", 4)]) (g := (gName 4)) (tt := tYes) rfl scFP.nd (pi_seq (pv 3)) (blkOk_by (N := ["row", "slope", "prime", "residues", "residue"]) (sc := defScope sFP) (by decide +kernel)) (fun _ _ _ _ _ => pg_name (i := 4) scFP.nd rfl (Or.inl rfl)) (fun _ _ _ _ _ => pts_nil) (fun _ _ _ _ _ => (pe_cmpR op_ne (pe_call G_value_among.ok (hr.mono (by decide)) rfl G_value_among.m G_value_among.kp G_value_among.b .nil pass0 (pa_cons (pv 1) (pa_cons (pv 4) (pa_cons (pv 2) pa_nil)))) pe_int (nomark _)))) pa_nil)))
        (pss_one (ps_ret (pe_tup (pa_cons (pv 2) (pa_cons (pv 3) pa_nil)))))
        pss_nil)))
      pss_nil)
    (pss_one (ps_set (i := 2) scFP.nd rfl (Or.inr rfl) (pe_op op_add (pv 2) pe_int)))))))), ?_⟩
    have l0 := List.length_pos_iff.mpr n0
    have lsl : (slz ns).length ≤ 100 := by rw [slz_len]; omega
    have bsl := slz_bd ln bn
    have b19 : (2 : Nat) ^ 19 < 2 ^ 1000 := Nat.pow_lt_pow_right (by decide) (by decide)
    refine ⟨_, rfl, ?_⟩
    refine tnil_k ?_
    refine ⟨l, ns, rfl, hl, n0, ln, bn, fun ls H1 s1 hs => ?_⟩
    refine ⟨fun m σ H' => ∃ (p : Nat) (v3 v4 : Option V), σ = [some (.ref l), some (.ref ls), some (.int (p : Int)), v3, v4] ∧ Same H1 H' ∧ p % 2 = 1 ∧ 211 ≤ p ∧ p ≤ p0 ∧ m = p0 - p, ⟨_, 211, none, none, rfl, Same.refl _, by decide, by decide, p211, rfl⟩, ?_⟩
    rintro m σ H2 ⟨p, v3, v4, rfl, s2, odd, p2, pp0, rfl⟩
    refine ⟨_, rfl, ?_⟩
    refine iteT ?_
    refine ⟨fun σ' H' => ∃ (v3 v4 : Option V), σ' = [some (.ref l), some (.ref ls), some (.int ((p + 2 : Nat) : Int)), v3, v4] ∧ Same H1 H' ∧ ¬ ZFit ns L p, fun σ' H' ⟨v3, v4, e1, e2, e3⟩ => ⟨p0 - (p + 2), ?_, p + 2, v3, v4, e1, e2, by omega, by omega, ?_, rfl⟩, ?_⟩
    · have : p ≠ p0 := fun z => e3 (by rw [z]; exact F0)
      omega
    · have : p ≠ p0 := fun z => e3 (by rw [z]; exact F0)
      omega
    have pz : (0 : Int) < (p : Int) := by omega
    refine seq_step (fun σ' H' => ∃ (v3 v4 : Option V), σ' = [some (.ref l), some (.ref ls), some (.int (p : Int)), v3, v4] ∧ Same H1 H' ∧ ¬ ZFit ns L p) (fun k hk => ?_) (fun σ' H' ⟨v3, v4, e1, e2, e3⟩ => ?_)
    · refine ⟨_, rfl, ?_⟩
      refine tnil_k ?_
      refine ⟨p, rfl, odd, by omega, Nat.lt_of_lt_of_le (show p < 2 ^ 19 by omega) (by decide), fun b H3 s3 hb => ?_⟩
      refine ⟨_, rfl, ?_⟩
      have s23 := s2.trans s3
      cases b with
      | false =>
        refine iteF ?_
        refine iteF ?_
        dsimp only [tNext]
        exact hk _ _ ⟨v3, v4, rfl, s23, fun F => by have := hb.mpr F.pr; cases this⟩
      | true =>
        have hp := hb.mp rfl
        refine iteT ?_
        refine ⟨_, rfl, _, rfl, l, _, _, _, rfl, rfl, SqL.of (s23 _ _ (s1 _ _ hl)), atI_top l0, _, rfl, _, _, rfl, rfl, pz, ?_⟩
        dsimp only [tC]
        rw [eL]
        refine rNe_int (fun z => ?_) fun z => ?_
        · refine iteF ?_
          dsimp only [tNext]
          exact hk _ _ ⟨v3, v4, rfl, s23, fun F => F.ld (Int.dvd_of_emod_eq_zero z)⟩
        · have hL : ¬ (p : Int) ∣ L := fun y => z (Int.emod_eq_zero_of_dvd y)
          refine iteT ?_
          refine ⟨_, rfl, _, rfl, ?_⟩
          refine tnil_k ?_
          refine ⟨l, ns, p, rfl, s23 _ _ (s1 _ _ hl), ln, by omega, Nat.lt_of_lt_of_le (show p < 2 ^ 19 by omega) (by decide), fun lr H4 s4 hr => ?_⟩
          have s14 := s23.trans s4
          have nb : ∀ a : Int, (!decide (V.int a = V.int 0)) = decide (a ≠ 0) := fun a => by
            by_cases e : a = 0
            · rw [e]; rfl
            · rw [decide_eq_false (fun z => e (V.int.inj z)), decide_eq_true e]; rfl
          have zl : (zrs ns p).length ≤ p := by
            unfold zrs
            rw [List.length_map]
            have := List.length_filter_le (fun r : Nat => decide (hz (r : Int) ns % (p : Int) = 0)) (List.range p)
            rwa [List.length_range] at this
          refine ⟨_, rfl, lr, rfl, lc_seq (xs := (zrs ns p).map V.int) (.inl (SqL.of hr)) (fun D i H' => Same H4 H' ∧ H' D = some (.lst (((zrs ns p).take i).map fun r => V.bl (decide (hz r (slz ns) % (p : Int) ≠ 0))))) ?_ ?_ ?_ ?_⟩
          · intro D hD
            exact ⟨same_upd hD, upd_same⟩
          · intro D i H5 hD ⟨s5, _⟩
            exact ⟨same_sqL s5, same_sqT s5⟩
          · intro D i x H5 hD hi ⟨s5, e5⟩
            rw [List.getElem?_map] at hi
            obtain ⟨r, hri, rfl⟩ := Option.map_eq_some_iff.mp hi
            obtain ⟨r0, r1, _⟩ := mem_zrs.mp (List.mem_of_getElem? hri)
            refine ⟨rfl, ?_⟩
            refine ⟨_, rfl, _, rfl, _, rfl, ?_⟩
            refine tnil_k ?_
            refine ⟨ls, slz ns, r, (p : Int), rfl, s5 _ _ (s14 _ _ hs), lsl, bsl, by omega, pz, by omega, fun H6 s6 => ?_⟩
            have e6 := s6 _ _ e5
            refine ⟨rfl, ?_⟩
            rw [nb]
            refine ⟨_, e6, ?_, fun b o e => ?_, ?_⟩
            · rw [List.length_map, List.length_take, sizeLine_eq]
              omega
            · rw [upd_ne (ne_of_none e hD)]
              exact s6 _ _ (s5 _ _ e)
            · rw [upd_same, List.take_add_one, hri, List.map_append]
              rfl
          · intro D H5 hD ⟨s5, e5⟩
            rw [List.take_of_length_le (by rw [List.length_map]; exact Nat.le_refl _)] at e5
            refine tnil_k ?_
            refine ⟨D, (zrs ns p).map fun r => decide (hz r (slz ns) % (p : Int) ≠ 0), rfl, SqL.of (by rw [List.map_map]; exact e5), ?_⟩
            refine ⟨_, rfl, ?_⟩
            have s15 := s14.trans s5
            by_cases al : ∀ r ∈ zrs ns p, hz r (slz ns) % (p : Int) ≠ 0
            · rw [show ((zrs ns p).map fun r => decide (hz r (slz ns) % (p : Int) ≠ 0)).all id = true by
                rw [List.all_eq_true]
                intro b hb
                obtain ⟨r, hr, rfl⟩ := List.mem_map.mp hb
                exact decide_eq_true (al r hr)]
              refine iteT ?_
              refine ⟨_, rfl, _, rfl, (by show 2 ≤ sizeLine; decide), fun t nt => ?_⟩
              exact q t lr p _ ((s1.trans s15).trans (same_upd nt)) upd_same ((same_upd nt) _ _ (s5 _ _ hr)) ((zfit_iff hp hL).mpr al) p2 (by omega)
            · rw [show ((zrs ns p).map fun r => decide (hz r (slz ns) % (p : Int) ≠ 0)).all id = false by
                refine Bool.eq_false_iff.mpr fun z => al fun r hr => ?_
                exact of_decide_eq_true (List.all_eq_true.mp z _ (List.mem_map_of_mem hr))]
              refine iteF ?_
              dsimp only [tNext]
              exact hk _ _ ⟨_, _, rfl, s15, fun F => al ((zfit_iff hp hL).mp F)⟩
    · subst e1
      refine ⟨_, rfl, _, _, rfl, rfl, ?_⟩
      exact ⟨v3, v4, rfl, e2, e3⟩
abbrev sLift : Stmt := topS 63
theorem scLift : FnScope ["row", "residue", "prime", "limit", "slope", "root", "modulus", "factor"] ["row", "residue", "prime", "limit"] (defScope sLift) := ⟨rfl, rfl, rfl, by decide +kernel, rfl, by decide +kernel, by decide +kernel⟩
theorem ok_lift {f : Addr} {fd : FuncData} (F : Fun K "lifted" "lifted" sLift f fd) (G_slope_of_row : Df P w K mg base "slope_of_row" 1 ["row"] spSlz) (G_inverse : Df P w K mg base "inverse" 1 ["number", "prime"] spInv) (G_value_among : Df P w K mg base "value_among" 1 ["row", "point", "modulus"] spAmong) : FnOk P w K mg base CX0 2 f fd ["row", "residue", "prime", "limit"] spLift := by
  refine F.ok scLift (fun vs H Q E h => ?_) (fun cdv A outer s H vs Q E hr h => ?_)
  · obtain ⟨l, ns, r, limit, p, rfl, _⟩ := h
    rfl
  · obtain ⟨l, ns, r, limit, p, rfl, hl, n0, ln, bn, hp, p19, r0, r1, zr, sr, lb, q⟩ := h
    refine ⟨_, (pss_cons (ps_set (i := 4) scLift.nd rfl (Or.inl rfl) (pe_call G_slope_of_row.ok (hr.mono (by decide)) rfl G_slope_of_row.m G_slope_of_row.kp G_slope_of_row.b .nil pass0 (pa_cons (pv 0) pa_nil)))
  (pss_cons (ps_set (i := 5) scLift.nd rfl (Or.inl rfl) (pv 1))
  (pss_cons (ps_set (i := 6) scLift.nd rfl (Or.inl rfl) (pv 2))
  (pss_cons (ps_set (i := 7) scLift.nd rfl (Or.inl rfl) (pe_call G_inverse.ok (hr.mono (by decide)) rfl G_inverse.m G_inverse.kp G_inverse.b .nil pass0 (pa_cons (pe_call G_value_among.ok (hr.mono (by decide)) rfl G_value_among.m G_value_among.kp G_value_among.b .nil pass0 (pa_cons (pv 4) (pa_cons (pv 5) (pa_cons (pv 2) pa_nil)))) (pa_cons (pv 2) pa_nil))))
  (pss_cons (ps_while PassesOwn.never (pt_cmpR op_le (pv 6) (pe_op op_mulW pe_int (pv 3)) (nomark _))
    (pss_cons (ps_set (i := 6) scLift.nd rfl (Or.inl rfl) (pe_op op_mulW (pv 6) (pv 6)))
    (pss_cons (ps_set (i := 5) scLift.nd rfl (Or.inl rfl) (pe_op op_mod (pe_op op_sub (pv 5) (pe_op op_mulW (pe_call G_value_among.ok (hr.mono (by decide)) rfl G_value_among.m G_value_among.kp G_value_among.b .nil pass0 (pa_cons (pv 0) (pa_cons (pv 5) (pa_cons (pv 6) pa_nil)))) (pv 7))) (pv 6)))
    (pss_one (ps_set (i := 7) scLift.nd rfl (Or.inl rfl) (pe_op op_mod (pe_op op_mulW (pv 7) (pe_op op_sub pe_int (pe_op op_mulW (pe_call G_value_among.ok (hr.mono (by decide)) rfl G_value_among.m G_value_among.kp G_value_among.b .nil pass0 (pa_cons (pv 4) (pa_cons (pv 5) (pa_cons (pv 6) pa_nil)))) (pv 7)))) (pv 6)))))))
  (pss_one (ps_ret (pe_tup (pa_cons (pv 5) (pa_cons (pv 6) pa_nil)))))))))), ?_⟩
    have p1 := hp.1
    have big : ∀ {n : Nat}, n < 1000 → (2 : Nat) ^ n < 2 ^ 1000 := fun h => Nat.pow_lt_pow_right (by decide) h
    have b19 := big (n := 19) (by decide)
    refine ⟨_, rfl, ?_⟩
    refine tnil_k ?_
    refine ⟨l, ns, rfl, hl, n0, ln, bn, fun ls H1 s1 hs => ?_⟩
    refine ⟨_, rfl, _, rfl, _, rfl, _, rfl, _, rfl, ?_⟩
    refine tnil_k ?_
    have lsl : (slz ns).length ≤ 100 := by rw [slz_len]; omega
    have bsl := slz_bd ln bn
    have bn' : ∀ i, (ci ns i).natAbs < 2 ^ 1010 := fun i => Nat.lt_trans (bn i) (Nat.pow_lt_pow_right (by decide) (by decide))
    refine ⟨ls, slz ns, r, (p : Int), rfl, hs, lsl, bsl, by omega, by omega, by omega, fun H2 s2 => ?_⟩
    rw [hz_slz]
    refine ⟨_, rfl, ?_⟩
    refine tnil_k ?_
    refine ⟨hd r ns % (p : Int), p, rfl, hp, Nat.lt_trans p19 (Nat.pow_lt_pow_right (by decide) (by decide)), fun z => sr ?_, fun u H3 s3 hu u0 u1 => ?_⟩
    · have := Int.dvd_sub z (emod_back (hd r ns) p)
      rwa [show hd r ns % (p : Int) - (hd r ns % (p : Int) - hd r ns) = hd r ns by omega] at this
    have s13 := s2.trans s3
    have hu' : (p : Int) ∣ u * hd r ns - 1 := by
      have := Int.dvd_sub hu (dvdr (emod_back (hd r ns) p) u)
      have e : u * (hd r ns % (p : Int)) - 1 - u * (hd r ns % (p : Int) - hd r ns) = u * hd r ns - 1 := by grind
      rwa [e] at this
    have z900 : (2 : Int) ^ 900 = ((2 ^ 900 : Nat) : Int) := by rw [Int.natCast_pow]; rfl
    have lb2 : 2 * limit < 2 ^ 401 := by
      have e : (2 : Int) ^ 401 = 2 * ((2 ^ 400 : Nat) : Int) := by rw [Int.natCast_pow, Int.pow_succ]; show (2 : Int) ^ 400 * 2 = 2 * 2 ^ 400; omega
      rw [e]
      omega
    refine ⟨fun m σ H' => ∃ M, LiftW l ls ns r limit p H1 M σ H' ∧ m = (2 * limit + 1 - M).toNat, ⟨_, (p : Int), ⟨0, r, u, rfl, s13, by rw [Int.pow_succ, Int.pow_zero, Int.one_mul], zr, hu', by rw [Int.sub_self]; exact Int.dvd_zero _, r0, r1, u0, u1, ?_, by omega⟩, rfl⟩, ?_⟩
    · rw [z900]
      have := Nat.lt_trans p19 (Nat.pow_lt_pow_right (a := 2) (m := 19) (n := 900) (by decide) (by decide))
      exact_mod_cast this
    rintro m σ H4 ⟨M, ⟨n, root, c, rfl, s4, eM, d1, d2, d3, x0, x1, c0, c1, M9, M1⟩, rfl⟩
    have M9' : M.natAbs < 2 ^ 900 := by
      rw [z900] at M9
      omega
    have w9 : ∀ {x : Int}, 0 ≤ x → x < M → x.natAbs < 2 ^ 900 := fun h1 h2 => by omega
    have w10 : ∀ {x : Int}, x.natAbs < 2 ^ 900 → x.natAbs < 2 ^ 1000 := fun h => Nat.lt_trans h (big (by decide))
    refine ⟨_, rfl, _, rfl, _, _, rfl, rfl, wide_mul (a := 10) (b := 400) (by decide) lb (by decide) (by decide) (by decide), _, _, rfl, rfl, ?_⟩
    by_cases le : M ≤ 2 * limit
    · refine ⟨true, congrArg V.bl (decide_eq_true le), ?_⟩
      refine iteT ?_
      refine ⟨fun σ' H' => LiftW l ls ns r limit p H1 (M * M) σ' H', fun σ' H' z => ⟨_, ?_, M * M, z, rfl⟩, ?_⟩
      · have := Int.mul_lt_mul_of_pos_left M1 (show (0 : Int) < M by omega)
        omega
      have MM0 : (0 : Int) < M * M := Int.mul_pos (by omega) (by omega)
      have MM1 : 1 < M * M := by
        have := Int.mul_lt_mul_of_pos_left M1 (show (0 : Int) < M by omega)
        omega
      have M4 : M < 2 ^ 401 := by omega
      have MM8 : M * M < 2 ^ 802 := by
        have h1 : M * M ≤ M * 2 ^ 401 := Int.mul_le_mul_of_nonneg_left (by omega) (by omega)
        have h2 : M * 2 ^ 401 < 2 ^ 401 * 2 ^ 401 := Int.mul_lt_mul_of_pos_right M4 (Int.pow_pos (by decide))
        rw [← Int.pow_add] at h2
        exact Int.lt_of_le_of_lt h1 h2
      have e802 : (2 : Int) ^ 802 = ((2 ^ 802 : Nat) : Int) := by rw [Int.natCast_pow]; rfl
      have MMn : (M * M).natAbs < 2 ^ 802 := by
        rw [e802] at MM8
        omega
      have MM10 : (M * M).natAbs < 2 ^ 1000 := Nat.lt_trans MMn (big (by decide))
      have MM9 : M * M < 2 ^ 900 := by
        rw [z900]
        have := Nat.lt_trans MMn (Nat.pow_lt_pow_right (a := 2) (m := 802) (n := 900) (by decide) (by decide))
        omega
      refine ⟨_, rfl, _, rfl, _, _, rfl, rfl, wide_mul (a := 900) (b := 900) M9' M9' (by decide) (by decide) (by decide), ?_⟩
      refine ⟨_, rfl, _, rfl, _, rfl, _, rfl, ?_⟩
      refine tnil_k ?_
      refine ⟨l, ns, root, M * M, rfl, s4 _ _ (s1 _ _ hl), ln, bn', w10 (w9 x0 x1), MM0, MM10, fun H5 s5 => ?_⟩
      have v0 := Int.emod_nonneg (hz root ns) (show M * M ≠ 0 by omega)
      have v1 := Int.emod_lt_of_pos (hz root ns) MM0
      have vb := emod_back (hz root ns) (M * M)
      generalize hz root ns % (M * M) = v at v0 v1 vb ⊢
      have vn : v.natAbs < 2 ^ 802 := by omega
      refine ⟨_, rfl, _, _, rfl, rfl, wide_mul (a := 802) (b := 900) vn (w9 c0 c1) (by decide) (by decide) (by decide), _, _, rfl, rfl, _, rfl, _, _, rfl, rfl, MM0, ?_⟩
      have q0 := Int.emod_nonneg (root - v * c) (show M * M ≠ 0 by omega)
      have q1 := Int.emod_lt_of_pos (root - v * c) MM0
      have qb := emod_back (root - v * c) (M * M)
      dsimp only
      generalize (root - v * c) % (M * M) = root' at q0 q1 qb ⊢
      refine ⟨_, rfl, _, rfl, _, rfl, _, rfl, ?_⟩
      refine tnil_k ?_
      refine ⟨ls, slz ns, root', M * M, rfl, s5 _ _ (s4 _ _ hs), lsl, bsl, by omega, MM0, MM10, fun H6 s6 => ?_⟩
      rw [hz_slz]
      have y0 := Int.emod_nonneg (hd root' ns) (show M * M ≠ 0 by omega)
      have y1 := Int.emod_lt_of_pos (hd root' ns) MM0
      have yb := emod_back (hd root' ns) (M * M)
      generalize hd root' ns % (M * M) = y at y0 y1 yb ⊢
      have yc : (y * c).natAbs < 2 ^ 1710 := by
        rw [Int.natAbs_mul]
        have h2 := Nat.mul_lt_mul_of_lt_of_lt (show y.natAbs < 2 ^ 802 by omega) (w9 c0 c1)
        rw [← Nat.pow_add] at h2
        exact Nat.lt_trans h2 (Nat.pow_lt_pow_right (by decide) (by decide))
      have yc2 : (2 - y * c).natAbs < 2 ^ 1711 := by
        have := Int.natAbs_sub_le 2 (y * c)
        rw [Nat.pow_succ]
        have : 2 < 2 ^ 1710 := Nat.lt_of_lt_of_le (show 2 < 2 ^ 2 by decide) (Nat.pow_le_pow_right (by decide) (by decide))
        omega
      refine ⟨_, rfl, _, _, rfl, rfl, wide_mul (a := 802) (b := 900) (by omega) (w9 c0 c1) (by decide) (by decide) (by decide), _, _, rfl, rfl, _, _, rfl, rfl, wide_mul (a := 900) (b := 1711) (w9 c0 c1) yc2 (by decide) (by decide) (by decide), _, rfl, _, _, rfl, rfl, MM0, ?_⟩
      have g0 := Int.emod_nonneg (c * (2 - y * c)) (show M * M ≠ 0 by omega)
      have g1 := Int.emod_lt_of_pos (c * (2 - y * c)) MM0
      have gb := emod_back (c * (2 - y * c)) (M * M)
      dsimp only
      generalize c * (2 - y * c) % (M * M) = c' at g0 g1 gb ⊢
      have e1 : M * M ∣ root' - (root - hz root ns * c) := by
        have := Int.dvd_sub qb (dvdl vb c)
        have e : root' - (root - v * c) - (v - hz root ns) * c = root' - (root - hz root ns * c) := by grind
        rwa [e] at this
      have e2 : M * M ∣ c' - c * (2 - hd root' ns * c) := by
        have := Int.dvd_sub gb (dvdl yb (c * c))
        have e : c' - c * (2 - y * c) - (y - hd root' ns) * (c * c) = c' - c * (2 - hd root' ns * c) := by grind
        rwa [e] at this
      obtain ⟨f1, f2, f3⟩ := newton d1 d2 e1 e2
      have pM : (p : Int) ∣ M := by rw [eM, Int.pow_succ]; exact dvdr (Int.dvd_refl _) _
      refine ⟨n + n + 1, root', c', rfl, s4.trans (s5.trans s6), ?_, f1, f3, ?_, q0, q1, g0, g1, MM9, MM1⟩
      · rw [eM, ← Int.pow_add]
        congr 1
        omega
      · have := Int.dvd_add (Int.dvd_trans pM f2) d3
        rwa [show root' - root + (root - r) = root' - r by omega] at this
    · refine ⟨false, congrArg V.bl (decide_eq_false le), ?_⟩
      refine iteF ?_
      refine ⟨_, rfl, _, rfl, (by show 2 ≤ sizeLine; decide), fun t nt => ?_⟩
      refine q t root M _ ((s1.trans s4).trans (same_upd nt)) upd_same ⟨⟨n, c, eM, d1, d2⟩, d3, x0, x1⟩ (by omega) M9
end
end Vf
set_option maxRecDepth 100000
set_option maxHeartbeats 4000000
namespace Vf
open PySem PySem.Spec PyProof.Rows L2
abbrev S3 := Addr × Int × Int × Int
def encS (b : S3) : PyData := .tuple [.int b.2.1, .tuple [.int b.2.2.1, .int b.2.2.2]]
def rSortT (K : PySem.W.Frag) : List V → Hp → VK → Prop := fun vs H Q => ∃ (a : Addr) (bs : List S3), vs = [V.ref a] ∧ SqL K H a (bs.map fun b => V.ref b.1) ∧ (∀ b ∈ bs, Dt K H (.ref b.1) (encS b)) ∧
  ∀ (ys : List S3) (p : Addr), ys.Perm bs → ys.Pairwise (fun x y => x.2.1 ≤ y.2.1) → H p = none → Q (.ref p) (upd H p (.lst (ys.map fun b => V.ref b.1)))
theorem leS {x y : S3} (h : PySem.W.dataLe false encS x y = true) : x.2.1 ≤ y.2.1 := by
  rw [PySem.W.dataLe_eq] at h
  have h : (!PySem.W.dataLt (encS y) (encS x)) = true := h
  unfold encS at h
  rw [PySem.W.dataLt_pair (by simp [PySem.W.alike]) (by simp [PySem.W.alike, PySem.W.alikeAll]), PySem.W.dataLt_int] at h
  simp only [PyData.eqv, beq_iff_eq] at h
  by_cases e : y.2.1 = x.2.1
  · omega
  · rw [if_neg e] at h
    simp at h
    exact h
theorem each_refs {R : Value → S3 → Prop} (f : ∀ b : S3, R (.ref b.1) b) : ∀ bs : List S3, PySem.W.EachIs R (bs.map fun b => Value.ref b.1) bs
  | [] => .nil
  | b :: bs => .cons (f b) (each_refs f bs)
theorem each_mem {R : Value → S3 → Prop} : ∀ {bs : List S3}, (∀ b ∈ bs, R (.ref b.1) b) → PySem.W.EachIs R (bs.map fun b => Value.ref b.1) bs
  | [], _ => .nil
  | b :: bs, f => .cons (f b (List.mem_cons_self ..)) (each_mem fun x hx => f x (List.mem_cons_of_mem _ hx))
theorem each_back : ∀ {out : List Value} {bs : List S3}, PySem.W.EachIs (fun v b => v = Value.ref b.1) out bs → out = bs.map fun b => Value.ref b.1
  | _, _, .nil => rfl
  | _, _, .cons h t => by
    rw [h, each_back t]
    rfl
theorem vals_refs : ∀ bs : List S3, Vals (bs.map fun b => V.ref b.1) (bs.map fun b => Value.ref b.1)
  | [] => .nil
  | b :: bs => .cons (show RelV (.ref b.1) (.ref b.1) from rfl) (vals_refs bs)
theorem vals_uniq : ∀ {bs : List S3} {us : List Value}, Vals (bs.map fun b => V.ref b.1) us → us = bs.map fun b => Value.ref b.1
  | [], _, .nil => rfl
  | b :: bs, _, .cons r t => by
    cases r
    rw [vals_uniq t]
    rfl
theorem cr_sortT {X : Cx} (hu : X.A.units + 64 < cLine) (m : M1 X.base) : CallR X (.builtin "sorted") (rSortT X.K) := by
  intro pins s σ H vs us Q I r h
  obtain ⟨a, bs, rfl, hs, hx, q⟩ := h
  obtain ⟨its, rv, hl, hz⟩ := I.list hs
  obtain ⟨u, rfl, ru⟩ := vals1 r
  obtain rfl : u = Value.ref a := ru
  have e1 := vals_uniq rv
  subst e1
  refine PySem.W.sorted_data (β := S3) (enc := encS) (R := fun v b => v = Value.ref b.1) hl.isList (each_refs (fun b => rfl) bs) (each_mem fun b hb => ?_) (PySem.W.AllAlike.of fun b b' => by simp [encS, PySem.W.alike, PySem.W.alikeAll]) (PySem.W.Sortable.tuples fun b => ⟨_, _, rfl⟩) ?_ (fun b hb => ?_) fun out ol oe => ?_
  · obtain ⟨as, h1, _⟩ := Dt.reads I m (hx b hb) rfl
    exact ⟨as, h1⟩
  · rw [List.length_map] at hz
    exact hz
  · have : (encS b).depth ≤ 4 := by simp [encS, PyData.depth, PyData.depthAll]
    omega
  · have e2 := each_back oe
    obtain ⟨n, hn⟩ := PyProof.Rows.sortedAll_at s.heap (bs.map fun b => Value.ref b.1) (List.toArray out)
    have pm := List.mergeSort_perm bs (PySem.W.dataLe false encS)
    refine ⟨.ref (s.heap.objs.size + 1), upd H (s.heap.objs.size + 1) (.lst ((bs.mergeSort (PySem.W.dataLe false encS)).map fun b => V.ref b.1)), I.laid (t' := s.toks) (fun b o e => PyProof.Rows.sortedAll_old e) (Nat.le_succ _) ⟨?_, out, n, ?_, hn⟩, rfl, q _ _ pm ?_ (I.hok.fresh (Nat.le_succ _))⟩
    · rw [List.length_map, pm.length_eq]
      rw [List.length_map] at hz
      exact hz
    · rw [e2]
      exact vals_refs _
    · exact (PySem.W.sort_pairwise (PySem.W.sortLe_total _ _ _) bs).imp fun h => leS h
end Vf
set_option maxRecDepth 100000
set_option maxHeartbeats 8000000
namespace Vf
open PySem PySem.Spec PyProof.Rows L2
theorem hv_drop (a b : Int) (ns : List Int) {k : Nat} (h : k < ns.length) : hv a b (ns.drop k) = ci ns k * b ^ (ns.length - (k + 1)) + a * hv a b (ns.drop (k + 1)) := by
  rw [List.drop_eq_getElem_cons h]
  show ns[k] * b ^ (ns.drop (k + 1)).length + _ = _
  have : ci ns k = ns[k] := by
    unfold ci
    rw [List.getD_eq_getElem?_getD, List.getElem?_eq_getElem h]
    rfl
  rw [this, List.length_drop]
theorem hv_bd {a b : Int} (ha : a.natAbs ≤ 2 ^ 300) (hb : b.natAbs ≤ 2 ^ 300) : ∀ {l : List Int}, (∀ x ∈ l, x.natAbs ≤ 2 ^ 300) → (hv a b l).natAbs ≤ 2 ^ (301 * l.length)
  | [], _ => Nat.zero_le _
  | c :: r, h => by
    have ih := hv_bd ha hb (l := r) fun x hx => h x (List.mem_cons_of_mem _ hx)
    have hc := h c (List.mem_cons_self ..)
    show (c * b ^ r.length + a * hv a b r).natAbs ≤ 2 ^ (301 * (r.length + 1))
    refine Nat.le_trans (Int.natAbs_add_le _ _) ?_
    rw [Int.natAbs_mul, Int.natAbs_mul, Int.natAbs_pow]
    have h1 : c.natAbs * b.natAbs ^ r.length ≤ 2 ^ (300 + 301 * r.length) := by
      rw [Nat.pow_add]
      refine Nat.mul_le_mul hc (Nat.le_trans (Nat.pow_le_pow_left hb _) ?_)
      rw [← Nat.pow_mul]
      exact Nat.pow_le_pow_right (by decide) (by omega)
    have h2 : a.natAbs * (hv a b r).natAbs ≤ 2 ^ (300 + 301 * r.length) := by
      rw [Nat.pow_add]
      exact Nat.mul_le_mul ha ih
    have e : 2 ^ (301 * (r.length + 1)) = 2 * 2 ^ (300 + 301 * r.length) := by
      rw [show 301 * (r.length + 1) = 300 + 301 * r.length + 1 by omega, Nat.pow_succ, Nat.mul_comm]
    omega
theorem two_of_len {ns : List Int} (h2 : ns.length = 2) : ∃ a b, ns = [a, b] := by
  cases ns with
  | nil => cases h2
  | cons a r =>
    cases r with
    | nil => cases h2
    | cons b r =>
      cases r with
      | nil => exact ⟨a, b, rfl⟩
      | cons c r => exact absurd h2 (by show ¬ r.length + 1 + 1 + 1 = 2; omega)
theorem div_lt {a b L : Rat} (hL : 0 < L) (h : a < b) : a / L < b / L := by
  refine Rat.not_le.mp fun z => ?_
  have n0 : L ≠ 0 := fun y => by rw [y] at hL; exact absurd hL (by decide +kernel)
  have e1 := Rat.div_mul_cancel (a := a) n0
  have e2 := Rat.div_mul_cancel (a := b) n0
  have := Rat.mul_nonneg (show 0 ≤ a / L - b / L by grind) (show 0 ≤ L by grind)
  grind
def spVA : Sp := fun vs H Q _ => ∃ (l : Addr) (ns : List Int) (a b : Int), vs = [.ref l, .int a, .int b] ∧ RI H l ns ∧ ns.length ≤ 100 ∧ (∀ x ∈ ns, x.natAbs ≤ 2 ^ 300) ∧ a.natAbs ≤ 2 ^ 300 ∧ b.natAbs ≤ 2 ^ 300 ∧ ∀ H', Same H H' → Q (.int (hv a b ns)) H'
/-- a row whose zeros are looked for -/
structure RzOk (ns : List Int) : Prop where
  n : ns ≠ []
  l : ns.length ≤ 50
  b : ∀ x ∈ ns, x.natAbs ≤ 2 ^ 250
  t : 0 < ci ns (ns.length - 1)
  f : 3 ≤ ns.length → ∃ p0 : Nat, ZFit ns (ci ns (ns.length - 1)) p0 ∧ p0 % 2 = 1 ∧ 211 ≤ p0 ∧ p0 < 2 ^ 19
def spRZ : Sp := fun vs H Q _ => ∃ (l : Addr) (ns : List Int), vs = [.ref l] ∧ RI H l ns ∧ RzOk ns ∧
  ∀ (l' : Addr) (zs : List Rat) (H' : Hp), Same H H' → RL H' l' zs → zs.Pairwise (· < ·) → (∀ q, q ∈ zs ↔ ev (qi ns) q = 0) → Q (.ref l') H'
/-- where a zero that is a ratio is to be found -/
def ZNear (ns : List Int) (L : Int) (p : Nat) (q : Rat) (N y : Int) : Prop := (N : Rat) = (L : Rat) * q ∧ (p : Int) ∣ hz y ns ∧ ∀ (n : Nat) (root c : Int), (p : Int) ^ (n + 1) ∣ hz root ns → (p : Int) ^ (n + 1) ∣ c * hd root ns - 1 → (p : Int) ∣ root - y → (p : Int) ^ (n + 1) ∣ L * root - N
theorem split_last {ns : List Int} (h : ns ≠ []) : ns = ns.dropLast ++ [ci ns (ns.length - 1)] := by
  have l0 := List.length_pos_iff.mpr h
  have e : ci ns (ns.length - 1) = ns.getLast h := by
    unfold ci
    rw [List.getD_eq_getElem?_getD, List.getElem?_eq_getElem (by omega), List.getLast_eq_getElem]
    rfl
  rw [e]
  exact (List.dropLast_concat_getLast h).symm
theorem znear_ex {ns : List Int} (h : ns ≠ []) {p : Nat} (F : ZFit ns (ci ns (ns.length - 1)) p) {q : Rat} (hq : ev (qi ns) q = 0) : ∃ N y, ZNear ns (ci ns (ns.length - 1)) p q N y := by
  have e := split_last h
  generalize ci ns (ns.length - 1) = L at e F ⊢
  generalize ns.dropLast = r at e
  subst e
  exact found_of F hq
/-- where the search stands behind the residues rs: bs are the zeros found -/
structure FZ (ns : List Int) (L : Int) (p : Nat) (rs : List Int) (H : Hp) (bs : List S3) : Prop where
  a : ∀ b ∈ bs, b.2.2 = pq ((b.2.1 : Rat) / (L : Rat)) ∧ (∃ t : Addr, H b.1 = some (.tup [.int b.2.1, .ref t]) ∧ TR H t ((b.2.1 : Rat) / (L : Rat))) ∧ ev (qi ns) ((b.2.1 : Rat) / (L : Rat)) = 0
  r : ∀ b ∈ bs, ∃ r ∈ rs, (p : Int) ∣ L * r - b.2.1
  d : (bs.map fun b => b.2.1).Nodup
  c : ∀ q N y, ZNear ns L p q N y → ev (qi ns) q = 0 → (∃ r ∈ rs, (p : Int) ∣ r - y) → ∃ b ∈ bs, b.2.1 = N
theorem FZ.nil {ns : List Int} {L : Int} {p : Nat} {H : Hp} : FZ ns L p [] H [] :=
  ⟨fun b hb => absurd hb List.not_mem_nil, fun b hb => absurd hb List.not_mem_nil, List.nodup_nil, fun q N y _ _ ⟨r, hr, _⟩ => absurd hr List.not_mem_nil⟩
theorem FZ.imp {ns : List Int} {L : Int} {p : Nat} {rs : List Int} {H H' : Hp} {bs : List S3} (h : FZ ns L p rs H bs) (k : ∀ (b : Addr) (xs : List V), H b = some (.tup xs) → H' b = some (.tup xs)) : FZ ns L p rs H' bs :=
  ⟨fun b hb => by
    obtain ⟨h1, ⟨t, h2, h3⟩, h4⟩ := h.a b hb
    exact ⟨h1, ⟨t, k _ _ h2, k _ _ h3⟩, h4⟩, h.r, h.d, h.c⟩
theorem FZ.skip {ns : List Int} {L : Int} {p : Nat} {rs : List Int} {H : Hp} {bs : List S3} {r : Int} (h : FZ ns L p rs H bs) (no : ∀ q N y, ZNear ns L p q N y → ev (qi ns) q = 0 → (p : Int) ∣ r - y → False) : FZ ns L p (rs ++ [r]) H bs := by
  refine ⟨h.a, fun b hb => ?_, h.d, fun q N y hn hq ⟨r', hr, hd⟩ => ?_⟩
  · obtain ⟨r', h1, h2⟩ := h.r b hb
    exact ⟨r', List.mem_append_left _ h1, h2⟩
  · rcases List.mem_append.mp hr with z | z
    · exact h.c q N y hn hq ⟨r', z, hd⟩
    · rw [List.mem_singleton.mp z] at hd
      exact (no q N y hn hq hd).elim
theorem FZ.add {ns : List Int} {L : Int} {p : Nat} {rs : List Int} {H : Hp} {bs : List S3} {r N' : Int} {a' t : Addr} (h : FZ ns L p rs H bs) (hp : Pr p) (hL : ¬ (p : Int) ∣ L) (rr : ∀ x ∈ rs ++ [r], 0 ≤ x ∧ x < p) (nd : (rs ++ [r]).Nodup) (e1 : H a' = some (.tup [.int N', .ref t])) (e2 : TR H t ((N' : Rat) / (L : Rat))) (e3 : ev (qi ns) ((N' : Rat) / (L : Rat)) = 0) (e4 : (p : Int) ∣ L * r - N') (only : ∀ q N y, ZNear ns L p q N y → ev (qi ns) q = 0 → (p : Int) ∣ r - y → N' = N) : FZ ns L p (rs ++ [r]) H (bs ++ [(a', N', pq ((N' : Rat) / (L : Rat)))]) := by
  refine ⟨fun b hb => ?_, fun b hb => ?_, ?_, fun q N y hn hq ⟨r', hr, hd⟩ => ?_⟩
  · rcases List.mem_append.mp hb with z | z
    · exact h.a b z
    · rw [List.mem_singleton.mp z]
      exact ⟨rfl, ⟨t, e1, e2⟩, e3⟩
  · rcases List.mem_append.mp hb with z | z
    · obtain ⟨r', h1, h2⟩ := h.r b z
      exact ⟨r', List.mem_append_left _ h1, h2⟩
    · rw [List.mem_singleton.mp z]
      exact ⟨r, List.mem_append_right _ (List.mem_singleton.mpr rfl), e4⟩
  · rw [List.map_append]
    refine List.nodup_append.mpr ⟨h.d, by simp, fun x hx y hy => ?_⟩
    rw [List.map_cons, List.map_nil, List.mem_singleton] at hy
    rw [hy]
    obtain ⟨b, hb, rfl⟩ := List.mem_map.mp hx
    intro z
    obtain ⟨r', h1, h2⟩ := h.r b hb
    rw [z] at h2
    have h3 : (p : Int) ∣ L * (r' - r) := by
      have := Int.dvd_sub h2 e4
      rwa [show L * r' - N' - (L * r - N') = L * (r' - r) by grind] at this
    have h4 : (p : Int) ∣ r' - r := by
      obtain ⟨w, hw⟩ : ∃ w, (p : Int) ∣ L * w - 1 := by
        obtain ⟨w, z, hz⟩ := inv_ex hp hL
        exact ⟨w, z, by omega⟩
      have x1 := dvdl h3 w
      have x2 := dvdl hw (r' - r)
      have := Int.dvd_sub x1 x2
      rwa [show L * (r' - r) * w - (L * w - 1) * (r' - r) = r' - r by grind] at this
    have b1 := rr r' (List.mem_append_left _ h1)
    have b2 := rr r (List.mem_append_right _ (List.mem_singleton.mpr rfl))
    have : r' = r := by
      obtain ⟨k, hk⟩ := h4
      have : k = 0 := by
        rcases Int.lt_trichotomy k 0 with y | y | y
        · have := Int.mul_le_mul_of_nonneg_left (show k ≤ -1 by omega) (show (0 : Int) ≤ p by omega)
          omega
        · exact y
        · have := Int.mul_le_mul_of_nonneg_left (show 1 ≤ k by omega) (show (0 : Int) ≤ p by omega)
          omega
      rw [this] at hk
      omega
    rw [this] at h1
    exact (List.nodup_append.mp nd).2.2 r h1 r (List.mem_singleton.mpr rfl) rfl
  · rcases List.mem_append.mp hr with z | z
    · obtain ⟨b, hb, e⟩ := h.c q N y hn hq ⟨r', z, hd⟩
      exact ⟨b, List.mem_append_left _ hb, e⟩
    · rw [List.mem_singleton.mp z] at hd
      exact ⟨_, List.mem_append_right _ (List.mem_singleton.mpr rfl), only q N y hn hq hd⟩
theorem zrs_nodup (ns : List Int) (p : Nat) : (zrs ns p).Nodup := by
  unfold zrs
  refine List.Pairwise.map _ (fun a b h z => h ?_) (List.nodup_range.filter _)
  omega
/-- all that was found is all there is -/
theorem FZ.all {ns : List Int} {p : Nat} {H : Hp} {bs : List S3} (n0 : ns ≠ []) (F : ZFit ns (ci ns (ns.length - 1)) p) (L0 : 0 < ci ns (ns.length - 1)) (h : FZ ns (ci ns (ns.length - 1)) p (zrs ns p) H bs) (q : Rat) :
    q ∈ bs.map (fun b => (b.2.1 : Rat) / ((ci ns (ns.length - 1) : Int) : Rat)) ↔ ev (qi ns) q = 0 := by
  have L0' : ((ci ns (ns.length - 1) : Int) : Rat) ≠ 0 := cast_ne (by omega)
  constructor
  · intro z
    obtain ⟨b, hb, rfl⟩ := List.mem_map.mp z
    exact (h.a b hb).2.2
  · intro z
    obtain ⟨N, y, hn⟩ := znear_ex n0 F z
    have p1 := F.pr.1
    have m0 := Int.emod_nonneg y (show (p : Int) ≠ 0 by omega)
    have m1 := Int.emod_lt_of_pos y (show (0 : Int) < p by omega)
    have e : (p : Int) ∣ y % (p : Int) - y := emod_back y p
    have h1 : (p : Int) ∣ hz (y % (p : Int)) ns := by
      have := Int.dvd_add (hz_cong ns e) hn.2.1
      rwa [Int.sub_add_cancel] at this
    obtain ⟨b, hb, eb⟩ := h.c q N y hn z ⟨y % (p : Int), mem_zrs.mpr ⟨m0, m1, h1⟩, e⟩
    refine List.mem_map.mpr ⟨b, hb, ?_⟩
    rw [eb, hn.1]
    grind
section
variable {P : Program} {w : World} {K : PySem.W.Frag} {mg : Str → Option Value} {base : Heap} {CP CR CN CI : Addr}
abbrev sVA : Stmt := topS 53
theorem scVA : FnScope ["row", "top", "bottom", "value", "scale", "number"] ["row", "top", "bottom"] (defScope sVA) := ⟨rfl, rfl, rfl, by decide +kernel, rfl, by decide +kernel, by decide +kernel⟩
theorem ok_va {f : Addr} {fd : FuncData} (F : Fun K "value_at" "value_at" sVA f fd) : FnOk P w K mg base CX0 1 f fd ["row", "top", "bottom"] spVA := by
  refine F.ok scVA (fun vs H Q E h => ?_) (fun cdv A outer s H vs Q E hr h => ?_)
  · obtain ⟨l, ns, a, b, rfl, _⟩ := h
    rfl
  · obtain ⟨l, ns, a, b, rfl, rl, nl, nb, ab, bb, q⟩ := h
    refine ⟨_, (pss_cons (ps_set (i := 3) scVA.nd rfl (Or.inl rfl) pe_int)
  (pss_cons (ps_set (i := 4) scVA.nd rfl (Or.inl rfl) pe_int)
  (pss_cons (ps_for PassesOwn.never rfl (pi_list (pe_revL (pv 0))) (pg_name (i := 5) scVA.nd rfl (Or.inl rfl))
    (pss_cons (ps_set (i := 3) scVA.nd rfl (Or.inl rfl) (pe_op op_add (pe_op op_mulW (pv 3) (pv 1)) (pe_op op_mulW (pv 5) (pv 4))))
    (pss_one (ps_set (i := 4) scVA.nd rfl (Or.inl rfl) (pe_op op_mulW (pv 4) (pv 2))))))
  (pss_one (ps_ret (pv 3)))))), ?_⟩
    refine ⟨_, rfl, l, _, rfl, SqL.of rl, fun lr nlr => ?_⟩
    have elr : upd H lr (HO.lst (ns.map V.int).reverse) lr = some (HO.lst (ns.map V.int).reverse) := upd_same
    have s3 : Same H (upd H lr (HO.lst (ns.map V.int).reverse)) := same_upd nlr
    generalize upd H lr (HO.lst (ns.map V.int).reverse) = H3 at elr s3 ⊢
    have sm : ∀ {z : Int} {n : Nat}, z.natAbs ≤ 2 ^ n → z.natAbs < 2 ^ (n + 1) := fun {z n} h => Nat.lt_of_le_of_lt h (Nat.pow_lt_pow_right (by decide) (by omega))
    have bp : ∀ j : Nat, (b ^ j).natAbs ≤ 2 ^ (300 * j) := fun j => by
      rw [Int.natAbs_pow, Nat.pow_mul]
      exact Nat.pow_le_pow_left bb j
    refine ⟨lr, rfl, ⟨_, SqL.of elr⟩, for_list (K := K) (a := lr) (xs := (ns.map V.int).reverse) (fun j σ H' => ∃ (v5 : Option V), σ = [some (.ref l), some (.int a), some (.int b), some (.int (hv a b (ns.drop (ns.length - j)))), some (.int (b ^ j)), v5] ∧ Same H3 H')
      ⟨none, ?_, Same.refl _⟩ (fun j σ H' _ ⟨_, _, ss⟩ => SqL.of (ss _ _ elr)) ?_ ?_⟩
    · rw [Nat.sub_zero, List.drop_length, Int.pow_zero]
      rfl
    · rintro j y σ H4 hj ⟨v5, rfl, s4⟩
      obtain ⟨rfl, hjl⟩ := rev_ci hj
      have hb1 := hv_bd (a := a) (b := b) ab bb (l := ns.drop (ns.length - j)) fun x hx => nb x (List.mem_of_mem_drop hx)
      have lj : (ns.drop (ns.length - j)).length = j := by rw [List.length_drop]; omega
      rw [lj] at hb1
      have cb : (ci ns (ns.length - 1 - j)).natAbs ≤ 2 ^ 300 := by
        refine nb _ ?_
        unfold ci
        rw [List.getD_eq_getElem?_getD, List.getElem?_eq_getElem (by omega)]
        exact List.getElem_mem _
      refine ⟨_, rfl, _, rfl, _, _, rfl, rfl, wide_mul (a := 301 * j + 1) (b := 301) (sm hb1) (sm ab) (by omega) (by decide) (by omega), _, rfl, _, rfl, _, _, rfl, rfl, wide_mul (a := 301) (b := 300 * j + 1) (sm cb) (sm (bp j)) (by decide) (by omega) (by omega), _, _, rfl, rfl, ?_⟩
      refine ⟨_, rfl, _, rfl, _, _, rfl, rfl, wide_mul (a := 300 * j + 1) (b := 301) (sm (bp j)) (sm bb) (by omega) (by decide) (by omega), ?_⟩
      refine ⟨some (.int (ci ns (ns.length - 1 - j))), ?_, s4⟩
      have e := hv_drop a b ns (k := ns.length - 1 - j) (by omega)
      rw [show ns.length - (j + 1) = ns.length - 1 - j by omega, e, show ns.length - 1 - j + 1 = ns.length - j by omega, show ns.length - (ns.length - j) = j by omega, Int.pow_succ]
      have ee : hv a b (ns.drop (ns.length - j)) * a + ci ns (ns.length - 1 - j) * b ^ j = ci ns (ns.length - 1 - j) * b ^ j + a * hv a b (ns.drop (ns.length - j)) := by grind
      rw [← ee]
      rfl
    · rintro σ H4 ⟨v5, rfl, s4⟩
      rw [List.length_reverse, List.length_map, Nat.sub_self, List.drop_zero]
      exact ⟨_, rfl, q H4 (s3.trans s4)⟩
abbrev sRZ : Stmt := topS 57
theorem scRZ : FnScope ["row", "lead", "most", "number", "prime", "residues", "found", "residue", "root", "modulus", "top", "bottom", "_", "ratio"] ["row"] (defScope sRZ) := ⟨rfl, rfl, rfl, by decide +kernel, rfl, by decide +kernel, by decide +kernel⟩
theorem ok_rz {f : Addr} {fd : FuncData} (F : Fun K "ratio_zeros" "ratio_zeros" sRZ f fd) (T : Bk mg) (hm1 : M1 base) (hmax : mg "max" = none) (hsorted : mg "sorted" = none) {tSP : Tok} (m_SPARE_BITS : mg "SPARE_BITS" = some (.int 64 tSP)) (G_lowest : Df P w K mg base "lowest" 1 ["top", "bottom"] spLow) (G_fitting_prime : Df P w K mg base "fitting_prime" 3 ["row"] spFP) (G_lifted : Df P w K mg base "lifted" 2 ["row", "residue", "prime", "limit"] spLift) (G_nearest_residue : Df P w K mg base "nearest_residue" 1 ["number", "prime"] spNear) (G_value_at : Df P w K mg base "value_at" 1 ["row", "top", "bottom"] spVA) : FnOk P w K mg base CX0 4 f fd ["row"] spRZ := by
  refine F.ok scRZ (fun vs H Q E h => ?_) (fun cdv A outer s H vs Q E hr h => ?_)
  · obtain ⟨l, ns, rfl, _⟩ := h
    rfl
  · obtain ⟨l, ns, rfl, rl, R, q⟩ := h
    have hu64 := hr.units
    refine ⟨_, (pss_cons (ps_if (pt_cmpR op_lt (pe_callB call_len_seq (by rfl) T.len (by decide +kernel) (pa_cons (pv 0) pa_nil)) pe_int (nomark _))
    (pss_one (ps_ret (pe_lst pa_nil)))
    pss_nil)
  (pss_cons (ps_if (pt_cmpR op_eq (pe_callB call_len_seq (by rfl) T.len (by decide +kernel) (pa_cons (pv 0) pa_nil)) pe_int (nomark _))
    (pss_one (ps_ret (pe_lst (pa_cons (pe_call G_lowest.ok (hr.mono (by decide)) rfl G_lowest.m G_lowest.kp G_lowest.b .nil pass0 (pa_cons (pe_un un_neg (pe_ix ix_list (pv 0) pe_int (fun _ _ => rfl))) (pa_cons (pe_ix ix_list (pv 0) pe_int (fun _ _ => rfl)) pa_nil))) pa_nil))))
    pss_nil)
  (pss_cons (ps_set (i := 1) scRZ.nd rfl (Or.inl rfl) (pe_ix ix_list (pv 0) (pe_un un_neg pe_int) (fun _ _ => rfl)))
  (pss_cons (ps_set (i := 2) scRZ.nd rfl (Or.inl rfl) (pe_op op_add (pv 1) (pe_callB (cr_max rfl) (by rfl) hmax (by decide +kernel) (pa_cons (pe_lc (own := [("number", 3)]) (g := (gName 3)) (tt := tYes) rfl scRZ.nd (pi_seq (pv 0)) (blkOk_by (N := ["row", "lead", "most", "number", "prime", "residues", "found", "residue", "root", "modulus", "top", "bottom", "_", "ratio"]) (sc := defScope sRZ) (by decide +kernel)) (fun _ _ _ _ _ => pg_name (i := 3) scRZ.nd rfl (Or.inl rfl)) (fun _ _ _ _ _ => pts_nil) (fun _ _ _ _ _ => (pe_callB call_abs (by rfl) T.abs (by decide +kernel) (pa_cons (pv 3) pa_nil)))) pa_nil))))
  (pss_cons (ps_asg (pe_call G_fitting_prime.ok (hr.mono (by decide)) rfl G_fitting_prime.m G_fitting_prime.kp G_fitting_prime.b .nil pass0 (pa_cons (pv 0) pa_nil)) (pg_tup (by rfl) (pgs_cons (pg_name (i := 4) scRZ.nd rfl (Or.inl rfl)) (pgs_cons (pg_name (i := 5) scRZ.nd rfl (Or.inl rfl)) pgs_nil))))
  (pss_cons (ps_set (i := 6) scRZ.nd rfl (Or.inl rfl) (pe_lst pa_nil))
  (pss_cons (ps_for PassesOwn.never rfl (pi_seq (pv 5)) (pg_name (i := 7) scRZ.nd rfl (Or.inl rfl))
    (pss_cons (ps_asg (pe_call G_lifted.ok (hr.mono (by decide)) rfl G_lifted.m G_lifted.kp G_lifted.b .nil pass0 (pa_cons (pv 0) (pa_cons (pv 7) (pa_cons (pv 4) (pa_cons (pe_op op_shlW (pv 2) (pe_glob (v := V.int 64) rfl m_SPARE_BITS ⟨_, rfl⟩)) pa_nil))))) (pg_tup (by rfl) (pgs_cons (pg_name (i := 8) scRZ.nd rfl (Or.inl rfl)) (pgs_cons (pg_name (i := 9) scRZ.nd rfl (Or.inl rfl)) pgs_nil))))
    (pss_cons (ps_set (i := 3) scRZ.nd rfl (Or.inl rfl) (pe_call G_nearest_residue.ok (hr.mono (by decide)) rfl G_nearest_residue.m G_nearest_residue.kp G_nearest_residue.b .nil pass0 (pa_cons (pe_op op_mulW (pv 1) (pv 8)) (pa_cons (pv 9) pa_nil))))
    (pss_one (ps_if (pt_cmpR op_le (pe_callB call_abs (by rfl) T.abs (by decide +kernel) (pa_cons (pv 3) pa_nil)) (pv 2) (nomark _))
      (pss_cons (ps_asg (pe_call G_lowest.ok (hr.mono (by decide)) rfl G_lowest.m G_lowest.kp G_lowest.b .nil pass0 (pa_cons (pv 3) (pa_cons (pv 1) pa_nil))) (pg_tup (by rfl) (pgs_cons (pg_name (i := 10) scRZ.nd rfl (Or.inl rfl)) (pgs_cons (pg_name (i := 11) scRZ.nd rfl (Or.inl rfl)) pgs_nil))))
      (pss_one (ps_if (pt_cmpR op_eq (pe_call G_value_at.ok (hr.mono (by decide)) rfl G_value_at.m G_value_at.kp G_value_at.b .nil pass0 (pa_cons (pv 0) (pa_cons (pv 10) (pa_cons (pv 11) pa_nil)))) pe_int (nomark _))
        (pss_one (ps_expr (pe_bm PySem.F.plainAttrs_list PySem.F.slot_list_append PySem.F.type_list_append mt_append (pv 6) (pa_cons (pe_tup (pa_cons (pv 3) (pa_cons (pe_tup (pa_cons (pv 10) (pa_cons (pv 11) pa_nil))) pa_nil))) pa_nil))))
        pss_nil)))
      pss_nil)))))
  (pss_one (ps_ret (pe_lc (own := [("_", 12), ("ratio", 13)]) (g := (gTup K 2 (gCons (gName 12) (gCons (gName 13) gNil)))) (tt := tYes) rfl scRZ.nd (pi_seq (pe_callB (cr_sortT hu64 hm1) (by rfl) hsorted (by decide +kernel) (pa_cons (pv 6) pa_nil))) (blkOk_by (N := ["row", "lead", "most", "number", "prime", "residues", "found", "residue", "root", "modulus", "top", "bottom", "_", "ratio"]) (sc := defScope sRZ) (by decide +kernel)) (fun _ _ _ _ _ => pg_tup rfl (pgs_cons (pg_name (i := 12) scRZ.nd rfl (Or.inl rfl)) (pgs_cons (pg_name (i := 13) scRZ.nd rfl (Or.inl rfl)) pgs_nil))) (fun _ _ _ _ _ => pts_nil) (fun _ _ _ _ _ => (pv 13)))))))))))), ?_⟩
    have n0 := R.n
    have l0 := List.length_pos_iff.mpr n0
    have ln := R.l
    have L0 := R.t
    have bci : ∀ i, (ci ns i).natAbs ≤ 2 ^ 250 := fun i => by
      by_cases h : i < ns.length
      · refine R.b _ ?_
        unfold ci
        rw [List.getD_eq_getElem?_getD, List.getElem?_eq_getElem h]
        exact List.getElem_mem _
      · rw [ci_ge (by omega)]
        exact Nat.zero_le _
    have up : ∀ {z : Int} {n m : Nat}, z.natAbs ≤ 2 ^ n → n < m → z.natAbs < 2 ^ m := fun {z n m} h1 h2 => Nat.lt_of_le_of_lt h1 (Nat.pow_lt_pow_right (by decide) h2)
    refine ⟨_, rfl, l, _, rfl, .inl (SqL.of rl), _, _, rfl, rfl, ?_⟩
    rw [List.length_map]
    by_cases l2 : ns.length < 2
    · refine ⟨true, congrArg V.bl (decide_eq_true (by omega)), ?_⟩
      refine iteT ?_
      refine ⟨(by show 0 ≤ sizeLine; decide), fun D hD => q D [] _ (same_upd hD) ⟨[], upd_same, .nil⟩ .nil fun x => ⟨fun z => absurd z List.not_mem_nil, fun z => ?_⟩⟩
      have e := split_last n0
      rw [List.length_eq_zero_iff.mp (show ns.dropLast.length = 0 by rw [List.length_dropLast]; omega)] at e
      rw [e] at z
      have z : ((ci ns (ns.length - 1) : Int) : Rat) + x * 0 = 0 := z
      have : ((ci ns (ns.length - 1) : Int) : Rat) ≠ 0 := cast_ne (by omega)
      grind
    refine ⟨false, congrArg V.bl (decide_eq_false (by omega)), ?_⟩
    refine iteF ?_
    refine ⟨_, rfl, l, _, rfl, .inl (SqL.of rl), ?_⟩
    rw [List.length_map]
    dsimp only [tC]
    refine rEq_int (fun z => ?_) fun z => ?_
    · refine iteT ?_
      obtain ⟨c0, c1, rfl⟩ := two_of_len (show ns.length = 2 by omega)
      have L0 : 0 < c1 := L0
      have hc : (c1 : Rat) ≠ 0 := cast_ne (by omega)
      refine ⟨_, rfl, l, _, _, .int c0, rfl, rfl, SqL.of rl, at_of (j := 0) rfl rfl, _, rfl, _, rfl, l, _, _, .int c1, rfl, rfl, SqL.of rl, at_of (j := 1) rfl rfl, ?_⟩
      refine tnil_k ?_
      refine ⟨-c0, c1, rfl, by omega, Nat.lt_of_lt_of_le (up (m := 251) (bci 1) (by decide)) (Nat.pow_le_pow_right (by decide) (by decide)), fun r H1 s1 n1 e1 => ?_⟩
      have el : low (-c0) c1 = pq (((-c0 : Int) : Rat) / (c1 : Rat)) := low_mul (by omega) (Rat.div_mul_cancel hc)
      rw [el] at e1
      refine tnil_k ?_
      refine ⟨(by show 1 ≤ sizeLine; decide), fun D hD => ?_⟩
      refine q D [((-c0 : Int) : Rat) / (c1 : Rat)] _ (s1.trans (same_upd hD)) ⟨[r], upd_same, .cons ((same_upd hD) _ _ e1) .nil⟩ (List.pairwise_singleton ..) fun x => ?_
      rw [List.mem_singleton]
      show _ ↔ (c0 : Rat) + x * ((c1 : Rat) + x * 0) = 0
      rw [Rat.intCast_neg]
      constructor
      · intro z
        have := Rat.div_mul_cancel (a := -(c0 : Rat)) hc
        rw [z]
        grind
      · intro z
        have := Rat.div_mul_cancel (a := -(c0 : Rat)) hc
        have h2 : (x - -(c0 : Rat) / (c1 : Rat)) * (c1 : Rat) = 0 := by grind
        rcases Rat.mul_eq_zero.mp h2 with y | y
        · grind
        · exact absurd y hc
    refine iteF ?_
    obtain ⟨p0, F0, odd0, p211, p19⟩ := R.f (by omega)
    have hn : ns ≠ [] := n0
    obtain ⟨L, eL⟩ : ∃ L, ci ns (ns.length - 1) = L := ⟨_, rfl⟩
    have bL := bci (ns.length - 1)
    refine ⟨_, rfl, _, rfl, l, _, _, _, rfl, rfl, SqL.of rl, atI_top l0, ?_⟩
    rw [eL] at L0 F0 bL ⊢
    have bn1 : ∀ i, (ci ns i).natAbs < 2 ^ 1000 := fun i => up (bci i) (by decide)
    refine ⟨_, rfl, _, rfl, l, rfl, lc_seq (xs := ns.map V.int) (.inl (SqL.of rl)) (fun D i H' => Same H H' ∧ H' D = some (.lst (((ns.map fun x => if x < 0 then -x else x).take i).map V.int))) ?_ ?_ ?_ ?_⟩
    · intro D hD
      exact ⟨same_upd hD, upd_same⟩
    · intro D i H2 hD ⟨s2, _⟩
      exact ⟨same_sqL s2, same_sqT s2⟩
    · intro D i x H' hD hi ⟨ss, eD⟩
      have hi' : i < ns.length := by
        have := (List.getElem?_eq_some_iff.mp hi).1
        rw [List.length_map] at this
        exact this
      rw [List.getElem?_map, ci_lt hi'] at hi
      cases hi
      refine ⟨rfl, ?_⟩
      refine ⟨_, rfl, _, rfl, ?_⟩
      refine ⟨_, eD, (by rw [List.length_map, List.length_take, List.length_map, sizeLine_eq]; omega), fun b o e => ?_, ?_⟩
      · rw [upd_ne (ne_of_none e hD)]
        exact ss _ _ e
      · rw [upd_same, List.take_add_one, List.getElem?_map, ci_lt hi', List.map_append]
        rfl
    · intro D H1 hD ⟨s1, eD⟩
      rw [List.take_of_length_le (by rw [List.length_map, List.length_map]; exact Nat.le_refl _)] at eD
      refine tnil_k ?_
      refine ⟨D, _, rfl, SqL.of eD, by rw [List.length_map]; exact l0, fun mx hm1' hm2 => ?_⟩
      have mx0 : 0 ≤ mx ∧ mx.natAbs ≤ 2 ^ 250 := by
        obtain ⟨x, hx, rfl⟩ := List.mem_map.mp hm1'
        have := R.b x hx
        split <;> omega
      have mxa : ∀ x ∈ ns, x ≤ mx ∧ -x ≤ mx := fun x hx => by
        have := hm2 _ (List.mem_map_of_mem (f := fun x : Int => if x < 0 then -x else x) hx)
        split at this <;> omega
      refine ⟨_, _, rfl, rfl, ?_⟩
      refine ⟨_, rfl, ?_⟩
      refine tnil_k ?_
      refine ⟨l, ns, L, p0, rfl, s1 _ _ rl, n0, eL, by omega, bn1, F0, odd0, p211, p19, fun t lr p H2 s2 et hr F p2 p19 => ?_⟩
      refine ⟨t, _, rfl, SqT.of et, rfl, _, _, rfl, _, _, rfl, rfl, ?_⟩
      refine ⟨(by show 0 ≤ sizeLine; decide), fun lf nlf => ?_⟩
      have elf : upd H2 lf (HO.lst []) lf = some (HO.lst (([] : List S3).map fun b => V.ref b.1)) := upd_same
      have s3 : Same H2 (upd H2 lf (HO.lst [])) := same_upd nlf
      generalize upd H2 lf (HO.lst []) = H3 at elf s3 ⊢
      have s13 := s1.trans (s2.trans s3)
      have pz := F.pr.1
      have lfree : ∀ b o, H2 b = some o → b ≠ lf := fun b o e => ne_of_none e nlf
      refine ⟨_, rfl, lr, rfl, .inl ⟨_, SqL.of (s3 _ _ hr), for_list (K := K) (a := lr) (xs := (zrs ns p).map V.int) (fun i σ H' => ∃ (bs : List S3) (v3 v7 v8 v9 v10 v11 : Option V), σ = [some (.ref l), some (.int L), some (.int (L + mx)), v3, some (.int (p : Int)), some (.ref lr), some (.ref lf), v7, v8, v9, v10, v11, none, none] ∧ (∀ b o, b ≠ lf → H3 b = some o → H' b = some o) ∧ H' lf = some (.lst (bs.map fun b => V.ref b.1)) ∧ FZ ns L p ((zrs ns p).take i) H' bs ∧ bs.length ≤ i)
        ⟨[], none, none, none, none, none, none, rfl, fun b o _ e => e, elf, FZ.nil, Nat.le_refl _⟩ (fun i σ H' _ ⟨_, _, _, _, _, _, _, _, kk, _⟩ => SqL.of (kk _ _ (lfree _ _ hr) (s3 _ _ hr))) ?_ ?_⟩⟩
      · rintro i x σ H4 hi ⟨bs, v3, v7, v8, v9, v10, v11, rfl, k4, e4, fz, bl⟩
        rw [List.getElem?_map] at hi
        obtain ⟨r, hri, rfl⟩ := Option.map_eq_some_iff.mp hi
        obtain ⟨r0, r1, rz⟩ := mem_zrs.mp (List.mem_of_getElem? hri)
        have tk : (zrs ns p).take (i + 1) = (zrs ns p).take i ++ [r] := by rw [List.take_add_one, hri]; rfl
        have lil : i < p := by
          have h1 := (List.getElem?_eq_some_iff.mp hri).1
          unfold zrs at h1
          rw [List.length_map] at h1
          have := List.length_filter_le (fun r : Nat => decide (hz (r : Int) ns % (p : Int) = 0)) (List.range p)
          rw [List.length_range] at this
          omega
        have kk : ∀ b o, H b = some o → H4 b = some o := fun b o e => k4 b o (lfree b o (s2 _ _ (s1 _ _ e))) (s3 _ _ (s2 _ _ (s1 _ _ e)))
        have bM : (L + mx).natAbs ≤ 2 ^ 251 := by
          rw [Nat.pow_succ]
          omega
        refine ⟨_, rfl, _, rfl, _, rfl, _, rfl, _, _, rfl, rfl, ⟨by decide, ?_⟩, ?_⟩
        · have h1 : Builtin.Int.intBits (L + mx) ≤ (L + mx).natAbs.log2 + 1 := by
            unfold Builtin.Int.intBits
            split <;> omega
          have h2 : (L + mx).natAbs.log2 < 252 := by
            by_cases z : (L + mx).natAbs = 0
            · rw [z]; decide
            · exact (Nat.log2_lt z).mpr (Nat.lt_of_le_of_lt bM (Nat.pow_lt_pow_right (by decide) (by decide)))
          omega
        refine tnil_k ?_
        refine ⟨l, ns, r, (L + mx) * 2 ^ 64, p, rfl, kk _ _ rl, n0, by omega, bn1, F.pr, p19, r0, r1, rz, F.sm r rz, ?_, fun t2 root M H5 s5 et2 lo lim M9 => ?_⟩
        · rw [Int.natAbs_mul]
          refine Nat.lt_of_le_of_lt (Nat.mul_le_mul_right _ bM) ?_
          show 2 ^ 251 * 2 ^ 64 < 2 ^ 400
          rw [← Nat.pow_add]
          exact Nat.pow_lt_pow_right (by decide) (by decide)
        refine ⟨t2, _, rfl, SqT.of et2, rfl, _, _, rfl, _, _, rfl, rfl, ?_⟩
        obtain ⟨⟨n, c, eM, d1, d2⟩, d3, x0, x1⟩ := lo
        have z900 : (2 : Int) ^ 900 = ((2 ^ 900 : Nat) : Int) := by rw [Int.natCast_pow]; rfl
        rw [z900] at M9
        have M0 : 0 < M := by omega
        have Mb : M.natAbs < 2 ^ 900 := by omega
        refine ⟨_, rfl, _, rfl, _, _, rfl, rfl, wide_mul (a := 251) (b := 900) (up bL (by decide)) (by omega) (by decide) (by decide) (by decide), _, rfl, ?_⟩
        refine tnil_k ?_
        refine ⟨L * root, M, rfl, M0, Nat.lt_trans Mb (Nat.pow_lt_pow_right (by decide) (by decide)), ?_⟩
        have nm : M ∣ L * root - nres M (L * root) := nres_mod
        have pM : (p : Int) ∣ M := by rw [eM, Int.pow_succ]; exact dvdr (Int.dvd_refl _) _
        -- where a zero of this residue is
        have here : ∀ q N y, ZNear ns L p q N y → ev (qi ns) q = 0 → (p : Int) ∣ r - y → nres M (L * root) = N ∧ N.natAbs ≤ (L + mx).natAbs := fun q N y hn hq hd => by
          have h1 : (p : Int) ∣ root - y := by
            have := Int.dvd_add d3 hd
            rwa [show root - r + (r - y) = root - y by omega] at this
          have h2 := hn.2.2 n root c (by rw [← eM]; exact d1) (by rw [← eM]; exact d2) h1
          rw [← eM] at h2
          have h3 : N.natAbs ≤ (L + mx).natAbs := by
            have e := split_last n0
            rw [eL] at e
            have h4 := zero_most L0 (fun x hx => mxa x (by rw [e]; exact List.mem_append_left _ hx)) mx0.1 (by rw [← e]; exact hq)
            have h5 : absR (N : Rat) ≤ ((L + mx : Int) : Rat) := by
              rw [hn.1, absR_mul, show absR (L : Rat) = (L : Rat) by
                unfold absR
                rw [if_neg]
                exact Rat.not_lt.mpr (by exact_mod_cast Int.le_of_lt L0)]
              exact h4
            obtain ⟨a1, a2⟩ := absR_self (N : Rat)
            have b1 : (N : Rat) ≤ ((L + mx : Int) : Rat) := Rat.le_trans a1 h5
            have b2 : -(N : Rat) ≤ ((L + mx : Int) : Rat) := Rat.le_trans a2 h5
            rw [← Rat.intCast_neg] at b2
            have b1 : N ≤ L + mx := by exact_mod_cast b1
            have b2 : -N ≤ L + mx := by exact_mod_cast b2
            omega
          refine ⟨nres_eq M0 h2 ?_, h3⟩
          have : 2 * ((L + mx) * 2 ^ 64) < M := lim
          omega
        generalize nres M (L * root) = N' at nm here ⊢
        refine ⟨_, rfl, _, rfl, _, rfl, _, _, rfl, rfl, ?_⟩
        have k5 : ∀ (b : Addr) (o : HO), b ≠ lf → H3 b = some o → H5 b = some o := fun b o nb e => s5 _ _ (k4 b o nb e)
        have e5 := s5 _ _ e4
        have fz5 : FZ ns L p ((zrs ns p).take i) H5 bs := fz.imp fun b xs e => s5 _ _ e
        by_cases le : (if N' < 0 then -N' else N') ≤ L + mx
        · refine ⟨true, congrArg V.bl (decide_eq_true le), ?_⟩
          refine iteT ?_
          have bN : N'.natAbs ≤ 2 ^ 251 := by
            split at le <;> omega
          refine ⟨_, rfl, _, rfl, ?_⟩
          refine tnil_k ?_
          refine ⟨N', L, rfl, by omega, Nat.lt_of_lt_of_le (up (m := 251) bL (by decide)) (Nat.pow_le_pow_right (by decide) (by decide)), fun t3 H6 s6 n6 e6 => ?_⟩
          have hLr : (L : Rat) ≠ 0 := cast_ne (by omega)
          have el : low N' L = pq ((N' : Rat) / (L : Rat)) := low_mul (by omega) (Rat.div_mul_cancel hLr)
          obtain ⟨z1, z2⟩ := low_size (t := N') (b := L) (by omega)
          rw [el] at e6 z1 z2
          obtain ⟨qq, hqq⟩ : ∃ qq, (N' : Rat) / (L : Rat) = qq := ⟨_, rfl⟩
          rw [hqq] at e6 z1 z2
          have z1 : qq.num.natAbs ≤ N'.natAbs := z1
          have z2 : ((qq.den : Int)).natAbs ≤ L.natAbs := z2
          refine ⟨t3, _, rfl, SqT.of e6, rfl, _, _, rfl, _, _, rfl, rfl, ?_⟩
          refine ⟨_, rfl, _, rfl, _, rfl, ?_⟩
          refine tnil_k ?_
          have r300 : ∀ {n : Nat}, n ≤ 300 → (2 : Nat) ^ n ≤ 2 ^ 300 := fun h => Nat.pow_le_pow_right (by decide) h
          have kk6 : ∀ b o, H b = some o → H6 b = some o := fun b o e => s6 _ _ (s5 _ _ (kk b o e))
          refine ⟨l, ns, qq.num, (qq.den : Int), rfl, kk6 _ _ rl, by omega, fun x hx => Nat.le_trans (R.b x hx) (r300 (by decide)), Nat.le_trans z1 (Nat.le_trans bN (r300 (by decide))), Nat.le_trans z2 (Nat.le_trans bL (r300 (by decide))), fun H7 s7 => ?_⟩
          have k7 : ∀ (b : Addr) (o : HO), b ≠ lf → H3 b = some o → H7 b = some o := fun b o nb e => s7 _ _ (s6 _ _ (k5 b o nb e))
          have e7 := s7 _ _ (s6 _ _ e5)
          have fz7 : FZ ns L p ((zrs ns p).take i) H7 bs := fz5.imp fun b xs e => s7 _ _ (s6 _ _ e)
          have hden : (qq.den : Int) ≠ 0 := by have := qq.den_pos; omega
          have eqq : ((qq.num : Int) : Rat) / ((qq.den : Int) : Rat) = qq := by
            have := Rat.num_divInt_den qq
            rwa [Rat.divInt_eq_div] at this
          have hiff := hv_iff (a := qq.num) hden ns
          rw [eqq] at hiff
          dsimp only [tC]
          refine rEq_int (fun z => ?_) fun z => ?_
          · refine iteT ?_
            refine ⟨_, rfl, .inl ⟨rfl, _, SqL.of e7⟩, ?_⟩
            refine ⟨_, rfl, _, rfl, _, rfl, (by show 2 ≤ sizeLine; decide), fun t4 nt4 => ?_⟩
            have et4 : TR (upd H7 t4 (HO.tup [V.int (pq qq).1, V.int (pq qq).2])) t4 qq := upd_same
            have s8 : Same H7 (upd H7 t4 (HO.tup [V.int (pq qq).1, V.int (pq qq).2])) := same_upd nt4
            generalize upd H7 t4 (HO.tup [V.int (pq qq).1, V.int (pq qq).2]) = H8 at et4 s8 ⊢
            have e8 := s8 _ _ e7
            refine ⟨(by show 2 ≤ sizeLine; decide), fun t5 nt5 => ?_⟩
            have et5 : upd H8 t5 (HO.tup [V.int N', V.ref t4]) t5 = some (HO.tup [V.int N', V.ref t4]) := upd_same
            have s9 : Same H8 (upd H8 t5 (HO.tup [V.int N', V.ref t4])) := same_upd nt5
            generalize upd H8 t5 (HO.tup [V.int N', V.ref t4]) = H9 at et5 s9 ⊢
            have e9 := s9 _ _ e8
            refine tnil_k ?_
            refine ⟨lf, _, _, rfl, rfl, e9, ?_, ?_⟩
            · rw [List.length_map, sizeLine_eq]
              omega
            · have kt : ∀ (b : Addr) (xs : List V), H9 b = some (.tup xs) → upd H9 lf (HO.lst ((bs.map fun b => V.ref b.1) ++ [V.ref t5])) b = some (.tup xs) := fun b xs e => upd_away b _ (ne_of e e9 (by intro z; cases z)) e
              refine ⟨bs ++ [(t5, N', pq ((N' : Rat) / (L : Rat)))], _, _, _, _, _, _, rfl, fun b o nb e => ?_, by rw [upd_same, List.map_append]; rfl, ?_, by rw [List.length_append]; show bs.length + 1 ≤ _; omega⟩
              · rw [upd_ne nb]
                exact s9 _ _ (s8 _ _ (k7 b o nb e))
              · rw [tk]
                have fz9 := fz7.imp (H' := upd H9 lf (HO.lst ((bs.map fun b => V.ref b.1) ++ [V.ref t5]))) fun b xs e => kt b xs (s9 _ _ (s8 _ _ e))
                refine fz9.add (t := t4) F.pr F.ld (fun x hx => ?_) (by rw [← tk]; exact (zrs_nodup ns p).sublist (List.take_sublist ..)) (kt _ _ et5) ?_ ?_ ?_ fun q' N y hn hq hd => (here q' N y hn hq hd).1
                · rw [← tk] at hx
                  have := mem_zrs.mp (List.mem_of_mem_take hx)
                  exact ⟨this.1, this.2.1⟩
                · rw [hqq]
                  exact kt _ _ (s9 _ _ et4)
                · rw [hqq]
                  exact hiff.mp z
                · have x1 := dvdr d3 L
                  have x2 := Int.dvd_trans pM nm
                  have := Int.dvd_sub x2 x1
                  rwa [show L * root - N' - L * (root - r) = L * r - N' by grind] at this
          · refine iteF ?_
            dsimp only [tNext]
            refine ⟨bs, _, _, _, _, _, _, rfl, k7, e7, ?_, by omega⟩
            rw [tk]
            refine fz7.skip fun q' N y hn hq hd => z (hiff.mpr ?_)
            obtain ⟨h1, _⟩ := here q' N y hn hq hd
            rw [← hqq, h1, hn.1, show (L : Rat) * q' / (L : Rat) = q' by grind]
            exact hq
        · refine ⟨false, congrArg V.bl (decide_eq_false le), ?_⟩
          refine iteF ?_
          dsimp only [tNext]
          refine ⟨bs, _, _, _, _, _, _, rfl, k5, e5, ?_, by omega⟩
          rw [tk]
          refine fz5.skip fun q' N y hn hq hd => le ?_
          obtain ⟨h1, h2⟩ := here q' N y hn hq hd
          rw [← h1] at h2
          have := mx0.1
          split <;> omega
      · rintro σ H4 ⟨bs, v3, v7, v8, v9, v10, v11, rfl, k4, e4, fz, bl⟩
        rw [List.length_map, List.take_length] at fz
        have L0r : (0 : Rat) < (L : Rat) := by exact_mod_cast L0
        refine ⟨_, rfl, lf, bs, rfl, SqL.of e4, fun b hb => ?_, fun ys l2 pm pw nl2 => ?_⟩
        · obtain ⟨h1, ⟨t6, h2, h3⟩, _⟩ := fz.a b hb
          have e1 : b.2.2.1 = ((b.2.1 : Rat) / (L : Rat)).num := congrArg Prod.fst h1
          have e2 : b.2.2.2 = (((b.2.1 : Rat) / (L : Rat)).den : Int) := congrArg Prod.snd h1
          refine .tup (SqT.of h2) (.cons (.int _) (.cons (.tup (SqT.of h3) ?_) .nil))
          rw [← e1, ← e2]
          exact .cons (.int _) (.cons (.int _) .nil)
        have el2 : upd H4 l2 (HO.lst (ys.map fun b => V.ref b.1)) l2 = some (HO.lst (ys.map fun b => V.ref b.1)) := upd_same
        have s5 : Same H4 (upd H4 l2 (HO.lst (ys.map fun b => V.ref b.1))) := same_upd nl2
        generalize upd H4 l2 (HO.lst (ys.map fun b => V.ref b.1)) = H5 at el2 s5 ⊢
        have yl : ys.length ≤ 2 ^ 19 := by
          have zl : (zrs ns p).length ≤ p := by
            unfold zrs
            rw [List.length_map]
            have := List.length_filter_le (fun r : Nat => decide (hz (r : Int) ns % (p : Int) = 0)) (List.range p)
            rwa [List.length_range] at this
          have := pm.length_eq
          rw [List.length_map] at bl
          omega
        refine ⟨l2, rfl, lc_seq (xs := ys.map fun b => V.ref b.1) (.inl (SqL.of el2)) (fun D i H' => Same H5 H' ∧ ∃ as : List Addr, as.length = i ∧ H' D = some (.lst (as.map V.ref)) ∧ Tups H' as (((ys.take i).map fun b => (b.2.1 : Rat) / (L : Rat)).map pq)) ?_ ?_ ?_ ?_⟩
        · intro D hD
          exact ⟨same_upd hD, [], rfl, upd_same, .nil⟩
        · intro D i H6 hD ⟨s6, _⟩
          exact ⟨same_sqL s6, same_sqT s6⟩
        · intro D i x H6 hD hi ⟨s6, as, al, eD, ta⟩
          rw [List.getElem?_map] at hi
          obtain ⟨b, hb, rfl⟩ := Option.map_eq_some_iff.mp hi
          have hi' := (List.getElem?_eq_some_iff.mp hb).1
          obtain ⟨h1, ⟨t6, h2, h3⟩, _⟩ := fz.a b (pm.mem_iff.mp (List.mem_of_getElem? hb))
          refine ⟨b.1, _, rfl, SqT.of (s6 _ _ (s5 _ _ h2)), rfl, _, _, rfl, _, _, rfl, rfl, rfl, ?_⟩
          have aw : ∀ c u, c ≠ D → H6 c = some u → upd H6 D (HO.lst (as.map V.ref ++ [V.ref t6])) c = some u := fun c u h1 h2 => upd_away c u h1 h2
          refine ⟨_, rfl, _, eD, (by rw [List.length_map, sizeLine_eq]; omega), fun c o e => ?_, as ++ [t6], by rw [List.length_append, al]; rfl, by rw [upd_same, List.map_append]; rfl, ?_⟩
          · rw [upd_ne (ne_of_none e hD)]
            exact s6 _ _ e
          · rw [List.take_add_one, hb, List.map_append, List.map_append]
            exact (ta.imp fun c q z => aw c _ (ne_of z eD (by intro z; cases z)) z).snoc (aw _ _ (ne_of (s6 _ _ (s5 _ _ h3)) eD (by intro z; cases z)) (s6 _ _ (s5 _ _ h3)))
        · intro D H6 hD ⟨s6, as, al, eD, ta⟩
          rw [List.length_map, List.take_length] at ta
          have kend : Same H H6 := fun b o e => s6 _ _ (s5 _ _ (k4 b o (lfree b o (s2 _ _ (s1 _ _ e))) (s3 _ _ (s2 _ _ (s1 _ _ e)))))
          refine q D _ H6 kend ⟨as, eD, ta⟩ ?_ fun x => ?_
          · have nd : ys.Pairwise (fun x y => x.2.1 ≠ y.2.1) := by
              have := ((pm.map fun b : S3 => b.2.1).nodup_iff).mpr fz.d
              exact List.pairwise_map.mp this
            refine List.pairwise_map.mpr ((pw.and nd).imp fun {a b} h => ?_)
            have h1 : (a.2.1 : Rat) < (b.2.1 : Rat) := by
              have := h.1
              have := h.2
              exact_mod_cast (show a.2.1 < b.2.1 by omega)
            exact div_lt L0r h1
          · rw [← eL] at F fz L0
            have := FZ.all n0 F L0 fz x
            rw [eL] at this
            rw [← this, List.mem_map, List.mem_map]
            exact ⟨fun ⟨b, h1, h2⟩ => ⟨b, pm.mem_iff.mp h1, h2⟩, fun ⟨b, h1, h2⟩ => ⟨b, pm.mem_iff.mpr h1, h2⟩⟩
end
end Vf
set_option maxRecDepth 100000
set_option maxHeartbeats 8000000
namespace Vf
open PySem PySem.Spec PyProof.Rows L2
structure MeX (P : Program) (w : World) (K : PySem.W.Frag) (mg : Str → Option Value) (base : Heap) (CP : Addr) (x : Str) (k : Nat) (ps : List Str) (sp : Sp) where
  f : Addr
  fd : FuncData
  m : Meth K CP x f
  b : Binds K fd ps []
  ok : FnOk P w K mg base (L2.CX P w) k f fd ps sp
/-- what is asked of a polynomial that is not nought -/
structure Lw (A : List Rat) : Prop where
  l : A.length ≤ 13
  sr : ∀ i, Sr (cf A i)
  q : ∃ (D S : List Rat) (M N M' N' M1 N1 M2 N2 M3 N3 : _), Fb A M N ∧ Fb (stripQ (pslope A)) M' N' ∧ Cm A (stripQ (pslope A)) D ∧ Fb A M1 N1 ∧ Fb D M2 N2 ∧ N1 ≤ 2 ^ 1200 ∧ N2 ≤ 2 ^ 1200 ∧ D ≠ [] ∧ DvOk A D M2 N2 ∧ (∀ Qq R, Qr A D Qq R → Qq = S) ∧ Fb S M3 N3 ∧ S ≠ [] ∧ (∀ x, ev S x = 0 ↔ ev A x = 0) ∧
    ∀ (T : List Int) (k : Rat), Pm T → T.length = S.length → k ≠ 0 → (∀ x, ev (qi T) x = k * ev S x) → (∀ i, (ci T i).natAbs ≤ N3) → RzOk T
/-- what is told of whole numbers where it is nought -/
def LwV (A : List Rat) (v : V) : Prop := (v = .non ∧ ∀ z : Nat, ev A (z : Rat) ≠ 0) ∨ ∃ z : Nat, v = .int (z : Int) ∧ ev A (z : Rat) = 0 ∧ ∀ y : Nat, y < z → ev A (y : Rat) ≠ 0
def spLWZ (K : PySem.W.Frag) (CP : Addr) : Sp := fun vs H Q _ => ∃ (a : Addr) (A : List Rat), vs = [.ref a] ∧ PolyQ K CP H a A ∧ (A ≠ [] → Lw A) ∧ ∀ (v : V) (H' : Hp), Same H H' → LwV A v → Q v H'
section
variable {P : Program} {w : World} {K : PySem.W.Frag} {mg : Str → Option Value} {base : Heap} {CP CR CN CI : Addr}
abbrev sLWZ : Stmt := topS 66
theorem scLWZ : FnScope ["poly", "single", "top", "bottom"] ["poly"] (defScope sLWZ) := ⟨rfl, rfl, rfl, by decide +kernel, rfl, by decide +kernel, by decide +kernel⟩
theorem ok_lwz {f : Addr} {fd : FuncData} (F : Fun K "least_whole_zero" "least_whole_zero" sLWZ f fd) (T : Bk mg) (C : PoC K mg CP) (M_degree : Me P w K mg base CP "degree" 1 ["self"] (spPolyD K CP)) (M_slope : MeX P w K mg base CP "slope" 7 ["self"] (spSlope K CP)) (G_common : Dx P w K mg base "common" 9 ["one", "other"] (spCommonP K CP)) (G_divided : Dx P w K mg base "divided" 8 ["one", "other"] (spDivd K CP CN)) (G_whole_row : Df P w K mg base "whole_row" 2 ["poly"] (spWR K CP)) (G_ratio_zeros : Df P w K mg base "ratio_zeros" 4 ["row"] spRZ) : FnOk P w K mg base (L2.CX P w) 10 f fd ["poly"] (spLWZ K CP) := by
  refine F.okX scLWZ (fun vs H W E h => ?_) (fun cdv A0 outer s0 H vs W E hr h => ?_)
  · obtain ⟨a, A, rfl, _⟩ := h
    rfl
  · obtain ⟨a, A, rfl, pA, lw, q⟩ := h
    refine ⟨_, (pss_cons (ps_if (pt_cmpR op_lt (pe_meth0 (pv 0) C.cl M_degree.m M_degree.ok (hr.mono (by decide)) M_degree.b .nil pass0) pe_int (nomark _))
    (pss_one (ps_ret pe_int))
    pss_nil)
  (pss_cons (ps_set (i := 1) scLWZ.nd rfl (Or.inl rfl) (pe_ix (r := rIxT K) ix_tup (pe_call G_divided.ok (hr.mono (by decide)) rfl G_divided.m G_divided.kp G_divided.b .nil passL (pa_cons (pv 0) (pa_cons (pe_call G_common.ok (hr.mono (by decide)) rfl G_common.m G_common.kp G_common.b .nil passL (pa_cons (pv 0) (pa_cons (pe_meth0 (pv 0) C.cl M_slope.m M_slope.ok (hr.mono (by decide)) M_slope.b .nil passL) pa_nil))) pa_nil))) pe_int (fun _ _ => rfl)))
  (pss_cons (ps_for (passes_of rfl) rfl (pi_seq (pe_call G_ratio_zeros.ok (hr.mono (by decide)) rfl G_ratio_zeros.m G_ratio_zeros.kp G_ratio_zeros.b .nil pass0 (pa_cons (pe_call G_whole_row.ok (hr.mono (by decide)) rfl G_whole_row.m G_whole_row.kp G_whole_row.b .nil pass0 (pa_cons (pv 1) pa_nil)) pa_nil))) (pg_tup rfl (pgs_cons (pg_name (i := 2) scLWZ.nd rfl (Or.inl rfl)) (pgs_cons (pg_name (i := 3) scLWZ.nd rfl (Or.inl rfl)) pgs_nil)))
    (pss_one (ps_if (PW.pt (pw_and (pt_cmpR op_eq (pv 3) pe_int (nomark _)) (pw_and1 (pt_cmpR op_ge (pv 2) pe_int (nomark _)))))
      (pss_one (ps_ret (pv 2)))
      pss_nil)))
  (pss_one (ps_ret pe_non))))), ?_⟩
    obtain ⟨dx, tt, as, h1, h2, h3⟩ := id pA
    have zero_ev : ∀ x : Rat, ev [] x = 0 := fun x => rfl
    refine ⟨_, rfl, a, dx, _, rfl, h1, (by kernel_rfl), a, A.map pq, rfl, pA, _, _, rfl, rfl, ?_⟩
    rw [List.length_map]
    by_cases nA : A = []
    · refine ⟨true, congrArg V.bl (decide_eq_true (by rw [nA]; decide)), ?_⟩
      refine iteT ?_
      exact q (.int 0) H (Same.refl _) (.inr ⟨0, rfl, by rw [nA]; rfl, fun y h => absurd h (Nat.not_lt_zero _)⟩)
    have lA := List.length_pos_iff.mpr nA
    refine ⟨false, congrArg V.bl (decide_eq_false (by omega)), ?_⟩
    refine iteF ?_
    obtain ⟨l13, sr, D, S, M, N, M', N', M1, N1, M2, N2, M3, N3, f1, f2, cm, g1, g2, n1, n2, nD, ok, uq, f3, nS, zz, rz⟩ := lw nA
    refine ⟨_, rfl, _, rfl, _, rfl, a, dx, _, rfl, h1, (by kernel_rfl), a, A, rfl, pA, l13, sr, fun y H1 s1 py => ?_⟩
    refine tnil_k ?_
    refine ⟨a, y, A, stripQ (pslope A), D, M, N, M', N', rfl, pA.same s1, py, f1, f2, cm, fun z H2 s2 pz => ?_⟩
    refine tnil_k ?_
    refine ⟨a, z, A, D, M1, N1, M2, N2, rfl, (pA.same s1).same s2, pz, g1, g2, n1, n2, fun z => absurd z nD, fun _ => ⟨ok, fun t x y' Qq R H3 s3 et px py' qr => ?_⟩⟩
    rw [uq Qq R qr] at px
    refine ⟨t, _, _, .ref x, rfl, rfl, SqT.of et, at_of (j := 0) rfl rfl, ?_⟩
    refine ⟨_, rfl, x, S, M3, N3, rfl, px, f3, nS, fun l T k H4 s4 rT pm lT k0 eT bT => ?_⟩
    refine tnil_k ?_
    refine ⟨l, T, rfl, rT, rz T k pm lT k0 eT bT, fun l' zs H5 s5 rl pw hzs => ?_⟩
    obtain ⟨zas, ez, tz⟩ := rl
    have zl := tz.lenQ
    have hzs' : ∀ q, q ∈ zs ↔ ev A q = 0 := fun q => by
      rw [hzs q, eT q, ← zz q]
      constructor
      · intro h
        rcases Rat.mul_eq_zero.mp h with y | y
        · exact absurd y k0
        · exact y
      · intro h
        rw [h, Rat.mul_zero]
    have sH : Same H H5 := s1.trans (s2.trans (s3.trans (s4.trans s5)))
    refine ⟨l', rfl, .inl ⟨_, SqL.of ez, for_list (K := K) (a := l') (xs := zas.map V.ref) (fun i σ H' => ∃ v2 v3 : Option V, σ = [some (.ref a), some (.ref x), v2, v3] ∧ Same H5 H' ∧ ∀ q ∈ zs.take i, ¬ (q.den = 1 ∧ 0 ≤ q.num))
      ⟨none, none, rfl, Same.refl _, fun q hq => absurd hq (by rw [List.take_zero]; exact List.not_mem_nil)⟩ (fun i σ H' _ ⟨_, _, _, ss, _⟩ => SqL.of (ss _ _ ez)) ?_ ?_⟩⟩
    · rintro i v σ H6 hi ⟨v2, v3, rfl, s6, no⟩
      rw [List.getElem?_map] at hi
      obtain ⟨b, hb, rfl⟩ := Option.map_eq_some_iff.mp hi
      obtain ⟨qq, hq, tq⟩ := tz.atQ hb
      have tq6 : TR H6 b qq := s6 _ _ tq
      have step : ¬ (qq.den = 1 ∧ 0 ≤ qq.num) → ∀ q ∈ zs.take (i + 1), ¬ (q.den = 1 ∧ 0 ≤ q.num) := fun h q hm => by
        rw [List.take_add_one, hq] at hm
        rcases List.mem_append.mp hm with z | z
        · exact no q z
        · rw [List.mem_singleton.mp z]
          exact h
      refine ⟨b, _, rfl, SqT.of tq6, rfl, _, _, rfl, _, _, rfl, rfl, ?_⟩
      refine ⟨_, rfl, ?_⟩
      dsimp only [tC]
      refine rEq_int (fun z => ?_) fun z => ?_
      · refine iteT ?_
        refine ⟨_, rfl, _, _, rfl, rfl, ?_⟩
        have d1 : qq.den = 1 := by omega
        by_cases n0 : 0 ≤ qq.num
        · refine ⟨true, congrArg V.bl (decide_eq_true n0), ?_⟩
          refine iteT ?_
          obtain ⟨m, hm⟩ : ∃ m : Nat, qq.num = (m : Int) := ⟨qq.num.toNat, by omega⟩
          have eq : qq = (m : Rat) := by
            have h := Rat.num_divInt_den qq
            rw [d1, hm] at h
            rw [← h]
            rw [Rat.divInt_eq_div]
            show ((m : Int) : Rat) / ((1 : Int) : Rat) = (m : Rat)
            rw [show ((1 : Int) : Rat) = 1 from rfl, show ((m : Int) : Rat) = (m : Rat) from rfl]
            grind
          refine ⟨_, rfl, ?_⟩
          refine q _ H6 (sH.trans s6) (.inr ⟨m, congrArg V.int hm, by rw [← eq]; exact (hzs' qq).mp (List.mem_of_getElem? hq), fun y hy z => ?_⟩)
          have hm' := (hzs' (y : Rat)).mpr z
          obtain ⟨j, hj, ej⟩ := List.mem_iff_getElem.mp hm'
          have hi' := (List.getElem?_eq_some_iff.mp hq)
          obtain ⟨hil, hie⟩ := hi'
          have lt : (y : Rat) < qq := by rw [eq]; exact_mod_cast hy
          have ji : j < i := by
            rcases Nat.lt_trichotomy j i with w | w | w
            · exact w
            · subst w
              rw [ej] at hie
              rw [hie] at lt
              exact absurd lt (Rat.not_lt.mpr Rat.le_refl)
            · have := List.pairwise_iff_getElem.mp pw i j hil hj w
              rw [ej, hie] at this
              exact absurd this (Rat.not_lt.mpr (Rat.le_of_lt lt))
          refine no (y : Rat) (List.mem_take_iff_getElem.mpr ⟨j, by omega, ej⟩) ⟨Rat.den_natCast .., by rw [Rat.num_natCast]; omega⟩
        · refine ⟨false, congrArg V.bl (decide_eq_false n0), ?_⟩
          refine iteF ?_
          dsimp only [tNext]
          exact ⟨_, _, rfl, s6, step fun h => n0 h.2⟩
      · refine iteF ?_
        refine iteF ?_
        dsimp only [tNext]
        exact ⟨_, _, rfl, s6, step fun h => z (by have := h.1; omega)⟩
    · rintro σ H6 ⟨v2, v3, rfl, s6, no⟩
      rw [List.length_map, zl, List.take_length] at no
      refine q .non H6 (sH.trans s6) (.inl ⟨rfl, fun z hz => no (z : Rat) ((hzs' _).mpr hz) ⟨Rat.den_natCast .., by rw [Rat.num_natCast]; omega⟩⟩)
end
end Vf
set_option maxRecDepth 100000
set_option exponentiation.threshold 5000
namespace Vf
structure Pl9 (pz o1 o2 : List Int) (A B : Nat) : Prop where
  sp : Stp (qi pz)
  s1 : Stp (qi o1)
  s2 : Stp (qi o2)
  np : pz ≠ []
  n1 : o1 ≠ []
  n2 : o2 ≠ []
  lp : pz.length ≤ 13
  l1 : o1.length ≤ 9
  l2 : o2.length ≤ 9
  A0 : 0 < A
  a1 : ∀ i, (ci o1 i).natAbs ≤ A
  a2 : ∀ i, (ci o2 i).natAbs ≤ A
  bp : ∀ i, (ci pz i).natAbs ≤ B
theorem made_row9 {pz o1 o2 us vs : List Int} {A B M : Nat} (hP : Pl9 pz o1 o2 A B) (lu : us.length ≤ 10) (lv : vs.length ≤ 10) (hu : ∀ i, (ci us i).natAbs ≤ (2 * ((M + 1) * A)) ^ M) (hv : ∀ i, (ci vs i).natAbs ≤ (2 * ((M + 1) * A)) ^ M) :
    ∃ t : List Int, qi t = pmul (qi pz) (padd (pmul (qi us) (qi o1)) (pmul (qi vs) (qi o2))) ∧ ∀ i, (ci t i).natAbs ≤ bnd A B M := by
  have := hP.lp
  have := hP.l1
  have := hP.l2
  refine int_of fun i => ?_
  have k : ∀ {o : List Int} {N : Nat}, (∀ i, (ci o i).natAbs ≤ N) → ∀ i, Fr 1 N (cf (qi o) i) := fun {o N} h i => by
    rw [cf_qi]; exact fr_int _ (h i)
  have z := pmul_fr (k hP.bp) (b := padd (pmul (qi us) (qi o1)) (pmul (qi vs) (qi o2))) (M' := 1) (N' := 32 * ((2 * ((M + 1) * A)) ^ M * A) + 32 * ((2 * ((M + 1) * A)) ^ M * A)) (fun j => by
    rw [cf_padd]
    have y1 := pmul_fr (k hu) (k hP.a1) (by rw [qi_len, qi_len]; omega) j
    have y2 := pmul_fr (k hv) (k hP.a2) (by rw [qi_len, qi_len]; omega) j
    exact y1.add y2) (by rw [qi_len, pad_len, pmul_len, pmul_len, qi_len, qi_len, qi_len, qi_len]; omega) i
  exact z
theorem bnd_le9 {A B M : Nat} (hA : A ≤ 2 ^ 62) (hB : B ≤ 2 ^ 100) (hM : M ≤ 15) : bnd A B M ≤ 2 ^ (173 + 67 * M) := by
  unfold bnd
  have h1 := Nat.mul_le_mul (cpow_le hA hM) hA
  rw [← Nat.pow_add] at h1
  have h2 : 32 * ((2 * ((M + 1) * A)) ^ M * A) + 32 * ((2 * ((M + 1) * A)) ^ M * A) ≤ 2 ^ 6 * 2 ^ (67 * M + 62) := by
    generalize (2 * ((M + 1) * A)) ^ M * A = z at *
    generalize 2 ^ (67 * M + 62) = y at *
    omega
  have h3 := Nat.mul_le_mul_left (2 ^ 5) (Nat.mul_le_mul hB h2)
  rw [← Nat.pow_add, ← Nat.pow_add, ← Nat.pow_add] at h3
  rw [show 173 + 67 * M = 5 + (100 + (6 + (67 * M + 62))) by omega]
  exact h3
theorem two_of9 {pz o1 o2 : List Int} {A B : Nat} (hP : Pl9 pz o1 o2 A B) (hA : A ≤ 2 ^ 62) (hB : B ≤ 2 ^ 100) {X Y : List Int} (hX : Pm X) (hY : Pm Y) {k1 k2 : Rat} (n1 : k1 ≠ 0) (n2 : k2 ≠ 0) (eX : ∀ x, ev (qi X) x = k1 * fab pz o1 x) (eY : ∀ x, ev (qi Y) x = k2 * fab pz o2 x) :
    ∃ G c1 c2, Two X Y G c1 c2 (2 ^ 1200) ∧ ∃ s : List Rat, ∀ x, ev (qi G) x = ev (qi pz) x * ev s x := by
  have lp := List.length_pos_iff.mpr hP.np
  have l1 := List.length_pos_iff.mpr hP.n1
  have l2 := List.length_pos_iff.mpr hP.n2
  have b0 := hP.lp
  have b1 := hP.l1
  have b2 := hP.l2
  have sP := hP.sp
  have nP := qi_ne hP.np
  obtain ⟨g, h1, h2, a, b, sg, ng, e1, e2, e3⟩ := gcd_ex _ (qi o1) (qi o2) hP.s1 hP.s2 (qi_ne hP.n1) (Nat.le_refl _)
  have lg := List.length_pos_iff.mpr ng
  -- what is left of both
  let j1 := stripQ h1
  let j2 := stripQ h2
  have s1 : Stp j1 := stripQ_stp _
  have s2 : Stp j2 := stripQ_stp _
  have e1 : ∀ x, ev (qi o1) x = ev g x * ev j1 x := fun x => by rw [e1, ev_stripQ]
  have e2 : ∀ x, ev (qi o2) x = ev g x * ev j2 x := fun x => by rw [e2, ev_stripQ]
  have m1 : j1 ≠ [] := fun z => qi_ne hP.n1 (stp_nil hP.s1 fun x => by rw [e1, z]; show _ * 0 = (0 : Rat); grind)
  have m2 : j2 ≠ [] := fun z => qi_ne hP.n2 (stp_nil hP.s2 fun x => by rw [e2, z]; show _ * 0 = (0 : Rat); grind)
  have L1 := len_mul_eq sg s1 hP.s1 ng m1 e1
  have L2 := len_mul_eq sg s2 hP.s2 ng m2 e2
  rw [qi_len] at L1 L2
  have lj1 := List.length_pos_iff.mpr m1
  have lj2 := List.length_pos_iff.mpr m2
  clear_value j1 j2
  have bez : ∀ x, ev a x * ev j1 x + ev b x * ev j2 x = 1 := fun x => by
    have h := ev_can sg ng (L := padd (pmul a j1) (pmul b j2)) (R := [1]) (fun x => by
      rw [ev_padd, ev_pmul, ev_pmul]
      have := e3 x
      rw [e1, e2] at this
      show _ = _ * (1 + x * 0)
      grind) x
    rw [ev_padd, ev_pmul, ev_pmul] at h
    rw [h]
    show 1 + x * 0 = (1 : Rat)
    grind
  -- the divisor
  let gp := stripQ (pmul (qi pz) g)
  have sgp : Stp gp := stripQ_stp _
  have egp : ∀ x, ev gp x = ev (qi pz) x * ev g x := fun x => by show ev (stripQ _) x = _; rw [ev_stripQ, ev_pmul]
  have ngp : gp ≠ [] := fun z => ng (stp_nil sg (mul_zero2 sP nP fun x => by rw [← egp, z]; rfl))
  have Lgp := len_mul_eq sP sg sgp nP ng egp
  rw [qi_len] at Lgp
  clear_value gp
  obtain ⟨G, kg, hG, kg0, eG, lG⟩ := prim_ex sgp ngp
  have kgi : kg * (1 / kg) = 1 := by rw [Rat.div_def, Rat.one_mul]; exact Rat.mul_inv_cancel kg kg0
  have egpG : ∀ x, ev gp x = ev (qi G) x * (1 / kg) := fun x => by rw [eG]; grind
  -- both in it
  obtain ⟨d1, hd1⟩ := gauss (X := X) (S := pscale j1 (k1 * (1 / kg))) hG fun x => by
    rw [eX, ev_pscale, eG, egp]
    unfold fab
    rw [e1]
    grind
  obtain ⟨d2, hd2⟩ := gauss (X := Y) (S := pscale j2 (k2 * (1 / kg))) hG fun x => by
    rw [eY, ev_pscale, eG, egp]
    unfold fab
    rw [e2]
    grind
  have E1 : ∀ x, ev (qi X) x = ev (qi G) x * ev (qi d1) x := fun x => by
    rw [hd1, ev_pscale, eX, eG, egp]
    unfold fab
    rw [e1]
    grind
  have E2 : ∀ x, ev (qi Y) x = ev (qi G) x * ev (qi d2) x := fun x => by
    rw [hd2, ev_pscale, eY, eG, egp]
    unfold fab
    rw [e2]
    grind
  obtain ⟨c1, pc1, ec1⟩ := pm_part hX hG E1
  obtain ⟨c2, pc2, ec2⟩ := pm_part hY hG E2
  have E1 : ∀ x, ev (qi X) x = ev (qi G) x * ev (qi c1) x := fun x => by rw [ec1, E1]
  have E2 : ∀ x, ev (qi Y) x = ev (qi G) x * ev (qi c2) x := fun x => by rw [ec2, E2]
  have C1 : ∀ x, ev (qi c1) x = ev j1 x * (k1 * (1 / kg)) := fun x => by rw [ec1, hd1, ev_pscale]
  have C2 : ∀ x, ev (qi c2) x = ev j2 x * (k2 * (1 / kg)) := fun x => by rw [ec2, hd2, ev_pscale]
  have q1 : k1 * (1 / kg) ≠ 0 := fun z => by
    rcases Rat.mul_eq_zero.mp z with y | y
    · exact n1 y
    · rw [y, Rat.mul_zero] at kgi; exact absurd kgi (by decide +kernel)
  have q2 : k2 * (1 / kg) ≠ 0 := fun z => by
    rcases Rat.mul_eq_zero.mp z with y | y
    · exact n2 y
    · rw [y, Rat.mul_zero] at kgi; exact absurd kgi (by decide +kernel)
  -- the planted rows are whole multiples
  have mult : ∀ {o X : List Int} {k : Rat}, Pm X → k ≠ 0 → (∀ x, ev (qi X) x = k * fab pz o x) → ∃ z : Int, ∀ x, fab pz o x = (z : Rat) * ev (qi X) x := fun {o X k} hX k0 e => by
    obtain ⟨t, ht⟩ := whole_row (L := pmul (qi pz) (qi o)) fun i => by
      rw [cf_pmul]; unfold pc
      exact Wh.sm fun j _ => by rw [cf_qi, cf_qi]; exact (Wh.int _).mul (Wh.int _)
    have ki : k * (1 / k) = 1 := by rw [Rat.div_def, Rat.one_mul]; exact Rat.mul_inv_cancel k k0
    obtain ⟨z, ez, _⟩ := pm_mult (t := t) (k := 1 / k) hX fun x => by
      rw [ht, ev_pmul, e]
      unfold fab
      grind
    refine ⟨z, fun x => ?_⟩
    rw [← ez, e]
    grind
  obtain ⟨z1, ez1⟩ := mult hX n1 eX
  obtain ⟨z2, ez2⟩ := mult hY n2 eY
  have z1n : z1 ≠ 0 := fun z => by
    have : ∀ x, ev (qi X) x = 0 := fun x => by rw [eX, ez1, z]; show k1 * (0 * _) = (0 : Rat); grind
    exact qi_ne hX.ne (stp_nil hX.stp this)
  have z2n : z2 ≠ 0 := fun z => by
    have : ∀ x, ev (qi Y) x = 0 := fun x => by rw [eY, ez2, z]; show k2 * (0 * _) = (0 : Rat); grind
    exact qi_ne hY.ne (stp_nil hY.stp this)
  -- sizes of both
  have bXY : ∀ {o X : List Int} {z : Int}, o.length ≤ 9 → (∀ i, (ci o i).natAbs ≤ A) → Pm X → z ≠ 0 → (∀ x, fab pz o x = (z : Rat) * ev (qi X) x) → ∀ i, (ci X i).natAbs ≤ 2 ^ 167 := fun {o X z} lo ho hX hz e i => by
    obtain ⟨t, ht, bt⟩ := int_of (L := pmul (qi pz) (qi o)) (N := 32 * (B * A)) fun i => by
      have := pmul_fr (a := qi pz) (b := qi o) (M := 1) (N := B) (M' := 1) (N' := A) (fun i => by rw [cf_qi]; exact fr_int _ (hP.bp i)) (fun i => by rw [cf_qi]; exact fr_int _ (ho i)) (by rw [qi_len, qi_len]; omega) i
      exact this
    have h := pm_le (t := t) (k := (z : Rat)) hX (by exact_mod_cast hz) (fun x => by rw [ht, ev_pmul]; exact e x) i
    have h2 := bt i
    have h3 := Nat.mul_le_mul_left (2 ^ 5) (Nat.mul_le_mul hB hA)
    rw [← Nat.pow_add, ← Nat.pow_add] at h3
    exact Nat.le_trans h (Nat.le_trans h2 h3)
  have bX := bXY hP.l1 hP.a1 hX z1n ez1
  have bY := bXY hP.l2 hP.a2 hY z2n ez2
  have up : ∀ {n : Nat}, n ≤ 2 ^ 167 → n ≤ 2 ^ 1200 := fun h => Nat.le_trans h (Nat.pow_le_pow_right (by decide) (by decide))
  have up2 : ∀ {n : Nat}, n ≤ 2 ^ 1156 → n ≤ 2 ^ 1200 := fun h => Nat.le_trans h (Nat.pow_le_pow_right (by decide) (by decide))
  -- the cofactors are short: a sum that vanishes
  obtain ⟨us, vs, lus, lvs, bu, bv, ⟨i0, nz⟩, van⟩ := siegel_rows (o1 := o1) (o2 := o2) (m1 := j1.length) (m2 := j2.length) (h := g.length - 1) (M := j1.length + j2.length - 1) hP.a1 hP.a2 hP.A0 (by omega)
  have syz : ∀ x, ev (qi us) x * ev j1 x + ev (qi vs) x * ev j2 x = 0 := fun x => by
    have h : ∀ d, cf (padd (pmul (qi us) (qi o1)) (pmul (qi vs) (qi o2))) (g.length - 1 + d) = 0 := fun d => by
      by_cases hd : d < j1.length + j2.length - 1
      · exact van _ (by omega) (by omega)
      · rw [cf_padd, cf_pmul_ge (a := qi vs) (by rw [qi_len, qi_len]; omega), cf_pmul_ge (a := qi us) (by rw [qi_len, qi_len]; omega), Rat.add_zero]
    have ls : (stripQ (padd (pmul (qi us) (qi o1)) (pmul (qi vs) (qi o2)))).length ≤ g.length - 1 := sq_len fun i hi => by
      have := h (i - (g.length - 1))
      rw [show g.length - 1 + (i - (g.length - 1)) = i by omega] at this
      exact this
    have := mul_small (A := g) (W := padd (pmul (qi us) j1) (pmul (qi vs) j2)) sg ng (fun x => by
      show ev (stripQ (padd (pmul (qi us) (qi o1)) (pmul (qi vs) (qi o2)))) x = _
      rw [ev_stripQ, ev_padd, ev_pmul, ev_pmul, ev_padd, ev_pmul, ev_pmul, e1, e2]; grind) (by omega) x
    rw [ev_padd, ev_pmul, ev_pmul] at this
    exact this
  have sU : ∀ x, ev (qi us) x = ev j2 x * ev (padd (pmul (qi us) b) (pscale (pmul a (qi vs)) (-1))) x := fun x => by
    rw [ev_padd, ev_pscale, ev_pmul, ev_pmul]
    have h := bez x
    have h2 := syz x
    have h3 : ev (qi us) x = ev (qi us) x * (ev a x * ev j1 x + ev b x * ev j2 x) := by rw [h]; grind
    have h4 : ev (qi us) x * ev a x * ev j1 x = -(ev a x * ev (qi vs) x * ev j2 x) := by grind
    rw [h3]
    grind
  have sV : ∀ x, ev (qi vs) x = ev j1 x * (-ev (padd (pmul (qi us) b) (pscale (pmul a (qi vs)) (-1))) x) := fun x => by
    rw [ev_padd, ev_pscale, ev_pmul, ev_pmul]
    have h := bez x
    have h2 := syz x
    have h3 : ev (qi vs) x = ev (qi vs) x * (ev a x * ev j1 x + ev b x * ev j2 x) := by rw [h]; grind
    have h4 : ev (qi vs) x * ev b x * ev j2 x = -(ev b x * ev (qi us) x * ev j1 x) := by grind
    rw [h3]
    grind
  obtain ⟨s, hs⟩ := mul_const s2 m2 sU (by rw [qi_len]; omega)
  have s0 : s ≠ 0 := fun z => by
    rcases nz with y | y
    · exact y (ev_eq0 (fun x => by rw [sU, hs, z]; grind) i0)
    · exact y (ev_eq0 (fun x => by rw [sV, hs, z]; grind) i0)
  have M17 : (2 * ((j1.length + j2.length - 1 + 1) * A)) ^ (j1.length + j2.length - 1) ≤ 2 ^ 1156 := by
    have h1 : (j1.length + j2.length - 1 + 1) * A ≤ 2 ^ 5 * 2 ^ 62 := Nat.mul_le_mul (by omega) hA
    have h2 : 2 * ((j1.length + j2.length - 1 + 1) * A) ≤ 2 ^ 68 := by
      have := Nat.mul_le_mul_left 2 h1
      rw [← Nat.pow_add, ← Nat.pow_succ'] at this
      exact this
    refine Nat.le_trans (Nat.pow_le_pow_left h2 _) ?_
    rw [← Nat.pow_mul]
    exact Nat.pow_le_pow_right (by decide) (by omega)
  have q1i : k1 * (1 / kg) * (1 / (k1 * (1 / kg))) = 1 := by rw [Rat.div_def 1 (k1 * (1 / kg)), Rat.one_mul]; exact Rat.mul_inv_cancel _ q1
  have q2i : k2 * (1 / kg) * (1 / (k2 * (1 / kg))) = 1 := by rw [Rat.div_def 1 (k2 * (1 / kg)), Rat.one_mul]; exact Rat.mul_inv_cancel _ q2
  generalize k1 * (1 / kg) = r1 at *
  generalize k2 * (1 / kg) = r2 at *
  have bc1 : ∀ i, (ci c1 i).natAbs ≤ 2 ^ 1200 := fun i => up2 (Nat.le_trans (pm_le (t := vs) (k := -s * (1 / r1)) pc1 (fun z => by
    rcases Rat.mul_eq_zero.mp z with y | y
    · exact s0 (by grind)
    · rw [y, Rat.mul_zero] at q1i; exact absurd q1i (by decide +kernel)) (fun x => by rw [sV, hs, C1]; grind) i) (Nat.le_trans (bv i) M17))
  have bc2 : ∀ i, (ci c2 i).natAbs ≤ 2 ^ 1200 := fun i => up2 (Nat.le_trans (pm_le (t := us) (k := s * (1 / r2)) pc2 (fun z => by
    rcases Rat.mul_eq_zero.mp z with y | y
    · exact s0 y
    · rw [y, Rat.mul_zero] at q2i; exact absurd q2i (by decide +kernel)) (fun x => by rw [sU, hs, C2]; grind) i) (Nat.le_trans (bu i) M17))
  -- the short sum that tells the divisor
  have bez2 : (∃ (u v : List Int) (R : Int), R ≠ 0 ∧ R.natAbs < 2 ^ 4423 - 1 ∧ ∀ x, (R : Rat) * ev (qi G) x = ev (qi u) x * ev (qi X) x + ev (qi v) x * ev (qi Y) x) ∧ ∀ i, (ci G i).natAbs ≤ 2 ^ 1200 := by
    by_cases both : j1.length = 1 ∧ j2.length = 1
    · -- X is the divisor
      have : X = G := by
        obtain ⟨f, hf⟩ := List.length_eq_one_iff.mp both.1
        refine pm_uniq hG hX (k := f * r1) fun x => ?_
        rw [E1, C1, hf]
        show _ * ((f + x * 0) * r1) = _
        grind
      refine ⟨⟨[1], [], 1, by decide, by decide +kernel, fun x => ?_⟩, fun i => ?_⟩
      · rw [this]
        show ((1 : Int) : Rat) * _ = (((1 : Int) : Rat) + x * 0) * _ + 0 * _
        rw [show ((1 : Int) : Rat) = 1 from rfl]
        grind
      · rw [← this]
        exact up (bX i)
    · obtain ⟨us, vs, lus, lvs, bu, bv, ⟨i0, nz⟩, van⟩ := siegel_rows (o1 := o1) (o2 := o2) (m1 := j1.length - 1) (m2 := j2.length - 1) (h := g.length) (M := j1.length - 1 + (j2.length - 1) - 1) hP.a1 hP.a2 hP.A0 (by omega)
      obtain ⟨t, et, bt⟩ := made_row9 hP (us := us) (vs := vs) (M := j1.length - 1 + (j2.length - 1) - 1) (by omega) (by omega) bu bv
      have bt' : ∀ i, (ci t i).natAbs ≤ 2 ^ 1178 := fun i => Nat.le_trans (bt i) (Nat.le_trans (bnd_le9 hA hB (by omega)) (Nat.pow_le_pow_right (by decide) (by omega)))
      have van2 : ∀ d, g.length ≤ d → cf (padd (pmul (qi us) (qi o1)) (pmul (qi vs) (qi o2))) d = 0 := fun d hd => by
        by_cases hd2 : d < g.length + (j1.length - 1 + (j2.length - 1) - 1)
        · exact van _ hd hd2
        · rw [cf_padd]
          have f1 : cf (pmul (qi us) (qi o1)) d = 0 := by
            by_cases hz : us = []
            · rw [hz, cf_pmul]; unfold pc; exact sm_zero fun k _ => by rw [show qi [] = [] from rfl, cf_nil, Rat.zero_mul]
            · have := List.length_pos_iff.mpr hz
              exact cf_pmul_ge (by rw [qi_len, qi_len]; omega)
          have f2 : cf (pmul (qi vs) (qi o2)) d = 0 := by
            by_cases hz : vs = []
            · rw [hz, cf_pmul]; unfold pc; exact sm_zero fun k _ => by rw [show qi [] = [] from rfl, cf_nil, Rat.zero_mul]
            · have := List.length_pos_iff.mpr hz
              exact cf_pmul_ge (by rw [qi_len, qi_len]; omega)
          rw [f1, f2, Rat.add_zero]
      have ls := sq_len van2
      obtain ⟨rho, hr⟩ := mul_const (A := g) (S := padd (pmul (qi us) j1) (pmul (qi vs) j2)) (V := stripQ (padd (pmul (qi us) (qi o1)) (pmul (qi vs) (qi o2)))) sg ng (fun x => by
        rw [ev_stripQ, ev_padd, ev_pmul, ev_pmul, ev_padd, ev_pmul, ev_pmul, e1, e2]; grind) ls
      have hr : ∀ x, ev (qi us) x * ev j1 x + ev (qi vs) x * ev j2 x = rho := fun x => by
        have := hr x
        rw [ev_padd, ev_pmul, ev_pmul] at this
        exact this
      have rho0 : rho ≠ 0 := fun z => by
        have u0 : ∀ x, ev (qi us) x = 0 := fun x => by
          have := mul_small (A := j2) (W := padd (pmul (qi us) b) (pscale (pmul a (qi vs)) (-1))) (Z := qi us) s2 m2 (fun x => by
            rw [ev_padd, ev_pscale, ev_pmul, ev_pmul]
            have h := bez x
            have h2 := hr x
            rw [z] at h2
            have h3 : ev (qi us) x = ev (qi us) x * (ev a x * ev j1 x + ev b x * ev j2 x) := by rw [h]; grind
            have h4 : ev (qi us) x * ev a x * ev j1 x = -(ev a x * ev (qi vs) x * ev j2 x) := by grind
            rw [h3]
            grind) (by rw [qi_len]; omega) x
          rw [ev_padd, ev_pscale, ev_pmul, ev_pmul] at this
          have h := bez x
          have h2 := hr x
          rw [z] at h2
          have h3 : ev (qi us) x = ev (qi us) x * (ev a x * ev j1 x + ev b x * ev j2 x) := by rw [h]; grind
          have h4 : ev (qi us) x * ev a x * ev j1 x = -(ev a x * ev (qi vs) x * ev j2 x) := by grind
          have h5 : ev (qi us) x = ev j2 x * (ev (qi us) x * ev b x + ev a x * ev (qi vs) x * (-1)) := by
            rw [h3]; grind
          rw [h5, this]; grind
        have v0 : ∀ x, ev (qi vs) x = 0 := mul_zero2 s2 m2 fun x => by
          have := hr x
          rw [u0, z] at this
          grind
        rcases nz with y | y
        · exact y (ev_eq0 u0 i0)
        · exact y (ev_eq0 v0 i0)
      have eT : ∀ x, ev (qi t) x = rho * (1 / kg) * ev (qi G) x := fun x => by
        rw [et, ev_pmul, ev_padd, ev_pmul, ev_pmul, e1, e2]
        have h := hr x
        have h2 := egpG x
        rw [egp] at h2
        have : ev (qi pz) x * (ev (qi us) x * (ev g x * ev j1 x) + ev (qi vs) x * (ev g x * ev j2 x)) = ev (qi pz) x * ev g x * (ev (qi us) x * ev j1 x + ev (qi vs) x * ev j2 x) := by grind
        rw [this, h, h2]
        grind
      have r0 : rho * (1 / kg) ≠ 0 := fun z => by
        rcases Rat.mul_eq_zero.mp z with y | y
        · exact rho0 y
        · rw [y, Rat.mul_zero] at kgi; exact absurd kgi (by decide +kernel)
      obtain ⟨R, eR, hR⟩ := pm_mult hG eT
      have RN : R ≠ 0 := fun z => r0 (by rw [eR, z]; rfl)
      refine ⟨⟨us.map (z1 * ·), vs.map (z2 * ·), R, RN, ?_, fun x => ?_⟩, fun i => ?_⟩
      · have h1 := hR (G.length - 1)
        have h2 := bt' (G.length - 1)
        have h3 := hG.tp
        rw [h1, Int.natAbs_mul] at h2
        have h4 := Nat.le_mul_of_pos_right R.natAbs (show 0 < (ci G (G.length - 1)).natAbs by omega)
        have h5 : 2 ^ 1178 < 2 ^ 4423 - 1 := by decide +kernel
        exact Nat.lt_of_le_of_lt (Nat.le_trans h4 h2) h5
      · rw [int_scale, int_scale]
        have h1 := eT x
        rw [eR] at h1
        rw [← h1, et, ev_pmul, ev_padd, ev_pmul, ev_pmul]
        have h2 := ez1 x
        have h3 := ez2 x
        unfold fab at h2 h3
        have : ev (qi pz) x * (ev (qi us) x * ev (qi o1) x + ev (qi vs) x * ev (qi o2) x) = ev (qi us) x * (ev (qi pz) x * ev (qi o1) x) + ev (qi vs) x * (ev (qi pz) x * ev (qi o2) x) := by grind
        rw [this, h2, h3]
        grind
      · exact Nat.le_trans (pm_le hG r0 eT i) (Nat.le_trans (bt' i) (Nat.pow_le_pow_right (by decide) (by decide)))
  obtain ⟨⟨u, v, R, RN, Rp, eR⟩, bG⟩ := bez2
  refine ⟨G, c1, c2, ⟨⟨hX, hY, hG, ⟨c1, E1⟩, ⟨c2, E2⟩, u, v, R, RN, Rp, eR⟩, pc1, pc2, E1, E2, ⟨pc1, pc2, pm_one, ⟨c1, fun x => ?_⟩, ⟨c2, fun x => ?_⟩, u, v, R, RN, Rp, fun x => ?_⟩, fun i => up (bX i), fun i => up (bY i), bG, bc1, bc2⟩, pscale g kg, fun x => ?_⟩
  · show _ = (((1 : Int) : Rat) + x * 0) * _
    rw [show ((1 : Int) : Rat) = 1 from rfl]; grind
  · show _ = (((1 : Int) : Rat) + x * 0) * _
    rw [show ((1 : Int) : Rat) = 1 from rfl]; grind
  · have h := ev_can hG.stp (qi_ne hG.ne) (L := [(R : Rat)]) (R := padd (pmul (qi u) (qi c1)) (pmul (qi v) (qi c2))) (fun x => by
      rw [ev_padd, ev_pmul, ev_pmul]
      have := eR x
      rw [E1, E2] at this
      show _ * ((R : Rat) + x * 0) = _
      grind) x
    rw [ev_padd, ev_pmul, ev_pmul] at h
    rw [← h]
    show (R : Rat) * (((1 : Int) : Rat) + x * 0) = (R : Rat) + x * 0
    rw [show ((1 : Int) : Rat) = 1 from rfl]; grind
  · rw [ev_pscale, eG, egp]; grind
end Vf
set_option maxRecDepth 100000
set_option exponentiation.threshold 5000
namespace Vf
theorem gcd9 {l : List (List Rat × Nat)} (hm : Mos l) (hf : Fam l) {k M1 N1 M2 N2 : Nat} (m1 : 0 < M1) (m2 : 0 < M2) (fE' : ∀ i, Fr M1 N1 (cf (prE l (k + 1)) i)) (n1' : N1 ≤ 2 ^ 100) (fR : ∀ i, Fr M2 N2 (cf (prR l k) i)) (fS : ∀ i, Fr M2 N2 (cf (prS l k) i)) (n2' : N2 ≤ 2 ^ 62) (hd : (prE l k).length ≤ 13) (hd1 : (prE l (k + 1)).length ≤ 13) (lR : (prR l k).length ≤ 9) (lS : (prS l k).length ≤ 9) (act : 1 < (prE l k).length) :
    ∃ (X Y G : List Int) (k1 k2 : Rat), GdT X Y G ∧ X.length ≤ 13 ∧ Y.length ≤ 13 ∧ (∀ i, (ci X i).natAbs ≤ 2 ^ 1200) ∧ (∀ i, (ci Y i).natAbs ≤ 2 ^ 1200) ∧ (∀ i, (ci G i).natAbs ≤ 2 ^ 1200) ∧ k1 ≠ 0 ∧ k2 ≠ 0 ∧ (∀ x, ev (qi X) x = k1 * ev (prE l k) x) ∧ (∀ x, ev (qi Y) x = k2 * ev (slp (prE l k)) x) ∧ ∃ c : Rat, c ≠ 0 ∧ ∀ x, ev (qi G) x = c * ev (prE l (k + 1)) x := by
  have mE := (mo_E k hm).1
  have mE' := (mo_E (k + 1) hm).1
  have mR := mo_R k hm
  have eR := fun x => prE_R x k l
  have eS := fun x => prE_S x k l
  have cRS := cop_RS k hf
  generalize prE l k = E at *
  generalize prE l (k + 1) = E' at *
  generalize prR l k = R at *
  generalize prS l k = S at *
  have nB := slp_ne mE act
  have nS : stripQ S ≠ [] := fun z => nB (stp_nil (stripQ_stp _) fun x => by rw [ev_stripQ, eS, ev_nil' z, Rat.mul_zero])
  obtain ⟨pz, sz, nz, lz, z0, bz, ez⟩ := int_row mE'.s mE'.n m1 fE'
  obtain ⟨o1, s1, n1, l1, c10, b1, e1⟩ := int_row mR.s mR.n m2 fR
  obtain ⟨o2, s2, n2, l2, c20, b2, e2⟩ := int_row (stripQ_stp S) nS m2 (fun i => by rw [cf_stripQ]; exact fS i)
  have e2 : ∀ x, ev (qi o2) x = (M2 : Rat) * ev S x := fun x => by rw [e2, ev_stripQ]
  have lS' := stripQ_le S
  have up : ∀ {n a b : Nat}, n ≤ 2 ^ a → a ≤ b → n ≤ 2 ^ b := fun h1 h2 => Nat.le_trans h1 (Nat.pow_le_pow_right (by decide) h2)
  have PL : Pl9 pz o1 o2 (2 ^ 62) (2 ^ 100) := ⟨sz, s1, s2, nz, n1, n2, by omega, by omega, by omega, Nat.pow_pos (by decide), fun i => Nat.le_trans (b1 i) n2', fun i => Nat.le_trans (b2 i) n2', fun i => Nat.le_trans (bz i) n1'⟩
  obtain ⟨X, kx, hX, kx0, eX, lX⟩ := prim_ex mE.s mE.n
  obtain ⟨Y, ky, hY, ky0, eY, lY⟩ := prim_ex (stripQ_stp (slp E)) nB
  have eY : ∀ x, ev (qi Y) x = ky * ev (slp E) x := fun x => by rw [eY, ev_stripQ]
  generalize (M1 : Rat) = cz at *
  generalize (M2 : Rat) = c6 at *
  have inv : ∀ {k : Rat}, k ≠ 0 → k * (1 / k) = 1 := fun {k} h => by rw [Rat.div_def, Rat.one_mul]; exact Rat.mul_inv_cancel k h
  have c60 : cz * c6 ≠ 0 := fun z => (Rat.mul_eq_zero.mp z).elim z0 c10
  have ic := inv c60
  have nzr : ∀ {r : Rat}, r ≠ 0 → r * (1 / (cz * c6)) ≠ 0 := fun {r} h z => by
    rcases Rat.mul_eq_zero.mp z with y | y
    · exact h y
    · rw [y, Rat.mul_zero] at ic; exact absurd ic (by decide +kernel)
  obtain ⟨G, g1, g2, tw, s, hs⟩ := two_of9 PL (Nat.le_refl _) (Nat.le_refl _) hX hY (nzr kx0) (nzr ky0) (fun x => by
    unfold fab
    rw [eX, ez, e1, eR]
    grind) (fun x => by
    unfold fab
    rw [eY, ez, e2, eS]
    grind)
  have ls : (slp E).length = E.length - 1 := by unfold slp; rw [tab_len]
  have lsq := stripQ_le (slp E)
  refine ⟨X, Y, G, kx, ky, tw.g, by omega, by omega, tw.bx, tw.yb, tw.bg, kx0, ky0, eX, eY, ?_⟩
  have ix := inv kx0
  have iy := inv ky0
  obtain ⟨u, v, hb⟩ := cRS
  have eG : ∀ x, ev E' x = ev (qi G) x * ev (stripQ (padd (pscale (pmul u (qi g1)) (1 / kx)) (pscale (pmul v (qi g2)) (1 / ky)))) x := fun x => by
    rw [ev_stripQ, ev_padd, ev_pscale, ev_pscale, ev_pmul, ev_pmul]
    have h1 := hb x
    have h2 := tw.e1 x
    have h3 := tw.e2 x
    rw [eX, eR] at h2
    rw [eY, eS] at h3
    have h4 : ev E' x * ev R x = (1 / kx) * (ev (qi G) x * ev (qi g1) x) := by rw [← h2]; grind
    have h5 : ev E' x * ev S x = (1 / ky) * (ev (qi G) x * ev (qi g2) x) := by rw [← h3]; grind
    have h6 : ev E' x = ev u x * (ev E' x * ev R x) + ev v x * (ev E' x * ev S x) := by
      have : ev E' x = ev E' x * (ev u x * ev R x + ev v x * ev S x) := by rw [h1, Rat.mul_one]
      rw [this]
      grind
    rw [h6, h4, h5]
    grind
  generalize stripQ (padd (pscale (pmul u (qi g1)) (1 / kx)) (pscale (pmul v (qi g2)) (1 / ky))) = t at *
  have ht : t ≠ [] := fun z => mE'.n (stp_nil mE'.s fun x => by rw [eG, z]; exact Rat.mul_zero _)
  have lG : (qi G).length ≤ E'.length := by
    have := len_mul (Z := E') tw.g.pg.stp (stripQ_stp t) (qi_ne tw.g.pg.ne) (fun z => mE'.n (stp_nil mE'.s fun x => by rw [eG, ev_nil' z]; exact Rat.mul_zero _)) fun x => by rw [ev_stripQ]; exact eG x
    have hp := List.length_pos_iff.mpr (show stripQ t ≠ [] from fun z => mE'.n (stp_nil mE'.s fun x => by rw [eG, ev_nil' z]; exact Rat.mul_zero _))
    omega
  obtain ⟨c, hc⟩ := mul_const (V := qi G) (S := pscale s cz) mE'.s mE'.n (fun x => by rw [hs, ez, ev_pscale]; grind) lG
  have eGc : ∀ x, ev (qi G) x = c * ev E' x := fun x => by
    have := hc x
    rw [ev_pscale] at this
    rw [hs, ez, ← this]
    grind
  exact ⟨c, fun z => qi_ne tw.g.pg.ne (stp_nil tw.g.pg.stp fun x => by rw [eGc, z, Rat.zero_mul]), eGc⟩
/-- a place as a row -/
def lin (q : Rat) : List Rat := [-q, 1]
theorem lin_mo (q : Rat) : Mo (lin q) := ⟨by simp [lin], rfl⟩
theorem ev_lin (q x : Rat) : ev (lin q) x = x - q := by
  show -q + x * (1 + x * 0) = x - q
  grind
theorem lin_cop {a b : Rat} (h : a ≠ b) : Cop (lin a) (lin b) := by
  have n0 : b - a ≠ 0 := fun z => h (by grind)
  refine ⟨[1 / (b - a)], [-(1 / (b - a))], fun x => ?_⟩
  rw [ev_lin, ev_lin]
  show (1 / (b - a) + x * 0) * (x - a) + (-(1 / (b - a)) + x * 0) * (x - b) = 1
  have := Rat.div_mul_cancel (a := 1) n0
  grind
theorem slp_lin (a : Rat) (x : Rat) : ev (slp (lin a)) x = 1 := by
  rw [show slp (lin a) = [1 * ((0 + 1 : Nat) : Rat)] from rfl]
  show 1 * ((1 : Nat) : Rat) + x * 0 = 1
  rw [show ((1 : Nat) : Rat) = 1 from rfl]
  grind
def tl (l : List (Rat × Nat)) : List (List Rat × Nat) := l.map fun q => (lin q.1, q.2)
theorem tl_mos (l : List (Rat × Nat)) : Mos (tl l) := fun q hq => by
  obtain ⟨p, hp, rfl⟩ := List.mem_map.mp hq
  exact lin_mo p.1
theorem tl_fam : ∀ {l : List (Rat × Nat)}, (l.map Prod.fst).Nodup → Fam (tl l)
  | [], _ => True.intro
  | (a, m) :: r, hn => by
    rw [List.map_cons, List.nodup_cons] at hn
    obtain ⟨h1, h2⟩ := hn
    refine ⟨⟨[], [1], fun x => ?_⟩, fun q hq => ?_, tl_fam h2⟩
    · rw [slp_lin]
      show 0 * _ + (1 + x * 0) * 1 = (1 : Rat)
      grind
    · obtain ⟨p, hp, rfl⟩ := List.mem_map.mp hq
      exact lin_cop fun e => h1 (by rw [show a = p.1 from e]; exact List.mem_map.mpr ⟨p, hp, rfl⟩)
def wt (q : Rat) : Nat := q.num.natAbs + q.den
theorem num_of (q : Rat) : q * (q.den : Rat) = (q.num : Rat) := by
  have z : (q.den : Rat) ≠ 0 := by have := q.den_pos; exact_mod_cast (show q.den ≠ 0 by omega)
  have h := Rat.div_mul_cancel (a := (q.num : Rat)) z
  have e := Rat.num_divInt_den q
  rw [Rat.divInt_eq_div] at e
  rw [show ((q.den : Int) : Rat) = (q.den : Rat) from rfl] at e
  rw [e] at h
  exact h
theorem cf_lin (q : Rat) (P : List Rat) (i : Nat) : cf (pmul (lin q) P) i = -q * cf P i + if i = 0 then 0 else cf P (i - 1) := by
  have h : ∀ x, ev (pmul (lin q) P) x = ev (padd (pscale P (-q)) (0 :: P)) x := fun x => by
    rw [ev_pmul, ev_padd, ev_pscale, ev_lin]
    show _ = _ + (0 + x * ev P x)
    grind
  rw [cf_of h i, cf_padd, cf_psc, cf_cons]
  grind
theorem lin_fr {P : List Rat} {M N : Nat} (h : ∀ i, Fr M N (cf P i)) (q : Rat) (i : Nat) : Fr (q.den * M) (wt q * N) (cf (pmul (lin q) P) i) := by
  rw [cf_lin]
  have key : ∃ z : Int, (if i = 0 then 0 else cf P (i - 1)) * (M : Rat) = (z : Rat) ∧ z.natAbs ≤ N := by
    split
    · exact ⟨0, by rw [Rat.zero_mul]; rfl, Nat.zero_le _⟩
    · exact h (i - 1)
  generalize (if i = 0 then 0 else cf P (i - 1)) = y at key ⊢
  obtain ⟨z2, e2, b2⟩ := key
  obtain ⟨z1, e1, b1⟩ := h i
  refine ⟨-q.num * z1 + (q.den : Int) * z2, ?_, ?_⟩
  · rw [Rat.natCast_mul, Rat.intCast_add, Rat.intCast_mul, Rat.intCast_mul, Rat.intCast_neg, ← num_of q, ← e1, ← e2]
    rw [show ((q.den : Int) : Rat) = (q.den : Rat) from rfl]
    grind
  · refine Nat.le_trans (Int.natAbs_add_le _ _) ?_
    rw [Int.natAbs_mul, Int.natAbs_mul, Int.natAbs_neg, Int.natAbs_natCast]
    unfold wt
    rw [Nat.add_mul]
    exact Nat.add_le_add (Nat.mul_le_mul_left _ b1) (Nat.mul_le_mul_left _ b2)
def Dn : List (Rat × Nat) → Nat
  | [] => 1
  | (q, _) :: r => q.den * Dn r
def Wn : List (Rat × Nat) → Nat
  | [] => 1
  | (q, _) :: r => wt q * Wn r
theorem Dn_pos : ∀ l, 0 < Dn l
  | [] => by decide
  | (q, _) :: r => Nat.mul_pos q.den_pos (Dn_pos r)
theorem den_wt (q : Rat) : q.den ≤ wt q := Nat.le_add_left _ _
theorem Fr.up {M N : Nat} {x : Rat} (h : Fr M N x) (q : Rat) : Fr (q.den * M) (wt q * N) x := (h.mulN q.den).le (Nat.mul_le_mul_right _ (den_wt q))
theorem sz_R (k : Nat) : ∀ (l : List (Rat × Nat)) (i : Nat), Fr (Dn l) (Wn l) (cf (prR (tl l) k) i)
  | [], i => fr_unit i
  | (q, m) :: r, i => by
    have ih := sz_R k r
    show Fr (q.den * Dn r) (wt q * Wn r) (cf (if k < m then pmul (lin q) (prR (tl r) k) else prR (tl r) k) i)
    split
    · exact lin_fr ih q i
    · exact (ih i).up q
theorem sz_S (k : Nat) : ∀ (l : List (Rat × Nat)), (∀ q ∈ l, q.2 ≤ 4) → ∀ i, Fr (Dn l) (4 * l.length * Wn l) (cf (prS (tl l) k) i)
  | [], _, i => Fr.zero _ _
  | (q, m) :: r, h, i => by
    have ih := sz_S k r fun q hq => h q (List.mem_cons_of_mem _ hq)
    have h4 : m ≤ 4 := h (q, m) (List.mem_cons_self ..)
    show Fr (q.den * Dn r) (4 * (r.length + 1) * (wt q * Wn r)) (cf (if k < m then padd (pscale (pmul (slp (lin q)) (prR (tl r) k)) ((m - k : Nat) : Rat)) (pmul (lin q) (prS (tl r) k)) else prS (tl r) k) i)
    have e : 4 * (r.length + 1) * (wt q * Wn r) = 4 * (wt q * Wn r) + wt q * (4 * r.length * Wn r) := by
      have e0 : 4 * (r.length + 1) = 4 + 4 * r.length := by omega
      rw [e0, Nat.add_mul]
      congr 1
      rw [Nat.mul_left_comm]
    rw [e]
    split
    · rw [cf_padd]
      refine Fr.add ?_ (lin_fr ih q i)
      have e1 : cf (pscale (pmul (slp (lin q)) (prR (tl r) k)) ((m - k : Nat) : Rat)) i = cf (prR (tl r) k) i * ((m - k : Nat) : Rat) := by
        rw [cf_psc]
        congr 1
        exact cf_of (fun x => by rw [ev_pmul, slp_lin, Rat.one_mul]) i
      rw [e1]
      obtain ⟨z, ez, bz⟩ := sz_R k r i
      refine ⟨z * ((m - k : Nat) : Int) * (q.den : Int), ?_, ?_⟩
      · rw [Rat.natCast_mul, Rat.intCast_mul, Rat.intCast_mul, ← ez, show (((m - k : Nat) : Int) : Rat) = ((m - k : Nat) : Rat) from rfl, show ((q.den : Int) : Rat) = (q.den : Rat) from rfl]
        grind
      · rw [Int.natAbs_mul, Int.natAbs_mul, Int.natAbs_natCast, Int.natAbs_natCast]
        have x1 := Nat.mul_le_mul (Nat.mul_le_mul bz (show m - k ≤ 4 by omega)) (den_wt q)
        refine Nat.le_trans x1 (Nat.le_of_eq ?_)
        rw [Nat.mul_comm (Wn r) 4, Nat.mul_assoc, Nat.mul_comm (Wn r)]
    · exact ((ih i).up q).le (Nat.le_add_left _ _)
def De : List (Rat × Nat) → Nat → Nat
  | [], _ => 1
  | (q, m) :: r, k => q.den ^ (m - k) * De r k
def We : List (Rat × Nat) → Nat → Nat
  | [], _ => 1
  | (q, m) :: r, k => wt q ^ (m - k) * We r k
theorem De_pos (k : Nat) : ∀ l, 0 < De l k
  | [] => Nat.one_pos
  | (q, m) :: r => Nat.mul_pos (Nat.pow_pos q.den_pos) (De_pos k r)
theorem pw_fr {P : List Rat} {M N : Nat} (h : ∀ i, Fr M N (cf P i)) (q : Rat) : ∀ (n i : Nat), Fr (q.den ^ n * M) (wt q ^ n * N) (cf (pmul (pw (lin q) n) P) i)
  | 0, i => by
    rw [Nat.pow_zero, Nat.pow_zero, Nat.one_mul, Nat.one_mul, cf_of (B := P) (fun x => by
      rw [ev_pmul]
      show (1 + x * 0) * ev P x = ev P x
      grind) i]
    exact h i
  | n + 1, i => by
    have ih := pw_fr h q n
    rw [cf_of (B := pmul (lin q) (pmul (pw (lin q) n) P)) (fun x => by rw [ev_pmul, ev_pw, ev_pmul, ev_pmul, Rat.mul_assoc]) i, Nat.pow_succ, Nat.pow_succ, Nat.mul_comm (q.den ^ n), Nat.mul_comm (wt q ^ n), Nat.mul_assoc, Nat.mul_assoc]
    exact lin_fr ih q i
theorem sz_E (k : Nat) : ∀ (l : List (Rat × Nat)) (i : Nat), Fr (De l k) (We l k) (cf (prE (tl l) k) i)
  | [], i => fr_unit i
  | (q, m) :: r, i => pw_fr (sz_E k r) q (m - k) i
def sumM : List (Rat × Nat) → Nat
  | [] => 0
  | (_, m) :: r => m + sumM r
theorem We_le {B : Nat} (hB : 1 ≤ B) (k : Nat) : ∀ l : List (Rat × Nat), (∀ q ∈ l, wt q.1 ≤ B) → We l k ≤ B ^ (sumM l)
  | [], _ => Nat.le_refl _
  | (q, m) :: r, h => by
    have ih := We_le hB k r fun q hq => h q (List.mem_cons_of_mem _ hq)
    show wt q ^ (m - k) * We r k ≤ B ^ (m + sumM r)
    rw [Nat.pow_add]
    exact Nat.mul_le_mul (Nat.le_trans (Nat.pow_le_pow_left (h (q, m) (List.mem_cons_self ..)) _) (Nat.pow_le_pow_right hB (by omega))) ih
theorem We_one {B : Nat} (hB : 1 ≤ B) : ∀ l : List (Rat × Nat), (∀ q ∈ l, wt q.1 ≤ B ∧ 1 ≤ q.2) → We l 1 * B ^ l.length ≤ B ^ (sumM l)
  | [], _ => Nat.le_refl _
  | (q, m) :: r, h => by
    have ih := We_one hB r fun q hq => h q (List.mem_cons_of_mem _ hq)
    obtain ⟨h1, h2⟩ := h (q, m) (List.mem_cons_self ..)
    have h2 : 1 ≤ m := h2
    show wt q ^ (m - 1) * We r 1 * B ^ (r.length + 1) ≤ B ^ (m + sumM r)
    have e : wt q ^ (m - 1) * We r 1 * B ^ (r.length + 1) = wt q ^ (m - 1) * B * (We r 1 * B ^ r.length) := by
      rw [Nat.pow_succ, Nat.mul_comm (B ^ r.length) B, ← Nat.mul_assoc, Nat.mul_right_comm (wt q ^ (m - 1)) (We r 1) B, Nat.mul_assoc]
    rw [e, Nat.pow_add]
    refine Nat.mul_le_mul ?_ ih
    have : B ^ m = B ^ (m - 1) * B := by rw [← Nat.pow_succ]; congr 1; omega
    rw [this]
    exact Nat.mul_le_mul_right _ (Nat.pow_le_pow_left h1 _)
end Vf
set_option maxRecDepth 100000
namespace Vf
def lm (a b : Int) : Int → List Int → List Int
  | c, [] => [c]
  | c, p :: r => (c - a * p) :: lm a b (b * p) r
theorem hz_lm (a b x : Int) : ∀ (P : List Int) (c : Int), hz x (lm a b c P) = c + (b * x - a) * hz x P
  | [], c => by
    show c + x * 0 = c + (b * x - a) * 0
    grind
  | p :: r, c => by
    have ih := hz_lm a b x r (b * p)
    show (c - a * p) + x * hz x (lm a b (b * p) r) = c + (b * x - a) * (p + x * hz x r)
    rw [ih]
    grind
theorem hd_lm (a b x : Int) : ∀ (P : List Int) (c : Int), hd x (lm a b c P) = b * hz x P + (b * x - a) * hd x P
  | [], c => by
    show 0 + x * 0 = b * 0 + (b * x - a) * 0
    grind
  | p :: r, c => by
    have ih := hd_lm a b x r (b * p)
    show hz x (lm a b (b * p) r) + x * hd x (lm a b (b * p) r) = b * (p + x * hz x r) + (b * x - a) * (hz x r + x * hd x r)
    rw [ih, hz_lm]
    grind
theorem lm_len (a b : Int) : ∀ (P : List Int) (c : Int), (lm a b c P).length = P.length + 1
  | [], _ => rfl
  | p :: r, c => congrArg (· + 1) (lm_len a b r (b * p))
theorem lm_lead (a b : Int) : ∀ (P : List Int) (c : Int), P ≠ [] → ci (lm a b c P) P.length = b * ci P (P.length - 1)
  | [], c, h => absurd rfl h
  | [p], c, _ => rfl
  | p :: s :: r, c, _ => by
    have ih := lm_lead a b (s :: r) (b * p) (by simp)
    exact ih
theorem ev_lm (a b : Int) (x : Rat) : ∀ (P : List Int) (c : Int), ev (qi (lm a b c P)) x = (c : Rat) + ((b : Rat) * x - (a : Rat)) * ev (qi P) x
  | [], c => by
    show (c : Rat) + x * 0 = (c : Rat) + _ * 0
    grind
  | p :: r, c => by
    have ih := ev_lm a b x r (b * p)
    show ((c - a * p : Int) : Rat) + x * ev (qi (lm a b (b * p) r)) x = (c : Rat) + ((b : Rat) * x - (a : Rat)) * ((p : Rat) + x * ev (qi r) x)
    rw [ih, Rat.intCast_sub, Rat.intCast_mul, Rat.intCast_mul]
    grind
/-- the row over whole numbers, each place once -/
def Uz : List (Rat × Nat) → List Int
  | [] => [1]
  | (q, _) :: r => lm q.num q.den 0 (Uz r)
theorem Uz_len : ∀ l : List (Rat × Nat), (Uz l).length = l.length + 1
  | [] => rfl
  | (q, m) :: r => by
    show (lm q.num q.den 0 (Uz r)).length = r.length + 1 + 1
    rw [lm_len, Uz_len r]
theorem Uz_lead : ∀ l : List (Rat × Nat), ci (Uz l) l.length = ((Dn l : Nat) : Int)
  | [] => rfl
  | (q, m) :: r => by
    have ih := Uz_lead r
    have n : Uz r ≠ [] := fun z => by have := Uz_len r; rw [z] at this; simp at this
    show ci (lm q.num q.den 0 (Uz r)) (r.length + 1) = ((q.den * Dn r : Nat) : Int)
    have h := lm_lead q.num q.den (Uz r) 0 n
    rw [Uz_len] at h
    rw [h, Nat.add_sub_cancel, ih, Int.natCast_mul]
theorem ev_Uz (x : Rat) : ∀ l : List (Rat × Nat), (∀ q ∈ l, 1 ≤ q.2) → ev (qi (Uz l)) x = ((Dn l : Nat) : Rat) * ev (prR (tl l) 0) x
  | [], _ => by
    show ((1 : Int) : Rat) + x * 0 = ((1 : Nat) : Rat) * (1 + x * 0)
    rw [show ((1 : Int) : Rat) = 1 from rfl, show ((1 : Nat) : Rat) = 1 from rfl]
    grind
  | (q, m) :: r, h => by
    have ih := ev_Uz x r fun q hq => h q (List.mem_cons_of_mem _ hq)
    have m1 : 1 ≤ m := h (q, m) (List.mem_cons_self ..)
    show ev (qi (lm q.num q.den 0 (Uz r))) x = ((q.den * Dn r : Nat) : Rat) * ev (if 0 < m then pmul (lin q) (prR (tl r) 0) else prR (tl r) 0) x
    rw [if_pos (by omega), ev_lm, ih, ev_pmul, ev_lin, Rat.natCast_mul, ← num_of q, show ((0 : Int) : Rat) = 0 from rfl, show ((q.den : Int) : Rat) = (q.den : Rat) from rfl]
    grind
theorem pr_mul {p : Nat} (hp : Pr p) {a b : Int} (h : (p : Int) ∣ a * b) : (p : Int) ∣ a ∨ (p : Int) ∣ b := by
  by_cases ha : (p : Int) ∣ a
  · exact .inl ha
  · obtain ⟨w, z, hw⟩ := inv_ex hp ha
    refine .inr ?_
    have h1 := dvdl h w
    have h2 : (p : Int) ∣ (a * w - 1) * b := dvdl ⟨z, by omega⟩ b
    have := Int.dvd_sub h1 h2
    rwa [show a * b * w - (a * w - 1) * b = b by grind] at this
/-- no two zeros fall together -/
def Apart (p : Nat) (l : List (Rat × Nat)) : Prop := (∀ q ∈ l, ¬ (p : Int) ∣ (q.1.den : Int)) ∧ ∀ a ∈ l, ∀ b ∈ l, a.1 ≠ b.1 → ¬ (p : Int) ∣ a.1.num * b.1.den - b.1.num * a.1.den
theorem Uz_zero {p : Nat} (hp : Pr p) (r : Int) : ∀ l : List (Rat × Nat), (p : Int) ∣ hz r (Uz l) → ∃ q ∈ l, (p : Int) ∣ (q.1.den : Int) * r - q.1.num
  | [], h => by
    have h : (p : Int) ∣ 1 + r * 0 := h
    rw [Int.mul_zero, Int.add_zero] at h
    have := Int.le_of_dvd (by decide) h
    have := hp.1
    omega
  | (q, m) :: l, h => by
    have e : hz r (Uz ((q, m) :: l)) = 0 + ((q.den : Int) * r - q.num) * hz r (Uz l) := hz_lm _ _ _ _ _
    rw [e, Int.zero_add] at h
    rcases pr_mul hp h with z | z
    · exact ⟨(q, m), List.mem_cons_self .., z⟩
    · obtain ⟨q', h1, h2⟩ := Uz_zero hp r l z
      exact ⟨q', List.mem_cons_of_mem _ h1, h2⟩
theorem Uz_simple {p : Nat} (hp : Pr p) (r : Int) : ∀ l : List (Rat × Nat), (l.map Prod.fst).Nodup → Apart p l → (p : Int) ∣ hz r (Uz l) → ¬ (p : Int) ∣ hd r (Uz l)
  | [], _, _, h => fun _ => by
    obtain ⟨q, hq, _⟩ := Uz_zero hp r [] h
    cases hq
  | (q, m) :: l, hn, ha, h => fun h' => by
    rw [List.map_cons, List.nodup_cons] at hn
    have ha' : Apart p l := ⟨fun q hq => ha.1 q (List.mem_cons_of_mem _ hq), fun a h1 b h2 => ha.2 a (List.mem_cons_of_mem _ h1) b (List.mem_cons_of_mem _ h2)⟩
    have e : hz r (Uz ((q, m) :: l)) = 0 + ((q.den : Int) * r - q.num) * hz r (Uz l) := hz_lm _ _ _ _ _
    have e' : hd r (Uz ((q, m) :: l)) = (q.den : Int) * hz r (Uz l) + ((q.den : Int) * r - q.num) * hd r (Uz l) := hd_lm _ _ _ _ _
    rw [e, Int.zero_add] at h
    rw [e'] at h'
    have hb : ¬ (p : Int) ∣ (q.den : Int) := ha.1 (q, m) (List.mem_cons_self ..)
    by_cases hL : (p : Int) ∣ (q.den : Int) * r - q.num
    · have h1 := Int.dvd_sub h' (dvdl hL (hd r (Uz l)))
      rw [Int.add_sub_cancel] at h1
      rcases pr_mul hp h1 with z | z
      · exact hb z
      · obtain ⟨b, hb1, hb2⟩ := Uz_zero hp r l z
        have ne : q ≠ b.1 := fun y => hn.1 (by rw [y]; exact List.mem_map.mpr ⟨b, hb1, rfl⟩)
        refine ha.2 (q, m) (List.mem_cons_self ..) b (List.mem_cons_of_mem _ hb1) ne ?_
        have x1 := dvdr hb2 (q.den : Int)
        have x2 := dvdr hL (b.1.den : Int)
        have := Int.dvd_sub x1 x2
        rwa [show (q.den : Int) * ((b.1.den : Int) * r - b.1.num) - (b.1.den : Int) * ((q.den : Int) * r - q.num) = q.num * b.1.den - b.1.num * q.den by grind] at this
    · have hP : (p : Int) ∣ hz r (Uz l) := by
        rcases pr_mul hp h with z | z
        · exact absurd z hL
        · exact z
      have h1 := Int.dvd_sub h' (dvdr hP (q.den : Int))
      rw [Int.add_comm, Int.add_sub_cancel] at h1
      rcases pr_mul hp h1 with z | z
      · exact hL z
      · exact Uz_simple hp r l hn.2 ha' hP z
theorem ev_int (r : Int) : ∀ l : List Int, ev (qi l) (r : Rat) = ((hz r l : Int) : Rat)
  | [] => rfl
  | a :: l => by
    show (a : Rat) + (r : Rat) * ev (qi l) (r : Rat) = ((a + r * hz r l : Int) : Rat)
    rw [ev_int r l, Rat.intCast_add, Rat.intCast_mul]
theorem hd_scale {U T : List Int} {e : Int} (h : ∀ r, hz r U = e * hz r T) (r : Int) : hd r U = e * hd r T := by
  obtain ⟨D, hD⟩ : ∃ D, hd r U - e * hd r T = D := ⟨_, rfl⟩
  have key : ∀ t : Int, t ≠ 0 → t ∣ D := fun t t0 => by
    obtain ⟨g, eg⟩ := hz_taylor r t U
    obtain ⟨g', eg'⟩ := hz_taylor r t T
    have h1 := h (r + t)
    rw [eg, eg', h r] at h1
    have h2 : t * (D + t * (g - e * g')) = 0 := by rw [← hD]; grind
    rcases Int.mul_eq_zero.mp h2 with z | z
    · exact absurd z t0
    · exact ⟨-(g - e * g'), by grind⟩
  have : D = 0 := by
    obtain ⟨k, hk⟩ := key (D.natAbs + 1) (by omega)
    by_cases k0 : k = 0
    · rw [hk, k0, Int.mul_zero]
    · have h1 := congrArg Int.natAbs hk
      rw [Int.natAbs_mul] at h1
      have h2 := Nat.le_mul_of_pos_right ((D.natAbs : Int) + 1).natAbs (show 0 < k.natAbs by omega)
      omega
  omega
/-- the primitive row with these zeros is fitted -/
theorem fit_lin {l : List (Rat × Nat)} (hn : (l.map Prod.fst).Nodup) (h1 : ∀ q ∈ l, 1 ≤ q.2) {T : List Int} (pm : Pm T) {k : Rat} (k0 : k ≠ 0) (eT : ∀ x, ev (qi T) x = k * ev (prR (tl l) 0) x) (lT : T.length = l.length + 1) {p : Nat} (hp : Pr p) (ha : Apart p l) : ZFit T (ci T (T.length - 1)) p := by
  have kk : k * (1 / k) = 1 := by rw [Rat.div_def, Rat.one_mul]; exact Rat.mul_inv_cancel k k0
  obtain ⟨d, hd'⟩ := gauss (X := Uz l) (S := [((Dn l : Nat) : Rat) * (1 / k)]) pm fun x => by
    rw [ev_Uz x l h1, eT]
    show _ = k * ev (prR (tl l) 0) x * (((Dn l : Nat) : Rat) * (1 / k) + x * 0)
    grind
  obtain ⟨e, he⟩ : ∃ e : Int, (e : Rat) = ((Dn l : Nat) : Rat) * (1 / k) := ⟨ci d 0, by
    have := cf_of hd' 0
    rw [cf_qi] at this
    exact this⟩
  have hU : ∀ x, ev (qi (Uz l)) x = (e : Rat) * ev (qi T) x := fun x => by
    rw [ev_Uz x l h1, eT, he]
    grind
  have hz' : ∀ r, hz r (Uz l) = e * hz r T := fun r => by
    have := hU (r : Rat)
    rw [ev_int, ev_int, ← Rat.intCast_mul] at this
    exact_mod_cast this
  have hl : ci (Uz l) l.length = e * ci T l.length := by
    have := cf_of (A := qi (Uz l)) (B := pscale (qi T) (e : Rat)) (fun x => by rw [ev_pscale, hU]; grind) l.length
    rw [cf_qi, cf_psc, cf_qi, ← Rat.intCast_mul] at this
    have : ci (Uz l) l.length = ci T l.length * e := by exact_mod_cast this
    rw [this, Int.mul_comm]
  have hD : ∀ l : List (Rat × Nat), (∀ q ∈ l, ¬ (p : Int) ∣ (q.1.den : Int)) → ¬ (p : Int) ∣ ((Dn l : Nat) : Int) := fun l => by
    induction l with
    | nil =>
      intro _ z
      have := Int.le_of_dvd (by decide) z
      have := hp.1
      have : (((Dn [] : Nat)) : Int) = 1 := rfl
      omega
    | cons q r ih =>
      intro h z
      have z : (p : Int) ∣ ((q.1.den * Dn r : Nat) : Int) := z
      rw [Int.natCast_mul] at z
      rcases pr_mul hp z with y | y
      · exact h q (List.mem_cons_self ..) y
      · exact ih (fun q hq => h q (List.mem_cons_of_mem _ hq)) y
  refine ⟨hp, fun z => ?_, fun r h2 h3 => ?_⟩
  · rw [lT, Nat.add_sub_cancel] at z
    rw [Uz_lead] at hl
    exact hD l ha.1 (by rw [hl]; exact dvdr z e)
  · refine Uz_simple hp r l hn ha (by rw [hz']; exact dvdr h2 e) ?_
    rw [hd_scale hz']
    exact dvdr h3 e
theorem pr211 : Pr 211 := pr_of (by decide) (by decide) fun d h1 h2 h3 => by
  have hd : d < 15 := by
    rcases Nat.lt_or_ge d 15 with z | z
    · exact z
    · have := Nat.mul_le_mul z z
      omega
  have key : ∀ d, d < 15 → 3 ≤ d → d % 2 = 1 → ¬ d ∣ 211 := by decide
  exact key d hd h1 h2
/-- the places that are drawn -/
def Plc : List Rat := [-1, -2, -3, -4, -5, -6, -7, -8, -9, 1 / 2, 3 / 2, 5 / 2, 7 / 2, 9 / 2, 11 / 2, 13 / 2, 15 / 2, 17 / 2, -7 / 3, 0, 1, 2, 5, 17, 1000, 1000000000, 3, 44]
theorem plc_apart : (∀ a ∈ Plc, ¬ (211 : Int) ∣ (a.den : Int)) ∧ (∀ a ∈ Plc, ∀ b ∈ Plc, a ≠ b → ¬ (211 : Int) ∣ a.num * b.den - b.num * a.den) := by decide +kernel
theorem plc_wt : ∀ a ∈ Plc, wt a ≤ 22222223 * 45 ∧ (a ≠ 1000000000 → wt a ≤ 23 * 45 ∧ (a ≠ 1000 → wt a ≤ 45)) ∧ a.den ≤ 3 := by decide +kernel
/-- distinct places: their sizes together -/
theorem Wn_plc : ∀ l : List (Rat × Nat), (l.map Prod.fst).Nodup → (∀ q ∈ l, q.1 ∈ Plc) → Wn l ≤ (if (1000000000 : Rat) ∈ l.map Prod.fst then 22222223 else 1) * (if (1000 : Rat) ∈ l.map Prod.fst then 23 else 1) * 45 ^ l.length
  | [], _, _ => by decide
  | (a, m) :: r, hn, hp => by
    rw [List.map_cons, List.nodup_cons] at hn
    have ih := Wn_plc r hn.2 fun q hq => hp q (List.mem_cons_of_mem _ hq)
    obtain ⟨w1, w2, _⟩ := plc_wt a (hp (a, m) (List.mem_cons_self ..))
    show wt a * Wn r ≤ _
    rw [List.map_cons, List.length_cons, Nat.pow_succ]
    generalize 45 ^ r.length = P at ih ⊢
    by_cases e1 : a = 1000000000
    · subst e1
      rw [if_neg hn.1] at ih
      rw [if_pos (List.mem_cons_self ..)]
      have h1000 : ((1000 : Rat) ∈ (1000000000 : Rat) :: List.map Prod.fst r) = ((1000 : Rat) ∈ List.map Prod.fst r) := by
        rw [List.mem_cons]
        exact propext ⟨fun h => h.elim (fun z => absurd z (by decide +kernel)) id, .inr⟩
      simp only [h1000]
      rw [Nat.one_mul] at ih
      have h2 := Nat.mul_le_mul w1 ih
      refine Nat.le_trans h2 ?_
      generalize (if (1000 : Rat) ∈ List.map Prod.fst r then 23 else 1) = Z
      refine Nat.le_of_eq ?_
      rw [Nat.mul_comm P 45, ← Nat.mul_assoc, ← Nat.mul_assoc, Nat.mul_right_comm 22222223 Z 45]
    · have hb : ((1000000000 : Rat) ∈ a :: List.map Prod.fst r) = ((1000000000 : Rat) ∈ List.map Prod.fst r) := by
        rw [List.mem_cons]
        exact propext ⟨fun h => h.elim (fun z => absurd z.symm e1) id, .inr⟩
      simp only [hb]
      by_cases e2 : a = 1000
      · subst e2
        rw [if_neg hn.1, Nat.mul_one] at ih
        rw [if_pos (List.mem_cons_self ..)]
        have h2 := Nat.mul_le_mul (w2 e1).1 ih
        refine Nat.le_trans h2 ?_
        generalize (if (1000000000 : Rat) ∈ List.map Prod.fst r then 22222223 else 1) = Z
        refine Nat.le_of_eq ?_
        rw [Nat.mul_comm P 45, ← Nat.mul_assoc, ← Nat.mul_assoc, Nat.mul_comm Z 23, Nat.mul_right_comm 23 Z 45]
      · have hc : ((1000 : Rat) ∈ a :: List.map Prod.fst r) = ((1000 : Rat) ∈ List.map Prod.fst r) := by
          rw [List.mem_cons]
          exact propext ⟨fun h => h.elim (fun z => absurd z.symm e2) id, .inr⟩
        simp only [hc]
        have h2 := Nat.mul_le_mul ((w2 e1).2 e2) ih
        refine Nat.le_trans h2 ?_
        generalize (if (1000000000 : Rat) ∈ List.map Prod.fst r then 22222223 else 1) * (if (1000 : Rat) ∈ List.map Prod.fst r then 23 else 1) = Z
        rw [← Nat.mul_assoc, Nat.mul_comm 45 Z, Nat.mul_assoc, Nat.mul_comm 45 P]
        exact Nat.le_refl _
end Vf
set_option maxRecDepth 100000
set_option maxHeartbeats 8000000
namespace Vf
open PySem PySem.Spec PyProof.Rows L2
theorem mon_mo {A : List Rat} (h : Mo A) : mon A = A := by
  unfold mon
  rw [h.t, show (1 : Rat) / 1 = 1 by decide +kernel]
  refine stp_ext (stripQ_stp _) h.s fun i => ?_
  rw [cf_stripQ, cf_psc, Rat.mul_one]
theorem div_uniq {A B Q1 R1 Q2 R2 : List Rat} (hB : Stp B) (nB : B ≠ []) (q1 : Stp Q1) (q2 : Stp Q2) (r1 : Stp R1) (r2 : Stp R2) (l1 : R1.length < B.length) (l2 : R2.length < B.length) (e1 : ∀ x, ev A x = ev Q1 x * ev B x + ev R1 x) (e2 : ∀ x, ev A x = ev Q2 x * ev B x + ev R2 x) : Q1 = Q2 ∧ R1 = R2 := by
  have hz : ∀ x, ev (padd Q1 (pscale Q2 (-1))) x = 0 := mul_small (A := B) (Z := padd R2 (pscale R1 (-1))) hB nB (fun x => by
    rw [ev_padd, ev_pscale, ev_padd, ev_pscale]
    have h1 := e1 x
    have h2 := e2 x
    grind) (by rw [pad_len, psc_len]; omega)
  have hq : Q1 = Q2 := stp_ext q1 q2 (cf_of fun x => by
    have := hz x
    rw [ev_padd, ev_pscale] at this
    grind)
  refine ⟨hq, stp_ext r1 r2 (cf_of fun x => ?_)⟩
  have h1 := e1 x
  have h2 := e2 x
  rw [hq] at h1
  grind
theorem fb_nil : Fb [] 1 1 := ⟨fun r x e => by simp at e, Nat.zero_le _, fun i => Fr.zero _ _, by decide, Nat.one_le_two_pow, Nat.one_le_two_pow⟩
theorem dgs_tl (k : Nat) : ∀ l : List (Rat × Nat), dgs (tl l) k ≤ sumM l ∧ (k = 0 → dgs (tl l) k = sumM l)
  | [] => ⟨Nat.le_refl _, fun _ => rfl⟩
  | (q, m) :: r => by
    obtain ⟨h1, h2⟩ := dgs_tl k r
    refine ⟨?_, fun h => ?_⟩
    · show (m - k) * ((lin q).length - 1) + dgs (tl r) k ≤ m + sumM r
      rw [show (lin q).length - 1 = 1 from rfl, Nat.mul_one]
      omega
    · show (m - k) * ((lin q).length - 1) + dgs (tl r) k = m + sumM r
      rw [show (lin q).length - 1 = 1 from rfl, Nat.mul_one, h2 h]
      omega
theorem len_le_sum : ∀ {l : List (Rat × Nat)}, (∀ q ∈ l, 1 ≤ q.2) → l.length ≤ sumM l
  | [], _ => Nat.le_refl _
  | (q, m) :: r, h => by
    have ih := len_le_sum fun q hq => h q (List.mem_cons_of_mem _ hq)
    have : 1 ≤ m := h (q, m) (List.mem_cons_self ..)
    show r.length + 1 ≤ m + sumM r
    omega
theorem le_sum : ∀ {l : List (Rat × Nat)} {q : Rat × Nat}, q ∈ l → q.2 ≤ sumM l
  | (a, m) :: r, q, h => by
    show q.2 ≤ m + sumM r
    rcases List.mem_cons.mp h with z | z
    · rw [z]
      exact Nat.le_add_right _ _
    · have := le_sum z
      omega
theorem De_le {B : Nat} (hB : 1 ≤ B) (k : Nat) : ∀ l : List (Rat × Nat), (∀ q ∈ l, q.1.den ≤ B) → De l k ≤ B ^ (sumM l)
  | [], _ => Nat.le_refl _
  | (q, m) :: r, h => by
    have ih := De_le hB k r fun q hq => h q (List.mem_cons_of_mem _ hq)
    show q.den ^ (m - k) * De r k ≤ B ^ (m + sumM r)
    rw [Nat.pow_add]
    exact Nat.mul_le_mul (Nat.le_trans (Nat.pow_le_pow_left (h (q, m) (List.mem_cons_self ..)) _) (Nat.pow_le_pow_right hB (by omega))) ih
theorem Dn_le {B : Nat} : ∀ l : List (Rat × Nat), (∀ q ∈ l, q.1.den ≤ B) → Dn l ≤ B ^ l.length
  | [], _ => Nat.le_refl _
  | (q, m) :: r, h => by
    have ih := Dn_le r fun q hq => h q (List.mem_cons_of_mem _ hq)
    show q.den * Dn r ≤ B ^ (r.length + 1)
    rw [Nat.pow_succ, Nat.mul_comm]
    exact Nat.mul_le_mul ih (h (q, m) (List.mem_cons_self ..))
theorem lenR : ∀ l : List (Rat × Nat), ∀ k, (prR (tl l) k).length ≤ l.length + 1
  | [], _ => Nat.le_refl _
  | (q, m) :: r, k => by
    have ih := lenR r k
    show (if k < m then pmul (lin q) (prR (tl r) k) else prR (tl r) k).length ≤ r.length + 1 + 1
    split
    · have := pmul_le (lin q) (prR (tl r) k)
      rw [show (lin q).length = 2 from rfl] at this
      omega
    · omega
theorem lenR0 : ∀ {l : List (Rat × Nat)}, (∀ q ∈ l, 1 ≤ q.2) → (prR (tl l) 0).length = l.length + 1
  | [], _ => rfl
  | (q, m) :: r, h => by
    have ih := lenR0 (l := r) fun q hq => h q (List.mem_cons_of_mem _ hq)
    have m1 : 1 ≤ m := h (q, m) (List.mem_cons_self ..)
    show (if 0 < m then pmul (lin q) (prR (tl r) 0) else prR (tl r) 0).length = r.length + 1 + 1
    rw [if_pos (by omega), pmul_len, ih, show (lin q).length = 2 from rfl]
    omega
theorem lenS : ∀ l : List (Rat × Nat), ∀ k, (prS (tl l) k).length ≤ l.length + 1
  | [], _ => Nat.zero_le _
  | (q, m) :: r, k => by
    have ih := lenS r k
    have ir := lenR r k
    show (if k < m then padd (pscale (pmul (slp (lin q)) (prR (tl r) k)) ((m - k : Nat) : Rat)) (pmul (lin q) (prS (tl r) k)) else prS (tl r) k).length ≤ r.length + 1 + 1
    split
    · rw [pad_len, psc_len]
      have h1 := pmul_le (slp (lin q)) (prR (tl r) k)
      have h2 := pmul_le (lin q) (prS (tl r) k)
      rw [show (lin q).length = 2 from rfl] at h2
      rw [show (slp (lin q)).length = 1 from rfl] at h1
      omega
    · omega
theorem zero_pw (q x : Rat) : ∀ n : Nat, ev (pw (lin q) (n + 1)) x = 0 ↔ x = q
  | 0 => by
    rw [ev_pw, ev_lin]
    show (x - q) * (1 + x * 0) = 0 ↔ _
    constructor <;> intro h <;> grind
  | n + 1 => by
    rw [ev_pw, Rat.mul_eq_zero, zero_pw q x n, ev_lin]
    constructor
    · rintro (h | h)
      · grind
      · exact h
    · intro h
      exact .inr h
theorem zero_E (x : Rat) : ∀ {l : List (Rat × Nat)}, (∀ q ∈ l, 1 ≤ q.2) → (ev (prE (tl l) 0) x = 0 ↔ x ∈ l.map Prod.fst)
  | [], _ => by
    show 1 + x * 0 = 0 ↔ _
    constructor
    · intro h
      grind
    · intro h
      cases h
  | (q, m) :: r, h => by
    have m1 : 1 ≤ m := h (q, m) (List.mem_cons_self ..)
    obtain ⟨n, rfl⟩ : ∃ n, m = n + 1 := ⟨m - 1, by omega⟩
    show ev (pmul (pw (lin q) (n + 1)) (prE (tl r) 0)) x = 0 ↔ _
    rw [ev_pmul, Rat.mul_eq_zero, zero_pw, zero_E x fun q hq => h q (List.mem_cons_of_mem _ hq), List.map_cons, List.mem_cons]
theorem zero_R (x : Rat) : ∀ {l : List (Rat × Nat)}, (∀ q ∈ l, 1 ≤ q.2) → (ev (prR (tl l) 0) x = 0 ↔ x ∈ l.map Prod.fst)
  | [], _ => by
    show 1 + x * 0 = 0 ↔ _
    constructor
    · intro h
      grind
    · intro h
      cases h
  | (q, m) :: r, h => by
    have m1 : 1 ≤ m := h (q, m) (List.mem_cons_self ..)
    show ev (if 0 < m then pmul (lin q) (prR (tl r) 0) else prR (tl r) 0) x = 0 ↔ _
    rw [if_pos (by omega), ev_pmul, Rat.mul_eq_zero, ev_lin, zero_R x fun q hq => h q (List.mem_cons_of_mem _ hq), List.map_cons, List.mem_cons]
    constructor
    · rintro (z | z)
      · exact .inl (by grind)
      · exact .inr z
    · rintro (z | z)
      · exact .inl (by grind)
      · exact .inr z
theorem inv_mul {c : Rat} (h : c ≠ 0) : c * (1 / c) = 1 := by rw [Rat.div_def, Rat.one_mul]; exact Rat.mul_inv_cancel c h
theorem inv_ne {c : Rat} (h : c ≠ 0) : 1 / c ≠ 0 := fun z => by
  have := inv_mul h
  rw [z, Rat.mul_zero] at this
  exact absurd this (by decide +kernel)
/-- all that least_whole_zero asks of a row with known zeros -/
theorem lw_lin {l : List (Rat × Nat)} (hn : (l.map Prod.fst).Nodup) (hp : ∀ q ∈ l, q.1 ∈ Plc ∧ 1 ≤ q.2) (hs : sumM l ≤ 4) {c : Rat} (c0 : c ≠ 0) (fc : Fr 5 15 c) {A : List Rat} (sA : Stp A) (eA : ∀ x, ev A x = c * ev (prE (tl l) 0) x) : Lw A ∧ (∀ x, ev A x = 0 ↔ x ∈ l.map Prod.fst) ∧ A.length = sumM l + 1 ∧ Fb A (De l 0 * 5) (We l 0 * 15) ∧ We l 0 * 15 ≤ 2 ^ 124 ∧ De l 0 * 5 ≤ 2 ^ 10 := by
  have h1 : ∀ q ∈ l, 1 ≤ q.2 := fun q hq => (hp q hq).2
  have hm := tl_mos l
  obtain ⟨mE, lE⟩ := mo_E 0 hm
  obtain ⟨mE', lE'⟩ := mo_E 1 hm
  have d0 := (dgs_tl 0 l).2 rfl
  have d1 := (dgs_tl 1 l).1
  have ll := len_le_sum h1
  have w30 : ∀ q ∈ l, wt q.1 ≤ 2 ^ 30 := fun q hq => Nat.le_trans (plc_wt q.1 (hp q hq).1).1 (by decide)
  have den3 : ∀ q ∈ l, q.1.den ≤ 3 := fun q hq => (plc_wt q.1 (hp q hq).1).2.2
  have eA1 : A = pscale (prE (tl l) 0) c := stp_ext sA (stp_psc mE.s c0) (cf_of fun x => by rw [eA, ev_pscale]; grind)
  have lA : A.length = sumM l + 1 := by rw [eA1, psc_len, lE, d0]
  have pw30 : (2 ^ 30) ^ (sumM l) ≤ 2 ^ 120 := by
    rw [← Nat.pow_mul]
    exact Nat.pow_le_pow_right (by decide) (by omega)
  have we0 : We l 0 ≤ 2 ^ 120 := Nat.le_trans (We_le (by decide) 0 l w30) pw30
  have de0 : De l 0 ≤ 81 := Nat.le_trans (De_le (by decide) 0 l den3) (Nat.pow_le_pow_right (n := 3) (by decide) hs)
  have de1 : De l 1 ≤ 81 := Nat.le_trans (De_le (by decide) 1 l den3) (Nat.pow_le_pow_right (n := 3) (by decide) hs)
  have fA : ∀ i, Fr (De l 0 * 5) (We l 0 * 15) (cf A i) := fun i => by
    rw [eA1, cf_psc]
    exact (sz_E 0 l i).mul fc
  have nb0 : We l 0 * 15 ≤ 2 ^ 124 := Nat.le_trans (Nat.mul_le_mul we0 (show 15 ≤ 2 ^ 4 by decide)) (Nat.le_of_eq (Nat.pow_add 2 120 4).symm)
  have db0 : De l 0 * 5 ≤ 2 ^ 10 := Nat.le_trans (Nat.mul_le_mul_right 5 de0) (by decide)
  have up : ∀ {a b : Nat}, a ≤ b → 2 ^ a ≤ 2 ^ b := fun h => Nat.pow_le_pow_right (by decide) h
  have fbA : Fb A (De l 0 * 5) (We l 0 * 15) := ⟨sA, by omega, fA, Nat.mul_pos (De_pos 0 l) (by decide), Nat.le_trans db0 (up (by decide)), Nat.le_trans nb0 (up (by decide))⟩
  have zA : ∀ x, ev A x = 0 ↔ x ∈ l.map Prod.fst := fun x => by
    rw [eA, Rat.mul_eq_zero, zero_E x h1]
    exact ⟨fun h => h.elim (fun z => absurd z c0) id, .inr⟩
  have sE' := sz_E 1 l
  have we1 : We l 1 ≤ 2 ^ 90 := by
    by_cases e : l = []
    · rw [e]; exact Nat.one_le_two_pow
    · have h3 := We_one (B := 2 ^ 30) (by decide) l fun q hq => ⟨w30 q hq, h1 q hq⟩
      have l0 := List.length_pos_iff.mpr e
      have h4 : We l 1 * 2 ^ 30 ≤ 2 ^ 90 * 2 ^ 30 := by
        refine Nat.le_trans (Nat.mul_le_mul_left _ ?_) (Nat.le_trans h3 ?_)
        · rw [← Nat.pow_mul]
          exact up (by omega)
        · rw [← Nat.pow_add]
          exact pw30
      exact Nat.le_of_mul_le_mul_right h4 (by decide)
  have fbE' : Fb (prE (tl l) 1) (De l 1) (We l 1) := ⟨mE'.s, by omega, sE', De_pos 1 l, Nat.le_trans de1 (Nat.le_trans (show 81 ≤ 2 ^ 7 by decide) (up (by decide))), Nat.le_trans we1 (up (by decide))⟩
  have wn : Wn l ≤ 2 ^ 54 := by
    refine Nat.le_trans (Wn_plc l hn fun q hq => (hp q hq).1) ?_
    have p45 : 45 ^ l.length ≤ 45 ^ 4 := Nat.pow_le_pow_right (by decide) (by omega)
    refine Nat.le_trans (Nat.mul_le_mul (Nat.mul_le_mul (show (if (1000000000 : Rat) ∈ l.map Prod.fst then 22222223 else 1) ≤ 22222223 by split <;> decide) (show (if (1000 : Rat) ∈ l.map Prod.fst then 23 else 1) ≤ 23 by split <;> decide)) p45) ?_
    decide
  have fR := sz_R 0 l
  have fS := sz_S 0 l fun q hq => Nat.le_trans (le_sum hq) hs
  have lR := lenR0 h1
  have dn : Dn l ≤ 81 := Nat.le_trans (Dn_le l den3) (Nat.le_trans (Nat.pow_le_pow_right (by decide) (show l.length ≤ 4 by omega)) (by decide))
  have mR := mo_R 0 hm
  have sS : Stp (pscale (prR (tl l) 0) c) := stp_psc mR.s c0
  have fbS : Fb (pscale (prR (tl l) 0) c) (Dn l * 5) (Wn l * 15) := ⟨sS, by rw [psc_len, lR]; omega, fun i => by rw [cf_psc]; exact (fR i).mul fc, Nat.mul_pos (Dn_pos l) (by decide), Nat.le_trans (Nat.mul_le_mul_right 5 dn) (Nat.le_trans (show 81 * 5 ≤ 2 ^ 9 by decide) (up (by decide))), Nat.le_trans (Nat.mul_le_mul wn (show 15 ≤ 2 ^ 4 by decide)) (by rw [← Nat.pow_add]; exact up (by decide))⟩
  have nS : pscale (prR (tl l) 0) c ≠ [] := fun z => mR.n (List.length_eq_zero_iff.mp (by rw [← psc_len _ c, z]; rfl))
  have eS : ∀ x, ev (pscale (prR (tl l) 0) c) x = c * ev (prR (tl l) 0) x := fun x => by rw [ev_pscale]; grind
  have zS : ∀ x, ev (pscale (prR (tl l) 0) c) x = 0 ↔ ev A x = 0 := fun x => by
    rw [eS, Rat.mul_eq_zero, zero_R x h1, zA]
    exact ⟨fun h => h.elim (fun z => absurd z c0) id, .inr⟩
  have sh : ∀ i, Hb 124 (cf A i) := fun i => Hb.of (fA i) fbA.m0 (Nat.le_trans db0 (up (by decide))) nb0
  have slA : ∀ x, ev (slp A) x = c * ev (slp (prE (tl l) 0)) x := fun x => by
    rw [slp_mul (F := A) (A := [c]) (B := prE (tl l) 0) (fun x => by rw [eA]; show _ = (c + x * 0) * _; grind), slp_const]
    show 0 * _ + (c + x * 0) * _ = _
    grind
  have fbD : Fb (stripQ (pslope A)) (De l 0 * 5) (13 * (We l 0 * 15)) := by
    refine ⟨stripQ_stp _, ?_, fun i => ?_, fbA.m0, fbA.m, Nat.le_trans (Nat.mul_le_mul (show 13 ≤ 2 ^ 4 by decide) nb0) (by rw [← Nat.pow_add]; exact up (by decide))⟩
    · have z := stripQ_le (pslope A)
      have y : (pslope A).length = A.length - 1 := by unfold pslope; rw [tab_len]
      omega
    · rw [cf_stripQ]
      unfold pslope
      rw [cf_tab]
      split
      · rename_i hi
        have := (fA (i + 1)).sc (i + 1)
        exact this.le (Nat.mul_le_mul_right _ (by omega))
      · exact Fr.zero _ _
  have cm : Cm A (stripQ (pslope A)) (prE (tl l) 1) := by
    have nA : A ≠ [] := fun z => by rw [z] at lA; simp at lA
    refine ⟨fun z => absurd z nA, fun z => ?_, fun _ nB => ?_⟩
    · -- no degrees: the divisor is 1
      have e : l = [] := by
        by_cases e : l = []
        · exact e
        · exfalso
          have l0 := List.length_pos_iff.mpr e
          have := slp_ne mE (by rw [lE, d0]; omega)
          refine this (stp_nil (stripQ_stp _) fun x => ?_)
          rw [ev_stripQ]
          have h2 : ev (stripQ (slp A)) x = 0 := by
            rw [show stripQ (slp A) = [] from z]
            rfl
          rw [ev_stripQ, slA] at h2
          rcases Rat.mul_eq_zero.mp h2 with y | y
          · exact absurd y c0
          · exact y
      have h2 : mon A = mon (prE (tl l) 0) := mon_scale mE.s sA c0 eA
      rw [h2, mon_mo mE, e]
      rfl
    · have act : 1 < (prE (tl l) 0).length := by
        by_cases e : 1 < (prE (tl l) 0).length
        · exact e
        · exfalso
          refine nB (List.length_eq_zero_iff.mp ?_)
          have z := stripQ_le (pslope A)
          have y : (pslope A).length = A.length - 1 := by unfold pslope; rw [tab_len]
          omega
      have n16 : 4 * l.length * Wn l ≤ 2 ^ 62 := by
        refine Nat.le_trans (Nat.mul_le_mul (show 4 * l.length ≤ 2 ^ 4 by omega) wn) ?_
        rw [← Nat.pow_add]
        exact up (by decide)
      obtain ⟨X, Y, G, k1, k2, gd, lX, lY, bX, bY, bG, n1, n2, e1, e2, c', c0', ec⟩ := gcd9 hm (tl_fam hn) (k := 0) (De_pos 1 l) (Dn_pos l) sE' (Nat.le_trans we1 (up (by decide))) (N2 := max (Wn l) (4 * l.length * Wn l)) (fun i => (fR i).le (Nat.le_max_left _ _)) (fun i => (fS i).le (Nat.le_max_right _ _)) (Nat.max_le.mpr ⟨Nat.le_trans wn (up (by decide)), n16⟩) (by omega) (by show (prE (tl l) 1).length ≤ 13; omega) (by omega) (by have := lenS l 0; omega) act
      refine ⟨X, Y, G, k1 * (1 / c), k2 * (1 / c), ⟨gd, lX, lY, bX, bY, bG⟩, ?_, ?_, fun x => ?_, fun x => ?_, ?_⟩
      · exact fun z => (Rat.mul_eq_zero.mp z).elim n1 (inv_ne c0)
      · exact fun z => (Rat.mul_eq_zero.mp z).elim n2 (inv_ne c0)
      · rw [e1, eA]
        have := inv_mul c0
        grind
      · rw [e2, ev_stripQ]
        have h3 : ev (pslope A) x = c * ev (slp (prE (tl l) 0)) x := slA x
        rw [h3]
        have := inv_mul c0
        grind
      · rw [← mon_mo mE']
        exact (mon_scale mE'.s gd.pg.stp c0' ec).symm
  refine ⟨⟨by omega, fun i => (sh i).sr (by decide), prE (tl l) 1, pscale (prR (tl l) 0) c, _, _, _, _, _, _, _, _, _, _, fbA, fbD, cm, fbA, fbE', Nat.le_trans nb0 (up (by decide)), Nat.le_trans we1 (up (by decide)), mE'.n, .inl (Nat.le_trans we1 (up (by decide))), fun Qq R qr => ?_, fbS, nS, zS, fun T k pm lT k0 eT bT => ?_⟩, zA, lA, fbA, nb0, db0⟩
  · exact (div_uniq mE'.s mE'.n qr.sq sS qr.sr fb_nil.s qr.lr (List.length_pos_iff.mpr mE'.n) qr.e fun x => by
      rw [eA, prE_R x 0 (tl l), eS]
      show _ = _ + (0 : Rat)
      grind).1
  · have lT' : T.length = l.length + 1 := by rw [lT, psc_len, lR]
    refine ⟨pm.ne, by omega, fun x hx => ?_, pm.tp, fun _ => ⟨211, fit_lin hn h1 pm (k := k * c) (fun z => (Rat.mul_eq_zero.mp z).elim k0 c0) (fun x => by rw [eT, eS]; grind) lT' pr211 ⟨fun q hq => plc_apart.1 q.1 (hp q hq).1, fun a ha b hb => plc_apart.2 a.1 (hp a ha).1 b.1 (hp b hb).1⟩, rfl, Nat.le_refl _, by decide⟩⟩
    obtain ⟨i, hi, e⟩ := List.mem_iff_getElem.mp hx
    have := bT i
    have e2 : ci T i = x := by
      unfold ci
      rw [List.getD_eq_getElem?_getD, List.getElem?_eq_getElem hi, ← e]
      rfl
    rw [e2] at this
    exact Nat.le_trans this (Nat.le_trans (Nat.mul_le_mul wn (show 15 ≤ 2 ^ 4 by decide)) (by rw [← Nat.pow_add]; exact up (by decide)))
end Vf
set_option maxRecDepth 100000
set_option maxHeartbeats 8000000
namespace Vf
open PySem PySem.Spec PyProof.Rows L2
def fromD (least : Int) : PyData → Bool
  | .int i => decide (least ≤ i)
  | _ => false
def spWF (K : PySem.W.Frag) : Sp := fun vs H Q _ => ∃ (v : V) (d : PyData) (least : Int), vs = [v, .int least] ∧ Dt K H v d ∧ Q (.bl (fromD least d)) H
structure RwC (K : PySem.W.Frag) (mg : Str → Option Value) (CW : Addr) : Prop where
  m : mg "Row" = some (.ref CW)
  cl : Cls K CW
  n1 : NoAttr K CW "start"
  n2 : NoAttr K CW "top"
  n3 : NoAttr K CW "bottom"
  n4 : NoAttr K CW "step"
  n5 : NoAttr K CW "shift"
def RowAt (K : PySem.W.Frag) (CP CW : Addr) (H : Hp) (a : Addr) (q : Rat) (A B : List Rat) (st sh : Int) (xa xb : Addr) : Prop := ∃ dx t : Addr, H a = some (.ins CW dx [("start", .ref t), ("top", .ref xa), ("bottom", .ref xb), ("step", .int st), ("shift", .int sh)]) ∧ TR H t q ∧ PolyQ K CP H xa A ∧ PolyQ K CP H xb B
def spRowI (K : PySem.W.Frag) (CP CW CN : Addr) : Sp := fun vs H Q E => ∃ (x dx : Addr) (v : V) (d : PyData) (w : V) (e : PyData) (u : V) (g : PyData) (xa xb : Addr) (A B : List Rat), vs = [.ref x, v, .ref xa, .ref xb, w, u] ∧ H x = some (.ins CW dx []) ∧ Dt K H v d ∧ Dt K H w e ∧ Dt K H u g ∧ PolyQ K CP H xa A ∧ PolyQ K CP H xb B ∧ (B ≠ [] → Lw B) ∧
  (((partsD d).isSome = false ∧ RaisesN CN H (.str "start") v E) ∨ ((partsD d).isSome = true ∧
  ((fromD 1 e = false ∧ RaisesN CN H (.str "step") w E) ∨ (fromD 1 e = true ∧
  ((fromD 0 g = false ∧ RaisesN CN H (.str "shift") u E) ∨ (fromD 0 g = true ∧
  ((∃ z : Nat, ev B (z : Rat) = 0 ∧ (∀ y : Nat, y < z → ev B (y : Rat) ≠ 0) ∧ RaisesN CN H (.str "bottom") (.int (z : Int)) E) ∨
  ((∀ z : Nat, ev B (z : Rat) ≠ 0) ∧ ∃ (t b : Int) (q : Rat) (st sh : Int), partsD d = some (t, b) ∧ low t b = pq q ∧ b.natAbs < 2 ^ big ∧ e = .int st ∧ g = .int sh ∧ ∀ H', Kp x H H' → RowAt K CP CW H' x q A B st sh xa xb → Q .non H'))))))))
theorem PolyQ.kx {K : PySem.W.Frag} {CP C x dx a : Addr} {H H' : Hp} {A : List Rat} (h : PolyQ K CP H a A) (hx : H x = some (.ins C dx [])) (k : Kp x H H') : PolyQ K CP H' a A := by
  obtain ⟨dy, t, as, h1, h2, h3⟩ := h
  exact ⟨dy, t, as, k a _ (fun z => by
    subst z
    rw [hx] at h1
    cases h1) h1, k _ _ (ne_of h2 hx (by intro z; cases z)) h2, h3.imp fun c p z => k _ _ (ne_of z hx (by intro z; cases z)) z⟩
theorem putR1 (v0 w : V) : putF (Str.ofString "top") w [(Str.ofString "start", v0)] = [(Str.ofString "start", v0), (Str.ofString "top", w)] := by
  unfold putF
  rw [if_neg (by decide +kernel)]
  rfl
theorem putR2 (v0 v1 w : V) : putF (Str.ofString "bottom") w [(Str.ofString "start", v0), (Str.ofString "top", v1)] = [(Str.ofString "start", v0), (Str.ofString "top", v1), (Str.ofString "bottom", w)] := by
  unfold putF
  rw [if_neg (by decide +kernel)]
  unfold putF
  rw [if_neg (by decide +kernel)]
  rfl
theorem putR3 (v0 v1 v2 w : V) : putF (Str.ofString "step") w [(Str.ofString "start", v0), (Str.ofString "top", v1), (Str.ofString "bottom", v2)] = [(Str.ofString "start", v0), (Str.ofString "top", v1), (Str.ofString "bottom", v2), (Str.ofString "step", w)] := by
  unfold putF
  rw [if_neg (by decide +kernel)]
  unfold putF
  rw [if_neg (by decide +kernel)]
  unfold putF
  rw [if_neg (by decide +kernel)]
  rfl
theorem putR4 (v0 v1 v2 v3 w : V) : putF (Str.ofString "shift") w [(Str.ofString "start", v0), (Str.ofString "top", v1), (Str.ofString "bottom", v2), (Str.ofString "step", v3)] = [(Str.ofString "start", v0), (Str.ofString "top", v1), (Str.ofString "bottom", v2), (Str.ofString "step", v3), (Str.ofString "shift", w)] := by
  unfold putF
  rw [if_neg (by decide +kernel)]
  unfold putF
  rw [if_neg (by decide +kernel)]
  unfold putF
  rw [if_neg (by decide +kernel)]
  unfold putF
  rw [if_neg (by decide +kernel)]
  rfl
section
variable {P : Program} {w : World} {K : PySem.W.Frag} {mg : Str → Option Value} {base : Heap} {CP CR CN CI CW : Addr}
abbrev sWF : Stmt := topS 21
theorem scWF : FnScope ["value", "least"] ["value", "least"] (defScope sWF) := ⟨rfl, rfl, rfl, by decide +kernel, rfl, by decide +kernel, by decide +kernel⟩
theorem ok_wf {f : Addr} {fd : FuncData} (F : Fun K "is_whole_from" "is_whole_from" sWF f fd) (T : Bk mg) (G_is_whole : Df P w K mg base "is_whole" 1 ["value"] (spWhole K)) : FnOk P w K mg base CX0 2 f fd ["value", "least"] (spWF K) := by
  refine F.ok scWF (fun vs H Q E h => ?_) (fun cdv A outer s H vs Q E hr h => ?_)
  · obtain ⟨v, d, least, rfl, _⟩ := h
    rfl
  · obtain ⟨v, d, least, rfl, hd, q⟩ := h
    refine ⟨_, (pss_one (ps_ret (pe_and (pe_call G_is_whole.ok (hr.mono (by decide)) rfl G_is_whole.m G_is_whole.kp G_is_whole.b .nil pass0 (pa_cons (pv 0) pa_nil)) (pe_one (pe_cmpR op_ge (pv 0) (pv 1) (nomark _)))))), ?_⟩
    refine ⟨_, rfl, v, d, rfl, hd, _, rfl, ?_⟩
    cases hd with
    | int i =>
      refine iteT ?_
      exact ⟨_, rfl, _, rfl, _, _, rfl, rfl, q⟩
    | non => exact q
    | bl b => exact q
    | str x => exact q
    | lst h1 h2 => exact q
    | tup h1 h2 => exact q
    | dct h1 h2 => exact q
abbrev sRowI : Stmt := inClass (topS 65) 0
theorem scRowI : FnScope ["self", "start", "top", "bottom", "step", "shift", "zero"] ["self", "start", "top", "bottom", "step", "shift"] (defScope sRowI) := ⟨rfl, rfl, rfl, by decide +kernel, rfl, by decide +kernel, by decide +kernel⟩
theorem ok_rowi {f : Addr} {fd : FuncData} (F : Fun K "__init__" "Row.__init__" sRowI f fd) (T : Bk mg) (RC : RwC K mg CW) (N_BadNumber : Ex P w K mg base "BadNumber" CN ["what", "number"]) (G_is_ratio : Df P w K mg base "is_ratio" 2 ["value"] (spIsRatio K)) (G_is_whole_from : Df P w K mg base "is_whole_from" 2 ["value", "least"] (spWF K)) (G_least_whole_zero : Dx P w K mg base "least_whole_zero" 10 ["poly"] (spLWZ K CP)) (G_told : Dx P w K mg base "told" 4 ["value", "what"] (spTold K CN)) : FnOk P w K mg base (L2.CX P w) 11 f fd ["self", "start", "top", "bottom", "step", "shift"] (spRowI K CP CW CN) := by
  refine F.okX scRowI (fun vs H Q E h => ?_) (fun cdv A0 outer s0 H vs Q E hr h => ?_)
  · obtain ⟨x, dx, v, d, w, e, u, g, xa, xb, A, B, rfl, _⟩ := h
    rfl
  · obtain ⟨x, dx, v, d, w, e, u, g, xa, xb, A, B, rfl, hx, dv, dw, du, pA, pB, lw, h⟩ := h
    refine ⟨_, (pss_cons (ps_if (pt_not (pt_val (pe_call G_is_ratio.ok (hr.mono (by decide)) rfl G_is_ratio.m G_is_ratio.kp G_is_ratio.b .nil pass0 (pa_cons (pv 1) pa_nil))))
    (pss_one (ps_raise rfl (takes_of rfl rfl rfl rfl) (pmk_oex N_BadNumber.ox N_BadNumber.iC N_BadNumber.tI N_BadNumber.ok (hr.mono (by decide)) N_BadNumber.b .nil pass0 (by rfl) N_BadNumber.m (pa_cons pe_str (pa_cons (pv 1) pa_nil)))))
    pss_nil)
  (pss_cons (ps_if (pt_not (pt_val (pe_call G_is_whole_from.ok (hr.mono (by decide)) rfl G_is_whole_from.m G_is_whole_from.kp G_is_whole_from.b .nil pass0 (pa_cons (pv 4) (pa_cons pe_int pa_nil)))))
    (pss_one (ps_raise rfl (takes_of rfl rfl rfl rfl) (pmk_oex N_BadNumber.ox N_BadNumber.iC N_BadNumber.tI N_BadNumber.ok (hr.mono (by decide)) N_BadNumber.b .nil pass0 (by rfl) N_BadNumber.m (pa_cons pe_str (pa_cons (pv 4) pa_nil)))))
    pss_nil)
  (pss_cons (ps_if (pt_not (pt_val (pe_call G_is_whole_from.ok (hr.mono (by decide)) rfl G_is_whole_from.m G_is_whole_from.kp G_is_whole_from.b .nil pass0 (pa_cons (pv 5) (pa_cons pe_int pa_nil)))))
    (pss_one (ps_raise rfl (takes_of rfl rfl rfl rfl) (pmk_oex N_BadNumber.ox N_BadNumber.iC N_BadNumber.tI N_BadNumber.ok (hr.mono (by decide)) N_BadNumber.b .nil pass0 (by rfl) N_BadNumber.m (pa_cons pe_str (pa_cons (pv 5) pa_nil)))))
    pss_nil)
  (pss_cons (ps_set (i := 6) scRowI.nd rfl (Or.inl rfl) (pe_call G_least_whole_zero.ok (hr.mono (by decide)) rfl G_least_whole_zero.m G_least_whole_zero.kp G_least_whole_zero.b .nil passL (pa_cons (pv 3) pa_nil)))
  (pss_cons (ps_if (pt_cmpR op_notN (pv 6) pe_non (nomark _))
    (pss_one (ps_raise rfl (takes_of rfl rfl rfl rfl) (pmk_oex N_BadNumber.ox N_BadNumber.iC N_BadNumber.tI N_BadNumber.ok (hr.mono (by decide)) N_BadNumber.b .nil pass0 (by rfl) N_BadNumber.m (pa_cons pe_str (pa_cons (pv 6) pa_nil)))))
    pss_nil)
  (pss_cons (ps_fld (pv 0) (pe_call G_told.ok (hr.mono (by decide)) rfl G_told.m G_told.kp G_told.b .nil (E := E) (passes_call (takes_of rfl rfl rfl rfl) (fun _ _ _ _ h => h)) (pa_cons (pv 1) (pa_cons pe_str pa_nil))) rfl)
  (pss_cons (ps_fld (pv 0) (pv 2) rfl)
  (pss_cons (ps_fld (pv 0) (pv 3) rfl)
  (pss_cons (ps_fld (pv 0) (pv 4) rfl)
  (pss_one (ps_fld (pv 0) (pv 5) rfl))))))))))), ?_⟩
    have raiseN : ∀ {H2 : Hp} {wv v : V} {W : XK}, Same H H2 → RaisesN CN H wv v W → _ := fun {H2 wv v W} s2 e => raise_end (C := CN) (names := ["what", "number"]) (H1 := H2) (vs := [wv, v]) (W := W) rfl fun dd H' s3 n e2 => (RaisesN.same s2 e) dd H' s3 n e2
    refine ⟨_, rfl, v, d, rfl, dv, fun H1 s1 => ⟨_, rfl, ?_⟩⟩
    rcases h with ⟨h1, er⟩ | ⟨h1, h⟩
    · rw [h1]
      refine iteT ?_
      refine ⟨_, rfl, (by show 2 ≤ 1000; decide), ?_⟩
      exact raiseN s1 er
    rw [h1]
    refine iteF ?_
    refine ⟨_, rfl, w, e, 1, rfl, dw.mono s1, ?_⟩
    refine ⟨_, rfl, ?_⟩
    rcases h with ⟨h2, er⟩ | ⟨h2, h⟩
    · rw [h2]
      refine iteT ?_
      refine ⟨_, rfl, (by show 2 ≤ 1000; decide), ?_⟩
      exact raiseN s1 er
    rw [h2]
    refine iteF ?_
    refine ⟨_, rfl, u, g, 0, rfl, du.mono s1, ?_⟩
    refine ⟨_, rfl, ?_⟩
    rcases h with ⟨h3, er⟩ | ⟨h3, h⟩
    · rw [h3]
      refine iteT ?_
      refine ⟨_, rfl, (by show 2 ≤ 1000; decide), ?_⟩
      exact raiseN s1 er
    rw [h3]
    refine iteF ?_
    refine ⟨_, rfl, ?_⟩
    refine tnil_k ?_
    refine ⟨xb, B, rfl, pB.same s1, lw, fun z H2 s2 hz => ?_⟩
    have s12 := s1.trans s2
    rcases h with ⟨zz, z0, z1, er⟩ | ⟨no, t, b, q, st, sh, hp, hl, hb, rfl, rfl, hq⟩
    · obtain ⟨rfl⟩ : z = .int (zz : Int) := by
        rcases hz with ⟨_, y⟩ | ⟨z', e1, e2, e3⟩
        · exact absurd z0 (y zz)
        · rcases Nat.lt_trichotomy z' zz with y | y | y
          · exact absurd e2 (z1 z' y)
          · rw [e1, y]
          · exact absurd z0 (e3 zz y)
      refine ⟨_, rfl, rfl, _, rfl, ?_⟩
      refine iteT ?_
      refine ⟨_, rfl, (by show 2 ≤ 1000; decide), ?_⟩
      exact raiseN s12 er
    · obtain ⟨rfl⟩ : z = .non := by
        rcases hz with ⟨y, _⟩ | ⟨z', e1, e2, e3⟩
        · exact y
        · exact absurd e2 (no z')
      refine ⟨_, rfl, rfl, _, rfl, ?_⟩
      refine iteF ?_
      cases dw
      cases du
      have hx2 := s12 _ _ hx
      refine ⟨_, rfl, v, .str "start", d, rfl, dv.mono s12, fun t' b' hp' => ?_, fun z => by rw [hp] at z; cases z⟩
      rw [hp] at hp'
      cases hp'
      refine ⟨hb, fun r H3 s3 e3 => ?_⟩
      have tr : TR H3 r q := by
        have h5 : ((low t b).1, (low t b).2) = pq q := hl
        have h6 : (low t b).1 = q.num := congrArg Prod.fst h5
        have h7 : (low t b).2 = (q.den : Int) := congrArg Prod.snd h5
        rw [h6, h7] at e3
        exact e3
      have hx3 := s3 _ _ hx2
      have k3 : Kp x H H3 := Kp.of (s12.trans s3)
      refine ⟨_, rfl, x, CW, dx, _, rfl, hx3, RC.cl, RC.n1, (by show 0 < 1000; decide), ?_⟩
      rw [show putF (Str.ofString "start") (V.ref r) [] = [(Str.ofString "start", V.ref r)] from rfl]
      have hx4 : upd H3 x (HO.ins CW dx [(Str.ofString "start", V.ref r)]) x = some (HO.ins CW dx [(Str.ofString "start", V.ref r)]) := upd_same
      have k4 : Kp x H3 (upd H3 x (HO.ins CW dx [(Str.ofString "start", V.ref r)])) := kp_upd
      generalize upd H3 x (HO.ins CW dx [(Str.ofString "start", V.ref r)]) = H4 at hx4 k4 ⊢
      refine ⟨_, rfl, _, rfl, x, CW, dx, _, rfl, hx4, RC.cl, RC.n2, (by show 1 < 1000; decide), ?_⟩
      rw [putR1]
      have hx5 : upd H4 x (HO.ins CW dx [(Str.ofString "start", V.ref r), (Str.ofString "top", V.ref xa)]) x = some (HO.ins CW dx [(Str.ofString "start", V.ref r), (Str.ofString "top", V.ref xa)]) := upd_same
      have k5 : Kp x H4 (upd H4 x (HO.ins CW dx [(Str.ofString "start", V.ref r), (Str.ofString "top", V.ref xa)])) := kp_upd
      generalize upd H4 x (HO.ins CW dx [(Str.ofString "start", V.ref r), (Str.ofString "top", V.ref xa)]) = H5 at hx5 k5 ⊢
      refine ⟨_, rfl, _, rfl, x, CW, dx, _, rfl, hx5, RC.cl, RC.n3, (by show 2 < 1000; decide), ?_⟩
      rw [putR2]
      have hx6 : upd H5 x (HO.ins CW dx [(Str.ofString "start", V.ref r), (Str.ofString "top", V.ref xa), (Str.ofString "bottom", V.ref xb)]) x = some (HO.ins CW dx [(Str.ofString "start", V.ref r), (Str.ofString "top", V.ref xa), (Str.ofString "bottom", V.ref xb)]) := upd_same
      have k6 : Kp x H5 (upd H5 x (HO.ins CW dx [(Str.ofString "start", V.ref r), (Str.ofString "top", V.ref xa), (Str.ofString "bottom", V.ref xb)])) := kp_upd
      generalize upd H5 x (HO.ins CW dx [(Str.ofString "start", V.ref r), (Str.ofString "top", V.ref xa), (Str.ofString "bottom", V.ref xb)]) = H6 at hx6 k6 ⊢
      refine ⟨_, rfl, _, rfl, x, CW, dx, _, rfl, hx6, RC.cl, RC.n4, (by show 3 < 1000; decide), ?_⟩
      rw [putR3]
      have hx7 : upd H6 x (HO.ins CW dx [(Str.ofString "start", V.ref r), (Str.ofString "top", V.ref xa), (Str.ofString "bottom", V.ref xb), (Str.ofString "step", V.int st)]) x = some (HO.ins CW dx [(Str.ofString "start", V.ref r), (Str.ofString "top", V.ref xa), (Str.ofString "bottom", V.ref xb), (Str.ofString "step", V.int st)]) := upd_same
      have k7 : Kp x H6 (upd H6 x (HO.ins CW dx [(Str.ofString "start", V.ref r), (Str.ofString "top", V.ref xa), (Str.ofString "bottom", V.ref xb), (Str.ofString "step", V.int st)])) := kp_upd
      generalize upd H6 x (HO.ins CW dx [(Str.ofString "start", V.ref r), (Str.ofString "top", V.ref xa), (Str.ofString "bottom", V.ref xb), (Str.ofString "step", V.int st)]) = H7 at hx7 k7 ⊢
      refine ⟨_, rfl, _, rfl, x, CW, dx, _, rfl, hx7, RC.cl, RC.n5, (by show 4 < 1000; decide), ?_⟩
      rw [putR4]
      have k37 : Kp x H3 H7 := k4.trans (k5.trans (k6.trans k7))
      have k8 : Kp x H7 (upd H7 x (HO.ins CW dx [(Str.ofString "start", V.ref r), (Str.ofString "top", V.ref xa), (Str.ofString "bottom", V.ref xb), (Str.ofString "step", V.int st), (Str.ofString "shift", V.int sh)])) := kp_upd
      have kk := k3.trans (k37.trans k8)
      have rx : r ≠ x := ne_of tr hx3 (by intro z; cases z)
      exact hq _ kk ⟨dx, r, upd_same, (k37.trans k8) r _ rx tr, pA.kx hx kk, pB.kx hx kk⟩
end
end Vf
set_option maxRecDepth 100000
set_option maxHeartbeats 8000000
namespace Vf
open PySem PySem.Spec PyProof.Rows L2
structure AtOk (A : List Rat) (k : Int) : Prop where
  l : A.length ≤ 13
  f : ∃ M N : Nat, (∀ i, Fr M N (cf A i)) ∧ 0 < M ∧ M ≤ 2 ^ 1000 ∧ N ≤ 2 ^ 1000
  k0 : 0 ≤ k
  k1 : k ≤ 1000
def spAtI (K : PySem.W.Frag) (CP : Addr) : Sp := fun vs H Q _ => ∃ (a : Addr) (k : Int) (A : List Rat), vs = [.ref a, .int k] ∧ PolyQ K CP H a A ∧ AtOk A k ∧ ∀ (r : Addr) (H' : Hp), Same H H' → TR H' r (ev A (k : Rat)) → Q (.ref r) H'
theorem hz_bd2 {k : Int} (h0 : 0 ≤ k) (h1 : k ≤ 1000) {N : Nat} : ∀ {l : List Int}, (∀ x ∈ l, x.natAbs ≤ N) → (hz k l).natAbs ≤ N * 2 ^ (10 * l.length + 1)
  | [], _ => Nat.zero_le _
  | c :: r, h => by
    have ih := hz_bd2 h0 h1 (l := r) fun x hx => h x (List.mem_cons_of_mem _ hx)
    have hc := h c (List.mem_cons_self ..)
    show (c + k * hz k r).natAbs ≤ N * 2 ^ (10 * (r.length + 1) + 1)
    refine Nat.le_trans (Int.natAbs_add_le _ _) ?_
    rw [Int.natAbs_mul, show 10 * (r.length + 1) + 1 = 10 * r.length + 1 + 10 by omega, Nat.pow_add 2 (10 * r.length + 1) 10]
    have h2 : k.natAbs * (hz k r).natAbs ≤ 1000 * (N * 2 ^ (10 * r.length + 1)) := Nat.mul_le_mul (by omega) ih
    have h3 : N ≤ N * 2 ^ (10 * r.length + 1) := Nat.le_mul_of_pos_right _ (Nat.pow_pos (by decide))
    have e : N * (2 ^ (10 * r.length + 1) * 2 ^ 10) = 1024 * (N * 2 ^ (10 * r.length + 1)) := by
      rw [Nat.mul_comm 1024, Nat.mul_assoc]
    rw [e]
    omega
section
variable {P : Program} {w : World} {K : PySem.W.Frag} {mg : Str → Option Value} {base : Heap} {CP CR CN CI CW : Addr}
abbrev sAt : Stmt := inClass (topS 40) 11
theorem scAt : FnScope ["self", "point", "top", "bottom", "row", "below", "value", "scale", "number"] ["self", "point"] (defScope sAt) := ⟨rfl, rfl, rfl, by decide +kernel, rfl, by decide +kernel, by decide +kernel⟩
theorem ok_ati {f : Addr} {fd : FuncData} (F : Fun K "at" "Poly.at" sAt f fd) (C : PoC K mg CP) (G_told : Dx P w K mg base "told" 4 ["value", "what"] (spTold K CN)) (G_over_one_bottom : Df P w K mg base "over_one_bottom" 1 ["numbers"] (spOver2 K)) (G_lowest : Df P w K mg base "lowest" 1 ["top", "bottom"] spLow) : FnOk P w K mg base (L2.CX P w) 5 f fd ["self", "point"] (spAtI K CP) := by
  refine F.okX scAt (fun vs H Q E h => ?_) (fun cdv A0 outer s0 H vs Q E hr h => ?_)
  · obtain ⟨a, k, A, rfl, _⟩ := h
    rfl
  · obtain ⟨a, k, A, rfl, pA, ok, q⟩ := h
    obtain ⟨dx, t, as, h1, h2, h3⟩ := id pA
    refine ⟨_, (pss_cons (ps_asg (pe_call G_told.ok (hr.mono (by decide)) rfl G_told.m G_told.kp G_told.b .nil (E := E) (passes_call (takes_of rfl rfl rfl rfl) (fun _ _ _ _ h => h)) (pa_cons (pv 1) (pa_cons pe_str pa_nil))) (pg_tup (by rfl) (pgs_cons (pg_name (i := 2) scAt.nd rfl (Or.inl rfl)) (pgs_cons (pg_name (i := 3) scAt.nd rfl (Or.inl rfl)) pgs_nil))))
  (pss_cons (ps_asg (pe_call G_over_one_bottom.ok (hr.mono (by decide)) rfl G_over_one_bottom.m G_over_one_bottom.kp G_over_one_bottom.b .nil pass0 (pa_cons (pe_fld (pv 0) rfl) pa_nil)) (pg_tup (by rfl) (pgs_cons (pg_name (i := 4) scAt.nd rfl (Or.inl rfl)) (pgs_cons (pg_name (i := 5) scAt.nd rfl (Or.inl rfl)) pgs_nil))))
  (pss_cons (ps_set (i := 6) scAt.nd rfl (Or.inl rfl) pe_int)
  (pss_cons (ps_set (i := 7) scAt.nd rfl (Or.inl rfl) pe_int)
  (pss_cons (ps_for (passes_of rfl) rfl (pi_list (pe_revL (pv 4))) (pg_name (i := 8) scAt.nd rfl (Or.inl rfl))
    (pss_cons (ps_set (i := 6) scAt.nd rfl (Or.inl rfl) (pe_op op_add (pe_op op_mulW (pv 6) (pv 2)) (pe_op op_mulW (pv 8) (pv 7))))
    (pss_one (ps_set (i := 7) scAt.nd rfl (Or.inl rfl) (pe_op op_mulW (pv 7) (pv 3))))))
  (pss_one (ps_ret (pe_call G_lowest.ok (hr.mono (by decide)) rfl G_lowest.m G_lowest.kp G_lowest.b .nil pass0 (pa_cons (pe_op op_mulW (pv 6) (pv 3)) (pa_cons (pe_op op_mulW (pv 5) (pv 7)) pa_nil)))))))))), ?_⟩
    have kl := ok.k0
    have kh := ok.k1
    have l13 := ok.l
    obtain ⟨M, N, fA, m0, mb, nb⟩ := ok.f
    have up : ∀ {x n : Nat}, x ≤ 2 ^ n → n < 8700 → x < 2 ^ 8700 := fun h1 h2 => Nat.lt_of_le_of_lt h1 (Nat.pow_lt_pow_right (by decide) h2)
    refine ⟨_, rfl, .int k, .str "point", .int k, rfl, .int k, fun t' b' hp => ?_, fun z => by cases z⟩
    cases hp
    refine ⟨by decide, fun r H1 s1 e1 => ?_⟩
    have lw : low k 1 = (k, 1) := low_id ⟨by decide, by simp⟩
    rw [lw] at e1
    refine ⟨r, _, rfl, SqT.of e1, rfl, _, _, rfl, _, _, rfl, rfl, ?_⟩
    refine ⟨_, rfl, a, CP, dx, _, .ref t, rfl, s1 _ _ h1, C.cl, C.nf, (by kernel_rfl), ?_⟩
    refine tnil_k ?_
    refine ⟨t, A, M, N, rfl, ⟨as, .inr (SqT.of (s1 _ _ h2)), h3.same s1⟩, by omega, fA, m0, up mb (by decide), up nb (by decide), fun t2 l2 b xs H2 s2 et el b0 bM lx ex bx => ?_⟩
    refine ⟨t2, _, rfl, SqT.of et, rfl, _, _, rfl, _, _, rfl, rfl, ?_⟩
    have bxm : ∀ x ∈ xs, x.natAbs ≤ 2 ^ 1000 := fun x hx => by
      obtain ⟨i, hi, e⟩ := List.mem_iff_getElem.mp hx
      have := bx i
      have e2 : ci xs i = x := by
        unfold ci
        rw [List.getD_eq_getElem?_getD, List.getElem?_eq_getElem hi, ← e]
        rfl
      rw [e2] at this
      exact Nat.le_trans this nb
    have hzb : ∀ j, (hz k (xs.drop j)).natAbs < 2 ^ 1200 := fun j => by
      have h := hz_bd2 kl kh (l := xs.drop j) (N := 2 ^ 1000) fun x hx => bxm x (List.mem_of_mem_drop hx)
      rw [← Nat.pow_add] at h
      refine Nat.lt_of_le_of_lt h (Nat.pow_lt_pow_right (by decide) ?_)
      rw [List.length_drop]
      omega
    have cib : ∀ i, (ci xs i).natAbs < 2 ^ 1001 := fun i => Nat.lt_of_le_of_lt (Nat.le_trans (bx i) nb) (Nat.pow_lt_pow_right (by decide) (by decide))
    refine ⟨_, rfl, l2, _, rfl, SqL.of el, fun lr nlr => ?_⟩
    have elr : upd H2 lr (HO.lst (xs.map V.int).reverse) lr = some (HO.lst (xs.map V.int).reverse) := upd_same
    have s3 : Same H2 (upd H2 lr (HO.lst (xs.map V.int).reverse)) := same_upd nlr
    generalize upd H2 lr (HO.lst (xs.map V.int).reverse) = H3 at elr s3 ⊢
    refine ⟨lr, rfl, ⟨_, SqL.of elr⟩, for_list (K := K) (a := lr) (xs := (xs.map V.int).reverse) (fun j σ H' => ∃ v8 : Option V, σ = [some (.ref a), some (.int k), some (.int k), some (.int 1), some (.ref l2), some (.int (b : Int)), some (.int (hz k (xs.drop (xs.length - j)))), some (.int 1), v8] ∧ Same H3 H')
      ⟨none, ?_, Same.refl _⟩ (fun j σ H' _ ⟨_, _, ss⟩ => SqL.of (ss _ _ elr)) ?_ ?_⟩
    · rw [Nat.sub_zero, List.drop_length]
      rfl
    · rintro j y σ H4 hj ⟨v8, rfl, s4⟩
      obtain ⟨rfl, hjl⟩ := rev_ci hj
      refine ⟨_, rfl, _, rfl, _, _, rfl, rfl, wide_mul (a := 1200) (b := 20) (hzb _) (by omega) (by decide) (by decide) (by decide), _, rfl, _, rfl, _, _, rfl, rfl, wide_mul (a := 1001) (b := 2) (cib _) (by decide) (by decide) (by decide) (by decide), _, _, rfl, rfl, ?_⟩
      refine ⟨_, rfl, _, rfl, _, _, rfl, rfl, wide_mul (a := 2) (b := 2) (by decide) (by decide) (by decide) (by decide) (by decide), ?_⟩
      refine ⟨some (.int (ci xs (xs.length - 1 - j))), ?_, s4⟩
      have e := hz_drop k xs (k := xs.length - 1 - j) (by omega)
      rw [show xs.length - (j + 1) = xs.length - 1 - j by omega, e, show xs.length - 1 - j + 1 = xs.length - j by omega]
      have ee : hz k (xs.drop (xs.length - j)) * k + ci xs (xs.length - 1 - j) * 1 = ci xs (xs.length - 1 - j) + k * hz k (xs.drop (xs.length - j)) := by grind
      rw [← ee]
      rfl
    · rintro σ H4 ⟨v8, rfl, s4⟩
      rw [List.length_reverse, List.length_map, Nat.sub_self, List.drop_zero]
      have hb : (b : Int).natAbs < 2 ^ 1001 := by
        rw [Int.natAbs_natCast]
        exact Nat.lt_of_le_of_lt (Nat.le_trans bM mb) (Nat.pow_lt_pow_right (by decide) (by decide))
      refine ⟨_, rfl, _, rfl, _, _, rfl, rfl, wide_mul (a := 1200) (b := 2) (hzb 0) (by decide) (by decide) (by decide) (by decide), _, rfl, _, rfl, _, _, rfl, rfl, wide_mul (a := 1001) (b := 2) hb (by decide) (by decide) (by decide) (by decide), ?_⟩
      refine tnil_k ?_
      refine ⟨hz k xs * 1, (b : Int) * 1, rfl, by omega, ?_, fun r5 H5 s5 n5 e5 => ?_⟩
      · rw [Int.mul_one]
        exact Nat.lt_of_lt_of_le hb (Nat.pow_le_pow_right (by decide) (by decide))
      · have z : low (hz k xs * 1) ((b : Int) * 1) = pq (ev A (k : Rat)) := low_mul (by omega) (by
          rw [Int.mul_one, Int.mul_one, ← ev_int]
          have h : ∀ i, cf (pscale A ((b : Int) : Rat)) i = cf (qi xs) i := fun i => by
            rw [cf_psc, cf_qi]
            exact ex i
          rw [← ev_ext h, ev_pscale])
        rw [z] at e5
        exact q r5 H5 (s1.trans (s2.trans (s3.trans (s4.trans s5)))) e5
end
end Vf
set_option maxRecDepth 100000
set_option maxHeartbeats 8000000
namespace Vf
open PySem PySem.Spec PyProof.Rows L2
/-- the number at a place -/
def nuR (q : Rat) (A B : List Rat) : Nat → Rat
  | 0 => q
  | k + 1 => nuR q A B k * (ev A ((k : Nat) : Rat) / ev B ((k : Nat) : Rat))
def spFol (K : PySem.W.Frag) (CP CW : Addr) : Sp := fun vs H Q _ => ∃ (a t : Addr) (q0 q : Rat) (A B : List Rat) (st sh : Int) (xa xb : Addr) (k : Int), vs = [.ref a, .ref t, .int k] ∧ RowAt K CP CW H a q0 A B st sh xa xb ∧ TR H t q ∧ AtOk A k ∧ AtOk B k ∧ ev B (k : Rat) ≠ 0 ∧ Sr q ∧ Sr (ev A (k : Rat)) ∧ Sr (ev B (k : Rat)) ∧ Sr (ev A (k : Rat) / ev B (k : Rat)) ∧
  ∀ (r : Addr) (H' : Hp), Same H H' → TR H' r (q * (ev A (k : Rat) / ev B (k : Rat))) → Q (.ref r) H'
def TmV (q : Rat) (A : List Rat) (v : V) : Prop := (q = 0 ∧ v = .int 0) ∨ (q ≠ 0 ∧ v = .non ∧ ∀ z : Nat, ev A (z : Rat) ≠ 0) ∨ (q ≠ 0 ∧ ∃ z : Nat, v = .int ((z + 1 : Nat) : Int) ∧ ev A (z : Rat) = 0 ∧ ∀ y : Nat, y < z → ev A (y : Rat) ≠ 0)
def spTerms (K : PySem.W.Frag) (CP CW : Addr) : Sp := fun vs H Q _ => ∃ (a : Addr) (q : Rat) (A B : List Rat) (st sh : Int) (xa xb : Addr), vs = [.ref a] ∧ RowAt K CP CW H a q A B st sh xa xb ∧ (A ≠ [] → Lw A) ∧ ∀ (v : V) (H' : Hp), Same H H' → TmV q A v → Q v H'
/-- sizes of the numbers ahead of a place -/
def NaOk (q : Rat) (A B : List Rat) (k : Nat) : Prop := ∀ j : Nat, j < k → AtOk A (j : Int) ∧ AtOk B (j : Int) ∧ ev B ((j : Nat) : Rat) ≠ 0 ∧ Sr (nuR q A B j) ∧ Sr (ev A ((j : Nat) : Rat)) ∧ Sr (ev B ((j : Nat) : Rat)) ∧ Sr (ev A ((j : Nat) : Rat) / ev B ((j : Nat) : Rat))
def spNA (K : PySem.W.Frag) (CP CW CN : Addr) : Sp := fun vs H Q E => ∃ (a : Addr) (v : V) (d : PyData) (q : Rat) (A B : List Rat) (st sh : Int) (xa xb : Addr), vs = [.ref a, v] ∧ RowAt K CP CW H a q A B st sh xa xb ∧ (A ≠ [] → Lw A) ∧ Dt K H v d ∧
  (fromD 0 d = false → RaisesN CN H (.str "k") v E) ∧ ∀ k : Nat, d = .int (k : Int) → k ≤ 1000 ∧ NaOk q A B k ∧ ∀ (r : Addr) (H' : Hp), Same H H' → TR H' r (nuR q A B k) → Q (.ref r) H'
theorem nu_zero {q : Rat} {A B : List Rat} (h : q = 0) : ∀ k, nuR q A B k = 0
  | 0 => h
  | k + 1 => by
    show nuR q A B k * _ = 0
    rw [nu_zero h k, Rat.zero_mul]
theorem nu_end {q : Rat} {A B : List Rat} {z : Nat} (h : ev A (z : Rat) = 0) : ∀ k, z < k → nuR q A B k = 0
  | k + 1, hk => by
    show nuR q A B k * (ev A ((k : Nat) : Rat) / _) = 0
    by_cases e : z = k
    · rw [← e, h, Rat.div_def, Rat.zero_mul, Rat.mul_zero]
    · rw [nu_end h k (by omega), Rat.zero_mul]
theorem RowAt.same {K : PySem.W.Frag} {CP CW : Addr} {H H' : Hp} {a : Addr} {q : Rat} {A B : List Rat} {st sh : Int} {xa xb : Addr} (h : RowAt K CP CW H a q A B st sh xa xb) (s : Same H H') : RowAt K CP CW H' a q A B st sh xa xb := by
  obtain ⟨dx, t, h1, h2, h3, h4⟩ := h
  exact ⟨dx, t, s _ _ h1, s _ _ h2, h3.same s, h4.same s⟩
theorem TR.dt {K : PySem.W.Frag} {H : Hp} {t : Addr} {q : Rat} (h : TR H t q) : Dt K H (.ref t) (pairD (Vf.pq q)) := .tup (SqT.of h) (.cons (.int _) (.cons (.int _) .nil))
theorem parts_pq (q : Rat) : partsD (pairD (pq q)) = some (pq q) := parts_pairD (by have := q.den_pos; show (0 : Int) < (q.den : Int); omega)
theorem no_parts {q : Rat} {A : Prop} (z : partsD (pairD (pq q)) = none) : A := by
  rw [parts_pq] at z
  cases z
section
variable {P : Program} {w : World} {K : PySem.W.Frag} {mg : Str → Option Value} {base : Heap} {CP CR CN CI CW : Addr}
abbrev sFol : Stmt := topS 67
theorem scFol : FnScope ["row", "number", "k"] ["row", "number", "k"] (defScope sFol) := ⟨rfl, rfl, rfl, by decide +kernel, rfl, by decide +kernel, by decide +kernel⟩
theorem ok_fol {f : Addr} {fd : FuncData} (F : Fun K "follower" "follower" sFol f fd) (C : PoC K mg CP) (RC : RwC K mg CW) (M_at : MeX P w K mg base CP "at" 5 ["self", "point"] (spAtI K CP)) (G_times : Dx P w K mg base "times" 4 ["one", "other"] (spTwo K CN (okLow gTimes))) (G_share : Dx P w K mg base "share" 4 ["one", "other"] (spTwo K CN (okShare CN))) : FnOk P w K mg base (L2.CX P w) 6 f fd ["row", "number", "k"] (spFol K CP CW) := by
  refine F.okX scFol (fun vs H Q E h => ?_) (fun cdv A0 outer s0 H vs Q E hr h => ?_)
  · obtain ⟨a, t, q0, q, A, B, st, sh, xa, xb, k, rfl, _⟩ := h
    rfl
  · obtain ⟨a, t, q0, q, A, B, st, sh, xa, xb, k, rfl, hR, tq, okA, okB, nB, sq, sA, sB, sAB, qq⟩ := h
    obtain ⟨dx, tt, h1, h2, pA, pB⟩ := hR
    refine ⟨_, (pss_one (ps_ret (pe_call G_times.ok (hr.mono (by decide)) rfl G_times.m G_times.kp G_times.b .nil passL (pa_cons (pv 1) (pa_cons (pe_call G_share.ok (hr.mono (by decide)) rfl G_share.m G_share.kp G_share.b .nil passL (pa_cons (pe_meth (pe_fld (pv 0) rfl) C.cl M_at.m M_at.ok (hr.mono (by decide)) M_at.b .nil passL (pa_cons (pv 2) pa_nil)) (pa_cons (pe_meth (pe_fld (pv 0) rfl) C.cl M_at.m M_at.ok (hr.mono (by decide)) M_at.b .nil passL (pa_cons (pv 2) pa_nil)) pa_nil))) pa_nil))))), ?_⟩
    have szn : ∀ {x : Rat}, Sr x → Sz x.num ∧ Sz (x.den : Int) := fun {x} h => ⟨h.1, by
      show ((x.den : Int)).natAbs < _
      rw [Int.natAbs_natCast]
      exact h.2⟩
    obtain ⟨dA, tA, aA, gA, _, _⟩ := id pA
    obtain ⟨dB, tB', aB, gB, _, _⟩ := id pB
    refine ⟨_, rfl, _, rfl, a, CW, dx, _, .ref xa, rfl, h1, RC.cl, RC.n2, (by kernel_rfl), xa, dA, _, rfl, gA, (by kernel_rfl), _, rfl, ?_⟩
    refine tnil_k ?_
    refine ⟨xa, k, A, rfl, pA, okA, fun r1 H1 s1 e1 => ?_⟩
    refine ⟨_, rfl, a, CW, dx, _, .ref xb, rfl, s1 _ _ h1, RC.cl, RC.n3, (by kernel_rfl), xb, dB, _, rfl, s1 _ _ gB, (by kernel_rfl), _, rfl, ?_⟩
    refine tnil_k ?_
    refine ⟨xb, k, B, rfl, pB.same s1, okB, fun r2 H2 s2 e2 => ?_⟩
    refine tnil_k ?_
    have e12 : TR H2 r1 (ev A (k : Rat)) := s2 _ _ e1
    have numA := num_of (ev A (k : Rat))
    have numB := num_of (ev B (k : Rat))
    obtain ⟨zA, zA'⟩ := szn sA
    obtain ⟨zB, zB'⟩ := szn sB
    have hpA := (ev A (k : Rat)).den_pos
    refine ⟨.ref r1, .ref r2, pairD (pq (ev A (k : Rat))), pairD (pq (ev B (k : Rat))), rfl, TR.dt e12, TR.dt e2, fun t' b x c g1 g2 => ?_, fun z => no_parts z, fun _ z => no_parts z⟩
    rw [parts_pq] at g1 g2
    cases g1
    cases g2
    have nBn : (ev B (k : Rat)).num ≠ 0 := fun y => nB (Rat.num_eq_zero.mp y)
    refine ⟨zA, zA', zB, zB', fun z => absurd z nBn, fun _ p H3 s3 e3 => ?_⟩
    have lo : low ((ev A (k : Rat)).num * ((ev B (k : Rat)).den : Int)) (((ev A (k : Rat)).den : Int) * (ev B (k : Rat)).num) = pq (ev A (k : Rat) / ev B (k : Rat)) := low_mul (Int.mul_ne_zero (by omega) nBn) (by
      rw [Rat.intCast_mul, Rat.intCast_mul, ← numA, ← numB]
      have := Rat.div_mul_cancel (a := ev A (k : Rat)) nB
      rw [show (((ev A (k : Rat)).den : Int) : Rat) = ((ev A (k : Rat)).den : Rat) from rfl, show (((ev B (k : Rat)).den : Int) : Rat) = ((ev B (k : Rat)).den : Rat) from rfl]
      generalize ((ev A (k : Rat)).den : Rat) = u at *
      generalize ((ev B (k : Rat)).den : Rat) = w at *
      generalize ev A (k : Rat) / ev B (k : Rat) = y at *
      rw [← this]
      grind)
    have e3 : H3 p = some (.tup [.int (low ((ev A (k : Rat)).num * ((ev B (k : Rat)).den : Int)) (((ev A (k : Rat)).den : Int) * (ev B (k : Rat)).num)).1, .int (low ((ev A (k : Rat)).num * ((ev B (k : Rat)).den : Int)) (((ev A (k : Rat)).den : Int) * (ev B (k : Rat)).num)).2]) := e3
    rw [lo] at e3
    have e3 : TR H3 p (ev A (k : Rat) / ev B (k : Rat)) := e3
    refine tnil_k ?_
    generalize ev A (k : Rat) / ev B (k : Rat) = y at *
    have s13 := s1.trans (s2.trans s3)
    have tq3 : TR H3 t q := s13 _ _ tq
    obtain ⟨zq, zq'⟩ := szn sq
    obtain ⟨zy, zy'⟩ := szn sAB
    have numQ := num_of q
    have numY := num_of y
    have hpq := q.den_pos
    have hpy := y.den_pos
    refine ⟨.ref t, .ref p, pairD (pq q), pairD (pq y), rfl, TR.dt tq3, TR.dt e3, fun t' b x c g1 g2 => ?_, fun z => no_parts z, fun _ z => no_parts z⟩
    rw [parts_pq] at g1 g2
    cases g1
    cases g2
    refine ⟨zq, zq', zy, zy', fun p' H4 s4 e4 => qq p' H4 (s13.trans s4) ?_⟩
    have lo2 : low (q.num * y.num) ((q.den : Int) * (y.den : Int)) = pq (q * y) := low_mul (Int.mul_ne_zero (by omega) (by omega)) (by
      rw [Rat.intCast_mul, Rat.intCast_mul, ← numQ, ← numY]
      rw [show ((q.den : Int) : Rat) = (q.den : Rat) from rfl, show ((y.den : Int) : Rat) = (y.den : Rat) from rfl]
      grind)
    have e4 : H4 p' = some (.tup [.int (low (q.num * y.num) ((q.den : Int) * (y.den : Int))).1, .int (low (q.num * y.num) ((q.den : Int) * (y.den : Int))).2]) := e4
    rw [lo2] at e4
    exact e4
abbrev sTerms : Stmt := topS 69
theorem scTerms : FnScope ["row", "zero"] ["row"] (defScope sTerms) := ⟨rfl, rfl, rfl, by decide +kernel, rfl, by decide +kernel, by decide +kernel⟩
theorem ok_terms {f : Addr} {fd : FuncData} (F : Fun K "terms_of" "terms_of" sTerms f fd) (RC : RwC K mg CW) (G_least_whole_zero : Dx P w K mg base "least_whole_zero" 10 ["poly"] (spLWZ K CP)) : FnOk P w K mg base (L2.CX P w) 11 f fd ["row"] (spTerms K CP CW) := by
  refine F.okX scTerms (fun vs H Q E h => ?_) (fun cdv A0 outer s0 H vs Q E hr h => ?_)
  · obtain ⟨a, q, A, B, st, sh, xa, xb, rfl, _⟩ := h
    rfl
  · obtain ⟨a, q, A, B, st, sh, xa, xb, rfl, hR, lw, qq⟩ := h
    obtain ⟨dx, tt, h1, h2, pA, pB⟩ := hR
    refine ⟨_, (pss_cons (ps_if (pt_cmpR op_eq (pe_ix (r := rIxT K) ix_tup (pe_fld (pv 0) rfl) pe_int (fun _ _ => rfl)) pe_int (nomark _))
    (pss_one (ps_ret pe_int))
    pss_nil)
  (pss_cons (ps_set (i := 1) scTerms.nd rfl (Or.inl rfl) (pe_call G_least_whole_zero.ok (hr.mono (by decide)) rfl G_least_whole_zero.m G_least_whole_zero.kp G_least_whole_zero.b .nil passL (pa_cons (pe_fld (pv 0) rfl) pa_nil)))
  (pss_one (ps_ret (pe_ifExp (pt_cmpR op_isN (pv 1) pe_non (nomark _)) pe_non (pe_op op_add (pv 1) pe_int)))))), ?_⟩
    refine ⟨_, rfl, a, CW, dx, _, .ref tt, rfl, h1, RC.cl, RC.n1, (by kernel_rfl), tt, _, _, .int q.num, rfl, rfl, SqT.of h2, at_of (j := 0) rfl rfl, ?_⟩
    dsimp only [tC]
    refine rEq_int (fun z => ?_) fun z => ?_
    · refine iteT ?_
      exact qq _ H (Same.refl _) (.inl ⟨Rat.num_eq_zero.mp z, rfl⟩)
    · have q0 : q ≠ 0 := fun y => z (by rw [y]; rfl)
      refine iteF ?_
      refine ⟨_, rfl, a, CW, dx, _, .ref xa, rfl, h1, RC.cl, RC.n2, (by kernel_rfl), ?_⟩
      refine tnil_k ?_
      refine ⟨xa, A, rfl, pA, lw, fun v H1 s1 hv => ?_⟩
      rcases hv with ⟨rfl, no⟩ | ⟨n, rfl, z0, z1⟩
      · refine ⟨_, rfl, rfl, _, rfl, ?_⟩
        refine iteT ?_
        exact qq _ H1 s1 (.inr (.inl ⟨q0, rfl, no⟩))
      · refine ⟨_, rfl, rfl, _, rfl, ?_⟩
        refine iteF ?_
        refine ⟨_, rfl, _, _, rfl, rfl, ?_⟩
        exact qq _ H1 s1 (.inr (.inr ⟨q0, n, by rw [Int.natCast_add]; rfl, z0, z1⟩))
abbrev sNA : Stmt := topS 68
theorem scNA : FnScope ["row", "k", "terms", "number", "place"] ["row", "k"] (defScope sNA) := ⟨rfl, rfl, rfl, by decide +kernel, rfl, by decide +kernel, by decide +kernel⟩
theorem ok_na {f : Addr} {fd : FuncData} (F : Fun K "number_at" "number_at" sNA f fd) (T : Bk mg) (RC : RwC K mg CW) (N_BadNumber : Ex P w K mg base "BadNumber" CN ["what", "number"]) (G_is_whole_from : Df P w K mg base "is_whole_from" 2 ["value", "least"] (spWF K)) (G_terms_of : Dx P w K mg base "terms_of" 11 ["row"] (spTerms K CP CW)) (G_follower : Dx P w K mg base "follower" 6 ["row", "number", "k"] (spFol K CP CW)) : FnOk P w K mg base (L2.CX P w) 12 f fd ["row", "k"] (spNA K CP CW CN) := by
  refine F.okX scNA (fun vs H Q E h => ?_) (fun cdv A0 outer s0 H vs Q E hr h => ?_)
  · obtain ⟨a, v, d, q, A, B, st, sh, xa, xb, rfl, _⟩ := h
    rfl
  · obtain ⟨a, v, d, q, A, B, st, sh, xa, xb, rfl, hR, lw, dv, er, qq⟩ := h
    refine ⟨_, (pss_cons (ps_if (pt_not (pt_val (pe_call G_is_whole_from.ok (hr.mono (by decide)) rfl G_is_whole_from.m G_is_whole_from.kp G_is_whole_from.b .nil pass0 (pa_cons (pv 1) (pa_cons pe_int pa_nil)))))
    (pss_one (ps_raise rfl (takes_of rfl rfl rfl rfl) (pmk_oex N_BadNumber.ox N_BadNumber.iC N_BadNumber.tI N_BadNumber.ok (hr.mono (by decide)) N_BadNumber.b .nil pass0 (by rfl) N_BadNumber.m (pa_cons pe_str (pa_cons (pv 1) pa_nil)))))
    pss_nil)
  (pss_cons (ps_set (i := 2) scNA.nd rfl (Or.inl rfl) (pe_call G_terms_of.ok (hr.mono (by decide)) rfl G_terms_of.m G_terms_of.kp G_terms_of.b .nil passL (pa_cons (pv 0) pa_nil)))
  (pss_cons (ps_if (PW.pt (pw_and (pt_cmpR op_notN (pv 2) pe_non (nomark _)) (pw_and1 (pt_cmpR op_ge (pv 1) (pv 2) (nomark _)))))
    (pss_one (ps_ret (pe_tup (pa_cons pe_int (pa_cons pe_int pa_nil)))))
    pss_nil)
  (pss_cons (ps_set (i := 3) scNA.nd rfl (Or.inl rfl) (pe_fld (pv 0) rfl))
  (pss_cons (ps_for (passes_of rfl) rfl (pi_range1 (by rfl) T.range (pa_cons (pv 1) pa_nil)) (pg_name (i := 4) scNA.nd rfl (Or.inl rfl))
    (pss_one (ps_set (i := 3) scNA.nd rfl (Or.inl rfl) (pe_call G_follower.ok (hr.mono (by decide)) rfl G_follower.m G_follower.kp G_follower.b .nil passL (pa_cons (pv 0) (pa_cons (pv 3) (pa_cons (pv 4) pa_nil)))))))
  (pss_one (ps_ret (pv 3)))))))), ?_⟩
    refine ⟨_, rfl, v, d, 0, rfl, dv, ?_⟩
    refine ⟨_, rfl, ?_⟩
    cases hd0 : fromD 0 d with
    | false =>
      refine iteT ?_
      refine ⟨_, rfl, (by show 2 ≤ 1000; decide), ?_⟩
      exact raise_end (C := CN) (names := ["what", "number"]) rfl fun dd H' s3 n e2 => (er hd0) dd H' s3 n e2
    | true =>
      refine iteF ?_
      obtain ⟨k, rfl⟩ : ∃ k : Nat, d = .int (k : Int) := by
        cases d with
        | int i =>
          have h0 : 0 ≤ i := of_decide_eq_true hd0
          exact ⟨i.toNat, congrArg PyData.int (by omega)⟩
        | _ => cases hd0
      cases dv
      obtain ⟨k1, ok, qq⟩ := qq k rfl
      refine ⟨_, rfl, ?_⟩
      refine tnil_k ?_
      refine ⟨a, q, A, B, st, sh, xa, xb, rfl, hR, lw, fun tm H1 s1 ht => ?_⟩
      have run : ∀ {tmv : V} , tSeq (tAsg (tFld (cxOf (L2.CX P w) P w K mg base ["row", "k", "terms", "number", "place"] "number_at" (defScope sNA) f cdv A0 outer s0 H E).K (tVar 0) "start") (gName 3)) (tSeq (tFor (iRng1 (tCons (tVar 1) tNil)) (gName 4) (tAsg (tCall (spFol K CP CW) [] E0 (tCons (tVar 0) (tCons (tVar 3) (tCons (tVar 4) tNil)))) (gName 3))) (tRet (tVar 3))) { nx := fun x H' => Q V.non H', rt := Q } [some (.ref a), some (.int (k : Int)), some tmv, none, none] H1 := fun {tmv} => by
        obtain ⟨dx, tt, h1, h2, pA, pB⟩ := hR.same s1
        refine ⟨_, rfl, a, CW, dx, _, .ref tt, rfl, h1, RC.cl, RC.n1, (by kernel_rfl), ?_⟩
        refine ⟨_, rfl, (k : Int), rfl, by omega, by omega, for_range (lo := 0) (n := ((k : Nat) : Int).toNat) (fun j σ H' => ∃ (tj : Addr) (v4 : Option V), σ = [some (.ref a), some (.int (k : Int)), some tmv, some (.ref tj), v4] ∧ Same H1 H' ∧ TR H' tj (nuR q A B j)) ⟨tt, none, rfl, Same.refl _, h2⟩ ?_ ?_⟩
        · rintro j σ H2 hj ⟨tj, v4, rfl, s2, tj2⟩
          obtain ⟨o1, o2, o3, o4, o5, o6, o7⟩ := ok j (by omega)
          refine ⟨_, rfl, _, rfl, _, rfl, ?_⟩
          refine tnil_k ?_
          refine ⟨a, tj, q, nuR q A B j, A, B, st, sh, xa, xb, (j : Int), by rw [Int.zero_add]; rfl, (hR.same s1).same s2, tj2, o1, o2, o3, o4, o5, o6, o7, fun r H3 s3 e3 => ?_⟩
          exact ⟨r, _, rfl, s2.trans s3, e3⟩
        · rintro σ H2 ⟨tj, v4, rfl, s2, tj2⟩
          rw [Int.toNat_natCast] at tj2
          exact ⟨_, rfl, qq tj H2 (s1.trans s2) tj2⟩
      rcases ht with ⟨rfl, rfl⟩ | ⟨q0, rfl, no⟩ | ⟨q0, z, rfl, z0, z1⟩
      · refine ⟨_, rfl, rfl, _, rfl, ?_⟩
        refine iteT ?_
        refine ⟨_, rfl, _, rfl, _, _, rfl, rfl, ?_⟩
        refine ⟨true, congrArg V.bl (decide_eq_true (by omega)), ?_⟩
        refine iteT ?_
        refine ⟨(by show 2 ≤ sizeLine; decide), fun r nr => ?_⟩
        have := nu_zero (q := 0) (A := A) (B := B) rfl k
        exact qq r _ (s1.trans (same_upd nr)) (by rw [this]; exact upd_same)
      · refine ⟨_, rfl, rfl, _, rfl, ?_⟩
        refine iteF ?_
        refine iteF ?_
        exact run
      · refine ⟨_, rfl, rfl, _, rfl, ?_⟩
        refine iteT ?_
        refine ⟨_, rfl, _, rfl, _, _, rfl, rfl, ?_⟩
        by_cases zk : z + 1 ≤ k
        · refine ⟨true, congrArg V.bl (decide_eq_true (by omega)), ?_⟩
          refine iteT ?_
          refine ⟨(by show 2 ≤ sizeLine; decide), fun r nr => ?_⟩
          have := nu_end (q := q) (A := A) (B := B) z0 k (by omega)
          exact qq r _ (s1.trans (same_upd nr)) (by rw [this]; exact upd_same)
        · refine ⟨false, congrArg V.bl (decide_eq_false (by omega)), ?_⟩
          refine iteF ?_
          exact run
end
end Vf
set_option maxRecDepth 100000
set_option maxHeartbeats 4000000
namespace Vf
open PySem PySem.Spec PyProof.Rows L2
inductive Some1 (X : Cx) (i : Nat) : List ExceptHandler → List (Value × (Addr → Value → Option Addr → TS)) → Prop
  | any (hds : List ExceptHandler) : Some1 X i hds []
  | cons {x n : Str} {c : Value} {ts : Addr → Value → Option Addr → TS} {b : Stmt} {bs : List Stmt} {p q : Pos} {hds : List ExceptHandler} {l : List (Value × (Addr → Value → Option Addr → TS))} (nm : Names X x c) (at_ : X.N[i]? = some n) (lo : X.env.kindOf n = some .local)
      (su : ∀ (a : Addr) (oe : Obj) (cls : Value) (d : Option Addr) (pn : List (Addr × Obj)), Zc cls d oe → (∃ vs, oe.data = .fields vs) → PSs (X.suite a ((a, oe) :: pn)) (b :: bs) (ts a cls d)) (t : Some1 X i hds l) :
      Some1 X i (.ExceptHandler (some (.Name x p)) (some n) (b :: bs) q :: hds) ((c, ts) :: l)
section
variable {X : Cx} {i : Nat} {body : List Stmt} {h1 : ExceptHandler} {hs : List ExceptHandler} {l : List (Value × (Addr → Value → Option Addr → TS))} {pos : Pos} {tb : WX → TS} {Wo : WX}
theorem ps_try_some (st : X.stack = X.env :: X.outer) (fr : X.env.frame = some X.env.locals) (nd : X.N.Nodup)
    (bd : ∀ (W : WX) (pn : List (Addr × Obj)) (xe : Value → Shared → Prop), Takes (X.tr pn xe) W → PassesOwn (model X.prog X.w) X.A X.env xe → PSs (X.tr pn xe) body (tb W)) (hd : Some1 X i (h1 :: hs) l) :
    PS X (.Try body (h1 :: hs) [] [] pos) (fun D σ H => tb (wEach X.K i (fun _ _ _ _ => False) D l) D σ H) := by
  refine ⟨fun pins s σ H D I h => wpAny_Try_except ?_⟩
  have ok := I.ok
  have A1 : X.A.frames = some (X.env :: X.outer) := ok.frames.trans (congrArg some st)
  have run := (bd (wEach X.K i (fun _ _ _ _ => False) D l) (X.pn ++ pins) (fun e s1 => wpAny (model X.prog X.w) X.A (noteFrame e X.env) (fun _ s2 => wpAny (model X.prog X.w) X.A (setFlight e none) (fun _ s3 => wpAny (model X.prog X.w) X.A (handleBy e X.env (h1 :: hs)) (SP X pins D) X.xe s3) X.xe s2) X.xe s1)
    (fun u s' xx => ?_) PassesOwn.looking).run [] s σ H D (I.toTry _) h
  · refine wpAny_mono run (fun f s1 z => ?_) fun e s1 z => z
    match f, z with
    | .next, ⟨σ', H', J, q⟩ => exact wpAny_execs_nil ⟨σ', H', J.ofTry ok, q⟩
    | .brk, ⟨σ', H', J, q⟩ => exact ⟨σ', H', J.ofTry ok, q⟩
    | .cont, ⟨σ', H', J, q⟩ => exact ⟨σ', H', J.ofTry ok, q⟩
    | .ret u, ⟨v, σ', H', J, r, q⟩ => exact ⟨v, σ', H', J.ofTry ok, r, q⟩
  · obtain ⟨a, B, sI, pins', σ1, H1, cls, d, ea, J', nb, up, sky, na, os, ag, w⟩ := xx
    subst ea
    have J : Inv X pins σ1 H1 sI := J'.ofTry ok
    rw [st] at sky
    show wpAny (model X.prog X.w) X.A (noteFrame (.ref a) X.env) _ _ _
    refine Sky.land Zc.steady A1 fr sky fun h3 fl up3 => ?_
    have J3 : Inv X pins σ1 H1 { s' with heap := h3 } := J.landed nb fl.1 (up.trans up3) os ag
    obtain ⟨oe, vs, he, hz, hdt⟩ := fl.there
    have out : a ∉ frs (X.env :: X.outer) := fun m => by
      obtain ⟨_, o2, e2, ne⟩ := fl.2.2.1.mem m
      rw [he] at e2
      cases e2
      exact ne _ hdt
    have notL : a ≠ X.env.locals := fun z => out (List.mem_filterMap.mpr ⟨X.env, List.mem_cons_self, by rw [fr, z]⟩)
    have notF : a ∉ X.fs := fun m => by
      obtain ⟨e, he, q⟩ := List.mem_filterMap.mp m
      exact out (List.mem_filterMap.mpr ⟨e, List.mem_cons_of_mem _ he, q⟩)
    have S3 := J3.suite he hdt na notL notF
    have ty : PySem.W.Looks (model X.prog X.w) h3 (typeOf (.ref a)) cls := fun A Q E s k q => wpAny_typeOf_ref (k _ _ he) (by rw [hz.1]; exact q)
    have each : ∀ (hs2 : List ExceptHandler) (l2 : List (Value × (Addr → Value → Option Addr → TS))), Some1 X i hs2 l2 → wEach X.K i (fun _ _ _ _ => False) D l2 cls d σ1 H1 → wpAny (model X.prog X.w) X.A (handleBy (.ref a) X.env hs2) (SP X pins D) X.xe { s' with heap := h3 } := by
      intro hs2 l2 hk
      induction hk with
      | any hds =>
        intro wo
        exact False.elim wo
      | @cons x n c ts b bs p q hds l3 nm at_ lo su t ih =>
        intro wo
        obtain ⟨k, hk, yes, no⟩ := wo
        refine wpAny_handleBy_cons (codeAny_handlers_test ?_) (by intro q; cases q)
        have LM := PySem.W.exm_one (M := model X.prog X.w) (J3.kIn) ty hk
        have see : ∀ {Q : Value → Shared → Prop} {E : Value → Shared → Prop}, Q c { s' with heap := h3 } → wpAny (model X.prog X.w) (X.A.mark (some (.ref a))) (eval (.Name x p) X.env) Q E { s' with heap := h3 } := by
          intro Q E q
          obtain ⟨g1, g2, g3 | ⟨g3, g4, g5⟩⟩ := nm
          · exact ld_glob (X := X.suite a ((a, oe) :: (X.pn ++ pins))) S3 g1 g3 q g2
          · exact ld_blt (X := X.suite a ((a, oe) :: (X.pn ++ pins))) S3 g1 g3 g4 q g5 g2
        refine see (LM.here ?_)
        cases k with
        | false =>
          show wpAny _ X.A (handleBy (.ref a) X.env hds) _ _ _
          exact ih (no rfl)
        | true =>
          refine codeAny_handlers_suite_as (HandSPX.lands_againZ fl fun h4 fl4 up4 => ?_)
          have J4 : Inv X pins σ1 H1 { s' with heap := h4 } := J.landed nb fl4.1 ((up.trans up3).trans up4) os ag
          obtain ⟨o4, v4, e4, z4, d4⟩ := fl4.there
          have S4 := J4.suite e4 d4 na notL notF
          refine store_ok (X := X.suite a ((a, o4) :: (X.pn ++ pins))) (v := .ref a) S4 nd at_ (.inl lo) rfl (fun s5 S5 => ?_) (.inr lo)
          refine wpAny_mono ((su a o4 cls d (X.pn ++ pins) z4 ⟨_, d4⟩).run [] s5 _ H1 _ S5 (yes rfl a na)) (fun f s6 z => ?_) (fun _ _ z => False.elim z)
          have away : ∀ {σ6 : L2.St} {H6 : Hp} {Q : Shared → Prop}, Inv (X.suite a ((a, o4) :: (X.pn ++ pins))) [] σ6 H6 s6 → (∀ s7, Inv X pins (σ6.set i none) H6 s7 → Q s7) →
              wpAny (model X.prog X.w) X.A (do bindName X.env n .none; unbindBehindTheSuite X.env n q) (fun _ s7 => Q s7) X.xe s6 := fun S6 g => gone_ok (S6.unsuite ok) nd at_ lo g
          match f, z with
          | .next, ⟨σ6, H6, S6, g⟩ => exact away S6 fun s7 J7 => ⟨_, _, J7, g⟩
          | .brk, ⟨σ6, H6, S6, g⟩ => exact away S6 fun s7 J7 => ⟨_, _, J7, g⟩
          | .cont, ⟨σ6, H6, S6, g⟩ => exact away S6 fun s7 J7 => ⟨_, _, J7, g⟩
          | .ret u, ⟨v6, σ6, H6, S6, r6, g⟩ => exact away S6 fun s7 J7 => ⟨_, _, _, J7, r6, g⟩
    exact each _ _ hd w
end
end Vf
set_option maxRecDepth 100000
set_option maxHeartbeats 8000000
namespace Vf
open PySem PySem.Spec PyProof.Rows L2
open LamX (ExtN Tabs TabS)
theorem takes_len {X : Cx} {W : WX} (tk : Takes X W) : Takes X (fun cls d σ H => σ.length = X.N.length → W cls d σ H) := fun u s' z => by
  obtain ⟨a, B, sI, pins, σ, H, cls, d, e, J, nb, up, sky, na, os, ag, w⟩ := z
  exact tk u s' ⟨a, B, sI, pins, σ, H, cls, d, e, J, nb, up, sky, na, os, ag, w J.len⟩
def FaultE (C : Nat → Addr) (Q : VK) : XK := fun cls d H =>
  cls = .ref (C 1) ∧ ∃ (dd : Addr) (wh : Str) (v : V), d = some dd ∧ H dd = some (.xd (fl ["what", "number"] [.str wh, v])) ∧ ∀ (t : Addr) (H' : Hp), Same H H' → H' t = some (.tup [.str "number", .str wh, v]) → Q (.ref t) H'
def TFault (C : Nat → Addr) : (XK → Hp → VK → Prop) → Hp → VK → Prop := fun tl H Q => ∀ (H1 : Hp) (k : VK), Same H H1 → tl (FaultE C Q) H1 k
structure W19 (K : PySem.W.Frag) (mg : Str → Option Value) (C : Nat → Addr) : Prop where
  mI : mg "BadInterval" = some (.ref (C 0))
  mN : mg "BadNumber" = some (.ref (C 1))
  xf0 : XfC K (C 0)
  xf1 : XfC K (C 1)
  ex10 : PySem.W.exmOne K (.ref (C 1)) (.ref (C 0)) = some false
  ex11 : PySem.W.exmOne K (.ref (C 1)) (.ref (C 1)) = some true
  nrL : PySem.W.findIn K (.ref (C 0)) "low" = some none
  nrH : PySem.W.findIn K (.ref (C 0)) "high" = some none
  nrW : PySem.W.findIn K (.ref (C 1)) "what" = some none
  nrN : PySem.W.findIn K (.ref (C 1)) "number" = some none
abbrev sWhy : Stmt := topS 86
theorem scWhy : FnScope ["_law_call", "_law_found", "error"] ["_law_call"] (defScope sWhy) := ⟨rfl, rfl, rfl, by decide +kernel, rfl, by decide +kernel, by decide +kernel⟩
theorem why_gives {X : Cx} {q : Str} {g : Addr} {cdg : Value} {C : Nat → Addr} (T : W19 X.K X.mg C) :
    LamX.GivesTo X ["_law_call", "_law_found", "error"] "_law_fault" (defScope sWhy) g cdg (defBody sWhy) "_law_call" q (TFault C) := by
  intro f c' s H Q tl act hc h
  refine ⟨_, pss_cons (ps_set (i := 1) scWhy.nd rfl (Or.inl rfl) (pe_tup (pa_cons pe_str pa_nil)))
    (pss_cons (ps_try_some (X := (cxOf C8.CX0 X.prog X.w X.K X.mg X.base ["_law_call", "_law_found", "error"] "_law_fault" (defScope sWhy) g cdg X.A X.stack s H C8.E0).nox) (i := 2)
      (l := [(.ref (C 0), _), (.ref (C 1), _)])
      (tb := fun W D σ H => ∃ Ech : XK, (∀ cls d σ' H', Ech cls d H' → σ'.length = 3 → W cls d σ' H') ∧ σ[0]? = some (some (.ref f)) ∧ H c' = some (LamX.CodeO c' q) ∧ tl Ech H fun _ H' => D.nx σ H')
      rfl rfl scWhy.nd (fun W pn xe tk _ => ?_)
      (.cons ⟨rfl, by decide, .inl T.mI⟩ rfl rfl (fun a oe cls d pn hz hf => pss_one (ps_set (i := 1) scWhy.nd rfl (Or.inl rfl) (pe_tup (pa_cons pe_str (pa_cons (pe_xf T.xf0 T.nrL hz hf (pv 2)) (pa_cons (pe_xf T.xf0 T.nrH hz hf (pv 2)) pa_nil))))))
      (.cons ⟨rfl, by decide, .inl T.mN⟩ rfl rfl (fun a oe cls d pn hz hf => pss_one (ps_set (i := 1) scWhy.nd rfl (Or.inl rfl) (pe_tup (pa_cons pe_str (pa_cons (pe_xf T.xf1 T.nrW hz hf (pv 2)) (pa_cons (pe_xf T.xf1 T.nrN hz hf (pv 2)) pa_nil)))))) (.any _))))
    (pss_one (ps_ret (pv 1)))), ?_⟩
  · refine ⟨fun pins s' σ H' D I h' => ?_⟩
    obtain ⟨Ech, hW, h1, h2, h3⟩ := h'
    exact (pss_one (ps_expr (act _ pn xe Ech _ _ (takes_len tk) (fun cls d σ' H' z len => hW cls d σ' H' z len)))).run pins s' σ H' D I ⟨h1, h2, h3⟩
  · refine ⟨(by show 1 ≤ sizeLine; decide), fun t0 n0 => ?_⟩
    have s1 : Same H (upd H t0 (HO.tup [V.str "none"])) := same_upd n0
    refine ⟨FaultE C Q, fun cls d σ' H' z len => ?_, rfl, s1 _ _ hc, ?_⟩
    · obtain ⟨x0, x1, x2, rfl⟩ : ∃ x0 x1 x2, σ' = [x0, x1, x2] := by
        match σ', len with
        | [x0, x1, x2], _ => exact ⟨x0, x1, x2, rfl⟩
      obtain ⟨rfl, dd, wh, v, rfl, hdd, k⟩ := z
      refine ⟨false, T.ex10, (fun z => nomatch z), fun _ => ⟨true, T.ex11, fun _ a na => ?_, fun z => nomatch z⟩⟩
      refine ⟨.ref a, rfl, rfl, rfl, dd, _, .str wh, rfl, hdd, (by kernel_rfl), .ref a, rfl, rfl, rfl, dd, _, v, rfl, hdd, (by kernel_rfl), (by show 3 ≤ sizeLine; decide), fun t nt => ?_⟩
      exact ⟨_, rfl, k t _ (same_upd nt) upd_same⟩
    · exact h _ _ s1
structure Yf (K : PySem.W.Frag) (mg : Str → Option Value) where
  g : Addr
  kV : Value
  doc : Value
  pm : Value
  an : Option Addr
  cdv : Value
  ct : Value
  oc : Value
  od : Option Addr
  osl : Array (Option Value)
  m : mg "_law_fault" = some (.ref g)
  kp : PySem.W.keepIn K (.ref g) = true
  lk : K.lookup g = some ⟨oc, od, .func (PySem.W.fnOf "_law_fault" "_law_fault" (defArgs sWhy) (defBody sWhy) (defScope sWhy) .none kV doc pm an cdv ct), osl⟩
  hc : PySem.W.codeIn K cdv "_law_fault" = true
  b : L2.Binds K (PySem.W.fnOf "_law_fault" "_law_fault" (defArgs sWhy) (defBody sWhy) (defScope sWhy) .none kV doc pm an cdv ct) ["_law_call"] []
end Vf
set_option maxRecDepth 100000
set_option maxHeartbeats 8000000
namespace Vf
open PySem PySem.Spec PyProof.Rows L2
section
variable {P : Program} {w : World} {K : PySem.W.Frag} {mg : Str → Option Value} {base : Heap} {CP CR CN : Addr}
abbrev sLShare : Stmt := topS 79
theorem scLShare : FnScope ["_law_one", "_law_two"] ["_law_one", "_law_two"] (defScope sLShare) := ⟨rfl, rfl, rfl, by decide +kernel, rfl, by decide +kernel, by decide +kernel⟩
theorem ok_lshare {f : Addr} {fd : FuncData} (F : Fun K "_law_share" "_law_share" sLShare f fd) (G__law_q : Df P w K mg base "_law_q" 2 ["_law_top", "_law_bottom"] spQ) : FnOk P w K mg base CX0 3 f fd ["_law_one", "_law_two"] spLSh := by
  refine F.ok scLShare (fun vs H Q E h => ?_) (fun cdv A outer s H vs Q E hr h => ?_)
  · obtain ⟨r1, r2, a, b, rfl, _⟩ := h
    rfl
  · obtain ⟨r1, r2, a, b, rfl, h1, h2, za, zb, b0, q⟩ := h
    refine ⟨_, (pss_one (ps_ret (pe_call G__law_q.ok (hr.mono (by decide)) rfl G__law_q.m G__law_q.kp G__law_q.b .nil pass0 (pa_cons (pe_op op_mulW (pe_ix ix_tup (pv 0) pe_int (fun _ _ => rfl)) (pe_ix ix_tup (pv 1) pe_int (fun _ _ => rfl))) (pa_cons (pe_op op_mulW (pe_ix ix_tup (pv 0) pe_int (fun _ _ => rfl)) (pe_ix ix_tup (pv 1) pe_int (fun _ _ => rfl))) pa_nil))))), ?_⟩
    obtain ⟨el, e0⟩ := low_share (a := a) b0
    refine ⟨_, rfl, r1, _, _, .int a.num, rfl, rfl, SqT.of h1, at_of (j := 0) rfl rfl, _, rfl, r2, _, _, .int b.den, rfl, rfl, SqT.of h2, at_of (j := 1) rfl rfl, _, _, rfl, rfl, big_mulW za.n zb.d, ?_⟩
    refine ⟨_, rfl, r1, _, _, .int a.den, rfl, rfl, SqT.of h1, at_of (j := 1) rfl rfl, _, rfl, r2, _, _, .int b.num, rfl, rfl, SqT.of h2, at_of (j := 0) rfl rfl, _, _, rfl, rfl, big_mulW za.d zb.n, ?_⟩
    refine ⟨_, _, rfl, e0, sr_prod za.1 (by rw [Int.natAbs_natCast]; exact zb.2), sr_prod (by rw [Int.natAbs_natCast]; exact za.2) zb.1, fun r H' ss nr er => ?_⟩
    rw [el] at er
    exact q r H' ss nr er
abbrev sLMinus : Stmt := topS 77
theorem scLMinus : FnScope ["_law_one", "_law_two"] ["_law_one", "_law_two"] (defScope sLMinus) := ⟨rfl, rfl, rfl, by decide +kernel, rfl, by decide +kernel, by decide +kernel⟩
theorem ok_lminus {f : Addr} {fd : FuncData} (F : Fun K "_law_minus" "_law_minus" sLMinus f fd) (G__law_q : Df P w K mg base "_law_q" 2 ["_law_top", "_law_bottom"] spQ) : FnOk P w K mg base CX0 3 f fd ["_law_one", "_law_two"] (spL2 rSub) := by
  refine F.ok scLMinus (fun vs H Q E h => ?_) (fun cdv A outer s H vs Q E hr h => ?_)
  · obtain ⟨r1, r2, a, b, rfl, _⟩ := h
    rfl
  · obtain ⟨r1, r2, a, b, rfl, h1, h2, za, zb, q⟩ := h
    refine ⟨_, (pss_one (ps_ret (pe_call G__law_q.ok (hr.mono (by decide)) rfl G__law_q.m G__law_q.kp G__law_q.b .nil pass0 (pa_cons (pe_op op_sub (pe_op op_mulW (pe_ix ix_tup (pv 0) pe_int (fun _ _ => rfl)) (pe_ix ix_tup (pv 1) pe_int (fun _ _ => rfl))) (pe_op op_mulW (pe_ix ix_tup (pv 1) pe_int (fun _ _ => rfl)) (pe_ix ix_tup (pv 0) pe_int (fun _ _ => rfl)))) (pa_cons (pe_op op_mulW (pe_ix ix_tup (pv 0) pe_int (fun _ _ => rfl)) (pe_ix ix_tup (pv 1) pe_int (fun _ _ => rfl))) pa_nil))))), ?_⟩
    obtain ⟨s1, s2, s3⟩ := sr_sum za (sr_neg' zb)
    rw [Rat.neg_num, Rat.neg_den, Int.neg_mul, ← Int.sub_eq_add_neg] at s1
    rw [Rat.neg_den] at s2
    refine ⟨_, rfl, r1, _, _, .int a.num, rfl, rfl, SqT.of h1, at_of (j := 0) rfl rfl, _, rfl, r2, _, _, .int b.den, rfl, rfl, SqT.of h2, at_of (j := 1) rfl rfl, _, _, rfl, rfl, big_mulW za.n zb.d, ?_⟩
    refine ⟨_, rfl, r2, _, _, .int b.num, rfl, rfl, SqT.of h2, at_of (j := 0) rfl rfl, _, rfl, r1, _, _, .int a.den, rfl, rfl, SqT.of h1, at_of (j := 1) rfl rfl, _, _, rfl, rfl, big_mulW zb.n za.d, ?_⟩
    refine ⟨_, _, rfl, rfl, ?_⟩
    refine ⟨_, rfl, r1, _, _, .int a.den, rfl, rfl, SqT.of h1, at_of (j := 1) rfl rfl, _, rfl, r2, _, _, .int b.den, rfl, rfl, SqT.of h2, at_of (j := 1) rfl rfl, _, _, rfl, rfl, big_mulW za.d zb.d, ?_⟩
    refine ⟨_, _, rfl, den_ne a b, s1, s2, fun r H' ss nr er => ?_⟩
    rw [low_sub] at er
    exact q r H' ss nr er
end
end Vf
set_option maxRecDepth 100000
set_option maxHeartbeats 8000000
namespace Vf
open PySem PySem.Spec PyProof.Rows L2
/-- the product of the places' rows -/
def pl : List Rat → List Rat
  | [] => [1]
  | q :: r => pmul (lin q) (pl r)
theorem ev_pl_snoc (x q : Rat) : ∀ l : List Rat, ev (pl (l ++ [q])) x = ev (pl l) x * (x - q)
  | [] => by
    show ev (pmul (lin q) [1]) x = (1 + x * 0) * (x - q)
    rw [ev_pmul, ev_lin]
    show (x - q) * (1 + x * 0) = _
    grind
  | a :: l => by
    show ev (pmul (lin a) (pl (l ++ [q]))) x = ev (pmul (lin a) (pl l)) x * (x - q)
    rw [ev_pmul, ev_pmul, ev_pl_snoc x q l]
    grind
def dp : List Rat → Nat
  | [] => 1
  | q :: r => q.den * dp r
def wp : List Rat → Nat
  | [] => 1
  | q :: r => wt q * wp r
theorem pl_fr : ∀ (l : List Rat) (i : Nat), Fr (dp l) (wp l) (cf (pl l) i)
  | [], i => fr_unit i
  | q :: r, i => lin_fr (pl_fr r) q i
theorem dp_pos : ∀ l, 0 < dp l
  | [] => Nat.one_pos
  | q :: r => Nat.mul_pos q.den_pos (dp_pos r)
theorem wt_pos (q : Rat) : 0 < wt q := Nat.lt_of_lt_of_le q.den_pos (den_wt q)
theorem wp_pos : ∀ l, 0 < wp l
  | [] => Nat.one_pos
  | q :: r => Nat.mul_pos (wt_pos q) (wp_pos r)
theorem dp_le {B : Nat} : ∀ l : List Rat, (∀ q ∈ l, q.den ≤ B) → dp l ≤ B ^ l.length
  | [], _ => Nat.le_refl _
  | q :: r, h => by
    have ih := dp_le r fun q hq => h q (List.mem_cons_of_mem _ hq)
    show q.den * dp r ≤ B ^ (r.length + 1)
    rw [Nat.pow_succ, Nat.mul_comm]
    exact Nat.mul_le_mul ih (h q (List.mem_cons_self ..))
theorem wp_le {B : Nat} : ∀ l : List Rat, (∀ q ∈ l, wt q ≤ B) → wp l ≤ B ^ l.length
  | [], _ => Nat.le_refl _
  | q :: r, h => by
    have ih := wp_le r fun q hq => h q (List.mem_cons_of_mem _ hq)
    show wt q * wp r ≤ B ^ (r.length + 1)
    rw [Nat.pow_succ, Nat.mul_comm]
    exact Nat.mul_le_mul ih (h q (List.mem_cons_self ..))
theorem lin_sz (q : Rat) : ∀ i, Fr q.den (wt q) (cf (lin q) i)
  | 0 => ⟨-q.num, by
      show -q * (q.den : Rat) = _
      rw [Rat.intCast_neg, ← num_of q]
      grind, by rw [Int.natAbs_neg]; exact Nat.le_add_right _ _⟩
  | 1 => ⟨(q.den : Int), by
      show (1 : Rat) * (q.den : Rat) = ((q.den : Int) : Rat)
      rw [Rat.one_mul]
      rfl, by rw [Int.natAbs_natCast]; exact den_wt q⟩
  | i + 2 => by rw [cf_ge (by show 2 ≤ i + 2; omega)]; exact Fr.zero _ _
theorem plc_sz {l : List Rat} (h : ∀ q ∈ l, q ∈ Plc) (hl : l.length ≤ 4) : dp l ≤ 81 ∧ wp l ≤ 2 ^ 120 := by
  refine ⟨Nat.le_trans (dp_le l fun q hq => (plc_wt q (h q hq)).2.2) (Nat.le_trans (Nat.pow_le_pow_right (by decide) hl) (by decide)), ?_⟩
  refine Nat.le_trans (wp_le (B := 2 ^ 30) l fun q hq => Nat.le_trans (plc_wt q (h q hq)).1 (by decide)) ?_
  rw [← Nat.pow_mul]
  exact Nat.pow_le_pow_right (by decide) (by omega)
theorem plc_sr {q : Rat} (h : q ∈ Plc) : Sr q := by
  have h1 := (plc_wt q h).1
  have h2 : wt q < 2 ^ 4300 := Nat.lt_of_le_of_lt (Nat.le_trans h1 (show 22222223 * 45 ≤ 2 ^ 30 by decide)) (Nat.pow_lt_pow_right (by decide) (by decide))
  exact ⟨Nat.lt_of_le_of_lt (Nat.le_add_right _ _) h2, Nat.lt_of_le_of_lt (den_wt q) h2⟩
def spPlaces : Sp := fun vs H Q _ => ∃ (p lc : Addr) (B : Int) (many : Int) (hw : Bool), vs = [.ref p, .int many, .bl hw] ∧ Pen H p lc B ∧ B ≤ 100000 ∧ 1 ≤ many ∧ many ≤ 4 ∧
  ∀ (l : Addr) (qs : List Rat) (H' : Hp), Pen H' p lc (B + 100) → Kp p H H' → RL H' l qs → (qs.length : Int) ≤ many → (∀ q ∈ qs, q ∈ Plc ∧ q ≠ 44 ∧ q ≠ 3) → (hw = false → ∀ q ∈ qs, wt q ≤ 19 ∧ ∀ z : Nat, q ≠ (z : Rat)) → Q (.ref l) H'
def spFactors : Sp := fun vs H Q _ => ∃ (p lc lz : Addr) (B : Int) (qs : List Rat), vs = [.ref p, .ref lz] ∧ Pen H p lc B ∧ B ≤ 100000 ∧ RL H lz qs ∧ qs.length ≤ 4 ∧ (∀ q ∈ qs, q ∈ Plc) ∧
  ∀ (l : Addr) (F : List Rat) (c : Rat) (H' : Hp), Pen H' p lc (B + 100) → Kp p H H' → RL H' l F → Stp F → c ≠ 0 → Fr 5 15 c → (∀ x, ev F x = c * ev (pl qs) x) → Q (.ref l) H'
theorem tr_of {H : Hp} {t : Addr} {x y : Int} (e : H t = some (.tup [.int x, .int y])) {q : Rat} (h : q.num = x ∧ (q.den : Int) = y) : TR H t q := by
  unfold TR
  rw [e, h.1, h.2]
section
variable {P : Program} {w : World} {K : PySem.W.Frag} {mg : Str → Option Value} {base : Heap} {CP CR CN CI CW : Addr}
abbrev sPlaces : Stmt := topS 90
theorem scPlaces : FnScope ["_law_pen_here", "_law_many", "_law_has_whole", "_law_found", "_law_lap", "_law_place"] ["_law_pen_here", "_law_many", "_law_has_whole"] (defScope sPlaces) := ⟨rfl, rfl, rfl, by decide +kernel, rfl, by decide +kernel, by decide +kernel⟩
theorem ok_places {f : Addr} {fd : FuncData} (F : Fun K "_law_places" "_law_places" sPlaces f fd) (T : Bk mg) (G__law_draw : Df P w K mg base "_law_draw" 1 ["_law_pen_here", "_law_many"] spDraw) (G__law_pick : Df P w K mg base "_law_pick" 2 ["_law_pen_here", "_law_some"] spPick) : FnOk P w K mg base CX0 3 f fd ["_law_pen_here", "_law_many", "_law_has_whole"] spPlaces := by
  refine F.ok scPlaces (fun vs H Q E h => ?_) (fun cdv A outer s H vs Q E hr h => ?_)
  · obtain ⟨p, lc, B, many, hw, rfl, _⟩ := h
    rfl
  · obtain ⟨p, lc, B, many, hw, rfl, hP, hB, m1, m4, q⟩ := h
    refine ⟨_, (pss_cons (ps_set (i := 3) scPlaces.nd rfl (Or.inl rfl) (pe_lst pa_nil))
  (pss_cons (ps_for PassesOwn.never rfl (pi_range1 (by rfl) T.range (pa_cons (pe_call G__law_draw.ok (hr.mono (by decide)) rfl G__law_draw.m G__law_draw.kp G__law_draw.b .nil pass0 (pa_cons (pv 0) (pa_cons (pe_op op_add (pv 1) pe_int) pa_nil))) pa_nil)) (pg_name (i := 4) scPlaces.nd rfl (Or.inl rfl))
    (pss_cons (ps_set (i := 5) scPlaces.nd rfl (Or.inl rfl) (pe_call G__law_pick.ok (hr.mono (by decide)) rfl G__law_pick.m G__law_pick.kp G__law_pick.b .nil pass0 (pa_cons (pv 0) (pa_cons (pe_lst (pa_cons (pe_tup (pa_cons (pe_op op_sub (pe_un un_neg pe_int) (pe_call G__law_draw.ok (hr.mono (by decide)) rfl G__law_draw.m G__law_draw.kp G__law_draw.b .nil pass0 (pa_cons (pv 0) (pa_cons pe_int pa_nil)))) (pa_cons pe_int pa_nil))) (pa_cons (pe_tup (pa_cons (pe_op op_add (pe_op op_mulW pe_int (pe_call G__law_draw.ok (hr.mono (by decide)) rfl G__law_draw.m G__law_draw.kp G__law_draw.b .nil pass0 (pa_cons (pv 0) (pa_cons pe_int pa_nil)))) pe_int) (pa_cons pe_int pa_nil))) (pa_cons (pe_tup (pa_cons (pe_un un_neg pe_int) (pa_cons pe_int pa_nil))) pa_nil)))) pa_nil))))
    (pss_cons (ps_if (PW.pt (pw_and (pt_val (pv 2)) (pw_and1 (pt_cmpR op_eq (pe_call G__law_draw.ok (hr.mono (by decide)) rfl G__law_draw.m G__law_draw.kp G__law_draw.b .nil pass0 (pa_cons (pv 0) (pa_cons pe_int pa_nil))) pe_int (nomark _)))))
      (pss_one (ps_set (i := 5) scPlaces.nd rfl (Or.inl rfl) (pe_tup (pa_cons (pe_call G__law_pick.ok (hr.mono (by decide)) rfl G__law_pick.m G__law_pick.kp G__law_pick.b .nil pass0 (pa_cons (pv 0) (pa_cons (pe_lst (pa_cons pe_int (pa_cons pe_int (pa_cons pe_int (pa_cons pe_int (pa_cons pe_int (pa_cons pe_int (pa_cons (pe_op op_pow pe_int pe_int) pa_nil)))))))) pa_nil))) (pa_cons pe_int pa_nil)))))
      pss_nil)
    (pss_one (ps_expr (pe_bm PySem.F.plainAttrs_list PySem.F.slot_list_append PySem.F.type_list_append mt_append (pv 3) (pa_cons (pv 5) pa_nil)))))))
  (pss_one (ps_ret (pv 3))))), ?_⟩
    refine ⟨(by show 0 ≤ sizeLine; decide), fun lf nlf => ?_⟩
    have elf : RL (upd H lf (HO.lst [])) lf [] := ⟨[], upd_same, .nil⟩
    have s1 : Same H (upd H lf (HO.lst [])) := same_upd nlf
    obtain ⟨lfp, lfc⟩ := hP.ne_new nlf
    have lfree : ∀ b o, H b = some o → b ≠ lf := fun b o e => ne_of_none e nlf
    generalize upd H lf (HO.lst []) = H1 at elf s1 ⊢
    have hP1 := hP.same s1
    refine ⟨_, rfl, _, rfl, _, _, rfl, rfl, ?_⟩
    refine tnil_k ?_
    refine ⟨p, lc, B, many + 1, rfl, hP1, by omega, by omega, by omega, fun w H2 w0 w1 hP2 k2 => ?_⟩
    refine ⟨w, rfl, by omega, by omega, for_range (lo := 0) (n := w.toNat) (fun i σ H' => ∃ (v4 v5 : Option V) (qs : List Rat), σ = [some (.ref p), some (.int many), some (.bl hw), some (.ref lf), v4, v5] ∧ (∀ b o, b ≠ p → H b = some o → H' b = some o) ∧ Pen H' p lc (B + 1 + 5 * (i : Int)) ∧ RL H' lf qs ∧ qs.length = i ∧ (∀ q ∈ qs, q ∈ Plc ∧ q ≠ 44 ∧ q ≠ 3) ∧ (hw = false → ∀ q ∈ qs, wt q ≤ 19 ∧ ∀ z : Nat, q ≠ (z : Rat)))
      ⟨none, none, [], rfl, fun b o nb e => k2 b o nb (s1 _ _ e), hP2.more (by omega), elf.kp hP1 k2, rfl, fun q hq => absurd hq List.not_mem_nil, fun _ q hq => absurd hq List.not_mem_nil⟩ ?_ ?_⟩
    · rintro i σ H3 hi ⟨v4, v5, qs, rfl, k3, hP3, rl3, lq, gq, hq⟩
      have i4 : (i : Int) ≤ 3 := by omega
      refine ⟨_, rfl, _, rfl, _, rfl, p, lc, _, 9, rfl, hP3, by omega, by decide, by decide, fun d1 H4 d10 d11 hP4 k4 => ⟨_, _, rfl, rfl, (by show 2 ≤ sizeLine; decide), fun t1 nt1 => ?_⟩⟩
      have et1 : upd H4 t1 (HO.tup [V.int (-1 - d1), V.int 1]) t1 = some (HO.tup [V.int (-1 - d1), V.int 1]) := upd_same
      have s4 : Same H4 (upd H4 t1 (HO.tup [V.int (-1 - d1), V.int 1])) := same_upd nt1
      generalize upd H4 t1 (HO.tup [V.int (-1 - d1), V.int 1]) = H5 at et1 s4 ⊢
      have hP5 := hP4.same s4
      refine ⟨_, rfl, p, lc, _, 9, rfl, hP5, by omega, by decide, by decide, fun d2 H6 d20 d21 hP6 k6 => ⟨_, _, rfl, rfl, wide_mul (a := 10) (b := 10) (by decide) (by omega) (by decide) (by decide) (by decide), _, _, rfl, rfl, (by show 2 ≤ sizeLine; decide), fun t2 nt2 => ?_⟩⟩
      have et2 : upd H6 t2 (HO.tup [V.int (2 * d2 + 1), V.int 2]) t2 = some (HO.tup [V.int (2 * d2 + 1), V.int 2]) := upd_same
      have s6 : Same H6 (upd H6 t2 (HO.tup [V.int (2 * d2 + 1), V.int 2])) := same_upd nt2
      generalize upd H6 t2 (HO.tup [V.int (2 * d2 + 1), V.int 2]) = H7 at et2 s6 ⊢
      refine ⟨_, rfl, (by show 2 ≤ sizeLine; decide), fun t3 nt3 => ?_⟩
      have et3 : upd H7 t3 (HO.tup [V.int (-7), V.int 3]) t3 = some (HO.tup [V.int (-7), V.int 3]) := upd_same
      have s7 : Same H7 (upd H7 t3 (HO.tup [V.int (-7), V.int 3])) := same_upd nt3
      generalize upd H7 t3 (HO.tup [V.int (-7), V.int 3]) = H8 at et3 s7 ⊢
      refine ⟨(by show 3 ≤ sizeLine; decide), fun lp nlp => ?_⟩
      have elp : upd H8 lp (HO.lst [V.ref t1, V.ref t2, V.ref t3]) lp = some (HO.lst [V.ref t1, V.ref t2, V.ref t3]) := upd_same
      have s8 : Same H8 (upd H8 lp (HO.lst [V.ref t1, V.ref t2, V.ref t3])) := same_upd nlp
      have s68 := s6.trans s7
      have lpp := ((hP6.same s68).ne_new nlp).1
      generalize upd H8 lp (HO.lst [V.ref t1, V.ref t2, V.ref t3]) = H9 at elp s8 ⊢
      have hP9 := hP6.same (s68.trans s8)
      refine tnil_k ?_
      refine ⟨p, lc, lp, _, _, rfl, hP9, by omega, elp, lpp, by show 0 < 3; decide, by show 3 < 1000000; decide, fun x H10 hx hP10 k10 => ?_⟩
      have kt : ∀ b o, b ≠ p → H6 b = some o → H10 b = some o := fun b o nb e => k10 b o nb ((s68.trans s8) _ _ e)
      have kk : ∀ b o, b ≠ p → H3 b = some o → H10 b = some o := fun b o nb e => kt b o nb (k6 b o nb (s4 _ _ (k4 b o nb e)))
      have tup_p : ∀ {G : Hp} {B' : Int} {t : Addr} {xs : List V}, Pen G p lc B' → G t = some (HO.tup xs) → t ≠ p := fun {G B' t xs} hG e => by
        obtain ⟨_, _, _, _, _, g1, _⟩ := hG
        exact ne_of e g1.1 (by intro z; cases z)
      obtain ⟨xa, qn, rfl, tx, gx, hx2⟩ : ∃ (xa : Addr) (qn : Rat), x = .ref xa ∧ TR H10 xa qn ∧ (qn ∈ Plc ∧ qn ≠ 44 ∧ qn ≠ 3) ∧ (wt qn ≤ 19 ∧ ∀ z : Nat, qn ≠ (z : Rat)) := by
        have dn : ∀ {qn : Rat}, (qn.num < 0 ∨ qn.den ≠ 1) → ∀ z : Nat, qn ≠ (z : Rat) := fun {qn} h z e => by
          rw [e, Rat.num_natCast, Rat.den_natCast] at h
          omega
        simp only [List.mem_cons, List.not_mem_nil, or_false] at hx
        rcases hx with h | h | h
        · have e := kt t1 _ (tup_p hP5 et1) (k6 t1 _ (tup_p hP5 et1) et1)
          have hd : d1 = 0 ∨ d1 = 1 ∨ d1 = 2 ∨ d1 = 3 ∨ d1 = 4 ∨ d1 = 5 ∨ d1 = 6 ∨ d1 = 7 ∨ d1 = 8 := by omega
          rcases hd with y | y | y | y | y | y | y | y | y <;> subst y
          · exact ⟨t1, -1, h, tr_of e (by decide +kernel), by decide +kernel, by decide +kernel, dn (by decide +kernel)⟩
          · exact ⟨t1, -2, h, tr_of e (by decide +kernel), by decide +kernel, by decide +kernel, dn (by decide +kernel)⟩
          · exact ⟨t1, -3, h, tr_of e (by decide +kernel), by decide +kernel, by decide +kernel, dn (by decide +kernel)⟩
          · exact ⟨t1, -4, h, tr_of e (by decide +kernel), by decide +kernel, by decide +kernel, dn (by decide +kernel)⟩
          · exact ⟨t1, -5, h, tr_of e (by decide +kernel), by decide +kernel, by decide +kernel, dn (by decide +kernel)⟩
          · exact ⟨t1, -6, h, tr_of e (by decide +kernel), by decide +kernel, by decide +kernel, dn (by decide +kernel)⟩
          · exact ⟨t1, -7, h, tr_of e (by decide +kernel), by decide +kernel, by decide +kernel, dn (by decide +kernel)⟩
          · exact ⟨t1, -8, h, tr_of e (by decide +kernel), by decide +kernel, by decide +kernel, dn (by decide +kernel)⟩
          · exact ⟨t1, -9, h, tr_of e (by decide +kernel), by decide +kernel, by decide +kernel, dn (by decide +kernel)⟩
        · have hP7 := hP6.same s6
          have e := k10 t2 _ (tup_p hP7 et2) (s8 _ _ (s7 _ _ et2))
          have hd : d2 = 0 ∨ d2 = 1 ∨ d2 = 2 ∨ d2 = 3 ∨ d2 = 4 ∨ d2 = 5 ∨ d2 = 6 ∨ d2 = 7 ∨ d2 = 8 := by omega
          rcases hd with y | y | y | y | y | y | y | y | y <;> subst y
          · exact ⟨t2, 1 / 2, h, tr_of e (by decide +kernel), by decide +kernel, by decide +kernel, dn (by decide +kernel)⟩
          · exact ⟨t2, 3 / 2, h, tr_of e (by decide +kernel), by decide +kernel, by decide +kernel, dn (by decide +kernel)⟩
          · exact ⟨t2, 5 / 2, h, tr_of e (by decide +kernel), by decide +kernel, by decide +kernel, dn (by decide +kernel)⟩
          · exact ⟨t2, 7 / 2, h, tr_of e (by decide +kernel), by decide +kernel, by decide +kernel, dn (by decide +kernel)⟩
          · exact ⟨t2, 9 / 2, h, tr_of e (by decide +kernel), by decide +kernel, by decide +kernel, dn (by decide +kernel)⟩
          · exact ⟨t2, 11 / 2, h, tr_of e (by decide +kernel), by decide +kernel, by decide +kernel, dn (by decide +kernel)⟩
          · exact ⟨t2, 13 / 2, h, tr_of e (by decide +kernel), by decide +kernel, by decide +kernel, dn (by decide +kernel)⟩
          · exact ⟨t2, 15 / 2, h, tr_of e (by decide +kernel), by decide +kernel, by decide +kernel, dn (by decide +kernel)⟩
          · exact ⟨t2, 17 / 2, h, tr_of e (by decide +kernel), by decide +kernel, by decide +kernel, dn (by decide +kernel)⟩
        · have hP8 := hP6.same s68
          have e := k10 t3 _ (tup_p hP8 et3) (s8 _ _ et3)
          exact ⟨t3, -7 / 3, h, tr_of e (by decide +kernel), by decide +kernel, by decide +kernel, dn (by decide +kernel)⟩
      clear hx et1 et2 et3 elp
      -- the row is put behind
      dsimp only [gName]
      refine seq_step (fun σ' H' => ∃ (xa : Addr) (qn : Rat), σ' = [some (.ref p), some (.int many), some (.bl hw), some (.ref lf), some (.int (0 + (i : Int))), some (.ref xa)] ∧ (∀ b o, b ≠ p → H3 b = some o → H' b = some o) ∧ Pen H' p lc (B + 1 + 5 * (i : Int) + 5) ∧ TR H' xa qn ∧ (qn ∈ Plc ∧ qn ≠ 44 ∧ qn ≠ 3) ∧ (hw = false → wt qn ≤ 19 ∧ ∀ z : Nat, qn ≠ (z : Rat))) (fun k hk => ?_) (fun σ' H' ⟨xa, qn, e1, e2, e3, e4, e5, e6⟩ => ?_)
      · refine ⟨_, rfl, _, rfl, ?_⟩
        cases hw with
        | false =>
          refine iteF ?_
          refine iteF ?_
          dsimp only [tNext]
          exact hk _ _ ⟨xa, qn, rfl, kk, hP10.more (by omega), tx, gx, fun _ => hx2⟩
        | true =>
          refine iteT ?_
          refine ⟨_, rfl, p, lc, _, 2, rfl, hP10, by omega, by decide, by decide, fun d H11 d0 d1' hP11 k11 => ?_⟩
          dsimp only [tC]
          have kk11 : ∀ b o, b ≠ p → H3 b = some o → H11 b = some o := fun b o nb e => k11 b o nb (kk b o nb e)
          refine rEq_int (fun z => ?_) fun z => ?_
          · refine iteT ?_
            refine ⟨_, rfl, _, _, rfl, rfl, ⟨by decide, by decide, by decide⟩, (by show 7 ≤ sizeLine; decide), fun lq nlq => ?_⟩
            rw [show (fun i j : Int => V.int (i ^ j.toNat)) 10 9 = V.int 1000000000 from rfl]
            have elq : upd H11 lq (HO.lst [V.int 0, V.int 1, V.int 2, V.int 5, V.int 17, V.int 1000, V.int 1000000000]) lq = some (HO.lst [V.int 0, V.int 1, V.int 2, V.int 5, V.int 17, V.int 1000, V.int 1000000000]) := upd_same
            have s11 : Same H11 (upd H11 lq (HO.lst [V.int 0, V.int 1, V.int 2, V.int 5, V.int 17, V.int 1000, V.int 1000000000])) := same_upd nlq
            have lqp := (hP11.ne_new nlq).1
            generalize upd H11 lq (HO.lst [V.int 0, V.int 1, V.int 2, V.int 5, V.int 17, V.int 1000, V.int 1000000000]) = Hq at elq s11 ⊢
            refine tnil_k ?_
            refine ⟨p, lc, lq, _, _, rfl, hP11.same s11, by omega, elq, lqp, by show 0 < 7; decide, by show 7 < 1000000; decide, fun x H12 hx hP12 k12 => ?_⟩
            obtain ⟨n, rfl, hn⟩ : ∃ n : Int, x = .int n ∧ (n = 0 ∨ n = 1 ∨ n = 2 ∨ n = 5 ∨ n = 17 ∨ n = 1000 ∨ n = 1000000000) := by
              simp only [List.mem_cons, List.not_mem_nil, or_false] at hx
              rcases hx with h | h | h | h | h | h | h
              · exact ⟨0, h, by omega⟩
              · exact ⟨1, h, by omega⟩
              · exact ⟨2, h, by omega⟩
              · exact ⟨5, h, by omega⟩
              · exact ⟨17, h, by omega⟩
              · exact ⟨1000, h, by omega⟩
              · exact ⟨1000000000, h, by omega⟩
            refine ⟨(by show 2 ≤ sizeLine; decide), fun t4 nt4 => ?_⟩
            have et4 : upd H12 t4 (HO.tup [V.int n, V.int 1]) t4 = some (HO.tup [V.int n, V.int 1]) := upd_same
            have s12 : Same H12 (upd H12 t4 (HO.tup [V.int n, V.int 1])) := same_upd nt4
            generalize upd H12 t4 (HO.tup [V.int n, V.int 1]) = H13 at et4 s12 ⊢
            have k13 : ∀ b o, b ≠ p → H3 b = some o → H13 b = some o := fun b o nb e => s12 _ _ (k12 b o nb (s11 _ _ (kk11 b o nb e)))
            have hP13 := (hP12.same s12).more (B' := B + 1 + 5 * (i : Int) + 5) (by omega)
            rcases hn with y | y | y | y | y | y | y <;> subst y
            · exact hk _ _ ⟨t4, 0, rfl, k13, hP13, tr_of et4 (by decide +kernel), by decide +kernel, fun y => by cases y⟩
            · exact hk _ _ ⟨t4, 1, rfl, k13, hP13, tr_of et4 (by decide +kernel), by decide +kernel, fun y => by cases y⟩
            · exact hk _ _ ⟨t4, 2, rfl, k13, hP13, tr_of et4 (by decide +kernel), by decide +kernel, fun y => by cases y⟩
            · exact hk _ _ ⟨t4, 5, rfl, k13, hP13, tr_of et4 (by decide +kernel), by decide +kernel, fun y => by cases y⟩
            · exact hk _ _ ⟨t4, 17, rfl, k13, hP13, tr_of et4 (by decide +kernel), by decide +kernel, fun y => by cases y⟩
            · exact hk _ _ ⟨t4, 1000, rfl, k13, hP13, tr_of et4 (by decide +kernel), by decide +kernel, fun y => by cases y⟩
            · exact hk _ _ ⟨t4, 1000000000, rfl, k13, hP13, tr_of et4 (by decide +kernel), by decide +kernel, fun y => by cases y⟩
          · refine iteF ?_
            dsimp only [tNext]
            exact hk _ _ ⟨xa, qn, rfl, kk11, hP11.more (by omega), tx.kp hP10 k11, gx, fun _ => hx2⟩
      · subst e1
        have rl4 : RL H' lf qs := by
          obtain ⟨as, h1, h2⟩ := rl3
          obtain ⟨_, _, _, _, _, g1, _⟩ := id hP3
          exact ⟨as, e2 _ _ lfp h1, h2.imp fun c z y => e2 _ _ (ne_of y g1.1 (by intro z; cases z)) y⟩
        obtain ⟨as, h1, h2⟩ := rl4
        have al := h2.lenQ
        refine ⟨_, rfl, .inl ⟨rfl, _, SqL.of h1⟩, _, rfl, ?_⟩
        refine tnil_k ?_
        refine ⟨lf, _, _, rfl, rfl, h1, by rw [List.length_map, sizeLine_eq]; omega, ?_⟩
        have aw : ∀ c u, c ≠ lf → H' c = some u → upd H' lf (HO.lst (as.map V.ref ++ [V.ref xa])) c = some u := fun c u h1 h2 => upd_away c u h1 h2
        have tk : ∀ {c : Addr} {z : Int × Int}, H' c = some (.tup [.int z.1, .int z.2]) → upd H' lf (HO.lst (as.map V.ref ++ [V.ref xa])) c = some (.tup [.int z.1, .int z.2]) := fun {c z} y => aw c _ (ne_of y h1 (by intro z; cases z)) y
        refine ⟨_, _, qs ++ [qn], rfl, fun b o nb e => aw b o (lfree b o e) (e2 b o nb (k3 b o nb e)), (e3.put aw lfp lfc).more (by omega), ⟨as ++ [xa], by rw [upd_same, List.map_append]; rfl, (h2.imp fun c z y => tk y).snocQ (tk (z := (qn.num, (qn.den : Int))) e4)⟩, by rw [List.length_append, lq]; rfl, fun y hy => ?_, fun hf y hy => ?_⟩
        · rcases List.mem_append.mp hy with z | z
          · exact gq y z
          · rw [List.mem_singleton.mp z]
            exact e5
        · rcases List.mem_append.mp hy with z | z
          · exact hq hf y z
          · rw [List.mem_singleton.mp z]
            exact e6 hf
    · rintro σ H3 ⟨v4, v5, qs, rfl, k3, hP3, rl3, lq, gq, hq⟩
      refine ⟨_, rfl, ?_⟩
      exact q lf qs H3 (hP3.more (by omega)) (fun b o nb e => k3 b o nb e) rl3 (by omega) gq hq
abbrev sFactors : Stmt := topS 89
theorem scFactors : FnScope ["_law_pen_here", "_law_zeros", "_law_found", "_law_place"] ["_law_pen_here", "_law_zeros"] (defScope sFactors) := ⟨rfl, rfl, rfl, by decide +kernel, rfl, by decide +kernel, by decide +kernel⟩
theorem ok_factors {f : Addr} {fd : FuncData} (F : Fun K "_law_factors" "_law_factors" sFactors f fd) (T : Bk mg) (G__law_pick : Df P w K mg base "_law_pick" 2 ["_law_pen_here", "_law_some"] spPick) (G__law_minus : Df P w K mg base "_law_minus" 3 ["_law_one", "_law_two"] (spL2 rSub)) (G__law_p_times : Df P w K mg base "_law_p_times" 4 ["_law_one", "_law_two"] spLPT) : FnOk P w K mg base CX0 5 f fd ["_law_pen_here", "_law_zeros"] spFactors := by
  refine F.ok scFactors (fun vs H Q E h => ?_) (fun cdv A outer s H vs Q E hr h => ?_)
  · obtain ⟨p, lc, lz, B, qs, rfl, _⟩ := h
    rfl
  · obtain ⟨p, lc, lz, B, qs, rfl, hP, hB, rz, l4, hq, q⟩ := h
    refine ⟨_, (pss_cons (ps_set (i := 2) scFactors.nd rfl (Or.inl rfl) (pe_lst (pa_cons (pe_call G__law_pick.ok (hr.mono (by decide)) rfl G__law_pick.m G__law_pick.kp G__law_pick.b .nil pass0 (pa_cons (pv 0) (pa_cons (pe_lst (pa_cons (pe_tup (pa_cons pe_int (pa_cons pe_int pa_nil))) (pa_cons (pe_tup (pa_cons (pe_un un_neg pe_int) (pa_cons pe_int pa_nil))) (pa_cons (pe_tup (pa_cons pe_int (pa_cons pe_int pa_nil))) pa_nil)))) pa_nil))) pa_nil)))
  (pss_cons (ps_for PassesOwn.never rfl (pi_seq (pv 1)) (pg_name (i := 3) scFactors.nd rfl (Or.inl rfl))
    (pss_one (ps_set (i := 2) scFactors.nd rfl (Or.inl rfl) (pe_call G__law_p_times.ok (hr.mono (by decide)) rfl G__law_p_times.m G__law_p_times.kp G__law_p_times.b .nil pass0 (pa_cons (pv 2) (pa_cons (pe_lst (pa_cons (pe_call G__law_minus.ok (hr.mono (by decide)) rfl G__law_minus.m G__law_minus.kp G__law_minus.b .nil pass0 (pa_cons (pe_tup (pa_cons pe_int (pa_cons pe_int pa_nil))) (pa_cons (pv 3) pa_nil))) (pa_cons (pe_tup (pa_cons pe_int (pa_cons pe_int pa_nil))) pa_nil))) pa_nil))))))
  (pss_one (ps_ret (pv 2))))), ?_⟩
    refine ⟨_, rfl, (by show 2 ≤ sizeLine; decide), fun t1 nt1 => ?_⟩
    have et1 : TR (upd H t1 (HO.tup [V.int 1, V.int 1])) t1 1 := upd_same
    have s1 : Same H (upd H t1 (HO.tup [V.int 1, V.int 1])) := same_upd nt1
    generalize upd H t1 (HO.tup [V.int 1, V.int 1]) = H1 at et1 s1 ⊢
    refine ⟨_, rfl, (by show 2 ≤ sizeLine; decide), fun t2 nt2 => ?_⟩
    have et2 : TR (upd H1 t2 (HO.tup [V.int (-3), V.int 1])) t2 (-3) := tr_of upd_same (by decide +kernel)
    have s2 : Same H1 (upd H1 t2 (HO.tup [V.int (-3), V.int 1])) := same_upd nt2
    generalize upd H1 t2 (HO.tup [V.int (-3), V.int 1]) = H2 at et2 s2 ⊢
    refine ⟨(by show 2 ≤ sizeLine; decide), fun t3 nt3 => ?_⟩
    have et3 : TR (upd H2 t3 (HO.tup [V.int 2, V.int 5])) t3 ((2 : Rat) / 5) := tr_of upd_same (by decide +kernel)
    have s3 : Same H2 (upd H2 t3 (HO.tup [V.int 2, V.int 5])) := same_upd nt3
    generalize upd H2 t3 (HO.tup [V.int 2, V.int 5]) = H3 at et3 s3 ⊢
    refine ⟨(by show 3 ≤ sizeLine; decide), fun lp nlp => ?_⟩
    have elp : upd H3 lp (HO.lst [V.ref t1, V.ref t2, V.ref t3]) lp = some (HO.lst [V.ref t1, V.ref t2, V.ref t3]) := upd_same
    have s4 : Same H3 (upd H3 lp (HO.lst [V.ref t1, V.ref t2, V.ref t3])) := same_upd nlp
    have s13 := s1.trans (s2.trans s3)
    have lpp := ((hP.same s13).ne_new nlp).1
    generalize upd H3 lp (HO.lst [V.ref t1, V.ref t2, V.ref t3]) = H4 at elp s4 ⊢
    have hP4 := hP.same (s13.trans s4)
    refine tnil_k ?_
    refine ⟨p, lc, lp, _, _, rfl, hP4, by omega, elp, lpp, by show 0 < 3; decide, by show 3 < 1000000; decide, fun x H5 hx hP5 k5 => ?_⟩
    obtain ⟨xa, c, rfl, tx, c0, fc⟩ : ∃ (xa : Addr) (c : Rat), x = .ref xa ∧ TR H5 xa c ∧ c ≠ 0 ∧ Fr 5 15 c := by
      simp only [List.mem_cons, List.not_mem_nil, or_false] at hx
      rcases hx with h | h | h
      · exact ⟨_, _, h, TR.kp (s4 _ _ (s3 _ _ (s2 _ _ et1))) hP4 k5, by decide +kernel, 5, by decide +kernel, by decide⟩
      · exact ⟨_, _, h, TR.kp (s4 _ _ (s3 _ _ et2)) hP4 k5, by decide +kernel, -15, by decide +kernel, by decide⟩
      · exact ⟨_, _, h, TR.kp (s4 _ _ et3) hP4 k5, by decide +kernel, 2, by decide +kernel, by decide⟩
    have rz5 := (rz.same (s13.trans s4)).kp hP4 k5
    have kk : Kp p H H5 := (Kp.of (s13.trans s4)).trans k5
    refine tnil_k ?_
    refine ⟨(by show 1 ≤ sizeLine; decide), fun lf nlf => ?_⟩
    have rf : RL (upd H5 lf (HO.lst [V.ref xa])) lf [c] := ⟨[xa], upd_same, .cons ((same_upd nlf) _ _ tx) .nil⟩
    have s6 : Same H5 (upd H5 lf (HO.lst [V.ref xa])) := same_upd nlf
    generalize upd H5 lf (HO.lst [V.ref xa]) = H6 at rf s6 ⊢
    obtain ⟨zas, ez, tz⟩ := rz5.same s6
    have zl := tz.lenQ
    have hP6 := hP5.same s6
    refine ⟨_, rfl, lz, rfl, .inl ⟨_, SqL.of ez, for_list (K := K) (a := lz) (xs := zas.map V.ref) (fun i σ H' => ∃ (l : Addr) (F : List Rat) (v3 : Option V), σ = [some (.ref p), some (.ref lz), some (.ref l), v3] ∧ Same H6 H' ∧ RL H' l F ∧ Stp F ∧ ∀ x, ev F x = c * ev (pl (qs.take i)) x)
      ⟨lf, [c], none, rfl, Same.refl _, rf, ?_, fun x => ?_⟩ (fun i σ H' _ ⟨_, _, _, _, ss, _⟩ => SqL.of (ss _ _ ez)) ?_ ?_⟩⟩
    · intro r y e
      have := (List.append_inj' (s₁ := []) (t₁ := [c]) e rfl).2
      cases this
      exact c0
    · rw [List.take_zero]
      show c + x * 0 = c * (1 + x * 0)
      grind
    · rintro i y σ H7 hi ⟨l, F, v3, rfl, s7, rF, sF, eF⟩
      rw [List.getElem?_map] at hi
      obtain ⟨b, hb, rfl⟩ := Option.map_eq_some_iff.mp hi
      obtain ⟨qn, hqn, tq⟩ := tz.atQ hb
      have tq7 : TR H7 b qn := s7 _ _ tq
      have pq' := hq qn (List.mem_of_getElem? hqn)
      have hi' := (List.getElem?_eq_some_iff.mp hqn).1
      have htk : ∀ z ∈ qs.take i, z ∈ Plc := fun z hz => hq z (List.mem_of_mem_take hz)
      have ltk : (qs.take i).length ≤ 3 := by rw [List.length_take]; omega
      obtain ⟨d81, w120⟩ := plc_sz htk (by omega)
      obtain ⟨q1, _, q3⟩ := plc_wt qn pq'
      refine ⟨_, rfl, (by show 2 ≤ sizeLine; decide), fun z0 nz0 => ?_⟩
      have ez0 : TR (upd H7 z0 (HO.tup [V.int 0, V.int 1])) z0 0 := upd_same
      have s8 : Same H7 (upd H7 z0 (HO.tup [V.int 0, V.int 1])) := same_upd nz0
      generalize upd H7 z0 (HO.tup [V.int 0, V.int 1]) = H8 at ez0 s8 ⊢
      refine ⟨_, rfl, ?_⟩
      refine tnil_k ?_
      refine ⟨z0, b, 0, qn, rfl, ez0, s8 _ _ tq7, ⟨Nat.pow_pos (by decide), Nat.one_lt_pow (by decide) (by decide)⟩, plc_sr pq', fun r H9 s9 nr tr => ?_⟩
      refine ⟨(by show 2 ≤ sizeLine; decide), fun o no => ?_⟩
      have eo : TR (upd H9 o (HO.tup [V.int 1, V.int 1])) o 1 := upd_same
      have s10 : Same H9 (upd H9 o (HO.tup [V.int 1, V.int 1])) := same_upd no
      generalize upd H9 o (HO.tup [V.int 1, V.int 1]) = H10 at eo s10 ⊢
      refine ⟨(by show 2 ≤ sizeLine; decide), fun lb nlb => ?_⟩
      have tr' : TR H10 r (-qn) := by
        have h := s10 _ _ tr
        have e : rSub 0 qn = -qn := by show 0 - qn = -qn; grind
        rw [e] at h
        exact h
      have rb : RL (upd H10 lb (HO.lst [V.ref r, V.ref o])) lb (lin qn) := ⟨[r, o], upd_same, .cons ((same_upd nlb) _ _ tr') (.cons ((same_upd nlb) _ _ eo) .nil)⟩
      have s11 : Same H10 (upd H10 lb (HO.lst [V.ref r, V.ref o])) := same_upd nlb
      generalize upd H10 lb (HO.lst [V.ref r, V.ref o]) = H11 at rb s11 ⊢
      refine tnil_k ?_
      have s711 := s8.trans (s9.trans (s10.trans s11))
      have fF : ∀ j, Fr (dp (qs.take i) * 5) (wp (qs.take i) * 15) (cf F j) := fun j => by
        have e : cf F j = cf (pscale (pl (qs.take i)) c) j := cf_of (fun x => by rw [eF, ev_pscale]; grind) j
        rw [e, cf_psc]
        exact (pl_fr _ j).mul fc
      have lF : F.length ≤ 40 := by
        have h1 := stp_len (b := pscale (pl (qs.take i)) c) sF (cf_of fun x => by rw [eF, ev_pscale]; grind)
        have h2 : ∀ l : List Rat, (pl l).length ≤ l.length + 1 := fun l => by
          induction l with
          | nil => exact Nat.le_refl _
          | cons a r ih =>
            have := pmul_le (lin a) (pl r)
            rw [show (lin a).length = 2 from rfl] at this
            show (pmul (lin a) (pl r)).length ≤ r.length + 1 + 1
            omega
        have h3 := h2 (qs.take i)
        rw [psc_len] at h1
        omega
      have upb : ∀ {n : Nat}, n < 4300 → (2 : Nat) ^ n < 2 ^ 4300 := fun h => Nat.pow_lt_pow_right (by decide) h
      refine ⟨l, lb, F, lin qn, dp (qs.take i) * 5, wp (qs.take i) * 15, qn.den, wt qn, rfl, rF.same s711, rb, lF, by show 2 ≤ 40; decide, Nat.mul_pos (dp_pos _) (by decide), qn.den_pos, Nat.mul_pos (wp_pos _) (by decide), wt_pos qn, fF, lin_sz qn, ?_, ?_, fun l' H12 s12 n12 r12 => ?_⟩
      · exact Nat.lt_of_le_of_lt (Nat.mul_le_mul (Nat.mul_le_mul_right 5 d81) q3) (Nat.lt_of_lt_of_le (show 81 * 5 * 3 < 2 ^ 11 by decide) (Nat.le_of_lt (upb (by decide))))
      · refine Nat.lt_of_le_of_lt (Nat.mul_le_mul (show 41 ≤ 2 ^ 6 by decide) (Nat.mul_le_mul (Nat.mul_le_mul w120 (show 15 ≤ 2 ^ 4 by decide)) (Nat.le_trans q1 (show 22222223 * 45 ≤ 2 ^ 30 by decide)))) ?_
        rw [← Nat.pow_add, ← Nat.pow_add, ← Nat.pow_add]
        exact upb (by decide)
      · refine ⟨l', _, _, rfl, s7.trans (s711.trans s12), r12, stripQ_stp _, fun x => ?_⟩
        rw [ev_stripQ, ev_pmul, eF, ev_lin, List.take_add_one, hqn]
        show _ = c * ev (pl (qs.take i ++ [qn])) x
        rw [ev_pl_snoc]
        grind
    · rintro σ H7 ⟨l, F, v3, rfl, s7, rF, sF, eF⟩
      rw [List.length_map, zl, List.take_length] at eF
      refine ⟨_, rfl, ?_⟩
      exact q l F c H7 ((hP6.same s7).more (by omega)) (kk.trans (Kp.of (s6.trans s7))) rF sF c0 fc eF
end
end Vf
set_option maxRecDepth 100000
set_option maxHeartbeats 8000000
namespace Vf
open PySem PySem.Spec PyProof.Rows L2
theorem hor_ev' (x : Rat) : ∀ A : List Rat, hor x A = ev A x
  | [] => rfl
  | a :: r => by
    show hor x r * x + a = a + x * ev r x
    rw [hor_ev' x r]
    grind
structure RoM (P : Program) (w : World) (K : PySem.W.Frag) (mg : Str → Option Value) (base : Heap) (CP CW CN : Addr) where
  C : RwC K mg CW
  fI : Addr
  dI : FuncData
  mkI : Mk K CW fI
  bI : Binds K dI ["self", "start", "top", "bottom", "step", "shift"] []
  okI : FnOk P w K mg base (L2.CX P w) 11 fI dI ["self", "start", "top", "bottom", "step", "shift"] (spRowI K CP CW CN)
def DRow (H : Hp) (d t lt lb : Addr) (st sh : Int) : Prop := H d = some (.dK [(Sum.inr "start", .ref t), (Sum.inr "top", .ref lt), (Sum.inr "bottom", .ref lb), (Sum.inr "step", .int st), (Sum.inr "shift", .int sh)])
theorem DRow.g1 {H : Hp} {d t lt lb : Addr} {st sh : Int} (h : DRow H d t lt lb st sh) : DGet H d (.str "start") (some (.ref t)) := DGet.k (k := Sum.inr "start") h
theorem DRow.g2 {H : Hp} {d t lt lb : Addr} {st sh : Int} (h : DRow H d t lt lb st sh) : DGet H d (.str "top") (some (.ref lt)) := DGet.k (k := Sum.inr "top") h
theorem DRow.g3 {H : Hp} {d t lt lb : Addr} {st sh : Int} (h : DRow H d t lt lb st sh) : DGet H d (.str "bottom") (some (.ref lb)) := DGet.k (k := Sum.inr "bottom") h
theorem DRow.g4 {H : Hp} {d t lt lb : Addr} {st sh : Int} (h : DRow H d t lt lb st sh) : DGet H d (.str "step") (some (.int st)) := DGet.k (k := Sum.inr "step") h
theorem DRow.g5 {H : Hp} {d t lt lb : Addr} {st sh : Int} (h : DRow H d t lt lb st sh) : DGet H d (.str "shift") (some (.int sh)) := DGet.k (k := Sum.inr "shift") h
structure PlyOk (A : List Rat) : Prop where
  l : A.length ≤ 13
  s : Stp A
  r : ∀ i, RatOk (pq (cf A i))
def spMR (K : PySem.W.Frag) (CP CW : Addr) : Sp := fun vs H Q _ => ∃ (p lc d t lt lb : Addr) (B : Int) (q : Rat) (A C : List Rat) (st sh : Int), vs = [.ref p, .ref d] ∧ Pen H p lc B ∧ B ≤ 100000 ∧ d ≠ p ∧ DRow H d t lt lb st sh ∧ TR H t q ∧ RatOk (pq q) ∧ RL H lt A ∧ RL H lb C ∧ PlyOk A ∧ PlyOk C ∧ 1 ≤ st ∧ 0 ≤ sh ∧ (C ≠ [] → Lw C) ∧ (∀ z : Nat, ev C (z : Rat) ≠ 0) ∧
  ∀ (x xa xb : Addr) (H' : Hp), Pen H' p lc (B + 300) → Kp p H H' → RowAt K CP CW H' x q A C st sh xa xb → Q (.ref x) H'
def spRN : Sp := fun vs H Q _ => ∃ (d t lt lb : Addr) (q : Rat) (A C : List Rat) (st sh : Int) (n : Nat), vs = [.ref d, .int (n : Int)] ∧ DRow H d t lt lb st sh ∧ TR H t q ∧ RL H lt A ∧ RL H lb C ∧ n ≤ 100 ∧ NaOk q A C n ∧
  (∀ j : Nat, j < n → ∃ M N M' N' W : Nat, (∀ i, Fr M N (cf A i)) ∧ (∀ i, Fr M' N' (cf C i)) ∧ 0 < M ∧ 0 < M' ∧ 1 ≤ W ∧ j ≤ W ∧ M * W ^ (A.length + 1) < 2 ^ 4300 ∧ N * ((A.length + 1) * W ^ (A.length + 1)) < 2 ^ 4300 ∧ M' * W ^ (C.length + 1) < 2 ^ 4300 ∧ N' * ((C.length + 1) * W ^ (C.length + 1)) < 2 ^ 4300) ∧
  ∀ (l : Addr) (as : List Addr) (H' : Hp), Same H H' → H' l = some (.lst (as.map V.ref)) → as.length = n → (∀ j a, as[j]? = some a → TR H' a (nuR q A C j)) → Q (.ref l) H'
section
variable {P : Program} {w : World} {K : PySem.W.Frag} {mg : Str → Option Value} {base : Heap} {CP CR CN CI CW : Addr}
abbrev sMR : Stmt := topS 87
theorem scMR : FnScope ["_law_pen_here", "_law_row", "_law_top", "_law_bottom"] ["_law_pen_here", "_law_row"] (defScope sMR) := ⟨rfl, rfl, rfl, by decide +kernel, rfl, by decide +kernel, by decide +kernel⟩
theorem ok_mr {f : Addr} {fd : FuncData} (F : Fun K "_law_made_row" "_law_made_row" sMR f fd) (T : Bk mg) (RM : RoM P w K mg base CP CW CN) (G__law_made_poly : Df P w K mg base "_law_made_poly" 7 ["_law_pen_here", "_law_one"] (spMade K CP)) (G__law_passed : Df P w K mg base "_law_passed" 3 ["_law_pen_here", "_law_ratio_here"] (spPassed K)) : FnOk P w K mg base CX0 13 f fd ["_law_pen_here", "_law_row"] (spMR K CP CW) := by
  refine F.ok scMR (fun vs H Q E h => ?_) (fun cdv A outer s H vs Q E hr h => ?_)
  · obtain ⟨p, lc, d, t, lt, lb, B, q, A, C, st, sh, rfl, _⟩ := h
    rfl
  · obtain ⟨p, lc, d, t, lt, lb, B, q, Aa, C, st, sh, rfl, hP, hB, dp, hD, tq, rq, ra, rc, okA, okC, st1, sh0, lw, nz, qq⟩ := h
    have hu : (A.deeper (envOfC "_law_made_row" (defScope sMR) s.heap.objs.size f cdv)).units + 1 < cLine := by have := hr.units; omega
    refine ⟨_, (pss_cons (ps_par (i := 2) (j := 3) (by rfl) scMR.nd rfl rfl (by decide) rfl rfl (pa_cons (pe_call G__law_made_poly.ok (hr.mono (by decide)) rfl G__law_made_poly.m G__law_made_poly.kp G__law_made_poly.b .nil pass0 (pa_cons (pv 0) (pa_cons (pe_dget hu (pv 1) pe_str (fun _ _ => rfl)) pa_nil))) (pa_cons (pe_call G__law_made_poly.ok (hr.mono (by decide)) rfl G__law_made_poly.m G__law_made_poly.kp G__law_made_poly.b .nil pass0 (pa_cons (pv 0) (pa_cons (pe_dget hu (pv 1) pe_str (fun _ _ => rfl)) pa_nil))) pa_nil)) (by rfl))
  (pss_one (ps_ret (pe_make RM.mkI RM.okI (hr.mono (by decide)) rfl RM.C.m RM.bI .nil passL (pa_cons (pe_call G__law_passed.ok (hr.mono (by decide)) rfl G__law_passed.m G__law_passed.kp G__law_passed.b .nil pass0 (pa_cons (pv 0) (pa_cons (pe_dget hu (pv 1) pe_str (fun _ _ => rfl)) pa_nil))) (pa_cons (pv 2) (pa_cons (pv 3) (pa_cons (pe_dget hu (pv 1) pe_str (fun _ _ => rfl)) (pa_cons (pe_dget hu (pv 1) pe_str (fun _ _ => rfl)) pa_nil))))))))), ?_⟩
    refine par_two ?_
    refine ⟨_, rfl, _, rfl, d, _, rfl, hD.g2, ?_⟩
    refine tnil_k ?_
    refine ⟨p, lc, lt, B, Aa, rfl, hP, by omega, ra, okA.l, stripQ_id okA.s, okA.r, fun xa H1 hP1 k1 pa => ?_⟩
    have hD1 : DRow H1 d t lt lb st sh := k1 _ _ dp hD
    refine ⟨_, rfl, _, rfl, d, _, rfl, hD1.g3, ?_⟩
    refine tnil_k ?_
    refine ⟨p, lc, lb, _, C, rfl, hP1, by omega, rc.kp hP k1, okC.l, stripQ_id okC.s, okC.r, fun xb H2 hP2 k2 pb => ?_⟩
    have hD2 : DRow H2 d t lt lb st sh := k2 _ _ dp hD1
    refine ⟨_, rfl, _, rfl, d, _, rfl, hD2.g1, ?_⟩
    refine tnil_k ?_
    refine ⟨p, lc, t, _, q.num, (q.den : Int), rfl, hP2, by omega, (tq.kp hP k1).kp hP1 k2, by have := q.den_pos; omega, rq.zt, rq.zb, fun v dd k H3 hP3 k3 dv hp k0 kk3 gd => ?_⟩
    have hD3 : DRow H3 d t lt lb st sh := k3 _ _ dp hD2
    refine ⟨_, rfl, _, rfl, _, rfl, d, _, rfl, hD3.g4, _, rfl, d, _, rfl, hD3.g5, ?_⟩
    refine tnil_k ?_
    intro x dx nx ndx ne
    have sx : Same H3 (upd (upd H3 dx (.own x)) x (.ins CW dx [])) := (same_upd ndx).trans (same_upd (by rw [upd_ne (Ne.symm ne)]; exact nx))
    have hx : upd (upd H3 dx (.own x)) x (.ins CW dx []) x = some (.ins CW dx []) := upd_same
    obtain ⟨xp, xc⟩ := hP3.ne_new nx
    generalize upd (upd H3 dx (.own x)) x (.ins CW dx []) = Hx at sx hx ⊢
    have pa3 := ((pa.kp hP1 k2).kp hP2 k3).same sx
    have pb3 := (pb.kp hP2 k3).same sx
    have kR : (k : Rat) ≠ 0 := cast_ne (by omega)
    have lo : low (q.num * k) ((q.den : Int) * k) = pq q := low_mul (Int.mul_ne_zero (by have := q.den_pos; omega) (by omega)) (by
      rw [Rat.intCast_mul, Rat.intCast_mul, ← num_of q, show ((q.den : Int) : Rat) = (q.den : Rat) from rfl]
      grind)
    have hb : ((q.den : Int) * k).natAbs < 2 ^ big := by
      rw [Int.natAbs_mul]
      have h1 := rq.zb
      have h1 : ((q.den : Int)).natAbs < 2 ^ 1200 := h1
      have h2 : ((q.den : Int)).natAbs * k.natAbs ≤ 2 ^ 1200 * 2 ^ 2 := Nat.mul_le_mul (Nat.le_of_lt h1) (by omega)
      rw [← Nat.pow_add] at h2
      exact Nat.lt_of_le_of_lt h2 (Nat.pow_lt_pow_right (by decide) (by decide))
    refine ⟨x, dx, v, dd, .int st, .int st, .int sh, .int sh, xa, xb, Aa, C, rfl, hx, dv.mono (nw_sub.trans sx), .int st, .int sh, pa3, pb3, lw, .inr ⟨by rw [hp]; rfl, .inr ⟨decide_eq_true st1, .inr ⟨decide_eq_true sh0, .inr ⟨nz, _, _, q, st, sh, hp, lo, hb, rfl, rfl, fun H' kx hR => ⟨rfl, qq x xa xb H' ?_ (fun b o nb e => ?_) hR⟩⟩⟩⟩⟩⟩
    · exact ((hP3.same sx).put kx xp xc).more (by omega)
    · have e3 := k3 _ _ nb (k2 _ _ nb (k1 _ _ nb e))
      exact kx b o (ne_of_none e3 nx) (sx _ _ e3)
abbrev sRN : Stmt := topS 88
theorem scRN : FnScope ["_law_row", "_law_many", "_law_found", "_law_number", "_law_k", "_law_by"] ["_law_row", "_law_many"] (defScope sRN) := ⟨rfl, rfl, rfl, by decide +kernel, rfl, by decide +kernel, by decide +kernel⟩
theorem ok_rn {f : Addr} {fd : FuncData} (F : Fun K "_law_row_numbers" "_law_row_numbers" sRN f fd) (T : Bk mg) (G__law_p_at : Df P w K mg base "_law_p_at" 4 ["_law_one", "_law_point"] spLPA) (G__law_share : Df P w K mg base "_law_share" 3 ["_law_one", "_law_two"] spLSh) (G__law_times : Df P w K mg base "_law_times" 3 ["_law_one", "_law_two"] (spL2 rMul)) : FnOk P w K mg base CX0 5 f fd ["_law_row", "_law_many"] spRN := by
  refine F.ok scRN (fun vs H Q E h => ?_) (fun cdv A outer s H vs Q E hr h => ?_)
  · obtain ⟨d, t, lt, lb, q, A, C, st, sh, n, rfl, _⟩ := h
    rfl
  · obtain ⟨d, t, lt, lb, q, Aa, C, st, sh, n, rfl, hD, tq, ra, rc, hn, ok, fr, qq⟩ := h
    have hu : (A.deeper (envOfC "_law_row_numbers" (defScope sRN) s.heap.objs.size f cdv)).units + 1 < cLine := by have := hr.units; omega
    refine ⟨_, (pss_cons (ps_par (i := 2) (j := 3) (by rfl) scRN.nd rfl rfl (by decide) rfl rfl (pa_cons (pe_lst pa_nil) (pa_cons (pe_dget hu (pv 0) pe_str (fun _ _ => rfl)) pa_nil)) (by rfl))
  (pss_cons (ps_for PassesOwn.never rfl (pi_range1 (by rfl) T.range (pa_cons (pv 1) pa_nil)) (pg_name (i := 4) scRN.nd rfl (Or.inl rfl))
    (pss_cons (ps_expr (pe_bm PySem.F.plainAttrs_list PySem.F.slot_list_append PySem.F.type_list_append mt_append (pv 2) (pa_cons (pv 3) pa_nil)))
    (pss_one (ps_if (pt_cmpR op_ne (pe_ix (r := rIxT K) ix_tup (pv 3) pe_int (fun _ _ => rfl)) pe_int (nomark _))
      (pss_cons (ps_set (i := 5) scRN.nd rfl (Or.inl rfl) (pe_call G__law_share.ok (hr.mono (by decide)) rfl G__law_share.m G__law_share.kp G__law_share.b .nil pass0 (pa_cons (pe_call G__law_p_at.ok (hr.mono (by decide)) rfl G__law_p_at.m G__law_p_at.kp G__law_p_at.b .nil pass0 (pa_cons (pe_dget hu (pv 0) pe_str (fun _ _ => rfl)) (pa_cons (pe_tup (pa_cons (pv 4) (pa_cons pe_int pa_nil))) pa_nil))) (pa_cons (pe_call G__law_p_at.ok (hr.mono (by decide)) rfl G__law_p_at.m G__law_p_at.kp G__law_p_at.b .nil pass0 (pa_cons (pe_dget hu (pv 0) pe_str (fun _ _ => rfl)) (pa_cons (pe_tup (pa_cons (pv 4) (pa_cons pe_int pa_nil))) pa_nil))) pa_nil))))
      (pss_one (ps_set (i := 3) scRN.nd rfl (Or.inl rfl) (pe_call G__law_times.ok (hr.mono (by decide)) rfl G__law_times.m G__law_times.kp G__law_times.b .nil pass0 (pa_cons (pv 3) (pa_cons (pv 5) pa_nil))))))
      pss_nil))))
  (pss_one (ps_ret (pv 2))))), ?_⟩
    refine par_two ?_
    refine ⟨(by show 0 ≤ sizeLine; decide), fun lf nlf => ?_⟩
    have elf : upd H lf (HO.lst []) lf = some (HO.lst (([] : List Addr).map V.ref)) := upd_same
    have s1 : Same H (upd H lf (HO.lst [])) := same_upd nlf
    have lfree : ∀ b o, H b = some o → b ≠ lf := fun b o e => ne_of_none e nlf
    generalize upd H lf (HO.lst []) = H1 at elf s1 ⊢
    refine ⟨_, rfl, d, _, rfl, DRow.g1 (s1 _ _ hD), ?_⟩
    refine ⟨_, rfl, (n : Int), rfl, by omega, by omega, for_range (lo := 0) (n := ((n : Nat) : Int).toNat) (fun j σ H' => ∃ (tj : Addr) (as : List Addr) (v4 v5 : Option V), σ = [some (.ref d), some (.int (n : Int)), some (.ref lf), some (.ref tj), v4, v5] ∧ (∀ b o, b ≠ lf → H1 b = some o → H' b = some o) ∧ TR H' tj (nuR q Aa C j) ∧ H' lf = some (.lst (as.map V.ref)) ∧ as.length = j ∧ ∀ i a, as[i]? = some a → TR H' a (nuR q Aa C i))
      ⟨t, [], none, none, rfl, fun b o _ e => e, s1 _ _ tq, elf, rfl, fun i a h => by simp at h⟩ ?_ ?_⟩
    · rintro j σ H2 hj ⟨tj, as, v4, v5, rfl, k2, tj2, e2, al, pa⟩
      obtain ⟨o1, o2, o3, o4, o5, o6, o7⟩ := ok j (by omega)
      obtain ⟨M, N, M', N', W, fA, fC, m0, m0', w1, jw, z1, z2, z3, z4⟩ := fr j (by omega)
      refine ⟨_, rfl, .inl ⟨rfl, _, SqL.of e2⟩, _, rfl, ?_⟩
      refine tnil_k ?_
      refine ⟨lf, _, _, rfl, rfl, e2, by rw [List.length_map, sizeLine_eq]; omega, ?_⟩
      have aw : ∀ c u, c ≠ lf → H2 c = some u → upd H2 lf (HO.lst (as.map V.ref ++ [V.ref tj])) c = some u := fun c u h1 h2 => upd_away c u h1 h2
      have e3 : upd H2 lf (HO.lst (as.map V.ref ++ [V.ref tj])) lf = some (HO.lst ((as ++ [tj]).map V.ref)) := by rw [upd_same, List.map_append]; rfl
      have ta : ∀ {a : Addr} {x : Rat}, TR H2 a x → TR (upd H2 lf (HO.lst (as.map V.ref ++ [V.ref tj]))) a x := fun {a x} y => aw a _ (ne_of y e2 (by intro z; cases z)) y
      generalize upd H2 lf (HO.lst (as.map V.ref ++ [V.ref tj])) = H3 at aw e3 ta ⊢
      have k3 : ∀ b o, b ≠ lf → H1 b = some o → H3 b = some o := fun b o nb e => aw b o nb (k2 b o nb e)
      have tj3 := ta tj2
      have kH : ∀ b o, H b = some o → H3 b = some o := fun b o e => k3 b o (lfree b o e) (s1 _ _ e)
      have pa3 : ∀ i a, (as ++ [tj])[i]? = some a → TR H3 a (nuR q Aa C i) := fun i a h => by
        by_cases hi : i < as.length
        · rw [List.getElem?_append_left hi] at h
          exact ta (pa i a h)
        · rw [List.getElem?_append_right (by omega)] at h
          have : i - as.length = 0 := by
            by_cases z : i - as.length = 0
            · exact z
            · rw [List.getElem?_eq_none_iff.mpr (by show 1 ≤ _; omega)] at h
              cases h
          rw [this] at h
          cases h
          rw [show i = j by omega]
          exact tj3
      have hD3 : DRow H3 d t lt lb st sh := kH _ _ hD
      refine ⟨_, rfl, tj, _, _, .int (nuR q Aa C j).num, rfl, rfl, SqT.of tj3, at_of (j := 0) rfl rfl, ?_⟩
      dsimp only [tC]
      refine rNe_int (fun z => ?_) fun z => ?_
      · refine iteF ?_
        dsimp only [tNext]
        have n0 : nuR q Aa C j = 0 := Rat.num_eq_zero.mp z
        refine ⟨tj, as ++ [tj], _, _, rfl, k3, ?_, e3, by rw [List.length_append, al]; rfl, pa3⟩
        show TR H3 tj (nuR q Aa C j * _)
        rw [n0, Rat.zero_mul, ← n0]
        exact tj3
      · refine iteT ?_
        have frj : Fr 1 W ((j : Nat) : Rat) := ⟨(j : Int), by rw [show ((1 : Nat) : Rat) = 1 from rfl, Rat.mul_one]; rfl, by rw [Int.natAbs_natCast]; exact jw⟩
        have w43 : W < 2 ^ 4300 := by
          refine Nat.lt_of_le_of_lt ?_ z1
          have h1 : W ≤ W ^ (Aa.length + 1) := by
            rw [Nat.pow_succ]
            exact Nat.le_mul_of_pos_left _ (Nat.pow_pos (by omega))
          exact Nat.le_trans h1 (Nat.le_mul_of_pos_left _ m0)
        refine ⟨_, rfl, d, _, rfl, hD3.g2, _, rfl, (by show 2 ≤ sizeLine; decide), fun t1 nt1 => ?_⟩
        have et1 : TR (upd H3 t1 (HO.tup [V.int (0 + (j : Int)), V.int 1])) t1 ((j : Nat) : Rat) := tr_of upd_same ⟨by rw [Rat.num_natCast, Int.zero_add], by rw [Rat.den_natCast]; rfl⟩
        have s4 : Same H3 (upd H3 t1 (HO.tup [V.int (0 + (j : Int)), V.int 1])) := same_upd nt1
        generalize upd H3 t1 (HO.tup [V.int (0 + (j : Int)), V.int 1]) = H4 at et1 s4 ⊢
        refine tnil_k ?_
        refine ⟨lt, t1, Aa, ((j : Nat) : Rat), M, N, 1, W, W, rfl, ra.same fun b o e => s4 _ _ (kH b o e), et1, fA, frj, m0, by decide, w1, Nat.le_refl _, z1, z2, w43, fun r1 H5 s5 e5 => ?_⟩
        rw [hor_ev'] at e5
        have s35 := s4.trans s5
        refine ⟨_, rfl, d, _, rfl, DRow.g3 (s35 _ _ hD3), _, rfl, (by show 2 ≤ sizeLine; decide), fun t2 nt2 => ?_⟩
        have et2 : TR (upd H5 t2 (HO.tup [V.int (0 + (j : Int)), V.int 1])) t2 ((j : Nat) : Rat) := tr_of upd_same ⟨by rw [Rat.num_natCast, Int.zero_add], by rw [Rat.den_natCast]; rfl⟩
        have s6 : Same H5 (upd H5 t2 (HO.tup [V.int (0 + (j : Int)), V.int 1])) := same_upd nt2
        generalize upd H5 t2 (HO.tup [V.int (0 + (j : Int)), V.int 1]) = H6 at et2 s6 ⊢
        have s36 := s35.trans s6
        refine tnil_k ?_
        refine ⟨lb, t2, C, ((j : Nat) : Rat), M', N', 1, W, W, rfl, rc.same fun b o e => s36 _ _ (kH b o e), et2, fC, frj, m0', by decide, w1, Nat.le_refl _, z3, z4, w43, fun r2 H7 s7 e7 => ?_⟩
        rw [hor_ev'] at e7
        refine tnil_k ?_
        refine ⟨r1, r2, ev Aa ((j : Nat) : Rat), ev C ((j : Nat) : Rat), rfl, s7 _ _ (s6 _ _ e5), e7, o5, o6, o3, fun r3 H8 s8 n8 e8 => ?_⟩
        have s38 := s36.trans (s7.trans s8)
        refine ⟨_, rfl, _, rfl, ?_⟩
        refine tnil_k ?_
        refine ⟨tj, r3, nuR q Aa C j, ev Aa ((j : Nat) : Rat) / ev C ((j : Nat) : Rat), rfl, s38 _ _ tj3, e8, o4, o7, fun r4 H9 s9 n9 e9 => ?_⟩
        have s39 := s38.trans s9
        exact ⟨r4, as ++ [tj], _, _, rfl, fun b o nb e => s39 _ _ (k3 b o nb e), e9, s39 _ _ e3, by rw [List.length_append, al]; rfl, fun i a h => s39 _ _ (pa3 i a h)⟩
    · rintro σ H2 ⟨tj, as, v4, v5, rfl, k2, tj2, e2, al, pa⟩
      rw [Int.toNat_natCast] at al
      exact ⟨_, rfl, qq lf as H2 (fun b o e => k2 b o (lfree b o e) (s1 _ _ e)) e2 al pa⟩
end
end Vf
set_option maxRecDepth 100000
set_option maxHeartbeats 8000000
namespace Vf
open PySem PySem.Spec PyProof.Rows L2
def ins (q : Rat) : List (Rat × Nat) → List (Rat × Nat)
  | [] => [(q, 1)]
  | (a, m) :: r => if a = q then (a, m + 1) :: r else (a, m) :: ins q r
theorem ev_ins (q x : Rat) : ∀ l : List (Rat × Nat), ev (prE (tl (ins q l)) 0) x = (x - q) * ev (prE (tl l) 0) x
  | [] => by
    show ev (pmul (pw (lin q) 1) [1]) x = (x - q) * (1 + x * 0)
    rw [ev_pmul, ev_pw, ev_lin]
    show (x - q) * (1 + x * 0) * (1 + x * 0) = _
    grind
  | (a, m) :: r => by
    have ih := ev_ins q x r
    unfold ins
    split
    · rename_i h
      subst h
      show ev (pmul (pw (lin a) (m + 1)) (prE (tl r) 0)) x = (x - a) * ev (pmul (pw (lin a) m) (prE (tl r) 0)) x
      rw [ev_pmul, ev_pmul, ev_pw, ev_lin]
      grind
    · show ev (pmul (pw (lin a) m) (prE (tl (ins q r)) 0)) x = (x - q) * ev (pmul (pw (lin a) m) (prE (tl r) 0)) x
      rw [ev_pmul, ev_pmul, ih]
      grind
theorem ins_keys (q p : Rat) : ∀ l : List (Rat × Nat), p ∈ (ins q l).map Prod.fst ↔ p = q ∨ p ∈ l.map Prod.fst
  | [] => by simp [ins]
  | (a, m) :: r => by
    have ih := ins_keys q p r
    unfold ins
    split
    · rename_i h
      subst h
      simp
    · simp only [List.map_cons, List.mem_cons, ih]
      constructor
      · rintro (h | h | h)
        · exact .inr (.inl h)
        · exact .inl h
        · exact .inr (.inr h)
      · rintro (h | h | h)
        · exact .inr (.inl h)
        · exact .inl h
        · exact .inr (.inr h)
theorem ins_nodup (q : Rat) : ∀ {l : List (Rat × Nat)}, (l.map Prod.fst).Nodup → ((ins q l).map Prod.fst).Nodup
  | [], _ => by simp [ins]
  | (a, m) :: r, h => by
    rw [List.map_cons, List.nodup_cons] at h
    unfold ins
    split
    · rw [List.map_cons, List.nodup_cons]
      exact h
    · rename_i ne
      rw [List.map_cons, List.nodup_cons]
      refine ⟨fun z => ?_, ins_nodup q h.2⟩
      rcases (ins_keys q a r).mp z with y | y
      · exact ne y
      · exact h.1 y
theorem ins_ge (q : Rat) : ∀ {l : List (Rat × Nat)}, (∀ p ∈ l, 1 ≤ p.2) → ∀ p ∈ ins q l, 1 ≤ p.2
  | [], _, p, hp => by
    rw [List.mem_singleton.mp hp]
    exact Nat.le_refl 1
  | (a, m) :: r, h, p, hp => by
    unfold ins at hp
    split at hp
    · rcases List.mem_cons.mp hp with z | z
      · rw [z]
        exact Nat.succ_pos m
      · exact h p (List.mem_cons_of_mem _ z)
    · rcases List.mem_cons.mp hp with z | z
      · rw [z]
        exact h (a, m) (List.mem_cons_self ..)
      · exact ins_ge q (fun p hp => h p (List.mem_cons_of_mem _ hp)) p z
theorem ins_sum (q : Rat) : ∀ l : List (Rat × Nat), sumM (ins q l) = sumM l + 1
  | [] => rfl
  | (a, m) :: r => by
    have ih := ins_sum q r
    unfold ins
    split
    · show m + 1 + sumM r = m + sumM r + 1
      omega
    · show m + sumM (ins q r) = m + sumM r + 1
      omega
def grp : List Rat → List (Rat × Nat)
  | [] => []
  | q :: r => ins q (grp r)
theorem grp_all : ∀ qs : List Rat, ((grp qs).map Prod.fst).Nodup ∧ (∀ p ∈ grp qs, 1 ≤ p.2) ∧ sumM (grp qs) = qs.length ∧ (∀ p, p ∈ (grp qs).map Prod.fst ↔ p ∈ qs) ∧ ∀ x, ev (prE (tl (grp qs)) 0) x = ev (pl qs) x
  | [] => ⟨List.nodup_nil, fun p hp => absurd hp List.not_mem_nil, rfl, fun p => Iff.rfl, fun x => rfl⟩
  | q :: r => by
    obtain ⟨h1, h2, h3, h4, h5⟩ := grp_all r
    refine ⟨ins_nodup q h1, ins_ge q h2, ?_, fun p => ?_, fun x => ?_⟩
    · show sumM (ins q (grp r)) = r.length + 1
      rw [ins_sum, h3]
    · show p ∈ (ins q (grp r)).map Prod.fst ↔ _
      rw [ins_keys, h4, List.mem_cons]
    · show ev (prE (tl (ins q (grp r))) 0) x = ev (pmul (lin q) (pl r)) x
      rw [ev_ins, h5, ev_pmul, ev_lin]
/-- a row of drawn places -/
structure Drn (qs : List Rat) (A : List Rat) : Prop where
  w : A ≠ [] → Lw A
  z : ∀ x, ev A x = 0 ↔ x ∈ qs
  l : A.length = qs.length + 1
  k : PlyOk A
  f : ∃ M N : Nat, (∀ i, Fr M N (cf A i)) ∧ 0 < M ∧ M ≤ 2 ^ 10 ∧ N ≤ 2 ^ 124
theorem drn_of {qs : List Rat} (h : ∀ q ∈ qs, q ∈ Plc) (l4 : qs.length ≤ 4) {c : Rat} (c0 : c ≠ 0) (fc : Fr 5 15 c) {A : List Rat} (sA : Stp A) (eA : ∀ x, ev A x = c * ev (pl qs) x) : Drn qs A := by
  obtain ⟨g1, g2, g3, g4, g5⟩ := grp_all qs
  obtain ⟨lw, zz, lA, fb, nb, db⟩ := lw_lin (l := grp qs) g1 (fun q hq => ⟨h _ ((g4 q.1).mp (List.mem_map_of_mem hq)), g2 q hq⟩) (by omega) c0 fc sA (fun x => by rw [eA, g5])
  refine ⟨fun _ => lw, fun x => by rw [zz, g4], by rw [lA, g3], ⟨by omega, sA, fun i => ?_⟩, _, _, fb.f, fb.m0, db, nb⟩
  obtain ⟨z1, z2⟩ := Hb.of (k := 124) (fb.f i) fb.m0 (Nat.le_trans db (Nat.pow_le_pow_right (by decide) (by decide))) nb
  refine ⟨pq_low _, Nat.lt_of_le_of_lt z1 (Nat.pow_lt_pow_right (by decide) (by decide)), ?_⟩
  show ((cf A i).den : Int).natAbs < _
  rw [Int.natAbs_natCast]
  exact Nat.lt_of_le_of_lt z2 (Nat.pow_lt_pow_right (by decide) (by decide))
def Bd2 (q : Rat) (a b : Nat) : Prop := q.num.natAbs ≤ 2 ^ a ∧ q.den ≤ 2 ^ b
theorem Bd2.mul {q r : Rat} {a b c d : Nat} (h : Bd2 q a b) (g : Bd2 r c d) : Bd2 (q * r) (a + c) (b + d) := by
  have f := (Fr.self q).mul (Fr.self r)
  obtain ⟨h1, h2⟩ := f.size (Nat.mul_pos q.den_pos r.den_pos)
  exact ⟨Nat.le_trans h1 (Nat.le_trans (Nat.mul_le_mul h.1 g.1) (Nat.le_of_eq (Nat.pow_add _ _ _).symm)), Nat.le_trans h2 (Nat.le_trans (Nat.mul_le_mul h.2 g.2) (Nat.le_of_eq (Nat.pow_add _ _ _).symm))⟩
theorem Bd2.inv {q : Rat} (q0 : q ≠ 0) {a b : Nat} (h : Bd2 q a b) : Bd2 (1 / q) b a := by
  have n0 : q.num ≠ 0 := fun z => q0 (Rat.num_eq_zero.mp z)
  have hd := num_of q
  have f : Fr q.num.natAbs q.den (1 / q) := by
    rcases Int.natAbs_eq q.num with e | e
    · refine ⟨(q.den : Int), ?_, by rw [Int.natAbs_natCast]; exact Nat.le_refl _⟩
      have e2 : ((q.num.natAbs : Nat) : Rat) = (q.num : Rat) := by
        have : ((q.num.natAbs : Nat) : Int) = q.num := by omega
        rw [← this]
        rfl
      rw [e2, ← hd, show ((q.den : Int) : Rat) = (q.den : Rat) from rfl]
      have := inv_mul q0
      grind
    · refine ⟨-(q.den : Int), ?_, by rw [Int.natAbs_neg, Int.natAbs_natCast]; exact Nat.le_refl _⟩
      have e2 : ((q.num.natAbs : Nat) : Rat) = -(q.num : Rat) := by
        have : ((q.num.natAbs : Nat) : Int) = -q.num := by omega
        rw [← Rat.intCast_neg, ← this]
        rfl
      rw [e2, ← hd, Rat.intCast_neg, show ((q.den : Int) : Rat) = (q.den : Rat) from rfl]
      have := inv_mul q0
      grind
  obtain ⟨h1, h2⟩ := f.size (by omega)
  exact ⟨Nat.le_trans h1 h.2, Nat.le_trans h2 h.1⟩
theorem Bd2.sr {q : Rat} {a b : Nat} (h : Bd2 q a b) (ha : a < 4300) (hb : b < 4300) : Sr q := ⟨Nat.lt_of_le_of_lt h.1 (Nat.pow_lt_pow_right (by decide) ha), Nat.lt_of_le_of_lt h.2 (Nat.pow_lt_pow_right (by decide) hb)⟩
/-- the value at a place below 24 -/
theorem bd_lin {q : Rat} {j w : Nat} (hj : j ≤ 24) (hw : wt q * 24 ≤ 2 ^ w) (hd : q.den ≤ 3) : Bd2 (((j : Nat) : Rat) - q) w 2 := by
  have f : Fr q.den (wt q * 24) (((j : Nat) : Rat) - q) := by
    refine ⟨(j : Int) * (q.den : Int) - q.num, ?_, ?_⟩
    · rw [Rat.intCast_sub, Rat.intCast_mul, ← num_of q, show ((q.den : Int) : Rat) = (q.den : Rat) from rfl, show ((j : Int) : Rat) = (j : Rat) from rfl]
      grind
    · refine Nat.le_trans (Int.natAbs_sub_le _ _) ?_
      rw [Int.natAbs_mul, Int.natAbs_natCast, Int.natAbs_natCast]
      unfold wt
      have := Nat.mul_le_mul_right q.den hj
      omega
  obtain ⟨h1, h2⟩ := f.size q.den_pos
  exact ⟨Nat.le_trans h1 hw, Nat.le_trans h2 (by omega)⟩
theorem bd_pl {j w : Nat} (hj : j ≤ 24) : ∀ {qs : List Rat}, (∀ q ∈ qs, wt q * 24 ≤ 2 ^ w ∧ q.den ≤ 3) → Bd2 (ev (pl qs) ((j : Nat) : Rat)) (w * qs.length) (2 * qs.length)
  | [], _ => by
    have e : ev (pl []) ((j : Nat) : Rat) = 1 := by show 1 + _ * 0 = (1 : Rat); grind
    rw [e]
    exact ⟨Nat.one_le_two_pow, Nat.one_le_two_pow⟩
  | q :: r, h => by
    have ih := bd_pl hj (qs := r) fun z hz => h z (List.mem_cons_of_mem _ hz)
    obtain ⟨h1, h2⟩ := h q (List.mem_cons_self ..)
    have e : ev (pl (q :: r)) ((j : Nat) : Rat) = (((j : Nat) : Rat) - q) * ev (pl r) ((j : Nat) : Rat) := by
      show ev (pmul (lin q) (pl r)) _ = _
      rw [ev_pmul, ev_lin]
    rw [e, List.length_cons, Nat.mul_add, Nat.mul_add, Nat.mul_one, Nat.mul_one, Nat.add_comm (w * _), Nat.add_comm (2 * _)]
    exact (bd_lin hj h1 h2).mul ih
theorem Bd2.le {q : Rat} {a b c d : Nat} (h : Bd2 q a b) (h1 : a ≤ c) (h2 : b ≤ d) : Bd2 q c d := ⟨Nat.le_trans h.1 (Nat.pow_le_pow_right (by decide) h1), Nat.le_trans h.2 (Nat.pow_le_pow_right (by decide) h2)⟩
theorem fr_bd {c : Rat} (fc : Fr 5 15 c) : Bd2 c 4 3 := by
  obtain ⟨h1, h2⟩ := fc.size (by decide)
  exact ⟨Nat.le_trans h1 (by decide), Nat.le_trans h2 (by decide)⟩
/-- all sizes of a drawn row's numbers -/
theorem na_ok {q : Rat} {tops bots : List Rat} {A C : List Rat} {c c' : Rat} (hq : Bd2 q 9 7) (dA : Drn tops A) (dC : Drn bots C) (ht : ∀ z ∈ tops, z ∈ Plc) (hb : ∀ z ∈ bots, z ∈ Plc ∧ wt z ≤ 19 ∧ ∀ n : Nat, z ≠ (n : Rat)) (lt : tops.length ≤ 4) (lb : bots.length ≤ 4) (fc : Fr 5 15 c) (fc' : Fr 5 15 c') (eA : ∀ x, ev A x = c * ev (pl tops) x) (eC : ∀ x, ev C x = c' * ev (pl bots) x) : NaOk q A C 24 ∧ (∀ z : Nat, ev C (z : Rat) ≠ 0) ∧ ∀ j, j ≤ 24 → Sr (nuR q A C j) := by
  have nz : ∀ z : Nat, ev C (z : Rat) ≠ 0 := fun z h => (hb _ ((dC.z _).mp h)).2.2 z rfl
  have bA : ∀ j : Nat, j ≤ 24 → Bd2 (ev A ((j : Nat) : Rat)) 144 11 := fun j hj => by
    rw [eA]
    refine ((fr_bd fc).mul (bd_pl (w := 35) hj (qs := tops) fun z hz => ⟨?_, (plc_wt z (ht z hz)).2.2⟩)).le (by omega) (by omega)
    exact Nat.le_trans (Nat.mul_le_mul_right 24 (plc_wt z (ht z hz)).1) (by decide)
  have bC : ∀ j : Nat, j ≤ 24 → Bd2 (ev C ((j : Nat) : Rat)) 40 11 := fun j hj => by
    rw [eC]
    refine ((fr_bd fc').mul (bd_pl (w := 9) hj (qs := bots) fun z hz => ⟨?_, (plc_wt z (hb z hz).1).2.2⟩)).le (by omega) (by omega)
    exact Nat.le_trans (Nat.mul_le_mul_right 24 (hb z hz).2.1) (by decide)
  have bR : ∀ j : Nat, j ≤ 24 → Bd2 (ev A ((j : Nat) : Rat) / ev C ((j : Nat) : Rat)) 155 51 := fun j hj => by
    have e : ev A ((j : Nat) : Rat) / ev C ((j : Nat) : Rat) = ev A ((j : Nat) : Rat) * (1 / ev C ((j : Nat) : Rat)) := by
      rw [Rat.div_def, Rat.div_def, Rat.one_mul]
    rw [e]
    exact ((bA j hj).mul ((bC j hj).inv (nz j))).le (by decide) (by decide)
  have bN : ∀ j : Nat, j ≤ 25 → Bd2 (nuR q A C j) (9 + 155 * j) (7 + 51 * j) := fun j => by
    induction j with
    | zero => intro _; exact hq
    | succ j ih =>
      intro hj
      exact ((ih (by omega)).mul (bR j (by omega))).le (by omega) (by omega)
  have lA := dA.l
  have lC := dC.l
  obtain ⟨M, N, fA, m0, mb, nb⟩ := dA.f
  obtain ⟨M', N', fC, m0', mb', nb'⟩ := dC.f
  have up : ∀ {a b : Nat}, a ≤ b → 2 ^ a ≤ 2 ^ b := fun h => Nat.pow_le_pow_right (by decide) h
  refine ⟨fun j hj => ⟨⟨by omega, ⟨M, N, fA, m0, Nat.le_trans mb (up (by decide)), Nat.le_trans nb (up (by decide))⟩, by omega, by omega⟩, ⟨by omega, ⟨M', N', fC, m0', Nat.le_trans mb' (up (by decide)), Nat.le_trans nb' (up (by decide))⟩, by omega, by omega⟩, nz j, (bN j (by omega)).sr (by omega) (by omega), (bA j (by omega)).sr (by decide) (by decide), (bC j (by omega)).sr (by decide) (by decide), (bR j (by omega)).sr (by decide) (by decide)⟩, nz, fun j hj => (bN j (by omega)).sr (by omega) (by omega)⟩
theorem rn_fr {tops bots : List Rat} {A C : List Rat} (dA : Drn tops A) (dC : Drn bots C) (lt : tops.length ≤ 4) (lb : bots.length ≤ 4) : ∀ j : Nat, j < 24 → ∃ M N M' N' W : Nat, (∀ i, Fr M N (cf A i)) ∧ (∀ i, Fr M' N' (cf C i)) ∧ 0 < M ∧ 0 < M' ∧ 1 ≤ W ∧ j ≤ W ∧ M * W ^ (A.length + 1) < 2 ^ 4300 ∧ N * ((A.length + 1) * W ^ (A.length + 1)) < 2 ^ 4300 ∧ M' * W ^ (C.length + 1) < 2 ^ 4300 ∧ N' * ((C.length + 1) * W ^ (C.length + 1)) < 2 ^ 4300 := by
  intro j hj
  obtain ⟨M, N, fA, m0, mb, nb⟩ := dA.f
  obtain ⟨M', N', fC, m0', mb', nb'⟩ := dC.f
  have lA := dA.l
  have lC := dC.l
  have key : ∀ {n m : Nat}, n ≤ 5 → m ≤ 2 ^ 124 → m * ((n + 1) * 24 ^ (n + 1)) < 2 ^ 4300 := fun {n m} hn hm => by
    have h1 : (n + 1) * 24 ^ (n + 1) ≤ 6 * 24 ^ 6 := Nat.mul_le_mul (by omega) (Nat.pow_le_pow_right (by decide) (by omega))
    refine Nat.lt_of_le_of_lt (Nat.mul_le_mul hm (Nat.le_trans h1 (show 6 * 24 ^ 6 ≤ 2 ^ 31 by decide))) ?_
    rw [← Nat.pow_add]
    exact Nat.pow_lt_pow_right (by decide) (by decide)
  have key2 : ∀ {n m : Nat}, n ≤ 5 → m ≤ 2 ^ 10 → m * 24 ^ (n + 1) < 2 ^ 4300 := fun {n m} hn hm => by
    have h1 : 24 ^ (n + 1) ≤ 24 ^ 6 := Nat.pow_le_pow_right (by decide) (by omega)
    refine Nat.lt_of_le_of_lt (Nat.mul_le_mul hm (Nat.le_trans h1 (show 24 ^ 6 ≤ 2 ^ 28 by decide))) ?_
    rw [← Nat.pow_add]
    exact Nat.pow_lt_pow_right (by decide) (by decide)
  exact ⟨M, N, M', N', 24, fA, fC, m0, m0', by decide, by omega, key2 (by omega) mb, key (by omega) nb, key2 (by omega) mb', key (by omega) nb'⟩
end Vf
set_option maxRecDepth 100000
set_option maxHeartbeats 8000000
namespace Vf
open PySem PySem.Spec PyProof.Rows L2
open LamX (ExtN Tabs TabS)
theorem Dt.keep {K : PySem.W.Frag} {H H' : Hp} {p : Addr} {v : V} {d : PyData} (h : Dt K (nw H H') v d) (e : ∃ o, H p = some o) : Dt K (wo p H') v d := h.mono fun b o z => wo_at (fun y => by
  obtain ⟨o', e⟩ := e
  rw [y] at z
  rw [(nw_get z).1] at e
  cases e) (nw_get z).2
theorem TR.n {H H' : Hp} {r : Addr} {q : Rat} (h : TR H r q) (e : ExtN H H') : TR H' r q := e _ _ h (fun ps z => by cases z)
theorem PolyQ.n {K : PySem.W.Frag} {CP : Addr} {H H' : Hp} {a : Addr} {qs : List Rat} (h : PolyQ K CP H a qs) (e : ExtN H H') : PolyQ K CP H' a qs := by
  obtain ⟨da, ta, za, h1, h2, h3⟩ := h
  exact ⟨da, ta, za, e _ _ h1 (fun ps z => by cases z), e _ _ h2 (fun ps z => by cases z), h3.imp fun c p z => e _ _ z (fun ps z => by cases z)⟩
theorem sqL_n {K : PySem.W.Frag} {H H' : Hp} {a : Addr} {xs : List V} (e : ExtN H H') (h : SqL K H a xs) : SqL K H' a xs := by
  rcases h with (h | ⟨o, h⟩) | h
  · exact Or.inl (Or.inl (e a _ h (fun ps z => by cases z)))
  · exact Or.inl (Or.inr ⟨o, e a _ h (fun ps z => by cases z)⟩)
  · exact Or.inr h
theorem sqT_n {K : PySem.W.Frag} {H H' : Hp} {a : Addr} {xs : List V} (e : ExtN H H') (h : SqT K H a xs) : SqT K H' a xs := by
  rcases h with (h | ⟨o, h⟩) | h
  · exact Or.inl (Or.inl (e a _ h (fun ps z => by cases z)))
  · exact Or.inl (Or.inr ⟨o, e a _ h (fun ps z => by cases z)⟩)
  · exact Or.inr h
mutual
theorem Dt.n {K : PySem.W.Frag} {H H' : Hp} (e : ExtN H H') : ∀ {v : V} {d : PyData}, Dt K H v d → Dt K H' v d
  | _, _, .non => .non
  | _, _, .bl b => .bl b
  | _, _, .int i => .int i
  | _, _, .str x => .str x
  | _, _, .lst h1 h2 => .lst (sqL_n e h1) (Dts.n e h2)
  | _, _, .tup h1 h2 => .tup (sqT_n e h1) (Dts.n e h2)
  | _, _, .dct h1 h2 => .dct (e _ _ h1 (fun ps z => by cases z)) (Dts.n e h2)
theorem Dts.n {K : PySem.W.Frag} {H H' : Hp} (e : ExtN H H') : ∀ {vs : List V} {ds : List PyData}, Dts K H vs ds → Dts K H' vs ds
  | _, _, .nil => .nil
  | _, _, .cons h1 h2 => .cons (Dt.n e h1) (Dts.n e h2)
end
theorem Pen.n {H H' : Hp} {p l : Addr} {B : Int} (h : Pen H p l B) (e : ExtN H H') : Pen H' p l B := by
  obtain ⟨ns, a, d, c, f, ⟨g1, g2, g3⟩, h2⟩ := h
  exact ⟨ns, a, d, c, f, ⟨e _ _ g1 (fun ps z => by cases z), e _ _ g2 (fun ps z => by cases z), g3⟩, h2⟩
/-- the pen's turns leave the tables -/
theorem tabs_kp {T : List (Addr × Str)} {H H' : Hp} {p l : Addr} {B : Int} (hP : Pen H p l B) (k : Kp p H H') (t : Tabs T H) : Tabs T H' := fun y hy => by
  obtain ⟨ns, a, d, c, f, g1, _⟩ := hP
  obtain ⟨ps, h1, h2, h3⟩ := t y hy
  refine ⟨ps, k _ _ (ne_of h1 g1.1 (by intro z; cases z)) h1, h2, fun pos cv hc => ?_⟩
  obtain ⟨c', e1, e2⟩ := h3 pos cv hc
  exact ⟨c', e1, k _ _ (ne_of e2 g1.1 (by intro z; unfold LamX.CodeO at z; cases z)) e2⟩
theorem gn_par_two {ta tb : TE} {n i j : Nat} {v : V} {rest : TS} {D : Ends} {σ : L2.St} {H : Hp} (h : ta (σ.set n (some v)) H fun v1 H1 => tb (σ.set n (some v)) H1 fun w H2 => rest D (((σ.set n (some v)).set i (some v1)).set j (some w)) H2) : gName n v σ H { D with nx := tSeq (tPar i j (tCons ta (tCons tb tNil))) rest D }.nx := par_two h
theorem RowAt.n {K : PySem.W.Frag} {CP CW : Addr} {H H' : Hp} {a : Addr} {q : Rat} {A B : List Rat} {st sh : Int} {xa xb : Addr} (h : RowAt K CP CW H a q A B st sh xa xb) (e : ExtN H H') : RowAt K CP CW H' a q A B st sh xa xb := by
  obtain ⟨dx, t, h1, h2, h3, h4⟩ := h
  exact ⟨dx, t, e _ _ h1 (fun ps z => by cases z), h2.n e, h3.n e, h4.n e⟩
theorem RowAt.kp {K : PySem.W.Frag} {CP CW p lc : Addr} {B0 : Int} {H H' : Hp} {a : Addr} {q : Rat} {A B : List Rat} {st sh : Int} {xa xb : Addr} (h : RowAt K CP CW H a q A B st sh xa xb) (hP : Pen H p lc B0) (k : Kp p H H') : RowAt K CP CW H' a q A B st sh xa xb := by
  obtain ⟨dx, t, h1, h2, h3, h4⟩ := h
  obtain ⟨_, _, _, _, _, gp, _⟩ := id hP
  exact ⟨dx, t, k _ _ (ne_of h1 gp.1 (by intro z; cases z)) h1, h2.kp hP k, h3.kp hP k, h4.kp hP k⟩
theorem drm {t lt lb : Addr} : mergeK [] [((Sum.inr "start" : Key), V.ref t), (.inr "top", .ref lt), (.inr "bottom", .ref lb)] = [(.inr "start", .ref t), (.inr "top", .ref lt), (.inr "bottom", .ref lb)] := by kernel_rfl
theorem drp1 {t lt lb : Addr} {st : Int} : putK [((Sum.inr "start" : Key), V.ref t), (.inr "top", .ref lt), (.inr "bottom", .ref lb)] (.inr "step") (.int st) = [(.inr "start", .ref t), (.inr "top", .ref lt), (.inr "bottom", .ref lb), (.inr "step", .int st)] := by kernel_rfl
theorem drp2 {t lt lb : Addr} {st sh : Int} : putK [((Sum.inr "start" : Key), V.ref t), (.inr "top", .ref lt), (.inr "bottom", .ref lb), (.inr "step", .int st)] (.inr "shift") (.int sh) = [(.inr "start", .ref t), (.inr "top", .ref lt), (.inr "bottom", .ref lb), (.inr "step", .int st), (.inr "shift", .int sh)] := by kernel_rfl
theorem RL.aw {H H' : Hp} {d l : Addr} {L : List (Key × V)} {F : List Rat} (h : RL H l F) (hd : H d = some (.dK L)) (k : ∀ c u, c ≠ d → H c = some u → H' c = some u) : RL H' l F := by
  obtain ⟨as, h1, h2⟩ := h
  exact ⟨as, k _ _ (ne_of h1 hd (by intro z; cases z)) h1, h2.imp fun c p z => k _ _ (ne_of z hd (by intro z; cases z)) z⟩
theorem TR.aw {H H' : Hp} {d l : Addr} {L : List (Key × V)} {q : Rat} (h : TR H l q) (hd : H d = some (.dK L)) (k : ∀ c u, c ≠ d → H c = some u → H' c = some u) : TR H' l q := k _ _ (ne_of h hd (by intro z; cases z)) h
theorem tabs_aw {T : List (Addr × Str)} {H H' : Hp} {d : Addr} {L : List (Key × V)} (hd : H d = some (.dK L)) (k : ∀ c u, c ≠ d → H c = some u → H' c = some u) (t : Tabs T H) : Tabs T H' := fun y hy => by
  obtain ⟨ps, h1, h2, h3⟩ := t y hy
  refine ⟨ps, k _ _ (ne_of h1 hd (by intro z; cases z)) h1, h2, fun pos cv hc => ?_⟩
  obtain ⟨c', e1, e2⟩ := h3 pos cv hc
  exact ⟨c', e1, k _ _ (ne_of e2 hd (by intro z; unfold LamX.CodeO at z; cases z)) e2⟩
theorem low_pqsL (qs : List Rat) : (qs.map pq).map lowP = qs.map pq := by
  rw [List.map_map]
  refine List.map_congr_left fun q _ => ?_
  exact low_id (pq_low q)
theorem rowD_pql (qs : List Rat) : rowD (.list ((qs.map pq).map pairD)) = some (qs.map pq) := by
  have go : ∀ qs : List Rat, ((qs.map pq).map pairD).mapM partsD = some (qs.map pq) := by
    intro qs
    induction qs with
    | nil => rw [List.map_nil, List.map_nil, List.mapM_nil]; rfl
    | cons q qs ih =>
      rw [List.map_cons, List.map_cons, List.mapM_cons, parts_pairD (pq_low q).pos, ih]
      rfl
  exact go qs
section
variable {K : PySem.W.Frag} {CP CR : Addr}
theorem poly_rlQ {H : Hp} {l : Addr} {F : List Rat} {Qd : Addr → Hp → Prop} {E : XK} (h : RL H l F) (l9 : F.length ≤ 1000) (ok : ∀ i, RatOk (pq (cf F i))) (sF : Stp F) (k : ∀ (x : Addr) (H' : Hp), Same H H' → PolyQ K CP H' x F → Qd x H') :
    ∀ x dx, H x = none → H dx = none → dx ≠ x → spPolyI K CP CR (.ref x :: ([.ref l] ++ [])) (upd (upd H dx (.own x)) x (.ins CP dx [])) (fun w H2 => w = .non ∧ Qd x H2) E := by
  obtain ⟨as, h1, h2⟩ := h
  refine poly_made (d := .list ((F.map pq).map pairD)) (.lst (SqL.of h1) h2.dts) (fun ds h => by cases h; rw [List.length_map, List.length_map]; exact l9) (fun ps h => ?_) (fun z => by rw [rowD_pql] at z; cases z)
  rw [rowD_pql] at h
  cases h
  refine ⟨fun p hp => ?_, fun x H' s2 nx hp => k x H' s2 ?_⟩
  · obtain ⟨q', hq, rfl⟩ := List.mem_map.mp hp
    obtain ⟨i, hi, e⟩ := List.mem_iff_getElem.mp hq
    have z := (ok i).zb
    rw [cf_lt hi, e] at z
    exact Nat.lt_trans z (Nat.pow_lt_pow_right (by decide) (by decide))
  · rw [low_pqsL, strip_map, stripQ_id sF] at hp
    exact hp
theorem poly_0 {H : Hp} {t : Addr} {Qd : Addr → Hp → Prop} {E : XK} (h : H t = some (.tup [])) (k : ∀ (x : Addr) (H' : Hp), Same H H' → PolyQ K CP H' x [] → Qd x H') :
    ∀ x dx, H x = none → H dx = none → dx ≠ x → spPolyI K CP CR (.ref x :: ([.ref t] ++ [])) (upd (upd H dx (.own x)) x (.ins CP dx [])) (fun w H2 => w = .non ∧ Qd x H2) E := by
  refine poly_made (d := .tuple []) (.tup (SqT.of h) .nil) (fun ds h => by cases h; decide) (fun ps h => ?_) (fun z => by cases z)
  cases h
  exact ⟨fun p hp => (by cases hp), fun x H' s2 nx hp => k x H' s2 hp⟩
theorem poly_1 {H : Hp} {t : Addr} {Qd : Addr → Hp → Prop} {E : XK} (h : H t = some (.tup [.int 1])) (k : ∀ (x : Addr) (H' : Hp), Same H H' → PolyQ K CP H' x [1] → Qd x H') :
    ∀ x dx, H x = none → H dx = none → dx ≠ x → spPolyI K CP CR (.ref x :: ([.ref t] ++ [])) (upd (upd H dx (.own x)) x (.ins CP dx [])) (fun w H2 => w = .non ∧ Qd x H2) E := by
  have hrow : rowD (.tuple [.int 1]) = some [(1, 1)] := rfl
  have hst : strip ([((1 : Int), (1 : Int))].map lowP) = ([1] : List Rat).map pq := by decide +kernel
  refine poly_made (d := .tuple [.int 1]) (.tup (SqT.of h) (.cons (.int 1) .nil)) (fun ds h => by cases h; decide) (fun ps' h => ?_) (fun z => by rw [hrow] at z; cases z)
  rw [hrow] at h
  cases h
  refine ⟨fun q hq => by rw [List.mem_singleton.mp hq]; exact Nat.one_lt_pow (by decide) (by decide), fun xf H25 s25 nxf made => ?_⟩
  rw [hst] at made
  exact k xf H25 s25 made
end
theorem bd_rat {q : Rat} {a b : Nat} (h : Bd2 q a b) (ha : a < 1200) (hb : b < 1200) : RatOk (pq q) := by
  refine ⟨pq_low _, Nat.lt_of_le_of_lt h.1 (Nat.pow_lt_pow_right (by decide) ha), ?_⟩
  show ((q.den : Int)).natAbs < _
  rw [Int.natAbs_natCast]
  exact Nat.lt_of_le_of_lt h.2 (Nat.pow_lt_pow_right (by decide) hb)
/-- the whole numbers among places -/
def isW (q : Rat) : Bool := decide (q.den = 1 ∧ 0 ≤ q.num)
def whs (qs : List Rat) : List Int := (qs.filter isW).map Rat.num
theorem whs_yes {qs : List Rat} {q : Rat} (h : isW q = true) : whs (qs ++ [q]) = whs qs ++ [q.num] := by
  unfold whs
  rw [List.filter_append, List.map_append, List.filter_cons_of_pos h]
  rfl
theorem whs_no {qs : List Rat} {q : Rat} (h : ¬isW q = true) : whs (qs ++ [q]) = whs qs := by
  unfold whs
  rw [List.filter_append, List.map_append, List.filter_cons_of_neg h]
  exact List.append_nil _
theorem whs_len (qs : List Rat) : (whs qs).length ≤ qs.length := by
  unfold whs
  rw [List.length_map]
  exact List.length_filter_le ..
theorem nat_rat {q : Rat} (h1 : q.den = 1) (h2 : 0 ≤ q.num) : ((q.num.toNat : Nat) : Rat) = q := by
  refine Rat.ext ?_ ?_
  · rw [Rat.num_natCast]
    omega
  · rw [Rat.den_natCast, h1]
theorem whs_mem {qs : List Rat} {n : Int} : n ∈ whs qs ↔ ∃ z : Nat, n = (z : Int) ∧ ((z : Nat) : Rat) ∈ qs := by
  unfold whs
  rw [List.mem_map]
  constructor
  · rintro ⟨q, hq, rfl⟩
    rw [List.mem_filter] at hq
    obtain ⟨h1, h2, h3⟩ := show q ∈ qs ∧ q.den = 1 ∧ 0 ≤ q.num from ⟨hq.1, of_decide_eq_true hq.2⟩
    refine ⟨q.num.toNat, by omega, ?_⟩
    rw [nat_rat h2 h3]
    exact h1
  · rintro ⟨z, rfl, h⟩
    refine ⟨_, List.mem_filter.mpr ⟨h, decide_eq_true ⟨Rat.den_natCast .., ?_⟩⟩, Rat.num_natCast ..⟩
    rw [Rat.num_natCast]
    omega
theorem tmv_uniq {q : Rat} {A : List Rat} {v u : V} (h : TmV q A v) (g : TmV q A u) : v = u := by
  rcases h with ⟨h1, h2⟩ | ⟨h1, h2, h3⟩ | ⟨h1, z, h2, h3, h4⟩ <;> rcases g with ⟨g1, g2⟩ | ⟨g1, g2, g3⟩ | ⟨g1, y, g2, g3, g4⟩
  · rw [h2, g2]
  · exact absurd h1 g1
  · exact absurd h1 g1
  · exact absurd g1 h1
  · rw [h2, g2]
  · exact absurd g3 (h3 y)
  · exact absurd g1 h1
  · exact absurd h3 (g3 z)
  · rcases Nat.lt_trichotomy z y with e | e | e
    · exact absurd h3 (g4 z e)
    · rw [h2, g2, e]
    · exact absurd g3 (h4 y e)
theorem tmv_dt {q : Rat} {A : List Rat} {v : V} (h : TmV q A v) : ∃ d : PyData, (∀ (K : PySem.W.Frag) (H : Hp), Dt K H v d) ∧ d.plain = true ∧ d.depth ≤ 60 := by
  rcases h with ⟨_, rfl⟩ | ⟨_, rfl, _⟩ | ⟨_, z, rfl, _⟩
  · exact ⟨.int 0, fun K H => .int 0, rfl, by decide⟩
  · exact ⟨.none, fun K H => .non, rfl, by decide⟩
  · exact ⟨.int _, fun K H => .int _, rfl, by simp [PyData.depth]⟩
theorem tmv_three {v : V} (h : TmV 3 [] v) : v = .int 1 := by
  rcases h with ⟨h, _⟩ | ⟨_, _, h⟩ | ⟨_, z, rfl, _, h⟩
  · exact absurd h (by decide +kernel)
  · exact absurd rfl (h 0)
  · cases z with
    | zero => rfl
    | succ z => exact absurd rfl (h 0 (by omega))
/-- what ends the row, by its sorted whole places -/
theorem tmv_sorted {q : Rat} {tops A : List Rat} (q0 : q ≠ 0) (hz : ∀ x, ev A x = 0 ↔ x ∈ tops) {ns : List Int} (hp : ns.Perm (whs tops)) (hs : ns.Pairwise (· ≤ ·)) : (ns = [] → TmV q A .non) ∧ ∀ z r, ns = z :: r → TmV q A (.int (z + 1)) := by
  have mem : ∀ n : Int, n ∈ ns ↔ ∃ z : Nat, n = (z : Int) ∧ ev A ((z : Nat) : Rat) = 0 := fun n => by
    rw [hp.mem_iff, whs_mem]
    constructor
    · rintro ⟨z, h1, h2⟩
      exact ⟨z, h1, (hz _).mpr h2⟩
    · rintro ⟨z, h1, h2⟩
      exact ⟨z, h1, (hz _).mp h2⟩
  refine ⟨fun e => .inr (.inl ⟨q0, rfl, fun z h => ?_⟩), fun z r e => .inr (.inr ⟨q0, ?_⟩)⟩
  · have := (mem (z : Int)).mpr ⟨z, rfl, h⟩
    rw [e] at this
    exact absurd this List.not_mem_nil
  · obtain ⟨n, hn, h0⟩ := (mem z).mp (by rw [e]; exact List.mem_cons_self ..)
    refine ⟨n, by rw [hn, Int.natCast_add]; rfl, h0, fun y hy h => ?_⟩
    have := (mem (y : Int)).mpr ⟨y, rfl, h⟩
    rw [e] at this hs
    rcases List.mem_cons.mp this with w | w
    · omega
    · have := (List.pairwise_cons.mp hs).1 _ w
      omega
section
variable {K : PySem.W.Frag} {CP CW CN : Addr}
theorem row_made {H : Hp} {v w u : V} {d e g : PyData} {xa xb : Addr} {A B : List Rat} {Qd : Addr → Hp → Prop} {E : XK} (dv : Dt K H v d) (dw : Dt K H w e) (du : Dt K H u g) (pA : PolyQ K CP H xa A) (pB : PolyQ K CP H xb B) (lw : B ≠ [] → Lw B)
    (h : ((partsD d).isSome = false ∧ RaisesN CN H (.str "start") v E) ∨ ((partsD d).isSome = true ∧
  ((fromD 1 e = false ∧ RaisesN CN H (.str "step") w E) ∨ (fromD 1 e = true ∧
  ((fromD 0 g = false ∧ RaisesN CN H (.str "shift") u E) ∨ (fromD 0 g = true ∧
  ((∃ z : Nat, ev B (z : Rat) = 0 ∧ (∀ y : Nat, y < z → ev B (y : Rat) ≠ 0) ∧ RaisesN CN H (.str "bottom") (.int (z : Int)) E) ∨
  ((∀ z : Nat, ev B (z : Rat) ≠ 0) ∧ ∃ (t b : Int) (q : Rat) (st sh : Int), partsD d = some (t, b) ∧ low t b = pq q ∧ b.natAbs < 2 ^ big ∧ e = .int st ∧ g = .int sh ∧ ∀ x H', Same H H' → RowAt K CP CW H' x q A B st sh xa xb → Qd x H')))))))) :
    ∀ x dx, H x = none → H dx = none → dx ≠ x → spRowI K CP CW CN (.ref x :: ([v, .ref xa, .ref xb, w, u] ++ [])) (upd (upd H dx (.own x)) x (.ins CW dx [])) (fun w H2 => w = .non ∧ Qd x H2) E := by
  intro x dx nx nd ne
  have s1 : Same H (upd (upd H dx (.own x)) x (.ins CW dx [])) := (same_upd nd).trans (same_upd (by rw [upd_ne (Ne.symm ne)]; exact nx))
  have hx : upd (upd H dx (.own x)) x (.ins CW dx []) x = some (.ins CW dx []) := upd_same
  generalize upd (upd H dx (.own x)) x (.ins CW dx []) = Hx at s1 hx ⊢
  refine ⟨x, dx, v, d, w, e, u, g, xa, xb, A, B, rfl, hx, dv.mono s1, dw.mono s1, du.mono s1, pA.same s1, pB.same s1, lw, ?_⟩
  rcases h with ⟨h1, er⟩ | ⟨h1, h⟩
  · exact .inl ⟨h1, RaisesN.same s1 er⟩
  refine .inr ⟨h1, ?_⟩
  rcases h with ⟨h2, er⟩ | ⟨h2, h⟩
  · exact .inl ⟨h2, RaisesN.same s1 er⟩
  refine .inr ⟨h2, ?_⟩
  rcases h with ⟨h3, er⟩ | ⟨h3, h⟩
  · exact .inl ⟨h3, RaisesN.same s1 er⟩
  refine .inr ⟨h3, ?_⟩
  rcases h with ⟨z, z0, z1, er⟩ | ⟨no, t, b, q, st, sh, hp, hl, hb, he, hg, hq⟩
  · exact .inl ⟨z, z0, z1, RaisesN.same s1 er⟩
  · exact .inr ⟨no, t, b, q, st, sh, hp, hl, hb, he, hg, fun H' kx hR => ⟨rfl, hq x H' (fun b o e => kx b o (ne_of_none e nx) (s1 _ _ e)) hR⟩⟩
end
theorem dtsL_ints {K : PySem.W.Frag} {H : Hp} : ∀ ns : List Int, Dts K H (ns.map V.int) (ns.map PyData.int)
  | [] => .nil
  | n :: r => .cons (.int n) (dtsL_ints r)
theorem plainL_ints : ∀ l : List Int, PyData.plainAll (l.map .int) = true
  | [] => by simp only [List.map_nil, PyData.plainAll]
  | p :: l => by simp only [List.map_cons, PyData.plainAll, plainL_ints l, PyData.plain, Bool.and_self]
theorem depthL_ints : ∀ l : List Int, PyData.depthAll (l.map .int) ≤ 1
  | [] => by simp only [List.map_nil, PyData.depthAll]; omega
  | p :: l => by
    have := depthL_ints l
    simp only [List.map_cons, PyData.depthAll, PyData.depth]
    omega
theorem plain_il (l : List Int) : (PyData.list (l.map .int)).plain = true := by
  show PyData.plainAll (l.map .int) = true
  exact plainL_ints l
theorem depth_il (l : List Int) : (PyData.list (l.map .int)).depth ≤ 60 := by
  have := depthL_ints l
  simp only [PyData.depth]
  omega
def ExtX (H H' : Hp) : Prop := ∀ b o, H b = some o → (∀ ps, o ≠ .tbl ps) → (∀ xs, o ≠ .lst xs) → H' b = some o
theorem ExtX.n {H H' : Hp} (e : ExtN H H') : ExtX H H' := fun b o h n _ => e b o h n
theorem ExtX.trans {H H1 H2 : Hp} (a : ExtX H H1) (b : ExtX H1 H2) : ExtX H H2 := fun c o h n m => b c o (a c o h n m) n m
theorem ExtX.lst {H : Hp} {l : Addr} {xs : List V} {o : HO} (h : H l = some (.lst xs)) : ExtX H (upd H l o) := fun b u e _ m => by
  rw [upd_ne (fun z => by rw [z, h] at e; cases e; exact m _ rfl)]
  exact e
theorem PolyQ.x {K : PySem.W.Frag} {CP : Addr} {H H' : Hp} {a : Addr} {qs : List Rat} (h : PolyQ K CP H a qs) (e : ExtX H H') : PolyQ K CP H' a qs := by
  obtain ⟨da, ta, za, h1, h2, h3⟩ := h
  exact ⟨da, ta, za, e _ _ h1 (fun ps z => by cases z) (fun ps z => by cases z), e _ _ h2 (fun ps z => by cases z) (fun ps z => by cases z), h3.imp fun c p z => e _ _ z (fun ps z => by cases z) (fun ps z => by cases z)⟩
theorem tabs_awL {T : List (Addr × Str)} {H H' : Hp} {d : Addr} {L : List V} (hd : H d = some (.lst L)) (k : ∀ c u, c ≠ d → H c = some u → H' c = some u) (t : Tabs T H) : Tabs T H' := fun y hy => by
  obtain ⟨ps, h1, h2, h3⟩ := t y hy
  refine ⟨ps, k _ _ (ne_of h1 hd (by intro z; cases z)) h1, h2, fun pos cv hc => ?_⟩
  obtain ⟨c', e1, e2⟩ := h3 pos cv hc
  exact ⟨c', e1, k _ _ (ne_of e2 hd (by intro z; unfold LamX.CodeO at z; cases z)) e2⟩
/-- a value that the law hands over: flat, or a pair of whole numbers -/
def Vs (H : Hp) (v : V) (d : PyData) : Prop := ((∀ (K : PySem.W.Frag) (H : Hp), Dt K H v d) ∨ ∃ b i j, v = .ref b ∧ d = .tuple [.int i, .int j] ∧ H b = some (.tup [.int i, .int j])) ∧ d.plain = true ∧ d.depth ≤ 10
theorem Vs.dt {K : PySem.W.Frag} {H : Hp} {v : V} {d : PyData} (h : Vs H v d) : Dt K H v d := by
  rcases h.1 with g | ⟨b, i, j, rfl, rfl, g⟩
  · exact g K H
  · exact .tup (SqT.of g) (.cons (.int _) (.cons (.int _) .nil))
theorem Vs.x {H H' : Hp} {v : V} {d : PyData} (h : Vs H v d) (e : ExtX H H') : Vs H' v d := by
  refine ⟨?_, h.2⟩
  rcases h.1 with g | ⟨b, i, j, rfl, rfl, g⟩
  · exact .inl g
  · exact .inr ⟨b, i, j, rfl, rfl, e _ _ g (fun ps z => by cases z) (fun ps z => by cases z)⟩
theorem Vs.int (H : Hp) (i : Int) : Vs H (.int i) (.int i) := ⟨.inl fun K H => .int i, rfl, by simp [PyData.depth]⟩
theorem Vs.non (H : Hp) : Vs H .non .none := ⟨.inl fun K H => .non, rfl, by simp [PyData.depth]⟩
theorem Vs.bl (H : Hp) (b : Bool) : Vs H (.bl b) (.bool b) := ⟨.inl fun K H => .bl b, rfl, by simp [PyData.depth]⟩
theorem Vs.str (H : Hp) (s : Str) : Vs H (.str s) (.str s) := ⟨.inl fun K H => .str s, rfl, by simp [PyData.depth]⟩
theorem Vs.pair {H : Hp} {b : Addr} {i j : Int} (h : H b = some (.tup [.int i, .int j])) : Vs H (.ref b) (.tuple [.int i, .int j]) := ⟨.inr ⟨b, i, j, rfl, rfl, h⟩, by simp [PyData.plain, PyData.plainAll], by simp [PyData.depth, PyData.depthAll]⟩
/-- what was found and what is told, the same -/
def Try (H : Hp) (a : Addr) : Prop := ∃ (tf tt : Addr) (w : Str) (v : V) (d : PyData), H a = some (.tup [.ref tf, .ref tt]) ∧ H tf = some (.tup [.str "number", .str w, v]) ∧ H tt = some (.tup [.str "number", .str w, v]) ∧ Vs H v d
theorem Try.x {H H' : Hp} {a : Addr} (h : Try H a) (e : ExtX H H') : Try H' a := by
  obtain ⟨tf, tt, w, v, d, h1, h2, h3, h4⟩ := h
  exact ⟨tf, tt, w, v, d, e _ _ h1 (fun ps z => by cases z) (fun ps z => by cases z), e _ _ h2 (fun ps z => by cases z) (fun ps z => by cases z), e _ _ h3 (fun ps z => by cases z) (fun ps z => by cases z), h4.x e⟩
section
variable {P : Program} {w : World} {K : PySem.W.Frag} {mg : Str → Option Value} {base : Heap} {C : Nat → Addr} {CP CW : Addr}
abbrev sLaw : Stmt := topS 91
theorem scLaw : FnScope ["_law_script", "_law_pen_here", "_law_tops", "_law_bottoms", "_law_row", "_law_made", "_law_due", "_law_k", "_law_whole", "_law_place", "_law_ends", "_law_odd", "_law_some", "_law_zero", "_law_bad", "_law_top", "_law_start", "_law_step", "_law_shift", "_law_tries", "_law_found", "_law_told"] ["_law_script"] (defScope sLaw) := ⟨rfl, rfl, rfl, by decide +kernel, rfl, by decide +kernel, by decide +kernel⟩
theorem ok_law {f : Addr} {fd : FuncData} (F : Fun K "law" "law" sLaw f fd) (T : Bk mg) (hsorted : mg "sorted" = none) (hmin : mg "min" = none) (hall : mg "all" = none) (W : W19 K mg C) (hm1 : M1 base) (c Pt : Addr) (hfc : fd.code = .ref c) (hTB : LamX.TabB base mg c Pt) (Y : Yf K mg) (PM : PoM P w K mg base CP (C 2)) (RM : RoM P w K mg base CP CW (C 1))
    (G__law_pen : Df P w K mg base "_law_pen" 1 ["_law_script"] (spPen K))
    (G__law_draw : Df P w K mg base "_law_draw" 1 ["_law_pen_here", "_law_many"] spDraw)
    (G__law_pick : Df P w K mg base "_law_pick" 2 ["_law_pen_here", "_law_some"] spPick)
    (G__law_ratio : Df P w K mg base "_law_ratio" 3 ["_law_pen_here", "_law_most"] spRatio)
    (G__law_places : Df P w K mg base "_law_places" 3 ["_law_pen_here", "_law_many", "_law_has_whole"] spPlaces)
    (G__law_factors : Df P w K mg base "_law_factors" 5 ["_law_pen_here", "_law_zeros"] spFactors)
    (G__law_made_row : Df P w K mg base "_law_made_row" 13 ["_law_pen_here", "_law_row"] (spMR K CP CW))
    (G__law_row_numbers : Df P w K mg base "_law_row_numbers" 5 ["_law_row", "_law_many"] spRN)
    (G_number_at : Dx P w K mg base "number_at" 12 ["row", "k"] (spNA K CP CW (C 1)))
    (G_terms_of : Dx P w K mg base "terms_of" 11 ["row"] (spTerms K CP CW)) : FnG P w K mg base CX0 15 f fd ["_law_script"] (spLaw K Pt) := by
  refine fnG_of1 F scLaw (fun vs H Q E h => ?_) (fun cdv A outer s H0 vs Q E hgu hr hcd h => ?_)
  · obtain ⟨a, ns, rfl, _⟩ := h
    rfl
  · obtain ⟨sc, ns, rfl, hS, hns, hPt, kend⟩ := h
    have hu64 := hr.units
    have hu := Nat.lt_of_le_of_lt (Nat.add_le_add_left (show 1 ≤ 64 by decide) _) hu64
    have hcd : cdv = .ref c := hcd.symm.trans hfc
    refine ⟨_, (pss_cons (ps_set (i := 1) scLaw.nd rfl (Or.inl rfl) (pe_call G__law_pen.ok (hr.mono (by decide)) rfl G__law_pen.m G__law_pen.kp G__law_pen.b .nil pass0 (pa_cons (pv 0) pa_nil)))
  (pss_cons (ps_par (i := 2) (j := 3) (by rfl) scLaw.nd rfl rfl (by decide) rfl rfl (pa_cons (pe_call G__law_places.ok (hr.mono (by decide)) rfl G__law_places.m G__law_places.kp G__law_places.b .nil pass0 (pa_cons (pv 1) (pa_cons pe_int (pa_cons pe_bl pa_nil)))) (pa_cons (pe_call G__law_places.ok (hr.mono (by decide)) rfl G__law_places.m G__law_places.kp G__law_places.b .nil pass0 (pa_cons (pv 1) (pa_cons pe_int (pa_cons pe_bl pa_nil)))) pa_nil)) (by rfl))
  (pss_cons (ps_set (i := 4) scLaw.nd rfl (Or.inl rfl) (pe_disp (pps_cons pe_str (pe_call G__law_ratio.ok (hr.mono (by decide)) rfl G__law_ratio.m G__law_ratio.kp G__law_ratio.b .nil pass0 (pa_cons (pv 1) (pa_cons pe_int pa_nil))) (pps_cons pe_str (pe_call G__law_factors.ok (hr.mono (by decide)) rfl G__law_factors.m G__law_factors.kp G__law_factors.b .nil pass0 (pa_cons (pv 1) (pa_cons (pv 2) pa_nil))) (pps_cons pe_str (pe_call G__law_factors.ok (hr.mono (by decide)) rfl G__law_factors.m G__law_factors.kp G__law_factors.b .nil pass0 (pa_cons (pv 1) (pa_cons (pv 3) pa_nil))) pps_nil))) (by rfl) (by rfl) (fun z => by cases z) (by decide)))
  (pss_cons (ps_asg (pe_tup (pa_cons (pe_op op_add pe_int (pe_call G__law_draw.ok (hr.mono (by decide)) rfl G__law_draw.m G__law_draw.kp G__law_draw.b .nil pass0 (pa_cons (pv 1) (pa_cons pe_int pa_nil)))) (pa_cons (pe_call G__law_draw.ok (hr.mono (by decide)) rfl G__law_draw.m G__law_draw.kp G__law_draw.b .nil pass0 (pa_cons (pv 1) (pa_cons pe_int pa_nil))) pa_nil))) (pg_tup (by rfl) (pgs_cons (pg_sub (pv 4) pe_str (set_dict hu)) (pgs_cons (pg_sub (pv 4) pe_str (set_dict hu)) pgs_nil))))
  (pss_cons (ps_set (i := 5) scLaw.nd rfl (Or.inr rfl) (pe_call G__law_made_row.ok (hr.mono (by decide)) rfl G__law_made_row.m G__law_made_row.kp G__law_made_row.b .nil pass0 (pa_cons (pv 1) (pa_cons (pv 4) pa_nil))))
  (pss_cons (ps_if (pt_cmpR (op_neT hu64 hm1) (pe_tup (pa_cons (pe_fld (pv 5) rfl) (pa_cons (pe_fld (pv 5) rfl) (pa_cons (pe_fld (pv 5) rfl) pa_nil)))) (pe_tup (pa_cons (pe_dget hu (pv 4) pe_str (fun _ _ => rfl)) (pa_cons (pe_dget hu (pv 4) pe_str (fun _ _ => rfl)) (pa_cons (pe_dget hu (pv 4) pe_str (fun _ _ => rfl)) pa_nil)))) (nomark _))
    (pss_one (ps_ret pe_bl))
    pss_nil)
  (pss_cons (ps_if (PW.pt (pw_or (pt_not (pt_cmpR (op_eqO PM.aE PM.nE PM.okE PM.bE (hr.mono (by decide)) pass0) (pe_fld (pv 5) rfl) (pe_make PM.mkI PM.okI (hr.mono (by decide)) rfl PM.C.m PM.bI .nil passL (pa_cons (pe_dget hu (pv 4) pe_str (fun _ _ => rfl)) pa_nil)) (nomark _))) (pw_or1 (pt_not (pt_cmpR (op_eqO PM.aE PM.nE PM.okE PM.bE (hr.mono (by decide)) pass0) (pe_fld (pv 5) rfl) (pe_make PM.mkI PM.okI (hr.mono (by decide)) rfl PM.C.m PM.bI .nil passL (pa_cons (pe_dget hu (pv 4) pe_str (fun _ _ => rfl)) pa_nil)) (nomark _))))))
    (pss_one (ps_ret pe_bl))
    pss_nil)
  (pss_cons (ps_set (i := 6) scLaw.nd rfl (Or.inl rfl) (pe_call G__law_row_numbers.ok (hr.mono (by decide)) rfl G__law_row_numbers.m G__law_row_numbers.kp G__law_row_numbers.b .nil pass0 (pa_cons (pv 4) (pa_cons pe_int pa_nil))))
  (pss_cons (ps_for PassesOwn.never rfl (pi_seq (pe_lst (pa_cons pe_int (pa_cons pe_int (pa_cons (pe_call G__law_draw.ok (hr.mono (by decide)) rfl G__law_draw.m G__law_draw.kp G__law_draw.b .nil pass0 (pa_cons (pv 1) (pa_cons pe_int pa_nil))) pa_nil))))) (pg_name (i := 7) scLaw.nd rfl (Or.inl rfl))
    (pss_one (ps_if (pt_cmpR (op_neT hu64 hm1) (pe_call G_number_at.ok (hr.mono (by decide)) rfl G_number_at.m G_number_at.kp G_number_at.b .nil passL (pa_cons (pv 5) (pa_cons (pv 7) pa_nil))) (pe_ix ix_list (pv 6) (pv 7) (fun _ _ => rfl)) (nomark _))
      (pss_one (ps_ret pe_bl))
      pss_nil)))
  (pss_cons (ps_set (i := 8) scLaw.nd rfl (Or.inl rfl) (pe_callB cr_sortedI (by rfl) hsorted (by decide +kernel) (pa_cons (pe_lc (own := [("_law_place", 9)]) (g := (gName 9)) (tt := _) rfl scLaw.nd (pi_seq (pv 2)) (blkOk_by (N := ["_law_script", "_law_pen_here", "_law_tops", "_law_bottoms", "_law_row", "_law_made", "_law_due", "_law_k", "_law_whole", "_law_place", "_law_ends", "_law_odd", "_law_some", "_law_zero", "_law_bad", "_law_top", "_law_start", "_law_step", "_law_shift", "_law_tries", "_law_found", "_law_told"]) (sc := defScope sLaw) (by decide +kernel)) (fun _ _ _ _ _ => pg_name (i := 9) scLaw.nd rfl (Or.inl rfl)) (fun _ _ _ _ _ => pts_one (PW.pt (pw_and (pt_cmpR op_eq (pe_ix (r := rIxT K) ix_tup (pv 9) pe_int (fun _ _ => rfl)) pe_int (nomark _)) (pw_and1 (pt_cmpR op_ge (pe_ix (r := rIxT K) ix_tup (pv 9) pe_int (fun _ _ => rfl)) pe_int (nomark _)))))) (fun _ _ _ _ _ => (pe_ix (r := rIxT K) ix_tup (pv 9) pe_int (fun _ _ => rfl)))) pa_nil)))
  (pss_cons (ps_set (i := 10) scLaw.nd rfl (Or.inl rfl) (pe_ifExp (pt_cmpR op_eq (pe_ix (r := rIxT K) ix_tup (pe_dget hu (pv 4) pe_str (fun _ _ => rfl)) pe_int (fun _ _ => rfl)) pe_int (nomark _)) pe_int (pe_ifExp (pt_cmpR (op_neT hu64 hm1) (pv 8) (pe_lst pa_nil) (nomark _)) (pe_op op_add (pe_ix ix_list (pv 8) pe_int (fun _ _ => rfl)) pe_int) pe_non)))
  (pss_cons (ps_if (PW.pt (pw_or (pt_cmpR (op_neT hu64 hm1) (pe_call G_terms_of.ok (hr.mono (by decide)) rfl G_terms_of.m G_terms_of.kp G_terms_of.b .nil passL (pa_cons (pv 5) pa_nil)) (pv 10) (nomark _)) (pw_or1 (pt_cmpR (op_neT hu64 hm1) (pe_call G_terms_of.ok (hr.mono (by decide)) rfl G_terms_of.m G_terms_of.kp G_terms_of.b .nil passL (pa_cons (pe_make RM.mkI RM.okI (hr.mono (by decide)) rfl RM.C.m RM.bI .nil passL (pa_cons pe_int (pa_cons (pe_make PM.mkI PM.okI (hr.mono (by decide)) rfl PM.C.m PM.bI .nil passL (pa_cons (pe_tup pa_nil) pa_nil)) (pa_cons (pe_make PM.mkI PM.okI (hr.mono (by decide)) rfl PM.C.m PM.bI .nil passL (pa_cons (pe_tup (pa_cons pe_int pa_nil)) pa_nil)) (pa_cons pe_int (pa_cons pe_int pa_nil)))))) pa_nil)) pe_int (nomark _)))))
    (pss_one (ps_ret pe_bl))
    pss_nil)
  (pss_cons (ps_set (i := 11) scLaw.nd rfl (Or.inr rfl) (pe_call G__law_pick.ok (hr.mono (by decide)) rfl G__law_pick.m G__law_pick.kp G__law_pick.b .nil pass0 (pa_cons (pv 1) (pa_cons (pe_lst (pa_cons (pe_un un_neg pe_int) (pa_cons pe_bl (pa_cons pe_non (pa_cons pe_str (pa_cons (pe_tup (pa_cons pe_int (pa_cons pe_int pa_nil))) (pa_cons (pe_op op_mulW (pe_op op_pow pe_int pe_int) (pe_un un_neg pe_int)) pa_nil))))))) pa_nil))))
  (pss_cons (ps_if (pt_cmpR (op_neT hu64 hm1) (LamX.pe_lamcall (T := Ts Pt) (TT := TFault C) (k := 12) rfl Y.m Y.kp Y.lk Y.hc Y.b scWhy rfl (.inl rfl) (why_gives W) hTB hcd (by rw [qual_eq]; exact ts_mem Pt) (by rw [qual_eq]; exact ts_only Pt) (hr.mono (by decide)) (show LamX.LamS (defScope sLaw) _ from LamX.lamS_by (by decide +kernel)) rfl (fun _ _ _ _ _ => rfl) (fun A' out' s' H' E' f' c' hr' => (pe_call G_number_at.ok (hr'.mono (by decide)) rfl G_number_at.m G_number_at.kp G_number_at.b .nil (E := E') (passes_call (takes_of rfl rfl rfl rfl) (fun _ _ _ _ h => h)) (pa_cons (pv 5) (pa_cons (pv 11) pa_nil))))) (pe_tup (pa_cons pe_str (pa_cons pe_str (pa_cons (pv 11) pa_nil)))) (nomark _))
    (pss_one (ps_ret pe_bl))
    pss_nil)
  (pss_cons (ps_set (i := 12) scLaw.nd rfl (Or.inl rfl) (pe_op op_cat (pe_call G__law_places.ok (hr.mono (by decide)) rfl G__law_places.m G__law_places.kp G__law_places.b .nil pass0 (pa_cons (pv 1) (pa_cons pe_int (pa_cons pe_bl pa_nil)))) (pe_lst (pa_cons (pe_tup (pa_cons (pe_call G__law_pick.ok (hr.mono (by decide)) rfl G__law_pick.m G__law_pick.kp G__law_pick.b .nil pass0 (pa_cons (pv 1) (pa_cons (pe_lst (pa_cons pe_int (pa_cons pe_int (pa_cons pe_int (pa_cons (pe_op op_pow pe_int pe_int) pa_nil))))) pa_nil))) (pa_cons pe_int pa_nil))) pa_nil))))
  (pss_cons (ps_set (i := 13) scLaw.nd rfl (Or.inl rfl) (pe_callB (cr_min rfl) (by rfl) hmin (by decide +kernel) (pa_cons (pe_lc (own := [("_law_place", 9)]) (g := (gName 9)) (tt := _) rfl scLaw.nd (pi_seq (pv 12)) (blkOk_by (N := ["_law_script", "_law_pen_here", "_law_tops", "_law_bottoms", "_law_row", "_law_made", "_law_due", "_law_k", "_law_whole", "_law_place", "_law_ends", "_law_odd", "_law_some", "_law_zero", "_law_bad", "_law_top", "_law_start", "_law_step", "_law_shift", "_law_tries", "_law_found", "_law_told"]) (sc := defScope sLaw) (by decide +kernel)) (fun _ _ _ _ _ => pg_name (i := 9) scLaw.nd rfl (Or.inl rfl)) (fun _ _ _ _ _ => pts_one (PW.pt (pw_and (pt_cmpR op_eq (pe_ix (r := rIxT K) ix_tup (pv 9) pe_int (fun _ _ => rfl)) pe_int (nomark _)) (pw_and1 (pt_cmpR op_ge (pe_ix (r := rIxT K) ix_tup (pv 9) pe_int (fun _ _ => rfl)) pe_int (nomark _)))))) (fun _ _ _ _ _ => (pe_ix (r := rIxT K) ix_tup (pv 9) pe_int (fun _ _ => rfl)))) pa_nil)))
  (pss_cons (ps_asg (pe_tup (pa_cons (pe_make PM.mkI PM.okI (hr.mono (by decide)) rfl PM.C.m PM.bI .nil passL (pa_cons (pe_call G__law_factors.ok (hr.mono (by decide)) rfl G__law_factors.m G__law_factors.kp G__law_factors.b .nil pass0 (pa_cons (pv 1) (pa_cons (pv 12) pa_nil))) pa_nil)) (pa_cons (pe_make PM.mkI PM.okI (hr.mono (by decide)) rfl PM.C.m PM.bI .nil passL (pa_cons (pe_tup (pa_cons pe_int pa_nil)) pa_nil)) pa_nil))) (pg_tup (by rfl) (pgs_cons (pg_name (i := 14) scLaw.nd rfl (Or.inr rfl)) (pgs_cons (pg_name (i := 15) scLaw.nd rfl (Or.inr rfl)) pgs_nil))))
  (pss_cons (ps_asg (pe_tup (pa_cons (pe_call G__law_pick.ok (hr.mono (by decide)) rfl G__law_pick.m G__law_pick.kp G__law_pick.b .nil pass0 (pa_cons (pv 1) (pa_cons (pe_lst (pa_cons pe_non (pa_cons pe_str (pa_cons (pe_tup (pa_cons pe_int (pa_cons pe_int pa_nil))) (pa_cons pe_bl pa_nil))))) pa_nil))) (pa_cons (pe_call G__law_pick.ok (hr.mono (by decide)) rfl G__law_pick.m G__law_pick.kp G__law_pick.b .nil pass0 (pa_cons (pv 1) (pa_cons (pe_lst (pa_cons pe_int (pa_cons (pe_un un_neg pe_int) (pa_cons pe_non (pa_cons pe_bl (pa_cons pe_str pa_nil)))))) pa_nil))) pa_nil))) (pg_tup (by rfl) (pgs_cons (pg_name (i := 16) scLaw.nd rfl (Or.inr rfl)) (pgs_cons (pg_name (i := 17) scLaw.nd rfl (Or.inr rfl)) pgs_nil))))
  (pss_cons (ps_set (i := 18) scLaw.nd rfl (Or.inr rfl) (pe_call G__law_pick.ok (hr.mono (by decide)) rfl G__law_pick.m G__law_pick.kp G__law_pick.b .nil pass0 (pa_cons (pv 1) (pa_cons (pe_lst (pa_cons (pe_un un_neg pe_int) (pa_cons pe_non (pa_cons pe_bl (pa_cons pe_str pa_nil))))) pa_nil))))
  (pss_cons (ps_set (i := 19) scLaw.nd rfl (Or.inl rfl) (pe_lst (pa_cons (pe_tup (pa_cons (LamX.pe_lamcall (T := Ts Pt) (TT := TFault C) (k := 12) rfl Y.m Y.kp Y.lk Y.hc Y.b scWhy rfl (.inl rfl) (why_gives W) hTB hcd (by rw [qual_eq]; exact ts_mem Pt) (by rw [qual_eq]; exact ts_only Pt) (hr.mono (by decide)) (show LamX.LamS (defScope sLaw) _ from LamX.lamS_by (by decide +kernel)) rfl (fun _ _ _ _ _ => rfl) (fun A' out' s' H' E' f' c' hr' => (pe_make RM.mkI RM.okI (hr'.mono (by decide)) rfl RM.C.m RM.bI .nil (E := E') (passes_call (takes_of rfl rfl rfl rfl) (fun _ _ _ _ h => h)) (pa_cons (pv 16) (pa_cons (pv 15) (pa_cons (pv 14) (pa_cons (pv 17) (pa_cons (pv 18) pa_nil)))))))) (pa_cons (pe_tup (pa_cons pe_str (pa_cons pe_str (pa_cons (pv 16) pa_nil)))) pa_nil))) pa_nil)))
  (pss_cons (ps_expr (pe_bm PySem.F.plainAttrs_list PySem.F.slot_list_append PySem.F.type_list_append mt_append (pv 19) (pa_cons (pe_tup (pa_cons (LamX.pe_lamcall (T := Ts Pt) (TT := TFault C) (k := 12) rfl Y.m Y.kp Y.lk Y.hc Y.b scWhy rfl (.inl rfl) (why_gives W) hTB hcd (by rw [qual_eq]; exact ts_mem Pt) (by rw [qual_eq]; exact ts_only Pt) (hr.mono (by decide)) (show LamX.LamS (defScope sLaw) _ from LamX.lamS_by (by decide +kernel)) rfl (fun _ _ _ _ _ => rfl) (fun A' out' s' H' E' f' c' hr' => (pe_make RM.mkI RM.okI (hr'.mono (by decide)) rfl RM.C.m RM.bI .nil (E := E') (passes_call (takes_of rfl rfl rfl rfl) (fun _ _ _ _ h => h)) (pa_cons pe_int (pa_cons (pv 15) (pa_cons (pv 14) (pa_cons (pv 17) (pa_cons (pv 18) pa_nil)))))))) (pa_cons (pe_tup (pa_cons pe_str (pa_cons pe_str (pa_cons (pv 17) pa_nil)))) pa_nil))) pa_nil)))
  (pss_cons (ps_expr (pe_bm PySem.F.plainAttrs_list PySem.F.slot_list_append PySem.F.type_list_append mt_append (pv 19) (pa_cons (pe_tup (pa_cons (LamX.pe_lamcall (T := Ts Pt) (TT := TFault C) (k := 12) rfl Y.m Y.kp Y.lk Y.hc Y.b scWhy rfl (.inl rfl) (why_gives W) hTB hcd (by rw [qual_eq]; exact ts_mem Pt) (by rw [qual_eq]; exact ts_only Pt) (hr.mono (by decide)) (show LamX.LamS (defScope sLaw) _ from LamX.lamS_by (by decide +kernel)) rfl (fun _ _ _ _ _ => rfl) (fun A' out' s' H' E' f' c' hr' => (pe_make RM.mkI RM.okI (hr'.mono (by decide)) rfl RM.C.m RM.bI .nil (E := E') (passes_call (takes_of rfl rfl rfl rfl) (fun _ _ _ _ h => h)) (pa_cons (pe_tup (pa_cons pe_int (pa_cons pe_int pa_nil))) (pa_cons (pv 15) (pa_cons (pv 14) (pa_cons pe_int (pa_cons (pv 18) pa_nil)))))))) (pa_cons (pe_tup (pa_cons pe_str (pa_cons pe_str (pa_cons (pv 18) pa_nil)))) pa_nil))) pa_nil)))
  (pss_cons (ps_expr (pe_bm PySem.F.plainAttrs_list PySem.F.slot_list_append PySem.F.type_list_append mt_append (pv 19) (pa_cons (pe_tup (pa_cons (LamX.pe_lamcall (T := Ts Pt) (TT := TFault C) (k := 12) rfl Y.m Y.kp Y.lk Y.hc Y.b scWhy rfl (.inl rfl) (why_gives W) hTB hcd (by rw [qual_eq]; exact ts_mem Pt) (by rw [qual_eq]; exact ts_only Pt) (hr.mono (by decide)) (show LamX.LamS (defScope sLaw) _ from LamX.lamS_by (by decide +kernel)) rfl (fun _ _ _ _ _ => rfl) (fun A' out' s' H' E' f' c' hr' => (pe_make RM.mkI RM.okI (hr'.mono (by decide)) rfl RM.C.m RM.bI .nil (E := E') (passes_call (takes_of rfl rfl rfl rfl) (fun _ _ _ _ h => h)) (pa_cons pe_int (pa_cons (pv 15) (pa_cons (pv 14) (pa_cons pe_int (pa_cons pe_int pa_nil)))))))) (pa_cons (pe_tup (pa_cons pe_str (pa_cons pe_str (pa_cons (pv 13) pa_nil)))) pa_nil))) pa_nil)))
  (pss_cons (ps_expr (pe_bm PySem.F.plainAttrs_list PySem.F.slot_list_append PySem.F.type_list_append mt_append (pv 19) (pa_cons (pe_tup (pa_cons (LamX.pe_lamcall (T := Ts Pt) (TT := TFault C) (k := 12) rfl Y.m Y.kp Y.lk Y.hc Y.b scWhy rfl (.inl rfl) (why_gives W) hTB hcd (by rw [qual_eq]; exact ts_mem Pt) (by rw [qual_eq]; exact ts_only Pt) (hr.mono (by decide)) (show LamX.LamS (defScope sLaw) _ from LamX.lamS_by (by decide +kernel)) rfl (fun _ _ _ _ _ => rfl) (fun A' out' s' H' E' f' c' hr' => (pe_make RM.mkI RM.okI (hr'.mono (by decide)) rfl RM.C.m RM.bI .nil (E := E') (passes_call (takes_of rfl rfl rfl rfl) (fun _ _ _ _ h => h)) (pa_cons pe_int (pa_cons (pv 15) (pa_cons (pe_make PM.mkI PM.okI (hr'.mono (by decide)) rfl PM.C.m PM.bI .nil (E := E') (passes_call (takes_of rfl rfl rfl rfl) (fun _ _ _ _ h => h)) (pa_cons (pe_tup pa_nil) pa_nil)) (pa_cons pe_int (pa_cons pe_int pa_nil)))))))) (pa_cons (pe_tup (pa_cons pe_str (pa_cons pe_str (pa_cons pe_int pa_nil)))) pa_nil))) pa_nil)))
  (pss_one (ps_ret (pe_callB (cr_all rfl) (by rfl) hall (by decide +kernel) (pa_cons (pe_lc (own := [("_law_found", 20), ("_law_told", 21)]) (g := (gTup K 2 (gCons (gName 20) (gCons (gName 21) gNil)))) (tt := tYes) rfl scLaw.nd (pi_seq (pv 19)) (blkOk_by (N := ["_law_script", "_law_pen_here", "_law_tops", "_law_bottoms", "_law_row", "_law_made", "_law_due", "_law_k", "_law_whole", "_law_place", "_law_ends", "_law_odd", "_law_some", "_law_zero", "_law_bad", "_law_top", "_law_start", "_law_step", "_law_shift", "_law_tries", "_law_found", "_law_told"]) (sc := defScope sLaw) (by decide +kernel)) (fun _ _ _ _ _ => pg_tup rfl (pgs_cons (pg_name (i := 20) scLaw.nd rfl (Or.inl rfl)) (pgs_cons (pg_name (i := 21) scLaw.nd rfl (Or.inl rfl)) pgs_nil))) (fun _ _ _ _ _ => pts_nil) (fun _ _ _ _ _ => (pe_cmpR (show OpR _ _ (rEqT K) from op_eqT hu64 hm1) (pv 20) (pv 21) (nomark _)))) pa_nil)))))))))))))))))))))))))))), ?_⟩
    refine ⟨_, rfl, sc, ns, rfl, hS, hns, fun p lc H1 s1 np nlc hP => ?_⟩
    have T1 : Tabs (Ts Pt) H1 := fun y hy => by
      rw [List.mem_singleton.mp hy]
      exact TabS.nil (s1 _ _ hPt)
    -- places
    refine gn_par_two ?_
    refine ⟨_, rfl, p, lc, 0, 4, true, rfl, hP, by decide, by decide, by decide, fun lt tops H2 hP2 k2 rt lt4 gt _ => ?_⟩
    refine ⟨_, rfl, p, lc, _, 4, false, rfl, hP2, by omega, by decide, by decide, fun lb bots H3 hP3 k3 rb lb4 gb hb => ?_⟩
    have T3 := tabs_kp hP2 k3 (tabs_kp hP k2 T1)
    have rt3 : RL H3 lt tops := rt.kp hP2 k3
    -- the dict
    intro d nd
    have sd : Same H3 (upd H3 d (.dK [])) := same_upd nd
    have ed : upd H3 d (HO.dK []) d = some (HO.dK []) := upd_same
    obtain ⟨dp, dl⟩ := hP3.ne_new nd
    generalize upd H3 d (.dK []) = H4 at sd ed ⊢
    have hP4 := hP3.same sd
    refine ⟨_, rfl, p, lc, _, 5, rfl, by decide, by decide, hP4, by omega, fun r t b H5 hP5 k5 e5 lw zt zb => ?_⟩
    refine ⟨_, rfl, _, rfl, ?_⟩
    refine tnil_k ?_
    refine ⟨p, lc, lt, _, tops, rfl, hP5, by omega, (rt3.same sd).kp hP4 k5, by omega, fun z hz => (gt z hz).1, fun la Fa ca H6 hP6 k6 ra sa ca0 fca ea => ?_⟩
    refine ⟨_, rfl, _, rfl, ?_⟩
    refine tnil_k ?_
    refine ⟨p, lc, lb, _, bots, rfl, hP6, by omega, ((rb.same sd).kp hP4 k5).kp hP5 k6, by omega, fun z hz => (gb z hz).1, fun lc2 Fb cb H7 hP7 k7 rb7 sb cb0 fcb eb => ?_⟩
    have d7 := k7 _ _ dp (k6 _ _ dp (k5 _ _ dp ed))
    refine ⟨d7, [(.inr "start", .ref r), (.inr "top", .ref la), (.inr "bottom", .ref lc2)], rfl, (by show 3 ≤ 15; decide), ?_⟩
    rw [drm]
    obtain ⟨q, eq⟩ := low_is_pq (p := (t, b)) lw
    have h1 : t = q.num := congrArg Prod.fst eq
    have h2 : b = (q.den : Int) := congrArg Prod.snd eq
    have tr5 : TR H5 r q := by
      unfold TR
      rw [e5, h1, h2]
    have hq : Bd2 q 9 7 := by
      rw [h1] at zt
      rw [h2, Int.natAbs_natCast] at zb
      refine ⟨?_, ?_⟩
      · show q.num.natAbs ≤ 512
        omega
      · show q.den ≤ 128
        omega
    clear e5 zt zb lw h1 h2 eq
    have tr7 : TR H7 r q := (tr5.kp hP5 k6).kp hP6 k7
    have ra7 : RL H7 la Fa := ra.kp hP6 k7
    have rt7 : RL H7 lt tops := (((rt3.same sd).kp hP4 k5).kp hP5 k6).kp hP6 k7
    have T7 := tabs_kp hP6 k7 (tabs_kp hP5 k6 (tabs_kp hP4 k5 (T3.ext sd)))
    have a8 : ∀ c u, c ≠ d → H7 c = some u → upd H7 d (.dK [(.inr "start", .ref r), (.inr "top", .ref la), (.inr "bottom", .ref lc2)]) c = some u := upd_away
    have e8 : upd H7 d (.dK [(.inr "start", .ref r), (.inr "top", .ref la), (.inr "bottom", .ref lc2)]) d = some (.dK [(.inr "start", .ref r), (.inr "top", .ref la), (.inr "bottom", .ref lc2)]) := upd_same
    generalize upd H7 d (.dK [(.inr "start", .ref r), (.inr "top", .ref la), (.inr "bottom", .ref lc2)]) = H8 at a8 e8 ⊢
    have tr8 := tr7.aw d7 a8
    have ra8 := ra7.aw d7 a8
    have rb8 := rb7.aw d7 a8
    have rt8 := rt7.aw d7 a8
    have T8 := tabs_aw d7 a8 T7
    have hP8 := hP7.put a8 dp dl
    clear tr5 tr7 ra7 rb7 rt7 T7 ra rt3 rt rb T3 T1 d7 a8
    -- step and shift
    refine ⟨_, rfl, p, lc, _, 6, rfl, hP8, by omega, by decide, by decide, fun z1 H9 z10 z11 hP9 k9 => ⟨_, _, rfl, rfl, ?_⟩⟩
    refine ⟨_, rfl, p, lc, _, 7, rfl, hP9, by omega, by decide, by decide, fun z2 H10 z20 z21 hP10 k10 => ⟨(by show 2 ≤ sizeLine; decide), fun ts nts => ?_⟩⟩
    have es : upd H10 ts (HO.tup [V.int (1 + z1), V.int z2]) ts = some (HO.tup [V.int (1 + z1), V.int z2]) := upd_same
    have s11 : Same H10 (upd H10 ts (HO.tup [V.int (1 + z1), V.int z2])) := same_upd nts
    generalize upd H10 ts (HO.tup [V.int (1 + z1), V.int z2]) = H11 at es s11 ⊢
    refine ⟨ts, _, rfl, SqT.of es, rfl, _, _, rfl, ?_⟩
    have d11 := s11 _ _ (k10 _ _ dp (k9 _ _ dp e8))
    refine ⟨_, rfl, d, _, rfl, DPut.k (k := Sum.inr "step") d11 (by show 3 < sizeLine; decide), ?_⟩
    rw [drp1]
    have a12 : ∀ c u, c ≠ d → H11 c = some u → upd H11 d (.dK [(.inr "start", .ref r), (.inr "top", .ref la), (.inr "bottom", .ref lc2), (.inr "step", .int (1 + z1))]) c = some u := upd_away
    have e12 : upd H11 d (.dK [(.inr "start", .ref r), (.inr "top", .ref la), (.inr "bottom", .ref lc2), (.inr "step", .int (1 + z1))]) d = some (.dK [(.inr "start", .ref r), (.inr "top", .ref la), (.inr "bottom", .ref lc2), (.inr "step", .int (1 + z1))]) := upd_same
    generalize upd H11 d (.dK [(.inr "start", .ref r), (.inr "top", .ref la), (.inr "bottom", .ref lc2), (.inr "step", .int (1 + z1))]) = H12 at a12 e12 ⊢
    refine ⟨_, _, rfl, _, rfl, d, _, rfl, DPut.k (k := Sum.inr "shift") e12 (by show 4 < sizeLine; decide), rfl, ?_⟩
    rw [drp2]
    have a13 : ∀ c u, c ≠ d → H12 c = some u → upd H12 d (.dK [(.inr "start", .ref r), (.inr "top", .ref la), (.inr "bottom", .ref lc2), (.inr "step", .int (1 + z1)), (.inr "shift", .int z2)]) c = some u := upd_away
    have hD : DRow (upd H12 d (.dK [(.inr "start", .ref r), (.inr "top", .ref la), (.inr "bottom", .ref lc2), (.inr "step", .int (1 + z1)), (.inr "shift", .int z2)])) d r la lc2 (1 + z1) z2 := upd_same
    generalize upd H12 d (.dK [(.inr "start", .ref r), (.inr "top", .ref la), (.inr "bottom", .ref lc2), (.inr "step", .int (1 + z1)), (.inr "shift", .int z2)]) = H13 at a13 hD ⊢
    have a1113 : ∀ c u, c ≠ d → H11 c = some u → H13 c = some u := fun c u n e => a13 c u n (a12 c u n e)
    have tr13 := (((tr8.kp hP8 k9).kp hP9 k10).same s11).aw d11 a1113
    have ra13 := (((ra8.kp hP8 k9).kp hP9 k10).same s11).aw d11 a1113
    have rb13 := (((rb8.kp hP8 k9).kp hP9 k10).same s11).aw d11 a1113
    have rt13 := (((rt8.kp hP8 k9).kp hP9 k10).same s11).aw d11 a1113
    have T13 := tabs_aw d11 a1113 ((tabs_kp hP9 k10 (tabs_kp hP8 k9 T8)).ext s11)
    have hP13 := (hP10.same s11).put a1113 dp dl
    clear tr8 ra8 rb8 rt8 T8 a1113 a12 a13 d11 e12 es e8 hP hP2 hP4 hP5 hP6 hP7 hP8 hP9 hP10
    have dA := drn_of (fun z hz => (gt z hz).1) (by omega) ca0 fca sa ea
    have dC := drn_of (fun z hz => (gb z hz).1) (by omega) cb0 fcb sb eb
    obtain ⟨naok, nozero, nusr⟩ := na_ok hq dA dC (fun z hz => (gt z hz).1) (fun z hz => ⟨(gb z hz).1, hb rfl z hz⟩) (by omega) (by omega) fca fcb ea eb
    have rnfr := rn_fr dA dC (by omega) (by omega)
    -- the row
    refine ⟨_, rfl, _, rfl, ?_⟩
    refine tnil_k ?_
    refine ⟨p, lc, d, r, la, lc2, _, q, Fa, Fb, 1 + z1, z2, rfl, hP13, by omega, dp, hD, tr13, bd_rat hq (by decide) (by decide), ra13, rb13, dA.k, dC.k, by omega, z20, dC.w, nozero, fun x xa xb H14 hP14 k14 hR => ?_⟩
    have hD14 : DRow H14 d r la lc2 (1 + z1) z2 := k14 _ _ dp hD
    have tr14 := tr13.kp hP13 k14
    have ra14 := ra13.kp hP13 k14
    have rb14 := rb13.kp hP13 k14
    have rt14 := rt13.kp hP13 k14
    have T14 := tabs_kp hP13 k14 T13
    clear tr13 ra13 rb13 rt13 T13 hD
    obtain ⟨dx, tt, hx, htt, pa, pb⟩ := id hR
    -- its fields
    refine ⟨_, rfl, x, CW, dx, _, .ref tt, rfl, hx, RM.C.cl, RM.C.n1, (by kernel_rfl), _, rfl, x, CW, dx, _, .int (1 + z1), rfl, hx, RM.C.cl, RM.C.n4, (by kernel_rfl), _, rfl, x, CW, dx, _, .int z2, rfl, hx, RM.C.cl, RM.C.n5, (by kernel_rfl), (by show 3 ≤ sizeLine; decide), fun t1 nt1 => ?_⟩
    have et1 : upd H14 t1 (HO.tup [V.ref tt, V.int (1 + z1), V.int z2]) t1 = some (HO.tup [V.ref tt, V.int (1 + z1), V.int z2]) := upd_same
    have s15 : Same H14 (upd H14 t1 (HO.tup [V.ref tt, V.int (1 + z1), V.int z2])) := same_upd nt1
    generalize upd H14 t1 (HO.tup [V.ref tt, V.int (1 + z1), V.int z2]) = H15 at et1 s15 ⊢
    have hD15 : DRow H15 d r la lc2 (1 + z1) z2 := s15 _ _ hD14
    refine ⟨_, rfl, d, _, rfl, hD15.g1, _, rfl, d, _, rfl, hD15.g4, _, rfl, d, _, rfl, hD15.g5, (by show 3 ≤ sizeLine; decide), fun t2 nt2 => ?_⟩
    have et2 : upd H15 t2 (HO.tup [V.ref r, V.int (1 + z1), V.int z2]) t2 = some (HO.tup [V.ref r, V.int (1 + z1), V.int z2]) := upd_same
    have s16 : Same H15 (upd H15 t2 (HO.tup [V.ref r, V.int (1 + z1), V.int z2])) := same_upd nt2
    generalize upd H15 t2 (HO.tup [V.ref r, V.int (1 + z1), V.int z2]) = H16 at et2 s16 ⊢
    have s1416 := s15.trans s16
    have hpl : (PyData.tuple [pairD (pq q), .int (1 + z1), .int z2]).plain = true := by simp [PyData.plain, PyData.plainAll, pairD]
    have hdp : (PyData.tuple [pairD (pq q), .int (1 + z1), .int z2]).depth ≤ 60 := by simp [PyData.depth, PyData.depthAll, pairD]
    refine ⟨.tuple [pairD (pq q), .int (1 + z1), .int z2], .tuple [pairD (pq q), .int (1 + z1), .int z2], .tup (SqT.of (s16 _ _ et1)) (.cons (TR.dt (s1416 _ _ htt)) (.cons (.int _) (.cons (.int _) .nil))), .tup (SqT.of et2) (.cons (TR.dt (s1416 _ _ tr14)) (.cons (.int _) (.cons (.int _) .nil))), hpl, hpl, hdp, _, rfl, ?_⟩
    rw [SeqAt.eqv_refl_plain _ hpl]
    refine iteF ?_
    dsimp only [tNext]
    have hR16 := hR.same s1416
    have hD16 : DRow H16 d r la lc2 (1 + z1) z2 := s16 _ _ hD15
    have tr16 : TR H16 r q := s1416 _ _ tr14
    have ra16 := ra14.same s1416
    have rb16 := rb14.same s1416
    have rt16 := rt14.same s1416
    have T16 := T14.ext s1416
    have hP16 := hP14.same s1416
    clear et1 et2 s15 s16 hD15 hD14 tr14 ra14 rb14 rt14 T14 hP14 hR pa pb hx htt s1416
    obtain ⟨dx, tt, hx, htt, pa, pb⟩ := id hR16
    -- its rows
    refine ⟨_, rfl, x, CW, dx, _, .ref xa, rfl, hx, RM.C.cl, RM.C.n2, (by kernel_rfl), ?_⟩
    refine ⟨_, rfl, d, _, rfl, hD16.g2, ?_⟩
    refine tnil_k ?_
    refine poly_rlQ ra16 (by have := dA.k.l; omega) dA.k.r sa fun y H17 s17 py => ?_
    have pa17 := pa.same s17
    obtain ⟨dxa, txa, asa, hxa, _, _⟩ := id pa17
    refine ⟨xa, dxa, _, .ref CP, rfl, hxa, PolyAt.ty PM.C py, PM.C.fs, xa, _, .ref y, rfl, pa17, .inl ⟨y, _, rfl, py, ?_⟩⟩
    refine ⟨true, congrArg V.bl (decide_eq_true rfl), ?_⟩
    dsimp only [Bool.not_true]
    refine iteF ?_
    have hx17 := s17 _ _ hx
    have hD17 : DRow H17 d r la lc2 (1 + z1) z2 := s17 _ _ hD16
    refine ⟨_, rfl, x, CW, dx, _, .ref xb, rfl, hx17, RM.C.cl, RM.C.n3, (by kernel_rfl), ?_⟩
    refine ⟨_, rfl, d, _, rfl, hD17.g3, ?_⟩
    refine tnil_k ?_
    refine poly_rlQ (rb16.same s17) (by have := dC.k.l; omega) dC.k.r sb fun y2 H18 s18 py2 => ?_
    have pb18 := (pb.same s17).same s18
    obtain ⟨dxb, txb, asb, hxb, _, _⟩ := id pb18
    refine ⟨xb, dxb, _, .ref CP, rfl, hxb, PolyAt.ty PM.C py2, PM.C.fs, xb, _, .ref y2, rfl, pb18, .inl ⟨y2, _, rfl, py2, ?_⟩⟩
    refine ⟨true, congrArg V.bl (decide_eq_true rfl), ?_⟩
    dsimp only [Bool.not_true]
    refine iteF ?_
    dsimp only [tNext]
    have s1618 := s17.trans s18
    have hR18 := hR16.same s1618
    have hD18 : DRow H18 d r la lc2 (1 + z1) z2 := s1618 _ _ hD16
    have tr18 : TR H18 r q := s1618 _ _ tr16
    have ra18 := ra16.same s1618
    have rb18 := rb16.same s1618
    have rt18 := rt16.same s1618
    have T18 := T16.ext s1618
    have hP18 := hP16.same s1618
    clear py py2 pa17 pb18 hxa hxb hx17 hD17 hR16 hD16 tr16 ra16 rb16 rt16 T16 hP16 s1618 s17 s18 pa pb hx htt
    -- the numbers due
    refine ⟨_, rfl, d, r, la, lc2, q, Fa, Fb, _, _, 24, rfl, hD18, tr18, ra18, rb18, by decide, naok, rnfr, fun ld das H19 s19 eld ldl due => ?_⟩
    -- three of them
    have hP19 := hP18.same s19
    refine ⟨_, rfl, p, lc, _, 24, rfl, hP19, by omega, by decide, by decide, fun z3 H20 z30 z31 hP20 k20 => ⟨(by show 3 ≤ sizeLine; decide), fun ll nll => ?_⟩⟩
    have ell : upd H20 ll (HO.lst [V.int 0, V.int 1, V.int z3]) ll = some (HO.lst [V.int 0, V.int 1, V.int z3]) := upd_same
    have s21 : Same H20 (upd H20 ll (HO.lst [V.int 0, V.int 1, V.int z3])) := same_upd nll
    generalize upd H20 ll (HO.lst [V.int 0, V.int 1, V.int z3]) = H21 at ell s21 ⊢
    have hR21 := ((hR18.same s19).kp hP19 k20).same s21
    have hD21 : DRow H21 d r la lc2 (1 + z1) z2 := s21 _ _ (k20 _ _ dp (s19 _ _ hD18))
    have tr21 := (TR.kp (s19 _ _ tr18) hP19 k20)
    have tr21 : TR H21 r q := s21 _ _ tr21
    have rt21 := ((rt18.same s19).kp hP19 k20).same s21
    have T21 := (tabs_kp hP19 k20 (T18.ext s19)).ext s21
    have hP21 := hP20.same s21
    obtain ⟨_, _, _, _, _, gp, _⟩ := id hP19
    have eld21 : H21 ld = some (.lst (das.map V.ref)) := s21 _ _ (k20 _ _ (ne_of eld gp.1 (by intro z; cases z)) eld)
    have due21 : ∀ j a, das[j]? = some a → TR H21 a (nuR q Fa Fb j) := fun j a e => s21 _ _ (TR.kp (due j a e) hP19 k20)
    clear hR18 hD18 tr18 ra18 rb18 rt18 T18 hP18 due eld gp s21 s19
    refine ⟨ll, rfl, .inl ⟨_, SqL.of ell, for_list (K := K) (a := ll) (xs := [V.int 0, V.int 1, V.int z3]) (fun i σ H' => (∃ v7 : Option V, σ = [some (.ref sc), some (.ref p), some (.ref lt), some (.ref lb), some (.ref d), some (.ref x), some (.ref ld), v7, none, none, none, none, none, none, none, none, none, none, none, none, none, none]) ∧ Same H21 H')
      ⟨⟨none, rfl⟩, Same.refl _⟩ (fun i σ H' _ ⟨_, ss⟩ => SqL.of (ss _ _ ell)) ?_ ?_⟩⟩
    · rintro i y σ H22 hi ⟨⟨v7, rfl⟩, s22⟩
      obtain ⟨k, rfl, k24⟩ : ∃ k : Nat, y = .int (k : Int) ∧ k < 24 := by
        match i, hi with
        | 0, hi => cases hi; exact ⟨0, rfl, by decide⟩
        | 1, hi => cases hi; exact ⟨1, rfl, by decide⟩
        | 2, hi => cases hi; exact ⟨z3.toNat, congrArg V.int (by omega), by omega⟩
      refine ⟨_, rfl, _, rfl, ?_⟩
      refine tnil_k ?_
      refine ⟨x, .int (k : Int), .int (k : Int), q, Fa, Fb, _, _, xa, xb, rfl, hR21.same s22, dA.w, .int _, (fun z => by unfold fromD at z; have := of_decide_eq_false z; omega), fun k' ek => ?_⟩
      obtain rfl : k' = k := by cases ek; rfl
      refine ⟨by omega, fun j hj => naok j (by omega), fun ra' H23 s23 er' => ?_⟩
      have s2123 := s22.trans s23
      obtain ⟨da, hda⟩ : ∃ a, das[k']? = some a := ⟨_, List.getElem?_eq_getElem (by omega)⟩
      refine ⟨_, rfl, _, rfl, ld, _, _, .ref da, rfl, rfl, SqL.of (s2123 _ _ eld21), at_of (j := k') rfl (by rw [List.getElem?_map, hda]; rfl), ?_⟩
      have hpl : (pairD (pq (nuR q Fa Fb k'))).plain = true := by simp [PyData.plain, PyData.plainAll, pairD]
      have hdp : (pairD (pq (nuR q Fa Fb k'))).depth ≤ 60 := by simp [PyData.depth, PyData.depthAll, pairD]
      refine ⟨_, _, TR.dt er', TR.dt (s2123 _ _ (due21 k' da hda)), hpl, hpl, hdp, _, rfl, ?_⟩
      rw [SeqAt.eqv_refl_plain _ hpl]
      refine iteF ?_
      exact ⟨⟨_, rfl⟩, s2123⟩
    · rintro σ H22 ⟨⟨v7, rfl⟩, s22⟩
      have hR22 := hR21.same s22
      have hD22 : DRow H22 d r la lc2 (1 + z1) z2 := s22 _ _ hD21
      have tr22 : TR H22 r q := s22 _ _ tr21
      have rt22 := rt21.same s22
      have T22 := T21.ext s22
      have hP22 := hP21.same s22
      clear hR21 hD21 tr21 rt21 T21 hP21 ell s22 eld21 due21 naok nusr rnfr
      -- the whole places
      have wlc : ∀ {l : Addr} {qs : List Rat} {Ha : Hp} {σ : L2.St} {Qd : Addr → Hp → Prop}, RL Ha l qs → qs.length ≤ 10 → σ.length = 22 → (∀ (D : Addr) (H' : Hp), Same Ha H' → H' D = some (.lst ((whs qs).map V.int)) → Qd D H') →
        (∃ xs, SqL K Ha l xs ∧ ∀ D, Ha D = none → ∃ W : Nat → Nat → Hp → Prop, (∃ m, W 0 m (upd Ha D (.lst []))) ∧ ∀ i m H, W i m H →
      (((Itl K l).stop i H ∧ Qd D H) ∨ ((Itl K l).go i H ∧ ∃ Nx : Hp → Prop, (∀ H', Nx H' → ∃ m', m' < m ∧ W (i + 1) m' H') ∧ ∀ x H', (Itl K l).yld i H x H' → gName 9 x (wipe σ [9]) H' fun σ2 H2 => wipe σ2 [9] = wipe σ [9] ∧ tAnd (tTest (tOp rEq (tOp (rIxT K) (tVar 9) (tC (.int 1))) (tC (.int 1)))) (tTest (tOp (rI0 fun i j => .bl (decide (j ≤ i))) (tOp (rIxT K) (tVar 9) (tC (.int 0))) (tC (.int 0)))) σ2 H2 fun b H3 =>
        if b = true then tOp (rIxT K) (tVar 9) (tC (.int 0)) σ2 H3 fun y H4 => ∃ acc, H4 D = some (.lst acc) ∧ acc.length < sizeLine ∧ Nx (upd H4 D (.lst (acc ++ [y]))) else Nx H3))) ∨
    (∃ xs, SqT K Ha l xs ∧ ∀ D, Ha D = none → ∃ W : Nat → Nat → Hp → Prop, (∃ m, W 0 m (upd Ha D (.lst []))) ∧ ∀ i m H, W i m H →
      (((Itt K l).stop i H ∧ Qd D H) ∨ ((Itt K l).go i H ∧ ∃ Nx : Hp → Prop, (∀ H', Nx H' → ∃ m', m' < m ∧ W (i + 1) m' H') ∧ ∀ x H', (Itt K l).yld i H x H' → gName 9 x (wipe σ [9]) H' fun σ2 H2 => wipe σ2 [9] = wipe σ [9] ∧ tAnd (tTest (tOp rEq (tOp (rIxT K) (tVar 9) (tC (.int 1))) (tC (.int 1)))) (tTest (tOp (rI0 fun i j => .bl (decide (j ≤ i))) (tOp (rIxT K) (tVar 9) (tC (.int 0))) (tC (.int 0)))) σ2 H2 fun b H3 =>
        if b = true then tOp (rIxT K) (tVar 9) (tC (.int 0)) σ2 H3 fun y H4 => ∃ acc, H4 D = some (.lst acc) ∧ acc.length < sizeLine ∧ Nx (upd H4 D (.lst (acc ++ [y]))) else Nx H3))) := fun {l qs Ha σ Qd} hr ln hσ hk => by
        obtain ⟨tas, et, tt⟩ := hr
        have tl := tt.lenQ
        obtain ⟨x0, x1, x2, x3, x4, x5, x6, x7, x8, x9, x10, x11, x12, x13, x14, x15, x16, x17, x18, x19, x20, x21, rfl⟩ : ∃ x0 x1 x2 x3 x4 x5 x6 x7 x8 x9 x10 x11 x12 x13 x14 x15 x16 x17 x18 x19 x20 x21, σ = [x0, x1, x2, x3, x4, x5, x6, x7, x8, x9, x10, x11, x12, x13, x14, x15, x16, x17, x18, x19, x20, x21] := by
          match σ, hσ with
          | [x0, x1, x2, x3, x4, x5, x6, x7, x8, x9, x10, x11, x12, x13, x14, x15, x16, x17, x18, x19, x20, x21], _ => exact ⟨x0, x1, x2, x3, x4, x5, x6, x7, x8, x9, x10, x11, x12, x13, x14, x15, x16, x17, x18, x19, x20, x21, rfl⟩
        refine lc_seq (xs := tas.map V.ref) (.inl (SqL.of et)) (fun D i H' => Same Ha H' ∧ H' D = some (.lst ((whs (qs.take i)).map V.int))) ?_ ?_ ?_ ?_
        · exact fun D hD => ⟨same_upd hD, upd_same⟩
        · exact fun D i H' hD ⟨ss, _⟩ => ⟨fun h => same_sqL ss h, fun h => same_sqT ss h⟩
        · rintro D i y H' hD hi ⟨ss, eD⟩
          rw [List.getElem?_map] at hi
          obtain ⟨b, hb, rfl⟩ := Option.map_eq_some_iff.mp hi
          obtain ⟨qn, hqn, tq⟩ := tt.atQ hb
          have tq' : TR H' b qn := ss _ _ tq
          have tke : qs.take (i + 1) = qs.take i ++ [qn] := by
            rw [List.take_add_one, hqn]
            rfl
          have ln' := whs_len (qs.take i)
          rw [List.length_take] at ln'
          refine ⟨rfl, ?_⟩
          refine ⟨_, rfl, b, _, _, .int (qn.den : Int), rfl, rfl, SqT.of tq', at_of (j := 1) rfl rfl, ?_⟩
          dsimp only [tC]
          refine rEq_int (fun z => ?_) fun z => ?_
          · refine iteT ?_
            refine ⟨_, rfl, b, _, _, .int qn.num, rfl, rfl, SqT.of tq', at_of (j := 0) rfl rfl, ?_⟩
            refine ⟨_, _, rfl, rfl, _, rfl, ?_⟩
            by_cases h0 : 0 ≤ qn.num
            · rw [decide_eq_true h0]
              refine iteT ?_
              refine ⟨_, rfl, b, _, _, .int qn.num, rfl, rfl, SqT.of tq', at_of (j := 0) rfl rfl, ?_⟩
              refine ⟨_, eD, by rw [List.length_map, sizeLine_eq]; omega, fun c o e => ?_, ?_⟩
              · rw [upd_ne (ne_of_none e hD)]
                exact ss _ _ e
              · rw [upd_same, tke, whs_yes (decide_eq_true ⟨by omega, h0⟩), List.map_append]
                rfl
            · rw [decide_eq_false h0]
              refine iteF ?_
              refine ⟨ss, ?_⟩
              rw [tke, whs_no (fun z => h0 (of_decide_eq_true z).2)]
              exact eD
          · refine iteF ?_
            refine iteF ?_
            refine ⟨ss, ?_⟩
            rw [tke, whs_no (fun y => z (by have := (of_decide_eq_true y).1; omega))]
            exact eD
        · rintro D H' hD ⟨ss, eD⟩
          rw [List.length_map, tl, List.take_length] at eD
          exact hk D H' ss eD
      refine ⟨_, rfl, lt, rfl, wlc rt22 (by omega) rfl fun D H23 s23 eD => ?_⟩
      refine tnil_k ?_
      refine ⟨D, whs tops, rfl, SqL.of eD, fun ns' pw perm sorted nw => ?_⟩
      have epw : upd H23 pw (HO.lst (ns'.map V.int)) pw = some (HO.lst (ns'.map V.int)) := upd_same
      have s24 : Same H23 (upd H23 pw (HO.lst (ns'.map V.int))) := same_upd nw
      generalize upd H23 pw (HO.lst (ns'.map V.int)) = H24 at epw s24 ⊢
      have s2224 := s23.trans s24
      dsimp only [gName]
      refine seq_step (fun σ' H' => ∃ v : V, σ' = [some (.ref sc), some (.ref p), some (.ref lt), some (.ref lb), some (.ref d), some (.ref x), some (.ref ld), v7, some (.ref pw), none, some v, none, none, none, none, none, none, none, none, none, none, none] ∧ Same H24 H' ∧ TmV q Fa v) (fun k hk => ?_) (fun σ' H' ⟨v, e1, s25, htm⟩ => ?_)
      · refine ⟨_, rfl, d, _, rfl, DRow.g1 (s2224 _ _ hD22), r, _, _, .int q.num, rfl, rfl, SqT.of (s2224 _ _ tr22), at_of (j := 0) rfl rfl, ?_⟩
        dsimp only [tC]
        refine rEq_int (fun z => ?_) fun z => ?_
        · refine iteT ?_
          exact hk _ _ ⟨_, rfl, Same.refl _, .inl ⟨Rat.num_eq_zero.mp z, rfl⟩⟩
        · refine iteF ?_
          have q0 : q ≠ 0 := fun y => z (by rw [y]; rfl)
          obtain ⟨t1, t2⟩ := tmv_sorted q0 dA.z perm sorted
          refine ⟨_, rfl, (by show 0 ≤ sizeLine; decide), fun le nle => ?_⟩
          have ele : upd H24 le (HO.lst []) le = some (HO.lst []) := upd_same
          have s25 : Same H24 (upd H24 le (HO.lst [])) := same_upd nle
          generalize upd H24 le (HO.lst []) = H25 at ele s25 ⊢
          match ns', epw, t1, t2 with
          | [], epw, t1, t2 =>
            refine ⟨.list [], .list [], .lst (SqL.of (s25 _ _ epw)) .nil, .lst (SqL.of ele) .nil, rfl, rfl, by decide, _, rfl, ?_⟩
            rw [SeqAt.eqv_refl_plain _ rfl]
            refine iteF ?_
            exact hk _ _ ⟨_, rfl, s25, t1 rfl⟩
          | n :: rr, epw, t1, t2 =>
            refine ⟨.list ((n :: rr).map PyData.int), .list [], .lst (SqL.of (s25 _ _ epw)) (dtsL_ints _), .lst (SqL.of ele) .nil, plain_il _, rfl, depth_il _, _, rfl, ?_⟩
            · rw [show PyData.eqv (.list ((n :: rr).map PyData.int)) (.list []) = false by simp [PyData.eqv, PyData.eqvAll]]
              refine iteT ?_
              refine ⟨_, rfl, pw, _, _, .int n, rfl, rfl, SqL.of (s25 _ _ epw), at_of (j := 0) rfl rfl, _, _, rfl, rfl, ?_⟩
              exact hk _ _ ⟨_, rfl, s25, t2 n rr rfl⟩
      · subst e1
        have s2225 := s2224.trans s25
        have hR25 := hR22.same s2225
        have hP25 := hP22.same s2225
        have T25 := T22.ext s2225
        clear hR22 hD22 tr22 rt22 T22 hP22 eD epw s2224 s2225 s23 s24 s25 perm sorted nw
        -- where the terms end
        refine ⟨_, rfl, ?_⟩
        refine tnil_k ?_
        refine ⟨x, q, Fa, Fb, _, _, xa, xb, rfl, hR25, dA.w, fun u H26 s26 hu' => ?_⟩
        obtain rfl : u = v := tmv_uniq hu' htm
        obtain ⟨du, hdu, du1, du2⟩ := tmv_dt htm
        refine ⟨_, rfl, du, du, hdu _ _, hdu _ _, du1, du1, du2, _, rfl, ?_⟩
        rw [SeqAt.eqv_refl_plain _ du1]
        refine iteF ?_
        -- a row without a top
        refine ⟨(by show 0 ≤ sizeLine; decide), fun e0 ne0 => ?_⟩
        have ee0 : upd H26 e0 (HO.tup []) e0 = some (HO.tup []) := upd_same
        have s27 : Same H26 (upd H26 e0 (HO.tup [])) := same_upd ne0
        generalize upd H26 e0 (HO.tup []) = H27 at ee0 s27 ⊢
        refine tnil_k ?_
        refine poly_0 ee0 fun x0 H28 s28 p0 => ?_
        refine ⟨(by show 1 ≤ sizeLine; decide), fun e1 ne1 => ?_⟩
        have ee1 : upd H28 e1 (HO.tup [V.int 1]) e1 = some (HO.tup [V.int 1]) := upd_same
        have s29 : Same H28 (upd H28 e1 (HO.tup [V.int 1])) := same_upd ne1
        generalize upd H28 e1 (HO.tup [V.int 1]) = H29 at ee1 s29 ⊢
        refine tnil_k ?_
        refine poly_1 ee1 fun x1 H30 s30 p1 => ?_
        have d1 : Drn [] [1] := drn_of (qs := []) (c := 1) (A := [1]) (fun z hz => absurd hz List.not_mem_nil) (by decide) (by decide +kernel) ⟨5, by decide +kernel, by decide⟩ (fun r y e => by
          have := (List.append_inj' (s₁ := []) (t₁ := [(1 : Rat)]) e rfl).2
          cases this
          decide +kernel) (fun x => by show (1 : Rat) + x * 0 = 1 * (1 + x * 0); grind)
        refine row_made (.int 3) (.int 1) (.int 0) ((p0.same s29).same s30) p1 d1.w (.inr ⟨rfl, .inr ⟨rfl, .inr ⟨rfl, .inr ⟨fun z h => absurd ((d1.z _).mp h) List.not_mem_nil, 3, 1, 3, 1, 0, rfl, by decide +kernel, Nat.one_lt_pow (by decide) (by decide), rfl, rfl, fun xr H31 s31 hR31 => ?_⟩⟩⟩⟩)
        refine tnil_k ?_
        refine ⟨xr, 3, [], [1], 1, 0, x0, x1, rfl, hR31, fun h => absurd rfl h, fun u2 H32 s32 hu2 => ?_⟩
        obtain rfl := tmv_three hu2
        refine ⟨.int 1, .int 1, .int 1, .int 1, rfl, rfl, by decide, _, rfl, ?_⟩
        rw [SeqAt.eqv_refl_plain _ rfl]
        refine iteF ?_
        dsimp only [tNext]
        have s2532 := s26.trans (s27.trans (s28.trans (s29.trans (s30.trans (s31.trans s32)))))
        have hR32 := hR25.same s2532
        have hP32 := hP25.same s2532
        have T32 := T25.ext s2532
        clear hR25 hP25 T25 hR31 p0 p1 ee0 ee1 s26 s27 s28 s29 s30 s31 s32 s2532
        -- no place
        refine ⟨_, rfl, _, rfl, (by show 2 ≤ sizeLine; decide), fun t11 nt11 => ?_⟩
        have et11 : upd H32 t11 (HO.tup [V.int 1, V.int 1]) t11 = some (HO.tup [V.int 1, V.int 1]) := upd_same
        have s33 : Same H32 (upd H32 t11 (HO.tup [V.int 1, V.int 1])) := same_upd nt11
        generalize upd H32 t11 (HO.tup [V.int 1, V.int 1]) = H33 at et11 s33 ⊢
        refine ⟨_, _, rfl, rfl, ⟨by decide, by decide, by decide⟩, _, rfl, _, _, rfl, rfl, wide_mul (a := 20) (b := 2) (by decide +kernel) (by decide) (by decide) (by decide) (by decide), (by show 6 ≤ sizeLine; decide), fun lo nlo => ?_⟩
        refine tnil_k ?_
        have elo : upd H33 lo (HO.lst [V.int (-1), V.bl true, V.non, V.str "0", V.ref t11, V.int (-100000)]) lo = some (HO.lst [V.int (-1), V.bl true, V.non, V.str "0", V.ref t11, V.int (-100000)]) := upd_same
        have s34 : Same H33 (upd H33 lo (HO.lst [V.int (-1), V.bl true, V.non, V.str "0", V.ref t11, V.int (-100000)])) := same_upd nlo
        have lop := ((hP32.same s33).ne_new nlo).1
        have hP34 := (hP32.same s33).same s34
        refine ⟨p, lc, lo, _, _, rfl, hP34, by omega, elo, lop, by show 0 < 6; decide, by show 6 < 1000000; decide, fun y H35 hy hP35 k35 => ?_⟩
        have k35 : Kp p (upd H33 lo (HO.lst [V.int (-1), V.bl true, V.non, V.str "0", V.ref t11, V.int (-100000)])) H35 := k35
        have hy : y ∈ [V.int (-1), V.bl true, V.non, V.str "0", V.ref t11, V.int (-100000)] := hy
        have et34 := s34 _ _ et11
        have hR34 := (hR32.same s33).same s34
        have T34 := (T32.ext s33).ext s34
        generalize upd H33 lo (HO.lst [V.int (-1), V.bl true, V.non, V.str "0", V.ref t11, V.int (-100000)]) = H34 at elo s34 hP34 k35 et34 hR34 T34
        obtain ⟨_, _, _, _, _, gp, _⟩ := id hP34
        have et35 := k35 _ _ (ne_of et34 gp.1 (by intro z; cases z)) et34
        have hR35 := hR34.kp hP34 k35
        have T35 := tabs_kp hP34 k35 T34
        obtain ⟨dd, hdd, hd0, hd1, hd2⟩ : ∃ dd : PyData, Dt K H35 y dd ∧ fromD 0 dd = false ∧ (PyData.tuple [.str "number", .str "k", dd]).plain = true ∧ (PyData.tuple [.str "number", .str "k", dd]).depth ≤ 60 := by
          simp only [List.mem_cons, List.not_mem_nil, or_false] at hy
          rcases hy with rfl | rfl | rfl | rfl | rfl | rfl
          · exact ⟨.int (-1), .int _, rfl, by simp [PyData.plain, PyData.plainAll], by simp [PyData.depth, PyData.depthAll]⟩
          · exact ⟨.bool true, .bl _, rfl, by simp [PyData.plain, PyData.plainAll], by simp [PyData.depth, PyData.depthAll]⟩
          · exact ⟨.none, .non, rfl, by simp [PyData.plain, PyData.plainAll], by simp [PyData.depth, PyData.depthAll]⟩
          · exact ⟨.str "0", .str _, rfl, by simp [PyData.plain, PyData.plainAll], by simp [PyData.depth, PyData.depthAll]⟩
          · exact ⟨.tuple [.int 1, .int 1], .tup (SqT.of et35) (.cons (.int _) (.cons (.int _) .nil)), rfl, by simp [PyData.plain, PyData.plainAll], by simp [PyData.depth, PyData.depthAll]⟩
          · exact ⟨.int (-100000), .int _, rfl, by simp [PyData.plain, PyData.plainAll], by simp [PyData.depth, PyData.depthAll]⟩
        clear hR32 hP32 T32 et11 s33 elo s34 hP34 et34 hR34 T34 gp et35 hy
        -- it is told
        refine ⟨T35, fun H36 eN T36 => ?_⟩
        intro H37 kk s37
        have hR37 := (hR35.n eN).same s37
        have hd37 := (Dt.n eN hdd).mono s37
        refine ⟨_, rfl, _, rfl, ?_⟩
        refine tnil_k ?_
        refine ⟨x, y, dd, q, Fa, Fb, _, _, xa, xb, rfl, hR37, dA.w, hd37, fun _ => ?_, fun k ek => ?_⟩
        · intro de H38 s38 n38 e38
          refine ⟨rfl, de, "k", y, rfl, e38, fun tf H39 s39 etf => ?_⟩
          have s3739 := s38.trans s39
          refine ⟨_, rfl, (by show 3 ≤ sizeLine; decide), fun tq ntq => ?_⟩
          have s40 : Same H39 (upd H39 tq (HO.tup [V.str "number", V.str "k", y])) := same_upd ntq
          have etq : upd H39 tq (HO.tup [V.str "number", V.str "k", y]) tq = some (HO.tup [V.str "number", V.str "k", y]) := upd_same
          generalize upd H39 tq (HO.tup [V.str "number", V.str "k", y]) = H40 at s40 etq ⊢
          have hd40 := (hd37.mono s3739).mono s40
          refine ⟨_, _, .tup (SqT.of (s40 _ _ etf)) (.cons (.str _) (.cons (.str _) (.cons hd40 .nil))), .tup (SqT.of etq) (.cons (.str _) (.cons (.str _) (.cons hd40 .nil))), hd1, hd1, hd2, _, rfl, ?_⟩
          rw [SeqAt.eqv_refl_plain _ hd1]
          refine iteF ?_
          dsimp only [tNext]
          have s3740 := s3739.trans s40
          have hP40 := ((hP35.n eN).same s37).same s3740
          have T40 := (T36.ext s37).ext s3740
          clear hR37 hd37 hd40 etq etf s40 s39 s38 e38 n38 s3739 s3740 hd1 hd2 hd0 hdd T36 T35 hR35
          -- places with a whole one among them
          refine ⟨_, rfl, p, lc, _, 3, true, rfl, hP40, by omega, by decide, by decide, fun l1 q1 H41 hP41 k41 r1 l13 g1 _ => ?_⟩
          have T41 := tabs_kp hP40 k41 T40
          refine ⟨_, rfl, _, _, rfl, rfl, ⟨by decide, by decide, by decide⟩, (by show 4 ≤ sizeLine; decide), fun lo nlo => ?_⟩
          have elo : upd H41 lo (HO.lst [V.int 0, V.int 3, V.int 44, V.int 1000000000]) lo = some (HO.lst [V.int 0, V.int 3, V.int 44, V.int 1000000000]) := upd_same
          have s42 : Same H41 (upd H41 lo (HO.lst [V.int 0, V.int 3, V.int 44, V.int 1000000000])) := same_upd nlo
          have lop := (hP41.ne_new nlo).1
          have hP42 := hP41.same s42
          have r42 := r1.same s42
          have T42 := T41.ext s42
          refine tnil_k ?_
          refine ⟨p, lc, lo, _, _, rfl, hP42, by omega, elo, lop, by show 0 < 4; decide, by show 4 < 1000000; decide, fun y2 H43 hy hP43 k43 => ?_⟩
          have k43 : Kp p (upd H41 lo (HO.lst [V.int 0, V.int 3, V.int 44, V.int 1000000000])) H43 := k43
          have hy : y2 ∈ [V.int 0, V.int 3, V.int 44, V.int 1000000000] := hy
          have r43 := r42.kp hP42 k43
          have T43 := tabs_kp hP42 k43 T42
          clear elo s42 hP42 r42 T42 k43 r1 T41 hP41 lop nlo
          obtain ⟨n0, rfl, hn0⟩ : ∃ n : Nat, y2 = .int (n : Int) ∧ ((n : Nat) : Rat) ∈ Plc := by
            simp only [List.mem_cons, List.not_mem_nil, or_false] at hy
            rcases hy with rfl | rfl | rfl | rfl
            · exact ⟨0, rfl, by decide +kernel⟩
            · exact ⟨3, rfl, by decide +kernel⟩
            · exact ⟨44, rfl, by decide +kernel⟩
            · exact ⟨1000000000, rfl, by decide +kernel⟩
          clear hy
          refine ⟨(by show 2 ≤ sizeLine; decide), fun tn ntn => ?_⟩
          have etn : TR (upd H43 tn (HO.tup [V.int (n0 : Int), V.int 1])) tn ((n0 : Nat) : Rat) := tr_of upd_same ⟨Rat.num_natCast _, by rw [Rat.den_natCast]; rfl⟩
          have s44 : Same H43 (upd H43 tn (HO.tup [V.int (n0 : Int), V.int 1])) := same_upd ntn
          generalize upd H43 tn (HO.tup [V.int (n0 : Int), V.int 1]) = H44 at etn s44 ⊢
          refine ⟨(by show 1 ≤ sizeLine; decide), fun ln nln => ?_⟩
          have eln : upd H44 ln (HO.lst [V.ref tn]) ln = some (HO.lst [V.ref tn]) := upd_same
          have s45 : Same H44 (upd H44 ln (HO.lst [V.ref tn])) := same_upd nln
          generalize upd H44 ln (HO.lst [V.ref tn]) = H45 at eln s45 ⊢
          have s4345 := s44.trans s45
          obtain ⟨as1, ea1, ta1⟩ := r43.same s4345
          have al1 := ta1.lenQ
          refine ⟨l1, ln, _, _, rfl, rfl, ea1, eln, (by rw [List.length_map, sizeLine_eq]; show as1.length + 1 ≤ _; omega), fun l2 nl2 => ?_⟩
          have s46 : Same H45 (upd H45 l2 (HO.lst (as1.map V.ref ++ [V.ref tn]))) := same_upd nl2
          have r46 : RL (upd H45 l2 (HO.lst (as1.map V.ref ++ [V.ref tn]))) l2 (q1 ++ [((n0 : Nat) : Rat)]) := ⟨as1 ++ [tn], by rw [upd_same, List.map_append]; rfl, (ta1.same s46).snocQ (show upd H45 l2 _ tn = some (.tup [.int (pq ((n0 : Nat) : Rat)).1, .int (pq ((n0 : Nat) : Rat)).2]) from s46 _ _ (s45 _ _ etn))⟩
          generalize upd H45 l2 (HO.lst (as1.map V.ref ++ [V.ref tn])) = H46 at s46 r46 ⊢
          have s4346 := s4345.trans s46
          have hP46 := hP43.same s4346
          have T46 := T43.ext s4346
          have qin : ∀ z ∈ q1 ++ [((n0 : Nat) : Rat)], z ∈ Plc := fun z hz => by
            rcases List.mem_append.mp hz with h | h
            · exact (g1 z h).1
            · rw [List.mem_singleton.mp h]
              exact hn0
          have qlen : (q1 ++ [((n0 : Nat) : Rat)]).length ≤ 4 := by
            rw [List.length_append]
            show q1.length + 1 ≤ 4
            omega
          have n0in : ((n0 : Nat) : Rat) ∈ q1 ++ [((n0 : Nat) : Rat)] := List.mem_append_right _ (List.mem_singleton.mpr rfl)
          generalize q1 ++ [((n0 : Nat) : Rat)] = qq at r46 qin qlen n0in
          clear ea1 ta1 al1 eln etn s44 s45 s46 s4345 s4346 r43 T43 hP43 g1 l13
          -- the least of them
          refine ⟨_, rfl, l2, rfl, wlc r46 (by omega) rfl fun D H47 s47 eD => ?_⟩
          refine tnil_k ?_
          have n0w : (n0 : Int) ∈ whs qq := whs_mem.mpr ⟨n0, rfl, n0in⟩
          refine ⟨D, whs qq, rfl, SqL.of eD, List.length_pos_iff.mpr (fun z => by rw [z] at n0w; exact absurd n0w List.not_mem_nil), fun m hm hmin' => ?_⟩
          obtain ⟨zn, rfl, hzn⟩ := whs_mem.mp hm
          have hleast : ∀ y : Nat, y < zn → ((y : Nat) : Rat) ∉ qq := fun y hy h => by
            have := hmin' _ (whs_mem.mpr ⟨y, rfl, h⟩)
            omega
          have r47 := r46.same s47
          have hP47 := hP46.same s47
          have T47 := T46.ext s47
          clear hm hmin' eD s47 r46 hP46 T46 n0w n0in wlc
          -- its row, and one
          refine ⟨_, rfl, _, rfl, ?_⟩
          refine tnil_k ?_
          refine ⟨p, lc, l2, _, qq, rfl, hP47, by omega, r47, qlen, qin, fun lF F cF H48 hP48 k48 rF sF cF0 fcF eF => ?_⟩
          have T48 := tabs_kp hP47 k48 T47
          have dF := drn_of qin qlen cF0 fcF sF eF
          refine tnil_k ?_
          refine poly_rlQ rF (by have := dF.l; omega) dF.k.r sF fun xb9 H49 s49 pF => ?_
          refine ⟨(by show 1 ≤ sizeLine; decide), fun e1 ne1 => ?_⟩
          have ee1 : upd H49 e1 (HO.tup [V.int 1]) e1 = some (HO.tup [V.int 1]) := upd_same
          have s50 : Same H49 (upd H49 e1 (HO.tup [V.int 1])) := same_upd ne1
          generalize upd H49 e1 (HO.tup [V.int 1]) = H50 at ee1 s50 ⊢
          refine tnil_k ?_
          refine poly_1 ee1 fun xt9 H51 s51 pO => ?_
          refine ⟨(by show 2 ≤ sizeLine; decide), fun t5 nt5 => ?_⟩
          have et5 : upd H51 t5 (HO.tup [V.ref xb9, V.ref xt9]) t5 = some (HO.tup [V.ref xb9, V.ref xt9]) := upd_same
          have s52 : Same H51 (upd H51 t5 (HO.tup [V.ref xb9, V.ref xt9])) := same_upd nt5
          generalize upd H51 t5 (HO.tup [V.ref xb9, V.ref xt9]) = H52 at et5 s52 ⊢
          refine ⟨t5, _, rfl, SqT.of et5, rfl, _, _, rfl, _, _, rfl, rfl, ?_⟩
          have s4852 := s49.trans (s50.trans (s51.trans s52))
          have pF52 := pF.same (s50.trans (s51.trans s52))
          have pO52 := pO.same s52
          have hP52 := hP48.same s4852
          have T52 := T48.ext s4852
          clear pF pO et5 ee1 s49 s50 s51 s52 s4852 hP48 T48 T47 hP47 r47 rF
          have hz0 : ev F ((zn : Nat) : Rat) = 0 := (dF.z _).mpr hzn
          have hz1 : ∀ y : Nat, y < zn → ev F ((y : Nat) : Rat) ≠ 0 := fun y hy h => hleast y hy ((dF.z _).mp h)
          have lwF := dF.w
          clear dF hzn hleast qin qlen eF cF0 fcF
          -- no start
          refine ⟨_, rfl, (by show 2 ≤ sizeLine; decide), fun t6 nt6 => ?_⟩
          have et6 : upd H52 t6 (HO.tup [V.int 1, V.int 0]) t6 = some (HO.tup [V.int 1, V.int 0]) := upd_same
          have s53 : Same H52 (upd H52 t6 (HO.tup [V.int 1, V.int 0])) := same_upd nt6
          generalize upd H52 t6 (HO.tup [V.int 1, V.int 0]) = H53 at et6 s53 ⊢
          refine ⟨(by show 4 ≤ sizeLine; decide), fun lo nlo => ?_⟩
          have hP53 := hP52.same s53
          have elo : upd H53 lo (HO.lst [V.non, V.str "1", V.ref t6, V.bl true]) lo = some (HO.lst [V.non, V.str "1", V.ref t6, V.bl true]) := upd_same
          have s54 : Same H53 (upd H53 lo (HO.lst [V.non, V.str "1", V.ref t6, V.bl true])) := same_upd nlo
          have lop := (hP53.ne_new nlo).1
          generalize upd H53 lo (HO.lst [V.non, V.str "1", V.ref t6, V.bl true]) = H54 at elo s54 ⊢
          have hP54 := hP53.same s54
          have s5254 := s53.trans s54
          refine tnil_k ?_
          refine ⟨p, lc, lo, _, _, rfl, hP54, by omega, elo, lop, by show 0 < 4; decide, by show 4 < 1000000; decide, fun y1 H55 hy hP55 k55 => ?_⟩
          obtain ⟨da1, vs1, hs1⟩ : ∃ d : PyData, Vs H55 y1 d ∧ (partsD d).isSome = false := by
            obtain ⟨_, _, _, _, _, gp, _⟩ := id hP54
            have et6' := s54 _ _ et6
            simp only [List.mem_cons, List.not_mem_nil, or_false] at hy
            rcases hy with rfl | rfl | rfl | rfl
            · exact ⟨_, Vs.non _, rfl⟩
            · exact ⟨_, Vs.str _ _, rfl⟩
            · exact ⟨_, Vs.pair (k55 _ _ (ne_of et6' gp.1 (by intro z; cases z)) et6'), rfl⟩
            · exact ⟨_, Vs.bl _ _, rfl⟩
          have pF55 := (pF52.same s5254).kp hP54 k55
          have pO55 := (pO52.same s5254).kp hP54 k55
          have T55 := tabs_kp hP54 k55 (T52.ext s5254)
          clear pF52 pO52 T52 hP52 hP53 hP54 s53 s54 s5254 elo et6 lop hy
          -- no step
          refine ⟨_, rfl, _, rfl, (by show 5 ≤ sizeLine; decide), fun lo nlo => ?_⟩
          have elo : upd H55 lo (HO.lst [V.int 0, V.int (-1), V.non, V.bl true, V.str "1"]) lo = some (HO.lst [V.int 0, V.int (-1), V.non, V.bl true, V.str "1"]) := upd_same
          have s56 : Same H55 (upd H55 lo (HO.lst [V.int 0, V.int (-1), V.non, V.bl true, V.str "1"])) := same_upd nlo
          have lop := (hP55.ne_new nlo).1
          have hP56 := hP55.same s56
          have x56 : ExtX H55 (upd H55 lo (HO.lst [V.int 0, V.int (-1), V.non, V.bl true, V.str "1"])) := ExtX.n (ExtN.of s56)
          refine tnil_k ?_
          refine ⟨p, lc, lo, _, _, rfl, hP56, by omega, elo, lop, by show 0 < 5; decide, by show 5 < 1000000; decide, fun y2 H57 hy hP57 k57 => ?_⟩
          have k57 : Kp p (upd H55 lo (HO.lst [V.int 0, V.int (-1), V.non, V.bl true, V.str "1"])) H57 := k57
          have hy : y2 ∈ [V.int 0, V.int (-1), V.non, V.bl true, V.str "1"] := hy
          have pF56 := pF55.same s56
          have pO56 := pO55.same s56
          have T56 := T55.ext s56
          have vs156 := vs1.x x56
          generalize upd H55 lo (HO.lst [V.int 0, V.int (-1), V.non, V.bl true, V.str "1"]) = H56 at elo s56 hP56 x56 k57 pF56 pO56 T56 vs156
          have vkp : ∀ {Ha Hb : Hp} {B : Int} {v : V} {d : PyData}, Pen Ha p lc B → Kp p Ha Hb → Vs Ha v d → Vs Hb v d := fun {Ha Hb B v d} hp k h => by
            obtain ⟨_, _, _, _, _, gp, _⟩ := id hp
            refine ⟨?_, h.2⟩
            rcases h.1 with g | ⟨b, i, j, e1, e2, g⟩
            · exact .inl g
            · exact .inr ⟨b, i, j, e1, e2, k _ _ (ne_of g gp.1 (by intro z; cases z)) g⟩
          have pF57 := pF56.kp hP56 k57
          have pO57 := pO56.kp hP56 k57
          have T57 := tabs_kp hP56 k57 T56
          have vs157 := vkp hP56 k57 vs156
          obtain ⟨da2, vs257, hs2⟩ : ∃ d : PyData, Vs H57 y2 d ∧ fromD 1 d = false := by
            simp only [List.mem_cons, List.not_mem_nil, or_false] at hy
            rcases hy with rfl | rfl | rfl | rfl | rfl
            · exact ⟨_, Vs.int _ _, rfl⟩
            · exact ⟨_, Vs.int _ _, rfl⟩
            · exact ⟨_, Vs.non _, rfl⟩
            · exact ⟨_, Vs.bl _ _, rfl⟩
            · exact ⟨_, Vs.str _ _, rfl⟩
          clear pF56 pO56 T56 vs156 hP56 elo s56 x56 pF55 pO55 T55 vs1 hP55 lop hy
          refine ⟨(by show 2 ≤ sizeLine; decide), fun t7 nt7 => ?_⟩
          have et7 : upd H57 t7 (HO.tup [y1, y2]) t7 = some (HO.tup [y1, y2]) := upd_same
          have s58 : Same H57 (upd H57 t7 (HO.tup [y1, y2])) := same_upd nt7
          generalize upd H57 t7 (HO.tup [y1, y2]) = H58 at et7 s58 ⊢
          refine ⟨t7, _, rfl, SqT.of et7, rfl, _, _, rfl, _, _, rfl, rfl, ?_⟩
          -- no shift
          refine ⟨_, rfl, _, rfl, (by show 4 ≤ sizeLine; decide), fun lo nlo => ?_⟩
          have elo : upd H58 lo (HO.lst [V.int (-1), V.non, V.bl true, V.str "0"]) lo = some (HO.lst [V.int (-1), V.non, V.bl true, V.str "0"]) := upd_same
          have s59 : Same H57 (upd H58 lo (HO.lst [V.int (-1), V.non, V.bl true, V.str "0"])) := s58.trans (same_upd nlo)
          have lop := ((hP57.same s58).ne_new nlo).1
          have hP59 := hP57.same s59
          refine tnil_k ?_
          refine ⟨p, lc, lo, _, _, rfl, hP59, by omega, elo, lop, by show 0 < 4; decide, by show 4 < 1000000; decide, fun y3 H60 hy hP60 k60 => ?_⟩
          have k60 : Kp p (upd H58 lo (HO.lst [V.int (-1), V.non, V.bl true, V.str "0"])) H60 := k60
          have hy : y3 ∈ [V.int (-1), V.non, V.bl true, V.str "0"] := hy
          generalize upd H58 lo (HO.lst [V.int (-1), V.non, V.bl true, V.str "0"]) = H59 at elo s59 hP59 k60
          have x59 : ExtX H57 H59 := ExtX.n (ExtN.of s59)
          have pB0 := (pF57.same s59).kp hP59 k60
          have pT0 := (pO57.same s59).kp hP59 k60
          have T0 := tabs_kp hP59 k60 (T57.ext s59)
          have va0 := vkp hP59 k60 (vs157.x x59)
          have vb0 := vkp hP59 k60 (vs257.x x59)
          obtain ⟨da3, vc0, hs3⟩ : ∃ d : PyData, Vs H60 y3 d ∧ fromD 0 d = false := by
            simp only [List.mem_cons, List.not_mem_nil, or_false] at hy
            rcases hy with rfl | rfl | rfl | rfl
            · exact ⟨_, Vs.int _ _, rfl⟩
            · exact ⟨_, Vs.non _, rfl⟩
            · exact ⟨_, Vs.bl _ _, rfl⟩
            · exact ⟨_, Vs.str _ _, rfl⟩
          clear hP57 pF57 pO57 T57 vs157 vs257 et7 s58 elo s59 x59 hP59 hP60 vkp hy lop
          refine ⟨T0, fun A0 eN0 TA0 => ?_⟩
          intro B0 kk0 sB0
          have xB0 : ExtX H60 B0 := (ExtX.n eN0).trans (ExtX.n (ExtN.of sB0))
          have pBB0 := pB0.x xB0
          have pTB0 := pT0.x xB0
          have vaB0 := va0.x xB0
          have vbB0 := vb0.x xB0
          have vcB0 := vc0.x xB0
          refine ⟨_, rfl, _, rfl, _, rfl, _, rfl, _, rfl, ?_⟩
          refine tnil_k ?_
          refine row_made vaB0.dt vbB0.dt vcB0.dt pTB0 pBB0 (fun h => lwF h) (.inl ⟨hs1, fun de0 C0 sC0 nC0 eC0 => ⟨rfl, de0, "start", y1, rfl, eC0, fun tf0 D0 sD0 etf0 => ?_⟩⟩)
          refine ⟨_, rfl, (by show 3 ≤ sizeLine; decide), fun tq0 ntq0 => ?_⟩
          have etq0 : upd D0 tq0 (HO.tup [V.str "number", V.str "start", y1]) tq0 = some (HO.tup [V.str "number", V.str "start", y1]) := upd_same
          have sE0 : Same D0 (upd D0 tq0 (HO.tup [V.str "number", V.str "start", y1])) := same_upd ntq0
          generalize upd D0 tq0 (HO.tup [V.str "number", V.str "start", y1]) = E0 at etq0 sE0 ⊢
          refine ⟨(by show 2 ≤ sizeLine; decide), fun tp0 ntp0 => ?_⟩
          have etp0 : upd E0 tp0 (HO.tup [V.ref tf0, V.ref tq0]) tp0 = some (HO.tup [V.ref tf0, V.ref tq0]) := upd_same
          have sF0 : Same E0 (upd E0 tp0 (HO.tup [V.ref tf0, V.ref tq0])) := same_upd ntp0
          generalize upd E0 tp0 (HO.tup [V.ref tf0, V.ref tq0]) = F0 at etp0 sF0 ⊢
          have sBF0 : Same B0 F0 := (sC0.trans (sD0.trans (sE0.trans sF0)))
          have xF0 : ExtX B0 F0 := ExtX.n (ExtN.of sBF0)
          have try0 : Try F0 tp0 := ⟨tf0, tq0, "start", y1, _, etp0, sF0 _ _ (sE0 _ _ etf0), sF0 _ _ etq0, (vaB0.x xF0)⟩
          have TF0 := (TA0.ext sB0).ext sBF0
          refine ⟨(by show 1 ≤ sizeLine; decide), fun tl ntl => ?_⟩
          have el1 : upd F0 tl (HO.lst [V.ref tp0]) tl = some (HO.lst (([tp0] : List Addr).map V.ref)) := upd_same
          have sG0 : Same F0 (upd F0 tl (HO.lst [V.ref tp0])) := same_upd ntl
          generalize upd F0 tl (HO.lst [V.ref tp0]) = H61 at el1 sG0 ⊢
          have xG0 : ExtX F0 H61 := ExtX.n (ExtN.of sG0)
          have T1 := TF0.ext sG0
          have tr1 : ∀ a ∈ [tp0], Try H61 a := fun a ha => by rw [List.mem_singleton.mp ha]; exact try0.x xG0
          have pB1 := (pBB0.x xF0).x xG0
          have pT1 := (pTB0.x xF0).x xG0
          have va1 := (vaB0.x xF0).x xG0
          have vb1 := (vbB0.x xF0).x xG0
          have vc1 := (vcB0.x xF0).x xG0
          clear pB0 pT0 va0 vb0 vc0 T0 pBB0 pTB0 vaB0 vbB0 vcB0 TA0 TF0 eN0
          refine ⟨_, rfl, .inl ⟨rfl, _, SqL.of el1⟩, T1, fun A1 eN1 TA1 => ?_⟩
          intro B1 kk1 sB1
          have xB1 : ExtX H61 B1 := (ExtX.n eN1).trans (ExtX.n (ExtN.of sB1))
          have pBB1 := pB1.x xB1
          have pTB1 := pT1.x xB1
          have vaB1 := va1.x xB1
          have vbB1 := vb1.x xB1
          have vcB1 := vc1.x xB1
          refine ⟨_, rfl, _, rfl, _, rfl, _, rfl, ?_⟩
          refine tnil_k ?_
          refine row_made (.int 1) vbB1.dt vcB1.dt pTB1 pBB1 (fun h => lwF h) (.inr ⟨rfl, .inl ⟨hs2, fun de1 C1 sC1 nC1 eC1 => ⟨rfl, de1, "step", y2, rfl, eC1, fun tf1 D1 sD1 etf1 => ?_⟩⟩⟩)
          refine ⟨_, rfl, (by show 3 ≤ sizeLine; decide), fun tq1 ntq1 => ?_⟩
          have etq1 : upd D1 tq1 (HO.tup [V.str "number", V.str "step", y2]) tq1 = some (HO.tup [V.str "number", V.str "step", y2]) := upd_same
          have sE1 : Same D1 (upd D1 tq1 (HO.tup [V.str "number", V.str "step", y2])) := same_upd ntq1
          generalize upd D1 tq1 (HO.tup [V.str "number", V.str "step", y2]) = E1 at etq1 sE1 ⊢
          refine ⟨(by show 2 ≤ sizeLine; decide), fun tp1 ntp1 => ?_⟩
          have etp1 : upd E1 tp1 (HO.tup [V.ref tf1, V.ref tq1]) tp1 = some (HO.tup [V.ref tf1, V.ref tq1]) := upd_same
          have sF1 : Same E1 (upd E1 tp1 (HO.tup [V.ref tf1, V.ref tq1])) := same_upd ntp1
          generalize upd E1 tp1 (HO.tup [V.ref tf1, V.ref tq1]) = F1 at etp1 sF1 ⊢
          have sBF1 : Same B1 F1 := (sC1.trans (sD1.trans (sE1.trans sF1)))
          have xF1 : ExtX B1 F1 := ExtX.n (ExtN.of sBF1)
          have try1 : Try F1 tp1 := ⟨tf1, tq1, "step", y2, _, etp1, sF1 _ _ (sE1 _ _ etf1), sF1 _ _ etq1, (vbB1.x xF1)⟩
          have TF1 := (TA1.ext sB1).ext sBF1
          have elF1 := sBF1 _ _ (sB1 _ _ (eN1 _ _ el1 (fun ps z => by cases z)))
          refine tnil_k ?_
          refine ⟨tl, _, _, rfl, rfl, elF1, (by show 1 < sizeLine; decide), ?_⟩
          have el2 : upd F1 tl (HO.lst ([tp0].map V.ref ++ [V.ref tp1])) tl = some (HO.lst (([tp0, tp1] : List Addr).map V.ref)) := upd_same
          have xG1 : ExtX F1 (upd F1 tl (HO.lst ([tp0].map V.ref ++ [V.ref tp1]))) := ExtX.lst elF1
          have T2 := tabs_awL elF1 (H' := upd F1 tl (HO.lst ([tp0].map V.ref ++ [V.ref tp1]))) upd_away TF1
          generalize upd F1 tl (HO.lst ([tp0].map V.ref ++ [V.ref tp1])) = H62 at el2 xG1 T2 ⊢
          have xHG1 := (xB1.trans xF1).trans xG1
          have tr2 : ∀ a ∈ [tp0, tp1], Try H62 a := fun a ha => by
            rcases List.mem_append.mp (show a ∈ [tp0] ++ [tp1] from ha) with h | h
            · exact (tr1 a h).x xHG1
            · rw [List.mem_singleton.mp h]; exact try1.x xG1
          have pB2 := (pBB1.x xF1).x xG1
          have pT2 := (pTB1.x xF1).x xG1
          have va2 := (vaB1.x xF1).x xG1
          have vb2 := (vbB1.x xF1).x xG1
          have vc2 := (vcB1.x xF1).x xG1
          clear pB1 pT1 va1 vb1 vc1 T1 pBB1 pTB1 vaB1 vbB1 vcB1 TA1 TF1 eN1 tr1 el1 elF1
          refine ⟨_, rfl, .inl ⟨rfl, _, SqL.of el2⟩, T2, fun A2 eN2 TA2 => ?_⟩
          intro B2 kk2 sB2
          have xB2 : ExtX H62 B2 := (ExtX.n eN2).trans (ExtX.n (ExtN.of sB2))
          have pBB2 := pB2.x xB2
          have pTB2 := pT2.x xB2
          have vaB2 := va2.x xB2
          have vbB2 := vb2.x xB2
          have vcB2 := vc2.x xB2
          refine ⟨(by show 2 ≤ sizeLine; decide), fun th nth => ?_⟩
          have eth : upd B2 th (HO.tup [V.int 1, V.int 2]) th = some (HO.tup [V.int 1, V.int 2]) := upd_same
          have sth : Same B2 (upd B2 th (HO.tup [V.int 1, V.int 2])) := same_upd nth
          generalize upd B2 th (HO.tup [V.int 1, V.int 2]) = B29 at eth sth ⊢
          have xth : ExtX B2 B29 := ExtX.n (ExtN.of sth)
          refine ⟨_, rfl, _, rfl, _, rfl, ?_⟩
          refine tnil_k ?_
          refine row_made (d := .tuple [.int 1, .int 2]) (.tup (SqT.of eth) (.cons (.int _) (.cons (.int _) .nil))) (.int 1) (vcB2.x xth).dt (pTB2.x xth) (pBB2.x xth) (fun h => lwF h) (.inr ⟨rfl, .inr ⟨rfl, .inl ⟨hs3, fun de2 C2 sC2 nC2 eC2 => ⟨rfl, de2, "shift", y3, rfl, eC2, fun tf2 D2 sD2 etf2 => ?_⟩⟩⟩⟩)
          refine ⟨_, rfl, (by show 3 ≤ sizeLine; decide), fun tq2 ntq2 => ?_⟩
          have etq2 : upd D2 tq2 (HO.tup [V.str "number", V.str "shift", y3]) tq2 = some (HO.tup [V.str "number", V.str "shift", y3]) := upd_same
          have sE2 : Same D2 (upd D2 tq2 (HO.tup [V.str "number", V.str "shift", y3])) := same_upd ntq2
          generalize upd D2 tq2 (HO.tup [V.str "number", V.str "shift", y3]) = E2 at etq2 sE2 ⊢
          refine ⟨(by show 2 ≤ sizeLine; decide), fun tp2 ntp2 => ?_⟩
          have etp2 : upd E2 tp2 (HO.tup [V.ref tf2, V.ref tq2]) tp2 = some (HO.tup [V.ref tf2, V.ref tq2]) := upd_same
          have sF2 : Same E2 (upd E2 tp2 (HO.tup [V.ref tf2, V.ref tq2])) := same_upd ntp2
          generalize upd E2 tp2 (HO.tup [V.ref tf2, V.ref tq2]) = F2 at etp2 sF2 ⊢
          have sBF2 : Same B2 F2 := (sth).trans (sC2.trans (sD2.trans (sE2.trans sF2)))
          have xF2 : ExtX B2 F2 := ExtX.n (ExtN.of sBF2)
          have try2 : Try F2 tp2 := ⟨tf2, tq2, "shift", y3, _, etp2, sF2 _ _ (sE2 _ _ etf2), sF2 _ _ etq2, (vcB2.x xF2)⟩
          have TF2 := (TA2.ext sB2).ext sBF2
          have elF2 := sBF2 _ _ (sB2 _ _ (eN2 _ _ el2 (fun ps z => by cases z)))
          refine tnil_k ?_
          refine ⟨tl, _, _, rfl, rfl, elF2, (by show 2 < sizeLine; decide), ?_⟩
          have el3 : upd F2 tl (HO.lst ([tp0, tp1].map V.ref ++ [V.ref tp2])) tl = some (HO.lst (([tp0, tp1, tp2] : List Addr).map V.ref)) := upd_same
          have xG2 : ExtX F2 (upd F2 tl (HO.lst ([tp0, tp1].map V.ref ++ [V.ref tp2]))) := ExtX.lst elF2
          have T3 := tabs_awL elF2 (H' := upd F2 tl (HO.lst ([tp0, tp1].map V.ref ++ [V.ref tp2]))) upd_away TF2
          generalize upd F2 tl (HO.lst ([tp0, tp1].map V.ref ++ [V.ref tp2])) = H63 at el3 xG2 T3 ⊢
          have xHG2 := (xB2.trans xF2).trans xG2
          have tr3 : ∀ a ∈ [tp0, tp1, tp2], Try H63 a := fun a ha => by
            rcases List.mem_append.mp (show a ∈ [tp0, tp1] ++ [tp2] from ha) with h | h
            · exact (tr2 a h).x xHG2
            · rw [List.mem_singleton.mp h]; exact try2.x xG2
          have pB3 := (pBB2.x xF2).x xG2
          have pT3 := (pTB2.x xF2).x xG2
          have va3 := (vaB2.x xF2).x xG2
          have vb3 := (vbB2.x xF2).x xG2
          have vc3 := (vcB2.x xF2).x xG2
          clear pB2 pT2 va2 vb2 vc2 T2 pBB2 pTB2 vaB2 vbB2 vcB2 TA2 TF2 eN2 tr2 el2 elF2
          refine ⟨_, rfl, .inl ⟨rfl, _, SqL.of el3⟩, T3, fun A3 eN3 TA3 => ?_⟩
          intro B3 kk3 sB3
          have xB3 : ExtX H63 B3 := (ExtX.n eN3).trans (ExtX.n (ExtN.of sB3))
          have pBB3 := pB3.x xB3
          have pTB3 := pT3.x xB3
          have vaB3 := va3.x xB3
          have vbB3 := vb3.x xB3
          have vcB3 := vc3.x xB3
          refine ⟨_, rfl, _, rfl, ?_⟩
          refine row_made (.int 0) (.int 1) (.int 0) pTB3 pBB3 (fun h => lwF h) (.inr ⟨rfl, .inr ⟨rfl, .inr ⟨rfl, .inl ⟨zn, hz0, hz1, fun de3 C3 sC3 nC3 eC3 => ⟨rfl, de3, "bottom", (V.int (zn : Int)), rfl, eC3, fun tf3 D3 sD3 etf3 => ?_⟩⟩⟩⟩⟩)
          refine ⟨_, rfl, (by show 3 ≤ sizeLine; decide), fun tq3 ntq3 => ?_⟩
          have etq3 : upd D3 tq3 (HO.tup [V.str "number", V.str "bottom", (V.int (zn : Int))]) tq3 = some (HO.tup [V.str "number", V.str "bottom", (V.int (zn : Int))]) := upd_same
          have sE3 : Same D3 (upd D3 tq3 (HO.tup [V.str "number", V.str "bottom", (V.int (zn : Int))])) := same_upd ntq3
          generalize upd D3 tq3 (HO.tup [V.str "number", V.str "bottom", (V.int (zn : Int))]) = E3 at etq3 sE3 ⊢
          refine ⟨(by show 2 ≤ sizeLine; decide), fun tp3 ntp3 => ?_⟩
          have etp3 : upd E3 tp3 (HO.tup [V.ref tf3, V.ref tq3]) tp3 = some (HO.tup [V.ref tf3, V.ref tq3]) := upd_same
          have sF3 : Same E3 (upd E3 tp3 (HO.tup [V.ref tf3, V.ref tq3])) := same_upd ntp3
          generalize upd E3 tp3 (HO.tup [V.ref tf3, V.ref tq3]) = F3 at etp3 sF3 ⊢
          have sBF3 : Same B3 F3 := (sC3.trans (sD3.trans (sE3.trans sF3)))
          have xF3 : ExtX B3 F3 := ExtX.n (ExtN.of sBF3)
          have try3 : Try F3 tp3 := ⟨tf3, tq3, "bottom", (V.int (zn : Int)), _, etp3, sF3 _ _ (sE3 _ _ etf3), sF3 _ _ etq3, Vs.int _ _⟩
          have TF3 := (TA3.ext sB3).ext sBF3
          have elF3 := sBF3 _ _ (sB3 _ _ (eN3 _ _ el3 (fun ps z => by cases z)))
          refine tnil_k ?_
          refine ⟨tl, _, _, rfl, rfl, elF3, (by show 3 < sizeLine; decide), ?_⟩
          have el4 : upd F3 tl (HO.lst ([tp0, tp1, tp2].map V.ref ++ [V.ref tp3])) tl = some (HO.lst (([tp0, tp1, tp2, tp3] : List Addr).map V.ref)) := upd_same
          have xG3 : ExtX F3 (upd F3 tl (HO.lst ([tp0, tp1, tp2].map V.ref ++ [V.ref tp3]))) := ExtX.lst elF3
          have T4 := tabs_awL elF3 (H' := upd F3 tl (HO.lst ([tp0, tp1, tp2].map V.ref ++ [V.ref tp3]))) upd_away TF3
          generalize upd F3 tl (HO.lst ([tp0, tp1, tp2].map V.ref ++ [V.ref tp3])) = H64 at el4 xG3 T4 ⊢
          have xHG3 := (xB3.trans xF3).trans xG3
          have tr4 : ∀ a ∈ [tp0, tp1, tp2, tp3], Try H64 a := fun a ha => by
            rcases List.mem_append.mp (show a ∈ [tp0, tp1, tp2] ++ [tp3] from ha) with h | h
            · exact (tr3 a h).x xHG3
            · rw [List.mem_singleton.mp h]; exact try3.x xG3
          have pB4 := (pBB3.x xF3).x xG3
          have pT4 := (pTB3.x xF3).x xG3
          have va4 := (vaB3.x xF3).x xG3
          have vb4 := (vbB3.x xF3).x xG3
          have vc4 := (vcB3.x xF3).x xG3
          clear pB3 pT3 va3 vb3 vc3 T3 pBB3 pTB3 vaB3 vbB3 vcB3 TA3 TF3 eN3 tr3 el3 elF3
          refine ⟨_, rfl, .inl ⟨rfl, _, SqL.of el4⟩, T4, fun A4 eN4 TA4 => ?_⟩
          intro B4 kk4 sB4
          have xB4 : ExtX H64 B4 := (ExtX.n eN4).trans (ExtX.n (ExtN.of sB4))
          have pBB4 := pB4.x xB4
          have pTB4 := pT4.x xB4
          have vaB4 := va4.x xB4
          have vbB4 := vb4.x xB4
          have vcB4 := vc4.x xB4
          refine ⟨_, rfl, (by show 0 ≤ sizeLine; decide), fun te nte => ?_⟩
          have ete : upd B4 te (HO.tup []) te = some (HO.tup []) := upd_same
          have ste : Same B4 (upd B4 te (HO.tup [])) := same_upd nte
          generalize upd B4 te (HO.tup []) = B49 at ete ste ⊢
          refine tnil_k ?_
          refine poly_0 ete fun x00 B48 s48 p00 => ?_
          have sth := ste.trans s48
          have xth : ExtX B4 B48 := ExtX.n (ExtN.of sth)
          refine row_made (.int 1) (.int 1) (.int 0) (pTB4.x xth) p00 (fun h => absurd rfl h) (.inr ⟨rfl, .inr ⟨rfl, .inr ⟨rfl, .inl ⟨0, rfl, fun y hy => absurd hy (Nat.not_lt_zero y), fun de4 C4 sC4 nC4 eC4 => ⟨rfl, de4, "bottom", (V.int 0), rfl, eC4, fun tf4 D4 sD4 etf4 => ?_⟩⟩⟩⟩⟩)
          refine ⟨(by show 3 ≤ sizeLine; decide), fun tq4 ntq4 => ?_⟩
          have etq4 : upd D4 tq4 (HO.tup [V.str "number", V.str "bottom", (V.int 0)]) tq4 = some (HO.tup [V.str "number", V.str "bottom", (V.int 0)]) := upd_same
          have sE4 : Same D4 (upd D4 tq4 (HO.tup [V.str "number", V.str "bottom", (V.int 0)])) := same_upd ntq4
          generalize upd D4 tq4 (HO.tup [V.str "number", V.str "bottom", (V.int 0)]) = E4 at etq4 sE4 ⊢
          refine ⟨(by show 2 ≤ sizeLine; decide), fun tp4 ntp4 => ?_⟩
          have etp4 : upd E4 tp4 (HO.tup [V.ref tf4, V.ref tq4]) tp4 = some (HO.tup [V.ref tf4, V.ref tq4]) := upd_same
          have sF4 : Same E4 (upd E4 tp4 (HO.tup [V.ref tf4, V.ref tq4])) := same_upd ntp4
          generalize upd E4 tp4 (HO.tup [V.ref tf4, V.ref tq4]) = F4 at etp4 sF4 ⊢
          have sBF4 : Same B4 F4 := (sth).trans (sC4.trans (sD4.trans (sE4.trans sF4)))
          have xF4 : ExtX B4 F4 := ExtX.n (ExtN.of sBF4)
          have try4 : Try F4 tp4 := ⟨tf4, tq4, "bottom", (V.int 0), _, etp4, sF4 _ _ (sE4 _ _ etf4), sF4 _ _ etq4, Vs.int _ _⟩
          have TF4 := (TA4.ext sB4).ext sBF4
          have elF4 := sBF4 _ _ (sB4 _ _ (eN4 _ _ el4 (fun ps z => by cases z)))
          refine tnil_k ?_
          refine ⟨tl, _, _, rfl, rfl, elF4, (by show 4 < sizeLine; decide), ?_⟩
          have el5 : upd F4 tl (HO.lst ([tp0, tp1, tp2, tp3].map V.ref ++ [V.ref tp4])) tl = some (HO.lst (([tp0, tp1, tp2, tp3, tp4] : List Addr).map V.ref)) := upd_same
          have xG4 : ExtX F4 (upd F4 tl (HO.lst ([tp0, tp1, tp2, tp3].map V.ref ++ [V.ref tp4]))) := ExtX.lst elF4
          have T5 := tabs_awL elF4 (H' := upd F4 tl (HO.lst ([tp0, tp1, tp2, tp3].map V.ref ++ [V.ref tp4]))) upd_away TF4
          generalize upd F4 tl (HO.lst ([tp0, tp1, tp2, tp3].map V.ref ++ [V.ref tp4])) = H65 at el5 xG4 T5 ⊢
          have xHG4 := (xB4.trans xF4).trans xG4
          have tr5 : ∀ a ∈ [tp0, tp1, tp2, tp3, tp4], Try H65 a := fun a ha => by
            rcases List.mem_append.mp (show a ∈ [tp0, tp1, tp2, tp3] ++ [tp4] from ha) with h | h
            · exact (tr4 a h).x xHG4
            · rw [List.mem_singleton.mp h]; exact try4.x xG4
          have pB5 := (pBB4.x xF4).x xG4
          have pT5 := (pTB4.x xF4).x xG4
          have va5 := (vaB4.x xF4).x xG4
          have vb5 := (vbB4.x xF4).x xG4
          have vc5 := (vcB4.x xF4).x xG4
          clear pB4 pT4 va4 vb4 vc4 T4 pBB4 pTB4 vaB4 vbB4 vcB4 TA4 TF4 eN4 tr4 el4 elF4
          clear pB5 pT5 va5 vb5 vc5 T5
          dsimp only [List.set]
          refine ⟨_, rfl, tl, rfl, lc_seq (.inl (SqL.of el5)) (fun D i H' => Same H65 H' ∧ H' D = some (.lst (List.replicate i (V.bl true)))) ?_ ?_ ?_ ?_⟩
          · exact fun D hD => ⟨same_upd hD, upd_same⟩
          · exact fun D i H' hD ⟨ss, _⟩ => ⟨fun h => same_sqL ss h, fun h => same_sqT ss h⟩
          · rintro D i yy H' hD hi ⟨ss, eD⟩
            rw [List.getElem?_map] at hi
            obtain ⟨aa, ha, rfl⟩ := Option.map_eq_some_iff.mp hi
            have i5 := (List.getElem?_eq_some_iff.mp ha).1
            have i5 : i < 5 := i5
            obtain ⟨tf, tt', ww, vv, dd', g1', g2', g3', g4'⟩ := tr5 aa (List.mem_of_getElem? ha)
            have gv := (g4'.x (ExtX.n (ExtN.of ss)))
            refine ⟨aa, _, rfl, SqT.of (ss _ _ g1'), rfl, _, _, rfl, _, _, rfl, rfl, ?_⟩
            refine ⟨rfl, ?_⟩
            have hpl : (PyData.tuple [.str "number", .str ww, dd']).plain = true := by simp [PyData.plain, PyData.plainAll, g4'.2.1]
            have hdp : (PyData.tuple [.str "number", .str ww, dd']).depth ≤ 60 := by
              have := g4'.2.2
              simp [PyData.depth, PyData.depthAll]
              omega
            refine ⟨_, rfl, _, rfl, _, _, .tup (SqT.of (ss _ _ g2')) (.cons (.str _) (.cons (.str _) (.cons gv.dt .nil))), .tup (SqT.of (ss _ _ g3')) (.cons (.str _) (.cons (.str _) (.cons gv.dt .nil))), hpl, hpl, hdp, ?_⟩
            rw [SeqAt.eqv_refl_plain _ hpl]
            refine ⟨_, eD, by rw [List.length_replicate, sizeLine_eq]; omega, fun c o e => ?_, ?_⟩
            · rw [upd_ne (ne_of_none e hD)]
              exact ss _ _ e
            · rw [upd_same, List.replicate_succ']
          · rintro D H' hD ⟨ss, eD⟩
            refine ⟨D, List.replicate 5 true, rfl, ?_, ?_⟩
            · rw [List.map_replicate]
              exact SqL.of eD
            · rw [show (List.replicate 5 true).all id = true from rfl]
              exact kend H'
        · rw [ek] at hd0
          have := of_decide_eq_false (show decide ((0 : Int) ≤ (k : Int)) = false from hd0)
          omega
end
end Vf
set_option maxRecDepth 100000
set_option maxHeartbeats 4000000
namespace Vf
open PySem PySem.Spec PyProof.Rows L2
/-- what is known of the law's def at the heap behind the top -/
def LawG (l : PySem.W.OpenLaw) (w : World) (K : PySem.W.Frag) (C : CXT) (k n : Nat) (x : Str) (mg : Str → Option Value) (fa : Addr) (h : Heap) : Prop :=
  ∃ (fd : FuncData) (cs : List (Addr × Addr)) (sp : Sp), (∀ p ∈ cs, h.get? p.2 = some { cls := .none, data := .fields #[] }) ∧ (∀ p ∈ cs, K.lookup p.2 = none) ∧ (∀ p ∈ cs, PySem.W.CodeHd h p.1 p.2) ∧
    (∀ (s : Shared) (u : Value), BindsTo s fd ⟨[u], []⟩ [(x, u)]) ∧
    (∀ (H : Hp) (a : Addr) (ns : List Int), ns.length ≤ n → (∀ z ∈ ns, Builtin.Int.intBits z ≤ 1048576) → (∀ p ∈ cs, H p.2 = some (.tbl #[])) → SqL K H a (ns.map V.int) → sp [.ref a] H (fun v _ => v = .bl true) E0) ∧
    ∀ b : Heap, K.In b → b.Ns mainGlobals mg → M1 b → (∀ p ∈ cs, LamX.TabB b mg p.1 p.2) → FnG l.prog w K mg b C k fa fd [x] sp
/-- an exception class, its facts in one look -/
def oexB (K : PySem.W.Frag) (C : Addr) : Bool :=
  decide (PySem.W.findIn K (.ref C) "__setattr__" = some (some (.builtin "object.__setattr__"))) && (decide (PySem.W.subIn K (.ref C) (.type "BaseException") = some true) &&
    (decide (PySem.W.typeIn K (.ref C) = some (.type "type")) && PySem.W.keepIn K (.ref C)))
theorem oexB_ok {K : PySem.W.Frag} {C : Addr} (h : oexB K C = true) (c : ∃ nm q N bs bm sn sub ab col dd k0 k1 k2 k3 k5, K.lookup C = some (excClassObj nm q C N bs bm true sn sub ab col dd k0 k1 k2 k3 k5 "ValueError.__new__") ∧ PySem.HandSPX.refsVE bm = true) : OexC K C := by
  obtain ⟨h1, h⟩ := Bool.and_eq_true_iff.mp h
  obtain ⟨h2, h⟩ := Bool.and_eq_true_iff.mp h
  obtain ⟨h3, h4⟩ := Bool.and_eq_true_iff.mp h
  exact ⟨c, of_decide_eq_true h1, of_decide_eq_true h2, of_decide_eq_true h3, h4⟩
end Vf
set_option maxRecDepth 100000
set_option maxHeartbeats 4000000
namespace Vf
open PySem PySem.Spec PyProof.Rows L2
/-- the tables of the text's own defs are empty, their code objects as they come -/
def TabsG (q : Program) (K : PySem.W.Frag) (mg : Str → Option Value) (h : Heap) : Prop :=
  ∀ (x : Str) (f c Pt : Addr) (o : Obj) (fd : FuncData) (e : Value) (dd : Option Addr) (vs : Array Value) (sl : Array (Option Value)), ((recsOf q).any fun e => e.name == x) = true → mg x = some (.ref f) → K.lookup f = some o → o.data = .func fd → fd.code = .ref c →
    K.lookup c = some ⟨e, dd, .fields vs, sl⟩ → vs[11]? = some (.ref Pt) → PySem.W.CodeHd h c Pt ∧ h.get? Pt = some { cls := .none, data := .fields #[] }
theorem walkT {l : PySem.W.OpenLaw} {n k : Nat} {q : Program} {loose : List Str} {XP : (Str → Option Value) → Heap → Prop} {YP : World → Heap → Prop} {d : DefRec} {K : Params → PySem.W.Frag} {C : World → CXT} {x : Str}
    (hn : l.most = some n) (hn2 : n ≤ sizeLine) (hdf : d.params.defaults = []) (hr : Room k callerA) (hi : importsNone q = true) (hY : ∀ (w : World) (h : Heap), YP w h → (K w.params).In h)
    (F : ∀ (w : World) (mg : Str → Option Value) (fa : Addr) (h : Heap), YP w h → (K w.params).In h → h.Ns mainGlobals mg → mg d.name = some (.ref fa) → TabsG q (K w.params) mg h → LawG l w (K w.params) (C w) k n x mg fa h)
    (hE : ∀ (w : World) (H : Hp) (s : Shared) (e : Value) (s' : Shared), C w [] H s E0 e s' → False) : PySem.W.WalkO q loose XP YP l.row.toRowW d [] (fun f vs => PySem.call f vs) := by
  refine Att.attach_callB hn hdf fun w s0 s1 mg mb fa o pm cd doc a vs ns G Y ho hd hcd hmg hobj hints hlen hbits hg => ?_
  have X := hY w _ Y
  have tabs : TabsG q (K w.params) mg s1.heap := fun x f c Pt o1 fd1 e dd vs1 sl hrec k0 k1 k2 k3 k4 k5 => by
    obtain ⟨dL, hm, hn1⟩ := List.any_eq_true.mp hrec
    have hn2 : dL.name = x := beq_iff_eq.mp hn1
    obtain ⟨a', o', fd', c', P', h1, h2, h3, h4, h5, h6⟩ := G.T.tab dL hm
    rw [hn2, k0] at h1
    cases h1
    have g1 := X _ _ k1
    rw [g1] at h2
    cases h2
    rw [k2] at h3
    cases h3
    rw [k3] at h4
    cases h4
    have h6' := h6
    obtain ⟨⟨oc, vc, e1, _, e3, e4⟩, hP⟩ := h6'
    have g2 := X _ _ k4
    rw [g2] at e1
    cases e1
    cases e3
    rw [k5] at e4
    cases e4
    exact ⟨PySem.W.CodeHd.of h5 h6, hP⟩
  obtain ⟨fd, cs, sp, hT, nT, hC, bind, hsp, hF⟩ := F w mg fa _ Y X G.T.g hmg tabs
  have m1 : M1 s1.heap := by
    obtain ⟨mm, ⟨o, es, ep, e, dt, _⟩, _⟩ := (G.T.seer hi).mods
    exact ⟨o, es, ep, e, dt⟩
  exact law_enter X G.T.g G.T.b G.T.builtins G.T.nolimit hg hT nT hC G.T.bmain m1 hobj hints (Nat.le_trans hlen hn2) hr hF bind (fun H h1 h2 => hsp H a ns hlen hbits h1 h2) fun H e s' => hE w H s1 e s'
end Vf
set_option maxRecDepth 100000
set_option maxHeartbeats 8000000
namespace Vf
open PySem PySem.Spec PyProof.Rows L2
def tyNames : List String := ["NoneType", "bool", "int", "str", "list", "tuple", "dict"]
def polyB (K : PySem.W.Frag) (CP : Addr) : Bool :=
  PySem.W.plainGet K CP Str.empty && (PySem.W.hasDictIn K CP && (PySem.W.plainOver K CP && (decide (PySem.W.findIn K (.ref CP) "__setattr__" = some (some (.builtin "object.__setattr__"))) && (decide (PySem.W.findIn K (.ref CP) "numbers" = some none) &&
  (decide (PySem.W.findIn K (.ref CP) "__class__" = some (some (.builtin "object.__class__"))) && (decide (PySem.W.specialIn K (.builtin "object.__class__") "__get__" = some (some (.builtin "getset_descriptor.__get__"))) &&
  (decide (PySem.W.takesIn K (.builtin "object.__class__") = some true) && (decide (PySem.W.mroIn K CP (.type "object") = some true) && (tyNames.all (fun t => decide (PySem.W.kitOne K (.type t) (.ref CP) = some false) && PySem.W.notFirst K CP (.type t)) &&
  (PySem.W.notFirst K CP (.ref CP) && (PySem.W.makesIn K CP && PySem.W.keepIn K (.ref CP))))))))))))
theorem tyD_mem (d : PyData) : tyD d ∈ tyNames := by
  cases d <;> simp [tyD, tyNames]
theorem polyC {K : PySem.W.Frag} {mg : Str → Option Value} {CP : Addr} (m : mg "Poly" = some (.ref CP)) (h : polyB K CP = true) : PoC K mg CP ∧ PySem.W.makesIn K CP = true ∧ PySem.W.keepIn K (.ref CP) = true := by
  obtain ⟨h1, h⟩ := Bool.and_eq_true_iff.mp h
  obtain ⟨h2, h⟩ := Bool.and_eq_true_iff.mp h
  obtain ⟨h3, h⟩ := Bool.and_eq_true_iff.mp h
  obtain ⟨h4, h⟩ := Bool.and_eq_true_iff.mp h
  obtain ⟨h5, h⟩ := Bool.and_eq_true_iff.mp h
  obtain ⟨h6, h⟩ := Bool.and_eq_true_iff.mp h
  obtain ⟨h7, h⟩ := Bool.and_eq_true_iff.mp h
  obtain ⟨h8, h⟩ := Bool.and_eq_true_iff.mp h
  obtain ⟨h9, h⟩ := Bool.and_eq_true_iff.mp h
  obtain ⟨h10, h⟩ := Bool.and_eq_true_iff.mp h
  obtain ⟨h11, h⟩ := Bool.and_eq_true_iff.mp h
  obtain ⟨h12, h13⟩ := Bool.and_eq_true_iff.mp h
  have z := fun d : PyData => Bool.and_eq_true_iff.mp (List.all_eq_true.mp h10 (tyD d) (tyD_mem d))
  exact ⟨⟨m, ⟨h1, h2, h3, of_decide_eq_true h4⟩, (of_decide_eq_true h5 : PySem.W.findIn K (.ref CP) "numbers" = some none), of_decide_eq_true h6, of_decide_eq_true h7, of_decide_eq_true h8, of_decide_eq_true h9, fun d => of_decide_eq_true (z d).1, h11, fun d => (z d).2⟩, h12, h13⟩
theorem fn_of_ty {K : PySem.W.Frag} {f : Addr} (h : PySem.W.typeIn K (.ref f) = some (.type "function")) : PySem.W.isFn K (.ref f) = true := by
  unfold PySem.W.isFn
  rw [h]
  decide +kernel
def insB (K : PySem.W.Frag) (C : Addr) (fs : List Str) : Bool :=
  PySem.W.plainGet K C Str.empty && (PySem.W.hasDictIn K C && (PySem.W.plainOver K C && (decide (PySem.W.findIn K (.ref C) "__setattr__" = some (some (.builtin "object.__setattr__"))) && (fs.all (fun f => decide (PySem.W.findIn K (.ref C) f = some none)) && (PySem.W.makesIn K C && PySem.W.keepIn K (.ref C))))))
theorem rowC {K : PySem.W.Frag} {mg : Str → Option Value} {C : Addr} (m : mg "Row" = some (.ref C)) (h : insB K C ["start", "top", "bottom", "step", "shift"] = true) : RwC K mg C ∧ PySem.W.makesIn K C = true ∧ PySem.W.keepIn K (.ref C) = true := by
  obtain ⟨h1, h⟩ := Bool.and_eq_true_iff.mp h
  obtain ⟨h2, h⟩ := Bool.and_eq_true_iff.mp h
  obtain ⟨h3, h⟩ := Bool.and_eq_true_iff.mp h
  obtain ⟨h4, h⟩ := Bool.and_eq_true_iff.mp h
  obtain ⟨h5, h⟩ := Bool.and_eq_true_iff.mp h
  obtain ⟨h6, h7⟩ := Bool.and_eq_true_iff.mp h
  have nf : ∀ f ∈ (["start", "top", "bottom", "step", "shift"] : List Str), NoAttr K C f := fun f hf => (of_decide_eq_true (List.all_eq_true.mp h5 f hf) : PySem.W.findIn K (.ref C) f = some none)
  exact ⟨⟨m, ⟨h1, h2, h3, of_decide_eq_true h4⟩, nf _ (by simp), nf _ (by simp), nf _ (by simp), nf _ (by simp), nf _ (by simp)⟩, h6, h7⟩
theorem all_mk {PB : Addr} {dPB : Option Addr} {nPB : Nat} {sPB : Array (Option Value)} {u0 u1 u2 u3 u4 u5 u6 u7 : Tok}
    {l : PySem.W.OpenLaw} {w : World} {K : PySem.W.Frag} {h : Heap} {mg : Str → Option Value} {fa : Addr} {q : Program}
    {C0 C1 C2 i0 i1 i2 f0 f1 f2 f3 f4 f5 f6 f7 f8 f9 f10 f11 f12 f13 f14 f15 f16 f17 f18 f19 f20 f21 f22 f23 f24 f25 f26 f27 f28 f29 f30 f31 f32 f33 f34 f35 f36 f37 f38 f39 f40 f41 f42 f43 f44 f45 f46 f47 f48 f49 f50 f51 f52 f53 f54 f55 f56 f57 f58 Cg g0 g1 g2 g3 g4 Cr r0 cL Pt : Addr}
    {eL : Value} {dL : Option Addr} {vL : Array Value} {sL : Array (Option Value)} 
    {ocf0 kVf0 dcf0 pmf0 cdf0 ctf0 : Value} {odf0 anf0 : Option Addr} {slf0 : Array (Option Value)}
    {ocf1 kVf1 dcf1 pmf1 cdf1 ctf1 : Value} {odf1 anf1 : Option Addr} {slf1 : Array (Option Value)}
    {ocf2 kVf2 dcf2 pmf2 cdf2 ctf2 : Value} {odf2 anf2 : Option Addr} {slf2 : Array (Option Value)}
    {ocf3 kVf3 dcf3 pmf3 cdf3 ctf3 : Value} {odf3 anf3 : Option Addr} {slf3 : Array (Option Value)}
    {ocf4 kVf4 dcf4 pmf4 cdf4 ctf4 : Value} {odf4 anf4 : Option Addr} {slf4 : Array (Option Value)}
    {ocf5 kVf5 dcf5 pmf5 cdf5 ctf5 : Value} {odf5 anf5 : Option Addr} {slf5 : Array (Option Value)}
    {ocf6 kVf6 dcf6 pmf6 cdf6 ctf6 : Value} {odf6 anf6 : Option Addr} {slf6 : Array (Option Value)}
    {ocf7 kVf7 dcf7 pmf7 cdf7 ctf7 : Value} {odf7 anf7 : Option Addr} {slf7 : Array (Option Value)}
    {ocf8 kVf8 dcf8 pmf8 cdf8 ctf8 : Value} {odf8 anf8 : Option Addr} {slf8 : Array (Option Value)}
    {ocf9 kVf9 dcf9 pmf9 cdf9 ctf9 : Value} {odf9 anf9 : Option Addr} {slf9 : Array (Option Value)}
    {ocf10 kVf10 dcf10 pmf10 cdf10 ctf10 : Value} {odf10 anf10 : Option Addr} {slf10 : Array (Option Value)}
    {ocf11 kVf11 dcf11 pmf11 cdf11 ctf11 : Value} {odf11 anf11 : Option Addr} {slf11 : Array (Option Value)}
    {ocf12 kVf12 dcf12 pmf12 cdf12 ctf12 : Value} {odf12 anf12 : Option Addr} {slf12 : Array (Option Value)}
    {ocf13 kVf13 dcf13 pmf13 cdf13 ctf13 : Value} {odf13 anf13 : Option Addr} {slf13 : Array (Option Value)}
    {ocf14 kVf14 dcf14 pmf14 cdf14 ctf14 : Value} {odf14 anf14 : Option Addr} {slf14 : Array (Option Value)}
    {ocf15 kVf15 dcf15 pmf15 cdf15 ctf15 : Value} {odf15 anf15 : Option Addr} {slf15 : Array (Option Value)}
    {ocf16 kVf16 dcf16 pmf16 cdf16 ctf16 : Value} {odf16 anf16 : Option Addr} {slf16 : Array (Option Value)}
    {ocf17 kVf17 dcf17 pmf17 cdf17 ctf17 : Value} {odf17 anf17 : Option Addr} {slf17 : Array (Option Value)}
    {ocf18 kVf18 dcf18 pmf18 cdf18 ctf18 : Value} {odf18 anf18 : Option Addr} {slf18 : Array (Option Value)}
    {ocf19 kVf19 dcf19 pmf19 cdf19 ctf19 : Value} {odf19 anf19 : Option Addr} {slf19 : Array (Option Value)}
    {ocf20 kVf20 dcf20 pmf20 cdf20 ctf20 : Value} {odf20 anf20 : Option Addr} {slf20 : Array (Option Value)}
    {ocf21 kVf21 dcf21 pmf21 cdf21 ctf21 : Value} {odf21 anf21 : Option Addr} {slf21 : Array (Option Value)}
    {ocf22 kVf22 dcf22 pmf22 cdf22 ctf22 : Value} {odf22 anf22 : Option Addr} {slf22 : Array (Option Value)}
    {ocf23 kVf23 dcf23 pmf23 cdf23 ctf23 : Value} {odf23 anf23 : Option Addr} {slf23 : Array (Option Value)}
    {ocf24 kVf24 dcf24 pmf24 cdf24 ctf24 : Value} {odf24 anf24 : Option Addr} {slf24 : Array (Option Value)}
    {ocf25 kVf25 dcf25 pmf25 cdf25 ctf25 : Value} {odf25 anf25 : Option Addr} {slf25 : Array (Option Value)}
    {ocf26 kVf26 dcf26 pmf26 cdf26 ctf26 : Value} {odf26 anf26 : Option Addr} {slf26 : Array (Option Value)}
    {ocf27 kVf27 dcf27 pmf27 cdf27 ctf27 : Value} {odf27 anf27 : Option Addr} {slf27 : Array (Option Value)}
    {ocf28 kVf28 dcf28 pmf28 cdf28 ctf28 : Value} {odf28 anf28 : Option Addr} {slf28 : Array (Option Value)}
    {ocf29 kVf29 dcf29 pmf29 cdf29 ctf29 : Value} {odf29 anf29 : Option Addr} {slf29 : Array (Option Value)}
    {ocf30 kVf30 dcf30 pmf30 cdf30 ctf30 : Value} {odf30 anf30 : Option Addr} {slf30 : Array (Option Value)}
    {ocf31 kVf31 dcf31 pmf31 cdf31 ctf31 : Value} {odf31 anf31 : Option Addr} {slf31 : Array (Option Value)}
    {ocf32 kVf32 dcf32 pmf32 cdf32 ctf32 : Value} {odf32 anf32 : Option Addr} {slf32 : Array (Option Value)}
    {ocf33 kVf33 dcf33 pmf33 cdf33 ctf33 : Value} {odf33 anf33 : Option Addr} {slf33 : Array (Option Value)}
    {ocf34 kVf34 dcf34 pmf34 cdf34 ctf34 : Value} {odf34 anf34 : Option Addr} {slf34 : Array (Option Value)}
    {ocf35 kVf35 dcf35 pmf35 cdf35 ctf35 : Value} {odf35 anf35 : Option Addr} {slf35 : Array (Option Value)}
    {ocf36 kVf36 dcf36 pmf36 cdf36 ctf36 : Value} {odf36 anf36 : Option Addr} {slf36 : Array (Option Value)}
    {ocf37 kVf37 dcf37 pmf37 cdf37 ctf37 : Value} {odf37 anf37 : Option Addr} {slf37 : Array (Option Value)}
    {ocf38 kVf38 dcf38 pmf38 cdf38 ctf38 : Value} {odf38 anf38 : Option Addr} {slf38 : Array (Option Value)}
    {ocf39 kVf39 dcf39 pmf39 cdf39 ctf39 : Value} {odf39 anf39 : Option Addr} {slf39 : Array (Option Value)}
    {ocf40 kVf40 dcf40 pmf40 cdf40 ctf40 : Value} {odf40 anf40 : Option Addr} {slf40 : Array (Option Value)}
    {ocf41 kVf41 dcf41 pmf41 cdf41 ctf41 : Value} {odf41 anf41 : Option Addr} {slf41 : Array (Option Value)}
    {ocf42 kVf42 dcf42 pmf42 cdf42 ctf42 : Value} {odf42 anf42 : Option Addr} {slf42 : Array (Option Value)}
    {ocf43 kVf43 dcf43 pmf43 cdf43 ctf43 : Value} {odf43 anf43 : Option Addr} {slf43 : Array (Option Value)}
    {ocf44 kVf44 dcf44 pmf44 cdf44 ctf44 : Value} {odf44 anf44 : Option Addr} {slf44 : Array (Option Value)}
    {ocf45 kVf45 dcf45 pmf45 cdf45 ctf45 : Value} {odf45 anf45 : Option Addr} {slf45 : Array (Option Value)}
    {ocf46 kVf46 dcf46 pmf46 cdf46 ctf46 : Value} {odf46 anf46 : Option Addr} {slf46 : Array (Option Value)}
    {ocf47 kVf47 dcf47 pmf47 cdf47 ctf47 : Value} {odf47 anf47 : Option Addr} {slf47 : Array (Option Value)}
    {ocf48 kVf48 dcf48 pmf48 cdf48 ctf48 : Value} {odf48 anf48 : Option Addr} {slf48 : Array (Option Value)}
    {ocf49 kVf49 dcf49 pmf49 cdf49 ctf49 : Value} {odf49 anf49 : Option Addr} {slf49 : Array (Option Value)}
    {ocf50 kVf50 dcf50 pmf50 cdf50 ctf50 : Value} {odf50 anf50 : Option Addr} {slf50 : Array (Option Value)}
    {ocf51 kVf51 dcf51 pmf51 cdf51 ctf51 : Value} {odf51 anf51 : Option Addr} {slf51 : Array (Option Value)}
    {ocf52 kVf52 dcf52 pmf52 cdf52 ctf52 : Value} {odf52 anf52 : Option Addr} {slf52 : Array (Option Value)}
    {ocf53 kVf53 dcf53 pmf53 cdf53 ctf53 : Value} {odf53 anf53 : Option Addr} {slf53 : Array (Option Value)}
    {ocf54 kVf54 dcf54 pmf54 cdf54 ctf54 : Value} {odf54 anf54 : Option Addr} {slf54 : Array (Option Value)}
    {ocf55 kVf55 dcf55 pmf55 cdf55 ctf55 : Value} {odf55 anf55 : Option Addr} {slf55 : Array (Option Value)}
    {ocf56 kVf56 dcf56 pmf56 cdf56 ctf56 : Value} {odf56 anf56 : Option Addr} {slf56 : Array (Option Value)}
    {ocf57 kVf57 dcf57 pmf57 cdf57 ctf57 : Value} {odf57 anf57 : Option Addr} {slf57 : Array (Option Value)}
    {ocf58 kVf58 dcf58 pmf58 ctf58 : Value} {odf58 anf58 : Option Addr} {slf58 : Array (Option Value)}
    {tkFIRST_PRIME : Tok}
    {tkSPARE_BITS : Tok}
    {oci0 kVi0 dci0 pmi0 cdi0 cti0 : Value} {odi0 ani0 : Option Addr} {sli0 : Array (Option Value)}
    {nm0 qn0 : Str} {N0 : Addr} {bs0 bm0 sub0 : List Value} {sn0 : List Str} {ab0 : Bool} {col0 : Option Bool} {dd0 : Option Addr} {ka0 kb0 kc0 kd0 ke0 : Option Value}
    {oci1 kVi1 dci1 pmi1 cdi1 cti1 : Value} {odi1 ani1 : Option Addr} {sli1 : Array (Option Value)}
    {nm1 qn1 : Str} {N1 : Addr} {bs1 bm1 sub1 : List Value} {sn1 : List Str} {ab1 : Bool} {col1 : Option Bool} {dd1 : Option Addr} {ka1 kb1 kc1 kd1 ke1 : Option Value}
    {oci2 kVi2 dci2 pmi2 cdi2 cti2 : Value} {odi2 ani2 : Option Addr} {sli2 : Array (Option Value)}
    {nm2 qn2 : Str} {N2 : Addr} {bs2 bm2 sub2 : List Value} {sn2 : List Str} {ab2 : Bool} {col2 : Option Bool} {dd2 : Option Addr} {ka2 kb2 kc2 kd2 ke2 : Option Value}
    {ocg0 kVg0 dcg0 pmg0 cdg0 ctg0 : Value} {odg0 ang0 : Option Addr} {slg0 : Array (Option Value)}
    {ocg1 kVg1 dcg1 pmg1 cdg1 ctg1 : Value} {odg1 ang1 : Option Addr} {slg1 : Array (Option Value)}
    {ocg2 kVg2 dcg2 pmg2 cdg2 ctg2 : Value} {odg2 ang2 : Option Addr} {slg2 : Array (Option Value)}
    {ocg3 kVg3 dcg3 pmg3 cdg3 ctg3 : Value} {odg3 ang3 : Option Addr} {slg3 : Array (Option Value)}
    {ocg4 kVg4 dcg4 pmg4 cdg4 ctg4 : Value} {odg4 ang4 : Option Addr} {slg4 : Array (Option Value)}
    {ocr0 kVr0 dcr0 pmr0 cdr0 ctr0 : Value} {odr0 anr0 : Option Addr} {slr0 : Array (Option Value)}
    (X : K.In h) (G : h.Ns mainGlobals mg) (hfa : mg "law" = some (.ref fa)) (TB : TabsG q K mg h)
    (a0 : PySem.W.nsIn K mainGlobals "_law_pen" = some (some (.ref f0)))
    (l0 : K.lookup f0 = some ⟨ocf0, odf0, .func (PySem.W.fnOf "_law_pen" "_law_pen" (defArgs sPen) (defBody sPen) (defScope sPen) .none kVf0 dcf0 pmf0 anf0 cdf0 ctf0), slf0⟩)
    (c0 : PySem.W.codeIn K cdf0 "_law_pen" = true)
    (k0 : PySem.W.keepIn K (.ref f0) = true)
    (a1 : PySem.W.nsIn K mainGlobals "_law_draw" = some (some (.ref f1)))
    (l1 : K.lookup f1 = some ⟨ocf1, odf1, .func (PySem.W.fnOf "_law_draw" "_law_draw" (defArgs sDraw) (defBody sDraw) (defScope sDraw) .none kVf1 dcf1 pmf1 anf1 cdf1 ctf1), slf1⟩)
    (c1 : PySem.W.codeIn K cdf1 "_law_draw" = true)
    (k1 : PySem.W.keepIn K (.ref f1) = true)
    (a2 : PySem.W.nsIn K mainGlobals "_law_pick" = some (some (.ref f2)))
    (l2 : K.lookup f2 = some ⟨ocf2, odf2, .func (PySem.W.fnOf "_law_pick" "_law_pick" (defArgs sPick) (defBody sPick) (defScope sPick) .none kVf2 dcf2 pmf2 anf2 cdf2 ctf2), slf2⟩)
    (c2 : PySem.W.codeIn K cdf2 "_law_pick" = true)
    (k2 : PySem.W.keepIn K (.ref f2) = true)
    (a3 : PySem.W.nsIn K mainGlobals "is_whole" = some (some (.ref f3)))
    (l3 : K.lookup f3 = some ⟨ocf3, odf3, .func (PySem.W.fnOf "is_whole" "is_whole" (defArgs sIsWhole) (defBody sIsWhole) (defScope sIsWhole) .none kVf3 dcf3 pmf3 anf3 cdf3 ctf3), slf3⟩)
    (c3 : PySem.W.codeIn K cdf3 "is_whole" = true)
    (k3 : PySem.W.keepIn K (.ref f3) = true)
    (a4 : PySem.W.nsIn K mainGlobals "is_ratio" = some (some (.ref f4)))
    (l4 : K.lookup f4 = some ⟨ocf4, odf4, .func (PySem.W.fnOf "is_ratio" "is_ratio" (defArgs sIsRatio) (defBody sIsRatio) (defScope sIsRatio) .none kVf4 dcf4 pmf4 anf4 cdf4 ctf4), slf4⟩)
    (c4 : PySem.W.codeIn K cdf4 "is_ratio" = true)
    (k4 : PySem.W.keepIn K (.ref f4) = true)
    (a5 : PySem.W.nsIn K mainGlobals "is_ratio_row" = some (some (.ref f5)))
    (l5 : K.lookup f5 = some ⟨ocf5, odf5, .func (PySem.W.fnOf "is_ratio_row" "is_ratio_row" (defArgs sIsRow) (defBody sIsRow) (defScope sIsRow) .none kVf5 dcf5 pmf5 anf5 cdf5 ctf5), slf5⟩)
    (c5 : PySem.W.codeIn K cdf5 "is_ratio_row" = true)
    (k5 : PySem.W.keepIn K (.ref f5) = true)
    (a6 : PySem.W.nsIn K mainGlobals "lowest" = some (some (.ref f6)))
    (l6 : K.lookup f6 = some ⟨ocf6, odf6, .func (PySem.W.fnOf "lowest" "lowest" (defArgs sLowest) (defBody sLowest) (defScope sLowest) .none kVf6 dcf6 pmf6 anf6 cdf6 ctf6), slf6⟩)
    (c6 : PySem.W.codeIn K cdf6 "lowest" = true)
    (k6 : PySem.W.keepIn K (.ref f6) = true)
    (a7 : PySem.W.nsIn K mainGlobals "parts_of" = some (some (.ref f7)))
    (l7 : K.lookup f7 = some ⟨ocf7, odf7, .func (PySem.W.fnOf "parts_of" "parts_of" (defArgs sParts) (defBody sParts) (defScope sParts) .none kVf7 dcf7 pmf7 anf7 cdf7 ctf7), slf7⟩)
    (c7 : PySem.W.codeIn K cdf7 "parts_of" = true)
    (k7 : PySem.W.keepIn K (.ref f7) = true)
    (a8 : PySem.W.nsIn K mainGlobals "told" = some (some (.ref f8)))
    (l8 : K.lookup f8 = some ⟨ocf8, odf8, .func (PySem.W.fnOf "told" "told" (defArgs sTold) (defBody sTold) (defScope sTold) .none kVf8 dcf8 pmf8 anf8 cdf8 ctf8), slf8⟩)
    (c8 : PySem.W.codeIn K cdf8 "told" = true)
    (k8 : PySem.W.keepIn K (.ref f8) = true)
    (a9 : PySem.W.nsIn K mainGlobals "times" = some (some (.ref f9)))
    (l9 : K.lookup f9 = some ⟨ocf9, odf9, .func (PySem.W.fnOf "times" "times" (defArgs sTimes) (defBody sTimes) (defScope sTimes) .none kVf9 dcf9 pmf9 anf9 cdf9 ctf9), slf9⟩)
    (c9 : PySem.W.codeIn K cdf9 "times" = true)
    (k9 : PySem.W.keepIn K (.ref f9) = true)
    (a10 : PySem.W.nsIn K mainGlobals "share" = some (some (.ref f10)))
    (l10 : K.lookup f10 = some ⟨ocf10, odf10, .func (PySem.W.fnOf "share" "share" (defArgs sShare) (defBody sShare) (defScope sShare) .none kVf10 dcf10 pmf10 anf10 cdf10 ctf10), slf10⟩)
    (c10 : PySem.W.codeIn K cdf10 "share" = true)
    (k10 : PySem.W.keepIn K (.ref f10) = true)
    (a11 : PySem.W.nsIn K mainGlobals "over_one_bottom" = some (some (.ref f11)))
    (l11 : K.lookup f11 = some ⟨ocf11, odf11, .func (PySem.W.fnOf "over_one_bottom" "over_one_bottom" (defArgs sOver2) (defBody sOver2) (defScope sOver2) .none kVf11 dcf11 pmf11 anf11 cdf11 ctf11), slf11⟩)
    (c11 : PySem.W.codeIn K cdf11 "over_one_bottom" = true)
    (k11 : PySem.W.keepIn K (.ref f11) = true)
    (a12 : PySem.W.nsIn K mainGlobals "poly_over" = some (some (.ref f12)))
    (l12 : K.lookup f12 = some ⟨ocf12, odf12, .func (PySem.W.fnOf "poly_over" "poly_over" (defArgs sPOv) (defBody sPOv) (defScope sPOv) .none kVf12 dcf12 pmf12 anf12 cdf12 ctf12), slf12⟩)
    (c12 : PySem.W.codeIn K cdf12 "poly_over" = true)
    (k12 : PySem.W.keepIn K (.ref f12) = true)
    (a13 : PySem.W.nsIn K mainGlobals "stripped" = some (some (.ref f13)))
    (l13 : K.lookup f13 = some ⟨ocf13, odf13, .func (PySem.W.fnOf "stripped" "stripped" (defArgs sStrip) (defBody sStrip) (defScope sStrip) .none kVf13 dcf13 pmf13 anf13 cdf13 ctf13), slf13⟩)
    (c13 : PySem.W.codeIn K cdf13 "stripped" = true)
    (k13 : PySem.W.keepIn K (.ref f13) = true)
    (a14 : PySem.W.nsIn K mainGlobals "residues" = some (some (.ref f14)))
    (l14 : K.lookup f14 = some ⟨ocf14, odf14, .func (PySem.W.fnOf "residues" "residues" (defArgs sRes) (defBody sRes) (defScope sRes) .none kVf14 dcf14 pmf14 anf14 cdf14 ctf14), slf14⟩)
    (c14 : PySem.W.codeIn K cdf14 "residues" = true)
    (k14 : PySem.W.keepIn K (.ref f14) = true)
    (a15 : PySem.W.nsIn K mainGlobals "without_lead" = some (some (.ref f15)))
    (l15 : K.lookup f15 = some ⟨ocf15, odf15, .func (PySem.W.fnOf "without_lead" "without_lead" (defArgs sWl) (defBody sWl) (defScope sWl) .none kVf15 dcf15 pmf15 anf15 cdf15 ctf15), slf15⟩)
    (c15 : PySem.W.codeIn K cdf15 "without_lead" = true)
    (k15 : PySem.W.keepIn K (.ref f15) = true)
    (a16 : PySem.W.nsIn K mainGlobals "nearest_residue" = some (some (.ref f16)))
    (l16 : K.lookup f16 = some ⟨ocf16, odf16, .func (PySem.W.fnOf "nearest_residue" "nearest_residue" (defArgs sNear) (defBody sNear) (defScope sNear) .none kVf16 dcf16 pmf16 anf16 cdf16 ctf16), slf16⟩)
    (c16 : PySem.W.codeIn K cdf16 "nearest_residue" = true)
    (k16 : PySem.W.keepIn K (.ref f16) = true)
    (a17 : PySem.W.nsIn K mainGlobals "inverse" = some (some (.ref f17)))
    (l17 : K.lookup f17 = some ⟨ocf17, odf17, .func (PySem.W.fnOf "inverse" "inverse" (defArgs sInv) (defBody sInv) (defScope sInv) .none kVf17 dcf17 pmf17 anf17 cdf17 ctf17), slf17⟩)
    (c17 : PySem.W.codeIn K cdf17 "inverse" = true)
    (k17 : PySem.W.keepIn K (.ref f17) = true)
    (a18 : PySem.W.nsIn K mainGlobals "primitive_row" = some (some (.ref f18)))
    (l18 : K.lookup f18 = some ⟨ocf18, odf18, .func (PySem.W.fnOf "primitive_row" "primitive_row" (defArgs sPrim) (defBody sPrim) (defScope sPrim) .none kVf18 dcf18 pmf18 anf18 cdf18 ctf18), slf18⟩)
    (c18 : PySem.W.codeIn K cdf18 "primitive_row" = true)
    (k18 : PySem.W.keepIn K (.ref f18) = true)
    (a19 : PySem.W.nsIn K mainGlobals "residue_divisor" = some (some (.ref f19)))
    (l19 : K.lookup f19 = some ⟨ocf19, odf19, .func (PySem.W.fnOf "residue_divisor" "residue_divisor" (defArgs sRD) (defBody sRD) (defScope sRD) .none kVf19 dcf19 pmf19 anf19 cdf19 ctf19), slf19⟩)
    (c19 : PySem.W.codeIn K cdf19 "residue_divisor" = true)
    (k19 : PySem.W.keepIn K (.ref f19) = true)
    (a20 : PySem.W.nsIn K mainGlobals "divides" = some (some (.ref f20)))
    (l20 : K.lookup f20 = some ⟨ocf20, odf20, .func (PySem.W.fnOf "divides" "divides" (defArgs sDvs) (defBody sDvs) (defScope sDvs) .none kVf20 dcf20 pmf20 anf20 cdf20 ctf20), slf20⟩)
    (c20 : PySem.W.codeIn K cdf20 "divides" = true)
    (k20 : PySem.W.keepIn K (.ref f20) = true)
    (a21 : PySem.W.nsIn K mainGlobals "divisor_by_residues" = some (some (.ref f21)))
    (l21 : K.lookup f21 = some ⟨ocf21, odf21, .func (PySem.W.fnOf "divisor_by_residues" "divisor_by_residues" (defArgs sDR) (defBody sDR) (defScope sDR) .none kVf21 dcf21 pmf21 anf21 cdf21 ctf21), slf21⟩)
    (c21 : PySem.W.codeIn K cdf21 "divisor_by_residues" = true)
    (k21 : PySem.W.keepIn K (.ref f21) = true)
    (a22 : PySem.W.nsIn K mainGlobals "common_row" = some (some (.ref f22)))
    (l22 : K.lookup f22 = some ⟨ocf22, odf22, .func (PySem.W.fnOf "common_row" "common_row" (defArgs sCR) (defBody sCR) (defScope sCR) .none kVf22 dcf22 pmf22 anf22 cdf22 ctf22), slf22⟩)
    (c22 : PySem.W.codeIn K cdf22 "common_row" = true)
    (k22 : PySem.W.keepIn K (.ref f22) = true)
    (a23 : PySem.W.nsIn K mainGlobals "long_division" = some (some (.ref f23)))
    (l23 : K.lookup f23 = some ⟨ocf23, odf23, .func (PySem.W.fnOf "long_division" "long_division" (defArgs sLd) (defBody sLd) (defScope sLd) .none kVf23 dcf23 pmf23 anf23 cdf23 ctf23), slf23⟩)
    (c23 : PySem.W.codeIn K cdf23 "long_division" = true)
    (k23 : PySem.W.keepIn K (.ref f23) = true)
    (a24 : PySem.W.nsIn K mainGlobals "whole_row" = some (some (.ref f24)))
    (l24 : K.lookup f24 = some ⟨ocf24, odf24, .func (PySem.W.fnOf "whole_row" "whole_row" (defArgs sWR) (defBody sWR) (defScope sWR) .none kVf24 dcf24 pmf24 anf24 cdf24 ctf24), slf24⟩)
    (c24 : PySem.W.codeIn K cdf24 "whole_row" = true)
    (k24 : PySem.W.keepIn K (.ref f24) = true)
    (a25 : PySem.W.nsIn K mainGlobals "plain_of" = some (some (.ref f25)))
    (l25 : K.lookup f25 = some ⟨ocf25, odf25, .func (PySem.W.fnOf "plain_of" "plain_of" (defArgs sPlainOf) (defBody sPlainOf) (defScope sPlainOf) .none kVf25 dcf25 pmf25 anf25 cdf25 ctf25), slf25⟩)
    (c25 : PySem.W.codeIn K cdf25 "plain_of" = true)
    (k25 : PySem.W.keepIn K (.ref f25) = true)
    (a26 : PySem.W.nsIn K mainGlobals "common" = some (some (.ref f26)))
    (l26 : K.lookup f26 = some ⟨ocf26, odf26, .func (PySem.W.fnOf "common" "common" (defArgs sCommonP) (defBody sCommonP) (defScope sCommonP) .none kVf26 dcf26 pmf26 anf26 cdf26 ctf26), slf26⟩)
    (c26 : PySem.W.codeIn K cdf26 "common" = true)
    (k26 : PySem.W.keepIn K (.ref f26) = true)
    (a27 : PySem.W.nsIn K mainGlobals "divided" = some (some (.ref f27)))
    (l27 : K.lookup f27 = some ⟨ocf27, odf27, .func (PySem.W.fnOf "divided" "divided" (defArgs sDivd) (defBody sDivd) (defScope sDivd) .none kVf27 dcf27 pmf27 anf27 cdf27 ctf27), slf27⟩)
    (c27 : PySem.W.codeIn K cdf27 "divided" = true)
    (k27 : PySem.W.keepIn K (.ref f27) = true)
    (a28 : PySem.W.nsIn K mainGlobals "is_prime" = some (some (.ref f28)))
    (l28 : K.lookup f28 = some ⟨ocf28, odf28, .func (PySem.W.fnOf "is_prime" "is_prime" (defArgs sIsPrime) (defBody sIsPrime) (defScope sIsPrime) .none kVf28 dcf28 pmf28 anf28 cdf28 ctf28), slf28⟩)
    (c28 : PySem.W.codeIn K cdf28 "is_prime" = true)
    (k28 : PySem.W.keepIn K (.ref f28) = true)
    (a29 : PySem.W.nsIn K mainGlobals "slope_of_row" = some (some (.ref f29)))
    (l29 : K.lookup f29 = some ⟨ocf29, odf29, .func (PySem.W.fnOf "slope_of_row" "slope_of_row" (defArgs sSlz) (defBody sSlz) (defScope sSlz) .none kVf29 dcf29 pmf29 anf29 cdf29 ctf29), slf29⟩)
    (c29 : PySem.W.codeIn K cdf29 "slope_of_row" = true)
    (k29 : PySem.W.keepIn K (.ref f29) = true)
    (a30 : PySem.W.nsIn K mainGlobals "value_among" = some (some (.ref f30)))
    (l30 : K.lookup f30 = some ⟨ocf30, odf30, .func (PySem.W.fnOf "value_among" "value_among" (defArgs sAmong) (defBody sAmong) (defScope sAmong) .none kVf30 dcf30 pmf30 anf30 cdf30 ctf30), slf30⟩)
    (c30 : PySem.W.codeIn K cdf30 "value_among" = true)
    (k30 : PySem.W.keepIn K (.ref f30) = true)
    (a31 : PySem.W.nsIn K mainGlobals "zero_residues" = some (some (.ref f31)))
    (l31 : K.lookup f31 = some ⟨ocf31, odf31, .func (PySem.W.fnOf "zero_residues" "zero_residues" (defArgs sZR) (defBody sZR) (defScope sZR) .none kVf31 dcf31 pmf31 anf31 cdf31 ctf31), slf31⟩)
    (c31 : PySem.W.codeIn K cdf31 "zero_residues" = true)
    (k31 : PySem.W.keepIn K (.ref f31) = true)
    (a32 : PySem.W.nsIn K mainGlobals "fitting_prime" = some (some (.ref f32)))
    (l32 : K.lookup f32 = some ⟨ocf32, odf32, .func (PySem.W.fnOf "fitting_prime" "fitting_prime" (defArgs sFP) (defBody sFP) (defScope sFP) .none kVf32 dcf32 pmf32 anf32 cdf32 ctf32), slf32⟩)
    (c32 : PySem.W.codeIn K cdf32 "fitting_prime" = true)
    (k32 : PySem.W.keepIn K (.ref f32) = true)
    (a33 : PySem.W.nsIn K mainGlobals "lifted" = some (some (.ref f33)))
    (l33 : K.lookup f33 = some ⟨ocf33, odf33, .func (PySem.W.fnOf "lifted" "lifted" (defArgs sLift) (defBody sLift) (defScope sLift) .none kVf33 dcf33 pmf33 anf33 cdf33 ctf33), slf33⟩)
    (c33 : PySem.W.codeIn K cdf33 "lifted" = true)
    (k33 : PySem.W.keepIn K (.ref f33) = true)
    (a34 : PySem.W.nsIn K mainGlobals "value_at" = some (some (.ref f34)))
    (l34 : K.lookup f34 = some ⟨ocf34, odf34, .func (PySem.W.fnOf "value_at" "value_at" (defArgs sVA) (defBody sVA) (defScope sVA) .none kVf34 dcf34 pmf34 anf34 cdf34 ctf34), slf34⟩)
    (c34 : PySem.W.codeIn K cdf34 "value_at" = true)
    (k34 : PySem.W.keepIn K (.ref f34) = true)
    (a35 : PySem.W.nsIn K mainGlobals "ratio_zeros" = some (some (.ref f35)))
    (l35 : K.lookup f35 = some ⟨ocf35, odf35, .func (PySem.W.fnOf "ratio_zeros" "ratio_zeros" (defArgs sRZ) (defBody sRZ) (defScope sRZ) .none kVf35 dcf35 pmf35 anf35 cdf35 ctf35), slf35⟩)
    (c35 : PySem.W.codeIn K cdf35 "ratio_zeros" = true)
    (k35 : PySem.W.keepIn K (.ref f35) = true)
    (a36 : PySem.W.nsIn K mainGlobals "least_whole_zero" = some (some (.ref f36)))
    (l36 : K.lookup f36 = some ⟨ocf36, odf36, .func (PySem.W.fnOf "least_whole_zero" "least_whole_zero" (defArgs sLWZ) (defBody sLWZ) (defScope sLWZ) .none kVf36 dcf36 pmf36 anf36 cdf36 ctf36), slf36⟩)
    (c36 : PySem.W.codeIn K cdf36 "least_whole_zero" = true)
    (k36 : PySem.W.keepIn K (.ref f36) = true)
    (a37 : PySem.W.nsIn K mainGlobals "is_whole_from" = some (some (.ref f37)))
    (l37 : K.lookup f37 = some ⟨ocf37, odf37, .func (PySem.W.fnOf "is_whole_from" "is_whole_from" (defArgs sWF) (defBody sWF) (defScope sWF) .none kVf37 dcf37 pmf37 anf37 cdf37 ctf37), slf37⟩)
    (c37 : PySem.W.codeIn K cdf37 "is_whole_from" = true)
    (k37 : PySem.W.keepIn K (.ref f37) = true)
    (a38 : PySem.W.nsIn K mainGlobals "follower" = some (some (.ref f38)))
    (l38 : K.lookup f38 = some ⟨ocf38, odf38, .func (PySem.W.fnOf "follower" "follower" (defArgs sFol) (defBody sFol) (defScope sFol) .none kVf38 dcf38 pmf38 anf38 cdf38 ctf38), slf38⟩)
    (c38 : PySem.W.codeIn K cdf38 "follower" = true)
    (k38 : PySem.W.keepIn K (.ref f38) = true)
    (a39 : PySem.W.nsIn K mainGlobals "terms_of" = some (some (.ref f39)))
    (l39 : K.lookup f39 = some ⟨ocf39, odf39, .func (PySem.W.fnOf "terms_of" "terms_of" (defArgs sTerms) (defBody sTerms) (defScope sTerms) .none kVf39 dcf39 pmf39 anf39 cdf39 ctf39), slf39⟩)
    (c39 : PySem.W.codeIn K cdf39 "terms_of" = true)
    (k39 : PySem.W.keepIn K (.ref f39) = true)
    (a40 : PySem.W.nsIn K mainGlobals "number_at" = some (some (.ref f40)))
    (l40 : K.lookup f40 = some ⟨ocf40, odf40, .func (PySem.W.fnOf "number_at" "number_at" (defArgs sNA) (defBody sNA) (defScope sNA) .none kVf40 dcf40 pmf40 anf40 cdf40 ctf40), slf40⟩)
    (c40 : PySem.W.codeIn K cdf40 "number_at" = true)
    (k40 : PySem.W.keepIn K (.ref f40) = true)
    (a41 : PySem.W.nsIn K mainGlobals "_law_gcd" = some (some (.ref f41)))
    (l41 : K.lookup f41 = some ⟨ocf41, odf41, .func (PySem.W.fnOf "_law_gcd" "_law_gcd" (defArgs sLGcd) (defBody sLGcd) (defScope sLGcd) .none kVf41 dcf41 pmf41 anf41 cdf41 ctf41), slf41⟩)
    (c41 : PySem.W.codeIn K cdf41 "_law_gcd" = true)
    (k41 : PySem.W.keepIn K (.ref f41) = true)
    (a42 : PySem.W.nsIn K mainGlobals "_law_q" = some (some (.ref f42)))
    (l42 : K.lookup f42 = some ⟨ocf42, odf42, .func (PySem.W.fnOf "_law_q" "_law_q" (defArgs sLQ) (defBody sLQ) (defScope sLQ) .none kVf42 dcf42 pmf42 anf42 cdf42 ctf42), slf42⟩)
    (c42 : PySem.W.codeIn K cdf42 "_law_q" = true)
    (k42 : PySem.W.keepIn K (.ref f42) = true)
    (a43 : PySem.W.nsIn K mainGlobals "_law_plus" = some (some (.ref f43)))
    (l43 : K.lookup f43 = some ⟨ocf43, odf43, .func (PySem.W.fnOf "_law_plus" "_law_plus" (defArgs sLPlus) (defBody sLPlus) (defScope sLPlus) .none kVf43 dcf43 pmf43 anf43 cdf43 ctf43), slf43⟩)
    (c43 : PySem.W.codeIn K cdf43 "_law_plus" = true)
    (k43 : PySem.W.keepIn K (.ref f43) = true)
    (a44 : PySem.W.nsIn K mainGlobals "_law_minus" = some (some (.ref f44)))
    (l44 : K.lookup f44 = some ⟨ocf44, odf44, .func (PySem.W.fnOf "_law_minus" "_law_minus" (defArgs sLMinus) (defBody sLMinus) (defScope sLMinus) .none kVf44 dcf44 pmf44 anf44 cdf44 ctf44), slf44⟩)
    (c44 : PySem.W.codeIn K cdf44 "_law_minus" = true)
    (k44 : PySem.W.keepIn K (.ref f44) = true)
    (a45 : PySem.W.nsIn K mainGlobals "_law_times" = some (some (.ref f45)))
    (l45 : K.lookup f45 = some ⟨ocf45, odf45, .func (PySem.W.fnOf "_law_times" "_law_times" (defArgs sLTimes) (defBody sLTimes) (defScope sLTimes) .none kVf45 dcf45 pmf45 anf45 cdf45 ctf45), slf45⟩)
    (c45 : PySem.W.codeIn K cdf45 "_law_times" = true)
    (k45 : PySem.W.keepIn K (.ref f45) = true)
    (a46 : PySem.W.nsIn K mainGlobals "_law_share" = some (some (.ref f46)))
    (l46 : K.lookup f46 = some ⟨ocf46, odf46, .func (PySem.W.fnOf "_law_share" "_law_share" (defArgs sLShare) (defBody sLShare) (defScope sLShare) .none kVf46 dcf46 pmf46 anf46 cdf46 ctf46), slf46⟩)
    (c46 : PySem.W.codeIn K cdf46 "_law_share" = true)
    (k46 : PySem.W.keepIn K (.ref f46) = true)
    (a47 : PySem.W.nsIn K mainGlobals "_law_passed" = some (some (.ref f47)))
    (l47 : K.lookup f47 = some ⟨ocf47, odf47, .func (PySem.W.fnOf "_law_passed" "_law_passed" (defArgs sPassed) (defBody sPassed) (defScope sPassed) .none kVf47 dcf47 pmf47 anf47 cdf47 ctf47), slf47⟩)
    (c47 : PySem.W.codeIn K cdf47 "_law_passed" = true)
    (k47 : PySem.W.keepIn K (.ref f47) = true)
    (a48 : PySem.W.nsIn K mainGlobals "_law_ratio" = some (some (.ref f48)))
    (l48 : K.lookup f48 = some ⟨ocf48, odf48, .func (PySem.W.fnOf "_law_ratio" "_law_ratio" (defArgs sLRatio) (defBody sLRatio) (defScope sLRatio) .none kVf48 dcf48 pmf48 anf48 cdf48 ctf48), slf48⟩)
    (c48 : PySem.W.codeIn K cdf48 "_law_ratio" = true)
    (k48 : PySem.W.keepIn K (.ref f48) = true)
    (a49 : PySem.W.nsIn K mainGlobals "_law_poly" = some (some (.ref f49)))
    (l49 : K.lookup f49 = some ⟨ocf49, odf49, .func (PySem.W.fnOf "_law_poly" "_law_poly" (defArgs sLPoly) (defBody sLPoly) (defScope sLPoly) .none kVf49 dcf49 pmf49 anf49 cdf49 ctf49), slf49⟩)
    (c49 : PySem.W.codeIn K cdf49 "_law_poly" = true)
    (k49 : PySem.W.keepIn K (.ref f49) = true)
    (a50 : PySem.W.nsIn K mainGlobals "_law_p_times" = some (some (.ref f50)))
    (l50 : K.lookup f50 = some ⟨ocf50, odf50, .func (PySem.W.fnOf "_law_p_times" "_law_p_times" (defArgs sLPTimes) (defBody sLPTimes) (defScope sLPTimes) .none kVf50 dcf50 pmf50 anf50 cdf50 ctf50), slf50⟩)
    (c50 : PySem.W.codeIn K cdf50 "_law_p_times" = true)
    (k50 : PySem.W.keepIn K (.ref f50) = true)
    (a51 : PySem.W.nsIn K mainGlobals "_law_p_at" = some (some (.ref f51)))
    (l51 : K.lookup f51 = some ⟨ocf51, odf51, .func (PySem.W.fnOf "_law_p_at" "_law_p_at" (defArgs sLPAt) (defBody sLPAt) (defScope sLPAt) .none kVf51 dcf51 pmf51 anf51 cdf51 ctf51), slf51⟩)
    (c51 : PySem.W.codeIn K cdf51 "_law_p_at" = true)
    (k51 : PySem.W.keepIn K (.ref f51) = true)
    (a52 : PySem.W.nsIn K mainGlobals "_law_made_poly" = some (some (.ref f52)))
    (l52 : K.lookup f52 = some ⟨ocf52, odf52, .func (PySem.W.fnOf "_law_made_poly" "_law_made_poly" (defArgs sMade) (defBody sMade) (defScope sMade) .none kVf52 dcf52 pmf52 anf52 cdf52 ctf52), slf52⟩)
    (c52 : PySem.W.codeIn K cdf52 "_law_made_poly" = true)
    (k52 : PySem.W.keepIn K (.ref f52) = true)
    (a53 : PySem.W.nsIn K mainGlobals "_law_fault" = some (some (.ref f53)))
    (l53 : K.lookup f53 = some ⟨ocf53, odf53, .func (PySem.W.fnOf "_law_fault" "_law_fault" (defArgs sWhy) (defBody sWhy) (defScope sWhy) .none kVf53 dcf53 pmf53 anf53 cdf53 ctf53), slf53⟩)
    (c53 : PySem.W.codeIn K cdf53 "_law_fault" = true)
    (k53 : PySem.W.keepIn K (.ref f53) = true)
    (a54 : PySem.W.nsIn K mainGlobals "_law_made_row" = some (some (.ref f54)))
    (l54 : K.lookup f54 = some ⟨ocf54, odf54, .func (PySem.W.fnOf "_law_made_row" "_law_made_row" (defArgs sMR) (defBody sMR) (defScope sMR) .none kVf54 dcf54 pmf54 anf54 cdf54 ctf54), slf54⟩)
    (c54 : PySem.W.codeIn K cdf54 "_law_made_row" = true)
    (k54 : PySem.W.keepIn K (.ref f54) = true)
    (a55 : PySem.W.nsIn K mainGlobals "_law_row_numbers" = some (some (.ref f55)))
    (l55 : K.lookup f55 = some ⟨ocf55, odf55, .func (PySem.W.fnOf "_law_row_numbers" "_law_row_numbers" (defArgs sRN) (defBody sRN) (defScope sRN) .none kVf55 dcf55 pmf55 anf55 cdf55 ctf55), slf55⟩)
    (c55 : PySem.W.codeIn K cdf55 "_law_row_numbers" = true)
    (k55 : PySem.W.keepIn K (.ref f55) = true)
    (a56 : PySem.W.nsIn K mainGlobals "_law_factors" = some (some (.ref f56)))
    (l56 : K.lookup f56 = some ⟨ocf56, odf56, .func (PySem.W.fnOf "_law_factors" "_law_factors" (defArgs sFactors) (defBody sFactors) (defScope sFactors) .none kVf56 dcf56 pmf56 anf56 cdf56 ctf56), slf56⟩)
    (c56 : PySem.W.codeIn K cdf56 "_law_factors" = true)
    (k56 : PySem.W.keepIn K (.ref f56) = true)
    (a57 : PySem.W.nsIn K mainGlobals "_law_places" = some (some (.ref f57)))
    (l57 : K.lookup f57 = some ⟨ocf57, odf57, .func (PySem.W.fnOf "_law_places" "_law_places" (defArgs sPlaces) (defBody sPlaces) (defScope sPlaces) .none kVf57 dcf57 pmf57 anf57 cdf57 ctf57), slf57⟩)
    (c57 : PySem.W.codeIn K cdf57 "_law_places" = true)
    (k57 : PySem.W.keepIn K (.ref f57) = true)
    (a58 : PySem.W.nsIn K mainGlobals "law" = some (some (.ref f58)))
    (l58 : K.lookup f58 = some ⟨ocf58, odf58, .func (PySem.W.fnOf "law" "law" (defArgs sLaw) (defBody sLaw) (defScope sLaw) .none kVf58 dcf58 pmf58 anf58 (.ref cL) ctf58), slf58⟩)
    (c58 : PySem.W.codeIn K (.ref cL) "law" = true)
    (k58 : PySem.W.keepIn K (.ref f58) = true)
    (tl : K.lookup cL = some ⟨eL, dL, .fields vL, sL⟩)
    (tv : vL[11]? = some (.ref Pt))
    (tn : K.lookup Pt = none)
    (tr : ((recsOf q).any fun e => e.name == Str.ofString "law") = true)
    (aggcd : PySem.W.nsIn K mainGlobals "gcd" = some (some (.builtin "math.gcd")))
    (aglcm : PySem.W.nsIn K mainGlobals "lcm" = some (some (.builtin "math.lcm")))
    (acFIRST_PRIME : PySem.W.nsIn K mainGlobals "FIRST_PRIME" = some (some (.int 211 tkFIRST_PRIME)))
    (acSPARE_BITS : PySem.W.nsIn K mainGlobals "SPARE_BITS" = some (some (.int 64 tkSPARE_BITS)))
    (m0 : PySem.W.nsIn K mainGlobals "BadInterval" = some (some (.ref C0)))
    (ei0 : PySem.W.findIn K (.ref C0) "__init__" = some (some (.ref i0)))
    (ti0 : PySem.W.typeIn K (.ref i0) = some (.type "function"))
    (li0 : K.lookup i0 = some ⟨oci0, odi0, .func (PySem.W.fnOf "__init__" "BadInterval.__init__" (defArgs (inClass (topS 5) 0)) (defBody (inClass (topS 5) 0)) (defScope (inClass (topS 5) 0)) .none kVi0 dci0 pmi0 ani0 cdi0 cti0), sli0⟩)
    (ci0 : PySem.W.codeIn K cdi0 "BadInterval.__init__" = true)
    (ki0 : PySem.W.keepIn K (.ref i0) = true)
    (lc0 : K.lookup C0 = some (excClassObj nm0 qn0 C0 N0 bs0 bm0 true sn0 sub0 ab0 col0 dd0 ka0 kb0 kc0 kd0 ke0 "ValueError.__new__"))
    (lb0 : PySem.HandSPX.refsVE bm0 = true)
    (big0 : (oexB K C0 && decide (PySem.W.findIn K (.ref C0) "low" = some none) && decide (PySem.W.findIn K (.ref C0) "high" = some none)) = true)
    (m1 : PySem.W.nsIn K mainGlobals "BadNumber" = some (some (.ref C1)))
    (ei1 : PySem.W.findIn K (.ref C1) "__init__" = some (some (.ref i1)))
    (ti1 : PySem.W.typeIn K (.ref i1) = some (.type "function"))
    (li1 : K.lookup i1 = some ⟨oci1, odi1, .func (PySem.W.fnOf "__init__" "BadNumber.__init__" (defArgs (inClass (topS 3) 0)) (defBody (inClass (topS 3) 0)) (defScope (inClass (topS 3) 0)) .none kVi1 dci1 pmi1 ani1 cdi1 cti1), sli1⟩)
    (ci1 : PySem.W.codeIn K cdi1 "BadNumber.__init__" = true)
    (ki1 : PySem.W.keepIn K (.ref i1) = true)
    (lc1 : K.lookup C1 = some (excClassObj nm1 qn1 C1 N1 bs1 bm1 true sn1 sub1 ab1 col1 dd1 ka1 kb1 kc1 kd1 ke1 "ValueError.__new__"))
    (lb1 : PySem.HandSPX.refsVE bm1 = true)
    (big1 : (oexB K C1 && decide (PySem.W.findIn K (.ref C1) "what" = some none) && decide (PySem.W.findIn K (.ref C1) "number" = some none)) = true)
    (m2 : PySem.W.nsIn K mainGlobals "BadRow" = some (some (.ref C2)))
    (ei2 : PySem.W.findIn K (.ref C2) "__init__" = some (some (.ref i2)))
    (ti2 : PySem.W.typeIn K (.ref i2) = some (.type "function"))
    (li2 : K.lookup i2 = some ⟨oci2, odi2, .func (PySem.W.fnOf "__init__" "BadRow.__init__" (defArgs (inClass (topS 4) 0)) (defBody (inClass (topS 4) 0)) (defScope (inClass (topS 4) 0)) .none kVi2 dci2 pmi2 ani2 cdi2 cti2), sli2⟩)
    (ci2 : PySem.W.codeIn K cdi2 "BadRow.__init__" = true)
    (ki2 : PySem.W.keepIn K (.ref i2) = true)
    (lc2 : K.lookup C2 = some (excClassObj nm2 qn2 C2 N2 bs2 bm2 true sn2 sub2 ab2 col2 dd2 ka2 kb2 kc2 kd2 ke2 "ValueError.__new__"))
    (lb2 : PySem.HandSPX.refsVE bm2 = true)
    (big2 : (oexB K C2 && decide (PySem.W.findIn K (.ref C2) "row" = some none)) = true)
    (mcg : PySem.W.nsIn K mainGlobals "Poly" = some (some (.ref Cg)))
    (eg0 : PySem.W.findIn K (.ref Cg) "__init__" = some (some (.ref g0)))
    (tg0 : PySem.W.typeIn K (.ref g0) = some (.type "function"))
    (lg0 : K.lookup g0 = some ⟨ocg0, odg0, .func (PySem.W.fnOf "__init__" "Poly.__init__" (defArgs (inClass (topS 40) 0)) (defBody (inClass (topS 40) 0)) (defScope (inClass (topS 40) 0)) .none kVg0 dcg0 pmg0 ang0 cdg0 ctg0), slg0⟩)
    (cg0 : PySem.W.codeIn K cdg0 "Poly.__init__" = true)
    (kg0 : PySem.W.keepIn K (.ref g0) = true)
    (eg1 : PySem.W.findIn K (.ref Cg) "__eq__" = some (some (.ref g1)))
    (tg1 : PySem.W.typeIn K (.ref g1) = some (.type "function"))
    (lg1 : K.lookup g1 = some ⟨ocg1, odg1, .func (PySem.W.fnOf "__eq__" "Poly.__eq__" (defArgs (inClass (topS 40) 1)) (defBody (inClass (topS 40) 1)) (defScope (inClass (topS 40) 1)) .none kVg1 dcg1 pmg1 ang1 cdg1 ctg1), slg1⟩)
    (cg1 : PySem.W.codeIn K cdg1 "Poly.__eq__" = true)
    (kg1 : PySem.W.keepIn K (.ref g1) = true)
    (eg2 : PySem.W.findIn K (.ref Cg) "degree" = some (some (.ref g2)))
    (tg2 : PySem.W.typeIn K (.ref g2) = some (.type "function"))
    (lg2 : K.lookup g2 = some ⟨ocg2, odg2, .func (PySem.W.fnOf "degree" "Poly.degree" (defArgs (inClass (topS 40) 9)) (defBody (inClass (topS 40) 9)) (defScope (inClass (topS 40) 9)) .none kVg2 dcg2 pmg2 ang2 cdg2 ctg2), slg2⟩)
    (cg2 : PySem.W.codeIn K cdg2 "Poly.degree" = true)
    (kg2 : PySem.W.keepIn K (.ref g2) = true)
    (eg3 : PySem.W.findIn K (.ref Cg) "at" = some (some (.ref g3)))
    (tg3 : PySem.W.typeIn K (.ref g3) = some (.type "function"))
    (lg3 : K.lookup g3 = some ⟨ocg3, odg3, .func (PySem.W.fnOf "at" "Poly.at" (defArgs (inClass (topS 40) 11)) (defBody (inClass (topS 40) 11)) (defScope (inClass (topS 40) 11)) .none kVg3 dcg3 pmg3 ang3 cdg3 ctg3), slg3⟩)
    (cg3 : PySem.W.codeIn K cdg3 "Poly.at" = true)
    (kg3 : PySem.W.keepIn K (.ref g3) = true)
    (eg4 : PySem.W.findIn K (.ref Cg) "slope" = some (some (.ref g4)))
    (tg4 : PySem.W.typeIn K (.ref g4) = some (.type "function"))
    (lg4 : K.lookup g4 = some ⟨ocg4, odg4, .func (PySem.W.fnOf "slope" "Poly.slope" (defArgs (inClass (topS 40) 12)) (defBody (inClass (topS 40) 12)) (defScope (inClass (topS 40) 12)) .none kVg4 dcg4 pmg4 ang4 cdg4 ctg4), slg4⟩)
    (cg4 : PySem.W.codeIn K cdg4 "Poly.slope" = true)
    (kg4 : PySem.W.keepIn K (.ref g4) = true)
    (mcr : PySem.W.nsIn K mainGlobals "Row" = some (some (.ref Cr)))
    (er0 : PySem.W.findIn K (.ref Cr) "__init__" = some (some (.ref r0)))
    (tr0 : PySem.W.typeIn K (.ref r0) = some (.type "function"))
    (lr0 : K.lookup r0 = some ⟨ocr0, odr0, .func (PySem.W.fnOf "__init__" "Row.__init__" (defArgs (inClass (topS 65) 0)) (defBody (inClass (topS 65) 0)) (defScope (inClass (topS 65) 0)) .none kVr0 dcr0 pmr0 anr0 cdr0 ctr0), slr0⟩)
    (cr0 : PySem.W.codeIn K cdr0 "Row.__init__" = true)
    (kr0 : PySem.W.keepIn K (.ref r0) = true)
    (zint : PySem.W.nsIn K mainGlobals "int" = some none)
    (zlist : PySem.W.nsIn K mainGlobals "list" = some none)
    (zlen : PySem.W.nsIn K mainGlobals "len" = some none)
    (zrange : PySem.W.nsIn K mainGlobals "range" = some none)
    (zstr : PySem.W.nsIn K mainGlobals "str" = some none)
    (zisinstance : PySem.W.nsIn K mainGlobals "isinstance" = some none)
    (zbool : PySem.W.nsIn K mainGlobals "bool" = some none)
    (ztuple : PySem.W.nsIn K mainGlobals "tuple" = some none)
    (zabs : PySem.W.nsIn K mainGlobals "abs" = some none)
    (zall : PySem.W.nsIn K mainGlobals "all" = some none)
    (zmax : PySem.W.nsIn K mainGlobals "max" = some none)
    (zmin : PySem.W.nsIn K mainGlobals "min" = some none)
    (zsum : PySem.W.nsIn K mainGlobals "sum" = some none)
    (zzip : PySem.W.nsIn K mainGlobals "zip" = some none)
    (zsorted : PySem.W.nsIn K mainGlobals "sorted" = some none)
    (bx0 : xfB K C0 = true)
    (bx1 : xfB K C1 = true)
    (x10 : PySem.W.exmOne K (.ref C1) (.ref C0) = some false)
    (x11 : PySem.W.exmOne K (.ref C1) (.ref C1) = some true)
    (bigr : insB K Cr ["start", "top", "bottom", "step", "shift"] = true)
    (pbm : PySem.W.nsIn K mainGlobals "PRIME_BITS" = some (some (.ref PB)))
    (pbl : K.lookup PB = some ⟨.type "tuple", dPB, .seq #[.int 61 u0, .int 521 u1, .int 1279 u2, .int 2281 u3, .int 4423 u4, .int 9689 u5, .int 19937 u6, .int 44497 u7] nPB, sPB⟩)
    (bigP : polyB K Cg = true) :
    LawG l w K CX0 15 63 "_law_script" mg fa h := by
  have e := hfa.symm.trans (PySem.W.mg_of X G a58)
  cases e
  have mgo : ∀ {x : Str} {a : Value}, PySem.W.nsIn K mainGlobals x = some (some a) → mg x = some a := fun z => PySem.W.mg_of X G z
  have mgn : ∀ {x : Str}, PySem.W.nsIn K mainGlobals x = some none → mg x = none := fun z => PySem.W.mg_none_of X G z
  have tb := TB "law" _ cL Pt _ _ _ _ _ _ tr (mgo a58) l58 rfl rfl tl tv
  have F0 := fun_mk (st := sPen) l0 c0 k0
  have F1 := fun_mk (st := sDraw) l1 c1 k1
  have F2 := fun_mk (st := sPick) l2 c2 k2
  have F3 := fun_mk (st := sIsWhole) l3 c3 k3
  have F4 := fun_mk (st := sIsRatio) l4 c4 k4
  have F5 := fun_mk (st := sIsRow) l5 c5 k5
  have F6 := fun_mk (st := sLowest) l6 c6 k6
  have F7 := fun_mk (st := sParts) l7 c7 k7
  have F8 := fun_mk (st := sTold) l8 c8 k8
  have F9 := fun_mk (st := sTimes) l9 c9 k9
  have F10 := fun_mk (st := sShare) l10 c10 k10
  have F11 := fun_mk (st := sOver2) l11 c11 k11
  have F12 := fun_mk (st := sPOv) l12 c12 k12
  have F13 := fun_mk (st := sStrip) l13 c13 k13
  have F14 := fun_mk (st := sRes) l14 c14 k14
  have F15 := fun_mk (st := sWl) l15 c15 k15
  have F16 := fun_mk (st := sNear) l16 c16 k16
  have F17 := fun_mk (st := sInv) l17 c17 k17
  have F18 := fun_mk (st := sPrim) l18 c18 k18
  have F19 := fun_mk (st := sRD) l19 c19 k19
  have F20 := fun_mk (st := sDvs) l20 c20 k20
  have F21 := fun_mk (st := sDR) l21 c21 k21
  have F22 := fun_mk (st := sCR) l22 c22 k22
  have F23 := fun_mk (st := sLd) l23 c23 k23
  have F24 := fun_mk (st := sWR) l24 c24 k24
  have F25 := fun_mk (st := sPlainOf) l25 c25 k25
  have F26 := fun_mk (st := sCommonP) l26 c26 k26
  have F27 := fun_mk (st := sDivd) l27 c27 k27
  have F28 := fun_mk (st := sIsPrime) l28 c28 k28
  have F29 := fun_mk (st := sSlz) l29 c29 k29
  have F30 := fun_mk (st := sAmong) l30 c30 k30
  have F31 := fun_mk (st := sZR) l31 c31 k31
  have F32 := fun_mk (st := sFP) l32 c32 k32
  have F33 := fun_mk (st := sLift) l33 c33 k33
  have F34 := fun_mk (st := sVA) l34 c34 k34
  have F35 := fun_mk (st := sRZ) l35 c35 k35
  have F36 := fun_mk (st := sLWZ) l36 c36 k36
  have F37 := fun_mk (st := sWF) l37 c37 k37
  have F38 := fun_mk (st := sFol) l38 c38 k38
  have F39 := fun_mk (st := sTerms) l39 c39 k39
  have F40 := fun_mk (st := sNA) l40 c40 k40
  have F41 := fun_mk (st := sLGcd) l41 c41 k41
  have F42 := fun_mk (st := sLQ) l42 c42 k42
  have F43 := fun_mk (st := sLPlus) l43 c43 k43
  have F44 := fun_mk (st := sLMinus) l44 c44 k44
  have F45 := fun_mk (st := sLTimes) l45 c45 k45
  have F46 := fun_mk (st := sLShare) l46 c46 k46
  have F47 := fun_mk (st := sPassed) l47 c47 k47
  have F48 := fun_mk (st := sLRatio) l48 c48 k48
  have F49 := fun_mk (st := sLPoly) l49 c49 k49
  have F50 := fun_mk (st := sLPTimes) l50 c50 k50
  have F51 := fun_mk (st := sLPAt) l51 c51 k51
  have F52 := fun_mk (st := sMade) l52 c52 k52
  have F53 := fun_mk (st := sWhy) l53 c53 k53
  have F54 := fun_mk (st := sMR) l54 c54 k54
  have F55 := fun_mk (st := sRN) l55 c55 k55
  have F56 := fun_mk (st := sFactors) l56 c56 k56
  have F57 := fun_mk (st := sPlaces) l57 c57 k57
  have F58 := fun_mk (st := sLaw) l58 c58 k58
  have b0 := F0.binds (ps := ["_law_script"]) fun _ _ _ _ _ _ us hl => match us, hl with | [_], _ => rfl
  have b1 := F1.binds (ps := ["_law_pen_here", "_law_many"]) fun _ _ _ _ _ _ us hl => match us, hl with | [_, _], _ => rfl
  have b2 := F2.binds (ps := ["_law_pen_here", "_law_some"]) fun _ _ _ _ _ _ us hl => match us, hl with | [_, _], _ => rfl
  have b3 := F3.binds (ps := ["value"]) fun _ _ _ _ _ _ us hl => match us, hl with | [_], _ => rfl
  have b4 := F4.binds (ps := ["value"]) fun _ _ _ _ _ _ us hl => match us, hl with | [_], _ => rfl
  have b5 := F5.binds (ps := ["value"]) fun _ _ _ _ _ _ us hl => match us, hl with | [_], _ => rfl
  have b6 := F6.binds (ps := ["top", "bottom"]) fun _ _ _ _ _ _ us hl => match us, hl with | [_, _], _ => rfl
  have b7 := F7.binds (ps := ["value", "what"]) fun _ _ _ _ _ _ us hl => match us, hl with | [_, _], _ => rfl
  have b8 := F8.binds (ps := ["value", "what"]) fun _ _ _ _ _ _ us hl => match us, hl with | [_, _], _ => rfl
  have b9 := F9.binds (ps := ["one", "other"]) fun _ _ _ _ _ _ us hl => match us, hl with | [_, _], _ => rfl
  have b10 := F10.binds (ps := ["one", "other"]) fun _ _ _ _ _ _ us hl => match us, hl with | [_, _], _ => rfl
  have b11 := F11.binds (ps := ["numbers"]) fun _ _ _ _ _ _ us hl => match us, hl with | [_], _ => rfl
  have b12 := F12.binds (ps := ["row", "bottom"]) fun _ _ _ _ _ _ us hl => match us, hl with | [_, _], _ => rfl
  have b13 := F13.binds (ps := ["row"]) fun _ _ _ _ _ _ us hl => match us, hl with | [_], _ => rfl
  have b14 := F14.binds (ps := ["row", "prime"]) fun _ _ _ _ _ _ us hl => match us, hl with | [_, _], _ => rfl
  have b15 := F15.binds (ps := ["one", "other", "factor", "number"]) fun _ _ _ _ _ _ us hl => match us, hl with | [_, _, _, _], _ => rfl
  have b16 := F16.binds (ps := ["number", "prime"]) fun _ _ _ _ _ _ us hl => match us, hl with | [_, _], _ => rfl
  have b17 := F17.binds (ps := ["number", "prime"]) fun _ _ _ _ _ _ us hl => match us, hl with | [_, _], _ => rfl
  have b18 := F18.binds (ps := ["row"]) fun _ _ _ _ _ _ us hl => match us, hl with | [_], _ => rfl
  have b19 := F19.binds (ps := ["one", "other", "prime"]) fun _ _ _ _ _ _ us hl => match us, hl with | [_, _, _], _ => rfl
  have b20 := F20.binds (ps := ["one", "other"]) fun _ _ _ _ _ _ us hl => match us, hl with | [_, _], _ => rfl
  have b21 := F21.binds (ps := ["one", "other", "prime"]) fun _ _ _ _ _ _ us hl => match us, hl with | [_, _, _], _ => rfl
  have b22 := F22.binds (ps := ["one", "other"]) fun _ _ _ _ _ _ us hl => match us, hl with | [_, _], _ => rfl
  have b23 := F23.binds (ps := ["one", "other"]) fun _ _ _ _ _ _ us hl => match us, hl with | [_, _], _ => rfl
  have b24 := F24.binds (ps := ["poly"]) fun _ _ _ _ _ _ us hl => match us, hl with | [_], _ => rfl
  have b25 := F25.binds (ps := ["poly"]) fun _ _ _ _ _ _ us hl => match us, hl with | [_], _ => rfl
  have b26 := F26.binds (ps := ["one", "other"]) fun _ _ _ _ _ _ us hl => match us, hl with | [_, _], _ => rfl
  have b27 := F27.binds (ps := ["one", "other"]) fun _ _ _ _ _ _ us hl => match us, hl with | [_, _], _ => rfl
  have b28 := F28.binds (ps := ["number"]) fun _ _ _ _ _ _ us hl => match us, hl with | [_], _ => rfl
  have b29 := F29.binds (ps := ["row"]) fun _ _ _ _ _ _ us hl => match us, hl with | [_], _ => rfl
  have b30 := F30.binds (ps := ["row", "point", "modulus"]) fun _ _ _ _ _ _ us hl => match us, hl with | [_, _, _], _ => rfl
  have b31 := F31.binds (ps := ["row", "prime"]) fun _ _ _ _ _ _ us hl => match us, hl with | [_, _], _ => rfl
  have b32 := F32.binds (ps := ["row"]) fun _ _ _ _ _ _ us hl => match us, hl with | [_], _ => rfl
  have b33 := F33.binds (ps := ["row", "residue", "prime", "limit"]) fun _ _ _ _ _ _ us hl => match us, hl with | [_, _, _, _], _ => rfl
  have b34 := F34.binds (ps := ["row", "top", "bottom"]) fun _ _ _ _ _ _ us hl => match us, hl with | [_, _, _], _ => rfl
  have b35 := F35.binds (ps := ["row"]) fun _ _ _ _ _ _ us hl => match us, hl with | [_], _ => rfl
  have b36 := F36.binds (ps := ["poly"]) fun _ _ _ _ _ _ us hl => match us, hl with | [_], _ => rfl
  have b37 := F37.binds (ps := ["value", "least"]) fun _ _ _ _ _ _ us hl => match us, hl with | [_, _], _ => rfl
  have b38 := F38.binds (ps := ["row", "number", "k"]) fun _ _ _ _ _ _ us hl => match us, hl with | [_, _, _], _ => rfl
  have b39 := F39.binds (ps := ["row"]) fun _ _ _ _ _ _ us hl => match us, hl with | [_], _ => rfl
  have b40 := F40.binds (ps := ["row", "k"]) fun _ _ _ _ _ _ us hl => match us, hl with | [_, _], _ => rfl
  have b41 := F41.binds (ps := ["_law_one", "_law_two"]) fun _ _ _ _ _ _ us hl => match us, hl with | [_, _], _ => rfl
  have b42 := F42.binds (ps := ["_law_top", "_law_bottom"]) fun _ _ _ _ _ _ us hl => match us, hl with | [_, _], _ => rfl
  have b43 := F43.binds (ps := ["_law_one", "_law_two"]) fun _ _ _ _ _ _ us hl => match us, hl with | [_, _], _ => rfl
  have b44 := F44.binds (ps := ["_law_one", "_law_two"]) fun _ _ _ _ _ _ us hl => match us, hl with | [_, _], _ => rfl
  have b45 := F45.binds (ps := ["_law_one", "_law_two"]) fun _ _ _ _ _ _ us hl => match us, hl with | [_, _], _ => rfl
  have b46 := F46.binds (ps := ["_law_one", "_law_two"]) fun _ _ _ _ _ _ us hl => match us, hl with | [_, _], _ => rfl
  have b47 := F47.binds (ps := ["_law_pen_here", "_law_ratio_here"]) fun _ _ _ _ _ _ us hl => match us, hl with | [_, _], _ => rfl
  have b48 := F48.binds (ps := ["_law_pen_here", "_law_most"]) fun _ _ _ _ _ _ us hl => match us, hl with | [_, _], _ => rfl
  have b49 := F49.binds (ps := ["_law_numbers"]) fun _ _ _ _ _ _ us hl => match us, hl with | [_], _ => rfl
  have b50 := F50.binds (ps := ["_law_one", "_law_two"]) fun _ _ _ _ _ _ us hl => match us, hl with | [_, _], _ => rfl
  have b51 := F51.binds (ps := ["_law_one", "_law_point"]) fun _ _ _ _ _ _ us hl => match us, hl with | [_, _], _ => rfl
  have b52 := F52.binds (ps := ["_law_pen_here", "_law_one"]) fun _ _ _ _ _ _ us hl => match us, hl with | [_, _], _ => rfl
  have b53 := F53.binds (ps := ["_law_call"]) fun _ _ _ _ _ _ us hl => match us, hl with | [_], _ => rfl
  have b54 := F54.binds (ps := ["_law_pen_here", "_law_row"]) fun _ _ _ _ _ _ us hl => match us, hl with | [_, _], _ => rfl
  have b55 := F55.binds (ps := ["_law_row", "_law_many"]) fun _ _ _ _ _ _ us hl => match us, hl with | [_, _], _ => rfl
  have b56 := F56.binds (ps := ["_law_pen_here", "_law_zeros"]) fun _ _ _ _ _ _ us hl => match us, hl with | [_, _], _ => rfl
  have b57 := F57.binds (ps := ["_law_pen_here", "_law_many", "_law_has_whole"]) fun _ _ _ _ _ _ us hl => match us, hl with | [_, _, _], _ => rfl
  have FI0 := fun_mk (st := inClass (topS 5) 0) li0 ci0 ki0
  have bI0 := FI0.binds (ps := ["self", "low", "high"]) fun _ _ _ _ _ _ us hl => match us, hl with | [_, _, _], _ => rfl
  have oo0 : OexC K C0 := oexB_ok ((Bool.and_eq_true_iff.mp ((Bool.and_eq_true_iff.mp (big0)).1)).1) ⟨nm0, qn0, N0, bs0, bm0, sn0, sub0, ab0, col0, dd0, ka0, kb0, kc0, kd0, ke0, lc0, lb0⟩
  have no0_0 := (of_decide_eq_true (Bool.and_eq_true_iff.mp ((Bool.and_eq_true_iff.mp (big0)).1)).2 : PySem.W.findIn K (.ref C0) "low" = some none)
  have no0_1 := (of_decide_eq_true (Bool.and_eq_true_iff.mp (big0)).2 : PySem.W.findIn K (.ref C0) "high" = some none)
  have FI1 := fun_mk (st := inClass (topS 3) 0) li1 ci1 ki1
  have bI1 := FI1.binds (ps := ["self", "what", "number"]) fun _ _ _ _ _ _ us hl => match us, hl with | [_, _, _], _ => rfl
  have oo1 : OexC K C1 := oexB_ok ((Bool.and_eq_true_iff.mp ((Bool.and_eq_true_iff.mp (big1)).1)).1) ⟨nm1, qn1, N1, bs1, bm1, sn1, sub1, ab1, col1, dd1, ka1, kb1, kc1, kd1, ke1, lc1, lb1⟩
  have no1_0 := (of_decide_eq_true (Bool.and_eq_true_iff.mp ((Bool.and_eq_true_iff.mp (big1)).1)).2 : PySem.W.findIn K (.ref C1) "what" = some none)
  have no1_1 := (of_decide_eq_true (Bool.and_eq_true_iff.mp (big1)).2 : PySem.W.findIn K (.ref C1) "number" = some none)
  have FI2 := fun_mk (st := inClass (topS 4) 0) li2 ci2 ki2
  have bI2 := FI2.binds (ps := ["self", "row"]) fun _ _ _ _ _ _ us hl => match us, hl with | [_, _], _ => rfl
  have oo2 : OexC K C2 := oexB_ok ((Bool.and_eq_true_iff.mp (big2)).1) ⟨nm2, qn2, N2, bs2, bm2, sn2, sub2, ab2, col2, dd2, ka2, kb2, kc2, kd2, ke2, lc2, lb2⟩
  have no2_0 := (of_decide_eq_true (Bool.and_eq_true_iff.mp (big2)).2 : PySem.W.findIn K (.ref C2) "row" = some none)
  obtain ⟨PC, PMk, PKp⟩ := polyC (mg := mg) (mgo mcg) bigP
  have Fg0 := fun_mk (st := inClass (topS 40) 0) lg0 cg0 kg0
  have bg0 := Fg0.binds (ps := ["self", "numbers"]) fun _ _ _ _ _ _ us hl => match us, hl with | [_, _], _ => rfl
  have Fg1 := fun_mk (st := inClass (topS 40) 1) lg1 cg1 kg1
  have bg1 := Fg1.binds (ps := ["self", "other"]) fun _ _ _ _ _ _ us hl => match us, hl with | [_, _], _ => rfl
  have Fg2 := fun_mk (st := inClass (topS 40) 9) lg2 cg2 kg2
  have bg2 := Fg2.binds (ps := ["self"]) fun _ _ _ _ _ _ us hl => match us, hl with | [_], _ => rfl
  have Fg3 := fun_mk (st := inClass (topS 40) 11) lg3 cg3 kg3
  have bg3 := Fg3.binds (ps := ["self", "point"]) fun _ _ _ _ _ _ us hl => match us, hl with | [_, _], _ => rfl
  have Fg4 := fun_mk (st := inClass (topS 40) 12) lg4 cg4 kg4
  have bg4 := Fg4.binds (ps := ["self"]) fun _ _ _ _ _ _ us hl => match us, hl with | [_], _ => rfl
  have Fr0 := fun_mk (st := inClass (topS 65) 0) lr0 cr0 kr0
  have br0 := Fr0.binds (ps := ["self", "start", "top", "bottom", "step", "shift"]) fun _ _ _ _ _ _ us hl => match us, hl with | [_, _, _, _, _, _], _ => rfl
  have B : Bi mg := { int := mgn zint, list := mgn zlist, len := mgn zlen, range := mgn zrange }
  have T : Bk mg := { toBi := B, isinstance := mgn zisinstance, bool := mgn zbool, tuple := mgn ztuple, abs := mgn zabs, str := mgn zstr, gcd := mgo aggcd }
  have bl : ∀ (s : Shared) (u : Value), BindsTo s (PySem.W.fnOf "law" "law" (defArgs sLaw) (defBody sLaw) (defScope sLaw) .none kVf58 dcf58 pmf58 anf58 (.ref cL) ctf58) ⟨[u], []⟩ [("_law_script", u)] := fun s u => .of_eq rfl
  refine ⟨_, [(cL, Pt)], spLaw K Pt, (fun p hp => by rw [List.mem_singleton.mp hp]; exact tb.2), (fun p hp => by rw [List.mem_singleton.mp hp]; exact tn), (fun p hp => by rw [List.mem_singleton.mp hp]; exact tb.1), (fun s u => bl s u), (fun H a ns hl _ hT hS => ⟨a, ns, rfl, hS, hl, hT _ (List.mem_singleton.mpr rfl), fun _ => rfl⟩), fun b _ _ mm1 hTB => ?_⟩
  have hTb : LamX.TabB b mg cL Pt := hTB _ (List.mem_singleton.mpr rfl)
  let NBadNumber : Ex l.prog w K mg b "BadNumber" C1 ["what", "number"] := ⟨oo1, i1, _, mgo m1, ei1, ti1, bI1, iniBadNumber FI1 oo1 no1_0 no1_1⟩
  let NBadRow : Ex l.prog w K mg b "BadRow" C2 ["row"] := ⟨oo2, i2, _, mgo m2, ei2, ti2, bI2, iniBadRow FI2 oo2 no2_0⟩
  let G_law_draw : Df l.prog w K mg b "_law_draw" 1 ["_law_pen_here", "_law_many"] spDraw := ⟨f1, _, mgo a1, k1, b1, ok_draw F1 B⟩
  let G_law_pick : Df l.prog w K mg b "_law_pick" 2 ["_law_pen_here", "_law_some"] spPick := ⟨f2, _, mgo a2, k2, b2, ok_pick F2 B G_law_draw⟩
  let G_law_pen : Df l.prog w K mg b "_law_pen" 1 ["_law_script"] (spPen K) := ⟨f0, _, mgo a0, k0, b0, ok_pen F0 B⟩
  let Gis_whole : Df l.prog w K mg b "is_whole" 1 ["value"] (spWhole K) := ⟨f3, _, mgo a3, k3, b3, ok_is_whole F3 T⟩
  let Gis_ratio : Df l.prog w K mg b "is_ratio" 2 ["value"] (spIsRatio K) := ⟨f4, _, mgo a4, k4, b4, ok_is_ratio F4 T Gis_whole⟩
  let Gis_ratio_row : Df l.prog w K mg b "is_ratio_row" 3 ["value"] (spIsRow K) := ⟨f5, _, mgo a5, k5, b5, ok_is_row F5 T (mgn zall) Gis_ratio⟩
  let Glowest : Df l.prog w K mg b "lowest" 1 ["top", "bottom"] spLow := ⟨f6, _, mgo a6, k6, b6, ok_lowest F6 T⟩
  let Gparts_of : Dx l.prog w K mg b "parts_of" 3 ["value", "what"] (spParts K C1) := ⟨f7, _, mgo a7, k7, b7, ok_parts F7 T Gis_ratio NBadNumber⟩
  let Gtold : Dx l.prog w K mg b "told" 4 ["value", "what"] (spTold K C1) := ⟨f8, _, mgo a8, k8, b8, ok_told F8 Gparts_of Glowest⟩
  let Gtimes : Dx l.prog w K mg b "times" 4 ["one", "other"] (spTwo K C1 (okLow gTimes)) := ⟨f9, _, mgo a9, k9, b9, ok_times F9 Gparts_of Glowest NBadNumber⟩
  let Gshare : Dx l.prog w K mg b "share" 4 ["one", "other"] (spTwo K C1 (okShare C1)) := ⟨f10, _, mgo a10, k10, b10, ok_share F10 Gparts_of Glowest NBadNumber⟩
  let PM : PoM l.prog w K mg b Cg C2 := ⟨PC, g0, _, ⟨PMk, eg0, fn_of_ty tg0, PKp⟩, bg0, ok_poly_init Fg0 T PC NBadRow Gis_ratio_row Gtold, g1, _, eg1, fn_of_ty tg1, bg1, ok_poly_eq Fg1 T mm1 PC⟩
  let M_slope : MeX l.prog w K mg b Cg "slope" 7 ["self"] (spSlope K Cg) := ⟨g4, _, ⟨eg4, fn_of_ty tg4, kg4⟩, bg4, ok_slope Fg4 T PM Gtimes⟩
  let M_degree : Me l.prog w K mg b Cg "degree" 1 ["self"] (spPolyD K Cg) := ⟨g2, _, ⟨eg2, fn_of_ty tg2, kg2⟩, bg2, ok_poly_degree Fg2 T PC⟩
  let Gover_one_bottom : Df l.prog w K mg b "over_one_bottom" 1 ["numbers"] (spOver2 K) := ⟨f11, _, mgo a11, k11, b11, ok_over2 F11 (mgo aglcm)⟩
  let Gpoly_over : Dx l.prog w K mg b "poly_over" 7 ["row", "bottom"] (spPOv K Cg) := ⟨f12, _, mgo a12, k12, b12, ok_pov F12 PM⟩
  let M_at : MeX l.prog w K mg b Cg "at" 5 ["self", "point"] (spAtI K Cg) := ⟨g3, _, ⟨eg3, fn_of_ty tg3, kg3⟩, bg3, ok_ati Fg3 PC Gtold Gover_one_bottom Glowest⟩
  let Gstripped : Df l.prog w K mg b "stripped" 1 ["row"] spStrip := ⟨f13, _, mgo a13, k13, b13, ok_strip F13 T⟩
  let Gresidues : Df l.prog w K mg b "residues" 2 ["row", "prime"] spRes := ⟨f14, _, mgo a14, k14, b14, ok_res F14 Gstripped⟩
  let Gwithout_lead : Df l.prog w K mg b "without_lead" 2 ["one", "other", "factor", "number"] spWl := ⟨f15, _, mgo a15, k15, b15, ok_wl F15 T (mgn zzip) Gstripped⟩
  let Gnearest_residue : Df l.prog w K mg b "nearest_residue" 1 ["number", "prime"] spNear := ⟨f16, _, mgo a16, k16, b16, ok_near F16⟩
  let Ginverse : Df l.prog w K mg b "inverse" 1 ["number", "prime"] spInv := ⟨f17, _, mgo a17, k17, b17, ok_inv F17⟩
  let Gprimitive_row : Df l.prog w K mg b "primitive_row" 1 ["row"] spPrim := ⟨f18, _, mgo a18, k18, b18, ok_prim F18 T⟩
  let Gresidue_divisor : Df l.prog w K mg b "residue_divisor" 3 ["one", "other", "prime"] spRD := ⟨f19, _, mgo a19, k19, b19, ok_rd F19 T Gresidues Gwithout_lead⟩
  let Gdivides : Df l.prog w K mg b "divides" 3 ["one", "other"] spDvs := ⟨f20, _, mgo a20, k20, b20, ok_dvs F20 T Gwithout_lead⟩
  let Gdivisor_by_residues : Df l.prog w K mg b "divisor_by_residues" 4 ["one", "other", "prime"] spDR := ⟨f21, _, mgo a21, k21, b21, ok_dr F21 T Gresidue_divisor Ginverse Gnearest_residue Gprimitive_row Gdivides⟩
  have hPK : ∀ H, SqT K H PB (([61, 521, 1279, 2281, 4423, 9689, 19937, 44497] : List Int).map V.int) := fun H => .inr ⟨_, _, _, pbl, rfl, rfl, (by show 8 ≤ sizeLine; decide), .cons ⟨_, rfl⟩ (.cons ⟨_, rfl⟩ (.cons ⟨_, rfl⟩ (.cons ⟨_, rfl⟩ (.cons ⟨_, rfl⟩ (.cons ⟨_, rfl⟩ (.cons ⟨_, rfl⟩ (.cons ⟨_, rfl⟩ .nil)))))))⟩
  let Gcommon_row : Df l.prog w K mg b "common_row" 5 ["one", "other"] spCR := ⟨f22, _, mgo a22, k22, b22, ok_cr F22 (mgo pbm) hPK Gdivisor_by_residues⟩
  let Glong_division : Df l.prog w K mg b "long_division" 3 ["one", "other"] spLd := ⟨f23, _, mgo a23, k23, b23, ok_ld F23 T (mgn zmax) Gwithout_lead⟩
  let Gwhole_row : Df l.prog w K mg b "whole_row" 2 ["poly"] (spWR K Cg) := ⟨f24, _, mgo a24, k24, b24, ok_wr F24 PC Gprimitive_row Gover_one_bottom⟩
  let Gplain_of : Dx l.prog w K mg b "plain_of" 8 ["poly"] (spPlainOf K Cg) := ⟨f25, _, mgo a25, k25, b25, ok_plof F25 T PC Gwhole_row Gpoly_over⟩
  let Gcommon : Dx l.prog w K mg b "common" 9 ["one", "other"] (spCommonP K Cg) := ⟨f26, _, mgo a26, k26, b26, ok_comp F26 T PC Gplain_of Gwhole_row Gcommon_row Gpoly_over⟩
  let Gdivided : Dx l.prog w K mg b "divided" 8 ["one", "other"] (spDivd K Cg C1) := ⟨f27, _, mgo a27, k27, b27, ok_divd F27 T PC NBadNumber Gover_one_bottom Glong_division Gpoly_over⟩
  let Gis_prime : Df l.prog w K mg b "is_prime" 1 ["number"] spIsPrime := ⟨f28, _, mgo a28, k28, b28, ok_is_prime F28⟩
  let Gslope_of_row : Df l.prog w K mg b "slope_of_row" 1 ["row"] spSlz := ⟨f29, _, mgo a29, k29, b29, ok_slz F29 T⟩
  let Gvalue_among : Df l.prog w K mg b "value_among" 1 ["row", "point", "modulus"] spAmong := ⟨f30, _, mgo a30, k30, b30, ok_among F30⟩
  let Gzero_residues : Df l.prog w K mg b "zero_residues" 2 ["row", "prime"] spZR := ⟨f31, _, mgo a31, k31, b31, ok_zr F31 T Gvalue_among⟩
  let Gfitting_prime : Df l.prog w K mg b "fitting_prime" 3 ["row"] spFP := ⟨f32, _, mgo a32, k32, b32, ok_fp F32 T (mgn zall) (mgo acFIRST_PRIME) Gslope_of_row Gis_prime Gzero_residues Gvalue_among⟩
  let Glifted : Df l.prog w K mg b "lifted" 2 ["row", "residue", "prime", "limit"] spLift := ⟨f33, _, mgo a33, k33, b33, ok_lift F33 Gslope_of_row Ginverse Gvalue_among⟩
  let Gvalue_at : Df l.prog w K mg b "value_at" 1 ["row", "top", "bottom"] spVA := ⟨f34, _, mgo a34, k34, b34, ok_va F34⟩
  let Gratio_zeros : Df l.prog w K mg b "ratio_zeros" 4 ["row"] spRZ := ⟨f35, _, mgo a35, k35, b35, ok_rz F35 T mm1 (mgn zmax) (mgn zsorted) (mgo acSPARE_BITS) Glowest Gfitting_prime Glifted Gnearest_residue Gvalue_at⟩
  let Gleast_whole_zero : Dx l.prog w K mg b "least_whole_zero" 10 ["poly"] (spLWZ K Cg) := ⟨f36, _, mgo a36, k36, b36, ok_lwz F36 T PC M_degree M_slope Gcommon Gdivided Gwhole_row Gratio_zeros⟩
  let Gis_whole_from : Df l.prog w K mg b "is_whole_from" 2 ["value", "least"] (spWF K) := ⟨f37, _, mgo a37, k37, b37, ok_wf F37 T Gis_whole⟩
  obtain ⟨RC, RMk, RKp⟩ := rowC (mg := mg) (mgo mcr) bigr
  let RM : RoM l.prog w K mg b Cg Cr C1 := ⟨RC, r0, _, ⟨RMk, er0, fn_of_ty tr0, RKp⟩, br0, ok_rowi Fr0 T RC NBadNumber Gis_ratio Gis_whole_from Gleast_whole_zero Gtold⟩
  let Gfollower : Dx l.prog w K mg b "follower" 6 ["row", "number", "k"] (spFol K Cg Cr) := ⟨f38, _, mgo a38, k38, b38, ok_fol F38 PC RC M_at Gtimes Gshare⟩
  let Gterms_of : Dx l.prog w K mg b "terms_of" 11 ["row"] (spTerms K Cg Cr) := ⟨f39, _, mgo a39, k39, b39, ok_terms F39 RC Gleast_whole_zero⟩
  let Gnumber_at : Dx l.prog w K mg b "number_at" 12 ["row", "k"] (spNA K Cg Cr C1) := ⟨f40, _, mgo a40, k40, b40, ok_na F40 T RC NBadNumber Gis_whole_from Gterms_of Gfollower⟩
  let G_law_gcd : Df l.prog w K mg b "_law_gcd" 1 ["_law_one", "_law_two"] spGcd := ⟨f41, _, mgo a41, k41, b41, ok_lgcd F41 T⟩
  let G_law_q : Df l.prog w K mg b "_law_q" 2 ["_law_top", "_law_bottom"] spQ := ⟨f42, _, mgo a42, k42, b42, ok_lq F42 G_law_gcd⟩
  let G_law_plus : Df l.prog w K mg b "_law_plus" 3 ["_law_one", "_law_two"] (spL2 rAdd) := ⟨f43, _, mgo a43, k43, b43, ok_lplus F43 G_law_q⟩
  let G_law_minus : Df l.prog w K mg b "_law_minus" 3 ["_law_one", "_law_two"] (spL2 rSub) := ⟨f44, _, mgo a44, k44, b44, ok_lminus F44 G_law_q⟩
  let G_law_times : Df l.prog w K mg b "_law_times" 3 ["_law_one", "_law_two"] (spL2 rMul) := ⟨f45, _, mgo a45, k45, b45, ok_ltimes F45 G_law_q⟩
  let G_law_share : Df l.prog w K mg b "_law_share" 3 ["_law_one", "_law_two"] spLSh := ⟨f46, _, mgo a46, k46, b46, ok_lshare F46 G_law_q⟩
  let G_law_passed : Df l.prog w K mg b "_law_passed" 3 ["_law_pen_here", "_law_ratio_here"] (spPassed K) := ⟨f47, _, mgo a47, k47, b47, ok_passed F47 G_law_draw G_law_pick⟩
  let G_law_ratio : Df l.prog w K mg b "_law_ratio" 3 ["_law_pen_here", "_law_most"] spRatio := ⟨f48, _, mgo a48, k48, b48, ok_lratio F48 G_law_draw G_law_pick G_law_q⟩
  let G_law_poly : Df l.prog w K mg b "_law_poly" 1 ["_law_numbers"] (spLPoly K) := ⟨f49, _, mgo a49, k49, b49, ok_lpoly F49 T mm1⟩
  let G_law_p_times : Df l.prog w K mg b "_law_p_times" 4 ["_law_one", "_law_two"] spLPT := ⟨f50, _, mgo a50, k50, b50, ok_lptimes F50 T (mgn zmax) G_law_poly G_law_plus G_law_times⟩
  let G_law_p_at : Df l.prog w K mg b "_law_p_at" 4 ["_law_one", "_law_point"] spLPA := ⟨f51, _, mgo a51, k51, b51, ok_lpat F51 G_law_plus G_law_times⟩
  let G_law_made_poly : Df l.prog w K mg b "_law_made_poly" 7 ["_law_pen_here", "_law_one"] (spMade K Cg) := ⟨f52, _, mgo a52, k52, b52, ok_made F52 T PM G_law_draw G_law_pick G_law_passed⟩
  let G_law_made_row : Df l.prog w K mg b "_law_made_row" 13 ["_law_pen_here", "_law_row"] (spMR K Cg Cr) := ⟨f54, _, mgo a54, k54, b54, ok_mr F54 T RM G_law_made_poly G_law_passed⟩
  let G_law_row_numbers : Df l.prog w K mg b "_law_row_numbers" 5 ["_law_row", "_law_many"] spRN := ⟨f55, _, mgo a55, k55, b55, ok_rn F55 T G_law_p_at G_law_share G_law_times⟩
  let G_law_factors : Df l.prog w K mg b "_law_factors" 5 ["_law_pen_here", "_law_zeros"] spFactors := ⟨f56, _, mgo a56, k56, b56, ok_factors F56 T G_law_pick G_law_minus G_law_p_times⟩
  let G_law_places : Df l.prog w K mg b "_law_places" 3 ["_law_pen_here", "_law_many", "_law_has_whole"] spPlaces := ⟨f57, _, mgo a57, k57, b57, ok_places F57 T G_law_draw G_law_pick⟩
  have W : W19 K mg ([C0, C1, C2].getD · 0) := ⟨mgo m0, mgo m1, xfB_ok bx0, xfB_ok bx1, x10, x11, no0_0, no0_1, no1_0, no1_1⟩
  let Y : Yf K mg := ⟨f53, kVf53, dcf53, pmf53, anf53, cdf53, ctf53, ocf53, odf53, slf53, mgo a53, k53, l53, c53, b53⟩
  exact ok_law (C := ([C0, C1, C2].getD · 0)) F58 T (mgn zsorted) (mgn zmin) (mgn zall) W mm1 cL Pt rfl hTb Y PM RM G_law_pen G_law_draw G_law_pick G_law_ratio G_law_places G_law_factors G_law_made_row G_law_row_numbers Gnumber_at Gterms_of
end Vf
open PySem PySem.W PyProof.Rows
set_option maxRecDepth 100000 in
set_option maxHeartbeats 0 in
theorem PySem.Challenge.cw_nearcurves_k19_numbers_of_rows_holds : PySem.Challenge.rw_nearcurves_k19_numbers_of_rows.Holds := by
  refine top_k19 ?_
  k_fill
  refine Vf.walkT (l := PySem.Challenge.rw_nearcurves_k19_numbers_of_rows) (n := 63) (k := 15) (C := fun _ => L2.CX0) (x := "_law_script") rfl (by decide) rfl ⟨rfl, by decide, by decide⟩ (by decide +kernel) (fun w h Y => PySem.W.km_in_of Y) ?F (fun _ _ _ _ _ z => z)
  case F =>
    intro w mg fa h Y X G hmg TB
    refine' Vf.all_mk X G hmg TB ?a0 ?l0 ?c0 ?k0 ?a1 ?l1 ?c1 ?k1 ?a2 ?l2 ?c2 ?k2 ?a3 ?l3 ?c3 ?k3 ?a4 ?l4 ?c4 ?k4 ?a5 ?l5 ?c5 ?k5 ?a6 ?l6 ?c6 ?k6 ?a7 ?l7 ?c7 ?k7 ?a8 ?l8 ?c8 ?k8 ?a9 ?l9 ?c9 ?k9 ?a10 ?l10 ?c10 ?k10 ?a11 ?l11 ?c11 ?k11 ?a12 ?l12 ?c12 ?k12 ?a13 ?l13 ?c13 ?k13 ?a14 ?l14 ?c14 ?k14 ?a15 ?l15 ?c15 ?k15 ?a16 ?l16 ?c16 ?k16 ?a17 ?l17 ?c17 ?k17 ?a18 ?l18 ?c18 ?k18 ?a19 ?l19 ?c19 ?k19 ?a20 ?l20 ?c20 ?k20 ?a21 ?l21 ?c21 ?k21 ?a22 ?l22 ?c22 ?k22 ?a23 ?l23 ?c23 ?k23 ?a24 ?l24 ?c24 ?k24 ?a25 ?l25 ?c25 ?k25 ?a26 ?l26 ?c26 ?k26 ?a27 ?l27 ?c27 ?k27 ?a28 ?l28 ?c28 ?k28 ?a29 ?l29 ?c29 ?k29 ?a30 ?l30 ?c30 ?k30 ?a31 ?l31 ?c31 ?k31 ?a32 ?l32 ?c32 ?k32 ?a33 ?l33 ?c33 ?k33 ?a34 ?l34 ?c34 ?k34 ?a35 ?l35 ?c35 ?k35 ?a36 ?l36 ?c36 ?k36 ?a37 ?l37 ?c37 ?k37 ?a38 ?l38 ?c38 ?k38 ?a39 ?l39 ?c39 ?k39 ?a40 ?l40 ?c40 ?k40 ?a41 ?l41 ?c41 ?k41 ?a42 ?l42 ?c42 ?k42 ?a43 ?l43 ?c43 ?k43 ?a44 ?l44 ?c44 ?k44 ?a45 ?l45 ?c45 ?k45 ?a46 ?l46 ?c46 ?k46 ?a47 ?l47 ?c47 ?k47 ?a48 ?l48 ?c48 ?k48 ?a49 ?l49 ?c49 ?k49 ?a50 ?l50 ?c50 ?k50 ?a51 ?l51 ?c51 ?k51 ?a52 ?l52 ?c52 ?k52 ?a53 ?l53 ?c53 ?k53 ?a54 ?l54 ?c54 ?k54 ?a55 ?l55 ?c55 ?k55 ?a56 ?l56 ?c56 ?k56 ?a57 ?l57 ?c57 ?k57 ?a58 ?l58 ?c58 ?k58 ?tl ?tv ?tn ?tr ?aggcd ?aglcm ?acFIRST_PRIME ?acSPARE_BITS ?m0 ?ei0 ?ti0 ?li0 ?ci0 ?ki0 ?lc0 ?lb0 ?big0 ?m1 ?ei1 ?ti1 ?li1 ?ci1 ?ki1 ?lc1 ?lb1 ?big1 ?m2 ?ei2 ?ti2 ?li2 ?ci2 ?ki2 ?lc2 ?lb2 ?big2 ?mcg ?eg0 ?tg0 ?lg0 ?cg0 ?kg0 ?eg1 ?tg1 ?lg1 ?cg1 ?kg1 ?eg2 ?tg2 ?lg2 ?cg2 ?kg2 ?eg3 ?tg3 ?lg3 ?cg3 ?kg3 ?eg4 ?tg4 ?lg4 ?cg4 ?kg4 ?mcr ?er0 ?tr0 ?lr0 ?cr0 ?kr0 ?zint ?zlist ?zlen ?zrange ?zstr ?zisinstance ?zbool ?ztuple ?zabs ?zall ?zmax ?zmin ?zsum ?zzip ?zsorted ?bx0 ?bx1 ?x10 ?x11 ?bigr ?pbm ?pbl ?bigP
    (case a0 => k_is)
    (case l0 => k_is)
    (case c0 => k_is)
    (case k0 => k_is)
    (case a1 => k_is)
    (case l1 => k_is)
    (case c1 => k_is)
    (case k1 => k_is)
    (case a2 => k_is)
    (case l2 => k_is)
    (case c2 => k_is)
    (case k2 => k_is)
    (case a3 => k_is)
    (case l3 => k_is)
    (case c3 => k_is)
    (case k3 => k_is)
    (case a4 => k_is)
    (case l4 => k_is)
    (case c4 => k_is)
    (case k4 => k_is)
    (case a5 => k_is)
    (case l5 => k_is)
    (case c5 => k_is)
    (case k5 => k_is)
    (case a6 => k_is)
    (case l6 => k_is)
    (case c6 => k_is)
    (case k6 => k_is)
    (case a7 => k_is)
    (case l7 => k_is)
    (case c7 => k_is)
    (case k7 => k_is)
    (case a8 => k_is)
    (case l8 => k_is)
    (case c8 => k_is)
    (case k8 => k_is)
    (case a9 => k_is)
    (case l9 => k_is)
    (case c9 => k_is)
    (case k9 => k_is)
    (case a10 => k_is)
    (case l10 => k_is)
    (case c10 => k_is)
    (case k10 => k_is)
    (case a11 => k_is)
    (case l11 => k_is)
    (case c11 => k_is)
    (case k11 => k_is)
    (case a12 => k_is)
    (case l12 => k_is)
    (case c12 => k_is)
    (case k12 => k_is)
    (case a13 => k_is)
    (case l13 => k_is)
    (case c13 => k_is)
    (case k13 => k_is)
    (case a14 => k_is)
    (case l14 => k_is)
    (case c14 => k_is)
    (case k14 => k_is)
    (case a15 => k_is)
    (case l15 => k_is)
    (case c15 => k_is)
    (case k15 => k_is)
    (case a16 => k_is)
    (case l16 => k_is)
    (case c16 => k_is)
    (case k16 => k_is)
    (case a17 => k_is)
    (case l17 => k_is)
    (case c17 => k_is)
    (case k17 => k_is)
    (case a18 => k_is)
    (case l18 => k_is)
    (case c18 => k_is)
    (case k18 => k_is)
    (case a19 => k_is)
    (case l19 => k_is)
    (case c19 => k_is)
    (case k19 => k_is)
    (case a20 => k_is)
    (case l20 => k_is)
    (case c20 => k_is)
    (case k20 => k_is)
    (case a21 => k_is)
    (case l21 => k_is)
    (case c21 => k_is)
    (case k21 => k_is)
    (case a22 => k_is)
    (case l22 => k_is)
    (case c22 => k_is)
    (case k22 => k_is)
    (case a23 => k_is)
    (case l23 => k_is)
    (case c23 => k_is)
    (case k23 => k_is)
    (case a24 => k_is)
    (case l24 => k_is)
    (case c24 => k_is)
    (case k24 => k_is)
    (case a25 => k_is)
    (case l25 => k_is)
    (case c25 => k_is)
    (case k25 => k_is)
    (case a26 => k_is)
    (case l26 => k_is)
    (case c26 => k_is)
    (case k26 => k_is)
    (case a27 => k_is)
    (case l27 => k_is)
    (case c27 => k_is)
    (case k27 => k_is)
    (case a28 => k_is)
    (case l28 => k_is)
    (case c28 => k_is)
    (case k28 => k_is)
    (case a29 => k_is)
    (case l29 => k_is)
    (case c29 => k_is)
    (case k29 => k_is)
    (case a30 => k_is)
    (case l30 => k_is)
    (case c30 => k_is)
    (case k30 => k_is)
    (case a31 => k_is)
    (case l31 => k_is)
    (case c31 => k_is)
    (case k31 => k_is)
    (case a32 => k_is)
    (case l32 => k_is)
    (case c32 => k_is)
    (case k32 => k_is)
    (case a33 => k_is)
    (case l33 => k_is)
    (case c33 => k_is)
    (case k33 => k_is)
    (case a34 => k_is)
    (case l34 => k_is)
    (case c34 => k_is)
    (case k34 => k_is)
    (case a35 => k_is)
    (case l35 => k_is)
    (case c35 => k_is)
    (case k35 => k_is)
    (case a36 => k_is)
    (case l36 => k_is)
    (case c36 => k_is)
    (case k36 => k_is)
    (case a37 => k_is)
    (case l37 => k_is)
    (case c37 => k_is)
    (case k37 => k_is)
    (case a38 => k_is)
    (case l38 => k_is)
    (case c38 => k_is)
    (case k38 => k_is)
    (case a39 => k_is)
    (case l39 => k_is)
    (case c39 => k_is)
    (case k39 => k_is)
    (case a40 => k_is)
    (case l40 => k_is)
    (case c40 => k_is)
    (case k40 => k_is)
    (case a41 => k_is)
    (case l41 => k_is)
    (case c41 => k_is)
    (case k41 => k_is)
    (case a42 => k_is)
    (case l42 => k_is)
    (case c42 => k_is)
    (case k42 => k_is)
    (case a43 => k_is)
    (case l43 => k_is)
    (case c43 => k_is)
    (case k43 => k_is)
    (case a44 => k_is)
    (case l44 => k_is)
    (case c44 => k_is)
    (case k44 => k_is)
    (case a45 => k_is)
    (case l45 => k_is)
    (case c45 => k_is)
    (case k45 => k_is)
    (case a46 => k_is)
    (case l46 => k_is)
    (case c46 => k_is)
    (case k46 => k_is)
    (case a47 => k_is)
    (case l47 => k_is)
    (case c47 => k_is)
    (case k47 => k_is)
    (case a48 => k_is)
    (case l48 => k_is)
    (case c48 => k_is)
    (case k48 => k_is)
    (case a49 => k_is)
    (case l49 => k_is)
    (case c49 => k_is)
    (case k49 => k_is)
    (case a50 => k_is)
    (case l50 => k_is)
    (case c50 => k_is)
    (case k50 => k_is)
    (case a51 => k_is)
    (case l51 => k_is)
    (case c51 => k_is)
    (case k51 => k_is)
    (case a52 => k_is)
    (case l52 => k_is)
    (case c52 => k_is)
    (case k52 => k_is)
    (case a53 => k_is)
    (case l53 => k_is)
    (case c53 => k_is)
    (case k53 => k_is)
    (case a54 => k_is)
    (case l54 => k_is)
    (case c54 => k_is)
    (case k54 => k_is)
    (case a55 => k_is)
    (case l55 => k_is)
    (case c55 => k_is)
    (case k55 => k_is)
    (case a56 => k_is)
    (case l56 => k_is)
    (case c56 => k_is)
    (case k56 => k_is)
    (case a57 => k_is)
    (case l57 => k_is)
    (case c57 => k_is)
    (case k57 => k_is)
    (case a58 => k_is)
    (case l58 => k_is)
    (case c58 => k_is)
    (case k58 => k_is)
    (case tl => k_is)
    (case tv => first | rfl | k_is)
    (case tn => first | kernel_rfl | k_is)
    (case tr => decide +kernel)
    (case aggcd => k_is)
    (case aglcm => k_is)
    (case acFIRST_PRIME => k_is)
    (case acSPARE_BITS => k_is)
    (case m0 => k_is)
    (case ei0 => k_is)
    (case ti0 => k_is)
    (case li0 => k_is)
    (case ci0 => k_is)
    (case ki0 => k_is)
    (case lc0 => k_is)
    (case lb0 => decide +kernel)
    (case big0 => kernel_rfl)
    (case m1 => k_is)
    (case ei1 => k_is)
    (case ti1 => k_is)
    (case li1 => k_is)
    (case ci1 => k_is)
    (case ki1 => k_is)
    (case lc1 => k_is)
    (case lb1 => decide +kernel)
    (case big1 => kernel_rfl)
    (case m2 => k_is)
    (case ei2 => k_is)
    (case ti2 => k_is)
    (case li2 => k_is)
    (case ci2 => k_is)
    (case ki2 => k_is)
    (case lc2 => k_is)
    (case lb2 => decide +kernel)
    (case big2 => kernel_rfl)
    (case mcg => k_is)
    (case eg0 => k_is)
    (case tg0 => k_is)
    (case lg0 => k_is)
    (case cg0 => k_is)
    (case kg0 => k_is)
    (case eg1 => k_is)
    (case tg1 => k_is)
    (case lg1 => k_is)
    (case cg1 => k_is)
    (case kg1 => k_is)
    (case eg2 => k_is)
    (case tg2 => k_is)
    (case lg2 => k_is)
    (case cg2 => k_is)
    (case kg2 => k_is)
    (case eg3 => k_is)
    (case tg3 => k_is)
    (case lg3 => k_is)
    (case cg3 => k_is)
    (case kg3 => k_is)
    (case eg4 => k_is)
    (case tg4 => k_is)
    (case lg4 => k_is)
    (case cg4 => k_is)
    (case kg4 => k_is)
    (case mcr => k_is)
    (case er0 => k_is)
    (case tr0 => k_is)
    (case lr0 => k_is)
    (case cr0 => k_is)
    (case kr0 => k_is)
    (case zint => k_is)
    (case zlist => k_is)
    (case zlen => k_is)
    (case zrange => k_is)
    (case zstr => k_is)
    (case zisinstance => k_is)
    (case zbool => k_is)
    (case ztuple => k_is)
    (case zabs => k_is)
    (case zall => k_is)
    (case zmax => k_is)
    (case zmin => k_is)
    (case zsum => k_is)
    (case zzip => k_is)
    (case zsorted => k_is)
    (case bx0 => kernel_rfl)
    (case bx1 => kernel_rfl)
    (case x10 => kernel_rfl)
    (case x11 => kernel_rfl)
    (case bigr => kernel_rfl)
    (case pbm => k_is)
    (case pbl => k_is)
    (case bigP => kernel_rfl)
