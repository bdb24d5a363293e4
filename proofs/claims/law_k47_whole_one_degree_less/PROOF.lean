import PyProof.Rows.All
import Wide.All
import OpenK.AllK
import Wide.FinOn
import HandS.ForMost
import HandS.ForExc
import HandS.EndBits
import HandS.EndTab
import HandS.Lambda
import HandS.ExcInit
import HandS.ExcValue
import HandS.ExcIs
import HandS.IsInst
import PyProof.ReprLen
import PyProof.StrLawsRepr
import HandS.TryMany
import HandS.ExcField
import HandS.CallLocal
import HandS.Gcd
import HandS.Wide
import KE.DataEq
import HandS.SlotsOwn
import HandS.WordsExc
import HandS.Zip
import HandS.Style
import KE.GoesZip
import KE.GoesMore
import KE.GoesEnum
import HandS.TupAny
import HandS.TupMul
import HandS.WideBits
import HandS.Flow
import HandS.More
import PyProof.InstEq
import HandS.Conv
import HandS.OwnEq
import PySem.Challenge.RW_nearcurves_k47_whole_one_degree_less
set_option Elab.async false
set_option linter.all false
theorem PySem.W.Fast.tw7613235768417088608 : True := trivial
theorem PySem.W.Fast.tw4566254748375447744 : True := trivial
theorem PySem.W.Fast.tw17128586293245082976 : True := trivial
theorem PySem.W.Fast.tw1181624009858967936 : True := trivial
theorem PySem.W.Fast.tw14309149602891469440 : True := trivial
theorem PySem.W.Fast.tw2443360861393991328 : True := trivial
theorem PySem.W.Fast.tw15124091807717581536 : True := trivial
theorem PySem.W.Fast.tw3414674398991413984 : True := trivial
theorem PySem.W.Fast.tw892817963821005696 : True := trivial
theorem PySem.W.Fast.tw18071806199871742880 : True := trivial
theorem PySem.W.Fast.tw10466361103022074784 : True := trivial
theorem PySem.W.Fast.tw14288378723461173216 : True := trivial
theorem PySem.W.Fast.tw4921793608289323009 : True := trivial
theorem PySem.W.Fast.tw8621328995600210977 : True := trivial
theorem PySem.W.Fast.tw12678076430675509441 : True := trivial
theorem PySem.W.Fast.tw2668612895224151233 : True := trivial
theorem PySem.W.Fast.tw7350737945904204129 : True := trivial
theorem PySem.W.Fast.tw3275042289199634817 : True := trivial
theorem PySem.W.Fast.tw7089034761913338241 : True := trivial
theorem PySem.W.Fast.tw10632446243648313857 : True := trivial
theorem PySem.W.Fast.tw1259126409419856449 : True := trivial
theorem PySem.W.Fast.tw9014249374533307969 : True := trivial
theorem PySem.W.Fast.tw1395789734654383809 : True := trivial
theorem PySem.W.Fast.tw1029806780611771233 : True := trivial
theorem PySem.W.Fast.tw2222708371121067074 : True := trivial
theorem PySem.W.Fast.tw13353030576611812482 : True := trivial
theorem PySem.W.Fast.tw12323638049250416962 : True := trivial
theorem PySem.W.Fast.tw9842086418794141026 : True := trivial
theorem PySem.W.Fast.tw7977624037709874754 : True := trivial
theorem PySem.W.Fast.tw11577979027710093922 : True := trivial
theorem PySem.W.Fast.tw16447031362132117122 : True := trivial
theorem PySem.W.Fast.tw18239867788296200834 : True := trivial
theorem PySem.W.Fast.tw16665744554485895842 : True := trivial
theorem PySem.W.Fast.tw8265289869575520098 : True := trivial
theorem PySem.W.Fast.tw1577635913484673954 : True := trivial
theorem PySem.W.Fast.tw1941097299534162850 : True := trivial
theorem PySem.W.Fast.tw18263178547096925187 : True := trivial
theorem PySem.W.Fast.tw15309690982136406019 : True := trivial
theorem PySem.W.Fast.tw2828347408455708771 : True := trivial
theorem PySem.W.Fast.tw17823589723384191107 : True := trivial
theorem PySem.W.Fast.tw1410368185222692099 : True := trivial
theorem PySem.W.Fast.tw5880162511452803587 : True := trivial
theorem PySem.W.Fast.tw9327660614592141955 : True := trivial
theorem PySem.W.Fast.tw6068137097368221315 : True := trivial
theorem PySem.W.Fast.tw3363149849782002371 : True := trivial
theorem PySem.W.Fast.tw17640370267876294339 : True := trivial
theorem PySem.W.Fast.tw7357510736163665763 : True := trivial
theorem PySem.W.Fast.tw6623618155698092995 : True := trivial
theorem PySem.W.Fast.tw16434773462663622692 : True := trivial
theorem PySem.W.Fast.tw8910239702593644676 : True := trivial
theorem PySem.W.Fast.tw13174905677770290308 : True := trivial
theorem PySem.W.Fast.tw5186559681186808004 : True := trivial
theorem PySem.W.Fast.tw5327611441236454660 : True := trivial
theorem PySem.W.Fast.tw1995995729311303940 : True := trivial
theorem PySem.W.Fast.tw14956630067572782436 : True := trivial
theorem PySem.W.Fast.tw15232244115759221092 : True := trivial
theorem PySem.W.Fast.tw17401561303441561956 : True := trivial
theorem PySem.W.Fast.tw3105001551100332420 : True := trivial
theorem PySem.W.Fast.tw13208336361665714564 : True := trivial
theorem PySem.W.Fast.tw5987259821926487460 : True := trivial
theorem PySem.W.Fast.tw8223311802209253860 : True := trivial
theorem PySem.W.Fast.tw1015297948562353700 : True := trivial
theorem PySem.W.Fast.tw5337434058477057604 : True := trivial
theorem PySem.W.Fast.tw12499133142312853092 : True := trivial
theorem PySem.W.Fast.tw3637311084802409092 : True := trivial
theorem PySem.W.Fast.tw16199904325797034660 : True := trivial
theorem PySem.W.Fast.tw17434606118291687108 : True := trivial
theorem PySem.W.Fast.tw15692130400331539300 : True := trivial
theorem PySem.W.Fast.tw7705504874235937732 : True := trivial
theorem PySem.W.Fast.tw7399611473560781861 : True := trivial
theorem PySem.W.Fast.tw3084238798785060005 : True := trivial
theorem PySem.W.Fast.tw17817640761350426949 : True := trivial
theorem PySem.W.Fast.tw5262408532707954021 : True := trivial
theorem PySem.W.Fast.tw8192248794379940197 : True := trivial
theorem PySem.W.Fast.tw7738043804458044805 : True := trivial
theorem PySem.W.Fast.tw12769287069427149221 : True := trivial
theorem PySem.W.Fast.tw10373176055730321893 : True := trivial
theorem PySem.W.Fast.tw3960390246823431685 : True := trivial
theorem PySem.W.Fast.tw783713687194421861 : True := trivial
theorem PySem.W.Fast.tw569437949128751717 : True := trivial
theorem PySem.W.Fast.tw1397793740841850501 : True := trivial
theorem PySem.W.Fast.tw7658163860356853669 : True := trivial
theorem PySem.W.Fast.tw14389668895706041317 : True := trivial
theorem PySem.W.Fast.tw15557004124602444838 : True := trivial
theorem PySem.W.Fast.tw18012960843850620998 : True := trivial
theorem PySem.W.Fast.tw10238555571571614854 : True := trivial
theorem PySem.W.Fast.tw10985526573334053158 : True := trivial
theorem PySem.W.Fast.tw15907697351471980870 : True := trivial
theorem PySem.W.Fast.tw13076319515442483590 : True := trivial
theorem PySem.W.Fast.tw15791698664214463910 : True := trivial
theorem PySem.W.Fast.tw1631974837369851302 : True := trivial
theorem PySem.W.Fast.tw836805336972648934 : True := trivial
theorem PySem.W.Fast.tw4557049679062673926 : True := trivial
theorem PySem.W.Fast.tw18143853770169275974 : True := trivial
theorem PySem.W.Fast.tw8638697147679553094 : True := trivial
theorem PySem.W.Fast.tw16260642777637991046 : True := trivial
theorem PySem.W.Fast.tw4232990452887278246 : True := trivial
theorem PySem.W.Fast.tw8792987705542861510 : True := trivial
theorem PySem.W.Fast.tw7776701787759397606 : True := trivial
theorem PySem.W.Fast.tw10431711454855637766 : True := trivial
theorem PySem.W.Fast.tw17151190988330955558 : True := trivial
theorem PySem.W.Fast.tw3611635725317255046 : True := trivial
theorem PySem.W.Fast.tw15174719617922479046 : True := trivial
theorem PySem.W.Fast.tw8821188476977201191 : True := trivial
theorem PySem.W.Fast.tw4506014261749697703 : True := trivial
theorem PySem.W.Fast.tw7242367030774529223 : True := trivial
theorem PySem.W.Fast.tw7766636034768486695 : True := trivial
theorem PySem.W.Fast.tw12503887699877841287 : True := trivial
theorem PySem.W.Fast.tw15517086490832146887 : True := trivial
theorem PySem.W.Fast.tw3336791045059185255 : True := trivial
theorem PySem.W.Fast.tw842018328181613191 : True := trivial
theorem PySem.W.Fast.tw2389988431710336647 : True := trivial
theorem PySem.W.Fast.tw13023220825584994983 : True := trivial
theorem PySem.W.Fast.tw6322826665101027015 : True := trivial
theorem PySem.W.Fast.tw9290960687661122343 : True := trivial
theorem PySem.W.Fast.tw14616815299962635079 : True := trivial
theorem PySem.W.Fast.tw6837268794813928327 : True := trivial
theorem PySem.W.Fast.tw7568373525154217895 : True := trivial
theorem PySem.W.Fast.tw2257964533123659719 : True := trivial
theorem PySem.W.Fast.tw7646643230581301223 : True := trivial
theorem PySem.W.Fast.tw13246546395304810536 : True := trivial
theorem PySem.W.Fast.tw13995573529130357832 : True := trivial
theorem PySem.W.Fast.tw17260132693026761800 : True := trivial
theorem PySem.W.Fast.tw2405066626031919208 : True := trivial
theorem PySem.W.Fast.tw9682767741410681960 : True := trivial
theorem PySem.W.Fast.tw12741012470289000584 : True := trivial
theorem PySem.W.Fast.tw15777872517157719176 : True := trivial
theorem PySem.W.Fast.tw678938559363142888 : True := trivial
theorem PySem.W.Fast.tw8508810504196909352 : True := trivial
theorem PySem.W.Fast.tw7330810605198000616 : True := trivial
theorem PySem.W.Fast.tw15394153377131480552 : True := trivial
theorem PySem.W.Fast.tw209549169915065832 : True := trivial
theorem PySem.W.Fast.tw8163410152592308776 : True := trivial
theorem PySem.W.Fast.tw11608554852368670280 : True := trivial
theorem PySem.W.Fast.tw5075398279859054248 : True := trivial
theorem PySem.W.Fast.tw12019040667263120104 : True := trivial
theorem PySem.W.Fast.tw14361971854854153960 : True := trivial
theorem PySem.W.Fast.tw10352324679547556616 : True := trivial
theorem PySem.W.Fast.tw12460377316073612168 : True := trivial
theorem PySem.W.Fast.tw16303603755144312873 : True := trivial
theorem PySem.W.Fast.tw12920803148526374057 : True := trivial
theorem PySem.W.Fast.tw4377146519717745929 : True := trivial
theorem PySem.W.Fast.tw2411613020903553289 : True := trivial
theorem PySem.W.Fast.tw13008817886716947721 : True := trivial
theorem PySem.W.Fast.tw17033181244711714121 : True := trivial
theorem PySem.W.Fast.tw3508112684014845257 : True := trivial
theorem PySem.W.Fast.tw1417645286656263625 : True := trivial
theorem PySem.W.Fast.tw13868253526330267113 : True := trivial
theorem PySem.W.Fast.tw5880855986981564905 : True := trivial
theorem PySem.W.Fast.tw8312296730439908873 : True := trivial
theorem PySem.W.Fast.tw2959986026300976681 : True := trivial
theorem PySem.W.Fast.tw13558575493571275369 : True := trivial
theorem PySem.W.Fast.tw1536182330787168905 : True := trivial
theorem PySem.W.Fast.tw6787150399831820937 : True := trivial
theorem PySem.W.Fast.tw12877309819762399881 : True := trivial
theorem PySem.W.Fast.tw6032310401027513065 : True := trivial
theorem PySem.W.Fast.tw6851539704415699721 : True := trivial
theorem PySem.W.Fast.tw8725017932148869929 : True := trivial
theorem PySem.W.Fast.tw9814133086355247913 : True := trivial
theorem PySem.W.Fast.tw7504024419863756585 : True := trivial
theorem PySem.W.Fast.tw4619746686307212169 : True := trivial
theorem PySem.W.Fast.tw3380541532406770730 : True := trivial
theorem PySem.W.Fast.tw17091717099931612234 : True := trivial
theorem PySem.W.Fast.tw12451749270649904298 : True := trivial
theorem PySem.W.Fast.tw5688910926789782730 : True := trivial
theorem PySem.W.Fast.tw13470233386130882762 : True := trivial
theorem PySem.W.Fast.tw9197961075564626154 : True := trivial
theorem PySem.W.Fast.tw15089752254308064522 : True := trivial
theorem PySem.W.Fast.tw11915308692572051786 : True := trivial
theorem PySem.W.Fast.tw1908691591861304650 : True := trivial
theorem PySem.W.Fast.tw1114405102308938090 : True := trivial
theorem PySem.W.Fast.tw2153244973393754666 : True := trivial
theorem PySem.W.Fast.tw4175752334495271498 : True := trivial
theorem PySem.W.Fast.tw15203245021859900042 : True := trivial
theorem PySem.W.Fast.tw445522815932222122 : True := trivial
theorem PySem.W.Fast.tw16668327847707270826 : True := trivial
theorem PySem.W.Fast.tw666848136386943690 : True := trivial
theorem PySem.W.Fast.tw9699001753098688234 : True := trivial
theorem PySem.W.Fast.tw15700943513730907882 : True := trivial
theorem PySem.W.Fast.tw11374061154207230826 : True := trivial
theorem PySem.W.Fast.tw16776050943286656075 : True := trivial
theorem PySem.W.Fast.tw7500851753906340971 : True := trivial
theorem PySem.W.Fast.tw17922746579467840619 : True := trivial
theorem PySem.W.Fast.tw18107473549530938475 : True := trivial
theorem PySem.W.Fast.tw14542049855241409675 : True := trivial
theorem PySem.W.Fast.tw12603186640367754411 : True := trivial
theorem PySem.W.Fast.tw9937247278125630667 : True := trivial
theorem PySem.W.Fast.tw14076591558148736203 : True := trivial
theorem PySem.W.Fast.tw6084843852696891627 : True := trivial
theorem PySem.W.Fast.tw12619394079679548811 : True := trivial
theorem PySem.W.Fast.tw17218447776788101643 : True := trivial
theorem PySem.W.Fast.tw4405843200956249643 : True := trivial
theorem PySem.W.Fast.tw6688498862285444907 : True := trivial
theorem PySem.W.Fast.tw17702881561993183019 : True := trivial
theorem PySem.W.Fast.tw13373884457016062795 : True := trivial
theorem PySem.W.Fast.tw10102893038204842891 : True := trivial
theorem PySem.W.Fast.tw5236624880462368715 : True := trivial
theorem PySem.W.Fast.tw4123303907267285963 : True := trivial
theorem PySem.W.Fast.tw2757671839128822763 : True := trivial
theorem PySem.W.Fast.tw8725744754318180396 : True := trivial
theorem PySem.W.Fast.tw1436760816712103980 : True := trivial
theorem PySem.W.Fast.tw9781983852874975276 : True := trivial
theorem PySem.W.Fast.tw4864273949224324204 : True := trivial
theorem PySem.W.Fast.tw14007031737010925932 : True := trivial
theorem PySem.W.Fast.tw10870658076777996716 : True := trivial
theorem PySem.W.Fast.tw6058010747413946828 : True := trivial
theorem PySem.W.Fast.tw15868785668312491532 : True := trivial
theorem PySem.W.Fast.tw8332035738471005740 : True := trivial
theorem PySem.W.Fast.tw3002209206006012492 : True := trivial
theorem PySem.W.Fast.tw12714755954763359884 : True := trivial
theorem PySem.W.Fast.tw12204191119962159820 : True := trivial
theorem PySem.W.Fast.tw6505404170444434156 : True := trivial
theorem PySem.W.Fast.tw336288090057862892 : True := trivial
theorem PySem.W.Fast.tw1708920665981944588 : True := trivial
theorem PySem.W.Fast.tw18386298376379575084 : True := trivial
theorem PySem.W.Fast.tw14639292061992725324 : True := trivial
theorem PySem.W.Fast.tw6608484882640676716 : True := trivial
theorem PySem.W.Fast.tw14103745843408652172 : True := trivial
theorem PySem.W.Fast.tw9120403733164572620 : True := trivial
theorem PySem.W.Fast.tw17678582884575059948 : True := trivial
theorem PySem.W.Fast.tw4580150578290772972 : True := trivial
theorem PySem.W.Fast.tw6275459037374492813 : True := trivial
theorem PySem.W.Fast.tw12078578252180284589 : True := trivial
theorem PySem.W.Fast.tw9402834438443613389 : True := trivial
theorem PySem.W.Fast.tw4545334583664553197 : True := trivial
theorem PySem.W.Fast.tw108609640953322829 : True := trivial
theorem PySem.W.Fast.tw5036707416875476301 : True := trivial
theorem PySem.W.Fast.tw15761760121958043021 : True := trivial
theorem PySem.W.Fast.tw2370581198191765933 : True := trivial
theorem PySem.W.Fast.tw13071408391220660685 : True := trivial
theorem PySem.W.Fast.tw3614906615943331277 : True := trivial
theorem PySem.W.Fast.tw12511503906890030637 : True := trivial
theorem PySem.W.Fast.tw14279415892205571693 : True := trivial
theorem PySem.W.Fast.tw13827331832800308877 : True := trivial
theorem PySem.W.Fast.tw17021395309956271821 : True := trivial
theorem PySem.W.Fast.tw9612852931847654125 : True := trivial
theorem PySem.W.Fast.tw16159240439250730733 : True := trivial
theorem PySem.W.Fast.tw17190226549985937197 : True := trivial
theorem PySem.W.Fast.tw12099160481391810381 : True := trivial
theorem PySem.W.Fast.tw12116633585578750797 : True := trivial
theorem PySem.W.Fast.tw14844201773862314829 : True := trivial
theorem PySem.W.Fast.tw8353601133295537005 : True := trivial
theorem PySem.W.Fast.tw11481781821065535405 : True := trivial
theorem PySem.W.Fast.tw2099323523013896173 : True := trivial
theorem PySem.W.Fast.tw3602509970854304846 : True := trivial
theorem PySem.W.Fast.tw17845075613855435886 : True := trivial
theorem PySem.W.Fast.tw16510021169153057006 : True := trivial
theorem PySem.W.Fast.tw6730094200896783630 : True := trivial
theorem PySem.W.Fast.tw17525278282238330158 : True := trivial
theorem PySem.W.Fast.tw15066617523592841614 : True := trivial
theorem PySem.W.Fast.tw2489842806016933326 : True := trivial
theorem PySem.W.Fast.tw9712627546583261678 : True := trivial
theorem PySem.W.Fast.tw7841692161293209102 : True := trivial
theorem PySem.W.Fast.tw3770362803701056046 : True := trivial
theorem PySem.W.Fast.tw17217723750129748526 : True := trivial
theorem PySem.W.Fast.tw11302155608918677166 : True := trivial
theorem PySem.W.Fast.tw17076287465644179182 : True := trivial
theorem PySem.W.Fast.tw3584446069225157358 : True := trivial
theorem PySem.W.Fast.tw14078488926641219406 : True := trivial
theorem PySem.W.Fast.tw12275026844874142574 : True := trivial
theorem PySem.W.Fast.tw2384792119899116430 : True := trivial
theorem PySem.W.Fast.tw13098954285326138286 : True := trivial
theorem PySem.W.Fast.tw12833022181788733455 : True := trivial
theorem PySem.W.Fast.tw12661495381036257295 : True := trivial
theorem PySem.W.Fast.tw14513543009875241007 : True := trivial
theorem PySem.W.Fast.tw5836563012829806703 : True := trivial
theorem PySem.W.Fast.tw3384051932232150255 : True := trivial
theorem PySem.W.Fast.tw5780406288319078671 : True := trivial
theorem PySem.W.Fast.tw4731558656732692847 : True := trivial
theorem PySem.W.Fast.tw4071480121564138927 : True := trivial
theorem PySem.W.Fast.tw9107709575919653327 : True := trivial
theorem PySem.W.Fast.tw12301794425783572943 : True := trivial
theorem PySem.W.Fast.tw658118731893375503 : True := trivial
theorem PySem.W.Fast.tw15929766130962039343 : True := trivial
theorem PySem.W.Fast.tw5776554360792267407 : True := trivial
theorem PySem.W.Fast.tw8752337357420816015 : True := trivial
theorem PySem.W.Fast.tw12633243280559322799 : True := trivial
theorem PySem.W.Fast.tw8821594406817752943 : True := trivial
theorem PySem.W.Fast.tw16890799660180741039 : True := trivial
theorem PySem.W.Fast.tw5386033636106543120 : True := trivial
theorem PySem.W.Fast.tw11472542768456013872 : True := trivial
theorem PySem.W.Fast.tw11062641766706578512 : True := trivial
theorem PySem.W.Fast.tw12821239337154709584 : True := trivial
theorem PySem.W.Fast.tw10263348806438011024 : True := trivial
theorem PySem.W.Fast.tw4615224920088745200 : True := trivial
theorem PySem.W.Fast.tw15275418938804948208 : True := trivial
theorem PySem.W.Fast.tw4559098997282389264 : True := trivial
theorem PySem.W.Fast.tw3635419139945595344 : True := trivial
theorem PySem.W.Fast.tw18270807507717589456 : True := trivial
theorem PySem.W.Fast.tw8292888142855631312 : True := trivial
theorem PySem.W.Fast.tw2822253185129369072 : True := trivial
theorem PySem.W.Fast.tw4128929791620812304 : True := trivial
theorem PySem.W.Fast.tw15906862253943297584 : True := trivial
theorem PySem.W.Fast.tw17437967756631131760 : True := trivial
theorem PySem.W.Fast.tw6696458799628807792 : True := trivial
theorem PySem.W.Fast.tw3250494644031090416 : True := trivial
theorem PySem.W.Fast.tw11946939831777458928 : True := trivial
theorem PySem.W.Fast.tw9253145528784924464 : True := trivial
theorem PySem.W.Fast.tw1006420707615036208 : True := trivial
theorem PySem.W.Fast.tw16023393605279728560 : True := trivial
theorem PySem.W.Fast.tw18237759172234792912 : True := trivial
theorem PySem.W.Fast.tw17383932476236457009 : True := trivial
theorem PySem.W.Fast.tw17156150096391562289 : True := trivial
theorem PySem.W.Fast.tw13846751295085546545 : True := trivial
theorem PySem.W.Fast.tw12538148598996975793 : True := trivial
theorem PySem.W.Fast.tw5291779505029583089 : True := trivial
theorem PySem.W.Fast.tw828704159559613681 : True := trivial
theorem PySem.W.Fast.tw7597106329229467921 : True := trivial
theorem PySem.W.Fast.tw18054285978750900561 : True := trivial
theorem PySem.W.Fast.tw297204722464438641 : True := trivial
theorem PySem.W.Fast.tw5241050667995547185 : True := trivial
theorem PySem.W.Fast.tw16831413116376940145 : True := trivial
theorem PySem.W.Fast.tw14030534971923238737 : True := trivial
theorem PySem.W.Fast.tw2116754872628352849 : True := trivial
theorem PySem.W.Fast.tw6437542921516975985 : True := trivial
theorem PySem.W.Fast.tw16527529405873222513 : True := trivial
theorem PySem.W.Fast.tw3265272220869055345 : True := trivial
theorem PySem.W.Fast.tw4746106139488020465 : True := trivial
theorem PySem.W.Fast.tw11766590975091953746 : True := trivial
theorem PySem.W.Fast.tw10866460817853750386 : True := trivial
theorem PySem.W.Fast.tw7842123363210834130 : True := trivial
theorem PySem.W.Fast.tw13195273757985487122 : True := trivial
theorem PySem.W.Fast.tw12237347722681134418 : True := trivial
theorem PySem.W.Fast.tw13341629243991568818 : True := trivial
theorem PySem.W.Fast.tw3800331336600309202 : True := trivial
theorem PySem.W.Fast.tw16099196508677621330 : True := trivial
theorem PySem.W.Fast.tw4601111633301294802 : True := trivial
theorem PySem.W.Fast.tw8115612794119252754 : True := trivial
theorem PySem.W.Fast.tw17702499069330577298 : True := trivial
theorem PySem.W.Fast.tw1158658173044441299 : True := trivial
theorem PySem.W.Fast.tw13759920268957556979 : True := trivial
theorem PySem.W.Fast.tw7284204246561369331 : True := trivial
theorem PySem.W.Fast.tw15793864233866715379 : True := trivial
theorem PySem.W.Fast.tw5559219190259214579 : True := trivial
theorem PySem.W.Fast.tw3188523833317784883 : True := trivial
theorem PySem.W.Fast.tw18163996732968796499 : True := trivial
theorem PySem.W.Fast.tw3958410000775546259 : True := trivial
theorem PySem.W.Fast.tw16816063930017032627 : True := trivial
theorem PySem.W.Fast.tw13070883593004807635 : True := trivial
theorem PySem.W.Fast.tw4079642157463598611 : True := trivial
theorem PySem.W.Fast.tw13587988784119843571 : True := trivial
theorem PySem.W.Fast.tw9873630473313659635 : True := trivial
theorem PySem.W.Fast.tw15597715687980495635 : True := trivial
theorem PySem.W.Fast.tw5709446901921675059 : True := trivial
theorem PySem.W.Fast.tw6738676083430873939 : True := trivial
theorem PySem.W.Fast.tw18048716462021169011 : True := trivial
theorem PySem.W.Fast.tw2562134173208215411 : True := trivial
theorem PySem.W.Fast.tw8438710385996468211 : True := trivial
theorem PySem.W.Fast.tw17320099292807962708 : True := trivial
theorem PySem.W.Fast.tw15055431709460083828 : True := trivial
theorem PySem.W.Fast.tw14301333299586420948 : True := trivial
theorem PySem.W.Fast.tw9412241688876715284 : True := trivial
theorem PySem.W.Fast.tw14043598824320159028 : True := trivial
theorem PySem.W.Fast.tw6900752956434478516 : True := trivial
theorem PySem.W.Fast.tw10304651020713262612 : True := trivial
theorem PySem.W.Fast.tw18412849349555887892 : True := trivial
theorem PySem.W.Fast.tw9485212552123849524 : True := trivial
theorem PySem.W.Fast.tw17865072340260756340 : True := trivial
theorem PySem.W.Fast.tw16937545357519642484 : True := trivial
theorem PySem.W.Fast.tw3785446754400990132 : True := trivial
theorem PySem.W.Fast.tw15262483880757046196 : True := trivial
theorem PySem.W.Fast.tw16047783298617092052 : True := trivial
theorem PySem.W.Fast.tw1877865378833730548 : True := trivial
theorem PySem.W.Fast.tw18407364597729558516 : True := trivial
theorem PySem.W.Fast.tw14957757068962857013 : True := trivial
theorem PySem.W.Fast.tw8846930458741749813 : True := trivial
theorem PySem.W.Fast.tw13863325922715934837 : True := trivial
theorem PySem.W.Fast.tw6501217259543511541 : True := trivial
theorem PySem.W.Fast.tw9839331182964234773 : True := trivial
theorem PySem.W.Fast.tw5005662803704640117 : True := trivial
theorem PySem.W.Fast.tw4341757085865019029 : True := trivial
theorem PySem.W.Fast.tw3343371094856375989 : True := trivial
theorem PySem.W.Fast.tw8780705168174201557 : True := trivial
theorem PySem.W.Fast.tw9323729478424492757 : True := trivial
theorem PySem.W.Fast.tw11623031043412280053 : True := trivial
theorem PySem.W.Fast.tw14850997605702701845 : True := trivial
theorem PySem.W.Fast.tw9605431924178138901 : True := trivial
theorem PySem.W.Fast.tw1216197271459414805 : True := trivial
theorem PySem.W.Fast.tw51268345137305429 : True := trivial
theorem PySem.W.Fast.tw16131416910331401077 : True := trivial
theorem PySem.W.Fast.tw18042665225358679957 : True := trivial
theorem PySem.W.Fast.tw16634814025328083861 : True := trivial
theorem PySem.W.Fast.tw14654582677183394773 : True := trivial
theorem PySem.W.Fast.tw2642557417065696406 : True := trivial
theorem PySem.W.Fast.tw12974364079157418230 : True := trivial
theorem PySem.W.Fast.tw3323070391739900150 : True := trivial
theorem PySem.W.Fast.tw15606898028545470774 : True := trivial
theorem PySem.W.Fast.tw15776493186717681014 : True := trivial
theorem PySem.W.Fast.tw12786233453213783414 : True := trivial
theorem PySem.W.Fast.tw17199998512679641558 : True := trivial
theorem PySem.W.Fast.tw7111367028372450038 : True := trivial
theorem PySem.W.Fast.tw6821541498869034742 : True := trivial
theorem PySem.W.Fast.tw16704340095019944822 : True := trivial
theorem PySem.W.Fast.tw3400111492744969303 : True := trivial
theorem PySem.W.Fast.tw5673435550193044791 : True := trivial
theorem PySem.W.Fast.tw9231956333967519063 : True := trivial
theorem PySem.W.Fast.tw4570259882179244439 : True := trivial
theorem PySem.W.Fast.tw5507161718031443383 : True := trivial
theorem PySem.W.Fast.tw8146671154940338647 : True := trivial
theorem PySem.W.Fast.tw12235549453254681047 : True := trivial
theorem PySem.W.Fast.tw11673417134622537335 : True := trivial
theorem PySem.W.Fast.tw15518482272574794455 : True := trivial
theorem PySem.W.Fast.tw6735890892430928727 : True := trivial
theorem PySem.W.Fast.tw4367502613703140183 : True := trivial
theorem PySem.W.Fast.tw4492100491146928055 : True := trivial
theorem PySem.W.Fast.tw9479761364811907063 : True := trivial
theorem PySem.W.Fast.tw15595604524857526360 : True := trivial
theorem PySem.W.Fast.tw1295102307652763832 : True := trivial
theorem PySem.W.Fast.tw4889904059423813848 : True := trivial
theorem PySem.W.Fast.tw14163423545251172632 : True := trivial
theorem PySem.W.Fast.tw9770389966963275096 : True := trivial
theorem PySem.W.Fast.tw6603158356703646168 : True := trivial
theorem PySem.W.Fast.tw8837080644063935960 : True := trivial
theorem PySem.W.Fast.tw11610484755696665048 : True := trivial
theorem PySem.W.Fast.tw11469178562102820344 : True := trivial
theorem PySem.W.Fast.tw14351387108035087896 : True := trivial
theorem PySem.W.Fast.tw10403544264963499576 : True := trivial
theorem PySem.W.Fast.tw4045012683833135736 : True := trivial
theorem PySem.W.Fast.tw10650435002540324536 : True := trivial
theorem PySem.W.Fast.tw14637135846466069336 : True := trivial
theorem PySem.W.Fast.tw11048119153873325912 : True := trivial
theorem PySem.W.Fast.tw11002228280438970296 : True := trivial
theorem PySem.W.Fast.tw2562611155799393240 : True := trivial
theorem PySem.W.Fast.tw10808878828946356249 : True := trivial
theorem PySem.W.Fast.tw13585268199807548505 : True := trivial
theorem PySem.W.Fast.tw287264600676422777 : True := trivial
theorem PySem.W.Fast.tw627659393739550905 : True := trivial
theorem PySem.W.Fast.tw10832332017472086233 : True := trivial
theorem PySem.W.Fast.tw5214136406835938521 : True := trivial
theorem PySem.W.Fast.tw7268236974913717529 : True := trivial
theorem PySem.W.Fast.tw15674939022456890713 : True := trivial
theorem PySem.W.Fast.tw14668226037854406041 : True := trivial
theorem PySem.W.Fast.tw593577040119414169 : True := trivial
theorem PySem.W.Fast.tw8701166520980114873 : True := trivial
theorem PySem.W.Fast.tw10703437196946970073 : True := trivial
theorem PySem.W.Fast.tw3060479710194470649 : True := trivial
theorem PySem.W.Fast.tw10807811111693706137 : True := trivial
theorem PySem.W.Fast.tw11753794278798767033 : True := trivial
theorem PySem.W.Fast.tw12373951385277379577 : True := trivial
theorem PySem.W.Fast.tw11424644323970742265 : True := trivial
theorem PySem.W.Fast.tw9617396497993036922 : True := trivial
theorem PySem.W.Fast.tw4404539102165373146 : True := trivial
theorem PySem.W.Fast.tw8742798954238887290 : True := trivial
theorem PySem.W.Fast.tw4206427381805845914 : True := trivial
theorem PySem.W.Fast.tw16343581777500487066 : True := trivial
theorem PySem.W.Fast.tw6564237674114963866 : True := trivial
theorem PySem.W.Fast.tw1747144483099489722 : True := trivial
theorem PySem.W.Fast.tw6101242740057717178 : True := trivial
theorem PySem.W.Fast.tw2207256248172559866 : True := trivial
theorem PySem.W.Fast.tw7151788200416959002 : True := trivial
theorem PySem.W.Fast.tw5071091474520101530 : True := trivial
theorem PySem.W.Fast.tw206433110193318618 : True := trivial
theorem PySem.W.Fast.tw6638905211373984506 : True := trivial
theorem PySem.W.Fast.tw5352528044579533594 : True := trivial
theorem PySem.W.Fast.tw8512644830288122682 : True := trivial
theorem PySem.W.Fast.tw3072184536820809562 : True := trivial
theorem PySem.W.Fast.tw301124005196612474 : True := trivial
theorem PySem.W.Fast.tw4995381405201108890 : True := trivial
theorem PySem.W.Fast.tw18352495341263487994 : True := trivial
theorem PySem.W.Fast.tw16681971368385358842 : True := trivial
theorem PySem.W.Fast.tw9085058813425397754 : True := trivial
theorem PySem.W.Fast.tw1930042129808884827 : True := trivial
theorem PySem.W.Fast.tw8033453213005980859 : True := trivial
theorem PySem.W.Fast.tw4834351465059929371 : True := trivial
theorem PySem.W.Fast.tw11611335923028735291 : True := trivial
theorem PySem.W.Fast.tw179615772907264347 : True := trivial
theorem PySem.W.Fast.tw11412482231367997787 : True := trivial
theorem PySem.W.Fast.tw1235690811684671867 : True := trivial
theorem PySem.W.Fast.tw5692826304919900571 : True := trivial
theorem PySem.W.Fast.tw3857335843681507803 : True := trivial
theorem PySem.W.Fast.tw560893395428330971 : True := trivial
theorem PySem.W.Fast.tw9047125224059698651 : True := trivial
theorem PySem.W.Fast.tw17500877491010209435 : True := trivial
theorem PySem.W.Fast.tw191326644051137211 : True := trivial
theorem PySem.W.Fast.tw12287174371029443323 : True := trivial
theorem PySem.W.Fast.tw11830682537971445531 : True := trivial
theorem PySem.W.Fast.tw5985114969821526939 : True := trivial
theorem PySem.W.Fast.tw16026162761688566012 : True := trivial
theorem PySem.W.Fast.tw5457588271151420 : True := trivial
theorem PySem.W.Fast.tw1128180335862964636 : True := trivial
theorem PySem.W.Fast.tw7223218838356720092 : True := trivial
theorem PySem.W.Fast.tw12261399328875417212 : True := trivial
theorem PySem.W.Fast.tw17059552216281629308 : True := trivial
theorem PySem.W.Fast.tw5520079706323744412 : True := trivial
theorem PySem.W.Fast.tw9453040512876571292 : True := trivial
theorem PySem.W.Fast.tw4045131066302671548 : True := trivial
theorem PySem.W.Fast.tw1054489381063742172 : True := trivial
theorem PySem.W.Fast.tw8029524555902440284 : True := trivial
theorem PySem.W.Fast.tw7270134249381690268 : True := trivial
theorem PySem.W.Fast.tw16521493437639150653 : True := trivial
theorem PySem.W.Fast.tw11134914717106360413 : True := trivial
theorem PySem.W.Fast.tw13102808291584746717 : True := trivial
theorem PySem.W.Fast.tw7043754579928560861 : True := trivial
theorem PySem.W.Fast.tw2510510065230475485 : True := trivial
theorem PySem.W.Fast.tw17183899709864942845 : True := trivial
theorem PySem.W.Fast.tw9908172044875511037 : True := trivial
theorem PySem.W.Fast.tw12085943681451472349 : True := trivial
theorem PySem.W.Fast.tw14095854786822748637 : True := trivial
theorem PySem.W.Fast.tw16193304502365295101 : True := trivial
theorem PySem.W.Fast.tw8779990023257982525 : True := trivial
theorem PySem.W.Fast.tw17437454654931875421 : True := trivial
theorem PySem.W.Fast.tw14964876911777970877 : True := trivial
theorem PySem.W.Fast.tw13164071072864121693 : True := trivial
theorem PySem.W.Fast.tw7355266694960729981 : True := trivial
theorem PySem.W.Fast.tw4391593133397048189 : True := trivial
theorem PySem.W.Fast.tw577713679347518654 : True := trivial
theorem PySem.W.Fast.tw6149814741370568926 : True := trivial
theorem PySem.W.Fast.tw13498562868511924446 : True := trivial
theorem PySem.W.Fast.tw9878201851574007038 : True := trivial
theorem PySem.W.Fast.tw5243611451647739166 : True := trivial
theorem PySem.W.Fast.tw8441462189486819646 : True := trivial
theorem PySem.W.Fast.tw14274840923383473598 : True := trivial
theorem PySem.W.Fast.tw4367135931311562302 : True := trivial
theorem PySem.W.Fast.tw5866430566347939390 : True := trivial
theorem PySem.W.Fast.tw11893875761331584574 : True := trivial
theorem PySem.W.Fast.tw2920375301386355262 : True := trivial
theorem PySem.W.Fast.tw689544654433846942 : True := trivial
theorem PySem.W.Fast.tw16106179062376639230 : True := trivial
theorem PySem.W.Fast.tw18319201786616694590 : True := trivial
theorem PySem.W.Fast.tw13623619454094551902 : True := trivial
theorem PySem.W.Fast.tw17346614778717660062 : True := trivial
theorem PySem.W.Fast.tw8320035253633904542 : True := trivial
theorem PySem.W.Fast.tw4467042620032576607 : True := trivial
theorem PySem.W.Fast.tw2192914687622353119 : True := trivial
theorem PySem.W.Fast.tw6838883334516507903 : True := trivial
theorem PySem.W.Fast.tw5542913588868941055 : True := trivial
theorem PySem.W.Fast.tw14284101393608517887 : True := trivial
theorem PySem.W.Fast.tw3317394938536410367 : True := trivial
theorem PySem.W.Fast.tw8521430320898639167 : True := trivial
theorem PySem.W.Fast.tw11890831381545111903 : True := trivial
theorem PySem.W.Fast.tw17865969805846029695 : True := trivial
theorem PySem.W.Fast.tw14424657401979273695 : True := trivial
theorem PySem.W.Fast.tw10391550711326825951 : True := trivial
theorem PySem.W.Fast.tw3712320451474420223 : True := trivial
theorem PySem.W.Fast.tw14536303026827242079 : True := trivial
theorem PySem.W.Fast.tw13079784608943715935 : True := trivial
theorem PySem.W.Fast.tw14890785210047653471 : True := trivial
theorem PySem.W.Fast.tw3094745500239277727 : True := trivial
theorem PySem.W.Fast.tw14361903441398673087 : True := trivial
theorem PySem.W.Fast.tw11354470624971917023 : True := trivial
theorem PySem.W.Fast.tw2142210422008540927 : True := trivial
theorem PySem.W.Fast.tw14704516229640137471 : True := trivial
theorem PySem.W.Fast.tw16474636347300974367 : True := trivial
theorem PySem.W.Fast.tw17138186765131706143 : True := trivial
theorem PySem.W.Fast.tw8011783241067182943 : True := trivial
theorem PySem.W.Fast.tw6860078255310255007 : True := trivial
theorem PySem.W.Fast.tw15847781841009597375 : True := trivial
theorem PySem.W.Fast.tw15529575722750245823 : True := trivial
theorem PySem.W.Fast.tw16946176490257320927 : True := trivial
theorem PySem.W.Fast.tw16520182198830785535 : True := trivial
open PySem PySem.W PyProof.Rows in
set_option maxRecDepth 100000 in
set_option maxHeartbeats 0 in
open_top top_k47 for PySem.Challenge.rw_nearcurves_k47_whole_one_degree_less
set_option maxRecDepth 100000
set_option maxHeartbeats 4000000
namespace Vf
open PySem PySem.Spec PyProof.Rows L2
/-- a key as data -/
def kD : Key → PyData
  | .inl i => .int i
  | .inr x => .str x
mutual
/-- the value v, read in H, is the data d (dicts too) -/
inductive Dt (K : PySem.W.Frag) (H : Hp) : V → PyData → Prop
  | non : Dt K H .non .none
  | bl (b : Bool) : Dt K H (.bl b) (.bool b)
  | int (i : Int) : Dt K H (.int i) (.int i)
  | str (x : Str) : Dt K H (.str x) (.str x)
  | lst {a : Addr} {vs : List V} {ds : List PyData} : SqL K H a vs → Dts K H vs ds → Dt K H (.ref a) (.list ds)
  | tup {a : Addr} {vs : List V} {ds : List PyData} : SqT K H a vs → Dts K H vs ds → Dt K H (.ref a) (.tuple ds)
  | dct {a : Addr} {kvs : List (Key × V)} {ds : List PyData} : H a = some (.dK kvs) → Dts K H (kvs.map (·.2)) ds → Dt K H (.ref a) (.dict ((kvs.map fun p => kD p.1).zip ds))
inductive Dts (K : PySem.W.Frag) (H : Hp) : List V → List PyData → Prop
  | nil : Dts K H [] []
  | cons {v : V} {vs : List V} {d : PyData} {ds : List PyData} : Dt K H v d → Dts K H vs ds → Dts K H (v :: vs) (d :: ds)
end
theorem Dts.len {K : PySem.W.Frag} {H : Hp} : ∀ {vs : List V} {ds : List PyData}, Dts K H vs ds → vs.length = ds.length
  | _, _, .nil => rfl
  | _, _, .cons _ t => congrArg (· + 1) t.len
theorem Dts.at {K : PySem.W.Frag} {H : Hp} : ∀ {vs : List V} {ds : List PyData} {i : Nat} {v : V}, Dts K H vs ds → vs[i]? = some v → ∃ d, ds[i]? = some d ∧ Dt K H v d
  | _, _, _, _, .nil, e => by simp at e
  | _, _, 0, _, .cons h _, e => by simp at e; subst e; exact ⟨_, rfl, h⟩
  | _, _, i + 1, v, .cons _ t, e => by
    obtain ⟨d, h1, h2⟩ := t.at (i := i) (v := v) (by simpa using e)
    exact ⟨d, by simpa using h1, h2⟩
theorem Dts.app {K : PySem.W.Frag} {H : Hp} : ∀ {vs ws : List V} {ds es : List PyData}, Dts K H vs ds → Dts K H ws es → Dts K H (vs ++ ws) (ds ++ es)
  | _, _, _, _, .nil, h => h
  | _, _, _, _, .cons a t, h => .cons a (t.app h)
theorem Dts.take {K : PySem.W.Frag} {H : Hp} : ∀ {vs : List V} {ds : List PyData} (n : Nat), Dts K H vs ds → Dts K H (vs.take n) (ds.take n)
  | _, _, 0, _ => .nil
  | _, _, _ + 1, .nil => .nil
  | _, _, n + 1, .cons a t => .cons a (t.take n)
/-- all that is tracked in H stands in H' -/
theorem same_sqL {K : PySem.W.Frag} {H H' : Hp} {a : Addr} {xs : List V} (e : Same H H') (h : SqL K H a xs) : SqL K H' a xs := e.seq h
theorem same_sqT {K : PySem.W.Frag} {H H' : Hp} {a : Addr} {xs : List V} (e : Same H H') (h : SqT K H a xs) : SqT K H' a xs := by
  rcases h with (h | ⟨o, h⟩) | h
  · exact Or.inl (Or.inl (e a _ h))
  · exact Or.inl (Or.inr ⟨o, e a _ h⟩)
  · exact Or.inr h
mutual
theorem Dt.mono {K : PySem.W.Frag} {H H' : Hp} (e : Same H H') : ∀ {v : V} {d : PyData}, Dt K H v d → Dt K H' v d
  | _, _, .non => .non
  | _, _, .bl b => .bl b
  | _, _, .int i => .int i
  | _, _, .str x => .str x
  | _, _, .lst h1 h2 => .lst (same_sqL e h1) (Dts.mono e h2)
  | _, _, .tup h1 h2 => .tup (same_sqT e h1) (Dts.mono e h2)
  | _, _, .dct h1 h2 => .dct (e _ _ h1) (Dts.mono e h2)
theorem Dts.mono {K : PySem.W.Frag} {H H' : Hp} (e : Same H H') : ∀ {vs : List V} {ds : List PyData}, Dts K H vs ds → Dts K H' vs ds
  | _, _, .nil => .nil
  | _, _, .cons h1 h2 => .cons (Dt.mono e h1) (Dts.mono e h2)
end
/-- the dict of modules stands in the base -/
def M1 (b : Heap) : Prop := ∃ o es ep, b.get? sysModules = some o ∧ o.data = .dict es ep
theorem key_reads {h : Heap} {P : Program} {w : World} : ∀ {es : List DictEntry} {vs : List (Key × Value)} {ps : List (Key × V)}, PySem.Pairs (mixKind P w) es vs → KV ps vs →
    ReadsAll h (es.map (·.key)) (ps.map fun p => kD p.1) [] ∧ Vals (ps.map (·.2)) (es.map (·.val))
  | _, _, _, .nil, .nil => ⟨.nil, .nil⟩
  | _, _, _, .cons k1 k2 t, .cons r1 r2 => by
    obtain ⟨g1, g2⟩ := key_reads (h := h) t r2
    obtain ⟨e1, e2⟩ := r1
    refine ⟨?_, .cons (by have z := e2; rw [← k2] at z; exact z) g2⟩
    rw [← e1] at k1
    rename_i e kv es' kvs' p ps'
    have k3 : keyIs p.1 e.key = true := k1
    rcases keyIs_shape k3 with ⟨i, t, a1, a2⟩ | ⟨x, t, a1, a2⟩
    · have z : Reads h e.key (kD p.1) [] := by rw [a1, a2]; exact .int i t
      exact .cons (as := []) (bs := []) z g1
    · have z : Reads h e.key (kD p.1) [] := by rw [a1, a2]; exact .str x t
      exact .cons (as := []) (bs := []) z g1
theorem zip_fst {α β : Type} : ∀ {l : List α} {r : List β}, l.length = r.length → (l.zip r).map (·.1) = l
  | [], _, _ => by simp
  | a :: l, [], h => by simp at h
  | a :: l, b :: r, h => by
    rw [List.zip_cons_cons, List.map_cons, zip_fst (by simpa using h)]
theorem zip_snd {α β : Type} : ∀ {l : List α} {r : List β}, l.length = r.length → (l.zip r).map (·.2) = r
  | [], [], _ => rfl
  | [], b :: r, h => by simp at h
  | a :: l, [], h => by simp at h
  | a :: l, b :: r, h => by
    rw [List.zip_cons_cons, List.map_cons, zip_snd (by simpa using h)]
section
variable {X : Cx} {pins : List (Addr × Obj)} {σ : L2.St} {H : Hp} {s : Shared}
theorem not_sys (I : Inv X pins σ H s) (m : M1 X.base) {a : Addr} {o : Obj} {vs : Array Value} {n : Nat} (e : s.heap.get? a = some o) (d : o.data = .seq vs n) : sysModules ≠ a := fun z => by
  obtain ⟨o1, es, ep, e1, e2⟩ := m
  have q := I.bk _ _ e1
  rw [z, e] at q
  cases q
  rw [d] at e2
  cases e2
mutual
theorem Dt.reads (I : Inv X pins σ H s) (m : M1 X.base) : ∀ {v : V} {d : PyData} {u : Value}, Dt X.K H v d → RelV v u → ∃ as, Reads s.heap u d as ∧ sysModules ∉ as
  | _, _, u, .non, r => by
    obtain rfl : u = Value.none := r
    exact ⟨[], .none, by simp⟩
  | _, _, u, .bl b, r => by
    obtain rfl : u = Value.bool b := r
    exact ⟨[], .bool b, by simp⟩
  | _, _, u, .int i, r => by
    obtain ⟨t, rfl⟩ := r
    exact ⟨[], .int i t, by simp⟩
  | _, _, u, .str x, r => by
    obtain ⟨t, rfl⟩ := r
    exact ⟨[], .str x t, by simp⟩
  | _, _, u, .lst (a := a) h1 h2, r => by
    obtain rfl : u = Value.ref a := r
    obtain ⟨its, rv, ⟨o, n, e1, e2, e3, e4⟩, hz⟩ := I.list h1
    obtain ⟨as, ra, na⟩ := Dts.reads I m h2 rv
    refine ⟨_, .list e1 e2 e4 (by simpa using ra), fun z => ?_⟩
    rcases List.mem_cons.mp z with z | z
    · exact not_sys I m e1 e4 z
    · exact na z
  | _, _, u, .tup (a := a) h1 h2, r => by
    obtain rfl : u = Value.ref a := r
    obtain ⟨its, rv, ⟨o, e1, e2, n, e4⟩, hz⟩ := I.tuple h1
    obtain ⟨as, ra, na⟩ := Dts.reads I m h2 rv
    exact ⟨_, .tuple e1 e2 e4 (by simpa using ra), na⟩
  | _, _, u, .dct (a := a) (kvs := ps) (ds := ds) h1 h2, r => by
    obtain rfl : u = Value.ref a := r
    obtain ⟨hz, hs, vs, kv, o, es, ep, e1, ex, e2, hk, hp, hn⟩ := dk_of I.hok h1
    obtain ⟨g1, g2⟩ := key_reads (h := s.heap) hp kv
    obtain ⟨bs, rb, nb⟩ := Dts.reads I m h2 g2
    have hl : (ps.map fun p => kD p.1).length = ds.length := by
      have z := h2.len
      rw [List.length_map] at z ⊢
      exact z
    refine ⟨a :: [] ++ bs, .dict e1 ex.1 e2 (by rw [zip_fst hl]; exact g1) (by rw [zip_snd hl]; exact rb), fun z => ?_⟩
    rcases List.mem_cons.mp z with z | z
    · rw [z] at hs
      simp at hs
    · exact nb z
theorem Dts.reads (I : Inv X pins σ H s) (m : M1 X.base) : ∀ {vs : List V} {ds : List PyData} {us : List Value}, Dts X.K H vs ds → Vals vs us → ∃ as, ReadsAll s.heap us ds as ∧ sysModules ∉ as
  | _, _, _, .nil, .nil => ⟨[], .nil, by simp⟩
  | _, _, _, .cons h1 h2, .cons r1 r2 => by
    obtain ⟨as, q1, n1⟩ := Dt.reads I m h1 r1
    obtain ⟨bs, q2, n2⟩ := Dts.reads I m h2 r2
    refine ⟨as ++ bs, .cons q1 q2, fun z => ?_⟩
    rcases List.mem_append.mp z with z | z
    · exact n1 z
    · exact n2 z
end
end
/-- the sizes of the parts of a text of data -/
def small : PyData → Prop := fun d => d.showable = true ∧ d.depth ≤ 64 ∧ d.shown.length ≤ sizeLine
structure FnG (P : Program) (w : World) (K : PySem.W.Frag) (mg : Str → Option Value) (base : Heap) (C : CXT) (k : Nat) (f : Addr) (fd : FuncData) (ps : List Str) (sp : Sp) : Prop where
  arity : ∀ vs H Q E, sp vs H Q E → vs.length = ps.length
  go : ∀ {A : Around} {out : List Env} {s : Shared} {H : Hp} {args : Args} {us : List Value} {vs : List V} {Q : VK} {E : XK}, A.guards = some [] → Room k A → Env0 P w K mg base A out s H → BindsTo s fd args (ps.zip us) →
    Vals vs us → sp vs H Q E → codeAny (model P w) A (.call (.ref f) args) (CR C out P w H s Q E) s
/-- what is tracked where the law is called: the script, the tables of code objects -/
structure Fit (P : Program) (w : World) (K : PySem.W.Frag) (h : Heap) (cs : List (Addr × Addr)) (a : Addr) (ns : List Int) (H : Hp) : Prop where
  tabs : ∀ p ∈ cs, H p.2 = some (.tbl #[])
  scr : SqL K H a (ns.map V.int)
  held : HOk P w H h
  only : ∀ b u, H b = some u → (b = a ∧ K.lookup a = none ∧ ∃ o xs, u = .frz o (.lst xs)) ∨ ((∃ p ∈ cs, b = p.2) ∧ u = .tbl #[])
def isTab (cs : List (Addr × Addr)) (b : Addr) : Bool := cs.any fun p => p.2 == b
theorem isTab_mem {cs : List (Addr × Addr)} {b : Addr} (h : isTab cs b = true) : ∃ p ∈ cs, b = p.2 := by
  obtain ⟨p, hp, e⟩ := List.any_eq_true.mp h
  exact ⟨p, hp, (beq_iff_eq.mp e).symm⟩
theorem isTab_of {cs : List (Addr × Addr)} {p : Addr × Addr} (h : p ∈ cs) : isTab cs p.2 = true := List.any_eq_true.mpr ⟨p, h, beq_self_eq_true _⟩
/-- the heap as it is told at the entry -/
def entryH (t : Bool) (o : Obj) (ns : List Int) (cs : List (Addr × Addr)) (a : Addr) : Hp := fun b =>
  if isTab cs b = true then some (.tbl #[]) else if t = true ∧ b = a then some (.frz o (.lst (ns.map V.int))) else none
theorem fit_ex {P : Program} {w : World} {K : PySem.W.Frag} {h : Heap} {cs : List (Addr × Addr)} {a : Addr} {vs : List Value} {ns : List Int} (hK : K.In h) (hT : ∀ p ∈ cs, h.get? p.2 = some { cls := .none, data := .fields #[] })
    (ha : h.get? a = some { cls := .type "list", data := .seq vs.toArray }) (hi : IntsAre vs ns) (hl : ns.length ≤ sizeLine) : ∃ H, Fit P w K h cs a ns H := by
  have rv := vals_ints hi
  have nt : isTab cs a = false := by
    cases e : isTab cs a with
    | false => rfl
    | true =>
      obtain ⟨p, hp, e2⟩ := isTab_mem e
      have q := hT p hp
      rw [← e2, ha] at q
      cases q
  have hl2 : (ns.map V.int).length ≤ sizeLine := by rw [List.length_map]; exact hl
  cases hk : K.lookup a with
  | some o =>
    have q := hK a o hk
    rw [ha] at q
    have q2 := Option.some.inj q
    refine ⟨entryH false { cls := .type "list", data := .seq vs.toArray } ns cs a, fun p hp => if_pos (isTab_of hp), ?_, fun b u e => ?_, fun b u e => ?_⟩
    · refine Or.inr ⟨o, vs.toArray, 0, hk, by rw [← q2], by rw [← q2], by rw [← q2], ?_, by simpa using rv⟩
      rw [List.size_toArray, hi.length]
      exact hl
    all_goals
      unfold entryH at e
      by_cases t : isTab cs b = true
      · rw [if_pos t] at e
        obtain ⟨p, hp, e2⟩ := isTab_mem t
        cases e
        first
          | (rw [e2]; exact hT p hp)
          | exact Or.inr ⟨⟨p, hp, e2⟩, rfl⟩
      · rw [if_neg t, if_neg (fun z => Bool.false_ne_true z.1)] at e
        cases e
  | none =>
    refine ⟨entryH true { cls := .type "list", data := .seq vs.toArray } ns cs a, fun p hp => if_pos (isTab_of hp), ?_, fun b u e => ?_, fun b u e => ?_⟩
    · refine Or.inl (Or.inr ⟨{ cls := .type "list", data := .seq vs.toArray }, ?_⟩)
      unfold entryH
      rw [if_neg (by rw [nt]; decide), if_pos ⟨rfl, rfl⟩]
    all_goals
      unfold entryH at e
      by_cases t : isTab cs b = true
      · rw [if_pos t] at e
        obtain ⟨p, hp, e2⟩ := isTab_mem t
        cases e
        first
          | (rw [e2]; exact hT p hp)
          | exact Or.inr ⟨⟨p, hp, e2⟩, rfl⟩
      · rw [if_neg t] at e
        by_cases ba : b = a
        · rw [if_pos ⟨rfl, ba⟩] at e
          cases e
          first
            | (rw [ba]; exact ⟨ha, hl2, vs, _, rv, ha⟩)
            | exact Or.inl ⟨ba, hk, _, _, rfl⟩
        · rw [if_neg (fun z => ba z.2)] at e
          cases e
/-- the law's call, from its promise where no guard stands -/
theorem law_enter {P : Program} {w : World} {K : PySem.W.Frag} {mg mb : Str → Option Value} {C : CXT} {k : Nat} {fa a : Addr} {cs : List (Addr × Addr)} {fd : FuncData} {x : Str} {sp : Sp} {s1 : Shared} {vs : List Value} {ns : List Int}
    (hK : K.In s1.heap) (hG : s1.heap.Ns mainGlobals mg) (hB : s1.heap.Ns builtinsNs mb) (hBB : ∀ x : Str, x ≠ "__name__" → mb x = bootBuiltins x) (hL : s1.heap.NoLimit) (hg : s1.gens = #[])
    (hT : ∀ p ∈ cs, s1.heap.get? p.2 = some { cls := .none, data := .fields #[] }) (nT : ∀ p ∈ cs, K.lookup p.2 = none) (hC : ∀ p ∈ cs, PySem.W.CodeHd s1.heap p.1 p.2)
    (hM : ∃ (bm : Addr) (ob : Obj), mg "__builtins__" = some (.ref bm) ∧ bm ≠ builtinsNs ∧ s1.heap.get? bm = some ob ∧ ob.cls = .type "module" ∧ ob.dict = some builtinsNs ∧ ob.data = .plain)
    (hs : M1 s1.heap) (ha : s1.heap.get? a = some { cls := .type "list", data := .seq vs.toArray }) (hi : IntsAre vs ns) (hl : ns.length ≤ sizeLine) (hr : Room k callerA)
    (F : ∀ b : Heap, K.In b → b.Ns mainGlobals mg → M1 b → (∀ p ∈ cs, LamX.TabB b mg p.1 p.2) → FnG P w K mg b C k fa fd [x] sp) (bind : ∀ (s : Shared) (u : Value), BindsTo s fd ⟨[u], []⟩ [(x, u)])
    (hsp : ∀ H : Hp, (∀ p ∈ cs, H p.2 = some (.tbl #[])) → SqL K H a (ns.map V.int) → sp [.ref a] H (fun v _ => v = .bl true) E0)
    (hE : ∀ H e s', C [] H s1 E0 e s' → False) :
    codeAny (model P w) callerA (.call (.ref fa) ⟨[.ref a], []⟩) (fun r s' => r = .ok (.ret (.bool true)) ∧ OldK s1.heap s'.heap ∧ s'.os = s1.os ∧ AllBare s'.gens) s1 := by
  obtain ⟨H, ft⟩ := fit_ex (P := P) (w := w) hK hT ha hi hl
  -- an object of neither kind is not tracked
  have un : ∀ {b : Addr} {o : Obj}, s1.heap.get? b = some o → (∀ us n, o.data ≠ .seq us n) → o.data ≠ .fields #[] → H b = none := by
    intro b o e n1 n2
    cases q : H b with
    | none => rfl
    | some u =>
      exfalso
      rcases ft.only b u q with ⟨z, _⟩ | ⟨⟨p, hp, z⟩, _⟩
      · rw [z, ha] at e
        cases e
        exact n1 _ _ rfl
      · rw [z, hT p hp] at e
        cases e
        exact n2 rfl
  have inB : ∀ {b : Addr} {o : Obj}, s1.heap.get? b = some o → (∀ us n, o.data ≠ .seq us n) → o.data ≠ .fields #[] → (hidT s1.heap H).get? b = some o := fun e n1 n2 => hidT_get e (un e n1 n2)
  have nsB : ∀ {b : Addr} {m : Str → Option Value}, s1.heap.Ns b m → (hidT s1.heap H).Ns b m := by
    intro b m ⟨o, es, ep, e, d, r⟩
    refine ⟨o, es, ep, inB e (fun us n z => ?_) (fun z => ?_), d, r⟩ <;> rw [d] at z <;> cases z
  have kB : K.In (hidT s1.heap H) := fun b o e => by
    refine hidT_get (hK b o e) ?_
    cases q : H b with
    | none => rfl
    | some u =>
      exfalso
      rcases ft.only b u q with ⟨z, n, _⟩ | ⟨⟨p, hp, z⟩, _⟩
      · rw [z, n] at e
        cases e
      · rw [z, nT p hp] at e
        cases e
  have mB : M1 (hidT s1.heap H) := by
    obtain ⟨o, es, ep, e, d⟩ := hs
    refine ⟨o, es, ep, inB e (fun us n z => ?_) (fun z => ?_), d⟩ <;> rw [d] at z <;> cases z
  have tB : ∀ p ∈ cs, LamX.TabB (hidT s1.heap H) mg p.1 p.2 := fun p hp => by
    obtain ⟨o, us, file, tf, flags, tg, inF, text, tt, c1, c2, c3, c4, c5, c6, c7, c8, c9, c10⟩ := hC p hp
    obtain ⟨bm, ob, d1, d2, d3, d4, d5, d6⟩ := hM
    have tp := hT p hp
    refine ⟨⟨o, us, file, tf, flags, tg, inF, text, tt, inB c1 (fun us n z => ?_) (fun z => ?_), c2, c3, c4, c5, c6, c7, c8, c9, c10⟩, ⟨bm, ob, d1, d2, fun z => ?_, fun z => ?_, inB d3 (fun us n z => ?_) (fun z => ?_), d4, d5, d6⟩, fun z => ?_⟩
    · rw [c3] at z
      cases z
    · rw [c3] at z
      cases z
      simp at c4
    · obtain ⟨o2, es, ep, e, d, _⟩ := hG
      rw [z, e] at d3
      cases d3
      rw [d] at d6
      cases d6
    · rw [z, tp] at d3
      cases d3
      cases d6
    · rw [d6] at z
      cases z
    · rw [d6] at z
      cases z
    · obtain ⟨o2, es, ep, e, d, _⟩ := hG
      rw [z, tp] at e
      cases e
      cases d
  have e0 : Env0 P w K mg (hidT s1.heap H) callerA [] s1 H := {
    frames := rfl
    mod := ⟨kB, nsB hG, ⟨mb, nsB hB, hBB⟩, let ⟨mc, z1, z2⟩ := hL; ⟨mc, nsB z1, z2⟩⟩
    bs := fun b o e => of_hidT e
    bsz := Nat.le_of_eq (hidT_size _ _)
    funs := trivial
    frf := fun b hb => nomatch (show b ∈ ([] : List Addr) from hb)
    hok := ft.held
    bare := .of_eq hg }
  refine codeAny_mono ((F _ kB (nsB hG) mB tB).go (us := [.ref a]) (vs := [.ref a]) rfl hr e0 (bind s1 _) (.cons rfl .nil) (hsp H ft.tabs ft.scr)) fun r s' h => ?_
  match r, h with
  | .error e, h => exact (hE H e s' h).elim
  | .ok .next, h => exact h.elim
  | .ok .brk, h => exact h.elim
  | .ok .cont, h => exact h.elim
  | .ok (.ret u), ⟨v, H', os, bare, U, held', rv, ev⟩ =>
    have ev2 : v = .bl true := ev
    rw [ev2] at rv
    obtain rfl : u = Value.bool true := rv
    have tab' : ∀ p ∈ cs, ∃ more : Array Value, s'.heap.get? p.2 = some { cls := .none, data := .fields more } := fun p hp => by
      obtain ⟨more, z⟩ := U.tbls p.2 #[] (ft.tabs p hp)
      exact ⟨_, held' _ _ z⟩
    have old : ∀ b o, isTab cs b = false → s1.heap.get? b = some o → s'.heap.get? b = some o := fun b o nb e => by
      cases q : H b with
      | none => exact U.keep b o e q (fun z => nomatch (show b ∈ ([] : List Addr) from z)) (fun z => nomatch z)
      | some y =>
        rcases ft.only b y q with ⟨_, _, ob, xs, z⟩ | ⟨⟨p, hp, z⟩, _⟩
        · rw [z] at q
          have g1 := (ft.held b _ q).1
          have g2 := (held' b _ (U.frzs b ob _ q)).1
          rw [e] at g1
          cases g1
          exact g2
        · rw [z, isTab_of hp] at nb
          cases nb
    refine ⟨rfl, ⟨fun b o e => ?_, fun b o e => ?_⟩, os, bare⟩
    · cases nb : isTab cs b with
      | false => exact .inl (old b o nb e)
      | true =>
        obtain ⟨p, hp, z⟩ := isTab_mem nb
        obtain ⟨more, hm⟩ := tab' p hp
        rw [z] at e ⊢
        rw [hT p hp] at e
        cases e
        exact .inr (.inl ⟨((hC p hp).tab (hT p hp)).isCodeTable, rfl, #[], more, rfl, by rw [Array.empty_append]; exact hm⟩)
    · cases nb : isTab cs b with
      | false => exact ⟨o, old b o nb e⟩
      | true =>
        obtain ⟨p, hp, z⟩ := isTab_mem nb
        obtain ⟨more, hm⟩ := tab' p hp
        rw [z]
        exact ⟨_, hm⟩
end Vf
set_option maxRecDepth 100000
set_option maxHeartbeats 4000000
namespace Vf
open PySem PySem.Spec PyProof.Rows L2
section
open PySem.W PySem.Calls
variable {prog : Program} {w : World} {K : Frag} {x D : Addr} {ox : Obj} {od : Option Obj}
/-- what isinstance asks of the class of an exception -/
structure XC (K : Frag) (D : Addr) : Prop where
  ga : findIn K (.ref D) "__getattribute__" = some (some (.builtin "BaseException.__getattribute__"))
  gg : findIn K (.ref D) "__getattr__" = some none
  sb : subIn K (.ref D) (.type "BaseException") = some true
  hd : hasDictIn K D = true
  ca : findIn K (.ref D) "__class__" = some (some (.builtin "object.__class__"))
  cn : specialIn K (.builtin "object.__class__") "__get__" = some (some (.builtin "getset_descriptor.__get__"))
  ct : takesIn K (.builtin "object.__class__") = some true
  mo : mroIn K D (.type "object") = some true
theorem XC.cls {K : Frag} {D : Addr} (T : XC K D) : (clsIn K D).isSome = true := by
  obtain ⟨cd, e, _⟩ := any_some T.hd
  simp only [e, Option.isSome_some]
end
/-- an exception of the class at C stands at a as a value; what it keeps -/
def XAt (H : Hp) (a C : Addr) : Option (List (Str × V)) → Prop
  | none => H a = some (ExO (.ref C) a)
  | some fs => ∃ d, H a = some (exo a C (some d)) ∧ H d = some (exd d fs)
theorem XAt.same {H H' : Hp} {a C : Addr} {o : Option (List (Str × V))} (s : Same H H') (h : XAt H a C o) : XAt H' a C o := by
  cases o with
  | none => exact s _ _ h
  | some fs =>
    obtain ⟨d, h1, h2⟩ := h
    exact ⟨d, s _ _ h1, s _ _ h2⟩
end Vf
set_option maxRecDepth 100000
set_option maxHeartbeats 4000000
namespace Vf
open PySem PySem.Spec PyProof.Rows L2
/-- good data: shallow, shown in few signs -/
structure Gd (d : PyData) : Prop where
  sh : d.showable = true
  dp : d.depth ≤ 10
  ln : d.shown.length ≤ 100000
theorem log_small {z : Int} (h : z.natAbs < 2 ^ 1920) : z.natAbs.log2 < 1920 := by
  by_cases e : z.natAbs = 0
  · rw [e]
    decide
  · exact (Nat.log2_lt e).mpr h
theorem gd_int {z : Int} (h : z.natAbs < 2 ^ 1920) : Gd (.int z) := by
  have l := log_small h
  refine ⟨by simp only [PyData.showable, l, decide_true], by simp [PyData.depth], ?_⟩
  simp only [PyData.shown]
  exact Nat.le_trans (int_text_len_1921 l) (by decide)
theorem sum_le_of {l : List Nat} {m : Nat} (h : ∀ x ∈ l, x ≤ m) : l.sum ≤ l.length * m := by
  induction l with
  | nil => simp
  | cons a r ih =>
    have h1 := h a (List.mem_cons_self ..)
    have h2 := ih fun x hx => h x (List.mem_cons_of_mem _ hx)
    rw [List.sum_cons, List.length_cons, Nat.add_mul]
    omega
theorem shownAll_map : ∀ ds : List PyData, PyData.shownAll ds = ds.map PyData.shown
  | [] => by simp only [PyData.shownAll, List.map_nil]
  | d :: r => by simp only [PyData.shownAll, List.map_cons, shownAll_map r]
theorem showableAll_of : ∀ {ds : List PyData}, (∀ d ∈ ds, d.showable = true) → PyData.showableAll ds = true
  | [], _ => by simp only [PyData.showableAll]
  | d :: r, h => by
    simp only [PyData.showableAll, h d (List.mem_cons_self ..), showableAll_of fun x hx => h x (List.mem_cons_of_mem _ hx), Bool.and_self]
theorem depthAll_of {m : Nat} : ∀ {ds : List PyData}, (∀ d ∈ ds, d.depth ≤ m) → PyData.depthAll ds ≤ m
  | [], _ => by simp only [PyData.depthAll]; exact Nat.zero_le _
  | d :: r, h => by
    simp only [PyData.depthAll]
    exact Nat.max_le.mpr ⟨h d (List.mem_cons_self ..), depthAll_of fun x hx => h x (List.mem_cons_of_mem _ hx)⟩
/-- few data, each shown in at most m signs -/
theorem seq_len {ds : List PyData} {m : Nat} (h : ∀ d ∈ ds, d.shown.length ≤ m) : (((PyData.shownAll ds).map (·.length)).sum ≤ ds.length * m) ∧ (PyData.shownAll ds).length = ds.length := by
  rw [shownAll_map]
  refine ⟨?_, by rw [List.length_map]⟩
  have q := sum_le_of (l := ((ds.map PyData.shown).map (·.length))) (m := m) (fun x hx => by
    obtain ⟨s, hs, e⟩ := List.mem_map.mp hx
    obtain ⟨d, hd, e2⟩ := List.mem_map.mp hs
    rw [← e, ← e2]
    exact h d hd)
  rw [List.length_map, List.length_map] at q
  exact q
theorem gd_seq {ds : List PyData} {n m : Nat} (hn : ds.length ≤ n) (h1 : ∀ d ∈ ds, d.showable = true) (h2 : ∀ d ∈ ds, d.depth ≤ 9) (h3 : ∀ d ∈ ds, d.shown.length ≤ m) (hz : n * m + 2 * n + 3 ≤ 100000) : Gd (.list ds) ∧ Gd (.tuple ds) := by
  obtain ⟨a, b⟩ := seq_len h3
  have c : ds.length * m ≤ n * m := Nat.mul_le_mul_right _ hn
  have d1 := depthAll_of h2
  refine ⟨⟨by simp only [PyData.showable]; exact showableAll_of h1, by simp only [PyData.depth]; omega, ?_⟩, by simp only [PyData.showable]; exact showableAll_of h1, by simp only [PyData.depth]; omega, ?_⟩
  · simp only [PyData.shown]
    have q := listText_len_le (PyData.shownAll ds)
    omega
  · simp only [PyData.shown]
    have q := tupleText_len_le (PyData.shownAll ds)
    omega
end Vf
set_option maxRecDepth 100000
set_option maxHeartbeats 4000000
namespace Vf
open PySem PySem.Spec PyProof.Rows L2
/-- what each clause «except c as n» wishes, n in slot i, from the first one on -/
def wEach (K : PySem.W.Frag) (i : Nat) (Wo : WX) (D : Ends) : List (Value × (Addr → Value → Option Addr → TS)) → WX
  | [] => Wo
  | (c, ts) :: r => wAs K c i ts (wEach K i Wo D r) D
/-- // by an int that is not 0, below 2 ^ 9000 in size -/
def CDivZ (_ j : Int) : Prop := j ≠ 0 ∧ j.natAbs.log2 < 9000
theorem op_fdivZ {X : Cx} : OpR X (binaryOp .FloorDiv) (rI CDivZ fun i j => .int (i.fdiv j)) := opI fun i j _ _ _ _ _ hc q => floordiv_int hc.1 q (.inl (PyProof.noPylong_of_log2 hc.2))
end Vf
namespace Vf
/-- the greatest common divisor, with the sign of the bottom -/
def sg (t b : Int) : Int := if b < 0 then -((Nat.gcd t.natAbs b.natAbs : Nat) : Int) else ((Nat.gcd t.natAbs b.natAbs : Nat) : Int)
/-- in lowest terms -/
def low (t b : Int) : Int × Int := (t.fdiv (sg t b), b.fdiv (sg t b))
theorem fdiv_of_mul {s k : Int} (h : s ≠ 0) : (s * k).fdiv s = k := Int.mul_fdiv_cancel_left k h
theorem gcd_pos {t b : Int} (h : b ≠ 0) : 0 < Nat.gcd t.natAbs b.natAbs := Nat.gcd_pos_of_pos_right _ (by omega)
theorem sg_ne {t b : Int} (h : b ≠ 0) : sg t b ≠ 0 := by
  have g := gcd_pos (t := t) h
  unfold sg
  split <;> omega
/-- t and b are the sign's multiples -/
theorem sg_dvd {t b : Int} (h : b ≠ 0) : ∃ t' b' : Int, t = sg t b * t' ∧ b = sg t b * b' ∧ 0 < b' ∧ Nat.gcd t'.natAbs b'.natAbs = 1 := by
  have g := gcd_pos (t := t) h
  generalize hG : Nat.gcd t.natAbs b.natAbs = G at g
  have d1 : ((G : Nat) : Int) ∣ t := Int.ofNat_dvd_left.mpr (by rw [← hG]; exact Nat.gcd_dvd_left _ _)
  have d2 : ((G : Nat) : Int) ∣ b := Int.ofNat_dvd_left.mpr (by rw [← hG]; exact Nat.gcd_dvd_right _ _)
  obtain ⟨x, hx⟩ := d1
  obtain ⟨y, hy⟩ := d2
  have one : Nat.gcd x.natAbs y.natAbs = 1 := by
    have e1 : t.natAbs = G * x.natAbs := by rw [hx, Int.natAbs_mul, Int.natAbs_natCast]
    have e2 : b.natAbs = G * y.natAbs := by rw [hy, Int.natAbs_mul, Int.natAbs_natCast]
    have e3 : Nat.gcd (G * x.natAbs) (G * y.natAbs) = G * Nat.gcd x.natAbs y.natAbs := Nat.gcd_mul_left _ _ _
    rw [← e1, ← e2, hG] at e3
    have e4 : G * 1 = G * Nat.gcd x.natAbs y.natAbs := by omega
    exact (Nat.eq_of_mul_eq_mul_left g e4).symm
  have gp : (0 : Int) < (G : Int) := by omega
  have sg_e : sg t b = if b < 0 then -(G : Int) else (G : Int) := by unfold sg; rw [hG]
  by_cases hb : b < 0
  · refine ⟨-x, -y, ?_, ?_, ?_, ?_⟩
    · rw [sg_e, if_pos hb, Int.neg_mul_neg]; exact hx
    · rw [sg_e, if_pos hb, Int.neg_mul_neg]; exact hy
    · rw [hy] at hb
      have : y < 0 := by
        rcases Int.lt_or_le y 0 with z | z
        · exact z
        · have := Int.mul_nonneg (Int.le_of_lt gp) z
          omega
      omega
    · rw [Int.natAbs_neg, Int.natAbs_neg]; exact one
  · refine ⟨x, y, ?_, ?_, ?_, one⟩
    · rw [sg_e, if_neg hb]; exact hx
    · rw [sg_e, if_neg hb]; exact hy
    · rcases Int.lt_or_le 0 y with z | z
      · exact z
      · have h2 : (G : Int) * y ≤ 0 := Int.mul_nonpos_of_nonneg_of_nonpos (Int.le_of_lt gp) z
        rw [← hy] at h2
        omega
theorem low_eq {t b t' b' : Int} (h : b ≠ 0) (e1 : t = sg t b * t') (e2 : b = sg t b * b') : low t b = (t', b') := by
  have s := sg_ne (t := t) h
  unfold low
  have a1 : t.fdiv (sg t b) = t' := by
    have z := fdiv_of_mul (s := sg t b) (k := t') s
    rw [← e1] at z
    exact z
  have a2 : b.fdiv (sg t b) = b' := by
    have z := fdiv_of_mul (s := sg t b) (k := b') s
    rw [← e2] at z
    exact z
  rw [a1, a2]
/-- in lowest terms: its bottom is above 0, nothing is common -/
structure Low (t b : Int) : Prop where
  pos : 0 < b
  one : Nat.gcd t.natAbs b.natAbs = 1
theorem low_is {t b : Int} (h : b ≠ 0) : Low (low t b).1 (low t b).2 := by
  obtain ⟨x, y, e1, e2, hp, ho⟩ := sg_dvd (t := t) h
  rw [low_eq h e1 e2]
  exact ⟨hp, ho⟩
theorem low_id {t b : Int} (h : Low t b) : low t b = (t, b) := by
  have hb : b ≠ 0 := by have := h.pos; omega
  have e : sg t b = 1 := by unfold sg; rw [h.one, if_neg (by have := h.pos; omega)]; rfl
  exact low_eq hb (by rw [e, Int.one_mul]) (by rw [e, Int.one_mul])
theorem sg_scale {t b k : Int} (hk : 0 < k) : sg (t * k) (b * k) = sg t b * k := by
  have e : Nat.gcd (t * k).natAbs (b * k).natAbs = Nat.gcd t.natAbs b.natAbs * k.natAbs := by
    rw [Int.natAbs_mul, Int.natAbs_mul, Nat.gcd_mul_right]
  have ek : ((k.natAbs : Nat) : Int) = k := by omega
  unfold sg
  rw [e]
  by_cases hb : b < 0
  · have : b * k < 0 := Int.mul_neg_of_neg_of_pos hb hk
    rw [if_pos hb, if_pos this, Int.natCast_mul, ek, Int.neg_mul]
  · have : ¬ b * k < 0 := by
      have := Int.mul_nonneg (show (0 : Int) ≤ b by omega) (Int.le_of_lt hk)
      omega
    rw [if_neg hb, if_neg this, Int.natCast_mul, ek]
theorem low_scale {t b k : Int} (h : b ≠ 0) (hk : 0 < k) : low (t * k) (b * k) = low t b := by
  obtain ⟨x, y, e1, e2, _, _⟩ := sg_dvd (t := t) h
  have hbk : b * k ≠ 0 := Int.mul_ne_zero h (by omega)
  rw [low_eq h e1 e2]
  refine low_eq hbk ?_ ?_
  · rw [sg_scale hk, Int.mul_assoc, Int.mul_comm k x, ← Int.mul_assoc, ← e1]
  · rw [sg_scale hk, Int.mul_assoc, Int.mul_comm k y, ← Int.mul_assoc, ← e2]
/-- a ratio k times over is the ratio -/
theorem low_back {t b k : Int} (h : Low t b) (hk : 0 < k) : low (t * k) (b * k) = (t, b) := by
  rw [low_scale (by have := h.pos; omega) hk, low_id h]
theorem low_size {t b : Int} (h : b ≠ 0) : (low t b).1.natAbs ≤ t.natAbs ∧ (low t b).2.natAbs ≤ b.natAbs := by
  obtain ⟨x, y, e1, e2, _, _⟩ := sg_dvd (t := t) h
  rw [low_eq h e1 e2]
  have s : 0 < (sg t b).natAbs := by have := sg_ne (t := t) h; omega
  have a1 : t.natAbs = (sg t b).natAbs * x.natAbs := by rw [← Int.natAbs_mul, ← e1]
  have a2 : b.natAbs = (sg t b).natAbs * y.natAbs := by rw [← Int.natAbs_mul, ← e2]
  rw [a1, a2]
  exact ⟨Nat.le_mul_of_pos_left _ s, Nat.le_mul_of_pos_left _ s⟩
theorem sg_size {t b : Int} (h : b ≠ 0) : (sg t b).natAbs ≤ b.natAbs := by
  have e : (sg t b).natAbs = Nat.gcd t.natAbs b.natAbs := by
    unfold sg
    split
    · rw [Int.natAbs_neg, Int.natAbs_natCast]
    · rw [Int.natAbs_natCast]
  rw [e]
  exact Nat.le_of_dvd (by omega) (Nat.gcd_dvd_right _ _)
/-- Euclid's laps: what holds ahead of the i-th -/
structure Lap (G P : Nat) (i : Nat) (a b : Int) : Prop where
  a0 : 0 ≤ a
  b0 : 0 ≤ b
  g : Nat.gcd a.natAbs b.natAbs = G
  le : i = 0 ∨ b ≤ a
  sm : a.natAbs * b.natAbs * 2 ^ (i - 1) ≤ P
theorem lap0 (x y : Int) : Lap (Nat.gcd x.natAbs y.natAbs) (x.natAbs * y.natAbs) 0 (if x < 0 then -x else x) (if y < 0 then -y else y) := by
  have e : ∀ z : Int, (if z < 0 then -z else z) = ((z.natAbs : Nat) : Int) := fun z => by split <;> omega
  rw [e, e]
  exact ⟨by omega, by omega, by rw [Int.natAbs_natCast, Int.natAbs_natCast], .inl rfl, by rw [Int.natAbs_natCast, Int.natAbs_natCast]; simp⟩
theorem lap_next {G P i : Nat} {a b : Int} (h : Lap G P i a b) (hb : b ≠ 0) : Lap G P (i + 1) b (a % b) := by
  have b1 : 0 < b := by have := h.b0; omega
  have r0 := Int.emod_nonneg a hb
  have r1 := Int.emod_lt_of_pos a b1
  obtain ⟨x, rfl⟩ := Int.eq_ofNat_of_zero_le h.a0
  obtain ⟨y, rfl⟩ := Int.eq_ofNat_of_zero_le h.b0
  have em : ((x : Int) % (y : Int)) = ((x % y : Nat) : Int) := by omega
  refine ⟨by omega, r0, ?_, .inr (by omega), ?_⟩
  · rw [em, Int.natAbs_natCast, Int.natAbs_natCast]
    have g := h.g
    rw [Int.natAbs_natCast, Int.natAbs_natCast] at g
    rw [Nat.gcd_comm, ← Nat.gcd_rec, Nat.gcd_comm]
    exact g
  · have s := h.sm
    rw [em]
    rw [Int.natAbs_natCast, Int.natAbs_natCast] at s ⊢
    rw [Nat.add_sub_cancel]
    have y1 : 0 < y := by omega
    rcases h.le with z | z
    · rw [z] at s ⊢
      simp only [Nat.zero_sub, Nat.pow_zero, Nat.mul_one] at s ⊢
      have : x % y ≤ x := Nat.mod_le _ _
      calc y * (x % y) ≤ y * x := Nat.mul_le_mul_left _ this
        _ = x * y := Nat.mul_comm _ _
        _ ≤ P := s
    · have hxy : y ≤ x := by omega
      have hm : 2 * (x % y) ≤ x := by
        have q := Nat.div_add_mod x y
        have q1 : 1 ≤ x / y := (Nat.le_div_iff_mul_le y1).mpr (by omega)
        have q2 : y * 1 ≤ y * (x / y) := Nat.mul_le_mul_left _ q1
        have q3 := Nat.mod_lt x y1
        omega
      by_cases hi : i = 0
      · rw [hi] at s ⊢
        simp only [Nat.zero_sub, Nat.pow_zero, Nat.mul_one] at s ⊢
        have : x % y ≤ x := Nat.mod_le _ _
        calc y * (x % y) ≤ y * x := Nat.mul_le_mul_left _ this
          _ = x * y := Nat.mul_comm _ _
          _ ≤ P := s
      · have ei : 2 ^ i = 2 * 2 ^ (i - 1) := by
          have : i = (i - 1) + 1 := by omega
          rw [this, Nat.pow_succ, Nat.add_sub_cancel, Nat.mul_comm]
        rw [ei]
        calc y * (x % y) * (2 * 2 ^ (i - 1)) = (2 * (x % y)) * (y * 2 ^ (i - 1)) := by
              rw [Nat.mul_comm y (x % y), Nat.mul_assoc, Nat.mul_left_comm y 2, ← Nat.mul_assoc (x % y) 2, Nat.mul_comm (x % y) 2]
          _ ≤ x * (y * 2 ^ (i - 1)) := Nat.mul_le_mul_right _ hm
          _ = x * y * 2 ^ (i - 1) := by rw [Nat.mul_assoc]
          _ ≤ P := s
theorem lap_end {G P i : Nat} {a b : Int} (h : Lap G P i a b) (hb : b = 0) : a = ((G : Nat) : Int) := by
  have g := h.g
  rw [hb] at g
  have e : Nat.gcd a.natAbs (0 : Int).natAbs = a.natAbs := Nat.gcd_zero_right _
  rw [e] at g
  have := h.a0
  omega
theorem lap_over {G P : Nat} {i : Nat} {a b : Int} (h : Lap G P i a b) (hi : 0 < i) (hP : P < 2 ^ (i - 1)) : b = 0 := by
  have s := h.sm
  have l : b ≤ a := by rcases h.le with z | z <;> omega
  rcases Nat.eq_zero_or_pos (a.natAbs * b.natAbs) with z | z
  · rcases Nat.mul_eq_zero.mp z with z | z
    · have := h.b0; omega
    · omega
  · have : 1 * 2 ^ (i - 1) ≤ a.natAbs * b.natAbs * 2 ^ (i - 1) := Nat.mul_le_mul_right _ z
    omega
end Vf
set_option maxRecDepth 100000
set_option maxHeartbeats 8000000
namespace Vf
open PySem PySem.Spec PyProof.Rows L2
def topS (i : Nat) : Stmt := PySem.Challenge.pw_nearcurves_k47_whole_one_degree_less.main.body.getD i (.Pass ⟨0, 0, 0, 0⟩)
def penL (l : Addr) (at_ dg ct fo : Int) : List (Key × V) := [(.inr "cells", .ref l), (.inr "at", .int at_), (.inr "digits", .int dg), (.inr "count", .int ct), (.inr "fold", .int fo)]
section
variable {l : Addr} {a d c f x : Int}
theorem pv1 : valV (penL l a d c f) (.inr "cells") = some (.ref l) := by kernel_rfl
theorem pv2 : valV (penL l a d c f) (.inr "at") = some (.int a) := by kernel_rfl
theorem pv3 : valV (penL l a d c f) (.inr "digits") = some (.int d) := by kernel_rfl
theorem pv4 : valV (penL l a d c f) (.inr "count") = some (.int c) := by kernel_rfl
theorem pv5 : valV (penL l a d c f) (.inr "fold") = some (.int f) := by kernel_rfl
theorem pp2 : putK (penL l a d c f) (.inr "at") (.int x) = penL l x d c f := by kernel_rfl
theorem pp3 : putK (penL l a d c f) (.inr "digits") (.int x) = penL l a x c f := by kernel_rfl
theorem pp4 : putK (penL l a d c f) (.inr "count") (.int x) = penL l a d x f := by kernel_rfl
theorem pp5 : putK (penL l a d c f) (.inr "fold") (.int x) = penL l a d c x := by kernel_rfl
theorem pm : mergeK [] [(.inr "cells", .ref l), (.inr "at", .int 0), (.inr "digits", .int 0), (.inr "count", .int 0), (.inr "fold", .int f)] = penL l 0 0 0 f := by kernel_rfl
end
/-- a pen at p that has been asked at most B times -/
structure PenC (at_ dg ct fo B : Int) : Prop where
  a0 : 0 ≤ at_
  d0 : 0 ≤ dg
  c0 : 0 ≤ ct
  cB : ct ≤ B
  f0 : 0 ≤ fo
  f1 : fo < 2147483587
def PenAt (H : Hp) (p l : Addr) (ns : List Int) (at_ dg ct fo : Int) : Prop := H p = some (.dK (penL l at_ dg ct fo)) ∧ H l = some (.lst (ns.map V.int)) ∧ ns.length ≤ 63
def Pen (H : Hp) (p l : Addr) (B : Int) : Prop := ∃ ns at_ dg ct fo, PenAt H p l ns at_ dg ct fo ∧ PenC at_ dg ct fo B
/-- all but p stands as it stood -/
def Kp (p : Addr) (H H' : Hp) : Prop := ∀ b o, b ≠ p → H b = some o → H' b = some o
theorem Kp.refl {p : Addr} {H : Hp} : Kp p H H := fun _ _ _ h => h
theorem Kp.trans {p : Addr} {H H1 H2 : Hp} (a : Kp p H H1) (b : Kp p H1 H2) : Kp p H H2 := fun c o n h => b c o n (a c o n h)
theorem Kp.of {p : Addr} {H H' : Hp} (s : Same H H') : Kp p H H' := fun b o _ h => s b o h
theorem same_upd {H : Hp} {p : Addr} {o : HO} (n : H p = none) : Same H (upd H p o) := fun b u e => by rw [upd_ne (ne_of_none e n)]; exact e
/-- the heap without p -/
def wo (p : Addr) (H : Hp) : Hp := fun b => if b = p then none else H b
theorem Kp.wo {p : Addr} {H H' : Hp} (k : Kp p H H') : Same (wo p H) (wo p H') := fun b o e => by
  unfold Vf.wo at e ⊢
  by_cases h : b = p
  · rw [if_pos h] at e
    cases e
  · rw [if_neg h] at e ⊢
    exact k b o h e
theorem wo_at {p b : Addr} {H : Hp} {o : HO} (h : b ≠ p) (e : H b = some o) : wo p H b = some o := by
  unfold Vf.wo
  rw [if_neg h]
  exact e
theorem PenAt.ne {H : Hp} {p l : Addr} {ns : List Int} {a d c f : Int} (h : PenAt H p l ns a d c f) : l ≠ p := ne_of h.2.1 h.1 (by intro z; cases z)
theorem PenAt.same {H H' : Hp} {p l : Addr} {ns : List Int} {a d c f : Int} (h : PenAt H p l ns a d c f) (s : Same H H') : PenAt H' p l ns a d c f := ⟨s _ _ h.1, s _ _ h.2.1, h.2.2⟩
theorem Pen.same {H H' : Hp} {p l : Addr} {B : Int} (h : Pen H p l B) (s : Same H H') : Pen H' p l B := by
  obtain ⟨ns, a, d, c, f, h1, h2⟩ := h
  exact ⟨ns, a, d, c, f, h1.same s, h2⟩
theorem Pen.more {H : Hp} {p l : Addr} {B B' : Int} (h : Pen H p l B) (e : B ≤ B') : Pen H p l B' := by
  obtain ⟨ns, a, d, c, f, h1, h2⟩ := h
  exact ⟨ns, a, d, c, f, h1, h2.a0, h2.d0, h2.c0, Int.le_trans h2.cB e, h2.f0, h2.f1⟩
theorem Pen.there {H : Hp} {p l : Addr} {B : Int} (h : Pen H p l B) : ∃ o, H p = some o := by
  obtain ⟨ns, a, d, c, f, h1, h2⟩ := h
  exact ⟨_, h1.1⟩
theorem PenAt.put {H : Hp} {p l : Addr} {ns : List Int} {a d c f a' d' c' f' : Int} (h : PenAt H p l ns a d c f) : PenAt (upd H p (.dK (penL l a' d' c' f'))) p l ns a' d' c' f' :=
  ⟨upd_same, by rw [upd_ne h.ne]; exact h.2.1, h.2.2⟩
theorem kp_upd {H : Hp} {p : Addr} {o : HO} : Kp p H (upd H p o) := fun b u n e => by rw [upd_ne n]; exact e
def spPen (K : PySem.W.Frag) : Sp := fun vs H Q _ => ∃ (a : Addr) (ns : List Int), vs = [.ref a] ∧ SqL K H a (ns.map V.int) ∧ ns.length ≤ 63 ∧ ∀ (p l : Addr) (H' : Hp), Same H H' → H p = none → H l = none → Pen H' p l 0 → Q (.ref p) H'
def spDraw : Sp := fun vs H Q _ => ∃ (p l : Addr) (B many : Int), vs = [.ref p, .int many] ∧ Pen H p l B ∧ B ≤ 1000000000 ∧ 0 < many ∧ many < 2000000000000000000000000000000000 ∧
  ∀ (z : Int) (H' : Hp), 0 ≤ z → z < many → Pen H' p l (B + 1) → Kp p H H' → Q (.int z) H'
def spPick : Sp := fun vs H Q _ => ∃ (p l s : Addr) (B : Int) (xs : List V), vs = [.ref p, .ref s] ∧ Pen H p l B ∧ B ≤ 1000000000 ∧ H s = some (.lst xs) ∧ s ≠ p ∧ 0 < xs.length ∧ xs.length < 1000000 ∧
  ∀ (x : V) (H' : Hp), x ∈ xs → Pen H' p l (B + 1) → Kp p H H' → Q x H'
/-- built-in names that the text leaves alone -/
structure Bi (mg : Str → Option Value) : Prop where
  int : mg "int" = none
  list : mg "list" = none
  len : mg "len" = none
  range : mg "range" = none
/-- a def of the text that raises nothing -/
structure Df (P : Program) (w : World) (K : PySem.W.Frag) (mg : Str → Option Value) (base : Heap) (x : Str) (k : Nat) (ps : List Str) (sp : Sp) where
  f : Addr
  fd : FuncData
  m : mg x = some (.ref f)
  kp : PySem.W.keepIn K (.ref f) = true
  b : Binds K fd ps []
  ok : FnOk P w K mg base CX0 k f fd ps sp
abbrev sPen : Stmt := topS 45
abbrev sDraw : Stmt := topS (45 + 1)
abbrev sPick : Stmt := topS (45 + 2)
section
variable {P : Program} {w : World} {K : PySem.W.Frag} {mg : Str → Option Value} {base : Heap}
theorem scPen : FnScope ["_law_script", "_law_fold", "_law_cell"] ["_law_script"] (defScope sPen) := ⟨rfl, rfl, rfl, by decide +kernel, rfl, by decide +kernel, by decide +kernel⟩
theorem ok_pen {f : Addr} {fd : FuncData} (F : Fun K "_law_pen" "_law_pen" sPen f fd) (T : Bi mg) : FnOk P w K mg base CX0 1 f fd ["_law_script"] (spPen K) := by
  refine F.ok scPen (fun vs H Q E h => ?_) (fun cdv A outer s H vs Q E hr h => ?_)
  · obtain ⟨a, ns, rfl, _⟩ := h
    rfl
  · obtain ⟨a, ns, rfl, hS, hl, k⟩ := h
    refine ⟨_, (pss_cons (ps_set (i := 1) scPen.nd rfl (Or.inl rfl) pe_int)
      (pss_cons (ps_for PassesOwn.never rfl (pi_list (pv 0)) (pg_name (i := 2) scPen.nd rfl (Or.inl rfl))
        (pss_one (ps_set (i := 1) scPen.nd rfl (Or.inl rfl) (pe_op op_mod (pe_callTy call_int1 (by rfl) T.int (by decide +kernel) (pa_cons (pe_op op_add (pe_op op_mul (pv 1) pe_int) (pv 2)) pa_nil)) pe_int))))
      (pss_one (ps_ret (pe_disp (pps_cons pe_str (pe_callTy call_list_of (by rfl) T.list (by decide +kernel) (pa_cons (pv 0) pa_nil)) (pps_cons pe_str pe_int (pps_cons pe_str pe_int (pps_cons pe_str pe_int (pps_cons pe_str (pv 1) pps_nil))))) (by rfl) (by rfl) (fun z => by cases z) (by decide)))))), ?_⟩
    refine ⟨_, rfl, a, rfl, ⟨_, hS⟩, for_list (K := K) (a := a) (xs := ns.map V.int) (fun i σ H2 => H2 = H ∧ ∃ (z : Int) (v : Option V), σ = [some (.ref a), some (.int z), v] ∧ 0 ≤ z ∧ z < 1000000007)
      ⟨rfl, 0, none, rfl, by decide, by decide⟩ (fun i σ H2 _ ⟨e, _⟩ => by rw [e]; exact hS) ?_ ?_⟩
    · rintro i y σ H2 hi ⟨rfl, z, v, rfl, h0, h1⟩
      obtain ⟨n, rfl⟩ : ∃ n, y = V.int n := by
        rw [List.getElem?_map] at hi
        cases e : ns[i]? with
        | none =>
          rw [e] at hi
          cases hi
        | some n =>
          rw [e] at hi
          exact ⟨n, (Option.some.inj hi).symm⟩
      refine ⟨_, rfl, _, _, rfl, rfl, .inl ⟨by omega, by omega⟩, _, rfl, _, _, rfl, rfl, .inl ⟨_, rfl, _, _, rfl, rfl, (by show (0 : Int) < 1000000007; decide), ?_⟩⟩
      exact ⟨rfl, _, _, rfl, Int.emod_nonneg _ (by decide), Int.emod_lt_of_pos _ (by decide)⟩
    · rintro σ H2 ⟨rfl, z, v, rfl, h0, h1⟩
      intro p np
      refine ⟨_, rfl, a, _, rfl, .inl ((same_upd np).seq hS), fun l nl => ?_⟩
      refine ⟨_, rfl, ?_⟩
      have npl : p ≠ l := ne_of_none upd_same nl
      refine ⟨by rw [upd_ne npl]; exact upd_same, [(.inr "cells", .ref l), (.inr "at", .int 0), (.inr "digits", .int 0), (.inr "count", .int 0), (.inr "fold", .int z)], rfl, (by show 5 ≤ 15; decide), ?_⟩
      rw [pm]
      have nl2 : H2 l = none := by
        have q := nl
        rw [upd_ne npl.symm] at q
        exact q
      refine k p l _ (fun b o e => ?_) np nl2 ⟨ns, 0, 0, 0, z, ⟨upd_same, by rw [upd_ne npl.symm]; exact upd_same, hl⟩, by decide, by decide, by decide, by decide, h0, by omega⟩
      rw [upd_ne (ne_of_none e np), upd_ne (ne_of_none e nl2), upd_ne (ne_of_none e np)]
      exact e
theorem scDraw : FnScope ["_law_pen_here", "_law_many", "_law_cell", "_law_digit", "_law_mixed"] ["_law_pen_here", "_law_many"] (defScope sDraw) := ⟨rfl, rfl, rfl, by decide +kernel, rfl, by decide +kernel, by decide +kernel⟩
theorem ok_draw {f : Addr} {fd : FuncData} (F : Fun K "_law_draw" "_law_draw" sDraw f fd) (T : Bi mg) : FnOk P w K mg base CX0 1 f fd ["_law_pen_here", "_law_many"] spDraw := by
  refine F.ok scDraw (fun vs H Q E h => ?_) (fun cdv A outer s H vs Q E hr h => ?_)
  · obtain ⟨p, l, B, m, rfl, _⟩ := h
    rfl
  · obtain ⟨p, l, B, m, rfl, ⟨ns, a0, d0, c0, f0, hP, hC⟩, hB, hm0, hm1, k⟩ := h
    have hu := hu_of hr
    have small : ∀ {l : Addr} {a d c f : Int}, (penL l a d c f).length < sizeLine := by intros; show 5 < sizeLine; decide
    refine ⟨_, (pss_cons (ps_dput hu (pv 0) pe_str (pe_op op_add (pe_dget hu (pv 0) pe_str (fun _ _ => rfl)) pe_int) rfl)
  (C8.pss_cut (ps_if (PW.pt (pw_and (pt_cmpR op_eq (pe_dget hu (pv 0) pe_str (fun _ _ => rfl)) pe_int (nomark _)) (pw_and1 (pt_cmpR op_lt (pe_dget hu (pv 0) pe_str (fun _ _ => rfl)) (pe_callB call_len_seq (by rfl) T.len (by decide +kernel) (pa_cons (pe_dget hu (pv 0) pe_str (fun _ _ => rfl)) pa_nil)) (nomark _)))))
    (pss_cons (ps_set (i := 2) scDraw.nd rfl (Or.inl rfl) (pe_ix ix_list (pe_dget hu (pv 0) pe_str (fun _ _ => rfl)) (pe_dget hu (pv 0) pe_str (fun _ _ => rfl)) (fun _ _ => rfl)))
    (pss_cons (ps_dput hu (pv 0) pe_str (pe_op op_add (pe_dget hu (pv 0) pe_str (fun _ _ => rfl)) pe_int) rfl)
    (pss_one (ps_if (pt_cmpR op_ge (pv 2) (pe_op op_pow pe_int pe_int) (nomark _))
      (pss_one (ps_dput hu (pv 0) pe_str (pe_op op_sub (pv 2) (pe_op op_pow pe_int pe_int)) rfl))
      (pss_one (ps_dput hu (pv 0) pe_str (pe_op op_mod (pe_callTy call_int1 (by rfl) T.int (by decide +kernel) (pa_cons (pe_op op_add (pe_op op_mul (pe_dget hu (pv 0) pe_str (fun _ _ => rfl)) pe_int) (pv 2)) pa_nil)) pe_int) rfl))))))
    pss_nil)
  (pss_cons (ps_if (pt_cmpR op_gt (pe_dget hu (pv 0) pe_str (fun _ _ => rfl)) pe_int (nomark _))
    (pss_cons (ps_set (i := 3) scDraw.nd rfl (Or.inl rfl) (pe_op op_mod (pe_callTy call_int1 (by rfl) T.int (by decide +kernel) (pa_cons (pe_dget hu (pv 0) pe_str (fun _ _ => rfl)) pa_nil)) (pv 1)))
    (pss_cons (ps_dput hu (pv 0) pe_str (pe_op op_fdivZ (pe_dget hu (pv 0) pe_str (fun _ _ => rfl)) (pv 1)) rfl)
    (pss_one (ps_ret (pv 3)))))
    pss_nil)
  (pss_cons (ps_set (i := 4) scDraw.nd rfl (Or.inl rfl) (pe_op op_add (pe_op op_add (pe_dget hu (pv 0) pe_str (fun _ _ => rfl)) (pe_op op_mul (pe_dget hu (pv 0) pe_str (fun _ _ => rfl)) pe_int)) pe_int))
  (pss_one (ps_ret (pe_op op_mod (pe_op op_fdiv (pe_callTy call_int1 (by rfl) T.int (by decide +kernel) (pa_cons (pe_op op_mod (pe_op op_pow (pv 4) pe_int) pe_int) pa_nil)) pe_int) (pv 1)))))))), ?_⟩
    -- count
    refine ⟨_, rfl, p, .int c0, rfl, ?_, _, _, rfl, rfl, _, rfl, p, _, rfl, DPut.k (k := Sum.inr "count") hP.1 small, ?_⟩
    · have q := DGet.k (k := (Sum.inr "count" : Key)) hP.1
      rw [pv4] at q
      exact q
    rw [pp4]
    have hP1 := hP.put (a' := a0) (d' := d0) (c' := c0 + 1) (f' := f0)
    generalize hH1 : upd H p (.dK (penL l a0 d0 (c0 + 1) f0)) = H1 at hP1
    have k1 : Kp p H H1 := by rw [← hH1]; exact kp_upd
    clear hH1
    -- the cut: a pen again
    refine ⟨fun σ H2 => ∃ (v2 : Option V) (a d c f : Int), σ = [some (.ref p), some (.int m), v2, none, none] ∧ PenAt H2 p l ns a d c f ∧ PenC a d c f (B + 1) ∧ Kp p H H2, ?_, ?_⟩
    · have g3 : DGet H1 p (kV (Sum.inr "digits")) (some (.int d0)) := by
        have q := DGet.k (k := (Sum.inr "digits" : Key)) hP1.1
        rw [pv3] at q
        exact q
      have g2 : DGet H1 p (kV (Sum.inr "at")) (some (.int a0)) := by
        have q := DGet.k (k := (Sum.inr "at" : Key)) hP1.1
        rw [pv2] at q
        exact q
      have g1 : DGet H1 p (kV (Sum.inr "cells")) (some (.ref l)) := by
        have q := DGet.k (k := (Sum.inr "cells" : Key)) hP1.1
        rw [pv1] at q
        exact q
      refine ⟨_, rfl, p, _, rfl, g3, rfl, _, rfl, ?_⟩
      have stay : ∃ (v2 : Option V) (a d c f : Int), start ["_law_pen_here", "_law_many", "_law_cell", "_law_digit", "_law_mixed"] [V.ref p, V.int m] = [some (.ref p), some (.int m), v2, none, none] ∧ PenAt H1 p l ns a d c f ∧ PenC a d c f (B + 1) ∧ Kp p H H1 :=
        ⟨none, a0, d0, c0 + 1, f0, rfl, hP1, ⟨hC.a0, hC.d0, by have := hC.c0; omega, by have := hC.cB; omega, hC.f0, hC.f1⟩, k1⟩
      by_cases hd : d0 = 0
      · rw [decide_eq_true (by rw [hd])]
        refine iteT ?_
        refine ⟨_, rfl, p, _, rfl, g2, _, rfl, p, _, rfl, g1, l, _, rfl, .inl (SqL.of hP1.2.1), _, _, rfl, rfl, _, rfl, ?_⟩
        rw [List.length_map]
        by_cases ha : a0 < (ns.length : Int)
        · rw [decide_eq_true ha]
          refine iteT ?_
          have han : a0.toNat < ns.length := by have := hC.a0; omega
          have hat : (ns.map V.int)[a0.toNat]? = some (V.int ns[a0.toNat]) := by
            rw [List.getElem?_map, List.getElem?_eq_getElem han]
            rfl
          generalize ns[a0.toNat] = z at hat
          refine ⟨_, rfl, p, _, rfl, g1, _, rfl, p, _, rfl, g2, l, _, a0, .int z, rfl, rfl, SqL.of hP1.2.1, at_of (j := a0.toNat) (by have := hC.a0; omega) hat, ?_⟩
          refine ⟨_, rfl, p, _, rfl, g2, _, _, rfl, rfl, _, rfl, p, _, rfl, DPut.k (k := Sum.inr "at") hP1.1 small, ?_⟩
          rw [pp2]
          have hP2 := hP1.put (a' := a0 + 1) (d' := d0) (c' := c0 + 1) (f' := f0)
          generalize hH2 : upd H1 p (.dK (penL l (a0 + 1) d0 (c0 + 1) f0)) = H2 at hP2
          have k2 : Kp p H H2 := by rw [← hH2]; exact k1.trans kp_upd
          clear hH2
          refine ⟨_, rfl, _, _, rfl, rfl, ⟨by decide, by decide, by decide⟩, _, _, rfl, rfl, _, rfl, ?_⟩
          refine ite2 (fun hz => ?_) (fun hz => ?_)
          · have hz2 : (10 : Int) ^ (18 : Int).toNat ≤ z := of_decide_eq_true hz
            refine ⟨_, rfl, _, _, rfl, rfl, ⟨by decide, by decide, by decide⟩, _, _, rfl, rfl, _, rfl, p, _, rfl, DPut.k (k := Sum.inr "digits") hP2.1 small, ?_⟩
            rw [pp3]
            exact ⟨_, a0 + 1, _, c0 + 1, f0, rfl, hP2.put, ⟨by have := hC.a0; omega, by omega, by have := hC.c0; omega, by have := hC.cB; omega, hC.f0, hC.f1⟩, k2.trans kp_upd⟩
          · refine ⟨_, rfl, p, .int f0, rfl, ?_, _, _, rfl, rfl, .inl ⟨?_, ?_⟩, _, rfl, _, _, rfl, rfl, .inl ⟨_, rfl, _, _, rfl, rfl, (by show (0 : Int) < 2147483587; decide), _, rfl, p, _, rfl, DPut.k (k := Sum.inr "fold") hP2.1 small, ?_⟩⟩
            · have q := DGet.k (k := (Sum.inr "fold" : Key)) hP2.1
              rw [pv5] at q
              exact q
            · have := hC.f0; omega
            · have := hC.f1; omega
            rw [pp5]
            exact ⟨_, a0 + 1, d0, c0 + 1, _, rfl, hP2.put, ⟨by have := hC.a0; omega, hC.d0, by have := hC.c0; omega, by have := hC.cB; omega, Int.emod_nonneg _ (by decide), Int.emod_lt_of_pos _ (by decide)⟩, k2.trans kp_upd⟩
        · rw [decide_eq_false ha]
          refine iteF ?_
          exact stay
      · rw [decide_eq_false (fun z => hd (by have z2 := V.int.inj z; exact z2))]
        refine iteF ?_
        exact stay
    · rintro σ H2 ⟨v2, a, d, c, f, rfl, hP2, hC2, k2⟩
      have g3 : DGet H2 p (kV (Sum.inr "digits")) (some (.int d)) := by
        have q := DGet.k (k := (Sum.inr "digits" : Key)) hP2.1
        rw [pv3] at q
        exact q
      refine ⟨_, rfl, p, _, rfl, g3, _, _, rfl, rfl, _, rfl, ?_⟩
      refine ite2 (fun hz => ?_) (fun hz => ?_)
      · have hz2 : 0 < d := of_decide_eq_true hz
        refine ⟨_, rfl, p, _, rfl, g3, .inl ⟨_, rfl, _, rfl, _, _, rfl, rfl, hm0, ?_⟩⟩
        refine ⟨_, rfl, p, _, rfl, g3, _, rfl, _, _, rfl, rfl, ⟨by omega, by have := (Nat.log2_lt (n := m.natAbs) (k := 400) (by omega)).mpr (Nat.lt_of_lt_of_le (show m.natAbs < 2000000000000000000000000000000000 by omega) (by decide +kernel)); omega⟩, _, rfl, p, _, rfl, DPut.k (k := Sum.inr "digits") hP2.1 small, ?_⟩
        rw [pp3]
        exact ⟨_, rfl, k _ _ (Int.emod_nonneg _ (by omega)) (Int.emod_lt_of_pos _ hm0) ⟨ns, a, _, c, f, hP2.put, hC2.a0, Int.fdiv_nonneg hC2.d0 (by omega), hC2.c0, hC2.cB, hC2.f0, hC2.f1⟩ (k2.trans kp_upd)⟩
      · refine ⟨_, rfl, p, .int f, rfl, ?_, _, rfl, p, .int c, rfl, ?_, _, _, rfl, rfl, .inl ⟨?_, ?_⟩, _, _, rfl, rfl, _, _, rfl, rfl, ?_⟩
        · have q := DGet.k (k := (Sum.inr "fold" : Key)) hP2.1
          rw [pv5] at q
          exact q
        · have q := DGet.k (k := (Sum.inr "count" : Key)) hP2.1
          rw [pv4] at q
          exact q
        · have := hC2.c0; omega
        · have := hC2.cB; omega
        have b1 := hC2.c0
        have b2 := hC2.cB
        have b3 := hC2.f0
        have b4 := hC2.f1
        refine ⟨_, rfl, _, _, rfl, rfl, ⟨by decide, by decide, ?_⟩, _, _, rfl, rfl, (by show (0 : Int) < 2305843009213693951; decide), .inl ⟨_, rfl, _, _, rfl, rfl, ⟨by decide, by decide⟩, _, rfl, _, _, rfl, rfl, hm0, ?_⟩⟩
        · show (f + c * 7907 + 43).natAbs < 2 ^ 64
          omega
        exact k _ _ (Int.emod_nonneg _ (by omega)) (Int.emod_lt_of_pos _ hm0) ⟨ns, a, d, c, f, hP2, hC2⟩ k2
theorem scPick : FnScope ["_law_pen_here", "_law_some"] ["_law_pen_here", "_law_some"] (defScope sPick) := ⟨rfl, rfl, rfl, by decide +kernel, rfl, by decide +kernel, by decide +kernel⟩
theorem ok_pick {f : Addr} {fd : FuncData} (F : Fun K "_law_pick" "_law_pick" sPick f fd) (T : Bi mg) (G : Df P w K mg base "_law_draw" 1 ["_law_pen_here", "_law_many"] spDraw) : FnOk P w K mg base CX0 2 f fd ["_law_pen_here", "_law_some"] spPick := by
  refine F.ok scPick (fun vs H Q E h => ?_) (fun cdv A outer s H vs Q E hr h => ?_)
  · obtain ⟨p, l, s, B, xs, rfl, _⟩ := h
    rfl
  · obtain ⟨p, l, s, B, xs, rfl, hP, hB, hs, hne, h0, h1, k⟩ := h
    refine ⟨_, (pss_one (ps_ret (pe_ix ix_list (pv 1) (pe_call G.ok hr rfl G.m G.kp G.b .nil pass0 (pa_cons (pv 0) (pa_cons (pe_callB call_len_seq (by rfl) T.len (by decide +kernel) (pa_cons (pv 1) pa_nil)) pa_nil))) (fun _ _ => rfl)))), ?_⟩
    refine ⟨_, rfl, _, rfl, _, rfl, s, _, rfl, .inl (SqL.of hs), p, l, B, _, rfl, hP, hB, by omega, by omega, fun z H' z0 z1 hP' kp => ?_⟩
    have hzn : z.toNat < xs.length := by omega
    exact ⟨s, xs, z, xs[z.toNat], rfl, rfl, SqL.of (kp _ _ hne hs), at_of (j := z.toNat) (by omega) (List.getElem?_eq_getElem hzn), k _ _ (List.getElem_mem hzn) hP' kp⟩
end
end Vf
set_option maxRecDepth 100000
set_option maxHeartbeats 8000000
namespace Vf
open PySem PySem.Spec PyProof.Rows L2
def fl (names : List Str) (xs : List V) : List (Str × V) := (names.zip xs).reverse
/-- self.f = f, for each of the names -/
def spIni (C : Addr) (names : List Str) : Sp := fun vs H Q _ => ∃ (a : Addr) (xs : List V), vs = .ref a :: xs ∧ xs.length = names.length ∧ H a = some (exo a C none) ∧
  ∀ (d : Addr) (H' : Hp), H d = none → d ≠ a → H' a = some (exo a C (some d)) → H' d = some (exd d (fl names xs)) → (∀ b o, b ≠ a → H b = some o → H' b = some o) → Q .non H'
theorem keep2 {H : Hp} {a d : Addr} {o u : HO} (n : H d = none) : ∀ b z, b ≠ a → H b = some z → upd (upd H d o) a u b = some z := fun b z h e => by
  rw [upd_ne h, upd_ne (ne_of_none e n)]
  exact e
theorem keep3 {H1 H : Hp} {a d : Addr} {u : HO} (n : H d = none) (k : ∀ b z, b ≠ a → H b = some z → H1 b = some z) : ∀ b z, b ≠ a → H b = some z → upd H1 d u b = some z := fun b z h e => by
  rw [upd_ne (ne_of_none e n)]
  exact k b z h e
section
variable {P : Program} {w : World} {K : PySem.W.Frag} {mg : Str → Option Value} {base : Heap}
theorem scBadInterval : FnScope ["self", "low", "high"] ["self", "low", "high"] (defScope (inClass (topS 6) 0)) := ⟨rfl, rfl, rfl, by decide +kernel, rfl, by decide +kernel, by decide +kernel⟩
theorem iniBadInterval {f C : Addr} {fd : FuncData} (F : Fun K "__init__" "BadInterval.__init__" (inClass (topS 6) 0) f fd) (T : OexC K C) (n1 : PySem.W.findIn K (.ref C) "low" = some none) (n2 : PySem.W.findIn K (.ref C) "high" = some none) :
    FnOk P w K mg base CX0 1 f fd ["self", "low", "high"] (spIni C ["low", "high"]) := by
  refine F.ok scBadInterval (fun vs H Q E h => ?_) (fun cdv A outer s H vs Q E hr h => ?_)
  · obtain ⟨a, xs, rfl, hl, _⟩ := h
    rw [List.length_cons, hl]
    all_goals rfl
  · obtain ⟨a, xs, rfl, hl, ha, k⟩ := h
    match xs, hl with
    | [v1, v2], _ =>
    refine ⟨_, (pss_cons (ps_ost (pv 0) (pv 1)) (pss_one (ps_ost (pv 0) (pv 2)))), ?_⟩
    refine ⟨_, rfl, _, rfl, a, C, rfl, T, n1, .inl ⟨ha, fun d nd ne => ?_⟩⟩
    have e1 : (upd (upd H d (exd d [("low", v1)])) a (exo a C (some d))) a = some (exo a C (some d)) := upd_same
    have e2 : (upd (upd H d (exd d [("low", v1)])) a (exo a C (some d))) d = some (exd d [("low", v1)]) := by rw [upd_ne ne]; exact upd_same
    have e3 := keep2 (H := H) (a := a) (d := d) (o := exd d [("low", v1)]) (u := exo a C (some d)) nd
    generalize upd (upd H d (exd d [("low", v1)])) a (exo a C (some d)) = H1 at e1 e2 e3
    refine ⟨_, rfl, _, rfl, a, C, rfl, T, n2, .inr ⟨d, _, e1, e2, (by show 1 ≤ 900; decide), ?_⟩⟩
    exact k d _ nd ne (by rw [upd_ne ne.symm]; exact e1) upd_same (keep3 nd e3)
theorem scBadNumber : FnScope ["self", "what", "number"] ["self", "what", "number"] (defScope (inClass (topS 4) 0)) := ⟨rfl, rfl, rfl, by decide +kernel, rfl, by decide +kernel, by decide +kernel⟩
theorem iniBadNumber {f C : Addr} {fd : FuncData} (F : Fun K "__init__" "BadNumber.__init__" (inClass (topS 4) 0) f fd) (T : OexC K C) (n1 : PySem.W.findIn K (.ref C) "what" = some none) (n2 : PySem.W.findIn K (.ref C) "number" = some none) :
    FnOk P w K mg base CX0 1 f fd ["self", "what", "number"] (spIni C ["what", "number"]) := by
  refine F.ok scBadNumber (fun vs H Q E h => ?_) (fun cdv A outer s H vs Q E hr h => ?_)
  · obtain ⟨a, xs, rfl, hl, _⟩ := h
    rw [List.length_cons, hl]
    all_goals rfl
  · obtain ⟨a, xs, rfl, hl, ha, k⟩ := h
    match xs, hl with
    | [v1, v2], _ =>
    refine ⟨_, (pss_cons (ps_ost (pv 0) (pv 1)) (pss_one (ps_ost (pv 0) (pv 2)))), ?_⟩
    refine ⟨_, rfl, _, rfl, a, C, rfl, T, n1, .inl ⟨ha, fun d nd ne => ?_⟩⟩
    have e1 : (upd (upd H d (exd d [("what", v1)])) a (exo a C (some d))) a = some (exo a C (some d)) := upd_same
    have e2 : (upd (upd H d (exd d [("what", v1)])) a (exo a C (some d))) d = some (exd d [("what", v1)]) := by rw [upd_ne ne]; exact upd_same
    have e3 := keep2 (H := H) (a := a) (d := d) (o := exd d [("what", v1)]) (u := exo a C (some d)) nd
    generalize upd (upd H d (exd d [("what", v1)])) a (exo a C (some d)) = H1 at e1 e2 e3
    refine ⟨_, rfl, _, rfl, a, C, rfl, T, n2, .inr ⟨d, _, e1, e2, (by show 1 ≤ 900; decide), ?_⟩⟩
    exact k d _ nd ne (by rw [upd_ne ne.symm]; exact e1) upd_same (keep3 nd e3)
theorem scBadRow : FnScope ["self", "row"] ["self", "row"] (defScope (inClass (topS 5) 0)) := ⟨rfl, rfl, rfl, by decide +kernel, rfl, by decide +kernel, by decide +kernel⟩
theorem iniBadRow {f C : Addr} {fd : FuncData} (F : Fun K "__init__" "BadRow.__init__" (inClass (topS 5) 0) f fd) (T : OexC K C) (n1 : PySem.W.findIn K (.ref C) "row" = some none) :
    FnOk P w K mg base CX0 1 f fd ["self", "row"] (spIni C ["row"]) := by
  refine F.ok scBadRow (fun vs H Q E h => ?_) (fun cdv A outer s H vs Q E hr h => ?_)
  · obtain ⟨a, xs, rfl, hl, _⟩ := h
    rw [List.length_cons, hl]
    all_goals rfl
  · obtain ⟨a, xs, rfl, hl, ha, k⟩ := h
    match xs, hl with
    | [v1], _ =>
    refine ⟨_, (pss_one (ps_ost (pv 0) (pv 1))), ?_⟩
    refine ⟨_, rfl, _, rfl, a, C, rfl, T, n1, .inl ⟨ha, fun d nd ne => ?_⟩⟩
    exact k d _ nd ne upd_same (by rw [upd_ne ne]; exact upd_same) (keep2 nd)
end
def tyD : PyData → String
  | .none => "NoneType"
  | .bool _ => "bool"
  | .int _ => "int"
  | .str _ => "str"
  | .list _ => "list"
  | .tuple _ => "tuple"
  | .dict _ => "dict"
theorem Dt.ty {K : PySem.W.Frag} {H : Hp} {v : V} {d : PyData} (h : Dt K H v d) : TyX K H v (.type (tyD d)) := by
  cases h with
  | non => exact .base .non
  | bl b => exact .base (.bl b)
  | int i => exact .base (.int i)
  | str x => exact .base (.str x)
  | lst h1 _ =>
    rcases h1 with (h1 | ⟨o, h1⟩) | ⟨o, _, _, h1, h2, _⟩
    · exact .base (.lst h1)
    · exact .base (.frz h1)
    · exact .kList h1 h2
  | tup h1 _ =>
    rcases h1 with (h1 | ⟨o, h1⟩) | ⟨o, _, _, h1, h2, _⟩
    · exact .base (.tup h1)
    · exact .fTuple h1
    · exact .kTuple h1 h2
  | dct h1 _ => exact .base (.dK h1)
def intD : PyData → Bool
  | .int _ => true
  | .bool _ => true
  | _ => false
def boolD : PyData → Bool
  | .bool _ => true
  | _ => false
def wholeD : PyData → Bool
  | .int _ => true
  | _ => false
theorem kit_int {K : PySem.W.Frag} (d : PyData) : PySem.W.kitOne K (.type (tyD d)) (.type "int") = some (intD d) := by
  cases d with
  | none => exact kit_ty (show kitB "NoneType" "int" = some false by decide +kernel)
  | bool _ => exact kit_ty (show kitB "bool" "int" = some true by decide +kernel)
  | int _ => exact kit_ty (show kitB "int" "int" = some true by decide +kernel)
  | str _ => exact kit_ty (show kitB "str" "int" = some false by decide +kernel)
  | list _ => exact kit_ty (show kitB "list" "int" = some false by decide +kernel)
  | tuple _ => exact kit_ty (show kitB "tuple" "int" = some false by decide +kernel)
  | dict _ => exact kit_ty (show kitB "dict" "int" = some false by decide +kernel)
theorem kit_bool {K : PySem.W.Frag} (d : PyData) : PySem.W.kitOne K (.type (tyD d)) (.type "bool") = some (boolD d) := by
  cases d with
  | none => exact kit_ty (show kitB "NoneType" "bool" = some false by decide +kernel)
  | bool _ => exact kit_ty (show kitB "bool" "bool" = some true by decide +kernel)
  | int _ => exact kit_ty (show kitB "int" "bool" = some false by decide +kernel)
  | str _ => exact kit_ty (show kitB "str" "bool" = some false by decide +kernel)
  | list _ => exact kit_ty (show kitB "list" "bool" = some false by decide +kernel)
  | tuple _ => exact kit_ty (show kitB "tuple" "bool" = some false by decide +kernel)
  | dict _ => exact kit_ty (show kitB "dict" "bool" = some false by decide +kernel)
/-- a ratio's top and bottom, as it is passed -/
def pair? : List PyData → Option (Int × Int)
  | [.int a, .int b] => if 0 < b then some (a, b) else none
  | _ => none
def partsD : PyData → Option (Int × Int)
  | .int i => some (i, 1)
  | .list ds => pair? ds
  | .tuple ds => pair? ds
  | _ => none
def seqD : PyData → Option (List PyData)
  | .list ds => some ds
  | .tuple ds => some ds
  | _ => none
theorem kit_seq {K : PySem.W.Frag} (d : PyData) : PySem.W.kitAny K (.type (tyD d)) [.type "tuple", .type "list"] = some (seqD d).isSome := by
  have two : ∀ {a b : Bool} {t : String}, kitB t "tuple" = some a → kitB t "list" = some b → PySem.W.kitAny K (.type t) [.type "tuple", .type "list"] = some (a || b) := fun {a b t} h1 h2 =>
    kitAny_cons (kit_ty h1) (fun e => by rw [e, Bool.false_or]; exact kitAny_cons (kit_ty h2) (fun e2 => by rw [e2]; exact kitAny_nil) (fun e2 => e2)) (fun e => by rw [e, Bool.true_or])
  cases d with
  | none => exact two (a := false) (b := false) (show kitB "NoneType" "tuple" = some false by decide +kernel) (show kitB "NoneType" "list" = some false by decide +kernel)
  | bool _ => exact two (a := false) (b := false) (show kitB "bool" "tuple" = some false by decide +kernel) (show kitB "bool" "list" = some false by decide +kernel)
  | int _ => exact two (a := false) (b := false) (show kitB "int" "tuple" = some false by decide +kernel) (show kitB "int" "list" = some false by decide +kernel)
  | str _ => exact two (a := false) (b := false) (show kitB "str" "tuple" = some false by decide +kernel) (show kitB "str" "list" = some false by decide +kernel)
  | list _ => exact two (a := false) (b := true) (show kitB "list" "tuple" = some false by decide +kernel) (show kitB "list" "list" = some true by decide +kernel)
  | tuple _ => exact two (a := true) (b := false) (show kitB "tuple" "tuple" = some true by decide +kernel) (show kitB "tuple" "list" = some false by decide +kernel)
  | dict _ => exact two (a := false) (b := false) (show kitB "dict" "tuple" = some false by decide +kernel) (show kitB "dict" "list" = some false by decide +kernel)
/-- built-in names that the text leaves alone, and gcd -/
structure Bk (mg : Str → Option Value) : Prop extends Bi mg where
  isinstance : mg "isinstance" = none
  bool : mg "bool" = none
  tuple : mg "tuple" = none
  abs : mg "abs" = none
  str : mg "str" = none
  gcd : mg "gcd" = some (.builtin "math.gcd")
/-- an error class with one __init__ of its own, as it is raised -/
structure Ex (P : Program) (w : World) (K : PySem.W.Frag) (mg : Str → Option Value) (base : Heap) (x : Str) (C : Addr) (names : List Str) where
  ox : OexC K C
  f : Addr
  fd : FuncData
  m : mg x = some (.ref C)
  iC : PySem.W.findIn K (.ref C) "__init__" = some (some (.ref f))
  tI : PySem.W.typeIn K (.ref f) = some (.type "function")
  b : Binds K fd ("self" :: names) []
  ok : FnOk P w K mg base CX0 1 f fd ("self" :: names) (spIni C names)
/-- a def of the text that may raise -/
structure Dx (P : Program) (w : World) (K : PySem.W.Frag) (mg : Str → Option Value) (base : Heap) (x : Str) (k : Nat) (ps : List Str) (sp : Sp) where
  f : Addr
  fd : FuncData
  m : mg x = some (.ref f)
  kp : PySem.W.keepIn K (.ref f) = true
  b : Binds K fd ps []
  ok : FnOk P w K mg base (L2.CX P w) k f fd ps sp
/-- what raise X(e, ..) leaves -/
theorem raise_end {C : Addr} {names : List Str} {H1 : Hp} {vs : List V} {W : XK} (hl : vs.length = names.length) (h : ∀ d H', Same H1 H' → H1 d = none → H' d = some (.xd (fl names vs)) → W (.ref C) (some d) H') :
    ∀ a, H1 a = none → spIni C names (.ref a :: (vs ++ [])) (upd H1 a (exo a C none)) (fun v H2 => v = .non ∧ ∃ (d : Addr) (fs : List (Str × V)), H2 a = some (exo a C (some d)) ∧ H2 d = some (exd d fs) ∧ H1 d = none ∧ W (.ref C) (some d) (upd (del H2 a) d (.xd fs))) (fun _ _ _ => False) := fun a na => by
  refine ⟨a, vs, by rw [List.append_nil], hl, upd_same, fun d H' nd ne ea ed k => ⟨rfl, d, fl names vs, ea, ed, ?_, ?_⟩⟩
  · rw [upd_ne ne] at nd
    exact nd
  · rw [upd_ne ne] at nd
    refine h d _ (fun b o e => ?_) nd upd_same
    have n1 := ne_of_none e na
    rw [upd_ne (ne_of_none e nd), del_ne n1]
    exact k b o n1 (by rw [upd_ne n1]; exact e)
def spWhole (K : PySem.W.Frag) : Sp := fun vs H Q _ => ∃ (v : V) (d : PyData), vs = [v] ∧ Dt K H v d ∧ Q (.bl (wholeD d)) H
def spIsRatio (K : PySem.W.Frag) : Sp := fun vs H Q _ => ∃ (v : V) (d : PyData), vs = [v] ∧ Dt K H v d ∧ ∀ H', Same H H' → Q (.bl (partsD d).isSome) H'
def big : Nat := 8800
def spLow : Sp := fun vs H Q _ => ∃ t b : Int, vs = [.int t, .int b] ∧ b ≠ 0 ∧ b.natAbs < 2 ^ big ∧ ∀ (p : Addr) (H' : Hp), Same H H' → H p = none → H' p = some (.tup [.int (low t b).1, .int (low t b).2]) → Q (.ref p) H'
/-- an error of BadNumber -/
def RaisesN (CN : Addr) (H : Hp) (wv v : V) (E : XK) : Prop := ∀ (d : Addr) (H' : Hp), Same H H' → H d = none → H' d = some (.xd (fl ["what", "number"] [wv, v])) → E (.ref CN) (some d) H'
theorem RaisesN.same {CN : Addr} {H H1 : Hp} {wv v : V} {E : XK} (s : Same H H1) (h : RaisesN CN H wv v E) : RaisesN CN H1 wv v E := fun d H' s' n e => h d H' (s.trans s') (s.free n) e
def spParts (K : PySem.W.Frag) (CN : Addr) : Sp := fun vs H Q E => ∃ (v wv : V) (d : PyData), vs = [v, wv] ∧ Dt K H v d ∧
  (∀ t b, partsD d = some (t, b) → ∀ (p : Addr) (H' : Hp), Same H H' → H' p = some (.tup [.int t, .int b]) → Q (.ref p) H') ∧ (partsD d = none → RaisesN CN H wv v E)
def spTold (K : PySem.W.Frag) (CN : Addr) : Sp := fun vs H Q E => ∃ (v wv : V) (d : PyData), vs = [v, wv] ∧ Dt K H v d ∧
  (∀ t b, partsD d = some (t, b) → b.natAbs < 2 ^ big ∧ ∀ (p : Addr) (H' : Hp), Same H H' → H' p = some (.tup [.int (low t b).1, .int (low t b).2]) → Q (.ref p) H') ∧ (partsD d = none → RaisesN CN H wv v E)
theorem pair_pos {ds : List PyData} {t b : Int} (h : pair? ds = some (t, b)) : ds = [.int t, .int b] ∧ 0 < b := by
  unfold pair? at h
  split at h
  · split at h
    · rename_i hb
      cases h
      exact ⟨rfl, hb⟩
    · cases h
  · cases h
theorem parts_pos {d : PyData} {t b : Int} (h : partsD d = some (t, b)) : 0 < b := by
  unfold partsD at h
  split at h
  · cases h
    decide
  · exact (pair_pos h).2
  · exact (pair_pos h).2
  · cases h
section
variable {P : Program} {w : World} {K : PySem.W.Frag} {mg : Str → Option Value} {base : Heap} {CN : Addr}
abbrev sIsWhole : Stmt := topS 10
abbrev sIsRatio : Stmt := topS 11
abbrev sLowest : Stmt := topS 13
abbrev sParts : Stmt := topS 14
abbrev sTold : Stmt := topS 15
theorem scIsWhole : FnScope ["value"] ["value"] (defScope sIsWhole) := ⟨rfl, rfl, rfl, by decide +kernel, rfl, by decide +kernel, by decide +kernel⟩
theorem ok_is_whole {f : Addr} {fd : FuncData} (F : Fun K "is_whole" "is_whole" sIsWhole f fd) (T : Bk mg) : FnOk P w K mg base CX0 1 f fd ["value"] (spWhole K) := by
  refine F.ok scIsWhole (fun vs H Q E h => ?_) (fun cdv A outer s H vs Q E hr h => ?_)
  · obtain ⟨v, d, rfl, _⟩ := h
    rfl
  · obtain ⟨v, d, rfl, hd, q⟩ := h
    refine ⟨_, (pss_one (ps_ret (pe_and (pe_callB call_isi (by rfl) T.isinstance (by decide +kernel) (pa_cons (pv 0) (pa_cons (pe_bltn (v := V.ty "int") (by rfl) T.int (by decide +kernel) rfl) pa_nil)))
      (pe_one (pe_not (pe_callB call_isi (by rfl) T.isinstance (by decide +kernel) (pa_cons (pv 0) (pa_cons (pe_bltn (v := V.ty "bool") (by rfl) T.bool (by decide +kernel) rfl) pa_nil)))))))), ?_⟩
    refine ⟨_, rfl, v, .ty "int", _, .type "int", _, rfl, .ty _, hd.ty, kit_int d, _, rfl, ?_⟩
    cases hi : intD d with
    | false =>
      refine iteF ?_
      have e : wholeD d = false := by cases d <;> first | rfl | (exact absurd hi (fun z => by cases z))
      rw [e] at q
      exact q
    | true =>
      refine iteT ?_
      refine ⟨_, rfl, v, .ty "bool", _, .type "bool", _, rfl, .ty _, hd.ty, kit_bool d, _, rfl, ?_⟩
      have e : wholeD d = !boolD d := by cases d <;> first | rfl | (exact absurd hi (fun z => by cases z))
      rw [e] at q
      exact q
theorem dts2 {H : Hp} {vs : List V} {a b : PyData} (h : Dts K H vs [a, b]) : ∃ x y, vs = [x, y] ∧ Dt K H x a ∧ Dt K H y b := by
  cases h with
  | cons h1 h2 =>
    cases h2 with
    | cons h3 h4 =>
      cases h4
      exact ⟨_, _, rfl, h1, h3⟩
/-- an item of a list or tuple -/
theorem seq_at {H : Hp} {a : Addr} {xs : List V} {Q : V → Hp → Prop} {z : Int} {x : V} (h : SqL K H a xs ∨ SqT K H a xs) (e : atI xs z = some x) (q : Q x H) : rIx K (.ref a) (.int z) H Q := by
  rcases h with h | h
  · exact .inl ⟨a, xs, z, x, rfl, rfl, h, e, q⟩
  · exact .inr (.inl ⟨a, xs, z, x, rfl, rfl, h, e, q⟩)
theorem Dt.seq {H : Hp} {v : V} {d : PyData} {ds : List PyData} (h : Dt K H v d) (e : seqD d = some ds) : ∃ a vs, v = .ref a ∧ (SqL K H a vs ∨ SqT K H a vs) ∧ Dts K H vs ds := by
  cases h with
  | lst h1 h2 =>
    cases e
    exact ⟨_, _, rfl, .inl h1, h2⟩
  | tup h1 h2 =>
    cases e
    exact ⟨_, _, rfl, .inr h1, h2⟩
  | _ => cases e
theorem scIsRatio : FnScope ["value"] ["value"] (defScope sIsRatio) := ⟨rfl, rfl, rfl, by decide +kernel, rfl, by decide +kernel, by decide +kernel⟩
theorem ok_is_ratio {f : Addr} {fd : FuncData} (F : Fun K "is_ratio" "is_ratio" sIsRatio f fd) (T : Bk mg) (Gw : Df P w K mg base "is_whole" 1 ["value"] (spWhole K)) : FnOk P w K mg base CX0 2 f fd ["value"] (spIsRatio K) := by
  refine F.ok scIsRatio (fun vs H Q E h => ?_) (fun cdv A outer s H vs Q E hr h => ?_)
  · obtain ⟨v, d, rfl, _⟩ := h
    rfl
  · obtain ⟨v, d, rfl, hd, q⟩ := h
    refine ⟨_, (pss_cons (ps_if (pt_val (pe_callB call_isiT (by rfl) T.isinstance (by decide +kernel) (pa_cons (pv 0) (pa_cons (pe_tup (pa_cons (pe_bltn (v := V.ty "tuple") (by rfl) T.tuple (by decide +kernel) rfl) (pa_cons (pe_bltn (v := V.ty "list") (by rfl) T.list (by decide +kernel) rfl) pa_nil))) pa_nil))))
      (pss_one (ps_ret (pe_and (pe_cmpR op_eq (pe_callB call_len_seq (by rfl) T.len (by decide +kernel) (pa_cons (pv 0) pa_nil)) pe_int (nomark _)) (pe_and (pe_call Gw.ok hr rfl Gw.m Gw.kp Gw.b .nil pass0 (pa_cons (pe_ix ix_seq (pv 0) pe_int (fun _ _ => rfl)) pa_nil)) (pe_and (pe_call Gw.ok hr rfl Gw.m Gw.kp Gw.b .nil pass0 (pa_cons (pe_ix ix_seq (pv 0) pe_int (fun _ _ => rfl)) pa_nil)) (pe_one (pe_cmpR op_gt (pe_ix ix_seq (pv 0) pe_int (fun _ _ => rfl)) pe_int (nomark _))))))))
      pss_nil)
      (pss_one (ps_ret (pe_call Gw.ok hr rfl Gw.m Gw.kp Gw.b .nil pass0 (pa_cons (pv 0) pa_nil))))), ?_⟩
    refine ⟨_, rfl, (by show 2 ≤ sizeLine; decide), fun tp ntp => ?_⟩
    have s1 : Same H (upd H tp (HO.tup [V.ty "tuple", V.ty "list"])) := same_upd ntp
    have e1 : upd H tp (HO.tup [V.ty "tuple", V.ty "list"]) tp = some (HO.tup [V.ty "tuple", V.ty "list"]) := upd_same
    generalize upd H tp (HO.tup [V.ty "tuple", V.ty "list"]) = H1 at s1 e1 ⊢
    have hd1 := hd.mono s1
    have q1 := q H1 s1
    refine ⟨v, tp, _, _, [.type "tuple", .type "list"], _, rfl, e1, .cons (.ty _) (.cons (.ty _) .nil), hd1.ty, kit_seq d, _, rfl, ?_⟩
    cases hs : seqD d with
    | none =>
      refine iteF ?_
      refine ⟨_, rfl, v, d, rfl, hd1, ?_⟩
      have e : (partsD d).isSome = wholeD d := by cases d <;> first | rfl | cases hs
      rw [e] at q1
      exact q1
    | some ds =>
      refine iteT ?_
      have ep : partsD d = pair? ds := by cases d <;> first | (cases hs; rfl) | cases hs
      rw [ep] at q1
      obtain ⟨a, vs, rfl, hsq, hds⟩ := hd1.seq hs
      refine ⟨_, rfl, a, vs, rfl, hsq, rfl, _, rfl, ?_⟩
      by_cases hl : vs.length = 2
      · rw [decide_eq_true (by rw [hl]; rfl)]
        refine iteT ?_
        have hl2 : ds.length = 2 := by rw [← hds.len]; exact hl
        match ds, hl2 with
        | [d0, d1], _ =>
        obtain ⟨x, y, rfl, hx, hy⟩ := dts2 hds
        refine ⟨_, rfl, seq_at hsq (at_of (j := 0) rfl rfl) ?_⟩
        refine ⟨x, d0, rfl, hx, _, rfl, ?_⟩
        cases h0 : wholeD d0 with
        | false =>
          refine iteF ?_
          have e : pair? [d0, d1] = none := by cases d0 <;> first | rfl | (cases h0)
          rw [e] at q1
          exact q1
        | true =>
          refine iteT ?_
          refine ⟨_, rfl, seq_at hsq (at_of (j := 1) rfl rfl) ?_⟩
          refine ⟨y, d1, rfl, hy, _, rfl, ?_⟩
          cases h1 : wholeD d1 with
          | false =>
            refine iteF ?_
            have e : pair? [d0, d1] = none := by cases d0 <;> cases d1 <;> first | rfl | (cases h1) | (cases h0)
            rw [e] at q1
            exact q1
          | true =>
            refine iteT ?_
            obtain ⟨i, rfl⟩ : ∃ i, d0 = .int i := by cases d0 <;> first | exact ⟨_, rfl⟩ | cases h0
            obtain ⟨j, rfl⟩ : ∃ j, d1 = .int j := by cases d1 <;> first | exact ⟨_, rfl⟩ | cases h1
            cases hy
            refine ⟨_, rfl, seq_at hsq (at_of (j := 1) rfl rfl) ?_⟩
            refine ⟨_, _, rfl, rfl, ?_⟩
            have e : (pair? [PyData.int i, PyData.int j]).isSome = decide (0 < j) := by
              show (if 0 < j then some (i, j) else none).isSome = decide (0 < j)
              by_cases hj : 0 < j
              · rw [if_pos hj, decide_eq_true hj]; rfl
              · rw [if_neg hj, decide_eq_false hj]; rfl
            rw [e] at q1
            exact q1
      · rw [decide_eq_false (fun z => hl (by have z2 := V.int.inj z; omega))]
        refine iteF ?_
        have e : pair? ds = none := by
          cases hp : pair? ds with
          | none => rfl
          | some tb =>
            obtain ⟨t, b⟩ := tb
            have z := (pair_pos hp).1
            rw [hds.len, z] at hl
            exact absurd rfl hl
        rw [e] at q1
        exact q1
theorem scLowest : FnScope ["top", "bottom", "shared"] ["top", "bottom"] (defScope sLowest) := ⟨rfl, rfl, rfl, by decide +kernel, rfl, by decide +kernel, by decide +kernel⟩
theorem log_of {z : Int} {k : Nat} (hk : 0 < k) (h : z.natAbs < 2 ^ k) : z.natAbs.log2 < k := PySem.Flt.log2_lt_of hk h
theorem sg_cdiv {t b x : Int} (h : b ≠ 0) (hb : b.natAbs < 2 ^ big) : CDivZ x (sg t b) :=
  ⟨sg_ne h, Nat.lt_trans (log_of (k := big) (by decide) (Nat.lt_of_le_of_lt (sg_size h) hb)) (by decide)⟩
theorem ok_lowest {f : Addr} {fd : FuncData} (F : Fun K "lowest" "lowest" sLowest f fd) (T : Bk mg) : FnOk P w K mg base CX0 1 f fd ["top", "bottom"] spLow := by
  refine F.ok scLowest (fun vs H Q E h => ?_) (fun cdv A outer s H vs Q E hr h => ?_)
  · obtain ⟨t, b, rfl, _⟩ := h
    rfl
  · obtain ⟨t, b, rfl, hb, hz, q⟩ := h
    refine ⟨_, (pss_cons (ps_set (i := 2) scLowest.nd rfl (Or.inl rfl) (pe_callBfun cr_gcd (by rfl) T.gcd (pa_cons (pv 0) (pa_cons (pv 1) pa_nil))))
      (C8.pss_cut (ps_if (pt_cmpR op_lt (pv 1) pe_int (nomark _)) (pss_one (ps_set (i := 2) scLowest.nd rfl (Or.inl rfl) (pe_un un_neg (pv 2)))) pss_nil)
      (pss_one (ps_ret (pe_tup (pa_cons (pe_op op_fdivZ (pv 0) (pv 2)) (pa_cons (pe_op op_fdivZ (pv 1) (pv 2)) pa_nil))))))), ?_⟩
    refine ⟨_, rfl, _, rfl, t, b, rfl, fun σ H2 => H2 = H ∧ σ = [some (.int t), some (.int b), some (.int (sg t b))], ?_, ?_⟩
    · refine ⟨_, rfl, _, _, rfl, rfl, _, rfl, ?_⟩
      refine ite2 (fun hlt => ?_) (fun hlt => ?_)
      · have h2 : b < 0 := of_decide_eq_true hlt
        refine ⟨_, rfl, _, rfl, rfl, ?_⟩
        unfold sg
        rw [if_pos h2]
        rfl
      · have h2 : ¬ b < 0 := fun z => hlt (decide_eq_true z)
        refine ⟨rfl, ?_⟩
        unfold sg
        rw [if_neg h2]
        rfl
    · rintro σ H2 ⟨rfl, rfl⟩
      refine ⟨_, rfl, _, rfl, _, _, rfl, rfl, sg_cdiv hb hz, _, rfl, _, rfl, _, _, rfl, rfl, sg_cdiv hb hz, (by show 2 ≤ sizeLine; decide), fun p np => ?_⟩
      exact q p _ (same_upd np) np upd_same
theorem scParts : FnScope ["value", "what"] ["value", "what"] (defScope sParts) := ⟨rfl, rfl, rfl, by decide +kernel, rfl, by decide +kernel, by decide +kernel⟩
theorem ok_parts {f : Addr} {fd : FuncData} (F : Fun K "parts_of" "parts_of" sParts f fd) (T : Bk mg) (Gr : Df P w K mg base "is_ratio" 2 ["value"] (spIsRatio K)) (N : Ex P w K mg base "BadNumber" CN ["what", "number"]) :
    FnOk P w K mg base (L2.CX P w) 3 f fd ["value", "what"] (spParts K CN) := by
  refine F.okX scParts (fun vs H Q E h => ?_) (fun cdv A outer s H vs Q E hr h => ?_)
  · obtain ⟨v, wv, d, rfl, _⟩ := h
    rfl
  · obtain ⟨v, wv, d, rfl, hd, q, e⟩ := h
    refine ⟨_, (pss_cons (ps_if (pt_not (pt_val (pe_call Gr.ok hr rfl Gr.m Gr.kp Gr.b .nil pass0 (pa_cons (pv 0) pa_nil))))
        (pss_one (ps_raise rfl (takes_of rfl rfl rfl rfl) (pmk_oex N.ox N.iC N.tI N.ok hr N.b .nil pass0 (by rfl) N.m (pa_cons (pv 1) (pa_cons (pv 0) pa_nil)))))
        pss_nil)
      (pss_cons (ps_if (pt_val (pe_callB call_isi (by rfl) T.isinstance (by decide +kernel) (pa_cons (pv 0) (pa_cons (pe_bltn (v := V.ty "int") (by rfl) T.int (by decide +kernel) rfl) pa_nil))))
        (pss_one (ps_ret (pe_tup (pa_cons (pv 0) (pa_cons pe_int pa_nil)))))
        pss_nil)
      (pss_one (ps_ret (pe_tup (pa_cons (pe_ix ix_seq (pv 0) pe_int (fun _ _ => rfl)) (pa_cons (pe_ix ix_seq (pv 0) pe_int (fun _ _ => rfl)) pa_nil))))))), ?_⟩
    refine ⟨_, rfl, v, d, rfl, hd, fun H1 s1 => ⟨_, rfl, ?_⟩⟩
    have hd1 := hd.mono s1
    cases hp : partsD d with
    | none =>
      refine iteT ?_
      refine ⟨_, rfl, _, rfl, (by show 2 ≤ 1000; decide), ?_⟩
      exact raise_end rfl fun dd H' s2 n e2 => (e hp).same s1 dd H' s2 n e2
    | some tb =>
      obtain ⟨t, b⟩ := tb
      refine iteF ?_
      refine ⟨_, rfl, v, .ty "int", _, .type "int", _, rfl, .ty _, hd1.ty, kit_int d, _, rfl, ?_⟩
      cases hs : seqD d with
      | none =>
        obtain ⟨i, rfl⟩ : ∃ i, d = .int i := by cases d <;> first | exact ⟨_, rfl⟩ | cases hp | cases hs
        cases hp
        cases hd1
        refine iteT ?_
        refine ⟨_, rfl, (by show 2 ≤ sizeLine; decide), fun p np => ?_⟩
        exact q _ _ rfl p _ (s1.trans (same_upd np)) upd_same
      | some ds =>
        have hi : intD d = false := by cases d <;> first | rfl | cases hs
        rw [hi]
        refine iteF ?_
        have ep : partsD d = pair? ds := by cases d <;> first | (cases hs; rfl) | cases hs
        have hp2 := hp
        rw [ep] at hp2
        obtain ⟨rfl, hb⟩ := pair_pos hp2
        obtain ⟨a, vs, rfl, hsq, hds⟩ := hd1.seq hs
        obtain ⟨x, y, rfl, hx, hy⟩ := dts2 hds
        cases hx
        cases hy
        refine ⟨_, rfl, seq_at hsq (at_of (j := 0) rfl rfl) ?_⟩
        refine ⟨_, rfl, seq_at hsq (at_of (j := 1) rfl rfl) ?_⟩
        refine ⟨(by show 2 ≤ sizeLine; decide), fun p np => ?_⟩
        exact q _ _ hp p _ (s1.trans (same_upd np)) upd_same
theorem scTold : FnScope ["value", "what", "top", "bottom"] ["value", "what"] (defScope sTold) := ⟨rfl, rfl, rfl, by decide +kernel, rfl, by decide +kernel, by decide +kernel⟩
theorem ok_told {f : Addr} {fd : FuncData} (F : Fun K "told" "told" sTold f fd) (Gp : Dx P w K mg base "parts_of" 3 ["value", "what"] (spParts K CN)) (Gl : Df P w K mg base "lowest" 1 ["top", "bottom"] spLow) :
    FnOk P w K mg base (L2.CX P w) 4 f fd ["value", "what"] (spTold K CN) := by
  refine F.okX scTold (fun vs H Q E h => ?_) (fun cdv A outer s H vs Q E hr h => ?_)
  · obtain ⟨v, wv, d, rfl, _⟩ := h
    rfl
  · obtain ⟨v, wv, d, rfl, hd, q, e⟩ := h
    refine ⟨_, (pss_cons (ps_asg (pe_call Gp.ok hr rfl Gp.m Gp.kp Gp.b .nil (E := E) (passes_call (takes_of rfl rfl rfl rfl) (fun _ _ _ _ h => h)) (pa_cons (pv 0) (pa_cons (pv 1) pa_nil))) (pg_tup (by rfl) (pgs_cons (pg_name (i := 2) scTold.nd rfl (Or.inl rfl)) (pgs_cons (pg_name (i := 3) scTold.nd rfl (Or.inl rfl)) pgs_nil))))
      (pss_one (ps_ret (pe_call Gl.ok (hr.mono (by decide)) rfl Gl.m Gl.kp Gl.b .nil pass0 (pa_cons (pv 2) (pa_cons (pv 3) pa_nil)))))), ?_⟩
    refine ⟨_, rfl, _, rfl, v, wv, d, rfl, hd, fun t b hp p H1 s1 e1 => ?_, e⟩
    obtain ⟨hz, q⟩ := q t b hp
    have hb := parts_pos hp
    refine ⟨p, _, rfl, SqT.of e1, rfl, _, _, rfl, _, _, rfl, rfl, ?_⟩
    refine ⟨_, rfl, _, rfl, t, b, rfl, by omega, hz, fun p2 H2 s2 n2 e2 => ?_⟩
    exact q p2 H2 (s1.trans s2) e2
end
end Vf
set_option maxRecDepth 100000
set_option maxHeartbeats 8000000
namespace Vf
open PySem PySem.Spec PyProof.Rows L2
/-- below 2 ^ 4300 in size -/
def Sz (z : Int) : Prop := z.natAbs < 2 ^ 4300
theorem sz_mulW {x y : Int} (h1 : Sz x) (h2 : Sz y) : CMulW x y := wide_mul h1 h2 (by decide) (by decide) (by decide)
theorem sz_mul {x y : Int} (h1 : Sz x) (h2 : Sz y) : (x * y).natAbs < 2 ^ 8600 := wide_lt h1 h2
/-- what a def of two ratios promises: of the right ones ok, of the first wrong one the error -/
def spTwo (K : PySem.W.Frag) (CN : Addr) (ok : V → Int → Int → Int → Int → Hp → VK → XK → Prop) : Sp := fun vs H Q E => ∃ (v u : V) (d e : PyData), vs = [v, u] ∧ Dt K H v d ∧ Dt K H u e ∧
  (∀ t b x c, partsD d = some (t, b) → partsD e = some (x, c) → Sz t ∧ Sz b ∧ Sz x ∧ Sz c ∧ ok u t b x c H Q E) ∧
  (partsD d = none → RaisesN CN H (.str "ratio") v E) ∧ ((partsD d).isSome = true → partsD e = none → RaisesN CN H (.str "ratio") u E)
def okLow (g : Int → Int → Int → Int → Int × Int) : V → Int → Int → Int → Int → Hp → VK → XK → Prop := fun _ t b x c H Q _ =>
  ∀ (p : Addr) (H' : Hp), Same H H' → H' p = some (.tup [.int (low (g t b x c).1 (g t b x c).2).1, .int (low (g t b x c).1 (g t b x c).2).2]) → Q (.ref p) H'
def gPlus (t b x c : Int) : Int × Int := (t * c + x * b, b * c)
def gMinus (t b x c : Int) : Int × Int := (t * c - x * b, b * c)
def gTimes (t b x c : Int) : Int × Int := (t * x, b * c)
def gShare (t b x c : Int) : Int × Int := (t * c, b * x)
def okShare (CN : Addr) : V → Int → Int → Int → Int → Hp → VK → XK → Prop := fun u t b x c H Q E => (x = 0 → RaisesN CN H (.str "divisor") u E) ∧ (x ≠ 0 → okLow gShare u t b x c H Q E)
def okLower : V → Int → Int → Int → Int → Hp → VK → XK → Prop := fun _ t b x c H Q _ => ∀ H', Same H H' → Q (.bl (decide (t * c < x * b))) H'
section
variable {P : Program} {w : World} {K : PySem.W.Frag} {mg : Str → Option Value} {base : Heap} {CN : Addr}
abbrev sPlus : Stmt := topS 16
theorem scPlus : FnScope ["one", "other", "top", "bottom", "other_top", "other_bottom"] ["one", "other"] (defScope sPlus) := ⟨rfl, rfl, rfl, by decide +kernel, rfl, by decide +kernel, by decide +kernel⟩
theorem ok_plus {f : Addr} {fd : FuncData} (F : Fun K "plus" "plus" sPlus f fd) (Gp : Dx P w K mg base "parts_of" 3 ["value", "what"] (spParts K CN)) (Gl : Df P w K mg base "lowest" 1 ["top", "bottom"] spLow) (N : Ex P w K mg base "BadNumber" CN ["what", "number"]) :
    FnOk P w K mg base (L2.CX P w) 4 f fd ["one", "other"] (spTwo K CN (okLow gPlus)) := by
  refine F.okX scPlus (fun vs H Q E h => ?_) (fun cdv A outer s H vs Q E hr h => ?_)
  · obtain ⟨v, u, d, e, rfl, _⟩ := h
    rfl
  · obtain ⟨v, u, d, e, rfl, hd, he', q, r1, r2⟩ := h
    refine ⟨_, (pss_cons (ps_asg (pe_call Gp.ok hr rfl Gp.m Gp.kp Gp.b .nil (E := E) (passes_call (takes_of rfl rfl rfl rfl) (fun _ _ _ _ h => h)) (pa_cons (pv 0) (pa_cons pe_str pa_nil))) (pg_tup (by rfl) (pgs_cons (pg_name (i := 2) scPlus.nd rfl (Or.inl rfl)) (pgs_cons (pg_name (i := 3) scPlus.nd rfl (Or.inl rfl)) pgs_nil))))
      (pss_cons (ps_asg (pe_call Gp.ok hr rfl Gp.m Gp.kp Gp.b .nil (E := E) (passes_call (takes_of rfl rfl rfl rfl) (fun _ _ _ _ h => h)) (pa_cons (pv 1) (pa_cons pe_str pa_nil))) (pg_tup (by rfl) (pgs_cons (pg_name (i := 4) scPlus.nd rfl (Or.inl rfl)) (pgs_cons (pg_name (i := 5) scPlus.nd rfl (Or.inl rfl)) pgs_nil))))
      (pss_one (ps_ret (pe_call Gl.ok (hr.mono (by decide)) rfl Gl.m Gl.kp Gl.b .nil pass0 (pa_cons (pe_op op_add (pe_op op_mulW (pv 2) (pv 5)) (pe_op op_mulW (pv 4) (pv 3))) (pa_cons (pe_op op_mulW (pv 3) (pv 5)) pa_nil))))))), ?_⟩
    refine ⟨_, rfl, v, .str "ratio", d, rfl, hd, fun t b hp p H1 s1 e1 => ?_, r1⟩
    have r2 := r2 (by rw [hp]; rfl)
    have q := fun x c he => q t b x c hp he
    refine ⟨p, _, rfl, SqT.of e1, rfl, _, _, rfl, _, _, rfl, rfl, ?_⟩
    refine ⟨_, rfl, u, .str "ratio", e, rfl, he'.mono s1, fun x c he p2 H2 s2 e2 => ?_, fun z => (r2 z).same s1⟩
    refine ⟨p2, _, rfl, SqT.of e2, rfl, _, _, rfl, _, _, rfl, rfl, ?_⟩
    obtain ⟨ht, hb, hx, hc, q⟩ := q x c he
    have s12 := s1.trans s2
    refine ⟨_, rfl, _, rfl, _, _, rfl, rfl, sz_mulW ht hc, _, rfl, _, rfl, _, _, rfl, rfl, sz_mulW hx hb, _, _, rfl, rfl, _, rfl, _, rfl, _, _, rfl, rfl, sz_mulW hb hc, _, _, rfl, by have := parts_pos hp; have := parts_pos he; exact Int.ne_of_gt (Int.mul_pos ‹_› ‹_›), Nat.lt_trans (sz_mul hb hc) (by decide +kernel), fun p H4 s4 n4 e4 => ?_⟩
    exact q p H4 (s12.trans s4) e4
abbrev sMinus : Stmt := topS 17
theorem scMinus : FnScope ["one", "other", "top", "bottom", "other_top", "other_bottom"] ["one", "other"] (defScope sMinus) := ⟨rfl, rfl, rfl, by decide +kernel, rfl, by decide +kernel, by decide +kernel⟩
theorem ok_minus {f : Addr} {fd : FuncData} (F : Fun K "minus" "minus" sMinus f fd) (Gp : Dx P w K mg base "parts_of" 3 ["value", "what"] (spParts K CN)) (Gl : Df P w K mg base "lowest" 1 ["top", "bottom"] spLow) (N : Ex P w K mg base "BadNumber" CN ["what", "number"]) :
    FnOk P w K mg base (L2.CX P w) 4 f fd ["one", "other"] (spTwo K CN (okLow gMinus)) := by
  refine F.okX scMinus (fun vs H Q E h => ?_) (fun cdv A outer s H vs Q E hr h => ?_)
  · obtain ⟨v, u, d, e, rfl, _⟩ := h
    rfl
  · obtain ⟨v, u, d, e, rfl, hd, he', q, r1, r2⟩ := h
    refine ⟨_, (pss_cons (ps_asg (pe_call Gp.ok hr rfl Gp.m Gp.kp Gp.b .nil (E := E) (passes_call (takes_of rfl rfl rfl rfl) (fun _ _ _ _ h => h)) (pa_cons (pv 0) (pa_cons pe_str pa_nil))) (pg_tup (by rfl) (pgs_cons (pg_name (i := 2) scMinus.nd rfl (Or.inl rfl)) (pgs_cons (pg_name (i := 3) scMinus.nd rfl (Or.inl rfl)) pgs_nil))))
      (pss_cons (ps_asg (pe_call Gp.ok hr rfl Gp.m Gp.kp Gp.b .nil (E := E) (passes_call (takes_of rfl rfl rfl rfl) (fun _ _ _ _ h => h)) (pa_cons (pv 1) (pa_cons pe_str pa_nil))) (pg_tup (by rfl) (pgs_cons (pg_name (i := 4) scMinus.nd rfl (Or.inl rfl)) (pgs_cons (pg_name (i := 5) scMinus.nd rfl (Or.inl rfl)) pgs_nil))))
      (pss_one (ps_ret (pe_call Gl.ok (hr.mono (by decide)) rfl Gl.m Gl.kp Gl.b .nil pass0 (pa_cons (pe_op op_sub (pe_op op_mulW (pv 2) (pv 5)) (pe_op op_mulW (pv 4) (pv 3))) (pa_cons (pe_op op_mulW (pv 3) (pv 5)) pa_nil))))))), ?_⟩
    refine ⟨_, rfl, v, .str "ratio", d, rfl, hd, fun t b hp p H1 s1 e1 => ?_, r1⟩
    have r2 := r2 (by rw [hp]; rfl)
    have q := fun x c he => q t b x c hp he
    refine ⟨p, _, rfl, SqT.of e1, rfl, _, _, rfl, _, _, rfl, rfl, ?_⟩
    refine ⟨_, rfl, u, .str "ratio", e, rfl, he'.mono s1, fun x c he p2 H2 s2 e2 => ?_, fun z => (r2 z).same s1⟩
    refine ⟨p2, _, rfl, SqT.of e2, rfl, _, _, rfl, _, _, rfl, rfl, ?_⟩
    obtain ⟨ht, hb, hx, hc, q⟩ := q x c he
    have s12 := s1.trans s2
    refine ⟨_, rfl, _, rfl, _, _, rfl, rfl, sz_mulW ht hc, _, rfl, _, rfl, _, _, rfl, rfl, sz_mulW hx hb, _, _, rfl, rfl, _, rfl, _, rfl, _, _, rfl, rfl, sz_mulW hb hc, _, _, rfl, by have := parts_pos hp; have := parts_pos he; exact Int.ne_of_gt (Int.mul_pos ‹_› ‹_›), Nat.lt_trans (sz_mul hb hc) (by decide +kernel), fun p H4 s4 n4 e4 => ?_⟩
    exact q p H4 (s12.trans s4) e4
abbrev sTimes : Stmt := topS 18
theorem scTimes : FnScope ["one", "other", "top", "bottom", "other_top", "other_bottom"] ["one", "other"] (defScope sTimes) := ⟨rfl, rfl, rfl, by decide +kernel, rfl, by decide +kernel, by decide +kernel⟩
theorem ok_times {f : Addr} {fd : FuncData} (F : Fun K "times" "times" sTimes f fd) (Gp : Dx P w K mg base "parts_of" 3 ["value", "what"] (spParts K CN)) (Gl : Df P w K mg base "lowest" 1 ["top", "bottom"] spLow) (N : Ex P w K mg base "BadNumber" CN ["what", "number"]) :
    FnOk P w K mg base (L2.CX P w) 4 f fd ["one", "other"] (spTwo K CN (okLow gTimes)) := by
  refine F.okX scTimes (fun vs H Q E h => ?_) (fun cdv A outer s H vs Q E hr h => ?_)
  · obtain ⟨v, u, d, e, rfl, _⟩ := h
    rfl
  · obtain ⟨v, u, d, e, rfl, hd, he', q, r1, r2⟩ := h
    refine ⟨_, (pss_cons (ps_asg (pe_call Gp.ok hr rfl Gp.m Gp.kp Gp.b .nil (E := E) (passes_call (takes_of rfl rfl rfl rfl) (fun _ _ _ _ h => h)) (pa_cons (pv 0) (pa_cons pe_str pa_nil))) (pg_tup (by rfl) (pgs_cons (pg_name (i := 2) scTimes.nd rfl (Or.inl rfl)) (pgs_cons (pg_name (i := 3) scTimes.nd rfl (Or.inl rfl)) pgs_nil))))
      (pss_cons (ps_asg (pe_call Gp.ok hr rfl Gp.m Gp.kp Gp.b .nil (E := E) (passes_call (takes_of rfl rfl rfl rfl) (fun _ _ _ _ h => h)) (pa_cons (pv 1) (pa_cons pe_str pa_nil))) (pg_tup (by rfl) (pgs_cons (pg_name (i := 4) scTimes.nd rfl (Or.inl rfl)) (pgs_cons (pg_name (i := 5) scTimes.nd rfl (Or.inl rfl)) pgs_nil))))
      (pss_one (ps_ret (pe_call Gl.ok (hr.mono (by decide)) rfl Gl.m Gl.kp Gl.b .nil pass0 (pa_cons (pe_op op_mulW (pv 2) (pv 4)) (pa_cons (pe_op op_mulW (pv 3) (pv 5)) pa_nil))))))), ?_⟩
    refine ⟨_, rfl, v, .str "ratio", d, rfl, hd, fun t b hp p H1 s1 e1 => ?_, r1⟩
    have r2 := r2 (by rw [hp]; rfl)
    have q := fun x c he => q t b x c hp he
    refine ⟨p, _, rfl, SqT.of e1, rfl, _, _, rfl, _, _, rfl, rfl, ?_⟩
    refine ⟨_, rfl, u, .str "ratio", e, rfl, he'.mono s1, fun x c he p2 H2 s2 e2 => ?_, fun z => (r2 z).same s1⟩
    refine ⟨p2, _, rfl, SqT.of e2, rfl, _, _, rfl, _, _, rfl, rfl, ?_⟩
    obtain ⟨ht, hb, hx, hc, q⟩ := q x c he
    have s12 := s1.trans s2
    refine ⟨_, rfl, _, rfl, _, _, rfl, rfl, sz_mulW ht hx, _, rfl, _, rfl, _, _, rfl, rfl, sz_mulW hb hc, _, _, rfl, by have := parts_pos hp; have := parts_pos he; exact Int.ne_of_gt (Int.mul_pos ‹_› ‹_›), Nat.lt_trans (sz_mul hb hc) (by decide +kernel), fun p H4 s4 n4 e4 => ?_⟩
    exact q p H4 (s12.trans s4) e4
abbrev sShare : Stmt := topS 19
theorem scShare : FnScope ["one", "other", "top", "bottom", "other_top", "other_bottom"] ["one", "other"] (defScope sShare) := ⟨rfl, rfl, rfl, by decide +kernel, rfl, by decide +kernel, by decide +kernel⟩
theorem ok_share {f : Addr} {fd : FuncData} (F : Fun K "share" "share" sShare f fd) (Gp : Dx P w K mg base "parts_of" 3 ["value", "what"] (spParts K CN)) (Gl : Df P w K mg base "lowest" 1 ["top", "bottom"] spLow) (N : Ex P w K mg base "BadNumber" CN ["what", "number"]) :
    FnOk P w K mg base (L2.CX P w) 4 f fd ["one", "other"] (spTwo K CN (okShare CN)) := by
  refine F.okX scShare (fun vs H Q E h => ?_) (fun cdv A outer s H vs Q E hr h => ?_)
  · obtain ⟨v, u, d, e, rfl, _⟩ := h
    rfl
  · obtain ⟨v, u, d, e, rfl, hd, he', q, r1, r2⟩ := h
    refine ⟨_, (pss_cons (ps_asg (pe_call Gp.ok hr rfl Gp.m Gp.kp Gp.b .nil (E := E) (passes_call (takes_of rfl rfl rfl rfl) (fun _ _ _ _ h => h)) (pa_cons (pv 0) (pa_cons pe_str pa_nil))) (pg_tup (by rfl) (pgs_cons (pg_name (i := 2) scShare.nd rfl (Or.inl rfl)) (pgs_cons (pg_name (i := 3) scShare.nd rfl (Or.inl rfl)) pgs_nil))))
      (pss_cons (ps_asg (pe_call Gp.ok hr rfl Gp.m Gp.kp Gp.b .nil (E := E) (passes_call (takes_of rfl rfl rfl rfl) (fun _ _ _ _ h => h)) (pa_cons (pv 1) (pa_cons pe_str pa_nil))) (pg_tup (by rfl) (pgs_cons (pg_name (i := 4) scShare.nd rfl (Or.inl rfl)) (pgs_cons (pg_name (i := 5) scShare.nd rfl (Or.inl rfl)) pgs_nil))))
      (pss_cons (ps_if (pt_cmpR op_eq (pv 4) pe_int (nomark _))
        (pss_one (ps_raise rfl (takes_of rfl rfl rfl rfl) (pmk_oex N.ox N.iC N.tI N.ok (hr.mono (by decide)) N.b .nil pass0 (by rfl) N.m (pa_cons pe_str (pa_cons (pv 1) pa_nil)))))
        pss_nil)
      (pss_one (ps_ret (pe_call Gl.ok (hr.mono (by decide)) rfl Gl.m Gl.kp Gl.b .nil pass0 (pa_cons (pe_op op_mulW (pv 2) (pv 5)) (pa_cons (pe_op op_mulW (pv 3) (pv 4)) pa_nil)))))))), ?_⟩
    refine ⟨_, rfl, v, .str "ratio", d, rfl, hd, fun t b hp p H1 s1 e1 => ?_, r1⟩
    have r2 := r2 (by rw [hp]; rfl)
    have q := fun x c he => q t b x c hp he
    refine ⟨p, _, rfl, SqT.of e1, rfl, _, _, rfl, _, _, rfl, rfl, ?_⟩
    refine ⟨_, rfl, u, .str "ratio", e, rfl, he'.mono s1, fun x c he p2 H2 s2 e2 => ?_, fun z => (r2 z).same s1⟩
    refine ⟨p2, _, rfl, SqT.of e2, rfl, _, _, rfl, _, _, rfl, rfl, ?_⟩
    obtain ⟨ht, hb, hx, hc, q⟩ := q x c he
    have s12 := s1.trans s2
    refine ⟨_, rfl, rfl, _, rfl, ?_⟩
    by_cases hx0 : x = 0
    · rw [decide_eq_true (by rw [hx0])]
      refine iteT ?_
      refine ⟨_, rfl, (by show 2 ≤ 1000; decide), ?_⟩
      exact raise_end rfl fun dd H4 s4 n4 e4 => (q.1 hx0).same s12 dd H4 s4 n4 e4
    · rw [decide_eq_false (fun z => hx0 (by have z2 := V.int.inj z; exact z2))]
      refine iteF ?_
      have hb0 := parts_pos hp
      refine ⟨_, rfl, _, rfl, _, _, rfl, rfl, sz_mulW ht hc, _, rfl, _, rfl, _, _, rfl, rfl, sz_mulW hb hx, _, _, rfl, Int.mul_ne_zero (by omega) hx0, Nat.lt_trans (sz_mul hb hx) (by decide +kernel), fun p H4 s4 n4 e4 => ?_⟩
      exact q.2 hx0 p H4 (s12.trans s4) e4
abbrev sLower : Stmt := topS 20
theorem scLower : FnScope ["one", "other", "top", "bottom", "other_top", "other_bottom"] ["one", "other"] (defScope sLower) := ⟨rfl, rfl, rfl, by decide +kernel, rfl, by decide +kernel, by decide +kernel⟩
theorem ok_lower {f : Addr} {fd : FuncData} (F : Fun K "lower" "lower" sLower f fd) (Gp : Dx P w K mg base "parts_of" 3 ["value", "what"] (spParts K CN)) (Gl : Df P w K mg base "lowest" 1 ["top", "bottom"] spLow) (N : Ex P w K mg base "BadNumber" CN ["what", "number"]) :
    FnOk P w K mg base (L2.CX P w) 4 f fd ["one", "other"] (spTwo K CN okLower) := by
  refine F.okX scLower (fun vs H Q E h => ?_) (fun cdv A outer s H vs Q E hr h => ?_)
  · obtain ⟨v, u, d, e, rfl, _⟩ := h
    rfl
  · obtain ⟨v, u, d, e, rfl, hd, he', q, r1, r2⟩ := h
    refine ⟨_, (pss_cons (ps_asg (pe_call Gp.ok hr rfl Gp.m Gp.kp Gp.b .nil (E := E) (passes_call (takes_of rfl rfl rfl rfl) (fun _ _ _ _ h => h)) (pa_cons (pv 0) (pa_cons pe_str pa_nil))) (pg_tup (by rfl) (pgs_cons (pg_name (i := 2) scLower.nd rfl (Or.inl rfl)) (pgs_cons (pg_name (i := 3) scLower.nd rfl (Or.inl rfl)) pgs_nil))))
      (pss_cons (ps_asg (pe_call Gp.ok hr rfl Gp.m Gp.kp Gp.b .nil (E := E) (passes_call (takes_of rfl rfl rfl rfl) (fun _ _ _ _ h => h)) (pa_cons (pv 1) (pa_cons pe_str pa_nil))) (pg_tup (by rfl) (pgs_cons (pg_name (i := 4) scLower.nd rfl (Or.inl rfl)) (pgs_cons (pg_name (i := 5) scLower.nd rfl (Or.inl rfl)) pgs_nil))))
      (pss_one (ps_ret (pe_cmpR op_lt (pe_op op_mulW (pv 2) (pv 5)) (pe_op op_mulW (pv 4) (pv 3)) (nomark _)))))), ?_⟩
    refine ⟨_, rfl, v, .str "ratio", d, rfl, hd, fun t b hp p H1 s1 e1 => ?_, r1⟩
    have r2 := r2 (by rw [hp]; rfl)
    have q := fun x c he => q t b x c hp he
    refine ⟨p, _, rfl, SqT.of e1, rfl, _, _, rfl, _, _, rfl, rfl, ?_⟩
    refine ⟨_, rfl, u, .str "ratio", e, rfl, he'.mono s1, fun x c he p2 H2 s2 e2 => ?_, fun z => (r2 z).same s1⟩
    refine ⟨p2, _, rfl, SqT.of e2, rfl, _, _, rfl, _, _, rfl, rfl, ?_⟩
    obtain ⟨ht, hb, hx, hc, q⟩ := q x c he
    have s12 := s1.trans s2
    refine ⟨_, rfl, _, rfl, _, _, rfl, rfl, sz_mulW ht hc, _, rfl, _, rfl, _, _, rfl, rfl, sz_mulW hx hb, _, _, rfl, rfl, ?_⟩
    exact q _ s12
end
def spGcd : Sp := fun vs H Q _ => ∃ a b : Int, vs = [.int a, .int b] ∧ a.natAbs < 2 ^ big ∧ b.natAbs < 2 ^ big ∧ Q (.int ((Nat.gcd a.natAbs b.natAbs : Nat) : Int)) H
def spQ : Sp := fun vs H Q _ => ∃ t b : Int, vs = [.int t, .int b] ∧ b ≠ 0 ∧ t.natAbs < 2 ^ big ∧ b.natAbs < 2 ^ big ∧ ∀ (p : Addr) (H' : Hp), Same H H' → H p = none → H' p = some (.tup [.int (low t b).1, .int (low t b).2]) → Q (.ref p) H'
section
variable {P : Program} {w : World} {K : PySem.W.Frag} {mg : Str → Option Value} {base : Heap} {CN : Addr}
abbrev sLGcd : Stmt := topS 49
abbrev sLQ : Stmt := topS 50
theorem scLGcd : FnScope ["_law_one", "_law_two", "_law_lap"] ["_law_one", "_law_two"] (defScope sLGcd) := ⟨rfl, rfl, rfl, by decide +kernel, rfl, by decide +kernel, by decide +kernel⟩
theorem ok_lgcd {f : Addr} {fd : FuncData} (F : Fun K "_law_gcd" "_law_gcd" sLGcd f fd) (T : Bk mg) : FnOk P w K mg base CX0 1 f fd ["_law_one", "_law_two"] spGcd := by
  refine F.ok scLGcd (fun vs H Q E h => ?_) (fun cdv A outer s H vs Q E hr h => ?_)
  · obtain ⟨a, b, rfl, _⟩ := h
    rfl
  · obtain ⟨a, b, rfl, ha, hb, q⟩ := h
    refine ⟨_, (pss_cons (ps_par (i := 0) (j := 1) (by rfl) scLGcd.nd rfl rfl (by decide) rfl rfl (pa_cons (pe_callB call_abs (by rfl) T.abs (by decide +kernel) (pa_cons (pv 0) pa_nil)) (pa_cons (pe_callB call_abs (by rfl) T.abs (by decide +kernel) (pa_cons (pv 1) pa_nil)) pa_nil)) (by rfl))
      (pss_cons (ps_for PassesOwn.never rfl (pi_range1 (by rfl) T.range (pa_cons pe_int pa_nil)) (pg_name (i := 2) scLGcd.nd rfl (Or.inl rfl))
        (pss_cons (ps_if (pt_cmpR op_eq (pv 1) pe_int (nomark _)) (pss_one ps_break) pss_nil)
        (pss_one (ps_par (i := 0) (j := 1) (by rfl) scLGcd.nd rfl rfl (by decide) rfl rfl (pa_cons (pv 1) (pa_cons (pe_op op_mod (pe_callTy call_int1 (by rfl) T.int (by decide +kernel) (pa_cons (pv 0) pa_nil)) (pv 1)) pa_nil)) (by rfl)))))
      (pss_one (ps_ret (pv 0))))), ?_⟩
    refine ⟨_, rfl, _, rfl, _, rfl, _, rfl, _, _, rfl, ?_⟩
    refine ⟨50000, rfl, by decide, by decide, for_range (lo := 0) (n := 50000) (fun i σ H2 => H2 = H ∧ ∃ (x y : Int) (v : Option V), σ = [some (.int x), some (.int y), v] ∧ Lap (Nat.gcd a.natAbs b.natAbs) (a.natAbs * b.natAbs) i x y) ⟨rfl, _, _, none, rfl, lap0 a b⟩ ?_ ?_⟩
    · rintro i σ H2 hi ⟨rfl, x, y, v, rfl, h⟩
      refine ⟨_, rfl, rfl, _, rfl, ?_⟩
      by_cases hy : y = 0
      · rw [decide_eq_true (by rw [hy])]
        refine iteT ?_
        refine ⟨_, rfl, ?_⟩
        have e := lap_end h hy
        rw [e]
        exact q
      · rw [decide_eq_false (fun z => hy (by have z2 := V.int.inj z; exact z2))]
        refine iteF ?_
        have y0 := h.b0
        refine ⟨_, rfl, _, rfl, .inl ⟨_, rfl, _, rfl, _, _, rfl, rfl, (by show 0 < y; omega), _, _, rfl, ?_⟩⟩
        exact ⟨rfl, _, _, _, rfl, lap_next h hy⟩
    · rintro σ H2 ⟨rfl, x, y, v, rfl, h⟩
      have hP : a.natAbs * b.natAbs < 2 ^ (50000 - 1) := by
        have z : a.natAbs * b.natAbs < 2 ^ (big + big) := by
          rw [Nat.pow_add]
          exact Nat.mul_lt_mul'' ha hb
        exact Nat.lt_trans z (Nat.pow_lt_pow_right (by decide) (by decide))
      have e := lap_end h (lap_over h (by decide) hP)
      refine ⟨_, rfl, ?_⟩
      rw [e]
      exact q
theorem scLQ : FnScope ["_law_top", "_law_bottom", "_law_by"] ["_law_top", "_law_bottom"] (defScope sLQ) := ⟨rfl, rfl, rfl, by decide +kernel, rfl, by decide +kernel, by decide +kernel⟩
theorem ok_lq {f : Addr} {fd : FuncData} (F : Fun K "_law_q" "_law_q" sLQ f fd) (G : Df P w K mg base "_law_gcd" 1 ["_law_one", "_law_two"] spGcd) : FnOk P w K mg base CX0 2 f fd ["_law_top", "_law_bottom"] spQ := by
  refine F.ok scLQ (fun vs H Q E h => ?_) (fun cdv A outer s H vs Q E hr h => ?_)
  · obtain ⟨t, b, rfl, _⟩ := h
    rfl
  · obtain ⟨t, b, rfl, hb, ht, hz, q⟩ := h
    refine ⟨_, (pss_cons (ps_set (i := 2) scLQ.nd rfl (Or.inl rfl) (pe_call G.ok hr rfl G.m G.kp G.b .nil pass0 (pa_cons (pv 0) (pa_cons (pv 1) pa_nil))))
      (pss_cons (ps_set (i := 2) scLQ.nd rfl (Or.inl rfl) (pe_ifExp (pt_cmpR op_lt (pv 1) pe_int (nomark _)) (pe_un un_neg (pv 2)) (pv 2)))
      (pss_one (ps_ret (pe_tup (pa_cons (pe_op op_fdivZ (pv 0) (pv 2)) (pa_cons (pe_op op_fdivZ (pv 1) (pv 2)) pa_nil))))))), ?_⟩
    have tail : ∀ s : Int, s = sg t b → (∀ p, H p = none → Q (.ref p) (upd H p (.tup [.int (t.fdiv s), .int (b.fdiv s)]))) := fun s e p np => by
      rw [e]
      exact q p _ (same_upd np) np upd_same
    refine ⟨_, rfl, _, rfl, t, b, rfl, ht, hz, _, rfl, _, _, rfl, rfl, _, rfl, ?_⟩
    refine ite2 (fun hlt => ?_) (fun hlt => ?_)
    · have h2 : b < 0 := of_decide_eq_true hlt
      have e : -((Nat.gcd t.natAbs b.natAbs : Nat) : Int) = sg t b := by unfold sg; rw [if_pos h2]
      have c : ∀ x : Int, CDivZ x (-((Nat.gcd t.natAbs b.natAbs : Nat) : Int)) := fun x => by rw [e]; exact sg_cdiv hb hz
      exact ⟨_, rfl, _, rfl, _, rfl, _, rfl, _, _, rfl, rfl, c _, _, rfl, _, rfl, _, _, rfl, rfl, c _, (by show 2 ≤ sizeLine; decide), tail _ e⟩
    · have h2 : ¬ b < 0 := fun z => hlt (decide_eq_true z)
      have e : ((Nat.gcd t.natAbs b.natAbs : Nat) : Int) = sg t b := by unfold sg; rw [if_neg h2]
      have c : ∀ x : Int, CDivZ x ((Nat.gcd t.natAbs b.natAbs : Nat) : Int) := fun x => by rw [e]; exact sg_cdiv hb hz
      exact ⟨_, rfl, _, rfl, _, rfl, _, _, rfl, rfl, c _, _, rfl, _, rfl, _, _, rfl, rfl, c _, (by show 2 ≤ sizeLine; decide), tail _ e⟩
end
end Vf
set_option maxRecDepth 100000
set_option maxHeartbeats 4000000
namespace Vf
open PySem PySem.Spec PyProof.Rows L2
section
variable {X : Cx} {tg : Expr}
/-- a walk over a list or a tuple -/
def iSeq (K : PySem.W.Frag) (tl : TE) : TI := fun σ H R => tl σ H fun x H1 => ∃ a, x = .ref a ∧ ((∃ xs, SqL K H1 a xs ∧ R (Itl K a) H1) ∨ (∃ xs, SqT K H1 a xs ∧ R (Itt K a) H1))
theorem pi_seq {l : Expr} {tl : TE} (hl : PE X l tl) : PI X tg l (iSeq X.K tl) := by
  refine ⟨fun pins s σ H R I h => ?_⟩
  refine thn (hl.run pins s σ H _ I h) fun v s1 ⟨x, H1, I1, r1, q1⟩ => ?_
  obtain ⟨a, e, q1⟩ := q1
  subst e
  rcases q1 with ⟨xs, hq, q⟩ | ⟨xs, hq, q⟩
  · cases r1
    obtain ⟨its, rv, p, hz⟩ := I1.list hq
    refine wpAny_pyIter_list p.isList ?_
    refine ⟨s1.heap.objs.size, [s1.heap.objs.size], _, _, H1, rfl, I1.kept (t' := s1.toks) fun b o e => Heap.get?_push_of_some _ e, turn_list a _, ⟨_, Heap.get?_push_size _ rfl, rfl, rfl⟩, fun b hb => ?_, q⟩
    have e : b = s1.heap.objs.size := by simpa using hb
    subst e
    exact I1.fpOk (Nat.le_refl _) (I1.hok.fresh (Nat.le_refl _))
  · cases r1
    obtain ⟨its, rv, p, hz⟩ := I1.tuple hq
    refine wpAny_pyIter_tuple (show s1.heap.IsTuple a its.toArray from p) ?_
    refine ⟨s1.heap.objs.size, [s1.heap.objs.size], _, _, H1, rfl, I1.kept (t' := s1.toks) fun b o e => Heap.get?_push_of_some _ e, turn_tuple a _, ⟨_, Heap.get?_push_size _ rfl, rfl, rfl⟩, fun b hb => ?_, q⟩
    have e : b = s1.heap.objs.size := by simpa using hb
    subst e
    exact I1.fpOk (Nat.le_refl _) (I1.hok.fresh (Nat.le_refl _))
/-- == and != of data without dicts -/
def rEqT (K : PySem.W.Frag) : R2 := fun x y H Q => ∃ d e, Dt K H x d ∧ Dt K H y e ∧ d.plain = true ∧ e.plain = true ∧ d.depth ≤ 60 ∧ Q (.bl (PyData.eqv d e)) H
def rNeT (K : PySem.W.Frag) : R2 := fun x y H Q => ∃ d e, Dt K H x d ∧ Dt K H y e ∧ d.plain = true ∧ e.plain = true ∧ d.depth ≤ 60 ∧ Q (.bl (!PyData.eqv d e)) H
theorem op_eqT (hu : X.A.units + 64 < cLine) (m : M1 X.base) : OpR X (compareOp .Eq) (rEqT X.K) := by
  intro pins s σ H x y v u Q I rx ry h
  obtain ⟨d, e, hd, he, pd, pe, hz, q⟩ := h
  obtain ⟨as, r1, _⟩ := Dt.reads I m hd rx
  obtain ⟨bs, r2, _⟩ := Dt.reads I m he ry
  exact SeqAt.eq_plain r1 r2 pd pe (by have := Nat.min_le_left d.depth e.depth; omega) ⟨.bl _, H, I, rfl, q⟩
theorem op_neT (hu : X.A.units + 64 < cLine) (m : M1 X.base) : OpR X (compareOp .NotEq) (rNeT X.K) := by
  intro pins s σ H x y v u Q I rx ry h
  obtain ⟨d, e, hd, he, pd, pe, hz, q⟩ := h
  obtain ⟨as, r1, _⟩ := Dt.reads I m hd rx
  obtain ⟨bs, r2, _⟩ := Dt.reads I m he ry
  exact SeqAt.ne_plain r1 r2 pd pe (by have := Nat.min_le_left d.depth e.depth; omega) ⟨.bl _, H, I, rfl, q⟩
end
/-- what is new in the second heap -/
def nw (H H' : Hp) : Hp := fun b => match H b with
  | some _ => none
  | none => H' b
theorem nw_at {H H' : Hp} {b : Addr} {o : HO} (h : H b = none) (e : H' b = some o) : nw H H' b = some o := by
  unfold nw
  rw [h]
  exact e
theorem nw_get {H H' : Hp} {b : Addr} {o : HO} (e : nw H H' b = some o) : H b = none ∧ H' b = some o := by
  unfold nw at e
  split at e
  · cases e
  · exact ⟨by assumption, e⟩
/-- the heap without l and p -/
def fz (l p : Addr) (H : Hp) : Hp := fun b => if b = l ∨ b = p then none else H b
theorem fz_at {l p b : Addr} {H : Hp} {o : HO} (h1 : b ≠ l) (h2 : b ≠ p) (e : H b = some o) : fz l p H b = some o := by
  unfold fz
  rw [if_neg (fun z => z.elim h1 h2)]
  exact e
theorem fz_get {l p b : Addr} {H : Hp} {o : HO} (e : fz l p H b = some o) : b ≠ l ∧ b ≠ p ∧ H b = some o := by
  unfold fz at e
  by_cases h : b = l ∨ b = p
  · rw [if_pos h] at e
    cases e
  · rw [if_neg h] at e
    exact ⟨fun z => h (.inl z), fun z => h (.inr z), e⟩
theorem fz_sub {l p : Addr} {H : Hp} : Same (fz l p H) H := fun b o e => (fz_get e).2.2
theorem fz_mono {l p : Addr} {H H' : Hp} (k : ∀ b o, b ≠ l → b ≠ p → H b = some o → H' b = some o) : Same (fz l p H) (fz l p H') := fun b o e => by
  obtain ⟨h1, h2, h3⟩ := fz_get e
  exact fz_at h1 h2 (k b o h1 h2 h3)
theorem nw_fz {l p : Addr} {H H' : Hp} {o1 o2 : HO} (hl : H l = some o1) (hp : H p = some o2) : Same (nw H H') (fz l p H') := fun b o e => by
  obtain ⟨h1, h2⟩ := nw_get e
  exact fz_at (fun z => by rw [z, hl] at h1; cases h1) (fun z => by rw [z, hp] at h1; cases h1) h2
theorem some_free {p b : Addr} {H H' : Hp} {o : HO} (k : ∀ c u, c ≠ p → H c = some u → H' c = some u) (hp : H' p = some o) (n : H' b = none) : H b = none := by
  cases e : H b with
  | none => rfl
  | some u =>
    by_cases h : b = p
    · rw [h, hp] at n
      cases n
    · rw [k b u h e] at n
      cases n
def pairD (p : Int × Int) : PyData := .tuple [.int p.1, .int p.2]
/-- a row without the zeros behind -/
def strip (l : List (Int × Int)) : List (Int × Int) := (l.reverse.dropWhile fun p => p.1 == 0).reverse
theorem strip_nil : strip [] = [] := rfl
theorem strip_snoc (l : List (Int × Int)) (x : Int × Int) : strip (l ++ [x]) = if x.1 = 0 then strip l else l ++ [x] := by
  unfold strip
  rw [List.reverse_append]
  simp only [List.reverse_cons, List.reverse_nil, List.nil_append, List.singleton_append, List.dropWhile_cons, beq_iff_eq]
  split
  · rfl
  · rw [List.reverse_cons, List.reverse_reverse]
theorem snoc_ind {α : Type} {P : List α → Prop} (h0 : P []) (hs : ∀ l x, P l → P (l ++ [x])) : ∀ l, P l := fun l => by
  have h : ∀ r : List α, P r.reverse := fun r => by
    induction r with
    | nil => exact h0
    | cons x r ih => rw [List.reverse_cons]; exact hs _ _ ih
  have z := h l.reverse
  rw [List.reverse_reverse] at z
  exact z
theorem snoc_cases {α : Type} (l : List α) : l = [] ∨ ∃ r x, l = r ++ [x] := snoc_ind (P := fun l => l = [] ∨ ∃ r x, l = r ++ [x]) (.inl rfl) (fun l x _ => .inr ⟨l, x, rfl⟩) l
/-- tuples of two whole numbers each, at their addresses -/
inductive Tups (H : Hp) : List Addr → List (Int × Int) → Prop
  | nil : Tups H [] []
  | cons {a : Addr} {as : List Addr} {p : Int × Int} {ps : List (Int × Int)} : H a = some (.tup [.int p.1, .int p.2]) → Tups H as ps → Tups H (a :: as) (p :: ps)
theorem Tups.len {H : Hp} : ∀ {as : List Addr} {ps : List (Int × Int)}, Tups H as ps → as.length = ps.length
  | _, _, .nil => rfl
  | _, _, .cons _ t => congrArg (· + 1) t.len
theorem Tups.imp {H H' : Hp} (e : ∀ (a : Addr) (p : Int × Int), H a = some (.tup [.int p.1, .int p.2]) → H' a = some (.tup [.int p.1, .int p.2])) : ∀ {as : List Addr} {ps : List (Int × Int)}, Tups H as ps → Tups H' as ps
  | _, _, .nil => .nil
  | _, _, .cons h t => .cons (e _ _ h) (t.imp e)
theorem Tups.same {H H' : Hp} (e : Same H H') {as : List Addr} {ps : List (Int × Int)} (h : Tups H as ps) : Tups H' as ps := h.imp fun a p q => e _ _ q
theorem Tups.snoc {H : Hp} : ∀ {as : List Addr} {ps : List (Int × Int)} {a : Addr} {p : Int × Int}, Tups H as ps → H a = some (.tup [.int p.1, .int p.2]) → Tups H (as ++ [a]) (ps ++ [p])
  | _, _, _, _, .nil, h => .cons h .nil
  | _, _, _, _, .cons h t, h2 => .cons h (t.snoc h2)
theorem Tups.unsnoc {H : Hp} : ∀ {as : List Addr} {ps : List (Int × Int)} {p : Int × Int}, Tups H as (ps ++ [p]) → ∃ as' a, as = as' ++ [a] ∧ Tups H as' ps ∧ H a = some (.tup [.int p.1, .int p.2])
  | _, [], _, .cons h .nil => ⟨[], _, rfl, .nil, h⟩
  | _, _ :: _, _, .cons h t => by
    obtain ⟨as', a, e, t', h'⟩ := t.unsnoc
    exact ⟨_ :: as', a, by rw [e]; rfl, .cons h t', h'⟩
theorem Tups.dts {K : PySem.W.Frag} {H : Hp} : ∀ {as : List Addr} {ps : List (Int × Int)}, Tups H as ps → Dts K H (as.map V.ref) (ps.map pairD)
  | _, _, .nil => .nil
  | _, _, .cons h t => .cons (.tup (SqT.of h) (.cons (.int _) (.cons (.int _) .nil))) t.dts
theorem Tups.app {H : Hp} : ∀ {as bs : List Addr} {ps qs : List (Int × Int)}, Tups H as ps → Tups H bs qs → Tups H (as ++ bs) (ps ++ qs)
  | _, _, _, _, .nil, h => h
  | _, _, _, _, .cons a t, h => .cons a (t.app h)
theorem Tups.take {H : Hp} : ∀ {as : List Addr} {ps : List (Int × Int)} (n : Nat), Tups H as ps → Tups H (as.take n) (ps.take n)
  | _, _, 0, _ => .nil
  | _, _, _ + 1, .nil => .nil
  | _, _, n + 1, .cons a t => .cons a (t.take n)
theorem Tups.at {H : Hp} : ∀ {as : List Addr} {ps : List (Int × Int)} {i : Nat} {a : Addr}, Tups H as ps → as[i]? = some a → ∃ p, ps[i]? = some p ∧ H a = some (.tup [.int p.1, .int p.2])
  | _, _, _, _, .nil, e => by simp at e
  | _, _, 0, _, .cons h _, e => by simp at e; subst e; exact ⟨_, rfl, h⟩
  | _, _, i + 1, a, .cons _ t, e => by
    obtain ⟨d, h1, h2⟩ := t.at (i := i) (a := a) (by simpa using e)
    exact ⟨d, by simpa using h1, h2⟩
theorem eqv_pair (p q : Int × Int) : PyData.eqv (pairD p) (pairD q) = decide (p = q) := by
  obtain ⟨a, b⟩ := p
  obtain ⟨c, d⟩ := q
  unfold pairD
  simp only [PyData.eqv, PyData.eqvAll, Bool.and_true]
  by_cases h1 : a = c <;> by_cases h2 : b = d <;> simp [h1, h2]
theorem eqvAll_pairs : ∀ l r : List (Int × Int), PyData.eqvAll (l.map pairD) (r.map pairD) = decide (l = r)
  | [], [] => by simp [PyData.eqvAll]
  | [], _ :: _ => by simp [PyData.eqvAll]
  | _ :: _, [] => by simp [PyData.eqvAll]
  | p :: l, q :: r => by
    simp only [List.map_cons, PyData.eqvAll, eqv_pair, eqvAll_pairs l r]
    by_cases h1 : p = q <;> by_cases h2 : l = r <;> simp [h1, h2]
theorem eqv_row (l r : List (Int × Int)) : PyData.eqv (.tuple (l.map pairD)) (.tuple (r.map pairD)) = decide (l = r) := by
  simp only [PyData.eqv]
  exact eqvAll_pairs l r
theorem eqv_rowL (l r : List (Int × Int)) : PyData.eqv (.list (l.map pairD)) (.list (r.map pairD)) = decide (l = r) := by
  simp only [PyData.eqv]
  exact eqvAll_pairs l r
theorem plain_pairs : ∀ l : List (Int × Int), PyData.plainAll (l.map pairD) = true
  | [] => by simp only [List.map_nil, PyData.plainAll]
  | p :: l => by
    simp only [List.map_cons, PyData.plainAll, plain_pairs l, pairD, PyData.plain, Bool.and_self]
theorem plain_row (l : List (Int × Int)) : (PyData.tuple (l.map pairD)).plain = true ∧ (PyData.list (l.map pairD)).plain = true := by
  simp only [PyData.plain]
  exact ⟨plain_pairs l, plain_pairs l⟩
theorem depth_pairs : ∀ l : List (Int × Int), PyData.depthAll (l.map pairD) ≤ 1
  | [] => by simp only [List.map_nil, PyData.depthAll]; omega
  | p :: l => by
    have h := depth_pairs l
    simp only [List.map_cons, PyData.depthAll, pairD, PyData.depth]
    exact Nat.max_le.mpr ⟨by simp, h⟩
theorem depth_row (l : List (Int × Int)) : (PyData.tuple (l.map pairD)).depth ≤ 60 ∧ (PyData.list (l.map pairD)).depth ≤ 60 := by
  have h := depth_pairs l
  simp only [PyData.depth]
  omega
/-- a comprehension over a list or a tuple -/
theorem lc_seq {K : PySem.W.Frag} {a : Addr} {xs : List V} {g : TG} {tt : TT} {te : TE} {vs : List Nat} {σ : L2.St} {H1 : Hp} {Qd : Addr → Hp → Prop} (h : SqL K H1 a xs ∨ SqT K H1 a xs) (Pv : Addr → Nat → Hp → Prop)
    (h0 : ∀ D, H1 D = none → Pv D 0 (upd H1 D (.lst []))) (hl : ∀ D i H, H1 D = none → Pv D i H → (SqL K H1 a xs → SqL K H a xs) ∧ (SqT K H1 a xs → SqT K H a xs))
    (hs : ∀ D i x H, H1 D = none → xs[i]? = some x → Pv D i H → g x (wipe σ vs) H fun σ2 H2 => wipe σ2 vs = wipe σ vs ∧ tt σ2 H2 fun b H3 =>
      if b = true then te σ2 H3 fun y H4 => ∃ acc, H4 D = some (.lst acc) ∧ acc.length < sizeLine ∧ Pv D (i + 1) (upd H4 D (.lst (acc ++ [y]))) else Pv D (i + 1) H3) (hd : ∀ D H, H1 D = none → Pv D xs.length H → Qd D H) :
    (∃ xs, SqL K H1 a xs ∧ ∀ D, H1 D = none → ∃ W : Nat → Nat → Hp → Prop, (∃ m, W 0 m (upd H1 D (.lst []))) ∧ ∀ i m H, W i m H →
      (((Itl K a).stop i H ∧ Qd D H) ∨ ((Itl K a).go i H ∧ ∃ Nx : Hp → Prop, (∀ H', Nx H' → ∃ m', m' < m ∧ W (i + 1) m' H') ∧ ∀ x H', (Itl K a).yld i H x H' → g x (wipe σ vs) H' fun σ2 H2 => wipe σ2 vs = wipe σ vs ∧ tt σ2 H2 fun b H3 =>
        if b = true then te σ2 H3 fun y H4 => ∃ acc, H4 D = some (.lst acc) ∧ acc.length < sizeLine ∧ Nx (upd H4 D (.lst (acc ++ [y]))) else Nx H3))) ∨
    (∃ xs, SqT K H1 a xs ∧ ∀ D, H1 D = none → ∃ W : Nat → Nat → Hp → Prop, (∃ m, W 0 m (upd H1 D (.lst []))) ∧ ∀ i m H, W i m H →
      (((Itt K a).stop i H ∧ Qd D H) ∨ ((Itt K a).go i H ∧ ∃ Nx : Hp → Prop, (∀ H', Nx H' → ∃ m', m' < m ∧ W (i + 1) m' H') ∧ ∀ x H', (Itt K a).yld i H x H' → g x (wipe σ vs) H' fun σ2 H2 => wipe σ2 vs = wipe σ vs ∧ tt σ2 H2 fun b H3 =>
        if b = true then te σ2 H3 fun y H4 => ∃ acc, H4 D = some (.lst acc) ∧ acc.length < sizeLine ∧ Nx (upd H4 D (.lst (acc ++ [y]))) else Nx H3))) := by
  rcases h with h | h
  · exact .inl ⟨xs, h, fun D hD => lc_list (K := K) (a := a) (xs := xs) (Pv D) (h0 D hD) (fun i H _ p => (hl D i H hD p).1 h) (fun i x H hi p => hs D i x H hD hi p) (fun H p => hd D H hD p)⟩
  · exact .inr ⟨xs, h, fun D hD => lc_tup (K := K) (a := a) (xs := xs) (Pv D) (h0 D hD) (fun i H _ p => (hl D i H hD p).2 h) (fun i x H hi p => hs D i x H hD hi p) (fun H p => hd D H hD p)⟩
end Vf
set_option maxRecDepth 100000
set_option maxHeartbeats 8000000
set_option maxRecDepth 100000
set_option maxHeartbeats 8000000
namespace Vf
open PySem PySem.Spec PyProof.Rows L2
/-- below 2 ^ 1200 in size -/
def S80 (z : Int) : Prop := z.natAbs < 2 ^ 1200
theorem s80_k {t k : Int} (h : S80 t) (h0 : 0 < k) (h3 : k ≤ 3) : (t * k).natAbs < 2 ^ 1210 := by
  unfold S80 at h
  rw [Int.natAbs_mul]
  have hk : k.natAbs ≤ 3 := by omega
  have : t.natAbs * k.natAbs ≤ t.natAbs * 3 := Nat.mul_le_mul_left _ hk
  have e : (2 : Nat) ^ 1210 = 2 ^ 1200 * 1024 := by decide +kernel
  rw [e]
  omega
theorem gd_z {z : Int} (h : z.natAbs < 2 ^ 1210) : Gd (.int z) := gd_int (Nat.lt_trans h (Nat.pow_lt_pow_right (by decide) (by decide)))
theorem gd_pair {a b : Int} (ha : a.natAbs < 2 ^ 1210) (hb : b.natAbs < 2 ^ 1210) : Gd (.list [.int a, .int b]) ∧ Gd (.tuple [.int a, .int b]) := by
  have ga := gd_z ha
  have gb := gd_z hb
  have all : ∀ d ∈ [PyData.int a, PyData.int b], d = .int a ∨ d = .int b := fun d hd => by simpa using hd
  have big : ∀ {z : Int}, z.natAbs < 2 ^ 1210 → (PyData.int z).shown.length ≤ 2000 := fun {z} h => by
    simp only [PyData.shown]
    exact Nat.le_trans (int_text_len_1921 (log_small (Nat.lt_trans h (Nat.pow_lt_pow_right (by decide) (by decide))))) (by decide)
  refine gd_seq (ds := [.int a, .int b]) (n := 2) (m := 2000) (Nat.le_refl 2) (fun d hd => ?_) (fun d hd => ?_) (fun d hd => ?_) (by decide)
  · rcases all d hd with h | h <;> rw [h]
    · exact ga.sh
    · exact gb.sh
  · rcases all d hd with h | h <;> rw [h] <;> simp [PyData.depth]
  · rcases all d hd with h | h <;> rw [h]
    · exact big ha
    · exact big hb
def spPassed (K : PySem.W.Frag) : Sp := fun vs H Q _ => ∃ (p lc r : Addr) (B t b : Int), vs = [.ref p, .ref r] ∧ Pen H p lc B ∧ B ≤ 100000000 ∧ H r = some (.tup [.int t, .int b]) ∧ 0 < b ∧ S80 t ∧ S80 b ∧
  ∀ (v : V) (d : PyData) (k : Int) (H' : Hp), Pen H' p lc (B + 3) → Kp p H H' → Dt K (nw H H') v d → partsD d = some (t * k, b * k) → 0 < k → k ≤ 3 → Gd d → Q v H'
section
variable {P : Program} {w : World} {K : PySem.W.Frag} {mg : Str → Option Value} {base : Heap}
abbrev sPassed : Stmt := topS 57
theorem scPassed : FnScope ["_law_pen_here", "_law_ratio_here", "_law_by"] ["_law_pen_here", "_law_ratio_here"] (defScope sPassed) := ⟨rfl, rfl, rfl, by decide +kernel, rfl, by decide +kernel, by decide +kernel⟩
theorem ok_passed {f : Addr} {fd : FuncData} (F : Fun K "_law_passed" "_law_passed" sPassed f fd) (Gd_ : Df P w K mg base "_law_draw" 1 ["_law_pen_here", "_law_many"] spDraw) (Gp : Df P w K mg base "_law_pick" 2 ["_law_pen_here", "_law_some"] spPick) : FnOk P w K mg base CX0 3 f fd ["_law_pen_here", "_law_ratio_here"] (spPassed K) := by
  refine F.ok scPassed (fun vs H Q E h => ?_) (fun cdv A outer s H vs Q E hr h => ?_)
  · obtain ⟨p, lc, r, B, t, b, rfl, _⟩ := h
    rfl
  · obtain ⟨p, lc, r, B, t, b, rfl, hP, hB, hr0, hb, ht, hbz, q⟩ := h
    have rp : r ≠ p := by
      obtain ⟨_, _, _, _, _, g1, _⟩ := hP
      exact ne_of hr0 g1.1 (by intro z; cases z)
    refine ⟨_, (C8.pss_cut (ps_if (PW.pt (pw_and (pt_cmpR op_eq (pe_ix ix_tup (pv 1) pe_int (fun _ _ => rfl)) pe_int (nomark _)) (pw_and1 (pt_cmpR op_eq (pe_call Gd_.ok (hr.mono (by decide)) rfl Gd_.m Gd_.kp Gd_.b .nil pass0 (pa_cons (pv 0) (pa_cons pe_int pa_nil))) pe_int (nomark _)))))
        (pss_one (ps_ret (pe_ix ix_tup (pv 1) pe_int (fun _ _ => rfl))))
        pss_nil)
      (pss_cons (ps_set (i := 2) scPassed.nd rfl (Or.inl rfl) (pe_call Gp.ok hr rfl Gp.m Gp.kp Gp.b .nil pass0 (pa_cons (pv 0) (pa_cons (pe_lst (pa_cons pe_int (pa_cons pe_int (pa_cons pe_int (pa_cons pe_int pa_nil))))) pa_nil))))
      (pss_one (ps_ret (pe_call Gp.ok hr rfl Gp.m Gp.kp Gp.b .nil pass0 (pa_cons (pv 0) (pa_cons (pe_lst (pa_cons (pe_tup (pa_cons (pe_op op_mul (pe_ix ix_tup (pv 1) pe_int (fun _ _ => rfl)) (pv 2)) (pa_cons (pe_op op_mul (pe_ix ix_tup (pv 1) pe_int (fun _ _ => rfl)) (pv 2)) pa_nil))) (pa_cons (pe_lst (pa_cons (pe_op op_mul (pe_ix ix_tup (pv 1) pe_int (fun _ _ => rfl)) (pv 2)) (pa_cons (pe_op op_mul (pe_ix ix_tup (pv 1) pe_int (fun _ _ => rfl)) (pv 2)) pa_nil))) pa_nil))) pa_nil))))))), ?_⟩
    refine ⟨fun σ H2 => ∃ B1, σ = [some (.ref p), some (.ref r), none] ∧ Pen H2 p lc B1 ∧ B1 ≤ B + 1 ∧ Kp p H H2, ?_, ?_⟩
    · refine ⟨_, rfl, r, _, _, .int b, rfl, rfl, SqT.of hr0, at_of (j := 1) rfl rfl, rfl, _, rfl, ?_⟩
      by_cases hb1 : b = 1
      · rw [decide_eq_true (by rw [hb1])]
        refine iteT ?_
        refine ⟨_, rfl, p, lc, B, _, rfl, hP, by omega, by decide, by decide, fun z H1 z0 z1 hP1 k1 => ⟨rfl, _, rfl, ?_⟩⟩
        have hr1 := k1 _ _ rp hr0
        by_cases hz : z = 0
        · rw [decide_eq_true (by rw [hz])]
          refine iteT ?_
          refine ⟨_, rfl, r, _, _, .int t, rfl, rfl, SqT.of hr1, at_of (j := 0) rfl rfl, ?_⟩
          exact q (.int t) (.int t) 1 H1 (hP1.more (by omega)) k1 (.int t) (by show some (t, 1) = some (t * 1, b * 1); rw [hb1, Int.mul_one, Int.mul_one]) (by decide) (by decide) (gd_z (Nat.lt_trans ht (by decide +kernel)))
        · rw [decide_eq_false (fun h => hz (by have h2 := V.int.inj h; exact h2))]
          refine iteF ?_
          exact ⟨B + 1, rfl, hP1, Int.le_refl _, k1⟩
      · rw [decide_eq_false (fun h => hb1 (by have h2 := V.int.inj h; exact h2))]
        refine iteF ?_
        exact ⟨B, rfl, hP, by omega, Kp.refl⟩
    · rintro σ H1 ⟨B1, rfl, hP1, hB1, k1⟩
      have hr1 := k1 _ _ rp hr0
      refine ⟨_, rfl, (by show 4 ≤ sizeLine; decide), fun l nl => ?_⟩
      have el : upd H1 l (HO.lst [V.int 1, V.int 1, V.int 2, V.int 3]) l = some (HO.lst [V.int 1, V.int 1, V.int 2, V.int 3]) := upd_same
      have s1 : Same H1 (upd H1 l (HO.lst [V.int 1, V.int 1, V.int 2, V.int 3])) := same_upd nl
      have lp : l ≠ p := by
        obtain ⟨o, e⟩ := hP1.there
        exact (ne_of_none e nl).symm
      generalize upd H1 l (HO.lst [V.int 1, V.int 1, V.int 2, V.int 3]) = H2 at el s1 ⊢
      refine ⟨p, lc, l, B1, _, rfl, hP1.same s1, by omega, el, lp, (by show 0 < 4; decide), (by show 4 < 1000000; decide), fun x H3 hx hP3 k3 => ?_⟩
      obtain ⟨k, rfl, hk0, hk3⟩ : ∃ k : Int, x = .int k ∧ 0 < k ∧ k ≤ 3 := by
        simp only [List.mem_cons, List.not_mem_nil, or_false] at hx
        rcases hx with h | h | h | h
        · exact ⟨1, h, by decide, by decide⟩
        · exact ⟨1, h, by decide, by decide⟩
        · exact ⟨2, h, by decide, by decide⟩
        · exact ⟨3, h, by decide, by decide⟩
      have k13 : Kp p H H3 := (k1.trans (Kp.of s1)).trans k3
      have hr3 := k13 _ _ rp hr0
      have mk : ∀ z : Int, CMul z k := fun z => .inr ⟨by omega, by omega⟩
      refine ⟨_, rfl, _, rfl, r, _, _, .int t, rfl, rfl, SqT.of hr3, at_of (j := 0) rfl rfl, _, rfl, _, _, rfl, rfl, mk _, _, rfl, r, _, _, .int b, rfl, rfl, SqT.of hr3, at_of (j := 1) rfl rfl, _, rfl, _, _, rfl, rfl, mk _, (by show 2 ≤ sizeLine; decide), fun t1 n1 => ?_⟩
      have e1 : upd H3 t1 (HO.tup [V.int (t * k), V.int (b * k)]) t1 = some (HO.tup [V.int (t * k), V.int (b * k)]) := upd_same
      have s4 : Same H3 (upd H3 t1 (HO.tup [V.int (t * k), V.int (b * k)])) := same_upd n1
      have tp : t1 ≠ p := by
        obtain ⟨o, e⟩ := hP3.there
        exact (ne_of_none e n1).symm
      generalize upd H3 t1 (HO.tup [V.int (t * k), V.int (b * k)]) = H4 at e1 s4 ⊢
      have hP4 := hP3.same s4
      have hr4 := s4 _ _ hr3
      refine ⟨_, rfl, r, _, _, .int t, rfl, rfl, SqT.of hr4, at_of (j := 0) rfl rfl, _, rfl, _, _, rfl, rfl, mk _, _, rfl, r, _, _, .int b, rfl, rfl, SqT.of hr4, at_of (j := 1) rfl rfl, _, rfl, _, _, rfl, rfl, mk _, (by show 2 ≤ sizeLine; decide), fun l2 n2 => ?_⟩
      have e2 : upd H4 l2 (HO.lst [V.int (t * k), V.int (b * k)]) l2 = some (HO.lst [V.int (t * k), V.int (b * k)]) := upd_same
      have s5 : Same H4 (upd H4 l2 (HO.lst [V.int (t * k), V.int (b * k)])) := same_upd n2
      have l2p : l2 ≠ p := by
        obtain ⟨o, e⟩ := hP4.there
        exact (ne_of_none e n2).symm
      generalize upd H4 l2 (HO.lst [V.int (t * k), V.int (b * k)]) = H5 at e2 s5 ⊢
      have hP5 := hP4.same s5
      refine ⟨(by show 2 ≤ sizeLine; decide), fun l3 n3 => ?_⟩
      have e3 : upd H5 l3 (HO.lst [V.ref t1, V.ref l2]) l3 = some (HO.lst [V.ref t1, V.ref l2]) := upd_same
      have s6 : Same H5 (upd H5 l3 (HO.lst [V.ref t1, V.ref l2])) := same_upd n3
      have l3p : l3 ≠ p := by
        obtain ⟨o, e⟩ := hP5.there
        exact (ne_of_none e n3).symm
      generalize upd H5 l3 (HO.lst [V.ref t1, V.ref l2]) = H6 at e3 s6 ⊢
      have hP6 := hP5.same s6
      refine ⟨p, lc, l3, _, _, rfl, hP6, by omega, e3, l3p, (by show 0 < 2; decide), (by show 2 < 1000000; decide), fun x H7 hx hP7 k7 => ?_⟩
      have k17 : Kp p H H7 := ((k13.trans (Kp.of s4)).trans (Kp.of (s5.trans s6))).trans k7
      have hbk : 0 < b * k := Int.mul_pos hb hk0
      have pr : pair? [.int (t * k), .int (b * k)] = some (t * k, b * k) := by
        show (if 0 < b * k then some (t * k, b * k) else none) = some (t * k, b * k)
        rw [if_pos hbk]
      have gp := gd_pair (s80_k ht hk0 hk3) (s80_k hbz hk0 hk3)
      simp only [List.mem_cons, List.not_mem_nil, or_false] at hx
      rcases hx with h | h
      · rw [h]
        exact q _ (.tuple [.int (t * k), .int (b * k)]) k H7 (hP7.more (by omega)) k17 (.tup (SqT.of (nw_at (some_free k13 hP3.there.choose_spec n1) (k7 _ _ tp (s6 _ _ (s5 _ _ e1))))) (.cons (.int _) (.cons (.int _) .nil))) pr hk0 hk3 gp.2
      · rw [h]
        exact q _ (.list [.int (t * k), .int (b * k)]) k H7 (hP7.more (by omega)) k17 (.lst (SqL.of (nw_at (some_free k13 hP3.there.choose_spec (s4.free n2)) (k7 _ _ l2p (s6 _ _ e2)))) (.cons (.int _) (.cons (.int _) .nil))) pr hk0 hk3 gp.1
end
end Vf
set_option maxRecDepth 100000
set_option maxHeartbeats 4000000
namespace PySem.W
open PySem PySem.Spec PyProof.Rows
section
variable {prog : Program} {w : World} {A : Around} {E : Value → Shared → Prop} {s : Shared} {K : Frag} {x C L f g : Addr} {h₀ : Heap} {m : Str → Option Value} {ox : Obj} {od : Option Obj}
/-- whether a built-in type has a slot for the operator -/
def slotB (r1 r2 : Option Value) : Bool := (r1.isSome && !isSeqSlot r1) || (r2.isSome && !isSeqSlot r2)
theorem fills_type {M : Model} {h : Heap} {nm t : String} {r1 r2 : Option Value} (X : K.In h) (h1 : findIn K (.type t) (PySem.dunder nm) = some r1) (h2 : findIn K (.type t) (PySem.dunderR nm) = some r2) : Looks M h (fillsNumberSlot (.type t) nm) (slotB r1 r2) := by
  intro A Q E s k q
  unfold fillsNumberSlot
  refine wpAny_bind (looks_findIn X h1 A _ E s k ?_)
  refine wpAny_bind (looks_findIn X h2 A _ E s k ?_)
  exact wpAny_pure q
theorem own_slot {M : Model} {h : Heap} {nm : String} (X : K.In h) (hs : findIn K (.ref C) (PySem.dunder nm) = some (some (.ref f))) (hR : findIn K (.ref C) (PySem.dunderR nm) = some (some (.ref g))) : Looks M h (numberSlotInPython (.ref C) nm) true := by
  intro A Q E s k q
  unfold numberSlotInPython
  refine wpAny_bind (looks_findIn X hs A _ E s k ?_)
  refine wpAny_bind (wpAny_pure ?_)
  refine wpAny_bind (looks_findIn X hR A _ E s k ?_)
  refine wpAny_bind (wpAny_pure ?_)
  exact wpAny_pure q
theorem type_slot {M : Model} {h : Heap} {nm t : String} : Looks M h (numberSlotInPython (.type t) nm) false := by
  intro A Q E s k q
  unfold numberSlotInPython
  exact wpAny_pure q
/-- left an object of the class at C, right of a built-in type -/
theorem binop_left {op : Operator} {b : Value} {t : String} {r1 r2 : Option Value} {Q : Value → Shared → Prop} (F : Fr h₀ L s.heap m) (X₀ : K.In h₀) (I : InstAt s.heap x ox C od) (hb : Looks (model prog w) s.heap (typeOf b) (.type t)) (hc : selfFirst K C = true)
    (hs : findIn K (.ref C) (PySem.dunder op.info.2) = some (some (.ref f))) (hf : isFn K (.ref f) = true) (hR : findIn K (.ref C) (PySem.dunderR op.info.2) = some (some (.ref g)))
    (h1 : findIn K (.type t) (PySem.dunder op.info.2) = some r1) (h2 : findIn K (.type t) (PySem.dunderR op.info.2) = some r2) (sub : subIn K (.type t) (.ref C) = some false)
    (h : wpAny (model prog w) A (call (.ref f) [.ref x, b]) (CmpBack Q) E s) : wpAny (model prog w) A (binaryOp op (.ref x) b) Q E s := by
  have X := X₀.keeps F.keep
  obtain ⟨cd, hcd, hm⟩ := any_some hc
  obtain ⟨rest, hm⟩ : ∃ rest, cd.mro = .ref C :: rest := by
    cases q : cd.mro with
    | nil => rw [q] at hm; cases hm
    | cons a r => rw [q] at hm; exact ⟨r, by rw [List.head?_cons] at hm; cases (beq_iff_eq.mp hm); rfl⟩
  unfold binaryOp
  refine wpAny_holding (wpAny_bind ?_)
  unfold binaryOp1
  refine wpAny_bind (I.type.here (wpAny_bind (hb.here (wpAny_bind ((fills_K X hcd hm hs).here ?_)))))
  have ne : (Value.ref C == Value.type t) = false := by rfl
  simp only [ne, if_neg Bool.false_ne_true]
  refine wpAny_bind ((fills_type X h1 h2).here ?_)
  have fin : wpAny (model prog w) A (tryMethod (.ref x) (PySem.dunder op.info.2) b) (fun r s' => ∃ v, r = some v ∧ Q v s') E s := by
    unfold tryMethod
    refine wpAny_bind (special_fn X I hs (beq_iff_eq.mp hf) (wpAny_mono h (fun v s' hv => ?_) fun _ _ e => e))
    cases v <;> first | exact hv.elim | exact wpAny_pure ⟨_, rfl, hv⟩
  cases hsl : slotB r1 r2 with
  | false =>
    simp only [Bool.and_false, Bool.false_eq_true, if_false, Bool.false_and]
    refine wpAny_bind (wpAny_pure ?_)
    simp only [Bool.false_eq_true, if_false]
    refine wpAny_bind (wpAny_mono fin (fun r s' z => ?_) fun _ _ e => e)
    obtain ⟨v, rfl, q⟩ := z
    exact wpAny_pure (wpAny_pure q)
  | true =>
    simp only [Bool.and_self, if_true]
    refine wpAny_bind ((looks_subIn X sub).here ?_)
    simp only [Bool.false_eq_true, if_false, Bool.not_false, Bool.and_self, if_true]
    refine wpAny_bind ((own_slot X hs hR).here ?_)
    simp only [if_true]
    refine wpAny_bind ((type_slot).here ?_)
    simp only [Bool.not_false, if_true]
    refine wpAny_bind ((looks_findIn X h2).here ?_)
    refine wpAny_bind (wpAny_mono fin (fun r s' z => ?_) fun _ _ e => e)
    obtain ⟨v, rfl, q⟩ := z
    exact wpAny_pure (wpAny_pure q)
end
end PySem.W
set_option maxRecDepth 100000
set_option maxHeartbeats 4000000
namespace PySem.W
open PySem PySem.Spec PyProof.Rows
end PySem.W
set_option maxRecDepth 100000
set_option maxHeartbeats 4000000
namespace Vf
/-- a number as its pair -/
def pq (r : Rat) : Int × Int := (r.num, (r.den : Int))
theorem low_pq {t b : Int} (h : b ≠ 0) : low t b = pq (Rat.divInt t b) := by
  obtain ⟨x, y, e1, e2, hp, ho⟩ := sg_dvd (t := t) h
  have s := sg_ne (t := t) h
  have e : Rat.divInt t b = Rat.divInt x y := by
    calc Rat.divInt t b = Rat.divInt (sg t b * x) (sg t b * y) := by rw [← e1, ← e2]
      _ = Rat.divInt x y := Rat.divInt_mul_left s
  rw [low_eq h e1 e2, e]
  obtain ⟨n, rfl⟩ := Int.eq_ofNat_of_zero_le (Int.le_of_lt hp)
  have hn : n ≠ 0 := by omega
  have ho' : x.natAbs.Coprime n := ho
  have e2 : Rat.divInt x (n : Int) = ⟨x, n, hn, ho'⟩ := by
    rw [Rat.divInt_ofNat, Rat.mk_eq_mkRat]
  rw [e2]
  rfl
theorem pq_low (r : Rat) : Low (pq r).1 (pq r).2 := ⟨by have := r.den_pos; show (0 : Int) < (r.den : Int); omega, r.reduced⟩
theorem pq_inj {a b : Rat} (h : pq a = pq b) : a = b := by
  have h1 := congrArg Prod.fst h
  have h2 := congrArg Prod.snd h
  exact Rat.ext h1 (Int.ofNat.inj h2)
theorem low_is_pq {p : Int × Int} (h : Low p.1 p.2) : ∃ r : Rat, p = pq r := by
  refine ⟨Rat.divInt p.1 p.2, ?_⟩
  rw [← low_pq (by have := h.pos; omega), low_id h]
theorem cast_ne {M : Int} (h : M ≠ 0) : (M : Rat) ≠ 0 := fun z => h (by exact_mod_cast z)
theorem low_mul {A M : Int} {q : Rat} (hM : M ≠ 0) (h : q * (M : Rat) = (A : Rat)) : low A M = pq q := by
  rw [low_pq hM, Rat.divInt_eq_div]
  congr 1
  rw [← h, Rat.mul_div_cancel (cast_ne hM)]
theorem low_add (a b : Rat) : low (a.num * b.den + b.num * a.den) (a.den * b.den) = pq (a + b) := by
  have h : ((a.den : Int) * (b.den : Int)) ≠ 0 := by
    have := a.den_nz
    have := b.den_nz
    exact Int.mul_ne_zero (by omega) (by omega)
  rw [low_pq h, Rat.add_def', ← Rat.divInt_ofNat]
  congr 1
theorem low_times (a b : Rat) : low (a.num * b.num) (a.den * b.den) = pq (a * b) := by
  have h : ((a.den : Int) * (b.den : Int)) ≠ 0 := by
    have := a.den_nz
    have := b.den_nz
    exact Int.mul_ne_zero (by omega) (by omega)
  rw [low_pq h, Rat.mul_def', ← Rat.divInt_ofNat]
  congr 1
/-- a number is a whole part of 1 / M, at most N of them -/
def Fr (M N : Nat) (r : Rat) : Prop := ∃ n : Int, r * (M : Rat) = (n : Rat) ∧ n.natAbs ≤ N
theorem Fr.size {M N : Nat} {r : Rat} (hM : 0 < M) (h : Fr M N r) : r.num.natAbs ≤ N ∧ r.den ≤ M := by
  obtain ⟨n, e, hn⟩ := h
  have hM' : (M : Int) ≠ 0 := by omega
  have z := low_mul (A := n) (M := (M : Int)) (q := r) hM' (by exact_mod_cast e)
  obtain ⟨s1, s2⟩ := low_size (t := n) hM'
  rw [z] at s1 s2
  have s1 : r.num.natAbs ≤ n.natAbs := s1
  have s2 : (r.den : Int).natAbs ≤ (M : Int).natAbs := s2
  omega
theorem Fr.add {M N N' : Nat} {a b : Rat} (h : Fr M N a) (h' : Fr M N' b) : Fr M (N + N') (a + b) := by
  obtain ⟨n, e, hn⟩ := h
  obtain ⟨n', e', hn'⟩ := h'
  refine ⟨n + n', ?_, by omega⟩
  rw [Rat.add_mul, e, e']
  exact_mod_cast rfl
theorem Fr.mul {M N M' N' : Nat} {a b : Rat} (h : Fr M N a) (h' : Fr M' N' b) : Fr (M * M') (N * N') (a * b) := by
  obtain ⟨n, e, hn⟩ := h
  obtain ⟨n', e', hn'⟩ := h'
  refine ⟨n * n', ?_, ?_⟩
  · have : ((M * M' : Nat) : Rat) = (M : Rat) * (M' : Rat) := by exact_mod_cast rfl
    have h2 : ((n * n' : Int) : Rat) = (n : Rat) * (n' : Rat) := by exact_mod_cast rfl
    rw [this, h2, ← e, ← e']
    grind
  · rw [Int.natAbs_mul]
    exact Nat.mul_le_mul hn hn'
theorem Fr.neg {M N : Nat} {a : Rat} (h : Fr M N a) : Fr M N (-a) := by
  obtain ⟨n, e, hn⟩ := h
  refine ⟨-n, ?_, by omega⟩
  rw [Rat.neg_mul, e]
  exact_mod_cast rfl
theorem Fr.scale {M N : Nat} {a : Rat} (k : Nat) (h : Fr M N a) : Fr (M * k) (N * k) a := by
  obtain ⟨n, e, hn⟩ := h
  refine ⟨n * k, ?_, ?_⟩
  · have : ((M * k : Nat) : Rat) = (M : Rat) * (k : Rat) := by exact_mod_cast rfl
    have h2 : ((n * k : Int) : Rat) = (n : Rat) * (k : Rat) := by exact_mod_cast rfl
    rw [this, h2, ← e]
    grind
  · rw [Int.natAbs_mul, Int.natAbs_natCast]
    exact Nat.mul_le_mul_right _ hn
theorem Fr.zero (M N : Nat) : Fr M N 0 := ⟨0, by rw [Rat.zero_mul]; rfl, Nat.zero_le _⟩
theorem Fr.le {M N N' : Nat} {a : Rat} (h : Fr M N a) (e : N ≤ N') : Fr M N' a := by
  obtain ⟨n, e1, hn⟩ := h
  exact ⟨n, e1, by omega⟩
theorem Fr.self (r : Rat) : Fr r.den r.num.natAbs r := by
  refine ⟨r.num, ?_, Nat.le_refl _⟩
  have h : (r.den : Rat) ≠ 0 := by
    have := r.den_nz
    exact_mod_cast this
  have z : (r.num : Rat) / (r.den : Rat) = r := by
    have := Rat.num_divInt_den r
    rw [Rat.divInt_eq_div] at this
    exact_mod_cast this
  rw [← z]
  rw [z]
  have := Rat.div_mul_cancel (a := (r.num : Rat)) h
  rw [z] at this
  exact this
/-- below 2 ^ 4300 above and below -/
def Sr (r : Rat) : Prop := r.num.natAbs < 2 ^ 4300 ∧ r.den < 2 ^ 4300
theorem Fr.sr {M N : Nat} {r : Rat} (hM : 0 < M) (h : Fr M N r) (h1 : M < 2 ^ 4300) (h2 : N < 2 ^ 4300) : Sr r := by
  obtain ⟨a, b⟩ := h.size hM
  exact ⟨Nat.lt_of_le_of_lt a h2, Nat.lt_of_le_of_lt b h1⟩
def cf (l : List Rat) (i : Nat) : Rat := l.getD i 0
theorem cf_lt {l : List Rat} {i : Nat} (h : i < l.length) : cf l i = l[i] := by
  unfold cf
  rw [List.getD_eq_getElem?_getD, List.getElem?_eq_getElem h]
  rfl
theorem cf_get {l : List Rat} {i : Nat} {x : Rat} (h : l[i]? = some x) : cf l i = x := by
  unfold cf
  rw [List.getD_eq_getElem?_getD, h]
  rfl
theorem cf_ge {l : List Rat} {i : Nat} (h : l.length ≤ i) : cf l i = 0 := by
  unfold cf
  rw [List.getD_eq_getElem?_getD, List.getElem?_eq_none h]
  rfl
theorem cf_nil (i : Nat) : cf [] i = 0 := rfl
theorem cf_app {l r : List Rat} {i : Nat} : cf (l ++ r) i = if i < l.length then cf l i else cf r (i - l.length) := by
  unfold cf
  rw [List.getD_eq_getElem?_getD, List.getD_eq_getElem?_getD, List.getD_eq_getElem?_getD]
  split
  · rw [List.getElem?_append_left (by assumption)]
  · rw [List.getElem?_append_right (by omega)]
/-- a row without zeros behind -/
def stripQ (l : List Rat) : List Rat := (l.reverse.dropWhile fun r => r == 0).reverse
theorem stripQ_snoc (l : List Rat) (x : Rat) : stripQ (l ++ [x]) = if x = 0 then stripQ l else l ++ [x] := by
  unfold stripQ
  rw [List.reverse_append]
  simp only [List.reverse_cons, List.reverse_nil, List.nil_append, List.singleton_append, List.dropWhile_cons, beq_iff_eq]
  split
  · rfl
  · rw [List.reverse_cons, List.reverse_reverse]
theorem strip_map (l : List Rat) : strip (l.map pq) = (stripQ l).map pq := by
  refine snoc_ind (P := fun l => strip (l.map pq) = (stripQ l).map pq) rfl (fun l x ih => ?_) l
  rw [List.map_append, List.map_cons, List.map_nil, strip_snoc, stripQ_snoc, ih]
  have e : ((pq x).1 = 0) ↔ x = 0 := Rat.num_eq_zero
  by_cases h : x = 0
  · rw [if_pos h, if_pos (e.mpr h)]
  · rw [if_neg h, if_neg (fun z => h (e.mp z)), List.map_append]
    rfl
theorem cf_stripQ (l : List Rat) : ∀ i, cf (stripQ l) i = cf l i := by
  refine snoc_ind (P := fun l => ∀ i, cf (stripQ l) i = cf l i) (fun i => rfl) (fun l x ih i => ?_) l
  rw [stripQ_snoc]
  split
  · rename_i h
    rw [ih, cf_app, h]
    split
    · rfl
    · rename_i h2
      rw [cf_ge (by omega)]
      by_cases h3 : i - l.length = 0
      · rw [h3]; rfl
      · rw [cf_ge (show ([0] : List Rat).length ≤ i - l.length by show 1 ≤ _; omega)]
  · rfl
/-- no zero behind -/
def Stp (l : List Rat) : Prop := ∀ r x, l = r ++ [x] → x ≠ 0
theorem stripQ_stp (l : List Rat) : Stp (stripQ l) := by
  refine snoc_ind (P := fun l => Stp (stripQ l)) (fun r x h => by simp [stripQ] at h) (fun l y ih r x h => ?_) l
  rw [stripQ_snoc] at h
  split at h
  · exact ih r x h
  · have z := (List.append_inj' h rfl).2
    cases z
    assumption
theorem stripQ_id {l : List Rat} (h : Stp l) : stripQ l = l := by
  rcases snoc_cases l with e | ⟨r, x, e⟩
  · rw [e]; rfl
  · have z := h r x e
    rw [e, stripQ_snoc, if_neg z]
theorem stp_last {l : List Rat} (h : Stp l) (hl : 0 < l.length) : cf l (l.length - 1) ≠ 0 := by
  rcases snoc_cases l with e | ⟨r, x, e⟩
  · rw [e] at hl; cases hl
  · have z := h r x e
    rw [e, List.length_append]
    show cf (r ++ [x]) (r.length + 1 - 1) ≠ 0
    rw [cf_app, if_neg (by omega)]
    rw [show r.length + 1 - 1 - r.length = 0 by omega]
    exact z
theorem stp_len {a b : List Rat} (h : Stp a) (e : ∀ i, cf a i = cf b i) : a.length ≤ b.length := by
  rcases Nat.lt_or_ge b.length a.length with z | z
  · have q := stp_last h (by omega)
    rw [e, cf_ge (by omega)] at q
    exact absurd rfl q
  · exact z
theorem stp_ext {a b : List Rat} (ha : Stp a) (hb : Stp b) (e : ∀ i, cf a i = cf b i) : a = b := by
  have h1 := stp_len ha e
  have h2 := stp_len hb fun i => (e i).symm
  refine List.ext_getElem (by omega) fun i p q => ?_
  have z := e i
  rw [cf_lt p, cf_lt q] at z
  exact z
theorem stripQ_ext {a b : List Rat} (e : ∀ i, cf a i = cf b i) : stripQ a = stripQ b :=
  stp_ext (stripQ_stp a) (stripQ_stp b) fun i => by rw [cf_stripQ, cf_stripQ, e]
/-- the row of n numbers -/
def tab (n : Nat) (f : Nat → Rat) : List Rat := (List.range n).map f
theorem tab_len (n : Nat) (f : Nat → Rat) : (tab n f).length = n := by unfold tab; rw [List.length_map, List.length_range]
theorem cf_tab (n : Nat) (f : Nat → Rat) (i : Nat) : cf (tab n f) i = if i < n then f i else 0 := by
  by_cases h : i < n
  · rw [if_pos h]
    refine cf_get ?_
    unfold tab
    rw [List.getElem?_map, List.getElem?_range h]
    rfl
  · rw [if_neg h, cf_ge (by rw [tab_len]; omega)]
theorem tab_snoc (n : Nat) (f : Nat → Rat) : tab (n + 1) f = tab n f ++ [f n] := by
  unfold tab
  rw [List.range_succ, List.map_append]
  rfl
def padd (a b : List Rat) : List Rat := tab (max a.length b.length) fun i => cf a i + cf b i
theorem cf_padd (a b : List Rat) (i : Nat) : cf (padd a b) i = cf a i + cf b i := by
  unfold padd
  rw [cf_tab]
  split
  · rfl
  · rw [cf_ge (show a.length ≤ i by omega), cf_ge (show b.length ≤ i by omega), Rat.add_zero]
def pscale (a : List Rat) (c : Rat) : List Rat := a.map (· * c)
theorem cf_map {f : Rat → Rat} (hf : f 0 = 0) (a : List Rat) (i : Nat) : cf (a.map f) i = f (cf a i) := by
  by_cases h : i < a.length
  · rw [cf_lt (by rw [List.length_map]; exact h), cf_lt h, List.getElem_map]
  · rw [cf_ge (by rw [List.length_map]; omega), cf_ge (by omega), hf]
/-- sums -/
def sm (f : Nat → Rat) : Nat → Rat
  | 0 => 0
  | n + 1 => sm f n + f n
theorem sm_ext {f g : Nat → Rat} : ∀ {n : Nat}, (∀ i, i < n → f i = g i) → sm f n = sm g n
  | 0, _ => rfl
  | n + 1, h => by
    show sm f n + f n = sm g n + g n
    rw [sm_ext fun i hi => h i (by omega), h n (by omega)]
theorem sm_zero {f : Nat → Rat} : ∀ {n : Nat}, (∀ i, i < n → f i = 0) → sm f n = 0
  | 0, _ => rfl
  | n + 1, h => by
    show sm f n + f n = 0
    rw [sm_zero fun i hi => h i (by omega), h n (by omega), Rat.add_zero]
theorem sm_more {f : Nat → Rat} {n : Nat} : ∀ {m : Nat}, n ≤ m → (∀ i, n ≤ i → i < m → f i = 0) → sm f m = sm f n
  | 0, h, _ => by
    have : n = 0 := by omega
    rw [this]
  | m + 1, h, z => by
    by_cases e : n = m + 1
    · rw [e]
    · show sm f m + f m = sm f n
      rw [sm_more (m := m) (by omega) fun i h1 h2 => z i h1 (by omega), z m (by omega) (by omega), Rat.add_zero]
theorem sm_fr {f : Nat → Rat} {M N : Nat} : ∀ {n : Nat}, (∀ i, i < n → Fr M N (f i)) → Fr M (n * N) (sm f n)
  | 0, _ => Fr.zero _ _
  | n + 1, h => by
    have a := sm_fr (n := n) fun i hi => h i (by omega)
    have b := h n (by omega)
    have c := a.add b
    rw [Nat.succ_mul]
    exact c
/-- the number of a power in a product -/
def pc (a b : List Rat) (k : Nat) : Rat := sm (fun i => cf a i * cf b (k - i)) (k + 1)
def pmul (a b : List Rat) : List Rat := tab (a.length + b.length - 1) (pc a b)
theorem pc_zero {a b : List Rat} {k : Nat} (h : a.length + b.length ≤ k + 1) : pc a b k = 0 := by
  unfold pc
  refine sm_zero fun i hi => ?_
  by_cases h1 : i < a.length
  · rw [cf_ge (show b.length ≤ k - i by omega), Rat.mul_zero]
  · rw [cf_ge (show a.length ≤ i by omega), Rat.zero_mul]
theorem cf_pmul (a b : List Rat) (k : Nat) : cf (pmul a b) k = pc a b k := by
  unfold pmul
  rw [cf_tab]
  split
  · rfl
  · rw [pc_zero (by omega)]
end Vf
set_option maxRecDepth 100000
set_option maxHeartbeats 4000000
namespace Vf
open PySem PySem.Spec PyProof.Rows L2
theorem dun_sub : PySem.dunder "sub" = ("__sub__" : Str) := by decide +kernel
theorem dun_mul : PySem.dunder "mul" = ("__mul__" : Str) := by decide +kernel
theorem dunR_sub : PySem.dunderR "sub" = ("__rsub__" : Str) := by decide +kernel
theorem dunR_mul : PySem.dunderR "mul" = ("__rmul__" : Str) := by decide +kernel
def slotT (t nm : String) : Option Bool := match PySem.fastLookup t (PySem.dunder nm), PySem.fastLookup t (PySem.dunderR nm) with
  | some a, some b => some (PySem.W.slotB a b)
  | _, _ => none
theorem slotT_ok {K : PySem.W.Frag} {t nm : String} {b : Bool} (h : slotT t nm = some b) : ∃ r1 r2, PySem.W.findIn K (.type t) (PySem.dunder nm) = some r1 ∧ PySem.W.findIn K (.type t) (PySem.dunderR nm) = some r2 ∧ PySem.W.slotB r1 r2 = b := by
  unfold slotT at h
  split at h
  · rename_i a c e1 e2
    cases h
    exact ⟨a, c, e1, e2, rfl⟩
  · cases h
theorem slot_tup_mul : slotT "tuple" "mul" = some false := by decide +kernel
theorem slot_int_mul : slotT "int" "mul" = some true := by decide +kernel
section
variable {X : Cx} {CX : CXT} {C f g : Addr} {k : Nat} {fd : FuncData} {ps : List Str} {sp : Sp} {E : XK}
/-- the callee's answer is no mark of a missing operator -/
theorem back {pins : List (Addr × Obj)} {σ : L2.St} {Q : VK} {z : Value} {s' : Shared} (h : EP X pins σ Q z s') : PySem.W.CmpBack (EP X pins σ Q) z s' := by
  obtain ⟨z', H', I', rz, qz⟩ := h
  exact SlX.cmpback rz ⟨z', H', I', rz, qz⟩
def rOwnS (C : Addr) (sp : Sp) (E : XK) : R2 := fun x y H Q => ∃ a dx fs b dy gs, x = .ref a ∧ y = .ref b ∧ H a = some (.ins C dx fs) ∧ H b = some (.ins C dy gs) ∧ sp [x, y] H Q E
theorem op_ownS {op : Operator} (hs : PySem.W.findIn X.K (.ref C) (PySem.dunder op.info.2) = some (some (.ref g))) (hf : PySem.W.isFn X.K (.ref g) = true) (sf : PySem.W.selfFirst X.K C = true)
    (F : FnOk X.prog X.w X.K X.mg X.base CX k g fd ps sp) (hb : Binds X.K fd ps []) (hr : Room k X.A) (hx : Passes CX X E) : OpR X (binaryOp op) (rOwnS C sp E) := by
  intro pins s σ H x y v u Q I rx ry h
  obtain ⟨a, dx, fs, b, dy, gs, rfl, rfl, ha, hb', q⟩ := h
  cases (show v = Value.ref a from rx)
  cases (show u = Value.ref b from ry)
  obtain ⟨mA, O, _⟩ := ins_get I.hok ha
  obtain ⟨od, J, _⟩ := O.look
  obtain ⟨mB, O2, _⟩ := ins_get I.hok hb'
  obtain ⟨od2, J2, _⟩ := O2.look
  obtain ⟨m, hF⟩ := I.fr
  have hsp : sp ([V.ref a, V.ref b] ++ []) H Q E := q
  exact PySem.W.binop_K hF I.ok.mod.kin J J2.type sf hs hf (wpAny_mono (run_fn (us := [.ref a, .ref b]) (vs := [.ref a, .ref b]) F hr hb .nil hx I (.cons rfl (.cons rfl .nil)) hsp) (fun w s' z => back z) fun _ _ x => x)
def rOwnL (K : PySem.W.Frag) (C : Addr) (t : String) (sp : Sp) (E : XK) : R2 := fun x y H Q => ∃ a dx fs, x = .ref a ∧ H a = some (.ins C dx fs) ∧ TyX K H y (.type t) ∧ sp [x, y] H Q E
theorem op_ownL {op : Operator} {t : String} {rb : Bool} (hs : PySem.W.findIn X.K (.ref C) (PySem.dunder op.info.2) = some (some (.ref g))) (hf : PySem.W.isFn X.K (.ref g) = true) (sf : PySem.W.selfFirst X.K C = true)
    (hR : PySem.W.findIn X.K (.ref C) (PySem.dunderR op.info.2) = some (some (.ref f))) (st : slotT t op.info.2 = some rb) (sub : PySem.W.subIn X.K (.type t) (.ref C) = some false)
    (F : FnOk X.prog X.w X.K X.mg X.base CX k g fd ps sp) (hb : Binds X.K fd ps []) (hr : Room k X.A) (hx : Passes CX X E) : OpR X (binaryOp op) (rOwnL X.K C t sp E) := by
  intro pins s σ H x y v u Q I rx ry h
  obtain ⟨a, dx, fs, rfl, ha, ty, q⟩ := h
  cases (show v = Value.ref a from rx)
  obtain ⟨mA, O, _⟩ := ins_get I.hok ha
  obtain ⟨od, J, _⟩ := O.look
  obtain ⟨P, Z, p, _⟩ := kit_of I ry ty
  obtain ⟨m, hF⟩ := I.fr
  obtain ⟨r1, r2, h1, h2, _⟩ := slotT_ok (K := X.K) st
  have hsp : sp ([V.ref a, y] ++ []) H Q E := q
  exact PySem.W.binop_left hF I.ok.mod.kin J (Z.ty _ _ I.kIn p) sf hs hf hR h1 h2 sub (wpAny_mono (run_fn (us := [.ref a, u]) (vs := [.ref a, y]) F hr hb .nil hx I (.cons rfl (.cons ry .nil)) hsp) (fun w s' z => back z) fun _ _ x => x)
/-- math.lcm of two whole numbers -/
def rLcm : List V → Hp → VK → Prop := fun vs H Q => ∃ a b : Int, vs = [.int a, .int b] ∧ a.natAbs < 2 ^ 8800 ∧ b.natAbs < 2 ^ 8800 ∧ Q (.int ((Nat.lcm a.natAbs b.natAbs : Nat) : Int)) H
theorem log_4000 {n : Nat} (h : n < 2 ^ 8800) : n.log2 < 8800 := by
  by_cases e : n = 0
  · rw [e]; decide
  · exact (Nat.log2_lt e).mpr h
theorem cr_lcm : CallR X (.builtin "math.lcm") rLcm := by
  intro pins s σ H vs us Q I r h
  obtain ⟨a, b, rfl, ha, hb, q⟩ := h
  obtain ⟨t, u, rfl⟩ := Vals.int2 r
  have one : Nat.lcm 1 a.natAbs = a.natAbs := Nat.lcm_one_left _
  have m1 : max 1 a.natAbs < 2 ^ 8800 := by
    have : (1 : Nat) < 2 ^ 8800 := Nat.one_lt_pow (by decide) (by decide)
    omega
  have m2 : max a.natAbs b.natAbs < 2 ^ 8800 := by omega
  have l1 := log_4000 m1
  have l2 := log_4000 m2
  have sz : ((((Nat.lcm 1 a.natAbs).lcm b.natAbs : Nat) : Int)).natAbs.log2 < bitsLine := by
    rw [one, Int.natAbs_natCast]
    have le : a.natAbs.lcm b.natAbs ≤ a.natAbs * b.natAbs := by
      rw [← Nat.gcd_mul_lcm]
      by_cases z : a.natAbs.gcd b.natAbs = 0
      · have : a.natAbs.lcm b.natAbs = 0 := by unfold Nat.lcm; rw [Nat.gcd_eq_zero_iff.mp z |>.1]; simp
        rw [this]; omega
      · exact Nat.le_mul_of_pos_left _ (by omega)
    have lt : a.natAbs.lcm b.natAbs < 2 ^ 17600 := by
      refine Nat.lt_of_le_of_lt le ?_
      rw [show (17600 : Nat) = 8800 + 8800 from rfl, Nat.pow_add]
      exact Nat.mul_lt_mul'' ha hb
    by_cases e : a.natAbs.lcm b.natAbs = 0
    · rw [e]; decide
    · exact Nat.lt_trans ((Nat.log2_lt e).mpr lt) (by decide)
  refine PySem.call_function_meets PySem.W.MGF.kind_lcm PySem.W.MGF.plain_lcm PySem.W.MGF.entry_lcm (PySem.W.MGF.args_lcm _ _) (PySem.W.mg_run_lcm a t b u (by omega) (by omega) sz).meets ?_
  rw [one]
  exact ⟨.int _, H, I.tok _, ⟨_, rfl⟩, q⟩
end
end Vf
set_option maxRecDepth 100000
set_option maxHeartbeats 4000000
namespace Vf
open PySem PySem.Spec PyProof.Rows L2
/-- a comprehension over zip(a, b), two lists alike in length -/
theorem lc_zipL {K : PySem.W.Frag} {a b : Addr} {xs ys : List V} {g : TG} {tt : TT} {te : TE} {vs : List Nat} {σ : L2.St} {H1 : Hp} {D : Addr} {Qd : Hp → Prop} (hl : xs.length = ys.length) (Pv : Nat → Hp → Prop) (h0 : Pv 0 (upd H1 D (.lst [])))
    (hq : ∀ i H, Pv i H → SqL K H a xs ∧ SqL K H b ys)
    (hs : ∀ (i : Nat) (x y : V) (T : Addr) (H : Hp), xs[i]? = some x → ys[i]? = some y → Pv i H → H T = none → g (.ref T) (wipe σ vs) (upd H T (.tup [x, y])) fun σ2 H2 => wipe σ2 vs = wipe σ vs ∧ tt σ2 H2 fun b H3 =>
      if b = true then te σ2 H3 fun y H4 => ∃ acc, H4 D = some (.lst acc) ∧ acc.length < sizeLine ∧ Pv (i + 1) (upd H4 D (.lst (acc ++ [y]))) else Pv (i + 1) H3) (hd : ∀ H, Pv xs.length H → Qd H) :
    ∃ W : Nat → Nat → Hp → Prop, (∃ m, W 0 m (upd H1 D (.lst []))) ∧ ∀ i m H, W i m H →
      (((Itz K a b).stop i H ∧ Qd H) ∨ ((Itz K a b).go i H ∧ ∃ Nx : Hp → Prop, (∀ H', Nx H' → ∃ m', m' < m ∧ W (i + 1) m' H') ∧ ∀ x H', (Itz K a b).yld i H x H' → g x (wipe σ vs) H' fun σ2 H2 => wipe σ2 vs = wipe σ vs ∧ tt σ2 H2 fun b H3 =>
        if b = true then te σ2 H3 fun y H4 => ∃ acc, H4 D = some (.lst acc) ∧ acc.length < sizeLine ∧ Nx (upd H4 D (.lst (acc ++ [y]))) else Nx H3)) := by
  refine ⟨fun i m H => m = xs.length - i ∧ i ≤ xs.length ∧ Pv i H, ⟨xs.length, by simp, Nat.zero_le _, h0⟩, ?_⟩
  rintro i m H ⟨rfl, hi, p⟩
  obtain ⟨qx, qy⟩ := hq i H p
  by_cases hlt : i < xs.length
  · have hx : xs[i]? = some xs[i] := List.getElem?_eq_getElem hlt
    have hlt2 : i < ys.length := by omega
    have hy : ys[i]? = some ys[i] := List.getElem?_eq_getElem hlt2
    refine .inr ⟨⟨xs, ys, xs[i], ys[i], qx, qy, hx, hy⟩, Pv (i + 1), fun H' p' => ⟨xs.length - (i + 1), by omega, rfl, hlt, p'⟩, fun v H' y => ?_⟩
    obtain ⟨T, x', y', e1, n, e2, h1, h2⟩ := y
    rw [e1, e2]
    exact hs i x' y' T H (h1 xs qx) (h2 ys qy) p n
  · have e : i = xs.length := by omega
    subst e
    exact .inl ⟨⟨xs, ys, qx, qy, .inl (Nat.le_refl _)⟩, hd H p⟩
/-- a tuple that tells the number q -/
def TR (H : Hp) (r : Addr) (q : Rat) : Prop := H r = some (.tup [.int q.num, .int (q.den : Int)])
theorem TR.same {H H' : Hp} {r : Addr} {q : Rat} (h : TR H r q) (s : Same H H') : TR H' r q := s _ _ h
/-- a list of such tuples -/
def RL (H : Hp) (l : Addr) (qs : List Rat) : Prop := ∃ as, H l = some (.lst (as.map V.ref)) ∧ Tups H as (qs.map pq)
theorem RL.same {H H' : Hp} {l : Addr} {qs : List Rat} (h : RL H l qs) (s : Same H H') : RL H' l qs := by
  obtain ⟨as, e, t⟩ := h
  exact ⟨as, s _ _ e, t.same s⟩
theorem Tups.atQ {H : Hp} {as : List Addr} {qs : List Rat} {i : Nat} {a : Addr} (h : Tups H as (qs.map pq)) (e : as[i]? = some a) : ∃ q, qs[i]? = some q ∧ TR H a q := by
  obtain ⟨p, h1, h2⟩ := h.at e
  rw [List.getElem?_map] at h1
  cases hq : qs[i]? with
  | none => rw [hq] at h1; cases h1
  | some q =>
    rw [hq] at h1
    cases h1
    exact ⟨q, rfl, h2⟩
theorem Tups.lenQ {H : Hp} {as : List Addr} {qs : List Rat} (h : Tups H as (qs.map pq)) : as.length = qs.length := by
  have := h.len
  rw [List.length_map] at this
  exact this
theorem Tups.snocQ {H : Hp} {as : List Addr} {qs : List Rat} {a : Addr} {q : Rat} (h : Tups H as (qs.map pq)) (e : TR H a q) : Tups H (as ++ [a]) ((qs ++ [q]).map pq) := by
  rw [List.map_append]
  exact h.snoc e
theorem Tups.getQ {H : Hp} {as : List Addr} {qs : List Rat} {i : Nat} (h : Tups H as (qs.map pq)) (hi : i < qs.length) : ∃ a, as[i]? = some a ∧ TR H a (cf qs i) := by
  have hl := h.lenQ
  have hi' : i < as.length := by omega
  obtain ⟨q, h1, h2⟩ := h.atQ (List.getElem?_eq_getElem hi')
  refine ⟨as[i], List.getElem?_eq_getElem hi', ?_⟩
  rw [cf_get h1]
  exact h2
theorem Tups.setQ {H : Hp} : ∀ {as : List Addr} {qs : List Rat} (i : Nat) {a : Addr} {q : Rat}, Tups H as (qs.map pq) → TR H a q → Tups H (as.set i a) ((qs.set i q).map pq)
  | [], [], _, _, _, _, _ => .nil
  | _ :: _, _ :: _, 0, _, _, .cons _ t, e => .cons e t
  | _ :: _, _ :: _, i + 1, _, _, .cons h t, e => .cons h (t.setQ i e)
theorem tr_zero {H : Hp} {r : Addr} (h : H r = some (.tup [.int 0, .int 1])) : TR H r 0 := h
theorem tups_rep0 {H : Hp} {a : Addr} (h : TR H a 0) (n : Nat) : Tups H (List.replicate n a) ((List.replicate n (0 : Rat)).map pq) := by
  rw [List.map_replicate]
  exact Tups.rep' (p := pq 0) h n
where
  Tups.rep' {H : Hp} {a : Addr} {p : Int × Int} (h : H a = some (.tup [.int p.1, .int p.2])) : ∀ n : Nat, Tups H (List.replicate n a) (List.replicate n p)
    | 0 => .nil
    | n + 1 => .cons h (Tups.rep' h n)
theorem flat_repQ (n : Nat) (a : Addr) : (List.replicate n [V.ref a]).flatten = (List.replicate n a).map V.ref := by
  rw [List.flatten_replicate_singleton, List.map_replicate]
theorem cf_rep0 (n i : Nat) : cf (List.replicate n 0) i = 0 := by
  unfold cf
  rw [List.getD_eq_getElem?_getD, List.getElem?_replicate]
  split <;> rfl
theorem cf_set {l : List Rat} {i j : Nat} {x : Rat} (h : i < l.length) : cf (l.set i x) j = if j = i then x else cf l j := by
  unfold cf
  rw [List.getD_eq_getElem?_getD, List.getD_eq_getElem?_getD, List.getElem?_set]
  by_cases e : i = j
  · rw [if_pos e, if_pos e.symm, if_pos h]
    rfl
  · rw [if_neg e, if_neg (fun z => e z.symm)]
theorem big_mulW {x y : Int} (h1 : x.natAbs < 2 ^ 8700) (h2 : y.natAbs < 2 ^ 8700) : CMulW x y := wide_mul h1 h2 (by decide) (by decide) (by decide)
theorem Sr.n {q : Rat} (h : Sr q) : q.num.natAbs < 2 ^ 8700 := Nat.lt_trans h.1 (Nat.pow_lt_pow_right (by decide) (by decide))
theorem Sr.d {q : Rat} (h : Sr q) : ((q.den : Int)).natAbs < 2 ^ 8700 := by
  rw [Int.natAbs_natCast]
  exact Nat.lt_trans h.2 (Nat.pow_lt_pow_right (by decide) (by decide))
theorem pow_add2 (a b : Nat) : (2 : Nat) ^ a * 2 ^ b = 2 ^ (a + b) := (Nat.pow_add _ _ _).symm
theorem sr_sum {a b : Rat} (ha : Sr a) (hb : Sr b) : (a.num * b.den + b.num * a.den).natAbs < 2 ^ 8800 ∧ ((a.den : Int) * b.den).natAbs < 2 ^ 8800 ∧ (a.num * b.num).natAbs < 2 ^ 8800 := by
  have m : ∀ {x y : Nat}, x < 2 ^ 4300 → y < 2 ^ 4300 → x * y < 2 ^ 8600 := fun {x y} h1 h2 => by
    have := Nat.mul_lt_mul'' h1 h2
    rw [pow_add2] at this
    exact this
  have l1 : (2 : Nat) ^ 8600 + 2 ^ 8600 = 2 ^ 8601 := by rw [show (8601 : Nat) = 8600 + 1 from rfl, Nat.pow_succ]; omega
  have l2 : (2 : Nat) ^ 8601 ≤ 2 ^ 8800 := Nat.pow_le_pow_right (by decide) (by decide)
  have l3 : (2 : Nat) ^ 8600 ≤ 2 ^ 8800 := Nat.pow_le_pow_right (by decide) (by decide)
  have m1 := m ha.1 hb.2
  have m2 := m hb.1 ha.2
  have m3 := m ha.2 hb.2
  have m4 := m ha.1 hb.1
  have e1 : (a.num * b.den).natAbs = a.num.natAbs * b.den := by rw [Int.natAbs_mul, Int.natAbs_natCast]
  have e2 : (b.num * a.den).natAbs = b.num.natAbs * a.den := by rw [Int.natAbs_mul, Int.natAbs_natCast]
  refine ⟨?_, ?_, ?_⟩
  · have := Int.natAbs_add_le (a.num * b.den) (b.num * a.den)
    omega
  · rw [Int.natAbs_mul, Int.natAbs_natCast, Int.natAbs_natCast]
    omega
  · rw [Int.natAbs_mul]
    omega
end Vf
set_option maxRecDepth 100000
set_option maxHeartbeats 8000000
namespace Vf
open PySem PySem.Spec PyProof.Rows L2
section
variable {P : Program} {w : World} {K : PySem.W.Frag} {mg : Str → Option Value} {base : Heap} {CN : Addr}
abbrev sLPoly : Stmt := topS 63
/-- the law's own row without zeros behind -/
def spLPoly (K : PySem.W.Frag) : Sp := fun vs H Q _ => ∃ (a : Addr) (as : List Addr) (ps : List (Int × Int)), vs = [.ref a] ∧ SqL K H a (as.map V.ref) ∧ Tups H as ps ∧ as.length ≤ 1000 ∧
  ∀ (l : Addr) (as' : List Addr) (H' : Hp), Same H H' → H l = none → H' l = some (.lst (as'.map V.ref)) → Tups H' as' (strip ps) → Q (.ref l) H'
theorem scLPoly : FnScope ["_law_numbers", "_law_found", "_law_lap"] ["_law_numbers"] (defScope sLPoly) := ⟨rfl, rfl, rfl, by decide +kernel, rfl, by decide +kernel, by decide +kernel⟩
theorem ok_lpoly {f : Addr} {fd : FuncData} (F : Fun K "_law_poly" "_law_poly" sLPoly f fd) (T : Bk mg) (hm1 : M1 base) : FnOk P w K mg base CX0 1 f fd ["_law_numbers"] (spLPoly K) := by
  refine F.ok scLPoly (fun vs H Q E h => ?_) (fun cdv A outer s H vs Q E hr h => ?_)
  · obtain ⟨a, as, ps, rfl, _⟩ := h
    rfl
  · obtain ⟨a, as, ps, rfl, hS, hT, hz, q⟩ := h
    refine ⟨_, (pss_cons (ps_set (i := 1) scLPoly.nd rfl (Or.inl rfl) (pe_callTy call_list_of (by rfl) T.list (by decide +kernel) (pa_cons (pv 0) pa_nil)))
  (pss_cons (ps_for PassesOwn.never rfl (pi_range1 (by rfl) T.range (pa_cons (pe_callB call_len_seq (by rfl) T.len (by decide +kernel) (pa_cons (pv 0) pa_nil)) pa_nil)) (pg_name (i := 2) scLPoly.nd rfl (Or.inl rfl))
    (pss_cons (ps_if (PW.pt (pw_or (pt_cmpR (op_eqT hr.units hm1) (pv 1) (pe_lst pa_nil) (nomark _)) (pw_or1 (pt_cmpR op_ne (pe_ix ix_tup (pe_ix ix_list (pv 1) (pe_un un_neg pe_int) (fun _ _ => rfl)) pe_int (fun _ _ => rfl)) pe_int (nomark _)))))
      (pss_one ps_break)
      pss_nil)
    (pss_one (ps_expr (pe_bm0 PySem.F.plainAttrs_list PySem.F.slot_list_pop PySem.F.type_list_pop mt_pop (pv 1))))))
  (pss_one (ps_ret (pv 1))))), ?_⟩
    refine ⟨_, rfl, a, _, rfl, .inl hS, fun l nl => ?_⟩
    have el : upd H l (HO.lst (as.map V.ref)) l = some (HO.lst (as.map V.ref)) := upd_same
    have sl : Same H (upd H l (HO.lst (as.map V.ref))) := same_upd nl
    generalize upd H l (HO.lst (as.map V.ref)) = H1 at el sl ⊢
    have lm : (as.map V.ref).length = as.length := List.length_map ..
    refine ⟨_, rfl, a, _, rfl, .inl (same_sqL sl hS), _, rfl, by omega, by omega, for_range (lo := 0) (n := (((as.map V.ref).length : Nat) : Int).toNat) (fun i σ H2 => ∃ as' qs v, σ = [some (.ref a), some (.ref l), v] ∧ Same H H2 ∧ H2 l = some (.lst (as'.map V.ref)) ∧ Tups H2 as' qs ∧ strip qs = strip ps ∧ as'.length + i = as.length)
      ⟨as, ps, none, rfl, sl, el, hT.same sl, rfl, rfl⟩ ?_ ?_⟩
    · rintro i σ H2 hi ⟨as', qs, v, rfl, s2, e2, t2, hst, hn⟩
      refine ⟨_, rfl, (by show 0 ≤ sizeLine; decide), fun l0 n0 => ?_⟩
      have l0l : l0 ≠ l := (ne_of_none e2 n0).symm
      have s3 : Same H2 (upd H2 l0 (HO.lst [])) := same_upd n0
      have e0 : upd H2 l0 (HO.lst []) l0 = some (HO.lst []) := upd_same
      generalize upd H2 l0 (HO.lst []) = H3 at s3 e0 ⊢
      have e3 := s3 _ _ e2
      have t3 := t2.same s3
      refine ⟨.list (qs.map pairD), .list (([] : List (Int × Int)).map pairD), .lst (SqL.of e3) t3.dts, .lst (SqL.of e0) .nil, (plain_row _).2, (plain_row _).2, (depth_row _).2, _, rfl, ?_⟩
      rw [eqv_rowL]
      rcases snoc_cases qs with rfl | ⟨qs, y, rfl⟩
      · rw [decide_eq_true rfl]
        refine iteT ?_
        cases t3
        refine iteT ?_
        exact ⟨_, rfl, q l [] H3 (s2.trans s3) nl e3 (by rw [← hst]; exact .nil)⟩
      · rw [decide_eq_false (by simp)]
        refine iteF ?_
        obtain ⟨as2, r, rfl, t4, er⟩ := t3.unsnoc
        refine ⟨_, rfl, _, rfl, l, _, _, .ref r, rfl, rfl, SqL.of e3, (by rw [List.map_append]; exact atI_last _ _), r, _, _, .int y.1, rfl, rfl, SqT.of er, at_of (j := 0) rfl rfl, rfl, _, rfl, ?_⟩
        by_cases y0 : y.1 = 0
        · rw [decide_eq_true (by rw [y0])]
          refine iteF ?_
          refine ⟨_, rfl, .inl ⟨rfl, _, SqL.of e3⟩, l, _, .ref r, rfl, rfl, e3, (by simp), ?_⟩
          refine ⟨as2, qs, _, rfl, fun b o eb => ?_, ?_, ?_, ?_, ?_⟩
          · rw [upd_ne (ne_of_none eb nl)]
            exact s3 _ _ (s2 _ _ eb)
          · rw [upd_same, List.map_append]
            simp
          · refine t4.imp fun c p z => ?_
            rw [upd_ne (ne_of z e3 (by intro z; cases z))]
            exact z
          · rw [strip_snoc, if_pos y0] at hst
            exact hst
          · rw [List.length_append] at hn
            simp at hn
            omega
        · rw [decide_eq_false (fun z => y0 (by have z2 := V.int.inj z; exact z2))]
          refine iteT ?_
          refine ⟨_, rfl, q l (as2 ++ [r]) H3 (s2.trans s3) nl e3 ?_⟩
          rw [← hst, strip_snoc, if_neg y0]
          exact t3
    · rintro σ H2 ⟨as', qs, v, rfl, s2, e2, t2, hst, hn⟩
      have h0 : as'.length = 0 := by omega
      have h1 := t2.len
      have h2 : as' = [] := List.length_eq_zero_iff.mp h0
      have h3 : qs = [] := List.length_eq_zero_iff.mp (by omega)
      subst h2 h3
      exact ⟨_, rfl, q l [] H2 s2 nl e2 (by rw [← hst]; exact .nil)⟩
end
def spL2 (g : Rat → Rat → Rat) : Sp := fun vs H Q _ => ∃ (r1 r2 : Addr) (a b : Rat), vs = [.ref r1, .ref r2] ∧ TR H r1 a ∧ TR H r2 b ∧ Sr a ∧ Sr b ∧ ∀ (r : Addr) (H' : Hp), Same H H' → H r = none → TR H' r (g a b) → Q (.ref r) H'
def rAdd (a b : Rat) : Rat := a + b
def rMul (a b : Rat) : Rat := a * b
/-- every number is small -/
def SrL (a : List Rat) : Prop := ∀ i, Sr (cf a i)
theorem sr_zero : Sr 0 := ⟨by show (0 : Nat) < 2 ^ 4300; exact Nat.pow_pos (by decide), by show 1 < 2 ^ 4300; exact Nat.one_lt_pow (by decide) (by decide)⟩
def spLPP : Sp := fun vs H Q _ => ∃ (l1 l2 : Addr) (a b : List Rat), vs = [.ref l1, .ref l2] ∧ RL H l1 a ∧ RL H l2 b ∧ a.length ≤ 500 ∧ b.length ≤ 500 ∧ SrL a ∧ SrL b ∧ ∀ (l : Addr) (H' : Hp), Same H H' → RL H' l (stripQ (padd a b)) → Q (.ref l) H'
def spLPS : Sp := fun vs H Q _ => ∃ (l1 r : Addr) (a : List Rat) (c : Rat), vs = [.ref l1, .ref r] ∧ RL H l1 a ∧ TR H r c ∧ a.length ≤ 500 ∧ SrL a ∧ Sr c ∧ ∀ (l : Addr) (H' : Hp), Same H H' → RL H' l (stripQ (pscale a c)) → Q (.ref l) H'
def spLPM : Sp := fun vs H Q _ => ∃ (l1 l2 : Addr) (a b : List Rat), vs = [.ref l1, .ref l2] ∧ RL H l1 a ∧ RL H l2 b ∧ a.length ≤ 500 ∧ b.length ≤ 500 ∧ SrL a ∧ SrL b ∧ ∀ (l : Addr) (H' : Hp), Same H H' → RL H' l (stripQ (padd a (stripQ (pscale b (-1))))) → Q (.ref l) H'
theorem stripQ_len (l : List Rat) : (stripQ l).length ≤ l.length := stp_len (stripQ_stp l) (cf_stripQ l)
section
variable {P : Program} {w : World} {K : PySem.W.Frag} {mg : Str → Option Value} {base : Heap} {CN : Addr}
abbrev sLPlus : Stmt := topS 51
abbrev sLTimes : Stmt := topS 53
abbrev sLPPlus : Stmt := topS 64
abbrev sLPScaled : Stmt := topS 65
abbrev sLPMinus : Stmt := topS 66
theorem scLPlus : FnScope ["_law_one", "_law_two"] ["_law_one", "_law_two"] (defScope sLPlus) := ⟨rfl, rfl, rfl, by decide +kernel, rfl, by decide +kernel, by decide +kernel⟩
theorem den_ne (a b : Rat) : ((a.den : Int) * (b.den : Int)) ≠ 0 := by
  have h1 := a.den_nz
  have h2 := b.den_nz
  exact Int.mul_ne_zero (by omega) (by omega)
theorem ok_lplus {f : Addr} {fd : FuncData} (F : Fun K "_law_plus" "_law_plus" sLPlus f fd) (Gq : Df P w K mg base "_law_q" 2 ["_law_top", "_law_bottom"] spQ) : FnOk P w K mg base CX0 3 f fd ["_law_one", "_law_two"] (spL2 rAdd) := by
  refine F.ok scLPlus (fun vs H Q E h => ?_) (fun cdv A outer s H vs Q E hr h => ?_)
  · obtain ⟨r1, r2, a, b, rfl, _⟩ := h
    rfl
  · obtain ⟨r1, r2, a, b, rfl, h1, h2, za, zb, q⟩ := h
    refine ⟨_, (pss_one (ps_ret (pe_call Gq.ok (hr.mono (by decide)) rfl Gq.m Gq.kp Gq.b .nil pass0 (pa_cons (pe_op op_add (pe_op op_mulW (pe_ix ix_tup (pv 0) pe_int (fun _ _ => rfl)) (pe_ix ix_tup (pv 1) pe_int (fun _ _ => rfl))) (pe_op op_mulW (pe_ix ix_tup (pv 1) pe_int (fun _ _ => rfl)) (pe_ix ix_tup (pv 0) pe_int (fun _ _ => rfl)))) (pa_cons (pe_op op_mulW (pe_ix ix_tup (pv 0) pe_int (fun _ _ => rfl)) (pe_ix ix_tup (pv 1) pe_int (fun _ _ => rfl))) pa_nil))))), ?_⟩
    obtain ⟨s1, s2, s3⟩ := sr_sum za zb
    refine ⟨_, rfl, r1, _, _, .int a.num, rfl, rfl, SqT.of h1, at_of (j := 0) rfl rfl, _, rfl, r2, _, _, .int b.den, rfl, rfl, SqT.of h2, at_of (j := 1) rfl rfl, _, _, rfl, rfl, big_mulW za.n zb.d, ?_⟩
    refine ⟨_, rfl, r2, _, _, .int b.num, rfl, rfl, SqT.of h2, at_of (j := 0) rfl rfl, _, rfl, r1, _, _, .int a.den, rfl, rfl, SqT.of h1, at_of (j := 1) rfl rfl, _, _, rfl, rfl, big_mulW zb.n za.d, ?_⟩
    refine ⟨_, _, rfl, rfl, ?_⟩
    refine ⟨_, rfl, r1, _, _, .int a.den, rfl, rfl, SqT.of h1, at_of (j := 1) rfl rfl, _, rfl, r2, _, _, .int b.den, rfl, rfl, SqT.of h2, at_of (j := 1) rfl rfl, _, _, rfl, rfl, big_mulW za.d zb.d, ?_⟩
    refine ⟨_, _, rfl, den_ne a b, s1, s2, fun r H' ss nr er => ?_⟩
    rw [low_add] at er
    exact q r H' ss nr er
theorem scLTimes : FnScope ["_law_one", "_law_two"] ["_law_one", "_law_two"] (defScope sLTimes) := ⟨rfl, rfl, rfl, by decide +kernel, rfl, by decide +kernel, by decide +kernel⟩
theorem ok_ltimes {f : Addr} {fd : FuncData} (F : Fun K "_law_times" "_law_times" sLTimes f fd) (Gq : Df P w K mg base "_law_q" 2 ["_law_top", "_law_bottom"] spQ) : FnOk P w K mg base CX0 3 f fd ["_law_one", "_law_two"] (spL2 rMul) := by
  refine F.ok scLTimes (fun vs H Q E h => ?_) (fun cdv A outer s H vs Q E hr h => ?_)
  · obtain ⟨r1, r2, a, b, rfl, _⟩ := h
    rfl
  · obtain ⟨r1, r2, a, b, rfl, h1, h2, za, zb, q⟩ := h
    refine ⟨_, (pss_one (ps_ret (pe_call Gq.ok (hr.mono (by decide)) rfl Gq.m Gq.kp Gq.b .nil pass0 (pa_cons (pe_op op_mulW (pe_ix ix_tup (pv 0) pe_int (fun _ _ => rfl)) (pe_ix ix_tup (pv 1) pe_int (fun _ _ => rfl))) (pa_cons (pe_op op_mulW (pe_ix ix_tup (pv 0) pe_int (fun _ _ => rfl)) (pe_ix ix_tup (pv 1) pe_int (fun _ _ => rfl))) pa_nil))))), ?_⟩
    obtain ⟨s1, s2, s3⟩ := sr_sum za zb
    refine ⟨_, rfl, r1, _, _, .int a.num, rfl, rfl, SqT.of h1, at_of (j := 0) rfl rfl, _, rfl, r2, _, _, .int b.num, rfl, rfl, SqT.of h2, at_of (j := 0) rfl rfl, _, _, rfl, rfl, big_mulW za.n zb.n, ?_⟩
    refine ⟨_, rfl, r1, _, _, .int a.den, rfl, rfl, SqT.of h1, at_of (j := 1) rfl rfl, _, rfl, r2, _, _, .int b.den, rfl, rfl, SqT.of h2, at_of (j := 1) rfl rfl, _, _, rfl, rfl, big_mulW za.d zb.d, ?_⟩
    refine ⟨_, _, rfl, den_ne a b, s3, s2, fun r H' ss nr er => ?_⟩
    rw [low_times] at er
    exact q r H' ss nr er
/-- the law's stripping, on numbers -/
theorem lpoly_q {K : PySem.W.Frag} {H : Hp} {l : Addr} {qs : List Rat} {Q : VK} (h : RL H l qs) (hl : qs.length ≤ 1000) (k : ∀ (l' : Addr) (H' : Hp), Same H H' → RL H' l' (stripQ qs) → Q (.ref l') H') {E : XK} : spLPoly K [.ref l] H Q E := by
  obtain ⟨as, e, t⟩ := h
  have := t.lenQ
  refine ⟨l, as, qs.map pq, rfl, SqL.of e, t, by omega, fun l' as' H' s n e' t' => k l' H' s ⟨as', e', ?_⟩⟩
  rw [strip_map] at t'
  exact t'
theorem scLPPlus : FnScope ["_law_one", "_law_two", "_law_many", "_law_first", "_law_second", "_law_a", "_law_b"] ["_law_one", "_law_two"] (defScope sLPPlus) := ⟨rfl, rfl, rfl, by decide +kernel, rfl, by decide +kernel, by decide +kernel⟩
theorem ok_lpplus {f : Addr} {fd : FuncData} (F : Fun K "_law_p_plus" "_law_p_plus" sLPPlus f fd) (T : Bk mg) (hmax : mg "max" = none) (hzip : mg "zip" = none) (Gpoly : Df P w K mg base "_law_poly" 1 ["_law_numbers"] (spLPoly K)) (Gplus : Df P w K mg base "_law_plus" 3 ["_law_one", "_law_two"] (spL2 rAdd)) :
    FnOk P w K mg base CX0 4 f fd ["_law_one", "_law_two"] spLPP := by
  refine F.ok scLPPlus (fun vs H Q E h => ?_) (fun cdv A outer s H vs Q E hr h => ?_)
  · obtain ⟨l1, l2, a, b, rfl, _⟩ := h
    rfl
  · obtain ⟨l1, l2, a, b, rfl, ⟨as, e1, t1⟩, ⟨bs, e2, t2⟩, la, lb, za, zb, q⟩ := h
    refine ⟨_, (pss_cons (ps_set (i := 2) scLPPlus.nd rfl (Or.inl rfl) (pe_callB (cr_max rfl) (by rfl) hmax (by decide +kernel) (pa_cons (pe_lst (pa_cons (pe_callB call_len_seq (by rfl) T.len (by decide +kernel) (pa_cons (pv 0) pa_nil)) (pa_cons (pe_callB call_len_seq (by rfl) T.len (by decide +kernel) (pa_cons (pv 1) pa_nil)) pa_nil))) pa_nil)))
  (pss_cons (ps_par (i := 3) (j := 4) (by rfl) scLPPlus.nd rfl rfl (by decide) rfl rfl (pa_cons (pe_op op_cat (pv 0) (pe_op op_rep (pe_lst (pa_cons (pe_tup (pa_cons pe_int (pa_cons pe_int pa_nil))) pa_nil)) (pe_op op_sub (pv 2) (pe_callB call_len_seq (by rfl) T.len (by decide +kernel) (pa_cons (pv 0) pa_nil))))) (pa_cons (pe_op op_cat (pv 1) (pe_op op_rep (pe_lst (pa_cons (pe_tup (pa_cons pe_int (pa_cons pe_int pa_nil))) pa_nil)) (pe_op op_sub (pv 2) (pe_callB call_len_seq (by rfl) T.len (by decide +kernel) (pa_cons (pv 1) pa_nil))))) pa_nil)) (by rfl))
  (pss_one (ps_ret (pe_call Gpoly.ok (hr.mono (by decide)) rfl Gpoly.m Gpoly.kp Gpoly.b .nil pass0 (pa_cons (pe_lc (own := [("_law_a", 5), ("_law_b", 6)]) (g := gTup K 2 (gCons (gName 5) (gCons (gName 6) gNil))) (tt := tYes) rfl scLPPlus.nd (pi_zip (by rfl) hzip (pa_cons (pv 3) (pa_cons (pv 4) pa_nil))) (blkOk_by (N := ["_law_one", "_law_two", "_law_many", "_law_first", "_law_second", "_law_a", "_law_b"]) (sc := defScope sLPPlus) (by decide +kernel)) (fun _ _ _ _ _ => pg_tup rfl (pgs_cons (pg_name (i := 5) scLPPlus.nd rfl (Or.inl rfl)) (pgs_cons (pg_name (i := 6) scLPPlus.nd rfl (Or.inl rfl)) pgs_nil))) (fun _ _ _ _ _ => pts_nil) (fun _ _ _ _ _ => (pe_call Gplus.ok (hr.mono (by decide)) rfl Gplus.m Gplus.kp Gplus.b .nil pass0 (pa_cons (pv 5) (pa_cons (pv 6) pa_nil))))) pa_nil)))))), ?_⟩
    have n1 := t1.lenQ
    have n2 := t2.lenQ
    refine ⟨_, rfl, l1, _, rfl, .inl (SqL.of e1), _, rfl, l2, _, rfl, .inl (SqL.of e2), (by show 2 ≤ sizeLine; decide), fun lm nlm => ?_⟩
    rw [List.length_map, List.length_map, n1, n2]
    have elm : upd H lm (HO.lst [V.int (a.length : Nat), V.int (b.length : Nat)]) lm = some (HO.lst [V.int (a.length : Nat), V.int (b.length : Nat)]) := upd_same
    have s1 : Same H (upd H lm (HO.lst [V.int (a.length : Nat), V.int (b.length : Nat)])) := same_upd nlm
    generalize upd H lm (HO.lst [V.int (a.length : Nat), V.int (b.length : Nat)]) = H1 at elm s1 ⊢
    refine ⟨lm, [(a.length : Nat), (b.length : Nat)], rfl, SqL.of elm, (by show 0 < 2; decide), fun m hm1 hm2 => ?_⟩
    have hm : m = ((max a.length b.length : Nat) : Int) := by
      have h1 := hm2 (a.length : Nat) (by simp)
      have h2 := hm2 (b.length : Nat) (by simp)
      simp only [List.mem_cons, List.not_mem_nil, or_false] at hm1
      omega
    subst hm
    generalize hn : max a.length b.length = n
    have e1' := s1 _ _ e1
    have e2' := s1 _ _ e2
    -- first
    refine ⟨_, rfl, (by show 2 ≤ sizeLine; decide), fun t0 nt0 => ?_⟩
    have et0 : upd H1 t0 (HO.tup [V.int 0, V.int 1]) t0 = some (HO.tup [V.int 0, V.int 1]) := upd_same
    have s2 : Same H1 (upd H1 t0 (HO.tup [V.int 0, V.int 1])) := same_upd nt0
    generalize upd H1 t0 (HO.tup [V.int 0, V.int 1]) = H2 at et0 s2 ⊢
    refine ⟨(by show 1 ≤ sizeLine; decide), fun k1 nk1 => ?_⟩
    have ek1 : upd H2 k1 (HO.lst [V.ref t0]) k1 = some (HO.lst [V.ref t0]) := upd_same
    have s3 : Same H2 (upd H2 k1 (HO.lst [V.ref t0])) := same_upd nk1
    generalize upd H2 k1 (HO.lst [V.ref t0]) = H3 at ek1 s3 ⊢
    have e13 := s3 _ _ (s2 _ _ e1')
    refine ⟨_, rfl, _, rfl, l1, _, rfl, .inl (SqL.of e13), _, _, rfl, rfl, ?_⟩
    rw [List.length_map, n1]
    refine ⟨k1, _, _, rfl, rfl, ek1, by omega, by omega, (by rw [sizeLine_eq]; show 1 * _ ≤ _; omega), fun k2 nk2 => ?_⟩
    have ek2 : upd H3 k2 (HO.lst (List.replicate ((n : Nat) - (a.length : Nat) : Int).toNat [V.ref t0]).flatten) k2 = some (HO.lst ((List.replicate (n - a.length) t0).map V.ref)) := by
      rw [upd_same, flat_repQ, show ((n : Nat) - (a.length : Nat) : Int).toNat = n - a.length by omega]
    have s4 : Same H3 (upd H3 k2 (HO.lst (List.replicate ((n : Nat) - (a.length : Nat) : Int).toNat [V.ref t0]).flatten)) := same_upd nk2
    generalize upd H3 k2 (HO.lst (List.replicate ((n : Nat) - (a.length : Nat) : Int).toNat [V.ref t0]).flatten) = H4 at ek2 s4 ⊢
    refine ⟨l1, k2, _, _, rfl, rfl, s4 _ _ e13, ek2, (by rw [List.length_map, List.length_map, List.length_replicate, sizeLine_eq]; omega), fun f1 nf1 => ?_⟩
    have ef1 : upd H4 f1 (HO.lst (as.map V.ref ++ (List.replicate (n - a.length) t0).map V.ref)) f1 = some (HO.lst ((as ++ List.replicate (n - a.length) t0).map V.ref)) := by rw [upd_same, List.map_append]
    have s5 : Same H4 (upd H4 f1 (HO.lst (as.map V.ref ++ (List.replicate (n - a.length) t0).map V.ref))) := same_upd nf1
    generalize upd H4 f1 (HO.lst (as.map V.ref ++ (List.replicate (n - a.length) t0).map V.ref)) = H5 at ef1 s5 ⊢
    have s15 : Same H1 H5 := s2.trans (s3.trans (s4.trans s5))
    have tf1 : Tups H5 (as ++ List.replicate (n - a.length) t0) ((a ++ List.replicate (n - a.length) 0).map pq) := by
      rw [List.map_append]
      exact ((t1.same s1).same s15).app (tups_rep0 (show TR H5 t0 0 from s5 _ _ (s4 _ _ (s3 _ _ et0))) _)
    -- second
    refine ⟨_, rfl, (by show 2 ≤ sizeLine; decide), fun t0' nt0' => ?_⟩
    have et0' : upd H5 t0' (HO.tup [V.int 0, V.int 1]) t0' = some (HO.tup [V.int 0, V.int 1]) := upd_same
    have s6 : Same H5 (upd H5 t0' (HO.tup [V.int 0, V.int 1])) := same_upd nt0'
    generalize upd H5 t0' (HO.tup [V.int 0, V.int 1]) = H6 at et0' s6 ⊢
    refine ⟨(by show 1 ≤ sizeLine; decide), fun k3 nk3 => ?_⟩
    have ek3 : upd H6 k3 (HO.lst [V.ref t0']) k3 = some (HO.lst [V.ref t0']) := upd_same
    have s7 : Same H6 (upd H6 k3 (HO.lst [V.ref t0'])) := same_upd nk3
    generalize upd H6 k3 (HO.lst [V.ref t0']) = H7 at ek3 s7 ⊢
    have e27 := s7 _ _ (s6 _ _ (s15 _ _ e2'))
    refine ⟨_, rfl, _, rfl, l2, _, rfl, .inl (SqL.of e27), _, _, rfl, rfl, ?_⟩
    rw [List.length_map, n2]
    refine ⟨k3, _, _, rfl, rfl, ek3, by omega, by omega, (by rw [sizeLine_eq]; show 1 * _ ≤ _; omega), fun k4 nk4 => ?_⟩
    have ek4 : upd H7 k4 (HO.lst (List.replicate ((n : Nat) - (b.length : Nat) : Int).toNat [V.ref t0']).flatten) k4 = some (HO.lst ((List.replicate (n - b.length) t0').map V.ref)) := by
      rw [upd_same, flat_repQ, show ((n : Nat) - (b.length : Nat) : Int).toNat = n - b.length by omega]
    have s8 : Same H7 (upd H7 k4 (HO.lst (List.replicate ((n : Nat) - (b.length : Nat) : Int).toNat [V.ref t0']).flatten)) := same_upd nk4
    generalize upd H7 k4 (HO.lst (List.replicate ((n : Nat) - (b.length : Nat) : Int).toNat [V.ref t0']).flatten) = H8 at ek4 s8 ⊢
    refine ⟨l2, k4, _, _, rfl, rfl, s8 _ _ e27, ek4, (by rw [List.length_map, List.length_map, List.length_replicate, sizeLine_eq]; omega), fun f2 nf2 => ?_⟩
    have ef2 : upd H8 f2 (HO.lst (bs.map V.ref ++ (List.replicate (n - b.length) t0').map V.ref)) f2 = some (HO.lst ((bs ++ List.replicate (n - b.length) t0').map V.ref)) := by rw [upd_same, List.map_append]
    have s9 : Same H8 (upd H8 f2 (HO.lst (bs.map V.ref ++ (List.replicate (n - b.length) t0').map V.ref))) := same_upd nf2
    generalize upd H8 f2 (HO.lst (bs.map V.ref ++ (List.replicate (n - b.length) t0').map V.ref)) = H9 at ef2 s9 ⊢
    have s59 : Same H5 H9 := s6.trans (s7.trans (s8.trans s9))
    have tf2 : Tups H9 (bs ++ List.replicate (n - b.length) t0') ((b ++ List.replicate (n - b.length) 0).map pq) := by
      rw [List.map_append]
      exact (((t2.same s1).same s15).same s59).app (tups_rep0 (show TR H9 t0' 0 from s9 _ _ (s8 _ _ (s7 _ _ et0'))) _)
    have ef19 := s59 _ _ ef1
    have tf19 := tf1.same s59
    generalize as ++ List.replicate (n - a.length) t0 = xs at ef19 tf19 ef1 tf1
    generalize bs ++ List.replicate (n - b.length) t0' = ys at ef2 tf2
    have lx : xs.length = n := by
      have := tf19.lenQ
      rw [List.length_append, List.length_replicate] at this
      omega
    have ly : ys.length = n := by
      have := tf2.lenQ
      rw [List.length_append, List.length_replicate] at this
      omega
    have pad : ∀ (c : List Rat) (m i : Nat), cf (c ++ List.replicate m 0) i = cf c i := fun c m i => by
      rw [cf_app]
      split
      · rfl
      · rw [cf_rep0, cf_ge (by omega)]
    refine ⟨_, _, rfl, _, rfl, _, rfl, f1, f2, _, _, rfl, SqL.of ef19, SqL.of ef2, fun D hD => lc_zipL (K := K) (a := f1) (b := f2) (xs := xs.map V.ref) (ys := ys.map V.ref) (by rw [List.length_map, List.length_map, lx, ly]) (fun i H' => Same H9 H' ∧ ∃ zs, H' D = some (.lst (zs.map V.ref)) ∧ Tups H' zs ((tab i fun i => cf a i + cf b i).map pq)) ?_ ?_ ?_ ?_⟩
    · exact ⟨same_upd hD, [], upd_same, .nil⟩
    · rintro i H' ⟨ss, _⟩
      exact ⟨same_sqL ss (SqL.of ef19), same_sqL ss (SqL.of ef2)⟩
    · intro i x y T H' hx hy ⟨ss, zs, eD, tz⟩ nT
      rw [List.getElem?_map] at hx hy
      cases hx0 : xs[i]? with
      | none => rw [hx0] at hx; cases hx
      | some r1 =>
        cases hy0 : ys[i]? with
        | none => rw [hy0] at hy; cases hy
        | some r2 =>
          rw [hx0] at hx
          rw [hy0] at hy
          cases hx
          cases hy
          obtain ⟨q1, h1, g1⟩ := tf19.atQ hx0
          obtain ⟨q2, h2, g2⟩ := tf2.atQ hy0
          have c1 : q1 = cf a i := by rw [← cf_get h1, pad]
          have c2 : q2 = cf b i := by rw [← cf_get h2, pad]
          have sT : Same H' (upd H' T (.tup [V.ref r1, V.ref r2])) := same_upd nT
          refine ⟨T, _, rfl, SqT.of upd_same, rfl, _, _, rfl, _, _, rfl, rfl, rfl, ?_⟩
          refine ⟨_, rfl, _, rfl, r1, r2, q1, q2, rfl, (g1.same ss).same sT, (g2.same ss).same sT, (by rw [c1]; exact za i), (by rw [c2]; exact zb i), fun r H'' s' nr er => ?_⟩
          have eD' := s' _ _ (sT _ _ eD)
          have DT : D ≠ T := ne_of_none eD nT
          refine ⟨_, eD', ?_, (fun b' o' e' => ?_), zs ++ [r], ?_, ?_⟩
          · have := tz.lenQ
            rw [tab_len] at this
            have : i < n := by
              have := (List.getElem?_eq_some_iff.mp hx0).1
              omega
            rw [List.length_map, sizeLine_eq]
            omega
          · rw [upd_ne (ne_of_none e' hD)]
            exact s' _ _ (sT _ _ (ss _ _ e'))
          · rw [upd_same, List.map_append]
            rfl
          · rw [tab_snoc]
            have up : ∀ (c : Addr) (p : Int × Int), H'' c = some (.tup [.int p.1, .int p.2]) → upd H'' D (.lst (zs.map V.ref ++ [V.ref r])) c = some (.tup [.int p.1, .int p.2]) := fun c p z => by
              rw [upd_ne (ne_of z eD' (by intro z; cases z))]
              exact z
            refine Tups.snocQ ((((tz.same sT).same s')).imp up) ?_
            rw [c1, c2] at er
            exact up _ (pq (cf a i + cf b i)) er
    · rintro H' ⟨ss, zs, eD, tz⟩
      have e : tab (xs.map V.ref).length (fun i => cf a i + cf b i) = padd a b := by
        rw [List.length_map, lx, ← hn]
        rfl
      rw [e] at tz
      have s19 : Same H H' := s1.trans (s15.trans (s59.trans ss))
      refine lpoly_q (E := E0) ⟨zs, eD, tz⟩ (by unfold padd; rw [tab_len]; omega) fun l' H'' s' r => q l' H'' (s19.trans s') r
theorem scLPScaled : FnScope ["_law_one", "_law_by", "_law_a"] ["_law_one", "_law_by"] (defScope sLPScaled) := ⟨rfl, rfl, rfl, by decide +kernel, rfl, by decide +kernel, by decide +kernel⟩
theorem ok_lpscaled {f : Addr} {fd : FuncData} (F : Fun K "_law_p_scaled" "_law_p_scaled" sLPScaled f fd) (Gpoly : Df P w K mg base "_law_poly" 1 ["_law_numbers"] (spLPoly K)) (Gtimes : Df P w K mg base "_law_times" 3 ["_law_one", "_law_two"] (spL2 rMul)) :
    FnOk P w K mg base CX0 4 f fd ["_law_one", "_law_by"] spLPS := by
  refine F.ok scLPScaled (fun vs H Q E h => ?_) (fun cdv A outer s H vs Q E hr h => ?_)
  · obtain ⟨l1, r, a, c, rfl, _⟩ := h
    rfl
  · obtain ⟨l1, r, a, c, rfl, ⟨as, e1, t1⟩, hr2, la, za, zc, q⟩ := h
    refine ⟨_, (pss_one (ps_ret (pe_call Gpoly.ok (hr.mono (by decide)) rfl Gpoly.m Gpoly.kp Gpoly.b .nil pass0 (pa_cons (pe_lc (own := [("_law_a", 2)]) (g := gName 2) (tt := tYes) rfl scLPScaled.nd (pi_seq (pv 0)) (blkOk_by (N := ["_law_one", "_law_by", "_law_a"]) (sc := defScope sLPScaled) (by decide +kernel)) (fun _ _ _ _ _ => pg_name (i := 2) scLPScaled.nd rfl (Or.inl rfl)) (fun _ _ _ _ _ => pts_nil) (fun _ _ _ _ _ => (pe_call Gtimes.ok (hr.mono (by decide)) rfl Gtimes.m Gtimes.kp Gtimes.b .nil pass0 (pa_cons (pv 2) (pa_cons (pv 1) pa_nil))))) pa_nil)))), ?_⟩
    have n1 := t1.lenQ
    refine ⟨_, rfl, l1, rfl, lc_seq (xs := as.map V.ref) (.inl (SqL.of e1)) (fun D i H' => Same H H' ∧ ∃ zs, H' D = some (.lst (zs.map V.ref)) ∧ Tups H' zs ((tab i fun i => cf a i * c).map pq)) ?_ ?_ ?_ ?_⟩
    · intro D hD
      exact ⟨same_upd hD, [], upd_same, .nil⟩
    · intro D i H' hD ⟨ss, _⟩
      exact ⟨same_sqL ss, same_sqT ss⟩
    · intro D i x H' hD hx ⟨ss, zs, eD, tz⟩
      rw [List.getElem?_map] at hx
      cases hx0 : as[i]? with
      | none => rw [hx0] at hx; cases hx
      | some r1 =>
        rw [hx0] at hx
        cases hx
        obtain ⟨q1, h1, g1⟩ := t1.atQ hx0
        have c1 : q1 = cf a i := (cf_get h1).symm
        refine ⟨rfl, ?_⟩
        refine ⟨_, rfl, _, rfl, r1, r, q1, c, rfl, g1.same ss, hr2.same ss, (by rw [c1]; exact za i), zc, fun r' H'' s' nr er => ?_⟩
        have eD' := s' _ _ eD
        refine ⟨_, eD', ?_, (fun b' o' e' => ?_), zs ++ [r'], ?_, ?_⟩
        · have := tz.lenQ
          rw [tab_len] at this
          have := (List.getElem?_eq_some_iff.mp hx0).1
          rw [List.length_map, sizeLine_eq]
          omega
        · rw [upd_ne (ne_of_none e' hD)]
          exact s' _ _ (ss _ _ e')
        · rw [upd_same, List.map_append]
          rfl
        · rw [tab_snoc]
          have up : ∀ (c : Addr) (p : Int × Int), H'' c = some (.tup [.int p.1, .int p.2]) → upd H'' D (.lst (zs.map V.ref ++ [V.ref r'])) c = some (.tup [.int p.1, .int p.2]) := fun c p z => by
            rw [upd_ne (ne_of z eD' (by intro z; cases z))]
            exact z
          refine Tups.snocQ ((tz.same s').imp up) ?_
          rw [c1] at er
          exact up _ (pq (cf a i * c)) er
    · intro D H' hD ⟨ss, zs, eD, tz⟩
      have e : tab (as.map V.ref).length (fun i => cf a i * c) = pscale a c := by
        rw [List.length_map, n1]
        refine List.ext_getElem (by rw [tab_len]; unfold pscale; rw [List.length_map]) fun i h1 h2 => ?_
        rw [← cf_lt h1, ← cf_lt h2, cf_tab, if_pos (by rw [tab_len] at h1; exact h1)]
        unfold pscale
        rw [cf_map (f := fun x => x * c) (Rat.zero_mul c)]
      rw [e] at tz
      refine lpoly_q (E := E0) ⟨zs, eD, tz⟩ (by unfold pscale; rw [List.length_map]; omega) fun l' H'' s' r => q l' H'' (ss.trans s') r
theorem cf_pscale (a : List Rat) (c : Rat) (i : Nat) : cf (pscale a c) i = cf a i * c := by
  unfold pscale
  exact cf_map (f := fun x => x * c) (Rat.zero_mul c) a i
theorem sr_neg {q : Rat} (h : Sr q) : Sr (q * -1) := by
  have e : q * -1 = -q := by grind
  rw [e]
  exact ⟨by rw [Rat.neg_num, Int.natAbs_neg]; exact h.1, by rw [Rat.neg_den]; exact h.2⟩
theorem scLPMinus : FnScope ["_law_one", "_law_two"] ["_law_one", "_law_two"] (defScope sLPMinus) := ⟨rfl, rfl, rfl, by decide +kernel, rfl, by decide +kernel, by decide +kernel⟩
theorem ok_lpminus {f : Addr} {fd : FuncData} (F : Fun K "_law_p_minus" "_law_p_minus" sLPMinus f fd) (Gpp : Df P w K mg base "_law_p_plus" 4 ["_law_one", "_law_two"] spLPP) (Gps : Df P w K mg base "_law_p_scaled" 4 ["_law_one", "_law_by"] spLPS) :
    FnOk P w K mg base CX0 5 f fd ["_law_one", "_law_two"] spLPM := by
  refine F.ok scLPMinus (fun vs H Q E h => ?_) (fun cdv A outer s H vs Q E hr h => ?_)
  · obtain ⟨l1, l2, a, b, rfl, _⟩ := h
    rfl
  · obtain ⟨l1, l2, a, b, rfl, r1, r2, la, lb, za, zb, q⟩ := h
    refine ⟨_, (pss_one (ps_ret (pe_call Gpp.ok (hr.mono (by decide)) rfl Gpp.m Gpp.kp Gpp.b .nil pass0 (pa_cons (pv 0) (pa_cons (pe_call Gps.ok (hr.mono (by decide)) rfl Gps.m Gps.kp Gps.b .nil pass0 (pa_cons (pv 1) (pa_cons (pe_tup (pa_cons (pe_un un_neg pe_int) (pa_cons pe_int pa_nil))) pa_nil))) pa_nil))))), ?_⟩
    refine ⟨_, rfl, _, rfl, _, rfl, (by show 2 ≤ sizeLine; decide), fun t nt => ?_⟩
    have et : upd H t (HO.tup [V.int (-1), V.int 1]) t = some (HO.tup [V.int (-1), V.int 1]) := upd_same
    have s1 : Same H (upd H t (HO.tup [V.int (-1), V.int 1])) := same_upd nt
    generalize upd H t (HO.tup [V.int (-1), V.int 1]) = H1 at et s1 ⊢
    have sm1 : Sr (-1) := ⟨by show 1 < 2 ^ 4300; exact Nat.one_lt_pow (by decide) (by decide), by show 1 < 2 ^ 4300; exact Nat.one_lt_pow (by decide) (by decide)⟩
    refine ⟨l2, t, b, -1, rfl, r2.same s1, et, lb, zb, sm1, fun l H2 s2 rl => ?_⟩
    have s12 := s1.trans s2
    refine ⟨l1, l, a, _, rfl, r1.same s12, rl, la, ?_, za, fun i => ?_, fun l' H3 s3 r3 => q l' H3 (s12.trans s3) r3⟩
    · have := stripQ_len (pscale b (-1))
      have e : (pscale b (-1)).length = b.length := by unfold pscale; rw [List.length_map]
      omega
    · rw [cf_stripQ, cf_pscale]
      exact sr_neg (zb i)
end
end Vf
set_option maxRecDepth 100000
set_option maxHeartbeats 8000000
namespace Vf
open PySem PySem.Spec PyProof.Rows L2
/-- the value by Horner's steps -/
def hor (x : Rat) : List Rat → Rat
  | [] => 0
  | c :: l => hor x l * x + c
theorem hor_step {x : Rat} {a : List Rat} {j : Nat} (h : j < a.length) : hor x (a.drop (a.length - (j + 1))) = hor x (a.drop (a.length - j)) * x + cf a (a.length - 1 - j) := by
  have h1 : a.length - (j + 1) < a.length := by omega
  rw [List.drop_eq_getElem_cons h1]
  show hor x (a.drop (a.length - (j + 1) + 1)) * x + _ = _
  rw [show a.length - (j + 1) + 1 = a.length - j by omega, cf_lt (show a.length - 1 - j < a.length by omega)]
  congr 2
  omega
theorem rev_at {a : List Rat} {j : Nat} {as : List Addr} {r : Addr} (hl : as.length = a.length) (h : (as.map V.ref).reverse[j]? = some (V.ref r)) : as[a.length - 1 - j]? = some r ∧ j < a.length := by
  have hj : j < a.length := by
    have := (List.getElem?_eq_some_iff.mp h).1
    rw [List.length_reverse, List.length_map] at this
    omega
  rw [List.getElem?_reverse (by rw [List.length_map]; omega), List.length_map, List.getElem?_map, hl] at h
  refine ⟨?_, hj⟩
  cases e : as[a.length - 1 - j]? with
  | none => rw [e] at h; cases h
  | some r' =>
    rw [e] at h
    cases h
    rfl
theorem fr_hor {M N B L W j : Nat} {y x c : Rat} (hB : B ≤ W) (hL : L ≤ W) (hy : Fr (M * B ^ j) (N * (j * W ^ j)) y) (hx : Fr B L x) (hc : Fr M N c) : Fr (M * B ^ (j + 1)) (N * ((j + 1) * W ^ (j + 1))) (y * x + c) := by
  have h1 := hy.mul hx
  have h2 := hc.scale (B ^ (j + 1))
  rw [Nat.mul_assoc, ← Nat.pow_succ] at h1
  refine (h1.add h2).le ?_
  have e1 : N * (j * W ^ j) * L ≤ N * (j * W ^ (j + 1)) := by
    rw [Nat.mul_assoc, Nat.mul_assoc, Nat.pow_succ]
    exact Nat.mul_le_mul_left _ (Nat.mul_le_mul_left _ (Nat.mul_le_mul_left _ hL))
  have e2 : N * B ^ (j + 1) ≤ N * W ^ (j + 1) := Nat.mul_le_mul_left _ (Nat.pow_le_pow_left hB _)
  have e3 : N * ((j + 1) * W ^ (j + 1)) = N * (j * W ^ (j + 1)) + N * W ^ (j + 1) := by rw [Nat.succ_mul, Nat.mul_add]
  omega
def spLPA : Sp := fun vs H Q _ => ∃ (l1 r : Addr) (a : List Rat) (x : Rat) (M N B L W : Nat), vs = [.ref l1, .ref r] ∧ RL H l1 a ∧ TR H r x ∧ (∀ i, Fr M N (cf a i)) ∧ Fr B L x ∧ 0 < M ∧ 0 < B ∧ B ≤ W ∧ L ≤ W ∧
  M * W ^ (a.length + 1) < 2 ^ 4300 ∧ N * ((a.length + 1) * W ^ (a.length + 1)) < 2 ^ 4300 ∧ L < 2 ^ 4300 ∧ ∀ (r' : Addr) (H' : Hp), Same H H' → TR H' r' (hor x a) → Q (.ref r') H'
def pslope (a : List Rat) : List Rat := tab (a.length - 1) fun j => cf a (j + 1) * ((j + 1 : Nat) : Rat)
def spLPSl : Sp := fun vs H Q _ => ∃ (l1 : Addr) (a : List Rat), vs = [.ref l1] ∧ RL H l1 a ∧ a.length ≤ 500 ∧ SrL a ∧ ∀ (l : Addr) (H' : Hp), Same H H' → RL H' l (stripQ (pslope a)) → Q (.ref l) H'
/-- the law's moving, step by step -/
def mvl (s t : Rat) : List Rat → List Rat
  | [] => []
  | c :: l => stripQ (padd (stripQ (pmul (mvl s t l) (stripQ [s, t]))) (stripQ [c]))
theorem mvl_len (s t : Rat) : ∀ a : List Rat, (mvl s t a).length ≤ a.length
  | [] => Nat.le_refl _
  | c :: l => by
    have ih := mvl_len s t l
    show (stripQ _).length ≤ _
    have h1 := stripQ_len (padd (stripQ (pmul (mvl s t l) (stripQ [s, t]))) (stripQ [c]))
    have h2 := stripQ_len (pmul (mvl s t l) (stripQ [s, t]))
    have h3 := stripQ_len [s, t]
    have h4 := stripQ_len [c]
    have e1 : (padd (stripQ (pmul (mvl s t l) (stripQ [s, t]))) (stripQ [c])).length = max (stripQ (pmul (mvl s t l) (stripQ [s, t]))).length (stripQ [c]).length := by unfold padd; rw [tab_len]
    have e2 : (pmul (mvl s t l) (stripQ [s, t])).length = (mvl s t l).length + (stripQ [s, t]).length - 1 := by unfold pmul; rw [tab_len]
    simp only [List.length_cons, List.length_nil] at *
    omega
theorem pc_line {a b : List Rat} (hb : ∀ k, 2 ≤ k → cf b k = 0) : ∀ i, pc a b i = cf a i * cf b 0 + if i = 0 then 0 else cf a (i - 1) * cf b 1
  | 0 => by
    unfold pc
    show sm (fun x => cf a x * cf b (0 - x)) 0 + cf a 0 * cf b (0 - 0) = _
    rw [if_pos rfl, Rat.add_zero]
    show (0 : Rat) + _ = _
    rw [Rat.zero_add]
  | k + 1 => by
    unfold pc
    show sm (fun x => cf a x * cf b (k + 1 - x)) k + cf a k * cf b (k + 1 - k) + cf a (k + 1) * cf b (k + 1 - (k + 1)) = _
    rw [sm_zero fun x hx => by rw [hb _ (by omega), Rat.mul_zero], if_neg (by omega), show k + 1 - k = 1 by omega, Nat.sub_self, Nat.add_sub_cancel, Rat.zero_add, Rat.add_comm]
theorem cf_pair (s t : Rat) (k : Nat) : cf (stripQ [s, t]) k = if k = 0 then s else if k = 1 then t else 0 := by
  rw [cf_stripQ]
  match k with
  | 0 => rfl
  | 1 => rfl
  | k + 2 => rw [if_neg (by omega), if_neg (by omega), cf_ge (by simp)]
theorem cf_one (c : Rat) (k : Nat) : cf (stripQ [c]) k = if k = 0 then c else 0 := by
  rw [cf_stripQ]
  match k with
  | 0 => rfl
  | k + 1 => rw [if_neg (by omega), cf_ge (by simp)]
theorem cf_mvl (s t c : Rat) (l : List Rat) (i : Nat) : cf (mvl s t (c :: l)) i = cf (mvl s t l) i * s + (if i = 0 then 0 else cf (mvl s t l) (i - 1) * t) + if i = 0 then c else 0 := by
  show cf (stripQ _) i = _
  rw [cf_stripQ, cf_padd, cf_stripQ, cf_pmul, pc_line (fun k hk => by rw [cf_pair, if_neg (by omega), if_neg (by omega)]), cf_pair, cf_pair, cf_one, if_pos rfl]
  rfl
theorem fr_mvl {M N B L W : Nat} {s t : Rat} (hB : B ≤ W) (hL : 2 * L ≤ W) (hs : Fr B L s) (ht : Fr B L t) : ∀ {a : List Rat}, (∀ x ∈ a, Fr M N x) → ∀ i, Fr (M * B ^ a.length) (N * (a.length * W ^ a.length)) (cf (mvl s t a) i)
  | [], _, i => Fr.zero _ _
  | c :: l, h, i => by
    have ih := fr_mvl hB hL hs ht (a := l) fun x hx => h x (List.mem_cons_of_mem _ hx)
    have hc := h c (List.mem_cons_self ..)
    rw [cf_mvl]
    show Fr (M * B ^ (l.length + 1)) (N * ((l.length + 1) * W ^ (l.length + 1))) _
    have h1 := (ih i).mul hs
    have h2 : Fr (M * B ^ l.length * B) (N * (l.length * W ^ l.length) * L) (if i = 0 then 0 else cf (mvl s t l) (i - 1) * t) := by
      split
      · exact Fr.zero _ _
      · exact (ih (i - 1)).mul ht
    have h3 : Fr (M * B ^ (l.length + 1)) (N * B ^ (l.length + 1)) (if i = 0 then c else 0) := by
      split
      · exact hc.scale _
      · exact Fr.zero _ _
    rw [Nat.mul_assoc, ← Nat.pow_succ] at h1 h2
    refine ((h1.add h2).add h3).le ?_
    have e1 : N * (l.length * W ^ l.length) * L + N * (l.length * W ^ l.length) * L ≤ N * (l.length * W ^ (l.length + 1)) := by
      have e : N * (l.length * W ^ l.length) * L + N * (l.length * W ^ l.length) * L = N * (l.length * W ^ l.length) * (2 * L) := by rw [← Nat.mul_add, Nat.two_mul]
      rw [e, Nat.mul_assoc, Nat.mul_assoc, Nat.pow_succ]
      exact Nat.mul_le_mul_left _ (Nat.mul_le_mul_left _ (Nat.mul_le_mul_left _ hL))
    have e2 : N * B ^ (l.length + 1) ≤ N * W ^ (l.length + 1) := Nat.mul_le_mul_left _ (Nat.pow_le_pow_left hB _)
    have e3 : N * ((l.length + 1) * W ^ (l.length + 1)) = N * (l.length * W ^ (l.length + 1)) + N * W ^ (l.length + 1) := by rw [Nat.succ_mul, Nat.mul_add]
    omega
section
variable {P : Program} {w : World} {K : PySem.W.Frag} {mg : Str → Option Value} {base : Heap} {CN : Addr}
abbrev sLPAt : Stmt := topS 68
abbrev sLPSlope : Stmt := topS 69
theorem pow_le_W {B W j n : Nat} (hB : B ≤ W) (h0 : 0 < B) (hj : j ≤ n) : B ^ j ≤ W ^ n := Nat.le_trans (Nat.pow_le_pow_left hB j) (Nat.pow_le_pow_right (by omega) hj)
theorem scLPAt : FnScope ["_law_one", "_law_point", "_law_total", "_law_number"] ["_law_one", "_law_point"] (defScope sLPAt) := ⟨rfl, rfl, rfl, by decide +kernel, rfl, by decide +kernel, by decide +kernel⟩
theorem ok_lpat {f : Addr} {fd : FuncData} (F : Fun K "_law_p_at" "_law_p_at" sLPAt f fd) (Gplus : Df P w K mg base "_law_plus" 3 ["_law_one", "_law_two"] (spL2 rAdd)) (Gtimes : Df P w K mg base "_law_times" 3 ["_law_one", "_law_two"] (spL2 rMul)) :
    FnOk P w K mg base CX0 4 f fd ["_law_one", "_law_point"] spLPA := by
  refine F.ok scLPAt (fun vs H Q E h => ?_) (fun cdv A outer s H vs Q E hr h => ?_)
  · obtain ⟨l1, r, a, x, M, N, B, L, W, rfl, _⟩ := h
    rfl
  · obtain ⟨l1, r, a, x, M, N, B, L, W, rfl, ⟨as, e1, t1⟩, rx, fa, fx, hM, hB0, hB, hL, z1, z2, z3, q⟩ := h
    refine ⟨_, (pss_cons (ps_set (i := 2) scLPAt.nd rfl (Or.inl rfl) (pe_tup (pa_cons pe_int (pa_cons pe_int pa_nil))))
  (pss_cons (ps_for PassesOwn.never rfl (pi_list (pe_revL (pv 0))) (pg_name (i := 3) scLPAt.nd rfl (Or.inl rfl))
    (pss_one (ps_set (i := 2) scLPAt.nd rfl (Or.inl rfl) (pe_call Gplus.ok (hr.mono (by decide)) rfl Gplus.m Gplus.kp Gplus.b .nil pass0 (pa_cons (pe_call Gtimes.ok (hr.mono (by decide)) rfl Gtimes.m Gtimes.kp Gtimes.b .nil pass0 (pa_cons (pv 2) (pa_cons (pv 1) pa_nil))) (pa_cons (pv 3) pa_nil))))))
  (pss_one (ps_ret (pv 2))))), ?_⟩
    have n1 := t1.lenQ
    refine ⟨(by show 2 ≤ sizeLine; decide), fun t0 nt0 => ?_⟩
    have et0 : upd H t0 (HO.tup [V.int 0, V.int 1]) t0 = some (HO.tup [V.int 0, V.int 1]) := upd_same
    have s1 : Same H (upd H t0 (HO.tup [V.int 0, V.int 1])) := same_upd nt0
    generalize upd H t0 (HO.tup [V.int 0, V.int 1]) = H1 at et0 s1 ⊢
    refine ⟨_, rfl, l1, _, rfl, SqL.of (s1 _ _ e1), fun lr nlr => ?_⟩
    have elr : upd H1 lr (HO.lst (as.map V.ref).reverse) lr = some (HO.lst (as.map V.ref).reverse) := upd_same
    have s2 : Same H1 (upd H1 lr (HO.lst (as.map V.ref).reverse)) := same_upd nlr
    generalize upd H1 lr (HO.lst (as.map V.ref).reverse) = H2 at elr s2 ⊢
    have s12 := s1.trans s2
    have frj : ∀ j, j ≤ a.length → Fr (M * B ^ j) (N * (j * W ^ j)) (hor x (a.drop (a.length - j))) := fun j => by
      induction j with
      | zero =>
        intro _
        rw [Nat.sub_zero, List.drop_length]
        exact Fr.zero _ _
      | succ j ih =>
        intro hj
        rw [hor_step (by omega)]
        exact fr_hor hB hL (ih (by omega)) fx (fa _)
    have bM : ∀ j, j ≤ a.length + 1 → M * B ^ j < 2 ^ 4300 := fun j hj => Nat.lt_of_le_of_lt (Nat.mul_le_mul_left _ (pow_le_W hB hB0 hj)) z1
    have W0 : 0 < W := by omega
    have bN : ∀ j, j ≤ a.length + 1 → N * (j * W ^ j) < 2 ^ 4300 := fun j hj => Nat.lt_of_le_of_lt (Nat.mul_le_mul_left _ (Nat.mul_le_mul hj (Nat.pow_le_pow_right W0 hj))) z2
    have sx : Sr x := fx.sr hB0 (by
      have h1 := bM 1 (by omega)
      rw [Nat.pow_one] at h1
      have := Nat.le_mul_of_pos_left B hM
      omega) z3
    have sa : SrL a := fun i => (fa i).sr hM (by have h1 := bM 0 (by omega); rw [Nat.pow_zero, Nat.mul_one] at h1; exact h1) (by
      have h1 : N * 1 ≤ N * ((a.length + 1) * W ^ (a.length + 1)) := Nat.mul_le_mul_left _ (Nat.mul_pos (by omega) (Nat.pow_pos W0))
      omega)
    have bNL : ∀ j, j ≤ a.length → N * (j * W ^ j) * L < 2 ^ 4300 := fun j hj => by
      have e1 : N * (j * W ^ j) * L ≤ N * ((a.length + 1) * W ^ (a.length + 1)) := by
        rw [Nat.mul_assoc, Nat.mul_assoc]
        refine Nat.mul_le_mul_left _ (Nat.mul_le_mul (by omega) ?_)
        have : W ^ j * L ≤ W ^ j * W := Nat.mul_le_mul_left _ hL
        rw [← Nat.pow_succ] at this
        exact Nat.le_trans this (Nat.pow_le_pow_right W0 (by omega))
      omega
    refine ⟨lr, rfl, ⟨_, SqL.of elr⟩, for_list (K := K) (a := lr) (xs := (as.map V.ref).reverse) (fun j σ H' => ∃ r2 v3, σ = [some (.ref l1), some (.ref r), some (.ref r2), v3] ∧ Same H2 H' ∧ TR H' r2 (hor x (a.drop (a.length - j)))) ⟨t0, none, rfl, Same.refl _, ?_⟩ (fun j σ H' _ ⟨_, _, _, ss, _⟩ => SqL.of (ss _ _ elr)) ?_ ?_⟩
    · rw [Nat.sub_zero, List.drop_length]
      exact s2 _ _ et0
    · rintro j y σ H3 hj ⟨r2, v3, rfl, s3, t3⟩
      obtain ⟨ry, rfl⟩ : ∃ ry, y = V.ref ry := by
        obtain ⟨b, hb, e⟩ := List.mem_map.mp (List.mem_reverse.mp (List.mem_of_getElem? hj))
        exact ⟨b, e.symm⟩
      obtain ⟨g1, hjl⟩ := rev_at n1 hj
      obtain ⟨qy, g2, g3⟩ := t1.atQ g1
      have cy : qy = cf a (a.length - 1 - j) := (cf_get g2).symm
      have hf := frj j (by omega)
      refine ⟨_, rfl, _, rfl, r2, r, _, x, rfl, t3, rx.same (s12.trans s3), hf.sr (Nat.mul_pos hM (Nat.pow_pos hB0)) (bM j (by omega)) (bN j (by omega)), sx, fun r4 H4 s4 nr4 er4 => ?_⟩
      have hfm := hf.mul fx
      refine ⟨_, rfl, r4, ry, _, qy, rfl, er4, g3.same (s12.trans (s3.trans s4)), hfm.sr (Nat.mul_pos (Nat.mul_pos hM (Nat.pow_pos hB0)) hB0) (by rw [Nat.mul_assoc, ← Nat.pow_succ]; exact bM (j + 1) (by omega)) (bNL j (by omega)), (by rw [cy]; exact sa _), fun r5 H5 s5 nr5 er5 => ?_⟩
      refine ⟨r5, _, rfl, s3.trans (s4.trans s5), ?_⟩
      rw [hor_step hjl, ← cy]
      exact er5
    · rintro σ H3 ⟨r2, v3, rfl, s3, t3⟩
      refine ⟨_, rfl, q r2 H3 (s12.trans s3) ?_⟩
      rw [List.length_reverse, List.length_map, n1, Nat.sub_self, List.drop_zero] at t3
      exact t3
theorem sr_nat {k : Nat} (h : k ≤ 1000) : Sr ((k : Nat) : Rat) := ⟨by rw [Rat.num_natCast, Int.natAbs_natCast]; exact Nat.lt_of_le_of_lt h (Nat.lt_of_lt_of_le (show 1000 < 2 ^ 10 by decide) (Nat.pow_le_pow_right (by decide) (by decide))), by rw [Rat.den_natCast]; exact Nat.one_lt_pow (by decide) (by decide)⟩
theorem scLPSlope : FnScope ["_law_one", "_law_k"] ["_law_one"] (defScope sLPSlope) := ⟨rfl, rfl, rfl, by decide +kernel, rfl, by decide +kernel, by decide +kernel⟩
theorem ok_lpslope {f : Addr} {fd : FuncData} (F : Fun K "_law_p_slope" "_law_p_slope" sLPSlope f fd) (T : Bk mg) (Gpoly : Df P w K mg base "_law_poly" 1 ["_law_numbers"] (spLPoly K)) (Gtimes : Df P w K mg base "_law_times" 3 ["_law_one", "_law_two"] (spL2 rMul)) :
    FnOk P w K mg base CX0 4 f fd ["_law_one"] spLPSl := by
  refine F.ok scLPSlope (fun vs H Q E h => ?_) (fun cdv A outer s H vs Q E hr h => ?_)
  · obtain ⟨l1, a, rfl, _⟩ := h
    rfl
  · obtain ⟨l1, a, rfl, ⟨as, e1, t1⟩, la, sa, q⟩ := h
    refine ⟨_, (pss_one (ps_ret (pe_call Gpoly.ok (hr.mono (by decide)) rfl Gpoly.m Gpoly.kp Gpoly.b .nil pass0 (pa_cons (pe_lc (own := [("_law_k", 1)]) (g := gName 1) (tt := tYes) rfl scLPSlope.nd (pi_range2 (by rfl) T.range (pa_cons pe_int (pa_cons (pe_callB call_len_seq (by rfl) T.len (by decide +kernel) (pa_cons (pv 0) pa_nil)) pa_nil))) (blkOk_by (N := ["_law_one", "_law_k"]) (sc := defScope sLPSlope) (by decide +kernel)) (fun _ _ _ _ _ => pg_name (i := 1) scLPSlope.nd rfl (Or.inl rfl)) (fun _ _ _ _ _ => pts_nil) (fun _ _ _ _ _ => (pe_call Gtimes.ok (hr.mono (by decide)) rfl Gtimes.m Gtimes.kp Gtimes.b .nil pass0 (pa_cons (pe_ix (r := rIxL K) ix_list (pv 0) (pv 1) (fun _ _ => rfl)) (pa_cons (pe_tup (pa_cons (pv 1) (pa_cons pe_int pa_nil))) pa_nil))))) pa_nil)))), ?_⟩
    have n1 := t1.lenQ
    refine ⟨_, rfl, l1, _, rfl, .inl (SqL.of e1), ?_⟩
    rw [List.length_map, n1]
    refine ⟨_, _, rfl, ⟨by omega, by omega, by omega, by omega⟩, fun D hD => lc_range (lo := 1) (n := ((a.length : Nat) - 1 : Int).toNat) (fun i H' => Same H H' ∧ ∃ zs, H' D = some (.lst (zs.map V.ref)) ∧ Tups H' zs ((tab i fun j => cf a (j + 1) * ((j + 1 : Nat) : Rat)).map pq)) ⟨same_upd hD, [], upd_same, .nil⟩ ?_ ?_⟩
    · rintro i H' hi ⟨ss, zs, eD, tz⟩
      have hi : i + 1 < a.length := by omega
      obtain ⟨ra, g1, g2⟩ := t1.getQ hi
      have ga : (as.map V.ref)[i + 1]? = some (V.ref ra) := by rw [List.getElem?_map, g1]; rfl
      refine ⟨rfl, ?_⟩
      refine ⟨_, rfl, _, rfl, l1, _, _, .ref ra, rfl, rfl, SqL.of (ss _ _ e1), at_of (j := i + 1) (by omega) ga, _, rfl, (by show 2 ≤ sizeLine; decide), fun tk ntk => ?_⟩
      have etk : upd H' tk (HO.tup [V.int (1 + (i : Int)), V.int 1]) tk = some (HO.tup [V.int (1 + (i : Int)), V.int 1]) := upd_same
      have s2 : Same H' (upd H' tk (HO.tup [V.int (1 + (i : Int)), V.int 1])) := same_upd ntk
      generalize upd H' tk (HO.tup [V.int (1 + (i : Int)), V.int 1]) = H2 at etk s2 ⊢
      have trk : TR H2 tk ((i + 1 : Nat) : Rat) := by
        unfold TR
        rw [Rat.num_natCast, Rat.den_natCast, etk, show (1 + (i : Int)) = ((i + 1 : Nat) : Int) by omega]
        rfl
      refine ⟨ra, tk, _, _, rfl, (g2.same ss).same s2, trk, sa _, sr_nat (by omega), fun r' H'' s' nr er => ?_⟩
      have eD' := s' _ _ (s2 _ _ eD)
      refine ⟨_, eD', ?_, (fun b' o' e' => ?_), zs ++ [r'], ?_, ?_⟩
      · have := tz.lenQ
        rw [tab_len] at this
        rw [List.length_map, sizeLine_eq]
        omega
      · rw [upd_ne (ne_of_none e' hD)]
        exact s' _ _ (s2 _ _ (ss _ _ e'))
      · rw [upd_same, List.map_append]
        rfl
      · rw [tab_snoc]
        have up : ∀ (c : Addr) (p : Int × Int), H'' c = some (.tup [.int p.1, .int p.2]) → upd H'' D (.lst (zs.map V.ref ++ [V.ref r'])) c = some (.tup [.int p.1, .int p.2]) := fun c p z => by
          rw [upd_ne (ne_of z eD' (by intro z; cases z))]
          exact z
        exact Tups.snocQ (((tz.same s2).same s').imp up) (up _ (pq _) er)
    · rintro H' ⟨ss, zs, eD, tz⟩
      rw [show ((a.length : Nat) - 1 : Int).toNat = a.length - 1 by omega] at tz
      refine lpoly_q (E := E0) ⟨zs, eD, tz⟩ (by rw [tab_len]; omega) fun l' H'' s' r => q l' H'' (ss.trans s') r
end
end Vf
set_option maxRecDepth 100000
set_option maxHeartbeats 8000000
namespace Vf
open PySem PySem.Spec PyProof.Rows L2
/-- the class, as the written part tells it -/
structure PoC (K : PySem.W.Frag) (mg : Str → Option Value) (CP : Addr) : Prop where
  m : mg "Poly" = some (.ref CP)
  cl : Cls K CP
  nf : NoAttr K CP "numbers"
  ca : PySem.W.findIn K (.ref CP) "__class__" = some (some (.builtin "object.__class__"))
  cn : PySem.W.specialIn K (.builtin "object.__class__") "__get__" = some (some (.builtin "getset_descriptor.__get__"))
  ct : PySem.W.takesIn K (.builtin "object.__class__") = some true
  cm : PySem.W.mroIn K CP (.type "object") = some true
  no : ∀ d : PyData, PySem.W.kitOne K (.type (tyD d)) (.ref CP) = some false
  fs : PySem.W.notFirst K CP (.ref CP) = true
  fd : ∀ d : PyData, PySem.W.notFirst K CP (.type (tyD d)) = true
theorem PoC.io {K : PySem.W.Frag} {mg : Str → Option Value} {CP : Addr} (_ : PoC K mg CP) : PySem.W.kitOne K (.ref CP) (.ref CP) = some true := by
  unfold PySem.W.kitOne
  rw [if_pos (by simp)]
/-- a polynomial with these numbers stands at a -/
def PolyAt (K : PySem.W.Frag) (CP : Addr) (H : Hp) (a : Addr) (rs : List (Int × Int)) : Prop := ∃ dx q as, H a = some (.ins CP dx [("numbers", .ref q)]) ∧ H q = some (.tup (as.map V.ref)) ∧ Tups H as rs
theorem PolyAt.imp {K : PySem.W.Frag} {CP : Addr} {H H' : Hp} {a : Addr} {rs : List (Int × Int)} (h : PolyAt K CP H a rs) (e : ∀ b o, H b = some o → ((∃ fs dx, o = .ins CP dx fs) ∨ ∃ xs, o = .tup xs) → H' b = some o) : PolyAt K CP H' a rs := by
  obtain ⟨dx, q, as, h1, h2, h3⟩ := h
  exact ⟨dx, q, as, e _ _ h1 (.inl ⟨_, _, rfl⟩), e _ _ h2 (.inr ⟨_, rfl⟩), h3.imp fun a p z => e _ _ z (.inr ⟨_, rfl⟩)⟩
theorem PolyAt.same {K : PySem.W.Frag} {CP : Addr} {H H' : Hp} {a : Addr} {rs : List (Int × Int)} (h : PolyAt K CP H a rs) (s : Same H H') : PolyAt K CP H' a rs := h.imp fun b o e _ => s b o e
theorem PolyAt.n {K : PySem.W.Frag} {CP : Addr} {H H' : Hp} {a : Addr} {rs : List (Int × Int)} (h : PolyAt K CP H a rs) (s : LamX.ExtN H H') : PolyAt K CP H' a rs := h.imp fun b o e t => s b o e (fun ps z => by
  rcases t with ⟨_, _, t⟩ | ⟨_, t⟩ <;> rw [t] at z <;> cases z)
theorem PolyAt.kp {K : PySem.W.Frag} {CP : Addr} {H H' : Hp} {a p l : Addr} {B : Int} {rs : List (Int × Int)} (h : PolyAt K CP H a rs) (hP : Pen H p l B) (s : Kp p H H') : PolyAt K CP H' a rs := by
  obtain ⟨ns, a0, d0, c0, f0, g1, _⟩ := hP
  refine h.imp fun b o e t => s b o (fun z => ?_) e
  rw [z, g1.1] at e
  cases e
  rcases t with ⟨_, _, t⟩ | ⟨_, t⟩ <;> cases t
theorem PolyAt.ty {K : PySem.W.Frag} {mg : Str → Option Value} {CP : Addr} {H : Hp} {a : Addr} {rs : List (Int × Int)} (C : PoC K mg CP) (h : PolyAt K CP H a rs) : TyX K H (.ref a) (.ref CP) := by
  obtain ⟨dx, q, as, h1, _⟩ := h
  exact .base (.ins h1 C.cl C.ca C.cn C.ct C.cm)
/-- a row of ratios, as data -/
def rowD : PyData → Option (List (Int × Int))
  | .list ds => ds.mapM partsD
  | .tuple ds => ds.mapM partsD
  | _ => none
theorem rowD_seq {d : PyData} {ds : List PyData} (h : seqD d = some ds) : rowD d = ds.mapM partsD := by
  cases d <;> first | (cases h; rfl) | cases h
theorem rowD_none {d : PyData} (h : seqD d = none) : rowD d = none := by
  cases d <;> first | rfl | cases h
theorem mapM_some : ∀ {ds : List PyData} {ps : List (Int × Int)}, ds.mapM partsD = some ps → ds.length = ps.length ∧ ∀ (i : Nat) (d : PyData), ds[i]? = some d → ∃ p, ps[i]? = some p ∧ partsD d = some p
  | [], ps, h => by
    rw [List.mapM_nil] at h
    cases h
    exact ⟨rfl, fun i d e => by simp at e⟩
  | d0 :: ds, ps, h => by
    rw [List.mapM_cons] at h
    cases e0 : partsD d0 with
    | none => rw [e0] at h; cases h
    | some p0 =>
      rw [e0] at h
      cases e1 : ds.mapM partsD with
      | none => rw [e1] at h; cases h
      | some ps1 =>
        rw [e1] at h
        cases h
        obtain ⟨h1, h2⟩ := mapM_some e1
        refine ⟨by simp [h1], fun i d e => ?_⟩
        cases i with
        | zero =>
          simp at e
          subst e
          exact ⟨p0, rfl, e0⟩
        | succ i => simpa using h2 i d (by simpa using e)
theorem mapM_all : ∀ ds : List PyData, (ds.map fun d => (partsD d).isSome).all id = (ds.mapM partsD).isSome
  | [] => by rw [List.mapM_nil]; rfl
  | d :: ds => by
    rw [List.mapM_cons, List.map_cons, List.all_cons, mapM_all ds]
    cases partsD d with
    | none => rfl
    | some p =>
      cases ds.mapM partsD <;> rfl
def spIsRow (K : PySem.W.Frag) : Sp := fun vs H Q _ => ∃ (v : V) (d : PyData), vs = [v] ∧ Dt K H v d ∧ (∀ ds, seqD d = some ds → ds.length ≤ 1000) ∧ ∀ H', Same H H' → Q (.bl (rowD d).isSome) H'
/-- an error of BadRow -/
def RaisesR (CR : Addr) (H : Hp) (v : V) (E : XK) : Prop := ∀ (d : Addr) (H' : Hp), Same H H' → H d = none → H' d = some (.xd (fl ["row"] [v])) → E (.ref CR) (some d) H'
theorem RaisesR.same {CR : Addr} {H H1 : Hp} {v : V} {E : XK} (s : Same H H1) (h : RaisesR CR H v E) : RaisesR CR H1 v E := fun d H' s' n e => h d H' (s.trans s') (s.free n) e
/-- the numbers of a row, in lowest terms -/
def lowP (p : Int × Int) : Int × Int := low p.1 p.2
/-- a Poly is made of a value -/
def spPolyI (K : PySem.W.Frag) (CP CR : Addr) : Sp := fun vs H Q E => ∃ (x dx : Addr) (v : V) (d : PyData), vs = [.ref x, v] ∧ H x = some (.ins CP dx []) ∧ Dt K H v d ∧ (∀ ds, seqD d = some ds → ds.length ≤ 1000) ∧
  (∀ ps, rowD d = some ps → (∀ p ∈ ps, p.2.natAbs < 2 ^ big) ∧ ∀ H', Kp x H H' → PolyAt K CP H' x (strip (ps.map lowP)) → Q .non H') ∧ (rowD d = none → RaisesR CR H v E)
/-- what the call Poly(v) comes to -/
theorem poly_made {K : PySem.W.Frag} {CP CR : Addr} {H : Hp} {v : V} {d : PyData} {Qd : Addr → Hp → Prop} {E : XK} (hd : Dt K H v d) (hl : ∀ ds, seqD d = some ds → ds.length ≤ 1000)
    (k : ∀ ps, rowD d = some ps → (∀ p ∈ ps, p.2.natAbs < 2 ^ big) ∧ ∀ (x : Addr) (H' : Hp), Same H H' → H x = none → PolyAt K CP H' x (strip (ps.map lowP)) → Qd x H') (r : rowD d = none → RaisesR CR H v E) :
    ∀ x dx, H x = none → H dx = none → dx ≠ x → spPolyI K CP CR (.ref x :: ([v] ++ [])) (upd (upd H dx (.own x)) x (.ins CP dx [])) (fun w H2 => w = .non ∧ Qd x H2) E := by
  intro x dx nx nd ne
  have s1 : Same H (upd (upd H dx (.own x)) x (.ins CP dx [])) := (same_upd nd).trans (same_upd (by rw [upd_ne (Ne.symm ne)]; exact nx))
  refine ⟨x, dx, v, d, rfl, upd_same, hd.mono s1, hl, fun ps hp => ?_, fun hn => (r hn).same s1⟩
  obtain ⟨k1, k2⟩ := k ps hp
  refine ⟨k1, fun H' kp hP => ⟨rfl, k2 x H' (fun b o e => kp b o (ne_of_none e nx) (s1 _ _ e)) nx hP⟩⟩
section
variable {P : Program} {w : World} {K : PySem.W.Frag} {mg : Str → Option Value} {base : Heap} {CP CR CN : Addr}
abbrev sIsRow : Stmt := topS 12
abbrev sPolyI : Stmt := inClass (topS 28) 0
abbrev sPolyE : Stmt := inClass (topS 28) 1
abbrev sPolyD : Stmt := inClass (topS 28) 9
abbrev sPolyL : Stmt := inClass (topS 28) 10
theorem scIsRow : FnScope ["value", "item"] ["value"] (defScope sIsRow) := ⟨rfl, rfl, rfl, by decide +kernel, rfl, by decide +kernel, by decide +kernel⟩
theorem map_take_snoc {α β : Type} {l : List α} {f : α → β} {i : Nat} {x : α} (h : l[i]? = some x) : (l.take i).map f ++ [f x] = (l.take (i + 1)).map f := by
  rw [List.take_succ, h, List.map_append]
  rfl
theorem ok_is_row {f : Addr} {fd : FuncData} (F : Fun K "is_ratio_row" "is_ratio_row" sIsRow f fd) (T : Bk mg) (hall : mg "all" = none) (Gr : Df P w K mg base "is_ratio" 2 ["value"] (spIsRatio K)) : FnOk P w K mg base CX0 3 f fd ["value"] (spIsRow K) := by
  refine F.ok scIsRow (fun vs H Q E h => ?_) (fun cdv A outer s H vs Q E hr h => ?_)
  · obtain ⟨v, d, rfl, _⟩ := h
    rfl
  · obtain ⟨v, d, rfl, hd, hlen, q⟩ := h
    refine ⟨_, (pss_one (ps_ret (pe_and (pe_callB call_isiT (by rfl) T.isinstance (by decide +kernel) (pa_cons (pv 0) (pa_cons (pe_tup (pa_cons (pe_bltn (v := V.ty "tuple") (by rfl) T.tuple (by decide +kernel) rfl) (pa_cons (pe_bltn (v := V.ty "list") (by rfl) T.list (by decide +kernel) rfl) pa_nil))) pa_nil)))
      (pe_one (pe_callB (cr_all rfl) (by rfl) hall (by decide +kernel) (pa_cons (pe_lc (own := [("item", 1)]) (g := gName 1) (tt := tYes) rfl scIsRow.nd (pi_seq (pv 0)) (blkOk_by (N := ["value", "item"]) (sc := defScope sIsRow) (by decide +kernel)) (fun _ _ _ _ _ => pg_name (i := 1) scIsRow.nd rfl (Or.inl rfl)) (fun _ _ _ _ _ => pts_nil)
        (fun _ _ _ _ _ => pe_call Gr.ok hr rfl Gr.m Gr.kp Gr.b .nil pass0 (pa_cons (pv 1) pa_nil))) pa_nil)))))), ?_⟩
    refine ⟨_, rfl, (by show 2 ≤ sizeLine; decide), fun tp ntp => ?_⟩
    have s1 : Same H (upd H tp (HO.tup [V.ty "tuple", V.ty "list"])) := same_upd ntp
    have e1 : upd H tp (HO.tup [V.ty "tuple", V.ty "list"]) tp = some (HO.tup [V.ty "tuple", V.ty "list"]) := upd_same
    generalize upd H tp (HO.tup [V.ty "tuple", V.ty "list"]) = H1 at s1 e1 ⊢
    have hd1 := hd.mono s1
    refine ⟨v, tp, _, _, [.type "tuple", .type "list"], _, rfl, e1, .cons (.ty _) (.cons (.ty _) .nil), hd1.ty, kit_seq d, _, rfl, ?_⟩
    cases hs : seqD d with
    | none =>
      refine iteF ?_
      have z := q H1 s1
      rw [rowD_none hs] at z
      exact z
    | some ds =>
      refine iteT ?_
      obtain ⟨a, xs, rfl, hsq, hds⟩ := hd1.seq hs
      have hl := hds.len
      have hl2 := hlen ds hs
      refine ⟨_, rfl, a, rfl, lc_seq (xs := xs) hsq (fun D i H2 => Same H1 H2 ∧ H2 D = some (.lst ((ds.take i).map fun d => V.bl (partsD d).isSome))) ?_ ?_ ?_ ?_⟩
      · intro D hD
        exact ⟨same_upd hD, upd_same⟩
      · intro D i H2 hD ⟨s2, _⟩
        exact ⟨same_sqL s2, same_sqT s2⟩
      · intro D i x H2 hD hi ⟨s2, e2⟩
        obtain ⟨di, h1, h2⟩ := hds.at hi
        refine ⟨rfl, ?_⟩
        refine ⟨_, rfl, x, di, rfl, h2.mono s2, fun H3 s3 => ?_⟩
        refine ⟨_, s3 _ _ e2, ?_, (fun b o e => ?_), ?_⟩
        · rw [List.length_map, List.length_take, sizeLine_eq]
          omega
        · rw [upd_ne (ne_of_none e hD)]
          exact s3 _ _ (s2 _ _ e)
        · rw [upd_same, map_take_snoc h1]
      · intro D H2 hD ⟨s2, e2⟩
        refine ⟨D, ds.map fun d => (partsD d).isSome, rfl, ?_, ?_⟩
        · rw [List.map_map]
          refine SqL.of ?_
          rw [e2, hl, List.take_length]
          rfl
        · rw [mapM_all]
          have z := q H2 (s1.trans s2)
          rw [rowD_seq hs] at z
          exact z
theorem scPolyI : FnScope ["self", "numbers", "row", "number"] ["self", "numbers"] (defScope sPolyI) := ⟨rfl, rfl, rfl, by decide +kernel, rfl, by decide +kernel, by decide +kernel⟩
theorem ok_poly_init {f : Addr} {fd : FuncData} (F : Fun K "__init__" "Poly.__init__" sPolyI f fd) (T : Bk mg) (C : PoC K mg CP) (N : Ex P w K mg base "BadRow" CR ["row"]) (Gi : Df P w K mg base "is_ratio_row" 3 ["value"] (spIsRow K)) (Gt : Dx P w K mg base "told" 4 ["value", "what"] (spTold K CN)) :
    FnOk P w K mg base (L2.CX P w) 5 f fd ["self", "numbers"] (spPolyI K CP CR) := by
  refine F.okX scPolyI (fun vs H Q E h => ?_) (fun cdv A outer s H vs Q E hr h => ?_)
  · obtain ⟨x, dx, v, d, rfl, _⟩ := h
    rfl
  · obtain ⟨x, dx, v, d, rfl, hx, hd, hlen, q, e⟩ := h
    refine ⟨_, (pss_cons (ps_if (pt_not (pt_val (pe_call Gi.ok (hr.mono (by decide)) rfl Gi.m Gi.kp Gi.b .nil pass0 (pa_cons (pv 1) pa_nil))))
        (pss_one (ps_raise rfl (takes_of rfl rfl rfl rfl) (pmk_oex N.ox N.iC N.tI N.ok (hr.mono (by decide)) N.b .nil pass0 (by rfl) N.m (pa_cons (pv 1) pa_nil))))
        pss_nil)
      (PSs.nox (pss_cons (ps_setLc (i := 2) (own := [("number", 3)]) (g := gName 3) (tt := tYes) rfl scPolyI.nd rfl rfl (sw_true rfl rfl rfl (by decide +kernel)) (pi_seq (pv 1)) (blkOk_by (N := ["self", "numbers", "row", "number"]) (sc := defScope sPolyI) (by decide +kernel)) (fun _ _ _ _ _ => pg_name (i := 3) scPolyI.nd rfl (Or.inl rfl)) (fun _ _ _ _ _ => pts_nil)
          (fun _ _ _ _ _ => pe_call Gt.ok hr rfl Gt.m Gt.kp Gt.b .nil passL (pa_cons (pv 3) (pa_cons pe_str pa_nil))))
      (pss_cons (ps_while PassesOwn.never (PW.pt (pw_and (pt_truth (pv 2) (by intro _; rfl)) (pw_and1 (pt_cmpR op_eq (pe_ix ix_tup (pe_ix ix_list (pv 2) (pe_un un_neg pe_int) (fun _ _ => rfl)) pe_int (fun _ _ => rfl)) pe_int (nomark _)))))
        (pss_one (ps_expr (pe_bm0 PySem.F.plainAttrs_list PySem.F.slot_list_pop PySem.F.type_list_pop mt_pop (pv 2)))))
      (pss_one (ps_fld (pv 0) (pe_callTy call_tuple_of (by rfl) T.tuple (by decide +kernel) (pa_cons (pv 2) pa_nil)) rfl)))))), ?_⟩
    refine ⟨_, rfl, v, d, rfl, hd, hlen, fun H1 s1 => ⟨_, rfl, ?_⟩⟩
    have hd1 := hd.mono s1
    cases hp : rowD d with
    | none =>
      refine iteT ?_
      refine ⟨_, rfl, (by show 1 ≤ 1000; decide), ?_⟩
      exact raise_end rfl fun dd H' s2 n e2 => (e hp).same s1 dd H' s2 n e2
    | some ps =>
      refine iteF ?_
      obtain ⟨hbig, q⟩ := q ps hp
      obtain ⟨ds, hs⟩ : ∃ ds, seqD d = some ds := by
        cases hs : seqD d with
        | none => rw [rowD_none hs] at hp; cases hp
        | some ds => exact ⟨ds, rfl⟩
      have hm := hp
      rw [rowD_seq hs] at hm
      obtain ⟨ml, mi⟩ := mapM_some hm
      obtain ⟨a, xs, rfl, hsq, hds⟩ := hd1.seq hs
      have hl := hds.len
      have hl2 := hlen ds hs
      refine ⟨_, rfl, a, rfl, lc_seq (xs := xs) hsq (fun D i H2 => Same H1 H2 ∧ ∃ as, H2 D = some (.lst (as.map V.ref)) ∧ Tups H2 as ((ps.map lowP).take i)) ?_ ?_ ?_ ?_⟩
      · intro D hD
        exact ⟨same_upd hD, [], upd_same, .nil⟩
      · intro D i H2 hD ⟨s2, _⟩
        exact ⟨same_sqL s2, same_sqT s2⟩
      · intro D i y H2 hD hi ⟨s2, as, e2, t2⟩
        obtain ⟨di, h1, h2⟩ := hds.at hi
        obtain ⟨p, h3, h4⟩ := mi i di h1
        obtain ⟨t, b⟩ := p
        refine ⟨rfl, ?_⟩
        refine ⟨_, rfl, y, .str "number", di, rfl, h2.mono s2, fun t' b' hp' => ?_, fun z => by rw [h4] at z; cases z⟩
        rw [h4] at hp'
        cases hp'
        refine ⟨hbig (t, b) (List.mem_of_getElem? h3), fun r H3 s3 e3 => ?_⟩
        have rD : r ≠ D := ne_of e3 (s3 _ _ e2) (by intro z; cases z)
        have up : ∀ (a : Addr) (p : Int × Int), H3 a = some (.tup [.int p.1, .int p.2]) → upd H3 D (.lst (as.map V.ref ++ [V.ref r])) a = some (.tup [.int p.1, .int p.2]) := fun a p z => by
          rw [upd_ne (ne_of z (s3 _ _ e2) (by intro z; cases z))]
          exact z
        refine ⟨_, s3 _ _ e2, ?_, (fun b o e => ?_), as ++ [r], ?_, ?_⟩
        · have := t2.len
          rw [List.length_take, List.length_map] at this
          rw [List.length_map, sizeLine_eq]
          omega
        · rw [upd_ne (ne_of_none e hD)]
          exact s3 _ _ (s2 _ _ e)
        · rw [upd_same, List.map_append]
          rfl
        · rw [List.take_succ, List.getElem?_map, h3]
          exact ((t2.same s3).imp up).snoc (up _ _ e3)
      · intro lr H2 nlr ⟨s2, as, e2, t2⟩
        have tk : (ps.map lowP).take xs.length = ps.map lowP := by
          rw [hl, ml]
          exact List.take_of_length_le (by rw [List.length_map]; exact Nat.le_refl _)
        rw [tk] at t2
        refine ⟨fun m σ H3 => ∃ as qs, m = List.length as ∧ (∃ v3, σ = [some (.ref x), some (.ref a), some (.ref lr), v3]) ∧ Same H1 H3 ∧ H3 lr = some (.lst (as.map V.ref)) ∧ Tups H3 as qs ∧ strip qs = strip (ps.map lowP) ∧ as.length ≤ 1000, ⟨_, as, _, rfl, ⟨_, rfl⟩, s2, e2, t2, rfl, ?_⟩, ?_⟩
        · have := t2.len
          rw [List.length_map] at this
          omega
        · rintro m σ H3 ⟨as, qs, rfl, ⟨v3, rfl⟩, s3, e3, t3, hst, hz⟩
          have fin : strip qs = qs → sFld K (tVar 0) (tCB (fun xs H Q => ∃ p ys, xs = [.ref p] ∧ ((SqL K H p ys ∧ ∀ l, H l = none → Q (.ref l) (upd H l (.tup ys))) ∨ (SqT K H p ys ∧ Q (.ref p) H))) (tCons (tVar 2) tNil)) "numbers" { nx := fun _ H' => Q .non H', rt := Q } [some (.ref x), some (.ref a), some (.ref lr), v3] H3 := fun hqs => by
            refine ⟨_, rfl, lr, _, rfl, .inl ⟨SqL.of e3, fun tq ntq => ?_⟩⟩
            have hx3 := s3 _ _ (s1 _ _ hx)
            have hxq : x ≠ tq := ne_of_none hx3 ntq
            refine ⟨_, rfl, x, CP, dx, [], rfl, (by rw [upd_ne hxq]; exact hx3), C.cl, C.nf, (by decide), ?_⟩
            refine q _ (fun b o nb eb => ?_) ⟨dx, tq, as, upd_same, (by rw [upd_ne hxq.symm]; exact upd_same), ?_⟩
            · have eb3 := s3 _ _ (s1 _ _ eb)
              rw [upd_ne nb, upd_ne (ne_of_none eb3 ntq)]
              exact eb3
            · rw [← hst, hqs]
              refine t3.imp fun c p z => ?_
              rw [upd_ne (ne_of z hx3 (by intro z; cases z)), upd_ne (ne_of_none z ntq)]
              exact z
          rcases snoc_cases qs with rfl | ⟨qs, y, rfl⟩
          · cases t3
            refine ⟨_, rfl, false, .inl ⟨[], SqL.of e3, rfl⟩, ?_⟩
            refine iteF ?_
            refine iteF ?_
            exact fin strip_nil
          · obtain ⟨as', r, rfl, t4, er⟩ := t3.unsnoc
            refine ⟨_, rfl, true, .inl ⟨_, SqL.of e3, by simp⟩, ?_⟩
            refine iteT ?_
            refine ⟨_, rfl, _, rfl, lr, _, _, .ref r, rfl, rfl, SqL.of e3, (by rw [List.map_append]; exact L2.atI_last _ _), r, _, _, .int y.1, rfl, rfl, SqT.of er, at_of (j := 0) rfl rfl, rfl, _, rfl, ?_⟩
            by_cases y0 : y.1 = 0
            · rw [decide_eq_true (by rw [y0])]
              refine iteT ?_
              refine ⟨fun σ' H' => ∃ qs', (∃ v3, σ' = [some (.ref x), some (.ref a), some (.ref lr), v3]) ∧ Same H1 H' ∧ H' lr = some (.lst (as'.map V.ref)) ∧ Tups H' as' qs' ∧ strip qs' = strip (ps.map lowP) ∧ as'.length ≤ 1000, fun σ' H' ⟨qs', h1, h2, h3, h4, h5, h6⟩ => ⟨as'.length, by rw [List.length_append]; simp, as', qs', rfl, h1, h2, h3, h4, h5, h6⟩, ?_⟩
              refine ⟨_, rfl, .inl ⟨rfl, _, SqL.of e3⟩, lr, _, .ref r, rfl, rfl, e3, ?_, ?_⟩
              · simp
              · refine ⟨qs, ⟨_, rfl⟩, fun b o eb => ?_, ?_, ?_, ?_, ?_⟩
                · rw [upd_ne (ne_of_none eb nlr)]
                  exact s3 _ _ eb
                · rw [upd_same, List.map_append]
                  simp
                · refine t4.imp fun c p z => ?_
                  rw [upd_ne (ne_of z e3 (by intro z; cases z))]
                  exact z
                · rw [strip_snoc, if_pos y0] at hst
                  exact hst
                · rw [List.length_append] at hz
                  omega
            · rw [decide_eq_false (fun z => y0 (by have z2 := V.int.inj z; exact z2))]
              refine iteF ?_
              exact fin (by rw [strip_snoc, if_neg y0])
def spPolyE (K : PySem.W.Frag) (CP : Addr) : Sp := fun vs H Q _ => ∃ (a : Addr) (rs : List (Int × Int)) (v : V), vs = [.ref a, v] ∧ PolyAt K CP H a rs ∧
  ((∃ (b : Addr) (rs2 : List (Int × Int)), v = .ref b ∧ PolyAt K CP H b rs2 ∧ Q (.bl (decide (rs = rs2))) H) ∨ (∃ d, Dt K H v d ∧ Q (.bl false) H))
def spPolyD (K : PySem.W.Frag) (CP : Addr) : Sp := fun vs H Q _ => ∃ (a : Addr) (rs : List (Int × Int)), vs = [.ref a] ∧ PolyAt K CP H a rs ∧ Q (.int ((rs.length : Int) - 1)) H
def leadP (rs : List (Int × Int)) : Int × Int := rs.getLast?.getD (0, 1)
def spPolyL (K : PySem.W.Frag) (CP : Addr) : Sp := fun vs H Q _ => ∃ (a : Addr) (rs : List (Int × Int)), vs = [.ref a] ∧ PolyAt K CP H a rs ∧ ∀ (r : Addr) (H' : Hp), Same H H' → H' r = some (.tup [.int (leadP rs).1, .int (leadP rs).2]) → Q (.ref r) H'
theorem scPolyE : FnScope ["self", "other"] ["self", "other"] (defScope sPolyE) := ⟨rfl, rfl, rfl, by decide +kernel, rfl, by decide +kernel, by decide +kernel⟩
theorem ok_poly_eq {f : Addr} {fd : FuncData} (F : Fun K "__eq__" "Poly.__eq__" sPolyE f fd) (T : Bk mg) (hm1 : M1 base) (C : PoC K mg CP) : FnOk P w K mg base CX0 1 f fd ["self", "other"] (spPolyE K CP) := by
  refine F.ok scPolyE (fun vs H Q E h => ?_) (fun cdv A outer s H vs Q E hr h => ?_)
  · obtain ⟨a, rs, v, rfl, _⟩ := h
    rfl
  · obtain ⟨a, rs, v, rfl, ha, q⟩ := h
    refine ⟨_, (pss_one (ps_ret (pe_and (pe_callB call_isi (by rfl) T.isinstance (by decide +kernel) (pa_cons (pv 1) (pa_cons (pe_glob (v := V.ref CP) rfl C.m rfl) pa_nil))) (pe_one (pe_cmpR (op_eqT hr.units hm1) (pe_fld (pv 0) rfl) (pe_fld (pv 1) rfl) (nomark _)))))), ?_⟩
    rcases q with ⟨b, rs2, rfl, hb, q⟩ | ⟨d, hd, q⟩
    · refine ⟨_, rfl, .ref b, .ref CP, _, .ref CP, _, rfl, .own _, hb.ty C, C.io, _, rfl, ?_⟩
      refine iteT ?_
      obtain ⟨dx, t, as, h1, h2, h3⟩ := ha
      obtain ⟨dx2, t2, as2, g1, g2, g3⟩ := hb
      refine ⟨_, rfl, a, CP, dx, _, .ref t, rfl, h1, C.cl, C.nf, (by kernel_rfl), _, rfl, b, CP, dx2, _, .ref t2, rfl, g1, C.cl, C.nf, (by kernel_rfl), ?_⟩
      refine ⟨.tuple (rs.map pairD), .tuple (rs2.map pairD), .tup (SqT.of h2) h3.dts, .tup (SqT.of g2) g3.dts, (plain_row _).1, (plain_row _).1, (depth_row _).1, ?_⟩
      rw [eqv_row]
      exact q
    · refine ⟨_, rfl, v, .ref CP, _, .ref CP, _, rfl, .own _, hd.ty, C.no d, _, rfl, ?_⟩
      refine iteF ?_
      exact q
theorem scPolyD : FnScope ["self"] ["self"] (defScope sPolyD) := ⟨rfl, rfl, rfl, by decide +kernel, rfl, by decide +kernel, by decide +kernel⟩
theorem ok_poly_degree {f : Addr} {fd : FuncData} (F : Fun K "degree" "Poly.degree" sPolyD f fd) (T : Bk mg) (C : PoC K mg CP) : FnOk P w K mg base CX0 1 f fd ["self"] (spPolyD K CP) := by
  refine F.ok scPolyD (fun vs H Q E h => ?_) (fun cdv A outer s H vs Q E hr h => ?_)
  · obtain ⟨a, rs, rfl, _⟩ := h
    rfl
  · obtain ⟨a, rs, rfl, ⟨dx, t, as, h1, h2, h3⟩, q⟩ := h
    refine ⟨_, (pss_one (ps_ret (pe_op op_sub (pe_callB call_len_seq (by rfl) T.len (by decide +kernel) (pa_cons (pe_fld (pv 0) rfl) pa_nil)) pe_int))), ?_⟩
    refine ⟨_, rfl, a, CP, dx, _, .ref t, rfl, h1, C.cl, C.nf, (by kernel_rfl), t, _, rfl, .inr (SqT.of h2), _, _, rfl, rfl, ?_⟩
    rw [List.length_map, h3.len]
    exact q
theorem scPolyL : FnScope ["self"] ["self"] (defScope sPolyL) := ⟨rfl, rfl, rfl, by decide +kernel, rfl, by decide +kernel, by decide +kernel⟩
theorem ok_poly_lead {f : Addr} {fd : FuncData} (F : Fun K "lead" "Poly.lead" sPolyL f fd) (C : PoC K mg CP) : FnOk P w K mg base CX0 1 f fd ["self"] (spPolyL K CP) := by
  refine F.ok scPolyL (fun vs H Q E h => ?_) (fun cdv A outer s H vs Q E hr h => ?_)
  · obtain ⟨a, rs, rfl, _⟩ := h
    rfl
  · obtain ⟨a, rs, rfl, ⟨dx, t, as, h1, h2, h3⟩, q⟩ := h
    refine ⟨_, (pss_one (ps_ret (pe_ifExp (pt_truth (pe_fld (pv 0) rfl) (by intro _; rfl)) (pe_ix ix_tup (pe_fld (pv 0) rfl) (pe_un un_neg pe_int) (fun _ _ => rfl)) (pe_tup (pa_cons pe_int (pa_cons pe_int pa_nil)))))), ?_⟩
    rcases snoc_cases rs with rfl | ⟨rs, y, rfl⟩
    · cases h3
      refine ⟨_, rfl, a, CP, dx, _, .ref t, rfl, h1, C.cl, C.nf, (by kernel_rfl), false, .inr (.inl ⟨[], SqT.of h2, rfl⟩), ?_⟩
      refine iteF ?_
      exact ⟨(by show 2 ≤ sizeLine; decide), fun r nr => q r _ (same_upd nr) upd_same⟩
    · obtain ⟨as', r, rfl, t4, er⟩ := h3.unsnoc
      refine ⟨_, rfl, a, CP, dx, _, .ref t, rfl, h1, C.cl, C.nf, (by kernel_rfl), true, .inr (.inl ⟨_, SqT.of h2, by simp⟩), ?_⟩
      refine iteT ?_
      refine ⟨_, rfl, a, CP, dx, _, .ref t, rfl, h1, C.cl, C.nf, (by kernel_rfl), _, rfl, t, _, _, .ref r, rfl, rfl, SqT.of h2, (by rw [List.map_append]; exact L2.atI_last _ _), ?_⟩
      have e : leadP (rs ++ [y]) = y := by unfold leadP; rw [List.getLast?_append]; rfl
      refine q r H (Same.refl _) ?_
      rw [e]
      exact er
end
end Vf
set_option maxRecDepth 100000
set_option maxHeartbeats 4000000
namespace Vf
open PySem PySem.Spec PyProof.Rows L2
section
variable {X : Cx} {tg : Expr}
def rRng1 : List V → Hp → VK → Prop := fun vs H Q => ∃ j, vs = [V.int j] ∧ ∀ p, H p = none → Q (.ref p) (upd H p (.rng 0 j))
theorem cr_range1 : CallR X (.type "range") rRng1 := by
  intro pins s σ H vs us Q I r h
  obtain ⟨j, rfl, q⟩ := h
  cases r with
  | cons r rr =>
    cases rr
    obtain ⟨t, rfl⟩ := r
    refine call_range_1 ⟨.ref s.heap.objs.size, upd H s.heap.objs.size (.rng 0 j), I.laid (t' := s.toks + 1 + 1) (fun b o e => Heap.get?_push_of_some _ e) (Nat.le_refl _) ?_, rfl, q _ (I.hok.fresh (Nat.le_refl _))⟩
    exact ⟨_, t, _, Heap.get?_push_size _ rfl⟩
def iRngV (te : TE) : TI := fun σ H R => te σ H fun x H1 => ∃ a lo hi, x = .ref a ∧ H1 a = some (.rng lo hi) ∧ (-(2 ^ 62) ≤ lo ∧ lo < 2 ^ 62 ∧ -(2 ^ 62) ≤ hi ∧ hi < 2 ^ 62) ∧ R (Itr lo (hi - lo).toNat) H1
theorem pi_rng {l : Expr} {tl : TE} (hl : PE X l tl) : PI X tg l (iRngV tl) := by
  refine ⟨fun pins s σ H R I h => ?_⟩
  refine thn (hl.run pins s σ H _ I h) fun v s1 ⟨x, H1, I1, r1, q1⟩ => ?_
  obtain ⟨a, lo, hi, rfl, ha, ⟨h1, h2, h3, h4⟩, q⟩ := q1
  cases r1
  obtain ⟨t, u, v, ho⟩ := I1.hok a _ ha
  refine wpAny_pyIter_range (show IsRange s1.heap a lo hi 1 t u v from ho) (small_one h1 h2 h3 h4) ?_
  refine ⟨s1.heap.objs.size, [s1.heap.objs.size], _, _, H1, rfl, I1.kept (t' := s1.toks) fun b o e => Heap.get?_push_of_some _ e, turn_range _ lo (hi - lo).toNat, ?_, fun b hb => ?_, q⟩
  · have e1 : lo + ((0 : Nat) : Int) * 1 = lo := by simp
    have e2 : (((hi - lo).toNat : Nat) : Int) - ((0 : Nat) : Int) = Builtin.Range.rangeSize lo hi 1 := by rw [rangeSize_one]; split <;> omega
    show IsRangeIter _ _ (lo + ((0 : Nat) : Int) * 1) ((((hi - lo).toNat : Nat) : Int) - ((0 : Nat) : Int)) 1
    rw [e1, e2]
    exact Heap.get?_push_size _ rfl
  · have e : b = s1.heap.objs.size := by simpa using hb
    subst e
    exact I1.fpOk (Nat.le_refl _) (I1.hok.fresh (Nat.le_refl _))
end
/-- the row ns tells the numbers qs over M -/
def Over (M : Int) (ns : List Int) (qs : List Rat) : Prop := ns.length = qs.length ∧ ∀ i, ((ns.getD i 0 : Int) : Rat) = cf qs i * (M : Rat)
def ci (ns : List Int) (i : Nat) : Int := ns.getD i 0
theorem Over.at {M : Int} {ns : List Int} {qs : List Rat} (h : Over M ns qs) (i : Nat) : cf qs i * (M : Rat) = ((ci ns i : Int) : Rat) := (h.2 i).symm
theorem ci_lt {l : List Int} {i : Nat} (h : i < l.length) : l[i]? = some (ci l i) := by
  unfold ci
  rw [List.getD_eq_getElem?_getD, List.getElem?_eq_getElem h]
  rfl
theorem ci_ge {l : List Int} {i : Nat} (h : l.length ≤ i) : ci l i = 0 := by
  unfold ci
  rw [List.getD_eq_getElem?_getD, List.getElem?_eq_none_iff.mpr h]
  rfl
def tabI (n : Nat) (f : Nat → Int) : List Int := (List.range n).map f
theorem tabI_len (n : Nat) (f : Nat → Int) : (tabI n f).length = n := by unfold tabI; rw [List.length_map, List.length_range]
theorem tabI_snoc (n : Nat) (f : Nat → Int) : tabI (n + 1) f = tabI n f ++ [f n] := by
  unfold tabI
  rw [List.range_succ, List.map_append]
  rfl
theorem ci_tab (n : Nat) (f : Nat → Int) (i : Nat) : ci (tabI n f) i = if i < n then f i else 0 := by
  unfold ci tabI
  rw [List.getD_eq_getElem?_getD, List.getElem?_map]
  by_cases h : i < n
  · rw [if_pos h, List.getElem?_range h]; rfl
  · rw [if_neg h, List.getElem?_eq_none_iff.mpr (by rw [List.length_range]; omega)]; rfl
def smI (f : Nat → Int) : Nat → Int
  | 0 => 0
  | n + 1 => smI f n + f n
theorem smI_cast (f : Nat → Int) : ∀ n, ((smI f n : Int) : Rat) = sm (fun i => (f i : Rat)) n
  | 0 => rfl
  | n + 1 => by
    show (((smI f n + f n : Int)) : Rat) = sm (fun i => (f i : Rat)) n + (f n : Rat)
    rw [Rat.intCast_add, smI_cast f n]
end Vf
set_option maxRecDepth 100000
set_option maxHeartbeats 8000000
namespace Vf
open PySem PySem.Spec PyProof.Rows L2
/-- a row, a list or a tuple, of the pairs of these numbers -/
def RS (K : PySem.W.Frag) (H : Hp) (l : Addr) (qs : List Rat) : Prop := ∃ as, (SqL K H l (as.map V.ref) ∨ SqT K H l (as.map V.ref)) ∧ Tups H as (qs.map pq)
theorem RS.same {K : PySem.W.Frag} {H H' : Hp} {l : Addr} {qs : List Rat} (h : RS K H l qs) (s : Same H H') : RS K H' l qs := by
  obtain ⟨as, e, t⟩ := h
  exact ⟨as, e.imp (same_sqL s) (same_sqT s), t.same s⟩
theorem RS.of {K : PySem.W.Frag} {H : Hp} {l : Addr} {qs : List Rat} (h : RL H l qs) : RS K H l qs := by
  obtain ⟨as, e, t⟩ := h
  exact ⟨as, .inl (SqL.of e), t⟩
theorem parts_q (q : Rat) : partsD (pairD (pq q)) = some (q.num, (q.den : Int)) := by
  show (if 0 < (q.den : Int) then some (q.num, (q.den : Int)) else none) = _
  rw [if_pos (by have := q.den_pos; omega)]
/-- below 2 ^ 4300 above and below -/
def Z2 (q : Rat) : Prop := Sz q.num ∧ Sz (q.den : Int)
def rIxS (K : PySem.W.Frag) : R2 := fun x y H Q => ∃ p xs i v, x = .ref p ∧ y = .int i ∧ (SqL K H p xs ∨ SqT K H p xs) ∧ atI xs i = some v ∧ Q v H
theorem ix_seq {X : Cx} : IxR X (rIxS X.K) := by
  intro value slice pins s σ H x y v u Q I rx ry h hs
  obtain ⟨p, xs, i, z, e1, e2, hq, he, q⟩ := h
  rcases hq with hq | hq
  · exact ix_list value slice pins s σ H x y v u Q I rx ry ⟨p, xs, i, z, e1, e2, hq, he, q⟩ hs
  · exact ix_tup value slice pins s σ H x y v u Q I rx ry ⟨p, xs, i, z, e1, e2, hq, he, q⟩ hs
theorem RS.getQ {K : PySem.W.Frag} {H : Hp} {l : Addr} {qs : List Rat} (h : RS K H l qs) : ∃ xs : List V, (SqL K H l xs ∨ SqT K H l xs) ∧ xs.length = qs.length ∧ ∀ i, i < qs.length → ∃ a, xs[i]? = some (.ref a) ∧ TR H a (cf qs i) := by
  obtain ⟨as, e, t⟩ := h
  refine ⟨_, e, by rw [List.length_map, t.lenQ], fun i hi => ?_⟩
  obtain ⟨a, h1, h2⟩ := t.getQ hi
  exact ⟨a, by rw [List.getElem?_map, h1]; rfl, h2⟩
def spNumOf (K : PySem.W.Frag) : Sp := fun vs H Q _ => ∃ (l : Addr) (a : List Rat) (i : Nat), vs = [.ref l, .int i] ∧ RS K H l a ∧ ∀ (r : Addr) (H' : Hp), Same H H' → TR H' r (cf a i) → Q (.ref r) H'
def spSums (K : PySem.W.Frag) : Sp := fun vs H Q _ => ∃ (l1 l2 : Addr) (a b : List Rat), vs = [.ref l1, .ref l2] ∧ RS K H l1 a ∧ RS K H l2 b ∧ a.length ≤ 500 ∧ b.length ≤ 500 ∧ (∀ i, Z2 (cf a i)) ∧ (∀ i, Z2 (cf b i)) ∧ ∀ (l : Addr) (H' : Hp), Same H H' → RL H' l (padd a b) → Q (.ref l) H'
def spOpp (K : PySem.W.Frag) : Sp := fun vs H Q _ => ∃ (l1 : Addr) (a : List Rat), vs = [.ref l1] ∧ RS K H l1 a ∧ a.length ≤ 500 ∧ ∀ (l : Addr) (H' : Hp), Same H H' → RL H' l (a.map (- ·)) → Q (.ref l) H'
section
variable {P : Program} {w : World} {K : PySem.W.Frag} {mg : Str → Option Value} {base : Heap} {CP CR CN : Addr}
abbrev sNumOf : Stmt := topS 30
abbrev sSums : Stmt := topS 31
abbrev sOpp : Stmt := topS 32
theorem scNumOf : FnScope ["numbers", "power"] ["numbers", "power"] (defScope sNumOf) := ⟨rfl, rfl, rfl, by decide +kernel, rfl, by decide +kernel, by decide +kernel⟩
theorem ok_num_of {f : Addr} {fd : FuncData} (F : Fun K "number_of" "number_of" sNumOf f fd) (T : Bk mg) : FnOk P w K mg base CX0 1 f fd ["numbers", "power"] (spNumOf K) := by
  refine F.ok scNumOf (fun vs H Q E h => ?_) (fun cdv A outer s H vs Q E hr h => ?_)
  · obtain ⟨l, a, i, rfl, _⟩ := h
    rfl
  · obtain ⟨l, a, i, rfl, hl, q⟩ := h
    refine ⟨_, (pss_one (ps_ret (pe_ifExp (pt_cmpR op_lt (pv 1) (pe_callB call_len_seq (by rfl) T.len (by decide +kernel) (pa_cons (pv 0) pa_nil)) (nomark _)) (pe_ix ix_seq (pv 0) (pv 1) (fun _ _ => rfl)) (pe_tup (pa_cons pe_int (pa_cons pe_int pa_nil)))))), ?_⟩
    obtain ⟨xs, hx, hn, get⟩ := hl.getQ
    refine ⟨_, rfl, _, rfl, l, xs, rfl, hx, _, _, rfl, rfl, _, rfl, ?_⟩
    rw [hn]
    by_cases hi : i < a.length
    · rw [decide_eq_true (show (i : Int) < (a.length : Nat) by omega)]
      refine iteT ?_
      obtain ⟨r, h1, h2⟩ := get i hi
      exact ⟨_, rfl, _, rfl, l, xs, _, _, rfl, rfl, hx, at_of (j := i) rfl h1, q r H (Same.refl _) h2⟩
    · rw [decide_eq_false (show ¬(i : Int) < (a.length : Nat) by omega)]
      refine iteF ?_
      refine ⟨(by show 2 ≤ sizeLine; decide), fun t nt => q t _ (same_upd nt) ?_⟩
      rw [cf_ge (by omega)]
      exact tr_zero upd_same
theorem scSums : FnScope ["one", "other", "powers", "power"] ["one", "other"] (defScope sSums) := ⟨rfl, rfl, rfl, by decide +kernel, rfl, by decide +kernel, by decide +kernel⟩
theorem ok_sums {f : Addr} {fd : FuncData} (F : Fun K "sums_of" "sums_of" sSums f fd) (T : Bk mg) (hmax : mg "max" = none) (Gn : Df P w K mg base "number_of" 1 ["numbers", "power"] (spNumOf K)) (Gp : Dx P w K mg base "plus" 4 ["one", "other"] (spTwo K CN (okLow gPlus))) : FnOk P w K mg base (L2.CX P w) 5 f fd ["one", "other"] (spSums K) := by
  refine F.okX scSums (fun vs H Q E h => ?_) (fun cdv A outer s H vs Q E hr h => ?_)
  · obtain ⟨l1, l2, a, b, rfl, _⟩ := h
    rfl
  · obtain ⟨l1, l2, a, b, rfl, h1, h2, la, lb, za, zb, q⟩ := h
    refine ⟨_, (pss_cons (ps_set (i := 2) scSums.nd rfl (Or.inl rfl) (pe_callTy cr_range1 (by rfl) T.range (by decide +kernel) (pa_cons (pe_callB (call_max2 rfl) (by rfl) hmax (by decide +kernel) (pa_cons (pe_callB call_len_seq (by rfl) T.len (by decide +kernel) (pa_cons (pv 0) pa_nil)) (pa_cons (pe_callB call_len_seq (by rfl) T.len (by decide +kernel) (pa_cons (pv 1) pa_nil)) pa_nil))) pa_nil)))
      (pss_one (ps_ret (pe_lc (own := [("power", 3)]) (g := gName 3) (tt := tYes) rfl scSums.nd (pi_rng (pv 2)) (blkOk_by (N := ["one", "other", "powers", "power"]) (sc := defScope sSums) (by decide +kernel)) (fun _ _ _ _ _ => pg_name (i := 3) scSums.nd rfl (Or.inl rfl)) (fun _ _ _ _ _ => pts_nil)
        (fun _ _ _ _ _ => (pe_call Gp.ok (hr.mono (by decide)) rfl Gp.m Gp.kp Gp.b .nil passL (pa_cons (pe_call Gn.ok (hr.mono (by decide)) rfl Gn.m Gn.kp Gn.b .nil pass0 (pa_cons (pv 0) (pa_cons (pv 3) pa_nil))) (pa_cons (pe_call Gn.ok (hr.mono (by decide)) rfl Gn.m Gn.kp Gn.b .nil pass0 (pa_cons (pv 1) (pa_cons (pv 3) pa_nil))) pa_nil)))))))), ?_⟩
    obtain ⟨xs, hx, hn, _⟩ := h1.getQ
    obtain ⟨ys, hy, hm, _⟩ := h2.getQ
    refine ⟨_, rfl, l1, xs, rfl, hx, _, rfl, l2, ys, rfl, hy, _, _, rfl, ?_⟩
    rw [hn, hm]
    have em : (if ((b.length : Nat) : Int) > ((a.length : Nat) : Int) then ((b.length : Nat) : Int) else ((a.length : Nat) : Int)) = ((max a.length b.length : Nat) : Int) := by split <;> omega
    rw [em]
    generalize hmx : max a.length b.length = n
    refine ⟨_, rfl, fun p np => ?_⟩
    have ep : upd H p (HO.rng 0 (n : Int)) p = some (HO.rng 0 (n : Int)) := upd_same
    have s1 : Same H (upd H p (HO.rng 0 (n : Int))) := same_upd np
    generalize upd H p (HO.rng 0 (n : Int)) = H1 at ep s1 ⊢
    refine ⟨_, rfl, p, 0, n, rfl, ep, by omega, fun D hD => ?_⟩
    rw [show ((n : Int) - 0).toNat = n by omega]
    refine lc_range (lo := 0) (n := n) (fun i H' => Same H1 H' ∧ ∃ zs, H' D = some (.lst (zs.map V.ref)) ∧ Tups H' zs ((tab i fun j => cf a j + cf b j).map pq)) ⟨same_upd hD, [], upd_same, .nil⟩ ?_ ?_
    · rintro i H' hi ⟨ss, zs, eD, tz⟩
      have e0 : (0 + (i : Int)) = (i : Int) := by omega
      refine ⟨rfl, ?_⟩
      rw [e0]
      refine ⟨_, rfl, _, rfl, l1, a, i, rfl, (h1.same s1).same ss, fun ra H2 s2 tra => ?_⟩
      refine ⟨_, rfl, _, rfl, l2, b, i, rfl, ((h2.same s1).same ss).same s2, fun rb H3 s3 trb => ?_⟩
      refine ⟨_, _, pairD (pq (cf a i)), pairD (pq (cf b i)), rfl, .tup (SqT.of (s3 _ _ tra)) (.cons (.int _) (.cons (.int _) .nil)), .tup (SqT.of trb) (.cons (.int _) (.cons (.int _) .nil)), fun t b' x c h3 h4 => ?_, (fun z => by rw [parts_q] at z; cases z), (fun _ z => by rw [parts_q] at z; cases z)⟩
      rw [parts_q] at h3 h4
      cases h3
      cases h4
      refine ⟨(za i).1, (za i).2, (zb i).1, (zb i).2, fun r' H'' s' er => ?_⟩
      have er : TR H'' r' (cf a i + cf b i) := by
        have z := low_add (cf a i) (cf b i)
        unfold gPlus at er
        rw [z] at er
        exact er
      have eD' := s' _ _ (s3 _ _ (s2 _ _ eD))
      refine ⟨_, eD', ?_, (fun b' o' e' => ?_), zs ++ [r'], ?_, ?_⟩
      · have := tz.lenQ
        rw [tab_len] at this
        rw [List.length_map, sizeLine_eq]
        omega
      · rw [upd_ne (ne_of_none e' hD)]
        exact s' _ _ (s3 _ _ (s2 _ _ (ss _ _ e')))
      · rw [upd_same, List.map_append]
        rfl
      · rw [tab_snoc]
        have up : ∀ (c : Addr) (p : Int × Int), H'' c = some (.tup [.int p.1, .int p.2]) → upd H'' D (.lst (zs.map V.ref ++ [V.ref r'])) c = some (.tup [.int p.1, .int p.2]) := fun c p z => by
          rw [upd_ne (ne_of z eD' (by intro z; cases z))]
          exact z
        exact Tups.snocQ ((((tz.same s2).same s3).same s').imp up) (up _ (pq _) er)
    · rintro H' ⟨ss, zs, eD, tz⟩
      refine q D H' (s1.trans ss) ⟨zs, eD, ?_⟩
      unfold padd
      rw [hmx]
      exact tz
theorem scOpp : FnScope ["numbers", "top", "bottom"] ["numbers"] (defScope sOpp) := ⟨rfl, rfl, rfl, by decide +kernel, rfl, by decide +kernel, by decide +kernel⟩
theorem ok_opp {f : Addr} {fd : FuncData} (F : Fun K "opposites_of" "opposites_of" sOpp f fd) : FnOk P w K mg base CX0 1 f fd ["numbers"] (spOpp K) := by
  refine F.ok scOpp (fun vs H Q E h => ?_) (fun cdv A outer s H vs Q E hr h => ?_)
  · obtain ⟨l1, a, rfl, _⟩ := h
    rfl
  · obtain ⟨l1, a, rfl, ⟨as, e1, t1⟩, la, q⟩ := h
    refine ⟨_, (pss_one (ps_ret (pe_lc (own := [("top", 1), ("bottom", 2)]) (g := gTup K 2 (gCons (gName 1) (gCons (gName 2) gNil))) (tt := tYes) rfl scOpp.nd (pi_seq (pv 0)) (blkOk_by (N := ["numbers", "top", "bottom"]) (sc := defScope sOpp) (by decide +kernel)) (fun _ _ _ _ _ => pg_tup rfl (pgs_cons (pg_name (i := 1) scOpp.nd rfl (Or.inl rfl)) (pgs_cons (pg_name (i := 2) scOpp.nd rfl (Or.inl rfl)) pgs_nil))) (fun _ _ _ _ _ => pts_nil)
      (fun _ _ _ _ _ => (pe_tup (pa_cons (pe_un un_neg (pv 1)) (pa_cons (pv 2) pa_nil))))))), ?_⟩
    have n1 := t1.lenQ
    refine ⟨_, rfl, l1, rfl, lc_seq (xs := as.map V.ref) e1 (fun D i H' => Same H H' ∧ ∃ zs, H' D = some (.lst (zs.map V.ref)) ∧ Tups H' zs ((tab i fun j => -cf a j).map pq)) ?_ ?_ ?_ ?_⟩
    · intro D hD
      exact ⟨same_upd hD, [], upd_same, .nil⟩
    · intro D i H2 hD ⟨s2, _⟩
      exact ⟨same_sqL s2, same_sqT s2⟩
    · intro D i x H' hD hi ⟨ss, zs, eD, tz⟩
      rw [List.getElem?_map] at hi
      cases hr0 : as[i]? with
      | none => rw [hr0] at hi; cases hi
      | some r =>
        rw [hr0] at hi
        cases hi
        obtain ⟨qq, hq1, hq2⟩ := t1.atQ hr0
        have hc := cf_get hq1
        refine ⟨r, _, rfl, SqT.of (ss _ _ hq2), rfl, _, _, rfl, _, _, rfl, rfl, rfl, ?_⟩
        refine ⟨_, rfl, _, rfl, _, rfl, (by show 2 ≤ sizeLine; decide), fun t nt => ?_⟩
        have et : TR (upd H' t (HO.tup [V.int (-qq.num), V.int (qq.den : Int)])) t (-cf a i) := by
          rw [hc]
          unfold TR
          rw [upd_same, Rat.neg_num, Rat.neg_den]
        have st : Same H' (upd H' t (HO.tup [V.int (-qq.num), V.int (qq.den : Int)])) := same_upd nt
        generalize upd H' t (HO.tup [V.int (-qq.num), V.int (qq.den : Int)]) = H2 at et st ⊢
        have eD' := st _ _ eD
        refine ⟨_, eD', ?_, (fun b' o' e' => ?_), zs ++ [t], ?_, ?_⟩
        · have := tz.lenQ
          have := (List.getElem?_eq_some_iff.mp hr0).1
          rw [tab_len] at *
          rw [List.length_map, sizeLine_eq]
          omega
        · rw [upd_ne (ne_of_none e' hD)]
          exact st _ _ (ss _ _ e')
        · rw [upd_same, List.map_append]
          rfl
        · rw [tab_snoc]
          have up : ∀ (c : Addr) (p : Int × Int), H2 c = some (.tup [.int p.1, .int p.2]) → upd H2 D (.lst (zs.map V.ref ++ [V.ref t])) c = some (.tup [.int p.1, .int p.2]) := fun c p z => by
            rw [upd_ne (ne_of z eD' (by intro z; cases z))]
            exact z
          exact Tups.snocQ ((tz.same st).imp up) (up t (pq (-cf a i)) et)
    · intro D H' hD ⟨ss, zs, eD, tz⟩
      rw [List.length_map, n1] at tz
      have e : (tab a.length fun j => -cf a j) = a.map (- ·) := by
        refine List.ext_getElem? fun i => ?_
        unfold tab
        rw [List.getElem?_map, List.getElem?_map]
        by_cases h : i < a.length
        · rw [List.getElem?_range h, List.getElem?_eq_getElem h]
          show some (-cf a i) = some (-a[i])
          rw [cf_lt h]
        · rw [List.getElem?_eq_none_iff.mpr (by rw [List.length_range]; omega), List.getElem?_eq_none_iff.mpr (by omega)]
          rfl
      rw [e] at tz
      exact q D H' ss ⟨zs, eD, tz⟩
end
end Vf
set_option maxRecDepth 100000
set_option maxHeartbeats 8000000
namespace Vf
open PySem PySem.Spec PyProof.Rows L2
/-- the numbers of a Poly of the law -/
def Sm (q : Rat) : Prop := q.num.natAbs ≤ 2 ^ 13 ∧ q.den ≤ 2 ^ 12
theorem sm_zero' : Sm 0 := ⟨Nat.zero_le _, by show 1 ≤ 2 ^ 12; decide⟩
theorem num_den (q : Rat) : q * ((q.den : Nat) : Rat) = ((q.num : Int) : Rat) := by
  obtain ⟨n, e, h⟩ := Fr.self q
  have h0 : (q.den : Rat) ≠ 0 := by
    have := q.den_nz
    exact_mod_cast this
  have z : (q.num : Rat) / (q.den : Rat) = q := by
    have := Rat.num_divInt_den q
    rw [Rat.divInt_eq_div] at this
    exact_mod_cast this
  have := Rat.div_mul_cancel (a := (q.num : Rat)) h0
  rw [z] at this
  exact this
theorem over_one {q : Rat} {b : Nat} (h : q.den ∣ b) : q * (b : Rat) = ((q.num * ((b : Int) / (q.den : Int)) : Int) : Rat) := by
  obtain ⟨k, rfl⟩ := h
  have e : ((q.den * k : Nat) : Int) / (q.den : Int) = (k : Int) := by
    have := q.den_nz
    rw [Int.natCast_mul, Int.mul_ediv_cancel_left _ (by omega)]
  rw [e]
  have e2 : ((q.den * k : Nat) : Rat) = (q.den : Rat) * (k : Rat) := by exact_mod_cast rfl
  have e3 : ((q.num * (k : Int) : Int) : Rat) = (q.num : Rat) * (k : Rat) := by exact_mod_cast rfl
  rw [e2, e3, ← Rat.mul_assoc, num_den]
def spOver (K : PySem.W.Frag) : Sp := fun vs H Q _ => ∃ (l : Addr) (as : List Addr) (a : List Rat), vs = [.ref l] ∧ SqT K H l (as.map V.ref) ∧ Tups H as (a.map pq) ∧ a.length ≤ 13 ∧ (∀ i, Sm (cf a i)) ∧
  ∀ (r l' : Addr) (ns : List Int) (b : Nat) (H' : Hp), Same H H' → H' r = some (.tup [.ref l', .int (b : Int)]) → H' l' = some (.lst (ns.map V.int)) → 0 < b → b ≤ 2 ^ 156 → ns.length = a.length → (∀ i, cf a i * (b : Rat) = ((ci ns i : Int) : Rat)) → (∀ i, (ci ns i).natAbs ≤ 2 ^ 169) → Q (.ref r) H'
section
variable {P : Program} {w : World} {K : PySem.W.Frag} {mg : Str → Option Value} {base : Heap} {CP CR CN : Addr}
abbrev sOver : Stmt := topS 34
theorem scOver : FnScope ["numbers", "below", "number", "top", "bottom"] ["numbers"] (defScope sOver) := ⟨rfl, rfl, rfl, by decide +kernel, rfl, by decide +kernel, by decide +kernel⟩
theorem lt_4000 {b : Nat} {k : Nat} (h : b ≤ 2 ^ k) (hk : k < 8700) : b < 2 ^ 8700 := Nat.lt_of_le_of_lt h (Nat.pow_lt_pow_right (by decide) hk)
theorem ok_over {f : Addr} {fd : FuncData} (F : Fun K "over_one_bottom" "over_one_bottom" sOver f fd) (hlcm : mg "lcm" = some (.builtin "math.lcm")) : FnOk P w K mg base CX0 1 f fd ["numbers"] (spOver K) := by
  refine F.ok scOver (fun vs H Q E h => ?_) (fun cdv A outer s H vs Q E hr h => ?_)
  · obtain ⟨l, as, a, rfl, _⟩ := h
    rfl
  · obtain ⟨l, as, a, rfl, hS, t1, la, sa, q⟩ := h
    refine ⟨_, (pss_cons (ps_set (i := 1) scOver.nd rfl (Or.inr rfl) pe_int)
  (pss_cons (ps_for PassesOwn.never rfl (pi_tup (pv 0)) (pg_name (i := 2) scOver.nd rfl (Or.inl rfl))
    (pss_one (ps_set (i := 1) scOver.nd rfl (Or.inr rfl) (pe_callBfun cr_lcm (by rfl) hlcm (pa_cons (pv 1) (pa_cons (pe_ix ix_tup (pv 2) pe_int (fun _ _ => rfl)) pa_nil))))))
  (pss_one (ps_ret (pe_tup (pa_cons (pe_lc (own := [("top", 3), ("bottom", 4)]) (g := gTup K 2 (gCons (gName 3) (gCons (gName 4) gNil))) (tt := tYes) rfl scOver.nd (pi_seq (pv 0)) (blkOk_by (N := ["numbers", "below", "number", "top", "bottom"]) (sc := defScope sOver) (by decide +kernel)) (fun _ _ _ _ _ => pg_tup rfl (pgs_cons (pg_name (i := 3) scOver.nd rfl (Or.inl rfl)) (pgs_cons (pg_name (i := 4) scOver.nd rfl (Or.inl rfl)) pgs_nil))) (fun _ _ _ _ _ => pts_nil) (fun _ _ _ _ _ => (pe_op op_mulW (pv 3) (pe_op op_fdivW (pv 1) (pv 4))))) (pa_cons (pv 1) pa_nil))))))), ?_⟩
    have n1 := t1.lenQ
    refine ⟨_, rfl, l, rfl, ⟨_, hS⟩, for_tup (K := K) (a := l) (xs := as.map V.ref) (fun i σ H' => ∃ (b : Nat) (v : Option V), σ = [some (.ref l), some (.int (b : Int)), v, none, none] ∧ Same H H' ∧ 0 < b ∧ b ≤ (2 ^ 12) ^ i ∧ ∀ j, j < i → (cf a j).den ∣ b)
      ⟨1, none, rfl, Same.refl _, by decide, by decide, fun j hj => by omega⟩ (fun i σ H' _ ⟨_, _, _, ss, _⟩ => same_sqT ss hS) ?_ ?_⟩
    · rintro i x σ H' hi ⟨b, v, rfl, ss, b0, bi, dv⟩
      rw [List.getElem?_map] at hi
      cases hr0 : as[i]? with
      | none => rw [hr0] at hi; cases hi
      | some r =>
        rw [hr0] at hi
        cases hi
        obtain ⟨qq, hq1, hq2⟩ := t1.atQ hr0
        have hc := cf_get hq1
        have hi13 : i < 13 := by
          have := (List.getElem?_eq_some_iff.mp hr0).1
          omega
        have hb : b < 2 ^ 8800 := by
          have e : ((2 : Nat) ^ 12) ^ i = 2 ^ (12 * i) := (Nat.pow_mul _ _ _).symm
          rw [e] at bi
          exact Nat.lt_of_le_of_lt bi (Nat.pow_lt_pow_right (by decide) (by omega))
        have hd : qq.den ≤ 2 ^ 12 := by rw [← hc]; exact (sa i).2
        have hd0 := qq.den_pos
        refine ⟨_, rfl, _, rfl, r, _, _, .int (qq.den : Int), rfl, rfl, SqT.of (ss _ _ hq2), at_of (j := 1) rfl rfl, _, _, rfl, by rw [Int.natAbs_natCast]; exact hb, by rw [Int.natAbs_natCast]; exact Nat.lt_of_le_of_lt hd (Nat.pow_lt_pow_right (by decide) (by decide)), ?_⟩
        rw [Int.natAbs_natCast, Int.natAbs_natCast]
        refine ⟨b.lcm qq.den, _, rfl, ss, Nat.lcm_pos b0 hd0, ?_, fun j hj => ?_⟩
        · have le : b.lcm qq.den ≤ b * qq.den := Nat.le_of_dvd (Nat.mul_pos b0 hd0) (Nat.lcm_dvd_mul b qq.den)
          rw [Nat.pow_succ]
          exact Nat.le_trans le (Nat.mul_le_mul bi hd)
        · by_cases e : j = i
          · rw [e, hc]
            exact Nat.dvd_lcm_right _ _
          · exact Nat.dvd_trans (dv j (by omega)) (Nat.dvd_lcm_left _ _)
    · rintro σ H' ⟨b, v, rfl, ss, b0, bi, dv⟩
      rw [List.length_map, n1] at bi dv
      have b156 : b ≤ 2 ^ 156 := by
        have e : ((2 : Nat) ^ 12) ^ a.length = 2 ^ (12 * a.length) := (Nat.pow_mul _ _ _).symm
        rw [e] at bi
        exact Nat.le_trans bi (Nat.pow_le_pow_right (by decide) (by omega))
      have hS' := same_sqT ss hS
      have t1' := t1.same ss
      let g : Nat → Int := fun i => (cf a i).num * ((b : Int) / ((cf a i).den : Int))
      have hg : ∀ i, i < a.length → (g i).natAbs ≤ 2 ^ 169 := fun i hi => by
        show ((cf a i).num * ((b : Int) / ((cf a i).den : Int))).natAbs ≤ _
        rw [Int.natAbs_mul, show (2 : Nat) ^ 169 = 2 ^ 13 * 2 ^ 156 from by decide +kernel]
        refine Nat.mul_le_mul (sa i).1 (Nat.le_trans ?_ b156)
        rw [← Int.natCast_ediv, Int.natAbs_natCast]
        exact Nat.div_le_self _ _
      refine ⟨_, rfl, l, rfl, lc_seq (xs := as.map V.ref) (.inr hS') (fun D i H2 => Same H' H2 ∧ H2 D = some (.lst ((tabI i g).map V.int))) ?_ ?_ ?_ ?_⟩
      · intro D hD
        exact ⟨same_upd hD, upd_same⟩
      · intro D i H2 hD ⟨s2, _⟩
        exact ⟨same_sqL s2, same_sqT s2⟩
      · intro D i x H2 hD hi ⟨s2, eD⟩
        rw [List.getElem?_map] at hi
        cases hr0 : as[i]? with
        | none => rw [hr0] at hi; cases hi
        | some r =>
          rw [hr0] at hi
          cases hi
          obtain ⟨qq, hq1, hq2⟩ := t1'.atQ hr0
          have hc := cf_get hq1
          have hi13 := (List.getElem?_eq_some_iff.mp hr0).1
          have h1 : (qq.num).natAbs < 2 ^ 8700 := lt_4000 (by rw [← hc]; exact (sa i).1) (by decide)
          have h2 : ((b : Int) / (qq.den : Int)).natAbs < 2 ^ 8700 := by
            rw [← Int.natCast_ediv, Int.natAbs_natCast]
            exact lt_4000 (Nat.le_trans (Nat.div_le_self _ _) b156) (by decide)
          refine ⟨r, _, rfl, SqT.of (s2 _ _ hq2), rfl, _, _, rfl, _, _, rfl, rfl, rfl, ?_⟩
          refine ⟨_, rfl, _, rfl, _, rfl, _, _, rfl, rfl, ?_, _, _, rfl, rfl, big_mulW h1 h2, ?_⟩
          · have := qq.den_pos
            refine ⟨by omega, ?_⟩
            rw [Int.natAbs_natCast]
            have h3 : qq.den < 2 ^ 8800 := Nat.lt_of_le_of_lt (show qq.den ≤ 2 ^ 12 by rw [← hc]; exact (sa i).2) (Nat.pow_lt_pow_right (by decide) (by decide))
            exact Nat.lt_trans (log_4000 h3) (by decide)
          · refine ⟨_, eD, ?_, (fun b' o' e' => ?_), ?_⟩
            · rw [List.length_map, tabI_len, sizeLine_eq]
              omega
            · rw [upd_ne (ne_of_none e' hD)]
              exact s2 _ _ e'
            · rw [upd_same, tabI_snoc, List.map_append]
              show _ = some (HO.lst (_ ++ [V.int (g i)]))
              simp only [g, hc]
      · intro D H2 hD ⟨s2, eD⟩
        rw [List.length_map, n1] at eD
        refine ⟨_, rfl, (by show 2 ≤ sizeLine; decide), fun r nr => ?_⟩
        have s3 : Same H2 (upd H2 r (HO.tup [V.ref D, V.int (b : Int)])) := same_upd nr
        refine q r D _ b _ ((ss.trans s2).trans s3) upd_same (s3 _ _ eD) b0 b156 (tabI_len _ _) (fun i => ?_) (fun i => ?_)
        · rw [ci_tab]
          by_cases hi : i < a.length
          · rw [if_pos hi]
            exact over_one (dv i hi)
          · rw [if_neg hi, cf_ge (by omega), Rat.zero_mul]
            rfl
        · rw [ci_tab]
          by_cases hi : i < a.length
          · rw [if_pos hi]
            exact hg i hi
          · rw [if_neg hi]
            exact Nat.zero_le _
end
end Vf
set_option maxRecDepth 100000
set_option maxHeartbeats 8000000
namespace Vf
open PySem PySem.Spec PyProof.Rows L2
open LamX (ExtN Tabs TabS)
/-- a law's body, nothing leaves it, its own code object known -/
theorem fnG_of1 {P : Program} {w : World} {K : PySem.W.Frag} {mg : Str → Option Value} {base : Heap} {x qual : Str} {st : Stmt} {f : Addr} {fd : FuncData} {N ps : List Str} {k : Nat} {sp : Sp} (F : Fun K x qual st f fd) (S : FnScope N ps (defScope st))
    (ar : ∀ vs H Q E, sp vs H Q E → vs.length = ps.length)
    (body : ∀ (cdv : Value) (A : Around) (out : List Env) (s : Shared) (H : Hp) (vs : List V) (Q : VK) (E : XK), A.guards = some [] → Room k (A.deeper (envOfC qual (defScope st) s.heap.objs.size f cdv)) → fd.code = cdv → sp vs H Q E →
      ∃ t, PSs (cxOf CX0 P w K mg base N qual (defScope st) f cdv A out s H E).nox (defBody st) t ∧ t { nx := fun _ H' => Q .non H', rt := Q } (start N vs) H) : FnG P w K mg base CX0 (k + 1) f fd ps sp := by
  obtain ⟨oc, od, kV, doc, pm, an, cdv, ct, osl, e, lk, hcd⟩ := F.ex
  subst e
  refine ⟨ar, fun {A out s H args us vs Q E} hgu hr e0 hb r h => LamX.run_ofS lk hcd S hr e0 hb r (ar _ _ _ _ h) fun hr' => ?_⟩
  obtain ⟨t, z, q⟩ := body cdv A out s H vs Q E hgu hr' rfl h
  exact ⟨t, z.nox, q⟩
/-- the class of polynomials with its defs -/
structure PoM (P : Program) (w : World) (K : PySem.W.Frag) (mg : Str → Option Value) (base : Heap) (CP CR : Addr) where
  C : PoC K mg CP
  fI : Addr
  dI : FuncData
  mkI : Mk K CP fI
  bI : Binds K dI ["self", "numbers"] []
  okI : FnOk P w K mg base (L2.CX P w) 5 fI dI ["self", "numbers"] (spPolyI K CP CR)
  fE : Addr
  dE : FuncData
  aE : PySem.W.findIn K (.ref CP) "__eq__" = some (some (.ref fE))
  nE : PySem.W.isFn K (.ref fE) = true
  bE : Binds K dE ["self", "other"] []
  okE : FnOk P w K mg base CX0 1 fE dE ["self", "other"] (spPolyE K CP)
theorem rNe_int {x y : Int} {H : Hp} {B : Bool → Hp → Prop} (g : x = y → B false H) (h : x ≠ y → B true H) : rNe (.int x) (.int y) H (fun v H' => ∃ k, v = V.bl k ∧ B k H') := by
  by_cases e : x = y
  · exact ⟨rfl, false, by rw [decide_eq_true (by rw [e])]; rfl, g e⟩
  · exact ⟨rfl, true, by rw [decide_eq_false (fun z => e (V.int.inj z))]; rfl, h e⟩
theorem qual_eq {P : Program} {w : World} {K : PySem.W.Frag} {mg : Str → Option Value} {base : Heap} {N : List Str} {qual : Str} {sc : Scope} {f : Addr} {cd : Value} {A : Around} {o : List Env} {s : Shared} {H : Hp} {E : XK} {CT : CXT} : (cxOf CT P w K mg base N qual sc f cd A o s H E).nox.env.qual = qual ++ ".<locals>." := rfl
theorem seq_kp {K : PySem.W.Frag} {p a : Addr} {H H' : Hp} {xs : List V} (n : a ≠ p) (k : Kp p H H') : (SqL K H a xs → SqL K H' a xs) ∧ (SqT K H a xs → SqT K H' a xs) := by
  refine ⟨fun h => ?_, fun h => ?_⟩
  · rcases h with (h | ⟨o, h⟩) | h
    · exact Or.inl (Or.inl (k a _ n h))
    · exact Or.inl (Or.inr ⟨o, k a _ n h⟩)
    · exact Or.inr h
  · rcases h with (h | ⟨o, h⟩) | h
    · exact Or.inl (Or.inl (k a _ n h))
    · exact Or.inl (Or.inr ⟨o, k a _ n h⟩)
    · exact Or.inr h
/-- a method of the class that raises nothing -/
structure Me (P : Program) (w : World) (K : PySem.W.Frag) (mg : Str → Option Value) (base : Heap) (CP : Addr) (x : Str) (k : Nat) (ps : List Str) (sp : Sp) where
  f : Addr
  fd : FuncData
  m : Meth K CP x f
  b : Binds K fd ps []
  ok : FnOk P w K mg base CX0 k f fd ps sp
/-- changes at lists and at the pen alone -/
theorem Pen.put {H H' : Hp} {p l b : Addr} {B : Int} (h : Pen H p l B) (k : ∀ c u, c ≠ b → H c = some u → H' c = some u) (h1 : b ≠ p) (h2 : b ≠ l) : Pen H' p l B := by
  obtain ⟨ns, a, d, c, f, ⟨g1, g2, g3⟩, hc⟩ := h
  exact ⟨ns, a, d, c, f, ⟨k _ _ h1.symm g1, k _ _ h2.symm g2, g3⟩, hc⟩
theorem Pen.lc {H : Hp} {p l : Addr} {B : Int} (h : Pen H p l B) : ∃ xs, H l = some (.lst xs) := by
  obtain ⟨ns, a, d, c, f, ⟨g1, g2, g3⟩, hc⟩ := h
  exact ⟨_, g2⟩
theorem Pen.ne_new {H : Hp} {p l b : Addr} {B : Int} (h : Pen H p l B) (n : H b = none) : b ≠ p ∧ b ≠ l := by
  obtain ⟨o, e⟩ := h.there
  obtain ⟨xs, e2⟩ := h.lc
  exact ⟨(ne_of_none e n).symm, (ne_of_none e2 n).symm⟩
theorem upd_away {H : Hp} {b : Addr} {o : HO} : ∀ c u, c ≠ b → H c = some u → upd H b o c = some u := fun c u h e => by rw [upd_ne h]; exact e
theorem Tups.lst {H H' : Hp} {b : Addr} {xs : List V} (hb : H b = some (.lst xs)) (k : ∀ c u, c ≠ b → H c = some u → H' c = some u) {as : List Addr} {ps : List (Int × Int)} (h : Tups H as ps) : Tups H' as ps :=
  h.imp fun a p z => k _ _ (ne_of z hb (by intro z; cases z)) z
theorem Tups.kp {H H' : Hp} {p l : Addr} {B : Int} (hP : Pen H p l B) (k : Kp p H H') {as : List Addr} {ps : List (Int × Int)} (h : Tups H as ps) : Tups H' as ps := by
  obtain ⟨ns, a, d, c, f, ⟨g1, g2, g3⟩, hc⟩ := hP
  exact h.imp fun a p z => k _ _ (ne_of z g1 (by intro z; cases z)) z
/-- what ratios have that are drawn -/
structure RatOk (p : Int × Int) : Prop where
  lw : Low p.1 p.2
  zt : S80 p.1
  zb : S80 p.2
theorem parts_pairD {p : Int × Int} (h : 0 < p.2) : partsD (pairD p) = some p := by
  obtain ⟨t, b⟩ := p
  show (if 0 < b then some (t, b) else none) = some (t, b)
  rw [if_pos h]
def pairL (p : Int × Int) : PyData := .list [.int p.1, .int p.2]
theorem mapM_of {f : Int × Int → PyData} : ∀ {ps : List (Int × Int)}, (∀ p ∈ ps, partsD (f p) = some p) → (ps.map f).mapM partsD = some ps
  | [], _ => by rw [List.map_nil, List.mapM_nil]; rfl
  | p :: ps, h => by
    rw [List.map_cons, List.mapM_cons, h p (List.mem_cons_self ..), mapM_of fun x hx => h x (List.mem_cons_of_mem _ hx)]
    rfl
/-- ratios as they are passed -/
inductive Giv : List PyData → List (Int × Int) → Prop
  | nil : Giv [] []
  | cons {d : PyData} {p : Int × Int} {k : Int} {ds : List PyData} {ps : List (Int × Int)} : partsD d = some (p.1 * k, p.2 * k) → 0 < k → k ≤ 3 → Gd d → Giv ds ps → Giv (d :: ds) (p :: ps)
theorem Giv.len : ∀ {ds : List PyData} {ps : List (Int × Int)}, Giv ds ps → ds.length = ps.length
  | _, _, .nil => rfl
  | _, _, .cons _ _ _ _ t => congrArg (· + 1) t.len
theorem Giv.snoc : ∀ {ds : List PyData} {ps : List (Int × Int)} {d : PyData} {p : Int × Int} {k : Int}, Giv ds ps → partsD d = some (p.1 * k, p.2 * k) → 0 < k → k ≤ 3 → Gd d → Giv (ds ++ [d]) (ps ++ [p])
  | _, _, _, _, _, .nil, h1, h2, h3, h4 => .cons h1 h2 h3 h4 .nil
  | _, _, _, _, _, .cons g1 g2 g3 g4 t, h1, h2, h3, h4 => .cons g1 g2 g3 g4 (t.snoc h1 h2 h3 h4)
theorem Giv.row : ∀ {ds : List PyData} {ps : List (Int × Int)}, Giv ds ps → (∀ p ∈ ps, RatOk p) → ∃ qs, ds.mapM partsD = some qs ∧ qs.map lowP = ps ∧ ∀ q ∈ qs, q.2.natAbs < 2 ^ big
  | _, _, .nil, _ => ⟨[], by rw [List.mapM_nil]; rfl, rfl, fun q h => by cases h⟩
  | _, _, .cons (p := p) (k := k) h1 h2 h3 h4 t, h => by
    obtain ⟨qs, e1, e2, e3⟩ := t.row fun x hx => h x (List.mem_cons_of_mem _ hx)
    have ok := h p (List.mem_cons_self ..)
    refine ⟨(p.1 * k, p.2 * k) :: qs, ?_, ?_, ?_⟩
    · rw [List.mapM_cons, h1, e1]
      rfl
    · rw [List.map_cons, e2]
      congr 1
      exact low_back ok.lw h2
    · intro q hq
      rcases List.mem_cons.mp hq with z | z
      · rw [z]
        exact Nat.lt_trans (s80_k ok.zb h2 h3) (Nat.pow_lt_pow_right (by decide) (by decide))
      · exact e3 q z
theorem parts_plain {d : PyData} {p : Int × Int} (h : partsD d = some p) : d.plain = true ∧ d.depth ≤ 1 := by
  cases d with
  | int i => exact ⟨rfl, by simp [PyData.depth]⟩
  | list ds =>
    have z := (pair_pos (ds := ds) (t := p.1) (b := p.2) h).1
    rw [z]
    exact ⟨by simp [PyData.plain, PyData.plainAll], by simp [PyData.depth, PyData.depthAll]⟩
  | tuple ds =>
    have z := (pair_pos (ds := ds) (t := p.1) (b := p.2) h).1
    rw [z]
    exact ⟨by simp [PyData.plain, PyData.plainAll], by simp [PyData.depth, PyData.depthAll]⟩
  | _ => cases h
theorem Giv.plain : ∀ {ds : List PyData} {ps : List (Int × Int)}, Giv ds ps → PyData.plainAll ds = true ∧ PyData.depthAll ds ≤ 1
  | _, _, .nil => ⟨by simp only [PyData.plainAll], by simp only [PyData.depthAll]; omega⟩
  | _, _, .cons h1 _ _ _ t => by
    obtain ⟨a, b⟩ := parts_plain h1
    obtain ⟨c, d⟩ := t.plain
    simp only [PyData.plainAll, PyData.depthAll]
    exact ⟨by rw [a, c]; rfl, Nat.max_le.mpr ⟨b, d⟩⟩
/-- lists of two whole numbers each -/
inductive Lsts (H : Hp) : List Addr → List (Int × Int) → Prop
  | nil : Lsts H [] []
  | cons {a : Addr} {as : List Addr} {p : Int × Int} {ps : List (Int × Int)} : H a = some (.lst [.int p.1, .int p.2]) → Lsts H as ps → Lsts H (a :: as) (p :: ps)
theorem Lsts.len {H : Hp} : ∀ {as : List Addr} {ps : List (Int × Int)}, Lsts H as ps → as.length = ps.length
  | _, _, .nil => rfl
  | _, _, .cons _ t => congrArg (· + 1) t.len
theorem Lsts.imp {H H' : Hp} : ∀ {as : List Addr} {ps : List (Int × Int)}, (∀ a ∈ as, ∀ (p : Int × Int), H a = some (.lst [.int p.1, .int p.2]) → H' a = some (.lst [.int p.1, .int p.2])) → Lsts H as ps → Lsts H' as ps
  | _, _, _, .nil => .nil
  | _, _, e, .cons h t => .cons (e _ (List.mem_cons_self ..) _ h) (t.imp fun a ha => e a (List.mem_cons_of_mem _ ha))
theorem Lsts.snoc {H : Hp} : ∀ {as : List Addr} {ps : List (Int × Int)} {a : Addr} {p : Int × Int}, Lsts H as ps → H a = some (.lst [.int p.1, .int p.2]) → Lsts H (as ++ [a]) (ps ++ [p])
  | _, _, _, _, .nil, h => .cons h .nil
  | _, _, _, _, .cons h t, h2 => .cons h (t.snoc h2)
theorem Lsts.dts {K : PySem.W.Frag} {H : Hp} : ∀ {as : List Addr} {ps : List (Int × Int)}, Lsts H as ps → Dts K H (as.map V.ref) (ps.map pairL)
  | _, _, .nil => .nil
  | _, _, .cons h t => .cons (.lst (SqL.of h) (.cons (.int _) (.cons (.int _) .nil))) t.dts
theorem Lsts.mem {H : Hp} : ∀ {as : List Addr} {ps : List (Int × Int)}, Lsts H as ps → ∀ a ∈ as, ∃ x y : Int, H a = some (.lst [.int x, .int y])
  | _, _, .nil, a, h => by cases h
  | _, _, .cons h t, a, hm => by
    rcases List.mem_cons.mp hm with z | z
    · rw [z]; exact ⟨_, _, h⟩
    · exact t.mem a z
end Vf
set_option maxRecDepth 100000
set_option maxHeartbeats 8000000
namespace Vf
open PySem PySem.Spec PyProof.Rows L2
def RI (H : Hp) (l : Addr) (ns : List Int) : Prop := H l = some (.lst (ns.map V.int))
theorem smI_split (f : Nat → Int) (m : Nat) : ∀ n, smI f (m + n) = smI f m + smI (fun j => f (m + j)) n
  | 0 => by show smI f m = smI f m + 0; omega
  | n + 1 => by
    show smI f (m + n) + f (m + n) = smI f m + (smI (fun j => f (m + j)) n + f (m + n))
    rw [smI_split f m n]
    omega
theorem smI_zero {f : Nat → Int} : ∀ {n : Nat}, (∀ i, i < n → f i = 0) → smI f n = 0
  | 0, _ => rfl
  | n + 1, h => by
    show smI f n + f n = 0
    rw [smI_zero fun i hi => h i (by omega), h n (by omega)]
    rfl
theorem tabI_sum (f : Nat → Int) : ∀ n, (tabI n f).sum = smI f n
  | 0 => rfl
  | n + 1 => by
    rw [tabI_snoc, List.sum_append, tabI_sum f n]
    show smI f n + (f n + 0) = smI f n + f n
    omega
/-- the number of a power in a product of rows -/
def pcI (xs ys : List Int) (k : Nat) : Int := smI (fun i => ci xs i * ci ys (k - i)) (k + 1)
def pmI (xs ys : List Int) : List Int := if xs = [] ∨ ys = [] then [] else tabI (xs.length + ys.length - 1) (pcI xs ys)
theorem pcI_part (xs ys : List Int) (k : Nat) (h : k + 1 < xs.length + ys.length) : pcI xs ys k = smI (fun j => ci xs (k + 1 - ys.length + j) * ci ys (k - (k + 1 - ys.length + j))) (min (k + 1) xs.length - (k + 1 - ys.length)) := by
  have e1 : k + 1 = (k + 1 - ys.length) + ((min (k + 1) xs.length - (k + 1 - ys.length)) + (k + 1 - min (k + 1) xs.length)) := by omega
  unfold pcI
  rw [e1, smI_split, smI_split, ← e1]
  have z1 : smI (fun i => ci xs i * ci ys (k - i)) (k + 1 - ys.length) = 0 := smI_zero fun i hi => by
    rw [ci_ge (l := ys) (by omega), Int.mul_zero]
  have z2 : smI (fun j => ci xs (k + 1 - ys.length + (min (k + 1) xs.length - (k + 1 - ys.length) + j)) * ci ys (k - (k + 1 - ys.length + (min (k + 1) xs.length - (k + 1 - ys.length) + j)))) (k + 1 - min (k + 1) xs.length) = 0 := smI_zero fun i hi => by
    rw [ci_ge (l := xs) (by omega), Int.zero_mul]
  rw [z1, z2]
  omega
def spPN : Sp := fun vs H Q _ => ∃ (l1 l2 : Addr) (xs ys : List Int) (k : Nat), vs = [.ref l1, .ref l2, .int (k : Int)] ∧ RI H l1 xs ∧ RI H l2 ys ∧ xs.length ≤ 500 ∧ ys.length ≤ 500 ∧ k + 1 < xs.length + ys.length ∧ (∀ i, (ci xs i).natAbs < 2 ^ 8700) ∧ (∀ i, (ci ys i).natAbs < 2 ^ 8700) ∧ ∀ H', Same H H' → Q (.int (pcI xs ys k)) H'
def spPRow (K : PySem.W.Frag) : Sp := fun vs H Q _ => ∃ (l1 l2 : Addr) (xs ys : List Int), vs = [.ref l1, .ref l2] ∧ RI H l1 xs ∧ RI H l2 ys ∧ xs.length ≤ 500 ∧ ys.length ≤ 500 ∧ (∀ i, (ci xs i).natAbs < 2 ^ 8700) ∧ (∀ i, (ci ys i).natAbs < 2 ^ 8700) ∧ ∀ (l : Addr) (H' : Hp), Same H H' → H l = none → RI H' l (pmI xs ys) → Q (.ref l) H'
section
variable {P : Program} {w : World} {K : PySem.W.Frag} {mg : Str → Option Value} {base : Heap} {CP CR CN : Addr}
abbrev sPN : Stmt := topS 26
abbrev sPRow : Stmt := topS 25
theorem scPN : FnScope ["one", "other", "power", "first", "last", "k"] ["one", "other", "power"] (defScope sPN) := ⟨rfl, rfl, rfl, by decide +kernel, rfl, by decide +kernel, by decide +kernel⟩
theorem RI.at {H : Hp} {l : Addr} {ns : List Int} {i : Nat} (h : i < ns.length) : (ns.map V.int)[i]? = some (V.int (ci ns i)) := by
  rw [List.getElem?_map, ci_lt h]
  rfl
theorem ok_pn {f : Addr} {fd : FuncData} (F : Fun K "product_number" "product_number" sPN f fd) (T : Bk mg) (hmax : mg "max" = none) (hmin : mg "min" = none) (hsum : mg "sum" = none) : FnOk P w K mg base CX0 1 f fd ["one", "other", "power"] spPN := by
  refine F.ok scPN (fun vs H Q E h => ?_) (fun cdv A outer s H vs Q E hr h => ?_)
  · obtain ⟨l1, l2, xs, ys, k, rfl, _⟩ := h
    rfl
  · obtain ⟨l1, l2, xs, ys, k, rfl, e1, e2, lx, ly, hk, bx, by', q⟩ := h
    refine ⟨_, (pss_cons (ps_set (i := 3) scPN.nd rfl (Or.inl rfl) (pe_callB (call_max2 rfl) (by rfl) hmax (by decide +kernel) (pa_cons pe_int (pa_cons (pe_op op_add (pe_op op_sub (pv 2) (pe_callB call_len_seq (by rfl) T.len (by decide +kernel) (pa_cons (pv 1) pa_nil))) pe_int) pa_nil))))
  (pss_cons (ps_set (i := 4) scPN.nd rfl (Or.inl rfl) (pe_callB (call_min2 rfl) (by rfl) hmin (by decide +kernel) (pa_cons (pv 2) (pa_cons (pe_op op_sub (pe_callB call_len_seq (by rfl) T.len (by decide +kernel) (pa_cons (pv 0) pa_nil)) pe_int) pa_nil))))
  (pss_one (ps_ret (pe_callB (cr_sum rfl) (by rfl) hsum (by decide +kernel) (pa_cons (pe_lc (own := [("k", 5)]) (g := gName 5) (tt := tYes) rfl scPN.nd (pi_range2 (by rfl) T.range (pa_cons (pv 3) (pa_cons (pe_op op_add (pv 4) pe_int) pa_nil))) (blkOk_by (N := ["one", "other", "power", "first", "last", "k"]) (sc := defScope sPN) (by decide +kernel)) (fun _ _ _ _ _ => pg_name (i := 5) scPN.nd rfl (Or.inl rfl)) (fun _ _ _ _ _ => pts_nil)
    (fun _ _ _ _ _ => (pe_op op_mulW (pe_ix (r := rIxL K) ix_list (pv 0) (pv 5) (fun _ _ => rfl)) (pe_ix (r := rIxL K) ix_list (pv 1) (pe_op op_sub (pv 2) (pv 5)) (fun _ _ => rfl))))) pa_nil)))))), ?_⟩
    refine ⟨_, rfl, _, rfl, l2, _, rfl, .inl (SqL.of e2), _, _, rfl, rfl, _, _, rfl, rfl, _, _, rfl, ?_⟩
    rw [List.length_map]
    have ef : (if ((k : Int) - ((ys.length : Nat) : Int) + 1) > 0 then ((k : Int) - ((ys.length : Nat) : Int) + 1) else 0) = ((k + 1 - ys.length : Nat) : Int) := by split <;> omega
    rw [ef]
    refine ⟨_, rfl, _, rfl, l1, _, rfl, .inl (SqL.of e1), _, _, rfl, rfl, _, _, rfl, ?_⟩
    rw [List.length_map]
    have el : (if ((xs.length : Nat) : Int) - 1 < (k : Int) then ((xs.length : Nat) : Int) - 1 else (k : Int)) = ((min (k + 1) xs.length : Nat) : Int) - 1 := by split <;> omega
    rw [el]
    refine ⟨_, rfl, _, rfl, _, _, rfl, rfl, _, _, rfl, ⟨by omega, by omega, by omega, by omega⟩, fun D hD => ?_⟩
    have et : (((min (k + 1) xs.length : Nat) : Int) - 1 + 1 - ((k + 1 - ys.length : Nat) : Int)).toNat = min (k + 1) xs.length - (k + 1 - ys.length) := by omega
    rw [et]
    refine lc_range (lo := ((k + 1 - ys.length : Nat) : Int)) (n := min (k + 1) xs.length - (k + 1 - ys.length)) (fun i H' => Same H H' ∧ H' D = some (.lst ((tabI i fun j => ci xs (k + 1 - ys.length + j) * ci ys (k - (k + 1 - ys.length + j))).map V.int))) ⟨same_upd hD, upd_same⟩ ?_ ?_
    · rintro i H' hi ⟨ss, eD⟩
      have hi1 : k + 1 - ys.length + i < xs.length := by omega
      have hi2 : k - (k + 1 - ys.length + i) < ys.length := by omega
      refine ⟨rfl, ?_⟩
      refine ⟨_, rfl, _, rfl, l1, _, _, _, rfl, rfl, SqL.of (ss _ _ e1), at_of (j := k + 1 - ys.length + i) (by omega) (RI.at (H := H) (l := l1) hi1), _, rfl, _, rfl, _, rfl, _, _, rfl, rfl, l2, _, _, _, rfl, rfl, SqL.of (ss _ _ e2), at_of (j := k - (k + 1 - ys.length + i)) (by omega) (RI.at (H := H) (l := l2) hi2), _, _, rfl, rfl, big_mulW (bx _) (by' _), ?_⟩
      refine ⟨_, eD, ?_, (fun b' o' e' => ?_), ?_⟩
      · rw [List.length_map, tabI_len, sizeLine_eq]
        omega
      · rw [upd_ne (ne_of_none e' hD)]
        exact ss _ _ e'
      · rw [upd_same, tabI_snoc, List.map_append]
        rfl
    · rintro H' ⟨ss, eD⟩
      refine ⟨D, _, rfl, SqL.of eD, ?_⟩
      rw [tabI_sum, ← pcI_part xs ys k hk]
      exact q H' ss
theorem scPRow : FnScope ["one", "other", "ends", "power"] ["one", "other"] (defScope sPRow) := ⟨rfl, rfl, rfl, by decide +kernel, rfl, by decide +kernel, by decide +kernel⟩
theorem ok_prow {f : Addr} {fd : FuncData} (F : Fun K "product_row" "product_row" sPRow f fd) (T : Bk mg) (Gn : Df P w K mg base "product_number" 1 ["one", "other", "power"] spPN) : FnOk P w K mg base CX0 2 f fd ["one", "other"] (spPRow K) := by
  refine F.ok scPRow (fun vs H Q E h => ?_) (fun cdv A outer s H vs Q E hr h => ?_)
  · obtain ⟨l1, l2, xs, ys, rfl, _⟩ := h
    rfl
  · obtain ⟨l1, l2, xs, ys, rfl, e1, e2, lx, ly, bx, by', q⟩ := h
    refine ⟨_, (pss_cons (ps_if (PW.pt (pw_or (pt_not (pt_truth (pv 0) (by intro _; rfl))) (pw_or1 (pt_not (pt_truth (pv 1) (by intro _; rfl))))))
    (pss_one (ps_ret (pe_lst pa_nil)))
    pss_nil)
  (pss_cons (ps_set (i := 2) scPRow.nd rfl (Or.inl rfl) (pe_callTy cr_range1 (by rfl) T.range (by decide +kernel) (pa_cons (pe_op op_sub (pe_op op_add (pe_callB call_len_seq (by rfl) T.len (by decide +kernel) (pa_cons (pv 0) pa_nil)) (pe_callB call_len_seq (by rfl) T.len (by decide +kernel) (pa_cons (pv 1) pa_nil))) pe_int) pa_nil)))
  (pss_one (ps_ret (pe_lc (own := [("power", 3)]) (g := gName 3) (tt := tYes) rfl scPRow.nd (pi_rng (pv 2)) (blkOk_by (N := ["one", "other", "ends", "power"]) (sc := defScope sPRow) (by decide +kernel)) (fun _ _ _ _ _ => pg_name (i := 3) scPRow.nd rfl (Or.inl rfl)) (fun _ _ _ _ _ => pts_nil) (fun _ _ _ _ _ => (pe_call Gn.ok (hr.mono (by decide)) rfl Gn.m Gn.kp Gn.b .nil pass0 (pa_cons (pv 0) (pa_cons (pv 1) (pa_cons (pv 3) pa_nil)))))))))), ?_⟩
    by_cases hx : xs = []
    · subst hx
      refine ⟨_, rfl, false, .inl ⟨[], SqL.of e1, rfl⟩, ?_⟩
      refine iteT ?_
      refine iteT ?_
      refine ⟨(by show 0 ≤ sizeLine; decide), fun l nl => q l _ (same_upd nl) nl ?_⟩
      unfold pmI
      rw [if_pos (.inl rfl)]
      exact upd_same
    · have hx0 : 0 < xs.length := List.length_pos_iff.mpr hx
      refine ⟨_, rfl, true, .inl ⟨_, SqL.of e1, by simp [hx]⟩, ?_⟩
      refine iteF ?_
      by_cases hy : ys = []
      · subst hy
        refine ⟨_, rfl, false, .inl ⟨[], SqL.of e2, rfl⟩, ?_⟩
        refine iteT ?_
        refine ⟨(by show 0 ≤ sizeLine; decide), fun l nl => q l _ (same_upd nl) nl ?_⟩
        unfold pmI
        rw [if_pos (.inr rfl)]
        exact upd_same
      · have hy0 : 0 < ys.length := List.length_pos_iff.mpr hy
        refine ⟨_, rfl, true, .inl ⟨_, SqL.of e2, by simp [hy]⟩, ?_⟩
        refine iteF ?_
        refine ⟨_, rfl, l1, _, rfl, .inl (SqL.of e1), _, rfl, l2, _, rfl, .inl (SqL.of e2), _, _, rfl, rfl, _, _, rfl, rfl, ?_⟩
        rw [List.length_map, List.length_map]
        refine ⟨_, rfl, fun p np => ?_⟩
        rw [show ((xs.length : Nat) : Int) + ((ys.length : Nat) : Int) - 1 = ((xs.length + ys.length - 1 : Nat) : Int) by omega]
        generalize hn : xs.length + ys.length - 1 = n
        have ep : upd H p (HO.rng 0 (n : Int)) p = some (HO.rng 0 (n : Int)) := upd_same
        have s1 : Same H (upd H p (HO.rng 0 (n : Int))) := same_upd np
        generalize upd H p (HO.rng 0 (n : Int)) = H1 at ep s1 ⊢
        refine ⟨_, rfl, p, 0, n, rfl, ep, by omega, fun D hD => ?_⟩
        rw [show ((n : Int) - 0).toNat = n by omega]
        refine lc_range (lo := 0) (n := n) (fun i H' => Same H1 H' ∧ H' D = some (.lst ((tabI i (pcI xs ys)).map V.int))) ⟨same_upd hD, upd_same⟩ ?_ ?_
        · rintro i H' hi ⟨ss, eD⟩
          have e0 : (0 + (i : Int)) = (i : Int) := by omega
          refine ⟨rfl, ?_⟩
          rw [e0]
          refine ⟨_, rfl, _, rfl, _, rfl, l1, l2, xs, ys, i, rfl, ss _ _ (s1 _ _ e1), ss _ _ (s1 _ _ e2), lx, ly, by omega, bx, by', fun H'' s' => ?_⟩
          refine ⟨_, s' _ _ eD, ?_, (fun b' o' e' => ?_), ?_⟩
          · rw [List.length_map, tabI_len, sizeLine_eq]
            omega
          · rw [upd_ne (ne_of_none e' hD)]
            exact s' _ _ (ss _ _ e')
          · rw [upd_same, tabI_snoc, List.map_append]
            rfl
        · rintro H' ⟨ss, eD⟩
          refine q D H' (s1.trans ss) (s1.free hD) ?_
          unfold pmI
          rw [if_neg (fun z => z.elim hx hy), hn]
          exact eD
end
end Vf
set_option maxRecDepth 100000
set_option maxHeartbeats 8000000
namespace Vf
open PySem PySem.Spec PyProof.Rows L2
def RW (H : Hp) (l : Addr) (ps : List (Int × Int)) : Prop := ∃ as, H l = some (.lst (as.map V.ref)) ∧ Tups H as ps
def PolyQ (K : PySem.W.Frag) (CP : Addr) (H : Hp) (a : Addr) (qs : List Rat) : Prop := PolyAt K CP H a (qs.map pq)
theorem PolyQ.same {K : PySem.W.Frag} {CP : Addr} {H H' : Hp} {a : Addr} {qs : List Rat} (h : PolyQ K CP H a qs) (s : Same H H') : PolyQ K CP H' a qs := PolyAt.same h s
/-- what Poly(row) comes to -/
theorem poly_row {K : PySem.W.Frag} {CP CR : Addr} {H : Hp} {l : Addr} {ps : List (Int × Int)} {qs : List Rat} {Qd : Addr → Hp → Prop} {E : XK} (h : RW H l ps) (hl : ps.length ≤ 1000) (hp : ∀ p ∈ ps, 0 < p.2 ∧ p.2.natAbs < 2 ^ big) (hq : ps.map lowP = qs.map pq)
    (k : ∀ (x : Addr) (H' : Hp), Same H H' → H x = none → PolyQ K CP H' x (stripQ qs) → Qd x H') :
    ∀ x dx, H x = none → H dx = none → dx ≠ x → spPolyI K CP CR (.ref x :: ([V.ref l] ++ [])) (upd (upd H dx (.own x)) x (.ins CP dx [])) (fun w H2 => w = .non ∧ Qd x H2) E := by
  obtain ⟨as, e, t⟩ := h
  have rd : rowD (.list (ps.map pairD)) = some ps := mapM_of fun p h => parts_pairD (hp p h).1
  refine poly_made (d := .list (ps.map pairD)) (.lst (SqL.of e) t.dts) (fun ds' h => ?_) (fun ps' h => ?_) (fun z => by rw [rd] at z; cases z)
  · cases h
    rw [List.length_map]
    exact hl
  rw [rd] at h
  cases h
  refine ⟨fun p h => (hp p h).2, fun x H' s nx made => k x H' s nx ?_⟩
  rw [hq, strip_map] at made
  exact made
theorem poly_rl {K : PySem.W.Frag} {CP CR : Addr} {H : Hp} {l : Addr} {qs : List Rat} {Qd : Addr → Hp → Prop} {E : XK} (h : RL H l qs) (hl : qs.length ≤ 1000) (hz : ∀ q ∈ qs, q.den < 2 ^ big)
    (k : ∀ (x : Addr) (H' : Hp), Same H H' → H x = none → PolyQ K CP H' x (stripQ qs) → Qd x H') :
    ∀ x dx, H x = none → H dx = none → dx ≠ x → spPolyI K CP CR (.ref x :: ([V.ref l] ++ [])) (upd (upd H dx (.own x)) x (.ins CP dx [])) (fun w H2 => w = .non ∧ Qd x H2) E := by
  refine poly_row (ps := qs.map pq) h (by rw [List.length_map]; exact hl) (fun p hp => ?_) ?_ k
  · obtain ⟨q, hq, rfl⟩ := List.mem_map.mp hp
    have := q.den_pos
    refine ⟨by show (0 : Int) < (q.den : Int); omega, ?_⟩
    show (q.den : Int).natAbs < _
    rw [Int.natAbs_natCast]
    exact hz q hq
  · rw [List.map_map]
    refine List.map_congr_left fun q _ => ?_
    exact low_id (pq_low q)
def pmQ (a b : List Rat) : List Rat := if a = [] ∨ b = [] then [] else tab (a.length + b.length - 1) (pc a b)
theorem pmQ_strip (a b : List Rat) : stripQ (pmQ a b) = stripQ (pmul a b) := by
  refine stripQ_ext fun i => ?_
  rw [cf_pmul]
  unfold pmQ
  split
  · rename_i h
    rw [cf_nil]
    symm
    unfold pc
    refine sm_zero fun j _ => ?_
    rcases h with h | h <;> rw [h, cf_nil]
    · exact Rat.zero_mul _
    · exact Rat.mul_zero _
  · rw [cf_tab]
    split
    · rfl
    · rw [pc_zero (by omega)]
/-- products over one bottom -/
theorem pcI_over {a b : List Rat} {xs ys : List Int} {A B : Nat} (ha : ∀ i, cf a i * (A : Rat) = ((ci xs i : Int) : Rat)) (hb : ∀ i, cf b i * (B : Rat) = ((ci ys i : Int) : Rat)) (k : Nat) : pc a b k * (((A * B : Nat) : Int) : Rat) = ((pcI xs ys k : Int) : Rat) := by
  unfold pc pcI
  rw [smI_cast]
  have e : (((A * B : Nat) : Int) : Rat) = (A : Rat) * (B : Rat) := by exact_mod_cast rfl
  rw [e]
  have g : ∀ n, sm (fun i => cf a i * cf b (k - i)) n * ((A : Rat) * (B : Rat)) = sm (fun i => ((ci xs i * ci ys (k - i) : Int) : Rat)) n := fun n => by
    induction n with
    | zero => exact Rat.zero_mul _
    | succ n ih =>
      show (sm _ n + cf a n * cf b (k - n)) * _ = sm _ n + ((ci xs n * ci ys (k - n) : Int) : Rat)
      rw [Rat.add_mul, ih, Rat.intCast_mul, ← ha, ← hb]
      grind
  exact g _
section
variable {P : Program} {w : World} {K : PySem.W.Frag} {mg : Str → Option Value} {base : Heap} {CP CR CN : Addr}
abbrev sProds : Stmt := topS 33
theorem scProds : FnScope ["one", "other", "row", "bottom", "other_row", "other_bottom", "below", "top"] ["one", "other"] (defScope sProds) := ⟨rfl, rfl, rfl, by decide +kernel, rfl, by decide +kernel, by decide +kernel⟩
end
end Vf
set_option maxRecDepth 100000
set_option maxHeartbeats 8000000
namespace Vf
open PySem PySem.Spec PyProof.Rows L2
/-- a small drawn ratio -/
def spRatio : Sp := fun vs H Q _ => ∃ (p lc : Addr) (B m : Int), vs = [.ref p, .int m] ∧ 1 ≤ m ∧ m ≤ 1000000000 ∧ Pen H p lc B ∧ B ≤ 10000000 ∧
  ∀ (r : Addr) (t b : Int) (H' : Hp), Pen H' p lc (B + 3) → Kp p H H' → H' r = some (.tup [.int t, .int b]) → Low t b → (t.natAbs : Int) ≤ m * 99 → b.natAbs ≤ 99 → Q (.ref r) H'
section
variable {P : Program} {w : World} {K : PySem.W.Frag} {mg : Str → Option Value} {base : Heap} {CN : Addr}
abbrev sLRatio : Stmt := topS 58
theorem scLRatio : FnScope ["_law_pen_here", "_law_most", "_law_bottom"] ["_law_pen_here", "_law_most"] (defScope sLRatio) := ⟨rfl, rfl, rfl, by decide +kernel, rfl, by decide +kernel, by decide +kernel⟩
theorem small_mulW {x y : Int} (h1 : x.natAbs < 2 ^ 400) (h2 : y.natAbs < 2 ^ 400) : CMulW x y := wide_mul h1 h2 (by decide) (by decide) (by decide)
theorem ok_lratio {f : Addr} {fd : FuncData} (F : Fun K "_law_ratio" "_law_ratio" sLRatio f fd) (Gd_ : Df P w K mg base "_law_draw" 1 ["_law_pen_here", "_law_many"] spDraw) (Gp : Df P w K mg base "_law_pick" 2 ["_law_pen_here", "_law_some"] spPick) (Gq : Df P w K mg base "_law_q" 2 ["_law_top", "_law_bottom"] spQ) :
    FnOk P w K mg base CX0 3 f fd ["_law_pen_here", "_law_most"] spRatio := by
  refine F.ok scLRatio (fun vs H Q E h => ?_) (fun cdv A outer s H vs Q E hr h => ?_)
  · obtain ⟨p, lc, B, m, rfl, _⟩ := h
    rfl
  · obtain ⟨p, lc, B, m, rfl, hm1, hm9, hP, hB, q⟩ := h
    refine ⟨_, (pss_cons (ps_set (i := 2) scLRatio.nd rfl (Or.inl rfl) (pe_call Gp.ok (hr.mono (by decide)) rfl Gp.m Gp.kp Gp.b .nil pass0 (pa_cons (pv 0) (pa_cons (pe_lst (pa_cons pe_int (pa_cons pe_int (pa_cons pe_int (pa_cons pe_int (pa_cons pe_int (pa_cons pe_int (pa_cons (pe_op op_add pe_int (pe_call Gd_.ok (hr.mono (by decide)) rfl Gd_.m Gd_.kp Gd_.b .nil pass0 (pa_cons (pv 0) (pa_cons pe_int pa_nil)))) pa_nil)))))))) pa_nil))))
      (pss_one (ps_ret (pe_call Gq.ok (hr.mono (by decide)) rfl Gq.m Gq.kp Gq.b .nil pass0 (pa_cons (pe_op op_sub (pe_call Gd_.ok (hr.mono (by decide)) rfl Gd_.m Gd_.kp Gd_.b .nil pass0 (pa_cons (pv 0) (pa_cons (pe_op op_add (pe_op op_mulW (pe_op op_mulW pe_int (pv 1)) (pv 2)) pe_int) pa_nil))) (pe_op op_mulW (pv 1) (pv 2))) (pa_cons (pv 2) pa_nil)))))), ?_⟩
    refine ⟨_, rfl, _, rfl, p, lc, B, 99, rfl, hP, by omega, by decide, by decide, fun z H1 z0 z1 hP1 k1 => ⟨_, _, rfl, rfl, ?_⟩⟩
    refine ⟨(by show 7 ≤ sizeLine; decide), fun l nl => ?_⟩
    have el : upd H1 l (HO.lst [V.int 1, V.int 1, V.int 2, V.int 3, V.int 7, V.int 10, V.int (1 + z)]) l = some (HO.lst [V.int 1, V.int 1, V.int 2, V.int 3, V.int 7, V.int 10, V.int (1 + z)]) := upd_same
    have sl : Same H1 (upd H1 l (HO.lst [V.int 1, V.int 1, V.int 2, V.int 3, V.int 7, V.int 10, V.int (1 + z)])) := same_upd nl
    have lp : l ≠ p := by
      obtain ⟨o, e⟩ := hP1.there
      exact (ne_of_none e nl).symm
    generalize upd H1 l (HO.lst [V.int 1, V.int 1, V.int 2, V.int 3, V.int 7, V.int 10, V.int (1 + z)]) = H2 at el sl ⊢
    have hP2 := hP1.same sl
    refine ⟨p, lc, l, _, _, rfl, hP2, by omega, el, lp, (by show 0 < 7; decide), (by show 7 < 1000000; decide), fun x H3 hx hP3 k3 => ?_⟩
    obtain ⟨b, rfl, b0, b1⟩ : ∃ b : Int, x = .int b ∧ 1 ≤ b ∧ b ≤ 99 := by
      simp only [List.mem_cons, List.not_mem_nil, or_false] at hx
      rcases hx with h | h | h | h | h | h | h <;> exact ⟨_, h, by omega, by omega⟩
    have sz : ∀ {i : Int}, 0 ≤ i → i ≤ 1000000000000 → i.natAbs < 2 ^ 400 := fun {i} h0 h1 => Nat.lt_trans (show i.natAbs < 2 ^ 40 by omega) (by decide +kernel)
    have k13 : Kp p H H3 := (k1.trans (Kp.of sl)).trans k3
    have hmb : m * b ≤ 1000000000 * 99 := Int.mul_le_mul hm9 b1 (by omega) (by decide)
    have hmb0 : 0 < m * b := Int.mul_pos (by omega) (by omega)
    have e2 : 2 * m * b = 2 * (m * b) := Int.mul_assoc _ _ _
    refine ⟨_, rfl, _, rfl, _, _, rfl, rfl, small_mulW (sz (by decide) (by decide)) (sz (by omega) (by omega)), _, rfl, _, _, rfl, rfl, small_mulW (sz (by omega) (by omega)) (sz (by omega) (by omega)), _, _, rfl, rfl, p, lc, _, _, rfl, hP3, by omega, by omega, by omega, fun y H4 y0 y1 hP4 k4 => ?_⟩
    refine ⟨_, rfl, _, rfl, _, _, rfl, rfl, small_mulW (sz (by omega) (by omega)) (sz (by omega) (by omega)), _, _, rfl, rfl, _, rfl, ?_⟩
    have hb : b ≠ 0 := by omega
    have lt : (2 : Nat) ^ 40 < 2 ^ big := Nat.pow_lt_pow_right (by decide) (by decide)
    refine ⟨_, _, rfl, hb, Nat.lt_trans (show (y - m * b).natAbs < 2 ^ 40 by omega) lt, Nat.lt_trans (show b.natAbs < 2 ^ 40 by omega) lt, fun r H5 s5 n5 e5 => ?_⟩
    obtain ⟨z1, z2⟩ := low_size (t := y - m * b) hb
    have mb : m * b ≤ m * 99 := Int.mul_le_mul_of_nonneg_left b1 (by omega)
    exact q r _ _ H5 ((hP4.more (by omega)).same s5) ((k13.trans k4).trans (Kp.of s5)) e5 (low_is hb) (by omega) (by omega)
end
theorem RL.kp {H H' : Hp} {p lc l : Addr} {B : Int} {qs : List Rat} (h : RL H l qs) (hP : Pen H p lc B) (k : Kp p H H') : RL H' l qs := by
  obtain ⟨as, e, t⟩ := h
  refine ⟨as, k _ _ ?_ e, t.kp hP k⟩
  obtain ⟨_, _, _, _, _, g1, _⟩ := hP
  exact ne_of e g1.1 (by intro z; cases z)
theorem RL.ne {H : Hp} {p lc l : Addr} {B : Int} {qs : List Rat} (h : RL H l qs) (hP : Pen H p lc B) : l ≠ p := by
  obtain ⟨as, e, t⟩ := h
  obtain ⟨_, _, _, _, _, g1, _⟩ := hP
  exact ne_of e g1.1 (by intro z; cases z)
theorem TR.kp {H H' : Hp} {p lc r : Addr} {B : Int} {q : Rat} (h : TR H r q) (hP : Pen H p lc B) (k : Kp p H H') : TR H' r q := by
  obtain ⟨_, _, _, _, _, g1, _⟩ := hP
  exact k _ _ (ne_of h g1.1 (by intro z; cases z)) h
theorem PolyQ.kp {K : PySem.W.Frag} {CP : Addr} {H H' : Hp} {a p l : Addr} {B : Int} {qs : List Rat} (h : PolyQ K CP H a qs) (hP : Pen H p l B) (k : Kp p H H') : PolyQ K CP H' a qs := PolyAt.kp h hP k
def spMade (K : PySem.W.Frag) (CP : Addr) : Sp := fun vs H Q _ => ∃ (p lc l : Addr) (B : Int) (a : List Rat), vs = [.ref p, .ref l] ∧ Pen H p lc B ∧ B ≤ 1000000 ∧ RL H l a ∧ a.length ≤ 13 ∧ stripQ a = a ∧ (∀ i, RatOk (pq (cf a i))) ∧
  ∀ (x : Addr) (H' : Hp), Pen H' p lc (B + 100) → Kp p H H' → PolyQ K CP H' x a → Q (.ref x) H'
theorem sm_s80 {q : Rat} (h : Sm q) : RatOk (pq q) := by
  refine ⟨pq_low q, Nat.lt_of_le_of_lt h.1 (Nat.pow_lt_pow_right (by decide) (by decide)), ?_⟩
  show (q.den : Int).natAbs < 2 ^ 1200
  rw [Int.natAbs_natCast]
  exact Nat.lt_of_le_of_lt h.2 (Nat.pow_lt_pow_right (by decide) (by decide))
theorem mem_cf {qs : List Rat} {q : Rat} (h : q ∈ qs) : ∃ i, q = cf qs i := by
  obtain ⟨i, hi, e⟩ := List.mem_iff_getElem.mp h
  exact ⟨i, by rw [cf_lt hi, e]⟩
theorem Dts.rep0 {K : PySem.W.Frag} {H : Hp} : ∀ n : Nat, Dts K H (List.replicate n (V.int 0)) (List.replicate n (PyData.int 0))
  | 0 => .nil
  | n + 1 => .cons (.int 0) (Dts.rep0 n)
theorem giv_rep0 {ds : List PyData} {ps : List (Int × Int)} (h : Giv ds ps) : ∀ n : Nat, Giv (ds ++ List.replicate n (PyData.int 0)) (ps ++ List.replicate n (0, 1))
  | 0 => by rw [List.replicate_zero, List.replicate_zero, List.append_nil, List.append_nil]; exact h
  | n + 1 => by
    rw [List.replicate_succ', List.replicate_succ', ← List.append_assoc, ← List.append_assoc]
    exact (giv_rep0 h n).snoc (k := 1) (p := (0, 1)) rfl (by decide) (by decide) (gd_int (by show (0 : Int).natAbs < _; exact Nat.pow_pos (by decide)))
section
variable {P : Program} {w : World} {K : PySem.W.Frag} {mg : Str → Option Value} {base : Heap} {CP CR CN : Addr}
abbrev sMade : Stmt := topS 75
theorem scMade : FnScope ["_law_pen_here", "_law_one", "_law_numbers", "_law_number"] ["_law_pen_here", "_law_one"] (defScope sMade) := ⟨rfl, rfl, rfl, by decide +kernel, rfl, by decide +kernel, by decide +kernel⟩
theorem ok_made {f : Addr} {fd : FuncData} (F : Fun K "_law_made_poly" "_law_made_poly" sMade f fd) (T : Bk mg) (PM : PoM P w K mg base CP CR) (Gd_ : Df P w K mg base "_law_draw" 1 ["_law_pen_here", "_law_many"] spDraw) (Gp : Df P w K mg base "_law_pick" 2 ["_law_pen_here", "_law_some"] spPick) (Gs : Df P w K mg base "_law_passed" 3 ["_law_pen_here", "_law_ratio_here"] (spPassed K)) : FnOk P w K mg base CX0 7 f fd ["_law_pen_here", "_law_one"] (spMade K CP) := by
  refine F.ok scMade (fun vs H Q E h => ?_) (fun cdv A outer s H vs Q E hr h => ?_)
  · obtain ⟨p, lc, l, B, a, rfl, _⟩ := h
    rfl
  · obtain ⟨p, lc, l, B, a, rfl, hP, hB, ⟨as, el, ta⟩, la, st, sa, q⟩ := h
    refine ⟨_, (pss_cons (ps_set (i := 2) scMade.nd rfl (Or.inl rfl) (pe_op op_cat (pe_lc (own := [("_law_number", 3)]) (g := gName 3) (tt := tYes) rfl scMade.nd (pi_seq (pv 1)) (blkOk_by (N := ["_law_pen_here", "_law_one", "_law_numbers", "_law_number"]) (sc := defScope sMade) (by decide +kernel)) (fun _ _ _ _ _ => pg_name (i := 3) scMade.nd rfl (Or.inl rfl)) (fun _ _ _ _ _ => pts_nil) (fun _ _ _ _ _ => (pe_call Gs.ok (hr.mono (by decide)) rfl Gs.m Gs.kp Gs.b .nil pass0 (pa_cons (pv 0) (pa_cons (pv 3) pa_nil))))) (pe_op op_rep (pe_lst (pa_cons pe_int pa_nil)) (pe_call Gd_.ok (hr.mono (by decide)) rfl Gd_.m Gd_.kp Gd_.b .nil pass0 (pa_cons (pv 0) (pa_cons pe_int pa_nil))))))
  (pss_one (ps_ret (pe_make PM.mkI PM.okI (hr.mono (by decide)) rfl PM.C.m PM.bI .nil passL (pa_cons (pe_call Gp.ok (hr.mono (by decide)) rfl Gp.m Gp.kp Gp.b .nil pass0 (pa_cons (pv 0) (pa_cons (pe_lst (pa_cons (pe_callTy call_tuple_of (by rfl) T.tuple (by decide +kernel) (pa_cons (pv 2) pa_nil)) (pa_cons (pv 2) pa_nil))) pa_nil))) pa_nil))))), ?_⟩
    have lp : l ≠ p := RL.ne ⟨as, el, ta⟩ hP
    have leq := ta.lenQ
    refine ⟨_, rfl, l, rfl, lc_seq (xs := as.map V.ref) (.inl (SqL.of el)) (fun D k H' => Kp p H H' ∧ Pen H' p lc (B + 3 * k) ∧ ∃ vs ds, H' D = some (.lst vs) ∧ Dts K (fz D p H') vs ds ∧ Giv ds ((a.map pq).take k)) ?_ ?_ ?_ ?_⟩
    · intro D hD
      exact ⟨Kp.of (same_upd hD), (hP.same (same_upd hD)).more (by omega), [], [], upd_same, .nil, .nil⟩
    · intro D k H' hD ⟨kk, _⟩
      exact seq_kp lp kk
    · intro D k x H' hD hk ⟨kk, hP', vs, ds, eD, dts, giv⟩
      obtain ⟨d1, d2⟩ := hP.ne_new hD
      rw [List.getElem?_map] at hk
      cases hr0 : as[k]? with
      | none => rw [hr0] at hk; cases hk
      | some r =>
        rw [hr0] at hk
        cases hk
        obtain ⟨qq, hq, er⟩ := ta.atQ hr0
        have rp : r ≠ p := by
          obtain ⟨_, _, _, _, _, g1, _⟩ := hP
          exact ne_of er g1.1 (by intro z; cases z)
        have okq : RatOk (pq qq) := by have := sa k; rw [cf_get hq] at this; exact this
        have hk13 : k < 13 := by
          have := (List.getElem?_eq_some_iff.mp hr0).1
          omega
        refine ⟨rfl, ?_⟩
        refine ⟨_, rfl, _, rfl, p, lc, r, _, (pq qq).1, (pq qq).2, rfl, hP', by omega, kk _ _ rp er, okq.lw.pos, okq.zt, okq.zb, fun v d kz H2 hP2 kp' hd pa k0 k3 gd => ?_⟩
        have eD' := kp' _ _ d1 eD
        have hDl : vs.length < sizeLine := by
          have := dts.len
          have := giv.len
          rw [List.length_take] at this
          rw [sizeLine_eq]
          omega
        have hp := hP'.there.choose_spec
        refine ⟨_, eD', hDl, ?_, (hP2.put upd_away d1 d2).more (by omega), vs ++ [v], ds ++ [d], upd_same, ?_, ?_⟩
        · exact fun b o nb eb => by
            rw [upd_ne (ne_of_none eb hD)]
            exact kp' b o nb (kk b o nb eb)
        · have up : Same (fz D p H2) (fz D p (upd H2 D (.lst (vs ++ [v])))) := fz_mono fun b o h1 h2 e => by rw [upd_ne h1]; exact e
          exact (dts.mono ((fz_mono fun b o h1 h2 e => kp' b o h2 e).trans up)).app (.cons (hd.mono ((nw_fz eD hp).trans up)) .nil)
        · have z := giv.snoc (p := pq qq) pa k0 k3 gd
          have e : (a.map pq).take (k + 1) = (a.map pq).take k ++ [pq qq] := by rw [List.take_succ, List.getElem?_map, hq]; rfl
          rw [e]
          exact z
    · intro lg H11 nlg ⟨k11, hP11, vs, ds, elg, dts, giv⟩
      obtain ⟨lgp, lgc⟩ := hP.ne_new nlg
      have etk : (a.map pq).take (as.map V.ref).length = a.map pq := by rw [List.length_map, leq]; exact List.take_of_length_le (by rw [List.length_map]; exact Nat.le_refl _)
      rw [etk] at giv
      have hP11 := hP11.more (show _ ≤ B + 60 by rw [List.length_map]; omega)
      have lenv : vs.length ≤ 13 := by
        have h1 := dts.len
        have h2 := giv.len
        rw [List.length_map] at h2
        omega
      refine ⟨(by show 1 ≤ sizeLine; decide), fun l1 nl1 => ?_⟩
      have el1 : upd H11 l1 (HO.lst [V.int 0]) l1 = some (HO.lst [V.int 0]) := upd_same
      have s12 : Same H11 (upd H11 l1 (HO.lst [V.int 0])) := same_upd nl1
      have l1p := (hP11.ne_new nl1).1
      generalize upd H11 l1 (HO.lst [V.int 0]) = H12 at el1 s12 ⊢
      have hP12 := hP11.same s12
      refine ⟨_, rfl, p, lc, _, 2, rfl, hP12, by omega, by decide, by decide, fun m H13 m0 m1 hP13 k13 => ?_⟩
      refine ⟨l1, m, _, rfl, rfl, k13 _ _ l1p el1, by omega, by omega, (by rw [sizeLine_eq]; show 1 * m.toNat ≤ _; omega), fun l2 nl2 => ?_⟩
      have el2 : upd H13 l2 (HO.lst (List.replicate m.toNat [V.int 0]).flatten) l2 = some (HO.lst (List.replicate m.toNat (V.int 0))) := by rw [upd_same, List.flatten_replicate_singleton]
      have s14 : Same H13 (upd H13 l2 (HO.lst (List.replicate m.toNat [V.int 0]).flatten)) := same_upd nl2
      generalize upd H13 l2 (HO.lst (List.replicate m.toNat [V.int 0]).flatten) = H14 at el2 s14 ⊢
      have elg14 := s14 _ _ (k13 _ _ lgp (s12 _ _ elg))
      refine ⟨lg, l2, _, _, rfl, rfl, elg14, el2, (by rw [List.length_replicate, sizeLine_eq]; omega), fun nb nnb => ?_⟩
      have enb : upd H14 nb (HO.lst (vs ++ List.replicate m.toNat (V.int 0))) nb = some (HO.lst (vs ++ List.replicate m.toNat (V.int 0))) := upd_same
      have s15 : Same H14 (upd H14 nb (HO.lst (vs ++ List.replicate m.toNat (V.int 0)))) := same_upd nnb
      have hP14 := hP13.same s14
      have nbp := (hP14.ne_new nnb).1
      generalize upd H14 nb (HO.lst (vs ++ List.replicate m.toNat (V.int 0))) = H15 at enb s15 ⊢
      have hP15 := hP14.same s15
      refine ⟨_, rfl, _, rfl, nb, _, rfl, .inl ⟨SqL.of enb, fun tg ntg => ?_⟩⟩
      have etg : upd H15 tg (HO.tup (vs ++ List.replicate m.toNat (V.int 0))) tg = some (HO.tup (vs ++ List.replicate m.toNat (V.int 0))) := upd_same
      have s16 : Same H15 (upd H15 tg (HO.tup (vs ++ List.replicate m.toNat (V.int 0)))) := same_upd ntg
      have tgp := (hP15.ne_new ntg).1
      generalize upd H15 tg (HO.tup (vs ++ List.replicate m.toNat (V.int 0))) = H16 at etg s16 ⊢
      have hP16 := hP15.same s16
      refine ⟨_, rfl, (by show 2 ≤ sizeLine; decide), fun l4 nl4 => ?_⟩
      have el4 : upd H16 l4 (HO.lst [V.ref tg, V.ref nb]) l4 = some (HO.lst [V.ref tg, V.ref nb]) := upd_same
      have s17 : Same H16 (upd H16 l4 (HO.lst [V.ref tg, V.ref nb])) := same_upd nl4
      have l4p := (hP16.ne_new nl4).1
      generalize upd H16 l4 (HO.lst [V.ref tg, V.ref nb]) = H17 at el4 s17 ⊢
      have hP17 := hP16.same s17
      refine ⟨p, lc, l4, _, _, rfl, hP17, by omega, el4, l4p, (by show 0 < 2; decide), (by show 2 < 1000000; decide), fun x H18 hx hP18 k18 => ?_⟩
      have k1118 : Kp p H11 H18 := ((Kp.of s12).trans k13).trans ((Kp.of (s14.trans (s15.trans (s16.trans s17)))).trans k18)
      have dts18 : Dts K H18 (vs ++ List.replicate m.toNat (V.int 0)) (ds ++ List.replicate m.toNat (PyData.int 0)) := (dts.mono ((fz_mono fun b o _ h e => k1118 b o h e).trans fz_sub)).app (Dts.rep0 _)
      have giv2 := giv_rep0 giv m.toNat
      have ok2 : ∀ y ∈ a.map pq ++ List.replicate m.toNat (0, 1), RatOk y := fun y hy => by
        rcases List.mem_append.mp hy with h | h
        · obtain ⟨q0, hq0, rfl⟩ := List.mem_map.mp h
          obtain ⟨i, rfl⟩ := mem_cf hq0
          exact sa i
        · rw [List.eq_of_mem_replicate h]
          exact sm_s80 sm_zero'
      obtain ⟨dg, hdg, sdg⟩ : ∃ dg, Dt K H18 x dg ∧ seqD dg = some (ds ++ List.replicate m.toNat (PyData.int 0)) := by
        simp only [List.mem_cons, List.not_mem_nil, or_false] at hx
        rcases hx with h | h
        · rw [h]
          exact ⟨.tuple _, .tup (SqT.of (k18 _ _ tgp (s17 _ _ etg))) dts18, rfl⟩
        · rw [h]
          exact ⟨.list _, .lst (SqL.of (k18 _ _ nbp (s17 _ _ (s16 _ _ enb)))) dts18, rfl⟩
      obtain ⟨qs, hqs, eqs, bqs⟩ := giv2.row ok2
      have rdg : rowD dg = some qs := by rw [rowD_seq sdg]; exact hqs
      refine poly_made hdg (fun ds' h => ?_) (fun ps' h => ?_) (fun z => by rw [rdg] at z; cases z)
      · rw [sdg] at h
        cases h
        have := dts18.len
        rw [List.length_append, List.length_replicate] at this
        omega
      rw [rdg] at h
      cases h
      refine ⟨bqs, fun md H19 s19 nmd made => q md H19 ((hP18.more (by omega)).same s19) (k11.trans (k1118.trans (Kp.of s19))) ?_⟩
      have e : a.map pq ++ List.replicate m.toNat (0, 1) = (a ++ List.replicate m.toNat 0).map pq := by
        rw [List.map_append, List.map_replicate]
        rfl
      have e2 : stripQ (a ++ List.replicate m.toNat 0) = a := by
        rw [← st]
        refine (stripQ_ext fun i => ?_).trans (by rw [st])
        rw [st, cf_app]
        split
        · rfl
        · rw [cf_rep0, cf_ge (by omega)]
      rw [eqs, e, strip_map, e2] at made
      exact made
end
end Vf
set_option maxRecDepth 100000
set_option maxHeartbeats 8000000
namespace Vf
open PySem PySem.Spec PyProof.Rows L2
def spLPT : Sp := fun vs H Q _ => ∃ (l1 l2 : Addr) (a b : List Rat) (M N M' N' : Nat), vs = [.ref l1, .ref l2] ∧ RL H l1 a ∧ RL H l2 b ∧ a.length ≤ 40 ∧ b.length ≤ 40 ∧ 0 < M ∧ 0 < M' ∧ 0 < N ∧ 0 < N' ∧ (∀ i, Fr M N (cf a i)) ∧ (∀ i, Fr M' N' (cf b i)) ∧
  M * M' < 2 ^ 4300 ∧ 41 * (N * N') < 2 ^ 4300 ∧ ∀ (l : Addr) (H' : Hp), Same H H' → RL H' l (stripQ (pmul a b)) → Q (.ref l) H'
/-- what has come to the number of a power after i rows and k numbers of the next one -/
def pt (a b : List Rat) (i k j : Nat) : Rat := sm (fun x => if x ≤ j then cf a x * cf b (j - x) else 0) i + if i ≤ j ∧ j - i < k then cf a i * cf b (j - i) else 0
theorem pt_zero (a b : List Rat) (j : Nat) : pt a b 0 0 j = 0 := by
  unfold pt
  rw [if_neg (by omega)]
  show (0 : Rat) + 0 = 0
  exact Rat.add_zero 0
theorem pt_next (a b : List Rat) (i k j : Nat) : pt a b i (k + 1) j = if j = i + k then pt a b i k j + cf a i * cf b k else pt a b i k j := by
  unfold pt
  by_cases h : j = i + k
  · rw [if_pos h, if_pos (by omega), if_neg (by omega), show j - i = k by omega, Rat.add_zero]
  · rw [if_neg h]
    by_cases h2 : i ≤ j ∧ j - i < k
    · rw [if_pos h2, if_pos (by omega)]
    · rw [if_neg h2, if_neg (by omega)]
theorem pt_row (a b : List Rat) (i j : Nat) : pt a b (i + 1) 0 j = pt a b i b.length j := by
  unfold pt
  rw [if_neg (by omega), Rat.add_zero]
  show sm _ i + (if i ≤ j then cf a i * cf b (j - i) else 0) = _
  congr 1
  by_cases h : i ≤ j
  · rw [if_pos h]
    by_cases h2 : j - i < b.length
    · rw [if_pos ⟨h, h2⟩]
    · rw [if_neg (fun z => h2 z.2), cf_ge (l := b) (by omega), Rat.mul_zero]
  · rw [if_neg h, if_neg (fun z => h z.1)]
theorem pt_end (a b : List Rat) (j : Nat) : pt a b a.length 0 j = pc a b j := by
  unfold pt pc
  rw [if_neg (by omega), Rat.add_zero]
  have e : sm (fun x => if x ≤ j then cf a x * cf b (j - x) else 0) (max a.length (j + 1)) = sm (fun x => if x ≤ j then cf a x * cf b (j - x) else 0) a.length :=
    sm_more (by omega) fun i h1 h2 => by
      rw [cf_ge h1, Rat.zero_mul]
      split <;> rfl
  have e2 : sm (fun x => if x ≤ j then cf a x * cf b (j - x) else 0) (max a.length (j + 1)) = sm (fun x => if x ≤ j then cf a x * cf b (j - x) else 0) (j + 1) :=
    sm_more (by omega) fun i h1 h2 => by rw [if_neg (by omega)]
  rw [← e, e2]
  exact sm_ext fun i hi => by rw [if_pos (by omega)]
theorem pt_fr {a b : List Rat} {M N M' N' : Nat} (ha : ∀ i, Fr M N (cf a i)) (hb : ∀ i, Fr M' N' (cf b i)) (i k j : Nat) : Fr (M * M') ((i + 1) * (N * N')) (pt a b i k j) := by
  unfold pt
  have h1 : Fr (M * M') (i * (N * N')) (sm (fun x => if x ≤ j then cf a x * cf b (j - x) else 0) i) := sm_fr fun x _ => by
    split
    · exact (ha x).mul (hb _)
    · exact Fr.zero _ _
  rw [Nat.succ_mul]
  refine h1.add ?_
  split
  · exact (ha i).mul (hb _)
  · exact Fr.zero _ _
section
variable {P : Program} {w : World} {K : PySem.W.Frag} {mg : Str → Option Value} {base : Heap} {CN : Addr}
abbrev sLPTimes : Stmt := topS 67
theorem scLPTimes : FnScope ["_law_one", "_law_two", "_law_found", "_law_i", "_law_k"] ["_law_one", "_law_two"] (defScope sLPTimes) := ⟨rfl, rfl, rfl, by decide +kernel, rfl, by decide +kernel, by decide +kernel⟩
theorem ok_lptimes {f : Addr} {fd : FuncData} (F : Fun K "_law_p_times" "_law_p_times" sLPTimes f fd) (T : Bk mg) (hmax : mg "max" = none) (Gpoly : Df P w K mg base "_law_poly" 1 ["_law_numbers"] (spLPoly K)) (Gplus : Df P w K mg base "_law_plus" 3 ["_law_one", "_law_two"] (spL2 rAdd)) (Gtimes : Df P w K mg base "_law_times" 3 ["_law_one", "_law_two"] (spL2 rMul)) :
    FnOk P w K mg base CX0 4 f fd ["_law_one", "_law_two"] spLPT := by
  refine F.ok scLPTimes (fun vs H Q E h => ?_) (fun cdv A outer s H vs Q E hr h => ?_)
  · obtain ⟨l1, l2, a, b, M, N, M', N', rfl, _⟩ := h
    rfl
  · obtain ⟨l1, l2, a, b, M, N, M', N', rfl, ⟨as, e1, t1⟩, ⟨bs, e2, t2⟩, la, lb, hM, hM', hN, hN', fa, fb, hMM, hNN, q⟩ := h
    refine ⟨_, (pss_cons (ps_set (i := 2) scLPTimes.nd rfl (Or.inl rfl) (pe_op op_rep (pe_lst (pa_cons (pe_tup (pa_cons pe_int (pa_cons pe_int pa_nil))) pa_nil)) (pe_callB (cr_max rfl) (by rfl) hmax (by decide +kernel) (pa_cons (pe_lst (pa_cons pe_int (pa_cons (pe_op op_sub (pe_op op_add (pe_callB call_len_seq (by rfl) T.len (by decide +kernel) (pa_cons (pv 0) pa_nil)) (pe_callB call_len_seq (by rfl) T.len (by decide +kernel) (pa_cons (pv 1) pa_nil))) pe_int) pa_nil))) pa_nil))))
  (pss_cons (ps_for PassesOwn.never rfl (pi_range1 (by rfl) T.range (pa_cons (pe_callB call_len_seq (by rfl) T.len (by decide +kernel) (pa_cons (pv 0) pa_nil)) pa_nil)) (pg_name (i := 3) scLPTimes.nd rfl (Or.inl rfl))
    (pss_one (ps_for PassesOwn.never rfl (pi_range1 (by rfl) T.range (pa_cons (pe_callB call_len_seq (by rfl) T.len (by decide +kernel) (pa_cons (pv 1) pa_nil)) pa_nil)) (pg_name (i := 4) scLPTimes.nd rfl (Or.inl rfl))
      (pss_one (ps_asg (pe_call Gplus.ok (hr.mono (by decide)) rfl Gplus.m Gplus.kp Gplus.b .nil pass0 (pa_cons (pe_ix ix_list (pv 2) (pe_op op_add (pv 3) (pv 4)) (fun _ _ => rfl)) (pa_cons (pe_call Gtimes.ok (hr.mono (by decide)) rfl Gtimes.m Gtimes.kp Gtimes.b .nil pass0 (pa_cons (pe_ix ix_list (pv 0) (pv 3) (fun _ _ => rfl)) (pa_cons (pe_ix ix_list (pv 1) (pv 4) (fun _ _ => rfl)) pa_nil))) pa_nil))) (pg_sub (pv 2) (pe_op op_add (pv 3) (pv 4)) set_list))))))
  (pss_one (ps_ret (pe_call Gpoly.ok (hr.mono (by decide)) rfl Gpoly.m Gpoly.kp Gpoly.b .nil pass0 (pa_cons (pv 2) pa_nil)))))), ?_⟩
    have n1 := t1.lenQ
    have n2 := t2.lenQ
    have hMp : 0 < M * M' := Nat.mul_pos hM hM'
    have sA : SrL a := fun i => (fa i).sr hM (by have := Nat.le_mul_of_pos_right M hM'; omega) (by
      have := Nat.le_mul_of_pos_right N hN'
      omega)
    have sB : SrL b := fun i => (fb i).sr hM' (by have := Nat.le_mul_of_pos_left M' hM; omega) (by
      have := Nat.le_mul_of_pos_left N' hN
      omega)
    have sP : ∀ i k j, i ≤ 40 → Sr (pt a b i k j) := fun i k j hi => (pt_fr fa fb i k j).sr hMp hMM (by
      have : (i + 1) * (N * N') ≤ 41 * (N * N') := Nat.mul_le_mul_right _ (by omega)
      omega)
    have sM : ∀ i k, Sr (cf a i * cf b k) := fun i k => ((fa i).mul (fb k)).sr hMp hMM (by omega)
    refine ⟨(by show 2 ≤ sizeLine; decide), fun t0 nt0 => ?_⟩
    have et0 : upd H t0 (HO.tup [V.int 0, V.int 1]) t0 = some (HO.tup [V.int 0, V.int 1]) := upd_same
    have s1 : Same H (upd H t0 (HO.tup [V.int 0, V.int 1])) := same_upd nt0
    generalize upd H t0 (HO.tup [V.int 0, V.int 1]) = H1 at et0 s1 ⊢
    refine ⟨(by show 1 ≤ sizeLine; decide), fun k1 nk1 => ?_⟩
    have ek1 : upd H1 k1 (HO.lst [V.ref t0]) k1 = some (HO.lst [V.ref t0]) := upd_same
    have s2 : Same H1 (upd H1 k1 (HO.lst [V.ref t0])) := same_upd nk1
    generalize upd H1 k1 (HO.lst [V.ref t0]) = H2 at ek1 s2 ⊢
    have s12 := s1.trans s2
    refine ⟨_, rfl, l1, _, rfl, .inl (SqL.of (s12 _ _ e1)), _, rfl, l2, _, rfl, .inl (SqL.of (s12 _ _ e2)), _, _, rfl, rfl, _, _, rfl, rfl, (by show 2 ≤ sizeLine; decide), fun lm nlm => ?_⟩
    rw [List.length_map, List.length_map, n1, n2]
    have elm : upd H2 lm (HO.lst [V.int 0, V.int ((a.length : Nat) + (b.length : Nat) - 1)]) lm = some (HO.lst [V.int 0, V.int ((a.length : Nat) + (b.length : Nat) - 1)]) := upd_same
    have s3 : Same H2 (upd H2 lm (HO.lst [V.int 0, V.int ((a.length : Nat) + (b.length : Nat) - 1)])) := same_upd nlm
    generalize upd H2 lm (HO.lst [V.int 0, V.int ((a.length : Nat) + (b.length : Nat) - 1)]) = H3 at elm s3 ⊢
    refine ⟨lm, [0, (a.length : Nat) + (b.length : Nat) - 1], rfl, SqL.of elm, (by show 0 < 2; decide), fun m hm1 hm2 => ?_⟩
    have hm : m.toNat = a.length + b.length - 1 ∧ 0 ≤ m ∧ m ≤ 100 := by
      have h1 := hm2 0 (by simp)
      have h2 := hm2 ((a.length : Nat) + (b.length : Nat) - 1) (by simp)
      simp only [List.mem_cons, List.not_mem_nil, or_false] at hm1
      omega
    refine ⟨k1, m, _, rfl, rfl, s3 _ _ ek1, by omega, by omega, (by rw [sizeLine_eq]; show 1 * _ ≤ _; omega), fun fo nfo => ?_⟩
    have efo : upd H3 fo (HO.lst (List.replicate m.toNat [V.ref t0]).flatten) fo = some (HO.lst ((List.replicate (a.length + b.length - 1) t0).map V.ref)) := by
      rw [upd_same, flat_repQ, hm.1]
    have s4 : Same H3 (upd H3 fo (HO.lst (List.replicate m.toNat [V.ref t0]).flatten)) := same_upd nfo
    generalize upd H3 fo (HO.lst (List.replicate m.toNat [V.ref t0]).flatten) = H4 at efo s4 ⊢
    have s04 : Same H H4 := s12.trans (s3.trans s4)
    have nfoH : H fo = none := (s12.trans s3).free nfo
    have tz : TR H4 t0 0 := s4 _ _ (s3 _ _ (s2 _ _ et0))
    have fo1 : l1 ≠ fo := ne_of_none e1 nfoH
    have fo2 : l2 ≠ fo := ne_of_none e2 nfoH
    generalize hL : a.length + b.length - 1 = L at efo
    have e0 : List.replicate L (0 : Rat) = tab L (pt a b 0 0) := by
      refine List.ext_getElem (by rw [List.length_replicate, tab_len]) fun j h1 h2 => ?_
      rw [← cf_lt h1, ← cf_lt h2, cf_rep0, cf_tab, if_pos (by rw [List.length_replicate] at h1; exact h1), pt_zero]
    have t4 := tups_rep0 tz L
    rw [e0] at t4
    refine ⟨_, rfl, l1, _, rfl, .inl (SqL.of (s04 _ _ e1)), ?_⟩
    rw [List.length_map, n1]
    refine ⟨_, rfl, by omega, by omega, for_range (lo := 0) (n := ((a.length : Nat) : Int).toNat) (fun i σ H' => ∃ v3 v4 zs, σ = [some (.ref l1), some (.ref l2), some (.ref fo), v3, v4] ∧ Same H H' ∧ H' fo = some (.lst (zs.map V.ref)) ∧ Tups H' zs ((tab L (pt a b i 0)).map pq)) ⟨none, none, _, rfl, s04, efo, t4⟩ ?_ ?_⟩
    · rintro i σ H5 hi ⟨v3, v4, zs, rfl, s5, e5, t5⟩
      have hi : i < a.length := by omega
      obtain ⟨ra, ha1, ha2⟩ := t1.getQ hi
      refine ⟨_, rfl, l2, _, rfl, .inl (SqL.of (s5 _ _ e2)), ?_⟩
      rw [List.length_map, n2]
      refine ⟨_, rfl, by omega, by omega, for_range (lo := 0) (n := ((b.length : Nat) : Int).toNat) (fun k σ H' => ∃ v4 zs, σ = [some (.ref l1), some (.ref l2), some (.ref fo), some (.int (0 + (i : Int))), v4] ∧ Same H H' ∧ H' fo = some (.lst (zs.map V.ref)) ∧ Tups H' zs ((tab L (pt a b i k)).map pq)) ⟨_, _, rfl, s5, e5, t5⟩ ?_ ?_⟩
      · rintro k σ H6 hk ⟨v4, zs, rfl, s6, e6, t6⟩
        have hk : k < b.length := by omega
        have hik : i + k < L := by omega
        obtain ⟨rb, hb1, hb2⟩ := t2.getQ hk
        obtain ⟨rc, hc1, hc2⟩ := t6.getQ (i := i + k) (by rw [tab_len]; exact hik)
        rw [cf_tab, if_pos hik] at hc2
        have ix : (0 + (i : Int)) + (0 + (k : Int)) = ((i + k : Nat) : Int) := by omega
        have gc : (zs.map V.ref)[i + k]? = some (V.ref rc) := by rw [List.getElem?_map, hc1]; rfl
        have ga : (as.map V.ref)[i]? = some (V.ref ra) := by rw [List.getElem?_map, ha1]; rfl
        have gb : (bs.map V.ref)[k]? = some (V.ref rb) := by rw [List.getElem?_map, hb1]; rfl
        refine ⟨_, rfl, _, rfl, _, rfl, _, _, rfl, rfl, fo, _, _, .ref rc, rfl, rfl, SqL.of e6, at_of ix gc, ?_⟩
        refine ⟨_, rfl, _, rfl, l1, _, _, .ref ra, rfl, rfl, SqL.of (s6 _ _ e1), at_of (by omega) ga, _, rfl, _, rfl, l2, _, _, .ref rb, rfl, rfl, SqL.of (s6 _ _ e2), at_of (by omega) gb, ?_⟩
        refine ⟨ra, rb, cf a i, cf b k, rfl, ha2.same s6, hb2.same s6, sA i, sB k, fun r7 H7 s7 nr7 er7 => ?_⟩
        refine ⟨rc, r7, _, _, rfl, hc2.same s7, er7, sP i k _ (by omega), sM i k, fun r8 H8 s8 nr8 er8 => ?_⟩
        have s78 := s7.trans s8
        have e8 := s78 _ _ e6
        have zl := t6.lenQ
        rw [tab_len] at zl
        have hix : ixN (zs.map V.ref).length ((0 + (i : Int)) + (0 + (k : Int))) = some (i + k) := by
          unfold ixN
          rw [ix, if_pos (by omega), List.length_map, zl, if_pos (by omega)]
          rfl
        refine ⟨_, rfl, _, rfl, _, rfl, _, _, rfl, rfl, fo, _, _, i + k, rfl, rfl, e8, hix, ?_⟩
        refine ⟨_, zs.set (i + k) r8, rfl, (fun b' o' e' => ?_), ?_, ?_⟩
        · rw [upd_ne (ne_of_none e' nfoH)]
          exact s78 _ _ (s6 _ _ e')
        · rw [upd_same, List.map_set]
        · have up : ∀ (c : Addr) (p : Int × Int), H8 c = some (.tup [.int p.1, .int p.2]) → upd H8 fo (.lst ((zs.map V.ref).set (i + k) (V.ref r8))) c = some (.tup [.int p.1, .int p.2]) := fun c p z => by
            rw [upd_ne (ne_of z e8 (by intro z; cases z))]
            exact z
          have er8' : TR H8 r8 (pt a b i k (i + k) + cf a i * cf b k) := er8
          have t8 := ((t6.same s78).setQ (i + k) er8').imp up
          have eq : (tab L (pt a b i k)).set (i + k) (pt a b i k (i + k) + cf a i * cf b k) = tab L (pt a b i (k + 1)) := by
            refine List.ext_getElem (by rw [List.length_set, tab_len, tab_len]) fun j h1 h2 => ?_
            rw [tab_len] at h2
            rw [← cf_lt h1, ← cf_lt (by rw [tab_len]; exact h2), cf_set (by rw [tab_len]; exact hik), cf_tab, cf_tab, if_pos h2, if_pos h2, pt_next]
            split
            · rename_i h; rw [h]
            · rfl
          rw [eq] at t8
          exact t8
      · rintro σ H6 ⟨v4, zs, rfl, s6, e6, t6⟩
        refine ⟨_, _, zs, rfl, s6, e6, ?_⟩
        have eq : tab L (pt a b i ((b.length : Nat) : Int).toNat) = tab L (pt a b (i + 1) 0) := by
          rw [Int.toNat_natCast]
          unfold tab
          refine List.map_congr_left fun j _ => (pt_row a b i j).symm
        rw [eq] at t6
        exact t6
    · rintro σ H5 ⟨v3, v4, zs, rfl, s5, e5, t5⟩
      refine ⟨_, rfl, ?_⟩
      have eq : tab L (pt a b ((a.length : Nat) : Int).toNat 0) = pmul a b := by
        rw [Int.toNat_natCast]
        unfold pmul
        rw [hL]
        unfold tab
        refine List.map_congr_left fun j _ => pt_end a b j
      rw [eq] at t5
      refine lpoly_q (E := E0) ⟨zs, e5, t5⟩ (by unfold pmul; rw [tab_len]; omega) fun l' H'' s' r => q l' H'' (s5.trans s') r
end
end Vf
set_option maxRecDepth 100000
set_option maxHeartbeats 4000000
namespace Vf
open PySem PySem.Spec PyProof.Rows L2
/-- a list (true) or a tuple (false) of these items -/
def SqB (p : Bool) (K : PySem.W.Frag) (H : Hp) (a : Addr) (xs : List V) : Prop := match p with
  | true => SqL K H a xs
  | false => SqT K H a xs
def ItB (p : Bool) (h : Heap) (it a : Addr) (i : Nat) : Prop := match p with
  | true => h.IsListIter it a i
  | false => h.IsTupleIter it a i
def ArB (p : Bool) (h : Heap) (a : Addr) (items : Array Value) : Prop := match p with
  | true => h.IsList a items
  | false => h.IsTuple a items
theorem SqB.same {p : Bool} {K : PySem.W.Frag} {H H' : Hp} {a : Addr} {xs : List V} (h : SqB p K H a xs) (s : Same H H') : SqB p K H' a xs := by
  cases p
  · exact same_sqT s h
  · exact same_sqL s h
theorem drawsB {prog : Program} {w : World} {A : Around} (p : Bool) (hh : A.handled = none) (it l : Addr) (hne : l ≠ it) (items : Array Value) :
    Draws prog w A it [it, l] items.size (fun i v => items[i]? = some v) (fun i h => ItB p h it l i ∧ ArB p h l items) := by
  cases p
  · exact Draws.tuple hh it l hne items
  · exact Draws.list hh it l hne items
def obB (p : Bool) (a : Addr) : Obj := match p with
  | true => { cls := .type "list_iterator", data := .fields #[.ref a, .int 0 0] }
  | false => { cls := .type "tuple_iterator", data := .fields #[.ref a, .int 0 0] }
theorem beginsB (p : Bool) (a : Addr) (items : Array Value) : Begins (.ref a) (obB p a) fun h => ArB p h a items := by
  cases p
  · exact begins_tuple a items
  · exact begins_list a items
theorem itB_of {p : Bool} {h : Heap} {it a : Addr} (e : h.get? it = some (obB p a)) : ItB p h it a 0 := by
  cases p
  · exact ⟨_, e, rfl, rfl⟩
  · exact ⟨_, e, rfl, rfl⟩
theorem ItB.at {p : Bool} {h h' : Heap} {it a : Addr} {i : Nat} (st : ItB p h it a i) (k : ∀ o, h.get? it = some o → h'.get? it = some o) : ItB p h' it a i := by
  cases p
  · exact Heap.IsTupleIter.at st k
  · exact Heap.IsListIter.at st k
theorem ItB.obj {p : Bool} {h : Heap} {it a : Addr} {i : Nat} (st : ItB p h it a i) : ∃ o, h.get? it = some o ∧ ∀ v, o.data ≠ .cell v := by
  cases p
  · obtain ⟨o, e, _, d⟩ := st
    exact ⟨o, e, fun v z => by rw [d] at z; cases z⟩
  · obtain ⟨o, e, _, d⟩ := st
    exact ⟨o, e, fun v z => by rw [d] at z; cases z⟩
section
variable {X : Cx} {pins : List (Addr × Obj)} {σ : L2.St} {H : Hp} {s : Shared}
theorem seqB (I : Inv X pins σ H s) {p : Bool} {a : Addr} {xs : List V} (h : SqB p X.K H a xs) : ∃ its : List Value, Vals xs its ∧ ArB p s.heap a its.toArray := by
  cases p
  · obtain ⟨its, rv, q, _⟩ := I.tuple h
    exact ⟨its, rv, q⟩
  · obtain ⟨its, rv, q, _⟩ := I.list h
    exact ⟨its, rv, q.isList⟩
theorem seqB_inj (I : Inv X pins σ H s) {p : Bool} {a : Addr} {xs ys : List V} (h1 : SqB p X.K H a xs) (h2 : SqB p X.K H a ys) : xs = ys := by
  cases p
  · exact I.tuple_inj h1 h2
  · exact I.list_inj h1 h2
theorem ArB.lt {p : Bool} {h : Heap} {a : Addr} {its : Array Value} (q : ArB p h a its) : a < h.objs.size := by
  cases p
  · obtain ⟨o, e, _⟩ := q
    exact Heap.lt_size e
  · obtain ⟨o, e, _⟩ := q
    exact Heap.lt_size e
end
/-- the lists or tuples at a and b as they stand at each turn, the items in new pairs -/
def ItzB (p q : Bool) (K : PySem.W.Frag) (a b : Addr) : It :=
  ⟨fun i H => ∃ (xs ys : List V) (x y : V), SqB p K H a xs ∧ SqB q K H b ys ∧ xs[i]? = some x ∧ ys[i]? = some y,
    fun i H v H' => ∃ T x y, v = .ref T ∧ H T = none ∧ H' = upd H T (.tup [x, y]) ∧ (∀ xs, SqB p K H a xs → xs[i]? = some x) ∧ ∀ ys, SqB q K H b ys → ys[i]? = some y,
    fun i H => ∃ xs ys : List V, SqB p K H a xs ∧ SqB q K H b ys ∧ i ≤ xs.length ∧ i ≤ ys.length ∧ (xs.length = i ∨ ys.length = i)⟩
theorem sepB {a b z TI TO i1 i2 : Addr} (D : ZipApart z TI TO i1 i2 a b) : ZipSep2 z TI TO i1 i2 [i1, a] [i2, b] where
  TIz := D.TIz
  TOz := D.TOz
  TITO := D.TITO
  TIi1 := D.TIi1
  mem1 := by simp
  zf1 := by simp [D.i1z.symm, D.l1z.symm]
  Tf1 := by simp [D.TOi1, D.l1TO.symm]
  TIi2 := D.TIi2
  mem2 := by simp
  zf2 := by simp [D.i2z.symm, D.l2z.symm]
  Tf2 := by simp [D.TOi2, D.l2TO.symm]
  sep1_2 := by simp [D.i12, D.l2i1.symm]
  sep2_1 := by simp [D.i12.symm, D.l1i2.symm]
theorem turn_zipB {P : Program} {w : World} {K : PySem.W.Frag} {elts : List Expr} {kk : Nat} {tpos : Pos} (p q : Bool) {a b z TI TO i1 i2 : Addr} (D : ZipApart z TI TO i1 i2 a b) :
    Turn P w K (.Tuple elts kk tpos) (ItzB p q K a b) [z, TI, TO, i1, i2] z (fun i h => IsZip h z TI TO .none ∧ IsPair h TI (.ref i1) (.ref i2) ∧ (∃ x y, IsPair h TO x y) ∧ ItB p h i1 a i ∧ ItB q h i2 b i) where
  mem := by simp
  obj := fun i h st c hc => by
    obtain ⟨hz, hTI, ⟨x, y, hTO⟩, h1, h2⟩ := st
    have e' : c = z ∨ c = TI ∨ c = TO ∨ c = i1 ∨ c = i2 := by simpa using hc
    rcases e' with q | q | q | q | q
    · rw [q]; exact ⟨_, hz, fun v q => nomatch q⟩
    · rw [q]; exact ⟨_, hTI, fun v q => nomatch q⟩
    · rw [q]; exact ⟨_, hTO, fun v q => nomatch q⟩
    · rw [q]; exact h1.obj
    · rw [q]; exact h2.obj
  keep := fun i h h' st k => by
    obtain ⟨hz, hTI, ⟨x, y, hTO⟩, h1, h2⟩ := st
    exact ⟨k z (by simp) _ hz, k TI (by simp) _ hTI, ⟨x, y, k TO (by simp) _ hTO⟩, h1.at fun o q => k i1 (by simp) o q, h2.at fun o q => k i2 (by simp) o q⟩
  item := by
    intro X hP hw hK hc i pins s σ H E I hf st hg
    subst hP hw hK
    obtain ⟨hz, hTI, ⟨x0, y0, hTO⟩, h1, h2⟩ := st
    obtain ⟨xs, ys, x, y, hqx, hqy, hx, hy⟩ := hg
    obtain ⟨its, rv, p1⟩ := seqB I hqx
    obtain ⟨its2, rv2, p2⟩ := seqB I hqy
    obtain ⟨u, hu, ru⟩ := rv.get hx
    obtain ⟨u2, hu2, ru2⟩ := rv2.get hy
    have hzl : z < s.heap.objs.size := Heap.lt_size hz
    have hh : X.A.in1.handled = none := I.ok.hd hc
    have l1 : i < its.toArray.size := by
      have := (List.getElem?_eq_some_iff.mp hu).1
      simpa using this
    have l2 : i < its2.toArray.size := by
      have := (List.getElem?_eq_some_iff.mp hu2).1
      simpa using this
    refine wpAny_pyNext_zipD2_item (sepB D) (drawsB p hh i1 a D.l1i1 its.toArray) (drawsB q hh i2 b D.l2i2 its2.toArray) hz hTI hTO ⟨h1, p1⟩ ⟨h2, p2⟩ l1 l2 fun u' u2' h' tk e1 e2 z' TO' h1' h2' hT hsz hk => ?_
    have eu : u' = u := by
      rw [List.getElem?_toArray, hu] at e1
      exact (Option.some.inj e1).symm
    have eu2 : u2' = u2 := by
      rw [List.getElem?_toArray, hu2] at e2
      exact (Option.some.inj e2).symm
    subst eu eu2
    refine ⟨_, rfl, wpAny_letOwnedTupleGo_zip (s := { s with heap := h', toks := tk }) z' fun h'' z'' sb => ?_⟩
    have hT2 : h''.get? s.heap.objs.size = some { cls := .type "tuple", data := .seq #[u', u2'] } := (sb.2 _ (Nat.ne_of_gt hzl)).trans hT
    have new : ObjOk X.prog X.w (upd H s.heap.objs.size (.tup [x, y])) h'' s.heap.objs.size (.tup [x, y]) :=
      ⟨by show 2 ≤ sizeLine; decide, [u', u2'], .cons ru (.cons ru2 .nil), ⟨_, hT2, rfl, _, rfl⟩⟩
    have I1 : Inv X pins σ (upd H s.heap.objs.size (.tup [x, y])) { s with heap := h'', toks := tk } :=
      I.turnedNew (t' := tk) (ch := [z, TI, TO, i1, i2]) (fun c o hb q => (sb.2 c (fun q' => hb (by simp [q']))).trans (hk c o (fun q' => hb (by simp [q'])) (fun q' => hb (by simp [q'])) (fun q' => hb (by simp [q'])) (fun q' => hb (by simp [q'])) q)) hf (Nat.le_refl _) new
    refine ⟨.ref s.heap.objs.size, _, I1, rfl, ⟨_, x, y, rfl, I.hok.fresh (Nat.le_refl _), rfl, fun l hl => by rw [seqB_inj I hl hqx]; exact hx, fun l hl => by rw [seqB_inj I hl hqy]; exact hy⟩, ⟨z'', ?_, ⟨u', u2', ?_⟩, ?_, ?_⟩, fun c hcm => ?_⟩
    · exact (sb.2 _ D.TIz).trans (hk _ _ D.TIz D.TITO D.TIi1 D.TIi2 hTI)
    · exact (sb.2 _ D.TOz).trans TO'
    · exact h1'.1.at fun o q => (sb.2 _ D.i1z).trans q
    · exact h2'.1.at fun o q => (sb.2 _ D.i2z).trans q
    · have hlt : c < s.heap.objs.size := by
        have e' : c = z ∨ c = TI ∨ c = TO ∨ c = i1 ∨ c = i2 := by simpa using hcm
        rcases e' with q | q | q | q | q
        · rw [q]; exact hzl
        · rw [q]; exact Heap.lt_size hTI
        · rw [q]; exact Heap.lt_size hTO
        · rw [q]; obtain ⟨_, e1, _⟩ := h1.obj; exact Heap.lt_size e1
        · rw [q]; obtain ⟨_, e1, _⟩ := h2.obj; exact Heap.lt_size e1
      rw [upd_ne (Nat.ne_of_lt hlt)]
      exact (hf c hcm).1
  done := by
    intro X hP hw hK hc i pins s σ H E I hf st hg
    subst hP hw hK
    obtain ⟨hz, hTI, ⟨x0, y0, hTO⟩, h1, h2⟩ := st
    obtain ⟨xs, ys, hqx, hqy, le1, le2, hend⟩ := hg
    obtain ⟨its, rv, p1⟩ := seqB I hqx
    obtain ⟨its2, rv2, p2⟩ := seqB I hqy
    have l1 := rv.length
    have l2 := rv2.length
    have hh : X.A.in1.handled = none := I.ok.hd hc
    have s1 : its.toArray.size = its.length := by simp
    have s2 : its2.toArray.size = its2.length := by simp
    refine wpAny_pyNext_zipD2_end (sepB D) (drawsB p hh i1 a D.l1i1 its.toArray) (drawsB q hh i2 b D.l2i2 its2.toArray) hz hTI hTO ⟨h1, p1⟩ ⟨h2, p2⟩ (by rw [s1]; omega) (by rw [s2]; omega) (by rw [s1, s2]; omega) fun h' tk hk => ⟨rfl, I.turnedL (t' := tk) (ch := [z, TI, TO, i1, i2]) (fun c o hb q =>
      hk c o (fun q' => hb (by simp [q'])) (fun q' => hb (by simp [q'])) (fun q' => hb (by simp [q'])) (fun q' => hb (by simp [q'])) q) hf⟩
  self := fun A i s Q E st h => wpAny_pyIter_zip st.1 h
def iZipB (K : PySem.W.Frag) (ta : TA) : TI := fun σ H R => ta σ H fun vs H1 => ∃ p q a b xs ys, vs = [.ref a, .ref b] ∧ SqB p K H1 a xs ∧ SqB q K H1 b ys ∧ R (ItzB p q K a b) H1
theorem pi_zipB {X : Cx} {e e2 : Expr} {ta : TA} {p pos tpos : Pos} {elts : List Expr} {kk : Nat} (hg : Gl X "zip") (hm : X.mg "zip" = none) (ha : PA X [e, e2] ta)
    (hs : starEach [e, e2] X.env = (false, eval e X.env) :: starEach [e2] X.env := by rfl) (hpl : (backTo pos (starEach [e2] X.env)).any (·.1) = false := by rfl) :
    PI X (.Tuple elts kk tpos) (.Call (.Name "zip" p) [e, e2] [] pos) (iZipB X.K ta) := by
  refine ⟨fun pins s σ H R I h => ?_⟩
  refine Call_ (ld_blt I hg hm PyProof.Rows.boot_zip (PyProof.Rows.callWith_type1 (thn (ha.run pos pins s σ H _ I h) fun us s1 ⟨vs, H1, I1, r1, q1⟩ => ?_) hs hpl))
  obtain ⟨p, q, a, b, xs, ys, ex, hqx, hqy, g⟩ := q1
  subst ex
  cases r1 with
  | cons r rr =>
    cases rr with
    | cons r' rr =>
      cases rr
      cases r
      cases r'
      have fresh5 : ∀ c, c ∈ [s1.heap.objs.size + 4, s1.heap.objs.size + 2, s1.heap.objs.size + 3, s1.heap.objs.size, s1.heap.objs.size + 1] → FpOk X pins H1 c := fun c hcm => by
        have e' : c = s1.heap.objs.size + 4 ∨ c = s1.heap.objs.size + 2 ∨ c = s1.heap.objs.size + 3 ∨ c = s1.heap.objs.size ∨ c = s1.heap.objs.size + 1 := by simpa using hcm
        have hle : s1.heap.objs.size ≤ c := by
          rcases e' with z | z | z | z | z
          · rw [z]; exact Nat.le_add_right _ _
          · rw [z]; exact Nat.le_add_right _ _
          · rw [z]; exact Nat.le_add_right _ _
          · rw [z]; exact Nat.le_refl _
          · rw [z]; exact Nat.le_add_right _ _
        exact I1.fpOk hle (I1.hok.fresh hle)
      obtain ⟨its, rv, p1⟩ := seqB I1 hqx
      obtain ⟨its2, rv2, p2⟩ := seqB I1 hqy
      refine zip_begins2 (beginsB p a its.toArray) (beginsB q b its2.toArray) p1 p2 fun h' hz hTI hTO h1 h2 hsz hk => wpAny_pyIter_zip hz ?_
      have I2 : Inv X pins σ H1 { s1 with heap := h' } := I1.kept (t' := s1.toks) hk
      exact ⟨s1.heap.objs.size + 4, [s1.heap.objs.size + 4, s1.heap.objs.size + 2, s1.heap.objs.size + 3, s1.heap.objs.size, s1.heap.objs.size + 1], _, _, H1, rfl, I2, turn_zipB p q (PySem.W.ktu_apart s1.heap.objs.size a b p1.lt p2.lt), ⟨hz, hTI, ⟨_, _, hTO⟩, itB_of h1, itB_of h2⟩, fresh5, g⟩
end Vf
set_option maxRecDepth 100000
set_option maxHeartbeats 4000000
namespace Vf
open PySem PySem.Spec PyProof.Rows L2
/-- a comprehension over zip of two rows of any lengths -/
theorem lc_zipM {p q : Bool} {K : PySem.W.Frag} {a b : Addr} {xs ys : List V} {g : TG} {tt : TT} {te : TE} {vs : List Nat} {σ : L2.St} {H1 : Hp} {D : Addr} {Qd : Hp → Prop} (n : Nat) (hn : n = min xs.length ys.length) (Pv : Nat → Hp → Prop) (h0 : Pv 0 (upd H1 D (.lst [])))
    (hq : ∀ i H, Pv i H → SqB p K H a xs ∧ SqB q K H b ys)
    (hs : ∀ (i : Nat) (x y : V) (T : Addr) (H : Hp), i < n → xs[i]? = some x → ys[i]? = some y → Pv i H → H T = none → g (.ref T) (wipe σ vs) (upd H T (.tup [x, y])) fun σ2 H2 => wipe σ2 vs = wipe σ vs ∧ tt σ2 H2 fun b H3 =>
      if b = true then te σ2 H3 fun y H4 => ∃ acc, H4 D = some (.lst acc) ∧ acc.length < sizeLine ∧ Pv (i + 1) (upd H4 D (.lst (acc ++ [y]))) else Pv (i + 1) H3) (hd : ∀ H, Pv n H → Qd H) :
    ∃ W : Nat → Nat → Hp → Prop, (∃ m, W 0 m (upd H1 D (.lst []))) ∧ ∀ i m H, W i m H →
      (((ItzB p q K a b).stop i H ∧ Qd H) ∨ ((ItzB p q K a b).go i H ∧ ∃ Nx : Hp → Prop, (∀ H', Nx H' → ∃ m', m' < m ∧ W (i + 1) m' H') ∧ ∀ x H', (ItzB p q K a b).yld i H x H' → g x (wipe σ vs) H' fun σ2 H2 => wipe σ2 vs = wipe σ vs ∧ tt σ2 H2 fun b H3 =>
        if b = true then te σ2 H3 fun y H4 => ∃ acc, H4 D = some (.lst acc) ∧ acc.length < sizeLine ∧ Nx (upd H4 D (.lst (acc ++ [y]))) else Nx H3)) := by
  refine ⟨fun i m H => m = n - i ∧ i ≤ n ∧ Pv i H, ⟨n, by simp, Nat.zero_le _, h0⟩, ?_⟩
  rintro i m H ⟨rfl, hi, pv⟩
  obtain ⟨qx, qy⟩ := hq i H pv
  by_cases hlt : i < n
  · have h1 : i < xs.length := by omega
    have h2 : i < ys.length := by omega
    have hx : xs[i]? = some xs[i] := List.getElem?_eq_getElem h1
    have hy : ys[i]? = some ys[i] := List.getElem?_eq_getElem h2
    refine .inr ⟨⟨xs, ys, xs[i], ys[i], qx, qy, hx, hy⟩, Pv (i + 1), fun H' p' => ⟨n - (i + 1), by omega, rfl, hlt, p'⟩, fun v H' y => ?_⟩
    obtain ⟨T, x', y', e1, m, e2, h1, h2⟩ := y
    rw [e1, e2]
    exact hs i x' y' T H hlt (h1 xs qx) (h2 ys qy) pv m
  · have e : i = n := by omega
    subst e
    exact .inl ⟨⟨xs, ys, qx, qy, by omega, by omega, by omega⟩, hd H pv⟩
end Vf
set_option maxRecDepth 100000
set_option maxHeartbeats 4000000
set_option maxRecDepth 100000
namespace Vf
def ev : List Rat → Rat → Rat
  | [], _ => 0
  | a :: r, x => a + x * ev r x
theorem cf_cons (a : Rat) (r : List Rat) (i : Nat) : cf (a :: r) i = if i = 0 then a else cf r (i - 1) := by
  cases i with
  | zero => rfl
  | succ i => rfl
theorem sm_head (f : Nat → Rat) : ∀ n, sm f (n + 1) = f 0 + sm (fun i => f (i + 1)) n
  | 0 => by show 0 + f 0 = f 0 + 0; grind
  | n + 1 => by
    show sm f (n + 1) + f (n + 1) = f 0 + (sm (fun i => f (i + 1)) n + f (n + 1))
    rw [sm_head f n]; grind
theorem sm_mulr (f : Nat → Rat) (c : Rat) : ∀ n, sm (fun i => f i * c) n = sm f n * c
  | 0 => by show (0 : Rat) = 0 * c; grind
  | n + 1 => by
    show sm (fun i => f i * c) n + f n * c = (sm f n + f n) * c
    rw [sm_mulr f c n]; grind
theorem sm_mull (f : Nat → Rat) (c : Rat) : ∀ n, sm (fun i => c * f i) n = c * sm f n
  | 0 => by show (0 : Rat) = c * 0; grind
  | n + 1 => by
    show sm (fun i => c * f i) n + c * f n = c * (sm f n + f n)
    rw [sm_mull f c n]; grind
theorem sm_addd (f g : Nat → Rat) : ∀ n, sm (fun i => f i + g i) n = sm f n + sm g n
  | 0 => by show (0 : Rat) = 0 + 0; grind
  | n + 1 => by
    show sm (fun i => f i + g i) n + (f n + g n) = (sm f n + f n) + (sm g n + g n)
    rw [sm_addd f g n]; grind
theorem ev_sm (x : Rat) : ∀ (l : List Rat) (n : Nat), l.length ≤ n → ev l x = sm (fun i => cf l i * x ^ i) n
  | [], n, _ => by
    show (0 : Rat) = _
    rw [sm_zero fun i _ => by rw [cf_nil]; grind]
  | a :: r, 0, h => by simp at h
  | a :: r, n + 1, h => by
    rw [sm_head]
    show a + x * ev r x = cf (a :: r) 0 * x ^ 0 + sm (fun i => cf (a :: r) (i + 1) * x ^ (i + 1)) n
    rw [ev_sm x r n (by simpa using h), ← sm_mull]
    have e : sm (fun i => x * (cf r i * x ^ i)) n = sm (fun i => cf (a :: r) (i + 1) * x ^ (i + 1)) n := sm_ext fun i _ => by
      rw [show cf (a :: r) (i + 1) = cf r i from rfl, Rat.pow_succ]; grind
    rw [e, show cf (a :: r) 0 = a from rfl, Rat.pow_zero]; grind
theorem ev_ext {a b : List Rat} (h : ∀ i, cf a i = cf b i) (x : Rat) : ev a x = ev b x := by
  rw [ev_sm x a (max a.length b.length) (by omega), ev_sm x b (max a.length b.length) (by omega)]
  exact sm_ext fun i _ => by rw [h]
theorem ev_stripQ (l : List Rat) (x : Rat) : ev (stripQ l) x = ev l x := ev_ext (cf_stripQ l) x
theorem ev_padd (a b : List Rat) (x : Rat) : ev (padd a b) x = ev a x + ev b x := by
  have l : (padd a b).length = max a.length b.length := by unfold padd; rw [tab_len]
  rw [ev_sm x a (max a.length b.length) (by omega), ev_sm x b (max a.length b.length) (by omega), ev_sm x _ (max a.length b.length) (by omega), ← sm_addd]
  exact sm_ext fun i _ => by rw [cf_padd]; grind
theorem ev_pscale (a : List Rat) (c x : Rat) : ev (pscale a c) x = ev a x * c := by
  have l : (pscale a c).length = a.length := by unfold pscale; rw [List.length_map]
  rw [ev_sm x a a.length (by omega), ev_sm x _ a.length (by omega), ← sm_mulr]
  exact sm_ext fun i _ => by rw [show cf (pscale a c) i = cf a i * c from cf_map (f := (· * c)) (Rat.zero_mul c) a i]; grind
theorem pc_cons (a : Rat) (r b : List Rat) (k : Nat) : pc (a :: r) b k = a * cf b k + if k = 0 then 0 else pc r b (k - 1) := by
  unfold pc
  rw [sm_head]
  show cf (a :: r) 0 * cf b (k - 0) + sm (fun i => cf (a :: r) (i + 1) * cf b (k - (i + 1))) k = _
  rw [show cf (a :: r) 0 = a from rfl, Nat.sub_zero]
  congr 1
  split
  · next h => rw [h]; rfl
  · next h =>
    rw [show k - 1 + 1 = k by omega]
    exact sm_ext fun i hi => by rw [show cf (a :: r) (i + 1) = cf r i from rfl, show k - (i + 1) = k - 1 - i by omega]
theorem ev_pc (x : Rat) (b : List Rat) : ∀ (a : List Rat) (n : Nat), a.length + b.length ≤ n + 1 → sm (fun k => pc a b k * x ^ k) n = ev a x * ev b x
  | [], n, h => by
    rw [sm_zero fun k _ => by rw [show pc [] b k = 0 from by unfold pc; exact sm_zero fun i _ => by rw [cf_nil]; grind]; grind]
    show (0 : Rat) = 0 * _
    grind
  | a :: r, n, h => by
    have h' : r.length + b.length ≤ n := by simp at h; omega
    show _ = (a + x * ev r x) * ev b x
    have e1 : sm (fun k => pc (a :: r) b k * x ^ k) n = sm (fun k => a * (cf b k * x ^ k)) n + sm (fun k => (if k = 0 then 0 else pc r b (k - 1)) * x ^ k) n := by
      rw [← sm_addd]
      exact sm_ext fun k _ => by rw [pc_cons]; grind
    rw [e1, sm_mull, ← ev_sm x b n (by omega)]
    cases n with
    | zero =>
      have hb : b = [] := List.length_eq_zero_iff.mp (by omega)
      subst hb
      show a * 0 + 0 = (a + x * ev r x) * 0
      grind
    | succ n =>
      rw [sm_head]
      have e2 : sm (fun i => (if i + 1 = 0 then 0 else pc r b (i + 1 - 1)) * x ^ (i + 1)) n = x * sm (fun k => pc r b k * x ^ k) n := by
        rw [← sm_mull]
        exact sm_ext fun i _ => by rw [if_neg (by omega), Nat.add_sub_cancel, Rat.pow_succ]; grind
      rw [e2, ev_pc x b r n (by omega)]
      grind
theorem ev_pmul (a b : List Rat) (x : Rat) : ev (pmul a b) x = ev a x * ev b x := by
  by_cases h : a.length + b.length = 0
  · have ha : a = [] := List.length_eq_zero_iff.mp (by omega)
    have hb : b = [] := List.length_eq_zero_iff.mp (by omega)
    subst ha; subst hb
    show (0 : Rat) = 0 * 0
    grind
  · have l : (pmul a b).length = a.length + b.length - 1 := by unfold pmul; rw [tab_len]
    rw [ev_sm x (pmul a b) (a.length + b.length - 1) (by omega), ← ev_pc x b a (a.length + b.length - 1) (by omega)]
    exact sm_ext fun i _ => by rw [cf_pmul]
def absR (x : Rat) : Rat := if x < 0 then -x else x
theorem absR_nn (x : Rat) : 0 ≤ absR x := by unfold absR; split <;> grind
theorem absR_add (x y : Rat) : absR (x + y) ≤ absR x + absR y := by unfold absR; split <;> split <;> split <;> grind
theorem mul_nn {a b : Rat} (h : 0 ≤ a) (h2 : 0 ≤ b) : 0 ≤ a * b := Rat.mul_nonneg h h2
theorem absR_self (x : Rat) : x ≤ absR x ∧ -x ≤ absR x := by unfold absR; split <;> constructor <;> grind
theorem absR_mul_le {x y z : Rat} (hx : absR x ≤ z) : absR (x * y) ≤ z * absR y := by
  have h0 := absR_nn y
  have h1 := absR_self x
  unfold absR at h0 ⊢
  split at h0 <;> split <;> rename_i h2 h3 <;> (have := mul_nn (show 0 ≤ z + x by grind) h0; have := mul_nn (show 0 ≤ z - x by grind) h0; grind)
def tot : List Rat → Rat
  | [] => 0
  | a :: r => absR a + tot r
theorem tot_nn : ∀ l : List Rat, 0 ≤ tot l
  | [] => by decide
  | a :: r => by have := absR_nn a; have := tot_nn r; show 0 ≤ absR a + tot r; grind
theorem ev_small {x : Rat} (hx : absR x ≤ 1) : ∀ l : List Rat, absR (ev l x) ≤ tot l
  | [] => by show absR 0 ≤ 0; decide
  | a :: r => by
    have h1 := absR_add a (x * ev r x)
    have h2 := absR_mul_le (y := ev r x) hx
    have h3 := ev_small hx r
    show absR (a + x * ev r x) ≤ absR a + tot r
    grind
theorem ev_zero : ∀ (l : List Rat), (∀ x, x ≠ 0 → ev l x = 0) → ∀ i, cf l i = 0
  | [], _, i => cf_nil i
  | a :: r, h, i => by
    have ha : a = 0 := by
      refine Decidable.byContradiction fun na => ?_
      have t0 := tot_nn r
      have a0 := absR_nn a
      have ap : 0 < absR a := by
        have := absR_self a
        grind
      -- x = |a| / (|a| + tot + 1)
      have dp : 0 < absR a + tot r + 1 := by grind
      have dne : absR a + tot r + 1 ≠ 0 := by grind
      have xe : absR a / (absR a + tot r + 1) * (absR a + tot r + 1) = absR a := by grind
      generalize absR a / (absR a + tot r + 1) = x at xe
      have xp : 0 < x := by
        refine Decidable.byContradiction fun n => ?_
        have : 0 ≤ -x * (absR a + tot r + 1) := mul_nn (by grind) (by grind)
        grind
      have x1 : x ≤ 1 := by
        refine Decidable.byContradiction fun n => ?_
        have : 0 ≤ (x - 1) * (absR a + tot r + 1) := mul_nn (by grind) (by grind)
        grind
      have xa : absR x = x := by unfold absR; rw [if_neg (by grind)]
      have e := h x (by grind)
      have s := ev_small (x := x) (by rw [xa]; exact x1) r
      have e' : a = -(x * ev r x) := by have : a + x * ev r x = 0 := e; grind
      have m := absR_mul_le (x := x) (y := ev r x) (z := x) (by rw [xa]; grind)
      have n1 : absR a = absR (x * ev r x) := by rw [e']; unfold absR; split <;> split <;> grind
      have q : 0 ≤ x * (tot r - absR (ev r x)) := mul_nn (by grind) (by grind)
      have q2 : 0 ≤ x * absR a := mul_nn (by grind) a0
      grind
    subst ha
    have hr : ∀ i, cf r i = 0 := ev_zero r fun x hx => by
      have e : 0 + x * ev r x = 0 := h x hx
      have e2 : x * ev r x = 0 := by grind
      grind
    rw [cf_cons]
    split
    · rfl
    · exact hr _
theorem ev_inj {a b : List Rat} (h : ∀ x, x ≠ 0 → ev a x = ev b x) (i : Nat) : cf a i = cf b i := by
  have z := ev_zero (padd a (pscale b (-1))) (fun x hx => by rw [ev_padd, ev_pscale, h x hx]; grind) i
  rw [cf_padd, show cf (pscale b (-1)) i = cf b i * (-1) from cf_map (f := (· * (-1))) (Rat.zero_mul _) b i] at z
  grind
end Vf
set_option maxRecDepth 100000
namespace Vf
def ch : Nat → Nat → Nat
  | _, 0 => 1
  | 0, _ + 1 => 0
  | n + 1, k + 1 => ch n k + ch n (k + 1)
/-- the next of a row -/
def nx (b : Nat → Rat) : Nat → Rat := fun i => b (i + 1)
/-- the value of a row of corners, by the parts u and d -/
def bn : Nat → (Nat → Rat) → Rat → Rat → Rat
  | 0, b, _, _ => b 0
  | n + 1, b, u, d => d * bn n b u d + u * bn n (nx b) u d
def dl (b : Nat → Rat) : Nat → Nat → Rat
  | 0, m => b m
  | k + 1, m => dl b k (m + 1) - dl b k m
def df (b : Nat → Rat) : Nat → Rat := fun i => b (i + 1) - b i
end Vf
set_option maxRecDepth 100000
namespace Vf
def qi (l : List Int) : List Rat := l.map (fun n : Int => (n : Rat))
theorem qi_len (l : List Int) : (qi l).length = l.length := List.length_map ..
theorem cf_qi (l : List Int) (i : Nat) : cf (qi l) i = ((ci l i : Int) : Rat) := by
  unfold qi cf ci
  rw [List.getD_eq_getElem?_getD, List.getD_eq_getElem?_getD, List.getElem?_map]
  cases l[i]? <;> rfl
def hz (s : Int) : List Int → Int
  | [] => 0
  | a :: r => a + s * hz s r
def Bd (R N : Nat) : List Int → Prop
  | [] => True
  | a :: r => a.natAbs ≤ N * R ^ r.length ∧ Bd R N r
theorem Bd.of {R N : Nat} (hR : 0 < R) : ∀ {l : List Int}, (∀ i, (ci l i).natAbs ≤ N) → Bd R N l
  | [], _ => trivial
  | a :: r, h => ⟨Nat.le_trans (h 0) (Nat.le_mul_of_pos_right _ (Nat.pow_pos hR)), Bd.of hR fun i => h (i + 1)⟩
theorem Bd.le {R N N' : Nat} (hN : N ≤ N') : ∀ {l : List Int}, Bd R N l → Bd R N' l
  | [], _ => trivial
  | a :: r, h => ⟨Nat.le_trans h.1 (Nat.mul_le_mul_right _ hN), Bd.le hN h.2⟩
theorem Bd.at {R N : Nat} (hR : 0 < R) : ∀ {l : List Int}, Bd R N l → ∀ i, (ci l i).natAbs ≤ N * R ^ l.length
  | [], _, i => by show 0 ≤ _; omega
  | a :: r, h, 0 => Nat.le_trans h.1 (Nat.mul_le_mul_left _ (Nat.pow_le_pow_right hR (Nat.le_succ _)))
  | a :: r, h, i + 1 => Nat.le_trans (Bd.at hR h.2 i) (Nat.mul_le_mul_left _ (Nat.pow_le_pow_right hR (Nat.le_succ _)))
theorem Bd.app {R N : Nat} : ∀ {a b : List Int}, Bd R N (a ++ b) → ∀ {c : List Int}, c.length = b.length → ∀ {N' : Nat}, N ≤ N' → Bd R N' c → Bd R N' (a ++ c)
  | [], b, h, c, e, N', hN, hc => hc
  | x :: a, b, h, c, e, N', hN, hc => ⟨by
      have h1 : x.natAbs ≤ N * R ^ (a ++ b).length := h.1
      rw [List.length_append] at h1
      show x.natAbs ≤ N' * R ^ (a ++ c).length
      rw [List.length_append, e]
      exact Nat.le_trans h1 (Nat.mul_le_mul_right _ hN), Bd.app (a := a) (b := b) h.2 e hN hc⟩
theorem Bd.drop {R N : Nat} : ∀ {l : List Int} (k : Nat), Bd R N l → Bd R N (l.drop k)
  | [], k, _ => by rw [List.drop_nil]; trivial
  | a :: r, 0, h => h
  | a :: r, k + 1, h => Bd.drop (l := r) k h.2
def acc : Nat → (Nat → Int) → Nat → Int
  | 0, f => f
  | m + 1, f => fun j => if j < m + 1 then acc m f j else acc m f j + acc m f (j - 1)
end Vf
set_option maxRecDepth 100000
set_option maxHeartbeats 8000000
namespace Vf
open PySem PySem.Spec PyProof.Rows L2
theorem Fr.den {M N : Nat} {r : Rat} (h : Fr M N r) : r.den ∣ M := by
  obtain ⟨n, e, _⟩ := h
  have h1 : r.num * (M : Int) = n * (r.den : Int) := by
    have e1 := num_den r
    have : ((r.num * (M : Int) : Int) : Rat) = ((n * (r.den : Int) : Int) : Rat) := by
      rw [Rat.intCast_mul, Rat.intCast_mul, ← e, ← e1]
      show r * (r.den : Rat) * (M : Rat) = r * (M : Rat) * (r.den : Rat)
      grind
    exact_mod_cast this
  have h2 : (r.den : Int) ∣ r.num * (M : Int) := ⟨n, by rw [h1, Int.mul_comm]⟩
  have h3 : r.den ∣ r.num.natAbs * M := by
    have := Int.natAbs_dvd_natAbs.mpr h2
    rw [Int.natAbs_natCast, Int.natAbs_mul, Int.natAbs_natCast] at this
    exact this
  exact Nat.Coprime.dvd_of_dvd_mul_left r.reduced.symm h3
theorem Fr.over {M N b : Nat} {q : Rat} {z : Int} (h : Fr M N q) (hb : b ∣ M) (hM : 0 < M) (e : q * (b : Rat) = (z : Rat)) : z.natAbs ≤ N := by
  obtain ⟨n, e2, hn⟩ := h
  obtain ⟨k, rfl⟩ := hb
  have : ((z * (k : Int) : Int) : Rat) = ((n : Int) : Rat) := by
    rw [Rat.intCast_mul, ← e, ← e2, Rat.natCast_mul]
    show q * (b : Rat) * (k : Rat) = q * ((b : Rat) * (k : Rat))
    grind
  have h1 : z * (k : Int) = n := by exact_mod_cast this
  have k0 : 0 < k := Nat.pos_of_mul_pos_left hM
  have h2 : n.natAbs = z.natAbs * k := by rw [← h1, Int.natAbs_mul, Int.natAbs_natCast]
  have := Nat.le_mul_of_pos_right z.natAbs k0
  omega
def spOver2 (K : PySem.W.Frag) : Sp := fun vs H Q _ => ∃ (l : Addr) (a : List Rat) (M N : Nat), vs = [.ref l] ∧ RS K H l a ∧ a.length ≤ 100 ∧ (∀ i, Fr M N (cf a i)) ∧ 0 < M ∧ M < 2 ^ 8700 ∧ N < 2 ^ 8700 ∧
  ∀ (t l' : Addr) (b : Nat) (ns : List Int) (H' : Hp), Same H H' → H' t = some (.tup [.ref l', .int (b : Int)]) → RI H' l' ns → 0 < b → b ≤ M → ns.length = a.length → (∀ i, cf a i * (b : Rat) = ((ci ns i : Int) : Rat)) → (∀ i, (ci ns i).natAbs ≤ N) → Q (.ref t) H'
section
variable {P : Program} {w : World} {K : PySem.W.Frag} {mg : Str → Option Value} {base : Heap} {CP CR CN CI : Addr}
abbrev sOver2 : Stmt := topS 34
theorem scOver2 : FnScope ["numbers", "below", "number", "top", "bottom"] ["numbers"] (defScope sOver2) := ⟨rfl, rfl, rfl, by decide +kernel, rfl, by decide +kernel, by decide +kernel⟩
theorem ok_over2 {f : Addr} {fd : FuncData} (F : Fun K "over_one_bottom" "over_one_bottom" sOver2 f fd) (hlcm : mg "lcm" = some (.builtin "math.lcm")) : FnOk P w K mg base CX0 1 f fd ["numbers"] (spOver2 K) := by
  refine F.ok scOver2 (fun vs H Q E h => ?_) (fun cdv A outer s H vs Q E hr h => ?_)
  · obtain ⟨l, a, M, N, rfl, _⟩ := h
    rfl
  · obtain ⟨l, a, M, N, rfl, ⟨as, hS, t1⟩, la, hF, hM, hM2, hN2, q⟩ := h
    refine ⟨_, (pss_cons (ps_set (i := 1) scOver2.nd rfl (Or.inr rfl) pe_int)
  (pss_cons (ps_for PassesOwn.never rfl (pi_seq (pv 0)) (pg_name (i := 2) scOver2.nd rfl (Or.inl rfl))
    (pss_one (ps_set (i := 1) scOver2.nd rfl (Or.inr rfl) (pe_callBfun cr_lcm (by rfl) hlcm (pa_cons (pv 1) (pa_cons (pe_ix ix_tup (pv 2) pe_int (fun _ _ => rfl)) pa_nil))))))
  (pss_one (ps_ret (pe_tup (pa_cons (pe_lc (own := [("top", 3), ("bottom", 4)]) (g := (gTup K 2 (gCons (gName 3) (gCons (gName 4) gNil)))) (tt := tYes) rfl scOver2.nd (pi_seq (pv 0)) (blkOk_by (N := ["numbers", "below", "number", "top", "bottom"]) (sc := defScope sOver2) (by decide +kernel)) (fun _ _ _ _ _ => pg_tup rfl (pgs_cons (pg_name (i := 3) scOver2.nd rfl (Or.inl rfl)) (pgs_cons (pg_name (i := 4) scOver2.nd rfl (Or.inl rfl)) pgs_nil))) (fun _ _ _ _ _ => pts_nil) (fun _ _ _ _ _ => (pe_op op_mulW (pv 3) (pe_op op_fdivW (pv 1) (pv 4))))) (pa_cons (pv 1) pa_nil))))))), ?_⟩
    have n1 := t1.lenQ
    have lm : (as.map V.ref).length = a.length := by rw [List.length_map, n1]
    have dM : ∀ i, (cf a i).den ∣ M := fun i => (hF i).den
    have hSS := hS
    let Pv : Nat → L2.St → Hp → Prop := fun i σ H' => ∃ (b : Nat) (v : Option V), σ = [some (.ref l), some (.int (b : Int)), v, none, none] ∧ Same H H' ∧ 0 < b ∧ b ∣ M ∧ ∀ j, j < i → (cf a j).den ∣ b
    refine ⟨_, rfl, l, rfl, ?_⟩
    have h0 : Pv 0 [some (.ref l), some (.int ((1 : Nat) : Int)), none, none, none] H := ⟨1, none, rfl, Same.refl _, by decide, Nat.one_dvd _, fun j hj => by omega⟩
    rcases hS with hS | hS
    · refine .inl ⟨_, hS, for_list (K := K) (a := l) (xs := as.map V.ref) Pv h0 (fun i σ H' _ ⟨_, _, _, ss, _⟩ => same_sqL ss hS) ?_ ?_⟩
      · rintro i x σ H' hi ⟨b, v, rfl, ss, b0, bi, dv⟩
        rw [List.getElem?_map] at hi
        cases hr0 : as[i]? with
        | none => rw [hr0] at hi; cases hi
        | some r =>
          rw [hr0] at hi
          cases hi
          obtain ⟨qq, hq1, hq2⟩ := t1.atQ hr0
          have hc := cf_get hq1
          have bM := Nat.le_of_dvd hM bi
          have hd : qq.den ≤ M := by rw [← hc]; exact Nat.le_of_dvd hM (dM i)
          have hd0 := qq.den_pos
          have up : ∀ {z : Nat}, z ≤ M → z < 2 ^ 8800 := fun h => Nat.lt_of_le_of_lt h (Nat.lt_trans hM2 (Nat.pow_lt_pow_right (by decide) (by decide)))
          refine ⟨_, rfl, _, rfl, r, _, _, .int (qq.den : Int), rfl, rfl, SqT.of (ss _ _ hq2), at_of (j := 1) rfl rfl, _, _, rfl, by rw [Int.natAbs_natCast]; exact up bM, by rw [Int.natAbs_natCast]; exact up hd, ?_⟩
          rw [Int.natAbs_natCast, Int.natAbs_natCast]
          refine ⟨b.lcm qq.den, _, rfl, ss, Nat.lcm_pos b0 hd0, Nat.lcm_dvd bi (by rw [← hc]; exact dM i), fun j hj => ?_⟩
          by_cases e : j = i
          · rw [e, hc]
            exact Nat.dvd_lcm_right _ _
          · exact Nat.dvd_trans (dv j (by omega)) (Nat.dvd_lcm_left _ _)
      · rintro σ H' ⟨b, v, rfl, ss, b0, bi, dv⟩
        rw [lm] at dv
        have bM := Nat.le_of_dvd hM bi
        have t1' := t1.same ss
        let g : Nat → Int := fun i => (cf a i).num * ((b : Int) / ((cf a i).den : Int))
        refine ⟨_, rfl, l, rfl, lc_seq (xs := as.map V.ref) (hSS.imp (same_sqL ss) (same_sqT ss)) (fun D i H2 => Same H' H2 ∧ H2 D = some (.lst ((tabI i g).map V.int))) ?_ ?_ ?_ ?_⟩
        · intro D hD
          exact ⟨same_upd hD, upd_same⟩
        · intro D i H2 hD ⟨s2, _⟩
          exact ⟨same_sqL s2, same_sqT s2⟩
        · intro D i x H2 hD hi ⟨s2, eD⟩
          rw [List.getElem?_map] at hi
          cases hr0 : as[i]? with
          | none => rw [hr0] at hi; cases hi
          | some r =>
            rw [hr0] at hi
            cases hi
            obtain ⟨qq, hq1, hq2⟩ := t1'.atQ hr0
            have hc := cf_get hq1
            have hi13 := (List.getElem?_eq_some_iff.mp hr0).1
            have h1 : (qq.num).natAbs < 2 ^ 8700 := by
              have := ((hF i).size hM).1
              rw [hc] at this
              exact Nat.lt_of_le_of_lt this hN2
            have h2 : ((b : Int) / (qq.den : Int)).natAbs < 2 ^ 8700 := by
              rw [← Int.natCast_ediv, Int.natAbs_natCast]
              exact Nat.lt_of_le_of_lt (Nat.le_trans (Nat.div_le_self _ _) bM) hM2
            refine ⟨r, _, rfl, SqT.of (s2 _ _ hq2), rfl, _, _, rfl, _, _, rfl, rfl, rfl, ?_⟩
            refine ⟨_, rfl, _, rfl, _, rfl, _, _, rfl, rfl, ?_, _, _, rfl, rfl, big_mulW h1 h2, ?_⟩
            · have := qq.den_pos
              refine ⟨by omega, ?_⟩
              rw [Int.natAbs_natCast]
              have h3 : qq.den < 2 ^ 8800 := Nat.lt_of_le_of_lt (show qq.den ≤ M by rw [← hc]; exact Nat.le_of_dvd hM (dM i)) (Nat.lt_trans hM2 (Nat.pow_lt_pow_right (by decide) (by decide)))
              exact Nat.lt_trans (log_4000 h3) (by decide)
            · refine ⟨_, eD, ?_, (fun b' o' e' => ?_), ?_⟩
              · rw [List.length_map, tabI_len, sizeLine_eq]
                omega
              · rw [upd_ne (ne_of_none e' hD)]
                exact s2 _ _ e'
              · rw [upd_same, tabI_snoc, List.map_append]
                show _ = some (HO.lst (_ ++ [V.int (g i)]))
                simp only [g, hc]
        · intro D H2 hD ⟨s2, eD⟩
          rw [lm] at eD
          refine ⟨_, rfl, (by show 2 ≤ sizeLine; decide), fun r nr => ?_⟩
          have s3 : Same H2 (upd H2 r (HO.tup [V.ref D, V.int (b : Int)])) := same_upd nr
          have ee : ∀ i, cf a i * (b : Rat) = ((ci (tabI a.length g) i : Int) : Rat) := fun i => by
            rw [ci_tab]
            by_cases hi : i < a.length
            · rw [if_pos hi]
              exact over_one (dv i hi)
            · rw [if_neg hi, cf_ge (by omega), Rat.zero_mul]
              rfl
          exact q r D b _ _ ((ss.trans s2).trans s3) upd_same (s3 _ _ eD) b0 bM (tabI_len _ _) ee fun i => (hF i).over bi hM (ee i)
    · refine .inr ⟨_, hS, for_tup (K := K) (a := l) (xs := as.map V.ref) Pv h0 (fun i σ H' _ ⟨_, _, _, ss, _⟩ => same_sqT ss hS) ?_ ?_⟩
      · rintro i x σ H' hi ⟨b, v, rfl, ss, b0, bi, dv⟩
        rw [List.getElem?_map] at hi
        cases hr0 : as[i]? with
        | none => rw [hr0] at hi; cases hi
        | some r =>
          rw [hr0] at hi
          cases hi
          obtain ⟨qq, hq1, hq2⟩ := t1.atQ hr0
          have hc := cf_get hq1
          have bM := Nat.le_of_dvd hM bi
          have hd : qq.den ≤ M := by rw [← hc]; exact Nat.le_of_dvd hM (dM i)
          have hd0 := qq.den_pos
          have up : ∀ {z : Nat}, z ≤ M → z < 2 ^ 8800 := fun h => Nat.lt_of_le_of_lt h (Nat.lt_trans hM2 (Nat.pow_lt_pow_right (by decide) (by decide)))
          refine ⟨_, rfl, _, rfl, r, _, _, .int (qq.den : Int), rfl, rfl, SqT.of (ss _ _ hq2), at_of (j := 1) rfl rfl, _, _, rfl, by rw [Int.natAbs_natCast]; exact up bM, by rw [Int.natAbs_natCast]; exact up hd, ?_⟩
          rw [Int.natAbs_natCast, Int.natAbs_natCast]
          refine ⟨b.lcm qq.den, _, rfl, ss, Nat.lcm_pos b0 hd0, Nat.lcm_dvd bi (by rw [← hc]; exact dM i), fun j hj => ?_⟩
          by_cases e : j = i
          · rw [e, hc]
            exact Nat.dvd_lcm_right _ _
          · exact Nat.dvd_trans (dv j (by omega)) (Nat.dvd_lcm_left _ _)
      · rintro σ H' ⟨b, v, rfl, ss, b0, bi, dv⟩
        rw [lm] at dv
        have bM := Nat.le_of_dvd hM bi
        have t1' := t1.same ss
        let g : Nat → Int := fun i => (cf a i).num * ((b : Int) / ((cf a i).den : Int))
        refine ⟨_, rfl, l, rfl, lc_seq (xs := as.map V.ref) (hSS.imp (same_sqL ss) (same_sqT ss)) (fun D i H2 => Same H' H2 ∧ H2 D = some (.lst ((tabI i g).map V.int))) ?_ ?_ ?_ ?_⟩
        · intro D hD
          exact ⟨same_upd hD, upd_same⟩
        · intro D i H2 hD ⟨s2, _⟩
          exact ⟨same_sqL s2, same_sqT s2⟩
        · intro D i x H2 hD hi ⟨s2, eD⟩
          rw [List.getElem?_map] at hi
          cases hr0 : as[i]? with
          | none => rw [hr0] at hi; cases hi
          | some r =>
            rw [hr0] at hi
            cases hi
            obtain ⟨qq, hq1, hq2⟩ := t1'.atQ hr0
            have hc := cf_get hq1
            have hi13 := (List.getElem?_eq_some_iff.mp hr0).1
            have h1 : (qq.num).natAbs < 2 ^ 8700 := by
              have := ((hF i).size hM).1
              rw [hc] at this
              exact Nat.lt_of_le_of_lt this hN2
            have h2 : ((b : Int) / (qq.den : Int)).natAbs < 2 ^ 8700 := by
              rw [← Int.natCast_ediv, Int.natAbs_natCast]
              exact Nat.lt_of_le_of_lt (Nat.le_trans (Nat.div_le_self _ _) bM) hM2
            refine ⟨r, _, rfl, SqT.of (s2 _ _ hq2), rfl, _, _, rfl, _, _, rfl, rfl, rfl, ?_⟩
            refine ⟨_, rfl, _, rfl, _, rfl, _, _, rfl, rfl, ?_, _, _, rfl, rfl, big_mulW h1 h2, ?_⟩
            · have := qq.den_pos
              refine ⟨by omega, ?_⟩
              rw [Int.natAbs_natCast]
              have h3 : qq.den < 2 ^ 8800 := Nat.lt_of_le_of_lt (show qq.den ≤ M by rw [← hc]; exact Nat.le_of_dvd hM (dM i)) (Nat.lt_trans hM2 (Nat.pow_lt_pow_right (by decide) (by decide)))
              exact Nat.lt_trans (log_4000 h3) (by decide)
            · refine ⟨_, eD, ?_, (fun b' o' e' => ?_), ?_⟩
              · rw [List.length_map, tabI_len, sizeLine_eq]
                omega
              · rw [upd_ne (ne_of_none e' hD)]
                exact s2 _ _ e'
              · rw [upd_same, tabI_snoc, List.map_append]
                show _ = some (HO.lst (_ ++ [V.int (g i)]))
                simp only [g, hc]
        · intro D H2 hD ⟨s2, eD⟩
          rw [lm] at eD
          refine ⟨_, rfl, (by show 2 ≤ sizeLine; decide), fun r nr => ?_⟩
          have s3 : Same H2 (upd H2 r (HO.tup [V.ref D, V.int (b : Int)])) := same_upd nr
          have ee : ∀ i, cf a i * (b : Rat) = ((ci (tabI a.length g) i : Int) : Rat) := fun i => by
            rw [ci_tab]
            by_cases hi : i < a.length
            · rw [if_pos hi]
              exact over_one (dv i hi)
            · rw [if_neg hi, cf_ge (by omega), Rat.zero_mul]
              rfl
          exact q r D b _ _ ((ss.trans s2).trans s3) upd_same (s3 _ _ eD) b0 bM (tabI_len _ _) ee fun i => (hF i).over bi hM (ee i)
end
end Vf
set_option maxRecDepth 100000
set_option maxHeartbeats 8000000
namespace Vf
open PySem PySem.Spec PyProof.Rows L2
/-- an operand: a Poly, or a ratio in any terms -/
def Opd (K : PySem.W.Frag) (CP : Addr) (H : Hp) (v : V) (B : List Rat) : Prop := (∃ b, v = .ref b ∧ PolyQ K CP H b B) ∨ (∃ (d : PyData) (p : Int × Int) (q : Rat), Dt K H v d ∧ partsD d = some p ∧ lowP p = pq q ∧ p.2.natAbs < 2 ^ big ∧ B = stripQ [q])
def spAsP (K : PySem.W.Frag) (CP : Addr) : Sp := fun vs H Q _ => ∃ (v : V) (B : List Rat), vs = [v] ∧ Opd K CP H v B ∧ ∀ (x : Addr) (H' : Hp), Same H H' → PolyQ K CP H' x B → Q (.ref x) H'
def spSubW (K : PySem.W.Frag) (CP : Addr) : Sp := fun vs H Q _ => ∃ (a : Addr) (v : V) (A B : List Rat), vs = [.ref a, v] ∧ PolyQ K CP H a A ∧ Opd K CP H v B ∧ A.length ≤ 13 ∧ B.length ≤ 13 ∧ (∀ i, Sr (cf A i)) ∧ (∀ i, Sr (cf B i)) ∧
  ∀ (x : Addr) (H' : Hp), Same H H' → PolyQ K CP H' x (stripQ (padd A (B.map (- ·)))) → Q (.ref x) H'
def spMulW (K : PySem.W.Frag) (CP : Addr) : Sp := fun vs H Q _ => ∃ (a : Addr) (v : V) (A B : List Rat) (M N M' N' : Nat), vs = [.ref a, v] ∧ PolyQ K CP H a A ∧ Opd K CP H v B ∧ A.length ≤ 13 ∧ B.length ≤ 13 ∧ (∀ i, Fr M N (cf A i)) ∧ (∀ i, Fr M' N' (cf B i)) ∧ 0 < M ∧ 0 < M' ∧ M < 2 ^ 8700 ∧ N < 2 ^ 8700 ∧ M' < 2 ^ 8700 ∧ N' < 2 ^ 8700 ∧ M * M' < 2 ^ big ∧
  ∀ (x : Addr) (H' : Hp), Same H H' → PolyQ K CP H' x (stripQ (pmul A B)) → Q (.ref x) H'
theorem sr_z2 {q : Rat} (h : Sr q) : Z2 q := ⟨h.1, by show (q.den : Int).natAbs < _; rw [Int.natAbs_natCast]; exact h.2⟩
theorem sr_negW {q : Rat} (h : Sr q) : Sr (-q) := by
  unfold Sr
  rw [Rat.neg_num, Rat.neg_den, Int.natAbs_neg]
  exact h
theorem den_addW {a b : Rat} (ha : Sr a) (hb : Sr b) : (a + b).den < 2 ^ big := by
  have h1 := low_add a b
  have h2 := (low_size (t := a.num * b.den + b.num * a.den) (den_ne a b)).2
  rw [h1] at h2
  have h2 : ((a + b).den : Int).natAbs ≤ ((a.den : Int) * (b.den : Int)).natAbs := h2
  rw [Int.natAbs_natCast, Int.natAbs_mul, Int.natAbs_natCast, Int.natAbs_natCast] at h2
  have h3 : a.den * b.den ≤ 2 ^ 4300 * 2 ^ 4300 := Nat.mul_le_mul (Nat.le_of_lt ha.2) (Nat.le_of_lt hb.2)
  rw [← Nat.pow_add] at h3
  exact Nat.lt_of_le_of_lt (Nat.le_trans h2 h3) (Nat.pow_lt_pow_right (by decide) (by decide))
theorem mem_tab {n : Nat} {f : Nat → Rat} {q : Rat} (h : q ∈ tab n f) : ∃ i, q = f i := by
  unfold tab at h
  obtain ⟨i, _, e⟩ := List.mem_map.mp h
  exact ⟨i, e.symm⟩
theorem cf_neg (B : List Rat) (i : Nat) : cf (B.map (- ·)) i = -cf B i := cf_map (f := fun q => -q) (by rfl) B i
theorem RS.ofT {K : PySem.W.Frag} {H : Hp} {l : Addr} {as : List Addr} {qs : List Rat} (h : SqT K H l (as.map V.ref)) (t : Tups H as (qs.map pq)) : RS K H l qs := ⟨as, .inr h, t⟩
def spProds2 (K : PySem.W.Frag) : Sp := fun vs H Q _ => ∃ (l1 l2 : Addr) (as bs : List Addr) (a b : List Rat) (M N M' N' : Nat), vs = [.ref l1, .ref l2] ∧ SqT K H l1 (as.map V.ref) ∧ Tups H as (a.map pq) ∧ SqT K H l2 (bs.map V.ref) ∧ Tups H bs (b.map pq) ∧ a.length ≤ 13 ∧ b.length ≤ 13 ∧ (∀ i, Fr M N (cf a i)) ∧ (∀ i, Fr M' N' (cf b i)) ∧ 0 < M ∧ 0 < M' ∧ M < 2 ^ 8700 ∧ N < 2 ^ 8700 ∧ M' < 2 ^ 8700 ∧ N' < 2 ^ 8700 ∧ M * M' < 2 ^ big ∧
  ∀ (l : Addr) (ps : List (Int × Int)) (H' : Hp), Same H H' → RW H' l ps → ps.length ≤ 1000 → (∀ p ∈ ps, 0 < p.2 ∧ p.2.natAbs < 2 ^ big) → ps.map lowP = (pmQ a b).map pq → Q (.ref l) H'
section
variable {P : Program} {w : World} {K : PySem.W.Frag} {mg : Str → Option Value} {base : Heap} {CP CR CN : Addr}
theorem ok_prods2 {f : Addr} {fd : FuncData} (F : Fun K "products_of" "products_of" sProds f fd) (Go : Df P w K mg base "over_one_bottom" 1 ["numbers"] (spOver2 K)) (Gr : Df P w K mg base "product_row" 2 ["one", "other"] (spPRow K)) : FnOk P w K mg base CX0 3 f fd ["one", "other"] (spProds2 K) := by
  refine F.ok scProds (fun vs H Q E h => ?_) (fun cdv A outer s H vs Q E hr h => ?_)
  · obtain ⟨l1, l2, as, bs, a, b, M, N, M', N', rfl, _⟩ := h
    rfl
  · obtain ⟨l1, l2, as, bs, a, b, M, N, M', N', rfl, e1, t1, e2, t2, la, lb, sa, sb, hM, hM', bM, bN, bM', bN', hMM, q⟩ := h
    refine ⟨_, (pss_cons (ps_asg (pe_call Go.ok (hr.mono (by decide)) rfl Go.m Go.kp Go.b .nil pass0 (pa_cons (pv 0) pa_nil)) (pg_tup (by rfl) (pgs_cons (pg_name (i := 2) scProds.nd rfl (Or.inl rfl)) (pgs_cons (pg_name (i := 3) scProds.nd rfl (Or.inl rfl)) pgs_nil))))
  (pss_cons (ps_asg (pe_call Go.ok (hr.mono (by decide)) rfl Go.m Go.kp Go.b .nil pass0 (pa_cons (pv 1) pa_nil)) (pg_tup (by rfl) (pgs_cons (pg_name (i := 4) scProds.nd rfl (Or.inl rfl)) (pgs_cons (pg_name (i := 5) scProds.nd rfl (Or.inl rfl)) pgs_nil))))
  (pss_cons (ps_set (i := 6) scProds.nd rfl (Or.inr rfl) (pe_op op_mulW (pv 3) (pv 5)))
  (pss_one (ps_ret (pe_lc (own := [("top", 7)]) (g := gName 7) (tt := tYes) rfl scProds.nd (pi_seq (pe_call Gr.ok (hr.mono (by decide)) rfl Gr.m Gr.kp Gr.b .nil pass0 (pa_cons (pv 2) (pa_cons (pv 4) pa_nil)))) (blkOk_by (N := ["one", "other", "row", "bottom", "other_row", "other_bottom", "below", "top"]) (sc := defScope sProds) (by decide +kernel)) (fun _ _ _ _ _ => pg_name (i := 7) scProds.nd rfl (Or.inl rfl)) (fun _ _ _ _ _ => pts_nil) (fun _ _ _ _ _ => (pe_tup (pa_cons (pv 7) (pa_cons (pv 6) pa_nil)))))))))), ?_⟩
    refine ⟨_, rfl, l1, a, M, N, rfl, RS.ofT e1 t1, by omega, sa, hM, bM, bN, fun r xl A xs H1 s1 er1 ex1 A0 A156 nx fx bx => ?_⟩
    refine ⟨r, _, rfl, SqT.of er1, rfl, _, _, rfl, _, _, rfl, rfl, ?_⟩
    refine ⟨_, rfl, l2, b, M', N', rfl, RS.ofT (same_sqT s1 e2) (t2.same s1), by omega, sb, hM', bM', bN', fun r' yl B ys H2 s2 er2 ey2 B0 B156 ny fy by' => ?_⟩
    refine ⟨r', _, rfl, SqT.of er2, rfl, _, _, rfl, _, _, rfl, rfl, ?_⟩
    have hA : A < 2 ^ 8700 := Nat.lt_of_le_of_lt A156 bM
    have hB : B < 2 ^ 8700 := Nat.lt_of_le_of_lt B156 bM'
    refine ⟨_, rfl, _, rfl, _, _, rfl, rfl, big_mulW (by rw [Int.natAbs_natCast]; exact hA) (by rw [Int.natAbs_natCast]; exact hB), ?_⟩
    refine ⟨_, rfl, _, rfl, xl, yl, xs, ys, rfl, s2 _ _ ex1, ey2, by omega, by omega, fun i => Nat.lt_of_le_of_lt (bx i) bN, fun i => Nat.lt_of_le_of_lt (by' i) bN', fun l H3 s3 nl el => ?_⟩
    have AB : ((A : Int) * (B : Int)) = ((A * B : Nat) : Int) := (Int.natCast_mul A B).symm
    have AB0 : 0 < A * B := Nat.mul_pos A0 B0
    have ABb : A * B < 2 ^ big := Nat.lt_of_le_of_lt (Nat.mul_le_mul A156 B156) hMM
    have lns : (pmI xs ys).length ≤ 30 := by
      unfold pmI
      split
      · exact Nat.zero_le _
      · rw [tabI_len]; omega
    generalize hns : pmI xs ys = ns at el lns
    refine ⟨l, rfl, lc_seq (xs := ns.map V.int) (.inl (SqL.of el)) (fun D i H' => Same H3 H' ∧ ∃ zs, H' D = some (.lst (zs.map V.ref)) ∧ Tups H' zs ((tabI i (ci ns)).map fun n => (n, ((A : Int) * (B : Int))))) ?_ ?_ ?_ ?_⟩
    · intro D hD
      exact ⟨same_upd hD, [], upd_same, .nil⟩
    · intro D i H2 hD ⟨s2, _⟩
      exact ⟨same_sqL s2, same_sqT s2⟩
    · intro D i x H' hD hi ⟨ss, zs, eD, tz⟩
      have hi' : i < ns.length := by
        have := (List.getElem?_eq_some_iff.mp hi).1
        rw [List.length_map] at this
        exact this
      rw [RI.at (H := H) (l := l) hi'] at hi
      cases hi
      refine ⟨rfl, ?_⟩
      refine ⟨_, rfl, _, rfl, (by show 2 ≤ sizeLine; decide), fun t nt => ?_⟩
      have et : upd H' t (HO.tup [V.int (ci ns i), V.int ((A : Int) * (B : Int))]) t = some (HO.tup [V.int (ci ns i), V.int ((A : Int) * (B : Int))]) := upd_same
      have st : Same H' (upd H' t (HO.tup [V.int (ci ns i), V.int ((A : Int) * (B : Int))])) := same_upd nt
      generalize upd H' t (HO.tup [V.int (ci ns i), V.int ((A : Int) * (B : Int))]) = H4 at et st ⊢
      have eD' := st _ _ eD
      refine ⟨_, eD', ?_, (fun b' o' e' => ?_), zs ++ [t], ?_, ?_⟩
      · have := tz.len
        rw [List.length_map, tabI_len] at this
        rw [List.length_map, sizeLine_eq]
        omega
      · rw [upd_ne (ne_of_none e' hD)]
        exact st _ _ (ss _ _ e')
      · rw [upd_same, List.map_append]
        rfl
      · rw [tabI_snoc, List.map_append]
        have up : ∀ (c : Addr) (p : Int × Int), H4 c = some (.tup [.int p.1, .int p.2]) → upd H4 D (.lst (zs.map V.ref ++ [V.ref t])) c = some (.tup [.int p.1, .int p.2]) := fun c p z => by
          rw [upd_ne (ne_of z eD' (by intro z; cases z))]
          exact z
        exact ((tz.same st).imp up).snoc (up t (ci ns i, ((A : Int) * (B : Int))) et)
    · intro D H' hD ⟨ss, zs, eD, tz⟩
      rw [List.length_map] at tz
      refine q D _ H' (s1.trans (s2.trans (s3.trans ss))) ⟨zs, eD, tz⟩ (by rw [List.length_map, tabI_len]; omega) (fun p hp => ?_) ?_
      · obtain ⟨n, _, rfl⟩ := List.mem_map.mp hp
        refine ⟨by show (0 : Int) < ((A : Int) * (B : Int)); rw [AB]; omega, ?_⟩
        show (((A : Int) * (B : Int))).natAbs < _
        rw [AB, Int.natAbs_natCast]
        exact ABb
      · subst hns
        have emp : (a = [] ∨ b = []) ↔ (xs = [] ∨ ys = []) := by
          rw [← List.length_eq_zero_iff, ← List.length_eq_zero_iff, ← List.length_eq_zero_iff (l := xs), ← List.length_eq_zero_iff (l := ys), nx, ny]
        unfold pmI pmQ
        by_cases h : xs = [] ∨ ys = []
        · rw [if_pos h, if_pos (emp.mpr h)]
          rfl
        · rw [if_neg h, if_neg (fun z => h (emp.mp z)), tabI_len, nx, ny]
          unfold tab
          rw [List.map_map, List.map_map]
          unfold tabI
          rw [List.map_map]
          refine List.map_congr_left fun i hi => ?_
          have hi : i < a.length + b.length - 1 := List.mem_range.mp hi
          show low (ci (tabI (a.length + b.length - 1) (pcI xs ys)) i) ((A : Int) * (B : Int)) = pq (pc a b i)
          rw [ci_tab, if_pos (by omega), AB]
          exact low_mul (by omega) (pcI_over fx fy i)
/-- a suite that is never come to -/
theorem pss_no {X : Cx} {body : List Stmt} : PSs X body (fun _ _ _ => False) := ⟨fun _ _ _ _ _ _ h => h.elim⟩
abbrev sAsP : Stmt := topS 29
theorem scAsP : FnScope ["value"] ["value"] (defScope sAsP) := ⟨rfl, rfl, rfl, by decide +kernel, rfl, by decide +kernel, by decide +kernel⟩
theorem ok_asp {f : Addr} {fd : FuncData} (F : Fun K "as_poly" "as_poly" sAsP f fd) (T : Bk mg) (PM : PoM P w K mg base CP CR) (Gr : Df P w K mg base "is_ratio" 2 ["value"] (spIsRatio K)) : FnOk P w K mg base (L2.CX P w) 7 f fd ["value"] (spAsP K CP) := by
  refine F.okX scAsP (fun vs H Q E h => ?_) (fun cdv A outer s H vs Q E hr h => ?_)
  · obtain ⟨v, B, rfl, _⟩ := h
    rfl
  · obtain ⟨v, B, rfl, ho, q⟩ := h
    refine ⟨_, (pss_cons (ps_if (pt_val (pe_callB call_isi (by rfl) T.isinstance (by decide +kernel) (pa_cons (pv 0) (pa_cons (pe_glob (v := V.ref CP) rfl PM.C.m rfl) pa_nil))))
    (pss_one (ps_ret (pv 0)))
    pss_nil)
  (pss_one (ps_ret (pe_ifExp (pt_val (pe_call Gr.ok (hr.mono (by decide)) rfl Gr.m Gr.kp Gr.b .nil pass0 (pa_cons (pv 0) pa_nil))) (pe_make PM.mkI PM.okI (hr.mono (by decide)) rfl PM.C.m PM.bI .nil passL (pa_cons (pe_tup (pa_cons (pv 0) pa_nil)) pa_nil)) pe_non)))), ?_⟩
    rcases ho with ⟨b, rfl, hb⟩ | ⟨d, p, qq, hd, hp, hl, hz, rfl⟩
    · refine ⟨_, rfl, .ref b, .ref CP, _, .ref CP, _, rfl, .own _, PolyAt.ty PM.C hb, PM.C.io, _, rfl, ?_⟩
      refine iteT ?_
      exact ⟨_, rfl, q b H (Same.refl _) hb⟩
    · refine ⟨_, rfl, v, .ref CP, _, .ref CP, _, rfl, .own _, hd.ty, PM.C.no d, _, rfl, ?_⟩
      refine iteF ?_
      refine ⟨_, rfl, v, d, rfl, hd, fun H1 s1 => ⟨_, rfl, ?_⟩⟩
      rw [hp]
      refine iteT ?_
      refine ⟨_, rfl, (by show 1 ≤ sizeLine; decide), fun t nt => ?_⟩
      have et : upd H1 t (HO.tup [v]) t = some (HO.tup [v]) := upd_same
      have st : Same H1 (upd H1 t (HO.tup [v])) := same_upd nt
      have rd : rowD (.tuple [d]) = some [p] := by
        show [d].mapM partsD = _
        rw [List.mapM_cons, hp, List.mapM_nil]
        rfl
      refine poly_made (d := .tuple [d]) (.tup (SqT.of et) (.cons ((hd.mono s1).mono st) .nil)) (fun ds' h => by cases h; show 1 ≤ 1000; decide) (fun ps' h => ?_) (fun z => by rw [rd] at z; cases z)
      rw [rd] at h
      cases h
      refine ⟨fun p' hp' => by rw [List.mem_singleton.mp hp']; exact hz, fun x H' s' nx made => q x H' (s1.trans (st.trans s')) ?_⟩
      have e : [p].map lowP = [qq].map pq := by rw [List.map_cons, List.map_cons, hl]; rfl
      rw [e, strip_map] at made
      exact made
abbrev sPsub : Stmt := inClass (topS 28) 4
theorem scPsub : FnScope ["self", "other", "right"] ["self", "other"] (defScope sPsub) := ⟨rfl, rfl, rfl, by decide +kernel, rfl, by decide +kernel, by decide +kernel⟩
theorem ok_psub {f : Addr} {fd : FuncData} (F : Fun K "__sub__" "Poly.__sub__" sPsub f fd) (T : Bk mg) (PM : PoM P w K mg base CP CR) (Ga : Dx P w K mg base "as_poly" 7 ["value"] (spAsP K CP)) (Gs : Dx P w K mg base "sums_of" 5 ["one", "other"] (spSums K)) (Gn : Df P w K mg base "opposites_of" 1 ["numbers"] (spOpp K)) : FnOk P w K mg base (L2.CX P w) 8 f fd ["self", "other"] (spSubW K CP) := by
  refine F.okX scPsub (fun vs H Q E h => ?_) (fun cdv A0 outer s H vs Q E hr h => ?_)
  · obtain ⟨a, v, A, B, rfl, _⟩ := h
    rfl
  · obtain ⟨a, v, A, B, rfl, ⟨dx, t, as, h1, h2, h3⟩, ho, lA, lB, sA, sB, q⟩ := h
    refine ⟨_, (pss_cons (ps_set (i := 2) scPsub.nd rfl (Or.inl rfl) (pe_call Ga.ok (hr.mono (by decide)) rfl Ga.m Ga.kp Ga.b .nil passL (pa_cons (pv 1) pa_nil)))
  (pss_cons (ps_if (pt_cmpR op_isN (pv 2) pe_non (nomark _)) pss_no pss_nil)
  (pss_one (ps_ret (pe_make PM.mkI PM.okI (hr.mono (by decide)) rfl PM.C.m PM.bI .nil passL (pa_cons (pe_call Gs.ok (hr.mono (by decide)) rfl Gs.m Gs.kp Gs.b .nil passL (pa_cons (pe_fld (pv 0) rfl) (pa_cons (pe_call Gn.ok (hr.mono (by decide)) rfl Gn.m Gn.kp Gn.b .nil pass0 (pa_cons (pe_fld (pv 2) rfl) pa_nil)) pa_nil))) pa_nil)))))), ?_⟩
    refine ⟨_, rfl, v, B, rfl, ho, fun b H1 s1 hb => ?_⟩
    obtain ⟨dy, u, bs, g1, g2, g3⟩ := hb
    refine ⟨_, rfl, rfl, _, rfl, ?_⟩
    refine iteF ?_
    refine ⟨_, rfl, a, CP, dx, _, .ref t, rfl, s1 _ _ h1, PM.C.cl, PM.C.nf, (by kernel_rfl), _, rfl, b, CP, dy, _, .ref u, rfl, g1, PM.C.cl, PM.C.nf, (by kernel_rfl), ?_⟩
    refine ⟨u, B, rfl, (RS.ofT (SqT.of g2) g3), by omega, fun l0 H1b sb rb => ?_⟩
    refine ⟨t, l0, A, B.map (- ·), rfl, RS.same (RS.ofT (SqT.of (s1 _ _ h2)) (h3.same s1)) sb, .of rb, by omega, by rw [List.length_map]; omega, fun i => sr_z2 (sA i), fun i => by rw [cf_neg]; exact sr_z2 (sr_negW (sB i)), fun l H2 s2 rl => ?_⟩
    refine poly_rl rl (by unfold padd; rw [tab_len, List.length_map]; omega) (fun qq hq => ?_) fun x H' s3 nx made => q x H' (s1.trans (sb.trans (s2.trans s3))) made
    obtain ⟨i, rfl⟩ := mem_tab hq
    rw [cf_neg]
    exact den_addW (sA i) (sr_negW (sB i))
abbrev sPmul : Stmt := inClass (topS 28) 6
theorem scPmul : FnScope ["self", "other", "right"] ["self", "other"] (defScope sPmul) := ⟨rfl, rfl, rfl, by decide +kernel, rfl, by decide +kernel, by decide +kernel⟩
theorem ok_pmul {f : Addr} {fd : FuncData} (F : Fun K "__mul__" "Poly.__mul__" sPmul f fd) (T : Bk mg) (PM : PoM P w K mg base CP CR) (Ga : Dx P w K mg base "as_poly" 7 ["value"] (spAsP K CP)) (Gm : Df P w K mg base "products_of" 3 ["one", "other"] (spProds2 K)) : FnOk P w K mg base (L2.CX P w) 8 f fd ["self", "other"] (spMulW K CP) := by
  refine F.okX scPmul (fun vs H Q E h => ?_) (fun cdv A0 outer s H vs Q E hr h => ?_)
  · obtain ⟨a, v, A, B, M, N, M', N', rfl, _⟩ := h
    rfl
  · obtain ⟨a, v, A, B, M, N, M', N', rfl, ⟨dx, t, as, h1, h2, h3⟩, ho, lA, lB, sA, sB, hM, hM', bM, bN, bM', bN', hMM, q⟩ := h
    refine ⟨_, (pss_cons (ps_set (i := 2) scPmul.nd rfl (Or.inl rfl) (pe_call Ga.ok (hr.mono (by decide)) rfl Ga.m Ga.kp Ga.b .nil passL (pa_cons (pv 1) pa_nil)))
  (pss_cons (ps_if (pt_cmpR op_isN (pv 2) pe_non (nomark _)) pss_no pss_nil)
  (pss_one (ps_ret (pe_make PM.mkI PM.okI (hr.mono (by decide)) rfl PM.C.m PM.bI .nil passL (pa_cons (pe_call Gm.ok (hr.mono (by decide)) rfl Gm.m Gm.kp Gm.b .nil pass0 (pa_cons (pe_fld (pv 0) rfl) (pa_cons (pe_fld (pv 2) rfl) pa_nil))) pa_nil)))))), ?_⟩
    refine ⟨_, rfl, v, B, rfl, ho, fun b H1 s1 hb => ?_⟩
    obtain ⟨dy, u, bs, g1, g2, g3⟩ := hb
    refine ⟨_, rfl, rfl, _, rfl, ?_⟩
    refine iteF ?_
    refine ⟨_, rfl, a, CP, dx, _, .ref t, rfl, s1 _ _ h1, PM.C.cl, PM.C.nf, (by kernel_rfl), _, rfl, b, CP, dy, _, .ref u, rfl, g1, PM.C.cl, PM.C.nf, (by kernel_rfl), ?_⟩
    refine ⟨t, u, as, bs, A, B, M, N, M', N', rfl, SqT.of (s1 _ _ h2), h3.same s1, SqT.of g2, g3, lA, lB, sA, sB, hM, hM', bM, bN, bM', bN', hMM, fun l ps H2 s2 rw' lps hps elp => ?_⟩
    refine poly_row rw' lps hps elp fun x H' s3 nx made => q x H' (s1.trans (s2.trans s3)) ?_
    rw [pmQ_strip] at made
    exact made
end
end Vf
set_option maxRecDepth 100000
set_option maxHeartbeats 8000000
namespace Vf
open PySem PySem.Spec PyProof.Rows L2
def spPOv (K : PySem.W.Frag) (CP : Addr) : Sp := fun vs H Q _ => ∃ (l : Addr) (ns : List Int) (M : Int) (qs : List Rat), vs = [.ref l, .int M] ∧ RI H l ns ∧ 0 < M ∧ M.natAbs < 2 ^ big ∧ ns.length ≤ 1000 ∧ qs.length = ns.length ∧ (∀ i, cf qs i * (M : Rat) = ((ci ns i : Int) : Rat)) ∧
  ∀ (x : Addr) (H' : Hp), Same H H' → PolyQ K CP H' x (stripQ qs) → Q (.ref x) H'
/-- a ratio as it is passed -/
def Arg (p : Int × Int) (x : Rat) : Prop := lowP p = pq x ∧ p.2.natAbs < 2 ^ big ∧ x.num.natAbs ≤ 2 ^ 70 ∧ x.den ≤ 2 ^ 70
theorem arg_top {p : Int × Int} {x : Rat} {H : Hp} {r : Addr} (h : Arg p x) (e : H r = some (.tup [.int (low p.1 p.2).1, .int (low p.1 p.2).2])) : TR H r x := by
  unfold TR
  rw [e]
  have z := h.1
  unfold lowP at z
  rw [z]
  rfl
theorem rev_ci {ns : List Int} {j : Nat} {y : V} (h : (ns.map V.int).reverse[j]? = some y) : y = .int (ci ns (ns.length - 1 - j)) ∧ j < ns.length := by
  have hj : j < ns.length := by
    have := (List.getElem?_eq_some_iff.mp h).1
    rw [List.length_reverse, List.length_map] at this
    exact this
  rw [List.getElem?_reverse (by rw [List.length_map]; exact hj), List.length_map, List.getElem?_map, ci_lt (by omega)] at h
  cases h
  exact ⟨rfl, hj⟩
section
variable {P : Program} {w : World} {K : PySem.W.Frag} {mg : Str → Option Value} {base : Heap} {CP CR CN : Addr}
abbrev sPOv : Stmt := topS 35
abbrev sMoved : Stmt := inClass (topS 28) 13
theorem scPOv : FnScope ["row", "bottom", "top"] ["row", "bottom"] (defScope sPOv) := ⟨rfl, rfl, rfl, by decide +kernel, rfl, by decide +kernel, by decide +kernel⟩
theorem ok_pov {f : Addr} {fd : FuncData} (F : Fun K "poly_over" "poly_over" sPOv f fd) (PM : PoM P w K mg base CP CR) : FnOk P w K mg base (L2.CX P w) 7 f fd ["row", "bottom"] (spPOv K CP) := by
  refine F.okX scPOv (fun vs H Q E h => ?_) (fun cdv A0 outer s H vs Q E hr h => ?_)
  · obtain ⟨l, ns, M, qs, rfl, _⟩ := h
    rfl
  · obtain ⟨l, ns, M, qs, rfl, el, M0, Mb, ln, lq, hc, q⟩ := h
    refine ⟨_, (pss_one (ps_ret (pe_make PM.mkI PM.okI (hr.mono (by decide)) rfl PM.C.m PM.bI .nil passL (pa_cons (pe_lc (own := [("top", 2)]) (g := gName 2) (tt := tYes) rfl scPOv.nd (pi_seq (pv 0)) (blkOk_by (N := ["row", "bottom", "top"]) (sc := defScope sPOv) (by decide +kernel)) (fun _ _ _ _ _ => pg_name (i := 2) scPOv.nd rfl (Or.inl rfl)) (fun _ _ _ _ _ => pts_nil) (fun _ _ _ _ _ => (pe_tup (pa_cons (pv 2) (pa_cons (pv 1) pa_nil))))) pa_nil)))), ?_⟩
    refine ⟨_, rfl, l, rfl, lc_seq (xs := ns.map V.int) (.inl (SqL.of el)) (fun D i H' => Same H H' ∧ ∃ zs, H' D = some (.lst (zs.map V.ref)) ∧ Tups H' zs ((tabI i (ci ns)).map fun n => (n, M))) ?_ ?_ ?_ ?_⟩
    · intro D hD
      exact ⟨same_upd hD, [], upd_same, .nil⟩
    · intro D i H2 hD ⟨s2, _⟩
      exact ⟨same_sqL s2, same_sqT s2⟩
    · intro D i x H' hD hi ⟨ss, zs, eD, tz⟩
      have hi' : i < ns.length := by
        have := (List.getElem?_eq_some_iff.mp hi).1
        rw [List.length_map] at this
        exact this
      rw [RI.at (H := H) (l := l) hi'] at hi
      cases hi
      refine ⟨rfl, ?_⟩
      refine ⟨_, rfl, _, rfl, (by show 2 ≤ sizeLine; decide), fun t nt => ?_⟩
      have et : upd H' t (HO.tup [V.int (ci ns i), V.int M]) t = some (HO.tup [V.int (ci ns i), V.int M]) := upd_same
      have st : Same H' (upd H' t (HO.tup [V.int (ci ns i), V.int M])) := same_upd nt
      generalize upd H' t (HO.tup [V.int (ci ns i), V.int M]) = H4 at et st ⊢
      have eD' := st _ _ eD
      refine ⟨_, eD', ?_, (fun b' o' e' => ?_), zs ++ [t], ?_, ?_⟩
      · have := tz.len
        rw [List.length_map, tabI_len] at this
        rw [List.length_map, sizeLine_eq]
        omega
      · rw [upd_ne (ne_of_none e' hD)]
        exact st _ _ (ss _ _ e')
      · rw [upd_same, List.map_append]
        rfl
      · rw [tabI_snoc, List.map_append]
        have up : ∀ (c : Addr) (p : Int × Int), H4 c = some (.tup [.int p.1, .int p.2]) → upd H4 D (.lst (zs.map V.ref ++ [V.ref t])) c = some (.tup [.int p.1, .int p.2]) := fun c p z => by
          rw [upd_ne (ne_of z eD' (by intro z; cases z))]
          exact z
        exact ((tz.same st).imp up).snoc (up t (ci ns i, M) et)
    · intro D H' hD ⟨ss, zs, eD, tz⟩
      rw [List.length_map] at tz
      refine poly_row (qs := qs) ⟨zs, eD, tz⟩ (by rw [List.length_map, tabI_len]; exact ln) (fun p hp => ?_) ?_ fun x H2 s3 nx made => q x H2 (ss.trans s3) made
      · obtain ⟨n, _, rfl⟩ := List.mem_map.mp hp
        exact ⟨M0, Mb⟩
      · refine List.ext_getElem? fun i => ?_
        unfold tabI
        rw [List.map_map, List.map_map, List.getElem?_map, List.getElem?_map]
        by_cases h : i < ns.length
        · rw [List.getElem?_range h, List.getElem?_eq_getElem (show i < qs.length by omega)]
          show some (low (ci ns i) M) = some (pq qs[i])
          rw [← cf_lt (show i < qs.length by omega), low_mul (by omega) (hc i)]
        · rw [List.getElem?_eq_none_iff.mpr (by rw [List.length_range]; omega), List.getElem?_eq_none_iff.mpr (by omega)]
          rfl
end
theorem mvl_cf (s t c : Rat) (l : List Rat) (i : Nat) : cf (mvl s t (c :: l)) i = cf (mvl s t l) i * s + (if i = 0 then 0 else cf (mvl s t l) (i - 1) * t) + if i = 0 then c else 0 := by
  show cf (stripQ (padd (stripQ (pmul (mvl s t l) (stripQ [s, t]))) (stripQ [c]))) i = _
  rw [cf_stripQ, cf_padd, cf_stripQ, cf_pmul, pc_line (fun k hk => by rw [cf_pair, if_neg (by omega), if_neg (by omega)]), cf_one, cf_pair, cf_pair, if_pos (rfl : (0 : Nat) = 0), if_neg (by decide : ¬(1 : Nat) = 0), if_pos (rfl : (1 : Nat) = 1)]
theorem mvl_stp (s t : Rat) : ∀ a : List Rat, stripQ (mvl s t a) = mvl s t a
  | [] => rfl
  | c :: l => stripQ_id (stripQ_stp _)
theorem pcI_line (v : List Int) (x y : Int) : ∀ i, pcI v [x, y] i = ci v i * x + if i = 0 then 0 else ci v (i - 1) * y
  | 0 => by
    show (0 : Int) + ci v 0 * x = _
    rw [if_pos rfl]
    omega
  | k + 1 => by
    unfold pcI
    show smI (fun i => ci v i * ci [x, y] (k + 1 - i)) k + ci v k * ci [x, y] (k + 1 - k) + ci v (k + 1) * ci [x, y] (k + 1 - (k + 1)) = _
    rw [smI_zero fun i hi => by rw [ci_ge (l := [x, y]) (by show 2 ≤ _; omega), Int.mul_zero], if_neg (by omega), show k + 1 - k = 1 by omega, Nat.sub_self, Nat.add_sub_cancel]
    show 0 + ci v k * y + ci v (k + 1) * x = _
    omega
theorem ci_set {l : List Int} {i j : Nat} {x : Int} (h : i < l.length) : ci (l.set i x) j = if j = i then x else ci l j := by
  unfold ci
  rw [List.getD_eq_getElem?_getD, List.getD_eq_getElem?_getD, List.getElem?_set]
  by_cases e : i = j
  · rw [if_pos e, if_pos e.symm, if_pos h]
    rfl
  · rw [if_neg e, if_neg (fun z => e z.symm)]
theorem mv_over {m m' s t c BS bot v v' l0 l1 N S B : Rat} (eB : BS = B * S) (e1 : m * BS = v * bot) (e2 : m' * BS = v' * bot) (e3 : s * bot = l0) (e4 : t * bot = l1) (e5 : c * B = N) : (m * s + m' * t + c) * (B * (S * bot)) = (v * l0 + v' * l1 + N * S) * bot := by
  rw [← e3, ← e4, ← e5]
  have : (v * (s * bot) + v' * (t * bot) + c * B * S) * bot = (v * bot) * (s * bot) + (v' * bot) * (t * bot) + c * B * S * bot := by grind
  rw [this, ← e1, ← e2, eB]
  grind
theorem mv_size {v v' x y n s : Int} {j : Nat} (h1 : v.natAbs ≤ 2 ^ (170 + 212 * j)) (h2 : v'.natAbs ≤ 2 ^ (170 + 212 * j)) (hx : x.natAbs ≤ 2 ^ 210) (hy : y.natAbs ≤ 2 ^ 210) (hn : n.natAbs ≤ 2 ^ 169) (hs : s.natAbs ≤ 2 ^ (140 * j)) : (v * x + v' * y + n * s).natAbs ≤ 2 ^ (170 + 212 * (j + 1)) := by
  have g1 : (v * x).natAbs ≤ 2 ^ (170 + 212 * j + 210) := by
    rw [Int.natAbs_mul, Nat.pow_add]
    exact Nat.mul_le_mul h1 hx
  have g2 : (v' * y).natAbs ≤ 2 ^ (170 + 212 * j + 210) := by
    rw [Int.natAbs_mul, Nat.pow_add]
    exact Nat.mul_le_mul h2 hy
  have g3 : (n * s).natAbs ≤ 2 ^ (169 + 140 * j) := by
    rw [Int.natAbs_mul, Nat.pow_add]
    exact Nat.mul_le_mul hn hs
  have g4 : (2 : Nat) ^ (169 + 140 * j) ≤ 2 ^ (170 + 212 * j + 210) := Nat.pow_le_pow_right (by decide) (by omega)
  have g5 : (2 : Nat) ^ (170 + 212 * (j + 1)) = 2 ^ (170 + 212 * j + 210) * 4 := by
    rw [show (4 : Nat) = 2 ^ 2 from rfl, ← Nat.pow_add]
    congr 1
  have a1 := Int.natAbs_add_le (v * x + v' * y) (n * s)
  have a2 := Int.natAbs_add_le (v * x) (v' * y)
  omega
def spMoved (K : PySem.W.Frag) (CP CN : Addr) : Sp := fun vs H Q E => ∃ (a : Addr) (v u : V) (d e : PyData) (A : List Rat), vs = [.ref a, v, u] ∧ PolyQ K CP H a A ∧ A.length ≤ 13 ∧ (∀ i, Sm (cf A i)) ∧ Dt K H v d ∧ Dt K H u e ∧
  (∀ p, partsD d = some p → p.2.natAbs < 2 ^ big ∧ (∀ p', partsD e = some p' → ∃ s t, Arg p s ∧ Arg p' t ∧ ∀ (x : Addr) (H' : Hp), Same H H' → PolyQ K CP H' x (mvl s t A) → Q (.ref x) H') ∧ (partsD e = none → RaisesN CN H (.str "step") u E)) ∧ (partsD d = none → RaisesN CN H (.str "start") v E)
section
variable {P : Program} {w : World} {K : PySem.W.Frag} {mg : Str → Option Value} {base : Heap} {CP CR CN : Addr}
theorem pe_fldK {X : Cx} {e : Expr} {f : Str} {pos : Pos} {ta : TE} {K : PySem.W.Frag} (hk : X.K = K) (he : PE X e ta) (hb : attributeBase e f X.env (eval e X.env) = eval e X.env) : PE X (.Attribute e f pos) (tFld K ta f) := by
  subst hk
  exact pe_fld he hb
theorem scMoved : FnScope ["self", "start", "step", "start_top", "start_bottom", "step_top", "step_bottom", "bottom", "line", "row", "below", "values", "scale", "number", "value"] ["self", "start", "step"] (defScope sMoved) := ⟨rfl, rfl, rfl, by decide +kernel, rfl, by decide +kernel, by decide +kernel⟩
theorem ok_moved {f : Addr} {fd : FuncData} (F : Fun K "moved" "Poly.moved" sMoved f fd) (C : PoC K mg CP) (hlcm : mg "lcm" = some (.builtin "math.lcm")) (Gt : Dx P w K mg base "told" 4 ["value", "what"] (spTold K CN)) (Go : Df P w K mg base "over_one_bottom" 1 ["numbers"] (spOver K)) (Gr : Df P w K mg base "product_row" 2 ["one", "other"] (spPRow K)) (Gv : Dx P w K mg base "poly_over" 7 ["row", "bottom"] (spPOv K CP)) : FnOk P w K mg base (L2.CX P w) 8 f fd ["self", "start", "step"] (spMoved K CP CN) := by
  refine F.okX scMoved (fun vs H Q E h => ?_) (fun cdv A0 outer s0 H vs Q E hr h => ?_)
  · obtain ⟨a, v, u, d, e, A, rfl, _⟩ := h
    rfl
  · obtain ⟨a, v, u, d, e, A, rfl, ⟨dx, tt, as, h1, h2, h3⟩, lA, sA, hd, he, q, er⟩ := h
    refine ⟨_, (pss_cons (ps_asg (pe_call Gt.ok (hr.mono (by decide)) rfl Gt.m Gt.kp Gt.b .nil (E := E) (passes_call (takes_of rfl rfl rfl rfl) (fun _ _ _ _ h => h)) (pa_cons (pv 1) (pa_cons pe_str pa_nil))) (pg_tup (by rfl) (pgs_cons (pg_name (i := 3) scMoved.nd rfl (Or.inl rfl)) (pgs_cons (pg_name (i := 4) scMoved.nd rfl (Or.inl rfl)) pgs_nil))))
      (pss_cons (ps_asg (pe_call Gt.ok (hr.mono (by decide)) rfl Gt.m Gt.kp Gt.b .nil (E := E) (passes_call (takes_of rfl rfl rfl rfl) (fun _ _ _ _ h => h)) (pa_cons (pv 2) (pa_cons pe_str pa_nil))) (pg_tup (by rfl) (pgs_cons (pg_name (i := 5) scMoved.nd rfl (Or.inl rfl)) (pgs_cons (pg_name (i := 6) scMoved.nd rfl (Or.inl rfl)) pgs_nil))))
      (PSs.nox (pss_cons (ps_set (i := 7) scMoved.nd rfl (Or.inr rfl) (pe_callBfun cr_lcm (by rfl) hlcm (pa_cons (pv 4) (pa_cons (pv 6) pa_nil))))
      (pss_cons (ps_set (i := 8) scMoved.nd rfl (Or.inl rfl) (pe_lst (pa_cons (pe_op op_mulW (pv 3) (pe_op op_fdivW (pv 7) (pv 4))) (pa_cons (pe_op op_mulW (pv 5) (pe_op op_fdivW (pv 7) (pv 6))) pa_nil))))
      (pss_cons (ps_asg (pe_call Go.ok (hr.mono (by decide)) rfl Go.m Go.kp Go.b .nil pass0 (pa_cons (pe_fld (pv 0) rfl) pa_nil)) (pg_tup (by rfl) (pgs_cons (pg_name (i := 9) scMoved.nd rfl (Or.inl rfl)) (pgs_cons (pg_name (i := 10) scMoved.nd rfl (Or.inl rfl)) pgs_nil))))
      (pss_cons (ps_set (i := 11) scMoved.nd rfl (Or.inl rfl) (pe_lst (pa_cons pe_int pa_nil)))
      (pss_cons (ps_set (i := 12) scMoved.nd rfl (Or.inl rfl) pe_int)
      (pss_cons (ps_for PassesOwn.never rfl (pi_list (pe_revL (pv 9))) (pg_name (i := 13) scMoved.nd rfl (Or.inl rfl))
        (pss_cons (ps_set (i := 11) scMoved.nd rfl (Or.inl rfl) (pe_call Gr.ok (hr.mono (by decide)) rfl Gr.m Gr.kp Gr.b .nil pass0 (pa_cons (pv 11) (pa_cons (pv 8) pa_nil))))
        (pss_cons (ps_asg (pe_op op_add (pe_ix ix_list (pv 11) pe_int (fun _ _ => rfl)) (pe_op op_mulW (pv 13) (pv 12))) (pg_sub (pv 11) pe_int set_list))
        (pss_one (ps_set (i := 12) scMoved.nd rfl (Or.inl rfl) (pe_op op_mulW (pv 12) (pv 7)))))))
      (pss_one (ps_ret (pe_call Gv.ok (hr.mono (by decide)) rfl Gv.m Gv.kp Gv.b .nil passL (pa_cons (pe_lc (own := [("value", 14)]) (g := gName 14) (tt := tYes) rfl scMoved.nd (pi_seq (pv 11)) (blkOk_by (N := ["self", "start", "step", "start_top", "start_bottom", "step_top", "step_bottom", "bottom", "line", "row", "below", "values", "scale", "number", "value"]) (sc := defScope sMoved) (by decide +kernel)) (fun _ _ _ _ _ => pg_name (i := 14) scMoved.nd rfl (Or.inl rfl)) (fun _ _ _ _ _ => pts_nil) (fun _ _ _ _ _ => pe_op op_mulW (pv 14) (pv 7))) (pa_cons (pe_op op_mulW (pv 10) (pv 12)) pa_nil)))))))))))))), ?_⟩
    refine ⟨_, rfl, v, .str "start", d, rfl, hd, fun t0 b0 hp => ?_, er⟩
    obtain ⟨zb, q, er2⟩ := q _ hp
    refine ⟨zb, fun r H1 s1 e1 => ?_⟩
    refine ⟨r, _, rfl, SqT.of e1, rfl, _, _, rfl, _, _, rfl, rfl, ?_⟩
    refine ⟨_, rfl, u, .str "step", e, rfl, he.mono s1, fun t0' b0' hp' => ?_, fun z => (er2 z).same s1⟩
    obtain ⟨s, t, as', at', q⟩ := q _ hp'
    refine ⟨at'.2.1, fun r' H2 s2 e2 => ?_⟩
    have tr := arg_top at' e2
    have ss := arg_top as' e1
    have elow : ((low t0 b0).1, (low t0 b0).2) = pq s := as'.1
    have es1 : (low t0 b0).1 = s.num := congrArg Prod.fst elow
    have es2 : (low t0 b0).2 = (s.den : Int) := congrArg Prod.snd elow
    have elow' : ((low t0' b0').1, (low t0' b0').2) = pq t := at'.1
    have et1 : (low t0' b0').1 = t.num := congrArg Prod.fst elow'
    have et2 : (low t0' b0').2 = (t.den : Int) := congrArg Prod.snd elow'
    obtain ⟨_, _, sn, sd⟩ := as'
    obtain ⟨_, _, tn, td⟩ := at'
    refine ⟨r', _, rfl, SqT.of e2, rfl, _, _, rfl, _, _, rfl, rfl, ?_⟩
    simp only [es1, es2, et1, et2] at *
    have sd0 := s.den_pos
    have td0 := t.den_pos
    have bs : ((s.den : Int)).natAbs < 2 ^ 8800 := by rw [Int.natAbs_natCast]; exact Nat.lt_of_le_of_lt sd (Nat.pow_lt_pow_right (by decide) (by decide))
    have bt : ((t.den : Int)).natAbs < 2 ^ 8800 := by rw [Int.natAbs_natCast]; exact Nat.lt_of_le_of_lt td (Nat.pow_lt_pow_right (by decide) (by decide))
    refine ⟨_, rfl, _, rfl, _, _, rfl, bs, bt, ?_⟩
    simp only [Int.natAbs_natCast]
    have dv1 := Nat.dvd_lcm_left s.den t.den
    have dv2 := Nat.dvd_lcm_right s.den t.den
    have lp := Nat.lcm_pos sd0 td0
    have lle : s.den.lcm t.den ≤ 2 ^ 140 := by
      have h := Nat.le_trans (Nat.le_of_dvd (Nat.mul_pos sd0 td0) (Nat.lcm_dvd_mul s.den t.den)) (Nat.mul_le_mul sd td)
      rw [← Nat.pow_add] at h
      exact h
    generalize s.den.lcm t.den = bot at *
    have qd : ∀ {x : Rat}, ((bot : Int) / (x.den : Int)).natAbs ≤ 2 ^ 140 := fun {x} => by
      rw [← Int.natCast_ediv, Int.natAbs_natCast]
      exact Nat.le_trans (Nat.div_le_self _ _) lle
    have ql : ∀ {x : Rat}, x.num.natAbs ≤ 2 ^ 70 → (x.num * ((bot : Int) / (x.den : Int))).natAbs ≤ 2 ^ 210 := fun {x} h => by
      rw [Int.natAbs_mul, show (2 : Nat) ^ 210 = 2 ^ 70 * 2 ^ 140 from by decide +kernel]
      exact Nat.mul_le_mul h qd
    have hl0 := ql sn
    have hl1 := ql tn
    have ol0 := over_one dv1
    have ol1 := over_one dv2
    have cd : ∀ {x : Rat}, x.den ≤ 2 ^ 70 → CDivW (bot : Int) (x.den : Int) := fun {x} h => by
      have := x.den_pos
      refine ⟨by omega, ?_⟩
      rw [Int.natAbs_natCast]
      exact Nat.lt_trans (log_4000 (Nat.lt_of_le_of_lt h (Nat.pow_lt_pow_right (by decide) (by decide)))) (by decide)
    refine ⟨_, rfl, _, rfl, _, rfl, _, _, rfl, rfl, cd sd, _, _, rfl, rfl, big_mulW (lt_4000 sn (by decide)) (lt_4000 qd (by decide)), _, rfl, _, rfl, _, rfl, _, _, rfl, rfl, cd td, _, _, rfl, rfl, big_mulW (lt_4000 tn (by decide)) (lt_4000 qd (by decide)), (by show 2 ≤ sizeLine; decide), fun ll nll => ?_⟩
    dsimp only [] at nll ⊢
    generalize s.num * ((bot : Int) / (s.den : Int)) = l0 at *
    generalize t.num * ((bot : Int) / (t.den : Int)) = l1 at *
    have ell : upd H2 ll (HO.lst [V.int l0, V.int l1]) ll = some (HO.lst [V.int l0, V.int l1]) := upd_same
    have s3 : Same H2 (upd H2 ll (HO.lst [V.int l0, V.int l1])) := same_upd nll
    generalize upd H2 ll (HO.lst [V.int l0, V.int l1]) = H3 at ell s3 ⊢
    have s03 := s1.trans (s2.trans s3)
    refine ⟨_, rfl, a, CP, dx, _, .ref tt, rfl, s03 _ _ h1, C.cl, C.nf, (by kernel_rfl), ?_⟩
    refine ⟨tt, as, A, rfl, SqT.of (s03 _ _ h2), h3.same s03, lA, sA, fun r3 xl xs B H4 s4 er4 ex4 B0 B156 nx fx bx => ?_⟩
    refine ⟨r3, _, rfl, SqT.of er4, rfl, _, _, rfl, _, _, rfl, rfl, ?_⟩
    refine ⟨(by show 1 ≤ sizeLine; decide), fun lv0 nlv0 => ?_⟩
    have elv0 : upd H4 lv0 (HO.lst [V.int 0]) lv0 = some (HO.lst [V.int 0]) := upd_same
    have s5 : Same H4 (upd H4 lv0 (HO.lst [V.int 0])) := same_upd nlv0
    generalize upd H4 lv0 (HO.lst [V.int 0]) = H5 at elv0 s5 ⊢
    refine ⟨_, rfl, xl, _, rfl, SqL.of (s5 _ _ ex4), fun lr nlr => ?_⟩
    have elr : upd H5 lr (HO.lst (xs.map V.int).reverse) lr = some (HO.lst (xs.map V.int).reverse) := upd_same
    have s6 : Same H5 (upd H5 lr (HO.lst (xs.map V.int).reverse)) := same_upd nlr
    generalize upd H5 lr (HO.lst (xs.map V.int).reverse) = H6 at elr s6 ⊢
    have ell6 := s6 _ _ (s5 _ _ (s4 _ _ ell))
    have bb : ((bot : Int)).natAbs ≤ 2 ^ 140 := by rw [Int.natAbs_natCast]; exact lle
    have hsc : ∀ j, ((bot : Int) ^ j).natAbs ≤ 2 ^ (140 * j) := fun j => by
      rw [Int.natAbs_pow, Nat.pow_mul]
      exact Nat.pow_le_pow_left bb _
    refine ⟨lr, rfl, ⟨_, SqL.of elr⟩, for_list (K := K) (a := lr) (xs := (xs.map V.int).reverse) (fun j σ H' => ∃ (lv : Addr) (vs : List Int) (v13 : Option V), σ = [some (.ref a), some v, some u, some (.int s.num), some (.int (s.den : Int)), some (.int t.num), some (.int (t.den : Int)), some (.int (bot : Int)), some (.ref ll), some (.ref xl), some (.int (B : Int)), some (.ref lv), some (.int ((bot : Int) ^ j)), v13, none] ∧ Same H6 H' ∧ RI H' lv vs ∧ vs.length = j + 1 ∧ (∀ i, (ci vs i).natAbs ≤ 2 ^ (170 + 212 * j)) ∧ ∀ i, cf (mvl s t (A.drop (A.length - j))) i * ((B : Rat) * (((bot : Int) ^ j : Int) : Rat)) = ((ci vs i : Int) : Rat) * ((bot : Nat) : Rat))
      ⟨lv0, [0], none, rfl, Same.refl _, s6 _ _ elv0, rfl, fun i => ?_, fun i => ?_⟩ (fun j σ H' _ ⟨_, _, _, _, ss, _⟩ => SqL.of (ss _ _ elr)) ?_ ?_⟩
    · have z : ci [0] i = 0 := by
        cases i with
        | zero => rfl
        | succ i => exact ci_ge (by show 1 ≤ _; omega)
      rw [z]
      exact Nat.zero_le _
    · have z : ci [0] i = 0 := by
        cases i with
        | zero => rfl
        | succ i => exact ci_ge (by show 1 ≤ _; omega)
      rw [z, Nat.sub_zero, List.drop_length]
      show cf [] i * _ = ((0 : Int) : Rat) * _
      rw [cf_nil, Rat.zero_mul, show ((0 : Int) : Rat) = 0 from rfl, Rat.zero_mul]
    · rintro j y σ H7 hj ⟨lv, vs, v13, rfl, s7, elv, lvs, bv, hv⟩
      obtain ⟨rfl, hjl⟩ := rev_ci hj
      have blin : ∀ i, (ci [l0, l1] i).natAbs < 2 ^ 8700 := fun i => by
        match i with
        | 0 => exact lt_4000 hl0 (by decide)
        | 1 => exact lt_4000 hl1 (by decide)
        | i + 2 =>
          rw [ci_ge (by show 2 ≤ _; omega)]
          exact Nat.pow_pos (by decide)
      refine ⟨_, rfl, _, rfl, lv, ll, vs, [l0, l1], rfl, elv, s7 _ _ ell6, by omega, (by show 2 ≤ 500; decide), fun i => lt_4000 (bv i) (by omega), blin, fun l H8 s8 nl el => ?_⟩
      have ews : pmI vs [l0, l1] = tabI (j + 2) (pcI vs [l0, l1]) := by
        unfold pmI
        rw [if_neg (fun z => z.elim (fun z => by rw [z] at lvs; cases lvs) (fun z => by cases z)), lvs]
        rfl
      rw [ews] at el
      have w0 : ((tabI (j + 2) (pcI vs [l0, l1])).map V.int)[0]? = some (V.int (ci (tabI (j + 2) (pcI vs [l0, l1])) 0)) := RI.at (H := H8) (l := l) (by rw [tabI_len]; omega)
      have bn := bx (xs.length - 1 - j)
      refine ⟨_, rfl, l, _, _, _, rfl, rfl, SqL.of el, at_of (j := 0) rfl w0, _, rfl, _, rfl, _, _, rfl, rfl, big_mulW (lt_4000 bn (by decide)) (lt_4000 (hsc j) (by omega)), _, _, rfl, rfl, ?_⟩
      have hix : ixN ((tabI (j + 2) (pcI vs [l0, l1])).map V.int).length 0 = some 0 := by
        unfold ixN
        rw [if_pos (by omega), List.length_map, tabI_len, if_pos (by omega)]
        rfl
      refine ⟨_, rfl, l, _, _, 0, rfl, rfl, el, hix, ?_⟩
      refine ⟨_, rfl, _, rfl, _, _, rfl, rfl, big_mulW (lt_4000 (hsc j) (by omega)) (lt_4000 bb (by decide)), ?_⟩
      have cfn : ∀ i, ci ((tabI (j + 2) (pcI vs [l0, l1])).set 0 (ci (tabI (j + 2) (pcI vs [l0, l1])) 0 + ci xs (xs.length - 1 - j) * (bot : Int) ^ j)) i = ci vs i * l0 + (if i = 0 then 0 else ci vs (i - 1)) * l1 + (if i = 0 then ci xs (xs.length - 1 - j) else 0) * (bot : Int) ^ j := fun i => by
        rw [ci_set (by rw [tabI_len]; omega)]
        by_cases h0 : i = 0
        · subst h0
          rw [if_pos rfl, if_pos rfl, if_pos rfl, ci_tab, if_pos (by omega), pcI_line, if_pos rfl]
          omega
        · rw [if_neg h0, if_neg h0, if_neg h0, ci_tab]
          split
          · rw [pcI_line, if_neg h0]
            omega
          · rw [ci_ge (l := vs) (by omega), ci_ge (l := vs) (by omega)]
            omega
      refine ⟨l, (tabI (j + 2) (pcI vs [l0, l1])).set 0 (ci (tabI (j + 2) (pcI vs [l0, l1])) 0 + ci xs (xs.length - 1 - j) * (bot : Int) ^ j), some (.int (ci xs (xs.length - 1 - j))), ?_, fun b' o' e' => ?_, ?_, by rw [List.length_set, tabI_len], fun i => ?_, fun i => ?_⟩
      · rw [Int.pow_succ]
        rfl
      · have e7 := s7 _ _ e'
        rw [upd_ne (ne_of_none e7 nl)]
        exact s8 _ _ e7
      · unfold RI
        rw [upd_same, List.map_set]
      · rw [cfn]
        refine mv_size (bv i) ?_ hl0 hl1 ?_ (hsc j)
        · split
          · exact Nat.zero_le _
          · exact bv _
        · split
          · exact bn
          · exact Nat.zero_le _
      · rw [cfn, show A.drop (A.length - (j + 1)) = cf A (A.length - 1 - j) :: A.drop (A.length - j) from by
          rw [List.drop_eq_getElem_cons (show A.length - (j + 1) < A.length by omega), cf_lt (show A.length - 1 - j < A.length by omega), show A.length - (j + 1) + 1 = A.length - j by omega]
          congr 2
          omega, mvl_cf, Int.pow_succ, Rat.intCast_mul, Rat.intCast_add, Rat.intCast_add, Rat.intCast_mul, Rat.intCast_mul, Rat.intCast_mul]
        have e5 := fx (A.length - 1 - j)
        rw [show A.length - 1 - j = xs.length - 1 - j by omega] at e5 ⊢
        have g2 : (if i = 0 then (0 : Rat) else cf (mvl s t (A.drop (A.length - j))) (i - 1)) * ((B : Rat) * (((bot : Int) ^ j : Int) : Rat)) = (((if i = 0 then 0 else ci vs (i - 1)) : Int) : Rat) * ((bot : Nat) : Rat) := by
          split
          · rw [Rat.zero_mul, show ((0 : Int) : Rat) = 0 from rfl, Rat.zero_mul]
          · exact hv _
        have g3 : (if i = 0 then cf A (xs.length - 1 - j) else 0) * (B : Rat) = (((if i = 0 then ci xs (xs.length - 1 - j) else 0) : Int) : Rat) := by
          split
          · exact e5
          · rw [Rat.zero_mul]
            rfl
        have g4 : (if i = 0 then (0 : Rat) else cf (mvl s t (A.drop (A.length - j))) (i - 1) * t) = (if i = 0 then (0 : Rat) else cf (mvl s t (A.drop (A.length - j))) (i - 1)) * t := by
          split
          · rw [Rat.zero_mul]
          · rfl
        rw [g4]
        exact mv_over (S := (((bot : Int) ^ j : Int) : Rat)) rfl (hv i) g2 ol0 ol1 g3
    · rintro σ H7 ⟨lv, vs, v13, rfl, s7, elv, lvs, bv, hv⟩
      rw [List.length_reverse, List.length_map, nx] at lvs bv hv ⊢
      rw [Nat.sub_self, List.drop_zero] at hv
      have z1 := fun i => lt_4000 (bv i) (by omega)
      have z2 := lt_4000 bb (by decide)
      have z3 := lt_4000 (hsc A.length) (by omega)
      have z4 : ((B : Int)).natAbs < 2 ^ 8700 := by rw [Int.natAbs_natCast]; exact lt_4000 B156 (by decide)
      refine ⟨_, rfl, lv, rfl, lc_seq (xs := vs.map V.int) (.inl (SqL.of elv)) (fun D i H' => Same H7 H' ∧ H' D = some (.lst ((tabI i fun k => ci vs k * (bot : Int)).map V.int))) ?_ ?_ ?_ ?_⟩
      · intro D hD
        exact ⟨same_upd hD, upd_same⟩
      · intro D i H9 hD ⟨s9, _⟩
        exact ⟨same_sqL s9, same_sqT s9⟩
      · intro D i y H9 hD hi ⟨s9, eD⟩
        have hi' : i < vs.length := by
          have := (List.getElem?_eq_some_iff.mp hi).1
          rw [List.length_map] at this
          exact this
        rw [RI.at (H := H) (l := lv) hi'] at hi
        cases hi
        refine ⟨rfl, ?_⟩
        refine ⟨_, rfl, _, rfl, _, _, rfl, rfl, big_mulW (z1 i) z2, ?_⟩
        refine ⟨_, eD, ?_, (fun b' o' e' => ?_), ?_⟩
        · rw [List.length_map, tabI_len, sizeLine_eq]
          omega
        · rw [upd_ne (ne_of_none e' hD)]
          exact s9 _ _ e'
        · rw [upd_same, tabI_snoc, List.map_append]
          rfl
      · intro D H9 hD ⟨s9, eD⟩
        rw [List.length_map] at eD
        have p0 : (0 : Int) < (bot : Int) ^ A.length := Int.pow_pos (by omega)
        refine ⟨_, rfl, _, rfl, _, _, rfl, rfl, big_mulW z4 z3, ?_⟩
        refine ⟨D, _, _, tab vs.length (cf (mvl s t A)), rfl, eD, Int.mul_pos (by omega) p0, ?_, by rw [tabI_len]; omega, by rw [tabI_len, tab_len], fun i => ?_, fun x H10 s10 made => ?_⟩
        · rw [Int.natAbs_mul, Int.natAbs_natCast]
          have h := Nat.mul_le_mul B156 (hsc A.length)
          rw [← Nat.pow_add] at h
          exact Nat.lt_of_le_of_lt h (Nat.pow_lt_pow_right (by decide) (by show 156 + 140 * A.length < 8800; omega))
        · rw [cf_tab, ci_tab]
          split
          · rw [Rat.intCast_mul, Rat.intCast_mul]
            exact hv i
          · rw [Rat.zero_mul]
            rfl
        · have e : stripQ (tab vs.length (cf (mvl s t A))) = mvl s t A := by
            rw [← mvl_stp s t A]
            refine stripQ_ext fun i => ?_
            rw [cf_tab, mvl_stp]
            split
            · rfl
            · rw [cf_ge]
              have := mvl_len s t A
              omega
          rw [e] at made
          exact q x H10 (s03.trans (s4.trans (s5.trans (s6.trans (s7.trans (s9.trans s10)))))) made
end
end Vf
set_option maxRecDepth 100000
namespace Vf
theorem pow_mulR (x y : Rat) : ∀ n : Nat, (x * y) ^ n = x ^ n * y ^ n
  | 0 => by rw [Rat.pow_zero, Rat.pow_zero, Rat.pow_zero]; grind
  | n + 1 => by rw [Rat.pow_succ, Rat.pow_succ, Rat.pow_succ, pow_mulR x y n]; grind
theorem pow_castI (z : Int) : ∀ n : Nat, ((z ^ n : Int) : Rat) = (z : Rat) ^ n
  | 0 => by rw [Int.pow_zero, Rat.pow_zero]; rfl
  | n + 1 => by rw [Int.pow_succ, Rat.pow_succ, Rat.intCast_mul, pow_castI z n]
end Vf
set_option maxRecDepth 100000
set_option maxHeartbeats 8000000
namespace Vf
open PySem PySem.Spec PyProof.Rows L2
def RV (K : PySem.W.Frag) (H : Hp) (v : V) (q : Rat) : Prop := ∃ (d : PyData) (t b : Int), Dt K H v d ∧ partsD d = some (t, b) ∧ q * (b : Rat) = (t : Rat) ∧ Sz t ∧ Sz b
theorem RV.same {K : PySem.W.Frag} {H H' : Hp} {v : V} {q : Rat} (h : RV K H v q) (s : Same H H') : RV K H' v q := by
  obtain ⟨d, t, b, h1, h2⟩ := h
  exact ⟨d, t, b, h1.mono s, h2⟩
theorem RV.tup {K : PySem.W.Frag} {H : Hp} {r : Addr} {t b : Int} {q : Rat} (e : H r = some (.tup [.int t, .int b])) (b0 : 0 < b) (h : q * (b : Rat) = (t : Rat)) (z1 : Sz t) (z2 : Sz b) : RV K H (.ref r) q := by
  refine ⟨.tuple [.int t, .int b], t, b, .tup (SqT.of e) (.cons (.int _) (.cons (.int _) .nil)), ?_, h, z1, z2⟩
  show (if 0 < b then some (t, b) else none) = _
  rw [if_pos b0]
theorem RV.tr {K : PySem.W.Frag} {H : Hp} {r : Addr} {q : Rat} (e : TR H r q) (z : Sr q) : RV K H (.ref r) q := by
  have d0 := q.den_pos
  refine RV.tup (t := q.num) (b := (q.den : Int)) e (by omega) ?_ z.1 (by show (q.den : Int).natAbs < _; rw [Int.natAbs_natCast]; exact z.2)
  exact num_den q
theorem RV.int {K : PySem.W.Frag} {H : Hp} {i : Int} (z : Sz i) : RV K H (.int i) (i : Rat) := ⟨.int i, i, 1, .int i, rfl, by rw [show ((1 : Int) : Rat) = 1 from rfl, Rat.mul_one], z, by show (1 : Nat) < 2 ^ 4300; exact Nat.one_lt_pow (by decide) (by decide)⟩
theorem tr_low {H : Hp} {p : Addr} {t b : Int} {q : Rat} (e : H p = some (.tup [.int (low t b).1, .int (low t b).2])) (hb : b ≠ 0) (h : q * (b : Rat) = (t : Rat)) : TR H p q := by
  unfold TR
  rw [e, low_mul hb h]
  rfl
section
variable {K : PySem.W.Frag} {CN : Addr} {H : Hp} {v u : V} {a b : Rat} {Q : VK} {E : XK}
theorem rv_two {g : Int → Int → Int → Int → Int × Int} {f : Rat → Rat → Rat} (hv : RV K H v a) (hu : RV K H u b) (hg : ∀ t m x c : Int, 0 < m → 0 < c → a * (m : Rat) = (t : Rat) → b * (c : Rat) = (x : Rat) → (g t m x c).2 ≠ 0 ∧ f a b * ((g t m x c).2 : Rat) = ((g t m x c).1 : Rat))
    (q : ∀ (p : Addr) (H' : Hp), Same H H' → TR H' p (f a b) → Q (.ref p) H') : spTwo K CN (okLow g) [v, u] H Q E := by
  obtain ⟨d, t, m, h1, h2, h3, z1, z2⟩ := hv
  obtain ⟨e, x, c, g1, g2, g3, z3, z4⟩ := hu
  refine ⟨v, u, d, e, rfl, h1, g1, fun t' m' x' c' e1 e2 => ?_, fun z => (by rw [h2] at z; cases z), fun _ z => (by rw [g2] at z; cases z)⟩
  rw [h2] at e1
  rw [g2] at e2
  cases e1
  cases e2
  refine ⟨z1, z2, z3, z4, fun p H' s e => q p H' s ?_⟩
  obtain ⟨n0, n1⟩ := hg t m x c (parts_pos h2) (parts_pos g2) h3 g3
  exact tr_low e n0 n1
theorem rv_times (hv : RV K H v a) (hu : RV K H u b) (q : ∀ (p : Addr) (H' : Hp), Same H H' → TR H' p (a * b) → Q (.ref p) H') : spTwo K CN (okLow gTimes) [v, u] H Q E := by
  refine rv_two (f := fun x y => x * y) hv hu (fun t m x c m0 c0 e1 e2 => ⟨Int.ne_of_gt (Int.mul_pos m0 c0), ?_⟩) q
  show a * b * ((m * c : Int) : Rat) = ((t * x : Int) : Rat)
  rw [Rat.intCast_mul, Rat.intCast_mul, ← e1, ← e2]
  grind
theorem rv_plus (hv : RV K H v a) (hu : RV K H u b) (q : ∀ (p : Addr) (H' : Hp), Same H H' → TR H' p (a + b) → Q (.ref p) H') : spTwo K CN (okLow gPlus) [v, u] H Q E := by
  refine rv_two (f := fun x y => x + y) hv hu (fun t m x c m0 c0 e1 e2 => ⟨Int.ne_of_gt (Int.mul_pos m0 c0), ?_⟩) q
  show (a + b) * ((m * c : Int) : Rat) = ((t * c + x * m : Int) : Rat)
  rw [Rat.intCast_add, Rat.intCast_mul, Rat.intCast_mul, Rat.intCast_mul, ← e1, ← e2]
  grind
theorem rv_minus (hv : RV K H v a) (hu : RV K H u b) (q : ∀ (p : Addr) (H' : Hp), Same H H' → TR H' p (a - b) → Q (.ref p) H') : spTwo K CN (okLow gMinus) [v, u] H Q E := by
  refine rv_two (f := fun x y => x - y) hv hu (fun t m x c m0 c0 e1 e2 => ⟨Int.ne_of_gt (Int.mul_pos m0 c0), ?_⟩) q
  show (a - b) * ((m * c : Int) : Rat) = ((t * c - x * m : Int) : Rat)
  rw [Rat.intCast_sub, Rat.intCast_mul, Rat.intCast_mul, Rat.intCast_mul, ← e1, ← e2]
  grind
theorem rv_share (hv : RV K H v a) (hu : RV K H u b) (hb : b ≠ 0) (q : ∀ (p : Addr) (H' : Hp), Same H H' → TR H' p (a / b) → Q (.ref p) H') : spTwo K CN (okShare CN) [v, u] H Q E := by
  obtain ⟨d, t, m, h1, h2, h3, z1, z2⟩ := hv
  obtain ⟨e, x, c, g1, g2, g3, z3, z4⟩ := hu
  refine ⟨v, u, d, e, rfl, h1, g1, fun t' m' x' c' e1 e2 => ?_, fun z => (by rw [h2] at z; cases z), fun _ z => (by rw [g2] at z; cases z)⟩
  rw [h2] at e1
  rw [g2] at e2
  cases e1
  cases e2
  have m0 := parts_pos h2
  have c0 := parts_pos g2
  have x0 : x ≠ 0 := fun z => by
    subst z
    have hc : (c : Rat) ≠ 0 := by exact_mod_cast Int.ne_of_gt c0
    rcases Rat.mul_eq_zero.mp (show b * (c : Rat) = 0 from g3) with h | h
    · exact hb h
    · exact hc h
  refine ⟨z1, z2, z3, z4, fun z => absurd z x0, fun _ p H' s e => q p H' s ?_⟩
  refine tr_low e (Int.mul_ne_zero (Int.ne_of_gt m0) x0) ?_
  show a / b * ((m * x : Int) : Rat) = ((t * c : Int) : Rat)
  rw [Rat.intCast_mul, Rat.intCast_mul, ← g3, ← h3]
  have : a / b * b = a := Rat.div_mul_cancel hb
  have e5 : a / b * ((m : Rat) * (b * (c : Rat))) = (a / b * b) * ((m : Rat) * (c : Rat)) := by grind
  rw [e5, this]
  grind
end
def spPow (K : PySem.W.Frag) : Sp := fun vs H Q _ => ∃ (r : Addr) (q : Rat) (k : Nat), vs = [.ref r, .int (k : Int)] ∧ TR H r q ∧ k ≤ 6 ∧ q.num.natAbs ≤ 2 ^ 60 ∧ q.den ≤ 2 ^ 60 ∧ ∀ (p : Addr) (H' : Hp), Same H H' → RV K H' (.ref p) (q ^ k) → Q (.ref p) H'
def spSize : Sp := fun vs H Q _ => ∃ (r : Addr) (q : Rat), vs = [.ref r] ∧ TR H r q ∧ ∀ (p : Addr) (H' : Hp), Same H H' → TR H' p (absR q) → Q (.ref p) H'
theorem absR_tr (q : Rat) : (absR q).num = (q.num.natAbs : Int) ∧ (absR q).den = q.den := by
  unfold absR
  split
  · rename_i h
    have : ¬ 0 ≤ q.num := fun z => by have := Rat.num_nonneg.mp z; grind
    exact ⟨by rw [Rat.neg_num]; omega, Rat.neg_den q⟩
  · rename_i h
    have h : 0 ≤ q := Rat.not_lt.mp h
    have := Rat.num_nonneg.mpr h
    exact ⟨by omega, rfl⟩
section
variable {P : Program} {w : World} {K : PySem.W.Frag} {mg : Str → Option Value} {base : Heap} {CP CR CN : Addr}
abbrev sPow : Stmt := topS 37
theorem scPow : FnScope ["ratio", "many", "top", "bottom", "above", "below", "_"] ["ratio", "many"] (defScope sPow) := ⟨rfl, rfl, rfl, by decide +kernel, rfl, by decide +kernel, by decide +kernel⟩
theorem ok_pow {f : Addr} {fd : FuncData} (F : Fun K "power_of" "power_of" sPow f fd) (T : Bk mg) (G_told : Dx P w K mg base "told" 4 ["value", "what"] (spTold K CN)) : FnOk P w K mg base (L2.CX P w) 5 f fd ["ratio", "many"] (spPow K) := by
  refine F.okX scPow (fun vs H Q E h => ?_) (fun cdv A0 outer s0 H vs Q E hr h => ?_)
  · obtain ⟨r, q, k, rfl, _⟩ := h
    rfl
  · obtain ⟨r, q, k, rfl, er, hk, zn, zd, qq⟩ := h
    refine ⟨_, (pss_cons (ps_asg (pe_call G_told.ok (hr.mono (by decide)) rfl G_told.m G_told.kp G_told.b .nil (E := E) (passes_call (takes_of rfl rfl rfl rfl) (fun _ _ _ _ h => h)) (pa_cons (pv 0) (pa_cons pe_str pa_nil))) (pg_tup (by rfl) (pgs_cons (pg_name (i := 2) scPow.nd rfl (Or.inl rfl)) (pgs_cons (pg_name (i := 3) scPow.nd rfl (Or.inl rfl)) pgs_nil))))
  (PSs.nox (pss_cons (ps_asg2 pe_int (pg_name (i := 4) scPow.nd rfl (Or.inl rfl)) (pg_name (i := 5) scPow.nd rfl (Or.inl rfl)))
  (pss_cons (ps_for PassesOwn.never rfl (pi_range1 (by rfl) T.range (pa_cons (pv 1) pa_nil)) (pg_name (i := 6) scPow.nd rfl (Or.inl rfl))
    (pss_cons (ps_set (i := 4) scPow.nd rfl (Or.inl rfl) (pe_op op_mulW (pv 4) (pv 2)))
    (pss_one (ps_set (i := 5) scPow.nd rfl (Or.inl rfl) (pe_op op_mulW (pv 5) (pv 3))))))
  (pss_one (ps_ret (pe_tup (pa_cons (pv 4) (pa_cons (pv 5) pa_nil))))))))), ?_⟩
    have d0 := q.den_pos
    have lt : ∀ {j : Nat}, j ≤ 6 → (q.num ^ j).natAbs ≤ 2 ^ (60 * j) ∧ ((q.den : Int) ^ j).natAbs ≤ 2 ^ (60 * j) := fun {j} _ => by
      rw [Int.natAbs_pow, Int.natAbs_pow, Int.natAbs_natCast, Nat.pow_mul]
      exact ⟨Nat.pow_le_pow_left zn _, Nat.pow_le_pow_left zd _⟩
    have l39 : ∀ {x : Int} {j : Nat}, x.natAbs ≤ 2 ^ (60 * j) → j ≤ 6 → x.natAbs < 2 ^ 8700 := fun h hj => Nat.lt_of_le_of_lt h (Nat.pow_lt_pow_right (by decide) (by omega))
    have b1 : q.num.natAbs < 2 ^ 8700 := Nat.lt_of_le_of_lt zn (Nat.pow_lt_pow_right (by decide) (by decide))
    have b2 : ((q.den : Int)).natAbs < 2 ^ 8700 := by rw [Int.natAbs_natCast]; exact Nat.lt_of_le_of_lt zd (Nat.pow_lt_pow_right (by decide) (by decide))
    have pd : partsD (.tuple [.int q.num, .int (q.den : Int)]) = some (q.num, (q.den : Int)) := by
      show (if (0 : Int) < (q.den : Int) then some (q.num, (q.den : Int)) else none) = _
      rw [if_pos (by omega)]
    refine ⟨_, rfl, .ref r, .str "ratio", .tuple [.int q.num, .int (q.den : Int)], rfl, .tup (SqT.of er) (.cons (.int _) (.cons (.int _) .nil)), fun t b hp => ?_, fun z => by rw [pd] at z; cases z⟩
    rw [pd] at hp
    cases hp
    refine ⟨Nat.lt_trans b2 (Nat.pow_lt_pow_right (by decide) (by decide)), fun p H1 s1 e1 => ?_⟩
    have e1 : TR H1 p q := tr_low e1 (by omega) (num_den q)
    refine ⟨p, _, rfl, SqT.of e1, rfl, _, _, rfl, _, _, rfl, rfl, ?_⟩
    refine ⟨_, rfl, _, rfl, by omega, by omega, for_range (lo := 0) (n := ((k : Nat) : Int).toNat) (fun i σ H' => ∃ v6 : Option V, σ = [some (.ref r), some (.int (k : Int)), some (.int q.num), some (.int (q.den : Int)), some (.int (q.num ^ i)), some (.int ((q.den : Int) ^ i)), v6] ∧ H' = H1) ⟨none, by rw [Int.pow_zero, Int.pow_zero]; rfl, rfl⟩ ?_ ?_⟩
    · rintro i σ H' hi ⟨v6, rfl, rfl⟩
      obtain ⟨l1, l2⟩ := lt (j := i) (by omega)
      refine ⟨_, rfl, _, rfl, _, _, rfl, rfl, big_mulW (l39 l1 (by omega)) b1, _, rfl, _, rfl, _, _, rfl, rfl, big_mulW (l39 l2 (by omega)) b2, some (.int (0 + (i : Int))), ?_, rfl⟩
      rw [Int.pow_succ, Int.pow_succ]
      rfl
    · rintro σ H' ⟨v6, rfl, rfl⟩
      rw [Int.toNat_natCast]
      refine ⟨_, rfl, _, rfl, (by show 2 ≤ sizeLine; decide), fun p2 n2 => ?_⟩
      obtain ⟨l1, l2⟩ := lt (j := k) hk
      have up : ∀ {x : Int}, x.natAbs ≤ 2 ^ (60 * k) → x.natAbs < 2 ^ 4300 := fun h => Nat.lt_of_le_of_lt h (Nat.pow_lt_pow_right (by decide) (by omega))
      refine qq p2 _ (s1.trans (same_upd n2)) (RV.tup upd_same (Int.pow_pos (by omega)) ?_ (up l1) (up l2))
      rw [pow_castI, pow_castI, ← num_den q, pow_mulR]
      rfl
theorem absR_sr {q : Rat} (h : Sr q) : Sr (absR q) := by
  obtain ⟨h1, h2⟩ := absR_tr q
  unfold Sr
  rw [h1, h2, Int.natAbs_natCast]
  exact h
abbrev sSize : Stmt := topS 39
theorem scSize : FnScope ["ratio", "top", "bottom"] ["ratio"] (defScope sSize) := ⟨rfl, rfl, rfl, by decide +kernel, rfl, by decide +kernel, by decide +kernel⟩
theorem ok_size {f : Addr} {fd : FuncData} (F : Fun K "size_of" "size_of" sSize f fd) (T : Bk mg) : FnOk P w K mg base CX0 1 f fd ["ratio"] spSize := by
  refine F.ok scSize (fun vs H Q E h => ?_) (fun cdv A0 outer s0 H vs Q E hr h => ?_)
  · obtain ⟨r, q, rfl, _⟩ := h
    rfl
  · obtain ⟨r, q, rfl, er, qq⟩ := h
    refine ⟨_, (pss_cons (ps_asg (pv 0) (pg_tup (by rfl) (pgs_cons (pg_name (i := 1) scSize.nd rfl (Or.inl rfl)) (pgs_cons (pg_name (i := 2) scSize.nd rfl (Or.inl rfl)) pgs_nil))))
  (pss_one (ps_ret (pe_tup (pa_cons (pe_callB call_abs (by rfl) T.abs (by decide +kernel) (pa_cons (pv 1) pa_nil)) (pa_cons (pv 2) pa_nil)))))), ?_⟩
    refine ⟨_, rfl, r, _, rfl, SqT.of er, rfl, _, _, rfl, _, _, rfl, rfl, ?_⟩
    refine ⟨_, rfl, q.num, rfl, _, rfl, (by show 2 ≤ sizeLine; decide), fun p2 n2 => qq p2 _ (same_upd n2) ?_⟩
    unfold TR
    rw [upd_same]
    obtain ⟨h1, h2⟩ := absR_tr q
    rw [h1, h2]
    have : (if q.num < 0 then -q.num else q.num) = (q.num.natAbs : Int) := by split <;> omega
    rw [this]
end
end Vf
set_option maxRecDepth 100000
set_option maxHeartbeats 4000000
set_option maxRecDepth 100000
set_option maxHeartbeats 8000000
namespace Vf
open PySem PySem.Spec PyProof.Rows L2
/-- a value as an object keeps it -/
def spHeld (K : PySem.W.Frag) : Sp := fun vs H Q _ => ∃ (v : V) (t : Value), vs = [v] ∧ TyX K H v t ∧ ((PySem.W.kitOne K t (.type "list") = some false ∧ Q v H) ∨ (PySem.W.kitOne K t (.type "list") = some true ∧ ∃ l xs, v = .ref l ∧ SqL K H l xs ∧ ∀ (a : Addr) (H' : Hp), Same H H' → H a = none → H' a = some (.tup xs) → Q (.ref a) H'))
def ExtI (H H' : Hp) : Prop := ∀ b o, H b = some o → (∀ C dx fs, o ≠ .ins C dx fs) → H' b = some o
theorem ExtI.kp {x C dx : Addr} {fs : List (Str × V)} {H H' : Hp} (hx : H x = some (.ins C dx fs)) (k : Kp x H H') : ExtI H H' := fun b o e n => k b o (fun z => by
  subst z
  rw [hx] at e
  cases e
  exact n _ _ _ rfl) e
structure InC (K : PySem.W.Frag) (mg : Str → Option Value) (name : Str) (C : Addr) (fs : List Str) : Prop where
  m : mg name = some (.ref C)
  cl : Cls K C
  nf : ∀ f ∈ fs, NoAttr K C f
def HK (K : PySem.W.Frag) (CP : Addr) (H : Hp) (v : V) : Prop := (∃ a A, v = .ref a ∧ PolyQ K CP H a A) ∨ (∃ a xs, v = .ref a ∧ H a = some (.tup xs)) ∨ (∃ l xs, v = .ref l ∧ H l = some (.lst xs))
def HR (H H' : Hp) (v b : V) : Prop := (b = v ∧ ∀ l xs, v = .ref l → H l ≠ some (.lst xs)) ∨ ∃ l xs t, v = .ref l ∧ H l = some (.lst xs) ∧ b = .ref t ∧ H' t = some (.tup xs)
theorem HR.i {H H1 H2 : Hp} {v b : V} (h : HR H H1 v b) (s : ExtI H1 H2) : HR H H2 v b := by
  rcases h with h | ⟨l, xs, t, h1, h2, h3, h4⟩
  · exact .inl h
  · exact .inr ⟨l, xs, t, h1, h2, h3, s _ _ h4 fun _ _ _ z => by cases z⟩
theorem HR.same {H H1 H2 : Hp} {v b : V} (h : HR H H1 v b) (s : Same H1 H2) : HR H H2 v b := h.i fun b o e _ => s b o e
theorem HK.kp {K : PySem.W.Frag} {CP x C dx : Addr} {H H' : Hp} {v : V} (h : HK K CP H v) (hx : H x = some (.ins C dx [])) (k : Kp x H H') : HK K CP H' v := by
  have i := ExtI.kp hx k
  rcases h with ⟨a, A, e, dy, q, as, h1, h2, h3⟩ | ⟨a, xs, e, h⟩ | ⟨a, xs, e, h⟩
  · refine .inl ⟨a, A, e, dy, q, as, k a _ (fun z => ?_) h1, i _ _ h2 (fun _ _ _ z => by cases z), h3.imp fun a p z => i _ _ z (fun _ _ _ z => by cases z)⟩
    subst z
    rw [hx] at h1
    cases h1
  · exact .inr (.inl ⟨a, xs, e, i _ _ h (fun _ _ _ z => by cases z)⟩)
  · exact .inr (.inr ⟨a, xs, e, i _ _ h (fun _ _ _ z => by cases z)⟩)
/-- what held comes to -/
theorem held_in {K : PySem.W.Frag} {mg : Str → Option Value} {CP x C dx : Addr} {H H1 : Hp} {v : V} {Q : VK} {E : XK} (PC : PoC K mg CP) (hpl : PySem.W.kitOne K (.ref CP) (.type "list") = some false) (h : HK K CP H v) (hx : H x = some (.ins C dx [])) (k : Kp x H H1)
    (q : ∀ b H2, Same H1 H2 → HR H H2 v b → Q b H2) : spHeld K [v] H1 Q E := by
  have i := ExtI.kp hx k
  have h' := h.kp hx k
  rcases h with ⟨a, A, e, h⟩ | ⟨a, xs, e, h⟩ | ⟨a, xs, e, h⟩
  · obtain ⟨dy, t, as, h1, h2, h3⟩ := h
    have h1' : H1 a = some (.ins CP dy [("numbers", .ref t)]) := k a _ (fun z => by
      subst z
      rw [hx] at h1
      cases h1) h1
    subst e
    refine ⟨_, .ref CP, rfl, .base (.ins h1' PC.cl PC.ca PC.cn PC.ct PC.cm), .inl ⟨hpl, q _ _ (Same.refl _) (.inl ⟨rfl, fun l ys z => ?_⟩)⟩⟩
    cases z
    rw [h1]
    intro z
    cases z
  · subst e
    refine ⟨_, .type "tuple", rfl, .base (.tup (xs := xs) ?_), .inl ⟨kit_ty (show kitB "tuple" "list" = some false by decide +kernel), q _ _ (Same.refl _) (.inl ⟨rfl, fun l ys z => ?_⟩)⟩⟩
    · exact i _ _ h fun _ _ _ z => by cases z
    · cases z
      rw [h]
      intro z
      cases z
  · subst e
    have h2 := i _ _ h fun _ _ _ z => by cases z
    refine ⟨_, .type "list", rfl, .base (.lst h2), .inr ⟨kit_ty (show kitB "list" "list" = some true by decide +kernel), a, xs, rfl, SqL.of h2, fun t H2 s2 nt et => q _ _ s2 (.inr ⟨a, xs, t, rfl, h, rfl, et⟩)⟩⟩
theorem putF_new {f : Str} {v : V} : ∀ {ns : List Str} {bs : List V}, f ∉ ns → ns.length = bs.length → putF f v (ns.zip bs) = (ns ++ [f]).zip (bs ++ [v])
  | [], [], _, _ => rfl
  | n :: ns, b :: bs, h, hl => by
    show (if n = f then (n, v) :: ns.zip bs else (n, b) :: putF f v (ns.zip bs)) = (n, b) :: (ns ++ [f]).zip (bs ++ [v])
    rw [if_neg (fun z => h (by rw [z]; exact List.mem_cons_self ..)), putF_new (fun z => h (List.mem_cons_of_mem _ z)) (by simpa using hl)]
theorem HK.same {K : PySem.W.Frag} {CP : Addr} {H H' : Hp} {v : V} (h : HK K CP H v) (s : Same H H') : HK K CP H' v := by
  rcases h with ⟨a, A, e, h⟩ | ⟨a, xs, e, h⟩ | ⟨a, xs, e, h⟩
  · exact .inl ⟨a, A, e, h.same s⟩
  · exact .inr (.inl ⟨a, xs, e, s _ _ h⟩)
  · exact .inr (.inr ⟨a, xs, e, s _ _ h⟩)
theorem HR.keep {H H' : Hp} {a : Addr} {o : HO} {b : V} (h : HR H H' (.ref a) b) (e : H a = some o) (n : ∀ xs, o ≠ .lst xs) : b = .ref a := by
  rcases h with ⟨h, _⟩ | ⟨l, xs, t, h1, h2, _⟩
  · exact h
  · cases h1
    rw [e] at h2
    cases h2
    exact absurd rfl (n _)
theorem HR.lst {H H' : Hp} {l : Addr} {xs : List V} {b : V} (h : HR H H' (.ref l) b) (e : H l = some (.lst xs)) : ∃ t, b = .ref t ∧ H' t = some (.tup xs) := by
  rcases h with ⟨_, h⟩ | ⟨l', ys, t, h1, h2, h3, h4⟩
  · exact absurd e (h _ _ rfl)
  · cases h1
    rw [e] at h2
    cases h2
    exact ⟨t, h3, h4⟩
def RaisesI (CI : Addr) (H : Hp) (v u : V) (E : XK) : Prop := ∀ (d : Addr) (H' : Hp), Same H H' → H d = none → H' d = some (.xd (fl ["low", "high"] [v, u])) → E (.ref CI) (some d) H'
theorem RaisesI.same {CI : Addr} {H H1 : Hp} {v u : V} {E : XK} (s : Same H H1) (h : RaisesI CI H v u E) : RaisesI CI H1 v u E := fun d H' s' n e => h d H' (s.trans s') (s.free n) e
/-- the two ends of an interval, as they are passed -/
def ivD (d e : PyData) : Prop := ∃ t b x c, partsD d = some (t, b) ∧ partsD e = some (x, c) ∧ t * c < x * b
def spNeedI (K : PySem.W.Frag) (CI : Addr) : Sp := fun vs H Q E => ∃ (v u : V) (d e : PyData), vs = [v, u] ∧ Dt K H v d ∧ Dt K H u e ∧ (∀ t b x c, partsD d = some (t, b) → partsD e = some (x, c) → Sz t ∧ Sz b ∧ Sz x ∧ Sz c) ∧
  (ivD d e → ∀ H', Same H H' → Q .non H') ∧ (¬ ivD d e → RaisesI CI H v u E)
def spIns (K : PySem.W.Frag) (CP C : Addr) (names : List Str) : Sp := fun vs H Q _ => ∃ (x dx : Addr) (as : List V), vs = .ref x :: as ∧ as.length = names.length ∧ H x = some (.ins C dx []) ∧ (∀ v ∈ as, HK K CP H v) ∧
  ∀ (bs : List V) (H' : Hp), Kp x H H' → bs.length = as.length → H' x = some (.ins C dx (names.zip bs)) → (∀ (i : Nat) (v b : V), as[i]? = some v → bs[i]? = some b → HR H H' v b) → Q .non H'
structure InM (P : Program) (w : World) (K : PySem.W.Frag) (mg : Str → Option Value) (base : Heap) (CP : Addr) (name : Str) (Cc : Addr) (fs : List Str) where
  C : InC K mg name Cc fs
  fI : Addr
  dI : FuncData
  mkI : Mk K Cc fI
  okI : FnOk P w K mg base CX0 2 fI dI ("self" :: fs) (spIns K CP Cc fs)
  b : Binds K dI ("self" :: fs) []
/-- what the call C(..) of such a class comes to -/
theorem ins_made {K : PySem.W.Frag} {CP C : Addr} {names : List Str} {H : Hp} {as : List V} {Q : VK} {E : XK} (hl : as.length = names.length) (hk : ∀ v ∈ as, HK K CP H v)
    (q : ∀ (x dx : Addr) (bs : List V) (H1 H' : Hp), Same H H1 → Same H H' → H x = none → bs.length = as.length → H' x = some (.ins C dx (names.zip bs)) → (∀ (i : Nat) (v b : V), as[i]? = some v → bs[i]? = some b → HR H1 H' v b) → Q (.ref x) H') :
    ∀ x dx, H x = none → H dx = none → dx ≠ x → spIns K CP C names (.ref x :: (as ++ [])) (upd (upd H dx (.own x)) x (.ins C dx [])) (fun w H2 => w = .non ∧ Q (.ref x) H2) E := by
  intro x dx nx nd ne
  rw [List.append_nil]
  have s1 : Same H (upd (upd H dx (.own x)) x (.ins C dx [])) := (same_upd nd).trans (same_upd (by rw [upd_ne (Ne.symm ne)]; exact nx))
  refine ⟨x, dx, as, rfl, hl, upd_same, fun v hv => (hk v hv).same s1, fun bs H' k l e r => ⟨rfl, q x dx bs _ H' s1 (fun b o e => k b o (ne_of_none e nx) (s1 _ _ e)) nx l e r⟩⟩
/-- a ratio as it stands beside a Poly -/
def RatT (H : Hp) (v : V) (B : List Rat) : Prop := (∃ i : Int, v = .int i ∧ B = stripQ [(i : Rat)]) ∨ (∃ (r : Addr) (t b : Int) (q : Rat), v = .ref r ∧ H r = some (.tup [.int t, .int b]) ∧ 0 < b ∧ b.natAbs < 2 ^ big ∧ low t b = pq q ∧ B = stripQ [q])
theorem low_int (i : Int) : low i 1 = pq (i : Rat) := low_mul (by decide) (by rw [show ((1 : Int) : Rat) = 1 from rfl, Rat.mul_one])
theorem RatT.dt {K : PySem.W.Frag} {H : Hp} {v : V} {B : List Rat} (h : RatT H v B) : ∃ (d : PyData) (p : Int × Int) (q : Rat), Dt K H v d ∧ partsD d = some p ∧ lowP p = pq q ∧ p.2.natAbs < 2 ^ big ∧ B = stripQ [q] ∧ (tyD d = "int" ∨ tyD d = "tuple") := by
  rcases h with ⟨i, rfl, rfl⟩ | ⟨r, t, b, q, rfl, e, b0, bb, hl, rfl⟩
  · exact ⟨.int i, (i, 1), i, .int i, rfl, low_int i, Nat.one_lt_pow (by decide) (by decide), rfl, .inl rfl⟩
  · refine ⟨.tuple [.int t, .int b], (t, b), q, .tup (SqT.of e) (.cons (.int _) (.cons (.int _) .nil)), ?_, hl, bb, rfl, .inr rfl⟩
    show (if 0 < b then some (t, b) else none) = _
    rw [if_pos b0]
theorem RatT.opd {K : PySem.W.Frag} {CP : Addr} {H : Hp} {v : V} {B : List Rat} (h : RatT H v B) : Opd K CP H v B := by
  obtain ⟨d, p, q, h1, h2, h3, h4, h5, _⟩ := h.dt (K := K)
  exact .inr ⟨d, p, q, h1, h2, h3, h4, h5⟩
theorem RatT.ty {K : PySem.W.Frag} {H : Hp} {v : V} {B : List Rat} (h : RatT H v B) : TyX K H v (.type "int") ∨ TyX K H v (.type "tuple") := by
  obtain ⟨d, p, q, h1, _, _, _, _, h6⟩ := h.dt (K := K)
  have := h1.ty
  rcases h6 with e | e <;> rw [e] at this
  · exact .inl this
  · exact .inr this
theorem RatT.same {H H' : Hp} {v : V} {B : List Rat} (h : RatT H v B) (s : Same H H') : RatT H' v B := by
  rcases h with h | ⟨r, t, b, q, e1, e, z⟩
  · exact .inl h
  · exact .inr ⟨r, t, b, q, e1, s _ _ e, z⟩
/-- what the class is beside tuples and whole numbers -/
structure PoS (K : PySem.W.Frag) (CP : Addr) : Prop where
  sf : PySem.W.selfFirst K CP = true
  t1 : PySem.W.subIn K (.type "tuple") (.ref CP) = some false
  t2 : PySem.W.subIn K (.ref CP) (.type "tuple") = some false
  i1 : PySem.W.subIn K (.type "int") (.ref CP) = some false
  i2 : PySem.W.subIn K (.ref CP) (.type "int") = some false
/-- an operator of the class, the class on the left -/
structure OpW (P : Program) (w : World) (K : PySem.W.Frag) (mg : Str → Option Value) (base : Heap) (CP : Addr) (nm : String) (sp : Sp) where
  f : Addr
  g : Addr
  fd : FuncData
  hs : PySem.W.findIn K (.ref CP) (PySem.dunder nm) = some (some (.ref f))
  hR : PySem.W.findIn K (.ref CP) (PySem.dunderR nm) = some (some (.ref g))
  hf : PySem.W.isFn K (.ref f) = true
  b : Binds K fd ["self", "other"] []
  ok : FnOk P w K mg base (L2.CX P w) 8 f fd ["self", "other"] sp
def rSubW (K : PySem.W.Frag) (CP : Addr) : R2 := fun x y H Q => ∃ (a b : Addr) (A B : List Rat), x = .ref a ∧ y = .ref b ∧ PolyQ K CP H a A ∧ PolyQ K CP H b B ∧ A.length ≤ 13 ∧ B.length ≤ 13 ∧ (∀ i, Sr (cf A i)) ∧ (∀ i, Sr (cf B i)) ∧
  ∀ (z : Addr) (H' : Hp), Same H H' → PolyQ K CP H' z (stripQ (padd A (B.map (- ·)))) → Q (.ref z) H'
def rMulW (K : PySem.W.Frag) (CP : Addr) : R2 := fun x y H Q => ∃ (a : Addr) (A B : List Rat) (M N M' N' : Nat), x = .ref a ∧ PolyQ K CP H a A ∧ ((∃ b, y = .ref b ∧ PolyQ K CP H b B) ∨ RatT H y B) ∧ A.length ≤ 13 ∧ B.length ≤ 13 ∧ (∀ i, Fr M N (cf A i)) ∧ (∀ i, Fr M' N' (cf B i)) ∧ 0 < M ∧ 0 < M' ∧ M < 2 ^ 8700 ∧ N < 2 ^ 8700 ∧ M' < 2 ^ 8700 ∧ N' < 2 ^ 8700 ∧ M * M' < 2 ^ big ∧
  ∀ (z : Addr) (H' : Hp), Same H H' → PolyQ K CP H' z (stripQ (pmul A B)) → Q (.ref z) H'
theorem op_subW {X : Cx} {CP : Addr} {op : Operator} (hn : op.info.2 = "sub") (M : OpW X.prog X.w X.K X.mg X.base CP "sub" (spSubW X.K CP)) (S : PoS X.K CP) (hr : Room 8 X.A) (hx : Passes (L2.CX X.prog X.w) X E0) : OpR X (binaryOp op) (rSubW X.K CP) := by
  intro pins s σ H x y v u Q I rx ry h
  obtain ⟨a, b, A, B, rfl, rfl, hA, hB, lA, lB, sA, sB, q⟩ := h
  have hA' := hA
  obtain ⟨dx, t, as, h1, _, _⟩ := hA'
  have hB' := hB
  obtain ⟨dy, t', bs, g1, _, _⟩ := hB'
  exact op_ownS (by rw [hn]; exact M.hs) M.hf S.sf M.ok M.b hr hx pins s σ H _ _ v u Q I rx ry ⟨a, dx, _, b, dy, _, rfl, rfl, h1, g1, a, _, A, B, rfl, hA, .inl ⟨b, rfl, hB⟩, lA, lB, sA, sB, q⟩
theorem op_mulP {X : Cx} {CP : Addr} {op : Operator} (hn : op.info.2 = "mul") (M : OpW X.prog X.w X.K X.mg X.base CP "mul" (spMulW X.K CP)) (S : PoS X.K CP) (hr : Room 8 X.A) (hx : Passes (L2.CX X.prog X.w) X E0) : OpR X (binaryOp op) (rMulW X.K CP) := by
  intro pins s σ H x y v u Q I rx ry h
  obtain ⟨a, A, B, m, n, m', n', rfl, hA, ho, lA, lB, sA, sB, z⟩ := h
  have hA' := hA
  obtain ⟨dx, t, as, h1, h2, h3⟩ := hA'
  rcases ho with ⟨b, rfl, hb⟩ | hrat
  · have hb' := hb
    obtain ⟨dy, t', bs, g1, _, _⟩ := hb'
    exact op_ownS (by rw [hn]; exact M.hs) M.hf S.sf M.ok M.b hr hx pins s σ H _ _ v u Q I rx ry ⟨a, dx, _, b, dy, _, rfl, rfl, h1, g1, a, _, A, B, m, n, m', n', rfl, hA, .inl ⟨b, rfl, hb⟩, lA, lB, sA, sB, z⟩
  · rcases hrat.ty (K := X.K) with ty | ty
    · exact op_ownL (by rw [hn]; exact M.hs) M.hf S.sf (by rw [hn]; exact M.hR) (by rw [hn]; exact slot_int_mul) S.i1 M.ok M.b hr hx pins s σ H _ _ v u Q I rx ry ⟨a, dx, _, rfl, h1, ty, a, _, A, B, m, n, m', n', rfl, hA, hrat.opd, lA, lB, sA, sB, z⟩
    · exact op_ownL (by rw [hn]; exact M.hs) M.hf S.sf (by rw [hn]; exact M.hR) (by rw [hn]; exact slot_tup_mul) S.t1 M.ok M.b hr hx pins s σ H _ _ v u Q I rx ry ⟨a, dx, _, rfl, h1, ty, a, _, A, B, m, n, m', n', rfl, hA, hrat.opd, lA, lB, sA, sB, z⟩
section
variable {P : Program} {w : World} {K : PySem.W.Frag} {mg : Str → Option Value} {base : Heap} {CP CR CN CI : Addr}
abbrev sHeld : Stmt := topS 22
theorem scHeld : FnScope ["value"] ["value"] (defScope sHeld) := ⟨rfl, rfl, rfl, by decide +kernel, rfl, by decide +kernel, by decide +kernel⟩
theorem ok_held {f : Addr} {fd : FuncData} (F : Fun K "held" "held" sHeld f fd) (T : Bk mg) : FnOk P w K mg base CX0 1 f fd ["value"] (spHeld K) := by
  refine F.ok scHeld (fun vs H Q E h => ?_) (fun cdv A outer s H vs Q E hr h => ?_)
  · obtain ⟨v, t, rfl, _⟩ := h
    rfl
  · obtain ⟨v, t, rfl, ht, h⟩ := h
    refine ⟨_, (pss_one (ps_ret (pe_ifExp (pt_val (pe_callB call_isi (by rfl) T.isinstance (by decide +kernel) (pa_cons (pv 0) (pa_cons (pe_bltn (v := V.ty "list") (by rfl) T.list (by decide +kernel) rfl) pa_nil)))) (pe_callTy call_tuple_of (by rfl) T.tuple (by decide +kernel) (pa_cons (pv 0) pa_nil)) (pv 0)))), ?_⟩
    rcases h with ⟨hk, q⟩ | ⟨hk, l, xs, rfl, hl, q⟩
    · refine ⟨_, rfl, v, .ty "list", t, .type "list", _, rfl, .ty _, ht, hk, _, rfl, ?_⟩
      refine iteF ?_
      exact ⟨_, rfl, q⟩
    · refine ⟨_, rfl, .ref l, .ty "list", t, .type "list", _, rfl, .ty _, ht, hk, _, rfl, ?_⟩
      refine iteT ?_
      exact ⟨_, rfl, l, xs, rfl, .inl ⟨hl, fun a na => q a _ (same_upd na) na upd_same⟩⟩
abbrev sNeaI : Stmt := inClass (topS 41) 0
theorem scNeaI : FnScope ["self", "poly", "error"] ["self", "poly", "error"] (defScope sNeaI) := ⟨rfl, rfl, rfl, by decide +kernel, rfl, by decide +kernel, by decide +kernel⟩
theorem ok_neai {f : Addr} {fd : FuncData} (F : Fun K "__init__" "Nearer.__init__" sNeaI f fd) (T : Bk mg) (C : InC K mg "Nearer" CI ["poly", "error"]) (PC : PoC K mg CP) (hpl : PySem.W.kitOne K (.ref CP) (.type "list") = some false) (G_held : Df P w K mg base "held" 1 ["value"] (spHeld K)) :
    FnOk P w K mg base CX0 2 f fd ["self", "poly", "error"] (spIns K CP CI ["poly", "error"]) := by
  refine F.ok scNeaI (fun vs H Q E h => ?_) (fun cdv A outer s H vs Q E hr h => ?_)
  · obtain ⟨x, dx, as, rfl, hl, _⟩ := h
    rw [List.length_cons, hl]
    rfl
  · obtain ⟨x, dx, as, rfl, hl, hx, hk, q⟩ := h
    obtain ⟨v1, v2, rfl⟩ : ∃ v1 v2, as = [v1, v2] := by
      match as, hl with
      | [v1, v2], _ => exact ⟨v1, v2, rfl⟩
    refine ⟨_, (pss_cons (ps_fld (pv 0) (pe_call G_held.ok (hr.mono (by decide)) rfl G_held.m G_held.kp G_held.b .nil pass0 (pa_cons (pv 1) pa_nil)) rfl)
  (pss_one (ps_fld (pv 0) (pe_call G_held.ok (hr.mono (by decide)) rfl G_held.m G_held.kp G_held.b .nil pass0 (pa_cons (pv 2) pa_nil)) rfl))), ?_⟩
    have k0 : Kp x H H := Kp.refl
    have hg0 : H x = some (.ins CI dx ((([] : List Str)).zip ([] : List V))) := hx
    refine ⟨_, rfl, ?_⟩
    dsimp only [tNil]
    refine held_in PC hpl (hk v1 (by simp)) hx k0 fun b1 H1 s1 r1 => ?_
    have hx1 := s1 _ _ hg0
    refine ⟨_, rfl, x, CI, dx, _, rfl, hx1, C.cl, C.nf _ (by simp), (by show 0 < 1000; decide), ?_⟩
    rw [putF_new (by decide +kernel) rfl]
    have k1 : Kp x H (upd H1 x (.ins CI dx ((["poly"] : List Str).zip [b1]))) := (k0.trans (Kp.of s1)).trans kp_upd
    have i1 : ExtI H1 (upd H1 x (.ins CI dx ((["poly"] : List Str).zip [b1]))) := ExtI.kp hx1 kp_upd
    have hg1 : upd H1 x (.ins CI dx ((["poly"] : List Str).zip [b1])) x = some (.ins CI dx ((["poly"] : List Str).zip [b1])) := upd_same
    generalize hG1 : upd H1 x (.ins CI dx ((["poly"] : List Str).zip [b1])) = G1 at k1 i1 hg1
    have r1 := r1.i i1
    rw [show upd H1 x (HO.ins CI dx ((([] : List Str) ++ [Str.ofString "poly"]).zip (([] : List V) ++ [b1]))) = G1 from hG1]
    refine ⟨_, rfl, ?_⟩
    dsimp only [tNil]
    refine held_in PC hpl (hk v2 (by simp)) hx k1 fun b2 H2 s2 r2 => ?_
    have hx2 := s2 _ _ hg1
    refine ⟨_, rfl, x, CI, dx, _, rfl, hx2, C.cl, C.nf _ (by simp), (by show 1 < 1000; decide), ?_⟩
    rw [putF_new (by decide +kernel) rfl]
    have k2 : Kp x H (upd H2 x (.ins CI dx ((["poly", "error"] : List Str).zip [b1, b2]))) := (k1.trans (Kp.of s2)).trans kp_upd
    have i2 : ExtI H2 (upd H2 x (.ins CI dx ((["poly", "error"] : List Str).zip [b1, b2]))) := ExtI.kp hx2 kp_upd
    have hg2 : upd H2 x (.ins CI dx ((["poly", "error"] : List Str).zip [b1, b2])) x = some (.ins CI dx ((["poly", "error"] : List Str).zip [b1, b2])) := upd_same
    generalize hG2 : upd H2 x (.ins CI dx ((["poly", "error"] : List Str).zip [b1, b2])) = G2 at k2 i2 hg2
    have r1 := (r1.same s2).i i2
    have r2 := r2.i i2
    rw [show upd H2 x (HO.ins CI dx (((["poly"] : List Str) ++ [Str.ofString "error"]).zip (([b1] : List V) ++ [b2]))) = G2 from hG2]
    refine q [b1, b2] G2 k2 rfl hg2 fun i v b e1 e2 => ?_
    match i with
    | 0 =>
      cases e1
      cases e2
      exact r1
    | 1 =>
      cases e1
      cases e2
      exact r2
    | i + 2 => cases e1
abbrev sNeedI : Stmt := topS 23
theorem scNeedI : FnScope ["low", "high"] ["low", "high"] (defScope sNeedI) := ⟨rfl, rfl, rfl, by decide +kernel, rfl, by decide +kernel, by decide +kernel⟩
theorem ok_needi {f : Addr} {fd : FuncData} (F : Fun K "need_interval" "need_interval" sNeedI f fd) (T : Bk mg) (N_BadInterval : Ex P w K mg base "BadInterval" CI ["low", "high"]) (G_is_ratio : Df P w K mg base "is_ratio" 2 ["value"] (spIsRatio K)) (G_lower : Dx P w K mg base "lower" 4 ["one", "other"] (spTwo K CN okLower)) : FnOk P w K mg base (L2.CX P w) 5 f fd ["low", "high"] (spNeedI K CI) := by
  refine F.okX scNeedI (fun vs H Q E h => ?_) (fun cdv A outer s H vs Q E hr h => ?_)
  · obtain ⟨v, u, d, e, rfl, _⟩ := h
    rfl
  · obtain ⟨v, u, d, e, rfl, hd, he, sz, q, er⟩ := h
    refine ⟨_, (pss_one (ps_if (pt_not (PW.pt (pw_and (pt_val (pe_call G_is_ratio.ok (hr.mono (by decide)) rfl G_is_ratio.m G_is_ratio.kp G_is_ratio.b .nil pass0 (pa_cons (pv 0) pa_nil))) (pw_and (pt_val (pe_call G_is_ratio.ok (hr.mono (by decide)) rfl G_is_ratio.m G_is_ratio.kp G_is_ratio.b .nil pass0 (pa_cons (pv 1) pa_nil))) (pw_and1 (pt_val (pe_call G_lower.ok (hr.mono (by decide)) rfl G_lower.m G_lower.kp G_lower.b .nil (E := E) (passes_call (takes_of rfl rfl rfl rfl) (fun _ _ _ _ h => h)) (pa_cons (pv 0) (pa_cons (pv 1) pa_nil)))))))))
    (pss_one (ps_raise rfl (takes_of rfl rfl rfl rfl) (pmk_oex N_BadInterval.ox N_BadInterval.iC N_BadInterval.tI N_BadInterval.ok (hr.mono (by decide)) N_BadInterval.b .nil pass0 (by rfl) N_BadInterval.m (pa_cons (pv 0) (pa_cons (pv 1) pa_nil)))))
    pss_nil)), ?_⟩
    refine ⟨_, rfl, v, d, rfl, hd, fun H1 s1 => ?_⟩
    cases pd : partsD d with
    | none =>
      refine ⟨false, rfl, ?_⟩
      refine iteF ?_
      refine iteT ?_
      refine ⟨_, rfl, _, rfl, (by show 2 ≤ 1000; decide), ?_⟩
      exact raise_end rfl fun dd H' s2 n e2 => (er (fun ⟨_, _, _, _, z, _⟩ => by rw [pd] at z; cases z)).same s1 dd H' s2 n e2
    | some tb =>
      obtain ⟨t, b⟩ := tb
      refine ⟨true, rfl, ?_⟩
      refine iteT ?_
      refine ⟨_, rfl, u, e, rfl, he.mono s1, fun H2 s2 => ?_⟩
      have s12 := s1.trans s2
      cases pe : partsD e with
      | none =>
        refine ⟨false, rfl, ?_⟩
        refine iteF ?_
        refine iteT ?_
        refine ⟨_, rfl, _, rfl, (by show 2 ≤ 1000; decide), ?_⟩
        exact raise_end rfl fun dd H' s3 n e2 => (er (fun ⟨_, _, _, _, _, z, _⟩ => by rw [pe] at z; cases z)).same s12 dd H' s3 n e2
      | some xc =>
        obtain ⟨x, c⟩ := xc
        obtain ⟨z1, z2, z3, z4⟩ := sz t b x c pd pe
        refine ⟨true, rfl, ?_⟩
        refine iteT ?_
        refine ⟨_, rfl, _, rfl, v, u, d, e, rfl, hd.mono s12, he.mono s12, ?_, ?_, ?_⟩
        · intro t' b' x' c' g1 g2
          rw [pd] at g1
          rw [pe] at g2
          cases g1
          cases g2
          refine ⟨z1, z2, z3, z4, fun H3 s3 => ?_⟩
          by_cases lt : t * c < x * b
          · rw [decide_eq_true lt]
            refine ⟨true, rfl, ?_⟩
            refine iteF ?_
            exact q ⟨t, b, x, c, pd, pe, lt⟩ H3 (s12.trans s3)
          · rw [decide_eq_false lt]
            refine ⟨false, rfl, ?_⟩
            refine iteT ?_
            refine ⟨_, rfl, _, rfl, (by show 2 ≤ 1000; decide), ?_⟩
            refine raise_end rfl fun dd H' s4 n e2 => (er ?_).same (s12.trans s3) dd H' s4 n e2
            rintro ⟨t', b', x', c', g1, g2, g3⟩
            rw [pd] at g1
            rw [pe] at g2
            cases g1
            cases g2
            exact lt g3
        · intro z
          rw [pd] at z
          cases z
        · intro _ z
          rw [pe] at z
          cases z
end
end Vf
set_option maxRecDepth 100000
namespace Vf
/-- a row that is a power -/
structure PWr (f : Rat → Rat) (M N k : Nat) (P : List Rat) : Prop where
  len : P.length ≤ k + 1
  fr : ∀ i, Fr (M ^ k) (N ^ k) (cf P i)
  vl : ∀ x, ev P x = f x ^ k
theorem stripQ_le (l : List Rat) : (stripQ l).length ≤ l.length := stp_len (stripQ_stp l) (cf_stripQ l)
theorem pmul_len (a b : List Rat) : (pmul a b).length = a.length + b.length - 1 := by unfold pmul; rw [tab_len]
theorem pmul_fr {a b : List Rat} {M N M' N' : Nat} (ha : ∀ i, Fr M N (cf a i)) (hb : ∀ i, Fr M' N' (cf b i)) (hl : a.length + b.length ≤ 32) (i : Nat) : Fr (M * M') (32 * (N * N')) (cf (pmul a b) i) := by
  by_cases h : i + 1 ≤ 32
  · rw [cf_pmul]
    unfold pc
    exact (sm_fr fun j _ => (ha j).mul (hb _)).le (Nat.mul_le_mul_right _ h)
  · rw [cf_ge (by rw [pmul_len]; omega)]
    exact Fr.zero _ _
theorem PWr.next {f : Rat → Rat} {M N0 N k : Nat} {P u : List Rat} (h : PWr f M N k P) (hu : u.length ≤ 2) (hf : ∀ i, Fr M N0 (cf u i)) (hN : N = 32 * N0) (he : ∀ x, ev u x = f x) (hk : k ≤ 20) : PWr f M N (k + 1) (stripQ (pmul P u)) where
  len := by
    have := stripQ_le (pmul P u)
    rw [pmul_len] at this
    have := h.len
    omega
  fr := fun i => by
    rw [cf_stripQ, Nat.pow_succ, Nat.pow_succ]
    have := h.len
    have z := pmul_fr h.fr hf (by omega) i
    rw [hN] at *
    rw [show 32 * ((32 * N0) ^ k * N0) = (32 * N0) ^ k * (32 * N0) from by rw [Nat.mul_left_comm]] at z
    exact z
  vl := fun x => by rw [ev_stripQ, ev_pmul, h.vl, he, Rat.pow_succ]
end Vf
set_option maxRecDepth 100000
set_option maxHeartbeats 8000000
namespace Vf
open PySem PySem.Spec PyProof.Rows L2
theorem par_one {ta tb : TE} {i j : Nat} {D : Ends} {σ : L2.St} {H : Hp} (h : ta σ H fun v H1 => tb σ H1 fun w H2 => D.nx ((σ.set i (some v)).set j (some w)) H2) : tPar i j (tCons ta (tCons tb tNil)) D σ H := by
  show ta σ H fun v H1 => tb σ H1 fun w H2 => ∃ x y, [v, w] = [x, y] ∧ D.nx ((σ.set i (some x)).set j (some y)) H2
  have f : (fun v H1 => tb σ H1 fun w H2 => ∃ x y, [v, w] = [x, y] ∧ D.nx ((σ.set i (some x)).set j (some y)) H2) = (fun v H1 => tb σ H1 fun w H2 => D.nx ((σ.set i (some v)).set j (some w)) H2) := by
    funext v H1
    congr 1
    funext w H2
    refine propext ⟨fun ⟨x, y, e, h⟩ => ?_, fun h => ⟨v, w, rfl, h⟩⟩
    cases e
    exact h
  rw [f]
  exact h
theorem par_two {ta tb : TE} {i j : Nat} {rest : TS} {D : Ends} {σ : L2.St} {H : Hp} (h : ta σ H fun v H1 => tb σ H1 fun w H2 => rest D ((σ.set i (some v)).set j (some w)) H2) : tSeq (tPar i j (tCons ta (tCons tb tNil))) rest D σ H := par_one (D := { D with nx := rest D }) h
def Hb (k : Nat) (q : Rat) : Prop := q.num.natAbs ≤ 2 ^ k ∧ q.den ≤ 2 ^ k
theorem Hb.of {k M N : Nat} {q : Rat} (h : Fr M N q) (hM : 0 < M) (h1 : M ≤ 2 ^ k) (h2 : N ≤ 2 ^ k) : Hb k q := by
  obtain ⟨a, b⟩ := h.size hM
  exact ⟨Nat.le_trans a h2, Nat.le_trans b h1⟩
theorem Hb.fr {k : Nat} {q : Rat} (h : Hb k q) : Fr q.den (2 ^ k) q := (Fr.self q).le h.1
theorem Hb.up {k j : Nat} {q : Rat} (h : Hb k q) (hj : k ≤ j) : Hb j q := ⟨Nat.le_trans h.1 (Nat.pow_le_pow_right (by decide) hj), Nat.le_trans h.2 (Nat.pow_le_pow_right (by decide) hj)⟩
theorem Hb.mul {i j : Nat} {a b : Rat} (ha : Hb i a) (hb : Hb j b) : Hb (i + j) (a * b) := by
  refine Hb.of (ha.fr.mul hb.fr) (Nat.mul_pos a.den_pos b.den_pos) ?_ ?_ <;> rw [Nat.pow_add]
  · exact Nat.mul_le_mul ha.2 hb.2
  · exact Nat.le_refl _
theorem Hb.add {i j : Nat} {a b : Rat} (ha : Hb i a) (hb : Hb j b) : Hb (i + j + 1) (a + b) := by
  have h2 : Fr (a.den * b.den) (2 ^ j * a.den) b := by rw [Nat.mul_comm a.den]; exact hb.fr.scale _
  refine Hb.of ((ha.fr.scale b.den).add h2) (Nat.mul_pos a.den_pos b.den_pos) ?_ ?_
  · rw [Nat.pow_succ, Nat.pow_add]
    exact Nat.le_trans (Nat.mul_le_mul ha.2 hb.2) (Nat.le_mul_of_pos_right _ (by decide))
  · have e1 : 2 ^ i * b.den ≤ 2 ^ i * 2 ^ j := Nat.mul_le_mul_left _ hb.2
    have e2 : 2 ^ j * a.den ≤ 2 ^ i * 2 ^ j := by rw [Nat.mul_comm (2 ^ i)]; exact Nat.mul_le_mul_left _ ha.2
    rw [Nat.pow_succ, Nat.pow_add]
    omega
theorem Hb.neg {i : Nat} {a : Rat} (h : Hb i a) : Hb i (-a) := by
  unfold Hb
  rw [Rat.neg_num, Rat.neg_den, Int.natAbs_neg]
  exact h
theorem Hb.sub {i j : Nat} {a b : Rat} (ha : Hb i a) (hb : Hb j b) : Hb (i + j + 1) (a - b) := by
  rw [Rat.sub_eq_add_neg]
  exact ha.add hb.neg
theorem Hb.inv {i : Nat} {b : Rat} (h : Hb i b) (hb : b ≠ 0) : Hb i b⁻¹ := by
  have n0 : b.num ≠ 0 := fun z => hb (Rat.num_eq_zero.mp z)
  have e : b⁻¹ * (b.num.natAbs : Rat) = ((if b.num < 0 then -(b.den : Int) else (b.den : Int) : Int) : Rat) := by
    have e1 : b * (b.den : Rat) = (b.num : Rat) := num_den b
    have e2 : b⁻¹ * b = 1 := Rat.inv_mul_cancel b hb
    have e3 : ((b.num.natAbs : Nat) : Rat) = ((if b.num < 0 then -b.num else b.num : Int) : Rat) := by
      have : ((b.num.natAbs : Nat) : Int) = if b.num < 0 then -b.num else b.num := by split <;> omega
      rw [← this]
      rfl
    rw [e3]
    split
    · rw [Rat.intCast_neg, Rat.intCast_neg, ← e1]
      have : b⁻¹ * (-(b * (b.den : Rat))) = -((b⁻¹ * b) * (b.den : Rat)) := by grind
      rw [this, e2, Rat.one_mul]
      rfl
    · rw [← e1]
      have : b⁻¹ * (b * (b.den : Rat)) = (b⁻¹ * b) * (b.den : Rat) := by grind
      rw [this, e2, Rat.one_mul]
      rfl
  refine Hb.of (M := b.num.natAbs) (N := b.den) ⟨_, e, by split <;> omega⟩ (by omega) h.1 h.2
theorem Hb.div {i j : Nat} {a b : Rat} (ha : Hb i a) (hb : Hb j b) (h : b ≠ 0) : Hb (i + j) (a / b) := by
  rw [Rat.div_def]
  exact ha.mul (hb.inv h)
theorem Hb.one : Hb 0 1 := ⟨by decide, by decide⟩
theorem Hb.zero (k : Nat) : Hb k 0 := ⟨Nat.zero_le _, Nat.pow_pos (by decide)⟩
theorem Hb.pow {i : Nat} {a : Rat} (ha : Hb i a) : ∀ k, Hb (i * k) (a ^ k)
  | 0 => by rw [Rat.pow_zero]; exact Hb.one
  | k + 1 => by rw [Rat.pow_succ, Nat.mul_succ]; exact (Hb.pow ha k).mul ha
theorem Hb.sr {k : Nat} {q : Rat} (h : Hb k q) (hk : k < 4300) : Sr q :=
  ⟨Nat.lt_of_le_of_lt h.1 (Nat.pow_lt_pow_right (by decide) hk), Nat.lt_of_le_of_lt h.2 (Nat.pow_lt_pow_right (by decide) hk)⟩
theorem Hb.int {z : Int} {k : Nat} (h : z.natAbs ≤ 2 ^ k) : Hb k (z : Rat) := ⟨h, Nat.pow_pos (by decide)⟩
theorem cf_all {p : Rat → Prop} {l : List Rat} (h0 : p 0) (h : ∀ q ∈ l, p q) (i : Nat) : p (cf l i) := by
  by_cases hi : i < l.length
  · rw [cf_lt hi]
    exact h _ (List.getElem_mem hi)
  · rw [cf_ge (by omega)]
    exact h0
def chb : Nat → List Rat × List Rat
  | 0 => ([0, 1], [1])
  | k + 1 => ((chb k).2, stripQ (padd (stripQ (pmul [0, 2] (chb k).2)) ((chb k).1.map (- ·))))
def okC (l : List Rat) : Bool := decide (l.length ≤ 8) && l.all fun q => decide (q.den = 1) && decide (q.num.natAbs ≤ 128)
theorem chb_dec : ((List.range 7).all fun k => okC (chb k).1 && okC (chb k).2 && okC (stripQ (pmul [0, 2] (chb k).2))) = true := by decide +kernel
theorem okC_fr {l : List Rat} (h : okC l = true) : l.length ≤ 8 ∧ ∀ i, Fr 1 128 (cf l i) := by
  unfold okC at h
  rw [Bool.and_eq_true, decide_eq_true_eq, List.all_eq_true] at h
  refine ⟨h.1, cf_all (Fr.zero _ _) fun q hq => ?_⟩
  have := h.2 q hq
  rw [Bool.and_eq_true, decide_eq_true_eq, decide_eq_true_eq] at this
  have z := (Fr.self q).le this.2
  rw [this.1] at z
  exact z
theorem chb_ok {k : Nat} (hk : k ≤ 6) : okC (chb k).1 = true ∧ okC (chb k).2 = true ∧ okC (stripQ (pmul [0, 2] (chb k).2)) = true := by
  have := List.all_eq_true.mp chb_dec k (List.mem_range.mpr (by omega))
  rw [Bool.and_eq_true, Bool.and_eq_true] at this
  exact ⟨this.1.1, this.1.2, this.2⟩
theorem fr1_hb {N k : Nat} {q : Rat} (h : Fr 1 N q) (hN : N ≤ 2 ^ k) : Hb k q := Hb.of h (by decide) (Nat.pow_pos (by decide)) hN
def spTurn (K : PySem.W.Frag) (CP : Addr) : Sp := fun vs H Q _ => ∃ n : Nat, vs = [.int (n : Int)] ∧ n ≤ 6 ∧ ∀ (x : Addr) (H' : Hp), Same H H' → PolyQ K CP H' x (chb n).2 → Q (.ref x) H'
section
variable {P : Program} {w : World} {K : PySem.W.Frag} {mg : Str → Option Value} {base : Heap} {CP CR CN : Addr}
/-- Poly of a tuple of small whole numbers -/
theorem poly_ints {H : Hp} {t : Addr} {is : List Int} {qs : List Rat} {Qd : Addr → Hp → Prop} {E : XK} (e : H t = some (.tup (is.map V.int))) (hl : is.length ≤ 1000) (hq : strip ((is.map fun i => (i, (1 : Int))).map lowP) = qs.map pq)
    (k : ∀ (x : Addr) (H' : Hp), Same H H' → H x = none → PolyQ K CP H' x qs → Qd x H') :
    ∀ x dx, H x = none → H dx = none → dx ≠ x → spPolyI K CP CR (.ref x :: ([V.ref t] ++ [])) (upd (upd H dx (.own x)) x (.ins CP dx [])) (fun w H2 => w = .non ∧ Qd x H2) E := by
  have dts : ∀ is : List Int, Dts K H (is.map V.int) (is.map PyData.int) := fun is => by
    induction is with
    | nil => exact .nil
    | cons i l ih => exact .cons (.int i) ih
  have rd : rowD (.tuple (is.map PyData.int)) = some (is.map fun i => (i, (1 : Int))) := by
    show (is.map PyData.int).mapM partsD = _
    clear e hl hq
    induction is with
    | nil => rfl
    | cons i l ih =>
      rw [List.map_cons, List.mapM_cons, ih]
      rfl
  refine poly_made (d := .tuple (is.map PyData.int)) (.tup (SqT.of e) (dts is)) (fun ds h => by cases h; rw [List.length_map]; exact hl) (fun ps h => ?_) (fun z => by rw [rd] at z; cases z)
  rw [rd] at h
  cases h
  refine ⟨fun p hp => ?_, fun x H' s nx made => k x H' s nx ?_⟩
  · obtain ⟨i, _, rfl⟩ := List.mem_map.mp hp
    exact Nat.one_lt_pow (by decide) (by decide)
  · rw [hq] at made
    exact made
abbrev sTurn : Stmt := topS 43
theorem scTurn : FnScope ["degree", "before", "wave", "_"] ["degree"] (defScope sTurn) := ⟨rfl, rfl, rfl, by decide +kernel, rfl, by decide +kernel, by decide +kernel⟩
theorem ok_turn {f : Addr} {fd : FuncData} (F : Fun K "turning_poly" "turning_poly" sTurn f fd) (T : Bk mg) (PM : PoM P w K mg base CP CR) (MS : OpW P w K mg base CP "sub" (spSubW K CP)) (MM : OpW P w K mg base CP "mul" (spMulW K CP)) (PS : PoS K CP) : FnOk P w K mg base (L2.CX P w) 9 f fd ["degree"] (spTurn K CP) := by
  refine F.okX scTurn (fun vs H Q E h => ?_) (fun cdv A0 outer s0 H vs Q E hr h => ?_)
  · obtain ⟨n, rfl, _⟩ := h
    rfl
  · obtain ⟨n, rfl, hn, q⟩ := h
    refine ⟨_, PSs.nox (pss_cons (ps_par (i := 1) (j := 2) (by rfl) scTurn.nd rfl rfl (by decide) rfl rfl (pa_cons (pe_make PM.mkI PM.okI (hr.mono (by decide)) rfl PM.C.m PM.bI .nil passL (pa_cons (pe_tup (pa_cons pe_int (pa_cons pe_int pa_nil))) pa_nil)) (pa_cons (pe_make PM.mkI PM.okI (hr.mono (by decide)) rfl PM.C.m PM.bI .nil passL (pa_cons (pe_tup (pa_cons pe_int pa_nil)) pa_nil)) pa_nil)) (by rfl))
  (pss_cons (ps_for PassesOwn.never rfl (pi_range1 (by rfl) T.range (pa_cons (pv 0) pa_nil)) (pg_name (i := 3) scTurn.nd rfl (Or.inl rfl))
    (pss_one (ps_par (i := 1) (j := 2) (by rfl) scTurn.nd rfl rfl (by decide) rfl rfl (pa_cons (pv 2) (pa_cons (pe_op (op_subW rfl MS PS (hr.mono (by decide)) passL) (pe_op (op_mulP rfl MM PS (hr.mono (by decide)) passL) (pe_make PM.mkI PM.okI (hr.mono (by decide)) rfl PM.C.m PM.bI .nil passL (pa_cons (pe_tup (pa_cons pe_int (pa_cons pe_int pa_nil))) pa_nil)) (pv 2)) (pv 1)) pa_nil)) (by rfl))))
  (pss_one (ps_ret (pv 2))))), ?_⟩
    refine par_two ?_
    refine ⟨(by show 2 ≤ sizeLine; decide), fun t1 n1 => ?_⟩
    refine poly_ints (is := [0, 1]) (qs := [0, 1]) upd_same (by decide) (by decide +kernel) fun x0 H1 s1 nx0 p0 => ?_
    have s1 := (same_upd n1).trans s1
    refine ⟨(by show 1 ≤ sizeLine; decide), fun t2 n2 => ?_⟩
    refine poly_ints (is := [1]) (qs := [1]) upd_same (by decide) (by decide +kernel) fun x1 H2 s2 nx1 p1 => ?_
    have s2 := (same_upd n2).trans s2
    refine ⟨_, rfl, _, rfl, by omega, by omega, for_range (lo := 0) (n := ((n : Nat) : Int).toNat) (fun i σ H' => ∃ (a b : Addr) (v3 : Option V), σ = [some (.int (n : Int)), some (.ref a), some (.ref b), v3] ∧ Same H H' ∧ PolyQ K CP H' a (chb i).1 ∧ PolyQ K CP H' b (chb i).2) ⟨x0, x1, none, rfl, s1.trans s2, p0.same s2, p1⟩ ?_ ?_⟩
    · rintro i σ H' hi ⟨a, b, v3, rfl, ss, pa, pb⟩
      obtain ⟨c1, c2, c3⟩ := chb_ok (k := i) (by omega)
      obtain ⟨l1, f1⟩ := okC_fr c1
      obtain ⟨l2, f2⟩ := okC_fr c2
      obtain ⟨l3, f3⟩ := okC_fr c3
      refine par_one ?_
      refine ⟨_, rfl, (by show 2 ≤ sizeLine; decide), fun t3 n3 => ?_⟩
      refine poly_ints (is := [0, 2]) (qs := [0, 2]) upd_same (by decide) (by decide +kernel) fun x3 H3 s3 nx3 p3 => ?_
      have s3 := (same_upd n3).trans s3
      have f0 : ∀ i, Fr 1 128 (cf [0, 2] i) := fun i => (okC_fr (l := [0, 2]) (by decide +kernel)).2 i
      have lt : ∀ {k : Nat}, k ≤ 200 → 2 ^ k < 2 ^ 8700 := fun h => Nat.pow_lt_pow_right (by decide) (by omega)
      have one : (1 : Nat) < 2 ^ 8700 := Nat.one_lt_pow (by decide) (by decide)
      have l128 : (128 : Nat) < 2 ^ 8700 := lt (k := 7) (by decide)
      refine ⟨_, rfl, x3, _, _, 1, 128, 1, 128, rfl, p3, .inl ⟨b, rfl, pb.same s3⟩, (by show 2 ≤ 13; decide), by omega, f0, f2, by decide, by decide, one, l128, one, l128, Nat.one_lt_pow (by decide) (by decide), fun z H4 s4 pz => ?_⟩
      have s34 := s3.trans s4
      refine ⟨_, rfl, z, a, _, _, rfl, rfl, pz, pa.same s34, by omega, by omega, fun i => (fr1_hb (k := 7) (f3 i) (by decide)).sr (by decide), fun i => (fr1_hb (k := 7) (f1 i) (by decide)).sr (by decide), fun z2 H5 s5 pz2 => ?_⟩
      exact ⟨b, z2, _, rfl, ss.trans (s34.trans s5), pb.same (s34.trans s5), pz2⟩
    · rintro σ H' ⟨a, b, v3, rfl, ss, pa, pb⟩
      rw [Int.toNat_natCast] at pb
      exact ⟨_, rfl, q b H' ss pb⟩
end
end Vf
set_option maxRecDepth 100000
set_option maxHeartbeats 8000000
namespace Vf
open PySem PySem.Spec PyProof.Rows L2
def olS (lo hi : Rat) : Rat := (0 - (lo + hi)) / (hi - lo)
def olT (lo hi : Rat) : Rat := 2 / (hi - lo)
def olW (n : Nat) (lo hi : Rat) : List Rat := mvl (olS lo hi) (olT lo hi) (chb n).2
def olE (c : Rat) (n : Nat) (lo hi : Rat) : Rat := 2 * c * ((hi - lo) * (1 / 4)) ^ n
def olR (A : List Rat) (n : Nat) (lo hi : Rat) : List Rat := stripQ (padd A ((stripQ (pmul (olW n lo hi) (stripQ [olE (cf A n) n lo hi]))).map (- ·)))
def spOneL (K : PySem.W.Frag) (CP CN CI CE : Addr) : Sp := fun vs H Q E => ∃ (a : Addr) (v u : V) (A : List Rat) (d e : PyData), vs = [.ref a, v, u] ∧ PolyQ K CP H a A ∧ Dt K H v d ∧ Dt K H u e ∧ (∀ t b x c, partsD d = some (t, b) → partsD e = some (x, c) → Sz t ∧ Sz b ∧ Sz x ∧ Sz c) ∧
  (¬ ivD d e → RaisesI CI H v u E) ∧ (ivD d e → A.length < 2 → RaisesN CN H (.str "degree") (.int ((A.length : Int) - 1)) E) ∧
  (ivD d e → 2 ≤ A.length → ∃ (lo hi : Rat) (n : Nat), RV K H v lo ∧ RV K H u hi ∧ lo < hi ∧ Hb 16 lo ∧ Hb 16 hi ∧ A.length = n + 1 ∧ n ≤ 6 ∧ (∀ i, Hb 31 (cf A i)) ∧
    ∀ (x dx pa ea : Addr) (H' : Hp), Same H H' → H x = none → H' x = some (.ins CE dx ((["poly", "error"] : List Str).zip [.ref pa, .ref ea])) → PolyQ K CP H' pa (olR A n lo hi) → TR H' ea (absR (olE (cf A n) n lo hi)) → Q (.ref x) H')
/-- a method of the class that may raise -/
structure MeX (P : Program) (w : World) (K : PySem.W.Frag) (mg : Str → Option Value) (base : Heap) (CP : Addr) (x : Str) (k : Nat) (ps : List Str) (sp : Sp) where
  f : Addr
  fd : FuncData
  m : Meth K CP x f
  b : Binds K fd ps []
  ok : FnOk P w K mg base (L2.CX P w) k f fd ps sp
theorem parts_pq (q : Rat) : partsD (.tuple [.int q.num, .int (q.den : Int)]) = some (pq q) := by
  have := q.den_pos
  show (if (0 : Int) < (q.den : Int) then some (q.num, (q.den : Int)) else none) = _
  rw [if_pos (by omega)]
  rfl
theorem pq_big {q : Rat} (h : Sr q) : (pq q).2.natAbs < 2 ^ big := by
  show ((q.den : Int)).natAbs < _
  rw [Int.natAbs_natCast]
  exact Nat.lt_trans h.2 (Nat.pow_lt_pow_right (by decide) (by decide))
theorem arg_pq {q : Rat} (h : Hb 70 q) : Arg (pq q) q := ⟨low_id (pq_low q), pq_big (h.sr (by decide)), h.1, h.2⟩
theorem lead_cf {A : List Rat} {n : Nat} (h : A.length = n + 1) : leadP (A.map pq) = pq (cf A n) := by
  unfold leadP
  rw [List.getLast?_eq_getElem?, List.length_map, List.getElem?_map, h, Nat.add_sub_cancel, List.getElem?_eq_getElem (show n < A.length by omega), cf_lt (show n < A.length by omega)]
  rfl
theorem sub_ne {lo hi : Rat} (h : lo < hi) : hi - lo ≠ 0 := fun z => by grind
section
variable {lo hi : Rat}
theorem olS_hb (hl : Hb 16 lo) (hh : Hb 16 hi) (h : lo < hi) : Hb 67 (olS lo hi) :=
  (((Hb.zero 0).sub (hl.add hh)).div (hh.sub hl) (sub_ne h)).up (by decide)
theorem olT_hb (hl : Hb 16 lo) (hh : Hb 16 hi) (h : lo < hi) : Hb 34 (olT lo hi) :=
  ((Hb.int (z := 2) (k := 1) (by decide)).div (hh.sub hl) (sub_ne h)).up (by decide)
theorem olE_hb {c : Rat} {n : Nat} (hl : Hb 16 lo) (hh : Hb 16 hi) (hc : Hb 31 c) (hn : n ≤ 6) : Hb 248 (olE c n lo hi) := by
  have h4 : Hb 2 ((1 : Rat) / 4) := ⟨by decide +kernel, by decide +kernel⟩
  refine (((Hb.int (z := 2) (k := 1) (by decide)).mul hc).mul (((hh.sub hl).mul h4).pow n)).up ?_
  have := Nat.mul_le_mul_left 35 hn
  omega
theorem fr_common {s t : Rat} {i j : Nat} (hs : Hb i s) (ht : Hb j t) : ∃ B, 0 < B ∧ B ≤ 2 ^ (i + j) ∧ Fr B (2 ^ (i + j)) s ∧ Fr B (2 ^ (i + j)) t := by
  refine ⟨s.den * t.den, Nat.mul_pos s.den_pos t.den_pos, ?_, ?_, ?_⟩
  · rw [Nat.pow_add]
    exact Nat.mul_le_mul hs.2 ht.2
  · refine (hs.fr.scale t.den).le ?_
    rw [Nat.pow_add]
    exact Nat.mul_le_mul_left _ ht.2
  · rw [Nat.mul_comm s.den]
    refine (ht.fr.scale s.den).le ?_
    rw [Nat.add_comm i j, Nat.pow_add]
    exact Nat.mul_le_mul_left _ hs.2
theorem olW_fr {n : Nat} (hl : Hb 16 lo) (hh : Hb 16 hi) (h : lo < hi) (hn : n ≤ 6) : (olW n lo hi).length ≤ 8 ∧ ∃ M N, 0 < M ∧ M ≤ 2 ^ 900 ∧ N ≤ 2 ^ 900 ∧ ∀ i, Fr M N (cf (olW n lo hi) i) := by
  obtain ⟨c1, c2, c3⟩ := chb_ok hn
  obtain ⟨l2, f2⟩ := okC_fr c2
  obtain ⟨B, B0, B1, fs, ft⟩ := fr_common (olS_hb hl hh h) (olT_hb hl hh h)
  have z := fr_mvl (M := 1) (N := 128) (W := 2 ^ 102) (Nat.le_trans B1 (Nat.pow_le_pow_right (by decide) (by decide))) (by rw [← Nat.pow_succ']; exact Nat.le_refl _) fs ft (a := (chb n).2) fun x hx => by
    obtain ⟨i, rfl⟩ := mem_cf hx
    exact f2 i
  refine ⟨Nat.le_trans (mvl_len _ _ _) l2, _, _, ?_, ?_, ?_, z⟩
  · exact Nat.mul_pos (by decide) (Nat.pow_pos B0)
  · rw [Nat.one_mul]
    refine Nat.le_trans (Nat.pow_le_pow_left B1 _) ?_
    rw [← Nat.pow_mul]
    exact Nat.pow_le_pow_right (by decide) (by omega)
  · have : 128 * ((chb n).2.length * (2 ^ 102) ^ (chb n).2.length) ≤ 2 ^ 7 * (2 ^ 3 * 2 ^ 816) := by
      refine Nat.mul_le_mul_left _ (Nat.mul_le_mul (by omega) ?_)
      rw [← Nat.pow_mul]
      exact Nat.pow_le_pow_right (by decide) (by omega)
    refine Nat.le_trans this ?_
    rw [← Nat.pow_add, ← Nat.pow_add]
    exact Nat.pow_le_pow_right (by decide) (by decide)
end
section
variable {P : Program} {w : World} {K : PySem.W.Frag} {mg : Str → Option Value} {base : Heap} {CP CR CN CI CE : Addr}
abbrev sOneL : Stmt := topS 42
theorem scOneL : FnScope ["poly", "low", "high", "degree", "width", "wave", "size"] ["poly", "low", "high"] (defScope sOneL) := ⟨rfl, rfl, rfl, by decide +kernel, rfl, by decide +kernel, by decide +kernel⟩
theorem ok_onel {f : Addr} {fd : FuncData} (F : Fun K "one_less" "one_less" sOneL f fd) (T : Bk mg) (PM : PoM P w K mg base CP CR) (MS : OpW P w K mg base CP "sub" (spSubW K CP)) (MM : OpW P w K mg base CP "mul" (spMulW K CP)) (PS : PoS K CP) (N_BadNumber : Ex P w K mg base "BadNumber" CN ["what", "number"])
    (G_need_interval : Dx P w K mg base "need_interval" 5 ["low", "high"] (spNeedI K CI)) (M_degree : Me P w K mg base CP "degree" 1 ["self"] (spPolyD K CP)) (M_lead : Me P w K mg base CP "lead" 1 ["self"] (spPolyL K CP)) (M_moved : MeX P w K mg base CP "moved" 8 ["self", "start", "step"] (spMoved K CP CN))
    (G_minus : Dx P w K mg base "minus" 4 ["one", "other"] (spTwo K CN (okLow gMinus))) (G_plus : Dx P w K mg base "plus" 4 ["one", "other"] (spTwo K CN (okLow gPlus))) (G_times : Dx P w K mg base "times" 4 ["one", "other"] (spTwo K CN (okLow gTimes))) (G_share : Dx P w K mg base "share" 4 ["one", "other"] (spTwo K CN (okShare CN)))
    (G_power_of : Dx P w K mg base "power_of" 5 ["ratio", "many"] (spPow K)) (G_turning_poly : Dx P w K mg base "turning_poly" 9 ["degree"] (spTurn K CP)) (G_size_of : Df P w K mg base "size_of" 1 ["ratio"] spSize) (IN_Nearer : InM P w K mg base CP "Nearer" CE ["poly", "error"]) : FnOk P w K mg base (L2.CX P w) 10 f fd ["poly", "low", "high"] (spOneL K CP CN CI CE) := by
  refine F.okX scOneL (fun vs H Q E h => ?_) (fun cdv A0 outer s0 H vs Q E hr h => ?_)
  · obtain ⟨a, v, u, A, d, e, rfl, _⟩ := h
    rfl
  · obtain ⟨a, v, u, A, d, e, rfl, hA, hd, he, sz, er1, er2, q⟩ := h
    refine ⟨_, (pss_cons (ps_expr (pe_call G_need_interval.ok (hr.mono (by decide)) rfl G_need_interval.m G_need_interval.kp G_need_interval.b .nil (E := E) (passes_call (takes_of rfl rfl rfl rfl) (fun _ _ _ _ h => h)) (pa_cons (pv 1) (pa_cons (pv 2) pa_nil))))
  (pss_cons (ps_set (i := 3) scOneL.nd rfl (Or.inl rfl) (pe_meth0 (pv 0) PM.C.cl M_degree.m M_degree.ok (hr.mono (by decide)) M_degree.b .nil pass0))
  (pss_cons (ps_if (pt_cmpR op_lt (pv 3) pe_int (nomark _))
    (pss_one (ps_raise rfl (takes_of rfl rfl rfl rfl) (pmk_oex N_BadNumber.ox N_BadNumber.iC N_BadNumber.tI N_BadNumber.ok (hr.mono (by decide)) N_BadNumber.b .nil pass0 (by rfl) N_BadNumber.m (pa_cons pe_str (pa_cons (pv 3) pa_nil)))))
    pss_nil)
  (pss_cons (ps_set (i := 4) scOneL.nd rfl (Or.inl rfl) (pe_call G_minus.ok (hr.mono (by decide)) rfl G_minus.m G_minus.kp G_minus.b .nil (E := E) (passes_call (takes_of rfl rfl rfl rfl) (fun _ _ _ _ h => h)) (pa_cons (pv 2) (pa_cons (pv 1) pa_nil))))
  (pss_cons (ps_set (i := 5) scOneL.nd rfl (Or.inl rfl) (pe_meth (pe_call G_turning_poly.ok (hr.mono (by decide)) rfl G_turning_poly.m G_turning_poly.kp G_turning_poly.b .nil (E := E) (passes_call (takes_of rfl rfl rfl rfl) (fun _ _ _ _ h => h)) (pa_cons (pv 3) pa_nil)) PM.C.cl M_moved.m M_moved.ok (hr.mono (by decide)) M_moved.b .nil (E := E) (passes_call (takes_of rfl rfl rfl rfl) (fun _ _ _ _ h => h)) (pa_cons (pe_call G_share.ok (hr.mono (by decide)) rfl G_share.m G_share.kp G_share.b .nil (E := E) (passes_call (takes_of rfl rfl rfl rfl) (fun _ _ _ _ h => h)) (pa_cons (pe_call G_minus.ok (hr.mono (by decide)) rfl G_minus.m G_minus.kp G_minus.b .nil (E := E) (passes_call (takes_of rfl rfl rfl rfl) (fun _ _ _ _ h => h)) (pa_cons pe_int (pa_cons (pe_call G_plus.ok (hr.mono (by decide)) rfl G_plus.m G_plus.kp G_plus.b .nil (E := E) (passes_call (takes_of rfl rfl rfl rfl) (fun _ _ _ _ h => h)) (pa_cons (pv 1) (pa_cons (pv 2) pa_nil))) pa_nil))) (pa_cons (pv 4) pa_nil))) (pa_cons (pe_call G_share.ok (hr.mono (by decide)) rfl G_share.m G_share.kp G_share.b .nil (E := E) (passes_call (takes_of rfl rfl rfl rfl) (fun _ _ _ _ h => h)) (pa_cons pe_int (pa_cons (pv 4) pa_nil))) pa_nil))))
  (pss_cons (ps_set (i := 6) scOneL.nd rfl (Or.inl rfl) (pe_call G_times.ok (hr.mono (by decide)) rfl G_times.m G_times.kp G_times.b .nil (E := E) (passes_call (takes_of rfl rfl rfl rfl) (fun _ _ _ _ h => h)) (pa_cons (pe_call G_times.ok (hr.mono (by decide)) rfl G_times.m G_times.kp G_times.b .nil (E := E) (passes_call (takes_of rfl rfl rfl rfl) (fun _ _ _ _ h => h)) (pa_cons pe_int (pa_cons (pe_meth0 (pv 0) PM.C.cl M_lead.m M_lead.ok (hr.mono (by decide)) M_lead.b .nil pass0) pa_nil))) (pa_cons (pe_call G_power_of.ok (hr.mono (by decide)) rfl G_power_of.m G_power_of.kp G_power_of.b .nil (E := E) (passes_call (takes_of rfl rfl rfl rfl) (fun _ _ _ _ h => h)) (pa_cons (pe_call G_times.ok (hr.mono (by decide)) rfl G_times.m G_times.kp G_times.b .nil (E := E) (passes_call (takes_of rfl rfl rfl rfl) (fun _ _ _ _ h => h)) (pa_cons (pv 4) (pa_cons (pe_tup (pa_cons pe_int (pa_cons pe_int pa_nil))) pa_nil))) (pa_cons (pv 3) pa_nil))) pa_nil))))
  (pss_one (ps_ret (pe_make IN_Nearer.mkI IN_Nearer.okI (hr.mono (by decide)) rfl IN_Nearer.C.m IN_Nearer.b .nil pass0 (pa_cons (pe_op (op_subW rfl MS PS (hr.mono (by decide)) passL) (pv 0) (pe_op (op_mulP rfl MM PS (hr.mono (by decide)) passL) (pv 5) (pv 6))) (pa_cons (pe_call G_size_of.ok (hr.mono (by decide)) rfl G_size_of.m G_size_of.kp G_size_of.b .nil pass0 (pa_cons (pv 6) pa_nil)) pa_nil))))))))))), ?_⟩
    refine ⟨_, rfl, _, rfl, v, u, d, e, rfl, hd, he, sz, fun iv H1 s1 => ?_, er1⟩
    have er2 := er2 iv
    have q := q iv
    have hA1 := hA.same s1
    obtain ⟨dx, ta, as, g1, g2, g3⟩ := id hA1
    have ll : (A.map pq).length = A.length := List.length_map ..
    refine ⟨_, rfl, a, dx, _, rfl, g1, rfl, a, _, rfl, hA1, ?_⟩
    rw [ll]
    refine ⟨_, rfl, _, _, rfl, rfl, _, rfl, ?_⟩
    by_cases h2 : A.length < 2
    · rw [decide_eq_true (show (A.length : Int) - 1 < 1 by omega)]
      refine iteT ?_
      refine ⟨_, rfl, (by show 2 ≤ 1000; decide), ?_⟩
      exact raise_end rfl fun dd H' s2 n2 e2 => (er2 h2).same s1 dd H' s2 n2 e2
    rw [decide_eq_false (show ¬ (A.length : Int) - 1 < 1 by omega)]
    refine iteF ?_
    obtain ⟨lo, hi, n, rv, ru, lt, hl, hh, ln, hn, hc, q⟩ := q (by omega)
    have en : (A.length : Int) - 1 = ((n : Nat) : Int) := by omega
    have hW : Hb 33 (hi - lo) := hh.sub hl
    have hS0 : Hb 33 (lo + hi) := hl.add hh
    have i0 : ∀ {z : Int}, z.natAbs ≤ 2 ^ 2 → Sz z := fun h => Nat.lt_of_le_of_lt h (Nat.pow_lt_pow_right (by decide) (by decide))
    -- width
    refine ⟨_, rfl, _, rfl, rv_minus (ru.same s1) (rv.same s1) fun w1 H2 s2 tw => ?_⟩
    have s12 := s1.trans s2
    -- wave
    refine ⟨_, rfl, ?_⟩
    rw [en]
    refine ⟨n, rfl, hn, fun x3 H3 s3 p3 => ?_⟩
    have s13 := s12.trans s3
    obtain ⟨dw, tw3, aw, w1', w2, w3⟩ := id p3
    refine ⟨x3, dw, _, rfl, w1', rfl, ?_⟩
    refine ⟨_, rfl, _, rfl, rv_plus (rv.same s13) (ru.same s13) fun r4 H4 s4 t4 => ?_⟩
    refine rv_minus (RV.int (i := 0) (i0 (by decide))) (RV.tr t4 (hS0.sr (by decide))) fun r5 H5 s5 t5 => ?_
    have tw5 : TR H5 w1 (hi - lo) := (s3.trans (s4.trans s5)) _ _ tw
    have z0 : ((0 : Int) : Rat) = 0 := rfl
    have z2 : ((2 : Int) : Rat) = 2 := rfl
    rw [z0] at t5
    refine ⟨_, rfl, rv_share (RV.tr t5 (((Hb.zero 0).sub hS0).sr (by decide))) (RV.tr tw5 (hW.sr (by decide))) (sub_ne lt) fun r6 H6 s6 t6 => ?_⟩
    refine ⟨_, rfl, rv_share (RV.int (i := 2) (i0 (by decide))) (RV.tr (s6 _ _ tw5) (hW.sr (by decide))) (sub_ne lt) fun r7 H7 s7 t7 => ?_⟩
    rw [z2] at t7
    have s37 := s4.trans (s5.trans (s6.trans s7))
    have t67 : TR H7 r6 (olS lo hi) := s7 _ _ t6
    have t7 : TR H7 r7 (olT lo hi) := t7
    obtain ⟨c1, c2, c3⟩ := chb_ok hn
    obtain ⟨l2, f2⟩ := okC_fr c2
    have hS := olS_hb hl hh lt
    have hT := olT_hb hl hh lt
    refine ⟨x3, .ref r6, .ref r7, .tuple [.int (olS lo hi).num, .int ((olS lo hi).den : Int)], .tuple [.int (olT lo hi).num, .int ((olT lo hi).den : Int)], (chb n).2, rfl, p3.same s37, by omega, fun i => ?_, .tup (SqT.of t67) (.cons (.int _) (.cons (.int _) .nil)), .tup (SqT.of t7) (.cons (.int _) (.cons (.int _) .nil)), fun p hp => ?_, fun z => by rw [parts_pq] at z; cases z⟩
    · have z := fr1_hb (k := 7) (f2 i) (by decide)
      have z1 := (f2 i).size (by decide)
      exact ⟨Nat.le_trans z.1 (by decide), Nat.le_trans z1.2 (by decide)⟩
    rw [parts_pq] at hp
    cases hp
    refine ⟨pq_big (hS.sr (by decide)), fun p' hp' => ?_, fun z => by rw [parts_pq] at z; cases z⟩
    rw [parts_pq] at hp'
    cases hp'
    refine ⟨_, _, arg_pq (hS.up (by decide)), arg_pq (hT.up (by decide)), fun x8 H8 s8 p8 => ?_⟩
    have s28 := s3.trans (s37.trans s8)
    have s18 := s12.trans s28
    have hc2 := hc n
    -- size
    have hA8 := hA.same s18
    obtain ⟨dx8, ta8, as8, k1, k2, k3⟩ := id hA8
    refine ⟨_, rfl, a, dx8, _, rfl, k1, rfl, a, _, rfl, hA8, fun r9 H9 s9 t9 => ?_⟩
    rw [lead_cf ln] at t9
    have t9 : TR H9 r9 (cf A n) := t9
    refine rv_times (RV.int (i := 2) (i0 (by decide))) (RV.tr t9 (hc2.sr (by decide))) fun r10 H10 s10 t10 => ?_
    rw [z2] at t10
    refine ⟨_, rfl, (by show 2 ≤ sizeLine; decide), fun t4 n4 => ?_⟩
    have tw10 : TR (upd H10 t4 (HO.tup [V.int 1, V.int 4])) w1 (hi - lo) := (s28.trans (s9.trans (s10.trans (same_upd n4)))) _ _ tw
    have h4 : Hb 2 ((1 : Rat) / 4) := ⟨by decide +kernel, by decide +kernel⟩
    refine rv_times (RV.tr tw10 (hW.sr (by decide))) (RV.tup (q := (1 : Rat) / 4) upd_same (by decide) (by decide +kernel) (i0 (by decide)) (i0 (by decide))) fun r11 H11 s11 t11 => ?_
    have hq := hW.mul h4
    have s10' : Same H10 H11 := (same_upd n4).trans s11
    refine ⟨_, rfl, r11, _, n, rfl, t11, hn, Nat.le_trans hq.1 (Nat.pow_le_pow_right (by decide) (by decide)), Nat.le_trans hq.2 (Nat.pow_le_pow_right (by decide) (by decide)), fun r12 H12 s12' v12 => ?_⟩
    have hE := olE_hb hl hh hc2 hn
    refine rv_times (RV.tr ((s10'.trans s12') _ _ t10) (((Hb.int (z := 2) (k := 1) (by decide)).mul hc2).sr (by decide))) v12 fun r13 H13 s13' t13 => ?_
    have t13 : TR H13 r13 (olE (cf A n) n lo hi) := t13
    have s813 : Same H8 H13 := s9.trans (s10.trans (s10'.trans (s12'.trans s13')))
    obtain ⟨lw, M, N, hM, hMl, hNl, fw⟩ := olW_fr hl hh lt hn
    have up : ∀ {k : Nat}, k ≤ 2 ^ 900 → k < 2 ^ 8700 := fun h => Nat.lt_of_le_of_lt h (Nat.pow_lt_pow_right (by decide) (by decide))
    have p813 := p8.same s813
    have fE : ∀ i, Fr (olE (cf A n) n lo hi).den (2 ^ 248) (cf (stripQ [olE (cf A n) n lo hi]) i) := fun i => by
      rw [cf_one]
      split
      · exact hE.fr
      · exact Fr.zero _ _
    have dE := (olE (cf A n) n lo hi).den_pos
    have lE : (olE (cf A n) n lo hi).den ≤ 2 ^ 900 := Nat.le_trans hE.2 (Nat.pow_le_pow_right (by decide) (by decide))
    have l1 : (stripQ [olE (cf A n) n lo hi]).length ≤ 1 := stripQ_len _
    have rat : RatT H13 (.ref r13) (stripQ [olE (cf A n) n lo hi]) := .inr ⟨r13, _, _, _, rfl, t13, by omega, pq_big (hE.sr (by decide)), low_id (pq_low _), rfl⟩
    refine ⟨_, rfl, _, rfl, _, rfl, x8, olW n lo hi, stripQ [olE (cf A n) n lo hi], M, N, (olE (cf A n) n lo hi).den, 2 ^ 248, rfl, p813, .inr rat, by omega, by omega, fw, fE, hM, dE, up hMl, up hNl, up lE, up (Nat.pow_le_pow_right (by decide) (by decide)), ?_, fun z H14 s14 pz => ?_⟩
    · refine Nat.lt_of_le_of_lt (Nat.mul_le_mul hMl lE) ?_
      rw [← Nat.pow_add]
      exact Nat.pow_lt_pow_right (by decide) (by decide)
    have s114 : Same H H14 := s18.trans (s813.trans s14)
    have hM0 := hM
    have frP : ∀ i, Fr (M * (olE (cf A n) n lo hi).den) (32 * (N * 2 ^ 248)) (cf (stripQ (pmul (olW n lo hi) (stripQ [olE (cf A n) n lo hi]))) i) := fun i => by
      rw [cf_stripQ]
      exact pmul_fr fw fE (by omega) i
    have hbP : ∀ i, Hb 1810 (cf (stripQ (pmul (olW n lo hi) (stripQ [olE (cf A n) n lo hi]))) i) := fun i => by
      refine Hb.of (frP i) (Nat.mul_pos hM dE) ?_ ?_
      · refine Nat.le_trans (Nat.mul_le_mul hMl lE) ?_
        rw [← Nat.pow_add]
        exact Nat.pow_le_pow_right (by decide) (by decide)
      · refine Nat.le_trans (Nat.mul_le_mul_left 32 (Nat.mul_le_mul_right _ hNl)) ?_
        rw [show (32 : Nat) = 2 ^ 5 from rfl, ← Nat.pow_add, ← Nat.pow_add]
        exact Nat.pow_le_pow_right (by decide) (by decide)
    have lP : (stripQ (pmul (olW n lo hi) (stripQ [olE (cf A n) n lo hi]))).length ≤ 8 := by
      have z1 := stripQ_len (pmul (olW n lo hi) (stripQ [olE (cf A n) n lo hi]))
      have z2 := pmul_len (olW n lo hi) (stripQ [olE (cf A n) n lo hi])
      omega
    refine ⟨a, z, A, _, rfl, rfl, hA.same s114, pz, by omega, by omega, fun i => (hc i).sr (by decide), fun i => (hbP i).sr (by decide), fun z2 H15 s15 pz2 => ?_⟩
    have t15 : TR H15 r13 (olE (cf A n) n lo hi) := (s14.trans s15) _ _ t13
    refine ⟨_, rfl, r13, _, rfl, t15, fun r16 H16 s16 t16 => ?_⟩
    have pz16 := pz2.same s16
    refine ins_made rfl (fun v hv => ?_) fun x xd bs H17 H' ss s17 nx lb ex hr => ?_
    · simp only [List.mem_cons, List.not_mem_nil, or_false] at hv
      rcases hv with rfl | rfl
      · exact .inl ⟨z2, _, rfl, pz16⟩
      · exact .inr (.inl ⟨r16, _, rfl, t16⟩)
    · obtain ⟨b1, b2, rfl⟩ : ∃ b1 b2, bs = [b1, b2] := by
        match bs, lb with
        | [b1, b2], _ => exact ⟨b1, b2, rfl⟩
      obtain ⟨dz, tz, az, m1, m2, m3⟩ := id pz16
      have e1 := (hr 0 _ _ rfl rfl).keep (ss _ _ m1) (fun _ z => by cases z)
      have e2 := (hr 1 _ _ rfl rfl).keep (ss _ _ t16) (fun _ z => by cases z)
      subst e1 e2
      exact q x xd z2 r16 H' (s114.trans (s15.trans (s16.trans s17))) ((s114.trans (s15.trans s16)).free nx) ex (pz16.same s17) (s17 _ _ t16)
end
end Vf
set_option maxRecDepth 100000
set_option maxHeartbeats 8000000
namespace Vf
open PySem PySem.Spec PyProof.Rows L2
theorem dt_pair {K : PySem.W.Frag} {H : Hp} {r : Addr} {x y : Int} (h : H r = some (.tup [.int x, .int y])) : Dt K H (.ref r) (pairD (x, y)) := .tup (SqT.of h) (.cons (.int _) (.cons (.int _) .nil))
theorem cut1 (xs : List V) : cutV xs (some 1) none = xs.drop 1 := by
  unfold cutV
  have e : HT.sIx xs.length 0 (some 1) = min 1 xs.length := by
    unfold HT.sIx
    simp
    try omega
  have e2 : HT.sIx xs.length xs.length none = xs.length := rfl
  rw [e, e2]
  cases xs with
  | nil => rfl
  | cons x l =>
    have m : min 1 (x :: l).length = 1 := by rw [List.length_cons]; omega
    rw [m]
    show (l.take ((x :: l).length - 1)) = l
    rw [List.length_cons, Nat.add_sub_cancel]
    exact List.take_length
theorem sr_of {q : Rat} {k : Nat} (h1 : q.num.natAbs ≤ 2 ^ k) (h2 : q.den ≤ 2 ^ k) (hk : k < 4300) : Sr q := ⟨Nat.lt_of_le_of_lt h1 (Nat.pow_lt_pow_right (by decide) hk), Nat.lt_of_le_of_lt h2 (Nat.pow_lt_pow_right (by decide) hk)⟩
def spLSh : Sp := fun vs H Q _ => ∃ (r1 r2 : Addr) (a b : Rat), vs = [.ref r1, .ref r2] ∧ TR H r1 a ∧ TR H r2 b ∧ Sr a ∧ Sr b ∧ b ≠ 0 ∧ ∀ (r : Addr) (H' : Hp), Same H H' → H r = none → TR H' r (a / b) → Q (.ref r) H'
theorem low_share {a b : Rat} (h : b ≠ 0) : low (a.num * b.den) ((a.den : Int) * b.num) = pq (a / b) ∧ (a.den : Int) * b.num ≠ 0 := by
  have hn : b.num ≠ 0 := fun z => h (Rat.num_eq_zero.mp z)
  have h0 : (a.den : Int) * b.num ≠ 0 := Int.mul_ne_zero (by have := a.den_nz; omega) hn
  refine ⟨low_mul h0 ?_, h0⟩
  have e1 : ((((a.den : Nat) : Int) * b.num : Int) : Rat) = ((a.den : Nat) : Rat) * (b.num : Rat) := by exact_mod_cast rfl
  have e2 : ((a.num * (b.den : Int) : Int) : Rat) = (a.num : Rat) * ((b.den : Nat) : Rat) := by exact_mod_cast rfl
  rw [e1, e2, ← num_den a, ← num_den b]
  have e3 : a / b * b = a := Rat.div_mul_cancel h
  calc a / b * (((a.den : Nat) : Rat) * (b * ((b.den : Nat) : Rat))) = (a / b * b) * ((a.den : Nat) : Rat) * ((b.den : Nat) : Rat) := by grind
    _ = a * ((a.den : Nat) : Rat) * ((b.den : Nat) : Rat) := by rw [e3]
theorem sr_prod {a b : Int} (ha : a.natAbs < 2 ^ 4300) (hb : b.natAbs < 2 ^ 4300) : (a * b).natAbs < 2 ^ 8800 := by
  rw [Int.natAbs_mul]
  have := Nat.mul_lt_mul'' ha hb
  rw [pow_add2] at this
  exact Nat.lt_trans this (Nat.pow_lt_pow_right (by decide) (by decide))
def rSub (a b : Rat) : Rat := a - b
theorem low_sub (a b : Rat) : low (a.num * b.den - b.num * a.den) ((a.den : Int) * b.den) = pq (a - b) := by
  have h := low_add a (-b)
  rw [Rat.neg_num, Rat.neg_den, Int.neg_mul, ← Int.sub_eq_add_neg, ← Rat.sub_eq_add_neg] at h
  exact h
theorem sr_neg' {q : Rat} (h : Sr q) : Sr (-q) := ⟨by rw [Rat.neg_num, Int.natAbs_neg]; exact h.1, by rw [Rat.neg_den]; exact h.2⟩
theorem lt_cross {g e : Rat} {t b x c : Int} (hg : g * (b : Rat) = (t : Rat)) (he : e * (c : Rat) = (x : Rat)) (hb : 0 < b) (hc : 0 < c) : (t * c < x * b) ↔ g < e := by
  have hb' : (0 : Rat) < (b : Rat) := by exact_mod_cast hb
  have hc' : (0 : Rat) < (c : Rat) := by exact_mod_cast hc
  have h1 : (t * c < x * b) ↔ ((t : Rat) * (c : Rat) < (x : Rat) * (b : Rat)) := by
    rw [← Rat.intCast_mul, ← Rat.intCast_mul]
    exact_mod_cast Iff.rfl
  rw [h1, ← hg, ← he]
  have hbc := Rat.mul_pos hb' hc'
  constructor
  · intro h
    by_cases z : g < e
    · exact z
    · have := Rat.mul_nonneg (show 0 ≤ g - e by grind) (show 0 ≤ (b : Rat) * c by grind)
      grind
  · intro h
    have := Rat.mul_pos (show 0 < e - g by grind) hbc
    grind
def spLess : Sp := fun vs H Q _ => ∃ (r1 r2 : Addr) (a b : Rat), vs = [.ref r1, .ref r2] ∧ TR H r1 a ∧ TR H r2 b ∧ Sr a ∧ Sr b ∧ Q (.bl (decide (a < b))) H
section
variable {P : Program} {w : World} {K : PySem.W.Frag} {mg : Str → Option Value} {base : Heap} {CP CR CN : Addr}
abbrev sLShare : Stmt := topS 54
theorem scLShare : FnScope ["_law_one", "_law_two"] ["_law_one", "_law_two"] (defScope sLShare) := ⟨rfl, rfl, rfl, by decide +kernel, rfl, by decide +kernel, by decide +kernel⟩
theorem ok_lshare {f : Addr} {fd : FuncData} (F : Fun K "_law_share" "_law_share" sLShare f fd) (G__law_q : Df P w K mg base "_law_q" 2 ["_law_top", "_law_bottom"] spQ) : FnOk P w K mg base CX0 3 f fd ["_law_one", "_law_two"] spLSh := by
  refine F.ok scLShare (fun vs H Q E h => ?_) (fun cdv A outer s H vs Q E hr h => ?_)
  · obtain ⟨r1, r2, a, b, rfl, _⟩ := h
    rfl
  · obtain ⟨r1, r2, a, b, rfl, h1, h2, za, zb, b0, q⟩ := h
    refine ⟨_, (pss_one (ps_ret (pe_call G__law_q.ok (hr.mono (by decide)) rfl G__law_q.m G__law_q.kp G__law_q.b .nil pass0 (pa_cons (pe_op op_mulW (pe_ix ix_tup (pv 0) pe_int (fun _ _ => rfl)) (pe_ix ix_tup (pv 1) pe_int (fun _ _ => rfl))) (pa_cons (pe_op op_mulW (pe_ix ix_tup (pv 0) pe_int (fun _ _ => rfl)) (pe_ix ix_tup (pv 1) pe_int (fun _ _ => rfl))) pa_nil))))), ?_⟩
    obtain ⟨el, e0⟩ := low_share (a := a) b0
    refine ⟨_, rfl, r1, _, _, .int a.num, rfl, rfl, SqT.of h1, at_of (j := 0) rfl rfl, _, rfl, r2, _, _, .int b.den, rfl, rfl, SqT.of h2, at_of (j := 1) rfl rfl, _, _, rfl, rfl, big_mulW za.n zb.d, ?_⟩
    refine ⟨_, rfl, r1, _, _, .int a.den, rfl, rfl, SqT.of h1, at_of (j := 1) rfl rfl, _, rfl, r2, _, _, .int b.num, rfl, rfl, SqT.of h2, at_of (j := 0) rfl rfl, _, _, rfl, rfl, big_mulW za.d zb.n, ?_⟩
    refine ⟨_, _, rfl, e0, sr_prod za.1 (by rw [Int.natAbs_natCast]; exact zb.2), sr_prod (by rw [Int.natAbs_natCast]; exact za.2) zb.1, fun r H' ss nr er => ?_⟩
    rw [el] at er
    exact q r H' ss nr er
abbrev sLMinus : Stmt := topS 52
theorem scLMinus : FnScope ["_law_one", "_law_two"] ["_law_one", "_law_two"] (defScope sLMinus) := ⟨rfl, rfl, rfl, by decide +kernel, rfl, by decide +kernel, by decide +kernel⟩
theorem ok_lminus {f : Addr} {fd : FuncData} (F : Fun K "_law_minus" "_law_minus" sLMinus f fd) (G__law_q : Df P w K mg base "_law_q" 2 ["_law_top", "_law_bottom"] spQ) : FnOk P w K mg base CX0 3 f fd ["_law_one", "_law_two"] (spL2 rSub) := by
  refine F.ok scLMinus (fun vs H Q E h => ?_) (fun cdv A outer s H vs Q E hr h => ?_)
  · obtain ⟨r1, r2, a, b, rfl, _⟩ := h
    rfl
  · obtain ⟨r1, r2, a, b, rfl, h1, h2, za, zb, q⟩ := h
    refine ⟨_, (pss_one (ps_ret (pe_call G__law_q.ok (hr.mono (by decide)) rfl G__law_q.m G__law_q.kp G__law_q.b .nil pass0 (pa_cons (pe_op op_sub (pe_op op_mulW (pe_ix ix_tup (pv 0) pe_int (fun _ _ => rfl)) (pe_ix ix_tup (pv 1) pe_int (fun _ _ => rfl))) (pe_op op_mulW (pe_ix ix_tup (pv 1) pe_int (fun _ _ => rfl)) (pe_ix ix_tup (pv 0) pe_int (fun _ _ => rfl)))) (pa_cons (pe_op op_mulW (pe_ix ix_tup (pv 0) pe_int (fun _ _ => rfl)) (pe_ix ix_tup (pv 1) pe_int (fun _ _ => rfl))) pa_nil))))), ?_⟩
    obtain ⟨s1, s2, s3⟩ := sr_sum za (sr_neg' zb)
    rw [Rat.neg_num, Rat.neg_den, Int.neg_mul, ← Int.sub_eq_add_neg] at s1
    rw [Rat.neg_den] at s2
    refine ⟨_, rfl, r1, _, _, .int a.num, rfl, rfl, SqT.of h1, at_of (j := 0) rfl rfl, _, rfl, r2, _, _, .int b.den, rfl, rfl, SqT.of h2, at_of (j := 1) rfl rfl, _, _, rfl, rfl, big_mulW za.n zb.d, ?_⟩
    refine ⟨_, rfl, r2, _, _, .int b.num, rfl, rfl, SqT.of h2, at_of (j := 0) rfl rfl, _, rfl, r1, _, _, .int a.den, rfl, rfl, SqT.of h1, at_of (j := 1) rfl rfl, _, _, rfl, rfl, big_mulW zb.n za.d, ?_⟩
    refine ⟨_, _, rfl, rfl, ?_⟩
    refine ⟨_, rfl, r1, _, _, .int a.den, rfl, rfl, SqT.of h1, at_of (j := 1) rfl rfl, _, rfl, r2, _, _, .int b.den, rfl, rfl, SqT.of h2, at_of (j := 1) rfl rfl, _, _, rfl, rfl, big_mulW za.d zb.d, ?_⟩
    refine ⟨_, _, rfl, den_ne a b, s1, s2, fun r H' ss nr er => ?_⟩
    rw [low_sub] at er
    exact q r H' ss nr er
abbrev sLLess : Stmt := topS 55
theorem scLLess : FnScope ["_law_one", "_law_two"] ["_law_one", "_law_two"] (defScope sLLess) := ⟨rfl, rfl, rfl, by decide +kernel, rfl, by decide +kernel, by decide +kernel⟩
theorem ok_lless {f : Addr} {fd : FuncData} (F : Fun K "_law_less" "_law_less" sLLess f fd) : FnOk P w K mg base CX0 1 f fd ["_law_one", "_law_two"] spLess := by
  refine F.ok scLLess (fun vs H Q E h => ?_) (fun cdv A outer s H vs Q E hr h => ?_)
  · obtain ⟨r1, r2, a, b, rfl, _⟩ := h
    rfl
  · obtain ⟨r1, r2, a, b, rfl, h1, h2, za, zb, q⟩ := h
    refine ⟨_, (pss_one (ps_ret (pe_cmpR op_lt (pe_op op_mulW (pe_ix ix_tup (pv 0) pe_int (fun _ _ => rfl)) (pe_ix ix_tup (pv 1) pe_int (fun _ _ => rfl))) (pe_op op_mulW (pe_ix ix_tup (pv 1) pe_int (fun _ _ => rfl)) (pe_ix ix_tup (pv 0) pe_int (fun _ _ => rfl))) (nomark _)))), ?_⟩
    refine ⟨_, rfl, r1, _, _, .int a.num, rfl, rfl, SqT.of h1, at_of (j := 0) rfl rfl, _, rfl, r2, _, _, .int b.den, rfl, rfl, SqT.of h2, at_of (j := 1) rfl rfl, _, _, rfl, rfl, big_mulW za.n zb.d, ?_⟩
    refine ⟨_, rfl, r2, _, _, .int b.num, rfl, rfl, SqT.of h2, at_of (j := 0) rfl rfl, _, rfl, r1, _, _, .int a.den, rfl, rfl, SqT.of h1, at_of (j := 1) rfl rfl, _, _, rfl, rfl, big_mulW zb.n za.d, ?_⟩
    refine ⟨_, _, rfl, rfl, ?_⟩
    have e : decide (a < b) = decide (a.num * (b.den : Int) < b.num * (a.den : Int)) := by
      rw [decide_eq_decide]
      exact (lt_cross (by rw [Rat.intCast_natCast]; exact num_den a) (by rw [Rat.intCast_natCast]; exact num_den b) (by have := a.den_pos; omega) (by have := b.den_pos; omega)).symm
    rw [e] at q
    exact q
abbrev sLWhole : Stmt := topS 48
theorem scLWhole : FnScope ["_law_thing"] ["_law_thing"] (defScope sLWhole) := ⟨rfl, rfl, rfl, by decide +kernel, rfl, by decide +kernel, by decide +kernel⟩
theorem ok_lwhole {f : Addr} {fd : FuncData} (F : Fun K "_law_is_whole" "_law_is_whole" sLWhole f fd) (T : Bk mg) : FnOk P w K mg base CX0 1 f fd ["_law_thing"] (spWhole K) := by
  refine F.ok scLWhole (fun vs H Q E h => ?_) (fun cdv A outer s H vs Q E hr h => ?_)
  · obtain ⟨v, d, rfl, _⟩ := h
    rfl
  · obtain ⟨v, d, rfl, hd, q⟩ := h
    refine ⟨_, (pss_one (ps_ret (pe_and (pe_callB call_isi (by rfl) T.isinstance (by decide +kernel) (pa_cons (pv 0) (pa_cons (pe_bltn (v := V.ty "int") (by rfl) T.int (by decide +kernel) rfl) pa_nil)))
      (pe_one (pe_not (pe_callB call_isi (by rfl) T.isinstance (by decide +kernel) (pa_cons (pv 0) (pa_cons (pe_bltn (v := V.ty "bool") (by rfl) T.bool (by decide +kernel) rfl) pa_nil)))))))), ?_⟩
    refine ⟨_, rfl, v, .ty "int", _, .type "int", _, rfl, .ty _, hd.ty, kit_int d, _, rfl, ?_⟩
    cases hi : intD d with
    | false =>
      refine iteF ?_
      have e : wholeD d = false := by cases d <;> first | rfl | (exact absurd hi (fun z => by cases z))
      rw [e] at q
      exact q
    | true =>
      refine iteT ?_
      refine ⟨_, rfl, v, .ty "bool", _, .type "bool", _, rfl, .ty _, hd.ty, kit_bool d, _, rfl, ?_⟩
      have e : wholeD d = !boolD d := by cases d <;> first | rfl | (exact absurd hi (fun z => by cases z))
      rw [e] at q
      exact q
end
theorem kit_tup {K : PySem.W.Frag} : PySem.W.kitOne K (.type "tuple") (.type "tuple") = some true := by rfl
def BqQ (q : Rat) : Prop := q.num.natAbs ≤ 2 ^ 16 ∧ q.den ≤ 2 ^ 9
def spIsRt : Sp := fun vs H Q _ => ∃ (r : Addr) (q : Rat), vs = [.ref r] ∧ TR H r q ∧ q.num.natAbs < 2 ^ big ∧ q.den < 2 ^ big ∧ ∀ H', Same H H' → Q (.bl true) H'
def spMid : Sp := fun vs H Q _ => ∃ (r1 r2 : Addr) (a b : Rat), vs = [.ref r1, .ref r2] ∧ TR H r1 a ∧ TR H r2 b ∧ Sr a ∧ Sr b ∧ Sr (a + b) ∧ ∀ (r : Addr) (H' : Hp), Same H H' → TR H' r ((a + b) / 2) → Q (.ref r) H'
def spIv : Sp := fun vs H Q _ => ∃ (p lc : Addr) (B m : Int), vs = [.ref p, .int m] ∧ 1 ≤ m ∧ m ≤ 90 ∧ Pen H p lc B ∧ B ≤ 1000000 ∧
  ∀ (t r1 r2 : Addr) (lo hi : Rat) (H' : Hp), Pen H' p lc (B + 10) → Kp p H H' → H' t = some (.tup [.ref r1, .ref r2]) → t ≠ p → TR H' r1 lo → TR H' r2 hi → lo < hi → BqQ lo → BqQ hi → Q (.ref t) H'
def half1 : Rat := ⟨1, 2, by decide, by decide⟩
theorem half_mul (x : Rat) : x * half1 = x / 2 := by
  have : half1 * 2 = 1 := by decide +kernel
  grind
section
variable {P : Program} {w : World} {K : PySem.W.Frag} {mg : Str → Option Value} {base : Heap} {CP CR CN CI : Addr}
abbrev sLIsRatio : Stmt := topS 56
theorem scLIsRatio : FnScope ["_law_thing"] ["_law_thing"] (defScope sLIsRatio) := ⟨rfl, rfl, rfl, by decide +kernel, rfl, by decide +kernel, by decide +kernel⟩
theorem ok_lisratio {f : Addr} {fd : FuncData} (F : Fun K "_law_is_ratio" "_law_is_ratio" sLIsRatio f fd) (T : Bk mg) (G__law_is_whole : Df P w K mg base "_law_is_whole" 1 ["_law_thing"] (spWhole K)) (G__law_gcd : Df P w K mg base "_law_gcd" 1 ["_law_one", "_law_two"] spGcd) : FnOk P w K mg base CX0 2 f fd ["_law_thing"] spIsRt := by
  refine F.ok scLIsRatio (fun vs H Q E h => ?_) (fun cdv A outer s H vs Q E hr h => ?_)
  · obtain ⟨r, q, rfl, _⟩ := h
    rfl
  · obtain ⟨r, x, rfl, hx, zn, zd, q⟩ := h
    refine ⟨_, (pss_cons (ps_if (PW.pt (pw_or (pt_not (pt_val (pe_callB call_isi (by rfl) T.isinstance (by decide +kernel) (pa_cons (pv 0) (pa_cons (pe_bltn (v := V.ty "tuple") (by rfl) T.tuple (by decide +kernel) rfl) pa_nil))))) (pw_or1 (pt_cmpR op_ne (pe_callB call_len_seq (by rfl) T.len (by decide +kernel) (pa_cons (pv 0) pa_nil)) pe_int (nomark _)))))
    (pss_one (ps_ret pe_bl))
    pss_nil)
  (pss_cons (ps_if (PW.pt (pw_or (pt_not (pt_val (pe_call G__law_is_whole.ok (hr.mono (by decide)) rfl G__law_is_whole.m G__law_is_whole.kp G__law_is_whole.b .nil pass0 (pa_cons (pe_ix ix_tup (pv 0) pe_int (fun _ _ => rfl)) pa_nil)))) (pw_or1 (pt_not (pt_val (pe_call G__law_is_whole.ok (hr.mono (by decide)) rfl G__law_is_whole.m G__law_is_whole.kp G__law_is_whole.b .nil pass0 (pa_cons (pe_ix ix_tup (pv 0) pe_int (fun _ _ => rfl)) pa_nil)))))))
    (pss_one (ps_ret pe_bl))
    pss_nil)
  (pss_one (ps_ret (pe_and (pe_cmpR op_gt (pe_ix ix_tup (pv 0) pe_int (fun _ _ => rfl)) pe_int (nomark _)) (pe_one (pe_cmpR op_eq (pe_call G__law_gcd.ok (hr.mono (by decide)) rfl G__law_gcd.m G__law_gcd.kp G__law_gcd.b .nil pass0 (pa_cons (pe_ix ix_tup (pv 0) pe_int (fun _ _ => rfl)) (pa_cons (pe_ix ix_tup (pv 0) pe_int (fun _ _ => rfl)) pa_nil))) pe_int (nomark _)))))))), ?_⟩
    have hD : Dt K H (.ref r) (.tuple [.int x.num, .int (x.den : Int)]) := .tup (SqT.of hx) (.cons (.int _) (.cons (.int _) .nil))
    refine ⟨_, rfl, .ref r, .ty "tuple", _, .type "tuple", _, rfl, .ty _, hD.ty, kit_tup, _, rfl, ?_⟩
    refine iteF ?_
    refine ⟨_, rfl, r, _, rfl, .inr (SqT.of hx), rfl, _, rfl, ?_⟩
    refine iteF ?_
    refine ⟨_, rfl, r, _, _, .int x.num, rfl, rfl, SqT.of hx, at_of (j := 0) rfl rfl, .int x.num, .int x.num, rfl, .int _, ?_⟩
    refine ⟨true, rfl, ?_⟩
    refine iteF ?_
    refine ⟨_, rfl, r, _, _, .int (x.den : Int), rfl, rfl, SqT.of hx, at_of (j := 1) rfl rfl, .int (x.den : Int), .int (x.den : Int), rfl, .int _, ?_⟩
    refine ⟨true, rfl, ?_⟩
    refine iteF ?_
    refine ⟨_, rfl, r, _, _, .int (x.den : Int), rfl, rfl, SqT.of hx, at_of (j := 1) rfl rfl, _, _, rfl, rfl, ?_⟩
    have d0 := x.den_pos
    refine ⟨true, congrArg V.bl (decide_eq_true (show (0 : Int) < (x.den : Int) by omega)), ?_⟩
    refine iteT ?_
    refine ⟨_, rfl, r, _, _, .int x.num, rfl, rfl, SqT.of hx, at_of (j := 0) rfl rfl, _, rfl, r, _, _, .int (x.den : Int), rfl, rfl, SqT.of hx, at_of (j := 1) rfl rfl, _, _, rfl, zn, by rw [Int.natAbs_natCast]; exact zd, ?_⟩
    rw [Int.natAbs_natCast, x.reduced]
    refine ⟨rfl, ?_⟩
    exact q H (Same.refl _)
abbrev sLMid : Stmt := topS 60
theorem scLMid : FnScope ["_law_one", "_law_two"] ["_law_one", "_law_two"] (defScope sLMid) := ⟨rfl, rfl, rfl, by decide +kernel, rfl, by decide +kernel, by decide +kernel⟩
theorem ok_lmid {f : Addr} {fd : FuncData} (F : Fun K "_law_middle" "_law_middle" sLMid f fd) (G__law_times : Df P w K mg base "_law_times" 3 ["_law_one", "_law_two"] (spL2 rMul)) (G__law_plus : Df P w K mg base "_law_plus" 3 ["_law_one", "_law_two"] (spL2 rAdd)) : FnOk P w K mg base CX0 4 f fd ["_law_one", "_law_two"] spMid := by
  refine F.ok scLMid (fun vs H Q E h => ?_) (fun cdv A outer s H vs Q E hr h => ?_)
  · obtain ⟨r1, r2, a, b, rfl, _⟩ := h
    rfl
  · obtain ⟨r1, r2, a, b, rfl, h1, h2, za, zb, zc, q⟩ := h
    refine ⟨_, (pss_one (ps_ret (pe_call G__law_times.ok (hr.mono (by decide)) rfl G__law_times.m G__law_times.kp G__law_times.b .nil pass0 (pa_cons (pe_call G__law_plus.ok (hr.mono (by decide)) rfl G__law_plus.m G__law_plus.kp G__law_plus.b .nil pass0 (pa_cons (pv 0) (pa_cons (pv 1) pa_nil))) (pa_cons (pe_tup (pa_cons pe_int (pa_cons pe_int pa_nil))) pa_nil))))), ?_⟩
    refine ⟨_, rfl, _, rfl, r1, r2, a, b, rfl, h1, h2, za, zb, fun r H1 s1 nr hr1 => ?_⟩
    refine ⟨(by show 2 ≤ sizeLine; decide), fun t nt => ?_⟩
    have et : upd H1 t (HO.tup [V.int 1, V.int 2]) t = some (HO.tup [V.int 1, V.int 2]) := upd_same
    have s2 : Same H1 (upd H1 t (HO.tup [V.int 1, V.int 2])) := same_upd nt
    try dsimp only [] at nt ⊢
    generalize upd H1 t (HO.tup [V.int 1, V.int 2]) = H2 at et s2 ⊢
    refine ⟨r, t, rAdd a b, half1, rfl, hr1.same s2, et, zc, ⟨by show (1 : Nat) < 2 ^ 4300; exact Nat.one_lt_pow (by decide) (by decide), by show (2 : Nat) < 2 ^ 4300; exact Nat.lt_of_lt_of_le (show 2 < 2 ^ 2 by decide) (Nat.pow_le_pow_right (by decide) (by decide))⟩, fun r' H3 s3 nr' hr' => ?_⟩
    refine q r' H3 (s1.trans (s2.trans s3)) ?_
    rw [← half_mul]
    exact hr'
end
section
variable {P : Program} {w : World} {K : PySem.W.Frag} {mg : Str → Option Value} {base : Heap} {CP CR CN CI : Addr}
theorem bq_of {t b : Int} {q : Rat} {m : Int} (e : (t, b) = pq q) (h1 : (t.natAbs : Int) ≤ m * 99) (h2 : b.natAbs ≤ 99) (hm : m ≤ 90) : BqQ q ∧ q.num.natAbs ≤ 8910 ∧ q.den ≤ 99 := by
  have et : t = q.num := congrArg Prod.fst e
  have eb : b = (q.den : Int) := congrArg Prod.snd e
  rw [et] at h1
  rw [eb, Int.natAbs_natCast] at h2
  refine ⟨⟨?_, ?_⟩, ?_, h2⟩
  · show q.num.natAbs ≤ 65536
    omega
  · show q.den ≤ 512
    omega
  · omega
abbrev sIv : Stmt := topS 59
theorem scIv : FnScope ["_law_pen_here", "_law_most", "_law_one", "_law_two"] ["_law_pen_here", "_law_most"] (defScope sIv) := ⟨rfl, rfl, rfl, by decide +kernel, rfl, by decide +kernel, by decide +kernel⟩
theorem ok_iv {f : Addr} {fd : FuncData} (F : Fun K "_law_interval" "_law_interval" sIv f fd) (hm1 : M1 base) (G__law_ratio : Df P w K mg base "_law_ratio" 3 ["_law_pen_here", "_law_most"] spRatio) (G__law_draw : Df P w K mg base "_law_draw" 1 ["_law_pen_here", "_law_many"] spDraw) (G__law_plus : Df P w K mg base "_law_plus" 3 ["_law_one", "_law_two"] (spL2 rAdd)) (G__law_less : Df P w K mg base "_law_less" 1 ["_law_one", "_law_two"] spLess) :
    FnOk P w K mg base CX0 4 f fd ["_law_pen_here", "_law_most"] spIv := by
  refine F.ok scIv (fun vs H Q E h => ?_) (fun cdv A outer s H vs Q E hr h => ?_)
  · obtain ⟨p, lc, B, m, rfl, _⟩ := h
    rfl
  · obtain ⟨p, lc, B, m, rfl, hm0, hm50, hP, hB, q⟩ := h
    refine ⟨_, (pss_cons (ps_par (i := 2) (j := 3) (by rfl) scIv.nd rfl rfl (by decide) rfl rfl (pa_cons (pe_call G__law_ratio.ok (hr.mono (by decide)) rfl G__law_ratio.m G__law_ratio.kp G__law_ratio.b .nil pass0 (pa_cons (pv 0) (pa_cons (pv 1) pa_nil))) (pa_cons (pe_call G__law_ratio.ok (hr.mono (by decide)) rfl G__law_ratio.m G__law_ratio.kp G__law_ratio.b .nil pass0 (pa_cons (pv 0) (pa_cons (pv 1) pa_nil))) pa_nil)) (by rfl))
  (pss_cons (ps_if (pt_cmpR (op_eqT hr.units hm1) (pv 2) (pv 3) (nomark _))
    (pss_one (ps_set (i := 3) scIv.nd rfl (Or.inl rfl) (pe_call G__law_plus.ok (hr.mono (by decide)) rfl G__law_plus.m G__law_plus.kp G__law_plus.b .nil pass0 (pa_cons (pv 2) (pa_cons (pe_tup (pa_cons pe_int (pa_cons (pe_op op_add pe_int (pe_call G__law_draw.ok (hr.mono (by decide)) rfl G__law_draw.m G__law_draw.kp G__law_draw.b .nil pass0 (pa_cons (pv 0) (pa_cons pe_int pa_nil)))) pa_nil))) pa_nil)))))
    pss_nil)
  (pss_one (ps_ret (pe_ifExp (pt_val (pe_call G__law_less.ok (hr.mono (by decide)) rfl G__law_less.m G__law_less.kp G__law_less.b .nil pass0 (pa_cons (pv 2) (pa_cons (pv 3) pa_nil)))) (pe_tup (pa_cons (pv 2) (pa_cons (pv 3) pa_nil))) (pe_tup (pa_cons (pv 3) (pa_cons (pv 2) pa_nil)))))))), ?_⟩
    refine par_two ?_
    refine ⟨_, rfl, _, rfl, p, lc, _, m, rfl, by omega, by omega, hP, by omega, fun a1 u1 b1 G1 hP1 k1 f1 lw1 zt1 zb1 => ?_⟩
    refine ⟨_, rfl, _, rfl, p, lc, _, m, rfl, by omega, by omega, hP1, by omega, fun a2 u2 b2 G2 hP2 k2 f2 lw2 zt2 zb2 => ?_⟩
    obtain ⟨q1, e1⟩ := low_is_pq (p := (u1, b1)) lw1
    obtain ⟨q2, e2⟩ := low_is_pq (p := (u2, b2)) lw2
    obtain ⟨bq1, n1, d1⟩ := bq_of e1 zt1 zb1 hm50
    obtain ⟨bq2, n2, d2⟩ := bq_of e2 zt2 zb2 hm50
    have h1 : TR G1 a1 q1 := by
      show G1 a1 = some (.tup [.int (pq q1).1, .int (pq q1).2])
      rw [← e1]; exact f1
    have h2 : TR G2 a2 q2 := by
      show G2 a2 = some (.tup [.int (pq q2).1, .int (pq q2).2])
      rw [← e2]; exact f2
    obtain ⟨_, _, _, _, _, gp1, _⟩ := id hP1
    have p1 : a1 ≠ p := ne_of f1 gp1.1 (by intro z; cases z)
    have h1' : TR G2 a1 q1 := k2 _ _ p1 h1
    have dtr : ∀ {H : Hp} {r : Addr} {x : Rat}, TR H r x → Dt K H (.ref r) (pairD (pq x)) := fun h => .tup (SqT.of h) (.cons (.int _) (.cons (.int _) .nil))
    have srb : ∀ {x : Rat}, BqQ x → Sr x := fun h => sr_of (k := 16) h.1 (Nat.le_trans h.2 (by decide)) (by decide)
    have fin : ∀ (a2 : Addr) (q2 : Rat) (G2 : Hp), TR G2 a1 q1 → TR G2 a2 q2 → BqQ q2 → q1 ≠ q2 → Pen G2 p lc (B + 10) → Kp p H G2 → ∀ (D : Ends) (D2 : D.rt = Q), True := fun _ _ _ _ _ _ _ _ _ _ _ => trivial
    refine ⟨_, rfl, _, rfl, pairD (pq q1), pairD (pq q2), dtr h1', dtr h2, by rfl, by rfl, (by simp [pairD, PyData.depth, PyData.depthAll]), _, rfl, ?_⟩
    rw [eqv_pair]
    by_cases eq : q1 = q2
    · rw [decide_eq_true (by rw [eq])]
      refine iteT ?_
      subst eq
      refine ⟨_, rfl, _, rfl, p, lc, _, 4, rfl, hP2, by omega, by decide, by decide, fun z G3 z0 z1 hP3 k3 => ?_⟩
      refine ⟨_, _, rfl, rfl, (by show 2 ≤ sizeLine; decide), fun t nt => ?_⟩
      have et : upd G3 t (HO.tup [V.int 1, V.int (1 + z)]) t = some (HO.tup [V.int 1, V.int (1 + z)]) := upd_same
      have s3 : Same G3 (upd G3 t (HO.tup [V.int 1, V.int (1 + z)])) := same_upd nt
      try dsimp only [tNil] at nt ⊢
      generalize upd G3 t (HO.tup [V.int 1, V.int (1 + z)]) = G4 at et s3 ⊢
      let iv : Rat := ⟨1, (1 + z).toNat, by omega, Nat.gcd_one_left _⟩
      have hiv : TR G4 t iv := by
        show G4 t = some (.tup [.int 1, .int (((1 + z).toNat : Nat) : Int)])
        rw [Int.toNat_of_nonneg (by omega)]
        exact et
      have siv : Sr iv := sr_of (k := 3) (show (1 : Nat) ≤ 8 by decide) (show (1 + z).toNat ≤ 8 by omega) (by decide)
      have h1'' : TR G4 a1 q1 := s3 _ _ (k3 _ _ p1 h1')
      refine ⟨a1, t, q1, iv, rfl, h1'', hiv, srb bq1, siv, fun r G5 s5 nr hr5 => ?_⟩
      have hr5' : TR G5 r (q1 + iv) := hr5
      have i0 : 0 < iv := by
        have := num_den iv
        have e1 : ((iv.num : Int) : Rat) = 1 := rfl
        rw [e1] at this
        have d0 : (0 : Rat) < (iv.den : Rat) := by
          have := iv.den_pos
          exact_mod_cast this
        refine Decidable.byContradiction fun n => ?_
        have := Rat.mul_nonneg (show 0 ≤ -iv by grind) (Rat.le_of_lt d0)
        grind
      have bq3 : BqQ (q1 + iv) := by
        have e := low_add q1 iv
        have dd := q1.den_pos
        obtain ⟨s1, s2⟩ := low_size (t := q1.num * iv.den + iv.num * q1.den) (b := (q1.den : Int) * iv.den) (Int.mul_ne_zero (by omega) (by have := iv.den_pos; omega))
        rw [e] at s1 s2
        have s1 : (q1 + iv).num.natAbs ≤ (q1.num * (iv.den : Int) + iv.num * (q1.den : Int)).natAbs := s1
        have s2 : ((q1 + iv).den : Int).natAbs ≤ ((q1.den : Int) * (iv.den : Int)).natAbs := s2
        have iz : iv.den ≤ 4 := (show (1 + z).toNat ≤ 4 by omega)
        have in1 : iv.num = 1 := rfl
        have m1 : (q1.num * (iv.den : Int)).natAbs ≤ 8910 * 4 := by rw [Int.natAbs_mul, Int.natAbs_natCast]; exact Nat.mul_le_mul n1 iz
        have m2 : ((q1.den : Int) * (iv.den : Int)).natAbs ≤ 99 * 4 := by rw [Int.natAbs_mul, Int.natAbs_natCast, Int.natAbs_natCast]; exact Nat.mul_le_mul d1 iz
        have := Int.natAbs_add_le (q1.num * (iv.den : Int)) (iv.num * (q1.den : Int))
        rw [in1, Int.one_mul, Int.natAbs_natCast] at this
        rw [in1, Int.one_mul] at s1
        rw [Int.natAbs_natCast] at s2
        refine ⟨?_, ?_⟩
        · show _ ≤ 65536
          omega
        · show _ ≤ 512
          omega
      have h1r := h1''.same s5
      have hP5 := (hP3.same s3).same s5
      refine ⟨_, rfl, _, rfl, a1, r, q1, q1 + iv, rfl, h1r, hr5', srb bq1, srb bq3, ?_⟩
      have lt : q1 < q1 + iv := by grind
      rw [decide_eq_true lt]
      refine ⟨true, rfl, ?_⟩
      refine iteT ?_
      refine ⟨_, rfl, _, rfl, (by show 2 ≤ sizeLine; decide), fun t2 nt2 => ?_⟩
      have s6 : Same G5 (upd G5 t2 (HO.tup [V.ref a1, V.ref r])) := same_upd nt2
      exact q t2 a1 r q1 (q1 + iv) _ ((hP5.more (by omega)).same s6) ((((k1.trans k2).trans k3).trans (Kp.of (s3.trans s5))).trans (Kp.of s6)) upd_same (hP5.ne_new nt2).1 (h1r.same s6) (hr5'.same s6) lt bq1 bq3
    · rw [decide_eq_false (fun z => eq (pq_inj z))]
      refine iteF ?_
      refine ⟨_, rfl, _, rfl, a1, a2, q1, q2, rfl, h1', h2, srb bq1, srb bq2, ?_⟩
      by_cases lt : q1 < q2
      · rw [decide_eq_true lt]
        refine ⟨true, rfl, ?_⟩
        refine iteT ?_
        refine ⟨_, rfl, _, rfl, (by show 2 ≤ sizeLine; decide), fun t nt => ?_⟩
        have s3 : Same G2 (upd G2 t (HO.tup [V.ref a1, V.ref a2])) := same_upd nt
        exact q t a1 a2 q1 q2 _ ((hP2.more (by omega)).same s3) ((k1.trans k2).trans (Kp.of s3)) upd_same (hP2.ne_new nt).1 (h1'.same s3) (h2.same s3) lt bq1 bq2
      · rw [decide_eq_false lt]
        refine ⟨false, rfl, ?_⟩
        refine iteF ?_
        refine ⟨_, rfl, _, rfl, (by show 2 ≤ sizeLine; decide), fun t nt => ?_⟩
        have s3 : Same G2 (upd G2 t (HO.tup [V.ref a2, V.ref a1])) := same_upd nt
        exact q t a2 a1 q2 q1 _ ((hP2.more (by omega)).same s3) ((k1.trans k2).trans (Kp.of s3)) upd_same (hP2.ne_new nt).1 (h2.same s3) (h1'.same s3) (by grind) bq2 bq1
end
/-- the least of some -/
def minOf : List Rat → Rat
  | [] => 0
  | x :: l => l.foldl (fun b y => if y < b then y else b) x
theorem minOf_snoc {l : List Rat} (h : l ≠ []) (y : Rat) : minOf (l ++ [y]) = if y < minOf l then y else minOf l := by
  cases l with
  | nil => exact absurd rfl h
  | cons x l =>
    show (l ++ [y]).foldl _ x = _
    rw [List.foldl_append]
    rfl
theorem take_cf {qs : List Rat} {i : Nat} (h : i < qs.length) : qs.take (i + 1) = qs.take i ++ [cf qs i] := by
  rw [List.take_succ, List.getElem?_eq_getElem h, cf_lt h]
  rfl
theorem minOf_mem : ∀ {l : List Rat}, l ≠ [] → minOf l ∈ l
  | [], h => absurd rfl h
  | x :: l, _ => by
    have key : ∀ (l : List Rat) (b : Rat), l.foldl (fun b y => if y < b then y else b) b = b ∨ l.foldl (fun b y => if y < b then y else b) b ∈ l := fun l => by
      induction l with
      | nil => exact fun b => .inl rfl
      | cons y l ih =>
        intro b
        rw [List.foldl_cons]
        by_cases h : y < b
        · rw [if_pos h]
          rcases ih y with z | z
          · rw [z]; exact .inr (List.mem_cons_self ..)
          · exact .inr (List.mem_cons_of_mem _ z)
        · rw [if_neg h]
          rcases ih b with z | z
          · exact .inl z
          · exact .inr (List.mem_cons_of_mem _ z)
    show l.foldl _ x ∈ _
    rcases key l x with z | z
    · rw [z]; exact List.mem_cons_self ..
    · exact List.mem_cons_of_mem _ z
theorem sr_mem {qs : List Rat} (h : ∀ i, Sr (cf qs i)) {q : Rat} (hq : q ∈ qs) : Sr q := by
  obtain ⟨i, hi, e⟩ := List.mem_iff_getElem.mp hq
  have := h i
  rw [cf_lt hi, e] at this
  exact this
def spMin (K : PySem.W.Frag) : Sp := fun vs H Q _ => ∃ (l : Addr) (qs : List Rat), vs = [.ref l] ∧ RL H l qs ∧ qs ≠ [] ∧ qs.length ≤ 1000 ∧ (∀ i, Sr (cf qs i)) ∧ ∀ (r : Addr) (H' : Hp), Same H H' → TR H' r (minOf qs) → Q (.ref r) H'
section
variable {P : Program} {w : World} {K : PySem.W.Frag} {mg : Str → Option Value} {base : Heap} {CP CR CN CI : Addr}
abbrev sLMin : Stmt := topS 61
theorem scLMin : FnScope ["_law_some", "_law_best", "_law_one"] ["_law_some"] (defScope sLMin) := ⟨rfl, rfl, rfl, by decide +kernel, rfl, by decide +kernel, by decide +kernel⟩
theorem ok_lmin {f : Addr} {fd : FuncData} (F : Fun K "_law_lower_one" "_law_lower_one" sLMin f fd) (G__law_less : Df P w K mg base "_law_less" 1 ["_law_one", "_law_two"] spLess) : FnOk P w K mg base CX0 2 f fd ["_law_some"] (spMin K) := by
  refine F.ok scLMin (fun vs H Q E h => ?_) (fun cdv A outer s H vs Q E hr h => ?_)
  · obtain ⟨l, qs, rfl, _⟩ := h
    rfl
  · obtain ⟨l, qs, rfl, ⟨as, e1, t1⟩, hne, hz, sr, q⟩ := h
    refine ⟨_, (pss_cons (ps_set (i := 1) scLMin.nd rfl (Or.inl rfl) (pe_ix (r := rIxL K) ix_list (pv 0) pe_int (fun _ _ => rfl)))
  (pss_cons (ps_for PassesOwn.never rfl (pi_list (pe_slice sl_list (pv 0) (po_some pe_int) po_none)) (pg_name (i := 2) scLMin.nd rfl (Or.inl rfl))
    (pss_one (ps_set (i := 1) scLMin.nd rfl (Or.inl rfl) (pe_ifExp (pt_val (pe_call G__law_less.ok (hr.mono (by decide)) rfl G__law_less.m G__law_less.kp G__law_less.b .nil pass0 (pa_cons (pv 2) (pa_cons (pv 1) pa_nil)))) (pv 2) (pv 1)))))
  (pss_one (ps_ret (pv 1))))), ?_⟩
    have n1 := t1.lenQ
    have h0 : 0 < qs.length := List.length_pos_iff.mpr hne
    obtain ⟨r0, g0, er0⟩ := t1.getQ h0
    refine ⟨_, rfl, l, _, 0, .ref r0, rfl, rfl, SqL.of e1, at_of (j := 0) rfl (by rw [List.getElem?_map, g0]; rfl), ?_⟩
    refine ⟨_, rfl, _, rfl, l, _, rfl, SqL.of e1, fun lb nb => ?_⟩
    have eb : upd H lb (HO.lst (cutV (as.map V.ref) (some 1) none)) lb = some (HO.lst (cutV (as.map V.ref) (some 1) none)) := upd_same
    have s1 : Same H (upd H lb (HO.lst (cutV (as.map V.ref) (some 1) none))) := same_upd nb
    generalize upd H lb (HO.lst (cutV (as.map V.ref) (some 1) none)) = H1 at eb s1 ⊢
    rw [cut1, ← List.map_drop] at eb
    refine ⟨lb, rfl, ⟨_, SqL.of eb⟩, for_list (K := K) (a := lb) (xs := (as.drop 1).map V.ref) (fun i σ H' => ∃ (rb : Addr) (v : Option V), σ = [some (.ref l), some (.ref rb), v] ∧ Same H1 H' ∧ TR H' rb (minOf (qs.take (i + 1))))
      ⟨r0, none, rfl, Same.refl _, ?_⟩ (fun i σ H' _ ⟨_, _, _, ss, _⟩ => SqL.of (ss _ _ eb)) ?_ ?_⟩
    · rw [take_cf h0]
      exact er0.same s1
    · rintro i x σ H' hi ⟨rb, v, rfl, ss, hb⟩
      have il : i + 1 < qs.length := by
        have := (List.getElem?_eq_some_iff.mp hi).1
        rw [List.length_map, List.length_drop] at this
        omega
      obtain ⟨rx, gx, ex⟩ := t1.getQ il
      rw [List.getElem?_map, List.getElem?_drop, Nat.add_comm, gx] at hi
      cases hi
      have ex := (ex.same s1).same ss
      have ne : qs.take (i + 1) ≠ [] := fun z => by
        have := congrArg List.length z
        rw [List.length_take] at this
        have this : min (i + 1) qs.length = 0 := this
        omega
      have hm := minOf_snoc ne (cf qs (i + 1))
      rw [← take_cf il] at hm
      refine ⟨_, rfl, _, rfl, rx, rb, cf qs (i + 1), minOf (qs.take (i + 1)), rfl, ex, hb, sr _, sr_mem sr (List.mem_of_mem_take (minOf_mem ne)), _, rfl, ?_⟩
      by_cases hc : cf qs (i + 1) < minOf (qs.take (i + 1))
      · rw [decide_eq_true hc]
        refine iteT ?_
        refine ⟨_, rfl, rx, _, rfl, ss, ?_⟩
        rw [hm, if_pos hc]
        exact ex
      · rw [decide_eq_false hc]
        refine iteF ?_
        refine ⟨_, rfl, rb, _, rfl, ss, ?_⟩
        rw [hm, if_neg hc]
        exact hb
    · rintro σ H' ⟨rb, v, rfl, ss, hb⟩
      refine ⟨_, rfl, q rb H' (s1.trans ss) ?_⟩
      rw [List.length_map, List.length_drop, show as.length - 1 + 1 = qs.length by omega, List.take_length] at hb
      exact hb
end
def AscQ (l : List Rat) : Prop := ∀ i, i + 1 < l.length → cf l i < cf l (i + 1)
def spSort (K : PySem.W.Frag) : Sp := fun vs H Q _ => ∃ (l : Addr) (qs : List Rat), vs = [.ref l] ∧ RL H l qs ∧ qs ≠ [] ∧ qs.length ≤ 1000 ∧ (∀ i, Sr (cf qs i)) ∧
  ∀ (l' : Addr) (rs : List Rat) (H' : Hp), Same H H' → RL H' l' rs → rs ≠ [] → rs.length ≤ qs.length → (∀ q ∈ rs, q ∈ qs) → AscQ rs → Q (.ref l') H'
theorem minOf_le : ∀ {l : List Rat} {y : Rat}, y ∈ l → minOf l ≤ y
  | [], _, h => by cases h
  | x :: l, y, h => by
    have key : ∀ (l : List Rat) (b : Rat), l.foldl (fun b y => if y < b then y else b) b ≤ b ∧ ∀ y ∈ l, l.foldl (fun b y => if y < b then y else b) b ≤ y := fun l => by
      induction l with
      | nil => exact fun b => ⟨by grind, fun y h => by cases h⟩
      | cons z l ih =>
        intro b
        rw [List.foldl_cons]
        by_cases h : z < b
        · rw [if_pos h]
          obtain ⟨h1, h2⟩ := ih z
          refine ⟨by grind, fun y hy => ?_⟩
          rcases List.mem_cons.mp hy with e | e
          · rw [e]; exact h1
          · exact h2 y e
        · rw [if_neg h]
          obtain ⟨h1, h2⟩ := ih b
          refine ⟨h1, fun y hy => ?_⟩
          rcases List.mem_cons.mp hy with e | e
          · rw [e]; grind
          · exact h2 y e
    obtain ⟨h1, h2⟩ := key l x
    show l.foldl _ x ≤ y
    rcases List.mem_cons.mp h with e | e
    · rw [e]; exact h1
    · exact h2 y e
theorem AscQ.snoc {l : List Rat} {y : Rat} (h : AscQ l) (hy : ∀ q ∈ l, q < y) : AscQ (l ++ [y]) := fun i hi => by
  rw [List.length_append, List.length_singleton] at hi
  rw [cf_app, if_pos (by omega), cf_app]
  by_cases e : i + 1 < l.length
  · rw [if_pos e]
    exact h i e
  · rw [if_neg e, show i + 1 - l.length = 0 by omega]
    show cf l i < y
    rw [cf_lt (show i < l.length by omega)]
    exact hy _ (List.getElem_mem _)
theorem plain_pair (p : Int × Int) : (pairD p).plain = true := by rfl
theorem depth_pair (p : Int × Int) : (pairD p).depth ≤ 60 := by
  unfold pairD
  simp [PyData.depth, PyData.depthAll]
theorem cf_mem {l : List Rat} {i : Nat} (h : i < l.length) : cf l i ∈ l := by
  rw [cf_lt h]
  exact List.getElem_mem _
theorem len_filter_take (L : List Rat) (m : Rat) (j : Nat) : ((L.take j).filter (fun q => decide (q ≠ m))).length ≤ L.length := by
  have h1 := List.length_filter_le (fun q => decide (q ≠ m)) (L.take j)
  rw [List.length_take] at h1
  omega
theorem filter_lt {L : List Rat} {m : Rat} (h : m ∈ L) : (L.filter (fun q => decide (q ≠ m))).length < L.length := by
  induction L with
  | nil => cases h
  | cons x l ih =>
    rw [List.filter_cons]
    by_cases e : x = m
    · rw [if_neg (by simp [e])]
      have := List.length_filter_le (fun q => decide (q ≠ m)) l
      rw [List.length_cons]
      omega
    · rw [if_pos (by simp [e])]
      have := ih ((List.mem_cons.mp h).resolve_left (fun z => e z.symm))
      rw [List.length_cons, List.length_cons]
      omega
section
variable {P : Program} {w : World} {K : PySem.W.Frag} {mg : Str → Option Value} {base : Heap} {CN : Addr}
abbrev sSort : Stmt := topS 62
theorem scSort : FnScope ["_law_some", "_law_left", "_law_found", "_law_lap", "_law_one", "_law_other"] ["_law_some"] (defScope sSort) := ⟨rfl, rfl, rfl, by decide +kernel, rfl, by decide +kernel, by decide +kernel⟩
theorem ok_sort {f : Addr} {fd : FuncData} (F : Fun K "_law_sorted" "_law_sorted" sSort f fd) (T : Bk mg) (hm1 : M1 base) (G__law_lower_one : Df P w K mg base "_law_lower_one" 2 ["_law_some"] (spMin K)) : FnOk P w K mg base CX0 3 f fd ["_law_some"] (spSort K) := by
  refine F.ok scSort (fun vs H Q E h => ?_) (fun cdv A outer s H vs Q E hr h => ?_)
  · obtain ⟨l, qs, rfl, _⟩ := h
    rfl
  · obtain ⟨l, qs, rfl, ⟨as, e1, t1⟩, hne, hz, sr, q⟩ := h
    refine ⟨_, (pss_cons (ps_par (i := 1) (j := 2) (by rfl) scSort.nd rfl rfl (by decide) rfl rfl (pa_cons (pe_callTy call_list_of (by rfl) T.list (by decide +kernel) (pa_cons (pv 0) pa_nil)) (pa_cons (pe_lst pa_nil) pa_nil)) (by rfl))
  (pss_cons (ps_for PassesOwn.never rfl (pi_range1 (by rfl) T.range (pa_cons (pe_callB call_len_seq (by rfl) T.len (by decide +kernel) (pa_cons (pv 0) pa_nil)) pa_nil)) (pg_name (i := 3) scSort.nd rfl (Or.inl rfl))
    (pss_cons (ps_if (pt_cmpR (op_eqT hr.units hm1) (pv 1) (pe_lst pa_nil) (nomark _))
      (pss_one ps_break)
      pss_nil)
    (pss_cons (ps_set (i := 4) scSort.nd rfl (Or.inr rfl) (pe_call G__law_lower_one.ok (hr.mono (by decide)) rfl G__law_lower_one.m G__law_lower_one.kp G__law_lower_one.b .nil pass0 (pa_cons (pv 1) pa_nil)))
    (pss_cons (ps_setLc (i := 1) (own := [("_law_other", 5)]) (g := (gName 5)) (tt := _) rfl scSort.nd rfl rfl (sw_true rfl rfl rfl (by decide +kernel)) (pi_seq (pv 1)) (blkOk_by (N := ["_law_some", "_law_left", "_law_found", "_law_lap", "_law_one", "_law_other"]) (sc := defScope sSort) (by decide +kernel)) (fun _ _ _ _ _ => pg_name (i := 5) scSort.nd rfl (Or.inl rfl)) (fun _ _ _ _ _ => pts_one (pt_cmpR (show OpR _ _ (rNeT K) from op_neT hr.units hm1) (pv 5) (pv 4) (nomark _))) (fun _ _ _ _ _ => (pv 5)))
    (pss_one (ps_expr (pe_bm PySem.F.plainAttrs_list PySem.F.slot_list_append PySem.F.type_list_append mt_append (pv 2) (pa_cons (pv 4) pa_nil))))))))
  (pss_one (ps_ret (pv 2))))), ?_⟩
    have n1 := t1.lenQ
    have h0 : 0 < qs.length := List.length_pos_iff.mpr hne
    refine ⟨_, rfl, l, _, rfl, .inl (SqL.of e1), fun ll0 nl0 => ?_⟩
    have el : upd H ll0 (HO.lst (as.map V.ref)) ll0 = some (HO.lst (as.map V.ref)) := upd_same
    have s1 : Same H (upd H ll0 (HO.lst (as.map V.ref))) := same_upd nl0
    generalize upd H ll0 (HO.lst (as.map V.ref)) = H1 at el s1 ⊢
    refine ⟨(by show 0 ≤ sizeLine; decide), fun lf nf => ?_⟩
    have ef : upd H1 lf (HO.lst []) lf = some (HO.lst []) := upd_same
    have s2 : Same H1 (upd H1 lf (HO.lst [])) := same_upd nf
    have nfH : H lf = none := s1.free nf
    generalize upd H1 lf (HO.lst []) = H2 at ef s2 ⊢
    have lfl : ll0 ≠ lf := ne_of_none el nf
    refine ⟨_, _, rfl, _, rfl, l, _, rfl, .inl (SqL.of ((s1.trans s2) _ _ e1)), _, rfl, by omega, by rw [List.length_map]; omega, for_range (lo := 0) (n := (((as.map V.ref).length : Nat) : Int).toNat)
      (fun i σ H' => ∃ (ll : Addr) (L F : List Rat) (v3 v4 v5 : Option V), σ = [some (.ref l), some (.ref ll), some (.ref lf), v3, v4, v5] ∧ Same H H' ∧ ll ≠ lf ∧ RL H' ll L ∧ RL H' lf F ∧ (∀ q ∈ F, q ∈ qs) ∧ (∀ q ∈ L, q ∈ qs) ∧ AscQ F ∧ (∀ f ∈ F, ∀ y ∈ L, f < y) ∧ F.length + L.length ≤ qs.length ∧ (F ≠ [] ∨ L ≠ []) ∧ (1 ≤ i → F ≠ []))
      ⟨ll0, qs, [], none, none, none, rfl, s1.trans s2, lfl, ⟨as, s2 _ _ el, t1.same (s1.trans s2)⟩, ⟨[], ef, .nil⟩, (fun q h => by cases h), (fun q h => h), (fun i h => by simp at h), (fun f h => by cases h), by simp, .inr hne, by omega⟩ ?_ ?_⟩
    · rintro i σ H3 hi ⟨ll, L, F, v3, v4, v5, rfl, s3, lne, hL, hF, mF, mL, aF, lt, len, some_, many⟩
      obtain ⟨bs, eL, tL⟩ := hL
      obtain ⟨cs, eF, tF⟩ := hF
      have nL := tL.lenQ
      refine ⟨_, rfl, (by show 0 ≤ sizeLine; decide), fun l0 n0 => ?_⟩
      have s4 : Same H3 (upd H3 l0 (HO.lst [])) := same_upd n0
      have e0 : upd H3 l0 (HO.lst []) l0 = some (HO.lst []) := upd_same
      generalize upd H3 l0 (HO.lst []) = H4 at s4 e0 ⊢
      refine ⟨.list ((L.map pq).map pairD), .list (([] : List (Int × Int)).map pairD), .lst (SqL.of (s4 _ _ eL)) (tL.same s4).dts, .lst (SqL.of e0) .nil, (plain_row _).2, (plain_row _).2, (depth_row _).2, _, rfl, ?_⟩
      rw [eqv_rowL]
      have s34 := s3.trans s4
      by_cases hE : L = []
      · subst hE
        rw [show decide (List.map pq ([] : List Rat) = []) = true from rfl]
        refine iteT ?_
        refine ⟨_, rfl, q lf F H4 s34 ⟨cs, s4 _ _ eF, tF.same s4⟩ (some_.resolve_right fun z => z rfl) (by simp at len; exact len) mF aF⟩
      · rw [decide_eq_false (fun z => hE (List.map_eq_nil_iff.mp z))]
        refine iteF ?_
        have L0 : 0 < L.length := List.length_pos_iff.mpr hE
        refine ⟨_, rfl, ll, L, rfl, ⟨bs, s4 _ _ eL, tL.same s4⟩, hE, by omega, (fun i => ?_), fun r H5 s5 er => ?_⟩
        · by_cases hi2 : i < L.length
          · exact sr_mem sr (mL _ (cf_mem hi2))
          · rw [cf_ge (by omega)]
            exact sr_zero
        have s45 := s4.trans s5
        have tL5 := tL.same s45
        have hm := minOf_mem hE
        have hle := fun y (h : y ∈ L) => minOf_le h
        generalize minOf L = m at *
        have eL5 := s45 _ _ eL
        refine ⟨_, rfl, ll, rfl, lc_seq (xs := bs.map V.ref) (.inl (SqL.of eL5)) (fun D i H6 => Same H5 H6 ∧ ∃ ds, H6 D = some (.lst (ds.map V.ref)) ∧ Tups H6 ds (((L.take i).filter (fun q => decide (q ≠ m))).map pq)) ?_ ?_ ?_ ?_⟩
        · intro D nD
          exact ⟨same_upd nD, [], upd_same, .nil⟩
        · intro D i H6 nD ⟨s6, _⟩
          exact ⟨same_sqL s6, same_sqT s6⟩
        · intro D j y H6 nD hy ⟨s6, ds, e6, t6⟩
          have jl : j < L.length := by
            have := (List.getElem?_eq_some_iff.mp hy).1
            rw [List.length_map] at this
            omega
          obtain ⟨ry, gy, ey⟩ := tL5.getQ jl
          rw [List.getElem?_map, gy] at hy
          cases hy
          have ey := s6 _ _ ey
          have er6 := s6 _ _ er
          refine ⟨rfl, ?_⟩
          refine ⟨_, rfl, _, rfl, pairD (pq (cf L j)), pairD (pq m), dt_pair ey, dt_pair er6, plain_pair _, plain_pair _, depth_pair _, _, rfl, ?_⟩
          rw [eqv_pair]
          have hm1' := len_filter_take L m j
          by_cases hc : cf L j = m
          · rw [decide_eq_true (by rw [hc])]
            refine iteF ?_
            refine ⟨s6, ds, e6, ?_⟩
            rw [take_cf jl, List.filter_append, show List.filter (fun q => decide (q ≠ m)) [cf L j] = [] from by rw [hc]; simp, List.append_nil]
            exact t6
          · rw [decide_eq_false (fun z => hc (pq_inj z))]
            refine iteT ?_
            refine ⟨_, rfl, _, e6, ?_, (fun b o e => ?_), ds ++ [ry], ?_, ?_⟩
            · have := t6.len
              rw [List.length_map] at this
              rw [List.length_map, sizeLine_eq]
              omega
            · rw [upd_ne (ne_of_none e nD)]
              exact s6 _ _ e
            · rw [upd_same, List.map_append]
              rfl
            · rw [take_cf jl, List.filter_append, show List.filter (fun q => decide (q ≠ m)) [cf L j] = [cf L j] from by simp [hc], List.map_append]
              have up : ∀ (a : Addr) (p : Int × Int), H6 a = some (.tup [.int p.1, .int p.2]) → upd H6 D (.lst (ds.map V.ref ++ [V.ref ry])) a = some (.tup [.int p.1, .int p.2]) := fun a p z => by
                rw [upd_ne (ne_of z e6 (by intro z; cases z))]
                exact z
              exact (t6.imp up).snoc (up _ (pq (cf L j)) ey)
        · intro D H6 nD ⟨s6, ds, e6, t6⟩
          rw [List.length_map, show bs.length = L.length by omega, List.take_length] at t6
          have eF6 := s6 _ _ (s45 _ _ eF)
          have Dlf : D ≠ lf := (ne_of_none (s45 _ _ eF) nD).symm
          have er6 := s6 _ _ er
          have s06 := s34.trans (s5.trans s6)
          refine ⟨_, rfl, .inl ⟨rfl, _, SqL.of eF6⟩, _, rfl, lf, _, .ref r, rfl, rfl, eF6, ?_, ?_⟩
          · have := tF.lenQ
            rw [List.length_map, sizeLine_eq]
            omega
          have up : ∀ (a : Addr) (p : Int × Int), H6 a = some (.tup [.int p.1, .int p.2]) → upd H6 lf (.lst (cs.map V.ref ++ [V.ref r])) a = some (.tup [.int p.1, .int p.2]) := fun a p z => by
            rw [upd_ne (ne_of z eF6 (by intro z; cases z))]
            exact z
          refine ⟨D, L.filter (fun q => decide (q ≠ m)), F ++ [m], _, _, _, rfl, fun b o e => ?_, Dlf, ⟨ds, by rw [upd_ne Dlf]; exact e6, t6.imp up⟩, ⟨cs ++ [r], by rw [upd_same, List.map_append]; rfl, ?_⟩, fun x hx => ?_, fun x hx => mL x (List.mem_filter.mp hx).1, aF.snoc fun x hx => lt x hx m hm, fun x hx y hy => ?_, ?_, .inl (by simp), fun _ => by simp⟩
          · rw [upd_ne (ne_of_none e nfH)]
            exact s06 _ _ e
          · rw [List.map_append]
            exact (((tF.same s45).same s6).imp up).snoc (up _ (pq m) er6)
          · rcases List.mem_append.mp hx with z | z
            · exact mF x z
            · rw [List.mem_singleton.mp z]
              exact mL m hm
          · have hy1 := (List.mem_filter.mp hy).1
            have hy2 : y ≠ m := by
              have := (List.mem_filter.mp hy).2
              exact of_decide_eq_true this
            rcases List.mem_append.mp hx with z | z
            · exact lt x z y hy1
            · rw [List.mem_singleton.mp z]
              have := hle y hy1
              grind
          · rw [List.length_append, List.length_singleton]
            have := filter_lt hm
            omega
    · rintro σ H3 ⟨ll, L, F, v3, v4, v5, rfl, s3, lne, hL, hF, mF, mL, aF, lt, len, some_, many⟩
      exact ⟨_, rfl, q lf F H3 s3 hF (many (by rw [List.length_map]; omega)) (by omega) mF aF⟩
end
end Vf
set_option maxRecDepth 100000
set_option maxHeartbeats 8000000
namespace Vf
open PySem PySem.Spec PyProof.Rows L2
theorem at_neg {xs : List V} {x : V} {i : Int} {n : Nat} (hi : i < 0) (h : xs[n]? = some x) (hl : (xs.length : Int) + i = n) : atI xs i = some x := by
  unfold atI ixN
  rw [if_neg (by omega), if_pos (by omega)]
  show xs[(i + xs.length).toNat]? = _
  rw [show (i + xs.length).toNat = n by omega]
  exact h
/-- what is left of the product when the parts from m on are taken away -/
def bI (B : List Rat) (i k : Nat) : Rat := if k ≤ i then cf B (i - k) else 0
def rsd (Q B R : List Rat) : Nat → Nat → Rat
  | 0, i => cf R i
  | m + 1, i => rsd Q B R m i + cf Q m * bI B i m
theorem rsd_lead {Q B R : List Rat} {lb : Nat} (hb : B.length = lb + 1) (hR : ∀ i, lb ≤ i → cf R i = 0) : ∀ m i, m + lb ≤ i → rsd Q B R m i = 0
  | 0, i, h => hR i (by omega)
  | m + 1, i, h => by
    show rsd Q B R m i + cf Q m * bI B i m = 0
    rw [rsd_lead hb hR m i (by omega)]
    unfold bI
    rw [if_pos (by omega), cf_ge (l := B) (by omega)]
    grind
theorem rsd_pc {Q B R : List Rat} : ∀ m i, (∀ k, m ≤ k → cf Q k = 0) → rsd Q B R m i = cf R i + pc Q B i := by
  have key : ∀ m i, rsd Q B R m i = cf R i + sm (fun k => cf Q k * bI B i k) m := fun m i => by
    induction m with
    | zero => show cf R i = cf R i + 0; rw [Rat.add_zero]
    | succ m ih =>
      show rsd Q B R m i + _ = _ + (sm _ m + _)
      rw [ih, Rat.add_assoc]
  intro m i hz
  rw [key]
  congr 1
  unfold pc
  have h1 : ∀ a b : Nat, (∀ k, a ≤ k → cf Q k * bI B i k = 0) → a ≤ b → sm (fun k => cf Q k * bI B i k) b = sm (fun k => cf Q k * bI B i k) a := fun a b hz h => by
    induction h with
    | refl => rfl
    | step h ih =>
      show sm _ _ + _ = _
      have := hz _ h
      dsimp only at this ⊢
      rw [ih, this, Rat.add_zero]
  have g : ∀ n, n ≤ i + 1 → sm (fun k => cf Q k * cf B (i - k)) n = sm (fun k => cf Q k * bI B i k) n := fun n hn => by
    induction n with
    | zero => rfl
    | succ n ih =>
      show sm _ n + _ = sm _ n + _
      rw [ih (by omega)]
      dsimp only
      rw [show bI B i n = cf B (i - n) from if_pos (by omega)]
  rw [g (i + 1) (Nat.le_refl _)]
  have z2 : ∀ k, i + 1 ≤ k → cf Q k * bI B i k = 0 := fun k hk => by
    unfold bI
    rw [if_neg (by omega), Rat.mul_zero]
  have z1 : ∀ k, m ≤ k → cf Q k * bI B i k = 0 := fun k hk => by rw [hz k hk, Rat.zero_mul]
  rcases Nat.le_total m (i + 1) with h | h
  · exact (h1 m (i + 1) z1 h).symm
  · exact h1 (i + 1) m z2 h
structure Dvd (A B Q R : List Rat) : Prop where
  lb : 0 < B.length
  lab : B.length ≤ A.length
  la : A.length ≤ 40
  b0 : cf B (B.length - 1) ≠ 0
  lq : Q.length = A.length - B.length + 1
  r0 : ∀ i, B.length - 1 ≤ i → cf R i = 0
  e : ∀ i, cf A i = cf R i + pc Q B i
structure DvS (A B Q R : List Rat) : Prop where
  sb : SrL B
  sq : SrL Q
  sp : ∀ i j, Sr (cf Q i * cf B j)
  sr : ∀ m i, Sr (rsd Q B R m i)
def spDiv : Sp := fun vs H W _ => ∃ (l1 l2 : Addr) (A B Q R : List Rat), vs = [.ref l1, .ref l2] ∧ RL H l1 A ∧ RL H l2 B ∧ Dvd A B Q R ∧ DvS A B Q R ∧
  ∀ (t q r : Addr) (H' : Hp), Same H H' → H' t = some (.tup [.ref q, .ref r]) → RL H' q (stripQ Q) → RL H' r (stripQ R) → W (.ref t) H'
section
variable {P : Program} {w : World} {K : PySem.W.Frag} {mg : Str → Option Value} {base : Heap} {CP CR CN CI : Addr}
abbrev sDiv : Stmt := topS 70
theorem scDiv : FnScope ["_law_one", "_law_two", "_law_rest", "_law_quotient", "_law_k", "_law_by", "_law_i"] ["_law_one", "_law_two"] (defScope sDiv) := ⟨rfl, rfl, rfl, by decide +kernel, rfl, by decide +kernel, by decide +kernel⟩
theorem ok_div {f : Addr} {fd : FuncData} (F : Fun K "_law_p_divided" "_law_p_divided" sDiv f fd) (T : Bk mg) (hmax : mg "max" = none) (G__law_poly : Df P w K mg base "_law_poly" 1 ["_law_numbers"] (spLPoly K)) (G__law_share : Df P w K mg base "_law_share" 3 ["_law_one", "_law_two"] spLSh)
    (G__law_minus : Df P w K mg base "_law_minus" 3 ["_law_one", "_law_two"] (spL2 rSub)) (G__law_times : Df P w K mg base "_law_times" 3 ["_law_one", "_law_two"] (spL2 rMul)) : FnOk P w K mg base CX0 4 f fd ["_law_one", "_law_two"] spDiv := by
  refine F.ok scDiv (fun vs H W E h => ?_) (fun cdv A0 outer s0 H vs W E hr h => ?_)
  · obtain ⟨l1, l2, A, B, Q, R, rfl, _⟩ := h
    rfl
  · obtain ⟨l1, l2, A, B, Q, R, rfl, ⟨as, e1, t1⟩, ⟨bs, e2, t2⟩, D, S, q⟩ := h
    refine ⟨_, (pss_cons (ps_par (i := 2) (j := 3) (by rfl) scDiv.nd rfl rfl (by decide) rfl rfl (pa_cons (pe_callTy call_list_of (by rfl) T.list (by decide +kernel) (pa_cons (pv 0) pa_nil)) (pa_cons (pe_op op_rep (pe_lst (pa_cons (pe_tup (pa_cons pe_int (pa_cons pe_int pa_nil))) pa_nil)) (pe_callB (cr_max rfl) (by rfl) hmax (by decide +kernel) (pa_cons (pe_lst (pa_cons pe_int (pa_cons (pe_op op_add (pe_op op_sub (pe_callB call_len_seq (by rfl) T.len (by decide +kernel) (pa_cons (pv 0) pa_nil)) (pe_callB call_len_seq (by rfl) T.len (by decide +kernel) (pa_cons (pv 1) pa_nil))) pe_int) pa_nil))) pa_nil))) pa_nil)) (by rfl))
  (pss_cons (ps_for PassesOwn.never rfl (pi_range3 (by rfl) T.range (pa_cons (pe_op op_sub (pe_callB call_len_seq (by rfl) T.len (by decide +kernel) (pa_cons (pv 0) pa_nil)) (pe_callB call_len_seq (by rfl) T.len (by decide +kernel) (pa_cons (pv 1) pa_nil))) (pa_cons (pe_un un_neg pe_int) (pa_cons (pe_un un_neg pe_int) pa_nil)))) (pg_name (i := 4) scDiv.nd rfl (Or.inl rfl))
    (pss_cons (ps_set (i := 5) scDiv.nd rfl (Or.inl rfl) (pe_call G__law_share.ok (hr.mono (by decide)) rfl G__law_share.m G__law_share.kp G__law_share.b .nil pass0 (pa_cons (pe_ix ix_list (pv 2) (pe_op op_sub (pe_op op_add (pv 4) (pe_callB call_len_seq (by rfl) T.len (by decide +kernel) (pa_cons (pv 1) pa_nil))) pe_int) (fun _ _ => rfl)) (pa_cons (pe_ix ix_list (pv 1) (pe_un un_neg pe_int) (fun _ _ => rfl)) pa_nil))))
    (pss_cons (ps_asg (pv 5) (pg_sub (pv 3) (pv 4) set_list))
    (pss_one (ps_for PassesOwn.never rfl (pi_range1 (by rfl) T.range (pa_cons (pe_callB call_len_seq (by rfl) T.len (by decide +kernel) (pa_cons (pv 1) pa_nil)) pa_nil)) (pg_name (i := 6) scDiv.nd rfl (Or.inl rfl))
      (pss_one (ps_asg (pe_call G__law_minus.ok (hr.mono (by decide)) rfl G__law_minus.m G__law_minus.kp G__law_minus.b .nil pass0 (pa_cons (pe_ix ix_list (pv 2) (pe_op op_add (pv 4) (pv 6)) (fun _ _ => rfl)) (pa_cons (pe_call G__law_times.ok (hr.mono (by decide)) rfl G__law_times.m G__law_times.kp G__law_times.b .nil pass0 (pa_cons (pv 5) (pa_cons (pe_ix ix_list (pv 1) (pv 6) (fun _ _ => rfl)) pa_nil))) pa_nil))) (pg_sub (pv 2) (pe_op op_add (pv 4) (pv 6)) set_list))))))))
  (pss_one (ps_ret (pe_tup (pa_cons (pe_call G__law_poly.ok (hr.mono (by decide)) rfl G__law_poly.m G__law_poly.kp G__law_poly.b .nil pass0 (pa_cons (pv 3) pa_nil)) (pa_cons (pe_call G__law_poly.ok (hr.mono (by decide)) rfl G__law_poly.m G__law_poly.kp G__law_poly.b .nil pass0 (pa_cons (pv 2) pa_nil)) pa_nil))))))), ?_⟩
    have n1 := t1.lenQ
    have n2 := t2.lenQ
    have d1 := D.lb
    have d2 := D.lab
    have d3 := D.la
    have d4 := D.lq
    refine par_two ?_
    obtain ⟨lb, hlb⟩ : ∃ lb, B.length = lb + 1 := ⟨B.length - 1, by omega⟩
    obtain ⟨k0, hk0⟩ : ∃ k0, A.length = k0 + B.length := ⟨A.length - B.length, by omega⟩
    have hL : Q.length = k0 + 1 := by omega
    have hR : ∀ i, lb ≤ i → cf R i = 0 := fun i hi => D.r0 i (by omega)
    have hb0 : cf B lb ≠ 0 := by have := D.b0; rw [hlb] at this; exact this
    have hAr : ∀ i, cf A i = rsd Q B R (k0 + 1) i := fun i => by rw [D.e i, rsd_pc _ _ fun k hk => cf_ge (by omega)]
    -- rest
    refine ⟨_, rfl, l1, _, rfl, .inl (SqL.of e1), fun lr nlr => ?_⟩
    have elr : upd H lr (HO.lst (as.map V.ref)) lr = some (HO.lst (as.map V.ref)) := upd_same
    have s1 : Same H (upd H lr (HO.lst (as.map V.ref))) := same_upd nlr
    generalize upd H lr (HO.lst (as.map V.ref)) = H1 at elr s1 ⊢
    -- quotient
    refine ⟨(by show 2 ≤ sizeLine; decide), fun t0 nt0 => ?_⟩
    have et0 : upd H1 t0 (HO.tup [V.int 0, V.int 1]) t0 = some (HO.tup [V.int 0, V.int 1]) := upd_same
    have s2 : Same H1 (upd H1 t0 (HO.tup [V.int 0, V.int 1])) := same_upd nt0
    generalize upd H1 t0 (HO.tup [V.int 0, V.int 1]) = H2 at et0 s2 ⊢
    refine ⟨(by show 1 ≤ sizeLine; decide), fun k1 nk1 => ?_⟩
    have ek1 : upd H2 k1 (HO.lst [V.ref t0]) k1 = some (HO.lst [V.ref t0]) := upd_same
    have s3 : Same H2 (upd H2 k1 (HO.lst [V.ref t0])) := same_upd nk1
    generalize upd H2 k1 (HO.lst [V.ref t0]) = H3 at ek1 s3 ⊢
    have s13 := s1.trans (s2.trans s3)
    refine ⟨_, rfl, l1, _, rfl, .inl (SqL.of (s13 _ _ e1)), _, rfl, l2, _, rfl, .inl (SqL.of (s13 _ _ e2)), _, _, rfl, rfl, _, _, rfl, rfl, (by show 2 ≤ sizeLine; decide), fun lm nlm => ?_⟩
    rw [List.length_map, List.length_map, n1, n2]
    have elm : upd H3 lm (HO.lst [V.int 0, V.int ((A.length : Nat) - (B.length : Nat) + 1)]) lm = some (HO.lst [V.int 0, V.int ((A.length : Nat) - (B.length : Nat) + 1)]) := upd_same
    have s4 : Same H3 (upd H3 lm (HO.lst [V.int 0, V.int ((A.length : Nat) - (B.length : Nat) + 1)])) := same_upd nlm
    generalize upd H3 lm (HO.lst [V.int 0, V.int ((A.length : Nat) - (B.length : Nat) + 1)]) = H4 at elm s4 ⊢
    refine ⟨lm, [0, (A.length : Nat) - (B.length : Nat) + 1], rfl, SqL.of elm, (by show 0 < 2; decide), fun m hm1 hm2 => ?_⟩
    have hm : m = ((k0 + 1 : Nat) : Int) := by
      have h1 := hm2 0 (by simp)
      have h2 := hm2 ((A.length : Nat) - (B.length : Nat) + 1) (by simp)
      simp only [List.mem_cons, List.not_mem_nil, or_false] at hm1
      omega
    subst hm
    refine ⟨k1, _, _, rfl, rfl, s4 _ _ ek1, by omega, by omega, (by rw [sizeLine_eq]; show 1 * _ ≤ _; omega), fun lq nlq => ?_⟩
    have elq : upd H4 lq (HO.lst (List.replicate (((k0 + 1 : Nat) : Int)).toNat [V.ref t0]).flatten) lq = some (HO.lst ((List.replicate (k0 + 1) t0).map V.ref)) := by
      rw [upd_same, flat_repQ, Int.toNat_natCast]
    have s5 : Same H4 (upd H4 lq (HO.lst (List.replicate (((k0 + 1 : Nat) : Int)).toNat [V.ref t0]).flatten)) := same_upd nlq
    generalize upd H4 lq (HO.lst (List.replicate (((k0 + 1 : Nat) : Int)).toNat [V.ref t0]).flatten) = H5 at elq s5 ⊢
    have s15 : Same H1 H5 := s2.trans (s3.trans (s4.trans s5))
    have s05 := s1.trans s15
    have nlqH : H lq = none := (s1.trans (s2.trans (s3.trans s4))).free nlq
    have elr5 := s15 _ _ elr
    have lrq : lr ≠ lq := ne_of_none ((s2.trans (s3.trans s4)) _ _ elr) nlq
    have tz : TR H5 t0 0 := s5 _ _ (s4 _ _ (s3 _ _ et0))
    have tr5 := t1.same s05
    have eA : A = tab A.length (rsd Q B R (k0 + 1)) := by
      refine List.ext_getElem (by rw [tab_len]) fun j h1 h2 => ?_
      rw [← cf_lt h1, ← cf_lt h2, cf_tab, if_pos h1, hAr]
    rw [eA] at tr5
    have tq5 := tups_rep0 tz (k0 + 1)
    have eq0 : List.replicate (k0 + 1) (0 : Rat) = tab (k0 + 1) fun j => if j < k0 + 1 then 0 else cf Q j := by
      refine List.ext_getElem (by rw [List.length_replicate, tab_len]) fun j h1 h2 => ?_
      rw [List.length_replicate] at h1
      rw [← cf_lt (by rw [List.length_replicate]; exact h1), ← cf_lt h2, cf_rep0, cf_tab, if_pos h1, if_pos h1]
    rw [eq0] at tq5
    refine ⟨_, rfl, l1, _, rfl, .inl (SqL.of (s05 _ _ e1)), _, rfl, l2, _, rfl, .inl (SqL.of (s05 _ _ e2)), _, _, rfl, rfl, ?_⟩
    rw [List.length_map, List.length_map, n1, n2]
    have eN : (((A.length : Nat) : Int) - (B.length : Nat) - -1).toNat = k0 + 1 := by omega
    refine ⟨_, rfl, _, rfl, _, _, _, _, rfl, RgC.neg (by omega) (by omega) (by omega) (by omega), ?_⟩
    have eN : (((A.length : Nat) : Int) - (B.length : Nat) - -1).toNat = k0 + 1 := by omega
    refine for_rangeC (lo := ((A.length : Nat) : Int) - (B.length : Nat)) (c := -1) (n := (((A.length : Nat) : Int) - (B.length : Nat) - -1).toNat) (fun c σ H' => ∃ v4 v5 v6 zs ys, σ = [some (.ref l1), some (.ref l2), some (.ref lr), some (.ref lq), v4, v5, v6] ∧ Same H H' ∧ H' lr = some (.lst (zs.map V.ref)) ∧ Tups H' zs ((tab A.length (rsd Q B R (k0 + 1 - c))).map pq) ∧ H' lq = some (.lst (ys.map V.ref)) ∧ Tups H' ys ((tab (k0 + 1) fun j => if j < k0 + 1 - c then 0 else cf Q j).map pq))
      ⟨none, none, none, as, _, rfl, s05, elr5, tr5, elq, tq5⟩ ?_ ?_
    · rw [eN]
      rintro c σ H6 hc ⟨v4, v5, v6, zs, ys, rfl, s6, e6r, t6r, e6q, t6q⟩
      obtain ⟨k, hk⟩ : ∃ k, k0 = k + c := ⟨k0 - c, by omega⟩
      have ek : ((A.length : Nat) : Int) - (B.length : Nat) + (c : Nat) * -1 = ((k : Nat) : Int) := by omega
      have em : k0 + 1 - c = k + 1 := by omega
      rw [ek]
      rw [em] at t6r t6q
      have lz := t6r.lenQ
      rw [tab_len] at lz
      have ly := t6q.lenQ
      rw [tab_len] at ly
      have hkA : k + lb < A.length := by omega
      obtain ⟨rt, hrt1, hrt2⟩ := t6r.getQ (i := k + lb) (by rw [tab_len]; exact hkA)
      rw [cf_tab, if_pos hkA] at hrt2
      have etop : rsd Q B R (k + 1) (k + lb) = cf Q k * cf B lb := by
        show rsd Q B R k (k + lb) + cf Q k * bI B (k + lb) k = _
        rw [rsd_lead hlb hR k (k + lb) (Nat.le_refl _), Rat.zero_add]
        unfold bI
        rw [if_pos (by omega), Nat.add_sub_cancel_left]
      rw [etop] at hrt2
      obtain ⟨rb, hb1, hb2⟩ := t2.getQ (i := lb) (by omega)
      have gt : (zs.map V.ref)[k + lb]? = some (V.ref rt) := by rw [List.getElem?_map, hrt1]; rfl
      have gb : (bs.map V.ref)[lb]? = some (V.ref rb) := by rw [List.getElem?_map, hb1]; rfl
      have lbs : (bs.map V.ref).length = lb + 1 := by rw [List.length_map, n2, hlb]
      have alast : atI (bs.map V.ref) (-1) = some (V.ref rb) := by
        exact at_neg (by decide) gb (by omega)
      have iadd : ((k : Nat) : Int) + (B.length : Nat) - 1 = ((k + lb : Nat) : Int) := by omega
      -- by
      refine ⟨_, rfl, _, rfl, _, rfl, l2, _, rfl, .inl (SqL.of (s6 _ _ e2)), _, _, rfl, rfl, _, _, rfl, rfl, lr, _, _, .ref rt, rfl, rfl, SqL.of e6r, at_of (by rw [List.length_map, n2]; exact iadd) gt, ?_⟩
      refine ⟨_, rfl, _, rfl, l2, _, _, .ref rb, rfl, rfl, SqL.of (s6 _ _ e2), alast, ?_⟩
      refine ⟨rt, rb, _, _, rfl, hrt2, hb2.same s6, S.sp _ _, S.sb _, hb0, fun ry H7 s7 nry ey => ?_⟩
      have eby : cf Q k * cf B lb / cf B lb = cf Q k := Rat.mul_div_cancel hb0
      rw [eby] at ey
      -- quotient[k] = by
      have e7q := s7 _ _ e6q
      have e7r := s7 _ _ e6r
      have hixq : ixN (ys.map V.ref).length ((k : Nat) : Int) = some k := by
        unfold ixN
        rw [if_pos (by omega), List.length_map, ly, if_pos (by omega)]
        rfl
      refine ⟨_, rfl, _, rfl, _, rfl, lq, _, _, k, rfl, rfl, e7q, hixq, ?_⟩
      have up8 : ∀ (c : Addr) (p : Int × Int), H7 c = some (.tup [.int p.1, .int p.2]) → upd H7 lq (.lst ((ys.map V.ref).set k (V.ref ry))) c = some (.tup [.int p.1, .int p.2]) := fun c p z => by
        rw [upd_ne (ne_of z e7q (by intro z; cases z))]
        exact z
      have e8q : upd H7 lq (.lst ((ys.map V.ref).set k (V.ref ry))) lq = some (.lst ((ys.set k ry).map V.ref)) := by rw [upd_same, List.map_set]
      have e8r : upd H7 lq (.lst ((ys.map V.ref).set k (V.ref ry))) lr = some (.lst (zs.map V.ref)) := by rw [upd_ne lrq]; exact e7r
      have s8 : Same H (upd H7 lq (.lst ((ys.map V.ref).set k (V.ref ry)))) := fun b' o' e' => by
        rw [upd_ne (ne_of_none e' nlqH)]
        exact s7 _ _ (s6 _ _ e')
      have t8q := ((t6q.same s7).setQ k ey).imp up8
      have t8r := (t6r.same s7).imp up8
      have ey8 : TR _ ry (cf Q k) := up8 ry (pq (cf Q k)) ey
      have eqq : (tab (k0 + 1) fun j => if j < k + 1 then 0 else cf Q j).set k (cf Q k) = tab (k0 + 1) fun j => if j < k then 0 else cf Q j := by
        refine List.ext_getElem (by rw [List.length_set, tab_len, tab_len]) fun j h1 h2 => ?_
        rw [tab_len] at h2
        rw [← cf_lt h1, ← cf_lt (by rw [tab_len]; exact h2), cf_set (by rw [tab_len]; omega), cf_tab, cf_tab, if_pos h2, if_pos h2]
        by_cases h3 : j = k
        · subst h3
          rw [if_pos rfl, if_neg (by omega)]
        · rw [if_neg h3]
          by_cases h4 : j < k
          · rw [if_pos h4, if_pos (by omega)]
          · rw [if_neg h4, if_neg (by omega)]
      rw [eqq] at t8q
      generalize upd H7 lq (.lst ((ys.map V.ref).set k (V.ref ry))) = H8 at e8q e8r s8 t8q t8r ey8 ⊢
      refine ⟨_, rfl, l2, _, rfl, .inl (SqL.of (s8 _ _ e2)), ?_⟩
      rw [List.length_map, n2]
      refine ⟨_, rfl, by omega, by omega, for_range (lo := 0) (n := ((B.length : Nat) : Int).toNat) (fun i σ H' => ∃ v6 zs, σ = [some (.ref l1), some (.ref l2), some (.ref lr), some (.ref lq), some (.int ((k : Nat) : Int)), some (.ref ry), v6] ∧ Same H H' ∧ TR H' ry (cf Q k) ∧ H' lr = some (.lst (zs.map V.ref)) ∧ Tups H' zs ((tab A.length fun j => if j < k + i then rsd Q B R k j else rsd Q B R (k + 1) j).map pq) ∧ H' lq = some (.lst ((ys.set k ry).map V.ref)) ∧ Tups H' (ys.set k ry) ((tab (k0 + 1) fun j => if j < k then 0 else cf Q j).map pq))
        ⟨_, zs, rfl, s8, ey8, e8r, ?_, e8q, t8q⟩ ?_ ?_⟩
      · have e9 : (tab A.length (rsd Q B R (k + 1))) = tab A.length fun j => if j < k + 0 then rsd Q B R k j else rsd Q B R (k + 1) j := by
          unfold tab
          refine List.map_congr_left fun j _ => ?_
          split
          · show rsd Q B R k j + cf Q k * bI B j k = _
            unfold bI
            rw [if_neg (by omega), Rat.mul_zero, Rat.add_zero]
          · rfl
        rw [e9] at t8r
        exact t8r
      · rintro i σ H9 hi ⟨v6, zs, rfl, s9, ey9, e9r, t9r, e9q, t9q⟩
        have hi : i < B.length := by omega
        have hki : k + i < A.length := by omega
        have lz := t9r.lenQ
        rw [tab_len] at lz
        obtain ⟨ra, ha1, ha2⟩ := t9r.getQ (i := k + i) (by rw [tab_len]; exact hki)
        rw [cf_tab, if_pos hki, if_neg (by omega)] at ha2
        obtain ⟨rc, hc1, hc2⟩ := t2.getQ hi
        have ix : ((k : Nat) : Int) + (0 + (i : Int)) = ((k + i : Nat) : Int) := by omega
        have ga : (zs.map V.ref)[k + i]? = some (V.ref ra) := by rw [List.getElem?_map, ha1]; rfl
        have gc : (bs.map V.ref)[i]? = some (V.ref rc) := by rw [List.getElem?_map, hc1]; rfl
        refine ⟨_, rfl, _, rfl, _, rfl, _, _, rfl, rfl, lr, _, _, .ref ra, rfl, rfl, SqL.of e9r, at_of ix ga, ?_⟩
        refine ⟨_, rfl, _, rfl, _, rfl, l2, _, _, .ref rc, rfl, rfl, SqL.of (s9 _ _ e2), at_of (by omega) gc, ?_⟩
        refine ⟨ry, rc, _, _, rfl, ey9, hc2.same s9, S.sq _, S.sb _, fun r10 H10 s10 n10 e10 => ?_⟩
        refine ⟨ra, r10, _, _, rfl, ha2.same s10, e10, S.sr _ _, S.sp _ _, fun r11 H11 s11 n11 e11 => ?_⟩
        have s1011 := s10.trans s11
        have e11r := s1011 _ _ e9r
        have e11q := s1011 _ _ e9q
        have hix : ixN (zs.map V.ref).length (((k : Nat) : Int) + (0 + (i : Int))) = some (k + i) := by
          unfold ixN
          rw [ix, if_pos (by omega), List.length_map, lz, if_pos (by omega)]
          rfl
        have nlrH : H lr = none := nlr
        refine ⟨_, rfl, _, rfl, _, rfl, _, _, rfl, rfl, lr, _, _, k + i, rfl, rfl, e11r, hix, ?_⟩
        have up : ∀ (c : Addr) (p : Int × Int), H11 c = some (.tup [.int p.1, .int p.2]) → upd H11 lr (.lst ((zs.map V.ref).set (k + i) (V.ref r11))) c = some (.tup [.int p.1, .int p.2]) := fun c p z => by
          rw [upd_ne (ne_of z e11r (by intro z; cases z))]
          exact z
        have estep : rsd Q B R (k + 1) (k + i) - cf Q k * cf B i = rsd Q B R k (k + i) := by
          show rsd Q B R k (k + i) + cf Q k * bI B (k + i) k - cf Q k * cf B i = _
          unfold bI
          rw [if_pos (by omega), Nat.add_sub_cancel_left]
          grind
        have e11 : TR H11 r11 (rsd Q B R (k + 1) (k + i) - cf Q k * cf B i) := e11
        rw [estep] at e11
        refine ⟨_, zs.set (k + i) r11, rfl, (fun b' o' e' => ?_), up ry (pq (cf Q k)) (s1011 _ _ ey9), ?_, ?_, ?_, (t9q.same s1011).imp up⟩
        · rw [upd_ne (ne_of_none e' nlrH)]
          exact s1011 _ _ (s9 _ _ e')
        · rw [upd_same, List.map_set]
        · have t11 := ((t9r.same s1011).setQ (k + i) e11).imp up
          have eq : (tab A.length fun j => if j < k + i then rsd Q B R k j else rsd Q B R (k + 1) j).set (k + i) (rsd Q B R k (k + i)) = tab A.length fun j => if j < k + (i + 1) then rsd Q B R k j else rsd Q B R (k + 1) j := by
            refine List.ext_getElem (by rw [List.length_set, tab_len, tab_len]) fun j h1 h2 => ?_
            rw [tab_len] at h2
            rw [← cf_lt h1, ← cf_lt (by rw [tab_len]; exact h2), cf_set (by rw [tab_len]; exact hki), cf_tab, cf_tab, if_pos h2, if_pos h2]
            by_cases h3 : j = k + i
            · subst h3
              rw [if_pos rfl, if_pos (by omega)]
            · rw [if_neg h3]
              by_cases h4 : j < k + i
              · rw [if_pos h4, if_pos (by omega)]
              · rw [if_neg h4, if_neg (by omega)]
          rw [eq] at t11
          exact t11
        · rw [upd_ne (Ne.symm lrq)]
          exact e11q
      · rintro σ H9 ⟨v6, zs, rfl, s9, ey9, e9r, t9r, e9q, t9q⟩
        have eM : k0 + 1 - (c + 1) = k := by omega
        refine ⟨_, _, _, zs, _, rfl, s9, e9r, ?_, e9q, ?_⟩
        · rw [eM]
          have eq : (tab A.length fun j => if j < k + ((B.length : Nat) : Int).toNat then rsd Q B R k j else rsd Q B R (k + 1) j) = tab A.length (rsd Q B R k) := by
            unfold tab
            refine List.map_congr_left fun j _ => ?_
            split
            · rfl
            · show rsd Q B R k j + cf Q k * bI B j k = _
              unfold bI
              rw [if_pos (by omega), cf_ge (l := B) (by omega), Rat.mul_zero, Rat.add_zero]
          rw [eq] at t9r
          exact t9r
        · rw [eM]
          exact t9q
    · rw [eN]
      rintro σ H6 ⟨v4, v5, v6, zs, ys, rfl, s6, e6r, t6r, e6q, t6q⟩
      rw [Nat.sub_self] at t6r t6q
      have e1q : stripQ (tab (k0 + 1) fun j => if j < 0 then 0 else cf Q j) = stripQ Q := stripQ_ext fun i => by
        rw [cf_tab]
        split
        · rw [if_neg (by omega)]
        · rw [cf_ge (by omega)]
      have e1r : stripQ (tab A.length (rsd Q B R 0)) = stripQ R := stripQ_ext fun i => by
        rw [cf_tab]
        split
        · rfl
        · exact (hR i (by omega)).symm
      refine ⟨_, rfl, ?_⟩
      dsimp only [tNil]
      refine lpoly_q (E := E0) ⟨ys, e6q, t6q⟩ (by rw [tab_len]; omega) fun lq' H7 s7 rq => ?_
      refine ⟨_, rfl, ?_⟩
      dsimp only [tNil]
      refine lpoly_q (E := E0) ⟨zs, s7 _ _ e6r, t6r.same s7⟩ (by rw [tab_len]; omega) fun lr' H8 s8 rr => ?_
      refine ⟨(by show 2 ≤ sizeLine; decide), fun tp np => ?_⟩
      have s9 := same_upd (o := HO.tup [V.ref lq', V.ref lr']) np
      rw [e1q] at rq
      rw [e1r] at rr
      exact q tp lq' lr' _ (s6.trans (s7.trans (s8.trans s9))) upd_same ((rq.same s8).same s9) (rr.same s9)
end
end Vf
set_option maxRecDepth 100000
set_option maxHeartbeats 8000000
namespace Vf
open PySem PySem.Spec PyProof.Rows L2
def spPlain : Sp := fun vs H W _ => ∃ (l : Addr) (A : List Rat) (n : Nat), vs = [.ref l] ∧ RL H l A ∧ A.length = n + 1 ∧ n ≤ 40 ∧ cf A n ≠ 0 ∧ SrL A ∧ Sr (1 / cf A n) ∧ ∀ (l' : Addr) (H' : Hp), Same H H' → RL H' l' (stripQ (pscale A (1 / cf A n))) → W (.ref l') H'
structure Prim (A P : List Rat) (c : Rat) : Prop where
  c0 : 0 < c
  e : P = stripQ (pscale A c)
  d : ∀ i, (cf P i).den = 1
  u : ∀ u : Nat, (∀ i, u ∣ (cf P i).num.natAbs) → u ∣ 1
def spShort : Sp := fun vs H W _ => ∃ (l : Addr) (A : List Rat) (M N : Nat), vs = [.ref l] ∧ RL H l A ∧ stripQ A = A ∧ A.length ≤ 40 ∧ (∀ i, Fr M N (cf A i)) ∧ 0 < M ∧ M < 2 ^ 4300 ∧ N < 2 ^ 4300 ∧
  ∀ (l' : Addr) (H' : Hp) (P : List Rat) (c : Rat), Same H H' → RL H' l' P → (A = [] → P = []) → (A ≠ [] → Prim A P c) → W (.ref l') H'
section
variable {P : Program} {w : World} {K : PySem.W.Frag} {mg : Str → Option Value} {base : Heap} {CP CR CN CI : Addr}
abbrev sPlain : Stmt := topS 71
theorem scPlain : FnScope ["_law_one"] ["_law_one"] (defScope sPlain) := ⟨rfl, rfl, rfl, by decide +kernel, rfl, by decide +kernel, by decide +kernel⟩
theorem ok_plain {f : Addr} {fd : FuncData} (F : Fun K "_law_p_plain" "_law_p_plain" sPlain f fd) (hm1 : M1 base) (G__law_p_scaled : Df P w K mg base "_law_p_scaled" 4 ["_law_one", "_law_by"] spLPS) (G__law_share : Df P w K mg base "_law_share" 3 ["_law_one", "_law_two"] spLSh) : FnOk P w K mg base CX0 5 f fd ["_law_one"] spPlain := by
  refine F.ok scPlain (fun vs H W E h => ?_) (fun cdv A0 outer s0 H vs W E hr h => ?_)
  · obtain ⟨l, A, n, rfl, _⟩ := h
    rfl
  · obtain ⟨l, A, n, rfl, ⟨as, e1, t1⟩, ln, hn, c0, sA, sD, q⟩ := h
    refine ⟨_, (pss_one (ps_ret (pe_ifExp (pt_cmpR (op_neT hr.units hm1) (pv 0) (pe_lst pa_nil) (nomark _)) (pe_call G__law_p_scaled.ok (hr.mono (by decide)) rfl G__law_p_scaled.m G__law_p_scaled.kp G__law_p_scaled.b .nil pass0 (pa_cons (pv 0) (pa_cons (pe_call G__law_share.ok (hr.mono (by decide)) rfl G__law_share.m G__law_share.kp G__law_share.b .nil pass0 (pa_cons (pe_tup (pa_cons pe_int (pa_cons pe_int pa_nil))) (pa_cons (pe_ix ix_list (pv 0) (pe_un un_neg pe_int) (fun _ _ => rfl)) pa_nil))) pa_nil))) (pv 0)))), ?_⟩
    have n1 := t1.lenQ
    refine ⟨_, rfl, (by show 0 ≤ sizeLine; decide), fun l0 n0 => ?_⟩
    have s4 : Same H (upd H l0 (HO.lst [])) := same_upd n0
    have e0 : upd H l0 (HO.lst []) l0 = some (HO.lst []) := upd_same
    generalize upd H l0 (HO.lst []) = H4 at s4 e0 ⊢
    refine ⟨.list ((A.map pq).map pairD), .list (([] : List (Int × Int)).map pairD), .lst (SqL.of (s4 _ _ e1)) (t1.same s4).dts, .lst (SqL.of e0) .nil, (plain_row _).2, (plain_row _).2, (depth_row _).2, _, rfl, ?_⟩
    rw [eqv_rowL, decide_eq_false (fun z => by have := List.map_eq_nil_iff.mp z; rw [this] at ln; cases ln)]
    refine iteT ?_
    refine ⟨_, rfl, (by show 2 ≤ sizeLine; decide), fun t0 nt0 => ?_⟩
    have et0 : TR (upd H4 t0 (HO.tup [V.int 1, V.int 1])) t0 1 := upd_same
    have s5 : Same H4 (upd H4 t0 (HO.tup [V.int 1, V.int 1])) := same_upd nt0
    dsimp only at et0 ⊢
    generalize upd H4 t0 (HO.tup [V.int 1, V.int 1]) = H5 at et0 s5 ⊢
    obtain ⟨rb, hb1, hb2⟩ := t1.getQ (i := n) (by omega)
    have gb : (as.map V.ref)[n]? = some (V.ref rb) := by rw [List.getElem?_map, hb1]; rfl
    have s45 := s4.trans s5
    refine ⟨_, rfl, _, rfl, l, _, _, .ref rb, rfl, rfl, SqL.of (s45 _ _ e1), at_neg (by decide) gb (by rw [List.length_map]; omega), ?_⟩
    refine ⟨t0, rb, 1, _, rfl, et0, hb2.same s45, Hb.one.sr (by decide), sA n, c0, fun r6 H6 s6 n6 e6 => ?_⟩
    refine ⟨l, r6, A, _, rfl, ⟨as, s6 _ _ (s45 _ _ e1), (t1.same s45).same s6⟩, e6, by omega, sA, sD, fun l' H' s7 r7 => q l' H' (s45.trans (s6.trans s7)) r7⟩
abbrev sShort : Stmt := topS 72
theorem scShort : FnScope ["_law_one", "_law_bottom", "_law_most", "_law_number"] ["_law_one"] (defScope sShort) := ⟨rfl, rfl, rfl, by decide +kernel, rfl, by decide +kernel, by decide +kernel⟩
theorem ok_short {f : Addr} {fd : FuncData} (F : Fun K "_law_p_short" "_law_p_short" sShort f fd) (hm1 : M1 base) (G__law_p_scaled : Df P w K mg base "_law_p_scaled" 4 ["_law_one", "_law_by"] spLPS) (G__law_gcd : Df P w K mg base "_law_gcd" 1 ["_law_one", "_law_two"] spGcd) : FnOk P w K mg base CX0 5 f fd ["_law_one"] spShort := by
  refine F.ok scShort (fun vs H W E h => ?_) (fun cdv A0 outer s0 H vs W E hr h => ?_)
  · obtain ⟨l, A, M, N, rfl, _⟩ := h
    rfl
  · obtain ⟨l, A, M, N, rfl, ⟨as, e1, t1⟩, hst, la, hF, hM, hM2, hN2, q⟩ := h
    refine ⟨_, (pss_cons (ps_asg (pe_tup (pa_cons pe_int (pa_cons pe_int pa_nil))) (pg_tup (by rfl) (pgs_cons (pg_name (i := 1) scShort.nd rfl (Or.inl rfl)) (pgs_cons (pg_name (i := 2) scShort.nd rfl (Or.inl rfl)) pgs_nil))))
  (pss_cons (ps_for PassesOwn.never rfl (pi_seq (pv 0)) (pg_name (i := 3) scShort.nd rfl (Or.inl rfl))
    (pss_one (ps_set (i := 1) scShort.nd rfl (Or.inl rfl) (pe_op op_fdivW (pe_op op_mulW (pv 1) (pe_ix ix_tup (pv 3) pe_int (fun _ _ => rfl))) (pe_call G__law_gcd.ok (hr.mono (by decide)) rfl G__law_gcd.m G__law_gcd.kp G__law_gcd.b .nil pass0 (pa_cons (pv 1) (pa_cons (pe_ix ix_tup (pv 3) pe_int (fun _ _ => rfl)) pa_nil)))))))
  (pss_cons (ps_for PassesOwn.never rfl (pi_seq (pv 0)) (pg_name (i := 3) scShort.nd rfl (Or.inl rfl))
    (pss_one (ps_set (i := 2) scShort.nd rfl (Or.inl rfl) (pe_call G__law_gcd.ok (hr.mono (by decide)) rfl G__law_gcd.m G__law_gcd.kp G__law_gcd.b .nil pass0 (pa_cons (pv 2) (pa_cons (pe_op op_mulW (pe_ix ix_tup (pv 3) pe_int (fun _ _ => rfl)) (pe_op op_fdivW (pv 1) (pe_ix ix_tup (pv 3) pe_int (fun _ _ => rfl)))) pa_nil))))))
  (pss_one (ps_ret (pe_ifExp (pt_cmpR (op_neT hr.units hm1) (pv 0) (pe_lst pa_nil) (nomark _)) (pe_call G__law_p_scaled.ok (hr.mono (by decide)) rfl G__law_p_scaled.m G__law_p_scaled.kp G__law_p_scaled.b .nil pass0 (pa_cons (pv 0) (pa_cons (pe_tup (pa_cons (pv 1) (pa_cons (pv 2) pa_nil))) pa_nil))) (pv 0))))))), ?_⟩
    have n1 := t1.lenQ
    have dM : ∀ i, (cf A i).den ∣ M := fun i => (hF i).den
    have hS : SqL K H l (as.map V.ref) := SqL.of e1
    have big1 : ∀ {z : Nat}, z < 2 ^ 4300 → z < 2 ^ 8700 := fun h => Nat.lt_trans h (Nat.pow_lt_pow_right (by decide) (by decide))
    have big2 : ∀ {z : Nat}, z < 2 ^ 4300 → z < 2 ^ big := fun h => Nat.lt_trans h (Nat.pow_lt_pow_right (by decide) (by decide))
    refine ⟨(by show 2 ≤ sizeLine; decide), fun t0 nt0 => ?_⟩
    have s0 : Same H (upd H t0 (HO.tup [V.int 1, V.int 0])) := same_upd nt0
    have et0 : upd H t0 (HO.tup [V.int 1, V.int 0]) t0 = some (HO.tup [V.int 1, V.int 0]) := upd_same
    generalize upd H t0 (HO.tup [V.int 1, V.int 0]) = H0 at s0 et0 ⊢
    refine ⟨t0, _, rfl, SqT.of et0, rfl, _, _, rfl, _, _, rfl, rfl, ?_⟩
    have e1 := s0 _ _ e1
    have t1 := t1.same s0
    have hS := same_sqL s0 hS
    have q := fun l' H' P c (s : Same H0 H') => q l' H' P c (s0.trans s)
    refine ⟨_, rfl, l, rfl, .inl ⟨_, hS, for_list (K := K) (a := l) (xs := as.map V.ref) (fun i σ H' => ∃ (b : Nat) (v : Option V), σ = [some (.ref l), some (.int (b : Int)), some (.int 0), v] ∧ Same H0 H' ∧ 0 < b ∧ b ∣ M ∧ (∀ j, j < i → (cf A j).den ∣ b) ∧ ∀ x, (∀ j, j < i → (cf A j).den ∣ x) → b ∣ x) ⟨1, none, rfl, Same.refl _, by decide, Nat.one_dvd _, (fun j hj => by omega), fun x _ => Nat.one_dvd _⟩ (fun i σ H' _ ⟨_, _, _, ss, _⟩ => same_sqL ss hS) ?_ ?_⟩⟩
    · rintro i x σ H' hi ⟨b, v, rfl, ss, b0, bi, dv, lst⟩
      rw [List.getElem?_map] at hi
      cases hr0 : as[i]? with
      | none => rw [hr0] at hi; cases hi
      | some r =>
        rw [hr0] at hi
        cases hi
        obtain ⟨qq, hq1, hq2⟩ := t1.atQ hr0
        have hc := cf_get hq1
        have bM := Nat.le_of_dvd hM bi
        have hd : qq.den ≤ M := by rw [← hc]; exact Nat.le_of_dvd hM (dM i)
        have hd0 := qq.den_pos
        have zb : ((b : Nat) : Int).natAbs < 2 ^ 4300 := by rw [Int.natAbs_natCast]; omega
        have zd : ((qq.den : Nat) : Int).natAbs < 2 ^ 4300 := by rw [Int.natAbs_natCast]; omega
        refine ⟨_, rfl, _, rfl, r, _, _, .int (qq.den : Int), rfl, rfl, SqT.of (ss _ _ hq2), at_of (j := 1) rfl rfl, _, _, rfl, rfl, big_mulW (big1 zb) (big1 zd), ?_⟩
        refine ⟨_, rfl, _, rfl, r, _, _, .int (qq.den : Int), rfl, rfl, SqT.of (ss _ _ hq2), at_of (j := 1) rfl rfl, _, _, rfl, big2 zb, big2 zd, ?_⟩
        rw [Int.natAbs_natCast, Int.natAbs_natCast]
        have g0 : 0 < Nat.gcd b qq.den := Nat.gcd_pos_of_pos_left _ b0
        refine ⟨_, _, rfl, rfl, ⟨by omega, ?_⟩, ?_⟩
        · rw [Int.natAbs_natCast]
          have : Nat.gcd b qq.den < 2 ^ 8800 := Nat.lt_trans (Nat.lt_of_le_of_lt (Nat.le_trans (Nat.gcd_le_left _ b0) bM) hM2) (Nat.pow_lt_pow_right (by decide) (by decide))
          exact Nat.lt_trans (log_4000 this) (by decide)
        · refine ⟨b.lcm qq.den, some (.ref r), ?_, ss, Nat.lcm_pos b0 hd0, Nat.lcm_dvd bi (by rw [← hc]; exact dM i), fun j hj => ?_, fun x hx => ?_⟩
          · have : ((b : Int) * (qq.den : Int)) / ((Nat.gcd b qq.den : Nat) : Int) = ((b.lcm qq.den : Nat) : Int) := by
              rw [← Int.natCast_mul, ← Int.natCast_ediv]
              rfl
            dsimp only
            rw [this]
            rfl
          · by_cases e : j = i
            · rw [e, hc]
              exact Nat.dvd_lcm_right _ _
            · exact Nat.dvd_trans (dv j (by omega)) (Nat.dvd_lcm_left _ _)
          · exact Nat.lcm_dvd (lst x fun j hj => hx j (by omega)) (by rw [← hc]; exact hx i (by omega))
    · rintro σ H1 ⟨b, v, rfl, s1, b0, bi, dv, lst⟩
      have bM := Nat.le_of_dvd hM bi
      rw [List.length_map, n1] at dv lst
      let xj : Nat → Int := fun j => (cf A j).num * ((b : Int) / ((cf A j).den : Int))
      have hx : ∀ j, cf A j * (b : Rat) = ((xj j : Int) : Rat) := fun j => by
        by_cases hj : j < A.length
        · exact over_one (dv j hj)
        · show _ = (((cf A j).num * ((b : Int) / ((cf A j).den : Int)) : Int) : Rat)
          rw [cf_ge (by omega)]
          rw [Rat.zero_mul, show (0 : Rat).num = 0 from rfl, Int.zero_mul]
          rfl
      have xN : ∀ j, (xj j).natAbs ≤ N := fun j => (hF j).over bi hM (hx j)
      refine ⟨_, rfl, l, rfl, .inl ⟨_, same_sqL s1 hS, for_list (K := K) (a := l) (xs := as.map V.ref) (fun i σ H' => ∃ (m : Nat) (v : Option V), σ = [some (.ref l), some (.int (b : Int)), some (.int (m : Int)), v] ∧ Same H1 H' ∧ m ≤ N ∧ (∀ j, j < i → m ∣ (xj j).natAbs) ∧ ∀ y, (∀ j, j < i → y ∣ (xj j).natAbs) → y ∣ m) ⟨0, v, rfl, Same.refl _, Nat.zero_le _, (fun j hj => by omega), fun x _ => Nat.dvd_zero _⟩ (fun i σ H' _ ⟨_, _, _, ss, _⟩ => same_sqL (s1.trans ss) hS) ?_ ?_⟩⟩
      · rintro i x σ H' hi ⟨m, v, rfl, ss, mN, dm, gm⟩
        rw [List.getElem?_map] at hi
        cases hr0 : as[i]? with
        | none => rw [hr0] at hi; cases hi
        | some r =>
          rw [hr0] at hi
          cases hi
          obtain ⟨qq, hq1, hq2⟩ := t1.atQ hr0
          have hc := cf_get hq1
          have hq2 := ss _ _ (s1 _ _ hq2)
          have hd : qq.den ≤ M := by rw [← hc]; exact Nat.le_of_dvd hM (dM i)
          have hd0 := qq.den_pos
          have z1 : (qq.num).natAbs < 2 ^ 4300 := by
            have := ((hF i).size hM).1
            rw [hc] at this
            omega
          have z2 : ((b : Int) / (qq.den : Int)).natAbs < 2 ^ 4300 := by
            rw [← Int.natCast_ediv, Int.natAbs_natCast]
            have := Nat.div_le_self b qq.den
            omega
          refine ⟨_, rfl, _, rfl, r, _, _, .int qq.num, rfl, rfl, SqT.of hq2, at_of (j := 0) rfl rfl, _, rfl, _, rfl, r, _, _, .int (qq.den : Int), rfl, rfl, SqT.of hq2, at_of (j := 1) rfl rfl, _, _, rfl, rfl, ⟨by omega, ?_⟩, ?_⟩
          · rw [Int.natAbs_natCast]
            have : qq.den < 2 ^ 8800 := Nat.lt_trans (Nat.lt_of_le_of_lt hd hM2) (Nat.pow_lt_pow_right (by decide) (by decide))
            exact Nat.lt_trans (log_4000 this) (by decide)
          refine ⟨_, _, rfl, rfl, big_mulW (big1 z1) (big1 z2), ?_⟩
          have exj : qq.num * ((b : Int) / (qq.den : Int)) = xj i := by
            show _ = (cf A i).num * ((b : Int) / ((cf A i).den : Int))
            rw [hc]
          have zx := xN i
          refine ⟨_, _, rfl, by rw [Int.natAbs_natCast]; exact big2 (by omega), by rw [exj]; exact big2 (by omega), ?_⟩
          rw [exj, Int.natAbs_natCast]
          refine ⟨Nat.gcd m (xj i).natAbs, some (.ref r), rfl, ss, ?_, fun j hj => ?_, fun y hy => ?_⟩
          · by_cases h0 : m = 0
            · rw [h0, Nat.gcd_zero_left]
              exact zx
            · exact Nat.le_trans (Nat.gcd_le_left _ (by omega)) mN
          · by_cases e : j = i
            · rw [e]
              exact Nat.gcd_dvd_right _ _
            · exact Nat.dvd_trans (Nat.gcd_dvd_left _ _) (dm j (by omega))
          · exact Nat.dvd_gcd (gm y fun j hj => hy j (by omega)) (hy i (by omega))
      · rintro σ H2 ⟨m, v', rfl, s2, mN, dm, gm⟩
        rw [List.length_map, n1] at dm gm
        have s02 := s1.trans s2
        refine ⟨_, rfl, (by show 0 ≤ sizeLine; decide), fun l0 n0 => ?_⟩
        have s4 : Same H2 (upd H2 l0 (HO.lst [])) := same_upd n0
        have e0 : upd H2 l0 (HO.lst []) l0 = some (HO.lst []) := upd_same
        generalize upd H2 l0 (HO.lst []) = H4 at s4 e0 ⊢
        have s04 := s02.trans s4
        refine ⟨.list ((A.map pq).map pairD), .list (([] : List (Int × Int)).map pairD), .lst (SqL.of (s04 _ _ e1)) (t1.same s04).dts, .lst (SqL.of e0) .nil, (plain_row _).2, (plain_row _).2, (depth_row _).2, _, rfl, ?_⟩
        rw [eqv_rowL]
        by_cases hE : A = []
        · subst hE
          rw [show decide (List.map pq ([] : List Rat) = []) = true from rfl]
          refine iteF ?_
          exact ⟨_, rfl, q l H4 [] 0 s04 ⟨as, s04 _ _ e1, t1.same s04⟩ (fun _ => rfl) (fun z => absurd rfl z)⟩
        · rw [decide_eq_false (fun z => hE (List.map_eq_nil_iff.mp z))]
          refine iteT ?_
          have L0 : 0 < A.length := List.length_pos_iff.mpr hE
          -- the last number is not 0
          have lead : cf A (A.length - 1) ≠ 0 := fun z => by
            have h := stripQ_stp A
            rw [hst] at h
            refine h A.dropLast (A.getLast hE) (List.dropLast_concat_getLast hE).symm ?_
            rw [List.getLast_eq_getElem, ← cf_lt]
            exact z
          have m0 : 0 < m := by
            rcases Nat.eq_zero_or_pos m with z | z
            · exfalso
              have h1 := dm (A.length - 1) (by omega)
              rw [z, Nat.zero_dvd] at h1
              have h2 : xj (A.length - 1) = 0 := Int.natAbs_eq_zero.mp h1
              have h3 := hx (A.length - 1)
              rw [h2] at h3
              have hb : (b : Rat) ≠ 0 := by
                have : b ≠ 0 := by omega
                exact_mod_cast this
              rcases Rat.mul_eq_zero.mp (show cf A (A.length - 1) * (b : Rat) = 0 from h3) with h | h
              · exact lead h
              · exact hb h
            · exact z
          have hxd : ∀ j, (cf A j).num.natAbs * b = (xj j).natAbs * (cf A j).den := fun j => by
            have h1 : (((cf A j).num * (b : Int) : Int) : Rat) = ((xj j * ((cf A j).den : Int) : Int) : Rat) := by
              rw [Rat.intCast_mul, Rat.intCast_mul, ← hx j, ← num_den (cf A j)]
              show cf A j * ((cf A j).den : Rat) * (b : Rat) = cf A j * (b : Rat) * ((cf A j).den : Rat)
              grind
            have h2 : (cf A j).num * (b : Int) = xj j * ((cf A j).den : Int) := by exact_mod_cast h1
            have h3 := congrArg Int.natAbs h2
            rw [Int.natAbs_mul, Int.natAbs_mul, Int.natAbs_natCast, Int.natAbs_natCast] at h3
            exact h3
          have cop : ((b : Int)).natAbs.Coprime m := by
            rw [Int.natAbs_natCast]
            have g0 : 0 < Nat.gcd b m := Nat.gcd_pos_of_pos_left _ b0
            obtain ⟨b', eb⟩ := Nat.gcd_dvd_left b m
            have key : ∀ j, j < A.length → (cf A j).den ∣ b' := fun j hj => by
              obtain ⟨y, ey⟩ := Nat.dvd_trans (Nat.gcd_dvd_right b m) (dm j hj)
              have h := hxd j
              rw [ey] at h
              have h2 : Nat.gcd b m * ((cf A j).num.natAbs * b') = Nat.gcd b m * (y * (cf A j).den) := by
                have : (cf A j).num.natAbs * (Nat.gcd b m * b') = Nat.gcd b m * y * (cf A j).den := by rw [← eb]; exact h
                rw [Nat.mul_left_comm, this, Nat.mul_assoc]
              have h3 := Nat.eq_of_mul_eq_mul_left g0 h2
              exact Nat.Coprime.dvd_of_dvd_mul_left (cf A j).reduced.symm ⟨y, by rw [h3, Nat.mul_comm]⟩
            have hb' := lst b' key
            have b'0 : 0 < b' := by
              rcases Nat.eq_zero_or_pos b' with z | z
              · rw [z, Nat.mul_zero] at eb
                omega
              · exact z
            have h1 := Nat.le_of_dvd b'0 hb'
            show Nat.gcd b m = 1
            rcases Nat.lt_or_ge 1 (Nat.gcd b m) with h2 | h2
            · have : 2 * b' ≤ Nat.gcd b m * b' := Nat.mul_le_mul_right _ h2
              omega
            · omega
          let c : Rat := ⟨(b : Int), m, by omega, cop⟩
          have hcm : c * (m : Rat) = (b : Rat) := num_den c
          refine ⟨_, rfl, _, rfl, _, rfl, (by show 2 ≤ sizeLine; decide), fun tp np => ?_⟩
          have etp : TR (upd H4 tp (HO.tup [V.int (b : Int), V.int (m : Int)])) tp c := upd_same
          have s5 : Same H4 (upd H4 tp (HO.tup [V.int (b : Int), V.int (m : Int)])) := same_upd np
          dsimp only at etp ⊢
          generalize upd H4 tp (HO.tup [V.int (b : Int), V.int (m : Int)]) = H5 at etp s5 ⊢
          have s05 := s04.trans s5
          have sc : Sr c := ⟨by show ((b : Int)).natAbs < _; rw [Int.natAbs_natCast]; omega, by show m < _; omega⟩
          have sA : SrL A := fun i => (hF i).sr hM hM2 hN2
          refine ⟨l, tp, A, c, rfl, ⟨as, s05 _ _ e1, t1.same s05⟩, etp, by omega, sA, sc, fun l' H' s6 r6 => ?_⟩
          have hmQ : (m : Rat) ≠ 0 := by
            have : m ≠ 0 := by omega
            exact_mod_cast this
          have ent : ∀ i, ∃ w : Int, cf (stripQ (pscale A c)) i = (w : Rat) ∧ xj i = m * w := fun i => by
            have hd : m ∣ (xj i).natAbs := by
              by_cases hi : i < A.length
              · exact dm i hi
              · have : xj i = 0 := by
                  show (cf A i).num * _ = 0
                  rw [cf_ge (by omega)]
                  exact Int.zero_mul _
                rw [this]
                exact Nat.dvd_zero _
            obtain ⟨w, ew⟩ : (m : Int) ∣ xj i := Int.natAbs_dvd_natAbs.mp (by rw [Int.natAbs_natCast]; exact hd)
            refine ⟨w, ?_, ew⟩
            rw [cf_stripQ, cf_pscale]
            have h1 : cf A i * c * (m : Rat) = (w : Rat) * (m : Rat) := by
              have : cf A i * c * (m : Rat) = cf A i * (c * (m : Rat)) := by grind
              rw [this, hcm, hx i, ew, Rat.intCast_mul]
              show (m : Rat) * (w : Rat) = _
              grind
            have h2 : cf A i * c = cf A i * c * (m : Rat) / (m : Rat) := (Rat.mul_div_cancel hmQ).symm
            rw [h2, h1, Rat.mul_div_cancel hmQ]
          refine q l' H' _ c (s05.trans s6) r6 (fun z => absurd z hE) fun _ => ⟨?_, rfl, fun i => ?_, fun u hu => ?_⟩
          · have h1 : (0 : Rat) < (b : Rat) := by exact_mod_cast b0
            have h2 : (0 : Rat) < (m : Rat) := by exact_mod_cast m0
            have e : c = (b : Rat) / (m : Rat) := by rw [← hcm, Rat.mul_div_cancel hmQ]
            rw [e, Rat.div_def]
            exact Rat.mul_pos h1 (Rat.inv_pos.mpr h2)
          · obtain ⟨w, ew, _⟩ := ent i
            rw [ew]
            rfl
          · have h1 : u * m ∣ m := gm _ fun j hj => by
              obtain ⟨w, ew, e2⟩ := ent j
              have h2 := hu j
              rw [ew] at h2
              have h2 : u ∣ w.natAbs := h2
              rw [e2, Int.natAbs_mul, Int.natAbs_natCast, Nat.mul_comm]
              exact Nat.mul_dvd_mul_left _ h2
            have h2 := Nat.dvd_of_mul_dvd_mul_right m0 (show u * m ∣ 1 * m by rw [Nat.one_mul]; exact h1)
            exact h2
end
end Vf
set_option maxRecDepth 100000
set_option maxHeartbeats 8000000
namespace Vf
open PySem PySem.Spec PyProof.Rows L2
/-- a division that may be asked -/
structure DvR (A B Q R : List Rat) (M N : Nat) : Prop where
  d : Dvd A B Q R
  s : DvS A B Q R
  f : ∀ i, Fr M N (cf R i)
  m0 : 0 < M
  m : M < 2 ^ 4300
  n : N < 2 ^ 4300
structure PlainOk (A G0 : List Rat) (n : Nat) : Prop where
  l : A.length = n + 1
  hn : n ≤ 40
  c : cf A n ≠ 0
  s : SrL A
  i : Sr (1 / cf A n)
  e : stripQ (pscale A (1 / cf A n)) = G0
structure CmI (I : Nat → List Rat → List Rat → Prop) (K : Nat) (G0 : List Rat) : Prop where
  k : K ≤ 100
  st : ∀ k A B, k < K → I k A B → B ≠ [] ∧ ∃ Q R M N, DvR A B Q R M N ∧ R.length ≤ 40 ∧ ∀ P c, (stripQ R = [] → P = []) → (stripQ R ≠ [] → Prim (stripQ R) P c) → I (k + 1) B P
  en : ∀ A B, I K A B → B = [] ∧ ∃ n, PlainOk A G0 n
def spCommon : Sp := fun vs H W _ => ∃ (l1 l2 : Addr) (A B : List Rat) (I : Nat → List Rat → List Rat → Prop) (K : Nat) (G0 : List Rat), vs = [.ref l1, .ref l2] ∧ RL H l1 A ∧ RL H l2 B ∧ I 0 A B ∧ CmI I K G0 ∧ ∀ (l : Addr) (H' : Hp), Same H H' → RL H' l G0 → W (.ref l) H'
def spSimple : Sp := fun vs H W _ => ∃ (l1 : Addr) (A : List Rat) (I : Nat → List Rat → List Rat → Prop) (K : Nat) (G0 Q R : List Rat), vs = [.ref l1] ∧ RL H l1 A ∧ 2 ≤ A.length ∧ A.length ≤ 40 ∧ SrL A ∧ I 0 A (stripQ (pslope A)) ∧ CmI I K G0 ∧ Dvd A G0 Q R ∧ DvS A G0 Q R ∧ ∀ (l : Addr) (H' : Hp), Same H H' → RL H' l (stripQ Q) → W (.ref l) H'
section
variable {P : Program} {w : World} {K : PySem.W.Frag} {mg : Str → Option Value} {base : Heap} {CP CR CN CI : Addr}
abbrev sCommon : Stmt := topS 73
theorem scCommon : FnScope ["_law_one", "_law_two", "_law_lap"] ["_law_one", "_law_two"] (defScope sCommon) := ⟨rfl, rfl, rfl, by decide +kernel, rfl, by decide +kernel, by decide +kernel⟩
theorem ok_common {f : Addr} {fd : FuncData} (F : Fun K "_law_p_common" "_law_p_common" sCommon f fd) (T : Bk mg) (hm1 : M1 base) (G__law_p_divided : Df P w K mg base "_law_p_divided" 4 ["_law_one", "_law_two"] spDiv) (G__law_p_short : Df P w K mg base "_law_p_short" 5 ["_law_one"] spShort) (G__law_p_plain : Df P w K mg base "_law_p_plain" 5 ["_law_one"] spPlain) : FnOk P w K mg base CX0 6 f fd ["_law_one", "_law_two"] spCommon := by
  refine F.ok scCommon (fun vs H W E h => ?_) (fun cdv A0 outer s0 H vs W E hr h => ?_)
  · obtain ⟨l1, l2, A, B, I, k, G0, rfl, _⟩ := h
    rfl
  · obtain ⟨l1, l2, A, B, I, k, G0, rfl, r1, r2, i0, C, q⟩ := h
    refine ⟨_, (pss_cons (ps_for PassesOwn.never rfl (pi_range1 (by rfl) T.range (pa_cons pe_int pa_nil)) (pg_name (i := 2) scCommon.nd rfl (Or.inl rfl))
    (pss_cons (ps_if (pt_cmpR (op_eqT hr.units hm1) (pv 1) (pe_lst pa_nil) (nomark _))
      (pss_one ps_break)
      pss_nil)
    (pss_one (ps_par (i := 0) (j := 1) (by rfl) scCommon.nd rfl rfl (by decide) rfl rfl (pa_cons (pv 1) (pa_cons (pe_call G__law_p_short.ok (hr.mono (by decide)) rfl G__law_p_short.m G__law_p_short.kp G__law_p_short.b .nil pass0 (pa_cons (pe_ix (r := rIxT K) ix_tup (pe_call G__law_p_divided.ok (hr.mono (by decide)) rfl G__law_p_divided.m G__law_p_divided.kp G__law_p_divided.b .nil pass0 (pa_cons (pv 0) (pa_cons (pv 1) pa_nil))) pe_int (fun _ _ => rfl)) pa_nil)) pa_nil)) (by rfl)))))
  (pss_one (ps_ret (pe_call G__law_p_plain.ok (hr.mono (by decide)) rfl G__law_p_plain.m G__law_p_plain.kp G__law_p_plain.b .nil pass0 (pa_cons (pv 0) pa_nil))))), ?_⟩
    have hk := C.k
    refine ⟨200, rfl, by decide, by decide, for_range (lo := 0) (n := 200) (fun i σ H' => ∃ (a b : Addr) (A B : List Rat) (v : Option V), σ = [some (.ref a), some (.ref b), v] ∧ Same H H' ∧ RL H' a A ∧ RL H' b B ∧ i ≤ k ∧ I i A B) ⟨l1, l2, A, B, none, rfl, Same.refl _, r1, r2, Nat.zero_le _, i0⟩ ?_ ?_⟩
    · rintro i σ H1 hi ⟨a, b, A, B, v, rfl, s1, ra, rb, hik, ii⟩
      obtain ⟨bs, eb, tb⟩ := id rb
      refine ⟨_, rfl, (by show 0 ≤ sizeLine; decide), fun l0 n0 => ?_⟩
      have s4 : Same H1 (upd H1 l0 (HO.lst [])) := same_upd n0
      have e0 : upd H1 l0 (HO.lst []) l0 = some (HO.lst []) := upd_same
      generalize upd H1 l0 (HO.lst []) = H4 at s4 e0 ⊢
      refine ⟨.list ((B.map pq).map pairD), .list (([] : List (Int × Int)).map pairD), .lst (SqL.of (s4 _ _ eb)) (tb.same s4).dts, .lst (SqL.of e0) .nil, (plain_row _).2, (plain_row _).2, (depth_row _).2, _, rfl, ?_⟩
      rw [eqv_rowL]
      by_cases hK : i = k
      · subst hK
        obtain ⟨rfl, n, hp⟩ := C.en A B ii
        rw [show decide (List.map pq ([] : List Rat) = []) = true from rfl]
        refine iteT ?_
        refine ⟨_, rfl, a, A, n, rfl, ra.same s4, hp.l, hp.hn, hp.c, hp.s, hp.i, fun l' H' s5 r5 => ?_⟩
        rw [hp.e] at r5
        exact q l' H' (s1.trans (s4.trans s5)) r5
      · obtain ⟨hB, Q, R, M, N, D, lR, nx⟩ := C.st i A B (by omega) ii
        rw [decide_eq_false (fun z => hB (List.map_eq_nil_iff.mp z))]
        refine iteF ?_
        dsimp only [tNext]
        refine par_one ?_
        refine ⟨_, rfl, _, rfl, _, rfl, a, b, A, B, Q, R, rfl, ra.same s4, rb.same s4, D.d, D.s, fun t qa rr H5 s5 e5 rq rR => ?_⟩
        refine ⟨t, _, _, .ref rr, rfl, rfl, SqT.of e5, at_of (j := 1) rfl rfl, ?_⟩
        have lR2 := stripQ_len R
        refine ⟨rr, stripQ R, M, N, rfl, rR, stripQ_id (stripQ_stp _), by omega, fun i => by rw [cf_stripQ]; exact D.f i, D.m0, D.m, D.n, fun l' H6 P c s6 rP p0 p1 => ?_⟩
        exact ⟨b, l', B, P, _, rfl, s1.trans (s4.trans (s5.trans s6)), rb.same (s4.trans (s5.trans s6)), rP, by omega, nx P c p0 p1⟩
    · rintro σ H1 ⟨a, b, A, B, v, rfl, s1, ra, rb, hik, ii⟩
      omega
abbrev sSimple : Stmt := topS 74
theorem scSimple : FnScope ["_law_one"] ["_law_one"] (defScope sSimple) := ⟨rfl, rfl, rfl, by decide +kernel, rfl, by decide +kernel, by decide +kernel⟩
theorem ok_simple {f : Addr} {fd : FuncData} (F : Fun K "_law_p_simple" "_law_p_simple" sSimple f fd) (T : Bk mg) (G__law_p_divided : Df P w K mg base "_law_p_divided" 4 ["_law_one", "_law_two"] spDiv) (G__law_p_common : Df P w K mg base "_law_p_common" 6 ["_law_one", "_law_two"] spCommon) (G__law_p_slope : Df P w K mg base "_law_p_slope" 4 ["_law_one"] spLPSl) : FnOk P w K mg base CX0 7 f fd ["_law_one"] spSimple := by
  refine F.ok scSimple (fun vs H W E h => ?_) (fun cdv A0 outer s0 H vs W E hr h => ?_)
  · obtain ⟨l1, A, I, k, G0, Q, R, rfl, _⟩ := h
    rfl
  · obtain ⟨l1, A, I, k, G0, Q, R, rfl, r1, l2, l40, sA, i0, C, D, S, q⟩ := h
    refine ⟨_, (pss_cons (ps_if (pt_cmpR op_lt (pe_callB call_len_seq (by rfl) T.len (by decide +kernel) (pa_cons (pv 0) pa_nil)) pe_int (nomark _))
    (pss_one (ps_ret (pv 0)))
    pss_nil)
  (pss_one (ps_ret (pe_ix (r := rIxT K) ix_tup (pe_call G__law_p_divided.ok (hr.mono (by decide)) rfl G__law_p_divided.m G__law_p_divided.kp G__law_p_divided.b .nil pass0 (pa_cons (pv 0) (pa_cons (pe_call G__law_p_common.ok (hr.mono (by decide)) rfl G__law_p_common.m G__law_p_common.kp G__law_p_common.b .nil pass0 (pa_cons (pv 0) (pa_cons (pe_call G__law_p_slope.ok (hr.mono (by decide)) rfl G__law_p_slope.m G__law_p_slope.kp G__law_p_slope.b .nil pass0 (pa_cons (pv 0) pa_nil)) pa_nil))) pa_nil))) pe_int (fun _ _ => rfl))))), ?_⟩
    obtain ⟨as, e1, t1⟩ := id r1
    have n1 := t1.lenQ
    refine ⟨_, rfl, l1, _, rfl, .inl (SqL.of e1), _, _, rfl, rfl, _, rfl, ?_⟩
    rw [List.length_map, n1, decide_eq_false (show ¬ ((A.length : Nat) : Int) < 2 by omega)]
    refine iteF ?_
    refine ⟨_, rfl, _, rfl, _, rfl, l1, A, rfl, r1, by omega, sA, fun ls H1 s1 rs => ?_⟩
    refine ⟨l1, ls, A, _, I, k, G0, rfl, r1.same s1, rs, i0, C, fun lg H2 s2 rg => ?_⟩
    have s12 := s1.trans s2
    refine ⟨l1, lg, A, G0, Q, R, rfl, r1.same s12, rg, D, S, fun t qa ra H3 s3 e3 rq rR => ?_⟩
    refine ⟨t, _, _, .ref qa, rfl, rfl, SqT.of e3, at_of (j := 0) rfl rfl, ?_⟩
    exact q qa H3 (s12.trans s3) rq
end
end Vf
set_option maxRecDepth 100000
set_option maxHeartbeats 8000000
namespace Vf
open PySem PySem.Spec PyProof.Rows L2
theorem cut_last (xs : List V) : cutV xs none (some (-1)) = xs.dropLast := by
  unfold cutV
  have e1 : HT.sIx xs.length 0 none = 0 := rfl
  have e2 : HT.sIx xs.length xs.length (some (-1)) = xs.length - 1 := by
    unfold HT.sIx
    simp
    omega
  rw [e1, e2, List.drop_zero, Nat.sub_zero, List.dropLast_eq_take]
def Rws (H : Hp) (l : Addr) (Ps : List (List Rat)) : Prop := ∃ as : List Addr, H l = some (.lst (as.map V.ref)) ∧ as.length = Ps.length ∧ ∀ (i : Nat) (a : Addr) (P : List Rat), as[i]? = some a → Ps[i]? = some P → RL H a P
theorem Rws.same {H H' : Hp} {l : Addr} {Ps : List (List Rat)} (h : Rws H l Ps) (s : Same H H') : Rws H' l Ps := by
  obtain ⟨as, h1, h2, h3⟩ := h
  exact ⟨as, s _ _ h1, h2, fun i a P e1 e2 => (h3 i a P e1 e2).same s⟩
/-- a row of rows is no row of numbers -/
theorem rws_ne {H : Hp} {l r : Addr} {P : List Rat} {Ps : List (List Rat)} (h : Rws H l Ps) (h0 : 0 < Ps.length) (hr : RL H r P) : r ≠ l := by
  rintro rfl
  obtain ⟨as, h1, h2, h3⟩ := h
  obtain ⟨bs, g1, g2⟩ := hr
  rw [h1] at g1
  have e : as.map V.ref = bs.map V.ref := by injection g1 with g1; injection g1
  have e : as = bs := List.map_inj_right (fun _ _ z => by cases z; rfl) |>.mp e
  subst e
  have l0 : 0 < as.length := by omega
  obtain ⟨x, k1, k2⟩ := (h3 0 as[0] Ps[0] (List.getElem?_eq_getElem l0) (List.getElem?_eq_getElem h0))
  have n1 := g2.lenQ
  obtain ⟨rt, k3, k4⟩ := g2.getQ (i := 0) (by omega)
  rw [List.getElem?_eq_getElem l0] at k3
  cases k3
  unfold TR at k4
  rw [k1] at k4
  cases k4
theorem rl_put {H : Hp} {l r : Addr} {P : List Rat} {xs ys : List V} (h : RL H r P) (hl : H l = some (.lst xs)) (n : r ≠ l) : RL (upd H l (.lst ys)) r P := by
  obtain ⟨as, h1, h2⟩ := h
  exact ⟨as, by rw [upd_ne n]; exact h1, h2.lst hl upd_away⟩
theorem Rws.push {H : Hp} {l r : Addr} {P : List Rat} {Ps : List (List Rat)} {as : List Addr} (h1 : H l = some (.lst (as.map V.ref))) (h2 : as.length = Ps.length) (h3 : ∀ (i : Nat) (a : Addr) (P : List Rat), as[i]? = some a → Ps[i]? = some P → RL H a P) (h0 : 0 < Ps.length) (hr : RL H r P) : Rws (upd H l (.lst (as.map V.ref ++ [V.ref r]))) l (Ps ++ [P]) := by
  have hw : Rws H l Ps := ⟨as, h1, h2, h3⟩
  refine ⟨as ++ [r], by rw [upd_same, List.map_append]; rfl, by rw [List.length_append, List.length_append, h2]; rfl, fun i a Q e1 e2 => ?_⟩
  by_cases hi : i < as.length
  · rw [List.getElem?_append_left hi] at e1
    rw [List.getElem?_append_left (by omega)] at e2
    have g := h3 i a Q e1 e2
    exact rl_put g h1 (rws_ne hw h0 g)
  · have hi2 : i = as.length := by
      have := (List.getElem?_eq_some_iff.mp e1).1
      rw [List.length_append, List.length_singleton] at this
      omega
    subst hi2
    rw [List.getElem?_append_right (Nat.le_refl _), Nat.sub_self] at e1
    rw [List.getElem?_append_right (by omega), show as.length - Ps.length = 0 by omega] at e2
    cases e1
    cases e2
    exact rl_put hr h1 (rws_ne hw h0 hr)
structure ChI (Ok : Nat → List Rat → Prop) (K : Nat) : Prop where
  k : K ≤ 40
  k1 : 1 ≤ K
  st : ∀ k A B, k < K → Ok k A → Ok (k + 1) B → B ≠ [] ∧ ∃ Q R M N, DvR A B Q R M N ∧ R.length ≤ 40 ∧ ∀ P c, (stripQ R = [] → P = []) → (stripQ R ≠ [] → Prim (stripQ R) P c) → SrL P ∧ P.length ≤ 40 ∧ Ok (k + 2) (stripQ (pscale P (-1)))
  en : ∀ B, Ok (K + 1) B → B = []
structure ChA (Ok : Nat → List Rat → Prop) (A : List Rat) (M N M' N' : Nat) : Prop where
  s : stripQ A = A
  ne : A ≠ []
  l : A.length ≤ 40
  z : SrL A
  f : ∀ i, Fr M N (cf A i)
  m0 : 0 < M
  m : M < 2 ^ 4300
  n : N < 2 ^ 4300
  f' : ∀ i, Fr M' N' (cf (stripQ (pslope A)) i)
  m0' : 0 < M'
  m' : M' < 2 ^ 4300
  n' : N' < 2 ^ 4300
  ne' : stripQ (pslope A) ≠ []
  o0 : ∀ P c, Prim A P c → Ok 0 P
  o1 : ∀ P c, Prim (stripQ (pslope A)) P c → Ok 1 P
def spChain : Sp := fun vs H W _ => ∃ (l1 : Addr) (A : List Rat) (Ok : Nat → List Rat → Prop) (K M N M' N' : Nat), vs = [.ref l1] ∧ RL H l1 A ∧ ChA Ok A M N M' N' ∧ ChI Ok K ∧ ∀ (l : Addr) (Ps : List (List Rat)) (H' : Hp), Same H H' → Rws H' l Ps → Ps.length = K + 1 → (∀ (i : Nat) P, Ps[i]? = some P → Ok i P) → W (.ref l) H'
section
variable {P : Program} {w : World} {K : PySem.W.Frag} {mg : Str → Option Value} {base : Heap} {CP CR CN CI : Addr}
abbrev sChain : Stmt := topS 76
theorem scChain : FnScope ["_law_one", "_law_row", "_law_lap", "_law_rest"] ["_law_one"] (defScope sChain) := ⟨rfl, rfl, rfl, by decide +kernel, rfl, by decide +kernel, by decide +kernel⟩
theorem ok_chain {f : Addr} {fd : FuncData} (F : Fun K "_law_chain" "_law_chain" sChain f fd) (T : Bk mg) (hm1 : M1 base) (G__law_p_divided : Df P w K mg base "_law_p_divided" 4 ["_law_one", "_law_two"] spDiv) (G__law_p_short : Df P w K mg base "_law_p_short" 5 ["_law_one"] spShort) (G__law_p_slope : Df P w K mg base "_law_p_slope" 4 ["_law_one"] spLPSl) (G__law_p_scaled : Df P w K mg base "_law_p_scaled" 4 ["_law_one", "_law_by"] spLPS) : FnOk P w K mg base CX0 6 f fd ["_law_one"] spChain := by
  refine F.ok scChain (fun vs H W E h => ?_) (fun cdv A0 outer s0 H vs W E hr h => ?_)
  · obtain ⟨l1, A, Ok, k, M, N, M', N', rfl, _⟩ := h
    rfl
  · obtain ⟨l1, A, Ok, k, M, N, M', N', rfl, r1, CA, C, q⟩ := h
    refine ⟨_, (pss_cons (ps_set (i := 1) scChain.nd rfl (Or.inl rfl) (pe_lst (pa_cons (pe_call G__law_p_short.ok (hr.mono (by decide)) rfl G__law_p_short.m G__law_p_short.kp G__law_p_short.b .nil pass0 (pa_cons (pv 0) pa_nil)) (pa_cons (pe_call G__law_p_short.ok (hr.mono (by decide)) rfl G__law_p_short.m G__law_p_short.kp G__law_p_short.b .nil pass0 (pa_cons (pe_call G__law_p_slope.ok (hr.mono (by decide)) rfl G__law_p_slope.m G__law_p_slope.kp G__law_p_slope.b .nil pass0 (pa_cons (pv 0) pa_nil)) pa_nil)) pa_nil))))
  (pss_cons (ps_for PassesOwn.never rfl (pi_range1 (by rfl) T.range (pa_cons pe_int pa_nil)) (pg_name (i := 2) scChain.nd rfl (Or.inl rfl))
    (pss_cons (ps_if (pt_cmpR (op_eqT hr.units hm1) (pe_ix ix_list (pv 1) (pe_un un_neg pe_int) (fun _ _ => rfl)) (pe_lst pa_nil) (nomark _))
      (pss_one ps_break)
      pss_nil)
    (pss_cons (ps_set (i := 3) scChain.nd rfl (Or.inl rfl) (pe_ix (r := rIxT K) ix_tup (pe_call G__law_p_divided.ok (hr.mono (by decide)) rfl G__law_p_divided.m G__law_p_divided.kp G__law_p_divided.b .nil pass0 (pa_cons (pe_ix ix_list (pv 1) (pe_un un_neg pe_int) (fun _ _ => rfl)) (pa_cons (pe_ix ix_list (pv 1) (pe_un un_neg pe_int) (fun _ _ => rfl)) pa_nil))) pe_int (fun _ _ => rfl)))
    (pss_one (ps_expr (pe_bm PySem.F.plainAttrs_list PySem.F.slot_list_append PySem.F.type_list_append mt_append (pv 1) (pa_cons (pe_call G__law_p_scaled.ok (hr.mono (by decide)) rfl G__law_p_scaled.m G__law_p_scaled.kp G__law_p_scaled.b .nil pass0 (pa_cons (pe_call G__law_p_short.ok (hr.mono (by decide)) rfl G__law_p_short.m G__law_p_short.kp G__law_p_short.b .nil pass0 (pa_cons (pv 3) pa_nil)) (pa_cons (pe_tup (pa_cons (pe_un un_neg pe_int) (pa_cons pe_int pa_nil))) pa_nil))) pa_nil)))))))
  (pss_one (ps_ret (pe_slice sl_list (pv 1) po_none (po_some (pe_un un_neg pe_int))))))), ?_⟩
    have hk := C.k
    have hk1 := C.k1
    have lA := CA.l
    refine ⟨_, rfl, l1, A, M, N, rfl, r1, CA.s, lA, CA.f, CA.m0, CA.m, CA.n, fun a0 H1 P0 c0 s1 q0 _ p0 => ?_⟩
    refine ⟨_, rfl, l1, A, rfl, r1.same s1, by omega, CA.z, fun ls H2 s2 rs => ?_⟩
    have lS : (stripQ (pslope A)).length ≤ 40 := by
      have h1 := stripQ_len (pslope A)
      have h2 : (pslope A).length = A.length - 1 := by unfold pslope; rw [tab_len]
      omega
    refine ⟨ls, _, M', N', rfl, rs, stripQ_id (stripQ_stp _), lS, CA.f', CA.m0', CA.m', CA.n', fun a1 H3 P1 c1 s3 q1 _ p1 => ?_⟩
    have p0 := CA.o0 P0 c0 (p0 CA.ne)
    have p1 := CA.o1 P1 c1 (p1 CA.ne')
    have s13 := s1.trans (s2.trans s3)
    have q03 := q0.same (s2.trans s3)
    refine ⟨(by show 2 ≤ sizeLine; decide), fun lr nlr => ?_⟩
    have e3 : upd H3 lr (HO.lst [V.ref a0, V.ref a1]) lr = some (HO.lst (([a0, a1] : List Addr).map V.ref)) := upd_same
    have s4 : Same H3 (upd H3 lr (HO.lst [V.ref a0, V.ref a1])) := same_upd nlr
    generalize upd H3 lr (HO.lst [V.ref a0, V.ref a1]) = H4 at e3 s4 ⊢
    have nlrH : H lr = none := s13.free nlr
    have w0 : Rws H4 lr [P0, P1] := ⟨[a0, a1], e3, rfl, fun i a P e1 e2 => by
      match i with
      | 0 => cases e1; cases e2; exact q03.same s4
      | 1 => cases e1; cases e2; exact q1.same s4
      | i + 2 => cases e1⟩
    refine ⟨200, rfl, by decide, by decide, for_range (lo := 0) (n := 200) (fun i σ H' => ∃ (Ps : List (List Rat)) (v2 v3 : Option V), σ = [some (.ref l1), some (.ref lr), v2, v3] ∧ Same H H' ∧ Rws H' lr Ps ∧ Ps.length = i + 2 ∧ (∀ (j : Nat) P, Ps[j]? = some P → Ok j P) ∧ i ≤ k) ⟨[P0, P1], none, none, rfl, s13.trans s4, w0, rfl, fun j P e => ?_, Nat.zero_le _⟩ ?_ ?_⟩
    · match j with
      | 0 => cases e; exact p0
      | 1 => cases e; exact p1
      | j + 2 => cases e
    · rintro i σ H5 hi ⟨Ps, v2, v3, rfl, s5, rw5, lP, oP, hik⟩
      obtain ⟨as, e5, la, ra⟩ := id rw5
      have lm : (as.map V.ref).length = i + 2 := by rw [List.length_map]; omega
      obtain ⟨x0, hx0⟩ : ∃ x, as[i]? = some x := ⟨_, List.getElem?_eq_getElem (by omega)⟩
      obtain ⟨x1, hx1⟩ : ∃ x, as[i + 1]? = some x := ⟨_, List.getElem?_eq_getElem (by omega)⟩
      obtain ⟨B0, hB0⟩ : ∃ x, Ps[i]? = some x := ⟨_, List.getElem?_eq_getElem (by omega)⟩
      obtain ⟨B1, hB1⟩ : ∃ x, Ps[i + 1]? = some x := ⟨_, List.getElem?_eq_getElem (by omega)⟩
      have g0 : (as.map V.ref)[i]? = some (V.ref x0) := by rw [List.getElem?_map, hx0]; rfl
      have g1 : (as.map V.ref)[i + 1]? = some (V.ref x1) := by rw [List.getElem?_map, hx1]; rfl
      have at1 : atI (as.map V.ref) (-1) = some (V.ref x1) := at_neg (by decide) g1 (by omega)
      have at2 : atI (as.map V.ref) (-2) = some (V.ref x0) := at_neg (by decide) g0 (by omega)
      have r0 := ra i x0 B0 hx0 hB0
      have r1' := ra (i + 1) x1 B1 hx1 hB1
      obtain ⟨bs, eb, tb⟩ := id r1'
      refine ⟨_, rfl, _, rfl, lr, _, _, .ref x1, rfl, rfl, SqL.of e5, at1, ?_⟩
      refine ⟨(by show 0 ≤ sizeLine; decide), fun l0 n0 => ?_⟩
      have s6 : Same H5 (upd H5 l0 (HO.lst [])) := same_upd n0
      have e0 : upd H5 l0 (HO.lst []) l0 = some (HO.lst []) := upd_same
      generalize upd H5 l0 (HO.lst []) = H6 at s6 e0 ⊢
      refine ⟨.list ((B1.map pq).map pairD), .list (([] : List (Int × Int)).map pairD), .lst (SqL.of (s6 _ _ eb)) (tb.same s6).dts, .lst (SqL.of e0) .nil, (plain_row _).2, (plain_row _).2, (depth_row _).2, _, rfl, ?_⟩
      rw [eqv_rowL]
      have s56 := s5.trans s6
      by_cases hK : i = k
      · subst hK
        have hB := C.en B1 (oP _ _ hB1)
        subst hB
        rw [show decide (List.map pq ([] : List Rat) = []) = true from rfl]
        refine iteT ?_
        refine ⟨_, rfl, _, rfl, _, rfl, ?_⟩
        refine ⟨lr, _, rfl, SqL.of (s6 _ _ e5), fun ld nld => ?_⟩
        rw [cut_last]
        have e8 : upd H6 ld (HO.lst (as.map V.ref).dropLast) ld = some (HO.lst ((as.dropLast).map V.ref)) := by rw [upd_same, List.map_dropLast]
        have s8 : Same H6 (upd H6 ld (HO.lst (as.map V.ref).dropLast)) := same_upd nld
        generalize upd H6 ld (HO.lst (as.map V.ref).dropLast) = H8 at e8 s8 ⊢
        refine q ld Ps.dropLast H8 (s56.trans s8) ⟨as.dropLast, e8, by rw [List.length_dropLast, List.length_dropLast, la], fun j a P e1 e2 => ?_⟩ (by rw [List.length_dropLast, lP]; rfl) fun j P e => ?_
        · have h1 := (List.getElem?_eq_some_iff.mp e1).1
          rw [List.length_dropLast] at h1
          rw [List.dropLast_eq_take, List.getElem?_take_of_lt (by omega)] at e1
          rw [List.dropLast_eq_take, List.getElem?_take_of_lt (by omega)] at e2
          exact (ra j a P e1 e2).same (s6.trans s8)
        · have h1 := (List.getElem?_eq_some_iff.mp e).1
          rw [List.length_dropLast] at h1
          rw [List.dropLast_eq_take, List.getElem?_take_of_lt (by omega)] at e
          exact oP j P e
      · obtain ⟨hB, Q, R, M2, N2, D, lR, nx⟩ := C.st i B0 B1 (by omega) (oP _ _ hB0) (oP _ _ hB1)
        rw [decide_eq_false (fun z => hB (List.map_eq_nil_iff.mp z))]
        refine iteF ?_
        dsimp only [tNext]
        refine ⟨_, rfl, _, rfl, lr, _, _, .ref x0, rfl, rfl, SqL.of (s6 _ _ e5), at2, _, rfl, _, rfl, lr, _, _, .ref x1, rfl, rfl, SqL.of (s6 _ _ e5), at1, ?_⟩
        refine ⟨x0, x1, B0, B1, Q, R, rfl, r0.same s6, r1'.same s6, D.d, D.s, fun t qa rr H7 s7 e7 rq rR => ?_⟩
        refine ⟨t, _, _, .ref rr, rfl, rfl, SqT.of e7, at_of (j := 1) rfl rfl, ?_⟩
        have lR2 := stripQ_len R
        have e57 := s7 _ _ (s6 _ _ e5)
        refine ⟨_, rfl, .inl ⟨rfl, _, SqL.of e57⟩, ?_⟩
        refine ⟨_, rfl, rr, stripQ R, M2, N2, rfl, rR, stripQ_id (stripQ_stp _), by omega, fun i => by rw [cf_stripQ]; exact D.f i, D.m0, D.m, D.n, fun l' H8 P c s8 rP p0 p1 => ?_⟩
        obtain ⟨zP, lP', oN⟩ := nx P c p0 p1
        refine ⟨_, rfl, (by show 2 ≤ sizeLine; decide), fun tp np => ?_⟩
        have etp : TR (upd H8 tp (HO.tup [V.int (-1), V.int 1])) tp (-1) := upd_same
        have s9 : Same H8 (upd H8 tp (HO.tup [V.int (-1), V.int 1])) := same_upd np
        dsimp only at etp ⊢
        generalize upd H8 tp (HO.tup [V.int (-1), V.int 1]) = H9 at etp s9 ⊢
        refine ⟨l', tp, P, -1, rfl, rP.same s9, etp, by omega, zP, (Hb.one.neg).sr (by decide), fun l2 H10 s10 r10 => ?_⟩
        have s510 : Same H5 H10 := s6.trans (s7.trans (s8.trans (s9.trans s10)))
        have e10 := s510 _ _ e5
        have rw10 : ∀ (i : Nat) (a : Addr) (P : List Rat), as[i]? = some a → Ps[i]? = some P → RL H10 a P := fun i a P e1 e2 => (ra i a P e1 e2).same s510
        refine ⟨lr, _, .ref l2, rfl, rfl, e10, (by rw [lm, sizeLine_eq]; omega), ?_⟩
        refine ⟨Ps ++ [stripQ (pscale P (-1))], _, _, rfl, fun b o e => ?_, Rws.push e10 la rw10 (by omega) r10, by rw [List.length_append, lP]; rfl, fun j P' e => ?_, by omega⟩
        · rw [upd_ne (ne_of_none e nlrH)]
          exact (s5.trans s510) _ _ e
        · by_cases hj : j < Ps.length
          · rw [List.getElem?_append_left hj] at e
            exact oP j P' e
          · have hj2 : j = Ps.length := by
              have := (List.getElem?_eq_some_iff.mp e).1
              rw [List.length_append, List.length_singleton] at this
              omega
            subst hj2
            rw [List.getElem?_append_right (Nat.le_refl _), Nat.sub_self] at e
            cases e
            rw [lP]
            exact oN
    · rintro σ H1 ⟨Ps, v2, v3, rfl, s5, rw5, lP, oP, hik⟩
      omega
end
end Vf
set_option maxRecDepth 100000
set_option maxHeartbeats 8000000
namespace Vf
open PySem PySem.Spec PyProof.Rows L2
def spPSign : Sp := fun vs H W _ => ∃ (l1 r : Addr) (A : List Rat) (x : Rat) (N : Nat), vs = [.ref l1, .ref r] ∧ RL H l1 A ∧ TR H r x ∧ A.length ≤ 16 ∧ (∀ i, (cf A i).den = 1 ∧ (cf A i).num.natAbs ≤ N) ∧ N ≤ 2 ^ 1000 ∧ Hb 60 x ∧
  ∀ (z : Int) (H' : Hp), Same H H' → (z : Rat) * (x.den : Rat) = ev A x * (x.den : Rat) ^ A.length → W (.int z) H'
theorem sgn_size {N X j : Nat} {t p n w : Int} (ht : t.natAbs ≤ N * (2 * X) ^ j) (hp : p.natAbs ≤ X) (hn : n.natAbs ≤ N) (hw : w.natAbs ≤ X ^ j) (hX : 0 < X) : (t * p + n * w).natAbs ≤ N * (2 * X) ^ (j + 1) := by
  have h1 : (t * p).natAbs ≤ N * (2 * X) ^ j * X := by rw [Int.natAbs_mul]; exact Nat.mul_le_mul ht hp
  have h2 : (n * w).natAbs ≤ N * X ^ j := by rw [Int.natAbs_mul]; exact Nat.mul_le_mul hn hw
  have h3 : X ^ j ≤ (2 * X) ^ j * X := Nat.le_trans (Nat.pow_le_pow_left (by omega) _) (Nat.le_mul_of_pos_right _ hX)
  have h4 : N * X ^ j ≤ N * ((2 * X) ^ j * X) := Nat.mul_le_mul_left _ h3
  have h5 : N * (2 * X) ^ (j + 1) = 2 * (N * (2 * X) ^ j * X) := by rw [Nat.pow_succ]; simp only [Nat.mul_assoc, Nat.mul_left_comm, Nat.mul_comm]
  have h6 : N * ((2 * X) ^ j * X) = N * (2 * X) ^ j * X := by rw [Nat.mul_assoc]
  have := Int.natAbs_add_le (t * p) (n * w)
  omega
section
variable {P : Program} {w : World} {K : PySem.W.Frag} {mg : Str → Option Value} {base : Heap} {CP CR CN CI : Addr}
abbrev sPSign : Stmt := topS 77
theorem scPSign : FnScope ["_law_one", "_law_point", "_law_total", "_law_power", "_law_number"] ["_law_one", "_law_point"] (defScope sPSign) := ⟨rfl, rfl, rfl, by decide +kernel, rfl, by decide +kernel, by decide +kernel⟩
theorem ok_psign {f : Addr} {fd : FuncData} (F : Fun K "_law_p_sign" "_law_p_sign" sPSign f fd) : FnOk P w K mg base CX0 1 f fd ["_law_one", "_law_point"] spPSign := by
  refine F.ok scPSign (fun vs H W E h => ?_) (fun cdv A0 outer s0 H vs W E hr h => ?_)
  · obtain ⟨l1, r, A, x, N, rfl, _⟩ := h
    rfl
  · obtain ⟨l1, r, A, x, N, rfl, ⟨as, e1, t1⟩, er, lA, hA, hN, hx, q⟩ := h
    refine ⟨_, (pss_cons (ps_asg (pe_tup (pa_cons pe_int (pa_cons pe_int pa_nil))) (pg_tup (by rfl) (pgs_cons (pg_name (i := 2) scPSign.nd rfl (Or.inl rfl)) (pgs_cons (pg_name (i := 3) scPSign.nd rfl (Or.inl rfl)) pgs_nil))))
  (pss_cons (ps_for PassesOwn.never rfl (pi_list (pe_revL (pv 0))) (pg_name (i := 4) scPSign.nd rfl (Or.inl rfl))
    (pss_cons (ps_set (i := 2) scPSign.nd rfl (Or.inl rfl) (pe_op op_add (pe_op op_mulW (pv 2) (pe_ix ix_tup (pv 1) pe_int (fun _ _ => rfl))) (pe_op op_mulW (pe_ix ix_tup (pv 4) pe_int (fun _ _ => rfl)) (pv 3))))
    (pss_one (ps_set (i := 3) scPSign.nd rfl (Or.inl rfl) (pe_op op_mulW (pv 3) (pe_ix ix_tup (pv 1) pe_int (fun _ _ => rfl)))))))
  (pss_one (ps_ret (pv 2))))), ?_⟩
    have n1 := t1.lenQ
    refine ⟨(by show 2 ≤ sizeLine; decide), fun t0 nt0 => ?_⟩
    have s1 : Same H (upd H t0 (HO.tup [V.int 0, V.int 1])) := same_upd nt0
    have et0 : upd H t0 (HO.tup [V.int 0, V.int 1]) t0 = some (HO.tup [V.int 0, V.int 1]) := upd_same
    generalize upd H t0 (HO.tup [V.int 0, V.int 1]) = H1 at s1 et0 ⊢
    refine ⟨t0, _, rfl, SqT.of et0, rfl, _, _, rfl, _, _, rfl, rfl, ?_⟩
    refine ⟨_, rfl, l1, _, rfl, SqL.of (s1 _ _ e1), fun lr nlr => ?_⟩
    have elr : upd H1 lr (HO.lst (as.map V.ref).reverse) lr = some (HO.lst (as.map V.ref).reverse) := upd_same
    have s2 : Same H1 (upd H1 lr (HO.lst (as.map V.ref).reverse)) := same_upd nlr
    generalize upd H1 lr (HO.lst (as.map V.ref).reverse) = H2 at elr s2 ⊢
    have s12 := s1.trans s2
    have t2 := t1.same s12
    have er2 := s12 _ _ er
    have hX : x.num.natAbs ≤ 2 ^ 60 ∧ ((x.den : Int)).natAbs ≤ 2 ^ 60 := ⟨hx.1, by rw [Int.natAbs_natCast]; exact hx.2⟩
    have pX : ∀ j, (((x.den : Int)) ^ j).natAbs ≤ (2 ^ 60) ^ j := fun j => by rw [Int.natAbs_pow]; exact Nat.pow_le_pow_left hX.2 _
    have bt : ∀ {t : Int} {j : Nat}, t.natAbs ≤ N * (2 * 2 ^ 60) ^ j → j ≤ 16 → t.natAbs < 2 ^ 8700 := fun {t j} h hj => by
      refine Nat.lt_of_le_of_lt h (Nat.lt_of_le_of_lt (Nat.mul_le_mul_right _ hN) ?_)
      rw [show 2 * 2 ^ 60 = 2 ^ 61 from by decide +kernel, ← Nat.pow_mul, ← Nat.pow_add]
      exact Nat.pow_lt_pow_right (by decide) (by omega)
    have bp : ∀ {j : Nat}, j ≤ 16 → (((x.den : Int)) ^ j).natAbs < 2 ^ 8700 := fun {j} hj => by
      refine Nat.lt_of_le_of_lt (pX j) ?_
      rw [← Nat.pow_mul]
      exact Nat.pow_lt_pow_right (by decide) (by omega)
    have b60 : ∀ {z : Int}, z.natAbs ≤ 2 ^ 60 → z.natAbs < 2 ^ 8700 := fun h => Nat.lt_of_le_of_lt h (Nat.pow_lt_pow_right (by decide) (by decide))
    have bn : ∀ {z : Int}, z.natAbs ≤ N → z.natAbs < 2 ^ 8700 := fun h => Nat.lt_of_le_of_lt (Nat.le_trans h hN) (Nat.pow_lt_pow_right (by decide) (by decide))
    refine ⟨lr, rfl, ⟨_, SqL.of elr⟩, for_list (K := K) (a := lr) (xs := (as.map V.ref).reverse) (fun j σ H' => ∃ (t : Int) (v4 : Option V), σ = [some (.ref l1), some (.ref r), some (.int t), some (.int ((x.den : Int) ^ j)), v4] ∧ H' = H2 ∧ t.natAbs ≤ N * (2 * 2 ^ 60) ^ j ∧ (t : Rat) * (x.den : Rat) = ev (A.drop (A.length - j)) x * (x.den : Rat) ^ j)
      ⟨0, none, by rw [Int.pow_zero]; rfl, rfl, Nat.zero_le _, ?_⟩ (fun j σ H' _ ⟨_, _, _, e, _⟩ => by rw [e]; exact SqL.of elr) ?_ ?_⟩
    · rw [Nat.sub_zero, List.drop_length]
      show ((0 : Int) : Rat) * _ = 0 * _
      rw [Rat.zero_mul]
      exact Rat.zero_mul _
    · rintro j y σ H' hj ⟨t, v4, rfl, rfl, ht, he⟩
      have hjl : j < A.length := by
        have := (List.getElem?_eq_some_iff.mp hj).1
        rw [List.length_reverse, List.length_map] at this
        omega
      rw [List.getElem?_reverse (by rw [List.length_map]; omega), List.length_map, n1] at hj
      obtain ⟨ra, g1, g2⟩ := t2.getQ (i := A.length - 1 - j) (by omega)
      rw [List.getElem?_map, g1] at hj
      cases hj
      obtain ⟨hd, hn⟩ := hA (A.length - 1 - j)
      refine ⟨_, rfl, _, rfl, r, _, _, .int x.num, rfl, rfl, SqT.of er2, at_of (j := 0) rfl rfl, _, _, rfl, rfl, big_mulW (bt ht (by omega)) (b60 hX.1), ?_⟩
      refine ⟨_, rfl, ra, _, _, .int (cf A (A.length - 1 - j)).num, rfl, rfl, SqT.of g2, at_of (j := 0) rfl rfl, _, rfl, _, _, rfl, rfl, big_mulW (bn hn) (bp (by omega)), _, _, rfl, rfl, ?_⟩
      refine ⟨_, rfl, _, rfl, r, _, _, .int (x.den : Int), rfl, rfl, SqT.of er2, at_of (j := 1) rfl rfl, _, _, rfl, rfl, big_mulW (bp (by omega)) (b60 hX.2), ?_⟩
      refine ⟨t * x.num + (cf A (A.length - 1 - j)).num * (x.den : Int) ^ j, some (.ref ra), by rw [Int.pow_succ]; rfl, rfl, sgn_size ht hX.1 hn (pX j) (by decide), ?_⟩
      have ed : A.drop (A.length - (j + 1)) = cf A (A.length - 1 - j) :: A.drop (A.length - j) := by
        rw [List.drop_eq_getElem_cons (show A.length - (j + 1) < A.length by omega), cf_lt (show A.length - 1 - j < A.length by omega), show A.length - (j + 1) + 1 = A.length - j by omega]
        congr 2
        omega
      rw [ed]
      show _ = (cf A (A.length - 1 - j) + x * ev (A.drop (A.length - j)) x) * (x.den : Rat) ^ (j + 1)
      have hc : cf A (A.length - 1 - j) = ((cf A (A.length - 1 - j)).num : Rat) := by
        have := num_den (cf A (A.length - 1 - j))
        rw [hd] at this
        rw [← this]
        exact (Rat.mul_one _).symm
      have hxq : x * (x.den : Rat) = (x.num : Rat) := num_den x
      rw [Rat.intCast_add, Rat.intCast_mul, Rat.intCast_mul, pow_castI, ← hc, ← hxq, Rat.pow_succ]
      show ((t : Rat) * (x * (x.den : Rat)) + cf A (A.length - 1 - j) * (x.den : Rat) ^ j) * (x.den : Rat) = _
      have : ((t : Rat) * (x * (x.den : Rat)) + cf A (A.length - 1 - j) * (x.den : Rat) ^ j) * (x.den : Rat) = ((t : Rat) * (x.den : Rat)) * x * (x.den : Rat) + cf A (A.length - 1 - j) * (x.den : Rat) ^ j * (x.den : Rat) := by grind
      rw [this, he]
      grind
    · rintro σ H' ⟨t, v4, rfl, rfl, ht, he⟩
      rw [List.length_reverse, List.length_map, n1, Nat.sub_self, List.drop_zero] at he
      exact ⟨_, rfl, q t H' s12 he⟩
end
end Vf
set_option maxRecDepth 100000
set_option maxHeartbeats 8000000
namespace Vf
open PySem PySem.Spec PyProof.Rows L2
def chgN (bs : List Bool) : Nat → Nat
  | 0 => 0
  | n + 1 => chgN bs n + if bs.getD n false = bs.getD (n + 1) false then 0 else 1
def sgB (vs : List Rat) : List Bool := (vs.filter (fun v => decide (v ≠ 0))).map fun v => decide (v < 0)
def chg (vs : List Rat) : Nat := chgN (sgB vs) ((sgB vs).length - 1)
def SmI (N : Nat) (P : List Rat) : Prop := P.length ≤ 16 ∧ ∀ i, (cf P i).den = 1 ∧ (cf P i).num.natAbs ≤ N
def spChg : Sp := fun vs H W _ => ∃ (l r : Addr) (Ps : List (List Rat)) (x : Rat) (N : Nat), vs = [.ref l, .ref r] ∧ Rws H l Ps ∧ TR H r x ∧ Ps.length ≤ 20 ∧ (∀ P ∈ Ps, SmI N P) ∧ N ≤ 2 ^ 1000 ∧ Hb 60 x ∧ ∀ H', Same H H' → W (.int (chg (Ps.map fun P => ev P x) : Nat)) H'
/-- a whole number of the sign of a ratio -/
def SgI (z : Int) (v : Rat) : Prop := (z = 0 ↔ v = 0) ∧ (z < 0 ↔ v < 0)
theorem pos_pow {a : Rat} (h : 0 < a) : ∀ n : Nat, 0 < a ^ n
  | 0 => by rw [Rat.pow_zero]; decide +kernel
  | n + 1 => by rw [Rat.pow_succ]; exact Rat.mul_pos (pos_pow h n) h
theorem neg_iff {a b : Rat} (hb : 0 < b) : a * b < 0 ↔ a < 0 := by
  constructor
  · intro h
    by_cases z : a < 0
    · exact z
    · exfalso
      have : 0 ≤ a * b := Rat.mul_nonneg (by grind) (by grind)
      grind
  · intro h
    have : 0 < (-a) * b := Rat.mul_pos (by grind) hb
    grind
theorem zero_iff {a b : Rat} (hb : 0 < b) : a * b = 0 ↔ a = 0 := by
  constructor
  · intro h
    rcases Rat.mul_eq_zero.mp h with z | z
    · exact z
    · rw [z] at hb
      exact absurd hb (by decide +kernel)
  · rintro rfl
    exact Rat.zero_mul _
theorem sgI_of {z : Int} {v q : Rat} {n : Nat} (hq : 0 < q) (h : (z : Rat) * q = v * q ^ n) : SgI z v := by
  have hz : (z = 0 ↔ (z : Rat) = 0) := by
    constructor
    · rintro rfl; rfl
    · intro h; exact_mod_cast h
  have hl : (z < 0 ↔ (z : Rat) < 0) := by
    constructor
    · intro h; exact_mod_cast h
    · intro h; exact_mod_cast h
  unfold SgI
  rw [hz, hl, ← zero_iff (a := (z : Rat)) hq, ← neg_iff (a := (z : Rat)) hq, h, zero_iff (pos_pow hq n), neg_iff (pos_pow hq n)]
  exact ⟨Iff.rfl, Iff.rfl⟩
theorem bl_ne (a b : Bool) {i : Decidable (V.bl a = V.bl b)} : (!@decide (V.bl a = V.bl b) i) = decide (a ≠ b) := by cases a <;> cases b <;> simp
theorem sg_lists {x : Rat} : ∀ {zs : List Int} {Ps : List (List Rat)}, zs.length = Ps.length → (∀ (j : Nat) (z : Int) (P : List Rat), zs[j]? = some z → Ps[j]? = some P → SgI z (ev P x)) → (zs.filter (fun z => decide (z ≠ 0))).map (fun z => decide (z < 0)) = sgB (Ps.map fun P => ev P x)
  | [], [], _, _ => rfl
  | z :: zs, P :: Ps, hl, h => by
    have ih := sg_lists (zs := zs) (Ps := Ps) (by simpa using hl) fun j z' P' e1 e2 => h (j + 1) z' P' e1 e2
    obtain ⟨h1, h2⟩ := h 0 z P rfl rfl
    unfold sgB at ih ⊢
    rw [List.map_cons, List.filter_cons, List.filter_cons]
    by_cases e : z = 0
    · have e2 := h1.mp e
      rw [if_neg (by simp [e]), if_neg (by simp [e2])]
      exact ih
    · have e2 : ev P x ≠ 0 := fun z' => e (h1.mpr z')
      rw [if_pos (by simp [e]), if_pos (by simp [e2]), List.map_cons, List.map_cons, ih]
      congr 1
      exact decide_eq_decide.mpr h2
section
variable {P : Program} {w : World} {K : PySem.W.Frag} {mg : Str → Option Value} {base : Heap} {CP CR CN CI : Addr}
abbrev sChg : Stmt := topS 78
theorem scChg : FnScope ["_law_row", "_law_point", "_law_signs", "_law_sign", "_law_one", "_law_a", "_law_b"] ["_law_row", "_law_point"] (defScope sChg) := ⟨rfl, rfl, rfl, by decide +kernel, rfl, by decide +kernel, by decide +kernel⟩
theorem ok_chg {f : Addr} {fd : FuncData} (F : Fun K "_law_changes" "_law_changes" sChg f fd) (T : Bk mg) (hzip : mg "zip" = none) (G__law_p_sign : Df P w K mg base "_law_p_sign" 1 ["_law_one", "_law_point"] spPSign) : FnOk P w K mg base CX0 3 f fd ["_law_row", "_law_point"] spChg := by
  refine F.ok scChg (fun vs H W E h => ?_) (fun cdv A0 outer s0 H vs W E hr h => ?_)
  · obtain ⟨l, r, Ps, x, N, rfl, _⟩ := h
    rfl
  · obtain ⟨l, r, Ps, x, N, rfl, hw, er, lP, hP, hN, hx, q⟩ := h
    refine ⟨_, (pss_cons (ps_setLc (i := 2) (own := [("_law_sign", 3)]) (g := (gName 3)) (tt := _) rfl scChg.nd rfl rfl (sw_true rfl rfl rfl (by decide +kernel)) (pi_seq (pe_lc (own := [("_law_one", 4)]) (g := (gName 4)) (tt := tYes) rfl scChg.nd (pi_seq (pv 0)) (blkOk_by (N := ["_law_row", "_law_point", "_law_signs", "_law_sign", "_law_one", "_law_a", "_law_b"]) (sc := defScope sChg) (by decide +kernel)) (fun _ _ _ _ _ => pg_name (i := 4) scChg.nd rfl (Or.inl rfl)) (fun _ _ _ _ _ => pts_nil) (fun _ _ _ _ _ => (pe_call G__law_p_sign.ok (hr.mono (by decide)) rfl G__law_p_sign.m G__law_p_sign.kp G__law_p_sign.b .nil pass0 (pa_cons (pv 4) (pa_cons (pv 1) pa_nil)))))) (blkOk_by (N := ["_law_row", "_law_point", "_law_signs", "_law_sign", "_law_one", "_law_a", "_law_b"]) (sc := defScope sChg) (by decide +kernel)) (fun _ _ _ _ _ => pg_name (i := 3) scChg.nd rfl (Or.inl rfl)) (fun _ _ _ _ _ => pts_one (pt_cmpR op_ne (pv 3) pe_int (nomark _))) (fun _ _ _ _ _ => (pv 3)))
  (pss_one (ps_ret (pe_callB call_len_seq (by rfl) T.len (by decide +kernel) (pa_cons (pe_lc (own := [("_law_a", 5), ("_law_b", 6)]) (g := (gTup K 2 (gCons (gName 5) (gCons (gName 6) gNil)))) (tt := _) rfl scChg.nd (pi_zipB (by rfl) hzip (pa_cons (pv 2) (pa_cons (pe_slice sl_list (pv 2) (po_some pe_int) po_none) pa_nil))) (blkOk_by (N := ["_law_row", "_law_point", "_law_signs", "_law_sign", "_law_one", "_law_a", "_law_b"]) (sc := defScope sChg) (by decide +kernel)) (fun _ _ _ _ _ => pg_tup rfl (pgs_cons (pg_name (i := 5) scChg.nd rfl (Or.inl rfl)) (pgs_cons (pg_name (i := 6) scChg.nd rfl (Or.inl rfl)) pgs_nil))) (fun _ _ _ _ _ => pts_one (pt_cmpR op_ne (pe_cmpR op_lt (pv 5) pe_int (nomark _)) (pe_cmpR op_lt (pv 6) pe_int (nomark _)) (nomark _))) (fun _ _ _ _ _ => pe_int)) pa_nil))))), ?_⟩
    obtain ⟨as, e1, la, ra⟩ := id hw
    have lm : (as.map V.ref).length = Ps.length := by rw [List.length_map, la]
    have x0 : (0 : Rat) < (x.den : Rat) := by exact_mod_cast x.den_pos
    refine ⟨_, rfl, l, rfl, lc_seq (xs := as.map V.ref) (.inl (SqL.of e1)) (fun D i H2 => Same H H2 ∧ ∃ zs : List Int, H2 D = some (.lst (zs.map V.int)) ∧ zs.length = i ∧ ∀ (j : Nat) (z : Int) (P : List Rat), zs[j]? = some z → Ps[j]? = some P → SgI z (ev P x)) ?_ ?_ ?_ ?_⟩
    · intro D hD
      exact ⟨same_upd hD, [], upd_same, rfl, fun j z P e => by cases e⟩
    · intro D i H2 hD ⟨s2, _⟩
      exact ⟨same_sqL s2, same_sqT s2⟩
    · intro D i y H2 hD hi ⟨s2, zs, eD, lz, hz⟩
      have hi2 : i < as.length := by
        have := (List.getElem?_eq_some_iff.mp hi).1
        rw [List.length_map] at this
        exact this
      obtain ⟨a, ha⟩ : ∃ x, as[i]? = some x := ⟨_, List.getElem?_eq_getElem hi2⟩
      obtain ⟨Pi, hPi⟩ : ∃ x, Ps[i]? = some x := ⟨_, List.getElem?_eq_getElem (by omega)⟩
      rw [List.getElem?_map, ha] at hi
      cases hi
      obtain ⟨k1, k2⟩ := hP Pi (List.mem_of_getElem? hPi)
      refine ⟨rfl, ?_⟩
      refine ⟨_, rfl, _, rfl, a, r, Pi, x, N, rfl, (ra i a Pi ha hPi).same s2, s2 _ _ er, k1, k2, hN, hx, fun z H3 s3 hzz => ?_⟩
      have eD3 := s3 _ _ eD
      refine ⟨_, eD3, ?_, (fun b o e => ?_), zs ++ [z], ?_, ?_, fun j z' P' e1 e2 => ?_⟩
      · rw [List.length_map, sizeLine_eq]
        omega
      · rw [upd_ne (ne_of_none e hD)]
        exact s3 _ _ (s2 _ _ e)
      · rw [upd_same, List.map_append]
        rfl
      · rw [List.length_append, lz]
        rfl
      · by_cases hj : j < zs.length
        · rw [List.getElem?_append_left hj] at e1
          exact hz j z' P' e1 e2
        · have hj2 : j = zs.length := by
            have := (List.getElem?_eq_some_iff.mp e1).1
            rw [List.length_append, List.length_singleton] at this
            omega
          subst hj2
          rw [List.getElem?_append_right (Nat.le_refl _), Nat.sub_self] at e1
          rw [lz] at e2
          rw [hPi] at e2
          cases e1
          cases e2
          exact sgI_of x0 hzz
    · intro D H2 hD ⟨s2, zs, eD, lz, hz⟩
      rw [lm] at lz
      refine ⟨D, rfl, lc_seq (xs := zs.map V.int) (.inl (SqL.of eD)) (fun D' i H3 => Same H2 H3 ∧ H3 D' = some (.lst (((zs.take i).filter (fun z => decide (z ≠ 0))).map V.int))) ?_ ?_ ?_ ?_⟩
      · intro D' hD'
        exact ⟨same_upd hD', upd_same⟩
      · intro D' i H3 hD' ⟨s3, _⟩
        exact ⟨same_sqL s3, same_sqT s3⟩
      · intro D' i y H3 hD' hi ⟨s3, e3⟩
        rw [List.getElem?_map] at hi
        cases hz0 : zs[i]? with
        | none => rw [hz0] at hi; cases hi
        | some z =>
          rw [hz0] at hi
          cases hi
          have il := (List.getElem?_eq_some_iff.mp hz0).1
          have tk : zs.take (i + 1) = zs.take i ++ [z] := by
            rw [List.take_succ, hz0]
            rfl
          refine ⟨rfl, ?_⟩
          refine ⟨_, rfl, ?_⟩
          dsimp only [tC]
          refine rNe_int (fun e => ?_) (fun e => ?_)
          · refine iteF ?_
            refine ⟨s3, ?_⟩
            rw [tk, List.filter_append, e3, show List.filter (fun z => decide (z ≠ 0)) [z] = [] from by rw [e]; rfl, List.append_nil]
          · refine iteT ?_
            refine ⟨_, rfl, _, e3, ?_, (fun b o eb => ?_), ?_⟩
            · have h1 := List.length_filter_le (fun z => decide (z ≠ 0)) (zs.take i)
              rw [List.length_take] at h1
              rw [List.length_map, sizeLine_eq]
              omega
            · rw [upd_ne (ne_of_none eb hD')]
              exact s3 _ _ eb
            · rw [upd_same, tk, List.filter_append, List.map_append, show List.filter (fun z => decide (z ≠ 0)) [z] = [z] from by simp [e]]
              rfl
      · intro D' H3 hD' ⟨s3, e3⟩
        rw [List.length_map, List.take_length] at e3
        have s23 := s2.trans s3
        generalize hfs : zs.filter (fun z => decide (z ≠ 0)) = fs at e3
        have lfs : fs.length ≤ 20 := by
          have := List.length_filter_le (fun z => decide (z ≠ 0)) zs
          rw [← hfs]
          omega
        refine ⟨_, rfl, _, rfl, _, rfl, ?_⟩
        refine ⟨D', _, rfl, SqL.of e3, fun S nS => ?_⟩
        rw [cut1]
        have eS : upd H3 S (HO.lst ((fs.map V.int).drop 1)) S = some (HO.lst ((fs.map V.int).drop 1)) := upd_same
        have s4 : Same H3 (upd H3 S (HO.lst ((fs.map V.int).drop 1))) := same_upd nS
        generalize upd H3 S (HO.lst ((fs.map V.int).drop 1)) = H4 at eS s4 ⊢
        have e4 := s4 _ _ e3
        have ln : (fs.map V.int).length = fs.length := List.length_map ..
        refine ⟨true, true, D', S, fs.map V.int, (fs.map V.int).drop 1, rfl, SqL.of e4, SqL.of eS, fun D5 nD5 => lc_zipM (fs.length - 1) (by rw [List.length_drop, ln]; omega) (fun i H5 => Same H4 H5 ∧ H5 D5 = some (.lst (List.replicate (chgN (fs.map fun z => decide (z < 0)) i) (V.int 1)))) ⟨same_upd nD5, upd_same⟩ (fun i H5 ⟨s5, _⟩ => ⟨SqL.of (s5 _ _ e4), SqL.of (s5 _ _ eS)⟩) ?_ ?_⟩
        · intro i x' y' T' H5 hi' hx' hy' ⟨s5, e5⟩ nT
          rw [List.getElem?_map] at hx'
          rw [List.getElem?_drop, List.getElem?_map, Nat.add_comm] at hy'
          obtain ⟨za, ha⟩ : ∃ z, fs[i]? = some z := ⟨_, List.getElem?_eq_getElem (by omega)⟩
          obtain ⟨zb, hb⟩ : ∃ z, fs[i + 1]? = some z := ⟨_, List.getElem?_eq_getElem (by omega)⟩
          rw [ha] at hx'
          rw [hb] at hy'
          cases hx'
          cases hy'
          have sT : Same H5 (upd H5 T' (.tup [.int za, .int zb])) := same_upd nT
          have nTD : D5 ≠ T' := ne_of_none e5 nT
          refine ⟨T', _, rfl, SqT.of upd_same, rfl, ?_⟩
          refine ⟨_, _, rfl, _, _, rfl, rfl, rfl, ?_⟩
          refine ⟨_, rfl, _, _, rfl, rfl, _, rfl, _, _, rfl, rfl, ?_⟩
          have e5' := (upd_ne nTD (H := H5) (o := .tup [.int za, .int zb])).trans e5
          have ga : (fs.map fun z => decide (z < 0)).getD i false = decide (za < 0) := by rw [List.getD_eq_getElem?_getD, List.getElem?_map, ha]; rfl
          have gb : (fs.map fun z => decide (z < 0)).getD (i + 1) false = decide (zb < 0) := by rw [List.getD_eq_getElem?_getD, List.getElem?_map, hb]; rfl
          have st : chgN (fs.map fun z => decide (z < 0)) (i + 1) = chgN (fs.map fun z => decide (z < 0)) i + if decide (za < 0) = decide (zb < 0) then 0 else 1 := by
            show _ + (if _ = _ then 0 else 1) = _
            rw [ga, gb]
          have sz : ∀ n, chgN (fs.map fun z => decide (z < 0)) n ≤ n := fun n => by
            induction n with
            | zero => exact Nat.le_refl _
            | succ n ih =>
              show _ + (if _ then 0 else 1) ≤ _
              split <;> omega
          have sS : ∀ b o, H4 b = some o → b ≠ D5 := fun b o e => ne_of_none e nD5
          refine ⟨rfl, decide (decide (za < 0) ≠ decide (zb < 0)), ?_, ?_⟩
          · exact congrArg V.bl (bl_ne _ _)
          · by_cases hc : decide (za < 0) = decide (zb < 0)
            · rw [decide_eq_false (fun z => z hc)]
              refine iteF ?_
              refine ⟨s5.trans sT, ?_⟩
              rw [st, if_pos hc]
              exact e5'
            · rw [decide_eq_true hc]
              refine iteT ?_
              refine ⟨_, e5', ?_, (fun b o e => ?_), ?_⟩
              · have := sz i
                rw [List.length_replicate, sizeLine_eq]
                omega
              · rw [upd_ne (sS b o e)]
                exact sT _ _ (s5 _ _ e)
              · rw [upd_same, st, if_neg hc, List.replicate_succ']
        · intro H5 ⟨s5, e5⟩
          refine ⟨D5, _, rfl, .inl (SqL.of e5), ?_⟩
          rw [List.length_replicate]
          have e6 : chgN (fs.map fun z => decide (z < 0)) (fs.length - 1) = chg (Ps.map fun P => ev P x) := by
            have hb : (fs.map fun z => decide (z < 0)) = sgB (Ps.map fun P => ev P x) := by
              rw [← hfs]
              exact sg_lists lz hz
            unfold chg
            rw [← hb, List.length_map]
          rw [e6]
          exact q H5 (s23.trans (s4.trans s5))
end
end Vf
set_option maxRecDepth 100000
set_option maxHeartbeats 8000000
namespace Vf
open PySem PySem.Spec PyProof.Rows L2
theorem hor_ev (x : Rat) : ∀ a : List Rat, hor x a = ev a x
  | [] => rfl
  | c :: l => by
    show hor x l * x + c = c + x * ev l x
    rw [hor_ev x l]
    grind
/-- all that is known of a polynomial, its simple part and the changes of its chain -/
structure Dat (A S : List Rat) (V : Rat → Nat) where
  I : Nat → List Rat → List Rat → Prop
  K : Nat
  G0 : List Rat
  Q : List Rat
  R : List Rat
  Ok : Nat → List Rat → Prop
  Kc : Nat
  M : Nat
  N : Nat
  M' : Nat
  N' : Nat
  Nn : Nat
  l2 : 2 ≤ A.length
  l40 : A.length ≤ 40
  sA : SrL A
  i0 : I 0 A (stripQ (pslope A))
  cm : CmI I K G0
  dv : Dvd A G0 Q R
  ds : DvS A G0 Q R
  eS : S = stripQ Q
  lS : 2 ≤ S.length
  lS2 : S.length ≤ 16
  mb : M ≤ 2 ^ 1100
  nb : N ≤ 2 ^ 1100
  ca : ChA Ok S M N M' N'
  ci : ChI Ok Kc
  kc : Kc ≤ 19
  nn : Nn ≤ 2 ^ 1000
  sm : ∀ i P, Ok i P → SmI Nn P
  ne : ∀ i P, i ≤ Kc → Ok i P → P ≠ []
  ev : ∀ (Ps : List (List Rat)) (x : Rat), Ps.length = Kc + 1 → (∀ (i : Nat) P, Ps[i]? = some P → Ok i P) → chg (Ps.map fun P => ev P x) = V x
def zeroB (S : List Rat) (x : Rat) : Bool := decide (ev S x = 0)
def manyF (V : Rat → Nat) (z : Rat → Bool) (a b : Rat) : Int := (V a : Int) - (V b : Int) + if z a = true then 1 else 0
def spCount : Sp := fun vs H W _ => ∃ (l r1 r2 : Addr) (A S : List Rat) (V : Rat → Nat) (lo hi : Rat) (_ : Dat A S V), vs = [.ref l, .ref r1, .ref r2] ∧ RL H l A ∧ TR H r1 lo ∧ TR H r2 hi ∧ Hb 60 lo ∧ Hb 60 hi ∧ ∀ H', Same H H' → W (.int (manyF V (zeroB S) lo hi)) H'
theorem num_zero (q : Rat) : decide (q.num = 0) = decide (q = 0) := decide_eq_decide.mpr Rat.num_eq_zero
section
variable {P : Program} {w : World} {K : PySem.W.Frag} {mg : Str → Option Value} {base : Heap} {CP CR CN CI : Addr}
/-- the value of the simple part at a point -/
theorem at_simple {A S : List Rat} {V : Rat → Nat} (D : Dat A S V) {x : Rat} (hx : Hb 60 x) {H : Hp} {l r : Addr} {Q : VK} {E : XK} (hl : RL H l S) (hr : TR H r x) (q : ∀ (r' : Addr) (H' : Hp), Same H H' → TR H' r' (ev S x) → Q (.ref r') H') : spLPA [.ref l, .ref r] H Q E := by
  have l2 := D.lS2
  refine ⟨l, r, S, x, D.M, D.N, x.den, 2 ^ 60, 2 ^ 60, rfl, hl, hr, D.ca.f, hx.fr, D.ca.m0, x.den_pos, hx.2, Nat.le_refl _, ?_, ?_, Nat.pow_lt_pow_right (by decide) (by decide), fun r' H' s e => q r' H' s (by rw [← hor_ev]; exact e)⟩
  · refine Nat.lt_of_le_of_lt (Nat.mul_le_mul_right _ D.mb) ?_
    rw [← Nat.pow_mul, ← Nat.pow_add]
    exact Nat.pow_lt_pow_right (by decide) (by omega)
  · refine Nat.lt_of_le_of_lt (Nat.mul_le_mul D.nb (Nat.mul_le_mul_right _ (show S.length + 1 ≤ 2 ^ 5 by omega))) ?_
    rw [← Nat.pow_mul, ← Nat.pow_add, ← Nat.pow_add]
    exact Nat.pow_lt_pow_right (by decide) (by omega)
abbrev sCount : Stmt := topS 79
theorem scCount : FnScope ["_law_one", "_law_low", "_law_high", "_law_simple", "_law_row"] ["_law_one", "_law_low", "_law_high"] (defScope sCount) := ⟨rfl, rfl, rfl, by decide +kernel, rfl, by decide +kernel, by decide +kernel⟩
theorem ok_count {f : Addr} {fd : FuncData} (F : Fun K "_law_count" "_law_count" sCount f fd) (T : Bk mg) (G__law_p_simple : Df P w K mg base "_law_p_simple" 7 ["_law_one"] spSimple) (G__law_chain : Df P w K mg base "_law_chain" 6 ["_law_one"] spChain) (G__law_changes : Df P w K mg base "_law_changes" 3 ["_law_row", "_law_point"] spChg) (G__law_p_at : Df P w K mg base "_law_p_at" 4 ["_law_one", "_law_point"] spLPA) : FnOk P w K mg base CX0 8 f fd ["_law_one", "_law_low", "_law_high"] spCount := by
  refine F.ok scCount (fun vs H W E h => ?_) (fun cdv A0 outer s0 H vs W E hr h => ?_)
  · obtain ⟨l, r1, r2, A, S, V, lo, hi, D, rfl, _⟩ := h
    rfl
  · obtain ⟨l, r1, r2, A, S, V, lo, hi, D, rfl, rA, t1, t2, h1, h2, q⟩ := h
    refine ⟨_, (pss_cons (ps_set (i := 3) scCount.nd rfl (Or.inl rfl) (pe_call G__law_p_simple.ok (hr.mono (by decide)) rfl G__law_p_simple.m G__law_p_simple.kp G__law_p_simple.b .nil pass0 (pa_cons (pv 0) pa_nil)))
  (pss_cons (ps_if (pt_cmpR op_lt (pe_callB call_len_seq (by rfl) T.len (by decide +kernel) (pa_cons (pv 3) pa_nil)) pe_int (nomark _))
    (pss_one (ps_ret pe_int))
    pss_nil)
  (pss_cons (ps_set (i := 4) scCount.nd rfl (Or.inl rfl) (pe_call G__law_chain.ok (hr.mono (by decide)) rfl G__law_chain.m G__law_chain.kp G__law_chain.b .nil pass0 (pa_cons (pv 3) pa_nil)))
  (pss_one (ps_ret (pe_op op_add (pe_op op_sub (pe_call G__law_changes.ok (hr.mono (by decide)) rfl G__law_changes.m G__law_changes.kp G__law_changes.b .nil pass0 (pa_cons (pv 4) (pa_cons (pv 1) pa_nil))) (pe_call G__law_changes.ok (hr.mono (by decide)) rfl G__law_changes.m G__law_changes.kp G__law_changes.b .nil pass0 (pa_cons (pv 4) (pa_cons (pv 2) pa_nil)))) (pe_callTy call_int1 (by rfl) T.int (by decide +kernel) (pa_cons (pe_cmpR op_eq (pe_ix (r := rIxT K) ix_tup (pe_call G__law_p_at.ok (hr.mono (by decide)) rfl G__law_p_at.m G__law_p_at.kp G__law_p_at.b .nil pass0 (pa_cons (pv 3) (pa_cons (pv 1) pa_nil))) pe_int (fun _ _ => rfl)) pe_int (nomark _)) pa_nil)))))))), ?_⟩
    have l2 := D.lS
    refine ⟨_, rfl, l, A, D.I, D.K, D.G0, D.Q, D.R, rfl, rA, D.l2, D.l40, D.sA, D.i0, D.cm, D.dv, D.ds, fun ls H1 s1 rS => ?_⟩
    rw [← D.eS] at rS
    obtain ⟨ss, eS, tS⟩ := id rS
    have nS := tS.lenQ
    refine ⟨_, rfl, ls, _, rfl, .inl (SqL.of eS), _, _, rfl, rfl, _, rfl, ?_⟩
    rw [List.length_map, nS, decide_eq_false (show ¬ ((S.length : Nat) : Int) < 2 by omega)]
    refine iteF ?_
    dsimp only [tNext]
    refine ⟨_, rfl, ls, S, D.Ok, D.Kc, D.M, D.N, D.M', D.N', rfl, rS, D.ca, D.ci, fun lr Ps H2 s2 rw2 lP oP => ?_⟩
    have s12 := s1.trans s2
    have hsm : ∀ P ∈ Ps, SmI D.Nn P := fun P hP => by
      obtain ⟨i, hi⟩ := List.getElem?_of_mem hP
      exact D.sm i P (oP i P hi)
    have hk := D.kc
    refine ⟨_, rfl, _, rfl, lr, r1, Ps, lo, D.Nn, rfl, rw2, s12 _ _ t1, by omega, hsm, D.nn, h1, fun H3 s3 => ?_⟩
    rw [D.ev Ps lo lP oP]
    refine ⟨_, rfl, _, rfl, lr, r2, Ps, hi, D.Nn, rfl, rw2.same s3, (s12.trans s3) _ _ t2, by omega, hsm, D.nn, h2, fun H4 s4 => ?_⟩
    rw [D.ev Ps hi lP oP]
    have s14 := s12.trans (s3.trans s4)
    refine ⟨_, _, rfl, rfl, ?_⟩
    refine ⟨_, rfl, _, rfl, ?_⟩
    dsimp only [tNil]
    refine at_simple D h1 (rS.same (s2.trans (s3.trans s4))) (s14 _ _ t1) fun r5 H5 s5 t5 => ?_
    refine ⟨r5, _, _, .int (ev S lo).num, rfl, rfl, SqT.of t5, at_of (j := 0) rfl rfl, ?_⟩
    refine ⟨rfl, .inr ⟨_, rfl, _, _, rfl, rfl, ?_⟩⟩
    have e : decide (L2.V.int (ev S lo).num = L2.V.int 0) = zeroB S lo := by
      unfold zeroB
      rw [← num_zero]
      exact decide_eq_decide.mpr ⟨fun z => L2.V.int.inj z, fun z => by rw [z]⟩
    have q := q H5 (s14.trans s5)
    unfold manyF at q
    rw [← e] at q
    exact q
end
end Vf
set_option maxRecDepth 100000
set_option maxHeartbeats 8000000
namespace Vf
open PySem PySem.Spec PyProof.Rows L2
def hvC (ok z : Rat → Bool) (b : Rat) : Nat → Rat → Option Rat
  | 0, _ => none
  | n + 1, h => if ok h = true then (if z h = true then hvC ok z b n ((h + b) / 2) else some h) else none
def runC (ok z : Rat → Bool) (V : Rat → Nat) : Nat → List (Rat × Rat) → List (Rat × Rat) → Option (List (Rat × Rat))
  | 0, _, _ => none
  | _ + 1, [], f => some f
  | n + 1, (a, b) :: w, f =>
    if ok a = true ∧ ok b = true then
      if 1 < manyF V z a b then
        match hvC ok z b 30 ((a + b) / 2) with
        | none => none
        | some h => runC ok z V n ((a, h) :: (h, b) :: w) f
      else runC ok z V n w (if manyF V z a b = 1 then f ++ [(a, b)] else f)
    else none
def PrA (H : Hp) (a : Addr) (p : Rat × Rat) : Prop := ∃ ra rb, H a = some (.tup [.ref ra, .ref rb]) ∧ TR H ra p.1 ∧ TR H rb p.2
inductive PrT (H : Hp) : List Addr → List (Rat × Rat) → Prop
  | nil : PrT H [] []
  | cons {a as p ps} : PrA H a p → PrT H as ps → PrT H (a :: as) (p :: ps)
theorem PrT.imp {H H' : Hp} (h : ∀ a p, PrA H a p → PrA H' a p) : ∀ {as ps}, PrT H as ps → PrT H' as ps
  | _, _, .nil => .nil
  | _, _, .cons x t => .cons (h _ _ x) (t.imp h)
theorem PrT.snoc {H : Hp} {a : Addr} {p : Rat × Rat} (x : PrA H a p) : ∀ {as ps}, PrT H as ps → PrT H (as ++ [a]) (ps ++ [p])
  | _, _, .nil => .cons x .nil
  | _, _, .cons y t => .cons y (t.snoc x)
theorem PrT.len {H : Hp} : ∀ {as ps}, PrT H as ps → as.length = ps.length
  | _, _, .nil => rfl
  | _, _, .cons _ t => by rw [List.length_cons, List.length_cons, t.len]
theorem PrT.unsnoc {H : Hp} {p : Rat × Rat} : ∀ {ps : List (Rat × Rat)} {as : List Addr}, PrT H as (ps ++ [p]) → ∃ bs b, as = bs ++ [b] ∧ PrT H bs ps ∧ PrA H b p
  | [], _, .cons x .nil => ⟨[], _, rfl, .nil, x⟩
  | _ :: _, _, .cons x t => by
    obtain ⟨bs, b, rfl, t2, y⟩ := PrT.unsnoc t
    exact ⟨_ :: bs, b, rfl, .cons x t2, y⟩
theorem PrA.same {H H' : Hp} (s : Same H H') (a : Addr) (p : Rat × Rat) : PrA H a p → PrA H' a p := fun ⟨ra, rb, h1, h2, h3⟩ => ⟨ra, rb, s _ _ h1, s _ _ h2, s _ _ h3⟩
theorem PrA.put {H : Hp} {l : Addr} {xs ys : List V} (e : H l = some (.lst xs)) (a : Addr) (p : Rat × Rat) : PrA H a p → PrA (upd H l (.lst ys)) a p := fun ⟨ra, rb, h1, h2, h3⟩ => by
  have k : ∀ {c : Addr} {vs : List V}, H c = some (.tup vs) → upd H l (.lst ys) c = some (.tup vs) := fun {c vs} h => by
    rw [upd_ne (ne_of h e (by intro z; cases z))]
    exact h
  exact ⟨ra, rb, k h1, k h2, k h3⟩
def ppD (p : Rat × Rat) : PyData := .tuple [pairD (pq p.1), pairD (pq p.2)]
theorem PrT.dts {K : PySem.W.Frag} {H : Hp} : ∀ {as ps}, PrT H as ps → Dts K H (as.map V.ref) (ps.map ppD)
  | _, _, .nil => .nil
  | _, _, .cons ⟨ra, rb, h1, h2, h3⟩ t => .cons (.tup (SqT.of h1) (.cons (dt_pair h2) (.cons (dt_pair h3) .nil))) t.dts
theorem pp_plain (ps : List (Rat × Rat)) : (PyData.list (ps.map ppD)).plain = true := by
  show PyData.plainAll (ps.map ppD) = true
  induction ps with
  | nil => rfl
  | cons p ps ih =>
    rw [List.map_cons]
    simp only [PyData.plainAll, ih, Bool.and_true]
    rfl
theorem pp_depth (ps : List (Rat × Rat)) : (PyData.list (ps.map ppD)).depth ≤ 60 := by
  have key : PyData.depthAll (ps.map ppD) ≤ 10 := by
    induction ps with
    | nil => exact Nat.zero_le _
    | cons p ps ih =>
      rw [List.map_cons]
      have h : (ppD p).depth ≤ 10 := by simp [ppD, pairD, PyData.depth, PyData.depthAll]
      simp only [PyData.depthAll]
      omega
  simp only [PyData.depth]
  omega
theorem pp_eqv (ps : List (Rat × Rat)) : PyData.eqv (.list (ps.map ppD)) (.list []) = decide (ps = []) := by
  cases ps with
  | nil => rfl
  | cons p ps => simp [PyData.eqv, PyData.eqvAll]
def Prs (H : Hp) (l : Addr) (ps : List (Rat × Rat)) : Prop := ∃ as, H l = some (.lst (as.map V.ref)) ∧ PrT H as ps
def KK (a b : Addr) (H H' : Hp) : Prop := ∀ c o, c ≠ a → c ≠ b → H c = some o → H' c = some o
theorem KK.same {a b : Addr} {H H' H2 : Hp} (k : KK a b H H') (s : Same H' H2) : KK a b H H2 := fun c o n1 n2 e => s _ _ (k c o n1 n2 e)
theorem KK.put {a b l : Addr} {H H' : Hp} {o : HO} (k : KK a b H H') (h : l = a ∨ l = b ∨ H l = none) : KK a b H (upd H' l o) := fun c o n1 n2 e => by
  have n : c ≠ l := by
    rintro rfl
    rcases h with h | h | h
    · exact n1 h
    · exact n2 h
    · rw [h] at e
      cases e
  rw [upd_ne n]
  exact k c o n1 n2 e
def spCells : Sp := fun vs H W _ => ∃ (l r1 r2 : Addr) (A S : List Rat) (V : Rat → Nat) (lo hi : Rat) (_ : Dat A S V) (ok : Rat → Bool) (F : List (Rat × Rat)), vs = [.ref l, .ref r1, .ref r2] ∧ RL H l A ∧ TR H r1 lo ∧ TR H r2 hi ∧ (∀ x, ok x = true → Hb 60 x) ∧ runC ok (zeroB S) V 4500 [(lo, hi)] [] = some F ∧ ∀ (l' : Addr) (H' : Hp), Same H H' → Prs H' l' F → W (.ref l') H'
section
variable {P : Program} {w : World} {K : PySem.W.Frag} {mg : Str → Option Value} {base : Heap} {CP CR CN CI : Addr}
abbrev sCells : Stmt := topS 80
theorem scCells : FnScope ["_law_one", "_law_low", "_law_high", "_law_simple", "_law_found", "_law_waiting", "_law_row", "_law_lap", "_law_a", "_law_b", "_law_many", "_law_half", "_law_k"] ["_law_one", "_law_low", "_law_high"] (defScope sCells) := ⟨rfl, rfl, rfl, by decide +kernel, rfl, by decide +kernel, by decide +kernel⟩
theorem ok_cells {f : Addr} {fd : FuncData} (F : Fun K "_law_cells" "_law_cells" sCells f fd) (T : Bk mg) (hm1 : M1 base) (G__law_p_simple : Df P w K mg base "_law_p_simple" 7 ["_law_one"] spSimple) (G__law_chain : Df P w K mg base "_law_chain" 6 ["_law_one"] spChain) (G__law_changes : Df P w K mg base "_law_changes" 3 ["_law_row", "_law_point"] spChg) (G__law_p_at : Df P w K mg base "_law_p_at" 4 ["_law_one", "_law_point"] spLPA) (G__law_middle : Df P w K mg base "_law_middle" 4 ["_law_one", "_law_two"] spMid) : FnOk P w K mg base CX0 8 f fd ["_law_one", "_law_low", "_law_high"] spCells := by
  refine F.ok scCells (fun vs H W E h => ?_) (fun cdv A0 outer s0 H vs W E hr h => ?_)
  · obtain ⟨l, r1, r2, A, S, V, lo, hi, D, ok, Fd, rfl, _⟩ := h
    rfl
  · obtain ⟨l, r1, r2, A, S, Vf, lo, hi, D, ok, Fd, rfl, rA, t1, t2, hok, hrun, q⟩ := h
    refine ⟨_, (pss_cons (ps_par3 (i := 3) (j := 4) (l := 5) (by rfl) scCells.nd rfl rfl rfl (by decide) (by decide) (by decide) rfl rfl rfl (pa_cons (pe_call G__law_p_simple.ok (hr.mono (by decide)) rfl G__law_p_simple.m G__law_p_simple.kp G__law_p_simple.b .nil pass0 (pa_cons (pv 0) pa_nil)) (pa_cons (pe_lst pa_nil) (pa_cons (pe_lst (pa_cons (pe_tup (pa_cons (pv 1) (pa_cons (pv 2) pa_nil))) pa_nil)) pa_nil))) (by rfl))
  (pss_cons (ps_if (pt_cmpR op_lt (pe_callB call_len_seq (by rfl) T.len (by decide +kernel) (pa_cons (pv 3) pa_nil)) pe_int (nomark _))
    (pss_one (ps_ret (pe_lst pa_nil)))
    pss_nil)
  (pss_cons (ps_set (i := 6) scCells.nd rfl (Or.inl rfl) (pe_call G__law_chain.ok (hr.mono (by decide)) rfl G__law_chain.m G__law_chain.kp G__law_chain.b .nil pass0 (pa_cons (pv 3) pa_nil)))
  (pss_cons (ps_for PassesOwn.never rfl (pi_range1 (by rfl) T.range (pa_cons pe_int pa_nil)) (pg_name (i := 7) scCells.nd rfl (Or.inl rfl))
    (pss_cons (ps_if (pt_cmpR (op_eqT hr.units hm1) (pv 5) (pe_lst pa_nil) (nomark _))
      (pss_one ps_break)
      pss_nil)
    (pss_cons (ps_asg (pe_bm0 PySem.F.plainAttrs_list PySem.F.slot_list_pop PySem.F.type_list_pop mt_pop (pv 5)) (pg_tup (by rfl) (pgs_cons (pg_name (i := 8) scCells.nd rfl (Or.inl rfl)) (pgs_cons (pg_name (i := 9) scCells.nd rfl (Or.inl rfl)) pgs_nil))))
    (pss_cons (ps_set (i := 10) scCells.nd rfl (Or.inl rfl) (pe_op op_add (pe_op op_sub (pe_call G__law_changes.ok (hr.mono (by decide)) rfl G__law_changes.m G__law_changes.kp G__law_changes.b .nil pass0 (pa_cons (pv 6) (pa_cons (pv 8) pa_nil))) (pe_call G__law_changes.ok (hr.mono (by decide)) rfl G__law_changes.m G__law_changes.kp G__law_changes.b .nil pass0 (pa_cons (pv 6) (pa_cons (pv 9) pa_nil)))) (pe_callTy call_int1 (by rfl) T.int (by decide +kernel) (pa_cons (pe_cmpR op_eq (pe_ix (r := rIxT K) ix_tup (pe_call G__law_p_at.ok (hr.mono (by decide)) rfl G__law_p_at.m G__law_p_at.kp G__law_p_at.b .nil pass0 (pa_cons (pv 3) (pa_cons (pv 8) pa_nil))) pe_int (fun _ _ => rfl)) pe_int (nomark _)) pa_nil))))
    (pss_cons (ps_if (pt_cmpR op_eq (pv 10) pe_int (nomark _))
      (pss_one (ps_expr (pe_bm PySem.F.plainAttrs_list PySem.F.slot_list_append PySem.F.type_list_append mt_append (pv 4) (pa_cons (pe_tup (pa_cons (pv 8) (pa_cons (pv 9) pa_nil))) pa_nil))))
      pss_nil)
    (pss_one (ps_if (pt_cmpR op_gt (pv 10) pe_int (nomark _))
      (pss_cons (ps_set (i := 11) scCells.nd rfl (Or.inl rfl) (pe_call G__law_middle.ok (hr.mono (by decide)) rfl G__law_middle.m G__law_middle.kp G__law_middle.b .nil pass0 (pa_cons (pv 8) (pa_cons (pv 9) pa_nil))))
      (pss_cons (ps_for PassesOwn.never rfl (pi_range1 (by rfl) T.range (pa_cons pe_int pa_nil)) (pg_name (i := 12) scCells.nd rfl (Or.inl rfl))
        (pss_cons (ps_if (pt_cmpR op_ne (pe_ix (r := rIxT K) ix_tup (pe_call G__law_p_at.ok (hr.mono (by decide)) rfl G__law_p_at.m G__law_p_at.kp G__law_p_at.b .nil pass0 (pa_cons (pv 3) (pa_cons (pv 11) pa_nil))) pe_int (fun _ _ => rfl)) pe_int (nomark _))
          (pss_one ps_break)
          pss_nil)
        (pss_one (ps_set (i := 11) scCells.nd rfl (Or.inl rfl) (pe_call G__law_middle.ok (hr.mono (by decide)) rfl G__law_middle.m G__law_middle.kp G__law_middle.b .nil pass0 (pa_cons (pv 11) (pa_cons (pv 9) pa_nil)))))))
      (pss_one (ps_set (i := 5) scCells.nd rfl (Or.inl rfl) (pe_op op_cat (pv 5) (pe_lst (pa_cons (pe_tup (pa_cons (pv 11) (pa_cons (pv 9) pa_nil))) (pa_cons (pe_tup (pa_cons (pv 8) (pa_cons (pv 11) pa_nil))) pa_nil))))))))
      pss_nil)))))))
  (pss_one (ps_ret (pv 4))))))), ?_⟩
    have l2 := D.lS
    refine ⟨_, rfl, l, A, D.I, D.K, D.G0, D.Q, D.R, rfl, rA, D.l2, D.l40, D.sA, D.i0, D.cm, D.dv, D.ds, fun ls H1 s1 rS => ?_⟩
    rw [← D.eS] at rS
    obtain ⟨ss, eS, tS⟩ := id rS
    have nS := tS.lenQ
    refine ⟨(by show 0 ≤ sizeLine; decide), fun lf nlf => ?_⟩
    have elf : upd H1 lf (HO.lst []) lf = some (HO.lst []) := upd_same
    have s2 : Same H1 (upd H1 lf (HO.lst [])) := same_upd nlf
    generalize upd H1 lf (HO.lst []) = H2 at elf s2 ⊢
    refine ⟨_, rfl, _, rfl, (by show 2 ≤ sizeLine; decide), fun tp ntp => ?_⟩
    have etp : upd H2 tp (HO.tup [V.ref r1, V.ref r2]) tp = some (HO.tup [V.ref r1, V.ref r2]) := upd_same
    have s3 : Same H2 (upd H2 tp (HO.tup [V.ref r1, V.ref r2])) := same_upd ntp
    generalize upd H2 tp (HO.tup [V.ref r1, V.ref r2]) = H3 at etp s3 ⊢
    refine ⟨(by show 1 ≤ sizeLine; decide), fun lw nlw => ?_⟩
    have elw : upd H3 lw (HO.lst [V.ref tp]) lw = some (HO.lst (([tp] : List Addr).map V.ref)) := upd_same
    have s4 : Same H3 (upd H3 lw (HO.lst [V.ref tp])) := same_upd nlw
    generalize upd H3 lw (HO.lst [V.ref tp]) = H4 at elw s4 ⊢
    refine ⟨_, _, _, rfl, ?_⟩
    have s14 := s2.trans (s3.trans s4)
    have s04 := s1.trans s14
    have nlfH : H lf = none := s1.free nlf
    have nlwH : H lw = none := (s1.trans (s2.trans s3)).free nlw
    have elf4 := (s3.trans s4) _ _ elf
    have lfw : lf ≠ lw := ne_of_none (s3 _ _ elf) nlw
    have pw4 : PrA H4 tp (lo, hi) := ⟨r1, r2, s4 _ _ etp, s04 _ _ t1, s04 _ _ t2⟩
    refine ⟨_, rfl, ls, _, rfl, .inl (SqL.of (s14 _ _ eS)), _, _, rfl, rfl, _, rfl, ?_⟩
    rw [List.length_map, nS, decide_eq_false (show ¬ ((S.length : Nat) : Int) < 2 by omega)]
    refine iteF ?_
    dsimp only [tNext]
    refine ⟨_, rfl, ls, S, D.Ok, D.Kc, D.M, D.N, D.M', D.N', rfl, rS.same s14, D.ca, D.ci, fun lr Ps H5 s5 rw5 lP oP => ?_⟩
    have hk := D.kc
    have s05 := s04.trans s5
    have rS5 := rS.same (s14.trans s5)
    have elw5 := s5 _ _ elw
    have elf5 := s5 _ _ elf4
    have pw5 := PrA.same s5 _ _ pw4
    have hsm : ∀ P ∈ Ps, SmI D.Nn P := fun P hP => by
      obtain ⟨i, hi⟩ := List.getElem?_of_mem hP
      exact D.sm i P (oP i P hi)
    -- what is away from the two lists
    have lsf : ls ≠ lf := ne_of_none eS nlf
    have lsw : ls ≠ lw := ne_of_none ((s2.trans s3) _ _ eS) nlw
    obtain ⟨ps, e5r, lps, rps⟩ := id rw5
    have rowf : ∀ {r : Addr} {P : List Rat}, RL H5 r P → P ≠ [] → r ≠ lf ∧ r ≠ lw := fun {r P} hr hne => by
      obtain ⟨bs, g1, g2⟩ := hr
      have n1 := g2.lenQ
      have hp := List.length_pos_iff.mpr hne
      refine ⟨?_, ?_⟩
      · rintro rfl
        rw [elf5] at g1
        injection g1 with g1
        injection g1 with g1
        have : bs.length = 0 := by rw [← List.length_map (f := V.ref), ← g1]; rfl
        omega
      · rintro rfl
        rw [elw5] at g1
        injection g1 with g1
        injection g1 with g1
        have e : ([tp] : List Addr) = bs := List.map_inj_right (fun _ _ z => by cases z; rfl) |>.mp g1
        subst e
        obtain ⟨rt, k3, k4⟩ := g2.getQ (i := 0) (by omega)
        cases k3
        obtain ⟨ra, rb, h1, _, _⟩ := pw5
        unfold TR at k4
        rw [h1] at k4
        cases k4
    have nePs : ∀ (i : Nat) (P : List Rat), Ps[i]? = some P → P ≠ [] := fun i P h => D.ne i P (by have := (List.getElem?_eq_some_iff.mp h).1; omega) (oP i P h)
    have hlr : lr ≠ lf ∧ lr ≠ lw := by
      have l0 : 0 < ps.length := by omega
      have g := rps 0 ps[0] Ps[0] (List.getElem?_eq_getElem l0) (List.getElem?_eq_getElem (by omega))
      obtain ⟨bs, g1, g2⟩ := g
      refine ⟨?_, ?_⟩
      · rintro rfl
        rw [elf5] at e5r
        injection e5r with e5r
        injection e5r with e5r
        have : ps.length = 0 := by rw [← List.length_map (f := V.ref), ← e5r]; rfl
        omega
      · rintro rfl
        rw [elw5] at e5r
        injection e5r with e5r
        injection e5r with e5r
        have e : ([tp] : List Addr) = ps := List.map_inj_right (fun _ _ z => by cases z; rfl) |>.mp e5r
        subst e
        obtain ⟨ra, rb, h1, _, _⟩ := pw5
        have g1 : H5 tp = _ := g1
        rw [h1] at g1
        cases g1
    have kTup : ∀ {H' : Hp} {c : Addr} {vs : List V}, KK lw lf H5 H' → H5 c = some (.tup vs) → H' c = some (.tup vs) := fun {H' c vs} k e => k c _ (ne_of e elw5 (by intro z; cases z)) (ne_of e elf5 (by intro z; cases z)) e
    have kRL : ∀ {H' : Hp} {r : Addr} {P : List Rat}, KK lw lf H5 H' → r ≠ lf → r ≠ lw → RL H5 r P → RL H' r P := fun {H' r P} k n1 n2 h => by
      obtain ⟨bs, g1, g2⟩ := h
      exact ⟨bs, k _ _ n2 n1 g1, g2.imp fun a p z => kTup k z⟩
    have kRws : ∀ {H' : Hp}, KK lw lf H5 H' → Rws H' lr Ps := fun {H'} k => ⟨ps, k _ _ hlr.2 hlr.1 e5r, lps, fun i a P e1 e2 => by
      have g := rps i a P e1 e2
      have n := rowf g (nePs i P e2)
      exact kRL k n.1 n.2 g⟩
    have kS : ∀ {H' : Hp}, KK lw lf H5 H' → RL H' ls S := fun k => kRL k lsf lsw rS5
    have kH : ∀ {H' : Hp}, KK lw lf H5 H' → Same H H' := fun {H'} k b o e => k b o (ne_of_none e nlwH) (ne_of_none e nlfH) (s05 _ _ e)
    refine ⟨5000, rfl, by decide, by decide, for_range (lo := 0) (n := 5000) (fun i σ H' => ∃ (lv : Addr) (w f : List (Rat × Rat)) (as bs : List Addr) (n : Nat) (v7 v8 v9 v10 v11 v12 : Option V), σ = [some (.ref l), some (.ref r1), some (.ref r2), some (.ref ls), some (.ref lf), some (.ref lv), some (.ref lr), v7, v8, v9, v10, v11, v12] ∧ KK lw lf H5 H' ∧ (∃ o, H' lw = some o) ∧ (lv = lw ∨ H5 lv = none) ∧ lv ≠ lf ∧ H' lv = some (.lst (as.map V.ref)) ∧ PrT H' as w.reverse ∧ H' lf = some (.lst (bs.map V.ref)) ∧ PrT H' bs f ∧ runC ok (zeroB S) Vf n w f = some Fd ∧ n + i ≤ 4500 ∧ w.length ≤ i + 1 ∧ f.length ≤ i)
      ⟨lw, [(lo, hi)], [], [tp], [], 4500, none, none, none, none, none, none, rfl, fun c o _ _ e => e, ⟨_, elw5⟩, .inl rfl, Ne.symm lfw, elw5, .cons pw5 .nil, elf5, .nil, hrun, by decide, Nat.le_refl 1, Nat.zero_le _⟩ ?_ ?_⟩
    · rintro i σ H6 hi ⟨lv, w, f, as, bs, n, v7, v8, v9, v10, v11, v12, rfl, kk, hw6, hlv, lvf, elv, tw, elf6, tf, hr, hn, lw1, lf1⟩
      refine ⟨_, rfl, (by show 0 ≤ sizeLine; decide), fun l0 n0 => ?_⟩
      have s6 : Same H6 (upd H6 l0 (HO.lst [])) := same_upd n0
      have e0 : upd H6 l0 (HO.lst []) l0 = some (HO.lst []) := upd_same
      generalize upd H6 l0 (HO.lst []) = H7 at s6 e0 ⊢
      have kk7 := kk.same s6
      have elv7 := s6 _ _ elv
      have elf7 := s6 _ _ elf6
      have tw7 := tw.imp (PrA.same s6)
      have tf7 := tf.imp (PrA.same s6)
      have hw7 : ∃ o, H7 lw = some o := by
        obtain ⟨o, e⟩ := hw6
        exact ⟨o, s6 _ _ e⟩
      refine ⟨.list (w.reverse.map ppD), .list [], .lst (SqL.of elv7) tw7.dts, .lst (SqL.of e0) .nil, pp_plain _, (by rfl), pp_depth _, _, rfl, ?_⟩
      rw [pp_eqv]
      match w, n, hr with
      | _, 0, hr => cases hr
      | [], n + 1, hr =>
        rw [decide_eq_true (by rfl)]
        refine iteT ?_
        have e : f = Fd := by
          unfold runC at hr
          exact Option.some.inj hr
        subst e
        exact ⟨_, rfl, q lf H7 (kH kk7) ⟨bs, elf7, tf7⟩⟩
      | (a, b) :: w, n + 1, hr =>
        rw [decide_eq_false (by simp)]
        refine iteF ?_
        dsimp only [tNext]
        rw [List.reverse_cons] at tw7
        obtain ⟨cs, c, rfl, tw8, pc⟩ := tw7.unsnoc
        unfold runC at hr
        have hcs : cs.length = w.length := by rw [tw8.len, List.length_reverse]
        split at hr
        case isFalse => cases hr
        case isTrue hab =>
        obtain ⟨ha, hb⟩ := hab
        have ha := hok a ha
        have hb := hok b hb
        refine ⟨_, rfl, .inl ⟨rfl, _, SqL.of elv7⟩, lv, _, .ref c, rfl, rfl, elv7, (by simp), ?_⟩
        have edl : ((cs ++ [c]).map V.ref).dropLast = cs.map V.ref := by simp
        rw [edl]
        have kk8 : KK lw lf H5 (upd H7 lv (HO.lst (cs.map V.ref))) := kk7.put (hlv.elim .inl fun z => .inr (.inr z))
        have elv8 : upd H7 lv (HO.lst (cs.map V.ref)) lv = some (HO.lst (cs.map V.ref)) := upd_same
        have elf8 : upd H7 lv (HO.lst (cs.map V.ref)) lf = some (HO.lst (bs.map V.ref)) := by rw [upd_ne (Ne.symm lvf)]; exact elf7
        have hw8 : ∃ o, upd H7 lv (HO.lst (cs.map V.ref)) lw = some o := by
          by_cases e : lw = lv
          · rw [e]
            exact ⟨_, upd_same⟩
          · rw [upd_ne e]
            exact hw7
        have tw9 := tw8.imp (PrA.put (ys := cs.map V.ref) elv7)
        have tf9 := tf7.imp (PrA.put (ys := cs.map V.ref) elv7)
        have pc9 := PrA.put (ys := cs.map V.ref) elv7 _ _ pc
        generalize upd H7 lv (HO.lst (cs.map V.ref)) = H8 at kk8 elv8 elf8 hw8 tw9 tf9 pc9 ⊢
        obtain ⟨ra, rb, ec, ea, eb⟩ := id pc9
        refine ⟨c, _, rfl, SqT.of ec, rfl, _, _, rfl, _, _, rfl, rfl, ?_⟩
        -- many
        refine ⟨_, rfl, _, rfl, lr, ra, Ps, a, D.Nn, rfl, kRws kk8, ea, by omega, hsm, D.nn, ha, fun H9 s9 => ?_⟩
        rw [D.ev Ps a lP oP]
        have kk9 := kk8.same s9
        refine ⟨_, rfl, _, rfl, lr, rb, Ps, b, D.Nn, rfl, kRws kk9, s9 _ _ eb, by omega, hsm, D.nn, hb, fun H10 s10 => ?_⟩
        rw [D.ev Ps b lP oP]
        have s910 := s9.trans s10
        have kk10 := kk9.same s10
        refine ⟨_, _, rfl, rfl, ?_⟩
        refine ⟨_, rfl, _, rfl, ?_⟩
        dsimp only [tNil]
        refine at_simple D ha (kS kk10) (s910 _ _ ea) fun r11 H11 s11 e11 => ?_
        refine ⟨r11, _, _, .int (ev S a).num, rfl, rfl, SqT.of e11, at_of (j := 0) rfl rfl, ?_⟩
        refine ⟨rfl, .inr ⟨_, rfl, _, _, rfl, rfl, ?_⟩⟩
        have ez : decide (L2.V.int (ev S a).num = L2.V.int 0) = zeroB S a := by
          unfold zeroB
          rw [← num_zero]
          exact decide_eq_decide.mpr ⟨fun z => L2.V.int.inj z, fun z => by rw [z]⟩
        rw [ez]
        dsimp only
        have em : (Vf a : Int) - (Vf b : Int) + (if zeroB S a = true then 1 else 0) = manyF Vf (zeroB S) a b := rfl
        rw [em]
        have s811 := s910.trans s11
        have kk11 := kk10.same s11
        have elv11 := s811 _ _ elv8
        have elf11 := s811 _ _ elf8
        have tw11 := tw9.imp (PrA.same s811)
        have tf11 := tf9.imp (PrA.same s811)
        have ea11 := s811 _ _ ea
        have eb11 := s811 _ _ eb
        have hw11 : ∃ o, H11 lw = some o := by
          obtain ⟨o, e⟩ := hw8
          exact ⟨o, s811 _ _ e⟩
        generalize manyF Vf (zeroB S) a b = m at hr ⊢
        by_cases m1 : m = 1
        · subst m1
          rw [if_neg (by decide), if_pos rfl] at hr
          refine ⟨_, rfl, rfl, _, rfl, ?_⟩
          rw [decide_eq_true rfl]
          refine iteT ?_
          refine ⟨_, rfl, .inl ⟨rfl, _, SqL.of elf11⟩, ?_⟩
          refine ⟨_, rfl, _, rfl, (by show 2 ≤ sizeLine; decide), fun tq ntq => ?_⟩
          have etq : upd H11 tq (HO.tup [V.ref ra, V.ref rb]) tq = some (HO.tup [V.ref ra, V.ref rb]) := upd_same
          have s12 : Same H11 (upd H11 tq (HO.tup [V.ref ra, V.ref rb])) := same_upd ntq
          dsimp only at etq ⊢
          generalize upd H11 tq (HO.tup [V.ref ra, V.ref rb]) = H12 at etq s12 ⊢
          have elf12 := s12 _ _ elf11
          have elv12 := s12 _ _ elv11
          have pq12 : PrA H12 tq (a, b) := ⟨ra, rb, etq, s12 _ _ ea11, s12 _ _ eb11⟩
          refine ⟨lf, _, .ref tq, rfl, rfl, elf12, ?_, ?_⟩
          · rw [List.length_map, tf.len, sizeLine_eq]
            omega
          refine ⟨_, rfl, _, _, rfl, rfl, _, rfl, ?_⟩
          rw [decide_eq_false (by decide)]
          refine iteF ?_
          have hw12 : ∃ o, upd H12 lf (HO.lst (bs.map V.ref ++ [V.ref tq])) lw = some o := by
            rw [upd_ne (Ne.symm lfw)]
            obtain ⟨o, e⟩ := hw11
            exact ⟨o, s12 _ _ e⟩
          exact ⟨lv, w, f ++ [(a, b)], cs, bs ++ [tq], n, _, _, _, _, _, _, rfl, (kk11.same s12).put (.inr (.inl rfl)), hw12, hlv, lvf, by rw [upd_ne lvf]; exact elv12, (tw11.imp (PrA.same s12)).imp (PrA.put elf12), by rw [upd_same, List.map_append]; rfl, ((tf11.imp (PrA.same s12)).imp (PrA.put elf12)).snoc (PrA.put elf12 _ _ pq12), hr, by omega, by simp at lw1; omega, by rw [List.length_append]; show _ + 1 ≤ _; omega⟩
        · rw [if_neg m1] at hr
          refine ⟨_, rfl, rfl, _, rfl, ?_⟩
          rw [decide_eq_false (fun z => m1 (L2.V.int.inj z))]
          refine iteF ?_
          dsimp only [tNext]
          refine ⟨_, rfl, _, _, rfl, rfl, _, rfl, ?_⟩
          by_cases m2 : 1 < m
          · rw [if_pos m2] at hr
            rw [decide_eq_true m2]
            refine iteT ?_
            have hsr : ∀ {x : Rat}, Hb 60 x → Sr x := fun h => h.sr (by decide)
            have hsum : ∀ {x y : Rat}, Hb 60 x → Hb 60 y → Sr (x + y) := fun h1 h2 => (h1.add h2).sr (by decide)
            refine ⟨_, rfl, _, rfl, ra, rb, a, b, rfl, ea11, eb11, hsr ha, hsr hb, hsum ha hb, fun rh H12 s12 eh => ?_⟩
            cases hv : hvC ok (zeroB S) b 30 ((a + b) / 2) with
            | none => rw [hv] at hr; cases hr
            | some hf =>
            rw [hv] at hr
            refine ⟨30, rfl, by decide, by decide, for_range (lo := 0) (n := 30) (fun j σ H' => ∃ (rh : Addr) (h : Rat) (v12 : Option V), σ = [some (.ref l), some (.ref r1), some (.ref r2), some (.ref ls), some (.ref lf), some (.ref lv), some (.ref lr), some (.int (0 + (i : Int))), some (.ref ra), some (.ref rb), some (.int m), some (.ref rh), v12] ∧ Same H11 H' ∧ TR H' rh h ∧ hvC ok (zeroB S) b (30 - j) h = some hf) ⟨rh, _, v12, rfl, s12, eh, hv⟩ ?_ ?_⟩
            · rintro j σ H' hj ⟨rh, h, v12, rfl, sh, eh, hvj⟩
              obtain ⟨k, hk2⟩ : ∃ k, 30 - j = k + 1 := ⟨29 - j, by omega⟩
              have hk3 : 30 - (j + 1) = k := by omega
              rw [hk2] at hvj
              unfold hvC at hvj
              split at hvj
              case isFalse => cases hvj
              case isTrue hoh =>
              have hh := hok h hoh
              refine ⟨_, rfl, _, rfl, ?_⟩
              dsimp only [tNil]
              refine at_simple D hh (kS (kk11.same sh)) eh fun r13 H13 s13 e13 => ?_
              refine ⟨r13, _, _, .int (ev S h).num, rfl, rfl, SqT.of e13, at_of (j := 0) rfl rfl, ?_⟩
              have ez : decide (L2.V.int (ev S h).num = L2.V.int 0) = zeroB S h := by
                unfold zeroB
                rw [← num_zero]
                exact decide_eq_decide.mpr ⟨fun z => L2.V.int.inj z, fun z => by rw [z]⟩
              refine ⟨rfl, _, rfl, ?_⟩
              rw [ez]
              have s1113 := sh.trans s13
              cases hz : zeroB S h with
              | true =>
                rw [hz, if_pos rfl] at hvj
                refine iteF ?_
                dsimp only [tNext]
                refine ⟨_, rfl, _, rfl, rh, rb, h, b, rfl, s13 _ _ eh, s1113 _ _ eb11, hsr hh, hsr hb, hsum hh hb, fun rh2 H14 s14 eh2 => ?_⟩
                exact ⟨rh2, _, _, rfl, s1113.trans s14, eh2, by rw [hk3]; exact hvj⟩
              | false =>
                rw [hz, if_neg (by decide)] at hvj
                have eh0 : h = hf := Option.some.inj hvj
                subst eh0
                refine iteT ?_
                have hs : Hb 60 h := hh
                have kk13 := kk11.same s1113
                have elv13 := s1113 _ _ elv11
                have eh13 := s13 _ _ eh
                have ea13 := s1113 _ _ ea11
                have eb13 := s1113 _ _ eb11
                refine ⟨_, rfl, _, rfl, _, rfl, (by show 2 ≤ sizeLine; decide), fun q1 nq1 => ?_⟩
                have eq1 : upd H13 q1 (HO.tup [V.ref rh, V.ref rb]) q1 = some (HO.tup [V.ref rh, V.ref rb]) := upd_same
                have s14 : Same H13 (upd H13 q1 (HO.tup [V.ref rh, V.ref rb])) := same_upd nq1
                dsimp only at eq1 ⊢
                generalize upd H13 q1 (HO.tup [V.ref rh, V.ref rb]) = H14 at eq1 s14 ⊢
                refine ⟨_, rfl, _, rfl, (by show 2 ≤ sizeLine; decide), fun q2 nq2 => ?_⟩
                have eq2 : upd H14 q2 (HO.tup [V.ref ra, V.ref rh]) q2 = some (HO.tup [V.ref ra, V.ref rh]) := upd_same
                have s15 : Same H14 (upd H14 q2 (HO.tup [V.ref ra, V.ref rh])) := same_upd nq2
                dsimp only at eq2 ⊢
                generalize upd H14 q2 (HO.tup [V.ref ra, V.ref rh]) = H15 at eq2 s15 ⊢
                refine ⟨(by show 2 ≤ sizeLine; decide), fun l2 nl2 => ?_⟩
                have el2 : upd H15 l2 (HO.lst [V.ref q1, V.ref q2]) l2 = some (HO.lst [V.ref q1, V.ref q2]) := upd_same
                have s16 : Same H15 (upd H15 l2 (HO.lst [V.ref q1, V.ref q2])) := same_upd nl2
                generalize upd H15 l2 (HO.lst [V.ref q1, V.ref q2]) = H16 at el2 s16 ⊢
                have s1316 := s14.trans (s15.trans s16)
                have elv16 := s1316 _ _ elv13
                refine ⟨lv, l2, _, _, rfl, rfl, elv16, el2, ?_, fun lv2 nlv2 => ?_⟩
                · rw [List.length_map, sizeLine_eq, hcs]
                  simp at lw1
                  show w.length + 2 ≤ _
                  omega
                have s1116 := s1113.trans s1316
                have s17 : Same H16 (upd H16 lv2 (HO.lst (cs.map V.ref ++ [V.ref q1, V.ref q2]))) := same_upd nlv2
                have elv2 : upd H16 lv2 (HO.lst (cs.map V.ref ++ [V.ref q1, V.ref q2])) lv2 = some (HO.lst (((cs ++ [q1]) ++ [q2]).map V.ref)) := by rw [upd_same, List.map_append, List.map_append, List.append_assoc]; rfl
                generalize upd H16 lv2 (HO.lst (cs.map V.ref ++ [V.ref q1, V.ref q2])) = H17 at s17 elv2 ⊢
                have s1117 := s1116.trans s17
                have p1 : PrA H17 q1 (h, b) := ⟨rh, rb, s17 _ _ (s16 _ _ (s15 _ _ eq1)), s17 _ _ (s1316 _ _ eh13), s1117 _ _ eb11⟩
                have p2 : PrA H17 q2 (a, h) := ⟨ra, rh, s17 _ _ (s16 _ _ eq2), s1117 _ _ ea11, s17 _ _ (s1316 _ _ eh13)⟩
                have elf16 := s1116 _ _ elf11
                have n5 : H5 lv2 = none := by
                  cases e : H5 lv2 with
                  | none => rfl
                  | some o =>
                    exfalso
                    by_cases e1 : lv2 = lw
                    · obtain ⟨o2, e2⟩ := hw11
                      have := s1116 _ _ e2
                      rw [e1, this] at nlv2
                      cases nlv2
                    · by_cases e2 : lv2 = lf
                      · rw [e2, elf16] at nlv2
                        cases nlv2
                      · have := (kk11.same s1116) _ _ e1 e2 e
                        rw [this] at nlv2
                        cases nlv2
                have hw17 : ∃ o, H17 lw = some o := by
                  obtain ⟨o, e⟩ := hw11
                  exact ⟨o, s1117 _ _ e⟩
                refine ⟨lv2, (a, h) :: (h, b) :: w, f, (cs ++ [q1]) ++ [q2], bs, n, _, _, _, _, _, _, rfl, kk11.same s1117, hw17, .inr n5, (ne_of_none elf16 nlv2).symm, elv2, ?_, s1117 _ _ elf11, tf11.imp (PrA.same s1117), hr, by omega, ?_, by omega⟩
                · rw [List.reverse_cons, List.reverse_cons]
                  exact ((tw11.imp (PrA.same s1117)).snoc p1).snoc p2
                · simp at lw1 ⊢
                  omega
            · rintro σ H' ⟨rh, h, v12, rfl, sh, eh, hvj⟩
              rw [Nat.sub_self] at hvj
              cases hvj
          · rw [if_neg m2] at hr
            rw [decide_eq_false m2]
            refine iteF ?_
            exact ⟨lv, w, f, cs, bs, n, _, _, _, _, _, _, rfl, kk11, hw11, hlv, lvf, elv11, tw11, elf11, tf11, hr, by omega, by simp at lw1; omega, by omega⟩
    · rintro σ H6 ⟨lv, w, f, as, bs, n, v7, v8, v9, v10, v11, v12, rfl, kk, hw6, hlv, lvf, elv, tw, elf6, tf, hr, hn, lw1, lf1⟩
      omega
end
end Vf
set_option maxRecDepth 100000
namespace Vf
theorem strip_same {a b : List Rat} (ha : stripQ a = a) (hb : stripQ b = b) (h : ∀ x, ev a x = ev b x) : a = b := by
  have e := stripQ_ext (ev_inj fun x _ => h x)
  rw [ha, hb] at e
  exact e
theorem Fr.up {M N k m : Nat} {q : Rat} (h : Fr (M * 2 ^ k) (N * 2 ^ k) q) (hk : k ≤ m) : Fr (M * 2 ^ m) (N * 2 ^ m) q := by
  have e : 2 ^ m = 2 ^ k * 2 ^ (m - k) := by rw [← Nat.pow_add, show k + (m - k) = m by omega]
  have z := h.scale (2 ^ (m - k))
  rw [Nat.mul_assoc, Nat.mul_assoc, ← e] at z
  exact z
end Vf
set_option maxRecDepth 100000
set_option maxHeartbeats 8000000
namespace Vf
open PySem PySem.Spec PyProof.Rows L2
/-- a point of the interval, of the grid of halves -/
structure Pt (lo hi : Rat) (M N j : Nat) (x : Rat) : Prop where
  l : lo ≤ x
  h : x ≤ hi
  f : Fr (M * 2 ^ j) (N * 2 ^ j) x
theorem Pt.up {lo hi x : Rat} {M N j k : Nat} (h : Pt lo hi M N j x) (hk : j ≤ k) : Pt lo hi M N k x := ⟨h.l, h.h, Fr.up h.f hk⟩
theorem Pt.mid {lo hi x y : Rat} {M N j : Nat} (h : Pt lo hi M N j x) (g : Pt lo hi M N j y) : Pt lo hi M N (j + 1) ((x + y) / 2) := by
  have h1 := h.l
  have h2 := h.h
  have g1 := g.l
  have g2 := g.h
  have e : (x + y) / 2 * 2 = x + y := Rat.div_mul_cancel (by decide +kernel)
  refine ⟨by grind, by grind, ?_⟩
  obtain ⟨n, e1, hn⟩ := h.f.add g.f
  refine ⟨n, ?_, ?_⟩
  · have e2 : ((M * 2 ^ (j + 1) : Nat) : Rat) = ((M * 2 ^ j : Nat) : Rat) * 2 := by
      rw [Nat.pow_succ, ← Nat.mul_assoc]
      exact_mod_cast rfl
    rw [e2]
    have e3 : (x + y) / 2 * (((M * 2 ^ j : Nat) : Rat) * 2) = (x + y) / 2 * 2 * ((M * 2 ^ j : Nat) : Rat) := by grind
    rw [e3, e]
    exact e1
  · rw [Nat.pow_succ, ← Nat.mul_assoc]
    omega
theorem Pt.hb {lo hi x : Rat} {M N j k : Nat} (h : Pt lo hi M N j x) (hM : 0 < M) (h1 : M * 2 ^ j ≤ 2 ^ k) (h2 : N * 2 ^ j ≤ 2 ^ k) : Hb k x := Hb.of h.f (Nat.mul_pos hM (Nat.pow_pos (by decide))) h1 h2
structure Blw (A S : List Rat) (V : Rat → Nat) (lo hi : Rat) (M N J : Nat) (ok : Rat → Bool) (F : List (Rat × Rat)) : Prop where
  hok : ∀ x, ok x = true → Hb 60 x
  run : runC ok (zeroB S) V 4500 [(lo, hi)] [] = some F
  lF : F.length ≤ 100
  pF : ∀ p ∈ F, Pt lo hi M N J p.1 ∧ Pt lo hi M N J p.2
  pl : Pt lo hi M N J lo
  ph : Pt lo hi M N J hi
  m0 : 0 < M
  m : M * 2 ^ (J + 3) ≤ 2 ^ 100
  n : N * 2 ^ (J + 3) ≤ 2 ^ 100
  nn : ∀ x, lo ≤ x → x ≤ hi → 0 ≤ ev A x
  la : A.length ≤ 15
  fa : ∃ M' N', (∀ i, Fr M' N' (cf A i)) ∧ 0 < M' ∧ M' ≤ 2 ^ 1000 ∧ N' ≤ 2 ^ 1000
theorem PrT.at {H : Hp} {a : Addr} {p : Rat × Rat} : ∀ {as ps} {i : Nat}, PrT H as ps → as[i]? = some a → ps[i]? = some p → PrA H a p
  | _, _, 0, .cons x _, e1, e2 => by cases e1; cases e2; exact x
  | _, _, i + 1, .cons _ t, e1, e2 => PrT.at (i := i) t e1 e2
def spBelow (nv : Bool) : Sp := fun vs H W _ => ∃ (l r1 r2 : Addr) (A S : List Rat) (V : Rat → Nat) (lo hi : Rat) (_ : Dat A S V) (M N J : Nat) (ok : Rat → Bool) (F : List (Rat × Rat)), vs = [.ref l, .ref r1, .ref r2] ∧ RL H l A ∧ TR H r1 lo ∧ TR H r2 hi ∧ Blw A S V lo hi M N J ok F ∧ ∀ (H' : Hp), Same H H' → W (if nv = true then .bl true else .non) H'
theorem nn_num {q : Rat} (h : 0 ≤ q) : ¬ q.num < 0 := by
  have := Rat.num_nonneg.mpr h
  omega
section
variable {P : Program} {w : World} {K : PySem.W.Frag} {mg : Str → Option Value} {base : Heap} {CP CR CN CI : Addr}
abbrev sBelow : Stmt := topS 81
theorem scBelow : FnScope ["_law_one", "_law_low", "_law_high", "_law_cells_here", "_law_points", "_law_a", "_law_b", "_law_k", "_law_point"] ["_law_one", "_law_low", "_law_high"] (defScope sBelow) := ⟨rfl, rfl, rfl, by decide +kernel, rfl, by decide +kernel, by decide +kernel⟩
theorem ok_below {f : Addr} {fd : FuncData} (F : Fun K "_law_below_at" "_law_below_at" sBelow f fd) (T : Bk mg) (hm1 : M1 base) (hzip : mg "zip" = none) (G__law_cells : Df P w K mg base "_law_cells" 8 ["_law_one", "_law_low", "_law_high"] spCells) (G__law_sorted : Df P w K mg base "_law_sorted" 3 ["_law_some"] (spSort K)) (G__law_p_at : Df P w K mg base "_law_p_at" 4 ["_law_one", "_law_point"] spLPA) (G__law_middle : Df P w K mg base "_law_middle" 4 ["_law_one", "_law_two"] spMid) : FnOk P w K mg base CX0 9 f fd ["_law_one", "_law_low", "_law_high"] (spBelow false) := by
  refine F.ok scBelow (fun vs H W E h => ?_) (fun cdv A0 outer s0 H vs W E hr h => ?_)
  · obtain ⟨l, r1, r2, A, S, V, lo, hi, D, M, N, J, ok, Fd, rfl, _⟩ := h
    rfl
  · obtain ⟨l, r1, r2, A, S, Vf, lo, hi, D, M, N, J, ok, Fd, rfl, rA, t1, t2, B, q⟩ := h
    refine ⟨_, (pss_cons (ps_if (pt_cmpR (op_eqT hr.units hm1) (pv 0) (pe_lst pa_nil) (nomark _))
    (pss_one (ps_ret pe_non))
    pss_nil)
  (pss_cons (ps_set (i := 3) scBelow.nd rfl (Or.inl rfl) (pe_call G__law_cells.ok (hr.mono (by decide)) rfl G__law_cells.m G__law_cells.kp G__law_cells.b .nil pass0 (pa_cons (pv 0) (pa_cons (pv 1) (pa_cons (pv 2) pa_nil)))))
  (pss_cons (ps_set (i := 4) scBelow.nd rfl (Or.inl rfl) (pe_lst (pa_cons (pv 1) (pa_cons (pv 2) pa_nil))))
  (pss_cons (ps_for PassesOwn.never rfl (pi_seq (pv 3)) (pg_tup rfl (pgs_cons (pg_name (i := 5) scBelow.nd rfl (Or.inl rfl)) (pgs_cons (pg_name (i := 6) scBelow.nd rfl (Or.inl rfl)) pgs_nil)))
    (pss_cons (ps_set (i := 4) scBelow.nd rfl (Or.inl rfl) (pe_op op_cat (pv 4) (pe_lst (pa_cons (pv 5) (pa_cons (pv 6) pa_nil)))))
    (pss_one (ps_for PassesOwn.never rfl (pi_range1 (by rfl) T.range (pa_cons pe_int pa_nil)) (pg_name (i := 7) scBelow.nd rfl (Or.inl rfl))
      (pss_one (ps_expr (pe_bm PySem.F.plainAttrs_list PySem.F.slot_list_append PySem.F.type_list_append mt_append (pv 4) (pa_cons (pe_call G__law_middle.ok (hr.mono (by decide)) rfl G__law_middle.m G__law_middle.kp G__law_middle.b .nil pass0 (pa_cons (pe_ix ix_list (pv 4) (pe_un un_neg pe_int) (fun _ _ => rfl)) (pa_cons (pe_ix ix_list (pv 4) (pe_un un_neg pe_int) (fun _ _ => rfl)) pa_nil))) pa_nil))))))))
  (pss_cons (ps_set (i := 4) scBelow.nd rfl (Or.inl rfl) (pe_call G__law_sorted.ok (hr.mono (by decide)) rfl G__law_sorted.m G__law_sorted.kp G__law_sorted.b .nil pass0 (pa_cons (pv 4) pa_nil)))
  (pss_cons (ps_set (i := 4) scBelow.nd rfl (Or.inl rfl) (pe_op op_cat (pv 4) (pe_lc (own := [("_law_a", 5), ("_law_b", 6)]) (g := (gTup K 2 (gCons (gName 5) (gCons (gName 6) gNil)))) (tt := tYes) rfl scBelow.nd (pi_zipB (by rfl) hzip (pa_cons (pv 4) (pa_cons (pe_slice sl_list (pv 4) (po_some pe_int) po_none) pa_nil))) (blkOk_by (N := ["_law_one", "_law_low", "_law_high", "_law_cells_here", "_law_points", "_law_a", "_law_b", "_law_k", "_law_point"]) (sc := defScope sBelow) (by decide +kernel)) (fun _ _ _ _ _ => pg_tup rfl (pgs_cons (pg_name (i := 5) scBelow.nd rfl (Or.inl rfl)) (pgs_cons (pg_name (i := 6) scBelow.nd rfl (Or.inl rfl)) pgs_nil))) (fun _ _ _ _ _ => pts_nil) (fun _ _ _ _ _ => (pe_call G__law_middle.ok (hr.mono (by decide)) rfl G__law_middle.m G__law_middle.kp G__law_middle.b .nil pass0 (pa_cons (pv 5) (pa_cons (pv 6) pa_nil)))))))
  (pss_cons (ps_for PassesOwn.never rfl (pi_seq (pv 4)) (pg_name (i := 8) scBelow.nd rfl (Or.inl rfl))
    (pss_one (ps_if (pt_cmpR op_lt (pe_ix (r := rIxT K) ix_tup (pe_call G__law_p_at.ok (hr.mono (by decide)) rfl G__law_p_at.m G__law_p_at.kp G__law_p_at.b .nil pass0 (pa_cons (pv 0) (pa_cons (pv 8) pa_nil))) pe_int (fun _ _ => rfl)) pe_int (nomark _))
      (pss_one (ps_ret (pv 8)))
      pss_nil)))
  (pss_one (ps_ret pe_non))))))))), ?_⟩
    obtain ⟨as, e1, tA⟩ := id rA
    have l2 := D.l2
    have up : ∀ {x : Rat} {j : Nat}, Pt lo hi M N j x → j ≤ J + 3 → Hb 100 x := fun h hj => (h.up hj).hb B.m0 B.m B.n
    refine ⟨_, rfl, (by show 0 ≤ sizeLine; decide), fun l0 n0 => ?_⟩
    have s0' : Same H (upd H l0 (HO.lst [])) := same_upd n0
    have e0 : upd H l0 (HO.lst []) l0 = some (HO.lst []) := upd_same
    generalize upd H l0 (HO.lst []) = H0 at s0' e0 ⊢
    refine ⟨.list ((A.map pq).map pairD), .list (([] : List (Int × Int)).map pairD), .lst (SqL.of (s0' _ _ e1)) (tA.same s0').dts, .lst (SqL.of e0) .nil, (plain_row _).2, (plain_row _).2, (depth_row _).2, _, rfl, ?_⟩
    rw [eqv_rowL, decide_eq_false (fun z => by have := List.map_eq_nil_iff.mp z; rw [this] at l2; cases l2)]
    refine iteF ?_
    dsimp only [tNext]
    refine ⟨_, rfl, _, rfl, _, rfl, l, r1, r2, A, S, Vf, lo, hi, D, ok, Fd, rfl, rA.same s0', s0' _ _ t1, s0' _ _ t2, B.hok, B.run, fun lc H1 s1 pc => ?_⟩
    have s01 := s0'.trans s1
    obtain ⟨cs, ec, tc⟩ := pc
    have lcs := tc.len
    refine ⟨_, rfl, _, rfl, (by show 2 ≤ sizeLine; decide), fun lp nlp => ?_⟩
    have elp : upd H1 lp (HO.lst [V.ref r1, V.ref r2]) lp = some (HO.lst (([r1, r2] : List Addr).map V.ref)) := upd_same
    have s2 : Same H1 (upd H1 lp (HO.lst [V.ref r1, V.ref r2])) := same_upd nlp
    generalize upd H1 lp (HO.lst [V.ref r1, V.ref r2]) = H2 at elp s2 ⊢
    have s02 := s01.trans s2
    have ec2 := s2 _ _ ec
    have nlpH : H1 lp = none := nlp
    have r0 : RL H2 lp [lo, hi] := ⟨[r1, r2], elp, .cons (s02 _ _ t1) (.cons (s02 _ _ t2) .nil)⟩
    have lF := B.lF
    refine ⟨_, rfl, lc, rfl, .inl ⟨_, SqL.of ec2, for_list (K := K) (a := lc) (xs := cs.map V.ref) (fun i σ H' => ∃ (lv : Addr) (qs : List Rat) (v5 v6 v7 v8 : Option V), σ = [some (.ref l), some (.ref r1), some (.ref r2), some (.ref lc), some (.ref lv), v5, v6, v7, v8] ∧ Same H1 H' ∧ RL H' lv qs ∧ qs.length = 2 + 4 * i ∧ ∀ x ∈ qs, Pt lo hi M N (J + 2) x)
      ⟨lp, [lo, hi], none, none, none, none, rfl, s2, r0, rfl, fun x hx => ?_⟩ (fun i σ H' _ ⟨_, _, _, _, _, _, _, ss, _⟩ => SqL.of (ss _ _ ec)) ?_ ?_⟩⟩
    · simp only [List.mem_cons, List.not_mem_nil, or_false] at hx
      rcases hx with rfl | rfl
      · exact B.pl.up (by omega)
      · exact B.ph.up (by omega)
    · rintro i x σ H3 hi' ⟨lv, qs, v5, v6, v7, v8, rfl, s3, rq, lq, hq⟩
      have hil : i < cs.length := by
        have := (List.getElem?_eq_some_iff.mp hi').1
        rw [List.length_map] at this
        exact this
      rw [List.getElem?_map] at hi'
      obtain ⟨c, hc⟩ : ∃ c, cs[i]? = some c := ⟨_, List.getElem?_eq_getElem hil⟩
      obtain ⟨p, hp⟩ : ∃ p, Fd[i]? = some p := ⟨_, List.getElem?_eq_getElem (by omega)⟩
      rw [hc] at hi'
      cases hi'
      obtain ⟨ra, rb, g1, g2, g3⟩ := PrA.same s3 _ _ (tc.at hc hp)
      obtain ⟨pa, pb⟩ := B.pF p (List.mem_of_getElem? hp)
      refine ⟨c, _, rfl, SqT.of g1, rfl, _, _, rfl, _, _, rfl, rfl, ?_⟩
      obtain ⟨qa, eq3, tq⟩ := id rq
      have nq := tq.lenQ
      refine ⟨_, rfl, _, rfl, _, rfl, (by show 2 ≤ sizeLine; decide), fun l4 nl4 => ?_⟩
      have el4 : upd H3 l4 (HO.lst [V.ref ra, V.ref rb]) l4 = some (HO.lst (([ra, rb] : List Addr).map V.ref)) := upd_same
      have s4 : Same H3 (upd H3 l4 (HO.lst [V.ref ra, V.ref rb])) := same_upd nl4
      generalize upd H3 l4 (HO.lst [V.ref ra, V.ref rb]) = H4 at el4 s4 ⊢
      refine ⟨lv, l4, _, _, rfl, rfl, s4 _ _ eq3, el4, ?_, fun l5 nl5 => ?_⟩
      · rw [List.length_map, sizeLine_eq]
        show qa.length + 2 ≤ _
        omega
      have el5 : upd H4 l5 (HO.lst (qa.map V.ref ++ ([ra, rb] : List Addr).map V.ref)) l5 = some (HO.lst ((qa ++ [ra, rb]).map V.ref)) := by rw [upd_same, List.map_append]
      have s5 : Same H4 (upd H4 l5 (HO.lst (qa.map V.ref ++ ([ra, rb] : List Addr).map V.ref))) := same_upd nl5
      generalize upd H4 l5 (HO.lst (qa.map V.ref ++ ([ra, rb] : List Addr).map V.ref)) = H5 at el5 s5 ⊢
      have s35 := s4.trans s5
      have nl5H : H1 l5 = none := (s3.trans s4).free nl5
      have tq5 : Tups H5 (qa ++ [ra, rb]) ((qs ++ [p.1, p.2]).map pq) := by
        rw [List.map_append]
        exact (tq.same s35).app (.cons (s35 _ _ g2) (.cons (s35 _ _ g3) .nil))
      refine ⟨2, rfl, by decide, by decide, for_range (lo := 0) (n := 2) (fun k σ H' => ∃ (zs : List Rat) (x y : Rat) (v7 : Option V), σ = [some (.ref l), some (.ref r1), some (.ref r2), some (.ref lc), some (.ref l5), some (.ref ra), some (.ref rb), v7, v8] ∧ Same H1 H' ∧ RL H' l5 (zs ++ [x, y]) ∧ zs.length = qs.length + k ∧ (∀ z ∈ zs, Pt lo hi M N (J + 2) z) ∧ Pt lo hi M N (J + k) x ∧ Pt lo hi M N (J + k) y)
        ⟨qs, p.1, p.2, v7, rfl, s3.trans s35, ⟨_, el5, tq5⟩, rfl, hq, pa, pb⟩ ?_ ?_⟩
      · rintro k σ H6 hk ⟨zs, x, y, v7, rfl, s6, r6, lz, hz, px, py⟩
        obtain ⟨za, ez, tz⟩ := id r6
        have nz := tz.lenQ
        rw [List.length_append] at nz
        have nz : za.length = zs.length + 2 := nz
        obtain ⟨rx, hx1, hx2⟩ := tz.getQ (i := zs.length) (by rw [List.length_append]; show _ < _ + 2; omega)
        obtain ⟨ry, hy1, hy2⟩ := tz.getQ (i := zs.length + 1) (by rw [List.length_append]; show _ < _ + 2; omega)
        rw [cf_app, if_neg (by omega), Nat.sub_self] at hx2
        rw [cf_app, if_neg (by omega), show zs.length + 1 - zs.length = 1 by omega] at hy2
        have hx2 : TR H6 rx x := hx2
        have hy2 : TR H6 ry y := hy2
        have gx : (za.map V.ref)[zs.length]? = some (V.ref rx) := by rw [List.getElem?_map, hx1]; rfl
        have gy : (za.map V.ref)[zs.length + 1]? = some (V.ref ry) := by rw [List.getElem?_map, hy1]; rfl
        have lm : (za.map V.ref).length = zs.length + 2 := by rw [List.length_map, nz]
        have hx := up px (by omega)
        have hy := up py (by omega)
        refine ⟨_, rfl, .inl ⟨rfl, _, SqL.of ez⟩, ?_⟩
        refine ⟨_, rfl, _, rfl, l5, _, _, .ref rx, rfl, rfl, SqL.of ez, at_neg (by decide) gx (by omega), _, rfl, _, rfl, l5, _, _, .ref ry, rfl, rfl, SqL.of ez, at_neg (by decide) gy (by omega), ?_⟩
        refine ⟨rx, ry, x, y, rfl, hx2, hy2, hx.sr (by decide), hy.sr (by decide), (hx.add hy).sr (by decide), fun rm H7 s7 em => ?_⟩
        have ez7 := s7 _ _ ez
        refine ⟨l5, _, .ref rm, rfl, rfl, ez7, by rw [lm, sizeLine_eq]; omega, ?_⟩
        refine ⟨zs ++ [x], y, (x + y) / 2, _, rfl, fun b o e => ?_, ⟨za ++ [rm], by rw [upd_same, List.map_append]; rfl, ?_⟩, by rw [List.length_append]; show _ + 1 = _; omega, fun z hz' => ?_, py.up (by omega), Pt.mid px py⟩
        · rw [upd_ne (ne_of_none e nl5H)]
          exact s7 _ _ (s6 _ _ e)
        · have t8 := ((tz.same s7).lst ez7 (upd_away (o := HO.lst (za.map V.ref ++ [V.ref rm])))).snocQ (q := (x + y) / 2) (by
            show upd H7 l5 _ rm = _
            rw [upd_ne (ne_of em ez7 (by intro z; cases z))]
            exact em)
          have e9 : (zs ++ [x] ++ [y, (x + y) / 2]) = (zs ++ [x, y]) ++ [(x + y) / 2] := by simp
          rw [e9]
          exact t8
        · rcases List.mem_append.mp hz' with h | h
          · exact hz z h
          · rw [List.mem_singleton.mp h]
            exact px.up (by omega)
      · rintro σ H6 ⟨zs, x, y, v7, rfl, s6, r6, lz, hz, px, py⟩
        refine ⟨l5, _, _, _, _, _, rfl, s6, r6, by rw [List.length_append]; show _ + 2 = _; omega, fun z hz' => ?_⟩
        rcases List.mem_append.mp hz' with h | h
        · exact hz z h
        · simp only [List.mem_cons, List.not_mem_nil, or_false] at h
          rcases h with rfl | rfl
          · exact px
          · exact py
    · rintro σ H3 ⟨lv, qs, v5, v6, v7, v8, rfl, s3, rq, lq, hq⟩
      rw [List.length_map, lcs] at lq
      dsimp only
      have hq0 : qs ≠ [] := fun z => by rw [z] at lq; simp at lq; omega
      have sq : ∀ i, Sr (cf qs i) := cf_all (sr_zero) fun x hx => (up (hq x hx) (by omega)).sr (by decide)
      refine ⟨_, rfl, lv, qs, rfl, rq, hq0, by omega, sq, fun ls rs H4 s4 r4 ne4 ln4 mem4 _ => ?_⟩
      have s14 := s3.trans s4
      have hr4 : ∀ x ∈ rs, Pt lo hi M N (J + 2) x := fun x hx => hq x (mem4 x hx)
      obtain ⟨ra, e4, t4⟩ := id r4
      have n4 := t4.lenQ
      have lr0 : 0 < rs.length := List.length_pos_iff.mpr ne4
      refine ⟨_, rfl, _, rfl, _, rfl, _, rfl, ?_⟩
      refine ⟨ls, _, rfl, SqL.of e4, fun S2 nS2 => ?_⟩
      rw [cut1]
      have eS2 : upd H4 S2 (HO.lst ((ra.map V.ref).drop 1)) S2 = some (HO.lst ((ra.map V.ref).drop 1)) := upd_same
      have s5 : Same H4 (upd H4 S2 (HO.lst ((ra.map V.ref).drop 1))) := same_upd nS2
      generalize upd H4 S2 (HO.lst ((ra.map V.ref).drop 1)) = H5 at eS2 s5 ⊢
      have e5 := s5 _ _ e4
      have t5 := t4.same s5
      have ln : (ra.map V.ref).length = rs.length := by rw [List.length_map, n4]
      refine ⟨true, true, ls, S2, ra.map V.ref, (ra.map V.ref).drop 1, rfl, SqL.of e5, SqL.of eS2, fun D5 nD5 => lc_zipM (rs.length - 1) (by rw [List.length_drop, ln]; omega) (fun i H6 => Same H5 H6 ∧ ∃ zs ms, H6 D5 = some (.lst (zs.map V.ref)) ∧ Tups H6 zs (ms.map pq) ∧ ms.length = i ∧ ∀ x ∈ ms, Pt lo hi M N (J + 3) x) ⟨same_upd nD5, [], [], upd_same, .nil, rfl, fun x h => by cases h⟩ (fun i H6 ⟨s6, _⟩ => ⟨SqL.of (s6 _ _ e5), SqL.of (s6 _ _ eS2)⟩) ?_ ?_⟩
      · intro i x' y' T' H6 hi' hx' hy' ⟨s6, zs, ms, e6, tz, lm, hm⟩ nT
        rw [List.getElem?_map] at hx'
        rw [List.getElem?_drop, List.getElem?_map, Nat.add_comm] at hy'
        obtain ⟨xa, ha1, ha2⟩ := t5.getQ (i := i) (by omega)
        obtain ⟨xb, hb1, hb2⟩ := t5.getQ (i := i + 1) (by omega)
        rw [ha1] at hx'
        rw [hb1] at hy'
        cases hx'
        cases hy'
        have sT : Same H6 (upd H6 T' (.tup [.ref xa, .ref xb])) := same_upd nT
        have nTD : D5 ≠ T' := ne_of_none e6 nT
        have e6' := (upd_ne nTD (H := H6) (o := .tup [.ref xa, .ref xb])).trans e6
        refine ⟨T', _, rfl, SqT.of upd_same, rfl, ?_⟩
        refine ⟨_, _, rfl, _, _, rfl, rfl, rfl, ?_⟩
        have p1 := hr4 _ (cf_mem (l := rs) (i := i) (by omega))
        have p2 := hr4 _ (cf_mem (l := rs) (i := i + 1) (by omega))
        have h1 := up p1 (by omega)
        have h2 := up p2 (by omega)
        have s56 := s6.trans sT
        refine ⟨_, rfl, _, rfl, xa, xb, _, _, rfl, s56 _ _ ha2, s56 _ _ hb2, h1.sr (by decide), h2.sr (by decide), (h1.add h2).sr (by decide), fun rm H7 s7 em => ?_⟩
        have e7 := s7 _ _ e6'
        refine ⟨_, e7, ?_, ⟨fun b o e => ?_, zs ++ [rm], ms ++ [(cf rs i + cf rs (i + 1)) / 2], by rw [upd_same, List.map_append]; rfl, (((tz.same sT).same s7).lst e7 (upd_away (o := HO.lst (zs.map V.ref ++ [V.ref rm])))).snocQ ?_, by rw [List.length_append, lm]; rfl, fun x hx => ?_⟩⟩
        · have := tz.lenQ
          rw [List.length_map, sizeLine_eq]
          omega
        · rw [upd_ne (ne_of_none e nD5)]
          exact s7 _ _ (s56 _ _ e)
        · show upd H7 D5 _ rm = _
          rw [upd_ne (ne_of em e7 (by intro z; cases z))]
          exact em
        · rcases List.mem_append.mp hx with h | h
          · exact hm x h
          · rw [List.mem_singleton.mp h]
            exact Pt.mid p1 p2
      · intro H6 ⟨s6, zs, ms, e6, tz, lm, hm⟩
        have e46 := s6 _ _ e5
        have nz := tz.lenQ
        refine ⟨ls, D5, _, _, rfl, rfl, e46, e6, ?_, fun l7 nl7 => ?_⟩
        · rw [ln, List.length_map, sizeLine_eq]
          omega
        have el7 : upd H6 l7 (HO.lst (ra.map V.ref ++ zs.map V.ref)) l7 = some (HO.lst ((ra ++ zs).map V.ref)) := by rw [upd_same, List.map_append]
        have s7 : Same H6 (upd H6 l7 (HO.lst (ra.map V.ref ++ zs.map V.ref))) := same_upd nl7
        generalize upd H6 l7 (HO.lst (ra.map V.ref ++ zs.map V.ref)) = H7 at el7 s7 ⊢
        have t7 : Tups H7 (ra ++ zs) ((rs ++ ms).map pq) := by
          rw [List.map_append]
          exact ((t5.same (s6.trans s7))).app (tz.same s7)
        have hall : ∀ x ∈ rs ++ ms, Pt lo hi M N (J + 3) x := fun x hx => by
          rcases List.mem_append.mp hx with h | h
          · exact (hr4 x h).up (by omega)
          · exact hm x h
        have s17 := s14.trans (s5.trans (s6.trans s7))
        have rA7 : RL H7 l A := (rA.same s01).same s17
        generalize rs ++ ms = ws at t7 hall
        have n7 := t7.lenQ
        obtain ⟨M', N', fA, M0', Mb, Nb⟩ := B.fa
        have la := B.la
        refine ⟨_, rfl, l7, rfl, .inl ⟨_, SqL.of el7, for_list (K := K) (a := l7) (xs := (ra ++ zs).map V.ref) (fun i σ H' => ∃ (v5 v6 v7 v8 : Option V), σ = [some (.ref l), some (.ref r1), some (.ref r2), some (.ref lc), some (.ref l7), v5, v6, v7, v8] ∧ Same H7 H') ⟨_, _, _, _, rfl, Same.refl _⟩ (fun i σ H' _ ⟨_, _, _, _, _, ss⟩ => SqL.of (ss _ _ el7)) ?_ ?_⟩⟩
        · rintro i x σ H8 hi' ⟨v5, v6, v7, v8, rfl, s8⟩
          have hil : i < (ra ++ zs).length := by
            have := (List.getElem?_eq_some_iff.mp hi').1
            rw [List.length_map] at this
            exact this
          rw [List.getElem?_map] at hi'
          obtain ⟨rx, hx1, hx2⟩ := t7.getQ (i := i) (by omega)
          rw [hx1] at hi'
          cases hi'
          have px := hall _ (cf_mem (l := ws) (i := i) (by omega))
          generalize cf ws i = xx at hx2 px
          have hx := px.hb B.m0 B.m B.n
          refine ⟨_, rfl, _, rfl, l, rx, A, xx, M', N', xx.den, 2 ^ 100, 2 ^ 100, rfl, rA7.same s8, s8 _ _ hx2, fA, hx.fr, M0', xx.den_pos, hx.2, Nat.le_refl _, ?_, ?_, Nat.pow_lt_pow_right (by decide) (by decide), fun r9 H9 s9 e9 => ?_⟩
          · refine Nat.lt_of_le_of_lt (Nat.mul_le_mul_right _ Mb) ?_
            rw [← Nat.pow_mul, ← Nat.pow_add]
            exact Nat.pow_lt_pow_right (by decide) (by omega)
          · refine Nat.lt_of_le_of_lt (Nat.mul_le_mul Nb (Nat.mul_le_mul_right _ (show A.length + 1 ≤ 2 ^ 5 by omega))) ?_
            rw [← Nat.pow_mul, ← Nat.pow_add, ← Nat.pow_add]
            exact Nat.pow_lt_pow_right (by decide) (by omega)
          rw [hor_ev] at e9
          refine ⟨r9, _, _, .int (ev A xx).num, rfl, rfl, SqT.of e9, at_of (j := 0) rfl rfl, _, _, rfl, rfl, _, rfl, ?_⟩
          rw [decide_eq_false (nn_num (B.nn xx px.l px.h))]
          refine iteF ?_
          exact ⟨_, _, _, _, rfl, s8.trans s9⟩
        · rintro σ H8 ⟨v5, v6, v7, v8, rfl, s8⟩
          exact q H8 (s01.trans (s17.trans s8))
abbrev sNever : Stmt := topS 82
theorem scNever : FnScope ["_law_one", "_law_low", "_law_high"] ["_law_one", "_law_low", "_law_high"] (defScope sNever) := ⟨rfl, rfl, rfl, by decide +kernel, rfl, by decide +kernel, by decide +kernel⟩
theorem ok_never {f : Addr} {fd : FuncData} (F : Fun K "_law_is_never_below" "_law_is_never_below" sNever f fd) (G__law_below_at : Df P w K mg base "_law_below_at" 9 ["_law_one", "_law_low", "_law_high"] (spBelow false)) : FnOk P w K mg base CX0 10 f fd ["_law_one", "_law_low", "_law_high"] (spBelow true) := by
  refine F.ok scNever (fun vs H W E h => ?_) (fun cdv A0 outer s0 H vs W E hr h => ?_)
  · obtain ⟨l, r1, r2, A, S, V, lo, hi, D, M, N, J, ok, Fd, rfl, _⟩ := h
    rfl
  · obtain ⟨l, r1, r2, A, S, Vf, lo, hi, D, M, N, J, ok, Fd, rfl, rA, t1, t2, B, q⟩ := h
    refine ⟨_, (pss_one (ps_ret (pe_cmpR op_isN (pe_call G__law_below_at.ok (hr.mono (by decide)) rfl G__law_below_at.m G__law_below_at.kp G__law_below_at.b .nil pass0 (pa_cons (pv 0) (pa_cons (pv 1) (pa_cons (pv 2) pa_nil)))) pe_non (nomark _)))), ?_⟩
    refine ⟨_, rfl, _, rfl, _, rfl, l, r1, r2, A, S, Vf, lo, hi, D, M, N, J, ok, Fd, rfl, rA, t1, t2, B, fun H1 s1 => ?_⟩
    exact ⟨rfl, q H1 s1⟩
end
end Vf
set_option maxRecDepth 100000
set_option maxHeartbeats 8000000
namespace Vf
open PySem PySem.Spec PyProof.Rows L2
def spTP (K : PySem.W.Frag) (CP : Addr) : Sp := fun vs H W _ => ∃ (a l : Addr) (R : List Rat) (n : Nat), vs = [.ref a, .ref l] ∧ PolyQ K CP H a R ∧ RI H l (tabI n fun k => (k : Int)) ∧ R.length ≤ n ∧ n ≤ 20 ∧ (∀ i, Sr (cf R i)) ∧ ∀ (l' : Addr) (H' : Hp), Same H H' → RL H' l' R → W (.ref l') H'
section
variable {P : Program} {w : World} {K : PySem.W.Frag} {mg : Str → Option Value} {base : Heap} {CP CR CN CI : Addr}
abbrev sTP : Stmt := topS 83
theorem scTP : FnScope ["_law_value", "_law_powers", "_law_one", "_law_k"] ["_law_value", "_law_powers"] (defScope sTP) := ⟨rfl, rfl, rfl, by decide +kernel, rfl, by decide +kernel, by decide +kernel⟩
theorem ok_tp {f : Addr} {fd : FuncData} (F : Fun K "_law_told_poly" "_law_told_poly" sTP f fd) (T : Bk mg) (hm1 : M1 base) (PM : PoM P w K mg base CP CR) (G__law_is_ratio : Df P w K mg base "_law_is_ratio" 2 ["_law_thing"] spIsRt) : FnOk P w K mg base CX0 3 f fd ["_law_value", "_law_powers"] (spTP K CP) := by
  refine F.ok scTP (fun vs H W E h => ?_) (fun cdv A0 outer s0 H vs W E hr h => ?_)
  · obtain ⟨a, l, R, n, rfl, _⟩ := h
    rfl
  · obtain ⟨a, l, R, n, rfl, hp, hl, lR, hn, sR, q⟩ := h
    refine ⟨_, (pss_cons (ps_if (PW.pt (pw_or (pt_not (pt_val (pe_callB call_isi (by rfl) T.isinstance (by decide +kernel) (pa_cons (pv 0) (pa_cons (pe_glob (v := V.ref CP) rfl PM.C.m rfl) pa_nil))))) (pw_or1 (pt_cmpR (op_neT hr.units hm1) (pe_lc (own := [("_law_one", 2)]) (g := (gName 2)) (tt := _) rfl scTP.nd (pi_seq (pe_fld (pv 0) rfl)) (blkOk_by (N := ["_law_value", "_law_powers", "_law_one", "_law_k"]) (sc := defScope sTP) (by decide +kernel)) (fun _ _ _ _ _ => pg_name (i := 2) scTP.nd rfl (Or.inl rfl)) (fun _ _ _ _ _ => pts_one (pt_not (pt_val (pe_call G__law_is_ratio.ok (hr.mono (by decide)) rfl G__law_is_ratio.m G__law_is_ratio.kp G__law_is_ratio.b .nil pass0 (pa_cons (pv 2) pa_nil))))) (fun _ _ _ _ _ => (pv 2))) (pe_lst pa_nil) (nomark _)))))
    (pss_one (ps_ret pe_non))
    pss_nil)
  (pss_cons (ps_if (pt_cmpR (op_neT hr.units hm1) (pe_lc (own := [("_law_k", 3)]) (g := (gName 3)) (tt := _) rfl scTP.nd (pi_range1 (by rfl) T.range (pa_cons (pe_callB call_len_seq (by rfl) T.len (by decide +kernel) (pa_cons (pe_fld (pv 0) rfl) pa_nil)) pa_nil)) (blkOk_by (N := ["_law_value", "_law_powers", "_law_one", "_law_k"]) (sc := defScope sTP) (by decide +kernel)) (fun _ _ _ _ _ => pg_name (i := 3) scTP.nd rfl (Or.inl rfl)) (fun _ _ _ _ _ => pts_one (PW.pt (pw_and (pt_cmpR op_ne (pe_ix (r := rIxT K) ix_tup (pe_ix (r := rIxT K) ix_tup (pe_fldK (K := K) rfl (pv 0) rfl) (pv 3) (fun _ _ => rfl)) pe_int (fun _ _ => rfl)) pe_int (nomark _)) (pw_and1 (pt_cmpR (show OpR _ _ (rIn K true) from op_notIn_seq) (pv 3) (pv 1) (by rfl)))))) (fun _ _ _ _ _ => (pv 3))) (pe_lst pa_nil) (nomark _))
    (pss_one (ps_ret pe_non))
    pss_nil)
  (pss_one (ps_ret (pe_callTy call_list_of (by rfl) T.list (by decide +kernel) (pa_cons (pe_fld (pv 0) rfl) pa_nil)))))), ?_⟩
    obtain ⟨dx, t, as, h1, h2, h3⟩ := id hp
    have n1 := h3.lenQ
    have lm : (as.map V.ref).length = R.length := by rw [List.length_map, n1]
    refine ⟨_, rfl, .ref a, .ref CP, _, .ref CP, _, rfl, .own _, PolyAt.ty PM.C hp, PM.C.io, _, rfl, ?_⟩
    refine iteF ?_
    have big1 : ∀ {i : Nat}, (cf R i).num.natAbs < 2 ^ big ∧ (cf R i).den < 2 ^ big := fun {i} => ⟨Nat.lt_trans (sR i).1 (Nat.pow_lt_pow_right (by decide) (by decide)), Nat.lt_trans (sR i).2 (Nat.pow_lt_pow_right (by decide) (by decide))⟩
    refine ⟨_, rfl, a, CP, dx, _, .ref t, rfl, h1, PM.C.cl, PM.C.nf, (by kernel_rfl), t, rfl, lc_seq (xs := as.map V.ref) (.inr (SqT.of h2)) (fun D i H2 => Same H H2 ∧ H2 D = some (.lst [])) ?_ ?_ ?_ ?_⟩
    · intro D hD
      exact ⟨same_upd hD, upd_same⟩
    · intro D i H2 hD ⟨s2, _⟩
      exact ⟨same_sqL s2, same_sqT s2⟩
    · intro D i y H2 hD hi ⟨s2, eD⟩
      rw [List.getElem?_map] at hi
      cases hr0 : as[i]? with
      | none => rw [hr0] at hi; cases hi
      | some r =>
        rw [hr0] at hi
        cases hi
        have hil : i < R.length := by have := (List.getElem?_eq_some_iff.mp hr0).1; omega
        obtain ⟨r', g1, g2⟩ := h3.getQ hil
        rw [hr0] at g1
        cases g1
        refine ⟨rfl, ?_⟩
        refine ⟨_, rfl, r, cf R i, rfl, s2 _ _ g2, big1.1, big1.2, fun H3 s3 => ?_⟩
        refine ⟨true, rfl, ?_⟩
        refine iteF ?_
        exact ⟨s2.trans s3, s3 _ _ eD⟩
    · intro D H2 hD ⟨s2, eD⟩
      refine ⟨(by show 0 ≤ sizeLine; decide), fun l0 n0 => ?_⟩
      have s3 : Same H2 (upd H2 l0 (HO.lst [])) := same_upd n0
      have e0 : upd H2 l0 (HO.lst []) l0 = some (HO.lst []) := upd_same
      generalize upd H2 l0 (HO.lst []) = H3 at s3 e0 ⊢
      refine ⟨.list [], .list [], .lst (SqL.of (s3 _ _ eD)) .nil, .lst (SqL.of e0) .nil, (by rfl), (by rfl), (by simp [PyData.depth, PyData.depthAll]), _, rfl, ?_⟩
      refine iteF ?_
      have s03 := s2.trans s3
      dsimp only [tNext]
      refine ⟨_, rfl, a, CP, dx, _, .ref t, rfl, s03 _ _ h1, PM.C.cl, PM.C.nf, (by kernel_rfl), t, _, rfl, .inr (SqT.of (s03 _ _ h2)), ?_⟩
      rw [lm]
      refine ⟨_, rfl, by omega, by omega, fun D2 hD2 => lc_range (lo := 0) (n := ((R.length : Nat) : Int).toNat) (fun i H' => Same H3 H' ∧ H' D2 = some (.lst [])) ?_ ?_ ?_⟩
      · exact ⟨same_upd hD2, upd_same⟩
      · rintro i H' hi ⟨s4, eD2⟩
        have hil : i < R.length := by omega
        obtain ⟨r, g1, g2⟩ := h3.getQ hil
        have s04 := s03.trans s4
        have gt : (as.map V.ref)[i]? = some (V.ref r) := by rw [List.getElem?_map, g1]; rfl
        refine ⟨rfl, ?_⟩
        refine ⟨_, rfl, a, CP, dx, _, .ref t, rfl, s04 _ _ h1, PM.C.cl, PM.C.nf, (by kernel_rfl), ?_⟩
        refine ⟨_, rfl, t, _, _, .ref r, rfl, rfl, SqT.of (s04 _ _ h2), at_of (by omega) gt, r, _, _, .int (cf R i).num, rfl, rfl, SqT.of (s04 _ _ g2), at_of (j := 0) rfl rfl, ?_⟩
        dsimp only [tC]
        refine rNe_int (fun e => ?_) (fun e => ?_)
        · refine iteF ?_
          refine iteF ?_
          exact ⟨s4, eD2⟩
        · refine iteT ?_
          refine ⟨_, rfl, _, rfl, l, _, rfl, .inl (SqL.of (s04 _ _ hl)), rfl, ?_, _, rfl, ?_⟩
          · rw [List.all_eq_true]
            intro v hv
            obtain ⟨z, _, rfl⟩ := List.mem_map.mp hv
            rfl
          have hin : inV (V.int (0 + (i : Int))) ((tabI n fun k => (k : Int)).map V.int) = true := by
            unfold inV
            rw [List.any_eq_true]
            refine ⟨V.int (i : Int), List.mem_map.mpr ⟨(i : Int), ?_, rfl⟩, ?_⟩
            · unfold tabI
              exact List.mem_map.mpr ⟨i, List.mem_range.mpr (by omega), rfl⟩
            · rw [show (0 + (i : Int)) = i by omega]
              simp [eqV]
          rw [hin]
          refine iteF ?_
          exact ⟨s4, eD2⟩
      · rintro H' ⟨s4, eD2⟩
        refine ⟨(by show 0 ≤ sizeLine; decide), fun l3 n3 => ?_⟩
        have s5 : Same H' (upd H' l3 (HO.lst [])) := same_upd n3
        have e3 : upd H' l3 (HO.lst []) l3 = some (HO.lst []) := upd_same
        generalize upd H' l3 (HO.lst []) = H5 at s5 e3 ⊢
        refine ⟨.list [], .list [], .lst (SqL.of (s5 _ _ eD2)) .nil, .lst (SqL.of e3) .nil, (by rfl), (by rfl), (by simp [PyData.depth, PyData.depthAll]), _, rfl, ?_⟩
        refine iteF ?_
        dsimp only [tNext]
        have s05 := s03.trans (s4.trans s5)
        refine ⟨_, rfl, a, CP, dx, _, .ref t, rfl, s05 _ _ h1, PM.C.cl, PM.C.nf, (by kernel_rfl), t, _, rfl, .inr (SqT.of (s05 _ _ h2)), fun l6 n6 => ?_⟩
        exact q l6 _ (s05.trans (same_upd n6)) ⟨as, upd_same, (h3.same s05).same (same_upd n6)⟩
end
end Vf
set_option maxRecDepth 100000
set_option maxHeartbeats 4000000
namespace Vf
open PySem PySem.Spec PyProof.Rows L2
inductive Some1 (X : Cx) (i : Nat) : List ExceptHandler → List (Value × (Addr → Value → Option Addr → TS)) → Prop
  | any (hds : List ExceptHandler) : Some1 X i hds []
  | cons {x n : Str} {c : Value} {ts : Addr → Value → Option Addr → TS} {b : Stmt} {bs : List Stmt} {p q : Pos} {hds : List ExceptHandler} {l : List (Value × (Addr → Value → Option Addr → TS))} (nm : Names X x c) (at_ : X.N[i]? = some n) (lo : X.env.kindOf n = some .local)
      (su : ∀ (a : Addr) (oe : Obj) (cls : Value) (d : Option Addr) (pn : List (Addr × Obj)), Zc cls d oe → (∃ vs, oe.data = .fields vs) → PSs (X.suite a ((a, oe) :: pn)) (b :: bs) (ts a cls d)) (t : Some1 X i hds l) :
      Some1 X i (.ExceptHandler (some (.Name x p)) (some n) (b :: bs) q :: hds) ((c, ts) :: l)
section
variable {X : Cx} {i : Nat} {body : List Stmt} {h1 : ExceptHandler} {hs : List ExceptHandler} {l : List (Value × (Addr → Value → Option Addr → TS))} {pos : Pos} {tb : WX → TS} {Wo : WX}
theorem ps_try_some (st : X.stack = X.env :: X.outer) (fr : X.env.frame = some X.env.locals) (nd : X.N.Nodup)
    (bd : ∀ (W : WX) (pn : List (Addr × Obj)) (xe : Value → Shared → Prop), Takes (X.tr pn xe) W → PassesOwn (model X.prog X.w) X.A X.env xe → PSs (X.tr pn xe) body (tb W)) (hd : Some1 X i (h1 :: hs) l) :
    PS X (.Try body (h1 :: hs) [] [] pos) (fun D σ H => tb (wEach X.K i (fun _ _ _ _ => False) D l) D σ H) := by
  refine ⟨fun pins s σ H D I h => wpAny_Try_except ?_⟩
  have ok := I.ok
  have A1 : X.A.frames = some (X.env :: X.outer) := ok.frames.trans (congrArg some st)
  have run := (bd (wEach X.K i (fun _ _ _ _ => False) D l) (X.pn ++ pins) (fun e s1 => wpAny (model X.prog X.w) X.A (noteFrame e X.env) (fun _ s2 => wpAny (model X.prog X.w) X.A (setFlight e none) (fun _ s3 => wpAny (model X.prog X.w) X.A (handleBy e X.env (h1 :: hs)) (SP X pins D) X.xe s3) X.xe s2) X.xe s1)
    (fun u s' xx => ?_) PassesOwn.looking).run [] s σ H D (I.toTry _) h
  · refine wpAny_mono run (fun f s1 z => ?_) fun e s1 z => z
    match f, z with
    | .next, ⟨σ', H', J, q⟩ => exact wpAny_execs_nil ⟨σ', H', J.ofTry ok, q⟩
    | .brk, ⟨σ', H', J, q⟩ => exact ⟨σ', H', J.ofTry ok, q⟩
    | .cont, ⟨σ', H', J, q⟩ => exact ⟨σ', H', J.ofTry ok, q⟩
    | .ret u, ⟨v, σ', H', J, r, q⟩ => exact ⟨v, σ', H', J.ofTry ok, r, q⟩
  · obtain ⟨a, B, sI, pins', σ1, H1, cls, d, ea, J', nb, up, sky, na, os, ag, w⟩ := xx
    subst ea
    have J : Inv X pins σ1 H1 sI := J'.ofTry ok
    rw [st] at sky
    show wpAny (model X.prog X.w) X.A (noteFrame (.ref a) X.env) _ _ _
    refine Sky.land Zc.steady A1 fr sky fun h3 fl up3 => ?_
    have J3 : Inv X pins σ1 H1 { s' with heap := h3 } := J.landed nb fl.1 (up.trans up3) os ag
    obtain ⟨oe, vs, he, hz, hdt⟩ := fl.there
    have out : a ∉ frs (X.env :: X.outer) := fun m => by
      obtain ⟨_, o2, e2, ne⟩ := fl.2.2.1.mem m
      rw [he] at e2
      cases e2
      exact ne _ hdt
    have notL : a ≠ X.env.locals := fun z => out (List.mem_filterMap.mpr ⟨X.env, List.mem_cons_self, by rw [fr, z]⟩)
    have notF : a ∉ X.fs := fun m => by
      obtain ⟨e, he, q⟩ := List.mem_filterMap.mp m
      exact out (List.mem_filterMap.mpr ⟨e, List.mem_cons_of_mem _ he, q⟩)
    have S3 := J3.suite he hdt na notL notF
    have ty : PySem.W.Looks (model X.prog X.w) h3 (typeOf (.ref a)) cls := fun A Q E s k q => wpAny_typeOf_ref (k _ _ he) (by rw [hz.1]; exact q)
    have each : ∀ (hs2 : List ExceptHandler) (l2 : List (Value × (Addr → Value → Option Addr → TS))), Some1 X i hs2 l2 → wEach X.K i (fun _ _ _ _ => False) D l2 cls d σ1 H1 → wpAny (model X.prog X.w) X.A (handleBy (.ref a) X.env hs2) (SP X pins D) X.xe { s' with heap := h3 } := by
      intro hs2 l2 hk
      induction hk with
      | any hds =>
        intro wo
        exact False.elim wo
      | @cons x n c ts b bs p q hds l3 nm at_ lo su t ih =>
        intro wo
        obtain ⟨k, hk, yes, no⟩ := wo
        refine wpAny_handleBy_cons (codeAny_handlers_test ?_) (by intro q; cases q)
        have LM := PySem.W.exm_one (M := model X.prog X.w) (J3.kIn) ty hk
        have see : ∀ {Q : Value → Shared → Prop} {E : Value → Shared → Prop}, Q c { s' with heap := h3 } → wpAny (model X.prog X.w) (X.A.mark (some (.ref a))) (eval (.Name x p) X.env) Q E { s' with heap := h3 } := by
          intro Q E q
          obtain ⟨g1, g2, g3 | ⟨g3, g4, g5⟩⟩ := nm
          · exact ld_glob (X := X.suite a ((a, oe) :: (X.pn ++ pins))) S3 g1 g3 q g2
          · exact ld_blt (X := X.suite a ((a, oe) :: (X.pn ++ pins))) S3 g1 g3 g4 q g5 g2
        refine see (LM.here ?_)
        cases k with
        | false =>
          show wpAny _ X.A (handleBy (.ref a) X.env hds) _ _ _
          exact ih (no rfl)
        | true =>
          refine codeAny_handlers_suite_as (HandSPX.lands_againZ fl fun h4 fl4 up4 => ?_)
          have J4 : Inv X pins σ1 H1 { s' with heap := h4 } := J.landed nb fl4.1 ((up.trans up3).trans up4) os ag
          obtain ⟨o4, v4, e4, z4, d4⟩ := fl4.there
          have S4 := J4.suite e4 d4 na notL notF
          refine store_ok (X := X.suite a ((a, o4) :: (X.pn ++ pins))) (v := .ref a) S4 nd at_ (.inl lo) rfl (fun s5 S5 => ?_) (.inr lo)
          refine wpAny_mono ((su a o4 cls d (X.pn ++ pins) z4 ⟨_, d4⟩).run [] s5 _ H1 _ S5 (yes rfl a na)) (fun f s6 z => ?_) (fun _ _ z => False.elim z)
          have away : ∀ {σ6 : L2.St} {H6 : Hp} {Q : Shared → Prop}, Inv (X.suite a ((a, o4) :: (X.pn ++ pins))) [] σ6 H6 s6 → (∀ s7, Inv X pins (σ6.set i none) H6 s7 → Q s7) →
              wpAny (model X.prog X.w) X.A (do bindName X.env n .none; unbindBehindTheSuite X.env n q) (fun _ s7 => Q s7) X.xe s6 := fun S6 g => gone_ok (S6.unsuite ok) nd at_ lo g
          match f, z with
          | .next, ⟨σ6, H6, S6, g⟩ => exact away S6 fun s7 J7 => ⟨_, _, J7, g⟩
          | .brk, ⟨σ6, H6, S6, g⟩ => exact away S6 fun s7 J7 => ⟨_, _, J7, g⟩
          | .cont, ⟨σ6, H6, S6, g⟩ => exact away S6 fun s7 J7 => ⟨_, _, J7, g⟩
          | .ret u, ⟨v6, σ6, H6, S6, r6, g⟩ => exact away S6 fun s7 J7 => ⟨_, _, _, J7, r6, g⟩
    exact each _ _ hd w
end
end Vf
set_option maxRecDepth 100000
set_option maxHeartbeats 8000000
namespace Vf
open PySem PySem.Spec PyProof.Rows L2
open LamX (ExtN Tabs TabS)
theorem takes_len {X : Cx} {W : WX} (tk : Takes X W) : Takes X (fun cls d σ H => σ.length = X.N.length → W cls d σ H) := fun u s' z => by
  obtain ⟨a, B, sI, pins, σ, H, cls, d, e, J, nb, up, sky, na, os, ag, w⟩ := z
  exact tk u s' ⟨a, B, sI, pins, σ, H, cls, d, e, J, nb, up, sky, na, os, ag, w J.len⟩
def FaultE (C : Nat → Addr) (Q : VK) : XK := fun cls d H =>
  (cls = .ref (C 2) ∧ ∃ (dd : Addr) (v u : V), d = some dd ∧ H dd = some (.xd (fl ["low", "high"] [v, u])) ∧ ∀ (t : Addr) (H' : Hp), Same H H' → H' t = some (.tup [.str "interval", v, u]) → Q (.ref t) H')
  ∨ (cls = .ref (C 1) ∧ ∃ (dd : Addr) (wh : Str) (v : V), d = some dd ∧ H dd = some (.xd (fl ["what", "number"] [.str wh, v])) ∧ ∀ (t : Addr) (H' : Hp), Same H H' → H' t = some (.tup [.str "number", .str wh, v]) → Q (.ref t) H')
def TFault (C : Nat → Addr) : (XK → Hp → VK → Prop) → Hp → VK → Prop := fun tl H Q => ∀ (H1 : Hp) (k : VK), Same H H1 → tl (FaultE C Q) H1 k
structure W9 (K : PySem.W.Frag) (mg : Str → Option Value) (C : Nat → Addr) : Prop where
  mR : mg "BadRow" = some (.ref (C 0))
  mN : mg "BadNumber" = some (.ref (C 1))
  mI : mg "BadInterval" = some (.ref (C 2))
  xf0 : XfC K (C 0)
  xf1 : XfC K (C 1)
  xf2 : XfC K (C 2)
  ex10 : PySem.W.exmOne K (.ref (C 1)) (.ref (C 0)) = some false
  ex11 : PySem.W.exmOne K (.ref (C 1)) (.ref (C 1)) = some true
  ex20 : PySem.W.exmOne K (.ref (C 2)) (.ref (C 0)) = some false
  ex21 : PySem.W.exmOne K (.ref (C 2)) (.ref (C 1)) = some false
  ex22 : PySem.W.exmOne K (.ref (C 2)) (.ref (C 2)) = some true
  nrR : PySem.W.findIn K (.ref (C 0)) "row" = some none
  nrW : PySem.W.findIn K (.ref (C 1)) "what" = some none
  nrN : PySem.W.findIn K (.ref (C 1)) "number" = some none
  nrL : PySem.W.findIn K (.ref (C 2)) "low" = some none
  nrH : PySem.W.findIn K (.ref (C 2)) "high" = some none
abbrev sWhy : Stmt := topS 84
theorem scWhy : FnScope ["_law_call", "_law_told", "error"] ["_law_call"] (defScope sWhy) := ⟨rfl, rfl, rfl, by decide +kernel, rfl, by decide +kernel, by decide +kernel⟩
theorem why_gives {X : Cx} {q : Str} {g : Addr} {cdg : Value} {C : Nat → Addr} (T : W9 X.K X.mg C) :
    LamX.GivesTo X ["_law_call", "_law_told", "error"] "_law_fault" (defScope sWhy) g cdg (defBody sWhy) "_law_call" q (TFault C) := by
  intro f c' s H Q tl act hc h
  refine ⟨_, pss_cons (ps_set (i := 1) scWhy.nd rfl (Or.inl rfl) (pe_tup (pa_cons pe_str pa_nil)))
    (pss_cons (ps_try_some (X := (cxOf C8.CX0 X.prog X.w X.K X.mg X.base ["_law_call", "_law_told", "error"] "_law_fault" (defScope sWhy) g cdg X.A X.stack s H C8.E0).nox) (i := 2)
      (l := [(.ref (C 0), _), (.ref (C 1), _), (.ref (C 2), _)])
      (tb := fun W D σ H => ∃ Ech : XK, (∀ cls d σ' H', Ech cls d H' → σ'.length = 3 → W cls d σ' H') ∧ σ[0]? = some (some (.ref f)) ∧ H c' = some (LamX.CodeO c' q) ∧ tl Ech H fun _ H' => D.nx σ H')
      rfl rfl scWhy.nd (fun W pn xe tk _ => ?_)
      (.cons ⟨rfl, by decide, .inl T.mR⟩ rfl rfl (fun a oe cls d pn hz hf => pss_one (ps_set (i := 1) scWhy.nd rfl (Or.inl rfl) (pe_tup (pa_cons pe_str (pa_cons (pe_xf T.xf0 T.nrR hz hf (pv 2)) pa_nil)))))
      (.cons ⟨rfl, by decide, .inl T.mN⟩ rfl rfl (fun a oe cls d pn hz hf => pss_one (ps_set (i := 1) scWhy.nd rfl (Or.inl rfl) (pe_tup (pa_cons pe_str (pa_cons (pe_xf T.xf1 T.nrW hz hf (pv 2)) (pa_cons (pe_xf T.xf1 T.nrN hz hf (pv 2)) pa_nil))))))
      (.cons ⟨rfl, by decide, .inl T.mI⟩ rfl rfl (fun a oe cls d pn hz hf => pss_one (ps_set (i := 1) scWhy.nd rfl (Or.inl rfl) (pe_tup (pa_cons pe_str (pa_cons (pe_xf T.xf2 T.nrL hz hf (pv 2)) (pa_cons (pe_xf T.xf2 T.nrH hz hf (pv 2)) pa_nil)))))) (.any _)))))
    (pss_one (ps_ret (pv 1)))), ?_⟩
  · refine ⟨fun pins s' σ H' D I h' => ?_⟩
    obtain ⟨Ech, hW, h1, h2, h3⟩ := h'
    exact (pss_one (ps_expr (act _ pn xe Ech _ _ (takes_len tk) (fun cls d σ' H' z len => hW cls d σ' H' z len)))).run pins s' σ H' D I ⟨h1, h2, h3⟩
  · refine ⟨(by show 1 ≤ sizeLine; decide), fun t0 n0 => ?_⟩
    have s1 : Same H (upd H t0 (HO.tup [V.str "none"])) := same_upd n0
    refine ⟨FaultE C Q, fun cls d σ' H' z len => ?_, rfl, s1 _ _ hc, ?_⟩
    · obtain ⟨x0, x1, x2, rfl⟩ : ∃ x0 x1 x2, σ' = [x0, x1, x2] := by
        match σ', len with
        | [x0, x1, x2], _ => exact ⟨x0, x1, x2, rfl⟩
      rcases z with ⟨rfl, dd, v, u, rfl, hdd, k⟩ | ⟨rfl, dd, wh, v, rfl, hdd, k⟩
      · refine ⟨false, T.ex20, (fun z => nomatch z), fun _ => ⟨false, T.ex21, (fun z => nomatch z), fun _ => ⟨true, T.ex22, fun _ a na => ?_, fun z => nomatch z⟩⟩⟩
        refine ⟨.ref a, rfl, rfl, rfl, dd, _, v, rfl, hdd, (by kernel_rfl), .ref a, rfl, rfl, rfl, dd, _, u, rfl, hdd, (by kernel_rfl), (by show 3 ≤ sizeLine; decide), fun t nt => ?_⟩
        exact ⟨_, rfl, k t _ (same_upd nt) upd_same⟩
      · refine ⟨false, T.ex10, (fun z => nomatch z), fun _ => ⟨true, T.ex11, fun _ a na => ?_, fun z => nomatch z⟩⟩
        refine ⟨.ref a, rfl, rfl, rfl, dd, _, .str wh, rfl, hdd, (by kernel_rfl), .ref a, rfl, rfl, rfl, dd, _, v, rfl, hdd, (by kernel_rfl), (by show 3 ≤ sizeLine; decide), fun t nt => ?_⟩
        exact ⟨_, rfl, k t _ (same_upd nt) upd_same⟩
    · exact h _ _ s1
structure Yy (K : PySem.W.Frag) (mg : Str → Option Value) where
  g : Addr
  kV : Value
  doc : Value
  pm : Value
  an : Option Addr
  cdv : Value
  ct : Value
  oc : Value
  od : Option Addr
  osl : Array (Option Value)
  m : mg "_law_fault" = some (.ref g)
  kp : PySem.W.keepIn K (.ref g) = true
  lk : K.lookup g = some ⟨oc, od, .func (PySem.W.fnOf "_law_fault" "_law_fault" (defArgs sWhy) (defBody sWhy) (defScope sWhy) .none kV doc pm an cdv ct), osl⟩
  hc : PySem.W.codeIn K cdv "_law_fault" = true
  b : L2.Binds K (PySem.W.fnOf "_law_fault" "_law_fault" (defArgs sWhy) (defBody sWhy) (defScope sWhy) .none kV doc pm an cdv ct) ["_law_call"] []
end Vf
set_option maxRecDepth 100000
set_option maxHeartbeats 8000000
namespace Vf
open PySem PySem.Spec PyProof.Rows L2
def baseG : Nat → List (List Int)
  | 1 => [[1, 0, -1], [0, -2], [1], []]
  | 2 => [[0, 0, 4, 0, -4], [0, 8, 0, -16], [0, 0, 1], [0, 1], []]
  | 3 => [[1, 0, -9, 0, 24, 0, -16], [0, -18, 0, 96, 0, -96], [1, 0, -6, 0, 8], [0, -1, 0, 4], [-1, 0, 4], []]
  | 4 => [[0, 0, 16, 0, -80, 0, 128, 0, -64], [0, 32, 0, -320, 0, 768, 0, -512], [0, 0, 3, 0, -10, 0, 8], [0, 1, 0, -4, 0, 4], [0, 0, -1, 0, 2], [0, -1, 0, 2], []]
  | 5 => [[1, 0, -25, 0, 200, 0, -560, 0, 640, 0, -256], [0, -50, 0, 800, 0, -3360, 0, 5120, 0, -2560], [1, 0, -20, 0, 120, 0, -224, 0, 128], [0, -3, 0, 40, 0, -96, 0, 64], [-1, 0, 14, 0, -40, 0, 32], [0, 1, 0, -12, 0, 16], [1, 0, -12, 0, 16], []]
  | 6 => [[0, 0, 36, 0, -420, 0, 1792, 0, -3456, 0, 3072, 0, -1024], [0, 72, 0, -1680, 0, 10752, 0, -27648, 0, 30720, 0, -12288], [0, 0, 15, 0, -140, 0, 448, 0, -576, 0, 256], [0, 3, 0, -40, 0, 168, 0, -256, 0, 128], [0, 0, -9, 0, 60, 0, -112, 0, 64], [0, -3, 0, 22, 0, -48, 0, 32], [0, 0, 3, 0, -16, 0, 16], [0, 3, 0, -16, 0, 16], []]
  | _ => []
def baseGs : Nat → List (List Int × Nat × Int)
  | 1 => [([0, 1], 2, 2), ([0, -2], 1, 1)]
  | 2 => [([0, 1], 4, 8), ([0, -16], 1, 8), ([0, 1], 1, 1)]
  | 3 => [([0, 1], 6, 6), ([0, -12], 1, 6), ([0, 2], 1, -1), ([0, 1], 1, 1)]
  | 4 => [([0, 1], 8, 32), ([0, -64], 1, 32), ([0, 2], 1, -1), ([0, 2], 1, -1), ([0, 1], 1, 1)]
  | 5 => [([0, 1], 10, 10), ([0, -20], 1, 10), ([0, 2], 1, -1), ([0, 2], 1, -1), ([0, 2], 1, -1), ([0, 1], 1, 1)]
  | 6 => [([0, 1], 12, 24), ([0, -48], 1, 24), ([0, 2], 1, -1), ([0, 2], 1, -1), ([0, 2], 1, -1), ([0, 2], 1, -1), ([0, 1], 1, 1)]
  | _ => []
def baseS : Nat → List Int
  | 1 => [1, 0, -1]
  | 2 => [0, 4, 0, -4]
  | 3 => [-1, 0, 5, 0, -4]
  | 4 => [0, -16, 0, 48, 0, -32]
  | 5 => [1, 0, -13, 0, 28, 0, -16]
  | 6 => [0, 12, 0, -76, 0, 128, 0, -64]
  | _ => []
def baseC : Nat → List (List Int)
  | 1 => [[1, 0, -1], [0, -2], [-1], []]
  | 2 => [[0, 4, 0, -4], [4, 0, -12], [0, -1], [-1], []]
  | 3 => [[-1, 0, 5, 0, -4], [0, 10, 0, -16], [2, 0, -5], [0, -1], [-1], []]
  | 4 => [[0, -16, 0, 48, 0, -32], [-16, 0, 144, 0, -160], [0, 2, 0, -3], [3, 0, -7], [0, -1], [-1], []]
  | 5 => [[1, 0, -13, 0, 28, 0, -16], [0, -26, 0, 112, 0, -96], [-3, 0, 26, 0, -28], [0, 11, 0, -16], [4, 0, -9], [0, -1], [-1], []]
  | 6 => [[0, 12, 0, -76, 0, 128, 0, -64], [12, 0, -228, 0, 640, 0, -448], [0, -9, 0, 38, 0, -32], [-2, 0, 17, 0, -18], [0, 7, 0, -10], [5, 0, -11], [0, -1], [-1], []]
  | _ => []
def baseCs : Nat → List (List Int × Nat × Int)
  | 1 => [([0, 1], 2, -2), ([0, 2], 1, -1)]
  | 2 => [([0, 1], 3, -8), ([0, 12], 1, -4), ([0, 1], 1, -1)]
  | 3 => [([0, 1], 4, -2), ([0, 16], 5, -18), ([0, 5], 1, -2), ([0, 1], 1, -1)]
  | 4 => [([0, 1], 5, -32), ([0, 160], 3, -16), ([0, 3], 7, -5), ([0, 7], 1, -3), ([0, 1], 1, -1)]
  | 5 => [([0, 1], 6, -2), ([0, 24], 7, -10), ([0, 7], 4, -3), ([0, 16], 9, -35), ([0, 9], 1, -4), ([0, 1], 1, -1)]
  | 6 => [([0, 1], 7, -8), ([0, 14], 1, -6), ([0, 16], 9, -7), ([0, 9], 5, -2), ([0, 10], 11, -27), ([0, 11], 1, -5), ([0, 1], 1, -1)]
  | _ => []
def baseU : Nat → List Int
  | 1 => [1]
  | 2 => [0, 2]
  | 3 => [-1, 0, 4]
  | 4 => [0, -4, 0, 8]
  | 5 => [1, 0, -12, 0, 16]
  | 6 => [0, 6, 0, -32, 0, 32]
  | _ => []
/-- m g(k) = q g(k + 1) + w g(k + 2), as rows -/
def stepOk (a b c : List Int) (s : List Int × Nat × Int) : Bool :=
  decide (0 < s.2.1) && decide (s.2.2 ≠ 0) && decide (s.1.length = a.length - b.length + 1) && decide (b.length ≤ a.length) && decide (c.length < b.length) &&
  decide (stripQ (pscale (qi a) (s.2.1 : Rat)) = stripQ (padd (pmul (qi s.1) (qi b)) (pscale (qi c) (s.2.2 : Rat))))
def rowOk (g : List Int) : Bool := decide (stripQ (qi g) = qi g) && decide (g.length ≤ 13) && g.all fun z => decide (z.natAbs ≤ 2 ^ 16)
def stepsOk : List (List Int) → List (List Int × Nat × Int) → Bool
  | a :: b :: c :: l, s :: t => stepOk a b c s && (s.1.all fun z => decide (z.natAbs ≤ 2 ^ 16)) && decide (s.2.1 ≤ 2 ^ 16) && decide (s.2.2.natAbs ≤ 2 ^ 16) && stepsOk (b :: c :: l) t
  | [_, b], [] => decide (b = [])
  | _, _ => false
def okT (x : Rat) : Bool := decide (x.den ∣ 2 ^ 12) && decide (x.num.natAbs ≤ x.den)
def tV (n : Nat) (x : Rat) : Nat := chg (((baseC n).dropLast).map fun g => ev (qi g) x)
def tZ (n : Nat) : Rat → Bool := zeroB (qi (baseS n))
def tRun (n : Nat) : Option (List (Rat × Rat)) := runC okT (tZ n) (tV n) 4500 [(-1, 1)] []
def cellsOk (f : List (Rat × Rat)) : Bool := decide (f.length ≤ 100) && f.all fun p => okT p.1 && okT p.2
def nOk (n : Nat) : Bool :=
  (baseG n).all rowOk && (baseC n).all rowOk && stepsOk (baseG n) (baseGs n) && stepsOk (baseC n) (baseCs n) &&
  decide ((baseG n).length = n + 3) && decide ((baseC n).length = n + 3) && ((baseCs n).all fun s => decide (s.2.2 < 0)) &&
  decide (qi ((baseG n).getD 0 []) = stripQ (padd [1] (stripQ (pscale (stripQ (pmul (chb n).2 (chb n).2)) (-1))))) &&
  decide (qi ((baseG n).getD 1 []) = stripQ (pslope (qi ((baseG n).getD 0 [])))) &&
  decide (qi ((baseG n).getD 0 []) = stripQ (pmul (qi (baseS n)) (qi ((baseG n).getD (n + 1) [])))) &&
  decide ((baseC n).getD 0 [] = baseS n) && decide (qi ((baseC n).getD 1 []) = stripQ (pslope (qi (baseS n)))) &&
  decide (qi ((baseG n).getD 0 []) = stripQ (pmul [1, 0, -1] (pmul (qi (baseU n)) (qi (baseU n))))) && decide (0 < ((baseG n).getD (n + 1) []).getLastD 0) &&
  decide ((baseS n).length = n + 2) && decide (((baseG n).getD (n + 1) []).length = n) && decide (manyF (tV n) (tZ n) (-1) 1 = n + 1) &&
  (match tRun n with | some f => cellsOk f | none => false)
theorem base_ok : ([1, 2, 3, 4, 5, 6].all nOk) = true := by decide +kernel
end Vf
set_option maxRecDepth 100000
set_option maxHeartbeats 8000000
namespace Vf
open PySem PySem.Spec PyProof.Rows L2
def im (s t al : Rat) (p : List Rat) : List Rat := stripQ (pscale (mvl s t p) al)
theorem ev_mvl (s t x : Rat) : ∀ p : List Rat, ev (mvl s t p) x = ev p (s + t * x)
  | [] => rfl
  | c :: l => by
    show ev (stripQ (padd (stripQ (pmul (mvl s t l) (stripQ [s, t]))) (stripQ [c]))) x = c + (s + t * x) * ev l (s + t * x)
    rw [ev_stripQ, ev_padd, ev_stripQ, ev_pmul, ev_mvl s t x l, ev_stripQ, ev_stripQ]
    show ev l (s + t * x) * (s + x * (t + x * 0)) + (c + x * 0) = _
    grind
theorem ev_im (s t al : Rat) (p : List Rat) (x : Rat) : ev (im s t al p) x = ev p (s + t * x) * al := by
  unfold im
  rw [ev_stripQ, ev_pscale, ev_mvl]
theorem im_strip (s t al : Rat) (p : List Rat) : stripQ (im s t al p) = im s t al p := stripQ_id (stripQ_stp _)
/-- two rows of the same values -/
theorem im_eq {s t al : Rat} {p A : List Rat} (hA : stripQ A = A) (h : ∀ x, ev A x = ev p (s + t * x) * al) : A = im s t al p := strip_same hA (im_strip ..) fun x => by rw [h, ev_im]
theorem im_scale (s t al c : Rat) (p : List Rat) : stripQ (pscale (im s t al p) c) = im s t (al * c) p := im_eq (stripQ_id (stripQ_stp _)) fun x => by
  rw [ev_stripQ, ev_pscale, ev_im]
  grind
theorem cf_mvl_top (s t : Rat) : ∀ (l : List Rat), cf (mvl s t l) (l.length - 1) = cf l (l.length - 1) * t ^ (l.length - 1)
  | [] => by
    show (0 : Rat) = 0 * _
    rw [Rat.zero_mul]
  | [c] => by
    rw [cf_mvl]
    show cf [] 0 * s + (if 0 = 0 then 0 else _) + (if 0 = 0 then c else 0) = c * t ^ 0
    rw [if_pos rfl, if_pos rfl, cf_nil, Rat.pow_zero]
    grind
  | c :: d :: l => by
    have ih := cf_mvl_top s t (d :: l)
    have hl := mvl_len s t (d :: l)
    rw [cf_mvl]
    have e : (c :: d :: l).length - 1 = (d :: l).length - 1 + 1 := rfl
    rw [e, if_neg (by omega), if_neg (by omega), Nat.add_sub_cancel, cf_ge (l := mvl s t (d :: l)) (by simp at hl ⊢; omega), ih, Rat.pow_succ, show cf (c :: d :: l) ((d :: l).length - 1 + 1) = cf (d :: l) ((d :: l).length - 1) from rfl]
    grind
theorem pow_ne {t : Rat} (h : t ≠ 0) : ∀ n : Nat, t ^ n ≠ 0
  | 0 => by rw [Rat.pow_zero]; decide +kernel
  | n + 1 => by
    rw [Rat.pow_succ]
    intro z
    rcases Rat.mul_eq_zero.mp z with z | z
    · exact pow_ne h n z
    · exact h z
theorem last_ne {p : List Rat} (hp : stripQ p = p) (hne : p ≠ []) : cf p (p.length - 1) ≠ 0 := fun z => by
  have h := stripQ_stp p
  rw [hp] at h
  refine h p.dropLast (p.getLast hne) (List.dropLast_concat_getLast hne).symm ?_
  rw [List.getLast_eq_getElem, ← cf_lt]
  exact z
theorem len_of {p : List Rat} {n : Nat} (hp : stripQ p = p) (h1 : p.length ≤ n + 1) (h2 : cf p n ≠ 0) : p.length = n + 1 := by
  rcases Nat.lt_or_ge n p.length with h | h
  · omega
  · exact absurd (cf_ge h) h2
section
variable {s t al : Rat} {p : List Rat}
theorem im_top (hp : stripQ p = p) (hne : p ≠ []) (ht : t ≠ 0) (ha : al ≠ 0) : (im s t al p).length = p.length ∧ cf (im s t al p) (p.length - 1) = cf p (p.length - 1) * t ^ (p.length - 1) * al ∧ cf (im s t al p) (p.length - 1) ≠ 0 := by
  have l0 := List.length_pos_iff.mpr hne
  have e : cf (im s t al p) (p.length - 1) = cf p (p.length - 1) * t ^ (p.length - 1) * al := by
    unfold im
    rw [cf_stripQ, cf_pscale, cf_mvl_top]
  have ne : cf (im s t al p) (p.length - 1) ≠ 0 := by
    rw [e]
    intro z
    rcases Rat.mul_eq_zero.mp z with z | z
    · rcases Rat.mul_eq_zero.mp z with z | z
      · exact last_ne hp hne z
      · exact pow_ne ht _ z
    · exact ha z
  refine ⟨?_, e, ne⟩
  have h1 : (im s t al p).length ≤ p.length := by
    unfold im
    have z1 := stripQ_len (pscale (mvl s t p) al)
    have z2 := show (pscale (mvl s t p) al).length = (mvl s t p).length from List.length_map ..
    have z3 := mvl_len s t p
    omega
  have := len_of (n := p.length - 1) (im_strip s t al p) (by omega) ne
  omega
theorem im_len : (im s t al p).length ≤ p.length := by
  unfold im
  have z1 := stripQ_len (pscale (mvl s t p) al)
  have z2 := show (pscale (mvl s t p) al).length = (mvl s t p).length from List.length_map ..
  have z3 := mvl_len s t p
  omega
end
theorem ev_pslope (c x : Rat) (l : List Rat) : ev (pslope (c :: l)) x = ev l x + x * ev (pslope l) x := by
  have e : ∀ i, cf (pslope (c :: l)) i = cf (padd l (0 :: pslope l)) i := fun i => by
    rw [cf_padd]
    unfold pslope
    rw [cf_tab]
    have e0 : (c :: l).length - 1 = l.length := rfl
    rw [e0]
    cases i with
    | zero =>
      show (if 0 < l.length then cf l 0 * _ else 0) = cf l 0 + 0
      split
      · show cf l 0 * ((0 + 1 : Nat) : Rat) = _
        have : ((0 + 1 : Nat) : Rat) = 1 := rfl
        rw [this]
        grind
      · rw [cf_ge (by omega)]
        grind
    | succ i =>
      show (if i + 1 < l.length then cf l (i + 1) * ((i + 1 + 1 : Nat) : Rat) else 0) = cf l (i + 1) + cf (tab (l.length - 1) fun j => cf l (j + 1) * ((j + 1 : Nat) : Rat)) i
      rw [cf_tab]
      by_cases h : i + 1 < l.length
      · rw [if_pos h, if_pos (by omega)]
        have : ((i + 1 + 1 : Nat) : Rat) = 1 + ((i + 1 : Nat) : Rat) := by
          rw [Nat.add_comm (i + 1) 1]
          exact_mod_cast rfl
        rw [this]
        grind
      · rw [if_neg h, if_neg (by omega), cf_ge (by omega)]
        grind
  rw [ev_ext e, ev_padd]
  show _ + (0 + x * ev (pslope l) x) = _
  grind
theorem ev_taylor (x : Rat) : ∀ p : List Rat, ∃ k : List Rat, ∀ h, ev p (x + h) = ev p x + h * ev (pslope p) x + h * h * ev k h
  | [] => ⟨[], fun h => by
    show (0 : Rat) = 0 + h * ev (pslope []) x + h * h * 0
    have : ev (pslope []) x = 0 := rfl
    rw [this]
    grind⟩
  | c :: l => by
    obtain ⟨k, hk⟩ := ev_taylor x l
    refine ⟨padd [ev (pslope l) x] (pmul [x, 1] k), fun h => ?_⟩
    rw [ev_pslope, ev_padd, ev_pmul]
    show c + (x + h) * ev l (x + h) = c + x * ev l x + h * (ev l x + x * ev (pslope l) x) + h * h * (ev (pslope l) x + h * 0 + (x + h * (1 + h * 0)) * ev k h)
    rw [hk h]
    grind
theorem ev_slope_im (s t al : Rat) (p : List Rat) (x : Rat) : ev (pslope (im s t al p)) x = ev (pslope p) (s + t * x) * (al * t) := by
  obtain ⟨k1, h1⟩ := ev_taylor x (im s t al p)
  obtain ⟨k2, h2⟩ := ev_taylor (s + t * x) p
  -- the difference, over h
  let d := ev (pslope (im s t al p)) x - ev (pslope p) (s + t * x) * (al * t)
  have key : ∀ h, h ≠ 0 → ev [d] h = ev (padd (0 :: pscale (mvl 0 t k2) (al * (t * t))) (0 :: pscale k1 (-1))) h := fun h hh => by
    have e1 := h1 h
    rw [ev_im, ev_im, show s + t * (x + h) = (s + t * x) + t * h by grind, h2 (t * h)] at e1
    rw [ev_padd]
    show d + h * 0 = (0 + h * ev (pscale (mvl 0 t k2) (al * (t * t))) h) + (0 + h * ev (pscale k1 (-1)) h)
    rw [ev_pscale, ev_pscale, ev_mvl, show (0 : Rat) + t * h = t * h by grind]
    have e2 : h * d = h * (h * (ev k2 (t * h) * (al * (t * t))) + h * (ev k1 h * (-1))) := by
      show h * (ev (pslope (im s t al p)) x - ev (pslope p) (s + t * x) * (al * t)) = _
      grind
    have e3 : d = h * (ev k2 (t * h) * (al * (t * t))) + h * (ev k1 h * (-1)) := by
      have := congrArg (fun z : Rat => h⁻¹ * z) e2
      have this : h⁻¹ * (h * d) = h⁻¹ * (h * (h * (ev k2 (t * h) * (al * (t * t))) + h * (ev k1 h * (-1)))) := this
      rw [← Rat.mul_assoc, ← Rat.mul_assoc, Rat.inv_mul_cancel h hh, Rat.one_mul, Rat.one_mul] at this
      exact this
    rw [e3]
    grind
  have z := ev_inj key 0
  rw [cf_padd] at z
  have z : d = 0 + 0 := z
  have : ev (pslope (im s t al p)) x - ev (pslope p) (s + t * x) * (al * t) = 0 + 0 := z
  grind
theorem slope_im (s t al : Rat) (p : List Rat) : stripQ (pslope (im s t al p)) = im s t (al * t) (pslope p) := im_eq (stripQ_id (stripQ_stp _)) fun x => by rw [ev_stripQ, ev_slope_im]
theorem im_strip_in (s t al : Rat) (p : List Rat) : im s t al (stripQ p) = im s t al p := im_eq (im_strip ..) fun x => by rw [ev_im, ev_stripQ]
end Vf
set_option maxRecDepth 100000
set_option maxHeartbeats 8000000
namespace Vf
open PySem PySem.Spec PyProof.Rows L2
structure Geo (s t : Rat) (D : Nat) : Prop where
  d0 : 0 < D
  d : D ≤ 2 ^ 26
  fs : Fr D (2 ^ 26) s
  ft : Fr D (2 ^ 26) t
  t0 : 0 < t
structure Bs (p : List Rat) : Prop where
  s : stripQ p = p
  l : p.length ≤ 13
  f : ∀ i, Fr 1 (2 ^ 16) (cf p i)
theorem Fr.sc {M N a : Nat} {x c : Rat} (h : Fr M N x) (hc : Hb a c) : Fr (M * c.den) (N * 2 ^ a) (x * c) := (h.mul hc.fr)
section
variable {s t : Rat} {D : Nat}
theorem Geo.tn (G : Geo s t D) : t ≠ 0 := fun z => by have := G.t0; rw [z] at this; exact absurd this (by decide +kernel)
theorem Geo.ht (G : Geo s t D) : Hb 26 t := Hb.of G.ft G.d0 G.d (Nat.le_refl _)
/-- a moved row's numbers, over one bottom -/
theorem mv_fr (G : Geo s t D) {p : List Rat} (h : ∀ i, Fr 1 (2 ^ 16) (cf p i)) (hl : p.length ≤ 13) : ∃ M N, 0 < M ∧ M ≤ 2 ^ 338 ∧ N ≤ 2 ^ 371 ∧ ∀ i, Fr M N (cf (mvl s t p) i) := by
  have z := fr_mvl (M := 1) (N := 2 ^ 16) (W := 2 ^ 27) (Nat.le_trans G.d (Nat.pow_le_pow_right (by decide) (by decide))) (by rw [← Nat.pow_succ']; exact Nat.le_refl _) G.fs G.ft (a := p) fun x hx => by
    obtain ⟨i, rfl⟩ := mem_cf hx
    exact h i
  refine ⟨_, _, ?_, ?_, ?_, z⟩
  · exact Nat.mul_pos (by decide) (Nat.pow_pos G.d0)
  · rw [Nat.one_mul]
    refine Nat.le_trans (Nat.pow_le_pow_left G.d _) ?_
    rw [← Nat.pow_mul]
    exact Nat.pow_le_pow_right (by decide) (by omega)
  · have : p.length * (2 ^ 27) ^ p.length ≤ 2 ^ 4 * 2 ^ 351 := by
      refine Nat.mul_le_mul (by omega) ?_
      rw [← Nat.pow_mul]
      exact Nat.pow_le_pow_right (by decide) (by omega)
    refine Nat.le_trans (Nat.mul_le_mul_left _ this) ?_
    rw [← Nat.pow_add, ← Nat.pow_add]
    exact Nat.pow_le_pow_right (by decide) (by decide)
theorem im_fr (G : Geo s t D) {p : List Rat} {al : Rat} {a : Nat} (h : ∀ i, Fr 1 (2 ^ 16) (cf p i)) (hl : p.length ≤ 13) (ha : Hb a al) : ∃ M N, 0 < M ∧ M ≤ 2 ^ (338 + a) ∧ N ≤ 2 ^ (371 + a) ∧ ∀ i, Fr M N (cf (im s t al p) i) := by
  obtain ⟨M, N, hM, h1, h2, h3⟩ := mv_fr G h hl
  refine ⟨M * al.den, N * 2 ^ a, Nat.mul_pos hM al.den_pos, ?_, ?_, fun i => ?_⟩
  · rw [Nat.pow_add]
    exact Nat.mul_le_mul h1 ha.2
  · rw [Nat.pow_add]
    exact Nat.mul_le_mul_right _ h2
  · unfold im
    rw [cf_stripQ, cf_pscale]
    exact (h3 i).sc ha
theorem im_hb (G : Geo s t D) {p : List Rat} {al : Rat} {a : Nat} (h : ∀ i, Fr 1 (2 ^ 16) (cf p i)) (hl : p.length ≤ 13) (ha : Hb a al) (i : Nat) : Hb (371 + a) (cf (im s t al p) i) := by
  obtain ⟨M, N, h1, h2, h3, h4⟩ := im_fr G h hl ha
  exact Hb.of (h4 i) h1 (Nat.le_trans h2 (Nat.pow_le_pow_right (by decide) (by omega))) h3
theorem rsd_fr {Q B R : List Rat} {M1 N1 M2 N2 M3 N3 : Nat} (hQ : ∀ i, Fr M1 N1 (cf Q i)) (hB : ∀ i, Fr M2 N2 (cf B i)) (hR : ∀ i, Fr M3 N3 (cf R i)) : ∀ m i, Fr (M1 * M2 * M3) (N3 * (M1 * M2) + m * (N1 * N2 * M3)) (rsd Q B R m i)
  | 0, i => by
    show Fr _ _ (cf R i)
    rw [Nat.mul_comm (M1 * M2) M3, Nat.zero_mul, Nat.add_zero]
    exact (hR i).scale _
  | m + 1, i => by
    have ih := rsd_fr hQ hB hR m i
    have h2 : Fr (M1 * M2 * M3) (N1 * N2 * M3) (cf Q m * bI B i m) := by
      refine ((hQ m).mul ?_).scale M3
      unfold bI
      split
      · exact hB _
      · exact Fr.zero _ _
    refine (ih.add h2).le ?_
    rw [Nat.succ_mul]
    omega
/-- the division of moved rows -/
theorem dvr (G : Geo s t D) {a b c q : List Rat} {m w al be : Rat} (ha : Bs a) (hb : Bs b) (hc : Bs c) (hq : ∀ i, Fr 1 (2 ^ 16) (cf q i)) (hb0 : b ≠ []) (lab : b.length ≤ a.length) (lq : q.length = a.length - b.length + 1) (lcb : c.length < b.length)
    (m0 : m ≠ 0) (hm : Hb 16 m) (hw : Hb 16 w) (al0 : al ≠ 0) (be0 : be ≠ 0) (hal : Hb 700 al) (hbe : Hb 700 be) (e : ∀ y, ev a y * m = ev q y * ev b y + ev c y * w) :
    ∃ Q M N, DvR (im s t al a) (im s t be b) Q (im s t (al * w / m) c) M N ∧ stripQ Q = im s t (al / (be * m)) q := by
  have l0 := List.length_pos_iff.mpr hb0
  have a0 : a ≠ [] := fun z => by rw [z] at lab; have lab : b.length ≤ 0 := lab; omega
  obtain ⟨la1, ta, na⟩ := im_top (s := s) ha.s a0 G.tn al0
  obtain ⟨lb1, tb, nb⟩ := im_top (s := s) hb.s hb0 G.tn be0
  have hl13 := ha.l
  have hkap : Hb 1416 (al / (be * m)) := (hal.div (hbe.mul hm) (fun z => (Rat.mul_eq_zero.mp z).elim be0 m0)).up (by decide)
  have hrho : Hb 732 (al * w / m) := ((hal.mul hw).div hm m0).up (by decide)
  have lim : (im s t (al / (be * m)) q).length ≤ a.length - b.length + 1 := by
    have := im_len (s := s) (t := t) (al := al / (be * m)) (p := q)
    omega
  have cq : ∀ i, cf (tab (a.length - b.length + 1) (cf (im s t (al / (be * m)) q))) i = cf (im s t (al / (be * m)) q) i := fun i => by
    rw [cf_tab]
    split
    · rfl
    · exact (cf_ge (by omega)).symm
  obtain ⟨M1, N1, p1, b1, c1, f1⟩ := im_fr G hq (by omega) hkap
  obtain ⟨M2, N2, p2, b2, c2, f2⟩ := im_fr G hb.f hb.l hbe
  obtain ⟨M3, N3, p3, b3, c3, f3⟩ := im_fr G hc.f hc.l hrho
  refine ⟨tab (a.length - b.length + 1) (cf (im s t (al / (be * m)) q)), M3, N3, ⟨⟨by omega, by omega, by omega, by rw [lb1]; exact nb, by rw [tab_len]; omega, fun i hi => cf_ge ?_, fun i => ?_⟩, ⟨fun i => ?_, fun i => ?_, fun i j => ?_, fun k i => ?_⟩, f3, p3, ?_, ?_⟩, ?_⟩
  · have := im_len (s := s) (t := t) (al := al * w / m) (p := c)
    omega
  · have key : ∀ x, x ≠ 0 → ev (im s t al a) x = ev (padd (im s t (al * w / m) c) (pmul (tab (a.length - b.length + 1) (cf (im s t (al / (be * m)) q))) (im s t be b))) x := fun x _ => by
      rw [ev_padd, ev_pmul, ev_ext cq x, ev_im, ev_im, ev_im, ev_im]
      have h := e (s + t * x)
      generalize ev a (s + t * x) = ya at h ⊢
      generalize ev b (s + t * x) = yb at h ⊢
      generalize ev c (s + t * x) = yc at h ⊢
      generalize ev q (s + t * x) = yq at h ⊢
      have e1 : al * w / m = al * w * m⁻¹ := Rat.div_def ..
      have e2 : al / (be * m) * be = al * m⁻¹ := by
        have bm : be * m ≠ 0 := fun z => (Rat.mul_eq_zero.mp z).elim be0 m0
        have z1 : al / (be * m) * (be * m) = al := Rat.div_mul_cancel bm
        have z2 : m * m⁻¹ = 1 := Rat.mul_inv_cancel m m0
        have z3 : al / (be * m) * be = al / (be * m) * be * (m * m⁻¹) := by rw [z2, Rat.mul_one]
        rw [z3]
        have z4 : al / (be * m) * be * (m * m⁻¹) = al / (be * m) * (be * m) * m⁻¹ := by grind
        rw [z4, z1]
      have z2 : m * m⁻¹ = 1 := Rat.mul_inv_cancel m m0
      have e3 : yq * (al / (be * m)) * (yb * be) = yq * yb * (al / (be * m) * be) := by grind
      rw [e3, e2, e1]
      have e4 : yc * (al * w * m⁻¹) + yq * yb * (al * m⁻¹) = (yq * yb + yc * w) * (al * m⁻¹) := by grind
      rw [e4, ← h]
      have e5 : ya * m * (al * m⁻¹) = ya * al * (m * m⁻¹) := by grind
      rw [e5, z2, Rat.mul_one]
    have z := ev_inj key i
    rw [cf_padd, cf_pmul] at z
    exact z
  · exact (im_hb G hb.f hb.l hbe i).sr (by decide)
  · rw [cq]
    exact (im_hb G hq (by omega) hkap i).sr (by decide)
  · rw [cq]
    exact ((im_hb G hq (by omega) hkap i).mul (im_hb G hb.f hb.l hbe j)).sr (by decide)
  · have zq : ∀ j, 14 ≤ j → cf (tab (a.length - b.length + 1) (cf (im s t (al / (be * m)) q))) j = 0 := fun j hj => cf_ge (by rw [tab_len]; omega)
    have main : ∀ k, k ≤ 14 → Sr (rsd (tab (a.length - b.length + 1) (cf (im s t (al / (be * m)) q))) (im s t be b) (im s t (al * w / m) c) k i) := fun k hk => by
      have fq : ∀ i, Fr M1 N1 (cf (tab (a.length - b.length + 1) (cf (im s t (al / (be * m)) q))) i) := fun i => by
        rw [cq]
        exact f1 i
      refine (Hb.of (k := 4101) (rsd_fr fq f2 f3 k i) (Nat.mul_pos (Nat.mul_pos p1 p2) p3) ?_ ?_).sr (by decide)
      · refine Nat.le_trans (Nat.mul_le_mul (Nat.mul_le_mul b1 b2) b3) ?_
        rw [← Nat.pow_add, ← Nat.pow_add]
        exact Nat.pow_le_pow_right (by decide) (by decide)
      · have h1 : N3 * (M1 * M2) ≤ 2 ^ 4100 := by
          refine Nat.le_trans (Nat.mul_le_mul c3 (Nat.mul_le_mul b1 b2)) ?_
          rw [← Nat.pow_add, ← Nat.pow_add]
          exact Nat.pow_le_pow_right (by decide) (by decide)
        have h2 : k * (N1 * N2 * M3) ≤ 2 ^ 4100 := by
          refine Nat.le_trans (Nat.mul_le_mul (show k ≤ 2 ^ 4 by omega) (Nat.mul_le_mul (Nat.mul_le_mul c1 c2) b3)) ?_
          rw [← Nat.pow_add, ← Nat.pow_add, ← Nat.pow_add]
          exact Nat.pow_le_pow_right (by decide) (by decide)
        have h3 : 2 ^ 4100 + 2 ^ 4100 ≤ 2 ^ 4101 := by rw [← Nat.two_mul, ← Nat.pow_succ']; exact Nat.le_refl _
        exact Nat.le_trans (Nat.add_le_add h1 h2) h3
    by_cases hk : k ≤ 14
    · exact main k hk
    · rw [rsd_pc k i fun j hj => zq j (by omega), ← rsd_pc 14 i zq]
      exact main 14 (Nat.le_refl _)
  · exact Nat.lt_of_le_of_lt b3 (Nat.pow_lt_pow_right (by decide) (by decide))
  · exact Nat.lt_of_le_of_lt c3 (Nat.pow_lt_pow_right (by decide) (by decide))
  · exact (stripQ_ext cq).trans (im_strip ..)
end
end Vf
set_option maxRecDepth 100000
set_option maxHeartbeats 8000000
namespace Vf
open PySem PySem.Spec PyProof.Rows L2
def stOk (neg : Bool) (G : List (List Int)) (S : List (List Int × Nat × Int)) (k : Nat) : Bool :=
  stepOk (G.getD k []) (G.getD (k + 1) []) (G.getD (k + 2) []) (S.getD k ([], 1, 1)) && ((S.getD k ([], 1, 1)).1.all fun z => decide (z.natAbs ≤ 2 ^ 16)) && decide ((S.getD k ([], 1, 1)).2.1 ≤ 2 ^ 16) && decide ((S.getD k ([], 1, 1)).2.2.natAbs ≤ 2 ^ 16) && (!neg || decide ((S.getD k ([], 1, 1)).2.2 < 0))
def seqOk (neg : Bool) (G : List (List Int)) (S : List (List Int × Nat × Int)) (K : Nat) : Bool :=
  ((List.range (K + 2)).all fun k => rowOk (G.getD k [])) && ((List.range (K + 1)).all fun k => decide (G.getD k [] ≠ [])) && decide (G.getD (K + 1) [] = []) && (List.range K).all (stOk neg G S)
theorem seq_ok : ([1, 2, 3, 4, 5, 6].all fun n => seqOk false (baseG n) (baseGs n) (n + 1) && seqOk true (baseC n) (baseCs n) (n + 1)) = true := by decide +kernel
structure Stp1 (neg : Bool) (a b c : List Rat) (q : List Rat) (m w : Rat) : Prop where
  hq : ∀ i, Fr 1 (2 ^ 16) (cf q i)
  lq : q.length = a.length - b.length + 1
  lab : b.length ≤ a.length
  lcb : c.length < b.length
  m0 : 0 < m
  hm : Hb 16 m
  hw : Hb 16 w
  w0 : w ≠ 0
  wn : neg = true → w < 0
  e : ∀ y, ev a y * m = ev q y * ev b y + ev c y * w
structure Sq (neg : Bool) (g : Nat → List Rat) (K : Nat) : Prop where
  bs : ∀ k, k ≤ K + 1 → Bs (g k)
  ne : ∀ k, k ≤ K → g k ≠ []
  nil : g (K + 1) = []
  st : ∀ k, k < K → ∃ q m w, Stp1 neg (g k) (g (k + 1)) (g (k + 2)) q m w
theorem fr1_of {l : List Int} (h : ∀ z ∈ l, z.natAbs ≤ 2 ^ 16) (i : Nat) : Fr 1 (2 ^ 16) (cf (qi l) i) := by
  rw [cf_qi]
  have hz : (ci l i).natAbs ≤ 2 ^ 16 := by
    by_cases hi : i < l.length
    · exact h _ (List.mem_of_getElem? (ci_lt hi))
    · rw [ci_ge (by omega)]
      exact Nat.zero_le _
  exact ⟨ci l i, by rw [show ((1 : Nat) : Rat) = 1 from rfl, Rat.mul_one], hz⟩
theorem row_bs {l : List Int} (h : rowOk l = true) : Bs (qi l) := by
  unfold rowOk at h
  simp only [Bool.and_eq_true, decide_eq_true_eq, List.all_eq_true] at h
  exact ⟨h.1.1, by rw [qi_len]; exact h.1.2, fr1_of h.2⟩
theorem hb_int {z : Int} (h : z.natAbs ≤ 2 ^ 16) : Hb 16 (z : Rat) := Hb.int h
theorem sq_of {neg : Bool} {G : List (List Int)} {S : List (List Int × Nat × Int)} {K : Nat} (h : seqOk neg G S K = true) : Sq neg (fun k => qi (G.getD k [])) K := by
  unfold seqOk at h
  simp only [Bool.and_eq_true, decide_eq_true_eq, List.all_eq_true, List.mem_range] at h
  obtain ⟨⟨⟨h1, h2⟩, h3⟩, h4⟩ := h
  refine ⟨fun k hk => row_bs (h1 k (by omega)), fun k hk z => h2 k (by omega) (List.map_eq_nil_iff.mp z), by rw [h3]; rfl, fun k hk => ?_⟩
  have z := h4 k hk
  unfold stOk stepOk at z
  simp only [Bool.and_eq_true, decide_eq_true_eq, List.all_eq_true, Bool.or_eq_true, Bool.not_eq_true'] at z
  obtain ⟨⟨⟨⟨⟨⟨⟨⟨⟨z1, z2⟩, z3⟩, z4⟩, z5⟩, z6⟩, z7⟩, z8⟩, z9⟩, z10⟩ := z
  generalize S.getD k ([], 1, 1) = s at *
  refine ⟨qi s.1, (s.2.1 : Rat), (s.2.2 : Rat), fr1_of z7, by rw [qi_len, qi_len, qi_len]; exact z3, by rw [qi_len, qi_len]; exact z4, by rw [qi_len, qi_len]; exact z5, by exact_mod_cast z1, ?_, hb_int z9, by exact_mod_cast z2, fun hn => ?_, fun y => ?_⟩
  · have := hb_int (z := (s.2.1 : Int)) (by rw [Int.natAbs_natCast]; exact z8)
    exact this
  · have : s.2.2 < 0 := z10.resolve_left (by rw [hn]; simp)
    exact_mod_cast this
  · have e := congrArg (fun p => ev p y) z6
    simp only [ev_stripQ, ev_pscale, ev_padd, ev_pmul] at e
    exact e
section
variable {s t : Rat} {D : Nat}
/-- a short row, in numbers -/
theorem prim_im (G : Geo s t D) {g P : List Rat} {al c : Rat} (hg : Bs g) (hne : g ≠ []) (al0 : al ≠ 0) (h : Prim (im s t al g) P c) : P = im s t (al * c) g ∧ (∀ i, (cf P i).den = 1 ∧ (cf P i).num.natAbs ≤ 2 ^ 371) ∧ Hb 700 (al * c) ∧ al * c ≠ 0 := by
  have e : P = im s t (al * c) g := by rw [h.e, im_scale]
  have c0 : c ≠ 0 := fun z => by have := h.c0; rw [z] at this; exact absurd this (by decide +kernel)
  have ga0 : al * c ≠ 0 := fun z => (Rat.mul_eq_zero.mp z).elim al0 c0
  obtain ⟨M, N, hM, h1, h2, h3⟩ := mv_fr G hg.f hg.l
  have M0 : (M : Rat) ≠ 0 := by
    have : M ≠ 0 := by omega
    exact_mod_cast this
  let rho := al * c / (M : Rat)
  have hrho : rho * (M : Rat) = al * c := Rat.div_mul_cancel M0
  have ent : ∀ i, ∃ v : Int, v.natAbs ≤ N ∧ (cf P i).num * (rho.den : Int) = v * rho.num := fun i => by
    obtain ⟨v, ev1, hv⟩ := h3 i
    refine ⟨v, hv, ?_⟩
    have e1 : cf P i = cf (mvl s t g) i * (al * c) := by
      rw [e]
      unfold im
      rw [cf_stripQ, cf_pscale]
    have e2 : cf P i = (v : Rat) * rho := by rw [e1, ← hrho, ← ev1]; grind
    have e3 : ((cf P i).num : Rat) = cf P i := by
      have := num_den (cf P i)
      rw [h.d i] at this
      rw [← this]
      exact (Rat.mul_one _)
    have e4 : (((cf P i).num * (rho.den : Int) : Int) : Rat) = ((v * rho.num : Int) : Rat) := by
      rw [Rat.intCast_mul, Rat.intCast_mul, e3, e2, ← num_den rho]
      show (v : Rat) * rho * (rho.den : Rat) = (v : Rat) * (rho * (rho.den : Rat))
      grind
    exact_mod_cast e4
  have unit : rho.num.natAbs ∣ 1 := h.u _ fun i => by
    obtain ⟨v, _, e1⟩ := ent i
    have h1 : rho.num.natAbs ∣ (cf P i).num.natAbs * rho.den := by
      have := congrArg Int.natAbs e1
      rw [Int.natAbs_mul, Int.natAbs_mul, Int.natAbs_natCast] at this
      exact ⟨v.natAbs, by rw [this, Nat.mul_comm]⟩
    exact Nat.Coprime.dvd_of_dvd_mul_right rho.reduced h1
  have u1 : rho.num.natAbs = 1 := Nat.dvd_one.mp unit
  have bnd : ∀ i, (cf P i).num.natAbs ≤ 2 ^ 371 := fun i => by
    obtain ⟨v, hv, e1⟩ := ent i
    have := congrArg Int.natAbs e1
    rw [Int.natAbs_mul, Int.natAbs_mul, Int.natAbs_natCast, u1, Nat.mul_one] at this
    have := Nat.le_mul_of_pos_right (cf P i).num.natAbs rho.den_pos
    omega
  refine ⟨e, fun i => ⟨h.d i, bnd i⟩, ?_, ga0⟩
  obtain ⟨_, tp, tn⟩ := im_top (s := s) hg.s hne G.tn ga0
  have k0 : cf g (g.length - 1) * t ^ (g.length - 1) ≠ 0 := fun z => (Rat.mul_eq_zero.mp z).elim (last_ne hg.s hne) (pow_ne G.tn _)
  have e5 : al * c = cf P (g.length - 1) / (cf g (g.length - 1) * t ^ (g.length - 1)) := by
    rw [e, tp]
    have : cf g (g.length - 1) * t ^ (g.length - 1) * (al * c) = al * c * (cf g (g.length - 1) * t ^ (g.length - 1)) := by grind
    rw [this, Rat.mul_div_cancel k0]
  rw [e5]
  have hg1 : Hb 16 (cf g (g.length - 1)) := Hb.of (hg.f _) (by decide) (Nat.pow_pos (by decide)) (Nat.le_refl _)
  have l13 := hg.l
  have hP : Hb 371 (cf P (g.length - 1)) := ⟨bnd _, by rw [h.d]; exact Nat.pow_pos (by decide)⟩
  exact (hP.div (hg1.mul (G.ht.pow _)) k0).up (by omega)
def cI (s t : Rat) (g : Nat → List Rat) (k : Nat) (A B : List Rat) : Prop := ∃ al be, al ≠ 0 ∧ be ≠ 0 ∧ Hb 700 al ∧ Hb 700 be ∧ A = im s t al (g k) ∧ B = im s t be (g (k + 1))
theorem cmI_of (G : Geo s t D) {neg : Bool} {g : Nat → List Rat} {K : Nat} (S : Sq neg g K) (hK : K ≤ 100) : CmI (cI s t g) K (im s t (1 / (cf (g K) ((g K).length - 1) * t ^ ((g K).length - 1))) (g K)) := by
  refine ⟨hK, fun k A B hk ⟨al, be, a0, b0, ha, hb, eA, eB⟩ => ?_, fun A B ⟨al, be, a0, b0, ha, hb, eA, eB⟩ => ?_⟩
  · obtain ⟨q, m, w, st⟩ := S.st k hk
    have m0 : m ≠ 0 := fun z => by have := st.m0; rw [z] at this; exact absurd this (by decide +kernel)
    have n1 := S.ne (k + 1) (by omega)
    have b1 := S.bs (k + 1) (by omega)
    have b2 := S.bs (k + 2) (by omega)
    obtain ⟨Q, M, N, d, _⟩ := dvr G (S.bs k (by omega)) b1 b2 st.hq n1 st.lab st.lq st.lcb m0 st.hm st.hw a0 b0 ha hb st.e
    obtain ⟨lb, _, tb⟩ := im_top (s := s) b1.s n1 G.tn b0
    have l2 := b2.l
    subst eA eB
    refine ⟨fun z => ?_, Q, _, M, N, d, ?_, fun P c p0 p1 => ?_⟩
    · rw [z] at lb
      have := List.length_pos_iff.mpr n1
      simp at lb
      omega
    · have := im_len (s := s) (t := t) (al := al * w / m) (p := g (k + 2))
      omega
    · rw [im_strip] at p0 p1
      have r0 : al * w / m ≠ 0 := fun z => by
        rw [Rat.div_def] at z
        rcases Rat.mul_eq_zero.mp z with z | z
        · exact (Rat.mul_eq_zero.mp z).elim a0 st.w0
        · have := Rat.mul_inv_cancel m m0
          rw [z, Rat.mul_zero] at this
          exact absurd this (by decide +kernel)
      by_cases hn : g (k + 2) = []
      · refine ⟨be, 1, b0, by decide +kernel, hb, Hb.one.up (by decide), rfl, ?_⟩
        rw [hn] at p0 ⊢
        exact p0 rfl
      · have hne : im s t (al * w / m) (g (k + 2)) ≠ [] := fun z => by
          obtain ⟨l, _, _⟩ := im_top (s := s) b2.s hn G.tn r0
          rw [z] at l
          have := List.length_pos_iff.mpr hn
          simp at l
          omega
        obtain ⟨e, _, h7, hz⟩ := prim_im G b2 hn r0 (p1 hne)
        exact ⟨be, _, b0, hz, hb, h7, rfl, e⟩
  · have n1 := S.ne K (Nat.le_refl _)
    have b1 := S.bs K (by omega)
    obtain ⟨l, tp, tn⟩ := im_top (s := s) b1.s n1 G.tn a0
    have l0 := List.length_pos_iff.mpr n1
    have l13 := b1.l
    rw [S.nil] at eB
    subst eA
    refine ⟨eB, (g K).length - 1, ⟨by omega, by omega, tn, fun i => (im_hb G b1.f b1.l ha i).sr (by decide), ?_, ?_⟩⟩
    · exact ((Hb.one.up (Nat.zero_le 0)).div (im_hb G b1.f b1.l ha _) tn).sr (by decide)
    · rw [im_scale, tp]
      congr 1
      have k0 : cf (g K) ((g K).length - 1) * t ^ ((g K).length - 1) ≠ 0 := fun z => (Rat.mul_eq_zero.mp z).elim (last_ne b1.s n1) (pow_ne G.tn _)
      generalize cf (g K) ((g K).length - 1) * t ^ ((g K).length - 1) = x at k0
      rw [Rat.div_def, Rat.div_def, Rat.inv_mul_rev]
      have : al * al⁻¹ = 1 := Rat.mul_inv_cancel al a0
      grind
end
end Vf
set_option maxRecDepth 100000
set_option maxHeartbeats 8000000
namespace Vf
open PySem PySem.Spec PyProof.Rows L2
def cO (s t : Rat) (g : Nat → List Rat) (k : Nat) (P : List Rat) : Prop := (∃ ga, 0 < ga ∧ Hb 700 ga ∧ P = im s t ga (g k)) ∧ ∀ i, (cf P i).den = 1 ∧ (cf P i).num.natAbs ≤ 2 ^ 371
theorem pos_ne {x : Rat} (h : 0 < x) : x ≠ 0 := fun z => by rw [z] at h; exact absurd h (by decide +kernel)
theorem inv_pos' {x : Rat} (h : 0 < x) : 0 < x⁻¹ := Rat.inv_pos.mpr h
theorem sgB_eq : ∀ {vs us : List Rat}, vs.length = us.length → (∀ (i : Nat) v u, vs[i]? = some v → us[i]? = some u → (v = 0 ↔ u = 0) ∧ (v < 0 ↔ u < 0)) → sgB vs = sgB us
  | [], [], _, _ => rfl
  | v :: vs, u :: us, hl, h => by
    have ih := sgB_eq (vs := vs) (us := us) (by simpa using hl) fun i v' u' e1 e2 => h (i + 1) v' u' e1 e2
    obtain ⟨h1, h2⟩ := h 0 v u rfl rfl
    unfold sgB at ih ⊢
    rw [List.filter_cons, List.filter_cons]
    by_cases e : v = 0
    · rw [if_neg (by simp [e]), if_neg (by simp [h1.mp e])]
      exact ih
    · have e2 : ¬ u = 0 := fun z => e (h1.mpr z)
      rw [if_pos (by simp [e]), if_pos (by simp [e2]), List.map_cons, List.map_cons, ih]
      congr 1
      exact decide_eq_decide.mpr h2
section
variable {s t : Rat} {D : Nat}
theorem cO_smI {g : Nat → List Rat} (hb : ∀ k, (g k).length ≤ 13) {k : Nat} {P : List Rat} (h : cO s t g k P) : SmI (2 ^ 371) P := by
  obtain ⟨⟨ga, _, _, rfl⟩, h2⟩ := h
  have := im_len (s := s) (t := t) (al := ga) (p := g k)
  have := hb k
  exact ⟨by omega, h2⟩
theorem nil_row (i : Nat) : (cf [] i).den = 1 ∧ (cf [] i).num.natAbs ≤ 2 ^ 371 := by
  rw [cf_nil]
  exact ⟨rfl, Nat.zero_le _⟩
theorem chI_of (G : Geo s t D) {g : Nat → List Rat} {K : Nat} (S : Sq true g K) (hK : K ≤ 40) (hK1 : 1 ≤ K) : ChI (cO s t g) K := by
  refine ⟨hK, hK1, fun k A B hk ⟨⟨al, a1, ha, eA⟩, _⟩ ⟨⟨be, b1', hb, eB⟩, _⟩ => ?_, fun B ⟨⟨be, _, _, eB⟩, _⟩ => by rw [S.nil] at eB; exact eB⟩
  obtain ⟨q, m, w, st⟩ := S.st k hk
  have a0 := pos_ne a1
  have b0 := pos_ne b1'
  have m0 := pos_ne st.m0
  have n1 := S.ne (k + 1) (by omega)
  have b1 := S.bs (k + 1) (by omega)
  have b2 := S.bs (k + 2) (by omega)
  obtain ⟨Q, M, N, d, _⟩ := dvr G (S.bs k (by omega)) b1 b2 st.hq n1 st.lab st.lq st.lcb m0 st.hm st.hw a0 b0 ha hb st.e
  obtain ⟨lb, _, tb⟩ := im_top (s := s) b1.s n1 G.tn b0
  have l2 := b2.l
  subst eA eB
  have lR := im_len (s := s) (t := t) (al := al * w / m) (p := g (k + 2))
  refine ⟨fun z => ?_, Q, _, M, N, d, by omega, fun P c p0 p1 => ?_⟩
  · rw [z] at lb
    have := List.length_pos_iff.mpr n1
    simp at lb
    omega
  · rw [im_strip] at p0 p1
    have r0 : al * w / m < 0 := by
      rw [Rat.div_def]
      have h1 : 0 < al * (-w) := Rat.mul_pos a1 (by have := st.wn rfl; grind)
      have h2 := Rat.mul_pos h1 (inv_pos' st.m0)
      grind
    by_cases hn : g (k + 2) = []
    · have hP : P = [] := p0 (by rw [hn]; rfl)
      subst hP
      refine ⟨fun i => ?_, Nat.zero_le _, ⟨⟨1, by decide +kernel, Hb.one.up (by decide), by rw [hn]; rfl⟩, nil_row⟩⟩
      rw [cf_nil]
      exact sr_zero
    · have r1 : al * w / m ≠ 0 := fun z => by rw [z] at r0; exact absurd r0 (by decide +kernel)
      have hne : im s t (al * w / m) (g (k + 2)) ≠ [] := fun z => by
        obtain ⟨l, _, _⟩ := im_top (s := s) b2.s hn G.tn r1
        rw [z] at l
        have := List.length_pos_iff.mpr hn
        simp at l
        omega
      have pp := p1 hne
      obtain ⟨e, he, h7, hz⟩ := prim_im G b2 hn r1 pp
      have lP := im_len (s := s) (t := t) (al := al * w / m * c) (p := g (k + 2))
      refine ⟨fun i => ?_, by rw [e]; omega, ⟨⟨al * w / m * c * (-1), ?_, ?_, by rw [e, im_scale]⟩, fun i => ?_⟩⟩
      · exact (show Hb 371 (cf P i) from ⟨(he i).2, by rw [(he i).1]; exact Nat.pow_pos (by decide)⟩).sr (by decide)
      · have h1 : 0 < -(al * w / m) := by grind
        have h2 := Rat.mul_pos h1 pp.c0
        grind
      · have : al * w / m * c * (-1) = -(al * w / m * c) := by grind
        rw [this]
        exact h7.neg
      · rw [cf_stripQ, cf_pscale]
        have : cf P i * (-1) = -cf P i := by grind
        rw [this, Rat.neg_num, Rat.neg_den, Int.natAbs_neg]
        exact he i
/-- the changes of signs are those of the base rows -/
theorem chg_im {g : Nat → List Rat} {K : Nat} {Ps : List (List Rat)} {x : Rat} (hl : Ps.length = K + 1) (ho : ∀ (i : Nat) P, Ps[i]? = some P → cO s t g i P) : chg (Ps.map fun P => ev P x) = chg ((List.range (K + 1)).map fun k => ev (g k) (s + t * x)) := by
  unfold chg
  have e : sgB (Ps.map fun P => ev P x) = sgB ((List.range (K + 1)).map fun k => ev (g k) (s + t * x)) := by
    refine sgB_eq (by rw [List.length_map, List.length_map, List.length_range, hl]) fun i v u e1 e2 => ?_
    rw [List.getElem?_map] at e1 e2
    have hi : i < K + 1 := by
      have h := (List.getElem?_eq_some_iff.mp (show ((List.range (K + 1)).map fun k => ev (g k) (s + t * x))[i]? = some u by rw [List.getElem?_map]; exact e2)).1
      rw [List.length_map, List.length_range] at h
      exact h
    rw [List.getElem?_range hi] at e2
    cases e2
    obtain ⟨P, hP⟩ : ∃ P, Ps[i]? = some P := ⟨_, List.getElem?_eq_getElem (by omega)⟩
    rw [hP] at e1
    cases e1
    obtain ⟨⟨ga, h1, _, h3⟩, _⟩ := ho i P hP
    dsimp only
    rw [h3, ev_im]
    exact ⟨zero_iff h1, neg_iff h1⟩
  rw [e]
def ph (s t : Rat) (p : Rat × Rat) : Rat × Rat := (s + t * p.1, s + t * p.2)
theorem mid_ph (a b : Rat) : s + t * ((a + b) / 2) = ((s + t * a) + (s + t * b)) / 2 := by
  have c2 : (2 : Rat)⁻¹ + (2 : Rat)⁻¹ = 1 := by decide +kernel
  rw [Rat.div_def, Rat.div_def]
  generalize (2 : Rat)⁻¹ = c at c2 ⊢
  have h2 : s * c + s * c = s := by
    have : s * c + s * c = s * (c + c) := by grind
    rw [this, c2, Rat.mul_one]
  grind
theorem hvC_ph (ok z : Rat → Bool) (b : Rat) : ∀ (n : Nat) (h : Rat), (hvC (fun x => ok (s + t * x)) (fun x => z (s + t * x)) b n h).map (fun x => s + t * x) = hvC ok z (s + t * b) n (s + t * h)
  | 0, h => rfl
  | n + 1, h => by
    unfold hvC
    split
    · split
      · rw [hvC_ph ok z b n, mid_ph]
      · rfl
    · rfl
theorem runC_ph (ok z : Rat → Bool) (V : Rat → Nat) : ∀ (n : Nat) (w f : List (Rat × Rat)), (runC (fun x => ok (s + t * x)) (fun x => z (s + t * x)) (fun x => V (s + t * x)) n w f).map (List.map (ph s t)) = runC ok z V n (w.map (ph s t)) (f.map (ph s t))
  | 0, w, f => rfl
  | n + 1, [], f => rfl
  | n + 1, (a, b) :: w, f => by
    have em : manyF (fun x => V (s + t * x)) (fun x => z (s + t * x)) a b = manyF V z (s + t * a) (s + t * b) := rfl
    show (runC _ _ _ (n + 1) ((a, b) :: w) f).map _ = runC ok z V (n + 1) ((s + t * a, s + t * b) :: w.map (ph s t)) (f.map (ph s t))
    unfold runC
    rw [em]
    split
    · split
      · have hh := hvC_ph (s := s) (t := t) ok z b 30 ((a + b) / 2)
        rw [mid_ph] at hh
        rw [← hh]
        cases hvC (fun x => ok (s + t * x)) (fun x => z (s + t * x)) b 30 ((a + b) / 2) with
        | none => rfl
        | some h => exact runC_ph ok z V n ((a, h) :: (h, b) :: w) f
      · rw [runC_ph ok z V n w]
        split
        · rw [List.map_append]
          rfl
        · rfl
    · rfl
end
end Vf
set_option maxRecDepth 100000
set_option maxHeartbeats 8000000
namespace Vf
open PySem PySem.Spec PyProof.Rows L2
def tV2 (n : Nat) (x : Rat) : Nat := chg ((List.range (n + 2)).map fun k => ev (qi ((baseC n).getD k [])) x)
def nOk2 (n : Nat) : Bool :=
  decide (((baseG n).getD 0 []).length = 2 * n + 1) && decide (manyF (tV2 n) (tZ n) (-1) 1 = n + 1) && decide (0 < ci ((baseG n).getD (n + 1) []) (n - 1)) &&
  (match runC okT (tZ n) (tV2 n) 4500 [(-1, 1)] [] with | some f => cellsOk f | none => false)
theorem base2_ok : ([1, 2, 3, 4, 5, 6].all nOk2) = true := by decide +kernel
def gG (n k : Nat) : List Rat := qi ((baseG n).getD k [])
def gC (n k : Nat) : List Rat := qi ((baseC n).getD k [])
structure Base (n : Nat) : Prop where
  sG : Sq false (gG n) (n + 1)
  sC : Sq true (gC n) (n + 1)
  g0 : gG n 0 = stripQ (padd [1] (stripQ (pscale (stripQ (pmul (chb n).2 (chb n).2)) (-1))))
  g1 : gG n 1 = stripQ (pslope (gG n 0))
  gq : gG n 0 = stripQ (pmul (gC n 0) (gG n (n + 1)))
  gu : gG n 0 = stripQ (pmul [1, 0, -1] (pmul (qi (baseU n)) (qi (baseU n))))
  c0 : gC n 0 = qi (baseS n)
  c1 : gC n 1 = stripQ (pslope (gC n 0))
  lC : (gC n 0).length = n + 2
  lU : (gG n (n + 1)).length = n
  lG : (gG n 0).length = 2 * n + 1
  tU : 0 < cf (gG n (n + 1)) (n - 1)
  lCa : ∀ k, (gC n k).length ≤ 13
  cnt : manyF (tV2 n) (tZ n) (-1) 1 = n + 1
  run : ∃ f, runC okT (tZ n) (tV2 n) 4500 [(-1, 1)] [] = some f ∧ f.length ≤ 100 ∧ ∀ p ∈ f, okT p.1 = true ∧ okT p.2 = true
theorem base {n : Nat} (h1 : 1 ≤ n) (h6 : n ≤ 6) : Base n := by
  have hm : n ∈ [1, 2, 3, 4, 5, 6] := by
    have : n = 1 ∨ n = 2 ∨ n = 3 ∨ n = 4 ∨ n = 5 ∨ n = 6 := by omega
    rcases this with h | h | h | h | h | h <;> subst h <;> decide
  have a := List.all_eq_true.mp base_ok n hm
  have b := List.all_eq_true.mp seq_ok n hm
  have c := List.all_eq_true.mp base2_ok n hm
  unfold nOk at a
  unfold nOk2 at c
  simp only [Bool.and_eq_true, decide_eq_true_eq, List.all_eq_true] at a b c
  obtain ⟨⟨⟨⟨⟨⟨⟨⟨⟨⟨⟨⟨⟨⟨⟨⟨⟨a1, a2⟩, a3⟩, a4⟩, a5⟩, a6⟩, a7⟩, a8⟩, a9⟩, a10⟩, a11⟩, a12⟩, a13⟩, a14⟩, a15⟩, a16⟩, a17⟩, a18⟩ := a
  obtain ⟨⟨⟨c1, c2⟩, c4⟩, c3⟩ := c
  have e0 : gC n 0 = qi (baseS n) := by unfold gC; rw [a11]
  refine ⟨sq_of b.1, sq_of b.2, a8, a9, by rw [e0]; exact a10, a13, e0, by rw [e0]; exact a12, by rw [e0, qi_len]; exact a15, by unfold gG; rw [qi_len]; exact a16, by unfold gG; rw [qi_len]; exact c1, ?_, fun k => ?_, c2, ?_⟩
  · unfold gG
    rw [cf_qi]
    exact_mod_cast c4
  · unfold gC
    rw [qi_len]
    by_cases hk : k < (baseC n).length
    · have z := a2 _ (show (baseC n).getD k [] ∈ baseC n by rw [List.getD_eq_getElem?_getD, List.getElem?_eq_getElem hk]; exact List.getElem_mem hk)
      unfold rowOk at z
      simp only [Bool.and_eq_true, decide_eq_true_eq] at z
      exact z.1.2
    · rw [List.getD_eq_getElem?_getD, List.getElem?_eq_none (by omega)]
      exact Nat.zero_le _
  · cases hr : runC okT (tZ n) (tV2 n) 4500 [(-1, 1)] [] with
    | none => rw [hr] at c3; cases c3
    | some f =>
      rw [hr] at c3
      have c3 : cellsOk f = true := c3
      unfold cellsOk at c3
      simp only [Bool.and_eq_true, decide_eq_true_eq, List.all_eq_true] at c3
      exact ⟨f, rfl, c3.1, c3.2⟩
section
variable {s t : Rat} {D : Nat}
/-- the scale of the plain divisor -/
def kU (n : Nat) (t : Rat) : Rat := cf (gG n (n + 1)) (n - 1) * t ^ (n - 1)
def sS (n : Nat) (s t ee : Rat) : List Rat := im s t (ee / (1 / kU n t * 1)) (gC n 0)
def sV (n : Nat) (s t : Rat) : Rat → Nat := fun x => tV2 n (s + t * x)
theorem dat_of (G : Geo s t D) {n : Nat} (h1 : 1 ≤ n) (h6 : n ≤ 6) {ee : Rat} (e0 : 0 < ee) (he : Hb 496 ee) : Nonempty (Dat (im s t ee (gG n 0)) (sS n s t ee) (sV n s t)) ∧ ∃ ka, 0 < ka ∧ sS n s t ee = im s t ka (gC n 0) := by
  have B := base h1 h6
  have bG := fun k (hk : k ≤ n + 1 + 1) => B.sG.bs k hk
  have bC := fun k (hk : k ≤ n + 1 + 1) => B.sC.bs k hk
  have n0 := B.sG.ne 0 (by omega)
  have nU := B.sG.ne (n + 1) (by omega)
  have k0 : 0 < kU n t := Rat.mul_pos B.tU (pos_pow G.t0 _)
  have hk : Hb 146 (kU n t) := ((Hb.of ((bG (n + 1) (by omega)).f (n - 1)) (by decide) (Nat.pow_pos (by decide)) (Nat.le_refl _)).mul (G.ht.pow (n - 1))).up (by omega)
  have hb : Hb 146 (1 / kU n t) := ((Hb.one.up (Nat.le_refl 0)).div hk (pos_ne k0)).up (by decide)
  have b0 : 0 < 1 / kU n t := by
    rw [Rat.div_def, Rat.one_mul]
    exact inv_pos' k0
  have hka : Hb 642 (ee / (1 / kU n t * 1)) := (he.div (hb.mul Hb.one) (by rw [Rat.mul_one]; exact pos_ne b0)).up (by decide)
  have ka0 : 0 < ee / (1 / kU n t * 1) := by
    rw [Rat.mul_one, Rat.div_def]
    exact Rat.mul_pos e0 (inv_pos' b0)
  have lU := B.lU
  have lG := B.lG
  have lC := B.lC
  obtain ⟨Q, M, N, d, eQ⟩ := dvr (c := []) (q := gC n 0) (m := 1) (w := 1) G (bG 0 (by omega)) (bG (n + 1) (by omega)) ⟨rfl, Nat.zero_le _, fun i => by rw [cf_nil]; exact Fr.zero _ _⟩ (bC 0 (by omega)).f nU (by omega) (by omega) (by show 0 < _; omega) (by decide +kernel) (Hb.one.up (by decide)) (Hb.one.up (by decide)) (pos_ne e0) (pos_ne b0) (he.up (by decide)) (hb.up (by decide)) (fun y => by
    have e := congrArg (fun p => ev p y) B.gq
    simp only [ev_stripQ, ev_pmul] at e
    rw [e, Rat.mul_one]
    show _ = _ + 0 * 1
    grind)
  obtain ⟨Ms, Ns, p1, p2, p3, p4⟩ := im_fr G (bC 0 (by omega)).f (bC 0 (by omega)).l hka
  have eS : sS n s t ee = im s t (ee / (1 / kU n t * 1)) (gC n 0) := rfl
  have esl : stripQ (pslope (sS n s t ee)) = im s t (ee / (1 / kU n t * 1) * t) (gC n 1) := by rw [eS, slope_im, B.c1, im_strip_in]
  have hkt : Hb 668 (ee / (1 / kU n t * 1) * t) := (hka.mul G.ht).up (by decide)
  have kt0 : 0 < ee / (1 / kU n t * 1) * t := Rat.mul_pos ka0 G.t0
  obtain ⟨Mt, Nt, r1, r2, r3, r4⟩ := im_fr G (bC 1 (by omega)).f (bC 1 (by omega)).l hkt
  obtain ⟨lA, _, _⟩ := im_top (s := s) (bG 0 (by omega)).s n0 G.tn (pos_ne e0)
  obtain ⟨lS, _, _⟩ := im_top (s := s) (bC 0 (by omega)).s (B.sC.ne 0 (by omega)) G.tn (pos_ne ka0)
  obtain ⟨lS1, _, _⟩ := im_top (s := s) (bC 1 (by omega)).s (B.sC.ne 1 (by omega)) G.tn (pos_ne kt0)
  have l13 := (bG 0 (by omega)).l
  have sub : ∀ {k : Nat}, k < 4300 → 2 ^ k < 2 ^ 4300 := fun h => Nat.pow_lt_pow_right (by decide) h
  have ne_of_len : ∀ {l : List Rat}, 0 < l.length → l ≠ [] := fun h z => by rw [z] at h; cases h
  refine ⟨⟨{ I := cI s t (gG n), K := n + 1, G0 := _, Q := Q, R := im s t (ee * 1 / 1) [], Ok := cO s t (gC n), Kc := n + 1, M := Ms, N := Ns, M' := Mt, N' := Nt, Nn := 2 ^ 371, l2 := by omega, l40 := by omega, sA := fun i => (im_hb G (bG 0 (by omega)).f (bG 0 (by omega)).l he i).sr (by decide), i0 := ⟨ee, ee * t, pos_ne e0, pos_ne (Rat.mul_pos e0 G.t0), he.up (by decide), (he.mul G.ht).up (by decide), rfl, by rw [slope_im, B.g1, im_strip_in]⟩, cm := cmI_of G B.sG (by omega), dv := ?_, ds := ?_, eS := ?_, lS := by rw [eS]; omega, lS2 := by rw [eS]; omega, mb := Nat.le_trans p2 (Nat.pow_le_pow_right (by decide) (by decide)), nb := Nat.le_trans p3 (Nat.pow_le_pow_right (by decide) (by decide)), ca := ⟨by rw [eS]; exact im_strip .., by rw [eS]; exact ne_of_len (by omega), by rw [eS]; omega, fun i => (im_hb G (bC 0 (by omega)).f (bC 0 (by omega)).l hka i).sr (by decide), p4, p1, Nat.lt_of_le_of_lt p2 (sub (by decide)), Nat.lt_of_le_of_lt p3 (sub (by decide)), by rw [esl]; exact r4, r1, Nat.lt_of_le_of_lt r2 (sub (by decide)), Nat.lt_of_le_of_lt r3 (sub (by decide)), by rw [esl]; exact ne_of_len (by rw [lS1]; exact List.length_pos_iff.mpr (B.sC.ne 1 (by omega))), fun P c hp => ?_, fun P c hp => ?_⟩, ci := chI_of G B.sC (by omega) (by omega), kc := by omega, nn := Nat.pow_le_pow_right (by decide) (by decide), sm := fun i P h => cO_smI B.lCa h, ne := fun i P hi ⟨⟨ga, g1, _, e⟩, _⟩ => ?_, ev := fun Ps x hl ho => chg_im hl ho }⟩, _, ka0, rfl⟩
  · have e : cf (gG n (n + 1)) ((gG n (n + 1)).length - 1) * t ^ ((gG n (n + 1)).length - 1) = kU n t := by rw [lU]; rfl
    rw [e]
    exact d.d
  · have e : cf (gG n (n + 1)) ((gG n (n + 1)).length - 1) * t ^ ((gG n (n + 1)).length - 1) = kU n t := by rw [lU]; rfl
    rw [e]
    exact d.s
  · exact eQ.symm
  · obtain ⟨e, hi, h7, _⟩ := prim_im G (bC 0 (by omega)) (B.sC.ne 0 (by omega)) (pos_ne ka0) hp
    exact ⟨⟨_, Rat.mul_pos ka0 hp.c0, h7, e⟩, hi⟩
  · rw [esl] at hp
    obtain ⟨e, hi, h7, _⟩ := prim_im G (bC 1 (by omega)) (B.sC.ne 1 (by omega)) (pos_ne kt0) hp
    exact ⟨⟨_, Rat.mul_pos kt0 hp.c0, h7, e⟩, hi⟩
  · obtain ⟨l, _, _⟩ := im_top (s := s) (bC i (by omega)).s (B.sC.ne i (by omega)) G.tn (pos_ne g1)
    rw [e]
    exact ne_of_len (by rw [l]; exact List.length_pos_iff.mpr (B.sC.ne i (by omega)))
theorem ends_nn {n : Nat} (B : Base n) {y : Rat} (h1 : -1 ≤ y) (h2 : y ≤ 1) : 0 ≤ ev (gG n 0) y := by
  rw [B.gu, ev_stripQ, ev_pmul, ev_pmul]
  show 0 ≤ (1 + y * (0 + y * (-1 + y * 0))) * (ev (qi (baseU n)) y * ev (qi (baseU n)) y)
  refine Rat.mul_nonneg ?_ ?_
  · have : 0 ≤ (1 - y) * (1 + y) := Rat.mul_nonneg (by grind) (by grind)
    grind
  · rcases (Rat.le_total : 0 ≤ ev (qi (baseU n)) y ∨ ev (qi (baseU n)) y ≤ 0) with h | h
    · exact Rat.mul_nonneg h h
    · have : 0 ≤ (-ev (qi (baseU n)) y) * (-ev (qi (baseU n)) y) := Rat.mul_nonneg (by grind) (by grind)
      grind
theorem zero_im {n : Nat} (B : Base n) {ka : Rat} (h : 0 < ka) (x : Rat) : zeroB (im s t ka (gC n 0)) x = tZ n (s + t * x) := by
  unfold zeroB tZ
  rw [← B.c0]
  show _ = decide (ev (gC n 0) (s + t * x) = 0)
  rw [ev_im]
  exact decide_eq_decide.mpr (zero_iff h)
end
end Vf
set_option maxRecDepth 100000
set_option maxHeartbeats 8000000
namespace Vf
open PySem PySem.Spec PyProof.Rows L2
section
variable {s t : Rat} {D : Nat}
theorem at_mono (t0 : 0 < t) {x y : Rat} (h : s + t * x ≤ s + t * y) : x ≤ y := by
  rcases (Rat.le_total : x ≤ y ∨ y ≤ x) with z | z
  · exact z
  · by_cases e : x = y
    · rw [e]; exact Rat.le_refl
    · exfalso
      have h1 : 0 < x - y := by grind
      have h2 := Rat.mul_pos t0 h1
      grind
theorem okT_bd {y : Rat} (h : okT y = true) : -1 ≤ y ∧ y ≤ 1 ∧ ∃ z : Int, y * ((2 ^ 12 : Nat) : Rat) = (z : Rat) ∧ z.natAbs ≤ 2 ^ 12 := by
  unfold okT at h
  rw [Bool.and_eq_true, decide_eq_true_eq, decide_eq_true_eq] at h
  obtain ⟨h1, h2⟩ := h
  have d0 := y.den_pos
  have e := num_den y
  have q0 : (0 : Rat) < (y.den : Rat) := by exact_mod_cast d0
  refine ⟨?_, ?_, ?_⟩
  · have h3 : (0 : Rat) ≤ ((y.num + (y.den : Int) : Int) : Rat) := by exact_mod_cast (show (0 : Int) ≤ y.num + (y.den : Int) by omega)
    rw [Rat.intCast_add, ← e] at h3
    have h4 : (0 : Rat) ≤ (y + 1) * (y.den : Rat) := by
      have : (y + 1) * (y.den : Rat) = y * (y.den : Rat) + (((y.den : Int)) : Rat) := by
        show _ = y * (y.den : Rat) + (y.den : Rat)
        grind
      rw [this]
      exact h3
    have h5 : ¬ (y + 1 < 0) := fun z => by
      have := (neg_iff (a := y + 1) q0).mpr z
      grind
    grind
  · have h3 : (0 : Rat) ≤ (((y.den : Int) - y.num : Int) : Rat) := by exact_mod_cast (show (0 : Int) ≤ (y.den : Int) - y.num by omega)
    rw [Rat.intCast_sub, ← e] at h3
    have h4 : (0 : Rat) ≤ (1 - y) * (y.den : Rat) := by
      have : (1 - y) * (y.den : Rat) = (((y.den : Int)) : Rat) - y * (y.den : Rat) := by
        show _ = (y.den : Rat) - y * (y.den : Rat)
        grind
      rw [this]
      exact h3
    have h5 : ¬ (1 - y < 0) := fun z => by
      have := (neg_iff (a := 1 - y) q0).mpr z
      grind
    grind
  · have f := over_one h1
    refine ⟨_, f, ?_⟩
    obtain ⟨k, hk⟩ := h1
    rw [Int.natAbs_mul]
    have h3 : (((2 ^ 12 : Nat) : Int) / (y.den : Int)).natAbs = k := by
      rw [← Int.natCast_ediv, Int.natAbs_natCast, hk, Nat.mul_div_cancel_left _ d0]
    rw [h3]
    rw [hk]
    exact Nat.mul_le_mul_right _ h2
/-- a point of the interval that comes from a point of the grid -/
theorem pt_of (G : Geo s t D) {lo hi : Rat} (el : s + t * lo = -1) (eh : s + t * hi = 1) {M : Nat} (eM : t * (D : Rat) = (M : Rat)) {x : Rat} (h : okT (s + t * x) = true) : Pt lo hi M (2 ^ 27) 12 x := by
  obtain ⟨h1, h2, z, hz, bz⟩ := okT_bd h
  refine ⟨at_mono G.t0 (by rw [el]; exact h1), at_mono G.t0 (by rw [eh]; exact h2), ?_⟩
  obtain ⟨v, hv, bv⟩ := G.fs
  refine ⟨z * (D : Int) - v * (2 ^ 12 : Nat), ?_, ?_⟩
  · have e1 : ((M * 2 ^ 12 : Nat) : Rat) = (M : Rat) * ((2 ^ 12 : Nat) : Rat) := by exact_mod_cast rfl
    rw [e1, ← eM, Rat.intCast_sub, Rat.intCast_mul, Rat.intCast_mul, ← hz, ← hv]
    show x * (t * (D : Rat) * ((2 ^ 12 : Nat) : Rat)) = (s + t * x) * ((2 ^ 12 : Nat) : Rat) * (D : Rat) - s * (D : Rat) * ((2 ^ 12 : Nat) : Rat)
    generalize ((2 ^ 12 : Nat) : Rat) = c
    grind
  · have a1 : (z * (D : Int)).natAbs ≤ 2 ^ 12 * 2 ^ 26 := by rw [Int.natAbs_mul, Int.natAbs_natCast]; exact Nat.mul_le_mul bz G.d
    have a2 : (v * ((2 ^ 12 : Nat) : Int)).natAbs ≤ 2 ^ 26 * 2 ^ 12 := by rw [Int.natAbs_mul, Int.natAbs_natCast]; exact Nat.mul_le_mul bv (Nat.le_refl _)
    have := Int.natAbs_sub_le (z * (D : Int)) (v * ((2 ^ 12 : Nat) : Int))
    have e2 : 2 ^ 12 * 2 ^ 26 + 2 ^ 26 * 2 ^ 12 = 2 ^ 27 * 2 ^ 12 := by decide +kernel
    omega
/-- nowhere below 0: all that is asked -/
theorem blw_of (G : Geo s t D) {n : Nat} (h1 : 1 ≤ n) (h6 : n ≤ 6) {ee : Rat} (e0 : 0 < ee) (he : Hb 496 ee) {lo hi : Rat} (el : s + t * lo = -1) (eh : s + t * hi = 1) {M : Nat} (eM : t * (D : Rat) = (M : Rat)) (hM : 0 < M) (hM2 : M ≤ 2 ^ 26) :
    ∃ F, Blw (im s t ee (gG n 0)) (sS n s t ee) (sV n s t) lo hi M (2 ^ 27) 12 (fun x => okT (s + t * x)) F := by
  have B := base h1 h6
  obtain ⟨_, ka, k0, eS⟩ := dat_of G h1 h6 e0 he
  obtain ⟨f, hr, lf, hf⟩ := B.run
  have ez : zeroB (sS n s t ee) = fun x => tZ n (s + t * x) := funext fun x => by rw [eS]; exact zero_im B k0 x
  have hp := runC_ph (s := s) (t := t) okT (tZ n) (tV2 n) 4500 [(lo, hi)] []
  have e1 : ([(lo, hi)] : List (Rat × Rat)).map (ph s t) = [(-1, 1)] := by
    show [(s + t * lo, s + t * hi)] = _
    rw [el, eh]
  rw [e1] at hp
  have hp : (runC (fun x => okT (s + t * x)) (fun x => tZ n (s + t * x)) (fun x => tV2 n (s + t * x)) 4500 [(lo, hi)] []).map (List.map (ph s t)) = some f := hp.trans hr
  cases hF : runC (fun x => okT (s + t * x)) (fun x => tZ n (s + t * x)) (fun x => tV2 n (s + t * x)) 4500 [(lo, hi)] [] with
  | none => rw [hF] at hp; cases hp
  | some F =>
    rw [hF] at hp
    have hp : F.map (ph s t) = f := Option.some.inj hp
    have pts : ∀ {x : Rat}, okT (s + t * x) = true → Pt lo hi M (2 ^ 27) 12 x := fun h => pt_of G el eh eM h
    have bg0 := B.sG.bs 0 (by omega)
    have lA := im_len (s := s) (t := t) (al := ee) (p := gG n 0)
    have l13 := bg0.l
    obtain ⟨Ma, Na, q1, q2, q3, q4⟩ := im_fr G bg0.f bg0.l he
    refine ⟨F, ⟨fun x h => (pts h).hb hM ?_ ?_, by rw [ez]; exact hF, ?_, fun p hp' => ?_, pts (by rw [el]; decide +kernel), pts (by rw [eh]; decide +kernel), hM, ?_, ?_, fun x hx1 hx2 => ?_, by omega, Ma, Na, q4, q1, Nat.le_trans q2 (Nat.pow_le_pow_right (by decide) (by decide)), Nat.le_trans q3 (Nat.pow_le_pow_right (by decide) (by decide))⟩⟩
    · refine Nat.le_trans (Nat.mul_le_mul_right _ hM2) ?_
      decide +kernel
    · decide +kernel
    · have := congrArg List.length hp
      rw [List.length_map] at this
      omega
    · have hm : ph s t p ∈ f := by rw [← hp]; exact List.mem_map.mpr ⟨p, hp', rfl⟩
      obtain ⟨g1, g2⟩ := hf _ hm
      exact ⟨pts g1, pts g2⟩
    · refine Nat.le_trans (Nat.mul_le_mul_right _ hM2) ?_
      decide +kernel
    · decide +kernel
    · rw [ev_im]
      refine Rat.mul_nonneg (ends_nn B ?_ ?_) (by grind)
      · rw [← el]
        have := Rat.mul_nonneg (show 0 ≤ t from by have := G.t0; grind) (show 0 ≤ x - lo by grind)
        grind
      · rw [← eh]
        have := Rat.mul_nonneg (show 0 ≤ t from by have := G.t0; grind) (show 0 ≤ hi - x by grind)
        grind
end
end Vf
set_option maxRecDepth 100000
set_option maxHeartbeats 8000000
namespace Vf
open PySem PySem.Spec PyProof.Rows L2
structure Ends (lo hi : Rat) : Prop where
  lt : lo < hi
  l : BqQ lo
  h : BqQ hi
theorem Ends.hb {lo hi : Rat} (e : Ends lo hi) : Hb 16 lo ∧ Hb 16 hi := ⟨⟨e.l.1, Nat.le_trans e.l.2 (by decide)⟩, ⟨e.h.1, Nat.le_trans e.h.2 (by decide)⟩⟩
theorem geo_of {lo hi : Rat} (e : Ends lo hi) : ∃ D M, Geo (olS lo hi) (olT lo hi) D ∧ olS lo hi + olT lo hi * lo = -1 ∧ olS lo hi + olT lo hi * hi = 1 ∧ olT lo hi * (D : Rat) = ((M : Nat) : Rat) ∧ 0 < M ∧ M ≤ 2 ^ 26 := by
  have w0 := sub_ne e.lt
  have wp : 0 < hi - lo := by have := e.lt; grind
  have wi := Rat.mul_inv_cancel (hi - lo) w0
  have es : olS lo hi = (0 - (lo + hi)) * (hi - lo)⁻¹ := Rat.div_def ..
  have et : olT lo hi = 2 * (hi - lo)⁻¹ := Rat.div_def ..
  have q1 := num_den lo
  have q2 := num_den hi
  have d1 := lo.den_pos
  have d2 := hi.den_pos
  let dl : Int := hi.num * (lo.den : Int) - lo.num * (hi.den : Int)
  have hdl : (hi - lo) * ((lo.den : Rat) * (hi.den : Rat)) = (dl : Rat) := by
    show _ = ((hi.num * (lo.den : Int) - lo.num * (hi.den : Int) : Int) : Rat)
    rw [Rat.intCast_sub, Rat.intCast_mul, Rat.intCast_mul, ← q1, ← q2]
    show _ = hi * (hi.den : Rat) * (lo.den : Rat) - lo * (lo.den : Rat) * (hi.den : Rat)
    grind
  have p1 : (0 : Rat) < (lo.den : Rat) := by exact_mod_cast d1
  have p2 : (0 : Rat) < (hi.den : Rat) := by exact_mod_cast d2
  have dl0 : 0 < dl := by
    have := Rat.mul_pos wp (Rat.mul_pos p1 p2)
    rw [hdl] at this
    exact_mod_cast this
  have b1 : (hi.num * (lo.den : Int)).natAbs ≤ 2 ^ 16 * 2 ^ 9 := by rw [Int.natAbs_mul, Int.natAbs_natCast]; exact Nat.mul_le_mul e.h.1 e.l.2
  have b2 : (lo.num * (hi.den : Int)).natAbs ≤ 2 ^ 16 * 2 ^ 9 := by rw [Int.natAbs_mul, Int.natAbs_natCast]; exact Nat.mul_le_mul e.l.1 e.h.2
  have bd : lo.den * hi.den ≤ 2 ^ 9 * 2 ^ 9 := Nat.mul_le_mul e.l.2 e.h.2
  have eD : ((dl.toNat : Nat) : Rat) = (dl : Rat) := by
    have : ((dl.toNat : Nat) : Int) = dl := Int.toNat_of_nonneg (by omega)
    exact_mod_cast congrArg (fun z : Int => (z : Rat)) this
  have etD : olT lo hi * (dl : Rat) = ((2 * (lo.den * hi.den) : Nat) : Rat) := by
    have e1 : ((2 * (lo.den * hi.den) : Nat) : Rat) = 2 * ((lo.den : Rat) * (hi.den : Rat)) := by exact_mod_cast rfl
    rw [et, ← hdl, e1]
    have : 2 * (hi - lo)⁻¹ * ((hi - lo) * ((lo.den : Rat) * (hi.den : Rat))) = ((hi - lo) * (hi - lo)⁻¹) * (2 * ((lo.den : Rat) * (hi.den : Rat))) := by grind
    rw [this, wi, Rat.one_mul]
  have dlb : dl.natAbs ≤ 2 ^ 26 := by
    show (hi.num * (lo.den : Int) - lo.num * (hi.den : Int)).natAbs ≤ _
    have := Int.natAbs_sub_le (hi.num * (lo.den : Int)) (lo.num * (hi.den : Int))
    have e2 : 2 ^ 16 * 2 ^ 9 + 2 ^ 16 * 2 ^ 9 = 2 ^ 26 := by decide +kernel
    omega
  have M0 : 0 < lo.den * hi.den := Nat.mul_pos d1 d2
  have M26 : 2 * (lo.den * hi.den) ≤ 2 ^ 26 := by
    have e2 : 2 ^ 9 * 2 ^ 9 = 2 ^ 18 := by decide +kernel
    have e3 : 2 * 2 ^ 18 ≤ 2 ^ 26 := by decide +kernel
    omega
  refine ⟨dl.toNat, 2 * (lo.den * hi.den), ⟨by omega, by omega, ?_, ?_, ?_⟩, ?_, ?_, by rw [eD]; exact etD, by omega, M26⟩
  · refine ⟨-(lo.num * (hi.den : Int) + hi.num * (lo.den : Int)), ?_, ?_⟩
    · rw [eD, es, ← hdl, Rat.intCast_neg, Rat.intCast_add, Rat.intCast_mul, Rat.intCast_mul, ← q1, ← q2]
      show (0 - (lo + hi)) * (hi - lo)⁻¹ * ((hi - lo) * ((lo.den : Rat) * (hi.den : Rat))) = -(lo * (lo.den : Rat) * (hi.den : Rat) + hi * (hi.den : Rat) * (lo.den : Rat))
      have : (0 - (lo + hi)) * (hi - lo)⁻¹ * ((hi - lo) * ((lo.den : Rat) * (hi.den : Rat))) = ((hi - lo) * (hi - lo)⁻¹) * ((0 - (lo + hi)) * ((lo.den : Rat) * (hi.den : Rat))) := by grind
      rw [this, wi, Rat.one_mul]
      grind
    · have := Int.natAbs_add_le (lo.num * (hi.den : Int)) (hi.num * (lo.den : Int))
      have e2 : 2 ^ 16 * 2 ^ 9 + 2 ^ 16 * 2 ^ 9 = 2 ^ 26 := by decide +kernel
      omega
  · refine ⟨((2 * (lo.den * hi.den) : Nat) : Int), by rw [eD]; exact etD, by rw [Int.natAbs_natCast]; exact M26⟩
  · rw [et]
    exact Rat.mul_pos (by decide +kernel) (inv_pos' wp)
  · rw [es, et]
    have : (0 - (lo + hi)) * (hi - lo)⁻¹ + 2 * (hi - lo)⁻¹ * lo = -((hi - lo) * (hi - lo)⁻¹) := by grind
    rw [this, wi]
  · rw [es, et]
    have : (0 - (lo + hi)) * (hi - lo)⁻¹ + 2 * (hi - lo)⁻¹ * hi = (hi - lo) * (hi - lo)⁻¹ := by grind
    rw [this, wi]
theorem ev_negl (l : List Rat) (x : Rat) : ev (l.map (- ·)) x = -ev l x := by
  induction l with
  | nil => show (0 : Rat) = -0; grind
  | cons c l ih =>
    rw [List.map_cons]
    show -c + x * ev (l.map (- ·)) x = -(c + x * ev l x)
    rw [ih]
    grind
theorem ev_sing (c x : Rat) : ev [c] x = c := by
  show c + x * 0 = c
  grind
section
variable {A : List Rat} {n : Nat} {lo hi : Rat}
theorem ev_olR (x : Rat) : ev (olR A n lo hi) x = ev A x - ev (chb n).2 (olS lo hi + olT lo hi * x) * olE (cf A n) n lo hi := by
  unfold olR olW
  rw [ev_stripQ, ev_padd, ev_negl, ev_stripQ, ev_pmul, ev_stripQ, ev_mvl, ev_sing]
  grind
def gapQ (A R : List Rat) : List Rat := stripQ (padd A (stripQ (pscale R (-1))))
def leftQ (e : Rat) (gap : List Rat) : List Rat := stripQ (padd [e * e] (stripQ (pscale (stripQ (pmul gap gap)) (-1))))
theorem absR_sq (x : Rat) : absR x * absR x = x * x := by
  unfold absR
  split <;> grind
theorem ev_gap (x : Rat) : ev (gapQ A (olR A n lo hi)) x = ev (chb n).2 (olS lo hi + olT lo hi * x) * olE (cf A n) n lo hi := by
  unfold gapQ
  rw [ev_stripQ, ev_padd, ev_stripQ, ev_pscale, ev_olR]
  grind
theorem gap_im : gapQ A (olR A n lo hi) = im (olS lo hi) (olT lo hi) (olE (cf A n) n lo hi) (chb n).2 := im_eq (stripQ_id (stripQ_stp _)) ev_gap
theorem left_im (B : Base n) : leftQ (absR (olE (cf A n) n lo hi)) (gapQ A (olR A n lo hi)) = im (olS lo hi) (olT lo hi) (olE (cf A n) n lo hi * olE (cf A n) n lo hi) (gG n 0) := im_eq (stripQ_id (stripQ_stp _)) fun x => by
  unfold leftQ
  rw [ev_stripQ, ev_padd, ev_stripQ, ev_pscale, ev_stripQ, ev_pmul, ev_sing, ev_gap, absR_sq, B.g0, ev_stripQ, ev_padd, ev_stripQ, ev_pscale, ev_stripQ, ev_pmul, ev_sing]
  grind
theorem chb_top : ([1, 2, 3, 4, 5, 6].all fun n => decide ((chb n).2.length = n + 1) && decide (cf (chb n).2 n * 2 * ((1 : Rat) / 2) ^ n = 1)) = true := by decide +kernel
theorem chb_at (h1 : 1 ≤ n) (h6 : n ≤ 6) : (chb n).2.length = n + 1 ∧ cf (chb n).2 n * 2 * ((1 : Rat) / 2) ^ n = 1 := by
  have hm : n ∈ [1, 2, 3, 4, 5, 6] := by
    have : n = 1 ∨ n = 2 ∨ n = 3 ∨ n = 4 ∨ n = 5 ∨ n = 6 := by omega
    rcases this with h | h | h | h | h | h <;> subst h <;> decide
  have a := List.all_eq_true.mp chb_top n hm
  simp only [Bool.and_eq_true, decide_eq_true_eq] at a
  exact a
theorem olR_len (h1 : 1 ≤ n) (h6 : n ≤ 6) (hA : A.length = n + 1) (lt : lo < hi) : (olR A n lo hi).length ≤ n := by
  obtain ⟨lc, tc⟩ := chb_at h1 h6
  have w0 := sub_ne lt
  have wi := Rat.mul_inv_cancel (hi - lo) w0
  have lW := mvl_len (olS lo hi) (olT lo hi) (chb n).2
  have cfR : ∀ i, cf (olR A n lo hi) i = cf A i - cf (olW n lo hi) i * olE (cf A n) n lo hi := fun i => by
    unfold olR
    rw [cf_stripQ, cf_padd, cf_neg, cf_stripQ, cf_pmul, pc_line (fun k hk => by rw [cf_one, if_neg (by omega)]), cf_one, cf_one, if_pos (rfl : (0 : Nat) = 0), if_neg (by decide : ¬(1 : Nat) = 0)]
    split <;> grind
  have top : cf (olR A n lo hi) n = 0 := by
    rw [cfR]
    have e1 : cf (olW n lo hi) n = cf (chb n).2 n * olT lo hi ^ n := by
      have := cf_mvl_top (olS lo hi) (olT lo hi) (chb n).2
      rw [lc, Nat.add_sub_cancel] at this
      exact this
    have e2 : olT lo hi ^ n * ((hi - lo) * (1 / 4)) ^ n = ((1 : Rat) / 2) ^ n := by
      rw [← pow_mulR]
      congr 1
      have et : olT lo hi = 2 * (hi - lo)⁻¹ := Rat.div_def ..
      rw [et]
      have : 2 * (hi - lo)⁻¹ * ((hi - lo) * (1 / 4)) = ((hi - lo) * (hi - lo)⁻¹) * (2 * (1 / 4)) := by grind
      rw [this, wi]
      decide +kernel
    rw [e1]
    unfold olE
    have e3 : cf (chb n).2 n * olT lo hi ^ n * (2 * cf A n * ((hi - lo) * (1 / 4)) ^ n) = cf (chb n).2 n * 2 * (olT lo hi ^ n * ((hi - lo) * (1 / 4)) ^ n) * cf A n := by grind
    rw [e3, e2, tc]
    grind
  rcases Nat.lt_or_ge n (olR A n lo hi).length with h | h
  · exfalso
    have ne : olR A n lo hi ≠ [] := fun z => by rw [z] at h; cases h
    have st : stripQ (olR A n lo hi) = olR A n lo hi := stripQ_id (stripQ_stp _)
    refine last_ne st ne ?_
    by_cases e : (olR A n lo hi).length - 1 = n
    · rw [e]; exact top
    · rw [cfR, cf_ge (l := A) (by omega), cf_ge (l := olW n lo hi) (by unfold olW; omega)]
      grind
  · exact h
end
end Vf
set_option maxRecDepth 100000
set_option maxHeartbeats 8000000
namespace Vf
open PySem PySem.Spec PyProof.Rows L2
open LamX (ExtN Tabs TabS)
/-- the table of the law's own code objects -/
def Ts (Pt : Addr) : List (Addr × Str) := [(Pt, (Str.ofString "law" ++ Str.ofString ".<locals>.") ++ Str.ofString "<lambda>")]
theorem ts_mem (Pt : Addr) : (Pt, (Str.ofString "law" ++ Str.ofString ".<locals>.") ++ Str.ofString "<lambda>") ∈ Ts Pt := List.mem_singleton.mpr rfl
theorem ts_only (Pt : Addr) : ∀ p ∈ Ts Pt, p.1 = Pt → p.2 = (Str.ofString "law" ++ Str.ofString ".<locals>.") ++ Str.ofString "<lambda>" := fun p hp _ => by rw [List.mem_singleton.mp hp]
theorem Dt.keep {K : PySem.W.Frag} {H H' : Hp} {p : Addr} {v : V} {d : PyData} (h : Dt K (nw H H') v d) (e : ∃ o, H p = some o) : Dt K (wo p H') v d := h.mono fun b o z => wo_at (fun y => by
  obtain ⟨o', e⟩ := e
  rw [y] at z
  rw [(nw_get z).1] at e
  cases e) (nw_get z).2
theorem TR.n {H H' : Hp} {r : Addr} {q : Rat} (h : TR H r q) (e : ExtN H H') : TR H' r q := e _ _ h (fun ps z => by cases z)
theorem PolyQ.n {K : PySem.W.Frag} {CP : Addr} {H H' : Hp} {a : Addr} {qs : List Rat} (h : PolyQ K CP H a qs) (e : ExtN H H') : PolyQ K CP H' a qs := by
  obtain ⟨da, ta, za, h1, h2, h3⟩ := h
  exact ⟨da, ta, za, e _ _ h1 (fun ps z => by cases z), e _ _ h2 (fun ps z => by cases z), h3.imp fun c p z => e _ _ z (fun ps z => by cases z)⟩
theorem sqL_n {K : PySem.W.Frag} {H H' : Hp} {a : Addr} {xs : List V} (e : ExtN H H') (h : SqL K H a xs) : SqL K H' a xs := by
  rcases h with (h | ⟨o, h⟩) | h
  · exact Or.inl (Or.inl (e a _ h (fun ps z => by cases z)))
  · exact Or.inl (Or.inr ⟨o, e a _ h (fun ps z => by cases z)⟩)
  · exact Or.inr h
theorem sqT_n {K : PySem.W.Frag} {H H' : Hp} {a : Addr} {xs : List V} (e : ExtN H H') (h : SqT K H a xs) : SqT K H' a xs := by
  rcases h with (h | ⟨o, h⟩) | h
  · exact Or.inl (Or.inl (e a _ h (fun ps z => by cases z)))
  · exact Or.inl (Or.inr ⟨o, e a _ h (fun ps z => by cases z)⟩)
  · exact Or.inr h
mutual
theorem Dt.n {K : PySem.W.Frag} {H H' : Hp} (e : ExtN H H') : ∀ {v : V} {d : PyData}, Dt K H v d → Dt K H' v d
  | _, _, .non => .non
  | _, _, .bl b => .bl b
  | _, _, .int i => .int i
  | _, _, .str x => .str x
  | _, _, .lst h1 h2 => .lst (sqL_n e h1) (Dts.n e h2)
  | _, _, .tup h1 h2 => .tup (sqT_n e h1) (Dts.n e h2)
  | _, _, .dct h1 h2 => .dct (e _ _ h1 (fun ps z => by cases z)) (Dts.n e h2)
theorem Dts.n {K : PySem.W.Frag} {H H' : Hp} (e : ExtN H H') : ∀ {vs : List V} {ds : List PyData}, Dts K H vs ds → Dts K H' vs ds
  | _, _, .nil => .nil
  | _, _, .cons h1 h2 => .cons (Dt.n e h1) (Dts.n e h2)
end
theorem Pen.n {H H' : Hp} {p l : Addr} {B : Int} (h : Pen H p l B) (e : ExtN H H') : Pen H' p l B := by
  obtain ⟨ns, a, d, c, f, ⟨g1, g2, g3⟩, h2⟩ := h
  exact ⟨ns, a, d, c, f, ⟨e _ _ g1 (fun ps z => by cases z), e _ _ g2 (fun ps z => by cases z), g3⟩, h2⟩
/-- the pen's turns leave the tables -/
theorem tabs_kp {T : List (Addr × Str)} {H H' : Hp} {p l : Addr} {B : Int} (hP : Pen H p l B) (k : Kp p H H') (t : Tabs T H) : Tabs T H' := fun y hy => by
  obtain ⟨ns, a, d, c, f, g1, _⟩ := hP
  obtain ⟨ps, h1, h2, h3⟩ := t y hy
  refine ⟨ps, k _ _ (ne_of h1 g1.1 (by intro z; cases z)) h1, h2, fun pos cv hc => ?_⟩
  obtain ⟨c', e1, e2⟩ := h3 pos cv hc
  exact ⟨c', e1, k _ _ (ne_of e2 g1.1 (by intro z; unfold LamX.CodeO at z; cases z)) e2⟩
/-- the law's promise -/
def spLaw (K : PySem.W.Frag) (Pt : Addr) : Sp := fun vs H Q _ => ∃ (a : Addr) (ns : List Int), vs = [.ref a] ∧ SqL K H a (ns.map V.int) ∧ ns.length ≤ 63 ∧ H Pt = some (.tbl #[]) ∧ ∀ H', Q (.bl true) H'
theorem seq_step {X rest : TS} {D : L2.Ends} {σ : L2.St} {H : Hp} (Pv : L2.St → Hp → Prop) (h1 : ∀ k : L2.St → Hp → Prop, (∀ σ' H', Pv σ' H' → k σ' H') → X { D with nx := k } σ H) (h2 : ∀ σ' H', Pv σ' H' → rest D σ' H') : tSeq X rest D σ H := h1 _ h2
/-- a row that the law draws, of degree n -/
structure RowA (A : List Rat) (n : Nat) : Prop where
  s : stripQ A = A
  l : A.length = n + 1
  hb : ∀ i, Hb 31 (cf A i)
  c : cf A n ≠ 0
theorem row_scale {A : List Rat} {n : Nat} {c : Rat} (h : RowA A n) (hb : ∀ i, Hb 27 (cf A i)) (hc : Hb 4 c) (c0 : c ≠ 0) : RowA (stripQ (pscale A c)) n := by
  have top : cf (stripQ (pscale A c)) n ≠ 0 := by
    rw [cf_stripQ, cf_pscale]
    exact fun z => (Rat.mul_eq_zero.mp z).elim h.c c0
  refine ⟨stripQ_id (stripQ_stp _), len_of (stripQ_id (stripQ_stp _)) ?_ top, fun i => ?_, top⟩
  · have z1 := stripQ_len (pscale A c)
    have z2 : (pscale A c).length = A.length := List.length_map ..
    have := h.l
    omega
  · rw [cf_stripQ, cf_pscale]
    exact (hb i).mul hc
theorem row_first {qs : List Rat} {q : Rat} {n : Nat} (hl : qs.length = n) (hb : ∀ i, Hb 27 (cf qs i)) (hq : Hb 27 q) (q0 : q ≠ 0) : RowA (qs ++ [q]) n ∧ ∀ i, Hb 27 (cf (qs ++ [q]) i) := by
  have h27 : ∀ i, Hb 27 (cf (qs ++ [q]) i) := fun i => by
    rw [cf_app]
    split
    · exact hb i
    · by_cases h0 : i - qs.length = 0
      · rw [h0]; exact hq
      · rw [cf_ge (show ([q] : List Rat).length ≤ i - qs.length by show 1 ≤ _; omega)]
        exact Hb.zero _
  have top : cf (qs ++ [q]) n = q := by
    rw [cf_app, if_neg (by omega), hl, Nat.sub_self]
    rfl
  refine ⟨⟨stripQ_id fun r x e => ?_, by rw [List.length_append, hl]; rfl, fun i => (h27 i).up (by decide), by rw [top]; exact q0⟩, h27⟩
  have := List.append_inj' e rfl
  have e2 := this.2
  cases e2
  exact q0
theorem Dt.wo' {K : PySem.W.Frag} {H : Hp} {p : Addr} {v : V} {d : PyData} (h : Dt K (wo p H) v d) : Dt K H v d := h.mono fun b o e => by
  unfold wo at e
  split at e
  · cases e
  · exact e
theorem rv_pass {K : PySem.W.Frag} {H : Hp} {v : V} {d : PyData} {q : Rat} {k : Int} (hd : Dt K H v d) (hp : partsD d = some (q.num * k, (q.den : Int) * k)) (k0 : 0 < k) (k3 : k ≤ 3) (hq : Hb 16 q) : RV K H v q := by
  refine ⟨d, _, _, hd, hp, ?_, ?_, ?_⟩
  · rw [Rat.intCast_mul, Rat.intCast_mul, ← num_den q]
    show q * ((q.den : Rat) * (k : Rat)) = q * (q.den : Rat) * (k : Rat)
    grind
  · show (q.num * k).natAbs < _
    rw [Int.natAbs_mul]
    have h1 : q.num.natAbs * k.natAbs ≤ 2 ^ 16 * 2 ^ 2 := Nat.mul_le_mul hq.1 (by omega)
    exact Nat.lt_of_le_of_lt h1 (by rw [← Nat.pow_add]; exact Nat.pow_lt_pow_right (by decide) (by decide))
  · show ((q.den : Int) * k).natAbs < _
    rw [Int.natAbs_mul, Int.natAbs_natCast]
    have h1 : q.den * k.natAbs ≤ 2 ^ 16 * 2 ^ 2 := Nat.mul_le_mul hq.2 (by omega)
    exact Nat.lt_of_le_of_lt h1 (by rw [← Nat.pow_add]; exact Nat.pow_lt_pow_right (by decide) (by decide))
theorem pass_sz {d e : PyData} {q r : Rat} {k j : Int} (hd : partsD d = some (q.num * k, (q.den : Int) * k)) (he : partsD e = some (r.num * j, (r.den : Int) * j)) (k0 : 0 < k) (k3 : k ≤ 3) (j0 : 0 < j) (j3 : j ≤ 3) (hq : Hb 16 q) (hr : Hb 16 r) : (∀ t b x c, partsD d = some (t, b) → partsD e = some (x, c) → Sz t ∧ Sz b ∧ Sz x ∧ Sz c) ∧ (q < r → ivD d e) := by
  have key : ∀ {a i : Int}, a.natAbs ≤ 2 ^ 16 → 0 < i → i ≤ 3 → Sz (a * i) := fun {a i} ha i0 i3 => by
    show (a * i).natAbs < _
    rw [Int.natAbs_mul]
    have h1 : a.natAbs * i.natAbs ≤ 2 ^ 16 * 2 ^ 2 := Nat.mul_le_mul ha (by omega)
    exact Nat.lt_of_le_of_lt h1 (by rw [← Nat.pow_add]; exact Nat.pow_lt_pow_right (by decide) (by decide))
  have qd : ((q.den : Int)).natAbs ≤ 2 ^ 16 := by rw [Int.natAbs_natCast]; exact hq.2
  have rd : ((r.den : Int)).natAbs ≤ 2 ^ 16 := by rw [Int.natAbs_natCast]; exact hr.2
  refine ⟨fun t b x c e1 e2 => ?_, fun lt => ⟨_, _, _, _, hd, he, ?_⟩⟩
  · rw [hd] at e1
    rw [he] at e2
    cases e1
    cases e2
    exact ⟨key hq.1 k0 k3, key qd k0 k3, key hr.1 j0 j3, key rd j0 j3⟩
  · have h : q.num * (r.den : Int) < r.num * (q.den : Int) := (lt_cross (num_den q) (num_den r) (by have := q.den_pos; omega) (by have := r.den_pos; omega)).mpr lt
    have h2 := Int.mul_lt_mul_of_pos_right h (Int.mul_pos k0 j0)
    have e1 : q.num * k * ((r.den : Int) * j) = q.num * (r.den : Int) * (k * j) := by
      simp only [Int.mul_assoc, Int.mul_left_comm, Int.mul_comm]
    have e2 : r.num * j * ((q.den : Int) * k) = r.num * (q.den : Int) * (k * j) := by
      simp only [Int.mul_assoc, Int.mul_left_comm, Int.mul_comm]
    rw [e1, e2]
    exact h2
theorem absR_pos {x : Rat} (h : x ≠ 0) : 0 < absR x := by
  unfold absR
  split
  · grind
  · rename_i z
    have : 0 ≤ x := Rat.not_lt.mp z
    rcases (Rat.le_total : 0 ≤ x ∨ x ≤ 0) with z | z <;> grind
theorem olE_ne {c lo hi : Rat} {n : Nat} (hc : c ≠ 0) (lt : lo < hi) : olE c n lo hi ≠ 0 := by
  unfold olE
  intro z
  rcases Rat.mul_eq_zero.mp z with z | z
  · rcases Rat.mul_eq_zero.mp z with z | z
    · exact absurd z (by decide +kernel)
    · exact hc z
  · refine pow_ne ?_ n z
    intro z
    rcases Rat.mul_eq_zero.mp z with z | z
    · exact sub_ne lt z
    · exact absurd z (by decide +kernel)
theorem num_pos' {q : Rat} (h : 0 < q) : ¬ q.num ≤ 0 := by
  have h1 := Rat.num_nonneg.mpr (show 0 ≤ q by grind)
  have h2 : q.num ≠ 0 := fun z => pos_ne h (Rat.num_eq_zero.mp z)
  omega
theorem rg_tab (n : Nat) : rgV 0 (n : Int) = (tabI n fun k => (k : Int)).map V.int := by
  unfold rgV tabI
  rw [List.map_map, show ((n : Int) - 0).toNat = n by omega]
  refine List.map_congr_left fun i _ => ?_
  show V.int (0 + (i : Int)) = V.int (i : Int)
  rw [Int.zero_add]
theorem cf_olR {A : List Rat} {n : Nat} {lo hi : Rat} (i : Nat) : cf (olR A n lo hi) i = cf A i - cf (olW n lo hi) i * olE (cf A n) n lo hi := by
  unfold olR
  rw [cf_stripQ, cf_padd, cf_neg, cf_stripQ, cf_pmul, pc_line (fun k hk => by rw [cf_one, if_neg (by omega)]), cf_one, cf_one, if_pos (rfl : (0 : Nat) = 0), if_neg (by decide : ¬(1 : Nat) = 0)]
  split <;> grind
theorem olR_hb {A : List Rat} {n : Nat} {lo hi : Rat} (RA : RowA A n) (n6 : n ≤ 6) (hl : Hb 16 lo) (hh : Hb 16 hi) (lt : lo < hi) (i : Nat) : Hb 1180 (cf (olR A n lo hi) i) := by
  obtain ⟨_, M, N, h1, h2, h3, h4⟩ := olW_fr hl hh lt n6
  rw [cf_olR]
  exact ((RA.hb i).sub ((Hb.of (h4 i) h1 h2 h3).mul (olE_hb hl hh (RA.hb n) n6))).up (by decide)
theorem gap_fr {A : List Rat} {n : Nat} {lo hi : Rat} (EN : Ends lo hi) (RA : RowA A n) (n1 : 1 ≤ n) (n6 : n ≤ 6) : (gapQ A (olR A n lo hi)).length ≤ 13 ∧ ∃ M N, 0 < M ∧ 0 < N ∧ M ≤ 2 ^ 586 ∧ N ≤ 2 ^ 620 ∧ ∀ i, Fr M N (cf (gapQ A (olR A n lo hi)) i) := by
  obtain ⟨D, _, G, _⟩ := geo_of EN
  obtain ⟨hl, hh⟩ := EN.hb
  obtain ⟨_, c2, _⟩ := chb_ok n6
  obtain ⟨l8, f8⟩ := okC_fr c2
  rw [gap_im]
  have z := im_len (s := olS lo hi) (t := olT lo hi) (al := olE (cf A n) n lo hi) (p := (chb n).2)
  obtain ⟨M, N, h1, h2, h3, h4⟩ := im_fr G (p := (chb n).2) (fun i => (f8 i).le (by decide)) (by omega) (olE_hb hl hh (RA.hb n) n6)
  refine ⟨by omega, M, N + 1, h1, by omega, h2, ?_, fun i => (h4 i).le (by omega)⟩
  have e : 2 ^ 619 + 2 ^ 619 = 2 ^ 620 := by rw [← Nat.two_mul, ← Nat.pow_succ']
  have : 1 ≤ 2 ^ 619 := Nat.pow_pos (by decide)
  have h3 : N ≤ 2 ^ 619 := h3
  omega
theorem left_dat {A : List Rat} {n : Nat} {lo hi : Rat} (EN : Ends lo hi) (RA : RowA A n) (n1 : 1 ≤ n) (n6 : n ≤ 6) : ∃ (S : List Rat) (V : Rat → Nat) (_ : Dat (leftQ (absR (olE (cf A n) n lo hi)) (gapQ A (olR A n lo hi))) S V) (M N J : Nat) (ok : Rat → Bool) (F : List (Rat × Rat)), Blw (leftQ (absR (olE (cf A n) n lo hi)) (gapQ A (olR A n lo hi))) S V lo hi M N J ok F ∧ manyF V (zeroB S) lo hi = (n : Int) + 1 := by
  obtain ⟨D, M, G, el, eh, eM, M0, M26⟩ := geo_of EN
  obtain ⟨hl, hh⟩ := EN.hb
  have B := base n1 n6
  have en := olE_ne (n := n) RA.c EN.lt
  have e0 : 0 < olE (cf A n) n lo hi * olE (cf A n) n lo hi := by
    rw [← absR_sq]
    exact Rat.mul_pos (absR_pos en) (absR_pos en)
  have he : Hb 496 (olE (cf A n) n lo hi * olE (cf A n) n lo hi) := (olE_hb hl hh (RA.hb n) n6).mul (olE_hb hl hh (RA.hb n) n6)
  rw [left_im B]
  obtain ⟨⟨d⟩, ka, k0, eS⟩ := dat_of G n1 n6 e0 he
  obtain ⟨F, hF⟩ := blw_of G n1 n6 e0 he el eh eM M0 M26
  refine ⟨_, _, d, M, 2 ^ 27, 12, _, F, hF, ?_⟩
  have ez : ∀ x, zeroB (sS n (olS lo hi) (olT lo hi) (olE (cf A n) n lo hi * olE (cf A n) n lo hi)) x = tZ n (olS lo hi + olT lo hi * x) := fun x => by rw [eS]; exact zero_im B k0 x
  have := B.cnt
  unfold manyF at this ⊢
  rw [ez]
  unfold sV
  rw [el, eh]
  exact this
theorem iv_of {lo hi : Rat} (lt : lo < hi) : ivD (.tuple [.int lo.num, .int (lo.den : Int)]) (.tuple [.int hi.num, .int (hi.den : Int)]) := ⟨_, _, _, _, parts_pq lo, parts_pq hi, (lt_cross (num_den lo) (num_den hi) (by have := lo.den_pos; omega) (by have := hi.den_pos; omega)).mpr lt⟩
theorem dt_tr {K : PySem.W.Frag} {H : Hp} {r : Addr} {q : Rat} (h : TR H r q) : Dt K H (.ref r) (.tuple [.int q.num, .int (q.den : Int)]) := .tup (SqT.of h) (.cons (.int _) (.cons (.int _) .nil))
theorem sz_tr {lo hi : Rat} (hl : Hb 16 lo) (hh : Hb 16 hi) : ∀ t b x c, partsD (.tuple [.int lo.num, .int (lo.den : Int)]) = some (t, b) → partsD (.tuple [.int hi.num, .int (hi.den : Int)]) = some (x, c) → Sz t ∧ Sz b ∧ Sz x ∧ Sz c := fun t b x c e1 e2 => by
  rw [parts_pq] at e1 e2
  cases e1
  cases e2
  have a := hl.sr (by decide)
  have b := hh.sr (by decide)
  exact ⟨a.1, by show ((lo.den : Int)).natAbs < _; rw [Int.natAbs_natCast]; exact a.2, b.1, by show ((hi.den : Int)).natAbs < _; rw [Int.natAbs_natCast]; exact b.2⟩
/-- the same object, or flat values that are equal -/
def DV : Eqv := fun x y H => (∃ a, x = .ref a ∧ y = .ref a) ∨ DFlat x y H
theorem mon_v : Mon DV := fun _ _ _ _ _ d => d
theorem eq_v {X : Cx} : EqG X 0 DV := by
  intro A pins s σ H x y u v sb I rx ry d
  rcases d with ⟨a, rfl, rfl⟩ | d
  · cases rx
    cases ry
    exact SeqAt.EqAt.same (A := A) (s := s) (.ref a) X.prog X.w X.xe _ ⟨rfl, H, I, Ext.rfl'⟩
  · exact eqG_flat A pins s σ H x y u v sb I rx ry d
def DE (K : PySem.W.Frag) : Eqv := fun x y H => DTup K DFlat x y H ∨ DV x y H
theorem mon_e {K : PySem.W.Frag} : Mon (DE K) := (mon_tup mon_flat).or mon_v
theorem eq_e {X : Cx} : EqG X 1 (DE X.K) := (eqG_tup mon_flat eqG_flat).or (eq_v.mono (by decide))
theorem ins_made2 {K : PySem.W.Frag} {CP C : Addr} {names : List Str} {H : Hp} {as : List V} {Qd : Addr → Hp → Prop} {E : XK} (hl : as.length = names.length) (hk : ∀ v ∈ as, HK K CP H v)
    (q : ∀ (x dx : Addr) (bs : List V) (H1 H' : Hp), Same H H1 → Same H H' → H x = none → bs.length = as.length → H' x = some (.ins C dx (names.zip bs)) → (∀ (i : Nat) (v b : V), as[i]? = some v → bs[i]? = some b → HR H1 H' v b) → Qd x H') :
    ∀ x dx, H x = none → H dx = none → dx ≠ x → spIns K CP C names (.ref x :: (as ++ [])) (upd (upd H dx (.own x)) x (.ins C dx [])) (fun w H2 => w = .non ∧ Qd x H2) E := by
  intro x dx nx nd ne
  rw [List.append_nil]
  have s1 : Same H (upd (upd H dx (.own x)) x (.ins C dx [])) := (same_upd nd).trans (same_upd (by rw [upd_ne (Ne.symm ne)]; exact nx))
  refine ⟨x, dx, as, rfl, hl, upd_same, fun v hv => (hk v hv).same s1, fun bs H' k l e r => ⟨rfl, q x dx bs _ H' s1 (fun b o e => k b o (ne_of_none e nx) (s1 _ _ e)) nx l e r⟩⟩
structure NeC (K : PySem.W.Frag) (CE : Addr) : Prop where
  ca : PySem.W.findIn K (.ref CE) "__class__" = some (some (.builtin "object.__class__"))
  cn : PySem.W.specialIn K (.builtin "object.__class__") "__get__" = some (some (.builtin "getset_descriptor.__get__"))
  ct : PySem.W.takesIn K (.builtin "object.__class__") = some true
  cm : PySem.W.mroIn K CE (.type "object") = some true
section
variable {P : Program} {w : World} {K : PySem.W.Frag} {mg : Str → Option Value} {base : Heap} {C : Nat → Addr} {CP CE : Addr}
abbrev sLaw : Stmt := topS 85
theorem scLaw : FnScope ["_law_script", "_law_pen_here", "_law_lap", "_law_low", "_law_high", "_law_degree", "_law_poly_here", "_law_k", "_law_told", "_law_numbers", "_law_gap", "_law_left", "_law_flat", "_law_odd", "_law_hand"] ["_law_script"] (defScope sLaw) := ⟨rfl, rfl, rfl, by decide +kernel, rfl, by decide +kernel, by decide +kernel⟩
theorem ok_law {f : Addr} {fd : FuncData} (F : Fun K "law" "law" sLaw f fd) (T : Bk mg) (W : W9 K mg C) (hm1 : M1 base) (c Pt : Addr) (hfc : fd.code = .ref c) (hTB : LamX.TabB base mg c Pt) (Y : Yy K mg) (PM : PoM P w K mg base CP (C 0)) (IN_Nearer : InM P w K mg base CP "Nearer" CE ["poly", "error"]) (NC : NeC K CE)
    (G__law_pen : Df P w K mg base "_law_pen" 1 ["_law_script"] (spPen K))
    (G__law_draw : Df P w K mg base "_law_draw" 1 ["_law_pen_here", "_law_many"] spDraw)
    (G__law_pick : Df P w K mg base "_law_pick" 2 ["_law_pen_here", "_law_some"] spPick)
    (G__law_ratio : Df P w K mg base "_law_ratio" 3 ["_law_pen_here", "_law_most"] spRatio)
    (G__law_interval : Df P w K mg base "_law_interval" 4 ["_law_pen_here", "_law_most"] spIv)
    (G__law_passed : Df P w K mg base "_law_passed" 3 ["_law_pen_here", "_law_ratio_here"] (spPassed K))
    (G__law_p_scaled : Df P w K mg base "_law_p_scaled" 4 ["_law_one", "_law_by"] spLPS)
    (G__law_made_poly : Df P w K mg base "_law_made_poly" 7 ["_law_pen_here", "_law_one"] (spMade K CP))
    (G__law_is_ratio : Df P w K mg base "_law_is_ratio" 2 ["_law_thing"] spIsRt)
    (G__law_told_poly : Df P w K mg base "_law_told_poly" 3 ["_law_value", "_law_powers"] (spTP K CP))
    (G__law_p_minus : Df P w K mg base "_law_p_minus" 5 ["_law_one", "_law_two"] spLPM)
    (G__law_p_times : Df P w K mg base "_law_p_times" 4 ["_law_one", "_law_two"] spLPT)
    (G__law_times : Df P w K mg base "_law_times" 3 ["_law_one", "_law_two"] (spL2 rMul))
    (G__law_is_never_below : Df P w K mg base "_law_is_never_below" 10 ["_law_one", "_law_low", "_law_high"] (spBelow true))
    (G__law_count : Df P w K mg base "_law_count" 8 ["_law_one", "_law_low", "_law_high"] spCount)
    (G_one_less : Dx P w K mg base "one_less" 10 ["poly", "low", "high"] (spOneL K CP (C 1) (C 2) CE)) : FnG P w K mg base CX0 14 f fd ["_law_script"] (spLaw K Pt) := by
  refine fnG_of1 F scLaw (fun vs H Q E h => ?_) (fun cdv A outer s H0 vs Q E hgu hr hcd h => ?_)
  · obtain ⟨a, ns, rfl, _⟩ := h
    rfl
  · obtain ⟨sc, ns, rfl, hS, hns, hPt, kend⟩ := h
    have hu64 := hr.units
    have hcd : cdv = .ref c := hcd.symm.trans hfc
    refine ⟨_, (pss_cons (ps_set (i := 1) scLaw.nd rfl (Or.inr rfl) (pe_call G__law_pen.ok (hr.mono (by decide)) rfl G__law_pen.m G__law_pen.kp G__law_pen.b .nil pass0 (pa_cons (pv 0) pa_nil)))
  (pss_cons (ps_for PassesOwn.never rfl (pi_range1 (by rfl) T.range (pa_cons pe_int pa_nil)) (pg_name (i := 2) scLaw.nd rfl (Or.inl rfl))
    (pss_cons (ps_asg (pe_call G__law_interval.ok (hr.mono (by decide)) rfl G__law_interval.m G__law_interval.kp G__law_interval.b .nil pass0 (pa_cons (pv 1) (pa_cons (pe_call G__law_pick.ok (hr.mono (by decide)) rfl G__law_pick.m G__law_pick.kp G__law_pick.b .nil pass0 (pa_cons (pv 1) (pa_cons (pe_lst (pa_cons pe_int (pa_cons pe_int (pa_cons pe_int pa_nil)))) pa_nil))) pa_nil))) (pg_tup (by rfl) (pgs_cons (pg_name (i := 3) scLaw.nd rfl (Or.inr rfl)) (pgs_cons (pg_name (i := 4) scLaw.nd rfl (Or.inr rfl)) pgs_nil))))
    (pss_cons (ps_set (i := 5) scLaw.nd rfl (Or.inl rfl) (pe_op op_add pe_int (pe_call G__law_draw.ok (hr.mono (by decide)) rfl G__law_draw.m G__law_draw.kp G__law_draw.b .nil pass0 (pa_cons (pv 1) (pa_cons pe_int pa_nil)))))
    (pss_cons (ps_set (i := 6) scLaw.nd rfl (Or.inl rfl) (pe_op op_cat (pe_lc (own := [("_law_k", 7)]) (g := (gName 7)) (tt := tYes) rfl scLaw.nd (pi_range1 (by rfl) T.range (pa_cons (pv 5) pa_nil)) (blkOk_by (N := ["_law_script", "_law_pen_here", "_law_lap", "_law_low", "_law_high", "_law_degree", "_law_poly_here", "_law_k", "_law_told", "_law_numbers", "_law_gap", "_law_left", "_law_flat", "_law_odd", "_law_hand"]) (sc := defScope sLaw) (by decide +kernel)) (fun _ _ _ _ _ => pg_name (i := 7) scLaw.nd rfl (Or.inl rfl)) (fun _ _ _ _ _ => pts_nil) (fun _ _ _ _ _ => (pe_call G__law_ratio.ok (hr.mono (by decide)) rfl G__law_ratio.m G__law_ratio.kp G__law_ratio.b .nil pass0 (pa_cons (pv 1) (pa_cons (pe_call G__law_pick.ok (hr.mono (by decide)) rfl G__law_pick.m G__law_pick.kp G__law_pick.b .nil pass0 (pa_cons (pv 1) (pa_cons (pe_lst (pa_cons pe_int (pa_cons (pe_op op_pow pe_int pe_int) pa_nil))) pa_nil))) pa_nil))))) (pe_lst (pa_cons (pe_tup (pa_cons pe_int (pa_cons (pe_op op_add pe_int (pe_call G__law_draw.ok (hr.mono (by decide)) rfl G__law_draw.m G__law_draw.kp G__law_draw.b .nil pass0 (pa_cons (pv 1) (pa_cons pe_int pa_nil)))) pa_nil))) pa_nil))))
    (pss_cons (ps_if (pt_cmpR op_eq (pe_call G__law_draw.ok (hr.mono (by decide)) rfl G__law_draw.m G__law_draw.kp G__law_draw.b .nil pass0 (pa_cons (pv 1) (pa_cons pe_int pa_nil))) pe_int (nomark _))
      (pss_one (ps_set (i := 6) scLaw.nd rfl (Or.inl rfl) (pe_call G__law_p_scaled.ok (hr.mono (by decide)) rfl G__law_p_scaled.m G__law_p_scaled.kp G__law_p_scaled.b .nil pass0 (pa_cons (pv 6) (pa_cons (pe_tup (pa_cons (pe_un un_neg pe_int) (pa_cons pe_int pa_nil))) pa_nil)))))
      pss_nil)
    (pss_cons (ps_set (i := 8) scLaw.nd rfl (Or.inl rfl) (pe_call G_one_less.ok (hr.mono (by decide)) rfl G_one_less.m G_one_less.kp G_one_less.b .nil passL (pa_cons (pe_call G__law_made_poly.ok (hr.mono (by decide)) rfl G__law_made_poly.m G__law_made_poly.kp G__law_made_poly.b .nil pass0 (pa_cons (pv 1) (pa_cons (pv 6) pa_nil))) (pa_cons (pe_call G__law_passed.ok (hr.mono (by decide)) rfl G__law_passed.m G__law_passed.kp G__law_passed.b .nil pass0 (pa_cons (pv 1) (pa_cons (pv 3) pa_nil))) (pa_cons (pe_call G__law_passed.ok (hr.mono (by decide)) rfl G__law_passed.m G__law_passed.kp G__law_passed.b .nil pass0 (pa_cons (pv 1) (pa_cons (pv 4) pa_nil))) pa_nil)))))
    (pss_cons (ps_if (PW.pt (pw_or (pt_not (pt_val (pe_callB call_isi (by rfl) T.isinstance (by decide +kernel) (pa_cons (pv 8) (pa_cons (pe_glob (v := V.ref CE) rfl IN_Nearer.C.m rfl) pa_nil))))) (pw_or (pt_not (pt_val (pe_call G__law_is_ratio.ok (hr.mono (by decide)) rfl G__law_is_ratio.m G__law_is_ratio.kp G__law_is_ratio.b .nil pass0 (pa_cons (pe_fld (pv 8) rfl) pa_nil)))) (pw_or1 (pt_cmpR op_le (pe_ix (r := rIxT K) ix_tup (pe_fld (pv 8) rfl) pe_int (fun _ _ => rfl)) pe_int (nomark _))))))
      (pss_one (ps_ret pe_bl))
      pss_nil)
    (pss_cons (ps_set (i := 9) scLaw.nd rfl (Or.inl rfl) (pe_call G__law_told_poly.ok (hr.mono (by decide)) rfl G__law_told_poly.m G__law_told_poly.kp G__law_told_poly.b .nil pass0 (pa_cons (pe_fld (pv 8) rfl) (pa_cons (pe_listRg (by rfl) (by rfl) T.list (prg_1 (by rfl) T.range (pv 5))) pa_nil))))
    (pss_cons (ps_if (pt_cmpR op_isN (pv 9) pe_non (nomark _))
      (pss_one (ps_ret pe_bl))
      pss_nil)
    (pss_cons (ps_set (i := 10) scLaw.nd rfl (Or.inl rfl) (pe_call G__law_p_minus.ok (hr.mono (by decide)) rfl G__law_p_minus.m G__law_p_minus.kp G__law_p_minus.b .nil pass0 (pa_cons (pv 6) (pa_cons (pv 9) pa_nil))))
    (pss_cons (ps_set (i := 11) scLaw.nd rfl (Or.inl rfl) (pe_call G__law_p_minus.ok (hr.mono (by decide)) rfl G__law_p_minus.m G__law_p_minus.kp G__law_p_minus.b .nil pass0 (pa_cons (pe_lst (pa_cons (pe_call G__law_times.ok (hr.mono (by decide)) rfl G__law_times.m G__law_times.kp G__law_times.b .nil pass0 (pa_cons (pe_fld (pv 8) rfl) (pa_cons (pe_fld (pv 8) rfl) pa_nil))) pa_nil)) (pa_cons (pe_call G__law_p_times.ok (hr.mono (by decide)) rfl G__law_p_times.m G__law_p_times.kp G__law_p_times.b .nil pass0 (pa_cons (pv 10) (pa_cons (pv 10) pa_nil))) pa_nil))))
    (pss_one (ps_if (PW.pt (pw_or (pt_not (pt_val (pe_call G__law_is_never_below.ok (hr.mono (by decide)) rfl G__law_is_never_below.m G__law_is_never_below.kp G__law_is_never_below.b .nil pass0 (pa_cons (pv 11) (pa_cons (pv 3) (pa_cons (pv 4) pa_nil)))))) (pw_or1 (pt_cmpR op_ne (pe_call G__law_count.ok (hr.mono (by decide)) rfl G__law_count.m G__law_count.kp G__law_count.b .nil pass0 (pa_cons (pv 11) (pa_cons (pv 3) (pa_cons (pv 4) pa_nil)))) (pe_op op_add (pv 5) pe_int) (nomark _)))))
      (pss_one (ps_ret pe_bl))
      pss_nil)))))))))))))
  (pss_cons (ps_set (i := 12) scLaw.nd rfl (Or.inr rfl) (pe_make PM.mkI PM.okI (hr.mono (by decide)) rfl PM.C.m PM.bI .nil passL (pa_cons (pe_call G__law_pick.ok (hr.mono (by decide)) rfl G__law_pick.m G__law_pick.kp G__law_pick.b .nil pass0 (pa_cons (pv 1) (pa_cons (pe_lst (pa_cons (pe_tup pa_nil) (pa_cons (pe_tup (pa_cons pe_int pa_nil)) (pa_cons (pe_tup (pa_cons (pe_tup (pa_cons pe_int (pa_cons pe_int pa_nil))) pa_nil)) pa_nil)))) pa_nil))) pa_nil)))
  (pss_cons (ps_if (pt_cmpR (op_neT hu64 hm1) (LamX.pe_lamcall (T := Ts Pt) (TT := TFault C) (k := 11) rfl Y.m Y.kp Y.lk Y.hc Y.b scWhy rfl (.inl rfl) (why_gives W) hTB hcd (by rw [qual_eq]; exact ts_mem Pt) (by rw [qual_eq]; exact ts_only Pt) (hr.mono (by decide)) (show LamX.LamS (defScope sLaw) _ from LamX.lamS_by (by decide +kernel)) rfl (fun _ _ _ _ _ => rfl) (fun A' out' s' H' E' f' c' hr' => (pe_call G_one_less.ok (hr'.mono (by decide)) rfl G_one_less.m G_one_less.kp G_one_less.b .nil (E := E') (passes_call (takes_of rfl rfl rfl rfl) (fun _ _ _ _ h => h)) (pa_cons (pv 12) (pa_cons (pv 3) (pa_cons (pv 4) pa_nil)))))) (pe_tup (pa_cons pe_str (pa_cons pe_str (pa_cons (pe_op op_sub (pe_callB call_len_seq (by rfl) T.len (by decide +kernel) (pa_cons (pe_fld (pv 12) rfl) pa_nil)) pe_int) pa_nil)))) (nomark _))
    (pss_one (ps_ret pe_bl))
    pss_nil)
  (pss_cons (ps_set (i := 13) scLaw.nd rfl (Or.inr rfl) (pe_call G__law_pick.ok (hr.mono (by decide)) rfl G__law_pick.m G__law_pick.kp G__law_pick.b .nil pass0 (pa_cons (pv 1) (pa_cons (pe_lst (pa_cons (pe_tup (pa_cons pe_int (pa_cons pe_int pa_nil))) (pa_cons (pe_tup (pa_cons pe_int (pa_cons pe_int pa_nil))) (pa_cons (pe_tup (pa_cons pe_non (pa_cons pe_int pa_nil))) (pa_cons (pe_tup (pa_cons pe_int (pa_cons pe_bl pa_nil))) (pa_cons (pe_tup (pa_cons pe_str (pa_cons pe_int pa_nil))) (pa_cons (pe_tup (pa_cons pe_int (pa_cons (pe_tup (pa_cons pe_int (pa_cons pe_int pa_nil))) pa_nil))) (pa_cons (pe_tup (pa_cons (pe_tup (pa_cons pe_int (pa_cons pe_int pa_nil))) (pa_cons (pe_tup (pa_cons pe_int (pa_cons pe_int pa_nil))) pa_nil))) pa_nil)))))))) pa_nil))))
  (pss_cons (ps_if (pt_cmpR (op_neT hu64 hm1) (LamX.pe_lamcall (T := Ts Pt) (TT := TFault C) (k := 11) rfl Y.m Y.kp Y.lk Y.hc Y.b scWhy rfl (.inl rfl) (why_gives W) hTB hcd (by rw [qual_eq]; exact ts_mem Pt) (by rw [qual_eq]; exact ts_only Pt) (hr.mono (by decide)) (show LamX.LamS (defScope sLaw) _ from LamX.lamS_by (by decide +kernel)) rfl (fun _ _ _ _ _ => rfl) (fun A' out' s' H' E' f' c' hr' => (pe_call G_one_less.ok (hr'.mono (by decide)) rfl G_one_less.m G_one_less.kp G_one_less.b .nil (E := E') (passes_call (takes_of rfl rfl rfl rfl) (fun _ _ _ _ h => h)) (pa_cons (pv 12) (pa_cons (pe_ix (r := rIxT K) ix_tup (pv 13) pe_int (fun _ _ => rfl)) (pa_cons (pe_ix (r := rIxT K) ix_tup (pv 13) pe_int (fun _ _ => rfl)) pa_nil)))))) (pe_tup (pa_cons pe_str (pa_cons (pe_ix (r := rIxT K) ix_tup (pv 13) pe_int (fun _ _ => rfl)) (pa_cons (pe_ix (r := rIxT K) ix_tup (pv 13) pe_int (fun _ _ => rfl)) pa_nil)))) (nomark _))
    (pss_one (ps_ret pe_bl))
    pss_nil)
  (pss_cons (ps_set (i := 14) scLaw.nd rfl (Or.inl rfl) (pe_make IN_Nearer.mkI IN_Nearer.okI (hr.mono (by decide)) rfl IN_Nearer.C.m IN_Nearer.b .nil pass0 (pa_cons (pv 12) (pa_cons (pe_tup (pa_cons pe_int (pa_cons pe_int pa_nil))) pa_nil))))
  (pss_one (ps_ret (pe_cmpR (show OpR _ _ (rEqG (DTup K (DE K))) from op_eqG (rcG_tup mon_e eq_e) (hr.mono (by decide))) (pe_tup (pa_cons (pe_fld (pv 14) rfl) (pa_cons (pe_fld (pv 14) rfl) pa_nil))) (pe_tup (pa_cons (pv 12) (pa_cons (pe_tup (pa_cons pe_int (pa_cons pe_int pa_nil))) pa_nil))) (nomark _))))))))))), ?_⟩
    refine ⟨_, rfl, sc, ns, rfl, hS, hns, fun p lc H1 s1 np nlc hP => ?_⟩
    have T1 : Tabs (Ts Pt) H1 := fun y hy => by
      rw [List.mem_singleton.mp hy]
      exact TabS.nil (s1 _ _ hPt)
    refine ⟨2, rfl, by decide, by decide, for_range (lo := 0) (n := 2) (fun i σ H => ∃ v2 v3 v4 v5 v6 v7 v8 v9 v10 v11 v12 v13 v14 : Option V, σ = [some (.ref sc), some (.ref p), v2, v3, v4, v5, v6, v7, v8, v9, v10, v11, v12, v13, v14] ∧ Pen H p lc (2000 * i) ∧ Tabs (Ts Pt) H ∧ (i = 0 ∨ ∃ r1 r2 lo hi, v3 = some (.ref r1) ∧ v4 = some (.ref r2) ∧ TR H r1 lo ∧ TR H r2 hi ∧ Ends lo hi))
      ⟨none, none, none, none, none, none, none, none, none, none, none, none, none, rfl, hP.more (by decide), T1, .inl rfl⟩ ?_ ?_⟩
    · rintro i σ H ih ⟨v2, v3, v4, v5, v6, v7, v8, v9, v10, v11, v12, v13, v14, rfl, hP0, T0, _⟩
      -- most
      refine ⟨_, rfl, _, rfl, (by show 3 ≤ sizeLine; decide), fun lm nlm => ?_⟩
      have elm : upd H lm (HO.lst [V.int 1, V.int 5, V.int 90]) lm = some (HO.lst [V.int 1, V.int 5, V.int 90]) := upd_same
      have s2 : Same H (upd H lm (HO.lst [V.int 1, V.int 5, V.int 90])) := same_upd nlm
      have lmp := (hP0.ne_new nlm).1
      generalize upd H lm (HO.lst [V.int 1, V.int 5, V.int 90]) = H2 at elm s2 ⊢
      have hP2 := hP0.same s2
      have T2 := T0.ext s2
      refine ⟨p, lc, lm, _, _, rfl, hP2, by omega, elm, lmp, (by show 0 < 3; decide), (by show 3 < 1000000; decide), fun x H3 hx hP3 k3 => ?_⟩
      have T3 := tabs_kp hP2 k3 T2
      obtain ⟨g, rfl, g0, g90⟩ : ∃ g : Int, x = .int g ∧ 1 ≤ g ∧ g ≤ 90 := by
        simp only [List.mem_cons, List.not_mem_nil, or_false] at hx
        rcases hx with h | h | h <;> exact ⟨_, h, by omega, by omega⟩
      -- the interval
      refine ⟨p, lc, _, g, rfl, g0, g90, hP3, by omega, fun t r1 r2 lo hi H4 hP4 k4 et tp t1 t2 lt bl bh => ?_⟩
      have T4 := tabs_kp hP3 k4 T3
      have EN : Ends lo hi := ⟨lt, bl, bh⟩
      refine ⟨t, _, rfl, SqT.of et, rfl, _, _, rfl, _, _, rfl, rfl, ?_⟩
      -- degree
      refine ⟨_, rfl, p, lc, _, 6, rfl, hP4, by omega, by decide, by decide, fun z H5 z0 z1 hP5 k5 => ⟨_, _, rfl, rfl, ?_⟩⟩
      have T5 := tabs_kp hP4 k5 T4
      obtain ⟨n, hn⟩ : ∃ n : Nat, 1 + z = ((n : Nat) : Int) := ⟨(1 + z).toNat, by omega⟩
      have n1 : 1 ≤ n := by omega
      have n6 : n ≤ 6 := by omega
      dsimp only
      rw [hn]
      -- the row of ratios
      refine ⟨_, rfl, _, rfl, by omega, by omega, fun D hD => lc_range (lo := 0) (n := ((n : Nat) : Int).toNat) (fun j H' => Kp p H5 H' ∧ (∃ B, Pen H' p lc B ∧ B ≤ 2000 * (i : Int) + 200 + 20 * (j : Int)) ∧ ∃ zs qs, H' D = some (.lst (zs.map V.ref)) ∧ Tups H' zs (qs.map pq) ∧ qs.length = j ∧ ∀ i, Hb 27 (cf qs i)) ?_ ?_ ?_⟩
      · exact ⟨Kp.of (same_upd hD), ⟨_, hP5.same (same_upd hD), by omega⟩, [], [], upd_same, .nil, rfl, fun i => Hb.zero _⟩
      · rintro j H6 hj ⟨kk, ⟨B6, hP6, hB6⟩, zs, qs, eD, tz, lq, sq⟩
        obtain ⟨d1, d2⟩ := hP5.ne_new hD
        refine ⟨rfl, ?_⟩
        refine ⟨_, rfl, _, rfl, ?_⟩
        refine ⟨_, _, rfl, rfl, ⟨by decide, by decide, by decide⟩, (by show 2 ≤ sizeLine; decide), fun l2 nl2 => ?_⟩
        have e6 : (10 : Int) ^ (6 : Int).toNat = 1000000 := by decide +kernel
        dsimp only
        rw [e6]
        have el2 : upd H6 l2 (HO.lst [V.int 2, V.int 1000000]) l2 = some (HO.lst [V.int 2, V.int 1000000]) := upd_same
        have s7 : Same H6 (upd H6 l2 (HO.lst [V.int 2, V.int 1000000])) := same_upd nl2
        have l2p := (hP6.ne_new nl2).1
        generalize upd H6 l2 (HO.lst [V.int 2, V.int 1000000]) = H7 at el2 s7 ⊢
        have hP7 := hP6.same s7
        refine ⟨p, lc, l2, _, _, rfl, hP7, by omega, el2, l2p, (by show 0 < 2; decide), (by show 2 < 1000000; decide), fun x H8 hx hP8 k8 => ?_⟩
        obtain ⟨m, rfl, m1, m6⟩ : ∃ m : Int, x = .int m ∧ 1 ≤ m ∧ m ≤ 1000000 := by
          simp only [List.mem_cons, List.not_mem_nil, or_false] at hx
          rcases hx with h | h <;> exact ⟨_, h, by omega, by omega⟩
        refine ⟨p, lc, _, m, rfl, m1, by omega, hP8, by omega, fun r t b H9 hP9 k9 e9 lw zt zb => ?_⟩
        obtain ⟨qq, eq⟩ := low_is_pq (p := (t, b)) lw
        have eD9 := k9 _ _ d1 (k8 _ _ d1 (s7 _ _ eD))
        have h1 : t = qq.num := congrArg Prod.fst eq
        have h2 : b = (qq.den : Int) := congrArg Prod.snd eq
        have er : TR H9 r qq := by
          unfold TR
          rw [e9, h1, h2]
        have hq : Hb 27 qq := by
          rw [h1] at zt
          rw [h2, Int.natAbs_natCast] at zb
          have e27 : (2 : Nat) ^ 27 = 134217728 := by decide +kernel
          refine ⟨?_, ?_⟩ <;> rw [e27] <;> omega
        have k69 : Kp p H6 H9 := ((Kp.of s7).trans k8).trans k9
        refine ⟨_, eD9, ?_, ?_, ⟨_, (hP9.put upd_away d1 d2), ?_⟩, zs ++ [r], qs ++ [qq], ?_, ?_, ?_, ?_⟩
        · have := tz.lenQ
          rw [List.length_map, sizeLine_eq]
          omega
        · exact fun b o nb eb => by
            rw [upd_ne (ne_of_none eb hD)]
            exact k69 b o nb (kk b o nb eb)
        · omega
        · rw [upd_same, List.map_append]
          rfl
        · have up : ∀ (c : Addr) (p : Int × Int), H9 c = some (.tup [.int p.1, .int p.2]) → upd H9 D (.lst (zs.map V.ref ++ [V.ref r])) c = some (.tup [.int p.1, .int p.2]) := fun c p z => by
            rw [upd_ne (ne_of z eD9 (by intro z; cases z))]
            exact z
          exact Tups.snocQ ((tz.kp hP6 k69).imp up) (up r (pq qq) er)
        · rw [List.length_append, lq]
          rfl
        · intro j2
          rw [cf_app]
          split
          · exact sq j2
          · by_cases h0 : j2 - qs.length = 0
            · rw [h0]; exact hq
            · rw [cf_ge (show ([qq] : List Rat).length ≤ j2 - qs.length by show 1 ≤ _; omega)]
              exact Hb.zero _
      · rintro H6 ⟨kk, ⟨B6, hP6, hB6⟩, zs, qs, eD, tz, lq, sq⟩
        rw [Int.toNat_natCast] at lq hB6
        have T6 := tabs_kp hP5 kk T5
        have nz := tz.lenQ
        -- the lead
        refine ⟨_, rfl, p, lc, _, 9, rfl, hP6, by omega, by decide, by decide, fun y H7 y0 y1 hP7 k7 => ⟨_, _, rfl, rfl, (by show 2 ≤ sizeLine; decide), fun tl ntl => ?_⟩⟩
        obtain ⟨k, hk⟩ : ∃ k : Nat, 1 + y = ((k : Nat) : Int) := ⟨(1 + y).toNat, by omega⟩
        have k1 : 0 < k := by omega
        have k9 : k ≤ 9 := by omega
        dsimp only at ntl ⊢
        rw [hk]
        let q1 : Rat := ⟨1, k, by omega, by rw [show (1 : Int).natAbs = 1 from rfl]; exact Nat.coprime_one_left k⟩
        have etl : TR (upd H7 tl (HO.tup [V.int 1, V.int (k : Int)])) tl q1 := upd_same
        have s8 : Same H7 (upd H7 tl (HO.tup [V.int 1, V.int (k : Int)])) := same_upd ntl
        generalize upd H7 tl (HO.tup [V.int 1, V.int (k : Int)]) = H8 at etl s8 ⊢
        have hq1 : Hb 27 q1 := by
          have e27 : (2 : Nat) ^ 27 = 134217728 := by decide +kernel
          refine ⟨?_, ?_⟩
          · show 1 ≤ 2 ^ 27
            omega
          · show k ≤ 2 ^ 27
            omega
        have q10 : q1 ≠ 0 := fun z => by
          have := congrArg Rat.num z
          cases this
        refine ⟨(by show 1 ≤ sizeLine; decide), fun ll nll => ?_⟩
        have ell : upd H8 ll (HO.lst [V.ref tl]) ll = some (HO.lst (([tl] : List Addr).map V.ref)) := upd_same
        have s9 : Same H8 (upd H8 ll (HO.lst [V.ref tl])) := same_upd nll
        generalize upd H8 ll (HO.lst [V.ref tl]) = H9 at ell s9 ⊢
        have dp := (hP5.ne_new hD).1
        have eD7 := k7 _ _ dp eD
        have s89 := s8.trans s9
        refine ⟨D, ll, _, _, rfl, rfl, s89 _ _ eD7, ell, ?_, fun l6 nl6 => ?_⟩
        · rw [List.length_map, sizeLine_eq]
          show zs.length + 1 ≤ _
          omega
        have el6 : upd H9 l6 (HO.lst (zs.map V.ref ++ ([tl] : List Addr).map V.ref)) l6 = some (HO.lst ((zs ++ [tl]).map V.ref)) := by rw [upd_same, List.map_append]
        have s10 : Same H9 (upd H9 l6 (HO.lst (zs.map V.ref ++ ([tl] : List Addr).map V.ref))) := same_upd nl6
        generalize upd H9 l6 (HO.lst (zs.map V.ref ++ ([tl] : List Addr).map V.ref)) = H10 at el6 s10 ⊢
        have s710 := s89.trans s10
        have rA0 : RL H10 l6 (qs ++ [q1]) := ⟨_, el6, Tups.snocQ (((tz.kp hP6 k7)).same s710) (s10 _ _ (s9 _ _ etl))⟩
        obtain ⟨RA0, hb27⟩ := row_first lq sq hq1 q10
        have hP10 := hP7.same s710
        have T10 := (tabs_kp hP6 k7 T6).ext s710
        have k410 : Kp p H4 H10 := ((k5.trans kk).trans k7).trans (Kp.of s710)
        generalize qs ++ [q1] = A0 at rA0 RA0 hb27
        refine seq_step (fun σ' H' => ∃ (l : Addr) (A : List Rat) (B : Int), σ' = [some (.ref sc), some (.ref p), some (.int (0 + (i : Int))), some (.ref r1), some (.ref r2), some (.int (n : Int)), some (.ref l), v7, v8, v9, v10, v11, v12, v13, v14] ∧ Kp p H4 H' ∧ Pen H' p lc B ∧ B ≤ 2000 * (i : Int) + 500 ∧ Tabs (Ts Pt) H' ∧ RL H' l A ∧ RowA A n) (fun k2 hk2 => ?_) (fun σ' H' hh => ?_)
        · refine ⟨_, rfl, p, lc, _, 2, rfl, hP10, by omega, by decide, by decide, fun w H11 w0 w1 hP11 k11 => ?_⟩
          have T11 := tabs_kp hP10 k11 T10
          have rA11 := rA0.kp hP10 k11
          have k411 := k410.trans k11
          refine ⟨rfl, _, rfl, ?_⟩
          by_cases w00 : w = 0
          · rw [decide_eq_true (by rw [w00])]
            refine iteT ?_
            refine ⟨_, rfl, _, rfl, (by show 2 ≤ sizeLine; decide), fun t7 n7' => ?_⟩
            have h73 : Hb 4 ((-7 : Rat) / 3) := ⟨by decide +kernel, by decide +kernel⟩
            have e73 : ((-7 : Rat) / 3).num = -7 ∧ ((-7 : Rat) / 3).den = 3 := by decide +kernel
            have et7 : TR (upd H11 t7 (HO.tup [V.int (-7), V.int 3])) t7 ((-7 : Rat) / 3) := by
              show upd H11 t7 (HO.tup [V.int (-7), V.int 3]) t7 = some (.tup [.int ((-7 : Rat) / 3).num, .int (((-7 : Rat) / 3).den : Int)])
              rw [upd_same, e73.1, e73.2]
              rfl
            have s12 : Same H11 (upd H11 t7 (HO.tup [V.int (-7), V.int 3])) := same_upd n7'
            dsimp only at et7 ⊢
            generalize upd H11 t7 (HO.tup [V.int (-7), V.int 3]) = H12 at et7 s12 ⊢
            have lA0 := RA0.l
            refine ⟨l6, t7, A0, (-7 : Rat) / 3, rfl, rA11.same s12, et7, by omega, fun i => (hb27 i).sr (by decide), h73.sr (by decide), fun l8 H13 s13 r13 => ?_⟩
            refine hk2 _ _ ⟨l8, _, _, rfl, k411.trans (Kp.of (s12.trans s13)), hP11.same (s12.trans s13), by omega, T11.ext (s12.trans s13), r13, row_scale RA0 hb27 h73 (by decide +kernel)⟩
          · rw [decide_eq_false (fun z => w00 (L2.V.int.inj z))]
            refine iteF ?_
            exact hk2 _ _ ⟨l6, A0, _, rfl, k411, hP11, by omega, T11, rA11, RA0⟩
        · obtain ⟨l, A, B, rfl, kA, hPA, hBA, TA, rA, RA⟩ := hh
          have lA := RA.l
          -- made, passed
          refine ⟨_, rfl, _, rfl, p, lc, l, B, A, rfl, hPA, by omega, rA, by omega, RA.s, fun i => ⟨pq_low _, ?_, ?_⟩, fun xa H12 hP12 k12 pA => ?_⟩
          · exact Nat.lt_of_le_of_lt (RA.hb i).1 (Nat.pow_lt_pow_right (by decide) (by decide))
          · show ((cf A i).den : Int).natAbs < _
            rw [Int.natAbs_natCast]
            exact Nat.lt_of_le_of_lt (RA.hb i).2 (Nat.pow_lt_pow_right (by decide) (by decide))
          · have T12 := tabs_kp hPA k12 TA
            have k4c := kA.trans k12
            obtain ⟨hlo, hhi⟩ := EN.hb
            have pr1 : r1 ≠ p := by
              obtain ⟨_, _, _, _, _, gp1, _⟩ := id hP4
              exact ne_of t1 gp1.1 (by intro z; cases z)
            have pr2 : r2 ≠ p := by
              obtain ⟨_, _, _, _, _, gp1, _⟩ := id hP4
              exact ne_of t2 gp1.1 (by intro z; cases z)
            have t1c : TR H12 r1 lo := k4c _ _ pr1 t1
            have t2c : TR H12 r2 hi := k4c _ _ pr2 t2
            have s80 : ∀ {q : Rat}, Hb 16 q → S80 q.num ∧ S80 (q.den : Int) := fun {q} h => by
              refine ⟨Nat.lt_of_le_of_lt h.1 (Nat.pow_lt_pow_right (by decide) (by decide)), ?_⟩
              show ((q.den : Int)).natAbs < _
              rw [Int.natAbs_natCast]
              exact Nat.lt_of_le_of_lt h.2 (Nat.pow_lt_pow_right (by decide) (by decide))
            have ld := lo.den_pos
            have hd := hi.den_pos
            refine ⟨_, rfl, _, rfl, p, lc, r1, _, lo.num, (lo.den : Int), rfl, hP12, by omega, t1c, by omega, (s80 hlo).1, (s80 hlo).2, fun v1 dd1 q1' H13 hP13 k13 hv1 hd1 q10' q13' _ => ?_⟩
            have t2d : TR H13 r2 hi := k13 _ _ pr2 t2c
            refine ⟨_, rfl, _, rfl, p, lc, r2, _, hi.num, (hi.den : Int), rfl, hP13, by omega, t2d, by omega, (s80 hhi).1, (s80 hhi).2, fun u1 ee1 q2' H14 hP14 k14 hu1 he1 q20' q23' _ => ?_⟩
            have hv1 : Dt K H14 v1 dd1 := ((hv1.keep hP12.there).mono k14.wo).wo'
            have hu1 : Dt K H14 u1 ee1 := (hu1.keep hP13.there).wo'
            have pA14 : PolyQ K CP H14 xa A := (pA.kp hP12 k13).kp hP13 k14
            have T14 := tabs_kp hP13 k14 (tabs_kp hP12 k13 T12)
            have rv := rv_pass hv1 hd1 q10' q13' hlo
            have ru := rv_pass hu1 he1 q20' q23' hhi
            have k414 := (k4c.trans k13).trans k14
            obtain ⟨psz, piv⟩ := pass_sz hd1 he1 q10' q13' q20' q23' hlo hhi
            have iv : ivD dd1 ee1 := piv lt
            refine ⟨xa, v1, u1, A, dd1, ee1, rfl, pA14, hv1, hu1, ?_, fun z => absurd iv z, fun _ z => (by omega), fun _ _ => ⟨lo, hi, n, rv, ru, lt, hlo, hhi, lA, n6, RA.hb, fun x dx pa ea H15 s15 nx ex pR tE => ?_⟩⟩
            · exact psz
            · have en := olE_ne (n := n) RA.c lt
              have ep := absR_pos en
              have ehb := olE_hb hlo hhi (RA.hb n) n6
              have esr := absR_sr (ehb.sr (by decide))
              have T15 := T14.ext s15
              have hP15 := hP14.same s15
              have k415 := k414.trans (Kp.of s15)
              refine ⟨_, rfl, .ref x, .ref CE, _, .ref CE, _, rfl, .own _, .base (.ins ex IN_Nearer.C.cl NC.ca NC.cn NC.ct NC.cm), (by unfold PySem.W.kitOne; rw [if_pos (by simp)]), _, rfl, ?_⟩
              refine iteF ?_
              refine ⟨_, rfl, x, CE, dx, _, .ref ea, rfl, ex, IN_Nearer.C.cl, IN_Nearer.C.nf _ (by simp), (by kernel_rfl), ea, _, rfl, tE, ?_, ?_, fun H16 s16 => ⟨true, rfl, ?_⟩⟩
              · exact Nat.lt_trans esr.1 (Nat.pow_lt_pow_right (by decide) (by decide))
              · exact Nat.lt_trans esr.2 (Nat.pow_lt_pow_right (by decide) (by decide))
              refine iteF ?_
              have ex16 := s16 _ _ ex
              have tE16 := s16 _ _ tE
              refine ⟨_, rfl, x, CE, dx, _, .ref ea, rfl, ex16, IN_Nearer.C.cl, IN_Nearer.C.nf _ (by simp), (by kernel_rfl), ?_⟩
              refine ⟨ea, _, _, .int (absR (olE (cf A n) n lo hi)).num, rfl, rfl, SqT.of tE16, at_of (j := 0) rfl rfl, _, _, rfl, rfl, _, rfl, ?_⟩
              rw [decide_eq_false (num_pos' ep)]
              refine iteF ?_
              dsimp only [tNext]
              refine ⟨_, rfl, x, CE, dx, _, .ref pa, rfl, ex16, IN_Nearer.C.cl, IN_Nearer.C.nf _ (by simp), (by kernel_rfl), ?_⟩
              refine ⟨_, rfl, _, rfl, RgOk.of_le (by decide) (by omega) (by decide) (by omega), fun lr nlr => ?_⟩
              have elr : upd H16 lr (HO.lst (rgV 0 (n : Int))) lr = some (HO.lst ((tabI n fun k => (k : Int)).map V.int)) := by rw [upd_same, rg_tab]
              have s17 : Same H16 (upd H16 lr (HO.lst (rgV 0 (n : Int)))) := same_upd nlr
              generalize upd H16 lr (HO.lst (rgV 0 (n : Int))) = H17 at elr s17 ⊢
              have s1517 := s16.trans s17
              refine ⟨pa, lr, olR A n lo hi, n, rfl, pR.same s1517, elr, olR_len n1 n6 lA lt, by omega, fun i => (olR_hb RA n6 hlo hhi lt i).sr (by decide), fun l18 H18 s18 r18 => ?_⟩
              have s1518 := s1517.trans s18
              refine ⟨_, rfl, rfl, _, rfl, ?_⟩
              refine iteF ?_
              dsimp only [tNext]
              have rA14 : RL H14 l A := ((rA.kp hPA k12).kp hP12 k13).kp hP13 k14
              have rA18 : RL H18 l A := (rA14.same s15).same s1518
              have lR := olR_len (lo := lo) (hi := hi) n1 n6 lA lt
              -- gap
              refine ⟨_, rfl, _, rfl, l, l18, A, olR A n lo hi, rfl, rA18, r18, by omega, by omega, fun i => (RA.hb i).sr (by decide), fun i => (olR_hb RA n6 hlo hhi lt i).sr (by decide), fun lg H19 s19 rg => ?_⟩
              have rg : RL H19 lg (gapQ A (olR A n lo hi)) := rg
              have s1519 := s1518.trans s19
              have ex19 := s1519 _ _ ex
              have tE19 := s1519 _ _ tE
              -- left
              refine ⟨_, rfl, x, CE, dx, _, .ref ea, rfl, ex19, IN_Nearer.C.cl, IN_Nearer.C.nf _ (by simp), (by kernel_rfl), _, rfl, x, CE, dx, _, .ref ea, rfl, ex19, IN_Nearer.C.cl, IN_Nearer.C.nf _ (by simp), (by kernel_rfl), ?_⟩
              refine ⟨ea, ea, _, _, rfl, tE19, tE19, esr, esr, fun re H20 s20 nre te => ?_⟩
              have te : TR H20 re (absR (olE (cf A n) n lo hi) * absR (olE (cf A n) n lo hi)) := te
              refine ⟨(by show 1 ≤ sizeLine; decide), fun le nle => ?_⟩
              have ele : upd H20 le (HO.lst [V.ref re]) le = some (HO.lst (([re] : List Addr).map V.ref)) := upd_same
              have s21 : Same H20 (upd H20 le (HO.lst [V.ref re])) := same_upd nle
              generalize upd H20 le (HO.lst [V.ref re]) = H21 at ele s21 ⊢
              have rle : RL H21 le [absR (olE (cf A n) n lo hi) * absR (olE (cf A n) n lo hi)] := ⟨[re], ele, .cons (s21 _ _ te) .nil⟩
              obtain ⟨lg13, Mg, Ng, m0, n0', mb, nb, fg⟩ := gap_fr EN RA n1 n6
              obtain ⟨S, V', dt, M', N', J', ok', F', hB, hc⟩ := left_dat EN RA n1 n6
              have rg21 := (rg.same s20).same s21
              have sub19 : ∀ {a b c : Nat}, a ≤ 2 ^ b → c + b < 4300 → 2 ^ c * a < 2 ^ 4300 := fun {a b c} h h2 => by
                refine Nat.lt_of_le_of_lt (Nat.mul_le_mul_left _ h) ?_
                rw [← Nat.pow_add]
                exact Nat.pow_lt_pow_right (by decide) h2
              refine ⟨_, rfl, _, rfl, lg, lg, _, _, Mg, Ng, Mg, Ng, rfl, rg21, rg21, by omega, by omega, m0, m0, n0', n0', fg, fg, ?_, ?_, fun lt2 H22 s22 r22 => ?_⟩
              · refine Nat.lt_of_le_of_lt (Nat.mul_le_mul mb mb) ?_
                rw [← Nat.pow_add]
                exact Nat.pow_lt_pow_right (by decide) (by decide)
              · refine Nat.lt_of_le_of_lt (Nat.mul_le_mul (show 41 ≤ 2 ^ 6 by decide) (Nat.mul_le_mul nb nb)) ?_
                rw [← Nat.pow_add, ← Nat.pow_add]
                exact Nat.pow_lt_pow_right (by decide) (by decide)
              have hgg : ∀ i, Sr (cf (stripQ (pmul (gapQ A (olR A n lo hi)) (gapQ A (olR A n lo hi)))) i) := fun i => by
                rw [cf_stripQ]
                refine (Hb.of (k := 1300) (pmul_fr fg fg (by omega) i) (Nat.mul_pos m0 m0) ?_ ?_).sr (by decide)
                · refine Nat.le_trans (Nat.mul_le_mul mb mb) ?_
                  rw [← Nat.pow_add]
                  exact Nat.pow_le_pow_right (by decide) (by decide)
                · refine Nat.le_trans (Nat.mul_le_mul (show 32 ≤ 2 ^ 5 by decide) (Nat.mul_le_mul nb nb)) ?_
                  rw [← Nat.pow_add, ← Nat.pow_add]
                  exact Nat.pow_le_pow_right (by decide) (by decide)
              have lgg : (stripQ (pmul (gapQ A (olR A n lo hi)) (gapQ A (olR A n lo hi)))).length ≤ 40 := by
                have z1 := stripQ_len (pmul (gapQ A (olR A n lo hi)) (gapQ A (olR A n lo hi)))
                have z2 := pmul_len (gapQ A (olR A n lo hi)) (gapQ A (olR A n lo hi))
                omega
              have h1l : ∀ i, Sr (cf [absR (olE (cf A n) n lo hi) * absR (olE (cf A n) n lo hi)] i) := cf_all sr_zero fun q hq => by
                rw [List.mem_singleton.mp hq, absR_sq]
                exact (ehb.mul ehb).sr (by decide)
              refine ⟨le, lt2, _, _, rfl, rle.same s22, r22, by show 1 ≤ 500; decide, by omega, h1l, hgg, fun l23 H23 s23 r23 => ?_⟩
              have r23 : RL H23 l23 (leftQ (absR (olE (cf A n) n lo hi)) (gapQ A (olR A n lo hi))) := r23
              have s1523 : Same H15 H23 := s1519.trans (s20.trans (s21.trans (s22.trans s23)))
              have s1423 := s15.trans s1523
              have t1e : TR H23 r1 lo := s1423 _ _ (k14 _ _ pr1 (k13 _ _ pr1 t1c))
              have t2e : TR H23 r2 hi := s1423 _ _ (k14 _ _ pr2 (k13 _ _ pr2 t2c))
              refine ⟨_, rfl, _, rfl, _, rfl, l23, r1, r2, _, S, V', lo, hi, dt, M', N', J', ok', F', rfl, r23, t1e, t2e, hB, fun H24 s24 => ?_⟩
              refine ⟨true, rfl, ?_⟩
              refine iteF ?_
              have hb60 : Hb 60 lo ∧ Hb 60 hi := ⟨hlo.up (by decide), hhi.up (by decide)⟩
              refine ⟨_, rfl, _, rfl, _, rfl, l23, r1, r2, _, S, V', lo, hi, dt, rfl, r23.same s24, s24 _ _ t1e, s24 _ _ t2e, hb60.1, hb60.2, fun H25 s25 => ?_⟩
              rw [hc]
              have s1525 := s1523.trans (s24.trans s25)
              refine ⟨_, rfl, _, _, rfl, rfl, ?_⟩
              dsimp only [tC]
              refine rNe_int (fun _ => ?_) (fun e => absurd rfl e)
              refine iteF ?_
              dsimp only [tNext]
              exact ⟨_, _, _, _, _, _, _, _, _, _, _, _, _, rfl, (hP15.same s1525).more (by omega), T15.ext s1525, .inr ⟨r1, r2, lo, hi, rfl, rfl, (s24.trans s25) _ _ t1e, (s24.trans s25) _ _ t2e, EN⟩⟩
    · rintro σ H ⟨v2, v3, v4, v5, v6, v7, v8, v9, v10, v11, v12, v13, v14, rfl, hP0, T0, hx⟩
      obtain ⟨r1, r2, lo, hi, rfl, rfl, t1, t2, EN⟩ := hx.resolve_left (by decide)
      dsimp only
      refine ⟨_, rfl, (by show 0 ≤ sizeLine; decide), fun a1 na1 => ?_⟩
      have ea1 : upd H a1 (HO.tup []) a1 = some (HO.tup []) := upd_same
      have s1' : Same H (upd H a1 (HO.tup [])) := same_upd na1
      generalize upd H a1 (HO.tup []) = G1 at ea1 s1' ⊢
      refine ⟨(by show 1 ≤ sizeLine; decide), fun a2 na2 => ?_⟩
      have ea2 : upd G1 a2 (HO.tup [V.int 3]) a2 = some (HO.tup [V.int 3]) := upd_same
      have s2' : Same G1 (upd G1 a2 (HO.tup [V.int 3])) := same_upd na2
      generalize upd G1 a2 (HO.tup [V.int 3]) = G2 at ea2 s2' ⊢
      refine ⟨(by show 2 ≤ sizeLine; decide), fun a3 na3 => ?_⟩
      have ea3 : upd G2 a3 (HO.tup [V.int 1, V.int 2]) a3 = some (HO.tup [V.int 1, V.int 2]) := upd_same
      have s3' : Same G2 (upd G2 a3 (HO.tup [V.int 1, V.int 2])) := same_upd na3
      generalize upd G2 a3 (HO.tup [V.int 1, V.int 2]) = G3 at ea3 s3' ⊢
      refine ⟨(by show 1 ≤ sizeLine; decide), fun a4 na4 => ?_⟩
      have ea4 : upd G3 a4 (HO.tup [V.ref a3]) a4 = some (HO.tup [V.ref a3]) := upd_same
      have s4' : Same G3 (upd G3 a4 (HO.tup [V.ref a3])) := same_upd na4
      generalize upd G3 a4 (HO.tup [V.ref a3]) = G4 at ea4 s4' ⊢
      refine ⟨(by show 3 ≤ sizeLine; decide), fun a5 na5 => ?_⟩
      have ea5 : upd G4 a5 (HO.lst [V.ref a1, V.ref a2, V.ref a4]) a5 = some (HO.lst [V.ref a1, V.ref a2, V.ref a4]) := upd_same
      have s5' : Same G4 (upd G4 a5 (HO.lst [V.ref a1, V.ref a2, V.ref a4])) := same_upd na5
      have s04 : Same H G4 := s1'.trans (s2'.trans (s3'.trans s4'))
      have a5p := ((hP0.same s04).ne_new na5).1
      generalize upd G4 a5 (HO.lst [V.ref a1, V.ref a2, V.ref a4]) = G5 at ea5 s5' ⊢
      have s05 := s04.trans s5'
      have hP5 := hP0.same s05
      refine ⟨p, lc, a5, _, _, rfl, hP5, by omega, ea5, a5p, (by show 0 < 3; decide), (by show 3 < 1000000; decide), fun x G6 hx hP6 k6 => ?_⟩
      have T6 := tabs_kp hP5 k6 (T0.ext s05)
      have tk : ∀ {b : Addr} {vs : List V}, G5 b = some (.tup vs) → G6 b = some (.tup vs) := fun {b vs} e => k6 _ _ (by
        obtain ⟨_, _, _, _, _, gp1, _⟩ := id hP5
        exact ne_of e gp1.1 (by intro z; cases z)) e
      have d1 : Dt K G6 (.ref a1) (.tuple []) := .tup (SqT.of (tk (s5' _ _ (s4' _ _ (s3' _ _ (s2' _ _ ea1)))))) .nil
      have d2 : Dt K G6 (.ref a2) (.tuple [.int 3]) := .tup (SqT.of (tk (s5' _ _ (s4' _ _ (s3' _ _ ea2))))) (.cons (.int 3) .nil)
      have d4 : Dt K G6 (.ref a4) (.tuple [.tuple [.int 1, .int 2]]) := .tup (SqT.of (tk (s5' _ _ ea4))) (.cons (.tup (SqT.of (tk (s5' _ _ (s4' _ _ ea3)))) (.cons (.int 1) (.cons (.int 2) .nil))) .nil)
      obtain ⟨d, ps, A, hd, hrow, hst, lA, hz, hsq⟩ : ∃ (d : PyData) (ps : List (Int × Int)) (A : List Rat), Dt K G6 x d ∧ rowD d = some ps ∧ strip (ps.map lowP) = A.map pq ∧ A.length ≤ 1 ∧ (∀ q ∈ ps, q.2.natAbs < 2 ^ big) ∧ ∀ ds, seqD d = some ds → ds.length ≤ 1000 := by
        have hb : ∀ {z : Int}, z.natAbs ≤ 2 → z.natAbs < 2 ^ big := fun h => Nat.lt_of_le_of_lt h (show 2 ^ 1 < 2 ^ big from Nat.pow_lt_pow_right (by decide) (by decide))
        simp only [List.mem_cons, List.not_mem_nil, or_false] at hx
        rcases hx with rfl | rfl | rfl
        · exact ⟨_, [], [], d1, rfl, rfl, by decide, (fun q h => by cases h), fun ds h => by cases h; decide⟩
        · exact ⟨_, [(3, 1)], [3], d2, rfl, by decide +kernel, by decide, (fun q h => by rw [List.mem_singleton.mp h]; exact hb (by decide)), fun ds h => by cases h; decide⟩
        · exact ⟨_, [(1, 2)], [(1 : Rat) / 2], d4, rfl, by decide +kernel, by decide, (fun q h => by rw [List.mem_singleton.mp h]; exact hb (by decide)), fun ds h => by cases h; decide⟩
      refine poly_made hd hsq (fun ps' h => ?_) (fun z => by rw [hrow] at z; cases z)
      rw [hrow] at h
      cases h
      refine ⟨hz, fun xf G7 s7 nxf made => ?_⟩
      rw [hst] at made
      have pF : PolyQ K CP G7 xf A := made
      have T7 := T6.ext s7
      have hP7 := hP6.same s7
      obtain ⟨hlo, hhi⟩ := EN.hb
      refine ⟨T7, fun H1 eN T8 => ?_⟩
      intro H2 kk ss
      have pF1 : PolyQ K CP H2 xf A := ((pF.n eN)).same ss
      have s07 : Kp p H G7 := ((Kp.of s05).trans k6).trans (Kp.of s7)
      have prp : ∀ {r : Addr} {q : Rat}, TR H r q → TR G7 r q := fun {r q} h => s07 _ _ (by
        obtain ⟨_, _, _, _, _, gp1, _⟩ := id hP0
        exact ne_of h gp1.1 (by intro z; cases z)) h
      have u1 := prp t1
      have u2 := prp t2
      have w1 := ss _ _ (u1.n eN)
      have w2 := ss _ _ (u2.n eN)
      refine ⟨_, rfl, _, rfl, _, rfl, xf, .ref r1, .ref r2, A, _, _, rfl, pF1, dt_tr w1, dt_tr w2, sz_tr hlo hhi, fun z => absurd (iv_of EN.lt) z, fun _ _ => ?_, fun _ h => by omega⟩
      intro dd H3 s3 n3 e3
      refine .inr ⟨rfl, dd, "degree", _, rfl, e3, fun tf H4 s4 etf => ?_⟩
      obtain ⟨df, tt, af, f1, f2, f3⟩ := (pF1.same (s3.trans s4))
      have nF := f3.lenQ
      refine ⟨_, rfl, xf, CP, df, _, .ref tt, rfl, f1, PM.C.cl, PM.C.nf, (by kernel_rfl), tt, _, rfl, .inr (SqT.of f2), _, _, rfl, rfl, (by show 3 ≤ sizeLine; decide), fun tq ntq => ?_⟩
      rw [List.length_map, nF]
      have s5 : Same H4 (upd H4 tq (HO.tup [V.str "number", V.str "degree", V.int ((A.length : Nat) - 1)])) := same_upd ntq
      have etq : upd H4 tq (HO.tup [V.str "number", V.str "degree", V.int ((A.length : Nat) - 1)]) tq = some (HO.tup [V.str "number", V.str "degree", V.int ((A.length : Nat) - 1)]) := upd_same
      dsimp only at s5 etq ⊢
      generalize upd H4 tq (HO.tup [V.str "number", V.str "degree", V.int ((A.length : Nat) - 1)]) = H5 at s5 etq ⊢
      have pl : (PyData.tuple [.str "number", .str "degree", .int ((A.length : Nat) - 1)]).plain = true := by simp [PyData.plain, PyData.plainAll]
      refine ⟨.tuple [.str "number", .str "degree", .int ((A.length : Nat) - 1)], .tuple [.str "number", .str "degree", .int ((A.length : Nat) - 1)], .tup (SqT.of (s5 _ _ etf)) (.cons (.str _) (.cons (.str _) (.cons (.int _) .nil))), .tup (SqT.of etq) (.cons (.str _) (.cons (.str _) (.cons (.int _) .nil))), pl, pl, (by simp [PyData.depth, PyData.depthAll]), _, rfl, ?_⟩
      rw [SeqAt.eqv_refl_plain _ pl]
      refine iteF ?_
      dsimp only [tNext]
      have s15 : Same H1 H5 := ss.trans (s3.trans (s4.trans s5))
      have eN5 : ExtN G7 H5 := fun b o e n => s15 b o (eN b o e n)
      have T9 := T8.ext s15
      have hP9 : Pen H5 p lc (2000 * 2 + 1) := (hP7.n eN5).more (by omega)
      have pF9 := pF.n eN5
      have hP9' := hP9
      refine ⟨_, rfl, (by show 2 ≤ sizeLine; decide), fun b1 nb1 => ?_⟩
      have eb1 : upd H5 b1 (HO.tup [V.int 1, V.int 1]) b1 = some (HO.tup [V.int 1, V.int 1]) := upd_same
      have sb1 : Same H5 (upd H5 b1 (HO.tup [V.int 1, V.int 1])) := same_upd nb1
      generalize upd H5 b1 (HO.tup [V.int 1, V.int 1]) = K0 at eb1 sb1 ⊢
      refine ⟨(by show 2 ≤ sizeLine; decide), fun b2 nb2 => ?_⟩
      have eb2 : upd K0 b2 (HO.tup [V.int 2, V.int 1]) b2 = some (HO.tup [V.int 2, V.int 1]) := upd_same
      have sb2 : Same K0 (upd K0 b2 (HO.tup [V.int 2, V.int 1])) := same_upd nb2
      generalize upd K0 b2 (HO.tup [V.int 2, V.int 1]) = K1 at eb2 sb2 ⊢
      refine ⟨(by show 2 ≤ sizeLine; decide), fun b3 nb3 => ?_⟩
      have eb3 : upd K1 b3 (HO.tup [V.non, V.int 1]) b3 = some (HO.tup [V.non, V.int 1]) := upd_same
      have sb3 : Same K1 (upd K1 b3 (HO.tup [V.non, V.int 1])) := same_upd nb3
      generalize upd K1 b3 (HO.tup [V.non, V.int 1]) = K2 at eb3 sb3 ⊢
      refine ⟨(by show 2 ≤ sizeLine; decide), fun b4 nb4 => ?_⟩
      have eb4 : upd K2 b4 (HO.tup [V.int 0, V.bl true]) b4 = some (HO.tup [V.int 0, V.bl true]) := upd_same
      have sb4 : Same K2 (upd K2 b4 (HO.tup [V.int 0, V.bl true])) := same_upd nb4
      generalize upd K2 b4 (HO.tup [V.int 0, V.bl true]) = K3 at eb4 sb4 ⊢
      refine ⟨(by show 2 ≤ sizeLine; decide), fun b5 nb5 => ?_⟩
      have eb5 : upd K3 b5 (HO.tup [V.str "0", V.int 1]) b5 = some (HO.tup [V.str "0", V.int 1]) := upd_same
      have sb5 : Same K3 (upd K3 b5 (HO.tup [V.str "0", V.int 1])) := same_upd nb5
      generalize upd K3 b5 (HO.tup [V.str "0", V.int 1]) = K4 at eb5 sb5 ⊢
      refine ⟨(by show 2 ≤ sizeLine; decide), fun c6 nc6 => ?_⟩
      have ec6 : upd K4 c6 (HO.tup [V.int 1, V.int 0]) c6 = some (HO.tup [V.int 1, V.int 0]) := upd_same
      have sc6 : Same K4 (upd K4 c6 (HO.tup [V.int 1, V.int 0])) := same_upd nc6
      generalize upd K4 c6 (HO.tup [V.int 1, V.int 0]) = K5 at ec6 sc6 ⊢
      refine ⟨(by show 2 ≤ sizeLine; decide), fun b6 nb6 => ?_⟩
      have eb6 : upd K5 b6 (HO.tup [V.int 0, V.ref c6]) b6 = some (HO.tup [V.int 0, V.ref c6]) := upd_same
      have sb6 : Same K5 (upd K5 b6 (HO.tup [V.int 0, V.ref c6])) := same_upd nb6
      generalize upd K5 b6 (HO.tup [V.int 0, V.ref c6]) = K6 at eb6 sb6 ⊢
      refine ⟨(by show 2 ≤ sizeLine; decide), fun c7 nc7 => ?_⟩
      have ec7 : upd K6 c7 (HO.tup [V.int 1, V.int 2]) c7 = some (HO.tup [V.int 1, V.int 2]) := upd_same
      have sc7 : Same K6 (upd K6 c7 (HO.tup [V.int 1, V.int 2])) := same_upd nc7
      generalize upd K6 c7 (HO.tup [V.int 1, V.int 2]) = K7 at ec7 sc7 ⊢
      refine ⟨(by show 2 ≤ sizeLine; decide), fun c8 nc8 => ?_⟩
      have ec8 : upd K7 c8 (HO.tup [V.int 1, V.int 2]) c8 = some (HO.tup [V.int 1, V.int 2]) := upd_same
      have sc8 : Same K7 (upd K7 c8 (HO.tup [V.int 1, V.int 2])) := same_upd nc8
      generalize upd K7 c8 (HO.tup [V.int 1, V.int 2]) = K8 at ec8 sc8 ⊢
      refine ⟨(by show 2 ≤ sizeLine; decide), fun b7 nb7 => ?_⟩
      have eb7 : upd K8 b7 (HO.tup [V.ref c7, V.ref c8]) b7 = some (HO.tup [V.ref c7, V.ref c8]) := upd_same
      have sb7 : Same K8 (upd K8 b7 (HO.tup [V.ref c7, V.ref c8])) := same_upd nb7
      generalize upd K8 b7 (HO.tup [V.ref c7, V.ref c8]) = K9 at eb7 sb7 ⊢
      refine ⟨(by show 7 ≤ sizeLine; decide), fun bl nbl => ?_⟩
      have ebl : upd K9 bl (HO.lst [V.ref b1, V.ref b2, V.ref b3, V.ref b4, V.ref b5, V.ref b6, V.ref b7]) bl = some (HO.lst [V.ref b1, V.ref b2, V.ref b3, V.ref b4, V.ref b5, V.ref b6, V.ref b7]) := upd_same
      have sbl : Same K9 (upd K9 bl (HO.lst [V.ref b1, V.ref b2, V.ref b3, V.ref b4, V.ref b5, V.ref b6, V.ref b7])) := same_upd nbl
      generalize upd K9 bl (HO.lst [V.ref b1, V.ref b2, V.ref b3, V.ref b4, V.ref b5, V.ref b6, V.ref b7]) = K10 at ebl sbl ⊢
      have S9 : Same K9 K10 := sbl
      have S8 : Same K8 K10 := sb7.trans S9
      have S7 : Same K7 K10 := sc8.trans S8
      have S6 : Same K6 K10 := sc7.trans S7
      have S5 : Same K5 K10 := sb6.trans S6
      have S4 : Same K4 K10 := sc6.trans S5
      have S3 : Same K3 K10 := sb5.trans S4
      have S2 : Same K2 K10 := sb4.trans S3
      have S1 : Same K1 K10 := sb3.trans S2
      have S0 : Same K0 K10 := sb2.trans S1
      have SS : Same H5 K10 := sb1.trans S0
      have hPK := hP9.same SS
      have blp : bl ≠ p := ((hP9.same (sb1.trans (sb2.trans (sb3.trans (sb4.trans (sb5.trans (sc6.trans (sb6.trans (sc7.trans (sc8.trans sb7)))))))))).ne_new nbl).1
      refine ⟨p, lc, bl, _, _, rfl, hPK, by omega, ebl, blp, (by show 0 < 7; decide), (by show 7 < 1000000; decide), fun y M0 hy hPM kM => ?_⟩
      have tkM : ∀ {b : Addr} {vs : List V}, K10 b = some (.tup vs) → M0 b = some (.tup vs) := fun {b vs} e => kM _ _ (by
        obtain ⟨_, _, _, _, _, gp1, _⟩ := id hPK
        exact ne_of e gp1.1 (by intro z; cases z)) e
      have TM := tabs_kp hPK kM (T9.ext SS)
      have pFM : PolyQ K CP M0 xf A := (pF9.same SS).kp hPK kM
      obtain ⟨yo, v, u, d', e', rfl, hyo, hv, hu, hniv, hsz, hpl, hdp⟩ : ∃ (yo : Addr) (v u : V) (d e : PyData), y = .ref yo ∧ M0 yo = some (.tup [v, u]) ∧ Dt K M0 v d ∧ Dt K M0 u e ∧ ¬ ivD d e ∧ (∀ t b x c, partsD d = some (t, b) → partsD e = some (x, c) → Sz t ∧ Sz b ∧ Sz x ∧ Sz c) ∧ (PyData.tuple [.str "interval", d, e]).plain = true ∧ (PyData.tuple [.str "interval", d, e]).depth ≤ 60 := by
        have zz : ∀ {z : Int}, z.natAbs ≤ 2 → Sz z := fun h => Nat.lt_of_le_of_lt h (show 2 ^ 1 < 2 ^ 4300 from Nat.pow_lt_pow_right (by decide) (by decide))
        simp only [List.mem_cons, List.not_mem_nil, or_false] at hy
        rcases hy with rfl | rfl | rfl | rfl | rfl | rfl | rfl
        · exact ⟨b1, _, _, .int 1, .int 1, rfl, tkM (S0 _ _ eb1), Dt.int 1, Dt.int 1, (fun ⟨t, b, x, c, h1, h2, h3⟩ => by cases h1; cases h2; exact absurd h3 (by decide)), (fun t b x c h1 h2 => by cases h1; cases h2; exact ⟨zz (by decide), zz (by decide), zz (by decide), zz (by decide)⟩), by simp [PyData.plain, PyData.plainAll], by simp [PyData.depth, PyData.depthAll]⟩
        · exact ⟨b2, _, _, .int 2, .int 1, rfl, tkM (S1 _ _ eb2), Dt.int 2, Dt.int 1, (fun ⟨t, b, x, c, h1, h2, h3⟩ => by cases h1; cases h2; exact absurd h3 (by decide)), (fun t b x c h1 h2 => by cases h1; cases h2; exact ⟨zz (by decide), zz (by decide), zz (by decide), zz (by decide)⟩), by simp [PyData.plain, PyData.plainAll], by simp [PyData.depth, PyData.depthAll]⟩
        · exact ⟨b3, _, _, .none, .int 1, rfl, tkM (S2 _ _ eb3), Dt.non, Dt.int 1, (fun ⟨t, b, x, c, h1, h2, h3⟩ => by cases h1), (fun t b x c h1 h2 => by cases h1), by simp [PyData.plain, PyData.plainAll], by simp [PyData.depth, PyData.depthAll]⟩
        · exact ⟨b4, _, _, .int 0, .bool true, rfl, tkM (S3 _ _ eb4), Dt.int 0, Dt.bl true, (fun ⟨t, b, x, c, h1, h2, h3⟩ => by cases h2), (fun t b x c h1 h2 => by cases h2), by simp [PyData.plain, PyData.plainAll], by simp [PyData.depth, PyData.depthAll]⟩
        · exact ⟨b5, _, _, .str "0", .int 1, rfl, tkM (S4 _ _ eb5), Dt.str _, Dt.int 1, (fun ⟨t, b, x, c, h1, h2, h3⟩ => by cases h1), (fun t b x c h1 h2 => by cases h1), by simp [PyData.plain, PyData.plainAll], by simp [PyData.depth, PyData.depthAll]⟩
        · exact ⟨b6, _, _, .int 0, .tuple [.int 1, .int 0], rfl, tkM (S6 _ _ eb6), Dt.int 0, Dt.tup (SqT.of (tkM (S5 _ _ ec6))) (.cons (.int 1) (.cons (.int 0) .nil)), (fun ⟨t, b, x, c, h1, h2, h3⟩ => by cases h2), (fun t b x c h1 h2 => by cases h2), by simp [PyData.plain, PyData.plainAll], by simp [PyData.depth, PyData.depthAll]⟩
        · exact ⟨b7, _, _, .tuple [.int 1, .int 2], .tuple [.int 1, .int 2], rfl, tkM (S9 _ _ eb7), Dt.tup (SqT.of (tkM (S7 _ _ ec7))) (.cons (.int 1) (.cons (.int 2) .nil)), Dt.tup (SqT.of (tkM (S8 _ _ ec8))) (.cons (.int 1) (.cons (.int 2) .nil)), (fun ⟨t, b, x, c, h1, h2, h3⟩ => by cases h1; cases h2; exact absurd h3 (by decide)), (fun t b x c h1 h2 => by cases h1; cases h2; exact ⟨zz (by decide), zz (by decide), zz (by decide), zz (by decide)⟩), by simp [PyData.plain, PyData.plainAll], by simp [PyData.depth, PyData.depthAll]⟩
      refine ⟨TM, fun H1 eN T8 => ?_⟩
      intro H2 kk ss
      have pF1 : PolyQ K CP H2 xf A := ((pFM.n eN)).same ss
      have ho1 := ss _ _ (eN _ _ hyo (fun ps z => by cases z))
      have hv1 := (Dt.n eN hv).mono ss
      have hu1 := (Dt.n eN hu).mono ss
      refine ⟨_, rfl, _, rfl, yo, _, _, v, rfl, rfl, SqT.of ho1, at_of (j := 0) rfl rfl, _, rfl, yo, _, _, u, rfl, rfl, SqT.of ho1, at_of (j := 1) rfl rfl, ?_⟩
      refine ⟨xf, v, u, A, d', e', rfl, pF1, hv1, hu1, hsz, fun _ => ?_, fun z => absurd z hniv, fun z => absurd z hniv⟩
      intro dd H3 s3 n3 e3
      refine .inl ⟨rfl, dd, v, u, rfl, e3, fun tf H4 s4 etf => ?_⟩
      have s24 := s3.trans s4
      have ho2 := s24 _ _ ho1
      refine ⟨_, rfl, yo, _, _, v, rfl, rfl, SqT.of ho2, at_of (j := 0) rfl rfl, _, rfl, yo, _, _, u, rfl, rfl, SqT.of ho2, at_of (j := 1) rfl rfl, (by show 3 ≤ sizeLine; decide), fun tq ntq => ?_⟩
      have s5 : Same H4 (upd H4 tq (HO.tup [V.str "interval", v, u])) := same_upd ntq
      have etq : upd H4 tq (HO.tup [V.str "interval", v, u]) tq = some (HO.tup [V.str "interval", v, u]) := upd_same
      generalize upd H4 tq (HO.tup [V.str "interval", v, u]) = H5' at s5 etq ⊢
      have hv5 := (hv1.mono s24).mono s5
      have hu5 := (hu1.mono s24).mono s5
      refine ⟨.tuple [.str "interval", d', e'], .tuple [.str "interval", d', e'], .tup (SqT.of (s5 _ _ etf)) (.cons (.str _) (.cons hv5 (.cons hu5 .nil))), .tup (SqT.of etq) (.cons (.str _) (.cons hv5 (.cons hu5 .nil))), hpl, hpl, hdp, _, rfl, ?_⟩
      rw [SeqAt.eqv_refl_plain _ hpl]
      refine iteF ?_
      dsimp only [tNext]
      have s25 := s24.trans s5
      have pF5 := pF1.same s25
      refine ⟨_, rfl, ?_⟩
      refine ⟨(by show 2 ≤ sizeLine; decide), fun t9 n9 => ?_⟩
      have et9 : upd H5' t9 (HO.tup [V.int 1, V.int 2]) t9 = some (HO.tup [V.int 1, V.int 2]) := upd_same
      have s9 : Same H5' (upd H5' t9 (HO.tup [V.int 1, V.int 2])) := same_upd n9
      generalize upd H5' t9 (HO.tup [V.int 1, V.int 2]) = H6' at et9 s9 ⊢
      have pF6 := pF5.same s9
      dsimp only [tNil]
      refine ins_made2 (K := K) (CP := CP) (C := CE) (names := ["poly", "error"]) (as := [V.ref xf, V.ref t9]) rfl (fun v hv => ?_) fun x xd bs H7' H8' ss7 s8' nx lb ex hr' => ?_
      · simp only [List.mem_cons, List.not_mem_nil, or_false] at hv
        rcases hv with rfl | rfl
        · exact .inl ⟨xf, _, rfl, pF6⟩
        · exact .inr (.inl ⟨t9, _, rfl, et9⟩)
      obtain ⟨b1, b2, rfl⟩ : ∃ b1 b2, bs = [b1, b2] := by
        match bs, lb with
        | [b1, b2], _ => exact ⟨b1, b2, rfl⟩
      obtain ⟨dz, tz, az, m1, m2, m3⟩ := id pF6
      have q1 := (hr' 0 _ _ rfl rfl).keep (ss7 _ _ m1) (fun _ z => by cases z)
      have q2 := (hr' 1 _ _ rfl rfl).keep (ss7 _ _ et9) (fun _ z => by cases z)
      subst q1 q2
      have et9' := s8' _ _ et9
      refine ⟨_, rfl, x, CE, xd, _, .ref xf, rfl, ex, IN_Nearer.C.cl, IN_Nearer.C.nf _ (by simp), (by kernel_rfl), _, rfl, x, CE, xd, _, .ref t9, rfl, ex, IN_Nearer.C.cl, IN_Nearer.C.nf _ (by simp), (by kernel_rfl), (by show 2 ≤ sizeLine; decide), fun ta na => ?_⟩
      have eta : upd H8' ta (HO.tup [V.ref xf, V.ref t9]) ta = some (HO.tup [V.ref xf, V.ref t9]) := upd_same
      have sa : Same H8' (upd H8' ta (HO.tup [V.ref xf, V.ref t9])) := same_upd na
      generalize upd H8' ta (HO.tup [V.ref xf, V.ref t9]) = HA at eta sa ⊢
      refine ⟨_, rfl, (by show 2 ≤ sizeLine; decide), fun tb nb => ?_⟩
      have etb : upd HA tb (HO.tup [V.int 1, V.int 2]) tb = some (HO.tup [V.int 1, V.int 2]) := upd_same
      have sb : Same HA (upd HA tb (HO.tup [V.int 1, V.int 2])) := same_upd nb
      generalize upd HA tb (HO.tup [V.int 1, V.int 2]) = HB at etb sb ⊢
      refine ⟨(by show 2 ≤ sizeLine; decide), fun tc nc => ?_⟩
      have etc : upd HB tc (HO.tup [V.ref xf, V.ref tb]) tc = some (HO.tup [V.ref xf, V.ref tb]) := upd_same
      have sc' : Same HB (upd HB tc (HO.tup [V.ref xf, V.ref tb])) := same_upd nc
      generalize upd HB tc (HO.tup [V.ref xf, V.ref tb]) = HC at etc sc' ⊢
      refine ⟨⟨ta, tc, _, _, rfl, rfl, SqT.of (sc' _ _ (sb _ _ eta)), SqT.of etc, rfl, fun j a b e1 e2 => ?_⟩, fun H' _ => kend H'⟩
      match j with
      | 0 =>
        cases e1
        cases e2
        exact .inr (.inl ⟨xf, rfl, rfl⟩)
      | 1 =>
        cases e1
        cases e2
        refine .inl ⟨t9, tb, _, _, rfl, rfl, SqT.of (sc' _ _ (sb _ _ (sa _ _ et9'))), SqT.of (sc' _ _ etb), rfl, fun j a b e1 e2 => ?_⟩
        match j with
        | 0 => cases e1; cases e2; exact ⟨rfl, rfl, by simp [eqV]⟩
        | 1 => cases e1; cases e2; exact ⟨rfl, rfl, by simp [eqV]⟩
        | j + 2 => cases e1
      | j + 2 => cases e1
end
end Vf
set_option maxRecDepth 100000
set_option maxHeartbeats 4000000
namespace Vf
open PySem PySem.Spec PyProof.Rows L2
/-- what is known of the law's def at the heap behind the top -/
def LawG (l : PySem.W.OpenLaw) (w : World) (K : PySem.W.Frag) (C : CXT) (k n : Nat) (x : Str) (mg : Str → Option Value) (fa : Addr) (h : Heap) : Prop :=
  ∃ (fd : FuncData) (cs : List (Addr × Addr)) (sp : Sp), (∀ p ∈ cs, h.get? p.2 = some { cls := .none, data := .fields #[] }) ∧ (∀ p ∈ cs, K.lookup p.2 = none) ∧ (∀ p ∈ cs, PySem.W.CodeHd h p.1 p.2) ∧
    (∀ (s : Shared) (u : Value), BindsTo s fd ⟨[u], []⟩ [(x, u)]) ∧
    (∀ (H : Hp) (a : Addr) (ns : List Int), ns.length ≤ n → (∀ z ∈ ns, Builtin.Int.intBits z ≤ 1048576) → (∀ p ∈ cs, H p.2 = some (.tbl #[])) → SqL K H a (ns.map V.int) → sp [.ref a] H (fun v _ => v = .bl true) E0) ∧
    ∀ b : Heap, K.In b → b.Ns mainGlobals mg → M1 b → (∀ p ∈ cs, LamX.TabB b mg p.1 p.2) → FnG l.prog w K mg b C k fa fd [x] sp
/-- an exception class, its facts in one look -/
def oexB (K : PySem.W.Frag) (C : Addr) : Bool :=
  decide (PySem.W.findIn K (.ref C) "__setattr__" = some (some (.builtin "object.__setattr__"))) && (decide (PySem.W.subIn K (.ref C) (.type "BaseException") = some true) &&
    (decide (PySem.W.typeIn K (.ref C) = some (.type "type")) && PySem.W.keepIn K (.ref C)))
theorem oexB_ok {K : PySem.W.Frag} {C : Addr} (h : oexB K C = true) (c : ∃ nm q N bs bm sn sub ab col dd k0 k1 k2 k3 k5, K.lookup C = some (excClassObj nm q C N bs bm true sn sub ab col dd k0 k1 k2 k3 k5 "ValueError.__new__") ∧ PySem.HandSPX.refsVE bm = true) : OexC K C := by
  obtain ⟨h1, h⟩ := Bool.and_eq_true_iff.mp h
  obtain ⟨h2, h⟩ := Bool.and_eq_true_iff.mp h
  obtain ⟨h3, h4⟩ := Bool.and_eq_true_iff.mp h
  exact ⟨c, of_decide_eq_true h1, of_decide_eq_true h2, of_decide_eq_true h3, h4⟩
end Vf
set_option maxRecDepth 100000
set_option maxHeartbeats 4000000
namespace Vf
open PySem PySem.Spec PyProof.Rows L2
/-- the tables of the text's own defs are empty, their code objects as they come -/
def TabsG (q : Program) (K : PySem.W.Frag) (mg : Str → Option Value) (h : Heap) : Prop :=
  ∀ (x : Str) (f c Pt : Addr) (o : Obj) (fd : FuncData) (e : Value) (dd : Option Addr) (vs : Array Value) (sl : Array (Option Value)), ((recsOf q).any fun e => e.name == x) = true → mg x = some (.ref f) → K.lookup f = some o → o.data = .func fd → fd.code = .ref c →
    K.lookup c = some ⟨e, dd, .fields vs, sl⟩ → vs[11]? = some (.ref Pt) → PySem.W.CodeHd h c Pt ∧ h.get? Pt = some { cls := .none, data := .fields #[] }
theorem walkT {l : PySem.W.OpenLaw} {n k : Nat} {q : Program} {loose : List Str} {XP : (Str → Option Value) → Heap → Prop} {YP : World → Heap → Prop} {d : DefRec} {K : Params → PySem.W.Frag} {C : World → CXT} {x : Str}
    (hn : l.most = some n) (hn2 : n ≤ sizeLine) (hdf : d.params.defaults = []) (hr : Room k callerA) (hi : importsNone q = true) (hY : ∀ (w : World) (h : Heap), YP w h → (K w.params).In h)
    (F : ∀ (w : World) (mg : Str → Option Value) (fa : Addr) (h : Heap), YP w h → (K w.params).In h → h.Ns mainGlobals mg → mg d.name = some (.ref fa) → TabsG q (K w.params) mg h → LawG l w (K w.params) (C w) k n x mg fa h)
    (hE : ∀ (w : World) (H : Hp) (s : Shared) (e : Value) (s' : Shared), C w [] H s E0 e s' → False) : PySem.W.WalkO q loose XP YP l.row.toRowW d [] (fun f vs => PySem.call f vs) := by
  refine Att.attach_callB hn hdf fun w s0 s1 mg mb fa o pm cd doc a vs ns G Y ho hd hcd hmg hobj hints hlen hbits hg => ?_
  have X := hY w _ Y
  have tabs : TabsG q (K w.params) mg s1.heap := fun x f c Pt o1 fd1 e dd vs1 sl hrec k0 k1 k2 k3 k4 k5 => by
    obtain ⟨dL, hm, hn1⟩ := List.any_eq_true.mp hrec
    have hn2 : dL.name = x := beq_iff_eq.mp hn1
    obtain ⟨a', o', fd', c', P', h1, h2, h3, h4, h5, h6⟩ := G.T.tab dL hm
    rw [hn2, k0] at h1
    cases h1
    have g1 := X _ _ k1
    rw [g1] at h2
    cases h2
    rw [k2] at h3
    cases h3
    rw [k3] at h4
    cases h4
    have h6' := h6
    obtain ⟨⟨oc, vc, e1, _, e3, e4⟩, hP⟩ := h6'
    have g2 := X _ _ k4
    rw [g2] at e1
    cases e1
    cases e3
    rw [k5] at e4
    cases e4
    exact ⟨PySem.W.CodeHd.of h5 h6, hP⟩
  obtain ⟨fd, cs, sp, hT, nT, hC, bind, hsp, hF⟩ := F w mg fa _ Y X G.T.g hmg tabs
  have m1 : M1 s1.heap := by
    obtain ⟨mm, ⟨o, es, ep, e, dt, _⟩, _⟩ := (G.T.seer hi).mods
    exact ⟨o, es, ep, e, dt⟩
  exact law_enter X G.T.g G.T.b G.T.builtins G.T.nolimit hg hT nT hC G.T.bmain m1 hobj hints (Nat.le_trans hlen hn2) hr hF bind (fun H h1 h2 => hsp H a ns hlen hbits h1 h2) fun H e s' => hE w H s1 e s'
end Vf
set_option maxRecDepth 100000
set_option maxHeartbeats 8000000
namespace Vf
open PySem PySem.Spec PyProof.Rows L2
def tyNames : List String := ["NoneType", "bool", "int", "str", "list", "tuple", "dict"]
def polyB (K : PySem.W.Frag) (CP : Addr) : Bool :=
  PySem.W.plainGet K CP Str.empty && (PySem.W.hasDictIn K CP && (PySem.W.plainOver K CP && (decide (PySem.W.findIn K (.ref CP) "__setattr__" = some (some (.builtin "object.__setattr__"))) && (decide (PySem.W.findIn K (.ref CP) "numbers" = some none) &&
  (decide (PySem.W.findIn K (.ref CP) "__class__" = some (some (.builtin "object.__class__"))) && (decide (PySem.W.specialIn K (.builtin "object.__class__") "__get__" = some (some (.builtin "getset_descriptor.__get__"))) &&
  (decide (PySem.W.takesIn K (.builtin "object.__class__") = some true) && (decide (PySem.W.mroIn K CP (.type "object") = some true) && (tyNames.all (fun t => decide (PySem.W.kitOne K (.type t) (.ref CP) = some false) && PySem.W.notFirst K CP (.type t)) &&
  (PySem.W.notFirst K CP (.ref CP) && (PySem.W.makesIn K CP && PySem.W.keepIn K (.ref CP))))))))))))
theorem tyD_mem (d : PyData) : tyD d ∈ tyNames := by
  cases d <;> simp [tyD, tyNames]
theorem polyC {K : PySem.W.Frag} {mg : Str → Option Value} {CP : Addr} (m : mg "Poly" = some (.ref CP)) (h : polyB K CP = true) : PoC K mg CP ∧ PySem.W.makesIn K CP = true ∧ PySem.W.keepIn K (.ref CP) = true := by
  obtain ⟨h1, h⟩ := Bool.and_eq_true_iff.mp h
  obtain ⟨h2, h⟩ := Bool.and_eq_true_iff.mp h
  obtain ⟨h3, h⟩ := Bool.and_eq_true_iff.mp h
  obtain ⟨h4, h⟩ := Bool.and_eq_true_iff.mp h
  obtain ⟨h5, h⟩ := Bool.and_eq_true_iff.mp h
  obtain ⟨h6, h⟩ := Bool.and_eq_true_iff.mp h
  obtain ⟨h7, h⟩ := Bool.and_eq_true_iff.mp h
  obtain ⟨h8, h⟩ := Bool.and_eq_true_iff.mp h
  obtain ⟨h9, h⟩ := Bool.and_eq_true_iff.mp h
  obtain ⟨h10, h⟩ := Bool.and_eq_true_iff.mp h
  obtain ⟨h11, h⟩ := Bool.and_eq_true_iff.mp h
  obtain ⟨h12, h13⟩ := Bool.and_eq_true_iff.mp h
  have z := fun d : PyData => Bool.and_eq_true_iff.mp (List.all_eq_true.mp h10 (tyD d) (tyD_mem d))
  exact ⟨⟨m, ⟨h1, h2, h3, of_decide_eq_true h4⟩, (of_decide_eq_true h5 : PySem.W.findIn K (.ref CP) "numbers" = some none), of_decide_eq_true h6, of_decide_eq_true h7, of_decide_eq_true h8, of_decide_eq_true h9, fun d => of_decide_eq_true (z d).1, h11, fun d => (z d).2⟩, h12, h13⟩
theorem fn_of_ty {K : PySem.W.Frag} {f : Addr} (h : PySem.W.typeIn K (.ref f) = some (.type "function")) : PySem.W.isFn K (.ref f) = true := by
  unfold PySem.W.isFn
  rw [h]
  decide +kernel
def insB (K : PySem.W.Frag) (C : Addr) (fs : List Str) : Bool :=
  PySem.W.plainGet K C Str.empty && (PySem.W.hasDictIn K C && (PySem.W.plainOver K C && (decide (PySem.W.findIn K (.ref C) "__setattr__" = some (some (.builtin "object.__setattr__"))) && (fs.all (fun f => decide (PySem.W.findIn K (.ref C) f = some none)) && (PySem.W.makesIn K C && PySem.W.keepIn K (.ref C))))))
theorem insC {K : PySem.W.Frag} {mg : Str → Option Value} {name : Str} {C : Addr} {fs : List Str} (m : mg name = some (.ref C)) (h : insB K C fs = true) : InC K mg name C fs ∧ PySem.W.makesIn K C = true ∧ PySem.W.keepIn K (.ref C) = true := by
  obtain ⟨h1, h⟩ := Bool.and_eq_true_iff.mp h
  obtain ⟨h2, h⟩ := Bool.and_eq_true_iff.mp h
  obtain ⟨h3, h⟩ := Bool.and_eq_true_iff.mp h
  obtain ⟨h4, h⟩ := Bool.and_eq_true_iff.mp h
  obtain ⟨h5, h⟩ := Bool.and_eq_true_iff.mp h
  obtain ⟨h6, h7⟩ := Bool.and_eq_true_iff.mp h
  exact ⟨⟨m, ⟨h1, h2, h3, of_decide_eq_true h4⟩, fun f hf => (of_decide_eq_true (List.all_eq_true.mp h5 f hf) : PySem.W.findIn K (.ref C) f = some none)⟩, h6, h7⟩
def posB (K : PySem.W.Frag) (CP : Addr) : Bool := PySem.W.selfFirst K CP && (decide (PySem.W.subIn K (.type "tuple") (.ref CP) = some false) && (decide (PySem.W.subIn K (.ref CP) (.type "tuple") = some false) && (decide (PySem.W.subIn K (.type "int") (.ref CP) = some false) && decide (PySem.W.subIn K (.ref CP) (.type "int") = some false))))
theorem posC {K : PySem.W.Frag} {CP : Addr} (h : posB K CP = true) : PoS K CP := by
  obtain ⟨h1, h⟩ := Bool.and_eq_true_iff.mp h
  obtain ⟨h2, h⟩ := Bool.and_eq_true_iff.mp h
  obtain ⟨h3, h⟩ := Bool.and_eq_true_iff.mp h
  obtain ⟨h4, h5⟩ := Bool.and_eq_true_iff.mp h
  exact ⟨h1, of_decide_eq_true h2, of_decide_eq_true h3, of_decide_eq_true h4, of_decide_eq_true h5⟩
theorem all_mk {l : PySem.W.OpenLaw} {w : World} {K : PySem.W.Frag} {h : Heap} {mg : Str → Option Value} {fa : Addr} {q : Program}
    {C0 C1 C2 i0 i1 i2 f0 f1 f2 f3 f4 f5 f6 f7 f8 f9 f10 f11 f12 f13 f14 f15 f16 f17 f18 f19 f20 f21 f22 f23 f24 f25 f26 f27 f28 f29 f30 f31 f32 f33 f34 f35 f36 f37 f38 f39 f40 f41 f42 f43 f44 f45 f46 f47 f48 f49 f50 f51 f52 f53 f54 f55 f56 f57 f58 f59 f60 f61 f62 f63 f64 f65 f66 Cg g0 g1 g2 g3 g4 g5 g6 g7 g8 Cn n0 cL Pt : Addr}
    {eL : Value} {dL : Option Addr} {vL : Array Value} {sL : Array (Option Value)} 
    {ocf0 kVf0 dcf0 pmf0 cdf0 ctf0 : Value} {odf0 anf0 : Option Addr} {slf0 : Array (Option Value)}
    {ocf1 kVf1 dcf1 pmf1 cdf1 ctf1 : Value} {odf1 anf1 : Option Addr} {slf1 : Array (Option Value)}
    {ocf2 kVf2 dcf2 pmf2 cdf2 ctf2 : Value} {odf2 anf2 : Option Addr} {slf2 : Array (Option Value)}
    {ocf3 kVf3 dcf3 pmf3 cdf3 ctf3 : Value} {odf3 anf3 : Option Addr} {slf3 : Array (Option Value)}
    {ocf4 kVf4 dcf4 pmf4 cdf4 ctf4 : Value} {odf4 anf4 : Option Addr} {slf4 : Array (Option Value)}
    {ocf5 kVf5 dcf5 pmf5 cdf5 ctf5 : Value} {odf5 anf5 : Option Addr} {slf5 : Array (Option Value)}
    {ocf6 kVf6 dcf6 pmf6 cdf6 ctf6 : Value} {odf6 anf6 : Option Addr} {slf6 : Array (Option Value)}
    {ocf7 kVf7 dcf7 pmf7 cdf7 ctf7 : Value} {odf7 anf7 : Option Addr} {slf7 : Array (Option Value)}
    {ocf8 kVf8 dcf8 pmf8 cdf8 ctf8 : Value} {odf8 anf8 : Option Addr} {slf8 : Array (Option Value)}
    {ocf9 kVf9 dcf9 pmf9 cdf9 ctf9 : Value} {odf9 anf9 : Option Addr} {slf9 : Array (Option Value)}
    {ocf10 kVf10 dcf10 pmf10 cdf10 ctf10 : Value} {odf10 anf10 : Option Addr} {slf10 : Array (Option Value)}
    {ocf11 kVf11 dcf11 pmf11 cdf11 ctf11 : Value} {odf11 anf11 : Option Addr} {slf11 : Array (Option Value)}
    {ocf12 kVf12 dcf12 pmf12 cdf12 ctf12 : Value} {odf12 anf12 : Option Addr} {slf12 : Array (Option Value)}
    {ocf13 kVf13 dcf13 pmf13 cdf13 ctf13 : Value} {odf13 anf13 : Option Addr} {slf13 : Array (Option Value)}
    {ocf14 kVf14 dcf14 pmf14 cdf14 ctf14 : Value} {odf14 anf14 : Option Addr} {slf14 : Array (Option Value)}
    {ocf15 kVf15 dcf15 pmf15 cdf15 ctf15 : Value} {odf15 anf15 : Option Addr} {slf15 : Array (Option Value)}
    {ocf16 kVf16 dcf16 pmf16 cdf16 ctf16 : Value} {odf16 anf16 : Option Addr} {slf16 : Array (Option Value)}
    {ocf17 kVf17 dcf17 pmf17 cdf17 ctf17 : Value} {odf17 anf17 : Option Addr} {slf17 : Array (Option Value)}
    {ocf18 kVf18 dcf18 pmf18 cdf18 ctf18 : Value} {odf18 anf18 : Option Addr} {slf18 : Array (Option Value)}
    {ocf19 kVf19 dcf19 pmf19 cdf19 ctf19 : Value} {odf19 anf19 : Option Addr} {slf19 : Array (Option Value)}
    {ocf20 kVf20 dcf20 pmf20 cdf20 ctf20 : Value} {odf20 anf20 : Option Addr} {slf20 : Array (Option Value)}
    {ocf21 kVf21 dcf21 pmf21 cdf21 ctf21 : Value} {odf21 anf21 : Option Addr} {slf21 : Array (Option Value)}
    {ocf22 kVf22 dcf22 pmf22 cdf22 ctf22 : Value} {odf22 anf22 : Option Addr} {slf22 : Array (Option Value)}
    {ocf23 kVf23 dcf23 pmf23 cdf23 ctf23 : Value} {odf23 anf23 : Option Addr} {slf23 : Array (Option Value)}
    {ocf24 kVf24 dcf24 pmf24 cdf24 ctf24 : Value} {odf24 anf24 : Option Addr} {slf24 : Array (Option Value)}
    {ocf25 kVf25 dcf25 pmf25 cdf25 ctf25 : Value} {odf25 anf25 : Option Addr} {slf25 : Array (Option Value)}
    {ocf26 kVf26 dcf26 pmf26 cdf26 ctf26 : Value} {odf26 anf26 : Option Addr} {slf26 : Array (Option Value)}
    {ocf27 kVf27 dcf27 pmf27 cdf27 ctf27 : Value} {odf27 anf27 : Option Addr} {slf27 : Array (Option Value)}
    {ocf28 kVf28 dcf28 pmf28 cdf28 ctf28 : Value} {odf28 anf28 : Option Addr} {slf28 : Array (Option Value)}
    {ocf29 kVf29 dcf29 pmf29 cdf29 ctf29 : Value} {odf29 anf29 : Option Addr} {slf29 : Array (Option Value)}
    {ocf30 kVf30 dcf30 pmf30 cdf30 ctf30 : Value} {odf30 anf30 : Option Addr} {slf30 : Array (Option Value)}
    {ocf31 kVf31 dcf31 pmf31 cdf31 ctf31 : Value} {odf31 anf31 : Option Addr} {slf31 : Array (Option Value)}
    {ocf32 kVf32 dcf32 pmf32 cdf32 ctf32 : Value} {odf32 anf32 : Option Addr} {slf32 : Array (Option Value)}
    {ocf33 kVf33 dcf33 pmf33 cdf33 ctf33 : Value} {odf33 anf33 : Option Addr} {slf33 : Array (Option Value)}
    {ocf34 kVf34 dcf34 pmf34 cdf34 ctf34 : Value} {odf34 anf34 : Option Addr} {slf34 : Array (Option Value)}
    {ocf35 kVf35 dcf35 pmf35 cdf35 ctf35 : Value} {odf35 anf35 : Option Addr} {slf35 : Array (Option Value)}
    {ocf36 kVf36 dcf36 pmf36 cdf36 ctf36 : Value} {odf36 anf36 : Option Addr} {slf36 : Array (Option Value)}
    {ocf37 kVf37 dcf37 pmf37 cdf37 ctf37 : Value} {odf37 anf37 : Option Addr} {slf37 : Array (Option Value)}
    {ocf38 kVf38 dcf38 pmf38 cdf38 ctf38 : Value} {odf38 anf38 : Option Addr} {slf38 : Array (Option Value)}
    {ocf39 kVf39 dcf39 pmf39 cdf39 ctf39 : Value} {odf39 anf39 : Option Addr} {slf39 : Array (Option Value)}
    {ocf40 kVf40 dcf40 pmf40 cdf40 ctf40 : Value} {odf40 anf40 : Option Addr} {slf40 : Array (Option Value)}
    {ocf41 kVf41 dcf41 pmf41 cdf41 ctf41 : Value} {odf41 anf41 : Option Addr} {slf41 : Array (Option Value)}
    {ocf42 kVf42 dcf42 pmf42 cdf42 ctf42 : Value} {odf42 anf42 : Option Addr} {slf42 : Array (Option Value)}
    {ocf43 kVf43 dcf43 pmf43 cdf43 ctf43 : Value} {odf43 anf43 : Option Addr} {slf43 : Array (Option Value)}
    {ocf44 kVf44 dcf44 pmf44 cdf44 ctf44 : Value} {odf44 anf44 : Option Addr} {slf44 : Array (Option Value)}
    {ocf45 kVf45 dcf45 pmf45 cdf45 ctf45 : Value} {odf45 anf45 : Option Addr} {slf45 : Array (Option Value)}
    {ocf46 kVf46 dcf46 pmf46 cdf46 ctf46 : Value} {odf46 anf46 : Option Addr} {slf46 : Array (Option Value)}
    {ocf47 kVf47 dcf47 pmf47 cdf47 ctf47 : Value} {odf47 anf47 : Option Addr} {slf47 : Array (Option Value)}
    {ocf48 kVf48 dcf48 pmf48 cdf48 ctf48 : Value} {odf48 anf48 : Option Addr} {slf48 : Array (Option Value)}
    {ocf49 kVf49 dcf49 pmf49 cdf49 ctf49 : Value} {odf49 anf49 : Option Addr} {slf49 : Array (Option Value)}
    {ocf50 kVf50 dcf50 pmf50 cdf50 ctf50 : Value} {odf50 anf50 : Option Addr} {slf50 : Array (Option Value)}
    {ocf51 kVf51 dcf51 pmf51 cdf51 ctf51 : Value} {odf51 anf51 : Option Addr} {slf51 : Array (Option Value)}
    {ocf52 kVf52 dcf52 pmf52 cdf52 ctf52 : Value} {odf52 anf52 : Option Addr} {slf52 : Array (Option Value)}
    {ocf53 kVf53 dcf53 pmf53 cdf53 ctf53 : Value} {odf53 anf53 : Option Addr} {slf53 : Array (Option Value)}
    {ocf54 kVf54 dcf54 pmf54 cdf54 ctf54 : Value} {odf54 anf54 : Option Addr} {slf54 : Array (Option Value)}
    {ocf55 kVf55 dcf55 pmf55 cdf55 ctf55 : Value} {odf55 anf55 : Option Addr} {slf55 : Array (Option Value)}
    {ocf56 kVf56 dcf56 pmf56 cdf56 ctf56 : Value} {odf56 anf56 : Option Addr} {slf56 : Array (Option Value)}
    {ocf57 kVf57 dcf57 pmf57 cdf57 ctf57 : Value} {odf57 anf57 : Option Addr} {slf57 : Array (Option Value)}
    {ocf58 kVf58 dcf58 pmf58 cdf58 ctf58 : Value} {odf58 anf58 : Option Addr} {slf58 : Array (Option Value)}
    {ocf59 kVf59 dcf59 pmf59 cdf59 ctf59 : Value} {odf59 anf59 : Option Addr} {slf59 : Array (Option Value)}
    {ocf60 kVf60 dcf60 pmf60 cdf60 ctf60 : Value} {odf60 anf60 : Option Addr} {slf60 : Array (Option Value)}
    {ocf61 kVf61 dcf61 pmf61 cdf61 ctf61 : Value} {odf61 anf61 : Option Addr} {slf61 : Array (Option Value)}
    {ocf62 kVf62 dcf62 pmf62 cdf62 ctf62 : Value} {odf62 anf62 : Option Addr} {slf62 : Array (Option Value)}
    {ocf63 kVf63 dcf63 pmf63 cdf63 ctf63 : Value} {odf63 anf63 : Option Addr} {slf63 : Array (Option Value)}
    {ocf64 kVf64 dcf64 pmf64 cdf64 ctf64 : Value} {odf64 anf64 : Option Addr} {slf64 : Array (Option Value)}
    {ocf65 kVf65 dcf65 pmf65 cdf65 ctf65 : Value} {odf65 anf65 : Option Addr} {slf65 : Array (Option Value)}
    {ocf66 kVf66 dcf66 pmf66 ctf66 : Value} {odf66 anf66 : Option Addr} {slf66 : Array (Option Value)}
    {oci0 kVi0 dci0 pmi0 cdi0 cti0 : Value} {odi0 ani0 : Option Addr} {sli0 : Array (Option Value)}
    {nm0 qn0 : Str} {N0 : Addr} {bs0 bm0 sub0 : List Value} {sn0 : List Str} {ab0 : Bool} {col0 : Option Bool} {dd0 : Option Addr} {ka0 kb0 kc0 kd0 ke0 : Option Value}
    {oci1 kVi1 dci1 pmi1 cdi1 cti1 : Value} {odi1 ani1 : Option Addr} {sli1 : Array (Option Value)}
    {nm1 qn1 : Str} {N1 : Addr} {bs1 bm1 sub1 : List Value} {sn1 : List Str} {ab1 : Bool} {col1 : Option Bool} {dd1 : Option Addr} {ka1 kb1 kc1 kd1 ke1 : Option Value}
    {oci2 kVi2 dci2 pmi2 cdi2 cti2 : Value} {odi2 ani2 : Option Addr} {sli2 : Array (Option Value)}
    {nm2 qn2 : Str} {N2 : Addr} {bs2 bm2 sub2 : List Value} {sn2 : List Str} {ab2 : Bool} {col2 : Option Bool} {dd2 : Option Addr} {ka2 kb2 kc2 kd2 ke2 : Option Value}
    {ocg0 kVg0 dcg0 pmg0 cdg0 ctg0 : Value} {odg0 ang0 : Option Addr} {slg0 : Array (Option Value)}
    {ocg1 kVg1 dcg1 pmg1 cdg1 ctg1 : Value} {odg1 ang1 : Option Addr} {slg1 : Array (Option Value)}
    {ocg2 kVg2 dcg2 pmg2 cdg2 ctg2 : Value} {odg2 ang2 : Option Addr} {slg2 : Array (Option Value)}
    {ocg3 kVg3 dcg3 pmg3 cdg3 ctg3 : Value} {odg3 ang3 : Option Addr} {slg3 : Array (Option Value)}
    {ocg4 kVg4 dcg4 pmg4 cdg4 ctg4 : Value} {odg4 ang4 : Option Addr} {slg4 : Array (Option Value)}
    {ocg5 kVg5 dcg5 pmg5 cdg5 ctg5 : Value} {odg5 ang5 : Option Addr} {slg5 : Array (Option Value)}
    {ocg6 kVg6 dcg6 pmg6 cdg6 ctg6 : Value} {odg6 ang6 : Option Addr} {slg6 : Array (Option Value)}
    {ocg7 kVg7 dcg7 pmg7 cdg7 ctg7 : Value} {odg7 ang7 : Option Addr} {slg7 : Array (Option Value)}
    {ocg8 kVg8 dcg8 pmg8 cdg8 ctg8 : Value} {odg8 ang8 : Option Addr} {slg8 : Array (Option Value)}
    {ocn0 kVn0 dcn0 pmn0 cdn0 ctn0 : Value} {odn0 ann0 : Option Addr} {sln0 : Array (Option Value)}
    (X : K.In h) (G : h.Ns mainGlobals mg) (hfa : mg "law" = some (.ref fa)) (TB : TabsG q K mg h)
    (a0 : PySem.W.nsIn K mainGlobals "_law_pen" = some (some (.ref f0)))
    (l0 : K.lookup f0 = some ⟨ocf0, odf0, .func (PySem.W.fnOf "_law_pen" "_law_pen" (defArgs sPen) (defBody sPen) (defScope sPen) .none kVf0 dcf0 pmf0 anf0 cdf0 ctf0), slf0⟩)
    (c0 : PySem.W.codeIn K cdf0 "_law_pen" = true)
    (k0 : PySem.W.keepIn K (.ref f0) = true)
    (a1 : PySem.W.nsIn K mainGlobals "_law_draw" = some (some (.ref f1)))
    (l1 : K.lookup f1 = some ⟨ocf1, odf1, .func (PySem.W.fnOf "_law_draw" "_law_draw" (defArgs sDraw) (defBody sDraw) (defScope sDraw) .none kVf1 dcf1 pmf1 anf1 cdf1 ctf1), slf1⟩)
    (c1 : PySem.W.codeIn K cdf1 "_law_draw" = true)
    (k1 : PySem.W.keepIn K (.ref f1) = true)
    (a2 : PySem.W.nsIn K mainGlobals "_law_pick" = some (some (.ref f2)))
    (l2 : K.lookup f2 = some ⟨ocf2, odf2, .func (PySem.W.fnOf "_law_pick" "_law_pick" (defArgs sPick) (defBody sPick) (defScope sPick) .none kVf2 dcf2 pmf2 anf2 cdf2 ctf2), slf2⟩)
    (c2 : PySem.W.codeIn K cdf2 "_law_pick" = true)
    (k2 : PySem.W.keepIn K (.ref f2) = true)
    (a3 : PySem.W.nsIn K mainGlobals "is_whole" = some (some (.ref f3)))
    (l3 : K.lookup f3 = some ⟨ocf3, odf3, .func (PySem.W.fnOf "is_whole" "is_whole" (defArgs sIsWhole) (defBody sIsWhole) (defScope sIsWhole) .none kVf3 dcf3 pmf3 anf3 cdf3 ctf3), slf3⟩)
    (c3 : PySem.W.codeIn K cdf3 "is_whole" = true)
    (k3 : PySem.W.keepIn K (.ref f3) = true)
    (a4 : PySem.W.nsIn K mainGlobals "is_ratio" = some (some (.ref f4)))
    (l4 : K.lookup f4 = some ⟨ocf4, odf4, .func (PySem.W.fnOf "is_ratio" "is_ratio" (defArgs sIsRatio) (defBody sIsRatio) (defScope sIsRatio) .none kVf4 dcf4 pmf4 anf4 cdf4 ctf4), slf4⟩)
    (c4 : PySem.W.codeIn K cdf4 "is_ratio" = true)
    (k4 : PySem.W.keepIn K (.ref f4) = true)
    (a5 : PySem.W.nsIn K mainGlobals "is_ratio_row" = some (some (.ref f5)))
    (l5 : K.lookup f5 = some ⟨ocf5, odf5, .func (PySem.W.fnOf "is_ratio_row" "is_ratio_row" (defArgs sIsRow) (defBody sIsRow) (defScope sIsRow) .none kVf5 dcf5 pmf5 anf5 cdf5 ctf5), slf5⟩)
    (c5 : PySem.W.codeIn K cdf5 "is_ratio_row" = true)
    (k5 : PySem.W.keepIn K (.ref f5) = true)
    (a6 : PySem.W.nsIn K mainGlobals "lowest" = some (some (.ref f6)))
    (l6 : K.lookup f6 = some ⟨ocf6, odf6, .func (PySem.W.fnOf "lowest" "lowest" (defArgs sLowest) (defBody sLowest) (defScope sLowest) .none kVf6 dcf6 pmf6 anf6 cdf6 ctf6), slf6⟩)
    (c6 : PySem.W.codeIn K cdf6 "lowest" = true)
    (k6 : PySem.W.keepIn K (.ref f6) = true)
    (a7 : PySem.W.nsIn K mainGlobals "parts_of" = some (some (.ref f7)))
    (l7 : K.lookup f7 = some ⟨ocf7, odf7, .func (PySem.W.fnOf "parts_of" "parts_of" (defArgs sParts) (defBody sParts) (defScope sParts) .none kVf7 dcf7 pmf7 anf7 cdf7 ctf7), slf7⟩)
    (c7 : PySem.W.codeIn K cdf7 "parts_of" = true)
    (k7 : PySem.W.keepIn K (.ref f7) = true)
    (a8 : PySem.W.nsIn K mainGlobals "told" = some (some (.ref f8)))
    (l8 : K.lookup f8 = some ⟨ocf8, odf8, .func (PySem.W.fnOf "told" "told" (defArgs sTold) (defBody sTold) (defScope sTold) .none kVf8 dcf8 pmf8 anf8 cdf8 ctf8), slf8⟩)
    (c8 : PySem.W.codeIn K cdf8 "told" = true)
    (k8 : PySem.W.keepIn K (.ref f8) = true)
    (a9 : PySem.W.nsIn K mainGlobals "plus" = some (some (.ref f9)))
    (l9 : K.lookup f9 = some ⟨ocf9, odf9, .func (PySem.W.fnOf "plus" "plus" (defArgs sPlus) (defBody sPlus) (defScope sPlus) .none kVf9 dcf9 pmf9 anf9 cdf9 ctf9), slf9⟩)
    (c9 : PySem.W.codeIn K cdf9 "plus" = true)
    (k9 : PySem.W.keepIn K (.ref f9) = true)
    (a10 : PySem.W.nsIn K mainGlobals "minus" = some (some (.ref f10)))
    (l10 : K.lookup f10 = some ⟨ocf10, odf10, .func (PySem.W.fnOf "minus" "minus" (defArgs sMinus) (defBody sMinus) (defScope sMinus) .none kVf10 dcf10 pmf10 anf10 cdf10 ctf10), slf10⟩)
    (c10 : PySem.W.codeIn K cdf10 "minus" = true)
    (k10 : PySem.W.keepIn K (.ref f10) = true)
    (a11 : PySem.W.nsIn K mainGlobals "times" = some (some (.ref f11)))
    (l11 : K.lookup f11 = some ⟨ocf11, odf11, .func (PySem.W.fnOf "times" "times" (defArgs sTimes) (defBody sTimes) (defScope sTimes) .none kVf11 dcf11 pmf11 anf11 cdf11 ctf11), slf11⟩)
    (c11 : PySem.W.codeIn K cdf11 "times" = true)
    (k11 : PySem.W.keepIn K (.ref f11) = true)
    (a12 : PySem.W.nsIn K mainGlobals "share" = some (some (.ref f12)))
    (l12 : K.lookup f12 = some ⟨ocf12, odf12, .func (PySem.W.fnOf "share" "share" (defArgs sShare) (defBody sShare) (defScope sShare) .none kVf12 dcf12 pmf12 anf12 cdf12 ctf12), slf12⟩)
    (c12 : PySem.W.codeIn K cdf12 "share" = true)
    (k12 : PySem.W.keepIn K (.ref f12) = true)
    (a13 : PySem.W.nsIn K mainGlobals "lower" = some (some (.ref f13)))
    (l13 : K.lookup f13 = some ⟨ocf13, odf13, .func (PySem.W.fnOf "lower" "lower" (defArgs sLower) (defBody sLower) (defScope sLower) .none kVf13 dcf13 pmf13 anf13 cdf13 ctf13), slf13⟩)
    (c13 : PySem.W.codeIn K cdf13 "lower" = true)
    (k13 : PySem.W.keepIn K (.ref f13) = true)
    (a14 : PySem.W.nsIn K mainGlobals "held" = some (some (.ref f14)))
    (l14 : K.lookup f14 = some ⟨ocf14, odf14, .func (PySem.W.fnOf "held" "held" (defArgs sHeld) (defBody sHeld) (defScope sHeld) .none kVf14 dcf14 pmf14 anf14 cdf14 ctf14), slf14⟩)
    (c14 : PySem.W.codeIn K cdf14 "held" = true)
    (k14 : PySem.W.keepIn K (.ref f14) = true)
    (a15 : PySem.W.nsIn K mainGlobals "need_interval" = some (some (.ref f15)))
    (l15 : K.lookup f15 = some ⟨ocf15, odf15, .func (PySem.W.fnOf "need_interval" "need_interval" (defArgs sNeedI) (defBody sNeedI) (defScope sNeedI) .none kVf15 dcf15 pmf15 anf15 cdf15 ctf15), slf15⟩)
    (c15 : PySem.W.codeIn K cdf15 "need_interval" = true)
    (k15 : PySem.W.keepIn K (.ref f15) = true)
    (a16 : PySem.W.nsIn K mainGlobals "product_row" = some (some (.ref f16)))
    (l16 : K.lookup f16 = some ⟨ocf16, odf16, .func (PySem.W.fnOf "product_row" "product_row" (defArgs sPRow) (defBody sPRow) (defScope sPRow) .none kVf16 dcf16 pmf16 anf16 cdf16 ctf16), slf16⟩)
    (c16 : PySem.W.codeIn K cdf16 "product_row" = true)
    (k16 : PySem.W.keepIn K (.ref f16) = true)
    (a17 : PySem.W.nsIn K mainGlobals "product_number" = some (some (.ref f17)))
    (l17 : K.lookup f17 = some ⟨ocf17, odf17, .func (PySem.W.fnOf "product_number" "product_number" (defArgs sPN) (defBody sPN) (defScope sPN) .none kVf17 dcf17 pmf17 anf17 cdf17 ctf17), slf17⟩)
    (c17 : PySem.W.codeIn K cdf17 "product_number" = true)
    (k17 : PySem.W.keepIn K (.ref f17) = true)
    (a18 : PySem.W.nsIn K mainGlobals "as_poly" = some (some (.ref f18)))
    (l18 : K.lookup f18 = some ⟨ocf18, odf18, .func (PySem.W.fnOf "as_poly" "as_poly" (defArgs sAsP) (defBody sAsP) (defScope sAsP) .none kVf18 dcf18 pmf18 anf18 cdf18 ctf18), slf18⟩)
    (c18 : PySem.W.codeIn K cdf18 "as_poly" = true)
    (k18 : PySem.W.keepIn K (.ref f18) = true)
    (a19 : PySem.W.nsIn K mainGlobals "number_of" = some (some (.ref f19)))
    (l19 : K.lookup f19 = some ⟨ocf19, odf19, .func (PySem.W.fnOf "number_of" "number_of" (defArgs sNumOf) (defBody sNumOf) (defScope sNumOf) .none kVf19 dcf19 pmf19 anf19 cdf19 ctf19), slf19⟩)
    (c19 : PySem.W.codeIn K cdf19 "number_of" = true)
    (k19 : PySem.W.keepIn K (.ref f19) = true)
    (a20 : PySem.W.nsIn K mainGlobals "sums_of" = some (some (.ref f20)))
    (l20 : K.lookup f20 = some ⟨ocf20, odf20, .func (PySem.W.fnOf "sums_of" "sums_of" (defArgs sSums) (defBody sSums) (defScope sSums) .none kVf20 dcf20 pmf20 anf20 cdf20 ctf20), slf20⟩)
    (c20 : PySem.W.codeIn K cdf20 "sums_of" = true)
    (k20 : PySem.W.keepIn K (.ref f20) = true)
    (a21 : PySem.W.nsIn K mainGlobals "opposites_of" = some (some (.ref f21)))
    (l21 : K.lookup f21 = some ⟨ocf21, odf21, .func (PySem.W.fnOf "opposites_of" "opposites_of" (defArgs sOpp) (defBody sOpp) (defScope sOpp) .none kVf21 dcf21 pmf21 anf21 cdf21 ctf21), slf21⟩)
    (c21 : PySem.W.codeIn K cdf21 "opposites_of" = true)
    (k21 : PySem.W.keepIn K (.ref f21) = true)
    (a22 : PySem.W.nsIn K mainGlobals "products_of" = some (some (.ref f22)))
    (l22 : K.lookup f22 = some ⟨ocf22, odf22, .func (PySem.W.fnOf "products_of" "products_of" (defArgs sProds) (defBody sProds) (defScope sProds) .none kVf22 dcf22 pmf22 anf22 cdf22 ctf22), slf22⟩)
    (c22 : PySem.W.codeIn K cdf22 "products_of" = true)
    (k22 : PySem.W.keepIn K (.ref f22) = true)
    (a23 : PySem.W.nsIn K mainGlobals "over_one_bottom" = some (some (.ref f23)))
    (l23 : K.lookup f23 = some ⟨ocf23, odf23, .func (PySem.W.fnOf "over_one_bottom" "over_one_bottom" (defArgs sOver) (defBody sOver) (defScope sOver) .none kVf23 dcf23 pmf23 anf23 cdf23 ctf23), slf23⟩)
    (c23 : PySem.W.codeIn K cdf23 "over_one_bottom" = true)
    (k23 : PySem.W.keepIn K (.ref f23) = true)
    (a24 : PySem.W.nsIn K mainGlobals "poly_over" = some (some (.ref f24)))
    (l24 : K.lookup f24 = some ⟨ocf24, odf24, .func (PySem.W.fnOf "poly_over" "poly_over" (defArgs sPOv) (defBody sPOv) (defScope sPOv) .none kVf24 dcf24 pmf24 anf24 cdf24 ctf24), slf24⟩)
    (c24 : PySem.W.codeIn K cdf24 "poly_over" = true)
    (k24 : PySem.W.keepIn K (.ref f24) = true)
    (a25 : PySem.W.nsIn K mainGlobals "power_of" = some (some (.ref f25)))
    (l25 : K.lookup f25 = some ⟨ocf25, odf25, .func (PySem.W.fnOf "power_of" "power_of" (defArgs sPow) (defBody sPow) (defScope sPow) .none kVf25 dcf25 pmf25 anf25 cdf25 ctf25), slf25⟩)
    (c25 : PySem.W.codeIn K cdf25 "power_of" = true)
    (k25 : PySem.W.keepIn K (.ref f25) = true)
    (a26 : PySem.W.nsIn K mainGlobals "size_of" = some (some (.ref f26)))
    (l26 : K.lookup f26 = some ⟨ocf26, odf26, .func (PySem.W.fnOf "size_of" "size_of" (defArgs sSize) (defBody sSize) (defScope sSize) .none kVf26 dcf26 pmf26 anf26 cdf26 ctf26), slf26⟩)
    (c26 : PySem.W.codeIn K cdf26 "size_of" = true)
    (k26 : PySem.W.keepIn K (.ref f26) = true)
    (a27 : PySem.W.nsIn K mainGlobals "one_less" = some (some (.ref f27)))
    (l27 : K.lookup f27 = some ⟨ocf27, odf27, .func (PySem.W.fnOf "one_less" "one_less" (defArgs sOneL) (defBody sOneL) (defScope sOneL) .none kVf27 dcf27 pmf27 anf27 cdf27 ctf27), slf27⟩)
    (c27 : PySem.W.codeIn K cdf27 "one_less" = true)
    (k27 : PySem.W.keepIn K (.ref f27) = true)
    (a28 : PySem.W.nsIn K mainGlobals "turning_poly" = some (some (.ref f28)))
    (l28 : K.lookup f28 = some ⟨ocf28, odf28, .func (PySem.W.fnOf "turning_poly" "turning_poly" (defArgs sTurn) (defBody sTurn) (defScope sTurn) .none kVf28 dcf28 pmf28 anf28 cdf28 ctf28), slf28⟩)
    (c28 : PySem.W.codeIn K cdf28 "turning_poly" = true)
    (k28 : PySem.W.keepIn K (.ref f28) = true)
    (a29 : PySem.W.nsIn K mainGlobals "_law_is_whole" = some (some (.ref f29)))
    (l29 : K.lookup f29 = some ⟨ocf29, odf29, .func (PySem.W.fnOf "_law_is_whole" "_law_is_whole" (defArgs sLWhole) (defBody sLWhole) (defScope sLWhole) .none kVf29 dcf29 pmf29 anf29 cdf29 ctf29), slf29⟩)
    (c29 : PySem.W.codeIn K cdf29 "_law_is_whole" = true)
    (k29 : PySem.W.keepIn K (.ref f29) = true)
    (a30 : PySem.W.nsIn K mainGlobals "_law_gcd" = some (some (.ref f30)))
    (l30 : K.lookup f30 = some ⟨ocf30, odf30, .func (PySem.W.fnOf "_law_gcd" "_law_gcd" (defArgs sLGcd) (defBody sLGcd) (defScope sLGcd) .none kVf30 dcf30 pmf30 anf30 cdf30 ctf30), slf30⟩)
    (c30 : PySem.W.codeIn K cdf30 "_law_gcd" = true)
    (k30 : PySem.W.keepIn K (.ref f30) = true)
    (a31 : PySem.W.nsIn K mainGlobals "_law_q" = some (some (.ref f31)))
    (l31 : K.lookup f31 = some ⟨ocf31, odf31, .func (PySem.W.fnOf "_law_q" "_law_q" (defArgs sLQ) (defBody sLQ) (defScope sLQ) .none kVf31 dcf31 pmf31 anf31 cdf31 ctf31), slf31⟩)
    (c31 : PySem.W.codeIn K cdf31 "_law_q" = true)
    (k31 : PySem.W.keepIn K (.ref f31) = true)
    (a32 : PySem.W.nsIn K mainGlobals "_law_plus" = some (some (.ref f32)))
    (l32 : K.lookup f32 = some ⟨ocf32, odf32, .func (PySem.W.fnOf "_law_plus" "_law_plus" (defArgs sLPlus) (defBody sLPlus) (defScope sLPlus) .none kVf32 dcf32 pmf32 anf32 cdf32 ctf32), slf32⟩)
    (c32 : PySem.W.codeIn K cdf32 "_law_plus" = true)
    (k32 : PySem.W.keepIn K (.ref f32) = true)
    (a33 : PySem.W.nsIn K mainGlobals "_law_minus" = some (some (.ref f33)))
    (l33 : K.lookup f33 = some ⟨ocf33, odf33, .func (PySem.W.fnOf "_law_minus" "_law_minus" (defArgs sLMinus) (defBody sLMinus) (defScope sLMinus) .none kVf33 dcf33 pmf33 anf33 cdf33 ctf33), slf33⟩)
    (c33 : PySem.W.codeIn K cdf33 "_law_minus" = true)
    (k33 : PySem.W.keepIn K (.ref f33) = true)
    (a34 : PySem.W.nsIn K mainGlobals "_law_times" = some (some (.ref f34)))
    (l34 : K.lookup f34 = some ⟨ocf34, odf34, .func (PySem.W.fnOf "_law_times" "_law_times" (defArgs sLTimes) (defBody sLTimes) (defScope sLTimes) .none kVf34 dcf34 pmf34 anf34 cdf34 ctf34), slf34⟩)
    (c34 : PySem.W.codeIn K cdf34 "_law_times" = true)
    (k34 : PySem.W.keepIn K (.ref f34) = true)
    (a35 : PySem.W.nsIn K mainGlobals "_law_share" = some (some (.ref f35)))
    (l35 : K.lookup f35 = some ⟨ocf35, odf35, .func (PySem.W.fnOf "_law_share" "_law_share" (defArgs sLShare) (defBody sLShare) (defScope sLShare) .none kVf35 dcf35 pmf35 anf35 cdf35 ctf35), slf35⟩)
    (c35 : PySem.W.codeIn K cdf35 "_law_share" = true)
    (k35 : PySem.W.keepIn K (.ref f35) = true)
    (a36 : PySem.W.nsIn K mainGlobals "_law_less" = some (some (.ref f36)))
    (l36 : K.lookup f36 = some ⟨ocf36, odf36, .func (PySem.W.fnOf "_law_less" "_law_less" (defArgs sLLess) (defBody sLLess) (defScope sLLess) .none kVf36 dcf36 pmf36 anf36 cdf36 ctf36), slf36⟩)
    (c36 : PySem.W.codeIn K cdf36 "_law_less" = true)
    (k36 : PySem.W.keepIn K (.ref f36) = true)
    (a37 : PySem.W.nsIn K mainGlobals "_law_is_ratio" = some (some (.ref f37)))
    (l37 : K.lookup f37 = some ⟨ocf37, odf37, .func (PySem.W.fnOf "_law_is_ratio" "_law_is_ratio" (defArgs sLIsRatio) (defBody sLIsRatio) (defScope sLIsRatio) .none kVf37 dcf37 pmf37 anf37 cdf37 ctf37), slf37⟩)
    (c37 : PySem.W.codeIn K cdf37 "_law_is_ratio" = true)
    (k37 : PySem.W.keepIn K (.ref f37) = true)
    (a38 : PySem.W.nsIn K mainGlobals "_law_passed" = some (some (.ref f38)))
    (l38 : K.lookup f38 = some ⟨ocf38, odf38, .func (PySem.W.fnOf "_law_passed" "_law_passed" (defArgs sPassed) (defBody sPassed) (defScope sPassed) .none kVf38 dcf38 pmf38 anf38 cdf38 ctf38), slf38⟩)
    (c38 : PySem.W.codeIn K cdf38 "_law_passed" = true)
    (k38 : PySem.W.keepIn K (.ref f38) = true)
    (a39 : PySem.W.nsIn K mainGlobals "_law_ratio" = some (some (.ref f39)))
    (l39 : K.lookup f39 = some ⟨ocf39, odf39, .func (PySem.W.fnOf "_law_ratio" "_law_ratio" (defArgs sLRatio) (defBody sLRatio) (defScope sLRatio) .none kVf39 dcf39 pmf39 anf39 cdf39 ctf39), slf39⟩)
    (c39 : PySem.W.codeIn K cdf39 "_law_ratio" = true)
    (k39 : PySem.W.keepIn K (.ref f39) = true)
    (a40 : PySem.W.nsIn K mainGlobals "_law_interval" = some (some (.ref f40)))
    (l40 : K.lookup f40 = some ⟨ocf40, odf40, .func (PySem.W.fnOf "_law_interval" "_law_interval" (defArgs sIv) (defBody sIv) (defScope sIv) .none kVf40 dcf40 pmf40 anf40 cdf40 ctf40), slf40⟩)
    (c40 : PySem.W.codeIn K cdf40 "_law_interval" = true)
    (k40 : PySem.W.keepIn K (.ref f40) = true)
    (a41 : PySem.W.nsIn K mainGlobals "_law_middle" = some (some (.ref f41)))
    (l41 : K.lookup f41 = some ⟨ocf41, odf41, .func (PySem.W.fnOf "_law_middle" "_law_middle" (defArgs sLMid) (defBody sLMid) (defScope sLMid) .none kVf41 dcf41 pmf41 anf41 cdf41 ctf41), slf41⟩)
    (c41 : PySem.W.codeIn K cdf41 "_law_middle" = true)
    (k41 : PySem.W.keepIn K (.ref f41) = true)
    (a42 : PySem.W.nsIn K mainGlobals "_law_lower_one" = some (some (.ref f42)))
    (l42 : K.lookup f42 = some ⟨ocf42, odf42, .func (PySem.W.fnOf "_law_lower_one" "_law_lower_one" (defArgs sLMin) (defBody sLMin) (defScope sLMin) .none kVf42 dcf42 pmf42 anf42 cdf42 ctf42), slf42⟩)
    (c42 : PySem.W.codeIn K cdf42 "_law_lower_one" = true)
    (k42 : PySem.W.keepIn K (.ref f42) = true)
    (a43 : PySem.W.nsIn K mainGlobals "_law_sorted" = some (some (.ref f43)))
    (l43 : K.lookup f43 = some ⟨ocf43, odf43, .func (PySem.W.fnOf "_law_sorted" "_law_sorted" (defArgs sSort) (defBody sSort) (defScope sSort) .none kVf43 dcf43 pmf43 anf43 cdf43 ctf43), slf43⟩)
    (c43 : PySem.W.codeIn K cdf43 "_law_sorted" = true)
    (k43 : PySem.W.keepIn K (.ref f43) = true)
    (a44 : PySem.W.nsIn K mainGlobals "_law_poly" = some (some (.ref f44)))
    (l44 : K.lookup f44 = some ⟨ocf44, odf44, .func (PySem.W.fnOf "_law_poly" "_law_poly" (defArgs sLPoly) (defBody sLPoly) (defScope sLPoly) .none kVf44 dcf44 pmf44 anf44 cdf44 ctf44), slf44⟩)
    (c44 : PySem.W.codeIn K cdf44 "_law_poly" = true)
    (k44 : PySem.W.keepIn K (.ref f44) = true)
    (a45 : PySem.W.nsIn K mainGlobals "_law_p_plus" = some (some (.ref f45)))
    (l45 : K.lookup f45 = some ⟨ocf45, odf45, .func (PySem.W.fnOf "_law_p_plus" "_law_p_plus" (defArgs sLPPlus) (defBody sLPPlus) (defScope sLPPlus) .none kVf45 dcf45 pmf45 anf45 cdf45 ctf45), slf45⟩)
    (c45 : PySem.W.codeIn K cdf45 "_law_p_plus" = true)
    (k45 : PySem.W.keepIn K (.ref f45) = true)
    (a46 : PySem.W.nsIn K mainGlobals "_law_p_scaled" = some (some (.ref f46)))
    (l46 : K.lookup f46 = some ⟨ocf46, odf46, .func (PySem.W.fnOf "_law_p_scaled" "_law_p_scaled" (defArgs sLPScaled) (defBody sLPScaled) (defScope sLPScaled) .none kVf46 dcf46 pmf46 anf46 cdf46 ctf46), slf46⟩)
    (c46 : PySem.W.codeIn K cdf46 "_law_p_scaled" = true)
    (k46 : PySem.W.keepIn K (.ref f46) = true)
    (a47 : PySem.W.nsIn K mainGlobals "_law_p_minus" = some (some (.ref f47)))
    (l47 : K.lookup f47 = some ⟨ocf47, odf47, .func (PySem.W.fnOf "_law_p_minus" "_law_p_minus" (defArgs sLPMinus) (defBody sLPMinus) (defScope sLPMinus) .none kVf47 dcf47 pmf47 anf47 cdf47 ctf47), slf47⟩)
    (c47 : PySem.W.codeIn K cdf47 "_law_p_minus" = true)
    (k47 : PySem.W.keepIn K (.ref f47) = true)
    (a48 : PySem.W.nsIn K mainGlobals "_law_p_times" = some (some (.ref f48)))
    (l48 : K.lookup f48 = some ⟨ocf48, odf48, .func (PySem.W.fnOf "_law_p_times" "_law_p_times" (defArgs sLPTimes) (defBody sLPTimes) (defScope sLPTimes) .none kVf48 dcf48 pmf48 anf48 cdf48 ctf48), slf48⟩)
    (c48 : PySem.W.codeIn K cdf48 "_law_p_times" = true)
    (k48 : PySem.W.keepIn K (.ref f48) = true)
    (a49 : PySem.W.nsIn K mainGlobals "_law_p_at" = some (some (.ref f49)))
    (l49 : K.lookup f49 = some ⟨ocf49, odf49, .func (PySem.W.fnOf "_law_p_at" "_law_p_at" (defArgs sLPAt) (defBody sLPAt) (defScope sLPAt) .none kVf49 dcf49 pmf49 anf49 cdf49 ctf49), slf49⟩)
    (c49 : PySem.W.codeIn K cdf49 "_law_p_at" = true)
    (k49 : PySem.W.keepIn K (.ref f49) = true)
    (a50 : PySem.W.nsIn K mainGlobals "_law_p_slope" = some (some (.ref f50)))
    (l50 : K.lookup f50 = some ⟨ocf50, odf50, .func (PySem.W.fnOf "_law_p_slope" "_law_p_slope" (defArgs sLPSlope) (defBody sLPSlope) (defScope sLPSlope) .none kVf50 dcf50 pmf50 anf50 cdf50 ctf50), slf50⟩)
    (c50 : PySem.W.codeIn K cdf50 "_law_p_slope" = true)
    (k50 : PySem.W.keepIn K (.ref f50) = true)
    (a51 : PySem.W.nsIn K mainGlobals "_law_p_divided" = some (some (.ref f51)))
    (l51 : K.lookup f51 = some ⟨ocf51, odf51, .func (PySem.W.fnOf "_law_p_divided" "_law_p_divided" (defArgs sDiv) (defBody sDiv) (defScope sDiv) .none kVf51 dcf51 pmf51 anf51 cdf51 ctf51), slf51⟩)
    (c51 : PySem.W.codeIn K cdf51 "_law_p_divided" = true)
    (k51 : PySem.W.keepIn K (.ref f51) = true)
    (a52 : PySem.W.nsIn K mainGlobals "_law_p_plain" = some (some (.ref f52)))
    (l52 : K.lookup f52 = some ⟨ocf52, odf52, .func (PySem.W.fnOf "_law_p_plain" "_law_p_plain" (defArgs sPlain) (defBody sPlain) (defScope sPlain) .none kVf52 dcf52 pmf52 anf52 cdf52 ctf52), slf52⟩)
    (c52 : PySem.W.codeIn K cdf52 "_law_p_plain" = true)
    (k52 : PySem.W.keepIn K (.ref f52) = true)
    (a53 : PySem.W.nsIn K mainGlobals "_law_p_short" = some (some (.ref f53)))
    (l53 : K.lookup f53 = some ⟨ocf53, odf53, .func (PySem.W.fnOf "_law_p_short" "_law_p_short" (defArgs sShort) (defBody sShort) (defScope sShort) .none kVf53 dcf53 pmf53 anf53 cdf53 ctf53), slf53⟩)
    (c53 : PySem.W.codeIn K cdf53 "_law_p_short" = true)
    (k53 : PySem.W.keepIn K (.ref f53) = true)
    (a54 : PySem.W.nsIn K mainGlobals "_law_p_common" = some (some (.ref f54)))
    (l54 : K.lookup f54 = some ⟨ocf54, odf54, .func (PySem.W.fnOf "_law_p_common" "_law_p_common" (defArgs sCommon) (defBody sCommon) (defScope sCommon) .none kVf54 dcf54 pmf54 anf54 cdf54 ctf54), slf54⟩)
    (c54 : PySem.W.codeIn K cdf54 "_law_p_common" = true)
    (k54 : PySem.W.keepIn K (.ref f54) = true)
    (a55 : PySem.W.nsIn K mainGlobals "_law_p_simple" = some (some (.ref f55)))
    (l55 : K.lookup f55 = some ⟨ocf55, odf55, .func (PySem.W.fnOf "_law_p_simple" "_law_p_simple" (defArgs sSimple) (defBody sSimple) (defScope sSimple) .none kVf55 dcf55 pmf55 anf55 cdf55 ctf55), slf55⟩)
    (c55 : PySem.W.codeIn K cdf55 "_law_p_simple" = true)
    (k55 : PySem.W.keepIn K (.ref f55) = true)
    (a56 : PySem.W.nsIn K mainGlobals "_law_made_poly" = some (some (.ref f56)))
    (l56 : K.lookup f56 = some ⟨ocf56, odf56, .func (PySem.W.fnOf "_law_made_poly" "_law_made_poly" (defArgs sMade) (defBody sMade) (defScope sMade) .none kVf56 dcf56 pmf56 anf56 cdf56 ctf56), slf56⟩)
    (c56 : PySem.W.codeIn K cdf56 "_law_made_poly" = true)
    (k56 : PySem.W.keepIn K (.ref f56) = true)
    (a57 : PySem.W.nsIn K mainGlobals "_law_chain" = some (some (.ref f57)))
    (l57 : K.lookup f57 = some ⟨ocf57, odf57, .func (PySem.W.fnOf "_law_chain" "_law_chain" (defArgs sChain) (defBody sChain) (defScope sChain) .none kVf57 dcf57 pmf57 anf57 cdf57 ctf57), slf57⟩)
    (c57 : PySem.W.codeIn K cdf57 "_law_chain" = true)
    (k57 : PySem.W.keepIn K (.ref f57) = true)
    (a58 : PySem.W.nsIn K mainGlobals "_law_p_sign" = some (some (.ref f58)))
    (l58 : K.lookup f58 = some ⟨ocf58, odf58, .func (PySem.W.fnOf "_law_p_sign" "_law_p_sign" (defArgs sPSign) (defBody sPSign) (defScope sPSign) .none kVf58 dcf58 pmf58 anf58 cdf58 ctf58), slf58⟩)
    (c58 : PySem.W.codeIn K cdf58 "_law_p_sign" = true)
    (k58 : PySem.W.keepIn K (.ref f58) = true)
    (a59 : PySem.W.nsIn K mainGlobals "_law_changes" = some (some (.ref f59)))
    (l59 : K.lookup f59 = some ⟨ocf59, odf59, .func (PySem.W.fnOf "_law_changes" "_law_changes" (defArgs sChg) (defBody sChg) (defScope sChg) .none kVf59 dcf59 pmf59 anf59 cdf59 ctf59), slf59⟩)
    (c59 : PySem.W.codeIn K cdf59 "_law_changes" = true)
    (k59 : PySem.W.keepIn K (.ref f59) = true)
    (a60 : PySem.W.nsIn K mainGlobals "_law_count" = some (some (.ref f60)))
    (l60 : K.lookup f60 = some ⟨ocf60, odf60, .func (PySem.W.fnOf "_law_count" "_law_count" (defArgs sCount) (defBody sCount) (defScope sCount) .none kVf60 dcf60 pmf60 anf60 cdf60 ctf60), slf60⟩)
    (c60 : PySem.W.codeIn K cdf60 "_law_count" = true)
    (k60 : PySem.W.keepIn K (.ref f60) = true)
    (a61 : PySem.W.nsIn K mainGlobals "_law_cells" = some (some (.ref f61)))
    (l61 : K.lookup f61 = some ⟨ocf61, odf61, .func (PySem.W.fnOf "_law_cells" "_law_cells" (defArgs sCells) (defBody sCells) (defScope sCells) .none kVf61 dcf61 pmf61 anf61 cdf61 ctf61), slf61⟩)
    (c61 : PySem.W.codeIn K cdf61 "_law_cells" = true)
    (k61 : PySem.W.keepIn K (.ref f61) = true)
    (a62 : PySem.W.nsIn K mainGlobals "_law_below_at" = some (some (.ref f62)))
    (l62 : K.lookup f62 = some ⟨ocf62, odf62, .func (PySem.W.fnOf "_law_below_at" "_law_below_at" (defArgs sBelow) (defBody sBelow) (defScope sBelow) .none kVf62 dcf62 pmf62 anf62 cdf62 ctf62), slf62⟩)
    (c62 : PySem.W.codeIn K cdf62 "_law_below_at" = true)
    (k62 : PySem.W.keepIn K (.ref f62) = true)
    (a63 : PySem.W.nsIn K mainGlobals "_law_is_never_below" = some (some (.ref f63)))
    (l63 : K.lookup f63 = some ⟨ocf63, odf63, .func (PySem.W.fnOf "_law_is_never_below" "_law_is_never_below" (defArgs sNever) (defBody sNever) (defScope sNever) .none kVf63 dcf63 pmf63 anf63 cdf63 ctf63), slf63⟩)
    (c63 : PySem.W.codeIn K cdf63 "_law_is_never_below" = true)
    (k63 : PySem.W.keepIn K (.ref f63) = true)
    (a64 : PySem.W.nsIn K mainGlobals "_law_told_poly" = some (some (.ref f64)))
    (l64 : K.lookup f64 = some ⟨ocf64, odf64, .func (PySem.W.fnOf "_law_told_poly" "_law_told_poly" (defArgs sTP) (defBody sTP) (defScope sTP) .none kVf64 dcf64 pmf64 anf64 cdf64 ctf64), slf64⟩)
    (c64 : PySem.W.codeIn K cdf64 "_law_told_poly" = true)
    (k64 : PySem.W.keepIn K (.ref f64) = true)
    (a65 : PySem.W.nsIn K mainGlobals "_law_fault" = some (some (.ref f65)))
    (l65 : K.lookup f65 = some ⟨ocf65, odf65, .func (PySem.W.fnOf "_law_fault" "_law_fault" (defArgs sWhy) (defBody sWhy) (defScope sWhy) .none kVf65 dcf65 pmf65 anf65 cdf65 ctf65), slf65⟩)
    (c65 : PySem.W.codeIn K cdf65 "_law_fault" = true)
    (k65 : PySem.W.keepIn K (.ref f65) = true)
    (a66 : PySem.W.nsIn K mainGlobals "law" = some (some (.ref f66)))
    (l66 : K.lookup f66 = some ⟨ocf66, odf66, .func (PySem.W.fnOf "law" "law" (defArgs sLaw) (defBody sLaw) (defScope sLaw) .none kVf66 dcf66 pmf66 anf66 (.ref cL) ctf66), slf66⟩)
    (c66 : PySem.W.codeIn K (.ref cL) "law" = true)
    (k66 : PySem.W.keepIn K (.ref f66) = true)
    (tl : K.lookup cL = some ⟨eL, dL, .fields vL, sL⟩)
    (tv : vL[11]? = some (.ref Pt))
    (tn : K.lookup Pt = none)
    (tr : ((recsOf q).any fun e => e.name == Str.ofString "law") = true)
    (aggcd : PySem.W.nsIn K mainGlobals "gcd" = some (some (.builtin "math.gcd")))
    (aglcm : PySem.W.nsIn K mainGlobals "lcm" = some (some (.builtin "math.lcm")))
    (m0 : PySem.W.nsIn K mainGlobals "BadRow" = some (some (.ref C0)))
    (ei0 : PySem.W.findIn K (.ref C0) "__init__" = some (some (.ref i0)))
    (ti0 : PySem.W.typeIn K (.ref i0) = some (.type "function"))
    (li0 : K.lookup i0 = some ⟨oci0, odi0, .func (PySem.W.fnOf "__init__" "BadRow.__init__" (defArgs (inClass (topS 5) 0)) (defBody (inClass (topS 5) 0)) (defScope (inClass (topS 5) 0)) .none kVi0 dci0 pmi0 ani0 cdi0 cti0), sli0⟩)
    (ci0 : PySem.W.codeIn K cdi0 "BadRow.__init__" = true)
    (ki0 : PySem.W.keepIn K (.ref i0) = true)
    (lc0 : K.lookup C0 = some (excClassObj nm0 qn0 C0 N0 bs0 bm0 true sn0 sub0 ab0 col0 dd0 ka0 kb0 kc0 kd0 ke0 "ValueError.__new__"))
    (lb0 : PySem.HandSPX.refsVE bm0 = true)
    (big0 : (oexB K C0 && decide (PySem.W.findIn K (.ref C0) "row" = some none)) = true)
    (m1 : PySem.W.nsIn K mainGlobals "BadNumber" = some (some (.ref C1)))
    (ei1 : PySem.W.findIn K (.ref C1) "__init__" = some (some (.ref i1)))
    (ti1 : PySem.W.typeIn K (.ref i1) = some (.type "function"))
    (li1 : K.lookup i1 = some ⟨oci1, odi1, .func (PySem.W.fnOf "__init__" "BadNumber.__init__" (defArgs (inClass (topS 4) 0)) (defBody (inClass (topS 4) 0)) (defScope (inClass (topS 4) 0)) .none kVi1 dci1 pmi1 ani1 cdi1 cti1), sli1⟩)
    (ci1 : PySem.W.codeIn K cdi1 "BadNumber.__init__" = true)
    (ki1 : PySem.W.keepIn K (.ref i1) = true)
    (lc1 : K.lookup C1 = some (excClassObj nm1 qn1 C1 N1 bs1 bm1 true sn1 sub1 ab1 col1 dd1 ka1 kb1 kc1 kd1 ke1 "ValueError.__new__"))
    (lb1 : PySem.HandSPX.refsVE bm1 = true)
    (big1 : (oexB K C1 && decide (PySem.W.findIn K (.ref C1) "what" = some none) && decide (PySem.W.findIn K (.ref C1) "number" = some none)) = true)
    (m2 : PySem.W.nsIn K mainGlobals "BadInterval" = some (some (.ref C2)))
    (ei2 : PySem.W.findIn K (.ref C2) "__init__" = some (some (.ref i2)))
    (ti2 : PySem.W.typeIn K (.ref i2) = some (.type "function"))
    (li2 : K.lookup i2 = some ⟨oci2, odi2, .func (PySem.W.fnOf "__init__" "BadInterval.__init__" (defArgs (inClass (topS 6) 0)) (defBody (inClass (topS 6) 0)) (defScope (inClass (topS 6) 0)) .none kVi2 dci2 pmi2 ani2 cdi2 cti2), sli2⟩)
    (ci2 : PySem.W.codeIn K cdi2 "BadInterval.__init__" = true)
    (ki2 : PySem.W.keepIn K (.ref i2) = true)
    (lc2 : K.lookup C2 = some (excClassObj nm2 qn2 C2 N2 bs2 bm2 true sn2 sub2 ab2 col2 dd2 ka2 kb2 kc2 kd2 ke2 "ValueError.__new__"))
    (lb2 : PySem.HandSPX.refsVE bm2 = true)
    (big2 : (oexB K C2 && decide (PySem.W.findIn K (.ref C2) "low" = some none) && decide (PySem.W.findIn K (.ref C2) "high" = some none)) = true)
    (mcg : PySem.W.nsIn K mainGlobals "Poly" = some (some (.ref Cg)))
    (eg0 : PySem.W.findIn K (.ref Cg) "__init__" = some (some (.ref g0)))
    (tg0 : PySem.W.typeIn K (.ref g0) = some (.type "function"))
    (lg0 : K.lookup g0 = some ⟨ocg0, odg0, .func (PySem.W.fnOf "__init__" "Poly.__init__" (defArgs (inClass (topS 28) 0)) (defBody (inClass (topS 28) 0)) (defScope (inClass (topS 28) 0)) .none kVg0 dcg0 pmg0 ang0 cdg0 ctg0), slg0⟩)
    (cg0 : PySem.W.codeIn K cdg0 "Poly.__init__" = true)
    (kg0 : PySem.W.keepIn K (.ref g0) = true)
    (eg1 : PySem.W.findIn K (.ref Cg) "__eq__" = some (some (.ref g1)))
    (tg1 : PySem.W.typeIn K (.ref g1) = some (.type "function"))
    (lg1 : K.lookup g1 = some ⟨ocg1, odg1, .func (PySem.W.fnOf "__eq__" "Poly.__eq__" (defArgs (inClass (topS 28) 1)) (defBody (inClass (topS 28) 1)) (defScope (inClass (topS 28) 1)) .none kVg1 dcg1 pmg1 ang1 cdg1 ctg1), slg1⟩)
    (cg1 : PySem.W.codeIn K cdg1 "Poly.__eq__" = true)
    (kg1 : PySem.W.keepIn K (.ref g1) = true)
    (eg2 : PySem.W.findIn K (.ref Cg) "__sub__" = some (some (.ref g2)))
    (tg2 : PySem.W.typeIn K (.ref g2) = some (.type "function"))
    (lg2 : K.lookup g2 = some ⟨ocg2, odg2, .func (PySem.W.fnOf "__sub__" "Poly.__sub__" (defArgs (inClass (topS 28) 4)) (defBody (inClass (topS 28) 4)) (defScope (inClass (topS 28) 4)) .none kVg2 dcg2 pmg2 ang2 cdg2 ctg2), slg2⟩)
    (cg2 : PySem.W.codeIn K cdg2 "Poly.__sub__" = true)
    (kg2 : PySem.W.keepIn K (.ref g2) = true)
    (eg3 : PySem.W.findIn K (.ref Cg) "__rsub__" = some (some (.ref g3)))
    (tg3 : PySem.W.typeIn K (.ref g3) = some (.type "function"))
    (lg3 : K.lookup g3 = some ⟨ocg3, odg3, .func (PySem.W.fnOf "__rsub__" "Poly.__rsub__" (defArgs (inClass (topS 28) 5)) (defBody (inClass (topS 28) 5)) (defScope (inClass (topS 28) 5)) .none kVg3 dcg3 pmg3 ang3 cdg3 ctg3), slg3⟩)
    (cg3 : PySem.W.codeIn K cdg3 "Poly.__rsub__" = true)
    (kg3 : PySem.W.keepIn K (.ref g3) = true)
    (eg4 : PySem.W.findIn K (.ref Cg) "__mul__" = some (some (.ref g4)))
    (tg4 : PySem.W.typeIn K (.ref g4) = some (.type "function"))
    (lg4 : K.lookup g4 = some ⟨ocg4, odg4, .func (PySem.W.fnOf "__mul__" "Poly.__mul__" (defArgs (inClass (topS 28) 6)) (defBody (inClass (topS 28) 6)) (defScope (inClass (topS 28) 6)) .none kVg4 dcg4 pmg4 ang4 cdg4 ctg4), slg4⟩)
    (cg4 : PySem.W.codeIn K cdg4 "Poly.__mul__" = true)
    (kg4 : PySem.W.keepIn K (.ref g4) = true)
    (eg5 : PySem.W.findIn K (.ref Cg) "__rmul__" = some (some (.ref g5)))
    (tg5 : PySem.W.typeIn K (.ref g5) = some (.type "function"))
    (lg5 : K.lookup g5 = some ⟨ocg5, odg5, .func (PySem.W.fnOf "__rmul__" "Poly.__rmul__" (defArgs (inClass (topS 28) 7)) (defBody (inClass (topS 28) 7)) (defScope (inClass (topS 28) 7)) .none kVg5 dcg5 pmg5 ang5 cdg5 ctg5), slg5⟩)
    (cg5 : PySem.W.codeIn K cdg5 "Poly.__rmul__" = true)
    (kg5 : PySem.W.keepIn K (.ref g5) = true)
    (eg6 : PySem.W.findIn K (.ref Cg) "degree" = some (some (.ref g6)))
    (tg6 : PySem.W.typeIn K (.ref g6) = some (.type "function"))
    (lg6 : K.lookup g6 = some ⟨ocg6, odg6, .func (PySem.W.fnOf "degree" "Poly.degree" (defArgs (inClass (topS 28) 9)) (defBody (inClass (topS 28) 9)) (defScope (inClass (topS 28) 9)) .none kVg6 dcg6 pmg6 ang6 cdg6 ctg6), slg6⟩)
    (cg6 : PySem.W.codeIn K cdg6 "Poly.degree" = true)
    (kg6 : PySem.W.keepIn K (.ref g6) = true)
    (eg7 : PySem.W.findIn K (.ref Cg) "lead" = some (some (.ref g7)))
    (tg7 : PySem.W.typeIn K (.ref g7) = some (.type "function"))
    (lg7 : K.lookup g7 = some ⟨ocg7, odg7, .func (PySem.W.fnOf "lead" "Poly.lead" (defArgs (inClass (topS 28) 10)) (defBody (inClass (topS 28) 10)) (defScope (inClass (topS 28) 10)) .none kVg7 dcg7 pmg7 ang7 cdg7 ctg7), slg7⟩)
    (cg7 : PySem.W.codeIn K cdg7 "Poly.lead" = true)
    (kg7 : PySem.W.keepIn K (.ref g7) = true)
    (eg8 : PySem.W.findIn K (.ref Cg) "moved" = some (some (.ref g8)))
    (tg8 : PySem.W.typeIn K (.ref g8) = some (.type "function"))
    (lg8 : K.lookup g8 = some ⟨ocg8, odg8, .func (PySem.W.fnOf "moved" "Poly.moved" (defArgs (inClass (topS 28) 13)) (defBody (inClass (topS 28) 13)) (defScope (inClass (topS 28) 13)) .none kVg8 dcg8 pmg8 ang8 cdg8 ctg8), slg8⟩)
    (cg8 : PySem.W.codeIn K cdg8 "Poly.moved" = true)
    (kg8 : PySem.W.keepIn K (.ref g8) = true)
    (mcn : PySem.W.nsIn K mainGlobals "Nearer" = some (some (.ref Cn)))
    (en0 : PySem.W.findIn K (.ref Cn) "__init__" = some (some (.ref n0)))
    (tn0 : PySem.W.typeIn K (.ref n0) = some (.type "function"))
    (ln0 : K.lookup n0 = some ⟨ocn0, odn0, .func (PySem.W.fnOf "__init__" "Nearer.__init__" (defArgs (inClass (topS 41) 0)) (defBody (inClass (topS 41) 0)) (defScope (inClass (topS 41) 0)) .none kVn0 dcn0 pmn0 ann0 cdn0 ctn0), sln0⟩)
    (cn0 : PySem.W.codeIn K cdn0 "Nearer.__init__" = true)
    (kn0 : PySem.W.keepIn K (.ref n0) = true)
    (zint : PySem.W.nsIn K mainGlobals "int" = some none)
    (zlist : PySem.W.nsIn K mainGlobals "list" = some none)
    (zlen : PySem.W.nsIn K mainGlobals "len" = some none)
    (zrange : PySem.W.nsIn K mainGlobals "range" = some none)
    (zstr : PySem.W.nsIn K mainGlobals "str" = some none)
    (zisinstance : PySem.W.nsIn K mainGlobals "isinstance" = some none)
    (zbool : PySem.W.nsIn K mainGlobals "bool" = some none)
    (ztuple : PySem.W.nsIn K mainGlobals "tuple" = some none)
    (zabs : PySem.W.nsIn K mainGlobals "abs" = some none)
    (zall : PySem.W.nsIn K mainGlobals "all" = some none)
    (zmax : PySem.W.nsIn K mainGlobals "max" = some none)
    (zmin : PySem.W.nsIn K mainGlobals "min" = some none)
    (zsum : PySem.W.nsIn K mainGlobals "sum" = some none)
    (zzip : PySem.W.nsIn K mainGlobals "zip" = some none)
    (bx0 : xfB K C0 = true)
    (bx1 : xfB K C1 = true)
    (bx2 : xfB K C2 = true)
    (x10 : PySem.W.exmOne K (.ref C1) (.ref C0) = some false)
    (x11 : PySem.W.exmOne K (.ref C1) (.ref C1) = some true)
    (x20 : PySem.W.exmOne K (.ref C2) (.ref C0) = some false)
    (x21 : PySem.W.exmOne K (.ref C2) (.ref C1) = some false)
    (x22 : PySem.W.exmOne K (.ref C2) (.ref C2) = some true)
    (bign : insB K Cn ["poly", "error"] = true)
    (bigS : posB K Cg = true)
    (bigE : (decide (PySem.W.findIn K (.ref Cn) "__class__" = some (some (.builtin "object.__class__"))) && (decide (PySem.W.specialIn K (.builtin "object.__class__") "__get__" = some (some (.builtin "getset_descriptor.__get__"))) && (decide (PySem.W.takesIn K (.builtin "object.__class__") = some true) && (decide (PySem.W.mroIn K Cn (.type "object") = some true) && decide (PySem.W.kitOne K (.ref Cg) (.type "list") = some false))))) = true)
    (bigP : polyB K Cg = true) :
    LawG l w K CX0 14 63 "_law_script" mg fa h := by
  have e := hfa.symm.trans (PySem.W.mg_of X G a66)
  cases e
  have mgo : ∀ {x : Str} {a : Value}, PySem.W.nsIn K mainGlobals x = some (some a) → mg x = some a := fun z => PySem.W.mg_of X G z
  have mgn : ∀ {x : Str}, PySem.W.nsIn K mainGlobals x = some none → mg x = none := fun z => PySem.W.mg_none_of X G z
  have tb := TB "law" _ cL Pt _ _ _ _ _ _ tr (mgo a66) l66 rfl rfl tl tv
  have F0 := fun_mk (st := sPen) l0 c0 k0
  have F1 := fun_mk (st := sDraw) l1 c1 k1
  have F2 := fun_mk (st := sPick) l2 c2 k2
  have F3 := fun_mk (st := sIsWhole) l3 c3 k3
  have F4 := fun_mk (st := sIsRatio) l4 c4 k4
  have F5 := fun_mk (st := sIsRow) l5 c5 k5
  have F6 := fun_mk (st := sLowest) l6 c6 k6
  have F7 := fun_mk (st := sParts) l7 c7 k7
  have F8 := fun_mk (st := sTold) l8 c8 k8
  have F9 := fun_mk (st := sPlus) l9 c9 k9
  have F10 := fun_mk (st := sMinus) l10 c10 k10
  have F11 := fun_mk (st := sTimes) l11 c11 k11
  have F12 := fun_mk (st := sShare) l12 c12 k12
  have F13 := fun_mk (st := sLower) l13 c13 k13
  have F14 := fun_mk (st := sHeld) l14 c14 k14
  have F15 := fun_mk (st := sNeedI) l15 c15 k15
  have F16 := fun_mk (st := sPRow) l16 c16 k16
  have F17 := fun_mk (st := sPN) l17 c17 k17
  have F18 := fun_mk (st := sAsP) l18 c18 k18
  have F19 := fun_mk (st := sNumOf) l19 c19 k19
  have F20 := fun_mk (st := sSums) l20 c20 k20
  have F21 := fun_mk (st := sOpp) l21 c21 k21
  have F22 := fun_mk (st := sProds) l22 c22 k22
  have F23 := fun_mk (st := sOver) l23 c23 k23
  have F24 := fun_mk (st := sPOv) l24 c24 k24
  have F25 := fun_mk (st := sPow) l25 c25 k25
  have F26 := fun_mk (st := sSize) l26 c26 k26
  have F27 := fun_mk (st := sOneL) l27 c27 k27
  have F28 := fun_mk (st := sTurn) l28 c28 k28
  have F29 := fun_mk (st := sLWhole) l29 c29 k29
  have F30 := fun_mk (st := sLGcd) l30 c30 k30
  have F31 := fun_mk (st := sLQ) l31 c31 k31
  have F32 := fun_mk (st := sLPlus) l32 c32 k32
  have F33 := fun_mk (st := sLMinus) l33 c33 k33
  have F34 := fun_mk (st := sLTimes) l34 c34 k34
  have F35 := fun_mk (st := sLShare) l35 c35 k35
  have F36 := fun_mk (st := sLLess) l36 c36 k36
  have F37 := fun_mk (st := sLIsRatio) l37 c37 k37
  have F38 := fun_mk (st := sPassed) l38 c38 k38
  have F39 := fun_mk (st := sLRatio) l39 c39 k39
  have F40 := fun_mk (st := sIv) l40 c40 k40
  have F41 := fun_mk (st := sLMid) l41 c41 k41
  have F42 := fun_mk (st := sLMin) l42 c42 k42
  have F43 := fun_mk (st := sSort) l43 c43 k43
  have F44 := fun_mk (st := sLPoly) l44 c44 k44
  have F45 := fun_mk (st := sLPPlus) l45 c45 k45
  have F46 := fun_mk (st := sLPScaled) l46 c46 k46
  have F47 := fun_mk (st := sLPMinus) l47 c47 k47
  have F48 := fun_mk (st := sLPTimes) l48 c48 k48
  have F49 := fun_mk (st := sLPAt) l49 c49 k49
  have F50 := fun_mk (st := sLPSlope) l50 c50 k50
  have F51 := fun_mk (st := sDiv) l51 c51 k51
  have F52 := fun_mk (st := sPlain) l52 c52 k52
  have F53 := fun_mk (st := sShort) l53 c53 k53
  have F54 := fun_mk (st := sCommon) l54 c54 k54
  have F55 := fun_mk (st := sSimple) l55 c55 k55
  have F56 := fun_mk (st := sMade) l56 c56 k56
  have F57 := fun_mk (st := sChain) l57 c57 k57
  have F58 := fun_mk (st := sPSign) l58 c58 k58
  have F59 := fun_mk (st := sChg) l59 c59 k59
  have F60 := fun_mk (st := sCount) l60 c60 k60
  have F61 := fun_mk (st := sCells) l61 c61 k61
  have F62 := fun_mk (st := sBelow) l62 c62 k62
  have F63 := fun_mk (st := sNever) l63 c63 k63
  have F64 := fun_mk (st := sTP) l64 c64 k64
  have F65 := fun_mk (st := sWhy) l65 c65 k65
  have F66 := fun_mk (st := sLaw) l66 c66 k66
  have b0 := F0.binds (ps := ["_law_script"]) fun _ _ _ _ _ _ us hl => match us, hl with | [_], _ => rfl
  have b1 := F1.binds (ps := ["_law_pen_here", "_law_many"]) fun _ _ _ _ _ _ us hl => match us, hl with | [_, _], _ => rfl
  have b2 := F2.binds (ps := ["_law_pen_here", "_law_some"]) fun _ _ _ _ _ _ us hl => match us, hl with | [_, _], _ => rfl
  have b3 := F3.binds (ps := ["value"]) fun _ _ _ _ _ _ us hl => match us, hl with | [_], _ => rfl
  have b4 := F4.binds (ps := ["value"]) fun _ _ _ _ _ _ us hl => match us, hl with | [_], _ => rfl
  have b5 := F5.binds (ps := ["value"]) fun _ _ _ _ _ _ us hl => match us, hl with | [_], _ => rfl
  have b6 := F6.binds (ps := ["top", "bottom"]) fun _ _ _ _ _ _ us hl => match us, hl with | [_, _], _ => rfl
  have b7 := F7.binds (ps := ["value", "what"]) fun _ _ _ _ _ _ us hl => match us, hl with | [_, _], _ => rfl
  have b8 := F8.binds (ps := ["value", "what"]) fun _ _ _ _ _ _ us hl => match us, hl with | [_, _], _ => rfl
  have b9 := F9.binds (ps := ["one", "other"]) fun _ _ _ _ _ _ us hl => match us, hl with | [_, _], _ => rfl
  have b10 := F10.binds (ps := ["one", "other"]) fun _ _ _ _ _ _ us hl => match us, hl with | [_, _], _ => rfl
  have b11 := F11.binds (ps := ["one", "other"]) fun _ _ _ _ _ _ us hl => match us, hl with | [_, _], _ => rfl
  have b12 := F12.binds (ps := ["one", "other"]) fun _ _ _ _ _ _ us hl => match us, hl with | [_, _], _ => rfl
  have b13 := F13.binds (ps := ["one", "other"]) fun _ _ _ _ _ _ us hl => match us, hl with | [_, _], _ => rfl
  have b14 := F14.binds (ps := ["value"]) fun _ _ _ _ _ _ us hl => match us, hl with | [_], _ => rfl
  have b15 := F15.binds (ps := ["low", "high"]) fun _ _ _ _ _ _ us hl => match us, hl with | [_, _], _ => rfl
  have b16 := F16.binds (ps := ["one", "other"]) fun _ _ _ _ _ _ us hl => match us, hl with | [_, _], _ => rfl
  have b17 := F17.binds (ps := ["one", "other", "power"]) fun _ _ _ _ _ _ us hl => match us, hl with | [_, _, _], _ => rfl
  have b18 := F18.binds (ps := ["value"]) fun _ _ _ _ _ _ us hl => match us, hl with | [_], _ => rfl
  have b19 := F19.binds (ps := ["numbers", "power"]) fun _ _ _ _ _ _ us hl => match us, hl with | [_, _], _ => rfl
  have b20 := F20.binds (ps := ["one", "other"]) fun _ _ _ _ _ _ us hl => match us, hl with | [_, _], _ => rfl
  have b21 := F21.binds (ps := ["numbers"]) fun _ _ _ _ _ _ us hl => match us, hl with | [_], _ => rfl
  have b22 := F22.binds (ps := ["one", "other"]) fun _ _ _ _ _ _ us hl => match us, hl with | [_, _], _ => rfl
  have b23 := F23.binds (ps := ["numbers"]) fun _ _ _ _ _ _ us hl => match us, hl with | [_], _ => rfl
  have b24 := F24.binds (ps := ["row", "bottom"]) fun _ _ _ _ _ _ us hl => match us, hl with | [_, _], _ => rfl
  have b25 := F25.binds (ps := ["ratio", "many"]) fun _ _ _ _ _ _ us hl => match us, hl with | [_, _], _ => rfl
  have b26 := F26.binds (ps := ["ratio"]) fun _ _ _ _ _ _ us hl => match us, hl with | [_], _ => rfl
  have b27 := F27.binds (ps := ["poly", "low", "high"]) fun _ _ _ _ _ _ us hl => match us, hl with | [_, _, _], _ => rfl
  have b28 := F28.binds (ps := ["degree"]) fun _ _ _ _ _ _ us hl => match us, hl with | [_], _ => rfl
  have b29 := F29.binds (ps := ["_law_thing"]) fun _ _ _ _ _ _ us hl => match us, hl with | [_], _ => rfl
  have b30 := F30.binds (ps := ["_law_one", "_law_two"]) fun _ _ _ _ _ _ us hl => match us, hl with | [_, _], _ => rfl
  have b31 := F31.binds (ps := ["_law_top", "_law_bottom"]) fun _ _ _ _ _ _ us hl => match us, hl with | [_, _], _ => rfl
  have b32 := F32.binds (ps := ["_law_one", "_law_two"]) fun _ _ _ _ _ _ us hl => match us, hl with | [_, _], _ => rfl
  have b33 := F33.binds (ps := ["_law_one", "_law_two"]) fun _ _ _ _ _ _ us hl => match us, hl with | [_, _], _ => rfl
  have b34 := F34.binds (ps := ["_law_one", "_law_two"]) fun _ _ _ _ _ _ us hl => match us, hl with | [_, _], _ => rfl
  have b35 := F35.binds (ps := ["_law_one", "_law_two"]) fun _ _ _ _ _ _ us hl => match us, hl with | [_, _], _ => rfl
  have b36 := F36.binds (ps := ["_law_one", "_law_two"]) fun _ _ _ _ _ _ us hl => match us, hl with | [_, _], _ => rfl
  have b37 := F37.binds (ps := ["_law_thing"]) fun _ _ _ _ _ _ us hl => match us, hl with | [_], _ => rfl
  have b38 := F38.binds (ps := ["_law_pen_here", "_law_ratio_here"]) fun _ _ _ _ _ _ us hl => match us, hl with | [_, _], _ => rfl
  have b39 := F39.binds (ps := ["_law_pen_here", "_law_most"]) fun _ _ _ _ _ _ us hl => match us, hl with | [_, _], _ => rfl
  have b40 := F40.binds (ps := ["_law_pen_here", "_law_most"]) fun _ _ _ _ _ _ us hl => match us, hl with | [_, _], _ => rfl
  have b41 := F41.binds (ps := ["_law_one", "_law_two"]) fun _ _ _ _ _ _ us hl => match us, hl with | [_, _], _ => rfl
  have b42 := F42.binds (ps := ["_law_some"]) fun _ _ _ _ _ _ us hl => match us, hl with | [_], _ => rfl
  have b43 := F43.binds (ps := ["_law_some"]) fun _ _ _ _ _ _ us hl => match us, hl with | [_], _ => rfl
  have b44 := F44.binds (ps := ["_law_numbers"]) fun _ _ _ _ _ _ us hl => match us, hl with | [_], _ => rfl
  have b45 := F45.binds (ps := ["_law_one", "_law_two"]) fun _ _ _ _ _ _ us hl => match us, hl with | [_, _], _ => rfl
  have b46 := F46.binds (ps := ["_law_one", "_law_by"]) fun _ _ _ _ _ _ us hl => match us, hl with | [_, _], _ => rfl
  have b47 := F47.binds (ps := ["_law_one", "_law_two"]) fun _ _ _ _ _ _ us hl => match us, hl with | [_, _], _ => rfl
  have b48 := F48.binds (ps := ["_law_one", "_law_two"]) fun _ _ _ _ _ _ us hl => match us, hl with | [_, _], _ => rfl
  have b49 := F49.binds (ps := ["_law_one", "_law_point"]) fun _ _ _ _ _ _ us hl => match us, hl with | [_, _], _ => rfl
  have b50 := F50.binds (ps := ["_law_one"]) fun _ _ _ _ _ _ us hl => match us, hl with | [_], _ => rfl
  have b51 := F51.binds (ps := ["_law_one", "_law_two"]) fun _ _ _ _ _ _ us hl => match us, hl with | [_, _], _ => rfl
  have b52 := F52.binds (ps := ["_law_one"]) fun _ _ _ _ _ _ us hl => match us, hl with | [_], _ => rfl
  have b53 := F53.binds (ps := ["_law_one"]) fun _ _ _ _ _ _ us hl => match us, hl with | [_], _ => rfl
  have b54 := F54.binds (ps := ["_law_one", "_law_two"]) fun _ _ _ _ _ _ us hl => match us, hl with | [_, _], _ => rfl
  have b55 := F55.binds (ps := ["_law_one"]) fun _ _ _ _ _ _ us hl => match us, hl with | [_], _ => rfl
  have b56 := F56.binds (ps := ["_law_pen_here", "_law_one"]) fun _ _ _ _ _ _ us hl => match us, hl with | [_, _], _ => rfl
  have b57 := F57.binds (ps := ["_law_one"]) fun _ _ _ _ _ _ us hl => match us, hl with | [_], _ => rfl
  have b58 := F58.binds (ps := ["_law_one", "_law_point"]) fun _ _ _ _ _ _ us hl => match us, hl with | [_, _], _ => rfl
  have b59 := F59.binds (ps := ["_law_row", "_law_point"]) fun _ _ _ _ _ _ us hl => match us, hl with | [_, _], _ => rfl
  have b60 := F60.binds (ps := ["_law_one", "_law_low", "_law_high"]) fun _ _ _ _ _ _ us hl => match us, hl with | [_, _, _], _ => rfl
  have b61 := F61.binds (ps := ["_law_one", "_law_low", "_law_high"]) fun _ _ _ _ _ _ us hl => match us, hl with | [_, _, _], _ => rfl
  have b62 := F62.binds (ps := ["_law_one", "_law_low", "_law_high"]) fun _ _ _ _ _ _ us hl => match us, hl with | [_, _, _], _ => rfl
  have b63 := F63.binds (ps := ["_law_one", "_law_low", "_law_high"]) fun _ _ _ _ _ _ us hl => match us, hl with | [_, _, _], _ => rfl
  have b64 := F64.binds (ps := ["_law_value", "_law_powers"]) fun _ _ _ _ _ _ us hl => match us, hl with | [_, _], _ => rfl
  have b65 := F65.binds (ps := ["_law_call"]) fun _ _ _ _ _ _ us hl => match us, hl with | [_], _ => rfl
  have FI0 := fun_mk (st := inClass (topS 5) 0) li0 ci0 ki0
  have bI0 := FI0.binds (ps := ["self", "row"]) fun _ _ _ _ _ _ us hl => match us, hl with | [_, _], _ => rfl
  have oo0 : OexC K C0 := oexB_ok ((Bool.and_eq_true_iff.mp (big0)).1) ⟨nm0, qn0, N0, bs0, bm0, sn0, sub0, ab0, col0, dd0, ka0, kb0, kc0, kd0, ke0, lc0, lb0⟩
  have no0_0 := (of_decide_eq_true (Bool.and_eq_true_iff.mp (big0)).2 : PySem.W.findIn K (.ref C0) "row" = some none)
  have FI1 := fun_mk (st := inClass (topS 4) 0) li1 ci1 ki1
  have bI1 := FI1.binds (ps := ["self", "what", "number"]) fun _ _ _ _ _ _ us hl => match us, hl with | [_, _, _], _ => rfl
  have oo1 : OexC K C1 := oexB_ok ((Bool.and_eq_true_iff.mp ((Bool.and_eq_true_iff.mp (big1)).1)).1) ⟨nm1, qn1, N1, bs1, bm1, sn1, sub1, ab1, col1, dd1, ka1, kb1, kc1, kd1, ke1, lc1, lb1⟩
  have no1_0 := (of_decide_eq_true (Bool.and_eq_true_iff.mp ((Bool.and_eq_true_iff.mp (big1)).1)).2 : PySem.W.findIn K (.ref C1) "what" = some none)
  have no1_1 := (of_decide_eq_true (Bool.and_eq_true_iff.mp (big1)).2 : PySem.W.findIn K (.ref C1) "number" = some none)
  have FI2 := fun_mk (st := inClass (topS 6) 0) li2 ci2 ki2
  have bI2 := FI2.binds (ps := ["self", "low", "high"]) fun _ _ _ _ _ _ us hl => match us, hl with | [_, _, _], _ => rfl
  have oo2 : OexC K C2 := oexB_ok ((Bool.and_eq_true_iff.mp ((Bool.and_eq_true_iff.mp (big2)).1)).1) ⟨nm2, qn2, N2, bs2, bm2, sn2, sub2, ab2, col2, dd2, ka2, kb2, kc2, kd2, ke2, lc2, lb2⟩
  have no2_0 := (of_decide_eq_true (Bool.and_eq_true_iff.mp ((Bool.and_eq_true_iff.mp (big2)).1)).2 : PySem.W.findIn K (.ref C2) "low" = some none)
  have no2_1 := (of_decide_eq_true (Bool.and_eq_true_iff.mp (big2)).2 : PySem.W.findIn K (.ref C2) "high" = some none)
  obtain ⟨PC, PMk, PKp⟩ := polyC (mg := mg) (mgo mcg) bigP
  have Fg0 := fun_mk (st := inClass (topS 28) 0) lg0 cg0 kg0
  have bg0 := Fg0.binds (ps := ["self", "numbers"]) fun _ _ _ _ _ _ us hl => match us, hl with | [_, _], _ => rfl
  have Fg1 := fun_mk (st := inClass (topS 28) 1) lg1 cg1 kg1
  have bg1 := Fg1.binds (ps := ["self", "other"]) fun _ _ _ _ _ _ us hl => match us, hl with | [_, _], _ => rfl
  have Fg2 := fun_mk (st := inClass (topS 28) 4) lg2 cg2 kg2
  have bg2 := Fg2.binds (ps := ["self", "other"]) fun _ _ _ _ _ _ us hl => match us, hl with | [_, _], _ => rfl
  have Fg3 := fun_mk (st := inClass (topS 28) 5) lg3 cg3 kg3
  have bg3 := Fg3.binds (ps := ["self", "other"]) fun _ _ _ _ _ _ us hl => match us, hl with | [_, _], _ => rfl
  have Fg4 := fun_mk (st := inClass (topS 28) 6) lg4 cg4 kg4
  have bg4 := Fg4.binds (ps := ["self", "other"]) fun _ _ _ _ _ _ us hl => match us, hl with | [_, _], _ => rfl
  have Fg5 := fun_mk (st := inClass (topS 28) 7) lg5 cg5 kg5
  have bg5 := Fg5.binds (ps := ["self", "other"]) fun _ _ _ _ _ _ us hl => match us, hl with | [_, _], _ => rfl
  have Fg6 := fun_mk (st := inClass (topS 28) 9) lg6 cg6 kg6
  have bg6 := Fg6.binds (ps := ["self"]) fun _ _ _ _ _ _ us hl => match us, hl with | [_], _ => rfl
  have Fg7 := fun_mk (st := inClass (topS 28) 10) lg7 cg7 kg7
  have bg7 := Fg7.binds (ps := ["self"]) fun _ _ _ _ _ _ us hl => match us, hl with | [_], _ => rfl
  have Fg8 := fun_mk (st := inClass (topS 28) 13) lg8 cg8 kg8
  have bg8 := Fg8.binds (ps := ["self", "start", "step"]) fun _ _ _ _ _ _ us hl => match us, hl with | [_, _, _], _ => rfl
  have Fn0 := fun_mk (st := inClass (topS 41) 0) ln0 cn0 kn0
  have bn0 := Fn0.binds (ps := ["self", "poly", "error"]) fun _ _ _ _ _ _ us hl => match us, hl with | [_, _, _], _ => rfl
  have B : Bi mg := { int := mgn zint, list := mgn zlist, len := mgn zlen, range := mgn zrange }
  have T : Bk mg := { toBi := B, isinstance := mgn zisinstance, bool := mgn zbool, tuple := mgn ztuple, abs := mgn zabs, str := mgn zstr, gcd := mgo aggcd }
  have bl : ∀ (s : Shared) (u : Value), BindsTo s (PySem.W.fnOf "law" "law" (defArgs sLaw) (defBody sLaw) (defScope sLaw) .none kVf66 dcf66 pmf66 anf66 (.ref cL) ctf66) ⟨[u], []⟩ [("_law_script", u)] := fun s u => .of_eq rfl
  refine ⟨_, [(cL, Pt)], spLaw K Pt, (fun p hp => by rw [List.mem_singleton.mp hp]; exact tb.2), (fun p hp => by rw [List.mem_singleton.mp hp]; exact tn), (fun p hp => by rw [List.mem_singleton.mp hp]; exact tb.1), (fun s u => bl s u), (fun H a ns hl _ hT hS => ⟨a, ns, rfl, hS, hl, hT _ (List.mem_singleton.mpr rfl), fun _ => rfl⟩), fun b _ _ mm1 hTB => ?_⟩
  have hTb : LamX.TabB b mg cL Pt := hTB _ (List.mem_singleton.mpr rfl)
  let NBadRow : Ex l.prog w K mg b "BadRow" C0 ["row"] := ⟨oo0, i0, _, mgo m0, ei0, ti0, bI0, iniBadRow FI0 oo0 no0_0⟩
  let NBadNumber : Ex l.prog w K mg b "BadNumber" C1 ["what", "number"] := ⟨oo1, i1, _, mgo m1, ei1, ti1, bI1, iniBadNumber FI1 oo1 no1_0 no1_1⟩
  let NBadInterval : Ex l.prog w K mg b "BadInterval" C2 ["low", "high"] := ⟨oo2, i2, _, mgo m2, ei2, ti2, bI2, iniBadInterval FI2 oo2 no2_0 no2_1⟩
  let G_law_draw : Df l.prog w K mg b "_law_draw" 1 ["_law_pen_here", "_law_many"] spDraw := ⟨f1, _, mgo a1, k1, b1, ok_draw F1 B⟩
  let G_law_pick : Df l.prog w K mg b "_law_pick" 2 ["_law_pen_here", "_law_some"] spPick := ⟨f2, _, mgo a2, k2, b2, ok_pick F2 B G_law_draw⟩
  let G_law_pen : Df l.prog w K mg b "_law_pen" 1 ["_law_script"] (spPen K) := ⟨f0, _, mgo a0, k0, b0, ok_pen F0 B⟩
  let Gis_whole : Df l.prog w K mg b "is_whole" 1 ["value"] (spWhole K) := ⟨f3, _, mgo a3, k3, b3, ok_is_whole F3 T⟩
  let Gis_ratio : Df l.prog w K mg b "is_ratio" 2 ["value"] (spIsRatio K) := ⟨f4, _, mgo a4, k4, b4, ok_is_ratio F4 T Gis_whole⟩
  let Gis_ratio_row : Df l.prog w K mg b "is_ratio_row" 3 ["value"] (spIsRow K) := ⟨f5, _, mgo a5, k5, b5, ok_is_row F5 T (mgn zall) Gis_ratio⟩
  let Glowest : Df l.prog w K mg b "lowest" 1 ["top", "bottom"] spLow := ⟨f6, _, mgo a6, k6, b6, ok_lowest F6 T⟩
  let Gparts_of : Dx l.prog w K mg b "parts_of" 3 ["value", "what"] (spParts K C1) := ⟨f7, _, mgo a7, k7, b7, ok_parts F7 T Gis_ratio NBadNumber⟩
  let Gtold : Dx l.prog w K mg b "told" 4 ["value", "what"] (spTold K C1) := ⟨f8, _, mgo a8, k8, b8, ok_told F8 Gparts_of Glowest⟩
  let Gplus : Dx l.prog w K mg b "plus" 4 ["one", "other"] (spTwo K C1 (okLow gPlus)) := ⟨f9, _, mgo a9, k9, b9, ok_plus F9 Gparts_of Glowest NBadNumber⟩
  let Gminus : Dx l.prog w K mg b "minus" 4 ["one", "other"] (spTwo K C1 (okLow gMinus)) := ⟨f10, _, mgo a10, k10, b10, ok_minus F10 Gparts_of Glowest NBadNumber⟩
  let Gtimes : Dx l.prog w K mg b "times" 4 ["one", "other"] (spTwo K C1 (okLow gTimes)) := ⟨f11, _, mgo a11, k11, b11, ok_times F11 Gparts_of Glowest NBadNumber⟩
  let Gshare : Dx l.prog w K mg b "share" 4 ["one", "other"] (spTwo K C1 (okShare C1)) := ⟨f12, _, mgo a12, k12, b12, ok_share F12 Gparts_of Glowest NBadNumber⟩
  let Glower : Dx l.prog w K mg b "lower" 4 ["one", "other"] (spTwo K C1 okLower) := ⟨f13, _, mgo a13, k13, b13, ok_lower F13 Gparts_of Glowest NBadNumber⟩
  let PM : PoM l.prog w K mg b Cg C0 := ⟨PC, g0, _, ⟨PMk, eg0, fn_of_ty tg0, PKp⟩, bg0, ok_poly_init Fg0 T PC NBadRow Gis_ratio_row Gtold, g1, _, eg1, fn_of_ty tg1, bg1, ok_poly_eq Fg1 T mm1 PC⟩
  let Gproduct_number : Df l.prog w K mg b "product_number" 1 ["one", "other", "power"] spPN := ⟨f17, _, mgo a17, k17, b17, ok_pn F17 T (mgn zmax) (mgn zmin) (mgn zsum)⟩
  let Gproduct_row : Df l.prog w K mg b "product_row" 2 ["one", "other"] (spPRow K) := ⟨f16, _, mgo a16, k16, b16, ok_prow F16 T Gproduct_number⟩
  let Gas_poly : Dx l.prog w K mg b "as_poly" 7 ["value"] (spAsP K Cg) := ⟨f18, _, mgo a18, k18, b18, ok_asp F18 T PM Gis_ratio⟩
  let Gnumber_of : Df l.prog w K mg b "number_of" 1 ["numbers", "power"] (spNumOf K) := ⟨f19, _, mgo a19, k19, b19, ok_num_of F19 T⟩
  let Gsums_of : Dx l.prog w K mg b "sums_of" 5 ["one", "other"] (spSums K) := ⟨f20, _, mgo a20, k20, b20, ok_sums F20 T (mgn zmax) Gnumber_of Gplus⟩
  let Gopposites_of : Df l.prog w K mg b "opposites_of" 1 ["numbers"] (spOpp K) := ⟨f21, _, mgo a21, k21, b21, ok_opp F21⟩
  let Gover_one_bottom : Df l.prog w K mg b "over_one_bottom" 1 ["numbers"] (spOver K) := ⟨f23, _, mgo a23, k23, b23, ok_over F23 (mgo aglcm)⟩
  let Gover2 : Df l.prog w K mg b "over_one_bottom" 1 ["numbers"] (spOver2 K) := ⟨f23, _, mgo a23, k23, b23, ok_over2 F23 (mgo aglcm)⟩
  let Gproducts_of : Df l.prog w K mg b "products_of" 3 ["one", "other"] (spProds2 K) := ⟨f22, _, mgo a22, k22, b22, ok_prods2 F22 Gover2 Gproduct_row⟩
  let Gpoly_over : Dx l.prog w K mg b "poly_over" 7 ["row", "bottom"] (spPOv K Cg) := ⟨f24, _, mgo a24, k24, b24, ok_pov F24 PM⟩
  let MS : OpW l.prog w K mg b Cg "sub" (spSubW K Cg) := ⟨g2, g3, _, by rw [dun_sub]; exact eg2, by rw [dunR_sub]; exact eg3, fn_of_ty tg2, bg2, ok_psub Fg2 T PM Gas_poly Gsums_of Gopposites_of⟩
  let MM : OpW l.prog w K mg b Cg "mul" (spMulW K Cg) := ⟨g4, g5, _, by rw [dun_mul]; exact eg4, by rw [dunR_mul]; exact eg5, fn_of_ty tg4, bg4, ok_pmul Fg4 T PM Gas_poly Gproducts_of⟩
  let M_degree : Me l.prog w K mg b Cg "degree" 1 ["self"] (spPolyD K Cg) := ⟨g6, _, ⟨eg6, fn_of_ty tg6, kg6⟩, bg6, ok_poly_degree Fg6 T PC⟩
  let M_lead : Me l.prog w K mg b Cg "lead" 1 ["self"] (spPolyL K Cg) := ⟨g7, _, ⟨eg7, fn_of_ty tg7, kg7⟩, bg7, ok_poly_lead Fg7 PC⟩
  let M_moved : MeX l.prog w K mg b Cg "moved" 8 ["self", "start", "step"] (spMoved K Cg C1) := ⟨g8, _, ⟨eg8, fn_of_ty tg8, kg8⟩, bg8, ok_moved Fg8 PC (mgo aglcm) Gtold Gover_one_bottom Gproduct_row Gpoly_over⟩
  have PS := posC bigS
  let Gheld : Df l.prog w K mg b "held" 1 ["value"] (spHeld K) := ⟨f14, _, mgo a14, k14, b14, ok_held F14 T⟩
  obtain ⟨hme, hE⟩ := Bool.and_eq_true_iff.mp bigE
  obtain ⟨hmn, hE⟩ := Bool.and_eq_true_iff.mp hE
  obtain ⟨hmt, hE⟩ := Bool.and_eq_true_iff.mp hE
  obtain ⟨hmo, hpl⟩ := Bool.and_eq_true_iff.mp hE
  have hpl := of_decide_eq_true hpl
  have NC : NeC K Cn := ⟨of_decide_eq_true hme, of_decide_eq_true hmn, of_decide_eq_true hmt, of_decide_eq_true hmo⟩
  obtain ⟨ICn, IMn, IKn⟩ := insC (mg := mg) (mgo mcn) bign
  let IN_Nearer : InM l.prog w K mg b Cg "Nearer" Cn ["poly", "error"] := ⟨ICn, n0, _, ⟨IMn, en0, fn_of_ty tn0, IKn⟩, ok_neai Fn0 T ICn PC hpl Gheld, bn0⟩
  let Gneed_interval : Dx l.prog w K mg b "need_interval" 5 ["low", "high"] (spNeedI K C2) := ⟨f15, _, mgo a15, k15, b15, ok_needi F15 T NBadInterval Gis_ratio Glower⟩
  let Gpower_of : Dx l.prog w K mg b "power_of" 5 ["ratio", "many"] (spPow K) := ⟨f25, _, mgo a25, k25, b25, ok_pow F25 T Gtold⟩
  let Gsize_of : Df l.prog w K mg b "size_of" 1 ["ratio"] spSize := ⟨f26, _, mgo a26, k26, b26, ok_size F26 T⟩
  let Gturning_poly : Dx l.prog w K mg b "turning_poly" 9 ["degree"] (spTurn K Cg) := ⟨f28, _, mgo a28, k28, b28, ok_turn F28 T PM MS MM PS⟩
  let Gone_less : Dx l.prog w K mg b "one_less" 10 ["poly", "low", "high"] (spOneL K Cg C1 C2 Cn) := ⟨f27, _, mgo a27, k27, b27, ok_onel F27 T PM MS MM PS NBadNumber Gneed_interval M_degree M_lead M_moved Gminus Gplus Gtimes Gshare Gpower_of Gturning_poly Gsize_of IN_Nearer⟩
  let G_law_is_whole : Df l.prog w K mg b "_law_is_whole" 1 ["_law_thing"] (spWhole K) := ⟨f29, _, mgo a29, k29, b29, ok_lwhole F29 T⟩
  let G_law_gcd : Df l.prog w K mg b "_law_gcd" 1 ["_law_one", "_law_two"] spGcd := ⟨f30, _, mgo a30, k30, b30, ok_lgcd F30 T⟩
  let G_law_q : Df l.prog w K mg b "_law_q" 2 ["_law_top", "_law_bottom"] spQ := ⟨f31, _, mgo a31, k31, b31, ok_lq F31 G_law_gcd⟩
  let G_law_plus : Df l.prog w K mg b "_law_plus" 3 ["_law_one", "_law_two"] (spL2 rAdd) := ⟨f32, _, mgo a32, k32, b32, ok_lplus F32 G_law_q⟩
  let G_law_minus : Df l.prog w K mg b "_law_minus" 3 ["_law_one", "_law_two"] (spL2 rSub) := ⟨f33, _, mgo a33, k33, b33, ok_lminus F33 G_law_q⟩
  let G_law_times : Df l.prog w K mg b "_law_times" 3 ["_law_one", "_law_two"] (spL2 rMul) := ⟨f34, _, mgo a34, k34, b34, ok_ltimes F34 G_law_q⟩
  let G_law_share : Df l.prog w K mg b "_law_share" 3 ["_law_one", "_law_two"] spLSh := ⟨f35, _, mgo a35, k35, b35, ok_lshare F35 G_law_q⟩
  let G_law_less : Df l.prog w K mg b "_law_less" 1 ["_law_one", "_law_two"] spLess := ⟨f36, _, mgo a36, k36, b36, ok_lless F36⟩
  let G_law_is_ratio : Df l.prog w K mg b "_law_is_ratio" 2 ["_law_thing"] spIsRt := ⟨f37, _, mgo a37, k37, b37, ok_lisratio F37 T G_law_is_whole G_law_gcd⟩
  let G_law_passed : Df l.prog w K mg b "_law_passed" 3 ["_law_pen_here", "_law_ratio_here"] (spPassed K) := ⟨f38, _, mgo a38, k38, b38, ok_passed F38 G_law_draw G_law_pick⟩
  let G_law_ratio : Df l.prog w K mg b "_law_ratio" 3 ["_law_pen_here", "_law_most"] spRatio := ⟨f39, _, mgo a39, k39, b39, ok_lratio F39 G_law_draw G_law_pick G_law_q⟩
  let G_law_interval : Df l.prog w K mg b "_law_interval" 4 ["_law_pen_here", "_law_most"] spIv := ⟨f40, _, mgo a40, k40, b40, ok_iv F40 mm1 G_law_ratio G_law_draw G_law_plus G_law_less⟩
  let G_law_middle : Df l.prog w K mg b "_law_middle" 4 ["_law_one", "_law_two"] spMid := ⟨f41, _, mgo a41, k41, b41, ok_lmid F41 G_law_times G_law_plus⟩
  let G_law_lower_one : Df l.prog w K mg b "_law_lower_one" 2 ["_law_some"] (spMin K) := ⟨f42, _, mgo a42, k42, b42, ok_lmin F42 G_law_less⟩
  let G_law_sorted : Df l.prog w K mg b "_law_sorted" 3 ["_law_some"] (spSort K) := ⟨f43, _, mgo a43, k43, b43, ok_sort F43 T mm1 G_law_lower_one⟩
  let G_law_poly : Df l.prog w K mg b "_law_poly" 1 ["_law_numbers"] (spLPoly K) := ⟨f44, _, mgo a44, k44, b44, ok_lpoly F44 T mm1⟩
  let G_law_p_plus : Df l.prog w K mg b "_law_p_plus" 4 ["_law_one", "_law_two"] spLPP := ⟨f45, _, mgo a45, k45, b45, ok_lpplus F45 T (mgn zmax) (mgn zzip) G_law_poly G_law_plus⟩
  let G_law_p_scaled : Df l.prog w K mg b "_law_p_scaled" 4 ["_law_one", "_law_by"] spLPS := ⟨f46, _, mgo a46, k46, b46, ok_lpscaled F46 G_law_poly G_law_times⟩
  let G_law_p_minus : Df l.prog w K mg b "_law_p_minus" 5 ["_law_one", "_law_two"] spLPM := ⟨f47, _, mgo a47, k47, b47, ok_lpminus F47 G_law_p_plus G_law_p_scaled⟩
  let G_law_p_times : Df l.prog w K mg b "_law_p_times" 4 ["_law_one", "_law_two"] spLPT := ⟨f48, _, mgo a48, k48, b48, ok_lptimes F48 T (mgn zmax) G_law_poly G_law_plus G_law_times⟩
  let G_law_p_at : Df l.prog w K mg b "_law_p_at" 4 ["_law_one", "_law_point"] spLPA := ⟨f49, _, mgo a49, k49, b49, ok_lpat F49 G_law_plus G_law_times⟩
  let G_law_p_slope : Df l.prog w K mg b "_law_p_slope" 4 ["_law_one"] spLPSl := ⟨f50, _, mgo a50, k50, b50, ok_lpslope F50 T G_law_poly G_law_times⟩
  let G_law_p_divided : Df l.prog w K mg b "_law_p_divided" 4 ["_law_one", "_law_two"] spDiv := ⟨f51, _, mgo a51, k51, b51, ok_div F51 T (mgn zmax) G_law_poly G_law_share G_law_minus G_law_times⟩
  let G_law_p_plain : Df l.prog w K mg b "_law_p_plain" 5 ["_law_one"] spPlain := ⟨f52, _, mgo a52, k52, b52, ok_plain F52 mm1 G_law_p_scaled G_law_share⟩
  let G_law_p_short : Df l.prog w K mg b "_law_p_short" 5 ["_law_one"] spShort := ⟨f53, _, mgo a53, k53, b53, ok_short F53 mm1 G_law_p_scaled G_law_gcd⟩
  let G_law_p_common : Df l.prog w K mg b "_law_p_common" 6 ["_law_one", "_law_two"] spCommon := ⟨f54, _, mgo a54, k54, b54, ok_common F54 T mm1 G_law_p_divided G_law_p_short G_law_p_plain⟩
  let G_law_p_simple : Df l.prog w K mg b "_law_p_simple" 7 ["_law_one"] spSimple := ⟨f55, _, mgo a55, k55, b55, ok_simple F55 T G_law_p_divided G_law_p_common G_law_p_slope⟩
  let G_law_made_poly : Df l.prog w K mg b "_law_made_poly" 7 ["_law_pen_here", "_law_one"] (spMade K Cg) := ⟨f56, _, mgo a56, k56, b56, ok_made F56 T PM G_law_draw G_law_pick G_law_passed⟩
  let G_law_chain : Df l.prog w K mg b "_law_chain" 6 ["_law_one"] spChain := ⟨f57, _, mgo a57, k57, b57, ok_chain F57 T mm1 G_law_p_divided G_law_p_short G_law_p_slope G_law_p_scaled⟩
  let G_law_p_sign : Df l.prog w K mg b "_law_p_sign" 1 ["_law_one", "_law_point"] spPSign := ⟨f58, _, mgo a58, k58, b58, ok_psign F58⟩
  let G_law_changes : Df l.prog w K mg b "_law_changes" 3 ["_law_row", "_law_point"] spChg := ⟨f59, _, mgo a59, k59, b59, ok_chg F59 T (mgn zzip) G_law_p_sign⟩
  let G_law_count : Df l.prog w K mg b "_law_count" 8 ["_law_one", "_law_low", "_law_high"] spCount := ⟨f60, _, mgo a60, k60, b60, ok_count F60 T G_law_p_simple G_law_chain G_law_changes G_law_p_at⟩
  let G_law_cells : Df l.prog w K mg b "_law_cells" 8 ["_law_one", "_law_low", "_law_high"] spCells := ⟨f61, _, mgo a61, k61, b61, ok_cells F61 T mm1 G_law_p_simple G_law_chain G_law_changes G_law_p_at G_law_middle⟩
  let G_law_below_at : Df l.prog w K mg b "_law_below_at" 9 ["_law_one", "_law_low", "_law_high"] (spBelow false) := ⟨f62, _, mgo a62, k62, b62, ok_below F62 T mm1 (mgn zzip) G_law_cells G_law_sorted G_law_p_at G_law_middle⟩
  let G_law_is_never_below : Df l.prog w K mg b "_law_is_never_below" 10 ["_law_one", "_law_low", "_law_high"] (spBelow true) := ⟨f63, _, mgo a63, k63, b63, ok_never F63 G_law_below_at⟩
  let G_law_told_poly : Df l.prog w K mg b "_law_told_poly" 3 ["_law_value", "_law_powers"] (spTP K Cg) := ⟨f64, _, mgo a64, k64, b64, ok_tp F64 T mm1 PM G_law_is_ratio⟩
  have W : W9 K mg ([C0, C1, C2].getD · 0) := ⟨mgo m0, mgo m1, mgo m2, xfB_ok bx0, xfB_ok bx1, xfB_ok bx2, x10, x11, x20, x21, x22, no0_0, no1_0, no1_1, no2_0, no2_1⟩
  let Y : Yy K mg := ⟨f65, kVf65, dcf65, pmf65, anf65, cdf65, ctf65, ocf65, odf65, slf65, mgo a65, k65, l65, c65, b65⟩
  exact ok_law (C := ([C0, C1, C2].getD · 0)) F66 T W mm1 cL Pt rfl hTb Y PM IN_Nearer NC G_law_pen G_law_draw G_law_pick G_law_ratio G_law_interval G_law_passed G_law_p_scaled G_law_made_poly G_law_is_ratio G_law_told_poly G_law_p_minus G_law_p_times G_law_times G_law_is_never_below G_law_count Gone_less
end Vf
open PySem PySem.W PyProof.Rows
set_option maxRecDepth 100000 in
set_option maxHeartbeats 0 in
theorem PySem.Challenge.cw_nearcurves_k47_whole_one_degree_less_holds : PySem.Challenge.rw_nearcurves_k47_whole_one_degree_less.Holds := by
  refine top_k47 ?_
  k_fill
  refine Vf.walkT (l := PySem.Challenge.rw_nearcurves_k47_whole_one_degree_less) (n := 63) (k := 14) (C := fun _ => L2.CX0) (x := "_law_script") rfl (by decide) rfl ⟨rfl, by decide, by decide⟩ (by decide +kernel) (fun w h Y => PySem.W.km_in_of Y) ?F (fun _ _ _ _ _ z => z)
  case F =>
    intro w mg fa h Y X G hmg TB
    refine' Vf.all_mk X G hmg TB ?a0 ?l0 ?c0 ?k0 ?a1 ?l1 ?c1 ?k1 ?a2 ?l2 ?c2 ?k2 ?a3 ?l3 ?c3 ?k3 ?a4 ?l4 ?c4 ?k4 ?a5 ?l5 ?c5 ?k5 ?a6 ?l6 ?c6 ?k6 ?a7 ?l7 ?c7 ?k7 ?a8 ?l8 ?c8 ?k8 ?a9 ?l9 ?c9 ?k9 ?a10 ?l10 ?c10 ?k10 ?a11 ?l11 ?c11 ?k11 ?a12 ?l12 ?c12 ?k12 ?a13 ?l13 ?c13 ?k13 ?a14 ?l14 ?c14 ?k14 ?a15 ?l15 ?c15 ?k15 ?a16 ?l16 ?c16 ?k16 ?a17 ?l17 ?c17 ?k17 ?a18 ?l18 ?c18 ?k18 ?a19 ?l19 ?c19 ?k19 ?a20 ?l20 ?c20 ?k20 ?a21 ?l21 ?c21 ?k21 ?a22 ?l22 ?c22 ?k22 ?a23 ?l23 ?c23 ?k23 ?a24 ?l24 ?c24 ?k24 ?a25 ?l25 ?c25 ?k25 ?a26 ?l26 ?c26 ?k26 ?a27 ?l27 ?c27 ?k27 ?a28 ?l28 ?c28 ?k28 ?a29 ?l29 ?c29 ?k29 ?a30 ?l30 ?c30 ?k30 ?a31 ?l31 ?c31 ?k31 ?a32 ?l32 ?c32 ?k32 ?a33 ?l33 ?c33 ?k33 ?a34 ?l34 ?c34 ?k34 ?a35 ?l35 ?c35 ?k35 ?a36 ?l36 ?c36 ?k36 ?a37 ?l37 ?c37 ?k37 ?a38 ?l38 ?c38 ?k38 ?a39 ?l39 ?c39 ?k39 ?a40 ?l40 ?c40 ?k40 ?a41 ?l41 ?c41 ?k41 ?a42 ?l42 ?c42 ?k42 ?a43 ?l43 ?c43 ?k43 ?a44 ?l44 ?c44 ?k44 ?a45 ?l45 ?c45 ?k45 ?a46 ?l46 ?c46 ?k46 ?a47 ?l47 ?c47 ?k47 ?a48 ?l48 ?c48 ?k48 ?a49 ?l49 ?c49 ?k49 ?a50 ?l50 ?c50 ?k50 ?a51 ?l51 ?c51 ?k51 ?a52 ?l52 ?c52 ?k52 ?a53 ?l53 ?c53 ?k53 ?a54 ?l54 ?c54 ?k54 ?a55 ?l55 ?c55 ?k55 ?a56 ?l56 ?c56 ?k56 ?a57 ?l57 ?c57 ?k57 ?a58 ?l58 ?c58 ?k58 ?a59 ?l59 ?c59 ?k59 ?a60 ?l60 ?c60 ?k60 ?a61 ?l61 ?c61 ?k61 ?a62 ?l62 ?c62 ?k62 ?a63 ?l63 ?c63 ?k63 ?a64 ?l64 ?c64 ?k64 ?a65 ?l65 ?c65 ?k65 ?a66 ?l66 ?c66 ?k66 ?tl ?tv ?tn ?tr ?aggcd ?aglcm ?m0 ?ei0 ?ti0 ?li0 ?ci0 ?ki0 ?lc0 ?lb0 ?big0 ?m1 ?ei1 ?ti1 ?li1 ?ci1 ?ki1 ?lc1 ?lb1 ?big1 ?m2 ?ei2 ?ti2 ?li2 ?ci2 ?ki2 ?lc2 ?lb2 ?big2 ?mcg ?eg0 ?tg0 ?lg0 ?cg0 ?kg0 ?eg1 ?tg1 ?lg1 ?cg1 ?kg1 ?eg2 ?tg2 ?lg2 ?cg2 ?kg2 ?eg3 ?tg3 ?lg3 ?cg3 ?kg3 ?eg4 ?tg4 ?lg4 ?cg4 ?kg4 ?eg5 ?tg5 ?lg5 ?cg5 ?kg5 ?eg6 ?tg6 ?lg6 ?cg6 ?kg6 ?eg7 ?tg7 ?lg7 ?cg7 ?kg7 ?eg8 ?tg8 ?lg8 ?cg8 ?kg8 ?mcn ?en0 ?tn0 ?ln0 ?cn0 ?kn0 ?zint ?zlist ?zlen ?zrange ?zstr ?zisinstance ?zbool ?ztuple ?zabs ?zall ?zmax ?zmin ?zsum ?zzip ?bx0 ?bx1 ?bx2 ?x10 ?x11 ?x20 ?x21 ?x22 ?bign ?bigS ?bigE ?bigP
    (case a0 => k_is)
    (case l0 => k_is)
    (case c0 => k_is)
    (case k0 => k_is)
    (case a1 => k_is)
    (case l1 => k_is)
    (case c1 => k_is)
    (case k1 => k_is)
    (case a2 => k_is)
    (case l2 => k_is)
    (case c2 => k_is)
    (case k2 => k_is)
    (case a3 => k_is)
    (case l3 => k_is)
    (case c3 => k_is)
    (case k3 => k_is)
    (case a4 => k_is)
    (case l4 => k_is)
    (case c4 => k_is)
    (case k4 => k_is)
    (case a5 => k_is)
    (case l5 => k_is)
    (case c5 => k_is)
    (case k5 => k_is)
    (case a6 => k_is)
    (case l6 => k_is)
    (case c6 => k_is)
    (case k6 => k_is)
    (case a7 => k_is)
    (case l7 => k_is)
    (case c7 => k_is)
    (case k7 => k_is)
    (case a8 => k_is)
    (case l8 => k_is)
    (case c8 => k_is)
    (case k8 => k_is)
    (case a9 => k_is)
    (case l9 => k_is)
    (case c9 => k_is)
    (case k9 => k_is)
    (case a10 => k_is)
    (case l10 => k_is)
    (case c10 => k_is)
    (case k10 => k_is)
    (case a11 => k_is)
    (case l11 => k_is)
    (case c11 => k_is)
    (case k11 => k_is)
    (case a12 => k_is)
    (case l12 => k_is)
    (case c12 => k_is)
    (case k12 => k_is)
    (case a13 => k_is)
    (case l13 => k_is)
    (case c13 => k_is)
    (case k13 => k_is)
    (case a14 => k_is)
    (case l14 => k_is)
    (case c14 => k_is)
    (case k14 => k_is)
    (case a15 => k_is)
    (case l15 => k_is)
    (case c15 => k_is)
    (case k15 => k_is)
    (case a16 => k_is)
    (case l16 => k_is)
    (case c16 => k_is)
    (case k16 => k_is)
    (case a17 => k_is)
    (case l17 => k_is)
    (case c17 => k_is)
    (case k17 => k_is)
    (case a18 => k_is)
    (case l18 => k_is)
    (case c18 => k_is)
    (case k18 => k_is)
    (case a19 => k_is)
    (case l19 => k_is)
    (case c19 => k_is)
    (case k19 => k_is)
    (case a20 => k_is)
    (case l20 => k_is)
    (case c20 => k_is)
    (case k20 => k_is)
    (case a21 => k_is)
    (case l21 => k_is)
    (case c21 => k_is)
    (case k21 => k_is)
    (case a22 => k_is)
    (case l22 => k_is)
    (case c22 => k_is)
    (case k22 => k_is)
    (case a23 => k_is)
    (case l23 => k_is)
    (case c23 => k_is)
    (case k23 => k_is)
    (case a24 => k_is)
    (case l24 => k_is)
    (case c24 => k_is)
    (case k24 => k_is)
    (case a25 => k_is)
    (case l25 => k_is)
    (case c25 => k_is)
    (case k25 => k_is)
    (case a26 => k_is)
    (case l26 => k_is)
    (case c26 => k_is)
    (case k26 => k_is)
    (case a27 => k_is)
    (case l27 => k_is)
    (case c27 => k_is)
    (case k27 => k_is)
    (case a28 => k_is)
    (case l28 => k_is)
    (case c28 => k_is)
    (case k28 => k_is)
    (case a29 => k_is)
    (case l29 => k_is)
    (case c29 => k_is)
    (case k29 => k_is)
    (case a30 => k_is)
    (case l30 => k_is)
    (case c30 => k_is)
    (case k30 => k_is)
    (case a31 => k_is)
    (case l31 => k_is)
    (case c31 => k_is)
    (case k31 => k_is)
    (case a32 => k_is)
    (case l32 => k_is)
    (case c32 => k_is)
    (case k32 => k_is)
    (case a33 => k_is)
    (case l33 => k_is)
    (case c33 => k_is)
    (case k33 => k_is)
    (case a34 => k_is)
    (case l34 => k_is)
    (case c34 => k_is)
    (case k34 => k_is)
    (case a35 => k_is)
    (case l35 => k_is)
    (case c35 => k_is)
    (case k35 => k_is)
    (case a36 => k_is)
    (case l36 => k_is)
    (case c36 => k_is)
    (case k36 => k_is)
    (case a37 => k_is)
    (case l37 => k_is)
    (case c37 => k_is)
    (case k37 => k_is)
    (case a38 => k_is)
    (case l38 => k_is)
    (case c38 => k_is)
    (case k38 => k_is)
    (case a39 => k_is)
    (case l39 => k_is)
    (case c39 => k_is)
    (case k39 => k_is)
    (case a40 => k_is)
    (case l40 => k_is)
    (case c40 => k_is)
    (case k40 => k_is)
    (case a41 => k_is)
    (case l41 => k_is)
    (case c41 => k_is)
    (case k41 => k_is)
    (case a42 => k_is)
    (case l42 => k_is)
    (case c42 => k_is)
    (case k42 => k_is)
    (case a43 => k_is)
    (case l43 => k_is)
    (case c43 => k_is)
    (case k43 => k_is)
    (case a44 => k_is)
    (case l44 => k_is)
    (case c44 => k_is)
    (case k44 => k_is)
    (case a45 => k_is)
    (case l45 => k_is)
    (case c45 => k_is)
    (case k45 => k_is)
    (case a46 => k_is)
    (case l46 => k_is)
    (case c46 => k_is)
    (case k46 => k_is)
    (case a47 => k_is)
    (case l47 => k_is)
    (case c47 => k_is)
    (case k47 => k_is)
    (case a48 => k_is)
    (case l48 => k_is)
    (case c48 => k_is)
    (case k48 => k_is)
    (case a49 => k_is)
    (case l49 => k_is)
    (case c49 => k_is)
    (case k49 => k_is)
    (case a50 => k_is)
    (case l50 => k_is)
    (case c50 => k_is)
    (case k50 => k_is)
    (case a51 => k_is)
    (case l51 => k_is)
    (case c51 => k_is)
    (case k51 => k_is)
    (case a52 => k_is)
    (case l52 => k_is)
    (case c52 => k_is)
    (case k52 => k_is)
    (case a53 => k_is)
    (case l53 => k_is)
    (case c53 => k_is)
    (case k53 => k_is)
    (case a54 => k_is)
    (case l54 => k_is)
    (case c54 => k_is)
    (case k54 => k_is)
    (case a55 => k_is)
    (case l55 => k_is)
    (case c55 => k_is)
    (case k55 => k_is)
    (case a56 => k_is)
    (case l56 => k_is)
    (case c56 => k_is)
    (case k56 => k_is)
    (case a57 => k_is)
    (case l57 => k_is)
    (case c57 => k_is)
    (case k57 => k_is)
    (case a58 => k_is)
    (case l58 => k_is)
    (case c58 => k_is)
    (case k58 => k_is)
    (case a59 => k_is)
    (case l59 => k_is)
    (case c59 => k_is)
    (case k59 => k_is)
    (case a60 => k_is)
    (case l60 => k_is)
    (case c60 => k_is)
    (case k60 => k_is)
    (case a61 => k_is)
    (case l61 => k_is)
    (case c61 => k_is)
    (case k61 => k_is)
    (case a62 => k_is)
    (case l62 => k_is)
    (case c62 => k_is)
    (case k62 => k_is)
    (case a63 => k_is)
    (case l63 => k_is)
    (case c63 => k_is)
    (case k63 => k_is)
    (case a64 => k_is)
    (case l64 => k_is)
    (case c64 => k_is)
    (case k64 => k_is)
    (case a65 => k_is)
    (case l65 => k_is)
    (case c65 => k_is)
    (case k65 => k_is)
    (case a66 => k_is)
    (case l66 => k_is)
    (case c66 => k_is)
    (case k66 => k_is)
    (case tl => k_is)
    (case tv => first | rfl | k_is)
    (case tn => first | kernel_rfl | k_is)
    (case tr => decide +kernel)
    (case aggcd => k_is)
    (case aglcm => k_is)
    (case m0 => k_is)
    (case ei0 => k_is)
    (case ti0 => k_is)
    (case li0 => k_is)
    (case ci0 => k_is)
    (case ki0 => k_is)
    (case lc0 => k_is)
    (case lb0 => decide +kernel)
    (case big0 => kernel_rfl)
    (case m1 => k_is)
    (case ei1 => k_is)
    (case ti1 => k_is)
    (case li1 => k_is)
    (case ci1 => k_is)
    (case ki1 => k_is)
    (case lc1 => k_is)
    (case lb1 => decide +kernel)
    (case big1 => kernel_rfl)
    (case m2 => k_is)
    (case ei2 => k_is)
    (case ti2 => k_is)
    (case li2 => k_is)
    (case ci2 => k_is)
    (case ki2 => k_is)
    (case lc2 => k_is)
    (case lb2 => decide +kernel)
    (case big2 => kernel_rfl)
    (case mcg => k_is)
    (case eg0 => k_is)
    (case tg0 => k_is)
    (case lg0 => k_is)
    (case cg0 => k_is)
    (case kg0 => k_is)
    (case eg1 => k_is)
    (case tg1 => k_is)
    (case lg1 => k_is)
    (case cg1 => k_is)
    (case kg1 => k_is)
    (case eg2 => k_is)
    (case tg2 => k_is)
    (case lg2 => k_is)
    (case cg2 => k_is)
    (case kg2 => k_is)
    (case eg3 => k_is)
    (case tg3 => k_is)
    (case lg3 => k_is)
    (case cg3 => k_is)
    (case kg3 => k_is)
    (case eg4 => k_is)
    (case tg4 => k_is)
    (case lg4 => k_is)
    (case cg4 => k_is)
    (case kg4 => k_is)
    (case eg5 => k_is)
    (case tg5 => k_is)
    (case lg5 => k_is)
    (case cg5 => k_is)
    (case kg5 => k_is)
    (case eg6 => k_is)
    (case tg6 => k_is)
    (case lg6 => k_is)
    (case cg6 => k_is)
    (case kg6 => k_is)
    (case eg7 => k_is)
    (case tg7 => k_is)
    (case lg7 => k_is)
    (case cg7 => k_is)
    (case kg7 => k_is)
    (case eg8 => k_is)
    (case tg8 => k_is)
    (case lg8 => k_is)
    (case cg8 => k_is)
    (case kg8 => k_is)
    (case mcn => k_is)
    (case en0 => k_is)
    (case tn0 => k_is)
    (case ln0 => k_is)
    (case cn0 => k_is)
    (case kn0 => k_is)
    (case zint => k_is)
    (case zlist => k_is)
    (case zlen => k_is)
    (case zrange => k_is)
    (case zstr => k_is)
    (case zisinstance => k_is)
    (case zbool => k_is)
    (case ztuple => k_is)
    (case zabs => k_is)
    (case zall => k_is)
    (case zmax => k_is)
    (case zmin => k_is)
    (case zsum => k_is)
    (case zzip => k_is)
    (case bx0 => kernel_rfl)
    (case bx1 => kernel_rfl)
    (case bx2 => kernel_rfl)
    (case x10 => kernel_rfl)
    (case x11 => kernel_rfl)
    (case x20 => kernel_rfl)
    (case x21 => kernel_rfl)
    (case x22 => kernel_rfl)
    (case bign => kernel_rfl)
    (case bigS => kernel_rfl)
    (case bigE => kernel_rfl)
    (case bigP => kernel_rfl)
