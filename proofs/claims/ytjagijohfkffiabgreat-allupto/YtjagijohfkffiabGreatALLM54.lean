import Derived.Test.YtjagijohfkffiabGreatALLM09
import Derived.Test.YtjagijohfkffiabGreatALLM10
import Derived.Test.YtjagijohfkffiabGreatALLM13
import Derived.Test.YtjagijohfkffiabGreatALLM27
import Derived.Test.YtjagijohfkffiabGreatALLM40
import Derived.Test.YtjagijohfkffiabGreatALLM41
import Derived.Test.YtjagijohfkffiabGreatALLM43
import Derived.Test.YtjagijohfkffiabGreatALLM53
import Derived.ProofKit
import Derived.OpenShut
import Derived.ShutString
import Derived.ChangeOld
import Derived.JoinedCond
import Derived.Deep.Matrix
import Derived.Deep.Strs
import Derived.ChangeSame
set_option maxHeartbeats 16000000
set_option maxRecDepth 100000
namespace Go.Proofs.YtjagijohfkffiabGreat
open Go.RowKit
set_option linter.unusedVariables false
section
variable (s1 s2:ByteArray) (a1 a2 a3 a4 a5 a6 a7:Option Addr) (l1 c1 l2 c2 l3 c3 l4 c4 l5 c5 l6 c6 l7 c7:Nat) (zu zl zo:List Int) (zss:List (List Int)) (zs:List Int) (zts:List (List Int)) (ss:List Int) (w:World)
theorem XI (hm1:s1.size≤maxLen) (hm2:s2.size≤1048576) (h1:Ints w a1 l1 c1 zu) (h2:Ints w a2 l2 c2 zl) (h3:Ints w a3 l3 c3 zo) (h4:Lists w a4 l4 c4 zss) (h5:Ints w a5 l5 c5 zs) (h6:Lists w a6 l6 c6 zts) (h7:Ints w a7 l7 c7 ss)
  (n1:l1≤1048576) (n2:l2≤1048576) (n3:l3≤1048576) (n4:l4≤1048576) (n5:l5≤1048576) (n6:l6≤1048576) (n7:l7≤1048576) (r4:∀ i,i<l4→(zss.getD i []).length≤1048576) (r6:∀ i,i<l6→(zts.getD i []).length≤1048576) :
  Calls Tryz.prog 10 #[.string s1,.slice a1 l1 c1,.slice a2 l2 c2,.agg #[.slice a3 l3 c3,.slice a4 l4 c4],.string s2,.agg #[.slice a5 l5 c5,.slice a6 l6 c6,.slice a7 l7 c7]] w fun e w'=>e=.returned (.bool true)∧Below w.heap.size w w':=by
 have H1:=hid h1
 have H2:=hid h2
 have H3:=hid h3
 have H4:=hid h4
 have H5:=hid h5
 have H6:=hid h6
 have H7:=hid h7
 have R4:=hid r4
 have R6:=hid r6
 have KT:=hid hm1
 have DY:=hid hm2
 have ba:=((Below.refl w.heap.size w).alloc (Nat.le_refl _) (.cells #[.slice a3 l3 c3,.slice a4 l4 c4] 37)).alloc (by simp) (.cells #[.slice a5 l5 c5,.slice a6 l6 c6,.slice a7 l7 c7] 25)
 have BW:=hid ba
 have TM:=hid ((bF w (.slice a3 l3 c3) (.slice a4 l4 c4) 37).below ((Below.refl (w.heap.size+1) _).alloc (by simp) (.cells #[.slice a5 l5 c5,.slice a6 l6 c6,.slice a7 l7 c7] 25)) (Nat.lt_succ_self _))
 have TG:Hid (Three ((w.alloc (.cells #[.slice a3 l3 c3,.slice a4 l4 c4] 37)).alloc (.cells #[.slice a5 l5 c5,.slice a6 l6 c6,.slice a7 l7 c7] 25)) (w.heap.size+1) (.slice a5 l5 c5) (.slice a6 l6 c6) (.slice a7 l7 c7)):=hid (by
  have:=bK (w.alloc (.cells #[.slice a3 l3 c3,.slice a4 l4 c4] 37)) (.slice a5 l5 c5) (.slice a6 l6 c6) (.slice a7 l7 c7) 25
  simpa using this)
 clear h1 h2 h3 h4 h5 h6 h7 r4 r6 hm1 hm2 ba
 go_enter Tryz.func10,Tryz.ntmps10
 go_wp2_with fail
 generalize ((w.alloc (.cells #[.slice a3 l3 c3,.slice a4 l4 c4] 37)).alloc (.cells #[.slice a5 l5 c5,.slice a6 l6 c6,.slice a7 l7 c7] 25))=W at *
 have dO:=TM.out.c0
 have dN:=TM.out.c1
 have dR:=TG.out.c0
 have dQ:=TG.out.c1
 have dP:=TG.out.c2
 go_wp2_with fail
 refine (lL a1 l1 c1 zu W (H1.out.below BW.out) n1).mono ?_
 rintro e w0 ⟨rfl,sp,b⟩
 clear dO dN dR dQ dP
 have BW:=hid (BW.out.trans (b.mono BW.out.size))
 have TM:=hid (TM.out.below b TM.out.lt)
 have TG:=hid (TG.out.below b TG.out.lt)
 have SA:=hid sp
 clear sp b
 generalize W.heap.size=GA at *
 have dO:=TM.out.c0
 have dN:=TM.out.c1
 have dR:=TG.out.c0
 have dQ:=TG.out.c1
 have dP:=TG.out.c2
 go_wp2_with fail
 refine (lL a2 l2 c2 zl w0 (H2.out.below BW.out) n2).mono ?_
 rintro e w1 ⟨rfl,sp,b⟩
 clear dO dN dR dQ dP
 have BW:=hid (BW.out.trans (b.mono BW.out.size))
 have TM:=hid (TM.out.below b TM.out.lt)
 have TG:=hid (TG.out.below b TG.out.lt)
 have SA:=hid (SA.out.below b)
 have SB:=hid sp
 clear sp b
 generalize w0.heap.size=GB at *
 have dO:=TM.out.c0
 have dN:=TM.out.c1
 have dR:=TG.out.c0
 have dQ:=TG.out.c1
 have dP:=TG.out.c2
 go_wp2_with fail
 refine (lL a3 l3 c3 zo w1 (H3.out.below BW.out) n3).mono ?_
 rintro e w2 ⟨rfl,sp,b⟩
 clear dO dN dR dQ dP
 have BW:=hid (BW.out.trans (b.mono BW.out.size))
 have TM:=hid (TM.out.below b TM.out.lt)
 have TG:=hid (TG.out.below b TG.out.lt)
 have SA:=hid (SA.out.below b)
 have SB:=hid (SB.out.below b)
 have SO:=hid sp
 clear sp b
 generalize w1.heap.size=GO at *
 have YC:=BW.out.size
 have dO:=TM.out.c0
 have dN:=TM.out.c1
 have dR:=TG.out.c0
 have dQ:=TG.out.c1
 have dP:=TG.out.c2
 go_wp2_with fail
 refine (JN a4 l4 c4 zss w2 (H4.out.below BW.out) n4 R4.out).mono ?_
 rintro e w3 ⟨gs1,p1,p2,vO1,rfl,sp,b⟩
 clear dO dN dR dQ dP
 have BW:=hid (BW.out.trans (b.mono BW.out.size))
 have TM:=hid (TM.out.below b TM.out.lt)
 have TG:=hid (TG.out.below b TG.out.lt)
 have SA:=hid (SA.out.below b)
 have SB:=hid (SB.out.below b)
 have SO:=hid (SO.out.below b)
 have SN:=hid sp
 have hGN:w.heap.size≤w2.heap.size:=YC
 clear sp b YC
 generalize w2.heap.size=GN at *
 have b:=(Below.refl w3.heap.size w3).alloc (Nat.le_refl _) (.cells #[.slice (some ⟨GO,0,none⟩) l3 (l3+2),.slice (some ⟨GN,0,none⟩) l4 (l4+2)] 37)
 have TK:=hid (bF w3 (.slice (some ⟨GO,0,none⟩) l3 (l3+2)) (.slice (some ⟨GN,0,none⟩) l4 (l4+2)) 37)
 have BW:=hid (BW.out.trans (b.mono BW.out.size))
 have TM:=hid (TM.out.below b TM.out.lt)
 have TG:=hid (TG.out.below b TG.out.lt)
 have SA:=hid (SA.out.below b)
 have SB:=hid (SB.out.below b)
 have SO:=hid (SO.out.below b)
 have SN:=hid (SN.out.below b)
 have dO:=TM.out.c0
 have dN:=TM.out.c1
 have dR:=TG.out.c0
 have dQ:=TG.out.c1
 have dP:=TG.out.c2
 go_wp2_with fail
 clear dO dN dR dQ dP
 clear b
 generalize (w3.alloc (.cells #[.slice (some ⟨GO,0,none⟩) l3 (l3+2),.slice (some ⟨GN,0,none⟩) l4 (l4+2)] 37))=w4 at *
 generalize w3.heap.size=GK at *
 refine (lL a5 l5 c5 zs w4 (H5.out.below BW.out) n5).mono ?_
 rintro e w5 ⟨rfl,sp,b⟩
 have BW:=hid (BW.out.trans (b.mono BW.out.size))
 have TM:=hid (TM.out.below b TM.out.lt)
 have TG:=hid (TG.out.below b TG.out.lt)
 have SA:=hid (SA.out.below b)
 have SB:=hid (SB.out.below b)
 have SO:=hid (SO.out.below b)
 have SN:=hid (SN.out.below b)
 have TK:=hid (TK.out.below b TK.out.lt)
 have SL:=hid sp
 clear sp b
 generalize w4.heap.size=GL at *
 have YC:=BW.out.size
 have dO:=TM.out.c0
 have dN:=TM.out.c1
 have dR:=TG.out.c0
 have dQ:=TG.out.c1
 have dP:=TG.out.c2
 have fU:=TK.out.c0
 have fQ:=TK.out.c1
 go_wp2_with fail
 refine (JN a6 l6 c6 zts w5 (H6.out.below BW.out) n6 R6.out).mono ?_
 rintro e w6 ⟨gs2,p3,p4,vO2,rfl,sp,b⟩
 clear dO dN dR dQ dP fU fQ
 have BW:=hid (BW.out.trans (b.mono BW.out.size))
 have TM:=hid (TM.out.below b TM.out.lt)
 have TG:=hid (TG.out.below b TG.out.lt)
 have SA:=hid (SA.out.below b)
 have SB:=hid (SB.out.below b)
 have SO:=hid (SO.out.below b)
 have SN:=hid (SN.out.below b)
 have TK:=hid (TK.out.below b TK.out.lt)
 have SL:=hid (SL.out.below b)
 have ST:=hid sp
 have hGT:w.heap.size≤w5.heap.size:=YC
 clear sp b YC
 generalize w5.heap.size=GT at *
 have dO:=TM.out.c0
 have dN:=TM.out.c1
 have dR:=TG.out.c0
 have dQ:=TG.out.c1
 have dP:=TG.out.c2
 have fU:=TK.out.c0
 have fQ:=TK.out.c1
 go_wp2_with fail
 refine (lL a7 l7 c7 ss w6 (H7.out.below BW.out) n7).mono ?_
 rintro e w7 ⟨rfl,sp,b⟩
 clear dO dN dR dQ dP fU fQ
 have BW:=hid (BW.out.trans (b.mono BW.out.size))
 have TM:=hid (TM.out.below b TM.out.lt)
 have TG:=hid (TG.out.below b TG.out.lt)
 have SA:=hid (SA.out.below b)
 have SB:=hid (SB.out.below b)
 have SO:=hid (SO.out.below b)
 have SN:=hid (SN.out.below b)
 have TK:=hid (TK.out.below b TK.out.lt)
 have SL:=hid (SL.out.below b)
 have ST:=hid (ST.out.below b)
 have SS:=hid sp
 clear sp b
 generalize w6.heap.size=GS at *
 have b:=(Below.refl w7.heap.size w7).alloc (Nat.le_refl _) (.cells #[.slice (some ⟨GL,0,none⟩) l5 (l5+2),.slice (some ⟨GT,0,none⟩) l6 (l6+2),.slice (some ⟨GS,0,none⟩) l7 (l7+2)] 25)
 have TH:=hid (bK w7 (.slice (some ⟨GL,0,none⟩) l5 (l5+2)) (.slice (some ⟨GT,0,none⟩) l6 (l6+2)) (.slice (some ⟨GS,0,none⟩) l7 (l7+2)) 25)
 have BW:=hid (BW.out.trans (b.mono BW.out.size))
 have TM:=hid (TM.out.below b TM.out.lt)
 have TG:=hid (TG.out.below b TG.out.lt)
 have SA:=hid (SA.out.below b)
 have SB:=hid (SB.out.below b)
 have SO:=hid (SO.out.below b)
 have SN:=hid (SN.out.below b)
 have TK:=hid (TK.out.below b TK.out.lt)
 have SL:=hid (SL.out.below b)
 have ST:=hid (ST.out.below b)
 have SS:=hid (SS.out.below b)
 have dO:=TM.out.c0
 have dN:=TM.out.c1
 have dR:=TG.out.c0
 have dQ:=TG.out.c1
 have dP:=TG.out.c2
 have fU:=TK.out.c0
 have fQ:=TK.out.c1
 go_wp2_with fail
 clear dO dN dR dQ dP fU fQ
 clear b
 generalize (w7.alloc (.cells #[.slice (some ⟨GL,0,none⟩) l5 (l5+2),.slice (some ⟨GT,0,none⟩) l6 (l6+2),.slice (some ⟨GS,0,none⟩) l7 (l7+2)] 25))=w8 at *
 generalize w7.heap.size=GH at *
 refine (sizes.Wo s1 KT.out _).mono ?_
 rintro e w9 ⟨rfl,b⟩
 have BW:=hid (BW.out.trans (b.mono BW.out.size))
 have TM:=hid (TM.out.below b TM.out.lt)
 have TG:=hid (TG.out.below b TG.out.lt)
 have SA:=hid (SA.out.below b)
 have SB:=hid (SB.out.below b)
 have SO:=hid (SO.out.below b)
 have SN:=hid (SN.out.below b)
 have TK:=hid (TK.out.below b TK.out.lt)
 have SL:=hid (SL.out.below b)
 have ST:=hid (ST.out.below b)
 have SS:=hid (SS.out.below b)
 have TH:=hid (TH.out.below b TH.out.lt)
 clear b
 have dO:=TM.out.c0
 have dN:=TM.out.c1
 have dR:=TG.out.c0
 have dQ:=TG.out.c1
 have dP:=TG.out.c2
 have fU:=TK.out.c0
 have fQ:=TK.out.c1
 have iU:=TH.out.c0
 have iT:=TH.out.c1
 have iR:=TH.out.c2
 go_wp2_with fail
 refine (holdings.Nc s1 (some ⟨GA,0,none⟩) (some ⟨GB,0,none⟩) l1 (l1+2) l2 (l2+2) zu zl _ KT.out (SA.out.ints (by omega)) (SB.out.ints (by omega))).mono ?_
 rintro e w10 ⟨rfl,b⟩
 clear dO dN dR dQ dP fU fQ iU iT iR
 have BW:=hid (BW.out.trans (b.mono BW.out.size))
 have TM:=hid (TM.out.below b TM.out.lt)
 have TG:=hid (TG.out.below b TG.out.lt)
 have SA:=hid (SA.out.below b)
 have SB:=hid (SB.out.below b)
 have SO:=hid (SO.out.below b)
 have SN:=hid (SN.out.below b)
 have TK:=hid (TK.out.below b TK.out.lt)
 have SL:=hid (SL.out.below b)
 have ST:=hid (ST.out.below b)
 have SS:=hid (SS.out.below b)
 have TH:=hid (TH.out.below b TH.out.lt)
 clear b
 have dO:=TM.out.c0
 have dN:=TM.out.c1
 have dR:=TG.out.c0
 have dQ:=TG.out.c1
 have dP:=TG.out.c2
 have fU:=TK.out.c0
 have fQ:=TK.out.c1
 have iU:=TH.out.c0
 have iT:=TH.out.c1
 have iR:=TH.out.c2
 go_wp2_with fail
 refine (judges.TR s1 (some ⟨GA,0,none⟩) l1 (l1+2) zu _ KT.out (SA.out.ints (by omega))).mono ?_
 rintro e w11 ⟨rfl,b⟩
 clear dO dN dR dQ dP fU fQ iU iT iR
 have BW:=hid (BW.out.trans (b.mono BW.out.size))
 have TM:=hid (TM.out.below b TM.out.lt)
 have TG:=hid (TG.out.below b TG.out.lt)
 have SA:=hid (SA.out.below b)
 have SB:=hid (SB.out.below b)
 have SO:=hid (SO.out.below b)
 have SN:=hid (SN.out.below b)
 have TK:=hid (TK.out.below b TK.out.lt)
 have SL:=hid (SL.out.below b)
 have ST:=hid (ST.out.below b)
 have SS:=hid (SS.out.below b)
 have TH:=hid (TH.out.below b TH.out.lt)
 clear b
 have dO:=TM.out.c0
 have dN:=TM.out.c1
 have dR:=TG.out.c0
 have dQ:=TG.out.c1
 have dP:=TG.out.c2
 have fU:=TK.out.c0
 have fQ:=TK.out.c1
 have iU:=TH.out.c0
 have iT:=TH.out.c1
 have iR:=TH.out.c2
 go_wp2_with fail
 refine (watches.Ql s1 KT.out _).mono ?_
 rintro e w12 ⟨rfl,b⟩
 clear dO dN dR dQ dP fU fQ iU iT iR
 have BW:=hid (BW.out.trans (b.mono BW.out.size))
 have TM:=hid (TM.out.below b TM.out.lt)
 have TG:=hid (TG.out.below b TG.out.lt)
 have SA:=hid (SA.out.below b)
 have SB:=hid (SB.out.below b)
 have SO:=hid (SO.out.below b)
 have SN:=hid (SN.out.below b)
 have TK:=hid (TK.out.below b TK.out.lt)
 have SL:=hid (SL.out.below b)
 have ST:=hid (ST.out.below b)
 have SS:=hid (SS.out.below b)
 have TH:=hid (TH.out.below b TH.out.lt)
 clear b
 have dO:=TM.out.c0
 have dN:=TM.out.c1
 have dR:=TG.out.c0
 have dQ:=TG.out.c1
 have dP:=TG.out.c2
 have fU:=TK.out.c0
 have fQ:=TK.out.c1
 have iU:=TH.out.c0
 have iT:=TH.out.c1
 have iR:=TH.out.c2
 go_wp2_with fail
 refine (writes.TQ (some ⟨GO,0,none⟩) (some ⟨GN,0,none⟩) l3 (l3+2) l4 (l4+2) zo zss _ (SO.out.ints (by omega)) (SN.out.lists (by omega) (fun i hi=>by have:=R4.out i hi;omega))).mono ?_
 rintro e w13 ⟨rfl,b⟩
 clear dO dN dR dQ dP fU fQ iU iT iR
 have BW:=hid (BW.out.trans (b.mono BW.out.size))
 have TM:=hid (TM.out.below b TM.out.lt)
 have TG:=hid (TG.out.below b TG.out.lt)
 have SA:=hid (SA.out.below b)
 have SB:=hid (SB.out.below b)
 have SO:=hid (SO.out.below b)
 have SN:=hid (SN.out.below b)
 have TK:=hid (TK.out.below b TK.out.lt)
 have SL:=hid (SL.out.below b)
 have ST:=hid (ST.out.below b)
 have SS:=hid (SS.out.below b)
 have TH:=hid (TH.out.below b TH.out.lt)
 clear b
 have dO:=TM.out.c0
 have dN:=TM.out.c1
 have dR:=TG.out.c0
 have dQ:=TG.out.c1
 have dP:=TG.out.c2
 have fU:=TK.out.c0
 have fQ:=TK.out.c1
 have iU:=TH.out.c0
 have iT:=TH.out.c1
 have iR:=TH.out.c2
 go_wp2_with fail
 refine (reads.Wp s2 (some ⟨GB,0,none⟩) l2 (l2+2) zl _ DY.out (SB.out.ints (by omega))).mono ?_
 rintro e w14 ⟨rfl,b⟩
 clear dO dN dR dQ dP fU fQ iU iT iR
 have BW:=hid (BW.out.trans (b.mono BW.out.size))
 have TM:=hid (TM.out.below b TM.out.lt)
 have TG:=hid (TG.out.below b TG.out.lt)
 have SA:=hid (SA.out.below b)
 have SB:=hid (SB.out.below b)
 have SO:=hid (SO.out.below b)
 have SN:=hid (SN.out.below b)
 have TK:=hid (TK.out.below b TK.out.lt)
 have SL:=hid (SL.out.below b)
 have ST:=hid (ST.out.below b)
 have SS:=hid (SS.out.below b)
 have TH:=hid (TH.out.below b TH.out.lt)
 clear b
 have dO:=TM.out.c0
 have dN:=TM.out.c1
 have dR:=TG.out.c0
 have dQ:=TG.out.c1
 have dP:=TG.out.c2
 have fU:=TK.out.c0
 have fQ:=TK.out.c1
 have iU:=TH.out.c0
 have iT:=TH.out.c1
 have iR:=TH.out.c2
 go_wp2_with fail
 refine (classes.Qm s1 KT.out _).mono ?_
 rintro e w15 ⟨rfl,b⟩
 clear dO dN dR dQ dP fU fQ iU iT iR
 have BW:=hid (BW.out.trans (b.mono BW.out.size))
 have TM:=hid (TM.out.below b TM.out.lt)
 have TG:=hid (TG.out.below b TG.out.lt)
 have SA:=hid (SA.out.below b)
 have SB:=hid (SB.out.below b)
 have SO:=hid (SO.out.below b)
 have SN:=hid (SN.out.below b)
 have TK:=hid (TK.out.below b TK.out.lt)
 have SL:=hid (SL.out.below b)
 have ST:=hid (ST.out.below b)
 have SS:=hid (SS.out.below b)
 have TH:=hid (TH.out.below b TH.out.lt)
 clear b
 have dO:=TM.out.c0
 have dN:=TM.out.c1
 have dR:=TG.out.c0
 have dQ:=TG.out.c1
 have dP:=TG.out.c2
 have fU:=TK.out.c0
 have fQ:=TK.out.c1
 have iU:=TH.out.c0
 have iT:=TH.out.c1
 have iR:=TH.out.c2
 go_wp2_with fail
 refine (Ur (some ⟨GL,0,none⟩) (some ⟨GT,0,none⟩) (some ⟨GS,0,none⟩) l5 (l5+2) l6 (l6+2) l7 (l7+2) zs zts ss s1 _ KT.out (SL.out.ints (by omega)) (ST.out.lists (by omega) (fun i hi=>by have:=R6.out i hi;omega)) (SS.out.ints (by omega))).mono ?_
 rintro e w16 ⟨rfl,b⟩
 clear dO dN dR dQ dP fU fQ iU iT iR
 have BW:=hid (BW.out.trans (b.mono BW.out.size))
 have TM:=hid (TM.out.below b TM.out.lt)
 have TG:=hid (TG.out.below b TG.out.lt)
 have SA:=hid (SA.out.below b)
 have SB:=hid (SB.out.below b)
 have SO:=hid (SO.out.below b)
 have SN:=hid (SN.out.below b)
 have TK:=hid (TK.out.below b TK.out.lt)
 have SL:=hid (SL.out.below b)
 have ST:=hid (ST.out.below b)
 have SS:=hid (SS.out.below b)
 have TH:=hid (TH.out.below b TH.out.lt)
 clear b
 have dO:=TM.out.c0
 have dN:=TM.out.c1
 have dR:=TG.out.c0
 have dQ:=TG.out.c1
 have dP:=TG.out.c2
 have fU:=TK.out.c0
 have fQ:=TK.out.c1
 have iU:=TH.out.c0
 have iT:=TH.out.c1
 have iR:=TH.out.c2
 go_wp2_with fail
 refine (jc GA a1 l1 c1 zu _ SA.out (H1.out.below BW.out) n1).mono ?_
 rintro e w17 ⟨rfl,b⟩
 clear dO dN dR dQ dP fU fQ iU iT iR
 have BW:=hid (BW.out.trans (b.mono BW.out.size))
 have TM:=hid (TM.out.below b TM.out.lt)
 have TG:=hid (TG.out.below b TG.out.lt)
 have SA:=hid (SA.out.below b)
 have SB:=hid (SB.out.below b)
 have SO:=hid (SO.out.below b)
 have SN:=hid (SN.out.below b)
 have TK:=hid (TK.out.below b TK.out.lt)
 have SL:=hid (SL.out.below b)
 have ST:=hid (ST.out.below b)
 have SS:=hid (SS.out.below b)
 have TH:=hid (TH.out.below b TH.out.lt)
 clear b
 have dO:=TM.out.c0
 have dN:=TM.out.c1
 have dR:=TG.out.c0
 have dQ:=TG.out.c1
 have dP:=TG.out.c2
 have fU:=TK.out.c0
 have fQ:=TK.out.c1
 have iU:=TH.out.c0
 have iT:=TH.out.c1
 have iR:=TH.out.c2
 go_wp2_with fail
 refine (jc GB a2 l2 c2 zl _ SB.out (H2.out.below BW.out) n2).mono ?_
 rintro e w18 ⟨rfl,b⟩
 clear dO dN dR dQ dP fU fQ iU iT iR
 have BW:=hid (BW.out.trans (b.mono BW.out.size))
 have TM:=hid (TM.out.below b TM.out.lt)
 have TG:=hid (TG.out.below b TG.out.lt)
 have SA:=hid (SA.out.below b)
 have SB:=hid (SB.out.below b)
 have SO:=hid (SO.out.below b)
 have SN:=hid (SN.out.below b)
 have TK:=hid (TK.out.below b TK.out.lt)
 have SL:=hid (SL.out.below b)
 have ST:=hid (ST.out.below b)
 have SS:=hid (SS.out.below b)
 have TH:=hid (TH.out.below b TH.out.lt)
 clear b
 have dO:=TM.out.c0
 have dN:=TM.out.c1
 have dR:=TG.out.c0
 have dQ:=TG.out.c1
 have dP:=TG.out.c2
 have fU:=TK.out.c0
 have fQ:=TK.out.c1
 have iU:=TH.out.c0
 have iT:=TH.out.c1
 have iR:=TH.out.c2
 go_wp2_with fail
 refine (jc GO a3 l3 c3 zo _ SO.out (H3.out.below BW.out) n3).mono ?_
 rintro e w19 ⟨rfl,b⟩
 clear dO dN dR dQ dP fU fQ iU iT iR
 have BW:=hid (BW.out.trans (b.mono BW.out.size))
 have TM:=hid (TM.out.below b TM.out.lt)
 have TG:=hid (TG.out.below b TG.out.lt)
 have SA:=hid (SA.out.below b)
 have SB:=hid (SB.out.below b)
 have SO:=hid (SO.out.below b)
 have SN:=hid (SN.out.below b)
 have TK:=hid (TK.out.below b TK.out.lt)
 have SL:=hid (SL.out.below b)
 have ST:=hid (ST.out.below b)
 have SS:=hid (SS.out.below b)
 have TH:=hid (TH.out.below b TH.out.lt)
 clear b
 have dO:=TM.out.c0
 have dN:=TM.out.c1
 have dR:=TG.out.c0
 have dQ:=TG.out.c1
 have dP:=TG.out.c2
 have fU:=TK.out.c0
 have fQ:=TK.out.c1
 have iU:=TH.out.c0
 have iT:=TH.out.c1
 have iR:=TH.out.c2
 go_wp2_with fail
 refine (yK GN GN l4 c4 a4 zss gs1 p1 p2 vO1 w _ H4.out BW.out hGN SN.out n4 R4.out).mono ?_
 rintro e w20 ⟨rfl,b⟩
 clear dO dN dR dQ dP fU fQ iU iT iR
 have BW:=hid (BW.out.trans (b.mono BW.out.size))
 have TM:=hid (TM.out.below b TM.out.lt)
 have TG:=hid (TG.out.below b TG.out.lt)
 have SA:=hid (SA.out.below b)
 have SB:=hid (SB.out.below b)
 have SO:=hid (SO.out.below b)
 have SN:=hid (SN.out.below b)
 have TK:=hid (TK.out.below b TK.out.lt)
 have SL:=hid (SL.out.below b)
 have ST:=hid (ST.out.below b)
 have SS:=hid (SS.out.below b)
 have TH:=hid (TH.out.below b TH.out.lt)
 clear b
 have dO:=TM.out.c0
 have dN:=TM.out.c1
 have dR:=TG.out.c0
 have dQ:=TG.out.c1
 have dP:=TG.out.c2
 have fU:=TK.out.c0
 have fQ:=TK.out.c1
 have iU:=TH.out.c0
 have iT:=TH.out.c1
 have iR:=TH.out.c2
 go_wp2_with fail
 refine (jc GL a5 l5 c5 zs _ SL.out (H5.out.below BW.out) n5).mono ?_
 rintro e w21 ⟨rfl,b⟩
 clear dO dN dR dQ dP fU fQ iU iT iR
 have BW:=hid (BW.out.trans (b.mono BW.out.size))
 have TM:=hid (TM.out.below b TM.out.lt)
 have TG:=hid (TG.out.below b TG.out.lt)
 have SA:=hid (SA.out.below b)
 have SB:=hid (SB.out.below b)
 have SO:=hid (SO.out.below b)
 have SN:=hid (SN.out.below b)
 have TK:=hid (TK.out.below b TK.out.lt)
 have SL:=hid (SL.out.below b)
 have ST:=hid (ST.out.below b)
 have SS:=hid (SS.out.below b)
 have TH:=hid (TH.out.below b TH.out.lt)
 clear b
 have dO:=TM.out.c0
 have dN:=TM.out.c1
 have dR:=TG.out.c0
 have dQ:=TG.out.c1
 have dP:=TG.out.c2
 have fU:=TK.out.c0
 have fQ:=TK.out.c1
 have iU:=TH.out.c0
 have iT:=TH.out.c1
 have iR:=TH.out.c2
 go_wp2_with fail
 refine (yK GT GT l6 c6 a6 zts gs2 p3 p4 vO2 w _ H6.out BW.out hGT ST.out n6 R6.out).mono ?_
 rintro e w22 ⟨rfl,b⟩
 clear dO dN dR dQ dP fU fQ iU iT iR
 have BW:=hid (BW.out.trans (b.mono BW.out.size))
 have TM:=hid (TM.out.below b TM.out.lt)
 have TG:=hid (TG.out.below b TG.out.lt)
 have SA:=hid (SA.out.below b)
 have SB:=hid (SB.out.below b)
 have SO:=hid (SO.out.below b)
 have SN:=hid (SN.out.below b)
 have TK:=hid (TK.out.below b TK.out.lt)
 have SL:=hid (SL.out.below b)
 have ST:=hid (ST.out.below b)
 have SS:=hid (SS.out.below b)
 have TH:=hid (TH.out.below b TH.out.lt)
 clear b
 have dO:=TM.out.c0
 have dN:=TM.out.c1
 have dR:=TG.out.c0
 have dQ:=TG.out.c1
 have dP:=TG.out.c2
 have fU:=TK.out.c0
 have fQ:=TK.out.c1
 have iU:=TH.out.c0
 have iT:=TH.out.c1
 have iR:=TH.out.c2
 go_wp2_with fail
 refine (jc GS a7 l7 c7 ss _ SS.out (H7.out.below BW.out) n7).mono ?_
 rintro e w23 ⟨rfl,b⟩
 clear dO dN dR dQ dP fU fQ iU iT iR
 have BW:=hid (BW.out.trans (b.mono BW.out.size))
 have TM:=hid (TM.out.below b TM.out.lt)
 have TG:=hid (TG.out.below b TG.out.lt)
 have SA:=hid (SA.out.below b)
 have SB:=hid (SB.out.below b)
 have SO:=hid (SO.out.below b)
 have SN:=hid (SN.out.below b)
 have TK:=hid (TK.out.below b TK.out.lt)
 have SL:=hid (SL.out.below b)
 have ST:=hid (ST.out.below b)
 have SS:=hid (SS.out.below b)
 have TH:=hid (TH.out.below b TH.out.lt)
 clear b
 have dO:=TM.out.c0
 have dN:=TM.out.c1
 have dR:=TG.out.c0
 have dQ:=TG.out.c1
 have dP:=TG.out.c2
 have fU:=TK.out.c0
 have fQ:=TK.out.c1
 have iU:=TH.out.c0
 have iT:=TH.out.c1
 have iR:=TH.out.c2
 go_wp2_with fail
 go_ret
 exact ⟨rfl,BW.out⟩
theorem ady (hm1:s1.size≤maxLen) (hm2:s2.size≤1048576) (h1:Ints w a1 l1 c1 zu) (h2:Ints w a2 l2 c2 zl) (h3:Ints w a3 l3 c3 zo) (h4:Lists w a4 l4 c4 zss) (h5:Ints w a5 l5 c5 zs) (h6:Lists w a6 l6 c6 zts) (h7:Ints w a7 l7 c7 ss)
  (n1:l1≤1048576) (n2:l2≤1048576) (n3:l3≤1048576) (n4:l4≤1048576) (n5:l5≤1048576) (n6:l6≤1048576) (n7:l7≤1048576) (r4:∀ i,i<l4→(zss.getD i []).length≤1048576) (r6:∀ i,i<l6→(zts.getD i []).length≤1048576) :
  Calls Tryz.prog 4 #[.string s1,.slice a1 l1 c1,.slice a2 l2 c2,.agg #[.slice a3 l3 c3,.slice a4 l4 c4],.string s2,.agg #[.slice a5 l5 c5,.slice a6 l6 c6,.slice a7 l7 c7]] w fun e w'=>e=.returned (.bool true)∧Below w.heap.size w w':=by
 have C:=hid (fun W (b:Below w.heap.size w W)=>XI s1 s2 a1 a2 a3 a4 a5 a6 a7 l1 c1 l2 c2 l3 c3 l4 c4 l5 c5 l6 c6 l7 c7 zu zl zo zss zs zts ss W hm1 hm2 (h1.below b) (h2.below b) (h3.below b) (h4.below b) (h5.below b) (h6.below b) (h7.below b) n1 n2 n3 n4 n5 n6 n7 r4 r6)
 have ba:=((Below.refl w.heap.size w).alloc (Nat.le_refl _) (.cells #[.slice a3 l3 c3,.slice a4 l4 c4] 37)).alloc (by simp) (.cells #[.slice a5 l5 c5,.slice a6 l6 c6,.slice a7 l7 c7] 25)
 have BW:=hid ba
 have TM:=hid ((bF w (.slice a3 l3 c3) (.slice a4 l4 c4) 37).below ((Below.refl (w.heap.size+1) _).alloc (by simp) (.cells #[.slice a5 l5 c5,.slice a6 l6 c6,.slice a7 l7 c7] 25)) (Nat.lt_succ_self _))
 have TG:Hid (Three ((w.alloc (.cells #[.slice a3 l3 c3,.slice a4 l4 c4] 37)).alloc (.cells #[.slice a5 l5 c5,.slice a6 l6 c6,.slice a7 l7 c7] 25)) (w.heap.size+1) (.slice a5 l5 c5) (.slice a6 l6 c6) (.slice a7 l7 c7)):=hid (by
  have:=bK (w.alloc (.cells #[.slice a3 l3 c3,.slice a4 l4 c4] 37)) (.slice a5 l5 c5) (.slice a6 l6 c6) (.slice a7 l7 c7) 25
  simpa using this)
 clear h1 h2 h3 h4 h5 h6 h7 r4 r6 hm1 hm2 ba n1 n2 n3 n4 n5 n6 n7
 have t0:=TM.out.c0
 have t1:=TM.out.c1
 have u0:=TG.out.c0
 have u1:=TG.out.c1
 have u2:=TG.out.c2
 go_enter Tryz.func4,Tryz.ntmps4
 go_wp2_with fail
 refine (C.out _ BW.out).mono ?_
 rintro e w1 ⟨rfl,b⟩
 have TM1:=TM.out.below b TM.out.lt
 have TG1:=TG.out.below b TG.out.lt
 have BW1:=hid (BW.out.trans (b.mono BW.out.size))
 clear t0 t1 u0 u1 u2 b
 have t0:=TM1.c0
 have t1:=TM1.c1
 have u0:=TG1.c0
 have u1:=TG1.c1
 have u2:=TG1.c2
 clear TM1 TG1
 go_wp2_with fail
 refine (C.out _ BW1.out).mono ?_
 rintro e w2 ⟨rfl,b⟩
 have BW2:=hid (BW1.out.trans (b.mono BW1.out.size))
 clear b
 go_wp2_with fail
 go_ret
 exact ⟨rfl,BW2.out⟩
end
end Go.Proofs.YtjagijohfkffiabGreat
namespace Go.Proofs.YtjagijohfkffiabGreat.all
open Go.ChangeShapes Go.WideShapes Go.ChangeAt Go.RowKit Go.Deep
open Go.ChangeMaps (open_string shut_string)
set_option linter.unusedVariables false
theorem own:ownKnob Tryz.prog.godebug=none:=by kernel_rfl
theorem laidOut:laidOutB Tryz.prog=true:=by kernel_rfl
theorem aaI {H:Type} (d:DataW H):1≤Rows.uptoBulk d:=by
 cases d with
 | lit x=>cases x <;> simp only [Rows.uptoBulk] <;> omega
 | nil=>simp only [Rows.uptoBulk];omega
 | ptr d=>simp only [Rows.uptoBulk];omega
 | slice a b=>simp only [Rows.uptoBulk];omega
 | agg a=>simp only [Rows.uptoBulk];omega
 | iface t d=>simp only [Rows.uptoBulk];omega
 | map e=>simp only [Rows.uptoBulk];omega
 | held h=>simp only [Rows.uptoBulk];omega
theorem Ak {H:Type}:∀ (ds:List (DataW H)),ds.length≤Rows.uptoBulkAll ds
 | []=>by simp
 | d::r=>by
  have h1:=aaI d
  have h2:=Ak r
  simp only [Rows.uptoBulkAll,List.length_cons]
  omega
theorem jK {H:Type}:∀ (ds:List (DataW H)) (d:DataW H),d∈ds→Rows.uptoBulk d≤Rows.uptoBulkAll ds
 | [],d,h=>by cases h
 | x::r,d,h=>by
  simp only [Rows.uptoBulkAll]
  rcases List.mem_cons.1 h with rfl | h
  ·omega
  ·have:=jK r d h
   omega
theorem yL {H:Type} {enc:TypeId × Value→H} {W:World} {v:Value} {x:DataW H × List MemPlace} {fuel:Nat} (hf:DataW.trod enc Tryz.prog W 0 (fun _=>true) true fuel 22 [v]=some x):∃ a len cap zs,v=.slice a len cap∧Ints W a len cap zs∧len≤Rows.uptoBulk x.1:=by
 rcases open_ints Tryz.underlying22 Tryz.underlying3 (by kernel_rfl) hf with ⟨hcs,_⟩ | ⟨a,len,cap,zs,hcs,_,hl,hm,hz,hx,hcell,hwz⟩
 ·simp at hcs
  subst hcs
  exact ⟨none,0,0,[],rfl,⟨rfl,Nat.le_refl _,by omega,fun _=>⟨rfl,rfl⟩,fun h=>by omega⟩,by omega⟩
 ·simp at hcs
  subst hcs
  have hz2:zs.length=cap:=by simpa using hz
  unfold maxLen at hm
  refine ⟨some a,len,cap,zs.take len,rfl,⟨by rw [List.length_take];omega,hl,hm,fun h=>by simp at h,fun h0=>?_⟩,?_⟩
  ·obtain ⟨b,off,hx,hc⟩:=ints_at hcell (by omega)
   subst hx
   refine ⟨b,off,rfl,World.block_lt_of_cell? W ⟨b,off+0,none⟩ (hc 0 (by omega)),fun i hi=>?_⟩
   rw [hc i (by omega)]
   simp [List.getD,List.getElem?_take_of_lt hi]
  ·rw [hx]
   simp only [Rows.uptoBulk]
   have:=Ak (lits (H:=H) .i64 (zs.take len))
   have e:(lits (H:=H) .i64 (zs.take len)).length=len:=by simp [lits];omega
   omega
theorem Na {H:Type} {enc:TypeId × Value→H} {W:World} {v:Value} {x:DataW H × List MemPlace} {fuel:Nat} (hf:DataW.trod enc Tryz.prog W 0 (fun _=>true) true fuel 23 [v]=some x):∃ a len cap zss,v=.slice a len cap∧Lists W a len cap zss∧len≤Rows.uptoBulk x.1∧∀ i,i<len→(zss.getD i []).length≤Rows.uptoBulk x.1:=by
 rcases open_int_rows Tryz.underlying23 Tryz.underlying22 Tryz.underlying3 (by kernel_rfl) (by kernel_rfl) hf with ⟨hcs,_⟩ | ⟨x',len,cap,A,L,C,Z,hcs,_,hl,hm,hx,hr⟩
 ·simp at hcs
  subst hcs
  exact ⟨none,0,0,[],rfl,⟨rfl,Nat.le_refl _,by omega,fun _=>⟨rfl,rfl⟩,fun h=>by omega⟩,by omega,fun i h=>by omega⟩
 ·simp at hcs
  subst hcs
  unfold maxLen at hm
  have hg:∀ i,i<len→((List.range len).map fun r=>(Z r).take (L r)).getD i []=(Z i).take (L i):=fun i hi=>by simp [List.getD,List.getElem?_map,List.getElem?_range hi]
  refine ⟨some x',len,cap,(List.range len).map fun r=>(Z r).take (L r),rfl,⟨by simp,hl,hm,fun h=>by simp at h,fun h0=>?_⟩,?_,fun i hi=>?_⟩
  ·obtain ⟨b,off,spot⟩:=x'
   have hspot:spot=none:=by simpa [Addr.add] using World.cell?_spot (hr 0 (by omega)).1
   subst hspot
   have hc:∀ r,r<cap→W.cell? ⟨b,off+r,none⟩=some (.slice (A r) (L r) (C r)):=fun r h=>by
    have:=(hr r h).1
    rwa [Go.WideShapes.add_plain] at this
   refine ⟨b,off,rfl,World.block_lt_of_cell? W ⟨b,off+0,none⟩ (hc 0 (by omega)),fun i hi=>⟨A i,L i,C i,hc i (by omega),?_⟩⟩
   rw [hg i hi]
   obtain ⟨_,q1,q2,q3,_,q4,q5⟩:=hr i (by omega)
   unfold maxLen at q2
   refine ⟨by rw [List.length_take];omega,q1,q2,fun h=>⟨by have:=q4 h;omega,q4 h⟩,fun h0=>?_⟩
   cases ha:A i with
   | none=>have:=q4 ha;omega
   | some a'=>
    have q6:=(q5 a' ha).2
    obtain ⟨b',off',sp⟩:=a'
    have hsp:sp=none:=by simpa [Addr.add] using World.cell?_spot (q6 0 (by omega))
    subst hsp
    have q7:∀ j,j<C i→W.cell? ⟨b',off'+j,none⟩=some (.int .i64 ((Z i).getD j 0)):=fun j hj=>by rw [←Go.WideShapes.add_plain];exact q6 j hj
    refine ⟨b',off',rfl,World.block_lt_of_cell? W ⟨b',off'+0,none⟩ (q7 0 (by omega)),fun j hj=>?_⟩
    rw [q7 j (by omega)]
    simp [List.getD,List.getElem?_take_of_lt hj]
  ·rw [hx]
   simp only [Rows.uptoBulk]
   have:=Ak ((List.range len).map fun r=>intRow (H:=H) .i64 (A r) (L r) (Z r))
   simp only [List.length_map,List.length_range] at this
   omega
  ·rw [hg i hi,List.length_take,hx]
   simp only [Rows.uptoBulk]
   have hm1:=jK ((List.range len).map fun r=>intRow (H:=H) .i64 (A r) (L r) (Z r)) (intRow .i64 (A i) (L i) (Z i)) (List.mem_map.2 ⟨i,List.mem_range.2 hi,rfl⟩)
   generalize Rows.uptoBulkAll ((List.range len).map fun r=>intRow (H:=H) .i64 (A r) (L r) (Z r))=T at *
   obtain ⟨_,q1,q2,q3,_,q4,q5⟩:=hr i (by omega)
   cases ha:A i with
   | none=>have:=q4 ha;omega
   | some a'=>
    rw [ha] at hm1
    simp only [intRow,Rows.uptoBulk] at hm1
    have:=Ak (lits (H:=H) .i64 ((Z i).take (L i)))
    have e:(lits (H:=H) .i64 ((Z i).take (L i))).length=min (L i) (Z i).length:=by simp [lits]
    omega
theorem adJ {α:Type} {cs:Array α} (h:cs.size=2):∃ c0 c1,cs=#[c0,c1]:=⟨cs[0],cs[1],by
 apply Array.ext
 ·simp [h]
 ·intro i h1 h2
  have:i=0∨i=1:=by omega
  rcases this with rfl | rfl <;> rfl⟩
theorem YN {α:Type} {cs:Array α} (h:cs.size=3):∃ c0 c1 c2,cs=#[c0,c1,c2]:=⟨cs[0],cs[1],cs[2],by
 apply Array.ext
 ·simp [h]
 ·intro i h1 h2
  have:i=0∨i=1∨i=2:=by omega
  rcases this with rfl | rfl | rfl <;> rfl⟩
theorem aeX:Tryz.prog.cellsOf 37=2:=by kernel_rfl
theorem cells3:Tryz.prog.cellsOf 25=3:=by kernel_rfl
theorem TI {H:Type} {enc:TypeId × Value→H} {W:World} {base:Nat} {v:Value} {d:DataW H} {p:List MemPlace} (hv:Value.okWide Tryz.prog W .any base 37 v) (h:DataW.Trod enc Tryz.prog W 0 (fun _=>true) true 37 v d p) :
  ∃ a1 l1 c1 a2 l2 c2 os ls,v=.agg #[.slice a1 l1 c1,.slice a2 l2 c2]∧Ints W a1 l1 c1 os∧Lists W a2 l2 c2 ls∧l1≤Rows.uptoBulk d∧l2≤Rows.uptoBulk d∧∀ i,i<l2→(ls.getD i []).length≤Rows.uptoBulk d:=by
 obtain ⟨cs,rfl,hsz⟩:=okWide_struct Tryz.underlying37 hv
 obtain ⟨c0,c1,rfl⟩:=adJ (hsz.trans aeX)
 obtain ⟨fuel,hf⟩:=h
 obtain ⟨y0,y1,n,hx,_,t0,t1⟩:=trod_struct2 Tryz.underlying37 hf
 have k0:Tryz.prog.cellsOf 22=1:=by kernel_rfl
 have k1:Tryz.prog.cellsOf 23=1:=by kernel_rfl
 obtain ⟨a1,l1,jO,os,rfl,hi,n1⟩:=yL (v:=c0) (by simpa [Value.cells,k0] using t0)
 obtain ⟨a2,l2,fP,ls,rfl,hl,n2,n3⟩:=Na (v:=c1) (by simpa [Value.cells,k1] using t1)
 have hd:d=.agg [y0.1,y1.1]:=congrArg Prod.fst hx
 have b0:=jK [y0.1,y1.1] y0.1 (by simp)
 have b1:=jK [y0.1,y1.1] y1.1 (by simp)
 refine ⟨a1,l1,jO,a2,l2,fP,os,ls,rfl,hi,hl,?_,?_,fun i hi'=>?_⟩
 all_goals rw [hd];simp only [Rows.uptoBulk]
 ·omega
 ·omega
 ·have:=n3 i hi';omega
theorem aac {H:Type} {enc:TypeId × Value→H} {W:World} {base:Nat} {v:Value} {d:DataW H} {p:List MemPlace} (hv:Value.okWide Tryz.prog W .any base 25 v) (h:DataW.Trod enc Tryz.prog W 0 (fun _=>true) true 25 v d p) :
  ∃ a1 l1 c1 a2 l2 c2 a3 l3 c3 zs zss ss,v=.agg #[.slice a1 l1 c1,.slice a2 l2 c2,.slice a3 l3 c3]∧Ints W a1 l1 c1 zs∧Lists W a2 l2 c2 zss∧Ints W a3 l3 c3 ss∧l1≤Rows.uptoBulk d∧l2≤Rows.uptoBulk d∧l3≤Rows.uptoBulk d∧∀ i,i<l2→(zss.getD i []).length≤Rows.uptoBulk d:=by
 obtain ⟨cs,rfl,hsz⟩:=okWide_struct Tryz.underlying25 hv
 obtain ⟨c0,c1,c2,rfl⟩:=YN (hsz.trans cells3)
 obtain ⟨fuel,hf⟩:=h
 obtain ⟨y0,y1,y2,n,hx,_,t0,t1,t2⟩:=trod_struct3 Tryz.underlying25 hf
 have k0:Tryz.prog.cellsOf 22=1:=by kernel_rfl
 have k1:Tryz.prog.cellsOf 23=1:=by kernel_rfl
 obtain ⟨a1,l1,jO,zs,rfl,hi,n1⟩:=yL (v:=c0) (by simpa [Value.cells,k0] using t0)
 obtain ⟨a2,l2,fP,zss,rfl,hl,n2,n3⟩:=Na (v:=c1) (by simpa [Value.cells,k0,k1] using t1)
 obtain ⟨a3,l3,cc3,ss,rfl,hs,n4⟩:=yL (v:=c2) (by simpa [Value.cells,k0,k1] using t2)
 have hd:d=.agg [y0.1,y1.1,y2.1]:=congrArg Prod.fst hx
 have b0:=jK [y0.1,y1.1,y2.1] y0.1 (by simp)
 have b1:=jK [y0.1,y1.1,y2.1] y1.1 (by simp)
 have b2:=jK [y0.1,y1.1,y2.1] y2.1 (by simp)
 refine ⟨a1,l1,jO,a2,l2,fP,a3,l3,cc3,zs,zss,ss,rfl,hi,hl,hs,?_,?_,?_,fun i hi'=>?_⟩
 all_goals rw [hd];simp only [Rows.uptoBulk]
 ·omega
 ·omega
 ·omega
 ·have:=n3 i hi';omega
theorem lifted (os:Os) (started:os.Started) (H:Type) (enc:TypeId × Value→H) (F:Stop.Interp) :
  ReturnsInHanded {} Tryz.checked os 4 .any ((Rows.OpenSpec.upto Rows.allSpec).pre6 enc Tryz.prog Tryz.f4 Rows.allUptoRow.domain false) (((Rows.OpenSpec.upto Rows.allSpec).at F).post enc Tryz.prog Tryz.f4 false true false false):=by
 refine returnsInHanded_of_cond (C:=Tryz.checked) (s:=Rows.OpenSpec.upto Rows.allSpec) (k:=Rows.uptoSmall) rfl own started (by kernel_rfl) Tryz.func4
  (OpenSpec.witness (enc:=enc) (C:=Tryz.checked) (s:=Rows.OpenSpec.upto Rows.allSpec) (k:=Rows.uptoSmall) rfl false ⟨#[],#[.string .empty,.slice none 0 0,.slice none 0 0,.agg #[.slice none 0 0,.slice none 0 0],.string .empty,.agg #[.slice none 0 0,.slice none 0 0,.slice none 0 0]],[]⟩ 8 (by kernel_rfl) (by kernel_rfl) (by kernel_rfl)
   (x:=([.lit (.string []),.nil,.nil,.agg [.nil,.nil],.lit (.string []),.agg [.nil,.nil,.nil]],[],[])) (by kernel_rfl) rfl (by kernel_rfl)) ?_
 intro W base args ds gs before hval0 hW _ hk _
 have hval:∀ (j:Nat) t v,Tryz.f4.params[j]?=some t→args[j]?=some v→Value.okWide Tryz.prog W .any base t v:=hval0
 have hW':=hW
 obtain ⟨p,q,hA0,hV,rfl,hfz,hnd⟩:=hW
 have hA:DataW.TrodAll enc Tryz.prog W 0 (fun _=>true) true Tryz.f4.params.toList args.toList ds p:=hA0
 rw [Tryz.params4] at hA hval
 obtain ⟨v0,vs0,d0,ds0,p0,q0,hargs,rfl,rfl,h0,r0⟩:=trodAll_cons hA
 obtain ⟨v1,vs1,d1,ds1,p1,q1,rfl,rfl,rfl,h1,r1⟩:=trodAll_cons r0
 obtain ⟨v2,vs2,d2,ds2,p2,q2,rfl,rfl,rfl,h2,r2⟩:=trodAll_cons r1
 obtain ⟨v3,vs3,d3,ds3,p3,q3,rfl,rfl,rfl,h3,r3⟩:=trodAll_cons r2
 obtain ⟨v4,vs4,d4,ds4,p4,q4,rfl,rfl,rfl,h4,r4⟩:=trodAll_cons r3
 obtain ⟨v5,vs5,d5,ds5,p5,q5,rfl,rfl,rfl,h5,r5⟩:=trodAll_cons r4
 obtain ⟨rfl,rfl,rfl⟩:=trodAll_nil r5
 obtain rfl:args=#[v0,v1,v2,v3,v4,v5]:=by cases args;simp_all
 obtain ⟨rfl,rfl⟩:=trodVars_none hV
 have amz:Rows.uptoBulkAll [d0,d1,d2,d3,d4,d5]≤1048576:=of_decide_eq_true hk
 have m1:=jK [d0,d1,d2,d3,d4,d5] d1 (by simp)
 have m2:=jK [d0,d1,d2,d3,d4,d5] d2 (by simp)
 have m3:=jK [d0,d1,d2,d3,d4,d5] d3 (by simp)
 have m4:=jK [d0,d1,d2,d3,d4,d5] d4 (by simp)
 have m5:=jK [d0,d1,d2,d3,d4,d5] d5 (by simp)
 obtain ⟨s1,rfl,rfl,rfl,w0⟩:=open_string Tryz.underlying9 (hval 0 9 v0 rfl rfl) h0
 obtain ⟨s2,rfl,rfl,rfl,w4⟩:=open_string Tryz.underlying9 (hval 4 9 v4 rfl rfl) h4
 have FX:∀ x∈p1,x.block<W.heap.size:=by obtain ⟨m,hm⟩:=h1;exact DataW.trod_lt m _ _ _ hm
 have FW:∀ x∈p2,x.block<W.heap.size:=by obtain ⟨m,hm⟩:=h2;exact DataW.trod_lt m _ _ _ hm
 have lt3:∀ x∈p3,x.block<W.heap.size:=by obtain ⟨m,hm⟩:=h3;exact DataW.trod_lt m _ _ _ hm
 have lt5:∀ x∈p5,x.block<W.heap.size:=by obtain ⟨m,hm⟩:=h5;exact DataW.trod_lt m _ _ _ hm
 obtain ⟨a1,len1,cap1,rfl⟩:=okWide_slice Tryz.underlying22 (hval 1 22 v1 rfl rfl)
 obtain ⟨a2,len2,cap2,rfl⟩:=okWide_slice Tryz.underlying22 (hval 2 22 v2 rfl rfl)
 obtain ⟨a1',len1',cap1',z1,e1,w1,n1⟩:∃ a len cap zs,Value.slice a1 len1 cap1=.slice a len cap∧Ints W a len cap zs∧len≤Rows.uptoBulk d1:=by obtain ⟨m,hm⟩:=h1;exact yL (by simpa [Value.cells] using hm)
 cases e1
 obtain ⟨a2',len2',cap2',z2,e2,w2,n2⟩:∃ a len cap zs,Value.slice a2 len2 cap2=.slice a len cap∧Ints W a len cap zs∧len≤Rows.uptoBulk d2:=by obtain ⟨m,hm⟩:=h2;exact yL (by simpa [Value.cells] using hm)
 cases e2
 obtain ⟨a3,l3,c3,a4,l4,c4,zo,zss,rfl,w3,w3',n3,n4,n4'⟩:=TI (hval 3 37 v3 rfl rfl) h3
 obtain ⟨a5,l5,c5,a6,l6,c6,a7,l7,c7,zs,zts,ss,rfl,w5,w6,w7,n5,n6,n7,n6'⟩:=aac (hval 5 25 v5 rfl rfl) h5
 have hs2:s2.size≤1048576:=by
  simp only [Rows.uptoBulk] at m4
  have e:s2.data.toList.length=s2.size:=by rw [Array.length_toList];rfl
  omega
 clear hA0 hval0
 refine (ady s1 s2 a1 a2 a3 a4 a5 a6 a7 len1 cap1 len2 cap2 l3 c3 l4 c4 l5 c5 l6 c6 l7 c7 z1 z2 zo zss zs zts ss W w0 hs2 w1 w2 w3 w3' w5 w6 w7 (by omega) (by omega) (by omega) (by omega) (by omega) (by omega) (by omega) (fun i hi=>by have:=n4' i hi;omega) (fun i hi=>by have:=n6' i hi;omega)).mono fun e W' ⟨he,aO⟩=>?_
 subst he
 exact ⟨_,rfl,_,_,_,[],_,[],hW',trodAll_mk1 (shut_bool Tryz.underlying4 _),(trodAll_cons_mk (shut_string Tryz.underlying9 w0) (trodAll_cons_mk (Below.trod laidOut (by kernel_rfl) (of_decide_eq_true (by kernel_rfl)) h1 aO FX) (trodAll_cons_mk (Below.trod laidOut (by kernel_rfl) (of_decide_eq_true (by kernel_rfl)) h2 aO FW) (trodAll_cons_mk (Below.trod laidOut (by kernel_rfl) (of_decide_eq_true (by kernel_rfl)) h3 aO lt3) (trodAll_cons_mk (shut_string Tryz.underlying9 w4) (trodAll_cons_mk (Below.trod laidOut (by kernel_rfl) (of_decide_eq_true (by kernel_rfl)) h5 aO lt5) trodAll_mk0)))))),rfl,aO.frame _,fun h=>by cases h⟩
theorem proved:Rows.AllUptoSaid:=
 OpenClaim.holds_of_cond 4 Tryz.f4 rfl rfl rfl rfl rfl rfl rfl ⟨rfl,rfl,rfl,rfl,rfl⟩ rfl rfl rfl rfl rfl (by kernel_rfl) Tryz.func4 (by kernel_rfl)
  (of_decide_eq_true (by kernel_rfl)) (by unfold Func.isWrapper;first | (rw [if_pos (by decide +kernel)];kernel_rfl) | (rw [if_neg (by decide +kernel)];exact ⟨rfl,rfl⟩))
  (fun os started H enc _ F=>lifted os started H enc F)
end Go.Proofs.YtjagijohfkffiabGreat.all
namespace Go.Proofs.YtjagijohfkffiabGreat
theorem all_holds:Rows.AllUptoSaid:=all.proved
end Go.Proofs.YtjagijohfkffiabGreat
