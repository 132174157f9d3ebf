/- The law on a byte that comes in spoilt, walked; own lemmas of the verifier, no statement is proved here. -/
import Derived.Test.YtiajebbfgpnenaaGreatDoorQC
namespace Go.Proofs.YtiajebbfgpnenaaGreatDoor.C
open Go.RowKit
set_option maxRecDepth 100000
set_option maxHeartbeats 8000000
theorem heal_nums(i n B:Nat)(hi:i<B)(hB:B<=200)(_hn:n<=16){P:Nat->Nat->Prop}(hP:P (i/n*n) (min B (i/n*n+2*n))):
  ∃r F T:Nat,F<=i/\T<=B/\wrap64 ((i:Int)/(n:Int))=r/\wrap64 ((r:Int)*(n:Int))=F/\((B:Int)<=(F:Int)+2*(n:Int)->(B:Int)=(T:Int))/\((F:Int)+2*(n:Int)<(B:Int)->(F:Int)+2*(n:Int)=(T:Int))/\P F T:=by
 have h1:i/n*n<=i:=Nat.div_mul_le_self i n;have h2:i/n<=i:=Nat.div_le_self i n;refine⟨i/n,i/n*n,min B (i/n*n+2*n),h1,Nat.min_le_left _ _,?_,?_,?_,?_,hP⟩
 ·rw[<-Int.natCast_ediv];generalize i/n=q at h1 h2 ⊢;exact IntWalk.wrap64_in _ (by omega)
 ·rw[<-Int.natCast_mul];generalize i/n*n=q at h1 ⊢;exact IntWalk.wrap64_in _ (by omega)
 ·generalize i/n*n=q at h1 ⊢;omega
 ·generalize i/n*n=q at h1 ⊢;omega
theorem own_head{w:World}{base n:Nat}{v:Value}{xs:List UInt8}(h:Own w base v xs)(hn:xs.length=n)(hp:0<n):∃g c,v=.slice (some ⟨g,0,none⟩) n c/\(n<=c/\c<=9223372036854775807)/\base<=g/\g<w.heap.size:=by
 obtain⟨A,c,rfl,h1,h2,_⟩:=h.rdm hn;have hl:=World.ownsRow.lt h;rcases h.2 with⟨_,h3⟩|⟨g,cap,cur,e,hb,_⟩
 ·omega
 ·cases e;exact⟨g,c,rfl,⟨h1,h2⟩,hb,(hl g rfl).2⟩
def hvK(F B T:Nat)(O1 O2:List UInt8):List K:=[.byc B (O1),.eq (.int .i64 F),.byt F (O1.take F),.eq (.string (str (O1.take F))),.byc B (O2),.eq (.int .i64 F),.byt F (O1.take F),.eq (.string (str (O1.take F))),.eq (.bool true),.eq (.bool true),.byc B (O1),.eq (.int .i64 T),.byt (B-T) (O1.drop T),.eq (.string (str (O1.drop T))),.byc B (O2),.eq (.int .i64 T),.byt (B-T) (O1.drop T),.eq (.string (str (O1.drop T))),.eq (.bool true),.eq (.bool true),.eq (.bool true)]
theorem mheal_walk[Inhabited D.BT][Inhabited S.RT](a0:Int)(a1:Int)(a2:Option Addr)(len2 cap2:Nat)(z2:List Int)(a3:Bool)(a4:Option Addr)(len4 cap4:Nat)(z4:List Int)(a5:Option Addr)(len5 cap5:Nat)(z5:List Int)(a6:Int)(a7:Int)(w:World)(_w0:(Lit.int .i64 a0).wf=true)(_w1:(Lit.int .i64 a1).wf=true)(w2:IsRow .u8 w a2 len2 cap2 z2)(w4:IsRow .u8 w a4 len4 cap4 z4)(w5:IsRow .u8 w a5 len5 cap5 z5)(_w6:(Lit.int .i64 a6).wf=true)(_w7:(Lit.int .u8 a7).wf=true)(hG:GC w):
  Calls Tryz.prog 9 #[.int .i64 a0,.int .i64 a1,.slice a2 len2 cap2,.bool a3,.slice a4 len4 cap4,.slice a5 len5 cap5,.int .i64 a6,.int .u8 a7] w fun e w'=>e=.returned (.bool true)/\Below w.heap.size w w':=by
 obtain⟨ks,hrk,hlk,_⟩:=w2.rdb;obtain⟨vs,hrv,hlv,_⟩:=w4.rdb;obtain⟨bs,hrb,hlb,hcb⟩:=w5.rdb;obtain⟨f,n,hF,hn,hB⟩:=zn6 a0 a1 ks;obtain⟨m,hm,hme⟩:∃m:Nat,(m=2\/m=4)/\(if a3=true then 4 else 2)=m:=⟨_,by cases a3<;>simp,rfl⟩;have HG:=hid hG;have HF:=hid hF;have HN:=hid hn;have HB:=hid hB;have HRK:=hid hrk;have HLK:=hid hlk;have HRV:=hid hrv;have HLV:=hid hlv;have HRB:=hid hrb;have HCB:=hid hcb;have HM:=hid hm;have HME:=hid hme;clear hG hF hn hB hrk hlk hrv hlv hrb w2 w4 w5 hme hlb hcb hm;go_enter Tryz.func9,Tryz.ntmps9;go_wp2_with fail
 refine(zol w HG.out).mono ?_;rintro e w1 ⟨rfl,hx1⟩;have HX1:=hid hx1;clear hx1;by_cases hbig:200<len5
 ·have hb1:decide ((200:Int)<len5)=true:=by simp;omega
  clear hbig;go_wp2_with fail
  go_ret;exact⟨rfl,HX1.out⟩
 have hb1:decide ((200:Int)<len5)=false:=by simp;omega
 have HLB:=hid (show len5<=200 by omega);clear hbig;go_wp2_with fail
 refine(HB.out a2 len2 cap2 w1 (HG.out.later HX1.out) (HRK.out.later HX1.out) HLK.out).mono ?_;rintro e w2 ⟨pc,pd,rfl,_,hI,hx2⟩;have HX2:=hid (Ext.trans HX1.out hx2);have HI:=hid hI;clear hx2 hI HX1;go_upto_if 47 with fail
 go_cut [19] (fun v wx=>wx=w2/\v=.int .i64 m)
 case first =>
  have hme:=HME.out;cases a3
  all_goals
   simp at hme;subst hme;go_wp2_with fail
   go_meet
   exact⟨rfl,rfl⟩
 case rest =>
  rename_i hQ;obtain⟨hw,rfl⟩:=hcut;apply hQ;clear hQ;subst hw;go_wp2_with fail
  refine(zcO pc n f wc HI.out).mono ?_;rintro e w3 ⟨rfl,rfl⟩;have hgp:=HF.out.pos;have hgn:=HN.out;obtain⟨q,B,hBq,hBL,hq2,hBm,hw3,hw1,hw2⟩:=whole len5 n HLB.out ⟨hgp,hgn⟩;have HBQ:=hid (And.intro hBq hBm);have HW3:=hid hw3;have hB0:B<=cap5:=Nat.le_trans hBL HCB.out.1;have hB200:B<=200:=Nat.le_trans hBL HLB.out;clear hBq hBm hw3;go_upto_region 13 with fail
  clear hw1 hw2;by_cases hB1:B=0
  ·subst hB1;go_wp2_with fail
   go_ret;exact⟨rfl,HX2.out⟩
  have hB2:((B:Int)==0)=false:=by simp;omega
  have hB3:1<=B:=by omega
  clear hB1;go_wp2_with fail
  clear hB2;have hm6:1<=m/\m<=6:=by have:=HM.out;omega
  have HM6:=hid hm6;clear hm6;refine(zlb m n a4 len4 cap4 vs wc (HRV.out.later HX2.out) (by have:=HN.out;omega) HLV.out).mono ?_;rintro e w3 ⟨v3,rfl,ho3,hx3⟩;obtain⟨A3,c3,rfl,_,hr3,_⟩:=ho3.rdf (zfk n m vs);have HX3:=hid (Ext.trans HX2.out hx3);have HI3:=hid (HI.out.later hx3);have HR3:=hid hr3;clear ho3 hx3 hr3 HX2 HI;go_wp2_with fail
  refine(zeG pc n m true f A3 (ivN n m) c3 (ivL n m vs) w3 HM6.out ⟨HF.out.pos,by have:=HN.out;omega⟩ rfl HI3.out HR3.out).mono ?_;rintro e w4 ⟨p1,rfl,hp1,hM1,hx4⟩;have hcl:=zkm n (ivL n m vs) (by rw[zfk];unfold ivN;split<;>omega);obtain⟨ch,hch⟩:∃ch,ch0 n (ivL n m vs)=ch:=⟨_,rfl⟩;rw[hch] at hM1 hcl;have HCL:=hid hcl;have HG0:=hid (show Good n m ⟨ch,[]⟩ from⟨hcl,Nat.zero_le _⟩);obtain⟨s0,hs0⟩:∃s0,(⟨ch,[]⟩:St)=s0:=⟨_,rfl⟩;rw[hs0] at hM1 HG0;have HS0:=hid hs0;have HCH:=hid hch;have HX34:=hid hx4;have HP1:=hid hp1;have HM1:=hid hM1;have HX4:=hid (Ext.trans HX3.out hx4);have HI4:=hid (HI3.out.later hx4);clear hs0 hM1 hx4 hp1 HR3 hcl hch;go_wp2_with fail
  refine(zlb m n a4 len4 cap4 vs w4 (HRV.out.later HX4.out) (by have:=HN.out;omega) HLV.out).mono ?_;rintro e w5 ⟨v5,rfl,ho5,hx5⟩;obtain⟨A5,c5,rfl,_,hr5,_⟩:=ho5.rdf (zfk n m vs);have HX5:=hid (Ext.trans HX4.out hx5);have HX35:=hid (Ext.trans HX34.out hx5);have HM1:=hid (HM1.out.later hx5);have HI5:=hid (HI4.out.later hx5);have HR5:=hid hr5;clear ho5 hx5 hr5 HX4 HI4 HX34;go_wp2_with fail
  refine(zeG pc n m true f A5 (ivN n m) c5 (ivL n m vs) w5 HM6.out ⟨HF.out.pos,by have:=HN.out;omega⟩ rfl HI5.out HR5.out).mono ?_;rintro e w6 ⟨p2,rfl,hp2,hM2,hx6⟩;rw[HCH.out,HS0.out] at hM2;have HNE:=hid (show p1≠p2 by have:=HM1.out.lt;omega);have HP2:=hid (Nat.le_trans (Below.size HX35.out) hp2);have HM1:=hid (HM1.out.later hx6);have HM2:=hid hM2;have HX6:=hid (Ext.trans HX5.out hx6);have HX36:=hid (Ext.trans HX35.out hx6);clear hM2 hx6 hp2 HR5 HX35 HI5 HX5 HCH;go_wp2_with fail
  refine(zfL a6 (B:Int) w6 (by omega) (by omega)).mono ?_;rintro e w7 ⟨rfl,rfl⟩;obtain⟨i,hi,hib⟩:∃i:Nat,a6%(B:Int)=i/\i<B:=⟨(a6%(B:Int)).toNat,by have:=Int.emod_nonneg a6 (show(B:Int)≠0 by omega);have:=Int.emod_lt_of_pos a6 (show(0:Int)<B by omega);omega,by have:=Int.emod_nonneg a6 (show(B:Int)≠0 by omega);have:=Int.emod_lt_of_pos a6 (show(0:Int)<B by omega);omega⟩;rw[hi];have HRB6:=hid ((HRB.out.later HX6.out).cuthi B hBL);obtain⟨bb,hbb⟩:∃bb,bs.take B=bb:=⟨_,rfl⟩;rw[hbb] at HRB6;have hmod:bb.length%gr n m=0:=by rw[HRB6.out.len,HBQ.out.1];exact zu6 HM.out q
  have HMOD:=hid hmod;clear hi hbb hmod;go_upto_region 21 with(at_builtin;refine zba _ rfl (.tmp 91) (.tmp 92) 22 rfl Tryz.underlying22 Tryz.info5 w6.heap.size _ [] rfl (Own.lit w6 [] #[] 0 w6.heap.size rfl rfl (by decide) (Nat.le_refl _)) _ a5 B cap5 bb rfl (HRB6.out.later (Ext.alloc _ _)) (by simp;omega) (by simp) ?_;intro v7 w7 hown7 hb7)
  rw[List.nil_append] at hown7;obtain⟨g7,c7,rfl,hc7,hg7,hgl7⟩:=own_head hown7 HRB6.out.len (by omega);obtain⟨D,hcell7⟩:∃D:Nat,w7.cell? ⟨g7,i,none⟩=some (.int .u8 D):=⟨_,hown7.celln HRB6.out.len i hib⟩;have hfz7:=hown7.freen i;have HOWN7:=hid hown7;have HX67:=hid (show Ext w6 w7 from Below.trans (Ext.alloc w6 (.cells #[] 5)) hb7);clear hown7 hb7;go_wp2_with fail
  have hy:((u8 ((D:Int)+a7)).toNat:Int)=((D:Int)+a7)%256:=zbH _;rw[<-hy];obtain⟨y,hyy⟩:∃y,u8 ((D:Int)+a7)=y:=⟨_,rfl⟩;rw[hyy];clear hy hyy hcell7 hfz7;have hown8:=HOWN7.out.setn i y;obtain⟨W8,hW8⟩:∃W8,w7.setCell ⟨g7,i,none⟩ (.int .u8 (y.toNat:Int))=W8:=⟨_,rfl⟩;have hx8:Ext w6 W8:=by rw[<-hW8];exact HX67.out.setCell hg7 _
  rw[hW8] at hown8 ⊢;have hdl:(bb.set i y).length=B:=by rw[List.length_set,HRB6.out.len]
  have HDL:=hid hdl;obtain⟨_,_,e8,_,hr8,_⟩:=hown8.rdf hdl;cases e8
  have HR8:=hid hr8;have HM1:=hid (HM1.out.later hx8);have HM2:=hid (HM2.out.later hx8);have HX8:=hid (Ext.trans HX6.out hx8);have HX38:=hid (Ext.trans HX36.out hx8);have HRB8:=hid (HRB6.out.later hx8);have HBL:=hid HRB6.out.len;have hBM:B%gr n m=0:=by have:=HMOD.out;rwa[HBL.out] at this
  have HBM:=hid hBM;have HHEAL:=hid (zwD HF.out HM.out ch HCL.out bb (by rw[HBL.out];exact HBQ.out.2) i (by rw[HBL.out];exact hib) y);rw[HS0.out] at HHEAL;have HL1:=hid ((zbJ (back:=true) HF.out HG0.out bb HMOD.out).1.trans HBL.out);have HL2:=hid ((zbJ (back:=true) HF.out HG0.out (bb.set i y) (by rw[hdl];exact hBM)).1.trans hdl);clear hW8 hown8 hx8 hr8 hdl hBM HOWN7 HX67 HX6 HX36 HRB6 HMOD HCL;refine(zbP p1 pc n m true s0 f a5 B cap5 bb W8 w3 HM6.out HF.out (by have:=HN.out;omega) HG0.out HM1.out HI3.out HX38.out HP1.out HRB8.out ⟨hB0,HCB.out.2⟩ (by omega) HBM.out).mono ?_;rintro e w9 ⟨v9,rfl,ho9,_,hG9⟩;obtain⟨A9,c9,rfl,hc9,hr9,_⟩:=ho9.rdf (n:=B) HL1.out;have HM2:=hid (HM2.out.apart HM1.out.is (Ne.symm HNE.out) hG9);have HX39:=hid (zgh HX38.out hG9 HP1.out);have HB9:=hid (zco (B:=w.heap.size) HX8.out hG9 (Nat.le_trans (Below.size HX3.out) HP1.out) (Below.size HX8.out))
  have HR9:=hid (HR8.out.gb HM1.out.is hG9);have HO9:=hid hr9;have HC9:=hid hc9;clear ho9 hG9 hr9 HX38 HX8 HR8 HRB8 HM1 hc9;go_wp2_with fail
  refine(zbP p2 pc n m true s0 f _ B c7 (bb.set i y) w9 w3 HM6.out HF.out (by have:=HN.out;omega) HG0.out HM2.out HI3.out HX39.out HP2.out HR9.out hc7 (by omega) HBM.out).mono ?_;rintro e w10 ⟨v10,rfl,ho10,_,hG10⟩;obtain⟨A10,c10,rfl,hc10,hr10,_⟩:=ho10.rdf (n:=B) HL2.out;have HB10:=hid (zco (B:=w.heap.size) HB9.out hG10 (Nat.le_trans (Below.size HX3.out) HP2.out) (Below.size HB9.out));have HO10:=hid hr10;have HO9:=hid (HO9.out.gb HM2.out.is hG10);have HC10:=hid hc10;obtain⟨O1,hO1⟩:∃O1,(stp f n m true s0 bb).1=O1:=⟨_,rfl⟩;obtain⟨O2,hO2⟩:∃O2,(stp f n m true s0 (bb.set i y)).1=O2:=⟨_,rfl⟩;rw[hO1] at HO9 HHEAL;rw[hO2] at HO10 HHEAL;rw[HBL.out] at HHEAL;obtain⟨r,F,T,hF1,hT0,hr1,hr2,hT3,hT4,hhe⟩:=heal_nums i n B hib hB200 hgn (P:=fun F T=>O1.take F=O2.take F/\O1.drop T=O2.drop T) HHEAL.out;have HHE:=hid hhe;clear ho10 hG10 hr10 hc10 hhe hO1 hO2 HHEAL HL1 HL2 HM2 HR9 HX39 HB9 HDL HBM
  have HFB:=hid (Nat.le_trans hF1 (Nat.le_of_lt hib));have HTB:=hid hT0;have HTT:=hid (And.intro hT3 hT4);clear hT3 hT4;go_upto_region 27 with fail
  rw[hr2];clear hr1 hr2;go_cut [32] from 113 to 136 (fun v wx=>wx=w10/\v=.int .i64 T)
  case first =>
   go_wp2_with fail
   all_goals
    go_meet
    exact⟨rfl,by first|rw[HTT.out.1 h] | rw[HTT.out.2 h]⟩
  case rest =>
   rename_i hQ;obtain⟨hw,rfl⟩:=hcut;apply hQ;clear hQ;subst hw;go_wp2_with fail
   refine zmj mixed rfl (by kernel_rfl) (kV (hvK F B T O1 O2)) (zdm _) (zab ⟨?_,?_,?_,?_,?_,?_,?_,?_,?_,?_,?_,?_,?_,?_,?_,?_,?_,?_,?_,?_,?_,trivial⟩) ?_
   ·intro a w hk;have s27:a.tmps.getD 27 undef=.slice A9 B c9:=hk.was 27 (by kernel_rfl) rfl;have k27:=HC9.out.1;have r27:=(HO9.out).later hk.ext;exact zat rfl rfl s27 ⟨_,_,rfl,k27,r27⟩
   ·intro a w hk;have s31:a.tmps.getD 31 undef=.int .i64 F:=hk.was 31 (by kernel_rfl) rfl;exact zat rfl rfl s31 rfl
   ·intro a w hk;obtain⟨A137,c137,s137,k137,r137⟩:=hk.val 0 137 (by kernel_rfl) rfl;have s138:=hk.eq_ 1 138 (by kernel_rfl) rfl;exact zqK (l:=F) rfl rfl s137 s138 A.ziV A.zoO HFB.out k137 r137 (fun _ h=>by exact h)
   ·intro a w hk;obtain⟨A139,c139,s139,r139⟩:=hk.byt_ 2 139 (by kernel_rfl) rfl;exact zvl rfl rfl s139 (strq r139) rfl
   ·intro a w hk;have s29:a.tmps.getD 29 undef=.slice A10 B c10:=hk.was 29 (by kernel_rfl) rfl;have k29:=HC10.out.1;have r29:=(HO10.out).later hk.ext;exact zat rfl rfl s29 ⟨_,_,rfl,k29,r29⟩
   ·intro a w hk;have s31:a.tmps.getD 31 undef=.int .i64 F:=hk.was 31 (by kernel_rfl) rfl;exact zat rfl rfl s31 rfl
   ·intro a w hk;obtain⟨A141,c141,s141,k141,r141⟩:=hk.val 4 141 (by kernel_rfl) rfl;have s142:=hk.eq_ 5 142 (by kernel_rfl) rfl;exact zqK (l:=F) rfl rfl s141 s142 A.ziV A.zoO HFB.out k141 r141 (fun _ h=>by rw[<-HHE.out.1] at h;exact h)
   ·intro a w hk;obtain⟨A143,c143,s143,r143⟩:=hk.byt_ 6 143 (by kernel_rfl) rfl;exact zvl rfl rfl s143 (strq r143) rfl
   ·intro a w hk;have s140:=hk.eq_ 3 140 (by kernel_rfl) rfl;have s144:=hk.eq_ 7 144 (by kernel_rfl) rfl;refine zai (v:=.bool true) (w':=w) rfl ?_ (Ext.refl w) rfl;go_simp
   ·intro a w hk;have s145:=hk.eq_ 8 145 (by kernel_rfl) rfl;exact zat rfl rfl s145 rfl
   ·intro a w hk;refine hk.run 9 146 true true rfl (by kernel_rfl) rfl fun hw=>?_
    have s27:a.tmps.getD 27 undef=.slice A9 B c9:=hk.was 27 (by kernel_rfl) rfl;have k27:=HC9.out.1;have r27:=(HO9.out).later hk.ext;exact zat hw rfl s27 ⟨_,_,rfl,k27,r27⟩
   ·intro a w hk;refine hk.run 9 146 true true rfl (by kernel_rfl) rfl fun hw=>?_
    have s32:a.tmps.getD 32 undef=.int .i64 T:=hk.was 32 (by kernel_rfl) rfl;exact zat hw rfl s32 rfl
   ·intro a w hk;refine hk.run 9 146 true true rfl (by kernel_rfl) rfl fun hw=>?_
    obtain⟨A147,c147,s147,k147,r147⟩:=hk.val 10 147 (by kernel_rfl) rfl;have s148:=hk.eq_ 11 148 (by kernel_rfl) rfl;exact zh7 (l:=T) hw rfl s147 s148 A.ziV A.zoO HTB.out k147 r147 (fun _ h=>by exact h)
   ·intro a w hk;refine hk.run 9 146 true true rfl (by kernel_rfl) rfl fun hw=>?_
    obtain⟨A149,c149,s149,r149⟩:=hk.byt_ 12 149 (by kernel_rfl) rfl;exact zvl hw rfl s149 (strq r149) rfl
   ·intro a w hk;refine hk.run 9 146 true true rfl (by kernel_rfl) rfl fun hw=>?_
    have s29:a.tmps.getD 29 undef=.slice A10 B c10:=hk.was 29 (by kernel_rfl) rfl;have k29:=HC10.out.1;have r29:=(HO10.out).later hk.ext;exact zat hw rfl s29 ⟨_,_,rfl,k29,r29⟩
   ·intro a w hk;refine hk.run 9 146 true true rfl (by kernel_rfl) rfl fun hw=>?_
    have s32:a.tmps.getD 32 undef=.int .i64 T:=hk.was 32 (by kernel_rfl) rfl;exact zat hw rfl s32 rfl
   ·intro a w hk;refine hk.run 9 146 true true rfl (by kernel_rfl) rfl fun hw=>?_
    obtain⟨A151,c151,s151,k151,r151⟩:=hk.val 14 151 (by kernel_rfl) rfl;have s152:=hk.eq_ 15 152 (by kernel_rfl) rfl;exact zh7 (l:=T) hw rfl s151 s152 A.ziV A.zoO HTB.out k151 r151 (fun _ h=>by rw[<-HHE.out.2] at h;exact h)
   ·intro a w hk;refine hk.run 9 146 true true rfl (by kernel_rfl) rfl fun hw=>?_
    obtain⟨A153,c153,s153,r153⟩:=hk.byt_ 16 153 (by kernel_rfl) rfl;exact zvl hw rfl s153 (strq r153) rfl
   ·intro a w hk;refine hk.run 9 146 true true rfl (by kernel_rfl) rfl fun hw=>?_
    have s150:=hk.eq_ 13 150 (by kernel_rfl) rfl;have s154:=hk.eq_ 17 154 (by kernel_rfl) rfl;refine zai (v:=.bool true) (w':=w) hw ?_ (Ext.refl w) rfl;go_simp
   ·intro a w hk;have s146:=hk.eq_ 9 146 (by kernel_rfl) rfl;have s155:=hk.eq_ 18 155 (by kernel_rfl) rfl;exact zuY (b:=true) rfl rfl s146 s155 rfl
   ·intro a w hk;have s156:=hk.eq_ 19 156 (by kernel_rfl) rfl;exact zaO rfl rfl s156 rfl
   ·intro a w11 hf;obtain⟨A137,c137,s137,k137,r137⟩:=hf.val 0 137 (by kernel_rfl) rfl;have s138:=hf.eq_ 1 138 (by kernel_rfl) rfl;obtain⟨A139,c139,s139,r139⟩:=hf.val 2 139 (by kernel_rfl) rfl;have s140:=hf.eq_ 3 140 (by kernel_rfl) rfl;obtain⟨A141,c141,s141,k141,r141⟩:=hf.val 4 141 (by kernel_rfl) rfl;have s142:=hf.eq_ 5 142 (by kernel_rfl) rfl;obtain⟨A143,c143,s143,r143⟩:=hf.val 6 143 (by kernel_rfl) rfl;have s144:=hf.eq_ 7 144 (by kernel_rfl) rfl;have s145:=hf.eq_ 8 145 (by kernel_rfl) rfl;have s146:=hf.eq_ 9 146 (by kernel_rfl) rfl;obtain⟨A147,c147,s147,k147,r147⟩:=hf.val 10 147 (by kernel_rfl) rfl;have s148:=hf.eq_ 11 148 (by kernel_rfl) rfl;obtain⟨A149,c149,s149,r149⟩:=hf.val 12 149 (by kernel_rfl) rfl;have s150:=hf.eq_ 13 150 (by kernel_rfl) rfl;obtain⟨A151,c151,s151,k151,r151⟩:=hf.val 14 151 (by kernel_rfl) rfl;have s152:=hf.eq_ 15 152 (by kernel_rfl) rfl
    obtain⟨A153,c153,s153,r153⟩:=hf.val 16 153 (by kernel_rfl) rfl;have s154:=hf.eq_ 17 154 (by kernel_rfl) rfl;have s155:=hf.eq_ 18 155 (by kernel_rfl) rfl;have s156:=hf.eq_ 19 156 (by kernel_rfl) rfl;have s16:=hf.eq_ 20 16 (by kernel_rfl) rfl;have hx:=hf.ext;have e:=hf.frame;clear hf;simp only[zaW,Act.put,List.setIfInBounds_toArray,List.set_cons_zero,List.set_cons_succ,s137,s138,s139,s140,s141,s142,s143,s144,s145,s146,s147,s148,s149,s150,s151,s152,s153,s154,s155,s156,s16] at e;clear s137 s138 s139 s140 s141 s142 s143 s144 s145 s146 s147 s148 s149 s150 s151 s152 s153 s154 s155 s156 s16;subst e;have HBF:=hid (Below.trans HB10.out (Below.mono hx (Below.size HB10.out)));clear hx r137 r139 r141 r143 r147 r149 r151 r153;go_wp2;go_ret;exact⟨rfl,HBF.out⟩
end Go.Proofs.YtiajebbfgpnenaaGreatDoor.C
