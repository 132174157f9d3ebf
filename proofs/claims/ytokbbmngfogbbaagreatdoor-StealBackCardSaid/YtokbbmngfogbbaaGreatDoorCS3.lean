/- Walks over stolenBehind, chained of package steal; own lemmas of the verifier, no statement is proved here. -/
import Derived.Test.YtokbbmngfogbbaaGreatDoorCS2
namespace Go.Proofs.YtokbbmngfogbbaaGreatDoor.C
open Go.RowKit
set_option maxRecDepth 100000
set_option maxHeartbeats 8000000
theorem behind_any(m d n:Nat)(w:World)(hm:7<=m/\m<=9)(hd:d<=n):
  Calls Tryz.prog 22 #[.int .i64 m,.int .i64 d,.int .i64 n] w fun e w'=>e=.returned (.int .i64 (stN m d n:Nat))/\w=w':=by
 rcases (show m=7\/m=8\/m=9 by omega) with rfl|rfl|rfl
 ·have HE:=hid (show stN 7 d n=0 by unfold stN swp;simp);rw[HE.out];go_enter Tryz.func22,Tryz.ntmps22;go_wp2;go_ret;exact⟨rfl,rfl⟩
 ·by_cases hdn:d<n
  ·have HE:=hid (show stN 8 d n=d by unfold stN swp;rw[if_pos (by simp;omega)]);rw[HE.out];go_enter Tryz.func22,Tryz.ntmps22;go_wp2;go_ret;exact⟨rfl,rfl⟩
  ·have HE:=hid (show stN 8 d n=0 by unfold stN swp;rw[if_neg (by simp;omega)]);rw[HE.out];go_enter Tryz.func22,Tryz.ntmps22;go_wp2;go_ret;exact⟨rfl,rfl⟩
 ·have HE:=hid (show stN 9 d n=d by unfold stN swp;simp);rw[HE.out];go_enter Tryz.func22,Tryz.ntmps22;go_wp2;go_ret;exact⟨rfl,rfl⟩
def SlRet(w:World)(n:Nat)(bs:List UInt8)(e:Ending)(w':World):Prop:=∃A c,e=.returned (.slice A n c)/\(n<=c/\c<=9223372036854775807)/\Rd w' w'.heap.size A n bs/\Ext w w'/\Fr w.heap.size A
theorem sl_own{w w':World}{n:Nat}{bs:List UInt8}{e:Ending}(h:∃v,e=.returned v/\Own w' w.heap.size v bs/\Ext w w')(hl:bs.length=n):SlRet w n bs e w':=by
 obtain⟨v,rfl,ho,hx⟩:=h;obtain⟨A,c,rfl,hc,hr,hf⟩:=ho.rdf hl;exact⟨A,c,rfl,hc,hr,hx,hf⟩
theorem spl_pad(b:List UInt8)(n:Nat):splice (List.replicate n (Value.int .u8 0)) 0 (cellsOf (b.take n))=cellsOf (stQ n (b.take n)):=by
 unfold splice stQ;rw[List.take_zero,List.nil_append,Nat.zero_add,zaa,List.drop_replicate,zcY];simp[cellsOf]
theorem cat_two(A1 A2:Option Addr)(n1 n2 c1 c2 N:Nat)(xs ys:List UInt8)(w:World)(h1:Rd w w.heap.size A1 n1 xs)(h2:Rd w w.heap.size A2 n2 ys)(hN:n1+n2=N)(h0:0<N)(hl:N<=1000):
  Calls Tryz.prog 45 #[.slice (some ⟨w.heap.size,0,none⟩) 2 2] (w.alloc (.cells #[.slice A1 n1 c1,.slice A2 n2 c2] 22)) (SlRet w N (xs++ys)):=by
 have hrow:=A.RowsB.two w A1 A2 n1 n2 c1 c2 22 xs ys h1 h2;have e1:=h1.len;have e2:=h2.len;have hfl:[xs,ys].flatten=xs++ys:=by simp
 have hlen:(xs++ys).length=N:=by rw[List.length_append];omega
 refine(A.zcc w.heap.size 0 2 2 [xs,ys] _ rfl hrow (by rw[hfl];omega) (by rw[hfl];omega) (by omega)).mono ?_;rintro e w' ⟨v,rfl,ho,hx⟩;rw[hfl] at ho;exact sl_own ⟨v,rfl,ho.base_mono (Below.size (Ext.alloc w _)),Ext.trans (Ext.alloc w _) hx⟩ hlen
def slLen(k:Nat)(a:Act):Nat:=match a.tmps.getD k undef with | .slice _ l _=>l|_=>0
def ChJ(p n L:Nat)(f:Bool->List UInt8->List UInt8)(l b:List UInt8)(w:World)(a:Act)(w1:World):Prop :=
 ∃(Al:Option Addr) (cl:Nat) (Ab:Option Addr) (lb cb:Nat) (Ak:Option Addr) (d ck:Nat) (kp ch bl:List UInt8) (u8 u9 u10 u11 u12 u13 u14 u15 u16 u17 u18 u19 u20 u21 u22 u23 u24 u25 u26 u27 u28 u29 u30 u31 u32 u33 u34 u35 u36 u37 u38 u39 u40 u41 u42 u43 u44:Value),
  a = { tmps:=#[.pointer (some ⟨p,0,none⟩),.slice Al n cl,.slice Ab lb cb,undef,undef,undef,.slice none 0 0,.slice Ak d ck,u8,u9,u10,u11,u12,u13,u14,u15,u16,u17,u18,u19,u20,u21,u22,u23,u24,u25,u26,u27,u28,u29,u30,u31,u32,u33,u34,u35,u36,u37,u38,u39,u40,u41,u42,u43,u44],defers:=[] } /\
  (n<=cl/\cl<=9223372036854775807)/\(lb<=cb/\cb<=9223372036854775807)/\(d<=ck/\ck<=9223372036854775807)/\Rd w1 w1.heap.size Al n ch/\Rd w1 w1.heap.size Ab lb bl/\Rd w1 w1.heap.size Ak d kp/\Ext w w1 /\
  ((d=0/\lb=L/\ch=l/\bl=b)\/(d=lb/\0<d/\n+d=L/\kp=thX f n l b/\ch=stX f n l (b.take n)/\bl=b.drop n))
theorem chained_any(p n:Nat)(f:Bool->List UInt8->List UInt8)(Al:Option Addr)(cl:Nat)(l:List UInt8)(Ab:Option Addr)(L cb:Nat)(b:List UInt8)(w:World)(hF:FOk f n)(hn:n<=16)(hI:IsC w p n f)
  (hl:Rd w w.heap.size Al n l) (hcl:n<=cl/\cl<=9223372036854775807) (hb:Rd w w.heap.size Ab L b) (hcb:L<=cb/\cb<=9223372036854775807) (h1:n<=L) (h2:L<=2*n):
  Calls Tryz.prog 25 #[.pointer (some ⟨p,0,none⟩),.slice Al n cl,.slice Ab L cb] w (SlRet w L (chF f n l b)):=by
 have HF:=hid hF;have HI:=hid hI;have HL:=hid hl;have HCL:=hid hcl;have HB:=hid hb;have HCB:=hid hcb;have h0:1<=n:=hF.pos;clear hF hI hl hb;go_enter Tryz.func25,Tryz.ntmps25;go_wp2_with fail
 refine zat 0 (ChJ p n L f l b w) (fun a _=>slLen 2 a) rfl ?_ ?_
 ·rintro a w1 ⟨A1,c1,A2,lb,c2,A3,d,c3,kp,ch,bl,u8,u9,u10,u11,u12,u13,u14,u15,u16,u17,u18,u19,u20,u21,u22,u23,u24,u25,u26,u27,u28,u29,u30,u31,u32,u33,u34,u35,u36,u37,u38,u39,u40,u41,u42,u43,u44,rfl,hc1,hc2,hc3,hr1,hr2,hr3,hx,hst⟩;have HR1:=hid hr1;have HR3:=hid hr3;have HC1:=hid hc1;have HX:=hid hx;have HI1:=hid (HI.out.later hx);clear hr1 hr3 hx hc1 HL HCL HCB HB hcl hcb;have hlb:0<lb/\lb<=32:=by rcases hst with⟨_,h,_⟩|⟨h,_⟩<;>omega
  obtain⟨bb,oo,rfl,_,_⟩:=hr2.at_ hlb.1;have HRB:=hid hr2;clear hr2;have HST:=hid hst;clear hst;go_wp2_with fail
  refine(ztH p n f w1 HI1.out).mono ?_;rintro e w2 ⟨rfl,rfl⟩;go_upto_region 3 with(first
   | (at_make;refine zaP rfl (.tmp 14) (.tmp 14) 22 rfl Tryz.underlying22 Tryz.info5 .i64 n n rfl rfl rfl (by omega) w1.heap.size (Nat.le_refl _) ?_;intro w3 hown3 hb3 _;have HCF:=hid (A.zhe HRB.out hown3 hb3);have HB3:=hid hb3;clear hown3 hb3))
  have hlp:(stQ n (bl.take n)).length=n:=zvh _ (by rw[List.length_take];omega);have HLP:=hid hlp;have hxl:=zbK (stQ n (bl.take n)) ch n;have HFL:=hid (HF.out.len false _ hxl);obtain⟨Y,hY⟩:∃Y,f false (xorL (stQ n (bl.take n)) ch n)=Y:=⟨_,rfl⟩;rw[hY] at HFL;have HY:=hid hY;clear hlp hxl hY;by_cases hB:n<lb
  ·have HCC:=hid (show(cellsOf (bl.take n)).length=n from HCF.out.2.1.trans (Nat.min_eq_right (by omega)));have hcg:¬c2=n:=by omega
   obtain⟨hl0,HST⟩:(d=0/\lb=L)/\Hid (ch=l/\bl=b):=by
    rcases HST.out with⟨a1,a2,a3,a4⟩|⟨a1,a2,a3,_⟩
    ·exact⟨⟨a1,a2⟩,hid ⟨a3,a4⟩⟩
    ·omega
   have HLL:=hid hl0;clear hl0;go_upto_region 4 with(with_reducible refine wpList_copy_splice rfl (.tmp 17) (.tmp 18) 22 22 rfl 5 Tryz.underlying22 (by kernel_rfl) (some ⟨w1.heap.size,0,none⟩) (some ⟨bb,oo,none⟩) n n lb c2 rfl rfl w1.heap.size 0 (List.replicate n (.int .u8 0)) 5 HCF.out.1 (cellsOf (bl.take n)) HCF.out.2.1 (fun h0=>⟨rfl,HCF.out.2.2.1 h0⟩) HCF.out.2.2.2 (zby _) w1.heap.size w1 HB3.out (Nat.le_refl _) ?_;intro w4 hz4 hb4;have HZ4:=hid hz4.out;have HB4:=hid hb4;clear hz4 hb4;rw[HCC.out])
   have hz4:=HZ4.out;rw[spl_pad] at hz4;obtain⟨_,_,e4,_,hr4,_⟩:=(A.zfG rfl hz4 HLP.out (Nat.le_refl w1.heap.size) (by unfold maxLen;omega)).rdf HLP.out;cases e4
   have HR4:=hid hr4;have HX4:=hid (show Ext w1 w4 from HB4.out);clear hz4 hr4 HZ4 HB4 HCF HB3;have hr2:=(HRB.out.later HX4.out).cutlo (l:=n) (by omega) hc2.1;rw[if_neg hcg,Option.map_some,za2,Nat.mul_one] at hr2;have HR2:=hid hr2;clear hr2;go_wp2_with fail
   refine(A.zoi _ A1 n n c1 (stQ n (bl.take n)) ch w4 HR4.out (HR1.out.later HX4.out) (by omega)).mono ?_;rintro e w5 ⟨v5,rfl,ho5,hx5⟩;obtain⟨A5,c5,rfl,hc5,hr5,_⟩:=ho5.rdf (zbK _ ch n);have HX5:=hid (Ext.trans HX4.out hx5);have HR5:=hid hr5;have HC5:=hid hc5;have HR3:=hid (HR3.out.later HX5.out);have HR2:=hid (HR2.out.later (Ext.trans (show Ext w4 w4 from Ext.refl _) hx5));clear ho5 hx5 hr5 hc5 HX4 HR4;go_wp2_with fail
   refine(zvf p A5 n c5 f _ w5 (HI1.out.later HX5.out) HR5.out HC5.out).mono ?_;rw[HY.out];rintro e w6 ⟨A6,c6,rfl,hc6,hr6,hx6,_⟩;have HX6:=hid (Ext.trans HX.out (Ext.trans HX5.out hx6));have HR6:=hid hr6;have HR3:=hid (HR3.out.later hx6);have HC6:=hid hc6;have HR2:=hid (HR2.out.later hx6);clear hx6 hr6 hc6 HR5 HX5;have hlt:0<lb-n:=by omega
   have hlc:lb-n<=c6:=by have:=HC6.out;have:=HLL.out;omega
   go_wp2_with fail
   have HST2:=hid (show lb-n=lb-n/\0<lb-n/\n+(lb-n)=L/\Y.take (lb-n)=thX f n l b/\Y=stX f n l (b.take n)/\bl.drop n=b.drop n by
    have e1:=HLL.out;have e2:=HST.out;have e3:=HRB.out.len;have e4:stQ n (bl.take n)=b.take n:=by unfold stQ;rw[List.length_take,show n-min n bl.length=0 by omega,List.replicate_zero,List.append_nil,e2.2]
    have e5:Y=stX f n l (b.take n):=by rw[<-HY.out,e4,e2.1];rfl
    refine⟨rfl,hlt,by omega,?_,e5,by rw[e2.2]⟩;rw[e5];unfold thX;congr 1;rw[<-e2.2];omega)
   have HKP:=hid (HR6.out.cuthi (lb-n) (by have:=HLL.out;omega));go_step3;simp +zetaDelta only[Exit.then,Exit.jump];refine⟨trivial,⟨A6,c6,_,lb-n,c2-n,A6,lb-n,c6,Y.take (lb-n),Y,bl.drop n,_,_,_,_,_,_,_,_,_,_,_,_,_,_,_,_,_,_,_,_,_,_,_,_,_,_,_,_,_,_,_,_,_,_,_,_,_,rfl,HC6.out,by omega,⟨hlc,HC6.out.2⟩,HR6.out,HR2.out,HKP.out,HX6.out,.inr HST2.out⟩,?_⟩;simp[slLen];omega
  ·have HCC:=hid (show(cellsOf (bl.take n)).length=lb from HCF.out.2.1.trans (Nat.min_eq_left (by omega)));have HBT:=hid (show bl.take n=bl from List.take_of_length_le (by rw[HRB.out.len];omega));have HEND:=hid (show d+n=L/\chF f n l b=kp++Y by
    unfold chF;rcases HST.out with⟨a1,a2,rfl,rfl⟩|⟨a1,a2,a3,rfl,rfl,rfl⟩
    ·have e1:kp = []:=List.eq_nil_of_length_eq_zero (by rw[HR3.out.len,a1]);have e2:bl.length=n:=by rw[HRB.out.len];omega
     refine⟨by omega,?_⟩;rw[if_pos e2,e1,List.nil_append,<-HY.out,HBT.out];unfold stX stQ;rw[e2,Nat.sub_self,List.replicate_zero,List.append_nil]
    ·have e2:b.length≠n:=by have:=HRB.out.len;rw[List.length_drop] at this;omega
     refine⟨by omega,?_⟩;rw[if_neg e2,<-HY.out,HBT.out];rfl)
   have hd32:d<=32/\L<=1000/\0<L:=by have:=HEND.out.1;omega
   clear h1 h2;by_cases hcg:c2=lb;all_goals
    go_upto_region 4 with(with_reducible refine wpList_copy_splice rfl (.tmp 17) (.tmp 18) 22 22 rfl 5 Tryz.underlying22 (by kernel_rfl) (some ⟨w1.heap.size,0,none⟩) (some ⟨bb,oo,none⟩) n n lb c2 rfl rfl w1.heap.size 0 (List.replicate n (.int .u8 0)) 5 HCF.out.1 (cellsOf (bl.take n)) HCF.out.2.1 (fun h0=>⟨rfl,HCF.out.2.2.1 h0⟩) HCF.out.2.2.2 (zby _) w1.heap.size w1 HB3.out (Nat.le_refl _) ?_;intro w4 hz4 hb4;have HZ4:=hid hz4.out;have HB4:=hid hb4;clear hz4 hb4;rw[HCC.out])
    have hz4:=HZ4.out;rw[spl_pad] at hz4;obtain⟨_,_,e4,_,hr4,_⟩:=(A.zfG rfl hz4 HLP.out (Nat.le_refl w1.heap.size) (by unfold maxLen;omega)).rdf HLP.out;cases e4
    have HR4:=hid hr4;have HX4:=hid (show Ext w1 w4 from HB4.out);clear hz4 hr4 HZ4 HB4 HCF HB3;go_wp2_with fail
    refine(A.zoi _ A1 n n c1 (stQ n (bl.take n)) ch w4 HR4.out (HR1.out.later HX4.out) (by omega)).mono ?_;rintro e w5 ⟨v5,rfl,ho5,hx5⟩;obtain⟨A5,c5,rfl,hc5,hr5,_⟩:=ho5.rdf (zbK _ ch n);have HX5:=hid (Ext.trans HX4.out hx5);have HR5:=hid hr5;have HC5:=hid hc5;have HR3:=hid (HR3.out.later HX5.out);clear ho5 hx5 hr5 hc5 HX4 HR4;go_wp2_with fail
    refine(zvf p A5 n c5 f _ w5 (HI1.out.later HX5.out) HR5.out HC5.out).mono ?_;rw[HY.out];rintro e w6 ⟨A6,c6,rfl,hc6,hr6,hx6,_⟩;have HX6:=hid (Ext.trans HX.out (Ext.trans HX5.out hx6));have HR6:=hid hr6;have HR3:=hid (HR3.out.later hx6);have HC6:=hid hc6;clear hx6 hr6 hc6 HR5 HX5;go_wp2_with fail
    refine(cat_two A3 A6 d n c3 c6 L kp Y w6 HR3.out HR6.out HEND.out.1 hd32.2.2 hd32.2.1).mono ?_;rintro e w7 ⟨A7,c7,rfl,hc7,hr7,hx7,hf7⟩;rw[<-HEND.out.2] at hr7;have HR7:=hid (And.intro hr7 (Ext.trans HX6.out hx7));have HF7:=hid (hf7.mono (Below.size HX6.out));have HC7:=hid hc7;clear hr7 hx7 hf7 hc7;go_wp2_with fail
    go_ret;exact⟨A7,c7,rfl,HC7.out,HR7.out.1,HR7.out.2,HF7.out⟩
 ·intro hfirst;go_wp2_with fail
  go_step3;simp only[Exit.then];rename_i hQ;refine hQ _ _ ?_;clear hQ;exact hfirst.out _ _ ⟨_,_,_,_,_,_,_,_,_,_,_,_,_,_,_,_,_,_,_,_,_,_,_,_,_,_,_,_,_,_,_,_,_,_,_,_,_,_,_,_,_,_,_,_,_,_,_,_,rfl,HCL.out,HCB.out,⟨Nat.le_refl _,by omega⟩,HL.out,HB.out,Rd.nil _ _ _,Ext.refl _,.inl ⟨rfl,rfl,rfl,rfl⟩⟩
end Go.Proofs.YtokbbmngfogbbaaGreatDoor.C
