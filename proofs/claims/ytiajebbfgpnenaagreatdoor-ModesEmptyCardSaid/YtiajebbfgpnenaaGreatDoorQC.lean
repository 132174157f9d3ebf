/- Own lemmas of the verifier on memory, numbers and the functions that the laws call; no statement is proved here. -/
import Derived.Test.YtiajebbfgpnenaaGreatDoorQD
import Derived.Test.YtiajebbfgpnenaaGreatDoorQI
import Derived.Test.YtiajebbfgpnenaaGreatDoorQS
import Derived.Test.YtiajebbfgpnenaaGreatDoorQT2
import Derived.Test.YtiajebbfgpnenaaGreatDoorQA2
import Derived.Test.YtiajebbfgpnenaaGreatDoorProg
import Derived.Deep.MidRow
import Derived.Handy
import Derived.Deep.DeepCutAuto
import Derived.Deep.CutBlock
namespace Go.Proofs.YtiajebbfgpnenaaGreatDoor.C
open Go.RowKit
set_option maxRecDepth 100000
set_option maxHeartbeats 8000000
def szN(t:Nat):Nat:=if t=6\/t=7 then 16 else if 1<=t/\t<=8 then 8 else 0
def keyN(t:Nat):Nat:=[0,8,16,16,16,32,16,16,16].getD t 0
def cntN(t:Nat):Nat:=[0,1,2,1,1,1,3,3,1].getD t 0
def zbO(t:Nat):List Nat:=(List.range (cntN t)).map fun i=>keyN t+8*i
def tN(n:Int):Nat:=if 1<=n/\n<=8 then n.toNat else 0
theorem zwb(n:Int):tN n<=8:=by unfold tN;split<;>omega
theorem zjh{t:Nat}(h:1<=t/\t<=8):tN (t:Int)=t:=by unfold tN;rw[if_pos (by omega)];omega
theorem tags{t:Nat}(h:1<=t/\t<=8):t=1\/t=2\/t=3\/t=4\/t=5\/t=6\/t=7\/t=8:=by omega
theorem zhl:∀t,t<=8->cntN t<=3:=by decide
theorem zo9:∀t,t<=8->keyN t<=32:=by decide
theorem zwd:∀t,t<=8->szN t<=16:=by decide
theorem zki:∀t,t<=8->(szN t=0↔t=0):=by decide
theorem zrO:∀t,t<=8->∀n ∈ zbO t,8<=n/\n<=32:=by decide
theorem zao{w w':World}{a:Addr}{v:Value}(hx:Ext w w')(h:w.cell? a=some v):w'.cell? a=some v:=(Below.cell hx (World.block_lt_of_cell? w _ h)).trans h
def Shapes(w:World):Prop:=∀t,t<=8->w.cell? ⟨0,t*3,none⟩=some (.int .i64 (szN t:Nat))/\w.cell? ⟨0,t*3+1,none⟩=some (.int .i64 (keyN t:Nat))/\w.cell? ⟨0,t*3+2,none⟩=some (.int .i64 (cntN t:Nat))
theorem Shapes.later{w w':World}(h:Shapes w)(hx:Ext w w'):Shapes w':=fun t ht=>by
 obtain⟨h0,h1,h2⟩:=h t ht;exact⟨(Below.cell hx (World.block_lt_of_cell? w _ h0)).trans h0,(Below.cell hx (World.block_lt_of_cell? w _ h1)).trans h1,(Below.cell hx (World.block_lt_of_cell? w _ h2)).trans h2⟩
theorem zgv{R:Ending->World->Prop}{a:Act}{w W:World}{x y z:Int}(hp:a.tmps.getD 2 undef=.pointer (some ⟨w.heap.size,0,none⟩))(hd:a.defers = [])
  (hW:W=w.alloc (.cells #[.int .i64 x,.int .i64 y,.int .i64 z] 99)) (h:R (.returned (.agg #[.int .i64 x,.int .i64 y,.int .i64 z])) W):
  bodyPost Tryz.prog Tryz.f69 R .ret a W :=
 bodyPost_ret (results_cell_row rfl _ _ w.heap.size 99 _ (0,0) _ hp (by rw[hW];exact heap_alloc_new _ _) Tryz.underlying99 rfl (by kernel_rfl)) hd h
theorem ziQ(n:Int)(w:World)(hS:Shapes w):
  Calls Tryz.prog 69 #[.int .i64 n] w fun e w'=>e=.returned (.agg #[.int .i64 (szN (tN n):Nat),.int .i64 (keyN (tN n):Nat),.int .i64 (cntN (tN n):Nat)])/\Ext w w':=by
 have x0:=Ext.alloc w (.cells #[.int .i64 0,.int .i64 0,.int .i64 0] 99);have HX:=hid x0;have HS:=hid (hS.later x0);clear x0 hS;go_enter Tryz.func69,Tryz.ntmps69;by_cases h0:n<0
 ·have HE:=hid (show tN n=0 by unfold tN;rw[if_neg (by omega)]);go_wp2_with fail
  refine zgv rfl rfl rfl ?_;rw[HE.out];exact⟨rfl,HX.out⟩
 ·by_cases h9:9<=n
  ·have HE:=hid (show tN n=0 by unfold tN;rw[if_neg (by omega)]);go_wp2_with fail
   refine zgv rfl rfl rfl ?_;rw[HE.out];exact⟨rfl,HX.out⟩
  ·obtain⟨t,rfl⟩:∃t:Nat,n=t:=⟨n.toNat,by omega⟩;have HE:=hid (show tN (t:Int)=t by unfold tN;split<;>omega);obtain⟨c0,c1,c2⟩:=HS.out t (by omega);clear HS;have ht:(t:Int)<9:=by omega
   go_wp2_with fail
   refine zgv rfl rfl rfl ?_;rw[HE.out];exact⟨rfl,Ext.alloc _ _⟩
theorem zny(a b c:Int)(w:World):(Instr.field 99 (.agg #[.int .i64 a,.int .i64 b,.int .i64 c]) 0).run Tryz.prog w=.ok (.int .i64 a) w:=by kernel_rfl
theorem ziA(n:Int)(w:World)(hS:Shapes w):
  Calls Tryz.prog 44 #[.int .i64 n] w fun e w'=>e=.returned (.int .i64 (szN (tN n):Nat))/\Ext w w':=by
 have HC:=hid (ziQ n w hS);clear hS;go_enter Tryz.func44,Tryz.ntmps44;go_wp2_with (go_at_call 69;refine HC.out.mono ?_;rintro e w1 ⟨rfl,hx⟩;have HX:=hid hx;clear hx)
 rw[zny];simp only[Result.andThen];rw[Oper.upon_value];go_wp2_with fail
 go_ret;exact⟨rfl,HX.out⟩
theorem Tryz.info3:(Tryz.prog.info? 3).map (fun i=>(i.zero,i.size,i.bytes))=some (some (.int .i64 0),1,8):=by kernel_rfl
def zb3(t k:Nat):List Int:=(List.range k).map fun i=>((keyN t+8*i:Nat):Int)
theorem za6(t k:Nat):(zb3 t k).length=k:=by simp[zb3]
theorem zeY(t k:Nat):zb3 t (k+1)=zb3 t k++[((keyN t+8*k:Nat):Int)]:=by simp[zb3,List.range_succ]
theorem zrU(w:World)(x:Int):RdN .i64 (w.alloc (.cells #[.int .i64 x] 3)) (w.heap.size+1) (some ⟨w.heap.size,0,none⟩) 1 [x] :=
 ⟨rfl,fun _=>⟨w.heap.size,0,rfl,by omega,fun j hj=>by
  obtain rfl:j=0:=by omega
  rw[Nat.add_zero,cell_of_row _ _ _ _ _ _ (heap_alloc_new w _)];rfl⟩⟩
theorem zow{w:World}{b1 b2:Nat}{v:Value}{xs:List Int}(h:OwnN .i64 3 w b1 v xs)(hb:b2<=b1):OwnN .i64 3 w b2 v xs :=
 ⟨h.1,h.2.imp id fun⟨g,cap,cur,h1,h2,h3⟩=>⟨g,cap,cur,h1,by omega,h3⟩⟩
theorem zlm(w:World)(b:Nat):OwnN .i64 3 w b (.slice none 0 0) []:=by
 unfold OwnN World.ownsRow;exact⟨rfl,.inl ⟨rfl,rfl⟩⟩
def ztP(a:Act):Nat:=match a.tmps.getD 4 undef with | .slice _ k _=>k|_=>0
def LenJ(n:Int)(t:Nat)(w:World)(a:Act)(w1:World):Prop :=
 ∃(k B cv:Nat) (Av:Option Addr) (u1 u5 u6 u7 u8 u9 u10 u11 u12 u13 u14 u15 u16 u17 u18 u19 u20 u21:Value),
  a = { tmps:=#[.int .i64 n,u1,.slice none 0 0,.pointer (some ⟨B,0,none⟩),.slice Av k cv,u5,u6,u7,u8,u9,u10,u11,u12,u13,u14,u15,u16,u17,u18,u19,u20,u21],defers:=[] }/\k<=cntN t/\w.heap.size<=B/\B<w1.heap.size/\w1.cell? ⟨B,1,none⟩=some (.int .i64 (keyN t:Nat))/\w1.cell? ⟨B,2,none⟩=some (.int .i64 (cntN t:Nat))/\OwnN .i64 3 w1 (B+1) (.slice Av k cv) (zb3 t k)/\Ext w w1
theorem zln(n:Int)(w:World)(hS:Shapes w):
  Calls Tryz.prog 46 #[.int .i64 n] w (RetN .i64 3 w (zb3 (tN n) (cntN (tN n)))):=by
 have HC:=hid (ziQ n w hS);have ht:=zwb n;obtain⟨t,hte⟩:∃t,tN n=t:=⟨_,rfl⟩;rw[hte] at HC ht ⊢;have hk1:=zo9 t ht;have hc1:=zhl t ht;have HB:=hid (And.intro hk1 hc1);clear hS hte ht hk1 hc1;go_enter Tryz.func46,Tryz.ntmps46;go_wp2_with fail
 refine zan 0 (LenJ n t w) (fun a _=>cntN t-ztP a) rfl ?_ ?_
 ·rintro a w1 ⟨k,B,cv,Av,u1,u5,u6,u7,u8,u9,u10,u11,u12,u13,u14,u15,u16,u17,u18,u19,u20,u21,rfl,hk,hB,hBl,c1,c2,hown,hx⟩;obtain⟨C,hC⟩:∃C,cntN t=C:=⟨_,rfl⟩;obtain⟨Y,hY⟩:∃Y,keyN t=Y:=⟨_,rfl⟩;have hb:=HB.out;rw[hC] at hk c2 hb;rw[hY] at c1 hb;by_cases hlt:k<C
  ·have hlen:=za6 t k;have HS:=hid (zeY t k);rw[hY] at HS;have hsum:(Y:Int)+8*(k:Int)=((Y+8*k:Nat):Int):=by omega
   obtain⟨Z,hZ⟩:∃Z,Y+8*k=Z:=⟨_,rfl⟩;rw[hZ] at hsum HS;have hZb:Z<=100:=by omega
   have HX:=hid hx;have HO:=hid hown;have HCE:=hid hC;have HYE:=hid hY;have HLT:=hid hlt;have hsz:=Ext.alloc w1 (.cells #[.int .i64 (Z:Int)] 3);clear hx hown hZ hC hY;have HRD:=hid (zrU w1 (Z:Int));have HOA:=hid (OwnN.kept HO.out hsz);have HSZ:=hid (show w1.heap.size+1<=(w1.alloc (.cells #[.int .i64 (Z:Int)] 3)).heap.size by rw[World.size_alloc];exact Nat.le_refl _);have HW:=hid hsz;have HB3:=hid (And.intro hB hBl);have HCC:=hid (And.intro c1 c2);clear hsz hB hBl hlen
   go_wp2_with (at_builtin;refine zav _ rfl (.tmp 12) (.tmp 19) 23 rfl Tryz.underlying23 8 Tryz.info3 (B+1) _ (zb3 t k) rfl HOA.out _ _ 1 1 [(Z:Int)] rfl HRD.out (by rw[za6];have:=HLT.out;have:=HB.out;rw[HCE.out] at this;omega) (by rw[za6];unfold maxLen;have:=HLT.out;have:=HB.out;rw[HCE.out] at this;omega) (by have:=HSZ.out;have:=HB3.out;omega) ?_;intro v4 w4 hown4 hb4;rw[<-HS.out] at hown4;obtain⟨A4,c4,rfl,hcc4,_,hown4⟩:=OwnN.rdc (n:=k+1) hown4 (za6 _ _);have HX4:=hid hb4;have HO4:=hid hown4;clear hb4 hown4)
   go_step3
   (try simp only[Exit.jump])
   have g1:=(Below.cell HW.out (p:=⟨B,1,none⟩) HB3.out.2).trans HCC.out.1;have g2:=(Below.cell HW.out (p:=⟨B,2,none⟩) HB3.out.2).trans HCC.out.2;have hxx:Ext w w4:=Below.trans (Ext.trans HX.out HW.out) (Below.mono HX4.out (by have:=HB3.out;omega));refine⟨rfl,⟨k+1,B,c4,A4,ex8 (ex8 ⟨_,_,rfl,by rw[HCE.out];exact HLT.out,HB3.out.1,?_,?_,?_,HO4.out,hxx⟩)⟩,?_⟩
   ·exact Nat.lt_of_lt_of_le (Nat.lt_of_lt_of_le HB3.out.2 (Below.size HW.out)) (Below.size HX4.out)
   ·rw[HYE.out];exact(Below.cell HX4.out (p:=⟨B,1,none⟩) (Nat.lt_succ_self B)).trans g1
   ·rw[HCE.out];exact(Below.cell HX4.out (p:=⟨B,2,none⟩) (Nat.lt_succ_self B)).trans g2
   ·have h1:=HCE.out;have h2:=HLT.out;simp[ztP];omega
  ·obtain rfl:k=C:=by omega
   have HH:=hid (And.intro hown hx);have HBB:=hid hB;clear hown hx hB;go_wp2_with fail
   (try simp only[Exit.jump])
   go_ret;rw[hC];exact⟨_,rfl,zow HH.out.1 (by have:=HBB.out;omega),HH.out.2⟩
 ·intro hfirst;have HF:=hid hfirst;clear hfirst;go_wp2_with (go_at_call 69;refine HC.out.mono ?_;rintro e w1 ⟨rfl,hx⟩;have HX:=hid hx;clear hx)
  go_step3;simp only[Exit.then];rename_i hK;refine hK _ _ ?_;have x1:=Ext.alloc w1 (.cells #[.int .i64 (szN t:Nat),.int .i64 (keyN t:Nat),.int .i64 (cntN t:Nat)] 99);have hh:=heap_alloc_new w1 (.cells #[.int .i64 (szN t:Nat),.int .i64 (keyN t:Nat),.int .i64 (cntN t:Nat)] 99);refine HF.out.out _ _ ⟨0,w1.heap.size,0,none,ex8 (ex8 ⟨_,_,rfl,Nat.zero_le _,Below.size HX.out,?_,?_,?_,?_,Ext.trans HX.out x1⟩)⟩
  ·rw[World.size_alloc];exact Nat.lt_succ_self _
  ·rw[cell_of_row _ _ _ _ _ _ hh];rfl
  ·rw[cell_of_row _ _ _ _ _ _ hh];rfl
  ·exact zlm _ _
end Go.Proofs.YtiajebbfgpnenaaGreatDoor.C
namespace Go.Proofs.YtiajebbfgpnenaaGreatDoor.C
open Go.RowKit
open A (byL zhS zlC zff zei zfe)
set_option maxRecDepth 100000
set_option maxHeartbeats 8000000
theorem Tryz.info5:(Tryz.prog.info? 5).map (fun i=>(i.zero,i.size,i.bytes))=some (some (.int .u8 0),1,1):=by kernel_rfl
theorem zak{k:IntKind}{a b:Int}(h:a=b):Ending.returned (.int k a)=.returned (.int k b):=by rw[h]
theorem zfO{a b:Bool}(h:a=b):Ending.returned (.bool a)=.returned (.bool b):=by rw[h]
theorem zfP(a n:Int)(hn:0<n)(h:a.tmod n<0):a.tmod n+n=a%n:=by
 have h:=@Int.tmod_eq_emod a n;have h1:=Int.emod_nonneg a (Int.ne_of_gt hn);have h2:=Int.emod_lt_of_pos a hn;split at h<;>omega
theorem zfN(a n:Int)(hn:0<n)(h:¬a.tmod n<0):a.tmod n=a%n:=by
 have h:=@Int.tmod_eq_emod a n;have h1:=Int.emod_nonneg a (Int.ne_of_gt hn);have h2:=Int.emod_lt_of_pos a hn;split at h<;>omega
theorem zhF(a n:Int)(w:World)(h0:0<n)(h1:n<=9223372036854775807):
  Calls Tryz.prog 48 #[.int .i64 a,.int .i64 n] w fun e w'=>e=.returned (.int .i64 (a%n))/\w=w':=by
 have b1:=Int.tmod_lt_of_pos a h0;by_cases hc:a.tmod n<0
 ·have hf:=zfP a n h0 hc;have b2:=Int.emod_nonneg a (Int.ne_of_gt h0);have b3:0<=a.tmod n+n:=by omega
  have HF:=hid hf;clear hf b2;go_enter Tryz.func48,Tryz.ntmps48;go_wp2;go_ret;exact⟨zak HF.out,rfl⟩
 ·have hf:=zfN a n h0 hc;have HF:=hid hf;clear hf;go_enter Tryz.func48,Tryz.ntmps48;go_wp2;go_ret;exact⟨zak HF.out,rfl⟩
theorem zrl(A:Option Addr)(n L c:Nat)(bs:List UInt8)(w:World)(h:Rd w w.heap.size A L bs)(hn:n<=1000)(_hL:L<=9223372036854775807):
  Calls Tryz.prog 26 #[.int .i64 n,.slice A L c] w (RetB w (byL n bs)):=by
 have hl:=h.len;have HSP:=hid (zlC bs n L hl);have HR:=hid h;clear h;go_enter Tryz.func26,Tryz.ntmps26;go_wp2_with (first
  | (at_make;refine zaH rfl (.tmp 7) (.tmp 7) 22 rfl Tryz.underlying22 Tryz.info5 .i64 n n rfl rfl rfl (by omega) w.heap.size (Nat.le_refl _) ?_;intro w1 hown1 hb1 _;have HF:=hid (zff HR.out hown1 hb1);have HB1:=hid hb1;clear hown1 hb1)
  | (with_reducible refine wpList_copy_splice rfl (.tmp 9) (.tmp 10) 22 22 rfl 5 Tryz.underlying22 (by kernel_rfl) (some ⟨w.heap.size,0,none⟩) A n n L c rfl rfl w.heap.size 0 (List.replicate n (.int .u8 0)) 5 HF.out.1 (cellsOf (bs.take n)) HF.out.2.1 (fun h0=>⟨rfl,HF.out.2.2.1 h0⟩) HF.out.2.2.2 (zaN _) w.heap.size w HB1.out (Nat.le_refl _) ?_;intro w2 hz2 hb2))
 rw[HSP.out] at hz2;have HO2:=hid (zei rfl hz2.out (zaf _ _ _) (Nat.le_refl w.heap.size) (by unfold maxLen;omega));have HB2:=hid hb2;obtain⟨G,hG⟩:∃G,w.heap.size=G:=⟨_,rfl⟩;have HO2:=hid (show Own w2 w.heap.size (.slice (some ⟨G,0,none⟩) n n) (zaq (zfe bs) n L) by rw[<-hG];exact HO2.out);rw[hG];have HG:=hid hG;clear hz2 hb2 HF HB1 HSP hG;go_loopw [6] (fun i wr=>∃k:Nat,L<=k/\(k<=n\/k=L)/\i=.int .i64 k/\Own wr w.heap.size (.slice (some ⟨G,0,none⟩) n n) (zaq (zfe bs) n k)/\Below w.heap.size w wr) (fun i _=>n-(intOf i).toNat)
 case atStart=>exact⟨L,Nat.le_refl _,.inr rfl,rfl,HO2.out,HB2.out⟩
 case round =>
  clear HO2 HB2;obtain⟨k,hk1,hk2,rfl,hown,hb⟩:=hrel;by_cases hlt:k<n
  ·have hset:=hown;obtain⟨cur,hcur⟩:∃cur,zaq (zfe bs) n k=cur:=⟨_,rfl⟩;have hcl:cur.length=n:=by rw[<-hcur];exact zaf _ _ _
   rw[hcur] at hown;have hown0:Own wr w.heap.size (.slice (some ⟨G,0,none⟩) cur.length n) cur:=by rw[hcl];exact hown
   have hcell:=hown0.cell k (by omega);have hfree:=hown0.free k;have hset:=hown0.set_ k (zfe bs k);rw[<-hcur,zaR _ _ _ _ rfl,zaf] at hset;have hv:((zfe bs k).toNat:Int)=(k:Int)*37%256:=by unfold zfe;rw[if_neg (by omega),UInt8.toNat_ofNat'];omega
   rw[hv] at hset;have HH:=hid hset;have HB:=hid hb;clear hset hv hown0 hown hb hcl hcur;go_wp2_with fail
   go_roundw
   case rel=>exact⟨k+1,by omega,.inl (by omega),by go_num,HH.out,HB.out.setCell (by have:=HG.out;simp;omega) _⟩
   case measure=>simp[intOf];omega
  ·have e:zaq (zfe bs) n k=byL n bs:=by
    unfold byL;rw[<-zaE];apply List.ext_getElem
    ·simp[zaq]
    ·intro i h1 h2;have:i<n:=by simpa [zaq] using h1
     simp only[zaq,List.getElem_map,List.getElem_range];rw[if_pos (by omega),if_pos this]
   rw[e] at hown;have HH:=hid (And.intro hown hb);clear hown hb e;go_wp2_with fail
   go_ret;exact⟨_,rfl,HH.out.1,HH.out.2⟩
theorem zmx(A:Option Addr)(n c:Nat)(x:Int)(xs:List Int)(w:World)(h:RdN .i64 w w.heap.size A n xs)(hn:n<=1000):
  Calls Tryz.prog 70 #[.slice A n c,.int .i64 x] w fun e w'=>(∃i:Int,e=.returned (.int .i64 i)/\(decide (0<=i)=decide (x ∈ xs)))/\w=w':=by
 have HR:=hid h;have HL:=hid h.len;clear h;go_enter Tryz.func70,Tryz.ntmps70;go_wp2_with fail
 go_loop [8] (fun i=>∃k:Nat,k<=n/\i=.int .i64 k/\∀j,j<k->xs.getD j 0≠x) (fun i=>n-(intOf i).toNat)
 case atStart=>exact⟨0,Nat.zero_le _,rfl,fun j hj=>absurd hj (by omega)⟩
 case round =>
  obtain⟨k,hk,rfl,hno⟩:=hrel;have HNO:=hid hno;clear hno;by_cases hlt:k<n
  ·obtain⟨b,o,rfl,_,hc⟩:=HR.out.at_ (by omega);have hcell:=hc k hlt;obtain⟨y,hy⟩:∃y,xs.getD k 0=y:=⟨_,rfl⟩;rw[hy] at hcell;have HY:=hid hy;clear hc hy;by_cases hxy:x=y
   ·have hg:(x==y)=true:=by simp[hxy]
    have HXY:=hid hxy;clear hxy;go_wp2_with fail
    go_ret;refine⟨⟨_,rfl,?_⟩,rfl⟩;have hm:x ∈ xs:=by rw[HXY.out,<-HY.out,List.getD_eq_getElem?_getD,List.getElem?_eq_getElem (by have:=HL.out;omega)];exact List.getElem_mem _
    simp[hm]
   ·have hg:(x==y)=false:=by simp[hxy]
    have HXY:=hid hxy;clear hxy;go_wp2_with fail
    go_roundw
    case rel=>exact⟨k+1,by omega,by go_num,fun j hj=>by
     rcases Nat.lt_or_ge j k with h1|h1
     ·exact HNO.out j h1
     ·obtain rfl:j=k:=by omega
      rw[HY.out];exact fun e=>HXY.out e.symm⟩
    case measure=>simp[intOf];omega
  ·obtain rfl:k=n:=by omega
   go_wp2_with fail
   go_ret;refine⟨⟨_,rfl,?_⟩,rfl⟩;have hm:x ∉ xs:=fun hm=>by obtain⟨j,hj,e⟩:=List.getElem_of_mem hm;have:=HNO.out j (by have:=HL.out;omega);rw[List.getD_eq_getElem?_getD,List.getElem?_eq_getElem hj] at this;exact this e
   simp[hm]
theorem zfA(A:Option Addr)(n c:Nat)(x:Int)(xs:List Int)(w:World)(h:RdN .i64 w w.heap.size A n xs)(hn:n<=1000):
  Calls Tryz.prog 45 #[.slice A n c,.int .i64 x] w fun e w'=>e=.returned (.bool (decide (x ∈ xs)))/\w=w':=by
 have HC:=hid (zmx A n c x xs w h hn);clear h;go_enter Tryz.func45,Tryz.ntmps45;go_wp2_with fail
 refine HC.out.mono ?_;rintro e w1 ⟨⟨i,rfl,hi⟩,rfl⟩;go_wp2_with fail
 go_ret;exact⟨rfl,rfl⟩
def tagF(n:Int):Nat:=1+(n%8).toNat
theorem zik(n:Int):1<=tagF n/\tagF n<=8:=by unfold tagF;omega
theorem zng(n:Int):1+n%8=(tagF n:Int):=by unfold tagF;omega
theorem zsB(n:Int)(w:World):Calls Tryz.prog 32 #[.int .i64 n] w fun e w'=>e=.returned (.int .i64 (tagF n:Nat))/\w=w':=by
 have h1:0<=n%8:=by omega
 have h2:n%8<8:=by omega
 have HC:=hid (zhF n 8 w (by omega) (by omega));have HT:=hid (zng n);obtain⟨q,hq⟩:∃q,n%8=q:=⟨_,rfl⟩;rw[hq] at HC h1 h2 HT;clear hq;go_enter Tryz.func32,Tryz.ntmps32;go_wp2_with (go_at_call 48;refine HC.out.mono ?_;rintro e w1 ⟨rfl,rfl⟩)
 go_ret;exact⟨by rw[<-HT.out];rfl,rfl⟩
theorem _root_.Go.Proofs.YtiajebbfgpnenaaGreatDoor.IsRow.rdb{w:World}{a:Option Addr}{len cap:Nat}{zs:List Int}(h:IsRow .u8 w a len cap zs):∃bs,Rd w w.heap.size a len bs/\len<=9223372036854775807/\(len<=cap/\cap<=9223372036854775807):=by
 obtain⟨bs,h1,h2,h3⟩:=h.rdc;have hm:maxLen<=9223372036854775807:=by unfold maxLen;omega
 refine⟨bs,h1,by omega,h3,?_⟩;rcases h with⟨_,_,rfl,_⟩|⟨x,_,_,h4,_⟩
 ·omega
 ·omega
theorem zuC(n:Int)(w:World):Calls Tryz.prog 55 #[.int .i64 n] w fun e w'=>e=.returned (.int .i64 (szN (tN n):Nat))/\w=w':=by
 by_cases h:1<=n/\n<=8
 ·rcases (by omega:n=1\/n=2\/n=3\/n=4\/n=5\/n=6\/n=7\/n=8) with rfl|rfl|rfl|rfl|rfl|rfl|rfl|rfl <;>
  (go_enter Tryz.func55,Tryz.ntmps55
   go_wp2;go_ret;exact⟨rfl,rfl⟩)
 ·have HE:=hid (show tN n=0 by unfold tN;rw[if_neg h]);have g1:(n==1)=false:=by simp;omega
  have g2:(n==2)=false:=by simp;omega
  have g3:(n==3)=false:=by simp;omega
  have g4:(n==4)=false:=by simp;omega
  have g5:(n==5)=false:=by simp;omega
  have g6:(n==6)=false:=by simp;omega
  have g7:(n==7)=false:=by simp;omega
  have g8:(n==8)=false:=by simp;omega
  clear h;go_enter Tryz.func55,Tryz.ntmps55;go_wp2;go_ret;rw[HE.out];exact⟨rfl,rfl⟩
theorem zmp{w:World}{b1 b2:Nat}{v:Value}{xs:List UInt8}(h:Own w b1 v xs)(hb:b2<=b1):Own w b2 v xs :=
 ⟨h.1,h.2.imp id fun⟨g,cap,cur,h1,h2,h3⟩=>⟨g,cap,cur,h1,by omega,h3⟩⟩
theorem zpk(w:World)(xs:List Int)(t:Nat)(he:xs=zb3 t (cntN t))(hl:xs.length<=3)(cs:Array Value)(hcs:cs.toList=cN .i64 xs)(n:Nat)(hn:xs.length=n):
  RetN .i64 3 w (zb3 t (cntN t)) (.returned (.slice (some ⟨w.heap.size,0,none⟩) n n)) (w.alloc (.cells cs 3)):=by
 subst he;exact⟨_,rfl,OwnN.lit w _ cs n w.heap.size hcs hn (by unfold maxLen;omega) (Nat.le_refl _),Ext.alloc _ _⟩
theorem zev(n:Int)(w:World):Calls Tryz.prog 49 #[.int .i64 n] w (RetN .i64 3 w (zb3 (tN n) (cntN (tN n)))):=by
 by_cases h:1<=n/\n<=8
 ·rcases (by omega:n=1\/n=2\/n=3\/n=4\/n=5\/n=6\/n=7\/n=8) with rfl|rfl|rfl|rfl|rfl|rfl|rfl|rfl <;>
  (go_enter Tryz.func49,Tryz.ntmps49
   go_wp2;go_ret;exact zpk w _ _ rfl (by decide) _ rfl _ rfl)
 ·have HE:=hid (show tN n=0 by unfold tN;rw[if_neg h]);have g1:(n==1)=false:=by simp;omega
  have g2:(n==2)=false:=by simp;omega
  have g3:(n==3)=false:=by simp;omega
  have g4:(n==4)=false:=by simp;omega
  have g5:(n==5)=false:=by simp;omega
  have g6:(n==6)=false:=by simp;omega
  have g7:(n==7)=false:=by simp;omega
  have g8:(n==8)=false:=by simp;omega
  clear h;go_enter Tryz.func49,Tryz.ntmps49;go_wp2;go_ret;rw[HE.out];exact⟨_,rfl,zlm _ _,Ext.refl _⟩
def zdy(t:Nat)(n:Int):Nat:=keyN t+8*(n%(cntN t:Nat)).toNat
theorem zix{t:Nat}(h:1<=t/\t<=8):0<cntN t:=by rcases tags h with rfl|rfl|rfl|rfl|rfl|rfl|rfl|rfl<;>decide
theorem ze2{t:Nat}(h:1<=t/\t<=8)(n:Int):zdy t n ∈ zbO t:=by
 have h0:=zix h;have h1:0<=n%(cntN t:Nat):=Int.emod_nonneg _ (by omega);have h2:n%(cntN t:Nat)<(cntN t:Nat):=Int.emod_lt_of_pos _ (by omega);exact List.mem_map.2 ⟨(n%(cntN t:Nat)).toNat,List.mem_range.2 (by omega),rfl⟩
theorem zoF{t:Nat}(h:1<=t/\t<=8)(n:Int):8<=zdy t n/\zdy t n<=32:=zrO t h.2 _ (ze2 h n)
def keyB(t:Nat)(n:Int)(k:List UInt8):List UInt8:=byL (zdy t n) k
theorem zlx(t:Nat)(n:Int)(k:List UInt8):(keyB t n k).length=zdy t n:=zhS _ _
theorem zs1{t:Nat}(ht:1<=t/\t<=8)(n:Int)(A:Option Addr)(L c:Nat)(bs:List UInt8)(w:World)(h:Rd w w.heap.size A L bs)(hL:L<=9223372036854775807):
  Calls Tryz.prog 33 #[.int .i64 t,.int .i64 n,.slice A L c] w (RetB w (keyB t n bs)):=by
 have HR:=hid h;have HL1:=hid (zev (t:Int) w);rw[zjh ht] at HL1;have h0:=zix ht;have hc:=zhl t ht.2;have hkl:=zoF ht n;have h1:0<=n%(cntN t:Nat):=Int.emod_nonneg _ (by omega);have h2:n%(cntN t:Nat)<(cntN t:Nat):=Int.emod_lt_of_pos _ (by omega);have hkb:keyB t n bs=byL (zdy t n) bs:=rfl;have hke:zdy t n=keyN t+8*(n%(cntN t:Nat)).toNat:=rfl;obtain⟨C,hC⟩:∃C,cntN t=C:=⟨_,rfl⟩;rw[hC] at h0 hc h1 h2 hke HL1;obtain⟨q,hq⟩:∃q:Nat,n%(C:Int)=q:=⟨(n%(C:Int)).toNat,by omega⟩;have HW:=hid (fun w=>zhF n (C:Int) w (by omega) (by omega));rw[hq] at h1 h2 hke HW;have HQ:=hid (show(zb3 t C).getD q 0=((zdy t n:Nat):Int) by
  rw[hke];simp[zb3,List.getD_eq_getElem?_getD,(by omega:q<C)])
 have HQ2:=hid (And.intro (show q<C by omega) hc);rw[hkb];obtain⟨M,hM⟩:∃M,zdy t n=M:=⟨_,rfl⟩;rw[hM] at hkl HQ ⊢;have HM:=hid hkl;have HLL:=hid hL;clear h hkb hke hC hq hM h0 hkl hL;go_enter Tryz.func33,Tryz.ntmps33;go_wp2_with fail
 refine HL1.out.mono ?_;rintro e w1 ⟨v,rfl,ho,hx⟩;obtain⟨g,c1,rfl,hc1,hr1,_⟩:=OwnN.rdc (n:=C) ho (za6 _ _);obtain⟨b,o,rfl,_,hcells⟩:=hr1.at_ (by have:=HQ2.out;omega);have hcell:=hcells q HQ2.out.1;rw[HQ.out] at hcell;have hqi:(q:Int)<(C:Int):=by have:=HQ2.out;omega
 have HX:=hid hx;have HR1:=hid (HR.out.later hx);clear ho hr1 hcells hx HR;go_wp2_with (go_at_call 48;refine(HW.out _).mono ?_;rintro e w2 ⟨rfl,rfl⟩)
 refine(zrl _ M L _ _ _ HR1.out (by have:=HM.out;omega) HLL.out).mono ?_;rintro e w2 ⟨v2,rfl,ho2,hb2⟩;have HH:=hid (And.intro ho2 (And.intro hb2 (Below.size HX.out)));clear ho2 hb2;go_wp2_with fail
 go_ret;exact⟨_,rfl,zmp HH.out.1 HH.out.2.2,Ext.trans HX.out HH.out.2.1⟩
end Go.Proofs.YtiajebbfgpnenaaGreatDoor.C
namespace Go.Proofs.YtiajebbfgpnenaaGreatDoor.C
open Go.RowKit
set_option maxRecDepth 100000
set_option maxHeartbeats 8000000
theorem zlK{R:Ending->World->Prop}(p q:Nat)(A:Option Addr)(n c:Nat)(back:Bool)(w:World)(h:w.cell? ⟨p,0,none⟩=some (.iface 102 (.pointer (some ⟨q,0,none⟩))))
  (hc:Calls Tryz.prog 230 #[.pointer (some ⟨q,0,none⟩),.slice A n c,.bool back] w R) (hR:∀e w',R e w'->∃s x,e=.returned (.tuple #[s,x])):
  Calls Tryz.prog 83 #[.pointer (some ⟨p,0,none⟩),.slice A n c,.bool back] w R:=by
 have HC:=hid hc;have HR:=hid hR;clear hc hR;go_enter Tryz.func83,Tryz.ntmps83;go_wp2_with fail
 refine HC.out.mono ?_;intro e w1 hr;have HE:=hid hr;obtain⟨s,x,rfl⟩:=HR.out _ _ hr;clear hr;go_wp2_with fail
 exact HE.out
theorem zlq{R:Ending->World->Prop}(p q:Nat)(A:Option Addr)(n c:Nat)(back:Bool)(w:World)(h:w.cell? ⟨p,0,none⟩=some (.iface 105 (.pointer (some ⟨q,0,none⟩))))
  (hc:Calls Tryz.prog 240 #[.pointer (some ⟨q,0,none⟩),.slice A n c,.bool back] w R) (hR:∀e w',R e w'->∃s x,e=.returned (.tuple #[s,x])):
  Calls Tryz.prog 83 #[.pointer (some ⟨p,0,none⟩),.slice A n c,.bool back] w R:=by
 have HC:=hid hc;have HR:=hid hR;clear hc hR;go_enter Tryz.func83,Tryz.ntmps83;go_wp2_with fail
 refine HC.out.mono ?_;intro e w1 hr;have HE:=hid hr;obtain⟨s,x,rfl⟩:=HR.out _ _ hr;clear hr;go_wp2_with fail
 exact HE.out
theorem zlJ{R:Ending->World->Prop}(p q:Nat)(A:Option Addr)(n c:Nat)(back:Bool)(w:World)(h:w.cell? ⟨p,0,none⟩=some (.iface 114 (.pointer (some ⟨q,0,none⟩))))
  (hc:Calls Tryz.prog 253 #[.pointer (some ⟨q,0,none⟩),.slice A n c,.bool back] w R) (hR:∀e w',R e w'->∃s x,e=.returned (.tuple #[s,x])):
  Calls Tryz.prog 83 #[.pointer (some ⟨p,0,none⟩),.slice A n c,.bool back] w R:=by
 have HC:=hid hc;have HR:=hid hR;clear hc hR;go_enter Tryz.func83,Tryz.ntmps83;go_wp2_with fail
 refine HC.out.mono ?_;intro e w1 hr;have HE:=hid hr;obtain⟨s,x,rfl⟩:=HR.out _ _ hr;clear hr;go_wp2_with fail
 exact HE.out
theorem zkG{R:Ending->World->Prop}(p q:Nat)(A:Option Addr)(n c:Nat)(back:Bool)(w:World)(h:w.cell? ⟨p,0,none⟩=some (.iface 108 (.pointer (some ⟨q,0,none⟩))))
  (hc:Calls Tryz.prog 245 #[.pointer (some ⟨q,0,none⟩),.slice A n c,.bool back] w R) (hR:∀e w',R e w'->∃s x,e=.returned (.tuple #[s,x])):
  Calls Tryz.prog 83 #[.pointer (some ⟨p,0,none⟩),.slice A n c,.bool back] w R:=by
 have HC:=hid hc;have HR:=hid hR;clear hc hR;go_enter Tryz.func83,Tryz.ntmps83;go_wp2_with fail
 refine HC.out.mono ?_;intro e w1 hr;have HE:=hid hr;obtain⟨s,x,rfl⟩:=HR.out _ _ hr;clear hr;go_wp2_with fail
 exact HE.out
theorem zk9{R:Ending->World->Prop}(p q:Nat)(A:Option Addr)(n c:Nat)(back:Bool)(w:World)(h:w.cell? ⟨p,0,none⟩=some (.iface 111 (.pointer (some ⟨q,0,none⟩))))
  (hc:Calls Tryz.prog 251 #[.pointer (some ⟨q,0,none⟩),.slice A n c,.bool back] w R) (hR:∀e w',R e w'->∃s x,e=.returned (.tuple #[s,x])):
  Calls Tryz.prog 83 #[.pointer (some ⟨p,0,none⟩),.slice A n c,.bool back] w R:=by
 have HC:=hid hc;have HR:=hid hR;clear hc hR;go_enter Tryz.func83,Tryz.ntmps83;go_wp2_with fail
 refine HC.out.mono ?_;intro e w1 hr;have HE:=hid hr;obtain⟨s,x,rfl⟩:=HR.out _ _ hr;clear hr;go_wp2_with fail
 exact HE.out
def OkRet(w:World)(n:Nat)(bs:List UInt8)(e:Ending)(w':World):Prop:=∃A c,e=.returned (.tuple #[.slice A n c,.int .i64 0])/\(n<=c/\c<=9223372036854775807)/\Rd w' w'.heap.size A n bs/\Ext w w'/\Fr w.heap.size A
def BadRet(w:World)(e:Ending)(w':World):Prop:=e=.returned (.tuple #[.slice none 0 0,.int .i64 1])/\Ext w w'
theorem OkRet.pair{w w':World}{n:Nat}{bs:List UInt8}{e:Ending}(h:OkRet w n bs e w'):∃s x,e=.returned (.tuple #[s,x]):=by
 obtain⟨A,c,h,_⟩:=h;exact⟨_,_,h⟩
theorem BadRet.pair{w w':World}{e:Ending}(h:BadRet w e w'):∃s x,e=.returned (.tuple #[s,x]):=⟨_,_,h.1⟩
theorem zqV{w w':World}{n:Nat}{bs:List UInt8}{e:Ending}(h:∃v,e=.returned (.tuple #[v,.int .i64 0])/\Own w' w.heap.size v bs/\Ext w w')(hl:bs.length=n):OkRet w n bs e w':=by
 obtain⟨v,rfl,ho,hx⟩:=h;obtain⟨A,c,rfl,hc,hr,hf⟩:=ho.rdf hl;exact⟨A,c,rfl,hc,hr,hx,hf⟩
def Turns(F:Nat)(w:World)(p:Nat)(n:Nat)(f:Bool->List UInt8->List UInt8):Prop :=
 ∀w',Ext w w'->∀(back:Bool) (A:Option Addr) (m c:Nat),
  (m≠n->Calls Tryz.prog F #[.pointer (some ⟨p,0,none⟩),.slice A m c,.bool back] w' (BadRet w')) /\
  (m=n->(m<=c/\c<=9223372036854775807)->∀b,Rd w' w'.heap.size A m b->Calls Tryz.prog F #[.pointer (some ⟨p,0,none⟩),.slice A m c,.bool back] w' (OkRet w' n (f back b)))
theorem Turns.later{F:Nat}{w w1:World}{p n:Nat}{f:Bool->List UInt8->List UInt8}(h:Turns F w p n f)(hx:Ext w w1):Turns F w1 p n f:=fun w' hx'=>h w' (Ext.trans hx hx')
structure IsC (w:World) (p n:Nat) (f:Bool->List UInt8->List UInt8):Prop where
 size:w.cell? ⟨p,1,none⟩=some (.int .i64 (n:Nat))
 turns:Turns 83 w p n f
theorem IsC.later{w w1:World}{p n:Nat}{f:Bool->List UInt8->List UInt8}(h:IsC w p n f)(hx:Ext w w1):IsC w1 p n f:=⟨zao hx h.size,h.turns.later hx⟩
theorem zvP{w:World}{p q n:Nat}{f:Bool->List UInt8->List UInt8}(h0:w.cell? ⟨p,0,none⟩=some (.iface 102 (.pointer (some ⟨q,0,none⟩))))(h1:w.cell? ⟨p,1,none⟩=some (.int .i64 (n:Nat)))(ht:Turns 230 w q n f):IsC w p n f :=
 ⟨h1,fun w' hx back A m c=>⟨fun hm=>zlK p q A m c back w' (zao hx h0) ((ht w' hx back A m c).1 hm) fun _ _ h=>h.pair,
  fun hm hc b hr=>zlK p q A m c back w' (zao hx h0) ((ht w' hx back A m c).2 hm hc b hr) fun _ _ h=>h.pair⟩⟩
theorem zwz{w:World}{p q n:Nat}{f:Bool->List UInt8->List UInt8}(h0:w.cell? ⟨p,0,none⟩=some (.iface 105 (.pointer (some ⟨q,0,none⟩))))(h1:w.cell? ⟨p,1,none⟩=some (.int .i64 (n:Nat)))(ht:Turns 240 w q n f):IsC w p n f :=
 ⟨h1,fun w' hx back A m c=>⟨fun hm=>zlq p q A m c back w' (zao hx h0) ((ht w' hx back A m c).1 hm) fun _ _ h=>h.pair,
  fun hm hc b hr=>zlq p q A m c back w' (zao hx h0) ((ht w' hx back A m c).2 hm hc b hr) fun _ _ h=>h.pair⟩⟩
theorem zwp{w:World}{p q n:Nat}{f:Bool->List UInt8->List UInt8}(h0:w.cell? ⟨p,0,none⟩=some (.iface 114 (.pointer (some ⟨q,0,none⟩))))(h1:w.cell? ⟨p,1,none⟩=some (.int .i64 (n:Nat)))(ht:Turns 253 w q n f):IsC w p n f :=
 ⟨h1,fun w' hx back A m c=>⟨fun hm=>zlJ p q A m c back w' (zao hx h0) ((ht w' hx back A m c).1 hm) fun _ _ h=>h.pair,
  fun hm hc b hr=>zlJ p q A m c back w' (zao hx h0) ((ht w' hx back A m c).2 hm hc b hr) fun _ _ h=>h.pair⟩⟩
theorem zv0{w:World}{p q n:Nat}{f:Bool->List UInt8->List UInt8}(h0:w.cell? ⟨p,0,none⟩=some (.iface 108 (.pointer (some ⟨q,0,none⟩))))(h1:w.cell? ⟨p,1,none⟩=some (.int .i64 (n:Nat)))(ht:Turns 245 w q n f):IsC w p n f :=
 ⟨h1,fun w' hx back A m c=>⟨fun hm=>zkG p q A m c back w' (zao hx h0) ((ht w' hx back A m c).1 hm) fun _ _ h=>h.pair,
  fun hm hc b hr=>zkG p q A m c back w' (zao hx h0) ((ht w' hx back A m c).2 hm hc b hr) fun _ _ h=>h.pair⟩⟩
theorem zwu{w:World}{p q n:Nat}{f:Bool->List UInt8->List UInt8}(h0:w.cell? ⟨p,0,none⟩=some (.iface 111 (.pointer (some ⟨q,0,none⟩))))(h1:w.cell? ⟨p,1,none⟩=some (.int .i64 (n:Nat)))(ht:Turns 251 w q n f):IsC w p n f :=
 ⟨h1,fun w' hx back A m c=>⟨fun hm=>zk9 p q A m c back w' (zao hx h0) ((ht w' hx back A m c).1 hm) fun _ _ h=>h.pair,
  fun hm hc b hr=>zk9 p q A m c back w' (zao hx h0) ((ht w' hx back A m c).2 hm hc b hr) fun _ _ h=>h.pair⟩⟩
theorem zk0{R:Ending->World->Prop}(p:Nat)(A:Option Addr)(n c:Nat)(w:World)(hc:Calls Tryz.prog 83 #[.pointer (some ⟨p,0,none⟩),.slice A n c,.bool false] w R)(hR:∀e w',R e w'->∃s x,e=.returned (.tuple #[s,x])):
  Calls Tryz.prog 60 #[.pointer (some ⟨p,0,none⟩),.slice A n c] w R:=by
 have HC:=hid hc;have HR:=hid hR;clear hc hR;go_enter Tryz.func60,Tryz.ntmps60;go_wp2_with fail
 refine HC.out.mono ?_;intro e w1 hr;have HE:=hid hr;obtain⟨s,x,rfl⟩:=HR.out _ _ hr;clear hr;go_wp2_with fail
 exact HE.out
theorem zoz(p:Nat)(A:Option Addr)(n c:Nat)(f:Bool->List UInt8->List UInt8)(b:List UInt8)(w:World)(hI:IsC w p n f)(h:Rd w w.heap.size A n b)(hc:n<=c/\c<=9223372036854775807):
  Calls Tryz.prog 60 #[.pointer (some ⟨p,0,none⟩),.slice A n c] w (OkRet w n (f false b)) :=
 zk0 p A n c w ((hI.turns w (Ext.refl w) false A n c).2 rfl hc b h) fun _ _ h=>h.pair
theorem zwx(p:Nat)(A:Option Addr)(m n c:Nat)(f:Bool->List UInt8->List UInt8)(w:World)(hI:IsC w p n f)(hm:m≠n):
  Calls Tryz.prog 60 #[.pointer (some ⟨p,0,none⟩),.slice A m c] w (BadRet w) :=
 zk0 p A m c w ((hI.turns w (Ext.refl w) false A m c).1 hm) fun _ _ h=>h.pair
theorem zlE{R:Ending->World->Prop}(p:Nat)(A:Option Addr)(n c:Nat)(w:World)(hc:Calls Tryz.prog 83 #[.pointer (some ⟨p,0,none⟩),.slice A n c,.bool true] w R)(hR:∀e w',R e w'->∃s x,e=.returned (.tuple #[s,x])):
  Calls Tryz.prog 56 #[.pointer (some ⟨p,0,none⟩),.slice A n c] w R:=by
 have HC:=hid hc;have HR:=hid hR;clear hc hR;go_enter Tryz.func56,Tryz.ntmps56;go_wp2_with fail
 refine HC.out.mono ?_;intro e w1 hr;have HE:=hid hr;obtain⟨s,x,rfl⟩:=HR.out _ _ hr;clear hr;go_wp2_with fail
 exact HE.out
theorem zsf(p:Nat)(A:Option Addr)(n c:Nat)(f:Bool->List UInt8->List UInt8)(b:List UInt8)(w:World)(hI:IsC w p n f)(h:Rd w w.heap.size A n b)(hc:n<=c/\c<=9223372036854775807):
  Calls Tryz.prog 56 #[.pointer (some ⟨p,0,none⟩),.slice A n c] w (OkRet w n (f true b)) :=
 zlE p A n c w ((hI.turns w (Ext.refl w) true A n c).2 rfl hc b h) fun _ _ h=>h.pair
theorem zvA(p:Nat)(A:Option Addr)(m n c:Nat)(f:Bool->List UInt8->List UInt8)(w:World)(hI:IsC w p n f)(hm:m≠n):
  Calls Tryz.prog 56 #[.pointer (some ⟨p,0,none⟩),.slice A m c] w (BadRet w) :=
 zlE p A m c w ((hI.turns w (Ext.refl w) true A m c).1 hm) fun _ _ h=>h.pair
theorem zcO(p n:Nat)(f:Bool->List UInt8->List UInt8)(w:World)(hI:IsC w p n f):
  Calls Tryz.prog 19 #[.pointer (some ⟨p,0,none⟩)] w fun e w'=>e=.returned (.int .i64 (n:Nat))/\w=w':=by
 have h1:=hI.size;go_enter Tryz.func19,Tryz.ntmps19;go_wp2;go_ret;exact⟨rfl,rfl⟩
def cf[Inhabited D.BT][Inhabited S.RT](t:Nat)(key:List UInt8)(back:Bool)(b:List UInt8):List UInt8 :=
 match t with
 | 1=>D.zaF (D.zbi key.length) (D.kfOf key) back b
 | 2=>D.zaF (D.zbi key.length) (D.kfOf key) back b
 | 3=>I.zaF (I.keyF key) back b
 | 4=>S.zaF .x key back b
 | 5=>S.zaF .m key back b
 | 6=>T.zaF (T.zdg key) (T.sL key) back b
 | 7=>A.zaF key back b
 | _=>S.zaF .r key back b
theorem zug[Inhabited D.BT][Inhabited S.RT]{t:Nat}(h:1<=t/\t<=8)(key:List UInt8)(back:Bool)(b:List UInt8)(hb:b.length=szN t):(cf t key back b).length=szN t:=by
 rcases tags h with rfl|rfl|rfl|rfl|rfl|rfl|rfl|rfl
 ·exact D.zdM _ _ _ _ hb
 ·exact D.zdM _ _ _ _ hb
 ·exact I.zbf _ _ _
 ·exact S.zbf _ _ _ _
 ·exact S.zbf _ _ _ _
 ·exact T.zdM _ _ _ _
 ·exact A.zbf _ _ _
 ·exact S.zbf _ _ _ _
theorem zmD[Inhabited D.BT][Inhabited S.RT]{t:Nat}(h:1<=t/\t<=8)(key:List UInt8)(hk:key.length ∈ zbO t)(b:List UInt8)(hb:b.length=szN t):
  cf t key true (cf t key false b)=b/\cf t key false (cf t key true b)=b:=by
 have hm:D.zbi key.length=1\/D.zbi key.length=3:=by unfold D.zbi;split<;>simp
 rcases tags h with rfl|rfl|rfl|rfl|rfl|rfl|rfl|rfl
 ·exact D.zcu _ hm _ b hb
 ·exact D.zcu _ hm _ b hb
 ·exact I.zcu (I.zkn key) b hb
 ·exact⟨S.zbs .x key false b hb,S.zbs .x key true b hb⟩
 ·exact⟨S.zbs .m key false b hb,S.zbs .m key true b hb⟩
 ·exact T.zcu _ _ b hb
 ·exact A.zcu key (by rw[show zbO 7 = [16,24,32] by decide] at hk;simpa using hk) b hb
 ·exact⟨S.zbs .r key false b hb,S.zbs .r key true b hb⟩
theorem zwC[Inhabited D.BT][Inhabited S.RT]{t:Nat}(h:1<=t/\t<=8)(key:List UInt8)(hk:key.length ∈ zbO t){b c:List UInt8}(hb:b.length=szN t)(hc:c.length=szN t):
  cf t key false b=cf t key false c↔b=c :=
 ⟨fun e=>by rw[<-(zmD h key hk b hb).1,e,(zmD h key hk c hc).1],fun e=>by rw[e]⟩
theorem zdI{t n m:Nat}(h:n ∈ zbO t)(ht:zbO t = [m]:=by decide):n=m:=by rw[ht] at h;simpa using h
structure GC [Inhabited D.BT] [Inhabited S.RT] (w:World):Prop where
 sh:Shapes w
 bx:D.Boxes w
 rw_:S.GRows w
 gt:T.GT w
 gk:A.GK w
theorem GC.later[Inhabited D.BT][Inhabited S.RT]{w w':World}(h:GC w)(hx:Ext w w'):GC w':=⟨h.sh.later hx,h.bx.later hx,h.rw_.later hx,h.gt.later hx,h.gk.later hx⟩
theorem zn5[Inhabited D.BT]{w:World}{q m:Nat}{kf:Nat->Nat->List UInt8}(hd:D.IsDes w q m kf)(hm:m<=1000)(hB:D.Boxes w):Turns 230 w q 8 (D.zaF m kf) :=
 fun w' hx back Ad n c=>⟨fun hn=>D.zcd q Ad n c back w' hn,fun hn _ b hr=>by subst hn;exact D.zb6 Ad q m c b kf back w' (hd.later hx) hm hr (hB.later hx)⟩
theorem zty{w:World}{q:Nat}{k:Nat->Nat}(hd:I.IsIdea w q k)(hl:∀i,k i<65536):Turns 240 w q 8 (I.zaF k) :=
 fun w' hx back Ad n c=>⟨fun hn=>I.zcd q Ad n c back w' hn,fun hn _ b hr=>by subst hn;exact I.zb6 Ad q c b k back w' (hd.later hx) hl hr⟩
theorem zjW[Inhabited S.RT]{w:World}{q:Nat}{t:S.T3}{key:List UInt8}(hd:S.IsSmall w q t (S.zds t key) (S.keysOf t key))(hG:S.GRows w):Turns 253 w q 8 (S.zaF t key) :=
 fun w' hx back Ad n c=>⟨fun hn=>S.zcd q Ad n c back w' hn,fun hn hc b hr=>by subst hn;exact(S.zb6 t key back q Ad c b w' (hd.later hx) (hG.later hx) hr hc.1 hc.2).mono fun e w2 h=>zqV h (S.zbf _ _ _ _)⟩
theorem zsI{w:World}{q:Nat}{ks ss:List UInt32}(hd:T.IsTwo w q ks ss)(hG:T.GT w):Turns 245 w q 16 (T.zaF ks ss) :=
 fun w' hx back Ad n c=>⟨fun hn=>T.zcd q Ad n c back w' hn,fun hn hc b hr=>by subst hn;exact(T.zb6 q c Ad ks ss back b w' (hG.later hx) (hd.later hx) hr hc.1).mono fun e w2 h=>zqV h (T.zdM _ _ _ _)⟩
theorem zsA{w:World}{q:Nat}{key:List UInt8}(hd:A.IsAria w q key)(hk:A.zgr key.length)(hG:A.GK w):Turns 251 w q 16 (A.zaF key) :=
 fun w' hx back Ad n c=>⟨fun hn=>A.zcd q Ad n c back w' hn,fun hn _ b hr=>by
  subst hn;cases back
  ·exact A.zkj q Ad c key b w' (hd.later hx) hr hk (hG.later hx).sev
  ·exact A.zmr q Ad c key b w' (hd.later hx) hr hk (hG.later hx).sev⟩
def Own_(w:World)(v:Value)(n:Nat)(f:Bool->List UInt8->List UInt8):Prop :=
 (∃ty q,v=.iface ty (.pointer (some ⟨q,0,none⟩)))/\∀p,w.cell? ⟨p,0,none⟩=some v->w.cell? ⟨p,1,none⟩=some (.int .i64 (n:Nat))->IsC w p n f
def zcP(w:World)(v:Value)(n:Nat)(f:Bool->List UInt8->List UInt8):Prop:=∀w',Ext w w'->Own_ w' v n f
def zdn(w:World)(n:Nat)(f:Bool->List UInt8->List UInt8)(e:Ending)(w':World):Prop:=∃v,e=.returned (.tuple #[v,.int .i64 0])/\zcP w' v n f/\Ext w w'
theorem zlN{w:World}{q n:Nat}{f:Bool->List UInt8->List UInt8}(h:Turns 230 w q n f):zcP w (.iface 102 (.pointer (some ⟨q,0,none⟩))) n f :=
 fun _ hx=>⟨⟨_,_,rfl⟩,fun _ h0 h1=>zvP h0 h1 (h.later hx)⟩
theorem zqm{w:World}{q n:Nat}{f:Bool->List UInt8->List UInt8}(h:Turns 240 w q n f):zcP w (.iface 105 (.pointer (some ⟨q,0,none⟩))) n f :=
 fun _ hx=>⟨⟨_,_,rfl⟩,fun _ h0 h1=>zwz h0 h1 (h.later hx)⟩
theorem zh3{w:World}{q n:Nat}{f:Bool->List UInt8->List UInt8}(h:Turns 253 w q n f):zcP w (.iface 114 (.pointer (some ⟨q,0,none⟩))) n f :=
 fun _ hx=>⟨⟨_,_,rfl⟩,fun _ h0 h1=>zwp h0 h1 (h.later hx)⟩
theorem zpY{w:World}{q n:Nat}{f:Bool->List UInt8->List UInt8}(h:Turns 245 w q n f):zcP w (.iface 108 (.pointer (some ⟨q,0,none⟩))) n f :=
 fun _ hx=>⟨⟨_,_,rfl⟩,fun _ h0 h1=>zv0 h0 h1 (h.later hx)⟩
theorem zp1{w:World}{q n:Nat}{f:Bool->List UInt8->List UInt8}(h:Turns 251 w q n f):zcP w (.iface 111 (.pointer (some ⟨q,0,none⟩))) n f :=
 fun _ hx=>⟨⟨_,_,rfl⟩,fun _ h0 h1=>zwu h0 h1 (h.later hx)⟩
theorem zvs{N:Nat}{f:Bool->List UInt8->List UInt8}(Ad:Option Addr)(n c:Nat)(w:World)
  (hc:Calls Tryz.prog 71 #[.slice Ad n c] w fun e w'=>∃q,e=.returned (.tuple #[.pointer (some ⟨q,0,none⟩),.int .i64 0])/\zcP w' (.iface 102 (.pointer (some ⟨q,0,none⟩))) N f/\Ext w w'):
  Calls Tryz.prog 47 #[.int .i64 1,.slice Ad n c] w (zdn w N f):=by
 have HC:=hid hc;clear hc;go_enter Tryz.func47,Tryz.ntmps47;go_wp2_with fail
 refine HC.out.mono ?_;rintro e w1 ⟨q,rfl,hr⟩;have HE:=hid hr;clear hr;go_wp2_with fail
 go_ret2;exact⟨_,rfl,HE.out.1,HE.out.2⟩
theorem zuN{N:Nat}{f:Bool->List UInt8->List UInt8}(Ad:Option Addr)(n c:Nat)(w:World)
  (hc:Calls Tryz.prog 71 #[.slice Ad n c] w fun e w'=>∃q,e=.returned (.tuple #[.pointer (some ⟨q,0,none⟩),.int .i64 0])/\zcP w' (.iface 102 (.pointer (some ⟨q,0,none⟩))) N f/\Ext w w'):
  Calls Tryz.prog 47 #[.int .i64 2,.slice Ad n c] w (zdn w N f):=by
 have HC:=hid hc;clear hc;go_enter Tryz.func47,Tryz.ntmps47;go_wp2_with fail
 refine HC.out.mono ?_;rintro e w1 ⟨q,rfl,hr⟩;have HE:=hid hr;clear hr;go_wp2_with fail
 go_ret2;exact⟨_,rfl,HE.out.1,HE.out.2⟩
theorem zuv{N:Nat}{f:Bool->List UInt8->List UInt8}(Ad:Option Addr)(n c:Nat)(w:World)
  (hc:Calls Tryz.prog 72 #[.slice Ad n c] w fun e w'=>∃q,e=.returned (.tuple #[.pointer (some ⟨q,0,none⟩),.int .i64 0])/\zcP w' (.iface 105 (.pointer (some ⟨q,0,none⟩))) N f/\Ext w w'):
  Calls Tryz.prog 47 #[.int .i64 3,.slice Ad n c] w (zdn w N f):=by
 have HC:=hid hc;clear hc;go_enter Tryz.func47,Tryz.ntmps47;go_wp2_with fail
 refine HC.out.mono ?_;rintro e w1 ⟨q,rfl,hr⟩;have HE:=hid hr;clear hr;go_wp2_with fail
 go_ret2;exact⟨_,rfl,HE.out.1,HE.out.2⟩
theorem zt1{N:Nat}{f:Bool->List UInt8->List UInt8}(Ad:Option Addr)(n c:Nat)(w:World)
  (hc:Calls Tryz.prog 73 #[.slice Ad n c] w fun e w'=>∃q,e=.returned (.tuple #[.pointer (some ⟨q,0,none⟩),.int .i64 0])/\zcP w' (.iface 108 (.pointer (some ⟨q,0,none⟩))) N f/\Ext w w'):
  Calls Tryz.prog 47 #[.int .i64 6,.slice Ad n c] w (zdn w N f):=by
 have HC:=hid hc;clear hc;go_enter Tryz.func47,Tryz.ntmps47;go_wp2_with fail
 refine HC.out.mono ?_;rintro e w1 ⟨q,rfl,hr⟩;have HE:=hid hr;clear hr;go_wp2_with fail
 go_ret2;exact⟨_,rfl,HE.out.1,HE.out.2⟩
theorem zt8{N:Nat}{f:Bool->List UInt8->List UInt8}(Ad:Option Addr)(n c:Nat)(w:World)
  (hc:Calls Tryz.prog 74 #[.slice Ad n c] w fun e w'=>∃q,e=.returned (.tuple #[.pointer (some ⟨q,0,none⟩),.int .i64 0])/\zcP w' (.iface 111 (.pointer (some ⟨q,0,none⟩))) N f/\Ext w w'):
  Calls Tryz.prog 47 #[.int .i64 7,.slice Ad n c] w (zdn w N f):=by
 have HC:=hid hc;clear hc;go_enter Tryz.func47,Tryz.ntmps47;go_wp2_with fail
 refine HC.out.mono ?_;rintro e w1 ⟨q,rfl,hr⟩;have HE:=hid hr;clear hr;go_wp2_with fail
 go_ret2;exact⟨_,rfl,HE.out.1,HE.out.2⟩
theorem ztL{N:Nat}{f:Bool->List UInt8->List UInt8}(Ad:Option Addr)(n c:Nat)(w:World)
  (hc:Calls Tryz.prog 75 #[.int .i64 4,.slice Ad n c] w fun e w'=>∃q,e=.returned (.tuple #[.pointer (some ⟨q,0,none⟩),.int .i64 0])/\zcP w' (.iface 114 (.pointer (some ⟨q,0,none⟩))) N f/\Ext w w'):
  Calls Tryz.prog 47 #[.int .i64 4,.slice Ad n c] w (zdn w N f):=by
 have HC:=hid hc;clear hc;go_enter Tryz.func47,Tryz.ntmps47;go_wp2_with fail
 refine HC.out.mono ?_;rintro e w1 ⟨q,rfl,hr⟩;have HE:=hid hr;clear hr;go_wp2_with fail
 go_ret2;exact⟨_,rfl,HE.out.1,HE.out.2⟩
theorem zuz{N:Nat}{f:Bool->List UInt8->List UInt8}(Ad:Option Addr)(n c:Nat)(w:World)
  (hc:Calls Tryz.prog 75 #[.int .i64 5,.slice Ad n c] w fun e w'=>∃q,e=.returned (.tuple #[.pointer (some ⟨q,0,none⟩),.int .i64 0])/\zcP w' (.iface 114 (.pointer (some ⟨q,0,none⟩))) N f/\Ext w w'):
  Calls Tryz.prog 47 #[.int .i64 5,.slice Ad n c] w (zdn w N f):=by
 have HC:=hid hc;clear hc;go_enter Tryz.func47,Tryz.ntmps47;go_wp2_with fail
 refine HC.out.mono ?_;rintro e w1 ⟨q,rfl,hr⟩;have HE:=hid hr;clear hr;go_wp2_with fail
 go_ret2;exact⟨_,rfl,HE.out.1,HE.out.2⟩
theorem ztX{N:Nat}{f:Bool->List UInt8->List UInt8}(Ad:Option Addr)(n c:Nat)(w:World)
  (hc:Calls Tryz.prog 75 #[.int .i64 8,.slice Ad n c] w fun e w'=>∃q,e=.returned (.tuple #[.pointer (some ⟨q,0,none⟩),.int .i64 0])/\zcP w' (.iface 114 (.pointer (some ⟨q,0,none⟩))) N f/\Ext w w'):
  Calls Tryz.prog 47 #[.int .i64 8,.slice Ad n c] w (zdn w N f):=by
 have HC:=hid hc;clear hc;go_enter Tryz.func47,Tryz.ntmps47;go_wp2_with fail
 refine HC.out.mono ?_;rintro e w1 ⟨q,rfl,hr⟩;have HE:=hid hr;clear hr;go_wp2_with fail
 go_ret2;exact⟨_,rfl,HE.out.1,HE.out.2⟩
theorem pk_1[Inhabited D.BT][Inhabited S.RT](Ad:Option Addr)(n c:Nat)(key:List UInt8)(w:World)(h:Rd w w.heap.size Ad n key)(hk:n ∈ zbO 1)(hc:n<=c/\c<=9223372036854775807)(hG:GC w):
  Calls Tryz.prog 71 #[.slice Ad n c] w fun e w'=>∃q,e=.returned (.tuple #[.pointer (some ⟨q,0,none⟩),.int .i64 0])/\Turns 230 w' q (szN 1) (cf 1 key)/\Ext w w':=by
 have hmany:D.zbi key.length<=1000:=by unfold D.zbi;split<;>omega
 have hn:n=8\/n=16\/n=24:=by rw[show zbO 1 = [8] by decide] at hk;simp at hk;omega
 exact(D.zbS Ad n c key w hn h hc.1).mono fun e w' ⟨q,he,hd,hx⟩=>⟨q,he,zn5 hd hmany (hG.bx.later hx),hx⟩
theorem pk_2[Inhabited D.BT][Inhabited S.RT](Ad:Option Addr)(n c:Nat)(key:List UInt8)(w:World)(h:Rd w w.heap.size Ad n key)(hk:n ∈ zbO 2)(hc:n<=c/\c<=9223372036854775807)(hG:GC w):
  Calls Tryz.prog 71 #[.slice Ad n c] w fun e w'=>∃q,e=.returned (.tuple #[.pointer (some ⟨q,0,none⟩),.int .i64 0])/\Turns 230 w' q (szN 2) (cf 2 key)/\Ext w w':=by
 have hmany:D.zbi key.length<=1000:=by unfold D.zbi;split<;>omega
 have hn:n=8\/n=16\/n=24:=by rw[show zbO 2 = [16,24] by decide] at hk;simp at hk;omega
 exact(D.zbS Ad n c key w hn h hc.1).mono fun e w' ⟨q,he,hd,hx⟩=>⟨q,he,zn5 hd hmany (hG.bx.later hx),hx⟩
theorem pk_3[Inhabited D.BT][Inhabited S.RT](Ad:Option Addr)(n c:Nat)(key:List UInt8)(w:World)(h:Rd w w.heap.size Ad n key)(hk:n ∈ zbO 3)(hc:n<=c/\c<=9223372036854775807)(_hG:GC w):
  Calls Tryz.prog 72 #[.slice Ad n c] w fun e w'=>∃q,e=.returned (.tuple #[.pointer (some ⟨q,0,none⟩),.int .i64 0])/\Turns 240 w' q (szN 3) (cf 3 key)/\Ext w w':=by
 obtain rfl:=zdI (m:=16) hk;exact(I.zbS Ad c key w h).mono fun e w' ⟨q,he,hd,hx⟩=>⟨q,he,zty hd (I.zkn key),hx⟩
theorem pk_4[Inhabited D.BT][Inhabited S.RT](Ad:Option Addr)(n c:Nat)(key:List UInt8)(w:World)(h:Rd w w.heap.size Ad n key)(hk:n ∈ zbO 4)(hc:n<=c/\c<=9223372036854775807)(hG:GC w):
  Calls Tryz.prog 75 #[.int .i64 4,.slice Ad n c] w fun e w'=>∃q,e=.returned (.tuple #[.pointer (some ⟨q,0,none⟩),.int .i64 0])/\Turns 253 w' q (szN 4) (cf 4 key)/\Ext w w':=by
 obtain rfl:=zdI (m:=16) hk;exact(S.zbS .x Ad c key w h hc.1 hc.2).mono fun e w' ⟨q,he,hd,hx⟩=>⟨q,he,zjW hd (hG.rw_.later hx),hx⟩
theorem pk_5[Inhabited D.BT][Inhabited S.RT](Ad:Option Addr)(n c:Nat)(key:List UInt8)(w:World)(h:Rd w w.heap.size Ad n key)(hk:n ∈ zbO 5)(hc:n<=c/\c<=9223372036854775807)(hG:GC w):
  Calls Tryz.prog 75 #[.int .i64 5,.slice Ad n c] w fun e w'=>∃q,e=.returned (.tuple #[.pointer (some ⟨q,0,none⟩),.int .i64 0])/\Turns 253 w' q (szN 5) (cf 5 key)/\Ext w w':=by
 obtain rfl:=zdI (m:=32) hk;exact(S.zbS .m Ad c key w h hc.1 hc.2).mono fun e w' ⟨q,he,hd,hx⟩=>⟨q,he,zjW hd (hG.rw_.later hx),hx⟩
theorem pk_6[Inhabited D.BT][Inhabited S.RT](Ad:Option Addr)(n c:Nat)(key:List UInt8)(w:World)(h:Rd w w.heap.size Ad n key)(hk:n ∈ zbO 6)(hc:n<=c/\c<=9223372036854775807)(hG:GC w):
  Calls Tryz.prog 73 #[.slice Ad n c] w fun e w'=>∃q,e=.returned (.tuple #[.pointer (some ⟨q,0,none⟩),.int .i64 0])/\Turns 245 w' q (szN 6) (cf 6 key)/\Ext w w':=by
 have hn:n=16\/n=24\/n=32:=by rw[show zbO 6 = [16,24,32] by decide] at hk;simpa using hk
 exact(T.zbS Ad n c key w hG.gt h hn hc.1).mono fun e w' ⟨q,he,hd,_,hx⟩=>⟨q,he,zsI hd (hG.gt.later hx),hx⟩
theorem pk_7[Inhabited D.BT][Inhabited S.RT](Ad:Option Addr)(n c:Nat)(key:List UInt8)(w:World)(h:Rd w w.heap.size Ad n key)(hk:n ∈ zbO 7)(hc:n<=c/\c<=9223372036854775807)(hG:GC w):
  Calls Tryz.prog 74 #[.slice Ad n c] w fun e w'=>∃q,e=.returned (.tuple #[.pointer (some ⟨q,0,none⟩),.int .i64 0])/\Turns 251 w' q (szN 7) (cf 7 key)/\Ext w w':=by
 have hl:=h.len;have hn:n=16\/n=24\/n=32:=by rw[show zbO 7 = [16,24,32] by decide] at hk;simpa using hk
 exact(A.zbS Ad n c key w h hn hc.1 hG.gk).mono fun e w' ⟨q,he,_,hd,hx⟩=>⟨q,he,zsA hd (by rw[hl];exact hn) (hG.gk.later hx),hx⟩
theorem pk_8[Inhabited D.BT][Inhabited S.RT](Ad:Option Addr)(n c:Nat)(key:List UInt8)(w:World)(h:Rd w w.heap.size Ad n key)(hk:n ∈ zbO 8)(hc:n<=c/\c<=9223372036854775807)(hG:GC w):
  Calls Tryz.prog 75 #[.int .i64 8,.slice Ad n c] w fun e w'=>∃q,e=.returned (.tuple #[.pointer (some ⟨q,0,none⟩),.int .i64 0])/\Turns 253 w' q (szN 8) (cf 8 key)/\Ext w w':=by
 obtain rfl:=zdI (m:=16) hk;exact(S.zbS .r Ad c key w h hc.1 hc.2).mono fun e w' ⟨q,he,hd,hx⟩=>⟨q,he,zjW hd (hG.rw_.later hx),hx⟩
theorem zhW[Inhabited D.BT][Inhabited S.RT]{t:Nat}(ht:1<=t/\t<=8)(Ad:Option Addr)(n c:Nat)(key:List UInt8)(w:World)(h:Rd w w.heap.size Ad n key)(hk:n ∈ zbO t)(hc:n<=c/\c<=9223372036854775807)(hG:GC w):
  Calls Tryz.prog 47 #[.int .i64 t,.slice Ad n c] w (zdn w (szN t) (cf t key)):=by
 rcases tags ht with rfl|rfl|rfl|rfl|rfl|rfl|rfl|rfl
 ·exact zvs Ad n c w ((pk_1 Ad n c key w h hk hc hG).mono fun e w' ⟨q,he,hd,hx⟩=>⟨q,he,zlN hd,hx⟩)
 ·exact zuN Ad n c w ((pk_2 Ad n c key w h hk hc hG).mono fun e w' ⟨q,he,hd,hx⟩=>⟨q,he,zlN hd,hx⟩)
 ·exact zuv Ad n c w ((pk_3 Ad n c key w h hk hc hG).mono fun e w' ⟨q,he,hd,hx⟩=>⟨q,he,zqm hd,hx⟩)
 ·exact ztL Ad n c w ((pk_4 Ad n c key w h hk hc hG).mono fun e w' ⟨q,he,hd,hx⟩=>⟨q,he,zh3 hd,hx⟩)
 ·exact zuz Ad n c w ((pk_5 Ad n c key w h hk hc hG).mono fun e w' ⟨q,he,hd,hx⟩=>⟨q,he,zh3 hd,hx⟩)
 ·exact zt1 Ad n c w ((pk_6 Ad n c key w h hk hc hG).mono fun e w' ⟨q,he,hd,hx⟩=>⟨q,he,zpY hd,hx⟩)
 ·exact zt8 Ad n c w ((pk_7 Ad n c key w h hk hc hG).mono fun e w' ⟨q,he,hd,hx⟩=>⟨q,he,zp1 hd,hx⟩)
 ·exact ztX Ad n c w ((pk_8 Ad n c key w h hk hc hG).mono fun e w' ⟨q,he,hd,hx⟩=>⟨q,he,zh3 hd,hx⟩)
def zca(w:World)(n:Nat)(f:Bool->List UInt8->List UInt8)(e:Ending)(w':World):Prop:=∃p,e=.returned (.tuple #[.pointer (some ⟨p,0,none⟩),.int .i64 0])/\w.heap.size<=p/\IsC w' p n f/\Ext w w'
theorem zuE{t:Nat}(ht:1<=t/\t<=8)(Q:World->Value->Prop)(Ad:Option Addr)(n c:Nat)(w:World)(hk:n ∈ zbO t)(hS:Shapes w)
  (hM:∀w',Ext w w'->Calls Tryz.prog 47 #[.int .i64 t,.slice Ad n c] w' fun e w2=>∃ty q,e=.returned (.tuple #[.iface ty (.pointer (some ⟨q,0,none⟩)),.int .i64 0])/\Q w2 (.iface ty (.pointer (some ⟨q,0,none⟩)))/\Ext w' w2):
  Calls Tryz.prog 31 #[.int .i64 t,.slice Ad n c] w fun e w'=>∃p v w3,e=.returned (.tuple #[.pointer (some ⟨p,0,none⟩),.int .i64 0])/\w.heap.size<=p/\Ext w w'/\Q w3 v/\Ext w3 w'/\w'.cell? ⟨p,0,none⟩=some v/\w'.cell? ⟨p,1,none⟩=some (.int .i64 (szN t:Nat)):=by
 have HM:=hid hM;have HS:=hid (fun w' (hx:Ext w w')=>ziA (t:Int) w' (hS.later hx));have HL:=hid (fun w' (hx:Ext w w')=>zln (t:Int) w' (hS.later hx));rw[zjh ht] at HS HL;have HIN:=hid (show decide ((n:Int) ∈ zb3 t (cntN t))=true by
  obtain⟨i,hi,e⟩:=List.mem_map.1 hk;simp only[decide_eq_true_eq];exact List.mem_map.2 ⟨i,hi,by rw[e]⟩)
 have hc3:=zhl t ht.2;have hz:=(zki t ht.2);obtain⟨Z,hZ⟩:∃Z,szN t=Z:=⟨_,rfl⟩;rw[hZ] at HS hz ⊢;have hz0:((Z:Int)==0)=false:=by simp;omega
 have HC3:=hid hc3;clear hM hS hk hZ hz hc3;go_enter Tryz.func31,Tryz.ntmps31;go_wp2_with fail
 refine(HS.out _ (Ext.refl w)).mono ?_;rintro e w1 ⟨rfl,hx1⟩;have HX1:=hid hx1;clear hx1;go_wp2_with fail
 refine(HL.out _ HX1.out).mono ?_;rintro e w2 ⟨v2,rfl,ho2,hx2⟩;obtain⟨A2,c2,rfl,_,hr2,_⟩:=OwnN.rdc ho2 (za6 _ _);have HX2:=hid (Ext.trans HX1.out hx2);have HR2:=hid hr2;clear hx2 ho2 hr2 HX1;go_wp2_with (go_at_call 45;refine(zfA _ _ _ _ _ _ HR2.out (by have:=HC3.out;omega)).mono ?_;rintro e w3 ⟨rfl,rfl⟩;rw[HIN.out])
 refine(HM.out _ HX2.out).mono ?_;rintro e w3 ⟨ty,q,rfl,ho3,hx3⟩;have HX3:=hid (Ext.trans HX2.out hx3);have HO3:=hid ho3;clear hx3 ho3 HX2 HR2;go_wp2_with fail
 refine(HS.out _ HX3.out).mono ?_;rintro e w4 ⟨rfl,hx4⟩;have x5:=Ext.alloc w4 (.cells #[.iface ty (.pointer (some ⟨q,0,none⟩)),.int .i64 (Z:Nat)] 68);have hh:=heap_alloc_new w4 (.cells #[.iface ty (.pointer (some ⟨q,0,none⟩)),.int .i64 (Z:Nat)] 68);have HE:=hid (And.intro (Ext.trans hx4 x5) (Ext.trans (Ext.trans HX3.out hx4) x5));have HH:=hid (And.intro (show(w4.alloc (.cells #[.iface ty (.pointer (some ⟨q,0,none⟩)),.int .i64 (Z:Nat)] 68)).cell? ⟨w4.heap.size,0,none⟩=some (.iface ty (.pointer (some ⟨q,0,none⟩))) by rw[cell_of_row _ _ _ _ _ _ hh];rfl) (show(w4.alloc (.cells #[.iface ty (.pointer (some ⟨q,0,none⟩)),.int .i64 (Z:Nat)] 68)).cell? ⟨w4.heap.size,1,none⟩=some (.int .i64 (Z:Nat)) by rw[cell_of_row _ _ _ _ _ _ hh];rfl));have HZ:=hid (show w.heap.size<=w4.heap.size from Below.size (Ext.trans HX3.out hx4));clear x5 hh hx4 HX3;go_wp2_with fail
 go_ret2;exact⟨_,_,_,rfl,HZ.out,HE.out.2,HO3.out,HE.out.1,HH.out.1,HH.out.2⟩
theorem zbS[Inhabited D.BT][Inhabited S.RT]{t:Nat}(ht:1<=t/\t<=8)(Ad:Option Addr)(n c:Nat)(key:List UInt8)(w:World)(h:Rd w w.heap.size Ad n key)(hk:n ∈ zbO t)(hc:n<=c/\c<=9223372036854775807)(hG:GC w):
  Calls Tryz.prog 31 #[.int .i64 t,.slice Ad n c] w (zca w (szN t) (cf t key)):=by
 refine(zuE ht (fun w v=>zcP w v (szN t) (cf t key)) Ad n c w hk hG.sh fun w' hx=>(zhW ht Ad n c key w' (h.later hx) hk hc (hG.later hx)).mono ?_).mono ?_
 ·rintro e w2 ⟨v,rfl,ho,hx2⟩;obtain⟨⟨ty,q,rfl⟩,_⟩:=ho _ (Ext.refl w2);exact⟨ty,q,rfl,ho,hx2⟩
 ·rintro e w2 ⟨p,v,w3,rfl,hp,hx,ho,hx3,h0,h1⟩;exact⟨p,rfl,hp,(ho _ hx3).2 p h0 h1,hx⟩
def IncJ(w:World)(A:Option Addr)(n c g:Nat)(bs:List UInt8)(a:Act)(w1:World):Prop :=
 ∃(i:Nat) (u5 u6 u7 u8 u9 u10 u11 u12 u13 u14 u15 u16 u17 u18 u19 u20 u21 u22 u23 u24 u25 u26 u27 u28 u29:Value),
  a = { tmps:=#[.slice A n c,undef,.slice none 0 0,.slice (some ⟨g,0,none⟩) n n,.int .i64 i,u5,u6,u7,u8,u9,u10,u11,u12,u13,u14,u15,u16,u17,u18,u19,u20,u21,u22,u23,u24,u25,u26,u27,u28,u29],defers:=[] } /\
  i<=n/\Own w1 w.heap.size (.slice (some ⟨g,0,none⟩) n n) (bs.take i++List.replicate (n-i) 0)/\Below w.heap.size w w1/\incB bs=incB (bs.take i)++List.replicate (n-i) 0
theorem zrI(A:Option Addr)(n c:Nat)(bs:List UInt8)(w:World)(h:Rd w w.heap.size A n bs)(hn:n<=140737488355328):
  Calls Tryz.prog 84 #[.slice A n c] w (RetB w (incB bs)):=by
 go_enter Tryz.func84,Tryz.ntmps84;go_wp2;refine zan 0 (IncJ w A n c w.heap.size bs) (fun a' _=>(intOf (a'.tmps.getD 4 undef)).toNat) rfl ?_ ?_
 ·rintro a w1 ⟨i,u5,u6,u7,u8,u9,u10,u11,u12,u13,u14,u15,u16,u17,u18,u19,u20,u21,u22,u23,u24,u25,u26,u27,u28,u29,rfl,hi,hown,hb,hI⟩;have hl:=h.len;rcases Nat.eq_zero_or_pos i with rfl|hpos
  ·have hown':Own w1 w.heap.size (.slice (some ⟨w.heap.size,0,none⟩) n n) (incB bs):=by rw[hI];simpa [zp6] using hown
   have HL:=hid hl;clear hI hown hl;go_wp2;simp only[Exit.jump];go_ret;exact⟨_,rfl,hown',hb⟩
  ·obtain⟨j,rfl⟩:∃j,i=j+1:=⟨i-1,by omega⟩;obtain⟨cur,hcur⟩:∃cur,cur=bs.take (j+1)++List.replicate (n-(j+1)) (0:UInt8):=⟨_,rfl⟩;have hcl:cur.length=n:=by rw[hcur];simp;omega
   have hget:cur.getD j 0=bs.getD j 0:=by rw[hcur];exact ztb bs n j hl (by omega)
   rw[<-hcur] at hown;have hown0:Own w1 w.heap.size (.slice (some ⟨w.heap.size,0,none⟩) cur.length n) cur:=by rw[hcl];exact hown
   have hcell:=hown0.cell j (by omega);have hfree:=hown0.free j;have hlt:=hown.base_le;by_cases hx:bs.getD j 0+1=0
   ·have hov:=zqD bs n j hl (by omega) hI hx;rw[<-hcur] at hov;have hx8:zac cur j=255:=by unfold zac;rw[hget];have h1:=congrArg UInt8.toNat hx;simp[UInt8.toNat_add] at h1;have:=(bs.getD j 0).toNat_lt;simp at *;omega
    rw[hx8] at hcell;have hset:=hown0.set_ j 0;rw[hov.2,hcl] at hset;have HH:=hid (And.intro hov.1 hset);have HB:=hid (And.intro hb hlt);clear hov hset hI hcur hget hx8 hown0 hown hx hb hlt hcl hl h;go_wp2;go_step3
    (try simp only[Exit.jump])
    refine⟨rfl,⟨j,ex8 (ex8 (ex8 ⟨_,rfl,by omega,HH.out.2,HB.out.1.setCell (by simp) _,HH.out.1⟩))⟩,?_⟩;simp[intOf]
   ·have hst:=zpC bs n j hl (by omega) hI hx;rw[<-hcur] at hst;have hset:=hown0.set_ j (bs.getD j 0+1);rw[hst,hcl] at hset;obtain⟨X,hX⟩:∃X:Int,zac cur j=X:=⟨_,rfl⟩;have hX1:0<=X:=by rw[<-hX];exact zae _ _
    have hX3:((bs.getD j 0+1).toNat:Int)=X+1/\X<=254:=by
     rw[<-hX];unfold zac;rw[hget];have h1:¬(bs.getD j 0).toNat=255:=fun h2=>hx (by apply UInt8.toNat_inj.1;simp[UInt8.toNat_add] at h2 ⊢;omega)
     have:=(bs.getD j 0).toNat_lt;rw[UInt8.toNat_add];simp at *;omega
    have hX2:=hX3.2;rw[hX3.1] at hset;rw[hX] at hcell;have HH:=hid hset;have HB:=hid (And.intro hb hlt);clear hset hst hX3 hX hI hcur hget hown0 hown hx hb hlt hcl hl h;go_wp2
    (try simp only[Exit.jump])
    go_ret;exact⟨_,rfl,HH.out,HB.out.1.setCell (by simp) _⟩
 ·intro hrest;go_wp2_with (first
   | (at_make;refine zaH rfl (.tmp 6) (.tmp 6) 22 rfl Tryz.underlying22 Tryz.info5 .i64 n n rfl rfl rfl hn w.heap.size (Nat.le_refl _) ?_;intro w1 hown1 hb1 _)
   | (with_reducible refine zpy rfl (.tmp 8) (.tmp 9) 22 rfl Tryz.underlying22 Tryz.info5 w.heap.size n c A rfl rfl w.heap.size (List.replicate n 0) bs hown1 (by simp) w.heap.size (h.below hb1 (Nat.le_refl _)) w.heap.size w hb1 (Nat.le_refl _) ?_;intro w2 hown2 hb2))
  go_step3;rename_i hk;apply hk;refine hrest.out _ _ ⟨n,ex8 (ex8 (ex8 ⟨_,rfl,Nat.le_refl _,?_,hb2,?_⟩))⟩
  ·have:=h.len;rw[List.take_of_length_le (by omega)];simpa using hown2
  ·have:=h.len;rw[List.take_of_length_le (by omega)];simp
theorem zhr(a b:List UInt8)(n:Nat):(_root_.Go.Proofs.YtiajebbfgpnenaaGreatDoor.xorL a b n).length=n:=by simp[_root_.Go.Proofs.YtiajebbfgpnenaaGreatDoor.xorL]
theorem zq8(a b:List UInt8)(n k:Nat)(h:k<n):(_root_.Go.Proofs.YtiajebbfgpnenaaGreatDoor.xorL a b n).getD k 0=a.getD k 0^^^b.getD k 0:=by
 simp[_root_.Go.Proofs.YtiajebbfgpnenaaGreatDoor.xorL,_root_.Go.Proofs.YtiajebbfgpnenaaGreatDoor.xorF,List.getD,h]
theorem zvL{a b:List UInt8}{n:Nat}(h1:a.length=n)(h2:b.length=n)(h:∀k,k<n->a.getD k 0=b.getD k 0):a=b:=by
 apply List.ext_getElem (by omega);intro i x y;have:=h i (by omega);simpa [List.getD,x,y] using this
theorem zsD(a b:List UInt8)(n:Nat)(h:a.length=n):_root_.Go.Proofs.YtiajebbfgpnenaaGreatDoor.xorL (_root_.Go.Proofs.YtiajebbfgpnenaaGreatDoor.xorL a b n) b n=a :=
 zvL (zhr _ _ _) h fun k hk=>by rw[zq8 _ _ _ _ hk,zq8 _ _ _ _ hk,UInt8.xor_assoc,UInt8.xor_self,UInt8.xor_zero]
structure St where
 ch:List UInt8
 rw:List UInt8
section
variable (f:Bool->List UInt8->List UInt8) (n m:Nat) (back:Bool)
def blkO(s:St)(p:List UInt8):List UInt8:=if back then _root_.Go.Proofs.YtiajebbfgpnenaaGreatDoor.xorL (f true p) s.ch n else f false (_root_.Go.Proofs.YtiajebbfgpnenaaGreatDoor.xorL p s.ch n)
def lnk(c x:List UInt8):List UInt8:=if m=2 then x else c
def blkS(s:St)(p:List UInt8):St:=⟨lnk m s.ch (if back then p else blkO f n back s p),s.rw⟩
def beg(s:St):St:=⟨if m=5 then f false s.ch else if m=6 then incB s.ch else s.ch,f false s.ch⟩
def bt(s:St):St:=if s.rw.length=0 then beg f m s else s
def byO(s:St)(p:UInt8):UInt8:=p^^^(bt f m s).rw.getD 0 0
def fed(s:St)(p:UInt8):UInt8:=if back then p else byO f m s p
def byS(s:St)(p:UInt8):St:=⟨if m=3\/m=4 then(bt f m s).ch.drop 1++[fed f m back s p] else(bt f m s).ch,if m=3 then [] else(bt f m s).rw.drop 1⟩
def one(s:St)(p:List UInt8):List UInt8×St:=if m<=2 then(blkO f n back s p,blkS f n m back s p) else([byO f m s (p.getD 0 0)],byS f m back s (p.getD 0 0))
def gr:Nat:=if m<=2 then n else 1
def sq(s:St)(b:List UInt8):Nat->List UInt8×St
 | 0=>([],s)
 | k+1=>((sq s b k).1++(one f n m back (sq s b k).2 ((b.drop (k*gr n m)).take (gr n m))).1,(one f n m back (sq s b k).2 ((b.drop (k*gr n m)).take (gr n m))).2)
def stp(s:St)(b:List UInt8):List UInt8×St:=sq f n m back s b (b.length/gr n m)
end
structure Good (n m:Nat) (s:St):Prop where
 ch:s.ch.length=n
 rw:s.rw.length<=n
structure FOk (f:Bool->List UInt8->List UInt8) (n:Nat):Prop where
 pos:1<=n
 len:∀back b,b.length=n->(f back b).length=n
 und:∀b,b.length=n->f true (f false b)=b
section
variable {f:Bool->List UInt8->List UInt8} {n m:Nat} {back:Bool} {s:St}
theorem zkZ(h:FOk f n):1<=gr n m:=by have:=h.pos;unfold gr;split<;>omega
theorem znY(h:FOk f n)(hg:Good n m s):Good n m (bt f m s)/\1<=(bt f m s).rw.length:=by
 have hp:=h.pos;unfold bt;split
 ·have hl:=h.len false s.ch hg.ch;refine⟨⟨?_,Nat.le_of_eq hl⟩,by show 1<=(f false s.ch).length;omega⟩;show(if m=5 then f false s.ch else if m=6 then incB s.ch else s.ch).length=n;split
  ·exact hl
  ·split
   ·rw[zgR];exact hg.ch
   ·exact hg.ch
 ·exact⟨hg,by omega⟩
theorem zpL(h:FOk f n)(hg:Good n m s)(p:UInt8):Good n m (byS f m back s p):=by
 obtain⟨h1,h2⟩:=znY h hg;have hp:=h.pos;have h3:=h1.ch;have h4:=h1.rw;constructor
 ·show(if m=3\/m=4 then(bt f m s).ch.drop 1++[fed f m back s p] else(bt f m s).ch).length=n;split
  ·simp;omega
  ·exact h3
 ·show(if m=3 then [] else(bt f m s).rw.drop 1).length<=n;split
  ·simp
  ·simp;omega
theorem zlG(h:FOk f n)(p:List UInt8):(blkO f n back s p).length=n:=by
 unfold blkO;split
 ·exact zhr _ _ _
 ·exact h.len _ _ (zhr _ _ _)
theorem zoR(h:FOk f n)(hg:Good n m s)(p:List UInt8)(hp:p.length=n):Good n m (blkS f n m back s p):=by
 refine⟨?_,hg.rw⟩;show(lnk m s.ch _).length=n;unfold lnk;split
 ·split
  ·exact hp
  ·exact zlG h p
 ·exact hg.ch
theorem zk2(h:FOk f n)(hg:Good n m s)(p:List UInt8)(hp:p.length=gr n m):(one f n m back s p).1.length=gr n m/\Good n m (one f n m back s p).2:=by
 unfold one gr at *;split
 ·rw[if_pos (by assumption)] at hp;exact⟨zlG h p,zoR h hg p hp⟩
 ·exact⟨rfl,zpL h hg _⟩
theorem ziw(h:FOk f n)(hg:Good n m s)(b:List UInt8):∀k,k*gr n m<=b.length->(sq f n m back s b k).1.length=k*gr n m/\Good n m (sq f n m back s b k).2
 | 0,_=>⟨by simp[sq],hg⟩
 | k+1,hk=>by rw[Nat.succ_mul] at hk;obtain⟨h1,h2⟩:=ziw h hg b k (by omega);obtain⟨h3,h4⟩:=zk2 (back:=back) h h2 ((b.drop (k*gr n m)).take (gr n m)) (by simp;omega);exact⟨by rw[sq,List.length_append,h1,h3,Nat.succ_mul],h4⟩
theorem zrv(b:List UInt8)(g:Nat):b.length/g*g<=b.length:=Nat.div_mul_le_self _ _
theorem zbJ(h:FOk f n)(hg:Good n m s)(b:List UInt8)(hb:b.length%gr n m=0):(stp f n m back s b).1.length=b.length/\Good n m (stp f n m back s b).2:=by
 have:=ziw (back:=back) h hg b (b.length/gr n m) (zrv _ _);refine⟨this.1.trans ?_,this.2⟩;rw[Nat.mul_comm];exact Nat.mul_div_cancel' (Nat.dvd_of_mod_eq_zero hb)
theorem zlp(b c:List UInt8):∀k,k*gr n m<=b.length->sq f n m back s (b++c) k=sq f n m back s b k
 | 0,_=>rfl
 | k+1,hk=>by
   rw[Nat.succ_mul] at hk;have e:(((b++c).drop (k*gr n m)).take (gr n m))=(b.drop (k*gr n m)).take (gr n m):=by rw[List.drop_append_of_le_length (by omega),List.take_append_of_le_length (by simp;omega)]
   rw[sq,sq,zlp b c k (by omega),e]
theorem zi2(b c:List UInt8)(a:Nat)(hb:b.length=a*gr n m):∀k,sq f n m back s (b++c) (a+k)=((sq f n m back s b a).1++(sq f n m back (sq f n m back s b a).2 c k).1,(sq f n m back (sq f n m back s b a).2 c k).2)
 | 0=>by rw[Nat.add_zero,zlp b c a (by omega)];simp[sq]
 | k+1=>by
   have e:((b++c).drop ((a+k)*gr n m))=c.drop (k*gr n m):=by rw[Nat.add_mul,<-hb,<-List.drop_drop,List.drop_left]
   rw[Nat.add_succ,sq,zi2 b c a hb k,sq,e];simp only[List.append_assoc]
theorem zgw(h:FOk f n)(b c:List UInt8)(hb:b.length%gr n m=0):stp f n m back s (b++c)=((stp f n m back s b).1++(stp f n m back (stp f n m back s b).2 c).1,(stp f n m back (stp f n m back s b).2 c).2):=by
 have hp:=zkZ (m:=m) h;have hbl:b.length=b.length/gr n m*gr n m:=by rw[Nat.mul_comm];exact(Nat.mul_div_cancel' (Nat.dvd_of_mod_eq_zero hb)).symm
 have e:(b++c).length/gr n m=b.length/gr n m+c.length/gr n m:=by rw[List.length_append,hbl,Nat.add_comm,Nat.add_mul_div_right _ _ hp,<-hbl,Nat.add_comm]
 unfold stp;rw[e,zi2 b c _ hbl]
theorem znu:stp f n m back s []=([],s):=by simp[stp,sq]
theorem zrJ(h:FOk f n)(p:List UInt8)(hp:p.length=gr n m):
  one f n m true s (one f n m false s p).1=(p,(one f n m false s p).2):=by
 unfold one gr at *;by_cases hm:m<=2
 ·simp only[if_pos hm] at hp ⊢;have e:blkO f n true s (blkO f n false s p)=p:=by show _root_.Go.Proofs.YtiajebbfgpnenaaGreatDoor.xorL (f true (f false (_root_.Go.Proofs.YtiajebbfgpnenaaGreatDoor.xorL p s.ch n))) s.ch n=p;rw[h.und _ (zhr _ _ _),zsD _ _ _ hp]
  have e2:blkS f n m true s (blkO f n false s p)=blkS f n m false s p:=rfl;rw[e,e2]
 ·simp only[if_neg hm] at hp ⊢;obtain⟨x,rfl⟩:∃x,p = [x]:=by
   match p,hp with
   | [x],_=>exact⟨x,rfl⟩
  have e:byO f m s (byO f m s x)=x:=by unfold byO;rw[UInt8.xor_assoc,UInt8.xor_self,UInt8.xor_zero]
  have e1:byS f m true s (byO f m s x)=byS f m false s x:=rfl;show([byO f m s (byO f m s x)],byS f m true s (byO f m s x))=([x],byS f m false s x);rw[e,e1]
theorem zqX(h:FOk f n)(hg:Good n m s)(b:List UInt8):∀k,k*gr n m<=b.length->∀z,(∃r,z=(sq f n m false s b k).1++r) ->
  sq f n m true s z k=(b.take (k*gr n m),(sq f n m false s b k).2)
 | 0,_,_,_=>by simp[sq]
 | k+1,hk,z,⟨r,hz⟩=>by
   rw[Nat.succ_mul] at hk;obtain⟨h1,h2⟩:=ziw (back:=false) h hg b k (by omega);have hl:((b.drop (k*gr n m)).take (gr n m)).length=gr n m:=by simp;omega
   have h3:=zk2 (back:=false) h h2 _ hl;have ih:=zqX h hg b k (by omega) z ⟨_,by rw[hz,sq,List.append_assoc]⟩;have e:(z.drop (k*gr n m)).take (gr n m)=(one f n m false (sq f n m false s b k).2 ((b.drop (k*gr n m)).take (gr n m))).1:=by rw[hz,sq,List.append_assoc,<-h1,List.drop_left,List.take_append_of_le_length (by rw[h1];omega)];rw[h1];exact List.take_of_length_le (by omega)
   rw[sq,ih];simp only;rw[e,zrJ h _ hl];refine Prod.ext ?_ rfl;show b.take (k*gr n m)++(b.drop (k*gr n m)).take (gr n m)=_;rw[Nat.succ_mul,List.take_add]
theorem zsg(h:FOk f n)(hg:Good n m s)(b:List UInt8)(hb:b.length%gr n m=0):stp f n m true s (stp f n m false s b).1=(b,(stp f n m false s b).2):=by
 have hl:=(zbJ (back:=false) h hg b hb).1;have:=zqX h hg b (b.length/gr n m) (zrv _ _) (stp f n m false s b).1 ⟨[],by simp[stp]⟩;unfold stp at hl this ⊢;rw[hl,this];refine Prod.ext ?_ rfl;show b.take _=b;apply List.take_of_length_le;have:b.length/gr n m*gr n m=b.length:=by rw[Nat.mul_comm];exact Nat.mul_div_cancel' (Nat.dvd_of_mod_eq_zero hb)
 omega
end
section
variable {f:Bool->List UInt8->List UInt8} {n m:Nat} {back:Bool} {s:St}
theorem zho(hm:2<m):gr n m=1:=by unfold gr;rw[if_neg (by omega)]
theorem zlM(b:List UInt8)(k:Nat):((b.drop k).take 1).getD 0 0=b.getD k 0:=by
 simp only[List.getD];rw[List.getElem?_take,if_pos (by omega),List.getElem?_drop,Nat.add_zero]
theorem zfm(hm:2<m)(b:List UInt8)(k:Nat):sq f n m back s b (k+1)=((sq f n m back s b k).1++[byO f m (sq f n m back s b k).2 (b.getD k 0)],byS f m back (sq f n m back s b k).2 (b.getD k 0)):=by
 rw[sq,zho hm,Nat.mul_one];unfold one;rw[if_neg (by omega),zlM]
theorem zkQ(hm:2<m)(b:List UInt8):∀k,(sq f n m back s b k).1.length=k
 | 0=>rfl
 | k+1=>by rw[zfm hm,List.length_append,zkQ hm b k];rfl
theorem zkM(hm:2<m)(b:List UInt8)(i:Nat):∀k,i<k->(sq f n m back s b k).1.getD i 0=byO f m (sq f n m back s b i).2 (b.getD i 0)
 | 0,h=>by omega
 | k+1,h=>by
   rw[zfm hm];by_cases hi:i<k
   ·rw[<-zkM hm b i k hi];simp only[List.getD];rw[List.getElem?_append_left (by rw[zkQ hm];exact hi)]
   ·obtain rfl:i=k:=by omega
    simp only[List.getD];rw[List.getElem?_append_right (by rw[zkQ hm];omega),zkQ hm,Nat.sub_self];rfl
theorem zhY(hm:m=5\/m=6)(b c:List UInt8)(x y:Bool):∀k,(sq f n m x s b k).2=(sq f n m y s c k).2
 | 0=>rfl
 | k+1=>by rw[zfm (by omega),zfm (by omega)];show byS f m x _ _=byS f m y _ _;rw[zhY hm b c x y k];unfold byS;rw[if_neg (by omega),if_neg (by omega),if_neg (by omega)]
theorem streams(hm:m=5\/m=6)(a b:List UInt8)(i:Nat)(ha:i<a.length)(hb:i<b.length):
  (stp f n m false s a).1.getD i 0=(stp f n m true s a).1.getD i 0/\(stp f n m false s a).1.getD i 0^^^a.getD i 0=(stp f n m false s b).1.getD i 0^^^b.getD i 0:=by
 have h2:2<m:=by omega
 unfold stp;rw[zho h2,Nat.div_one,Nat.div_one,zkM h2 _ _ _ ha,zkM h2 _ _ _ ha,zkM h2 _ _ _ hb,zhY hm a a true false i,zhY hm b a false false i];refine⟨rfl,?_⟩;unfold byO;rw[UInt8.xor_comm,<-UInt8.xor_assoc,UInt8.xor_self,UInt8.zero_xor,UInt8.xor_comm,<-UInt8.xor_assoc,UInt8.xor_self,UInt8.zero_xor]
theorem zm4(h:FOk f n)(c x:List UInt8)(hc:c.length=n)(hx:n<=x.length):∀r,r<n ->
  bt f 4 (sq f n 4 true ⟨c,[]⟩ x r).2=⟨c.drop r++x.take r,(f false c).drop r⟩
 | 0,_=>by simp[sq,bt,beg]
 | r+1,hr=>by
   have hl:=h.len false c hc;rw[zfm (by omega)];show bt f 4 (byS f 4 true (sq f n 4 true ⟨c,[]⟩ x r).2 (x.getD r 0))=_;have ih:=zm4 h c x hc hx r (by omega);unfold byS;rw[ih];rw[if_pos (by omega),if_neg (by omega)];unfold bt;rw[if_neg (by simp;omega)];have e1:(c.drop r++x.take r).drop 1=c.drop (r+1)++x.take r:=by rw[List.drop_append_of_le_length (by simp;omega),List.drop_drop]
   have e2:x.take r++[x.getD r 0]=x.take (r+1):=by
    have hr2:r<x.length:=by omega
    rw[List.take_add_one];simp[List.getD,hr2]
   simp only[e1,fed,if_true,List.append_assoc,e2,List.drop_drop]
theorem zqn(h:FOk f n)(c x:List UInt8)(hc:c.length=n)(hx:n<=x.length):(sq f n 4 true ⟨c,[]⟩ x n).2=⟨x.take n,[]⟩:=by
 have hp:=h.pos;have hl:=h.len false c hc;obtain⟨r,rfl⟩:∃r,n=r+1:=⟨n-1,by omega⟩;rw[zfm (by omega)];show byS f 4 true _ _=_;have ih:=zm4 h c x hc hx r (by omega);unfold byS;rw[ih];rw[if_pos (by omega),if_neg (by omega)];have e1:(c.drop r++x.take r).drop 1=x.take r:=by rw[List.drop_append_of_le_length (by simp;omega),List.drop_drop,List.drop_of_length_le (by omega),List.nil_append]
 have e2:x.take r++[x.getD r 0]=x.take (r+1):=by
  have hr2:r<x.length:=by omega
  rw[List.take_add_one];simp[List.getD,hr2]
 simp only[e1,fed,if_true,e2,List.drop_drop];rw[List.drop_of_length_le (by omega)]
theorem zsm(h:FOk f n)(hm:m=2\/m=4):∀(j:Nat) (s:St),s.rw = []->s.ch.length=n->∀b:List UInt8,b.length=(j+1)*n ->
  (stp f n m true s b).2=⟨b.drop (j*n),[]⟩:=by
 have hp:=h.pos;have base:∀(s:St),s.rw = []->s.ch.length=n->∀b:List UInt8,b.length=n->(stp f n m true s b).2=⟨b,[]⟩:=by
  intro s hr hs b hb;obtain⟨c,r⟩:=s;subst hr;rcases hm with rfl|rfl
  ·have e:gr n 2=n:=rfl;unfold stp;rw[e,hb,Nat.div_self hp,sq,sq,e];simp only[Nat.zero_mul,List.drop_zero];rw[List.take_of_length_le (by omega)];rfl
  ·unfold stp;rw[zho (by omega),Nat.div_one,hb,zqn h c b hs (by omega),List.take_of_length_le (by omega)]
 intro j;induction j with
 | zero =>intro s hr hs b hb;rw[base s hr hs b (by omega),Nat.zero_mul,List.drop_zero]
 | succ j ih =>
   intro s hr hs b hb;rw[Nat.succ_mul] at hb;have hg:(b.take n).length%gr n m=0:=by
    rw[List.length_take];rcases hm with rfl|rfl
    ·show min n b.length%n=0;rw[Nat.min_eq_left (by omega),Nat.mod_self]
    ·rw[zho (by omega),Nat.mod_one]
   have e:(stp f n m true s b).2=(stp f n m true (stp f n m true s (b.take n)).2 (b.drop n)).2:=by have:=zgw (back:=true) (s:=s) h (b.take n) (b.drop n) hg;rw[List.take_append_drop] at this;rw[this]
   rw[e,base s hr hs (b.take n) (by simp;omega),ih ⟨b.take n,[]⟩ rfl (by simp;omega) (b.drop n) (by simp;omega),List.drop_drop,Nat.succ_mul];congr 2;omega
theorem zu6(hm:m=2\/m=4)(k:Nat):(k*n)%gr n m=0:=by
 rcases hm with rfl|rfl
 ·exact Nat.mul_mod_left k n
 ·rw[zho (by omega),Nat.mod_one]
theorem zwD(h:FOk f n)(hm:m=2\/m=4)(c:List UInt8)(hc:c.length=n)(b:List UInt8)(hb:b.length%n=0)(i:Nat)(hi:i<b.length)(y:UInt8):
  (stp f n m true ⟨c,[]⟩ b).1.take (i/n*n)=(stp f n m true ⟨c,[]⟩ (b.set i y)).1.take (i/n*n) /\
  (stp f n m true ⟨c,[]⟩ b).1.drop (min b.length (i/n*n+2*n))=(stp f n m true ⟨c,[]⟩ (b.set i y)).1.drop (min b.length (i/n*n+2*n)):=by
 have hp:=h.pos;obtain⟨q,hq⟩:∃q,b.length=q*n:=⟨b.length/n,by rw[Nat.mul_comm];exact(Nat.mul_div_cancel' (Nat.dvd_of_mod_eq_zero hb)).symm⟩;obtain⟨k,hk⟩:∃k,i/n=k:=⟨_,rfl⟩;have hi1:k*n<=i:=by rw[<-hk];exact Nat.div_mul_le_self _ _
 have hi2:i<k*n+n:=by rw[<-hk,Nat.mul_comm];have:=Nat.lt_mul_div_succ i hp;rw[Nat.mul_add,Nat.mul_one] at this;exact this
 have hg:Good n m (⟨c,[]⟩:St):=⟨hc,Nat.zero_le _⟩;have hgm:∀k,(k*n)%gr n m=0:=zu6 hm;have hlen:∀x:List UInt8,x.length%n=0->(stp f n m true ⟨c,[]⟩ x).1.length=x.length:=fun x hx=>by obtain⟨z,hz⟩:∃z,x.length=z*n:=⟨x.length/n,by rw[Nat.mul_comm];exact(Nat.mul_div_cancel' (Nat.dvd_of_mod_eq_zero hx)).symm⟩;exact(zbJ (back:=true) h hg x (by rw[hz];exact hgm z)).1
 have cut:∀(x:List UInt8) (j:Nat),j*n<=x.length->stp f n m true ⟨c,[]⟩ x=((stp f n m true ⟨c,[]⟩ (x.take (j*n))).1++(stp f n m true (stp f n m true ⟨c,[]⟩ (x.take (j*n))).2 (x.drop (j*n))).1,(stp f n m true (stp f n m true ⟨c,[]⟩ (x.take (j*n))).2 (x.drop (j*n))).2):=fun x j hj=>by have:=zgw (back:=true) (s:=⟨c,[]⟩) h (x.take (j*n)) (x.drop (j*n)) (by rw[List.length_take,Nat.min_eq_left hj];exact hgm j);rwa[List.take_append_drop] at this
 have tl:∀(x:List UInt8) (j:Nat),j*n<=x.length->(stp f n m true ⟨c,[]⟩ (x.take (j*n))).1.length=j*n:=fun x j hj=>by rw[hlen _ (by rw[List.length_take,Nat.min_eq_left hj,Nat.mul_mod_left]),List.length_take,Nat.min_eq_left hj]
 have hs:(b.set i y).length=b.length:=List.length_set;constructor
 ·have e:(b.set i y).take (k*n)=b.take (k*n):=by rw[List.take_set,List.set_eq_of_length_le (by simp;omega)]
  rw[hk,cut b k (by omega),cut (b.set i y) k (by omega),e];simp only;rw[List.take_append_of_le_length (by rw[tl b k (by omega)];omega),List.take_append_of_le_length (by rw[tl b k (by omega)];omega)]
 ·by_cases hj:(k+2)*n<=b.length
  ·have hj2:k*n+2*n=(k+2)*n:=by rw[Nat.add_mul]
   rw[hk,hj2,Nat.min_eq_right hj,cut b (k+2) hj,cut (b.set i y) (k+2) (by omega)];simp only;have e:(b.set i y).drop ((k+2)*n)=b.drop ((k+2)*n):=by rw[List.drop_set_of_lt (by rw[Nat.add_mul];omega)]
   have sd:∀x:List UInt8,(k+2)*n<=x.length->(stp f n m true ⟨c,[]⟩ (x.take ((k+2)*n))).2=⟨(x.take ((k+2)*n)).drop ((k+1)*n),[]⟩:=fun x hx =>
    zsm h hm (k+1) ⟨c,[]⟩ rfl hc _ (by rw[List.length_take,Nat.min_eq_left hx])
   have e2:((b.set i y).take ((k+2)*n)).drop ((k+1)*n)=(b.take ((k+2)*n)).drop ((k+1)*n):=by rw[List.take_set,List.drop_set_of_lt (by rw[Nat.add_mul];omega)]
   rw[sd b hj,sd _ (by omega),e,e2];have e3:=tl b (k+2) hj;have e4:=tl (b.set i y) (k+2) (by omega);rw[List.drop_left' e3,List.drop_left' e4]
  ·have:b.length<=k*n+2*n:=by rw[<-Nat.add_mul];omega
   rw[hk,Nat.min_eq_left this,List.drop_of_length_le (by rw[hlen b hb];omega),List.drop_of_length_le (by rw[hlen _ (by rw[hs];exact hb)];omega)]
end
abbrev GB(p:Nat)(w w':World):Prop:=w.grownBy w' (some p)
theorem zd5{p:Nat}{w w':World}(h:Ext w w'):GB p w w':=⟨h.os,h.tape,h.output,h.size,fun k hk _=>h.block k hk⟩
theorem zbE{p:Nat}{a b c:World}(h:GB p a b)(k:GB p b c):GB p a c :=
 ⟨k.os.trans h.os,k.tape.trans h.tape,k.output.trans h.output,Nat.le_trans h.size k.size,fun q hq hn=>(k.block q (Nat.lt_of_lt_of_le hq h.size) hn).trans (h.block q hq hn)⟩
theorem zdz(w:World)(p j:Nat)(v:Value):GB p w (w.setCell ⟨p,j,none⟩ v) :=
 ⟨rfl,rfl,rfl,by simp,fun k _ hn=>heap_setCell_other w ⟨p,j,none⟩ k v (fun e=>hn (by rw[e]))⟩
theorem zgh{p:Nat}{a b c:World}(h:Ext a b)(hg:GB p b c)(hp:a.heap.size<=p):Ext a c:=Below.grown h hg h.size (fun k e=>by cases e;exact hp)
theorem zco{B p:Nat}{a b c:World}(h:Below B a b)(hg:GB p b c)(hp:B<=p)(hz:B<=b.heap.size):Below B a c:=Below.grown h hg hz (fun k e=>by cases e;exact hp)
def mrow(pc n m:Nat)(back:Bool)(A:Option Addr)(c:Nat)(A':Option Addr)(k c':Nat):Array Value :=
 #[.pointer (some ⟨pc,0,none⟩),.int .i64 m,.bool back,.int .i64 (gr n m:Nat),.slice A n c,.slice A' k c']
def zex(w:World)(p:Nat):Prop:=∃pc n m back A c A' k c',w.heap[p]? = some (.cells (mrow pc n m back A c A' k c') 64 (0,0))
theorem zsF{w:World}{p o:Nat}{x:Int}(h:zex w p):w.cell? ⟨p,o,none⟩≠some (.int .u8 x):=by
 obtain⟨pc,n,m,back,A,c,A',k,c',h⟩:=h;rw[cell_of_row w p o _ _ _ h]
 match o with
 | 0=>simp[mrow]
 | 1=>simp[mrow]
 | 2=>simp[mrow]
 | 3=>simp[mrow]
 | 4=>simp[mrow]
 | 5=>simp[mrow]
 | k+6=>simp[mrow]
theorem _root_.Go.Proofs.YtiajebbfgpnenaaGreatDoor.Rd.gb{w w':World}{p n:Nat}{A:Option Addr}{bs:List UInt8}(h:Rd w w.heap.size A n bs)(hp:zex w p)(hg:GB p w w'):Rd w' w'.heap.size A n bs :=
 ⟨h.len,fun hn=>by
  obtain⟨b,o,rfl,hb,hc⟩:=h.at_ hn;have hne:b≠p:=fun e=>by subst e;exact zsF hp (hc 0 hn)
  exact⟨b,o,rfl,Nat.lt_of_lt_of_le hb hg.size,fun k hk=>(World.cell?_of_block (hg.block b hb (by simp[hne]))).trans (hc k hk)⟩⟩
theorem _root_.Go.Proofs.YtiajebbfgpnenaaGreatDoor.Own.gb{w w':World}{p base:Nat}{v:Value}{bs:List UInt8}(h:Own w base v bs)(hg:GB p w w')(hp:p<base):Own w' base v bs:=by
 refine⟨h.1,?_⟩;rcases h.2 with hn|⟨g,cap,cur,rfl,hbg,hh,r⟩
 ·exact .inl hn
 ·exact .inr ⟨g,cap,cur,rfl,hbg,by rw[hg.block g (Array.getElem?_eq_some_iff.1 hh).1 (by simp;omega)];exact hh,r⟩
structure MAt (w:World) (p pc n m:Nat) (back:Bool) (s:St) (A:Option Addr) (c:Nat) (A':Option Addr) (c':Nat):Prop where
 row:w.heap[p]? = some (.cells (mrow pc n m back A c A' s.rw.length c') 64 (0,0))
 cap:n<=c/\c<=9223372036854775807
 cap':s.rw.length<=c'/\c'<=9223372036854775807
 ch:Rd w w.heap.size A n s.ch
 rw_:Rd w w.heap.size A' s.rw.length s.rw
def NA(O:Nat->Prop)(n:Nat)(A:Option Addr):Prop:=0<n->∀a,A=some a->¬O a.block
def NoO:Nat->Prop:=fun _=>False
theorem zuB{n:Nat}{A:Option Addr}:NA NoO n A:=fun _ _ _ h=>h
theorem _root_.Go.Proofs.YtiajebbfgpnenaaGreatDoor.Fr.na{O:Nat->Prop}{B:Nat}{A:Option Addr}(h:Fr B A)(hO:∀k,O k->k<B)(n:Nat):NA O n A:=fun _ a e hk=>by have:=h a e;have:=hO _ hk;omega
def IsM(O:Nat->Prop)(w:World)(p pc n m:Nat)(back:Bool)(s:St):Prop:=∃A c A' c',MAt w p pc n m back s A c A' c'/\NA O n A/\NA O s.rw.length A'
section
variable {w w':World} {p pc n m:Nat} {back:Bool} {s:St} {A A' A2:Option Addr} {c c' c2:Nat} {x:List UInt8}
theorem MAt.lt(h:MAt w p pc n m back s A c A' c'):p<w.heap.size:=(Array.getElem?_eq_some_iff.1 h.row).1
theorem MAt.is(h:MAt w p pc n m back s A c A' c'):zex w p:=⟨_,_,_,_,_,_,_,_,_,h.row⟩
theorem MAt.later(h:MAt w p pc n m back s A c A' c')(hx:Ext w w'):MAt w' p pc n m back s A c A' c' :=
 ⟨(hx.block p h.lt).trans h.row,h.cap,h.cap',h.ch.later hx,h.rw_.later hx⟩
theorem MAt.apart{q:Nat}(h:MAt w p pc n m back s A c A' c')(hq:zex w q)(hne:p≠q)(hg:GB q w w'):MAt w' p pc n m back s A c A' c' :=
 ⟨(hg.block p h.lt (by simp[hne])).trans h.row,h.cap,h.cap',h.ch.gb hq hg,h.rw_.gb hq hg⟩
theorem MAt.cells(h:MAt w p pc n m back s A c A' c'):w.cell? ⟨p,0,none⟩=some (.pointer (some ⟨pc,0,none⟩))/\w.cell? ⟨p,1,none⟩=some (.int .i64 m)/\w.cell? ⟨p,2,none⟩=some (.bool back)/\w.cell? ⟨p,3,none⟩=some (.int .i64 (gr n m:Nat))/\w.cell? ⟨p,4,none⟩=some (.slice A n c)/\w.cell? ⟨p,5,none⟩=some (.slice A' s.rw.length c')/\∀j,w.frozen? ⟨p,j,none⟩=false :=
 ⟨by rw[cell_of_row w p _ _ _ _ h.row];rfl,by rw[cell_of_row w p _ _ _ _ h.row];rfl,by rw[cell_of_row w p _ _ _ _ h.row];rfl,by rw[cell_of_row w p _ _ _ _ h.row];rfl,by rw[cell_of_row w p _ _ _ _ h.row];rfl,by rw[cell_of_row w p _ _ _ _ h.row];rfl,fun j=>frozen_of_row w p j _ _ h.row⟩
theorem MAt.setch(h:MAt w p pc n m back s A c A' c')(hr:Rd w w.heap.size A2 n x)(hc:n<=c2/\c2<=9223372036854775807):
  MAt (w.setCell ⟨p,4,none⟩ (.slice A2 n c2)) p pc n m back ⟨x,s.rw⟩ A2 c2 A' c' :=
 ⟨heap_setCell_same w p 4 _ _ _ h.row,hc,h.cap',hr.gb h.is (zdz _ _ _ _),h.rw_.gb h.is (zdz _ _ _ _)⟩
theorem MAt.setrw{k:Nat}(h:MAt w p pc n m back s A c A' c')(hr:Rd w w.heap.size A2 k x)(hc:k<=c2/\c2<=9223372036854775807):
  MAt (w.setCell ⟨p,5,none⟩ (.slice A2 k c2)) p pc n m back ⟨s.ch,x⟩ A c A2 c2:=by
 have hk:=hr.len;subst hk;exact⟨heap_setCell_same w p 5 _ _ _ h.row,h.cap,hc,h.ch.gb h.is (zdz _ _ _ _),hr.gb h.is (zdz _ _ _ _)⟩
theorem IsM.later{O:Nat->Prop}(h:IsM O w p pc n m back s)(hx:Ext w w'):IsM O w' p pc n m back s:=by
 obtain⟨A,c,A',c',h,h1,h2⟩:=h;exact⟨A,c,A',c',h.later hx,h1,h2⟩
theorem IsM.is{O:Nat->Prop}(h:IsM O w p pc n m back s):zex w p:=by obtain⟨_,_,_,_,h,_⟩:=h;exact h.is
theorem IsM.lt{O:Nat->Prop}(h:IsM O w p pc n m back s):p<w.heap.size:=by obtain⟨_,_,_,_,h,_⟩:=h;exact h.lt
theorem IsM.apart{O:Nat->Prop}{q:Nat}(h:IsM O w p pc n m back s)(hq:zex w q)(hne:p≠q)(hg:GB q w w'):IsM O w' p pc n m back s:=by
 obtain⟨A,c,A',c',h,h1,h2⟩:=h;exact⟨A,c,A',c',h.apart hq hne hg,h1,h2⟩
theorem zrS{O:Nat->Prop}{k:Nat}{a:Option Addr}{b:List UInt8}(h:Rd w w.heap.size a k b)(hO:∀q,O q->w.heap.size<=q):NA O k a:=fun hk a' e hq=>by
 obtain⟨b,o,rfl,hb,_⟩:=h.at_ hk;cases e
 have:w.heap.size<=b:=hO b hq;omega
theorem IsM.na{O O':Nat->Prop}(h:IsM O w p pc n m back s)(hO:∀q,O' q->O q\/w.heap.size<=q):IsM O' w p pc n m back s:=by
 obtain⟨A,c,A',c',h,h1,h2⟩:=h;refine⟨A,c,A',c',h,fun hk a e hq=>?_,fun hk a e hq=>?_⟩
 ·exact(hO _ hq).elim (h1 hk a e) (fun hz=>zrS (O:=fun q=>w.heap.size<=q) h.ch (fun _=>id) hk a e hz)
 ·exact(hO _ hq).elim (h2 hk a e) (fun hz=>zrS (O:=fun q=>w.heap.size<=q) h.rw_ (fun _=>id) hk a e hz)
theorem zqz{O:Nat->Prop}{q0 k:Nat}{a:Option Addr}{b:List UInt8}(h:Rd w w.heap.size a k b)(hn:NA O k a)(hO:O q0)(hg:GB q0 w w'):Rd w' w'.heap.size a k b :=
 ⟨h.len,fun hk=>by
  obtain⟨q,o,rfl,hb,hc⟩:=h.at_ hk;have hne:q≠q0:=fun e=>hn hk _ rfl (by rw[<-e] at hO;exact hO)
  exact⟨q,o,rfl,Nat.lt_of_lt_of_le hb hg.size,fun j hj=>(World.cell?_of_block (hg.block q hb (by simp[hne]))).trans (hc j hj)⟩⟩
theorem IsM.out{O:Nat->Prop}{q:Nat}(h:IsM O w p pc n m back s)(hO:O q)(hp:p≠q)(hg:GB q w w'):IsM O w' p pc n m back s:=by
 obtain⟨A,c,A',c',h,h1,h2⟩:=h;exact⟨A,c,A',c',⟨(hg.block p h.lt (by simp[hp])).trans h.row,h.cap,h.cap',zqz h.ch h1 hO hg,zqz h.rw_ h2 hO hg⟩,h1,h2⟩
end
def MRet(O:Nat->Prop)(w:World)(p pc n m:Nat)(back:Bool)(s:St)(r:Value)(e:Ending)(w':World):Prop:=e=.returned r/\IsM O w' p pc n m back s/\GB p w w'
theorem zlk(O:Nat->Prop)(p pc n m:Nat)(back:Bool)(s:St)(A:Option Addr)(c:Nat)(x:List UInt8)(w:World)(h:IsM O w p pc n m back s)(hr:Rd w w.heap.size A n x)(hc:n<=c/\c<=9223372036854775807)(hA:NA O n A):
  Calls Tryz.prog 58 #[.pointer (some ⟨p,0,none⟩),.slice A n c] w (MRet O w p pc n m back ⟨lnk m s.ch x,s.rw⟩ (.tuple #[])):=by
 obtain⟨A1,c1,A2,c2,h,na1,na2⟩:=h;obtain⟨_,h1,_,_,h4,_,hf⟩:=h.cells;have hf4:=hf 4;by_cases hm:m=2
 ·have HS:=hid (show IsM O (w.setCell ⟨p,4,none⟩ (.slice A n c)) p pc n m back ⟨lnk m s.ch x,s.rw⟩ by
   unfold lnk;rw[if_pos hm];exact⟨_,_,_,_,h.setch hr hc,hA,na2⟩)
  subst hm;clear h hr hf;go_enter Tryz.func58,Tryz.ntmps58;go_wp2_with fail
  exact bodyPost_end (results_none rfl _ _ _) rfl ⟨rfl,HS.out,zdz _ _ _ _⟩
 ·have HS:=hid (show IsM O w p pc n m back ⟨lnk m s.ch x,s.rw⟩ by
   unfold lnk;rw[if_neg hm];exact⟨_,_,_,_,h,na1,na2⟩)
  have hb:((m:Int)==2)=false:=by simp;omega
  clear h hr hf hm;go_enter Tryz.func58,Tryz.ntmps58;go_wp2_with fail
  exact bodyPost_end (results_none rfl _ _ _) rfl ⟨rfl,HS.out,zd5 (Ext.refl w)⟩
theorem zdr{o:Oper}{a:Act}{w:World}{K:Act->World->Prop}{Q:Exit->Act->World->Prop}(x y:Operand)(ho:o.op=.store 22 x y)(hd:o.dst=none)
  (g k:Nat) (A:Option Addr) (n c:Nat) (old:Value) (hx:a.eval x=.pointer (some ⟨g,k,none⟩)) (hy:a.eval y=.slice A n c)
  (hc:w.cell? ⟨g,k,none⟩=some old) (hf:w.frozen? ⟨g,k,none⟩=false)
  (h:K a (w.setCell ⟨g,k,none⟩ (.slice A n c))):o.wp Tryz.prog a w K Q:=by
 have hrun:(Instr.storeAt 22 (.pointer (some ⟨g,k,none⟩)) (.slice A n c)).run Tryz.prog w=.ok () (w.setCell ⟨g,k,none⟩ (.slice A n c)):=by go_simp
 unfold Oper.wp execOp;simp only[ho,hx,hy,Sem.run_bind,Sem.run_pure,hrun,Result.andThen_ok];have h':K (a.put o.dst undef) (w.setCell ⟨g,k,none⟩ (.slice A n c)):=by rw[hd];exact h
 exact h'
def PairB(O:Nat->Prop)(n:Nat)(bs:List UInt8)(w:World)(v:Value):Prop:=∃A c,v=.tuple #[.slice A n c,.int .i64 0]/\(n<=c/\c<=9223372036854775807)/\Rd w w.heap.size A n bs/\NA O n A
def SlB(O:Nat->Prop)(n:Nat)(bs:List UInt8)(w:World)(v:Value):Prop:=∃A c,v=.slice A n c/\(n<=c/\c<=9223372036854775807)/\Rd w w.heap.size A n bs/\NA O n A
theorem PairB.keep(O:Nat->Prop)(n:Nat)(bs:List UInt8):∀w w' v,Ext w w'->PairB O n bs w v->PairB O n bs w' v:=fun _ _ _ hx ⟨A,c,e,hc,hr,hn⟩=>⟨A,c,e,hc,hr.later hx,hn⟩
theorem SlB.keep(O:Nat->Prop)(n:Nat)(bs:List UInt8):∀w w' v,Ext w w'->SlB O n bs w v->SlB O n bs w' v:=fun _ _ _ hx ⟨A,c,e,hc,hr,hn⟩=>⟨A,c,e,hc,hr.later hx,hn⟩
theorem zws(vs:Array Value)(w:World):(callFunc 60 vs).run Tryz.prog w=.ok (.enter 60 vs) w:=by go_simp
def zuF(O:Nat->Prop)(p pc n:Nat)(A:Option Addr)(c:Nat)(row:List UInt8):List K:=[.eq (.pointer (some ⟨p,0,none⟩)),.eq (.pointer (some ⟨p,0,none⟩)),.eq (.pointer (some ⟨p,0,none⟩)),.eq (.pointer (some ⟨p,0,none⟩)),.eq (.pointer (some ⟨pc,0,none⟩)),.eq (.pointer (some ⟨p,0,none⟩)),.eq (.pointer (some ⟨p,0,none⟩)),.eq (.pointer (some ⟨p,4,none⟩)),.eq (.slice A n c),.gen (PairB O n row) (PairB.keep _ _ _),.gen (PairB O n row) (PairB.keep _ _ _),.gen (SlB O n row) (SlB.keep _ _ _),.eq (.int .i64 0),.eq (.pointer (some ⟨p,0,none⟩)),.eq (.pointer (some ⟨p,5,none⟩)),.any]
def zkJ(w w':World):List K->Prop
 | []=>True
 | k::l=>(∀v,k.holds w v->k.holds w' v)/\zkJ w w' l
theorem zrw{w w':World}:∀ {ks:List K},zkJ w w' ks->∀i v,kV ks i w v->kV ks i w' v
 | [],_,_,_,_=>trivial
 | _::_,h,0,v,hv=>h.1 v hv
 | _::_,h,i+1,v,hv=>zrw h.2 i v hv
theorem SlB.gb{O:Nat->Prop}{w w':World}{p n:Nat}{bs:List UInt8}(hp:zex w p)(hg:GB p w w')(v:Value)(h:SlB O n bs w v):SlB O n bs w' v:=by
 obtain⟨A,c,rfl,h1,hr,hn⟩:=h;exact⟨A,c,rfl,h1,hr.gb hp hg,hn⟩
theorem PairB.gb{O:Nat->Prop}{w w':World}{p n:Nat}{bs:List UInt8}(hp:zex w p)(hg:GB p w w')(v:Value)(h:PairB O n bs w v):PairB O n bs w' v:=by
 obtain⟨A,c,rfl,h1,hr,hn⟩:=h;exact⟨A,c,rfl,h1,hr.gb hp hg,hn⟩
theorem znE(O:Nat->Prop)(p pc n m:Nat)(back:Bool)(s:St)(f:Bool->List UInt8->List UInt8)(w:World)(hm:3<=m)(hF:FOk f n)(hn:n<=1000)(hO:∀k,O k->k<w.heap.size)(h:IsM O w p pc n m back s)(hC:IsC w pc n f):
  Calls Tryz.prog 61 #[.pointer (some ⟨p,0,none⟩)] w (MRet O w p pc n m back (beg f m s) (.tuple #[])):=by
 obtain⟨A1,c1,A2,c2,h,na1,_⟩:=h;have hlen:=hF.len false s.ch h.ch.len;have HH:=hid h;have HC:=hid hC;have HL:=hid hlen;have HM:=hid hm;have HN:=hid hn;have HO:=hid hO;have HNA:=hid na1;clear h hC hF hlen hm hn hO na1;go_enter Tryz.func61,Tryz.ntmps61;go_wp2_with fail
 refine zha 15 _ (fun w1=>∃A3 c3,MAt w1 p pc n m back ⟨s.ch,f false s.ch⟩ A1 c1 A3 c3/\GB p w w1/\NA O n A3) mixed rfl (by kernel_rfl) rfl rfl (kV (zuF O p pc n A1 c1 (f false s.ch))) (zdm _) (fun _ _ hx ⟨A3,c3,h,hg,hn⟩=>⟨A3,c3,h.later hx,zbE hg (zd5 hx),hn⟩) (zab ⟨fun _ _ _ h _=>h.mv,fun _ _ _ h _=>h.mv,?_,?_,?_,fun _ _ _ h _=>h.mv,?_,?_,?_,?_,?_,?_,?_,?_,?_,fun h=>absurd rfl h,trivial⟩) ?_ ?_
 ·intro _ a w hk hx;have s4:=hk.eq_ 1 4;refine za ?_;go_simp
 ·intro _ a w hk hx;have s5:=hk.eq_ 2 5;refine za ?_;go_simp
 ·intro _ a w hk hx;have s6:=hk.eq_ 3 6;have hc:=(HH.out.later (hx (by kernel_rfl))).cells.1;refine za ?_;go_simp
 ·intro _ a w hk hx;have s8:=hk.eq_ 5 8;refine za ?_;go_simp
 ·intro _ a w hk hx;have s9:=hk.eq_ 6 9;refine za ?_;go_simp
 ·intro _ a w hk hx;have s10:=hk.eq_ 7 10;have hc:=(HH.out.later (hx (by kernel_rfl))).cells.2.2.2.2.1;refine za ?_;go_simp
 ·intro _ a w hk hx;have hx:=hx (by kernel_rfl);exact hk.call zws (zoz pc A1 n c1 f s.ch w (HC.out.later hx) (HH.out.ch.later hx) HH.out.cap) (fun e w' ⟨A,c,e,hc,hr,hy,hf⟩=>⟨_,e,hy,A,c,rfl,hc,hr,hf.na (fun k hk=>Nat.lt_of_lt_of_le (HO.out k hk) (Below.size hx)) _⟩)
 ·intro _ a w hk _;exact zat rfl rfl rfl (hk.slot 9 12 (by kernel_rfl))
 ·intro _ a w hk _;obtain⟨A,c,e,hc,hr,hn⟩:=hk.slot 10 2 (by kernel_rfl);exact zcX rfl rfl e rfl ⟨A,c,rfl,hc,hr,hn⟩
 ·intro _ a w hk _;obtain⟨A,c,e,hc,hr⟩:=hk.slot 10 2 (by kernel_rfl);exact zcX rfl rfl e rfl rfl
 ·intro _ a w hk hx;have s3:=hk.eq_ 0 3;refine za ?_;go_simp
 ·intro _ a w hk hx;have s15:=hk.eq_ 13 15;refine za ?_;go_simp
 ·intro a w1 hk;obtain⟨A3,c3,s13,hc3,hr3,hn3⟩:=hk.slot 11 13 (by kernel_rfl);have hM:=HH.out.later hk.ext;refine zdr (.tmp 16) (.tmp 13) rfl rfl p 5 A3 n c3 _ (hk.eq_ 14 16) s13 hM.cells.2.2.2.2.2.1 (hM.cells.2.2.2.2.2.2 5) ?_;have hg:=zdz w1 p 5 (.slice A3 n c3);refine⟨undef,rfl,⟨A3,c3,hM.setrw hr3 hc3,zbE (zd5 hk.ext) hg,hn3⟩,trivial,zrw ?_⟩;exact⟨fun _ h=>h,fun _ h=>h,fun _ h=>h,fun _ h=>h,fun _ h=>h,fun _ h=>h,fun _ h=>h,fun _ h=>h,fun _ h=>h,PairB.gb hM.is hg,PairB.gb hM.is hg,SlB.gb hM.is hg,fun _ h=>h,fun _ h=>h,fun _ h=>h,fun _ h=>h,trivial⟩
 intro a W hf ⟨A3,c3,hM1,hg,hn3⟩;have e:=hf.fr;clear hf;simp only[zuF,frV,kPut,Act.put,List.setIfInBounds_toArray,List.set_cons_zero,List.set_cons_succ] at e;generalize a.tmps.getD 12 undef=u12 at e;generalize a.tmps.getD 2 undef=u2 at e;generalize a.tmps.getD 13 undef=u13 at e;subst e;have HG:=hid hg;have HN3:=hid hn3;have HNR:=hid (show NA O (f false s.ch).length A3 by rw[HL.out];exact hn3);have HM1:=hid hM1;obtain⟨_,k1,_,_,k4,k5,kf⟩:=hM1.cells;have kf4:=kf 4;have hk5:W.cell? ⟨p,5,none⟩=some (.slice A3 n c3):=by rw[k5];show some (Value.slice A3 (f false s.ch).length c3)=_;rw[HL.out]
 have HR3:=hid (show Rd W W.heap.size A3 n (f false s.ch) by have:=hM1.rw_;simp only[HL.out] at this;exact this);have HC3:=hid (show n<=c3/\c3<=9223372036854775807 by have:=hM1.cap';simp only[HL.out] at this;exact this);clear hM1 k5 kf hg hn3;by_cases h5:m=5
 ·subst h5;have HS:=hid (show IsM O (W.setCell ⟨p,4,none⟩ (.slice A3 n c3)) p pc n 5 back (beg f 5 s) from⟨_,_,_,_,HM1.out.setch HR3.out HC3.out,HN3.out,HNR.out⟩);go_wp2_with fail
  exact bodyPost_end (results_none rfl _ _ _) rfl ⟨rfl,HS.out,zbE HG.out (zdz _ _ _ _)⟩
 ·have hb5:((m:Int)==5)=false:=by simp;omega
  by_cases h6:m=6
  ·subst h6;clear h5;go_wp2_with fail
   refine(zrI A1 n c1 s.ch W HM1.out.ch (by have:=HN.out;omega)).mono ?_;rintro e w2 hr;obtain⟨v4,rfl,ho4,hx⟩:=hr;obtain⟨A4,c4,rfl,hc4,hr4,hf4⟩:=ho4.rdf (n:=n) (by rw[zgR];exact HM1.out.ch.len);have HN4:=hid (hf4.na (fun k hk=>Nat.lt_of_lt_of_le (HO.out k hk) HG.out.size) n);clear ho4 hf4;have hM:=HM1.out.later hx;obtain⟨_,_,_,_,l4,_,lf⟩:=hM.cells;have lf4:=lf 4;have HS:=hid (show IsM O (w2.setCell ⟨p,4,none⟩ (.slice A4 n c4)) p pc n 6 back (beg f 6 s) from⟨_,_,_,_,hM.setch hr4 hc4,HN4.out,HNR.out⟩);have HG2:=hid (zbE HG.out (zbE (zd5 hx) (zdz w2 p 4 (.slice A4 n c4))));clear hM hx hr4 hc4 lf k1 k4 kf4 hk5;go_wp2_with fail
   exact bodyPost_end (results_none rfl _ _ _) rfl ⟨rfl,HS.out,HG2.out⟩
  ·have hb6:((m:Int)==6)=false:=by simp;omega
   have HS:=hid (show beg f m s=⟨s.ch,f false s.ch⟩ by unfold beg;rw[if_neg h5,if_neg h6]);clear h5 h6;go_wp2_with fail
   exact bodyPost_end (results_none rfl _ _ _) rfl ⟨rfl,by rw[HS.out];exact⟨_,_,_,_,HM1.out,HNA.out,HNR.out⟩,HG.out⟩
def BRet(O:Nat->Prop)(w:World)(p pc n m:Nat)(back:Bool)(o:List UInt8)(s:St)(e:Ending)(w':World):Prop :=
 ∃A c,e=.returned (.slice A n c)/\(n<=c/\c<=9223372036854775807)/\Rd w' w'.heap.size A n o/\NA O n A/\IsM O w' p pc n m back s/\GB p w w'
theorem zbs(O:Nat->Prop)(p pc n m:Nat)(s:St)(f:Bool->List UInt8->List UInt8)(Ab:Option Addr)(c:Nat)(b:List UInt8)(w:World)(hF:FOk f n)(hn:n<=1000)(hO:∀k,O k->k<w.heap.size)(h:IsM O w p pc n m true s)(hC:IsC w pc n f)
  (hr:Rd w w.heap.size Ab n b) (hc:n<=c/\c<=9223372036854775807):
  Calls Tryz.prog 38 #[.pointer (some ⟨p,0,none⟩),.slice Ab n c] w (BRet O w p pc n m true (blkO f n true s b) (blkS f n m true s b)):=by
 obtain⟨A1,c1,A2,c2,h,na1,na2⟩:=h;obtain⟨h0,_,h2,_,h4,_,_⟩:=h.cells;have HH:=hid h;have HC:=hid hC;have HR:=hid hr;have HCP:=hid hc;have HN:=hid (And.intro hn hF.pos);have HO:=hid hO;have HNA:=hid (And.intro na1 na2);clear h hC hF hn hr hc hO na1 na2;go_enter Tryz.func38,Tryz.ntmps38;go_wp2_with fail
 refine(zsf pc Ab n c f b w HC.out HR.out HCP.out).mono ?_;rintro e w1 ⟨A3,c3,rfl,hc3,hr3,hx3,_⟩;have HX1:=hid hx3;have HR3:=hid hr3;obtain⟨_,_,_,_,k4,_,_⟩:=(HH.out.later hx3).cells;clear h0 h2 h4 hx3 hr3;go_wp2_with fail
 refine(A.zjx A3 A1 n c3 c1 (f true b) s.ch w1 HR3.out (HH.out.later HX1.out).ch (by have:=HN.out;omega)).mono ?_;rintro e w2 ⟨v2,rfl,ho2,hx2⟩;obtain⟨A4,c4,rfl,hc4,hr4,hf4⟩:=ho2.rdf (zhr _ _ n);have HX2:=hid (Ext.trans HX1.out hx2);have HR4:=hid hr4;have HC4:=hid hc4;have HN4:=hid (hf4.na (fun k hk=>Nat.lt_of_lt_of_le (HO.out k hk) (Below.size HX1.out)) n);clear k4 ho2 hx2 hr4 hc4 hf4 HX1 HR3;go_wp2_with fail
 refine(D.zjq Ab n c b w2 (HR.out.later HX2.out) HN.out.2 (by have:=HN.out;omega)).mono ?_;rintro e w3 ⟨v3,rfl,ho3,hx3⟩;obtain⟨A5,c5,rfl,hc5,hr5,hf5⟩:=ho3.rdf HR.out.len;have HN5:=hid (hf5.na (fun k hk=>Nat.lt_of_lt_of_le (HO.out k hk) (Below.size HX2.out)) n);have HX3:=hid (Ext.trans HX2.out hx3);have HR5:=hid hr5;have HR4:=hid (HR4.out.later hx3);have HC5:=hid hc5;clear ho3 hx3 hr5 hc5 hf5 HX2;go_wp2_with fail
 refine(zlk O p pc n m true s A5 c5 b w3 ⟨_,_,_,_,HH.out.later HX3.out,HNA.out.1,HNA.out.2⟩ HR5.out HC5.out HN5.out).mono ?_;rintro e w4 ⟨rfl,hM,hG⟩;have HM:=hid hM;have HG:=hid (zbE (zd5 HX3.out) hG);have HR4:=hid (HR4.out.gb (HH.out.later HX3.out).is hG);clear hM hG;go_wp2_with fail
 go_ret;exact⟨A4,c4,rfl,HC4.out,HR4.out,HN4.out,HM.out,HG.out⟩
theorem zea(O:Nat->Prop)(p pc n m:Nat)(s:St)(f:Bool->List UInt8->List UInt8)(Ab:Option Addr)(c:Nat)(b:List UInt8)(w:World)(hF:FOk f n)(hn:n<=1000)(hO:∀k,O k->k<w.heap.size)(h:IsM O w p pc n m false s)(hC:IsC w pc n f)
  (hr:Rd w w.heap.size Ab n b):
  Calls Tryz.prog 38 #[.pointer (some ⟨p,0,none⟩),.slice Ab n c] w (BRet O w p pc n m false (blkO f n false s b) (blkS f n m false s b)):=by
 obtain⟨A1,c1,A2,c2,h,na1,na2⟩:=h;obtain⟨_,_,h2,_,h4,_,_⟩:=h.cells;have HH:=hid h;have HC:=hid hC;have HR:=hid hr;have HN:=hid (And.intro hn hF.pos);have HO:=hid hO;have HNA:=hid (And.intro na1 na2);clear h hC hF hn hr hO na1 na2;go_enter Tryz.func38,Tryz.ntmps38;go_wp2_with fail
 refine(A.zjx Ab A1 n c c1 b s.ch w HR.out HH.out.ch (by have:=HN.out;omega)).mono ?_;rintro e w2 ⟨v2,rfl,ho2,hx2⟩;obtain⟨A4,c4,rfl,hc4,hm4,hr4⟩:=ho2.rdm (zhr _ _ n);have HX2:=hid (show Ext w w2 from hx2);have HR4:=hid hr4;have HC4:=hid (And.intro hc4 hm4);obtain⟨k0,_,_,_,_,_,_⟩:=(HH.out.later hx2).cells;clear h2 h4 ho2 hx2 hr4 hc4 hm4;go_wp2_with fail
 refine(zoz pc A4 n c4 f (_root_.Go.Proofs.YtiajebbfgpnenaaGreatDoor.xorL b s.ch n) w2 (HC.out.later HX2.out) HR4.out HC4.out).mono ?_;rintro e w3 ⟨A5,c5,rfl,hc5,hr5,hx5,hf5⟩;have HN5:=hid (hf5.na (fun k hk=>Nat.lt_of_lt_of_le (HO.out k hk) (Below.size HX2.out)) n);have HX3:=hid (Ext.trans HX2.out hx5);have HR5:=hid hr5;have HC5:=hid hc5;clear k0 hx5 hr5 hc5 hf5 HX2;go_wp2_with fail
 refine(zlk O p pc n m false s A5 c5 (f false (_root_.Go.Proofs.YtiajebbfgpnenaaGreatDoor.xorL b s.ch n)) w3 ⟨_,_,_,_,HH.out.later HX3.out,HNA.out.1,HNA.out.2⟩ HR5.out HC5.out HN5.out).mono ?_;rintro e w4 ⟨rfl,hM,hG⟩;have HM:=hid hM;have HG:=hid (zbE (zd5 HX3.out) hG);have HR5:=hid (HR5.out.gb (HH.out.later HX3.out).is hG);clear hM hG;go_wp2_with fail
 go_ret;exact⟨A5,c5,rfl,HC5.out,HR5.out,HN5.out,HM.out,HG.out⟩
theorem zb6(O:Nat->Prop)(p pc n m:Nat)(back:Bool)(s:St)(f:Bool->List UInt8->List UInt8)(Ab:Option Addr)(c:Nat)(b:List UInt8)(w:World)(hF:FOk f n)(hn:n<=1000)(hO:∀k,O k->k<w.heap.size)(h:IsM O w p pc n m back s)(hC:IsC w pc n f)
  (hr:Rd w w.heap.size Ab n b) (hc:n<=c/\c<=9223372036854775807):
  Calls Tryz.prog 38 #[.pointer (some ⟨p,0,none⟩),.slice Ab n c] w (BRet O w p pc n m back (blkO f n back s b) (blkS f n m back s b)):=by
 cases back
 ·exact zea O p pc n m s f Ab c b w hF hn hO h hC hr
 ·exact zbs O p pc n m s f Ab c b w hF hn hO h hC hr hc
theorem u8_xor(x y:UInt8):bits .xor .u8 (x.toNat:Int) (y.toNat:Int)=((x^^^y).toNat:Int):=by
 have:=_root_.Go.Proofs.YtiajebbfgpnenaaGreatDoor.zfJ [x] [y] 0;simpa [_root_.Go.Proofs.YtiajebbfgpnenaaGreatDoor.xorF,zac] using this.symm
theorem zoo(H p pc n m:Nat)(back:Bool)(s:St)(cb co d1:Nat)(A6:Option Addr)(d6:Nat)(fd:UInt8)(w:World)(hH:w.heap.size=H)(h:MAt w p pc n m back s (some ⟨cb,co,none⟩) d1 A6 d6)(h1:1<=n)(hn:n<=1000):
  Calls Tryz.prog 62 #[.slice (some ⟨H+1,0,none⟩) 2 2] ((w.alloc (.cells #[.int .u8 (fd.toNat:Nat)] 5)).alloc (.cells #[.slice (if d1=1 then some ⟨cb,co,none⟩ else some ⟨cb,co+1,none⟩) (n-1) (d1-1),.slice (some ⟨H,0,none⟩) 1 1] 22))
   fun e w'=>∃A7 c7,e=.returned (.slice A7 n c7)/\(n<=c7/\c7<=9223372036854775807)/\Rd w' w'.heap.size A7 n (s.ch.drop 1++[fd])/\MAt w' p pc n m back s (some ⟨cb,co,none⟩) d1 A6 d6/\Ext w w'/\Fr w.heap.size A7:=by
 subst hH;have hr:=h.ch.cutlo (l:=1) h1 h.cap.1;have e5:(if d1=1 then(some ⟨cb,co,none⟩:Option Addr) else(some ⟨cb,co,none⟩:Option Addr).map (·.add (1*1)))=if d1=1 then some ⟨cb,co,none⟩ else some ⟨cb,co+1,none⟩:=by simp only[Option.map_some,zaK,Nat.mul_one]
 rw[e5] at hr;obtain⟨A5,hA5⟩:∃A5,(if d1=1 then(some ⟨cb,co,none⟩:Option Addr) else some ⟨cb,co+1,none⟩)=A5:=⟨_,rfl⟩;rw[hA5] at hr ⊢;have hx1:=Ext.alloc w (.cells #[.int .u8 (fd.toNat:Nat)] 5);have hr2:=(Own.lit w [fd] #[.int .u8 (fd.toNat:Nat)] 1 w.heap.size rfl rfl (by unfold maxLen;omega) (Nat.le_refl _)).rdm rfl;obtain⟨A6',c6',e6,_,_,hr6⟩:=hr2;cases e6
 have hx2:=Ext.alloc (w.alloc (.cells #[.int .u8 (fd.toNat:Nat)] 5)) (.cells #[.slice A5 (n-1) (d1-1),.slice (some ⟨w.heap.size,0,none⟩) 1 1] 22);have hrow:=S.RowsB.two (w.alloc (.cells #[.int .u8 (fd.toNat:Nat)] 5)) A5 (some ⟨w.heap.size,0,none⟩) (n-1) 1 (d1-1) 1 22 (s.ch.drop 1) [fd] (hr.later hx1) hr6;have hs1:(w.alloc (.cells #[.int .u8 (fd.toNat:Nat)] 5)).heap.size=w.heap.size+1:=by simp
 rw[hs1] at hrow;have hl:=h.ch.len;have hfl:[s.ch.drop 1,[fd]].flatten=s.ch.drop 1++[fd]:=by simp
 have hlen:(s.ch.drop 1++[fd]).length=n:=by simp;omega
 refine(S.zbV (w.heap.size+1) 0 2 2 [s.ch.drop 1,[fd]] _ rfl hrow (by rw[hfl,hlen];omega) (by rw[hfl,hlen];omega) (by omega)).mono ?_;rintro e w' ⟨v,rfl,ho,hx3⟩;rw[hfl] at ho;obtain⟨A7,c7,rfl,h7,h9,hf⟩:=ho.rdf hlen;have hx:=Ext.trans hx1 (Ext.trans hx2 hx3);exact⟨A7,c7,rfl,h7,h9,h.later hx,hx,hf.mono (Below.size (Ext.trans hx1 hx2))⟩
def zvh(O:Nat->Prop)(w:World)(p pc n m:Nat)(back:Bool)(o:UInt8)(s:St)(e:Ending)(w':World):Prop:=e=.returned (.int .u8 (o.toNat:Nat))/\IsM O w' p pc n m back s/\GB p w w'
theorem zqM(O:Nat->Prop)(p pc n m:Nat)(back:Bool)(s:St)(f:Bool->List UInt8->List UInt8)(x:UInt8)(w:World)(hm:3<=m/\m<=6)(hF:FOk f n)(hn:n<=1000)(hg:Good n m s)(hO:∀k,O k->k<w.heap.size)(h:IsM O w p pc n m back s)(hC:IsC w pc n f):
  Calls Tryz.prog 39 #[.pointer (some ⟨p,0,none⟩),.int .u8 (x.toNat:Nat)] w (zvh O w p pc n m back (byO f m s x) (byS f m back s x)):=by
 have HB:=hid (znY (m:=m) hF hg);have HBG:=hid (show IsM O w p pc n m back s from h);have HCALL:=hid (znE O p pc n m back s f w hm.1 hF hn hO h hC);obtain⟨A1,c1,A2,c2,h,_,_⟩:=h;obtain⟨_,_,_,_,_,h5,_⟩:=h.cells;obtain⟨L,hL⟩:∃L,s.rw.length=L:=⟨_,rfl⟩;rw[hL] at h5;have HLL:=hid hL;have HM:=hid hm;have HN:=hid (And.intro hn hF.pos);have HP:=hid h.lt;have HO0:=hid hO;clear h hm hF hn hg hC hL hO;go_enter Tryz.func39,Tryz.ntmps39;go_upto_if 12 with fail
 go_cut [] (fun wx=>IsM O wx p pc n m back (bt f m s)/\GB p w wx)
 case first =>
  by_cases hz:L=0
  ·subst hz;have HE:=hid (show bt f m s=beg f m s by unfold bt;rw[if_pos HLL.out]);go_wp2_with fail
   refine HCALL.out.mono ?_;rintro e w1 ⟨rfl,hM,hG⟩;have HR:=hid (And.intro hM hG);clear hM hG;go_wp2_with fail
   go_meet
   rw[HE.out];exact HR.out
  ·have HE:=hid (show bt f m s=s by unfold bt;rw[if_neg (by rw[HLL.out];exact hz)]);have hb:((L:Int)==0)=false:=by simp;omega
   clear hz;go_wp2_with fail
   go_meet
   rw[HE.out];exact⟨HBG.out,zd5 (Ext.refl w)⟩
 case rest =>
  obtain⟨hM,hG⟩:=hcut;clear h5 HCALL HBG;rename_i hK;apply hK;clear hK;obtain⟨t,ht⟩:∃t,bt f m s=t:=⟨_,rfl⟩;have hB:=HB.out;rw[ht] at hM hB;have HTT:=hid ht;clear ht HB;obtain⟨B1,d1,B2,d2,h,na1,na2⟩:=hM;obtain⟨_,g1,g2,_,g4,g5,gf⟩:=h.cells;obtain⟨R,hR⟩:∃R,t.rw.length=R:=⟨_,rfl⟩;have h1R:=hB.2;rw[hR] at g5 h1R na2;have HNA1:=hid na1;obtain⟨b,o,rfl,_,hcells⟩:=h.rw_.at_ (by omega);have hc0:=hcells 0 (by omega);rw[Nat.add_zero] at hc0;obtain⟨y,hy⟩:∃y,t.rw.getD 0 0=y:=⟨_,rfl⟩;rw[show zac t.rw 0=(y.toNat:Int) by unfold zac;rw[hy]] at hc0;have HO:=hid (show byO f m s x=x^^^y by unfold byO;rw[HTT.out,hy]);have hxor:=u8_xor x y;have gf5:=gf 5;have HH:=hid h;have HG:=hid hG;have HR:=hid hR;have HBB:=hid hB;have HNA2:=hid (show ∀A5,(if d2=1 then(some ⟨b,o,none⟩:Option Addr) else some ⟨b,o+1,none⟩)=A5->NA O (t.rw.drop 1).length A5 from fun A5 e _ a ea=>by
   have hb:=na2 (by omega) _ rfl;rw[<-e] at ea;split at ea<;>cases ea<;>exact hb)
  clear h hG hR hy hB hcells gf na1 na2;go_upto_if 35 with fail
  rw[<-UInt8.toNat_xor];obtain⟨z,hz⟩:∃z,x^^^y=z:=⟨_,rfl⟩;rw[hz];have HO2:=hid (HO.out.trans hz);have hr5:=HH.out.rw_.cutlo (l:=1) (by rw[HR.out];omega) HH.out.cap'.1;rw[HR.out] at hr5;have hcp:=HH.out.cap';rw[HR.out] at hcp;have e5:(if d2=1 then(some ⟨b,o,none⟩:Option Addr) else(some ⟨b,o,none⟩:Option Addr).map (·.add (1*1)))=if d2=1 then some ⟨b,o,none⟩ else some ⟨b,o+1,none⟩:=by simp only[Option.map_some,zaK,Nat.mul_one]
  rw[e5] at hr5;obtain⟨A5,hA5⟩:∃A5,(if d2=1 then(some ⟨b,o,none⟩:Option Addr) else some ⟨b,o+1,none⟩)=A5:=⟨_,rfl⟩;rw[hA5] at hr5 ⊢;have hM5:=HH.out.setrw hr5 (c2:=d2-1) ⟨by omega,by omega⟩;have hG5:=zbE HG.out (zdz wc p 5 (.slice A5 (R-1) (d2-1)));obtain⟨W,hW⟩:∃W,wc.setCell ⟨p,5,none⟩ (.slice A5 (R-1) (d2-1))=W:=⟨_,rfl⟩;rw[hW] at hM5 hG5 ⊢;have HM5:=hid hM5;have HG5:=hid hG5;have HNR:=hid (HNA2.out A5 hA5);have HFD:=hid (show fed f m back s x=if back then x else z by unfold fed;rw[HO2.out]);clear HNA2 hM5 hG5 hW hA5 e5 hr5 hcp HH HG HO hz hxor hc0 gf5 g1 g2 g4 g5 h1R;go_cut [6] (fun v wx=>v=.int .u8 ((if back then x else z).toNat:Nat)/\wx=W)
  case first =>
   cases back
   ·go_wp2_with fail
    go_meet
    exact⟨rfl,rfl⟩
   ·go_wp2_with fail
    go_meet
    exact⟨rfl,rfl⟩
  case rest =>
   obtain⟨rfl,rfl⟩:=hcut;rename_i hK;apply hK;clear hK;obtain⟨_,g1,_,_,g4,g5,gf⟩:=HM5.out.cells;obtain⟨fd,hfd⟩:∃fd,(if back then x else z)=fd:=⟨_,rfl⟩;rw[hfd];have HFD2:=hid (HFD.out.trans hfd);clear hfd HFD;have gf4:=gf 4;have gf5:=gf 5;clear gf;by_cases h56:m=5\/m=6
   ·have hb3:((m:Int)==3)=false:=by simp;omega
    have hb4:((m:Int)==4)=false:=by simp;omega
    have HS:=hid (show byS f m back s x=⟨t.ch,t.rw.drop 1⟩ by unfold byS;rw[if_neg (by omega),if_neg (by omega),HTT.out]);clear h56;go_wp2_with fail
    go_ret;exact⟨by rw[HO2.out];rfl,by rw[HS.out];exact⟨_,_,_,_,HM5.out,HNA1.out,HNR.out⟩,HG5.out⟩
   ·have h34:m=3\/m=4:=by have:=HM.out;omega
    clear h56 HM;have h1n:=HN.out.2;obtain⟨cb,co,rfl,_,_⟩:=HM5.out.ch.at_ (by omega);rcases h34 with rfl|rfl
    ·have hM3:=HM5.out.setrw (A2:=none) (k:=0) (x:=[]) (c2:=0) (Rd.nil _ _ _) ⟨Nat.le_refl _,by omega⟩;have HCC:=hid (zoo wc.heap.size p pc n 3 back _ cb co d1 _ _ fd _ (by simp) hM3 h1n HN.out.1);have HG6:=hid (zbE HG5.out (zdz wc p 5 (.slice none 0 0)));have HS:=hid (show byS f 3 back s x=⟨t.ch.drop 1++[fd],[]⟩ by unfold byS;rw[if_pos (by omega),if_pos rfl,HTT.out,HFD2.out]);clear hM3;by_cases hd:d1=1;all_goals (first|subst hd|skip)
     all_goals
      have hC:=HCC.out;first
       | simp only[if_neg hd] at hC
       | simp only[if_true,Nat.sub_self] at hC
      clear HCC;have HCC:=hid hC;clear hC;go_wp2_with fail
      refine HCC.out.mono ?_;rintro e w2 ⟨A7,c7,rfl,hc7,hr7,hM7,hx7,hf7⟩;obtain⟨_,_,_,_,l4,_,lf⟩:=hM7.cells;have lf4:=lf 4;have HN7:=hid (hf7.na (fun k hk=>Nat.lt_of_lt_of_le (HO0.out k hk) HG6.out.size) n);have HM8:=hid (hM7.setch hr7 hc7);have HG8:=hid (zbE HG6.out (zbE (zd5 hx7) (zdz w2 p 4 (.slice A7 n c7))));clear lf hM7 hx7 hr7 hc7 hf7;go_wp2_with fail
      go_ret;exact⟨by rw[HO2.out];rfl,by rw[HS.out];exact⟨_,_,_,_,HM8.out,HN7.out,fun h=>absurd h (by simp)⟩,HG8.out⟩
    ·have HCC:=hid (zoo wc.heap.size p pc n 4 back _ cb co d1 _ _ fd _ rfl HM5.out h1n HN.out.1);have HS:=hid (show byS f 4 back s x=⟨t.ch.drop 1++[fd],t.rw.drop 1⟩ by unfold byS;rw[if_pos (by omega),if_neg (by omega),HTT.out,HFD2.out]);by_cases hd:d1=1;all_goals (first|subst hd|skip)
     all_goals
      have hC:=HCC.out;first
       | simp only[if_neg hd] at hC
       | simp only[if_true,Nat.sub_self] at hC
      clear HCC;have HCC:=hid hC;clear hC;go_wp2_with fail
      refine HCC.out.mono ?_;rintro e w2 ⟨A7,c7,rfl,hc7,hr7,hM7,hx7,hf7⟩;obtain⟨_,_,_,_,l4,_,lf⟩:=hM7.cells;have lf4:=lf 4;have HN7:=hid (hf7.na (fun k hk=>Nat.lt_of_lt_of_le (HO0.out k hk) HG5.out.size) n);have HM8:=hid (hM7.setch hr7 hc7);have HG8:=hid (zbE HG5.out (zbE (zd5 hx7) (zdz w2 p 4 (.slice A7 n c7))));clear lf hM7 hx7 hr7 hc7 hf7;go_wp2_with fail
      go_ret;exact⟨by rw[HO2.out];rfl,by rw[HS.out];exact⟨_,_,_,_,HM8.out,HN7.out,HNR.out⟩,HG8.out⟩
theorem zpm{w:World}{base O L n c B:Nat}{xs ys:List UInt8}{Ay:Option Addr}(ty:TypeId)(hown:Own w base (.slice (some ⟨O,0,none⟩) xs.length L) xs)(hr:Rd w B Ay n ys)(h0:0<n)(hroom:xs.length+n<=L)(hL:L<=100000)(hb:base<=w.heap.size):
  ∃w',(Builtin.append_ #[22,22] ty #[.slice (some ⟨O,0,none⟩) xs.length L,.slice Ay n c]).run Tryz.prog w=.ok (.slice (some ⟨O,0,none⟩) (xs.length+n) L) w'/\Own w' base (.slice (some ⟨O,0,none⟩) (xs.length+n) L) (xs++ys)/\GB O w w':=by
 obtain⟨i0,hi,hz0,hz1,hz2⟩:=info_parts Tryz.info5;have hl:=hr.len;obtain⟨b,off,rfl,_,hc⟩:=hr.at_ h0;have hnews:∀j u,(cellsOf ys)[j]? = some u->w.cell? ((⟨b,off,none⟩:Addr).add j)=some u:=by
  intro j u hu;rcases Nat.lt_or_ge j n with hj|hj
  ·rw[zal ys j (by omega)] at hu;cases hu
   rw[zaK];exact hc j hj
  ·rw[List.getElem?_eq_none (by rw[zaa];omega)] at hu;cases hu
 have hlen:(cellsOf ys).length=n*1:=by rw[zaa];omega
 have hmax:xs.length+n<=maxLen:=by unfold maxLen;omega
 obtain⟨v',w',hrun,r1,r2,_⟩:=run_append_own (P:=Tryz.prog) w base 22 ty 5 i0 (.int .u8 0) 1 1 Tryz.underlying22 hi hz0 hz1 hz2 rfl (by decide) _ xs.length (cellsOf xs) hown ⟨b,off,none⟩ n c (cellsOf ys) (by rw[hlen]) hnews (zaN ys) hmax (by omega) hb;rcases hown.2 with⟨h1,_⟩|⟨g,cap,cur,h1,hbg,hg,hnc,hcm,hcs,htake⟩
 ·cases h1
 ·simp only[Value.slice.injEq,Option.some.injEq,Addr.mk.injEq,and_true] at h1;obtain⟨rfl,_,rfl⟩:=h1;have hrm:=run_append_room (P:=Tryz.prog) w 22 ty 5 i0 Tryz.underlying22 hi O xs.length L cur hg ⟨b,off,none⟩ n c (cellsOf ys) (by rw[hz1,hlen]) hnews (zaN ys) hroom (by rw[hz1,hlen];omega);have e:=hrun.symm.trans hrm;simp only[Result.ok.injEq] at e;obtain⟨rfl,_⟩:=e;refine⟨w',hrun,?_,r2⟩;unfold Own;rw[List.length_append,zbr,hl];exact r1
theorem zlo{w:World}{ops:Array Oper}{rest:List Oper}{o:Oper}{a:Act}{Q:Exit->Act->World->Prop}(hgd:o.guard=none)(s x:Operand)
  (ho:o.op=.call { callee:=.builtin .append,args:=#[s,x],argTypes:=#[22,22] })
  {base O L n c B k:Nat} {xs ys:List UInt8} {Ay:Option Addr} (hk:xs.length=k) (hs:a.eval s=.slice (some ⟨O,0,none⟩) k L) (hown:Own w base (.slice (some ⟨O,0,none⟩) k L) xs) (hx:a.eval x=.slice Ay n c) (hr:Rd w B Ay n ys) (h0:0<n) (hroom:k+n<=L) (hL:L<=100000) (hb:base<=w.heap.size)
  (h:∀w',Own w' base (.slice (some ⟨O,0,none⟩) (k+n) L) (xs++ys)->GB O w w'->wpList Tryz.prog ops Q rest (a.put o.dst (.slice (some ⟨O,0,none⟩) ((k+n:Nat)) L)) w'):
  wpList Tryz.prog ops Q (o::rest) a w:=by
 subst hk;obtain⟨w',hrun,r1,r2⟩:=zpm (c:=c) o.type hown hr h0 hroom hL hb;refine wpList_plain hgd fun K hK'=>?_
 unfold Oper.wp;simp[execOp,ho,resolve,invoke,builtin,hs,hx,hrun,Result.andThen];exact hK' _ _ (h w' r1 r2)
def zsY(S:Nat->Prop)(w:World)(p pc n m:Nat)(back:Bool)(r:List UInt8×St)(e:Ending)(w':World):Prop :=
 ∃v,e=.returned (.tuple #[v,.int .i64 0])/\Own w' w.heap.size v r.1/\IsM S w' p pc n m back r.2/\GB p w w'
structure OG (O p:Nat) (w w':World):Prop where
 os:w'.os=w.os
 tape:w'.tape=w.tape
 output:w'.output=w.output
 size:w.heap.size<=w'.heap.size
 block:∀k,k<w.heap.size->k≠p->w'.heap[k]? = w.heap[k]?
theorem OG.gb{O p:Nat}{w w':World}(h:OG O p w w'):GB p w w':=⟨h.os,h.tape,h.output,h.size,fun k hk hn=>h.block k hk (by simpa using hn)⟩
theorem OG.p{O p:Nat}{w a b:World}(h:OG O p w a)(hg:GB p a b):OG O p w b :=
 ⟨hg.os.trans h.os,hg.tape.trans h.tape,hg.output.trans h.output,Nat.le_trans h.size hg.size,fun k hk hn=>(hg.block k (Nat.lt_of_lt_of_le hk h.size) (by simp[hn])).trans (h.block k hk hn)⟩
theorem OG.o{O p:Nat}{w a b:World}(h:OG O p w a)(hO:w.heap.size<=O)(hg:GB O a b):OG O p w b :=
 ⟨hg.os.trans h.os,hg.tape.trans h.tape,hg.output.trans h.output,Nat.le_trans h.size hg.size,fun k hk hn=>(hg.block k (Nat.lt_of_lt_of_le hk h.size) (by simp;omega)).trans (h.block k hk hn)⟩
theorem OG.ext{O p:Nat}{w0 w w':World}(hx:Ext w0 w)(hp:w0.heap.size<=p)(h:OG O p w w'):Ext w0 w':=zgh hx h.gb hp
def OO(O:Nat)(S:Nat->Prop):Nat->Prop:=fun k=>k=O\/S k
def zvS(S:Nat->Prop)(O p pc n m:Nat)(back:Bool)(s:St)(f:Bool->List UInt8->List UInt8)(L:Nat)(b:List UInt8)(w:World)(a:Act)(w1:World):Prop :=
 ∃(k K:Nat) (Ak:Option Addr) (lk ck:Nat) (u7 u8 u9 u10 u11 u12 u13 u14 u15 u16 u17 u18 u19 u20 u21 u22 u23 u24 u25 u26 u27 u28 u29 u30 u31 u32 u33 u34 u35 u36 u37 u38 u39 u40 u41 u42 u43 u44 u45 u46 u47 u48 u49 u50 u51 u52 u53 u54 u55 u56 u57 u58 u59:Value),
  a = { tmps:=#[.pointer (some ⟨p,0,none⟩),.slice Ak lk ck,undef,undef,.slice none 0 0,.int .i64 0,.slice (some ⟨O,0,none⟩) K L,u7,u8,u9,u10,u11,u12,u13,u14,u15,u16,u17,u18,u19,u20,u21,u22,u23,u24,u25,u26,u27,u28,u29,u30,u31,u32,u33,u34,u35,u36,u37,u38,u39,u40,u41,u42,u43,u44,u45,u46,u47,u48,u49,u50,u51,u52,u53,u54,u55,u56,u57,u58,u59],defers:=[] }/\K=k*gr n m/\K+lk=L/\(lk<=ck/\ck<=9223372036854775807)/\lk%gr n m=0 /\
  Rd w1 w1.heap.size Ak lk (b.drop K)/\NA (fun k=>k=O) lk Ak/\Own w1 O (.slice (some ⟨O,0,none⟩) K L) (sq f n m back s b k).1/\IsM (OO O S) w1 p pc n m back (sq f n m back s b k).2/\OG O p w w1
def zic(k:Nat)(a:Act):Nat:=match a.tmps.getD k undef with | .slice _ l _=>l|_=>0
theorem zoE{L g:Nat}(h:L%g=0)(_hg:1<=g)(hL:L≠0):g<=L:=by
 rcases Nat.lt_or_ge L g with h1|h1
 ·rw[Nat.mod_eq_of_lt h1] at h;omega
 ·exact h1
theorem zbP(p pc n m:Nat)(back:Bool)(s:St)(f:Bool->List UInt8->List UInt8)(Ab:Option Addr)(L c:Nat)(b:List UInt8)(w wc:World)(hm:1<=m/\m<=6)(hF:FOk f n)(hn:n<=1000)(hg:Good n m s){S:Nat->Prop}(h:IsM S w p pc n m back s)(hC:IsC wc pc n f)(hx:Ext wc w)(hp:wc.heap.size<=p)
  (hr:Rd w w.heap.size Ab L b) (hc:L<=c/\c<=9223372036854775807) (hL:L<=100000) (hmod:L%gr n m=0) (hS:∀k,S k->k<w.heap.size:=by exact fun _ h=>h.elim):
  Calls Tryz.prog 24 #[.pointer (some ⟨p,0,none⟩),.slice Ab L c] w (zsY S w p pc n m back (stp f n m back s b)):=by
 have hgp:=zkZ (m:=m) hF;have hgn:gr n m<=1000:=by unfold gr;split<;>omega
 have HC:=hid hC;have HX:=hid hx;have HPP:=hid hp;have HF:=hid hF;have HN:=hid hn;have HG0:=hid hg;have HM:=hid hm;have HH:=hid (h.na (O':=OO w.heap.size S) (fun q hq=>hq.elim (fun e=>.inr (Nat.le_of_eq e.symm)) .inl));have HS:=hid hS;have HR:=hid hr;have HL:=hid (And.intro hL hmod);have HRL:=hid hr.len;obtain⟨A1,c1,A2,c2,h,_,_⟩:=h;have HPW:=hid h.lt;obtain⟨_,_,_,h3,_,_,_⟩:=h.cells;obtain⟨g,hgg⟩:∃g,gr n m=g:=⟨_,rfl⟩;rw[hgg] at h3 hgp hgn hmod;have hg0:((g:Int)==0)=false:=by simp;omega
 have hmd:((L:Int).tmod (g:Int))=0:=by show(((L%g:Nat)):Int)=0;rw[hmod];rfl
 have HGG:=hid hgg;clear hC hx hp hF hn hg hm hr h hgg hS;go_enter Tryz.func24,Tryz.ntmps24;go_wp2_with fail
 obtain⟨O,hO⟩:∃O,w.heap.size=O:=⟨_,rfl⟩;have HO:=hid hO;have HPO:=hid (show p<O by rw[<-hO];exact HPW.out);have HC2:=hid hc;have HGB:=hid (And.intro hgp hgn);clear hO HPW hc;refine zan 0 (zvS S O p pc n m back s f L b w) (fun a _=>zic 1 a) rfl ?_ ?_
 ·rintro a w1 ⟨k,K,Ak,lk,ck,u7,u8,u9,u10,u11,u12,u13,u14,u15,u16,u17,u18,u19,u20,u21,u22,u23,u24,u25,u26,u27,u28,u29,u30,u31,u32,u33,u34,u35,u36,u37,u38,u39,u40,u41,u42,u43,u44,u45,u46,u47,u48,u49,u50,u51,u52,u53,u54,u55,u56,u57,u58,u59,rfl,hK,hsum,hck,hlm,hr,hna,hown,hM,hOG⟩;clear h3 hg0 hmd hmod HH HR HC2;have HX1:=hid (hOG.ext HX.out HPP.out);rw[HGG.out] at hlm hK;by_cases hz:lk=0
  ·subst hz;have HE:=hid (show stp f n m back s b=sq f n m back s b k by
    unfold stp;rw[HGG.out,HRL.out,<-hsum,Nat.add_zero,hK,Nat.mul_div_cancel _ (by omega)])
   have HOWN:=hid hown;have HMM:=hid (hM.na (O':=S) (fun _ h=>.inl (.inr h)));have HG:=hid hOG.gb;clear hsum hck hlm hr hna hown hM hOG hK;go_wp2_with fail
   (try simp only[Exit.jump])
   go_ret2;rw[HE.out];exact⟨_,rfl,by rw[HO.out];exact HOWN.out,HMM.out,HG.out⟩
  ·have hgl:=zoE hlm hgp hz;have hz0:((lk:Int)==0)=false:=by simp;omega
   replace hK:=hK.symm
   obtain⟨bb,oo,rfl,_,hcells⟩:=hr.at_ (by omega);obtain⟨q,hq⟩:∃q,sq f n m back s b k=q:=⟨_,rfl⟩;have hsq:=ziw (back:=back) HF.out HG0.out b k (by rw[HGG.out,hK,HRL.out];omega);rw[hq] at hsq hown hM;have hgood:=hsq.2;have hqlen:=hsq.1;rw[HGG.out,hK] at hqlen;have HNX:=hid (show sq f n m back s b (k+1)=(q.1++(one f n m back q.2 ((b.drop K).take g)).1,(one f n m back q.2 ((b.drop K).take g)).2) by rw[sq,HGG.out,hq,hK]);obtain⟨D1,e1,D2,e2,hat,_,_⟩:=hM;obtain⟨_,g1,_,g3,_,_,_⟩:=hat.cells;rw[HGG.out] at g3;have HM1:=hid (show IsM (OO O S) w1 p pc n m back q.2 from⟨D1,e1,D2,e2,hat,by assumption,by assumption⟩);have HROW:=hid hat.is;have HOGG:=hid hOG;have HOW:=hid hown;have HRR:=hid hr;have HNA:=hid hna;have HCK:=hid hck;have HSUM:=hid (And.intro hsum hlm);have HGD:=hid (And.intro hgood hqlen);have HOL:=hid (show O<w1.heap.size from(Own.base_le hown).2)
   have HOS:=hid (show ∀k,OO O S k->k<w1.heap.size from fun k hk=>hk.elim (fun e=>by rw[e];exact(Own.base_le hown).2) (fun h=>Nat.lt_of_lt_of_le (HS.out k h) hOG.size));have HKK:=hid hK;clear hq hsq hgood hqlen hat hOG hown hr hna hck hlm hcells hK;go_upto_block 1 with fail
   go_cut [6] (fun v wx=>v=.slice (some ⟨O,0,none⟩) (K+g:Nat) L/\Own wx O (.slice (some ⟨O,0,none⟩) (K+g) L) (sq f n m back s b (k+1)).1/\IsM (OO O S) wx p pc n m back (sq f n m back s b (k+1)).2/\OG O p w wx/\Rd wx wx.heap.size (some ⟨bb,oo,none⟩) lk (b.drop K))
   case first =>
    by_cases h2:m<=2
    ·have hgn2:g=n:=by rw[<-HGG.out];unfold gr;rw[if_pos h2]
     subst hgn2;have HO1:=hid (show one f g m back q.2 ((b.drop K).take g)=(blkO f g back q.2 ((b.drop K).take g),blkS f g m back q.2 ((b.drop K).take g)) by unfold one;rw[if_pos h2]);have HBLK:=hid (zb6 (OO O S) p pc g m back q.2 f (some ⟨bb,oo,none⟩) ck ((b.drop K).take g) w1 HF.out HN.out HOS.out HM1.out (HC.out.later HX1.out) (HRR.out.cuthi g hgl) ⟨by have:=HCK.out;omega,HCK.out.2⟩);have hck0:=HCK.out.1;rcases (show m=1\/m=2 by have:=HM.out;omega) with rfl|rfl
     all_goals
      clear h2;go_wp2_with fail
      refine HBLK.out.mono ?_;rintro e w2 ⟨A5,c5,rfl,_,hr5,_,hM5,hG5⟩;have HR2:=hid (HRR.out.gb HROW.out hG5);have hown2:=HOW.out.gb hG5 HPO.out;have HM5:=hid hM5;have hz2:O<=w2.heap.size:=Nat.le_of_lt (Nat.lt_of_lt_of_le HOL.out hG5.size);have HG5:=hid (HOGG.out.p hG5);clear hM5 hG5;go_wp2_with (at_builtin;refine zlo rfl (.tmp 44) (.tmp 52) rfl HGD.out.2 rfl hown2 rfl hr5 hgp (by omega) hL hz2 ?_;intro w3 hown3 hG3;have HW3:=hid (And.intro hown3 hG3);clear hown3 hG3)
      go_meet
      rw[HNX.out,HO1.out];have hG3:=HW3.out.2;exact⟨rfl,HW3.out.1,HM5.out.out (.inl rfl) (by have:=HPO.out;omega) hG3,HG5.out.o (by rw[HO.out];exact Nat.le_refl _) hG3,zqz HR2.out HNA.out rfl hG3⟩
    ·obtain rfl:g=1:=by rw[<-HGG.out];exact zho (by omega)
     obtain⟨x,hx⟩:∃x,b.getD K 0=x:=⟨_,rfl⟩;have HO1:=hid (show one f n m back q.2 ((b.drop K).take 1)=([byO f m q.2 x],byS f m back q.2 x) by unfold one;rw[if_neg h2,zlM,hx]);have HBYT:=hid (zqM (OO O S) p pc n m back q.2 f x w1 ⟨by omega,HM.out.2⟩ HF.out HN.out HGD.out.1 HOS.out HM1.out (HC.out.later HX1.out));obtain⟨b',o',e',_,hcells⟩:=HRR.out.at_ (by omega);cases e'
     have hc0:=hcells 0 (by omega);rw[Nat.add_zero,show zac (b.drop K) 0=(x.toNat:Int) by unfold zac;rw[<-hx];simp[List.getD]] at hc0;have hb1:((m:Int)==1)=false:=by simp;omega
     have hb2:((m:Int)==2)=false:=by simp;omega
     clear h2 hcells hx;go_wp2_with fail
     refine HBYT.out.mono ?_;rintro e w2 ⟨rfl,hM5,hG5⟩;obtain⟨y,hy⟩:∃y,byO f m q.2 x=y:=⟨_,rfl⟩;rw[hy];have HY:=hid hy;have hx9:=Ext.alloc w2 (.cells #[.int .u8 (y.toNat:Nat)] 5);obtain⟨A9,c9,e9,_,hr9,_⟩:=(Own.lit w2 [y] #[.int .u8 (y.toNat:Nat)] 1 w2.heap.size rfl rfl (by unfold maxLen;omega) (Nat.le_refl _)).rdf rfl;cases e9
     have HR2:=hid ((HRR.out.gb HROW.out hG5).later hx9);have hown2:=(HOW.out.gb hG5 HPO.out).kept hx9;have HM5:=hid (hM5.later hx9);have hz2:O<=(w2.alloc (.cells #[.int .u8 (y.toNat:Nat)] 5)).heap.size:=Nat.le_trans (Nat.le_of_lt (Nat.lt_of_lt_of_le HOL.out hG5.size)) (Below.size hx9);have HG5:=hid ((HOGG.out.p hG5).o (by rw[HO.out];exact Nat.le_refl _) (zd5 hx9));clear hM5 hG5 hx9 hy;go_wp2_with (at_builtin;refine zlo rfl (.tmp 33) (.tmp 39) rfl HGD.out.2 rfl hown2 rfl hr9 (by omega) (by omega) hL hz2 ?_;intro w3 hown3 hG3;have HW3:=hid (And.intro hown3 hG3);clear hown3 hG3)
     go_meet
     rw[HNX.out,HO1.out,HY.out];have hG3:=HW3.out.2;exact⟨rfl,HW3.out.1,HM5.out.out (.inl rfl) (by have:=HPO.out;omega) hG3,HG5.out.o (by rw[HO.out];exact Nat.le_refl _) hG3,zqz HR2.out HNA.out rfl hG3⟩
   case rest =>
    obtain⟨rfl,hown,hM,hOG,hr⟩:=hcut;rename_i hQ;apply hQ;clear hQ;clear g1 g3;obtain⟨D3,e3,D4,e4,hat,hn3,hn4⟩:=hM;obtain⟨_,_,_,g3,_,_,_⟩:=hat.cells;rw[HGG.out] at g3;have HM2:=hid (show IsM (OO O S) wc p pc n m back (sq f n m back s b (k+1)).2 from⟨D3,e3,D4,e4,hat,hn3,hn4⟩);have hck0:=HCK.out.1;have hck1:=HCK.out.2;have hcut:=hr.cutlo hgl hck0;rw[List.drop_drop] at hcut;have HR3:=hid hcut;have HW2:=hid (And.intro hown hOG);have HE1:=hid (show K+g=(k+1)*gr n m by rw[HGG.out,Nat.succ_mul,HKK.out]);have HE2:=hid (show(lk-g)%gr n m=0 by rw[HGG.out,<-Nat.mod_eq_sub_mod hgl];exact HSUM.out.2);have HNB:=hid (show bb≠O from HNA.out (by omega) _ rfl);clear hat hown hOG hr hn3 hn4 hcut;by_cases hcg:ck=g
    ·have HR4:=hid (show Rd wc wc.heap.size (some ⟨bb,oo,none⟩) (lk-g) (b.drop (K+g)) by have h:=HR3.out;rw[if_pos hcg] at h;exact h);clear HR3;subst hcg;have h4:=HR4.out;rw[show lk-ck=0 by omega] at h4;have HR4:=hid h4;clear h4;go_wp2_with fail
     go_step3
     (try simp only[Exit.jump])
     refine⟨rfl,⟨k+1,K+ck,_,0,ex8 (ex8 (ex8 (ex8 (ex8 (ex8 ⟨_,_,_,_,_,_,rfl,HE1.out,by omega,⟨by omega,by omega⟩,Nat.zero_mod _,HR4.out,fun _ a' ea=>?_,HW2.out.1,HM2.out,HW2.out.2⟩)))))⟩,?_⟩
     ·cases ea;exact HNB.out
     ·simp[zic];omega
    ·have HR4:=hid (show Rd wc wc.heap.size (some ⟨bb,oo+g,none⟩) (lk-g) (b.drop (K+g)) by have h:=HR3.out;rw[if_neg hcg,Option.map_some,zaK,Nat.mul_one] at h;exact h);clear HR3;go_wp2_with fail
     go_step3
     (try simp only[Exit.jump])
     refine⟨rfl,⟨k+1,K+g,_,lk-g,ex8 (ex8 (ex8 (ex8 (ex8 (ex8 ⟨_,_,_,_,_,_,rfl,HE1.out,by omega,⟨by omega,by omega⟩,HE2.out,HR4.out,fun _ a' ea=>?_,HW2.out.1,HM2.out,HW2.out.2⟩)))))⟩,?_⟩
     ·cases ea;exact HNB.out
     ·simp[zic];omega
 ·intro hfirst;obtain⟨i0,hi0,hz0,hz1,hz2⟩:=info_parts Tryz.info5;go_wp2_with (at_make;refine wpList_make_own _ rfl (.const (.int .i64 0)) (.tmp 23) 22 rfl w.heap.size 5 i0 (.int .u8 0) 1 Tryz.underlying22 hi0 hz0 hz1 .i64 .i64 L L rfl rfl rfl (by rw[hz2];omega) (by unfold maxLen;omega) (Nat.le_refl _) ?_;intro w2 hown2 hg2;have HW:=hid (And.intro hown2 hg2);clear hown2 hg2)
  go_step3;simp only[Exit.then];rename_i hQ;refine hQ _ _ ?_;clear hQ;have hx2:Ext w w2:=(Below.refl _ _).grown HW.out.2 (Nat.le_refl _) (by simp);have hown:Own w2 w.heap.size (.slice (some ⟨w.heap.size,0,none⟩) 0 L) []:=HW.out.1;have hM:=HH.out.later hx2;have hna:=zrS (O:=fun k=>k=w.heap.size) HR.out (fun _ e=>Nat.le_of_eq e.symm);rw[HO.out] at hown hM hna ⊢;exact hfirst.out _ _ ⟨0,0,Ab,L,c,ex8 (ex8 (ex8 (ex8 (ex8 (ex8 ⟨_,_,_,_,_,rfl,by omega,by omega,HC2.out,HL.out.2,by rw[List.drop_zero];exact HR.out.later hx2,hna,hown,hM,⟨hx2.os,hx2.tape,hx2.output,hx2.size,fun k hk _=>hx2.block k hk⟩⟩)))))⟩
def ivN(n m:Nat):Nat:=if m=1 then 0 else n
def ch0(n:Nat)(iv:List UInt8):List UInt8:=iv++List.replicate (n-iv.length) 0
theorem znr(iv:List UInt8)(n:Nat)(h:iv.length<=n):splice (List.replicate n (Value.int .u8 0)) 0 (cellsOf (iv.take n))=cellsOf (ch0 n iv):=by
 unfold splice ch0;rw[List.take_of_length_le h,zbr,zaa];simp[cellsOf]
theorem zkm(n:Nat)(iv:List UInt8)(h:iv.length<=n):(ch0 n iv).length=n:=by simp[ch0];omega
theorem zta(pc n m:Nat)(f:Bool->List UInt8->List UInt8)(w:World)(hC:IsC w pc n f):
  Calls Tryz.prog 35 #[.pointer (some ⟨pc,0,none⟩),.int .i64 m] w fun e w'=>e=.returned (.int .i64 (ivN n m:Nat))/\w=w':=by
 have HS:=hid (zcO pc n f w hC);clear hC;by_cases hm:m=1
 ·subst hm;go_enter Tryz.func35,Tryz.ntmps35;go_wp2_with fail
  go_ret;exact⟨rfl,rfl⟩
 ·have hb:((m:Int)==1)=false:=by simp;omega
  have HE:=hid (show ivN n m=n by unfold ivN;rw[if_neg hm]);clear hm;go_enter Tryz.func35,Tryz.ntmps35;go_wp2_with fail
  refine HS.out.mono ?_;rintro e w1 ⟨rfl,rfl⟩;go_wp2_with fail
  go_ret;exact⟨by rw[HE.out];rfl,rfl⟩
theorem zqU(pc n m:Nat)(f:Bool->List UInt8->List UInt8)(w:World)(hm:1<=m)(hC:IsC w pc n f):
  Calls Tryz.prog 36 #[.pointer (some ⟨pc,0,none⟩),.int .i64 m] w fun e w'=>e=.returned (.int .i64 (gr n m:Nat))/\w=w':=by
 have HS:=hid (zcO pc n f w hC);clear hC;by_cases h2:m<=2
 ·have HE:=hid (show gr n m=n by unfold gr;rw[if_pos h2]);rcases (show m=1\/m=2 by omega) with rfl|rfl
  all_goals
   clear hm h2;go_enter Tryz.func36,Tryz.ntmps36;go_wp2_with fail
   refine HS.out.mono ?_;rintro e w1 ⟨rfl,rfl⟩;go_wp2_with fail
   go_ret;exact⟨by rw[HE.out];rfl,rfl⟩
 ·have hb:((m:Int)==1)=false:=by simp;omega
  have hb2:((m:Int)==2)=false:=by simp;omega
  have HE:=hid (show gr n m=1 by unfold gr;rw[if_neg h2]);clear h2 hm;go_enter Tryz.func36,Tryz.ntmps36;go_wp2_with fail
  go_ret;exact⟨by rw[HE.out];rfl,rfl⟩
def MNew(w:World)(pc n m:Nat)(back:Bool)(s:St)(e:Ending)(w':World):Prop :=
 ∃p,e=.returned (.tuple #[.pointer (some ⟨p,0,none⟩),.int .i64 0])/\w.heap.size<=p/\IsM NoO w' p pc n m back s/\Ext w w'
theorem zeG(pc n m:Nat)(back:Bool)(f:Bool->List UInt8->List UInt8)(Ab:Option Addr)(L c:Nat)(iv:List UInt8)(w:World)(hm:1<=m/\m<=6)(hn:1<=n/\n<=1000)(hL:L=ivN n m)(hC:IsC w pc n f)(h:Rd w w.heap.size Ab L iv):
  Calls Tryz.prog 17 #[.pointer (some ⟨pc,0,none⟩),.int .i64 m,.bool back,.slice Ab L c] w (MNew w pc n m back ⟨ch0 n iv,[]⟩):=by
 have hl:=h.len;have hLn:L<=n:=by rw[hL];unfold ivN;split<;>omega
 have HSP:=hid (znr iv n (by omega));have HCL:=hid (zkm n iv (by omega));have HIV:=hid (zta pc n m f w hC);rw[<-hL] at HIV;have HSZ:=hid (fun w' (hx:Ext w w')=>zcO pc n f w' (hC.later hx));have HGO:=hid (fun w' (hx:Ext w w')=>zqU pc n m f w' hm.1 (hC.later hx));have HR:=hid h;have HN:=hid hn;have h1:decide ((m:Int)<1)=false:=by simp;omega
 have h6:decide ((6:Int)<m)=false:=by simp;omega
 have hn0:((n:Int)==0)=false:=by simp;omega
 clear h hC hL hl hm hLn;go_enter Tryz.func17,Tryz.ntmps17;go_wp2_with fail
 refine HIV.out.mono ?_;rintro e w1 ⟨rfl,rfl⟩;go_wp2_with fail
 refine(HSZ.out w (Ext.refl w)).mono ?_;rintro e w1 ⟨rfl,rfl⟩;go_wp2_with fail
 refine(HSZ.out w (Ext.refl w)).mono ?_;rintro e w1 ⟨rfl,rfl⟩;go_upto_region 8 with(at_make;refine zaH rfl (.tmp 30) (.tmp 30) 22 rfl Tryz.underlying22 Tryz.info5 .i64 n n rfl rfl rfl (by omega) w.heap.size (Nat.le_refl _) ?_;intro w1 hown1 hb1 _;have HF:=hid (A.zff HR.out hown1 hb1);have HB1:=hid hb1;clear hown1 hb1)
 go_upto_region 9 with(with_reducible refine wpList_copy_splice rfl (.tmp 32) (.tmp 33) 22 22 rfl 5 Tryz.underlying22 (by kernel_rfl) (some ⟨w.heap.size,0,none⟩) Ab n n L c rfl rfl w.heap.size 0 (List.replicate n (.int .u8 0)) 5 HF.out.1 (cellsOf (iv.take n)) HF.out.2.1 (fun h0=>⟨rfl,HF.out.2.2.1 h0⟩) HF.out.2.2.2 (zaN _) w.heap.size w HB1.out (Nat.le_refl _) ?_;intro w2 hz2 hb2)
 have HX2:=hid (show Ext w w2 from hb2);rw[HSP.out] at hz2;have HO2:=hid (A.zei rfl hz2.out HCL.out (Nat.le_refl w.heap.size) (by unfold maxLen;omega));clear hz2 hb2 HF HB1 HSP;go_wp2_with fail
 refine(HGO.out w2 HX2.out).mono ?_;rintro e w1 ⟨rfl,rfl⟩;go_wp2_with fail
 have hx3:=Ext.alloc w2 (.cells (mrow pc n m back (some ⟨w.heap.size,0,none⟩) n none 0 0) 64);have hr3:=HO2.out.rdf HCL.out;obtain⟨A3,c3,e3,hc3,hr3,_⟩:=hr3;cases e3
 have HM:=hid (show IsM NoO (w2.alloc (.cells (mrow pc n m back (some ⟨w.heap.size,0,none⟩) n none 0 0) 64)) w2.heap.size pc n m back ⟨ch0 n iv,[]⟩ from
  ⟨_,_,_,_,⟨heap_alloc_new w2 _,hc3,⟨Nat.le_refl _,by omega⟩,hr3.later hx3,Rd.nil _ _ _⟩,zuB,zuB⟩)
 have HX3:=hid (Ext.trans HX2.out hx3);have HS:=hid (Below.size HX2.out);clear hx3 hr3 hc3 HO2;go_ret2;exact⟨_,rfl,HS.out,HM.out,HX3.out⟩
theorem zgd(O:Nat->Prop)(p pc n m:Nat)(back:Bool)(s:St)(w:World)(h:IsM O w p pc n m back s):
  Calls Tryz.prog 21 #[.pointer (some ⟨p,0,none⟩)] w fun e w'=>e=.returned (.int .i64 (gr n m:Nat))/\w=w':=by
 obtain⟨A1,c1,A2,c2,h,_,_⟩:=h;obtain⟨_,_,_,h3,_,_,_⟩:=h.cells;clear h;go_enter Tryz.func21,Tryz.ntmps21;go_wp2_with fail
 go_ret;exact⟨rfl,rfl⟩
theorem zir{t n:Nat}:n ∈ zbO t↔(n:Int) ∈ zb3 t (cntN t):=by
 constructor
 ·intro h;obtain⟨i,hi,e⟩:=List.mem_map.1 h;exact List.mem_map.2 ⟨i,hi,by rw[e]⟩
 ·intro h;obtain⟨i,hi,e⟩:=List.mem_map.1 h;exact List.mem_map.2 ⟨i,hi,by omega⟩
def zpl(w:World)(k:Int)(e:Ending)(w':World):Prop:=e=.returned (.tuple #[.pointer none,.int .i64 k])/\Ext w w'
theorem zvE(n:Int)(h:tN n=0)(Ad:Option Addr)(m c:Nat)(w:World)(hS:Shapes w):
  Calls Tryz.prog 31 #[.int .i64 n,.slice Ad m c] w (zpl w 2):=by
 have HS:=hid (ziA n w hS);rw[h,show szN 0=0 from rfl] at HS;clear hS h;go_enter Tryz.func31,Tryz.ntmps31;go_wp2_with fail
 refine HS.out.mono ?_;rintro e w1 ⟨rfl,hx1⟩;have HX1:=hid hx1;clear hx1;go_wp2_with fail
 go_ret2;exact⟨rfl,HX1.out⟩
theorem zwA{t:Nat}(ht:1<=t/\t<=8)(Ad:Option Addr)(n c:Nat)(w:World)(hk:n ∉ zbO t)(hS:Shapes w):
  Calls Tryz.prog 31 #[.int .i64 t,.slice Ad n c] w (zpl w 4):=by
 have HS:=hid (ziA (t:Int) w hS);have HL:=hid (fun w' (hx:Ext w w')=>zln (t:Int) w' (hS.later hx));rw[zjh ht] at HS HL;have HIN:=hid (show decide ((n:Int) ∈ zb3 t (cntN t))=false by
  simpa using fun h=>hk (zir.2 h))
 have hc3:=zhl t ht.2;have hz:=(zki t ht.2);obtain⟨Z,hZ⟩:∃Z,szN t=Z:=⟨_,rfl⟩;rw[hZ] at HS hz;have hz0:((Z:Int)==0)=false:=by simp;omega
 have HC3:=hid hc3;clear hk hZ hz hc3 hS;go_enter Tryz.func31,Tryz.ntmps31;go_wp2_with fail
 refine HS.out.mono ?_;rintro e w1 ⟨rfl,hx1⟩;have HX1:=hid hx1;clear hx1;go_wp2_with fail
 refine(HL.out _ HX1.out).mono ?_;rintro e w2 ⟨v2,rfl,ho2,hx2⟩;obtain⟨A2,c2,rfl,_,hr2,_⟩:=OwnN.rdc ho2 (za6 _ _);have HX2:=hid (Ext.trans HX1.out hx2);have HR2:=hid hr2;clear hx2 ho2 hr2 HX1;go_wp2_with (go_at_call 45;refine(zfA _ _ _ _ _ _ HR2.out (by have:=HC3.out;omega)).mono ?_;rintro e w3 ⟨rfl,rfl⟩;rw[HIN.out])
 go_ret2;exact⟨rfl,HX2.out⟩
def zrc(w:World)(e:Ending)(w':World):Prop:=∃p,e=.returned (.tuple #[.pointer (some ⟨p,0,none⟩),.int .i64 0])/\Ext w w'
def rfn(t:Nat):FuncId:=match t with
 | 1=>50
 | 2=>50
 | 3=>51
 | 6=>52
 | 7=>53
 | _=>54
def rar(t:Nat)(v:Value):Array Value:=match t with
 | 4=>#[.int .i64 4,v]
 | 5=>#[.int .i64 5,v]
 | 8=>#[.int .i64 8,v]
 | _=>#[v]
theorem rpk[Inhabited D.BT][Inhabited S.RT]{t:Nat}(ht:1<=t/\t<=8)(Ad:Option Addr)(n c:Nat)(key:List UInt8)(w:World)(h:Rd w w.heap.size Ad n key)(hk:n ∈ zbO t)(hc:n<=c/\c<=9223372036854775807):
  Calls Tryz.prog (rfn t) (rar t (.slice Ad n c)) w (zrc w):=by
 rcases tags ht with rfl|rfl|rfl|rfl|rfl|rfl|rfl|rfl
 ·exact(D.zbx Ad n c key w (by rw[show zbO 1 = [8] by decide] at hk;simp at hk;omega) h hc.1).mono fun e w' ⟨q,he,_,hx⟩=>⟨q,he,hx⟩
 ·exact(D.zbx Ad n c key w (by rw[show zbO 2 = [16,24] by decide] at hk;simp at hk;omega) h hc.1).mono fun e w' ⟨q,he,_,hx⟩=>⟨q,he,hx⟩
 ·obtain rfl:=zdI (m:=16) hk;exact(I.zbx Ad c key w h).mono fun e w' ⟨q,he,_,hx⟩=>⟨q,he,hx⟩
 ·obtain rfl:=zdI (m:=16) hk;exact(S.zbx .x Ad c key w h hc.1 hc.2).mono fun e w' ⟨q,he,_,hx⟩=>⟨q,he,hx⟩
 ·obtain rfl:=zdI (m:=32) hk;exact(S.zbx .m Ad c key w h hc.1 hc.2).mono fun e w' ⟨q,he,_,hx⟩=>⟨q,he,hx⟩
 ·exact(T.zbx Ad n c key w h (show n=16\/n=24\/n=32 by rw[show zbO 6 = [16,24,32] by decide] at hk;simpa using hk) hc.1).mono fun e w' ⟨q,he,_,hx⟩=>⟨q,he,hx⟩
 ·exact(A.zbx Ad n c key w h (show n=16\/n=24\/n=32 by rw[show zbO 7 = [16,24,32] by decide] at hk;simpa using hk) hc.1).mono fun e w' ⟨q,he,_,hx⟩=>⟨q,he,hx⟩
 ·obtain rfl:=zdI (m:=16) hk;exact(S.zbx .r Ad c key w h hc.1 hc.2).mono fun e w' ⟨q,he,_,hx⟩=>⟨q,he,hx⟩
theorem zvy{t:Nat}(ht:1<=t/\t<=8)(Ad:Option Addr)(n c:Nat)(w:World)(hk:n ∉ zbO t):
  Calls Tryz.prog 34 #[.int .i64 t,.slice Ad n c] w (zpl w 4):=by
 have HL:=hid (zev (t:Int) w);rw[zjh ht] at HL;have HIN:=hid (show decide ((n:Int) ∈ zb3 t (cntN t))=false by simpa using fun h=>hk (zir.2 h));have hc3:=zhl t ht.2;have hc0:=zix ht;obtain⟨C,hC⟩:∃C,cntN t=C:=⟨_,rfl⟩;rw[hC] at HL HIN hc3 hc0;have hz0:((C:Int)==0)=false:=by simp;omega
 have HKB:=hid (And.intro (zo9 t ht.2) hc3);have HT:=hid ht;clear hk hC hc3 hc0 ht;go_enter Tryz.func34,Tryz.ntmps34;go_wp2_with fail
 refine HL.out.mono ?_;rintro e w2 ⟨v2,rfl,ho2,hx2⟩;obtain⟨A2,c2,rfl,_,hr2,_⟩:=OwnN.rdc ho2 (za6 _ _);have HX2:=hid (show Ext w w2 from hx2);have HR2:=hid hr2;clear hx2 ho2 hr2;go_wp2_with fail
 go_loop [7,8] (fun b i=>∃k:Nat,k<=C/\i=.int .i64 k/\b=.bool (decide ((n:Int) ∈ zb3 t k))) (fun _ i=>C-(intOf i).toNat)
 case atStart=>exact⟨0,Nat.zero_le _,rfl,rfl⟩
 case round =>
  obtain⟨k,hk,rfl,rfl⟩:=hrel;have hkb:=HKB.out;by_cases hlt:k<C
  ·obtain⟨b,o,rfl,_,hcells⟩:=HR2.out.at_ (by omega);have hcell:=hcells k hlt;rw[show(zb3 t C).getD k 0=((keyN t+8*k:Nat):Int) by simp[zb3,List.getD_eq_getElem?_getD,hlt]] at hcell;have hst:decide ((n:Int) ∈ zb3 t (k+1))=(decide ((n:Int) ∈ zb3 t k) || decide ((n:Int)=((keyN t+8*k:Nat):Int))):=by rw[zeY];simp[List.mem_append]
   obtain⟨Y,hY⟩:∃Y,keyN t+8*k=Y:=⟨_,rfl⟩;rw[hY] at hcell hst;have hkC:(k:Int)<(C:Int):=by omega
   obtain⟨x,hx⟩:∃x,decide ((n:Int) ∈ zb3 t k)=x:=⟨_,rfl⟩;rw[hx] at hst ⊢;have HST:=hid hst;clear hst hcells hY hx;cases x with
   | true =>
     go_wp2_with fail
     go_roundw
     case rel=>exact⟨k+1,by omega,by go_num,by rw[HST.out];rfl⟩
     case measure=>simp[intOf];omega
   | false =>
     by_cases hny:Y=n
     ·subst hny;have hb:((Y:Int)==(Y:Int))=true:=by simp
      go_wp2_with fail
      go_roundw
      case rel=>exact⟨k+1,by omega,by go_num,by rw[HST.out];simp⟩
      case measure=>simp[intOf];omega
     ·have hb:((Y:Int)==(n:Int))=false:=by simp;omega
      have HNY:=hid hny;clear hny;go_wp2_with fail
      go_roundw
      case rel=>exact⟨k+1,by omega,by go_num,by rw[HST.out];have:=HNY.out;simp;omega⟩
      case measure=>simp[intOf];omega
  ·obtain rfl:k=C:=by omega
   rw[HIN.out];go_wp2_with fail
   go_ret2;exact⟨rfl,HX2.out⟩
theorem zbx[Inhabited D.BT][Inhabited S.RT]{t:Nat}(ht:1<=t/\t<=8)(Ad:Option Addr)(n c:Nat)(key:List UInt8)(w:World)(h:Rd w w.heap.size Ad n key)(hk:n ∈ zbO t)(hc:n<=c/\c<=9223372036854775807):
  Calls Tryz.prog 34 #[.int .i64 t,.slice Ad n c] w (zrc w):=by
 have HL:=hid (zev (t:Int) w);rw[zjh ht] at HL;have HIN:=hid (show decide ((n:Int) ∈ zb3 t (cntN t))=true by simpa using zir.1 hk);have hc3:=zhl t ht.2;have hc0:=zix ht;obtain⟨C,hC⟩:∃C,cntN t=C:=⟨_,rfl⟩;rw[hC] at HL HIN hc3 hc0;have hz0:((C:Int)==0)=false:=by simp;omega
 have HKB:=hid (And.intro (zo9 t ht.2) hc3);have HR:=hid h;have HK:=hid (fun w' h=>rpk ht Ad n c key w' h hk hc);have HT:=hid ht;clear h hc hk hC hc3 hc0 ht;go_enter Tryz.func34,Tryz.ntmps34;go_wp2_with fail
 refine HL.out.mono ?_;rintro e w2 ⟨v2,rfl,ho2,hx2⟩;obtain⟨A2,c2,rfl,_,hr2,_⟩:=OwnN.rdc ho2 (za6 _ _);have HX2:=hid (show Ext w w2 from hx2);have HR2:=hid hr2;clear hx2 ho2 hr2;go_wp2_with fail
 go_loop [7,8] (fun b i=>∃k:Nat,k<=C/\i=.int .i64 k/\b=.bool (decide ((n:Int) ∈ zb3 t k))) (fun _ i=>C-(intOf i).toNat)
 case atStart=>exact⟨0,Nat.zero_le _,rfl,rfl⟩
 case round =>
  obtain⟨k,hk,rfl,rfl⟩:=hrel;have hkb:=HKB.out;by_cases hlt:k<C
  ·obtain⟨b,o,rfl,_,hcells⟩:=HR2.out.at_ (by omega);have hcell:=hcells k hlt;rw[show(zb3 t C).getD k 0=((keyN t+8*k:Nat):Int) by simp[zb3,List.getD_eq_getElem?_getD,hlt]] at hcell;have hst:decide ((n:Int) ∈ zb3 t (k+1))=(decide ((n:Int) ∈ zb3 t k) || decide ((n:Int)=((keyN t+8*k:Nat):Int))):=by rw[zeY];simp[List.mem_append]
   obtain⟨Y,hY⟩:∃Y,keyN t+8*k=Y:=⟨_,rfl⟩;rw[hY] at hcell hst;have hkC:(k:Int)<(C:Int):=by omega
   obtain⟨x,hx⟩:∃x,decide ((n:Int) ∈ zb3 t k)=x:=⟨_,rfl⟩;rw[hx] at hst ⊢;have HST:=hid hst;clear hst hcells hY hx;cases x with
   | true =>
     go_wp2_with fail
     go_roundw
     case rel=>exact⟨k+1,by omega,by go_num,by rw[HST.out];rfl⟩
     case measure=>simp[intOf];omega
   | false =>
     by_cases hny:Y=n
     ·subst hny;have hb:((Y:Int)==(Y:Int))=true:=by simp
      go_wp2_with fail
      go_roundw
      case rel=>exact⟨k+1,by omega,by go_num,by rw[HST.out];simp⟩
      case measure=>simp[intOf];omega
     ·have hb:((Y:Int)==(n:Int))=false:=by simp;omega
      have HNY:=hid hny;clear hny;go_wp2_with fail
      go_roundw
      case rel=>exact⟨k+1,by omega,by go_num,by rw[HST.out];have:=HNY.out;simp;omega⟩
      case measure=>simp[intOf];omega
  ·obtain rfl:k=C:=by omega
   rw[HIN.out];clear HIN HL HR2 hz0 hkb hk hlt;have HX3:=hid (fun T:Int=>Ext.trans HX2.out (Ext.alloc w2 (.cells #[.int .i64 T,.pointer none,.pointer none,.pointer none,.pointer none,.pointer none] 83)));have HSZ:=hid (show w.heap.size<=w2.heap.size from Below.size HX2.out);have HH:=hid (fun(T:Int) (j:Nat) (h1:(#[Value.int .i64 T,.pointer none,.pointer none,.pointer none,.pointer none,.pointer none]:Array Value)[j]? = some (.pointer none)) W (hx:Ext (w2.alloc (.cells #[.int .i64 T,.pointer none,.pointer none,.pointer none,.pointer none,.pointer none] 83)) W)=>And.intro (zao (a:=⟨w2.heap.size,j,none⟩) (v:=.pointer none) hx (by rw[cell_of_row _ _ _ _ _ _ (heap_alloc_new w2 _)];exact h1)) (frozen_of_row W w2.heap.size j _ _ ((Below.block hx _ (by rw[World.size_alloc];exact Nat.lt_succ_self _)).trans (heap_alloc_new w2 _))))
   rcases tags HT.out with rfl|rfl|rfl|rfl|rfl|rfl|rfl|rfl
   all_goals
    go_wp2_with fail
    refine(HK.out _ (HR.out.later (HX3.out _))).mono ?_;rintro e w4 ⟨q,rfl,hx4⟩;obtain⟨c1,f1⟩:=HH.out _ 1 rfl _ hx4;obtain⟨c2,f2⟩:=HH.out _ 2 rfl _ hx4;obtain⟨c3,f3⟩:=HH.out _ 3 rfl _ hx4;obtain⟨c4,f4⟩:=HH.out _ 4 rfl _ hx4;obtain⟨c5,f5⟩:=HH.out _ 5 rfl _ hx4;have HX4:=hid (Ext.trans (HX3.out _) hx4);clear hx4;go_wp2_with fail
    go_ret2;exact⟨_,rfl,HX4.out.setCell (by have:=HSZ.out;simp;omega) _⟩
theorem zvx(n:Int)(h:tN n=0)(Ad:Option Addr)(m c:Nat)(w:World):
  Calls Tryz.prog 34 #[.int .i64 n,.slice Ad m c] w (zpl w 2):=by
 have HL:=hid (zev n w);rw[h,show cntN 0=0 from rfl] at HL;clear h;go_enter Tryz.func34,Tryz.ntmps34;go_wp2_with fail
 refine HL.out.mono ?_;rintro e w2 ⟨v2,rfl,ho2,hx2⟩;obtain⟨A2,c2,rfl,_,_,_⟩:=OwnN.rdc (n:=0) ho2 (za6 _ _);have HX2:=hid (show Ext w w2 from hx2);clear hx2 ho2;go_wp2_with fail
 go_ret2;exact⟨rfl,HX2.out⟩
end Go.Proofs.YtiajebbfgpnenaaGreatDoor.C
namespace Go.Proofs.YtiajebbfgpnenaaGreatDoor.C
open Go.RowKit
open A (byL zhS)
set_option maxRecDepth 100000
set_option maxHeartbeats 8000000
theorem zfL(a n:Int)(w:World)(h0:0<n)(h1:n<=9223372036854775807):
  Calls Tryz.prog 16 #[.int .i64 a,.int .i64 n] w fun e w'=>e=.returned (.int .i64 (a%n))/\w=w':=by
 have b1:=Int.tmod_lt_of_pos a h0;by_cases hc:a.tmod n<0
 ·have hf:=zfP a n h0 hc;have b2:=Int.emod_nonneg a (Int.ne_of_gt h0);have b3:0<=a.tmod n+n:=by omega
  have HF:=hid hf;clear hf b2;go_enter Tryz.func16,Tryz.ntmps16;go_wp2;go_ret;exact⟨zak HF.out,rfl⟩
 ·have hf:=zfN a n h0 hc;have HF:=hid hf;clear hf;go_enter Tryz.func16,Tryz.ntmps16;go_wp2;go_ret;exact⟨zak HF.out,rfl⟩
def ivL(n m:Nat)(b:List UInt8):List UInt8:=if m=1 then [] else byL n b
theorem zfk(n m:Nat)(b:List UInt8):(ivL n m b).length=ivN n m:=by
 unfold ivL ivN;split
 ·rfl
 ·exact zhS _ _
theorem zlb(m n:Nat)(Ab:Option Addr)(L c:Nat)(bs:List UInt8)(w:World)(h:Rd w w.heap.size Ab L bs)(hn:n<=1000)(hL:L<=9223372036854775807):
  Calls Tryz.prog 18 #[.int .i64 m,.int .i64 n,.slice Ab L c] w (RetB w (ivL n m bs)):=by
 have HB:=hid (zrl Ab n L c bs w h hn hL);clear h;by_cases hm:m=1
 ·subst hm;go_enter Tryz.func18,Tryz.ntmps18;go_wp2_with fail
  go_ret;exact⟨_,rfl,World.ownsRow_nil _ _ _ _,Ext.refl w⟩
 ·have hb:((m:Int)==1)=false:=by simp;omega
  have HE:=hid (show ivL n m bs=byL n bs by unfold ivL;rw[if_neg hm]);clear hm;go_enter Tryz.func18,Tryz.ntmps18;go_wp2_with fail
  refine HB.out.mono ?_;rintro e w1 ⟨v,rfl,ho,hx⟩;have HR:=hid (And.intro ho hx);clear ho hx;go_wp2_with fail
  go_ret;exact⟨_,rfl,by rw[HE.out];exact HR.out.1,HR.out.2⟩
def zpb(w:World)(n:Nat)(f:Bool->List UInt8->List UInt8)(e:Ending)(w':World):Prop :=
 ∃pc pd,e=.returned (.tuple #[.pointer (some ⟨pc,0,none⟩),.pointer (some ⟨pd,0,none⟩)])/\w.heap.size<=pc/\IsC w' pc n f/\Ext w w'
theorem zvn[Inhabited D.BT][Inhabited S.RT](a0 a1:Int)(Ak:Option Addr)(L c:Nat)(ks:List UInt8)(w:World)(hG:GC w)(hr:Rd w w.heap.size Ak L ks)(hL:L<=9223372036854775807):
  Calls Tryz.prog 15 #[.int .i64 a0,.int .i64 a1,.slice Ak L c] w (zpb w (szN (tagF a0)) (cf (tagF a0) (keyB (tagF a0) a1 ks))):=by
 obtain⟨t,hte⟩:∃t,tagF a0=t:=⟨_,rfl⟩;have ht:=zik a0;rw[hte] at ht;have HTAG:=hid (zsB a0 w);rw[hte] at HTAG ⊢;have hkm:=ze2 ht a1;have HKL:=hid (zlx t a1 ks);have HKEY:=hid (zs1 ht a1 Ak L c ks w hr hL);have HNEW:=hid (fun w' A c h hc (hx:Ext w w')=>zbS ht A (zdy t a1) c (keyB t a1 ks) w' h hkm hc (hG.later hx));have HREF:=hid (fun w' A c h hc=>zbx ht A (zdy t a1) c (keyB t a1 ks) w' h hkm hc);obtain⟨KB,hKB⟩:∃KB,keyB t a1 ks=KB:=⟨_,rfl⟩;obtain⟨ML,hML⟩:∃ML,zdy t a1=ML:=⟨_,rfl⟩;rw[hKB] at HKL HKEY HNEW HREF ⊢;rw[hML] at HKL HNEW HREF;obtain⟨f,hf⟩:∃f,cf t KB=f:=⟨_,rfl⟩;obtain⟨Z,hZ⟩:∃Z,szN t=Z:=⟨_,rfl⟩;rw[hf,hZ] at HNEW ⊢;clear hte ht hkm hKB hML hf hZ hr hL hG;go_enter Tryz.func15,Tryz.ntmps15;go_wp2_with fail
 refine HTAG.out.mono ?_;rintro e w1 ⟨rfl,rfl⟩;go_wp2_with fail
 refine HKEY.out.mono ?_;rintro e w2 ⟨v2,rfl,ho2,hx2⟩;obtain⟨A2,c2,rfl,hc2,hr2,_⟩:=ho2.rdcb HKL.out;have HX2:=hid (show Ext w w2 from hx2);have HR2:=hid hr2;have HC2:=hid hc2;clear ho2 hr2 hx2 hc2;go_wp2_with fail
 refine(HNEW.out w2 A2 c2 HR2.out HC2.out HX2.out).mono ?_;rintro e w3 ⟨pc,rfl,hpc,hI,hx3⟩;have HX3:=hid (Ext.trans HX2.out hx3);have HI:=hid hI;have HR3:=hid (HR2.out.later hx3);have HPC:=hid (Nat.le_trans (Below.size HX2.out) hpc);clear hI hx3 hpc HX2 HR2;go_wp2_with fail
 refine(HREF.out w3 A2 c2 HR3.out HC2.out).mono ?_;rintro e w4 ⟨pd,rfl,hx4⟩;have HX4:=hid (Ext.trans HX3.out hx4);have HI4:=hid (HI.out.later hx4);clear hx4 HI HX3;go_wp2_with fail
 go_ret2;exact⟨pc,pd,rfl,HPC.out,HI4.out,HX4.out⟩
def zpo(w:World)(e:Ending)(w':World):Prop:=e=.returned (.bool true)/\Ext w w'
theorem fok[Inhabited D.BT][Inhabited S.RT]{t:Nat}(ht:1<=t/\t<=8)(key:List UInt8)(hk:key.length ∈ zbO t):FOk (cf t key) (szN t) :=
 ⟨by have:=zki t ht.2;omega,fun back b hb=>zug ht key back b hb,fun b hb=>(zmD ht key hk b hb).1⟩
theorem zn6[Inhabited D.BT][Inhabited S.RT](a0 a1:Int)(ks:List UInt8):∃(f:Bool->List UInt8->List UInt8) (n:Nat),FOk f n/\n<=16 /\
  ∀Ak L c w,GC w->Rd w w.heap.size Ak L ks->L<=9223372036854775807->Calls Tryz.prog 15 #[.int .i64 a0,.int .i64 a1,.slice Ak L c] w (zpb w n f) :=
 ⟨_,_,fok (zik a0) (keyB (tagF a0) a1 ks) (by rw[zlx];exact ze2 (zik a0) a1),zwd (tagF a0) (zik a0).2,fun Ak L c w hG hr hL=>zvn a0 a1 Ak L c ks w hG hr hL⟩
theorem zol[Inhabited D.BT][Inhabited S.RT](w:World)(hG:GC w):Calls Tryz.prog 14 #[] w (zpo w):=by
 have HNEW:=hid (fun w' A c h hc (hx:Ext w w')=>zbS (t:=4) (by omega) A 16 c (List.replicate 16 0) w' h (by decide) hc (hG.later hx));have hF:=fok (t:=4) (by omega) (List.replicate 16 0) (by decide);rw[show szN 4=8 from rfl] at HNEW hF;obtain⟨f,hf⟩:∃f,cf 4 (List.replicate 16 0)=f:=⟨_,rfl⟩;rw[hf] at HNEW hF;have HF:=hid hF;clear hG hf hF;go_enter Tryz.func14,Tryz.ntmps14;go_wp2_with (at_make;refine zaH rfl (.const (.int .i64 16)) (.const (.int .i64 16)) 22 rfl Tryz.underlying22 Tryz.info5 .i64 _ 16 rfl rfl rfl (by omega) w.heap.size (Nat.le_refl _) ?_;intro w2 hown2 hb2 _)
 obtain⟨A2,c2,e2,hc2,hr2,_⟩:=hown2.rdcb (n:=16) rfl;have HX2:=hid (show Ext w w2 from hb2);have HR2:=hid hr2;have HC2:=hid hc2;rw[e2];clear hown2 hb2 hr2 e2 hc2;refine(HNEW.out w2 A2 c2 HR2.out HC2.out HX2.out).mono ?_;rintro e w3 ⟨pc,rfl,_,hI,hx3⟩;have HX3:=hid (Ext.trans HX2.out hx3);have HI:=hid hI;clear hI hx3 HX2 HR2;go_wp2_with (at_make;refine zaH rfl (.const (.int .i64 8)) (.const (.int .i64 8)) 22 rfl Tryz.underlying22 Tryz.info5 .i64 _ 8 rfl rfl rfl (by omega) w3.heap.size (Nat.le_refl _) ?_;intro w4 hown4 hb4 _)
 obtain⟨A4,c4,e4,hc4,hr4,_⟩:=hown4.rdcb (n:=8) rfl;have HX4:=hid (Ext.trans HX3.out (show Ext w3 w4 from hb4));have HI4:=hid (HI.out.later (show Ext w3 w4 from hb4));have HR4:=hid hr4;rw[e4];clear hown4 hb4 hr4 e4 hc4 HI HX3;refine(zeG pc 8 5 false f A4 8 c4 (List.replicate 8 0) w4 (by omega) (by omega) rfl HI4.out HR4.out).mono ?_;rintro e w5 ⟨p,rfl,hp,hM,hx5⟩;obtain⟨s0,hs0⟩:∃s0,(⟨ch0 8 (List.replicate 8 0),[]⟩:St)=s0:=⟨_,rfl⟩;have HG0:=hid (show Good 8 5 s0 by rw[<-hs0];exact⟨rfl,Nat.zero_le _⟩);rw[hs0] at hM;have HM:=hid hM;have HP:=hid hp;have HX45:=hid hx5;have HX5:=hid (Ext.trans HX4.out hx5);clear hM hp hx5 hs0;go_wp2_with fail
 have HGR:=hid (show Calls Tryz.prog 21 #[.pointer (some ⟨p,0,none⟩)] w5 fun e w'=>e=.returned (.int .i64 1)/\w5=w' from zgd _ p pc 8 5 false s0 w5 HM.out);refine HGR.out.mono ?_;rintro e w6 ⟨rfl,rfl⟩;go_wp2_with fail
 refine(zbP p pc 8 5 false s0 f none 0 0 [] w5 w4 (by omega) HF.out (by omega) HG0.out HM.out HI4.out HX45.out HP.out (Rd.nil _ _ _) (by omega) (by omega) (Nat.zero_mod _)).mono ?_;rintro e w7 ⟨v7,rfl,ho7,hM7,hG7⟩;obtain⟨A7,c7,rfl,_,hr7,_⟩:=ho7.rdf (n:=0) rfl;have hg1:=(zbJ (back:=false) HF.out HG0.out [] (Nat.zero_mod _)).2;obtain⟨s1,hs1⟩:∃s1,(stp f 8 5 false s0 []).2=s1:=⟨_,rfl⟩;rw[hs1] at hM7 hg1;have HG1:=hid hg1;have HM7:=hid hM7;have HX47:=hid (zgh HX45.out hG7 HP.out);have HB7:=hid (zco (B:=w.heap.size) HX5.out hG7 (Nat.le_trans (Below.size HX4.out) HP.out) (Below.size HX5.out));clear ho7 hr7 hM7 hG7 hs1 hg1 HGR;go_wp2_with fail
 have hx8:=Ext.alloc w7 (.cells #[.int .u8 1,.int .u8 2,.int .u8 3] 5);obtain⟨A8,c8,e8,hc8,hr8,_⟩:=(Own.lit w7 [1,2,3] #[.int .u8 1,.int .u8 2,.int .u8 3] 3 w7.heap.size rfl rfl (by unfold maxLen;omega) (Nat.le_refl _)).rdf rfl;cases e8
 have hgood:=(zbJ (back:=false) HF.out HG1.out [1,2,3] (Nat.mod_one _)).1;refine(zbP p pc 8 5 false s1 f _ 3 3 [1,2,3] _ w4 (by omega) HF.out (by omega) HG1.out (HM7.out.later hx8) HI4.out (Ext.trans HX47.out hx8) HP.out hr8 (by omega) (by omega) (Nat.mod_one _)).mono ?_;rintro e w9 ⟨v9,rfl,ho9,_,hG9⟩;obtain⟨A9,c9,rfl,_,_,_⟩:=ho9.rdf (n:=3) hgood;have hX8:=Below.trans HB7.out (Below.mono hx8 (Below.size HB7.out));have HX9:=hid (zco (B:=w.heap.size) hX8 hG9 (Nat.le_trans (Below.size HX4.out) HP.out) (Below.size hX8));clear hx8 hc8 hr8 hgood ho9 hG9 hX8;go_wp2_with fail
 go_ret;exact⟨rfl,HX9.out⟩
end Go.Proofs.YtiajebbfgpnenaaGreatDoor.C
namespace Go.Proofs.YtiajebbfgpnenaaGreatDoor.C
open Go.RowKit
set_option maxRecDepth 100000
set_option maxHeartbeats 8000000
theorem strq{w:World}{B n c:Nat}{Ab:Option Addr}{bs:List UInt8}(h:Rd w B Ab n bs):(convert 22 9 (.slice Ab n c)).run Tryz.prog w=.ok (.string (str bs)) w :=
 zo6 (P:=Tryz.prog) w 22 9 (by kernel_rfl) (by kernel_rfl) (by kernel_rfl) _ _ _ c _ h
theorem zmt(a b:List UInt8):(str a++str b)=str (a++b):=by
 apply ByteArray.ext;simp[str,ByteArray.data_append]
theorem zfR(a:List UInt8):(str a).size=a.length:=by simp[str,ByteArray.size]
theorem whole(L g:Nat)(hL:L<=200)(hg:1<=g/\g<=16):∃q B,B=q*g/\B<=L/\q<=200/\B%g=0/\wrap64 ((B:Int)/(g:Int))=(q:Int)/\wrap64 ((L:Int)/(g:Int))=(q:Int)/\wrap64 ((q:Int)*(g:Int))=(B:Int):=by
 have h1:L/g*g<=L:=Nat.div_mul_le_self L g;have h2:L/g<=L:=Nat.div_le_self L g;refine⟨L/g,L/g*g,rfl,h1,by omega,Nat.mul_mod_left _ _,?_,?_,?_⟩
 ·rw[<-Int.natCast_ediv,Nat.mul_div_cancel _ (by omega)];generalize L/g=q at h1 h2 ⊢;exact IntWalk.wrap64_in _ (by omega)
 ·rw[<-Int.natCast_ediv];generalize L/g=q at h1 h2 ⊢;exact IntWalk.wrap64_in _ (by omega)
 ·rw[<-Int.natCast_mul];generalize L/g*g=q at h1 ⊢;exact IntWalk.wrap64_in _ (by omega)
theorem zqL(a:Int)(q g:Nat)(hq:q<=200)(hg:1<=g/\g<=16):∃i I:Nat,I=i*g/\I<=q*g/\I%g=0/\a%((q:Int)+1)=(i:Int)/\wrap64 ((i:Int)*(g:Int))=(I:Int):=by
 have h1:=Int.emod_nonneg a (show(q:Int)+1≠0 by omega);have h2:=Int.emod_lt_of_pos a (show 0<(q:Int)+1 by omega);obtain⟨i,hi⟩:∃i:Nat,a%((q:Int)+1)=(i:Int):=⟨(a%((q:Int)+1)).toNat,by omega⟩;rw[hi] at h1 h2;have h3:i*g<=q*g:=Nat.mul_le_mul_right g (by omega);have h4:i*g<=200*16:=Nat.mul_le_mul (by omega) hg.2;refine⟨i,i*g,rfl,h3,Nat.mul_mod_left _ _,hi,?_⟩;rw[<-Int.natCast_mul];generalize i*g=I at h3 h4 ⊢;exact IntWalk.wrap64_in _ (by omega)
end Go.Proofs.YtiajebbfgpnenaaGreatDoor.C
