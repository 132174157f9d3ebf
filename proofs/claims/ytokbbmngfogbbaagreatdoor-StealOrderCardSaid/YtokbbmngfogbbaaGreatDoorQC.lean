/- Own lemmas of the verifier on memory, numbers and the functions that the laws call; no statement is proved here. -/
import Derived.Test.YtokbbmngfogbbaaGreatDoorQD
import Derived.Test.YtokbbmngfogbbaaGreatDoorQI
import Derived.Test.YtokbbmngfogbbaaGreatDoorQS
import Derived.Test.YtokbbmngfogbbaaGreatDoorQT2
import Derived.Test.YtokbbmngfogbbaaGreatDoorQA2
import Derived.Test.YtokbbmngfogbbaaGreatDoorProg
import Derived.Deep.MidRow
import Derived.Handy
namespace Go.Proofs.YtokbbmngfogbbaaGreatDoor.C
open Go.RowKit
set_option maxRecDepth 100000
set_option maxHeartbeats 8000000
theorem zbK(a b:List UInt8)(n:Nat):(_root_.Go.Proofs.YtokbbmngfogbbaaGreatDoor.xorL a b n).length=n:=by simp[_root_.Go.Proofs.YtokbbmngfogbbaaGreatDoor.xorL]
theorem zfr(a b:List UInt8)(n k:Nat)(h:k<n):(_root_.Go.Proofs.YtokbbmngfogbbaaGreatDoor.xorL a b n).getD k 0=a.getD k 0^^^b.getD k 0:=by
 simp[_root_.Go.Proofs.YtokbbmngfogbbaaGreatDoor.xorL,_root_.Go.Proofs.YtokbbmngfogbbaaGreatDoor.xorF,List.getD,h]
theorem zpX{a b:List UInt8}{n:Nat}(h1:a.length=n)(h2:b.length=n)(h:∀k,k<n->a.getD k 0=b.getD k 0):a=b:=by
 apply List.ext_getElem (by omega);intro i x y;have:=h i (by omega);simpa [List.getD,x,y] using this
theorem zeJ(a b:List UInt8)(n:Nat)(h:a.length=n):_root_.Go.Proofs.YtokbbmngfogbbaaGreatDoor.xorL (_root_.Go.Proofs.YtokbbmngfogbbaaGreatDoor.xorL a b n) b n=a :=
 zpX (zbK _ _ _) h fun k hk=>by rw[zfr _ _ _ _ hk,zfr _ _ _ _ hk,UInt8.xor_assoc,UInt8.xor_self,UInt8.xor_zero]
structure FOk (f:Bool->List UInt8->List UInt8) (n:Nat):Prop where
 pos:1<=n
 len:∀back b,b.length=n->(f back b).length=n
 und:∀b,b.length=n->f true (f false b)=b
def szN(t:Nat):Nat:=if t=6\/t=7 then 16 else if 1<=t/\t<=8 then 8 else 0
def keyN(t:Nat):Nat:=[0,8,16,16,16,32,16,16,16].getD t 0
def cntN(t:Nat):Nat:=[0,1,2,1,1,1,3,3,1].getD t 0
def zbP(t:Nat):List Nat:=(List.range (cntN t)).map fun i=>keyN t+8*i
def tN(n:Int):Nat:=if 1<=n/\n<=8 then n.toNat else 0
theorem zu0(n:Int):tN n<=8:=by unfold tN;split<;>omega
theorem zow{t:Nat}(h:1<=t/\t<=8):tN (t:Int)=t:=by unfold tN;rw[if_pos (by omega)];omega
theorem tags{t:Nat}(h:1<=t/\t<=8):t=1\/t=2\/t=3\/t=4\/t=5\/t=6\/t=7\/t=8:=by omega
theorem zld:∀t,t<=8->cntN t<=3:=by decide
theorem zqh:∀t,t<=8->keyN t<=32:=by decide
theorem zvp:∀t,t<=8->szN t<=16:=by decide
theorem zmB:∀t,t<=8->(szN t=0↔t=0):=by decide
theorem zrG:∀t,t<=8->∀n ∈ zbP t,8<=n/\n<=32:=by decide
theorem zan{w w':World}{a:Addr}{v:Value}(hx:Ext w w')(h:w.cell? a=some v):w'.cell? a=some v:=(Below.cell hx (World.block_lt_of_cell? w _ h)).trans h
def Shapes(w:World):Prop:=∀t,t<=8->w.cell? ⟨0,t*3,none⟩=some (.int .i64 (szN t:Nat))/\w.cell? ⟨0,t*3+1,none⟩=some (.int .i64 (keyN t:Nat))/\w.cell? ⟨0,t*3+2,none⟩=some (.int .i64 (cntN t:Nat))
theorem Shapes.later{w w':World}(h:Shapes w)(hx:Ext w w'):Shapes w':=fun t ht=>by
 obtain⟨h0,h1,h2⟩:=h t ht;exact⟨(Below.cell hx (World.block_lt_of_cell? w _ h0)).trans h0,(Below.cell hx (World.block_lt_of_cell? w _ h1)).trans h1,(Below.cell hx (World.block_lt_of_cell? w _ h2)).trans h2⟩
theorem zfP{R:Ending->World->Prop}{a:Act}{w W:World}{x y z:Int}(hp:a.tmps.getD 2 undef=.pointer (some ⟨w.heap.size,0,none⟩))(hd:a.defers = [])
  (hW:W=w.alloc (.cells #[.int .i64 x,.int .i64 y,.int .i64 z] 88)) (h:R (.returned (.agg #[.int .i64 x,.int .i64 y,.int .i64 z])) W):
  bodyPost Tryz.prog Tryz.f54 R .ret a W :=
 bodyPost_ret (results_cell_row rfl _ _ w.heap.size 88 _ (0,0) _ hp (by rw[hW];exact heap_alloc_new _ _) Tryz.underlying88 rfl (by kernel_rfl)) hd h
theorem zis(n:Int)(w:World)(hS:Shapes w):
  Calls Tryz.prog 54 #[.int .i64 n] w fun e w'=>e=.returned (.agg #[.int .i64 (szN (tN n):Nat),.int .i64 (keyN (tN n):Nat),.int .i64 (cntN (tN n):Nat)])/\Ext w w':=by
 have x0:=Ext.alloc w (.cells #[.int .i64 0,.int .i64 0,.int .i64 0] 88);have HX:=hid x0;have HS:=hid (hS.later x0);clear x0 hS;go_enter Tryz.func54,Tryz.ntmps54;by_cases h0:n<0
 ·have HE:=hid (show tN n=0 by unfold tN;rw[if_neg (by omega)]);go_wp2_with fail
  refine zfP rfl rfl rfl ?_;rw[HE.out];exact⟨rfl,HX.out⟩
 ·by_cases h9:9<=n
  ·have HE:=hid (show tN n=0 by unfold tN;rw[if_neg (by omega)]);go_wp2_with fail
   refine zfP rfl rfl rfl ?_;rw[HE.out];exact⟨rfl,HX.out⟩
  ·obtain⟨t,rfl⟩:∃t:Nat,n=t:=⟨n.toNat,by omega⟩;have HE:=hid (show tN (t:Int)=t by unfold tN;split<;>omega);obtain⟨c0,c1,c2⟩:=HS.out t (by omega);clear HS;have ht:(t:Int)<9:=by omega
   go_wp2_with fail
   refine zfP rfl rfl rfl ?_;rw[HE.out];exact⟨rfl,Ext.alloc _ _⟩
theorem zol(a b c:Int)(w:World):(Instr.field 88 (.agg #[.int .i64 a,.int .i64 b,.int .i64 c]) 0).run Tryz.prog w=.ok (.int .i64 a) w:=by kernel_rfl
theorem zpc(n:Int)(w:World)(hS:Shapes w):
  Calls Tryz.prog 32 #[.int .i64 n] w fun e w'=>e=.returned (.int .i64 (szN (tN n):Nat))/\Ext w w':=by
 have HC:=hid (zis n w hS);clear hS;go_enter Tryz.func32,Tryz.ntmps32;go_wp2_with (go_at_call 54;refine HC.out.mono ?_;rintro e w1 ⟨rfl,hx⟩;have HX:=hid hx;clear hx)
 rw[zol];simp only[Result.andThen];rw[Oper.upon_value];go_wp2_with fail
 go_ret;exact⟨rfl,HX.out⟩
theorem Tryz.info3:(Tryz.prog.info? 3).map (fun i=>(i.zero,i.size,i.bytes))=some (some (.int .i64 0),1,8):=by kernel_rfl
def zcO(t k:Nat):List Int:=(List.range k).map fun i=>((keyN t+8*i:Nat):Int)
theorem zbA(t k:Nat):(zcO t k).length=k:=by simp[zcO]
theorem zg0(t k:Nat):zcO t (k+1)=zcO t k++[((keyN t+8*k:Nat):Int)]:=by simp[zcO,List.range_succ]
theorem zrb(w:World)(x:Int):RdN .i64 (w.alloc (.cells #[.int .i64 x] 3)) (w.heap.size+1) (some ⟨w.heap.size,0,none⟩) 1 [x] :=
 ⟨rfl,fun _=>⟨w.heap.size,0,rfl,by omega,fun j hj=>by
  obtain rfl:j=0:=by omega
  rw[Nat.add_zero,cell_of_row _ _ _ _ _ _ (heap_alloc_new w _)];rfl⟩⟩
theorem zom{w:World}{b1 b2:Nat}{v:Value}{xs:List Int}(h:OwnN .i64 3 w b1 v xs)(hb:b2<=b1):OwnN .i64 3 w b2 v xs :=
 ⟨h.1,h.2.imp id fun⟨g,cap,cur,h1,h2,h3⟩=>⟨g,cap,cur,h1,by omega,h3⟩⟩
theorem zkv(w:World)(b:Nat):OwnN .i64 3 w b (.slice none 0 0) []:=by
 unfold OwnN World.ownsRow;exact⟨rfl,.inl ⟨rfl,rfl⟩⟩
def zsS(a:Act):Nat:=match a.tmps.getD 4 undef with | .slice _ k _=>k|_=>0
def LenJ(n:Int)(t:Nat)(w:World)(a:Act)(w1:World):Prop :=
 ∃(k B cv:Nat) (Av:Option Addr) (u1 u5 u6 u7 u8 u9 u10 u11 u12 u13 u14 u15 u16 u17 u18 u19 u20 u21:Value),
  a = { tmps:=#[.int .i64 n,u1,.slice none 0 0,.pointer (some ⟨B,0,none⟩),.slice Av k cv,u5,u6,u7,u8,u9,u10,u11,u12,u13,u14,u15,u16,u17,u18,u19,u20,u21],defers:=[] }/\k<=cntN t/\w.heap.size<=B/\B<w1.heap.size/\w1.cell? ⟨B,1,none⟩=some (.int .i64 (keyN t:Nat))/\w1.cell? ⟨B,2,none⟩=some (.int .i64 (cntN t:Nat))/\OwnN .i64 3 w1 (B+1) (.slice Av k cv) (zcO t k)/\Ext w w1
theorem zpd(n:Int)(w:World)(hS:Shapes w):
  Calls Tryz.prog 34 #[.int .i64 n] w (RetN .i64 3 w (zcO (tN n) (cntN (tN n)))):=by
 have HC:=hid (zis n w hS);have ht:=zu0 n;obtain⟨t,hte⟩:∃t,tN n=t:=⟨_,rfl⟩;rw[hte] at HC ht ⊢;have hk1:=zqh t ht;have hc1:=zld t ht;have HB:=hid (And.intro hk1 hc1);clear hS hte ht hk1 hc1;go_enter Tryz.func34,Tryz.ntmps34;go_wp2_with fail
 refine zat 0 (LenJ n t w) (fun a _=>cntN t-zsS a) rfl ?_ ?_
 ·rintro a w1 ⟨k,B,cv,Av,u1,u5,u6,u7,u8,u9,u10,u11,u12,u13,u14,u15,u16,u17,u18,u19,u20,u21,rfl,hk,hB,hBl,c1,c2,hown,hx⟩;obtain⟨C,hC⟩:∃C,cntN t=C:=⟨_,rfl⟩;obtain⟨Y,hY⟩:∃Y,keyN t=Y:=⟨_,rfl⟩;have hb:=HB.out;rw[hC] at hk c2 hb;rw[hY] at c1 hb;by_cases hlt:k<C
  ·have hlen:=zbA t k;have HS:=hid (zg0 t k);rw[hY] at HS;have hsum:(Y:Int)+8*(k:Int)=((Y+8*k:Nat):Int):=by omega
   obtain⟨Z,hZ⟩:∃Z,Y+8*k=Z:=⟨_,rfl⟩;rw[hZ] at hsum HS;have hZb:Z<=100:=by omega
   have HX:=hid hx;have HO:=hid hown;have HCE:=hid hC;have HYE:=hid hY;have HLT:=hid hlt;have hsz:=Ext.alloc w1 (.cells #[.int .i64 (Z:Int)] 3);clear hx hown hZ hC hY;have HRD:=hid (zrb w1 (Z:Int));have HOA:=hid (OwnN.kept HO.out hsz);have HSZ:=hid (show w1.heap.size+1<=(w1.alloc (.cells #[.int .i64 (Z:Int)] 3)).heap.size by rw[World.size_alloc];exact Nat.le_refl _);have HW:=hid hsz;have HB3:=hid (And.intro hB hBl);have HCC:=hid (And.intro c1 c2);clear hsz hB hBl hlen
   go_wp2_with (at_builtin;refine zaw _ rfl (.tmp 12) (.tmp 19) 38 rfl Tryz.underlying38 8 Tryz.info3 (B+1) _ (zcO t k) rfl HOA.out _ _ 1 1 [(Z:Int)] rfl HRD.out (by rw[zbA];have:=HLT.out;have:=HB.out;rw[HCE.out] at this;omega) (by rw[zbA];unfold maxLen;have:=HLT.out;have:=HB.out;rw[HCE.out] at this;omega) (by have:=HSZ.out;have:=HB3.out;omega) ?_;intro v4 w4 hown4 hb4;rw[<-HS.out] at hown4;obtain⟨A4,c4,rfl,hcc4,_,hown4⟩:=OwnN.rdc (n:=k+1) hown4 (zbA _ _);have HX4:=hid hb4;have HO4:=hid hown4;clear hb4 hown4)
   go_step3
   (try simp only[Exit.jump])
   have g1:=(Below.cell HW.out (p:=⟨B,1,none⟩) HB3.out.2).trans HCC.out.1;have g2:=(Below.cell HW.out (p:=⟨B,2,none⟩) HB3.out.2).trans HCC.out.2;have hxx:Ext w w4:=Below.trans (Ext.trans HX.out HW.out) (Below.mono HX4.out (by have:=HB3.out;omega));refine⟨rfl,⟨k+1,B,c4,A4,ex8 (ex8 ⟨_,_,rfl,by rw[HCE.out];exact HLT.out,HB3.out.1,?_,?_,?_,HO4.out,hxx⟩)⟩,?_⟩
   ·exact Nat.lt_of_lt_of_le (Nat.lt_of_lt_of_le HB3.out.2 (Below.size HW.out)) (Below.size HX4.out)
   ·rw[HYE.out];exact(Below.cell HX4.out (p:=⟨B,1,none⟩) (Nat.lt_succ_self B)).trans g1
   ·rw[HCE.out];exact(Below.cell HX4.out (p:=⟨B,2,none⟩) (Nat.lt_succ_self B)).trans g2
   ·have h1:=HCE.out;have h2:=HLT.out;simp[zsS];omega
  ·obtain rfl:k=C:=by omega
   have HH:=hid (And.intro hown hx);have HBB:=hid hB;clear hown hx hB;go_wp2_with fail
   (try simp only[Exit.jump])
   go_ret;rw[hC];exact⟨_,rfl,zom HH.out.1 (by have:=HBB.out;omega),HH.out.2⟩
 ·intro hfirst;have HF:=hid hfirst;clear hfirst;go_wp2_with (go_at_call 54;refine HC.out.mono ?_;rintro e w1 ⟨rfl,hx⟩;have HX:=hid hx;clear hx)
  go_step3;simp only[Exit.then];rename_i hK;refine hK _ _ ?_;have x1:=Ext.alloc w1 (.cells #[.int .i64 (szN t:Nat),.int .i64 (keyN t:Nat),.int .i64 (cntN t:Nat)] 88);have hh:=heap_alloc_new w1 (.cells #[.int .i64 (szN t:Nat),.int .i64 (keyN t:Nat),.int .i64 (cntN t:Nat)] 88);refine HF.out.out _ _ ⟨0,w1.heap.size,0,none,ex8 (ex8 ⟨_,_,rfl,Nat.zero_le _,Below.size HX.out,?_,?_,?_,?_,Ext.trans HX.out x1⟩)⟩
  ·rw[World.size_alloc];exact Nat.lt_succ_self _
  ·rw[cell_of_row _ _ _ _ _ _ hh];rfl
  ·rw[cell_of_row _ _ _ _ _ _ hh];rfl
  ·exact zkv _ _
end Go.Proofs.YtokbbmngfogbbaaGreatDoor.C
namespace Go.Proofs.YtokbbmngfogbbaaGreatDoor.C
open Go.RowKit
open A (byL zjv zkB zhe zfG zeY)
set_option maxRecDepth 100000
set_option maxHeartbeats 8000000
theorem Tryz.info5:(Tryz.prog.info? 5).map (fun i=>(i.zero,i.size,i.bytes))=some (some (.int .u8 0),1,1):=by kernel_rfl
theorem zak{k:IntKind}{a b:Int}(h:a=b):Ending.returned (.int k a)=.returned (.int k b):=by rw[h]
theorem zhT(a n:Int)(hn:0<n)(h:a.tmod n<0):a.tmod n+n=a%n:=by
 have h:=@Int.tmod_eq_emod a n;have h1:=Int.emod_nonneg a (Int.ne_of_gt hn);have h2:=Int.emod_lt_of_pos a hn;split at h<;>omega
theorem zhQ(a n:Int)(hn:0<n)(h:¬a.tmod n<0):a.tmod n=a%n:=by
 have h:=@Int.tmod_eq_emod a n;have h1:=Int.emod_nonneg a (Int.ne_of_gt hn);have h2:=Int.emod_lt_of_pos a hn;split at h<;>omega
theorem zg1(a n:Int)(w:World)(h0:0<n)(h1:n<=9223372036854775807):
  Calls Tryz.prog 36 #[.int .i64 a,.int .i64 n] w fun e w'=>e=.returned (.int .i64 (a%n))/\w=w':=by
 have b1:=Int.tmod_lt_of_pos a h0;by_cases hc:a.tmod n<0
 ·have hf:=zhT a n h0 hc;have b2:=Int.emod_nonneg a (Int.ne_of_gt h0);have b3:0<=a.tmod n+n:=by omega
  have HF:=hid hf;clear hf b2;go_enter Tryz.func36,Tryz.ntmps36;go_wp2;go_ret;exact⟨zak HF.out,rfl⟩
 ·have hf:=zhQ a n h0 hc;have HF:=hid hf;clear hf;go_enter Tryz.func36,Tryz.ntmps36;go_wp2;go_ret;exact⟨zak HF.out,rfl⟩
theorem ztV(A:Option Addr)(n L c:Nat)(bs:List UInt8)(w:World)(h:Rd w w.heap.size A L bs)(hn:n<=1000)(_hL:L<=9223372036854775807):
  Calls Tryz.prog 13 #[.int .i64 n,.slice A L c] w (RetB w (byL n bs)):=by
 have hl:=h.len;have HSP:=hid (zkB bs n L hl);have HR:=hid h;clear h;go_enter Tryz.func13,Tryz.ntmps13;go_wp2_with (first
  | (at_make;refine zaP rfl (.tmp 7) (.tmp 7) 22 rfl Tryz.underlying22 Tryz.info5 .i64 n n rfl rfl rfl (by omega) w.heap.size (Nat.le_refl _) ?_;intro w1 hown1 hb1 _;have HF:=hid (zhe HR.out hown1 hb1);have HB1:=hid hb1;clear hown1 hb1)
  | (with_reducible refine wpList_copy_splice rfl (.tmp 9) (.tmp 10) 22 22 rfl 5 Tryz.underlying22 (by kernel_rfl) (some ⟨w.heap.size,0,none⟩) A n n L c rfl rfl w.heap.size 0 (List.replicate n (.int .u8 0)) 5 HF.out.1 (cellsOf (bs.take n)) HF.out.2.1 (fun h0=>⟨rfl,HF.out.2.2.1 h0⟩) HF.out.2.2.2 (zby _) w.heap.size w HB1.out (Nat.le_refl _) ?_;intro w2 hz2 hb2))
 rw[HSP.out] at hz2;have HO2:=hid (zfG rfl hz2.out (zad _ _ _) (Nat.le_refl w.heap.size) (by unfold maxLen;omega));have HB2:=hid hb2;obtain⟨G,hG⟩:∃G,w.heap.size=G:=⟨_,rfl⟩;have HO2:=hid (show Own w2 w.heap.size (.slice (some ⟨G,0,none⟩) n n) (zao (zeY bs) n L) by rw[<-hG];exact HO2.out);rw[hG];have HG:=hid hG;clear hz2 hb2 HF HB1 HSP hG;go_loopw [6] (fun i wr=>∃k:Nat,L<=k/\(k<=n\/k=L)/\i=.int .i64 k/\Own wr w.heap.size (.slice (some ⟨G,0,none⟩) n n) (zao (zeY bs) n k)/\Below w.heap.size w wr) (fun i _=>n-(intOf i).toNat)
 case atStart=>exact⟨L,Nat.le_refl _,.inr rfl,rfl,HO2.out,HB2.out⟩
 case round =>
  clear HO2 HB2;obtain⟨k,hk1,hk2,rfl,hown,hb⟩:=hrel;by_cases hlt:k<n
  ·have hset:=hown;obtain⟨cur,hcur⟩:∃cur,zao (zeY bs) n k=cur:=⟨_,rfl⟩;have hcl:cur.length=n:=by rw[<-hcur];exact zad _ _ _
   rw[hcur] at hown;have hown0:Own wr w.heap.size (.slice (some ⟨G,0,none⟩) cur.length n) cur:=by rw[hcl];exact hown
   have hcell:=hown0.cell k (by omega);have hfree:=hown0.free k;have hset:=hown0.set_ k (zeY bs k);rw[<-hcur,zaO _ _ _ _ rfl,zad] at hset;have hv:((zeY bs k).toNat:Int)=(k:Int)*37%256:=by unfold zeY;rw[if_neg (by omega),UInt8.toNat_ofNat'];omega
   rw[hv] at hset;have HH:=hid hset;have HB:=hid hb;clear hset hv hown0 hown hb hcl hcur;go_wp2_with fail
   go_roundw
   case rel=>exact⟨k+1,by omega,.inl (by omega),by go_num,HH.out,HB.out.setCell (by have:=HG.out;simp;omega) _⟩
   case measure=>simp[intOf];omega
  ·have e:zao (zeY bs) n k=byL n bs:=by
    unfold byL;rw[<-zaE];apply List.ext_getElem
    ·simp[zao]
    ·intro i h1 h2;have:i<n:=by simpa [zao] using h1
     simp only[zao,List.getElem_map,List.getElem_range];rw[if_pos (by omega),if_pos this]
   rw[e] at hown;have HH:=hid (And.intro hown hb);clear hown hb e;go_wp2_with fail
   go_ret;exact⟨_,rfl,HH.out.1,HH.out.2⟩
theorem zmk(A:Option Addr)(n c:Nat)(x:Int)(xs:List Int)(w:World)(h:RdN .i64 w w.heap.size A n xs)(hn:n<=1000):
  Calls Tryz.prog 55 #[.slice A n c,.int .i64 x] w fun e w'=>(∃i:Int,e=.returned (.int .i64 i)/\(decide (0<=i)=decide (x ∈ xs)))/\w=w':=by
 have HR:=hid h;have HL:=hid h.len;clear h;go_enter Tryz.func55,Tryz.ntmps55;go_wp2_with fail
 go_loop [8] (fun i=>∃k:Nat,k<=n/\i=.int .i64 k/\∀j,j<k->xs.getD j 0≠x) (fun i=>n-(intOf i).toNat)
 case atStart=>exact⟨0,Nat.zero_le _,rfl,fun j hj=>absurd hj (by omega)⟩
 case round =>
  obtain⟨k,hk,rfl,hno⟩:=hrel;have HNO:=hid hno;clear hno;by_cases hlt:k<n
  ·obtain⟨b,o,rfl,_,hc⟩:=HR.out.at_ (by omega);have hcell:=hc k hlt;obtain⟨y,hy⟩:∃y,xs.getD k 0=y:=⟨_,rfl⟩;rw[hy] at hcell;have HY:=hid hy;clear hc hy;by_cases hxy:x=y
   ·have hg:(x==y)=true:=by simp[hxy]
    have HXY:=hid hxy;clear hxy;go_wp2_with fail
    go_ret;refine⟨⟨_,rfl,?_⟩,rfl⟩;have hm:x ∈ xs:=by rw[HXY.out,<-HY.out,List.getD_eq_getElem?_getD,List.getElem?_eq_getElem (by have:=HL.out;omega)];exact List.getElem_mem _
    simp[hm]
   ·have hg:(x==y)=false:=by simp[hxy]
    have HXY:=hid hxy;clear hxy;go_wp2_with fail
    go_roundw
    case rel=>exact⟨k+1,by omega,by go_num,fun j hj=>by
     rcases Nat.lt_or_ge j k with h1|h1
     ·exact HNO.out j h1
     ·obtain rfl:j=k:=by omega
      rw[HY.out];exact fun e=>HXY.out e.symm⟩
    case measure=>simp[intOf];omega
  ·obtain rfl:k=n:=by omega
   go_wp2_with fail
   go_ret;refine⟨⟨_,rfl,?_⟩,rfl⟩;have hm:x ∉ xs:=fun hm=>by obtain⟨j,hj,e⟩:=List.getElem_of_mem hm;have:=HNO.out j (by have:=HL.out;omega);rw[List.getD_eq_getElem?_getD,List.getElem?_eq_getElem hj] at this;exact this e
   simp[hm]
theorem zih(A:Option Addr)(n c:Nat)(x:Int)(xs:List Int)(w:World)(h:RdN .i64 w w.heap.size A n xs)(hn:n<=1000):
  Calls Tryz.prog 33 #[.slice A n c,.int .i64 x] w fun e w'=>e=.returned (.bool (decide (x ∈ xs)))/\w=w':=by
 have HC:=hid (zmk A n c x xs w h hn);clear h;go_enter Tryz.func33,Tryz.ntmps33;go_wp2_with fail
 refine HC.out.mono ?_;rintro e w1 ⟨⟨i,rfl,hi⟩,rfl⟩;go_wp2_with fail
 go_ret;exact⟨rfl,rfl⟩
def tagF(n:Int):Nat:=1+(n%8).toNat
theorem zhS(n:Int):1<=tagF n/\tagF n<=8:=by unfold tagF;omega
theorem znT(n:Int):1+n%8=(tagF n:Int):=by unfold tagF;omega
theorem zrf(n:Int)(w:World):Calls Tryz.prog 19 #[.int .i64 n] w fun e w'=>e=.returned (.int .i64 (tagF n:Nat))/\w=w':=by
 have h1:0<=n%8:=by omega
 have h2:n%8<8:=by omega
 have HC:=hid (zg1 n 8 w (by omega) (by omega));have HT:=hid (znT n);obtain⟨q,hq⟩:∃q,n%8=q:=⟨_,rfl⟩;rw[hq] at HC h1 h2 HT;clear hq;go_enter Tryz.func19,Tryz.ntmps19;go_wp2_with (go_at_call 36;refine HC.out.mono ?_;rintro e w1 ⟨rfl,rfl⟩)
 go_ret;exact⟨by rw[<-HT.out];rfl,rfl⟩
theorem _root_.Go.Proofs.YtokbbmngfogbbaaGreatDoor.IsRow.rdb{w:World}{a:Option Addr}{len cap:Nat}{zs:List Int}(h:IsRow .u8 w a len cap zs):∃bs,Rd w w.heap.size a len bs/\len<=9223372036854775807/\(len<=cap/\cap<=9223372036854775807):=by
 obtain⟨bs,h1,h2,h3⟩:=h.rdc;have hm:maxLen<=9223372036854775807:=by unfold maxLen;omega
 refine⟨bs,h1,by omega,h3,?_⟩;rcases h with⟨_,_,rfl,_⟩|⟨x,_,_,h4,_⟩
 ·omega
 ·omega
theorem zlJ{w:World}{b1 b2:Nat}{v:Value}{xs:List UInt8}(h:Own w b1 v xs)(hb:b2<=b1):Own w b2 v xs :=
 ⟨h.1,h.2.imp id fun⟨g,cap,cur,h1,h2,h3⟩=>⟨g,cap,cur,h1,by omega,h3⟩⟩
theorem zoZ(w:World)(xs:List Int)(t:Nat)(he:xs=zcO t (cntN t))(hl:xs.length<=3)(cs:Array Value)(hcs:cs.toList=cN .i64 xs)(n:Nat)(hn:xs.length=n):
  RetN .i64 3 w (zcO t (cntN t)) (.returned (.slice (some ⟨w.heap.size,0,none⟩) n n)) (w.alloc (.cells cs 3)):=by
 subst he;exact⟨_,rfl,OwnN.lit w _ cs n w.heap.size hcs hn (by unfold maxLen;omega) (Nat.le_refl _),Ext.alloc _ _⟩
theorem zii(n:Int)(w:World):Calls Tryz.prog 37 #[.int .i64 n] w (RetN .i64 3 w (zcO (tN n) (cntN (tN n)))):=by
 by_cases h:1<=n/\n<=8
 ·rcases (by omega:n=1\/n=2\/n=3\/n=4\/n=5\/n=6\/n=7\/n=8) with rfl|rfl|rfl|rfl|rfl|rfl|rfl|rfl <;>
  (go_enter Tryz.func37,Tryz.ntmps37
   go_wp2;go_ret;exact zoZ w _ _ rfl (by decide) _ rfl _ rfl)
 ·have HE:=hid (show tN n=0 by unfold tN;rw[if_neg h]);have g1:(n==1)=false:=by simp;omega
  have g2:(n==2)=false:=by simp;omega
  have g3:(n==3)=false:=by simp;omega
  have g4:(n==4)=false:=by simp;omega
  have g5:(n==5)=false:=by simp;omega
  have g6:(n==6)=false:=by simp;omega
  have g7:(n==7)=false:=by simp;omega
  have g8:(n==8)=false:=by simp;omega
  clear h;go_enter Tryz.func37,Tryz.ntmps37;go_wp2;go_ret;rw[HE.out];exact⟨_,rfl,zkv _ _,Ext.refl _⟩
def zds(t:Nat)(n:Int):Nat:=keyN t+8*(n%(cntN t:Nat)).toNat
theorem zjX{t:Nat}(h:1<=t/\t<=8):0<cntN t:=by rcases tags h with rfl|rfl|rfl|rfl|rfl|rfl|rfl|rfl<;>decide
theorem zeK{t:Nat}(h:1<=t/\t<=8)(n:Int):zds t n ∈ zbP t:=by
 have h0:=zjX h;have h1:0<=n%(cntN t:Nat):=Int.emod_nonneg _ (by omega);have h2:n%(cntN t:Nat)<(cntN t:Nat):=Int.emod_lt_of_pos _ (by omega);exact List.mem_map.2 ⟨(n%(cntN t:Nat)).toNat,List.mem_range.2 (by omega),rfl⟩
theorem zoc{t:Nat}(h:1<=t/\t<=8)(n:Int):8<=zds t n/\zds t n<=32:=zrG t h.2 _ (zeK h n)
def keyB(t:Nat)(n:Int)(k:List UInt8):List UInt8:=byL (zds t n) k
theorem zkQ(t:Nat)(n:Int)(k:List UInt8):(keyB t n k).length=zds t n:=zjv _ _
theorem zrW{t:Nat}(ht:1<=t/\t<=8)(n:Int)(A:Option Addr)(L c:Nat)(bs:List UInt8)(w:World)(h:Rd w w.heap.size A L bs)(hL:L<=9223372036854775807):
  Calls Tryz.prog 20 #[.int .i64 t,.int .i64 n,.slice A L c] w (RetB w (keyB t n bs)):=by
 have HR:=hid h;have HL1:=hid (zii (t:Int) w);rw[zow ht] at HL1;have h0:=zjX ht;have hc:=zld t ht.2;have hkl:=zoc ht n;have h1:0<=n%(cntN t:Nat):=Int.emod_nonneg _ (by omega);have h2:n%(cntN t:Nat)<(cntN t:Nat):=Int.emod_lt_of_pos _ (by omega);have hkb:keyB t n bs=byL (zds t n) bs:=rfl;have hke:zds t n=keyN t+8*(n%(cntN t:Nat)).toNat:=rfl;obtain⟨C,hC⟩:∃C,cntN t=C:=⟨_,rfl⟩;rw[hC] at h0 hc h1 h2 hke HL1;obtain⟨q,hq⟩:∃q:Nat,n%(C:Int)=q:=⟨(n%(C:Int)).toNat,by omega⟩;have HW:=hid (fun w=>zg1 n (C:Int) w (by omega) (by omega));rw[hq] at h1 h2 hke HW;have HQ:=hid (show(zcO t C).getD q 0=((zds t n:Nat):Int) by
  rw[hke];simp[zcO,List.getD_eq_getElem?_getD,(by omega:q<C)])
 have HQ2:=hid (And.intro (show q<C by omega) hc);rw[hkb];obtain⟨M,hM⟩:∃M,zds t n=M:=⟨_,rfl⟩;rw[hM] at hkl HQ ⊢;have HM:=hid hkl;have HLL:=hid hL;clear h hkb hke hC hq hM h0 hkl hL;go_enter Tryz.func20,Tryz.ntmps20;go_wp2_with fail
 refine HL1.out.mono ?_;rintro e w1 ⟨v,rfl,ho,hx⟩;obtain⟨g,c1,rfl,hc1,hr1,_⟩:=OwnN.rdc (n:=C) ho (zbA _ _);obtain⟨b,o,rfl,_,hcells⟩:=hr1.at_ (by have:=HQ2.out;omega);have hcell:=hcells q HQ2.out.1;rw[HQ.out] at hcell;have hqi:(q:Int)<(C:Int):=by have:=HQ2.out;omega
 have HX:=hid hx;have HR1:=hid (HR.out.later hx);clear ho hr1 hcells hx HR;go_wp2_with (go_at_call 36;refine(HW.out _).mono ?_;rintro e w2 ⟨rfl,rfl⟩)
 refine(ztV _ M L _ _ _ HR1.out (by have:=HM.out;omega) HLL.out).mono ?_;rintro e w2 ⟨v2,rfl,ho2,hb2⟩;have HH:=hid (And.intro ho2 (And.intro hb2 (Below.size HX.out)));clear ho2 hb2;go_wp2_with fail
 go_ret;exact⟨_,rfl,zlJ HH.out.1 HH.out.2.2,Ext.trans HX.out HH.out.2.1⟩
end Go.Proofs.YtokbbmngfogbbaaGreatDoor.C
namespace Go.Proofs.YtokbbmngfogbbaaGreatDoor.C
open Go.RowKit
set_option maxRecDepth 100000
set_option maxHeartbeats 8000000
theorem zkm{R:Ending->World->Prop}(p q:Nat)(A:Option Addr)(n c:Nat)(back:Bool)(w:World)(h:w.cell? ⟨p,0,none⟩=some (.iface 91 (.pointer (some ⟨q,0,none⟩))))
  (hc:Calls Tryz.prog 212 #[.pointer (some ⟨q,0,none⟩),.slice A n c,.bool back] w R) (hR:∀e w',R e w'->∃s x,e=.returned (.tuple #[s,x])):
  Calls Tryz.prog 68 #[.pointer (some ⟨p,0,none⟩),.slice A n c,.bool back] w R:=by
 have HC:=hid hc;have HR:=hid hR;clear hc hR;go_enter Tryz.func68,Tryz.ntmps68;go_wp2_with fail
 refine HC.out.mono ?_;intro e w1 hr;have HE:=hid hr;obtain⟨s,x,rfl⟩:=HR.out _ _ hr;clear hr;go_wp2_with fail
 exact HE.out
theorem zla{R:Ending->World->Prop}(p q:Nat)(A:Option Addr)(n c:Nat)(back:Bool)(w:World)(h:w.cell? ⟨p,0,none⟩=some (.iface 94 (.pointer (some ⟨q,0,none⟩))))
  (hc:Calls Tryz.prog 223 #[.pointer (some ⟨q,0,none⟩),.slice A n c,.bool back] w R) (hR:∀e w',R e w'->∃s x,e=.returned (.tuple #[s,x])):
  Calls Tryz.prog 68 #[.pointer (some ⟨p,0,none⟩),.slice A n c,.bool back] w R:=by
 have HC:=hid hc;have HR:=hid hR;clear hc hR;go_enter Tryz.func68,Tryz.ntmps68;go_wp2_with fail
 refine HC.out.mono ?_;intro e w1 hr;have HE:=hid hr;obtain⟨s,x,rfl⟩:=HR.out _ _ hr;clear hr;go_wp2_with fail
 exact HE.out
theorem zkr{R:Ending->World->Prop}(p q:Nat)(A:Option Addr)(n c:Nat)(back:Bool)(w:World)(h:w.cell? ⟨p,0,none⟩=some (.iface 103 (.pointer (some ⟨q,0,none⟩))))
  (hc:Calls Tryz.prog 236 #[.pointer (some ⟨q,0,none⟩),.slice A n c,.bool back] w R) (hR:∀e w',R e w'->∃s x,e=.returned (.tuple #[s,x])):
  Calls Tryz.prog 68 #[.pointer (some ⟨p,0,none⟩),.slice A n c,.bool back] w R:=by
 have HC:=hid hc;have HR:=hid hR;clear hc hR;go_enter Tryz.func68,Tryz.ntmps68;go_wp2_with fail
 refine HC.out.mono ?_;intro e w1 hr;have HE:=hid hr;obtain⟨s,x,rfl⟩:=HR.out _ _ hr;clear hr;go_wp2_with fail
 exact HE.out
theorem zl{R:Ending->World->Prop}(p q:Nat)(A:Option Addr)(n c:Nat)(back:Bool)(w:World)(h:w.cell? ⟨p,0,none⟩=some (.iface 97 (.pointer (some ⟨q,0,none⟩))))
  (hc:Calls Tryz.prog 228 #[.pointer (some ⟨q,0,none⟩),.slice A n c,.bool back] w R) (hR:∀e w',R e w'->∃s x,e=.returned (.tuple #[s,x])):
  Calls Tryz.prog 68 #[.pointer (some ⟨p,0,none⟩),.slice A n c,.bool back] w R:=by
 have HC:=hid hc;have HR:=hid hR;clear hc hR;go_enter Tryz.func68,Tryz.ntmps68;go_wp2_with fail
 refine HC.out.mono ?_;intro e w1 hr;have HE:=hid hr;obtain⟨s,x,rfl⟩:=HR.out _ _ hr;clear hr;go_wp2_with fail
 exact HE.out
theorem zkt{R:Ending->World->Prop}(p q:Nat)(A:Option Addr)(n c:Nat)(back:Bool)(w:World)(h:w.cell? ⟨p,0,none⟩=some (.iface 100 (.pointer (some ⟨q,0,none⟩))))
  (hc:Calls Tryz.prog 234 #[.pointer (some ⟨q,0,none⟩),.slice A n c,.bool back] w R) (hR:∀e w',R e w'->∃s x,e=.returned (.tuple #[s,x])):
  Calls Tryz.prog 68 #[.pointer (some ⟨p,0,none⟩),.slice A n c,.bool back] w R:=by
 have HC:=hid hc;have HR:=hid hR;clear hc hR;go_enter Tryz.func68,Tryz.ntmps68;go_wp2_with fail
 refine HC.out.mono ?_;intro e w1 hr;have HE:=hid hr;obtain⟨s,x,rfl⟩:=HR.out _ _ hr;clear hr;go_wp2_with fail
 exact HE.out
def OkRet(w:World)(n:Nat)(bs:List UInt8)(e:Ending)(w':World):Prop:=∃A c,e=.returned (.tuple #[.slice A n c,.int .i64 0])/\(n<=c/\c<=9223372036854775807)/\Rd w' w'.heap.size A n bs/\Ext w w'/\Fr w.heap.size A
def BadRet(w:World)(e:Ending)(w':World):Prop:=e=.returned (.tuple #[.slice none 0 0,.int .i64 1])/\Ext w w'
theorem OkRet.pair{w w':World}{n:Nat}{bs:List UInt8}{e:Ending}(h:OkRet w n bs e w'):∃s x,e=.returned (.tuple #[s,x]):=by
 obtain⟨A,c,h,_⟩:=h;exact⟨_,_,h⟩
theorem BadRet.pair{w w':World}{e:Ending}(h:BadRet w e w'):∃s x,e=.returned (.tuple #[s,x]):=⟨_,_,h.1⟩
theorem zqq{w w':World}{n:Nat}{bs:List UInt8}{e:Ending}(h:∃v,e=.returned (.tuple #[v,.int .i64 0])/\Own w' w.heap.size v bs/\Ext w w')(hl:bs.length=n):OkRet w n bs e w':=by
 obtain⟨v,rfl,ho,hx⟩:=h;obtain⟨A,c,rfl,hc,hr,hf⟩:=ho.rdf hl;exact⟨A,c,rfl,hc,hr,hx,hf⟩
def Turns(F:Nat)(w:World)(p:Nat)(n:Nat)(f:Bool->List UInt8->List UInt8):Prop :=
 ∀w',Ext w w'->∀(back:Bool) (A:Option Addr) (m c:Nat),
  (m≠n->Calls Tryz.prog F #[.pointer (some ⟨p,0,none⟩),.slice A m c,.bool back] w' (BadRet w')) /\
  (m=n->(m<=c/\c<=9223372036854775807)->∀b,Rd w' w'.heap.size A m b->Calls Tryz.prog F #[.pointer (some ⟨p,0,none⟩),.slice A m c,.bool back] w' (OkRet w' n (f back b)))
theorem Turns.later{F:Nat}{w w1:World}{p n:Nat}{f:Bool->List UInt8->List UInt8}(h:Turns F w p n f)(hx:Ext w w1):Turns F w1 p n f:=fun w' hx'=>h w' (Ext.trans hx hx')
structure IsC (w:World) (p n:Nat) (f:Bool->List UInt8->List UInt8):Prop where
 size:w.cell? ⟨p,1,none⟩=some (.int .i64 (n:Nat))
 turns:Turns 68 w p n f
theorem IsC.later{w w1:World}{p n:Nat}{f:Bool->List UInt8->List UInt8}(h:IsC w p n f)(hx:Ext w w1):IsC w1 p n f:=⟨zan hx h.size,h.turns.later hx⟩
theorem zuK{w:World}{p q n:Nat}{f:Bool->List UInt8->List UInt8}(h0:w.cell? ⟨p,0,none⟩=some (.iface 91 (.pointer (some ⟨q,0,none⟩))))(h1:w.cell? ⟨p,1,none⟩=some (.int .i64 (n:Nat)))(ht:Turns 212 w q n f):IsC w p n f :=
 ⟨h1,fun w' hx back A m c=>⟨fun hm=>zkm p q A m c back w' (zan hx h0) ((ht w' hx back A m c).1 hm) fun _ _ h=>h.pair,
  fun hm hc b hr=>zkm p q A m c back w' (zan hx h0) ((ht w' hx back A m c).2 hm hc b hr) fun _ _ h=>h.pair⟩⟩
theorem zvw{w:World}{p q n:Nat}{f:Bool->List UInt8->List UInt8}(h0:w.cell? ⟨p,0,none⟩=some (.iface 94 (.pointer (some ⟨q,0,none⟩))))(h1:w.cell? ⟨p,1,none⟩=some (.int .i64 (n:Nat)))(ht:Turns 223 w q n f):IsC w p n f :=
 ⟨h1,fun w' hx back A m c=>⟨fun hm=>zla p q A m c back w' (zan hx h0) ((ht w' hx back A m c).1 hm) fun _ _ h=>h.pair,
  fun hm hc b hr=>zla p q A m c back w' (zan hx h0) ((ht w' hx back A m c).2 hm hc b hr) fun _ _ h=>h.pair⟩⟩
theorem zuD{w:World}{p q n:Nat}{f:Bool->List UInt8->List UInt8}(h0:w.cell? ⟨p,0,none⟩=some (.iface 103 (.pointer (some ⟨q,0,none⟩))))(h1:w.cell? ⟨p,1,none⟩=some (.int .i64 (n:Nat)))(ht:Turns 236 w q n f):IsC w p n f :=
 ⟨h1,fun w' hx back A m c=>⟨fun hm=>zkr p q A m c back w' (zan hx h0) ((ht w' hx back A m c).1 hm) fun _ _ h=>h.pair,
  fun hm hc b hr=>zkr p q A m c back w' (zan hx h0) ((ht w' hx back A m c).2 hm hc b hr) fun _ _ h=>h.pair⟩⟩
theorem zvm{w:World}{p q n:Nat}{f:Bool->List UInt8->List UInt8}(h0:w.cell? ⟨p,0,none⟩=some (.iface 97 (.pointer (some ⟨q,0,none⟩))))(h1:w.cell? ⟨p,1,none⟩=some (.int .i64 (n:Nat)))(ht:Turns 228 w q n f):IsC w p n f :=
 ⟨h1,fun w' hx back A m c=>⟨fun hm=>zl p q A m c back w' (zan hx h0) ((ht w' hx back A m c).1 hm) fun _ _ h=>h.pair,
  fun hm hc b hr=>zl p q A m c back w' (zan hx h0) ((ht w' hx back A m c).2 hm hc b hr) fun _ _ h=>h.pair⟩⟩
theorem zuF{w:World}{p q n:Nat}{f:Bool->List UInt8->List UInt8}(h0:w.cell? ⟨p,0,none⟩=some (.iface 100 (.pointer (some ⟨q,0,none⟩))))(h1:w.cell? ⟨p,1,none⟩=some (.int .i64 (n:Nat)))(ht:Turns 234 w q n f):IsC w p n f :=
 ⟨h1,fun w' hx back A m c=>⟨fun hm=>zkt p q A m c back w' (zan hx h0) ((ht w' hx back A m c).1 hm) fun _ _ h=>h.pair,
  fun hm hc b hr=>zkt p q A m c back w' (zan hx h0) ((ht w' hx back A m c).2 hm hc b hr) fun _ _ h=>h.pair⟩⟩
theorem zkq{R:Ending->World->Prop}(p:Nat)(A:Option Addr)(n c:Nat)(w:World)(hc:Calls Tryz.prog 68 #[.pointer (some ⟨p,0,none⟩),.slice A n c,.bool false] w R)(hR:∀e w',R e w'->∃s x,e=.returned (.tuple #[s,x])):
  Calls Tryz.prog 47 #[.pointer (some ⟨p,0,none⟩),.slice A n c] w R:=by
 have HC:=hid hc;have HR:=hid hR;clear hc hR;go_enter Tryz.func47,Tryz.ntmps47;go_wp2_with fail
 refine HC.out.mono ?_;intro e w1 hr;have HE:=hid hr;obtain⟨s,x,rfl⟩:=HR.out _ _ hr;clear hr;go_wp2_with fail
 exact HE.out
theorem zvf(p:Nat)(A:Option Addr)(n c:Nat)(f:Bool->List UInt8->List UInt8)(b:List UInt8)(w:World)(hI:IsC w p n f)(h:Rd w w.heap.size A n b)(hc:n<=c/\c<=9223372036854775807):
  Calls Tryz.prog 47 #[.pointer (some ⟨p,0,none⟩),.slice A n c] w (OkRet w n (f false b)) :=
 zkq p A n c w ((hI.turns w (Ext.refl w) false A n c).2 rfl hc b h) fun _ _ h=>h.pair
theorem zuU(p:Nat)(A:Option Addr)(m n c:Nat)(f:Bool->List UInt8->List UInt8)(w:World)(hI:IsC w p n f)(hm:m≠n):
  Calls Tryz.prog 47 #[.pointer (some ⟨p,0,none⟩),.slice A m c] w (BadRet w) :=
 zkq p A m c w ((hI.turns w (Ext.refl w) false A m c).1 hm) fun _ _ h=>h.pair
theorem zk1{R:Ending->World->Prop}(p:Nat)(A:Option Addr)(n c:Nat)(w:World)(hc:Calls Tryz.prog 68 #[.pointer (some ⟨p,0,none⟩),.slice A n c,.bool true] w R)(hR:∀e w',R e w'->∃s x,e=.returned (.tuple #[s,x])):
  Calls Tryz.prog 43 #[.pointer (some ⟨p,0,none⟩),.slice A n c] w R:=by
 have HC:=hid hc;have HR:=hid hR;clear hc hR;go_enter Tryz.func43,Tryz.ntmps43;go_wp2_with fail
 refine HC.out.mono ?_;intro e w1 hr;have HE:=hid hr;obtain⟨s,x,rfl⟩:=HR.out _ _ hr;clear hr;go_wp2_with fail
 exact HE.out
theorem zuS(p:Nat)(A:Option Addr)(n c:Nat)(f:Bool->List UInt8->List UInt8)(b:List UInt8)(w:World)(hI:IsC w p n f)(h:Rd w w.heap.size A n b)(hc:n<=c/\c<=9223372036854775807):
  Calls Tryz.prog 43 #[.pointer (some ⟨p,0,none⟩),.slice A n c] w (OkRet w n (f true b)) :=
 zk1 p A n c w ((hI.turns w (Ext.refl w) true A n c).2 rfl hc b h) fun _ _ h=>h.pair
theorem zuR(p:Nat)(A:Option Addr)(m n c:Nat)(f:Bool->List UInt8->List UInt8)(w:World)(hI:IsC w p n f)(hm:m≠n):
  Calls Tryz.prog 43 #[.pointer (some ⟨p,0,none⟩),.slice A m c] w (BadRet w) :=
 zk1 p A m c w ((hI.turns w (Ext.refl w) true A m c).1 hm) fun _ _ h=>h.pair
theorem ztH(p n:Nat)(f:Bool->List UInt8->List UInt8)(w:World)(hI:IsC w p n f):
  Calls Tryz.prog 12 #[.pointer (some ⟨p,0,none⟩)] w fun e w'=>e=.returned (.int .i64 (n:Nat))/\w=w':=by
 have h1:=hI.size;go_enter Tryz.func12,Tryz.ntmps12;go_wp2;go_ret;exact⟨rfl,rfl⟩
def cf[Inhabited D.BT][Inhabited S.RT](t:Nat)(key:List UInt8)(back:Bool)(b:List UInt8):List UInt8 :=
 match t with
 | 1=>D.zaF (D.zbg key.length) (D.kfOf key) back b
 | 2=>D.zaF (D.zbg key.length) (D.kfOf key) back b
 | 3=>I.zaF (I.keyF key) back b
 | 4=>S.zaF .x key back b
 | 5=>S.zaF .m key back b
 | 6=>T.zaF (T.zdo key) (T.sL key) back b
 | 7=>A.zaF key back b
 | _=>S.zaF .r key back b
theorem ztN[Inhabited D.BT][Inhabited S.RT]{t:Nat}(h:1<=t/\t<=8)(key:List UInt8)(back:Bool)(b:List UInt8)(hb:b.length=szN t):(cf t key back b).length=szN t:=by
 rcases tags h with rfl|rfl|rfl|rfl|rfl|rfl|rfl|rfl
 ·exact D.zdM _ _ _ _ hb
 ·exact D.zdM _ _ _ _ hb
 ·exact I.zbc _ _ _
 ·exact S.zbc _ _ _ _
 ·exact S.zbc _ _ _ _
 ·exact T.zdM _ _ _ _
 ·exact A.zbc _ _ _
 ·exact S.zbc _ _ _ _
theorem zkZ[Inhabited D.BT][Inhabited S.RT]{t:Nat}(h:1<=t/\t<=8)(key:List UInt8)(hk:key.length ∈ zbP t)(b:List UInt8)(hb:b.length=szN t):
  cf t key true (cf t key false b)=b/\cf t key false (cf t key true b)=b:=by
 have hm:D.zbg key.length=1\/D.zbg key.length=3:=by unfold D.zbg;split<;>simp
 rcases tags h with rfl|rfl|rfl|rfl|rfl|rfl|rfl|rfl
 ·exact D.zck _ hm _ b hb
 ·exact D.zck _ hm _ b hb
 ·exact I.zck (I.zjI key) b hb
 ·exact⟨S.zbU .x key false b hb,S.zbU .x key true b hb⟩
 ·exact⟨S.zbU .m key false b hb,S.zbU .m key true b hb⟩
 ·exact T.zck _ _ b hb
 ·exact A.zck key (by rw[show zbP 7 = [16,24,32] by decide] at hk;simpa using hk) b hb
 ·exact⟨S.zbU .r key false b hb,S.zbU .r key true b hb⟩
theorem zvE[Inhabited D.BT][Inhabited S.RT]{t:Nat}(h:1<=t/\t<=8)(key:List UInt8)(hk:key.length ∈ zbP t){b c:List UInt8}(hb:b.length=szN t)(hc:c.length=szN t):
  cf t key false b=cf t key false c↔b=c :=
 ⟨fun e=>by rw[<-(zkZ h key hk b hb).1,e,(zkZ h key hk c hc).1],fun e=>by rw[e]⟩
theorem zdD{t n m:Nat}(h:n ∈ zbP t)(ht:zbP t = [m]:=by decide):n=m:=by rw[ht] at h;simpa using h
structure GC [Inhabited D.BT] [Inhabited S.RT] (w:World):Prop where
 sh:Shapes w
 bx:D.Boxes w
 rw_:S.GRows w
 gt:T.GT w
 gk:A.GK w
theorem GC.later[Inhabited D.BT][Inhabited S.RT]{w w':World}(h:GC w)(hx:Ext w w'):GC w':=⟨h.sh.later hx,h.bx.later hx,h.rw_.later hx,h.gt.later hx,h.gk.later hx⟩
theorem zmW[Inhabited D.BT]{w:World}{q m:Nat}{kf:Nat->Nat->List UInt8}(hd:D.IsDes w q m kf)(hm:m<=1000)(hB:D.Boxes w):Turns 212 w q 8 (D.zaF m kf) :=
 fun w' hx back Ad n c=>⟨fun hn=>D.zb6 q Ad n c back w' hn,fun hn _ b hr=>by subst hn;exact D.zcK Ad q m c b kf back w' (hd.later hx) hm hr (hB.later hx)⟩
theorem zrc{w:World}{q:Nat}{k:Nat->Nat}(hd:I.IsIdea w q k)(hl:∀i,k i<65536):Turns 223 w q 8 (I.zaF k) :=
 fun w' hx back Ad n c=>⟨fun hn=>I.zb6 q Ad n c back w' hn,fun hn _ b hr=>by subst hn;exact I.zcK Ad q c b k back w' (hd.later hx) hl hr⟩
theorem zjz[Inhabited S.RT]{w:World}{q:Nat}{t:S.T3}{key:List UInt8}(hd:S.IsSmall w q t (S.zdf t key) (S.keysOf t key))(hG:S.GRows w):Turns 236 w q 8 (S.zaF t key) :=
 fun w' hx back Ad n c=>⟨fun hn=>S.zb6 q Ad n c back w' hn,fun hn hc b hr=>by subst hn;exact(S.zcK t key back q Ad c b w' (hd.later hx) (hG.later hx) hr hc.1 hc.2).mono fun e w2 h=>zqq h (S.zbc _ _ _ _)⟩
theorem zqQ{w:World}{q:Nat}{ks ss:List UInt32}(hd:T.IsTwo w q ks ss)(hG:T.GT w):Turns 228 w q 16 (T.zaF ks ss) :=
 fun w' hx back Ad n c=>⟨fun hn=>T.zb6 q Ad n c back w' hn,fun hn hc b hr=>by subst hn;exact(T.zcK q c Ad ks ss back b w' (hG.later hx) (hd.later hx) hr hc.1).mono fun e w2 h=>zqq h (T.zdM _ _ _ _)⟩
theorem zrZ{w:World}{q:Nat}{key:List UInt8}(hd:A.IsAria w q key)(hk:A.zgC key.length)(hG:A.GK w):Turns 234 w q 16 (A.zaF key) :=
 fun w' hx back Ad n c=>⟨fun hn=>A.zb6 q Ad n c back w' hn,fun hn _ b hr=>by
  subst hn;cases back
  ·exact A.zjB q Ad c key b w' (hd.later hx) hr hk (hG.later hx).sev
  ·exact A.zls q Ad c key b w' (hd.later hx) hr hk (hG.later hx).sev⟩
def Own_(w:World)(v:Value)(n:Nat)(f:Bool->List UInt8->List UInt8):Prop :=
 (∃ty q,v=.iface ty (.pointer (some ⟨q,0,none⟩)))/\∀p,w.cell? ⟨p,0,none⟩=some v->w.cell? ⟨p,1,none⟩=some (.int .i64 (n:Nat))->IsC w p n f
def zcy(w:World)(v:Value)(n:Nat)(f:Bool->List UInt8->List UInt8):Prop:=∀w',Ext w w'->Own_ w' v n f
def zdc(w:World)(n:Nat)(f:Bool->List UInt8->List UInt8)(e:Ending)(w':World):Prop:=∃v,e=.returned (.tuple #[v,.int .i64 0])/\zcy w' v n f/\Ext w w'
theorem zkz{w:World}{q n:Nat}{f:Bool->List UInt8->List UInt8}(h:Turns 212 w q n f):zcy w (.iface 91 (.pointer (some ⟨q,0,none⟩))) n f :=
 fun _ hx=>⟨⟨_,_,rfl⟩,fun _ h0 h1=>zuK h0 h1 (h.later hx)⟩
theorem zpk{w:World}{q n:Nat}{f:Bool->List UInt8->List UInt8}(h:Turns 223 w q n f):zcy w (.iface 94 (.pointer (some ⟨q,0,none⟩))) n f :=
 fun _ hx=>⟨⟨_,_,rfl⟩,fun _ h0 h1=>zvw h0 h1 (h.later hx)⟩
theorem zhP{w:World}{q n:Nat}{f:Bool->List UInt8->List UInt8}(h:Turns 236 w q n f):zcy w (.iface 103 (.pointer (some ⟨q,0,none⟩))) n f :=
 fun _ hx=>⟨⟨_,_,rfl⟩,fun _ h0 h1=>zuD h0 h1 (h.later hx)⟩
theorem zpu{w:World}{q n:Nat}{f:Bool->List UInt8->List UInt8}(h:Turns 228 w q n f):zcy w (.iface 97 (.pointer (some ⟨q,0,none⟩))) n f :=
 fun _ hx=>⟨⟨_,_,rfl⟩,fun _ h0 h1=>zvm h0 h1 (h.later hx)⟩
theorem zoG{w:World}{q n:Nat}{f:Bool->List UInt8->List UInt8}(h:Turns 234 w q n f):zcy w (.iface 100 (.pointer (some ⟨q,0,none⟩))) n f :=
 fun _ hx=>⟨⟨_,_,rfl⟩,fun _ h0 h1=>zuF h0 h1 (h.later hx)⟩
theorem zs1{N:Nat}{f:Bool->List UInt8->List UInt8}(Ad:Option Addr)(n c:Nat)(w:World)
  (hc:Calls Tryz.prog 56 #[.slice Ad n c] w fun e w'=>∃q,e=.returned (.tuple #[.pointer (some ⟨q,0,none⟩),.int .i64 0])/\zcy w' (.iface 91 (.pointer (some ⟨q,0,none⟩))) N f/\Ext w w'):
  Calls Tryz.prog 35 #[.int .i64 1,.slice Ad n c] w (zdc w N f):=by
 have HC:=hid hc;clear hc;go_enter Tryz.func35,Tryz.ntmps35;go_wp2_with fail
 refine HC.out.mono ?_;rintro e w1 ⟨q,rfl,hr⟩;have HE:=hid hr;clear hr;go_wp2_with fail
 go_ret2;exact⟨_,rfl,HE.out.1,HE.out.2⟩
theorem ztA{N:Nat}{f:Bool->List UInt8->List UInt8}(Ad:Option Addr)(n c:Nat)(w:World)
  (hc:Calls Tryz.prog 56 #[.slice Ad n c] w fun e w'=>∃q,e=.returned (.tuple #[.pointer (some ⟨q,0,none⟩),.int .i64 0])/\zcy w' (.iface 91 (.pointer (some ⟨q,0,none⟩))) N f/\Ext w w'):
  Calls Tryz.prog 35 #[.int .i64 2,.slice Ad n c] w (zdc w N f):=by
 have HC:=hid hc;clear hc;go_enter Tryz.func35,Tryz.ntmps35;go_wp2_with fail
 refine HC.out.mono ?_;rintro e w1 ⟨q,rfl,hr⟩;have HE:=hid hr;clear hr;go_wp2_with fail
 go_ret2;exact⟨_,rfl,HE.out.1,HE.out.2⟩
theorem zsW{N:Nat}{f:Bool->List UInt8->List UInt8}(Ad:Option Addr)(n c:Nat)(w:World)
  (hc:Calls Tryz.prog 57 #[.slice Ad n c] w fun e w'=>∃q,e=.returned (.tuple #[.pointer (some ⟨q,0,none⟩),.int .i64 0])/\zcy w' (.iface 94 (.pointer (some ⟨q,0,none⟩))) N f/\Ext w w'):
  Calls Tryz.prog 35 #[.int .i64 3,.slice Ad n c] w (zdc w N f):=by
 have HC:=hid hc;clear hc;go_enter Tryz.func35,Tryz.ntmps35;go_wp2_with fail
 refine HC.out.mono ?_;rintro e w1 ⟨q,rfl,hr⟩;have HE:=hid hr;clear hr;go_wp2_with fail
 go_ret2;exact⟨_,rfl,HE.out.1,HE.out.2⟩
theorem ztj{N:Nat}{f:Bool->List UInt8->List UInt8}(Ad:Option Addr)(n c:Nat)(w:World)
  (hc:Calls Tryz.prog 58 #[.slice Ad n c] w fun e w'=>∃q,e=.returned (.tuple #[.pointer (some ⟨q,0,none⟩),.int .i64 0])/\zcy w' (.iface 97 (.pointer (some ⟨q,0,none⟩))) N f/\Ext w w'):
  Calls Tryz.prog 35 #[.int .i64 6,.slice Ad n c] w (zdc w N f):=by
 have HC:=hid hc;clear hc;go_enter Tryz.func35,Tryz.ntmps35;go_wp2_with fail
 refine HC.out.mono ?_;rintro e w1 ⟨q,rfl,hr⟩;have HE:=hid hr;clear hr;go_wp2_with fail
 go_ret2;exact⟨_,rfl,HE.out.1,HE.out.2⟩
theorem zto{N:Nat}{f:Bool->List UInt8->List UInt8}(Ad:Option Addr)(n c:Nat)(w:World)
  (hc:Calls Tryz.prog 59 #[.slice Ad n c] w fun e w'=>∃q,e=.returned (.tuple #[.pointer (some ⟨q,0,none⟩),.int .i64 0])/\zcy w' (.iface 100 (.pointer (some ⟨q,0,none⟩))) N f/\Ext w w'):
  Calls Tryz.prog 35 #[.int .i64 7,.slice Ad n c] w (zdc w N f):=by
 have HC:=hid hc;clear hc;go_enter Tryz.func35,Tryz.ntmps35;go_wp2_with fail
 refine HC.out.mono ?_;rintro e w1 ⟨q,rfl,hr⟩;have HE:=hid hr;clear hr;go_wp2_with fail
 go_ret2;exact⟨_,rfl,HE.out.1,HE.out.2⟩
theorem zt1{N:Nat}{f:Bool->List UInt8->List UInt8}(Ad:Option Addr)(n c:Nat)(w:World)
  (hc:Calls Tryz.prog 60 #[.int .i64 4,.slice Ad n c] w fun e w'=>∃q,e=.returned (.tuple #[.pointer (some ⟨q,0,none⟩),.int .i64 0])/\zcy w' (.iface 103 (.pointer (some ⟨q,0,none⟩))) N f/\Ext w w'):
  Calls Tryz.prog 35 #[.int .i64 4,.slice Ad n c] w (zdc w N f):=by
 have HC:=hid hc;clear hc;go_enter Tryz.func35,Tryz.ntmps35;go_wp2_with fail
 refine HC.out.mono ?_;rintro e w1 ⟨q,rfl,hr⟩;have HE:=hid hr;clear hr;go_wp2_with fail
 go_ret2;exact⟨_,rfl,HE.out.1,HE.out.2⟩
theorem zt8{N:Nat}{f:Bool->List UInt8->List UInt8}(Ad:Option Addr)(n c:Nat)(w:World)
  (hc:Calls Tryz.prog 60 #[.int .i64 5,.slice Ad n c] w fun e w'=>∃q,e=.returned (.tuple #[.pointer (some ⟨q,0,none⟩),.int .i64 0])/\zcy w' (.iface 103 (.pointer (some ⟨q,0,none⟩))) N f/\Ext w w'):
  Calls Tryz.prog 35 #[.int .i64 5,.slice Ad n c] w (zdc w N f):=by
 have HC:=hid hc;clear hc;go_enter Tryz.func35,Tryz.ntmps35;go_wp2_with fail
 refine HC.out.mono ?_;rintro e w1 ⟨q,rfl,hr⟩;have HE:=hid hr;clear hr;go_wp2_with fail
 go_ret2;exact⟨_,rfl,HE.out.1,HE.out.2⟩
theorem ztt{N:Nat}{f:Bool->List UInt8->List UInt8}(Ad:Option Addr)(n c:Nat)(w:World)
  (hc:Calls Tryz.prog 60 #[.int .i64 8,.slice Ad n c] w fun e w'=>∃q,e=.returned (.tuple #[.pointer (some ⟨q,0,none⟩),.int .i64 0])/\zcy w' (.iface 103 (.pointer (some ⟨q,0,none⟩))) N f/\Ext w w'):
  Calls Tryz.prog 35 #[.int .i64 8,.slice Ad n c] w (zdc w N f):=by
 have HC:=hid hc;clear hc;go_enter Tryz.func35,Tryz.ntmps35;go_wp2_with fail
 refine HC.out.mono ?_;rintro e w1 ⟨q,rfl,hr⟩;have HE:=hid hr;clear hr;go_wp2_with fail
 go_ret2;exact⟨_,rfl,HE.out.1,HE.out.2⟩
theorem pk_1[Inhabited D.BT][Inhabited S.RT](Ad:Option Addr)(n c:Nat)(key:List UInt8)(w:World)(h:Rd w w.heap.size Ad n key)(hk:n ∈ zbP 1)(hc:n<=c/\c<=9223372036854775807)(hG:GC w):
  Calls Tryz.prog 56 #[.slice Ad n c] w fun e w'=>∃q,e=.returned (.tuple #[.pointer (some ⟨q,0,none⟩),.int .i64 0])/\Turns 212 w' q (szN 1) (cf 1 key)/\Ext w w':=by
 have hmany:D.zbg key.length<=1000:=by unfold D.zbg;split<;>omega
 have hn:n=8\/n=16\/n=24:=by rw[show zbP 1 = [8] by decide] at hk;simp at hk;omega
 exact(D.zb8 Ad n c key w hn h hc.1).mono fun e w' ⟨q,he,hd,hx⟩=>⟨q,he,zmW hd hmany (hG.bx.later hx),hx⟩
theorem pk_2[Inhabited D.BT][Inhabited S.RT](Ad:Option Addr)(n c:Nat)(key:List UInt8)(w:World)(h:Rd w w.heap.size Ad n key)(hk:n ∈ zbP 2)(hc:n<=c/\c<=9223372036854775807)(hG:GC w):
  Calls Tryz.prog 56 #[.slice Ad n c] w fun e w'=>∃q,e=.returned (.tuple #[.pointer (some ⟨q,0,none⟩),.int .i64 0])/\Turns 212 w' q (szN 2) (cf 2 key)/\Ext w w':=by
 have hmany:D.zbg key.length<=1000:=by unfold D.zbg;split<;>omega
 have hn:n=8\/n=16\/n=24:=by rw[show zbP 2 = [16,24] by decide] at hk;simp at hk;omega
 exact(D.zb8 Ad n c key w hn h hc.1).mono fun e w' ⟨q,he,hd,hx⟩=>⟨q,he,zmW hd hmany (hG.bx.later hx),hx⟩
theorem pk_3[Inhabited D.BT][Inhabited S.RT](Ad:Option Addr)(n c:Nat)(key:List UInt8)(w:World)(h:Rd w w.heap.size Ad n key)(hk:n ∈ zbP 3)(hc:n<=c/\c<=9223372036854775807)(_hG:GC w):
  Calls Tryz.prog 57 #[.slice Ad n c] w fun e w'=>∃q,e=.returned (.tuple #[.pointer (some ⟨q,0,none⟩),.int .i64 0])/\Turns 223 w' q (szN 3) (cf 3 key)/\Ext w w':=by
 obtain rfl:=zdD (m:=16) hk;exact(I.zb8 Ad c key w h).mono fun e w' ⟨q,he,hd,hx⟩=>⟨q,he,zrc hd (I.zjI key),hx⟩
theorem pk_4[Inhabited D.BT][Inhabited S.RT](Ad:Option Addr)(n c:Nat)(key:List UInt8)(w:World)(h:Rd w w.heap.size Ad n key)(hk:n ∈ zbP 4)(hc:n<=c/\c<=9223372036854775807)(hG:GC w):
  Calls Tryz.prog 60 #[.int .i64 4,.slice Ad n c] w fun e w'=>∃q,e=.returned (.tuple #[.pointer (some ⟨q,0,none⟩),.int .i64 0])/\Turns 236 w' q (szN 4) (cf 4 key)/\Ext w w':=by
 obtain rfl:=zdD (m:=16) hk;exact(S.zb8 .x Ad c key w h hc.1 hc.2).mono fun e w' ⟨q,he,hd,hx⟩=>⟨q,he,zjz hd (hG.rw_.later hx),hx⟩
theorem pk_5[Inhabited D.BT][Inhabited S.RT](Ad:Option Addr)(n c:Nat)(key:List UInt8)(w:World)(h:Rd w w.heap.size Ad n key)(hk:n ∈ zbP 5)(hc:n<=c/\c<=9223372036854775807)(hG:GC w):
  Calls Tryz.prog 60 #[.int .i64 5,.slice Ad n c] w fun e w'=>∃q,e=.returned (.tuple #[.pointer (some ⟨q,0,none⟩),.int .i64 0])/\Turns 236 w' q (szN 5) (cf 5 key)/\Ext w w':=by
 obtain rfl:=zdD (m:=32) hk;exact(S.zb8 .m Ad c key w h hc.1 hc.2).mono fun e w' ⟨q,he,hd,hx⟩=>⟨q,he,zjz hd (hG.rw_.later hx),hx⟩
theorem pk_6[Inhabited D.BT][Inhabited S.RT](Ad:Option Addr)(n c:Nat)(key:List UInt8)(w:World)(h:Rd w w.heap.size Ad n key)(hk:n ∈ zbP 6)(hc:n<=c/\c<=9223372036854775807)(hG:GC w):
  Calls Tryz.prog 58 #[.slice Ad n c] w fun e w'=>∃q,e=.returned (.tuple #[.pointer (some ⟨q,0,none⟩),.int .i64 0])/\Turns 228 w' q (szN 6) (cf 6 key)/\Ext w w':=by
 have hn:n=16\/n=24\/n=32:=by rw[show zbP 6 = [16,24,32] by decide] at hk;simpa using hk
 exact(T.zb8 Ad n c key w hG.gt h hn hc.1).mono fun e w' ⟨q,he,hd,_,hx⟩=>⟨q,he,zqQ hd (hG.gt.later hx),hx⟩
theorem pk_7[Inhabited D.BT][Inhabited S.RT](Ad:Option Addr)(n c:Nat)(key:List UInt8)(w:World)(h:Rd w w.heap.size Ad n key)(hk:n ∈ zbP 7)(hc:n<=c/\c<=9223372036854775807)(hG:GC w):
  Calls Tryz.prog 59 #[.slice Ad n c] w fun e w'=>∃q,e=.returned (.tuple #[.pointer (some ⟨q,0,none⟩),.int .i64 0])/\Turns 234 w' q (szN 7) (cf 7 key)/\Ext w w':=by
 have hl:=h.len;have hn:n=16\/n=24\/n=32:=by rw[show zbP 7 = [16,24,32] by decide] at hk;simpa using hk
 exact(A.zb8 Ad n c key w h hn hc.1 hG.gk).mono fun e w' ⟨q,he,_,hd,hx⟩=>⟨q,he,zrZ hd (by rw[hl];exact hn) (hG.gk.later hx),hx⟩
theorem pk_8[Inhabited D.BT][Inhabited S.RT](Ad:Option Addr)(n c:Nat)(key:List UInt8)(w:World)(h:Rd w w.heap.size Ad n key)(hk:n ∈ zbP 8)(hc:n<=c/\c<=9223372036854775807)(hG:GC w):
  Calls Tryz.prog 60 #[.int .i64 8,.slice Ad n c] w fun e w'=>∃q,e=.returned (.tuple #[.pointer (some ⟨q,0,none⟩),.int .i64 0])/\Turns 236 w' q (szN 8) (cf 8 key)/\Ext w w':=by
 obtain rfl:=zdD (m:=16) hk;exact(S.zb8 .r Ad c key w h hc.1 hc.2).mono fun e w' ⟨q,he,hd,hx⟩=>⟨q,he,zjz hd (hG.rw_.later hx),hx⟩
theorem zhB[Inhabited D.BT][Inhabited S.RT]{t:Nat}(ht:1<=t/\t<=8)(Ad:Option Addr)(n c:Nat)(key:List UInt8)(w:World)(h:Rd w w.heap.size Ad n key)(hk:n ∈ zbP t)(hc:n<=c/\c<=9223372036854775807)(hG:GC w):
  Calls Tryz.prog 35 #[.int .i64 t,.slice Ad n c] w (zdc w (szN t) (cf t key)):=by
 rcases tags ht with rfl|rfl|rfl|rfl|rfl|rfl|rfl|rfl
 ·exact zs1 Ad n c w ((pk_1 Ad n c key w h hk hc hG).mono fun e w' ⟨q,he,hd,hx⟩=>⟨q,he,zkz hd,hx⟩)
 ·exact ztA Ad n c w ((pk_2 Ad n c key w h hk hc hG).mono fun e w' ⟨q,he,hd,hx⟩=>⟨q,he,zkz hd,hx⟩)
 ·exact zsW Ad n c w ((pk_3 Ad n c key w h hk hc hG).mono fun e w' ⟨q,he,hd,hx⟩=>⟨q,he,zpk hd,hx⟩)
 ·exact zt1 Ad n c w ((pk_4 Ad n c key w h hk hc hG).mono fun e w' ⟨q,he,hd,hx⟩=>⟨q,he,zhP hd,hx⟩)
 ·exact zt8 Ad n c w ((pk_5 Ad n c key w h hk hc hG).mono fun e w' ⟨q,he,hd,hx⟩=>⟨q,he,zhP hd,hx⟩)
 ·exact ztj Ad n c w ((pk_6 Ad n c key w h hk hc hG).mono fun e w' ⟨q,he,hd,hx⟩=>⟨q,he,zpu hd,hx⟩)
 ·exact zto Ad n c w ((pk_7 Ad n c key w h hk hc hG).mono fun e w' ⟨q,he,hd,hx⟩=>⟨q,he,zoG hd,hx⟩)
 ·exact ztt Ad n c w ((pk_8 Ad n c key w h hk hc hG).mono fun e w' ⟨q,he,hd,hx⟩=>⟨q,he,zhP hd,hx⟩)
def zb0(w:World)(n:Nat)(f:Bool->List UInt8->List UInt8)(e:Ending)(w':World):Prop:=∃p,e=.returned (.tuple #[.pointer (some ⟨p,0,none⟩),.int .i64 0])/\w.heap.size<=p/\IsC w' p n f/\Ext w w'
theorem zt4{t:Nat}(ht:1<=t/\t<=8)(Q:World->Value->Prop)(Ad:Option Addr)(n c:Nat)(w:World)(hk:n ∈ zbP t)(hS:Shapes w)
  (hM:∀w',Ext w w'->Calls Tryz.prog 35 #[.int .i64 t,.slice Ad n c] w' fun e w2=>∃ty q,e=.returned (.tuple #[.iface ty (.pointer (some ⟨q,0,none⟩)),.int .i64 0])/\Q w2 (.iface ty (.pointer (some ⟨q,0,none⟩)))/\Ext w' w2):
  Calls Tryz.prog 18 #[.int .i64 t,.slice Ad n c] w fun e w'=>∃p v w3,e=.returned (.tuple #[.pointer (some ⟨p,0,none⟩),.int .i64 0])/\w.heap.size<=p/\Ext w w'/\Q w3 v/\Ext w3 w'/\w'.cell? ⟨p,0,none⟩=some v/\w'.cell? ⟨p,1,none⟩=some (.int .i64 (szN t:Nat)):=by
 have HM:=hid hM;have HS:=hid (fun w' (hx:Ext w w')=>zpc (t:Int) w' (hS.later hx));have HL:=hid (fun w' (hx:Ext w w')=>zpd (t:Int) w' (hS.later hx));rw[zow ht] at HS HL;have HIN:=hid (show decide ((n:Int) ∈ zcO t (cntN t))=true by
  obtain⟨i,hi,e⟩:=List.mem_map.1 hk;simp only[decide_eq_true_eq];exact List.mem_map.2 ⟨i,hi,by rw[e]⟩)
 have hc3:=zld t ht.2;have hz:=(zmB t ht.2);obtain⟨Z,hZ⟩:∃Z,szN t=Z:=⟨_,rfl⟩;rw[hZ] at HS hz ⊢;have hz0:((Z:Int)==0)=false:=by simp;omega
 have HC3:=hid hc3;clear hM hS hk hZ hz hc3;go_enter Tryz.func18,Tryz.ntmps18;go_wp2_with fail
 refine(HS.out _ (Ext.refl w)).mono ?_;rintro e w1 ⟨rfl,hx1⟩;have HX1:=hid hx1;clear hx1;go_wp2_with fail
 refine(HL.out _ HX1.out).mono ?_;rintro e w2 ⟨v2,rfl,ho2,hx2⟩;obtain⟨A2,c2,rfl,_,hr2,_⟩:=OwnN.rdc ho2 (zbA _ _);have HX2:=hid (Ext.trans HX1.out hx2);have HR2:=hid hr2;clear hx2 ho2 hr2 HX1;go_wp2_with (go_at_call 33;refine(zih _ _ _ _ _ _ HR2.out (by have:=HC3.out;omega)).mono ?_;rintro e w3 ⟨rfl,rfl⟩;rw[HIN.out])
 refine(HM.out _ HX2.out).mono ?_;rintro e w3 ⟨ty,q,rfl,ho3,hx3⟩;have HX3:=hid (Ext.trans HX2.out hx3);have HO3:=hid ho3;clear hx3 ho3 HX2 HR2;go_wp2_with fail
 refine(HS.out _ HX3.out).mono ?_;rintro e w4 ⟨rfl,hx4⟩;have x5:=Ext.alloc w4 (.cells #[.iface ty (.pointer (some ⟨q,0,none⟩)),.int .i64 (Z:Nat)] 53);have hh:=heap_alloc_new w4 (.cells #[.iface ty (.pointer (some ⟨q,0,none⟩)),.int .i64 (Z:Nat)] 53);have HE:=hid (And.intro (Ext.trans hx4 x5) (Ext.trans (Ext.trans HX3.out hx4) x5));have HH:=hid (And.intro (show(w4.alloc (.cells #[.iface ty (.pointer (some ⟨q,0,none⟩)),.int .i64 (Z:Nat)] 53)).cell? ⟨w4.heap.size,0,none⟩=some (.iface ty (.pointer (some ⟨q,0,none⟩))) by rw[cell_of_row _ _ _ _ _ _ hh];rfl) (show(w4.alloc (.cells #[.iface ty (.pointer (some ⟨q,0,none⟩)),.int .i64 (Z:Nat)] 53)).cell? ⟨w4.heap.size,1,none⟩=some (.int .i64 (Z:Nat)) by rw[cell_of_row _ _ _ _ _ _ hh];rfl));have HZ:=hid (show w.heap.size<=w4.heap.size from Below.size (Ext.trans HX3.out hx4));clear x5 hh hx4 HX3;go_wp2_with fail
 go_ret2;exact⟨_,_,_,rfl,HZ.out,HE.out.2,HO3.out,HE.out.1,HH.out.1,HH.out.2⟩
theorem zb8[Inhabited D.BT][Inhabited S.RT]{t:Nat}(ht:1<=t/\t<=8)(Ad:Option Addr)(n c:Nat)(key:List UInt8)(w:World)(h:Rd w w.heap.size Ad n key)(hk:n ∈ zbP t)(hc:n<=c/\c<=9223372036854775807)(hG:GC w):
  Calls Tryz.prog 18 #[.int .i64 t,.slice Ad n c] w (zb0 w (szN t) (cf t key)):=by
 refine(zt4 ht (fun w v=>zcy w v (szN t) (cf t key)) Ad n c w hk hG.sh fun w' hx=>(zhB ht Ad n c key w' (h.later hx) hk hc (hG.later hx)).mono ?_).mono ?_
 ·rintro e w2 ⟨v,rfl,ho,hx2⟩;obtain⟨⟨ty,q,rfl⟩,_⟩:=ho _ (Ext.refl w2);exact⟨ty,q,rfl,ho,hx2⟩
 ·rintro e w2 ⟨p,v,w3,rfl,hp,hx,ho,hx3,h0,h1⟩;exact⟨p,rfl,hp,(ho _ hx3).2 p h0 h1,hx⟩
theorem zpM{t n:Nat}:n ∈ zbP t↔(n:Int) ∈ zcO t (cntN t):=by
 constructor
 ·intro h;obtain⟨i,hi,e⟩:=List.mem_map.1 h;exact List.mem_map.2 ⟨i,hi,by rw[e]⟩
 ·intro h;obtain⟨i,hi,e⟩:=List.mem_map.1 h;exact List.mem_map.2 ⟨i,hi,by omega⟩
def zqu(w:World)(e:Ending)(w':World):Prop:=∃p,e=.returned (.tuple #[.pointer (some ⟨p,0,none⟩),.int .i64 0])/\Ext w w'
def rfn(t:Nat):FuncId:=match t with
 | 1=>38
 | 2=>38
 | 3=>39
 | 6=>40
 | 7=>41
 | _=>42
def rar(t:Nat)(v:Value):Array Value:=match t with
 | 4=>#[.int .i64 4,v]
 | 5=>#[.int .i64 5,v]
 | 8=>#[.int .i64 8,v]
 | _=>#[v]
theorem rpk[Inhabited D.BT][Inhabited S.RT]{t:Nat}(ht:1<=t/\t<=8)(Ad:Option Addr)(n c:Nat)(key:List UInt8)(w:World)(h:Rd w w.heap.size Ad n key)(hk:n ∈ zbP t)(hc:n<=c/\c<=9223372036854775807):
  Calls Tryz.prog (rfn t) (rar t (.slice Ad n c)) w (zqu w):=by
 rcases tags ht with rfl|rfl|rfl|rfl|rfl|rfl|rfl|rfl
 ·exact(D.zbt Ad n c key w (by rw[show zbP 1 = [8] by decide] at hk;simp at hk;omega) h hc.1).mono fun e w' ⟨q,he,_,hx⟩=>⟨q,he,hx⟩
 ·exact(D.zbt Ad n c key w (by rw[show zbP 2 = [16,24] by decide] at hk;simp at hk;omega) h hc.1).mono fun e w' ⟨q,he,_,hx⟩=>⟨q,he,hx⟩
 ·obtain rfl:=zdD (m:=16) hk;exact(I.zbt Ad c key w h).mono fun e w' ⟨q,he,_,hx⟩=>⟨q,he,hx⟩
 ·obtain rfl:=zdD (m:=16) hk;exact(S.zbt .x Ad c key w h hc.1 hc.2).mono fun e w' ⟨q,he,_,hx⟩=>⟨q,he,hx⟩
 ·obtain rfl:=zdD (m:=32) hk;exact(S.zbt .m Ad c key w h hc.1 hc.2).mono fun e w' ⟨q,he,_,hx⟩=>⟨q,he,hx⟩
 ·exact(T.zbt Ad n c key w h (show n=16\/n=24\/n=32 by rw[show zbP 6 = [16,24,32] by decide] at hk;simpa using hk) hc.1).mono fun e w' ⟨q,he,_,hx⟩=>⟨q,he,hx⟩
 ·exact(A.zbt Ad n c key w h (show n=16\/n=24\/n=32 by rw[show zbP 7 = [16,24,32] by decide] at hk;simpa using hk) hc.1).mono fun e w' ⟨q,he,_,hx⟩=>⟨q,he,hx⟩
 ·obtain rfl:=zdD (m:=16) hk;exact(S.zbt .r Ad c key w h hc.1 hc.2).mono fun e w' ⟨q,he,_,hx⟩=>⟨q,he,hx⟩
theorem zbt[Inhabited D.BT][Inhabited S.RT]{t:Nat}(ht:1<=t/\t<=8)(Ad:Option Addr)(n c:Nat)(key:List UInt8)(w:World)(h:Rd w w.heap.size Ad n key)(hk:n ∈ zbP t)(hc:n<=c/\c<=9223372036854775807):
  Calls Tryz.prog 21 #[.int .i64 t,.slice Ad n c] w (zqu w):=by
 have HL:=hid (zii (t:Int) w);rw[zow ht] at HL;have HIN:=hid (show decide ((n:Int) ∈ zcO t (cntN t))=true by simpa using zpM.1 hk);have hc3:=zld t ht.2;have hc0:=zjX ht;obtain⟨C,hC⟩:∃C,cntN t=C:=⟨_,rfl⟩;rw[hC] at HL HIN hc3 hc0;have hz0:((C:Int)==0)=false:=by simp;omega
 have HKB:=hid (And.intro (zqh t ht.2) hc3);have HR:=hid h;have HK:=hid (fun w' h=>rpk ht Ad n c key w' h hk hc);have HT:=hid ht;clear h hc hk hC hc3 hc0 ht;go_enter Tryz.func21,Tryz.ntmps21;go_wp2_with fail
 refine HL.out.mono ?_;rintro e w2 ⟨v2,rfl,ho2,hx2⟩;obtain⟨A2,c2,rfl,_,hr2,_⟩:=OwnN.rdc ho2 (zbA _ _);have HX2:=hid (show Ext w w2 from hx2);have HR2:=hid hr2;clear hx2 ho2 hr2;go_wp2_with fail
 go_loop [7,8] (fun b i=>∃k:Nat,k<=C/\i=.int .i64 k/\b=.bool (decide ((n:Int) ∈ zcO t k))) (fun _ i=>C-(intOf i).toNat)
 case atStart=>exact⟨0,Nat.zero_le _,rfl,rfl⟩
 case round =>
  obtain⟨k,hk,rfl,rfl⟩:=hrel;have hkb:=HKB.out;by_cases hlt:k<C
  ·obtain⟨b,o,rfl,_,hcells⟩:=HR2.out.at_ (by omega);have hcell:=hcells k hlt;rw[show(zcO t C).getD k 0=((keyN t+8*k:Nat):Int) by simp[zcO,List.getD_eq_getElem?_getD,hlt]] at hcell;have hst:decide ((n:Int) ∈ zcO t (k+1))=(decide ((n:Int) ∈ zcO t k) || decide ((n:Int)=((keyN t+8*k:Nat):Int))):=by rw[zg0];simp[List.mem_append]
   obtain⟨Y,hY⟩:∃Y,keyN t+8*k=Y:=⟨_,rfl⟩;rw[hY] at hcell hst;have hkC:(k:Int)<(C:Int):=by omega
   obtain⟨x,hx⟩:∃x,decide ((n:Int) ∈ zcO t k)=x:=⟨_,rfl⟩;rw[hx] at hst ⊢;have HST:=hid hst;clear hst hcells hY hx;cases x with
   | true =>
     go_wp2_with fail
     go_roundw
     case rel=>exact⟨k+1,by omega,by go_num,by rw[HST.out];rfl⟩
     case measure=>simp[intOf];omega
   | false =>
     by_cases hny:Y=n
     ·subst hny;have hb:((Y:Int)==(Y:Int))=true:=by simp
      go_wp2_with fail
      go_roundw
      case rel=>exact⟨k+1,by omega,by go_num,by rw[HST.out];simp⟩
      case measure=>simp[intOf];omega
     ·have hb:((Y:Int)==(n:Int))=false:=by simp;omega
      have HNY:=hid hny;clear hny;go_wp2_with fail
      go_roundw
      case rel=>exact⟨k+1,by omega,by go_num,by rw[HST.out];have:=HNY.out;simp;omega⟩
      case measure=>simp[intOf];omega
  ·obtain rfl:k=C:=by omega
   rw[HIN.out];clear HIN HL HR2 hz0 hkb hk hlt;have HX3:=hid (fun T:Int=>Ext.trans HX2.out (Ext.alloc w2 (.cells #[.int .i64 T,.pointer none,.pointer none,.pointer none,.pointer none,.pointer none] 71)));have HSZ:=hid (show w.heap.size<=w2.heap.size from Below.size HX2.out);have HH:=hid (fun(T:Int) (j:Nat) (h1:(#[Value.int .i64 T,.pointer none,.pointer none,.pointer none,.pointer none,.pointer none]:Array Value)[j]? = some (.pointer none)) W (hx:Ext (w2.alloc (.cells #[.int .i64 T,.pointer none,.pointer none,.pointer none,.pointer none,.pointer none] 71)) W)=>And.intro (zan (a:=⟨w2.heap.size,j,none⟩) (v:=.pointer none) hx (by rw[cell_of_row _ _ _ _ _ _ (heap_alloc_new w2 _)];exact h1)) (frozen_of_row W w2.heap.size j _ _ ((Below.block hx _ (by rw[World.size_alloc];exact Nat.lt_succ_self _)).trans (heap_alloc_new w2 _))))
   rcases tags HT.out with rfl|rfl|rfl|rfl|rfl|rfl|rfl|rfl
   all_goals
    go_wp2_with fail
    refine(HK.out _ (HR.out.later (HX3.out _))).mono ?_;rintro e w4 ⟨q,rfl,hx4⟩;obtain⟨c1,f1⟩:=HH.out _ 1 rfl _ hx4;obtain⟨c2,f2⟩:=HH.out _ 2 rfl _ hx4;obtain⟨c3,f3⟩:=HH.out _ 3 rfl _ hx4;obtain⟨c4,f4⟩:=HH.out _ 4 rfl _ hx4;obtain⟨c5,f5⟩:=HH.out _ 5 rfl _ hx4;have HX4:=hid (Ext.trans (HX3.out _) hx4);clear hx4;go_wp2_with fail
    go_ret2;exact⟨_,rfl,HX4.out.setCell (by have:=HSZ.out;simp;omega) _⟩
end Go.Proofs.YtokbbmngfogbbaaGreatDoor.C
namespace Go.Proofs.YtokbbmngfogbbaaGreatDoor.C
open Go.RowKit
open A (byL zjv)
set_option maxRecDepth 100000
set_option maxHeartbeats 8000000
def zof(w:World)(n:Nat)(f:Bool->List UInt8->List UInt8)(e:Ending)(w':World):Prop :=
 ∃pc pd,e=.returned (.tuple #[.pointer (some ⟨pc,0,none⟩),.pointer (some ⟨pd,0,none⟩)])/\w.heap.size<=pc/\IsC w' pc n f/\Ext w w'
theorem zsJ[Inhabited D.BT][Inhabited S.RT](a0 a1:Int)(Ak:Option Addr)(L c:Nat)(ks:List UInt8)(w:World)(hG:GC w)(hr:Rd w w.heap.size Ak L ks)(hL:L<=9223372036854775807):
  Calls Tryz.prog 11 #[.int .i64 a0,.int .i64 a1,.slice Ak L c] w (zof w (szN (tagF a0)) (cf (tagF a0) (keyB (tagF a0) a1 ks))):=by
 obtain⟨t,hte⟩:∃t,tagF a0=t:=⟨_,rfl⟩;have ht:=zhS a0;rw[hte] at ht;have HTAG:=hid (zrf a0 w);rw[hte] at HTAG ⊢;have hkm:=zeK ht a1;have HKL:=hid (zkQ t a1 ks);have HKEY:=hid (zrW ht a1 Ak L c ks w hr hL);have HNEW:=hid (fun w' A c h hc (hx:Ext w w')=>zb8 ht A (zds t a1) c (keyB t a1 ks) w' h hkm hc (hG.later hx));have HREF:=hid (fun w' A c h hc=>zbt ht A (zds t a1) c (keyB t a1 ks) w' h hkm hc);obtain⟨KB,hKB⟩:∃KB,keyB t a1 ks=KB:=⟨_,rfl⟩;obtain⟨ML,hML⟩:∃ML,zds t a1=ML:=⟨_,rfl⟩;rw[hKB] at HKL HKEY HNEW HREF ⊢;rw[hML] at HKL HNEW HREF;obtain⟨f,hf⟩:∃f,cf t KB=f:=⟨_,rfl⟩;obtain⟨Z,hZ⟩:∃Z,szN t=Z:=⟨_,rfl⟩;rw[hf,hZ] at HNEW ⊢;clear hte ht hkm hKB hML hf hZ hr hL hG;go_enter Tryz.func11,Tryz.ntmps11;go_wp2_with fail
 refine HTAG.out.mono ?_;rintro e w1 ⟨rfl,rfl⟩;go_wp2_with fail
 refine HKEY.out.mono ?_;rintro e w2 ⟨v2,rfl,ho2,hx2⟩;obtain⟨A2,c2,rfl,hc2,hr2,_⟩:=ho2.rdcb HKL.out;have HX2:=hid (show Ext w w2 from hx2);have HR2:=hid hr2;have HC2:=hid hc2;clear ho2 hr2 hx2 hc2;go_wp2_with fail
 refine(HNEW.out w2 A2 c2 HR2.out HC2.out HX2.out).mono ?_;rintro e w3 ⟨pc,rfl,hpc,hI,hx3⟩;have HX3:=hid (Ext.trans HX2.out hx3);have HI:=hid hI;have HR3:=hid (HR2.out.later hx3);have HPC:=hid (Nat.le_trans (Below.size HX2.out) hpc);clear hI hx3 hpc HX2 HR2;go_wp2_with fail
 refine(HREF.out w3 A2 c2 HR3.out HC2.out).mono ?_;rintro e w4 ⟨pd,rfl,hx4⟩;have HX4:=hid (Ext.trans HX3.out hx4);have HI4:=hid (HI.out.later hx4);clear hx4 HI HX3;go_wp2_with fail
 go_ret2;exact⟨pc,pd,rfl,HPC.out,HI4.out,HX4.out⟩
def zuz(w:World)(e:Ending)(w':World):Prop:=e=.returned (.bool true)/\Ext w w'
theorem fok[Inhabited D.BT][Inhabited S.RT]{t:Nat}(ht:1<=t/\t<=8)(key:List UInt8)(hk:key.length ∈ zbP t):FOk (cf t key) (szN t) :=
 ⟨by have:=zmB t ht.2;omega,fun back b hb=>ztN ht key back b hb,fun b hb=>(zkZ ht key hk b hb).1⟩
end Go.Proofs.YtokbbmngfogbbaaGreatDoor.C
namespace Go.Proofs.YtokbbmngfogbbaaGreatDoor.C
open Go.RowKit
set_option maxRecDepth 100000
set_option maxHeartbeats 8000000
theorem strq{w:World}{B n c:Nat}{Ab:Option Addr}{bs:List UInt8}(h:Rd w B Ab n bs):(convert 22 9 (.slice Ab n c)).run Tryz.prog w=.ok (.string (str bs)) w :=
 zss (P:=Tryz.prog) w 22 9 (by kernel_rfl) (by kernel_rfl) (by kernel_rfl) _ _ _ c _ h
theorem zuJ(a b:List UInt8):(str a++str b)=str (a++b):=by
 apply ByteArray.ext;simp[str,ByteArray.data_append]
theorem zux(a:List UInt8):(str a).size=a.length:=by simp[str,ByteArray.size]
structure FOk2 (f:Bool->List UInt8->List UInt8) (n:Nat):Prop extends FOk f n where
 dnu:∀b,b.length=n->f false (f true b)=b
def swp(m d n:Nat):Bool:=decide (m=9\/m=8/\d≠n)
section
variable (f:Bool->List UInt8->List UInt8) (n:Nat)
def stX(l p:List UInt8):List UInt8:=f false (_root_.Go.Proofs.YtokbbmngfogbbaaGreatDoor.xorL p l n)
def stQ(q:List UInt8):List UInt8:=q++List.replicate (n-q.length) 0
def stY(x q:List UInt8):List UInt8:=f false (_root_.Go.Proofs.YtokbbmngfogbbaaGreatDoor.xorL (stQ n q) x n)
def thX(l b:List UInt8):List UInt8:=(stX f n l (b.take n)).take (b.length-n)
def thY(l b:List UInt8):List UInt8:=stY f n (stX f n l (b.take n)) (b.drop n)
def bkX(c y:List UInt8):List UInt8:=c++(f true y).drop c.length
def bk(l c y:List UInt8):List UInt8:=_root_.Go.Proofs.YtokbbmngfogbbaaGreatDoor.xorL (f true (bkX f c y)) l n++_root_.Go.Proofs.YtokbbmngfogbbaaGreatDoor.xorL ((f true y).take c.length) c c.length
def zcB(m:Nat)(back:Bool)(l b:List UInt8):List UInt8 :=
 if b.length=n then(if back then _root_.Go.Proofs.YtokbbmngfogbbaaGreatDoor.xorL (f true b) l n else stX f n l b)
 else if back then(if swp m (b.length-n) n then bk f n l (b.drop n) (b.take n) else bk f n l (b.take (b.length-n)) (b.drop (b.length-n)))
 else(if swp m (b.length-n) n then thY f n l b++thX f n l b else thX f n l b++thY f n l b)
end
section
variable {f:Bool->List UInt8->List UInt8} {n:Nat}
theorem zj9(h:FOk f n)(l p:List UInt8):(stX f n l p).length=n:=h.len _ _ (zbK _ _ _)
theorem zn6(h:FOk f n)(l b:List UInt8):(thY f n l b).length=n:=h.len _ _ (zbK _ _ _)
theorem zj4(h:FOk f n)(l b:List UInt8)(hb:b.length<=2*n):(thX f n l b).length=b.length-n:=by
 unfold thX;rw[List.length_take,zj9 h];omega
theorem zno(_h:FOk f n)(l c y:List UInt8):(bk f n l c y).length=n+c.length:=by
 unfold bk;rw[List.length_append,zbK,zbK]
theorem zix(h:FOk f n)(m:Nat)(back:Bool)(l b:List UInt8)(h1:n<=b.length)(h2:b.length<=2*n):(zcB f n m back l b).length=b.length:=by
 have hx:=zj4 h l b h2;have hy:=zn6 h l b;unfold zcB;split
 ·split
  ·rw[zbK];omega
  ·rw[zj9 h];omega
 ·split
  ·split
   ·rw[zno h,List.length_drop];omega
   ·rw[zno h,List.length_take];omega
  ·split
   ·rw[List.length_append];omega
   ·rw[List.length_append];omega
theorem take_len{b:List UInt8}(h:n<=b.length):(b.take n).length=n:=by rw[List.length_take];omega
theorem zqT(a b:List UInt8)(k j:Nat):(_root_.Go.Proofs.YtokbbmngfogbbaaGreatDoor.xorL a b k).getD j 0=if j<k then a.getD j 0^^^b.getD j 0 else 0:=by
 split
 ·exact zfr _ _ _ _ (by assumption)
 ·simp only[List.getD];rw[List.getElem?_eq_none (by rw[zbK];omega)];rfl
theorem getD_take(a:List UInt8)(k j:Nat)(h:j<k):(a.take k).getD j 0=a.getD j 0:=by
 simp only[List.getD];rw[List.getElem?_take,if_pos h]
theorem getD_drop(a:List UInt8)(k j:Nat):(a.drop k).getD j 0=a.getD (k+j) 0:=by
 simp only[List.getD];rw[List.getElem?_drop]
theorem zdO(a b:List UInt8)(j:Nat)(h:j<a.length):(a++b).getD j 0=a.getD j 0:=by
 simp only[List.getD];rw[List.getElem?_append_left h]
theorem zej(a b:List UInt8)(j:Nat)(h:a.length<=j):(a++b).getD j 0=b.getD (j-a.length) 0:=by
 simp only[List.getD];rw[List.getElem?_append_right h]
theorem zvh(q:List UInt8)(h:q.length<=n):(stQ n q).length=n:=by
 unfold stQ;rw[List.length_append,List.length_replicate];omega
theorem zjq(q:List UInt8)(j:Nat)(_h:j<n):(stQ n q).getD j 0=if j<q.length then q.getD j 0 else 0:=by
 unfold stQ;split
 ·exact zdO _ _ _ (by assumption)
 ·rw[zej _ _ _ (by omega)];simp only[List.getD];rw[List.getElem?_replicate];split<;>rfl
theorem zuL(h:FOk f n)(l b:List UInt8)(h1:n<=b.length)(h2:b.length<=2*n):bk f n l (thX f n l b) (thY f n l b)=b:=by
 have hx:=zj4 h l b h2;have hX:=zj9 h l (b.take n);have hq:(b.drop n).length<=n:=by rw[List.length_drop];omega
 have e0:f true (thY f n l b)=_root_.Go.Proofs.YtokbbmngfogbbaaGreatDoor.xorL (stQ n (b.drop n)) (stX f n l (b.take n)) n:=h.und _ (zbK _ _ _);have e1:bkX f (thX f n l b) (thY f n l b)=stX f n l (b.take n):=by
  unfold bkX;rw[e0,hx];refine zpX (n:=n) ?_ hX fun k hk=>?_
  ·rw[List.length_append,hx,List.length_drop,zbK];omega
  ·by_cases hd:k<b.length-n
   ·rw[zdO _ _ _ (by omega)];exact getD_take _ _ _ hd
   ·rw[zej _ _ _ (by omega),hx,getD_drop,zqT,if_pos (by omega),zjq _ _ (by omega),List.length_drop,if_neg (by omega),UInt8.zero_xor];congr 1;omega
 have e2:_root_.Go.Proofs.YtokbbmngfogbbaaGreatDoor.xorL (f true (stX f n l (b.take n))) l n=b.take n:=by unfold stX;rw[h.und _ (zbK _ _ _),zeJ _ _ _ (take_len h1)]
 unfold bk;rw[e1,e2,e0,hx];have e3:_root_.Go.Proofs.YtokbbmngfogbbaaGreatDoor.xorL ((_root_.Go.Proofs.YtokbbmngfogbbaaGreatDoor.xorL (stQ n (b.drop n)) (stX f n l (b.take n)) n).take (b.length-n)) (thX f n l b) (b.length-n)=b.drop n:=by
  refine zpX (n:=b.length-n) (zbK _ _ _) List.length_drop fun k hk=>?_
  rw[zfr _ _ _ _ hk,getD_take _ _ _ hk,zfr _ _ _ _ (by omega),zjq _ _ (by omega),List.length_drop,if_pos hk];unfold thX;rw[getD_take _ _ _ hk,UInt8.xor_assoc,UInt8.xor_self,UInt8.xor_zero]
 rw[e3,List.take_append_drop]
theorem zuo(h:FOk2 f n)(l c y:List UInt8)(hc:c.length<=n)(hy:y.length=n):thX f n l (bk f n l c y)=c/\thY f n l (bk f n l c y)=y:=by
 have hl:=zno h.toFOk l c y;have hz:=h.len true y hy;have hX:(bkX f c y).length=n:=by unfold bkX;rw[List.length_append,List.length_drop,hz];omega
 have hp:(bk f n l c y).take n=_root_.Go.Proofs.YtokbbmngfogbbaaGreatDoor.xorL (f true (bkX f c y)) l n:=by unfold bk;rw[List.take_append_of_le_length (by rw[zbK];omega),List.take_of_length_le (by rw[zbK];omega)]
 have hq:(bk f n l c y).drop n=_root_.Go.Proofs.YtokbbmngfogbbaaGreatDoor.xorL ((f true y).take c.length) c c.length:=by unfold bk;exact List.drop_left' (zbK _ _ _)
 have e1:stX f n l ((bk f n l c y).take n)=bkX f c y:=by unfold stX;rw[hp,zeJ _ _ _ (h.len true _ hX),h.dnu _ hX]
 constructor
 ·unfold thX;rw[e1,hl,Nat.add_sub_cancel_left];unfold bkX;rw[List.take_left' rfl]
 ·unfold thY stY;rw[e1,hq];have e2:_root_.Go.Proofs.YtokbbmngfogbbaaGreatDoor.xorL (stQ n (_root_.Go.Proofs.YtokbbmngfogbbaaGreatDoor.xorL ((f true y).take c.length) c c.length)) (bkX f c y) n=f true y:=by
   refine zpX (n:=n) (zbK _ _ _) hz fun k hk=>?_
   rw[zfr _ _ _ _ hk,zjq _ _ hk,zbK];unfold bkX;split
   ·rename_i hd;rw[zfr _ _ _ _ hd,getD_take _ _ _ hd,zdO _ _ _ hd,UInt8.xor_assoc,UInt8.xor_self,UInt8.xor_zero]
   ·rw[zej _ _ _ (by omega),getD_drop,UInt8.zero_xor];congr 1;omega
  rw[e2,h.dnu _ hy]
theorem zm8(m:Nat)(l:List UInt8){b:List UInt8}(hn:b.length=n):zcB f n m false l b=stX f n l b:=by unfold zcB;rw[if_pos hn];rfl
theorem zm(m:Nat)(l:List UInt8){b:List UInt8}(hn:b.length=n):zcB f n m true l b=_root_.Go.Proofs.YtokbbmngfogbbaaGreatDoor.xorL (f true b) l n:=by unfold zcB;rw[if_pos hn];rfl
theorem zfU(m:Nat)(l:List UInt8){b:List UInt8}(hn:b.length≠n):zcB f n m false l b=if swp m (b.length-n) n then thY f n l b++thX f n l b else thX f n l b++thY f n l b:=by unfold zcB;rw[if_neg hn];rfl
theorem zhY(m:Nat)(l:List UInt8){b:List UInt8}(hn:b.length≠n):zcB f n m true l b=if swp m (b.length-n) n then bk f n l (b.drop n) (b.take n) else bk f n l (b.take (b.length-n)) (b.drop (b.length-n)):=by unfold zcB;rw[if_neg hn];rfl
theorem ztz(h:FOk f n)(m:Nat)(l b:List UInt8)(h1:n<=b.length)(h2:b.length<=2*n):zcB f n m true l (zcB f n m false l b)=b:=by
 have hl:=zix h m false l b h1 h2;have hx:=zj4 h l b h2;have hy:=zn6 h l b;have hb:=zuL h l b h1 h2;by_cases hn:b.length=n
 ·rw[zm m l (by rw[hl];exact hn),zm8 m l hn];unfold stX;rw[h.und _ (zbK _ _ _),zeJ _ _ _ hn]
 ·rw[zhY m l (by rw[hl];exact hn),hl,zfU m l hn];by_cases hs:swp m (b.length-n) n=true
  ·rw[if_pos hs,if_pos hs,List.drop_left' hy,List.take_left' hy,hb]
  ·rw[if_neg hs,if_neg hs,List.drop_left' hx,List.take_left' hx,hb]
theorem ztU(h:FOk2 f n)(m:Nat)(l b:List UInt8)(h1:n<=b.length)(h2:b.length<=2*n):zcB f n m false l (zcB f n m true l b)=b:=by
 have hl:=zix h.toFOk m true l b h1 h2;by_cases hn:b.length=n
 ·rw[zm8 m l (by rw[hl];exact hn),zm m l hn];unfold stX;rw[zeJ _ _ _ (h.len true _ hn),h.dnu _ hn]
 ·rw[zfU m l (by rw[hl];exact hn),hl,zhY m l hn];by_cases hs:swp m (b.length-n) n=true
  ·obtain⟨e1,e2⟩:=zuo h l (b.drop n) (b.take n) (by rw[List.length_drop];omega) (take_len h1);rw[if_pos hs,if_pos hs,e1,e2,List.take_append_drop]
  ·obtain⟨e1,e2⟩:=zuo h l (b.take (b.length-n)) (b.drop (b.length-n)) (by rw[List.length_take];omega) (by rw[List.length_drop];omega);rw[if_neg hs,if_neg hs,e1,e2,List.take_append_drop]
theorem zuw(l b:List UInt8)(hn:b.length≠n):zcB f n 7 false l b=thX f n l b++thY f n l b:=by
 rw[zfU _ _ hn];rfl
theorem zsB(l b:List UInt8)(hn:b.length≠n):zcB f n 9 false l b=thY f n l b++thX f n l b:=by
 rw[zfU _ _ hn];rfl
theorem zuv(l b:List UInt8)(hn:b.length≠n):zcB f n 8 false l b=if b.length-n=n then thX f n l b++thY f n l b else thY f n l b++thX f n l b:=by
 rw[zfU _ _ hn];unfold swp;by_cases hd:b.length-n=n
 ·simp[hd]
 ·simp[hd]
theorem zrU(h:FOk2 f n)(l b:List UInt8)(h1:n<b.length)(h2:b.length<=2*n)(i:Nat)(hi:i<b.length-n)(y:UInt8):
  (∀j,j<b.length-n->(zcB f n 7 true l b).getD (n+j) 0^^^(zcB f n 7 true l (b.set i (b.getD i 0^^^y))).getD (n+j) 0=if j=i then y else 0) /\
  ((zcB f n 7 true l b).take n=(zcB f n 7 true l (b.set i (b.getD i 0^^^y))).take n↔y=0):=by
 obtain⟨d,hd⟩:∃d,b.length-n=d:=⟨_,rfl⟩;obtain⟨b',hb'⟩:∃b',b.set i (b.getD i 0^^^y)=b':=⟨_,rfl⟩;have hl':b'.length=b.length:=by rw[<-hb'];exact List.length_set
 have e1:zcB f n 7 true l b=bk f n l (b.take d) (b.drop d):=by rw[zhY _ _ (by omega),hd];rfl
 have e2:zcB f n 7 true l b'=bk f n l (b'.take d) (b.drop d):=by
  have:b'.drop d=b.drop d:=by rw[<-hb',List.drop_set_of_lt (by omega)]
  rw[zhY _ _ (by omega),hl',hd,<-this];rfl
 have g1:(b.take d).length=d:=by rw[List.length_take];omega
 have g2:(b'.take d).length=d:=by rw[List.length_take];omega
 have gy:(b.drop d).length=n:=by rw[List.length_drop];omega
 have hz:=h.len true _ gy;have get':∀j,b'.getD j 0=if j=i then b.getD i 0^^^y else b.getD j 0:=fun j=>by
  rw[<-hb'];simp only[List.getD];rw[List.getElem?_set];split
  ·subst_vars
   rw[if_pos (by omega),if_pos rfl];rfl
  ·rw[if_neg (fun e=>by omega)]
 rw[hb',e1,e2,hd];have q:∀c:List UInt8,c.length=d->∀j,j<d->(bk f n l c (b.drop d)).getD (n+j) 0=(f true (b.drop d)).getD j 0^^^c.getD j 0:=fun c hc j hj=>by unfold bk;rw[zej _ _ _ (by rw[zbK];omega),zbK,Nat.add_sub_cancel_left,hc,zfr _ _ _ _ hj,getD_take _ _ _ hj]
 have p:∀c:List UInt8,c.length=d->(bk f n l c (b.drop d)).take n=_root_.Go.Proofs.YtokbbmngfogbbaaGreatDoor.xorL (f true (bkX f c (b.drop d))) l n:=fun c hc=>by unfold bk;rw[List.take_append_of_le_length (by rw[zbK];omega),List.take_of_length_le (by rw[zbK];omega)]
 have xl:∀c:List UInt8,c.length=d->(bkX f c (b.drop d)).length=n:=fun c hc=>by unfold bkX;rw[List.length_append,List.length_drop,hz];omega
 constructor
 ·intro j hj;rw[q _ g1 j hj,q _ g2 j hj,getD_take _ _ _ hj,getD_take _ _ _ hj,get' j];split
  ·subst_vars
   generalize (f true _).getD _ 0=u;generalize b.getD _ 0=v;rw[<-UInt8.xor_assoc u v y,<-UInt8.xor_assoc,UInt8.xor_self,UInt8.zero_xor]
  ·generalize (f true _).getD _ 0=u;rw[UInt8.xor_self]
 ·rw[p _ g1,p _ g2];constructor
  ·intro e;have e3:=congrArg (fun z=>f false (_root_.Go.Proofs.YtokbbmngfogbbaaGreatDoor.xorL z l n)) e
   (try dsimp only at e3)
   rw[zeJ _ _ _ (h.len true _ (xl _ g1)),zeJ _ _ _ (h.len true _ (xl _ g2)),h.dnu _ (xl _ g1),h.dnu _ (xl _ g2)] at e3;have e4:=congrArg (fun z=>z.getD i 0) e3
   (try dsimp only at e4)
   unfold bkX at e4;rw[zdO _ _ _ (by omega),zdO _ _ _ (by omega),getD_take _ _ _ (by omega),getD_take _ _ _ (by omega),get' i,if_pos rfl] at e4;have e5:=congrArg (fun z=>b.getD i 0^^^z) e4
   (try dsimp only at e5)
   rw[UInt8.xor_self,<-UInt8.xor_assoc,UInt8.xor_self,UInt8.zero_xor] at e5;exact e5.symm
  ·intro e;have:b'=b:=by
    rw[<-hb',e,UInt8.xor_zero];apply List.ext_getElem?;intro k;have hib:i<b.length:=by omega
    rw[List.getElem?_set];by_cases hk:i=k
    ·rw[if_pos hk,if_pos hib,<-hk,List.getElem?_eq_getElem hib];simp[List.getD,hib]
    ·rw[if_neg hk]
   rw[this]
end
theorem fok2[Inhabited D.BT][Inhabited S.RT]{t:Nat}(ht:1<=t/\t<=8)(key:List UInt8)(hk:key.length ∈ zbP t):FOk2 (cf t key) (szN t) :=
 { fok ht key hk with dnu:=fun b hb=>(zkZ ht key hk b hb).2 }
theorem zuy[Inhabited D.BT][Inhabited S.RT](a0 a1:Int)(ks:List UInt8):∃(f:Bool->List UInt8->List UInt8) (n:Nat),FOk2 f n/\n<=16 /\
  ∀Ak L c w,GC w->Rd w w.heap.size Ak L ks->L<=9223372036854775807->Calls Tryz.prog 11 #[.int .i64 a0,.int .i64 a1,.slice Ak L c] w (zof w n f) :=
 ⟨_,_,fok2 (zhS a0) (keyB (tagF a0) a1 ks) (by rw[zkQ];exact zeK (zhS a0) a1),zvp (tagF a0) (zhS a0).2,fun Ak L c w hG hr hL=>zsJ a0 a1 Ak L c ks w hG hr hL⟩
end Go.Proofs.YtokbbmngfogbbaaGreatDoor.C
