/- Own lemmas of the verifier on memory, numbers and the functions that the laws call; no statement is proved here. -/
import Derived.Test.YtokbbmngfogbbaaGreatDoorQA1
import Derived.RegionTactic
import Derived.Deep.OwnRows
import Derived.Lib.AppendZerosOnto
import Derived.Laws.CopyRow
namespace Go.Proofs.YtokbbmngfogbbaaGreatDoor.A
open Go.RowKit
set_option maxRecDepth 100000
set_option maxHeartbeats 8000000
theorem zlv{w:World}{base g n c:Nat}{bs:List UInt8}(h:w.ownsRow base 166 16 (.slice (some ⟨g,0,none⟩) n c) n (cellsOf bs)):RW w g 0 bs:=by
 rcases h.2 with⟨h1,_⟩|⟨g',cap,cur,h1,_,hh,hnc,_,hsz,htk⟩
 ·cases h1
 ·simp only[Value.slice.injEq,Option.some.injEq,Addr.mk.injEq,and_true] at h1;obtain⟨rfl,_,rfl⟩:=h1;have hl:(cellsOf bs).length=n*16:=h.1;have hc:∀k v,(cellsOf bs)[k]? = some v->w.cell? ⟨g,0+k,none⟩=some v:=fun k v hv=>by
   rw[Nat.zero_add,cell_of_row w g k _ 166 _ hh,<-Array.getElem?_toList];rw[<-htk,List.getElem?_take] at hv;split at hv
   ·exact hv
   ·cases hv
  refine⟨hc,fun j hj=>⟨?_,frozen_of_row w g _ _ 166 hh⟩⟩;rw[hc j _ (zam bs j hj)];rfl
theorem zp0(K n c:Nat)(w:World):(binOp .eql 171 (.slice (some ⟨K,0,none⟩) n c) (.slice none 0 0)).run Tryz.prog w=.ok (.bool false) w:=by
 simp[binOp,run_equal_slice_nil w 171 166 (some ⟨K,0,none⟩) n c Tryz.underlying171]
theorem zl4(K n c:Nat)(bs:List UInt8)(w:World)(h:RW w K 0 bs)(hl:bs.length=n*16)(h0:0<n)(hn:n<=1000):
  Calls Tryz.prog 137 #[.slice (some ⟨K,0,none⟩) n c] w fun e w'=>∃g cap,e=.returned (.slice (some ⟨g,0,none⟩) n cap)/\w.heap.size<=g/\RW w' g 0 bs/\Ext w w':=by
 have HOP:=hid (zp0 K n c);obtain⟨i0,hi0,hz0,hz1,hz2⟩:=info_parts zty;have HI:=hid hi0;have HZ:=hid (And.intro hz0 (And.intro hz1 hz2));have hx:=Ext.alloc w (.cells #[] 166);have hr:=(h.later (by omega) hx).rd;have hown:(w.alloc (.cells #[] 166)).ownsRow w.heap.size 166 16 (.slice (some ⟨w.heap.size,0,none⟩) 0 0) 0 [] :=
  ⟨rfl,.inr ⟨w.heap.size,0,#[],rfl,Nat.le_refl _,heap_alloc_new w _,Nat.le_refl _,by unfold maxLen;omega,rfl,rfl⟩⟩
 have HR:=hid hr;have HO:=hid hown;have HX:=hid hx;have HL:=hid hl;have HB:=hid hx.size;clear h hi0 hz0 hz1 hz2 hx hr hown hl;go_enter Tryz.func137,Tryz.ntmps137;go_wp2_with fail
 rw[HOP.out];simp only[Result.andThen];rw[Oper.upon_value];go_wp2_with (at_builtin;refine wpList_append_own _ rfl (.tmp 5) (.tmp 6) 171 rfl w.heap.size 166 i0 _ 16 16 Tryz.underlying171 HI.out HZ.out.1 HZ.out.2.1 HZ.out.2.2 rfl (by omega) _ 0 [] rfl HO.out ⟨K,0,none⟩ n c (cellsOf bs) rfl (by rw[zaa];exact HL.out) (fun j u hu=>by rw[Addr.add_mid];exact HR.out j u hu) (zby bs) (by unfold maxLen;omega) (by omega) HB.out ?_;intro v2 w2 hown2 hg2 hnil)
 have hb2:Below w.heap.size w w2:=Below.grown HX.out hg2 HX.out.size fun k e=>by have e2:some w.heap.size=some k:=e;cases e2;exact Nat.le_refl _
 go_ret;rw[Nat.zero_add,List.nil_append] at hown2;rcases hown2.2 with⟨_,h1⟩|⟨g,cap,cur,rfl,hg,_⟩
 ·omega
 ·exact⟨g,cap,rfl,hg,zlv hown2,hb2⟩
def revF(f:Nat->List UInt8)(n k j:Nat):List UInt8:=if j<k\/n-k<=j then f (n-1-j) else f j
theorem zmT(f:Nat->List UInt8)(n:Nat):FL (revF f n 0) n=FL f n:=zb7 fun j hj=>by
 unfold revF;rw[if_neg (by omega)]
theorem zny(f:Nat->List UInt8)(n k m:Nat)(h:m+k+1=n)(hkm:k<m):FL (fun j=>if j=m then f k else(if j=k then f m else revF f n k j)) n=FL (revF f n (k+1)) n:=zb7 fun j hj=>by
 unfold revF;by_cases h1:j=m
 ·subst h1;rw[if_pos rfl,if_pos (by omega),show n-1-j=k by omega]
 ·by_cases h2:j=k
  ·subst h2;rw[if_neg h1,if_pos rfl,if_pos (by omega),show n-1-j=m by omega]
  ·rw[if_neg h1,if_neg h2];by_cases h3:j<k\/n-k<=j
   ·rw[if_pos h3,if_pos (by omega)]
   ·rw[if_neg h3,if_neg (by omega)]
theorem znz(f:Nat->List UInt8)(n k m:Nat)(h:m+k+1=n)(hkm:¬k<m):FL (revF f n k) n=FL (fun j=>f (n-1-j)) n:=zb7 fun j hj=>by
 unfold revF;by_cases h3:j<k\/n-k<=j
 ·rw[if_pos h3]
 ·rw[if_neg h3,show n-1-j=j by omega]
structure RV (w0:World) (K n k m:Nat) (f:Nat->List UInt8) (FK FM:List UInt8) (w:World):Prop where
 rw:RW w K 0 (FL (revF f n k) n)
 fk:w.rangeAt K (k*16) (cellsOf FK)
 fm:w.rangeAt K (m*16) (cellsOf FM)
 b:Below K w0 w
theorem RV.ext{w0 w w':World}{K n k m:Nat}{f:Nat->List UInt8}{FK FM:List UInt8}(hx:Ext w w')(hn:0<n)(h:RV w0 K n k m f FK FM w):RV w0 K n k m f FK FM w' :=
 have hK:=h.rw.lt (by rw[zaq];omega)
 ⟨h.rw.later (by rw[zaq];omega) hx,zaj h.fk hx,zaj h.fm hx,h.b.trans (hx.mono (Nat.le_of_lt hK))⟩
structure RV2 (w0:World) (K n k m:Nat) (f:Nat->List UInt8) (FM:List UInt8) (w:World):Prop where
 rw:RW w K 0 (FL (fun j=>if j=k then FM else revF f n k j) n)
 b:Below K w0 w
theorem RV2.ext{w0 w w':World}{K n k m:Nat}{f:Nat->List UInt8}{FM:List UInt8}(hx:Ext w w')(hn:0<n)(h:RV2 w0 K n k m f FM w):RV2 w0 K n k m f FM w' :=
 have hK:=h.rw.lt (by rw[zaq];omega)
 ⟨h.rw.later (by rw[zaq];omega) hx,h.b.trans (hx.mono (Nat.le_of_lt hK))⟩
def zvk(K n c k m:Nat)(FK FM:List UInt8):List Go.Proofs.YtokbbmngfogbbaaGreatDoor.K:=[.eq (.slice (some ⟨K,0,none⟩) n c),.eq (.int .i64 k),.eq (.slice (some ⟨K,0,none⟩) n c),.eq (.int .i64 m),.eq (.slice (some ⟨K,0,none⟩) n c),.eq (.int .i64 m),.eq (.pointer (some ⟨K,m*16,none⟩)),.eq (bv FM),.eq (.slice (some ⟨K,0,none⟩) n c),.eq (.int .i64 k),.eq (.pointer (some ⟨K,k*16,none⟩)),.eq (bv FK),.eq (.pointer (some ⟨K,k*16,none⟩)),.any,.eq (.pointer (some ⟨K,m*16,none⟩)),.any]
theorem zr1{ks:List Go.Proofs.YtokbbmngfogbbaaGreatDoor.K}(h:ks.all (fun k=>match k with | .eq _=>true | .any=>true|_=>false)=true){w w':World}(i:Nat)(v:Value)(hv:kV ks i w v):kV ks i w' v:=by
 unfold kV at hv ⊢;by_cases hi:i<ks.length
 ·have h1:=List.all_eq_true.1 h _ (List.getElem_mem hi);have e:ks.getD i .any=ks[i]:=by simp[List.getD_eq_getElem?_getD,hi]
  rw[e] at hv ⊢;cases hk:ks[i]<;>rw[hk] at h1 hv<;>first|exact hv|trivial|cases h1
 ·have e:ks.getD i .any=.any:=by simp[List.getD_eq_getElem?_getD,List.getElem?_eq_none (show ks.length<=i by omega)]
  rw[e];trivial
theorem zjw(K n c:Nat)(f:Nat->List UInt8)(w:World)(h:RW w K 0 (FL f n))(hf:∀j,j<n->(f j).length=16)(h0:2<=n)(hn:n<=1000):
  Calls Tryz.prog 138 #[.slice (some ⟨K,0,none⟩) n c] w fun e w'=>e=.returned (.tuple #[])/\RW w' K 0 (FL (fun j=>f (n-1-j)) n)/\Below K w w':=by
 have HR:=hid h;have HF:=hid hf;have HN0:=hid (show 0<n by omega);have HN1:=hid hn;have hn1:(n:Int)-1=((n-1:Nat):Int):=by omega
 have hni:(n:Int)<=1000:=by omega
 obtain⟨n1,hn2⟩:∃n1,n-1=n1:=⟨_,rfl⟩;rw[hn2] at hn1;have HN2:=hid hn2;clear h hf hn2;go_enter Tryz.func138,Tryz.ntmps138;go_wp2_with fail
 go_loopw [2,3] (fun i j wr=>∃k m:Nat,k<=n/2/\m+k+1=n/\i=.int .i64 k/\j=.int .i64 m/\RW wr K 0 (FL (revF f n k) n)/\Below K w wr) (fun _ j _=>(intOf j).toNat)
 case atStart=>exact⟨0,n1,by omega,by have:=HN2.out;omega,rfl,rfl,by rw[zmT];exact HR.out,Below.refl _ _⟩
 case round =>
  obtain⟨k,m,hk,hkm,rfl,rfl,hr,hb⟩:=hrel;clear hn1 hni;by_cases hlt:k<m
  ·have HKM:=hid (And.intro hkm hlt);have hkl:=HF.out k (by omega);have hml:=HF.out m (by omega);have hbk:=hr.blk k (by omega) (by unfold revF;rw[if_neg (by omega)];exact hkl);have hbm:=hr.blk m (by omega) (by unfold revF;rw[if_neg (by omega)];exact hml);rw[show revF f n k k=f k by unfold revF;rw[if_neg (by omega)]] at hbk;rw[show revF f n k m=f m by unfold revF;rw[if_neg (by omega)]] at hbm;obtain⟨FK,hFK⟩:∃FK,f k=FK:=⟨_,rfl⟩;obtain⟨FM,hFM⟩:∃FM,f m=FM:=⟨_,rfl⟩;rw[hFK] at hbk hkl;rw[hFM] at hbm hml;have HFL:=hid (And.intro hkl hml);have HFE:=hid (And.intro hFK hFM);have HRV:=hid (show RV w K n k m f FK FM wr from⟨hr,hbk.rd,hbm.rd,hb⟩);have HK2:=hid (show k+1<=n/2 by omega);have hlti:(k:Int)<(m:Int):=by omega
   clear hr hb hbk hbm hFK hFM hkl hml hkm hk;go_wp2_with fail
   refine zm3 15 13 _ (RV w K n k m f FK FM) (RV2 w K n k m f FM) mixed rfl (by kernel_rfl) (by kernel_rfl) (by kernel_rfl) (by omega) rfl rfl (kV (zvk K n c k m FK FM)) (zdA _) (fun _ _ hx h=>h.ext hx HN0.out) (fun _ _ hx h=>h.ext hx HN0.out) HRV.out (zab ⟨?_,?_,?_,?_,?_,?_,?_,?_,?_,?_,?_,?_,?_,?_,?_,trivial⟩) ?_ ?_
   ·intro _ a w hk hI hq;have s0:a.tmps.getD 0 undef=.slice (some ⟨K,0,none⟩) n c:=hk.was 0;exact zau rfl rfl s0 rfl
   ·intro _ a w hk hI hq;have s2:a.tmps.getD 2 undef=.int .i64 k:=hk.was 2;exact zau rfl rfl s2 rfl
   ·intro _ a w hk hI hq;have s0:a.tmps.getD 0 undef=.slice (some ⟨K,0,none⟩) n c:=hk.was 0;exact zau rfl rfl s0 rfl
   ·intro _ a w hk hI hq;have s3:a.tmps.getD 3 undef=.int .i64 m:=hk.was 3;exact zau rfl rfl s3 rfl
   ·intro _ a w hk hI hq;have s0:a.tmps.getD 0 undef=.slice (some ⟨K,0,none⟩) n c:=hk.was 0;exact zau rfl rfl s0 rfl
   ·intro _ a w hk hI hq;have s3:a.tmps.getD 3 undef=.int .i64 m:=hk.was 3;exact zau rfl rfl s3 rfl
   ·intro _ a w hk hI hq;have s18:=hk.eq_ 4 18;have s19:=hk.eq_ 5 19;refine za ?_;have hi3:(m:Int)<n:=by have:=HKM.out;omega
    go_simp
   ·intro _ a w hk hI hq;have s20:=hk.eq_ 6 20;exact zai (v:=bv FM) (w':=w) rfl (zaN rfl s20 (hq (by kernel_rfl)).fm Tryz.underlying166 (zaB HFL.out.2)) (Ext.refl w) rfl
   ·intro _ a w hk hI hq;have s0:a.tmps.getD 0 undef=.slice (some ⟨K,0,none⟩) n c:=hk.was 0;exact zau rfl rfl s0 rfl
   ·intro _ a w hk hI hq;have s2:a.tmps.getD 2 undef=.int .i64 k:=hk.was 2;exact zau rfl rfl s2 rfl
   ·intro _ a w hk hI hq;have s22:=hk.eq_ 8 22;have s23:=hk.eq_ 9 23;refine za ?_;have hi3:(k:Int)<n:=by have:=HKM.out;omega
    go_simp
   ·intro _ a w hk hI hq;have s24:=hk.eq_ 10 24;exact zai (v:=bv FK) (w':=w) rfl (zaN rfl s24 (hq (by kernel_rfl)).fk Tryz.underlying166 (zaB HFL.out.1)) (Ext.refl w) rfl
   ·intro _ a w hk hI hq;have s14:=hk.eq_ 0 14;have s15:=hk.eq_ 1 15;refine za ?_;have hi3:(k:Int)<n:=by have:=HKM.out;omega
    go_simp
   ·intro h;exact absurd rfl h
   ·intro _ a w hk hI hq;have s16:=hk.eq_ 2 16;have s17:=hk.eq_ 3 17;refine za ?_;have hi3:(m:Int)<n:=by have:=HKM.out;omega
    go_simp
   ·intro a w1 hk hI;have s26:=hk.eq_ 12 26;have s21:=hk.eq_ 7 21;refine zbV 166 (.tmp 26) (.tmp 21) rfl rfl K (k*16) FM s26 s21 (fun j hj=>by have h2:=hI.rw.wr (k*16+j) (by rw[zaq];rw[HFL.out.2] at hj;have:=HKM.out;omega);rwa[Nat.zero_add] at h2) (zaB HFL.out.2) ?_;refine⟨undef,rfl,⟨?_,below_setCells (Nat.le_refl _) _ _ _ hI.b⟩,trivial,fun i v _ hv=>zr1 (by kernel_rfl) i v hv⟩;exact hI.rw.setBlk k FM (by have:=HKM.out;omega) HFL.out.2
   ·intro a w1 hf hI2;have s14:=hf.eq_ 0 14;have s15:=hf.eq_ 1 15;have s16:=hf.eq_ 2 16;have s17:=hf.eq_ 3 17;have s18:=hf.eq_ 4 18;have s19:=hf.eq_ 5 19;have s20:=hf.eq_ 6 20;have s21:=hf.eq_ 7 21;have s22:=hf.eq_ 8 22;have s23:=hf.eq_ 9 23;have s24:=hf.eq_ 10 24;have s25:=hf.eq_ 11 25;have s26:=hf.eq_ 12 26;have s27:=hf.eq_ 14 27;have hx:=hf.ext;have e:=hf.frame;clear hf;simp only[List.take_succ_cons,List.take_zero,zaT,Act.put,List.setIfInBounds_toArray,List.set_cons_zero,List.set_cons_succ,s14,s15,s16,s17,s18,s19,s20,s21,s22,s23,s24,s25,s26,s27] at e;clear s14 s15 s16 s17 s18 s19 s20 s21 s22 s23 s24 s25 s26 s27;subst e;simp only[List.drop_succ_cons,List.drop_zero];have hz:=hI2.rw.setBlk m FK (by have:=HKM.out;omega) HFL.out.1;rw[<-HFE.out.1,<-HFE.out.2,zny f n k m HKM.out.1 HKM.out.2,HFE.out.1] at hz
    have hzb:=below_setCells (B:=K) (b:=K) (a:=w) (Nat.le_refl _) (cellsOf FK) (m*16) w1 hI2.b;have HTH:=hid (show w1.there K (m*16) FK.length from fun j hj=>by have h2:=hI2.rw.wr (m*16+j) (by rw[zaq];rw[HFL.out.1] at hj;have:=HKM.out;omega);rwa[Nat.zero_add] at h2);have HSZ:=hid (zaB HFL.out.1);have HZ:=hid (And.intro hz hzb);clear hz hzb hI2 hx;obtain⟨W7,hW7⟩:∃W7,w1.setCells K (m*16) (cellsOf FK)=W7:=⟨_,rfl⟩;rw[hW7] at HZ;have HW7:=hid hW7;clear hW7;obtain⟨m1,hm1⟩:∃m1,m=m1+1:=⟨m-1,by have:=HKM.out;have:=HK2.out;omega⟩;have HM1:=hid hm1;have hmi:(m:Int)-1=(m1:Int):=by omega
    have hmr:(m:Int)<=1000:=by have:=HKM.out;have:=HN1.out;omega
    clear hm1;go_wp2_with (refine zaY rfl 166 (.tmp 27) (.tmp 25) rfl K (m*16) FK rfl rfl HTH.out HSZ.out ?_;rw[HW7.out];clear HTH HW7)
    go_roundw
    case rel=>exact⟨k+1,m1,by have:=HKM.out;have:=HK2.out;omega,by have:=HKM.out;have:=HM1.out;omega,by go_num,rfl,HZ.out⟩
    case measure=>simp[intOf];have:=HKM.out;have:=HM1.out;omega
  ·rw[znz f n k m hkm hlt] at hr;have HH:=hid (And.intro hr hb);have hnk:¬((k:Int)<(m:Int)):=by omega
   clear hr hb;go_wp2_with fail
   exact bodyPost_end (results_none rfl _ _ _) rfl ⟨rfl,HH.out.1,HH.out.2⟩
def uS(f:Nat->List UInt8)(r i j:Nat):List UInt8:=if 0<j/\j<i then mixL (f (r-j)) else f (r-j)
theorem zsR(f:Nat->List UInt8)(n:Nat):FL (fun j=>f (n-1-j)) n=FL (uS f (n-1) 1) n:=zb7 fun j _=>by
 unfold uS;rw[if_neg (by omega)]
theorem zrx(f:Nat->List UInt8)(r i n:Nat)(hi:0<i):FL (fun k=>if k=i then mixL (f (r-i)) else uS f r i k) n=FL (uS f r (i+1)) n:=zb7 fun j _=>by
 unfold uS;by_cases h:j=i
 ·subst h;rw[if_pos rfl,if_pos (by omega)]
 ·rw[if_neg h];by_cases h2:0<j/\j<i
  ·rw[if_pos h2,if_pos (by omega)]
  ·rw[if_neg h2,if_neg (by omega)]
theorem ztS{f:Nat->List UInt8}{n:Nat}(hf:∀j,j<n->(f j).length=16)(h0:0<n)(i j:Nat):(uS f (n-1) i j).length=16:=by
 unfold uS;split
 ·exact zaA _
 ·exact hf _ (by omega)
theorem zd6(K n c:Nat)(f:Nat->List UInt8)(w:World)(h:RW w K 0 (FL f n))(hf:∀j,j<n->(f j).length=16)(h2:2<=n)(hn:n<=1000)(hs:Sev w):
  Calls Tryz.prog 92 #[.slice (some ⟨K,0,none⟩) n c] w fun e w'=>∃g cap,e=.returned (.slice (some ⟨g,0,none⟩) n cap)/\w.heap.size<=g/\RW w' g 0 (FL (zbo f (n-1)) n)/\Ext w w':=by
 have HC:=hid (zl4 K n c (FL f n) w h (zaq _ _) (by omega) hn);have HF:=hid hf;have HSV:=hid hs;obtain⟨n1,hn1⟩:∃n1,n-1=n1:=⟨_,rfl⟩;have hni:(n:Int)-1=(n1:Int):=by omega
 have hn3:(n:Int)<=1000:=by omega
 have hn2:n=n1+1:=by omega
 have HN:=hid hn2;have HN1:=hid hn1;have HN2:=hid (And.intro h2 hn);clear h hf hs hn1 hn2;go_enter Tryz.func92,Tryz.ntmps92;go_wp2_with fail
 refine HC.out.mono ?_;rintro e w1 ⟨g,cap,rfl,hg,hr,hx1⟩;have HC2:=hid (zjw g n cap f w1 hr HF.out HN2.out.1 HN2.out.2);have HX1:=hid hx1;have HG:=hid hg;have HGL:=hid (hr.lt (by rw[zaq];omega));clear HC hg hr hx1;go_wp2_with fail
 refine HC2.out.mono ?_;rintro e w2 ⟨rfl,hr2,hb2⟩;have hx2:Ext w w2:=Below.trans HX1.out (hb2.mono HG.out);rw[zsR] at hr2;have HQ:=hid (And.intro hr2 hx2);clear HC2 HX1 hr2 hb2 hx2;go_wp2_with fail
 go_loopw [4] (fun v wr=>∃i:Nat,0<i/\i<=n1/\v=.int .i64 i/\RW wr g 0 (FL (uS f (n-1) i) n)/\Ext w wr) (fun v _=>n1-(intOf v).toNat)
 case atStart=>exact⟨1,by omega,by have:=HN.out;omega,rfl,HQ.out⟩
 case round =>
  clear HQ;obtain⟨i,hi0,hi,rfl,hr,hx⟩:=hrel;by_cases hlt:i<n1
  ·have hfl:=ztS HF.out (by omega) i i;have hbi:=hr.blk i (by have:=HN.out;omega) hfl;have hui:uS f (n-1) i i=f (n-1-i):=by unfold uS;rw[if_neg (by omega)]
   rw[hui] at hbi hfl;obtain⟨FI,hFI⟩:∃FI,f (n-1-i)=FI:=⟨_,rfl⟩;rw[hFI] at hbi hfl;have HFI:=hid hFI;have HL:=hid hfl;have HB:=hid hbi.rd;have HSZ:=hid (zaB hfl);have HSM:=hid (zaB (zaA FI));have HC3:=hid (zc5 FI wr hfl (HSV.out.later hx));have HR:=hid hr;have HX:=hid hx;have hlti:(i:Int)<(n1:Int):=by omega
   have hin:(i:Int)<(n:Int):=by have:=HN.out;omega
   clear hr hx hbi hfl hui hFI;go_wp2_with (refine zaI rfl 166 (.tmp 20) rfl g (i*16) rfl FI HB.out Tryz.underlying166 HSZ.out ?_)
   refine HC3.out.mono ?_;rintro e w3 ⟨rfl,hx3⟩;have hr3:=HR.out.later (by rw[zaq];omega) hx3;have hz:=hr3.setBlk i (mixL FI) (by have:=HN.out;omega) (zaA FI);rw[<-HFI.out,zrx f (n-1) i n hi0,HFI.out] at hz;have hzb:=below_setCells (B:=w.heap.size) (b:=g) (a:=w) HG.out (cellsOf (mixL FI)) (i*16) w3 (Ext.trans HX.out hx3);have HTH:=hid (show w3.there g (i*16) (mixL FI).length from fun j hj=>by have h2:=hr3.wr (i*16+j) (by rw[zaq];rw[zaA] at hj;have:=HN.out;omega);rwa[Nat.zero_add] at h2);obtain⟨W7,hW7⟩:∃W7,w3.setCells g (i*16) (cellsOf (mixL FI))=W7:=⟨_,rfl⟩;rw[hW7] at hz hzb;have HZ:=hid (And.intro hz hzb);have HW7:=hid hW7;clear hx3 hr3 hz hzb hW7 HC3 HB HR HX;go_wp2_with (refine zaY rfl 166 (.tmp 23) (.tmp 22) rfl g (i*16) (mixL FI) rfl rfl HTH.out HSM.out ?_;rw[HW7.out];clear HTH HW7)
   go_roundw
   case rel=>exact⟨i+1,by omega,by omega,by go_num,HZ.out⟩
   case measure=>simp[intOf];omega
  ·obtain rfl:i=n1:=by omega
   rw[<-HN1.out] at hr;have HQ:=hid (And.intro (show RW wr g 0 (FL (zbo f (n-1)) n) from hr) hx);have hnlt:¬((i:Int)<(i:Int)):=by omega
   clear hr hx;go_wp2_with fail
   go_ret;exact⟨g,⟨cap,rfl⟩,HG.out,HQ.out⟩
def z272:List UInt8:=List.replicate 272 0
theorem zcF:z272.length=272:=List.length_replicate
def zc9(ts:List UInt8):List Value:=cellsOf ts++(.int .i64 0::(cellsOf z272++cellsOf z272))
theorem zvn:(Tryz.prog.info? 170).map (fun i=>(i.zero,i.size))=some (some (.agg (zc9 zdZ).toArray),1569):=by kernel_rfl
theorem zg3:∀(vs P Z:List Value) (cs:Array Value),cs.toList=P++Z->vs.length<=Z.length ->
  ((vs.zipIdx P.length).foldl (fun cs (p:Value×Nat)=>cs.setIfInBounds (0+p.2) p.1) cs).toList=P++(vs++Z.drop vs.length)
 | [],P,Z,cs,h,_=>by simpa using h
 | v::vs,P,z::Z,cs,h,hl=>by
   rw[List.zipIdx_cons,List.foldl_cons];have h2:(cs.setIfInBounds (0+P.length) v).toList=(P++[v])++Z:=by rw[Array.toList_setIfInBounds,h,Nat.zero_add];simp
   have:=zg3 vs (P++[v]) Z _ h2 (by simpa using hl);simpa using this
 | _::_,_,[],_,_,hl=>absurd hl (by simp)
theorem zrQ(w:World):(Instr.build 170 #[(0,bv tabB)]).run Tryz.prog w=.ok (.agg (zc9 tabB).toArray) w:=by
 refine run_build w 170 _ _ ?_;unfold Program.built;have h66:=zvn;cases hq:Tryz.prog.info? 170 with
 | none=>rw[hq] at h66;cases h66
 | some i =>
   rw[hq] at h66;simp only[Option.map_some,Option.some.injEq,Prod.mk.injEq] at h66
   have hp : (#[({ name := "tables", type := 163, offset := 0, embedded := false, tag := "", pkgPath := "scrim/aria", byteOffset := 0 } : Field),
      { name := "rounds", type := 3, offset := 1024, embedded := false, tag := "", pkgPath := "scrim/aria", byteOffset := 1024 },
      { name := "there", type := 168, offset := 1025, embedded := false, tag := "", pkgPath := "scrim/aria", byteOffset := 1032 },
      { name := "back", type := 168, offset := 1297, embedded := false, tag := "", pkgPath := "scrim/aria", byteOffset := 1304 }] : Array Field).toList.mapM (fun f => (Tryz.prog.info? f.type).map fun i => (f.offset, i.size)) = some [(0, 1024), (1024, 1), (1025, 272), (1297, 272)] := by kernel_rfl
   simp only[Tryz.underlying170,h66.1,hp];have hs:(Value.agg (cellsOf tabB).toArray).cells.size=1024:=by show(cellsOf tabB).toArray.size=1024;simp[zaa,zaQ]
   have hz:(Value.agg (zc9 zdZ).toArray).cells=(zc9 zdZ).toArray:=rfl;have hzs:(zc9 zdZ).toArray.size=1569:=by simp[zc9,zaa,zba,zcF]
   simp only[Instr.fill,bv,hz,hs,hzs];show(if(decide (1024≠1024) || decide (0+1024>1569))=true then none else _)=_;rw[if_neg (by decide)];refine congrArg some (Array.toList_inj.1 ?_);rw[<-Array.foldl_toList,Array.toList_zipIdx];have hf:=zg3 (cellsOf tabB) [] (zc9 zdZ) (zc9 zdZ).toArray rfl (by rw[zaa,zaQ];simp[zc9,zaa,zba]);have hd:(zc9 zdZ).drop (cellsOf tabB).length=.int .i64 0::(cellsOf z272++cellsOf z272):=by unfold zc9;exact List.drop_left' (by rw[zaa,zaa,zaQ,zba])
   rw[hd,List.nil_append] at hf;exact hf
theorem cf31(vs:Array Value)(w:World):(callFunc 92 vs).run Tryz.prog w=.ok (.enter 92 vs) w:=by go_simp
theorem RW.part{w:World}{g:Nat}{t:TypeId}{bs:List UInt8}(P Q:List Value)(h:w.heap[g]? = some (.cells (P++(cellsOf bs++Q)).toArray t (0,0))):RW w g P.length bs:=by
 have hc:∀k v,(cellsOf bs)[k]? = some v->w.cell? ⟨g,P.length+k,none⟩=some v:=fun k v hv=>by rw[cell_of_row w g _ _ t _ h];have hk:=(List.getElem?_eq_some_iff.1 hv).1;simp only[List.getElem?_toArray];rw[List.getElem?_append_right (by omega),Nat.add_sub_cancel_left,List.getElem?_append_left hk];exact hv
 exact⟨hc,fun j hj=>⟨by rw[hc j _ (zam bs j hj)];rfl,frozen_of_row w g _ _ t h⟩⟩
theorem zk6{w:World}{d:Nat}(h:w.heap[d]? = some (.cells (zc9 tabB).toArray 170 (0,0))):
  TB w d/\(w.cell? ⟨d,1024,none⟩=some (.int .i64 0)/\w.frozen? ⟨d,1024,none⟩=false)/\RW w d 1025 z272/\RW w d 1297 z272:=by
 have hl:(cellsOf tabB).length=1024:=by rw[zaa,zaQ]
 have hz:(cellsOf z272).length=272:=by rw[zaa,zcF]
 refine⟨(RW.part (bs:=tabB) [] _ h).rd,⟨?_,frozen_of_row w d _ _ 170 h⟩,?_,?_⟩
 ·rw[cell_of_row w d _ _ 170 _ h];unfold zc9;rw[List.getElem?_toArray,List.getElem?_append_right (by omega),hl];rfl
 ·have:=RW.part (t:=170) (bs:=z272) (cellsOf tabB++[.int .i64 0]) (cellsOf z272) (by rw[h];simp[zc9]);rw[List.length_append,hl] at this;exact this
 ·have:=RW.part (t:=170) (bs:=z272) (cellsOf tabB++(.int .i64 0::cellsOf z272)) [] (by rw[h];simp[zc9]);rw[List.length_append,hl,List.length_cons,hz] at this;exact this
structure IsAria (w:World) (d:Nat) (key:List UInt8):Prop where
 tb:TB w d
 rounds:w.cell? ⟨d,1024,none⟩=some (.int .i64 ((keyN key-1:Nat):Int))
 there:w.rangeAt d 1025 (cellsOf (FL (keyF key) (keyN key)))
 back:w.rangeAt d 1297 (cellsOf (FL (zbo (keyF key) (keyN key-1)) (keyN key)))
theorem IsAria.later{w w':World}{d:Nat}{key:List UInt8}(h:IsAria w d key)(hx:Ext w w'):IsAria w' d key :=
 ⟨h.tb.later hx,(Below.cell hx (p:=⟨d,1024,none⟩) h.tb.lt).trans h.rounds,zaj h.there hx,zaj h.back hx⟩
def BkP(D N:Nat)(bs:List UInt8)(w:World)(v:Value):Prop:=∃g cap,v=.slice (some ⟨g,0,none⟩) N cap/\D<g/\w.rangeAt g 0 (cellsOf bs)
theorem BkP.keep(D N:Nat)(bs:List UInt8):∀w w' v,Ext w w'->BkP D N bs w v->BkP D N bs w' v:=fun _ _ _ hx ⟨g,cap,h1,h2,h3⟩=>⟨g,cap,h1,h2,zaj h3 hx⟩
theorem zuT{w:World}{D N:Nat}{bs:List UInt8}(hD:D<w.heap.size)(e:Ending)(w':World)(h:∃g cap,e=.returned (.slice (some ⟨g,0,none⟩) N cap)/\w.heap.size<=g/\RW w' g 0 bs/\Ext w w'):
  ∃v,e=.returned v/\Ext w w'/\Go.Proofs.YtokbbmngfogbbaaGreatDoor.K.holds (.gen (BkP D N bs) (BkP.keep _ _ _)) w' v:=by
 obtain⟨g,cap,rfl,hg,hr,hx⟩:=h;exact⟨_,rfl,hx,g,cap,rfl,by omega,hr.rd⟩
theorem RW.apartO{w:World}{g o:Nat}{bs:List UInt8}(h:RW w g o bs)(g' o':Nat)(vs:List Value)(ha:g≠g'\/o+bs.length<=o'\/o'+vs.length<=o):RW (w.setCells g' o' vs) g o bs :=
 ⟨World.rangeAt_setCells_apart h.rd g' o' vs (by rw[zaa];exact ha),World.there_setCells h.wr g' o' vs⟩
theorem zlF{ops:Array Oper}{rest:List Oper}{o:Oper}{a:Act}{w:World}{Q:Exit->Act->World->Prop}(hgd:o.guard=none)(x:Operand)(ho:o.op=.build 170 #[(0,x)])(hx:a.eval x=bv tabB)
  (h:wpList Tryz.prog ops Q rest (a.put o.dst (.agg (zc9 tabB).toArray)) w):wpList Tryz.prog ops Q (o::rest) a w :=
 wpList_plain hgd fun K hK=>by have hk:=hK _ _ h;clear hK h;unfold Oper.wp execOp;simp only[ho,List.map_toArray,List.map_cons,List.map_nil,hx,Sem.run_bind,zrQ,Result.andThen_ok,Sem.run_pure];exact hk
def znu(D K N:Nat)(f:Nat->List UInt8):List Go.Proofs.YtokbbmngfogbbaaGreatDoor.K:=[.eq (.pointer (some ⟨D,0,none⟩)),.eq (.pointer (some ⟨D,0,none⟩)),.eq (.pointer (some ⟨D,1297,none⟩)),.eq (.slice (some ⟨D,1297,none⟩) 17 17),.eq (.slice (some ⟨K,0,none⟩) N N),.gen (BkP D N (FL (zbo f (N-1)) N)) (BkP.keep _ _ _),.any]
theorem zb8(A:Option Addr)(n c:Nat)(key:List UInt8)(w:World)(h:Rd w w.heap.size A n key)(hn:zgC n)(hc:n<=c)(hG:GK w):
  Calls Tryz.prog 59 #[.slice A n c] w fun e w'=>∃d,e=.returned (.tuple #[.pointer (some ⟨d,0,none⟩),.int .i64 0])/\w.heap.size<=d/\IsAria w' d key/\Ext w w':=by
 have hl:=h.len;have HR:=hid h;have HG:=hid hG;have HN:=hid hn;have HC:=hid hc;clear h hG hc;go_enter Tryz.func59,Tryz.ntmps59;go_wp2_with (go_at_call 89;refine(zlq _ _ _ _ HN.out).mono ?_;rintro e w' ⟨rfl,rfl⟩)
 refine(zh8 _ HG.out.odd HG.out.rws).mono ?_;rintro e w1 ⟨rfl,hx1⟩;have h2:=heap_alloc_new w1 (.cells (zc9 tabB).toArray 170);have x2:=Ext.alloc w1 (.cells (zc9 tabB).toArray 170);obtain⟨W2,hW2⟩:∃W2,w1.alloc (.cells (zc9 tabB).toArray 170)=W2:=⟨_,rfl⟩;have z2:W2.heap.size=w1.heap.size+1:=by rw[<-hW2];simp
 rw[hW2] at h2 x2;have hwd:=hx1.size;obtain⟨D,hD⟩:∃D,w1.heap.size=D:=⟨_,rfl⟩;rw[hD] at h2;have ha:=zk6 h2;have HW:=hid (And.intro hW2 hD);have HX2:=hid (hx1.trans x2);have H2:=hid h2;have HDL:=hid (show D<W2.heap.size by omega);have HWD:=hid (show w.heap.size<=D by omega);have HTB:=hid ha.1;clear hx1 h2 x2 hW2 hD ha z2 hwd;go_wp2_with (first
  | (refine zlF rfl (.tmp 9) rfl rfl ?_)
  | (rw[HW.out.1,HW.out.2];clear HW))
 refine(zcv D n c A key W2 (HR.out.later HX2.out) HN.out HC.out HTB.out (HG.out.later HX2.out).sev (HG.out.later HX2.out).con (HG.out.later HX2.out).tu).mono ?_;rintro e w4 ⟨K,rfl,hKD,hK,hx4⟩;obtain⟨N,hN⟩:∃N,keyN key=N:=⟨_,rfl⟩;have hNn:N<=17/\13<=N:=by have:=HN.out;unfold zgC at this;unfold keyN at hN;omega
 have HNN:=hid hNn;rw[hN] at hK ⊢;obtain⟨f,hf⟩:∃f,keyF key=f:=⟨_,rfl⟩;have HFL:=hid (show ∀j,j<N->(f j).length=16 from fun j _=>by rw[<-hf];exact zbz key j);rw[hf] at hK;have hNE:=hid (And.intro hN hf);have hDK:D<K:=by have:=HDL.out;omega
 have h4:=zk6 ((hx4.block D HDL.out).trans H2.out);have HX4:=hid (Ext.trans HX2.out hx4);obtain⟨r,hr⟩:∃r,N-1=r:=⟨_,rfl⟩;have hri:(N:Int)-1=(r:Int):=by omega
 have hni:(N:Int)<=17:=by omega
 have hcl:=h4.2.1.1;have hfz:=h4.2.1.2;have t5:TB (w4.setCell ⟨D,1024,none⟩ (.int .i64 r)) D:=World.rangeAt_setCells_apart h4.1 D 1024 [.int .i64 r] (.inr (.inl (by rw[zaa,zaQ];omega)));have c5:(w4.setCell ⟨D,1024,none⟩ (.int .i64 r)).cell? ⟨D,1024,none⟩=some (.int .i64 r):=World.cell?_setCell_same _ _ _ hcl;have a5:RW (w4.setCell ⟨D,1024,none⟩ (.int .i64 r)) D 1025 z272:=h4.2.2.1.apartO D 1024 [.int .i64 r] (.inr (.inr (by simp)));have b5:RW (w4.setCell ⟨D,1024,none⟩ (.int .i64 r)) D 1297 z272:=h4.2.2.2.apartO D 1024 [.int .i64 r] (.inr (.inr (by simp)));have k5:RW (w4.setCell ⟨D,1024,none⟩ (.int .i64 r)) K 0 (FL f N):=hK.apart D 1024 [.int .i64 r] (by omega);have x5:=below_setCells (B:=w.heap.size) (b:=D) (a:=w) HWD.out [.int .i64 r] 1024 w4 HX4.out;obtain⟨W5,hW5⟩:∃W5,w4.setCell ⟨D,1024,none⟩ (.int .i64 r)=W5:=⟨_,rfl⟩;rw[hW5] at t5 c5 a5 b5 k5
 have x5':Below w.heap.size w W5:=by rw[<-hW5];exact x5
 have hl5:(FL f N).length=N*16:=zaq _ _;have t6:=World.rangeAt_setCells_apart t5 D 1025 (cellsOf (FL f N)) (.inr (.inl (by rw[zaa,zaQ];omega)));have c6:(W5.setCells D 1025 (cellsOf (FL f N))).cell? ⟨D,1024,none⟩=some (.int .i64 r):=by rw[World.cell?_setCells_out D (cellsOf (FL f N)) 1025 W5 ⟨D,1024,none⟩ (fun _ _=>.inl (by show 1024<1025;omega))];exact c5
 have HT5:=hid (show W5.there D 1025 (FL f N).length from fun j hj=>a5.wr j (by rw[zcF];omega));have a6:=World.rangeAt_setCells_same W5 D 1025 (cellsOf (FL f N)) (by rw[zaa];exact HT5.out);have b6:=b5.apartO D 1025 (cellsOf (FL f N)) (.inr (.inr (by rw[zaa];omega)));have k6:=k5.apart D 1025 (cellsOf (FL f N)) (by omega);have x6:=below_setCells (B:=w.heap.size) (b:=D) (a:=w) HWD.out (cellsOf (FL f N)) 1025 W5 x5';obtain⟨W6,hW6⟩:∃W6,W5.setCells D 1025 (cellsOf (FL f N))=W6:=⟨_,rfl⟩;rw[hW6] at t6 c6 a6 b6 k6 x6;have HMN:=hid (show(FL f N).length=Nat.min N 17*16 by rw[hl5,show Nat.min N 17=N from Nat.min_eq_left (by omega)]);have HK5:=hid k5.rd;have HKR:=hid k6;have HDL6:=hid (show D<W6.heap.size from World.block_lt_of_cell? W6 _ c6);have HDL:=HDL6;have HSV:=hid (HG.out.later x6).sev;have HF6:=hid (And.intro t6 (And.intro c6 (And.intro a6 (And.intro b6 x6))));have HW5:=hid hW5
 have HW6:=hid hW6;have HR1:=hid hr;clear hN hNn hKD hK hx4 hf hDK h4 t5 c5 a5 b5 k5 x5 x5' hl5 t6 c6 a6 b6 k6 x6 hW5 hW6 hr HR HG H2 HTB;go_wp2_with (first
  | (rw[HW5.out];clear HW5;refine zgo rfl (.tmp 26) (.tmp 27) 171 171 166 16 rfl Tryz.underlying171 zot D 1025 17 17 N N K 0 (FL f N) rfl rfl HMN.out HK5.out HT5.out ?_;rw[HW6.out];clear HW6 HMN HK5 HT5)
  | (rw[HW5.out];clear HW5;fail))
 clear hcl hfz;refine zaD 6 (znu D K N f) (zab ⟨fun _ _ h=>h.mv,?_,?_,?_,fun _ _ h=>h.mv,?_,trivial⟩) ?_
 ·intro a w hk;have s29:=hk.eq_ 0 29;refine za ?_;go_simp
 ·intro a w hk;have s30:=hk.eq_ 1 30;refine za ?_;go_simp
 ·intro a w hk;have s31:=hk.eq_ 2 31;refine za ?_;go_simp
 ·intro a w hk;exact hk.call cf31 (zd6 K N N f w (HKR.out.later (by rw[zaq];have:=HNN.out;omega) hk.ext) HFL.out (by have:=HNN.out;omega) (by have:=HNN.out;omega) (HSV.out.later hk.ext)) (fun e w1 h=>zuT (Nat.lt_of_lt_of_le HDL.out (Below.size hk.ext)) e w1 h)
 ·intro a w1 hf;obtain⟨g34,p34,s34,q34,h34⟩:=hf.val 5 34;have hx:=hf.ext;have e:=hf.fr;clear hf;simp only[List.take_succ_cons,List.take_zero,znu,frV,kPut,Act.put,List.setIfInBounds_toArray,List.set_cons_zero,List.set_cons_succ,s34] at e;clear s34;subst e;simp only[List.drop_succ_cons,List.drop_zero];have hMN:(FL (zbo f (N-1)) N).length=Nat.min N 17*16:=by rw[zaq,show Nat.min N 17=N from Nat.min_eq_left HNN.out.1]
  have hl7:(FL (zbo f (N-1)) N).length=N*16:=zaq _ _;have b7:=HF6.out.2.2.2.1.later (by rw[zcF];omega) hx;have HT7:=hid (show w1.there D 1297 (FL (zbo f (N-1)) N).length from fun j hj=>b7.wr j (by rw[zcF];have:=HNN.out;omega));have t8:=World.rangeAt_setCells_apart (zaj HF6.out.1 hx) D 1297 (cellsOf (FL (zbo f (N-1)) N)) (.inr (.inl (by rw[zaa,zaQ];omega)));have c8:(w1.setCells D 1297 (cellsOf (FL (zbo f (N-1)) N))).cell? ⟨D,1024,none⟩=some (.int .i64 r):=by rw[World.cell?_setCells_out D _ 1297 w1 ⟨D,1024,none⟩ (fun _ _=>.inl (by show 1024<1297;omega)),Below.cell hx (p:=⟨D,1024,none⟩) HDL.out];exact HF6.out.2.1
  have a8:=World.rangeAt_setCells_apart (zaj HF6.out.2.2.1 hx) D 1297 (cellsOf (FL (zbo f (N-1)) N)) (.inr (.inl (by rw[zaa,zaq];have:=HNN.out;omega)));have b8:=World.rangeAt_setCells_same w1 D 1297 (cellsOf (FL (zbo f (N-1)) N)) (by rw[zaa];exact HT7.out);have x8:=below_setCells (B:=w.heap.size) (b:=D) (a:=w) HWD.out (cellsOf (FL (zbo f (N-1)) N)) 1297 w1 (Ext.trans HF6.out.2.2.2.2 hx);have HA:=hid (show IsAria (w1.setCells D 1297 (cellsOf (FL (zbo f (N-1)) N))) D key from⟨t8,by rw[hNE.out.1];have h:=c8;rw[<-HR1.out] at h;exact h,by rw[hNE.out.1,hNE.out.2];exact a8,by rw[hNE.out.1,hNE.out.2];exact b8⟩);have HX8:=hid x8;have HM7:=hid hMN;have HB7:=hid h34;clear hx hMN hl7 b7 t8 c8 a8 b8 x8 h34;go_wp2_with (refine zgo rfl (.tmp 32) (.tmp 34) 171 171 166 16 rfl Tryz.underlying171 zot D 1297 17 17 N p34 g34 0 (FL (zbo f (N-1)) N) rfl rfl HM7.out HB7.out HT7.out ?_)
  go_ret2;exact⟨D,rfl,HWD.out,HA.out,HX8.out⟩
def zmC(d S i:Nat)(BI KI:List UInt8):List Go.Proofs.YtokbbmngfogbbaaGreatDoor.K:=[.eq (.pointer (some ⟨d,0,none⟩)),.eq (.pointer (some ⟨d,0,none⟩)),.eq (.pointer (some ⟨d,0,none⟩)),.eq (.int .i64 i),.eq (bv BI),.eq (.pointer (some ⟨d,S,none⟩)),.eq (.int .i64 i),.eq (.pointer (some ⟨d,S,none⟩)),.eq (.pointer (some ⟨d,S+i*16,none⟩)),.eq (bv KI),.eq (bv (zbH i BI KI)),.any]
def znd(d S r:Nat)(SB KR:List UInt8):List Go.Proofs.YtokbbmngfogbbaaGreatDoor.K:=[.eq (bv SB),.eq (.pointer (some ⟨d,S,none⟩)),.eq (.int .i64 r),.eq (.pointer (some ⟨d,S,none⟩)),.eq (.pointer (some ⟨d,S+r*16,none⟩)),.eq (bv KR),.eq (bv (xorL SB KR 16)),.any]
def zrN(d S r P:Nat)(b:List UInt8)(ks:Nat->List UInt8)(w:World)(a:Act)(w1:World):Prop :=
 ∃(i:Nat) (u8 u9 u10 u11 u12 u13 u14 u15 u16 u17 u18 u19 u20 u21 u22 u23 u24 u25 u26 u27 u28 u29 u30 u31 u32 u33 u34 u35:Value),a = { tmps:=#[.pointer (some ⟨d,0,none⟩),.agg (cellsOf b).toArray,.pointer (some ⟨d,S,none⟩),undef,.pointer (some ⟨P,0,none⟩),undef,.pointer (some ⟨P+1,0,none⟩),.int .i64 i,u8,u9,u10,u11,u12,u13,u14,u15,u16,u17,u18,u19,u20,u21,u22,u23,u24,u25,u26,u27,u28,u29,u30,u31,u32,u33,u34,u35],defers:=[] }/\i<r/\RW w1 P 0 (zeD ks b i)/\RW w1 (P+1) 0 z16/\Ext w w1
theorem zeH(d S r:Nat)(b:List UInt8)(ks:Nat->List UInt8)(w:World)(hb:b.length=16)(ht:TB w d)(hc:w.cell? ⟨d,1024,none⟩=some (.int .i64 r))(hk:w.rangeAt d S (cellsOf (FL ks (r+1))))(hkl:∀j,j<r+1->(ks j).length=16)(h0:0<r)(hr:r<=16)(hs:Sev w):
  Calls Tryz.prog 235 #[.pointer (some ⟨d,0,none⟩),bv b,.pointer (some ⟨d,S,none⟩)] w fun e w'=>e=.returned (bv (zcN ks r b))/\Ext w w':=by
 unfold bv;have HTB0:=hid ht;have HSV:=hid hs;have HCR:=hid hc;have HKS:=hid hk;have HKL:=hid hkl;have HDL:=hid ht.lt;have HR16:=hid hr;have HR0:=hid h0;have h1:=RW.new w 166 b;have x1:=Ext.alloc w (.cells (cellsOf b).toArray 166);obtain⟨W1,hW1⟩:∃W1,w.alloc (.cells (cellsOf b).toArray 166)=W1:=⟨_,rfl⟩;have z1:W1.heap.size=w.heap.size+1:=by rw[<-hW1];simp
 have h2:=RW.new W1 166 z16;have x2:=Ext.alloc W1 (.cells (cellsOf z16).toArray 166);obtain⟨W2,hW2⟩:∃W2,W1.alloc (.cells (cellsOf z16).toArray 166)=W2:=⟨_,rfl⟩;rw[hW1] at h1 x1;rw[hW2] at h2 x2;have h1:=h1.later (by omega) x2;obtain⟨P,hP⟩:∃P,w.heap.size=P:=⟨_,rfl⟩;rw[z1] at h2;rw[hP] at h1 h2;have HXT:=hid (x1.trans x2);have HA:=hid h1;have HZ0:=hid h2;have HP:=hid hP;have HW:=hid (And.intro hW1 hW2);have HBL:=hid hb;clear hW1 hW2 z1 x1 x2 h1 h2 ht hs hc hk hkl hP hb hr h0;go_enter Tryz.func235,Tryz.ntmps235;go_wp2_with fail
 refine zat 0 (zrN d S r P b ks w) (fun a _=>r-iAt 7 a) rfl ?_ ?_
 ·clear HA HZ0 HXT HW;rintro a wr ⟨i,u8,u9,u10,u11,u12,u13,u14,u15,u16,u17,u18,u19,u20,u21,u22,u23,u24,u25,u26,u27,u28,u29,u30,u31,u32,u33,u34,u35,rfl,hir,hp,hz,hx⟩;have hbl:=ziG ks HBL.out i;have hbk:=zgB HKS.out i (by omega) (HKL.out i (by omega));have hkl:=HKL.out i (by omega);obtain⟨BI,hBI⟩:∃BI,zeD ks b i=BI:=⟨_,rfl⟩;obtain⟨KI,hKI⟩:∃KI,ks i=KI:=⟨_,rfl⟩;rw[hBI] at hp hbl;rw[hKI] at hbk hkl;have HBI:=hid (And.intro hBI hKI);have HL:=hid (And.intro hbl hkl);have HB:=hid (And.intro hp.rd (zaj hbk hx));have HRW:=hid (And.intro hp (And.intro hz hx));have HTB:=hid (HTB0.out.later hx);have HI1000:=hid (show i<=1000 by have:=HR16.out;omega);have HI17:=hid (show i<16 by have:=HR16.out;omega);have HIR:=hid hir;clear hp hz hx hbl hbk hkl hBI hKI;go_wp2_with fail
  refine zb4 11 (zmC d S i BI KI) (zab ⟨fun _ _ _ h=>h.mv,?_,?_,fun _ _ _ h=>h.mv,?_,fun _ _ _ h=>h.mv,fun _ _ _ h=>h.mv,?_,?_,?_,?_,fun h=>absurd rfl h,trivial⟩) ?_
  ·intro _ a w hk;have s8:=hk.eq_ 0 8;refine za ?_;go_simp
  ·intro _ a w hk;have s9:=hk.eq_ 1 9;refine za ?_;go_simp
  ·intro _ a w hk;have s4:a.tmps.getD 4 undef=.pointer (some ⟨P,0,none⟩):=hk.was 4;exact zai (v:=bv BI) (w':=w) rfl (zaN rfl s4 (zaj HB.out.1 hk.ext) Tryz.underlying166 (zaB HL.out.1)) (Ext.refl w) rfl
  ·intro _ a w hk;have s13:=hk.eq_ 5 13;refine za ?_;go_simp
  ·intro _ a w hk;have s15:=hk.eq_ 7 15;have s14:=hk.eq_ 6 14;refine za ?_;have hi3:(i:Int)<17:=by have:=HI17.out;omega
   go_simp
  ·intro _ a w hk;have s16:=hk.eq_ 8 16;exact zai (v:=bv KI) (w':=w) rfl (zaN rfl s16 (zaj HB.out.2 hk.ext) Tryz.underlying166 (zaB HL.out.2)) (Ext.refl w) rfl
  ·intro _ a w hk;exact hk.call cf46 (zkI d i BI KI w HL.out.1 HL.out.2 HI1000.out (HTB.out.later hk.ext)) (fun e w1 h=>retX e w1 h)
  ·intro a w1 hf;have hx:=hf.ext;have e:=hf.fr;clear hf;simp only[zmC,frV,kPut,Act.put,List.setIfInBounds_toArray,List.set_cons_zero,List.set_cons_succ] at e;subst e;have hp:=HRW.out.1.later (by rw[HL.out.1];omega) hx;have hz:=HRW.out.2.1.later (by rw[zas];omega) hx;have hp2:=hp.store0 (zbH i BI KI) (by rw[za4,HL.out.1]);have hz2:=hz.apart P 0 (cellsOf (zbH i BI KI)) (by omega);have hx2:=below_setCells (B:=w.heap.size) (b:=P) (a:=w) (by have:=HP.out;omega) (cellsOf (zbH i BI KI)) 0 w1 (Ext.trans HRW.out.2.2 hx);refine zbV 166 (.tmp 4) (.tmp 18) rfl rfl P 0 (zbH i BI KI) rfl rfl (by rw[za4];have:=hp.wr;rw[HL.out.1] at this;exact this) (zaB (za4 _ _ _)) ?_;obtain⟨W7,hW7⟩:∃W7,w1.setCells P 0 (cellsOf (zbH i BI KI))=W7:=⟨_,rfl⟩;rw[hW7] at hp2 hz2 hx2 ⊢;obtain⟨SB,hSB⟩:∃SB,zbH i BI KI=SB:=⟨_,rfl⟩;have hSBl:SB.length=16:=by rw[<-hSB];exact za4 _ _ _
   rw[hSB] at hp2;have HSB:=hid hSB;have HL7:=hid hSBl;have HQ7:=hid (And.intro hp2 (And.intro hz2 hx2));have hcr:=(Below.cell hx2 (p:=⟨d,1024,none⟩) HDL.out).trans HCR.out;have HRD:=hid hp2.rd;have HSZ:=hid (zaB hSBl);clear hx hp hz hp2 hz2 hx2 hW7 hSBl hSB HRW HB;obtain⟨q,hq⟩:∃q,i+1=q:=⟨_,rfl⟩;have hqi:(i:Int)+1=(q:Int):=by omega
   have hqr:q<=17:=by have:=HI17.out;omega
   by_cases hlt:q<r
   ·have HC:=hid (zc5 SB W7 HL7.out (HSV.out.later HQ7.out.2.2));have hqlt:(q:Int)<(r:Int):=by omega
    go_wp2_with (refine zaI rfl 166 (.tmp 4) rfl P 0 rfl SB HRD.out Tryz.underlying166 HSZ.out ?_)
    refine HC.out.mono ?_;rintro e w8 ⟨rfl,hx8⟩;have hp8:=HQ7.out.1.later (by rw[HL7.out];omega) hx8;have hz8:=(HQ7.out.2.1.later (by rw[zas];omega) hx8).apart P 0 (cellsOf (mixL SB)) (by omega);have hs8:=hp8.store0 (mixL SB) (by rw[zaA,HL7.out]);have hx9:=below_setCells (B:=w.heap.size) (b:=P) (a:=w) (by have:=HP.out;omega) (cellsOf (mixL SB)) 0 w8 (Ext.trans HQ7.out.2.2 hx8);have HTH:=hid (show w8.there P 0 (mixL SB).length by rw[zaA];have:=hp8.wr;rw[HL7.out] at this;exact this);have HSM:=hid (zaB (zaA SB));have hpb:mixL SB=zeD ks b q:=by rw[<-hq,zeD,HBI.out.1,HBI.out.2,HSB.out]
    rw[hpb] at hs8 hz8 hx9;have HN:=hid (And.intro hs8 (And.intro hz8 hx9));have HPB:=hid hpb;clear hx8 hp8 hz8 hs8 hx9 hpb HC HRD HQ7;go_wp2_with (refine zaY rfl 166 (.tmp 4) (.tmp 28) rfl P 0 (mixL SB) rfl rfl HTH.out HSM.out ?_)
    rw[HPB.out];go_step3
    (try simp only[Exit.jump])
    refine⟨rfl,⟨q,ex8 (ex8 (ex8 ⟨_,_,_,_,rfl,by omega,HN.out⟩))⟩,?_⟩;show r-q<r-i;have:=HIR.out;omega
   ·obtain rfl:q=r:=by have:=HIR.out;omega
    have hnlt:¬((q:Int)<(q:Int)):=by omega
    have hbk:=zgB HKS.out q (by omega) (HKL.out q (by omega));obtain⟨KR,hKR⟩:∃KR,ks q=KR:=⟨_,rfl⟩;have hKRl:KR.length=16:=by rw[<-hKR];exact HKL.out q (by omega)
    rw[hKR] at hbk;have HL6:=hid (And.intro HL7.out hKRl);have HB6:=hid (And.intro HRD.out (zaj hbk HQ7.out.2.2));have HZ:=hid HQ7.out.2.1;have HX6:=hid HQ7.out.2.2;have HR17:=hid (show q<17 by have:=HI17.out;have:=HR16.out;omega);have HRES:=hid (show xorL SB KR 16=zcN ks q b by rw[zcN,show q-1=i by omega,HBI.out.1,HBI.out.2,HSB.out,hKR]);clear hbk hKR hKRl HRD HQ7;go_wp2_with fail
    refine zb4 7 (znd d S q SB KR) (zab ⟨?_,fun _ _ _ h=>h.mv,fun _ _ _ h=>h.mv,?_,?_,?_,?_,fun h=>absurd rfl h,trivial⟩) ?_
    ·intro _ a w hk;have s4:a.tmps.getD 4 undef=.pointer (some ⟨P,0,none⟩):=hk.was 4;exact zai (v:=bv SB) (w':=w) rfl (zaN rfl s4 (zaj HB6.out.1 hk.ext) Tryz.underlying166 (zaB HL6.out.1)) (Ext.refl w) rfl
    ·intro _ a w hk;have s30:=hk.eq_ 1 30;refine za ?_;go_simp
    ·intro _ a w hk;have s32:=hk.eq_ 3 32;have s31:=hk.eq_ 2 31;refine za ?_;have hi3:(q:Int)<17:=by have:=HR17.out;omega
     go_simp
    ·intro _ a w hk;have s33:=hk.eq_ 4 33;exact zai (v:=bv KR) (w':=w) rfl (zaN rfl s33 (zaj HB6.out.2 hk.ext) Tryz.underlying166 (zaB HL6.out.2)) (Ext.refl w) rfl
    ·exact fun _ _ w h=>h.call cf36 (zb9 SB KR w HL6.out.1 HL6.out.2) (fun e w1 h=>retX e w1 h)
    ·intro a w1 hf;have hx:=hf.ext;have e:=hf.fr;clear hf;simp only[znd,frV,kPut,Act.put,List.setIfInBounds_toArray,List.set_cons_zero,List.set_cons_succ] at e;subst e;have hz:=HZ.out.later (by rw[zas];omega) hx;have hs:=hz.store0 (xorL SB KR 16) (by rw[zar,zas]);have hxx:=below_setCells (B:=w.heap.size) (b:=P+1) (a:=w) (by have:=HP.out;omega) (cellsOf (xorL SB KR 16)) 0 w1 (Ext.trans HX6.out hx);have HS:=hid hs.rd;have HXX:=hid hxx;refine zbV 166 (.tmp 6) (.tmp 35) rfl rfl (P+1) 0 (xorL SB KR 16) rfl rfl (by rw[zar];have:=hz.wr;rw[zas] at this;exact this) (zaB (zar _ _ _)) ?_;clear hx hz hs hxx;go_wp2_with fail
     (try simp only[Exit.jump])
     refine zdm rfl rfl (P+1) (xorL SB KR 16) rfl HS.out Tryz.underlying166 (zaB (zar _ _ _)) ⟨by rw[HRES.out];rfl,HXX.out⟩
 ·intro hfirst;rw[<-zbv,HW.out.1,HW.out.2,HP.out];refine wp_seq ?_;generalize hK:(Exit.then _ _)=KK;go_wp2_with fail
  subst hK;simp only[Exit.then];refine wp_seq ?_;go_step3;simp only[Exit.then];refine hfirst.out _ _ ⟨0,ex8 (ex8 (ex8 ⟨_,_,_,_,rfl,HR0.out,HA.out,HZ0.out,HXT.out⟩))⟩
def BRet(w:World)(bs:List UInt8)(e:Ending)(w':World):Prop:=∃A c,e=.returned (.tuple #[.slice A 16 c,.int .i64 0])/\(16<=c/\c<=9223372036854775807)/\Rd w' w'.heap.size A 16 bs/\Ext w w'/\Fr w.heap.size A
theorem ziE{f:Nat->List UInt8}(hf:∀j,(f j).length=16)(r i:Nat):(zbo f r i).length=16:=by
 unfold zbo;split
 ·exact zaA _
 ·exact hf _
theorem zjB(d:Nat)(A:Option Addr)(c:Nat)(key bs:List UInt8)(w:World)(hd:IsAria w d key)(h:Rd w w.heap.size A 16 bs)(hk:zgC key.length)(hs:Sev w):
  Calls Tryz.prog 234 #[.pointer (some ⟨d,0,none⟩),.slice A 16 c,.bool false] w (BRet w (zcN (keyF key) (keyN key-1) bs)):=by
 have hks:=hd.there;obtain⟨ff,hff⟩:∃ff,keyF key=ff:=⟨_,rfl⟩;have hfl:∀j,(ff j).length=16:=fun j=>by rw[<-hff];exact zbz key j
 rw[hff] at hks ⊢;obtain⟨r,hr⟩:∃r,keyN key-1=r:=⟨_,rfl⟩;have hr1:keyN key=r+1/\0<r/\r<=16:=by unfold keyN at hr ⊢;unfold zgC at hk;omega
 have hrd:=hd.rounds;rw[hr] at hrd;rw[hr1.1] at hks;obtain⟨b,o,rfl,_,_⟩:=h.at_ (by omega);have HC:=hid (zeH d 1025 r bs ff w h.len hd.tb hrd hks (fun j _=>hfl j) hr1.2.1 hr1.2.2 hs);rw[hr];have HR:=hid (zbF h);have HSZ:=hid (zaB h.len);have HZM:=hid (zaB (zcm ff r bs));obtain⟨X,hX⟩:∃X,zcN ff r bs=X:=⟨_,rfl⟩;have hXl:X.length=16:=by rw[<-hX];exact zcm _ _ _
 rw[hX] at HC HZM ⊢;have HXL:=hid hXl;clear hd h hk hs hr hr1 hrd hks hX hXl hff hfl;go_enter Tryz.func234,Tryz.ntmps234;go_wp2_with (first
  | (refine zeX rfl 166 5 16 (.tmp 21) rfl (some ⟨b,o,none⟩) 16 c rfl Tryz.underlying166 (Nat.le_refl _) ?_)
  | (refine zaI rfl 166 (.tmp 22) rfl b o rfl bs HR.out Tryz.underlying166 HSZ.out ?_))
 refine HC.out.mono ?_;rintro e w1 ⟨rfl,hx1⟩;have h2:=RW.new w1 166 z16;have x2:=Ext.alloc w1 (.cells (cellsOf z16).toArray 166);obtain⟨W2,hW2⟩:∃W2,w1.alloc (.cells (cellsOf z16).toArray 166)=W2:=⟨_,rfl⟩;rw[hW2] at h2 x2;obtain⟨T,hT⟩:∃T,w1.heap.size=T:=⟨_,rfl⟩;rw[hT] at h2;have h3:=h2.store0 X (by rw[HXL.out,zas]);have hx3:=below_setCells (B:=w.heap.size) (b:=T) (a:=w) (by have:=hx1.size;omega) (cellsOf X) 0 W2 (hx1.trans x2);have HTH:=hid (show W2.there T 0 X.length by rw[HXL.out];have:=h2.wr;rw[zas] at this;exact this);obtain⟨W3,hW3⟩:∃W3,W2.setCells T 0 (cellsOf X)=W3:=⟨_,rfl⟩;rw[hW3] at h3 hx3;have HF:=hid (And.intro (h3.slice HXL.out (h3.lt (by rw[HXL.out];omega))) (And.intro hx3 (show Fr w.heap.size (some (⟨T,0,none⟩:Addr)) from fun a e=>by cases e;show w.heap.size<=T;rw[<-hT];exact Below.size hx1)));have HW:=hid (And.intro hW2 (And.intro hT hW3))
 clear hx1 h2 x2 hW2 hT h3 hx3 hW3 HC;go_wp2_with (first
  | (rw[<-zbv,HW.out.1,HW.out.2.1];refine zaY rfl 166 (.tmp 9) (.tmp 25) rfl T 0 X rfl rfl HTH.out HZM.out ?_;rw[HW.out.2.2];clear HW HTH))
 go_ret2;exact⟨_,_,rfl,⟨Nat.le_refl _,by omega⟩,HF.out⟩
theorem zls(d:Nat)(A:Option Addr)(c:Nat)(key bs:List UInt8)(w:World)(hd:IsAria w d key)(h:Rd w w.heap.size A 16 bs)(hk:zgC key.length)(hs:Sev w):
  Calls Tryz.prog 234 #[.pointer (some ⟨d,0,none⟩),.slice A 16 c,.bool true] w (BRet w (zcN (zbo (keyF key) (keyN key-1)) (keyN key-1) bs)):=by
 have hks:=hd.back;obtain⟨ff,hff⟩:∃ff,zbo (keyF key) (keyN key-1)=ff:=⟨_,rfl⟩;have hfl:∀j,(ff j).length=16:=fun j=>by rw[<-hff];exact ziE (zbz key) _ _
 rw[hff] at hks ⊢;obtain⟨r,hr⟩:∃r,keyN key-1=r:=⟨_,rfl⟩;have hr1:keyN key=r+1/\0<r/\r<=16:=by unfold keyN at hr ⊢;unfold zgC at hk;omega
 have hrd:=hd.rounds;rw[hr] at hrd;rw[hr1.1] at hks;obtain⟨b,o,rfl,_,_⟩:=h.at_ (by omega);have HC:=hid (zeH d 1297 r bs ff w h.len hd.tb hrd hks (fun j _=>hfl j) hr1.2.1 hr1.2.2 hs);rw[hr];have HR:=hid (zbF h);have HSZ:=hid (zaB h.len);have HZM:=hid (zaB (zcm ff r bs));obtain⟨X,hX⟩:∃X,zcN ff r bs=X:=⟨_,rfl⟩;have hXl:X.length=16:=by rw[<-hX];exact zcm _ _ _
 rw[hX] at HC HZM ⊢;have HXL:=hid hXl;clear hd h hk hs hr hr1 hrd hks hX hXl hff hfl;go_enter Tryz.func234,Tryz.ntmps234;go_wp2_with (first
  | (refine zeX rfl 166 5 16 (.tmp 21) rfl (some ⟨b,o,none⟩) 16 c rfl Tryz.underlying166 (Nat.le_refl _) ?_)
  | (refine zaI rfl 166 (.tmp 22) rfl b o rfl bs HR.out Tryz.underlying166 HSZ.out ?_))
 refine HC.out.mono ?_;rintro e w1 ⟨rfl,hx1⟩;have h2:=RW.new w1 166 z16;have x2:=Ext.alloc w1 (.cells (cellsOf z16).toArray 166);obtain⟨W2,hW2⟩:∃W2,w1.alloc (.cells (cellsOf z16).toArray 166)=W2:=⟨_,rfl⟩;rw[hW2] at h2 x2;obtain⟨T,hT⟩:∃T,w1.heap.size=T:=⟨_,rfl⟩;rw[hT] at h2;have h3:=h2.store0 X (by rw[HXL.out,zas]);have hx3:=below_setCells (B:=w.heap.size) (b:=T) (a:=w) (by have:=hx1.size;omega) (cellsOf X) 0 W2 (hx1.trans x2);have HTH:=hid (show W2.there T 0 X.length by rw[HXL.out];have:=h2.wr;rw[zas] at this;exact this);obtain⟨W3,hW3⟩:∃W3,W2.setCells T 0 (cellsOf X)=W3:=⟨_,rfl⟩;rw[hW3] at h3 hx3;have HF:=hid (And.intro (h3.slice HXL.out (h3.lt (by rw[HXL.out];omega))) (And.intro hx3 (show Fr w.heap.size (some (⟨T,0,none⟩:Addr)) from fun a e=>by cases e;show w.heap.size<=T;rw[<-hT];exact Below.size hx1)));have HW:=hid (And.intro hW2 (And.intro hT hW3))
 clear hx1 h2 x2 hW2 hT h3 hx3 hW3 HC;go_wp2_with (first
  | (rw[<-zbv,HW.out.1,HW.out.2.1];refine zaY rfl 166 (.tmp 9) (.tmp 25) rfl T 0 X rfl rfl HTH.out HZM.out ?_;rw[HW.out.2.2];clear HW HTH))
 go_ret2;exact⟨_,_,rfl,⟨Nat.le_refl _,by omega⟩,HF.out⟩
def zeY(bs:List UInt8)(i:Nat):UInt8:=if i<bs.length then bs.getD i 0 else UInt8.ofNat (i*37%256)
def byL(n:Nat)(bs:List UInt8):List UInt8:=(List.range n).map (zeY bs)
theorem zjv(n:Nat)(bs:List UInt8):(byL n bs).length=n:=by simp[byL]
theorem zkB(bs:List UInt8)(n L:Nat)(hL:bs.length=L):splice (List.replicate n (Value.int .u8 0)) 0 (cellsOf (bs.take n))=cellsOf (zao (zeY bs) n L):=by
 apply List.ext_getElem?;intro i;unfold splice;rw[List.take_zero,List.nil_append,Nat.zero_add,zaa];rcases Nat.lt_or_ge i n with hi|hi
 ·rw[zam _ _ (by rw[zad];exact hi)];have e:zah (zao (zeY bs) n L) i=((if i<L then zeY bs i else 0).toNat:Int):=by simp[zah,zao,List.getD,hi]
  rw[e];rcases Nat.lt_or_ge i L with h|h
  ·rw[List.getElem?_append_left (by rw[zaa,List.length_take];omega),zam _ _ (by rw[List.length_take];omega),if_pos h];unfold zeY;rw[if_pos (by omega)];simp[zah,List.getD,hi]
  ·rw[List.getElem?_append_right (by rw[zaa,List.length_take];omega),List.getElem?_drop,List.getElem?_replicate,zaa,List.length_take,if_pos (by omega),if_neg (by omega)];rfl
 ·rw[List.getElem?_eq_none (by simp[cellsOf];omega),List.getElem?_eq_none (by simp[cellsOf,zao];omega)]
theorem zfG{w:World}{base G n:Nat}{bs:List UInt8}{e:TypeId}(he:e=5)(h:w.heap[G]? = some (.cells (cellsOf bs).toArray e (0,0)))(hn:bs.length=n)(hb:base<=G)(hm:n<=maxLen):Own w base (.slice (some ⟨G,0,none⟩) n n) bs:=by
 subst he;refine⟨by rw[zaa,Nat.mul_one],.inr ⟨G,n,_,by rw[hn],hb,h,by omega,hm,by simp[cellsOf,hn],?_⟩⟩;rw[List.toList_toArray,List.take_of_length_le (by rw[zaa];omega)]
theorem zhe{w w1:World}{A:Option Addr}{n L:Nat}{bs:List UInt8}(h:Rd w w.heap.size A L bs)(hown1:Own w1 w.heap.size (.slice (some ⟨w.heap.size,0,none⟩) n n) (List.replicate n 0))(hb1:Below w.heap.size w w1):
  w1.heap[w.heap.size]? = some (.cells (List.replicate n (Value.int .u8 0)).toArray 5 (0,0))/\(cellsOf (bs.take n)).length=Nat.min L n /\
  (0<(cellsOf (bs.take n)).length->∃ad,A=some ad/\∀j v,(cellsOf (bs.take n))[j]? = some v->w1.cell? (ad.add j)=some v)/\0+(cellsOf (bs.take n)).length<=(List.replicate n (Value.int .u8 0)).length:=by
 have hl:=h.len;have hr1:=h.later (show Ext w w1 from hb1);have hcl:(cellsOf (bs.take n)).length=Nat.min L n:=by rw[zaa,List.length_take,hl];exact Nat.min_comm _ _
 refine⟨?_,hcl,?_,by rw[hcl,List.length_replicate,Nat.zero_add];exact Nat.min_le_right _ _⟩
 ·rcases hown1.2 with⟨h1,_⟩|⟨g,cap,cur,e1,_,hh,_,_,hcs,htake⟩
  ·cases h1
  ·simp only[Value.slice.injEq,Option.some.injEq,Addr.mk.injEq,and_true] at e1;obtain⟨e0,e2,e3⟩:=e1;rw[e0,hh];have:cur=(List.replicate n (Value.int .u8 0)).toArray:=by
    apply Array.ext';rw[List.toList_toArray];have e5:cur.toList.take n=cur.toList:=List.take_of_length_le (by simp;omega);have e4:cellsOf (List.replicate n 0)=List.replicate n (Value.int .u8 0):=by simp[cellsOf]
    rw[<-e5,<-e4,<-htake];simp
   rw[this]
 ·intro h0;have h0':0<L:=by rw[zaa,List.length_take] at h0;omega
  obtain⟨b,off,rfl,_,hc⟩:=hr1.at_ h0';refine⟨_,rfl,fun j v hv=>?_⟩;have hj:j<(bs.take n).length:=by
   rcases Nat.lt_or_ge j (bs.take n).length with hj|hj
   ·exact hj
   ·rw[List.getElem?_eq_none (by rw[zaa];omega)] at hv;cases hv
  rw[zam _ j hj] at hv;cases hv
  have hj2:j<n/\j<L:=by rw[List.length_take] at hj;omega
  rw[za2,hc j hj2.2];simp[zah,List.getD,hj2.1]
theorem zgQ(bs:List UInt8):(str bs).toList=bs:=by
 unfold str;apply List.ext_getElem
 ·simp
 ·intro i h1 h2;simp
theorem zvD{xs ys:List UInt8}(h:xs≠ys):¬(str xs).toList=(str ys).toList:=by
 rw[zgQ,zgQ];exact h
theorem zb6(p:Nat)(A:Option Addr)(n cc:Nat)(back:Bool)(w:World)(h:n≠16):
  Calls Tryz.prog 234 #[.pointer (some ⟨p,0,none⟩),.slice A n cc,.bool back] w fun e w'=>e=.returned (.tuple #[.slice none 0 0,.int .i64 1])/\Ext w w':=by
 have g:((n:Int) != 16)=true:=by simp;omega
 go_enter Tryz.func234,Tryz.ntmps234;go_wp2;go_ret2;exact⟨rfl,Ext.refl _⟩
def NumR(w:World)(v:Value)(i:Nat):Prop:=∃b,v=.slice (some ⟨b,0,none⟩) 7 7/\b<w.heap.size/\∀k,k<7->w.cell? ⟨b,k,none⟩=some (.int .i64 (sevN i k:Nat))
theorem zbh(w:World)(i:Nat)(cs:List Value)(hl:∀k,k<7->cs[k]? = some (.int .i64 (sevN i k:Nat))):NumR (w.alloc (.cells cs.toArray 3)) (.slice (some ⟨w.heap.size,0,none⟩) 7 7) i :=
 ⟨w.heap.size,rfl,by simp,fun k hk=>by rw[cell_of_row _ _ _ _ _ _ (heap_alloc_new w _),List.getElem?_toArray];exact hl k hk⟩
theorem of_0(w:World):Calls Tryz.prog 117 #[.int .i64 0] w fun e w'=>∃v,e=.returned v/\NumR w' v 0/\Ext w w':=by
 have hn:=zbh w 0 [.int .i64 3,.int .i64 4,.int .i64 6,.int .i64 8,.int .i64 9,.int .i64 13,.int .i64 14] (fun k hk=>match k,hk with
  | 0,_=>rfl
  | 1,_=>rfl
  | 2,_=>rfl
  | 3,_=>rfl
  | 4,_=>rfl
  | 5,_=>rfl
  | 6,_=>rfl)
 have HN:=hid hn;clear hn;go_enter Tryz.func117,Tryz.ntmps117;go_wp2;go_ret;exact⟨_,rfl,HN.out,Ext.alloc _ _⟩
theorem of_1(w:World):Calls Tryz.prog 117 #[.int .i64 1] w fun e w'=>∃v,e=.returned v/\NumR w' v 1/\Ext w w':=by
 have hn:=zbh w 1 [.int .i64 2,.int .i64 5,.int .i64 7,.int .i64 8,.int .i64 9,.int .i64 12,.int .i64 15] (fun k hk=>match k,hk with
  | 0,_=>rfl
  | 1,_=>rfl
  | 2,_=>rfl
  | 3,_=>rfl
  | 4,_=>rfl
  | 5,_=>rfl
  | 6,_=>rfl)
 have HN:=hid hn;clear hn;go_enter Tryz.func117,Tryz.ntmps117;go_wp2;go_ret;exact⟨_,rfl,HN.out,Ext.alloc _ _⟩
theorem of_2(w:World):Calls Tryz.prog 117 #[.int .i64 2] w fun e w'=>∃v,e=.returned v/\NumR w' v 2/\Ext w w':=by
 have hn:=zbh w 2 [.int .i64 1,.int .i64 4,.int .i64 6,.int .i64 10,.int .i64 11,.int .i64 12,.int .i64 15] (fun k hk=>match k,hk with
  | 0,_=>rfl
  | 1,_=>rfl
  | 2,_=>rfl
  | 3,_=>rfl
  | 4,_=>rfl
  | 5,_=>rfl
  | 6,_=>rfl)
 have HN:=hid hn;clear hn;go_enter Tryz.func117,Tryz.ntmps117;go_wp2;go_ret;exact⟨_,rfl,HN.out,Ext.alloc _ _⟩
theorem of_3(w:World):Calls Tryz.prog 117 #[.int .i64 3] w fun e w'=>∃v,e=.returned v/\NumR w' v 3/\Ext w w':=by
 have hn:=zbh w 3 [.int .i64 0,.int .i64 5,.int .i64 7,.int .i64 10,.int .i64 11,.int .i64 13,.int .i64 14] (fun k hk=>match k,hk with
  | 0,_=>rfl
  | 1,_=>rfl
  | 2,_=>rfl
  | 3,_=>rfl
  | 4,_=>rfl
  | 5,_=>rfl
  | 6,_=>rfl)
 have HN:=hid hn;clear hn;go_enter Tryz.func117,Tryz.ntmps117;go_wp2;go_ret;exact⟨_,rfl,HN.out,Ext.alloc _ _⟩
theorem of_4(w:World):Calls Tryz.prog 117 #[.int .i64 4] w fun e w'=>∃v,e=.returned v/\NumR w' v 4/\Ext w w':=by
 have hn:=zbh w 4 [.int .i64 0,.int .i64 2,.int .i64 5,.int .i64 8,.int .i64 11,.int .i64 14,.int .i64 15] (fun k hk=>match k,hk with
  | 0,_=>rfl
  | 1,_=>rfl
  | 2,_=>rfl
  | 3,_=>rfl
  | 4,_=>rfl
  | 5,_=>rfl
  | 6,_=>rfl)
 have HN:=hid hn;clear hn;go_enter Tryz.func117,Tryz.ntmps117;go_wp2;go_ret;exact⟨_,rfl,HN.out,Ext.alloc _ _⟩
theorem of_5(w:World):Calls Tryz.prog 117 #[.int .i64 5] w fun e w'=>∃v,e=.returned v/\NumR w' v 5/\Ext w w':=by
 have hn:=zbh w 5 [.int .i64 1,.int .i64 3,.int .i64 4,.int .i64 9,.int .i64 10,.int .i64 14,.int .i64 15] (fun k hk=>match k,hk with
  | 0,_=>rfl
  | 1,_=>rfl
  | 2,_=>rfl
  | 3,_=>rfl
  | 4,_=>rfl
  | 5,_=>rfl
  | 6,_=>rfl)
 have HN:=hid hn;clear hn;go_enter Tryz.func117,Tryz.ntmps117;go_wp2;go_ret;exact⟨_,rfl,HN.out,Ext.alloc _ _⟩
theorem of_6(w:World):Calls Tryz.prog 117 #[.int .i64 6] w fun e w'=>∃v,e=.returned v/\NumR w' v 6/\Ext w w':=by
 have hn:=zbh w 6 [.int .i64 0,.int .i64 2,.int .i64 7,.int .i64 9,.int .i64 10,.int .i64 12,.int .i64 13] (fun k hk=>match k,hk with
  | 0,_=>rfl
  | 1,_=>rfl
  | 2,_=>rfl
  | 3,_=>rfl
  | 4,_=>rfl
  | 5,_=>rfl
  | 6,_=>rfl)
 have HN:=hid hn;clear hn;go_enter Tryz.func117,Tryz.ntmps117;go_wp2;go_ret;exact⟨_,rfl,HN.out,Ext.alloc _ _⟩
theorem of_7(w:World):Calls Tryz.prog 117 #[.int .i64 7] w fun e w'=>∃v,e=.returned v/\NumR w' v 7/\Ext w w':=by
 have hn:=zbh w 7 [.int .i64 1,.int .i64 3,.int .i64 6,.int .i64 8,.int .i64 11,.int .i64 12,.int .i64 13] (fun k hk=>match k,hk with
  | 0,_=>rfl
  | 1,_=>rfl
  | 2,_=>rfl
  | 3,_=>rfl
  | 4,_=>rfl
  | 5,_=>rfl
  | 6,_=>rfl)
 have HN:=hid hn;clear hn;go_enter Tryz.func117,Tryz.ntmps117;go_wp2;go_ret;exact⟨_,rfl,HN.out,Ext.alloc _ _⟩
theorem of_8(w:World):Calls Tryz.prog 117 #[.int .i64 8] w fun e w'=>∃v,e=.returned v/\NumR w' v 8/\Ext w w':=by
 have hn:=zbh w 8 [.int .i64 0,.int .i64 1,.int .i64 4,.int .i64 7,.int .i64 10,.int .i64 13,.int .i64 15] (fun k hk=>match k,hk with
  | 0,_=>rfl
  | 1,_=>rfl
  | 2,_=>rfl
  | 3,_=>rfl
  | 4,_=>rfl
  | 5,_=>rfl
  | 6,_=>rfl)
 have HN:=hid hn;clear hn;go_enter Tryz.func117,Tryz.ntmps117;go_wp2;go_ret;exact⟨_,rfl,HN.out,Ext.alloc _ _⟩
theorem of_9(w:World):Calls Tryz.prog 117 #[.int .i64 9] w fun e w'=>∃v,e=.returned v/\NumR w' v 9/\Ext w w':=by
 have hn:=zbh w 9 [.int .i64 0,.int .i64 1,.int .i64 5,.int .i64 6,.int .i64 11,.int .i64 12,.int .i64 14] (fun k hk=>match k,hk with
  | 0,_=>rfl
  | 1,_=>rfl
  | 2,_=>rfl
  | 3,_=>rfl
  | 4,_=>rfl
  | 5,_=>rfl
  | 6,_=>rfl)
 have HN:=hid hn;clear hn;go_enter Tryz.func117,Tryz.ntmps117;go_wp2;go_ret;exact⟨_,rfl,HN.out,Ext.alloc _ _⟩
theorem zuP(w:World):Calls Tryz.prog 117 #[.int .i64 10] w fun e w'=>∃v,e=.returned v/\NumR w' v 10/\Ext w w':=by
 have hn:=zbh w 10 [.int .i64 2,.int .i64 3,.int .i64 5,.int .i64 6,.int .i64 8,.int .i64 13,.int .i64 15] (fun k hk=>match k,hk with
  | 0,_=>rfl
  | 1,_=>rfl
  | 2,_=>rfl
  | 3,_=>rfl
  | 4,_=>rfl
  | 5,_=>rfl
  | 6,_=>rfl)
 have HN:=hid hn;clear hn;go_enter Tryz.func117,Tryz.ntmps117;go_wp2;go_ret;exact⟨_,rfl,HN.out,Ext.alloc _ _⟩
theorem zuM(w:World):Calls Tryz.prog 117 #[.int .i64 11] w fun e w'=>∃v,e=.returned v/\NumR w' v 11/\Ext w w':=by
 have hn:=zbh w 11 [.int .i64 2,.int .i64 3,.int .i64 4,.int .i64 7,.int .i64 9,.int .i64 12,.int .i64 14] (fun k hk=>match k,hk with
  | 0,_=>rfl
  | 1,_=>rfl
  | 2,_=>rfl
  | 3,_=>rfl
  | 4,_=>rfl
  | 5,_=>rfl
  | 6,_=>rfl)
 have HN:=hid hn;clear hn;go_enter Tryz.func117,Tryz.ntmps117;go_wp2;go_ret;exact⟨_,rfl,HN.out,Ext.alloc _ _⟩
theorem zuY(w:World):Calls Tryz.prog 117 #[.int .i64 12] w fun e w'=>∃v,e=.returned v/\NumR w' v 12/\Ext w w':=by
 have hn:=zbh w 12 [.int .i64 1,.int .i64 2,.int .i64 6,.int .i64 7,.int .i64 9,.int .i64 11,.int .i64 12] (fun k hk=>match k,hk with
  | 0,_=>rfl
  | 1,_=>rfl
  | 2,_=>rfl
  | 3,_=>rfl
  | 4,_=>rfl
  | 5,_=>rfl
  | 6,_=>rfl)
 have HN:=hid hn;clear hn;go_enter Tryz.func117,Tryz.ntmps117;go_wp2;go_ret;exact⟨_,rfl,HN.out,Ext.alloc _ _⟩
theorem zvi(w:World):Calls Tryz.prog 117 #[.int .i64 13] w fun e w'=>∃v,e=.returned v/\NumR w' v 13/\Ext w w':=by
 have hn:=zbh w 13 [.int .i64 0,.int .i64 3,.int .i64 6,.int .i64 7,.int .i64 8,.int .i64 10,.int .i64 13] (fun k hk=>match k,hk with
  | 0,_=>rfl
  | 1,_=>rfl
  | 2,_=>rfl
  | 3,_=>rfl
  | 4,_=>rfl
  | 5,_=>rfl
  | 6,_=>rfl)
 have HN:=hid hn;clear hn;go_enter Tryz.func117,Tryz.ntmps117;go_wp2;go_ret;exact⟨_,rfl,HN.out,Ext.alloc _ _⟩
theorem zvc(w:World):Calls Tryz.prog 117 #[.int .i64 14] w fun e w'=>∃v,e=.returned v/\NumR w' v 14/\Ext w w':=by
 have hn:=zbh w 14 [.int .i64 0,.int .i64 3,.int .i64 4,.int .i64 5,.int .i64 9,.int .i64 11,.int .i64 14] (fun k hk=>match k,hk with
  | 0,_=>rfl
  | 1,_=>rfl
  | 2,_=>rfl
  | 3,_=>rfl
  | 4,_=>rfl
  | 5,_=>rfl
  | 6,_=>rfl)
 have HN:=hid hn;clear hn;go_enter Tryz.func117,Tryz.ntmps117;go_wp2;go_ret;exact⟨_,rfl,HN.out,Ext.alloc _ _⟩
theorem zuW(w:World):Calls Tryz.prog 117 #[.int .i64 15] w fun e w'=>∃v,e=.returned v/\NumR w' v 15/\Ext w w':=by
 have hn:=zbh w 15 [.int .i64 1,.int .i64 2,.int .i64 4,.int .i64 5,.int .i64 8,.int .i64 10,.int .i64 15] (fun k hk=>match k,hk with
  | 0,_=>rfl
  | 1,_=>rfl
  | 2,_=>rfl
  | 3,_=>rfl
  | 4,_=>rfl
  | 5,_=>rfl
  | 6,_=>rfl)
 have HN:=hid hn;clear hn;go_enter Tryz.func117,Tryz.ntmps117;go_wp2;go_ret;exact⟨_,rfl,HN.out,Ext.alloc _ _⟩
theorem ztg(i:Nat)(w:World)(hi:i<16):Calls Tryz.prog 117 #[.int .i64 i] w fun e w'=>∃v,e=.returned v/\NumR w' v i/\Ext w w':=by
 match i,hi with
 | 0,_=>exact of_0 w
 | 1,_=>exact of_1 w
 | 2,_=>exact of_2 w
 | 3,_=>exact of_3 w
 | 4,_=>exact of_4 w
 | 5,_=>exact of_5 w
 | 6,_=>exact of_6 w
 | 7,_=>exact of_7 w
 | 8,_=>exact of_8 w
 | 9,_=>exact of_9 w
 | 10,_=>exact zuP w
 | 11,_=>exact zuM w
 | 12,_=>exact zuY w
 | 13,_=>exact zvi w
 | 14,_=>exact zvc w
 | 15,_=>exact zuW w
 | i+16,h=>exact absurd h (by omega)
theorem zoH(A:Option Addr)(c:Nat)(bs:List UInt8)(w:World)(h:Rd w w.heap.size A 16 bs):Calls Tryz.prog 78 #[.slice A 16 c] w (RetB w (mixL bs)):=by
 have HR:=hid h;clear h;go_enter Tryz.func78,Tryz.ntmps78;go_wp2_with (at_make;refine zaP rfl (.const (.int .i64 16)) (.const (.int .i64 16)) 22 rfl Tryz.underlying22 Tryz.info5 .i64 _ 16 rfl rfl rfl (by omega) w.heap.size (Nat.le_refl _) ?_;intro w1 hown1 hb1 _)
 obtain⟨G,hG⟩:∃G,w.heap.size=G:=⟨_,rfl⟩;have HG:=hid hG;have HO1:=hid (show Own w1 G (.slice (some ⟨G,0,none⟩) 16 16) (mixS bs 0 0) by rw[ziZ,<-hG];exact hown1);have HB1:=hid (show Ext w w1 from hb1);rw[hG];clear hown1 hb1 hG;go_loopw [4] (fun v wr=>∃i:Nat,i<=16/\v=.int .i64 i/\Own wr G (.slice (some ⟨G,0,none⟩) 16 16) (mixS bs i 0)/\Ext w wr) (fun v _=>16-(intOf v).toNat)
 case atStart=>exact⟨0,by omega,rfl,HO1.out,HB1.out⟩
 case round =>
  clear HO1 HB1;obtain⟨i,hi,rfl,hO,hx⟩:=hrel;by_cases hlt:i<16
  ·have HC:=hid (ztg i wr hlt);have HO:=hid hO;have HX:=hid hx;clear hO hx;go_wp2_with fail
   refine HC.out.mono ?_;rintro e w3 ⟨v,rfl,⟨b3,rfl,hb3,hn3⟩,hx3⟩;have HN:=hid (show ∀k,k<7->w3.cell? ⟨b3,k,none⟩=some (.int .i64 (sevN i k:Nat)) from hn3);have HX3:=hid (Ext.trans HX.out hx3);have HO3:=hid (HO.out.kept hx3);have hbG:b3≠G:=by rintro rfl;have h1:=hn3 0 (by omega);have h2:=Own.celln HO3.out (zbL _ _ _) 0 (by omega);rw[h2] at h1;cases h1
   have HBG:=hid hbG;clear HC HX HO hx3 hn3 hb3 hbG;go_wp2_with fail
   go_loopw [6] (fun v wr=>∃k:Nat,k<=7/\v=.int .i64 k/\Own wr G (.slice (some ⟨G,0,none⟩) 16 16) (mixS bs i k)/\wr.heap[b3]? = w3.heap[b3]?/\Ext w wr) (fun v _=>7-(intOf v).toNat)
   case atStart=>exact⟨0,by omega,rfl,HO3.out,rfl,HX3.out⟩
   case round =>
    clear HO3 HX3;obtain⟨k,hk,rfl,hO,hh,hx⟩:=hrel;by_cases hkt:k<7
    ·have hv:=zfQ i hlt k hkt;have hcn:wr.cell? ⟨b3,k,none⟩=some (.int .i64 (sevN i k:Nat)):=by have:=HN.out k hkt;simpa [World.cell?,hh] using this
     obtain⟨b1,o1,rfl,_,hcb⟩:=(HR.out.later hx).at_ (by omega);have hc1:=hcb (sevN i k) hv;have hc2:=Own.celln hO (zbL _ _ _) i hlt;have hf2:=Own.freen hO i;have e2:nb (mixS bs i k) i=(mixK bs i k).toNat:=by unfold nb;rw[zor bs i k hlt]
     have hset:=Own.setn hO i (mixK bs i (k+1));rw[zky bs i k hlt] at hset;have e3:((mixK bs i (k+1)).toNat:Int)=bits .xor .u8 ((mixK bs i k).toNat:Int) (zah bs (sevN i k)):=by rw[show zah bs (sevN i k)=((bs.getD (sevN i k) 0).toNat:Int) from rfl,zgR];rfl
     rw[e3] at hset;rw[e2] at hc2;have hx2:=Below.setCell hx (p:=⟨G,i,none⟩) (by have:=HG.out;simp;omega) (.int .u8 (bits .xor .u8 ((mixK bs i k).toNat:Int) (zah bs (sevN i k))));have hh2:(wr.setCell ⟨G,i,none⟩ (.int .u8 (bits .xor .u8 ((mixK bs i k).toNat:Int) (zah bs (sevN i k))))).heap[b3]? = w3.heap[b3]?:=(heap_setCell_other wr ⟨G,i,none⟩ b3 _ HBG.out).trans hh;have r1:=zae bs (sevN i k);have r2:=zaf bs (sevN i k);have r3:=(mixK bs i k).toNat_lt;obtain⟨M,hM⟩:∃M:Nat,(mixK bs i k).toNat=M:=⟨_,rfl⟩;obtain⟨V,hV⟩:∃V,sevN i k=V:=⟨_,rfl⟩;rw[hM] at hc2 hset hx2 hh2 r3;rw[hV] at hc1 hcn hset hx2 hh2 r1 r2 hv;have hvi:(V:Int)<16:=by omega
     have HQ:=hid (And.intro hset (And.intro hh2 hx2));clear hO hh hx hset hh2 hx2 e2 e3 hM hV hcb;go_wp2_with fail
     go_region;go_wp2_with fail
     go_roundw
     case rel=>exact⟨k+1,by omega,by go_num,HQ.out.1,HQ.out.2.1,HQ.out.2.2.drew⟩
     case measure=>simp[intOf];omega
    ·obtain rfl:k=7:=by omega
     rw[ziv] at hO;have HQ:=hid (And.intro hO hx);clear hO hh hx;go_wp2_with fail
     go_roundw
     case rel=>exact⟨i+1,by omega,by go_num,HQ.out⟩
     case measure=>simp[intOf];omega
  ·obtain rfl:i=16:=by omega
   rw[zja] at hO;have HQ:=hid (And.intro hO hx);clear hO hx;go_wp2_with fail
   go_ret;exact⟨.slice (some ⟨G,0,none⟩) 16 16,rfl,by rw[HG.out];exact HQ.out.1,HQ.out.2⟩
def RBx(w:World)(p:Nat):Prop:=∀k,k<4->∃A c,w.cell? ⟨p,k,none⟩=some (.slice A 256 c)/\Rd w w.heap.size A 256 (tabT k)
theorem RBx.later{w w':World}{p:Nat}(h:RBx w p)(hx:Ext w w'):RBx w' p:=fun k hk=>by
 obtain⟨A,c,h1,h2⟩:=h k hk;exact⟨A,c,(Below.cell hx (p:=⟨p,k,none⟩) (World.block_lt_of_cell? w _ h1)).trans h1,h2.later hx⟩
theorem ztK(w:World):Calls Tryz.prog 104 #[.int .i64 254,.int .i64 283,.agg #[.int .u8 241,.int .u8 227,.int .u8 199,.int .u8 143,.int .u8 31,.int .u8 62,.int .u8 124,.int .u8 248],.int .u8 99] w (RetB w S1):=by
 have h:=zi0 254 283 99 rows1 w rfl (by omega) zeZ (by omega);rw[mk1] at h;exact h
theorem zt0(w:World):Calls Tryz.prog 104 #[.int .i64 247,.int .i64 283,.agg #[.int .u8 122,.int .u8 188,.int .u8 235,.int .u8 185,.int .u8 52,.int .u8 129,.int .u8 186,.int .u8 203],.int .u8 226] w (RetB w S2):=by
 have h:=zi0 247 283 226 rows2 w rfl (by omega) zeZ (by omega);rw[mk2] at h;exact h
theorem zs2(A:Option Addr)(c:Nat)(w:World)(h:Rd w w.heap.size A 256 S1):Calls Tryz.prog 105 #[.slice A 256 c] w fun e w'=>∃A' c',e=.returned (.tuple #[.slice A' 256 c',.bool true])/\Rd w' w'.heap.size A' 256 X1/\Ext w w':=by
 refine(ziF A 256 c S1 w h (by omega)).mono ?_;rintro e w' ⟨A',c',rfl,hr,hx⟩;rw[out1,show X1.length=256 from za5 2] at hr ⊢;rw[zfV zns];exact⟨A',c',rfl,hr,hx⟩
theorem ztd(A:Option Addr)(c:Nat)(w:World)(h:Rd w w.heap.size A 256 S2):Calls Tryz.prog 105 #[.slice A 256 c] w fun e w'=>∃A' c',e=.returned (.tuple #[.slice A' 256 c',.bool true])/\Rd w' w'.heap.size A' 256 X2/\Ext w w':=by
 refine(ziF A 256 c S2 w h (by omega)).mono ?_;rintro e w' ⟨A',c',rfl,hr,hx⟩;rw[out2,show X2.length=256 from za5 3] at hr ⊢;rw[zfV zlY];exact⟨A',c',rfl,hr,hx⟩
theorem zlD(w:World):Calls Tryz.prog 64 #[] w fun e w'=>∃p,e=.returned (.pointer (some ⟨p,0,none⟩))/\RBx w' p/\Ext w w':=by
 go_enter Tryz.func64,Tryz.ntmps64;go_wp2_with fail
 refine(ztK _).mono ?_;rintro e w2 ⟨v1,rfl,ho1,hx2⟩;have HX2:=hid (show Ext w w2 from hx2);obtain⟨A1,c1,rfl,hr1,_⟩:=ho1.rdn (n:=256) (za5 0);have HR1:=hid hr1;clear ho1 hx2 hr1;go_wp2_with fail
 refine(zt0 _).mono ?_;rintro e w3 ⟨v2,rfl,ho2,hx3⟩;have HX3:=hid (Ext.trans HX2.out hx3);obtain⟨A2,c2,rfl,hr2,_⟩:=ho2.rdn (n:=256) (za5 1);have HR1:=hid (HR1.out.later hx3);have HR2:=hid hr2;clear ho2 hx3 hr2;go_wp2_with fail
 refine(zs2 _ _ _ HR1.out).mono ?_;rintro e w4 ⟨A3,c3,rfl,hr3,hx4⟩;have HX4:=hid (Ext.trans HX3.out hx4);have HR1:=hid (HR1.out.later hx4);have HR2:=hid (HR2.out.later hx4);have HR3:=hid hr3;clear hx4 hr3;go_wp2_with fail
 refine(ztd _ _ _ HR2.out).mono ?_;rintro e w5 ⟨A4,c4,rfl,hr4,hx5⟩;have HX5:=hid (Ext.trans HX4.out hx5);have x6:=Ext.alloc w5 (.cells #[.slice A1 256 c1,.slice A2 256 c2,.slice A3 256 c3,.slice A4 256 c4] 188);have h6:=heap_alloc_new w5 (.cells #[.slice A1 256 c1,.slice A2 256 c2,.slice A3 256 c3,.slice A4 256 c4] 188);have hb:RBx (w5.alloc (.cells #[.slice A1 256 c1,.slice A2 256 c2,.slice A3 256 c3,.slice A4 256 c4] 188)) w5.heap.size:=fun k hk=>by
  match k,hk with
  | 0,_=>exact⟨A1,c1,by rw[cell_of_row _ _ _ _ _ _ h6];rfl,(HR1.out.later hx5).later x6⟩
  | 1,_=>exact⟨A2,c2,by rw[cell_of_row _ _ _ _ _ _ h6];rfl,(HR2.out.later hx5).later x6⟩
  | 2,_=>exact⟨A3,c3,by rw[cell_of_row _ _ _ _ _ _ h6];rfl,(HR3.out.later hx5).later x6⟩
  | 3,_=>exact⟨A4,c4,by rw[cell_of_row _ _ _ _ _ _ h6];rfl,hr4.later x6⟩
 have HB:=hid hb;have HX6:=hid (Ext.trans HX5.out x6);clear hx5 hr4 x6 h6 hb HX2 HX3 HX4 HX5 HR1 HR2 HR3;go_wp2_with fail
 go_ret;exact⟨_,rfl,HB.out,HX6.out⟩
def zsX(p G i q V Y:Nat)(bs:List UInt8):List Go.Proofs.YtokbbmngfogbbaaGreatDoor.K:=[.eq (.slice (some ⟨G,0,none⟩) 16 16),.eq (.int .i64 i),.eq (.pointer (some ⟨p,0,none⟩)),.eq (.int .i64 i),.eq (.int .i64 1),.eq (.int .i64 0),.eq (.int .i64 0),.eq (.int .i64 i),.eq (.int .i64 q),.eq (.pointer (some ⟨p,0,none⟩)),.eq (.pointer (some ⟨p,0,none⟩)),.eq (.pointer (some ⟨p,q,none⟩)),.byt 256 (tabT q),.byt 16 (bs),.eq (.int .i64 i),.ptr (.int .u8 (V:Nat)),.eq (.int .u8 V),.ptr (.int .u8 (Y:Nat)),.eq (.int .u8 Y),.eq (.pointer (some ⟨G,i,none⟩)),.any]
theorem zpA(p:Nat)(A:Option Addr)(c:Nat)(bs:List UInt8)(w:World)(hb:RBx w p)(h:Rd w w.heap.size A 16 bs):Calls Tryz.prog 77 #[.pointer (some ⟨p,0,none⟩),.int .i64 1,.slice A 16 c] w (RetB w (layL 1 bs)):=by
 have HR0:=hid h;have HB0:=hid hb;clear h hb;go_enter Tryz.func77,Tryz.ntmps77;go_wp2_with (at_make;refine zaP rfl (.tmp 10) (.tmp 10) 22 rfl Tryz.underlying22 Tryz.info5 .i64 _ 16 rfl rfl rfl (by omega) w.heap.size (Nat.le_refl _) ?_;intro w1 hown1 hb1 _)
 obtain⟨G,hG⟩:∃G,w.heap.size=G:=⟨_,rfl⟩;have HG:=hid hG;have HO1:=hid (show Own w1 G (.slice (some ⟨G,0,none⟩) 16 16) (zao (layF 1 bs) 16 0) by rw[zaG,<-hG];exact hown1);have HB1:=hid (show Ext w w1 from hb1);rw[hG];clear hown1 hb1 hG;go_loopw [8] (fun v wr=>∃i:Nat,i<=16/\v=.int .i64 i/\Own wr G (.slice (some ⟨G,0,none⟩) 16 16) (zao (layF 1 bs) 16 i)/\Ext w wr) (fun v _=>16-(intOf v).toNat)
 case atStart=>exact⟨0,by omega,rfl,HO1.out,HB1.out⟩
 case round =>
  clear HO1 HB1;obtain⟨i,hi,rfl,hO,hx⟩:=hrel;by_cases hlt:i<16
  ·obtain⟨q,hq⟩:∃q,(0+i)%4=q:=⟨_,rfl⟩;have HQ:=hid (show(i:Int).tmod 4=(q:Int)/\q<4 from⟨by rw[Int.tmod_eq_emod_of_nonneg (by omega)];omega,by omega⟩);obtain⟨V,hV⟩:∃V,nb bs i=V:=⟨_,rfl⟩;obtain⟨Y,hY⟩:∃Y,nb (tabT q) V=Y:=⟨_,rfl⟩;have hVl:=zcW bs i;have HV:=hid (And.intro hV (And.intro hY (show V<256 by omega)));have HY:=hid (show((layF 1 bs i).toNat:Int)=(Y:Int) by
    unfold layF;rw[show(2*(1-1)+i)%4=q from hq,hV,<-hY];rfl)
   have HI:=hid hlt;have HB:=hid (HB0.out.later hx);have HR:=hid (HR0.out.later hx);have HO:=hid hO;have HX:=hid hx;clear hO hx hq hV hY hVl;go_wp2_with fail
   refine zb4 20 (zsX p G i q V Y bs) (zab ⟨fun _ _ _ h=>h.mv,fun _ _ _ h=>h.mv,fun _ _ _ h=>h.mv,fun _ _ _ h=>h.mv,fun _ _ _ h=>h.mv,?_,?_,?_,?_,?_,?_,?_,?_,?_,fun _ _ _ h=>h.mv,?_,?_,?_,?_,?_,fun h=>absurd rfl h,trivial⟩) ?_
   ·intro _ a w hk;have s22:=hk.eq_ 4 22;refine za ?_;go_simp
    try exact IntWalk.i64_in _ (by omega)
   ·intro _ a w hk;have s23:=hk.eq_ 5 23;refine za ?_;go_simp
    try exact IntWalk.i64_in _ (by omega)
   ·intro _ a w hk;have s21:=hk.eq_ 3 21;have s24:=hk.eq_ 6 24;refine za ?_;have hi:=HI.out;go_simp;exact IntWalk.i64_in _ (by omega)
   ·intro _ a w hk;have s25:=hk.eq_ 7 25;refine za ?_;have e:=HQ.out.1;go_simp
   ·intro _ a w hk;have s20:=hk.eq_ 2 20;refine za ?_;go_simp
   ·intro _ a w hk;have s27:=hk.eq_ 9 27;refine za ?_;go_simp
   ·intro _ a w hk;have s28:=hk.eq_ 10 28;have s26:=hk.eq_ 8 26;refine za ?_;have hi3:(q:Int)<4:=by have:=HQ.out.2;omega
    go_simp
   ·intro _ a w hk;have s29:=hk.eq_ 11 29;obtain⟨A12,c12,hc12,hr12⟩:=(HB.out.later hk.ext) q HQ.out.2;refine zaW (.slice A12 256 c12) ?_ ⟨_,_,rfl,hr12⟩;go_simp
   ·intro _ a w hk;have s2:a.tmps.getD 2 undef=.slice A 16 c:=hk.was 2;have r2:=(HR.out).later hk.ext;exact zau rfl rfl s2 ⟨_,_,rfl,r2⟩
   ·intro _ a w hk;obtain⟨A31,c31,s31,r31⟩:=hk.byt_ 13 31;have s32:=hk.eq_ 14 32;obtain⟨b,o,rfl,hb,hc⟩:=r31.at_ (by omega);have hc1:=hc i HI.out;rw[zaV,HV.out.1] at hc1;have hi3:(i:Int)<16:=by have:=HI.out;omega
    refine zaW (.pointer (some ⟨b,o+i,none⟩)) ?_ ⟨_,rfl,hb,hc1⟩;go_simp
   ·intro _ a w hk;obtain⟨p33,s33,h33,g33⟩:=hk.val 15 33;obtain⟨pb,po,pn⟩:=p33;refine za ?_;go_simp
   ·intro _ a w hk;obtain⟨A30,c30,s30,r30⟩:=hk.byt_ 12 30;have s34:=hk.eq_ 16 34;obtain⟨b,o,rfl,hb,hc⟩:=r30.at_ (by omega);have hc1:=hc V HV.out.2.2;rw[zaV,HV.out.2.1] at hc1;have hi3:(V:Int)<256:=by have:=HV.out.2.2;omega
    refine zaW (.pointer (some ⟨b,o+V,none⟩)) ?_ ⟨_,rfl,hb,hc1⟩;go_simp
   ·intro _ a w hk;obtain⟨p35,s35,h35,g35⟩:=hk.val 17 35;obtain⟨pb,po,pn⟩:=p35;refine za ?_;go_simp
   ·intro _ a w hk;have s18:=hk.eq_ 0 18;have s19:=hk.eq_ 1 19;refine za ?_;have hi3:(i:Int)<16:=by have:=HI.out;omega
    go_simp
   ·intro a w1 hf;obtain⟨A30,c30,s30,r30⟩:=hf.val 12 30;obtain⟨A31,c31,s31,r31⟩:=hf.val 13 31;have hx:=hf.ext;have e:=hf.fr;clear hf;simp only[zsX,frV,kPut,Act.put,List.setIfInBounds_toArray,List.set_cons_zero,List.set_cons_succ,s30,s31] at e;generalize a.tmps.getD 33 undef=u33 at e;generalize a.tmps.getD 35 undef=u35 at e;clear s30 s31;subst e;have ho:=HO.out.kept hx;have hcell:=Own.celln ho (zad _ _ _) i HI.out;have hfree:=Own.freen ho i;have hset:=Own.setn ho i (layF 1 bs i);rw[zaO _ _ _ _ rfl,HY.out] at hset;have hx2:=Below.setCell (Ext.trans HX.out hx) (p:=⟨G,i,none⟩) (by have:=HG.out;simp;omega) (.int .u8 ((Y:Nat):Int));refine zdd (.tmp 37) (.tmp 36) rfl rfl G i Y _ rfl rfl hcell hfree ?_;have HN:=hid (And.intro hset hx2);clear hx ho hcell hfree hset hx2;go_wp2_with fail
    go_roundw
    case rel=>exact⟨i+1,by have:=HI.out;omega,by go_num,HN.out⟩
    case measure=>have:=HI.out;simp[intOf];omega
  ·obtain rfl:i=16:=by omega
   rw[zaE] at hO;have HQ:=hid (And.intro hO hx);clear hO hx;go_wp2_with fail
   go_ret;exact⟨.slice (some ⟨G,0,none⟩) 16 16,rfl,by rw[HG.out];exact HQ.out.1,HQ.out.2⟩
def ztI(p G i q V Y:Nat)(bs:List UInt8):List Go.Proofs.YtokbbmngfogbbaaGreatDoor.K:=[.eq (.slice (some ⟨G,0,none⟩) 16 16),.eq (.int .i64 i),.eq (.pointer (some ⟨p,0,none⟩)),.eq (.int .i64 i),.eq (.int .i64 2),.eq (.int .i64 1),.eq (.int .i64 2),.eq (.int .i64 (i+2:Nat)),.eq (.int .i64 q),.eq (.pointer (some ⟨p,0,none⟩)),.eq (.pointer (some ⟨p,0,none⟩)),.eq (.pointer (some ⟨p,q,none⟩)),.byt 256 (tabT q),.byt 16 (bs),.eq (.int .i64 i),.ptr (.int .u8 (V:Nat)),.eq (.int .u8 V),.ptr (.int .u8 (Y:Nat)),.eq (.int .u8 Y),.eq (.pointer (some ⟨G,i,none⟩)),.any]
theorem zpI(p:Nat)(A:Option Addr)(c:Nat)(bs:List UInt8)(w:World)(hb:RBx w p)(h:Rd w w.heap.size A 16 bs):Calls Tryz.prog 77 #[.pointer (some ⟨p,0,none⟩),.int .i64 2,.slice A 16 c] w (RetB w (layL 2 bs)):=by
 have HR0:=hid h;have HB0:=hid hb;clear h hb;go_enter Tryz.func77,Tryz.ntmps77;go_wp2_with (at_make;refine zaP rfl (.tmp 10) (.tmp 10) 22 rfl Tryz.underlying22 Tryz.info5 .i64 _ 16 rfl rfl rfl (by omega) w.heap.size (Nat.le_refl _) ?_;intro w1 hown1 hb1 _)
 obtain⟨G,hG⟩:∃G,w.heap.size=G:=⟨_,rfl⟩;have HG:=hid hG;have HO1:=hid (show Own w1 G (.slice (some ⟨G,0,none⟩) 16 16) (zao (layF 2 bs) 16 0) by rw[zaG,<-hG];exact hown1);have HB1:=hid (show Ext w w1 from hb1);rw[hG];clear hown1 hb1 hG;go_loopw [8] (fun v wr=>∃i:Nat,i<=16/\v=.int .i64 i/\Own wr G (.slice (some ⟨G,0,none⟩) 16 16) (zao (layF 2 bs) 16 i)/\Ext w wr) (fun v _=>16-(intOf v).toNat)
 case atStart=>exact⟨0,by omega,rfl,HO1.out,HB1.out⟩
 case round =>
  clear HO1 HB1;obtain⟨i,hi,rfl,hO,hx⟩:=hrel;by_cases hlt:i<16
  ·obtain⟨q,hq⟩:∃q,(2+i)%4=q:=⟨_,rfl⟩;have HQ:=hid (show((i+2:Nat):Int).tmod 4=(q:Int)/\q<4 from⟨by rw[Int.tmod_eq_emod_of_nonneg (by omega)];omega,by omega⟩);obtain⟨V,hV⟩:∃V,nb bs i=V:=⟨_,rfl⟩;obtain⟨Y,hY⟩:∃Y,nb (tabT q) V=Y:=⟨_,rfl⟩;have hVl:=zcW bs i;have HV:=hid (And.intro hV (And.intro hY (show V<256 by omega)));have HY:=hid (show((layF 2 bs i).toNat:Int)=(Y:Int) by
    unfold layF;rw[show(2*(2-1)+i)%4=q from hq,hV,<-hY];rfl)
   have HI:=hid hlt;have HB:=hid (HB0.out.later hx);have HR:=hid (HR0.out.later hx);have HO:=hid hO;have HX:=hid hx;clear hO hx hq hV hY hVl;go_wp2_with fail
   refine zb4 20 (ztI p G i q V Y bs) (zab ⟨fun _ _ _ h=>h.mv,fun _ _ _ h=>h.mv,fun _ _ _ h=>h.mv,fun _ _ _ h=>h.mv,fun _ _ _ h=>h.mv,?_,?_,?_,?_,?_,?_,?_,?_,?_,fun _ _ _ h=>h.mv,?_,?_,?_,?_,?_,fun h=>absurd rfl h,trivial⟩) ?_
   ·intro _ a w hk;have s22:=hk.eq_ 4 22;refine za ?_;go_simp
    try exact IntWalk.i64_in _ (by omega)
   ·intro _ a w hk;have s23:=hk.eq_ 5 23;refine za ?_;go_simp
    try exact IntWalk.i64_in _ (by omega)
   ·intro _ a w hk;have s21:=hk.eq_ 3 21;have s24:=hk.eq_ 6 24;refine za ?_;have hi:=HI.out;have hi3:(i:Int)<16:=by omega
    go_simp;exact IntWalk.i64_in _ (by omega)
   ·intro _ a w hk;have s25:=hk.eq_ 7 25;refine za ?_;have e:=HQ.out.1;obtain⟨j,hj⟩:∃j,i+2=j:=⟨_,rfl⟩;rw[hj] at s25 e;go_simp
   ·intro _ a w hk;have s20:=hk.eq_ 2 20;refine za ?_;go_simp
   ·intro _ a w hk;have s27:=hk.eq_ 9 27;refine za ?_;go_simp
   ·intro _ a w hk;have s28:=hk.eq_ 10 28;have s26:=hk.eq_ 8 26;refine za ?_;have hi3:(q:Int)<4:=by have:=HQ.out.2;omega
    go_simp
   ·intro _ a w hk;have s29:=hk.eq_ 11 29;obtain⟨A12,c12,hc12,hr12⟩:=(HB.out.later hk.ext) q HQ.out.2;refine zaW (.slice A12 256 c12) ?_ ⟨_,_,rfl,hr12⟩;go_simp
   ·intro _ a w hk;have s2:a.tmps.getD 2 undef=.slice A 16 c:=hk.was 2;have r2:=(HR.out).later hk.ext;exact zau rfl rfl s2 ⟨_,_,rfl,r2⟩
   ·intro _ a w hk;obtain⟨A31,c31,s31,r31⟩:=hk.byt_ 13 31;have s32:=hk.eq_ 14 32;obtain⟨b,o,rfl,hb,hc⟩:=r31.at_ (by omega);have hc1:=hc i HI.out;rw[zaV,HV.out.1] at hc1;have hi3:(i:Int)<16:=by have:=HI.out;omega
    refine zaW (.pointer (some ⟨b,o+i,none⟩)) ?_ ⟨_,rfl,hb,hc1⟩;go_simp
   ·intro _ a w hk;obtain⟨p33,s33,h33,g33⟩:=hk.val 15 33;obtain⟨pb,po,pn⟩:=p33;refine za ?_;go_simp
   ·intro _ a w hk;obtain⟨A30,c30,s30,r30⟩:=hk.byt_ 12 30;have s34:=hk.eq_ 16 34;obtain⟨b,o,rfl,hb,hc⟩:=r30.at_ (by omega);have hc1:=hc V HV.out.2.2;rw[zaV,HV.out.2.1] at hc1;have hi3:(V:Int)<256:=by have:=HV.out.2.2;omega
    refine zaW (.pointer (some ⟨b,o+V,none⟩)) ?_ ⟨_,rfl,hb,hc1⟩;go_simp
   ·intro _ a w hk;obtain⟨p35,s35,h35,g35⟩:=hk.val 17 35;obtain⟨pb,po,pn⟩:=p35;refine za ?_;go_simp
   ·intro _ a w hk;have s18:=hk.eq_ 0 18;have s19:=hk.eq_ 1 19;refine za ?_;have hi3:(i:Int)<16:=by have:=HI.out;omega
    go_simp
   ·intro a w1 hf;obtain⟨A30,c30,s30,r30⟩:=hf.val 12 30;obtain⟨A31,c31,s31,r31⟩:=hf.val 13 31;have hx:=hf.ext;have e:=hf.fr;clear hf;simp only[ztI,frV,kPut,Act.put,List.setIfInBounds_toArray,List.set_cons_zero,List.set_cons_succ,s30,s31] at e;generalize a.tmps.getD 33 undef=u33 at e;generalize a.tmps.getD 35 undef=u35 at e;clear s30 s31;subst e;have ho:=HO.out.kept hx;have hcell:=Own.celln ho (zad _ _ _) i HI.out;have hfree:=Own.freen ho i;have hset:=Own.setn ho i (layF 2 bs i);rw[zaO _ _ _ _ rfl,HY.out] at hset;have hx2:=Below.setCell (Ext.trans HX.out hx) (p:=⟨G,i,none⟩) (by have:=HG.out;simp;omega) (.int .u8 ((Y:Nat):Int));refine zdd (.tmp 37) (.tmp 36) rfl rfl G i Y _ rfl rfl hcell hfree ?_;have HN:=hid (And.intro hset hx2);clear hx ho hcell hfree hset hx2;go_wp2_with fail
    go_roundw
    case rel=>exact⟨i+1,by have:=HI.out;omega,by go_num,HN.out⟩
    case measure=>have:=HI.out;simp[intOf];omega
  ·obtain rfl:i=16:=by omega
   rw[zaE] at hO;have HQ:=hid (And.intro hO hx);clear hO hx;go_wp2_with fail
   go_ret;exact⟨.slice (some ⟨G,0,none⟩) 16 16,rfl,by rw[HG.out];exact HQ.out.1,HQ.out.2⟩
theorem zfk(k:Nat):(Builtin.zeroCells (Value.int .u8 0).cells k).toList=cellsOf (List.replicate k 0):=by
 apply List.ext_getElem
 ·simp[Builtin.zeroCells,cellsOf,Value.cells]
 ·intro i h1 h2;simp[Builtin.zeroCells,cellsOf,Value.cells,Nat.mod_one]
theorem zik(w:World)(base g sLen cap k:Nat)(xs:List UInt8)(ty:TypeId)(ho:Own w base (.slice (some ⟨g,0,none⟩) sLen cap) xs)(hl:xs.length=sLen)(hs:sLen<=1000)(hk:k<=1000)(hb:base<=w.heap.size):
  ∃v' w',(Builtin.append_ #[22,3] ty #[.slice (some ⟨g,0,none⟩) sLen cap,.int .i64 k]).run Tryz.prog w=.ok v' w'/\Own w' base v' (xs++List.replicate k 0)/\Below base w w':=by
 obtain⟨i0,hi0,hz0,hz1,hz2⟩:=info_parts Tryz.info5;have hcl:(cellsOf xs).length=sLen:=by rw[zaa];exact hl
 have hw:IntKind.i64.wrap (k:Int)=k:=by rw[IntKind.wrap_i64];omega
 have hneg:¬((k:Int)<0):=by omega
 have h48i:¬(281474976710656<(k:Int)*(i0.bytes:Int)):=by rw[hz2];omega
 have hcells:∀j v,(cellsOf xs)[j]? = some v->w.cell? ⟨g,j,none⟩=some v:=fun j v hv=>by
  have hj:j<xs.length:=by have:=(List.getElem?_eq_some_iff.1 hv).1;rwa[zaa] at this
  have ho':Own w base (.slice (some ⟨g,0,none⟩) xs.length cap) xs:=by rw[hl];exact ho
  rw[ho'.cell j hj,<-hv,zam xs j hj]
 rcases ho.2 with⟨h1,_⟩|⟨g',cap',cur,h1,hbg,hh,hnc,hcm,hsz,htk⟩
 ·cases h1
 simp only[Value.slice.injEq,Option.some.injEq,Addr.mk.injEq,and_true] at h1;obtain⟨rfl,hsl,rfl⟩:=h1;by_cases hk0:k=0
 ·subst hk0;refine⟨.slice (some ⟨g,0,none⟩) sLen cap,w,?_,by simpa using ho,Below.refl _ _⟩;have hfit:sLen<=cap:=by omega
  have hw0:IntKind.i64.wrap 0=0:=by rw[IntKind.wrap_i64];omega
  simp[Builtin.append_,run_underlying Tryz.underlying22,run_underlying Tryz.underlying3,sizeOf,typeInfo,hi0,asInt,asIntOf,hw0,hfit,storeCells]
 ·have hns:¬(k*i0.size=0):=by rw[hz1];omega
  by_cases hfit:sLen+k<=cap
  ·have hst:=run_storeCells_at Tryz.prog g sLen 5 (cellsOf (List.replicate k 0)) 0 cur w hh (by rw[zaa];simp;omega) (zby _);refine⟨.slice (some ⟨g,0,none⟩) (sLen+k) cap,w.setRow g (cur.toList.take (sLen+0)++cellsOf (List.replicate k 0)++cur.toList.drop (sLen+0+(cellsOf (List.replicate k 0)).length)).toArray,?_,?_,below_setRow (Below.refl _ _) hbg _⟩
   ·have hadd:(⟨g,0,none⟩:Addr).add (sLen*i0.size)=⟨g,sLen,none⟩:=by rw[hz1,Nat.mul_one,zd2]
    have hzc:=zfk k;simp[Builtin.append_,run_underlying Tryz.underlying22,run_underlying Tryz.underlying3,sizeOf,typeInfo,zeroValue,hi0,hz0,asInt,asIntOf,hw,hneg,h48i,hns,hfit,hadd,hzc,hst]
   ·have hrow:=setRow_heap w g cur (cur.toList.take (sLen+0)++cellsOf (List.replicate k 0)++cur.toList.drop (sLen+0+(cellsOf (List.replicate k 0)).length)).toArray 5 (0,0) hh;refine⟨by rw[zaa,Nat.mul_one],.inr ⟨g,cap,_,by rw[List.length_append,List.length_replicate,hl],hbg,hrow,by simp;omega,hcm,?_,?_⟩⟩
    ·simp[zaa];omega
    ·rw[List.toList_toArray];rw[Nat.add_zero];have ht:cur.toList.take sLen=cellsOf xs:=by rw[<-htk,hl,Nat.mul_one]
     rw[ht,zcY];exact List.take_left' (by rw[List.length_append,zaa,zaa,List.length_append,Nat.mul_one])
  ·have hold:(Builtin.firstCells i0.size sLen (.slice (some ⟨g,0,none⟩) sLen cap)).run Tryz.prog w.drew=.ok (cellsOf xs).toArray w.drew:=by have hld:=run_loadCells_list (P:=Tryz.prog) w.drew ⟨g,0,none⟩ (cellsOf xs) (fun j v hv=>by rw[zd2];exact hcells j v hv);rw[hcl] at hld;simp[Builtin.firstCells,hz1,hld]
   have hcap:Builtin.nextslicecap (sLen+k) cap<=281474976710656:=by have:=nextslicecap_le (need:=sLen+k) (old:=cap) (by omega);omega
   have hr:=Lib.run_append_grow_zeros (P:=Tryz.prog) w 22 3 ty 5 i0 (.int .u8 0) .i64 .i64 Tryz.underlying22 Tryz.underlying3 hi0 hz0 (some ⟨g,0,none⟩) sLen cap (cellsOf xs) hold k (by omega) (by omega) (by omega) (by omega) (by rw[hz2];omega) (by rw[hz2];omega);refine⟨_,_,hr,?_,?_⟩
   ·have hge:=grownCap_ge w (sLen+k) cap 5;have hlm:=grownCap_le_maxLen w (sLen+k) cap 5 (by unfold maxLen;omega);obtain⟨C,hC⟩:∃C,grownCap w (sLen+k) cap 5=C:=⟨_,rfl⟩;rw[hC] at hge hlm ⊢;have hsz1:∀n,(Builtin.zeroCells (Value.int .u8 0).cells n).size=n:=fun n=>by simp[Builtin.zeroCells,Value.cells]
    refine⟨by rw[zaa,Nat.mul_one],.inr ⟨w.heap.size,C,_,by rw[List.length_append,List.length_replicate,hl],hb,heap_alloc_new _ _,by simp;omega,hlm,?_,?_⟩⟩
    ·rw[Array.size_append,Array.size_append,hsz1,hsz1,List.size_toArray,hcl];omega
    ·rw[Array.toList_append,Array.toList_append,zfk,<-zcY];exact List.take_left' (by rw[zaa,Nat.mul_one])
   ·exact(show Below base w w.drew from⟨rfl,rfl,rfl,Nat.le_refl _,fun _ _=>rfl⟩).alloc hb _
theorem cf56(vs:Array Value)(w:World):(callFunc 150 vs).run Tryz.prog w=.ok (.enter 150 vs) w:=by go_simp
def OwnP(base:Nat)(bs:List UInt8)(w:World)(v:Value):Prop:=∃u,v=u/\Own w base u bs
theorem OwnP.keep(base:Nat)(bs:List UInt8):∀w w' v,Ext w w'->OwnP base bs w v->OwnP base bs w' v:=fun _ _ _ hx ⟨u,h1,h2⟩=>⟨u,h1,h2.kept hx⟩
theorem zi8{w:World}{bs:List UInt8}{H:Nat}(hH:H<=w.heap.size)(e:Ending)(w':World)(h:RetB w bs e w'):∃v,e=.returned v/\Ext w w'/\Go.Proofs.YtokbbmngfogbbaaGreatDoor.K.holds (.gen (OwnP H bs) (OwnP.keep _ _)) w' v:=by
 obtain⟨v,rfl,ho,hb⟩:=h;exact⟨v,rfl,hb,v,rfl,ho.base_mono hH⟩
theorem zeS(p which:Nat)(A A':Option Addr)(c c':Nat)(b k:List UInt8)(w:World)(hw:which=1\/which=2)(hb:RBx w p)(h:Rd w w.heap.size A 16 b)(h':Rd w w.heap.size A' 16 k):
  Calls Tryz.prog 79 #[.pointer (some ⟨p,0,none⟩),.int .i64 which,.slice A 16 c,.slice A' 16 c'] w (RetB w (mixL (layL which (xorL b k 16)))):=by
 have HC:=hid (zeE A A' 16 c c' b k w h h' (by omega));have HL:=hid (show ∀A c bs w,RBx w p->Rd w w.heap.size A 16 bs->Calls Tryz.prog 77 #[.pointer (some ⟨p,0,none⟩),.int .i64 which,.slice A 16 c] w (RetB w (layL which bs)) from fun A c bs w h1 h2=>by
  rcases hw with rfl|rfl
  ·exact zpA p A c bs w h1 h2
  ·exact zpI p A c bs w h1 h2)
 have HB:=hid hb;clear hw hb h h';go_enter Tryz.func79,Tryz.ntmps79;go_wp2_with fail
 refine HC.out.mono ?_;rintro e w1 ⟨v1,rfl,ho1,hx1⟩;obtain⟨A1,c1,rfl,hr1,_⟩:=ho1.rdn (n:=16) (zar b k 16);have HX1:=hid (show Ext w w1 from hx1);have HR1:=hid hr1;clear ho1 hx1 hr1 HC;go_wp2_with fail
 refine(HL.out A1 c1 (xorL b k 16) _ (HB.out.later HX1.out) HR1.out).mono ?_;rintro e w2 ⟨v2,rfl,ho2,hx2⟩;obtain⟨A2,c2,rfl,hr2,_⟩:=ho2.rdn (n:=16) (zbf _ _);have HX2:=hid (Ext.trans HX1.out (show Ext w1 w2 from hx2));have HR2:=hid hr2;clear ho2 hx2 hr2 HX1 HR1;go_wp2_with fail
 refine(zoH A2 c2 _ _ HR2.out).mono ?_;rintro e w3 ⟨v3,rfl,ho3,hx3⟩;have HH:=hid (And.intro (ho3.base_mono HX2.out.size) (Ext.trans HX2.out (show Ext w2 w3 from hx3)));clear ho3 hx3 HR2 HX2;go_wp2_with fail
 go_ret;exact⟨_,rfl,HH.out.1,HH.out.2⟩
def RCn(w:World)(H r:Nat):Prop:=w.cell? ⟨H,r,none⟩=some (.int .u64 (chi r))/\w.cell? ⟨H+1,r,none⟩=some (.int .u64 (clo r))
theorem RCn.later{w w':World}{H r:Nat}(h:RCn w H r)(hx:Ext w w'):RCn w' H r :=
 ⟨(Below.cell hx (p:=⟨H,r,none⟩) (World.block_lt_of_cell? w _ h.1)).trans h.1,(Below.cell hx (p:=⟨H+1,r,none⟩) (World.block_lt_of_cell? w _ h.2)).trans h.2⟩
def rcKs(H i r:Nat):List Go.Proofs.YtokbbmngfogbbaaGreatDoor.K:=[.eq (.slice (some ⟨H,0,none⟩) 3 3),.eq (.int .i64 i),.eq (.int .i64 r),.eq (.pointer (some ⟨H,r,none⟩)),.eq (.int .u64 (chi r)),.gen (OwnP H (zay (chi r) 8)) (OwnP.keep _ _),.eq (.slice (some ⟨H+1,0,none⟩) 3 3),.eq (.int .i64 i),.eq (.int .i64 r),.eq (.pointer (some ⟨H+1,r,none⟩)),.eq (.int .u64 (clo r)),.byt 8 (zay (clo r) 8),.any,.any]
theorem zeU(i:Nat)(w:World)(hi:i<=1000):Calls Tryz.prog 106 #[.int .i64 i] w (RetB w (zaS i)):=by
 obtain⟨r,hr⟩:∃r,i%3=r:=⟨_,rfl⟩;have HTM:=hid (show(i:Int).tmod 3=(r:Int)/\(r:Int)<3 from⟨by rw[Int.tmod_eq_emod_of_nonneg (by omega)];omega,by omega⟩);have HCL:=hid (show zay (chi r) 8++zay (clo r) 8=zaS i by rw[zaS,hr]);have h1:=heap_alloc2_old w (.cells #[.int .u64 5871781006564002452,.int .u64 7904181063698728992,.int .u64 15821769039155751280] 135) (.cells #[.int .u64 18308165927316385504,.int .u64 18386141011142107824,.int .u64 226472410124699918] 135);have h2:=heap_alloc2_new w (.cells #[.int .u64 5871781006564002452,.int .u64 7904181063698728992,.int .u64 15821769039155751280] 135) (.cells #[.int .u64 18308165927316385504,.int .u64 18386141011142107824,.int .u64 226472410124699918] 135)
 have hx:=(Ext.alloc w (.cells #[.int .u64 5871781006564002452,.int .u64 7904181063698728992,.int .u64 15821769039155751280] 135)).trans (Ext.alloc _ (.cells #[.int .u64 18308165927316385504,.int .u64 18386141011142107824,.int .u64 226472410124699918] 135));obtain⟨W,hW⟩:∃W,(w.alloc (.cells #[.int .u64 5871781006564002452,.int .u64 7904181063698728992,.int .u64 15821769039155751280] 135)).alloc (.cells #[.int .u64 18308165927316385504,.int .u64 18386141011142107824,.int .u64 226472410124699918] 135)=W:=⟨_,rfl⟩;rw[hW] at h1 h2 hx;obtain⟨H,hH⟩:∃H,w.heap.size=H:=⟨_,rfl⟩;rw[hH] at h1 h2;have hr3:r<3:=by omega
 have HC:=hid (show RCn W H r from⟨by
   rw[cell_of_row _ _ _ _ _ _ h1]
   match r,hr3 with
   | 0,_=>rfl
   | 1,_=>rfl
   | 2,_=>rfl,by
   rw[cell_of_row _ _ _ _ _ _ h2]
   match r,hr3 with
   | 0,_=>rfl
   | 1,_=>rfl
   | 2,_=>rfl⟩)
 have HX:=hid hx;have HW:=hid (And.intro hW hH);have HH:=hid (show H<=W.heap.size by rw[<-hH];exact hx.size);clear hr h1 h2 hx hW hH hr3;go_enter Tryz.func106,Tryz.ntmps106;go_wp2_with fail
 rw[HW.out.1,HW.out.2];refine zaD 12 (rcKs H i r) (zab ⟨fun _ _ h=>h.mv,fun _ _ h=>h.mv,?_,?_,?_,?_,fun _ _ h=>h.mv,fun _ _ h=>h.mv,?_,?_,?_,?_,trivial⟩) ?_
 ·intro a w hk;have s8:=hk.eq_ 1 8;refine za ?_;have e:=HTM.out.1;go_simp
 ·intro a w hk;have s7:=hk.eq_ 0 7;have s9:=hk.eq_ 2 9;refine za ?_;have e:(r:Int)<3:=HTM.out.2;go_simp
 ·intro a w hk;have s10:=hk.eq_ 3 10;refine za ?_;have hc:=(HC.out.later hk.ext).1;go_simp
 ·intro a w hk;exact hk.call cf56 (zgP (chi r) w) (fun e w1 h=>zi8 (Nat.le_trans HH.out (Below.size hk.ext)) e w1 h)
 ·intro a w hk;have s14:=hk.eq_ 7 14;refine za ?_;have e:=HTM.out.1;go_simp
 ·intro a w hk;have s13:=hk.eq_ 6 13;have s15:=hk.eq_ 8 15;refine za ?_;have e:(r:Int)<3:=HTM.out.2;go_simp
 ·intro a w hk;have s16:=hk.eq_ 9 16;refine za ?_;have hc:=(HC.out.later hk.ext).2;go_simp
 ·exact fun _ w h=>h.call cf56 (zgP (clo r) w) (fun e w1 h=>RetB.k (zaJ _ _) e w1 h)
 ·intro a w1 hf;obtain⟨u12,s12,g12⟩:=hf.val 5 12;obtain⟨A18,c18,s18,r18⟩:=hf.val 11 18;have hx:=hf.ext;have e:=hf.fr;clear hf;simp only[List.take_succ_cons,List.take_zero,rcKs,frV,kPut,Act.put,List.setIfInBounds_toArray,List.set_cons_zero,List.set_cons_succ,s12,s18] at e;clear s12 s18;subst e;simp only[List.drop_succ_cons,List.drop_zero];have HO:=hid g12;have HR:=hid r18;have hsz:=Below.size (show Ext W w1 from hx);have HB:=hid (Nat.le_trans HH.out hsz);have HX1:=hid (Ext.trans HX.out hx);clear g12 r18 hx hsz;go_wp2_with (at_builtin;refine za9 _ rfl (.tmp 12) (.tmp 18) 22 rfl Tryz.underlying22 Tryz.info5 H u12 _ rfl HO.out _ A18 8 c18 _ rfl HR.out (by rw[zaJ];omega) HB.out ?_;intro v3 w3 hown3 hb3)
  rw[HCL.out] at hown3;have HH3:=hid (show Own w3 w.heap.size v3 (zaS i)/\Below w.heap.size w w3 by
   rw[<-HW.out.2] at hown3 hb3;exact⟨hown3,(show Below w.heap.size w w1 from HX1.out).trans hb3⟩)
  clear hown3 hb3;go_wp2_with fail
  go_ret;exact⟨_,rfl,HH3.out.1,HH3.out.2⟩
theorem cf20(vs:Array Value)(w:World):(callFunc 27 vs).run Tryz.prog w=.ok (.enter 27 vs) w:=by go_simp
theorem cf40(vs:Array Value)(w:World):(callFunc 79 vs).run Tryz.prog w=.ok (.enter 79 vs) w:=by go_simp
theorem cf41(vs:Array Value)(w:World):(callFunc 106 vs).run Tryz.prog w=.ok (.enter 106 vs) w:=by go_simp
theorem cf42(vs:Array Value)(w:World):(callFunc 101 vs).run Tryz.prog w=.ok (.enter 101 vs) w:=by go_simp
theorem zoy{P:Program}(w:World){ops:Array Oper}{rest:List Oper}{o:Oper}{a:Act}{Q:Exit->Act->World->Prop}(hgd:o.guard=none)(s x:Operand)(t1 t2:TypeId)
  (ho:o.op=.call { callee:=.builtin .append,args:=#[s,x],argTypes:=#[t1,t2] }) (vs vx v':Value) (w':World) (hs:a.eval s=vs) (hx:a.eval x=vx)
  (hrun:(Builtin.append_ #[t1,t2] o.type #[vs,vx]).run P w=.ok v' w') (h:wpList P ops Q rest (a.put o.dst v') w'):wpList P ops Q (o::rest) a w:=by
 refine wpList_plain hgd fun K hK'=>?_
 unfold Oper.wp execOp;simp only[ho,resolve,invoke,builtin,Sem.run_bind,Sem.run_pure,Result.andThen_ok,List.map_toArray,List.map_cons,List.map_nil,hs,hx,hrun];exact hK' _ _ h
theorem znK(w:World)(ty:TypeId)(g c:Nat)(A:Option Addr):(Builtin.append_ #[22,22] ty #[.slice (some ⟨g,0,none⟩) 0 0,.slice A 0 c]).run Tryz.prog w=.ok (.slice (some ⟨g,0,none⟩) 0 0) w:=by
 obtain⟨i0,hi0,hz0,hz1,hz2⟩:=info_parts Tryz.info5;cases A<;>simp[Builtin.append_,run_underlying Tryz.underlying22,sizeOf,typeInfo,hi0,Builtin.lenOf,Builtin.firstCells,storeCells,loadCells,loadCellsFrom]
theorem zgA{o:Oper}{a:Act}{w:World}{K:Act->World->Prop}{Q:Exit->Act->World->Prop}(x y:Operand)(ho:o.op=.store 22 x y)(hd:o.dst=none)
  (g k n c:Nat) (A:Option Addr) (old:Value) (hx:a.eval x=.pointer (some ⟨g,k,none⟩)) (hy:a.eval y=.slice A n c)
  (hc:w.cell? ⟨g,k,none⟩=some old) (hf:w.frozen? ⟨g,k,none⟩=false)
  (h:K a (w.setCell ⟨g,k,none⟩ (.slice A n c))):o.wp Tryz.prog a w K Q:=by
 have hrun:(Instr.storeAt 22 (.pointer (some ⟨g,k,none⟩)) (.slice A n c)).run Tryz.prog w=.ok () (w.setCell ⟨g,k,none⟩ (.slice A n c)):=by go_simp
 unfold Oper.wp execOp;simp only[ho,hx,hy,Sem.run_bind,Sem.run_pure,hrun,Result.andThen_ok];have h':K (a.put o.dst undef) (w.setCell ⟨g,k,none⟩ (.slice A n c)):=by rw[hd];exact h
 exact h'
def WS(w:World)(B:Nat)(key:List UInt8)(j:Nat):Prop :=
 ∃xs:List Value,xs.length=4/\w.heap[B]? = some (.cells xs.toArray 186 (0,0))/\(∀k,k<4->∃A n c,xs[k]? = some (.slice A n c)) /\
  ∀k,k<j->∃A c,xs[k]? = some (.slice A 16 c)/\Rd w w.heap.size A 16 (zbi key k)
theorem WS.lt{w:World}{B:Nat}{key:List UInt8}{j:Nat}(h:WS w B key j):B<w.heap.size:=by
 obtain⟨xs,_,h2,_⟩:=h;exact(Array.getElem?_eq_some_iff.1 h2).1
theorem WS.later{w w':World}{B:Nat}{key:List UInt8}{j:Nat}(h:WS w B key j)(hx:Ext w w'):WS w' B key j:=by
 have hl:=h.lt;obtain⟨xs,h1,h2,h3,h4⟩:=h;exact⟨xs,h1,(hx.block B hl).trans h2,h3,fun k hk=>by obtain⟨A,c,e,hr⟩:=h4 k hk;exact⟨A,c,e,hr.later hx⟩⟩
theorem WS.at_{w:World}{B:Nat}{key:List UInt8}{j:Nat}(h:WS w B key j)(k:Nat)(hk:k<j):∃A c,w.cell? ⟨B,k,none⟩=some (.slice A 16 c)/\Rd w w.heap.size A 16 (zbi key k):=by
 obtain⟨xs,h1,h2,h3,h4⟩:=h;obtain⟨A,c,e,hr⟩:=h4 k hk;exact⟨A,c,by rw[cell_of_row _ _ _ _ _ _ h2];simpa using e,hr⟩
theorem WS.was{w:World}{B:Nat}{key:List UInt8}{j:Nat}(h:WS w B key j)(k:Nat)(hk:k<4):∃old,w.cell? ⟨B,k,none⟩=some old:=by
 obtain⟨xs,h1,h2,h3,h4⟩:=h;obtain⟨A,n,c,e⟩:=h3 k hk;exact⟨_,by rw[cell_of_row _ _ _ _ _ _ h2];simpa using e⟩
theorem WS.free{w:World}{B:Nat}{key:List UInt8}{j:Nat}(h:WS w B key j)(k:Nat):w.frozen? ⟨B,k,none⟩=false:=by
 obtain⟨xs,h1,h2,h3,h4⟩:=h;exact frozen_of_row w B k _ _ h2
theorem WS.rd{w:World}{B:Nat}{key:List UInt8}{j:Nat}(h:WS w B key j){A:Option Addr}{n:Nat}{bs:List UInt8}(hr:Rd w w.heap.size A n bs)(hn:0<n)(k:Nat)(v:Value):
  Rd (w.setCell ⟨B,k,none⟩ v) (w.setCell ⟨B,k,none⟩ v).heap.size A n bs:=by
 obtain⟨xs,h1,h2,h3,_⟩:=h;obtain⟨b,o,rfl,hb,hc⟩:=hr.at_ hn;have hne:b≠B:=by
  rintro rfl;have h0:=hc 0 hn;rw[Nat.add_zero,cell_of_row _ _ _ _ _ _ h2] at h0;by_cases ho:o<4
  ·obtain⟨A,n,c,e⟩:=h3 o ho;have e2:xs.toArray[o]? = some (.slice A n c):=by simpa using e
   rw[e2] at h0;cases h0
  ·have e2:xs.toArray[o]? = none:=by simp;omega
   rw[e2] at h0;cases h0
 refine⟨hr.len,fun _=>⟨b,o,rfl,by simpa using hb,fun i hi=>?_⟩⟩;rw[<-hc i hi];exact World.cell?_of_block (heap_setCell_other w ⟨B,k,none⟩ b v hne)
theorem WS.put{w:World}{B:Nat}{key:List UInt8}{j:Nat}(h:WS w B key j)(hj:j<4){A:Option Addr}{c:Nat}(hr:Rd w w.heap.size A 16 (zbi key j)):
  WS (w.setCell ⟨B,j,none⟩ (.slice A 16 c)) B key (j+1):=by
 have hrd:=fun {A:Option Addr} {n:Nat} {bs:List UInt8} (hr:Rd w w.heap.size A n bs) (hn:0<n)=>h.rd hr hn j (.slice A 16 c)
 have hrd2:=fun {A:Option Addr} {n:Nat} {bs:List UInt8} (hr:Rd w w.heap.size A n bs) (hn:0<n) (v:Value)=>h.rd hr hn j v
 obtain⟨xs,h1,h2,h3,h4⟩:=h;refine⟨xs.set j (.slice A 16 c),by simpa using h1,?_,fun k hk=>?_,fun k hk=>?_⟩
 ·rw[heap_setCell_same w B j _ 186 _ h2];simp
 ·by_cases e:k=j
  ·subst e;exact⟨A,16,c,by simp[h1,hk]⟩
  ·obtain⟨A',n',c',e'⟩:=h3 k hk;exact⟨A',n',c',by rw[List.getElem?_set_ne (by omega)];exact e'⟩
 ·by_cases e:k=j
  ·subst e;exact⟨A,c,by simp[h1,hj],hrd2 hr (by omega) _⟩
  ·obtain⟨A',c',e',hr'⟩:=h4 k (by omega);exact⟨A',c',by rw[List.getElem?_set_ne (by omega)];exact e',hrd2 hr' (by omega) _⟩
theorem _root_.Go.Proofs.YtokbbmngfogbbaaGreatDoor.Own.grownV{e:TypeId}{w w':World}{base base':Nat}{v u:Value}{vs:List Value}{bs:List UInt8}(h:Own w base' u bs)(hv:OwnV e w base v vs)(he:5≠e)(hg:w.grownBy w' v.ownBlock):Own w' base' u bs:=by
 refine⟨h.1,?_⟩;rcases h.2 with hn|⟨g,cap,cur,rfl,hbg,hh,r⟩
 ·exact .inl hn
 ·exact .inr ⟨g,cap,cur,rfl,hbg,by rw[hg.block g (Array.getElem?_eq_some_iff.1 hh).1 (hv.block_ne hh he)];exact hh,r⟩
theorem _root_.Go.Proofs.YtokbbmngfogbbaaGreatDoor.Own.one{w:World}{base:Nat}{u:Value}{bs:List UInt8}(h:Own w base u bs):u.oneCell'=true:=by
 rcases h.2 with⟨rfl,_⟩|⟨g,cap,cur,rfl,_⟩<;>rfl
def OneP(base:Nat)(bs:List UInt8)(w:World)(v:Value):Prop:=∃b u,v=.slice (some ⟨b,0,none⟩) 1 1/\w.cell? ⟨b,0,none⟩=some u/\Own w base u bs
theorem OneP.keep(base:Nat)(bs:List UInt8):∀w w' v,Ext w w'->OneP base bs w v->OneP base bs w' v:=fun w _ _ hx ⟨b,u,h1,h2,h3⟩ =>
 ⟨b,u,h1,(Below.cell hx (p:=⟨b,0,none⟩) (World.block_lt_of_cell? w _ h2)).trans h2,h3.kept hx⟩
theorem zlA(v:Value)(h1:v.oneCell'=true)(w:World):(Instr.buildSlice 109 1 #[(0,v)]).run Tryz.prog w=.ok (.slice (some ⟨w.heap.size,0,none⟩) 1 1) (w.alloc (.cells #[v] 22)):=by
 cases v<;>first | (simp[Value.oneCell'] at h1;done) | go_simp
def rk6(p B:Nat)(m m1:Nat)(S0 S1 X1:List UInt8):List Go.Proofs.YtokbbmngfogbbaaGreatDoor.K:=[.eq (.pointer (some ⟨p,0,none⟩)),.eq (.pointer (some ⟨B,1,none⟩)),.byt 16 (S1),.eq (.int .i64 (m:Nat)),.eq (.int .i64 (m1:Nat)),.byt 16 (zaS m1),.byt 16 (X1),.byt 16 (S0),.byt 16 (xorL X1 S0 16),.eq (.pointer (some ⟨B,2,none⟩)),.any]
def rk7(p B:Nat)(m m2:Nat)(S1 S2 X2:List UInt8):List Go.Proofs.YtokbbmngfogbbaaGreatDoor.K:=[.eq (.pointer (some ⟨p,0,none⟩)),.eq (.pointer (some ⟨B,2,none⟩)),.byt 16 (S2),.eq (.int .i64 (m:Nat)),.eq (.int .i64 (m2:Nat)),.byt 16 (zaS m2),.byt 16 (X2),.eq (.pointer (some ⟨B,1,none⟩)),.byt 16 (S1),.byt 16 (xorL X2 S1 16),.eq (.pointer (some ⟨B,3,none⟩)),.any]
def rk13(B T i q r t H:Nat)(u9:Value)(Z:Int)(SQ SR TB KI:List UInt8):List Go.Proofs.YtokbbmngfogbbaaGreatDoor.K:=[.eq (u9),.eq (.int .i64 i),.eq (.int .i64 q),.eq (.pointer (some ⟨B,q,none⟩)),.byt 16 (SQ),.eq (.int .i64 i),.eq (.int .i64 (i+1:Nat)),.eq (.int .i64 r),.eq (.pointer (some ⟨B,r,none⟩)),.byt 16 (SR),.eq (.slice (some ⟨T,0,none⟩) 5 5),.eq (.int .i64 i),.eq (.int .i64 t),.eq (.pointer (some ⟨T,t,none⟩)),.eq (.int .i64 Z),.byt 16 (TB),.gen (OwnP H KI) (OwnP.keep _ _),.gen (OneP H KI) (OneP.keep _ _),.any,.any]
def zvg(w:World)(key:List UInt8)(e:Ending)(w':World):Prop :=
 ∃b c,e=.returned (.slice (some ⟨b,0,none⟩) (keyN key) c)/\RowsB w' b 0 (zdo key)/\Ext w w'
theorem zsl{ops:Array Oper}{rest:List Oper}{o:Oper}{a:Act}{w:World}{Q:Exit->Act->World->Prop}(hgd:o.guard=none)(x lo:Operand){A:Option Addr}{n c l B:Nat}{bs:List UInt8}
  (hop:o.op=.slice 22 x (some lo) none none) (hx:a.eval x=.slice A n c) (hlo:a.eval lo=.int .i64 (l:Int)) (hl:l<=n) (hc:n<=c) (hr:Rd w B A n bs)
  (h:∀A' c',n-l<=c'->Rd w B A' (n-l) (bs.drop l)->wpList Tryz.prog ops Q rest (a.put o.dst (.slice A' (n-l) c')) w):wpList Tryz.prog ops Q (o::rest) a w:=by
 refine wpList_plain hgd fun K hK'=>?_
 have e:(Instr.sliceAt 22 (.slice A n c) (some (.int .i64 (l:Int))) none none).run Tryz.prog w=.ok (sliced A l n c 1) w:=by rw[run_sliceAt_slice w 22 _ _ _ _ ziy,run_slice_l w 22 A n c ziy .i64 l (by omega) (by omega),zmz];simp[Result.andThen]
 unfold Oper.wp execOp;simp only[hop,Option.map_some,Option.map_none,hx,hlo,Sem.run_bind,Sem.run_pure,e,Result.andThen_ok];exact hK' _ _ (h _ _ (by omega) (hr.cutlo hl hc))
theorem zqV{ops:Array Oper}{rest:List Oper}{o:Oper}{a:Act}{w:World}{Q:Exit->Act->World->Prop}(hgd:o.guard=none)(x hi:Operand){A:Option Addr}{n c l B:Nat}{bs:List UInt8}
  (hop:o.op=.slice 22 x none (some hi) none) (hx:a.eval x=.slice A n c) (hhi:a.eval hi=.int .i64 (l:Int)) (hl:l<=n) (hc:n<=c) (hr:Rd w B A n bs)
  (h:∀A' c',l<=c'->Rd w B A' l (bs.take l)->wpList Tryz.prog ops Q rest (a.put o.dst (.slice A' l c')) w):wpList Tryz.prog ops Q (o::rest) a w:=by
 have hc0:=(hr.cutlo (l:=0) (Nat.zero_le _) hc).cuthi l (by omega);refine wpList_plain hgd fun K hK'=>?_
 have e:(Instr.sliceAt 22 (.slice A n c) none (some (.int .i64 (l:Int))) none).run Tryz.prog w=.ok (sliced A 0 l c 1) w:=by rw[run_sliceAt_slice w 22 _ _ _ _ ziy,run_slice_h w 22 A n c ziy .i64 l (by omega) (by omega),zmz];simp[Result.andThen]
 unfold Oper.wp execOp;simp only[hop,Option.map_some,Option.map_none,hx,hhi,Sem.run_bind,Sem.run_pure,e,Result.andThen_ok];refine hK' _ _ (h _ _ (by omega) ?_);simpa using hc0
theorem zgb{ops:Array Oper}{rest:List Oper}{o:Oper}{a:Act}{w:World}{Q:Exit->Act->World->Prop}(hgd:o.guard=none)(s x:Operand)
  (ho:o.op=.call { callee:=.builtin .append,args:=#[s,x],argTypes:=#[22,22] }) (base g:Nat) (hs:a.eval s=.slice (some ⟨g,0,none⟩) 0 0) (hown:Own w base (.slice (some ⟨g,0,none⟩) 0 0) [])
  (B:Nat) (A:Option Addr) (n c:Nat) (ys:List UInt8) (hx:a.eval x=.slice A n c) (hrd:Rd w B A n ys) (hlen:n<=1000) (hbase:base<=w.heap.size)
  (h:∀g' cap' w',Own w' base (.slice (some ⟨g',0,none⟩) n cap') ys->Below base w w'->wpList Tryz.prog ops Q rest (a.put o.dst (.slice (some ⟨g',0,none⟩) n cap')) w'):wpList Tryz.prog ops Q (o::rest) a w:=by
 have hyl:=hrd.len;by_cases h0:n=0
 ·subst h0;have hys:ys = []:=List.eq_nil_of_length_eq_zero hyl;subst hys;exact zoy w hgd s x 22 22 ho _ _ _ _ hs hx (znK w _ g c A) (h g 0 w hown (Below.refl _ _))
 ·refine za9 w hgd s x 22 ho Tryz.underlying22 Tryz.info5 base _ [] hs hown B A n c ys hx hrd (by simp;omega) hbase ?_;intro v' w' hown' hb';rw[List.nil_append] at hown';rcases hown'.2 with⟨_,h1⟩|⟨g',cap',cur,rfl,r⟩
  ·omega
  ·rw[hyl] at hown' ⊢;exact h g' cap' w' hown' hb'
theorem zlL(key:List UInt8)(h:16<=key.length):key.take 16=zbx key 0:=by
 apply List.ext_getElem
 ·rw[zbb,List.length_take];omega
 ·intro i h1 h2;have hi:i<16:=by rw[zbb] at h2;exact h2
  have hk:i<key.length:=by omega
  simp[zbx,hk]
theorem zlt(key:List UInt8)(h:16<=key.length)(h2:key.length<=32):key.drop 16++List.replicate (32-key.length) 0=zbx key 16:=by
 apply List.ext_getElem
 ·rw[zbb,List.length_append,List.length_drop,List.length_replicate];omega
 ·intro i h1 h2;have hi:i<16:=by rw[zbb] at h2;exact h2
  by_cases hk:16+i<key.length
  ·rw[List.getElem_append_left (by rw[List.length_drop];omega)];simp[zbx,hk]
  ·rw[List.getElem_append_right (by rw[List.length_drop];omega)];simp[zbx,hk]
theorem zlQ(p n c:Nat)(A:Option Addr)(key:List UInt8)(w:World)(hb:RBx w p)(h:Rd w w.heap.size A n key)(hn:zgC n)(hc:n<=c):Calls Tryz.prog 65 #[.pointer (some ⟨p,0,none⟩),.slice A n c] w (zvg w key):=by
 have hl:=h.len;obtain⟨d,hd⟩:∃d,n/8=d:=⟨_,rfl⟩;obtain⟨m,hm⟩:∃m,d-2=m:=⟨_,rfl⟩;obtain⟨z,hz⟩:∃z,32-n=z:=⟨_,rfl⟩;have hnn:(n=16\/n=24\/n=32):=hn;have hn32:16<=n/\n<=32:=by omega
 have hq8:(n:Int).tdiv 8=(d:Int):=by rw[Int.tdiv_eq_ediv_of_nonneg (by omega)];omega
 have hm2:(d:Int)-2=(m:Int):=by omega
 have hz2:(32:Int)-(n:Int)=(z:Int):=by omega
 have HM:=hid (show m<=2 by omega);have HDM:=hid (show 2*m+13=9+n/4 by omega);have HNC:=hid (And.intro hc hn32);obtain⟨m1,hm1⟩:∃m1,m+1=m1:=⟨_,rfl⟩;obtain⟨m2,hm2'⟩:∃m2,m+2=m2:=⟨_,rfl⟩;have HM1:=hid (show(m:Int)+1=(m1:Int)/\m1<=1000/\(m:Int)+2=(m2:Int)/\m2<=1000 by omega);have HKC:=hid (show zaS (key.length/8-2+0)=zaS m/\zaS (key.length/8-2+1)=zaS m1/\zaS (key.length/8-2+2)=zaS m2 by rw[hl,hd,hm,<-hm1,<-hm2'];exact⟨rfl,rfl,rfl⟩);have HR0:=hid h;have HBX0:=hid hb;have HFK:=hid (zlL key (by omega));have HFD:=hid (show key.drop 16++List.replicate z 0=zbx key 16 by rw[<-hz,<-hl];exact zlt key (by omega) (by omega));have HKL:=hid hl;clear h hb hn hnn hd hm hz hl hc hn32 hm1 hm2';have hni:(n:Int)<=32:=by have:=HNC.out;omega
 have hdi:(d:Int)<=4:=by have:=HM.out;omega
 have hzi:(z:Int)<=32:=by omega
 have HXA:=hid (Ext.alloc w (.cells #[] 5));have HO1:=hid (Own.lit w [] #[] 0 w.heap.size rfl rfl (by unfold maxLen;omega) (Nat.le_refl _));have HXB:=hid (fun w2:World=>Ext.alloc w2 (.cells #[] 5));have HO2:=hid (fun w2:World=>Own.lit w2 [] #[] 0 w2.heap.size rfl rfl (by unfold maxLen;omega) (Nat.le_refl _));go_enter Tryz.func65,Tryz.ntmps65;go_wp2_with (first
  | (refine zqV rfl (.tmp 17) (.const (.int .i64 16)) (l:=16) rfl rfl rfl HNC.out.2.1 HNC.out.1 (HR0.out.later HXA.out) ?_;intro A18 c18 hc18 hr18;rw[HFK.out] at hr18;have HR18:=hid hr18;clear hc18 hr18)
  | (at_builtin;refine za9 _ rfl (.tmp 16) (.tmp 18) 22 rfl Tryz.underlying22 Tryz.info5 w.heap.size _ [] rfl HO1.out _ A18 16 c18 _ rfl HR18.out (by simp) (Below.size HXA.out) ?_;intro v6 w2 hown6 hb6;rw[List.nil_append] at hown6;obtain⟨A6,c6,rfl,hr6,_⟩:=hown6.rdn (n:=16) (zbb key 0);have HX2:=hid (show Ext w w2 from Below.trans HXA.out hb6);have HR6:=hid hr6;clear hown6 hb6 hr6 HR18)
  | (refine zsl rfl (.tmp 21) (.const (.int .i64 16)) (l:=16) rfl rfl rfl HNC.out.2.1 HNC.out.1 ((HR0.out.later HX2.out).later (HXB.out w2)) ?_;intro A22 c22 hc22 hr22;have HR22:=hid hr22;clear hc22 hr22)
  | (at_builtin;refine zgb rfl (.tmp 20) (.tmp 22) rfl w2.heap.size w2.heap.size rfl (HO2.out w2) _ A22 (n-16) c22 _ rfl HR22.out (by have:=HNC.out;omega) (Below.size (HXB.out w2)) ?_;intro g3 p3 w3 hown3 hb3;have HO3:=hid hown3;have HX3:=hid (show Ext w w3 from Ext.trans HX2.out (Below.trans (HXB.out w2) hb3));have HS3:=hid (show w2.heap.size<=w3.heap.size from Nat.le_trans (Below.size (HXB.out w2)) (Below.size hb3));have HX23:=hid (show Ext w2 w3 from Below.trans (HXB.out w2) hb3);clear hown3 hb3 HR22)
  | (at_builtin;obtain⟨v7,w4,hrun7,hown7,hb7⟩:=zik w3 w2.heap.size g3 (n-16) p3 z (key.drop 16) 22 HO3.out (by rw[List.length_drop,HKL.out]) (by have:=HNC.out;omega) (by omega) HS3.out;refine zoy _ rfl (.tmp 23) (.tmp 26) 22 3 rfl _ _ _ _ rfl rfl hrun7 ?_;rw[HFD.out] at hown7;obtain⟨A7,c7,rfl,hr7,_⟩:=hown7.rdn (n:=16) (zbb key 16);have HX24:=hid (show Ext w2 w4 from Below.trans HX23.out hb7);have HR7:=hid hr7;clear hown7 hb7 hr7 hrun7))
 have h5:=heap_alloc_new w4 (.cells #[.slice A6 16 c6,.slice none 0 0,.slice none 0 0,.slice none 0 0] 186);have x5:=Ext.alloc w4 (.cells #[.slice A6 16 c6,.slice none 0 0,.slice none 0 0,.slice none 0 0] 186);have HWB:=hid (show w.heap.size<=w4.heap.size from Nat.le_trans (Below.size HX2.out) (Below.size HX24.out));obtain⟨W5,hW5⟩:∃W5,w4.alloc (.cells #[.slice A6 16 c6,.slice none 0 0,.slice none 0 0,.slice none 0 0] 186)=W5:=⟨_,rfl⟩;rw[hW5] at h5 x5 ⊢;obtain⟨B,hB⟩:∃B,w4.heap.size=B:=⟨_,rfl⟩;rw[hB] at h5 ⊢;have HB:=hid (show w.heap.size<=B by rw[<-hB];exact HWB.out);have hr6:=(HR6.out.later HX24.out).later x5;have hws:WS W5 B key 1:=⟨[.slice A6 16 c6,.slice none 0 0,.slice none 0 0,.slice none 0 0],rfl,h5,fun k hk=>by
  match k,hk with
  | 0,_=>exact⟨_,_,_,rfl⟩
  | 1,_=>exact⟨_,_,_,rfl⟩
  | 2,_=>exact⟨_,_,_,rfl⟩
  | 3,_=>exact⟨_,_,_,rfl⟩,fun k hk=>by
  obtain rfl:k=0:=by omega
  exact⟨A6,c6,rfl,hr6⟩⟩
 have HWS:=hid hws;have HR6:=hid hr6;have HR7:=hid (HR7.out.later x5);have HX:=hid (Ext.trans (Ext.trans HX2.out HX24.out) x5);have HBX:=hid (HBX0.out.later HX.out);clear h5 x5 HWB hW5 hB hr6 hws HX2 HX24 HX23 HX3 HS3 HO3 HXA HXB HO1 HO2 HFK HFD HR0;refine(zeU m _ (by have:=HM.out;omega)).mono ?_;rintro e w6 ⟨v33,rfl,ho33,hx6⟩;obtain⟨A33,c33,rfl,hr33,_⟩:=ho33.rdn (n:=16) (zcu m);have HR33:=hid hr33;have HX60:=hid (show Ext W5 w6 from hx6);clear ho33 hx6 hr33;go_wp2_with fail
 refine(zeS p 1 A6 A33 c6 c33 (zbx key 0) (zaS m) _ (.inl rfl) (HBX.out.later HX60.out) (HR6.out.later HX60.out) HR33.out).mono ?_;rintro e w7 ⟨v34,rfl,ho34,hx7⟩;obtain⟨A34,c34,rfl,hr34,_⟩:=ho34.rdn (n:=16) (zaA _);have HR34:=hid hr34;have HX70:=hid (Ext.trans HX60.out (show Ext w6 w7 from hx7));clear ho34 hx7 hr34 HR33 HX60;go_wp2_with fail
 refine(zeE A34 A7 16 c34 c7 _ (zbx key 16) _ HR34.out (HR7.out.later HX70.out) (by omega)).mono ?_;rintro e w8 ⟨v36,rfl,ho36,hx8⟩;obtain⟨A36,c36,rfl,hr36,_⟩:=ho36.rdn (n:=16) (zar _ _ 16);obtain⟨S1,hS1⟩:∃S1,zbi key 1=S1:=⟨_,rfl⟩;obtain⟨S0,hS0⟩:∃S0,zbx key 0=S0:=⟨_,rfl⟩;have hS1x:zbi key 1=xorL (mixL (layL 1 (xorL (zbx key 0) (zaS m) 16))) (zbx key 16) 16:=by rw[zdX,zbH,HKC.out.1];rfl
 have hxx:=Ext.trans HX70.out (show Ext w7 w8 from hx8);have hws8:=HWS.out.later hxx;have hcell:=hws8.was 1 (by omega);have hfree:=hws8.free 1;have hput:=hws8.put (j:=1) (by omega) (c:=c36) (A:=A36) (by rw[hS1x];exact hr36);have hs0:=hws8.rd (HR6.out.later hxx) (by omega) 1 (.slice A36 16 c36);have hx9:=Below.setCell (Ext.trans HX.out hxx) (p:=⟨B,1,none⟩) (by have:=HB.out;simp;omega) (.slice A36 16 c36);rw[hS0] at hs0;obtain⟨W9,hW9⟩:∃W9,w8.setCell ⟨B,1,none⟩ (.slice A36 16 c36)=W9:=⟨_,rfl⟩;rw[hW9] at hput hs0 hx9;have HWS:=hid hput;have HS0:=hid hs0;have HX:=hid hx9;have HBX:=hid (HBX0.out.later hx9);have HW9:=hid hW9;have HE:=hid hS1;obtain⟨X1,hX1⟩:∃X1,mixL (layL 2 (xorL S1 (zaS m1) 16))=X1:=⟨_,rfl⟩
 have HR:=hid (show ∀A A' c c' w,RBx w p->Rd w w.heap.size A 16 S1->Rd w w.heap.size A' 16 (zaS m1)->Calls Tryz.prog 79 #[.pointer (some ⟨p,0,none⟩),.int .i64 2,.slice A 16 c,.slice A' 16 c'] w (RetB w X1) from fun A A' c c' w h1 h2 h3=>by rw[<-hX1];exact zeS p 2 A A' c c' S1 (zaS m1) w (.inr rfl) h1 h2 h3);have HL:=hid (show X1.length=16 by rw[<-hX1];exact zaA _);have HS2:=hid (show zbi key 2=xorL X1 S0 16 by rw[zdX,ze4,zbH,HKC.out.2.1,hS1,<-hX1,<-hS0];rfl);obtain⟨N,hN⟩:∃N,keyN key=N:=⟨_,rfl⟩;have HN0:=hid hN;have HN17:=hid (show 0<N/\N<=17 by unfold keyN at hN;have:=HNC.out;have:=HKL.out;omega);have hNm:2*(m:Int)+13=(N:Int):=by unfold keyN at hN;have:=HDM.out;have:=HKL.out;omega
 have hN17:(N:Int)<=17:=by have:=HN17.out;omega
 obtain⟨old,hcell⟩:=hcell;clear hr36 ho36 hx8 hS0 hS1x hxx hws8 hput hs0 hx9 hW9 hX1 hN HR34 HX70 HR6 HR7;go_wp2_with fail
 rw[HW9.out];clear hcell hfree HW9;refine zb4 10 (rk6 p B m m1 S0 S1 X1) (zab ⟨fun _ _ _ h=>h.mv,?_,?_,fun _ _ _ h=>h.mv,?_,?_,?_,?_,?_,?_,fun h=>absurd rfl h,trivial⟩) ?_
 ·intro _ a w hk;have s8:a.tmps.getD 8 undef=.pointer (some ⟨B,0,none⟩):=hk.was 8;refine za ?_;go_simp
 ·intro _ a w hk;have s39:=hk.eq_ 1 39;obtain⟨A40,c40,hc40,hr40⟩:=(HWS.out.later hk.ext).at_ 1 (by omega);rw[HE.out] at hr40;refine zaW (.slice A40 16 c40) ?_ ⟨_,_,rfl,hr40⟩;go_simp
 ·intro _ a w hk;have s41:=hk.eq_ 3 41;refine za ?_;have e:=HM1.out.1;have hm:=HM1.out.2;go_simp;exact IntWalk.i64_in _ (by omega)
 ·exact fun _ _ w h=>h.call cf41 (zeU m1 w HM1.out.2.1) (fun e w1 h=>RetB.k (zcu _) e w1 h)
 ·intro _ a w hk;have s38:=hk.eq_ 0 38;obtain⟨A40,c40,s40,r40⟩:=hk.byt_ 2 40;obtain⟨A43,c43,s43,r43⟩:=hk.byt_ 5 43;exact za0 rfl rfl (by simp only[List.map_toArray,List.map_cons,List.map_nil,Act.eval,s38,s40,s43]<;>rfl) cf40 (HR.out A40 A43 c40 c43 w (HBX.out.later hk.ext) r40 r43) (fun e w1 h=>RetB.k HL.out e w1 h)
 ·intro _ a w hk;have s6:a.tmps.getD 6 undef=.slice A6 16 c6:=hk.was 6;have r6:=(HS0.out).later hk.ext;exact zau rfl rfl s6 ⟨_,_,rfl,r6⟩
 ·intro _ a w hk;obtain⟨A44,c44,s44,r44⟩:=hk.byt_ 6 44;obtain⟨A45,c45,s45,r45⟩:=hk.byt_ 7 45;exact za0 rfl rfl (by simp only[List.map_toArray,List.map_cons,List.map_nil,Act.eval,s44,s45]<;>rfl) cf20 (zeE A44 A45 16 c44 c45 X1 S0 w r44 r45 (by omega)) (fun e w1 h=>RetB.k (zar _ _ _) e w1 h)
 ·intro _ a w hk;have s8:a.tmps.getD 8 undef=.pointer (some ⟨B,0,none⟩):=hk.was 8;refine za ?_;go_simp
 ·intro a w1 hf;obtain⟨A40,c40,s40,r40⟩:=hf.val 2 40;obtain⟨A43,c43,s43,r43⟩:=hf.val 5 43;obtain⟨A44,c44,s44,r44⟩:=hf.val 6 44;obtain⟨A45,c45,s45,r45⟩:=hf.val 7 45;obtain⟨A46,c46,s46,r46⟩:=hf.val 8 46;have hx:=hf.ext;have e:=hf.fr;clear hf;simp only[rk6,frV,kPut,Act.put,List.setIfInBounds_toArray,List.set_cons_zero,List.set_cons_succ,s40,s43,s44,s45,s46] at e;clear s40 s43 s44 s45 s46;subst e;have hws:=HWS.out.later hx;obtain⟨old,hcell⟩:=hws.was 2 (by omega);have hfree:=hws.free 2;have hput:=hws.put (j:=2) (by omega) (c:=c46) (A:=A46) (by rw[HS2.out];exact r46);have hx2:=Below.setCell (Ext.trans HX.out hx) (p:=⟨B,2,none⟩) (by have:=HB.out;simp;omega) (.slice A46 16 c46);refine zgA (.tmp 47) (.tmp 46) rfl rfl B 2 16 c46 A46 old rfl rfl hcell hfree ?_;obtain⟨W10,hW10⟩:∃W10,w1.setCell ⟨B,2,none⟩ (.slice A46 16 c46)=W10:=⟨_,rfl⟩;rw[hW10] at hput hx2 ⊢;have HWS:=hid hput
  have HX:=hid hx2;have HBX:=hid (HBX0.out.later hx2);clear hx hws hcell hfree hput hx2 hW10 HR HL HE r40 r43 r44 r45 r46;obtain⟨S2,hS2⟩:∃S2,zbi key 2=S2:=⟨_,rfl⟩;obtain⟨X2,hX2⟩:∃X2,mixL (layL 1 (xorL S2 (zaS m2) 16))=X2:=⟨_,rfl⟩;have HE:=hid (And.intro hS1 hS2);have HR:=hid (show ∀A A' c c' w,RBx w p->Rd w w.heap.size A 16 S2->Rd w w.heap.size A' 16 (zaS m2)->Calls Tryz.prog 79 #[.pointer (some ⟨p,0,none⟩),.int .i64 1,.slice A 16 c,.slice A' 16 c'] w (RetB w X2) from fun A A' c c' w h1 h2 h3=>by rw[<-hX2];exact zeS p 1 A A' c c' S2 (zaS m2) w (.inl rfl) h1 h2 h3);have HL:=hid (show X2.length=16 by rw[<-hX2];exact zaA _);have HS3:=hid (show zbi key 3=xorL X2 S1 16 by rw[zdX,ze4,zbH,HKC.out.2.2,hS1,hS2,<-hX2]);clear hS1 hS2 hX2 HS2 HS0;go_wp2_with fail
  refine zb4 11 (rk7 p B m m2 S1 S2 X2) (zab ⟨fun _ _ _ h=>h.mv,?_,?_,fun _ _ _ h=>h.mv,?_,?_,?_,?_,?_,?_,?_,fun h=>absurd rfl h,trivial⟩) ?_
  ·intro _ a w hk;have s8:a.tmps.getD 8 undef=.pointer (some ⟨B,0,none⟩):=hk.was 8;refine za ?_;go_simp
  ·intro _ a w hk;have s49:=hk.eq_ 1 49;obtain⟨A50,c50,hc50,hr50⟩:=(HWS.out.later hk.ext).at_ 2 (by omega);rw[HE.out.2] at hr50;refine zaW (.slice A50 16 c50) ?_ ⟨_,_,rfl,hr50⟩;go_simp
  ·intro _ a w hk;have s51:=hk.eq_ 3 51;refine za ?_;have e:=HM1.out.2.2.1;have hm:=HM1.out.2.2.2;go_simp;exact IntWalk.i64_in _ (by omega)
  ·exact fun _ _ w h=>h.call cf41 (zeU m2 w HM1.out.2.2.2) (fun e w1 h=>RetB.k (zcu _) e w1 h)
  ·intro _ a w hk;have s48:=hk.eq_ 0 48;obtain⟨A50,c50,s50,r50⟩:=hk.byt_ 2 50;obtain⟨A53,c53,s53,r53⟩:=hk.byt_ 5 53;exact za0 rfl rfl (by simp only[List.map_toArray,List.map_cons,List.map_nil,Act.eval,s48,s50,s53]<;>rfl) cf40 (HR.out A50 A53 c50 c53 w (HBX.out.later hk.ext) r50 r53) (fun e w1 h=>RetB.k HL.out e w1 h)
  ·intro _ a w hk;have s8:a.tmps.getD 8 undef=.pointer (some ⟨B,0,none⟩):=hk.was 8;refine za ?_;go_simp
  ·intro _ a w hk;have s55:=hk.eq_ 7 55;obtain⟨A56,c56,hc56,hr56⟩:=(HWS.out.later hk.ext).at_ 1 (by omega);rw[HE.out.1] at hr56;refine zaW (.slice A56 16 c56) ?_ ⟨_,_,rfl,hr56⟩;go_simp
  ·intro _ a w hk;obtain⟨A54,c54,s54,r54⟩:=hk.byt_ 6 54;obtain⟨A56,c56,s56,r56⟩:=hk.byt_ 8 56;exact za0 rfl rfl (by simp only[List.map_toArray,List.map_cons,List.map_nil,Act.eval,s54,s56]<;>rfl) cf20 (zeE A54 A56 16 c54 c56 X2 S1 w r54 r56 (by omega)) (fun e w1 h=>RetB.k (zar _ _ _) e w1 h)
  ·intro _ a w hk;have s8:a.tmps.getD 8 undef=.pointer (some ⟨B,0,none⟩):=hk.was 8;refine za ?_;go_simp
  ·intro a w2 hf;obtain⟨A50,c50,s50,r50⟩:=hf.val 2 50;obtain⟨A53,c53,s53,r53⟩:=hf.val 5 53;obtain⟨A54,c54,s54,r54⟩:=hf.val 6 54;obtain⟨A56,c56,s56,r56⟩:=hf.val 8 56;obtain⟨A57,c57,s57,r57⟩:=hf.val 9 57;have hx:=hf.ext;have e:=hf.fr;clear hf;simp only[rk7,frV,kPut,Act.put,List.setIfInBounds_toArray,List.set_cons_zero,List.set_cons_succ,s50,s53,s54,s56,s57] at e;clear s50 s53 s54 s56 s57;subst e;have hws:=HWS.out.later hx;obtain⟨old,hcell⟩:=hws.was 3 (by omega);have hfree:=hws.free 3;have hput:=hws.put (j:=3) (by omega) (c:=c57) (A:=A57) (by rw[HS3.out];exact r57);have hx2:=Below.setCell (Ext.trans HX.out hx) (p:=⟨B,3,none⟩) (by have:=HB.out;simp;omega) (.slice A57 16 c57);refine zgA (.tmp 58) (.tmp 57) rfl rfl B 3 16 c57 A57 old rfl rfl hcell hfree ?_;obtain⟨W11,hW11⟩:∃W11,w2.setCell ⟨B,3,none⟩ (.slice A57 16 c57)=W11:=⟨_,rfl⟩;rw[hW11] at hput hx2 ⊢
   have HW11:=hid (And.intro hput hx2);clear hx hws hcell hfree hput hx2 hW11 HWS HX HE HR HL HBX HS3 r50 r53 r54 r56 r57;have HTU:=hid (fun q (hq:q<5)=>show(W11.alloc (.cells #[.int .i64 (-19),.int .i64 (-31),.int .i64 61,.int .i64 31,.int .i64 19] 3)).cell? ⟨W11.heap.size,q,none⟩=some (.int .i64 (ziV q)) by
    rw[cell_of_row _ _ _ _ _ _ (heap_alloc_new W11 _)]
    match q,hq with
    | 0,_=>rfl
    | 1,_=>rfl
    | 2,_=>rfl
    | 3,_=>rfl
    | 4,_=>rfl)
   have HX12:=hid (Ext.alloc W11 (.cells #[.int .i64 (-19),.int .i64 (-31),.int .i64 61,.int .i64 31,.int .i64 19] 3));obtain⟨W12,hW12⟩:∃W12,W11.alloc (.cells #[.int .i64 (-19),.int .i64 (-31),.int .i64 61,.int .i64 31,.int .i64 19] 3)=W12:=⟨_,rfl⟩;rw[hW12] at HTU HX12;obtain⟨T,hT⟩:∃T,W11.heap.size=T:=⟨_,rfl⟩;rw[hT] at HTU;have HW12:=hid (And.intro hW12 hT);clear hW12 hT;obtain⟨H,hH⟩:∃H,W12.heap.size=H:=⟨_,rfl⟩;have HH0:=hid hH;have HWS12:=hid (HW11.out.1.later HX12.out);have HX120:=hid (Ext.trans HW11.out.2 HX12.out);clear hH HW11;go_wp2_with fail
   rw[HW12.out.1,HW12.out.2];go_wp2_with fail
   go_loopw [9,11] (fun pv iv wr=>∃(i:Nat) (vs:List Value),i<=N/\iv=.int .i64 i/\OwnV 22 wr H pv vs/\vs.length=i/\(∀j,j<i->∃u,vs[j]? = some u/\Own wr H u (keyF key j))/\Ext W12 wr) (fun _ iv _=>N-(intOf iv).toNat)
   case atStart=>exact⟨0,[],by omega,rfl,World.ownsRow_nil _ _ _ _,rfl,fun j hj=>absurd hj (by omega),Ext.refl _⟩
   case round =>
    obtain⟨i,vs,hi,rfl,hov,hvl,hbs,hx⟩:=hrel;by_cases hlt:i<N
    ·obtain⟨q,hq⟩:∃q,i%4=q:=⟨_,rfl⟩;obtain⟨r,hr⟩:∃r,(i+1)%4=r:=⟨_,rfl⟩;obtain⟨t,ht⟩:∃t,i/4=t:=⟨_,rfl⟩;have HQ:=hid (show(i:Int).tmod 4=(q:Int)/\((i+1:Nat):Int).tmod 4=(r:Int)/\(i:Int).tdiv 4=(t:Int)/\q<4/\r<4/\t<5 from⟨by rw[Int.tmod_eq_emod_of_nonneg (by omega)];omega,by rw[Int.tmod_eq_emod_of_nonneg (by omega)];omega,by rw[Int.tdiv_eq_ediv_of_nonneg (by omega)];omega,by omega,by omega,by have:=HN17.out;omega⟩);obtain⟨SQ,hSQ⟩:∃SQ,zbi key q=SQ:=⟨_,rfl⟩;obtain⟨SR,hSR⟩:∃SR,zbi key r=SR:=⟨_,rfl⟩;obtain⟨Z,hZ⟩:∃Z,ziV t=Z:=⟨_,rfl⟩;obtain⟨TB,hTB⟩:∃TB,zga SR t=TB:=⟨_,rfl⟩;obtain⟨KI,hKI⟩:∃KI,keyF key i=KI:=⟨_,rfl⟩;have hKI2:xorL SQ TB 16=KI:=by rw[<-hKI,keyF,hq,hr,ht,hSQ,hSR,hTB]
     have HT:=hid (show ∀A c w,Rd w w.heap.size A 16 SR->Calls Tryz.prog 101 #[.slice A 16 c,.int .i64 Z] w (RetB w TB) from fun A c w h=>by rw[<-hTB,zga,hZ];exact zm0 A 16 c Z SR w h (by omega));have HTL:=hid (show TB.length=16 by rw[<-hTB];exact zcP _ _);have HB:=hid (show ∀A A' c c' w,Rd w w.heap.size A 16 SQ->Rd w w.heap.size A' 16 TB->Calls Tryz.prog 27 #[.slice A 16 c,.slice A' 16 c'] w (RetB w KI) from fun A A' c c' w h h'=>by rw[<-hKI2];exact zeE A A' 16 c c' SQ TB w h h' (by omega));have HWS:=hid (HWS12.out.later hx);have HSQ:=hid (And.intro hSQ hSR);have HZ:=hid (show t<5/\∀w',Ext wr w'->w'.cell? ⟨T,t,none⟩=some (.int .i64 Z) from⟨HQ.out.2.2.2.2.2,fun w' hx'=>by have h1:=HTU.out t HQ.out.2.2.2.2.2;rw[hZ] at h1;exact(Below.cell (Ext.trans hx hx') (p:=⟨T,t,none⟩) (World.block_lt_of_cell? _ _ h1)).trans h1⟩)
     have HH:=hid (show H<=wr.heap.size by rw[<-HH0.out];exact Below.size hx);have HI:=hid (show i<17 by have:=HN17.out;omega);have HLT:=hid hlt;have HOV:=hid hov;have HVL:=hid hvl;have HBS:=hid hbs;have HXR:=hid hx;have HKI:=hid hKI;have hlti:(i:Int)<(N:Int):=by omega
     clear hq hr ht hSQ hSR hZ hTB hKI hKI2 hov hvl hbs hx;go_wp2_with fail
     refine zaD 18 (rk13 B T i q r t H u9 Z SQ SR TB KI) (zab ⟨fun _ _ h=>h.mv,fun _ _ h=>h.mv,?_,?_,?_,fun _ _ h=>h.mv,?_,?_,?_,?_,fun _ _ h=>h.mv,fun _ _ h=>h.mv,?_,?_,?_,?_,?_,?_,trivial⟩) ?_
     ·intro a w hk;have s68:=hk.eq_ 1 68;refine za ?_;have e:=HQ.out.1;go_simp
     ·intro a w hk;have s8:a.tmps.getD 8 undef=.pointer (some ⟨B,0,none⟩):=hk.was 8;have s69:=hk.eq_ 2 69;refine za ?_;have hi3:(q:Int)<4:=by have:=HQ.out;omega
      go_simp
     ·intro a w hk;have s70:=hk.eq_ 3 70;obtain⟨A71,c71,hc71,hr71⟩:=(HWS.out.later hk.ext).at_ q (by have:=HQ.out;omega);rw[HSQ.out.1] at hr71;refine zaW (.slice A71 16 c71) ?_ ⟨_,_,rfl,hr71⟩;go_simp
     ·intro a w hk;have s72:=hk.eq_ 5 72;refine za ?_;have hi:=HI.out;go_simp;exact IntWalk.i64_in _ (by omega)
     ·intro a w hk;have s73:=hk.eq_ 6 73;refine za ?_;have e:=HQ.out.2.1;obtain⟨j,hj⟩:∃j,i+1=j:=⟨_,rfl⟩;rw[hj] at s73 e;go_simp
     ·intro a w hk;have s8:a.tmps.getD 8 undef=.pointer (some ⟨B,0,none⟩):=hk.was 8;have s74:=hk.eq_ 7 74;refine za ?_;have hi3:(r:Int)<4:=by have:=HQ.out;omega
      go_simp
     ·intro a w hk;have s75:=hk.eq_ 8 75;obtain⟨A76,c76,hc76,hr76⟩:=(HWS.out.later hk.ext).at_ r (by have:=HQ.out;omega);rw[HSQ.out.2] at hr76;refine zaW (.slice A76 16 c76) ?_ ⟨_,_,rfl,hr76⟩;go_simp
     ·intro a w hk;have s78:=hk.eq_ 11 78;refine za ?_;have e:=HQ.out.2.2.1;have hi3:(t:Int)<5:=by have:=HQ.out;omega
      go_simp;exact IntWalk.i64_in _ (by omega)
     ·intro a w hk;have s77:=hk.eq_ 10 77;have s79:=hk.eq_ 12 79;refine za ?_;have hi3:(t:Int)<5:=by have:=HQ.out;omega
      go_simp
     ·intro a w hk;have s80:=hk.eq_ 13 80;refine za ?_;have hc:=HZ.out.2 w hk.ext;go_simp
     ·intro a w hk;obtain⟨A76,c76,s76,r76⟩:=hk.byt_ 9 76;have s81:=hk.eq_ 14 81;exact za0 rfl rfl (by simp only[List.map_toArray,List.map_cons,List.map_nil,Act.eval,s76,s81]<;>rfl) cf42 (HT.out A76 c76 w r76) (fun e w1 h=>RetB.k HTL.out e w1 h)
     ·intro a w hk;obtain⟨A71,c71,s71,r71⟩:=hk.byt_ 4 71;obtain⟨A82,c82,s82,r82⟩:=hk.byt_ 15 82;exact za0 rfl rfl (by simp only[List.map_toArray,List.map_cons,List.map_nil,Act.eval,s71,s82]<;>rfl) cf20 (HB.out A71 A82 c71 c82 w r71 r82) (fun e w1 h=>zi8 (Nat.le_trans HH.out (Below.size hk.ext)) e w1 h)
     ·intro a w hk;obtain⟨u83,s83,g83⟩:=hk.val 16 83;refine zai (v:=.slice (some ⟨w.heap.size,0,none⟩) 1 1) (w':=w.alloc (.cells #[u83] 22)) rfl ?_ (Ext.alloc _ _) ⟨_,u83,rfl,by rw[cell_of_row _ _ _ _ _ _ (heap_alloc_new w _)];rfl,g83.kept (Ext.alloc _ _)⟩;have e:=zlA u83 g83.one w;simp only[execOp,Act.eval,List.map_toArray,List.map_cons,List.map_nil,s83,Sem.run_bind,e,Sem.run_pure,Result.andThen]
     ·intro a w7 hf;obtain⟨A71,c71,s71,r71⟩:=hf.val 4 71;obtain⟨A76,c76,s76,r76⟩:=hf.val 9 76;obtain⟨A82,c82,s82,r82⟩:=hf.val 15 82;obtain⟨u83,s83,g83⟩:=hf.val 16 83;obtain⟨b84,u84,s84,c84,g84⟩:=hf.val 17 84;have hx:=hf.ext;have e:=hf.fr;clear hf;simp only[List.take_succ_cons,List.take_zero,rk13,frV,kPut,Act.put,List.setIfInBounds_toArray,List.set_cons_zero,List.set_cons_succ,s71,s76,s82,s83,s84] at e;clear s71 s76 s82 s83 s84;subst e;simp only[List.drop_succ_cons,List.drop_zero];have hov7:=HOV.out.kept hx;have hbs7:∀j,j<i->∃u,vs[j]? = some u/\Own w7 H u (keyF key j):=fun j hj=>by obtain⟨u,h1,h2⟩:=HBS.out j hj;exact⟨u,h1,h2.kept hx⟩
      have HQ7:=hid (And.intro hov7 (And.intro hbs7 (And.intro g84 (And.intro c84 (Ext.trans HXR.out hx)))));have HS7:=hid (show H<=w7.heap.size from Nat.le_trans HH.out (Below.size hx));clear hov7 hbs7 g84 c84 hx HBS HOV HWS HZ HT HB g83 r71 r76 r82;go_wp2_with (at_builtin;refine zbn _ rfl (.tmp 67) (.tmp 84) 109 22 rfl Tryz.underlying109 Tryz.info22 H _ vs rfl HQ7.out.1 b84 1 u84 rfl HQ7.out.2.2.2.1 (Own.one HQ7.out.2.2.1) (by have:=HVL.out;have:=HI.out;omega) HS7.out ?_;intro v9 w9 hown9 hg9)
      have HQ9:=hid (show OwnV 22 w9 H v9 (vs++[u84])/\(vs++[u84]).length=i+1/\(∀j,j<i+1->∃u,(vs++[u84])[j]? = some u/\Own w9 H u (keyF key j))/\Ext W12 w9 from
       ⟨hown9,by simp[HVL.out],fun j hj=>by
        by_cases e:j=i
        ·subst e;exact⟨u84,by rw[List.getElem?_append_right (by rw[HVL.out];exact Nat.le_refl _),HVL.out];simp,by rw[HKI.out];exact HQ7.out.2.2.1.grownV HQ7.out.1 (by decide) hg9⟩
        ·obtain⟨u,h1,h2⟩:=HQ7.out.2.1 j (by omega);exact⟨u,by rw[List.getElem?_append_left (by rw[HVL.out];omega)];exact h1,h2.grownV HQ7.out.1 (by decide) hg9⟩,
        Below.trans HQ7.out.2.2.2.2 (by rw[HH0.out];exact OwnV.below HQ7.out.1 HS7.out hg9)⟩)
      clear hown9 hg9 HQ7;go_roundw
      case rel=>exact⟨i+1,_,by have:=HLT.out;omega,by go_num,HQ9.out⟩
      case measure=>have:=HLT.out;simp[intOf];omega
    ·obtain rfl:i=N:=by omega
     have hp:=HN17.out.1;rcases hov.2 with⟨_,h0⟩|⟨g,cap,cur,rfl,_,_,_⟩
     ·omega
     ·have hrows:RowsB wr g 0 (zdo key):=fun j hj=>by
       have hj2:j<keyN key:=by simpa [zdo] using hj
       have hj3:j<i:=by rw[<-HN0.out];exact hj2
       have hgd:(zdo key).getD j []=keyF key j:=by simp[zdo,List.getD_eq_getElem?_getD,hj2]
       obtain⟨u,h1,h2⟩:=hbs j hj3;obtain⟨A,c,rfl,hr,_⟩:=h2.rdn (n:=16) (zbz key j);refine⟨A,c,?_,?_⟩
       ·rw[Nat.zero_add,OwnV.celln hov rfl j (by omega),h1,hgd,zbz]
       ·rw[hgd,zbz];exact hr
      have HRW:=hid hrows;have HXE:=hid (Ext.trans HX120.out hx);have HVL:=hid hvl;have hnlt:¬((i:Int)<(i:Int)):=by omega
      clear hov hbs hx hrows;go_wp2_with fail
      go_ret;exact⟨g,cap,by rw[HN0.out,<-HVL.out];rfl,HRW.out,HXE.out⟩
def IsRA(w:World)(p:Nat)(key:List UInt8):Prop:=∃x b c,w.heap[p]? = some (.cells #[.pointer (some ⟨x,0,none⟩),.slice (some ⟨b,0,none⟩) (keyN key) c] 125 (0,0))/\RBx w x/\RowsB w b 0 (zdo key)
theorem IsRA.later{w w':World}{p:Nat}{key:List UInt8}(h:IsRA w p key)(hx:Ext w w'):IsRA w' p key:=by
 obtain⟨x,b,c,h1,h2,h3⟩:=h;exact⟨x,b,c,(hx.block p (Array.getElem?_eq_some_iff.1 h1).1).trans h1,h2.later hx,h3.later hx⟩
theorem zbt(A:Option Addr)(n c:Nat)(key:List UInt8)(w:World)(h:Rd w w.heap.size A n key)(hn:zgC n)(hc:n<=c):
  Calls Tryz.prog 41 #[.slice A n c] w fun e w'=>∃p,e=.returned (.tuple #[.pointer (some ⟨p,0,none⟩),.int .i64 0])/\IsRA w' p key/\Ext w w':=by
 have HR:=hid h;have HC:=hid hc;clear h hc;rcases hn with rfl|rfl|rfl
 all_goals
  go_enter Tryz.func41,Tryz.ntmps41;go_wp2_with fail
  refine(zlD _).mono ?_;rintro e w1 ⟨x,rfl,hb,hx1⟩;have HX1:=hid hx1;have HB:=hid hb;clear hx1 hb;go_wp2_with fail
  refine(zlQ x _ c A key _ HB.out (HR.out.later HX1.out) (by unfold zgC;omega) HC.out).mono ?_;rintro e w2 ⟨b,c2,rfl,hr,hx2⟩;have x3:=Ext.alloc w2 (.cells #[.pointer (some ⟨x,0,none⟩),.slice (some ⟨b,0,none⟩) (keyN key) c2] 125);have HH:=hid (show IsRA _ w2.heap.size key/\Ext w _ from⟨⟨x,b,c2,heap_alloc_new w2 (.cells #[.pointer (some ⟨x,0,none⟩),.slice (some ⟨b,0,none⟩) (keyN key) c2] 125),(HB.out.later hx2).later x3,hr.later x3⟩,(Ext.trans HX1.out hx2).trans x3⟩);clear hr hx2 x3;go_wp2_with fail
  go_ret2;exact⟨_,rfl,HH.out⟩
end Go.Proofs.YtokbbmngfogbbaaGreatDoor.A
