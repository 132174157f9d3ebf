/- Own lemmas of the verifier on memory, numbers and the functions that the laws call; no statement is proved here. -/
import Derived.Test.YtbgkmicelmenfaaGreatDoorRD
import Derived.Test.YtbgkmicelmenfaaGreatDoorRI
import Derived.Test.YtbgkmicelmenfaaGreatDoorRS
import Derived.Test.YtbgkmicelmenfaaGreatDoorRT2
import Derived.Test.YtbgkmicelmenfaaGreatDoorRA2
import Derived.Test.YtbgkmicelmenfaaGreatDoorProg
import Derived.Deep.MidRow
import Derived.Handy
import Derived.Deep.OwnRows
namespace Go.Proofs.YtbgkmicelmenfaaGreatDoor.C
open Go.RowKit
set_option maxRecDepth 100000
def szN (t:Nat):Nat:=if t=6∨t=7 then 16 else if 1≤t∧t≤8 then 8 else 0
def keyN (t:Nat):Nat:=[0,8,16,16,16,32,16,16,16].getD t 0
def cntN (t:Nat):Nat:=[0,1,2,1,1,1,3,3,1].getD t 0
def lensN (t:Nat):List Nat:=(List.range (cntN t)).map fun i=>keyN t+8*i
def tN (n:Int):Nat:=if 1≤n∧n≤8 then n.toNat else 0
theorem tN_le (n:Int):tN n≤8:=by unfold tN;split<;>omega
theorem tN_tag {t:Nat} (h:1≤t∧t≤8):tN (t:Int)=t:=by unfold tN;rw [if_pos (by omega)];omega
theorem tags {t:Nat} (h:1≤t∧t≤8):t=1∨t=2∨t=3∨t=4∨t=5∨t=6∨t=7∨t=8:=by omega
theorem cnt_le:∀ t,t≤8→cntN t≤3:=by decide
theorem key_le:∀ t,t≤8→keyN t≤32:=by decide
theorem sz_le:∀ t,t≤8→szN t≤16:=by decide
theorem sz_zero:∀ t,t≤8→(szN t=0↔t=0):=by decide
end Go.Proofs.YtbgkmicelmenfaaGreatDoor.C
namespace Go.Proofs.YtbgkmicelmenfaaGreatDoor.C
open Go.RowKit
set_option maxRecDepth 100000
theorem cell_at {w w':World} {a:Addr} {v:Value} (hx:Ext w w') (h:w.cell? a=some v):w'.cell? a=some v:=(Below.cell hx (World.block_lt_of_cell? w _ h)).trans h
def Shapes (w:World):Prop:=∀ t,t≤8→w.cell? ⟨0,t*3,none⟩=some (.int .i64 (szN t:Nat))∧w.cell? ⟨0,t*3+1,none⟩=some (.int .i64 (keyN t:Nat))∧w.cell? ⟨0,t*3+2,none⟩=some (.int .i64 (cntN t:Nat))
theorem Shapes.later {w w':World} (h:Shapes w) (hx:Ext w w'):Shapes w':=fun t ht=>by
 obtain ⟨h0,h1,h2⟩:=h t ht
 exact ⟨(Below.cell hx (World.block_lt_of_cell? w _ h0)).trans h0,(Below.cell hx (World.block_lt_of_cell? w _ h1)).trans h1,(Below.cell hx (World.block_lt_of_cell? w _ h2)).trans h2⟩
theorem ret_shape {R:Ending→World→Prop} {a:Act} {w W:World} {x y z:Int} (hp:a.tmps.getD 2 undef=.pointer (some ⟨w.heap.size,0,none⟩)) (hd:a.defers = [])
  (hW:W=w.alloc (.cells #[.int .i64 x,.int .i64 y,.int .i64 z] 91)) (h:R (.returned (.agg #[.int .i64 x,.int .i64 y,.int .i64 z])) W) :
  bodyPost Tryz.prog Tryz.f47 R .ret a W :=
 bodyPost_ret (results_cell_row rfl _ _ w.heap.size 91 _ (0,0) _ hp (by rw [hW];exact heap_alloc_new _ _) Tryz.underlying91 rfl (by kernel_rfl)) hd h
theorem shape_any (n:Int) (w:World) (hS:Shapes w) :
  Calls Tryz.prog 47 #[.int .i64 n] w fun e w'=>e=.returned (.agg #[.int .i64 (szN (tN n):Nat),.int .i64 (keyN (tN n):Nat),.int .i64 (cntN (tN n):Nat)])∧Ext w w':=by
 have x0:=Ext.alloc w (.cells #[.int .i64 0,.int .i64 0,.int .i64 0] 91)
 have HX:=hid x0
 have HS:=hid (hS.later x0)
 clear x0 hS
 go_enter Tryz.func47,Tryz.ntmps47
 by_cases h0:n < 0
 ·have HE:=hid (show tN n=0 by unfold tN;rw [if_neg (by omega)])
  go_wp2_with fail
  refine ret_shape rfl rfl rfl ?_
  rw [HE.out]
  exact ⟨rfl,HX.out⟩
 ·by_cases h9:9≤n
  ·have HE:=hid (show tN n=0 by unfold tN;rw [if_neg (by omega)])
   go_wp2_with fail
   refine ret_shape rfl rfl rfl ?_
   rw [HE.out]
   exact ⟨rfl,HX.out⟩
  ·obtain ⟨t,rfl⟩:∃ t:Nat,n=t:=⟨n.toNat,by omega⟩
   have HE:=hid (show tN (t:Int)=t by unfold tN;split<;>omega)
   obtain ⟨c0,c1,c2⟩:=HS.out t (by omega)
   clear HS
   have ht:(t:Int) < 9:=by omega
   go_wp2_with fail
   refine ret_shape rfl rfl rfl ?_
   rw [HE.out]
   exact ⟨rfl,Ext.alloc _ _⟩
theorem field_run (a b c:Int) (w:World):(Instr.field 91 (.agg #[.int .i64 a,.int .i64 b,.int .i64 c]) 0).run Tryz.prog w=.ok (.int .i64 a) w:=by kernel_rfl
set_option maxHeartbeats 400000 in
theorem size_any (n:Int) (w:World) (hS:Shapes w) :
  Calls Tryz.prog 25 #[.int .i64 n] w fun e w'=>e=.returned (.int .i64 (szN (tN n):Nat))∧Ext w w':=by
 have HC:=hid (shape_any n w hS)
 clear hS
 go_enter Tryz.func25,Tryz.ntmps25
 go_wp2_with (go_at_call 47;refine HC.out.mono ?_;rintro e w1 ⟨rfl,hx⟩;have HX:=hid hx;clear hx)
 rw [field_run];simp only [Result.andThen];rw [Oper.upon_value]
 go_wp2_with fail
 go_ret
 exact ⟨rfl,HX.out⟩
end Go.Proofs.YtbgkmicelmenfaaGreatDoor.C
namespace Go.Proofs.YtbgkmicelmenfaaGreatDoor.C
open Go.RowKit
set_option maxRecDepth 100000
theorem Tryz.info3:(Tryz.prog.info? 3).map (fun i=>(i.zero,i.size,i.bytes))=some (some (.int .i64 0),1,8):=by kernel_rfl
def lensI (t k:Nat):List Int:=(List.range k).map fun i=>((keyN t+8*i:Nat):Int)
theorem lensI_length (t k:Nat):(lensI t k).length=k:=by simp [lensI]
theorem lensI_succ (t k:Nat):lensI t (k+1)=lensI t k++[((keyN t+8*k:Nat):Int)]:=by simp [lensI,List.range_succ]
theorem one_int (w:World) (x:Int):RdN .i64 (w.alloc (.cells #[.int .i64 x] 3)) (w.heap.size+1) (some ⟨w.heap.size,0,none⟩) 1 [x] :=
 ⟨rfl,fun _=>⟨w.heap.size,0,rfl,by omega,fun j hj=>by
  obtain rfl:j=0:=by omega
  rw [Nat.add_zero,cell_of_row _ _ _ _ _ _ (heap_alloc_new w _)];rfl⟩⟩
theorem own_lower {w:World} {b1 b2:Nat} {v:Value} {xs:List Int} (h:OwnN .i64 3 w b1 v xs) (hb:b2≤b1):OwnN .i64 3 w b2 v xs :=
 ⟨h.1,h.2.imp id fun ⟨g,cap,cur,h1,h2,h3⟩=>⟨g,cap,cur,h1,by omega,h3⟩⟩
theorem own_none (w:World) (b:Nat):OwnN .i64 3 w b (.slice none 0 0) []:=by
 unfold OwnN World.ownsRow
 exact ⟨rfl,.inl ⟨rfl,rfl⟩⟩
def cntAt (a:Act):Nat:=match a.tmps.getD 4 undef with | .slice _ k _=>k | _=>0
def LenJ (n:Int) (t:Nat) (w:World) (a:Act) (w1:World):Prop :=
 ∃ (k B cv:Nat) (Av:Option Addr) (u1 u5 u6 u7 u8 u9 u10 u11 u12 u13 u14 u15 u16 u17 u18 u19 u20 u21:Value),
  a = { tmps:=#[.int .i64 n,u1,.slice none 0 0,.pointer (some ⟨B,0,none⟩),.slice Av k cv,u5,u6,u7,u8,u9,u10,u11,u12,u13,u14,u15,u16,u17,u18,u19,u20,u21],defers:=[] }∧k≤cntN t∧w.heap.size≤B∧B < w1.heap.size∧w1.cell? ⟨B,1,none⟩=some (.int .i64 (keyN t:Nat))∧w1.cell? ⟨B,2,none⟩=some (.int .i64 (cntN t:Nat))∧OwnN .i64 3 w1 (B+1) (.slice Av k cv) (lensI t k)∧Ext w w1
set_option maxHeartbeats 4000000 in
theorem lens_any (n:Int) (w:World) (hS:Shapes w) :
  Calls Tryz.prog 23 #[.int .i64 n] w (RetN .i64 3 w (lensI (tN n) (cntN (tN n)))):=by
 have HC:=hid (shape_any n w hS)
 have ht:=tN_le n
 obtain ⟨t,hte⟩:∃ t,tN n=t:=⟨_,rfl⟩
 rw [hte] at HC ht ⊢
 have hk1:=key_le t ht
 have hc1:=cnt_le t ht
 have HB:=hid (And.intro hk1 hc1)
 clear hS hte ht hk1 hc1
 go_enter Tryz.func23,Tryz.ntmps23
 go_wp2_with fail
 refine wp_scope_jumps2 0 (LenJ n t w) (fun a _=>cntN t - cntAt a) rfl ?_ ?_
 ·rintro a w1 ⟨k,B,cv,Av,u1,u5,u6,u7,u8,u9,u10,u11,u12,u13,u14,u15,u16,u17,u18,u19,u20,u21,rfl,hk,hB,hBl,c1,c2,hown,hx⟩
  obtain ⟨C,hC⟩:∃ C,cntN t=C:=⟨_,rfl⟩
  obtain ⟨Y,hY⟩:∃ Y,keyN t=Y:=⟨_,rfl⟩
  have hb:=HB.out
  rw [hC] at hk c2 hb
  rw [hY] at c1 hb
  by_cases hlt:k < C
  ·have hlen:=lensI_length t k
   have HS:=hid (lensI_succ t k)
   rw [hY] at HS
   have hsum:(Y:Int)+8*(k:Int)=((Y+8*k:Nat):Int):=by omega
   obtain ⟨Z,hZ⟩:∃ Z,Y+8*k=Z:=⟨_,rfl⟩
   rw [hZ] at hsum HS
   have hZb:Z≤100:=by omega
   have HX:=hid hx
   have HO:=hid hown
   have HCE:=hid hC
   have HYE:=hid hY
   have HLT:=hid hlt
   have hsz:=Ext.alloc w1 (.cells #[.int .i64 (Z:Int)] 3)
   clear hx hown hZ hC hY
   have HRD:=hid (one_int w1 (Z:Int))
   have HOA:=hid (OwnN.kept HO.out hsz)
   have HSZ:=hid (show w1.heap.size+1≤(w1.alloc (.cells #[.int .i64 (Z:Int)] 3)).heap.size by rw [World.size_alloc];exact Nat.le_refl _)
   have HW:=hid hsz
   have HB3:=hid (And.intro hB hBl)
   have HCC:=hid (And.intro c1 c2)
   clear hsz hB hBl hlen
   go_wp2_with (at_builtin;refine wpL_appendN _ rfl (.tmp 12) (.tmp 19) 40 rfl Tryz.underlying40 8 Tryz.info3 (B+1) _ (lensI t k) rfl HOA.out _ _ 1 1 [(Z:Int)] rfl HRD.out (by rw [lensI_length];have:=HLT.out;have:=HB.out;rw [HCE.out] at this;omega) (by rw [lensI_length];unfold maxLen;have:=HLT.out;have:=HB.out;rw [HCE.out] at this;omega) (by have:=HSZ.out;have:=HB3.out;omega) ?_;intro v4 w4 hown4 hb4;rw [← HS.out] at hown4;obtain ⟨A4,c4,rfl,hcc4,_,hown4⟩:=OwnN.rdc (n:=k+1) hown4 (lensI_length _ _);have HX4:=hid hb4;have HO4:=hid hown4;clear hb4 hown4)
   go_step3
   (try simp only [Exit.jump])
   have g1:=(Below.cell HW.out (p:=⟨B,1,none⟩) HB3.out.2).trans HCC.out.1
   have g2:=(Below.cell HW.out (p:=⟨B,2,none⟩) HB3.out.2).trans HCC.out.2
   have hxx:Ext w w4:=Below.trans (Ext.trans HX.out HW.out) (Below.mono HX4.out (by have:=HB3.out;omega))
   refine ⟨rfl,⟨k+1,B,c4,A4,_,_,_,_,_,_,_,_,_,_,_,_,_,_,_,_,_,_,rfl,by rw [HCE.out];exact HLT.out,HB3.out.1,?_,?_,?_,HO4.out,hxx⟩,?_⟩
   ·exact Nat.lt_of_lt_of_le (Nat.lt_of_lt_of_le HB3.out.2 (Below.size HW.out)) (Below.size HX4.out)
   ·rw [HYE.out];exact (Below.cell HX4.out (p:=⟨B,1,none⟩) (Nat.lt_succ_self B)).trans g1
   ·rw [HCE.out];exact (Below.cell HX4.out (p:=⟨B,2,none⟩) (Nat.lt_succ_self B)).trans g2
   ·have h1:=HCE.out;have h2:=HLT.out;simp [cntAt];omega
  ·obtain rfl:k=C:=by omega
   have HH:=hid (And.intro hown hx)
   have HBB:=hid hB
   clear hown hx hB
   go_wp2_with fail
   (try simp only [Exit.jump])
   go_ret
   rw [hC]
   exact ⟨_,rfl,own_lower HH.out.1 (by have:=HBB.out;omega),HH.out.2⟩
 ·intro hfirst
  have HF:=hid hfirst
  clear hfirst
  go_wp2_with (go_at_call 47;refine HC.out.mono ?_;rintro e w1 ⟨rfl,hx⟩;have HX:=hid hx;clear hx)
  go_step3
  simp only [Exit.then]
  rename_i hK
  refine hK _ _ ?_
  have x1:=Ext.alloc w1 (.cells #[.int .i64 (szN t:Nat),.int .i64 (keyN t:Nat),.int .i64 (cntN t:Nat)] 91)
  have hh:=heap_alloc_new w1 (.cells #[.int .i64 (szN t:Nat),.int .i64 (keyN t:Nat),.int .i64 (cntN t:Nat)] 91)
  refine HF.out.out _ _ ⟨0,w1.heap.size,0,none,_,_,_,_,_,_,_,_,_,_,_,_,_,_,_,_,_,_,rfl,Nat.zero_le _,Below.size HX.out,?_,?_,?_,?_,Ext.trans HX.out x1⟩
  ·rw [World.size_alloc];exact Nat.lt_succ_self _
  ·rw [cell_of_row _ _ _ _ _ _ hh];rfl
  ·rw [cell_of_row _ _ _ _ _ _ hh];rfl
  ·exact own_none _ _
end Go.Proofs.YtbgkmicelmenfaaGreatDoor.C
namespace Go.Proofs.YtbgkmicelmenfaaGreatDoor.C
open Go.RowKit
open A (byL byL_len by_start copy_facts own_of_heap fillF)
set_option maxRecDepth 100000
theorem Tryz.info5:(Tryz.prog.info? 5).map (fun i=>(i.zero,i.size,i.bytes))=some (some (.int .u8 0),1,1):=by kernel_rfl
theorem ret_int {k:IntKind} {a b:Int} (h:a=b):Ending.returned (.int k a)=.returned (.int k b):=by rw [h]
theorem tmod_neg (a n:Int) (hn:0 < n) (h:a.tmod n < 0):a.tmod n+n=a % n:=by
 have h:=@Int.tmod_eq_emod a n
 have h1:=Int.emod_nonneg a (Int.ne_of_gt hn)
 have h2:=Int.emod_lt_of_pos a hn
 split at h<;>omega
theorem tmod_pos (a n:Int) (hn:0 < n) (h:¬ a.tmod n < 0):a.tmod n=a % n:=by
 have h:=@Int.tmod_eq_emod a n
 have h1:=Int.emod_nonneg a (Int.ne_of_gt hn)
 have h2:=Int.emod_lt_of_pos a hn
 split at h<;>omega
set_option maxHeartbeats 400000 in
theorem within_any (a n:Int) (w:World) (h0:0 < n) (h1:n≤9223372036854775807) :
  Calls Tryz.prog 27 #[.int .i64 a,.int .i64 n] w fun e w'=>e=.returned (.int .i64 (a % n))∧w=w':=by
 have b1:=Int.tmod_lt_of_pos a h0
 by_cases hc:a.tmod n < 0
 ·have hf:=tmod_neg a n h0 hc
  have b2:=Int.emod_nonneg a (Int.ne_of_gt h0)
  have b3:0≤a.tmod n+n:=by omega
  have HF:=hid hf;clear hf b2
  go_enter Tryz.func27,Tryz.ntmps27
  go_wp2
  go_ret
  exact ⟨ret_int HF.out,rfl⟩
 ·have hf:=tmod_pos a n h0 hc
  have HF:=hid hf;clear hf
  go_enter Tryz.func27,Tryz.ntmps27
  go_wp2
  go_ret
  exact ⟨ret_int HF.out,rfl⟩
set_option maxHeartbeats 4000000 in
theorem by_any (A:Option Addr) (n L c:Nat) (bs:List UInt8) (w:World) (h:Rd w w.heap.size A L bs) (hn:n≤1000) (_hL:L≤9223372036854775807) :
  Calls Tryz.prog 18 #[.int .i64 n,.slice A L c] w (RetB w (byL n bs)):=by
 have hl:=h.len
 have HSP:=hid (by_start bs n L hl)
 have HR:=hid h
 clear h
 go_enter Tryz.func18,Tryz.ntmps18
 go_wp2_with (first
  | (at_make;refine wpL_make rfl (.tmp 7) (.tmp 7) 22 rfl Tryz.underlying22 Tryz.info5 .i64 n n rfl rfl rfl (by omega) w.heap.size (Nat.le_refl _) ?_;intro w1 hown1 hb1 _;have HF:=hid (copy_facts HR.out hown1 hb1);have HB1:=hid hb1;clear hown1 hb1)
  | (with_reducible refine wpList_copy_splice rfl (.tmp 9) (.tmp 10) 22 22 rfl 5 Tryz.underlying22 (by kernel_rfl) (some ⟨w.heap.size,0,none⟩) A n n L c rfl rfl w.heap.size 0 (List.replicate n (.int .u8 0)) 5 HF.out.1 (cellsOf (bs.take n)) HF.out.2.1 (fun h0=>⟨rfl,HF.out.2.2.1 h0⟩) HF.out.2.2.2 (cellsOf_one _) w.heap.size w HB1.out (Nat.le_refl _) ?_;intro w2 hz2 hb2))
 rw [HSP.out] at hz2
 have HO2:=hid (own_of_heap rfl hz2.out (fillTo_length _ _ _) (Nat.le_refl w.heap.size) (by unfold maxLen;omega))
 have HB2:=hid hb2
 obtain ⟨G,hG⟩:∃ G,w.heap.size=G:=⟨_,rfl⟩
 have HO2:=hid (show Own w2 w.heap.size (.slice (some ⟨G,0,none⟩) n n) (fillTo (fillF bs) n L) by rw [← hG];exact HO2.out)
 rw [hG]
 have HG:=hid hG
 clear hz2 hb2 HF HB1 HSP hG
 go_loopw [6] (fun i wr=>∃ k:Nat,L≤k∧(k≤n∨k=L)∧i=.int .i64 k∧Own wr w.heap.size (.slice (some ⟨G,0,none⟩) n n) (fillTo (fillF bs) n k)∧Below w.heap.size w wr) (fun i _=>n - (intOf i).toNat)
 case atStart=>exact ⟨L,Nat.le_refl _,.inr rfl,rfl,HO2.out,HB2.out⟩
 case round =>
  clear HO2 HB2
  obtain ⟨k,hk1,hk2,rfl,hown,hb⟩:=hrel
  by_cases hlt:k < n
  ·have hset:=hown
   obtain ⟨cur,hcur⟩:∃ cur,fillTo (fillF bs) n k=cur:=⟨_,rfl⟩
   have hcl:cur.length=n:=by rw [← hcur];exact fillTo_length _ _ _
   rw [hcur] at hown
   have hown0:Own wr w.heap.size (.slice (some ⟨G,0,none⟩) cur.length n) cur:=by rw [hcl];exact hown
   have hcell:=hown0.cell k (by omega)
   have hfree:=hown0.free k
   have hset:=hown0.set_ k (fillF bs k)
   rw [← hcur,fillTo_set _ _ _ _ rfl,fillTo_length] at hset
   have hv:((fillF bs k).toNat:Int)=(k:Int)*37 % 256:=by
    unfold fillF
    rw [if_neg (by omega),UInt8.toNat_ofNat']
    omega
   rw [hv] at hset
   have HH:=hid hset
   have HB:=hid hb
   clear hset hv hown0 hown hb hcl hcur
   go_wp2_with fail
   go_roundw
   case rel=>exact ⟨k+1,by omega,.inl (by omega),by go_num,HH.out,HB.out.setCell (by have:=HG.out;simp;omega) _⟩
   case measure=>simp [intOf];omega
  ·have e:fillTo (fillF bs) n k=byL n bs:=by
    unfold byL
    rw [← fillTo_full]
    apply List.ext_getElem
    ·simp [fillTo]
    ·intro i h1 h2
     have:i < n:=by simpa [fillTo] using h1
     simp only [fillTo,List.getElem_map,List.getElem_range]
     rw [if_pos (by omega),if_pos this]
   rw [e] at hown
   have HH:=hid (And.intro hown hb)
   clear hown hb e
   go_wp2_with fail
   go_ret
   exact ⟨_,rfl,HH.out.1,HH.out.2⟩
set_option maxHeartbeats 1000000 in
theorem index_any (A:Option Addr) (n c:Nat) (x:Int) (xs:List Int) (w:World) (h:RdN .i64 w w.heap.size A n xs) (hn:n≤1000) :
  Calls Tryz.prog 75 #[.slice A n c,.int .i64 x] w fun e w'=>(∃ i:Int,e=.returned (.int .i64 i)∧(decide (0≤i)=decide (x ∈ xs)))∧w=w':=by
 have HR:=hid h
 have HL:=hid h.len
 clear h
 go_enter Tryz.func75,Tryz.ntmps75
 go_wp2_with fail
 go_loop [8] (fun i=>∃ k:Nat,k≤n∧i=.int .i64 k∧∀ j,j < k→xs.getD j 0 ≠ x) (fun i=>n - (intOf i).toNat)
 case atStart=>exact ⟨0,Nat.zero_le _,rfl,fun j hj=>absurd hj (by omega)⟩
 case round =>
  obtain ⟨k,hk,rfl,hno⟩:=hrel
  have HNO:=hid hno
  clear hno
  by_cases hlt:k < n
  ·obtain ⟨b,o,rfl,_,hc⟩:=HR.out.at_ (by omega)
   have hcell:=hc k hlt
   obtain ⟨y,hy⟩:∃ y,xs.getD k 0=y:=⟨_,rfl⟩
   rw [hy] at hcell
   have HY:=hid hy
   clear hc hy
   by_cases hxy:x=y
   ·have hg:(x == y)=true:=by simp [hxy]
    have HXY:=hid hxy
    clear hxy
    go_wp2_with fail
    go_ret
    refine ⟨⟨_,rfl,?_⟩,rfl⟩
    have hm:x ∈ xs:=by
     rw [HXY.out,← HY.out,List.getD_eq_getElem?_getD,List.getElem?_eq_getElem (by have:=HL.out;omega)]
     exact List.getElem_mem _
    simp [hm]
   ·have hg:(x == y)=false:=by simp [hxy]
    have HXY:=hid hxy
    clear hxy
    go_wp2_with fail
    go_roundw
    case rel=>exact ⟨k+1,by omega,by go_num,fun j hj=>by
     rcases Nat.lt_or_ge j k with h1 | h1
     ·exact HNO.out j h1
     ·obtain rfl:j=k:=by omega
      rw [HY.out];exact fun e=>HXY.out e.symm⟩
    case measure=>simp [intOf];omega
  ·obtain rfl:k=n:=by omega
   go_wp2_with fail
   go_ret
   refine ⟨⟨_,rfl,?_⟩,rfl⟩
   have hm:x ∉ xs:=fun hm=>by
    obtain ⟨j,hj,e⟩:=List.getElem_of_mem hm
    have:=HNO.out j (by have:=HL.out;omega)
    rw [List.getD_eq_getElem?_getD,List.getElem?_eq_getElem hj] at this
    exact this e
   simp [hm]
set_option maxHeartbeats 400000 in
theorem contains_any (A:Option Addr) (n c:Nat) (x:Int) (xs:List Int) (w:World) (h:RdN .i64 w w.heap.size A n xs) (hn:n≤1000) :
  Calls Tryz.prog 38 #[.slice A n c,.int .i64 x] w fun e w'=>e=.returned (.bool (decide (x ∈ xs)))∧w=w':=by
 have HC:=hid (index_any A n c x xs w h hn)
 clear h
 go_enter Tryz.func38,Tryz.ntmps38
 go_wp2_with fail
 refine HC.out.mono ?_
 rintro e w1 ⟨⟨i,rfl,hi⟩,rfl⟩
 go_wp2_with fail
 go_ret
 exact ⟨rfl,rfl⟩
theorem _root_.Go.Proofs.YtbgkmicelmenfaaGreatDoor.IsRow.rdb {w:World} {a:Option Addr} {len cap:Nat} {zs:List Int} (h:IsRow .u8 w a len cap zs):∃ bs,Rd w w.heap.size a len bs∧len≤9223372036854775807∧(len≤cap∧cap≤9223372036854775807):=by
 obtain ⟨bs,h1,h2,h3⟩:=h.rdc
 have hm:maxLen≤9223372036854775807:=by unfold maxLen;omega
 refine ⟨bs,h1,by omega,h3,?_⟩
 rcases h with ⟨_,_,rfl,_⟩ | ⟨x,_,_,h4,_⟩
 ·omega
 ·omega
set_option maxHeartbeats 1000000 in
theorem rsize_any (n:Int) (w:World):Calls Tryz.prog 26 #[.int .i64 n] w fun e w'=>e=.returned (.int .i64 (szN (tN n):Nat))∧w=w':=by
 by_cases h:1≤n∧n≤8
 ·rcases (by omega:n=1∨n=2∨n=3∨n=4∨n=5∨n=6∨n=7∨n=8) with rfl | rfl | rfl | rfl | rfl | rfl | rfl | rfl <;>
  (go_enter Tryz.func26,Tryz.ntmps26
   go_wp2
   go_ret
   exact ⟨rfl,rfl⟩)
 ·have HE:=hid (show tN n=0 by unfold tN;rw [if_neg h])
  have g1:(n == 1)=false:=by simp;omega
  have g2:(n == 2)=false:=by simp;omega
  have g3:(n == 3)=false:=by simp;omega
  have g4:(n == 4)=false:=by simp;omega
  have g5:(n == 5)=false:=by simp;omega
  have g6:(n == 6)=false:=by simp;omega
  have g7:(n == 7)=false:=by simp;omega
  have g8:(n == 8)=false:=by simp;omega
  clear h
  go_enter Tryz.func26,Tryz.ntmps26
  go_wp2
  go_ret
  rw [HE.out]
  exact ⟨rfl,rfl⟩
theorem lens_lit (w:World) (xs:List Int) (t:Nat) (he:xs=lensI t (cntN t)) (hl:xs.length≤3) (cs:Array Value) (hcs:cs.toList=cN .i64 xs) (n:Nat) (hn:xs.length=n) :
  RetN .i64 3 w (lensI t (cntN t)) (.returned (.slice (some ⟨w.heap.size,0,none⟩) n n)) (w.alloc (.cells cs 3)):=by
 subst he
 exact ⟨_,rfl,OwnN.lit w _ cs n w.heap.size hcs hn (by unfold maxLen;omega) (Nat.le_refl _),Ext.alloc _ _⟩
set_option maxHeartbeats 2000000 in
theorem rlens_any (n:Int) (w:World):Calls Tryz.prog 24 #[.int .i64 n] w (RetN .i64 3 w (lensI (tN n) (cntN (tN n)))):=by
 by_cases h:1≤n∧n≤8
 ·rcases (by omega:n=1∨n=2∨n=3∨n=4∨n=5∨n=6∨n=7∨n=8) with rfl | rfl | rfl | rfl | rfl | rfl | rfl | rfl <;>
  (go_enter Tryz.func24,Tryz.ntmps24
   go_wp2
   go_ret
   exact lens_lit w _ _ rfl (by decide) _ rfl _ rfl)
 ·have HE:=hid (show tN n=0 by unfold tN;rw [if_neg h])
  have g1:(n == 1)=false:=by simp;omega
  have g2:(n == 2)=false:=by simp;omega
  have g3:(n == 3)=false:=by simp;omega
  have g4:(n == 4)=false:=by simp;omega
  have g5:(n == 5)=false:=by simp;omega
  have g6:(n == 6)=false:=by simp;omega
  have g7:(n == 7)=false:=by simp;omega
  have g8:(n == 8)=false:=by simp;omega
  clear h
  go_enter Tryz.func24,Tryz.ntmps24
  go_wp2
  go_ret
  rw [HE.out]
  exact ⟨_,rfl,own_none _ _,Ext.refl _⟩
theorem cnt_pos {t:Nat} (h:1≤t∧t≤8):0 < cntN t:=by rcases tags h with rfl | rfl | rfl | rfl | rfl | rfl | rfl | rfl<;>decide
end Go.Proofs.YtbgkmicelmenfaaGreatDoor.C
namespace Go.Proofs.YtbgkmicelmenfaaGreatDoor.C
open Go.RowKit
set_option maxRecDepth 100000
set_option maxHeartbeats 1000000 in
theorem turned_S {R:Ending→World→Prop} (p q:Nat) (A:Option Addr) (n c:Nat) (back:Bool) (w:World) (h:w.cell? ⟨p,0,none⟩=some (.iface 58 (.pointer (some ⟨q,0,none⟩))))
  (hc:Calls Tryz.prog 37 #[.pointer (some ⟨q,0,none⟩),.slice A n c,.bool back] w R) (hR:∀ e w',R e w'→∃ s x,e=.returned (.tuple #[s,x])) :
  Calls Tryz.prog 45 #[.pointer (some ⟨p,0,none⟩),.slice A n c,.bool back] w R:=by
 have HC:=hid hc
 have HR:=hid hR
 clear hc hR
 go_enter Tryz.func45,Tryz.ntmps45
 go_wp2_with fail
 refine HC.out.mono ?_
 intro e w1 hr
 have HE:=hid hr
 obtain ⟨s,x,rfl⟩:=HR.out _ _ hr
 clear hr
 go_wp2_with fail
 exact HE.out
def OkRet (w:World) (n:Nat) (bs:List UInt8) (e:Ending) (w':World):Prop:=∃ A c,e=.returned (.tuple #[.slice A n c,.int .i64 0])∧(n≤c∧c≤9223372036854775807)∧Rd w' w'.heap.size A n bs∧Ext w w'
def BadRet (w:World) (e:Ending) (w':World):Prop:=e=.returned (.tuple #[.slice none 0 0,.int .i64 1])∧Ext w w'
theorem OkRet.pair {w w':World} {n:Nat} {bs:List UInt8} {e:Ending} (h:OkRet w n bs e w'):∃ s x,e=.returned (.tuple #[s,x]):=by
 obtain ⟨A,c,h,_⟩:=h;exact ⟨_,_,h⟩
theorem BadRet.pair {w w':World} {e:Ending} (h:BadRet w e w'):∃ s x,e=.returned (.tuple #[s,x]):=⟨_,_,h.1⟩
theorem ok_own {w w':World} {n:Nat} {bs:List UInt8} {e:Ending} (h:∃ v,e=.returned (.tuple #[v,.int .i64 0])∧Own w' w.heap.size v bs∧Ext w w') (hl:bs.length=n):OkRet w n bs e w':=by
 obtain ⟨v,rfl,ho,hx⟩:=h
 obtain ⟨A,c,rfl,hc,hr,_⟩:=ho.rdcb hl
 exact ⟨A,c,rfl,hc,hr,hx⟩
def Turns (F:Nat) (w:World) (p:Nat) (n:Nat) (f:Bool→List UInt8→List UInt8):Prop :=
 ∀ w',Ext w w'→∀ (back:Bool) (A:Option Addr) (m c:Nat),
  (m ≠ n→Calls Tryz.prog F #[.pointer (some ⟨p,0,none⟩),.slice A m c,.bool back] w' (BadRet w')) ∧
  (m=n→(m≤c∧c≤9223372036854775807)→∀ b,Rd w' w'.heap.size A m b→Calls Tryz.prog F #[.pointer (some ⟨p,0,none⟩),.slice A m c,.bool back] w' (OkRet w' n (f back b)))
theorem Turns.later {F:Nat} {w w1:World} {p n:Nat} {f:Bool→List UInt8→List UInt8} (h:Turns F w p n f) (hx:Ext w w1):Turns F w1 p n f:=fun w' hx'=>h w' (Ext.trans hx hx')
structure IsC (w:World) (p n:Nat) (f:Bool→List UInt8→List UInt8):Prop where
 size:w.cell? ⟨p,1,none⟩=some (.int .i64 (n:Nat))
 turns:Turns 45 w p n f
theorem IsC.later {w w1:World} {p n:Nat} {f:Bool→List UInt8→List UInt8} (h:IsC w p n f) (hx:Ext w w1):IsC w1 p n f:=⟨cell_at hx h.size,h.turns.later hx⟩
theorem isC_S {w:World} {p q n:Nat} {f:Bool→List UInt8→List UInt8} (h0:w.cell? ⟨p,0,none⟩=some (.iface 58 (.pointer (some ⟨q,0,none⟩)))) (h1:w.cell? ⟨p,1,none⟩=some (.int .i64 (n:Nat))) (ht:Turns 37 w q n f):IsC w p n f :=
 ⟨h1,fun w' hx back A m c=>⟨fun hm=>turned_S p q A m c back w' (cell_at hx h0) ((ht w' hx back A m c).1 hm) fun _ _ h=>h.pair,
  fun hm hc b hr=>turned_S p q A m c back w' (cell_at hx h0) ((ht w' hx back A m c).2 hm hc b hr) fun _ _ h=>h.pair⟩⟩
set_option maxHeartbeats 400000 in
theorem enc_call {R:Ending→World→Prop} (p:Nat) (A:Option Addr) (n c:Nat) (w:World) (hc:Calls Tryz.prog 45 #[.pointer (some ⟨p,0,none⟩),.slice A n c,.bool false] w R) (hR:∀ e w',R e w'→∃ s x,e=.returned (.tuple #[s,x])) :
  Calls Tryz.prog 19 #[.pointer (some ⟨p,0,none⟩),.slice A n c] w R:=by
 have HC:=hid hc
 have HR:=hid hR
 clear hc hR
 go_enter Tryz.func19,Tryz.ntmps19
 go_wp2_with fail
 refine HC.out.mono ?_
 intro e w1 hr
 have HE:=hid hr
 obtain ⟨s,x,rfl⟩:=HR.out _ _ hr
 clear hr
 go_wp2_with fail
 exact HE.out
theorem enc_any (p:Nat) (A:Option Addr) (n c:Nat) (f:Bool→List UInt8→List UInt8) (b:List UInt8) (w:World) (hI:IsC w p n f) (h:Rd w w.heap.size A n b) (hc:n≤c∧c≤9223372036854775807) :
  Calls Tryz.prog 19 #[.pointer (some ⟨p,0,none⟩),.slice A n c] w (OkRet w n (f false b)) :=
 enc_call p A n c w ((hI.turns w (Ext.refl w) false A n c).2 rfl hc b h) fun _ _ h=>h.pair
set_option maxHeartbeats 400000 in
theorem dec_call {R:Ending→World→Prop} (p:Nat) (A:Option Addr) (n c:Nat) (w:World) (hc:Calls Tryz.prog 45 #[.pointer (some ⟨p,0,none⟩),.slice A n c,.bool true] w R) (hR:∀ e w',R e w'→∃ s x,e=.returned (.tuple #[s,x])) :
  Calls Tryz.prog 21 #[.pointer (some ⟨p,0,none⟩),.slice A n c] w R:=by
 have HC:=hid hc
 have HR:=hid hR
 clear hc hR
 go_enter Tryz.func21,Tryz.ntmps21
 go_wp2_with fail
 refine HC.out.mono ?_
 intro e w1 hr
 have HE:=hid hr
 obtain ⟨s,x,rfl⟩:=HR.out _ _ hr
 clear hr
 go_wp2_with fail
 exact HE.out
theorem dec_any (p:Nat) (A:Option Addr) (n c:Nat) (f:Bool→List UInt8→List UInt8) (b:List UInt8) (w:World) (hI:IsC w p n f) (h:Rd w w.heap.size A n b) (hc:n≤c∧c≤9223372036854775807) :
  Calls Tryz.prog 21 #[.pointer (some ⟨p,0,none⟩),.slice A n c] w (OkRet w n (f true b)) :=
 dec_call p A n c w ((hI.turns w (Ext.refl w) true A n c).2 rfl hc b h) fun _ _ h=>h.pair
set_option maxHeartbeats 400000 in
theorem csize_any (p n:Nat) (f:Bool→List UInt8→List UInt8) (w:World) (hI:IsC w p n f) :
  Calls Tryz.prog 16 #[.pointer (some ⟨p,0,none⟩)] w fun e w'=>e=.returned (.int .i64 (n:Nat))∧w=w':=by
 have h1:=hI.size
 go_enter Tryz.func16,Tryz.ntmps16
 go_wp2
 go_ret
 exact ⟨rfl,rfl⟩
end Go.Proofs.YtbgkmicelmenfaaGreatDoor.C
namespace Go.Proofs.YtbgkmicelmenfaaGreatDoor.C
open Go.RowKit
set_option maxRecDepth 100000
theorem mem_one {t n m:Nat} (h:n ∈ lensN t) (ht:lensN t = [m]:=by decide):n=m:=by rw [ht] at h;simpa using h
structure GC [Inhabited D.BT] [Inhabited S.RT] (w:World):Prop where
 sh:Shapes w
 bx:D.Boxes w
 rw_:S.GRows w
 gt:T.GT w
 gk:A.GK w
theorem GC.later [Inhabited D.BT] [Inhabited S.RT] {w w':World} (h:GC w) (hx:Ext w w'):GC w':=⟨h.sh.later hx,h.bx.later hx,h.rw_.later hx,h.gt.later hx,h.gk.later hx⟩
theorem turns_S [Inhabited S.RT] {w:World} {q:Nat} {t:S.T3} {key:List UInt8} (hd:S.IsSmall w q t (S.aheadOf t key) (S.keysOf t key)) (hG:S.GRows w):Turns 37 w q 8 (S.blockL t key) :=
 fun w' hx back Ad n c=>⟨fun hn=>S.block_bad q Ad n c back w' hn,fun hn hc b hr=>by
  subst hn
  exact (S.block_any t key back q Ad c b w' (hd.later hx) (hG.later hx) hr hc.1 hc.2).mono fun e w2 h=>ok_own h (S.blockL_length _ _ _ _)⟩
def Own_ (w:World) (v:Value) (n:Nat) (f:Bool→List UInt8→List UInt8):Prop :=
 (∃ ty q,v=.iface ty (.pointer (some ⟨q,0,none⟩)))∧∀ p,w.cell? ⟨p,0,none⟩=some v→w.cell? ⟨p,1,none⟩=some (.int .i64 (n:Nat))→IsC w p n f
def OwnAll (w:World) (v:Value) (n:Nat) (f:Bool→List UInt8→List UInt8):Prop:=∀ w',Ext w w'→Own_ w' v n f
def MadeRet (w:World) (n:Nat) (f:Bool→List UInt8→List UInt8) (e:Ending) (w':World):Prop:=∃ v,e=.returned (.tuple #[v,.int .i64 0])∧OwnAll w' v n f∧Ext w w'
theorem ownAll_S {w:World} {q n:Nat} {f:Bool→List UInt8→List UInt8} (h:Turns 37 w q n f):OwnAll w (.iface 58 (.pointer (some ⟨q,0,none⟩))) n f :=
 fun _ hx=>⟨⟨_,_,rfl⟩,fun _ h0 h1=>isC_S h0 h1 (h.later hx)⟩
set_option maxHeartbeats 1000000 in
theorem made_4 {N:Nat} {f:Bool→List UInt8→List UInt8} (Ad:Option Addr) (n c:Nat) (w:World)
  (hc:Calls Tryz.prog 36 #[.int .i64 4,.slice Ad n c] w fun e w'=>∃ q,e=.returned (.tuple #[.pointer (some ⟨q,0,none⟩),.int .i64 0])∧OwnAll w' (.iface 58 (.pointer (some ⟨q,0,none⟩))) N f∧Ext w w') :
  Calls Tryz.prog 39 #[.int .i64 4,.slice Ad n c] w (MadeRet w N f):=by
 have HC:=hid hc
 clear hc
 go_enter Tryz.func39,Tryz.ntmps39
 go_wp2_with fail
 refine HC.out.mono ?_
 rintro e w1 ⟨q,rfl,hr⟩
 have HE:=hid hr
 clear hr
 go_wp2_with fail
 go_ret2
 exact ⟨_,rfl,HE.out.1,HE.out.2⟩
def NewRet (w:World) (n:Nat) (f:Bool→List UInt8→List UInt8) (e:Ending) (w':World):Prop:=∃ p,e=.returned (.tuple #[.pointer (some ⟨p,0,none⟩),.int .i64 0])∧w.heap.size≤p∧IsC w' p n f∧Ext w w'
set_option maxHeartbeats 2000000 in
theorem new_of {t:Nat} (ht:1≤t∧t≤8) (Q:World→Value→Prop) (Ad:Option Addr) (n c:Nat) (w:World) (hk:n ∈ lensN t) (hS:Shapes w)
  (hM:∀ w',Ext w w'→Calls Tryz.prog 39 #[.int .i64 t,.slice Ad n c] w' fun e w2=>∃ ty q,e=.returned (.tuple #[.iface ty (.pointer (some ⟨q,0,none⟩)),.int .i64 0])∧Q w2 (.iface ty (.pointer (some ⟨q,0,none⟩)))∧Ext w' w2) :
  Calls Tryz.prog 13 #[.int .i64 t,.slice Ad n c] w fun e w'=>∃ p v w3,e=.returned (.tuple #[.pointer (some ⟨p,0,none⟩),.int .i64 0])∧w.heap.size≤p∧Ext w w'∧Q w3 v∧Ext w3 w'∧w'.cell? ⟨p,0,none⟩=some v∧w'.cell? ⟨p,1,none⟩=some (.int .i64 (szN t:Nat)):=by
 have HM:=hid hM
 have HS:=hid (fun w' (hx:Ext w w')=>size_any (t:Int) w' (hS.later hx))
 have HL:=hid (fun w' (hx:Ext w w')=>lens_any (t:Int) w' (hS.later hx))
 rw [tN_tag ht] at HS HL
 have HIN:=hid (show decide ((n:Int) ∈ lensI t (cntN t))=true by
  obtain ⟨i,hi,e⟩:=List.mem_map.1 hk
  simp only [decide_eq_true_eq]
  exact List.mem_map.2 ⟨i,hi,by rw [e]⟩)
 have hc3:=cnt_le t ht.2
 have hz:=(sz_zero t ht.2)
 obtain ⟨Z,hZ⟩:∃ Z,szN t=Z:=⟨_,rfl⟩
 rw [hZ] at HS hz ⊢
 have hz0:((Z:Int) == 0)=false:=by simp;omega
 have HC3:=hid hc3
 clear hM hS hk hZ hz hc3
 go_enter Tryz.func13,Tryz.ntmps13
 go_wp2_with fail
 refine (HS.out _ (Ext.refl w)).mono ?_
 rintro e w1 ⟨rfl,hx1⟩
 have HX1:=hid hx1
 clear hx1
 go_wp2_with fail
 refine (HL.out _ HX1.out).mono ?_
 rintro e w2 ⟨v2,rfl,ho2,hx2⟩
 obtain ⟨A2,c2,rfl,_,hr2,_⟩:=OwnN.rdc ho2 (lensI_length _ _)
 have HX2:=hid (Ext.trans HX1.out hx2)
 have HR2:=hid hr2
 clear hx2 ho2 hr2 HX1
 go_wp2_with (go_at_call 38;refine (contains_any _ _ _ _ _ _ HR2.out (by have:=HC3.out;omega)).mono ?_;rintro e w3 ⟨rfl,rfl⟩;rw [HIN.out])
 refine (HM.out _ HX2.out).mono ?_
 rintro e w3 ⟨ty,q,rfl,ho3,hx3⟩
 have HX3:=hid (Ext.trans HX2.out hx3)
 have HO3:=hid ho3
 clear hx3 ho3 HX2 HR2
 go_wp2_with fail
 refine (HS.out _ HX3.out).mono ?_
 rintro e w4 ⟨rfl,hx4⟩
 have x5:=Ext.alloc w4 (.cells #[.iface ty (.pointer (some ⟨q,0,none⟩)),.int .i64 (Z:Nat)] 71)
 have hh:=heap_alloc_new w4 (.cells #[.iface ty (.pointer (some ⟨q,0,none⟩)),.int .i64 (Z:Nat)] 71)
 have HE:=hid (And.intro (Ext.trans hx4 x5) (Ext.trans (Ext.trans HX3.out hx4) x5))
 have HH:=hid (And.intro (show (w4.alloc (.cells #[.iface ty (.pointer (some ⟨q,0,none⟩)),.int .i64 (Z:Nat)] 71)).cell? ⟨w4.heap.size,0,none⟩=some (.iface ty (.pointer (some ⟨q,0,none⟩))) by rw [cell_of_row _ _ _ _ _ _ hh];rfl) (show (w4.alloc (.cells #[.iface ty (.pointer (some ⟨q,0,none⟩)),.int .i64 (Z:Nat)] 71)).cell? ⟨w4.heap.size,1,none⟩=some (.int .i64 (Z:Nat)) by rw [cell_of_row _ _ _ _ _ _ hh];rfl))
 have HZ:=hid (show w.heap.size≤w4.heap.size from Below.size (Ext.trans HX3.out hx4))
 clear x5 hh hx4 HX3
 go_wp2_with fail
 go_ret2
 exact ⟨_,_,_,rfl,HZ.out,HE.out.2,HO3.out,HE.out.1,HH.out.1,HH.out.2⟩
end Go.Proofs.YtbgkmicelmenfaaGreatDoor.C
namespace Go.Proofs.YtbgkmicelmenfaaGreatDoor.C
open Go.RowKit
open A (str_toList str_ne strq made_run made_own)
set_option maxRecDepth 100000
def RetTrue (w:World) (e:Ending) (w':World):Prop:=e=.returned (.bool true)∧Ext w w'
def z8:List UInt8:=List.replicate 8 0
def z16:List UInt8:=List.replicate 16 0
theorem made8_run (w:World):(Instr.makeSlice 22 (.int .i64 (8:Int)) (.int .i64 (8:Int))).run Tryz.prog w=.ok (.slice (some ⟨w.heap.size,0,none⟩) 8 8) (w.alloc (.cells (madeCells #[Value.int .u8 0] 8) 5)):=made_run 8 w (by omega)
theorem made_byt (w:World):K.holds (.byt 8 z8) (w.alloc (.cells (madeCells #[Value.int .u8 0] 8) 5)) (.slice (some ⟨w.heap.size,0,none⟩) 8 8):=by
 obtain ⟨A,c,h1,h2,_⟩:=(made_own 8 w (by omega)).rdn (n:=8) rfl
 exact ⟨A,c,h1,h2⟩
def knK (BZ:List UInt8):List K:=[.byt 8 (BZ),.eq (.int .i64 8),.eq (.bool true),.eq (.bool true),.byt 8 (BZ),.eq (.string (str (BZ))),.byt 8 (z8),.eq (.string (str (z8))),.eq (.bool true),.eq (.bool true),.eq (.bool true),.byt 8 (z8),.eq (.string (str (z8))),.byt 8 (z8),.eq (.string (str (z8))),.eq (.bool true),.eq (.bool true),.eq (.bool true)]
set_option maxHeartbeats 4000000 in
theorem known_of (f:Bool→List UInt8→List UInt8) (hz:f false z8 ≠ z8) (hb:f true (f false z8)=z8) (hl:(f false z8).length=8) (w:World) (hS:Shapes w)
  (hN:∀ w',Ext w w'→∀ A c,Rd w' w'.heap.size A 16 z16→(16≤c∧c≤9223372036854775807)→Calls Tryz.prog 13 #[.int .i64 4,.slice A 16 c] w' (NewRet w' 8 f)) :
  Calls Tryz.prog 11 #[] w (RetTrue w):=by
 have HG:=hid hS
 have HN:=hid hN
 obtain ⟨BZ,hBZ⟩:∃ BZ,f false z8=BZ:=⟨_,rfl⟩
 rw [hBZ] at hz hb hl
 have HNE:=hid (str_ne hz)
 have HBB:=hid hb
 have HBZ:=hid hBZ
 have HL:=hid hl
 clear hS hN hz hb hBZ hl
 go_enter Tryz.func11,Tryz.ntmps11
 go_wp2_with (at_make;refine wpL_make rfl (.const (.int .i64 16)) (.const (.int .i64 16)) 22 rfl Tryz.underlying22 Tryz.info5 .i64 _ 16 rfl rfl rfl (by omega) w.heap.size (Nat.le_refl _) ?_;intro w2 hown2 hb2 _)
 obtain ⟨A2,c2,e2,hc2,hr2,_⟩:=hown2.rdcb (n:=16) rfl
 have HX2:=hid (show Ext w w2 from hb2)
 have HR2:=hid (show Rd w2 w2.heap.size A2 16 z16 from hr2)
 rw [e2]
 clear hown2 hb2 hr2 e2
 refine (HN.out _ HX2.out A2 c2 HR2.out hc2).mono ?_
 rintro e w3 ⟨p,rfl,_,h3,hx3⟩
 have HX3:=hid (Ext.trans HX2.out hx3)
 have HS3:=hid h3
 clear h3 hx3 HX2 HR2 hc2 HN
 go_wp2_with fail
 refine (size_any 0 _ (HG.out.later HX3.out)).mono ?_
 rintro e w4 ⟨rfl,hx4⟩
 have HX4:=hid (Ext.trans HX3.out hx4)
 have HS4:=hid (HS3.out.later hx4)
 clear hx4 HX3 HS3
 rw [show szN (tN 0)=0 from rfl]
 go_wp2_with fail
 refine (csize_any p 8 f _ HS4.out).mono ?_
 rintro e w5 ⟨rfl,rfl⟩
 go_wp2_with (at_make;refine wpL_make rfl (.const (.int .i64 8)) (.const (.int .i64 8)) 22 rfl Tryz.underlying22 Tryz.info5 .i64 _ 8 rfl rfl rfl (by omega) w4.heap.size (Nat.le_refl _) ?_;intro w6 hown6 hb6 _)
 obtain ⟨A6,c6,e6,hc6,hr6,_⟩:=hown6.rdcb (n:=8) rfl
 have HX6:=hid (Ext.trans HX4.out (show Ext w4 w6 from hb6))
 have HS6:=hid (HS4.out.later (show Ext w4 w6 from hb6))
 have HR6:=hid (show Rd w6 w6.heap.size A6 8 z8 from hr6)
 rw [e6]
 clear hown6 hb6 hr6 e6 HX4 HS4
 refine (enc_any p A6 8 c6 f z8 _ HS6.out HR6.out hc6).mono ?_
 rw [HBZ.out]
 rintro e w7 ⟨A5,c5,rfl,hc5,hr5,hx7⟩
 have HX7:=hid (Ext.trans HX6.out hx7)
 have HS7:=hid (HS6.out.later hx7)
 have HR5a:=hid hr5
 clear hx7 hr5 HX6 HS6 HR6 hc6
 go_wp2_with fail
 refine (dec_any p A5 8 c5 f BZ _ HS7.out HR5a.out hc5).mono ?_
 rw [HBB.out]
 rintro e w8 ⟨A7,c7,rfl,hc7,hr7,hx8⟩
 have HX8:=hid (Ext.trans HX7.out hx8)
 have HR7:=hid hr7
 have HR5:=hid (HR5a.out.later hx8)
 clear hx8 hr7 HX7 HS7 HR5a hc5 hc7
 go_wp2_with fail
 refine region_inv mixed rfl (by kernel_rfl) (kV (knK BZ)) (kV_keep _) (forall_ops ⟨?_,?_,?_,?_,?_,?_,?_,?_,?_,?_,?_,?_,?_,?_,?_,?_,?_,?_,trivial⟩) ?_
 ·intro a w hk
  have s3:a.tmps.getD 3 undef=.slice A5 8 c5:=hk.was 3 (by kernel_rfl) rfl
  have r3:=(HR5.out).later hk.ext
  exact step_move rfl rfl s3 ⟨_,_,rfl,r3⟩
 ·intro a w hk
  obtain ⟨A39,c39,s39,r39⟩:=hk.byt_ 0 39 (by kernel_rfl) rfl
  refine step_val (v:=.int .i64 8) (w':=w) rfl ?_ (Ext.refl w) rfl
  go_simp
 ·intro a w hk
  have s40:=hk.eq_ 1 40 (by kernel_rfl) rfl
  refine step_val (v:=.bool true) (w':=w) rfl ?_ (Ext.refl w) rfl
  go_simp
 ·intro a w hk
  have s41:=hk.eq_ 2 41 (by kernel_rfl) rfl
  exact step_move rfl rfl s41 rfl
 ·intro a w hk
  refine hk.run 3 42 true true rfl (by kernel_rfl) rfl fun hw=>?_
  have s3:a.tmps.getD 3 undef=.slice A5 8 c5:=hk.was 3 (by kernel_rfl) rfl
  have r3:=(HR5.out).later hk.ext
  exact step_move hw rfl s3 ⟨_,_,rfl,r3⟩
 ·intro a w hk
  refine hk.run 3 42 true true rfl (by kernel_rfl) rfl fun hw=>?_
  obtain ⟨A43,c43,s43,r43⟩:=hk.byt_ 4 43 (by kernel_rfl) rfl
  exact step_conv hw rfl s43 (strq r43) rfl
 ·intro a w hk
  refine hk.run 3 42 true true rfl (by kernel_rfl) rfl fun hw=>?_
  have s5:a.tmps.getD 5 undef=.slice A7 8 c7:=hk.was 5 (by kernel_rfl) rfl
  have r5:=(HR7.out).later hk.ext
  exact step_move hw rfl s5 ⟨_,_,rfl,r5⟩
 ·intro a w hk
  refine hk.run 3 42 true true rfl (by kernel_rfl) rfl fun hw=>?_
  obtain ⟨A45,c45,s45,r45⟩:=hk.byt_ 6 45 (by kernel_rfl) rfl
  exact step_conv hw rfl s45 (strq r45) rfl
 ·intro a w hk
  refine hk.run 3 42 true true rfl (by kernel_rfl) rfl fun hw=>?_
  have s44:=hk.eq_ 5 44 (by kernel_rfl) rfl
  have s46:=hk.eq_ 7 46 (by kernel_rfl) rfl
  refine step_val (v:=.bool true) (w':=w) hw ?_ (Ext.refl w) rfl
  have hne:=HNE.out
  go_simp
 ·intro a w hk
  have s42:=hk.eq_ 3 42 (by kernel_rfl) rfl
  have s47:=hk.eq_ 8 47 (by kernel_rfl) rfl
  exact step_pick (b:=true) rfl rfl s42 s47 rfl
 ·intro a w hk
  have s48:=hk.eq_ 9 48 (by kernel_rfl) rfl
  exact step_move rfl rfl s48 rfl
 ·intro a w hk
  refine hk.run 10 49 true true rfl (by kernel_rfl) rfl fun hw=>?_
  have s5:a.tmps.getD 5 undef=.slice A7 8 c7:=hk.was 5 (by kernel_rfl) rfl
  have r5:=(HR7.out).later hk.ext
  exact step_move hw rfl s5 ⟨_,_,rfl,r5⟩
 ·intro a w hk
  refine hk.run 10 49 true true rfl (by kernel_rfl) rfl fun hw=>?_
  obtain ⟨A50,c50,s50,r50⟩:=hk.byt_ 11 50 (by kernel_rfl) rfl
  exact step_conv hw rfl s50 (strq r50) rfl
 ·intro a w hk
  refine hk.run 10 49 true true rfl (by kernel_rfl) rfl fun hw=>?_
  refine step_val (v:=.slice (some ⟨w.heap.size,0,none⟩) 8 8) (w':=w.alloc (.cells (madeCells #[Value.int .u8 0] 8) 5)) hw ?_ (Ext.alloc _ _) (made_byt w)
  simp only [execOp,Act.eval]
  rw [Sem.run_bind,made8_run w]
  rfl
 ·intro a w hk
  refine hk.run 10 49 true true rfl (by kernel_rfl) rfl fun hw=>?_
  obtain ⟨A52,c52,s52,r52⟩:=hk.byt_ 13 52 (by kernel_rfl) rfl
  exact step_conv hw rfl s52 (strq r52) rfl
 ·intro a w hk
  refine hk.run 10 49 true true rfl (by kernel_rfl) rfl fun hw=>?_
  have s51:=hk.eq_ 12 51 (by kernel_rfl) rfl
  have s53:=hk.eq_ 14 53 (by kernel_rfl) rfl
  refine step_val (v:=.bool true) (w':=w) hw ?_ (Ext.refl w) rfl
  go_simp
 ·intro a w hk
  have s49:=hk.eq_ 10 49 (by kernel_rfl) rfl
  have s54:=hk.eq_ 15 54 (by kernel_rfl) rfl
  exact step_pick (b:=true) rfl rfl s49 s54 rfl
 ·intro a w hk
  have s55:=hk.eq_ 16 55 (by kernel_rfl) rfl
  exact step_assign rfl rfl s55 rfl
 ·intro a w6 hf
  obtain ⟨A39,c39,s39,r39⟩:=hf.val 0 39 (by kernel_rfl) rfl
  have s40:=hf.eq_ 1 40 (by kernel_rfl) rfl
  have s41:=hf.eq_ 2 41 (by kernel_rfl) rfl
  have s42:=hf.eq_ 3 42 (by kernel_rfl) rfl
  obtain ⟨A43,c43,s43,r43⟩:=hf.val 4 43 (by kernel_rfl) rfl
  have s44:=hf.eq_ 5 44 (by kernel_rfl) rfl
  obtain ⟨A45,c45,s45,r45⟩:=hf.val 6 45 (by kernel_rfl) rfl
  have s46:=hf.eq_ 7 46 (by kernel_rfl) rfl
  have s47:=hf.eq_ 8 47 (by kernel_rfl) rfl
  have s48:=hf.eq_ 9 48 (by kernel_rfl) rfl
  have s49:=hf.eq_ 10 49 (by kernel_rfl) rfl
  obtain ⟨A50,c50,s50,r50⟩:=hf.val 11 50 (by kernel_rfl) rfl
  have s51:=hf.eq_ 12 51 (by kernel_rfl) rfl
  obtain ⟨A52,c52,s52,r52⟩:=hf.val 13 52 (by kernel_rfl) rfl
  have s53:=hf.eq_ 14 53 (by kernel_rfl) rfl
  have s54:=hf.eq_ 15 54 (by kernel_rfl) rfl
  have s55:=hf.eq_ 16 55 (by kernel_rfl) rfl
  have s0:=hf.eq_ 17 0 (by kernel_rfl) rfl
  have hx:=hf.ext
  have e:=hf.frame
  clear hf
  simp only [regFrame,Act.put,List.setIfInBounds_toArray,List.set_cons_zero,List.set_cons_succ,s39,s40,s41,s42,s43,s44,s45,s46,s47,s48,s49,s50,s51,s52,s53,s54,s55,s0] at e
  clear s39 s40 s41 s42 s43 s44 s45 s46 s47 s48 s49 s50 s51 s52 s53 s54 s55 s0
  subst e
  have HX9:=hid (Ext.trans HX8.out hx)
  clear hx
  go_wp2_with fail
  go_ret
  exact ⟨rfl,HX9.out⟩
end Go.Proofs.YtbgkmicelmenfaaGreatDoor.C
namespace Go.Proofs.YtbgkmicelmenfaaGreatDoor.C
open Go.RowKit
set_option maxRecDepth 100000
theorem mem_lens {t n:Nat}:n ∈ lensN t↔(n:Int) ∈ lensI t (cntN t):=by
 constructor
 ·intro h
  obtain ⟨i,hi,e⟩:=List.mem_map.1 h
  exact List.mem_map.2 ⟨i,hi,by rw [e]⟩
 ·intro h
  obtain ⟨i,hi,e⟩:=List.mem_map.1 h
  exact List.mem_map.2 ⟨i,hi,by omega⟩
def NoRet (w:World) (k:Int) (e:Ending) (w':World):Prop:=e=.returned (.tuple #[.pointer none,.int .i64 k])∧Ext w w'
set_option maxHeartbeats 400000 in
theorem new_tag (n:Int) (h:tN n=0) (Ad:Option Addr) (m c:Nat) (w:World) (hS:Shapes w) :
  Calls Tryz.prog 13 #[.int .i64 n,.slice Ad m c] w (NoRet w 2):=by
 have HS:=hid (size_any n w hS)
 rw [h,show szN 0=0 from rfl] at HS
 clear hS h
 go_enter Tryz.func13,Tryz.ntmps13
 go_wp2_with fail
 refine HS.out.mono ?_
 rintro e w1 ⟨rfl,hx1⟩
 have HX1:=hid hx1
 clear hx1
 go_wp2_with fail
 go_ret2
 exact ⟨rfl,HX1.out⟩
set_option maxHeartbeats 1000000 in
theorem new_key {t:Nat} (ht:1≤t∧t≤8) (Ad:Option Addr) (n c:Nat) (w:World) (hk:n ∉ lensN t) (hS:Shapes w) :
  Calls Tryz.prog 13 #[.int .i64 t,.slice Ad n c] w (NoRet w 4):=by
 have HS:=hid (size_any (t:Int) w hS)
 have HL:=hid (fun w' (hx:Ext w w')=>lens_any (t:Int) w' (hS.later hx))
 rw [tN_tag ht] at HS HL
 have HIN:=hid (show decide ((n:Int) ∈ lensI t (cntN t))=false by
  simpa using fun h=>hk (mem_lens.2 h))
 have hc3:=cnt_le t ht.2
 have hz:=(sz_zero t ht.2)
 obtain ⟨Z,hZ⟩:∃ Z,szN t=Z:=⟨_,rfl⟩
 rw [hZ] at HS hz
 have hz0:((Z:Int) == 0)=false:=by simp;omega
 have HC3:=hid hc3
 clear hk hZ hz hc3 hS
 go_enter Tryz.func13,Tryz.ntmps13
 go_wp2_with fail
 refine HS.out.mono ?_
 rintro e w1 ⟨rfl,hx1⟩
 have HX1:=hid hx1
 clear hx1
 go_wp2_with fail
 refine (HL.out _ HX1.out).mono ?_
 rintro e w2 ⟨v2,rfl,ho2,hx2⟩
 obtain ⟨A2,c2,rfl,_,hr2,_⟩:=OwnN.rdc ho2 (lensI_length _ _)
 have HX2:=hid (Ext.trans HX1.out hx2)
 have HR2:=hid hr2
 clear hx2 ho2 hr2 HX1
 go_wp2_with (go_at_call 38;refine (contains_any _ _ _ _ _ _ HR2.out (by have:=HC3.out;omega)).mono ?_;rintro e w3 ⟨rfl,rfl⟩;rw [HIN.out])
 go_ret2
 exact ⟨rfl,HX2.out⟩
def RefRet (w:World) (e:Ending) (w':World):Prop:=∃ p,e=.returned (.tuple #[.pointer (some ⟨p,0,none⟩),.int .i64 0])∧Ext w w'
theorem rpk_1 [Inhabited D.BT] [Inhabited S.RT] (Ad:Option Addr) (n c:Nat) (key:List UInt8) (w:World) (h:Rd w w.heap.size Ad n key) (hk:n ∈ lensN 1) (hc:n≤c∧c≤9223372036854775807) :
  Calls Tryz.prog 40 #[.slice Ad n c] w (RefRet w):=by
 have hn:n=8∨n=16∨n=24:=by rw [show lensN 1 = [8] by decide] at hk;simp at hk;omega
 exact (D.rnew_any Ad n c key w hn h hc.1).mono fun e w' ⟨q,he,_,hx⟩=>⟨q,he,hx⟩
theorem rpk_2 [Inhabited D.BT] [Inhabited S.RT] (Ad:Option Addr) (n c:Nat) (key:List UInt8) (w:World) (h:Rd w w.heap.size Ad n key) (hk:n ∈ lensN 2) (hc:n≤c∧c≤9223372036854775807) :
  Calls Tryz.prog 40 #[.slice Ad n c] w (RefRet w):=by
 have hn:n=8∨n=16∨n=24:=by rw [show lensN 2 = [16,24] by decide] at hk;simp at hk;omega
 exact (D.rnew_any Ad n c key w hn h hc.1).mono fun e w' ⟨q,he,_,hx⟩=>⟨q,he,hx⟩
theorem rpk_3 [Inhabited D.BT] [Inhabited S.RT] (Ad:Option Addr) (n c:Nat) (key:List UInt8) (w:World) (h:Rd w w.heap.size Ad n key) (hk:n ∈ lensN 3) (hc:n≤c∧c≤9223372036854775807) :
  Calls Tryz.prog 41 #[.slice Ad n c] w (RefRet w):=by
 obtain rfl:=mem_one (m:=16) hk
 exact (I.rnew_any Ad c key w h).mono fun e w' ⟨q,he,_,hx⟩=>⟨q,he,hx⟩
theorem rpk_4 [Inhabited D.BT] [Inhabited S.RT] (Ad:Option Addr) (n c:Nat) (key:List UInt8) (w:World) (h:Rd w w.heap.size Ad n key) (hk:n ∈ lensN 4) (hc:n≤c∧c≤9223372036854775807) :
  Calls Tryz.prog 44 #[.int .i64 4,.slice Ad n c] w (RefRet w):=by
 obtain rfl:=mem_one (m:=16) hk
 exact (S.rnew_any .x Ad c key w h hc.1 hc.2).mono fun e w' ⟨q,he,_,hx⟩=>⟨q,he,hx⟩
theorem rpk_5 [Inhabited D.BT] [Inhabited S.RT] (Ad:Option Addr) (n c:Nat) (key:List UInt8) (w:World) (h:Rd w w.heap.size Ad n key) (hk:n ∈ lensN 5) (hc:n≤c∧c≤9223372036854775807) :
  Calls Tryz.prog 44 #[.int .i64 5,.slice Ad n c] w (RefRet w):=by
 obtain rfl:=mem_one (m:=32) hk
 exact (S.rnew_any .m Ad c key w h hc.1 hc.2).mono fun e w' ⟨q,he,_,hx⟩=>⟨q,he,hx⟩
theorem rpk_6 [Inhabited D.BT] [Inhabited S.RT] (Ad:Option Addr) (n c:Nat) (key:List UInt8) (w:World) (h:Rd w w.heap.size Ad n key) (hk:n ∈ lensN 6) (hc:n≤c∧c≤9223372036854775807) :
  Calls Tryz.prog 42 #[.slice Ad n c] w (RefRet w):=by
 have hn:n=16∨n=24∨n=32:=by rw [show lensN 6 = [16,24,32] by decide] at hk;simpa using hk
 exact (T.rnew_any Ad n c key w h hn hc.1).mono fun e w' ⟨q,he,_,hx⟩=>⟨q,he,hx⟩
theorem rpk_7 [Inhabited D.BT] [Inhabited S.RT] (Ad:Option Addr) (n c:Nat) (key:List UInt8) (w:World) (h:Rd w w.heap.size Ad n key) (hk:n ∈ lensN 7) (hc:n≤c∧c≤9223372036854775807) :
  Calls Tryz.prog 43 #[.slice Ad n c] w (RefRet w):=by
 have hn:n=16∨n=24∨n=32:=by rw [show lensN 7 = [16,24,32] by decide] at hk;simpa using hk
 exact (A.rnew_any Ad n c key w h hn hc.1).mono fun e w' ⟨q,he,_,hx⟩=>⟨q,he,hx⟩
theorem rpk_8 [Inhabited D.BT] [Inhabited S.RT] (Ad:Option Addr) (n c:Nat) (key:List UInt8) (w:World) (h:Rd w w.heap.size Ad n key) (hk:n ∈ lensN 8) (hc:n≤c∧c≤9223372036854775807) :
  Calls Tryz.prog 44 #[.int .i64 8,.slice Ad n c] w (RefRet w):=by
 obtain rfl:=mem_one (m:=16) hk
 exact (S.rnew_any .r Ad c key w h hc.1 hc.2).mono fun e w' ⟨q,he,_,hx⟩=>⟨q,he,hx⟩
set_option maxHeartbeats 4000000 in
theorem rnew_key {t:Nat} (ht:1≤t∧t≤8) (Ad:Option Addr) (n c:Nat) (w:World) (hk:n ∉ lensN t) :
  Calls Tryz.prog 15 #[.int .i64 t,.slice Ad n c] w (NoRet w 4):=by
 have HL:=hid (rlens_any (t:Int) w)
 rw [tN_tag ht] at HL
 have HIN:=hid (show decide ((n:Int) ∈ lensI t (cntN t))=false by simpa using fun h=>hk (mem_lens.2 h))
 have hc3:=cnt_le t ht.2
 have hc0:=cnt_pos ht
 obtain ⟨C,hC⟩:∃ C,cntN t=C:=⟨_,rfl⟩
 rw [hC] at HL HIN hc3 hc0
 have hz0:((C:Int) == 0)=false:=by simp;omega
 have HKB:=hid (And.intro (key_le t ht.2) hc3)

 have HT:=hid ht
 clear hk hC hc3 hc0 ht
 go_enter Tryz.func15,Tryz.ntmps15
 go_wp2_with fail
 refine HL.out.mono ?_
 rintro e w2 ⟨v2,rfl,ho2,hx2⟩
 obtain ⟨A2,c2,rfl,_,hr2,_⟩:=OwnN.rdc ho2 (lensI_length _ _)
 have HX2:=hid (show Ext w w2 from hx2)
 have HR2:=hid hr2
 clear hx2 ho2 hr2
 go_wp2_with fail
 go_loop [7,8] (fun b i=>∃ k:Nat,k≤C∧i=.int .i64 k∧b=.bool (decide ((n:Int) ∈ lensI t k))) (fun _ i=>C - (intOf i).toNat)
 case atStart=>exact ⟨0,Nat.zero_le _,rfl,rfl⟩
 case round =>
  obtain ⟨k,hk,rfl,rfl⟩:=hrel
  have hkb:=HKB.out
  by_cases hlt:k < C
  ·obtain ⟨b,o,rfl,_,hcells⟩:=HR2.out.at_ (by omega)
   have hcell:=hcells k hlt
   rw [show (lensI t C).getD k 0=((keyN t+8*k:Nat):Int) by simp [lensI,List.getD_eq_getElem?_getD,hlt]] at hcell
   have hst:decide ((n:Int) ∈ lensI t (k+1))=(decide ((n:Int) ∈ lensI t k) || decide ((n:Int)=((keyN t+8*k:Nat):Int))):=by
    rw [lensI_succ];simp [List.mem_append]
   obtain ⟨Y,hY⟩:∃ Y,keyN t+8*k=Y:=⟨_,rfl⟩
   rw [hY] at hcell hst
   have hkC:(k:Int) < (C:Int):=by omega
   obtain ⟨x,hx⟩:∃ x,decide ((n:Int) ∈ lensI t k)=x:=⟨_,rfl⟩
   rw [hx] at hst ⊢
   have HST:=hid hst
   clear hst hcells hY hx
   cases x with
   | true =>
     go_wp2_with fail
     go_roundw
     case rel=>exact ⟨k+1,by omega,by go_num,by rw [HST.out];rfl⟩
     case measure=>simp [intOf];omega
   | false =>
     by_cases hny:Y=n
     ·subst hny
      have hb:((Y:Int) == (Y:Int))=true:=by simp
      go_wp2_with fail
      go_roundw
      case rel=>exact ⟨k+1,by omega,by go_num,by rw [HST.out];simp⟩
      case measure=>simp [intOf];omega
     ·have hb:((Y:Int) == (n:Int))=false:=by simp;omega
      have HNY:=hid hny
      clear hny
      go_wp2_with fail
      go_roundw
      case rel=>exact ⟨k+1,by omega,by go_num,by rw [HST.out];have:=HNY.out;simp;omega⟩
      case measure=>simp [intOf];omega
  ·obtain rfl:k=C:=by omega
   rw [HIN.out]
   go_wp2_with fail
   go_ret2
   exact ⟨rfl,HX2.out⟩
set_option maxHeartbeats 4000000 in
theorem rnew_any [Inhabited D.BT] [Inhabited S.RT] {t:Nat} (ht:1≤t∧t≤8) (Ad:Option Addr) (n c:Nat) (key:List UInt8) (w:World) (h:Rd w w.heap.size Ad n key) (hk:n ∈ lensN t) (hc:n≤c∧c≤9223372036854775807) :
  Calls Tryz.prog 15 #[.int .i64 t,.slice Ad n c] w (RefRet w):=by
 have HL:=hid (rlens_any (t:Int) w)
 rw [tN_tag ht] at HL
 have HIN:=hid (show decide ((n:Int) ∈ lensI t (cntN t))=true by simpa using mem_lens.1 hk)
 have hc3:=cnt_le t ht.2
 have hc0:=cnt_pos ht
 obtain ⟨C,hC⟩:∃ C,cntN t=C:=⟨_,rfl⟩
 rw [hC] at HL HIN hc3 hc0
 have hz0:((C:Int) == 0)=false:=by simp;omega
 have HKB:=hid (And.intro (key_le t ht.2) hc3)
 have HR:=hid h
 have HK:=hid hk
 have HC:=hid hc
 have HT:=hid ht
 clear h hc hk hC hc3 hc0 ht
 go_enter Tryz.func15,Tryz.ntmps15
 go_wp2_with fail
 refine HL.out.mono ?_
 rintro e w2 ⟨v2,rfl,ho2,hx2⟩
 obtain ⟨A2,c2,rfl,_,hr2,_⟩:=OwnN.rdc ho2 (lensI_length _ _)
 have HX2:=hid (show Ext w w2 from hx2)
 have HR2:=hid hr2
 clear hx2 ho2 hr2
 go_wp2_with fail
 go_loop [7,8] (fun b i=>∃ k:Nat,k≤C∧i=.int .i64 k∧b=.bool (decide ((n:Int) ∈ lensI t k))) (fun _ i=>C - (intOf i).toNat)
 case atStart=>exact ⟨0,Nat.zero_le _,rfl,rfl⟩
 case round =>
  obtain ⟨k,hk,rfl,rfl⟩:=hrel
  have hkb:=HKB.out
  by_cases hlt:k < C
  ·obtain ⟨b,o,rfl,_,hcells⟩:=HR2.out.at_ (by omega)
   have hcell:=hcells k hlt
   rw [show (lensI t C).getD k 0=((keyN t+8*k:Nat):Int) by simp [lensI,List.getD_eq_getElem?_getD,hlt]] at hcell
   have hst:decide ((n:Int) ∈ lensI t (k+1))=(decide ((n:Int) ∈ lensI t k) || decide ((n:Int)=((keyN t+8*k:Nat):Int))):=by
    rw [lensI_succ];simp [List.mem_append]
   obtain ⟨Y,hY⟩:∃ Y,keyN t+8*k=Y:=⟨_,rfl⟩
   rw [hY] at hcell hst
   have hkC:(k:Int) < (C:Int):=by omega
   obtain ⟨x,hx⟩:∃ x,decide ((n:Int) ∈ lensI t k)=x:=⟨_,rfl⟩
   rw [hx] at hst ⊢
   have HST:=hid hst
   clear hst hcells hY hx
   cases x with
   | true =>
     go_wp2_with fail
     go_roundw
     case rel=>exact ⟨k+1,by omega,by go_num,by rw [HST.out];rfl⟩
     case measure=>simp [intOf];omega
   | false =>
     by_cases hny:Y=n
     ·subst hny
      have hb:((Y:Int) == (Y:Int))=true:=by simp
      go_wp2_with fail
      go_roundw
      case rel=>exact ⟨k+1,by omega,by go_num,by rw [HST.out];simp⟩
      case measure=>simp [intOf];omega
     ·have hb:((Y:Int) == (n:Int))=false:=by simp;omega
      have HNY:=hid hny
      clear hny
      go_wp2_with fail
      go_roundw
      case rel=>exact ⟨k+1,by omega,by go_num,by rw [HST.out];have:=HNY.out;simp;omega⟩
      case measure=>simp [intOf];omega
  ·obtain rfl:k=C:=by omega
   rw [HIN.out]
   clear HIN HL HR2 hz0 hkb hk hlt
   rcases tags HT.out with rfl | rfl | rfl | rfl | rfl | rfl | rfl | rfl
   ·have x3:=Ext.alloc w2 (.cells #[.int .i64 1,.pointer none,.pointer none,.pointer none,.pointer none,.pointer none] 78)
    have HX3:=hid (Ext.trans HX2.out x3)
    have HSZ:=hid (show w.heap.size≤w2.heap.size from Below.size HX2.out)
    have hh3:=heap_alloc_new w2 (.cells #[.int .i64 1,.pointer none,.pointer none,.pointer none,.pointer none,.pointer none] 78)
    have HH:=hid (fun W (hx:Ext (w2.alloc (.cells #[.int .i64 1,.pointer none,.pointer none,.pointer none,.pointer none,.pointer none] 78)) W)=>And.intro (cell_at (a:=⟨w2.heap.size,1,none⟩) (v:=.pointer none) hx (by rw [cell_of_row _ _ _ _ _ _ hh3];rfl)) (frozen_of_row W w2.heap.size 1 _ _ ((Below.block hx _ (by rw [World.size_alloc];exact Nat.lt_succ_self _)).trans hh3)))
    clear x3 hh3
    go_wp2_with fail
    refine (rpk_1 Ad n c key _ (HR.out.later HX3.out) HK.out HC.out).mono ?_
    rintro e w4 ⟨q,rfl,hx4⟩
    obtain ⟨hcell,hfz⟩:=HH.out _ hx4
    have HX4:=hid (Ext.trans HX3.out hx4)
    clear hx4
    go_wp2_with fail
    go_ret2
    exact ⟨_,rfl,HX4.out.setCell (by have:=HSZ.out;simp;omega) _⟩
   ·have x3:=Ext.alloc w2 (.cells #[.int .i64 2,.pointer none,.pointer none,.pointer none,.pointer none,.pointer none] 78)
    have HX3:=hid (Ext.trans HX2.out x3)
    have HSZ:=hid (show w.heap.size≤w2.heap.size from Below.size HX2.out)
    have hh3:=heap_alloc_new w2 (.cells #[.int .i64 2,.pointer none,.pointer none,.pointer none,.pointer none,.pointer none] 78)
    have HH:=hid (fun W (hx:Ext (w2.alloc (.cells #[.int .i64 2,.pointer none,.pointer none,.pointer none,.pointer none,.pointer none] 78)) W)=>And.intro (cell_at (a:=⟨w2.heap.size,1,none⟩) (v:=.pointer none) hx (by rw [cell_of_row _ _ _ _ _ _ hh3];rfl)) (frozen_of_row W w2.heap.size 1 _ _ ((Below.block hx _ (by rw [World.size_alloc];exact Nat.lt_succ_self _)).trans hh3)))
    clear x3 hh3
    go_wp2_with fail
    refine (rpk_2 Ad n c key _ (HR.out.later HX3.out) HK.out HC.out).mono ?_
    rintro e w4 ⟨q,rfl,hx4⟩
    obtain ⟨hcell,hfz⟩:=HH.out _ hx4
    have HX4:=hid (Ext.trans HX3.out hx4)
    clear hx4
    go_wp2_with fail
    go_ret2
    exact ⟨_,rfl,HX4.out.setCell (by have:=HSZ.out;simp;omega) _⟩
   ·have x3:=Ext.alloc w2 (.cells #[.int .i64 3,.pointer none,.pointer none,.pointer none,.pointer none,.pointer none] 78)
    have HX3:=hid (Ext.trans HX2.out x3)
    have HSZ:=hid (show w.heap.size≤w2.heap.size from Below.size HX2.out)
    have hh3:=heap_alloc_new w2 (.cells #[.int .i64 3,.pointer none,.pointer none,.pointer none,.pointer none,.pointer none] 78)
    have HH:=hid (fun W (hx:Ext (w2.alloc (.cells #[.int .i64 3,.pointer none,.pointer none,.pointer none,.pointer none,.pointer none] 78)) W)=>And.intro (cell_at (a:=⟨w2.heap.size,2,none⟩) (v:=.pointer none) hx (by rw [cell_of_row _ _ _ _ _ _ hh3];rfl)) (frozen_of_row W w2.heap.size 2 _ _ ((Below.block hx _ (by rw [World.size_alloc];exact Nat.lt_succ_self _)).trans hh3)))
    clear x3 hh3
    go_wp2_with fail
    refine (rpk_3 Ad n c key _ (HR.out.later HX3.out) HK.out HC.out).mono ?_
    rintro e w4 ⟨q,rfl,hx4⟩
    obtain ⟨hcell,hfz⟩:=HH.out _ hx4
    have HX4:=hid (Ext.trans HX3.out hx4)
    clear hx4
    go_wp2_with fail
    go_ret2
    exact ⟨_,rfl,HX4.out.setCell (by have:=HSZ.out;simp;omega) _⟩
   ·have x3:=Ext.alloc w2 (.cells #[.int .i64 4,.pointer none,.pointer none,.pointer none,.pointer none,.pointer none] 78)
    have HX3:=hid (Ext.trans HX2.out x3)
    have HSZ:=hid (show w.heap.size≤w2.heap.size from Below.size HX2.out)
    have hh3:=heap_alloc_new w2 (.cells #[.int .i64 4,.pointer none,.pointer none,.pointer none,.pointer none,.pointer none] 78)
    have HH:=hid (fun W (hx:Ext (w2.alloc (.cells #[.int .i64 4,.pointer none,.pointer none,.pointer none,.pointer none,.pointer none] 78)) W)=>And.intro (cell_at (a:=⟨w2.heap.size,3,none⟩) (v:=.pointer none) hx (by rw [cell_of_row _ _ _ _ _ _ hh3];rfl)) (frozen_of_row W w2.heap.size 3 _ _ ((Below.block hx _ (by rw [World.size_alloc];exact Nat.lt_succ_self _)).trans hh3)))
    clear x3 hh3
    go_wp2_with fail
    refine (rpk_4 Ad n c key _ (HR.out.later HX3.out) HK.out HC.out).mono ?_
    rintro e w4 ⟨q,rfl,hx4⟩
    obtain ⟨hcell,hfz⟩:=HH.out _ hx4
    have HX4:=hid (Ext.trans HX3.out hx4)
    clear hx4
    go_wp2_with fail
    go_ret2
    exact ⟨_,rfl,HX4.out.setCell (by have:=HSZ.out;simp;omega) _⟩
   ·have x3:=Ext.alloc w2 (.cells #[.int .i64 5,.pointer none,.pointer none,.pointer none,.pointer none,.pointer none] 78)
    have HX3:=hid (Ext.trans HX2.out x3)
    have HSZ:=hid (show w.heap.size≤w2.heap.size from Below.size HX2.out)
    have hh3:=heap_alloc_new w2 (.cells #[.int .i64 5,.pointer none,.pointer none,.pointer none,.pointer none,.pointer none] 78)
    have HH:=hid (fun W (hx:Ext (w2.alloc (.cells #[.int .i64 5,.pointer none,.pointer none,.pointer none,.pointer none,.pointer none] 78)) W)=>And.intro (cell_at (a:=⟨w2.heap.size,3,none⟩) (v:=.pointer none) hx (by rw [cell_of_row _ _ _ _ _ _ hh3];rfl)) (frozen_of_row W w2.heap.size 3 _ _ ((Below.block hx _ (by rw [World.size_alloc];exact Nat.lt_succ_self _)).trans hh3)))
    clear x3 hh3
    go_wp2_with fail
    refine (rpk_5 Ad n c key _ (HR.out.later HX3.out) HK.out HC.out).mono ?_
    rintro e w4 ⟨q,rfl,hx4⟩
    obtain ⟨hcell,hfz⟩:=HH.out _ hx4
    have HX4:=hid (Ext.trans HX3.out hx4)
    clear hx4
    go_wp2_with fail
    go_ret2
    exact ⟨_,rfl,HX4.out.setCell (by have:=HSZ.out;simp;omega) _⟩
   ·have x3:=Ext.alloc w2 (.cells #[.int .i64 6,.pointer none,.pointer none,.pointer none,.pointer none,.pointer none] 78)
    have HX3:=hid (Ext.trans HX2.out x3)
    have HSZ:=hid (show w.heap.size≤w2.heap.size from Below.size HX2.out)
    have hh3:=heap_alloc_new w2 (.cells #[.int .i64 6,.pointer none,.pointer none,.pointer none,.pointer none,.pointer none] 78)
    have HH:=hid (fun W (hx:Ext (w2.alloc (.cells #[.int .i64 6,.pointer none,.pointer none,.pointer none,.pointer none,.pointer none] 78)) W)=>And.intro (cell_at (a:=⟨w2.heap.size,4,none⟩) (v:=.pointer none) hx (by rw [cell_of_row _ _ _ _ _ _ hh3];rfl)) (frozen_of_row W w2.heap.size 4 _ _ ((Below.block hx _ (by rw [World.size_alloc];exact Nat.lt_succ_self _)).trans hh3)))
    clear x3 hh3
    go_wp2_with fail
    refine (rpk_6 Ad n c key _ (HR.out.later HX3.out) HK.out HC.out).mono ?_
    rintro e w4 ⟨q,rfl,hx4⟩
    obtain ⟨hcell,hfz⟩:=HH.out _ hx4
    have HX4:=hid (Ext.trans HX3.out hx4)
    clear hx4
    go_wp2_with fail
    go_ret2
    exact ⟨_,rfl,HX4.out.setCell (by have:=HSZ.out;simp;omega) _⟩
   ·have x3:=Ext.alloc w2 (.cells #[.int .i64 7,.pointer none,.pointer none,.pointer none,.pointer none,.pointer none] 78)
    have HX3:=hid (Ext.trans HX2.out x3)
    have HSZ:=hid (show w.heap.size≤w2.heap.size from Below.size HX2.out)
    have hh3:=heap_alloc_new w2 (.cells #[.int .i64 7,.pointer none,.pointer none,.pointer none,.pointer none,.pointer none] 78)
    have HH:=hid (fun W (hx:Ext (w2.alloc (.cells #[.int .i64 7,.pointer none,.pointer none,.pointer none,.pointer none,.pointer none] 78)) W)=>And.intro (cell_at (a:=⟨w2.heap.size,5,none⟩) (v:=.pointer none) hx (by rw [cell_of_row _ _ _ _ _ _ hh3];rfl)) (frozen_of_row W w2.heap.size 5 _ _ ((Below.block hx _ (by rw [World.size_alloc];exact Nat.lt_succ_self _)).trans hh3)))
    clear x3 hh3
    go_wp2_with fail
    refine (rpk_7 Ad n c key _ (HR.out.later HX3.out) HK.out HC.out).mono ?_
    rintro e w4 ⟨q,rfl,hx4⟩
    obtain ⟨hcell,hfz⟩:=HH.out _ hx4
    have HX4:=hid (Ext.trans HX3.out hx4)
    clear hx4
    go_wp2_with fail
    go_ret2
    exact ⟨_,rfl,HX4.out.setCell (by have:=HSZ.out;simp;omega) _⟩
   ·have x3:=Ext.alloc w2 (.cells #[.int .i64 8,.pointer none,.pointer none,.pointer none,.pointer none,.pointer none] 78)
    have HX3:=hid (Ext.trans HX2.out x3)
    have HSZ:=hid (show w.heap.size≤w2.heap.size from Below.size HX2.out)
    have hh3:=heap_alloc_new w2 (.cells #[.int .i64 8,.pointer none,.pointer none,.pointer none,.pointer none,.pointer none] 78)
    have HH:=hid (fun W (hx:Ext (w2.alloc (.cells #[.int .i64 8,.pointer none,.pointer none,.pointer none,.pointer none,.pointer none] 78)) W)=>And.intro (cell_at (a:=⟨w2.heap.size,3,none⟩) (v:=.pointer none) hx (by rw [cell_of_row _ _ _ _ _ _ hh3];rfl)) (frozen_of_row W w2.heap.size 3 _ _ ((Below.block hx _ (by rw [World.size_alloc];exact Nat.lt_succ_self _)).trans hh3)))
    clear x3 hh3
    go_wp2_with fail
    refine (rpk_8 Ad n c key _ (HR.out.later HX3.out) HK.out HC.out).mono ?_
    rintro e w4 ⟨q,rfl,hx4⟩
    obtain ⟨hcell,hfz⟩:=HH.out _ hx4
    have HX4:=hid (Ext.trans HX3.out hx4)
    clear hx4
    go_wp2_with fail
    go_ret2
    exact ⟨_,rfl,HX4.out.setCell (by have:=HSZ.out;simp;omega) _⟩
set_option maxHeartbeats 400000 in
theorem rnew_tag (n:Int) (h:tN n=0) (Ad:Option Addr) (m c:Nat) (w:World) :
  Calls Tryz.prog 15 #[.int .i64 n,.slice Ad m c] w (NoRet w 2):=by
 have HL:=hid (rlens_any n w)
 rw [h,show cntN 0=0 from rfl] at HL
 clear h
 go_enter Tryz.func15,Tryz.ntmps15
 go_wp2_with fail
 refine HL.out.mono ?_
 rintro e w2 ⟨v2,rfl,ho2,hx2⟩
 obtain ⟨A2,c2,rfl,_,_,_⟩:=OwnN.rdc (n:=0) ho2 (lensI_length _ _)
 have HX2:=hid (show Ext w w2 from hx2)
 clear hx2 ho2
 go_wp2_with fail
 go_ret2
 exact ⟨rfl,HX2.out⟩
end Go.Proofs.YtbgkmicelmenfaaGreatDoor.C
namespace Go.Proofs.YtbgkmicelmenfaaGreatDoor.C
open Go.RowKit
set_option maxRecDepth 100000
theorem pkE_1 [Inhabited D.BT] [Inhabited S.RT] (Ad:Option Addr) (n c:Nat) (key:List UInt8) (w:World) (h:Rd w w.heap.size Ad n key) (hk:n ∈ lensN 1) (hc:n≤c∧c≤9223372036854775807) (_hG:GC w) :
  Calls Tryz.prog 28 #[.slice Ad n c] w (RefRet w):=by
 have hn:n=8∨n=16∨n=24:=by rw [show lensN 1 = [8] by decide] at hk;simp at hk;omega
 exact (D.new_any Ad n c key w hn h hc.1).mono fun e w' ⟨q,he,_,hx⟩=>⟨q,he,hx⟩
theorem pkE_2 [Inhabited D.BT] [Inhabited S.RT] (Ad:Option Addr) (n c:Nat) (key:List UInt8) (w:World) (h:Rd w w.heap.size Ad n key) (hk:n ∈ lensN 2) (hc:n≤c∧c≤9223372036854775807) (_hG:GC w) :
  Calls Tryz.prog 28 #[.slice Ad n c] w (RefRet w):=by
 have hn:n=8∨n=16∨n=24:=by rw [show lensN 2 = [16,24] by decide] at hk;simp at hk;omega
 exact (D.new_any Ad n c key w hn h hc.1).mono fun e w' ⟨q,he,_,hx⟩=>⟨q,he,hx⟩
theorem pkE_3 [Inhabited D.BT] [Inhabited S.RT] (Ad:Option Addr) (n c:Nat) (key:List UInt8) (w:World) (h:Rd w w.heap.size Ad n key) (hk:n ∈ lensN 3) (_hc:n≤c∧c≤9223372036854775807) (_hG:GC w) :
  Calls Tryz.prog 30 #[.slice Ad n c] w (RefRet w):=by
 obtain rfl:=mem_one (m:=16) hk
 exact (I.new_any Ad c key w h).mono fun e w' ⟨q,he,_,hx⟩=>⟨q,he,hx⟩
theorem pkE_4 [Inhabited D.BT] [Inhabited S.RT] (Ad:Option Addr) (n c:Nat) (key:List UInt8) (w:World) (h:Rd w w.heap.size Ad n key) (hk:n ∈ lensN 4) (hc:n≤c∧c≤9223372036854775807) (_hG:GC w) :
  Calls Tryz.prog 36 #[.int .i64 4,.slice Ad n c] w (RefRet w):=by
 obtain rfl:=mem_one (m:=16) hk
 exact (S.new_any .x Ad c key w h hc.1 hc.2).mono fun e w' ⟨q,he,_,hx⟩=>⟨q,he,hx⟩
theorem pkE_5 [Inhabited D.BT] [Inhabited S.RT] (Ad:Option Addr) (n c:Nat) (key:List UInt8) (w:World) (h:Rd w w.heap.size Ad n key) (hk:n ∈ lensN 5) (hc:n≤c∧c≤9223372036854775807) (_hG:GC w) :
  Calls Tryz.prog 36 #[.int .i64 5,.slice Ad n c] w (RefRet w):=by
 obtain rfl:=mem_one (m:=32) hk
 exact (S.new_any .m Ad c key w h hc.1 hc.2).mono fun e w' ⟨q,he,_,hx⟩=>⟨q,he,hx⟩
theorem pkE_6 [Inhabited D.BT] [Inhabited S.RT] (Ad:Option Addr) (n c:Nat) (key:List UInt8) (w:World) (h:Rd w w.heap.size Ad n key) (hk:n ∈ lensN 6) (hc:n≤c∧c≤9223372036854775807) (hG:GC w) :
  Calls Tryz.prog 32 #[.slice Ad n c] w (RefRet w):=by
 have hn:n=16∨n=24∨n=32:=by rw [show lensN 6 = [16,24,32] by decide] at hk;simpa using hk
 exact (T.new_any Ad n c key w hG.gt h hn hc.1).mono fun e w' ⟨q,he,_,_,hx⟩=>⟨q,he,hx⟩
theorem pkE_7 [Inhabited D.BT] [Inhabited S.RT] (Ad:Option Addr) (n c:Nat) (key:List UInt8) (w:World) (h:Rd w w.heap.size Ad n key) (hk:n ∈ lensN 7) (hc:n≤c∧c≤9223372036854775807) (hG:GC w) :
  Calls Tryz.prog 34 #[.slice Ad n c] w (RefRet w):=by
 have hn:n=16∨n=24∨n=32:=by rw [show lensN 7 = [16,24,32] by decide] at hk;simpa using hk
 exact (A.new_any Ad n c key w h hn hc.1 hG.gk).mono fun e w' ⟨q,he,_,_,hx⟩=>⟨q,he,hx⟩
theorem pkE_8 [Inhabited D.BT] [Inhabited S.RT] (Ad:Option Addr) (n c:Nat) (key:List UInt8) (w:World) (h:Rd w w.heap.size Ad n key) (hk:n ∈ lensN 8) (hc:n≤c∧c≤9223372036854775807) (_hG:GC w) :
  Calls Tryz.prog 36 #[.int .i64 8,.slice Ad n c] w (RefRet w):=by
 obtain rfl:=mem_one (m:=16) hk
 exact (S.new_any .r Ad c key w h hc.1 hc.2).mono fun e w' ⟨q,he,_,hx⟩=>⟨q,he,hx⟩
def IfRet (w:World) (e:Ending) (w':World):Prop:=∃ ty q,e=.returned (.tuple #[.iface ty (.pointer (some ⟨q,0,none⟩)),.int .i64 0])∧True∧Ext w w'
set_option maxHeartbeats 1000000 in
theorem madeE_1 (A:Option Addr) (n c:Nat) (w:World) (hc:Calls Tryz.prog 28 #[.slice A n c] w (RefRet w)) :
  Calls Tryz.prog 39 #[.int .i64 1,.slice A n c] w (IfRet w):=by
 have HC:=hid hc
 clear hc
 go_enter Tryz.func39,Tryz.ntmps39
 go_wp2_with fail
 refine HC.out.mono ?_
 rintro e w1 ⟨q,rfl,hr⟩
 have HE:=hid hr
 clear hr
 go_wp2_with fail
 go_ret2
 exact ⟨_,_,rfl,trivial,HE.out⟩
set_option maxHeartbeats 1000000 in
theorem madeE_2 (A:Option Addr) (n c:Nat) (w:World) (hc:Calls Tryz.prog 28 #[.slice A n c] w (RefRet w)) :
  Calls Tryz.prog 39 #[.int .i64 2,.slice A n c] w (IfRet w):=by
 have HC:=hid hc
 clear hc
 go_enter Tryz.func39,Tryz.ntmps39
 go_wp2_with fail
 refine HC.out.mono ?_
 rintro e w1 ⟨q,rfl,hr⟩
 have HE:=hid hr
 clear hr
 go_wp2_with fail
 go_ret2
 exact ⟨_,_,rfl,trivial,HE.out⟩
set_option maxHeartbeats 1000000 in
theorem madeE_3 (A:Option Addr) (n c:Nat) (w:World) (hc:Calls Tryz.prog 30 #[.slice A n c] w (RefRet w)) :
  Calls Tryz.prog 39 #[.int .i64 3,.slice A n c] w (IfRet w):=by
 have HC:=hid hc
 clear hc
 go_enter Tryz.func39,Tryz.ntmps39
 go_wp2_with fail
 refine HC.out.mono ?_
 rintro e w1 ⟨q,rfl,hr⟩
 have HE:=hid hr
 clear hr
 go_wp2_with fail
 go_ret2
 exact ⟨_,_,rfl,trivial,HE.out⟩
set_option maxHeartbeats 1000000 in
theorem madeE_4 (A:Option Addr) (n c:Nat) (w:World) (hc:Calls Tryz.prog 36 #[.int .i64 4,.slice A n c] w (RefRet w)) :
  Calls Tryz.prog 39 #[.int .i64 4,.slice A n c] w (IfRet w):=by
 have HC:=hid hc
 clear hc
 go_enter Tryz.func39,Tryz.ntmps39
 go_wp2_with fail
 refine HC.out.mono ?_
 rintro e w1 ⟨q,rfl,hr⟩
 have HE:=hid hr
 clear hr
 go_wp2_with fail
 go_ret2
 exact ⟨_,_,rfl,trivial,HE.out⟩
set_option maxHeartbeats 1000000 in
theorem madeE_5 (A:Option Addr) (n c:Nat) (w:World) (hc:Calls Tryz.prog 36 #[.int .i64 5,.slice A n c] w (RefRet w)) :
  Calls Tryz.prog 39 #[.int .i64 5,.slice A n c] w (IfRet w):=by
 have HC:=hid hc
 clear hc
 go_enter Tryz.func39,Tryz.ntmps39
 go_wp2_with fail
 refine HC.out.mono ?_
 rintro e w1 ⟨q,rfl,hr⟩
 have HE:=hid hr
 clear hr
 go_wp2_with fail
 go_ret2
 exact ⟨_,_,rfl,trivial,HE.out⟩
set_option maxHeartbeats 1000000 in
theorem madeE_6 (A:Option Addr) (n c:Nat) (w:World) (hc:Calls Tryz.prog 32 #[.slice A n c] w (RefRet w)) :
  Calls Tryz.prog 39 #[.int .i64 6,.slice A n c] w (IfRet w):=by
 have HC:=hid hc
 clear hc
 go_enter Tryz.func39,Tryz.ntmps39
 go_wp2_with fail
 refine HC.out.mono ?_
 rintro e w1 ⟨q,rfl,hr⟩
 have HE:=hid hr
 clear hr
 go_wp2_with fail
 go_ret2
 exact ⟨_,_,rfl,trivial,HE.out⟩
set_option maxHeartbeats 1000000 in
theorem madeE_7 (A:Option Addr) (n c:Nat) (w:World) (hc:Calls Tryz.prog 34 #[.slice A n c] w (RefRet w)) :
  Calls Tryz.prog 39 #[.int .i64 7,.slice A n c] w (IfRet w):=by
 have HC:=hid hc
 clear hc
 go_enter Tryz.func39,Tryz.ntmps39
 go_wp2_with fail
 refine HC.out.mono ?_
 rintro e w1 ⟨q,rfl,hr⟩
 have HE:=hid hr
 clear hr
 go_wp2_with fail
 go_ret2
 exact ⟨_,_,rfl,trivial,HE.out⟩
set_option maxHeartbeats 1000000 in
theorem madeE_8 (A:Option Addr) (n c:Nat) (w:World) (hc:Calls Tryz.prog 36 #[.int .i64 8,.slice A n c] w (RefRet w)) :
  Calls Tryz.prog 39 #[.int .i64 8,.slice A n c] w (IfRet w):=by
 have HC:=hid hc
 clear hc
 go_enter Tryz.func39,Tryz.ntmps39
 go_wp2_with fail
 refine HC.out.mono ?_
 rintro e w1 ⟨q,rfl,hr⟩
 have HE:=hid hr
 clear hr
 go_wp2_with fail
 go_ret2
 exact ⟨_,_,rfl,trivial,HE.out⟩
theorem madeE_any [Inhabited D.BT] [Inhabited S.RT] {t:Nat} (ht:1≤t∧t≤8) (Ad:Option Addr) (n c:Nat) (key:List UInt8) (w:World) (h:Rd w w.heap.size Ad n key) (hk:n ∈ lensN t) (hc:n≤c∧c≤9223372036854775807) (hG:GC w) :
  Calls Tryz.prog 39 #[.int .i64 t,.slice Ad n c] w (IfRet w):=by
 rcases tags ht with rfl | rfl | rfl | rfl | rfl | rfl | rfl | rfl
 ·exact madeE_1 Ad n c w (pkE_1 Ad n c key w h hk hc hG)
 ·exact madeE_2 Ad n c w (pkE_2 Ad n c key w h hk hc hG)
 ·exact madeE_3 Ad n c w (pkE_3 Ad n c key w h hk hc hG)
 ·exact madeE_4 Ad n c w (pkE_4 Ad n c key w h hk hc hG)
 ·exact madeE_5 Ad n c w (pkE_5 Ad n c key w h hk hc hG)
 ·exact madeE_6 Ad n c w (pkE_6 Ad n c key w h hk hc hG)
 ·exact madeE_7 Ad n c w (pkE_7 Ad n c key w h hk hc hG)
 ·exact madeE_8 Ad n c w (pkE_8 Ad n c key w h hk hc hG)
theorem newE_ok [Inhabited D.BT] [Inhabited S.RT] {t:Nat} (ht:1≤t∧t≤8) (Ad:Option Addr) (n c:Nat) (key:List UInt8) (w:World) (h:Rd w w.heap.size Ad n key) (hk:n ∈ lensN t) (hc:n≤c∧c≤9223372036854775807) (hG:GC w) :
  Calls Tryz.prog 13 #[.int .i64 t,.slice Ad n c] w (RefRet w):=by
 refine (new_of ht (fun _ _=>True) Ad n c w hk hG.sh fun w' hx=>madeE_any ht Ad n c key w' (h.later hx) hk hc (hG.later hx)).mono ?_
 rintro e w2 ⟨p,v,w3,rfl,_,hx,_⟩
 exact ⟨p,rfl,hx⟩
theorem new4 [Inhabited S.RT] (Ad:Option Addr) (c:Nat) (key:List UInt8) (w:World) (h:Rd w w.heap.size Ad 16 key) (hc:16≤c∧c≤9223372036854775807) (hS:Shapes w) (hG:S.GRows w) :
  Calls Tryz.prog 13 #[.int .i64 4,.slice Ad 16 c] w (NewRet w 8 (S.blockL .x key)):=by
 refine (new_of (t:=4) (by omega) (fun w v=>OwnAll w v 8 (S.blockL .x key)) Ad 16 c w (by decide) hS fun w' hx =>
  (made_4 (N:=8) (f:=S.blockL .x key) Ad 16 c w' ((S.new_any .x Ad c key w' (h.later hx) hc.1 hc.2).mono fun e w2 ⟨q,he,hd,hx2⟩=>⟨q,he,ownAll_S (turns_S hd (hG.later (Ext.trans hx hx2))),hx2⟩)).mono ?_).mono ?_
 ·rintro e w2 ⟨v,rfl,ho,hx2⟩
  obtain ⟨⟨ty,q,rfl⟩,_⟩:=ho _ (Ext.refl w2)
  exact ⟨ty,q,rfl,ho,hx2⟩
 ·rintro e w2 ⟨p,v,w3,rfl,hp,hx,ho,hx3,h0,h1⟩
  exact ⟨p,rfl,hp,(ho _ hx3).2 p h0 h1,hx⟩
theorem known4 [Inhabited S.RT] (w:World) (hS:Shapes w) (hG:S.GRows w):Calls Tryz.prog 11 #[] w (RetTrue w) :=
 known_of (S.blockL .x z16) S.zx (S.block_back .x z16 false z8 (by decide)) (S.blockL_length _ _ _ _) w hS fun w' hx A c h hc=>new4 A c z16 w' h hc (hS.later hx) (hG.later hx)
def errN (n:Int) (m:Nat):Int:=if tN n=0 then 2 else if m ∈ lensN (tN n) then 0 else 4
def NilOk (u:Value) (e:Int):Prop:=(e=0∧∃ p,u=.pointer (some ⟨p,0,none⟩))∨(e ≠ 0∧u=.pointer none)
def AnyRet (w:World) (k:Int) (e:Ending) (w':World):Prop:=∃ u,e=.returned (.tuple #[u,.int .i64 k])∧NilOk u k∧Ext w w'
theorem any_ok {w w':World} {e:Ending} (h:RefRet w e w'):AnyRet w 0 e w':=by
 obtain ⟨p,rfl,hx⟩:=h
 exact ⟨_,rfl,.inl ⟨rfl,p,rfl⟩,hx⟩
theorem any_no {w w':World} {e:Ending} {k:Int} (hk:k ≠ 0) (h:NoRet w k e w'):AnyRet w k e w':=by
 obtain ⟨rfl,hx⟩:=h
 exact ⟨_,rfl,.inr ⟨hk,rfl⟩,hx⟩
theorem tN_cast {n:Int} (h:tN n ≠ 0):(1≤tN n∧tN n≤8)∧n=(tN n:Int):=by
 unfold tN at h ⊢
 split at h
 ·rename_i hh;rw [if_pos hh];omega
 ·exact absurd rfl h
theorem newA_any [Inhabited D.BT] [Inhabited S.RT] (n:Int) (Ad:Option Addr) (m c:Nat) (key:List UInt8) (w:World) (h:Rd w w.heap.size Ad m key) (hc:m≤c∧c≤9223372036854775807) (hG:GC w) :
  Calls Tryz.prog 13 #[.int .i64 n,.slice Ad m c] w (AnyRet w (errN n m)):=by
 unfold errN
 by_cases h0:tN n=0
 ·rw [if_pos h0]
  exact (new_tag n h0 Ad m c w hG.sh).mono fun _ _ h=>any_no (by omega) h
 ·rw [if_neg h0]
  obtain ⟨ht,hn⟩:=tN_cast h0
  obtain ⟨t,hte⟩:∃ t,tN n=t:=⟨_,rfl⟩
  rw [hte] at ht hn ⊢
  subst hn
  by_cases hm:m ∈ lensN t
  ·rw [if_pos hm]
   exact (newE_ok ht Ad m c key w h hm hc hG).mono fun _ _ h=>any_ok h
  ·rw [if_neg hm]
   exact (new_key ht Ad m c w hm hG.sh).mono fun _ _ h=>any_no (by omega) h
theorem rnewA_any [Inhabited D.BT] [Inhabited S.RT] (n:Int) (Ad:Option Addr) (m c:Nat) (key:List UInt8) (w:World) (h:Rd w w.heap.size Ad m key) (hc:m≤c∧c≤9223372036854775807) :
  Calls Tryz.prog 15 #[.int .i64 n,.slice Ad m c] w (AnyRet w (errN n m)):=by
 unfold errN
 by_cases h0:tN n=0
 ·rw [if_pos h0]
  exact (rnew_tag n h0 Ad m c w).mono fun _ _ h=>any_no (by omega) h
 ·rw [if_neg h0]
  obtain ⟨ht,hn⟩:=tN_cast h0
  obtain ⟨t,hte⟩:∃ t,tN n=t:=⟨_,rfl⟩
  rw [hte] at ht hn ⊢
  subst hn
  by_cases hm:m ∈ lensN t
  ·rw [if_pos hm]
   exact (rnew_any ht Ad m c key w h hm hc).mono fun _ _ h=>any_ok h
  ·rw [if_neg hm]
   exact (rnew_key ht Ad m c w hm).mono fun _ _ h=>any_no (by omega) h
end Go.Proofs.YtbgkmicelmenfaaGreatDoor.C
