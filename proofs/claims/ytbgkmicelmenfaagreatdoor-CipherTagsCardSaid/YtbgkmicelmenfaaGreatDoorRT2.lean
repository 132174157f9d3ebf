/- Own lemmas of the verifier on memory, numbers and the functions that the laws call; no statement is proved here. -/
import Derived.Test.YtbgkmicelmenfaaGreatDoorRT1
import Derived.Deep.MidRow
import Derived.Laws.Tables
namespace Go.Proofs.YtbgkmicelmenfaaGreatDoor.T
open Go.RowKit Go.Shelf
set_option maxRecDepth 100000
attribute [local go_sem] Oper.semAt_some
theorem build24 (x:Int) (w:World):(Instr.buildSlice 115 1 #[(0,.int .u32 x)]).run Tryz.prog w=.ok (.slice (some ⟨w.heap.size,0,none⟩) 1 1) (w.alloc (.cells #[.int .u32 x] 118)):=by go_simp
theorem cf26 (vs:Array Value) (w:World):(callFunc 104 vs).run Tryz.prog w=.ok (.enter 104 vs) w:=by go_simp
theorem cf28 (vs:Array Value) (w:World):(callFunc 106 vs).run Tryz.prog w=.ok (.enter 106 vs) w:=by go_simp
def OneW (N:Nat) (x:Int) (w:World) (v:Value):Prop:=∃ t,v=.slice (some ⟨t,0,none⟩) 1 1∧N≤t∧w.cell? ⟨t,0,none⟩=some (.int .u32 x)
theorem OneW.keep (N:Nat) (x:Int):∀ w w' v,Ext w w'→OneW N x w v→OneW N x w' v:=fun _ _ _ hx ⟨t,h1,h2,h3⟩=>⟨t,h1,h2,cell_at hx h3⟩
def AppP (base N:Nat) (v0:Value) (xs:List Int) (x:Int) (w:World) (v:Value):Prop:=∃ g cap,v=.slice (some ⟨g,0,none⟩) (xs.length+1) cap∧(some g=v0.ownBlock∨N≤g)∧OwnN .u32 118 w base (.slice (some ⟨g,0,none⟩) (xs.length+1) cap) (xs++[x])
theorem AppP.keep (base N:Nat) (v0:Value) (xs:List Int) (x:Int):∀ w w' v,Ext w w'→AppP base N v0 xs x w v→AppP base N v0 xs x w' v:=fun _ _ _ hx ⟨g,cap,h1,h2,h3⟩=>⟨g,cap,h1,h2,h3.kept hx⟩
def WP (base:Nat) (ks:List UInt32) (w:World) (v:Value):Prop:=∃ u,v=u∧OwnW w base u ks
theorem WP.keep (base:Nat) (ks:List UInt32):∀ w w' v,Ext w w'→WP base ks w v→WP base ks w' v:=fun _ _ _ hx ⟨u,h1,h2⟩=>⟨u,h1,OwnN.kept h2 hx⟩
theorem ownN_mono {kd:IntKind} {e:TypeId} {w:World} {b1 b2:Nat} {v:Value} {xs:List Int} (h:OwnN kd e w b1 v xs) (hb:b2≤b1):OwnN kd e w b2 v xs :=
 ⟨h.1,h.2.imp id fun ⟨g,cap,cur,h1,h2,h3⟩=>⟨g,cap,cur,h1,by omega,h3⟩⟩
theorem retW {w:World} {ks:List UInt32} {H:Nat} (hH:H≤w.heap.size) (e:Ending) (w':World) (h:WRet w ks e w'):∃ v,e=.returned v∧Ext w w'∧K.holds (.gen (WP H ks) (WP.keep _ _)) w' v:=by
 obtain ⟨v,rfl,ho,hb⟩:=h
 exact ⟨v,rfl,hb,v,rfl,ownN_mono ho hH⟩
def KRet (w:World) (ks ss:List UInt32) (e:Ending) (w':World):Prop:=∃ v1 v2,e=.returned (.tuple #[v1,v2,.int .i64 0])∧OwnW w' w.heap.size v1 ks∧OwnW w' w.heap.size v2 ss∧Ext w w'
def XR (a b:Value) (q:Nat):Prop:=a.ownBlock=some q∨b.ownBlock=some q
structure I2K (X:Nat→Prop) (W:World) (gb:Nat) (x0 x1:UInt32) (base:Nat) (vo:Value) (xo:List Int) (w:World):Prop where
 fr:Fr X W w
 c0:w.cell? ⟨gb,0,none⟩=some (.int .u32 (x0.toNat:Nat))
 c1:w.cell? ⟨gb,1,none⟩=some (.int .u32 (x1.toNat:Nat))
 own:OwnN .u32 118 w base vo xo
structure I1K (X:Nat→Prop) (W:World) (gb:Nat) (x0 x1:UInt32) (base:Nat) (ve:Value) (xe:List Int) (vo:Value) (xo:List Int) (w:World):Prop where
 i2:I2K X W gb x0 x1 base vo xo w
 own:OwnN .u32 118 w base ve xe
section
variable {X:Nat→Prop} {W w w':World} {gb base:Nat} {x0 x1:UInt32} {ve vo:Value} {xe xo:List Int}
theorem I2K.ext (hx:Ext w w') (h:I2K X W gb x0 x1 base vo xo w):I2K X W gb x0 x1 base vo xo w':=⟨h.fr.ext hx,cell_at hx h.c0,cell_at hx h.c1,h.own.kept hx⟩
theorem I1K.ext (hx:Ext w w') (h:I1K X W gb x0 x1 base ve xe vo xo w):I1K X W gb x0 x1 base ve xe vo xo w':=⟨h.i2.ext hx,h.own.kept hx⟩
theorem I1K.write (h:I1K X W gb x0 x1 base ve xe vo xo w) (hg:w.grownBy w' ve.ownBlock) (hX:∀ q,ve.ownBlock=some q→X q) (hgb:W.heap.size≤gb) (hlt:∀ q,ve.ownBlock=some q→q < W.heap.size) (ha:Apart ve vo):I2K X W gb x0 x1 base vo xo w' :=
 ⟨h.i2.fr.grown hg (fun r e=>.inl (hX r e)),hg.cell h.i2.c0 (fun e=>by have:=hlt gb e.symm;omega),hg.cell h.i2.c1 (fun e=>by have:=hlt gb e.symm;omega),h.i2.own.grown hg ha.symm⟩
end
def k10 (w W:World) (gb cb:Nat) (x0 x1:UInt32) (ve vo:Value) (xe:List Int):List K:=[.eq (ve),.eq (.slice (some ⟨gb,0,none⟩) 2 cb),.eq (.pointer (some ⟨gb,0,none⟩)),.eq (.int .u32 (x0.toNat:Nat)),.gen (OneW W.heap.size (x0.toNat:Nat)) (OneW.keep _ _),.gen (AppP w.heap.size W.heap.size ve xe (x0.toNat:Nat)) (AppP.keep _ _ _ _ _),.eq (vo),.eq (.slice (some ⟨gb,0,none⟩) 2 cb),.eq (.pointer (some ⟨gb,1,none⟩)),.eq (.int .u32 (x1.toNat:Nat)),.gen (OneW W.heap.size (x1.toNat:Nat)) (OneW.keep _ _),.any,.any,.any]
theorem k10_keep {w W w1 w2:World} {gb cb:Nat} {x0 x1:UInt32} {ve vo:Value} {xe:List Int} (hg:w1.grownBy w2 ve.ownBlock) (hlt:∀ q,ve.ownBlock=some q→q < W.heap.size) (i:Nat) (v:Value) (hne:i ≠ 5) (hv:kV (k10 w W gb cb x0 x1 ve vo xe) i w1 v):kV (k10 w W gb cb x0 x1 ve vo xe) i w2 v:=by
 have one:∀ x:Int,OneW W.heap.size x w1 v→OneW W.heap.size x w2 v:=fun x ⟨t,h1,h2,h3⟩=>⟨t,h1,h2,hg.cell h3 (fun e=>by have:=hlt t e.symm;omega)⟩
 match i,hne,hv with
 | 0,_,hv=>exact hv
 | 1,_,hv=>exact hv
 | 2,_,hv=>exact hv
 | 3,_,hv=>exact hv
 | 4,_,hv=>exact one _ hv
 | 5,h,_=>exact absurd rfl h
 | 6,_,hv=>exact hv
 | 7,_,hv=>exact hv
 | 8,_,hv=>exact hv
 | 9,_,hv=>exact hv
 | 10,_,hv=>exact one _ hv
 | 11,_,_=>trivial
 | 12,_,_=>trivial
 | 13,_,_=>trivial
 | _+14,_,_=>trivial
def YR (a b:Value) (S:Nat) (q:Nat):Prop:=XR a b q∨q=S+1∨q=S+1+1
structure A10 (W w6:World) (base S:Nat) (ve vo v25 v31 vs:Value) (xe xo xv:List Int):Prop where
 fr:Fr (YR ve vo S) W w6
 be:Boxed w6 (S+1) 115 v25
 oe:OwnN .u32 118 w6 base v25 xe
 bo:Boxed w6 (S+1+1) 115 v31
 oo:OwnN .u32 118 w6 base v31 xo
 bs:Boxed w6 S 115 vs
 os:OwnN .u32 118 w6 base vs xv
 eo:Apart v25 v31
 es:Apart v25 vs
 ov:Apart v31 vs
theorem boxed_later {w w':World} {B:Nat} {t:TypeId} {v:Value} (h:Boxed w B t v) (hx:Ext w w'):Boxed w' B t v:=(hx.block B h.lt).trans h
theorem A10.ext {W w6 w7:World} {base S:Nat} {ve vo v25 v31 vs:Value} {xe xo xv:List Int} (h:A10 W w6 base S ve vo v25 v31 vs xe xo xv) (hx:Ext w6 w7):A10 W w7 base S ve vo v25 v31 vs xe xo xv :=
 ⟨h.fr.ext hx,boxed_later h.be hx,h.oe.kept hx,boxed_later h.bo hx,h.oo.kept hx,boxed_later h.bs hx,h.os.kept hx,h.eo,h.es,h.ov⟩
theorem a10_make {W w3 w4:World} {base S g25 n25 c25 g31 n31 c31:Nat} {ve vo vs sv k8:Value} {xe xo xv ye yo:List Int} (hfr:Fr (XR ve vo) W w3)
  (hbx:Boxed W (S+1) 115 ve∧Boxed W (S+1+1) 115 vo∧Boxed W S 115 vs∧Boxed W (S+1+1+1) 22 sv∧Boxed W (S+1+1+1+1) 3 k8)
  (hov:OwnN .u32 118 W base ve xe∧OwnN .u32 118 W base vo xo∧OwnN .u32 118 W base vs xv) (hap:Apart ve vo) (haps:Apart ve vs∧Apart vo vs)
  (o25:OwnN .u32 118 w3 base (.slice (some ⟨g25,0,none⟩) n25 c25) ye) (h25:some g25=ve.ownBlock∨W.heap.size≤g25)
  (o31:OwnN .u32 118 w4 base (.slice (some ⟨g31,0,none⟩) n31 c31) yo) (hgr:w3.grownBy w4 vo.ownBlock) (h31:some g31=vo.ownBlock∨w3.heap.size≤g31) (h3:W.heap.size≤w3.heap.size) (_hN:base≤W.heap.size)
  (be4:Boxed w4 (S+1) 115 ve) (bo4:Boxed w4 (S+1+1) 115 vo) :
  A10 W ((w4.setCell ⟨S+1,0,none⟩ (.slice (some ⟨g25,0,none⟩) n25 c25)).setCell ⟨S+1+1,0,none⟩ (.slice (some ⟨g31,0,none⟩) n31 c31)) base S ve vo (.slice (some ⟨g25,0,none⟩) n25 c25) (.slice (some ⟨g31,0,none⟩) n31 c31) vs ye yo xv:=by
 obtain ⟨ove,ovo,ovs⟩:=hov
 have lo:=fun q h=>(ovo.lt q h).2
 have lv:=fun q h=>(ovs.lt q h).2
 have a25o:Apart (.slice (some ⟨g25,0,none⟩) n25 c25) vo:=hap.new h25 lo
 have a25v:Apart (.slice (some ⟨g25,0,none⟩) n25 c25) vs:=haps.1.new h25 lv
 have a31v:Apart (.slice (some ⟨g31,0,none⟩) n31 c31) vs:=haps.2.new (h31.imp id (fun h=>Nat.le_trans h3 h)) lv
 have a31e:Apart (.slice (some ⟨g31,0,none⟩) n31 c31) (.slice (some ⟨g25,0,none⟩) n25 c25):=a25o.symm.new h31 (fun q h=>(o25.lt q h).2)
 have o25':=o25.grown hgr a25o
 have bo5:Boxed (w4.setCell ⟨S+1,0,none⟩ (.slice (some ⟨g25,0,none⟩) n25 c25)) (S+1+1) 115 vo:=bo4.other (by omega) _
 have fr4:Fr (YR ve vo S) W w4 :=
  (show Fr (YR ve vo S) W w3 from ⟨hfr.os,hfr.tape,hfr.output,hfr.size,fun q hq h=>hfr.block q hq (fun h'=>h (.inl h'))⟩).grown hgr (fun r e=>.inl (.inl (.inr e)))
 have fr6:=(fr4.set (p:=⟨S+1,0,none⟩) (.inr (.inl rfl)) (.slice (some ⟨g25,0,none⟩) n25 c25)).set (p:=⟨S+1+1,0,none⟩) (.inr (.inr rfl)) (.slice (some ⟨g31,0,none⟩) n31 c31)
 refine ⟨fr6,(be4.set _).other (by omega) _,(o25'.setBox be4 (by decide)).setBox bo5 (by decide),bo5.set _,(o31.setBox be4 (by decide)).setBox bo5 (by decide),?_,?_,a31e.symm,a25v,a31v⟩
 ·refine fr6.boxed hbx.2.2.1 (fun h=>?_)
  rcases h with (h | h) | h | h
  ·exact hbx.2.2.1.not_row (by decide) ove h.symm
  ·exact hbx.2.2.1.not_row (by decide) ovo h.symm
  ·omega
  ·omega
 ·refine fr6.own ovs (fun q hq h=>?_)
  rcases h with (h | h) | rfl | rfl
  ·exact haps.1 q h hq
  ·exact haps.2 q h hq
  ·exact hbx.1.not_row (by decide) ovs hq.symm
  ·exact hbx.2.1.not_row (by decide) ovs hq.symm
def k11 (b o:Nat) (xs2:UInt32) (vs:Value):List K:=[.eq (vs),.eq (.slice (some ⟨b,o,none⟩) 8 8),.eq (.int .u32 (xs2.toNat:Nat)),.gen (OneW 0 (xs2.toNat:Nat)) (OneW.keep _ _),.any,.any]
def KI (m:Nat) (fe fo fs:Nat→UInt32) (w:World) (S:Nat) (sv:Value) (pre:List (Fin m)) (W:World):Prop :=
 ∃ ve vo vs,(Boxed W (S+1) 115 ve∧OwnN .u32 118 W w.heap.size ve (nW (pre.map fun j=>fe j.1)))∧(Boxed W (S+1+1) 115 vo∧OwnN .u32 118 W w.heap.size vo (nW (pre.map fun j=>fo j.1))) ∧
  (Boxed W S 115 vs∧OwnN .u32 118 W w.heap.size vs (nW (pre.map fun j=>fs j.1)))∧(Apart ve vo∧Apart ve vs∧Apart vo vs)∧(Boxed W (S+1+1+1) 22 sv∧Boxed W (S+1+1+1+1) 3 (.int .i64 8))∧Below w.heap.size w W
theorem ki_own {m:Nat} {fe fo fs:Nat→UInt32} {w W4:World} {S:Nat} {sv:Value} (h:w.heap.size≤W4.heap.size):OwnFrom W4.heap.size (KI m fe fo fs w S sv):=by
 intro s W W' row hs hg hr
 obtain ⟨ve,vo,vs,⟨a1,a2⟩,⟨b1,b2⟩,⟨c1,c2⟩,ap,⟨d1,d2⟩,hB⟩:=hs
 exact ⟨ve,vo,vs,⟨boxed_from a1 hg hr,ownN_from a2 hg hr⟩,⟨boxed_from b1 hg hr,ownN_from b2 hg hr⟩,⟨boxed_from c1 hg hr,ownN_from c2 hg hr⟩,ap,⟨boxed_from d1 hg hr,boxed_from d2 hg hr⟩,hB.grown hg hB.size (fun k e=>Nat.le_trans h (hr k e).1)⟩
theorem yr_base {W:World} {base S:Nat} {ve vo vs sv k8:Value} {xe xo xv:List Int} (_hbx:Boxed W (S+1) 115 ve∧Boxed W (S+1+1) 115 vo∧Boxed W S 115 vs∧Boxed W (S+1+1+1) 22 sv∧Boxed W (S+1+1+1+1) 3 k8)
  (hov:OwnN .u32 118 W base ve xe∧OwnN .u32 118 W base vo xo∧OwnN .u32 118 W base vs xv) (_hN:base≤W.heap.size) (hS:base=S):∀ q,YR ve vo S q→base≤q:=by
 intro q h
 rcases h with (h | h) | h | h
 ·exact (hov.1.lt q h).1
 ·exact (hov.2.1.lt q h).1
 ·omega
 ·omega
theorem own_cells {kd:IntKind} {e:TypeId} {W:World} {base q:Nat} {v:Value} {xs:List Int} {ob:Obj} (h:OwnN kd e W base v xs) (hq:v.ownBlock=some q) (ho:W.heap[q]? = some ob) (hc:ob.isCells=false):False:=by
 rcases h.2 with ⟨rfl,_⟩ | ⟨g,cap,cur,rfl,_,hgb,_⟩
 ·cases hq
 ·simp only [Value.ownBlock,Option.some.injEq] at hq
  subst hq
  rw [hgb] at ho;cases ho;cases hc
theorem boxed_cells {W:World} {B:Nat} {t:TypeId} {v:Value} {ob:Obj} (h:Boxed W B t v) (ho:W.heap[B]? = some ob) (hc:ob.isCells=false):False:=by
 rw [show W.heap[B]? = _ from h] at ho;cases ho;cases hc
theorem round_end {W w7 w8 w0:World} {S g36 n36 c36:Nat} {ve vo v25 v31 vs sv:Value} {xe xo xv ye yo yv:List Int} (hA:A10 W w7 w0.heap.size S ve vo v25 v31 vs ye yo xv)
  (hbx:Boxed W (S+1) 115 ve∧Boxed W (S+1+1) 115 vo∧Boxed W S 115 vs∧Boxed W (S+1+1+1) 22 sv∧Boxed W (S+1+1+1+1) 3 (.int .i64 8))
  (hov:OwnN .u32 118 W w0.heap.size ve xe∧OwnN .u32 118 W w0.heap.size vo xo∧OwnN .u32 118 W w0.heap.size vs xv) (_haps:Apart ve vs∧Apart vo vs) (hB:Below w0.heap.size w0 W) (hS:w0.heap.size=S) (hN:w0.heap.size≤W.heap.size)
  (o36:OwnN .u32 118 w8 w0.heap.size (.slice (some ⟨g36,0,none⟩) n36 c36) yv) (hgr:w7.grownBy w8 vs.ownBlock) (h36:some g36=vs.ownBlock∨w7.heap.size≤g36) (bs8:Boxed w8 S 115 vs) (B4:Nat) :
  KeepsFrom B4 W (w8.setCell ⟨S,0,none⟩ (.slice (some ⟨g36,0,none⟩) n36 c36))∧KpC w0.heap.size (S+1+1+1) (S+1+1+1+1) W (w8.setCell ⟨S,0,none⟩ (.slice (some ⟨g36,0,none⟩) n36 c36)) ∧
   ∃ ve vo vs,(Boxed (w8.setCell ⟨S,0,none⟩ (.slice (some ⟨g36,0,none⟩) n36 c36)) (S+1) 115 ve∧OwnN .u32 118 (w8.setCell ⟨S,0,none⟩ (.slice (some ⟨g36,0,none⟩) n36 c36)) w0.heap.size ve ye)∧(Boxed (w8.setCell ⟨S,0,none⟩ (.slice (some ⟨g36,0,none⟩) n36 c36)) (S+1+1) 115 vo∧OwnN .u32 118 (w8.setCell ⟨S,0,none⟩ (.slice (some ⟨g36,0,none⟩) n36 c36)) w0.heap.size vo yo) ∧
    (Boxed (w8.setCell ⟨S,0,none⟩ (.slice (some ⟨g36,0,none⟩) n36 c36)) S 115 vs∧OwnN .u32 118 (w8.setCell ⟨S,0,none⟩ (.slice (some ⟨g36,0,none⟩) n36 c36)) w0.heap.size vs yv)∧(Apart ve vo∧Apart ve vs∧Apart vo vs)∧(Boxed (w8.setCell ⟨S,0,none⟩ (.slice (some ⟨g36,0,none⟩) n36 c36)) (S+1+1+1) 22 sv∧Boxed (w8.setCell ⟨S,0,none⟩ (.slice (some ⟨g36,0,none⟩) n36 c36)) (S+1+1+1+1) 3 (.int .i64 8))∧Below w0.heap.size w0 (w8.setCell ⟨S,0,none⟩ (.slice (some ⟨g36,0,none⟩) n36 c36)):=by
 obtain ⟨b1,b2,b3,b4,b5⟩:=hbx
 obtain ⟨ove,ovo,ovs⟩:=hov
 let Z:Nat→Prop:=fun q=>(YR ve vo S q∨vs.ownBlock=some q)∨q=S
 have f7:Fr Z W w7:=⟨hA.fr.os,hA.fr.tape,hA.fr.output,hA.fr.size,fun q hq h=>hA.fr.block q hq (fun h'=>h (.inl (.inl h')))⟩
 have f8:Fr Z W w8:=f7.grown hgr (fun r e=>.inl (.inl (.inr e)))
 have f9:Fr Z W (w8.setCell ⟨S,0,none⟩ (.slice (some ⟨g36,0,none⟩) n36 c36)):=f8.set (p:=⟨S,0,none⟩) (.inr rfl) _
 have zb:∀ q,Z q→w0.heap.size≤q:=by
  intro q h
  rcases h with (((h | h) | h | h) | h) | h
  ·exact (ove.lt q h).1
  ·exact (ovo.lt q h).1
  ·omega
  ·omega
  ·exact (ovs.lt q h).1
  ·omega
 have zn:∀ q t u,Boxed W q t u→t ≠ 118→q ≠ S→q ≠ S+1→q ≠ S+1+1→¬ Z q:=by
  intro q t u hb ht n1 n2 n3 h
  rcases h with (((h | h) | h | h) | h) | h
  ·exact hb.not_row ht ove h.symm
  ·exact hb.not_row ht ovo h.symm
  ·exact n2 h
  ·exact n3 h
  ·exact hb.not_row ht ovs h.symm
  ·exact n1 h
 have zc:∀ q ob,W.heap[q]? = some ob→ob.isCells=false→¬ Z q:=by
  intro q ob ho hc h
  rcases h with (((h | h) | h | h) | h) | h
  ·exact own_cells ove h ho hc
  ·exact own_cells ovo h ho hc
  ·subst h;exact boxed_cells b1 ho hc
  ·subst h;exact boxed_cells b2 ho hc
  ·exact own_cells ovs h ho hc
  ·subst h;exact boxed_cells b3 ho hc
 have z3:=zn _ _ _ b4 (by decide) (by omega) (by omega) (by omega)
 have z4:=zn _ _ _ b5 (by decide) (by omega) (by omega) (by omega)
 have lt7:∀ {v:Value} {xs:List Int},OwnN .u32 118 w7 w0.heap.size v xs→∀ q,v.ownBlock=some q→q < w7.heap.size:=fun h q hq=>(h.lt q hq).2
 have e8:Apart (.slice (some ⟨g36,0,none⟩) n36 c36) v25:=hA.es.symm.new h36 (lt7 hA.oe)
 have o8:Apart (.slice (some ⟨g36,0,none⟩) n36 c36) v31:=hA.ov.symm.new h36 (lt7 hA.oo)
 have be8:=hA.be.kept hgr (hA.be.not_row (by decide) hA.os)
 have bo8:=hA.bo.kept hgr (hA.bo.not_row (by decide) hA.os)
 refine ⟨⟨f9.size,fun k ob _ h0 hc=>(f9.block k (Array.getElem?_eq_some_iff.1 h0).1 (zc k ob h0 hc)).trans h0⟩,fun p hp=>?_,
  v25,v31,_,⟨be8.other (by omega) _,(hA.oe.grown hgr hA.es).setBox bs8 (by decide)⟩,⟨bo8.other (by omega) _,(hA.oo.grown hgr hA.ov).setBox bs8 (by decide)⟩,
  ⟨bs8.set _,o36.setBox bs8 (by decide)⟩,⟨hA.eo,e8.symm,o8.symm⟩,⟨f9.boxed b4 z3,f9.boxed b5 z4⟩,f9.below hB hN zb⟩
 rcases hp with hp | hp | hp
 ·exact World.cell?_of_block (w:=W) (f9.block p.block (by omega) (fun h=>by have:=zb _ h;omega))
 ·exact World.cell?_of_block (w:=W) (by rw [hp];exact f9.block _ b4.lt z3)
 ·exact World.cell?_of_block (w:=W) (by rw [hp];exact f9.block _ b5.lt z4)
def k13_2 (S gs c1 c2 cs:Nat) (A1 A2:Option Addr) (ev od:List UInt32):List K:=[.eq (.slice A1 2 c1),.eq (.slice A2 2 c2),.gen (WP S (kL ev od 20)) (WP.keep _ _),.eq (.slice (some ⟨gs,0,none⟩) 2 cs),.gen (WP S (kL ev od 20)) (WP.keep _ _),.any,.any]
set_option maxHeartbeats 4000000 in
theorem keys2_f (b o c:Nat) (fe fo fs:Nat→UInt32) (w:World) (hG:GT w) (hc:16≤c)
  (hga:∀ j,j < 2→∀ W,Ext w W→Calls Tryz.prog 58 #[.slice (some ⟨b,o+8*j,none⟩) 8 8] W (WRet W [fe j,fo j]))
  (hsh:∀ j,j < 2→∀ W,Ext w W→Calls Tryz.prog 104 #[.slice (some ⟨b,o+8*j,none⟩) 8 8] W fun e w'=>e=.returned (.int .u32 ((fs j).toNat:Nat))∧Ext W w') :
  Calls Tryz.prog 57 #[.slice (some ⟨b,o,none⟩) 16 c] w (KRet w (kL ((List.range 2).map fe) ((List.range 2).map fo) 20) ((List.range 2).map fs).reverse):=by
 refine (callsIn_wide (n:=9)).1 ?_
 refine callsIn_of_wp_marks Tryz.func57 rfl trivial ?_ rfl
 simp only [Tryz.ntmps57,List.size_toArray,List.length_cons,List.length_nil,Nat.reduceAdd,Nat.reduceSub,Array.replicate_succ,Array.replicate_zero,List.push_toArray,List.append_toArray,List.nil_append,List.cons_append]
 have HGA:=hid hga
 have HSH:=hid hsh
 clear hga hsh
 gi_wp2_with (first
  | (refine ⟨trivial,?_⟩;gi_at_call 103;refine (callsIn_wide.2 (chunk_any _ _ _ 8 _ (by omega))).mono ?_;rintro e w' ⟨rfl,rfl⟩))
 obtain ⟨sv,hsv⟩:∃ sv,Value.slice (some ⟨b,o,none⟩) 16 c=sv:=⟨_,rfl⟩
 rw [hsv]
 have b0:=Boxed.new w 115 (.slice none 0 0)
 have b1:=Boxed.new (w.alloc (.cells #[.slice none 0 0] 115)) 115 (.slice none 0 0)
 have b2:=Boxed.new ((w.alloc (.cells #[.slice none 0 0] 115)).alloc (.cells #[.slice none 0 0] 115)) 115 (.slice none 0 0)
 have b3:=Boxed.new (((w.alloc (.cells #[.slice none 0 0] 115)).alloc (.cells #[.slice none 0 0] 115)).alloc (.cells #[.slice none 0 0] 115)) 22 sv
 have b4:=Boxed.new ((((w.alloc (.cells #[.slice none 0 0] 115)).alloc (.cells #[.slice none 0 0] 115)).alloc (.cells #[.slice none 0 0] 115)).alloc (.cells #[sv] 22)) 3 (.int .i64 8)
 simp only [World.size_alloc] at b1 b2 b3 b4
 obtain ⟨W4,hW4⟩:∃ W4,((((w.alloc (.cells #[.slice none 0 0] 115)).alloc (.cells #[.slice none 0 0] 115)).alloc (.cells #[.slice none 0 0] 115)).alloc (.cells #[sv] 22)).alloc (.cells #[.int .i64 8] 3)=W4:=⟨_,rfl⟩
 have hs4:W4.heap.size=w.heap.size+5:=by rw [← hW4];simp
 have c0:Boxed W4 w.heap.size 115 (.slice none 0 0):=by rw [← hW4];exact (((b0.alloc _).alloc _).alloc _).alloc _
 have c1:Boxed W4 (w.heap.size+1) 115 (.slice none 0 0):=by rw [← hW4];exact ((b1.alloc _).alloc _).alloc _
 have c2:Boxed W4 (w.heap.size+1+1) 115 (.slice none 0 0):=by rw [← hW4];exact (b2.alloc _).alloc _
 have c3:Boxed W4 (w.heap.size+1+1+1) 22 sv:=by rw [← hW4];exact b3.alloc _
 have c4:Boxed W4 (w.heap.size+1+1+1+1) 3 (.int .i64 8):=by rw [← hW4];exact b4
 have hB4:Below w.heap.size w W4:=by
  rw [← hW4]
  exact (((((Below.refl _ w).alloc (Nat.le_refl _) _).alloc (by simp) _).alloc (by simp;omega) _).alloc (by simp;omega) _).alloc (by simp;omega) _
 rw [hW4]
 obtain ⟨S,hS⟩:∃ S,w.heap.size=S:=⟨_,rfl⟩
 rw [hS] at c0 c1 c2 c3 c4 hs4 ⊢
 have HB4:=hid hB4
 have HCC:=hid (And.intro c0 (And.intro c1 (And.intro c2 (And.intro c3 c4))))
 have HS:=hid hS
 clear hW4 b0 b1 b2 b3 b4 c0 c1 c2 hB4
 have hcs:W4.cell? ⟨S+1+1+1,0,none⟩=some (.slice (some ⟨b,o,none⟩) (8*2:Nat) c):=by rw [c3.cell,← hsv]
 have hcn:=c4.cell
 have hq1:S+1+1+1 < W4.heap.size:=by omega
 have hq2:S+1+1+1+1 < W4.heap.size:=by omega
 have hq3:w.heap.size≤W4.heap.size:=by omega
 have hseq:=chunk_stops (9 - 1) (S+1+1+1) (S+1+1+1+1) w.heap.size b o 8 2 c (by omega) (by omega) (by omega) (by omega) (by omega) W4 hq1 hq2 hcs hcn
 have hown:=@ki_own 2 fe fo fs w W4 S sv hq3
 have hI0:KI 2 fe fo fs w S sv [] W4:=⟨_,_,_,⟨HCC.out.2.1,World.ownsRow_nil _ _ _ _⟩,⟨HCC.out.2.2.1,World.ownsRow_nil _ _ _ _⟩,⟨HCC.out.1,World.ownsRow_nil _ _ _ _⟩,⟨(fun q h=>by cases h),(fun q h=>by cases h),(fun q h=>by cases h)⟩,HCC.out.2.2.2,HB4.out⟩
 have hkb:=@kpC_b w.heap.size (S+1+1+1) (S+1+1+1+1) W4 hq3 hq1 hq2
 clear hcs hcn c3 c4
 refine wpIn_rangeFunc_ownG (Kp:=KpC w.heap.size (S+1+1+1) (S+1+1+1+1)) rfl (by omega) (gf:=165) (lb:=#[.pointer (some ⟨S+1+1+1,0,none⟩),.pointer (some ⟨S+1+1+1+1,0,none⟩)]) rfl trivial (enters_of Tryz.func165 (by kernel_rfl) rfl)
  hseq kpC_t hkb (Below.refl _ _) (fun _=>rfl) (KI 2 fe fo fs w S sv) (fun _ _ _=>False) hown (fun _ _ _ _ _ hs _ _=>hs) hI0
  (fun x=>{ tmps:=#[sv,undef,.slice none 0 0,.pointer (some ⟨S,0,none⟩),.int .i64 0,.pointer (some ⟨S+1,0,none⟩),.pointer (some ⟨S+1+1,0,none⟩),.slice (some ⟨b,o+8*x.1,none⟩) 8 8,undef,sv,.int .i64 16,.bool true,.bool true,undef,undef,sv,.func (.func 165) #[] #[.pointer (some ⟨S+1+1+1,0,none⟩),.pointer (some ⟨S+1+1+1+1,0,none⟩)],.slice (some ⟨b,o+8*x.1,none⟩) 8 8,undef,undef,undef,undef,undef,undef,undef,undef,undef,undef,undef,undef,undef,undef,undef,undef,undef,undef,undef,undef,undef,undef,undef,undef,undef],defers:=[] }) ?assign ?body ?done ?stop
 case assign =>
  intro l x W K hK
  gi_wp2
  exact hK
 case body =>
  intro l pre x W hIW hlt
  obtain ⟨ve,vo,vs,⟨bve,ove⟩,⟨bvo,ovo⟩,⟨bvs,ovs⟩,⟨apeo,apes,apos⟩,⟨bbs,bbn⟩,hB⟩:=hIW
  have hga:=HGA.out x.1 x.2
  have hsh:=HSH.out x.1 x.2
  gi_wp2_with (refine ⟨trivial,?_⟩;gi_at_call 58;refine (CallsIn.inRound l (callsIn_wide.2 (hga W hB))).mono ?_;rintro e w1 ⟨v8,rfl,ho8,hx1⟩)
  obtain ⟨gb,cb,rfl,hcb,hgb⟩:∃ gb cb,v8=.slice (some ⟨gb,0,none⟩) 2 cb∧2≤cb∧W.heap.size≤gb∧gb < w1.heap.size:=by
   obtain ⟨g,c1,e,h1,h2,h3⟩:=OwnN.head (n:=2) ho8 rfl (by omega)
   exact ⟨g,c1,e,h1,h2,h3⟩
  have x0c:=OwnN.celln ho8 rfl 0 (by simp)
  have x1c:=OwnN.celln ho8 rfl 1 (by simp)
  obtain ⟨x0,hx0⟩:∃ x0,fe x.1=x0:=⟨_,rfl⟩
  obtain ⟨x1,hx1e⟩:∃ x1,fo x.1=x1:=⟨_,rfl⟩
  obtain ⟨xs2,hxs2⟩:∃ xs2,fs x.1=xs2:=⟨_,rfl⟩
  have hx0c:w1.cell? ⟨gb,0,none⟩=some (.int .u32 (x0.toNat:Nat)):=by rw [← hx0];exact x0c
  have hx1c:w1.cell? ⟨gb,1,none⟩=some (.int .u32 (x1.toNat:Nat)):=by rw [← hx1e];exact x1c
  obtain ⟨xe,hxe⟩:∃ xe,nW (pre.map fun j=>fe j.1)=xe:=⟨_,rfl⟩
  obtain ⟨xo,hxo⟩:∃ xo,nW (pre.map fun j=>fo j.1)=xo:=⟨_,rfl⟩
  obtain ⟨xv,hxv⟩:∃ xv,nW (pre.map fun j=>fs j.1)=xv:=⟨_,rfl⟩
  have hxel:xe.length=pre.length:=by rw [← hxe];simp [nW]
  have hxol:xo.length=pre.length:=by rw [← hxo];simp [nW]
  have hxvl:xv.length=pre.length:=by rw [← hxv];simp [nW]
  have hne:nW ((pre++[x]).map fun j=>fe j.1)=xe++[((x0.toNat:Nat):Int)]:=by rw [List.map_append,nW_append,hxe,← hx0];rfl
  have hno:nW ((pre++[x]).map fun j=>fo j.1)=xo++[((x1.toNat:Nat):Int)]:=by rw [List.map_append,nW_append,hxo,← hx1e];rfl
  have hnv:nW ((pre++[x]).map fun j=>fs j.1)=xv++[((xs2.toNat:Nat):Int)]:=by rw [List.map_append,nW_append,hxv,← hxs2];rfl
  rw [hxe] at ove
  rw [hxo] at ovo
  rw [hxv] at ovs
  rw [hxs2] at hsh
  have hNB:∀ {q t u},Boxed W q t u→t ≠ 118→¬ XR ve vo q:=fun hb ht h=>by
   rcases h with h | h
   ·exact hb.not_row ht ove h.symm
   ·exact hb.not_row ht ovo h.symm
  have HJA:=hid (show ∀ w2,(I1K (XR ve vo) W gb x0 x1 w.heap.size ve xe vo xo w2∨I2K (XR ve vo) W gb x0 x1 w.heap.size vo xo w2)→I2K (XR ve vo) W gb x0 x1 w.heap.size vo xo w2 from fun w2 h=>h.elim (fun h=>h.i2) id)
  have HJE:=hid (show ∀ w2,(I1K (XR ve vo) W gb x0 x1 w.heap.size ve xe vo xo w2∨I2K (XR ve vo) W gb x0 x1 w.heap.size vo xo w2)→Boxed w2 (S+1) 115 ve from fun w2 h=>(HJA.out w2 h).fr.boxed bve (hNB bve (by decide)))
  have HJO:=hid (show ∀ w2,(I1K (XR ve vo) W gb x0 x1 w.heap.size ve xe vo xo w2∨I2K (XR ve vo) W gb x0 x1 w.heap.size vo xo w2)→Boxed w2 (S+1+1) 115 vo from fun w2 h=>(HJA.out w2 h).fr.boxed bvo (hNB bvo (by decide)))
  have HJ0:=hid (fun w2 h=>(HJA.out w2 h).c0)
  have HJ1:=hid (fun w2 h=>(HJA.out w2 h).c1)
  have HJN:=hid (fun w2 h=>(HJA.out w2 h).fr.size)
  have HI1:=hid (show I1K (XR ve vo) W gb x0 x1 w.heap.size ve xe vo xo w1 from ⟨⟨Fr.refl.ext hx1,hx0c,hx1c,ovo.kept hx1⟩,ove.kept hx1⟩)
  have HXE:=hid (show ∀ q,ve.ownBlock=some q→XR ve vo q from fun q h=>.inl h)
  have HGB:=hid hgb.1
  have HLE:=hid (show ∀ q,ve.ownBlock=some q→q < W.heap.size from fun q h=>(ove.lt q h).2)
  have HLO:=hid (show ∀ q,vo.ownBlock=some q→q < W.heap.size from fun q h=>(ovo.lt q h).2)
  have HLV:=hid (show ∀ q,vs.ownBlock=some q→q < W.heap.size from fun q h=>(ovs.lt q h).2)
  have HAP:=hid apeo
  have HL:=hid (show xe.length≤1000∧xo.length≤1000∧xv.length≤1000 by omega)
  have HN:=hid hB.size
  have HNE:=hid (And.intro hne (And.intro hno hnv))
  have HAPS:=hid (And.intro apes apos)
  have HBX:=hid (And.intro bve (And.intro bvo (And.intro bvs (And.intro bbs bbn))))
  have HOV:=hid (And.intro ove (And.intro ovo ovs))
  have HBB:=hid hB
  have HSZ:=hid (show w.heap.size=S from HS.out)
  have HSHR:=hid hsh
  have HX1:=hid hx1
  clear hga hsh hxel hxol hxvl hne hno hnv hxe hxo hxv hx0 hx1e hxs2 x0c x1c hx0c hx1c hNB HJA ho8 hx1 bve bvo bvs bbs bbn ove ovo ovs apeo apes apos hB hlt
  gi_wp2
  refine region_ou_in 11 5 _ (I1K (XR ve vo) W gb x0 x1 w.heap.size ve xe vo xo) (I2K (XR ve vo) W gb x0 x1 w.heap.size vo xo) mixed (fun ⟨_,_,hl⟩=>hl) (by kernel_rfl) rfl (by kernel_rfl) (by kernel_rfl) (by kernel_rfl) (by omega) rfl rfl (kV (k10 w W gb cb x0 x1 ve vo xe)) (kV_keep _) (fun _ _=>I1K.ext) (fun _ _=>I2K.ext) HI1.out (forall_ops ⟨?_,?_,?_,?_,?_,?_,?_,?_,?_,?_,?_,trivial⟩) ?_ ?_
  ·intro _ a w3 hk hI
   have s5:a.tmps.getD 5 undef=.pointer (some ⟨S+1,0,none⟩):=hk.was 5 (by kernel_rfl) rfl
   refine step_val (v:=ve) (w':=w3) rfl ?_ (Ext.refl w3) rfl
   have hc:=(HJE.out _ hI).cell
   go_simp
  ·intro _ a w3 hk hI
   have s8:a.tmps.getD 8 undef=.slice (some ⟨gb,0,none⟩) 2 cb:=hk.was 8 (by kernel_rfl) rfl
   exact step_move rfl rfl s8 rfl
  ·intro _ a w3 hk hI
   have s21:=hk.eq_ 1 21 (by kernel_rfl) rfl
   refine step_val (v:=.pointer (some ⟨gb,0,none⟩)) (w':=w3) rfl ?_ (Ext.refl w3) rfl
   go_simp
  ·intro _ a w3 hk hI
   have s22:=hk.eq_ 2 22 (by kernel_rfl) rfl
   refine step_val (v:=.int .u32 (x0.toNat:Nat)) (w':=w3) rfl ?_ (Ext.refl w3) rfl
   have hc:=HJ0.out _ hI
   go_simp
  ·intro _ a w3 hk hI
   have s23:=hk.eq_ 3 23 (by kernel_rfl) rfl
   refine step_val (v:=.slice (some ⟨w3.heap.size,0,none⟩) 1 1) (w':=w3.alloc (.cells #[.int .u32 (x0.toNat:Nat)] 118)) rfl ?_ (Ext.alloc _ _) ⟨_,rfl,(HJN.out _ hI),by rw [cell_of_row _ _ _ _ _ _ (heap_alloc_new _ _)];rfl⟩
   have e:=build24 (x0.toNat:Nat) w3
   simp only [execOp,Act.eval,List.map_toArray,List.map_cons,List.map_nil,s23,Sem.run_bind,e,Sem.run_pure,Result.andThen]
  ·intro h;exact absurd rfl h
  ·intro _ a w3 hk hI
   have s6:a.tmps.getD 6 undef=.pointer (some ⟨S+1+1,0,none⟩):=hk.was 6 (by kernel_rfl) rfl
   refine step_val (v:=vo) (w':=w3) rfl ?_ (Ext.refl w3) rfl
   have hc:=(HJO.out _ hI).cell
   go_simp
  ·intro _ a w3 hk hI
   have s8:a.tmps.getD 8 undef=.slice (some ⟨gb,0,none⟩) 2 cb:=hk.was 8 (by kernel_rfl) rfl
   exact step_move rfl rfl s8 rfl
  ·intro _ a w3 hk hI
   have s27:=hk.eq_ 7 27 (by kernel_rfl) rfl
   refine step_val (v:=.pointer (some ⟨gb,1,none⟩)) (w':=w3) rfl ?_ (Ext.refl w3) rfl
   go_simp
  ·intro _ a w3 hk hI
   have s28:=hk.eq_ 8 28 (by kernel_rfl) rfl
   refine step_val (v:=.int .u32 (x1.toNat:Nat)) (w':=w3) rfl ?_ (Ext.refl w3) rfl
   have hc:=HJ1.out _ hI
   go_simp
  ·intro _ a w3 hk hI
   have s29:=hk.eq_ 9 29 (by kernel_rfl) rfl
   refine step_val (v:=.slice (some ⟨w3.heap.size,0,none⟩) 1 1) (w':=w3.alloc (.cells #[.int .u32 (x1.toNat:Nat)] 118)) rfl ?_ (Ext.alloc _ _) ⟨_,rfl,(HJN.out _ hI),by rw [cell_of_row _ _ _ _ _ _ (heap_alloc_new _ _)];rfl⟩
   have e:=build24 (x1.toNat:Nat) w3
   simp only [execOp,Act.eval,List.map_toArray,List.map_cons,List.map_nil,s29,Sem.run_bind,e,Sem.run_pure,Result.andThen]
  ·intro a w3 hk hI
   have s20:=hk.eq_ 0 20 (by kernel_rfl) rfl
   obtain ⟨t24,s24,h24,g24⟩:=hk.val 4 24 (by kernel_rfl) rfl
   refine wp_app (.tmp 20) (.tmp 24) rfl s20 hI.own s24 HL.out.1 g24 (Nat.le_trans HN.out hI.i2.fr.size) ?_
   intro g cap w4 hown hgr hg
   have hg2:some g=ve.ownBlock∨W.heap.size≤g:=hg.imp id (fun h=>Nat.le_trans hI.i2.fr.size h)
   refine ⟨_,rfl,hI.write hgr HXE.out HGB.out HLE.out HAP.out,⟨g,cap,rfl,hg2,hown⟩,fun i v hne hv=>?_⟩
   exact k10_keep hgr HLE.out i v hne hv
  ·intro a w3 hf hI2
   have s20:=hf.eq_ 0 20 (by kernel_rfl) rfl
   have s21:=hf.eq_ 1 21 (by kernel_rfl) rfl
   have s22:=hf.eq_ 2 22 (by kernel_rfl) rfl
   have s23:=hf.eq_ 3 23 (by kernel_rfl) rfl
   obtain ⟨t24,s24,h24,g24⟩:=hf.val 4 24 (by kernel_rfl) rfl
   obtain ⟨g25,c25,s25,h25,o25⟩:=hf.val 5 25 (by kernel_rfl) rfl
   have s26:=hf.eq_ 6 26 (by kernel_rfl) rfl
   have s27:=hf.eq_ 7 27 (by kernel_rfl) rfl
   have s28:=hf.eq_ 8 28 (by kernel_rfl) rfl
   have s29:=hf.eq_ 9 29 (by kernel_rfl) rfl
   obtain ⟨t30,s30,h30,g30⟩:=hf.val 10 30 (by kernel_rfl) rfl
   have hx:=hf.ext
   have e:=hf.frame
   clear hf
   simp only [List.take_succ_cons,List.take_zero,regFrame,Act.put,List.setIfInBounds_toArray,List.set_cons_zero,List.set_cons_succ,s20,s21,s22,s23,s24,s25,s26,s27,s28,s29,s30] at e
   clear s20 s21 s22 s23 s24 s25 s26 s27 s28 s29 s30
   subst e
   simp only [List.drop_succ_cons,List.drop_zero]
   have HO25:=hid o25
   have HI2:=hid hI2
   have HJE3:=hid (HJE.out _ (.inr hI2))
   have HJO3:=hid (HJO.out _ (.inr hI2))
   have HN3:=hid hI2.fr.size
   clear o25 hI2 hx h24 g24 h30
   go_wp2_with (refine wpList_app rfl (.tmp 26) (.tmp 30) rfl rfl HI2.out.own rfl HL.out.2.1 g30 (Nat.le_trans HN.out HN3.out) ?_;intro g31 c31 w4 o31 hgr31 hg31;have be4:=HJE3.out.kept hgr31 (HBX.out.1.not_row (by decide) HOV.out.2.1);have bo4:=HJO3.out.kept hgr31 (HBX.out.2.1.not_row (by decide) HOV.out.2.1);have bo5:=bo4.other (show S+1+1 ≠ S+1 by omega) (.slice (some ⟨g25,0,none⟩) (xe.length+1) c25);have hc1:=be4.cell;have hf1:=be4.frozen;have hc2:=bo5.cell;have hf2:=bo5.frozen)
   have HA:=hid (a10_make HI2.out.fr HBX.out HOV.out HAP.out HAPS.out HO25.out h25 o31 hgr31 (hg31.imp id id) HN3.out HN.out be4 bo4)
   clear o31 hgr31 hg31 be4 bo4 bo5 hc1 hf1 hc2 hf2 g30
   obtain ⟨W6,hW6⟩:∃ W6,(w4.setCell ⟨S+1,0,none⟩ (.slice (some ⟨g25,0,none⟩) (xe.length+1) c25)).setCell ⟨S+1+1,0,none⟩ (.slice (some ⟨g31,0,none⟩) (xo.length+1) c31)=W6:=⟨_,rfl⟩
   rw [hW6] at HA ⊢
   clear hW6
   gi_wp2
   have HW6:=hid (HA.out.fr.below HBB.out HN.out (yr_base HBX.out HOV.out HN.out HSZ.out))
   refine region_upto_in 4 mixed (fun ⟨_,_,hl⟩=>hl) (by kernel_rfl) rfl (by kernel_rfl) (by kernel_rfl) (by kernel_rfl) (kV (k11 b (o+8*x.1) xs2 vs)) (kV_keep _) (forall_ops ⟨?_,?_,?_,?_,trivial⟩) ?_
   ·intro a w3 hk
    have s3:a.tmps.getD 3 undef=.pointer (some ⟨S,0,none⟩):=hk.was 3 (by kernel_rfl) rfl
    refine step_val (v:=vs) (w':=w3) rfl ?_ (Ext.refl w3) rfl
    have hc:=cell_at hk.ext HA.out.bs.cell
    go_simp
   ·intro a w3 hk
    have s7:a.tmps.getD 7 undef=.slice (some ⟨b,o+8*x.1,none⟩) 8 8:=hk.was 7 (by kernel_rfl) rfl
    exact step_move rfl rfl s7 rfl
   ·intro a w3 hk
    have s33:=hk.eq_ 1 33 (by kernel_rfl) rfl
    exact step_call rfl rfl (by simp only [List.map_toArray,List.map_cons,List.map_nil,Act.eval,s33]<;>rfl) cf26 (HSHR.out w3 (Ext.trans HW6.out hk.ext)) (fun e w1 h=>by obtain ⟨rfl,hx⟩:=h;exact ⟨_,rfl,hx,rfl⟩)
   ·intro a w3 hk
    have s34:=hk.eq_ 2 34 (by kernel_rfl) rfl
    refine step_val (v:=.slice (some ⟨w3.heap.size,0,none⟩) 1 1) (w':=w3.alloc (.cells #[.int .u32 (xs2.toNat:Nat)] 118)) rfl ?_ (Ext.alloc _ _) ⟨_,rfl,Nat.zero_le _,by rw [cell_of_row _ _ _ _ _ _ (heap_alloc_new _ _)];rfl⟩
    have e:=build24 (xs2.toNat:Nat) w3
    simp only [execOp,Act.eval,List.map_toArray,List.map_cons,List.map_nil,s34,Sem.run_bind,e,Sem.run_pure,Result.andThen]
   ·intro a w7 hf
    have s32:=hf.eq_ 0 32 (by kernel_rfl) rfl
    have s33:=hf.eq_ 1 33 (by kernel_rfl) rfl
    have s34:=hf.eq_ 2 34 (by kernel_rfl) rfl
    obtain ⟨t35,s35,h35,g35⟩:=hf.val 3 35 (by kernel_rfl) rfl
    have hx:=hf.ext
    have e:=hf.frame
    clear hf
    simp only [List.take_succ_cons,List.take_zero,regFrame,Act.put,List.setIfInBounds_toArray,List.set_cons_zero,List.set_cons_succ,s32,s33,s34,s35] at e
    clear s32 s33 s34 s35
    subst e
    simp only [List.drop_succ_cons,List.drop_zero]
    have HA7:=hid (HA.out.ext hx)
    clear hx h35
    go_wp2_with (refine wpList_app rfl (.tmp 32) (.tmp 35) rfl rfl HA7.out.os rfl HL.out.2.2 g35 (Nat.le_trans HN.out HA7.out.fr.size) ?_;intro g36 c36 w8 o36 hgr36 hg36;have bs8:=HA7.out.bs.kept hgr36 (HA7.out.bs.not_row (by decide) HA7.out.os);have hc1:=bs8.cell;have hf1:=bs8.frozen)
    have HE:=round_end HA7.out HBX.out HOV.out HAPS.out HBB.out HSZ.out HN.out o36 hgr36 hg36 bs8 W4.heap.size
    refine ⟨HE.1,HE.2.1,?_⟩
    have h:=HE.2.2
    rw [← HNE.out.1,← HNE.out.2.1,← HNE.out.2.2] at h
    exact h
 case done =>
  intro D ys W hD hys hIW hK
  subst hys
  obtain ⟨ve,vo,vs,⟨bve,ove⟩,⟨bvo,ovo⟩,⟨bvs,ovs⟩,⟨apeo,apes,apos⟩,_,hB⟩:=hIW
  rw [finRange_map 2 fe] at ove
  rw [finRange_map 2 fo] at ovo
  rw [finRange_map 2 fs] at ovs
  obtain ⟨gs,cs,rfl,hcs,hgs⟩:∃ gs cs,vs=.slice (some ⟨gs,0,none⟩) 2 cs∧2≤cs∧w.heap.size≤gs∧gs < W.heap.size:=by
   obtain ⟨g,c1,e,h1,h2,h3⟩:=OwnN.head (n:=2) ovs (by simp [nW]) (by omega)
   exact ⟨g,c1,e,h1,h2,h3⟩
  have HRV:=hid (reverse_w gs cs 2 w.heap.size _ W ovs (by simp) (by omega) (by omega))
  have hc:=bvs.cell
  have HDN:=hid hK
  gi_wp2_with (refine ⟨trivial,?_⟩;gi_at_call 105;refine (callsIn_wide.2 HRV.out).mono ?_;rintro e w2 ⟨rfl,hr2,hgr2⟩)
  obtain ⟨ev,hev⟩:∃ ev,(List.range 2).map fe=ev:=⟨_,rfl⟩
  obtain ⟨od,hod⟩:∃ od,(List.range 2).map fo=od:=⟨_,rfl⟩
  have hle:ev.length=2:=by rw [← hev];simp
  have hlo:od.length=2:=by rw [← hod];simp
  rw [hev] at ove
  rw [hod] at ovo
  have hx2:Ext w w2:=hB.grown hgr2 hB.size (fun k e=>by cases e;exact hgs.1)
  obtain ⟨A1,c1,e1,_,r1,_⟩:=OwnN.rdc (n:=2) (ove.grown hgr2 apes) (by rw [nW_length];exact hle)
  obtain ⟨A2,c2,e2,_,r2,_⟩:=OwnN.rdc (n:=2) (ovo.grown hgr2 apos) (by rw [nW_length];exact hlo)
  have HB1:=hid (show Boxed w2 (S+1) 115 (.slice A1 2 c1) by rw [← e1];exact bve.kept hgr2 (bve.not_row (by decide) ovs))
  have HB2:=hid (show Boxed w2 (S+1+1) 115 (.slice A2 2 c2) by rw [← e2];exact bvo.kept hgr2 (bvo.not_row (by decide) ovs))
  have HB3:=hid (show Boxed w2 S 115 (.slice (some ⟨gs,0,none⟩) 2 cs) from bvs.kept hgr2 (bvs.not_row (by decide) ovs))
  have HR1:=hid r1
  have HR2:=hid r2
  have HGT:=hid (hG.later hx2)
  have HX2:=hid hx2
  have HRS:=hid hr2
  have HSW:=hid (show S≤w2.heap.size by have:=Below.size hx2;omega)
  have HD2:=hid (show w2.heap[D]? = some (.deferred (some [])) from (hgr2.block D (Array.getElem?_eq_some_iff.1 hK).1 (fun e=>by
   cases e
   exact own_cells ovs rfl hK rfl)).trans hK)
  have HDS:=hid (show w.heap.size≤D by omega)
  have HEO:=hid (And.intro hev hod)
  have HSS:=hid (show w.heap.size=S from HS.out)
  clear ove ovo ovs bve bvo bvs apeo apes apos hB hK HDN HRV hgr2 r1 r2 e1 e2 hx2 hr2 hev hod hc
  refine wpIn_wide.2 ?_
  refine region_upto 5 mixed rfl (by kernel_rfl) (by kernel_rfl) (by kernel_rfl) (kV (k13_2 S gs c1 c2 cs A1 A2 ev od)) (kV_keep _) (forall_ops ⟨?_,?_,?_,?_,?_,trivial⟩) ?_
  ·intro a w3 hk
   have s5:a.tmps.getD 5 undef=.pointer (some ⟨S+1,0,none⟩):=hk.was 5 (by kernel_rfl) rfl
   refine step_val (v:=.slice A1 2 c1) (w':=w3) rfl ?_ (Ext.refl w3) rfl
   have hc:=cell_at hk.ext HB1.out.cell
   go_simp
  ·intro a w3 hk
   have s6:a.tmps.getD 6 undef=.pointer (some ⟨S+1+1,0,none⟩):=hk.was 6 (by kernel_rfl) rfl
   refine step_val (v:=.slice A2 2 c2) (w':=w3) rfl ?_ (Ext.refl w3) rfl
   have hc:=cell_at hk.ext HB2.out.cell
   go_simp
  ·intro a w3 hk
   have s39:=hk.eq_ 0 39 (by kernel_rfl) rfl
   have s40:=hk.eq_ 1 40 (by kernel_rfl) rfl
   exact step_call rfl rfl (by simp only [List.map_toArray,List.map_cons,List.map_nil,Act.eval,s39,s40]<;>rfl) cf28 (spread_w A1 A2 2 c1 c2 ev od w3 (HGT.out.later hk.ext) (HR1.out.later hk.ext) (HR2.out.later hk.ext) (by omega) (by omega)) (fun e w1 h=>retW (Nat.le_trans HSW.out (Below.size hk.ext)) e w1 h)
  ·intro a w3 hk
   have s3:a.tmps.getD 3 undef=.pointer (some ⟨S,0,none⟩):=hk.was 3 (by kernel_rfl) rfl
   refine step_val (v:=.slice (some ⟨gs,0,none⟩) 2 cs) (w':=w3) rfl ?_ (Ext.refl w3) rfl
   have hc:=cell_at hk.ext HB3.out.cell
   go_simp
  ·intro a w3 hk
   obtain ⟨u41,s41,g41⟩:=hk.val 2 41 (by kernel_rfl) rfl
   exact step_assign rfl rfl s41 ⟨_,rfl,g41⟩
  ·intro a w7 hf
   have s39:=hf.eq_ 0 39 (by kernel_rfl) rfl
   have s40:=hf.eq_ 1 40 (by kernel_rfl) rfl
   obtain ⟨u41,s41,g41⟩:=hf.val 2 41 (by kernel_rfl) rfl
   have s42:=hf.eq_ 3 42 (by kernel_rfl) rfl
   obtain ⟨u2,s2,g2⟩:=hf.val 4 2 (by kernel_rfl) rfl
   have hx:=hf.ext
   have e:=hf.frame
   clear hf
   simp only [List.take_succ_cons,List.take_zero,regFrame,Act.put,List.setIfInBounds_toArray,List.set_cons_zero,List.set_cons_succ,s39,s40,s41,s42,s2] at e
   clear s39 s40 s41 s42 s2
   subst e
   simp only [List.drop_succ_cons,List.drop_zero]
   have hb7:=boxed_later HB3.out hx
   have hc:=hb7.cell
   have hf:=hb7.frozen
   have HX7:=hid (Ext.trans HX2.out hx)
   have HD7:=hid (show w7.heap[D]? = some (.deferred (some [])) from (Below.block hx D (Array.getElem?_eq_some_iff.1 HD2.out).1).trans HD2.out)
   have HS7:=hid (OwnN.kept HRS.out hx)
   have HB7:=hid hb7
   have HK7:=hid g2
   clear hx hb7 g2 g41
   go_wp2_with fail
   gi_wp2
   have hSD:S ≠ D:=fun e=>by
    subst e
    exact boxed_cells HB7.out HD7.out rfl
   have hK':(w7.setCell ⟨S,0,none⟩ (.slice (some ⟨gs,0,none⟩) 2 cs)).heap[D]? = some (.deferred (some [])):=(heap_setCell_other w7 ⟨S,0,none⟩ D _ (fun e=>hSD e.symm)).trans HD7.out
   refine ⟨by simp,.inl ⟨_,_,rfl,run_takeDeferred hK',?_⟩⟩
   have hb8:=HB7.out.set (.slice (some ⟨gs,0,none⟩) 2 cs)
   have hc5:=cell_kept hb8.cell (grownBy_putObj' _ D (.deferred none)) (fun r e=>by cases e;exact ⟨_,hK',rfl⟩)
   have hR1:=ownsRow_putObj (HK7.out.setBox HB7.out (by decide) (u:=.slice (some ⟨gs,0,none⟩) 2 cs)) (.deferred none) hK' rfl
   have hR2:=ownsRow_putObj (HS7.out.setBox HB7.out (by decide) (u:=.slice (some ⟨gs,0,none⟩) 2 cs)) (.deferred none) hK' rfl
   have hBel:Ext w ((w7.setCell ⟨S,0,none⟩ (.slice (some ⟨gs,0,none⟩) 2 cs)).putObj D (.deferred none)) :=
    ((show Below w.heap.size w w7 from HX7.out).setCell (p:=⟨S,0,none⟩) (by simp;have:=HSS.out;omega) _).trans (belowK_b (w:=w) (Nat.le_refl _) _ D _ _ HDS.out hK' rfl rfl)
   refine ⟨.tuple #[u2,.slice (some ⟨gs,0,none⟩) 2 cs,.int .i64 0],?_,u2,_,rfl,?_,hR2,hBel⟩
   ·simp [results,Tryz.f57,go_sem,hc5]
   ·rw [HSS.out]
    rw [← HEO.out.1,← HEO.out.2] at hR1
    exact hR1
 case stop =>
  intro D c pre W _ _ h _
  exact h.elim
def k13_3 (S gs c1 c2 cs:Nat) (A1 A2:Option Addr) (ev od:List UInt32):List K:=[.eq (.slice A1 3 c1),.eq (.slice A2 3 c2),.gen (WP S (kL ev od 20)) (WP.keep _ _),.eq (.slice (some ⟨gs,0,none⟩) 3 cs),.gen (WP S (kL ev od 20)) (WP.keep _ _),.any,.any]
set_option maxHeartbeats 4000000 in
theorem keys3_f (b o c:Nat) (fe fo fs:Nat→UInt32) (w:World) (hG:GT w) (hc:24≤c)
  (hga:∀ j,j < 3→∀ W,Ext w W→Calls Tryz.prog 58 #[.slice (some ⟨b,o+8*j,none⟩) 8 8] W (WRet W [fe j,fo j]))
  (hsh:∀ j,j < 3→∀ W,Ext w W→Calls Tryz.prog 104 #[.slice (some ⟨b,o+8*j,none⟩) 8 8] W fun e w'=>e=.returned (.int .u32 ((fs j).toNat:Nat))∧Ext W w') :
  Calls Tryz.prog 57 #[.slice (some ⟨b,o,none⟩) 24 c] w (KRet w (kL ((List.range 3).map fe) ((List.range 3).map fo) 20) ((List.range 3).map fs).reverse):=by
 refine (callsIn_wide (n:=9)).1 ?_
 refine callsIn_of_wp_marks Tryz.func57 rfl trivial ?_ rfl
 simp only [Tryz.ntmps57,List.size_toArray,List.length_cons,List.length_nil,Nat.reduceAdd,Nat.reduceSub,Array.replicate_succ,Array.replicate_zero,List.push_toArray,List.append_toArray,List.nil_append,List.cons_append]
 have HGA:=hid hga
 have HSH:=hid hsh
 clear hga hsh
 gi_wp2_with (first
  | (refine ⟨trivial,?_⟩;gi_at_call 103;refine (callsIn_wide.2 (chunk_any _ _ _ 8 _ (by omega))).mono ?_;rintro e w' ⟨rfl,rfl⟩))
 obtain ⟨sv,hsv⟩:∃ sv,Value.slice (some ⟨b,o,none⟩) 24 c=sv:=⟨_,rfl⟩
 rw [hsv]
 have b0:=Boxed.new w 115 (.slice none 0 0)
 have b1:=Boxed.new (w.alloc (.cells #[.slice none 0 0] 115)) 115 (.slice none 0 0)
 have b2:=Boxed.new ((w.alloc (.cells #[.slice none 0 0] 115)).alloc (.cells #[.slice none 0 0] 115)) 115 (.slice none 0 0)
 have b3:=Boxed.new (((w.alloc (.cells #[.slice none 0 0] 115)).alloc (.cells #[.slice none 0 0] 115)).alloc (.cells #[.slice none 0 0] 115)) 22 sv
 have b4:=Boxed.new ((((w.alloc (.cells #[.slice none 0 0] 115)).alloc (.cells #[.slice none 0 0] 115)).alloc (.cells #[.slice none 0 0] 115)).alloc (.cells #[sv] 22)) 3 (.int .i64 8)
 simp only [World.size_alloc] at b1 b2 b3 b4
 obtain ⟨W4,hW4⟩:∃ W4,((((w.alloc (.cells #[.slice none 0 0] 115)).alloc (.cells #[.slice none 0 0] 115)).alloc (.cells #[.slice none 0 0] 115)).alloc (.cells #[sv] 22)).alloc (.cells #[.int .i64 8] 3)=W4:=⟨_,rfl⟩
 have hs4:W4.heap.size=w.heap.size+5:=by rw [← hW4];simp
 have c0:Boxed W4 w.heap.size 115 (.slice none 0 0):=by rw [← hW4];exact (((b0.alloc _).alloc _).alloc _).alloc _
 have c1:Boxed W4 (w.heap.size+1) 115 (.slice none 0 0):=by rw [← hW4];exact ((b1.alloc _).alloc _).alloc _
 have c2:Boxed W4 (w.heap.size+1+1) 115 (.slice none 0 0):=by rw [← hW4];exact (b2.alloc _).alloc _
 have c3:Boxed W4 (w.heap.size+1+1+1) 22 sv:=by rw [← hW4];exact b3.alloc _
 have c4:Boxed W4 (w.heap.size+1+1+1+1) 3 (.int .i64 8):=by rw [← hW4];exact b4
 have hB4:Below w.heap.size w W4:=by
  rw [← hW4]
  exact (((((Below.refl _ w).alloc (Nat.le_refl _) _).alloc (by simp) _).alloc (by simp;omega) _).alloc (by simp;omega) _).alloc (by simp;omega) _
 rw [hW4]
 obtain ⟨S,hS⟩:∃ S,w.heap.size=S:=⟨_,rfl⟩
 rw [hS] at c0 c1 c2 c3 c4 hs4 ⊢
 have HB4:=hid hB4
 have HCC:=hid (And.intro c0 (And.intro c1 (And.intro c2 (And.intro c3 c4))))
 have HS:=hid hS
 clear hW4 b0 b1 b2 b3 b4 c0 c1 c2 hB4
 have hcs:W4.cell? ⟨S+1+1+1,0,none⟩=some (.slice (some ⟨b,o,none⟩) (8*3:Nat) c):=by rw [c3.cell,← hsv]
 have hcn:=c4.cell
 have hq1:S+1+1+1 < W4.heap.size:=by omega
 have hq2:S+1+1+1+1 < W4.heap.size:=by omega
 have hq3:w.heap.size≤W4.heap.size:=by omega
 have hseq:=chunk_stops (9 - 1) (S+1+1+1) (S+1+1+1+1) w.heap.size b o 8 3 c (by omega) (by omega) (by omega) (by omega) (by omega) W4 hq1 hq2 hcs hcn
 have hown:=@ki_own 3 fe fo fs w W4 S sv hq3
 have hI0:KI 3 fe fo fs w S sv [] W4:=⟨_,_,_,⟨HCC.out.2.1,World.ownsRow_nil _ _ _ _⟩,⟨HCC.out.2.2.1,World.ownsRow_nil _ _ _ _⟩,⟨HCC.out.1,World.ownsRow_nil _ _ _ _⟩,⟨(fun q h=>by cases h),(fun q h=>by cases h),(fun q h=>by cases h)⟩,HCC.out.2.2.2,HB4.out⟩
 have hkb:=@kpC_b w.heap.size (S+1+1+1) (S+1+1+1+1) W4 hq3 hq1 hq2
 clear hcs hcn c3 c4
 refine wpIn_rangeFunc_ownG (Kp:=KpC w.heap.size (S+1+1+1) (S+1+1+1+1)) rfl (by omega) (gf:=165) (lb:=#[.pointer (some ⟨S+1+1+1,0,none⟩),.pointer (some ⟨S+1+1+1+1,0,none⟩)]) rfl trivial (enters_of Tryz.func165 (by kernel_rfl) rfl)
  hseq kpC_t hkb (Below.refl _ _) (fun _=>rfl) (KI 3 fe fo fs w S sv) (fun _ _ _=>False) hown (fun _ _ _ _ _ hs _ _=>hs) hI0
  (fun x=>{ tmps:=#[sv,undef,.slice none 0 0,.pointer (some ⟨S,0,none⟩),.int .i64 0,.pointer (some ⟨S+1,0,none⟩),.pointer (some ⟨S+1+1,0,none⟩),.slice (some ⟨b,o+8*x.1,none⟩) 8 8,undef,sv,.int .i64 24,.bool true,.bool false,.bool true,undef,sv,.func (.func 165) #[] #[.pointer (some ⟨S+1+1+1,0,none⟩),.pointer (some ⟨S+1+1+1+1,0,none⟩)],.slice (some ⟨b,o+8*x.1,none⟩) 8 8,undef,undef,undef,undef,undef,undef,undef,undef,undef,undef,undef,undef,undef,undef,undef,undef,undef,undef,undef,undef,undef,undef,undef,undef,undef],defers:=[] }) ?assign ?body ?done ?stop
 case assign =>
  intro l x W K hK
  gi_wp2
  exact hK
 case body =>
  intro l pre x W hIW hlt
  obtain ⟨ve,vo,vs,⟨bve,ove⟩,⟨bvo,ovo⟩,⟨bvs,ovs⟩,⟨apeo,apes,apos⟩,⟨bbs,bbn⟩,hB⟩:=hIW
  have hga:=HGA.out x.1 x.2
  have hsh:=HSH.out x.1 x.2
  gi_wp2_with (refine ⟨trivial,?_⟩;gi_at_call 58;refine (CallsIn.inRound l (callsIn_wide.2 (hga W hB))).mono ?_;rintro e w1 ⟨v8,rfl,ho8,hx1⟩)
  obtain ⟨gb,cb,rfl,hcb,hgb⟩:∃ gb cb,v8=.slice (some ⟨gb,0,none⟩) 2 cb∧2≤cb∧W.heap.size≤gb∧gb < w1.heap.size:=by
   obtain ⟨g,c1,e,h1,h2,h3⟩:=OwnN.head (n:=2) ho8 rfl (by omega)
   exact ⟨g,c1,e,h1,h2,h3⟩
  have x0c:=OwnN.celln ho8 rfl 0 (by simp)
  have x1c:=OwnN.celln ho8 rfl 1 (by simp)
  obtain ⟨x0,hx0⟩:∃ x0,fe x.1=x0:=⟨_,rfl⟩
  obtain ⟨x1,hx1e⟩:∃ x1,fo x.1=x1:=⟨_,rfl⟩
  obtain ⟨xs2,hxs2⟩:∃ xs2,fs x.1=xs2:=⟨_,rfl⟩
  have hx0c:w1.cell? ⟨gb,0,none⟩=some (.int .u32 (x0.toNat:Nat)):=by rw [← hx0];exact x0c
  have hx1c:w1.cell? ⟨gb,1,none⟩=some (.int .u32 (x1.toNat:Nat)):=by rw [← hx1e];exact x1c
  obtain ⟨xe,hxe⟩:∃ xe,nW (pre.map fun j=>fe j.1)=xe:=⟨_,rfl⟩
  obtain ⟨xo,hxo⟩:∃ xo,nW (pre.map fun j=>fo j.1)=xo:=⟨_,rfl⟩
  obtain ⟨xv,hxv⟩:∃ xv,nW (pre.map fun j=>fs j.1)=xv:=⟨_,rfl⟩
  have hxel:xe.length=pre.length:=by rw [← hxe];simp [nW]
  have hxol:xo.length=pre.length:=by rw [← hxo];simp [nW]
  have hxvl:xv.length=pre.length:=by rw [← hxv];simp [nW]
  have hne:nW ((pre++[x]).map fun j=>fe j.1)=xe++[((x0.toNat:Nat):Int)]:=by rw [List.map_append,nW_append,hxe,← hx0];rfl
  have hno:nW ((pre++[x]).map fun j=>fo j.1)=xo++[((x1.toNat:Nat):Int)]:=by rw [List.map_append,nW_append,hxo,← hx1e];rfl
  have hnv:nW ((pre++[x]).map fun j=>fs j.1)=xv++[((xs2.toNat:Nat):Int)]:=by rw [List.map_append,nW_append,hxv,← hxs2];rfl
  rw [hxe] at ove
  rw [hxo] at ovo
  rw [hxv] at ovs
  rw [hxs2] at hsh
  have hNB:∀ {q t u},Boxed W q t u→t ≠ 118→¬ XR ve vo q:=fun hb ht h=>by
   rcases h with h | h
   ·exact hb.not_row ht ove h.symm
   ·exact hb.not_row ht ovo h.symm
  have HJA:=hid (show ∀ w2,(I1K (XR ve vo) W gb x0 x1 w.heap.size ve xe vo xo w2∨I2K (XR ve vo) W gb x0 x1 w.heap.size vo xo w2)→I2K (XR ve vo) W gb x0 x1 w.heap.size vo xo w2 from fun w2 h=>h.elim (fun h=>h.i2) id)
  have HJE:=hid (show ∀ w2,(I1K (XR ve vo) W gb x0 x1 w.heap.size ve xe vo xo w2∨I2K (XR ve vo) W gb x0 x1 w.heap.size vo xo w2)→Boxed w2 (S+1) 115 ve from fun w2 h=>(HJA.out w2 h).fr.boxed bve (hNB bve (by decide)))
  have HJO:=hid (show ∀ w2,(I1K (XR ve vo) W gb x0 x1 w.heap.size ve xe vo xo w2∨I2K (XR ve vo) W gb x0 x1 w.heap.size vo xo w2)→Boxed w2 (S+1+1) 115 vo from fun w2 h=>(HJA.out w2 h).fr.boxed bvo (hNB bvo (by decide)))
  have HJ0:=hid (fun w2 h=>(HJA.out w2 h).c0)
  have HJ1:=hid (fun w2 h=>(HJA.out w2 h).c1)
  have HJN:=hid (fun w2 h=>(HJA.out w2 h).fr.size)
  have HI1:=hid (show I1K (XR ve vo) W gb x0 x1 w.heap.size ve xe vo xo w1 from ⟨⟨Fr.refl.ext hx1,hx0c,hx1c,ovo.kept hx1⟩,ove.kept hx1⟩)
  have HXE:=hid (show ∀ q,ve.ownBlock=some q→XR ve vo q from fun q h=>.inl h)
  have HGB:=hid hgb.1
  have HLE:=hid (show ∀ q,ve.ownBlock=some q→q < W.heap.size from fun q h=>(ove.lt q h).2)
  have HLO:=hid (show ∀ q,vo.ownBlock=some q→q < W.heap.size from fun q h=>(ovo.lt q h).2)
  have HLV:=hid (show ∀ q,vs.ownBlock=some q→q < W.heap.size from fun q h=>(ovs.lt q h).2)
  have HAP:=hid apeo
  have HL:=hid (show xe.length≤1000∧xo.length≤1000∧xv.length≤1000 by omega)
  have HN:=hid hB.size
  have HNE:=hid (And.intro hne (And.intro hno hnv))
  have HAPS:=hid (And.intro apes apos)
  have HBX:=hid (And.intro bve (And.intro bvo (And.intro bvs (And.intro bbs bbn))))
  have HOV:=hid (And.intro ove (And.intro ovo ovs))
  have HBB:=hid hB
  have HSZ:=hid (show w.heap.size=S from HS.out)
  have HSHR:=hid hsh
  have HX1:=hid hx1
  clear hga hsh hxel hxol hxvl hne hno hnv hxe hxo hxv hx0 hx1e hxs2 x0c x1c hx0c hx1c hNB HJA ho8 hx1 bve bvo bvs bbs bbn ove ovo ovs apeo apes apos hB hlt
  gi_wp2
  refine region_ou_in 11 5 _ (I1K (XR ve vo) W gb x0 x1 w.heap.size ve xe vo xo) (I2K (XR ve vo) W gb x0 x1 w.heap.size vo xo) mixed (fun ⟨_,_,hl⟩=>hl) (by kernel_rfl) rfl (by kernel_rfl) (by kernel_rfl) (by kernel_rfl) (by omega) rfl rfl (kV (k10 w W gb cb x0 x1 ve vo xe)) (kV_keep _) (fun _ _=>I1K.ext) (fun _ _=>I2K.ext) HI1.out (forall_ops ⟨?_,?_,?_,?_,?_,?_,?_,?_,?_,?_,?_,trivial⟩) ?_ ?_
  ·intro _ a w3 hk hI
   have s5:a.tmps.getD 5 undef=.pointer (some ⟨S+1,0,none⟩):=hk.was 5 (by kernel_rfl) rfl
   refine step_val (v:=ve) (w':=w3) rfl ?_ (Ext.refl w3) rfl
   have hc:=(HJE.out _ hI).cell
   go_simp
  ·intro _ a w3 hk hI
   have s8:a.tmps.getD 8 undef=.slice (some ⟨gb,0,none⟩) 2 cb:=hk.was 8 (by kernel_rfl) rfl
   exact step_move rfl rfl s8 rfl
  ·intro _ a w3 hk hI
   have s21:=hk.eq_ 1 21 (by kernel_rfl) rfl
   refine step_val (v:=.pointer (some ⟨gb,0,none⟩)) (w':=w3) rfl ?_ (Ext.refl w3) rfl
   go_simp
  ·intro _ a w3 hk hI
   have s22:=hk.eq_ 2 22 (by kernel_rfl) rfl
   refine step_val (v:=.int .u32 (x0.toNat:Nat)) (w':=w3) rfl ?_ (Ext.refl w3) rfl
   have hc:=HJ0.out _ hI
   go_simp
  ·intro _ a w3 hk hI
   have s23:=hk.eq_ 3 23 (by kernel_rfl) rfl
   refine step_val (v:=.slice (some ⟨w3.heap.size,0,none⟩) 1 1) (w':=w3.alloc (.cells #[.int .u32 (x0.toNat:Nat)] 118)) rfl ?_ (Ext.alloc _ _) ⟨_,rfl,(HJN.out _ hI),by rw [cell_of_row _ _ _ _ _ _ (heap_alloc_new _ _)];rfl⟩
   have e:=build24 (x0.toNat:Nat) w3
   simp only [execOp,Act.eval,List.map_toArray,List.map_cons,List.map_nil,s23,Sem.run_bind,e,Sem.run_pure,Result.andThen]
  ·intro h;exact absurd rfl h
  ·intro _ a w3 hk hI
   have s6:a.tmps.getD 6 undef=.pointer (some ⟨S+1+1,0,none⟩):=hk.was 6 (by kernel_rfl) rfl
   refine step_val (v:=vo) (w':=w3) rfl ?_ (Ext.refl w3) rfl
   have hc:=(HJO.out _ hI).cell
   go_simp
  ·intro _ a w3 hk hI
   have s8:a.tmps.getD 8 undef=.slice (some ⟨gb,0,none⟩) 2 cb:=hk.was 8 (by kernel_rfl) rfl
   exact step_move rfl rfl s8 rfl
  ·intro _ a w3 hk hI
   have s27:=hk.eq_ 7 27 (by kernel_rfl) rfl
   refine step_val (v:=.pointer (some ⟨gb,1,none⟩)) (w':=w3) rfl ?_ (Ext.refl w3) rfl
   go_simp
  ·intro _ a w3 hk hI
   have s28:=hk.eq_ 8 28 (by kernel_rfl) rfl
   refine step_val (v:=.int .u32 (x1.toNat:Nat)) (w':=w3) rfl ?_ (Ext.refl w3) rfl
   have hc:=HJ1.out _ hI
   go_simp
  ·intro _ a w3 hk hI
   have s29:=hk.eq_ 9 29 (by kernel_rfl) rfl
   refine step_val (v:=.slice (some ⟨w3.heap.size,0,none⟩) 1 1) (w':=w3.alloc (.cells #[.int .u32 (x1.toNat:Nat)] 118)) rfl ?_ (Ext.alloc _ _) ⟨_,rfl,(HJN.out _ hI),by rw [cell_of_row _ _ _ _ _ _ (heap_alloc_new _ _)];rfl⟩
   have e:=build24 (x1.toNat:Nat) w3
   simp only [execOp,Act.eval,List.map_toArray,List.map_cons,List.map_nil,s29,Sem.run_bind,e,Sem.run_pure,Result.andThen]
  ·intro a w3 hk hI
   have s20:=hk.eq_ 0 20 (by kernel_rfl) rfl
   obtain ⟨t24,s24,h24,g24⟩:=hk.val 4 24 (by kernel_rfl) rfl
   refine wp_app (.tmp 20) (.tmp 24) rfl s20 hI.own s24 HL.out.1 g24 (Nat.le_trans HN.out hI.i2.fr.size) ?_
   intro g cap w4 hown hgr hg
   have hg2:some g=ve.ownBlock∨W.heap.size≤g:=hg.imp id (fun h=>Nat.le_trans hI.i2.fr.size h)
   refine ⟨_,rfl,hI.write hgr HXE.out HGB.out HLE.out HAP.out,⟨g,cap,rfl,hg2,hown⟩,fun i v hne hv=>?_⟩
   exact k10_keep hgr HLE.out i v hne hv
  ·intro a w3 hf hI2
   have s20:=hf.eq_ 0 20 (by kernel_rfl) rfl
   have s21:=hf.eq_ 1 21 (by kernel_rfl) rfl
   have s22:=hf.eq_ 2 22 (by kernel_rfl) rfl
   have s23:=hf.eq_ 3 23 (by kernel_rfl) rfl
   obtain ⟨t24,s24,h24,g24⟩:=hf.val 4 24 (by kernel_rfl) rfl
   obtain ⟨g25,c25,s25,h25,o25⟩:=hf.val 5 25 (by kernel_rfl) rfl
   have s26:=hf.eq_ 6 26 (by kernel_rfl) rfl
   have s27:=hf.eq_ 7 27 (by kernel_rfl) rfl
   have s28:=hf.eq_ 8 28 (by kernel_rfl) rfl
   have s29:=hf.eq_ 9 29 (by kernel_rfl) rfl
   obtain ⟨t30,s30,h30,g30⟩:=hf.val 10 30 (by kernel_rfl) rfl
   have hx:=hf.ext
   have e:=hf.frame
   clear hf
   simp only [List.take_succ_cons,List.take_zero,regFrame,Act.put,List.setIfInBounds_toArray,List.set_cons_zero,List.set_cons_succ,s20,s21,s22,s23,s24,s25,s26,s27,s28,s29,s30] at e
   clear s20 s21 s22 s23 s24 s25 s26 s27 s28 s29 s30
   subst e
   simp only [List.drop_succ_cons,List.drop_zero]
   have HO25:=hid o25
   have HI2:=hid hI2
   have HJE3:=hid (HJE.out _ (.inr hI2))
   have HJO3:=hid (HJO.out _ (.inr hI2))
   have HN3:=hid hI2.fr.size
   clear o25 hI2 hx h24 g24 h30
   go_wp2_with (refine wpList_app rfl (.tmp 26) (.tmp 30) rfl rfl HI2.out.own rfl HL.out.2.1 g30 (Nat.le_trans HN.out HN3.out) ?_;intro g31 c31 w4 o31 hgr31 hg31;have be4:=HJE3.out.kept hgr31 (HBX.out.1.not_row (by decide) HOV.out.2.1);have bo4:=HJO3.out.kept hgr31 (HBX.out.2.1.not_row (by decide) HOV.out.2.1);have bo5:=bo4.other (show S+1+1 ≠ S+1 by omega) (.slice (some ⟨g25,0,none⟩) (xe.length+1) c25);have hc1:=be4.cell;have hf1:=be4.frozen;have hc2:=bo5.cell;have hf2:=bo5.frozen)
   have HA:=hid (a10_make HI2.out.fr HBX.out HOV.out HAP.out HAPS.out HO25.out h25 o31 hgr31 (hg31.imp id id) HN3.out HN.out be4 bo4)
   clear o31 hgr31 hg31 be4 bo4 bo5 hc1 hf1 hc2 hf2 g30
   obtain ⟨W6,hW6⟩:∃ W6,(w4.setCell ⟨S+1,0,none⟩ (.slice (some ⟨g25,0,none⟩) (xe.length+1) c25)).setCell ⟨S+1+1,0,none⟩ (.slice (some ⟨g31,0,none⟩) (xo.length+1) c31)=W6:=⟨_,rfl⟩
   rw [hW6] at HA ⊢
   clear hW6
   gi_wp2
   have HW6:=hid (HA.out.fr.below HBB.out HN.out (yr_base HBX.out HOV.out HN.out HSZ.out))
   refine region_upto_in 4 mixed (fun ⟨_,_,hl⟩=>hl) (by kernel_rfl) rfl (by kernel_rfl) (by kernel_rfl) (by kernel_rfl) (kV (k11 b (o+8*x.1) xs2 vs)) (kV_keep _) (forall_ops ⟨?_,?_,?_,?_,trivial⟩) ?_
   ·intro a w3 hk
    have s3:a.tmps.getD 3 undef=.pointer (some ⟨S,0,none⟩):=hk.was 3 (by kernel_rfl) rfl
    refine step_val (v:=vs) (w':=w3) rfl ?_ (Ext.refl w3) rfl
    have hc:=cell_at hk.ext HA.out.bs.cell
    go_simp
   ·intro a w3 hk
    have s7:a.tmps.getD 7 undef=.slice (some ⟨b,o+8*x.1,none⟩) 8 8:=hk.was 7 (by kernel_rfl) rfl
    exact step_move rfl rfl s7 rfl
   ·intro a w3 hk
    have s33:=hk.eq_ 1 33 (by kernel_rfl) rfl
    exact step_call rfl rfl (by simp only [List.map_toArray,List.map_cons,List.map_nil,Act.eval,s33]<;>rfl) cf26 (HSHR.out w3 (Ext.trans HW6.out hk.ext)) (fun e w1 h=>by obtain ⟨rfl,hx⟩:=h;exact ⟨_,rfl,hx,rfl⟩)
   ·intro a w3 hk
    have s34:=hk.eq_ 2 34 (by kernel_rfl) rfl
    refine step_val (v:=.slice (some ⟨w3.heap.size,0,none⟩) 1 1) (w':=w3.alloc (.cells #[.int .u32 (xs2.toNat:Nat)] 118)) rfl ?_ (Ext.alloc _ _) ⟨_,rfl,Nat.zero_le _,by rw [cell_of_row _ _ _ _ _ _ (heap_alloc_new _ _)];rfl⟩
    have e:=build24 (xs2.toNat:Nat) w3
    simp only [execOp,Act.eval,List.map_toArray,List.map_cons,List.map_nil,s34,Sem.run_bind,e,Sem.run_pure,Result.andThen]
   ·intro a w7 hf
    have s32:=hf.eq_ 0 32 (by kernel_rfl) rfl
    have s33:=hf.eq_ 1 33 (by kernel_rfl) rfl
    have s34:=hf.eq_ 2 34 (by kernel_rfl) rfl
    obtain ⟨t35,s35,h35,g35⟩:=hf.val 3 35 (by kernel_rfl) rfl
    have hx:=hf.ext
    have e:=hf.frame
    clear hf
    simp only [List.take_succ_cons,List.take_zero,regFrame,Act.put,List.setIfInBounds_toArray,List.set_cons_zero,List.set_cons_succ,s32,s33,s34,s35] at e
    clear s32 s33 s34 s35
    subst e
    simp only [List.drop_succ_cons,List.drop_zero]
    have HA7:=hid (HA.out.ext hx)
    clear hx h35
    go_wp2_with (refine wpList_app rfl (.tmp 32) (.tmp 35) rfl rfl HA7.out.os rfl HL.out.2.2 g35 (Nat.le_trans HN.out HA7.out.fr.size) ?_;intro g36 c36 w8 o36 hgr36 hg36;have bs8:=HA7.out.bs.kept hgr36 (HA7.out.bs.not_row (by decide) HA7.out.os);have hc1:=bs8.cell;have hf1:=bs8.frozen)
    have HE:=round_end HA7.out HBX.out HOV.out HAPS.out HBB.out HSZ.out HN.out o36 hgr36 hg36 bs8 W4.heap.size
    refine ⟨HE.1,HE.2.1,?_⟩
    have h:=HE.2.2
    rw [← HNE.out.1,← HNE.out.2.1,← HNE.out.2.2] at h
    exact h
 case done =>
  intro D ys W hD hys hIW hK
  subst hys
  obtain ⟨ve,vo,vs,⟨bve,ove⟩,⟨bvo,ovo⟩,⟨bvs,ovs⟩,⟨apeo,apes,apos⟩,_,hB⟩:=hIW
  rw [finRange_map 3 fe] at ove
  rw [finRange_map 3 fo] at ovo
  rw [finRange_map 3 fs] at ovs
  obtain ⟨gs,cs,rfl,hcs,hgs⟩:∃ gs cs,vs=.slice (some ⟨gs,0,none⟩) 3 cs∧3≤cs∧w.heap.size≤gs∧gs < W.heap.size:=by
   obtain ⟨g,c1,e,h1,h2,h3⟩:=OwnN.head (n:=3) ovs (by simp [nW]) (by omega)
   exact ⟨g,c1,e,h1,h2,h3⟩
  have HRV:=hid (reverse_w gs cs 3 w.heap.size _ W ovs (by simp) (by omega) (by omega))
  have hc:=bvs.cell
  have HDN:=hid hK
  gi_wp2_with (refine ⟨trivial,?_⟩;gi_at_call 105;refine (callsIn_wide.2 HRV.out).mono ?_;rintro e w2 ⟨rfl,hr2,hgr2⟩)
  obtain ⟨ev,hev⟩:∃ ev,(List.range 3).map fe=ev:=⟨_,rfl⟩
  obtain ⟨od,hod⟩:∃ od,(List.range 3).map fo=od:=⟨_,rfl⟩
  have hle:ev.length=3:=by rw [← hev];simp
  have hlo:od.length=3:=by rw [← hod];simp
  rw [hev] at ove
  rw [hod] at ovo
  have hx2:Ext w w2:=hB.grown hgr2 hB.size (fun k e=>by cases e;exact hgs.1)
  obtain ⟨A1,c1,e1,_,r1,_⟩:=OwnN.rdc (n:=3) (ove.grown hgr2 apes) (by rw [nW_length];exact hle)
  obtain ⟨A2,c2,e2,_,r2,_⟩:=OwnN.rdc (n:=3) (ovo.grown hgr2 apos) (by rw [nW_length];exact hlo)
  have HB1:=hid (show Boxed w2 (S+1) 115 (.slice A1 3 c1) by rw [← e1];exact bve.kept hgr2 (bve.not_row (by decide) ovs))
  have HB2:=hid (show Boxed w2 (S+1+1) 115 (.slice A2 3 c2) by rw [← e2];exact bvo.kept hgr2 (bvo.not_row (by decide) ovs))
  have HB3:=hid (show Boxed w2 S 115 (.slice (some ⟨gs,0,none⟩) 3 cs) from bvs.kept hgr2 (bvs.not_row (by decide) ovs))
  have HR1:=hid r1
  have HR2:=hid r2
  have HGT:=hid (hG.later hx2)
  have HX2:=hid hx2
  have HRS:=hid hr2
  have HSW:=hid (show S≤w2.heap.size by have:=Below.size hx2;omega)
  have HD2:=hid (show w2.heap[D]? = some (.deferred (some [])) from (hgr2.block D (Array.getElem?_eq_some_iff.1 hK).1 (fun e=>by
   cases e
   exact own_cells ovs rfl hK rfl)).trans hK)
  have HDS:=hid (show w.heap.size≤D by omega)
  have HEO:=hid (And.intro hev hod)
  have HSS:=hid (show w.heap.size=S from HS.out)
  clear ove ovo ovs bve bvo bvs apeo apes apos hB hK HDN HRV hgr2 r1 r2 e1 e2 hx2 hr2 hev hod hc
  refine wpIn_wide.2 ?_
  refine region_upto 5 mixed rfl (by kernel_rfl) (by kernel_rfl) (by kernel_rfl) (kV (k13_3 S gs c1 c2 cs A1 A2 ev od)) (kV_keep _) (forall_ops ⟨?_,?_,?_,?_,?_,trivial⟩) ?_
  ·intro a w3 hk
   have s5:a.tmps.getD 5 undef=.pointer (some ⟨S+1,0,none⟩):=hk.was 5 (by kernel_rfl) rfl
   refine step_val (v:=.slice A1 3 c1) (w':=w3) rfl ?_ (Ext.refl w3) rfl
   have hc:=cell_at hk.ext HB1.out.cell
   go_simp
  ·intro a w3 hk
   have s6:a.tmps.getD 6 undef=.pointer (some ⟨S+1+1,0,none⟩):=hk.was 6 (by kernel_rfl) rfl
   refine step_val (v:=.slice A2 3 c2) (w':=w3) rfl ?_ (Ext.refl w3) rfl
   have hc:=cell_at hk.ext HB2.out.cell
   go_simp
  ·intro a w3 hk
   have s39:=hk.eq_ 0 39 (by kernel_rfl) rfl
   have s40:=hk.eq_ 1 40 (by kernel_rfl) rfl
   exact step_call rfl rfl (by simp only [List.map_toArray,List.map_cons,List.map_nil,Act.eval,s39,s40]<;>rfl) cf28 (spread_w A1 A2 3 c1 c2 ev od w3 (HGT.out.later hk.ext) (HR1.out.later hk.ext) (HR2.out.later hk.ext) (by omega) (by omega)) (fun e w1 h=>retW (Nat.le_trans HSW.out (Below.size hk.ext)) e w1 h)
  ·intro a w3 hk
   have s3:a.tmps.getD 3 undef=.pointer (some ⟨S,0,none⟩):=hk.was 3 (by kernel_rfl) rfl
   refine step_val (v:=.slice (some ⟨gs,0,none⟩) 3 cs) (w':=w3) rfl ?_ (Ext.refl w3) rfl
   have hc:=cell_at hk.ext HB3.out.cell
   go_simp
  ·intro a w3 hk
   obtain ⟨u41,s41,g41⟩:=hk.val 2 41 (by kernel_rfl) rfl
   exact step_assign rfl rfl s41 ⟨_,rfl,g41⟩
  ·intro a w7 hf
   have s39:=hf.eq_ 0 39 (by kernel_rfl) rfl
   have s40:=hf.eq_ 1 40 (by kernel_rfl) rfl
   obtain ⟨u41,s41,g41⟩:=hf.val 2 41 (by kernel_rfl) rfl
   have s42:=hf.eq_ 3 42 (by kernel_rfl) rfl
   obtain ⟨u2,s2,g2⟩:=hf.val 4 2 (by kernel_rfl) rfl
   have hx:=hf.ext
   have e:=hf.frame
   clear hf
   simp only [List.take_succ_cons,List.take_zero,regFrame,Act.put,List.setIfInBounds_toArray,List.set_cons_zero,List.set_cons_succ,s39,s40,s41,s42,s2] at e
   clear s39 s40 s41 s42 s2
   subst e
   simp only [List.drop_succ_cons,List.drop_zero]
   have hb7:=boxed_later HB3.out hx
   have hc:=hb7.cell
   have hf:=hb7.frozen
   have HX7:=hid (Ext.trans HX2.out hx)
   have HD7:=hid (show w7.heap[D]? = some (.deferred (some [])) from (Below.block hx D (Array.getElem?_eq_some_iff.1 HD2.out).1).trans HD2.out)
   have HS7:=hid (OwnN.kept HRS.out hx)
   have HB7:=hid hb7
   have HK7:=hid g2
   clear hx hb7 g2 g41
   go_wp2_with fail
   gi_wp2
   have hSD:S ≠ D:=fun e=>by
    subst e
    exact boxed_cells HB7.out HD7.out rfl
   have hK':(w7.setCell ⟨S,0,none⟩ (.slice (some ⟨gs,0,none⟩) 3 cs)).heap[D]? = some (.deferred (some [])):=(heap_setCell_other w7 ⟨S,0,none⟩ D _ (fun e=>hSD e.symm)).trans HD7.out
   refine ⟨by simp,.inl ⟨_,_,rfl,run_takeDeferred hK',?_⟩⟩
   have hb8:=HB7.out.set (.slice (some ⟨gs,0,none⟩) 3 cs)
   have hc5:=cell_kept hb8.cell (grownBy_putObj' _ D (.deferred none)) (fun r e=>by cases e;exact ⟨_,hK',rfl⟩)
   have hR1:=ownsRow_putObj (HK7.out.setBox HB7.out (by decide) (u:=.slice (some ⟨gs,0,none⟩) 3 cs)) (.deferred none) hK' rfl
   have hR2:=ownsRow_putObj (HS7.out.setBox HB7.out (by decide) (u:=.slice (some ⟨gs,0,none⟩) 3 cs)) (.deferred none) hK' rfl
   have hBel:Ext w ((w7.setCell ⟨S,0,none⟩ (.slice (some ⟨gs,0,none⟩) 3 cs)).putObj D (.deferred none)) :=
    ((show Below w.heap.size w w7 from HX7.out).setCell (p:=⟨S,0,none⟩) (by simp;have:=HSS.out;omega) _).trans (belowK_b (w:=w) (Nat.le_refl _) _ D _ _ HDS.out hK' rfl rfl)
   refine ⟨.tuple #[u2,.slice (some ⟨gs,0,none⟩) 3 cs,.int .i64 0],?_,u2,_,rfl,?_,hR2,hBel⟩
   ·simp [results,Tryz.f57,go_sem,hc5]
   ·rw [HSS.out]
    rw [← HEO.out.1,← HEO.out.2] at hR1
    exact hR1
 case stop =>
  intro D c pre W _ _ h _
  exact h.elim
def k13_4 (S gs c1 c2 cs:Nat) (A1 A2:Option Addr) (ev od:List UInt32):List K:=[.eq (.slice A1 4 c1),.eq (.slice A2 4 c2),.gen (WP S (kL ev od 20)) (WP.keep _ _),.eq (.slice (some ⟨gs,0,none⟩) 4 cs),.gen (WP S (kL ev od 20)) (WP.keep _ _),.any,.any]
set_option maxHeartbeats 4000000 in
theorem keys4_f (b o c:Nat) (fe fo fs:Nat→UInt32) (w:World) (hG:GT w) (hc:32≤c)
  (hga:∀ j,j < 4→∀ W,Ext w W→Calls Tryz.prog 58 #[.slice (some ⟨b,o+8*j,none⟩) 8 8] W (WRet W [fe j,fo j]))
  (hsh:∀ j,j < 4→∀ W,Ext w W→Calls Tryz.prog 104 #[.slice (some ⟨b,o+8*j,none⟩) 8 8] W fun e w'=>e=.returned (.int .u32 ((fs j).toNat:Nat))∧Ext W w') :
  Calls Tryz.prog 57 #[.slice (some ⟨b,o,none⟩) 32 c] w (KRet w (kL ((List.range 4).map fe) ((List.range 4).map fo) 20) ((List.range 4).map fs).reverse):=by
 refine (callsIn_wide (n:=9)).1 ?_
 refine callsIn_of_wp_marks Tryz.func57 rfl trivial ?_ rfl
 simp only [Tryz.ntmps57,List.size_toArray,List.length_cons,List.length_nil,Nat.reduceAdd,Nat.reduceSub,Array.replicate_succ,Array.replicate_zero,List.push_toArray,List.append_toArray,List.nil_append,List.cons_append]
 have HGA:=hid hga
 have HSH:=hid hsh
 clear hga hsh
 gi_wp2_with (first
  | (refine ⟨trivial,?_⟩;gi_at_call 103;refine (callsIn_wide.2 (chunk_any _ _ _ 8 _ (by omega))).mono ?_;rintro e w' ⟨rfl,rfl⟩))
 obtain ⟨sv,hsv⟩:∃ sv,Value.slice (some ⟨b,o,none⟩) 32 c=sv:=⟨_,rfl⟩
 rw [hsv]
 have b0:=Boxed.new w 115 (.slice none 0 0)
 have b1:=Boxed.new (w.alloc (.cells #[.slice none 0 0] 115)) 115 (.slice none 0 0)
 have b2:=Boxed.new ((w.alloc (.cells #[.slice none 0 0] 115)).alloc (.cells #[.slice none 0 0] 115)) 115 (.slice none 0 0)
 have b3:=Boxed.new (((w.alloc (.cells #[.slice none 0 0] 115)).alloc (.cells #[.slice none 0 0] 115)).alloc (.cells #[.slice none 0 0] 115)) 22 sv
 have b4:=Boxed.new ((((w.alloc (.cells #[.slice none 0 0] 115)).alloc (.cells #[.slice none 0 0] 115)).alloc (.cells #[.slice none 0 0] 115)).alloc (.cells #[sv] 22)) 3 (.int .i64 8)
 simp only [World.size_alloc] at b1 b2 b3 b4
 obtain ⟨W4,hW4⟩:∃ W4,((((w.alloc (.cells #[.slice none 0 0] 115)).alloc (.cells #[.slice none 0 0] 115)).alloc (.cells #[.slice none 0 0] 115)).alloc (.cells #[sv] 22)).alloc (.cells #[.int .i64 8] 3)=W4:=⟨_,rfl⟩
 have hs4:W4.heap.size=w.heap.size+5:=by rw [← hW4];simp
 have c0:Boxed W4 w.heap.size 115 (.slice none 0 0):=by rw [← hW4];exact (((b0.alloc _).alloc _).alloc _).alloc _
 have c1:Boxed W4 (w.heap.size+1) 115 (.slice none 0 0):=by rw [← hW4];exact ((b1.alloc _).alloc _).alloc _
 have c2:Boxed W4 (w.heap.size+1+1) 115 (.slice none 0 0):=by rw [← hW4];exact (b2.alloc _).alloc _
 have c3:Boxed W4 (w.heap.size+1+1+1) 22 sv:=by rw [← hW4];exact b3.alloc _
 have c4:Boxed W4 (w.heap.size+1+1+1+1) 3 (.int .i64 8):=by rw [← hW4];exact b4
 have hB4:Below w.heap.size w W4:=by
  rw [← hW4]
  exact (((((Below.refl _ w).alloc (Nat.le_refl _) _).alloc (by simp) _).alloc (by simp;omega) _).alloc (by simp;omega) _).alloc (by simp;omega) _
 rw [hW4]
 obtain ⟨S,hS⟩:∃ S,w.heap.size=S:=⟨_,rfl⟩
 rw [hS] at c0 c1 c2 c3 c4 hs4 ⊢
 have HB4:=hid hB4
 have HCC:=hid (And.intro c0 (And.intro c1 (And.intro c2 (And.intro c3 c4))))
 have HS:=hid hS
 clear hW4 b0 b1 b2 b3 b4 c0 c1 c2 hB4
 have hcs:W4.cell? ⟨S+1+1+1,0,none⟩=some (.slice (some ⟨b,o,none⟩) (8*4:Nat) c):=by rw [c3.cell,← hsv]
 have hcn:=c4.cell
 have hq1:S+1+1+1 < W4.heap.size:=by omega
 have hq2:S+1+1+1+1 < W4.heap.size:=by omega
 have hq3:w.heap.size≤W4.heap.size:=by omega
 have hseq:=chunk_stops (9 - 1) (S+1+1+1) (S+1+1+1+1) w.heap.size b o 8 4 c (by omega) (by omega) (by omega) (by omega) (by omega) W4 hq1 hq2 hcs hcn
 have hown:=@ki_own 4 fe fo fs w W4 S sv hq3
 have hI0:KI 4 fe fo fs w S sv [] W4:=⟨_,_,_,⟨HCC.out.2.1,World.ownsRow_nil _ _ _ _⟩,⟨HCC.out.2.2.1,World.ownsRow_nil _ _ _ _⟩,⟨HCC.out.1,World.ownsRow_nil _ _ _ _⟩,⟨(fun q h=>by cases h),(fun q h=>by cases h),(fun q h=>by cases h)⟩,HCC.out.2.2.2,HB4.out⟩
 have hkb:=@kpC_b w.heap.size (S+1+1+1) (S+1+1+1+1) W4 hq3 hq1 hq2
 clear hcs hcn c3 c4
 refine wpIn_rangeFunc_ownG (Kp:=KpC w.heap.size (S+1+1+1) (S+1+1+1+1)) rfl (by omega) (gf:=165) (lb:=#[.pointer (some ⟨S+1+1+1,0,none⟩),.pointer (some ⟨S+1+1+1+1,0,none⟩)]) rfl trivial (enters_of Tryz.func165 (by kernel_rfl) rfl)
  hseq kpC_t hkb (Below.refl _ _) (fun _=>rfl) (KI 4 fe fo fs w S sv) (fun _ _ _=>False) hown (fun _ _ _ _ _ hs _ _=>hs) hI0
  (fun x=>{ tmps:=#[sv,undef,.slice none 0 0,.pointer (some ⟨S,0,none⟩),.int .i64 0,.pointer (some ⟨S+1,0,none⟩),.pointer (some ⟨S+1+1,0,none⟩),.slice (some ⟨b,o+8*x.1,none⟩) 8 8,undef,sv,.int .i64 32,.bool true,.bool false,.bool false,.bool true,sv,.func (.func 165) #[] #[.pointer (some ⟨S+1+1+1,0,none⟩),.pointer (some ⟨S+1+1+1+1,0,none⟩)],.slice (some ⟨b,o+8*x.1,none⟩) 8 8,undef,undef,undef,undef,undef,undef,undef,undef,undef,undef,undef,undef,undef,undef,undef,undef,undef,undef,undef,undef,undef,undef,undef,undef,undef],defers:=[] }) ?assign ?body ?done ?stop
 case assign =>
  intro l x W K hK
  gi_wp2
  exact hK
 case body =>
  intro l pre x W hIW hlt
  obtain ⟨ve,vo,vs,⟨bve,ove⟩,⟨bvo,ovo⟩,⟨bvs,ovs⟩,⟨apeo,apes,apos⟩,⟨bbs,bbn⟩,hB⟩:=hIW
  have hga:=HGA.out x.1 x.2
  have hsh:=HSH.out x.1 x.2
  gi_wp2_with (refine ⟨trivial,?_⟩;gi_at_call 58;refine (CallsIn.inRound l (callsIn_wide.2 (hga W hB))).mono ?_;rintro e w1 ⟨v8,rfl,ho8,hx1⟩)
  obtain ⟨gb,cb,rfl,hcb,hgb⟩:∃ gb cb,v8=.slice (some ⟨gb,0,none⟩) 2 cb∧2≤cb∧W.heap.size≤gb∧gb < w1.heap.size:=by
   obtain ⟨g,c1,e,h1,h2,h3⟩:=OwnN.head (n:=2) ho8 rfl (by omega)
   exact ⟨g,c1,e,h1,h2,h3⟩
  have x0c:=OwnN.celln ho8 rfl 0 (by simp)
  have x1c:=OwnN.celln ho8 rfl 1 (by simp)
  obtain ⟨x0,hx0⟩:∃ x0,fe x.1=x0:=⟨_,rfl⟩
  obtain ⟨x1,hx1e⟩:∃ x1,fo x.1=x1:=⟨_,rfl⟩
  obtain ⟨xs2,hxs2⟩:∃ xs2,fs x.1=xs2:=⟨_,rfl⟩
  have hx0c:w1.cell? ⟨gb,0,none⟩=some (.int .u32 (x0.toNat:Nat)):=by rw [← hx0];exact x0c
  have hx1c:w1.cell? ⟨gb,1,none⟩=some (.int .u32 (x1.toNat:Nat)):=by rw [← hx1e];exact x1c
  obtain ⟨xe,hxe⟩:∃ xe,nW (pre.map fun j=>fe j.1)=xe:=⟨_,rfl⟩
  obtain ⟨xo,hxo⟩:∃ xo,nW (pre.map fun j=>fo j.1)=xo:=⟨_,rfl⟩
  obtain ⟨xv,hxv⟩:∃ xv,nW (pre.map fun j=>fs j.1)=xv:=⟨_,rfl⟩
  have hxel:xe.length=pre.length:=by rw [← hxe];simp [nW]
  have hxol:xo.length=pre.length:=by rw [← hxo];simp [nW]
  have hxvl:xv.length=pre.length:=by rw [← hxv];simp [nW]
  have hne:nW ((pre++[x]).map fun j=>fe j.1)=xe++[((x0.toNat:Nat):Int)]:=by rw [List.map_append,nW_append,hxe,← hx0];rfl
  have hno:nW ((pre++[x]).map fun j=>fo j.1)=xo++[((x1.toNat:Nat):Int)]:=by rw [List.map_append,nW_append,hxo,← hx1e];rfl
  have hnv:nW ((pre++[x]).map fun j=>fs j.1)=xv++[((xs2.toNat:Nat):Int)]:=by rw [List.map_append,nW_append,hxv,← hxs2];rfl
  rw [hxe] at ove
  rw [hxo] at ovo
  rw [hxv] at ovs
  rw [hxs2] at hsh
  have hNB:∀ {q t u},Boxed W q t u→t ≠ 118→¬ XR ve vo q:=fun hb ht h=>by
   rcases h with h | h
   ·exact hb.not_row ht ove h.symm
   ·exact hb.not_row ht ovo h.symm
  have HJA:=hid (show ∀ w2,(I1K (XR ve vo) W gb x0 x1 w.heap.size ve xe vo xo w2∨I2K (XR ve vo) W gb x0 x1 w.heap.size vo xo w2)→I2K (XR ve vo) W gb x0 x1 w.heap.size vo xo w2 from fun w2 h=>h.elim (fun h=>h.i2) id)
  have HJE:=hid (show ∀ w2,(I1K (XR ve vo) W gb x0 x1 w.heap.size ve xe vo xo w2∨I2K (XR ve vo) W gb x0 x1 w.heap.size vo xo w2)→Boxed w2 (S+1) 115 ve from fun w2 h=>(HJA.out w2 h).fr.boxed bve (hNB bve (by decide)))
  have HJO:=hid (show ∀ w2,(I1K (XR ve vo) W gb x0 x1 w.heap.size ve xe vo xo w2∨I2K (XR ve vo) W gb x0 x1 w.heap.size vo xo w2)→Boxed w2 (S+1+1) 115 vo from fun w2 h=>(HJA.out w2 h).fr.boxed bvo (hNB bvo (by decide)))
  have HJ0:=hid (fun w2 h=>(HJA.out w2 h).c0)
  have HJ1:=hid (fun w2 h=>(HJA.out w2 h).c1)
  have HJN:=hid (fun w2 h=>(HJA.out w2 h).fr.size)
  have HI1:=hid (show I1K (XR ve vo) W gb x0 x1 w.heap.size ve xe vo xo w1 from ⟨⟨Fr.refl.ext hx1,hx0c,hx1c,ovo.kept hx1⟩,ove.kept hx1⟩)
  have HXE:=hid (show ∀ q,ve.ownBlock=some q→XR ve vo q from fun q h=>.inl h)
  have HGB:=hid hgb.1
  have HLE:=hid (show ∀ q,ve.ownBlock=some q→q < W.heap.size from fun q h=>(ove.lt q h).2)
  have HLO:=hid (show ∀ q,vo.ownBlock=some q→q < W.heap.size from fun q h=>(ovo.lt q h).2)
  have HLV:=hid (show ∀ q,vs.ownBlock=some q→q < W.heap.size from fun q h=>(ovs.lt q h).2)
  have HAP:=hid apeo
  have HL:=hid (show xe.length≤1000∧xo.length≤1000∧xv.length≤1000 by omega)
  have HN:=hid hB.size
  have HNE:=hid (And.intro hne (And.intro hno hnv))
  have HAPS:=hid (And.intro apes apos)
  have HBX:=hid (And.intro bve (And.intro bvo (And.intro bvs (And.intro bbs bbn))))
  have HOV:=hid (And.intro ove (And.intro ovo ovs))
  have HBB:=hid hB
  have HSZ:=hid (show w.heap.size=S from HS.out)
  have HSHR:=hid hsh
  have HX1:=hid hx1
  clear hga hsh hxel hxol hxvl hne hno hnv hxe hxo hxv hx0 hx1e hxs2 x0c x1c hx0c hx1c hNB HJA ho8 hx1 bve bvo bvs bbs bbn ove ovo ovs apeo apes apos hB hlt
  gi_wp2
  refine region_ou_in 11 5 _ (I1K (XR ve vo) W gb x0 x1 w.heap.size ve xe vo xo) (I2K (XR ve vo) W gb x0 x1 w.heap.size vo xo) mixed (fun ⟨_,_,hl⟩=>hl) (by kernel_rfl) rfl (by kernel_rfl) (by kernel_rfl) (by kernel_rfl) (by omega) rfl rfl (kV (k10 w W gb cb x0 x1 ve vo xe)) (kV_keep _) (fun _ _=>I1K.ext) (fun _ _=>I2K.ext) HI1.out (forall_ops ⟨?_,?_,?_,?_,?_,?_,?_,?_,?_,?_,?_,trivial⟩) ?_ ?_
  ·intro _ a w3 hk hI
   have s5:a.tmps.getD 5 undef=.pointer (some ⟨S+1,0,none⟩):=hk.was 5 (by kernel_rfl) rfl
   refine step_val (v:=ve) (w':=w3) rfl ?_ (Ext.refl w3) rfl
   have hc:=(HJE.out _ hI).cell
   go_simp
  ·intro _ a w3 hk hI
   have s8:a.tmps.getD 8 undef=.slice (some ⟨gb,0,none⟩) 2 cb:=hk.was 8 (by kernel_rfl) rfl
   exact step_move rfl rfl s8 rfl
  ·intro _ a w3 hk hI
   have s21:=hk.eq_ 1 21 (by kernel_rfl) rfl
   refine step_val (v:=.pointer (some ⟨gb,0,none⟩)) (w':=w3) rfl ?_ (Ext.refl w3) rfl
   go_simp
  ·intro _ a w3 hk hI
   have s22:=hk.eq_ 2 22 (by kernel_rfl) rfl
   refine step_val (v:=.int .u32 (x0.toNat:Nat)) (w':=w3) rfl ?_ (Ext.refl w3) rfl
   have hc:=HJ0.out _ hI
   go_simp
  ·intro _ a w3 hk hI
   have s23:=hk.eq_ 3 23 (by kernel_rfl) rfl
   refine step_val (v:=.slice (some ⟨w3.heap.size,0,none⟩) 1 1) (w':=w3.alloc (.cells #[.int .u32 (x0.toNat:Nat)] 118)) rfl ?_ (Ext.alloc _ _) ⟨_,rfl,(HJN.out _ hI),by rw [cell_of_row _ _ _ _ _ _ (heap_alloc_new _ _)];rfl⟩
   have e:=build24 (x0.toNat:Nat) w3
   simp only [execOp,Act.eval,List.map_toArray,List.map_cons,List.map_nil,s23,Sem.run_bind,e,Sem.run_pure,Result.andThen]
  ·intro h;exact absurd rfl h
  ·intro _ a w3 hk hI
   have s6:a.tmps.getD 6 undef=.pointer (some ⟨S+1+1,0,none⟩):=hk.was 6 (by kernel_rfl) rfl
   refine step_val (v:=vo) (w':=w3) rfl ?_ (Ext.refl w3) rfl
   have hc:=(HJO.out _ hI).cell
   go_simp
  ·intro _ a w3 hk hI
   have s8:a.tmps.getD 8 undef=.slice (some ⟨gb,0,none⟩) 2 cb:=hk.was 8 (by kernel_rfl) rfl
   exact step_move rfl rfl s8 rfl
  ·intro _ a w3 hk hI
   have s27:=hk.eq_ 7 27 (by kernel_rfl) rfl
   refine step_val (v:=.pointer (some ⟨gb,1,none⟩)) (w':=w3) rfl ?_ (Ext.refl w3) rfl
   go_simp
  ·intro _ a w3 hk hI
   have s28:=hk.eq_ 8 28 (by kernel_rfl) rfl
   refine step_val (v:=.int .u32 (x1.toNat:Nat)) (w':=w3) rfl ?_ (Ext.refl w3) rfl
   have hc:=HJ1.out _ hI
   go_simp
  ·intro _ a w3 hk hI
   have s29:=hk.eq_ 9 29 (by kernel_rfl) rfl
   refine step_val (v:=.slice (some ⟨w3.heap.size,0,none⟩) 1 1) (w':=w3.alloc (.cells #[.int .u32 (x1.toNat:Nat)] 118)) rfl ?_ (Ext.alloc _ _) ⟨_,rfl,(HJN.out _ hI),by rw [cell_of_row _ _ _ _ _ _ (heap_alloc_new _ _)];rfl⟩
   have e:=build24 (x1.toNat:Nat) w3
   simp only [execOp,Act.eval,List.map_toArray,List.map_cons,List.map_nil,s29,Sem.run_bind,e,Sem.run_pure,Result.andThen]
  ·intro a w3 hk hI
   have s20:=hk.eq_ 0 20 (by kernel_rfl) rfl
   obtain ⟨t24,s24,h24,g24⟩:=hk.val 4 24 (by kernel_rfl) rfl
   refine wp_app (.tmp 20) (.tmp 24) rfl s20 hI.own s24 HL.out.1 g24 (Nat.le_trans HN.out hI.i2.fr.size) ?_
   intro g cap w4 hown hgr hg
   have hg2:some g=ve.ownBlock∨W.heap.size≤g:=hg.imp id (fun h=>Nat.le_trans hI.i2.fr.size h)
   refine ⟨_,rfl,hI.write hgr HXE.out HGB.out HLE.out HAP.out,⟨g,cap,rfl,hg2,hown⟩,fun i v hne hv=>?_⟩
   exact k10_keep hgr HLE.out i v hne hv
  ·intro a w3 hf hI2
   have s20:=hf.eq_ 0 20 (by kernel_rfl) rfl
   have s21:=hf.eq_ 1 21 (by kernel_rfl) rfl
   have s22:=hf.eq_ 2 22 (by kernel_rfl) rfl
   have s23:=hf.eq_ 3 23 (by kernel_rfl) rfl
   obtain ⟨t24,s24,h24,g24⟩:=hf.val 4 24 (by kernel_rfl) rfl
   obtain ⟨g25,c25,s25,h25,o25⟩:=hf.val 5 25 (by kernel_rfl) rfl
   have s26:=hf.eq_ 6 26 (by kernel_rfl) rfl
   have s27:=hf.eq_ 7 27 (by kernel_rfl) rfl
   have s28:=hf.eq_ 8 28 (by kernel_rfl) rfl
   have s29:=hf.eq_ 9 29 (by kernel_rfl) rfl
   obtain ⟨t30,s30,h30,g30⟩:=hf.val 10 30 (by kernel_rfl) rfl
   have hx:=hf.ext
   have e:=hf.frame
   clear hf
   simp only [List.take_succ_cons,List.take_zero,regFrame,Act.put,List.setIfInBounds_toArray,List.set_cons_zero,List.set_cons_succ,s20,s21,s22,s23,s24,s25,s26,s27,s28,s29,s30] at e
   clear s20 s21 s22 s23 s24 s25 s26 s27 s28 s29 s30
   subst e
   simp only [List.drop_succ_cons,List.drop_zero]
   have HO25:=hid o25
   have HI2:=hid hI2
   have HJE3:=hid (HJE.out _ (.inr hI2))
   have HJO3:=hid (HJO.out _ (.inr hI2))
   have HN3:=hid hI2.fr.size
   clear o25 hI2 hx h24 g24 h30
   go_wp2_with (refine wpList_app rfl (.tmp 26) (.tmp 30) rfl rfl HI2.out.own rfl HL.out.2.1 g30 (Nat.le_trans HN.out HN3.out) ?_;intro g31 c31 w4 o31 hgr31 hg31;have be4:=HJE3.out.kept hgr31 (HBX.out.1.not_row (by decide) HOV.out.2.1);have bo4:=HJO3.out.kept hgr31 (HBX.out.2.1.not_row (by decide) HOV.out.2.1);have bo5:=bo4.other (show S+1+1 ≠ S+1 by omega) (.slice (some ⟨g25,0,none⟩) (xe.length+1) c25);have hc1:=be4.cell;have hf1:=be4.frozen;have hc2:=bo5.cell;have hf2:=bo5.frozen)
   have HA:=hid (a10_make HI2.out.fr HBX.out HOV.out HAP.out HAPS.out HO25.out h25 o31 hgr31 (hg31.imp id id) HN3.out HN.out be4 bo4)
   clear o31 hgr31 hg31 be4 bo4 bo5 hc1 hf1 hc2 hf2 g30
   obtain ⟨W6,hW6⟩:∃ W6,(w4.setCell ⟨S+1,0,none⟩ (.slice (some ⟨g25,0,none⟩) (xe.length+1) c25)).setCell ⟨S+1+1,0,none⟩ (.slice (some ⟨g31,0,none⟩) (xo.length+1) c31)=W6:=⟨_,rfl⟩
   rw [hW6] at HA ⊢
   clear hW6
   gi_wp2
   have HW6:=hid (HA.out.fr.below HBB.out HN.out (yr_base HBX.out HOV.out HN.out HSZ.out))
   refine region_upto_in 4 mixed (fun ⟨_,_,hl⟩=>hl) (by kernel_rfl) rfl (by kernel_rfl) (by kernel_rfl) (by kernel_rfl) (kV (k11 b (o+8*x.1) xs2 vs)) (kV_keep _) (forall_ops ⟨?_,?_,?_,?_,trivial⟩) ?_
   ·intro a w3 hk
    have s3:a.tmps.getD 3 undef=.pointer (some ⟨S,0,none⟩):=hk.was 3 (by kernel_rfl) rfl
    refine step_val (v:=vs) (w':=w3) rfl ?_ (Ext.refl w3) rfl
    have hc:=cell_at hk.ext HA.out.bs.cell
    go_simp
   ·intro a w3 hk
    have s7:a.tmps.getD 7 undef=.slice (some ⟨b,o+8*x.1,none⟩) 8 8:=hk.was 7 (by kernel_rfl) rfl
    exact step_move rfl rfl s7 rfl
   ·intro a w3 hk
    have s33:=hk.eq_ 1 33 (by kernel_rfl) rfl
    exact step_call rfl rfl (by simp only [List.map_toArray,List.map_cons,List.map_nil,Act.eval,s33]<;>rfl) cf26 (HSHR.out w3 (Ext.trans HW6.out hk.ext)) (fun e w1 h=>by obtain ⟨rfl,hx⟩:=h;exact ⟨_,rfl,hx,rfl⟩)
   ·intro a w3 hk
    have s34:=hk.eq_ 2 34 (by kernel_rfl) rfl
    refine step_val (v:=.slice (some ⟨w3.heap.size,0,none⟩) 1 1) (w':=w3.alloc (.cells #[.int .u32 (xs2.toNat:Nat)] 118)) rfl ?_ (Ext.alloc _ _) ⟨_,rfl,Nat.zero_le _,by rw [cell_of_row _ _ _ _ _ _ (heap_alloc_new _ _)];rfl⟩
    have e:=build24 (xs2.toNat:Nat) w3
    simp only [execOp,Act.eval,List.map_toArray,List.map_cons,List.map_nil,s34,Sem.run_bind,e,Sem.run_pure,Result.andThen]
   ·intro a w7 hf
    have s32:=hf.eq_ 0 32 (by kernel_rfl) rfl
    have s33:=hf.eq_ 1 33 (by kernel_rfl) rfl
    have s34:=hf.eq_ 2 34 (by kernel_rfl) rfl
    obtain ⟨t35,s35,h35,g35⟩:=hf.val 3 35 (by kernel_rfl) rfl
    have hx:=hf.ext
    have e:=hf.frame
    clear hf
    simp only [List.take_succ_cons,List.take_zero,regFrame,Act.put,List.setIfInBounds_toArray,List.set_cons_zero,List.set_cons_succ,s32,s33,s34,s35] at e
    clear s32 s33 s34 s35
    subst e
    simp only [List.drop_succ_cons,List.drop_zero]
    have HA7:=hid (HA.out.ext hx)
    clear hx h35
    go_wp2_with (refine wpList_app rfl (.tmp 32) (.tmp 35) rfl rfl HA7.out.os rfl HL.out.2.2 g35 (Nat.le_trans HN.out HA7.out.fr.size) ?_;intro g36 c36 w8 o36 hgr36 hg36;have bs8:=HA7.out.bs.kept hgr36 (HA7.out.bs.not_row (by decide) HA7.out.os);have hc1:=bs8.cell;have hf1:=bs8.frozen)
    have HE:=round_end HA7.out HBX.out HOV.out HAPS.out HBB.out HSZ.out HN.out o36 hgr36 hg36 bs8 W4.heap.size
    refine ⟨HE.1,HE.2.1,?_⟩
    have h:=HE.2.2
    rw [← HNE.out.1,← HNE.out.2.1,← HNE.out.2.2] at h
    exact h
 case done =>
  intro D ys W hD hys hIW hK
  subst hys
  obtain ⟨ve,vo,vs,⟨bve,ove⟩,⟨bvo,ovo⟩,⟨bvs,ovs⟩,⟨apeo,apes,apos⟩,_,hB⟩:=hIW
  rw [finRange_map 4 fe] at ove
  rw [finRange_map 4 fo] at ovo
  rw [finRange_map 4 fs] at ovs
  obtain ⟨gs,cs,rfl,hcs,hgs⟩:∃ gs cs,vs=.slice (some ⟨gs,0,none⟩) 4 cs∧4≤cs∧w.heap.size≤gs∧gs < W.heap.size:=by
   obtain ⟨g,c1,e,h1,h2,h3⟩:=OwnN.head (n:=4) ovs (by simp [nW]) (by omega)
   exact ⟨g,c1,e,h1,h2,h3⟩
  have HRV:=hid (reverse_w gs cs 4 w.heap.size _ W ovs (by simp) (by omega) (by omega))
  have hc:=bvs.cell
  have HDN:=hid hK
  gi_wp2_with (refine ⟨trivial,?_⟩;gi_at_call 105;refine (callsIn_wide.2 HRV.out).mono ?_;rintro e w2 ⟨rfl,hr2,hgr2⟩)
  obtain ⟨ev,hev⟩:∃ ev,(List.range 4).map fe=ev:=⟨_,rfl⟩
  obtain ⟨od,hod⟩:∃ od,(List.range 4).map fo=od:=⟨_,rfl⟩
  have hle:ev.length=4:=by rw [← hev];simp
  have hlo:od.length=4:=by rw [← hod];simp
  rw [hev] at ove
  rw [hod] at ovo
  have hx2:Ext w w2:=hB.grown hgr2 hB.size (fun k e=>by cases e;exact hgs.1)
  obtain ⟨A1,c1,e1,_,r1,_⟩:=OwnN.rdc (n:=4) (ove.grown hgr2 apes) (by rw [nW_length];exact hle)
  obtain ⟨A2,c2,e2,_,r2,_⟩:=OwnN.rdc (n:=4) (ovo.grown hgr2 apos) (by rw [nW_length];exact hlo)
  have HB1:=hid (show Boxed w2 (S+1) 115 (.slice A1 4 c1) by rw [← e1];exact bve.kept hgr2 (bve.not_row (by decide) ovs))
  have HB2:=hid (show Boxed w2 (S+1+1) 115 (.slice A2 4 c2) by rw [← e2];exact bvo.kept hgr2 (bvo.not_row (by decide) ovs))
  have HB3:=hid (show Boxed w2 S 115 (.slice (some ⟨gs,0,none⟩) 4 cs) from bvs.kept hgr2 (bvs.not_row (by decide) ovs))
  have HR1:=hid r1
  have HR2:=hid r2
  have HGT:=hid (hG.later hx2)
  have HX2:=hid hx2
  have HRS:=hid hr2
  have HSW:=hid (show S≤w2.heap.size by have:=Below.size hx2;omega)
  have HD2:=hid (show w2.heap[D]? = some (.deferred (some [])) from (hgr2.block D (Array.getElem?_eq_some_iff.1 hK).1 (fun e=>by
   cases e
   exact own_cells ovs rfl hK rfl)).trans hK)
  have HDS:=hid (show w.heap.size≤D by omega)
  have HEO:=hid (And.intro hev hod)
  have HSS:=hid (show w.heap.size=S from HS.out)
  clear ove ovo ovs bve bvo bvs apeo apes apos hB hK HDN HRV hgr2 r1 r2 e1 e2 hx2 hr2 hev hod hc
  refine wpIn_wide.2 ?_
  refine region_upto 5 mixed rfl (by kernel_rfl) (by kernel_rfl) (by kernel_rfl) (kV (k13_4 S gs c1 c2 cs A1 A2 ev od)) (kV_keep _) (forall_ops ⟨?_,?_,?_,?_,?_,trivial⟩) ?_
  ·intro a w3 hk
   have s5:a.tmps.getD 5 undef=.pointer (some ⟨S+1,0,none⟩):=hk.was 5 (by kernel_rfl) rfl
   refine step_val (v:=.slice A1 4 c1) (w':=w3) rfl ?_ (Ext.refl w3) rfl
   have hc:=cell_at hk.ext HB1.out.cell
   go_simp
  ·intro a w3 hk
   have s6:a.tmps.getD 6 undef=.pointer (some ⟨S+1+1,0,none⟩):=hk.was 6 (by kernel_rfl) rfl
   refine step_val (v:=.slice A2 4 c2) (w':=w3) rfl ?_ (Ext.refl w3) rfl
   have hc:=cell_at hk.ext HB2.out.cell
   go_simp
  ·intro a w3 hk
   have s39:=hk.eq_ 0 39 (by kernel_rfl) rfl
   have s40:=hk.eq_ 1 40 (by kernel_rfl) rfl
   exact step_call rfl rfl (by simp only [List.map_toArray,List.map_cons,List.map_nil,Act.eval,s39,s40]<;>rfl) cf28 (spread_w A1 A2 4 c1 c2 ev od w3 (HGT.out.later hk.ext) (HR1.out.later hk.ext) (HR2.out.later hk.ext) (by omega) (by omega)) (fun e w1 h=>retW (Nat.le_trans HSW.out (Below.size hk.ext)) e w1 h)
  ·intro a w3 hk
   have s3:a.tmps.getD 3 undef=.pointer (some ⟨S,0,none⟩):=hk.was 3 (by kernel_rfl) rfl
   refine step_val (v:=.slice (some ⟨gs,0,none⟩) 4 cs) (w':=w3) rfl ?_ (Ext.refl w3) rfl
   have hc:=cell_at hk.ext HB3.out.cell
   go_simp
  ·intro a w3 hk
   obtain ⟨u41,s41,g41⟩:=hk.val 2 41 (by kernel_rfl) rfl
   exact step_assign rfl rfl s41 ⟨_,rfl,g41⟩
  ·intro a w7 hf
   have s39:=hf.eq_ 0 39 (by kernel_rfl) rfl
   have s40:=hf.eq_ 1 40 (by kernel_rfl) rfl
   obtain ⟨u41,s41,g41⟩:=hf.val 2 41 (by kernel_rfl) rfl
   have s42:=hf.eq_ 3 42 (by kernel_rfl) rfl
   obtain ⟨u2,s2,g2⟩:=hf.val 4 2 (by kernel_rfl) rfl
   have hx:=hf.ext
   have e:=hf.frame
   clear hf
   simp only [List.take_succ_cons,List.take_zero,regFrame,Act.put,List.setIfInBounds_toArray,List.set_cons_zero,List.set_cons_succ,s39,s40,s41,s42,s2] at e
   clear s39 s40 s41 s42 s2
   subst e
   simp only [List.drop_succ_cons,List.drop_zero]
   have hb7:=boxed_later HB3.out hx
   have hc:=hb7.cell
   have hf:=hb7.frozen
   have HX7:=hid (Ext.trans HX2.out hx)
   have HD7:=hid (show w7.heap[D]? = some (.deferred (some [])) from (Below.block hx D (Array.getElem?_eq_some_iff.1 HD2.out).1).trans HD2.out)
   have HS7:=hid (OwnN.kept HRS.out hx)
   have HB7:=hid hb7
   have HK7:=hid g2
   clear hx hb7 g2 g41
   go_wp2_with fail
   gi_wp2
   have hSD:S ≠ D:=fun e=>by
    subst e
    exact boxed_cells HB7.out HD7.out rfl
   have hK':(w7.setCell ⟨S,0,none⟩ (.slice (some ⟨gs,0,none⟩) 4 cs)).heap[D]? = some (.deferred (some [])):=(heap_setCell_other w7 ⟨S,0,none⟩ D _ (fun e=>hSD e.symm)).trans HD7.out
   refine ⟨by simp,.inl ⟨_,_,rfl,run_takeDeferred hK',?_⟩⟩
   have hb8:=HB7.out.set (.slice (some ⟨gs,0,none⟩) 4 cs)
   have hc5:=cell_kept hb8.cell (grownBy_putObj' _ D (.deferred none)) (fun r e=>by cases e;exact ⟨_,hK',rfl⟩)
   have hR1:=ownsRow_putObj (HK7.out.setBox HB7.out (by decide) (u:=.slice (some ⟨gs,0,none⟩) 4 cs)) (.deferred none) hK' rfl
   have hR2:=ownsRow_putObj (HS7.out.setBox HB7.out (by decide) (u:=.slice (some ⟨gs,0,none⟩) 4 cs)) (.deferred none) hK' rfl
   have hBel:Ext w ((w7.setCell ⟨S,0,none⟩ (.slice (some ⟨gs,0,none⟩) 4 cs)).putObj D (.deferred none)) :=
    ((show Below w.heap.size w w7 from HX7.out).setCell (p:=⟨S,0,none⟩) (by simp;have:=HSS.out;omega) _).trans (belowK_b (w:=w) (Nat.le_refl _) _ D _ _ HDS.out hK' rfl rfl)
   refine ⟨.tuple #[u2,.slice (some ⟨gs,0,none⟩) 4 cs,.int .i64 0],?_,u2,_,rfl,?_,hR2,hBel⟩
   ·simp [results,Tryz.f57,go_sem,hc5]
   ·rw [HSS.out]
    rw [← HEO.out.1,← HEO.out.2] at hR1
    exact hR1
 case stop =>
  intro D c pre W _ _ h _
  exact h.elim
def pt (key:List UInt8) (j:Nat):List UInt8:=(key.drop (8*j)).take 8
theorem rd_eight {w:World} {B n b o j:Nat} {key:List UInt8} (h:Rd w B (some ⟨b,o,none⟩) n key) (hj:8*j+8≤n):Rd w B (some ⟨b,o+8*j,none⟩) 8 (pt key j):=by
 obtain ⟨b',o',e,hb,hc⟩:=h.at_ (by omega)
 cases e
 have hl:=h.len
 refine ⟨by simp [pt];omega,fun _=>⟨b,o+8*j,rfl,hb,fun k hk=>?_⟩⟩
 have:=hc (8*j+k) (by omega)
 have e2:byteAt (pt key j) k=byteAt key (8*j+k):=by unfold byteAt pt;simp [List.getD,hk]
 rw [e2,← this]
 congr 2;omega
theorem wdL_pt (key:List UInt8) (j i:Nat) (hi:i+4≤8):wdL (pt key j) i=wdL key (8*j+i):=by
 unfold wdL wd4
 congr 1
 refine wdN_congr 4 fun k hk=>?_
 unfold bl pt
 have:i+k < 8:=by omega
 simp [List.getD,this,Nat.add_assoc]
theorem gW_pt (key:List UInt8) (j:Nat):gW (pt key j) 2 = [wdL key (8*j),wdL key (8*j+4)]:=by
 have e:gW (pt key j) 2 = [wdL (pt key j) 0,wdL (pt key j) 4]:=rfl
 rw [e,wdL_pt key j 0 (by omega),wdL_pt key j 4 (by omega)];rfl
theorem keys_any (A:Option Addr) (n c:Nat) (key:List UInt8) (w:World) (hG:GT w) (hr:Rd w w.heap.size A n key) (hn:n=16∨n=24∨n=32) (hc:n≤c) :
  Calls Tryz.prog 57 #[.slice A n c] w (KRet w (keysL key) (sL key)):=by
 obtain ⟨b,o,rfl,_,_⟩:=hr.at_ (by omega)
 have hl:=hr.len
 have hga:∀ j,8*j+8≤n→∀ W,Ext w W→Calls Tryz.prog 58 #[.slice (some ⟨b,o+8*j,none⟩) 8 8] W (WRet W [wdL key (8*j),wdL key (8*j+4)]):=fun j hj W hx=>by
  have:=gatherW_any b (o+8*j) 2 8 (pt key j) W (rd_eight (hr.later hx) hj) (by omega) (by omega)
  rw [gW_pt] at this
  exact this
 have hsh:∀ j,8*j+8≤n→∀ W,Ext w W→Calls Tryz.prog 104 #[.slice (some ⟨b,o+8*j,none⟩) 8 8] W fun e w'=>e=.returned (.int .u32 ((shrW (pt key j)).toNat:Nat))∧Ext W w':=fun j hj W hx =>
  shr_any (pt key j) _ 8 W (hG.later hx) (rd_eight (hr.later hx) hj)
 unfold keysL evL odL sL sU
 rw [hl]
 rcases hn with rfl | rfl | rfl
 ·exact keys2_f b o c (fun j=>wdL key (8*j)) (fun j=>wdL key (8*j+4)) (fun j=>shrW (pt key j)) w hG hc (fun j hj=>hga j (by omega)) (fun j hj=>hsh j (by omega))
 ·exact keys3_f b o c (fun j=>wdL key (8*j)) (fun j=>wdL key (8*j+4)) (fun j=>shrW (pt key j)) w hG hc (fun j hj=>hga j (by omega)) (fun j hj=>hsh j (by omega))
 ·exact keys4_f b o c (fun j=>wdL key (8*j)) (fun j=>wdL key (8*j+4)) (fun j=>shrW (pt key j)) w hG hc (fun j hj=>hga j (by omega)) (fun j hj=>hsh j (by omega))
end Go.Proofs.YtbgkmicelmenfaaGreatDoor.T
namespace Go.Proofs.YtbgkmicelmenfaaGreatDoor.T
open Go.RowKit
set_option maxRecDepth 100000
theorem lit_own1 (w:World) (a:UInt32):OwnN .u32 118 (w.alloc (.cells #[.int .u32 (a.toNat:Nat)] 118)) w.heap.size (.slice (some ⟨w.heap.size,0,none⟩) 1 1) (nW [a]) :=
 OwnN.lit (kd:=.u32) (e:=118) w (nW [a]) #[.int .u32 (a.toNat:Nat)] 1 w.heap.size rfl rfl (by unfold maxLen;omega) (Nat.le_refl _)
theorem range_snoc {α:Type} (f:Nat→α) (j:Nat):(List.range (j+1)).map f=(List.range j).map f++[f j]:=by simp [List.range_succ]
structure R3 (base:Nat) (w:World) (ve vo vs:Value) (xe xo xs:List Int):Prop where
 e:OwnN .u32 118 w base ve xe
 o:OwnN .u32 118 w base vo xo
 s:OwnN .u32 118 w base vs xs
 eo:Apart ve vo
 es:Apart ve vs
 os:Apart vo vs
theorem R3.ext {base:Nat} {w w':World} {ve vo vs:Value} {xe xo xs:List Int} (h:R3 base w ve vo vs xe xo xs) (hx:Ext w w'):R3 base w' ve vo vs xe xo xs:=⟨h.e.kept hx,h.o.kept hx,h.s.kept hx,h.eo,h.es,h.os⟩
theorem R3.setE {base g n c:Nat} {w w':World} {ve vo vs:Value} {xe xo xs ye:List Int} (h:R3 base w ve vo vs xe xo xs) (hn:OwnN .u32 118 w' base (.slice (some ⟨g,0,none⟩) n c) ye) (hg:w.grownBy w' ve.ownBlock) (hb:some g=ve.ownBlock∨w.heap.size≤g) :
  R3 base w' (.slice (some ⟨g,0,none⟩) n c) vo vs ye xo xs :=
 ⟨hn,h.o.grown hg h.eo.symm,h.s.grown hg h.es.symm,h.eo.new hb (fun q e=>(h.o.lt q e).2),h.es.new hb (fun q e=>(h.s.lt q e).2),h.os⟩
theorem R3.setO {base g n c:Nat} {w w':World} {ve vo vs:Value} {xe xo xs yo:List Int} (h:R3 base w ve vo vs xe xo xs) (hn:OwnN .u32 118 w' base (.slice (some ⟨g,0,none⟩) n c) yo) (hg:w.grownBy w' vo.ownBlock) (hb:some g=vo.ownBlock∨w.heap.size≤g) :
  R3 base w' ve (.slice (some ⟨g,0,none⟩) n c) vs xe yo xs :=
 ⟨h.e.grown hg h.eo,hn,h.s.grown hg h.os.symm,(h.eo.symm.new hb (fun q e=>(h.e.lt q e).2)).symm,h.es,h.os.new hb (fun q e=>(h.s.lt q e).2)⟩
theorem R3.setS {base:Nat} {w w':World} {ve vo vs v':Value} {xe xo xs ys:List Int} (h:R3 base w ve vo vs xe xo xs) (hb:base≤w.heap.size) (hn:OwnN .u32 118 w' w.heap.size v' ys) (hx:Ext w w'):R3 base w' ve vo v' xe xo ys :=
 ⟨h.e.kept hx,h.o.kept hx,ownN_mono hn hb,h.eo,fun q e e'=>by have:=(h.e.lt q e).2;have:=(hn.lt q e').1;omega,fun q e e'=>by have:=(h.o.lt q e).2;have:=(hn.lt q e').1;omega⟩
set_option maxHeartbeats 4000000 in
theorem rkeys2_f (b o m n c:Nat) (fe fo fs:Nat→UInt32) (w:World) (hm:m=2) (hnm:n=8*m) (hc:n≤c)
  (hle:∀ j,j < m→∀ W,Ext w W→∀ c',Calls Tryz.prog 131 #[.slice (some ⟨b,o+8*j,none⟩) 4 c'] W fun e w'=>e=.returned (.int .u64 ((fe j).toNat:Nat))∧W=w')
  (hlo:∀ j,j < m→∀ W,Ext w W→∀ c',Calls Tryz.prog 131 #[.slice (some ⟨b,o+(8*j+4),none⟩) 4 c'] W fun e w'=>e=.returned (.int .u64 ((fo j).toNat:Nat))∧W=w')
  (hsh:∀ j,j < m→∀ W,Ext w W→∀ c',Calls Tryz.prog 132 #[.slice (some ⟨b,o+8*j,none⟩) 8 c'] W fun e w'=>e=.returned (.int .u32 ((fs j).toNat:Nat))∧Ext W w') :
  Calls Tryz.prog 78 #[.slice (some ⟨b,o,none⟩) n c] w (KRet w (kL ((List.range m).map fe) ((List.range m).map fo) 20) ((List.range m).map fs).reverse):=by
 have HLE:=hid hle
 have HLO:=hid hlo
 have HSH:=hid hsh
 obtain rfl:n=16:=by omega
 clear hle hlo hsh
 go_enter Tryz.func78,Tryz.ntmps78
 go_wp2_with fail
 go_loopw [5,6,7,9] (fun ve vo vs i wr=>∃ j:Nat,j≤m∧i=.int .i64 (8*j:Nat)∧R3 w.heap.size wr ve vo vs (nW ((List.range j).map fe)) (nW ((List.range j).map fo)) (nW ((List.range j).map fs).reverse)∧Ext w wr) (fun _ _ _ i _=>8*m - (intOf i).toNat)
 case atStart=>exact ⟨0,by omega,rfl,⟨World.ownsRow_nil _ _ _ _,World.ownsRow_nil _ _ _ _,World.ownsRow_nil _ _ _ _,(fun q h=>by cases h),(fun q h=>by cases h),(fun q h=>by cases h)⟩,Ext.refl _⟩
 case round =>
  obtain ⟨j,hj,rfl,hR,hx⟩:=hrel
  have HX:=hid hx
  have HR:=hid hR
  clear hx hR
  by_cases hlt:j < m
  ·have HE:=HLE.out j hlt
   have HO:=HLO.out j hlt
   have HS:=HSH.out j hlt
   have hse:nW ((List.range (j+1)).map fe)=nW ((List.range j).map fe)++[((fe j).toNat:Int)]:=by rw [range_snoc,nW_append];rfl
   have hso:nW ((List.range (j+1)).map fo)=nW ((List.range j).map fo)++[((fo j).toNat:Int)]:=by rw [range_snoc,nW_append];rfl
   have hss:nW ((List.range (j+1)).map fs).reverse=nW [fs j]++nW ((List.range j).map fs).reverse:=by rw [range_snoc,List.reverse_append,← nW_append];rfl
   have lxe:(nW ((List.range j).map fe)).length=j:=by simp [nW]
   have lxo:(nW ((List.range j).map fo)).length=j:=by simp [nW]
   have lxs:(nW ((List.range j).map fs).reverse).length=j:=by simp [nW]
   obtain ⟨xe,hxe⟩:∃ xe,nW ((List.range j).map fe)=xe:=⟨_,rfl⟩
   obtain ⟨xo,hxo⟩:∃ xo,nW ((List.range j).map fo)=xo:=⟨_,rfl⟩
   obtain ⟨xs,hxs⟩:∃ xs,nW ((List.range j).map fs).reverse=xs:=⟨_,rfl⟩
   obtain ⟨y0,hy0⟩:∃ y,fe j=y:=⟨_,rfl⟩
   obtain ⟨y1,hy1⟩:∃ y,fo j=y:=⟨_,rfl⟩
   obtain ⟨y2,hy2⟩:∃ y,fs j=y:=⟨_,rfl⟩
   rw [hxe] at HR hse lxe
   rw [hxo] at HR hso lxo
   rw [hxs] at HR hss lxs
   rw [hy0] at HE hse
   rw [hy1] at HO hso
   rw [hy2] at HS hss
   have k0:=wlt y0
   have k1:=wlt y1
   obtain ⟨q,hq⟩:∃ q,8*j=q:=⟨_,rfl⟩
   rw [hq] at HE HO HS ⊢
   have hqn:q+8≤16:=by omega
   have HQ:=hid hq
   have HHE:=hid HE
   have HHO:=hid HO
   have HHS:=hid HS
   have HSE:=hid (And.intro hse (And.intro hso hss))
   have HLX:=hid (show xe.length≤1000∧xo.length≤1000∧xs.length≤1000 by omega)
   have HW:=hid (Below.size HX.out)
   clear HE HO HS hse hso hss lxe lxo lxs hxe hxo hxs hy0 hy1 hy2 hq
   go_wp2_with fail
   refine (HHE.out wr HX.out _).mono ?_
   rintro e w1 ⟨rfl,rfl⟩
   have HLTE:=hid (lit_own1 wr y0)
   have HRA:=hid (HR.out.ext (Ext.alloc wr (.cells #[.int .u32 (y0.toNat:Nat)] 118)))
   have HXA:=hid (Ext.trans HX.out (Ext.alloc wr (.cells #[.int .u32 (y0.toNat:Nat)] 118)))
   go_wp2_with (refine wpList_app (y:=((y0.toNat:Nat):Int)) (t:=wr.heap.size) (c:=1) rfl (.tmp 32) (.tmp 40) rfl rfl HRA.out.e rfl (by have:=HLX.out;omega) (by exact OwnN.celln HLTE.out rfl 0 (by simp)) HXA.out.size ?_;intro g1 c1 w2 hn1 hg1 hb1)
   have HR2:=hid (HRA.out.setE hn1 hg1 hb1)
   have HX2:=hid (show Ext w w2 from Below.grown HXA.out hg1 HXA.out.size (fun k e=>(HRA.out.e.lt k e).1))
   clear hn1 hg1 hb1
   go_wp2_with fail
   refine (HHO.out w2 HX2.out _).mono ?_
   rintro e w3 ⟨rfl,rfl⟩
   have HLTO:=hid (lit_own1 w2 y1)
   have HRB:=hid (HR2.out.ext (Ext.alloc w2 (.cells #[.int .u32 (y1.toNat:Nat)] 118)))
   have HXB:=hid (Ext.trans HX2.out (Ext.alloc w2 (.cells #[.int .u32 (y1.toNat:Nat)] 118)))
   go_wp2_with (refine wpList_app (y:=((y1.toNat:Nat):Int)) (t:=w2.heap.size) (c:=1) rfl (.tmp 42) (.tmp 51) rfl rfl HRB.out.o rfl (by have:=HLX.out;omega) (by exact OwnN.celln HLTO.out rfl 0 (by simp)) HXB.out.size ?_;intro g2 c2 w4 hn2 hg2 hb2)
   have HR4:=hid (HRB.out.setO hn2 hg2 hb2)
   have HX4:=hid (show Ext w w4 from Below.grown HXB.out hg2 HXB.out.size (fun k e=>(HRB.out.o.lt k e).1))
   clear hn2 hg2 hb2
   go_wp2_with fail
   refine (HHS.out w4 HX4.out _).mono ?_
   rintro e w5 ⟨rfl,hx5⟩
   have HR5:=hid (HR4.out.ext hx5)
   have HX5:=hid (Ext.trans HX4.out hx5)
   clear hx5
   have HLTS:=hid (lit_own1 w5 y2)
   obtain ⟨A5,c5,hvs,hrs,_⟩:=(HR5.out.s.kept (Ext.alloc w5 (.cells #[.int .u32 (y2.toNat:Nat)] 118))).rdn rfl
   have HRS:=hid hrs
   have HVS:=hid hvs
   clear hrs hvs
   go_wp2_with (refine wpL_appendN _ rfl (.tmp 59) (.tmp 60) 115 rfl Tryz.underlying115 4 Tryz.info37 w5.heap.size _ _ rfl HLTS.out _ A5 xs.length c5 _ HVS.out HRS.out (by have:=HLX.out;simp [nW];omega) (by have:=HLX.out;simp [nW];unfold maxLen;omega) (by simp) ?_;intro v' w6 hown6 hb6)
   have HX6':=hid (show Ext w5 w6 from ((Below.refl w5.heap.size w5).alloc (Nat.le_refl _) _).trans hb6)
   have HR6:=hid (HR5.out.setS HX5.out.size hown6 HX6'.out)
   have HX6:=hid (Ext.trans HX5.out HX6'.out)
   clear hown6 hb6
   go_wp2_with fail
   have hse:=HSE.out
   exact ⟨⟨j+1,by omega,by have:=HQ.out;go_num,by rw [hse.1,hse.2.1,hse.2.2];exact HR6.out,HX6.out⟩,by have:=HQ.out;simp [intOf];omega⟩
  ·obtain rfl:j=m:=by omega
   have hlm:((8*j:Nat):Int)=16:=by omega
   obtain ⟨ev,hev⟩:∃ ev,(List.range j).map fe=ev:=⟨_,rfl⟩
   obtain ⟨od,hod⟩:∃ od,(List.range j).map fo=od:=⟨_,rfl⟩
   obtain ⟨xs,hxs⟩:∃ xs,((List.range j).map fs).reverse=xs:=⟨_,rfl⟩
   have lev:ev.length=j:=by rw [← hev];simp
   have lod:od.length=j:=by rw [← hod];simp
   rw [hev,hod,hxs] at HR ⊢
   obtain ⟨A1,c1,rfl,h1,_⟩:=OwnN.rdn (n:=j) HR.out.e (by simpa [nW] using lev)
   obtain ⟨A2,c2,rfl,h2,_⟩:=OwnN.rdn (n:=j) HR.out.o (by simpa [nW] using lod)
   have HS:=hid HR.out.s
   have H1:=hid h1
   have H2:=hid h2
   have HEV:=hid (And.intro hev (And.intro hod hxs))
   clear HLE HLO HSH HR h1 h2 hev hod hxs lev lod
   obtain ⟨w9,rfl⟩:∃ x,x=wr:=⟨_,rfl⟩
   have HX9:=hid HX.out
   have hj4:2≤j∧j≤4:=by omega
   have HJ:=hid hj4
   clear HX
   go_wp2_with fail
   clear hm hnm hj hlm hj4
   generalize ((8*j:Nat):Int)=N0
   go_loopw [8,10] (fun v i wv=>∃ k:Nat,k≤20∧i=.int .i64 (k:Nat)∧OwnW wv w9.heap.size v (kL ev od k)∧Ext w9 wv) (fun _ i _=>20 - (intOf i).toNat)
   case atStart=>exact ⟨0,by omega,rfl,World.ownsRow_nil _ _ _ _,Ext.refl _⟩
   case round =>
    obtain ⟨k,hk,rfl,hown,hx⟩:=hrel
    by_cases hlt:k < 20
    ·have e1:=w_ones (2*k) (by omega)
     have e2:=w_ones (2*k+1) (by omega)
     have HA:=hid (fun w hl=>rh_any (UInt32.ofNat (2*k)*0x01010101) ev A1 j c1 w hl HJ.out.1 HJ.out.2)
     have HBB:=hid (fun w hl=>rh_any (UInt32.ofNat (2*k+1)*0x01010101) od A2 j c2 w hl HJ.out.1 HJ.out.2)
     have hkA:HW (UInt32.ofNat (2*k)*0x01010101) ev=kA ev k:=rfl
     have hkB:rolI (HW (UInt32.ofNat (2*k+1)*0x01010101) od) 8=kB od k:=rfl
     have HKB:=hid hkB
     obtain ⟨T,hT⟩:∃ T,HW (UInt32.ofNat (2*k+1)*0x01010101) od=T:=⟨_,rfl⟩
     rw [hT] at HBB HKB
     rw [hkA] at HA
     obtain ⟨X1,hX1⟩:∃ X1,UInt32.ofNat (2*k)*0x01010101=X1:=⟨_,rfl⟩
     obtain ⟨X2,hX2⟩:∃ X2,UInt32.ofNat (2*k+1)*0x01010101=X2:=⟨_,rfl⟩
     rw [hX1] at e1 HA
     rw [hX2] at e2 HBB
     have HST:=hid (show kL ev od (k+1)=kL ev od k++[kA ev k+kB od k,rolI (kA ev k+2*kB od k) 9] by rw [kL])
     obtain ⟨a,ha⟩:∃ a,kA ev k=a:=⟨_,rfl⟩
     obtain ⟨b,hb⟩:∃ b,kB od k=b:=⟨_,rfl⟩
     rw [ha] at HA HST
     rw [hb] at HKB HST
     have e3:=w_add a b
     have e4:=w_two b
     have e5:=w_add a (2*b)
     obtain ⟨d,hd2⟩:∃ d,2*b=d:=⟨_,rfl⟩
     rw [hd2] at e4 e5 HST
     obtain ⟨r1,hr1⟩:∃ r1,a+b=r1:=⟨_,rfl⟩
     obtain ⟨p,hp⟩:∃ p,a+d=p:=⟨_,rfl⟩
     rw [hr1] at e3 HST
     rw [hp] at e5 HST
     have ld:=wlt d
     have la:=wlt a
     have lb:=wlt b
     have HKL:=hid (kL_length ev od k)
     have HX:=hid hx
     have HO:=hid hown
     rw [show ((2*k:Nat):Int)=2*(k:Int) by omega] at e1
     rw [show ((2*k+1:Nat):Int)=2*(k:Int)+1 by omega] at e2
     have hd:(k:Int) < 20:=by omega
     clear hr1 hp hd2 hkA hkB hT hX1 hX2 ha hb hx hown
     go_wp2_with fail
     refine (HA.out _ (H1.out.later HX.out)).mono ?_
     rintro e w2 ⟨rfl,hx2⟩
     have HX2:=hid (Ext.trans HX.out hx2)
     have HO2:=hid (OwnN.kept HO.out hx2)
     clear hx2 e1
     go_wp2_with fail
     refine (HBB.out _ (H2.out.later HX2.out)).mono ?_
     rintro e w3 ⟨rfl,hx3⟩
     have HX3:=hid (Ext.trans HX2.out hx3)
     have HO3:=hid (OwnN.kept HO2.out hx3)
     clear hx3 e2
     go_wp2_with fail
     refine (rrol_w T 8 _).mono ?_
     rintro e w' ⟨rfl,rfl⟩
     rw [HKB.out]
     go_wp2_with fail
     refine (rrol_w p 9 _).mono ?_
     rintro e w' ⟨rfl,rfl⟩
     obtain ⟨r2,hr2⟩:∃ r2,rolI p 9=r2:=⟨_,rfl⟩
     rw [hr2] at HST ⊢
     clear hr2
     have HLT:=hid (lit_rd2 w3 r1 r2)
     have hsz3:=Below.size HX3.out
     have hkl:=HKL.out
     go_wp2_with (refine wpL_appendN _ rfl (.tmp 80) (.tmp 89) 115 rfl Tryz.underlying115 4 Tryz.info37 w9.heap.size _ _ rfl (OwnN.kept HO3.out (Ext.alloc _ _)) _ _ 2 2 _ rfl HLT.out (by rw [nW_length,hkl];omega) (by rw [nW_length,hkl];unfold maxLen;omega) (by simp;omega) ?_;intro v' w4 hown4 hb4)
     have HO5:=hid (show OwnW w4 w9.heap.size v' (kL ev od (k+1)) by
      rw [HST.out]
      unfold OwnW
      rw [nW_append]
      exact hown4)
     have HX5:=hid (show Ext w9 w4 from ((show Below w9.heap.size w9 w3 from HX3.out).alloc (Below.size HX3.out) _).trans hb4)
     clear hown4 hb4
     go_wp2_with fail
     exact ⟨⟨k+1,by omega,by go_num,HO5.out,HX5.out⟩,by simp [intOf];omega⟩
    ·obtain rfl:k=20:=by omega
     have HX:=hid hx
     have HO:=hid hown
     clear hx hown
     have HSL:=hid (OwnN.kept HS.out HX.out)
     have HXX:=hid (Ext.trans HX9.out HX.out)
     go_wp2_with fail
     rw [HEV.out.1,HEV.out.2.1,HEV.out.2.2]
     have h1:=ownN_mono HO.out HX9.out.size
     have h2:=HSL.out
     have h3:=HXX.out
     refine bodyPost_ret (v:=.tuple #[u8,u7,.int .i64 0]) ?_ rfl ⟨_,_,rfl,h1,h2,h3⟩
     simp [results,Tryz.f78,go_sem]
set_option maxHeartbeats 4000000 in
theorem rkeys3_f (b o m n c:Nat) (fe fo fs:Nat→UInt32) (w:World) (hm:m=3) (hnm:n=8*m) (hc:n≤c)
  (hle:∀ j,j < m→∀ W,Ext w W→∀ c',Calls Tryz.prog 131 #[.slice (some ⟨b,o+8*j,none⟩) 4 c'] W fun e w'=>e=.returned (.int .u64 ((fe j).toNat:Nat))∧W=w')
  (hlo:∀ j,j < m→∀ W,Ext w W→∀ c',Calls Tryz.prog 131 #[.slice (some ⟨b,o+(8*j+4),none⟩) 4 c'] W fun e w'=>e=.returned (.int .u64 ((fo j).toNat:Nat))∧W=w')
  (hsh:∀ j,j < m→∀ W,Ext w W→∀ c',Calls Tryz.prog 132 #[.slice (some ⟨b,o+8*j,none⟩) 8 c'] W fun e w'=>e=.returned (.int .u32 ((fs j).toNat:Nat))∧Ext W w') :
  Calls Tryz.prog 78 #[.slice (some ⟨b,o,none⟩) n c] w (KRet w (kL ((List.range m).map fe) ((List.range m).map fo) 20) ((List.range m).map fs).reverse):=by
 have HLE:=hid hle
 have HLO:=hid hlo
 have HSH:=hid hsh
 obtain rfl:n=24:=by omega
 clear hle hlo hsh
 go_enter Tryz.func78,Tryz.ntmps78
 go_wp2_with fail
 go_loopw [5,6,7,9] (fun ve vo vs i wr=>∃ j:Nat,j≤m∧i=.int .i64 (8*j:Nat)∧R3 w.heap.size wr ve vo vs (nW ((List.range j).map fe)) (nW ((List.range j).map fo)) (nW ((List.range j).map fs).reverse)∧Ext w wr) (fun _ _ _ i _=>8*m - (intOf i).toNat)
 case atStart=>exact ⟨0,by omega,rfl,⟨World.ownsRow_nil _ _ _ _,World.ownsRow_nil _ _ _ _,World.ownsRow_nil _ _ _ _,(fun q h=>by cases h),(fun q h=>by cases h),(fun q h=>by cases h)⟩,Ext.refl _⟩
 case round =>
  obtain ⟨j,hj,rfl,hR,hx⟩:=hrel
  have HX:=hid hx
  have HR:=hid hR
  clear hx hR
  by_cases hlt:j < m
  ·have HE:=HLE.out j hlt
   have HO:=HLO.out j hlt
   have HS:=HSH.out j hlt
   have hse:nW ((List.range (j+1)).map fe)=nW ((List.range j).map fe)++[((fe j).toNat:Int)]:=by rw [range_snoc,nW_append];rfl
   have hso:nW ((List.range (j+1)).map fo)=nW ((List.range j).map fo)++[((fo j).toNat:Int)]:=by rw [range_snoc,nW_append];rfl
   have hss:nW ((List.range (j+1)).map fs).reverse=nW [fs j]++nW ((List.range j).map fs).reverse:=by rw [range_snoc,List.reverse_append,← nW_append];rfl
   have lxe:(nW ((List.range j).map fe)).length=j:=by simp [nW]
   have lxo:(nW ((List.range j).map fo)).length=j:=by simp [nW]
   have lxs:(nW ((List.range j).map fs).reverse).length=j:=by simp [nW]
   obtain ⟨xe,hxe⟩:∃ xe,nW ((List.range j).map fe)=xe:=⟨_,rfl⟩
   obtain ⟨xo,hxo⟩:∃ xo,nW ((List.range j).map fo)=xo:=⟨_,rfl⟩
   obtain ⟨xs,hxs⟩:∃ xs,nW ((List.range j).map fs).reverse=xs:=⟨_,rfl⟩
   obtain ⟨y0,hy0⟩:∃ y,fe j=y:=⟨_,rfl⟩
   obtain ⟨y1,hy1⟩:∃ y,fo j=y:=⟨_,rfl⟩
   obtain ⟨y2,hy2⟩:∃ y,fs j=y:=⟨_,rfl⟩
   rw [hxe] at HR hse lxe
   rw [hxo] at HR hso lxo
   rw [hxs] at HR hss lxs
   rw [hy0] at HE hse
   rw [hy1] at HO hso
   rw [hy2] at HS hss
   have k0:=wlt y0
   have k1:=wlt y1
   obtain ⟨q,hq⟩:∃ q,8*j=q:=⟨_,rfl⟩
   rw [hq] at HE HO HS ⊢
   have hqn:q+8≤24:=by omega
   have HQ:=hid hq
   have HHE:=hid HE
   have HHO:=hid HO
   have HHS:=hid HS
   have HSE:=hid (And.intro hse (And.intro hso hss))
   have HLX:=hid (show xe.length≤1000∧xo.length≤1000∧xs.length≤1000 by omega)
   have HW:=hid (Below.size HX.out)
   clear HE HO HS hse hso hss lxe lxo lxs hxe hxo hxs hy0 hy1 hy2 hq
   go_wp2_with fail
   refine (HHE.out wr HX.out _).mono ?_
   rintro e w1 ⟨rfl,rfl⟩
   have HLTE:=hid (lit_own1 wr y0)
   have HRA:=hid (HR.out.ext (Ext.alloc wr (.cells #[.int .u32 (y0.toNat:Nat)] 118)))
   have HXA:=hid (Ext.trans HX.out (Ext.alloc wr (.cells #[.int .u32 (y0.toNat:Nat)] 118)))
   go_wp2_with (refine wpList_app (y:=((y0.toNat:Nat):Int)) (t:=wr.heap.size) (c:=1) rfl (.tmp 32) (.tmp 40) rfl rfl HRA.out.e rfl (by have:=HLX.out;omega) (by exact OwnN.celln HLTE.out rfl 0 (by simp)) HXA.out.size ?_;intro g1 c1 w2 hn1 hg1 hb1)
   have HR2:=hid (HRA.out.setE hn1 hg1 hb1)
   have HX2:=hid (show Ext w w2 from Below.grown HXA.out hg1 HXA.out.size (fun k e=>(HRA.out.e.lt k e).1))
   clear hn1 hg1 hb1
   go_wp2_with fail
   refine (HHO.out w2 HX2.out _).mono ?_
   rintro e w3 ⟨rfl,rfl⟩
   have HLTO:=hid (lit_own1 w2 y1)
   have HRB:=hid (HR2.out.ext (Ext.alloc w2 (.cells #[.int .u32 (y1.toNat:Nat)] 118)))
   have HXB:=hid (Ext.trans HX2.out (Ext.alloc w2 (.cells #[.int .u32 (y1.toNat:Nat)] 118)))
   go_wp2_with (refine wpList_app (y:=((y1.toNat:Nat):Int)) (t:=w2.heap.size) (c:=1) rfl (.tmp 42) (.tmp 51) rfl rfl HRB.out.o rfl (by have:=HLX.out;omega) (by exact OwnN.celln HLTO.out rfl 0 (by simp)) HXB.out.size ?_;intro g2 c2 w4 hn2 hg2 hb2)
   have HR4:=hid (HRB.out.setO hn2 hg2 hb2)
   have HX4:=hid (show Ext w w4 from Below.grown HXB.out hg2 HXB.out.size (fun k e=>(HRB.out.o.lt k e).1))
   clear hn2 hg2 hb2
   go_wp2_with fail
   refine (HHS.out w4 HX4.out _).mono ?_
   rintro e w5 ⟨rfl,hx5⟩
   have HR5:=hid (HR4.out.ext hx5)
   have HX5:=hid (Ext.trans HX4.out hx5)
   clear hx5
   have HLTS:=hid (lit_own1 w5 y2)
   obtain ⟨A5,c5,hvs,hrs,_⟩:=(HR5.out.s.kept (Ext.alloc w5 (.cells #[.int .u32 (y2.toNat:Nat)] 118))).rdn rfl
   have HRS:=hid hrs
   have HVS:=hid hvs
   clear hrs hvs
   go_wp2_with (refine wpL_appendN _ rfl (.tmp 59) (.tmp 60) 115 rfl Tryz.underlying115 4 Tryz.info37 w5.heap.size _ _ rfl HLTS.out _ A5 xs.length c5 _ HVS.out HRS.out (by have:=HLX.out;simp [nW];omega) (by have:=HLX.out;simp [nW];unfold maxLen;omega) (by simp) ?_;intro v' w6 hown6 hb6)
   have HX6':=hid (show Ext w5 w6 from ((Below.refl w5.heap.size w5).alloc (Nat.le_refl _) _).trans hb6)
   have HR6:=hid (HR5.out.setS HX5.out.size hown6 HX6'.out)
   have HX6:=hid (Ext.trans HX5.out HX6'.out)
   clear hown6 hb6
   go_wp2_with fail
   have hse:=HSE.out
   exact ⟨⟨j+1,by omega,by have:=HQ.out;go_num,by rw [hse.1,hse.2.1,hse.2.2];exact HR6.out,HX6.out⟩,by have:=HQ.out;simp [intOf];omega⟩
  ·obtain rfl:j=m:=by omega
   have hlm:((8*j:Nat):Int)=24:=by omega
   obtain ⟨ev,hev⟩:∃ ev,(List.range j).map fe=ev:=⟨_,rfl⟩
   obtain ⟨od,hod⟩:∃ od,(List.range j).map fo=od:=⟨_,rfl⟩
   obtain ⟨xs,hxs⟩:∃ xs,((List.range j).map fs).reverse=xs:=⟨_,rfl⟩
   have lev:ev.length=j:=by rw [← hev];simp
   have lod:od.length=j:=by rw [← hod];simp
   rw [hev,hod,hxs] at HR ⊢
   obtain ⟨A1,c1,rfl,h1,_⟩:=OwnN.rdn (n:=j) HR.out.e (by simpa [nW] using lev)
   obtain ⟨A2,c2,rfl,h2,_⟩:=OwnN.rdn (n:=j) HR.out.o (by simpa [nW] using lod)
   have HS:=hid HR.out.s
   have H1:=hid h1
   have H2:=hid h2
   have HEV:=hid (And.intro hev (And.intro hod hxs))
   clear HLE HLO HSH HR h1 h2 hev hod hxs lev lod
   obtain ⟨w9,rfl⟩:∃ x,x=wr:=⟨_,rfl⟩
   have HX9:=hid HX.out
   have hj4:2≤j∧j≤4:=by omega
   have HJ:=hid hj4
   clear HX
   go_wp2_with fail
   clear hm hnm hj hlm hj4
   generalize ((8*j:Nat):Int)=N0
   go_loopw [8,10] (fun v i wv=>∃ k:Nat,k≤20∧i=.int .i64 (k:Nat)∧OwnW wv w9.heap.size v (kL ev od k)∧Ext w9 wv) (fun _ i _=>20 - (intOf i).toNat)
   case atStart=>exact ⟨0,by omega,rfl,World.ownsRow_nil _ _ _ _,Ext.refl _⟩
   case round =>
    obtain ⟨k,hk,rfl,hown,hx⟩:=hrel
    by_cases hlt:k < 20
    ·have e1:=w_ones (2*k) (by omega)
     have e2:=w_ones (2*k+1) (by omega)
     have HA:=hid (fun w hl=>rh_any (UInt32.ofNat (2*k)*0x01010101) ev A1 j c1 w hl HJ.out.1 HJ.out.2)
     have HBB:=hid (fun w hl=>rh_any (UInt32.ofNat (2*k+1)*0x01010101) od A2 j c2 w hl HJ.out.1 HJ.out.2)
     have hkA:HW (UInt32.ofNat (2*k)*0x01010101) ev=kA ev k:=rfl
     have hkB:rolI (HW (UInt32.ofNat (2*k+1)*0x01010101) od) 8=kB od k:=rfl
     have HKB:=hid hkB
     obtain ⟨T,hT⟩:∃ T,HW (UInt32.ofNat (2*k+1)*0x01010101) od=T:=⟨_,rfl⟩
     rw [hT] at HBB HKB
     rw [hkA] at HA
     obtain ⟨X1,hX1⟩:∃ X1,UInt32.ofNat (2*k)*0x01010101=X1:=⟨_,rfl⟩
     obtain ⟨X2,hX2⟩:∃ X2,UInt32.ofNat (2*k+1)*0x01010101=X2:=⟨_,rfl⟩
     rw [hX1] at e1 HA
     rw [hX2] at e2 HBB
     have HST:=hid (show kL ev od (k+1)=kL ev od k++[kA ev k+kB od k,rolI (kA ev k+2*kB od k) 9] by rw [kL])
     obtain ⟨a,ha⟩:∃ a,kA ev k=a:=⟨_,rfl⟩
     obtain ⟨b,hb⟩:∃ b,kB od k=b:=⟨_,rfl⟩
     rw [ha] at HA HST
     rw [hb] at HKB HST
     have e3:=w_add a b
     have e4:=w_two b
     have e5:=w_add a (2*b)
     obtain ⟨d,hd2⟩:∃ d,2*b=d:=⟨_,rfl⟩
     rw [hd2] at e4 e5 HST
     obtain ⟨r1,hr1⟩:∃ r1,a+b=r1:=⟨_,rfl⟩
     obtain ⟨p,hp⟩:∃ p,a+d=p:=⟨_,rfl⟩
     rw [hr1] at e3 HST
     rw [hp] at e5 HST
     have ld:=wlt d
     have la:=wlt a
     have lb:=wlt b
     have HKL:=hid (kL_length ev od k)
     have HX:=hid hx
     have HO:=hid hown
     rw [show ((2*k:Nat):Int)=2*(k:Int) by omega] at e1
     rw [show ((2*k+1:Nat):Int)=2*(k:Int)+1 by omega] at e2
     have hd:(k:Int) < 20:=by omega
     clear hr1 hp hd2 hkA hkB hT hX1 hX2 ha hb hx hown
     go_wp2_with fail
     refine (HA.out _ (H1.out.later HX.out)).mono ?_
     rintro e w2 ⟨rfl,hx2⟩
     have HX2:=hid (Ext.trans HX.out hx2)
     have HO2:=hid (OwnN.kept HO.out hx2)
     clear hx2 e1
     go_wp2_with fail
     refine (HBB.out _ (H2.out.later HX2.out)).mono ?_
     rintro e w3 ⟨rfl,hx3⟩
     have HX3:=hid (Ext.trans HX2.out hx3)
     have HO3:=hid (OwnN.kept HO2.out hx3)
     clear hx3 e2
     go_wp2_with fail
     refine (rrol_w T 8 _).mono ?_
     rintro e w' ⟨rfl,rfl⟩
     rw [HKB.out]
     go_wp2_with fail
     refine (rrol_w p 9 _).mono ?_
     rintro e w' ⟨rfl,rfl⟩
     obtain ⟨r2,hr2⟩:∃ r2,rolI p 9=r2:=⟨_,rfl⟩
     rw [hr2] at HST ⊢
     clear hr2
     have HLT:=hid (lit_rd2 w3 r1 r2)
     have hsz3:=Below.size HX3.out
     have hkl:=HKL.out
     go_wp2_with (refine wpL_appendN _ rfl (.tmp 80) (.tmp 89) 115 rfl Tryz.underlying115 4 Tryz.info37 w9.heap.size _ _ rfl (OwnN.kept HO3.out (Ext.alloc _ _)) _ _ 2 2 _ rfl HLT.out (by rw [nW_length,hkl];omega) (by rw [nW_length,hkl];unfold maxLen;omega) (by simp;omega) ?_;intro v' w4 hown4 hb4)
     have HO5:=hid (show OwnW w4 w9.heap.size v' (kL ev od (k+1)) by
      rw [HST.out]
      unfold OwnW
      rw [nW_append]
      exact hown4)
     have HX5:=hid (show Ext w9 w4 from ((show Below w9.heap.size w9 w3 from HX3.out).alloc (Below.size HX3.out) _).trans hb4)
     clear hown4 hb4
     go_wp2_with fail
     exact ⟨⟨k+1,by omega,by go_num,HO5.out,HX5.out⟩,by simp [intOf];omega⟩
    ·obtain rfl:k=20:=by omega
     have HX:=hid hx
     have HO:=hid hown
     clear hx hown
     have HSL:=hid (OwnN.kept HS.out HX.out)
     have HXX:=hid (Ext.trans HX9.out HX.out)
     go_wp2_with fail
     rw [HEV.out.1,HEV.out.2.1,HEV.out.2.2]
     have h1:=ownN_mono HO.out HX9.out.size
     have h2:=HSL.out
     have h3:=HXX.out
     refine bodyPost_ret (v:=.tuple #[u8,u7,.int .i64 0]) ?_ rfl ⟨_,_,rfl,h1,h2,h3⟩
     simp [results,Tryz.f78,go_sem]
set_option maxHeartbeats 4000000 in
theorem rkeys4_f (b o m n c:Nat) (fe fo fs:Nat→UInt32) (w:World) (hm:m=4) (hnm:n=8*m) (hc:n≤c)
  (hle:∀ j,j < m→∀ W,Ext w W→∀ c',Calls Tryz.prog 131 #[.slice (some ⟨b,o+8*j,none⟩) 4 c'] W fun e w'=>e=.returned (.int .u64 ((fe j).toNat:Nat))∧W=w')
  (hlo:∀ j,j < m→∀ W,Ext w W→∀ c',Calls Tryz.prog 131 #[.slice (some ⟨b,o+(8*j+4),none⟩) 4 c'] W fun e w'=>e=.returned (.int .u64 ((fo j).toNat:Nat))∧W=w')
  (hsh:∀ j,j < m→∀ W,Ext w W→∀ c',Calls Tryz.prog 132 #[.slice (some ⟨b,o+8*j,none⟩) 8 c'] W fun e w'=>e=.returned (.int .u32 ((fs j).toNat:Nat))∧Ext W w') :
  Calls Tryz.prog 78 #[.slice (some ⟨b,o,none⟩) n c] w (KRet w (kL ((List.range m).map fe) ((List.range m).map fo) 20) ((List.range m).map fs).reverse):=by
 have HLE:=hid hle
 have HLO:=hid hlo
 have HSH:=hid hsh
 obtain rfl:n=32:=by omega
 clear hle hlo hsh
 go_enter Tryz.func78,Tryz.ntmps78
 go_wp2_with fail
 go_loopw [5,6,7,9] (fun ve vo vs i wr=>∃ j:Nat,j≤m∧i=.int .i64 (8*j:Nat)∧R3 w.heap.size wr ve vo vs (nW ((List.range j).map fe)) (nW ((List.range j).map fo)) (nW ((List.range j).map fs).reverse)∧Ext w wr) (fun _ _ _ i _=>8*m - (intOf i).toNat)
 case atStart=>exact ⟨0,by omega,rfl,⟨World.ownsRow_nil _ _ _ _,World.ownsRow_nil _ _ _ _,World.ownsRow_nil _ _ _ _,(fun q h=>by cases h),(fun q h=>by cases h),(fun q h=>by cases h)⟩,Ext.refl _⟩
 case round =>
  obtain ⟨j,hj,rfl,hR,hx⟩:=hrel
  have HX:=hid hx
  have HR:=hid hR
  clear hx hR
  by_cases hlt:j < m
  ·have HE:=HLE.out j hlt
   have HO:=HLO.out j hlt
   have HS:=HSH.out j hlt
   have hse:nW ((List.range (j+1)).map fe)=nW ((List.range j).map fe)++[((fe j).toNat:Int)]:=by rw [range_snoc,nW_append];rfl
   have hso:nW ((List.range (j+1)).map fo)=nW ((List.range j).map fo)++[((fo j).toNat:Int)]:=by rw [range_snoc,nW_append];rfl
   have hss:nW ((List.range (j+1)).map fs).reverse=nW [fs j]++nW ((List.range j).map fs).reverse:=by rw [range_snoc,List.reverse_append,← nW_append];rfl
   have lxe:(nW ((List.range j).map fe)).length=j:=by simp [nW]
   have lxo:(nW ((List.range j).map fo)).length=j:=by simp [nW]
   have lxs:(nW ((List.range j).map fs).reverse).length=j:=by simp [nW]
   obtain ⟨xe,hxe⟩:∃ xe,nW ((List.range j).map fe)=xe:=⟨_,rfl⟩
   obtain ⟨xo,hxo⟩:∃ xo,nW ((List.range j).map fo)=xo:=⟨_,rfl⟩
   obtain ⟨xs,hxs⟩:∃ xs,nW ((List.range j).map fs).reverse=xs:=⟨_,rfl⟩
   obtain ⟨y0,hy0⟩:∃ y,fe j=y:=⟨_,rfl⟩
   obtain ⟨y1,hy1⟩:∃ y,fo j=y:=⟨_,rfl⟩
   obtain ⟨y2,hy2⟩:∃ y,fs j=y:=⟨_,rfl⟩
   rw [hxe] at HR hse lxe
   rw [hxo] at HR hso lxo
   rw [hxs] at HR hss lxs
   rw [hy0] at HE hse
   rw [hy1] at HO hso
   rw [hy2] at HS hss
   have k0:=wlt y0
   have k1:=wlt y1
   obtain ⟨q,hq⟩:∃ q,8*j=q:=⟨_,rfl⟩
   rw [hq] at HE HO HS ⊢
   have hqn:q+8≤32:=by omega
   have HQ:=hid hq
   have HHE:=hid HE
   have HHO:=hid HO
   have HHS:=hid HS
   have HSE:=hid (And.intro hse (And.intro hso hss))
   have HLX:=hid (show xe.length≤1000∧xo.length≤1000∧xs.length≤1000 by omega)
   have HW:=hid (Below.size HX.out)
   clear HE HO HS hse hso hss lxe lxo lxs hxe hxo hxs hy0 hy1 hy2 hq
   go_wp2_with fail
   refine (HHE.out wr HX.out _).mono ?_
   rintro e w1 ⟨rfl,rfl⟩
   have HLTE:=hid (lit_own1 wr y0)
   have HRA:=hid (HR.out.ext (Ext.alloc wr (.cells #[.int .u32 (y0.toNat:Nat)] 118)))
   have HXA:=hid (Ext.trans HX.out (Ext.alloc wr (.cells #[.int .u32 (y0.toNat:Nat)] 118)))
   go_wp2_with (refine wpList_app (y:=((y0.toNat:Nat):Int)) (t:=wr.heap.size) (c:=1) rfl (.tmp 32) (.tmp 40) rfl rfl HRA.out.e rfl (by have:=HLX.out;omega) (by exact OwnN.celln HLTE.out rfl 0 (by simp)) HXA.out.size ?_;intro g1 c1 w2 hn1 hg1 hb1)
   have HR2:=hid (HRA.out.setE hn1 hg1 hb1)
   have HX2:=hid (show Ext w w2 from Below.grown HXA.out hg1 HXA.out.size (fun k e=>(HRA.out.e.lt k e).1))
   clear hn1 hg1 hb1
   go_wp2_with fail
   refine (HHO.out w2 HX2.out _).mono ?_
   rintro e w3 ⟨rfl,rfl⟩
   have HLTO:=hid (lit_own1 w2 y1)
   have HRB:=hid (HR2.out.ext (Ext.alloc w2 (.cells #[.int .u32 (y1.toNat:Nat)] 118)))
   have HXB:=hid (Ext.trans HX2.out (Ext.alloc w2 (.cells #[.int .u32 (y1.toNat:Nat)] 118)))
   go_wp2_with (refine wpList_app (y:=((y1.toNat:Nat):Int)) (t:=w2.heap.size) (c:=1) rfl (.tmp 42) (.tmp 51) rfl rfl HRB.out.o rfl (by have:=HLX.out;omega) (by exact OwnN.celln HLTO.out rfl 0 (by simp)) HXB.out.size ?_;intro g2 c2 w4 hn2 hg2 hb2)
   have HR4:=hid (HRB.out.setO hn2 hg2 hb2)
   have HX4:=hid (show Ext w w4 from Below.grown HXB.out hg2 HXB.out.size (fun k e=>(HRB.out.o.lt k e).1))
   clear hn2 hg2 hb2
   go_wp2_with fail
   refine (HHS.out w4 HX4.out _).mono ?_
   rintro e w5 ⟨rfl,hx5⟩
   have HR5:=hid (HR4.out.ext hx5)
   have HX5:=hid (Ext.trans HX4.out hx5)
   clear hx5
   have HLTS:=hid (lit_own1 w5 y2)
   obtain ⟨A5,c5,hvs,hrs,_⟩:=(HR5.out.s.kept (Ext.alloc w5 (.cells #[.int .u32 (y2.toNat:Nat)] 118))).rdn rfl
   have HRS:=hid hrs
   have HVS:=hid hvs
   clear hrs hvs
   go_wp2_with (refine wpL_appendN _ rfl (.tmp 59) (.tmp 60) 115 rfl Tryz.underlying115 4 Tryz.info37 w5.heap.size _ _ rfl HLTS.out _ A5 xs.length c5 _ HVS.out HRS.out (by have:=HLX.out;simp [nW];omega) (by have:=HLX.out;simp [nW];unfold maxLen;omega) (by simp) ?_;intro v' w6 hown6 hb6)
   have HX6':=hid (show Ext w5 w6 from ((Below.refl w5.heap.size w5).alloc (Nat.le_refl _) _).trans hb6)
   have HR6:=hid (HR5.out.setS HX5.out.size hown6 HX6'.out)
   have HX6:=hid (Ext.trans HX5.out HX6'.out)
   clear hown6 hb6
   go_wp2_with fail
   have hse:=HSE.out
   exact ⟨⟨j+1,by omega,by have:=HQ.out;go_num,by rw [hse.1,hse.2.1,hse.2.2];exact HR6.out,HX6.out⟩,by have:=HQ.out;simp [intOf];omega⟩
  ·obtain rfl:j=m:=by omega
   have hlm:((8*j:Nat):Int)=32:=by omega
   obtain ⟨ev,hev⟩:∃ ev,(List.range j).map fe=ev:=⟨_,rfl⟩
   obtain ⟨od,hod⟩:∃ od,(List.range j).map fo=od:=⟨_,rfl⟩
   obtain ⟨xs,hxs⟩:∃ xs,((List.range j).map fs).reverse=xs:=⟨_,rfl⟩
   have lev:ev.length=j:=by rw [← hev];simp
   have lod:od.length=j:=by rw [← hod];simp
   rw [hev,hod,hxs] at HR ⊢
   obtain ⟨A1,c1,rfl,h1,_⟩:=OwnN.rdn (n:=j) HR.out.e (by simpa [nW] using lev)
   obtain ⟨A2,c2,rfl,h2,_⟩:=OwnN.rdn (n:=j) HR.out.o (by simpa [nW] using lod)
   have HS:=hid HR.out.s
   have H1:=hid h1
   have H2:=hid h2
   have HEV:=hid (And.intro hev (And.intro hod hxs))
   clear HLE HLO HSH HR h1 h2 hev hod hxs lev lod
   obtain ⟨w9,rfl⟩:∃ x,x=wr:=⟨_,rfl⟩
   have HX9:=hid HX.out
   have hj4:2≤j∧j≤4:=by omega
   have HJ:=hid hj4
   clear HX
   go_wp2_with fail
   clear hm hnm hj hlm hj4
   generalize ((8*j:Nat):Int)=N0
   go_loopw [8,10] (fun v i wv=>∃ k:Nat,k≤20∧i=.int .i64 (k:Nat)∧OwnW wv w9.heap.size v (kL ev od k)∧Ext w9 wv) (fun _ i _=>20 - (intOf i).toNat)
   case atStart=>exact ⟨0,by omega,rfl,World.ownsRow_nil _ _ _ _,Ext.refl _⟩
   case round =>
    obtain ⟨k,hk,rfl,hown,hx⟩:=hrel
    by_cases hlt:k < 20
    ·have e1:=w_ones (2*k) (by omega)
     have e2:=w_ones (2*k+1) (by omega)
     have HA:=hid (fun w hl=>rh_any (UInt32.ofNat (2*k)*0x01010101) ev A1 j c1 w hl HJ.out.1 HJ.out.2)
     have HBB:=hid (fun w hl=>rh_any (UInt32.ofNat (2*k+1)*0x01010101) od A2 j c2 w hl HJ.out.1 HJ.out.2)
     have hkA:HW (UInt32.ofNat (2*k)*0x01010101) ev=kA ev k:=rfl
     have hkB:rolI (HW (UInt32.ofNat (2*k+1)*0x01010101) od) 8=kB od k:=rfl
     have HKB:=hid hkB
     obtain ⟨T,hT⟩:∃ T,HW (UInt32.ofNat (2*k+1)*0x01010101) od=T:=⟨_,rfl⟩
     rw [hT] at HBB HKB
     rw [hkA] at HA
     obtain ⟨X1,hX1⟩:∃ X1,UInt32.ofNat (2*k)*0x01010101=X1:=⟨_,rfl⟩
     obtain ⟨X2,hX2⟩:∃ X2,UInt32.ofNat (2*k+1)*0x01010101=X2:=⟨_,rfl⟩
     rw [hX1] at e1 HA
     rw [hX2] at e2 HBB
     have HST:=hid (show kL ev od (k+1)=kL ev od k++[kA ev k+kB od k,rolI (kA ev k+2*kB od k) 9] by rw [kL])
     obtain ⟨a,ha⟩:∃ a,kA ev k=a:=⟨_,rfl⟩
     obtain ⟨b,hb⟩:∃ b,kB od k=b:=⟨_,rfl⟩
     rw [ha] at HA HST
     rw [hb] at HKB HST
     have e3:=w_add a b
     have e4:=w_two b
     have e5:=w_add a (2*b)
     obtain ⟨d,hd2⟩:∃ d,2*b=d:=⟨_,rfl⟩
     rw [hd2] at e4 e5 HST
     obtain ⟨r1,hr1⟩:∃ r1,a+b=r1:=⟨_,rfl⟩
     obtain ⟨p,hp⟩:∃ p,a+d=p:=⟨_,rfl⟩
     rw [hr1] at e3 HST
     rw [hp] at e5 HST
     have ld:=wlt d
     have la:=wlt a
     have lb:=wlt b
     have HKL:=hid (kL_length ev od k)
     have HX:=hid hx
     have HO:=hid hown
     rw [show ((2*k:Nat):Int)=2*(k:Int) by omega] at e1
     rw [show ((2*k+1:Nat):Int)=2*(k:Int)+1 by omega] at e2
     have hd:(k:Int) < 20:=by omega
     clear hr1 hp hd2 hkA hkB hT hX1 hX2 ha hb hx hown
     go_wp2_with fail
     refine (HA.out _ (H1.out.later HX.out)).mono ?_
     rintro e w2 ⟨rfl,hx2⟩
     have HX2:=hid (Ext.trans HX.out hx2)
     have HO2:=hid (OwnN.kept HO.out hx2)
     clear hx2 e1
     go_wp2_with fail
     refine (HBB.out _ (H2.out.later HX2.out)).mono ?_
     rintro e w3 ⟨rfl,hx3⟩
     have HX3:=hid (Ext.trans HX2.out hx3)
     have HO3:=hid (OwnN.kept HO2.out hx3)
     clear hx3 e2
     go_wp2_with fail
     refine (rrol_w T 8 _).mono ?_
     rintro e w' ⟨rfl,rfl⟩
     rw [HKB.out]
     go_wp2_with fail
     refine (rrol_w p 9 _).mono ?_
     rintro e w' ⟨rfl,rfl⟩
     obtain ⟨r2,hr2⟩:∃ r2,rolI p 9=r2:=⟨_,rfl⟩
     rw [hr2] at HST ⊢
     clear hr2
     have HLT:=hid (lit_rd2 w3 r1 r2)
     have hsz3:=Below.size HX3.out
     have hkl:=HKL.out
     go_wp2_with (refine wpL_appendN _ rfl (.tmp 80) (.tmp 89) 115 rfl Tryz.underlying115 4 Tryz.info37 w9.heap.size _ _ rfl (OwnN.kept HO3.out (Ext.alloc _ _)) _ _ 2 2 _ rfl HLT.out (by rw [nW_length,hkl];omega) (by rw [nW_length,hkl];unfold maxLen;omega) (by simp;omega) ?_;intro v' w4 hown4 hb4)
     have HO5:=hid (show OwnW w4 w9.heap.size v' (kL ev od (k+1)) by
      rw [HST.out]
      unfold OwnW
      rw [nW_append]
      exact hown4)
     have HX5:=hid (show Ext w9 w4 from ((show Below w9.heap.size w9 w3 from HX3.out).alloc (Below.size HX3.out) _).trans hb4)
     clear hown4 hb4
     go_wp2_with fail
     exact ⟨⟨k+1,by omega,by go_num,HO5.out,HX5.out⟩,by simp [intOf];omega⟩
    ·obtain rfl:k=20:=by omega
     have HX:=hid hx
     have HO:=hid hown
     clear hx hown
     have HSL:=hid (OwnN.kept HS.out HX.out)
     have HXX:=hid (Ext.trans HX9.out HX.out)
     go_wp2_with fail
     rw [HEV.out.1,HEV.out.2.1,HEV.out.2.2]
     have h1:=ownN_mono HO.out HX9.out.size
     have h2:=HSL.out
     have h3:=HXX.out
     refine bodyPost_ret (v:=.tuple #[u8,u7,.int .i64 0]) ?_ rfl ⟨_,_,rfl,h1,h2,h3⟩
     simp [results,Tryz.f78,go_sem]
theorem le_word {w:World} {B n b o i c:Nat} {key:List UInt8} (h:Rd w B (some ⟨b,o,none⟩) n key) (hi:4*i+4≤n) :
  Calls Tryz.prog 131 #[.slice (some ⟨b,o+4*i,none⟩) 4 c] w fun e w'=>e=.returned (.int .u64 ((wdL key (4*i)).toNat:Nat))∧w=w':=by
 obtain ⟨L,hL,e⟩:=rd_four h hi
 refine (little_any _ 4 c B L w hL (by omega)).mono ?_
 rintro e1 w1 ⟨rfl,rfl⟩
 rw [le_wd4,e]
 exact ⟨rfl,rfl⟩
theorem rkeys_any (A:Option Addr) (n c:Nat) (key:List UInt8) (w:World) (hr:Rd w w.heap.size A n key) (hn:n=16∨n=24∨n=32) (hc:n≤c) :
  Calls Tryz.prog 78 #[.slice A n c] w (KRet w (keysL key) (sL key)):=by
 obtain ⟨b,o,rfl,_,_⟩:=hr.at_ (by omega)
 have hl:=hr.len
 have hle:∀ j,8*j+8≤n→∀ W,Ext w W→∀ c',Calls Tryz.prog 131 #[.slice (some ⟨b,o+8*j,none⟩) 4 c'] W fun e w'=>e=.returned (.int .u64 ((wdL key (8*j)).toNat:Nat))∧W=w':=fun j hj W hx c'=>by
  have:=le_word (i:=2*j) (c:=c') (hr.later hx) (by omega)
  rw [show 4*(2*j)=8*j by omega] at this
  exact this
 have hlo:∀ j,8*j+8≤n→∀ W,Ext w W→∀ c',Calls Tryz.prog 131 #[.slice (some ⟨b,o+(8*j+4),none⟩) 4 c'] W fun e w'=>e=.returned (.int .u64 ((wdL key (8*j+4)).toNat:Nat))∧W=w':=fun j hj W hx c'=>by
  have:=le_word (i:=2*j+1) (c:=c') (hr.later hx) (by omega)
  rw [show 4*(2*j+1)=8*j+4 by omega] at this
  exact this
 have hsh:∀ j,8*j+8≤n→∀ W,Ext w W→∀ c',Calls Tryz.prog 132 #[.slice (some ⟨b,o+8*j,none⟩) 8 c'] W fun e w'=>e=.returned (.int .u32 ((shrW (pt key j)).toNat:Nat))∧Ext W w':=fun j hj W hx c' =>
  told_any (pt key j) _ c' W (rd_eight (hr.later hx) hj)
 unfold keysL evL odL sL sU
 rw [hl]
 rcases hn with rfl | rfl | rfl
 ·exact rkeys2_f b o 2 16 c (fun j=>wdL key (8*j)) (fun j=>wdL key (8*j+4)) (fun j=>shrW (pt key j)) w rfl rfl hc (fun j hj=>hle j (by omega)) (fun j hj=>hlo j (by omega)) (fun j hj=>hsh j (by omega))
 ·exact rkeys3_f b o 3 24 c (fun j=>wdL key (8*j)) (fun j=>wdL key (8*j+4)) (fun j=>shrW (pt key j)) w rfl rfl hc (fun j hj=>hle j (by omega)) (fun j hj=>hlo j (by omega)) (fun j hj=>hsh j (by omega))
 ·exact rkeys4_f b o 4 32 c (fun j=>wdL key (8*j)) (fun j=>wdL key (8*j+4)) (fun j=>shrW (pt key j)) w rfl rfl hc (fun j hj=>hle j (by omega)) (fun j hj=>hlo j (by omega)) (fun j hj=>hsh j (by omega))
end Go.Proofs.YtbgkmicelmenfaaGreatDoor.T
namespace Go.Proofs.YtbgkmicelmenfaaGreatDoor.T
open Go.RowKit
set_option maxRecDepth 100000
def W4.cells (x:W4):Array Value:=#[.int .u32 (x.a.toNat:Nat),.int .u32 (x.b.toNat:Nat),.int .u32 (x.c.toNat:Nat),.int .u32 (x.d.toNat:Nat)]
theorem W4.size (x:W4):(Tryz.prog.info? 123).map (·.size)=some x.cells.size:=by
 have h:(Tryz.prog.info? 123).map (·.size)=some 4:=by kernel_rfl
 rw [h];rfl
theorem W4.all (x:W4):x.cells.all (·.oneCell')=true:=by simp [W4.cells,Value.oneCell']
section
variable {w w':World} {g:Nat} {x:W4}
end
def W4.at (r:W4) (j:Nat):UInt32:=[r.a,r.b,r.c,r.d].getD j 0
end Go.Proofs.YtbgkmicelmenfaaGreatDoor.T
namespace Go.Proofs.YtbgkmicelmenfaaGreatDoor.T
open Go.RowKit
set_option maxRecDepth 100000
structure TwoAt (w:World) (p:Nat) (ks ss:List UInt32) (A:Option Addr) (n c:Nat):Prop where
 key:∀ j,j < 40→w.cell? ⟨p,j,none⟩=some (.int .u32 ((ks.getD j 0).toNat:Nat))
 row:w.cell? ⟨p,40,none⟩=some (.slice A n c)
 rd:RdN .u32 w w.heap.size A n (nW ss)
 two:2≤n
 four:n≤4
theorem TwoAt.later {w w':World} {p n c:Nat} {ks ss:List UInt32} {A:Option Addr} (h:TwoAt w p ks ss A n c) (hx:Ext w w'):TwoAt w' p ks ss A n c :=
 ⟨fun j hj=>cell_at hx (h.key j hj),cell_at hx h.row,h.rd.later hx,h.two,h.four⟩
def IsTwo (w:World) (p:Nat) (ks ss:List UInt32):Prop:=∃ A n c,TwoAt w p ks ss A n c
theorem IsTwo.later {w w':World} {p:Nat} {ks ss:List UInt32} (h:IsTwo w p ks ss) (hx:Ext w w'):IsTwo w' p ks ss:=by
 obtain ⟨A,n,c,h⟩:=h
 exact ⟨A,n,c,h.later hx⟩
end Go.Proofs.YtbgkmicelmenfaaGreatDoor.T
namespace Go.Proofs.YtbgkmicelmenfaaGreatDoor.T
open Go.RowKit
set_option maxRecDepth 100000
def rowF (f:Nat→UInt32):List Value:=(List.range 40).map fun j=>Value.int .u32 ((f j).toNat:Nat)
theorem rowF_length (f:Nat→UInt32):(rowF f).length=40:=by simp [rowF]
theorem rowF_get (f:Nat→UInt32) {j:Nat} (hj:j < 40):(rowF f)[j]? = some (.int .u32 ((f j).toNat:Nat)):=by simp [rowF,hj]
theorem build76 (f:Nat→UInt32) (A:Option Addr) (n c:Nat) (w:World):(Instr.build 121 #[(0,.agg (rowF f).toArray),(1,.slice A n c)]).run Tryz.prog w=.ok (.agg (rowF f++[Value.slice A n c]).toArray) w:=by kernel_rfl
theorem wpList_build76 {ops:Array Oper} {rest:List Oper} {o:Oper} {a:Act} {w:World} {Q:Exit→Act→World→Prop} (hg:o.guard=none) (x y:Operand) (f:Nat→UInt32) (row:List Value) (hrow:rowF f=row) (A:Option Addr) (n c:Nat)
  (ho:o.op=.build 121 #[(0,x),(1,y)]) (hx:a.eval x=.agg row.toArray) (hy:a.eval y=.slice A n c)
  (h:wpList Tryz.prog ops Q rest (a.put o.dst (.agg (row++[Value.slice A n c]).toArray)) w):wpList Tryz.prog ops Q (o::rest) a w:=by
 refine wpList_plain hg fun K hK=>?_
 have e:=build76 f A n c w
 rw [hrow] at e
 unfold Oper.wp execOp
 simp only [ho,List.map_toArray,List.map_cons,List.map_nil,hx,hy,Sem.run_bind,e,Sem.run_pure,Result.andThen]
 exact hK _ _ h
theorem s74:(Tryz.prog.info? 119).map (·.size)=some 40:=by kernel_rfl
theorem two_of {w:World} {p n c:Nat} {ks ss:List UInt32} {A:Option Addr} (h:w.heap[p]? = some (.cells (rowF (fun j=>ks.getD j 0)++[Value.slice A n c]).toArray 121 (0,0))) (hr:RdN .u32 w w.heap.size A n (nW ss)) (h2:2≤n) (h4:n≤4):TwoAt w p ks ss A n c where
 key:=fun j hj=>by
  rw [cell_of_row w p j _ _ _ h,List.getElem?_toArray,List.getElem?_append_left (by rw [rowF_length];exact hj),rowF_get _ hj]
 row:=by
  rw [cell_of_row w p 40 _ _ _ h,List.getElem?_toArray,List.getElem?_append_right (by rw [rowF_length];exact Nat.le_refl _),rowF_length]
  rfl
 rd:=hr
 two:=h2
 four:=h4
theorem keysL_length (key:List UInt8):(keysL key).length=40:=by unfold keysL;rw [kL_length]
theorem sL_length (key:List UInt8):(sL key).length=key.length / 8:=by simp [sL,sU]
def NewRet (w:World) (key:List UInt8) (e:Ending) (w':World):Prop :=
 ∃ p,e=.returned (.tuple #[.pointer (some ⟨p,0,none⟩),.int .i64 0])∧IsTwo w' p (keysL key) (sL key)∧w.heap.size≤p∧Ext w w'
set_option maxHeartbeats 4000000 in
theorem new_any (A:Option Addr) (n c:Nat) (key:List UInt8) (w:World) (hG:GT w) (hr:Rd w w.heap.size A n key) (hn:n=16∨n=24∨n=32) (hc:n≤c) :
  Calls Tryz.prog 32 #[.slice A n c] w (NewRet w key):=by
 have HK:=hid (keys_any A n c key w hG hr hn hc)
 have hsl:=sL_length key
 rw [hr.len] at hsl
 have HSL:=hid (show 2≤(sL key).length∧(sL key).length≤4 by omega)
 have HKL:=hid (keysL_length key)
 clear hG hr hn hc hsl
 obtain ⟨ks,hks⟩:∃ ks,keysL key=ks:=⟨_,rfl⟩
 obtain ⟨ss,hss⟩:∃ ss,sL key=ss:=⟨_,rfl⟩
 have HEQ:=hid (And.intro hks hss)
 rw [hks] at HK HKL
 rw [hss] at HK HSL
 clear hks hss
 go_enter Tryz.func32,Tryz.ntmps32
 go_wp2_with fail
 refine HK.out.mono ?_
 rintro e w1 ⟨v1,v2,rfl,o1,o2,hx1⟩
 obtain ⟨A2,c2,rfl,hr2,_⟩:=OwnN.rdn o2 (show (nW ss).length=ss.length by simp [nW])
 obtain ⟨g,c1,rfl,hc1,hg1,hg2⟩:=OwnN.head (n:=40) o1 (by simp [nW];exact HKL.out) (by omega)
 have hra:w1.rangeAt g 0 (rowF (fun j=>ks.getD j 0)):=fun j v hv=>by
  have hj:j < 40:=by
   rcases Nat.lt_or_ge j 40 with h1 | h1
   ·exact h1
   ·rw [List.getElem?_eq_none (by rw [rowF_length];exact h1)] at hv;cases hv
  rw [rowF_get _ hj] at hv
  cases hv
  rw [Nat.zero_add,OwnN.celln o1 (by simp [nW];exact HKL.out) j hj,nW_get _ _ (by rw [HKL.out];exact hj)]
 have HRA:=hid hra
 have HR2:=hid hr2
 have HX1:=hid hx1
 have HAT:=hid (fun w=>run_arrayAt (P:=Tryz.prog) w 119 118 40 (some ⟨g,0,none⟩) 40 c1 Tryz.underlying119 (Nat.le_refl _))
 have HS74:=hid s74
 obtain ⟨row,hrow⟩:∃ row,rowF (fun j=>ks.getD j 0)=row:=⟨_,rfl⟩
 have hrl:row.length=40:=by rw [← hrow];exact rowF_length _
 have HRW:=hid hrow
 have HRL:=hid hrl
 rw [hrow] at HRA
 clear hra hr2 hx1 o1 o2 hg1 hg2 hc1 hrow hrl
 go_wp2_with (first
  | (rw [HAT.out];simp only [Result.andThen];rw [Oper.upon_value])
  | (refine wpList_load_mid rfl 119 (.tmp 17) rfl g 0 rfl row _ HRA.out Tryz.underlying119 rfl (by rw [HS74.out,HRL.out]) ?_)
  | (refine wpList_build76 rfl (.tmp 18) (.tmp 19) _ row HRW.out A2 ss.length c2 rfl rfl rfl ?_))
 have hh:=heap_alloc_new w1 (.cells (row++[Value.slice A2 ss.length c2]).toArray 121)
 have hx9:Ext w1 (w1.alloc (.cells (row++[Value.slice A2 ss.length c2]).toArray 121)):=Ext.alloc _ _
 go_ret2
 have hsz:=Below.size HX1.out
 have hr9:=HRW.out
 subst hr9
 refine ⟨w1.heap.size,rfl,?_,hsz,?_⟩
 ·rw [HEQ.out.1,HEQ.out.2]
  exact ⟨A2,ss.length,c2,two_of hh (HR2.out.later hx9) HSL.out.1 HSL.out.2⟩
 ·exact Ext.trans HX1.out hx9
end Go.Proofs.YtbgkmicelmenfaaGreatDoor.T
namespace Go.Proofs.YtbgkmicelmenfaaGreatDoor.T
open Go.RowKit
set_option maxRecDepth 100000
set_option maxRecDepth 100000
structure RTw (w:World) (p:Nat) (ks ss:List UInt32) (A B:Option Addr) (cA n c:Nat):Prop where
 kc:w.cell? ⟨p,0,none⟩=some (.slice A 40 cA)
 krd:RdN .u32 w w.heap.size A 40 (nW ks)
 sc:w.cell? ⟨p,1,none⟩=some (.slice B n c)
 srd:RdN .u32 w w.heap.size B n (nW ss)
 two:2≤n
 four:n≤4
theorem RTw.later {w w':World} {p cA n c:Nat} {ks ss:List UInt32} {A B:Option Addr} (h:RTw w p ks ss A B cA n c) (hx:Ext w w'):RTw w' p ks ss A B cA n c :=
 ⟨cell_at hx h.kc,h.krd.later hx,cell_at hx h.sc,h.srd.later hx,h.two,h.four⟩
def IsRTw (w:World) (p:Nat) (ks ss:List UInt32):Prop:=∃ A B cA n c,RTw w p ks ss A B cA n c
theorem IsRTw.later {w w':World} {p:Nat} {ks ss:List UInt32} (h:IsRTw w p ks ss) (hx:Ext w w'):IsRTw w' p ks ss:=by
 obtain ⟨A,B,cA,n,c,h⟩:=h
 exact ⟨A,B,cA,n,c,h.later hx⟩
set_option maxHeartbeats 1000000 in
theorem rnew_any (A:Option Addr) (n c:Nat) (key:List UInt8) (w:World) (hr:Rd w w.heap.size A n key) (hn:n=16∨n=24∨n=32) (hc:n≤c) :
  Calls Tryz.prog 42 #[.slice A n c] w fun e w'=>∃ p,e=.returned (.tuple #[.pointer (some ⟨p,0,none⟩),.int .i64 0])∧IsRTw w' p (keysL key) (sL key)∧Ext w w':=by
 have hl:=hr.len
 have HKL:=hid (show (keysL key).length=40 from kL_length _ _ 20)
 have HSL:=hid (show (sL key).length=n / 8 by unfold sL sU;rw [List.length_reverse,List.length_map,List.length_range,hl])
 have HN:=hid hn
 have HC:=hid (rkeys_any A n c key w hr hn hc)
 clear hl hr hn hc
 go_enter Tryz.func42,Tryz.ntmps42
 go_wp2_with fail
 refine HC.out.mono ?_
 rintro e w1 ⟨v1,v2,rfl,ho1,ho2,hx1⟩
 obtain ⟨A1,c1,rfl,hr1,_⟩:=ho1.rdn (n:=40) (by rw [nW_length];exact HKL.out)
 obtain ⟨A2,c2,rfl,hr2,_⟩:=ho2.rdn (n:=n / 8) (by rw [nW_length];exact HSL.out)
 have h3:=heap_alloc_new w1 (.cells #[.slice A1 40 c1,.slice A2 (n / 8) c2] 162)
 have x3:=Ext.alloc w1 (.cells #[.slice A1 40 c1,.slice A2 (n / 8) c2] 162)
 have HH:=hid (show IsRTw _ w1.heap.size (keysL key) (sL key)∧Ext w _ from ⟨⟨A1,A2,c1,n / 8,c2,by rw [cell_of_row _ _ _ _ _ _ h3];rfl,hr1.later x3,by rw [cell_of_row _ _ _ _ _ _ h3];rfl,hr2.later x3,by have:=HN.out;omega,by have:=HN.out;omega⟩,hx1.trans x3⟩)
 clear ho1 ho2 hr1 hr2 h3 x3 hx1 HC
 go_wp2_with fail
 go_ret2
 exact ⟨_,rfl,HH.out⟩
end Go.Proofs.YtbgkmicelmenfaaGreatDoor.T
