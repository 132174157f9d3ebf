/- What the walk over ModesCut wants; own lemmas of the verifier, no statement is proved here. -/
import Derived.Test.YtiajebbfgpnenaaGreatDoorQC
namespace Go.Proofs.YtiajebbfgpnenaaGreatDoor.C
open Go.RowKit
set_option maxRecDepth 100000
set_option maxHeartbeats 8000000
theorem ztS{w:World}{base B n:Nat}{v:Value}{xs ys:List UInt8}{A:Option Addr}(c:Nat)(ty:TypeId)(hown:Own w base v xs)(hrd:Rd w B A n ys)(hlen:xs.length+n<=100000)(hbase:base<=w.heap.size):
  ∃v' w',(Builtin.append_ #[22,22] ty #[v,.slice A n c]).run Tryz.prog w=.ok v' w'/\Own w' base v' (xs++ys)/\w.grownBy w' v.ownBlock/\∀k,v'.ownBlock=some k->v.ownBlock=some k\/w.heap.size<=k:=by
 obtain⟨i0,hi,hz0,hz1,hz2⟩:=info_parts Tryz.info5;have hu:Tryz.prog.underlying 22=some (.slice 5):=Tryz.underlying22;have hyl:=hrd.len;cases A with
 | none =>
   obtain rfl:n=0:=by
    rcases Nat.eq_zero_or_pos n with h0|h0
    ·exact h0
    ·obtain⟨b,off,e,_⟩:=hrd.at_ h0;cases e
   obtain rfl:ys = []:=List.eq_nil_of_length_eq_zero hyl;refine⟨v,w,?_,by simpa using hown,⟨rfl,rfl,rfl,Nat.le_refl _,fun _ _ _=>rfl⟩,fun _=>.inl⟩;rcases hown.2 with⟨rfl,_⟩|⟨g,cap,cur,rfl,_,_,hnc,_⟩
   ·simp[Builtin.append_,run_underlying hu,sizeOf,typeInfo,hi,Builtin.lenOf,Builtin.firstCells]
   ·simp[Builtin.append_,run_underlying hu,sizeOf,typeInfo,hi,Builtin.lenOf,Builtin.firstCells,hnc,storeCells]
 | some ad =>
   have hnl:(cellsOf ys).length=n*i0.size:=by rw[zaa,hz1];omega
   have hnews:∀j u,(cellsOf ys)[j]? = some u->w.cell? (ad.add j)=some u:=by
    intro j u hu;rcases Nat.lt_or_ge j n with hj|hj
    ·obtain⟨b,off,e,_,hc⟩:=hrd.at_ (by omega);cases e
     rw[zal ys j (by omega)] at hu;cases hu
     rw[zaK];exact hc j hj
    ·rw[List.getElem?_eq_none (by rw[zaa];omega)] at hu;cases hu
   have run (base:Nat) (hown:Own w base v xs) (hbase:base<=w.heap.size):=run_append_own (P:=Tryz.prog) w base 22 ty 5 i0 (.int .u8 0) 1 1 hu hi hz0 hz1 hz2 rfl (by decide) v xs.length (cellsOf xs) hown ad n c (cellsOf ys) (by rw[zaa];omega) hnews (zaN ys) (by unfold maxLen;omega) (by omega) hbase;obtain⟨v',w',hr,h2,h3,_⟩:=run base hown hbase;refine⟨v',w',hr,?_,h3,fun k hk=>?_⟩
   ·unfold Own;rw[List.length_append,zbr,hyl];exact h2
   rcases hown.2 with⟨hv,hl⟩|⟨g,cap,cur,hv,hbg,hg,hnc,hcm,hcs,htake⟩
   ·obtain rfl:xs = []:=List.eq_nil_of_length_eq_zero hl;obtain⟨v2,w2,hr2,h4,_,_⟩:=run w.heap.size (by rw[hv];exact Own.nil _ _) (Nat.le_refl _);have e:=hr.symm.trans hr2;simp only[Result.ok.injEq] at e;obtain⟨rfl,rfl⟩:=e;exact .inr (World.ownsRow.lt h4 k hk).1
   ·subst hv;by_cases hroom:xs.length+n<=cap
    ·have hr2:=run_append_room (P:=Tryz.prog) w 22 ty 5 i0 hu hi g xs.length cap cur hg ad n c (cellsOf ys) hnl hnews (zaN ys) hroom (by rw[hz1,hnl,hz1,hcs];omega);have e:=hr.symm.trans hr2;simp only[Result.ok.injEq] at e;obtain⟨rfl,_⟩:=e;exact .inl hk
    ·have hr2:=run_append_grow (P:=Tryz.prog) w 22 ty 5 i0 (.int .u8 0) hu hi hz0 ⟨g,0,none⟩ xs.length cap (cellsOf xs) (by rw[zaa,hz1,Nat.mul_one]) (by have:=World.ownsRow.cells (g:=g) (show w.ownsRow base 5 1 (.slice (some ⟨g,0,none⟩) xs.length cap) xs.length (cellsOf xs) from hown) rfl;exact this) ad n c (cellsOf ys) hnl hnews (by omega) (by omega) (growslice_fits (by omega) (by rw[hz2];omega));have e:=hr.symm.trans hr2;simp only[Result.ok.injEq] at e;obtain⟨rfl,_⟩:=e;cases hk
     exact .inr (Nat.le_refl _)
theorem zi{w:World}{ops:Array Oper}{rest:List Oper}{o:Oper}{a:Act}{Q:Exit->Act->World->Prop}(hgd:o.guard=none)(s x:Operand)
  (ho:o.op=.call { callee:=.builtin .append,args:=#[s,x],argTypes:=#[22,22] })
  {base B n c:Nat} {v:Value} {xs ys:List UInt8} {A:Option Addr} (hs:a.eval s=v) (hown:Own w base v xs) (hx:a.eval x=.slice A n c) (hr:Rd w B A n ys) (hlen:xs.length+n<=100000) (hb:base<=w.heap.size)
  (h:∀v' w',Own w' base v' (xs++ys)->w.grownBy w' v.ownBlock->(∀k,v'.ownBlock=some k->v.ownBlock=some k\/w.heap.size<=k)->wpList Tryz.prog ops Q rest (a.put o.dst v') w'):
  wpList Tryz.prog ops Q (o::rest) a w:=by
 obtain⟨v',w',hrun,r1,r2,r3⟩:=ztS c o.type hown hr hlen hb;refine wpList_plain hgd fun K hK'=>?_
 unfold Oper.wp;simp[execOp,ho,resolve,invoke,builtin,hs,hx,hrun,Result.andThen];exact hK' _ _ (h v' w' r1 r2 r3)
def At(v:Value):Nat->Prop:=fun k=>v.ownBlock=some k
theorem IsM.app{w w':World}{p pc n m:Nat}{back:Bool}{s:St}{v v':Value}{B:Nat}(h:IsM (At v) w p pc n m back s)(hp:p<B)(hb:∀k,v.ownBlock=some k->B<=k)(hg:w.grownBy w' v.ownBlock)(hl:∀k,v'.ownBlock=some k->v.ownBlock=some k\/w.heap.size<=k):
  IsM (At v') w' p pc n m back s:=by
 have h1:=h.na (O':=fun k=>At v k\/At v' k) (fun q hq=>hq.elim .inl (hl q));refine IsM.na (O:=fun k=>At v k\/At v' k) ?_ (fun q h=>.inl (.inr h));obtain⟨r,hr⟩:∃r,v.ownBlock=r:=⟨_,rfl⟩;rw[hr] at hg;cases r with
 | none=>exact h1.later ⟨hg.os,hg.tape,hg.output,hg.size,fun k hk=>hg.block k hk (by simp)⟩
 | some q=>exact h1.out (.inl hr) (by have:=hb q hr;omega) hg
theorem zjy{w w':World}{p B n:Nat}{A:Option Addr}{bs:List UInt8}(h:Rd w B A n bs)(hB:B<=w.heap.size)(hp:zex w p)(hg:GB p w w'):Rd w' B A n bs :=
 ⟨h.len,fun hn=>by
  obtain⟨b,o,rfl,hb,hc⟩:=h.at_ hn;obtain⟨b',o',e,_,hc'⟩:=((h.more hB).gb hp hg).at_ hn;cases e
  exact⟨b,o,rfl,hb,hc'⟩⟩
theorem zmm(x:Int)(g:Nat)(hg:1<=g/\g<=16):∃(d D:Nat),x%9=(d:Int)/\wrap64 ((d:Int)*(g:Int))=(D:Int)/\D<=200/\D%g=0:=by
 have h1:=Int.emod_nonneg x (show(9:Int)≠0 by omega);have h2:=Int.emod_lt_of_pos x (show(0:Int)<9 by omega);obtain⟨d,hd⟩:∃d:Nat,x%9=(d:Int):=⟨(x%9).toNat,by omega⟩;rw[hd] at h1 h2;have h4:d*g<=8*16:=Nat.mul_le_mul (by omega) hg.2;refine⟨d,d*g,hd,?_,by omega,Nat.mul_mod_left _ _⟩;rw[<-Int.natCast_mul];generalize d*g=D at h4 ⊢;exact IntWalk.wrap64_in _ (by omega)
theorem zn0{a b g:Nat}(h:b%g=0)(h':a%g=0):(b-a)%g=0:=Nat.mod_eq_zero_of_dvd (Nat.dvd_sub (Nat.dvd_of_mod_eq_zero h) (Nat.dvd_of_mod_eq_zero h'))
theorem ztk{a b g:Nat}(h:b%g=0)(h':a%g=0):(b+a)%g=0:=Nat.mod_eq_zero_of_dvd (Nat.dvd_add (Nat.dvd_of_mod_eq_zero h) (Nat.dvd_of_mod_eq_zero h'))
end Go.Proofs.YtiajebbfgpnenaaGreatDoor.C
