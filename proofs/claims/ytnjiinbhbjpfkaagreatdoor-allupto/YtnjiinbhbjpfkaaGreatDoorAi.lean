import Derived.Test.YtnjiinbhbjpfkaaGreatDoorAg
set_option maxRecDepth 100000
set_option maxHeartbeats 0
set_option linter.all false
namespace Go.Proofs.YtnjiinbhbjpfkaaGreatDoor
open Go.RowKit Go.Proofs.Tryz
namespace F
variable {p:dH}{s s':Pl}{t:Nat}{why:Int}
def Uk(s s':Pl):Prop:=s'.kd.un=s.kd.un/\s'.kd.cc=s.kd.cc
theorem Uk.of(h:s'.kd=s.kd):Uk s s':=by grind[Uk]
theorem Uk.trans{a b c:Pl}(h:Uk a b)(e:Uk b c):Uk a c:=⟨e.1.trans h.1,e.2.trans h.2⟩
theorem A8(s:Pl)(t:Nat)(v:B.V):(s.gk t v).kd=s.kd:=(pZ s t v).2.2.2.2.2.1
def uC(v:B.V):∀(l:List Nat) (s:Pl),(s.ep v l).kd=s.kd |[],_=>rfl |t :: l,s=>(uC v l<|s.gk t v).trans (A8 s t v)
theorem vk(s:Pl)(t:Nat)(v:B.V)(kind:Nat)(x:Int):(s.leave t v kind x).kd=s.kd:=
 (uC v _ _).trans (iX s t v kind x).2.2.2.2.2.1
theorem m8(s:Pl)(x y t:Nat):(s.dX x y t).kd=s.kd:=(ja s x y t).2.2.2.2.2.1
theorem Ce(s:Pl)(t:Nat)(v:B.V):(s.back t v).kd=s.kd:=by
 unfold Pl.back;split
 .exact vk (s.pop t) t v 2 v.2
 rfl
def B8(p:dH) (t:Nat):∀ (n:Nat) (s:Pl),(s.ends p t n).kd=s.kd
  |0,_=>rfl
  | n+1,s=>by
    unfold Pl.ends
    split
    · exact(B8 p t n _).trans<|Ce s t _
    · rfl
theorem BH{a ty:Nat}{l:List B.V}(h:mG p s t a ty l s'):Uk s s':=by
 rcases h with⟨c,kd1,_,_,_,_,o,rfl⟩|⟨_,kd1,e,rfl⟩
 .rcases o with rfl|⟨_,_,i,_,u,_⟩
  .exact⟨rfl,rfl⟩
  exact⟨i,u⟩
 exact⟨e.2.1,e.2.2.1⟩
def xr{o a b c:Nat}(h:xu s t o a b c why s'):Uk s s':=by
 rcases h with⟨_,_,rfl⟩|⟨_,_,rfl⟩<;>exact⟨rfl,rfl⟩
theorem IC{k:vV}(h:ku p s t k why s'):Uk s s':=by
 obtain⟨o,k⟩:=k;unfold ku at h;split at h
 .obtain⟨_,rfl⟩:=h;exact⟨rfl,rfl⟩
 .obtain⟨_,rfl⟩:=h;exact⟨rfl,rfl⟩
 .exact xr h
 .exact xr h
 .exact xr h
 .exact xr h
 .obtain⟨_,rfl⟩:=h;exact⟨rfl,rfl⟩
 .obtain⟨_,rfl⟩:=h;exact⟨rfl,rfl⟩
 .obtain⟨_,rfl⟩:=h;exact⟨rfl,rfl⟩
 .grind[BH]
 .rcases h with⟨_,_,rfl⟩|⟨_,_,rfl⟩<;>exact⟨rfl,rfl⟩
 .rcases h with⟨_,_,rfl⟩|⟨_,_,rfl⟩<;>exact⟨rfl,rfl⟩
 .grind[BH]
 .obtain⟨_,rfl⟩:=h;unfold mH;split<;>exact⟨rfl,rfl⟩
 .grind[Ce,F.Uk.of]
 .obtain⟨_,rfl⟩:=h;unfold lR;split
  .exact .of (show(Pl.dX _ 2 0 _).kd=_ from m8 _ 2 0 _)
  exact⟨rfl,rfl⟩
 .grind[m8,F.Uk.of]
 .obtain⟨_,rfl⟩:=h;unfold jk;split
  .exact .of (show(Pl.into _ 3 0 t _).kd=_ from(gI _ t).2.2.2.2.2.2.2.1)
  exact⟨rfl,rfl⟩
 .obtain⟨_,rfl⟩:=h;unfold jd;split
  .split
   .split
    .rename_i u _;exact .of<|m8 s 5 u t
    exact⟨rfl,rfl⟩
   exact⟨rfl,rfl⟩
  exact⟨rfl,rfl⟩
 .grind[iu,vk,F.Uk.of]
 .obtain⟨_,rfl⟩:=h;unfold jY;split<;>exact⟨rfl,rfl⟩
 .obtain⟨_,rfl⟩:=h;unfold kM;split
  .split
   .split
    .exact⟨rfl,rfl⟩
    exact .of<|m8 s 4 ((bz s t).R (o,k).2.2.1).2.toNat t
   exact⟨rfl,rfl⟩
  exact⟨rfl,rfl⟩
 .obtain⟨_,rfl⟩:=h;exact⟨rfl,rfl⟩
 grind
theorem Hc(h:jv p t s s'):Uk s s':=by
 have e:=Uk.of<|B8 p t 21 s;unfold jv at h;split at h
 .obtain⟨why,s3,o,rfl⟩:=h;have i:Uk (s.ends p t 21) s3:=(show Uk ((s.ends p t 21).gL t) s3 from IC o);grind[vk,F.Uk.trans,F.Uk.of]
 grind
theorem Bp{p:dH} {t:Nat}:∀ (n:Nat) {s s':Pl},hZ p t n s s'->Uk s s'
  | 0,s,s',h=>by
    have e:s'=s:=h
    rw[e];exact⟨rfl,rfl⟩
  | n+1,s,s',h=>by
    unfold hZ at h
    split at h
    · obtain⟨s1,h1,h2⟩:=h
      exact(Hc h1).trans<|Bp n h2
    · rw[h];exact⟨rfl,rfl⟩
theorem F5(h:iH p s s'):Uk s s':=by
 unfold iH at h;split at h
 .rw[h];exact⟨rfl,rfl⟩
 rename_i t r _;obtain⟨i,o,rfl⟩:=h;have e:=(Uk.of (show(s.start t).kd=s.kd from(gI s t).2.2.2.2.2.2.2.1)).trans<|Bp _ o;grind[m8,F.Uk.trans,F.Uk.of]
def yC:∀ (l:List Nat) (s:Pl),(s.iC l).kd=s.kd
  | [],_=>rfl
  | t :: l,s=>by
    unfold Pl.iC
    split
    · exact(yC l _).trans<|m8 s 2 0 t
    · rfl
theorem Hw(s:Pl)(x:Int×Nat):(s.recv x).kd=s.kd:=by
 unfold Pl.recv;split
 .unfold Pl.pG;split
  .grind[A8]
  split<;>rfl
 rfl
def yY:∀(l:List (Int×Nat)) (s:Pl),(s.fg l).kd=s.kd |[],_=>rfl |x :: l,s=>(yY l<|s.recv x).trans (Hw s x)
theorem xv{ticks:Int}{l:List (Int×Nat)}(h:jX p s ticks l s'):s.kd.un<=s'.kd.un/\s'.kd.un<=s.kd.un+p.wk/\s.kd.cc<=s'.kd.cc/\s'.kd.cc<=s.kd.cc+p.wk:=by
 have e:((s.gw<|B.iL s.clk ticks).fg l).kd=s.kd:=yY l _;unfold jX at h;split at h
 .obtain⟨s1,o,rfl⟩:=h;have i:=F5 o;unfold Uk at i;rw[yC,e]at i;have u:=D.xm s1.kd (eH p s1) s1.M p.n p.wk;show s.kd.un<=(B.work _ _ _ _ _ _).un/\(B.work _ _ _ _ _ _).un<=_/\_<=(B.work _ _ _ _ _ _).cc/\(B.work _ _ _ _ _ _).cc<=_;omega
 grind
