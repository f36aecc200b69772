import Derived.Test.YtnjiinbhbjpfkaaGreatDoorTP
import Derived.Test.YtnjiinbhbjpfkaaGreatDoorTH
import Derived.Test.YtnjiinbhbjpfkaaGreatDoorTC
set_option maxRecDepth 100000
set_option maxHeartbeats 0
set_option linter.all false
namespace Go.Proofs.YtnjiinbhbjpfkaaGreatDoor
open Go.RowKit Go.Proofs.Tryz
namespace F
variable {g:eJ}{i t u x y:Nat}{k:Nat×Nat×Nat×Nat}{l:List Nat}{p:dL}{s s':Pl}{w:aa}
theorem LW.same(h:LW s)(hn:s'.nt=s.nt)(e:s'.q=s.q)(hw:∀u,(s'.T u).wh=(s.T u).wh):LW s':=by
 refine⟨λt ht x y o=>?_,λx y i t ht=>?_,λx y i=>?_,eV hn h.d⟩
 .rw[hw]at o;have:=h.a t ((ey hn).1 ht) x y o;grind[gC]
 .rw[e]at ht;have:=h.b x y ((gC hn).1 i) t ht;grind[ey]
 rw[e];grind[gC,F.LW.c]
theorem fB(h:(s.T t).wh=none):s.dz t=s:=by grind[Pl.dz]
def gJ(h:(s.T t).wh=some (x,y)):s.dz t=(s.fF x y ((s.q x y).erase t)).dx t (s.T t).off:=by grind[Pl.dz]
theorem ke(s:Pl)(t:Nat):((s.dz t).T t).wh=none:=by
 cases h:(s.T t).wh with
 | none=>grind[fB]
 | some e=>rw[gJ (x:=e.1) (y:=e.2) h,di];rfl
theorem uy(s:Pl)(h:u≠t):(s.dz t).T u=s.T u:=by
 cases hw:(s.T t).wh with
 | none=>grind[fB]
 | some e=>rw[gJ (x:=e.1) (y:=e.2) hw,dR _ _ h];rfl
theorem LW.dz(h:LW s)(ht:fm s t):LW (s.dz t):=by
 cases hw:(s.T t).wh with
 | none=>grind[fB]
 | some xy=>
  obtain⟨x,y⟩:=xy;obtain⟨hl,hm,a0⟩:=h.a t ht x y hw;rw[gJ hw];have hn:((s.fF x y ((s.q x y).erase t)).dx t (s.T t).off).nt=s.nt:=rfl;refine⟨λu Z a b o=>?_,λa b J u Z=>?_,λa b J=>?_,h.d⟩
  .have e:u≠t:=λe=>by
    subst e;rw[di]at o
    cases o
   rw[dR _ _ e]at o;obtain⟨k1,k2,k3⟩:=h.a u ((ey hn).1 Z) a b o;refine⟨(gC hn).2 k1,?_,k3⟩;show u∈(s.fF x y ((s.q x y).erase t)).q a b;grind[gH,fY]
  .have G:u∈(s.fF x y ((s.q x y).erase t)).q a b:=Z;have H:=(gC hn).1 J;by_cases i:a=x/\b=y
   .obtain⟨rfl,rfl⟩:=i;rw[gH]at G;have Y:=(h.c a b hl).mem_erase_iff.1 G;rw[dR _ _ Y.1];exact h.b a b H u Y.2
   rw[fY _ _ i]at G;have hb:=h.b a b H u G;have e:u≠t:=λe=>by
    grind
   rw[dR _ _ e];exact hb
  show((s.fF x y ((s.q x y).erase t)).q a b).Nodup;grind[gC,gH,fY,F.LW.c]
def Pl.oL(s:Pl)(x y t:Nat)(l:List Nat):Pl:=(s.fF x y l).dx t ((s.T t).to x y)
def Pl.into(s:Pl)(x y t:Nat)(l:List Nat):Pl:=(s.dz t).oL x y t l
def Al(s:Pl)(x y t:Nat):s.dY x y t=s.into x y t ((s.dz t).q x y++[t]):=rfl
theorem LW.oL{s:Pl}(h:LW s){x y t:Nat}{l:List Nat}(ht:fm s t)(hw:(s.T t).wh=none)(hl:fN s x y)(a1:¬(x=5/\y=t))(hd:l.Nodup)(hm:∀u,u∈l↔(u∈s.q x y\/u=t)):LW (s.oL x y t l):=by
 have hn:(s.oL x y t l).nt=s.nt:=rfl;have hq:∀a b,¬(a=x/\b=y)->(s.oL x y t l).q a b=s.q a b:=λa b e=>fY s l e;have o:(s.oL x y t l).q x y=l:=gH s x y l;have a0:(s.oL x y t l).T t=(s.T t).to x y:=di _ _ _;have hT:∀u,u≠t->(s.oL x y t l).T u=s.T u:=λu e=>dR _ _ e;refine⟨λu Y a b i=>?_,λa b W u Y=>?_,λa b W=>?_,h.d⟩
 .by_cases e:u=t
  .subst e;rw[a0]at i;injection i with i;grind[gC]
  rw[hT u e]at i;obtain⟨k1,k2,k3⟩:=h.a u ((ey hn).1 Y) a b i;grind[gC]
 .have G:=(gC hn).1 W;by_cases H:a=x/\b=y
  .obtain⟨rfl,rfl⟩:=H;rw[o]at Y;rcases(hm u).1 Y with h1|rfl
   .have Z:=h.b a b G u h1;have e:u≠t:=λe=>by
     grind
    rw[hT u e];exact Z
   refine⟨ht,?_⟩;rw[a0];rfl
  rw[hq a b H]at Y;have Z:=h.b a b G u Y;have e:u≠t:=λe=>by
   grind
  rw[hT u e];exact Z
 grind[gC,F.LW.c]
def LW.into(h:LW s)(ht:fm s t)(G:fN s x y)(e:¬(x=5/\y=t))(i:l.Nodup)(o:∀u,u∈l↔(u∈(s.dz t).q x y\/u=t)):LW (s.into x y t l):=
 (h.dz ht).oL ((ey (gg s t)).2 ht) (ke s t) ((gC (gg s t)).2 G) e i o
def LW.out(h:LW s)(i:fN s x y)(hw:(s.T t).wh≠some (x,y)):t∉s.q x y:=λe=>hw (h.b x y i t e).2
def qw(h:l.Nodup)(ht:t∉l):(l++[t]).Nodup:=by
 grind
theorem LW.dY(h:LW s)(ht:fm s t)(H:fN s x y)(o:¬(x=5/\y=t)):LW (s.dY x y t):=by
 have G:=h.dz ht;have i:=(gC (gg s t)).2 H;exact h.into ht H o (qw (G.c x y i) (G.out i (by grind[ke]))) (λu=>by simp)
theorem iF(s:Pl)(x y t:Nat):(s.dY x y t).nt=s.nt:=gg s t
theorem nh(s:Pl)(h:u≠t):(s.dY x y t).T u=s.T u:=by
 rw[Al];exact(dR _ _ h).trans (uy s h)
def yQ(s:Pl)(x y t u:Nat):((s.dY x y t).T u).fr=(s.T u).fr:=by
 by_cases e:u=t
 .subst e;show(((((s.dz u).fF x y _).dx u _).T u).fr)=_;rw[di];exact kg s u u
 rw[nh s e]
def jT(s:Pl)(x y t:Nat):(s.dY x y t).T t=((s.dz t).T t).to x y:=di _ _ _
theorem yP(s:Pl)(x y t:Nat):((s.dY x y t).T t).wh=some (x,y):=by rw[jT];rfl
theorem gD(h:(s'.T t).fr=(s.T t).fr):dq s' t i=dq s t i:=by grind[dq]
def WW(p:dL)(s:Pl):Prop:=∀t,fm s t->∀x y,(s.T t).wh=some (x,y)->(x=4\/x=5)->∃k,(s.T t).lf=some k/\(s.T t).fr≠[]/\k.2.1<p.rg (dq s t ((s.T t).fr.length-1)).f
def de(s:Pl)(t:Nat):Nat:=(s.T t).fr.length-1
def Pl.gn(s:Pl)(t:Nat)(v:B.V):Pl:=match (s.T t).lf with
 | none=>s
 | some k=>(s.dJ t (de s t) ((dq s t (de s t)).set k.2.1 v)).dY 2 0 t
theorem qp(s:Pl)(f:jc)(h:u≠t):(s.dJ t i f).T u=s.T u:=dR _ _ h
theorem gI(s:Pl)(t i u:Nat)(f:jc):((s.dJ t i f).T u).wh=(s.T u).wh/\((s.dJ t i f).T u).lf=(s.T u).lf/\((s.dJ t i f).T u).run=(s.T u).run/\((s.dJ t i f).T u).iM=(s.T u).iM/\((s.dJ t i f).T u).fr.length=(s.T u).fr.length:=by
 grind[Pl.dJ,di,List.length_set,qp]
theorem LW.dJ(h:LW s)(t i:Nat)(f:jc):LW (s.dJ t i f):=h.same rfl rfl (λu=>(gI s t i u f).1)
theorem zG(s:Pl)(v:B.V)(h:u≠t):(s.gn t v).T u=s.T u:=by
 grind[Pl.gn,nh,qp]
def oq(s:Pl)(t:Nat)(v:B.V):(s.gn t v).nt=s.nt:=by
 unfold Pl.gn;split
 .rfl
 rw[iF];rfl
def pB(v:B.V)(h:(s.T t).lf=some k):s.gn t v=(s.dJ t (de s t) ((dq s t (de s t)).set k.2.1 v)).dY 2 0 t:=by grind[Pl.gn]
theorem LW.gn{s:Pl}(h:LW s){t:Nat}(ht:fm s t)(v:B.V):LW (s.gn t v):=by
 unfold Pl.gn;split
 .exact h
 exact(h.dJ t _ _).dY ht (af ⟨rfl,rfl⟩) ag
theorem WW.gn{p:dL}{s:Pl}(h:WW p s){t:Nat}(v:B.V)(H:(s.T t).lf≠none):WW p (s.gn t v):=by
 intro u G x y i o;by_cases e:u=t
 .grind[Pl.gn,yP]
 rw[zG s v e]at i ⊢;have:=h u ((ey (oq s t v)).1 G) x y i o;grind[gD,zG]
def Il(v:B.V)(h:dZ p s g w)(hW:LW s)(ht:fm s t)(H:(s.T t).lf=some k)(o:(s.T t).fr≠[])(Y:k.2.1<p.rg (dq s t (de s t)).f)(u:(s.T t).wh≠some (2,0)): eL 207 #[vA v,P0 (g.sx t)] w λw'=>∃r,Tr p s g w (s.gn t v) (g.at 2 0 r) w':=by
 have W:(s.T t).fr.length≠0:=λe=>o (db.1 e);have hi:de s t<(s.T t).fr.length:=by unfold de;omega
 refine KM k.1 k.2.1 k.2.2.1 k.2.2.2 (g.fb t (de s t)) (g.tb t) p.eb (g.sx t) _ _ _ _ _ _ (dq s t (de s t)).R v (λw2=>∃r,Tr p s g w (s.gn t v) (g.at 2 0 r) w2) w (h.sx ht H) (h.fr ht hi) (h.rg ht hi) Y h.E.lt ?_;intro w1 i G;have J:Tr p s g w (s.dJ t (de s t) ((dq s t (de s t)).set k.2.1 v)) g w1:=
  h.Nz ht hi (da i (h.fr ht hi) (by intro e;injection e with e;exact Fc h ht hi e)) G (jB i (ah rfl))
 refine du (vW (x:=2) (y:=0) J.r (hW.dJ _ _ _) (af ⟨rfl,rfl⟩) ht ag (by rw[(gI s t _ t _).1];exact u)) ?_;rintro w2 ⟨r,Z⟩;refine⟨rfl,r,?_⟩;rw[pB v H];exact J.trans Z
def AH(s:Pl)(g:eJ)(r:Option Addr×Nat)(h:¬(x=5/\y=t))(i:x≠12):gz p s (g.at x y r) t=gz p s g t:=by
 funext j
 unfold gz sl;rw[lG g r (a:=12) (b:=t) (λe=>i e.1.symm),lG g r (a:=5) (b:=t) (λe=>h ⟨e.1.symm,e.2.symm⟩)];rfl
def Pl.wait(s:Pl)(x y t:Nat)(k:Nat×Nat×Nat×Nat):Pl:=(s.dY x y t).dx t (((s.dY x y t).T t).lK k)
def Im(k:Nat×Nat×Nat×Nat)(h:dZ p s g w)(hW:LW s)(ht:fm s t)(Z:fN s x y)(o:¬(x=5/\y=t))(a0:(s.T t).wh=none): eL 171 #[ed k.1 k.2.1 k.2.2.1 k.2.2.2 (g.fb t (de s t)) (g.tb t) p.eb,Pt (pL p g x y) (ri x y)] w λw'=>∃g',Tr p s g w (s.wait x y t k) g' w':=by
 refine(KY k.1 k.2.1 k.2.2.1 k.2.2.2 (g.fb t (de s t)) (g.tb t) p.eb (pL p g x y) (ri x y) (gz p (s.dY x y t) g t) (λw2=>∃r,Tr p s g w (s.dY x y t) (g.at x y r) w2/\¬eH p (s.dY x y t) (g.at x y r) w.heap.size) w ?_).mono ?_
 .intro w1 i Y;refine du (vW (h.kept i) hW Z ht o (by rw[a0];intro e;cases e)) ?_;rintro w2 ⟨r,G⟩;have H:=G.r.tk (t:=t) ((ey (iF s x y t)).2 ht);rw[AH _ _ r o (by have:=oD Z;omega)]at H;have ho:=G.other Y (λhm=>by have:=h.lt hm;omega);exact⟨rfl,H,ho.1,r,G.ahead i,ho.2⟩
 rintro e w' ⟨rfl,w2,⟨r,G,W⟩,H,hb,rfl⟩;refine⟨rfl,(g.at x y r).left t w.heap.size,G.left (b:=w.heap.size) (k4:=k) ((ey (iF s x y t)).2 ht) ?_ ?_ W (bq _) (bp (S:=λk=>k=g.tb t) (dw _ _) (af rfl) _)⟩
 .rw[AH _ _ r o (by have:=oD Z;omega)];exact H.eC 4 _
 have u:((s.dY x y t).T t).fr.length=(s.T t).fr.length:=by rw[yQ]
 rw[u,ab _ _ _ _ (by
  show w.heap.size≠g.tb t;have:=(h.tk ht).lt;omega)]
 exact hb
def qA.stop(v:qA):qA:={ v with run:=false }
def Pl.eo(s:Pl)(v:B.V):List Nat->Pl
 | []=>s
 | t :: l=>(s.gn t v).eo v l
def Pl.gone(s:Pl)(t:Nat)(v:B.V)(kind:Nat)(x:Int):Pl:=(({ (s.dz t).dx t ((s.dz t).T t).stop with lv:=s.lv.erase t }:Pl).mX (t-1) v).told kind t x
def Pl.leave(s:Pl)(t:Nat)(v:B.V)(kind:Nat)(x:Int):Pl:=(s.gone t v kind x).eo v (s.q 5 t)
theorem sJ(v:B.V):∀(l m:List Nat) (s:Pl),s.eo v (l++m)=(s.eo v l).eo v m
 | [],_,_=>rfl
 | _ :: l,m,_=>sJ v l m _
theorem g8(s:Pl)(t:Nat):(s.dz t).lv=s.lv/\(s.dz t).out=s.out/\(s.dz t).kp=s.kp/\(s.dz t).ev=s.ev/\(s.dz t).ft=s.ft/\(s.dz t).sp=s.sp/\(s.dz t).clk=s.clk/\(s.dz t).kd=s.kd/\(s.dz t).M=s.M/\(s.dz t).ck=s.ck:=by
 unfold Pl.dz;split<;>exact⟨rfl,rfl,rfl,rfl,rfl,rfl,rfl,rfl,rfl,rfl⟩
theorem nH(s:Pl)(v:B.V)(kind:Nat)(x:Int)(h:u≠t):(s.gone t v kind x).T u=s.T u:=by
 show((s.dz t).dx t _).T u=_;grind[dR,uy]
def jL(s:Pl)(t:Nat)(v:B.V)(kind:Nat)(x:Int):(s.gone t v kind x).nt=s.nt:=gg s t
theorem pO(s:Pl)(t:Nat)(v:B.V)(kind:Nat)(x:Int)(u:Nat):((s.gone t v kind x).T u).wh=((s.dz t).T u).wh:=by
 show(((s.dz t).dx t _).T u).wh=_;by_cases e:u=t
 .subst e;rw[di];rfl
 grind[dR]
def LW.gone(h:LW s)(ht:fm s t)(v:B.V)(kind:Nat)(x:Int):LW (s.gone t v kind x):=(h.dz ht).same rfl rfl (λu=>pO s t v kind x u)
def Ar(h:LW s)(ht:fm s t)(v:B.V)(kind:Nat)(x:Int):(s.gone t v kind x).q 5 t=s.q 5 t:=by
 show(s.dz t).q 5 t=_;exact sm s (λe=>(h.a t ht 5 t e).2.2 ⟨rfl,rfl⟩)
def WW.gone(h:WW p s)(v:B.V)(kind:Nat)(x:Int):WW p (s.gone t v kind x):=by
 intro u y a b i o;by_cases e:u=t
 .grind[pO,ke]
 rw[nH s v kind x e]at i ⊢;have:=h u ((ey (jL s t v kind x)).1 y) a b i o;grind[gD,nH]
def IX(hw:(s.T t).wh=some (x,y))(v:B.V)(o:(s.T t).lf≠none)(i:¬(x=2/\y=0)):(s.gn t v).q x y=(s.q x y).erase t:=by
 cases hk:(s.T t).lf with
 | none=>grind
 | some k=>
  rw[pB v hk];show(((s.dJ t (de s t) ((dq s t (de s t)).set k.2.1 v)).dz t).fF 2 0 _).q x y=_;rw[fY _ _ (λe=>i e),gJ (x:=x) (y:=y) (by grind[gI])];exact gH _ _ _ _
theorem mx{f:Nat->Nat}:∀(l:List Nat),l.Nodup->(∀a,a∈l->∀b,b∈l->f a=f b->a=b)->(l.map f).Nodup
 | [],_,_=>List.nodup_nil
 | a :: l,hd,h=>by
  rw[List.map_cons,List.nodup_cons];rw[List.nodup_cons]at hd;refine⟨λu=>?_,mx l hd.2 (λa o b i=>h a (by simp[o]) b (by simp[i]))⟩;grind
def Ag(v:B.V)(kind:Nat)(x:Int)(h:dZ p s g w)(hW:LW s)(bD:WW p s)(ht:fm s t)(aH:t∈s.lv)(bB:s.lv.Nodup)(aE:∀u,u∈s.lv->fm s u)(ho:s.out.length=s.nt)(hk:s.kp.length<=1000000)(bG:s.ev.length<=100000): eL 175 #[P0 p.eb,P0 (g.tb t),vA v,aj kind,aj x] w λw'=>∃g',Tr p s g w (s.leave t v kind x) g' w':=by
 have hd:=hW.d;have bN:s.lv.length<=500000000:=dU (gK s.nt s.lv bB aE) hd;have b4:∀{w1:aa} {s1:Pl} {g1:eJ} {w2:aa},w.grownBy w1 none->zB w1 w.heap.size (g.tb t) v->Tr p s g w1 s1 g1 w2->zB w2 w.heap.size (g.tb t) v/\¬eH p s1 g1 w.heap.size/\¬eH p s1 g1 (w.heap.size+1):=λhg hL h2=>by
  have a:=h2.other hL.1 (λhm=>by have:=h.lt hm;omega);have b:=h2.other hL.2 (λhm=>by have:=h.lt hm;omega);exact⟨⟨a.1,b.1⟩,a.2,b.2⟩
 have hS:∀{s1 s2:Pl} {g1 g2:eJ} {w1 w2:aa},(zB w1 w.heap.size (g.tb t) v/\¬eH p s1 g1 w.heap.size/\¬eH p s1 g1 (w.heap.size+1))->Tr p s1 g1 w1 s2 g2 w2->(zB w2 w.heap.size (g.tb t) v/\¬eH p s2 g2 w.heap.size/\¬eH p s2 g2 (w.heap.size+1)):=λi h2=>by
  have a:=h2.other i.1.1 i.2.1;have b:=h2.other i.1.2 i.2.2;exact⟨⟨a.1,b.1⟩,a.2,b.2⟩
 let s1:=s.dz t
 let s1':=s1.dx t (s1.T t).stop
 let s2:Pl:={ s1' with lv:=s.lv.erase t }
 let s3:=s2.mX (t-1) v
 have hn1:s1.nt=s.nt:=gg s t;have aU:=(ey hn1).2 ht;have b8:s3.nt=s.nt:=hn1;have a8:s1.lv=s.lv:=(g8 s t).1
 obtain⟨G,cl,a6⟩:∃G cl,g.ro 6 0=(some (ay G 0),cl):=by
  obtain⟨G,cl,he⟩:=ee (h.row (x:=6) (y:=0) (by grind[fe]) (iV ag)) (by show s.lv.length≠0;grind);grind[sl,Prod.ext]
 let S1:aa->Prop:=λw1=>Tr p s g w s1 g w1/\(zB w1 w.heap.size (g.tb t) v/\¬eH p s1 g w.heap.size/\¬eH p s1 g (w.heap.size+1))
 let S2:Value->aa->Prop:=λlv w2=>lv=dA G (s.lv.length-1) cl/\∃w1,Tr p s g w s1' g w1/\(zB w1 w.heap.size (g.tb t) v/\¬eH p s1' g w.heap.size/\¬eH p s1' g (w.heap.size+1))/\w1.grownBy w2 (some G)/\w2.ownsRow 0 155 1 (dA G (s.lv.length-1) cl) (s.lv.length-1) (((s.lv.erase t).map g.tb).map P0)
 let S3:aa->Prop:=λw3=>∃g3,Tr p s g w s3 g3 w3/\g3.tb=g.tb/\g3.sx=g.sx/\(zB w3 w.heap.size (g.tb t) v/\¬eH p s3 g3 w.heap.size/\¬eH p s3 g3 (w.heap.size+1))
 have flag:∀w1,S1 w1->Tr p s g w s1' g (w1.setCell (ay (g.tb t) 2) (.bool false))/\(zB (w1.setCell (ay (g.tb t) 2) (.bool false)) w.heap.size (g.tb t) v/\¬eH p s1' g w.heap.size/\¬eH p s1' g (w.heap.size+1)):=by
  rintro w1 ⟨Z,aO⟩;have h2:Tr p s1 g w1 s1' g (w1.setCell (ay (g.tb t) 2) (.bool false)):=by
   refine Z.r.flag aU rfl rfl ?_ (bp (S:=λk=>k=g.tb t) (dw _ _) (af rfl) _);refine((Z.r.tk aU).eC 2 (.bool false)).congr (λj hj=>?_);have aC:(s1.dx t (s1.T t).stop).T t=(s1.T t).stop:=di _ _ _;have hc:=oU 6 j ag
   have bE:sl (s1.dx t (s1.T t).stop) g 12 t=sl s1 g 12 t:=by unfold sl;rw[jY,jY,aC];rfl
   rcases hc with rfl|rfl|rfl|rfl|rfl|rfl|rfl
   .rfl
   .exact bE.symm
   .show Value.bool false=Value.bool ((s1.dx t (s1.T t).stop).T t).run;rw[aC];rfl
   .show wF p g (s1.T t).wh=wF p g ((s1.dx t (s1.T t).stop).T t).wh;rw[aC];rfl
   .show yL g t (s1.T t).lf=yL g t ((s1.dx t (s1.T t).stop).T t).lf;rw[aC];rfl
   .show Value.int .i64 (s1.T t).iM=Value.int .i64 ((s1.dx t (s1.T t).stop).T t).iM;rw[aC];rfl
   rfl
  exact⟨Z.trans h2,hS aO h2⟩
 have aK:∀lv w2,S2 lv w2->Tr p s g w s2 (g.at 6 0 (some (ay G 0),cl)) (w2.setCell (ay p.eb 29) lv)/\(zB (w2.setCell (ay p.eb 29) lv) w.heap.size (g.tb t) v/\¬eH p s2 (g.at 6 0 (some (ay G 0),cl)) w.heap.size/\¬eH p s2 (g.at 6 0 (some (ay G 0),cl)) (w.heap.size+1)):=by
  rintro lv w2 ⟨rfl,w1,Z,aO,aP,bC⟩;have b6:=eU bC (Z.r.E.block (aP.block _ Z.r.E.lt (λe=>by
   injection e with e;have a7:=Z.r.row (x:=6) (y:=0) (by unfold fe;omega) (iV ag);unfold sl at a7;rw[a6]at a7;exact eU a7 Z.r.E ek G rfl e.symm))) ek G rfl
  have b9:eS s2 6 0=s.lv.length-1:=List.length_erase_of_mem aH;have h2:Tr p s1' g w1 s2 (g.at 6 0 (some (ay G 0),cl)) (w2.setCell (ay p.eb 29) (dA G (s.lv.length-1) cl)):=by
   refine Z.r.uS (j0:=29) ag (iV ag) ek rfl rfl rfl rfl rfl rfl rfl (λa b c d e=>?_) ?_ ?_ ?_ (λk hk=>af (eV a6 hk))
   .have ea:a≠6:=ag;exact⟨by unfold eS;simp only[au ea];rfl,by unfold gu;simp only[au ea];rfl⟩
   .rw[b9];exact (Z.r.E.block (aP.block _ Z.r.E.lt (λe=>by injection e with e;exact b6 e.symm))).eC 29 _
   .rw[b9];exact dQ bC (λk hk=>ab _ _ _ _ (by
     have e:G=k:=by injection hk
     rw[<-e];exact b6))
   refine bp (jB aP (ah (jx a6))) (af (af rfl)) _
  exact⟨Z.trans h2,hS aO h2⟩
 let s4:=s3.told kind t x
 have aW:LW s4:=hW.gone ht v kind x;have aX:WW p s4:=bD.gone v kind x;obtain⟨aS,b3⟩:∃aS:Nat->Nat,∀u,fm s u->aS (g.tb u)=g.sx u:=by
  classical
  refine⟨λb=>if i:∃u,fm s u/\g.tb u=b then g.sx i.choose else 0,λu hu=>?_⟩;have i:∃u',fm s u'/\g.tb u'=g.tb u:=⟨u,hu,rfl⟩;show(if i:∃u',fm s u'/\g.tb u'=g.tb u then g.sx i.choose else 0)=g.sx u;rw[dif_pos i,h.mC i.choose_spec.1 hu i.choose_spec.2]
 let I:List Nat->aa->Prop:=λbs w4=>∃H ys g4,bs=ys.map g.tb/\s.q 5 t=H++ys/\Tr p s g w (s4.eo v H) g4 w4/\g4.tb=g.tb/\g4.sx=g.sx/\LW (s4.eo v H)/\WW p (s4.eo v H)/\(s4.eo v H).q 5 t=ys/\(s4.eo v H).nt=s.nt/\(zB w4 w.heap.size (g.tb t) v/\¬eH p (s4.eo v H) g4 w.heap.size/\¬eH p (s4.eo v H) g4 (w.heap.size+1))
 have aG:∀{s':Pl},s'.nt=s.nt->fN s' 5 t:=λe=>ah (ah (ah ⟨rfl,(ey e).2 ht⟩));refine(JE p.eb (g.tb t) kind t s.lv.length cl x v (some (ay G 0)) S1 S3 S2 I aS ((s.q 5 t).map g.tb) w ?_ ?_ ?_ ?_ ?_ ?_ ?_ ?_ ?_).mono ?_
 .intro w1 hg hL;refine du (qL (h.kept hg) hW ht) λw2 h2=>?_;exact⟨rfl,h2.ahead hg,b4 hg hL h2⟩
 .intro w1 Z;have hf:=flag w1 Z;refine⟨Z.2.1,⟨_,Z.1.r.tk aU⟩,?_,Z.1.r.E.lt⟩;rw[hf.1.r.E.cell 29 ag];show some (sl s1' g 6 0)=_;unfold sl;rw[a6];show some (Value.slice _ s1.lv.length _)=_;rw[a8]
 .intro w1 Z;obtain⟨a5,Y⟩:=flag w1 Z;generalize w1.setCell (ay (g.tb t) 2) (.bool false)=W at *;have hr:=a5.r.row (x:=6) (y:=0) (by unfold fe;omega) (iV ag);have bF:W.ownsRow 0 155 1 (dA G s.lv.length cl) s.lv.length ((s.lv.map g.tb).map P0):=by
   have e1:sl s1' g 6 0=dA G s.lv.length cl:=by unfold sl;rw[a6];show Value.slice _ s1.lv.length _=_;rw[a8]
   have e2:eS s1' 6 0=s.lv.length:=(by show s1.lv.length=_;rw[a8]);have e3:gu s1' g 6 0=(s.lv.map g.tb).map P0:=by show(s1.lv.map g.tb).map P0=_;rw[a8]
   rw[e1,e2,e3]at hr;exact hr
  have aJ:s1'.nt=s.nt:=hn1;refine(Ly G cl s.lv.length (g.tb t) w.heap.size (s.lv.map g.tb) W bF ag (mx _ bB (λa ha b i e=>h.mC (aE a ha) (aE b i) e)) ?_ (ch Y.1.1) (λe=>Y.2.1 ⟨6,0,0,?_⟩) (a5.r.tk ((ey aJ).2 ht)).zq (λz hz=>?_) (List.mem_map_of_mem aH)).mono ?_
  .have:=Y.1.1;simp[World.cell?,this]
  .rw[gQ p g (by unfold fe;omega) (iV ag),a6,e];rfl
  .obtain⟨u,hu,rfl⟩:=eK.1 hz;exact(a5.r.tk ((ey aJ).2 (aE u hu))).zq
  rintro e w2 ⟨rfl,k1,k2⟩;rw[sw _ (λb i e=>h.mC (aE b i) ht e)]at k1;exact⟨_,_,_,rfl,rfl,W,a5,Y,k2,k1⟩
 .intro lv w2 h2;obtain⟨a5,Y⟩:=aK lv w2 h2;obtain⟨_,w1,k1,_,k3,_⟩:=h2;have hT:=a5.r.tk (t:=t) ((ey (s:=s) hn1).2 ht);refine⟨Y.1,⟨iH p s1' g,k1.r.E.block (k3.block _ k1.r.E.lt (λe=>?_))⟩,hT.cell 0 ag,?_⟩
  .injection e with e;have a7:=k1.r.row (x:=6) (y:=0) (by unfold fe;omega) (iV ag);unfold sl at a7;rw[a6]at a7;exact eU a7 k1.r.E ek G rfl e.symm
  have bA:g.tb t<(w2.setCell (ay p.eb 29) lv).heap.size:=hT.lt;simpa[World.setCell] using bA
 .intro lv w2 w3 h2 aL;obtain⟨a5,Y⟩:=aK lv w2 h2;have h3:=a5.kept aL;have aN:zB w3 w.heap.size (g.tb t) v/\¬eH p s2 (g.at 6 0 (some (ay G 0),cl)) w.heap.size/\¬eH p s2 (g.at 6 0 (some (ay G 0),cl)) (w.heap.size+1):=
   ⟨⟨da aL Y.1.1 im,da aL Y.1.2 im⟩,Y.2⟩
  have b1:s2.out.length=s.nt:=by show s1.out.length=_;rw[(g8 s t).2.1,ho]
  have bM:s2.kp.length=s.kp.length:=by show s1.kp.length=_;rw[(g8 s t).2.2.1]
  have bK:(t:Int)=((t-1:Nat):Int)+1:=gp ht.1;rw[bK];refine du (LP (j:=t-1) v h3.r (by rw[b1];have:=ht.2;omega) (kr b1) (eV bM hk)) ?_;rintro w4 ⟨r,h4⟩;exact⟨rfl,_,h3.trans h4,rfl,rfl,hS aN h4⟩
 .rintro w3 ⟨g3,_,_,_,i⟩;exact i.1
 .rintro w3 ⟨g3,h3,a1,b0,aN⟩;have b2:s3.ev.length<=100000:=by show s1.ev.length<=_;rw[(g8 s t).2.2.2.1];exact bG
  have o:=DC (t:=t) kind x h3.r ((ey b8).2 ht) b2;rw[a1]at o;refine du o ?_;rintro w4 ⟨r,h4⟩;exact⟨rfl,[],s.q 5 t,g3.at 9 0 r,rfl,rfl,h3.trans h4,a1,b0,aW,aX,Ar hW ht v kind x,b8,hS aN h4⟩
 .rintro bs w4 ⟨H,ys,g4,rfl,a9,a0,a1,a4,aA,a2,hq,J,i⟩;have b7:=(ey J).2 ht;have aM:=a0.r.tk b7;rw[a1]at aM;have hr:=a0.r.row (x:=5) (y:=t) (by unfold fe;omega) (iE ag b7);have aY:eS (s4.eo v H) 5 t=ys.length:=by rw[nV _ (aG J),hq]
  have bJ:gu (s4.eo v H) g4 5 t=(ys.map g.tb).map P0:=by rw[pr _ _ (aG J),hq,a1]
  have aQ:w4.cell? (ay (g.tb t) 6)=some (sl (s4.eo v H) g4 5 t):=aM.cell 6 ag;refine⟨i.1,aM.lt,λw5 hg=>⟨H,ys,g4,rfl,a9,a0.kept hg,a1,a4,aA,a2,hq,J,⟨da hg i.1.1 im,da hg i.1.2 im⟩,i.2⟩,λe=>?_,λy r e=>?_⟩
  .have hy:=List.map_eq_nil_iff.1 e;refine⟨(g4.ro 5 t).1,(g4.ro 5 t).2,?_⟩;rw[aQ];unfold sl;rw[aY,hy];rfl
  cases ys with
  | nil=>cases e
  | cons u us=>
   rw[List.map_cons]at e;injection e with e1 e2;subst e1 e2;have aB:u∈(s4.eo v H).q 5 t:=by rw[hq];simp
   obtain⟨a3,aF⟩:=aA.b 5 t (aG J) u aB;obtain⟨k,aD,aV,aZ⟩:=a2 u a3 5 t aF (ah rfl);have hu:=(ey J).1 a3;rw[aY,bJ]at hr;obtain⟨qb,qc,he⟩:=ee hr eB;have aT:=a0.r.tk a3;rw[a1]at aT;rw[he]at hr aQ;refine⟨qb,qc,?_,?_,?_,aT.lt⟩
   .rw[ef];exact aQ
   .exact(gZ hr).2.2.2.2.2 0 _ rfl
   rw[aT.cell 4 ag];show some (yL g4 u ((s4.eo v H).T u).lf)=_;rw[aD,b3 u hu,<-a4];rfl
 .rintro y r w4 ⟨H,ys,g4,he,a9,a0,a1,a4,aA,a2,hq,J,i⟩
  cases ys with
  | nil=>cases he
  | cons u us=>
   rw[List.map_cons]at he;injection he with e1 e2;subst e1 e2;have aB:u∈(s4.eo v H).q 5 t:=by rw[hq];simp
   obtain⟨a3,aF⟩:=aA.b 5 t (aG J) u aB;obtain⟨k,aD,aV,aZ⟩:=a2 u a3 5 t aF (ah rfl);have hu:=(ey J).1 a3;have o:=Il v a0.r aA a3 aD aV aZ (by rw[aF];intro e;injection e with e;injection e with e _;omega);rw[a4]at o;rw[b3 u hu];refine du o ?_;rintro w5 ⟨r,h5⟩;have hw:s4.eo v (H++[u])=(s4.eo v H).gn u v:=sJ v H [u] s4;refine⟨rfl,H++[u],us,g4.at 2 0 r,rfl,by rw[a9,fS];rfl,by rw[hw];exact a0.trans h5,a1,a4,by rw[hw];exact aA.gn a3 v,by rw[hw];exact a2.gn v (by rw[aD];intro e;cases e),?_,by rw[hw,oq];exact J,by rw[hw];exact hS i h5⟩;rw[hw,IX aF v (by rw[aD];intro e;cases e) ag,hq];simp
 rintro e w' ⟨rfl,H,ys,g4,he,a9,a0,_⟩;have hy:=List.map_eq_nil_iff.1 he.symm;refine⟨rfl,g4,?_⟩;rw[hy,gS]at a9;unfold Pl.leave;rw[a9];exact a0
def Fix(p:dL)(w:aa):Prop:=∀b,p.fx b->w.heap[b]? = p.fc b
structure PW(p:dL):Prop where
 n1:1<=p.n
 n2:p.n<=200
 e0:p.E0 0=.slice (some ⟨p.gb,0,none⟩) p.nf p.nf
 e1:p.E0 1=.int .i64 p.qn
 e2:p.E0 2=.int .i64 p.wk
 e3:p.E0 3=.int .i64 p.mt
 Hn:p.E0 27=P0 p.sb
 gb:p.fx p.gb
 tab:∀w,Fix p w->∀f,f<p.nf->w.cell? ⟨p.gb,f*2,none⟩=some (.int .i64 (p.rg f))/\w.cell? ⟨p.gb,f*2+1,none⟩=some (.slice (some ⟨p.cb f,0,none⟩) (p.len f) (p.len f))
 rg:∀f,f<p.nf->2<=p.rg f/\p.rg f<=8
 ea:∀o,o<23->p.E0 (4+o)=(tw p.ac).getD o undef
 bx:∀w,Fix p w->∀j,j<32->w.cell? ⟨p.ac+j,0,none⟩=some ((nJ p.ac).getD j (undef,0)).1/\w.heap[p.ac+j]? = some (.cells #[((nJ p.ac).getD j (undef,0)).1] ((nJ p.ac).getD j (undef,0)).2 (0,0))
 cd:∀w,Fix p w->∀f,f<p.nf->p.cb f<w.heap.size/\∀i,i<p.len f->w.cell? ⟨p.cb f,i*4,none⟩=some (.int .u8 (p.ins f i).1)/\w.cell? ⟨p.cb f,i*4+1,none⟩=some (.int .u8 (p.ins f i).2.1)/\w.cell? ⟨p.cb f,i*4+2,none⟩=some (.int .u8 (p.ins f i).2.2.1)/\w.cell? ⟨p.cb f,i*4+3,none⟩=some (.int .u8 (p.ins f i).2.2.2)
 le:∀f,f<p.nf->p.len f<=200
def dZ.fix(h:dZ p s g w):Fix p w:=λb e=>(h.X b e).2
def Fe{f:Nat}{k:Fn}{ka kc:Array Value}(bk:Nat×Nat×Nat×Nat)(u v:B.V)(h:dZ p s g w)(hP:PW p)(ht:fm s t)(J:(s.T t).lf=none)(i:f<p.nf)(hm:(s.T t).fr.length<=1000)(H:.func k ka kc=xM p g t (s.T t).fr.length bk): eL 119 #[P0 p.eb,P0 (g.tb t),aj f,vA u,vA v,.func k ka kc] w λw'=>∃fb rb r,Tr p s g w (s.push t ⟨f,0,ig u v,bk⟩) (g.push t (s.T t).fr.length fb rb r) w':=by
 have Z:=h.E;obtain⟨h1,h2⟩:=hP.tab w h.fix f i;have h0:w.cell? (ay p.eb 0)=some (dA p.gb p.nf p.nf):=by
  rw[Z.cell 0 ag];show some (p.E0 0)=_;rw[hP.e0]
 refine du (JZ p.eb (g.tb t) p.gb p.nf (p.cb f) (p.len f) (p.rg f) f (s.T t).fr.length (g.ro 12 t).2 (g.ro 12 t).1 _ k ka kc u v (gz p s g t) w h0 h1 h2 (h.tk ht) rfl (h.row (x:=12) (y:=t) (by grind[fe]) (iE ag ht)) hm Z.lt (h.X _ hP.gb).1 i (hP.rg f i).1 (hP.rg f i).2) ?_;rintro w' ⟨Y,G,fb,rb,k1,k2,W,k4,k5,k6,k7⟩;refine⟨rfl,fb,rb,(some (ay Y 0),G),h.push (f:=⟨f,0,ig u v,bk⟩) ht J k1 k2 ?_ W.2.1 (k6.mono (λk o _=>?_)) k4 k5 (λk o=>?_)⟩
 .rw[<-H];exact W.1
 .grind[kC]
 have e:Y=k:=by injection o
 grind[kC]
def Pl.back(s:Pl)(t:Nat)(v:B.V):Pl:=if de s t=0 then(s.pop t).leave t v 2 v.2 else(s.pop t).dJ t (de s t-1) ((dq s t (de s t-1)).set (dq s t (de s t)).bk.2.1 v)
def wY(s:Pl)(t u:Nat):((s.pop t).T u).wh=(s.T u).wh/\((s.pop t).T u).lf=(s.T u).lf:=by
 by_cases e:u=t
 .subst e;unfold Pl.pop;rw[di];exact⟨rfl,rfl⟩
 grind[Pl.pop,dR]
theorem LW.pop(h:LW s)(t:Nat):LW (s.pop t):=h.same rfl rfl (λu=>(wY s t u).1)
theorem WW.pop{p:dL}{s:Pl}(h:WW p s){t:Nat}(hw:(s.T t).wh=none):WW p (s.pop t):=by
 intro u G a b i o;rw[(wY s t u).1]at i;have e:u≠t:=λe=>by grind
 have y:(s.pop t).T u=s.T u:=dR _ _ e;have:=h u G a b i o;grind[gD]
theorem tG(s:Pl)(t:Nat):((s.pop t).T t).fr.length=(s.T t).fr.length-1:=by unfold Pl.pop;rw[di];exact eY
def vZ(v:B.V)(h:dZ p s g w)(hW:LW s)(aB:WW p s)(ht:fm s t)(aG:(s.T t).lf=none)(aE:(s.T t).wh=none)(aA:(s.T t).fr≠[])(hm:(s.T t).fr.length<=1000)(aD:t∈s.lv)(a9:s.lv.Nodup)(aF:∀u,u∈s.lv->fm s u)(ho:s.out.length=s.nt)(hk:s.kp.length<=1000000)(aC:s.ev.length<=100000)(a8:de s t≠0->(dq s t (de s t)).bk.2.1<p.rg (dq s t (de s t-1)).f): eL 107 #[P0 (g.tb t),vA v] w λw'=>∃g',Tr p s g w (s.back t v) g' w':=by
 have a4:(s.T t).fr.length≠0:=λe=>aA (db.1 e);obtain⟨m,a1⟩:∃m,(s.T t).fr.length=m+1:=⟨(s.T t).fr.length-1,ag⟩;have H:de s t=m:=by unfold de;omega
 have hr:=h.row (x:=12) (y:=t) (by grind[fe]) (iE ag ht);have hF:=h.fr ht (i:=m) ag;obtain⟨kb,ck,he⟩:=ee hr (by grind[jY]);have a2:g.ro 12 t=(some (ay kb 0),ck):=by
  unfold sl at he;injection he with a b c;exact fV a c
 rw[he,jY,m8,a1,gm,gR,gR]at hr;have a7:gz p s g t 1=dA kb (m+1) ck:=by
  show sl s g 12 t=_;rw[he,jY,a1]
 have G:∀w2,NU w w2 (g.tb t) kb ck m (((List.range m).map (g.fb t)).map P0) (gz p s g t)->Tr p s g w (s.pop t) g w2:=λw2 hp=>by
  obtain⟨k1,k2,k3⟩:=hp;refine h.pop ht aG a1 ?_ ?_ (k3.mono (λk hk _=>?_))
  .grind
  .grind
  rw[a2];exact hk.imp id (λe=>by rw[e];rfl)
 unfold Pl.back;rw[H];by_cases h0:m=0
 .rw[bf h0];have Y:xM p g t m (dq s t m).bk=Fv 120 #[P0 (g.xe t),P0 (g.xt t)]:=by unfold xM;rw[bf h0]
  unfold zD at hF;rw[Y]at hF;refine wa (g.tb t) kb ck m (g.fb t m) _ _ _ _ _ _ v _ _ (af ⟨g.xe t,g.xt t,rfl,rfl,rfl⟩) _ (gz p s g t) (λw'=>∃g',Tr p s g w ((s.pop t).leave t v 2 v.2) g' w') w (h.tk ht) a7 ag hr hF ?_;intro w2 a0;have W:=G w2 a0;have o:fm (s.pop t) t:=ht;have a5:=W.r.xe o;have a3:=W.r.xt o;refine Ic p.eb (g.tb t) (g.xe t) (g.xt t) v _ w2 (fy a5) (fy a3) (ch a5) (ch a3) ?_;intro w3 a6;refine du (Ag v 2 v.2 (W.r.kept a6) (hW.pop t) (aB.pop aE) o aD a9 aF ho hk aC) ?_;rintro w4 ⟨g',h4⟩;exact⟨rfl,g',(W.kept a6).trans h4⟩
 rw[au h0];have Y:xM p g t m (dq s t m).bk=.func (.func 149) #[ed (dq s t m).bk.1 (dq s t m).bk.2.1 (dq s t m).bk.2.2.1 (dq s t m).bk.2.2.2 (g.fb t (m-1)) (g.tb t) p.eb] #[]:=by unfold xM;rw[au h0]
 unfold zD at hF;rw[Y]at hF;refine wa (g.tb t) kb ck m (g.fb t m) _ _ _ _ _ _ v _ _ (ah ⟨_,_,_,_,g.fb t (m-1),p.eb,rfl,rfl,rfl⟩) _ (gz p s g t) (λw'=>∃g',Tr p s g w ((s.pop t).dJ t (m-1) ((dq s t (m-1)).set (dq s t m).bk.2.1 v)) g' w') w (h.tk ht) a7 ag hr hF ?_;intro w2 a0;have W:=G w2 a0;have o:fm (s.pop t) t:=ht;have J:dq (s.pop t) t (m-1)=dq s t (m-1):=pJ s (λ_=>by omega);have hb:=a8 ag;rw[H]at hb;refine du (se (t:=t) (i:=m-1) (a:=(dq s t m).bk.2.1) (dq s t m).bk.1 (dq s t m).bk.2.2.1 (dq s t m).bk.2.2.2 (g.tb t) p.eb v W.r o (kr tG) (eV J hb)) λw3 h3=>?_;rw[J]at h3;exact⟨rfl,g,W.trans h3⟩
def Mf{why:Nat}(hw:why<=8)(h:dZ p s g w)(hW:LW s)(o:WW p s)(ht:fm s t)(G:t∈s.lv)(H:s.lv.Nodup)(J:∀u,u∈s.lv->fm s u)(Z:s.out.length=s.nt)(Y:s.kp.length<=1000000)(y:s.ev.length<=100000): eL 187 #[P0 p.eb,P0 (g.tb t),aj why] w λw'=>∃g',Tr p s g w (s.leave t (0,-(why:Int)) 3 why) g' w':=by
 refine Mh p.eb (g.tb t) why hw _ w (λw1 i=>?_);refine du (Ag (0,-(why:Int)) 3 why (h.kept i) hW o ht G H J Z Y y) ?_;rintro w2 ⟨g',W⟩;exact⟨rfl,g',W.ahead i⟩
def Fg(h:dZ p s g w)(hW:LW s)(o:WW p s)(ht:fm s t)(G:t∈s.lv)(H:s.lv.Nodup)(J:∀u,u∈s.lv->fm s u)(Z:s.out.length=s.nt)(Y:s.kp.length<=1000000)(y:s.ev.length<=100000): eL 172 #[P0 p.eb,P0 (g.tb t)] w λw'=>∃g',Tr p s g w (s.leave t (0,-100) 4 0) g' w':=by
 refine Fh p.eb (g.tb t) _ w (λw1 i=>?_);refine du (Ag (0,-100) 4 0 (h.kept i) hW o ht G H J Z Y y) ?_;rintro w2 ⟨g',W⟩;exact⟨rfl,g',W.ahead i⟩
def Pl.more(s:Pl):Pl:={ s.new with out:=s.out++[(0,0)],lv:=s.lv++[s.nt+1] }
def eJ.more(g:eJ)(t tb xe xt:Nat)(r7 r6:Option Addr×Nat):eJ:=((g.new t tb xe xt).at 7 0 r7).at 6 0 r6
def LW.mw(h:LW s)(e:∀u,u∈s.lv->fm s u):MW s:=⟨λx y o t ht=>(h.b x y o t ht).1,e,λt ht x y i=>(h.a t ht x y i).1⟩
def dZ.begin{w6:aa}{tb xe xt:Nat}{G i:Option Addr}{H J:Nat}(h:dZ p s g w)(hM:MW s)(ho:s.out.length=s.nt)(Y:Kr w w6 p.eb tb xe xt s.out.length s.lv.length (sl s g 7 0) (sl s g 6 0) s.out ((s.lv.map g.tb).map P0) (iH p s g) G i H J):Tr p s g w s.more (g.more (s.nt+1) tb xe xt (G,H) (i,J)) w6:=by
 have a6:gY s 6 0 0=true:=iV ag;have a8:gY s 7 0 0=true:=iV ag
 have aE:∀{t},fm s t->(g.more (s.nt+1) tb xe xt (G,H) (i,J)).tb t=g.tb t:=λh=>(nY (tb:=tb) (xe:=xe) (xt:=xt) g ((λh=>by have:=h.2;omega) h)).1;have a5:(g.more (s.nt+1) tb xe xt (G,H) (i,J)).tb (s.nt+1)=tb:=(lL g (s.nt+1) tb xe xt).1;have a1:(g.more (s.nt+1) tb xe xt (G,H) (i,J)).ro 6 0=(i,J):=td _ _ _ _;have a0:(g.more (s.nt+1) tb xe xt (G,H) (i,J)).ro 7 0=(G,H):=(lG _ _ ag).trans (td _ _ _ _);have a9:∀a b,¬(a=6/\b=0)->¬(a=7/\b=0)->(g.more (s.nt+1) tb xe xt (G,H) (i,J)).ro a b=(g.new (s.nt+1) tb xe xt).ro a b:=λa b h6 h7=>(lG _ _ h6).trans (lG _ _ h7);have aD:eS s.more 6 0=s.lv.length+1:=by show(s.lv++[s.nt+1]).length=_;rw[cw];rfl
 have aG:eS s.more 7 0=s.out.length+1:=by show(s.out++[(0,0)]).length=_;rw[cw];rfl
 have aF:∀a b,a≠6->a≠7->eS s.more a b=eS s.new a b:=λa b h6 h7=>by unfold eS;simp only[au h6,au h7];rfl
 have a2:∀a b,a≠6->a≠7->sl s.more (g.more (s.nt+1) tb xe xt (G,H) (i,J)) a b=sl s.new (g.new (s.nt+1) tb xe xt) a b:=λa b h6 h7=>by
  grind[sl]
 have aN:∀t,gz p s.more (g.more (s.nt+1) tb xe xt (G,H) (i,J)) t=gz p s.new (g.new (s.nt+1) tb xe xt) t:=λt=>by
  funext j
  unfold gz;rw[a2 12 t ag ag,a2 5 t ag ag];rfl
 have aC:∀{x:Nat} {v':Value} {k:Nat},lR w.heap.size (sl s g x 0) v'->v'.ownBlock=some k->fi (g.ro x 0).1=some k\/w.heap.size<=k:=λhm W=>by
  rcases hm with e|⟨g',e,aO⟩
  .grind[sl,dF]
  grind
 have d6:∀k,fi i=some k->k≠tb/\k≠xe/\k≠xt:=λk W=>by
  obtain⟨_,_,cu,h1⟩:=dP Y.l k (by grind[dF]);exact⟨eE h1 Y.t ek,eE h1 Y.y ek,Y.l3 k (by grind[dF])⟩
 have d7:∀k,fi G=some k->k≠tb/\k≠xe/\k≠xt/\fi i≠some k:=λk W=>by
  obtain⟨_,_,cu,h1⟩:=dP Y.o k (by grind[dF]);refine⟨eE h1 Y.t ek,eE h1 Y.y ek,eE h1 Y.x ek,λe=>?_⟩;obtain⟨_,_,aP,h2⟩:=dP Y.l k (by grind[dF]);grind
 have aB:∀a,a=5\/a=11\/a=12\/a=15\/a=16->gY s.more a (s.nt+1) 0=true:=λa ha=>iE ha ⟨ag,bq _⟩;have a3:∀a,a=5\/a=12->sl s.more (g.more (s.nt+1) tb xe xt (G,H) (i,J)) a (s.nt+1)=.slice none 0 0/\eS s.more a (s.nt+1)=0/\gu s.more (g.more (s.nt+1) tb xe xt (G,H) (i,J)) a (s.nt+1)=[]/\(g.more (s.nt+1) tb xe xt (G,H) (i,J)).ro a (s.nt+1)=(none,0):=λa ha=>by
  have a4:=(a9 a _ ag ag).trans (E4 g ha);have e1:eS s.more a (s.nt+1)=0:=by
   rcases ha with rfl|rfl
   .show(s.new.q 5 (s.nt+1)).length=0;rw[uC];rfl
   show(s.new.T (s.nt+1)).fr.length=0;rw[mL];rfl
  refine⟨?_,e1,?_,a4⟩
  .grind[sl]
  rcases ha with rfl|rfl
  .show((s.new.q 5 (s.nt+1)).map _).map P0=[];rw[uC];rfl
  rw[m8];show((List.range (s.new.T (s.nt+1)).fr.length).map _).map P0=[];rw[mL];rfl
 refine h.to (λa b c=>((a=0\/a=6\/a=7)/\b=0/\c=0)\/((a=5\/a=11\/a=12\/a=15\/a=16)/\b=s.nt+1/\c=0)) (λk=>if k=tb then(11,s.nt+1,0) else if k=xe then(15,s.nt+1,0) else if k=xt then(16,s.nt+1,0) else if fi i=some k then(6,0,0) else(7,0,0)) (Y.s.mono (λk W _=>?_)) (λa b c hC=>?_) (λa b c hC=>?_) (λa b c k hC W=>?_) (Nat.le_succ _) (λu hu=>aE hu)
 .rcases W with W|W|W
  .exact⟨0,0,0,af ⟨af rfl,rfl,rfl⟩,W⟩
  .refine⟨7,0,0,af ⟨ah (ah rfl),rfl,rfl⟩,?_⟩;rw[gQ p g (by unfold fe;omega) a8];unfold sl at W;rw[dF]at W;exact W
  refine⟨6,0,0,af ⟨ah (af rfl),rfl,rfl⟩,?_⟩;rw[gQ p g (by unfold fe;omega) a6];unfold sl at W;rw[dF]at W;exact W
 .rw[<-Jx (p:=p) (g:=g) (tb:=tb) (xe:=xe) (xt:=xt) hM (λe=>hC (ah e))];refine kT ((λa b c=>rfl) a b c) (λhV=>mK hV ?_ (λ_=>⟨rfl,rfl,rfl⟩) (λ_=>⟨rfl,aN b⟩) (λ_=>⟨rfl,rfl⟩) (λ_=>⟨rfl,rfl⟩) (λ_=>rfl) (λ_=>⟨rfl,rfl⟩) (λ_=>⟨rfl,rfl⟩) ?_)
  .intro ea;exact dp (af ⟨af ea,lT hV ag⟩) hC
  intro ha;have ec:=rK hV ha;have h6:a≠6:=λe=>hC (af ⟨ah (af e),(lT hV ag).1,ec⟩);have h7:a≠7:=λe=>hC (af ⟨ah (ah e),(lT hV ag).1,ec⟩);exact⟨a9 a b (λe=>h6 e.1) (λe=>h7 e.1),aF a b h6 h7,(λa b h6 h7=>by unfold gu;simp only[au h6,au h7];rfl) a b h6 h7⟩
 .rcases hC with⟨ha,rfl,rfl⟩|⟨ha,rfl,rfl⟩
  .rcases ha with rfl|rfl|rfl
   .refine Full.congr Y.e (λj hj=>?_);have e6:Value.slice i (s.lv.length+1) J=sl s.more (g.more (s.nt+1) tb xe xt (G,H) (i,J)) 6 0:=by unfold sl;rw[a1,aD]
    have e7:Value.slice G (s.out.length+1) H=sl s.more (g.more (s.nt+1) tb xe xt (G,H) (i,J)) 7 0:=by unfold sl;rw[a0,aG]
    by_cases aA:j=29
    .subst aA;rw[gO,e6];rfl
    rw[eN _ _ _ _ aA];by_cases a7:j=30
    .subst a7;rw[gO,e7];rfl
    rw[eN _ _ _ _ a7];unfold iH;by_cases q1:j<28
    .rw[bf q1,bf q1]
    rw[au q1,au q1];by_cases q2:j=28
    .rw[bf q2,bf q2];rfl
    rw[au q2,au q2];by_cases q3:j=42
    .rw[bf q3,bf q3];rfl
    rw[au q3,au q3];have hI:=uT j;have k6:(lP j).1≠6:=λe=>aA (uU j hj 29 ag ag q3 ag ag (fV e (by
     rcases hI.2.2.2 with e1|e1|e1
     .omega
     .omega
     exact e1)))
    have k7:(lP j).1≠7:=λe=>a7 (uU j hj 30 ag ag q3 ag ag (fV e (by
     rcases hI.2.2.2 with e1|e1|e1
     .omega
     .omega
     exact e1)))
    rw[a2 _ _ k6 k7];unfold sl;rw[xl g (λe=>by have:=hI.2.1;have:=hI.2.2.1;omega)];have:eS s.new (lP j).1 (lP j).2=eS s (lP j).1 (lP j).2:=by
     unfold eS;rw[qZ s (λe=>by have:=hI.2.1;omega)];simp only[au hI.2.2.1];rfl
    rw[this]
   .rw[hZ (show gY s.more 6 0 0=true from iV ag),g9 (by unfold fe;omega)];show w6.ownsRow 0 155 1 (.slice ((g.more (s.nt+1) tb xe xt (G,H) (i,J)).ro 6 0).1 (eS s.more 6 0) ((g.more (s.nt+1) tb xe xt (G,H) (i,J)).ro 6 0).2) (eS s.more 6 0) (((s.lv++[s.nt+1]).map (g.more (s.nt+1) tb xe xt (G,H) (i,J)).tb).map P0);rw[a1,aD,gR,gR];have e1:s.lv.map (g.more (s.nt+1) tb xe xt (G,H) (i,J)).tb=s.lv.map g.tb:=List.map_congr_left (λt ht=>aE (hM.b t ht));have e2:([s.nt+1].map (g.more (s.nt+1) tb xe xt (G,H) (i,J)).tb).map P0=[P0 tb]:=by show[P0 _]=_;rw[a5]
    rw[e1,e2];exact Y.l
   rw[hZ (show gY s.more 7 0 0=true from iV ag),g9 (by unfold fe;omega)];show w6.ownsRow 0 149 2 (.slice ((g.more (s.nt+1) tb xe xt (G,H) (i,J)).ro 7 0).1 (eS s.more 7 0) ((g.more (s.nt+1) tb xe xt (G,H) (i,J)).ro 7 0).2) (eS s.more 7 0) (gT (s.out++[(0,0)]));rw[a0,aG,qH];exact Y.o
  rw[hZ (aB a ha)];by_cases h5:a=5\/a=12
  .rw[g9 (by unfold fe;omega)];show w6.ownsRow 0 (AU a) (AV a) (sl s.more (g.more (s.nt+1) tb xe xt (G,H) (i,J)) a (s.nt+1)) (eS s.more a (s.nt+1)) (gu s.more (g.more (s.nt+1) tb xe xt (G,H) (i,J)) a (s.nt+1));obtain⟨e1,e2,e3,_⟩:=a3 a h5;rw[e1,e2,e3];exact eg w6 _ _ _
  have:a=11\/a=15\/a=16:=by omega
  rcases this with rfl|rfl|rfl
  .show Full w6 ((g.more (s.nt+1) tb xe xt (G,H) (i,J)).tb (s.nt+1)) 160 7 7 (gz p s.more (g.more (s.nt+1) tb xe xt (G,H) (i,J)) (s.nt+1));rw[a5];refine⟨_,Y.t,rfl,λj hj=>?_⟩;have hc:=oU 6 j ag
   have hT:s.more.T (s.nt+1)=rZ:=mL s;rcases hc with rfl|rfl|rfl|rfl|rfl|rfl|rfl
   .show some (Value.int .i64 ((s.out.length:Int)+1))=some (Value.int .i64 ((s.nt+1:Nat):Int));rw[ho];rfl
   .show some (Value.slice none 0 0)=some (sl s.more (g.more (s.nt+1) tb xe xt (G,H) (i,J)) 12 (s.nt+1));rw[(a3 12 (ah rfl)).1]
   .show some (Value.bool false)=some (Value.bool (s.more.T (s.nt+1)).run);rw[hT];rfl
   .show some (Value.pointer none)=some (wF p _ (s.more.T (s.nt+1)).wh);rw[hT];rfl
   .show some Value.nilFunc=some (yL _ (s.nt+1) (s.more.T (s.nt+1)).lf);rw[hT];rfl
   .show some (Value.int .i64 0)=some (Value.int .i64 (s.more.T (s.nt+1)).iM);rw[hT];rfl
   show some (Value.slice none 0 0)=some (sl s.more (g.more (s.nt+1) tb xe xt (G,H) (i,J)) 5 (s.nt+1));rw[(a3 5 (af rfl)).1]
  .show w6.heap[(g.new (s.nt+1) tb xe xt).xe (s.nt+1)]? = _;rw[(lL g (s.nt+1) tb xe xt).2.1];exact Y.y
  show w6.heap[(g.new (s.nt+1) tb xe xt).xt (s.nt+1)]? = some (.cells #[P0 ((g.new (s.nt+1) tb xe xt).tb (s.nt+1))] 155 (0,0));rw[(lL g (s.nt+1) tb xe xt).2.2,(lL g (s.nt+1) tb xe xt).1];exact Y.x
 rcases hC with⟨ha,rfl,rfl⟩|⟨ha,rfl,rfl⟩
 .rcases ha with rfl|rfl|rfl
  .exact af W
  .rw[gQ p _ (by unfold fe;omega) (show gY s.more 6 0 0=true from iV ag),a1]at W;rw[gQ p g (by unfold fe;omega) a6];refine(aC Y.l2 (eV dF W)).imp id (λhl=>⟨hl,?_⟩);obtain⟨q1,q2,q3⟩:=d6 k W;rw[au q1,au q2,au q3,bf W]
  rw[gQ p _ (by unfold fe;omega) (show gY s.more 7 0 0=true from iV ag),a0]at W;rw[gQ p g (by unfold fe;omega) a8];refine(aC Y.o2 (eV dF W)).imp id (λhl=>⟨hl,?_⟩);obtain⟨q1,q2,q3,q4⟩:=d7 k W;rw[au q1,au q2,au q3,au q4]
 rw[hZ (aB a ha)]at W;by_cases h5:a=5\/a=12
 .rw[g9 (by unfold fe;omega)]at W;have Z:fi ((g.more (s.nt+1) tb xe xt (G,H) (i,J)).ro a (s.nt+1)).1=some k:=W;rw[(a3 a h5).2.2.2]at Z
  cases Z
 have:a=11\/a=15\/a=16:=by omega
 rcases this with rfl|rfl|rfl
 .have Z:k=(g.new (s.nt+1) tb xe xt).tb (s.nt+1):=W;rw[(lL g (s.nt+1) tb xe xt).1]at Z;subst Z;exact ah ⟨Y.n.1,bf rfl⟩
 .have Z:k=(g.new (s.nt+1) tb xe xt).xe (s.nt+1):=W;rw[(lL g (s.nt+1) tb xe xt).2.1]at Z;subst Z;exact ah ⟨Y.n.2.1,by rw[au (eE Y.y Y.t ek),bf rfl]⟩
 have Z:k=(g.new (s.nt+1) tb xe xt).xt (s.nt+1):=W;rw[(lL g (s.nt+1) tb xe xt).2.2]at Z;subst Z;exact ah ⟨Y.n.2.2,by rw[au (eE Y.x Y.t ek),au (eE Y.x Y.y ek),bf rfl]⟩
end F
section
def Bx(w:aa)(mb eb:Nat):Prop:=∃x,w.heap[mb]? = some (.cells #[.int .i32 0,x,P0 eb] 105 (0,0))
def vS(s:ByteArray)(c0 c1 Z c3:Int)(w:aa)(hs:s.size<=maxLen)(hT:og w)(R:Nat->aa->Prop)(H:uA c0 c1 Z c3=true->(M.m9 s).2=true->∀(w1 w2:aa) (g cl:Nat),c0=(cl:Int)->w.heap.size+2<=w1.heap.size->Below w.heap.size w w2->w1.heap.size<=w2.heap.size->tT w2 s w1.heap.size g (M.bt s 0) (M.bt s 0)->Calls prog 38 #[dA g (M.bt s 0) (M.bt s 0),.agg #[aj cl,aj c1,aj Z,aj c3]] w2 λe w'=>∃eb,e=.returned (P0 eb)/\Below w2.heap.size w2 w'/\R eb w'): Calls prog 23 #[.string s,.agg #[aj c0,aj c1,aj Z,aj c3]] w λe w'=>Below w.heap.size w w'/\((∃x y:Int,e=.returned (.tuple #[.pointer none,.agg #[aj x,aj y]])/\¬(uA c0 c1 Z c3=true/\(M.m9 s).2=true)/\told s c0 c1 Z c3=(x,y,false))\/(∃(mb eb:Nat) (G:aa),e=.returned (.tuple #[P0 mb,.agg #[aj 0,aj 0]])/\R eb G/\w.heap.size+2<=mb/\mb=G.heap.size/\Bx w' mb eb/\∀k,k<G.heap.size->k≠w.heap.size+1->w'.heap[k]? = G.heap[k]?)):=by
 have HS:Hid (s.size<=maxLen):=hs;have aB:Hid (og w):=hT;have HH:=bj H;clear hs hT H;go_in;go_wp2_with fail
 refine du (Cs _ _ _ _ _) λw1 hB=>?_;obtain⟨hc,hf⟩:=ta hB;have hz:=hB.size;simp at hz;have a1:=(((fQ _ _).alloc (bq _) _).alloc eB _).trans (hB.mono fH);have J:=bj a1;clear hB a1
 cases hok:uA c0 c1 Z c3
 .have u:=bj hok;clear hok;go_wp2_with fail
  refine dg (v:=.tuple #[.pointer none,.agg #[aj 1,aj 0]]) (by simp[results,results23,go_sem, *]) rfl ⟨?_,af ⟨1,0,rfl,(λh=>by rw[u.out]at h;cases h.1),by unfold told;rw[au (by rw[u.out];simp)]⟩⟩;repeat (refine Below.setCell ?_ eB _)
  exact J.out
 have u:=bj hok;clear hok;go_wp2_with fail
 refine(D9 s _ HS.out (aB.out.below J.out)).mono ?_;rintro e w2 ⟨⟨ad,n,c,rfl,hA⟩,W⟩;have HA:=bj hA;clear hA;have a3:=W.size;have l0:w.heap.size<w1.heap.size:=ag
 have l1:w.heap.size+1<w1.heap.size:=ag
 obtain⟨i,a0⟩:=ta W;have d0:w2.cell? (ay (w.heap.size+1) 0)=some (aj 0):=by rw[i _ _ l1,hc _ _ eB];simp
 have d1:w2.cell? (ay (w.heap.size+1) 1)=some (aj 0):=by rw[i _ _ l1,hc _ _ eB];simp
 have e0:w2.frozen? (ay (w.heap.size+1) 0)=false:=by rw[a0 _ _ l1,hf _ _ eB];simp
 have e1:w2.frozen? (ay (w.heap.size+1) 1)=false:=by rw[a0 _ _ l1,hf _ _ eB];simp
 have g0:w2.cell? (ay w.heap.size 0)=some (aj c0):=by rw[i _ _ l0,hc _ _ fH];simp
 have g1:w2.cell? (ay w.heap.size 1)=some (aj c1):=by rw[i _ _ l0,hc _ _ fH];simp
 have g2:w2.cell? (ay w.heap.size 2)=some (aj Z):=by rw[i _ _ l0,hc _ _ fH];simp
 have g3:w2.cell? (ay w.heap.size 3)=some (aj c3):=by rw[i _ _ l0,hc _ _ fH];simp
 have l2:w.heap.size+1<w2.heap.size:=ag
 have Y:=bj (J.out.trans (W.mono J.out.size));have aA:Hid (w.heap.size+2<=w1.heap.size):=hz;have a9:Hid (w1.heap.size<=w2.heap.size):=a3;clear W J hc hf i a0 hz a3 l0 l1;generalize hR:M.m9 s=R at *;have HR:=bj hR;clear hR;obtain⟨P,ok⟩:=R
 cases ok
 .go_wp2_with fail
  refine dg (v:=.tuple #[.pointer none,.agg #[aj 2,aj P]]) (by simp[results,results23,go_sem,d0,d1]) rfl ⟨?_,af ⟨2,P,rfl,(λh=>by have h2:=h.2;rw[HR.out]at h2;cases h2),by unfold told;rw[bf u.out,HR.out];rfl⟩⟩;repeat (refine Below.setCell ?_ eB _)
  exact Y.out
 obtain⟨aD,aE,a8,aF,g,a5,a2⟩:=HA.out rfl;subst aE a5;have a7:Hid (tT w2 s w1.heap.size g c c):=a2;subst aD;clear HA a2 a8 aF;have aH:1<=c0/\c0<=200:=by have:=u.out;simp[uA,vm]at this;omega
 obtain⟨cl,rfl⟩:∃cl:Nat,c0=(cl:Int):=⟨c0.toNat,ag⟩;go_wp2_with fail
 refine(HH.out u.out (by first|rfl|trivial) w1 w2 g cl rfl aA.out Y.out a9.out a7.out).mono ?_;rintro e G ⟨eb,rfl,o,a4⟩;have aG:=bj a4;clear a4;have aJ:=o.size;have aC:Hid (Below w.heap.size w G):=Y.out.trans (o.mono ag);rw[<-o.cell (p:=ay (w.heap.size+1) 0) l2]at d0;rw[<-o.cell (p:=ay (w.heap.size+1) 1) l2]at d1;rw[<-o.frozen (p:=ay (w.heap.size+1) 0) l2]at e0;rw[<-o.frozen (p:=ay (w.heap.size+1) 1) l2]at e1;have l4:w.heap.size+1<G.heap.size:=ag
 clear o g0 g1 g2 g3 Y;go_wp2_with fail
 refine dg (v:=.tuple #[.pointer (some (ay G.heap.size 0)),.agg #[aj 0,aj 0]]) (by simp[results,results23,go_sem,d0,d1,l4]) rfl ⟨?_,ah ⟨G.heap.size,eb,G,rfl,aG.out,ag,rfl,⟨.int .u32 0,?_⟩,λk hk aI=>?_⟩⟩
 .repeat (first|exact aC.out|refine Below.setCell ?_ eB _|refine Below.alloc ?_ (by simp[World.setCell];omega) _)
 .have h1:=bl ((G.setCell (ay (w.heap.size+1) 0) (aj 0)).setCell (ay (w.heap.size+1) 1) (aj 0)) (.cells #[.int .i32 0,.int .u32 0,P0 eb] 105);simpa[World.setCell] using h1
 have a6:((G.setCell (ay (w.heap.size+1) 0) (aj 0)).setCell (ay (w.heap.size+1) 1) (aj 0)).heap.size=G.heap.size:=by simp[World.setCell]
 rw[av _ _ _ (kr a6),ab _ _ _ _ (by show k≠w.heap.size+1;omega),ab _ _ _ _ (by show k≠w.heap.size+1;omega)]
