import Derived.Test.YtnjiinbhbjpfkaaGreatDoorKS
import Derived.Test.YtnjiinbhbjpfkaaGreatDoorKG
import Derived.Test.YtnjiinbhbjpfkaaGreatDoorKM
set_option maxRecDepth 100000
set_option maxHeartbeats 0
set_option linter.all false
namespace Go.Proofs.YtnjiinbhbjpfkaaGreatDoor
open Go.RowKit Go.Proofs.Tryz
namespace F
def qR:oT:=⟨[],false,none,none,0⟩
def Pl.new(s:Pl):Pl:={ s with nt:=s.nt+1,T:=λi=>if i=s.nt+1 then qR else s.T i,q:=λa b=>if a=5/\b=s.nt+1 then[] else s.q a b }
def eE.new(g:eE)(t tb xe xt:Nat):eE:={ g with tb:=λi=>if i=t then tb else g.tb i,xe:=λi=>if i=t then xe else g.xe i,xt:=λi=>if i=t then xt else g.xt i,ro:=λa b=>if(a=5\/a=12)/\b=t then(none,0) else g.ro a b }
theorem mi(s:Pl){t:Nat}(h:t≠s.nt+1):s.new.T t=s.T t:=aa h
theorem lM(s:Pl):s.new.T (s.nt+1)=qR:=aj rfl
theorem qA(s:Pl){a b:Nat}(h:¬(a=5/\b=s.nt+1)):s.new.q a b=s.q a b:=aa h
theorem s9(s:Pl):s.new.q 5 (s.nt+1)=[]:=aj ⟨rfl,rfl⟩
theorem G7(s:Pl):s.new.nt=s.nt+1:=rfl
theorem mm(g:eE){t tb xe xt u:Nat}(h:u≠t):(g.new t tb xe xt).tb u=g.tb u/\(g.new t tb xe xt).xe u=g.xe u/\(g.new t tb xe xt).xt u=g.xt u:=⟨aa h,aa h,aa h⟩
theorem jP(g:eE)(t tb xe xt:Nat):(g.new t tb xe xt).tb t=tb/\(g.new t tb xe xt).xe t=xe/\(g.new t tb xe xt).xt t=xt:=⟨aj rfl,aj rfl,aj rfl⟩
theorem vD(g:eE){t tb xe xt a b:Nat}(h:¬((a=5\/a=12)/\b=t)):(g.new t tb xe xt).ro a b=g.ro a b:=aa h
theorem Dx(g:eE){t tb xe xt a:Nat}(h:a=5\/a=12):(g.new t tb xe xt).ro a t=(none,0):=aj ⟨h,rfl⟩
theorem EP(s:Pl){a b c:Nat}(Y:¬((a=5\/a=11\/a=12\/a=15\/a=16)/\b=s.nt+1/\c=0)):gu s.new a b c=gu s a b c:=by
 unfold gu;rw[G7];by_cases o:a<=1\/a=2\/a=3\/(6<=a/\a<=9)\/a=18
 .rw[aj o,aj o]
 rw[aa o,aa o];by_cases u:a=4\/a=10
 .rw[aj u,aj u]
 rw[aa u,aa u];by_cases i:a=5\/a=11\/a=12\/a=15\/a=16
 .rw[aj i,aj i];have:¬(b=s.nt+1/\c=0):=λe=>Y ⟨i,e⟩;apply decide_eq_decide.2
  omega
 rw[aa i,aa i];by_cases H:b=s.nt+1
 .subst H;rw[lM];have G:¬(1<=s.nt+1/\s.nt+1<=s.nt/\c=0):=by omega
  have y:¬(1<=s.nt+1/\s.nt+1<=s.nt/\c<(s.T (s.nt+1)).fr.length):=by omega
  have J:¬(1<=s.nt+1/\s.nt+1<=s.nt+1/\c<qR.fr.length):=by
   show ¬(_/\_/\c<0);omega
  rw[fi G,fi y,fi J];have W:qR.lf.isSome=false:=rfl;rw[W];simp
 rw[mi s H];have G:decide (1<=b/\b<=s.nt+1/\c=0)=decide (1<=b/\b<=s.nt/\c=0):=decide_eq_decide.2 (by omega);have y:decide (1<=b/\b<=s.nt+1/\c<(s.T b).fr.length)=decide (1<=b/\b<=s.nt/\c<(s.T b).fr.length):=decide_eq_decide.2 (by omega);rw[G,y]
structure MW(s:Pl):Prop where
 a:∀x y,fz s x y->∀t,t∈s.q x y->fe s t
 b:∀t,t∈s.lv->fe s t
 c:∀t,fe s t->∀x y,(s.T t).wh=some (x,y)->fz s x y
theorem BQ{s:Pl}{x y:Nat}(h:gu s x y 0=true)(hx:2<=x/\x<=5):fz s x y:=by
 by_cases i:x=2
 .exact ag ⟨i,(jZ h (by omega)).1⟩
 by_cases e:x=3
 .exact ab (ag ⟨e,(jZ h (by omega)).1⟩)
 by_cases o:x=4
 .exact ab (ab (ag ⟨o,(yk h (by omega)).1⟩))
 exact ab (ab (ab ⟨by omega,(jq h (by omega)).1⟩))
theorem G4{p:dz}{s:Pl}{g:eE}{tb xe xt:Nat}(hM:MW s){a b c:Nat}(hC:¬((a=5\/a=11\/a=12\/a=15\/a=16)/\b=s.nt+1/\c=0)):ob p s.new (g.new (s.nt+1) tb xe xt) a b c=ob p s g a b c:=by
 have i:∀{t},fe s t->t≠s.nt+1:=λh=>by have:=h.2;omega
 have u:∀{t},fe s t->(g.new (s.nt+1) tb xe xt).tb t=g.tb t:=λh=>(mm g (i h)).1;have a0:∀a b,¬((a=5\/a=12)/\b=s.nt+1)->eH s.new a b=eH s a b:=λa b e=>by
  unfold eH;by_cases G:a=12
  .rw[mi s (λeb=>e ⟨ab G,eb⟩),qA s (λY=>by omega)];rfl
  rw[qA s (λY=>e ⟨ag Y.1,Y.2⟩)];simp only[aa G];rfl
 have J:∀a b,¬((a=5\/a=12)/\b=s.nt+1)->sl s.new (g.new (s.nt+1) tb xe xt) a b=sl s g a b:=λa b e=>by
  unfold sl;rw[vD g e,a0 a b e]
 refine jT (EP s hC) (λH=>lL H ?_ (λ_=>⟨rfl,rfl,rfl⟩) ?_ ?_ ?_ ?_ ?_ ?_ ?_)
 .intro _;exact jL (λa b _ e5 W _=>J a b (λe=>e.1.elim e5 W)) rfl rfl
 .intro G;have o:=(jq H (by omega)).1;have eb:=i o;refine⟨u o,?_⟩;funext j
  unfold gE;rw[J 12 b (λe=>eb e.2),J 5 b (λe=>eb e.2),mi s eb];have hw:x8 p (g.new (s.nt+1) tb xe xt) (s.T b).wh=x8 p g (s.T b).wh:=by
   cases hwh:(s.T b).wh with
   | none=>rfl
   | some xy=>
    obtain⟨x,y⟩:=xy;show Pt (tP p (g.new (s.nt+1) tb xe xt) x y) (wg x y)=Pt (tP p g x y) (wg x y);unfold tP;by_cases Z:x=5
    .rw[aj Z,aj Z,u (mO (hM.c b o x y hwh) Z)]
    rw[aa Z,aa Z]
  rw[hw];rfl
 .intro G;have o:=(lI H (by omega)).1;refine⟨rfl,?_⟩;have e1:de s.new b c=de s b c:=by unfold de;rw[mi s (i o)]
  rw[e1];unfold yf wj;rw[(mm g (i o)).2.1,(mm g (i o)).2.2,u o];rfl
 .intro G;have o:=(lI H (by omega)).1;refine⟨rfl,?_⟩;unfold de;rw[mi s (i o)]
 .intro G;exact(mm g (i (jq H (by omega)).1)).2.1
 .intro G;have o:=(jq H (by omega)).1;exact⟨(mm g (i o)).2.2,u o⟩
 .intro G;subst G;have o:=(ld H).1;refine⟨rfl,?_⟩;unfold ye;rw[mi s (i o),u o];rfl
 intro ha;have ec:=pW H ha;subst ec;have e:¬((a=5\/a=12)/\b=s.nt+1):=λe=>hC ⟨by omega,e.2,rfl⟩;refine⟨vD g e,a0 a b e,?_⟩;by_cases G:2<=a/\a<=5
 .have hl:=BQ H G;rw[nL _ _ hl,nL _ _ hl,qA s (λY=>e ⟨ag Y.1,Y.2⟩)];congr 1
  exact List.map_congr_left (λt ht=>u (hM.a a b hl t ht))
 unfold fU;by_cases e6:a=6
 .simp only[aj e6];congr 1
  exact List.map_congr_left (λt ht=>u (hM.b t ht))
 by_cases W:a=12
 .subst W;have o:=(jq H (by omega)).1;simp only[aa e6];rw[mi s (i o)];rfl
 obtain⟨r1,r2,r3⟩:=ha;have:a=7\/a=8\/a=9\/a=10:=by omega
 rcases this with rfl|rfl|rfl|rfl<;>rfl
theorem zC{s:Pl}{g:eE}(l:List se)(a b:Nat)(_:eQ a)(i:a=4\/a=5\/a=10\/a=12\/b=0)(h:¬(a=9/\b=0)):eH { s with ev:=l } a b=eH s a b/\fU { s with ev:=l } g a b=fU s g a b:=by
 have e:a≠9:=by omega
 exact⟨by unfold eH;simp only[aa e],by unfold fU;simp only[aa e]⟩
theorem kF(a:Option Addr)(n c k:Nat):(Value.slice a n c).ownBlock=some k↔eO a=some k:=by rw[dr]
def Pl.told(s:Pl)(kind t:Nat)(x:Int):Pl:={ s with ev:=s.ev++[(kind,t,x)] }
theorem B4{p:dz}{s:Pl}{g:eE}{w:World}{t:Nat}(kind:Nat)(x:Int)(h:dQ p s g w)(ht:fe s t)(hn:s.ev.length<=100000): Calls prog 173 #[P0 p.eb,.int .i64 kind,P0 (g.tb t),.int .i64 x] w λe w'=>e=.returned (.tuple #[])/\∃r,Tr p s g w (s.told kind t x) (g.at 9 0 r) w':=by
 have o:gu s 9 0 0=true:=iq (by omega);refine(IU p.eb (g.tb t) kind t x (g.ro 9 0).1 s.ev.length (g.ro 9 0).2 s.ev (iJ p s g) (gE p s g t) w h.E rfl (h.tk ht) rfl (h.row (x:=9) (y:=0) (by unfold eQ;omega) o) hn).mono ?_;rintro e w' ⟨rfl,gb,c,J,Y,W,u⟩;have G:eH (s.told kind t x) 9 0=s.ev.length+1:=by show(s.ev++[(kind,t,x)]).length=_;rw[bo];rfl
 refine⟨rfl,(some ⟨gb,0,none⟩,c),h.yX (j0:=43) (by omega) o (by decide) rfl rfl rfl rfl rfl rfl rfl (λa b c d e=>zC _ a b c d e) ?_ ?_ (W.mono (λk i _=>?_)) (λk i=>?_)⟩
 .rw[G];exact Y
 .rw[G];exact J
 .rw[kF]at i;exact i
 have e:gb=k:=by injection i
 subst e;rw[kF]at u;exact u
def gY.set(f:gY)(a:Nat)(v:B.V):gY:={ f with R:=B.set f.R a v }
theorem DE{p:dz}{s:Pl}{g:eE}{w:World}(h:dQ p s g w){t i:Nat}(ht:fe s t)(hi:i<(s.T t).fr.length):g.fb t i≠g.rb t i:=by
 obtain⟨u,o,_⟩:=h.rg ht hi;exact λe=>dW o (h.fr ht hi) (by decide) e.symm
theorem wP{p:dz}{s:Pl}{g:eE}{w:World}{t i a:Nat}(op b c tb eb:Nat)(v:B.V)(h:dQ p s g w)(ht:fe s t)(hi:i<(s.T t).fr.length)(y:a<p.rg (de s t i).f): Calls prog 149 #[dZ op a b c (g.fb t i) tb eb,vA v] w λe w'=>e=.returned (.tuple #[])/\Tr p s g w (s.dx t i ((de s t i).set a v)) g w':=by
 refine(js op a b c (g.fb t i) tb eb _ _ _ _ _ _ (de s t i).R v w (h.fr ht hi) (h.rg ht hi) y).mono ?_;rintro e w' ⟨rfl,o,u⟩;refine⟨rfl,h.Lo ht hi ?_ u (jg o (ab rfl))⟩;exact cm o (h.fr ht hi) (by intro e;injection e with e;exact DE h ht hi e)
theorem LX{p:dz}{s:Pl}{g:eE}{w w':World}{t i:Nat}{f:gY}(h:dQ p s g w)(ht:fe s t)(hi:i<(s.T t).fr.length)(e:f.f=(de s t i).f)(u:f.bk=(de s t i).bk)(o:Fr w' (g.fb t i) (p.cb (de s t i).f) (p.len (de s t i).f) f.nx (g.rb t i) (p.rg (de s t i).f) (wj p g t i (de s t i).bk) f.R)(y:dy (λk=>k=g.fb t i\/k=g.rb t i) w w'):Tr p s g w (s.dx t i f) g w':=by
 refine h.Lo ht hi ?_ ?_ y
 .unfold yf;rw[e,u];exact o.1
 rw[e];exact o.2.1
theorem dQ.Fr{p:dz}{s:Pl}{g:eE}{w:World}{t i:Nat}(h:dQ p s g w)(ht:fe s t)(hi:i<(s.T t).fr.length):Fr w (g.fb t i) (p.cb (de s t i).f) (p.len (de s t i).f) (de s t i).nx (g.rb t i) (p.rg (de s t i).f) (wj p g t i (de s t i).bk) (de s t i).R:=⟨h.fr ht hi,h.rg ht hi,DE h ht hi⟩
theorem EA{w:World}{i size n:Nat}{e:TypeId}{v:Value}{xs:List Value}(h:w.ownsRow i e size v n xs):∃a c,v=.slice a n c:=by
 rcases h.2 with⟨o,y⟩|⟨g,c,u,o,_⟩
 .exact⟨none,0,by rw[o,y]⟩
 exact⟨_,_,o⟩
def Pl.kU(s:Pl)(j:Nat)(v:B.V):Pl:={ s with out:=s.out.set j v,kp:=iV s.kp v }
theorem Ez{s:Pl}{g:eE}(j:Nat)(v:B.V)(a b:Nat)(_:eQ a)(o:a=4\/a=5\/a=10\/a=12\/b=0)(h:¬(a=8/\b=0)):eH (s.kU j v) a b=eH s a b/\(¬(a=7/\b=0)->fU (s.kU j v) g a b=fU s g a b):=by
 have e:a≠8:=by omega
 by_cases i:a=7
 .subst i;refine⟨?_,λh=>ch ⟨rfl,by omega⟩ h⟩;show(s.out.set j v).length=s.out.length;exact dq
 exact⟨by unfold eH Pl.kU;simp only[aa e,aa i],λ_=>by unfold fU Pl.kU;simp only[aa e,aa i]⟩
theorem Jp{p:dz}{s:Pl}{g:eE}{w:World}{j:Nat}(v:B.V)(h:dQ p s g w)(hj:j<s.out.length)(hm:s.out.length<=1000000000)(i:s.kp.length<=1000000): Calls prog 211 #[P0 p.eb,.int .i64 ((j:Int)+1),vA v] w λe w'=>e=.returned (.tuple #[])/\∃r,Tr p s g w (s.kU j v) (g.at 8 0 r) w':=by
 have u:gu s 7 0 0=true:=iq (by omega);have G:gu s 8 0 0=true:=iq (by omega);have h7:=h.row (x:=7) (y:=0) (by unfold eQ;omega) u;have a0:eH s 7 0=s.out.length:=rfl;obtain⟨ob,W,Z⟩:=dM h7 (by rw[a0];omega);have o:sl s g 7 0=.slice (some ⟨ob,0,none⟩) s.out.length W:=Z;have J:g.ro 7 0=(some ⟨ob,0,none⟩,W):=by
  unfold sl at o;injection o with a b c;exact fV a c
 refine(Jq p.eb ob s.out.length W j s.kp.length (g.ro 8 0).2 (g.ro 8 0).1 v s.out s.kp (iJ p s g) w h.E o (by rw[<-o];exact h7) rfl (h.row (x:=8) (y:=0) (by unfold eQ;omega) G) hj hm i (λx hx=>?_)).mono ?_
 .rw[kF]at hx;exact h.ne (x:=8) (y:=0) (z:=0) (x':=7) (y':=0) (z':=0) (by rw[fR p g (by unfold eQ;omega) G];exact hx) (by rw[fR p g (by unfold eQ;omega) u,J];rfl) (by omega)
 rintro e w' ⟨rfl,vv,k1,k2,k3,k4,H⟩;obtain⟨a',c',rfl⟩:=EA k3;refine⟨rfl,(a',c'),h.Aj (x2:=7) (y2:=0) (j0:=31) (by omega) G (by omega) u (by decide) rfl rfl rfl rfl rfl rfl rfl (λa b c d e=>Ez j v a b c d e) k1 k3 (λ_=>?_) (k4.mono (λk i _=>?_)) (λk i=>?_)⟩
 .rw[o];exact k2
 .rw[kF]at i;rw[J];rcases i with i|i|i
  .exact ag i
  .exact ab (ab (by rw[i];rfl))
  exact ab (ag i)
 rw[dr,dr]at H;rcases H with H|⟨gb,H,k6⟩
 .exact ag (by rw[<-H];exact i)
 rw[H]at i;have e:gb=k:=by injection i
 exact ab (by omega)
theorem LW.same{s s':Pl}(h:LW s)(hn:s'.nt=s.nt)(e:s'.q=s.q)(hw:∀u,(s'.T u).wh=(s.T u).wh):LW s':=by
 refine⟨λt ht x y o=>?_,λx y i t ht=>?_,λx y i=>?_,by rw[hn];exact h.d⟩
 .rw[hw]at o;have:=h.a t ((eg hn).1 ht) x y o;exact⟨(fQ hn).2 this.1,by rw[e];exact this.2.1,this.2.2⟩
 .rw[e]at ht;have:=h.b x y ((fQ hn).1 i) t ht;exact⟨(eg hn).2 this.1,by rw[hw];exact this.2⟩
 rw[e];exact h.c x y ((fQ hn).1 i)
theorem gd{s:Pl}{t:Nat}(h:(s.T t).wh=none):s.dw t=s:=by unfold Pl.dw;rw[h]
theorem fN{s:Pl}{t x y:Nat}(h:(s.T t).wh=some (x,y)):s.dw t=(s.eZ x y ((s.q x y).erase t)).dv t (s.T t).off:=by unfold Pl.dw;rw[h]
theorem jd(s:Pl)(t:Nat):((s.dw t).T t).wh=none:=by
 cases h:(s.T t).wh with
 | none=>rw[gd h];exact h
 | some e=>rw[fN (x:=e.1) (y:=e.2) h,df];rfl
theorem sX(s:Pl){t u:Nat}(h:u≠t):(s.dw t).T u=s.T u:=by
 cases hw:(s.T t).wh with
 | none=>rw[gd hw]
 | some e=>rw[fN (x:=e.1) (y:=e.2) hw,dP _ _ h];rfl
theorem LW.dw{s:Pl}(h:LW s){t:Nat}(ht:fe s t):LW (s.dw t):=by
 cases hw:(s.T t).wh with
 | none=>rw[gd hw];exact h
 | some xy=>
  obtain⟨x,y⟩:=xy;obtain⟨hl,hm,a0⟩:=h.a t ht x y hw;rw[fN hw];have hn:((s.eZ x y ((s.q x y).erase t)).dv t (s.T t).off).nt=s.nt:=rfl;refine⟨λu Z a b o=>?_,λa b J u Z=>?_,λa b J=>?_,h.d⟩
  .have e:u≠t:=λe=>by
    subst e;rw[df]at o
    cases o
   rw[dP _ _ e]at o;obtain⟨k1,k2,k3⟩:=h.a u ((eg hn).1 Z) a b o;refine⟨(fQ hn).2 k1,?_,k3⟩;show u∈(s.eZ x y ((s.q x y).erase t)).q a b;by_cases i:a=x/\b=y
   .obtain⟨rfl,rfl⟩:=i;rw[fX];exact(List.mem_erase_of_ne e).2 k2
   rw[fL _ _ i];exact k2
  .have G:u∈(s.eZ x y ((s.q x y).erase t)).q a b:=Z;have H:=(fQ hn).1 J;by_cases i:a=x/\b=y
   .obtain⟨rfl,rfl⟩:=i;rw[fX]at G;have Y:=(h.c a b hl).mem_erase_iff.1 G;rw[dP _ _ Y.1];exact h.b a b H u Y.2
   rw[fL _ _ i]at G;have hb:=h.b a b H u G;have e:u≠t:=λe=>by
    subst e;have W:=hb.2;rw[hw]at W;injection W with W;injection W with W h3;exact i ⟨W.symm,h3.symm⟩
   rw[dP _ _ e];exact hb
  show((s.eZ x y ((s.q x y).erase t)).q a b).Nodup;have H:=(fQ hn).1 J;by_cases i:a=x/\b=y
  .obtain⟨rfl,rfl⟩:=i;rw[fX];exact(h.c a b hl).erase _
  rw[fL _ _ i];exact h.c a b H
def Pl.pG(s:Pl)(x y t:Nat)(l:List Nat):Pl:=(s.eZ x y l).dv t ((s.T t).to x y)
def Pl.into(s:Pl)(x y t:Nat)(l:List Nat):Pl:=(s.dw t).pG x y t l
theorem yM(s:Pl)(x y t:Nat):s.dV x y t=s.into x y t ((s.dw t).q x y++[t]):=rfl
theorem LW.pG{s:Pl}(h:LW s){x y t:Nat}{l:List Nat}(ht:fe s t)(hw:(s.T t).wh=none)(hl:fz s x y)(a1:¬(x=5/\y=t))(hd:l.Nodup)(hm:∀u,u∈l↔(u∈s.q x y\/u=t)):LW (s.pG x y t l):=by
 have hn:(s.pG x y t l).nt=s.nt:=rfl;have hq:∀a b,¬(a=x/\b=y)->(s.pG x y t l).q a b=s.q a b:=λa b e=>fL s l e;have o:(s.pG x y t l).q x y=l:=fX s x y l;have a0:(s.pG x y t l).T t=(s.T t).to x y:=df _ _ _;have hT:∀u,u≠t->(s.pG x y t l).T u=s.T u:=λu e=>dP _ _ e;refine⟨λu Y a b i=>?_,λa b W u Y=>?_,λa b W=>?_,h.d⟩
 .by_cases e:u=t
  .subst e;rw[a0]at i;injection i with i;injection i with h1 J;subst h1 J;exact⟨(fQ hn).2 hl,by rw[o];exact(hm u).2 (ab rfl),a1⟩
  rw[hT u e]at i;obtain⟨k1,k2,k3⟩:=h.a u ((eg hn).1 Y) a b i;refine⟨(fQ hn).2 k1,?_,k3⟩;by_cases H:a=x/\b=y
  .obtain⟨rfl,rfl⟩:=H;rw[o];exact(hm u).2 (ag k2)
  rw[hq a b H];exact k2
 .have G:=(fQ hn).1 W;by_cases H:a=x/\b=y
  .obtain⟨rfl,rfl⟩:=H;rw[o]at Y;rcases(hm u).1 Y with h1|rfl
   .have Z:=h.b a b G u h1;have e:u≠t:=λe=>by
     subst e;have J:=Z.2;rw[hw]at J
     cases J
    rw[hT u e];exact Z
   refine⟨ht,?_⟩;rw[a0];rfl
  rw[hq a b H]at Y;have Z:=h.b a b G u Y;have e:u≠t:=λe=>by
   subst e;have J:=Z.2;rw[hw]at J
   cases J
  rw[hT u e];exact Z
 have G:=(fQ hn).1 W;by_cases H:a=x/\b=y
 .obtain⟨rfl,rfl⟩:=H;rw[o];exact hd
 rw[hq a b H];exact h.c a b G
theorem LW.into{s:Pl}(h:LW s){x y t:Nat}{l:List Nat}(ht:fe s t)(G:fz s x y)(e:¬(x=5/\y=t))(i:l.Nodup)(o:∀u,u∈l↔(u∈(s.dw t).q x y\/u=t)):LW (s.into x y t l):=
 (h.dw ht).pG ((eg (fO s t)).2 ht) (jd s t) ((fQ (fO s t)).2 G) e i o
theorem LW.out{s:Pl}(h:LW s){x y t:Nat}(i:fz s x y)(hw:(s.T t).wh≠some (x,y)):t∉s.q x y:=λe=>hw (h.b x y i t e).2
theorem oQ{l:List Nat}{t:Nat}(h:l.Nodup)(ht:t∉l):(l++[t]).Nodup:=by
 rw[List.nodup_append];refine⟨h,by simp,λa o b i=>?_⟩;simp at i;subst i;exact λe=>ht (e▸o)
theorem LW.dV{s:Pl}(h:LW s){x y t:Nat}(ht:fe s t)(H:fz s x y)(o:¬(x=5/\y=t)):LW (s.dV x y t):=by
 have G:=h.dw ht;have i:=(fQ (fO s t)).2 H;exact h.into ht H o (oQ (G.c x y i) (G.out i (by rw[jd];intro e;cases e))) (λu=>by simp)
theorem iX(s:Pl)(x y t:Nat):(s.dV x y t).nt=s.nt:=fO s t
theorem oh(s:Pl){x y t u:Nat}(h:u≠t):(s.dV x y t).T u=s.T u:=by
 rw[yM];exact(dP _ _ h).trans (sX s h)
theorem Df(s:Pl)(x y t u:Nat):((s.dV x y t).T u).fr=(s.T u).fr:=by
 by_cases e:u=t
 .subst e;show(((((s.dw u).eZ x y _).dv u _).T u).fr)=_;rw[df];exact ku s u u
 rw[oh s e]
theorem nO(s:Pl)(x y t:Nat):(s.dV x y t).T t=((s.dw t).T t).to x y:=df _ _ _
theorem xB(s:Pl)(x y t:Nat):((s.dV x y t).T t).wh=some (x,y):=by rw[nO];rfl
theorem gJ{s s':Pl}{t i:Nat}(h:(s'.T t).fr=(s.T t).fr):de s' t i=de s t i:=by unfold de;rw[h]
def WW(p:dz)(s:Pl):Prop:=∀t,fe s t->∀x y,(s.T t).wh=some (x,y)->(x=4\/x=5)->∃k,(s.T t).lf=some k/\(s.T t).fr≠[]/\k.2.1<p.rg (de s t ((s.T t).fr.length-1)).f
def cr(s:Pl)(t:Nat):Nat:=(s.T t).fr.length-1
def Pl.fJ(s:Pl)(t:Nat)(v:B.V):Pl:=match (s.T t).lf with
 | none=>s
 | some k=>(s.dx t (cr s t) ((de s t (cr s t)).set k.2.1 v)).dV 2 0 t
theorem nC(s:Pl){t i u:Nat}(f:gY)(h:u≠t):(s.dx t i f).T u=s.T u:=dP _ _ h
theorem gj(s:Pl)(t i u:Nat)(f:gY):((s.dx t i f).T u).wh=(s.T u).wh/\((s.dx t i f).T u).lf=(s.T u).lf/\((s.dx t i f).T u).run=(s.T u).run/\((s.dx t i f).T u).iL=(s.T u).iL/\((s.dx t i f).T u).fr.length=(s.T u).fr.length:=by
 by_cases e:u=t
 .subst e;unfold Pl.dx;rw[df];exact⟨rfl,rfl,rfl,rfl,dq⟩
 rw[nC s f e];exact⟨rfl,rfl,rfl,rfl,rfl⟩
theorem LW.dx{s:Pl}(h:LW s)(t i:Nat)(f:gY):LW (s.dx t i f):=h.same rfl rfl (λu=>(gj s t i u f).1)
theorem yj(s:Pl){t u:Nat}(v:B.V)(h:u≠t):(s.fJ t v).T u=s.T u:=by
 unfold Pl.fJ;split
 .rfl
 rw[oh _ h,nC _ _ h]
theorem mH(s:Pl)(t:Nat)(v:B.V):(s.fJ t v).nt=s.nt:=by
 unfold Pl.fJ;split
 .rfl
 rw[iX];rfl
theorem nT{s:Pl}{t:Nat}{k:Nat×Nat×Nat×Nat}(v:B.V)(h:(s.T t).lf=some k):s.fJ t v=(s.dx t (cr s t) ((de s t (cr s t)).set k.2.1 v)).dV 2 0 t:=by unfold Pl.fJ;rw[h]
theorem LW.fJ{s:Pl}(h:LW s){t:Nat}(ht:fe s t)(v:B.V):LW (s.fJ t v):=by
 unfold Pl.fJ;split
 .exact h
 exact(h.dx t _ _).dV ht (ag ⟨rfl,rfl⟩) (by omega)
theorem WW.fJ{p:dz}{s:Pl}(h:WW p s){t:Nat}(v:B.V)(H:(s.T t).lf≠none):WW p (s.fJ t v):=by
 intro u G x y i o;by_cases e:u=t
 .subst e;exfalso
  unfold Pl.fJ at i;split at i
  .rename_i J;exact H J
  rw[xB]at i;injection i with i;injection i with i _;omega
 rw[yj s v e]at i ⊢;have:=h u ((eg (mH s t v)).1 G) x y i o;rw[gJ (s:=s) (by rw[yj s v e])];exact this
theorem IF{p:dz}{s:Pl}{g:eE}{w:World}{t:Nat}{k:Nat×Nat×Nat×Nat}(v:B.V)(h:dQ p s g w)(hW:LW s)(ht:fe s t)(H:(s.T t).lf=some k)(o:(s.T t).fr≠[])(Y:k.2.1<p.rg (de s t (cr s t)).f)(u:(s.T t).wh≠some (2,0)): Calls prog 207 #[vA v,P0 (g.sx t)] w λe w'=>e=.returned (.tuple #[])/\∃r,Tr p s g w (s.fJ t v) (g.at 2 0 r) w':=by
 have W:(s.T t).fr.length≠0:=λe=>o (cf.1 e);have hi:cr s t<(s.T t).fr.length:=by unfold cr;omega
 refine IG k.1 k.2.1 k.2.2.1 k.2.2.2 (g.fb t (cr s t)) (g.tb t) p.eb (g.sx t) _ _ _ _ _ _ (de s t (cr s t)).R v (λw2=>∃r,Tr p s g w (s.fJ t v) (g.at 2 0 r) w2) w (h.sx ht H) (h.fr ht hi) (h.rg ht hi) Y h.E.lt ?_;intro w1 i G;have J:Tr p s g w (s.dx t (cr s t) ((de s t (cr s t)).set k.2.1 v)) g w1:=
  h.Lo ht hi (cm i (h.fr ht hi) (by intro e;injection e with e;exact DE h ht hi e)) G (jg i (ab rfl))
 refine(xA (x:=2) (y:=0) J.r (hW.dx _ _ _) (ag ⟨rfl,rfl⟩) ht (by omega) (by rw[(gj s t _ t _).1];exact u)).mono ?_;rintro e w2 ⟨rfl,r,Z⟩;refine⟨rfl,r,?_⟩;rw[nT v H];exact J.trans Z
def Pl.wait(s:Pl)(x y t:Nat)(k:Nat×Nat×Nat×Nat):Pl:=(s.dV x y t).dv t (((s.dV x y t).T t).mW k)
def oT.stop(v:oT):oT:={ v with run:=false }
def Pl.dR(s:Pl)(v:B.V):List Nat->Pl
 | []=>s
 | t :: l=>(s.fJ t v).dR v l
def Pl.gone(s:Pl)(t:Nat)(v:B.V)(kind:Nat)(x:Int):Pl:=(({ (s.dw t).dv t ((s.dw t).T t).stop with lv:=s.lv.erase t }:Pl).kU (t-1) v).told kind t x
def Pl.leave(s:Pl)(t:Nat)(v:B.V)(kind:Nat)(x:Int):Pl:=(s.gone t v kind x).dR v (s.q 5 t)
theorem qy(v:B.V):∀(l m:List Nat) (s:Pl),s.dR v (l++m)=(s.dR v l).dR v m
 | [],_,_=>rfl
 | _ :: l,m,_=>qy v l m _
theorem gz(s:Pl)(t:Nat):(s.dw t).lv=s.lv/\(s.dw t).out=s.out/\(s.dw t).kp=s.kp/\(s.dw t).ev=s.ev/\(s.dw t).jo=s.jo/\(s.dw t).sp=s.sp/\(s.dw t).eY=s.eY/\(s.dw t).kd=s.kd/\(s.dw t).M=s.M/\(s.dw t).ck=s.ck:=by
 unfold Pl.dw;split<;>exact⟨rfl,rfl,rfl,rfl,rfl,rfl,rfl,rfl,rfl,rfl⟩
theorem mR(s:Pl){t u:Nat}(v:B.V)(kind:Nat)(x:Int)(h:u≠t):(s.gone t v kind x).T u=s.T u:=by
 show((s.dw t).dv t _).T u=_;rw[dP _ _ h,sX s h]
theorem iO(s:Pl)(t:Nat)(v:B.V)(kind:Nat)(x:Int):(s.gone t v kind x).nt=s.nt:=fO s t
theorem oi(s:Pl)(t:Nat)(v:B.V)(kind:Nat)(x:Int)(u:Nat):((s.gone t v kind x).T u).wh=((s.dw t).T u).wh:=by
 show(((s.dw t).dv t _).T u).wh=_;by_cases e:u=t
 .subst e;rw[df];rfl
 rw[dP _ _ e]
theorem LW.gone{s:Pl}(h:LW s){t:Nat}(ht:fe s t)(v:B.V)(kind:Nat)(x:Int):LW (s.gone t v kind x):=(h.dw ht).same rfl rfl (λu=>oi s t v kind x u)
theorem yS{s:Pl}(h:LW s){t:Nat}(ht:fe s t)(v:B.V)(kind:Nat)(x:Int):(s.gone t v kind x).q 5 t=s.q 5 t:=by
 show(s.dw t).q 5 t=_;exact vn s (λe=>(h.a t ht 5 t e).2.2 ⟨rfl,rfl⟩)
theorem WW.gone{p:dz}{s:Pl}(h:WW p s){t:Nat}(v:B.V)(kind:Nat)(x:Int):WW p (s.gone t v kind x):=by
 intro u y a b i o;by_cases e:u=t
 .subst e;rw[oi,jd]at i
  cases i
 rw[mR s v kind x e]at i ⊢;have:=h u ((eg (iO s t v kind x)).1 y) a b i o;rw[gJ (s:=s) (by rw[mR s v kind x e])];exact this
theorem Gr{s:Pl}{t:Nat}{x y:Nat}(hw:(s.T t).wh=some (x,y))(v:B.V)(o:(s.T t).lf≠none)(i:¬(x=2/\y=0)):(s.fJ t v).q x y=(s.q x y).erase t:=by
 cases hk:(s.T t).lf with
 | none=>exact ch hk o
 | some k=>
  rw[nT v hk];show(((s.dx t (cr s t) ((de s t (cr s t)).set k.2.1 v)).dw t).eZ 2 0 _).q x y=_;rw[fL _ _ (λe=>i e),fN (x:=x) (y:=y) (by rw[(gj s t _ t _).1];exact hw)];exact fX _ _ _ _
theorem kB{f:Nat->Nat}:∀(l:List Nat),l.Nodup->(∀a,a∈l->∀b,b∈l->f a=f b->a=b)->(l.map f).Nodup
 | [],_,_=>List.nodup_nil
 | a :: l,hd,h=>by
  rw[List.map_cons,List.nodup_cons];rw[List.nodup_cons]at hd;refine⟨λu=>?_,kB l hd.2 (λa o b i=>h a (by simp[o]) b (by simp[i]))⟩;obtain⟨b,i,e⟩:=ek.1 u;exact hd.1 (by rw[h a (by simp) b (by simp[i]) e.symm];exact i)
theorem C9{p:dz}{s:Pl}{g:eE}{w:World}{t:Nat}(v:B.V)(kind:Nat)(x:Int)(h:dQ p s g w)(hW:LW s)(bD:WW p s)(ht:fe s t)(aH:t∈s.lv)(bB:s.lv.Nodup)(aE:∀u,u∈s.lv->fe s u)(ho:s.out.length=s.nt)(hk:s.kp.length<=1000000)(bG:s.ev.length<=100000): Calls prog 175 #[P0 p.eb,P0 (g.tb t),vA v,.int .i64 kind,.int .i64 x] w λe w'=>e=.returned (.tuple #[])/\∃g',Tr p s g w (s.leave t v kind x) g' w':=by
 have hd:=hW.d;have bN:s.lv.length<=500000000:=dH (gn s.nt s.lv bB aE) hd;have b4:∀{w1:World} {s1:Pl} {g1:eE} {w2:World},w.grownBy w1 none->x7 w1 w.heap.size (g.tb t) v->Tr p s g w1 s1 g1 w2->x7 w2 w.heap.size (g.tb t) v/\¬ey p s1 g1 w.heap.size/\¬ey p s1 g1 (w.heap.size+1):=λhg hL h2=>by
  have a:=h2.other hL.1 (λhm=>by have:=h.lt hm;omega);have b:=h2.other hL.2 (λhm=>by have:=h.lt hm;omega);exact⟨⟨a.1,b.1⟩,a.2,b.2⟩
 have hS:∀{s1 s2:Pl} {g1 g2:eE} {w1 w2:World},(x7 w1 w.heap.size (g.tb t) v/\¬ey p s1 g1 w.heap.size/\¬ey p s1 g1 (w.heap.size+1))->Tr p s1 g1 w1 s2 g2 w2->(x7 w2 w.heap.size (g.tb t) v/\¬ey p s2 g2 w.heap.size/\¬ey p s2 g2 (w.heap.size+1)):=λi h2=>by
  have a:=h2.other i.1.1 i.2.1;have b:=h2.other i.1.2 i.2.2;exact⟨⟨a.1,b.1⟩,a.2,b.2⟩
 let s1:=s.dw t
 let s1':=s1.dv t (s1.T t).stop
 let s2:Pl:={ s1' with lv:=s.lv.erase t }
 let s3:=s2.kU (t-1) v
 have hn1:s1.nt=s.nt:=fO s t;have aU:=(eg hn1).2 ht;have b8:s3.nt=s.nt:=hn1;have a8:s1.lv=s.lv:=(gz s t).1
 obtain⟨G,cl,a6⟩:∃G cl,g.ro 6 0=(some ⟨G,0,none⟩,cl):=by
  obtain⟨G,cl,he⟩:=dM (h.row (x:=6) (y:=0) (by unfold eQ;omega) (iq (by omega))) (by show s.lv.length≠0;exact λe=>by rw[cf]at e;rw[e]at aH;cases aH);unfold sl at he;injection he with a b c;exact⟨G,cl,fV a c⟩
 let S1:World->Prop:=λw1=>Tr p s g w s1 g w1/\(x7 w1 w.heap.size (g.tb t) v/\¬ey p s1 g w.heap.size/\¬ey p s1 g (w.heap.size+1))
 let S2:Value->World->Prop:=λlv w2=>lv=.slice (some ⟨G,0,none⟩) (s.lv.length-1) cl/\∃w1,Tr p s g w s1' g w1/\(x7 w1 w.heap.size (g.tb t) v/\¬ey p s1' g w.heap.size/\¬ey p s1' g (w.heap.size+1))/\w1.grownBy w2 (some G)/\w2.ownsRow 0 155 1 (.slice (some ⟨G,0,none⟩) (s.lv.length-1) cl) (s.lv.length-1) (((s.lv.erase t).map g.tb).map P0)
 let S3:World->Prop:=λw3=>∃g3,Tr p s g w s3 g3 w3/\g3.tb=g.tb/\g3.sx=g.sx/\(x7 w3 w.heap.size (g.tb t) v/\¬ey p s3 g3 w.heap.size/\¬ey p s3 g3 (w.heap.size+1))
 have flag:∀w1,S1 w1->Tr p s g w s1' g (w1.setCell ⟨g.tb t,2,none⟩ (.bool false))/\(x7 (w1.setCell ⟨g.tb t,2,none⟩ (.bool false)) w.heap.size (g.tb t) v/\¬ey p s1' g w.heap.size/\¬ey p s1' g (w.heap.size+1)):=by
  rintro w1 ⟨Z,aO⟩;have h2:Tr p s1 g w1 s1' g (w1.setCell ⟨g.tb t,2,none⟩ (.bool false)):=by
   refine Z.r.flag aU rfl rfl ?_ (bm (S:=λk=>k=g.tb t) (dk _ _) (ag rfl) _);refine((Z.r.tk aU).ep 2 (.bool false)).congr (λj hj=>?_);have aC:(s1.dv t (s1.T t).stop).T t=(s1.T t).stop:=df _ _ _;have hc:j=0\/j=1\/j=2\/j=3\/j=4\/j=5\/j=6:=by omega
   have bE:sl (s1.dv t (s1.T t).stop) g 12 t=sl s1 g 12 t:=by unfold sl;rw[jb,jb,aC];rfl
   rcases hc with rfl|rfl|rfl|rfl|rfl|rfl|rfl
   .rfl
   .exact bE.symm
   .show Value.bool false=Value.bool ((s1.dv t (s1.T t).stop).T t).run;rw[aC];rfl
   .show x8 p g (s1.T t).wh=x8 p g ((s1.dv t (s1.T t).stop).T t).wh;rw[aC];rfl
   .show Ba g t (s1.T t).lf=Ba g t ((s1.dv t (s1.T t).stop).T t).lf;rw[aC];rfl
   .show Value.int .i64 (s1.T t).iL=Value.int .i64 ((s1.dv t (s1.T t).stop).T t).iL;rw[aC];rfl
   rfl
  exact⟨Z.trans h2,hS aO h2⟩
 have aK:∀lv w2,S2 lv w2->Tr p s g w s2 (g.at 6 0 (some ⟨G,0,none⟩,cl)) (w2.setCell ⟨p.eb,29,none⟩ lv)/\(x7 (w2.setCell ⟨p.eb,29,none⟩ lv) w.heap.size (g.tb t) v/\¬ey p s2 (g.at 6 0 (some ⟨G,0,none⟩,cl)) w.heap.size/\¬ey p s2 (g.at 6 0 (some ⟨G,0,none⟩,cl)) (w.heap.size+1)):=by
  rintro lv w2 ⟨rfl,w1,Z,aO,aP,bC⟩;have b6:=eL bC (Z.r.E.block (aP.block _ Z.r.E.lt (λe=>by
   injection e with e;have a7:=Z.r.row (x:=6) (y:=0) (by unfold eQ;omega) (iq (by omega));unfold sl at a7;rw[a6]at a7;exact eL a7 Z.r.E (by decide) G rfl e.symm))) (by decide) G rfl
  have b9:eH s2 6 0=s.lv.length-1:=List.length_erase_of_mem aH;have h2:Tr p s1' g w1 s2 (g.at 6 0 (some ⟨G,0,none⟩,cl)) (w2.setCell ⟨p.eb,29,none⟩ (.slice (some ⟨G,0,none⟩) (s.lv.length-1) cl)):=by
   refine Z.r.yX (j0:=29) (by omega) (iq (by omega)) (by decide) rfl rfl rfl rfl rfl rfl rfl (λa b c d e=>?_) ?_ ?_ ?_ (λk hk=>ag (by rw[a6];exact hk))
   .have ea:a≠6:=by omega
    exact⟨by unfold eH;simp only[aa ea];rfl,by unfold fU;simp only[aa ea];rfl⟩
   .rw[b9];exact (Z.r.E.block (aP.block _ Z.r.E.lt (λe=>by injection e with e;exact b6 e.symm))).ep 29 _
   .rw[b9];exact dD bC (λk hk=>af _ _ _ _ (by
     have e:G=k:=by injection hk
     rw[<-e];exact b6))
   refine bm (jg aP (ab (by rw[a6];rfl))) (ag (ag rfl)) _
  exact⟨Z.trans h2,hS aO h2⟩
 let s4:=s3.told kind t x
 have aW:LW s4:=hW.gone ht v kind x;have aX:WW p s4:=bD.gone v kind x;obtain⟨aS,b3⟩:∃aS:Nat->Nat,∀u,fe s u->aS (g.tb u)=g.sx u:=by
  classical
  refine⟨λb=>if i:∃u,fe s u/\g.tb u=b then g.sx i.choose else 0,λu hu=>?_⟩;have i:∃u',fe s u'/\g.tb u'=g.tb u:=⟨u,hu,rfl⟩;show(if i:∃u',fe s u'/\g.tb u'=g.tb u then g.sx i.choose else 0)=g.sx u;rw[dif_pos i,h.ny i.choose_spec.1 hu i.choose_spec.2]
 let I:List Nat->World->Prop:=λbs w4=>∃H ys g4,bs=ys.map g.tb/\s.q 5 t=H++ys/\Tr p s g w (s4.dR v H) g4 w4/\g4.tb=g.tb/\g4.sx=g.sx/\LW (s4.dR v H)/\WW p (s4.dR v H)/\(s4.dR v H).q 5 t=ys/\(s4.dR v H).nt=s.nt/\(x7 w4 w.heap.size (g.tb t) v/\¬ey p (s4.dR v H) g4 w.heap.size/\¬ey p (s4.dR v H) g4 (w.heap.size+1))
 have aG:∀{s':Pl},s'.nt=s.nt->fz s' 5 t:=λe=>ab (ab (ab ⟨rfl,(eg e).2 ht⟩));refine(Hc p.eb (g.tb t) kind t s.lv.length cl x v (some ⟨G,0,none⟩) S1 S3 S2 I aS ((s.q 5 t).map g.tb) w ?_ ?_ ?_ ?_ ?_ ?_ ?_ ?_ ?_).mono ?_
 .intro w1 hg hL;refine(ss (h.kept hg) hW ht).mono ?_;rintro e w2 ⟨rfl,h2⟩;exact⟨rfl,h2.ahead hg,b4 hg hL h2⟩
 .intro w1 Z;have hf:=flag w1 Z;refine⟨Z.2.1,⟨_,Z.1.r.tk aU⟩,?_,Z.1.r.E.lt⟩;rw[hf.1.r.E.cell 29 (by omega)];show some (sl s1' g 6 0)=_;unfold sl;rw[a6];show some (Value.slice _ s1.lv.length _)=_;rw[a8]
 .intro w1 Z;obtain⟨a5,Y⟩:=flag w1 Z;generalize w1.setCell ⟨g.tb t,2,none⟩ (.bool false)=W at *;have hr:=a5.r.row (x:=6) (y:=0) (by unfold eQ;omega) (iq (by omega));have bF:W.ownsRow 0 155 1 (.slice (some ⟨G,0,none⟩) s.lv.length cl) s.lv.length ((s.lv.map g.tb).map P0):=by
   have e1:sl s1' g 6 0=.slice (some ⟨G,0,none⟩) s.lv.length cl:=by unfold sl;rw[a6];show Value.slice _ s1.lv.length _=_;rw[a8]
   have e2:eH s1' 6 0=s.lv.length:=(by show s1.lv.length=_;rw[a8]);have e3:fU s1' g 6 0=(s.lv.map g.tb).map P0:=by show(s1.lv.map g.tb).map P0=_;rw[a8]
   rw[e1,e2,e3]at hr;exact hr
  have aJ:s1'.nt=s.nt:=hn1;refine(I9 G cl s.lv.length (g.tb t) w.heap.size (s.lv.map g.tb) W bF (by omega) (kB _ bB (λa ha b i e=>h.ny (aE a ha) (aE b i) e)) ?_ (bz Y.1.1) (λe=>Y.2.1 ⟨6,0,0,?_⟩) (a5.r.tk ((eg aJ).2 ht)).xV (λz hz=>?_) (List.mem_map_of_mem aH)).mono ?_
  .have:=Y.1.1;simp[World.cell?,this]
  .rw[fR p g (by unfold eQ;omega) (iq (by omega)),a6,e];rfl
  .obtain⟨u,hu,rfl⟩:=ek.1 hz;exact(a5.r.tk ((eg aJ).2 (aE u hu))).xV
  rintro e w2 ⟨rfl,k1,k2⟩;rw[qs _ (λb i e=>h.ny (aE b i) ht e)]at k1;exact⟨_,_,_,rfl,rfl,W,a5,Y,k2,k1⟩
 .intro lv w2 h2;obtain⟨a5,Y⟩:=aK lv w2 h2;obtain⟨_,w1,k1,_,k3,_⟩:=h2;have hT:=a5.r.tk (t:=t) ((eg (s:=s) hn1).2 ht);refine⟨Y.1,⟨iJ p s1' g,k1.r.E.block (k3.block _ k1.r.E.lt (λe=>?_))⟩,hT.cell 0 (by omega),?_⟩
  .injection e with e;have a7:=k1.r.row (x:=6) (y:=0) (by unfold eQ;omega) (iq (by omega));unfold sl at a7;rw[a6]at a7;exact eL a7 k1.r.E (by decide) G rfl e.symm
  have bA:g.tb t<(w2.setCell ⟨p.eb,29,none⟩ lv).heap.size:=hT.lt;simpa[World.setCell] using bA
 .intro lv w2 w3 h2 aL;obtain⟨a5,Y⟩:=aK lv w2 h2;have h3:=a5.kept aL;have aN:x7 w3 w.heap.size (g.tb t) v/\¬ey p s2 (g.at 6 0 (some ⟨G,0,none⟩,cl)) w.heap.size/\¬ey p s2 (g.at 6 0 (some ⟨G,0,none⟩,cl)) (w.heap.size+1):=
   ⟨⟨cm aL Y.1.1 (by intro e;cases e),cm aL Y.1.2 (by intro e;cases e)⟩,Y.2⟩
  have b1:s2.out.length=s.nt:=by show s1.out.length=_;rw[(gz s t).2.1,ho]
  have bM:s2.kp.length=s.kp.length:=by show s1.kp.length=_;rw[(gz s t).2.2.1]
  have bK:(t:Int)=((t-1:Nat):Int)+1:=by have:=ht.1;omega
  rw[bK];refine(Jp (j:=t-1) v h3.r (by rw[b1];have:=ht.2;omega) (by rw[b1];omega) (by rw[bM];exact hk)).mono ?_;rintro e w4 ⟨rfl,r,h4⟩;exact⟨rfl,_,h3.trans h4,rfl,rfl,hS aN h4⟩
 .rintro w3 ⟨g3,_,_,_,i⟩;exact i.1
 .rintro w3 ⟨g3,h3,a1,b0,aN⟩;have b2:s3.ev.length<=100000:=by show s1.ev.length<=_;rw[(gz s t).2.2.2.1];exact bG
  have o:=B4 (t:=t) kind x h3.r ((eg b8).2 ht) b2;rw[a1]at o;refine o.mono ?_;rintro e w4 ⟨rfl,r,h4⟩;exact⟨rfl,[],s.q 5 t,g3.at 9 0 r,rfl,rfl,h3.trans h4,a1,b0,aW,aX,yS hW ht v kind x,b8,hS aN h4⟩
 .rintro bs w4 ⟨H,ys,g4,rfl,a9,a0,a1,a4,aA,a2,hq,J,i⟩;have b7:=(eg J).2 ht;have aM:=a0.r.tk b7;rw[a1]at aM;have hr:=a0.r.row (x:=5) (y:=t) (by unfold eQ;omega) (gG (by omega) b7);have aY:eH (s4.dR v H) 5 t=ys.length:=by rw[mj _ (aG J),hq]
  have bJ:fU (s4.dR v H) g4 5 t=(ys.map g.tb).map P0:=by rw[nL _ _ (aG J),hq,a1]
  have aQ:w4.cell? ⟨g.tb t,6,none⟩=some (sl (s4.dR v H) g4 5 t):=aM.cell 6 (by omega);refine⟨i.1,aM.lt,λw5 hg=>⟨H,ys,g4,rfl,a9,a0.kept hg,a1,a4,aA,a2,hq,J,⟨cm hg i.1.1 (by intro e;cases e),cm hg i.1.2 (by intro e;cases e)⟩,i.2⟩,λe=>?_,λy r e=>?_⟩
  .have hy:=List.map_eq_nil_iff.1 e;refine⟨(g4.ro 5 t).1,(g4.ro 5 t).2,?_⟩;rw[aQ];unfold sl;rw[aY,hy];rfl
  cases ys with
  | nil=>cases e
  | cons u us=>
   rw[List.map_cons]at e;injection e with e1 e2;subst e1 e2;have aB:u∈(s4.dR v H).q 5 t:=by rw[hq];simp
   obtain⟨a3,aF⟩:=aA.b 5 t (aG J) u aB;obtain⟨k,aD,aV,aZ⟩:=a2 u a3 5 t aF (ab rfl);have hu:=(eg J).1 a3;rw[aY,bJ]at hr;obtain⟨qb,qc,he⟩:=dM hr (by simp);have aT:=a0.r.tk a3;rw[a1]at aT;rw[he]at hr aQ;refine⟨qb,qc,?_,?_,?_,aT.lt⟩
   .rw[dS];exact aQ
   .exact(iG hr).2.2.2.2.2 0 _ rfl
   rw[aT.cell 4 (by omega)];show some (Ba g4 u ((s4.dR v H).T u).lf)=_;rw[aD,b3 u hu,<-a4];rfl
 .rintro y r w4 ⟨H,ys,g4,he,a9,a0,a1,a4,aA,a2,hq,J,i⟩
  cases ys with
  | nil=>cases he
  | cons u us=>
   rw[List.map_cons]at he;injection he with e1 e2;subst e1 e2;have aB:u∈(s4.dR v H).q 5 t:=by rw[hq];simp
   obtain⟨a3,aF⟩:=aA.b 5 t (aG J) u aB;obtain⟨k,aD,aV,aZ⟩:=a2 u a3 5 t aF (ab rfl);have hu:=(eg J).1 a3;have o:=IF v a0.r aA a3 aD aV aZ (by rw[aF];intro e;injection e with e;injection e with e _;omega);rw[a4]at o;rw[b3 u hu];refine o.mono ?_;rintro e w5 ⟨rfl,r,h5⟩;have hw:s4.dR v (H++[u])=(s4.dR v H).fJ u v:=qy v H [u] s4;refine⟨rfl,H++[u],us,g4.at 2 0 r,rfl,by rw[a9,dY];rfl,by rw[hw];exact a0.trans h5,a1,a4,by rw[hw];exact aA.fJ a3 v,by rw[hw];exact a2.fJ v (by rw[aD];intro e;cases e),?_,by rw[hw,mH];exact J,by rw[hw];exact hS i h5⟩;rw[hw,Gr aF v (by rw[aD];intro e;cases e) (by omega),hq];simp
 rintro e w' ⟨rfl,H,ys,g4,he,a9,a0,_⟩;have hy:=List.map_eq_nil_iff.1 he.symm;refine⟨rfl,g4,?_⟩;rw[hy,eB]at a9;unfold Pl.leave;rw[a9];exact a0
def Fix(p:dz)(w:World):Prop:=∀b,p.fx b->w.heap[b]? = p.fc b
structure PW(p:dz):Prop where
 n1:1<=p.n
 n2:p.n<=200
 e0:p.E0 0=.slice (some ⟨p.gb,0,none⟩) p.nf p.nf
 e1:p.E0 1=.int .i64 p.qn
 e2:p.E0 2=.int .i64 p.wk
 e3:p.E0 3=.int .i64 p.mt
 Gd:p.E0 27=P0 p.sb
 gb:p.fx p.gb
 tab:∀w,Fix p w->∀f,f<p.nf->w.cell? ⟨p.gb,f*2,none⟩=some (.int .i64 (p.rg f))/\w.cell? ⟨p.gb,f*2+1,none⟩=some (.slice (some ⟨p.cb f,0,none⟩) (p.len f) (p.len f))
 rg:∀f,f<p.nf->2<=p.rg f/\p.rg f<=8
 ea:∀o,o<23->p.E0 (4+o)=(rh p.ac).getD o undef
 bx:∀w,Fix p w->∀j,j<32->w.cell? ⟨p.ac+j,0,none⟩=some ((lQ p.ac).getD j (undef,0)).1/\w.heap[p.ac+j]? = some (.cells #[((lQ p.ac).getD j (undef,0)).1] ((lQ p.ac).getD j (undef,0)).2 (0,0))
 cd:∀w,Fix p w->∀f,f<p.nf->p.cb f<w.heap.size/\∀i,i<p.len f->w.cell? ⟨p.cb f,i*4,none⟩=some (.int .u8 (p.ins f i).1)/\w.cell? ⟨p.cb f,i*4+1,none⟩=some (.int .u8 (p.ins f i).2.1)/\w.cell? ⟨p.cb f,i*4+2,none⟩=some (.int .u8 (p.ins f i).2.2.1)/\w.cell? ⟨p.cb f,i*4+3,none⟩=some (.int .u8 (p.ins f i).2.2.2)
 le:∀f,f<p.nf->p.len f<=200
theorem dQ.fix{p:dz}{s:Pl}{g:eE}{w:World}(h:dQ p s g w):Fix p w:=λb e=>(h.X b e).2
theorem DF{p:dz}{s:Pl}{g:eE}{w:World}{t f:Nat}{k:Fn}{ka kc:Array Value}(bk:Nat×Nat×Nat×Nat)(u v:B.V)(h:dQ p s g w)(hP:PW p)(ht:fe s t)(J:(s.T t).lf=none)(i:f<p.nf)(hm:(s.T t).fr.length<=1000)(H:.func k ka kc=wj p g t (s.T t).fr.length bk): Calls prog 119 #[P0 p.eb,P0 (g.tb t),.int .i64 f,vA u,vA v,.func k ka kc] w λe w'=>e=.returned (.tuple #[])/\∃fb rb r,Tr p s g w (s.push t ⟨f,0,gh u v,bk⟩) (g.push t (s.T t).fr.length fb rb r) w':=by
 have Z:=h.E;obtain⟨h1,h2⟩:=hP.tab w h.fix f i;have h0:w.cell? ⟨p.eb,0,none⟩=some (.slice (some ⟨p.gb,0,none⟩) p.nf p.nf):=by
  rw[Z.cell 0 (by omega)];show some (p.E0 0)=_;rw[hP.e0]
 refine(Hy p.eb (g.tb t) p.gb p.nf (p.cb f) (p.len f) (p.rg f) f (s.T t).fr.length (g.ro 12 t).2 (g.ro 12 t).1 _ k ka kc u v (gE p s g t) w h0 h1 h2 (h.tk ht) rfl (h.row (x:=12) (y:=t) (by unfold eQ;omega) (gG (by omega) ht)) hm Z.lt (h.X _ hP.gb).1 i (hP.rg f i).1 (hP.rg f i).2).mono ?_;rintro e w' ⟨rfl,Y,G,fb,rb,k1,k2,W,k4,k5,k6,k7⟩;refine⟨rfl,fb,rb,(some ⟨Y,0,none⟩,G),h.push (f:=⟨f,0,gh u v,bk⟩) ht J k1 k2 ?_ W.2.1 (k6.mono (λk o _=>?_)) k4 k5 (λk o=>?_)⟩
 .rw[<-H];exact W.1
 .rw[kF]at o;exact o
 have e:Y=k:=by injection o
 subst e;rw[kF]at k7;exact k7
def Pl.back(s:Pl)(t:Nat)(v:B.V):Pl:=if cr s t=0 then(s.pop t).leave t v 2 v.2 else(s.pop t).dx t (cr s t-1) ((de s t (cr s t-1)).set (de s t (cr s t)).bk.2.1 v)
theorem vm(s:Pl)(t u:Nat):((s.pop t).T u).wh=(s.T u).wh/\((s.pop t).T u).lf=(s.T u).lf:=by
 by_cases e:u=t
 .subst e;unfold Pl.pop;rw[df];exact⟨rfl,rfl⟩
 unfold Pl.pop;rw[dP _ _ e];exact⟨rfl,rfl⟩
theorem LW.pop{s:Pl}(h:LW s)(t:Nat):LW (s.pop t):=h.same rfl rfl (λu=>(vm s t u).1)
theorem WW.pop{p:dz}{s:Pl}(h:WW p s){t:Nat}(hw:(s.T t).wh=none):WW p (s.pop t):=by
 intro u G a b i o;rw[(vm s t u).1]at i;have e:u≠t:=λe=>by rw[e,hw]at i;cases i
 have y:(s.pop t).T u=s.T u:=dP _ _ e;have:=h u G a b i o;rw[gJ (s:=s) (by rw[y]),y];exact this
theorem rp(s:Pl)(t:Nat):((s.pop t).T t).fr.length=(s.T t).fr.length-1:=by unfold Pl.pop;rw[df];exact ef
theorem uC{p:dz}{s:Pl}{g:eE}{w:World}{t:Nat}(v:B.V)(h:dQ p s g w)(hW:LW s)(aB:WW p s)(ht:fe s t)(aG:(s.T t).lf=none)(aE:(s.T t).wh=none)(aA:(s.T t).fr≠[])(hm:(s.T t).fr.length<=1000)(aD:t∈s.lv)(a9:s.lv.Nodup)(aF:∀u,u∈s.lv->fe s u)(ho:s.out.length=s.nt)(hk:s.kp.length<=1000000)(aC:s.ev.length<=100000)(a8:cr s t≠0->(de s t (cr s t)).bk.2.1<p.rg (de s t (cr s t-1)).f): Calls prog 107 #[P0 (g.tb t),vA v] w λe w'=>e=.returned (.tuple #[])/\∃g',Tr p s g w (s.back t v) g' w':=by
 have a4:(s.T t).fr.length≠0:=λe=>aA (cf.1 e);obtain⟨m,a1⟩:∃m,(s.T t).fr.length=m+1:=⟨(s.T t).fr.length-1,by omega⟩;have H:cr s t=m:=by unfold cr;omega
 have hr:=h.row (x:=12) (y:=t) (by unfold eQ;omega) (gG (by omega) ht);have hF:=h.fr ht (i:=m) (by omega);obtain⟨kb,ck,he⟩:=dM hr (by rw[jb];exact a4);have a2:g.ro 12 t=(some ⟨kb,0,none⟩,ck):=by
  unfold sl at he;injection he with a b c;exact fV a c
 rw[he,jb,kr,a1,eA,eP,eP]at hr;have a7:gE p s g t 1=.slice (some ⟨kb,0,none⟩) (m+1) ck:=by
  show sl s g 12 t=_;rw[he,jb,a1]
 have G:∀w2,LG w w2 (g.tb t) kb ck m (((List.range m).map (g.fb t)).map P0) (gE p s g t)->Tr p s g w (s.pop t) g w2:=λw2 hp=>by
  obtain⟨k1,k2,k3⟩:=hp;refine h.pop ht aG a1 ?_ ?_ (k3.mono (λk hk _=>?_))
  .rw[a2];exact k1
  .rw[a2];exact k2
  rw[a2];exact hk.imp id (λe=>by rw[e];rfl)
 unfold Pl.back;rw[H];by_cases h0:m=0
 .rw[aj h0];have Y:wj p g t m (de s t m).bk=Fv 120 #[P0 (g.xe t),P0 (g.xt t)]:=by unfold wj;rw[aj h0]
  unfold yf at hF;rw[Y]at hF;refine uD (g.tb t) kb ck m (g.fb t m) _ _ _ _ _ _ v _ _ (ag ⟨g.xe t,g.xt t,rfl,rfl,rfl⟩) _ (gE p s g t) (λw'=>∃g',Tr p s g w ((s.pop t).leave t v 2 v.2) g' w') w (h.tk ht) a7 (by omega) hr hF ?_;intro w2 a0;have W:=G w2 a0;have o:fe (s.pop t) t:=ht;have a5:=W.r.xe o;have a3:=W.r.xt o;refine FH p.eb (g.tb t) (g.xe t) (g.xt t) v _ w2 (by simp[World.cell?,a5]) (by simp[World.cell?,a3]) (bz a5) (bz a3) ?_;intro w3 a6;refine(C9 v 2 v.2 (W.r.kept a6) (hW.pop t) (aB.pop aE) o aD a9 aF ho hk aC).mono ?_;rintro e w4 ⟨rfl,g',h4⟩;exact⟨rfl,g',(W.kept a6).trans h4⟩
 rw[aa h0];have Y:wj p g t m (de s t m).bk=.func (.func 149) #[dZ (de s t m).bk.1 (de s t m).bk.2.1 (de s t m).bk.2.2.1 (de s t m).bk.2.2.2 (g.fb t (m-1)) (g.tb t) p.eb] #[]:=by unfold wj;rw[aa h0]
 unfold yf at hF;rw[Y]at hF;refine uD (g.tb t) kb ck m (g.fb t m) _ _ _ _ _ _ v _ _ (ab ⟨_,_,_,_,g.fb t (m-1),p.eb,rfl,rfl,rfl⟩) _ (gE p s g t) (λw'=>∃g',Tr p s g w ((s.pop t).dx t (m-1) ((de s t (m-1)).set (de s t m).bk.2.1 v)) g' w') w (h.tk ht) a7 (by omega) hr hF ?_;intro w2 a0;have W:=G w2 a0;have o:fe (s.pop t) t:=ht;have J:de (s.pop t) t (m-1)=de s t (m-1):=oa s (λ_=>by omega);have hb:=a8 (by omega);rw[H]at hb;refine (wP (t:=t) (i:=m-1) (a:=(de s t m).bk.2.1) (de s t m).bk.1 (de s t m).bk.2.2.1 (de s t m).bk.2.2.2 (g.tb t) p.eb v W.r o (by rw[rp];omega) (by rw[J];exact hb)).mono ?_;rintro e w3 ⟨rfl,h3⟩;rw[J]at h3;exact⟨rfl,g,W.trans h3⟩
theorem JF{p:dz}{s:Pl}{g:eE}{w:World}{t why:Nat}(hw:why<=8)(h:dQ p s g w)(hW:LW s)(o:WW p s)(ht:fe s t)(G:t∈s.lv)(H:s.lv.Nodup)(J:∀u,u∈s.lv->fe s u)(Z:s.out.length=s.nt)(Y:s.kp.length<=1000000)(y:s.ev.length<=100000): Calls prog 187 #[P0 p.eb,P0 (g.tb t),.int .i64 why] w λe w'=>e=.returned (.tuple #[])/\∃g',Tr p s g w (s.leave t (0,-(why:Int)) 3 why) g' w':=by
 refine JH p.eb (g.tb t) why hw _ w (λw1 i=>?_);refine(C9 (0,-(why:Int)) 3 why (h.kept i) hW o ht G H J Z Y y).mono ?_;rintro e w2 ⟨rfl,g',W⟩;exact⟨rfl,g',W.ahead i⟩
end F
namespace D
open F
abbrev yi:=Nat×Nat×Nat×Nat
structure Dp where
 n:Nat
 qn:Nat
 wk:Nat
 mt:Nat
 nf:Nat
 gb:Nat
 gc:Nat
 cb:Nat->Nat
 cc:Nat->Nat
 len:Nat->Nat
 rg:Nat->Nat
 ins:Nat->Nat->yi
structure Dt where
 fr:List gY
 how:Nat
 into:Int
 what:Nat
 km:Int
 ji:Nat
 out:B.V
structure Dc where
 all:Nat
 bg:Bool
 mW:Int
 sure:Nat
 lO:Nat
 fI:Int
 wi:Int
 fu:Bool
structure Dm where
 nt:Nat
 T:Nat->Dt
 q:List Nat
 jo:Nat->List Nat
 nc:Nat
 M:Nat->List B.V
 ck:Nat->Nat
 ji:Nat
 sp:Bool
 ev:List se
 eY:Int
 G:Dc
structure Dg where
 mb:Nat
 ro:Nat->Nat->Option Addr×Nat
 rb:Nat->Nat->Nat
 sb:Nat->Nat
abbrev iK(x:Int):Value:=.int .i64 x
def qz(m:Dm)(x y:Nat):Nat:=if x=1 then m.nt else if x=2 then m.q.length else if x=3 then m.nc else if x=4 then m.ev.length else if x=5 then(m.T y).fr.length else(m.jo y).length
def iR(m:Dm)(g:Dg)(x y:Nat):Value:=.slice (g.ro x y).1 (qz m x y) (g.ro x y).2
def mE(p:Dp)(m:Dm)(g:Dg)(j:Nat):Value:=
 if j=0 then .slice (some ⟨p.gb,0,none⟩) p.nf p.gc else if j=1 then iK p.n else if j=2 then iK p.qn else if j=3 then iK p.wk else if j=4 then iK p.mt else if j=5 then iK m.eY
 else if j=6 then iR m g 1 0 else if j=7 then iR m g 2 0 else if j<12 then iR m g 10 (j-8) else if j=12 then iR m g 3 0
 else if j=13 then iK m.ji else if j=14 then .bool m.sp else if j=15 then iR m g 4 0 else if j=16 then iK m.G.all else if j=17 then .bool m.G.bg else if j=18 then iK m.G.mW else if j=19 then iK m.G.sure else if j=20 then iK m.G.lO else if j=21 then iK m.G.fI else if j=22 then iK m.G.wi else .bool m.G.fu
def tC(x:Dt)(fv:Value)(k:Nat):Value:=
 if k=0 then fv else if k=1 then iK x.how else if k=2 then iK x.into else if k=3 then iK x.what else if k=4 then iK x.km else if k=5 then iK x.ji else if k=6 then iK x.out.1 else iK x.out.2
def tE(m:Dm)(g:Dg)(j:Nat):Value:=tC (m.T (j / 8+1)) (iR m g 5 (j / 8+1)) (j % 8)
def fj(m:Dm)(t i:Nat):gY:=(m.T t).fr.getD i mr
def fC(p:Dp)(f:gY)(rb:Nat)(k:Nat):Value:=
 if k=0 then iK f.f else if k=1 then .slice (some ⟨rb,0,none⟩) (p.rg f.f) (p.rg f.f) else if k=2 then iK f.nx else iK f.bk.2.1
def fE(p:Dp)(m:Dm)(g:Dg)(t j:Nat):Value:=fC p (fj m t (j / 4)) (g.rb t (j / 4)) (j % 4)
def cE(m:Dm)(g:Dg)(j:Nat):Value:=
 if j % 2=0 then .slice (some ⟨g.sb (j / 2+1),0,none⟩) (m.M (j / 2+1)).length (m.M (j / 2+1)).length else iK ((m.ck (j / 2+1):Int)-1)
def kT(l:List B.V):Nat->B.V:=λi=>l.getD i (0,0)
def rowP(n:Nat)(P:Nat->Value):List Value:=(List.range n).map P
def iI(l:List Nat):List Value:=l.map (λ(x:Nat)=>iK (x:Int))
def Ob.q(e:TypeId)(ad:Option Addr)(n c:Nat)(xs:List Value):Ob:=⟨λk=>eO ad=some k,λw=>fM w e (.slice ad n c) xs,λ_ _ h hk=>h.block (λk e=>hk k (by rw[<-dr ad n c];exact e)),λ_ k h e=>h.lt k (by rw[dr];exact e)⟩
def JC(p:Dp)(j:Nat):Value:=if j % 2=0 then iK (p.rg (j / 2)) else .slice (some ⟨p.cb (j / 2),0,none⟩) (p.len (j / 2)) (p.cc (j / 2))
def Ec(p:Dp)(f j:Nat):Value:=iK (if j % 4=0 then(p.ins f (j / 4)).1 else if j % 4=1 then(p.ins f (j / 4)).2.1 else if j % 4=2 then(p.ins f (j / 4)).2.2.1 else(p.ins f (j / 4)).2.2.2:Nat)
def vd(p:Dp)(m:Dm)(x y z:Nat):Bool:=
 if x<=4\/x=8 then decide (y=0/\z=0) else if x=5 then decide (1<=y/\y<=m.nt/\z=0) else if x=6 then decide (1<=y/\y<=m.nt/\z<(m.T y).fr.length)
 else if x=7 then decide (1<=y/\y<=m.nc/\z=0) else if x=9 then decide (y<p.nf/\z=0) else decide (x=10/\y<4/\z=0)
def Me(x:Nat):TypeId:=if x=1 then 167 else if x=3 then 233 else if x=4 then 48 else 163
def Mf(x:Nat):Nat:=if x=1 then 8 else if x=3 then 2 else if x=4 then 3 else 4
def rC(p:Dp)(m:Dm)(g:Dg)(x y:Nat):List Value:=if x=1 then rowP (m.nt*8) (tE m g) else if x=3 then rowP (m.nc*2) (cE m g) else if x=4 then kE m.ev else rowP ((m.T y).fr.length*4) (fE p m g y)
def qC(m:Dm)(x y:Nat):List Value:=if x=2 then iI m.q else Ie (m.jo y)
def ok(p:Dp)(m:Dm)(g:Dg)(x y z:Nat):Ob:=
 if x=0 then .full g.mb 112 24 (mE p m g)
 else if x=6 then .full (g.rb y z) 115 (p.rg (fj m y z).f*2) (eC (fj m y z).R)
 else if x=7 then .full (g.sb y) 115 ((m.M y).length*2) (eC (kT (m.M y)))
 else if x=8 then .row 89 2 (some ⟨p.gb,0,none⟩) p.nf p.gc (rowP (p.nf*2) (JC p))
 else if x=9 then .row 90 4 (some ⟨p.cb y,0,none⟩) (p.len y) (p.cc y) (rowP (p.len y*4) (Ec p y))
 else if x=2\/x=10 then Ob.q (if x=2 then 3 else 5) (g.ro x y).1 (qz m x y) (g.ro x y).2 (qC m x y)
 else .row (Me x) (Mf x) (g.ro x y).1 (qz m x y) (g.ro x y).2 (rC p m g x y)
def ob(p:Dp)(m:Dm)(g:Dg)(x y z:Nat):Ob:=if vd p m x y z=true then ok p m g x y z else .nil
structure dQ(p:Dp) (m:Dm) (g:Dg) (w:World):Prop where
 o:∀x y z,(ob p m g x y z).ok w
 i:∀x y z x' y' z' k,(ob p m g x y z).bs k->(ob p m g x' y' z').bs k->x=x'/\y=y'/\z=z'
def ey(p:Dp)(m:Dm)(g:Dg)(k:Nat):Prop:=∃x y z,(ob p m g x y z).bs k
structure Tr(p:Dp) (m:Dm) (g:Dg) (w:World) (m':Dm) (g':Dg) (w':World):Prop where
 r:dQ p m' g' w'
 o:dy (ey p m g) w w'
 m:∀k,ey p m' g' k->ey p m g k\/w.heap.size<=k
 b:g'.mb=g.mb
variable {p : Dp} {m m' m'' : Dm} {g g' g'' : Dg} {w w' w'' : World}
theorem dQ.lt(h:dQ p m g w){k:Nat}(e:ey p m g k):k<w.heap.size:=by
 obtain⟨x,y,z,e⟩:=e;exact(ob p m g x y z).lt w k (h.o x y z) e
theorem dQ.only(h:dQ p m g w){S:Nat->Prop}(u:dy S w w')(hS:∀k,ey p m g k->¬S k):dQ p m g w':=
 ⟨λx y z=>(ob p m g x y z).fr w w' (h.o x y z) (λk e=>u.same (h.lt ⟨x,y,z,e⟩) (hS k ⟨x,y,z,e⟩)),h.i⟩
theorem dQ.kept(h:dQ p m g w)(e:w.grownBy w' none):dQ p m g w':=h.only (S:=λ_=>False) (dU e) (λ_ _ h=>h)
theorem Tr.refl(h:dQ p m g w):Tr p m g w m g w:=⟨h,dk _ _,λ_ h=>ag h,rfl⟩
theorem Tr.trans(h:Tr p m g w m' g' w')(e:Tr p m' g' w' m'' g'' w''):Tr p m g w m'' g'' w'':=
 ⟨e.r,h.o.trans e.o (λk i y=>(h.m k i).resolve_right (by omega)),λk i=>by
  rcases e.m k i with u|u
  .exact h.m k u
  have:=h.o.size;exact ab (by omega),e.b.trans h.b⟩
theorem Tr.kept(h:Tr p m g w m' g' w')(e:w'.grownBy w'' none):Tr p m g w m' g' w'':=⟨h.r.kept e,h.o.gR e,h.m,h.b⟩
theorem Tr.ahead{w0:World}(e:w0.grownBy w none)(h:Tr p m g w m' g' w'):Tr p m g w0 m' g' w':=
 ⟨h.r,(dU e).trans h.o (λ_ h _=>h),λk i=>(h.m k i).imp id (λh=>by have:=e.size;omega),h.b⟩
theorem Tr.to{m0:Dm}{Z:Dg}{w0:World}(C:Nat->Nat->Nat->Prop)(own:Nat->Nat×Nat×Nat)(W:Tr p m0 Z w0 m g w)(hO:dy (λk=>∃x y z,C x y z/\(ob p m g x y z).bs k) w w')(h1:∀x y z,¬C x y z->ob p m' g' x y z=ob p m g x y z)(h2:∀x y z,C x y z->(ob p m' g' x y z).ok w')(h3:∀x y z k,C x y z->(ob p m' g' x y z).bs k->(ob p m g x y z).bs k\/(¬ey p m g k/\w0.heap.size<=k/\own k=(x,y,z)))(J:g'.mb=g.mb:=by rfl):Tr p m0 Z w0 m' g' w':=by
 have h:=W.r;have u:=λx y z k e=>by
  by_cases G:C x y z
  .exact h3 x y z k G e
  rw[h1 x y z G]at e;exact ag e
 refine⟨⟨λx y z=>?_,λx y z x' y' z' k e H=>?_⟩,W.o.trans hO (λk e hl=>?_),λk e=>?_,J.trans W.b⟩
 .by_cases G:C x y z
  .exact h2 x y z G
  rw[h1 x y z G];refine(ob p m g x y z).fr w w' (h.o x y z) (λk e=>hO.same (h.lt ⟨x,y,z,e⟩) ?_);rintro⟨a,b,c,hc,J⟩;obtain⟨rfl,rfl,rfl⟩:=h.i _ _ _ _ _ _ k e J;exact G hc
 .rcases u _ _ _ k e with a|⟨a,_,b⟩
  .rcases u _ _ _ k H with c|⟨c,_⟩
   .exact h.i _ _ _ _ _ _ k a c
   exact ch ⟨_,_,_,a⟩ c
  rcases u _ _ _ k H with c|⟨c,_,d⟩
  .exact ch ⟨_,_,_,c⟩ a
  rw[b]at d;injection d with d1 Y;injection Y with Y d3;exact⟨d1,Y,d3⟩
 .obtain⟨x,y,z,_,J⟩:=e;exact(W.m k ⟨x,y,z,J⟩).resolve_right (by omega)
 obtain⟨x,y,z,e⟩:=e;rcases u x y z k e with h|h
 .exact W.m k ⟨x,y,z,h⟩
 exact ab h.2.1
theorem dQ.to(C:Nat->Nat->Nat->Prop)(own:Nat->Nat×Nat×Nat)(h:dQ p m g w)(W:dy (λk=>∃x y z,C x y z/\(ob p m g x y z).bs k) w w')(G:∀x y z,¬C x y z->ob p m' g' x y z=ob p m g x y z)(u:∀x y z,C x y z->(ob p m' g' x y z).ok w')(o:∀x y z k,C x y z->(ob p m' g' x y z).bs k->(ob p m g x y z).bs k\/(w.heap.size<=k/\own k=(x,y,z)))(i:g'.mb=g.mb:=by rfl):Tr p m g w m' g' w':=
 Tr.to C own (Tr.refl h) W G u (λx y z k H e=>(o x y z k H e).imp id (λY=>⟨λJ=>by have:=h.lt J;omega,Y⟩)) i
def Ey(x:Nat):Prop:=x=1\/x=3\/x=4\/x=5
theorem ok_eq{x y z:Nat}(e0:x=0->g'.mb=g.mb/\mE p m' g'=mE p m g:=by intro e;exact⟨rfl,rfl⟩)(er:Ey x->g'.ro x y=g.ro x y/\qz m' x y=qz m x y/\rC p m' g' x y=rC p m g x y:=by intro e;exact⟨rfl,rfl,rfl⟩)(eq:x=2\/x=10->g'.ro x y=g.ro x y/\qz m' x y=qz m x y/\qC m' x y=qC m x y:=by intro e;rcases e with rfl|rfl<;>exact⟨rfl,rfl,rfl⟩)(e6:x=6->g'.rb y z=g.rb y z/\(fj m' y z).f=(fj m y z).f/\(fj m' y z).R=(fj m y z).R:=by intro e;exact⟨rfl,rfl,rfl⟩)(e7:x=7->g'.sb y=g.sb y/\m'.M y=m.M y:=by intro e;exact⟨rfl,rfl⟩)(hx:x<=10):ok p m' g' x y z=ok p m g x y z:=by
 unfold ok;by_cases G:x=0
 .rw[aj G,aj G,(e0 G).1,(e0 G).2]
 rw[aa G,aa G];by_cases o:x=6
 .rw[aj o,aj o,(e6 o).1,(e6 o).2.1,(e6 o).2.2]
 rw[aa o,aa o];by_cases u:x=7
 .rw[aj u,aj u,(e7 u).1,(e7 u).2]
 rw[aa u,aa u];by_cases J:x=8
 .rw[aj J,aj J]
 rw[aa J,aa J];by_cases H:x=9
 .rw[aj H,aj H]
 rw[aa H,aa H];by_cases i:x=2\/x=10
 .rw[aj i,aj i,(eq i).1,(eq i).2.1,(eq i).2.2]
 have W:Ey x:=by unfold Ey;omega
 rw[aa i,aa i,(er W).1,(er W).2.1,(er W).2.2]
theorem fP{x y z:Nat}(h:vd p m x y z=true):ob p m g x y z=ok p m g x y z:=by unfold ob;rw[aj h]
theorem zP{x y z:Nat}(h:¬vd p m x y z=true):ob p m g x y z=.nil:=by unfold ob;rw[aa h]
theorem kG{x y z:Nat}(h:vd p m x y z=true):x<=10:=by
 unfold vd at h;by_cases e:x<=10
 .exact e
 rw[aa (by omega),aa (by omega),aa (by omega),aa (by omega),aa (by omega)]at h;have:=dO h;omega
theorem jT{x y z:Nat}(i:vd p m' x y z=vd p m x y z)(e:vd p m x y z=true->ok p m' g' x y z=ok p m g x y z):ob p m' g' x y z=ob p m g x y z:=by
 unfold ob;rw[i];by_cases h:vd p m x y z=true
 .rw[aj h,aj h,e h]
 rw[aa h,aa h]
theorem BR(o:m'.nt=m.nt)(i:∀t,(m'.T t).fr.length=(m.T t).fr.length)(e:m'.nc=m.nc)(x y z:Nat):vd p m' x y z=vd p m x y z:=by unfold vd;rw[o,i,e]
theorem m6{x:Nat}(h:x<=4\/x=8):vd p m x 0 0=true:=by unfold vd;rw[aj h];rfl
theorem jC{x y z:Nat}(e:vd p m x y z=true)(h:x<=4\/x=8):y=0/\z=0:=by
 unfold vd at e;rw[aj h]at e;exact dO e
theorem pX{t:Nat}(i:1<=t)(e:t<=m.nt):vd p m 5 t 0=true:=by unfold vd;rw[aa (by omega),aj rfl];simp[i,e]
theorem uh{y z:Nat}(e:vd p m 5 y z=true):1<=y/\y<=m.nt/\z=0:=by
 unfold vd at e;rw[aa (by omega),aj rfl]at e;exact dO e
theorem Az{t i:Nat}(u:1<=t)(e:t<=m.nt)(o:i<(m.T t).fr.length):vd p m 6 t i=true:=by unfold vd;rw[aa (by omega),aa (by omega),aj rfl];simp[u,e,o]
theorem wv{y z:Nat}(e:vd p m 6 y z=true):1<=y/\y<=m.nt/\z<(m.T y).fr.length:=by
 unfold vd at e;rw[aa (by omega),aa (by omega),aj rfl]at e;exact dO e
theorem Gw{c:Nat}(i:1<=c)(e:c<=m.nc):vd p m 7 c 0=true:=by unfold vd;rw[aa (by omega),aa (by omega),aa (by omega),aj rfl];simp[i,e]
theorem zl{y z:Nat}(e:vd p m 7 y z=true):1<=y/\y<=m.nc/\z=0:=by
 unfold vd at e;rw[aa (by omega),aa (by omega),aa (by omega),aj rfl]at e;exact dO e
theorem IJ{f:Nat}(e:f<p.nf):vd p m 9 f 0=true:=by unfold vd;rw[aa (by omega),aa (by omega),aa (by omega),aa (by omega),aj rfl];simp[e]
end D
namespace D
open F
theorem lh(n:Nat)(P:Nat->Value)(j:Nat):(rowP n P)[j]? = if j<n then some (P j) else none:=by
 unfold rowP;by_cases h:j<n
 .rw[aj h,eo,fW h];rfl
 rw[aa h,cw (by simp;omega)]
theorem zD{n:Nat}{P:Nat->Value}{xs:List Value}(i:xs.length=n)(h:∀j,j<n->xs[j]? = some (P j)):xs=rowP n P:=by
 apply List.ext_getElem?
 intro j;rw[lh];by_cases e:j<n
 .rw[aj e,h j e]
 rw[aa e,cw (by omega)]
theorem iD{n:Nat}{P Q:Nat->Value}(h:∀j,j<n->P j=Q j):rowP n P=rowP n Q:=List.map_congr_left (λj e=>h j (eJ.1 e))
theorem sA{n k:Nat}{P Q:Nat->Value}{ys:List Value}(h:∀j,j<n->Q j=P j)(o:ys.length=k)(i:∀j,j<k->ys[j]? = some (Q (n+j))):rowP n P++ys=rowP (n+k) Q:=by
 have hn:(rowP n P).length=n:=by unfold rowP;simp
 refine zD (by rw[bo,hn,o]) (λj u=>?_);by_cases e:j<n
 .rw[du (by omega),lh,aj e,h j e]
 rw[dX (by omega),hn,i (j-n) (by omega)];congr 2;omega
theorem sU{w:World}{i n c sz g:Nat}{e:TypeId}{P:Nat->Value}(h:w.ownsRow i e sz (.slice (some ⟨g,0,none⟩) n c) n (rowP (n*sz) P)):n<=c/\c<=maxLen/\Full w g e (c*sz) (n*sz) P:=by
 rcases h with⟨_,⟨h,_⟩|⟨g',c',o,G,_,Z,Y,W,J,H⟩⟩
 .cases h
 cases G;refine⟨Y,W,o,Z,J,λj u=>?_⟩;have y:=lh (n*sz) P j;rw[aj u,<-H,dh,aj u]at y;simpa using y
theorem mn{w:World}{n c sz g:Nat}{e:TypeId}{P:Nat->Value}(hn:n<=c)(u:c<=maxLen)(h:Full w g e (c*sz) (n*sz) P):w.ownsRow 0 e sz (.slice (some ⟨g,0,none⟩) n c) n (rowP (n*sz) P):=by
 obtain⟨i,H,y,G⟩:=h;refine⟨by unfold rowP;simp,ab ⟨g,c,i,rfl,dc _,H,hn,u,y,?_⟩⟩;refine zD ?_ (λj o=>?_)
 .rw[List.length_take];have:n*sz<=c*sz:=Nat.mul_le_mul_right _ hn;simp;omega
 rw[dh,aj o];simpa using G j o
theorem sR{w:World}{n c sz:Nat}{e:TypeId}{ad:Option Addr}{P:Nat->Value}(h:w.ownsRow 0 e sz (.slice ad n c) n (rowP (n*sz) P))(hn:n≠0):∃b,ad=some ⟨b,0,none⟩/\n<=c/\c<=maxLen/\Full w b e (c*sz) (n*sz) P:=by
 obtain⟨b,o,e⟩:=dM h hn;injection e with i _ _;subst i;exact⟨b,rfl,sU h⟩
theorem Full.down{w:World}{g n m k:Nat}{T:TypeId}{P:Nat->Value}(h:Full w g T n m P)(y:k<=m):Full w g T n k P:=by
 obtain⟨e,u,o,i⟩:=h;exact⟨e,u,o,λj G=>i j (by omega)⟩
variable {p : Dp} {m m' : Dm} {g g' : Dg} {w w' : World}
theorem dQ.at'(h:dQ p m g w){x y z:Nat}(e:vd p m x y z=true):(ok p m g x y z).ok w:=by
 have:=h.o x y z;rw[fP e]at this;exact this
abbrev mF(m:Dm)(t:Nat):Prop:=1<=t/\t<=m.nt
section
variable (h : dQ p m g w)
include h
theorem dQ.M:Full w g.mb 112 24 24 (mE p m g):=h.at' (x:=0) (y:=0) (z:=0) rfl
theorem dQ.Tw:w.ownsRow 0 167 8 (iR m g 1 0) m.nt (rowP (m.nt*8) (tE m g)):=h.at' (x:=1) (y:=0) (z:=0) rfl
theorem dQ.T(hn:m.nt≠0):∃b,(g.ro 1 0).1=some ⟨b,0,none⟩/\m.nt<=(g.ro 1 0).2/\(g.ro 1 0).2<=maxLen/\Full w b 167 ((g.ro 1 0).2*8) (m.nt*8) (tE m g):=sR h.Tw hn
theorem dQ.Q:fM w 3 (iR m g 2 0) (iI m.q):=h.at' (x:=2) (y:=0) (z:=0) rfl
theorem dQ.E:w.ownsRow 0 48 3 (iR m g 4 0) m.ev.length (kE m.ev):=h.at' (x:=4) (y:=0) (z:=0) rfl
theorem dQ.Cw:w.ownsRow 0 233 2 (iR m g 3 0) m.nc (rowP (m.nc*2) (cE m g)):=h.at' (x:=3) (y:=0) (z:=0) rfl
theorem dQ.C(hn:m.nc≠0):∃b,(g.ro 3 0).1=some ⟨b,0,none⟩/\m.nc<=(g.ro 3 0).2/\(g.ro 3 0).2<=maxLen/\Full w b 233 ((g.ro 3 0).2*2) (m.nc*2) (cE m g):=sR h.Cw hn
theorem dQ.Fw{t:Nat}(ht:mF m t):w.ownsRow 0 163 4 (iR m g 5 t) (m.T t).fr.length (rowP ((m.T t).fr.length*4) (fE p m g t)):=h.at' (pX ht.1 ht.2)
theorem dQ.F{t:Nat}(ht:mF m t)(hn:(m.T t).fr.length≠0):∃b,(g.ro 5 t).1=some ⟨b,0,none⟩/\(m.T t).fr.length<=(g.ro 5 t).2/\(g.ro 5 t).2<=maxLen/\Full w b 163 ((g.ro 5 t).2*4) ((m.T t).fr.length*4) (fE p m g t):=sR (h.Fw ht) hn
theorem dQ.R{t i:Nat}(ht:mF m t)(hi:i<(m.T t).fr.length):Full w (g.rb t i) 115 (p.rg (fj m t i).f*2) (p.rg (fj m t i).f*2) (eC (fj m t i).R):=h.at' (Az ht.1 ht.2 hi)
theorem dQ.S{c:Nat}(i:1<=c)(e:c<=m.nc):Full w (g.sb c) 115 ((m.M c).length*2) ((m.M c).length*2) (eC (kT (m.M c))):=h.at' (Gw i e)
theorem dQ.P:p.nf<=p.gc/\p.gc<=maxLen/\Full w p.gb 89 (p.gc*2) (p.nf*2) (JC p):=sU (h.at' (x:=8) (y:=0) (z:=0) rfl)
theorem dQ.K{f:Nat}(e:f<p.nf):p.len f<=p.cc f/\p.cc f<=maxLen/\Full w (p.cb f) 90 (p.cc f*4) (p.len f*4) (Ec p f):=sU (h.at' (IJ e))
theorem dQ.ne{x y z x' y' z' k G:Nat}(J:vd p m x y z=true)(o:vd p m x' y' z'=true)(H:(ok p m g x y z).bs k)(u:(ok p m g x' y' z').bs G)(hn:x≠x'\/y≠y'\/z≠z'):k≠G:=λe=>by
 subst e;obtain⟨Z,Y,W⟩:=h.i x y z x' y' z' k (by rw[fP J];exact H) (by rw[fP o];exact u);omega
theorem dQ.mc(j:Nat)(e:j<24){v:Value}(i:mE p m g j=v):w.cell? ⟨g.mb,j,none⟩=some v/\w.frozen? ⟨g.mb,j,none⟩=false:=by
 rw[<-i];exact h.M.cells j e
end
theorem pc(m:Dm)(g:Dg){t k j:Nat}(ht:1<=t)(e:k<8)(i:j=(t-1)*8+k):tE m g j=tC (m.T t) (iR m g 5 t) k:=by
 unfold tE;rw[show j / 8+1=t by omega,show j % 8=k by omega]
theorem tA(p:Dp)(m:Dm)(g:Dg)(t:Nat){i k:Nat}(e:k<4):fE p m g t (i*4+k)=fC p (fj m t i) (g.rb t i) k:=by
 unfold fE;rw[show(i*4+k) / 4=i by omega,show(i*4+k) % 4=k by omega]
structure Tc(w:World) (tb t:Nat) (x:Dt) (fv:Value):Prop where
 c:∀k,k<8->w.cell? ⟨tb,(t-1)*8+k,none⟩=some (tC x fv k)/\w.frozen? ⟨tb,(t-1)*8+k,none⟩=false
theorem dQ.tc(h:dQ p m g w){t:Nat}(ht:mF m t):∃tb,g.ro 1 0=(some ⟨tb,0,none⟩,(g.ro 1 0).2)/\Full w tb 167 ((g.ro 1 0).2*8) (m.nt*8) (tE m g)/\Tc w tb t (m.T t) (iR m g 5 t):=by
 obtain⟨b,o,y,u,e⟩:=h.T (by omega);refine⟨b,fV o rfl,e,⟨λk i=>?_⟩⟩;have:=e.cells ((t-1)*8+k) (by omega);rw[pc m g ht.1 i rfl]at this;exact this
end D
namespace D
open F
def Dm.dv(m:Dm)(t:Nat)(x:Dt):Dm:={ m with T:=λu=>if u=t then x else m.T u }
def Dt.kD(x:Dt)(l:List gY):Dt:={ x with fr:=l }
def Dm.dx(m:Dm)(t i:Nat)(f:gY):Dm:=m.dv t ((m.T t).kD ((m.T t).fr.set i f))
def pQ(m:Dm)(t:Nat):Nat:=(m.T t).fr.length-1
def pR(m:Dm)(t:Nat):gY:=fj m t (pQ m t)
def Dm.told(m:Dm)(kind t:Nat)(x:Int):Dm:={ m with ev:=m.ev++[(kind,t,x)] }
def Dm.eZ(m:Dm)(l:List Nat):Dm:={ m with q:=l }
def Dm.qv(m:Dm)(t:Nat):Dm:=m.eZ (m.q++[t])
def Dt.hw(x:Dt)(h:Nat):Dt:={ x with how:=h }
def Dm.tW(m:Dm)(t:Nat):Dm:=(m.dv t ((m.T t).hw 1)).qv t
def Dm.ready(m:Dm)(t:Nat)(v:B.V):Dm:=if 0<=(m.T t).into then(m.tW t).dx t (pQ m t) ((pR m t).set (m.T t).into.toNat v) else m.tW t
def Dt.end(x:Dt)(v:B.V):Dt:={ x with how:=5,fr:=[],out:=v }
def Dm.gone(m:Dm)(t kind:Nat)(x:Int)(v:B.V):Dm:=((m.dv t ((m.T t).end v)).eZ (m.q.filter (λu=>decide (u≠t)))).told kind t x
def Dm.pop(m:Dm)(t:Nat):Dm:=m.dv t ((m.T t).kD (m.T t).fr.dropLast)
def Dm.push(m:Dm)(t:Nat)(f:gY):Dm:=m.dv t ((m.T t).kD ((m.T t).fr++[f]))
def Dm.born(m:Dm)(f:Nat)(u v:B.V):Dm:={ m with nt:=m.nt+1,T:=λt=>if t=m.nt+1 then⟨[⟨f,0,gh u v,(0,0,0,0)⟩],1,0,0,0,0,(0,0)⟩ else m.T t,q:=m.q++[m.nt+1] }
def Dc.born(c:Dc):Dc:={ c with all:=c.all+1,sure:=c.sure+1,lO:=c.lO+1 }
def Dm.cell(m:Dm)(ty:Nat)(l:List B.V):Dm:={ m with nc:=m.nc+1,M:=λc=>if c=m.nc+1 then l else m.M c,ck:=λc=>if c=m.nc+1 then ty else m.ck c,G:=m.G.born }
def Dm.put(m:Dm)(a i:Nat)(v:B.V):Dm:={ m with M:=λc=>if c=a then(m.M a).set i v else m.M c }
def Dm.fF(m:Dm)(c:Int):Dm:={ m with eY:=c }
def Dm.gT(m:Dm)(c:Dc):Dm:={ m with G:=c }
def Dm.zu(m:Dm):Dm:={ m with sp:=true }
def Iv(m:Dm)(how what b:Nat):Prop:=
 (b=0/\∀u,mF m u->¬((m.T u).how=how/\(m.T u).what=what))\/(mF m b/\(m.T b).how=how/\(m.T b).what=what/\∀u,mF m u->(m.T u).how=how->(m.T u).what=what->(m.T b).ji<=(m.T u).ji)
def xw(x y:Dt):Prop:=x.km<y.km\/(x.km=y.km/\x.ji<=y.ji)
def Iw(m:Dm)(b:Nat):Prop:=
 (b=0/\∀u,mF m u->¬((m.T u).how=2/\(m.T u).km<=m.eY))\/(mF m b/\(m.T b).how=2/\(m.T b).km<=m.eY/\∀u,mF m u->(m.T u).how=2->(m.T u).km<=m.eY->xw (m.T b) (m.T u))
def BJ(P:Nat->Prop)(N:Nat):Prop:=∃l:List Nat,l.Nodup/\(∀t,t∈l↔P t)/\N=l.length
def D7(m:Dm)(N:Nat):Prop:=BJ (λt=>mF m t/\(m.T t).how≠5) N
theorem BJ.uniq{P Q:Nat->Prop}{N K:Nat}(h:BJ P N)(k:BJ Q K)(e:∀t,P t↔Q t):N=K:=by
 obtain⟨l,i,u,rfl⟩:=h;obtain⟨r,o,y,rfl⟩:=k;exact List.Perm.length_eq ((List.perm_ext_iff_of_nodup i o).2 (λt=>by rw[u,y,e]))
theorem fG(m:Dm)(t:Nat)(x:Dt):(m.dv t x).T t=x:=aj rfl
theorem fA(m:Dm){t u:Nat}(x:Dt)(h:u≠t):(m.dv t x).T u=m.T u:=aa h
theorem iT(m:Dm)(t:Nat)(x y:Dt):(m.dv t x).dv t y=m.dv t y:=by
 unfold Dm.dv;have:(λu=>if u=t then y else(λu=>if u=t then x else m.T u) u)=(λu=>if u=t then y else m.T u):=by
  funext u
  by_cases e:u=t
  .rw[aj e,aj e]
  rw[aa e,aa e];exact aa e
 simp only[this]
theorem jU{l:List gY}{i j:Nat}{f:gY}(hi:i<l.length):(l.set i f).getD j mr=if j=i then f else l.getD j mr:=by
 by_cases e:j=i
 .subst e;rw[aj rfl,ar,List.getElem?_set_self hi];rfl
 rw[aa e,ar,List.getElem?_set_ne (λo=>e o.symm),<-ar]
