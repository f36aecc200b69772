import Derived.Test.YtnjiinbhbjpfkaaGreatDoorAS
import Derived.Test.YtnjiinbhbjpfkaaGreatDoorAP
set_option maxRecDepth 100000
set_option maxHeartbeats 0
set_option linter.all false
namespace Go.Proofs.YtnjiinbhbjpfkaaGreatDoor
open Go.RowKit Go.Proofs.Tryz
namespace F
variable {g:eM}{i t u x y:Nat}{k:Nat×Nat×Nat×Nat}{l:List Nat}{p:dH}{s s':Pl}{w:aa}
def Pl.pop(s:Pl)(t:Nat):Pl:=s.dy t<|(s.T t).mR (s.T t).fr.dropLast
theorem qm(s:Pl)(h:u=t->i+1<(s.T t).fr.length):du (s.pop t) u i=du s u i:=by
 unfold du Pl.pop;by_cases e:u=t
 .subst e;rw[dk];show(s.T u).fr.dropLast.getD _ _=_;grind
 grind[dU]
theorem dZ.pop{p:dH}{s:Pl}{g:eM}{w w':aa}{t m:Nat}(h:dZ p s g w)(ht:ft s t)(a6:(s.T t).lf=none)(hm:(s.T t).fr.length=m+1)(hT:Full w' (g.tb t) 160 7 7 (eE (gH p s g t) 1<|.slice (g.ro 12 t).1 m (g.ro 12 t).2))(hK:w'.ownsRow 0 184 1 (.slice (g.ro 12 t).1 m (g.ro 12 t).2) m (((List.range m).map<|g.fb t).map P0))(hO:dN (λk=>k=g.tb t\/fk (g.ro 12 t).1=some k) w w'):Tr p s g w (s.pop t) g w':=by
 have o:∀u,u≠t->(s.pop t).T u=s.T u:=λu e=>dU _ _ e;have y:(s.pop t).T t=(s.T t).mR (s.T t).fr.dropLast:=dk _ _ _;have a0:((s.pop t).T t).fr.length=m:=by rw[y];show(s.T t).fr.dropLast.length=_;rw[eY,hm];rfl
 have a2:∀a b,¬(a=12/\b=t)->eS (s.pop t) a b=eS s a b:=λa b e=>by
  by_cases eb:b=t
  .have i:a≠12:=λi=>e ⟨i,eb⟩;unfold eS;simp only[av i];rfl
  exact ky rfl rfl rfl rfl rfl ey rfl
 have a5:∀a b,¬(a=12/\b=t)->gC (s.pop t) g a b=gC s g a b:=λa b e=>by
  by_cases i:a=12
  .grind[nI]
  unfold gC;simp only[av i];rfl
 have H:∀a b,¬(a=12/\b=t)->sl (s.pop t) g a b=sl s g a b:=λa b e=>by
  grind[sl]
 have W:sl (s.pop t) g 12 t=.slice (g.ro 12 t).1 m (g.ro 12 t).2:=by
  unfold sl;rw[kC,a0]
 have a4:∀a b c,¬((a=13\/a=14)/\b=t/\c=m)->ig (s.pop t) a b c=ig s a b c:=λa b c e=>by
  by_cases eb:b=t
  .by_cases i:a=13\/a=14
   .have ec:c≠m:=λec=>e ⟨i,eb,ec⟩;unfold ig;rw[eK,eK,eK,eK,bf i,eK,eK,eK,eK,bf i];have e1:((s.pop t).T b).fr.length=m:=eZ eb a0
    have e2:(s.T b).fr.length=m+1:=eZ eb hm
    rw[e1,e2];have a1:(s.pop t).nt=s.nt:=rfl;rw[a1];by_cases hc:c<m
    .have:c<m+1:=by omega
     simp[hc,this]
    have:¬c<m+1:=by omega
    simp[hc,this]
   unfold ig;have a1:(s.pop t).nt=s.nt:=rfl;rw[a1,av i];by_cases a7:a=17
   .have:((s.pop t).T b).lf=(s.T b).lf:=by rw[eb,y];rfl
    rw[this,av i]
   simp only[av a7,av i]
  exact nQ rfl (by rw[o b eb]) (λ_ _=>by rw[o b eb])
 have a3:∀a,a=13\/a=14->¬ig (s.pop t) a t m=true:=λa ha Y=>by
  have:=(nP Y ha).2;omega
 refine h.to (λa b c=>(a=11/\b=t/\c=0)\/(a=12/\b=t/\c=0)\/((a=13\/a=14)/\b=t/\c=m)) (λ_=>(0,0,0)) (hO.mono<|λk G _=>?_) (λa b c J=>?_) (λa b c J=>?_)<|λa b c k J G=>?_
 .rcases G with G|G
  .exact⟨11,t,0,ag ⟨rfl,rfl,rfl⟩,by rw[lL p g ht];exact G⟩
  exact⟨12,t,0,ak<|ag ⟨rfl,rfl,rfl⟩,by rw[gW p g (by unfold fi;omega)<|iM af ht];exact G⟩
 .refine lK (a4 a b c<|λe=>J<|ak<|ak e)<|λY=>mY Y (λ_=>kO (λa b _ _ e _=>H a b<|λhh=>e hh.1) rfl rfl) (λ_=>⟨rfl,rfl,rfl⟩) ?_ ?_ ?_ (λ_=>rfl) (λ_=>⟨rfl,rfl⟩) ?_ ?_
  .intro i;have eb:b≠t:=λe=>J<|ag ⟨i,e,(kJ Y af).2⟩;refine⟨rfl,?_⟩;funext j
   unfold gH;rw[H 12 b<|λe=>eb e.2,H 5 b (λe=>by omega),o b eb]
  .intro i;subst i;let⟨hb,hc⟩:=nP Y af;refine⟨rfl,?_⟩;rw[qm s (λe=>by
    subst e;have:c≠m:=λe=>J<|ak<|ak ⟨ag rfl,rfl,e⟩;omega)]
  .intro i;subst i;let⟨hb,hc⟩:=nP Y af;exact⟨rfl,qm s (λe=>by
    subst e;have:c≠m:=λe=>J<|ak<|ak ⟨ak rfl,rfl,e⟩;omega)⟩
  .intro i;subst i;have hl:=(mI Y).2.2;have eb:b≠t:=λe=>by rw[e,a6]at hl;cases hl
   refine⟨rfl,?_⟩;unfold xz;rw[o b eb]
  intro ha;have e:¬(a=12/\b=t):=λe=>J<|ak<|ag ⟨e.1,e.2,sJ Y ha⟩;exact⟨rfl,a2 a b e,a5 a b e⟩
 .rcases J with⟨rfl,rfl,rfl⟩|⟨rfl,rfl,rfl⟩|⟨Z,rfl,rfl⟩
  .rw[iq (show ig (s.pop b) 11 b 0=true from iM af ht)];refine Full.congr hT<|λj hj=>?_;have hc:=pS 6 j af
   repeat' rcases hc with rfl|hc
   .rfl
   .exact W.symm
   .show Value.bool (s.T b).run=Value.bool ((s.pop b).T b).run;rw[y];rfl
   .show xp p g (s.T b).wh=xp p g ((s.pop b).T b).wh;rw[y];rfl
   .show zD g b (s.T b).lf=zD g b ((s.pop b).T b).lf;rw[y];rfl
   .show Value.int .i64 (s.T b).iT=Value.int .i64 ((s.pop b).T b).iT;rw[y];rfl
   exact(H 5 b<|λe=>by omega).symm
  .rw[iq (show ig (s.pop b) 12 b 0=true from iM af ht),im (by unfold fi;omega)];show w'.ownsRow 0 184 1 (sl (s.pop b) g 12 b) (eS (s.pop b) 12 b) (gC (s.pop b) g 12 b);rw[W,kC,nI,a0];exact hK
  rw[wg<|a3 a Z];exact trivial
 rcases J with⟨rfl,rfl,rfl⟩|⟨rfl,rfl,rfl⟩|⟨Z,rfl,rfl⟩
 .rw[lL p _ (show ft (s.pop b) b from ht)]at G;rw[lL p g ht];exact ag G
 .rw[gW p _ (by unfold fi;omega) (show ig (s.pop b) 12 b 0=true from iM af ht)]at G;rw[gW p g (by unfold fi;omega)<|iM af ht];exact ag G
 rw[wg<|a3 a Z]at G;exact G.elim
def qY.kR(v:qY)(k:Nat×Nat×Nat×Nat):qY:={v with lf:=some k}
def eM.left(g:eM)(t b:Nat):eM:={g with sx:=λu=>if u=t then b else g.sx u}
def left_at(g:eM)(t b:Nat):(g.left t b).sx t=b:=bf rfl
def zF(g:eM)(b:Nat)(h:u≠t):(g.left t b).sx u=g.sx u:=av h
theorem Tr.left{p:dH}{s0 s:Pl}{g0 g:eM}{w0 w w':aa}{t b:Nat}{k4:Nat×Nat×Nat×Nat}(h0:Tr p s0 g0 w0 s g w)(ht:ft s t)(hT:Full w' (g.tb t) 160 7 7 (eE (gH p s g t) 4<|Fv 207 #[P0 b]))(hb:w'.heap[b]?=some (jF k4.1 k4.2.1 k4.2.2.1 k4.2.2.2 (g.fb t<|(s.T t).fr.length-1) (g.tb t) p.eb))(hn:¬eJ p s g b)(hz:w0.heap.size<=b)(hO:dN (λk=>k=g.tb t) w w'):Tr p s0 g0 w0 (s.dy t<|(s.T t).kR k4) (g.left t b) w':=by
 have o:∀u,u≠t->(s.dy t<|(s.T t).kR k4).T u=s.T u:=λu e=>dU _ _ e;have G:∀u,((s.dy t<|(s.T t).kR k4).T u).fr=(s.T u).fr:=λu=>by
  by_cases e:u=t
  .subst e;rw[dk];rfl
  grind
 have y:(s.dy t<|(s.T t).kR k4).T t=(s.T t).kR k4:=dk _ _ _;have a0:∀a i,eS (s.dy t<|(s.T t).kR k4) a i=eS s a i:=λa i=>ky rfl rfl rfl rfl rfl (by rw[G]) rfl;have H:∀a i,sl (s.dy t<|(s.T t).kR k4) (g.left t b) a i=sl s g a i:=λa i=>by
  unfold sl;rw[a0 a i];rfl
 have a2:∀a i c,¬(a=17/\i=t/\c=0)->ig (s.dy t<|(s.T t).kR k4) a i c=ig s a i c:=λa i c e=>
  nQ rfl (by rw[G]) (λY ec=>by grind)
 have J:ig (s.dy t<|(s.T t).kR k4) 17 t 0=true:=D9 ht<|kh y;refine h0.to (λa i c=>(a=11/\i=t/\c=0)\/(a=17/\i=t/\c=0)) (λ_=>(17,t,0)) (hO.mono<|λk Z _=>⟨11,t,0,ag ⟨rfl,rfl,rfl⟩,by grind[lL]⟩) (λa i c W=>?_) (λa i c W=>?_)<|λa i c k W Z=>?_
 .refine lK (a2 a i c<|λe=>W<|ak e)<|λhV=>mY hV (λ_=>kO (λa b _ _ _ _=>H a b) rfl rfl) (λ_=>⟨rfl,rfl,rfl⟩) ?_ ?_ ?_ (λ_=>rfl) (λ_=>⟨rfl,rfl⟩) ?_<|λ_=>⟨rfl,a0 a i,rH rfl rfl rfl rfl rfl rfl rfl (by rw[G]) rfl⟩
  .intro Y;have eb:i≠t:=λe=>W<|ag ⟨Y,e,(kJ hV af).2⟩;refine⟨rfl,?_⟩;funext j
   unfold gH;rw[H,H,o i eb];unfold zD;rw[zF g b eb];rfl
  .intro Y;refine⟨rfl,?_⟩;unfold du;rw[G];rfl
  .intro Y;refine⟨rfl,?_⟩;grind[du]
  intro Y;subst Y;have eb:i≠t:=λe=>W<|ak ⟨rfl,e,(mI hV).2.1⟩;refine⟨zF g b eb,?_⟩;unfold xz;rw[o i eb];rfl
 .rcases W with⟨rfl,rfl,rfl⟩|⟨rfl,rfl,rfl⟩
  .rw[iq (show ig (s.dy i<|(s.T i).kR k4) 11 i 0=true from iM af ht)];refine Full.congr hT<|λj hj=>?_;have hc:=pS 6 j af
   repeat' rcases hc with rfl|hc
   .rfl
   .exact(H 12 i).symm
   .show Value.bool (s.T i).run=Value.bool ((s.dy i<|(s.T i).kR k4).T i).run;rw[y];rfl
   .show xp p g (s.T i).wh=xp p (g.left i b) ((s.dy i<|(s.T i).kR k4).T i).wh;rw[y];rfl
   .show Fv 207 #[P0 b]=zD (g.left i b) i ((s.dy i<|(s.T i).kR k4).T i).lf;rw[y];show _=Fv 207 #[P0<|(g.left i b).sx i];rw[left_at]
   .show Value.int .i64 (s.T i).iT=Value.int .i64 ((s.dy i<|(s.T i).kR k4).T i).iT;rw[y];rfl
   exact(H 5 i).symm
  rw[iq J];show w'.heap[(g.left i b).sx i]?=some (xz p (s.dy i<|(s.T i).kR k4) (g.left i b) i);rw[left_at,hb];unfold xz;rw[y];rfl
 rcases W with⟨rfl,rfl,rfl⟩|⟨rfl,rfl,rfl⟩
 .rw[lL p _ (show ft (s.dy i<|(s.T i).kR k4) i from ht)]at Z;rw[lL p g ht];exact ag Z
 rw[iq J]at Z;have a1:k=(g.left i b).sx i:=Z;rw[left_at]at a1;subst a1;exact ak ⟨hn,hz,rfl⟩
def sP:qY:=⟨[],false,none,none,0⟩
def Pl.new(s:Pl):Pl:={s with nt:=s.nt+1,T:=λi=>if i=s.nt+1 then sP else s.T i,q:=λa b=>if a=5/\b=s.nt+1 then[] else s.q a b}
def eM.new(g:eM)(t tb xe xt:Nat):eM:={g with tb:=λi=>if i=t then tb else g.tb i,xe:=λi=>if i=t then xe else g.xe i,xt:=λi=>if i=t then xt else g.xt i,ro:=λa b=>if(a=5\/a=12)/\b=t then(none,0) else g.ro a b}
theorem ot(s:Pl)(h:t≠s.nt+1):s.new.T t=s.T t:=av h
def mZ(s:Pl):s.new.T (s.nt+1)=sP:=bf rfl
theorem sf(s:Pl){a b:Nat}(h:¬(a=5/\b=s.nt+1)):s.new.q a b=s.q a b:=av h
theorem ve(s:Pl):s.new.q 5 (s.nt+1)=[]:=bf ⟨rfl,rfl⟩
def Kx(s:Pl):s.new.nt=s.nt+1:=rfl
theorem oy(g:eM){tb xe xt:Nat}(h:u≠t):(g.new t tb xe xt).tb u=g.tb u/\(g.new t tb xe xt).xe u=g.xe u/\(g.new t tb xe xt).xt u=g.xt u:=⟨av h,av h,av h⟩
def mg(g:eM)(t tb xe xt:Nat):(g.new t tb xe xt).tb t=tb/\(g.new t tb xe xt).xe t=xe/\(g.new t tb xe xt).xt t=xt:=⟨bf rfl,bf rfl,bf rfl⟩
theorem xZ(g:eM){tb xe xt a b:Nat}(h:¬((a=5\/a=12)/\b=t)):(g.new t tb xe xt).ro a b=g.ro a b:=av h
def FZ(g:eM){tb xe xt a:Nat}(h:a=5\/a=12):(g.new t tb xe xt).ro a t=(none,0):=bf ⟨h,rfl⟩
theorem Im(s:Pl){a b c:Nat}(Y:¬((a=5\/a=11\/a=12\/a=15\/a=16)/\b=s.nt+1/\c=0)):ig s.new a b c=ig s a b c:=by
 unfold ig;rw[Kx];by_cases o:a<=1\/a=2\/a=3\/(6<=a/\a<=9)\/a=18
 .grind
 rw[av o,av o];by_cases u:a=4\/a=10
 .grind
 rw[av u,av u];by_cases i:a=5\/a=11\/a=12\/a=15\/a=16
 .rw[bf i,bf i];grind
 rw[av i,av i];by_cases H:b=s.nt+1
 .subst H;rw[mZ];have G:¬(1<=s.nt+1/\s.nt+1<=s.nt/\c=0):=af
  have y:¬(1<=s.nt+1/\s.nt+1<=s.nt/\c<(s.T<|s.nt+1).fr.length):=af
  have J:¬(1<=s.nt+1/\s.nt+1<=s.nt+1/\c<sP.fr.length):=by
   show ¬(_/\_/\c<0);omega
  rw[eV G,eV y,eV J];have W:sP.lf.isSome=false:=rfl;grind
 grind[ot,decide]
structure MW(s:Pl):Prop where
 a:∀x y,fQ s x y->∀t,t∈s.q x y->ft s t
 b:∀t,t∈s.lv->ft s t
 c:∀t,ft s t->∀x y,(s.T t).wh=some (x,y)->fQ s x y
def D7(h:ig s x y 0=true)(hx:2<=x/\x<=5):fQ s x y:=by
 by_cases i:x=2
 .exact ag ⟨i,(mx h af).1⟩
 by_cases e:x=3
 .exact ak<|ag ⟨e,(mx h af).1⟩
 by_cases o:x=4
 .exact ak<|ak<|ag ⟨o,(Aq h af).1⟩
 exact ak<|ak<|ak ⟨af,(kJ h af).1⟩
theorem Ku{tb xe xt:Nat}(hM:MW s){a b c:Nat}(hC:¬((a=5\/a=11\/a=12\/a=15\/a=16)/\b=s.nt+1/\c=0)):ob p s.new (g.new (s.nt+1) tb xe xt) a b c=ob p s g a b c:=by
 have i:∀{t},ft s t->t≠s.nt+1:=λh=>by have:=h.2;omega
 have u:∀{t},ft s t->(g.new (s.nt+1) tb xe xt).tb t=g.tb t:=λh=>(oy g<|i h).1;have a0:∀a b,¬((a=5\/a=12)/\b=s.nt+1)->eS s.new a b=eS s a b:=λa b e=>by
  unfold eS;by_cases G:a=12
  .grind[ot,sf]
  rw[sf s<|λY=>e ⟨ag Y.1,Y.2⟩];simp only[av G];rfl
 have J:∀a b,¬((a=5\/a=12)/\b=s.nt+1)->sl s.new (g.new (s.nt+1) tb xe xt) a b=sl s g a b:=λa b e=>by
  grind[sl,xZ]
 refine lK (Im s hC)<|λH=>mY H ?_ (λ_=>⟨rfl,rfl,rfl⟩) ?_ ?_ ?_ ?_ ?_ ?_ ?_
 .intro _;exact kO (λa b _ e5 W _=>J a b<|λe=>e.1.elim e5 W) rfl rfl
 .intro G;have o:=(kJ H af).1;have eb:=i o;refine⟨u o,?_⟩;funext j
  unfold gH;rw[J 12 b<|λe=>eb e.2,J 5 b<|λe=>eb e.2,ot s eb];have hw:xp p (g.new (s.nt+1) tb xe xt) (s.T b).wh=xp p g (s.T b).wh:=by
   cases hwh:(s.T b).wh with
   |none=>rfl
   |some xy=>
    obtain⟨x,y⟩:=xy;show Pt (qp p (g.new (s.nt+1) tb xe xt) x y) (sk x y)=Pt (qp p g x y) (sk x y);unfold qp;by_cases Z:x=5
    .rw[bf Z,bf Z,u<|nV (hM.c b o x y hwh) Z]
    grind
  rw[hw];rfl
 .intro G;have o:=(nP H af).1;refine⟨rfl,?_⟩;have e1:du s.new b c=du s b c:=by unfold du;rw[ot s<|i o]
  rw[e1];unfold Am yx;rw[(oy g<|i o).2.1,(oy g<|i o).2.2,u o];rfl
 .intro G;have o:=(nP H af).1;refine⟨rfl,?_⟩;grind[du,ot]
 .intro G;exact(oy g<|i (kJ H af).1).2.1
 .grind[kJ,oy]
 .intro G;subst G;have o:=(mI H).1;refine⟨rfl,?_⟩;unfold xz;rw[ot s<|i o,u o];rfl
 intro ha;have ec:=sJ H ha;subst ec;have e:¬((a=5\/a=12)/\b=s.nt+1):=λe=>hC ⟨af,e.2,rfl⟩;refine⟨xZ g e,a0 a b e,?_⟩;by_cases G:2<=a/\a<=5
 .have hl:=D7 H G;rw[pL _ _ hl,pL _ _ hl,sf s<|λY=>e ⟨ag Y.1,Y.2⟩];congr 1
  exact List.map_congr_left<|λt ht=>u<|hM.a a b hl t ht
 unfold gC;by_cases e6:a=6
 .simp only[bf e6];congr 1
  exact List.map_congr_left<|λt ht=>u<|hM.b t ht
 by_cases W:a=12
 .subst W;have o:=(kJ H af).1;simp only[av e6];rw[ot s<|i o];rfl
 obtain⟨r1,r2,r3⟩:=ha;have:a=7\/a=8\/a=9\/a=10:=by omega
 rcases this with rfl|rfl|rfl|rfl<;>rfl
theorem Bt(l:List uz)(a b:Nat)(_:fi a)(i:a=4\/a=5\/a=10\/a=12\/b=0)(h:¬(a=9/\b=0)):eS {s with ev:=l} a b=eS s a b/\gC {s with ev:=l} g a b=gC s g a b:=by
 have e:a≠9:=af
 exact⟨by unfold eS;grind,by unfold gC;grind⟩
theorem kP(a:Option Addr)(n c k:Nat):(Value.slice a n c).ownBlock=some k↔fk a=some k:=by rw[dJ]
def Pl.told(s:Pl)(kind t:Nat)(x:Int):Pl:={s with ev:=s.ev++[(kind,t,x)]}
theorem Ek(kind:Nat)(x:Int)(h:dZ p s g w)(ht:ft s t)(hn:s.ev.length<=100000):eN 173 #[P0 p.eb,ah kind,P0<|g.tb t,ah x] w λw'=>∃r,Tr p s g w (s.told kind t x) (g.at 9 0 r) w':=by
 have o:ig s 9 0 0=true:=ji af;refine dq (Mm p.eb (g.tb t) kind t x (g.ro 9 0).1 s.ev.length (g.ro 9 0).2 s.ev (iQ p s g) (gH p s g t) w h.E rfl (h.tk ht) rfl (h.row (x:=9) (y:=0) (by grind[fi]) o) hn) ?_;rintro w' ⟨gb,c,J,Y,W,u⟩;have G:eS (s.told kind t x) 9 0=s.ev.length+1:=by show(s.ev++[(kind,t,x)]).length=_;rw[db];rfl
 refine⟨rfl,(some<|az gb 0,c),h.vE (j0:=43) af o eo rfl rfl rfl rfl rfl rfl rfl (λa b c d e=>Bt _ a b c d e) ?_ ?_ (W.mono<|λk i _=>?_) (λk i=>?_)⟩
 .grind
 .rw[G];exact J
 .grind[kP]
 have e:gb=k:=by injection i
 grind[kP]
def jq.set(f:jq)(a:Nat)(v:B.V):jq:={f with R:=B.set f.R a v}
theorem F6(h:dZ p s g w)(ht:ft s t)(hi:i<(s.T t).fr.length):g.fb t i≠g.rb t i:=by
 let⟨u,o,_⟩:=h.rg ht hi;exact λe=>eI o (h.fr ht hi) eo e.symm
theorem sQ{a:Nat}(op b c tb eb:Nat)(v:B.V)(h:dZ p s g w)(ht:ft s t)(hi:i<(s.T t).fr.length)(y:a<p.rg (du s t i).f):eN 149 #[ee op a b c (g.fb t i) tb eb,vA v] w λw'=>Tr p s g w (s.dM t i<|(du s t i).set a v) g w':=by
 refine dq (kU op a b c (g.fb t i) tb eb _ _ _ _ _ _ (du s t i).R v w (h.fr ht hi) (h.rg ht hi) y) ?_;rintro w' ⟨o,u⟩;refine⟨rfl,h.OG ht hi ?_ u<|jL o<|ak rfl⟩;exact da o (h.fr ht hi)<|by grind[F6]
def Pg{w':aa}{f:jq}(h:dZ p s g w)(ht:ft s t)(hi:i<(s.T t).fr.length)(e:f.f=(du s t i).f)(u:f.bk=(du s t i).bk)(o:Fr w' (g.fb t i) (p.cb (du s t i).f) (p.len (du s t i).f) f.nx (g.rb t i) (p.rg (du s t i).f) (yx p g t i (du s t i).bk) f.R)(y:dN (λk=>k=g.fb t i\/k=g.rb t i) w w'):Tr p s g w (s.dM t i f) g w':=by
 refine h.OG ht hi ?_ ?_ y
 .unfold Am;rw[e,u];exact o.1
 rw[e];exact o.2.1
def dZ.Fr(h:dZ p s g w)(ht:ft s t)(hi:i<(s.T t).fr.length):Fr w (g.fb t i) (p.cb (du s t i).f) (p.len (du s t i).f) (du s t i).nx (g.rb t i) (p.rg (du s t i).f) (yx p g t i (du s t i).bk) (du s t i).R:=⟨h.fr ht hi,h.rg ht hi,F6 h ht hi⟩
theorem Hq{size n:Nat}{e:TypeId}{v:Value}{xs:List Value}(h:w.ownsRow i e size v n xs):∃a c,v=.slice a n c:=by
 rcases h.2 with⟨o,y⟩|⟨g,c,u,o,_⟩
 .grind
 grind
def Pl.nE(s:Pl)(j:Nat)(v:B.V):Pl:={s with out:=s.out.set j v,kp:=ko s.kp v}
theorem Hp(j:Nat)(v:B.V)(a b:Nat)(_:fi a)(o:a=4\/a=5\/a=10\/a=12\/b=0)(h:¬(a=8/\b=0)):eS (s.nE j v) a b=eS s a b/\(¬(a=7/\b=0)->gC (s.nE j v) g a b=gC s g a b):=by
 have e:a≠8:=af
 by_cases i:a=7
 .subst i;refine⟨?_,λh=>dr ⟨rfl,af⟩ h⟩;show(s.out.set j v).length=s.out.length;grind
 exact⟨by unfold eS Pl.nE;grind,λ_=>by unfold gC Pl.nE;grind⟩
theorem MR{j:Nat}(v:B.V)(h:dZ p s g w)(hj:j<s.out.length)(hm:s.out.length<=1000000000)(i:s.kp.length<=1000000):eN 211 #[P0 p.eb,ah<|(j:Int)+1,vA v] w λw'=>∃r,Tr p s g w (s.nE j v) (g.at 8 0 r) w':=by
 have u:ig s 7 0 0=true:=ji af;have G:ig s 8 0 0=true:=ji af;have h7:=h.row (x:=7) (y:=0) (by grind[fi]) u;have a0:eS s 7 0=s.out.length:=rfl;let⟨ob,W,Z⟩:=ef h7 af;have o:sl s g 7 0=dD ob s.out.length W:=Z;have J:g.ro 7 0=(some<|az ob 0,W):=by
  unfold sl at o;injection o with a b c;exact gh a c
 refine(MS p.eb ob s.out.length W j s.kp.length (g.ro 8 0).2 (g.ro 8 0).1 v s.out s.kp (iQ p s g) w h.E o (by rw[<-o];exact h7) rfl (h.row (x:=8) (y:=0) (by grind[fi]) G) hj hm i (λx hx=>?_)).mono ?_
 .rw[kP]at hx;exact h.ne (x:=8) (y:=0) (z:=0) (x':=7) (y':=0) (z':=0) (by grind[gW,fi]) (by rw[gW p g (by grind[fi]) u,J];rfl) af
 rintro e w' ⟨rfl,vv,k1,k2,k3,k4,H⟩;obtain⟨a',c',rfl⟩:=Hq k3;refine⟨rfl,(a',c'),h.B6 (x2:=7) (y2:=0) (j0:=31) af G af u eo rfl rfl rfl rfl rfl rfl rfl (λa b c d e=>Hp j v a b c d e) k1 k3 (λ_=>?_) (k4.mono<|λk i _=>?_) (λk i=>?_)⟩
 .rw[o];exact k2
 .rw[kP]at i;rw[J];rcases i with i|i|i
  .omega
  .exact ak<|ak<|kh i
  grind
 grind[dJ]
theorem LW.same(h:LW s)(hn:s'.nt=s.nt)(e:s'.q=s.q)(hw:∀u,(s'.T u).wh=(s.T u).wh):LW s':=by
 refine⟨λt ht x y o=>?_,λx y i t ht=>?_,λx y i=>?_,eZ hn h.d⟩
 .rw[hw]at o;have:=h.a t ((eB hn).1 ht) x y o;grind[gJ]
 .rw[e]at ht;have:=h.b x y ((gJ hn).1 i) t ht;grind[eB]
 rw[e];grind[gJ,F.LW.c]
theorem fG(h:(s.T t).wh=none):s.dA t=s:=by grind[Pl.dA]
theorem gP(h:(s.T t).wh=some (x,y)):s.dA t=(s.fI x y<|(s.q x y).erase t).dy t (s.T t).off:=by grind[Pl.dA]
theorem kD(s:Pl)(t:Nat):((s.dA t).T t).wh=none:=by
 cases h:(s.T t).wh with
 |none=>grind[fG]
 |some e=>rw[gP (x:=e.1) (y:=e.2) h,dk];rfl
theorem uW(s:Pl)(h:u≠t):(s.dA t).T u=s.T u:=by
 cases hw:(s.T t).wh with
 |none=>grind[fG]
 |some e=>rw[gP (x:=e.1) (y:=e.2) hw,dU _ _ h];rfl
theorem LW.dA(h:LW s)(ht:ft s t):LW (s.dA t):=by
 cases hw:(s.T t).wh with
 |none=>grind[fG]
 |some xy=>
  obtain⟨x,y⟩:=xy;let⟨hl,hm,a0⟩:=h.a t ht x y hw;rw[gP hw];have hn:((s.fI x y<|(s.q x y).erase t).dy t (s.T t).off).nt=s.nt:=rfl;refine⟨λu Z a b o=>?_,λa b J u Z=>?_,λa b J=>?_,h.d⟩
  .have e:u≠t:=λe=>by
    subst e;rw[dk]at o
    cases o
   rw[dU _ _ e]at o;let⟨k1,k2,k3⟩:=h.a u ((eB hn).1 Z) a b o;refine⟨(gJ hn).2 k1,?_,k3⟩;show u∈(s.fI x y<|(s.q x y).erase t).q a b;grind[gM,gf]
  .have G:u∈(s.fI x y<|(s.q x y).erase t).q a b:=Z;have H:=(gJ hn).1 J;by_cases i:a=x/\b=y
   .obtain⟨rfl,rfl⟩:=i;rw[gM]at G;have Y:=(h.c a b hl).mem_erase_iff.1 G;rw[dU _ _ Y.1];exact h.b a b H u Y.2
   rw[gf _ _ i]at G;have hb:=h.b a b H u G;have e:u≠t:=λe=>by
    grind
   rw[dU _ _ e];exact hb
  show((s.fI x y<|(s.q x y).erase t).q a b).Nodup;grind[gJ,gM,gf,F.LW.c]
def Pl.pa(s:Pl)(x y t:Nat)(l:List Nat):Pl:=(s.fI x y l).dy t<|(s.T t).to x y
def Pl.into(s:Pl)(x y t:Nat)(l:List Nat):Pl:=(s.dA t).pa x y t l
def AS(s:Pl)(x y t:Nat):s.dX x y t=s.into x y t ((s.dA t).q x y++[t]):=rfl
theorem LW.pa{s:Pl}(h:LW s){x y t:Nat}{l:List Nat}(ht:ft s t)(hw:(s.T t).wh=none)(hl:fQ s x y)(a1:¬(x=5/\y=t))(hd:l.Nodup)(hm:∀u,u∈l↔(u∈s.q x y\/u=t)):LW (s.pa x y t l):=by
 have hn:(s.pa x y t l).nt=s.nt:=rfl;have hq:∀a b,¬(a=x/\b=y)->(s.pa x y t l).q a b=s.q a b:=λa b e=>gf s l e;have o:(s.pa x y t l).q x y=l:=gM s x y l;have a0:(s.pa x y t l).T t=(s.T t).to x y:=dk _ _ _;have hT:∀u,u≠t->(s.pa x y t l).T u=s.T u:=λu e=>dU _ _ e;refine⟨λu Y a b i=>?_,λa b W u Y=>?_,λa b W=>?_,h.d⟩
 .by_cases e:u=t
  .subst e;rw[a0]at i;injection i with i;grind[gJ]
  rw[hT u e]at i;let⟨k1,k2,k3⟩:=h.a u ((eB hn).1 Y) a b i;grind[gJ]
 .have G:=(gJ hn).1 W;by_cases H:a=x/\b=y
  .obtain⟨rfl,rfl⟩:=H;rw[o]at Y;rcases(hm u).1 Y with h1|rfl
   .have Z:=h.b a b G u h1;have e:u≠t:=λe=>by
     grind
    rw[hT u e];exact Z
   refine⟨ht,?_⟩;rw[a0];rfl
  rw[hq a b H]at Y;have Z:=h.b a b G u Y;have e:u≠t:=λe=>by
   grind
  rw[hT u e];exact Z
 grind[gJ,F.LW.c]
def LW.into(h:LW s)(ht:ft s t)(G:fQ s x y)(e:¬(x=5/\y=t))(i:l.Nodup)(o:∀u,u∈l↔(u∈(s.dA t).q x y\/u=t)):LW (s.into x y t l):=
 (h.dA ht).pa ((eB<|gl s t).2 ht) (kD s t) ((gJ<|gl s t).2 G) e i o
def LW.out(h:LW s)(i:fQ s x y)(hw:(s.T t).wh≠some (x,y)):t∉s.q x y:=λe=>hw (h.b x y i t e).2
theorem qT(h:l.Nodup)(ht:t∉l):(l++[t]).Nodup:=by
 grind
theorem LW.dX(h:LW s)(ht:ft s t)(H:fQ s x y)(o:¬(x=5/\y=t)):LW (s.dX x y t):=by
 have G:=h.dA ht;have i:=(gJ<|gl s t).2 H;exact h.into ht H o (qT (G.c x y i)<|G.out i<|by grind[kD])<|λu=>by simp
theorem iO(s:Pl)(x y t:Nat):(s.dX x y t).nt=s.nt:=gl s t
theorem nM(s:Pl)(h:u≠t):(s.dX x y t).T u=s.T u:=by
 rw[AS];exact(dU _ _ h).trans<|uW s h
def zH(s:Pl)(x y t u:Nat):((s.dX x y t).T u).fr=(s.T u).fr:=by
 by_cases e:u=t
 .subst e;show(((((s.dA u).fI x y _).dy u _).T u).fr)=_;rw[dk];exact kE s u u
 rw[nM s e]
def kr(s:Pl)(x y t:Nat):(s.dX x y t).T t=((s.dA t).T t).to x y:=dk _ _ _
theorem zG(s:Pl)(x y t:Nat):((s.dX x y t).T t).wh=some (x,y):=by rw[kr];rfl
theorem gK(h:(s'.T t).fr=(s.T t).fr):du s' t i=du s t i:=by grind[du]
def WW(p:dH)(s:Pl):Prop:=∀t,ft s t->∀x y,(s.T t).wh=some (x,y)->(x=4\/x=5)->∃k,(s.T t).lf=some k/\(s.T t).fr≠[]/\k.2.1<p.rg (du s t<|(s.T t).fr.length-1).f
def de(s:Pl)(t:Nat):Nat:=(s.T t).fr.length-1
def Pl.gk(s:Pl)(t:Nat)(v:B.V):Pl:=match (s.T t).lf with
 |none=>s
 |some k=>(s.dM t (de s t)<|(du s t<|de s t).set k.2.1 v).dX 2 0 t
theorem qO(s:Pl)(f:jq)(h:u≠t):(s.dM t i f).T u=s.T u:=dU _ _ h
theorem gO(s:Pl)(t i u:Nat)(f:jq):((s.dM t i f).T u).wh=(s.T u).wh/\((s.dM t i f).T u).lf=(s.T u).lf/\((s.dM t i f).T u).run=(s.T u).run/\((s.dM t i f).T u).iT=(s.T u).iT/\((s.dM t i f).T u).fr.length=(s.T u).fr.length:=by
 grind[Pl.dM,dk,List.length_set,qO]
theorem LW.dM(h:LW s)(t i:Nat)(f:jq):LW (s.dM t i f):=h.same rfl rfl (λu=>(gO s t i u f).1)
theorem Ap(s:Pl)(v:B.V)(h:u≠t):(s.gk t v).T u=s.T u:=by
 grind[Pl.gk,nM,qO]
def oK(s:Pl)(t:Nat)(v:B.V):(s.gk t v).nt=s.nt:=by
 unfold Pl.gk;split
 .rfl
 rw[iO];rfl
theorem qd(v:B.V)(h:(s.T t).lf=some k):s.gk t v=(s.dM t (de s t)<|(du s t<|de s t).set k.2.1 v).dX 2 0 t:=by grind[Pl.gk]
theorem LW.gk{s:Pl}(h:LW s){t:Nat}(ht:ft s t)(v:B.V):LW (s.gk t v):=by
 unfold Pl.gk;split
 .exact h
 exact(h.dM t _ _).dX ht (ag ⟨rfl,rfl⟩) af
theorem WW.gk{p:dH}{s:Pl}(h:WW p s){t:Nat}(v:B.V)(H:(s.T t).lf≠none):WW p (s.gk t v):=by
 intro u G x y i o;by_cases e:u=t
 .grind[Pl.gk,zG]
 rw[Ap s v e]at i⊢;have:=h u ((eB<|oK s t v).1 G) x y i o;grind[gK,Ap]
theorem Ji(v:B.V)(h:dZ p s g w)(hW:LW s)(ht:ft s t)(H:(s.T t).lf=some k)(o:(s.T t).fr≠[])(Y:k.2.1<p.rg (du s t<|de s t).f)(u:(s.T t).wh≠some (2,0)):eN 207 #[vA v,P0<|g.sx t] w λw'=>∃r,Tr p s g w (s.gk t v) (g.at 2 0 r) w':=by
 have W:(s.T t).fr.length≠0:=λe=>o<|dh.1 e;have hi:de s t<(s.T t).fr.length:=by unfold de;omega
 refine L9 k.1 k.2.1 k.2.2.1 k.2.2.2 (g.fb t<|de s t) (g.tb t) p.eb (g.sx t) _ _ _ _ _ _ (du s t<|de s t).R v (λw2=>∃r,Tr p s g w (s.gk t v) (g.at 2 0 r) w2) w (h.sx ht H) (h.fr ht hi) (h.rg ht hi) Y h.E.lt ?_;intro w1 i G;have J:Tr p s g w (s.dM t (de s t)<|(du s t<|de s t).set k.2.1 v) g w1:=
  h.OG ht hi (da i (h.fr ht hi)<|by grind[F6]) G (jL i<|ak rfl)
 refine dq (wS (x:=2) (y:=0) J.r (hW.dM _ _ _) (ag ⟨rfl,rfl⟩) ht af<|by grind[gO]) ?_;grind[qd,F.Tr.trans]
def Bd(s:Pl)(g:eM)(r:Option Addr×Nat)(h:¬(x=5/\y=t))(i:x≠12):gH p s (g.at x y r) t=gH p s g t:=by
 funext j
 unfold gH sl;rw[ma g r (a:=12) (b:=t)<|λe=>i e.1.symm,ma g r (a:=5) (b:=t)<|λe=>h ⟨e.1.symm,e.2.symm⟩];rfl
def Pl.wait(s:Pl)(x y t:Nat)(k:Nat×Nat×Nat×Nat):Pl:=(s.dX x y t).dy t<|((s.dX x y t).T t).kR k
theorem Jj(k:Nat×Nat×Nat×Nat)(h:dZ p s g w)(hW:LW s)(ht:ft s t)(Z:fQ s x y)(o:¬(x=5/\y=t))(a0:(s.T t).wh=none):eN 171 #[ee k.1 k.2.1 k.2.2.1 k.2.2.2 (g.fb t<|de s t) (g.tb t) p.eb,Pt (qp p g x y)<|sk x y] w λw'=>∃g',Tr p s g w (s.wait x y t k) g' w':=by
 refine(Mc k.1 k.2.1 k.2.2.1 k.2.2.2 (g.fb t<|de s t) (g.tb t) p.eb (qp p g x y) (sk x y) (gH p (s.dX x y t) g t) (λw2=>∃r,Tr p s g w (s.dX x y t) (g.at x y r) w2/\¬eJ p (s.dX x y t) (g.at x y r) (fp w)) w ?_).mono ?_
 .intro w1 i Y;refine dq (wS (h.kept i) hW Z ht o ey) ?_;rintro w2 ⟨r,G⟩;have H:=G.r.tk (t:=t)<|(eB<|iO s x y t).2 ht;rw[Bd _ _ r o (by have:=oS Z;omega)]at H;have ho:=G.other Y (λhm=>by have:=h.lt hm;omega);exact⟨rfl,H,ho.1,r,G.ahead i,ho.2⟩
 rintro e w' ⟨rfl,w2,⟨r,G,W⟩,H,hb,rfl⟩;refine⟨rfl,(g.at x y r).left t (fp w),G.left (b:=w.heap.size) (k4:=k) ((eB<|iO s x y t).2 ht) ?_ ?_ W (bm _)<|bq (S:=λk=>k=g.tb t) (dx _ _) (ag rfl) _⟩
 .rw[Bd _ _ r o (by have:=oS Z;omega)];exact H.eE 4 _
 have u:((s.dX x y t).T t).fr.length=(s.T t).fr.length:=by rw[zH]
 rw[u,ab _ _ _ _ (by
  show w.heap.size≠g.tb t;have:=(h.tk ht).lt;omega)]
 exact hb
def qY.stop(v:qY):qY:={v with run:=false}
def Pl.ep(s:Pl)(v:B.V):List Nat->Pl
 | []=>s
 |t :: l=>(s.gk t v).ep v l
def Pl.gone(s:Pl)(t:Nat)(v:B.V)(kind:Nat)(x:Int):Pl:=(({(s.dA t).dy t ((s.dA t).T t).stop with lv:=s.lv.erase t}:Pl).nE (t-1) v).told kind t x
def Pl.leave(s:Pl)(t:Nat)(v:B.V)(kind:Nat)(x:Int):Pl:=(s.gone t v kind x).ep v<|s.q 5 t
theorem tF(v:B.V):∀(l m:List Nat) (s:Pl),s.ep v (l++m)=(s.ep v l).ep v m
 | [],_,_=>rfl
 |_ :: l,m,_=>tF v l m _
theorem gI(s:Pl)(t:Nat):(s.dA t).lv=s.lv/\(s.dA t).out=s.out/\(s.dA t).kp=s.kp/\(s.dA t).ev=s.ev/\(s.dA t).fA=s.fA/\(s.dA t).sp=s.sp/\(s.dA t).clk=s.clk/\(s.dA t).kd=s.kd/\(s.dA t).M=s.M/\(s.dA t).ck=s.ck:=by
 unfold Pl.dA;split<;>exact⟨rfl,rfl,rfl,rfl,rfl,rfl,rfl,rfl,rfl,rfl⟩
theorem nW(s:Pl)(v:B.V)(kind:Nat)(x:Int)(h:u≠t):(s.gone t v kind x).T u=s.T u:=by
 show((s.dA t).dy t _).T u=_;grind[dU,uW]
def jU(s:Pl)(t:Nat)(v:B.V)(kind:Nat)(x:Int):(s.gone t v kind x).nt=s.nt:=gl s t
theorem qv(s:Pl)(t:Nat)(v:B.V)(kind:Nat)(x:Int)(u:Nat):((s.gone t v kind x).T u).wh=((s.dA t).T u).wh:=by
 show(((s.dA t).dy t _).T u).wh=_;by_cases e:u=t
 .subst e;rw[dk];rfl
 grind[dU]
def LW.gone(h:LW s)(ht:ft s t)(v:B.V)(kind:Nat)(x:Int):LW (s.gone t v kind x):=(h.dA ht).same rfl rfl (λu=>qv s t v kind x u)
def AX(h:LW s)(ht:ft s t)(v:B.V)(kind:Nat)(x:Int):(s.gone t v kind x).q 5 t=s.q 5 t:=by
 show(s.dA t).q 5 t=_;exact sZ s<|λe=>(h.a t ht 5 t e).2.2 ⟨rfl,rfl⟩
theorem WW.gone(h:WW p s)(v:B.V)(kind:Nat)(x:Int):WW p (s.gone t v kind x):=by
 intro u y a b i o;by_cases e:u=t
 .grind[qv,kD]
 rw[nW s v kind x e]at i⊢;have:=h u ((eB<|jU s t v kind x).1 y) a b i o;grind[gK,nW]
theorem JQ(hw:(s.T t).wh=some (x,y))(v:B.V)(o:(s.T t).lf≠none)(i:¬(x=2/\y=0)):(s.gk t v).q x y=(s.q x y).erase t:=by
 cases hk:(s.T t).lf with
 |none=>grind
 |some k=>
  rw[qd v hk];show(((s.dM t (de s t)<|(du s t<|de s t).set k.2.1 v).dA t).fI 2 0 _).q x y=_;rw[gf _ _<|λe=>i e,gP (x:=x) (y:=y)<|by grind[gO]];exact gM _ _ _ _
theorem mO{f:Nat->Nat}:∀(l:List Nat),l.Nodup->(∀a,a∈l->∀b,b∈l->f a=f b->a=b)->(l.map f).Nodup
 | [],_,_=>List.nodup_nil
 | a :: l,hd,h=>by
  rw[List.map_cons,List.nodup_cons];rw[List.nodup_cons]at hd;refine⟨λu=>?_,mO l hd.2<|λa o b i=>h a (by simp[o]) b<|by simp[i]⟩;grind
theorem AN(v:B.V)(kind:Nat)(x:Int)(h:dZ p s g w)(hW:LW s)(bD:WW p s)(ht:ft s t)(aH:t∈s.lv)(bB:s.lv.Nodup)(aE:∀u,u∈s.lv->ft s u)(ho:s.out.length=s.nt)(hk:s.kp.length<=1000000)(bG:s.ev.length<=100000):eN 175 #[P0 p.eb,P0<|g.tb t,vA v,ah kind,ah x] w λw'=>∃g',Tr p s g w (s.leave t v kind x) g' w':=by
 have hd:=hW.d;have bN:s.lv.length<=500000000:=dQ (gR s.nt s.lv bB aE) hd;have b4:∀{w1:aa} {s1:Pl} {g1:eM} {w2:aa},iY w w1->Aj w1 w.heap.size (g.tb t) v->Tr p s g w1 s1 g1 w2->Aj w2 w.heap.size (g.tb t) v/\¬eJ p s1 g1 w.heap.size/\¬eJ p s1 g1 (w.heap.size+1):=λhg hL h2=>by
  have a:=h2.other hL.1 (λhm=>by have:=h.lt hm;omega);have b:=h2.other hL.2 (λhm=>by have:=h.lt hm;omega);exact⟨⟨a.1,b.1⟩,a.2,b.2⟩
 have hS:∀{s1 s2:Pl} {g1 g2:eM} {w1 w2:aa},(Aj w1 (fp w) (g.tb t) v/\¬eJ p s1 g1 (fp w)/\¬eJ p s1 g1 (w.heap.size+1))->Tr p s1 g1 w1 s2 g2 w2->(Aj w2 (fp w) (g.tb t) v/\¬eJ p s2 g2 (fp w)/\¬eJ p s2 g2 (w.heap.size+1)):=λi h2=>by
  have a:=h2.other i.1.1 i.2.1;have b:=h2.other i.1.2 i.2.2;exact⟨⟨a.1,b.1⟩,a.2,b.2⟩
 let s1:=s.dA t
 let s1':=s1.dy t (s1.T t).stop
 let s2:Pl:={s1' with lv:=s.lv.erase t}
 let s3:=s2.nE (t-1) v
 have hn1:s1.nt=s.nt:=gl s t;have aU:=(eB hn1).2 ht;have b8:s3.nt=s.nt:=hn1;have a8:s1.lv=s.lv:=(gI s t).1
 obtain⟨G,cl,a6⟩:∃G cl,g.ro 6 0=(some<|az G 0,cl):=by
  let⟨G,cl,he⟩:=ef (h.row (x:=6) (y:=0) (by grind[fi])<|ji af) (by show s.lv.length≠0;grind);grind[sl,Prod.ext]
 let S1:aa->Prop:=λw1=>Tr p s g w s1 g w1/\(Aj w1 (fp w) (g.tb t) v/\¬eJ p s1 g (fp w)/\¬eJ p s1 g (w.heap.size+1))
 let S2:Value->aa->Prop:=λlv w2=>lv=dD G (s.lv.length-1) cl/\∃w1,Tr p s g w s1' g w1/\(Aj w1 (fp w) (g.tb t) v/\¬eJ p s1' g (fp w)/\¬eJ p s1' g (w.heap.size+1))/\w1.grownBy w2 (some G)/\w2.ownsRow 0 155 1 (dD G (s.lv.length-1) cl) (s.lv.length-1) (((s.lv.erase t).map g.tb).map P0)
 let S3:aa->Prop:=λw3=>∃g3,Tr p s g w s3 g3 w3/\g3.tb=g.tb/\g3.sx=g.sx/\(Aj w3 (fp w) (g.tb t) v/\¬eJ p s3 g3 (fp w)/\¬eJ p s3 g3 (w.heap.size+1))
 have flag:∀w1,S1 w1->Tr p s g w s1' g (w1.setCell (az (g.tb t) 2)<|.bool false)/\(Aj (w1.setCell (az (g.tb t) 2)<|.bool false) (fp w) (g.tb t) v/\¬eJ p s1' g (fp w)/\¬eJ p s1' g (w.heap.size+1)):=by
  rintro w1 ⟨Z,aO⟩;have h2:Tr p s1 g w1 s1' g (iA w1 (g.tb t) 2<|.bool false):=by
   refine Z.r.flag aU rfl rfl ?_ (bq (S:=λk=>k=g.tb t) (dx _ _) (ag rfl) _);refine((Z.r.tk aU).eE 2<|.bool false).congr (λj hj=>?_);have aC:(s1.dy t (s1.T t).stop).T t=(s1.T t).stop:=dk _ _ _;have hc:=pS 6 j af
   have bE:sl (s1.dy t (s1.T t).stop) g 12 t=sl s1 g 12 t:=by unfold sl;rw[kC,kC,aC];rfl
   repeat' rcases hc with rfl|hc
   .rfl
   .exact bE.symm
   .show Value.bool false=Value.bool ((s1.dy t (s1.T t).stop).T t).run;rw[aC];rfl
   .show xp p g (s1.T t).wh=xp p g ((s1.dy t (s1.T t).stop).T t).wh;rw[aC];rfl
   .show zD g t (s1.T t).lf=zD g t ((s1.dy t (s1.T t).stop).T t).lf;rw[aC];rfl
   .show Value.int .i64 (s1.T t).iT=Value.int .i64 ((s1.dy t (s1.T t).stop).T t).iT;rw[aC];rfl
   rfl
  exact⟨Z.trans h2,hS aO h2⟩
 have aK:∀lv w2,S2 lv w2->Tr p s g w s2 (g.at 6 0 (some<|az G 0,cl)) (iA w2 p.eb 29 lv)/\(Aj (iA w2 p.eb 29 lv) (fp w) (g.tb t) v/\¬eJ p s2 (g.at 6 0 (some<|az G 0,cl)) (fp w)/\¬eJ p s2 (g.at 6 0 (some<|az G 0,cl)) (w.heap.size+1)):=by
  rintro lv w2 ⟨rfl,w1,Z,aO,aP,bC⟩;have b6:=eU bC (Z.r.E.block (aP.block _ Z.r.E.lt (λe=>by
   injection e with e;have a7:=Z.r.row (x:=6) (y:=0) (by unfold fi;omega)<|ji af;unfold sl at a7;rw[a6]at a7;exact eU a7 Z.r.E eo G rfl e.symm))) eo G rfl
  have b9:eS s2 6 0=s.lv.length-1:=List.length_erase_of_mem aH;have h2:Tr p s1' g w1 s2 (g.at 6 0 (some<|az G 0,cl)) (iA w2 p.eb 29<|dD G (s.lv.length-1) cl):=by
   refine Z.r.vE (j0:=29) af (ji af) eo rfl rfl rfl rfl rfl rfl rfl (λa b c d e=>?_) ?_ ?_ ?_ (λk hk=>ag<|eZ a6 hk)
   .have ea:a≠6:=af
    exact⟨by unfold eS;simp only[av ea];rfl,by unfold gC;simp only[av ea];rfl⟩
   .rw[b9];exact(Z.r.E.block<|aP.block _ Z.r.E.lt (λe=>by injection e with e;exact b6 e.symm)).eE 29 _
   .rw[b9];exact dS bC (λk hk=>ab _ _ _ _ (by
     have e:G=k:=by injection hk
     rw[<-e];exact b6))
   refine bq (jL aP<|ak<|kh a6) (ag<|ag rfl) _
  exact⟨Z.trans h2,hS aO h2⟩
 let s4:=s3.told kind t x
 have aW:LW s4:=hW.gone ht v kind x;have aX:WW p s4:=bD.gone v kind x;obtain⟨aS,b3⟩:∃aS:Nat->Nat,∀u,ft s u->aS (g.tb u)=g.sx u:=by
  classical
  refine⟨λb=>if i:∃u,ft s u/\g.tb u=b then g.sx i.choose else 0,λu hu=>?_⟩;have i:∃u',ft s u'/\g.tb u'=g.tb u:=⟨u,hu,rfl⟩;show(if i:∃u',ft s u'/\g.tb u'=g.tb u then g.sx i.choose else 0)=g.sx u;rw[dif_pos i,h.mT i.choose_spec.1 hu i.choose_spec.2]
 let I:List Nat->aa->Prop:=λbs w4=>∃H ys g4,bs=ys.map g.tb/\s.q 5 t=H++ys/\Tr p s g w (s4.ep v H) g4 w4/\g4.tb=g.tb/\g4.sx=g.sx/\LW (s4.ep v H)/\WW p (s4.ep v H)/\(s4.ep v H).q 5 t=ys/\(s4.ep v H).nt=s.nt/\(Aj w4 (fp w) (g.tb t) v/\¬eJ p (s4.ep v H) g4 (fp w)/\¬eJ p (s4.ep v H) g4 (w.heap.size+1))
 have aG:∀{s':Pl},s'.nt=s.nt->fQ s' 5 t:=λe=>ak<|ak<|ak ⟨rfl,(eB e).2 ht⟩;refine(KM p.eb (g.tb t) kind t s.lv.length cl x v (some<|az G 0) S1 S3 S2 I aS ((s.q 5 t).map g.tb) w ?_ ?_ ?_ ?_ ?_ ?_ ?_ ?_ ?_).mono ?_
 .intro w1 hg hL;refine dq (rq (h.kept hg) hW ht) λw2 h2=>?_;exact⟨rfl,h2.ahead hg,b4 hg hL h2⟩
 .intro w1 Z;have hf:=flag w1 Z;refine⟨Z.2.1,⟨_,Z.1.r.tk aU⟩,?_,Z.1.r.E.lt⟩;rw[hf.1.r.E.cell 29 af];show some (sl s1' g 6 0)=_;unfold sl;rw[a6];show some (Value.slice _ s1.lv.length _)=_;rw[a8]
 .intro w1 Z;let⟨a5,Y⟩:=flag w1 Z;generalize w1.setCell (az (g.tb t) 2) (.bool false)=W at*;have hr:=a5.r.row (x:=6) (y:=0) (by unfold fi;omega)<|ji af;have bF:W.ownsRow 0 155 1 (dD G s.lv.length cl) s.lv.length ((s.lv.map g.tb).map P0):=by
   have e1:sl s1' g 6 0=dD G s.lv.length cl:=by unfold sl;rw[a6];show Value.slice _ s1.lv.length _=_;rw[a8]
   have e2:eS s1' 6 0=s.lv.length:=(by show s1.lv.length=_;rw[a8]);have e3:gC s1' g 6 0=(s.lv.map g.tb).map P0:=by show(s1.lv.map g.tb).map P0=_;rw[a8]
   rw[e1,e2,e3]at hr;exact hr
  have aJ:s1'.nt=s.nt:=hn1;refine(MC G cl s.lv.length (g.tb t) (fp w) (s.lv.map g.tb) W bF af (mO _ bB<|λa ha b i e=>h.mT (aE a ha) (aE b i) e) ?_ (ch Y.1.1) (λe=>Y.2.1 ⟨6,0,0,?_⟩) (a5.r.tk<|(eB aJ).2 ht).Ac (λz hz=>?_)<|List.mem_map_of_mem aH).mono ?_
  .have:=Y.1.1;simp[World.cell?,this]
  .rw[gW p g (by unfold fi;omega)<|ji af,a6,e];rfl
  .obtain⟨u,hu,rfl⟩:=eX.1 hz;exact(a5.r.tk<|(eB aJ).2<|aE u hu).Ac
  rintro e w2 ⟨rfl,k1,k2⟩;rw[tm _<|λb i e=>h.mT (aE b i) ht e]at k1;exact⟨_,_,_,rfl,rfl,W,a5,Y,k2,k1⟩
 .intro lv w2 h2;let⟨a5,Y⟩:=aK lv w2 h2;obtain⟨_,w1,k1,_,k3,_⟩:=h2;have hT:=a5.r.tk (t:=t)<|(eB (s:=s) hn1).2 ht;refine⟨Y.1,⟨iQ p s1' g,k1.r.E.block<|k3.block _ k1.r.E.lt<|λe=>?_⟩,hT.cell 0 af,?_⟩
  .injection e with e;have a7:=k1.r.row (x:=6) (y:=0) (by unfold fi;omega)<|ji af;unfold sl at a7;rw[a6]at a7;exact eU a7 k1.r.E eo G rfl e.symm
  have bA:g.tb t<(iA w2 p.eb 29 lv).heap.size:=hT.lt;simpa[World.setCell] using bA
 .intro lv w2 w3 h2 aL;let⟨a5,Y⟩:=aK lv w2 h2;have h3:=a5.kept aL;have aN:Aj w3 (fp w) (g.tb t) v/\¬eJ p s2 (g.at 6 0 (some<|az G 0,cl)) (fp w)/\¬eJ p s2 (g.at 6 0 (some<|az G 0,cl)) (w.heap.size+1):=
   ⟨⟨da aL Y.1.1 je,da aL Y.1.2 je⟩,Y.2⟩
  have b1:s2.out.length=s.nt:=by show s1.out.length=_;rw[(gI s t).2.1,ho]
  have bM:s2.kp.length=s.kp.length:=by show s1.kp.length=_;rw[(gI s t).2.2.1]
  have bK:(t:Int)=((t-1:Nat):Int)+1:=gD ht.1
  rw[bK];refine dq (MR (j:=t-1) v h3.r (by rw[b1];have:=ht.2;omega) (lD b1)<|eZ bM hk) ?_;rintro w4 ⟨r,h4⟩;exact⟨rfl,_,h3.trans h4,rfl,rfl,hS aN h4⟩
 .rintro w3 ⟨g3,_,_,_,i⟩;exact i.1
 .rintro w3 ⟨g3,h3,a1,b0,aN⟩;have b2:s3.ev.length<=100000:=by show s1.ev.length<=_;rw[(gI s t).2.2.2.1];exact bG
  have o:=Ek (t:=t) kind x h3.r ((eB b8).2 ht) b2;rw[a1]at o;refine dq o ?_;rintro w4 ⟨r,h4⟩;exact⟨rfl,[],s.q 5 t,g3.at 9 0 r,rfl,rfl,h3.trans h4,a1,b0,aW,aX,AX hW ht v kind x,b8,hS aN h4⟩
 .rintro bs w4 ⟨H,ys,g4,rfl,a9,a0,a1,a4,aA,a2,hq,J,i⟩;have b7:=(eB J).2 ht;have aM:=a0.r.tk b7;rw[a1]at aM;have hr:=a0.r.row (x:=5) (y:=t) (by unfold fi;omega)<|iM af b7;have aY:eS (s4.ep v H) 5 t=ys.length:=by rw[ow _<|aG J,hq]
  have bJ:gC (s4.ep v H) g4 5 t=(ys.map g.tb).map P0:=by rw[pL _ _<|aG J,hq,a1]
  have aQ:w4.cell? (az (g.tb t) 6)=some (sl (s4.ep v H) g4 5 t):=aM.cell 6 af;refine⟨i.1,aM.lt,λw5 hg=>⟨H,ys,g4,rfl,a9,a0.kept hg,a1,a4,aA,a2,hq,J,⟨da hg i.1.1 je,da hg i.1.2 je⟩,i.2⟩,λe=>?_,λy r e=>?_⟩
  .have hy:=List.map_eq_nil_iff.1 e;refine⟨(g4.ro 5 t).1,(g4.ro 5 t).2,?_⟩;rw[aQ];unfold sl;rw[aY,hy];rfl
  cases ys with
  |nil=>cases e
  |cons u us=>
   rw[List.map_cons]at e;injection e with e1 e2;subst e1 e2;have aB:u∈(s4.ep v H).q 5 t:=by rw[hq];simp
   let⟨a3,aF⟩:=aA.b 5 t (aG J) u aB;let⟨k,aD,aV,aZ⟩:=a2 u a3 5 t aF<|ak rfl;have hu:=(eB J).1 a3;rw[aY,bJ]at hr;let⟨qb,qc,he⟩:=ef hr eG;have aT:=a0.r.tk a3;rw[a1]at aT;rw[he]at hr aQ;refine⟨qb,qc,?_,?_,?_,aT.lt⟩
   .rw[eD];exact aQ
   .exact(ik hr).2.2.2.2.2 0 _ rfl
   rw[aT.cell 4 af];show some (zD g4 u ((s4.ep v H).T u).lf)=_;rw[aD,b3 u hu,<-a4];rfl
 .rintro y r w4 ⟨H,ys,g4,he,a9,a0,a1,a4,aA,a2,hq,J,i⟩
  cases ys with
  |nil=>cases he
  |cons u us=>
   rw[List.map_cons]at he;injection he with e1 e2;subst e1 e2;have aB:u∈(s4.ep v H).q 5 t:=by rw[hq];simp
   let⟨a3,aF⟩:=aA.b 5 t (aG J) u aB;let⟨k,aD,aV,aZ⟩:=a2 u a3 5 t aF<|ak rfl;have hu:=(eB J).1 a3;have o:=Ji v a0.r aA a3 aD aV aZ (by rw[aF];intro e;injection e with e;injection e with e _;omega);rw[a4]at o;rw[b3 u hu];refine dq o ?_;rintro w5 ⟨r,h5⟩;have hw:s4.ep v (H++[u])=(s4.ep v H).gk u v:=tF v H [u] s4;refine⟨rfl,H++[u],us,g4.at 2 0 r,rfl,by rw[a9,fU];rfl,by rw[hw];exact a0.trans h5,a1,a4,by rw[hw];exact aA.gk a3 v,by rw[hw];exact a2.gk v (by rw[aD];intro e;cases e),?_,by rw[hw,oK];exact J,by rw[hw];exact hS i h5⟩;rw[hw,JQ aF v (by rw[aD];intro e;cases e) af,hq];simp
 rintro e w' ⟨rfl,H,ys,g4,he,a9,a0,_⟩;have hy:=List.map_eq_nil_iff.1 he.symm;refine⟨rfl,g4,?_⟩;rw[hy,gY]at a9;unfold Pl.leave;rw[a9];exact a0
end F
namespace D
open F
abbrev vV:=Nat×Nat×Nat×Nat
structure Dp where
 n:Nat
 qn:Nat
 wk:Nat
 mt:Nat
 nf:Nat
 gb:Nat
 gc:Nat
 cb:Nat->Nat
 cc:Nat->Nat
 len:Nat->Nat
 rg:Nat->Nat
 ins:Nat->Nat->vV
structure Dt where
 fr:List jq
 how:Nat
 into:Int
 what:Nat
 me:Int
 jI:Nat
 out:B.V
structure Dc where
 all:Nat
 bg:Bool
 kR:Int
 sure:Nat
 kL:Nat
 eL:Int
 qH:Int
 fu:Bool
structure Dm where
 nt:Nat
 T:Nat->Dt
 q:List Nat
 fA:Nat->List Nat
 nc:Nat
 M:Nat->List B.V
 ck:Nat->Nat
 jI:Nat
 sp:Bool
 ev:List uz
 clk:Int
 G:Dc
structure Dg where
 mb:Nat
 ro:Nat->Nat->Option Addr×Nat
 rb:Nat->Nat->Nat
 sb:Nat->Nat
abbrev jz(x:Int):Value:=.int .i64 x
def sS(m:Dm)(x y:Nat):Nat:=if x=1 then m.nt else if x=2 then m.q.length else if x=3 then m.nc else if x=4 then m.ev.length else if x=5 then(m.T y).fr.length else(m.fA y).length
def js(m:Dm)(g:Dg)(x y:Nat):Value:=.slice (g.ro x y).1 (sS m x y) (g.ro x y).2
def mE(p:Dp)(m:Dm)(g:Dg)(j:Nat):Value:=
 if j=0 then .slice (some ⟨p.gb,0,none⟩) p.nf p.gc else if j=1 then jz p.n else if j=2 then jz p.qn else if j=3 then jz p.wk else if j=4 then jz p.mt else if j=5 then jz m.clk
 else if j=6 then js m g 1 0 else if j=7 then js m g 2 0 else if j<12 then js m g 10 (j-8) else if j=12 then js m g 3 0
 else if j=13 then jz m.jI else if j=14 then .bool m.sp else if j=15 then js m g 4 0 else if j=16 then jz m.G.all else if j=17 then .bool m.G.bg else if j=18 then jz m.G.kR else if j=19 then jz m.G.sure else if j=20 then jz m.G.kL else if j=21 then jz m.G.eL else if j=22 then jz m.G.qH else .bool m.G.fu
def tC(x:Dt)(fv:Value)(k:Nat):Value:=
 if k=0 then fv else if k=1 then jz x.how else if k=2 then jz x.into else if k=3 then jz x.what else if k=4 then jz x.me else if k=5 then jz x.jI else if k=6 then jz x.out.1 else jz x.out.2
def tE(m:Dm)(g:Dg)(j:Nat):Value:=tC (m.T<|j/8+1) (js m g 5<|j/8+1)<|j%8
def fX(m:Dm)(t i:Nat):jq:=(m.T t).fr.getD i oD
def fC(p:Dp)(f:jq)(rb:Nat)(k:Nat):Value:=
 if k=0 then jz f.f else if k=1 then .slice (some ⟨rb,0,none⟩) (p.rg f.f) (p.rg f.f) else if k=2 then jz f.nx else jz f.bk.2.1
def fE(p:Dp)(m:Dm)(g:Dg)(t j:Nat):Value:=fC p (fX m t<|j/4) (g.rb t<|j/4)<|j%4
def cE(m:Dm)(g:Dg)(j:Nat):Value:=
 if j%2=0 then .slice (some ⟨g.sb<|j/2+1,0,none⟩) (m.M<|j/2+1).length (m.M<|j/2+1).length else jz ((m.ck (j/2+1):Int)-1)
def nD(l:List B.V):Nat->B.V:=λi=>l.getD i (0,0)
def rowP(n:Nat)(P:Nat->Value):List Value:=(List.range n).map P
def ke(l:List Nat):List Value:=l.map<|λ(x:Nat)=>jz (x:Int)
def Ob.q(e:TypeId)(ad:Option Addr)(n c:Nat)(xs:List Value):Ob:=⟨λk=>fk ad=some k,λw=>gj w e (.slice ad n c) xs,λ_ _ h hk=>h.block<|λk e=>hk k (by rw[<-dJ ad n c];exact e),λ_ k h e=>h.lt k (by rw[dJ];exact e)⟩
def Na(p:Dp)(j:Nat):Value:=if j%2=0 then jz (p.rg<|j/2) else .slice (some ⟨p.cb<|j/2,0,none⟩) (p.len<|j/2) (p.cc<|j/2)
def GW(p:Dp)(f j:Nat):Value:=jz (if j%4=0 then(p.ins f<|j/4).1 else if j%4=1 then(p.ins f<|j/4).2.1 else if j%4=2 then(p.ins f<|j/4).2.2.1 else(p.ins f<|j/4).2.2.2:Nat)
def vd(p:Dp)(m:Dm)(x y z:Nat):Bool:=
 if x<=4\/x=8 then decide (y=0/\z=0) else if x=5 then decide (1<=y/\y<=m.nt/\z=0) else if x=6 then decide (1<=y/\y<=m.nt/\z<(m.T y).fr.length)
 else if x=7 then decide (1<=y/\y<=m.nc/\z=0) else if x=9 then decide (y<p.nf/\z=0) else decide (x=10/\y<4/\z=0)
def Pq(x:Nat):TypeId:=if x=1 then 167 else if x=3 then 233 else if x=4 then 48 else 163
def Pr(x:Nat):Nat:=if x=1 then 8 else if x=3 then 2 else if x=4 then 3 else 4
def rC(p:Dp)(m:Dm)(g:Dg)(x y:Nat):List Value:=if x=1 then rowP (m.nt*8) (tE m g) else if x=3 then rowP (m.nc*2) (cE m g) else if x=4 then nB m.ev else rowP ((m.T y).fr.length*4) (fE p m g y)
def qC(m:Dm)(x y:Nat):List Value:=if x=2 then ke m.q else iR (m.fA y)
def ok(p:Dp)(m:Dm)(g:Dg)(x y z:Nat):Ob:=
 if x=0 then .full g.mb 112 24 (mE p m g)
 else if x=6 then .full (g.rb y z) 115 (p.rg (fX m y z).f*2) (eR (fX m y z).R)
 else if x=7 then .full (g.sb y) 115 ((m.M y).length*2) (eR<|nD<|m.M y)
 else if x=8 then .row 89 2 (some ⟨p.gb,0,none⟩) p.nf p.gc (rowP (p.nf*2)<|Na p)
 else if x=9 then .row 90 4 (some ⟨p.cb y,0,none⟩) (p.len y) (p.cc y) (rowP (p.len y*4)<|GW p y)
 else if x=2\/x=10 then Ob.q (if x=2 then 3 else 5) (g.ro x y).1 (sS m x y) (g.ro x y).2 (qC m x y)
 else .row (Pq x) (Pr x) (g.ro x y).1 (sS m x y) (g.ro x y).2 (rC p m g x y)
def ob(p:Dp)(m:Dm)(g:Dg)(x y z:Nat):Ob:=if vd p m x y z=true then ok p m g x y z else .nil
structure dZ(p:Dp) (m:Dm) (g:Dg) (w:aa):Prop where
 o:∀x y z,(ob p m g x y z).ok w
 i:∀x y z x' y' z' k,(ob p m g x y z).bs k->(ob p m g x' y' z').bs k->x=x'/\y=y'/\z=z'
def eJ(p:Dp)(m:Dm)(g:Dg)(k:Nat):Prop:=∃x y z,(ob p m g x y z).bs k
structure Tr(p:Dp) (m:Dm) (g:Dg) (w:aa) (m':Dm) (g':Dg) (w':aa):Prop where
 r:dZ p m' g' w'
 o:dN (eJ p m g) w w'
 m:∀k,eJ p m' g' k->eJ p m g k\/w.heap.size<=k
 b:g'.mb=g.mb
variable {p:Dp}{m m' m'':Dm}{g g' g'':Dg}{w w' w'':aa}
theorem dZ.lt(h:dZ p m g w){k:Nat}(e:eJ p m g k):k<w.heap.size:=by
 obtain⟨x,y,z,e⟩:=e;exact(ob p m g x y z).lt w k (h.o x y z) e
def dZ.only(h:dZ p m g w){S:Nat->Prop}(u:dN S w w')(hS:∀k,eJ p m g k->¬S k):dZ p m g w':=
 ⟨λx y z=>(ob p m g x y z).fr w w' (h.o x y z)<|λk e=>u.same (h.lt ⟨x,y,z,e⟩)<|hS k ⟨x,y,z,e⟩,h.i⟩
def dZ.kept(h:dZ p m g w)(e:w.grownBy w' none):dZ p m g w':=h.only (S:=λ_=>False) (eA e)<|λ_ _ h=>h
theorem Tr.refl(h:dZ p m g w):Tr p m g w m g w:=⟨h,dx _ _,λ_ h=>ag h,rfl⟩
theorem Tr.trans(h:Tr p m g w m' g' w')(e:Tr p m' g' w' m'' g'' w''):Tr p m g w m'' g'' w'':=
 ⟨e.r,h.o.trans e.o<|λk i y=>(h.m k i).resolve_right af,λk i=>by
  rcases e.m k i with u|u
  .exact h.m k u
  have:=h.o.size;omega,e.b.trans h.b⟩
theorem Tr.kept(h:Tr p m g w m' g' w')(e:w'.grownBy w'' none):Tr p m g w m' g' w'':=⟨h.r.kept e,h.o.jj e,h.m,h.b⟩
theorem Tr.ahead{w0:aa}(e:w0.grownBy w none)(h:Tr p m g w m' g' w'):Tr p m g w0 m' g' w':=
 ⟨h.r,(eA e).trans h.o<|λ_ h _=>h,λk i=>(h.m k i).imp id (λh=>by have:=e.size;omega),h.b⟩
theorem Tr.to{m0:Dm}{Z:Dg}{w0:aa}(C:Nat->Nat->Nat->Prop)(own:Nat->Nat×Nat×Nat)(W:Tr p m0 Z w0 m g w)(hO:dN (λk=>∃x y z,C x y z/\(ob p m g x y z).bs k) w w')(h1:∀x y z,¬C x y z->ob p m' g' x y z=ob p m g x y z)(h2:∀x y z,C x y z->(ob p m' g' x y z).ok w')(h3:∀x y z k,C x y z->(ob p m' g' x y z).bs k->(ob p m g x y z).bs k\/(¬eJ p m g k/\w0.heap.size<=k/\own k=(x,y,z)))(J:g'.mb=g.mb:=by rfl):Tr p m0 Z w0 m' g' w':=by
 have h:=W.r;have u:=λx y z k e=>by
  by_cases G:C x y z
  .exact h3 x y z k G e
  rw[h1 x y z G]at e;exact ag e
 refine⟨⟨λx y z=>?_,λx y z x' y' z' k e H=>?_⟩,W.o.trans hO<|λk e hl=>?_,λk e=>?_,J.trans W.b⟩
 .by_cases G:C x y z
  .grind
  rw[h1 x y z G];refine(ob p m g x y z).fr w w' (h.o x y z)<|λk e=>hO.same (h.lt ⟨x,y,z,e⟩) ?_;grind[b,D.dZ.i]
 .rcases u _ _ _ k e with a|⟨a,_,b⟩
  .rcases u _ _ _ k H with c|⟨c,_⟩
   .grind[D.dZ.i]
   exact dr ⟨_,_,_,a⟩ c
  rcases u _ _ _ k H with c|⟨c,_,d⟩
  .exact dr ⟨_,_,_,c⟩ a
  grind
 .obtain⟨x,y,z,_,J⟩:=e;exact(W.m k ⟨x,y,z,J⟩).resolve_right af
 obtain⟨x,y,z,e⟩:=e;rcases u x y z k e with h|h
 .exact W.m k ⟨x,y,z,h⟩
 omega
theorem dZ.to(C:Nat->Nat->Nat->Prop)(own:Nat->Nat×Nat×Nat)(h:dZ p m g w)(W:dN (λk=>∃x y z,C x y z/\(ob p m g x y z).bs k) w w')(G:∀x y z,¬C x y z->ob p m' g' x y z=ob p m g x y z)(u:∀x y z,C x y z->(ob p m' g' x y z).ok w')(o:∀x y z k,C x y z->(ob p m' g' x y z).bs k->(ob p m g x y z).bs k\/(w.heap.size<=k/\own k=(x,y,z)))(i:g'.mb=g.mb:=by rfl):Tr p m g w m' g' w':=
 Tr.to C own (Tr.refl h) W G u (λx y z k H e=>(o x y z k H e).imp id<|λY=>⟨λJ=>by have:=h.lt J;omega,Y⟩) i
def GU(x:Nat):Prop:=x=1\/x=3\/x=4\/x=5
theorem ok_eq{x y z:Nat}(e0:x=0->g'.mb=g.mb/\mE p m' g'=mE p m g:=by intro e;exact⟨rfl,rfl⟩)(er:GU x->g'.ro x y=g.ro x y/\sS m' x y=sS m x y/\rC p m' g' x y=rC p m g x y:=by intro e;exact⟨rfl,rfl,rfl⟩)(eq:x=2\/x=10->g'.ro x y=g.ro x y/\sS m' x y=sS m x y/\qC m' x y=qC m x y:=by intro e;rcases e with rfl|rfl<;>exact⟨rfl,rfl,rfl⟩)(e6:x=6->g'.rb y z=g.rb y z/\(fX m' y z).f=(fX m y z).f/\(fX m' y z).R=(fX m y z).R:=by intro e;exact⟨rfl,rfl,rfl⟩)(e7:x=7->g'.sb y=g.sb y/\m'.M y=m.M y:=by intro e;exact⟨rfl,rfl⟩)(hx:x<=10):ok p m' g' x y z=ok p m g x y z:=by
 unfold ok;by_cases G:x=0
 .grind
 rw[av G,av G];by_cases o:x=6
 .grind
 rw[av o,av o];by_cases u:x=7
 .grind
 rw[av u,av u];by_cases J:x=8
 .grind
 rw[av J,av J];by_cases H:x=9
 .grind
 rw[av H,av H];by_cases i:x=2\/x=10
 .grind
 have W:GU x:=by unfold GU;omega
 grind
theorem iy{x y z:Nat}(h:vd p m x y z=true):ob p m g x y z=ok p m g x y z:=by unfold ob;grind
theorem BD{x y z:Nat}(h:¬vd p m x y z=true):ob p m g x y z=.nil:=by unfold ob;grind
theorem mB{x y z:Nat}(h:vd p m x y z=true):x<=10:=by
 unfold vd at h;grind
theorem lK{x y z:Nat}(i:vd p m' x y z=vd p m x y z)(e:vd p m x y z=true->ok p m' g' x y z=ok p m g x y z):ob p m' g' x y z=ob p m g x y z:=by
 unfold ob;grind
theorem Ea(o:m'.nt=m.nt)(i:∀t,(m'.T t).fr.length=(m.T t).fr.length)(e:m'.nc=m.nc)(x y z:Nat):vd p m' x y z=vd p m x y z:=by grind[vd]
theorem pn{x:Nat}(h:x<=4\/x=8):vd p m x 0 0=true:=by unfold vd;grind
theorem lI{x y z:Nat}(e:vd p m x y z=true)(h:x<=4\/x=8):y=0/\z=0:=by
 unfold vd at e;grind
theorem sK{t:Nat}(i:1<=t)(e:t<=m.nt):vd p m 5 t 0=true:=by unfold vd;grind
theorem wz{y z:Nat}(e:vd p m 5 y z=true):1<=y/\y<=m.nt/\z=0:=by
 unfold vd at e;grind
theorem Ar{t i:Nat}(u:1<=t)(e:t<=m.nt)(o:i<(m.T t).fr.length):vd p m 6 t i=true:=by unfold vd;grind
theorem yE{y z:Nat}(e:vd p m 6 y z=true):1<=y/\y<=m.nt/\z<(m.T y).fr.length:=by
 unfold vd at e;grind
theorem JV{c:Nat}(i:1<=c)(e:c<=m.nc):vd p m 7 c 0=true:=by unfold vd;grind
theorem Bb{y z:Nat}(e:vd p m 7 y z=true):1<=y/\y<=m.nc/\z=0:=by
 unfold vd at e;grind
theorem Md{f:Nat}(e:f<p.nf):vd p m 9 f 0=true:=by unfold vd;grind
theorem wD{k:Nat}(e:k<4):vd p m 10 k 0=true:=by unfold vd;grind
theorem JU{y z:Nat}(e:vd p m 10 y z=true):y<4/\z=0:=by
 unfold vd at e;grind
end D
namespace D
open F
variable {e:TypeId}{g sz:Nat}{w:aa}
theorem nH(n:Nat)(P:Nat->Value)(j:Nat):(rowP n P)[j]?=if j<n then some (P j) else none:=by
 unfold rowP;grind
theorem Bu{n:Nat}{P:Nat->Value}{xs:List Value}(i:xs.length=n)(h:∀j,j<n->xs[j]?=some (P j)):xs=rowP n P:=by
 apply List.ext_getElem?
 intro j;rw[nH];grind
def jK{n:Nat}{P Q:Nat->Value}(h:∀j,j<n->P j=Q j):rowP n P=rowP n Q:=List.map_congr_left<|λj e=>h j<|fY.1 e
theorem uL{n k:Nat}{P Q:Nat->Value}{ys:List Value}(h:∀j,j<n->Q j=P j)(o:ys.length=k)(i:∀j,j<k->ys[j]?=some (Q<|n+j)):rowP n P++ys=rowP (n+k) Q:=by
 have hn:(rowP n P).length=n:=by unfold rowP;simp
 refine Bu ey<|λj u=>?_;by_cases e:j<n
 .rw[fq af,nH,bf e,h j e]
 grind
theorem uV{i n c:Nat}{P:Nat->Value}(h:w.ownsRow i e sz (dD g n c) n (rowP (n*sz) P)):n<=c/\c<=maxLen/\Full w g e (c*sz) (n*sz) P:=by
 rcases h with⟨_,⟨h,_⟩|⟨g',c',o,G,_,Z,Y,W,J,H⟩⟩
 .cases h
 cases G;refine⟨Y,W,o,Z,J,λj u=>?_⟩;have y:=nH (n*sz) P j;grind
theorem oz{n c:Nat}{P:Nat->Value}(hn:n<=c)(u:c<=maxLen)(h:Full w g e (c*sz) (n*sz) P):w.ownsRow 0 e sz (dD g n c) n (rowP (n*sz) P):=by
 obtain⟨i,H,y,G⟩:=h;refine⟨by grind[rowP],ak ⟨g,c,i,rfl,di _,H,hn,u,y,?_⟩⟩;refine Bu ?_<|λj o=>?_
 .simp_all
 grind
def uT{n c:Nat}{ad:Option Addr}{P:Nat->Value}(h:w.ownsRow 0 e sz (.slice ad n c) n (rowP (n*sz) P))(hn:n≠0):∃b,ad=some (az b 0)/\n<=c/\c<=maxLen/\Full w b e (c*sz) (n*sz) P:=by
 let⟨b,o,e⟩:=ef h hn;injection e with i _ _;subst i;exact⟨b,rfl,uV h⟩
def Full.down{n m k:Nat}{T:TypeId}{P:Nat->Value}(h:Full w g T n m P)(y:k<=m):Full w g T n k P:=by
 obtain⟨e,u,o,i⟩:=h;exact⟨e,u,o,λj G=>i j af⟩
variable {p:Dp}{m m':Dm}{g g':Dg}{w w':aa}
theorem dZ.at'(h:dZ p m g w){x y z:Nat}(e:vd p m x y z=true):(ok p m g x y z).ok w:=by
 have:=h.o x y z;grind[iy]
abbrev nF(m:Dm)(t:Nat):Prop:=1<=t/\t<=m.nt
section
variable (h:dZ p m g w)
include h
theorem dZ.M:Full w g.mb 112 24 24 (mE p m g):=h.at' (x:=0) (y:=0) (z:=0) rfl
theorem dZ.Tw:w.ownsRow 0 167 8 (js m g 1 0) m.nt (rowP (m.nt*8)<|tE m g):=h.at' (x:=1) (y:=0) (z:=0) rfl
theorem dZ.T(hn:m.nt≠0):∃b,(g.ro 1 0).1=some (az b 0)/\m.nt<=(g.ro 1 0).2/\(g.ro 1 0).2<=maxLen/\Full w b 167 ((g.ro 1 0).2*8) (m.nt*8) (tE m g):=uT h.Tw hn
theorem dZ.Q:gj w 3 (js m g 2 0) (ke m.q):=h.at' (x:=2) (y:=0) (z:=0) rfl
theorem dZ.E:w.ownsRow 0 48 3 (js m g 4 0) m.ev.length (nB m.ev):=h.at' (x:=4) (y:=0) (z:=0) rfl
theorem dZ.Cw:w.ownsRow 0 233 2 (js m g 3 0) m.nc (rowP (m.nc*2)<|cE m g):=h.at' (x:=3) (y:=0) (z:=0) rfl
theorem dZ.C(hn:m.nc≠0):∃b,(g.ro 3 0).1=some (az b 0)/\m.nc<=(g.ro 3 0).2/\(g.ro 3 0).2<=maxLen/\Full w b 233 ((g.ro 3 0).2*2) (m.nc*2) (cE m g):=uT h.Cw hn
theorem dZ.Fw{t:Nat}(ht:nF m t):w.ownsRow 0 163 4 (js m g 5 t) (m.T t).fr.length (rowP ((m.T t).fr.length*4)<|fE p m g t):=h.at'<|sK ht.1 ht.2
theorem dZ.F{t:Nat}(ht:nF m t)(hn:(m.T t).fr.length≠0):∃b,(g.ro 5 t).1=some (az b 0)/\(m.T t).fr.length<=(g.ro 5 t).2/\(g.ro 5 t).2<=maxLen/\Full w b 163 ((g.ro 5 t).2*4) ((m.T t).fr.length*4) (fE p m g t):=uT (h.Fw ht) hn
theorem dZ.R{t i:Nat}(ht:nF m t)(hi:i<(m.T t).fr.length):Full w (g.rb t i) 115 (p.rg (fX m t i).f*2) (p.rg (fX m t i).f*2) (eR (fX m t i).R):=h.at'<|Ar ht.1 ht.2 hi
theorem dZ.S{c:Nat}(i:1<=c)(e:c<=m.nc):Full w (g.sb c) 115 ((m.M c).length*2) ((m.M c).length*2) (eR<|nD<|m.M c):=h.at'<|JV i e
theorem dZ.P:p.nf<=p.gc/\p.gc<=maxLen/\Full w p.gb 89 (p.gc*2) (p.nf*2) (Na p):=uV<|h.at' (x:=8) (y:=0) (z:=0) rfl
theorem dZ.K{f:Nat}(e:f<p.nf):p.len f<=p.cc f/\p.cc f<=maxLen/\Full w (p.cb f) 90 (p.cc f*4) (p.len f*4) (GW p f):=uV<|h.at'<|Md e
theorem dZ.B{k:Nat}(e:k<4):gj w 5 (js m g 10 k) (iR<|m.fA k):=h.at'<|wD e
theorem dZ.ne{x y z x' y' z' k G:Nat}(J:vd p m x y z=true)(o:vd p m x' y' z'=true)(H:(ok p m g x y z).bs k)(u:(ok p m g x' y' z').bs G)(hn:x≠x'\/y≠y'\/z≠z'):k≠G:=λe=>by
 subst e;let⟨Z,Y,W⟩:=h.i x y z x' y' z' k (by grind[iy]) (by grind[iy]);omega
theorem dZ.mc(j:Nat)(e:j<24){v:Value}(i:mE p m g j=v):w.cell? (az g.mb j)=some v/\w.frozen? (az g.mb j)=false:=by
 rw[<-i];exact h.M.cells j e
end
theorem rp(m:Dm)(g:Dg){t k j:Nat}(ht:1<=t)(e:k<8)(i:j=(t-1)*8+k):tE m g j=tC (m.T t) (js m g 5 t) k:=by
 grind[tE]
theorem vD(p:Dp)(m:Dm)(g:Dg)(t:Nat){i k:Nat}(e:k<4):fE p m g t (i*4+k)=fC p (fX m t i) (g.rb t i) k:=by
 grind[fE]
structure Tc(w:aa) (tb t:Nat) (x:Dt) (fv:Value):Prop where
 c:∀k,k<8->w.cell? ⟨tb,(t-1)*8+k,none⟩=some (tC x fv k)/\w.frozen? ⟨tb,(t-1)*8+k,none⟩=false
theorem dZ.tc(h:dZ p m g w){t:Nat}(ht:nF m t):∃tb,g.ro 1 0=(some<|az tb 0,(g.ro 1 0).2)/\Full w tb 167 ((g.ro 1 0).2*8) (m.nt*8) (tE m g)/\Tc w tb t (m.T t) (js m g 5 t):=by
 let⟨b,o,y,u,e⟩:=h.T af;refine⟨b,gh o rfl,e,⟨λk i=>?_⟩⟩;grind[rp,Full.cells]
end D
namespace D
open F
def Dm.dy(m:Dm)(t:Nat)(x:Dt):Dm:={m with T:=λu=>if u=t then x else m.T u}
def Dt.mR(x:Dt)(l:List jq):Dt:={x with fr:=l}
def Dm.dM(m:Dm)(t i:Nat)(f:jq):Dm:=m.dy t<|(m.T t).mR<|(m.T t).fr.set i f
def qE(m:Dm)(t:Nat):Nat:=(m.T t).fr.length-1
def qz(m:Dm)(t:Nat):jq:=fX m t<|qE m t
def Dm.told(m:Dm)(kind t:Nat)(x:Int):Dm:={m with ev:=m.ev++[(kind,t,x)]}
def Dm.fI(m:Dm)(l:List Nat):Dm:={m with q:=l}
def Dm.tv(m:Dm)(t:Nat):Dm:=m.fI<|m.q++[t]
def Dt.hw(x:Dt)(h:Nat):Dt:={x with how:=h}
def Dm.vZ(m:Dm)(t:Nat):Dm:=(m.dy t<|(m.T t).hw 1).tv t
def Dm.ready(m:Dm)(t:Nat)(v:B.V):Dm:=if 0<=(m.T t).into then(m.vZ t).dM t (qE m t) ((qz m t).set (m.T t).into.toNat v) else m.vZ t
def Dt.wt(x:Dt)(how what:Nat)(into:Int)(k:Nat):Dt:={x with how:=how,what:=what,into:=into,jI:=k}
def Dm.wait(m:Dm)(t how what:Nat)(into:Int):Dm:={m.dy t ((m.T t).wt how what into<|m.jI+1) with jI:=m.jI+1}
def Dt.end(x:Dt)(v:B.V):Dt:={x with how:=5,fr:=[],out:=v}
def Dm.gone(m:Dm)(t kind:Nat)(x:Int)(v:B.V):Dm:=((m.dy t<|(m.T t).end v).fI<|m.q.filter<|λu=>decide (u≠t)).told kind t x
def Dm.pop(m:Dm)(t:Nat):Dm:=m.dy t<|(m.T t).mR (m.T t).fr.dropLast
def Dm.push(m:Dm)(t:Nat)(f:jq):Dm:=m.dy t<|(m.T t).mR<|(m.T t).fr++[f]
def Dm.born(m:Dm)(f:Nat)(u v:B.V):Dm:={m with nt:=m.nt+1,T:=λt=>if t=m.nt+1 then⟨[⟨f,0,iz u v,(0,0,0,0)⟩],1,0,0,0,0,(0,0)⟩ else m.T t,q:=m.q++[m.nt+1]}
def Dc.born(c:Dc):Dc:={c with all:=c.all+1,sure:=c.sure+1,kL:=c.kL+1}
def Dm.cell(m:Dm)(ty:Nat)(l:List B.V):Dm:={m with nc:=m.nc+1,M:=λc=>if c=m.nc+1 then l else m.M c,ck:=λc=>if c=m.nc+1 then ty else m.ck c,G:=m.G.born}
def Dm.put(m:Dm)(a i:Nat)(v:B.V):Dm:={m with M:=λc=>if c=a then(m.M a).set i v else m.M c}
def Dm.fR(m:Dm)(k:Nat)(l:List Nat):Dm:={m with fA:=λi=>if i=k then l else m.fA i}
def Dm.gw(m:Dm)(c:Int):Dm:={m with clk:=c}
def Dm.jB(m:Dm)(c:Dc):Dm:={m with G:=c}
def Dm.Bk(m:Dm):Dm:={m with sp:=true}
def LN(m:Dm)(how what b:Nat):Prop:=
 (b=0/\∀u,nF m u->¬((m.T u).how=how/\(m.T u).what=what))\/(nF m b/\(m.T b).how=how/\(m.T b).what=what/\∀u,nF m u->(m.T u).how=how->(m.T u).what=what->(m.T b).jI<=(m.T u).jI)
def zE(x y:Dt):Prop:=x.me<y.me\/(x.me=y.me/\x.jI<=y.jI)
def LO(m:Dm)(b:Nat):Prop:=
 (b=0/\∀u,nF m u->¬((m.T u).how=2/\(m.T u).me<=m.clk))\/(nF m b/\(m.T b).how=2/\(m.T b).me<=m.clk/\∀u,nF m u->(m.T u).how=2->(m.T u).me<=m.clk->zE (m.T b) (m.T u))
def DW(P:Nat->Prop)(N:Nat):Prop:=∃l:List Nat,l.Nodup/\(∀t,t∈l↔P t)/\N=l.length
def GR(m:Dm)(N:Nat):Prop:=DW (λt=>nF m t/\(m.T t).how≠5) N
theorem DW.uniq{P Q:Nat->Prop}{N K:Nat}(h:DW P N)(k:DW Q K)(e:∀t,P t↔Q t):N=K:=by
 obtain⟨l,i,u,rfl⟩:=h;obtain⟨r,o,y,rfl⟩:=k;grind[List.Perm.length_eq,List.perm_ext_iff_of_nodup]
theorem gn(m:Dm)(t:Nat)(x:Dt):(m.dy t x).T t=x:=bf rfl
theorem fZ(m:Dm){t u:Nat}(x:Dt)(h:u≠t):(m.dy t x).T u=m.T u:=av h
theorem kj(m:Dm)(t:Nat)(x y:Dt):(m.dy t x).dy t y=m.dy t y:=by
 unfold Dm.dy;grind
theorem nj{l:List jq}{i j:Nat}{f:jq}(hi:i<l.length):(l.set i f).getD j oD=if j=i then f else l.getD j oD:=by
 grind
end D
section
namespace B
variable {on:Nat->Bool}
theorem zZ{on on':Nat->Bool} (h:∀ p,on' p=true->on p=true):∀ n,jW on n<=jW on' n
  |0=>bm _
  | n+1=>by
    have:=zZ h n
    grind[jW,B.jW.eq_2]
theorem E9{on':Nat->Bool}(h:∀p,on' p=true->on p=true)(n:Nat):jo on' n<=jo on n:=by
 have:=zZ h n;grind[kY]
theorem Fa{n q:Nat}(i:1<=q)(o:q<=n)(e:on q=false):jo (mark on q) n=jo on n+1:=by
 have:=sv on q i e n o;grind[kY,mark]
theorem Ih{n:Nat}(h:∀p,1<=p->p<=n->on p=true):jo on n=n:=by
 have i:=tg (on:=on) (n:=n) ((List.range n).map (· + 1)) (List.pairwise_map.2 (List.Pairwise.imp (fun {a b} h e=>h af) List.nodup_range)) (λp hp=>by
  grind)
 have:=kY on n;grind
end B
namespace D
open Go.RowKit
structure Nn(n:Nat) (kd:B.Kd) (M:Nat->List B.V) (G:Dc):Prop where
 un:G.eL=wrap64 kd.un
 cc:G.qH=wrap64 kd.cc
 fo:kd.fo=0
 lo:G.sure<=B.jo kd.on n
 hi:B.jo kd.on n<=G.kL
 bg:G.bg=kd.cy.isSome
 cy:∀c,kd.cy=some c->∃L:Nat,G.kR=L/\B.sE n M c G.sure L
structure Nm(n K:Nat) (kd:B.Kd) (M:Nat->List B.V) (G:Dc):Prop where
 b:kd.fo<=K
 u:∃x:Nat,x<=kd.un/\G.eL=wrap64 x
 c:∃x:Nat,x<=kd.cc/\G.qH=wrap64 x
 e:G.fu=false->Nn n kd M G
section
variable {n K:Nat}{kd kd1:B.Kd}{M:Nat->List B.V}{G:Dc}
theorem Nm.mono(h:Nm n K kd M G){K':Nat}(hK:K<=K'):Nm n K' kd M G:=⟨dQ h.b hK,h.u,h.c,h.e⟩
theorem Nm.told(h:Nm n K kd M G){L:List B.V}(Y:B.kQ kd n L M){p:Nat}(i:Nat){v:B.V}(hp:B.nz L M p)(Z:B.px L M v):Nm n K (B.told kd<|(M p).getD i (0,0)) (B.lay M p<|(M p).set i v) G:=by
 refine⟨h.b,h.u,h.c,λhf=>?_⟩;have hn:=h.e hf;refine⟨hn.un,hn.cc,hn.fo,hn.lo,hn.hi,hn.bg.trans (by grind[B.told]),λc hc=>?_⟩;have y:kd.cy.map (λc:B.Cy=>(⟨(B.seen c.m c.st<|(M p).getD i (0,0)).1,(B.seen c.m c.st<|(M p).getD i (0,0)).2,c.nx⟩:B.Cy))=some c:=hc;rw[Option.map_eq_some_iff]at y;obtain⟨c0,H,rfl⟩:=y;let⟨hx,T,hT,J⟩:=Y.h3 c0 H;have J:B.gE kd.on n M c0 T:=J;let⟨L',e,hN⟩:=hn.cy c0 H;refine⟨L',e,hN.told J (λo=>?_)<|J.put i (hT p hp) (Z.Al Y)<|λo=>hT _<|Z.vS o⟩;by_cases hi:i<(M p).length
 .rw[cw,bw hi]at o⊢;exact(B.nJ Y<|B.lU hp (List.getElem_mem hi) o).2.2
 grind
theorem Nm.laid(h:Nm n K kd M G){L l:List B.V}(Z:B.kQ kd n L M){q:Nat}(J:1<=q)(W:q<=n)(H:kd.on q=false)(Y:∀v,v∈l->B.px L M v):Nm n K (B.laid kd q) (B.lay M q l) G.born:=by
 refine⟨h.b,h.u,h.c,λhf=>?_⟩;have hn:=h.e hf;have ho:=B.Fa J W H;refine⟨hn.un,hn.cc,hn.fo,?_,?_,hn.bg.trans (by grind[B.laid]),λc hc=>?_⟩
 .show G.sure+1<=B.jo (B.mark kd.on q) n;have:=hn.lo;omega
 .show B.jo (B.mark kd.on q) n<=G.kL+1;have:=hn.hi;omega
 have i:kd.cy.map (λc:B.Cy=>(⟨B.mark c.m q,c.st,c.nx⟩:B.Cy))=some c:=hc;rw[Option.map_eq_some_iff]at i;obtain⟨c0,o,rfl⟩:=i;let⟨hx,T,hT,y⟩:=Z.h3 c0 o;have y:B.gE kd.on n M c0 T:=y;let⟨L',e,hN⟩:=hn.cy c0 o;exact⟨L',e,hN.laid y J W H<|y.new J W H<|λu hu=>⟨(Y u hu).Al Z,λh0=>hT _<|(Y u hu).vS h0⟩⟩
def NP:wrap64 0=0:=by simp[wrap64]
theorem Om(n K:Nat)(M:Nat->List B.V):Nm n K B.tX M ⟨0,false,0,0,0,0,0,false⟩:=
 ⟨di _,⟨0,bm _,NP.symm⟩,⟨0,bm _,NP.symm⟩,λ_=>⟨NP.symm,NP.symm,rfl,di _,by
  show B.jo (λ_=>false) n<=0;grind[B.jo,B.sw],rfl,λc e=>by cases e⟩⟩
theorem Nm.full(h:Nm n K kd M G){G':Dc}(J:G'.fu=true)(y:G'.eL=G.eL)(H:G'.qH=G.qH){M':Nat->List B.V}(i:kd1.un=kd.un)(o:kd1.cc=kd.cc)(W:kd1.fo<=kd.fo+1):Nm n (K+1) kd1 M' G':=
 ⟨gD h.b,by rw[y,i];exact h.u,by rw[H,o];exact h.c,λe=>by grind⟩
theorem Nm.less(h:Nm n K kd M G)(o:G.fu=false)(H:G.kL<n):∃p,1<=p/\p<=n/\kd.on p=false:=by
 refine Classical.byContradiction λi=>?_;have:=B.Ih (on:=kd.on) (n:=n) (λp y u=>by
  grind)
 have:=(h.e o).hi;omega
end
end D
